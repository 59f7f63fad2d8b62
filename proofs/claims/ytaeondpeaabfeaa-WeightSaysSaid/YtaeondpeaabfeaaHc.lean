/- The walk of the reference's Parts. -/
import Derived.Test.YtaeondpeaabfeaaHb
namespace Go.Proofs.Ytaeondpeaabfeaa
open Go.RowKit Go.Sort

theorem OwnI.head {w : World} {base : Nat} {e : TypeId} {v : Value} {l : List Int} (h : OwnI .i64 w base e v l) (h0 : 0 < l.length) : ∃ g cap, v = .slice (some ⟨g, 0, none⟩) l.length cap ∧ base ≤ g ∧ g < w.heap.size ∧ RowAt w g l := by
  rcases h.2 with ⟨_, h2⟩ | ⟨g, cap, cur, h1, h2, h3, _⟩
  · omega
  · subst h1
    have hlt := World.ownsRow.lt h g rfl
    refine ⟨g, cap, rfl, h2, hlt.2, ?_⟩
    intro j z hj
    obtain ⟨hj1, hj2⟩ := List.getElem?_eq_some_iff.1 hj
    subst hj2
    exact ⟨h.cellAt j hj1, h.frozenAt j⟩

/-- While the reference lays its shares. -/
def RShAt (w : World) (l : List Int) (n : Int) (k : Nat) (v : Value) (rest : Int) (wr : World) : Prop :=
  (k ≤ l.length ∧ rest = n - ((shL l n).take k).sum) ∧ OwnI .i64 wr w.heap.size 2 v ((shL l n).take k) ∧ Below w.heap.size w wr
theorem rest_bound {l : List Int} {n rest : Int} {k : Nat} (h1 : rest = n - ((shL l n).take k).sum) (hb : totB l = true) (hn : 0 ≤ n) (hn2 : n ≤ 1099511627776) : -100000000000000 ≤ rest ∧ rest ≤ 1099511627776 := by
  have h2 := (totB_true.1 hb).1
  have h3 : ∀ z ∈ (shL l n).take k, 0 ≤ z ∧ z ≤ n := fun z hz => shL_le l n hb hn z (List.mem_of_mem_take hz)
  have h4 := sum_map_le ((shL l n).take k) id n h3
  rw [List.map_id] at h4
  have h5 : ((shL l n).take k).length ≤ 64 := by rw [List.length_take, shL_length]; omega
  have h6 : n * (((shL l n).take k).length : Int) ≤ 1099511627776 * 64 := Int.mul_le_mul hn2 (by omega) (by omega) (by omega)
  omega

/-- While the reference hands out what is left: t have been taken. -/
def RefAt (w : World) (l : List Int) (n : Int) (g g2 t : Nat) (wr : World) : Prop :=
  RowAt wr g (bumps (shL l n) ((placeL (ofL l n)).take t)) ∧ BRow wr g2 (doneL (ofL l n) t) ∧ (w.heap.size ≤ g ∧ g < g2 ∧ g2 < wr.heap.size) ∧ Below w.heap.size w wr ∧ (∀ z ∈ bumps (shL l n) ((placeL (ofL l n)).take t), 0 ≤ z ∧ z ≤ n + (t : Int))
theorem RefAt.drewN {w : World} {l : List Int} {n : Int} {g g2 t : Nat} {wr : World} (h : RefAt w l n g g2 t wr) (q : Nat) : RefAt w l n g g2 t (wr.drewN q) := ⟨h.1, h.2.1, h.2.2.1, below_drewN h.2.2.2.1 q, h.2.2.2.2⟩
theorem RefAt.next {w : World} {l : List Int} {n : Int} {g g2 t : Nat} {wr : World} (h : RefAt w l n g g2 t wr) (ht : t < l.length) (hn : 0 ≤ n) (b : Nat) (hb : b = (placeL (ofL l n))[t]'(by rw [placeL_length, ofL_length]; exact ht)) (x : Int) (hx : x = (bumps (shL l n) ((placeL (ofL l n)).take t)).getD b 0) :
    RefAt w l n g g2 (t + 1) ((wr.setCell ⟨g2, b, none⟩ (.bool true)).setCell ⟨g, b, none⟩ (.int .i64 (x + 1))) := by
  obtain ⟨h1, h2, ⟨h3, h4, h5⟩, h6, h7⟩ := h
  have ht2 : t < (ofL l n).length := by rw [ofL_length]; exact ht
  unfold RefAt
  rw [place_take _ t ht2, ← hb, bumps_snoc, ← doneL_set _ t ht2, ← hb]
  refine ⟨?_, ?_, ⟨h3, h4, by simpa using h5⟩, (h6.setCell (by simp; omega) _).setCell (by simp; omega) _, ?_⟩
  · unfold bump; rw [← hx]; exact (h1.other (by omega) _).stored (x + 1)
  · exact (h2.stored true).other (by omega) _
  · have := bump_le _ b (n + t) h7 (by omega)
    intro z hz
    have := this z hz
    omega

/-- What the reference's Parts hands back. -/
def RefRet (w : World) (l : List Int) (n : Int) (e : Ending) (w' : World) : Prop :=
  ∃ g cap, e = .returned (.slice (some ⟨g, 0, none⟩) l.length cap) ∧ g < w'.heap.size ∧ RowAt w' g (partsL l n) ∧ Below w.heap.size w w'

/-- How the reference reckons by how much a share is off: step by step. -/
theorem off_steps (l : List Int) (n : Int) (hb : totB l = true) (hn : 0 ≤ n) (hn2 : n ≤ 1099511627776) (k : Nat) (hk : k < l.length) :
    ∃ p1 p2 p3, IntKind.i64.wrap (n * l[k] / l.sum * l.sum) = p1 ∧ IntKind.i64.wrap (n * l[k]) = p2 ∧ (IntKind.i64.wrap (p1 - p2) = p3 ∧ (ofL l n)[k]'(by rw [ofL_length]; exact hk) = p3) := by
  refine ⟨_, _, _, rfl, rfl, rfl, ?_⟩
  have h := offV_of l n hb hn hn2 k hk
  rw [offV_yes (fair_of l n hb hn _ (List.getElem_mem hk))] at h
  rw [ofL_at l n k hk, ← h]
  simp only [IntKind.wrap_i64]
  unfold wrap64
  omega

set_option maxHeartbeats 4000000 in
set_option maxRecDepth 100000 in
theorem parts_ref (A : Option Addr) (c : Nat) (l : List Int) (n : Int) (w : World) (hr : IRow .i64 w w.heap.size A l) (hb : partsB l n = true) :
    Calls Try.prog 22 #[.slice A l.length c, .int .i64 n] w (RefRet w l n) := by
  obtain ⟨hb1, hb2, hb3, hb4⟩ := partsB_true.1 hb
  have h64 := (totB_true.1 hb1).1
  have hc := Lib.hid (total_ref A c _ l w (by omega) hr)
  rw [hb1, totV_yes hb1] at hc
  obtain ⟨i0, hi0, hz0, hz1, hz2⟩ := info_parts info_i64
  obtain ⟨i1, hi1, hy0, hy1, hy2⟩ := info_parts info_bool
  have HR := Lib.hid hr
  have HB := Lib.hid hb1
  clear hr hb hb1
  obtain ⟨T, hT⟩ : ∃ T, T = l.sum := ⟨_, rfl⟩
  rw [← hT] at hc
  have HT := Lib.hid hT
  obtain ⟨m, hm⟩ : ∃ m, m = l.length := ⟨_, rfl⟩
  rw [← hm] at hc hb2 h64 ⊢
  have HM := Lib.hid hm
  clear hT hm
  have hm0 : ((m : Int) == 0) = false := beq_eq_false_iff_ne.2 (by omega)
  have hn0 : decide (n < 0) = false := decide_eq_false (by omega)
  have hn1 : decide (1099511627776 < n) = false := decide_eq_false (by omega)
  have HS : Hid (RShAt w l n 0 (.slice none 0 0) n w) := Lib.hid ⟨⟨by omega, by simp⟩, OwnI.nil _ _ _ _, Below.refl _ _⟩
  go_enter Try.func22, Try.ntmps22
  go_wp2_with (go_at_call 17; refine hc.out.mono ?_; rintro e w' ⟨rfl, rfl⟩)
  go_loopw [7, 8, 9] (fun vr vl vi wr => ∃ (k : Nat) (rest : Int), vi = .int .i64 k ∧ vl = .int .i64 rest ∧ k ≤ m ∧ Hid (RShAt w l n k vr rest wr)) (fun _ _ vi _ => m - (intOf vi).toNat)
  case atStart => exact ⟨0, n, rfl, rfl, by omega, HS⟩
  case round =>
    clear HS hc
    obtain ⟨k, rest, rfl, rfl, hk, HI⟩ := hrel
    obtain ⟨⟨_, hrest⟩, hown, hbel⟩ := HI.out
    have HOWN := Lib.hid hown
    have HBEL := Lib.hid hbel
    have HREST := Lib.hid hrest
    obtain ⟨hr1, hr2⟩ := rest_bound hrest HB.out hb3 hb4
    clear HI hown hbel hrest
    by_cases hlt : k < m
    · have hkl : k < l.length := by rw [← HM.out]; exact hlt
      obtain ⟨ad, rfl, _, hcell⟩ := (HR.out.below HBEL.out).at hkl
      obtain ⟨x, hx⟩ : ∃ x, x = l[k] := ⟨_, rfl⟩
      rw [← hx] at hcell
      obtain ⟨s, hs⟩ : ∃ s, s = n * l[k] / l.sum := ⟨_, rfl⟩
      have hcs := Lib.hid (share_ref x T n wr (by omega))
      rw [HT.out, hx, shareV_of l n HB.out hb3 k hkl, ← hs, ← hx, ← HT.out] at hcs
      have hsb : 0 ≤ s ∧ s ≤ n := by
        have := share_le (fair_of l n HB.out hb3 _ (List.getElem_mem hkl))
        rw [← hs] at this; exact this
      obtain ⟨hs1, hs2⟩ := hsb
      have htk : Hid ((shL l n).take (k + 1) = (shL l n).take k ++ [s]) := Lib.hid (by
        rw [List.take_add_one, List.getElem?_eq_getElem (by rw [shL_length]; exact hkl), shL_at l n k hkl, ← hs]; rfl)
      have htl : Hid (((shL l n).take k).length = k) := Lib.hid (by rw [List.length_take, shL_length]; omega)
      clear hx hs
      go_wp2_with fail
      refine hcs.out.mono ?_
      rintro e w1 ⟨rfl, hb5⟩
      have HB5 := Lib.hid hb5
      have hsz := HBEL.out.size
      have hsz1 := hb5.size
      clear hb5 hcs
      go_wp2_with (at_builtin; refine wpList_app1 rfl _ _ 30 rfl w.heap.size 2 i0 8 0 Try.underlying30 hi0 hz0 hz1 hz2 _ ((shL l n).take k) rfl (HOWN.out.below HB5.out (Nat.le_refl _)) s rfl (by rw [htl.out]; omega) (by decide) (by omega) ?_; intro v' w2 hown1 hbel1; rw [← htk.out] at hown1; obtain ⟨A2, c2, rfl, _, _, hr2⟩ := hown1.form; obtain ⟨ad2, rfl, _, hcell2⟩ := hr2 k s (by rw [htk.out, List.getElem?_append_right (by rw [htl.out]; omega), htl.out]; simp); have HOWN1 := Lib.hid hown1; have HBEL1 := Lib.hid hbel1; have hlen : Hid (((shL l n).take (k + 1)).length = k + 1) := Lib.hid (by rw [List.length_take, shL_length]; omega); rw [hlen.out] at HOWN1; rw [hlen.out]; clear hown1 hbel1 hr2)
      have HN : Hid (RShAt w l n (k + 1) (.slice (some ad2) (k + 1) c2) (rest - s) w2) := Lib.hid (by
        refine ⟨⟨by omega, ?_⟩, HOWN1.out, (HBEL.out.trans (HB5.out.mono hsz)).trans HBEL1.out⟩
        rw [htk.out, List.sum_append, HREST.out]; simp; omega)
      clear HOWN1 HBEL1 HB5 HOWN HBEL HREST
      go_roundw
      case rel => first | exact ⟨k + 1, rest - s, by go_num, rfl, by omega, HN⟩ | ((repeat apply Exists.intro); exact ⟨⟨k + 1, rest - s, by go_num, rfl, by omega, HN⟩, rfl⟩)
      case measure => simp [intOf]; omega
    · have hkm : k = m := by omega
      subst hkm
      have e1 : (shL l n).take k = shL l n := by rw [HM.out, ← shL_length l n, List.take_length]
      have hrest := HREST.out
      have hown := HOWN.out
      rw [e1] at hrest hown
      obtain ⟨g, cap, hv, hg1, hg2, hrow⟩ := hown.head (by rw [shL_length, ← HM.out]; exact hb2)
      rw [shL_length, ← HM.out] at hv
      subst hv
      have hlb := left_bound l n HB.out (by rw [← HM.out]; exact hb2)
      rw [← hrest, ← HM.out] at hlb
      obtain ⟨R, hR⟩ := Int.eq_ofNat_of_zero_le hlb.1
      have hRk : R < k := by omega
      have HRe : Hid (n - (shL l n).sum = (R : Int)) := Lib.hid (by rw [← hrest]; exact hR)
      subst hR
      have HROW := Lib.hid hrow
      have hsz := HBEL.out.size
      clear hown hrow hrest hlb e1 HOWN HREST
      go_wp2_with (refine wpList_make_full wr rfl _ _ 41 rfl w.heap.size 4 i1 (.bool false) 1 Try.underlying41 hi1 hy0 hy1 .i64 .i64 _ _ k rfl rfl (by omega) (by omega) (by rw [hy2]; omega) (by unfold maxLen; omega) hsz ?_; intro w1 hown1 hgrow1)
      have HS : Hid (RefAt w l n g wr.heap.size 0 w1) := Lib.hid (by
        have b1 : Below wr.heap.size wr w1 := (Below.refl _ _).grown hgrow1 (Nat.le_refl _) (by simp)
        refine ⟨HROW.out.below b1 hg2, ?_, ⟨hg1, hg2, (World.ownsRow.lt hown1 _ rfl).2⟩, HBEL.out.trans (b1.mono hsz), ?_⟩
        · rw [doneL_zero, ofL_length, ← HM.out]; exact made_falses hown1
        · intro z hz; have := shL_le l n HB.out hb3 z hz; omega)
      obtain ⟨g2, hg2e⟩ : ∃ g2, g2 = wr.heap.size := ⟨_, rfl⟩
      rw [← hg2e] at HS ⊢
      have hgg : g < g2 := by rw [hg2e]; exact hg2
      clear hown1 hgrow1 hg2e hg2 HROW HBEL hsz
      go_loopw [8] (fun vl wr => ∃ t : Nat, vl = .int .i64 ((R : Int) - (t : Int)) ∧ t ≤ R ∧ Hid (RefAt w l n g g2 t wr)) (fun vl _ => (intOf vl).toNat)
      case atStart => exact ⟨0, by congr 1 <;> omega, by omega, HS⟩
      case round =>
        clear HS
        obtain ⟨t, rfl, ht, HI⟩ := hrel
        by_cases hlt : t < R
        · have hz : (0 : Int) < (R : Int) - (t : Int) := by omega
          have hz' : (t : Int) < (R : Int) := by omega
          go_wp2_with fail
          go_loopw [11, 12] (fun vb vi wr2 => ∃ (i q : Nat) (best : Int), vi = .int .i64 i ∧ vb = .int .i64 best ∧ i ≤ k ∧ Hid (MinAt (ofL l n) ((placeL (ofL l n)).take t) i best) ∧ wr2 = wr.drewN q) (fun _ vi _ => k - (intOf vi).toNat)
          case atStart => exact ⟨0, 0, -1, rfl, rfl, by omega, Lib.hid (MinAt.start _ _), rfl⟩
          case round =>
            obtain ⟨i, q, best, rfl, rfl, hi, HMin, rfl⟩ := hrel
            by_cases hlti : i < k
            · have hil : i < l.length := by rw [← HM.out]; exact hlti
              have hio : i < (ofL l n).length := by rw [ofL_length]; exact hil
              have cd := (HI.out.2.1.at (show i < (doneL (ofL l n) t).length by rw [doneL_length]; exact hio)).1
              rw [doneL_at _ t i hio] at cd
              by_cases hd : i ∈ (placeL (ofL l n)).take t
              · rw [decide_eq_true hd] at cd
                have HN := Lib.hid (HMin.out.skip hd)
                clear hd HMin
                go_wp2_with fail
                go_quiet (fail)
                go_wp2_with fail
                go_roundw
                case rel => exact ⟨i + 1, _, best, by go_num, rfl, by omega, HN, rfl⟩
                case measure => simp [intOf]; omega
              · rw [decide_eq_false hd] at cd
                have HDi := Lib.hid hd
                rcases HMin.out.form with hbe | ⟨b, hbe, hbi, hbd⟩
                · subst hbe
                  have HN := Lib.hid (HMin.out.first (by omega) hd hio)
                  clear hd HMin
                  go_wp2_with fail
                  go_quiet (fail)
                  go_wp2_with fail
                  go_roundw
                  case rel => exact ⟨i + 1, _, (i : Int), by go_num, rfl, by omega, HN, rfl⟩
                  case measure => simp [intOf]; omega
                · subst hbe
                  have hbl : b < l.length := by omega
                  have hbo : b < (ofL l n).length := by rw [ofL_length]; exact hbl
                  have cri := (HI.out.1 i _ (bumps_not l n t i hil hd)).1
                  have crb := (HI.out.1 b _ (bumps_not l n t b hbl hbd)).1
                  obtain ⟨ad, rfl, _, cli⟩ := (HR.out.below HI.out.2.2.2.1).at hil
                  obtain ⟨ad', ade, _, clb⟩ := (HR.out.below HI.out.2.2.2.1).at hbl
                  obtain rfl : ad = ad' := by injection ade
                  clear ade
                  obtain ⟨p1, p2, p3, e1, e2, e3⟩ := off_steps l n HB.out hb3 hb4 i hil
                  obtain ⟨r1, r2, r3, f1, f2, f3⟩ := off_steps l n HB.out hb3 hb4 b hbl
                  have hcmp : (ofL l n)[i] < (ofL l n)[b] ↔ p3 < r3 := by rw [e3.2, f3.2]
                  replace e3 := e3.1
                  replace f3 := f3.1
                  rw [← HT.out] at e1 f1 cri crb
                  have hbz : ¬ ((b : Int) < 0) := by omega
                  have hbz' : decide ((b : Int) < 0) = false := decide_eq_false hbz
                  have hbz2 : (0 : Int) ≤ (b : Int) := by omega
                  have hbk : (b : Int) < (k : Int) := by omega
                  have hbk2 : b < k := by omega
                  obtain ⟨si, hsi⟩ : ∃ s, s = n * l[i] / T := ⟨_, rfl⟩
                  obtain ⟨sb, hsb⟩ : ∃ s, s = n * l[b] / T := ⟨_, rfl⟩
                  rw [← hsi] at cri e1
                  rw [← hsb] at crb f1
                  obtain ⟨xi, hxi⟩ : ∃ x, x = l[i] := ⟨_, rfl⟩
                  obtain ⟨xb, hxb⟩ : ∃ x, x = l[b] := ⟨_, rfl⟩
                  rw [← hxi] at cli e2
                  rw [← hxb] at clb f2
                  clear hsi hsb hxi hxb
                  by_cases hc : p3 < r3
                  · have HN := Lib.hid (HMin.out.better hd hio hbo (hcmp.2 hc))
                    have hdc : decide (p3 < r3) = true := decide_eq_true hc
                    clear hd HMin hcmp hbd
                    go_wp2_with fail
                    go_quiet (fail)
                    go_wp2_with fail
                    go_roundw
                    case rel => exact ⟨i + 1, _, (i : Int), by go_num, rfl, by omega, HN, rfl⟩
                    case measure => simp [intOf]; omega
                  · have HN := Lib.hid (HMin.out.keep hio hbo (fun h => hc (hcmp.1 h)))
                    have hdc : decide (p3 < r3) = false := decide_eq_false hc
                    clear hd HMin hcmp hbd
                    go_wp2_with fail
                    go_quiet (fail)
                    go_wp2_with fail
                    go_roundw
                    case rel => exact ⟨i + 1, _, (b : Int), by go_num, rfl, by omega, HN, rfl⟩
                    case measure => simp [intOf]; omega
            · have hik : i = k := by omega
              have htl : t < l.length := by rw [← HM.out]; omega
              have hto : t < (ofL l n).length := by rw [ofL_length]; exact htl
              have hmin := HMin.out
              rw [hik, HM.out, ← ofL_length l n] at hmin
              have hbest := hmin.done hto
              obtain ⟨b, hb⟩ : ∃ b, b = (placeL (ofL l n))[t]'(by rw [placeL_length]; exact hto) := ⟨_, rfl⟩
              rw [← hb] at hbest
              subst hbest
              have hbk : b < k := by
                have := placeL_lt _ _ (List.getElem_mem (show t < (placeL (ofL l n)).length by rw [placeL_length]; exact hto))
                rw [← hb, ofL_length, ← HM.out] at this; exact this
              have hbz : (b : Int) < (k : Int) := by omega
              obtain ⟨y1, y2, ⟨y3, y4, y5⟩, y6, y7⟩ := HI.out
              have hbd : b < (doneL (ofL l n) t).length := by rw [doneL_length, ofL_length, ← HM.out]; exact hbk
              have cd := (y2.at hbd).1
              have fd := (y2.at hbd).2
              have hbr : b < (bumps (shL l n) ((placeL (ofL l n)).take t)).length := by rw [bumps_length, shL_length, ← HM.out]; exact hbk
              have cr := (y1.at hbr).1
              have fr := (y1.at hbr).2
              obtain ⟨hx0, hx1⟩ := y7 _ (List.getElem_mem hbr)
              obtain ⟨x, hx⟩ : ∃ x, x = (bumps (shL l n) ((placeL (ofL l n)).take t))[b] := ⟨_, rfl⟩
              rw [← hx] at cr hx0 hx1
              have HX := Lib.hid ((HI.out.drewN q).next htl hb3 b hb x (by rw [hx, List.getD_eq_getElem?_getD, List.getElem?_eq_getElem hbr]; rfl))
              generalize (doneL (ofL l n) t)[b] = dv at cd
              have hne : ¬ g2 = g := by omega
              have hne2 : ¬ g = g2 := by omega
              clear y1 y2 y3 y4 y5 y6 y7 hbd hbr hx hmin HMin hb hik hto
              go_wp2_with fail
              go_roundw
              case rel => first | exact ⟨t + 1, by congr 1; omega, by omega, HX⟩ | ((repeat apply Exists.intro); exact ⟨⟨t + 1, by congr 1; omega, by omega, HX⟩, rfl⟩)
              case measure => simp [intOf]; omega
        · have htR : t = R := by omega
          have hz : ¬ (0 : Int) < (R : Int) - (t : Int) := by omega
          have hz' : ¬ (t : Int) < (R : Int) := by omega
          have HE : Hid (g < wr.heap.size ∧ RowAt wr g (partsL l n) ∧ Below w.heap.size w wr) := Lib.hid (by
            obtain ⟨y1, y2, ⟨y3, y4, y5⟩, y6, y7⟩ := HI.out
            refine ⟨by omega, ?_, y6⟩
            rw [partsL_eq, HRe.out, Int.toNat_natCast, ← htR]; exact y1)
          clear HI htR
          go_wp2_with fail
          go_ret
          exact ⟨g, cap, by rw [← HM.out]; rfl, HE.out⟩
end Go.Proofs.Ytaeondpeaabfeaa
