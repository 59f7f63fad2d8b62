/- The walk of weight.Parts. -/
import Derived.Test.YtaeondpeaabfeaaPb
namespace Go.Proofs.Ytaeondpeaabfeaa
open Go.RowKit Go.Sort

theorem shareV_of (l : List Int) (n : Int) (hb : totB l = true) (hn : 0 ≤ n) (k : Nat) (hk : k < l.length) : shareV l[k] l.sum n = n * l[k] / l.sum := shareV_yes (fair_of l n hb hn _ (List.getElem_mem hk))
theorem offV_of (l : List Int) (n : Int) (hb : totB l = true) (hn : 0 ≤ n) (hn2 : n ≤ 1099511627776) (k : Nat) (hk : k < l.length) : offV l[k] l.sum n (n * l[k] / l.sum) = n * l[k] / l.sum * l.sum - n * l[k] := by
  have hf := fair_of l n hb hn _ (List.getElem_mem hk)
  obtain ⟨h1, h2, h3, h4, h5⟩ := fairB_true.1 hf
  rw [offV_yes hf]
  have m1 : n * l[k] ≤ 1099511627776 * 20 := Int.mul_le_mul hn2 h2 (by omega) (by omega)
  have m0 : 0 ≤ n * l[k] := Int.mul_nonneg hn (by omega)
  have d1 := Int.emod_add_mul_ediv (n * l[k]) l.sum
  have d2 := Int.emod_nonneg (n * l[k]) (show l.sum ≠ 0 by omega)
  have d3 := Int.emod_lt_of_pos (n * l[k]) (show 0 < l.sum by omega)
  have e1 : n * l[k] / l.sum * l.sum = n * l[k] - n * l[k] % l.sum := by rw [Int.mul_comm]; omega
  rw [e1]
  unfold wrap64
  omega

set_option maxHeartbeats 4000000 in
set_option maxRecDepth 100000 in
theorem parts_c (A : Option Addr) (c : Nat) (l : List Int) (n : Int) (w : World) (hr : IRow .i64 w w.heap.size A l) (hb : partsB l n = true) :
    Calls Try.prog 15 #[.slice A l.length c, .int .i64 n] w (PartsPost w l n) := by
  obtain ⟨hb1, hb2, hb3, hb4⟩ := partsB_true.1 hb
  have h64 := (totB_true.1 hb1).1
  have hc := Lib.hid (total_c A l.length c _ l w rfl (by omega) hr)
  rw [hb1, totV_yes hb1] at hc
  obtain ⟨i0, hi0, hz0, hz1, hz2⟩ := info_parts info_i64p
  have HR := Lib.hid hr
  have HB := Lib.hid hb1
  clear hr hb hb1
  obtain ⟨T, hT⟩ : ∃ T, T = l.sum := ⟨_, rfl⟩
  rw [← hT] at hc
  have HT := Lib.hid hT
  obtain ⟨m, hm⟩ : ∃ m, m = l.length := ⟨_, rfl⟩
  rw [← hm] at hc hb2 h64 ⊢
  have HM := Lib.hid hm
  clear hT hm
  have hm0 : ((m : Int) == 0) = false := beq_eq_false_iff_ne.2 (by omega)
  go_enter Try.func15, Try.ntmps15
  go_wp2_with (first
    | (go_at_call 12; refine hc.out.mono ?_; rintro e w' ⟨rfl, rfl⟩)
    | ((with_reducible refine wpList_make_full w rfl _ _ 30 rfl w.heap.size 2 i0 (.int .i64 0) 1 Try.underlying30 hi0 hz0 hz1 .i64 .i64 _ _ m rfl rfl (by omega) (by omega) (by rw [hz2]; omega) (by unfold maxLen; omega) (by simp) ?_); intro w1 hown1 hgrow1)
    | (refine wpList_make_full _ rfl _ _ 30 rfl (w.heap.size + 1) 2 i0 (.int .i64 0) 1 Try.underlying30 hi0 hz0 hz1 .i64 .i64 _ _ m rfl rfl (by omega) (by omega) (by rw [hz2]; omega) (by unfold maxLen; omega) (by have := World.ownsRow.lt hown1 _ rfl; omega) ?_; intro w2 hown2 hgrow2))
  have hg2 := World.ownsRow.lt hown1 _ rfl
  have HS : Hid (ShAt w l n w1.heap.size 0 n w2) := Lib.hid (by
    have b1 : Below w.heap.size w w1 := (Below.refl _ _).grown hgrow1 (Nat.le_refl _) (by simp)
    have b2 : Below w1.heap.size w1 w2 := (Below.refl _ _).grown hgrow2 (Nat.le_refl _) (by simp)
    have r1 := (made_zeros hown1).rowAt (by simp)
    have r2 := (made_zeros hown2).rowAt (by simp)
    have l2 := World.ownsRow.lt hown2 _ rfl
    refine ⟨⟨by omega, by simp⟩, ?_, ?_, ⟨hg2.2, l2.2⟩, b1.trans (b2.mono (by omega))⟩
    · rw [fill_zero, shL_length, ← HM.out]; exact r1.below b2 hg2.2
    · rw [fill_zero, ofL_length, ← HM.out]; exact r2)
  obtain ⟨g2, hg2e⟩ : ∃ g2, g2 = w1.heap.size := ⟨_, rfl⟩
  rw [← hg2e] at HS ⊢
  have hg3 : w.heap.size < g2 := by rw [hg2e]; exact hg2.2
  clear hown1 hgrow1 hown2 hgrow2 hg2e hg2
  clear w1
  have d1 : decide (n < 0) = false := decide_eq_false (by omega)
  have d2 : decide (1099511627776 < n) = false := decide_eq_false (by omega)
  rw [d1, d2]
  clear d1 d2
  go_loopw [43, 9] (fun vi vr wr => ∃ (k : Nat) (rest : Int), vi = .int .i64 k ∧ vr = .int .i64 rest ∧ k ≤ m ∧ Hid (ShAt w l n g2 k rest wr)) (fun vi _ _ => m - (intOf vi).toNat)
  case atStart => exact ⟨0, n, rfl, rfl, by omega, HS⟩
  case round =>
    clear HS
    obtain ⟨k, rest, rfl, rfl, hk, HI⟩ := hrel
    by_cases hlt : k < m
    · have hkl : k < l.length := by rw [← HM.out]; exact hlt
      obtain ⟨ad, rfl, _, hcell⟩ := (HR.out.below HI.out.2.2.2.2).at hkl
      obtain ⟨x, hx⟩ : ∃ x, x = l[k] := ⟨_, rfl⟩
      rw [← hx] at hcell
      obtain ⟨s, hs⟩ : ∃ s, s = n * l[k] / l.sum := ⟨_, rfl⟩
      obtain ⟨o, ho⟩ : ∃ o, o = n * l[k] / l.sum * l.sum - n * l[k] := ⟨_, rfl⟩
      have hcs : Hid (∀ W, Calls Try.prog 13 #[.int .i64 x, .int .i64 T, .int .i64 n] W (Drawn (.int .i64 s) W)) := Lib.hid fun W => by
        have h := share_c x T n W (by omega)
        rw [HT.out, hx, shareV_of l n HB.out hb3 k hkl, ← hs] at h
        rw [HT.out, hx]; exact h
      have hco : Hid (∀ W, Calls Try.prog 14 #[.int .i64 x, .int .i64 T, .int .i64 n, .int .i64 s] W fun e w' => e = .returned (.int .i64 o) ∧ W = w') := Lib.hid fun W => by
        have h := off_c x T n s W
        rw [HT.out, hx, hs, offV_of l n HB.out hb3 hb4 k hkl, ← ho, ← hs] at h
        rw [HT.out, hx]; exact h
      obtain ⟨hr1, hr2⟩ := HI.out.bound HB.out hb3 hb4
      have hsb : 0 ≤ s ∧ s ≤ n := by
        have := share_le (fair_of l n HB.out hb3 _ (List.getElem_mem hkl))
        rw [← hs] at this; exact this
      obtain ⟨hs1, hs2⟩ := hsb
      have HX : Hid (∀ q, Hid (ShAt w l n g2 (k + 1) (rest - s) (((wr.drewN q).setCell ⟨w.heap.size, k, none⟩ (.int .i64 s)).setCell ⟨g2, k, none⟩ (.int .i64 o)))) := Lib.hid fun q => Lib.hid (HI.out.next hkl s o hs ho q)
      obtain ⟨z1, hc1⟩ : ∃ z, wr.cell? ⟨w.heap.size, k, none⟩ = some (.int .i64 z) := ⟨_, (HI.out.2.1.at (by rw [fill_length _ _ (by rw [shL_length]; omega), shL_length]; exact hkl)).1⟩
      have hf1 : wr.frozen? ⟨w.heap.size, k, none⟩ = false := (HI.out.2.1.at (by rw [fill_length _ _ (by rw [shL_length]; omega), shL_length]; exact hkl)).2
      obtain ⟨z2, hc2⟩ : ∃ z, wr.cell? ⟨g2, k, none⟩ = some (.int .i64 z) := ⟨_, (HI.out.2.2.1.at (by rw [fill_length _ _ (by rw [ofL_length]; omega), ofL_length]; exact hkl)).1⟩
      have hf2 : wr.frozen? ⟨g2, k, none⟩ = false := (HI.out.2.2.1.at (by rw [fill_length _ _ (by rw [ofL_length]; omega), ofL_length]; exact hkl)).2
      have hne : g2 ≠ w.heap.size := by omega
      have hne2 : ¬ w.heap.size = g2 := by omega
      clear hx hs ho HI
      go_wp2_with (first
        | (go_at_call 13; refine (hcs.out _).mono ?_; rintro e w' ⟨rfl, q, rfl⟩)
        | (go_at_call 14; refine (hco.out _).mono ?_; rintro e w' ⟨rfl, rfl⟩))
      go_roundw
      case rel => (repeat apply Exists.intro); exact ⟨⟨k + 1, rest - s, by go_num, rfl, by omega, HX.out q⟩, rfl⟩
      case measure => simp [intOf]; omega
    · have hkm : k = m := by omega
      subst hkm
      obtain ⟨⟨_, hrest⟩, r1, r2, ⟨hgl, hgs⟩, hbel⟩ := HI.out
      have e1 : (shL l n).take k = shL l n := by rw [HM.out, ← shL_length l n, List.take_length]
      have e2 : fill (shL l n) k = shL l n := by rw [HM.out, ← shL_length l n, fill_all]
      have e3 : fill (ofL l n) k = ofL l n := by rw [HM.out, ← ofL_length l n, fill_all]
      rw [e1] at hrest
      rw [e2] at r1
      rw [e3] at r2
      have hlb := left_bound l n HB.out (by rw [← HM.out]; exact hb2)
      rw [← hrest, ← HM.out] at hlb
      obtain ⟨R, hR⟩ := Int.eq_ofNat_of_zero_le hlb.1
      have hRk : R < k := by omega
      have hc2 := Lib.hid (least_c (ofL l n) ⟨g2, 0, none⟩ k wr (r2.irow hgs) (by rw [ofL_length, ← HM.out]; exact hb2) (by rw [ofL_length, ← HM.out]; omega))
      rw [ofL_length, ← HM.out] at hc2
      have HX : Hid (∀ (g : Nat) (d' : Array Int) (w' : World), wr.heap.size ≤ g → g < w'.heap.size → (∀ j, j < k → w'.cell? ⟨g, j, none⟩ = some (.int .i64 d'[j]!)) → Below wr.heap.size wr w' → Hid (BuAt w l n g d' 0 w')) := Lib.hid fun g d' w' q1 q2 q3 q4 => Lib.hid
        ⟨r1.below q4 (by omega), by rw [← HM.out]; exact q3, by omega, q2, hbel.trans (q4.mono (by omega)), by intro z hz; have := shL_le l n HB.out hb3 z hz; omega⟩
      have HRe : Hid (n - (shL l n).sum = (R : Int)) := Lib.hid (by rw [← hrest]; exact hR)
      subst hR
      clear HI r1 r2 e1 e2 e3 hrest hlb hbel hgs
      go_wp2_with fail
      refine hc2.out.mono ?_
      rintro e w3 ⟨g, d', he, q1, q2, q3, q4, q5⟩
      rw [ofL_length, ← HM.out] at he q3 q4
      subst he
      have HS := HX.out g d' w3 q1 q2 q3 q5
      have HQ := Lib.hid q4
      clear q1 q2 q3 q4 q5 HX hc2
      go_wp2_with fail
      go_loopw [78] (fun vi wr => ∃ j : Nat, vi = .int .i64 j ∧ j ≤ R ∧ Hid (BuAt w l n g d' j wr)) (fun vi _ => R - (intOf vi).toNat)
      case atStart => exact ⟨0, rfl, by omega, HS⟩
      case round =>
        clear HS
        obtain ⟨j, rfl, hj, HI⟩ := hrel
        by_cases hlt : j < R
        · have hjl : j < l.length := by rw [← HM.out]; omega
          have hin : 0 ≤ d'[j]! ∧ d'[j]! < (k : Int) := permIn_all (iota k) d' 0 k (fun x => 0 ≤ x ∧ x < (k : Int)) (by rw [iota_size]; omega) HQ.out.1 (fun i _ hi => by rw [iota_at _ _ hi]; omega) j (by omega) (by omega)
          obtain ⟨i, hi⟩ := Int.eq_ofNat_of_zero_le hin.1
          have hik : i < k := by omega
          obtain ⟨y1, y2, y3, y4, y5, y6⟩ := HI.out
          have hcp := y2 j hjl
          rw [hi] at hcp
          have hil : i < (bumps (shL l n) ((d'.toList.take j).map Int.toNat)).length := by rw [bumps_length, shL_length, ← HM.out]; exact hik
          have hca := (y1.at hil).1
          have hfa := (y1.at hil).2
          have hxb := y6 _ (List.getElem_mem hil)
          obtain ⟨x, hx⟩ : ∃ x, x = (bumps (shL l n) ((d'.toList.take j).map Int.toNat))[i] := ⟨_, rfl⟩
          rw [← hx] at hca hxb
          have HX := Lib.hid (HI.out.next hjl (by rw [HQ.out.1.1, iota_size, HM.out]) hb3 i hi x (by rw [hx, List.getD_eq_getElem?_getD, List.getElem?_eq_getElem hil]; rfl))
          obtain ⟨hx0, hx1⟩ := hxb
          have hne : ¬ g = w.heap.size := by omega
          clear y1 y2 y3 y4 y5 y6 hi hin hx hil HI
          go_wp2_with fail
          go_roundw
          case rel => exact ⟨j + 1, by go_num, by omega, HX⟩
          case measure => simp [intOf]; omega
        · have hjR : j = R := by omega
          have HE : Hid (PartsPost w l n (.returned (.slice (some ⟨w.heap.size, 0, none⟩) k k)) wr) := Lib.hid (by
            obtain ⟨y1, y2, y3, y4, y5, y6⟩ := HI.out
            refine ⟨w.heap.size, d', by rw [← HM.out], Nat.le_refl _, by omega, by rw [← HM.out]; exact HQ.out, ?_, y5⟩
            rw [HRe.out, Int.toNat_natCast, ← hjR]; exact y1)
          clear HI hjR
          go_wp2_with fail
          go_ret
          exact HE.out
end Go.Proofs.Ytaeondpeaabfeaa
