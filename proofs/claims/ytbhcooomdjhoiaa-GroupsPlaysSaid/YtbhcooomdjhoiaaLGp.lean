/- GroupsPlays: its walk. -/
import Derived.Test.YtbhcooomdjhoiaaVl
import Derived.Test.YtbhcooomdjhoiaaFrb
import Derived.Deep.RegionHeld3
import Derived.Deep.DeepCutAuto
namespace Go.Proofs.Ytbhcooomdjhoiaa
open Go.RowKit Go.Shelf

/-- Groups and the reference's, side by side. -/
structure PG (W w : World) (b p : Nat) (G G2 : List GR) : Prop where
  g : GAt W w b G
  r : ∃ U, IsR w p U G2
  np : W.heap.size ≤ p
  ne : b ≠ p
theorem PG.below {W w w' : World} {b p : Nat} {G G2 : List GR} (h : PG W w b p G G2) (hb : Below w.heap.size w w') : PG W w' b p G G2 := by
  obtain ⟨U, hU⟩ := h.r
  exact ⟨h.g.below hb, ⟨U, hU.below hb⟩, h.np, h.ne⟩
theorem PG.groups {W w w' : World} {b p : Nat} {G G' G2 : List GR} (h : PG W w b p G G2) (h1 : GAt W w' b G') (t : Trip (fun k => k = b) w (fun k => k = b) w') : PG W w' b p G' G2 := by
  obtain ⟨U, hU⟩ := h.r
  exact ⟨h1, ⟨U, hU.keep (t.block p hU.lt (fun e => h.ne e.symm))⟩, h.np, h.ne⟩
theorem PG.ref {W w w' : World} {b p : Nat} {G G2 G' : List GR} (h : PG W w b p G G2) (h1 : RPost p G' w w') : PG W w' b p G G' :=
  ⟨⟨h.g.is.keep (h1.2.block b h.g.is.lt h.ne), h.g.wf, h.g.nb, h.g.fr.trans (h1.2.below (by rintro k rfl; exact h.np) h.g.fr.size)⟩, h1.1, h.np, h.ne⟩
theorem PG.new {W w w' : World} {b : Nat} (h : GAt W w b rootG) (h1 : IsR w' w.heap.size rootU rootG) (hb : Below w.heap.size w w') : PG W w' b w.heap.size rootG rootG :=
  ⟨h.below hb, ⟨_, h1⟩, h.fr.size, by have := h.is.lt; omega⟩
theorem PG.radd {W w : World} {b p : Nat} {G G2 G' : List GR} {id x y : Int} (h : PG W w b p G G2) (hw : WfG G2) (e : addG G2 id = (x, y, G')) :
    Calls Try.prog 18 #[.pointer (some ⟨p, 0, none⟩), .int .i64 id] w fun e w' => e = .returned (.tuple #[.int .i64 x, .int .i64 y]) ∧ PG W w' b p G G' := by
  obtain ⟨U, hU⟩ := h.r
  have := radd_c p U G2 id w hU hw
  rw [e] at this
  refine this.mono ?_
  rintro e w' ⟨rfl, h1⟩
  exact ⟨rfl, h.ref h1⟩
theorem PG.rrem {W w : World} {b p : Nat} {G G2 G' : List GR} {id y : Int} (h : PG W w b p G G2) (e : remG G2 id = (y, G')) :
    Calls Try.prog 17 #[.pointer (some ⟨p, 0, none⟩), .int .i64 id] w fun e w' => e = .returned (.int .i64 y) ∧ PG W w' b p G G' := by
  obtain ⟨U, hU⟩ := h.r
  have := rremove_c p U G2 id w hU
  rw [e] at this
  refine this.mono ?_
  rintro e w' ⟨rfl, h1⟩
  exact ⟨rfl, h.ref h1⟩
theorem PG.gadd {W w : World} {b p : Nat} {G G2 G' : List GR} {id x y : Int} (h : PG W w b p G G2) (e : addG G id = (x, y, G')) :
    Calls Try.prog 9 #[.pointer (some ⟨b, 0, none⟩), .int .i64 id] w fun e w' => e = .returned (.tuple #[.int .i64 x, .int .i64 y]) ∧ PG W w' b p G' G2 :=
  (add_in h.g e).mono fun _ _ ⟨h1, h2, h3⟩ => ⟨h1, h.groups h2 h3⟩
theorem PG.grem {W w : World} {b p : Nat} {G G2 G' : List GR} {id y : Int} (h : PG W w b p G G2) (e : remG G id = (y, G')) :
    Calls Try.prog 10 #[.pointer (some ⟨b, 0, none⟩), .int .i64 id] w fun e w' => e = .returned (.int .i64 y) ∧ PG W w' b p G' G2 :=
  (remove_in h.g e).mono fun _ _ ⟨h1, h2, h3⟩ => ⟨h1, h.groups h2 h3⟩
/-- A list of numbers comes back, what lay lies. -/
def LRet7 (n : Nat) (L : List Int) (w : World) (e : Ending) (w' : World) : Prop := ∃ A c, e = .returned (.slice A n c) ∧ (∀ ad, A = some ad → ∃ g, ad = ⟨g, 0, none⟩) ∧ IRow .i64 w' w'.heap.size A L ∧ Below w.heap.size w w'
theorem lret7 {w w' : World} {L : List Nat} {n : Nat} {v : Value} (hn : L.length = n) (h : OwnI .i64 w' w.heap.size 3 v (ints64 L)) (hb : Below w.heap.size w w') : LRet7 n (ints64 L) w (.returned v) w' := by
  obtain ⟨A, c, g1, _, _, g4⟩ := h.form
  subst g1
  rw [ints64_length] at h
  exact ⟨A, c, by rw [ints64_length, hn], own_head h, g4, hb⟩
theorem PG.gall {W w : World} {b p n : Nat} {G G2 : List GR} (h : PG W w b p G G2) (hn : (numsL G true).length = n) :
    Calls Try.prog 15 #[.pointer (some ⟨b, 0, none⟩)] w (LRet7 n (ints64 (numsL G true)) w) :=
  (all_c b G w h.g.is).mono fun _ _ ⟨_, h1, h2, h3⟩ => by subst h1; exact lret7 hn h2 h3
theorem PG.rall {W w : World} {b p n : Nat} {G G2 : List GR} (h : PG W w b p G G2) (hn : (numsL G2 true).length = n) :
    Calls Try.prog 20 #[.pointer (some ⟨p, 0, none⟩)] w (LRet7 n (ints64 (numsL G2 true)) w) := by
  obtain ⟨U, hU⟩ := h.r
  exact (rall_c p U G2 w hU).mono fun _ _ ⟨_, h1, h2, h3⟩ => by subst h1; exact lret7 hn h2 h3
theorem PG.gchain {W w : World} {b p n : Nat} {G G2 : List GR} {z : Int} (h : PG W w b p G G2) (hn : (chI G z).length = n) :
    Calls Try.prog 12 #[.pointer (some ⟨b, 0, none⟩), .int .i64 z] w (LRet7 n (ints64 (chI G z)) w) :=
  (chain_c b G z w h.g.is h.g.wf).mono fun _ _ ⟨_, h1, h2, h3⟩ => by subst h1; exact lret7 hn h2 h3
theorem PG.rpath {W w : World} {b p n : Nat} {G G2 : List GR} {z : Int} (h : PG W w b p G G2) (hw : WfG G2) (hn : (chI G2 z).length = n) :
    Calls Try.prog 21 #[.pointer (some ⟨p, 0, none⟩), .int .i64 z] w (LRet7 n (ints64 (chI G2 z)) w) := by
  obtain ⟨U, hU⟩ := h.r
  exact (rpath_c p U G2 z w hU hw).mono fun _ _ ⟨_, h1, h2, h3⟩ => by subst h1; exact lret7 hn h2 h3
theorem add_next7 (a : Addr) (i j : Nat) : (⟨(a.add i).block, (a.add i).off + (j + 1), none⟩ : Addr) = a.add (i + (j + 1)) := by
  rw [← Go.Deep.add_add]
  unfold Addr.add
  simp

theorem WfG.up_ch {G : List GR} (h : WfG G) (z : Int) : ∃ u v, upG G z = (u, v) ∧ ((v = false ∧ (chI G z).length ≤ 1) ∨ (v = true ∧ 2 ≤ (chI G z).length ∧ (ints64 (chI G z))[1]? = some u)) := by
  cases hh : hasG G z with
  | false => exact ⟨0, false, by unfold upG; rw [if_neg (by rw [hh]; simp)], .inl ⟨rfl, by rw [chI_no hh]; simp⟩⟩
  | true =>
    obtain ⟨i, rfl, hc, hl⟩ := h.chn hh
    generalize hL : chI G (i : Int) = L at hc hl ⊢
    cases hc with
    | root h0 => exact ⟨0, false, by unfold upG; simp, .inl ⟨rfl, by simp⟩⟩
    | up h0 h1 h2 =>
      obtain ⟨_, r, e, _⟩ := h2.ne
      refine ⟨_, true, upG_of h0 h1, .inr ⟨rfl, ?_, ?_⟩⟩
      · rw [e]; simp
      · rw [e]; simp [ints64]

set_option maxRecDepth 100000 in
set_option maxHeartbeats 8000000 in
theorem groupsPlays_c (A : Option Addr) (c : Nat) (l : List (List Int)) (W : World) (_ : l.length ≤ c) (_ : c ≤ maxLen) (hr : Rows W 2 A l) :
    Calls Try.prog 4 #[.slice A l.length c] W fun e w' => e = .returned (.bool true) ∧ Below W.heap.size W w' := by
  obtain ⟨n, hn⟩ : ∃ n, l.length = n := ⟨_, rfl⟩
  have HN := Lib.hid hn
  have HR := Lib.hid hr
  rw [hn]
  clear hn hr
  by_cases hbig : 100 < n
  · go_enter Try.func4, Try.ntmps4
    go_wp2_with fail
    refine (awake7_c W).mono ?_
    rintro e w1 ⟨rfl, hb1⟩
    have HB1 := Lib.hid hb1
    clear hb1
    go_wp2_with fail
    go_ret
    exact ⟨rfl, HB1.out⟩
  have hn3 : n ≤ 100 := by omega
  clear hbig
  go_enter Try.func4, Try.ntmps4
  go_wp2_with fail
  refine (awake7_c W).mono ?_
  rintro e w1 ⟨rfl, hb1⟩
  have HB1 := Lib.hid hb1
  clear hb1
  go_wp2_with fail
  refine (new_in HB1.out).mono ?_
  rintro e w2 ⟨b, rfl, hs, _, _⟩
  have HS := Lib.hid hs
  clear hs HB1
  go_wp2_with fail
  refine (newGroups_c w2).mono ?_
  rintro e w3 ⟨rfl, hnn, hb3⟩
  obtain ⟨p, hp⟩ : ∃ p, w2.heap.size = p := ⟨_, rfl⟩
  have HP0 := Lib.hid (PG.new HS.out hnn hb3)
  rw [hp] at HP0 ⊢
  clear hnn hb3 HS hp
  go_wp2_with fail
  go_loopw [5] (fun i wr => ∃ (k : Nat) (G : List GR), i = .int .i64 k ∧ k ≤ n ∧ Hid (PG W wr b p G G)) (fun i _ => n - (intOf i).toNat)
  case atStart => exact ⟨0, _, rfl, Nat.zero_le _, HP0⟩
  case round =>
    obtain ⟨k, G, rfl, hk, HP⟩ := hrel
    clear HP0
    by_cases hlt : k < n
    · have hkl : k < l.length := by rw [HN.out]; exact hlt
      obtain ⟨row, hrow⟩ : ∃ row, l[k]? = some row := ⟨_, List.getElem?_eq_getElem hkl⟩
      obtain ⟨hlen, ad, rfl, hadb, hcells⟩ := HR.out k row hrow
      obtain ⟨op, row1, rfl⟩ := List.exists_cons_of_length_pos (l := row) (by omega)
      obtain ⟨id, row2, rfl⟩ := List.exists_cons_of_length_pos (l := row1) (by simp at hlen; omega)
      obtain ⟨g0, _⟩ := hcells 0 op rfl
      obtain ⟨g1, _⟩ := hcells 1 id rfl
      have C0 : Hid (∀ w', Below W.heap.size W w' → w'.cell? (ad.add (k * 2)) = some (.int .i64 op)) := Lib.hid (fun w' hb => (hb.cell (by rw [add_block]; exact hadb)).trans g0)
      have C1 : Hid (∀ w', Below W.heap.size W w' → w'.cell? ⟨(ad.add (k * 2)).block, (ad.add (k * 2)).off + 1, none⟩ = some (.int .i64 id)) := Lib.hid (fun w' hb => by
        rw [add_next7 ad (k * 2) 0]
        exact (hb.cell (by rw [add_block]; exact hadb)).trans g1)
      have q0 := C0.out _ HP.out.g.fr
      have q1 := C1.out _ HP.out.g.fr
      have hkm : (k : Int) < (n : Int) := by omega
      clear hcells hlen hrow hkl g0 g1 hadb
      go_upto_if 32 with fail
      go_cut [] (fun wx => Hid (∃ G', PG W wx b p G' G'))
      case first => as_aux_lemma =>
        by_cases hop : op = 1
        · subst hop
          obtain ⟨⟨ev, G'⟩, hr⟩ : ∃ r, remG G id = r := ⟨_, rfl⟩
          have PD := Lib.hid (HP.out.below (Below.refl wr.heap.size wr).drew)
          have K1 := Lib.hid (PD.out.grem hr)
          have K2 := Lib.hid (fun (w : World) (h : PG W w b p G' G) => h.rrem hr)
          have hcd := C1.out _ PD.out.g.fr
          have hev : (ev != ev) = false := by simp
          have hev2 : decide (ev = ev) = true := by simp
          clear hr
          go_wp2_with fail
          go_region_held3 (fun w' => w'.cell? ⟨(ad.add (k * 2)).block, (ad.add (k * 2)).off + 1, none⟩ = some (.int .i64 id)) (first | exact hcz | exact hcy | exact hcd)
            (first
              | (go_at_call 10; refine (K1.out).mono ?_; rintro e y1 ⟨rfl, h1⟩; have Q1 := Lib.hid h1; have hcy := C1.out _ Q1.out.g.fr; clear h1)
              | (go_at_call 17; refine (K2.out _ Q1.out).mono ?_; rintro e y2 ⟨rfl, h2⟩; have Q2 := Lib.hid h2; have hcz := C1.out _ Q2.out.g.fr; clear h2))
          go_wp2_with fail
          go_meet
          exact Lib.hid ⟨G', Q2.out⟩
        · have hop2 : ((op : Int) == 1) = false := by simp [hop]
          obtain ⟨⟨x, ev, G'⟩, hr⟩ : ∃ r, addG G id = r := ⟨_, rfl⟩
          have K1 := Lib.hid (HP.out.gadd hr)
          have K2 := Lib.hid (fun (w : World) (h : PG W w b p G' G) => h.radd HP.out.g.wf hr)
          have e1 : (x != x) = false := by simp
          have e2 : (ev != ev) = false := by simp
          clear hr
          go_wp2_with fail
          refine K1.out.mono ?_
          rintro e w4 ⟨rfl, h4⟩
          have P4 := Lib.hid h4
          have q4 := C1.out _ P4.out.g.fr
          clear h4 K1 q0 q1
          go_wp2_with fail
          refine (K2.out _ P4.out).mono ?_
          rintro e w5 ⟨rfl, h5⟩
          have P5 := Lib.hid h5
          clear h5 K2 q4 P4
          go_wp2_with fail
          go_meet
          exact Lib.hid ⟨G', P5.out⟩
      case rest =>
        clear HP q0 q1 C0 C1
        obtain ⟨G', hP⟩ := hcut.out
        have HP := Lib.hid hP
        obtain ⟨q, hq⟩ : ∃ q, (numsL G' true).length = q := ⟨_, rfl⟩
        have hq16 : q ≤ 16 := by have := numsL_length G' true; rw [hP.g.wf.len] at this; omega
        have HQ := Lib.hid (show (ints64 (numsL G' true)).length = q by rw [ints64_length, hq])
        have K1 := Lib.hid (hP.gall hq)
        have K2 := Lib.hid (fun (w : World) (h : PG W w b p G' G') => h.rall hq)
        clear hP hq hcut
        go_wp2_with fail
        refine K1.out.mono ?_
        rintro e w4 ⟨A4, c4, rfl, -, hr4, hb4⟩
        have R4 := Lib.hid hr4
        have P4 := Lib.hid (HP.out.below hb4)
        clear hr4 hb4 K1 HP
        go_wp2_with fail
        refine (K2.out _ P4.out).mono ?_
        rintro e w5 ⟨A5, c5, rfl, -, hr5, hb5⟩
        have R5 := Lib.hid hr5
        have P5 := Lib.hid (P4.out.below hb5)
        have R45 := Lib.hid ((R4.out.below hb5).more hb5.size)
        clear hr5 hb5 K2 P4 R4
        go_wp2_with fail
        refine (ints7_eq A4 A5 q c4 c5 _ _ _ HQ.out (by omega) R45.out R5.out).mono ?_
        rintro e w6 ⟨rfl, hb6⟩
        have P6 := Lib.hid (P5.out.below hb6)
        clear hb6 P5 R45 R5 HQ hq16
        go_wp2_with fail
        go_loopw [10] (fun zv wr => ∃ z : Int, zv = .int .i64 z ∧ -1 ≤ z ∧ z ≤ 17 ∧ Hid (PG W wr b p G' G')) (fun zv _ => (17 - intOf zv).toNat)
        case atStart => exact ⟨-1, rfl, by omega, by omega, P6⟩
        case round =>
          obtain ⟨z, rfl, hz1, hz2, HZ⟩ := hrel
          by_cases hz : z < 17
          · obtain ⟨m, hm⟩ : ∃ m, (chI G' z).length = m := ⟨_, rfl⟩
            have hm4 : m ≤ 4 := by rw [← hm]; exact HZ.out.g.wf.len_ch z
            obtain ⟨u, v, hup, hcase⟩ := HZ.out.g.wf.up_ch z
            have HM := Lib.hid (show (ints64 (chI G' z)).length = m by rw [ints64_length, hm])
            have K1 := Lib.hid (HZ.out.rpath HZ.out.g.wf hm)
            have K2 := Lib.hid (fun (w : World) (h : PG W w b p G' G') => up_in h.g hup)
            have K3 := Lib.hid (fun (w : World) (h : PG W w b p G' G') => h.gchain hm)
            have K4 := Lib.hid (fun (w : World) (h : PG W w b p G' G') => depth_in h.g hm)
            rw [hm] at hcase
            rcases hcase with ⟨rfl, hm1⟩ | ⟨rfl, hm1, hu1⟩
            · have hd : decide ((m : Int) > 1) = false := by simp; omega
              have hmm : ((m : Int) != (m : Int)) = false := by simp
              clear hm hup
              go_wp2_with fail
              refine K1.out.mono ?_
              rintro e x1 ⟨A1, c1, rfl, -, hr1, hb1⟩
              have R1 := Lib.hid hr1
              have P1 := Lib.hid (HZ.out.below hb1)
              clear hr1 hb1 K1 HZ
              go_wp2_with fail
              refine (K2.out _ P1.out).mono ?_
              rintro e x2 ⟨rfl, rfl⟩
              go_wp2_with fail
              refine (K3.out _ P1.out).mono ?_
              rintro e x3 ⟨A3, c3, rfl, -, hr3, hb3⟩
              have R3 := Lib.hid hr3
              have P3 := Lib.hid (P1.out.below hb3)
              have R13 := Lib.hid ((R1.out.below hb3).more hb3.size)
              clear hr3 hb3 K2 K3 P1 R1
              go_wp2_with fail
              refine (ints7_eq A3 A1 m c3 c1 _ _ _ HM.out (by omega) R3.out R13.out).mono ?_
              rintro e x4 ⟨rfl, hb4⟩
              have P4 := Lib.hid (P3.out.below hb4)
              clear hb4 P3 R13 R3 HM
              go_wp2_with fail
              refine (K4.out _ P4.out).mono ?_
              rintro e x5 ⟨rfl, -, hb5⟩
              have P5 := Lib.hid (P4.out.below hb5)
              clear hb5 P4 K4
              go_wp2_with fail
              go_roundw
              case rel => exact ⟨z + 1, by go_num, by omega, by omega, P5⟩
              case measure => simp [intOf]; omega
            · have hd : decide ((m : Int) > 1) = true := by simp; omega
              have hmm : ((m : Int) != (m : Int)) = false := by simp
              have huu : (u != u) = false := by simp
              clear hm hup
              go_wp2_with fail
              refine K1.out.mono ?_
              rintro e x1 ⟨A1, c1, rfl, hA1, hr1, hb1⟩
              obtain ⟨ad1, rfl, _⟩ := hr1 1 u hu1
              obtain ⟨g1, rfl⟩ := hA1 ad1 rfl
              have CU : Hid (∀ w', Below x1.heap.size x1 w' → w'.cell? ⟨g1, 1, none⟩ = some (.int .i64 u)) := Lib.hid (fun w' hb => (hr1.below hb).cell hu1)
              have R1 := Lib.hid hr1
              have P1 := Lib.hid (HZ.out.below hb1)
              clear hr1 hb1 K1 HZ hu1 hA1
              go_wp2_with fail
              refine (K2.out _ P1.out).mono ?_
              rintro e x2 ⟨rfl, rfl⟩
              go_wp2_with fail
              refine (K3.out _ P1.out).mono ?_
              rintro e x3 ⟨A3, c3, rfl, -, hr3, hb3⟩
              have R3 := Lib.hid hr3
              have P3 := Lib.hid (P1.out.below hb3)
              have R13 := Lib.hid ((R1.out.below hb3).more hb3.size)
              have B3 := Lib.hid hb3
              clear hr3 hb3 K2 K3 P1 R1
              go_wp2_with fail
              refine (ints7_eq A3 _ m c3 c1 _ _ _ HM.out (by omega) R3.out R13.out).mono ?_
              rintro e x4 ⟨rfl, hb4⟩
              have P4 := Lib.hid (P3.out.below hb4)
              have B4 := Lib.hid (B3.out.trans (hb4.mono B3.out.size))
              clear hb4 P3 R13 R3 HM B3
              go_wp2_with fail
              refine (K4.out _ P4.out).mono ?_
              rintro e x5 ⟨rfl, -, hb5⟩
              have P5 := Lib.hid (P4.out.below hb5)
              have q5 := CU.out _ (B4.out.trans (hb5.mono B4.out.size))
              clear hb5 P4 K4 B4 CU
              go_wp2_with fail
              go_roundw
              case rel => exact ⟨z + 1, by go_num, by omega, by omega, P5⟩
              case measure => simp [intOf]; omega
          · obtain rfl : z = 17 := by omega
            go_wp2_with fail
            go_roundw
            case rel => exact ⟨k + 1, _, by go_num, by omega, HZ⟩
            case measure => simp [intOf]; omega
    · obtain rfl : k = n := by omega
      have HF := Lib.hid HP.out.g.fr
      go_wp2_with fail
      go_ret
      exact ⟨rfl, HF.out⟩
end Go.Proofs.Ytbhcooomdjhoiaa
