/- DueqSets: its walk. -/
import Derived.Test.YtghjanonffiohaaLFd
namespace Go.Proofs.Ytghjanonffiohaa
open Go.RowKit

/-- Two queues of deadlines that were made since W; the blocks F are none of theirs. -/
def D2 (W w : World) (d1 d2 : Nat) (most : Int) (S : Nat) (T1 T2 : List RI) (F : Nat → Prop) : Prop :=
  ∃ b1 m1 v1 mp1 s1 b2 m2 v2 mp2 s2, IsD w d1 b1 m1 most s1 T1 v1 mp1 ∧ IsD w d2 b2 m2 most s2 T2 v2 mp2 ∧ 0 ≤ s1 ∧ s1 ≤ (S : Int) ∧ 0 ≤ s2 ∧ s2 ≤ (S : Int) ∧ (∀ k, DOf d1 b1 m1 v1 mp1 k → W.heap.size ≤ k) ∧ (∀ k, DOf d2 b2 m2 v2 mp2 k → W.heap.size ≤ k) ∧ (∀ k, DOf d1 b1 m1 v1 mp1 k → ¬ DOf d2 b2 m2 v2 mp2 k) ∧ Below W.heap.size W w ∧ ∀ k, F k → k < w.heap.size ∧ ¬ DOf d1 b1 m1 v1 mp1 k ∧ ¬ DOf d2 b2 m2 v2 mp2 k
theorem D2.swap {W w : World} {d1 d2 : Nat} {most : Int} {S : Nat} {T1 T2 : List RI} {F : Nat → Prop} (h : D2 W w d1 d2 most S T1 T2 F) : D2 W w d2 d1 most S T2 T1 F := by
  obtain ⟨b1, m1, v1, mp1, s1, b2, m2, v2, mp2, s2, h1, h2, h3, h4, h5, h6, h7, h8, h9, h10, h11⟩ := h
  exact ⟨b2, m2, v2, mp2, s2, b1, m1, v1, mp1, s1, h2, h1, h5, h6, h3, h4, h8, h7, fun k hk hk' => h9 k hk' hk, h10, fun k hk => ⟨(h11 k hk).1, (h11 k hk).2.2, (h11 k hk).2.1⟩⟩
theorem D2.frame {W w : World} {d1 d2 : Nat} {most : Int} {S : Nat} {T1 T2 : List RI} {F : Nat → Prop} (h : D2 W w d1 d2 most S T1 T2 F) : Below W.heap.size W w := by
  obtain ⟨b1, m1, v1, mp1, s1, b2, m2, v2, mp2, s2, h1, h2, h3, h4, h5, h6, h7, h8, h9, h10, h11⟩ := h
  exact h10
theorem D2.more {W w w' : World} {d1 d2 : Nat} {most : Int} {S : Nat} {T1 T2 : List RI} {F G : Nat → Prop} (h : D2 W w d1 d2 most S T1 T2 F) (hb : Below w.heap.size w w') (hG : ∀ k, G k → F k ∨ (w.heap.size ≤ k ∧ k < w'.heap.size)) : D2 W w' d1 d2 most S T1 T2 G := by
  obtain ⟨b1, m1, v1, mp1, s1, b2, m2, v2, mp2, s2, h1, h2, h3, h4, h5, h6, h7, h8, h9, h10, h11⟩ := h
  refine ⟨b1, m1, v1, mp1, s1, b2, m2, v2, mp2, s2, h1.below hb, h2.below hb, h3, h4, h5, h6, h7, h8, h9, h10.trans (hb.mono h10.size), fun k hk => ?_⟩
  rcases hG k hk with h | h
  · exact ⟨by have := (h11 k h).1; have := hb.size; omega, (h11 k h).2⟩
  · exact ⟨h.2, fun hq => by have := h1.lt k hq; omega, fun hq => by have := h2.lt k hq; omega⟩
theorem D2.below {W w w' : World} {d1 d2 : Nat} {most : Int} {S : Nat} {T1 T2 : List RI} {F : Nat → Prop} (h : D2 W w d1 d2 most S T1 T2 F) (hb : Below w.heap.size w w') : D2 W w' d1 d2 most S T1 T2 F := h.more hb (fun _ h => .inl h)
theorem D2.dist1 {W w : World} {d1 d2 : Nat} {most : Int} {S : Nat} {T1 T2 : List RI} {F : Nat → Prop} (h : D2 W w d1 d2 most S T1 T2 F) : Dist (qL T1) := by
  obtain ⟨b1, m1, v1, mp1, s1, b2, m2, v2, mp2, s2, h1, _⟩ := h
  exact h1.q.dist
/-- Of one of two. -/
theorem d2_of {W w : World} {d1 d2 : Nat} {most : Int} {S : Nat} {T1 T2 : List RI} {F : Nat → Prop} (h : D2 W w d1 d2 most S T1 T2 F) :
    ∃ G : Nat → Prop, DIn W w d1 most S T1 (fun k => G k ∨ F k) ∧ (∀ w' S' T', DIn W w' d1 most S' T' (fun k => G k ∨ F k) → (∀ k, G k ∨ F k → w'.heap[k]? = w.heap[k]?) → S ≤ S' → D2 W w' d1 d2 most S' T' T2 F) := by
  obtain ⟨b1, m1, v1, mp1, s1, b2, m2, v2, mp2, s2, h1, h2, h3, h4, h5, h6, h7, h8, h9, h10, h11⟩ := h
  refine ⟨DOf d2 b2 m2 v2 mp2, ⟨b1, m1, v1, mp1, s1, h1, h3, h4, h7, h10, fun k hk => ?_⟩, fun w' S' T' hq hk hS => ?_⟩
  · rcases hk with h | h
    · exact ⟨h2.lt k h, fun hq => h9 k hq h⟩
    · exact ⟨(h11 k h).1, (h11 k h).2.1⟩
  · obtain ⟨b, m, v, mp, s, g1, g2, g3, g4, g5, g6⟩ := hq
    exact ⟨b, m, v, mp, s, b2, m2, v2, mp2, s2, g1, h2.keep (fun k hk' => hk k (.inl hk')), g2, g3, h5, by omega, g4, h8, fun k hq hk' => (g6 k (.inl hk')).2 hq, g5, fun k hF => ⟨(g6 k (.inr hF)).1, (g6 k (.inr hF)).2, (h11 k hF).2.2⟩⟩
theorem d2put {W w : World} {d1 d2 : Nat} {most : Int} {S : Nat} {T1 T2 : List RI} {F : Nat → Prop} (r : RI) (h : D2 W w d1 d2 most S T1 T2 F) (h0 : wf64 r.1) (h1 : wf64 r.2.1) (h2 : wf64 r.2.2) (hL : T1.length ≤ 1000000) (hS : S ≤ 1000000000) :
    Calls Try.prog 29 #[.pointer (some ⟨d1, 0, none⟩), .int .i64 r.1, .int .i64 r.2.1, .int .i64 r.2.2] w fun e w' => e = .returned (.int .i64 (putT most T1 r).1) ∧ D2 W w' d1 d2 most (S + 21) (putT most T1 r).2 T2 F ∧ ∀ k, F k → w'.heap[k]? = w.heap[k]? := by
  obtain ⟨G, hq, hb⟩ := d2_of h
  refine (dput_in r hq h0 h1 h2 hL hS).mono ?_
  rintro e w' ⟨rfl, g1, g2⟩
  exact ⟨rfl, hb _ _ _ g1 g2 (by omega), fun k hk => g2 k (.inr hk)⟩
theorem d2set {W w : World} {d1 d2 : Nat} {most : Int} {S : Nat} {T1 T2 : List RI} {F : Nat → Prop} {r0 : RI} {i : Nat} (r : RI) (h : D2 W w d1 d2 most S T1 T2 F) (hi : T1[i]? = some r0) (he : r0.2.2 = r.2.2) (h0 : wf64 r.1) (h1 : wf64 r.2.1) (hL : T1.length ≤ 1000000) (hS : S ≤ 1000000000) :
    Calls Try.prog 30 #[.pointer (some ⟨d1, 0, none⟩), .int .i64 r.2.2, .int .i64 r.1, .int .i64 r.2.1] w fun e w' => e = .returned (.bool true) ∧ D2 W w' d1 d2 most (S + 42) (setT T1 i r) T2 F := by
  obtain ⟨G, hq, hb⟩ := d2_of h
  refine (dset_in r hq hi he h0 h1 hL hS).mono ?_
  rintro e w' ⟨rfl, g1, g2⟩
  exact ⟨rfl, hb _ _ _ g1 g2 (by omega)⟩
theorem d2drop {W w : World} {d1 d2 : Nat} {most : Int} {S : Nat} {T1 T2 : List RI} {F : Nat → Prop} {r : RI} {i : Nat} (h : D2 W w d1 d2 most S T1 T2 F) (hi : T1[i]? = some r) (hL : T1.length ≤ 1000000) (hS : S ≤ 1000000000) :
    Calls Try.prog 33 #[.pointer (some ⟨d1, 0, none⟩), .int .i64 r.2.2] w fun e w' => e = .returned (.tuple #[.agg (encR r).toArray, .bool true]) ∧ D2 W w' d1 d2 most (S + 21) (T1.eraseIdx i) T2 F := by
  obtain ⟨G, hq, hb⟩ := d2_of h
  refine (ddrop_in hq hi hL hS).mono ?_
  rintro e w' ⟨rfl, g1, g2⟩
  exact ⟨rfl, hb _ _ _ g1 g2 (by omega)⟩
theorem d2first {W w : World} {d1 d2 : Nat} {most : Int} {S : Nat} {T1 T2 : List RI} {F : Nat → Prop} (key : Int) (h : D2 W w d1 d2 most S T1 T2 F) (hL : T1.length ≤ 1000000) :
    Calls Try.prog 27 #[.pointer (some ⟨d1, 0, none⟩), .int .i64 key] w fun e w' => e = .returned (.tuple #[.agg (encR (optR (firstT key T1)).1).toArray, .bool (optR (firstT key T1)).2]) ∧ D2 W w' d1 d2 most S T1 T2 F ∧ Below w.heap.size w w' := by
  obtain ⟨G, hq, hb⟩ := d2_of h
  refine (dfirst_in key hq hL).mono ?_
  rintro e w' ⟨rfl, g1, g2⟩
  exact ⟨rfl, h.below g2, g2⟩
theorem d2len {W w : World} {d1 d2 : Nat} {most : Int} {S : Nat} {T1 T2 : List RI} {F : Nat → Prop} (h : D2 W w d1 d2 most S T1 T2 F) :
    Calls Try.prog 35 #[.pointer (some ⟨d1, 0, none⟩)] w fun e w' => e = .returned (.int .i64 T1.length) ∧ w = w' := by
  obtain ⟨G, hq, hb⟩ := d2_of h
  exact dlen_in hq
/-- What the second New gives. -/
def MadeTwo (W w : World) (d1 : Nat) (most : Int) (e : Ending) : Prop := ∃ d2, e = .returned (.pointer (some ⟨d2, 0, none⟩)) ∧ D2 W w d1 d2 most 0 [] [] (fun _ => False)
theorem d2new {W w : World} {d1 : Nat} {most : Int} (h : DIn W w d1 (clampQ most) 0 [] (fun _ => False)) :
    Calls Try.prog 26 #[.int .i64 most] w fun e w' => MadeTwo W w' d1 (clampQ most) e := by
  obtain ⟨b, m, v, mp, s, g1, g2, g3, g4, g5, g6⟩ := h
  refine (dnew_c most w).mono ?_
  rintro e w' ⟨d2, b2, m2, v2, mp2, rfl, h1, h2, h3⟩
  have := g5.size
  exact ⟨d2, rfl, b, m, v, mp, s, b2, m2, v2, mp2, 0, g1.below h3, h1, g2, g3, by omega, by omega, g4, fun k hk => by have := h2 k hk; omega, fun k hk hk' => by have := g1.lt k hk; have := h2 k hk'; omega, g5.trans (h3.mono this), fun _ h => h.elim⟩
theorem dsTo_at {l ds : List Int} {n j : Nat} (hj : j < n) : ∃ i : Nat, (dsTo l ds n)[i]? = some (l.getD j 0, ds.getD j 0, (j : Int)) := by
  obtain ⟨i, hi, he⟩ := List.getElem_of_mem (dsTo_mem.2 ⟨j, hj, rfl⟩ : ((l.getD j 0, ds.getD j 0, (j : Int)) : RI) ∈ dsTo l ds n)
  exact ⟨i, by rw [List.getElem?_eq_getElem hi, he]⟩

set_option maxRecDepth 100000 in
set_option maxHeartbeats 8000000 in
theorem dueqSets_c (A : Option Addr) (c : Nat) (l : List Int) (B : Option Addr) (cb : Nat) (ds : List Int) (id key due most : Int) (W : World) (hl : l.length ≤ c) (_ : c ≤ maxLen) (hr : IRow .i64 W W.heap.size A l) (hw : ∀ z ∈ l, (Lit.int .i64 z).wf = true)
    (_ : ds.length ≤ cb) (_ : cb ≤ maxLen) (hrb : IRow .i64 W W.heap.size B ds) (hwb : ∀ z ∈ ds, (Lit.int .i64 z).wf = true) (hwk : (Lit.int .i64 key).wf = true) (hwd : (Lit.int .i64 due).wf = true) :
    Calls Try.prog 9 #[.slice A l.length c, .slice B ds.length cb, .int .i64 id, .int .i64 key, .int .i64 due, .int .i64 most] W fun e w' => e = .returned (.bool true) ∧ Below W.heap.size W w' := by
  obtain ⟨n, hn⟩ : ∃ n, l.length = n := ⟨_, rfl⟩
  obtain ⟨nd, hnd⟩ : ∃ nd, ds.length = nd := ⟨_, rfl⟩
  have HN := Lib.hid hn
  have HND := Lib.hid hnd
  have HR := Lib.hid hr
  have HW := Lib.hid hw
  have HRB := Lib.hid hrb
  have HWB := Lib.hid hwb
  have HKY : Hid (wf64 key) := Lib.hid hwk
  have HDU : Hid (wf64 due) := Lib.hid hwd
  rw [hn] at hl ⊢
  rw [hnd]
  clear hn hr hw hnd hrb hwb hwk hwd
  by_cases h1 : 40 < n
  · go_enter Try.func9, Try.ntmps9
    go_wp2_with fail
    refine (awake5_c W).mono ?_
    rintro e w1 ⟨rfl, hb1⟩
    have HB1 := Lib.hid hb1
    clear hb1
    go_wp2_with fail
    all_goals
      go_ret
      exact ⟨rfl, HB1.out⟩
  have h1' : n ≤ 40 := by omega
  clear h1
  by_cases h2 : nd < n
  · go_enter Try.func9, Try.ntmps9
    go_wp2_with fail
    refine (awake5_c W).mono ?_
    rintro e w1 ⟨rfl, hb1⟩
    have HB1 := Lib.hid hb1
    clear hb1
    go_wp2_with fail
    all_goals
      go_ret
      exact ⟨rfl, HB1.out⟩
  have h2' : n ≤ nd := by omega
  clear h2
  by_cases h3 : id < 0
  · go_enter Try.func9, Try.ntmps9
    go_wp2_with fail
    refine (awake5_c W).mono ?_
    rintro e w1 ⟨rfl, hb1⟩
    have HB1 := Lib.hid hb1
    clear hb1
    go_wp2_with fail
    all_goals
      go_ret
      exact ⟨rfl, HB1.out⟩
  have h3' : 0 ≤ id := by omega
  clear h3
  by_cases h4 : (n : Int) ≤ id
  · go_enter Try.func9, Try.ntmps9
    go_wp2_with fail
    refine (awake5_c W).mono ?_
    rintro e w1 ⟨rfl, hb1⟩
    have HB1 := Lib.hid hb1
    clear hb1
    go_wp2_with fail
    all_goals
      go_ret
      exact ⟨rfl, HB1.out⟩
  have h4' : id < (n : Int) := by omega
  clear h4
  obtain ⟨j, rfl⟩ : ∃ j : Nat, id = (j : Int) := ⟨id.toNat, by omega⟩
  have hjn : j < n := by omega
  clear h3' h4'
  go_enter Try.func9, Try.ntmps9
  go_wp2_with fail
  refine (awake5_c W).mono ?_
  rintro e w1 ⟨rfl, hb1⟩
  have HB1 := Lib.hid hb1
  clear hb1
  go_wp2_with fail
  refine (dnew_in W w1 HB1.out 50 (fun _ => False) (fun _ h => h.elim)).mono ?_
  rintro e w2 ⟨d, rfl, hq, _⟩
  have H2 := Lib.hid hq
  clear hq HB1
  go_wp2_with fail
  refine (d2new H2.out).mono ?_
  rintro e w2' ⟨d2, rfl, hq⟩
  have e4 : clampQ 50 = 50 := by decide
  rw [e4] at hq
  have H2' := Lib.hid hq
  clear hq e4 H2
  go_wp2_with fail
  go_loopw [15] (fun i wr => ∃ k : Nat, i = .int .i64 k ∧ k ≤ n ∧ Hid (D2 W wr d d2 50 (k * 42) (dsTo l ds k) (dsTo l ds k) (fun _ => False))) (fun i _ => n - (intOf i).toNat)
  case atStart => exact ⟨0, rfl, Nat.zero_le _, by simpa [dsTo] using H2'⟩
  case round =>
    obtain ⟨k, rfl, hk, HK⟩ := hrel
    by_cases hlt : k < n
    · have hkl : k < l.length := by rw [HN.out]; exact hlt
      have hkd : k < ds.length := by rw [HND.out]; omega
      obtain ⟨ad, rfl, hadb, hcell⟩ := HR.out.at hkl
      obtain ⟨bd, rfl, hbdb, hcelb⟩ := HRB.out.at hkd
      have hc := (HK.out.frame.cell (p := ad.add k) (by rw [add_block]; exact hadb)).trans hcell
      have hcb := (HK.out.frame.cell (p := bd.add k) (by rw [add_block]; exact hbdb)).trans hcelb
      have hwk : wf64 l[k] := HW.out _ (List.getElem_mem hkl)
      have hwd : wf64 ds[k] := HWB.out _ (List.getElem_mem hkd)
      have hp := putT_ds (l := l) (ds := ds) (k := k) (most := 50) (by omega)
      rw [getD_at' hkl, getD_at' hkd] at hp
      obtain ⟨x, hx⟩ : ∃ x, x = l[k] := ⟨_, rfl⟩
      obtain ⟨y, hy⟩ : ∃ y, y = ds[k] := ⟨_, rfl⟩
      rw [← hx] at hc hwk hp hcell
      rw [← hy] at hcb hwd hp hcelb
      have KP := Lib.hid (d2put (x, y, (k : Int)) (HK.out.below (Below.refl _ wr).drew) hwk hwd (wf64_nat' (by omega)) (by rw [dsTo_length]; omega) (by omega))
      rw [hp] at KP
      have HP := Lib.hid hp
      have HWK := Lib.hid (And.intro hwk hwd)
      have HCC := Lib.hid (And.intro hcell hcelb)
      have HAB := Lib.hid (And.intro hadb hbdb)
      have hkm : (k : Int) < (n : Int) := by omega
      have hkm' : (k : Int) < (nd : Int) := by omega
      clear hp hx hy hcell hcelb hadb hbdb hwk hwd hkl hkd
      go_wp2_with fail
      go_still_tail 10, (by kernel_rfl)
      change wpList _ _ _ _ _ wr.drew
      go_wp2_with fail
      refine (KP.out).mono ?_
      rintro e w3 ⟨rfl, hq, _⟩
      clear hc hcb
      have hc := (hq.frame.cell (p := ad.add k) (by rw [add_block]; exact HAB.out.1)).trans HCC.out.1
      have hcb := (hq.frame.cell (p := bd.add k) (by rw [add_block]; exact HAB.out.2)).trans HCC.out.2
      have KQ := Lib.hid (d2put (x, y, (k : Int)) (hq.swap.below (Below.refl _ w3).drew) HWK.out.1 HWK.out.2 (wf64_nat' (by omega)) (by rw [dsTo_length]; omega) (by omega))
      rw [HP.out] at KQ
      clear hq KP HK
      go_wp2_with fail
      go_still_tail 10, (by kernel_rfl)
      change wpList _ _ _ _ _ w3.drew
      go_wp2_with fail
      refine (KQ.out).mono ?_
      rintro e w4 ⟨rfl, hq, _⟩
      have H4 := Lib.hid hq.swap
      clear hq KQ
      go_wp2_with fail
      go_roundw
      case rel => exact ⟨k + 1, by go_num, by omega, by have := H4; rwa [show k * 42 + 21 + 21 = (k + 1) * 42 by omega] at this⟩
      case measure => simp [intOf]; omega
    · obtain rfl : k = n := by omega
      obtain ⟨i, hi⟩ := dsTo_at (l := l) (ds := ds) (n := k) hjn
      have hjl : j < l.length := by rw [HN.out]; exact hjn
      have hjd : j < ds.length := by rw [HND.out]; omega
      rw [getD_at' hjl, getD_at' hjd] at hi
      obtain ⟨ad, rfl, hadb, hcell⟩ := HR.out.at hjl
      obtain ⟨bd, rfl, hbdb, hcelb⟩ := HRB.out.at hjd
      obtain ⟨x, hx⟩ : ∃ x, x = l[j] := ⟨_, rfl⟩
      obtain ⟨y, hy⟩ : ∃ y, y = ds[j] := ⟨_, rfl⟩
      rw [← hx] at hi hcell
      rw [← hy] at hi hcelb
      obtain ⟨T, hT⟩ : ∃ T, dsTo l ds k = T := ⟨_, rfl⟩
      have hTl : T.length = k := by rw [← hT]; exact dsTo_length l ds k
      rw [hT] at HK hi
      have hsd := set_days (r := (key, due, (j : Int))) HK.out.dist1 hi rfl
      have HTL := Lib.hid hTl
      have HI := Lib.hid hi
      have HCC := Lib.hid (And.intro hcell hcelb)
      have HAB := Lib.hid (And.intro hadb hbdb)
      have hlt : i < T.length := (List.getElem?_eq_some_iff.1 hi).1
      have hel : (T.eraseIdx i).length = T.length - 1 := by rw [List.length_eraseIdx, if_pos hlt]
      have hput : putT 50 (T.eraseIdx i) (key, due, (j : Int)) = (0, setT T i (key, due, (j : Int))) := by
        unfold putT
        rw [keyV_no (id := ((key, due, (j : Int)) : RI).2.2) hsd.2.2.2, if_neg (by simp), if_neg (by rw [hel, hTl]; omega)]
        rfl
      have HPUT := Lib.hid hput
      have hsl : (setT T i (key, due, (j : Int))).length = k := by rw [setT, length_insT, hel, hTl]; omega
      obtain ⟨T', hT'⟩ : ∃ T', setT T i (key, due, (j : Int)) = T' := ⟨_, rfl⟩
      have KS := d2set (i := i) (key, due, (j : Int)) HK.out HI.out rfl HKY.out HDU.out (by rw [hTl]; omega) (by omega)
      rw [hT'] at KS hsl HPUT
      have KS := Lib.hid KS
      have HSL := Lib.hid hsl
      have HEL := Lib.hid hel
      clear hx hy hT hTl hi hcell hcelb hadb hbdb hjl hjd hsd hput hsl hT' hel H2' hk hlt
      go_wp2_with fail
      refine (KS.out).mono ?_
      rintro e w3 ⟨rfl, hq⟩
      have KD := Lib.hid (d2drop (i := i) hq.swap HI.out (by rw [HTL.out]; omega) (by omega))
      simp only [encR] at KD
      clear hq KS HK
      go_wp2_with fail
      refine (KD.out).mono ?_
      rintro e w4 ⟨rfl, hq⟩
      have hq5 := hq.more (w' := w4.alloc (.cells #[.int .i64 x, .int .i64 y, .int .i64 j] 60)) (G := fun i => i = w4.heap.size) ((Below.refl _ w4).alloc (Nat.le_refl _) _) (fun i hi => .inr (by rw [World.size_alloc]; omega))
      have KP := d2put (key, due, (j : Int)) hq5 HKY.out HDU.out (wf64_nat' (by omega)) (by rw [HEL.out, HTL.out]; omega) (by omega)
      rw [HPUT.out] at KP
      have KP := Lib.hid KP
      clear hq KD hq5
      go_wp2_with fail
      refine (KP.out).mono ?_
      rintro e w5 ⟨rfl, hq, hk5⟩
      have hx5 : w5.heap[w4.heap.size]? = some (.cells #[.int .i64 x, .int .i64 y, .int .i64 j] 60 (0, 0)) := (hk5 _ rfl).trans (World.alloc_heap_new _ _)
      have K1 := Lib.hid (d2first most hq.swap (by rw [HSL.out]; omega))
      have HX5 := Lib.hid hx5
      obtain ⟨ob, hob⟩ : ∃ ob, optR (firstT most T') = ob := ⟨_, rfl⟩
      rw [hob] at K1
      have HOB := Lib.hid hob
      obtain ⟨⟨p0, p1, p2⟩, bb⟩ := ob
      simp only [encR] at K1
      clear hq KP hk5 hx5 hob
      go_wp2_with fail
      refine (K1.out).mono ?_
      rintro e w6 ⟨rfl, hq, hb6⟩
      have hx6 := (hb6.block _ (Array.getElem?_eq_some_iff.1 HX5.out).1).trans HX5.out
      have K2 := Lib.hid (d2first most (hq.swap.below ((Below.refl _ w6).alloc (Nat.le_refl _) (.cells #[.int .i64 p0, .int .i64 p1, .int .i64 p2] 60))) (by rw [HSL.out]; omega))
      rw [HOB.out] at K2
      simp only [encR] at K2
      have HX6 := Lib.hid hx6
      clear hq K1 hb6 hx6 HX5
      go_wp2_with fail
      refine (K2.out).mono ?_
      rintro e w7 ⟨rfl, hq, hb7⟩
      have ha7 : w7.heap[w6.heap.size]? = some (.cells #[.int .i64 p0, .int .i64 p1, .int .i64 p2] 60 (0, 0)) := (hb7.block _ (by simp)).trans (World.alloc_heap_new _ _)
      have hx7 := (hb7.block w4.heap.size (by have := (Array.getElem?_eq_some_iff.1 HX6.out).1; simp; omega)).trans ((Below.heap_alloc _ _ _ (Array.getElem?_eq_some_iff.1 HX6.out).1).trans HX6.out)
      obtain ⟨w8, hw8⟩ : ∃ w8, w7.alloc (.cells #[.int .i64 p0, .int .i64 p1, .int .i64 p2] 60) = w8 := ⟨_, rfl⟩
      have hb8 : Below w7.heap.size w7 w8 := by rw [← hw8]; exact (Below.refl _ w7).alloc (Nat.le_refl _) _
      have ha8 := (hb8.block _ (Array.getElem?_eq_some_iff.1 ha7).1).trans ha7
      have hx8 := (hb8.block _ (Array.getElem?_eq_some_iff.1 hx7).1).trans hx7
      have hc8 : w8.heap[w7.heap.size]? = some (.cells #[.int .i64 p0, .int .i64 p1, .int .i64 p2] 60 (0, 0)) := by rw [← hw8]; exact World.alloc_heap_new _ _
      have hq8 := hq.below hb8
      have x0 : w8.cell? ⟨w4.heap.size, 0, none⟩ = some (.int .i64 x) := by simp [World.cell?, hx8]
      have x1 : w8.cell? ⟨w4.heap.size, 1, none⟩ = some (.int .i64 y) := by simp [World.cell?, hx8]
      have a0 : w8.cell? ⟨w6.heap.size, 0, none⟩ = some (.int .i64 p0) := by simp [World.cell?, ha8]
      have a1 : w8.cell? ⟨w6.heap.size, 1, none⟩ = some (.int .i64 p1) := by simp [World.cell?, ha8]
      have a2 : w8.cell? ⟨w6.heap.size, 2, none⟩ = some (.int .i64 p2) := by simp [World.cell?, ha8]
      have c0 : w8.cell? ⟨w7.heap.size, 0, none⟩ = some (.int .i64 p0) := by simp [World.cell?, hc8]
      have c1 : w8.cell? ⟨w7.heap.size, 1, none⟩ = some (.int .i64 p1) := by simp [World.cell?, hc8]
      have c2 : w8.cell? ⟨w7.heap.size, 2, none⟩ = some (.int .i64 p2) := by simp [World.cell?, hc8]
      have hk0 := (hq8.frame.cell (p := ad.add j) (by rw [add_block]; exact HAB.out.1)).trans HCC.out.1
      have hd0 := (hq8.frame.cell (p := bd.add j) (by rw [add_block]; exact HAB.out.2)).trans HCC.out.2
      have L1 : ∀ n, Calls Try.prog 35 #[.pointer (some ⟨d, 0, none⟩)] (w8.drewN n) fun e w'' => e = .returned (.int .i64 k) ∧ ∃ m, w'' = w8.drewN m := fun n => by
        have h := d2len (hq8.swap.below (below_drewN (Below.refl _ w8) n))
        rw [HSL.out] at h
        exact h.mono (fun _ _ ⟨he, hw⟩ => ⟨he, n, hw.symm⟩)
      have L2 : ∀ n, Calls Try.prog 35 #[.pointer (some ⟨d2, 0, none⟩)] (w8.drewN n) fun e w'' => e = .returned (.int .i64 k) ∧ ∃ m, w'' = w8.drewN m := fun n => by
        have h := d2len (hq8.below (below_drewN (Below.refl _ w8) n))
        rw [HSL.out] at h
        exact h.mono (fun _ _ ⟨he, hw⟩ => ⟨he, n, hw.symm⟩)
      have L1 := Lib.hid L1
      have L2 := Lib.hid L2
      have HF := Lib.hid hq8.frame
      have hjm : (j : Int) < (k : Int) := by omega
      have hjm' : (j : Int) < (nd : Int) := by omega
      clear hq K2 hb7 ha7 hx7 hb8 ha8 hx8 hc8 hq8
      go_wp2_with fail
      clear hw8
      have e0 : (x == x) = true := by simp
      have e1 : (y == y) = true := by simp
      have e2 : (bb == bb) = true := by simp
      go_big_quiet ((first | exact L1.out _ | exact L2.out _))
      go_wp2_with fail
      go_ret
      exact ⟨rfl, below_drewN HF.out _⟩
end Go.Proofs.Ytghjanonffiohaa
