/- The reference's queue: Leave. The reference's queue: Weigh, Charge. -/
import Derived.Test.YtnfcapeajhegmaaGreatMd
namespace Go.Proofs.YtnfcapeajhegmaaGreat
open Go.RowKit

set_option maxRecDepth 100000 in
set_option maxHeartbeats 4000000 in
theorem rlea_no (p : Nat) (tag base cur id : Int) (v : Value) (l : List TI) (w : World) (h : IsT w p tag base cur v l) (hl : l.length ≤ 1000000) (hat : atT id l 0 = -1) :
    Calls Tryz.prog 33 #[.pointer (some ⟨p, 0, none⟩), .int .i64 id] w fun e w' => e = .returned (.tuple #[.int .i64 0, .int .i64 2]) ∧ w = w' := by
  have ka := rat_c p tag base cur id v l w h hl
  rw [hat] at ka
  have KA := Lib.hid ka
  clear h ka hat
  go_enter Tryz.func33, Tryz.ntmps33
  go_wp2_with fail
  refine KA.out.mono ?_; rintro e w' ⟨rfl, rfl⟩
  go_wp2_with fail
  go_ret2
  exact ⟨rfl, rfl⟩

set_option linter.unusedSimpArgs false in
set_option maxRecDepth 100000 in
set_option maxHeartbeats 16000000 in
theorem rlea_yes (p g c k : Nat) (tag base cur id : Int) (l : List TI) (x : TI) (w : World) (h : IsT w p tag base cur (.slice (some ⟨g, 0, none⟩) l.length c) l) (hl : l.length ≤ 1000000) (hat : atT id l 0 = ((k : Nat) : Int)) (hx : l[k]? = some x)
    (hb1 : -4000000000000000000 ≤ base) (hb2 : base ≤ 4000000000000000000) (hv1 : -4000000000000000000 ≤ x.2.2.1) (hv2 : x.2.2.1 ≤ 4000000000000000000) :
    Calls Tryz.prog 33 #[.pointer (some ⟨p, 0, none⟩), .int .i64 id] w fun e w' => e = .returned (.tuple #[.int .i64 (base - x.2.2.1), .int .i64 0]) ∧ RPost p tag (.slice (some ⟨g, 0, none⟩) l.length c) (growT base (l.eraseIdx k)) (if cur = id then -1 else cur) (l.eraseIdx k) w w' := by
  have ka := rat_c p tag base cur id _ l w h hl
  rw [hat] at ka
  have KA := Lib.hid ka
  obtain ⟨n, hn⟩ : ∃ n, l.length = n := ⟨_, rfl⟩
  obtain ⟨c0, c1, c2, c3⟩ := h.cells
  have hlt : k < n := by rw [← hn]; exact (List.getElem?_eq_some_iff.1 hx).1
  obtain ⟨g', cc, hv, hgw, hcc, d0, d1, d2, d3⟩ := h.2.1.get hx
  obtain rfl : g = g' := by injection hv with hv1; injection hv1 with hv1; injection hv1 with hv1
  obtain rfl : c = cc := by injection hv
  rw [hn] at c3 hl hcc
  have HN := Lib.hid hn
  have HH := Lib.hid h
  have HX := Lib.hid hx
  have hers : l.eraseIdx k = l.take k ++ l.drop (k + 1) := List.eraseIdx_eq_take_drop_succ l k
  have HE := Lib.hid hers
  obtain ⟨C, hC⟩ : ∃ C, (if cur = id then -1 else cur) = C := ⟨_, rfl⟩
  rw [hC]
  have HC := Lib.hid hC
  have hw1 : IntKind.i64.wrap (base - x.2.2.1) = base - x.2.2.1 := by rw [IntKind.wrap_i64]; omega
  obtain ⟨x0, x1, xv, x3⟩ := x
  simp only at d0 d1 d2 d3 hw1 hv1 hv2 ⊢
  have F0 : Hid (∀ w', Below w.heap.size w w' → w'.frozen? ⟨p, 3, none⟩ = false) := Lib.hid (fun w' hb => (h.below hb).free 3)
  have hk0 : (0 : Int) ≤ (k : Int) := by omega
  have hkm : (k : Int) < (n : Int) := by omega
  clear h ka hat hx hv hn hers hC d0 d1 d3 c0
  go_enter Tryz.func33, Tryz.ntmps33
  go_wp2_with fail
  refine KA.out.mono ?_; rintro e w' ⟨rfl, rfl⟩
  clear KA
  go_wp2_with fail
  go_big_quiet (fail)
  rename_i nq
  obtain ⟨wL, hwL⟩ : ∃ wL, w.drewN nq = wL := ⟨_, rfl⟩
  have HBL : Hid (Below w.heap.size w wL) := Lib.hid (by rw [← hwL]; exact below_drewN (Below.refl _ w) nq)
  have HHL := Lib.hid (HH.out.below HBL.out)
  have HT : Hid (Trip (TOf p (.slice (some ⟨g, 0, none⟩) l.length c)) w (TOf p (.slice (some ⟨g, 0, none⟩) l.length c)) wL) := Lib.hid (by rw [← hwL]; exact tripN HH.out.self nq)
  rw [hwL]
  clear hwL c1 c2 c3 d2
  go_wp2_with fail
  have hkc : ((k : Int) + 1) ≤ (c : Int) := by omega
  have hkc0 : (k : Int) ≤ (c : Int) := by omega
  have hknI : (k : Int) ≤ (n : Int) := by omega
  have hkn1 : (k : Int) + 1 ≤ (n : Int) := by omega
  have hk10 : (0 : Int) ≤ (k : Int) + 1 := by omega
  have hncI : (n : Int) ≤ (c : Int) := by omega
  have hw2 : IntKind.i64.wrap ((k : Int) + 1) = (k : Int) + 1 := by rw [IntKind.wrap_i64]; omega
  obtain ⟨AD, hAD⟩ : ∃ AD, (if c = k + 1 then some (⟨g, 0, none⟩ : Addr) else some ⟨g, (k + 1) * 4, none⟩) = some AD := by split <;> exact ⟨_, rfl⟩
  have hrw : ∀ w', Below wL.heap.size wL w' → TV w' (.slice (some ⟨g, 0, none⟩) l.length c) l := fun w' hb => (HHL.out.below hb).2.1
  have hP1 : Hid (∀ w', Below wL.heap.size wL w' → TSrc w' (some ⟨g, 0, none⟩) k c (flatT (l.take k))) := Lib.hid (fun w' hb => .inr ⟨_, rfl, fun j u hu => by
    have ha : ∀ i, (⟨g, 0, none⟩ : Addr).add i = ⟨g, i, none⟩ := fun i => by unfold Addr.add; split <;> simp_all
    rw [ha]
    have := (hrw w' hb).part 0 (t := l.take k) (by rw [List.drop_zero]; exact List.take_prefix _ _) j u hu
    simpa using this⟩)
  have hP2 : Hid (∀ w', Below wL.heap.size wL w' → TSrc w' (some AD) (n - (k + 1)) (c - (k + 1)) (flatT (l.drop (k + 1)))) := Lib.hid (fun w' hb => .inr ⟨_, rfl, fun j u hu => by
    by_cases hcc' : c = k + 1
    · have h1 : l.drop (k + 1) = [] := List.drop_eq_nil_of_le (by rw [HN.out]; omega)
      rw [h1] at hu
      simp [flatT] at hu
    · rw [if_neg hcc'] at hAD
      injection hAD with hAD
      subst hAD
      have ha : ∀ o i, (⟨g, o, none⟩ : Addr).add i = ⟨g, o + i, none⟩ := fun o i => by unfold Addr.add; split <;> simp_all
      rw [ha]
      exact (hrw w' hb).part (k + 1) (t := l.drop (k + 1)) (List.prefix_refl _) j u hu⟩)
  have HL1 : Hid ((flatT (l.take k)).length = k * 4) := Lib.hid (by rw [flatT_length, List.length_take, HN.out]; omega)
  have HL2 : Hid ((flatT (l.drop (k + 1))).length = (n - (k + 1)) * 4) := Lib.hid (by rw [flatT_length, List.length_drop, HN.out])
  clear hrw
  have SS : Hid (∀ w', Below wL.heap.size wL w' → w'.cell? ⟨p, 3, none⟩ = some (.slice (some ⟨g, 0, none⟩) n c)) := Lib.hid (fun w' hb => by have := (HHL.out.below hb).cells.2.2.2; rwa [HN.out] at this)
  have HB0 : Hid (Below wL.heap.size wL wL.drew) := Lib.hid (Below.refl _ wL).drew
  obtain ⟨i0, hi, hz0, hz1, hz2⟩ := info_partsT info_ti
  refine wp_region_phase 17 (by kernel_rfl) (by kernel_rfl) (fun w' => w'.cell? ⟨p, 3, none⟩ = some (.slice (some ⟨g, 0, none⟩) n c)) ?_
  refine wpAnyH_take (i := 0) (v := .pointer (some ⟨p, 0, none⟩)) rfl (by kernel_rfl) (by kernel_rfl) (by kernel_rfl) (fun _ _ _ h => h) (Or.inl ⟨by rfl, ?_⟩) (SS.out _ HB0.out) ?_
  · intro w' s1; go_simp
  simp only [Act.put, List.setIfInBounds_toArray, List.set_cons_zero, List.set_cons_succ]
  refine wpAnyH_take (i := 2) (v := .pointer (some ⟨p, 0, none⟩)) rfl (by kernel_rfl) (by kernel_rfl) (by kernel_rfl) (fun _ _ _ h => h) (Or.inl ⟨by rfl, ?_⟩) (SS.out _ HB0.out) ?_
  · intro w' s1; go_simp
  simp only [Act.put, List.setIfInBounds_toArray, List.set_cons_zero, List.set_cons_succ]
  refine wpAnyH_take (i := 3) (v := .pointer (some ⟨p, 0, none⟩)) rfl (by kernel_rfl) (by kernel_rfl) (by kernel_rfl) (fun _ _ _ h => h) (Or.inl ⟨by rfl, ?_⟩) (SS.out _ HB0.out) ?_
  · intro w' s1; go_simp
  simp only [Act.put, List.setIfInBounds_toArray, List.set_cons_zero, List.set_cons_succ]
  refine wpAnyH_take (i := 4) (v := .pointer (some ⟨p, 3, none⟩)) rfl (by kernel_rfl) (by kernel_rfl) (by kernel_rfl) (fun _ _ _ h => h) (Or.inl ⟨by rfl, ?_⟩) (SS.out _ HB0.out) ?_
  · intro w' s1; go_simp
  simp only [Act.put, List.setIfInBounds_toArray, List.set_cons_zero, List.set_cons_succ]
  refine wpAnyH_take (i := 5) (v := .slice (some ⟨g, 0, none⟩) n c) rfl (by kernel_rfl) (by kernel_rfl) (by kernel_rfl) (fun _ _ _ h => h) (Or.inl ⟨by rfl, ?_⟩) (SS.out _ HB0.out) ?_
  · intro w' s1; go_simp
  simp only [Act.put, List.setIfInBounds_toArray, List.set_cons_zero, List.set_cons_succ]
  refine wpAnyH_take (i := 6) (v := .int .i64 k) rfl (by kernel_rfl) (by kernel_rfl) (by kernel_rfl) (fun _ _ _ h => h) (Or.inl ⟨by rfl, ?_⟩) (SS.out _ HB0.out) ?_
  · intro w' s1; go_simp
  simp only [Act.put, List.setIfInBounds_toArray, List.set_cons_zero, List.set_cons_succ]
  refine wpAnyH_take (i := 7) (v := .slice (some ⟨g, 0, none⟩) k c) rfl (by kernel_rfl) (by kernel_rfl) (by kernel_rfl) (fun _ _ _ h => h) (Or.inl ⟨by rfl, ?_⟩) (SS.out _ HB0.out) ?_
  · intro w' s1; go_simp
  simp only [Act.put, List.setIfInBounds_toArray, List.set_cons_zero, List.set_cons_succ]
  refine wpAnyH_take (i := 9) (v := .pointer (some ⟨p, 0, none⟩)) rfl (by kernel_rfl) (by kernel_rfl) (by kernel_rfl) (fun _ _ _ h => h) (Or.inl ⟨by rfl, ?_⟩) (SS.out _ HB0.out) ?_
  · intro w' s1; go_simp
  simp only [Act.put, List.setIfInBounds_toArray, List.set_cons_zero, List.set_cons_succ]
  refine wpAnyH_take (i := 10) (v := .pointer (some ⟨p, 0, none⟩)) rfl (by kernel_rfl) (by kernel_rfl) (by kernel_rfl) (fun _ _ _ h => h) (Or.inl ⟨by rfl, ?_⟩) (SS.out _ HB0.out) ?_
  · intro w' s1; go_simp
  simp only [Act.put, List.setIfInBounds_toArray, List.set_cons_zero, List.set_cons_succ]
  refine wpAnyH_take (i := 11) (v := .pointer (some ⟨p, 3, none⟩)) rfl (by kernel_rfl) (by kernel_rfl) (by kernel_rfl) (fun _ _ _ h => h) (Or.inl ⟨by rfl, ?_⟩) (SS.out _ HB0.out) ?_
  · intro w' s1; go_simp
  simp only [Act.put, List.setIfInBounds_toArray, List.set_cons_zero, List.set_cons_succ]
  refine wpAnyH_take (i := 12) (v := .slice (some ⟨g, 0, none⟩) n c) rfl (by kernel_rfl) (by kernel_rfl) (by kernel_rfl) (fun _ _ _ h => h) (Or.inl ⟨by rfl, ?_⟩) (SS.out _ HB0.out) ?_
  · intro w' s1; go_simp
  simp only [Act.put, List.setIfInBounds_toArray, List.set_cons_zero, List.set_cons_succ]
  refine wpAnyH_take (i := 13) (v := .int .i64 k) rfl (by kernel_rfl) (by kernel_rfl) (by kernel_rfl) (fun _ _ _ h => h) (Or.inl ⟨by rfl, ?_⟩) (SS.out _ HB0.out) ?_
  · intro w' s1; go_simp
  simp only [Act.put, List.setIfInBounds_toArray, List.set_cons_zero, List.set_cons_succ]
  refine wpAnyH_take (i := 14) (v := .int .i64 ((k : Int) + 1)) rfl (by kernel_rfl) (by kernel_rfl) (by kernel_rfl) (fun _ _ _ h => h) (Or.inl ⟨by rfl, ?_⟩) (SS.out _ HB0.out) ?_
  · intro w' s1; go_simp
  simp only [Act.put, List.setIfInBounds_toArray, List.set_cons_zero, List.set_cons_succ]
  refine wpAnyH_take (i := 15) (v := .slice (some AD) (n - (k + 1)) (c - (k + 1))) rfl (by kernel_rfl) (by kernel_rfl) (by kernel_rfl) (fun _ _ _ h => h) (Or.inl ⟨by rfl, ?_⟩) (SS.out _ HB0.out) ?_
  · intro w' s1; go_simp
  simp only [Act.put, List.setIfInBounds_toArray, List.set_cons_zero, List.set_cons_succ]
  refine wpAnyH_ready (rs := [1]) (by kernel_rfl) (by simp) ?_
  refine AllReadyH.cons rfl (fun K hK => ?_) AllReadyH.nil
  go_simp
  have hBe : Below wL.heap.size wL (wL.alloc (.cells #[] 73)).drew := ((Below.refl _ wL).alloc (Nat.le_refl _) _).drew
  refine hK.out _ _ (SS.out _ hBe) (fun _ => ?_)
  clear hK
  refine wpAnyH_ready (rs := [8]) (by kernel_rfl) (by simp) ?_
  refine AllReadyH.cons rfl (fun K hK => ?_) AllReadyH.nil
  refine stept_src (by rfl) _ _ 68 (by rfl) wL.heap.size 73 i0 (.agg #[.int .i64 0, .int .i64 0, .int .i64 0, .int .i64 0]) 4 32 Tryz.underlying68 hi hz0 hz1 hz2 (by rfl) (by omega) wL.heap.size 0 0 _ (by rfl) (ownT_empty wL _) (some ⟨g, 0, none⟩) k c (flatT (l.take k)) (by rfl) HL1.out (hP1.out _ hBe) (flatT_one _) (by unfold maxLen; omega) (by omega) (hBe).size ?_
  intro g3 c3 w3 ho3 hg3 hw3
  rw [Nat.zero_add] at ho3 ⊢
  have hB3 : Below wL.heap.size wL w3 := grownT_below hBe hg3 (Nat.le_refl _) (hBe).size
  refine hK.out _ _ (SS.out _ hB3) (fun _ => ?_)
  clear hK
  refine wpAnyH_ready (rs := [16]) (by kernel_rfl) (by simp) ?_
  refine AllReadyH.cons rfl (fun K hK => ?_) AllReadyH.nil
  refine stept_src (by rfl) _ _ 68 (by rfl) wL.heap.size 73 i0 (.agg #[.int .i64 0, .int .i64 0, .int .i64 0, .int .i64 0]) 4 32 Tryz.underlying68 hi hz0 hz1 hz2 (by rfl) (by omega) g3 c3 k _ (by rfl) ho3 (some AD) (n - (k + 1)) (c - (k + 1)) (flatT (l.drop (k + 1))) (by rfl) HL2.out (hP2.out _ hB3) (flatT_one _) (by unfold maxLen; omega) (by omega) (hB3).size ?_
  intro g6 c6 w6 ho6 hg6 hw6
  have hB6 : Below wL.heap.size wL w6 := grownT_below hB3 hg6 (World.ownsRow.lt ho3 _ rfl).1 (hB3).size
  refine hK.out _ _ (SS.out _ hB6) (fun _ => ?_)
  clear hK
  refine wpAnyH_done (by kernel_rfl) ?_ _
  refine phase_tail (by kernel_rfl) ?_
  have e : flatT (l.eraseIdx k) = [] ++ flatT (l.take k) ++ flatT (l.drop (k + 1)) := by rw [HE.out, flatT_append]; simp
  have hlen : (l.eraseIdx k).length = k + (n - (k + 1)) := by rw [List.length_eraseIdx, if_pos (by rw [HN.out]; exact hlt), HN.out]; omega
  have f6 := F0.out w6 (HBL.out.trans (hB6.mono HBL.out.size))
  have s6 := SS.out _ hB6
  obtain ⟨pst, ptr⟩ := list_post HHL.out hB6 (by rw [e]; exact ho6) hlen
  have c2 := pst.cells.2.2.1
  have f2 := pst.free 2
  have hll : (l.eraseIdx k).length ≤ 1000000 := by omega
  have POST := Lib.hid (And.intro pst (HT.out.trans ptr))
  clear pst ptr hB6 hB3 hBe ho6 ho3 hg6 hg3 hw6 hw3 e hlen
  simp only [List.drop_succ_cons, List.drop_zero]
  by_cases hc : cur = id
  · have hC := HC.out
    rw [if_pos hc] at hC
    subst hc hC
    have pst2 := POST.out.1.setC (-1)
    have KG := Lib.hid (rgrow_c _ _ _ _ _ _ _ pst2.1 hll)
    have PO := Lib.hid pst2.2
    clear pst2
    go_wp2_with fail
    refine KG.out.mono ?_
    rintro e w8 ⟨rfl, hq, ht⟩
    have HQ := Lib.hid (And.intro hq ht)
    clear hq ht KG
    go_wp2_with fail
    go_ret2
    exact ⟨rfl, _, HQ.out.1, POST.out.2.trans (PO.out.trans HQ.out.2)⟩
  · have hC := HC.out
    rw [if_neg hc] at hC
    subst hC
    have hc' : (cur == id) = false := by simp [hc]
    have KG := Lib.hid (rgrow_c _ _ _ _ _ _ _ POST.out.1 hll)
    go_wp2_with fail
    refine KG.out.mono ?_
    rintro e w8 ⟨rfl, hq, ht⟩
    have HQ := Lib.hid (And.intro hq ht)
    clear hq ht KG
    go_wp2_with fail
    go_ret2
    exact ⟨rfl, _, HQ.out.1, POST.out.2.trans HQ.out.2⟩
end Go.Proofs.YtnfcapeajhegmaaGreat

namespace Go.Proofs.YtnfcapeajhegmaaGreat
open Go.RowKit

theorem flatT_set {l : List TI} {k i : Nat} {x y : TI} (hx : l[k]? = some x) (hi : i < 4) (u : Value) (he : encT y = (encT x).set i u) : flatT (l.set k y) = (flatT l).set (k * 4 + i) u := by
  induction l generalizing k with
  | nil => simp at hx
  | cons z zs ih =>
    cases k with
    | zero =>
      simp at hx
      subst hx
      rw [List.set_cons_zero, flatT, flatT, he, List.set_append_left _ _ (by simp [encT]; omega)]
      simp
    | succ k =>
      have h' : zs[k]? = some x := by simpa using hx
      rw [List.set_cons_succ, flatT, flatT, ih h', List.set_append_right _ _ (by simp [encT]; omega)]
      have e : (k + 1) * 4 + i - (encT z).length = k * 4 + i := by simp [encT]; omega
      rw [e]
/-- A cell of a task's is set. -/
theorem IsT.setRow {w : World} {p g c n k i : Nat} {tag base cur : Int} {l : List TI} {x y : TI} (h : IsT w p tag base cur (.slice (some ⟨g, 0, none⟩) n c) l) (hn : l.length = n) (hx : l[k]? = some x) (hi : i < 4) (u : Value) (he : encT y = (encT x).set i u) :
    IsT (w.setCell ⟨g, k * 4 + i, none⟩ u) p tag base cur (.slice (some ⟨g, 0, none⟩) n c) (l.set k y) ∧ Trip (TOf p (.slice (some ⟨g, 0, none⟩) n c)) w (TOf p (.slice (some ⟨g, 0, none⟩) n c)) (w.setCell ⟨g, k * 4 + i, none⟩ u) := by
  subst hn
  have hne : g ≠ p := fun e => h.2.2 (by rw [← e]; rfl)
  refine ⟨⟨(Below.heap_setCell w _ _ p (fun e => hne e.symm)).trans h.1, ?_, h.2.2⟩, Trip.of_same h.lt ⟨rfl, rfl, rfl, by simp [World.setCell], fun j _ hn => Below.heap_setCell w _ _ j (fun e => hn (.inr (by rw [show j = g from e]; rfl)))⟩⟩
  unfold TV
  rw [List.length_set, flatT_set hx hi u he]
  exact (World.ownsRow.stored h.2.1 (k * 4 + i) u).1
theorem IsT.rowFree {w : World} {p g c n : Nat} {tag base cur : Int} {l : List TI} (h : IsT w p tag base cur (.slice (some ⟨g, 0, none⟩) n c) l) (j : Nat) : w.frozen? ⟨g, j, none⟩ = false := by
  rcases h.2.1.2 with ⟨h1, _⟩ | ⟨g', cap, cur', h1, _, h3, _⟩
  · cases h1
  · obtain rfl : g = g' := by injection h1 with h1; injection h1 with h1; injection h1
    simp [World.frozen?, h3]

set_option maxRecDepth 100000 in
set_option maxHeartbeats 4000000 in
theorem rwei_no (p : Nat) (tag base cur id nw : Int) (v : Value) (l : List TI) (w : World) (h : IsT w p tag base cur v l) (hl : l.length ≤ 1000000) (hat : atT id l 0 = -1) :
    Calls Tryz.prog 35 #[.pointer (some ⟨p, 0, none⟩), .int .i64 id, .int .i64 nw] w fun e w' => e = .returned (.int .i64 2) ∧ w = w' := by
  have ka := rat_c p tag base cur id v l w h hl
  rw [hat] at ka
  have KA := Lib.hid ka
  clear h ka hat
  go_enter Tryz.func35, Tryz.ntmps35
  go_wp2_with fail
  refine KA.out.mono ?_; rintro e w' ⟨rfl, rfl⟩
  go_wp2_with fail
  go_ret
  exact ⟨rfl, rfl⟩
set_option maxRecDepth 100000 in
set_option maxHeartbeats 4000000 in
theorem rwei_bad (p : Nat) (tag base cur id nw : Int) (v : Value) (l : List TI) (w : World) (h : IsT w p tag base cur v l) (hl : l.length ≤ 1000000) (hat : 0 ≤ atT id l 0) (hg : goodB nw = false) :
    Calls Tryz.prog 35 #[.pointer (some ⟨p, 0, none⟩), .int .i64 id, .int .i64 nw] w fun e w' => e = .returned (.int .i64 1) ∧ w = w' := by
  have ka := rat_c p tag base cur id v l w h hl
  have kg := rgoodw_c nw w
  rw [hg] at kg
  have KG := Lib.hid kg
  generalize atT id l 0 = at0 at *
  have KA := Lib.hid ka
  clear h ka kg hg
  go_enter Tryz.func35, Tryz.ntmps35
  go_wp2_with fail
  refine KA.out.mono ?_; rintro e w' ⟨rfl, rfl⟩
  go_wp2_with fail
  refine KG.out.mono ?_; rintro e w' ⟨rfl, rfl⟩
  go_wp2_with fail
  go_ret
  exact ⟨rfl, rfl⟩
set_option linter.unusedSimpArgs false in
set_option maxRecDepth 100000 in
set_option maxHeartbeats 16000000 in
theorem rwei_yes (p g c k : Nat) (tag base cur id nw : Int) (l : List TI) (x : TI) (w : World) (h : IsT w p tag base cur (.slice (some ⟨g, 0, none⟩) l.length c) l) (hl : l.length ≤ 1000000) (hat : atT id l 0 = ((k : Nat) : Int)) (hx : l[k]? = some x) (hgd : goodB nw = true) (hv1 : -4000000000000000000 ≤ x.2.2.1) (hv2 : x.2.2.1 ≤ 4000000000000000000) :
    Calls Tryz.prog 35 #[.pointer (some ⟨p, 0, none⟩), .int .i64 id, .int .i64 nw] w fun e w' => e = .returned (.int .i64 0) ∧ RPost p tag (.slice (some ⟨g, 0, none⟩) l.length c) (growT base (l.set k (x.1, nw, x.2.2.1, x.2.2.1 + 4 * tickV nw))) cur (l.set k (x.1, nw, x.2.2.1, x.2.2.1 + 4 * tickV nw)) w w' := by
  have kg := rgoodw_c nw w
  rw [hgd] at kg
  have KGD := Lib.hid kg
  have KD := Lib.hid (fun w => rday_c nw w)
  obtain ⟨hd1, hd2⟩ := tickV_bd nw
  obtain ⟨dv, hdv⟩ : ∃ dv, 4 * tickV nw = dv := ⟨_, rfl⟩
  simp only [hdv] at KD ⊢
  have hdd1 : 0 ≤ dv := by omega
  have hdd2 : dv ≤ 931170240 := by omega
  have ka := rat_c p tag base cur id _ l w h hl
  rw [hat] at ka
  have KA := Lib.hid ka
  obtain ⟨n, hn⟩ : ∃ n, l.length = n := ⟨_, rfl⟩
  obtain ⟨c0, c1, c2, c3⟩ := h.cells
  have hlt : k < n := by rw [← hn]; exact (List.getElem?_eq_some_iff.1 hx).1
  obtain ⟨g', cc, hv, hgw, hcc, d0, d1, d2, d3⟩ := h.2.1.get hx
  obtain rfl : g = g' := by injection hv with hv1; injection hv1 with hv1; injection hv1 with hv1
  obtain rfl : c = cc := by injection hv
  rw [hn] at c3 hl hcc
  have HN := Lib.hid hn
  rw [hn] at h
  try rw [hn]
  have HH := Lib.hid h
  have HX := Lib.hid hx
  have hk0 : (0 : Int) ≤ (k : Int) := by omega
  have hkm : (k : Int) < (n : Int) := by omega
  obtain ⟨x0, x1, xv, x3⟩ := x
  simp only at d0 d1 d2 d3 hv1 hv2 ⊢
  have hw2 : IntKind.i64.wrap (xv + dv) = xv + dv := by rw [IntKind.wrap_i64]; omega
  have hp1 := h.setRow (y := (x0, nw, xv, x3)) (i := 1) HN.out HX.out (by omega) (.int .i64 nw) rfl
  have hp2 := hp1.1.setRow (k := k) (x := (x0, nw, xv, x3)) (y := (x0, nw, xv, xv + dv)) (i := 3) (by rw [List.length_set]; exact HN.out) (by rw [List.getElem?_set_self (by rw [HN.out]; exact hlt)]) (by omega) (.int .i64 (xv + dv)) rfl
  rw [List.set_set] at hp2
  have f1 := h.rowFree (k * 4 + 1)
  have f2 := hp1.1.rowFree (k * 4 + 3)
  have e3 : (w.setCell ⟨g, k * 4 + 1, none⟩ (.int .i64 nw)).cell? ⟨g, k * 4 + 3, none⟩ = some (.int .i64 x3) := by
    obtain ⟨g2, c2', hv', _, _, _, _, _, t3⟩ := hp1.1.2.1.get (j := k) (x := (x0, nw, xv, x3)) (by rw [List.getElem?_set_self (by rw [HN.out]; exact hlt)])
    obtain rfl : g = g2 := by injection hv' with hv1; injection hv1 with hv1; injection hv1 with hv1
    exact t3
  have SB : Hid ((w.setCell ⟨g, k * 4 + 1, none⟩ (.int .i64 nw)).drew.cell? ⟨p, 3, none⟩ = some (.slice (some ⟨g, 0, none⟩) n c) ∧ (w.setCell ⟨g, k * 4 + 1, none⟩ (.int .i64 nw)).drew.cell? ⟨g, k * 4 + 2, none⟩ = some (.int .i64 xv)) := Lib.hid (by
    obtain ⟨g2, c2', hv', _, _, _, _, t2, _⟩ := hp1.1.2.1.get (j := k) (x := (x0, nw, xv, x3)) (by rw [List.getElem?_set_self (by rw [HN.out]; exact hlt)])
    obtain rfl : g = g2 := by injection hv' with hv1; injection hv1 with hv1; injection hv1 with hv1
    exact ⟨hp1.1.cells.2.2.2, t2⟩)
  have SC : Hid (((w.setCell ⟨g, k * 4 + 1, none⟩ (.int .i64 nw)).setCell ⟨g, k * 4 + 3, none⟩ (.int .i64 (xv + dv))).drew.cell? ⟨p, 3, none⟩ = some (.slice (some ⟨g, 0, none⟩) n c) ∧ ((w.setCell ⟨g, k * 4 + 1, none⟩ (.int .i64 nw)).setCell ⟨g, k * 4 + 3, none⟩ (.int .i64 (xv + dv))).drew.cell? ⟨g, k * 4 + 2, none⟩ = some (.int .i64 xv)) := Lib.hid (by
    obtain ⟨g2, c2', hv', _, _, _, _, t2, _⟩ := hp2.1.2.1.get (j := k) (x := (x0, nw, xv, xv + dv)) (by rw [List.getElem?_set_self (by rw [HN.out]; exact hlt)])
    obtain rfl : g = g2 := by injection hv' with hv1; injection hv1 with hv1; injection hv1 with hv1
    exact ⟨hp2.1.cells.2.2.2, t2⟩)
  have KG := Lib.hid (fun w' hq => rgrow_c p tag base cur (.slice (some ⟨g, 0, none⟩) n c) (l.set k (x0, nw, xv, xv + dv)) w' hq (by rw [List.length_set, HN.out]; omega))
  have HP := Lib.hid (And.intro hp2.1 (hp1.2.trans hp2.2))
  have S0 : Hid (w.drew.cell? ⟨p, 3, none⟩ = some (.slice (some ⟨g, 0, none⟩) n c) ∧ w.drew.cell? ⟨g, k * 4 + 2, none⟩ = some (.int .i64 xv)) := Lib.hid ⟨c3, d2⟩
  clear h ka kg hat hx hv hn hgd hdv hd1 hd2 c0 c1 c2 d0 d3 hp1 hp2
  go_enter Tryz.func35, Tryz.ntmps35
  go_wp2_with fail
  refine KA.out.mono ?_; rintro e w' ⟨rfl, rfl⟩
  clear KA
  go_wp2_with fail
  refine KGD.out.mono ?_; rintro e w' ⟨rfl, rfl⟩
  clear KGD
  go_wp2_with fail
  refine wp_region_held (S := fun w' => w'.cell? ⟨p, 3, none⟩ = some (.slice (some ⟨g, 0, none⟩) n c) ∧ w'.cell? ⟨g, k * 4 + 2, none⟩ = some (.int .i64 xv)) (by kernel_rfl) ?_
  change wpAnyH _ _ _ _ _ _ _ _ w.drew
  refine wpAnyH_take (i := 0) (v := .pointer (some ⟨p, 0, none⟩)) rfl (by kernel_rfl) (by kernel_rfl) (by kernel_rfl) (fun _ _ _ h => h) (Or.inl ⟨by rfl, ?_⟩) S0.out ?_
  · rintro w' ⟨s1, s2⟩; go_simp
  simp only [Act.put, List.setIfInBounds_toArray, List.set_cons_zero, List.set_cons_succ]
  refine wpAnyH_take (i := 1) (v := .pointer (some ⟨p, 0, none⟩)) rfl (by kernel_rfl) (by kernel_rfl) (by kernel_rfl) (fun _ _ _ h => h) (Or.inl ⟨by rfl, ?_⟩) S0.out ?_
  · rintro w' ⟨s1, s2⟩; go_simp
  simp only [Act.put, List.setIfInBounds_toArray, List.set_cons_zero, List.set_cons_succ]
  refine wpAnyH_take (i := 2) (v := .pointer (some ⟨p, 3, none⟩)) rfl (by kernel_rfl) (by kernel_rfl) (by kernel_rfl) (fun _ _ _ h => h) (Or.inl ⟨by rfl, ?_⟩) S0.out ?_
  · rintro w' ⟨s1, s2⟩; go_simp
  simp only [Act.put, List.setIfInBounds_toArray, List.set_cons_zero, List.set_cons_succ]
  refine wpAnyH_take (i := 3) (v := .slice (some ⟨g, 0, none⟩) n c) rfl (by kernel_rfl) (by kernel_rfl) (by kernel_rfl) (fun _ _ _ h => h) (Or.inl ⟨by rfl, ?_⟩) S0.out ?_
  · rintro w' ⟨s1, s2⟩; go_simp
  simp only [Act.put, List.setIfInBounds_toArray, List.set_cons_zero, List.set_cons_succ]
  refine wpAnyH_take (i := 4) (v := .int .i64 k) rfl (by kernel_rfl) (by kernel_rfl) (by kernel_rfl) (fun _ _ _ h => h) (Or.inl ⟨by rfl, ?_⟩) S0.out ?_
  · rintro w' ⟨s1, s2⟩; go_simp
  simp only [Act.put, List.setIfInBounds_toArray, List.set_cons_zero, List.set_cons_succ]
  refine wpAnyH_take (i := 5) (v := .pointer (some ⟨p, 0, none⟩)) rfl (by kernel_rfl) (by kernel_rfl) (by kernel_rfl) (fun _ _ _ h => h) (Or.inl ⟨by rfl, ?_⟩) S0.out ?_
  · rintro w' ⟨s1, s2⟩; go_simp
  simp only [Act.put, List.setIfInBounds_toArray, List.set_cons_zero, List.set_cons_succ]
  refine wpAnyH_take (i := 6) (v := .pointer (some ⟨p, 0, none⟩)) rfl (by kernel_rfl) (by kernel_rfl) (by kernel_rfl) (fun _ _ _ h => h) (Or.inl ⟨by rfl, ?_⟩) S0.out ?_
  · rintro w' ⟨s1, s2⟩; go_simp
  simp only [Act.put, List.setIfInBounds_toArray, List.set_cons_zero, List.set_cons_succ]
  refine wpAnyH_take (i := 7) (v := .pointer (some ⟨p, 3, none⟩)) rfl (by kernel_rfl) (by kernel_rfl) (by kernel_rfl) (fun _ _ _ h => h) (Or.inl ⟨by rfl, ?_⟩) S0.out ?_
  · rintro w' ⟨s1, s2⟩; go_simp
  simp only [Act.put, List.setIfInBounds_toArray, List.set_cons_zero, List.set_cons_succ]
  refine wpAnyH_take (i := 8) (v := .slice (some ⟨g, 0, none⟩) n c) rfl (by kernel_rfl) (by kernel_rfl) (by kernel_rfl) (fun _ _ _ h => h) (Or.inl ⟨by rfl, ?_⟩) S0.out ?_
  · rintro w' ⟨s1, s2⟩; go_simp
  simp only [Act.put, List.setIfInBounds_toArray, List.set_cons_zero, List.set_cons_succ]
  refine wpAnyH_take (i := 9) (v := .int .i64 k) rfl (by kernel_rfl) (by kernel_rfl) (by kernel_rfl) (fun _ _ _ h => h) (Or.inl ⟨by rfl, ?_⟩) S0.out ?_
  · rintro w' ⟨s1, s2⟩; go_simp
  simp only [Act.put, List.setIfInBounds_toArray, List.set_cons_zero, List.set_cons_succ]
  refine wpAnyH_take (i := 10) (v := .int .i64 nw) rfl (by kernel_rfl) (by kernel_rfl) (by kernel_rfl) (fun _ _ _ h => h) (Or.inl ⟨by rfl, ?_⟩) S0.out ?_
  · rintro w' ⟨s1, s2⟩; go_simp
  simp only [Act.put, List.setIfInBounds_toArray, List.set_cons_zero, List.set_cons_succ]
  refine wpAnyH_take (i := 11) (v := .pointer (some ⟨p, 0, none⟩)) rfl (by kernel_rfl) (by kernel_rfl) (by kernel_rfl) (fun _ _ _ h => h) (Or.inl ⟨by rfl, ?_⟩) S0.out ?_
  · rintro w' ⟨s1, s2⟩; go_simp
  simp only [Act.put, List.setIfInBounds_toArray, List.set_cons_zero, List.set_cons_succ]
  refine wpAnyH_take (i := 12) (v := .pointer (some ⟨p, 0, none⟩)) rfl (by kernel_rfl) (by kernel_rfl) (by kernel_rfl) (fun _ _ _ h => h) (Or.inl ⟨by rfl, ?_⟩) S0.out ?_
  · rintro w' ⟨s1, s2⟩; go_simp
  simp only [Act.put, List.setIfInBounds_toArray, List.set_cons_zero, List.set_cons_succ]
  refine wpAnyH_take (i := 13) (v := .pointer (some ⟨p, 3, none⟩)) rfl (by kernel_rfl) (by kernel_rfl) (by kernel_rfl) (fun _ _ _ h => h) (Or.inl ⟨by rfl, ?_⟩) S0.out ?_
  · rintro w' ⟨s1, s2⟩; go_simp
  simp only [Act.put, List.setIfInBounds_toArray, List.set_cons_zero, List.set_cons_succ]
  refine wpAnyH_take (i := 14) (v := .slice (some ⟨g, 0, none⟩) n c) rfl (by kernel_rfl) (by kernel_rfl) (by kernel_rfl) (fun _ _ _ h => h) (Or.inl ⟨by rfl, ?_⟩) S0.out ?_
  · rintro w' ⟨s1, s2⟩; go_simp
  simp only [Act.put, List.setIfInBounds_toArray, List.set_cons_zero, List.set_cons_succ]
  refine wpAnyH_take (i := 15) (v := .int .i64 k) rfl (by kernel_rfl) (by kernel_rfl) (by kernel_rfl) (fun _ _ _ h => h) (Or.inl ⟨by rfl, ?_⟩) S0.out ?_
  · rintro w' ⟨s1, s2⟩; go_simp
  simp only [Act.put, List.setIfInBounds_toArray, List.set_cons_zero, List.set_cons_succ]
  refine wpAnyH_take (i := 16) (v := .pointer (some ⟨g, k * 4, none⟩)) rfl (by kernel_rfl) (by kernel_rfl) (by kernel_rfl) (fun _ _ _ h => h) (Or.inl ⟨by rfl, ?_⟩) S0.out ?_
  · rintro w' ⟨s1, s2⟩; go_simp
  simp only [Act.put, List.setIfInBounds_toArray, List.set_cons_zero, List.set_cons_succ]
  refine wpAnyH_take (i := 17) (v := .pointer (some ⟨g, k * 4 + 2, none⟩)) rfl (by kernel_rfl) (by kernel_rfl) (by kernel_rfl) (fun _ _ _ h => h) (Or.inl ⟨by rfl, ?_⟩) S0.out ?_
  · rintro w' ⟨s1, s2⟩; go_simp
  simp only [Act.put, List.setIfInBounds_toArray, List.set_cons_zero, List.set_cons_succ]
  refine wpAnyH_take (i := 18) (v := .int .i64 xv) rfl (by kernel_rfl) (by kernel_rfl) (by kernel_rfl) (fun _ _ _ h => h) (Or.inl ⟨by rfl, ?_⟩) S0.out ?_
  · rintro w' ⟨s1, s2⟩; go_simp
  simp only [Act.put, List.setIfInBounds_toArray, List.set_cons_zero, List.set_cons_succ]
  refine wpAnyH_take (i := 19) (v := .int .i64 nw) rfl (by kernel_rfl) (by kernel_rfl) (by kernel_rfl) (fun _ _ _ h => h) (Or.inl ⟨by rfl, ?_⟩) S0.out ?_
  · rintro w' ⟨s1, s2⟩; go_simp
  simp only [Act.put, List.setIfInBounds_toArray, List.set_cons_zero, List.set_cons_succ]
  refine wpAnyH_ready (rs := [20]) (by kernel_rfl) (by simp) ?_
  refine AllReadyH.cons rfl (fun K hK => ?_) AllReadyH.nil
  go_simp
  refine (KD.out _).mono ?_
  rintro e w4 ⟨rfl, rfl⟩
  refine hK.out _ _ S0.out (fun _ => ?_)
  clear hK
  refine wpAnyH_take (i := 21) (v := .int .i64 (xv + dv)) rfl (by kernel_rfl) (by kernel_rfl) (by kernel_rfl) (fun _ _ _ h => h) (Or.inl ⟨by rfl, ?_⟩) S0.out ?_
  · rintro w' ⟨s1, s2⟩; go_simp
  simp only [Act.put, List.setIfInBounds_toArray, List.set_cons_zero, List.set_cons_succ]
  refine wpAnyH_take (i := 22) (v := .pointer (some ⟨g, k * 4, none⟩)) rfl (by kernel_rfl) (by kernel_rfl) (by kernel_rfl) (fun _ _ _ h => h) (Or.inl ⟨by rfl, ?_⟩) S0.out ?_
  · rintro w' ⟨s1, s2⟩; go_simp
  simp only [Act.put, List.setIfInBounds_toArray, List.set_cons_zero, List.set_cons_succ]
  refine wpAnyH_take (i := 23) (v := .pointer (some ⟨g, k * 4 + 1, none⟩)) rfl (by kernel_rfl) (by kernel_rfl) (by kernel_rfl) (fun _ _ _ h => h) (Or.inl ⟨by rfl, ?_⟩) S0.out ?_
  · rintro w' ⟨s1, s2⟩; go_simp
  simp only [Act.put, List.setIfInBounds_toArray, List.set_cons_zero, List.set_cons_succ]
  refine wpAnyH_ready (rs := [24]) (by kernel_rfl) (by simp) ?_
  refine AllReadyH.cons rfl (fun K hK => ?_) AllReadyH.nil
  go_simp
  refine hK.out _ _ SB.out (fun _ => ?_)
  clear hK
  refine wpAnyH_take (i := 25) (v := .pointer (some ⟨g, k * 4, none⟩)) rfl (by kernel_rfl) (by kernel_rfl) (by kernel_rfl) (fun _ _ _ h => h) (Or.inl ⟨by rfl, ?_⟩) SB.out ?_
  · rintro w' ⟨s1, s2⟩; go_simp
  simp only [Act.put, List.setIfInBounds_toArray, List.set_cons_zero, List.set_cons_succ]
  refine wpAnyH_take (i := 26) (v := .pointer (some ⟨g, k * 4 + 3, none⟩)) rfl (by kernel_rfl) (by kernel_rfl) (by kernel_rfl) (fun _ _ _ h => h) (Or.inl ⟨by rfl, ?_⟩) SB.out ?_
  · rintro w' ⟨s1, s2⟩; go_simp
  simp only [Act.put, List.setIfInBounds_toArray, List.set_cons_zero, List.set_cons_succ]
  refine wpAnyH_ready (rs := [27]) (by kernel_rfl) (by simp) ?_
  refine AllReadyH.cons rfl (fun K hK => ?_) AllReadyH.nil
  go_simp
  refine hK.out _ _ SC.out (fun _ => ?_)
  clear hK
  refine wpAnyH_done (by kernel_rfl) ?_ _
  go_wp2_with fail
  refine (KG.out _ ?_).mono ?_
  · exact HP.out.1
  rintro e w8 ⟨rfl, hq, ht⟩
  have HQ := Lib.hid (And.intro hq ht)
  clear hq ht KG
  go_wp2_with fail
  go_ret
  exact ⟨rfl, _, HQ.out.1, (Trip.drew HP.out.2).trans HQ.out.2⟩
set_option maxRecDepth 100000 in
set_option maxHeartbeats 4000000 in
theorem rcha_no (p : Nat) (tag base cur : Int) (v : Value) (l : List TI) (w : World) (h : IsT w p tag base cur v l) (hl : l.length ≤ 1000000) (hat : atT cur l 0 = -1) :
    Calls Tryz.prog 37 #[.pointer (some ⟨p, 0, none⟩)] w fun e w' => e = .returned (.tuple #[.int .i64 0, .int .i64 14]) ∧ w = w' := by
  have ka := rat_c p tag base cur cur v l w h hl
  rw [hat] at ka
  have KA := Lib.hid ka
  obtain ⟨-, -, c2, -⟩ := h.cells
  clear h ka hat
  go_enter Tryz.func37, Tryz.ntmps37
  go_wp2_with fail
  refine KA.out.mono ?_; rintro e w' ⟨rfl, rfl⟩
  go_wp2_with fail
  go_ret2
  exact ⟨rfl, rfl⟩
set_option maxRecDepth 100000 in
set_option maxHeartbeats 4000000 in
theorem rcha_over (p g c k : Nat) (tag base cur : Int) (l : List TI) (x : TI) (w : World) (h : IsT w p tag base cur (.slice (some ⟨g, 0, none⟩) l.length c) l) (hl : l.length ≤ 1000000) (hat : atT cur l 0 = ((k : Nat) : Int)) (hx : l[k]? = some x) (hv1 : -4000000000000000000 ≤ x.2.2.1) (hv2 : x.2.2.1 ≤ 4000000000000000000) (hov : 2305843009213693952 < x.2.2.1 + tickV x.2.1) :
    Calls Tryz.prog 37 #[.pointer (some ⟨p, 0, none⟩)] w fun e w' => e = .returned (.tuple #[.int .i64 0, .int .i64 7]) ∧ w = w' := by
  have KS := Lib.hid (fun w => rstep_c x.2.1 w)
  obtain ⟨hd1, hd2⟩ := tickV_bd x.2.1
  have ka := rat_c p tag base cur cur _ l w h hl
  rw [hat] at ka
  have KA := Lib.hid ka
  obtain ⟨n, hn⟩ : ∃ n, l.length = n := ⟨_, rfl⟩
  obtain ⟨c0, c1, c2, c3⟩ := h.cells
  have hlt : k < n := by rw [← hn]; exact (List.getElem?_eq_some_iff.1 hx).1
  obtain ⟨g', cc, hv, hgw, hcc, d0, d1, d2, d3⟩ := h.2.1.get hx
  obtain rfl : g = g' := by injection hv with hv1; injection hv1 with hv1; injection hv1 with hv1
  obtain rfl : c = cc := by injection hv
  rw [hn] at c3 hl hcc
  have HN := Lib.hid hn
  rw [hn] at h
  try rw [hn]
  have HH := Lib.hid h
  have HX := Lib.hid hx
  have hk0 : (0 : Int) ≤ (k : Int) := by omega
  have hkm : (k : Int) < (n : Int) := by omega
  obtain ⟨x0, x1, xv, x3⟩ := x
  simp only at d0 d1 d2 d3 hv1 hv2 hov hd1 hd2 KS ⊢
  generalize tickV x1 = st at *
  have hw1 : IntKind.i64.wrap (xv + st) = xv + st := by rw [IntKind.wrap_i64]; omega
  clear h ka hat hx hv hn c0 c1 d0 d3 HH HX HN
  go_enter Tryz.func37, Tryz.ntmps37
  go_wp2_with fail
  refine KA.out.mono ?_; rintro e w' ⟨rfl, rfl⟩
  clear KA
  go_wp2_with fail
  refine (KS.out _).mono ?_; rintro e w' ⟨rfl, rfl⟩
  clear KS
  go_wp2_with fail
  go_ret2
  exact ⟨rfl, rfl⟩
set_option linter.unusedSimpArgs false in
set_option maxRecDepth 100000 in
set_option maxHeartbeats 16000000 in
theorem rcha_yes (p g c k : Nat) (tag base cur : Int) (l : List TI) (x : TI) (w : World) (h : IsT w p tag base cur (.slice (some ⟨g, 0, none⟩) l.length c) l) (hl : l.length ≤ 1000000) (hat : atT cur l 0 = ((k : Nat) : Int)) (hx : l[k]? = some x) (hv1 : -4000000000000000000 ≤ x.2.2.1) (hv2 : x.2.2.1 ≤ 4000000000000000000) (hov : x.2.2.1 + tickV x.2.1 ≤ 2305843009213693952) :
    Calls Tryz.prog 37 #[.pointer (some ⟨p, 0, none⟩)] w fun e w' => e = .returned (.tuple #[.int .i64 cur, .int .i64 0]) ∧ RPost p tag (.slice (some ⟨g, 0, none⟩) l.length c) (growT base (l.set k (chaT x))) cur (l.set k (chaT x)) w w' := by
  have KS := Lib.hid (fun w => rstep_c x.2.1 w)
  have KD := Lib.hid (fun w => rday_c x.2.1 w)
  obtain ⟨hd1, hd2⟩ := tickV_bd x.2.1
  have ka := rat_c p tag base cur cur _ l w h hl
  rw [hat] at ka
  have KA := Lib.hid ka
  obtain ⟨n, hn⟩ : ∃ n, l.length = n := ⟨_, rfl⟩
  obtain ⟨c0, c1, c2, c3⟩ := h.cells
  have hlt : k < n := by rw [← hn]; exact (List.getElem?_eq_some_iff.1 hx).1
  obtain ⟨g', cc, hv, hgw, hcc, d0, d1, d2, d3⟩ := h.2.1.get hx
  obtain rfl : g = g' := by injection hv with hv1; injection hv1 with hv1; injection hv1 with hv1
  obtain rfl : c = cc := by injection hv
  rw [hn] at c3 hl hcc
  have HN := Lib.hid hn
  rw [hn] at h
  try rw [hn]
  have HH := Lib.hid h
  have HX := Lib.hid hx
  have hk0 : (0 : Int) ≤ (k : Int) := by omega
  have hkm : (k : Int) < (n : Int) := by omega
  obtain ⟨X, hX⟩ : ∃ X, chaT x = X := ⟨_, rfl⟩
  rw [hX]
  unfold chaT at hX
  obtain ⟨x0, x1, xv, x3⟩ := x
  simp only at d0 d1 d2 d3 hv1 hv2 hov hd1 hd2 KS KD hX ⊢
  obtain ⟨dv, hdv⟩ : ∃ dv, 4 * tickV x1 = dv := ⟨_, rfl⟩
  simp only [hdv] at KD hX
  have hdd1 : 0 ≤ dv := by omega
  have hdd2 : dv ≤ 931170240 := by omega
  generalize tickV x1 = st at *
  have hw1 : IntKind.i64.wrap (xv + st) = xv + st := by rw [IntKind.wrap_i64]; omega
  obtain ⟨nv, hnv⟩ : ∃ nv, xv + st = nv := ⟨_, rfl⟩
  rw [hnv] at hX hw1 hov
  have hw2 : IntKind.i64.wrap (nv + dv) = nv + dv := by rw [IntKind.wrap_i64]; omega
  have hp1 := h.setRow (y := (x0, x1, nv, x3)) (i := 2) HN.out HX.out (by omega) (.int .i64 nv) rfl
  have hx1 : (l.set k (x0, x1, nv, x3))[k]? = some (x0, x1, nv, x3) := by rw [List.getElem?_set_self (by rw [HN.out]; exact hlt)]
  have hln : (l.set k (x0, x1, nv, x3)).length = n := by rw [List.length_set]; exact HN.out
  obtain ⟨w1, hw⟩ : ∃ w1, (w.setCell ⟨g, k * 4 + 2, none⟩ (.int .i64 nv)).drew = w1 := ⟨_, rfl⟩
  have hp1' : IsT w1 p tag base cur (.slice (some ⟨g, 0, none⟩) n c) (l.set k (x0, x1, nv, x3)) ∧ Trip (TOf p (.slice (some ⟨g, 0, none⟩) n c)) w (TOf p (.slice (some ⟨g, 0, none⟩) n c)) w1 := by rw [← hw]; exact ⟨hp1.1, Trip.drew hp1.2⟩
  obtain ⟨g2, c2', hv', _, _, t0, t1, t2, t3⟩ := hp1'.1.2.1.get hx1
  obtain rfl : g = g2 := by injection hv' with hv1; injection hv1 with hv1; injection hv1 with hv1
  obtain ⟨-, -, t5, t4⟩ := hp1'.1.cells
  have f1 := h.rowFree (k * 4 + 2)
  have HP1 := Lib.hid hp1'
  have HLN := Lib.hid hln
  have HX1 := Lib.hid hx1
  have KG := Lib.hid (fun w' l' hq hl' => rgrow_c p tag base cur (.slice (some ⟨g, 0, none⟩) n c) l' w' hq hl')
  have HXX := Lib.hid hX
  simp only at t0 t1 t2 t3
  clear h ka hat hx hv hv' hn hdv c0 c1 d0 d3 hp1 hp1' hX hx1 hln t0
  go_enter Tryz.func37, Tryz.ntmps37
  go_wp2_with fail
  refine KA.out.mono ?_; rintro e w' ⟨rfl, rfl⟩
  clear KA
  go_wp2_with fail
  refine (KS.out _).mono ?_; rintro e w' ⟨rfl, rfl⟩
  clear KS
  go_wp2_with fail
  go_still_tail 15, (by kernel_rfl)
  change wpList _ _ _ _ _ w.drew
  go_wp2_with fail
  try rw [hw]
  clear d1 d2 c2 c3 f1 hw
  by_cases hday : x3 ≤ nv
  · rw [if_pos hday] at HXX
    go_wp2_with fail
    go_big_quiet (fail)
    rename_i nq
    obtain ⟨w2, hw2'⟩ : ∃ w2, w1.drewN nq = w2 := ⟨_, rfl⟩
    have hq2 : IsT w2 p tag base cur (.slice (some ⟨g, 0, none⟩) n c) (l.set k (x0, x1, nv, x3)) := by rw [← hw2']; exact HP1.out.1
    have hT2 : Trip (TOf p (.slice (some ⟨g, 0, none⟩) n c)) w (TOf p (.slice (some ⟨g, 0, none⟩) n c)) w2 := by rw [← hw2']; exact tripN HP1.out.2 nq
    have u1 : w2.cell? ⟨g, k * 4 + 1, none⟩ = some (.int .i64 x1) := by rw [← hw2']; exact t1
    have u2 : w2.cell? ⟨g, k * 4 + 2, none⟩ = some (.int .i64 nv) := by rw [← hw2']; exact t2
    have u3 : w2.cell? ⟨g, k * 4 + 3, none⟩ = some (.int .i64 x3) := by rw [← hw2']; exact t3
    have u4 : w2.cell? ⟨p, 3, none⟩ = some (.slice (some ⟨g, 0, none⟩) n c) := by rw [← hw2']; exact t4
    have u5 : w2.cell? ⟨p, 2, none⟩ = some (.int .i64 cur) := by rw [← hw2']; exact t5
    rw [hw2']
    have hp2 := hq2.setRow (y := (x0, x1, nv, nv + dv)) (i := 3) HLN.out HX1.out (by omega) (.int .i64 (nv + dv)) rfl
    rw [List.set_set, HXX.out] at hp2
    have f3 := hq2.rowFree (k * 4 + 3)
    have v5 : (w2.setCell ⟨g, k * 4 + 3, none⟩ (.int .i64 (nv + dv))).cell? ⟨p, 2, none⟩ = some (.int .i64 cur) := hp2.1.cells.2.2.1
    have HP2 := Lib.hid (And.intro hp2.1 (hT2.trans hp2.2))
    have S0 : Hid (w2.drew.cell? ⟨p, 3, none⟩ = some (.slice (some ⟨g, 0, none⟩) n c) ∧ w2.drew.cell? ⟨g, k * 4 + 2, none⟩ = some (.int .i64 nv) ∧ w2.drew.cell? ⟨g, k * 4 + 1, none⟩ = some (.int .i64 x1)) := Lib.hid ⟨u4, u2, u1⟩
    clear hw2' t1 t2 t3 t4 t5 hp2 hq2 hT2
    go_wp2_with fail
    refine wp_region_phase 23 (by kernel_rfl) (by kernel_rfl) (fun w' => w'.cell? ⟨p, 3, none⟩ = some (.slice (some ⟨g, 0, none⟩) n c) ∧ w'.cell? ⟨g, k * 4 + 2, none⟩ = some (.int .i64 nv) ∧ w'.cell? ⟨g, k * 4 + 1, none⟩ = some (.int .i64 x1)) ?_
    refine wpAnyH_take (i := 0) (v := .pointer (some ⟨p, 0, none⟩)) rfl (by kernel_rfl) (by kernel_rfl) (by kernel_rfl) (fun _ _ _ h => h) (Or.inl ⟨by rfl, ?_⟩) S0.out ?_
    · rintro w' ⟨s1, s2, s3⟩; go_simp
    simp only [Act.put, List.setIfInBounds_toArray, List.set_cons_zero, List.set_cons_succ]
    refine wpAnyH_take (i := 1) (v := .pointer (some ⟨p, 0, none⟩)) rfl (by kernel_rfl) (by kernel_rfl) (by kernel_rfl) (fun _ _ _ h => h) (Or.inl ⟨by rfl, ?_⟩) S0.out ?_
    · rintro w' ⟨s1, s2, s3⟩; go_simp
    simp only [Act.put, List.setIfInBounds_toArray, List.set_cons_zero, List.set_cons_succ]
    refine wpAnyH_take (i := 2) (v := .pointer (some ⟨p, 3, none⟩)) rfl (by kernel_rfl) (by kernel_rfl) (by kernel_rfl) (fun _ _ _ h => h) (Or.inl ⟨by rfl, ?_⟩) S0.out ?_
    · rintro w' ⟨s1, s2, s3⟩; go_simp
    simp only [Act.put, List.setIfInBounds_toArray, List.set_cons_zero, List.set_cons_succ]
    refine wpAnyH_take (i := 3) (v := .slice (some ⟨g, 0, none⟩) n c) rfl (by kernel_rfl) (by kernel_rfl) (by kernel_rfl) (fun _ _ _ h => h) (Or.inl ⟨by rfl, ?_⟩) S0.out ?_
    · rintro w' ⟨s1, s2, s3⟩; go_simp
    simp only [Act.put, List.setIfInBounds_toArray, List.set_cons_zero, List.set_cons_succ]
    refine wpAnyH_take (i := 4) (v := .int .i64 k) rfl (by kernel_rfl) (by kernel_rfl) (by kernel_rfl) (fun _ _ _ h => h) (Or.inl ⟨by rfl, ?_⟩) S0.out ?_
    · rintro w' ⟨s1, s2, s3⟩; go_simp
    simp only [Act.put, List.setIfInBounds_toArray, List.set_cons_zero, List.set_cons_succ]
    refine wpAnyH_take (i := 5) (v := .pointer (some ⟨p, 0, none⟩)) rfl (by kernel_rfl) (by kernel_rfl) (by kernel_rfl) (fun _ _ _ h => h) (Or.inl ⟨by rfl, ?_⟩) S0.out ?_
    · rintro w' ⟨s1, s2, s3⟩; go_simp
    simp only [Act.put, List.setIfInBounds_toArray, List.set_cons_zero, List.set_cons_succ]
    refine wpAnyH_take (i := 6) (v := .pointer (some ⟨p, 0, none⟩)) rfl (by kernel_rfl) (by kernel_rfl) (by kernel_rfl) (fun _ _ _ h => h) (Or.inl ⟨by rfl, ?_⟩) S0.out ?_
    · rintro w' ⟨s1, s2, s3⟩; go_simp
    simp only [Act.put, List.setIfInBounds_toArray, List.set_cons_zero, List.set_cons_succ]
    refine wpAnyH_take (i := 7) (v := .pointer (some ⟨p, 3, none⟩)) rfl (by kernel_rfl) (by kernel_rfl) (by kernel_rfl) (fun _ _ _ h => h) (Or.inl ⟨by rfl, ?_⟩) S0.out ?_
    · rintro w' ⟨s1, s2, s3⟩; go_simp
    simp only [Act.put, List.setIfInBounds_toArray, List.set_cons_zero, List.set_cons_succ]
    refine wpAnyH_take (i := 8) (v := .slice (some ⟨g, 0, none⟩) n c) rfl (by kernel_rfl) (by kernel_rfl) (by kernel_rfl) (fun _ _ _ h => h) (Or.inl ⟨by rfl, ?_⟩) S0.out ?_
    · rintro w' ⟨s1, s2, s3⟩; go_simp
    simp only [Act.put, List.setIfInBounds_toArray, List.set_cons_zero, List.set_cons_succ]
    refine wpAnyH_take (i := 9) (v := .int .i64 k) rfl (by kernel_rfl) (by kernel_rfl) (by kernel_rfl) (fun _ _ _ h => h) (Or.inl ⟨by rfl, ?_⟩) S0.out ?_
    · rintro w' ⟨s1, s2, s3⟩; go_simp
    simp only [Act.put, List.setIfInBounds_toArray, List.set_cons_zero, List.set_cons_succ]
    refine wpAnyH_take (i := 10) (v := .pointer (some ⟨g, k * 4, none⟩)) rfl (by kernel_rfl) (by kernel_rfl) (by kernel_rfl) (fun _ _ _ h => h) (Or.inl ⟨by rfl, ?_⟩) S0.out ?_
    · rintro w' ⟨s1, s2, s3⟩; go_simp
    simp only [Act.put, List.setIfInBounds_toArray, List.set_cons_zero, List.set_cons_succ]
    refine wpAnyH_take (i := 11) (v := .pointer (some ⟨g, k * 4 + 2, none⟩)) rfl (by kernel_rfl) (by kernel_rfl) (by kernel_rfl) (fun _ _ _ h => h) (Or.inl ⟨by rfl, ?_⟩) S0.out ?_
    · rintro w' ⟨s1, s2, s3⟩; go_simp
    simp only [Act.put, List.setIfInBounds_toArray, List.set_cons_zero, List.set_cons_succ]
    refine wpAnyH_take (i := 12) (v := .int .i64 nv) rfl (by kernel_rfl) (by kernel_rfl) (by kernel_rfl) (fun _ _ _ h => h) (Or.inl ⟨by rfl, ?_⟩) S0.out ?_
    · rintro w' ⟨s1, s2, s3⟩; go_simp
    simp only [Act.put, List.setIfInBounds_toArray, List.set_cons_zero, List.set_cons_succ]
    refine wpAnyH_take (i := 13) (v := .pointer (some ⟨p, 0, none⟩)) rfl (by kernel_rfl) (by kernel_rfl) (by kernel_rfl) (fun _ _ _ h => h) (Or.inl ⟨by rfl, ?_⟩) S0.out ?_
    · rintro w' ⟨s1, s2, s3⟩; go_simp
    simp only [Act.put, List.setIfInBounds_toArray, List.set_cons_zero, List.set_cons_succ]
    refine wpAnyH_take (i := 14) (v := .pointer (some ⟨p, 0, none⟩)) rfl (by kernel_rfl) (by kernel_rfl) (by kernel_rfl) (fun _ _ _ h => h) (Or.inl ⟨by rfl, ?_⟩) S0.out ?_
    · rintro w' ⟨s1, s2, s3⟩; go_simp
    simp only [Act.put, List.setIfInBounds_toArray, List.set_cons_zero, List.set_cons_succ]
    refine wpAnyH_take (i := 15) (v := .pointer (some ⟨p, 3, none⟩)) rfl (by kernel_rfl) (by kernel_rfl) (by kernel_rfl) (fun _ _ _ h => h) (Or.inl ⟨by rfl, ?_⟩) S0.out ?_
    · rintro w' ⟨s1, s2, s3⟩; go_simp
    simp only [Act.put, List.setIfInBounds_toArray, List.set_cons_zero, List.set_cons_succ]
    refine wpAnyH_take (i := 16) (v := .slice (some ⟨g, 0, none⟩) n c) rfl (by kernel_rfl) (by kernel_rfl) (by kernel_rfl) (fun _ _ _ h => h) (Or.inl ⟨by rfl, ?_⟩) S0.out ?_
    · rintro w' ⟨s1, s2, s3⟩; go_simp
    simp only [Act.put, List.setIfInBounds_toArray, List.set_cons_zero, List.set_cons_succ]
    refine wpAnyH_take (i := 17) (v := .int .i64 k) rfl (by kernel_rfl) (by kernel_rfl) (by kernel_rfl) (fun _ _ _ h => h) (Or.inl ⟨by rfl, ?_⟩) S0.out ?_
    · rintro w' ⟨s1, s2, s3⟩; go_simp
    simp only [Act.put, List.setIfInBounds_toArray, List.set_cons_zero, List.set_cons_succ]
    refine wpAnyH_take (i := 18) (v := .pointer (some ⟨g, k * 4, none⟩)) rfl (by kernel_rfl) (by kernel_rfl) (by kernel_rfl) (fun _ _ _ h => h) (Or.inl ⟨by rfl, ?_⟩) S0.out ?_
    · rintro w' ⟨s1, s2, s3⟩; go_simp
    simp only [Act.put, List.setIfInBounds_toArray, List.set_cons_zero, List.set_cons_succ]
    refine wpAnyH_take (i := 19) (v := .pointer (some ⟨g, k * 4 + 1, none⟩)) rfl (by kernel_rfl) (by kernel_rfl) (by kernel_rfl) (fun _ _ _ h => h) (Or.inl ⟨by rfl, ?_⟩) S0.out ?_
    · rintro w' ⟨s1, s2, s3⟩; go_simp
    simp only [Act.put, List.setIfInBounds_toArray, List.set_cons_zero, List.set_cons_succ]
    refine wpAnyH_take (i := 20) (v := .int .i64 x1) rfl (by kernel_rfl) (by kernel_rfl) (by kernel_rfl) (fun _ _ _ h => h) (Or.inl ⟨by rfl, ?_⟩) S0.out ?_
    · rintro w' ⟨s1, s2, s3⟩; go_simp
    simp only [Act.put, List.setIfInBounds_toArray, List.set_cons_zero, List.set_cons_succ]
    refine wpAnyH_ready (rs := [21]) (by kernel_rfl) (by simp) ?_
    refine AllReadyH.cons rfl (fun K hK => ?_) AllReadyH.nil
    go_simp
    refine (KD.out _).mono ?_
    rintro e w4 ⟨rfl, rfl⟩
    refine hK.out _ _ S0.out (fun _ => ?_)
    clear hK
    refine wpAnyH_take (i := 22) (v := .int .i64 (nv + dv)) rfl (by kernel_rfl) (by kernel_rfl) (by kernel_rfl) (fun _ _ _ h => h) (Or.inl ⟨by rfl, ?_⟩) S0.out ?_
    · rintro w' ⟨s1, s2, s3⟩; go_simp
    simp only [Act.put, List.setIfInBounds_toArray, List.set_cons_zero, List.set_cons_succ]
    refine wpAnyH_done (by kernel_rfl) ?_ _
    refine phase_tail (by kernel_rfl) ?_
    simp only [List.drop_succ_cons, List.drop_zero]
    go_wp2_with fail
    refine (KG.out _ (l.set k X) ?_ (by rw [List.length_set, HN.out]; omega)).mono ?_
    · exact HP2.out.1
    rintro e w8 ⟨rfl, hq, ht⟩
    have HQ := Lib.hid (And.intro hq ht)
    obtain ⟨-, -, y2, -⟩ := hq.cells
    clear hq ht KG
    go_wp2_with fail
    go_ret2
    exact ⟨rfl, _, HQ.out.1, (Trip.drew HP2.out.2).trans HQ.out.2⟩
  · rw [if_neg hday] at HXX
    have hq1 := HP1.out.1
    rw [HXX.out] at hq1
    have HQ1 := Lib.hid hq1
    clear hq1
    go_wp2_with fail
    go_big_quiet (fail)
    rename_i nq
    obtain ⟨w2, hw2'⟩ : ∃ w2, w1.drewN nq = w2 := ⟨_, rfl⟩
    have hq2 : IsT w2 p tag base cur (.slice (some ⟨g, 0, none⟩) n c) (l.set k X) := by rw [← hw2']; exact HQ1.out
    have hT2 : Hid (Trip (TOf p (.slice (some ⟨g, 0, none⟩) n c)) w (TOf p (.slice (some ⟨g, 0, none⟩) n c)) w2) := Lib.hid (by rw [← hw2']; exact tripN HP1.out.2 nq)
    have KG2 := Lib.hid (KG.out _ _ hq2 (by rw [List.length_set, HN.out]; omega))
    rw [hw2']
    clear hw2' t1 t2 t3 t4 t5 hq2 KG
    go_wp2_with fail
    refine KG2.out.mono ?_
    rintro e w8 ⟨rfl, hq, ht⟩
    have HQ := Lib.hid (And.intro hq ht)
    obtain ⟨-, -, y2, -⟩ := hq.cells
    clear hq ht KG2
    go_wp2_with fail
    go_ret2
    exact ⟨rfl, _, HQ.out.1, hT2.out.trans HQ.out.2⟩
end Go.Proofs.YtnfcapeajhegmaaGreat
