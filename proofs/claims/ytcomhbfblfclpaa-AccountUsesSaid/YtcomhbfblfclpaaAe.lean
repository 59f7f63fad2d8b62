/- Law 8's own; the reference's NewAccount, GoodAccount, Spent, Next. -/
import Derived.Test.YtcomhbfblfclpaaAd
namespace Go.Proofs.Ytcomhbfblfclpaa
open Go.RowKit

set_option maxRecDepth 100000 in
set_option maxHeartbeats 1000000 in
theorem own_c (q p l f : Int) (w : World) :
    Calls Try.prog 14 #[.agg #[.int .i64 q, .int .i64 p, .int .i64 l, .int .i64 f]] w (Ret8 (.agg #[.int .i64 q, .int .i64 p, .int .i64 l, .int .i64 f]) w) := by
  go_enter Try.func14, Try.ntmps14
  go_wp2_with fail
  refine bodyPost_ret (results_cell_row rfl _ _ (w.heap.size + 1) 33 #[.int .i64 q, .int .i64 p, .int .i64 l, .int .i64 f] (0, 0) _ rfl (heap_alloc2_new w _ _) Try.underlying33 rfl (by kernel_rfl)) rfl ?_
  exact ⟨rfl, (((Below.refl _ w).alloc (Nat.le_refl _) _).alloc (by simp) _)⟩

set_option maxRecDepth 100000 in
set_option maxHeartbeats 2000000 in
theorem rnew_c (q p : Int) (w : World) :
    Calls Try.prog 15 #[.int .i64 q, .int .i64 p] w (Ret8 (.tuple #[.agg #[.int .i64 (newQ q p), .int .i64 (newP q p), .int .i64 (newQ q p), .int .i64 0], .int .i64 (newE q p)]) w) := by
  have HV : Hid (newQ q p = (if newB q p then q else 0) ∧ newP q p = (if newB q p then p else 0) ∧ newE q p = (if newB q p || (decide (q = 0) && decide (p = 0)) then 0 else 1)) := Lib.hid ⟨rfl, rfl, rfl⟩
  have hT := @newB_true q p
  generalize newB q p = nb at *
  generalize newQ q p = v0 at *
  generalize newP q p = v1 at *
  generalize newE q p = v2 at *
  cases nb
  · by_cases hz : q = 0 ∧ p = 0
    · obtain ⟨rfl, rfl⟩ := hz
      clear hT
      go_enter Try.func15, Try.ntmps15
      go_wp2_with fail
      refine bodyPost_ret (res_ac rfl _ w.heap.size 0 0 0 0 _ _ rfl rfl (AcAt.new w _ 0 0 0 0) Try.underlying33 rfl (by kernel_rfl)) rfl ?_
      refine ⟨?_, (Below.refl _ w).alloc (Nat.le_refl _) _⟩
      obtain ⟨e0, e1, e2⟩ := HV.out
      rw [e0, e1, e2]
      rfl
    · have h5 : ¬ (1 ≤ q ∧ q ≤ 1073741824 ∧ 1 ≤ p ∧ p ≤ 1073741824) := fun h => by have := hT.2 h; cases this
      clear hT
      have h6 : (decide (q = 0) && decide (p = 0)) = false := by simpa using hz
      rw [h6] at HV
      have HZ := Lib.hid hz
      clear h6 hz
      go_enter Try.func15, Try.ntmps15
      go_wp2_with fail
      all_goals
        refine bodyPost_ret (res_ac rfl _ w.heap.size 0 0 0 0 _ _ rfl rfl (AcAt.new w _ 0 0 0 0) Try.underlying33 rfl (by kernel_rfl)) rfl ?_
        refine ⟨?_, (Below.refl _ w).alloc (Nat.le_refl _) _⟩
        obtain ⟨e0, e1, e2⟩ := HV.out
        rw [e0, e1, e2]
        first | rfl | (exfalso; have hz := HZ.out; simp_all)
  · obtain ⟨a1, a2, a3, a4⟩ := hT.1 rfl
    clear hT
    go_enter Try.func15, Try.ntmps15
    go_wp2_with fail
    refine bodyPost_ret (res_ac rfl _ w.heap.size q p q 0 _ _ rfl rfl (AcAt.new w _ q p q 0) Try.underlying33 rfl (by kernel_rfl)) rfl ?_
    refine ⟨?_, (Below.refl _ w).alloc (Nat.le_refl _) _⟩
    obtain ⟨e0, e1, e2⟩ := HV.out
    rw [e0, e1, e2]
    rfl

/-- What the reference says of one that may be. -/
theorem goodA_cases (q p l f : Int) : goodA q p l f = (decide (newE q p = 0) && decide (0 ≤ l) && decide (l ≤ q) && decide (0 ≤ f) && (decide (f < p) || zeroB q p l f)) := by
  rw [Bool.eq_iff_iff]
  unfold goodA newE zeroB
  simp only [Bool.or_eq_true, Bool.and_eq_true, decide_eq_true_eq, limB_true, newB_true, ite_eq_left_iff, not_or, not_and]
  constructor
  · rintro (h | h)
    · obtain ⟨⟨⟨rfl, rfl⟩, rfl⟩, rfl⟩ := h; simp
    · refine ⟨⟨⟨⟨fun h1 => ?_, ?_⟩, ?_⟩, ?_⟩, .inl ?_⟩ <;> first | omega | (have := h1.1; omega)
  · rintro ⟨⟨⟨⟨h1, h2⟩, h3⟩, h4⟩, h5⟩
    rcases h5 with h5 | h5
    · right
      by_cases h6 : 1 ≤ q ∧ q ≤ 1073741824 ∧ 1 ≤ p ∧ p ≤ 1073741824
      · omega
      · by_cases h7 : q = 0 ∧ p = 0
        · omega
        · exfalso
          have := h1 ⟨fun a b c d => by omega, fun a b => h7 ⟨a, b⟩⟩
          omega
    · exact .inl h5

set_option maxRecDepth 100000 in
set_option maxHeartbeats 2000000 in
theorem rgood_c (q p l f : Int) (w : World) :
    Calls Try.prog 18 #[.agg #[.int .i64 q, .int .i64 p, .int .i64 l, .int .i64 f]] w (Ret8 (.bool (goodA q p l f)) w) := by
  have K1 := Lib.hid (fun w => rnew_c q p w)
  have HV := Lib.hid (goodA_cases q p l f)
  have hE : newE q p = 0 ∨ newE q p = 1 := by unfold newE; split <;> simp
  generalize newE q p = e at *
  generalize newQ q p = v0 at *
  generalize newP q p = v1 at *
  generalize goodA q p l f = g at *
  rcases hE with rfl | rfl
  · go_enter Try.func18, Try.ntmps18
    go_wp2_with fail
    refine (K1.out _).mono ?_
    rintro e w1 ⟨rfl, hb⟩
    obtain ⟨ha, hb⟩ := AcAt.call hb
    have hl := ha.lt
    have ha' := ha.keep (Below.heap_alloc w1 (.cells #[.int .i64 v0, .int .i64 v1, .int .i64 v0, .int .i64 0] 33) _ hl)
    obtain ⟨c0, c1, c2, c3, -⟩ := ha.cells
    have HB := Lib.hid (hb.alloc hb.size (.cells #[.int .i64 v0, .int .i64 v1, .int .i64 v0, .int .i64 0] 33))
    clear hb ha ha'
    go_wp2_with fail
    all_goals
      go_ret
      refine ⟨?_, HB.out⟩
      rw [HV.out]
      try simp [zeroB, *]
      try omega
  · go_enter Try.func18, Try.ntmps18
    go_wp2_with fail
    refine (K1.out _).mono ?_
    rintro e w1 ⟨rfl, hb⟩
    obtain ⟨ha, hb⟩ := AcAt.call hb
    have hl := ha.lt
    obtain ⟨c0, c1, c2, c3, -⟩ := ha.cells
    have HB := Lib.hid (hb.alloc hb.size (.cells #[.int .i64 v0, .int .i64 v1, .int .i64 v0, .int .i64 0] 33))
    clear hb ha
    go_wp2_with fail
    go_ret
    refine ⟨?_, HB.out⟩
    rw [HV.out]
    rfl
end Go.Proofs.Ytcomhbfblfclpaa
