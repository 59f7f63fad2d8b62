/- The reference's Spent, Next, Use, Tick. -/
import Derived.Test.YtcomhbfblfclpaaAe
namespace Go.Proofs.Ytcomhbfblfclpaa
open Go.RowKit

theorem good_lim {q p l f : Int} (h : goodA q p l f = true) : limB q p l f = decide (0 < q) := by
  rw [Bool.eq_iff_iff]
  unfold goodA zeroB at h
  simp only [Bool.or_eq_true, Bool.and_eq_true, decide_eq_true_eq, limB_true] at *
  omega
theorem good_zero {q p l f : Int} (h : goodA q p l f = true) (h2 : limB q p l f = false) : q = 0 ∧ p = 0 ∧ l = 0 ∧ f = 0 := by
  unfold goodA zeroB at h
  rw [h2] at h
  simpa [and_assoc] using h
theorem good_not {q p l f : Int} (h : goodA q p l f = false) : limB q p l f = false := by
  unfold goodA at h
  simp at h
  exact h.2

set_option maxRecDepth 100000 in
set_option maxHeartbeats 1000000 in
theorem rspent_c (q p l f : Int) (w : World) :
    Calls Try.prog 19 #[.agg #[.int .i64 q, .int .i64 p, .int .i64 l, .int .i64 f]] w (Ret8 (.bool (limB q p l f && decide (l = 0))) w) := by
  have K1 := Lib.hid (fun w => rgood_c q p l f w)
  have h1 := @good_lim q p l f
  have h2 := @good_not q p l f
  generalize goodA q p l f = b at *
  cases b
  · rw [h2 rfl]
    clear h1 h2
    go_enter Try.func19, Try.ntmps19
    go_wp2_with fail
    refine (K1.out _).mono ?_
    rintro e w1 ⟨rfl, hb⟩
    obtain ⟨-, hb⟩ := AcAt.call hb
    have HB := Lib.hid hb
    clear hb
    go_wp2_with fail
    go_ret
    exact ⟨rfl, HB.out⟩
  · rw [h1 rfl]
    clear h1 h2
    go_enter Try.func19, Try.ntmps19
    go_wp2_with fail
    refine (K1.out _).mono ?_
    rintro e w1 ⟨rfl, hb⟩
    obtain ⟨ha, hb⟩ := AcAt.call hb
    obtain ⟨c0, c1, c2, c3, -⟩ := ha.cells
    have HB := Lib.hid hb
    clear hb ha
    go_wp2_with fail
    all_goals
      go_ret
      refine ⟨?_, HB.out⟩
      first | rfl | (simp [*]; done) | (simp [*]; rfl) | (simp [*]; omega)

set_option maxRecDepth 100000 in
set_option maxHeartbeats 1000000 in
theorem rnext_c (q p l f : Int) (w : World) :
    Calls Try.prog 20 #[.agg #[.int .i64 q, .int .i64 p, .int .i64 l, .int .i64 f]] w (Ret8 (.int .i64 (nextV q p l f)) w) := by
  have K1 := Lib.hid (fun w => rgood_c q p l f w)
  have h1 := @good_lim q p l f
  have h2 := @good_not q p l f
  have hL := @limB_true q p l f
  unfold nextV
  have h4 := @good_zero q p l f
  generalize goodA q p l f = b at *
  generalize limB q p l f = c at *
  cases b
  · obtain rfl := h2 rfl
    clear h1 h2 hL h4
    go_enter Try.func20, Try.ntmps20
    go_wp2_with fail
    refine (K1.out _).mono ?_
    rintro e w1 ⟨rfl, hb⟩
    obtain ⟨-, hb⟩ := AcAt.call hb
    have HB := Lib.hid hb
    clear hb
    go_wp2_with fail
    go_ret
    exact ⟨rfl, HB.out⟩
  · have h3 := h1 rfl
    cases c
    · obtain ⟨rfl, rfl, rfl, rfl⟩ := h4 rfl rfl
      clear h1 h2 hL h3 h4
      go_enter Try.func20, Try.ntmps20
      go_wp2_with fail
      refine (K1.out _).mono ?_
      rintro e w1 ⟨rfl, hb⟩
      obtain ⟨ha, hb⟩ := AcAt.call hb
      obtain ⟨c0, c1, c2, c3, -⟩ := ha.cells
      have HB := Lib.hid hb
      clear hb ha
      go_wp2_with fail
      go_ret
      exact ⟨rfl, HB.out⟩
    · obtain ⟨a1, a2, a3, a4, a5, a6, a7, a8⟩ := hL.1 rfl
      have hqz : (q == 0) = false := beq_eq_false_iff_ne.2 (by omega)
      clear h1 h2 hL h3 h4
      go_enter Try.func20, Try.ntmps20
      go_wp2_with fail
      refine (K1.out _).mono ?_
      rintro e w1 ⟨rfl, hb⟩
      obtain ⟨ha, hb⟩ := AcAt.call hb
      obtain ⟨c0, c1, c2, c3, -⟩ := ha.cells
      have HB := Lib.hid hb
      clear hb ha
      go_wp2_with fail
      go_ret
      exact ⟨by simp, HB.out⟩
end Go.Proofs.Ytcomhbfblfclpaa
