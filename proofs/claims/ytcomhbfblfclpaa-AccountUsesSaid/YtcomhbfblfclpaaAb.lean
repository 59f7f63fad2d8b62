/- Quotas: Good, Spent, Next. -/
import Derived.Test.YtcomhbfblfclpaaAa
namespace Go.Proofs.Ytcomhbfblfclpaa
open Go.RowKit

def zeroB (q p l f : Int) : Bool := decide (q = 0) && decide (p = 0) && decide (l = 0) && decide (f = 0)
def goodA (q p l f : Int) : Bool := zeroB q p l f || limB q p l f

set_option maxRecDepth 100000 in
set_option maxHeartbeats 1000000 in
theorem good_c (q p l f : Int) (w : World) :
    Calls Try.prog 13 #[.agg #[.int .i64 q, .int .i64 p, .int .i64 l, .int .i64 f]] w (Ret8 (.bool (goodA q p l f)) w) := by
  have K1 := Lib.hid (fun w => limited_c q p l f w)
  go_enter Try.func13, Try.ntmps13
  go_wp2_with fail
  all_goals subst_vars
  · go_ret
    exact ⟨rfl, (Below.refl _ w).alloc (Nat.le_refl _) _⟩
  all_goals
    refine (K1.out _).mono ?_
    rintro e w1 ⟨rfl, hb⟩
    obtain ⟨-, hb⟩ := AcAt.call hb
    have HB := Lib.hid hb
    clear hb
    go_wp2_with fail
    go_ret
    exact ⟨by simp [goodA, zeroB, *], HB.out⟩

set_option maxRecDepth 100000 in
set_option maxHeartbeats 1000000 in
theorem spent_c (q p l f : Int) (w : World) :
    Calls Try.prog 11 #[.agg #[.int .i64 q, .int .i64 p, .int .i64 l, .int .i64 f]] w (Ret8 (.bool (limB q p l f && decide (l = 0))) w) := by
  have K1 := Lib.hid (fun w => limited_c q p l f w)
  generalize limB q p l f = b at *
  cases b
  · go_enter Try.func11, Try.ntmps11
    go_wp2_with fail
    refine (K1.out _).mono ?_
    rintro e w1 ⟨rfl, hb⟩
    obtain ⟨-, hb⟩ := AcAt.call hb
    have HB := Lib.hid hb
    clear hb
    go_wp2_with fail
    go_ret
    exact ⟨rfl, HB.out⟩
  · go_enter Try.func11, Try.ntmps11
    go_wp2_with fail
    refine (K1.out _).mono ?_
    rintro e w1 ⟨rfl, hb⟩
    obtain ⟨ha, hb⟩ := AcAt.call hb
    obtain ⟨-, -, h2, -, -⟩ := ha.cells
    have HB := Lib.hid hb
    clear hb ha
    go_wp2_with fail
    go_ret
    exact ⟨by simp; rfl, HB.out⟩

def nextV (q p l f : Int) : Int := if limB q p l f = true then p - f else 0
set_option maxRecDepth 100000 in
set_option maxHeartbeats 1000000 in
theorem next_c (q p l f : Int) (w : World) :
    Calls Try.prog 12 #[.agg #[.int .i64 q, .int .i64 p, .int .i64 l, .int .i64 f]] w (Ret8 (.int .i64 (nextV q p l f)) w) := by
  have K1 := Lib.hid (fun w => limited_c q p l f w)
  have hL := @limB_true q p l f
  unfold nextV
  generalize limB q p l f = b at *
  cases b
  · clear hL
    go_enter Try.func12, Try.ntmps12
    go_wp2_with fail
    refine (K1.out _).mono ?_
    rintro e w1 ⟨rfl, hb⟩
    obtain ⟨-, hb⟩ := AcAt.call hb
    have HB := Lib.hid hb
    clear hb
    go_wp2_with fail
    go_ret
    exact ⟨rfl, HB.out⟩
  · obtain ⟨a1, a2, a3, a4, a5, a6, a7, a8⟩ := hL.1 rfl
    clear hL
    go_enter Try.func12, Try.ntmps12
    go_wp2_with fail
    refine (K1.out _).mono ?_
    rintro e w1 ⟨rfl, hb⟩
    obtain ⟨ha, hb⟩ := AcAt.call hb
    obtain ⟨-, h1, -, h3, -⟩ := ha.cells
    have HB := Lib.hid hb
    clear hb ha
    go_wp2_with fail
    go_ret
    exact ⟨by simp, HB.out⟩
end Go.Proofs.Ytcomhbfblfclpaa
