/- Plain arithmetic for chapter 1: what fits into 64 bits. No program is named here. -/
import Derived.WalkKit
namespace Go.Proofs.Ytaeondpeaabfeaa
open Go.RowKit

/-- x fits into a signed number of 64 bits. -/
def fitB (x : Int) : Bool := decide (-9223372036854775808 ≤ x) && decide (x ≤ 9223372036854775807)
/-- x if it fits, and else 0. -/
def fitV (x : Int) : Int := if fitB x = true then x else 0

theorem fitB_true {x : Int} : fitB x = true ↔ -9223372036854775808 ≤ x ∧ x ≤ 9223372036854775807 := by
  unfold fitB; simp
theorem fitB_false {x : Int} : fitB x = false ↔ x < -9223372036854775808 ∨ 9223372036854775807 < x := by
  unfold fitB; simp; omega
theorem fitV_true {x : Int} (h : fitB x = true) : fitV x = x := by unfold fitV; rw [if_pos h]
theorem fitV_false {x : Int} (h : fitB x = false) : fitV x = 0 := by unfold fitV; rw [if_neg (by simp [h])]
theorem fitV_range (x : Int) : -9223372036854775808 ≤ fitV x ∧ fitV x ≤ 9223372036854775807 := by
  by_cases h : fitB x = true
  · rw [fitV_true h]; exact fitB_true.1 h
  · rw [fitV_false (by simpa using h)]; omega
theorem of_wf {x : Int} (h : (Lit.int .i64 x).wf = true) : -9223372036854775808 ≤ x ∧ x ≤ 9223372036854775807 := by
  simp only [Lit.wf, IntKind.min, IntKind.max, IntKind.signed, IntKind.bits, Bool.and_eq_true, decide_eq_true_eq, if_true] at h
  omega

/-- Two results, a number and a bool. -/
theorem ret_ib {k : IntKind} {a b : Int} {p q : Bool} (h : a = b) (h2 : p = q) : Ending.returned (.tuple #[.int k a, .bool p]) = .returned (.tuple #[.int k b, .bool q]) := by rw [h, h2]
theorem ret_ii {k l : IntKind} {a b c d : Int} (h : a = b) (h2 : c = d) : Ending.returned (.tuple #[.int k a, .int l c]) = .returned (.tuple #[.int k b, .int l d]) := by rw [h, h2]
theorem ret_i {k : IntKind} {a b : Int} (h : a = b) : Ending.returned (.int k a) = .returned (.int k b) := by rw [h]
theorem ret_b {p q : Bool} (h : p = q) : Ending.returned (.bool p) = .returned (.bool q) := by rw [h]
theorem ret_fit {x : Int} {v : Int} {p : Bool} (h : fitB x = true ∧ v = x ∧ p = true ∨ fitB x = false ∧ v = 0 ∧ p = false) : Ending.returned (.tuple #[.int .i64 v, .bool p]) = .returned (.tuple #[.int .i64 (fitV x), .bool (fitB x)]) := by
  rcases h with ⟨h, rfl, rfl⟩ | ⟨h, rfl, rfl⟩
  · rw [fitV_true h, h]
  · rw [fitV_false h, h]

theorem ret_in {x v : Int} (h1 : -9223372036854775808 ≤ x) (h2 : x ≤ 9223372036854775807) (hv : v = x) : Ending.returned (.tuple #[.int .i64 v, .bool true]) = .returned (.tuple #[.int .i64 (fitV x), .bool (fitB x)]) :=
  ret_fit (.inl ⟨fitB_true.2 ⟨h1, h2⟩, hv, rfl⟩)
theorem ret_out {x : Int} (h : x < -9223372036854775808 ∨ 9223372036854775807 < x) : Ending.returned (.tuple #[.int .i64 0, .bool false]) = .returned (.tuple #[.int .i64 (fitV x), .bool (fitB x)]) :=
  ret_fit (.inr ⟨fitB_false.2 h, rfl, rfl⟩)
theorem wrap64_fit {x : Int} (h : fitB x = true) : wrap64 x = x := by
  have := fitB_true.1 h; unfold wrap64; omega
end Go.Proofs.Ytaeondpeaabfeaa
