/- The walk of the law WholeKnown: it returns true. -/
import Derived.Test.YtkjomnmdepndpaaWe
namespace Go.Proofs.Ytkjomnmdepndpaa
open Go.RowKit

set_option maxHeartbeats 1000000 in
set_option maxRecDepth 100000 in
theorem lknown_c (w : World) : Calls Try.prog 3 #[] w fun e w' => e = .returned (.bool true) ∧ Grown w w' := by
  have a1 : fitB 9223372036854775808 = false := by decide
  have a2 : fitB (-9223372036854775809) = false := by decide
  have a3 : fitV 9223372036854775808 = 0 := by decide
  have b1 : flV (-9223372036854775808) 1 (-1) = 9223372036854775808 := by decide
  have b2 : flV 9223372036854775807 9223372036854775807 9223372036854775807 = 9223372036854775807 := by decide
  have b3 : flV (-9223372036854775808) (-9223372036854775808) (-9223372036854775808) = -9223372036854775808 := by decide
  have b4 : fitB 9223372036854775807 = true := by decide
  have b5 : fitV 9223372036854775807 = 9223372036854775807 := by decide
  have b6 : fitB (-9223372036854775808) = true := by decide
  have b7 : fitV (-9223372036854775808) = -9223372036854775808 := by decide
  have c1 : fitV [(9223372036854775807 : Int), 1, -1].sum = 9223372036854775807 := by decide
  have c2 : fitB [(9223372036854775807 : Int), 1, -1].sum = true := by decide
  have c3 : fitV [(9223372036854775807 : Int), 1].sum = 0 := by decide
  have c4 : fitB [(9223372036854775807 : Int), 1].sum = false := by decide
  have c5 : fitV ([] : List Int).sum = 0 := by decide
  have c6 : fitB ([] : List Int).sum = true := by decide
  have d1 : heldV 5 1 3 = 3 := by decide
  have d2 : heldV 0 1 3 = 1 := by decide
  have d3 : heldV 2 3 1 = 3 := by decide
  have e1 : cmpV (9223372036854775807 * 9223372036854775807) (-9223372036854775808 * -9223372036854775808) = -1 := by decide
  have e2 : cmpV (-9223372036854775808 * -9223372036854775808) (9223372036854775807 * 9223372036854775807) = 1 := by decide
  have e3 : cmpV (-9223372036854775808 * 3) (-9223372036854775808 * 3) = 0 := by decide
  have hs3 : Hid (∀ m, Calls Try.prog 15 #[.slice (some ⟨w.heap.size, 0, none⟩) 3 3] ((w.drewN m).alloc (.cells #[.int .i64 9223372036854775807, .int .i64 1, .int .i64 (-1)] 2)) fun e w' =>
      e = .returned (.tuple #[.int .i64 9223372036854775807, .bool true]) ∧ ((w.drewN m).alloc (.cells #[.int .i64 9223372036854775807, .int .i64 1, .int .i64 (-1)] 2)) = w') := Lib.hid fun m => by
    have h := sum_n (some ⟨w.heap.size, 0, none⟩) 3 3 (w.heap.size + 1) [9223372036854775807, 1, -1] ((w.drewN m).alloc (.cells #[.int .i64 9223372036854775807, .int .i64 1, .int .i64 (-1)] 2)) rfl (by omega) (IRow.lit _ _ _ _ _ _ rfl rfl (Nat.lt_succ_self _)) (by decide)
    rw [c1, c2] at h
    exact h
  have hs2 : Hid (∀ W, Calls Try.prog 15 #[.slice (some ⟨w.heap.size + 1, 0, none⟩) 2 2] (((w.drewN W).alloc (.cells #[.int .i64 9223372036854775807, .int .i64 1, .int .i64 (-1)] 2)).alloc (.cells #[.int .i64 9223372036854775807, .int .i64 1] 2)) fun e w' =>
      e = .returned (.tuple #[.int .i64 0, .bool false]) ∧ (((w.drewN W).alloc (.cells #[.int .i64 9223372036854775807, .int .i64 1, .int .i64 (-1)] 2)).alloc (.cells #[.int .i64 9223372036854775807, .int .i64 1] 2)) = w') := Lib.hid fun m => by
    have h := sum_n (some ⟨w.heap.size + 1, 0, none⟩) 2 2 (w.heap.size + 2) [9223372036854775807, 1] (((w.drewN m).alloc (.cells #[.int .i64 9223372036854775807, .int .i64 1, .int .i64 (-1)] 2)).alloc (.cells #[.int .i64 9223372036854775807, .int .i64 1] 2)) rfl (by omega) (IRow.lit _ _ _ _ _ _ rfl (by simp) (Nat.lt_succ_self _)) (by decide)
    rw [c3, c4] at h
    exact h
  have hs0 : Hid (∀ W, Calls Try.prog 15 #[.slice none 0 0] W fun e w' => e = .returned (.tuple #[.int .i64 0, .bool true]) ∧ W = w') := Lib.hid fun m => by
    have h := sum_n none 0 0 0 [] m rfl (by omega) IRow.nil (by simp)
    rw [c5, c6] at h
    exact h
  go_enter Try.func3, Try.ntmps3
  go_wp2_with (first
    | (go_at_call 10; refine (awake_c _).mono ?_; rintro e w' ⟨rfl, n, rfl⟩)
    | (go_at_call 11; refine (add_c _ _ _ (by omega) (by omega) (by omega) (by omega)).mono ?_; rintro e w' ⟨rfl, rfl⟩)
    | (go_at_call 12; refine (sub_c _ _ _ (by omega) (by omega) (by omega) (by omega)).mono ?_; rintro e w' ⟨rfl, rfl⟩)
    | (go_at_call 13; refine (mul_c _ _ _ (by omega) (by omega) (by omega) (by omega)).mono ?_; rintro e w' ⟨rfl, rfl⟩)
    | (go_at_call 14; first | (refine (muldiv_c _ _ _ _ (by omega) (by omega) (by omega) (by omega) (by omega) (by omega) (by omega)).mono ?_; rintro e w' ⟨rfl, n, rfl⟩; first | rw [b1] | rw [b2] | rw [b3]) | (refine (muldiv_zero _ _ _).mono ?_; rintro e w' ⟨rfl, rfl⟩))
    | (go_at_call 15; first
       | ((with_reducible refine (hs3.out _).mono ?_); rintro e w' ⟨rfl, rfl⟩)
       | ((with_reducible refine (hs2.out _).mono ?_); rintro e w' ⟨rfl, rfl⟩)
       | ((with_reducible refine (hs0.out _).mono ?_); rintro e w' ⟨rfl, rfl⟩))
    | (go_at_call 16; refine (wide_c _ _ _ (by omega) (by omega) (by omega) (by omega)).mono ?_; rintro e w' ⟨rfl, rfl⟩)
    | (go_at_call 17; refine (held_c _ _ _ _).mono ?_; rintro e w' ⟨rfl, rfl⟩; first | rw [d1] | rw [d2] | rw [d3])
    | (go_at_call 18; refine (cmpmul_c _ _ _ _ _ (by omega) (by omega) (by omega) (by omega) (by omega) (by omega) (by omega) (by omega)).mono ?_; rintro e w' ⟨rfl, rfl⟩; first | rw [e1] | rw [e2] | rw [e3]))
  go_ret
  refine ⟨rfl, Grown.alloc (Grown.alloc ?_ _ _) _ _⟩
  exact Grown.refl w
end Go.Proofs.Ytkjomnmdepndpaa
