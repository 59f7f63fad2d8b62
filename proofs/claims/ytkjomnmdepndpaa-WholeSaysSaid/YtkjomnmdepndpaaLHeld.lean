/- The walk of the law WholeHeld: it returns true. -/
import Derived.Test.YtkjomnmdepndpaaWd
namespace Go.Proofs.Ytkjomnmdepndpaa
open Go.RowKit

theorem Drawn.grown {v : Value} {w w' : World} {e : Ending} (h : Drawn v w e w') : e = .returned v ∧ Grown w w' := by
  obtain ⟨h, n, rfl⟩ := h
  exact ⟨h, Grown.refl w⟩

set_option maxHeartbeats 400000 in
theorem lheld_c (a lo hi : Int) (w : World) : Calls Try.prog 6 #[.int .i64 a, .int .i64 lo, .int .i64 hi] w (Drawn (.bool true) w) := by
  by_cases h1 : hi < lo
  · have hv : heldV a lo hi = lo := by unfold heldV; rw [if_pos (.inr h1)]
    have HV := Lib.hid hv
    clear hv
    go_enter Try.func6, Try.ntmps6
    go_wp2_with (first
      | (go_at_call 10; refine (awake_c _).mono ?_; rintro e w' ⟨rfl, n, rfl⟩)
      | (go_at_call 17; refine (held_c _ _ _ _).mono ?_; rintro e w' ⟨rfl, rfl⟩; rw [HV.out]))
    go_ret
    exact ⟨rfl, _, rfl⟩
  · have h1' : lo ≤ hi := by omega
    rcases Int.lt_or_le a lo with h2 | h2
    · have hv : heldV a lo hi = lo := by unfold heldV; rw [if_pos (.inl h2)]
      have HV := Lib.hid hv
      clear hv
      go_enter Try.func6, Try.ntmps6
      go_wp2_with (first
        | (go_at_call 10; refine (awake_c _).mono ?_; rintro e w' ⟨rfl, n, rfl⟩)
        | (go_at_call 17; refine (held_c _ _ _ _).mono ?_; rintro e w' ⟨rfl, rfl⟩; rw [HV.out]))
      all_goals (go_ret; exact ⟨rfl, _, rfl⟩)
    · rcases Int.lt_or_le hi a with h3 | h3
      · have hv : heldV a lo hi = hi := by unfold heldV; rw [if_neg (by omega), if_pos h3]
        have HV := Lib.hid hv
        clear hv
        go_enter Try.func6, Try.ntmps6
        go_wp2_with (first
          | (go_at_call 10; refine (awake_c _).mono ?_; rintro e w' ⟨rfl, n, rfl⟩)
          | (go_at_call 17; refine (held_c _ _ _ _).mono ?_; rintro e w' ⟨rfl, rfl⟩; rw [HV.out]))
        all_goals (go_ret; exact ⟨rfl, _, rfl⟩)
      · have hv : heldV a lo hi = a := by unfold heldV; rw [if_neg (by omega), if_neg (by omega)]
        have HV := Lib.hid hv
        clear hv
        go_enter Try.func6, Try.ntmps6
        go_wp2_with (first
          | (go_at_call 10; refine (awake_c _).mono ?_; rintro e w' ⟨rfl, n, rfl⟩)
          | (go_at_call 17; refine (held_c _ _ _ _).mono ?_; rintro e w' ⟨rfl, rfl⟩; rw [HV.out]))
        all_goals (go_ret; exact ⟨rfl, _, rfl⟩)
end Go.Proofs.Ytkjomnmdepndpaa
