/- The walks of the laws WholeBack and WholeOrder: they return true. -/
import Derived.Test.YtkjomnmdepndpaaLHeld
namespace Go.Proofs.Ytkjomnmdepndpaa
open Go.RowKit

theorem flV_back (a b : Int) (hb : b ≠ 0) : flV (a * b) 1 b = a := by
  have h1 : (a * b).natAbs * (1 : Int).natAbs = a.natAbs * b.natAbs := by rw [Int.natAbs_mul]; simp
  have h2 : a.natAbs * b.natAbs / b.natAbs = a.natAbs := Nat.mul_div_cancel _ (by omega)
  have h3 : a.natAbs * b.natAbs % b.natAbs = 0 := Nat.mul_mod_left _ _
  unfold flV
  rw [h1, h2, h3, if_pos rfl]
  have hn : negB (a * b) 1 b = !(decide (a * b < 0) == decide (b < 0)) := by
    unfold negB
    cases decide (a * b < 0) <;> cases decide (b < 0) <;> decide
  rw [hn]
  rcases Int.lt_or_le a 0 with ha | ha
  · rcases Int.lt_or_lt_of_ne hb with hb | hb
    · have := Int.mul_pos_of_neg_of_neg ha hb
      rw [decide_eq_false (by omega), decide_eq_true hb, if_pos (by decide)]; omega
    · have := Int.mul_neg_of_neg_of_pos ha hb
      rw [decide_eq_true (by omega), decide_eq_false (by omega), if_pos (by decide)]; omega
  · rcases Int.lt_or_lt_of_ne hb with hb | hb
    · by_cases h0 : a = 0
      · subst h0; split <;> simp
      · have := Int.mul_neg_of_pos_of_neg (show 0 < a by omega) hb
        rw [decide_eq_true (by omega), decide_eq_true hb, if_neg (by decide)]; omega
    · have := Int.mul_nonneg ha (show 0 ≤ b by omega)
      rw [decide_eq_false (by omega), decide_eq_false (by omega), if_neg (by decide)]; omega

set_option maxHeartbeats 1000000 in
theorem lback_c (a b : Int) (w : World) (ha : -9223372036854775808 ≤ a) (ha' : a ≤ 9223372036854775807) (hb : -9223372036854775808 ≤ b) (hb' : b ≤ 9223372036854775807) :
    Calls Try.prog 7 #[.int .i64 a, .int .i64 b] w (Drawn (.bool true) w) := by
  have hra := fitV_range (a + b)
  have hrm := fitV_range (a * b)
  obtain ⟨r1, r2⟩ := hra
  obtain ⟨r3, r4⟩ := hrm
  have HB : Hid (fitB (a + b) = true → fitV (fitV (a + b) - b) = a ∧ fitB (fitV (a + b) - b) = true) := Lib.hid (by
    intro h
    have h2 : fitB a = true := fitB_true.2 ⟨ha, ha'⟩
    rw [fitV_true h, show a + b - b = a by omega, fitV_true h2]
    exact ⟨rfl, h2⟩)
  have HC : Hid (fitB (a * b) = true → (b != 0) = true → fitV (flV (fitV (a * b)) 1 b) = a ∧ fitB (flV (fitV (a * b)) 1 b) = true) := Lib.hid (by
    intro h h0
    have h2 : fitB a = true := fitB_true.2 ⟨ha, ha'⟩
    rw [fitV_true h, flV_back a b (bne_iff_ne.1 h0), fitV_true h2]
    exact ⟨rfl, h2⟩)
  cases f1 : fitB (a + b) <;> cases f2 : fitB (a * b) <;> cases g0 : (b != 0)
  all_goals
    go_enter Try.func7, Try.ntmps7
    go_wp2_with (first
      | (go_at_call 10; refine (awake_c _).mono ?_; rintro e w' ⟨rfl, n, rfl⟩)
      | (go_at_call 11; refine (add_c _ _ _ (by assumption) (by assumption) (by assumption) (by assumption)).mono ?_; rintro e w' ⟨rfl, rfl⟩; (try rw [Int.add_comm b a]))
      | (go_at_call 12; refine (sub_c _ _ _ (by assumption) (by assumption) (by assumption) (by assumption)).mono ?_; rintro e w' ⟨rfl, rfl⟩; rw [(HB.out (by assumption)).1, (HB.out (by assumption)).2])
      | (go_at_call 13; refine (mul_c _ _ _ (by assumption) (by assumption) (by assumption) (by assumption)).mono ?_; rintro e w' ⟨rfl, rfl⟩; (try rw [Int.mul_comm b a]))
      | (go_at_call 14; refine (muldiv_c _ _ _ _ (by assumption) (by assumption) (by omega) (by omega) (by assumption) (by assumption) (bne_iff_ne.1 (by assumption))).mono ?_; rintro e w' ⟨rfl, n, rfl⟩; rw [(HC.out (by assumption) (by assumption)).1, (HC.out (by assumption) (by assumption)).2]))
    all_goals (go_ret; exact ⟨rfl, _, rfl⟩)
end Go.Proofs.Ytkjomnmdepndpaa
