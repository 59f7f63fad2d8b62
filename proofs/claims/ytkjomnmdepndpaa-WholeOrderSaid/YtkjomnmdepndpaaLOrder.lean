/- The walk of the law WholeOrder: it returns true. -/
import Derived.Test.YtkjomnmdepndpaaLHeld
namespace Go.Proofs.Ytkjomnmdepndpaa
open Go.RowKit

theorem cmpV_turn (x y : Int) : cmpV y x = -cmpV x y := by
  unfold cmpV; repeat' split
  all_goals omega

set_option maxHeartbeats 2000000 in
set_option maxRecDepth 100000 in
theorem lorder_c (a b c d : Int) (w : World) (ha : -9223372036854775808 ≤ a) (ha' : a ≤ 9223372036854775807) (hb : -9223372036854775808 ≤ b) (hb' : b ≤ 9223372036854775807)
    (hc : -9223372036854775808 ≤ c) (hc' : c ≤ 9223372036854775807) (hd : -9223372036854775808 ≤ d) (hd' : d ≤ 9223372036854775807) :
    Calls Try.prog 9 #[.int .i64 a, .int .i64 b, .int .i64 c, .int .i64 d] w (Drawn (.bool true) w) := by
  have HX : Hid (∃ x : Int, (x = -1 ∨ x = 0 ∨ x = 1) ∧ cmpV (a * b) (c * d) = x ∧ cmpV (c * d) (a * b) = -x ∧ cmpV (b * a) (c * d) = x ∧ cmpV (a * b) (b * a) = 0 ∧
      (fitB (a * b) = true → fitB (c * d) = true → decide (x < 0) = decide (fitV (a * b) < fitV (c * d)))) := Lib.hid (by
    refine ⟨cmpV (a * b) (c * d), ?_, rfl, cmpV_turn _ _, by rw [Int.mul_comm b a], by rw [Int.mul_comm b a, cmpV_eq rfl], ?_⟩
    · unfold cmpV; repeat' split
      all_goals omega
    · intro h1 h2
      rw [fitV_true h1, fitV_true h2]
      unfold cmpV
      by_cases h : a * b < c * d
      · rw [if_pos h, decide_eq_true h]; decide
      · rw [if_neg h, decide_eq_false h]
        split <;> decide)
  obtain ⟨x, hx, h1, h2, h3, h4, h5⟩ := HX.out
  clear HX
  have H1 := Lib.hid h1
  have H2 := Lib.hid h2
  have H3 := Lib.hid h3
  have H4 := Lib.hid h4
  have H5 := Lib.hid h5
  clear h1 h2 h3 h4 h5
  have hm1 : Hid (∀ w, Calls Try.prog 18 #[.int .i64 a, .int .i64 b, .int .i64 c, .int .i64 d] w fun e w' => e = .returned (.int .i64 x) ∧ w = w') := Lib.hid (fun w => H1.out ▸ cmpmul_c a b c d w ha ha' hb hb' hc hc' hd hd')
  have hm2 : Hid (∀ w, Calls Try.prog 18 #[.int .i64 c, .int .i64 d, .int .i64 a, .int .i64 b] w fun e w' => e = .returned (.int .i64 (-x)) ∧ w = w') := Lib.hid (fun w => H2.out ▸ cmpmul_c c d a b w hc hc' hd hd' ha ha' hb hb')
  have hm3 : Hid (∀ w, Calls Try.prog 18 #[.int .i64 b, .int .i64 a, .int .i64 c, .int .i64 d] w fun e w' => e = .returned (.int .i64 x) ∧ w = w') := Lib.hid (fun w => H3.out ▸ cmpmul_c b a c d w hb hb' ha ha' hc hc' hd hd')
  have hm4 : Hid (∀ w, Calls Try.prog 18 #[.int .i64 a, .int .i64 b, .int .i64 b, .int .i64 a] w fun e w' => e = .returned (.int .i64 0) ∧ w = w') := Lib.hid (fun w => H4.out ▸ cmpmul_c a b b a w ha ha' hb hb' hb hb' ha ha')
  rcases hx with rfl | rfl | rfl <;> cases f1 : fitB (a * b) <;> cases f2 : fitB (c * d)
  all_goals
    try have h5 : decide (fitV (a * b) < fitV (c * d)) = true := (H5.out f1 f2).symm.trans (by decide)
    try have h5 : decide (fitV (a * b) < fitV (c * d)) = false := (H5.out f1 f2).symm.trans (by decide)
    go_enter Try.func9, Try.ntmps9
    go_wp2_with fail
    go_at_call 10; refine (awake_c _).mono ?_; rintro e w' ⟨rfl, n, rfl⟩
    go_wp2_with fail
    refine (hm1.out _).mono ?_; rintro e w' ⟨rfl, rfl⟩
    go_wp2_with fail
    refine (mul_c _ _ _ (by assumption) (by assumption) (by assumption) (by assumption)).mono ?_; rintro e w' ⟨rfl, rfl⟩
    go_wp2_with fail
    refine (mul_c _ _ _ (by assumption) (by assumption) (by assumption) (by assumption)).mono ?_; rintro e w' ⟨rfl, rfl⟩
    go_wp2_with fail
    refine (hm2.out _).mono ?_; rintro e w' ⟨rfl, rfl⟩
    go_wp2_with fail
    refine (hm3.out _).mono ?_; rintro e w' ⟨rfl, rfl⟩
    go_wp2_with fail
    refine (hm4.out _).mono ?_; rintro e w' ⟨rfl, rfl⟩
    go_wp2_with fail
    go_ret
    exact ⟨rfl, _, rfl⟩
end Go.Proofs.Ytkjomnmdepndpaa
