/- The contract of the reference's MulDiv. -/
import Derived.Test.YtaeondpeaabfeaaRj
import Derived.Test.YtaeondpeaabfeaaRg
import Derived.Test.YtaeondpeaabfeaaWd
namespace Go.Proofs.Ytaeondpeaabfeaa
open Go.RowKit

theorem BigV.nonneg {w : World} {v : Value} {n : Bool} {l : List Int} (h : BigV w v n l) : 0 ≤ val l := by
  obtain ⟨A, c, rfl, hr, hd⟩ := h
  exact (val_bound hd).1
theorem sval_abs {n : Bool} {l : List Int} {x : Int} (h : 0 ≤ val l) (e : sval n l = x) : val l = (x.natAbs : Int) := by
  subst e
  cases n
  · rw [sval_pos]; omega
  · rw [sval_neg]; omega
theorem sval_sign {n : Bool} {l : List Int} {x : Int} (h : 0 ≤ val l) (e : sval n l = x) (hx : x ≠ 0) : n = decide (x < 0) := by
  subst e
  cases n
  · rw [sval_pos] at *; exact (decide_eq_false (by omega)).symm
  · rw [sval_neg] at *; exact (decide_eq_true (by omega)).symm
theorem sign_mul {a b : Int} (ha : a ≠ 0) (hb : b ≠ 0) : decide (a * b < 0) = !(decide (a < 0) == decide (b < 0)) := by
  rcases Int.lt_or_le a 0 with h1 | h1 <;> rcases Int.lt_or_le b 0 with h2 | h2
  · have := Int.mul_pos_of_neg_of_neg h1 h2
    rw [decide_eq_true h1, decide_eq_true h2, decide_eq_false (by omega)]; rfl
  · have := Int.mul_neg_of_neg_of_pos h1 (show 0 < b by omega)
    rw [decide_eq_true h1, decide_eq_false (show ¬ b < 0 by omega), decide_eq_true this]; rfl
  · have := Int.mul_neg_of_pos_of_neg (show 0 < a by omega) h2
    rw [decide_eq_false (show ¬ a < 0 by omega), decide_eq_true h2, decide_eq_true this]; rfl
  · have := Int.mul_nonneg h1 h2
    rw [decide_eq_false (show ¬ a < 0 by omega), decide_eq_false (show ¬ b < 0 by omega), decide_eq_false (by omega)]; rfl
theorem divV_flV {na nb : Bool} {la lb : List Int} {a b c : Int} (h1 : 0 ≤ val la) (h2 : 0 ≤ val lb) (e1 : sval na la = a * b) (e2 : sval nb lb = c) (hc : c ≠ 0) : divV na nb (val la) (val lb) = flV a b c := by
  have hP := sval_abs h1 e1
  have hD := sval_abs h2 e2
  rw [Int.natAbs_mul] at hP
  have hm : ((((a.natAbs * b.natAbs : Nat) : Int) % ((c.natAbs : Nat) : Int) = 0) ↔ (a.natAbs * b.natAbs % c.natAbs = 0)) := by
    rw [← Int.natCast_emod]; omega
  have hq : ((a.natAbs * b.natAbs : Nat) : Int) / ((c.natAbs : Nat) : Int) = ((a.natAbs * b.natAbs / c.natAbs : Nat) : Int) := (Int.natCast_ediv _ _).symm
  unfold divV flV
  rw [hP, hD, hq]
  by_cases hz : a.natAbs * b.natAbs = 0
  · rw [hz]; simp
  · have ha : a ≠ 0 := fun h => hz (by simp [h])
    have hb : b ≠ 0 := fun h => hz (by simp [h])
    have s1 := sval_sign h1 e1 (Int.mul_ne_zero ha hb)
    have s2 := sval_sign h2 e2 hc
    rw [sign_mul ha hb] at s1
    have hn : negB a b c = !(na == nb) := by
      unfold negB
      rw [s1, s2]
    rw [hn]
    simp only [hm]

theorem muldiv_ref_zero (a b : Int) (w : World) : Calls Try.prog 27 #[.int .i64 a, .int .i64 b, .int .i64 0] w (Ret w (.tuple #[.int .i64 0, .bool false])) := by
  go_enter Try.func27, Try.ntmps27
  go_wp2_with fail
  go_ret2
  exact ⟨rfl, Below.refl _ _⟩

set_option maxHeartbeats 2000000 in
theorem muldiv_ref (a b c : Int) (w : World) (ha : -9223372036854775808 ≤ a) (ha' : a ≤ 9223372036854775807) (hb : -9223372036854775808 ≤ b) (hb' : b ≤ 9223372036854775807)
    (hc : -9223372036854775808 ≤ c) (hc' : c ≤ 9223372036854775807) (hc0 : c ≠ 0) :
    Calls Try.prog 27 #[.int .i64 a, .int .i64 b, .int .i64 c] w (Ret w (.tuple #[.int .i64 (fitV (flV a b c)), .bool (fitB (flV a b c))])) := by
  have hcb : (c == 0) = false := beq_eq_false_iff_ne.2 hc0
  have HE := Lib.hid (fun na nb la lb (h1 : 0 ≤ val la) (h2 : 0 ≤ val lb) (e1 : sval na la = a * b) (e2 : sval nb lb = c) => divV_flV h1 h2 e1 e2 hc0)
  have HC0 := Lib.hid hc0
  clear hc0
  go_enter Try.func27, Try.ntmps27
  go_wp2_with fail
  refine (of_c _ _ ha ha').mono ?_
  rintro e x1 ⟨v1, n1, r1, rfl, b1, s1, m1, d1⟩
  have S1 := Lib.hid s1
  clear s1
  go_wp2_with fail
  refine (of_c _ _ hb hb').mono ?_
  rintro e x2 ⟨v2, n2, r2, rfl, b2, s2, m2, c2⟩
  have S2 := Lib.hid s2
  have b12 := b1.below c2
  have d2 := d1.trans (c2.mono d1.size)
  clear s2
  go_wp2_with fail
  refine (mul_ref _ _ _ _ _ _ _ b12 b2 (by omega) (by omega)).mono ?_
  rintro e x3 ⟨v3, n3, r3, rfl, b3, s3, m3, c3⟩
  have S3 := Lib.hid s3
  have d3 := d2.trans (c3.mono d2.size)
  clear s3
  go_wp2_with fail
  refine (of_c _ _ hc hc').mono ?_
  rintro e x4 ⟨v4, n4, r4, rfl, b4, s4, m4, c4⟩
  have b34 := b3.below c4
  have d4 := d3.trans (c4.mono d3.size)
  have S4 : Hid (1 ≤ val r4) := Lib.hid (by have h0 := sval_abs b4.nonneg s4; have := HC0.out; omega)
  have SV := Lib.hid (HE.out n3 n4 r3 r4 b3.nonneg b4.nonneg (by rw [S3.out, S1.out, S2.out]) s4)
  clear s4
  go_wp2_with fail
  refine (div_ref _ _ _ _ _ _ _ b34 b4 (by omega) (by omega) S4.out).mono ?_
  rintro e x5 ⟨v5, n5, r5, rfl, b5, s5, m5, c5⟩
  have S5 := Lib.hid (s5.trans SV.out)
  have d5 := d4.trans (c5.mono d4.size)
  clear s5
  go_wp2_with fail
  refine (fits_ref _ _ _ _ b5 (by omega)).mono ?_
  rintro e x6 ⟨rfl, c6⟩
  rw [S5.out]
  have d6 := d5.trans (c6.mono d5.size)
  go_wp2_with fail
  go_ret2
  exact ⟨rfl, d6⟩
end Go.Proofs.Ytaeondpeaabfeaa
