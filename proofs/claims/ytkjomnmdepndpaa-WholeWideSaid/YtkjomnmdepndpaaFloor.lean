/- Plain arithmetic: what MulDiv answers is the product divided and rounded down. -/
import Derived.Test.YtkjomnmdepndpaaWd
namespace Go.Proofs.Ytkjomnmdepndpaa

theorem flV_floor (a b c : Int) (hc : 1 ≤ c) : flV a b c * c ≤ a * b ∧ a * b < (flV a b c + 1) * c := by
  obtain ⟨k, rfl⟩ := Int.eq_ofNat_of_zero_le (show 0 ≤ c by omega)
  have hk : 0 < k := by omega
  have hd := Nat.div_add_mod' (a.natAbs * b.natAbs) k
  have hr := Nat.mod_lt (a.natAbs * b.natAbs) hk
  have hn : negB a b (k : Int) = !(decide (a < 0) == decide (b < 0)) := by
    unfold negB
    rw [decide_eq_false (show ¬ ((k : Int) < 0) by omega)]
    cases decide (a < 0) <;> cases decide (b < 0) <;> decide
  have hp : a * b = if (!(decide (a < 0) == decide (b < 0))) = true then -((a.natAbs * b.natAbs : Nat) : Int) else ((a.natAbs * b.natAbs : Nat) : Int) := by
    rcases Int.lt_or_le a 0 with ha | ha <;> rcases Int.lt_or_le b 0 with hb | hb
    · rw [decide_eq_true ha, decide_eq_true hb, if_neg (by decide)]
      obtain ⟨x, rfl⟩ : ∃ x, a = -x := ⟨-a, by omega⟩
      obtain ⟨y, rfl⟩ : ∃ y, b = -y := ⟨-b, by omega⟩
      rw [Int.natCast_mul, Int.neg_mul_neg, Int.natAbs_neg, Int.natAbs_neg, Int.natAbs_of_nonneg (by omega), Int.natAbs_of_nonneg (by omega)]
    · rw [decide_eq_true ha, decide_eq_false (by omega), if_pos (by decide)]
      obtain ⟨x, rfl⟩ : ∃ x, a = -x := ⟨-a, by omega⟩
      rw [Int.natCast_mul, Int.neg_mul, Int.natAbs_neg, Int.natAbs_of_nonneg (by omega), Int.natAbs_of_nonneg (by omega)]
    · rw [decide_eq_false (by omega), decide_eq_true hb, if_pos (by decide)]
      obtain ⟨y, rfl⟩ : ∃ y, b = -y := ⟨-b, by omega⟩
      rw [Int.natCast_mul, Int.mul_neg, Int.natAbs_neg, Int.natAbs_of_nonneg (by omega), Int.natAbs_of_nonneg (by omega)]
    · rw [decide_eq_false (by omega), decide_eq_false (by omega), if_neg (by decide)]
      rw [Int.natCast_mul, Int.natAbs_of_nonneg (by omega), Int.natAbs_of_nonneg (by omega)]
  unfold flV
  rw [hn]
  simp only [Int.natAbs_natCast]
  generalize (!(decide (a < 0) == decide (b < 0))) = s at *
  generalize hP : a.natAbs * b.natAbs = P at *
  have hd' : ((P / k : Nat) : Int) * (k : Int) + ((P % k : Nat) : Int) = (P : Int) := by rw [← Int.natCast_mul, ← Int.natCast_add, hd]
  have hr' : ((P % k : Nat) : Int) < (k : Int) := by omega
  generalize ((P / k : Nat) : Int) = q at *
  cases s
  · rw [hp, if_neg (by decide), if_neg (by decide), Int.add_mul]
    generalize q * (k : Int) = z at *
    omega
  · rw [hp, if_pos rfl, if_pos rfl]
    split
    · rw [Int.neg_mul, Int.add_mul, Int.neg_mul]
      generalize q * (k : Int) = z at *
      omega
    · rw [Int.sub_mul, Int.add_mul, Int.sub_mul, Int.neg_mul]
      generalize q * (k : Int) = z at *
      omega
end Go.Proofs.Ytkjomnmdepndpaa
