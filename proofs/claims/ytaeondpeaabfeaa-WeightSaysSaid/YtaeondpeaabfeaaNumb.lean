/- Plain arithmetic for chapter 1: products of 128 bits. No program is named here. -/
import Derived.Test.YtaeondpeaabfeaaNum
import Derived.Laws.BitsLemmas
namespace Go.Proofs.Ytaeondpeaabfeaa
open Go.RowKit

theorem and_ones (b : Int) (h1 : -9223372036854775808 ≤ b) (h2 : b ≤ 9223372036854775807) : bits .and .i64 (-1) b = b := by
  have key : (BitVec.ofInt 64 (-1) &&& BitVec.ofInt 64 b).toNat = (b % ((2 ^ 64 : Nat) : Int)).toNat := by
    have h : BitVec.ofInt 64 (-1) = BitVec.allOnes 64 := by decide
    rw [h, BitVec.allOnes_and, BitVec.toNat_ofInt]
  show IntKind.i64.wrap ((BitVec.ofInt 64 (-1) &&& BitVec.ofInt 64 b).toNat : Nat) = b
  rw [key, IntKind.wrap_i64]
  omega
theorem and_zeros (b : Int) : bits .and .i64 0 b = 0 := by
  have key : (BitVec.ofInt 64 0 &&& BitVec.ofInt 64 b).toNat = 0 := by
    have h : BitVec.ofInt 64 0 = 0#64 := by decide
    rw [h, BitVec.zero_and]; rfl
  show IntKind.i64.wrap ((BitVec.ofInt 64 0 &&& BitVec.ofInt 64 b).toNat : Nat) = 0
  rw [key, IntKind.wrap_i64]
  omega

/-- All ones or all zeros. -/
def signV (a : Int) : Int := if a < 0 then -1 else 0
theorem signV_neg {a : Int} (h : a < 0) : signV a = -1 := by unfold signV; rw [if_pos h]
theorem signV_pos {a : Int} (h : ¬ a < 0) : signV a = 0 := by unfold signV; rw [if_neg h]

theorem mul_le_126 {a b : Int} (ha : -9223372036854775808 ≤ a) (ha' : a ≤ 9223372036854775807) (hb : -9223372036854775808 ≤ b) (hb' : b ≤ 9223372036854775807) :
    -85070591730234615865843651857942052864 ≤ a * b ∧ a * b ≤ 85070591730234615865843651857942052864 := by
  have h1 : a.natAbs ≤ 9223372036854775808 := by omega
  have h2 : b.natAbs ≤ 9223372036854775808 := by omega
  have h := Nat.mul_le_mul h1 h2
  rw [← Int.natAbs_mul] at h
  omega

theorem u64_wrap_neg {a : Int} (ha : -9223372036854775808 ≤ a) (h : a < 0) : IntKind.u64.wrap a = a + 18446744073709551616 := by
  rw [IntKind.wrap_u64]; omega
theorem u64_wrap_pos {a : Int} (ha' : a ≤ 9223372036854775807) (h : ¬ a < 0) : IntKind.u64.wrap a = a := by
  rw [IntKind.wrap_u64]; omega

theorem wide_hi {a b : Int} (ha : -9223372036854775808 ≤ a) (ha' : a ≤ 9223372036854775807) (hb : -9223372036854775808 ≤ b) (hb' : b ≤ 9223372036854775807) :
    wrap64 (wrap64 (wrap64 (IntKind.u64.wrap a * IntKind.u64.wrap b / 18446744073709551616) - bits .and .i64 (signV a) b) - bits .and .i64 (signV b) a) = a * b / 18446744073709551616
    ∧ IntKind.u64.wrap a * IntKind.u64.wrap b % 18446744073709551616 = a * b % 18446744073709551616 := by
  have hm := mul_le_126 ha ha' hb hb'
  by_cases h1 : a < 0 <;> by_cases h2 : b < 0
  · rw [signV_neg h1, signV_neg h2, and_ones a ha ha', and_ones b hb hb', u64_wrap_neg ha h1, u64_wrap_neg hb h2]
    have e : (a + 18446744073709551616) * (b + 18446744073709551616) = a * b + 18446744073709551616 * (a + b + 18446744073709551616) := by
      rw [Int.add_mul, Int.mul_add]; omega
    rw [e]; generalize a * b = p at *; unfold wrap64; omega
  · rw [signV_neg h1, signV_pos h2, and_zeros, and_ones b hb hb', u64_wrap_neg ha h1, u64_wrap_pos hb' h2]
    have e : (a + 18446744073709551616) * b = a * b + 18446744073709551616 * b := by
      rw [Int.add_mul]
    rw [e]; generalize a * b = p at *; unfold wrap64; omega
  · rw [signV_pos h1, signV_neg h2, and_zeros, and_ones a ha ha', u64_wrap_pos ha' h1, u64_wrap_neg hb h2]
    have e : a * (b + 18446744073709551616) = a * b + 18446744073709551616 * a := by
      rw [Int.mul_add]; omega
    rw [e]; generalize a * b = p at *; unfold wrap64; omega
  · rw [signV_pos h1, signV_pos h2, and_zeros, and_zeros, u64_wrap_pos ha' h1, u64_wrap_pos hb' h2]
    generalize a * b = p at *; unfold wrap64; omega

/-- How two numbers stand: -1, 0 or 1. -/
def cmpV (x y : Int) : Int := if x < y then -1 else if y < x then 1 else 0
theorem cmpV_lt {x y : Int} (h : x < y) : cmpV x y = -1 := by unfold cmpV; rw [if_pos h]
theorem cmpV_gt {x y : Int} (h : y < x) : cmpV x y = 1 := by unfold cmpV; rw [if_neg (by omega), if_pos h]
theorem cmpV_eq {x y : Int} (h : x = y) : cmpV x y = 0 := by unfold cmpV; rw [if_neg (by omega), if_neg (by omega)]
theorem cmpV_hi {x y : Int} (h : ¬ x / 18446744073709551616 = y / 18446744073709551616) : cmpV (x / 18446744073709551616) (y / 18446744073709551616) = cmpV x y := by
  by_cases h1 : x < y
  · rw [cmpV_lt h1, cmpV_lt (by omega)]
  · rw [cmpV_gt (x := x) (by omega), cmpV_gt (by omega)]
theorem cmpV_lo {x y : Int} (h : x / 18446744073709551616 = y / 18446744073709551616) : cmpV (x % 18446744073709551616) (y % 18446744073709551616) = cmpV x y := by
  by_cases h1 : x < y
  · rw [cmpV_lt h1, cmpV_lt (by omega)]
  · by_cases h2 : y < x
    · rw [cmpV_gt h2, cmpV_gt (by omega)]
    · rw [cmpV_eq (x := x) (by omega), cmpV_eq (by omega)]
end Go.Proofs.Ytaeondpeaabfeaa
