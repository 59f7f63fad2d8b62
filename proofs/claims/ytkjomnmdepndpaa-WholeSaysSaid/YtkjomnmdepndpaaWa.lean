/- Contracts of package whole: Add, Sub, Held. -/
import Derived.Test.YtkjomnmdepndpaaChecked
import Derived.Test.YtkjomnmdepndpaaNumb
import Derived.WalkKit
import Derived.ProofKit
import Derived.Lib.Hide
import Derived.Lib.Mul64
import Derived.Laws.Bits64b
namespace Go.Proofs.Ytkjomnmdepndpaa
open Go.RowKit

theorem add_over {a b : Int} (ha : -9223372036854775808 ≤ a) (ha' : a ≤ 9223372036854775807) (hb : -9223372036854775808 ≤ b) (hb' : b ≤ 9223372036854775807) :
    ((a < 0 ↔ b < 0) ∧ ¬ (wrap64 (a + b) < 0 ↔ b < 0)) ↔ fitB (a + b) = false := by
  rw [fitB_false]; unfold wrap64; omega
theorem sub_over {a b : Int} (ha : -9223372036854775808 ≤ a) (ha' : a ≤ 9223372036854775807) (hb : -9223372036854775808 ≤ b) (hb' : b ≤ 9223372036854775807) :
    (¬ (a < 0 ↔ b < 0) ∧ ¬ (wrap64 (a - b) < 0 ↔ a < 0)) ↔ fitB (a - b) = false := by
  rw [fitB_false]; unfold wrap64; omega
theorem fit_of_not {x : Int} (h : ¬ fitB x = false) : fitB x = true := by simpa using h

set_option maxHeartbeats 400000 in
theorem add_c (a b : Int) (w : World) (ha : -9223372036854775808 ≤ a) (ha' : a ≤ 9223372036854775807) (hb : -9223372036854775808 ≤ b) (hb' : b ≤ 9223372036854775807) :
    Calls Try.prog 11 #[.int .i64 a, .int .i64 b] w fun e w' => e = .returned (.tuple #[.int .i64 (fitV (a + b)), .bool (fitB (a + b))]) ∧ w = w' := by
  have ho := Lib.hid (add_over ha ha' hb hb')
  go_enter Try.func11, Try.ntmps11
  go_wp2
  · rename_i h1 h2
    go_ret2
    refine ⟨ret_fit (.inr ⟨ho.out.1 ⟨h1, ?_⟩, rfl, rfl⟩), rfl⟩
    simpa using h2
  · rename_i h1 h2
    go_ret2
    have hf : fitB (a + b) = true := fit_of_not fun h => by have := (ho.out.2 h).2; simp at h2; omega
    exact ⟨ret_fit (.inl ⟨hf, wrap64_fit hf, rfl⟩), rfl⟩
  · rename_i h1
    go_ret2
    have hf : fitB (a + b) = true := fit_of_not fun h => h1 (ho.out.2 h).1
    exact ⟨ret_fit (.inl ⟨hf, wrap64_fit hf, rfl⟩), rfl⟩

set_option maxHeartbeats 400000 in
theorem sub_c (a b : Int) (w : World) (ha : -9223372036854775808 ≤ a) (ha' : a ≤ 9223372036854775807) (hb : -9223372036854775808 ≤ b) (hb' : b ≤ 9223372036854775807) :
    Calls Try.prog 12 #[.int .i64 a, .int .i64 b] w fun e w' => e = .returned (.tuple #[.int .i64 (fitV (a - b)), .bool (fitB (a - b))]) ∧ w = w' := by
  have ho := Lib.hid (sub_over ha ha' hb hb')
  go_enter Try.func12, Try.ntmps12
  go_wp2
  · rename_i h1
    go_ret2
    have hf : fitB (a - b) = true := fit_of_not fun h => (ho.out.2 h).1 h1
    exact ⟨ret_fit (.inl ⟨hf, wrap64_fit hf, rfl⟩), rfl⟩
  · rename_i h1 h2
    go_ret2
    refine ⟨ret_fit (.inr ⟨ho.out.1 ⟨h1, ?_⟩, rfl, rfl⟩), rfl⟩
    simpa using h2.2
  · rename_i h1 h2
    go_ret2
    have hf : fitB (a - b) = true := fit_of_not fun h => by have := (ho.out.2 h); simp at h2; omega
    exact ⟨ret_fit (.inl ⟨hf, wrap64_fit hf, rfl⟩), rfl⟩

/-- What Held answers. -/
def heldV (a lo hi : Int) : Int := if a < lo ∨ hi < lo then lo else if hi < a then hi else a
set_option maxHeartbeats 400000 in
theorem held_c (a lo hi : Int) (w : World) :
    Calls Try.prog 17 #[.int .i64 a, .int .i64 lo, .int .i64 hi] w fun e w' => e = .returned (.int .i64 (heldV a lo hi)) ∧ w = w' := by
  go_enter Try.func17, Try.ntmps17
  go_wp2
  all_goals
    go_ret
    refine ⟨ret_i ?_, rfl⟩
    unfold heldV
    repeat' split
    all_goals first | rfl | omega

set_option maxHeartbeats 400000 in
theorem sign_c (a : Int) (w : World) (ha : -9223372036854775808 ≤ a) (ha' : a ≤ 9223372036854775807) :
    Calls Try.prog 33 #[.int .i64 a] w fun e w' => e = .returned (.int .i64 (signV a)) ∧ w = w' := by
  go_enter Try.func33, Try.ntmps33
  go_wp2
  go_ret
  refine ⟨ret_i ?_, rfl⟩
  unfold signV; split <;> omega

set_option maxHeartbeats 400000 in
theorem size_c (a : Int) (w : World) (ha : -9223372036854775808 ≤ a) (ha' : a ≤ 9223372036854775807) :
    Calls Try.prog 28 #[.int .i64 a] w fun e w' => e = .returned (.int .u64 (a.natAbs : Int)) ∧ w = w' := by
  go_enter Try.func28, Try.ntmps28
  go_wp2
  all_goals
    go_ret
    refine ⟨ret_i ?_, rfl⟩
    try simp only [IntKind.wrap_u64]
    omega

set_option maxHeartbeats 400000 in
theorem narrow_c (hi : Int) (lo : Int) (w : World) (h1 : -9223372036854775808 ≤ hi) (h2 : hi ≤ 9223372036854775807) (h3 : 0 ≤ lo) (h4 : lo < 18446744073709551616) :
    Calls Try.prog 27 #[.int .i64 hi, .int .u64 lo] w fun e w' => e = .returned (.tuple #[.int .i64 (fitV (hi * 18446744073709551616 + lo)), .bool (fitB (hi * 18446744073709551616 + lo))]) ∧ w = w' := by
  have hr : -9223372036854775808 ≤ wrap64 lo ∧ wrap64 lo ≤ 9223372036854775807 := by unfold wrap64; omega
  obtain ⟨hr1, hr2⟩ := hr
  by_cases hd : hi = signV (wrap64 lo)
  · have hb : (hi == signV (wrap64 lo)) = true := by simp [hd]
    have hb' : (hi != signV (wrap64 lo)) = false := by simp [hd]
    have Hd := Lib.hid hd
    clear hd
    go_enter Try.func27, Try.ntmps27
    go_wp2_with (go_at_call 33; refine (sign_c _ _ (by assumption) (by assumption)).mono ?_; rintro e w' ⟨rfl, rfl⟩)
    go_ret2
    have hd := Hd.out
    refine ⟨ret_in ?_ ?_ ?_, rfl⟩
    all_goals (unfold signV wrap64 at *; split at hd <;> omega)
  · have hb : (hi == signV (wrap64 lo)) = false := by simp [hd]
    have hb' : (hi != signV (wrap64 lo)) = true := by simp [hd]
    have Hd := Lib.hid hd
    clear hd
    go_enter Try.func27, Try.ntmps27
    go_wp2_with (go_at_call 33; refine (sign_c _ _ (by assumption) (by assumption)).mono ?_; rintro e w' ⟨rfl, rfl⟩)
    go_ret2
    have hd := Hd.out
    refine ⟨ret_out ?_, rfl⟩
    unfold signV wrap64 at *; split at hd <;> omega

set_option maxHeartbeats 400000 in
theorem negative_c (q : Int) (i : Bool) (w : World) (h1 : 0 ≤ q) (h2 : q < 18446744073709551616) :
    Calls Try.prog 31 #[.int .u64 q, .bool i] w fun e w' => e = .returned (.tuple #[.int .i64 (fitV (if i then -q - 1 else -q)), .bool (fitB (if i then -q - 1 else -q))]) ∧ w = w' := by
  cases i
  all_goals
    go_enter Try.func31, Try.ntmps31
    go_wp2
    all_goals
      go_ret2
      first
      | (refine ⟨ret_out ?_, rfl⟩; omega)
      | (refine ⟨ret_in ?_ ?_ ?_, rfl⟩ <;> (try simp only [IntKind.wrap_u64, wrap64]) <;> omega)

/-! ### math/bits.Mul64, over this program -/
theorem maskN (a : Nat) (ha : a < 18446744073709551616) : bits .and .u64 (a : Int) 4294967295 = ((a % 4294967296 : Nat) : Int) := by
  have h := bits_and_u64_nat a 4294967295 ha (by omega)
  have e : a &&& 4294967295 = a % 4294967296 := Nat.and_two_pow_sub_one_eq_mod a 32
  rw [e] at h
  exact h
theorem divN (a : Nat) : (a : Int) / 4294967296 = ((a / 4294967296 : Nat) : Int) := by omega
theorem mulN (a b : Nat) : (a : Int) * (b : Int) = ((a * b : Nat) : Int) := (Int.natCast_mul a b).symm
theorem addN (a b : Nat) : (a : Int) + (b : Int) = ((a + b : Nat) : Int) := (Int.natCast_add a b).symm
theorem wrapN (a : Nat) (ha : a < 18446744073709551616) : IntKind.u64.wrap (a : Int) = (a : Int) := by rw [IntKind.wrap_u64]; omega
theorem wrapM (a : Nat) : IntKind.u64.wrap (a : Int) = ((a % 18446744073709551616 : Nat) : Int) := by rw [IntKind.wrap_u64]; omega

set_option maxHeartbeats 1000000 in
theorem mul64_c (x y : Nat) (hx : x < 18446744073709551616) (hy : y < 18446744073709551616) (w : World) :
    Calls Try.prog 29 #[.int .u64 x, .int .u64 y] w fun e w' => e = .returned (.tuple #[.int .u64 ((x * y / 18446744073709551616 : Nat) : Int), .int .u64 ((x * y % 18446744073709551616 : Nat) : Int)]) ∧ w = w' := by
  obtain ⟨bd, bt, bw, hhi⟩ := Lib.mul64_hi x y hx hy
  have ba := Lib.half_mul_le (a := x / 4294967296) (b := y / 4294967296) (by omega) (by omega)
  have bb := Lib.half_mul_le (a := x / 4294967296) (b := y % 4294967296) (by omega) (by omega)
  have bc := Lib.half_mul_le (a := x % 4294967296) (b := y / 4294967296) (by omega) (by omega)
  have ba' : x / 4294967296 * (y / 4294967296) < 18446744073709551616 := by omega
  have bb' : x / 4294967296 * (y % 4294967296) < 18446744073709551616 := by omega
  have bc' : x % 4294967296 * (y / 4294967296) < 18446744073709551616 := by omega
  have bh1 : x / 4294967296 * (y / 4294967296) + (x / 4294967296 * (y % 4294967296) + x % 4294967296 * (y % 4294967296) / 4294967296) / 4294967296 < 18446744073709551616 := by omega
  have bh : x / 4294967296 * (y / 4294967296) + (x / 4294967296 * (y % 4294967296) + x % 4294967296 * (y % 4294967296) / 4294967296) / 4294967296 + ((x / 4294967296 * (y % 4294967296) + x % 4294967296 * (y % 4294967296) / 4294967296) % 4294967296 + x % 4294967296 * (y / 4294967296)) / 4294967296 < 18446744073709551616 := by omega
  have Hhi := Lib.hid hhi
  clear hhi
  go_enter Try.func29, Try.ntmps29
  go_wp2
  simp only [maskN x hx, maskN y hy, divN, mulN, addN, wrapN _ bd, wrapN _ bb', wrapN _ bt, maskN _ bt, wrapN _ bc', wrapN _ bw, wrapN _ ba', wrapN _ bh1, wrapN _ bh, wrapM (x * y)]
  rw [Hhi.out]
  go_ret2
  exact ⟨rfl, rfl⟩

end Go.Proofs.Ytkjomnmdepndpaa
