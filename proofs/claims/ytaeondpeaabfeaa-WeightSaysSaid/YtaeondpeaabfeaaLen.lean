/- Contracts of math/bits.Len64 and LeadingZeros64, over this program. -/
import Derived.Test.YtaeondpeaabfeaaChecked
import Derived.Lib.Walk
import Derived.Lib.BitFns
namespace Go.Proofs.Ytaeondpeaabfeaa

theorem bitLen_bounds : ∀ (k x : Nat), x ≠ 0 → x < 2 ^ k → k ≤ 64 → 2 ^ Lib.bitLen x ≤ 2 * x ∧ x < 2 ^ Lib.bitLen x
  | 0, x, h0, hx, _ => by omega
  | k + 1, x, h0, hx, hk => by
    have h64 : x < 2 ^ 64 := Nat.lt_of_lt_of_le hx (Nat.pow_le_pow_right (by omega) hk)
    have e := Lib.bitLen_half x h0 h64
    by_cases h1 : x / 2 = 0
    · have : Lib.bitLen 0 = 0 := by decide
      rw [h1, this] at e; rw [e]; omega
    · have ih := bitLen_bounds k (x / 2) h1 (by rw [Nat.pow_succ] at hx; omega) (by omega)
      rw [e, Nat.add_comm 1, Nat.pow_succ]; omega

/-- What lies above a byte: the byte's own length, and the places below it. -/
theorem len_of (x b : Int) (k m : Nat) (h0 : 0 ≤ x) (hx : x ≤ 18446744073709551615) (hm : 2 ^ k = m) (hk : (m : Int) ≤ x) (hb : b.toNat = x.toNat / m) (hb0 : 0 ≤ b) (hb1 : b ≤ 255) :
    Lib.len8 b = (Lib.bitLen x.toNat : Int) - k ∧ (Lib.bitLen x.toNat) ≤ 64 := by
  subst hm
  have h := Lib.bitLen_shift k x.toNat (by omega) (by omega)
  refine ⟨?_, Lib.bitLen_le x.toNat 64 (by omega) (by omega)⟩
  rw [Lib.len8_of b hb0 hb1, h, hb]
  omega

set_option maxHeartbeats 4000000 in
set_option maxRecDepth 100000 in
theorem len64_c (x : Int) (w : World) (h0 : 0 ≤ x) (h1 : x ≤ 18446744073709551615) :
    Calls Try.prog 48 #[.int .u64 x] w fun e w' => e = .returned (.int .i64 (Lib.bitLen x.toNat : Nat)) ∧ w = w' := by
  go_enter Try.func48, Try.ntmps48
  go_wp2
  all_goals (go_ret; refine ⟨congrArg Ending.returned (congrArg (Value.int IntKind.i64) ?_), rfl⟩)
  all_goals first
    | (have h := len_of x (x / 4294967296 / 65536 / 256 % 256) 56 72057594037927936 h0 h1 (by decide) (by omega) (by omega) (by omega) (by omega); omega)
    | (have h := len_of x (x / 4294967296 / 65536 % 256) 48 281474976710656 h0 h1 (by decide) (by omega) (by omega) (by omega) (by omega); omega)
    | (have h := len_of x (x / 4294967296 / 256 % 256) 40 1099511627776 h0 h1 (by decide) (by omega) (by omega) (by omega) (by omega); omega)
    | (have h := len_of x (x / 4294967296 % 256) 32 4294967296 h0 h1 (by decide) (by omega) (by omega) (by omega) (by omega); omega)
    | (have h := len_of x (x / 65536 / 256 % 256) 24 16777216 h0 h1 (by decide) (by omega) (by omega) (by omega) (by omega); omega)
    | (have h := len_of x (x / 65536 % 256) 16 65536 h0 h1 (by decide) (by omega) (by omega) (by omega) (by omega); omega)
    | (have h := len_of x (x / 256 % 256) 8 256 h0 h1 (by decide) (by omega) (by omega) (by omega) (by omega); omega)
    | (have h := Lib.bitLen_le x.toNat 64 (by omega) (by omega)
       rw [Lib.len8_of (x % 256) (by omega) (by omega), show (x % 256).toNat = x.toNat by omega]; omega)

/-- How far a number of 64 bits must be moved till its uppermost bit is set. -/
def lead (x : Nat) : Nat := 64 - Lib.bitLen x
theorem lead_fits (x : Nat) (h0 : x ≠ 0) (h1 : x < 18446744073709551616) : lead x ≤ 63 ∧ 9223372036854775808 ≤ x * 2 ^ lead x ∧ x * 2 ^ lead x < 18446744073709551616 := by
  obtain ⟨h2, h3⟩ := bitLen_bounds 64 x h0 (by omega) (by omega)
  have hl := Lib.bitLen_le x 64 (by omega) (by omega)
  have hp : Lib.bitLen x ≠ 0 := by intro h; rw [h] at h3; omega
  have e : 2 ^ Lib.bitLen x * 2 ^ lead x = 18446744073709551616 := by
    rw [← Nat.pow_add, show Lib.bitLen x + lead x = 64 by unfold lead; omega]
  have m1 := Nat.mul_le_mul_right (2 ^ lead x) h2
  have m2 := Nat.mul_lt_mul_of_pos_right h3 (show 0 < 2 ^ lead x from Nat.pow_pos (by omega))
  rw [e] at m1 m2
  rw [Nat.mul_assoc] at m1
  exact ⟨by unfold lead; omega, by omega, m2⟩

set_option maxHeartbeats 400000 in
theorem lead64_c (x : Nat) (w : World) (h1 : x < 18446744073709551616) :
    Calls Try.prog 39 #[.int .u64 x] w fun e w' => e = .returned (.int .i64 (lead x : Nat)) ∧ w = w' := by
  have hl := Lib.bitLen_le x 64 (by omega) (by omega)
  go_enter Try.func39, Try.ntmps39
  go_wp2_with (go_at_call 48; refine (len64_c x _ (by omega) (by omega)).mono ?_; rintro e w' ⟨rfl, rfl⟩)
  go_ret
  refine ⟨congrArg Ending.returned (congrArg (Value.int IntKind.i64) ?_), rfl⟩
  unfold lead
  omega
end Go.Proofs.Ytaeondpeaabfeaa
