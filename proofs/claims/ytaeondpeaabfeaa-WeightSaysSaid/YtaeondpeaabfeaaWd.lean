/- Contracts of package whole: MulDiv. And 'awake'. -/
import Derived.Test.YtaeondpeaabfeaaWc
namespace Go.Proofs.Ytaeondpeaabfeaa
open Go.RowKit

/-- Is the quotient of a times b and c on the other side of 0? -/
def negB (a b c : Int) : Bool := !(!decide (a < 0) == decide (b < 0)) == decide (c < 0)
/-- The product of a and b divided by c, rounded down. -/
def flV (a b c : Int) : Int :=
  if negB a b c = true then (if a.natAbs * b.natAbs % c.natAbs = 0 then -((a.natAbs * b.natAbs / c.natAbs : Nat) : Int) else -((a.natAbs * b.natAbs / c.natAbs : Nat) : Int) - 1)
  else ((a.natAbs * b.natAbs / c.natAbs : Nat) : Int)

theorem div64_any (hi lo y : Nat) (w : World) (h1 : lo < 18446744073709551616) (h2 : y < 18446744073709551616) (h3 : hi < y) :
    Calls Try.prog 30 #[.int .u64 hi, .int .u64 lo, .int .u64 y] w (Drawn (.tuple #[.int .u64 ((hi * 18446744073709551616 + lo) / y : Nat), .int .u64 ((hi * 18446744073709551616 + lo) % y : Nat)]) w) := by
  by_cases h : hi = 0
  · subst h
    have := div64_low lo y w h1 h2 (by omega)
    simpa using this
  · refine (div64_c hi lo y w h1 h2 h3 (by omega)).mono ?_
    rintro e w' ⟨rfl, rfl⟩
    exact ⟨rfl, 0, rfl⟩

theorem muldiv_zero (a b : Int) (w : World) :
    Calls Try.prog 24 #[.int .i64 a, .int .i64 b, .int .i64 0] w fun e w' => e = .returned (.tuple #[.int .i64 0, .bool false]) ∧ w = w' := by
  go_enter Try.func24, Try.ntmps24
  go_wp2
  go_ret2
  exact ⟨rfl, rfl⟩

/-- What the walk of MulDiv needs to know of the sizes. -/
def MDSet (a b c : Int) (hi lo Q R : Nat) : Prop :=
  (∀ w, Calls Try.prog 29 #[.int .u64 (a.natAbs : Nat), .int .u64 (b.natAbs : Nat)] w fun e w' => e = .returned (.tuple #[.int .u64 (hi : Nat), .int .u64 (lo : Nat)]) ∧ w = w') ∧
  (hi < c.natAbs → ∀ w, Calls Try.prog 30 #[.int .u64 (hi : Nat), .int .u64 (lo : Nat), .int .u64 (c.natAbs : Nat)] w (Drawn (.tuple #[.int .u64 (Q : Nat), .int .u64 (R : Nat)]) w)) ∧
  (c.natAbs ≤ hi → 18446744073709551616 ≤ Q) ∧ (hi < c.natAbs → Q < 18446744073709551616) ∧
  flV a b c = if negB a b c = true then (if R = 0 then -(Q : Int) else -(Q : Int) - 1) else (Q : Int)

theorem mdset (a b c : Int) (ha : -9223372036854775808 ≤ a) (ha' : a ≤ 9223372036854775807) (hb : -9223372036854775808 ≤ b) (hb' : b ≤ 9223372036854775807)
    (hc : -9223372036854775808 ≤ c) (hc' : c ≤ 9223372036854775807) (h0 : c ≠ 0) : ∃ hi lo Q R, MDSet a b c hi lo Q R := by
  have ea : a.natAbs < 18446744073709551616 := by omega
  have eb : b.natAbs < 18446744073709551616 := by omega
  have ec : c.natAbs < 18446744073709551616 := by omega
  have e0 : 0 < c.natAbs := by omega
  have he := Nat.div_add_mod' (a.natAbs * b.natAbs) 18446744073709551616
  have hl := Nat.mod_lt (a.natAbs * b.natAbs) (show 0 < 18446744073709551616 by omega)
  have hq := Nat.div_add_mod' (a.natAbs * b.natAbs) c.natAbs
  have hr := Nat.mod_lt (a.natAbs * b.natAbs) e0
  refine ⟨a.natAbs * b.natAbs / 18446744073709551616, a.natAbs * b.natAbs % 18446744073709551616, a.natAbs * b.natAbs / c.natAbs, a.natAbs * b.natAbs % c.natAbs, fun w => mul64_c a.natAbs b.natAbs ea eb w, ?_, ?_, ?_, rfl⟩
  · intro h w
    have := div64_any (a.natAbs * b.natAbs / 18446744073709551616) (a.natAbs * b.natAbs % 18446744073709551616) c.natAbs w hl ec h
    rw [he] at this
    exact this
  · intro h
    apply Nat.le_of_lt_succ
    apply Nat.lt_of_mul_lt_mul_right (a := c.natAbs)
    rw [Nat.succ_mul (a.natAbs * b.natAbs / c.natAbs) c.natAbs]
    omega
  · intro h
    apply Nat.lt_of_mul_lt_mul_right (a := c.natAbs)
    omega

set_option maxHeartbeats 1000000 in
theorem muldiv_c (a b c : Int) (w : World) (ha : -9223372036854775808 ≤ a) (ha' : a ≤ 9223372036854775807) (hb : -9223372036854775808 ≤ b) (hb' : b ≤ 9223372036854775807)
    (hc : -9223372036854775808 ≤ c) (hc' : c ≤ 9223372036854775807) (h0 : c ≠ 0) :
    Calls Try.prog 24 #[.int .i64 a, .int .i64 b, .int .i64 c] w (Drawn (.tuple #[.int .i64 (fitV (flV a b c)), .bool (fitB (flV a b c))]) w) := by
  have hz : (c == 0) = false := beq_eq_false_iff_ne.2 h0
  obtain ⟨hi, lo, Q, R, hset⟩ := mdset a b c ha ha' hb hb' hc hc' h0
  have HS := Lib.hid hset
  clear hset
  by_cases hh : c.natAbs ≤ hi
  · go_enter Try.func24, Try.ntmps24
    go_wp2_with (first
      | (go_at_call 28; refine (size_c _ _ (by assumption) (by assumption)).mono ?_; rintro e w' ⟨rfl, rfl⟩)
      | (go_at_call 29; refine (HS.out.1 _).mono ?_; rintro e w' ⟨rfl, rfl⟩))
    go_ret2
    have hQ := HS.out.2.2.1 hh
    have hf := HS.out.2.2.2.2
    refine ⟨ret_out ?_, 0, rfl⟩
    rw [hf]
    split
    · split <;> omega
    · omega
  · have hh' : ¬ ((c.natAbs : Nat) : Int) ≤ ((hi : Nat) : Int) := by omega
    by_cases hn : negB a b c = true
    · have HN := Lib.hid hn
      unfold negB at hn
      go_enter Try.func24, Try.ntmps24
      go_wp2_with (first
        | (go_at_call 28; refine (size_c _ _ (by assumption) (by assumption)).mono ?_; rintro e w' ⟨rfl, rfl⟩)
        | (go_at_call 29; refine (HS.out.1 _).mono ?_; rintro e w' ⟨rfl, rfl⟩)
        | (go_at_call 30; refine (HS.out.2.1 (by omega) _).mono ?_; rintro e w' ⟨rfl, n, rfl⟩)
        | (go_at_call 31; refine (negative_c _ _ _ (by omega) (by have := HS.out.2.2.2.1 (by omega); omega)).mono ?_; rintro e w' ⟨rfl, rfl⟩))
      · have hR : R = 0 := by assumption
        go_ret2
        have hf := HS.out.2.2.2.2
        rw [if_pos HN.out, if_pos hR] at hf
        refine ⟨?_, _, rfl⟩
        rw [hf]; rfl
      · have hR : ¬ R = 0 := by assumption
        go_ret2
        have hf := HS.out.2.2.2.2
        rw [if_pos HN.out, if_neg hR] at hf
        refine ⟨?_, _, rfl⟩
        rw [hf]; rfl
    · have hn : negB a b c = false := by simpa using hn
      have HN := Lib.hid hn
      unfold negB at hn
      go_enter Try.func24, Try.ntmps24
      go_wp2_with (first
        | (go_at_call 28; refine (size_c _ _ (by assumption) (by assumption)).mono ?_; rintro e w' ⟨rfl, rfl⟩)
        | (go_at_call 29; refine (HS.out.1 _).mono ?_; rintro e w' ⟨rfl, rfl⟩)
        | (go_at_call 30; refine (HS.out.2.1 (by omega) _).mono ?_; rintro e w' ⟨rfl, n, rfl⟩))
      · go_ret2
        have hf := HS.out.2.2.2.2
        rw [if_neg (by rw [HN.out]; decide)] at hf
        refine ⟨ret_out ?_, _, rfl⟩
        omega
      · go_ret2
        have hf := HS.out.2.2.2.2
        rw [if_neg (by rw [HN.out]; decide)] at hf
        refine ⟨ret_in ?_ ?_ ?_, _, rfl⟩
        all_goals (try unfold wrap64)
        all_goals omega

end Go.Proofs.Ytaeondpeaabfeaa
