/- Plain arithmetic under math/bits.Div64: one digit of base 2^32 of a quotient by a divisor whose uppermost bit is set. No program is named here. -/
namespace Go.Proofs.Ytaeondpeaabfeaa

/-- The numbers of one digit: X * 2^32 + d = Q * Y + R, R < Y, where Y = a * 2^32 + b. -/
structure Digit (X d Y a b Q R : Nat) : Prop where
  y : Y = a * 4294967296 + b
  a1 : 2147483648 ≤ a
  a2 : a < 4294967296
  b2 : b < 4294967296
  x : X < Y
  d2 : d < 4294967296
  qr : Q * Y + R = X * 4294967296 + d
  r : R < Y

theorem Digit.mul {X d Y a b Q R : Nat} (h : Digit X d Y a b Q R) (q : Nat) : q * Y = q * a * 4294967296 + q * b := by
  rw [h.y, Nat.mul_add, ← Nat.mul_assoc]
theorem Digit.le {X d Y a b Q R q : Nat} (h : Digit X d Y a b Q R) (hq : q * Y ≤ X * 4294967296 + d) : q ≤ Q := by
  apply Nat.le_of_lt_succ
  apply Nat.lt_of_mul_lt_mul_right (a := Y)
  have := h.qr; have := h.r
  rw [Nat.succ_mul]; omega
theorem Digit.lt {X d Y a b Q R q : Nat} (h : Digit X d Y a b Q R) (hq : X * 4294967296 + d < q * Y) : Q < q := by
  apply Nat.lt_of_mul_lt_mul_right (a := Y)
  have := h.qr
  omega
theorem Digit.small {X d Y a b Q R : Nat} (h : Digit X d Y a b Q R) : Q < 4294967296 := by
  apply h.lt
  have := h.x; have := h.d2
  omega
/-- The first guess. -/
theorem Digit.start {X d Y a b Q R : Nat} (h : Digit X d Y a b Q R) :
    X / a * a + X % a = X ∧ X % a < a ∧ X / a ≤ 4294967297 ∧ Q ≤ X / a := by
  have h1 : X / a * a + X % a = X := Nat.div_add_mod' X a
  have h2 : X % a < a := Nat.mod_lt _ (by have := h.a1; omega)
  refine ⟨h1, h2, ?_, ?_⟩
  · apply Nat.le_of_lt_succ
    apply Nat.lt_of_mul_lt_mul_right (a := a)
    have := h.x; have := h.y; have := h.a1; have := h.b2
    omega
  · apply Nat.le_of_lt_succ
    apply h.lt
    rw [h.mul, Nat.succ_mul, Nat.add_mul]
    have := h.d2
    generalize X / a * a = p at *
    generalize (X / a).succ * b = z at *
    omega
/-- A guess that is too great is told so. -/
theorem Digit.more {X d Y a b Q R q r : Nat} (h : Digit X d Y a b Q R) (hq : q * a + r = X) (hc : 4294967296 ≤ q ∨ 4294967296 * r + d < q * b) : Q < q := by
  rcases hc with hc | hc
  · have := h.small; omega
  · apply h.lt
    rw [h.mul]
    generalize q * a = p at *
    generalize q * b = z at *
    omega
/-- A guess that passes is right. -/
theorem Digit.stop {X d Y a b Q R q r : Nat} (h : Digit X d Y a b Q R) (hq : q * a + r = X) (hc : q * b ≤ 4294967296 * r + d) (hl : Q ≤ q) : q = Q := by
  apply Nat.le_antisymm _ hl
  apply h.le
  rw [h.mul]
  generalize q * a = p at *
  generalize q * b = z at *
  omega
theorem Digit.leave {X d Y a b Q R q r : Nat} (h : Digit X d Y a b Q R) (hq : q * a + r = X) (hr : 4294967296 ≤ r) (hb : q ≤ 4294967296) (hl : Q ≤ q) : q = Q := by
  apply h.stop hq _ hl
  have h1 : q * b ≤ 4294967296 * 4294967295 := Nat.mul_le_mul hb (by have := h.b2; omega)
  omega
theorem Digit.step {a q r X : Nat} (hq : q * a + r = X) (h1 : 1 ≤ q) : (q - 1) * a + (r + a) = X := by
  obtain ⟨p, rfl⟩ : ∃ p, q = p + 1 := ⟨q - 1, by omega⟩
  rw [Nat.add_mul] at hq
  simp only [Nat.add_sub_cancel]
  omega
/-- Nothing wraps on the way. -/
theorem Digit.room {X d Y a b Q R q : Nat} (h : Digit X d Y a b Q R) (hq : q ≤ 4294967297) : q * b < 18446744073709551616 := by
  have h1 : q * b ≤ 4294967297 * 4294967295 := Nat.mul_le_mul hq (by have := h.b2; omega)
  omega

/-- All of it: a number of four digits by one of two, both moved by k places. -/
theorem div_two {hi lo y k : Nat} (hk : k ≤ 63) (hy1 : 9223372036854775808 ≤ y * 2 ^ k) (hy2 : y * 2 ^ k < 18446744073709551616) (hlo : lo < 18446744073709551616) (hh : hi < y) :
    ∃ X u1 u0 Y a b Q1 R1 Q0 R0 : Nat,
      Y = y * 2 ^ k ∧ a = Y / 4294967296 ∧ b = Y % 4294967296 ∧ X = hi * 2 ^ k + lo / 2 ^ (64 - k) ∧ u1 = lo * 2 ^ k % 18446744073709551616 / 4294967296 ∧ u0 = lo * 2 ^ k % 18446744073709551616 % 4294967296 ∧
      Digit X u1 Y a b Q1 R1 ∧ Digit R1 u0 Y a b Q0 R0 ∧ Q1 * 4294967296 + Q0 = (hi * 18446744073709551616 + lo) / y ∧ R0 / 2 ^ k = (hi * 18446744073709551616 + lo) % y ∧ lo / 2 ^ (64 - k) < 2 ^ k := by
  have hP : 2 ^ k * 2 ^ (64 - k) = 18446744073709551616 := by
    rw [← Nat.pow_add, show k + (64 - k) = 64 by omega]
  have hk0 : 0 < 2 ^ k := Nat.pow_pos (by omega)
  have hj0 : 0 < 2 ^ (64 - k) := Nat.pow_pos (by omega)
  generalize hK : 2 ^ k = K at *
  generalize hJ : 2 ^ (64 - k) = J at *
  have ht : lo / J < K := by
    rw [Nat.div_lt_iff_lt_mul hj0, hP]; exact hlo
  -- lo * K = (lo / J) * 2^64 + (lo % J) * K
  have hlk : lo * K = lo / J * 18446744073709551616 + lo % J * K := by
    have e := Nat.div_add_mod' lo J
    have e2 : lo * K = (lo / J * J + lo % J) * K := by rw [e]
    rw [e2, Nat.add_mul, Nat.mul_assoc, Nat.mul_comm J K, hP]
  have hr : lo % J * K < 18446744073709551616 := by
    have := Nat.mul_lt_mul_of_pos_right (Nat.mod_lt lo hj0) hk0
    rw [Nat.mul_comm J K, hP] at this; exact this
  have hm : lo * K % 18446744073709551616 = lo % J * K := by rw [hlk]; omega
  have hX : hi * K + lo / J < y * K := by
    have : (hi + 1) * K ≤ y * K := Nat.mul_le_mul_right K hh
    rw [Nat.succ_mul] at this; omega
  generalize hXX : hi * K + lo / J = X at *
  generalize hYY : y * K = Y at *
  have hU : (hi * 18446744073709551616 + lo) * K = X * 18446744073709551616 + lo * K % 18446744073709551616 := by
    rw [hm, Nat.add_mul, hlk, ← hXX]
    have : hi * 18446744073709551616 * K = hi * K * 18446744073709551616 := by rw [Nat.mul_right_comm]
    omega
  have hu0 : lo * K % 18446744073709551616 < 18446744073709551616 := Nat.mod_lt _ (by omega)
  obtain ⟨u, hu⟩ : ∃ u, u = lo * K % 18446744073709551616 := ⟨_, rfl⟩
  rw [← hu] at hU hu0 ⊢
  clear hu hm hr hlk
  have hy0 : 0 < y := by omega
  obtain ⟨Q1, R1, hd1, hd2⟩ : ∃ Q1 R1, Q1 * Y + R1 = X * 4294967296 + u / 4294967296 ∧ R1 < Y := ⟨_, _, Nat.div_add_mod' _ _, Nat.mod_lt _ (by omega)⟩
  obtain ⟨Q0, R0, hd3, hd4⟩ : ∃ Q0 R0, Q0 * Y + R0 = R1 * 4294967296 + u % 4294967296 ∧ R0 < Y := ⟨_, _, Nat.div_add_mod' _ _, Nat.mod_lt _ (by omega)⟩
  have hfin : (Q1 * 4294967296 + Q0) * Y + R0 = (hi * 18446744073709551616 + lo) * K := by
    rw [hU, Nat.add_mul, Nat.mul_right_comm]
    generalize Q1 * Y = p at *
    generalize Q0 * Y = z at *
    omega
  obtain ⟨N, hN0⟩ : ∃ N, N = hi * 18446744073709551616 + lo := ⟨_, rfl⟩
  rw [← hN0] at hfin ⊢
  have hN := Nat.div_add_mod' N y
  have hN2 := Nat.mod_lt N hy0
  obtain ⟨q, hq⟩ : ∃ q, q = Q1 * 4294967296 + Q0 := ⟨_, rfl⟩
  rw [← hq] at hfin
  have hNK : N * K = N / y * Y + N % y * K := by
    rw [← hYY, ← Nat.mul_assoc, ← Nat.add_mul, hN]
  have hRK : N % y * K < Y := by
    rw [← hYY]; exact Nat.mul_lt_mul_of_pos_right hN2 hk0
  have hqq : q = N / y := by
    apply Nat.le_antisymm
    · apply Nat.le_of_lt_succ
      apply Nat.lt_of_mul_lt_mul_right (a := Y)
      rw [Nat.succ_mul]; omega
    · apply Nat.le_of_lt_succ
      apply Nat.lt_of_mul_lt_mul_right (a := Y)
      rw [Nat.succ_mul]; omega
  have hRR : R0 = N % y * K := by rw [hqq] at hfin; omega
  refine ⟨X, u / 4294967296, u % 4294967296, Y, Y / 4294967296, Y % 4294967296, Q1, R1, Q0, R0, rfl, rfl, rfl, rfl, rfl, rfl, ?_, ?_, hq ▸ hqq, ?_, ht⟩
  · exact ⟨by omega, by omega, by omega, by omega, hX, by omega, hd1, hd2⟩
  · exact ⟨by omega, by omega, by omega, by omega, hd2, by omega, hd3, hd4⟩
  · rw [hRR, Nat.mul_div_cancel _ hk0]
end Go.Proofs.Ytaeondpeaabfeaa
