/- The contract of whole.Sum. -/
import Derived.Test.YtkjomnmdepndpaaLHeld
import Derived.Test.YtkjomnmdepndpaaMem
import Derived.Laws.Externs
namespace Go.Proofs.Ytkjomnmdepndpaa
open Go.RowKit

theorem add64_run (x y c : Int) (hx : 0 ≤ x) (hy : 0 ≤ y) (hc0 : 0 ≤ c) (hc : c ≤ 1) (w : World) :
    (callFunc 32 #[.int .u64 x, .int .u64 y, .int .u64 c]).run Try.prog w =
      .ok (.value (.tuple #[.int .u64 ((x + y + c) % 18446744073709551616), .int .u64 ((x + y + c) / 18446744073709551616)])) w := by
  rw [run_callFunc_extern Try.func32 (by kernel_rfl) (by kernel_rfl) (by kernel_rfl) (e := add64Entry) (by kernel_rfl), run_add64 x y c hx hy hc0 hc]
  rfl

/-- hi and lo are the two halves of S in 128 bits. -/
def Halves (S hi lo : Int) : Prop := 0 ≤ hi ∧ hi < 18446744073709551616 ∧ 0 ≤ lo ∧ lo < 18446744073709551616 ∧ hi * 18446744073709551616 + lo = S % 340282366920938463463374607431768211456

theorem Halves.zero : Halves 0 0 0 := by unfold Halves; omega
theorem Halves.step {S hi lo x : Int} (h : Halves S hi lo) (hx : -9223372036854775808 ≤ x) (hx' : x ≤ 9223372036854775807) :
    Halves (S + x) ((hi + IntKind.u64.wrap (signV x) + (lo + IntKind.u64.wrap x) / 18446744073709551616) % 18446744073709551616) ((lo + IntKind.u64.wrap x) % 18446744073709551616) := by
  unfold Halves at *
  rw [IntKind.wrap_u64, IntKind.wrap_u64]
  unfold signV
  split <;> omega
theorem Halves.done {S hi lo : Int} (h : Halves S hi lo) (h1 : -85070591730234615865843651857942052864 ≤ S) (h2 : S ≤ 85070591730234615865843651857942052864) :
    wrap64 hi * 18446744073709551616 + lo = S := by
  unfold Halves at h
  unfold wrap64; omega

theorem sum_le (l : List Int) (h : ∀ x ∈ l, -9223372036854775808 ≤ x ∧ x ≤ 9223372036854775807) : -9223372036854775808 * (l.length : Int) ≤ l.sum ∧ l.sum ≤ 9223372036854775808 * (l.length : Int) := by
  induction l with
  | nil => simp
  | cons x t ih =>
    have := h x (by simp)
    have := ih (fun y hy => h y (by simp [hy]))
    simp only [List.sum_cons, List.length_cons]
    omega

theorem sum_snoc (l : List Int) (k : Nat) (h : k < l.length) : (l.take (k + 1)).sum = (l.take k).sum + l[k] := by
  rw [List.take_add_one, List.getElem?_eq_getElem h, List.sum_append]; simp

set_option maxHeartbeats 1000000 in
theorem sum_c (A : Option Addr) (c : Nat) (B : Nat) (l : List Int) (w : World) (hl : l.length ≤ 9223372036854775807) (hr : IRow .i64 w B A l) (hw : ∀ x ∈ l, -9223372036854775808 ≤ x ∧ x ≤ 9223372036854775807) :
    Calls Try.prog 15 #[.slice A l.length c] w fun e w' => e = .returned (.tuple #[.int .i64 (fitV l.sum), .bool (fitB l.sum)]) ∧ w = w' := by
  have HR := Lib.hid hr
  have HW := Lib.hid hw
  clear hr hw
  go_enter Try.func15, Try.ntmps15
  go_wp2_with fail
  go_loop [4, 5, 11] (fun s t i => ∃ (k : Nat) (hi lo : Int), k ≤ l.length ∧ i = .int .i64 k ∧ s = .int .u64 hi ∧ t = .int .u64 lo ∧ Halves (l.take k).sum hi lo) (fun _ _ i => l.length - (intOf i).toNat)
  case atStart => exact ⟨0, 0, 0, Nat.zero_le _, rfl, rfl, rfl, Halves.zero⟩
  case round =>
    obtain ⟨k, hi, lo, hk, rfl, rfl, rfl, hh⟩ := hrel
    by_cases hlt : k < l.length
    · obtain ⟨ad, rfl, _, hc⟩ := HR.out.at hlt
      have hx := HW.out l[k] (List.getElem_mem _)
      have HH := Lib.hid (hh.step hx.1 hx.2)
      have h0 := hh
      unfold Halves at h0
      obtain ⟨x, hxe⟩ : ∃ x, x = l[k] := ⟨_, rfl⟩
      rw [← hxe] at hc hx HH
      have HE := Lib.hid hxe
      obtain ⟨hx1, hx2⟩ := hx
      obtain ⟨hX1, hX2⟩ := u64_range x
      obtain ⟨hS1, hS2⟩ := u64_range (signV x)
      have e1 := fun w => add64_run lo (IntKind.u64.wrap x) 0 (by omega) hX1 (by omega) (by omega) w
      have e2 := fun w => add64_run hi (IntKind.u64.wrap (signV x)) ((lo + IntKind.u64.wrap x + 0) / 18446744073709551616) (by omega) hS1 (by omega) (by omega) w
      simp only [Int.add_zero] at e1 e2
      clear hxe h0 hh
      go_wp2_with (go_at_call 33; refine (sign_c _ _ (by assumption) (by assumption)).mono ?_; rintro e w' ⟨rfl, rfl⟩)
      go_round
      case rel => exact ⟨k + 1, _, _, by omega, by go_num, rfl, rfl, by rw [sum_snoc l k hlt, ← HE.out]; exact HH.out⟩
      case measure => simp [intOf]; omega
    · have hke : k = l.length := by omega
      have hb := sum_le l HW.out
      have h0 := hh
      unfold Halves at h0
      rw [hke, List.take_length] at hh
      have HD := Lib.hid (hh.done (by omega) (by omega))
      have hs : -9223372036854775808 ≤ wrap64 hi ∧ wrap64 hi ≤ 9223372036854775807 := by unfold wrap64; omega
      obtain ⟨hs1, hs2⟩ := hs
      obtain ⟨_, _, l1, l2, _⟩ := h0
      clear hh hb hke
      go_wp2_with (go_at_call 27; refine (narrow_c _ _ _ (by assumption) (by assumption) (by assumption) (by assumption)).mono ?_; rintro e w' ⟨rfl, rfl⟩; rw [HD.out])
      go_ret2
      exact ⟨rfl, rfl⟩

theorem sum_n (A : Option Addr) (n c : Nat) (B : Nat) (l : List Int) (w : World) (hn : l.length = n) (hl : n ≤ 9223372036854775807) (hr : IRow .i64 w B A l) (hw : ∀ x ∈ l, -9223372036854775808 ≤ x ∧ x ≤ 9223372036854775807) :
    Calls Try.prog 15 #[.slice A n c] w fun e w' => e = .returned (.tuple #[.int .i64 (fitV l.sum), .bool (fitB l.sum)]) ∧ w = w' := by
  subst hn; exact sum_c A c B l w hl hr hw
end Go.Proofs.Ytkjomnmdepndpaa
