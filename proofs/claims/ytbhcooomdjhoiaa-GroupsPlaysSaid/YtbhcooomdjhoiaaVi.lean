/- Law 7's ints and awake. -/
import Derived.Test.YtbhcooomdjhoiaaVh
namespace Go.Proofs.Ytbhcooomdjhoiaa
open Go.RowKit Go.Shelf

/-- A value comes back, and what lay lies. -/
def Ret7 (v : Value) (w : World) (e : Ending) (w' : World) : Prop := e = .returned v ∧ Below w.heap.size w w'

set_option maxHeartbeats 1000000 in
theorem ints7_eq (A A' : Option Addr) (n c c' B : Nat) (l : List Int) (w : World) (hn : l.length = n) (hl : n ≤ 9223372036854775807) (hr : IRow .i64 w B A l) (hr' : IRow .i64 w B A' l) :
    Calls Try.prog 19 #[.slice A n c, .slice A' n c'] w (Ret7 (.bool true) w) := by
  have HR := Lib.hid hr
  have HR' := Lib.hid hr'
  have HN := Lib.hid hn
  clear hr hr' hn
  go_enter Try.func19, Try.ntmps19
  go_wp2_with fail
  go_loopw [5] (fun i wr => ∃ k q : Nat, i = .int .i64 k ∧ k ≤ n ∧ wr = w.drewN q) (fun i _ => n - (intOf i).toNat)
  case atStart => exact ⟨0, 0, rfl, Nat.zero_le _, rfl⟩
  case round =>
    obtain ⟨k, q, rfl, hk, rfl⟩ := hrel
    by_cases hlt : k < n
    · have hkl : k < l.length := by rw [HN.out]; exact hlt
      obtain ⟨ad, rfl, _, hc⟩ := HR.out.at hkl
      obtain ⟨ad', rfl, _, hc'⟩ := HR'.out.at hkl
      obtain ⟨x, hx⟩ : ∃ x, x = l[k] := ⟨_, rfl⟩
      rw [← hx] at hc hc'
      clear hx
      go_wp2_with fail
      go_quiet (fail)
      go_wp2_with fail
      go_roundw
      case rel => exact ⟨k + 1, _, by go_num, by omega, rfl⟩
      case measure => simp [intOf]; omega
    · go_wp2_with fail
      go_ret
      exact ⟨rfl, below_drewN (Below.refl _ _) _⟩

set_option maxRecDepth 100000 in
set_option maxHeartbeats 4000000 in
theorem awake7_c (W : World) : Calls Try.prog 7 #[] W fun e w' => e = .returned (.bool true) ∧ Below W.heap.size W w' := by
  go_enter Try.func7, Try.ntmps7
  go_wp2_with fail
  refine (new_in (Below.refl _ W)).mono ?_
  rintro e w1 ⟨b, rfl, h1, _, _⟩
  have H1 := Lib.hid h1
  clear h1
  go_wp2_with fail
  refine (add_in (x := 1) (y := 0) (G' := rootG.set 1 (0, true)) H1.out (by rfl)).mono ?_
  rintro e w2 ⟨rfl, h2, _⟩
  have H2 := Lib.hid h2
  clear h2 H1
  go_wp2_with fail
  refine (add_in (x := 2) (y := 0) (G' := (rootG.set 1 (0, true)).set 2 (1, true)) H2.out (by rfl)).mono ?_
  rintro e w3 ⟨rfl, h3, _⟩
  have H3 := Lib.hid h3
  clear h3 H2
  go_wp2_with fail
  refine (chain_in (n := 3) (l := [2, 1, 0]) H3.out (by decide) rfl).mono ?_
  rintro e w4 ⟨A, c, rfl, hr, h4, _⟩
  have hrl := Lib.hid (IRow.lit w4 [2, 1, 0] #[.int .i64 2, .int .i64 1, .int .i64 0] 3 (w4.heap.size + 1) w4.heap.size rfl rfl (by omega) (k := .i64))
  have hr2 := Lib.hid (show IRow .i64 (w4.alloc (.cells #[.int .i64 2, .int .i64 1, .int .i64 0] 3)) (w4.heap.size + 1) A [2, 1, 0] from hr.keep (by omega) (fun p hp => ((Below.refl w4.heap.size w4).alloc (Nat.le_refl _) _).cell hp))
  have H4 := Lib.hid (h4.below ((Below.refl w4.heap.size w4).alloc (Nat.le_refl _) (.cells #[.int .i64 2, .int .i64 1, .int .i64 0] 3)))
  clear hr h4 H3
  go_wp2_with fail
  refine (ints7_eq A _ 3 c _ _ [2, 1, 0] _ rfl (by decide) hr2.out hrl.out).mono ?_
  rintro e w5 ⟨rfl, hb5⟩
  have H5 := Lib.hid (H4.out.below hb5)
  clear hb5 H4 hrl hr2
  go_wp2_with fail
  refine (depth_in (n := 3) H5.out (by decide)).mono ?_
  rintro e w6 ⟨rfl, h6, _⟩
  have H6 := Lib.hid h6.fr
  clear h6 H5
  go_wp2_with fail
  go_ret
  exact ⟨rfl, H6.out⟩
end Go.Proofs.Ytbhcooomdjhoiaa
