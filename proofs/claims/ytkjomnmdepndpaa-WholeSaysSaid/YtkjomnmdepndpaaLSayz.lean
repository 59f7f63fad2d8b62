/- The walk of the law WholeSays, whatever the list. -/
import Derived.Test.YtkjomnmdepndpaaLSays
namespace Go.Proofs.Ytkjomnmdepndpaa
open Go.RowKit

set_option maxHeartbeats 1000000 in
set_option maxRecDepth 100000 in
theorem lsays_no (a b c d : Int) (A : Option Addr) (n cl : Nat) (w : World) (h : 100 < n) :
    Calls Try.prog 4 #[.int .i64 a, .int .i64 b, .int .i64 c, .int .i64 d, .slice A n cl] w (Ret w (.bool true)) := by
  have h3 : decide (100 < (n : Int)) = true := by simp; omega
  go_enter Try.func4, Try.ntmps4
  go_wp2_with (go_at_call 10; refine (awake_c _).mono ?_; rintro e w' ⟨rfl, n, rfl⟩)
  go_ret
  exact ⟨rfl, below_drewN (Below.refl _ _) _⟩

theorem lsays_any (a b c d : Int) (A : Option Addr) (cl : Nat) (l : List Int) (w : World) (ha : (Lit.int .i64 a).wf = true) (hb : (Lit.int .i64 b).wf = true) (hc : (Lit.int .i64 c).wf = true) (hd : (Lit.int .i64 d).wf = true)
    (hr : IRow .i64 w w.heap.size A l) (hw : ∀ z ∈ l, (Lit.int .i64 z).wf = true) :
    Calls Try.prog 4 #[.int .i64 a, .int .i64 b, .int .i64 c, .int .i64 d, .slice A l.length cl] w (Ret w (.bool true)) := by
  by_cases h : 100 < l.length
  · exact lsays_no a b c d A l.length cl w h
  · exact lsays_c a b c d A cl l w (of_wf ha).1 (of_wf ha).2 (of_wf hb).1 (of_wf hb).2 (of_wf hc).1 (of_wf hc).2 (of_wf hd).1 (of_wf hd).2 hr (fun x hx => of_wf (hw x hx)) (by omega)
end Go.Proofs.Ytkjomnmdepndpaa
