/- Forms: Good. -/
import Derived.Test.YtnfcapeajhegmaaDoorYd
namespace Go.Proofs.YtnfcapeajhegmaaDoor
open Go.RowKit

/-- The IDs ascend from the one behind last, and each item may be. -/
def ascB : Int → List RI → Bool
  | _, [] => true
  | last, x :: xs => decide (last < x.1) && itemB x && ascB x.1 xs
theorem ascB_step {q : Int} {r : RI} {l : List RI} {k : Nat} (h : l[k]? = some r) : ascB q (l.drop k) = (decide (q < r.1) && itemB r && ascB r.1 (l.drop (k + 1))) := by
  obtain ⟨hlt, he⟩ := List.getElem?_eq_some_iff.1 h
  rw [List.drop_eq_getElem_cons hlt, he, ascB]
theorem ascB_end (q : Int) (l : List RI) : ascB q (l.drop l.length) = true := by rw [List.drop_length]; rfl
/-- May a form be? -/
def goodV (c : Int) (l : List RI) : Bool := decide (l.length ≤ 64) && ascB (-1) l && (decide (c = -1) || hasL c l) && (!someL l || decide (0 ≤ (frontV l).2.2))

end Go.Proofs.YtnfcapeajhegmaaDoor
