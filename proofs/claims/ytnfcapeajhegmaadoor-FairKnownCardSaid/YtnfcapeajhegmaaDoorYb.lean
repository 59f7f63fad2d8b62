/- Forms: slices.IndexFunc with its two closures; place, has. -/
import Derived.Test.YtnfcapeajhegmaaDoorYa
namespace Go.Proofs.YtnfcapeajhegmaaDoor
open Go.RowKit

/-- The place of the first item of which p holds; -1. -/
def idxL (p : RI → Bool) : List RI → Nat → Int
  | [], _ => -1
  | x :: xs, k => if p x then (k : Int) else idxL p xs (k + 1)
theorem idxL_step {p : RI → Bool} {l : List RI} {k : Nat} {r : RI} (h : l[k]? = some r) : idxL p (l.drop k) k = if p r then (k : Int) else idxL p (l.drop (k + 1)) (k + 1) := by
  obtain ⟨hlt, he⟩ := List.getElem?_eq_some_iff.1 h
  rw [List.drop_eq_getElem_cons hlt, he, idxL]
theorem idxL_end {p : RI → Bool} (l : List RI) (k : Nat) : idxL p (l.drop l.length) k = -1 := by rw [List.drop_length]; rfl
def idIs (id : Int) (r : RI) : Bool := decide (r.1 = id)
def idOver (id : Int) (r : RI) : Bool := decide (id < r.1)


def hasL (id : Int) (l : List RI) : Bool := decide (0 ≤ idxL (idIs id) l 0)
end Go.Proofs.YtnfcapeajhegmaaDoor
