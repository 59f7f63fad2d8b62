/- Forms: slices.MinFunc at Front's order, Front. -/
import Derived.Test.YtnfcapeajhegmaaDoorYc
namespace Go.Proofs.YtnfcapeajhegmaaDoor
open Go.RowKit

/-- The best of m and those of a list: the first of several. -/
def bestF : RI → List RI → RI
  | m, [] => m
  | m, x :: xs => bestF (if befF x m then x else m) xs
theorem bestF_step {m r : RI} {l : List RI} {k : Nat} (h : l[k]? = some r) : bestF m (l.drop k) = bestF (if befF r m then r else m) (l.drop (k + 1)) := by
  obtain ⟨hlt, he⟩ := List.getElem?_eq_some_iff.1 h
  rw [List.drop_eq_getElem_cons hlt, he, bestF]
theorem bestF_end (m : RI) (l : List RI) : bestF m (l.drop l.length) = m := by rw [List.drop_length]; rfl
theorem lt_zero_eq (z : Int) : decide (z < 0) = false → ¬ z < 0 := by simp


/-- Who is owed most, of a form; is there one? -/
def frontV : List RI → RI
  | [] => (0, 0, 0)
  | x :: xs => bestF x xs
def someL : List RI → Bool
  | [] => false
  | _ :: _ => true

end Go.Proofs.YtnfcapeajhegmaaDoor
