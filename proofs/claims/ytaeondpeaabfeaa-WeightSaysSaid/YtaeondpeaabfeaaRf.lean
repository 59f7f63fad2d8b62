/- Words for a region that makes a variable for a signed number while it calls: two cells that stay, a box that was made on the way. -/
import Derived.Test.YtaeondpeaabfeaaRd
import Derived.Test.YtaeondpeaabfeaaRe
namespace Go.Proofs.Ytaeondpeaabfeaa
open Go.RowKit

theorem BigV.drew {w : World} {v : Value} {neg : Bool} {l : List Int} (h : BigV w v neg l) : BigV w.drew v neg l := h
theorem BigV.alloc {w : World} {v : Value} {neg : Bool} {l : List Int} (h : BigV w v neg l) (o : Obj) : BigV (w.alloc o) v neg l := h.below ((Below.refl _ _).alloc (Nat.le_refl _) o)
/-- A number's form. -/
theorem BigV.agg {w : World} {v : Value} {neg : Bool} {l : List Int} (h : BigV w v neg l) : ∃ A c, v = .agg #[.bool neg, .slice A l.length c] := by
  obtain ⟨A, c, h, _⟩ := h
  exact ⟨A, c, h⟩
/-- Two cells that stay as they are. -/
theorem two_next {W w2 : World} {g : Nat} {p0 p1 : Value} (h : W.cell? ⟨g, 0, none⟩ = some p0 ∧ W.cell? ⟨g, 1, none⟩ = some p1) (hb : Below W.heap.size W w2) :
    w2.cell? ⟨g, 0, none⟩ = some p0 ∧ w2.cell? ⟨g, 1, none⟩ = some p1 :=
  ⟨(hb.cell (cellLt h.1)).trans h.1, (hb.cell (cellLt h.2)).trans h.2⟩
theorem two_alloc {W : World} {g : Nat} {p0 p1 : Value} (o : Obj) (h : W.cell? ⟨g, 0, none⟩ = some p0 ∧ W.cell? ⟨g, 1, none⟩ = some p1) :
    (W.alloc o).cell? ⟨g, 0, none⟩ = some p0 ∧ (W.alloc o).cell? ⟨g, 1, none⟩ = some p1 := two_next h ((Below.refl _ _).alloc (Nat.le_refl _) o)
theorem below_alloc {x x' : World} {o : Obj} (c : Below (x.alloc o).heap.size (x.alloc o) x') : Below x.heap.size x x' := ((Below.refl _ _).alloc (Nat.le_refl _) o).trans (c.mono (by simp))

/-- Block B is a box that holds the zero number still. -/
structure PZ (B : Nat) (w : World) : Prop where
  c0 : w.cell? ⟨B, 0, none⟩ = some (.bool false)
  c1 : w.cell? ⟨B, 1, none⟩ = some (.slice none 0 0)
  f : ∀ i, w.frozen? ⟨B, i, none⟩ = false
theorem PZ.start {x x' : World} {t : TypeId} (c : Below (x.alloc (.cells #[.bool false, .slice none 0 0] t)).heap.size (x.alloc (.cells #[.bool false, .slice none 0 0] t)) x') : PZ x.heap.size x' := by
  obtain ⟨hc, hf⟩ := bcell c
  exact ⟨by rw [hc _ _ (by simp)]; simp [go_sem], by rw [hc _ _ (by simp)]; simp [go_sem], fun i => by rw [hf _ _ (by simp)]; simp [go_sem]⟩
theorem PZ.next {B : Nat} {W x' : World} (h : PZ B W) (c : Below W.heap.size W x') : PZ B x' :=
  ⟨(c.cell (cellLt h.c0)).trans h.c0, (c.cell (cellLt h.c1)).trans h.c1, fun i => (c.frozen (p := ⟨B, i, none⟩) (show B < W.heap.size from cellLt h.c0)).trans (h.f i)⟩
theorem BigV.set {B : Nat} {w : World} {v u0 u1 : Value} {neg : Bool} {l : List Int} (h : BigV w v neg l) (hp : PZ B w) : BigV ((w.setCell ⟨B, 0, none⟩ u0).setCell ⟨B, 1, none⟩ u1) v neg l := by
  obtain ⟨A, c, rfl, hr, hd⟩ := h
  refine ⟨A, c, rfl, ?_, hd⟩
  intro j z hj
  obtain ⟨ad, e, hb, hc⟩ := hr j z hj
  refine ⟨ad, e, by simpa [World.setCell] using hb, ?_⟩
  rw [World.cell?_setCell_other, World.cell?_setCell_other]
  · exact hc
  · intro e2; rw [← e2, hp.c0] at hc; simp at hc
  · intro e2; rw [← e2, hp.c1] at hc; simp at hc
theorem two_set {B g : Nat} {w : World} {p0 p1 u0 u1 : Value} (h : w.cell? ⟨g, 0, none⟩ = some p0 ∧ w.cell? ⟨g, 1, none⟩ = some p1) (hne : g ≠ B) :
    ((w.setCell ⟨B, 0, none⟩ u0).setCell ⟨B, 1, none⟩ u1).cell? ⟨g, 0, none⟩ = some p0 ∧ ((w.setCell ⟨B, 0, none⟩ u0).setCell ⟨B, 1, none⟩ u1).cell? ⟨g, 1, none⟩ = some p1 := by
  have e : ∀ i j, (⟨B, i, none⟩ : Addr) ≠ ⟨g, j, none⟩ := fun i j e => hne (congrArg Addr.block e).symm
  exact ⟨by rw [World.cell?_setCell_other _ _ _ _ (e _ _), World.cell?_setCell_other _ _ _ _ (e _ _)]; exact h.1, by rw [World.cell?_setCell_other _ _ _ _ (e _ _), World.cell?_setCell_other _ _ _ _ (e _ _)]; exact h.2⟩
theorem PZ.cells {B : Nat} {w : World} {u0 u1 : Value} (h : PZ B w) : ((w.setCell ⟨B, 0, none⟩ u0).setCell ⟨B, 1, none⟩ u1).cell? ⟨B, 0, none⟩ = some u0 ∧ ((w.setCell ⟨B, 0, none⟩ u0).setCell ⟨B, 1, none⟩ u1).cell? ⟨B, 1, none⟩ = some u1 := by
  have e : (⟨B, 1, none⟩ : Addr) ≠ ⟨B, 0, none⟩ := by simp
  refine ⟨?_, ?_⟩
  · rw [World.cell?_setCell_other _ _ _ _ e]; exact World.cell?_setCell_same _ _ _ h.c0
  · have h2 : (w.setCell ⟨B, 0, none⟩ u0).cell? ⟨B, 1, none⟩ = some (.slice none 0 0) := by rw [World.cell?_setCell_other _ _ _ _ e.symm]; exact h.c1
    exact World.cell?_setCell_same _ _ _ h2
/-- A signed number behind a pointer: what a variable of this type is. -/
def BoxV (w : World) (B : Nat) (neg : Bool) (l : List Int) : Prop := ∃ A c, w.cell? ⟨B, 0, none⟩ = some (.bool neg) ∧ w.cell? ⟨B, 1, none⟩ = some (.slice A l.length c) ∧ BigV w (.agg #[.bool neg, .slice A l.length c]) neg l
end Go.Proofs.Ytaeondpeaabfeaa
