/- Slices of numbers that are read: what a slice's cells hold. No function of the program is named here. -/
import Derived.WalkKit
import Derived.Below
import Derived.Deep.Draws
import Derived.Lib.Hide
namespace Go.Proofs.Ytkjomnmdepndpaa
open Go.RowKit

theorem add_block (a : Addr) (n : Nat) : (a.add n).block = a.block := by unfold Addr.add; split <;> rfl

/-- A slice that begins at A holds the numbers l, of kind k, all below block B. -/
def IRow (k : IntKind) (w : World) (B : Nat) (A : Option Addr) (l : List Int) : Prop :=
  ∀ j z, l[j]? = some z → ∃ ad, A = some ad ∧ ad.block < B ∧ w.cell? (ad.add j) = some (.int k z)

theorem IRow.nil {k : IntKind} {w : World} {B : Nat} {A : Option Addr} : IRow k w B A [] := fun j z h => by simp at h
theorem IRow.keep {k : IntKind} {w w' : World} {B B' : Nat} {A : Option Addr} {l : List Int} (h : IRow k w B A l) (hB : B ≤ B') (hk : ∀ p : Addr, p.block < B → w'.cell? p = w.cell? p) : IRow k w' B' A l :=
  fun j z hj => by
    obtain ⟨ad, e, hb, hc⟩ := h j z hj
    exact ⟨ad, e, Nat.lt_of_lt_of_le hb hB, (hk _ (by rw [add_block]; exact hb)).trans hc⟩
theorem IRow.below {k : IntKind} {w w' : World} {B : Nat} {A : Option Addr} {l : List Int} (h : IRow k w B A l) (hb : Below B w w') : IRow k w' B A l := h.keep (Nat.le_refl _) fun _ hp => hb.cell hp
theorem IRow.drewN {k : IntKind} {w : World} {B : Nat} {A : Option Addr} {l : List Int} (h : IRow k w B A l) (n : Nat) : IRow k (w.drewN n) B A l := h
theorem IRow.more {k : IntKind} {w : World} {B B' : Nat} {A : Option Addr} {l : List Int} (h : IRow k w B A l) (hB : B ≤ B') : IRow k w B' A l := h.keep hB fun _ _ => rfl
theorem IRow.at {k : IntKind} {w : World} {B : Nat} {A : Option Addr} {l : List Int} {i : Nat} (h : IRow k w B A l) (hi : i < l.length) :
    ∃ ad, A = some ad ∧ ad.block < B ∧ w.cell? (ad.add i) = some (.int k l[i]) := h i _ (List.getElem?_eq_getElem hi)

theorem IRow.lit {k : IntKind} (w : World) (l : List Int) (cs : Array Value) (t : TypeId) (B g : Nat) (h : cs = (l.map (Value.int k)).toArray) (hg : g = w.heap.size) (hB : g < B) : IRow k (w.alloc (.cells cs t)) B (some ⟨g, 0, none⟩) l := by
  subst h hg
  intro j z hj
  refine ⟨_, rfl, hB, ?_⟩
  have e : (Addr.add ⟨w.heap.size, 0, none⟩ j : Addr) = ⟨w.heap.size, j, none⟩ := by unfold Addr.add; split <;> simp_all
  rw [e, World.cell?_alloc_new]
  simp [hj]

theorem below_drewN {B : Nat} {a w : World} (h : Below B a w) (n : Nat) : Below B a (w.drewN n) := ⟨h.os, h.tape, h.output, h.size, h.block⟩
end Go.Proofs.Ytkjomnmdepndpaa
