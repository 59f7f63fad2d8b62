/- FairGood. -/
import Derived.Test.YtnfcapeajhegmaaGreatFo3
import Derived.Test.YtnfcapeajhegmaaGreatFrb
namespace Go.Proofs.YtnfcapeajhegmaaGreat
open Go.RowKit Go.Maps

/-- k acts are done. -/
def GoodIn (W w : World) (s k : Nat) (base cur : Int) (R : List RI) : Prop := SIn W w s base cur R (1000 + 32 * k) (fun _ => False) ∧ LagB base R ∧ Low base R ∧ 0 ≤ base ∧ base ≤ 1125899906842624 * (k : Int)
/-- An act's cells, as a walk spells them. -/
def Act4 (w : World) (a : Addr) (o i n g : Int) : Prop :=
  w.cell? a = some (.int .i64 o) ∧ w.cell? ⟨a.block, a.off + 1, none⟩ = some (.int .i64 i) ∧ w.cell? ⟨a.block, a.off + 2, none⟩ = some (.int .i64 n) ∧ w.cell? ⟨a.block, a.off + 3, none⟩ = some (.int .i64 g)
theorem act_at {w0 w : World} {A : Option Addr} {l : List (List Int)} {k : Nat} (h : Rows w0 4 A l) (hk : k < l.length) (hb : Below w0.heap.size w0 w) :
    ∃ ad o i n g, A = some ad ∧ Act4 w (ad.add (k * 4)) o i n g ∧ wf64 i ∧ wf64 n := by
  obtain ⟨r, hr⟩ : ∃ r, l[k]? = some r := ⟨_, List.getElem?_eq_getElem hk⟩
  obtain ⟨hlen, ad, hA, hbl, hc⟩ := h k r hr
  obtain ⟨o, i, n, g, rfl⟩ : ∃ o i n g, r = [o, i, n, g] := by
    match r, hlen with
    | [o, i, n, g], _ => exact ⟨o, i, n, g, rfl⟩
  have e : ∀ j z, [o, i, n, g][j]? = some z → w.cell? (ad.add (k * 4 + j)) = some (.int .i64 z) := fun j z hj => (hb.cell (p := ad.add (k * 4 + j)) (by rw [add_block]; exact hbl)).trans (hc j z hj).1
  refine ⟨ad, o, i, n, g, hA, ⟨e 0 o rfl, ?_, ?_, ?_⟩, (hc 1 i rfl).2, (hc 2 n rfl).2⟩
  · rw [add_next]; exact e 1 i rfl
  · rw [add_next]; exact e 2 n rfl
  · rw [add_next]; exact e 3 g rfl
/-- The act, in a box of its own. -/
def ActAt (w : World) (b : Nat) (o i n g : Int) : Prop := BoxAt w b 50 #[.int .i64 o, .int .i64 i, .int .i64 n, .int .i64 g]
theorem ActAt.cells {w : World} {b : Nat} {o i n g : Int} (h : ActAt w b o i n g) : w.cell? ⟨b, 0, none⟩ = some (.int .i64 o) ∧ w.cell? ⟨b, 1, none⟩ = some (.int .i64 i) ∧ w.cell? ⟨b, 2, none⟩ = some (.int .i64 n) ∧ w.cell? ⟨b, 3, none⟩ = some (.int .i64 g) :=
  ⟨BoxAt.cell h, BoxAt.cell h, BoxAt.cell h, BoxAt.cell h⟩

theorem spick_any {W w : World} {s S : Nat} {base cur : Int} {R : List RI} {F : Nat → Prop} (h : SIn W w s base cur R S F) :
    Calls Tryz.prog 43 #[.pointer (some ⟨s, 0, none⟩)] w fun e w' => ∃ z bb, e = .returned (.tuple #[.int .i64 z, .bool bb]) ∧ SIn W w' s base (pickC cur R) R S F :=
  (spick_in h).mono (fun _ _ ⟨he, h1, _⟩ => ⟨_, _, he, h1⟩)

end Go.Proofs.YtnfcapeajhegmaaGreat
