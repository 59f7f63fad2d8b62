/- Forms: Text. -/
import Derived.Test.YtandmngfajoinaaGreatDoorYc
import Derived.Test.YtandmngfajoinaaGreatDoorZs
import Derived.Test.YtandmngfajoinaaGreatDoorShelf
import Derived.Lib.ItoaLen
import Derived.Lib.SmallJoins
import Derived.Lib.OthersKept
import Derived.Lib.Builder
import Derived.Lib.AppendIntMem
namespace Go.Proofs.YtandmngfajoinaaGreatDoor
open Go.RowKit Go.Shelf

/-- The library's table of powers of ten lies as the program's text lays it. -/
def Tab (w : World) : Prop := Lib.TabIs Tryz.prog w "internal/strconv.uint64pow10" .u64 Lib.pow10Tab
theorem Tab.below {w w' : World} {B : Nat} (h : Tab w) (hb : Below B w w') (hB : w.heap.size ≤ B) : Tab w' :=
  Go.Joins.tab_stays (g := 0) (by kernel_rfl) h hb hB

/-- A number of some fifty bits. -/
def Sm (z : Int) : Prop := -1125899906842624 ≤ z ∧ z ≤ 1125899906842624
def SmR (r : RI) : Prop := Sm r.1 ∧ Sm r.2.1 ∧ Sm r.2.2
theorem Sm.len {z : Int} (h : Sm z) : (Lib.itoa z).length ≤ 21 := Lib.itoa_length_le z (by unfold Sm at h; omega) (by unfold Sm at h; omega)

/-- An item's text, a form's. -/
def itemT (r : RI) : List UInt8 := [32] ++ Lib.itoa r.1 ++ [47] ++ Lib.itoa r.2.1 ++ [47] ++ Lib.itoa r.2.2
def itemsT (l : List RI) : List UInt8 := (l.map itemT).flatten
def textL (c : Int) (l : List RI) : List UInt8 := Lib.itoa c ++ [58] ++ itemsT l
theorem itemsT_take {l : List RI} {k : Nat} {r : RI} (h : l[k]? = some r) : itemsT (l.take (k + 1)) = itemsT (l.take k) ++ itemT r := by
  obtain ⟨hlt, he⟩ := List.getElem?_eq_some_iff.1 h
  unfold itemsT
  rw [List.take_succ_eq_append_getElem hlt, he]
  simp
theorem itemT_len {r : RI} (h : SmR r) : (itemT r).length ≤ 66 := by
  have h0 := h.1.len
  have h1 := h.2.1.len
  have h2 := h.2.2.len
  unfold itemT
  simp
  omega
theorem itemsT_len {l : List RI} (h : ∀ r ∈ l, SmR r) : (itemsT l).length ≤ 66 * l.length := by
  induction l with
  | nil => simp [itemsT]
  | cons x xs ih =>
    have h1 := ih (fun r hr => h r (by simp [hr]))
    have h2 := itemT_len (h x (by simp))
    have e : itemsT (x :: xs) = itemT x ++ itemsT xs := by simp [itemsT]
    rw [e, List.length_append, List.length_cons]
    omega

theorem builder_stays {T e : TypeId} {B b : Nat} {bs : List Value} {w w' : World} (h : Lib.IsBuilderF T e B b bs w) (hb : Below w.heap.size w w') : Lib.IsBuilderF T e B b bs w' := by
  have key : ∀ p, Lib.BuilderAtF T e B b p bs w → Lib.BuilderAtF T e B b p bs w' := by
    intro p h
    have hlt := h.lt
    obtain ⟨hB, v, hh, hown, hne⟩ := h
    exact ⟨hB, v, (hb.block b hlt).trans hh, hown.kept (row := none) ⟨hb.os, hb.tape, hb.output, hb.size, fun k hk _ => hb.block k hk⟩ (by cases hv : v.ownBlock <;> simp), hne⟩
  exact h.elim (fun h => .inl (key _ h)) (fun h => .inr (key _ h))

/-- A builder at b holds acc, below B nothing has turned since w0; a box beside it holds an item. -/
structure TS (w0 : World) (B b : Nat) (o : Option (Nat × RI)) (acc : List UInt8) (w : World) : Prop where
  bld : Lib.IsBuilderF 56 5 B b (Lib.byteCells acc) w
  low : Below B w0 w
  size : B ≤ w.heap.size
  box : ∀ X r, o = some (X, r) → X ≠ b ∧ ItAt w X r
theorem TS.stays {w0 : World} {B b : Nat} {o : Option (Nat × RI)} {acc : List UInt8} {w w' : World} (h : TS w0 B b o acc w) (hb : Below w.heap.size w w') : TS w0 B b o acc w' :=
  ⟨builder_stays h.bld hb, h.low.trans (hb.mono h.size), Nat.le_trans h.size hb.size, fun X r e => ⟨(h.box X r e).1, BoxAt.next (h.box X r e).2 hb (Nat.le_refl _)⟩⟩
theorem TS.drop {w0 : World} {B b : Nat} {o : Option (Nat × RI)} {acc : List UInt8} {w : World} (h : TS w0 B b o acc w) : TS w0 B b none acc w := ⟨h.bld, h.low, h.size, fun _ _ e => by cases e⟩
theorem TS.push {w0 : World} {B b : Nat} {o : Option (Nat × RI)} {acc : List UInt8} {w : World} (h : TS w0 B b o acc w) (x0 x1 x2 : Int) :
    TS w0 B b (some (w.heap.size, (x0, x1, x2))) acc (w.alloc (.cells #[.int .i64 x0, .int .i64 x1, .int .i64 x2] 63)) := by
  have hbl : b < w.heap.size := h.bld.elim (fun h => h.lt) (fun h => h.lt)
  refine ⟨builder_stays h.bld ((Below.refl _ w).alloc (Nat.le_refl _) _), h.low.alloc h.size _, by have := h.size; simp; omega, fun X r e => ?_⟩
  injection e with e
  injection e with e1 e2
  subst e1 e2
  exact ⟨by omega, heap_alloc_new w _⟩
theorem TS.cells {w0 : World} {B b X : Nat} {r : RI} {acc : List UInt8} {w : World} (h : TS w0 B b (some (X, r)) acc w) :
    w.cell? ⟨X, 0, none⟩ = some (.int .i64 r.1) ∧ w.cell? ⟨X, 1, none⟩ = some (.int .i64 r.2.1) ∧ w.cell? ⟨X, 2, none⟩ = some (.int .i64 r.2.2) := by
  obtain ⟨h0, h1, h2, -⟩ := (h.box X r rfl).2.cells
  exact ⟨h0, h1, h2⟩

theorem ts_write {w0 : World} {B b : Nat} {o : Option (Nat × RI)} {acc : List UInt8} {w : World} (h : TS w0 B b o acc w) (s : List UInt8) (hl : acc.length + s.length ≤ 1000000) :
    Calls Tryz.prog 25 #[.pointer (some ⟨b, 0, none⟩), .string ⟨s.toArray⟩] w fun e w' => (∃ z : Int, e = .returned (.tuple #[.int .i64 z, .nilIface])) ∧ TS w0 B b o (acc ++ s) w' := by
  have e1 : (Lib.byteCells acc).length = acc.length := by simp [Lib.byteCells]
  have e2 : ((⟨s.toArray⟩ : ByteArray)).size = s.length := by simp [ByteArray.size]
  refine (Tryz.Builder_WriteString_k B b (Lib.byteCells acc) ⟨s.toArray⟩ w h.bld (by rw [e1, e2]; omega) h.size).mono ?_
  rintro e w' ⟨rfl, h1, h2, h3⟩
  have e3 : Lib.byteCells acc ++ Lib.strCells ⟨s.toArray⟩ = Lib.byteCells (acc ++ s) := by rw [Lib.strCells_toArray]; simp [Lib.byteCells]
  rw [e3] at h1
  refine ⟨⟨_, rfl⟩, .inr h1, h.low.trans h2, Nat.le_trans h.size h2.size, fun X r e => ?_⟩
  obtain ⟨hne, hx⟩ := h.box X r e
  exact ⟨hne, h3 X _ hx (fun e => hne (Option.some.inj e)) (fun c fz e => by injection e with _ e _; exact absurd e (by decide))⟩
theorem ts_itoa {w0 : World} {B b : Nat} {o : Option (Nat × RI)} {acc : List UInt8} {w : World} (h : TS w0 B b o acc w) (ht : Tab w0) (hB : w0.heap.size ≤ B) (z : Int) (hz : Sm z) :
    Calls Tryz.prog 26 #[.int .i64 z] w fun e w' => e = .returned (.string ⟨(Lib.itoa z).toArray⟩) ∧ TS w0 B b o acc w' := by
  refine (Tryz.strconv_Itoa z (by unfold Sm at hz; omega) (by unfold Sm at hz; omega) w (ht.below h.low hB)).mono ?_
  rintro e w' ⟨rfl, k, os, rfl⟩
  exact ⟨rfl, h.stays (Lib.below_grow _ _ (Nat.le_refl _) _ _)⟩
theorem ts_fmt {w0 : World} {B b : Nat} {o : Option (Nat × RI)} {acc : List UInt8} {w : World} (h : TS w0 B b o acc w) (ht : Tab w0) (hB : w0.heap.size ≤ B) (z : Int) (hz : Sm z) :
    Calls Tryz.prog 27 #[.int .i64 z, .int .i64 10] w fun e w' => e = .returned (.string ⟨(Lib.itoa z).toArray⟩) ∧ TS w0 B b o acc w' := by
  refine (Tryz.strconv_FormatInt_10 z (by unfold Sm at hz; omega) (by unfold Sm at hz; omega) w (ht.below h.low hB)).mono ?_
  rintro e w' ⟨rfl, k, os, rfl⟩
  exact ⟨rfl, h.stays (Lib.below_grow _ _ (Nat.le_refl _) _ _)⟩
theorem ts_string {w0 : World} {B b : Nat} {o : Option (Nat × RI)} {acc : List UInt8} {w : World} (h : TS w0 B b o acc w) :
    Calls Tryz.prog 28 #[.pointer (some ⟨b, 0, none⟩)] w fun e w' => e = .returned (.string ⟨acc.toArray⟩) ∧ Below B w0 w' := by
  refine (Tryz.Builder_String_any_k B b acc w h.bld h.size).mono ?_
  rintro e w' ⟨rfl, _, h2, _⟩
  exact ⟨rfl, h.low.trans h2⟩
end Go.Proofs.YtandmngfajoinaaGreatDoor
