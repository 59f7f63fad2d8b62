/- Slices of numbers that are read: what a slice's cells hold. No function of the program is named here. -/
import Derived.WalkKit
import Derived.Below
import Derived.Deep.Draws
import Derived.Lib.Hide
import Derived.OwnWalk
import Derived.Laws.AppendOwn
import Derived.Laws.OwnMore
namespace Go.Proofs.YtandmngfajoinaaGreat
open Go.RowKit

theorem add_block (a : Addr) (n : Nat) : (a.add n).block = a.block := by unfold Addr.add; split <;> rfl

/-- A slice that begins at A holds the numbers l, of kind k, all below block B. -/
def IRow (k : IntKind) (w : World) (B : Nat) (A : Option Addr) (l : List Int) : Prop :=
  ∀ j z, l[j]? = some z → ∃ ad, A = some ad ∧ ad.block < B ∧ w.cell? (ad.add j) = some (.int k z)

theorem IRow.nil {k : IntKind} {w : World} {B : Nat} {A : Option Addr} : IRow k w B A [] := fun j z h => by simp at h
theorem IRow.keep {k : IntKind} {w w' : World} {B B' : Nat} {A : Option Addr} {l : List Int} (h : IRow k w B A l) (hB : B ≤ B') (hk : ∀ p : Addr, p.block < B → w'.cell? p = w.cell? p) : IRow k w' B' A l :=
  fun j z hj => by
    obtain ⟨ad, e, hb, hc⟩ := h j z hj
    exact ⟨ad, e, Nat.lt_of_lt_of_le hb hB, (hk _ (by rw [add_block]; exact hb)).trans hc⟩
theorem IRow.below {k : IntKind} {w w' : World} {B : Nat} {A : Option Addr} {l : List Int} (h : IRow k w B A l) (hb : Below B w w') : IRow k w' B A l := h.keep (Nat.le_refl _) fun _ hp => hb.cell hp
theorem IRow.drewN {k : IntKind} {w : World} {B : Nat} {A : Option Addr} {l : List Int} (h : IRow k w B A l) (n : Nat) : IRow k (w.drewN n) B A l := h
theorem IRow.more {k : IntKind} {w : World} {B B' : Nat} {A : Option Addr} {l : List Int} (h : IRow k w B A l) (hB : B ≤ B') : IRow k w B' A l := h.keep hB fun _ _ => rfl
theorem IRow.at {k : IntKind} {w : World} {B : Nat} {A : Option Addr} {l : List Int} {i : Nat} (h : IRow k w B A l) (hi : i < l.length) :
    ∃ ad, A = some ad ∧ ad.block < B ∧ w.cell? (ad.add i) = some (.int k l[i]) := h i _ (List.getElem?_eq_getElem hi)

theorem IRow.lit {k : IntKind} (w : World) (l : List Int) (cs : Array Value) (t : TypeId) (B g : Nat) (h : cs = (l.map (Value.int k)).toArray) (hg : g = w.heap.size) (hB : g < B) : IRow k (w.alloc (.cells cs t)) B (some ⟨g, 0, none⟩) l := by
  subst h hg
  intro j z hj
  refine ⟨_, rfl, hB, ?_⟩
  have e : (Addr.add ⟨w.heap.size, 0, none⟩ j : Addr) = ⟨w.heap.size, j, none⟩ := by unfold Addr.add; split <;> simp_all
  rw [e, World.cell?_alloc_new]
  simp [hj]

theorem below_drewN {B : Nat} {a w : World} (h : Below B a w) (n : Nat) : Below B a (w.drewN n) := ⟨h.os, h.tape, h.output, h.size, h.block⟩

/-- A slice of the call's own: it owns the numbers l. -/
def OwnI (k : IntKind) (w : World) (base : Nat) (e : TypeId) (v : Value) (l : List Int) : Prop := w.ownsRow base e 1 v l.length (l.map (Value.int k))

theorem OwnI.nil (k : IntKind) (w : World) (base : Nat) (e : TypeId) : OwnI k w base e (.slice none 0 0) [] := World.ownsRow_nil w base e 1
theorem OwnI.drewN {k : IntKind} {w : World} {base : Nat} {e : TypeId} {v : Value} {l : List Int} (h : OwnI k w base e v l) (n : Nat) : OwnI k (w.drewN n) base e v l := h
theorem OwnI.alloc {k : IntKind} {w : World} {base : Nat} {e : TypeId} {v : Value} {l : List Int} (h : OwnI k w base e v l) (o : Obj) : OwnI k (w.alloc o) base e v l := World.ownsRow.alloc h o
/-- What is owned stays so while the blocks that were there stay as they were. -/
theorem OwnI.below {k : IntKind} {w w' : World} {base B : Nat} {e : TypeId} {v : Value} {l : List Int} (h : OwnI k w base e v l) (hb : Below B w w') (hB : w.heap.size ≤ B) : OwnI k w' base e v l := by
  unfold OwnI at *
  refine ⟨h.1, ?_⟩
  rcases h.2 with h2 | ⟨g, cap, cur, h1, h2, h3, h4⟩
  · exact .inl h2
  · refine .inr ⟨g, cap, cur, h1, h2, ?_, h4⟩
    have hg : g < w.heap.size := by
      rcases Nat.lt_or_ge g w.heap.size with h | h
      · exact h
      · rw [Array.getElem?_eq_none h] at h3; cases h3
    rw [hb.block g (by omega)]; exact h3
theorem OwnI.base_le {k : IntKind} {w : World} {base base' : Nat} {e : TypeId} {v : Value} {l : List Int} (h : OwnI k w base e v l) (hb : base' ≤ base) : OwnI k w base' e v l := by
  unfold OwnI at *
  refine ⟨h.1, ?_⟩
  rcases h.2 with h2 | ⟨g, cap, cur, h1, h2, h3⟩
  · exact .inl h2
  · exact .inr ⟨g, cap, cur, h1, by omega, h3⟩
/-- The value's form, and that it reads. -/
theorem OwnI.form {k : IntKind} {w : World} {base : Nat} {e : TypeId} {v : Value} {l : List Int} (h : OwnI k w base e v l) : ∃ A c, v = .slice A l.length c ∧ l.length ≤ c ∧ c ≤ maxLen ∧ IRow k w w.heap.size A l := by
  rcases h.2 with ⟨h1, h2⟩ | ⟨g, cap, cur, h1, h2, h3, h4, h5, h6, h7⟩
  · have : l = [] := List.eq_nil_of_length_eq_zero h2
    subst this
    exact ⟨none, 0, h1, Nat.le_refl _, Nat.zero_le _, IRow.nil⟩
  · refine ⟨some ⟨g, 0, none⟩, cap, h1, h4, h5, ?_⟩
    intro j z hj
    have hlt := World.ownsRow.lt h g (by rw [h1]; rfl)
    exact ⟨_, rfl, hlt.2, World.ownsRow.cells h (by rw [h1]; rfl) j _ (by rw [List.getElem?_map, hj]; rfl)⟩

theorem OwnI.row {k : IntKind} {w : World} {base : Nat} {e : TypeId} {A : Option Addr} {n c : Nat} {l : List Int} (h : OwnI k w base e (.slice A n c) l) : IRow k w w.heap.size A l := by
  obtain ⟨A', c', hv, _, _, hr⟩ := h.form
  injection hv with h1
  subst h1
  exact hr
theorem OwnI.setCell {k : IntKind} {w : World} {base : Nat} {e : TypeId} {v : Value} {l : List Int} (h : OwnI k w base e v l) {a : Addr} (ha : a.block < base) (u : Value) : OwnI k (w.setCell a u) base e v l := ownsRow_setCell_below h ha u

/-- A row of the call's own at the head of block g: one number of it. -/
theorem OwnI.cellAt {k : IntKind} {w : World} {base g c : Nat} {e : TypeId} {l : List Int} (h : OwnI k w base e (.slice (some ⟨g, 0, none⟩) l.length c) l) (j : Nat) (hj : j < l.length) : w.cell? ⟨g, j, none⟩ = some (.int k l[j]) := by
  have h1 := World.ownsRow.cellAt h j (by omega)
  rw [h1, List.getElem?_map, List.getElem?_eq_getElem hj]; rfl
theorem OwnI.frozenAt {k : IntKind} {w : World} {base g c : Nat} {e : TypeId} {l : List Int} (h : OwnI k w base e (.slice (some ⟨g, 0, none⟩) l.length c) l) (j : Nat) : w.frozen? ⟨g, j, none⟩ = false := World.ownsRow.frozenAt h j
/-- .. behind a store into it. -/
theorem OwnI.stored {k : IntKind} {w : World} {base g c : Nat} {e : TypeId} {l : List Int} (h : OwnI k w base e (.slice (some ⟨g, 0, none⟩) l.length c) l) (j : Nat) (x : Int) :
    OwnI k (w.setCell ⟨g, j, none⟩ (.int k x)) base e (.slice (some ⟨g, 0, none⟩) (l.set j x).length c) (l.set j x) := by
  have h1 := (World.ownsRow.stored h j (.int k x)).1
  unfold OwnI
  rw [List.length_set, List.map_set]
  exact h1

theorem quiet_eq {P : Program} {f : FuncId} {args : Array Value} {w : World} {n : Nat} {v : Value} (h : Calls P f args (w.drewN n) fun e w' => e = .returned v ∧ w.drewN n = w') :
    Calls P f args (w.drewN n) fun e w'' => e = .returned v ∧ ∃ m, w'' = w.drewN m := h.mono fun _ _ ⟨he, hm⟩ => ⟨he, n, hm.symm⟩
theorem made_zeros {w : World} {base g n : Nat} {e : TypeId} (h : w.ownsRow base e 1 (.slice (some ⟨g, 0, none⟩) n n) n (madeCells (Value.int .i64 0).cells (n * 1)).toList) :
    OwnI .i64 w base e (.slice (some ⟨g, 0, none⟩) n n) (List.replicate n 0) := by
  unfold OwnI
  rw [List.length_replicate, List.map_replicate]
  have e1 : (madeCells (Value.int .i64 0).cells (n * 1)).toList = List.replicate n (.int .i64 0) := by
    rw [Nat.mul_one]; exact toList_madeCells_one _ n
  rw [e1] at h
  exact h

variable {P : Program}
/-- 'v = append(v, x)' of one number, v the call's own: x has been laid in a block of its own. -/
theorem wpList_app1 {ops : Array Oper} {rest : List Oper} {o : Oper} {a : Act} {Q : Exit → Act → World → Prop} {w : World} {k : IntKind} (hgd : o.guard = none) (s x : Operand) (t : TypeId)
    (ho : o.op = .call { callee := .builtin .append, args := #[s, x], argTypes := #[t, t] })
    (base : Nat) (e : TypeId) (i : TypeInfo) (bytes : Nat) (z : Int) (ht : P.underlying t = some (.slice e)) (hi : P.info? e = some i) (hz : i.zero = some (.int k z)) (hsize : i.size = 1) (hby : i.bytes = bytes)
    (v : Value) (l : List Int) (hs : a.eval s = v) (hown : OwnI k w base e v l) (n : Int) (hx : a.eval x = .slice (some ⟨w.heap.size, 0, none⟩) 1 1)
    (hbytes : (l.length + 1) * bytes ≤ 140737488355328) (hb0 : 1 ≤ bytes) (hbase : base ≤ w.heap.size)
    (h : ∀ v' w', OwnI k w' base e v' (l ++ [n]) → Below base w w' → wpList P ops Q rest (a.put o.dst v') w') : wpList P ops Q (o :: rest) a (w.alloc (.cells #[.int k n] e)) := by
  have h63 : l.length + 1 ≤ maxLen := by
    have := Nat.le_mul_of_pos_right (l.length + 1) hb0
    unfold maxLen; omega
  refine wpList_append_own _ hgd s x t ho base e i (.int k z) 1 bytes ht hi hz hsize hby rfl (by decide) v l.length (l.map (Value.int k)) hs (World.ownsRow.alloc hown _) ⟨w.heap.size, 0, none⟩ 1 1 [.int k n] hx rfl ?_ ?_ h63 hbytes (by simp; omega) ?_
  · intro j u hj
    match j, hj with
    | 0, hj => simp at hj; subst hj; simp [Addr.add]
  · intro u hu; simp at hu; subst hu; rfl
  · intro v' w' h1 h2 _
    refine h v' w' ?_ ?_
    · unfold OwnI; simpa using h1
    · exact ((Below.refl base w).alloc hbase _).grown h2 (by simp; omega) (fun g hg => (World.ownsRow.lt hown g hg).1)
end Go.Proofs.YtandmngfajoinaaGreat
