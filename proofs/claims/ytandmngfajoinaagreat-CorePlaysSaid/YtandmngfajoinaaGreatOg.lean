/- Queues: what a queue holds; its list and its map. -/
import Derived.Test.YtandmngfajoinaaGreatOf
import Derived.Maps.OwnSet
namespace Go.Proofs.YtandmngfajoinaaGreat
open Go.RowKit Go.Maps

def wf64 (a : Int) : Prop := (Lit.int .i64 a).wf = true

/-- x put into its place. -/
def insL : List QI → QI → List QI
  | [], x => [x]
  | y :: ys, x => if befQ y x then y :: insL ys x else x :: y :: ys
theorem place_cons {y x : QI} {ys : List QI} {p : Nat} (h : Place (y :: ys) x (p + 1)) : Place ys x p ∧ befQ y x = true :=
  ⟨⟨by have := h.1; simp at this; exact this, fun j z hj => by
    have := h.2 (j + 1) z (by simpa using hj)
    constructor
    · intro hlt; exact this.1 (by omega)
    · intro hb; have := this.2 hb; omega⟩, (h.2 0 y rfl).1 (by omega)⟩
theorem insAt_place {L : List QI} {x : QI} {p : Nat} (h : Place L x p) : insAt L p x = insL L x := by
  induction L generalizing p with
  | nil =>
    have h1 := h.1
    simp at h1
    subst h1
    rfl
  | cons y ys ih =>
    cases p with
    | zero =>
      have hb : befQ y x = false := by
        cases hc : befQ y x with
        | false => rfl
        | true => have := (h.2 0 y rfl).2 hc; omega
      simp [insAt, insL, hb]
    | succ p =>
      obtain ⟨h1, h2⟩ := place_cons h
      have := ih h1
      unfold insAt at *
      rw [insL, h2, if_pos rfl, ← this]
      rfl
theorem mem_insL {L : List QI} {x z : QI} : z ∈ insL L x ↔ z = x ∨ z ∈ L := by
  induction L with
  | nil => simp [insL]
  | cons y ys ih =>
    unfold insL
    split
    · simp only [List.mem_cons, ih]
      constructor
      · rintro (h | h | h)
        · exact .inr (.inl h)
        · exact .inl h
        · exact .inr (.inr h)
      · rintro (h | h | h)
        · exact .inr (.inl h)
        · exact .inl h
        · exact .inr (.inr h)
    · simp only [List.mem_cons]
theorem length_insL (L : List QI) (x : QI) : (insL L x).length = L.length + 1 := by
  induction L with
  | nil => rfl
  | cons y ys ih => unfold insL; split <;> simp [ih]
theorem Ord.ins {L : List QI} {x : QI} (h : Ord L) (hx : x ∉ L) : Ord (insL L x) := by
  induction L with
  | nil => exact List.pairwise_singleton _ _
  | cons y ys ih =>
    obtain ⟨h1, h2⟩ := List.pairwise_cons.1 h
    unfold insL
    split
    · rename_i hb
      refine List.pairwise_cons.2 ⟨fun z hz => ?_, ih h2 (fun hm => hx (by simp [hm]))⟩
      rcases mem_insL.1 hz with rfl | hz
      · exact hb
      · exact h1 z hz
    · rename_i hb
      have hb' : befQ y x = false := by simpa using hb
      have hxy : befQ x y = true := by
        rcases befQ_total hb' with e | e
        · exact absurd (by simp [e]) hx
        · exact e
      refine List.pairwise_cons.2 ⟨fun z hz => ?_, h⟩
      rcases List.mem_cons.1 hz with rfl | hz
      · exact hxy
      · exact befQ_trans hxy (h1 z hz)
theorem Ord.erase {L : List QI} (h : Ord L) (i : Nat) : Ord (L.eraseIdx i) := List.Pairwise.sublist (List.eraseIdx_sublist _ _) h
/-- No two of one number. -/
def Dist (L : List QI) : Prop := L.Pairwise (fun a b => a.2 ≠ b.2)
theorem Dist.uniq {L : List QI} (h : Dist L) {a b : QI} (ha : a ∈ L) (hb : b ∈ L) (he : a.2 = b.2) : a = b := by
  induction L with
  | nil => simp at ha
  | cons y ys ih =>
    obtain ⟨h1, h2⟩ := List.pairwise_cons.1 h
    rcases List.mem_cons.1 ha with ea | ha' <;> rcases List.mem_cons.1 hb with eb | hb'
    · rw [ea, eb]
    · rw [ea] at he; exact absurd he (h1 b hb')
    · rw [eb] at he; exact absurd he.symm (h1 a ha')
    · exact ih h2 ha' hb'
theorem Dist.ins {L : List QI} {x : QI} (h : Dist L) (hx : ∀ z ∈ L, z.2 ≠ x.2) : Dist (insL L x) := by
  induction L with
  | nil => exact List.pairwise_singleton _ _
  | cons y ys ih =>
    obtain ⟨h1, h2⟩ := List.pairwise_cons.1 h
    unfold insL
    split
    · refine List.pairwise_cons.2 ⟨fun z hz => ?_, ih h2 (fun z hz => hx z (by simp [hz]))⟩
      rcases mem_insL.1 hz with rfl | hz
      · exact hx y (by simp)
      · exact h1 z hz
    · refine List.pairwise_cons.2 ⟨fun z hz => (hx z hz).symm, h⟩
theorem Dist.erase {L : List QI} (h : Dist L) (i : Nat) : Dist (L.eraseIdx i) := List.Pairwise.sublist (List.eraseIdx_sublist _ _) h
theorem mem_erase {L : List QI} (h : Dist L) {i : Nat} {x z : QI} (hi : L[i]? = some x) : z ∈ L.eraseIdx i ↔ z ∈ L ∧ z.2 ≠ x.2 := by
  induction L generalizing i with
  | nil => simp at hi
  | cons y ys ih =>
    obtain ⟨h1, h2⟩ := List.pairwise_cons.1 h
    cases i with
    | zero =>
      simp at hi
      subst hi
      simp only [List.eraseIdx_cons_zero, List.mem_cons]
      constructor
      · intro hz; exact ⟨.inr hz, (h1 z hz).symm⟩
      · rintro ⟨rfl | hz, hne⟩
        · exact absurd rfl hne
        · exact hz
    | succ i =>
      have hi' : ys[i]? = some x := by simpa using hi
      have hxm : x ∈ ys := List.mem_of_getElem? hi'
      simp only [List.eraseIdx_cons_succ, List.mem_cons, ih h2 hi']
      constructor
      · rintro (rfl | ⟨hz, hne⟩)
        · exact ⟨.inl rfl, h1 x hxm⟩
        · exact ⟨.inr hz, hne⟩
      · rintro ⟨rfl | hz, hne⟩
        · exact .inl rfl
        · exact .inr ⟨hz, hne⟩

theorem isKey (a : Int) : WideAt.IsKeyLit (.int .i64 a) := trivial
/-- The map keeps the list's keys, by their numbers. -/
structure Keeps (D : DataW Unit) (L : List QI) : Prop where
  tidy : Tidy D
  size : Maps.size D = L.length
  has : ∀ id, Maps.has D (.int .i64 id) = true ↔ ∃ x ∈ L, x.2 = id
  get : ∀ x ∈ L, D.atKey (.int .i64 x.2) (.lit (.int .i64 0)) = .lit (.int .i64 x.1)
theorem Keeps.empty : Keeps (.map []) [] := ⟨tidy_empty, rfl, fun id => by simp [Maps.has], fun x hx => by simp at hx⟩
theorem Keeps.put {D : DataW Unit} {L : List QI} (h : Keeps D L) {x : QI} (hx : ∀ z ∈ L, z.2 ≠ x.2) : Keeps (D.put (.int .i64 x.2) (.lit (.int .i64 x.1))) (insL L x) := by
  have hno : Maps.has D (.int .i64 x.2) = false := by
    cases hc : Maps.has D (.int .i64 x.2) with
    | false => rfl
    | true => obtain ⟨z, hz, he⟩ := (h.has _).1 hc; exact absurd he (hx z hz)
  refine ⟨h.tidy.put (isKey _) _, ?_, fun id => ?_, fun z hz => ?_⟩
  · rw [size_put h.tidy, hno, length_insL, h.size]; simp
  · by_cases he : id = x.2
    · subst he
      rw [has_put_same h.tidy.isMap (isKey _)]
      simp only [true_iff]
      exact ⟨x, mem_insL.2 (.inl rfl), rfl⟩
    · rw [has_put_other (by intro e; injection e with _ e; exact he e), h.has]
      constructor
      · rintro ⟨z, hz, rfl⟩; exact ⟨z, mem_insL.2 (.inr hz), rfl⟩
      · rintro ⟨z, hz, rfl⟩
        rcases mem_insL.1 hz with rfl | hz
        · exact absurd rfl he
        · exact ⟨z, hz, rfl⟩
  · rcases mem_insL.1 hz with rfl | hz
    · rw [atKey_put_same h.tidy.isMap (isKey _)]
    · rw [atKey_put_other (by intro e; injection e with _ e; exact hx z hz e)]
      exact h.get z hz
theorem Keeps.del {D : DataW Unit} {L : List QI} (h : Keeps D L) (hd : Dist L) {x : QI} {i : Nat} (hi : L[i]? = some x) : Keeps (D.del (.int .i64 x.2)) (L.eraseIdx i) := by
  have hm : x ∈ L := List.mem_of_getElem? hi
  have hyes : Maps.has D (.int .i64 x.2) = true := (h.has _).2 ⟨x, hm, rfl⟩
  refine ⟨h.tidy.del _, ?_, fun id => ?_, fun z hz => ?_⟩
  · have := size_del h.tidy (k := .int .i64 x.2)
    rw [hyes, h.size] at this
    simp at this
    rw [List.length_eraseIdx, if_pos (List.getElem?_eq_some_iff.1 hi).1]
    omega
  · by_cases he : id = x.2
    · subst he
      rw [has_del_same]
      simp only [Bool.false_eq_true, false_iff]
      rintro ⟨z, hz, he⟩
      exact ((mem_erase hd hi).1 hz).2 he
    · rw [has_del_other (by intro e; injection e with _ e; exact he e), h.has]
      constructor
      · rintro ⟨z, hz, rfl⟩; exact ⟨z, (mem_erase hd hi).2 ⟨hz, he⟩, rfl⟩
      · rintro ⟨z, hz, rfl⟩; exact ⟨z, ((mem_erase hd hi).1 hz).1, rfl⟩
  · obtain ⟨hz1, hz2⟩ := (mem_erase hd hi).1 hz
    rw [atKey_del_other (by intro e; injection e with _ e; exact hz2 e)]
    exact h.get z hz1

theorem ownsMap_tight {P : Program} {k : TypeId} {R : Value → Option (DataW Unit × List MemPlace)} {w : World} {b n : Nat} {D : DataW Unit} (h : w.ownsMap P k R b n D) : w.ownsMap P k R b (Maps.size D) D := by
  obtain ⟨es, clock, hb, F, hs, rfl⟩ := h
  exact ⟨es, clock, hb, F, by rw [Maps.size_eq, length_sorted]; simp, rfl⟩
theorem ownsMap_keep {P : Program} {k : TypeId} {R : Value → Option (DataW Unit × List MemPlace)} {w w' : World} {b n : Nat} {D : DataW Unit} (h : w.ownsMap P k R b n D) (hs : w'.heap[b]? = w.heap[b]?) : w'.ownsMap P k R b n D := by
  obtain ⟨es, clock, hb, r⟩ := h
  exact ⟨es, clock, hs.trans hb, r⟩

/-- Block mp is a map that keeps L. -/
def QMap (w : World) (mp : Nat) (L : List QI) : Prop := ∃ D : DataW Unit, w.ownsMap Tryz.prog 3 (plainElem Tryz.prog 2) mp L.length D ∧ Keeps D L
theorem QMap.keep {w w' : World} {mp : Nat} {L : List QI} (h : QMap w mp L) (hs : w'.heap[mp]? = w.heap[mp]?) : QMap w' mp L := by
  obtain ⟨D, h1, h2⟩ := h
  exact ⟨D, ownsMap_keep h1 hs, h2⟩
theorem QMap.lt {w : World} {mp : Nat} {L : List QI} (h : QMap w mp L) : mp < w.heap.size := by
  obtain ⟨D, h1, _⟩ := h
  exact h1.lt
theorem keyed_i : Keyed Tryz.prog 3 := int_keyed Tryz.underlying3
theorem zero_i64 (w : World) : (zeroValue 2).run Tryz.prog w = .ok (.int .i64 0) w := by kernel_rfl
set_option maxRecDepth 100000 in
/-- 'v, ok := m[id]'. -/
theorem QMap.look {w : World} {mp : Nat} {L : List QI} (h : QMap w mp L) (id : Int) (hw : wf64 id) :
    (∀ x ∈ L, x.2 = id → (Instr.lookup 31 (.map (some mp)) (.int .i64 id) true).run Tryz.prog w = .ok (.tuple #[.int .i64 x.1, .bool true]) w) ∧
    ((∀ x ∈ L, x.2 ≠ id) → (Instr.lookup 31 (.map (some mp)) (.int .i64 id) true).run Tryz.prog w = .ok (.tuple #[.int .i64 0, .bool false]) w) := by
  obtain ⟨D, h1, h2⟩ := h
  obtain ⟨v, ps, hrun, hv⟩ := h1.look_ok keyed_i Tryz.underlying31 (zero_i64 w) (plainElem_int Tryz.underlying2 (by decide)) (keyOf_int_mk Tryz.underlying3 hw)
  obtain ⟨c, rfl, hc, _⟩ := plainElem_int_inv Tryz.underlying2 hv
  have hc' : D.atKey (.int .i64 id) (.lit (.int .i64 0)) = .lit (.int .i64 c) := congrArg Prod.fst hc
  refine ⟨fun x hx he => ?_, fun hn => ?_⟩
  · subst he
    have e1 := h2.get x hx
    rw [hc'] at e1
    injection e1 with e1
    injection e1 with _ e1
    rw [hrun, (h2.has _).2 ⟨x, hx, rfl⟩, e1]
  · have hno : Maps.has D (.int .i64 id) = false := by
      cases hh : Maps.has D (.int .i64 id) with
      | false => rfl
      | true => obtain ⟨z, hz, he⟩ := (h2.has _).1 hh; exact absurd he (hn z hz)
    have e1 := atKey_of_not_has hno (.lit (.int .i64 0))
    rw [hc'] at e1
    injection e1 with e1
    injection e1 with _ e1
    rw [hrun, hno, e1]
/-- 'm[id] = key'. -/
theorem QMap.store {w : World} {mp : Nat} {L : List QI} (h : QMap w mp L) (x : QI) (hk : wf64 x.1) (hi : wf64 x.2) (hL : L.length ≤ 1000000) (hx : ∀ z ∈ L, z.2 ≠ x.2) :
    ∃ w', (Instr.mapUpdate 31 (.map (some mp)) (.int .i64 x.2) (.int .i64 x.1)).run Tryz.prog w = .ok () w' ∧ QMap w' mp (insL L x) ∧ w.grownBy w' (some mp) ∧ w'.heap.size = w.heap.size := by
  obtain ⟨D, h1, h2⟩ := h
  obtain ⟨w', hrun, h3, h4⟩ := h1.store keyed_i Tryz.underlying31 (by unfold maxLen; omega) (keyOf_int_mk Tryz.underlying3 hi) (plainElem_int Tryz.underlying2 hk)
  refine ⟨w', hrun, ⟨_, by rw [length_insL]; exact h3, h2.put hx⟩, h4.grown, ?_⟩
  obtain ⟨_, _, _, _, _, rfl⟩ := h4
  simp [ChangeMaps.setBlock]
/-- 'delete(m, id)'. -/
theorem QMap.drop {w : World} {mp : Nat} {L : List QI} (h : QMap w mp L) (hd : Dist L) {x : QI} {i : Nat} (hi : L[i]? = some x) (hw : wf64 x.2) (ty : TypeId) :
    ∃ w', (Builtin.delete_ #[31, 3] ty #[.map (some mp), .int .i64 x.2]).run Tryz.prog w = .ok (.tuple #[]) w' ∧ QMap w' mp (L.eraseIdx i) ∧ w.grownBy w' (some mp) ∧ w'.heap.size = w.heap.size := by
  obtain ⟨D, h1, h2⟩ := h
  obtain ⟨w', hrun, h3, h4⟩ := h1.drop keyed_i Tryz.underlying31 (keyOf_int_mk Tryz.underlying3 hw) ty
  have h5 := h2.del hd hi
  refine ⟨w', hrun, ⟨_, by rw [← h5.size]; exact ownsMap_tight h3, h5⟩, h4.grown, ?_⟩
  obtain ⟨_, _, _, _, _, rfl⟩ := h4
  simp [ChangeMaps.setBlock]

/-- A queue at block b: its room, its steps, its list; A: its blocks. -/
structure IsQ (w : World) (b : Nat) (most s : Int) (L : List QI) (v : Value) (mp : Nat) : Prop where
  box : QBox w b most v mp s
  row : QRow w 136 v L
  map : QMap w mp L
  ord : Ord L
  dist : Dist L
  wf : ∀ x ∈ L, wf64 x.1 ∧ wf64 x.2
  n1 : v.ownBlock ≠ some b
  n2 : v.ownBlock ≠ some mp
  n3 : mp ≠ b
/-- Its blocks. -/
def QOf (b : Nat) (v : Value) (mp : Nat) (k : Nat) : Prop := k = b ∨ k = mp ∨ v.ownBlock = some k
theorem IsQ.lt {w : World} {b : Nat} {most s : Int} {L : List QI} {v : Value} {mp : Nat} (h : IsQ w b most s L v mp) : ∀ k, QOf b v mp k → k < w.heap.size := by
  rintro k (rfl | rfl | hk)
  · exact h.box.lt
  · exact h.map.lt
  · exact h.row.lt hk
theorem IsQ.keep {w w' : World} {b : Nat} {most s : Int} {L : List QI} {v : Value} {mp : Nat} (h : IsQ w b most s L v mp) (hs : ∀ k, QOf b v mp k → w'.heap[k]? = w.heap[k]?) : IsQ w' b most s L v mp :=
  ⟨(hs b (.inl rfl)).trans h.box, h.row.keep (fun g hg => hs g (.inr (.inr hg))), h.map.keep (hs mp (.inr (.inl rfl))), h.ord, h.dist, h.wf, h.n1, h.n2, h.n3⟩
end Go.Proofs.YtandmngfajoinaaGreat
