/- Words for the reference's Div: rows that stay, rows of rows, lengths that follow values. -/
import Derived.Test.YtaeondpeaabfeaaRg
import Derived.Maps.AppendAt
namespace Go.Proofs.Ytaeondpeaabfeaa
open Go.RowKit

/-! ### lengths -/
/-- l has at most m digits, or its uppermost one counts. -/
def Norm (m : Nat) (l : List Int) : Prop := l.length ≤ m ∨ (1 ≤ l.length ∧ 65536 ^ (l.length - 1) ≤ val l)
theorem Norm.len {m K : Nat} {l : List Int} (h : Norm m l) (hv : val l < 65536 ^ K) : l.length ≤ max m K := by
  rcases h with h | ⟨h1, h2⟩
  · omega
  · rcases Nat.lt_or_ge K l.length with h3 | h3
    · have := pow_mono (show K ≤ l.length - 1 by omega); omega
    · omega
theorem Norm.put {m : Nat} {la lb r : List Int} (ha : Norm m la) (hb : Norm m lb) (h1 : val la ≤ val r) (h2 : val lb ≤ val r)
    (hl : r.length ≤ max la.length lb.length ∨ r.length = max la.length lb.length + 1 ∧ 65536 ^ (max la.length lb.length) ≤ val r) : Norm m r := by
  rcases hl with hl | ⟨hl, hv⟩
  · by_cases h0 : r.length ≤ m
    · exact .inl h0
    · refine .inr ⟨by omega, ?_⟩
      rcases Nat.le_total la.length lb.length with hx | hx
      · rcases hb with hb | ⟨hb1, hb2⟩
        · omega
        · have := pow_mono (show r.length - 1 ≤ lb.length - 1 by omega); omega
      · rcases ha with ha | ⟨ha1, ha2⟩
        · omega
        · have := pow_mono (show r.length - 1 ≤ la.length - 1 by omega); omega
  · exact .inr ⟨by omega, by rw [hl, Nat.add_sub_cancel]; exact hv⟩

/-! ### rows that stay -/
/-- v reads as l: a row below base, or one of the call's own. -/
def RowP (w : World) (base : Nat) (v : Value) (l : List Int) : Prop :=
  (∃ A c, v = .slice A l.length c ∧ IRow .i64 w base A l) ∨ OwnI .i64 w base 2 v l
theorem RowP.form {w : World} {base : Nat} {v : Value} {l : List Int} (h : RowP w base v l) (hb : base ≤ w.heap.size) : ∃ A c, v = .slice A l.length c ∧ IRow .i64 w w.heap.size A l := by
  rcases h with ⟨A, c, rfl, h⟩ | h
  · exact ⟨A, c, rfl, h.more hb⟩
  · obtain ⟨A, c, rfl, _, _, h⟩ := h.form
    exact ⟨A, c, rfl, h⟩
theorem RowP.below {w w' : World} {base : Nat} {v : Value} {l : List Int} (h : RowP w base v l) (hb : base ≤ w.heap.size) (hw : Below w.heap.size w w') : RowP w' base v l := by
  rcases h with ⟨A, c, rfl, h⟩ | h
  · exact .inl ⟨A, c, rfl, h.below (hw.mono hb)⟩
  · exact .inr (h.below hw (Nat.le_refl _))
/-- .. behind a write to a row whose elements are of another type. -/
theorem RowP.other {w w' : World} {base : Nat} {v u : Value} {l : List Int} {e n : Nat} {xs : List Value} (h : RowP w base v l) (hu : w.ownsRow base e 1 u n xs) (he : e ≠ 2) (hg : w.grownBy w' u.ownBlock) (hb : base ≤ w.heap.size) : RowP w' base v l := by
  rcases h with ⟨A, c, rfl, h⟩ | h
  · refine .inl ⟨A, c, rfl, h.below ((Below.refl base w).grown hg hb (fun g hg => (World.ownsRow.lt hu g hg).1))⟩
  · refine .inr (World.ownsRow.kept h hg ?_)
    by_cases h0 : v.ownBlock = none
    · exact .inl h0
    · refine .inr fun e1 => ?_
      rcases h.2 with ⟨rfl, _⟩ | ⟨g, cap, cur, rfl, _, h3, _⟩
      · exact h0 rfl
      · rcases hu.2 with ⟨rfl, _⟩ | ⟨g', cap', cur', rfl, _, h3', _⟩
        · cases e1
        · have e2 : g = g' := by injection e1
          subst e2
          rw [h3] at h3'
          injection h3' with h3'
          injection h3' with _ h4
          exact he h4.symm

/-- A row of rows: its cells are xs, they read as ls. -/
def Rows (w : World) (base : Nat) (xs : List Value) (ls : List (List Int)) : Prop := xs.length = ls.length ∧ ∀ (i : Nat) (x : Value) (l : List Int), xs[i]? = some x → ls[i]? = some l → RowP w base x l
theorem Rows.nil (w : World) (base : Nat) : Rows w base [] [] := ⟨rfl, fun i x l h => by simp at h⟩
theorem Rows.snoc {w : World} {base : Nat} {xs : List Value} {ls : List (List Int)} {x : Value} {l : List Int} (h : Rows w base xs ls) (hx : RowP w base x l) : Rows w base (xs ++ [x]) (ls ++ [l]) := by
  refine ⟨by simp [h.1], fun i y m h1 h2 => ?_⟩
  by_cases hi : i < xs.length
  · rw [List.getElem?_append_left hi] at h1
    rw [List.getElem?_append_left (by rw [← h.1]; exact hi)] at h2
    exact h.2 i y m h1 h2
  · rw [List.getElem?_append_right (by omega)] at h1
    rw [List.getElem?_append_right (by have := h.1; omega)] at h2
    have h3 : i - xs.length = 0 := by
      rcases Nat.eq_zero_or_pos (i - xs.length) with h | h
      · exact h
      · rw [List.getElem?_eq_none (by simp; omega)] at h1; cases h1
    rw [h3] at h1
    rw [show i - ls.length = 0 by have := h.1; omega] at h2
    simp at h1 h2
    subst h1 h2
    exact hx
theorem Rows.below {w w' : World} {base : Nat} {xs : List Value} {ls : List (List Int)} (h : Rows w base xs ls) (hb : base ≤ w.heap.size) (hw : Below w.heap.size w w') : Rows w' base xs ls := ⟨h.1, fun i x l h1 h2 => (h.2 i x l h1 h2).below hb hw⟩
theorem Rows.other {w w' : World} {base : Nat} {u : Value} {e n : Nat} {us : List Value} {xs : List Value} {ls : List (List Int)} (h : Rows w base xs ls) (hu : w.ownsRow base e 1 u n us) (he : e ≠ 2) (hg : w.grownBy w' u.ownBlock) (hb : base ≤ w.heap.size) : Rows w' base xs ls :=
  ⟨h.1, fun i x l h1 h2 => (h.2 i x l h1 h2).other hu he hg hb⟩
theorem RowP.alloc {w : World} {base : Nat} {v : Value} {l : List Int} (h : RowP w base v l) (hb : base ≤ w.heap.size) (o : Obj) : RowP (w.alloc o) base v l := h.below hb ((Below.refl _ _).alloc (Nat.le_refl _) o)
theorem Rows.alloc {w : World} {base : Nat} {xs : List Value} {ls : List (List Int)} (h : Rows w base xs ls) (hb : base ≤ w.heap.size) (o : Obj) : Rows (w.alloc o) base xs ls := h.below hb ((Below.refl _ _).alloc (Nat.le_refl _) o)

/-- Two rows of the call's own lie in different blocks. -/
def Apart (u v : Value) : Prop := ∀ g, u.ownBlock = some g → v.ownBlock ≠ some g
theorem Apart.symm {u v : Value} (h : Apart u v) : Apart v u := fun g h1 h2 => h g h2 h1
/-- What was owned stays so behind a write to another row. -/
theorem own_kept {w w' : World} {base e e' n m : Nat} {u v : Value} {xs ys : List Value} (hu : w.ownsRow base e 1 u n xs) (_hv : w.ownsRow base e' 1 v m ys) (ha : Apart u v) (hg : w.grownBy w' v.ownBlock) : w'.ownsRow base e 1 u n xs := by
  refine World.ownsRow.kept hu hg ?_
  cases h : u.ownBlock with
  | none => exact .inl rfl
  | some g => exact .inr (fun h2 => ha g h h2.symm)
theorem Apart.moved {w : World} {base e n : Nat} {u v v' : Value} {xs : List Value} (h : Apart u v) (hu : w.ownsRow base e 1 u n xs) (hv : v'.ownBlock = v.ownBlock ∨ v'.ownBlock = some (w.heap.size + 1)) : Apart u v' := by
  intro g h1 h2
  rcases hv with hv | hv
  · exact h g h1 (hv ▸ h2)
  · rw [hv] at h2
    have := (World.ownsRow.lt hu g h1).2
    injection h2
    omega

variable {P : Program}
/-- 'v = append(v, x)' of one value of one cell, v the call's own. -/
theorem wpList_app1v {ops : Array Oper} {rest : List Oper} {o : Oper} {a : Act} {Q : Exit → Act → World → Prop} {w : World} (hgd : o.guard = none) (s x : Operand) (t : TypeId)
    (ho : o.op = .call { callee := .builtin .append, args := #[s, x], argTypes := #[t, t] })
    (base : Nat) (e : TypeId) (i : TypeInfo) (bytes : Nat) (z : Value) (ht : P.underlying t = some (.slice e)) (hi : P.info? e = some i) (hz : i.zero = some z) (hsize : i.size = 1) (hzs : z.cells.size = 1) (hby : i.bytes = bytes)
    (v : Value) (xs : List Value) (hs : a.eval s = v) (hown : w.ownsRow base e 1 v xs.length xs) (u : Value) (hu : u.oneCell' = true) (hx : a.eval x = .slice (some ⟨w.heap.size, 0, none⟩) 1 1)
    (hbytes : (xs.length + 1) * bytes ≤ 140737488355328) (hb0 : 1 ≤ bytes) (hbase : base ≤ w.heap.size)
    (h : ∀ v' w', w'.ownsRow base e 1 v' (xs ++ [u]).length (xs ++ [u]) → (w.alloc (.cells #[u] e)).grownBy w' v.ownBlock → Below base w w' → (v'.ownBlock = v.ownBlock ∨ v'.ownBlock = some (w.heap.size + 1)) → wpList P ops Q rest (a.put o.dst v') w') : wpList P ops Q (o :: rest) a (w.alloc (.cells #[u] e)) := by
  have h63 : xs.length + 1 ≤ maxLen := by
    have := Nat.le_mul_of_pos_right (xs.length + 1) hb0
    unfold maxLen; omega
  refine wpList_append_own_at _ hgd s x t ho base e i z 1 bytes ht hi hz hsize hby hzs (by decide) v xs.length xs hs (World.ownsRow.alloc hown _) ⟨w.heap.size, 0, none⟩ 1 1 [u] hx rfl ?_ ?_ h63 hbytes (by simp; omega) ?_
  · intro j y hj
    match j, hj with
    | 0, hj => simp at hj; subst hj; simp [Addr.add]
  · intro y hy; simp at hy; subst hy; exact hu
  · intro v' w' h1 h2 _ h4
    refine h v' w' ?_ h2 ?_ (by simpa using h4)
    · simpa using h1
    · exact ((Below.refl base w).alloc hbase _).grown h2 (by simp; omega) (fun g hg => (World.ownsRow.lt hown g hg).1)
end Go.Proofs.Ytaeondpeaabfeaa
