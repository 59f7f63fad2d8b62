/- A region that draws its order, whose first operations have one order: those by themselves, as a plain list; what is left in whatever order. No function of the program is named here. -/
import Derived.Test.YtmoifjaaencjbaaDoorPh
namespace Go.Proofs.YtmoifjaaencjbaaDoor

section
variable {P : Program} {ops : Array Oper} {md : Region.Mode} {Q : Exit → Act → World → Prop}

/-- The first m operations come up one at a time, and none of the others before them. -/
def chB (md : Region.Mode) (ops : Array Oper) (m : Nat) : Bool :=
  (List.range ops.size).all fun t => match ops[t]? with
    | none => true
    | some o => (decide (m ≤ t) || o.after.all fun e => !Region.binds md e || decide (e.on < t)) && (decide (t = 0) || if t < m then o.after.any fun e => Region.binds md e && decide (e.on = t - 1) else o.after.any fun e => Region.binds md e && decide (m - 1 ≤ e.on))
/-- The first m are done, g are left. -/
def headArr (m g : Nat) : Array Bool := (List.replicate m true ++ List.replicate g false).toArray
/-- What follows them. -/
def ThenQ (P : Program) (md : Region.Mode) (ops : Array Oper) (g : Nat) (A : Array Bool) (Q : Exit → Act → World → Prop) : Exit → Act → World → Prop
  | .normal, a, w => wpAny P md ops Q g A a w
  | e, a, w => Q e a w
theorem thenQ_weak {g : Nat} {A : Array Bool} : ∀ e a w, e ≠ Exit.normal → ThenQ P md ops g A Q e a w → Q e a w := fun e a w he h => by cases e <;> first | exact absurd rfl he | exact h

theorem headDone_arr {m g : Nat} {A : Array Bool} (hs : m + g = ops.size) (h : HeadDone ops m A) : A = headArr m g := by
  obtain ⟨h0, h1, h2⟩ := h
  apply Array.ext
  · simp [headArr]; omega
  · intro i hi hi'
    by_cases hm : i < m
    · have := h1 i hm
      simp [headArr, hm, hi] at this ⊢
      exact this
    · have := h2 i (by omega) (by omega)
      simp [headArr, List.getElem_append, hm, hi] at this ⊢
      exact this
theorem headDone_set {k : Nat} {A : Array Bool} (h : HeadDone ops k A) (hk : k < ops.size) : HeadDone ops (k + 1) (A.setIfInBounds k true) := by
  obtain ⟨h0, h1, h2⟩ := h
  refine ⟨by simp [h0], fun i hi => ?_, fun i hi hs => ?_⟩
  · by_cases e : k = i
    · subst e
      have : k < A.size := by omega
      simp [this]
    · rw [getD_set_ne false e]; exact h1 i (by omega)
  · rw [getD_set_ne true (by omega)]; exact h2 i (by omega) hs
theorem ready_chain {m k : Nat} {A : Array Bool} (hc : chB md ops m = true) (hA : HeadDone ops k A) (hk : k < m) (hm : m ≤ ops.size) : k ∈ Region.ready md ops A ∧ ∀ i ∈ Region.ready md ops A, i = k := by
  obtain ⟨h0, h1, h2⟩ := hA
  have hcc : ∀ t o, ops[t]? = some o → (m ≤ t ∨ ∀ e ∈ o.after, Region.binds md e = true → e.on < t) ∧ (t = 0 ∨ if t < m then ∃ e ∈ o.after, Region.binds md e = true ∧ e.on = t - 1 else ∃ e ∈ o.after, Region.binds md e = true ∧ m - 1 ≤ e.on) := by
    intro t o ho
    have hlt := (Array.getElem?_eq_some_iff.1 ho).1
    have h := List.all_eq_true.1 hc t (List.mem_range.2 hlt)
    simp only [ho, Bool.and_eq_true, Bool.or_eq_true, decide_eq_true_eq] at h
    refine ⟨h.1.imp id (fun h e he hb => ?_), h.2.imp id (fun h => ?_)⟩
    · have := Array.all_eq_true'.1 h e he
      simpa [hb] using this
    · split at h
      · rename_i hlt
        rw [if_pos hlt]
        obtain ⟨e, he, hb⟩ := Array.any_eq_true'.1 h
        simp at hb
        exact ⟨e, he, hb.1, hb.2⟩
      · rename_i hlt
        rw [if_neg hlt]
        obtain ⟨e, he, hb⟩ := Array.any_eq_true'.1 h
        simp at hb
        exact ⟨e, he, hb.1, by omega⟩
  have hno : ∀ i, k ≤ i → A.getD i false = false := fun i hi => by
    rcases Nat.lt_or_ge i ops.size with hs | hs
    · exact getD_both (h2 i hi hs)
    · simp [Array.getElem?_eq_none (show A.size ≤ i by omega)]
  constructor
  · rw [mem_ready]
    have hks : k < ops.size := by omega
    refine ⟨h2 k (Nat.le_refl _) hks, ops[k], Array.getElem?_eq_getElem hks, fun e he hb => ?_⟩
    rcases (hcc k _ (Array.getElem?_eq_getElem hks)).1 with h | h
    · omega
    · exact h1 _ (h e he hb)
  · intro i hi
    rw [mem_ready] at hi
    obtain ⟨hf, o, ho, hall⟩ := hi
    rcases Nat.lt_trichotomy i k with hlt | he | hgt
    · have := h1 i hlt
      rw [getD_both hf] at this
      cases this
    · exact he
    · exfalso
      rcases (hcc i o ho).2 with h | h
      · omega
      · split at h
        · obtain ⟨e, he, hb, hon⟩ := h
          have := hall e he hb
          rw [hno e.on (by omega)] at this
          cases this
        · obtain ⟨e, he, hb, hon⟩ := h
          have := hall e he hb
          rw [hno e.on (by omega)] at this
          cases this

theorem wpAny_of_chain {m g : Nat} (hs : m + g = ops.size) (hc : chB md ops m = true) : ∀ (l : List Oper) (k : Nat) (A : Array Bool) (a : Act) (w : World), k + l.length = m → (∀ j, j < l.length → l[j]? = ops[k + j]?) →
    HeadDone ops k A → wpList P ops (ThenQ P md ops g (headArr m g) Q) l a w → wpAny P md ops Q (l.length + g) A a w
  | [], k, A, _, _, hk, _, hA, h => by
    simp at hk
    subst hk
    rw [headDone_arr hs hA]
    simpa [ThenQ, wpList] using h
  | o :: l, k, A, a, w, hk, hl, hA, h => by
    have h0 : ops[k]? = some o := by simpa using (hl 0 (by simp)).symm
    rw [List.length_cons] at hk ⊢
    rw [show l.length + 1 + g = (l.length + g) + 1 by omega]
    obtain ⟨hr1, hr2⟩ := ready_chain hc hA (by omega) (by omega)
    refine ⟨fun h1 => (by rw [h1] at hr1; cases hr1), fun i hi => ?_⟩
    obtain rfl := hr2 i hi
    have hw : wpOp P ops (ThenQ P md ops g (headArr m g) Q) i (wpList P ops (ThenQ P md ops g (headArr m g) Q) l) a w := by unfold wpOp; simp only [h0]; exact h
    exact wpOp_weakQ thenQ_weak (wpOp_mono (fun a' w' h' => wpAny_of_chain hs hc l (i + 1) _ a' w' (by omega) (fun j hj => by have := hl (j + 1) (by simp; omega); simpa [Nat.add_assoc, Nat.add_comm 1 j] using this) (headDone_set hA (by omega)) h') hw)

theorem wp_region_pre {id : Nat} {a : Act} {w : World} (m g : Nat) (hm : P.follows .mixedOrders = true) (hB : (decide (m + g = ops.size) && chB .any ops m) = true)
    (h : wpList P ops (ThenQ P .any ops g (headArr m g) Q) (ops.toList.take m) a w.drew) : (Code.region id ops true).wp P Q a w := by
  simp only [Bool.and_eq_true, decide_eq_true_eq] at hB
  refine wp_region_any hm ?_
  have hlen : (ops.toList.take m).length = m := by rw [List.length_take, Array.length_toList]; omega
  have h1 := wpAny_of_chain (P := P) (Q := Q) hB.1 hB.2 (ops.toList.take m) 0 (Array.replicate ops.size false) a w.drew (by rw [hlen]; omega) (fun j hj => by
    rw [hlen] at hj
    rw [List.getElem?_take, if_pos hj, Nat.zero_add, Array.getElem?_toList]) ⟨by simp, fun i hi => by omega, fun i _ hs => by simp [hs]⟩ h
  rw [hlen, hB.1] at h1
  exact h1
end
end Go.Proofs.YtmoifjaaencjbaaDoor
