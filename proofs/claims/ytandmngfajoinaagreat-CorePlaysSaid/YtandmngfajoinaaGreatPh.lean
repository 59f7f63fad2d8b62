/- A region that draws its order and ends in a tail of one order: the head by itself, with what is held of the world in the head alone. No function of the program is named here. -/
import Derived.StillTail
import Derived.Deep.RegionHeld3
namespace Go.Proofs.YtandmngfajoinaaGreat

section
variable {P : Program} {ops : Array Oper} {md : Region.Mode} {Q Q' : Exit → Act → World → Prop} {S : World → Prop}

theorem wpOp_weakQ (hQ : ∀ e a w, e ≠ .normal → Q' e a w → Q e a w) {i : Nat} {K : Act → World → Prop} {a : Act} {w : World} (h : wpOp P ops Q' i K a w) : wpOp P ops Q i K a w := by
  have hL : LetsOut Q' → LetsOut Q := fun ⟨a, w, h⟩ => ⟨a, w, hQ _ _ _ (by simp) h⟩
  unfold wpOp at *
  split
  · simpa [*] using h
  · rename_i o ho
    simp only [ho] at h
    split
    · rename_i hw
      simp only [hw, if_true] at h
      refine h.imp (fun hh => ?_) (fun hh => ⟨hh.1, hL hh.2⟩)
      unfold Oper.wp at *
      generalize (execOp a.eval o).run P w = r at *
      cases r with
      | ok n w' =>
        cases n <;> simp only [Oper.upon] at hh ⊢ <;>
          first
            | exact hh
            | exact Calls.mono hh (fun e w'' he => by cases e <;> first | exact he | exact hQ _ _ _ (by simp) he | exact hL he)
      | halt x w' => cases x <;> simp only [Oper.upon] at hh ⊢ <;> first | exact hh | exact hQ _ _ _ (by simp) hh
    · rename_i hw
      simp only [hw] at h
      exact h

theorem wpAny_more : ∀ (fuel : Nat) (listed : Array Bool) (a : Act) (w : World), wpAny P md ops Q fuel listed a w → wpAny P md ops Q (fuel + 1) listed a w
  | 0, _, _, _, h => ⟨fun _ => h.2, by rw [h.1]; simp⟩
  | fuel + 1, _, _, _, h => ⟨h.1, fun i hi => wpOp_mono (fun a' w' h' => wpAny_more fuel _ a' w' h') (h.2 i hi)⟩
theorem wpAny_adds (k : Nat) {fuel : Nat} {listed : Array Bool} {a : Act} {w : World} (h : wpAny P md ops Q fuel listed a w) : wpAny P md ops Q (k + fuel) listed a w := by
  induction k with
  | zero => simpa using h
  | succ k ih => have := wpAny_more _ _ _ _ ih; rwa [show k + fuel + 1 = k + 1 + fuel by omega] at this

/-- All of the head has come up, none of the tail. -/
def HeadDone (ops : Array Oper) (n : Nat) (A : Array Bool) : Prop := A.size = ops.size ∧ (∀ i, i < n → A.getD i false = true) ∧ (∀ i, n ≤ i → i < ops.size → A.getD i true = false)
/-- What follows the head. -/
def PhaseQ (P : Program) (md : Region.Mode) (ops : Array Oper) (n g : Nat) (Q : Exit → Act → World → Prop) : Exit → Act → World → Prop
  | .normal, a, w => ∀ A, HeadDone ops n A → wpAny P md ops Q g A a w
  | e, a, w => Q e a w
/-- Two lists of what has come up: in one the tail counts as done. -/
structure Pair (ops : Array Oper) (n : Nat) (A B : Array Bool) : Prop where
  sa : A.size = ops.size
  sb : B.size = ops.size
  head : ∀ i, i < n → ∀ d, A.getD i d = B.getD i d
  ta : ∀ i, n ≤ i → i < ops.size → A.getD i true = false
  tb : ∀ i, n ≤ i → i < ops.size → B.getD i true = true

theorem Pair.set {n i : Nat} {A B : Array Bool} (h : Pair ops n A B) (hi : i < n) : Pair ops n (A.setIfInBounds i true) (B.setIfInBounds i true) := by
  refine ⟨by simp [h.sa], by simp [h.sb], fun j hj d => ?_, fun j hj hj' => ?_, fun j hj hj' => ?_⟩
  · by_cases e : i = j
    · subst e
      have := h.head i hi
      by_cases hs : i < ops.size
      · have ha : i < A.size := by rw [h.sa]; exact hs
        have hb : i < B.size := by rw [h.sb]; exact hs
        simp [ha, hb]
      · have ha : ¬ i < A.size := by rw [h.sa]; exact hs
        have hb : ¬ i < B.size := by rw [h.sb]; exact hs
        simp [ha, hb]
    · rw [getD_set_ne d e, getD_set_ne d e]; exact h.head j hj d
  · rw [getD_set_ne true (by omega)]; exact h.ta j hj hj'
  · rw [getD_set_ne true (by omega)]; exact h.tb j hj hj'

theorem phase_any {n g : Nat} (hn : n ≤ ops.size) (h1 : ∀ j o, j < n → ops[j]? = some o → ∀ e ∈ o.after, e.on < j) (h2 : ∀ j o, n ≤ j → ops[j]? = some o → ∀ i, i < n → ∃ e ∈ o.after, Region.binds md e = true ∧ e.on = i) :
    ∀ (fuel : Nat) (A B : Array Bool) (a : Act) (w : World), Pair ops n A B → wpAnyH P md ops (PhaseQ P md ops n g Q) S fuel B a w → wpAny P md ops Q (fuel + g) A a w := by
  have hweak : ∀ e a w, e ≠ Exit.normal → PhaseQ P md ops n g Q e a w → Q e a w := fun e a w he h => by cases e <;> first | exact absurd rfl he | exact h
  have hdone : ∀ A B, Pair ops n A B → Region.ready md ops B = [] → HeadDone ops n A := by
    intro A B hp hr
    refine ⟨hp.sa, fun i => ?_, hp.ta⟩
    induction i using Nat.strongRecOn with
    | ind i ih =>
      intro hi
      cases hc : A.getD i false with
      | true => rfl
      | false =>
        exfalso
        have hio : i < ops.size := by omega
        have hb : B.getD i false = false := by rw [← hp.head i hi]; exact hc
        have : i ∈ Region.ready md ops B := by
          rw [mem_ready]
          refine ⟨getD_in (by rw [hp.sb]; exact hio) hb, ops[i], Array.getElem?_eq_getElem hio, fun e he _ => ?_⟩
          have hlt := h1 i _ hi (Array.getElem?_eq_getElem hio) e he
          rw [← hp.head e.on (by omega)]
          exact ih e.on hlt (by omega)
        rw [hr] at this
        cases this
  have hlow : ∀ A B i, Pair ops n A B → i ∈ Region.ready md ops B → i < n ∧ i ∈ Region.ready md ops A := by
    intro A B i hp hi
    rw [mem_ready] at hi
    obtain ⟨h0, o, ho, hall⟩ := hi
    have hio : i < ops.size := (Array.getElem?_eq_some_iff.1 ho).1
    have hin : i < n := by
      rcases Nat.lt_or_ge i n with h | h
      · exact h
      · rw [hp.tb i h hio] at h0; cases h0
    refine ⟨hin, mem_ready.2 ⟨by rw [hp.head i hin]; exact h0, o, ho, fun e he hb => ?_⟩⟩
    rw [hp.head e.on (by have := h1 i o hin ho e he; omega)]
    exact hall e he hb
  have hup : ∀ A B i, Pair ops n A B → Region.ready md ops B ≠ [] → i ∈ Region.ready md ops A → i < n ∧ i ∈ Region.ready md ops B := by
    intro A B i hp hne hi
    rw [mem_ready] at hi
    obtain ⟨h0, o, ho, hall⟩ := hi
    have hin : i < n := by
      rcases Nat.lt_or_ge i n with h | h
      · exact h
      · exfalso
        obtain ⟨j, hj⟩ := List.exists_mem_of_ne_nil _ hne
        obtain ⟨hjn, hjA⟩ := hlow A B j hp hj
        obtain ⟨e, he, hb, rfl⟩ := h2 i o h ho j hjn
        have h3 := hall e he hb
        have h4 := (mem_ready.1 hjA).1
        rw [getD_both h4] at h3
        cases h3
    refine ⟨hin, mem_ready.2 ⟨by rw [← hp.head i hin]; exact h0, o, ho, fun e he hb => ?_⟩⟩
    rw [← hp.head e.on (by have := h1 i o hin ho e he; omega)]
    exact hall e he hb
  intro fuel
  induction fuel with
  | zero =>
    intro A B a w hp h
    rw [Nat.zero_add]
    exact h.2 A (hdone A B hp h.1)
  | succ fuel ih =>
    intro A B a w hp h
    by_cases hr : Region.ready md ops B = []
    · exact wpAny_adds _ (h.1 hr A (hdone A B hp hr))
    · have e : fuel + 1 + g = (fuel + g) + 1 := by omega
      rw [e]
      refine ⟨fun h0 => ?_, fun i hi => ?_⟩
      · obtain ⟨j, hj⟩ := List.exists_mem_of_ne_nil _ hr
        have := (hlow A B j hp hj).2
        rw [h0] at this
        cases this
      · obtain ⟨hin, hiB⟩ := hup A B i hp hr hi
        exact wpOp_mono (fun a' w' h' => ih _ _ a' w' (hp.set hin) h'.2) (wpOp_weakQ hweak (h.2 i hiB))

/-- The check, for the kernel. -/
def phaseB (md : Region.Mode) (ops : Array Oper) (n : Nat) : Bool :=
  decide (n ≤ ops.size) && ((List.range ops.size).all fun j => match ops[j]? with
    | some o => if j < n then o.after.all (fun e => decide (e.on < j)) else (List.range n).all fun i => o.after.any fun e => Region.binds md e && e.on == i
    | none => true) && Region.seqB md ops (ops.size - n) n ((List.range ops.size).map (fun i => decide (i < n))).toArray
def tailDone (m n : Nat) : Array Bool := ((List.range m).map (fun i => decide (n ≤ i))).toArray

theorem wp_region_phase {id : Nat} {a : Act} {w : World} {l : List Oper} (n : Nat) (hm : P.follows .mixedOrders = true) (hB : phaseB .any l.toArray n = true) (S : World → Prop)
    (h : wpAnyH P .any l.toArray (PhaseQ P .any l.toArray n (l.toArray.size - n) Q) S n (tailDone l.toArray.size n) a w.drew) : (Code.region id l.toArray true).wp P Q a w := by
  unfold phaseB at hB
  simp only [Bool.and_eq_true, decide_eq_true_eq] at hB
  obtain ⟨⟨hn, hall⟩, _⟩ := hB
  refine wp_region_any hm ?_
  have e : l.toArray.size = n + (l.toArray.size - n) := by omega
  have hj : ∀ j o, l.toArray[j]? = some o → (if j < n then o.after.all (fun e => decide (e.on < j)) else (List.range n).all fun i => o.after.any fun e => Region.binds .any e && e.on == i) = true := by
    intro j o ho
    have := List.all_eq_true.1 hall j (List.mem_range.2 (Array.getElem?_eq_some_iff.1 ho).1)
    rw [ho] at this
    exact this
  have := phase_any (P := P) (Q := Q) (S := S) (g := l.toArray.size - n) hn
    (fun j o hjn ho e he => by
      have := hj j o ho
      rw [if_pos hjn, Array.all_eq_true_iff_forall_mem] at this
      exact of_decide_eq_true (this e he))
    (fun j o hjn ho i hi => by
      have := hj j o ho
      rw [if_neg (by omega)] at this
      have := List.all_eq_true.1 this i (List.mem_range.2 hi)
      obtain ⟨e, he, hb⟩ := Array.any_eq_true'.1 this
      simp only [Bool.and_eq_true, beq_iff_eq] at hb
      exact ⟨e, he, hb.1, hb.2⟩)
    n (Array.replicate l.toArray.size false) (tailDone l.toArray.size n) a w.drew ?_ h
  · rw [← e] at this
    exact this
  · refine ⟨by simp, by simp [tailDone], fun i hi d => ?_, fun i hi hi' => getD_in (by simpa using hi') (getD_replicate_false _ _), fun i hi hi' => ?_⟩
    · have hil : i < l.toArray.size := by omega
      simp at hil
      simp [tailDone, hil]
      omega
    · simp at hi'
      simp [tailDone, hi']
      exact hi
/-- Behind the head: the tail in its one order. -/
theorem phase_tail {l : List Oper} {n : Nat} (hB : phaseB .any l.toArray n = true) {a : Act} {w : World} (h : wpList P l.toArray Q (l.drop n) a w) : PhaseQ P .any l.toArray n (l.toArray.size - n) Q .normal a w := by
  intro A hA
  unfold phaseB at hB
  simp only [Bool.and_eq_true, decide_eq_true_eq] at hB
  obtain ⟨⟨hn, _⟩, hs⟩ := hB
  have e : A = ((List.range l.toArray.size).map (fun i => decide (i < n))).toArray := by
    apply Array.ext
    · simp [hA.1]
    · intro i h1 h2
      have hi : i < l.toArray.size := by rw [← hA.1]; exact h1
      simp only [List.getElem_toArray, List.getElem_map, List.getElem_range]
      by_cases c : i < n
      · have := hA.2.1 i c
        simp [h1] at this
        simp [this, c]
      · have := hA.2.2 i (by omega) hi
        simp [h1] at this
        simp [this, c]
  subst e
  have hd : (l.drop n).length = l.toArray.size - n := by simp
  have := wpAny_of_seq (P := P) (md := .any) (ops := l.toArray) (Q' := Q) (l.drop n) n ((List.range l.toArray.size).map (fun i => decide (i < n))).toArray a w (fun j => by simp) (by rw [hd]; exact hs) h
  rw [hd] at this
  exact this
end
end Go.Proofs.YtandmngfajoinaaGreat
