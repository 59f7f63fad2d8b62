/- stride's queue: Seed; queues that a law makes. -/
import Derived.Test.YtnfcapeajhegmaaDoorSw
namespace Go.Proofs.YtnfcapeajhegmaaDoor
open Go.RowKit Go.Maps

def seedR (base : Int) (l : List RI) : List RI := l.map (fun r => (r.1, r.2.1, base - r.2.2))
theorem seedR_length (base : Int) (l : List RI) : (seedR base l).length = l.length := by unfold seedR; simp
theorem seedR_asc {base : Int} {l : List RI} (h : AscR l) : AscR (seedR base l) := asc_map (f := fun r => (r.1, r.2.1, base - r.2.2)) h (fun _ => rfl)
theorem formL_seed (base : Int) (l : List RI) : formL base (seedR base l) = l := by
  unfold formL seedR
  rw [List.map_map]
  conv => rhs; rw [← List.map_id l]
  refine List.map_congr_left (fun r _ => ?_)
  obtain ⟨r0, r1, r2⟩ := r
  simp only [Function.comp, id]
  congr 2
  omega
theorem ascB_asc : ∀ {l : List RI} {q : Int}, ascB q l = true → AscR l ∧ (∀ r ∈ l, q < r.1 ∧ itemB r = true)
  | [], _, _ => ⟨List.Pairwise.nil, fun r hr => by simp at hr⟩
  | x :: xs, q, h => by
    rw [ascB] at h
    simp at h
    obtain ⟨⟨h1, h2⟩, h3⟩ := h
    obtain ⟨h4, h5⟩ := ascB_asc h3
    refine ⟨List.pairwise_cons.2 ⟨fun r hr => (h5 r hr).1, h4⟩, fun r hr => ?_⟩
    rcases List.mem_cons.1 hr with rfl | hr
    · exact ⟨h1, h2⟩
    · have := h5 r hr; exact ⟨by omega, this.2⟩
theorem idxL_pos : ∀ {l : List RI} {p : RI → Bool} {k : Nat}, (0 ≤ idxL p l k) ↔ ∃ r ∈ l, p r = true
  | [], p, k => by simp [idxL]
  | x :: xs, p, k => by
    rw [idxL]
    by_cases hp : p x = true
    · rw [if_pos hp]; simp [hp]
    · rw [if_neg hp, idxL_pos (l := xs)]
      simp [hp]
theorem hasL_hasI (id : Int) (l : List RI) : hasL id l = hasI l id := by
  rw [Bool.eq_iff_iff]
  unfold hasL
  rw [decide_eq_true_iff, idxL_pos, hasI_iff]
  unfold idIs
  simp
/-- What a good form holds. -/
structure GoodF (c : Int) (l : List RI) : Prop where
  len : l.length ≤ 64
  asc : AscR l
  each : ∀ r ∈ l, itemB r = true
  cur : c = -1 ∨ hasI l c = true
theorem goodV_of {c : Int} {l : List RI} (h : goodV c l = true) : GoodF c l := by
  unfold goodV at h
  simp at h
  obtain ⟨⟨⟨h1, h2⟩, h3⟩, _⟩ := h
  obtain ⟨h5, h6⟩ := ascB_asc h2
  exact ⟨h1, h5, fun r hr => (h6 r hr).2, h3.imp id (fun h => by rw [← hasL_hasI]; exact h)⟩
theorem insR_last : ∀ {R : List RI} {x : RI}, (∀ r ∈ R, r.1 < x.1) → insR R x = R ++ [x]
  | [], _, _ => rfl
  | y :: ys, x, h => by
    unfold insR
    rw [if_pos (h y (by simp)), insR_last (fun r hr => h r (by simp [hr]))]
    rfl
/-- One more of the form's items. -/
theorem seed_next {base : Int} {l : List RI} {k : Nat} {x : RI} (ha : AscR l) (hk : l[k]? = some x) : insR ((seedR base l).take k) (x.1, x.2.1, base - x.2.2) = (seedR base l).take (k + 1) ∧ hasI ((seedR base l).take k) x.1 = false := by
  have hlt : ∀ r ∈ (seedR base l).take k, r.1 < x.1 := fun r hr => by
    obtain ⟨i, hi⟩ := List.mem_iff_getElem?.1 hr
    have hik : i < k := by
      have := (List.getElem?_eq_some_iff.1 hi).1
      rw [List.length_take] at this
      omega
    rw [List.getElem?_take, if_pos hik] at hi
    unfold seedR at hi
    rw [List.getElem?_map] at hi
    cases hl : l[i]? with
    | none => rw [hl] at hi; cases hi
    | some y =>
      rw [hl] at hi
      have hr' : r = (y.1, y.2.1, base - y.2.2) := (Option.some.inj hi).symm
      obtain ⟨h1, h2⟩ := List.getElem?_eq_some_iff.1 hl
      obtain ⟨h3, h4⟩ := List.getElem?_eq_some_iff.1 hk
      have := List.pairwise_iff_getElem.1 ha i k h1 h3 hik
      rw [h2, h4] at this
      rw [hr']; exact this
  refine ⟨?_, hasI_no.2 (fun r hr => by have := hlt r hr; omega)⟩
  rw [insR_last (x := (x.1, x.2.1, base - x.2.2)) (fun r hr => hlt r hr)]
  have : (seedR base l)[k]? = some (x.1, x.2.1, base - x.2.2) := by unfold seedR; rw [List.getElem?_map, hk]; rfl
  rw [List.take_add_one, this]
  rfl

/-- What Seed answers. -/
def SeedPostP (base f0 : Int) (l : List RI) (w : World) (e : Ending) (w' : World) : Prop :=
  if goodV f0 l = true ∧ -1152921504606846976 ≤ base ∧ base ≤ 1152921504606846976 then
    ∃ s b mp mw v st L, e = .returned (.tuple #[.pointer (some ⟨s, 0, none⟩), .int .i64 0]) ∧ IsS w' s b mp mw v st base f0 L (seedR base l) ∧ 0 ≤ st ∧ st ≤ 1000 ∧ (∀ k, SOf s b mp mw v k → w.heap.size ≤ k) ∧ Below w.heap.size w w'
  else e = .returned (.tuple #[.pointer none, .int .i64 1]) ∧ Below w.heap.size w w'

end Go.Proofs.YtnfcapeajhegmaaDoor
