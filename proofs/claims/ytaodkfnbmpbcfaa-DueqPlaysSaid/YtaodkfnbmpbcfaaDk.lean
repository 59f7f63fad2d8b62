/- Who is due first: what it is. -/
import Derived.Test.YtaodkfnbmpbcfaaDj
namespace Go.Proofs.Ytaodkfnbmpbcfaa
open Go.RowKit

theorem dueB_false {a b : RI} : dueB a b = false ↔ b.2.1 < a.2.1 ∨ (b.2.1 = a.2.1 ∧ b.2.2 ≤ a.2.2) := by
  unfold dueB
  constructor
  · intro h
    simp at h
    omega
  · intro h
    simp
    omega
theorem snoc_ind {P : List RI → Prop} (h0 : P []) (hs : ∀ T x, P T → P (T ++ [x])) (T : List RI) : P T := by
  have : P T.reverse.reverse := by
    induction T.reverse with
    | nil => exact h0
    | cons x xs ih => rw [List.reverse_cons]; exact hs _ _ ih
  rwa [List.reverse_reverse] at this
theorem bestO_spec (T : List RI) : (T = [] ∧ bestO T = none) ∨ ∃ r, bestO T = some r ∧ r ∈ T ∧ ∀ z ∈ T, dueB z r = false := by
  induction T using snoc_ind with
  | h0 => exact .inl ⟨rfl, rfl⟩
  | hs T x ih =>
    refine .inr ?_
    rw [bestO_snoc]
    rcases ih with ⟨rfl, h⟩ | ⟨r, h, hm, hz⟩
    · rw [h]
      refine ⟨x, rfl, by simp, fun z hz => ?_⟩
      simp at hz
      subst hz
      exact dueB_false.2 (.inr ⟨rfl, Int.le_refl _⟩)
    · rw [h]
      cases hd : dueB x r with
      | true =>
        refine ⟨x, by simp [better, hd], by simp, fun z hz' => ?_⟩
        rcases List.mem_append.1 hz' with h1 | h1
        · have h2 := dueB_false.1 (hz z h1)
          have h3 : ¬ (r.2.1 < x.2.1 ∨ (r.2.1 = x.2.1 ∧ r.2.2 ≤ x.2.2)) := fun h => by rw [dueB_false.2 h] at hd; cases hd
          exact dueB_false.2 (by omega)
        · simp at h1
          subst h1
          exact dueB_false.2 (.inr ⟨rfl, Int.le_refl _⟩)
      | false =>
        refine ⟨r, by simp [better, hd], by simp [hm], fun z hz' => ?_⟩
        rcases List.mem_append.1 hz' with h1 | h1
        · exact hz z h1
        · simp at h1
          subst h1
          exact hd
theorem mem_while {T : List RI} (ho : Ord (qL T)) {key : Int} {z : RI} : z ∈ T.takeWhile (fun r => decide (r.1 ≤ key)) ↔ z ∈ T ∧ z.1 ≤ key := by
  induction T with
  | nil => simp
  | cons y T ih =>
    obtain ⟨h1, h2⟩ := List.pairwise_cons.1 (show List.Pairwise _ ((y.1, y.2.2) :: qL T) from ho)
    rw [List.takeWhile_cons]
    by_cases hy : y.1 ≤ key
    · rw [if_pos (by simpa using hy), List.mem_cons, ih h2, List.mem_cons]
      constructor
      · rintro (rfl | ⟨h3, h4⟩)
        · exact ⟨.inl rfl, hy⟩
        · exact ⟨.inr h3, h4⟩
      · rintro ⟨rfl | h3, h4⟩
        · exact .inl rfl
        · exact .inr ⟨h3, h4⟩
    · rw [if_neg (by simpa using hy)]
      simp only [List.not_mem_nil, false_iff]
      rintro ⟨h3, h4⟩
      rcases List.mem_cons.1 h3 with rfl | h3
      · exact hy h4
      · have := h1 (z.1, z.2.2) (mem_qL.2 ⟨z, h3, rfl⟩)
        unfold befQ at this
        simp at this
        omega
/-- First: nobody may come, or one that may, and nobody that may is due ahead of it. -/
theorem first_spec {T : List RI} (ho : Ord (qL T)) (key : Int) : (firstT key T = none ∧ ∀ z ∈ T, key < z.1) ∨ ∃ r, firstT key T = some r ∧ r ∈ T ∧ r.1 ≤ key ∧ ∀ z ∈ T, z.1 ≤ key → dueB z r = false := by
  unfold firstT
  rcases bestO_spec (T.takeWhile (fun r => decide (r.1 ≤ key))) with ⟨h1, h2⟩ | ⟨r, h1, h2, h3⟩
  · refine .inl ⟨h2, fun z hz => ?_⟩
    rcases Int.lt_or_le key z.1 with h | h
    · exact h
    · have := (mem_while ho).2 ⟨hz, h⟩
      rw [h1] at this
      cases this
  · have h4 := (mem_while ho).1 h2
    exact .inr ⟨r, h1, h4.1, h4.2, fun z hz hk => h3 z ((mem_while ho).2 ⟨hz, hk⟩)⟩

/-- The first k keys and days, put in by their places. -/
def dsTo (l ds : List Int) : Nat → List RI
  | 0 => []
  | k + 1 => insT (dsTo l ds k) (l.getD k 0, ds.getD k 0, (k : Int))
theorem dsTo_mem {l ds : List Int} : ∀ {k : Nat} {z : RI}, z ∈ dsTo l ds k ↔ ∃ j : Nat, j < k ∧ z = (l.getD j 0, ds.getD j 0, (j : Int))
  | 0, z => by simp [dsTo]
  | k + 1, z => by
    rw [dsTo, mem_insT, dsTo_mem]
    constructor
    · rintro (rfl | ⟨j, h, rfl⟩)
      · exact ⟨k, by omega, rfl⟩
      · exact ⟨j, by omega, rfl⟩
    · rintro ⟨j, h, rfl⟩
      rcases Nat.lt_or_ge j k with h1 | h1
      · exact .inr ⟨j, h1, rfl⟩
      · obtain rfl : j = k := by omega
        exact .inl rfl
theorem dsTo_length (l ds : List Int) : ∀ k, (dsTo l ds k).length = k
  | 0 => rfl
  | k + 1 => by rw [dsTo, length_insT, dsTo_length l ds k]
theorem dsTo_new {l ds : List Int} {k : Nat} : ∀ z ∈ qL (dsTo l ds k), z.2 ≠ (k : Int) := by
  intro z hz
  obtain ⟨r, hr, rfl⟩ := mem_qL.1 hz
  obtain ⟨j, h, rfl⟩ := dsTo_mem.1 hr
  show (j : Int) ≠ k
  omega
theorem putT_ds {l ds : List Int} {k : Nat} {most : Int} (hm : (k : Int) < most) : putT most (dsTo l ds k) (l.getD k 0, ds.getD k 0, (k : Int)) = (0, dsTo l ds (k + 1)) := by
  unfold putT
  rw [keyV_no (id := ((l.getD k 0, ds.getD k 0, (k : Int)) : RI).2.2) dsTo_new, if_neg (by simp), dsTo_length, if_neg (by omega)]
  rfl
end Go.Proofs.Ytaodkfnbmpbcfaa
