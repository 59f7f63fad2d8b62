/- stride: nobody gets far. -/
import Derived.Test.YtnfcapeajhegmaaGreatSk
namespace Go.Proofs.YtnfcapeajhegmaaGreat
open Go.RowKit

/-- All are within a Scale of the base, and somebody is at it. -/
structure Near (base : Int) (R : List RI) : Prop where
  ne : R ≠ []
  at0 : (minR R).1 = base
  le : ∀ r ∈ R, r.2.2 ≤ base + 232792560
theorem Near.ge {base : Int} {R : List RI} (h : Near base R) {r : RI} (hr : r ∈ R) : base ≤ r.2.2 := by
  have := minR_le hr
  have := h.at0
  omega
theorem Near.lag {base : Int} {R : List RI} (h : Near base R) {r : RI} (hr : r ∈ formL base R) : -232792560 ≤ r.2.2 ∧ r.2.2 ≤ 0 := by
  unfold formL at hr
  obtain ⟨q, hq, rfl⟩ := List.mem_map.1 hr
  have h1 := h.ge hq
  have h2 := h.le q hq
  simp only
  omega
theorem Near.lag0 {base : Int} {R : List RI} (h : Near base R) : ∃ j : Nat, ∃ r, (formL base R)[j]? = some r ∧ r.2.2 = 0 := by
  obtain ⟨q, hq, h1, _⟩ := minR_mem h.ne
  have hm : (q.1, q.2.1, base - q.2.2) ∈ formL base R := by unfold formL; exact List.mem_map.2 ⟨q, hq, rfl⟩
  obtain ⟨j, hj⟩ := List.mem_iff_getElem?.1 hm
  exact ⟨j, _, hj, by have := h.at0; simp only; omega⟩
/-- One more comes. -/
theorem near_enter {R : List RI} {id n : Int} (_h : R = [] ∨ Near 0 R) (hall : ∀ r ∈ R, r.2.2 = 0 ∧ r.1 < id) (hid : 0 ≤ id) (hid2 : id ≤ 1073741824) (h1 : 1 ≤ n) (h2 : n ≤ 20) (hl : R.length < 64) :
    enterM 0 R (id, n, 0) = (0, 0, R ++ [(id, n, 0)]) ∧ Near 0 (R ++ [(id, n, 0)]) ∧ ∀ r ∈ R ++ [(id, n, 0)], r.2.2 = 0 ∧ r.1 < id + 1 := by
  have hno : hasI R id = false := hasI_no.2 (fun r hr => by have := (hall r hr).2; omega)
  have hins : insR R (id, n, 0) = R ++ [(id, n, 0)] := insR_last (fun r hr => (hall r hr).2)
  have hall' : ∀ r ∈ R ++ [(id, n, 0)], r.2.2 = 0 ∧ r.1 < id + 1 := fun r hr => by
    rcases List.mem_append.1 hr with h | h
    · have := hall r h; omega
    · simp at h; subst h; exact ⟨rfl, by show id < id + 1; omega⟩
  have hne : R ++ [(id, n, 0)] ≠ [] := by simp
  have hmin : (minR (R ++ [(id, n, 0)])).1 = 0 := by
    obtain ⟨r, hr, h3, _⟩ := minR_mem hne
    rw [← h3]; exact (hall' r hr).1
  refine ⟨?_, ⟨hne, hmin, fun r hr => by have := hall' r hr; omega⟩, hall'⟩
  have hit : itemB (id, n, 0) = true := itemB_true.2 ⟨hid, hid2, ⟨h1, h2⟩, by simp only; omega, by simp only; omega⟩
  have hadd : addM 0 R (id, n, 0) = (0, R ++ [(id, n, 0)]) := by
    unfold addM
    rw [if_neg (show ¬ hasI R id = true by rw [hno]; decide), if_neg (show ¬ 64 ≤ R.length by omega)]
    simp only [Int.sub_zero]
    rw [hins]
  have he : enterM 0 R (id, n, 0) = putM 0 R (id, n, 0) := by
    unfold enterM
    rw [if_neg (show ¬ (1125899906842624 : Int) < 0 by decide)]
    rfl
  rw [he]
  unfold putM
  rw [hit, if_pos rfl, hadd, if_pos rfl]
  have hr : raiseM 0 (R ++ [(id, n, 0)]) = 0 := by
    unfold raiseM
    rw [if_neg hne, hmin]
    rfl
  simp only [hr]
/-- One tick. -/
theorem near_charge {base : Int} {R : List RI} (h : Near base R) (ha : AscR R) (hb : base ≤ 1000000000000000) :
    ∃ b', chargeM base (minR R).2 R = ((minR R).2, 0, b', chgI R (minR R).2 ((getI R (minR R).2).2.2 + stepV (getI R (minR R).2).2.1)) ∧ Near b' (chgI R (minR R).2 ((getI R (minR R).2).2.2 + stepV (getI R (minR R).2).2.1)) ∧ base ≤ b' ∧ b' ≤ base + 232792560 ∨ (minR R).2 = -1 := by
  by_cases hm1 : (minR R).2 = -1
  · exact ⟨0, .inr hm1⟩
  obtain ⟨q, hq, h1, h2⟩ := minR_mem h.ne
  have hg : getI R (minR R).2 = q := by rw [← h2]; exact getI_of ha hq
  have hv : q.2.2 = base := by rw [h1]; exact h.at0
  have hst := stepV_bd q.2.1
  rw [hg]
  obtain ⟨R', hR'⟩ : ∃ R', chgI R (minR R).2 (q.2.2 + stepV q.2.1) = R' := ⟨_, rfl⟩
  have hne : R' ≠ [] := fun e => by
    have := length_chg R (minR R).2 (q.2.2 + stepV q.2.1)
    rw [hR', e] at this
    have h3 := List.length_pos_iff.2 h.ne
    simp at this
    exact h.ne (List.eq_nil_of_length_eq_zero (by omega))
  have hall : ∀ r ∈ R', base ≤ r.2.2 ∧ r.2.2 ≤ base + 232792560 := fun r hr => by
    rw [← hR'] at hr
    rcases mem_chg hr with ⟨z, hz, _, rfl⟩ | ⟨hz, _⟩
    · simp only; omega
    · exact ⟨h.ge hz, h.le r hz⟩
  obtain ⟨p, hp, hp1, _⟩ := minR_mem hne
  have hpb := hall p hp
  rw [hR']
  refine ⟨raiseM base R', .inl ⟨?_, ⟨hne, ?_, fun r hr => ?_⟩, raiseM_ge _ _, ?_⟩⟩
  · unfold chargeM
    rw [if_neg hm1, hg, if_neg (by omega), hR']
  · unfold raiseM; rw [if_neg hne]; omega
  · unfold raiseM; rw [if_neg hne]
    have := hall r hr; omega
  · unfold raiseM; rw [if_neg hne]; omega
end Go.Proofs.YtnfcapeajhegmaaGreat
