/- fair: nobody gets far. -/
import Derived.Test.YtnfcapeajhegmaaGreatFk
namespace Go.Proofs.YtnfcapeajhegmaaGreat
open Go.RowKit

/-- All are within three Scales of the base, and somebody is at it. -/
structure Near (base : Int) (R : List RI) : Prop where
  ne : R ≠ []
  at0 : (minR R).1 = base
  le : ∀ r ∈ R, r.2.2 ≤ base + 698377680
theorem Near.ge {base : Int} {R : List RI} (h : Near base R) {r : RI} (hr : r ∈ R) : base ≤ r.2.2 := by
  have := minR_le hr
  have := h.at0
  omega
theorem Near.lag {base : Int} {R : List RI} (h : Near base R) {r : RI} (hr : r ∈ formL base R) : -698377680 ≤ r.2.2 ∧ r.2.2 ≤ 0 := by
  unfold formL at hr
  obtain ⟨q, hq, rfl⟩ := List.mem_map.1 hr
  have h1 := h.ge hq
  have h2 := h.le q hq
  simp only
  omega
theorem Near.lag0 {base : Int} {R : List RI} (h : Near base R) : ∃ j : Nat, ∃ r, (formL base R)[j]? = some r ∧ r.2.2 = 0 := by
  obtain ⟨q, hq, h1, _⟩ := minR_mem h.ne
  have hm : (q.1, q.2.1, base - q.2.2) ∈ formL base R := by unfold formL; exact List.mem_map.2 ⟨q, hq, rfl⟩
  obtain ⟨j, hj⟩ := List.mem_iff_getElem?.1 hm
  exact ⟨j, _, hj, by have := h.at0; simp only; omega⟩
/-- One more comes. -/
theorem near_enter {R : List RI} {id n : Int} (_h : R = [] ∨ Near 0 R) (hall : ∀ r ∈ R, r.2.2 = 0 ∧ r.1 < id) (hid : 0 ≤ id) (hid2 : id ≤ 1073741824) (h1 : 1 ≤ n) (h2 : n ≤ 20) (hl : R.length < 64) :
    enterM 0 R (id, n, 0) = (0, 0, R ++ [(id, n, 0)]) ∧ Near 0 (R ++ [(id, n, 0)]) ∧ ∀ r ∈ R ++ [(id, n, 0)], r.2.2 = 0 ∧ r.1 < id + 1 := by
  have hno : hasI R id = false := hasI_no.2 (fun r hr => by have := (hall r hr).2; omega)
  have hins : insR R (id, n, 0) = R ++ [(id, n, 0)] := insR_last (fun r hr => (hall r hr).2)
  have hall' : ∀ r ∈ R ++ [(id, n, 0)], r.2.2 = 0 ∧ r.1 < id + 1 := fun r hr => by
    rcases List.mem_append.1 hr with h | h
    · have := hall r h; omega
    · simp at h; subst h; exact ⟨rfl, by show id < id + 1; omega⟩
  have hne : R ++ [(id, n, 0)] ≠ [] := by simp
  have hmin : (minR (R ++ [(id, n, 0)])).1 = 0 := by
    obtain ⟨r, hr, h3, _⟩ := minR_mem hne
    rw [← h3]; exact (hall' r hr).1
  refine ⟨?_, ⟨hne, hmin, fun r hr => by have := hall' r hr; omega⟩, hall'⟩
  have hit : itemB (id, n, 0) = true := itemB_true.2 ⟨hid, hid2, ⟨h1, h2⟩, by simp only; omega, by simp only; omega⟩
  have hadd : addM 0 R (id, n, 0) = (0, R ++ [(id, n, 0)]) := by
    unfold addM
    rw [if_neg (show ¬ hasI R id = true by rw [hno]; decide), if_neg (show ¬ 64 ≤ R.length by omega)]
    simp only [Int.sub_zero]
    rw [hins]
  have he : enterM 0 R (id, n, 0) = putM 0 R (id, n, 0) := by
    unfold enterM
    rw [if_neg (show ¬ (1125899906842624 : Int) < 0 by decide)]
    rfl
  rw [he]
  unfold putM
  rw [hit, if_pos rfl, hadd, if_pos rfl]
  have hr : raiseM 0 (R ++ [(id, n, 0)]) = 0 := by
    unfold raiseM
    rw [if_neg hne, hmin]
    rfl
  simp only [hr]
/-- Who is picked is there, and not too far ahead. -/
theorem pick_near {base cur : Int} {R : List RI} (h : Near base R) : hasI R (pickC cur R) = true ∧ (getI R (pickC cur R)).2.2 ≤ base + 465585120 ∨ ¬ AscR R := by
  by_cases ha : AscR R
  · left
    have hR := h.ne
    obtain ⟨q, hq, h1, h2⟩ := minR_mem hR
    have hm : hasI R (minR R).2 = true ∧ (getI R (minR R).2).2.2 ≤ base + 465585120 := by
      have hg : getI R (minR R).2 = q := by rw [← h2]; exact getI_of ha hq
      refine ⟨hasI_iff.2 ⟨q, hq, h2⟩, ?_⟩
      rw [hg, h1, h.at0]
      omega
    unfold pickC
    rw [if_neg hR]
    by_cases hI : hasI R cur = true
    · rw [if_pos hI]
      by_cases hf : (minR R).1 < (getI R cur).2.2 - 465585120
      · rw [if_pos hf]; exact hm
      · rw [if_neg hf]
        exact ⟨hI, by have := h.at0; omega⟩
    · rw [if_neg hI]; exact hm
  · exact .inr ha
/-- One tick. -/
theorem near_charge {base cur b0 c0 : Int} {R : List RI} (h : Near base R) (hw : WfS b0 c0 R) (hb : base ≤ 1000000000000000) :
    ∃ b', chargeM base (pickC cur R) R = (pickC cur R, 0, b', chgI R (pickC cur R) ((getI R (pickC cur R)).2.2 + stepV (getI R (pickC cur R)).2.1)) ∧ Near b' (chgI R (pickC cur R) ((getI R (pickC cur R)).2.2 + stepV (getI R (pickC cur R)).2.1)) ∧ base ≤ b' ∧ b' ≤ base + 698377680 := by
  obtain ⟨hI, hv⟩ := (pick_near (cur := cur) h).resolve_right (fun hn => hn hw.asc)
  generalize pickC cur R = c at *
  obtain ⟨hr, he⟩ := getI_mem hI
  have heach := hw.each _ hr
  have hm1 : c ≠ -1 := by omega
  have hge := h.ge hr
  have hst := stepV_bd (getI R c).2.1
  obtain ⟨R', hR'⟩ : ∃ R', chgI R c ((getI R c).2.2 + stepV (getI R c).2.1) = R' := ⟨_, rfl⟩
  have hne : R' ≠ [] := fun e => by
    have := length_chg R c ((getI R c).2.2 + stepV (getI R c).2.1)
    rw [hR', e] at this
    simp at this
    exact h.ne (List.eq_nil_of_length_eq_zero (by omega))
  have hall : ∀ r ∈ R', base ≤ r.2.2 ∧ r.2.2 ≤ base + 698377680 := fun r hr => by
    rw [← hR'] at hr
    rcases mem_chg hr with ⟨z, hz, _, rfl⟩ | ⟨hz, _⟩
    · simp only; omega
    · exact ⟨h.ge hz, h.le r hz⟩
  obtain ⟨p, hp, hp1, _⟩ := minR_mem hne
  have hpb := hall p hp
  rw [hR']
  refine ⟨raiseM base R', ?_, ⟨hne, ?_, fun r hr => ?_⟩, raiseM_ge _ _, ?_⟩
  · unfold chargeM
    rw [if_neg hm1, if_neg (by omega), hR']
  · unfold raiseM; rw [if_neg hne]; omega
  · unfold raiseM; rw [if_neg hne]
    have := hall r hr; omega
  · unfold raiseM; rw [if_neg hne]; omega
end Go.Proofs.YtnfcapeajhegmaaGreat
