/- fair: what is owed may be, whatever is done. Plain theory. -/
import Derived.Test.YtnfcapeajhegmaaFl
namespace Go.Proofs.Ytnfcapeajhegmaa
open Go.RowKit

theorem befF_no {a b : RI} : befF a b = false ↔ ¬ (b.2.2 < a.2.2 ∨ (a.2.2 = b.2.2 ∧ a.1 < b.1)) := by
  rw [← befF_iff]; simp
theorem bestF_best : ∀ (l : List RI) (m : RI), ∀ y ∈ m :: l, befF y (bestF m l) = false
  | [], m, y, hy => by
    simp at hy
    subst hy
    rw [befF_no, bestF]
    omega
  | x :: xs, m, y, hy => by
    rw [bestF]
    by_cases h : befF x m = true
    · rw [if_pos h]
      have ih := bestF_best xs x
      have hx := ih x (by simp)
      simp at hy
      rcases hy with rfl | rfl | hy
      · rw [befF_no] at hx ⊢; rw [befF_iff] at h; omega
      · exact hx
      · exact ih y (by simp [hy])
    · rw [if_neg h]
      have ih := bestF_best xs m
      have hm := ih m (by simp)
      simp at hy h
      rcases hy with rfl | rfl | hy
      · exact hm
      · rw [befF_no] at hm h ⊢; omega
      · exact ih y (by simp [hy])
theorem bestF_mem : ∀ (l : List RI) (m : RI), bestF m l ∈ m :: l
  | [], m => by simp [bestF]
  | x :: xs, m => by
    rw [bestF]
    by_cases h : befF x m = true
    · rw [if_pos h]
      have := bestF_mem xs x
      simp at this ⊢
      exact .inr this
    · rw [if_neg h]
      have := bestF_mem xs m
      simp at this ⊢
      rcases this with h | h
      · exact .inl h
      · exact .inr (.inr h)
theorem frontV_best {l : List RI} {y : RI} (h : y ∈ l) : y.2.2 ≤ (frontV l).2.2 := by
  cases l with
  | nil => simp at h
  | cons x xs =>
    have := befF_no.1 (bestF_best xs x y h)
    show y.2.2 ≤ (bestF x xs).2.2
    omega
theorem frontV_mem {l : List RI} (h : l ≠ []) : frontV l ∈ l := by
  cases l with
  | nil => exact absurd rfl h
  | cons x xs => exact bestF_mem xs x
theorem asc_ascB : ∀ {l : List RI} {q : Int}, AscR l → (∀ r ∈ l, q < r.1 ∧ itemB r = true) → ascB q l = true
  | [], _, _, _ => rfl
  | x :: xs, q, h, hq => by
    obtain ⟨h1, h2⟩ := List.pairwise_cons.1 h
    rw [ascB, asc_ascB h2 (fun r hr => ⟨h1 r hr, (hq r (by simp [hr])).2⟩), (hq x (by simp)).2]
    simp [(hq x (by simp)).1]

/-- What is owed is within bounds. -/
def LagB (base : Int) (R : List RI) : Prop := ∀ r ∈ R, base - r.2.2 ≤ 1125899906842624 ∧ -1125899906842624 ≤ base - r.2.2
theorem has_form (base : Int) (R : List RI) (id : Int) : hasI (formL base R) id = hasI R id := has_map (f := fun r => (r.1, r.2.1, base - r.2.2)) (fun _ => rfl) id
theorem good_form {base cur : Int} {R : List RI} (hw : WfS base cur R) (hl : LagB base R) (ho : Low base R) : goodV cur (formL base R) = true := by
  unfold goodV
  simp only [Bool.and_eq_true, decide_eq_true_eq, Bool.or_eq_true]
  refine ⟨⟨⟨by rw [formL_length]; exact hw.len, asc_ascB (formL_asc hw.asc) (fun r hr => ?_)⟩, ?_⟩, ?_⟩
  · unfold formL at hr
    obtain ⟨q, hq, rfl⟩ := List.mem_map.1 hr
    have h1 := hw.each q hq
    have h2 := hl q hq
    refine ⟨by simp only; omega, itemB_true.2 ⟨h1.1, h1.2.1, ⟨h1.2.2.1, h1.2.2.2.1⟩, h2.2, h2.1⟩⟩
  · rw [hasL_hasI, has_form]; exact hw.cur
  · by_cases hR : R = []
    · subst hR; left; rfl
    · right
      obtain ⟨q, hq, h1, _⟩ := minR_mem hR
      have hm : (q.1, q.2.1, base - q.2.2) ∈ formL base R := by unfold formL; exact List.mem_map.2 ⟨q, hq, rfl⟩
      have := frontV_best hm
      have := ho hR
      simp only at *
      omega
theorem raise_lag {base : Int} {R : List RI} (h : LagB base R) : LagB (raiseM base R) R ∧ base ≤ raiseM base R ∧ raiseM base R ≤ base + 1125899906842624 := by
  unfold raiseM
  split
  · exact ⟨h, Int.le_refl _, by omega⟩
  · rename_i hR
    obtain ⟨q, hq, h1, _⟩ := minR_mem hR
    have h2 := h q hq
    refine ⟨fun r hr => ?_, by omega, by omega⟩
    have h3 := h r hr
    have h4 := minR_le hr
    omega
theorem LagB.del {base : Int} {R : List RI} (h : LagB base R) (id : Int) : LagB base (delI R id) := fun r hr => h r (mem_delI.1 hr).1
theorem LagB.wgt {base : Int} {R : List RI} (h : LagB base R) (id n : Int) : LagB base (wgtI R id n) := fun r hr => by
  rcases mem_wgt hr with ⟨q, hq, _, rfl⟩ | ⟨hr, _⟩
  · exact h q hq
  · exact h r hr
theorem minR_wgt (R : List RI) (id n : Int) : minR (wgtI R id n) = minR R := by unfold minR; rw [pL_wgt]
theorem wgt_nil {R : List RI} {id n : Int} (h : wgtI R id n ≠ []) : R ≠ [] := fun e => h (by subst e; rfl)
theorem Low.wgt {base : Int} {R : List RI} (h : Low base R) (id n : Int) : Low base (wgtI R id n) := fun hn => by rw [minR_wgt]; exact h (wgt_nil hn)

/-! What each call leaves -/
theorem enter_lag {base : Int} {R : List RI} (x : RI) (hl : LagB base R) (ho : Low base R) :
    LagB (enterM base R x).2.1 (enterM base R x).2.2 ∧ Low (enterM base R x).2.1 (enterM base R x).2.2 ∧ base ≤ (enterM base R x).2.1 ∧ (enterM base R x).2.1 ≤ base + 1125899906842624 := by
  have same : LagB base R ∧ Low base R ∧ base ≤ base ∧ base ≤ base + 1125899906842624 := ⟨hl, ho, Int.le_refl _, by omega⟩
  unfold enterM
  split
  · exact same
  · unfold putM
    split
    · rename_i hi
      rcases addM_cases base R (x.1, x.2.1, min x.2.2 698377680) with ⟨h1, h2⟩ | ⟨h1, h2, h3⟩
      · rw [if_neg h2]; exact same
      · rw [h3, if_pos rfl]
        simp only
        have hb := itemB_true.1 hi
        simp only at hb
        have hL : LagB base (insR R (x.1, x.2.1, base - min x.2.2 698377680)) := fun r hr => by
          rcases mem_insR.1 hr with rfl | hr
          · simp only; omega
          · exact hl r hr
        obtain ⟨h4, h5, h6⟩ := raise_lag hL
        exact ⟨h4, low_raise _ _, h5, h6⟩
    · exact same
theorem leave_lag {base cur : Int} {R : List RI} (id : Int) (hl : LagB base R) (ho : Low base R) :
    LagB (leaveM base cur R id).2.2.1 (leaveM base cur R id).2.2.2.2 ∧ Low (leaveM base cur R id).2.2.1 (leaveM base cur R id).2.2.2.2 ∧ base ≤ (leaveM base cur R id).2.2.1 ∧ (leaveM base cur R id).2.2.1 ≤ base + 1125899906842624 := by
  unfold leaveM
  split
  · simp only
    obtain ⟨h4, h5, h6⟩ := raise_lag (hl.del id)
    exact ⟨h4, low_raise _ _, h5, h6⟩
  · exact ⟨hl, ho, Int.le_refl _, by simp only; omega⟩
theorem weigh_lag {base : Int} {R : List RI} (id n : Int) (hl : LagB base R) (ho : Low base R) : LagB base (weighM R id n).2 ∧ Low base (weighM R id n).2 := by
  unfold weighM
  split
  · split
    · exact ⟨hl.wgt id n, ho.wgt id n⟩
    · exact ⟨hl, ho⟩
  · exact ⟨hl, ho⟩
theorem pick_low {base cur b0 c0 : Int} {R : List RI} (hw : WfS b0 c0 R) (ho : Low base R) : pickC cur R = -1 ∨ hasI R (pickC cur R) = true ∧ (getI R (pickC cur R)).2.2 ≤ base + 465585120 := by
  unfold pickC
  by_cases hR : R = []
  · rw [if_pos hR]; exact .inl rfl
  · rw [if_neg hR]
    have hlo := ho hR
    obtain ⟨q, hq, h1, h2⟩ := minR_mem hR
    have hm : hasI R (minR R).2 = true ∧ (getI R (minR R).2).2.2 ≤ base + 465585120 := by
      have hg : getI R (minR R).2 = q := by rw [← h2]; exact getI_of hw.asc hq
      exact ⟨hasI_iff.2 ⟨q, hq, h2⟩, by rw [hg]; omega⟩
    by_cases hI : hasI R cur = true
    · rw [if_pos hI]
      by_cases hf : (minR R).1 < (getI R cur).2.2 - 465585120
      · rw [if_pos hf]; exact .inr hm
      · rw [if_neg hf]; exact .inr ⟨hI, by omega⟩
    · rw [if_neg hI]; exact .inr hm
theorem charge_lag {base cur : Int} {R : List RI} (hw : WfS base (pickC cur R) R) (hl : LagB base R) (ho : Low base R) :
    LagB (chargeM base (pickC cur R) R).2.2.1 (chargeM base (pickC cur R) R).2.2.2 ∧ Low (chargeM base (pickC cur R) R).2.2.1 (chargeM base (pickC cur R) R).2.2.2 ∧ base ≤ (chargeM base (pickC cur R) R).2.2.1 ∧ (chargeM base (pickC cur R) R).2.2.1 ≤ base + 1125899906842624 := by
  have same : LagB base R ∧ Low base R ∧ base ≤ base ∧ base ≤ base + 1125899906842624 := ⟨hl, ho, Int.le_refl _, by omega⟩
  have hp := pick_low (cur := cur) hw ho
  generalize pickC cur R = c at *
  unfold chargeM
  split
  · exact same
  · rename_i hc
    split
    · exact same
    · simp only
      obtain ⟨hI, hv⟩ := hp.resolve_left hc
      obtain ⟨hr, _⟩ := getI_mem hI
      have hst := stepV_bd (getI R c).2.1
      have hq2 := hl _ hr
      have hL : LagB base (chgI R c ((getI R c).2.2 + stepV (getI R c).2.1)) := fun r hr => by
        rcases mem_chg hr with ⟨z, hz, _, rfl⟩ | ⟨hr, _⟩
        · simp only; omega
        · exact hl r hr
      obtain ⟨h4, h5, h6⟩ := raise_lag hL
      exact ⟨h4, low_raise _ _, h5, h6⟩
theorem seed_lag {base f0 : Int} {l : List RI} (h : goodV f0 l = true) : LagB base (seedR base l) ∧ Low base (seedR base l) := by
  have hg := goodV_of h
  refine ⟨fun r hr => ?_, fun hn => ?_⟩
  · unfold seedR at hr
    obtain ⟨q, hq, rfl⟩ := List.mem_map.1 hr
    have := itemB_true.1 (hg.each q hq)
    simp only; omega
  · have hl : l ≠ [] := fun e => hn (by subst e; rfl)
    have hf : 0 ≤ (frontV l).2.2 := by
      unfold goodV at h
      simp only [Bool.and_eq_true, decide_eq_true_eq, Bool.or_eq_true] at h
      rcases h.2 with h1 | h1
      · cases l with
        | nil => exact absurd rfl hl
        | cons x xs => simp [someL] at h1
      · exact h1
    have hm := frontV_mem hl
    have : ((frontV l).1, (frontV l).2.1, base - (frontV l).2.2) ∈ seedR base l := by unfold seedR; exact List.mem_map.2 ⟨_, hm, rfl⟩
    have := minR_le this
    simp only at this
    omega
end Go.Proofs.Ytnfcapeajhegmaa
