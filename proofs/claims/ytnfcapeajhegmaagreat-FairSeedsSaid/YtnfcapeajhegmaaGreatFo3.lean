/- fair: what is owed may be, whatever is done. Plain theory. fair: how far the points get; two queues that differ in their base. Plain theory, and two queues side by side. fair: two queues that differ in their base, call by call. -/
import Derived.Test.YtnfcapeajhegmaaGreatFl
namespace Go.Proofs.YtnfcapeajhegmaaGreat
open Go.RowKit

theorem befF_no {a b : RI} : befF a b = false ↔ ¬ (b.2.2 < a.2.2 ∨ (a.2.2 = b.2.2 ∧ a.1 < b.1)) := by
  rw [← befF_iff]; simp
theorem bestF_best : ∀ (l : List RI) (m : RI), ∀ y ∈ m :: l, befF y (bestF m l) = false
  | [], m, y, hy => by
    simp at hy
    subst hy
    rw [befF_no, bestF]
    omega
  | x :: xs, m, y, hy => by
    rw [bestF]
    by_cases h : befF x m = true
    · rw [if_pos h]
      have ih := bestF_best xs x
      have hx := ih x (by simp)
      simp at hy
      rcases hy with rfl | rfl | hy
      · rw [befF_no] at hx ⊢; rw [befF_iff] at h; omega
      · exact hx
      · exact ih y (by simp [hy])
    · rw [if_neg h]
      have ih := bestF_best xs m
      have hm := ih m (by simp)
      simp at hy h
      rcases hy with rfl | rfl | hy
      · exact hm
      · rw [befF_no] at hm h ⊢; omega
      · exact ih y (by simp [hy])
theorem bestF_mem : ∀ (l : List RI) (m : RI), bestF m l ∈ m :: l
  | [], m => by simp [bestF]
  | x :: xs, m => by
    rw [bestF]
    by_cases h : befF x m = true
    · rw [if_pos h]
      have := bestF_mem xs x
      simp at this ⊢
      exact .inr this
    · rw [if_neg h]
      have := bestF_mem xs m
      simp at this ⊢
      rcases this with h | h
      · exact .inl h
      · exact .inr (.inr h)
theorem frontV_best {l : List RI} {y : RI} (h : y ∈ l) : y.2.2 ≤ (frontV l).2.2 := by
  cases l with
  | nil => simp at h
  | cons x xs =>
    have := befF_no.1 (bestF_best xs x y h)
    show y.2.2 ≤ (bestF x xs).2.2
    omega
theorem frontV_mem {l : List RI} (h : l ≠ []) : frontV l ∈ l := by
  cases l with
  | nil => exact absurd rfl h
  | cons x xs => exact bestF_mem xs x
theorem asc_ascB : ∀ {l : List RI} {q : Int}, AscR l → (∀ r ∈ l, q < r.1 ∧ itemB r = true) → ascB q l = true
  | [], _, _, _ => rfl
  | x :: xs, q, h, hq => by
    obtain ⟨h1, h2⟩ := List.pairwise_cons.1 h
    rw [ascB, asc_ascB h2 (fun r hr => ⟨h1 r hr, (hq r (by simp [hr])).2⟩), (hq x (by simp)).2]
    simp [(hq x (by simp)).1]

/-- What is owed is within bounds. -/
def LagB (base : Int) (R : List RI) : Prop := ∀ r ∈ R, base - r.2.2 ≤ 1125899906842624 ∧ -1125899906842624 ≤ base - r.2.2
theorem has_form (base : Int) (R : List RI) (id : Int) : hasI (formL base R) id = hasI R id := has_map (f := fun r => (r.1, r.2.1, base - r.2.2)) (fun _ => rfl) id
theorem good_form {base cur : Int} {R : List RI} (hw : WfS base cur R) (hl : LagB base R) (ho : Low base R) : goodV cur (formL base R) = true := by
  unfold goodV
  simp only [Bool.and_eq_true, decide_eq_true_eq, Bool.or_eq_true]
  refine ⟨⟨⟨by rw [formL_length]; exact hw.len, asc_ascB (formL_asc hw.asc) (fun r hr => ?_)⟩, ?_⟩, ?_⟩
  · unfold formL at hr
    obtain ⟨q, hq, rfl⟩ := List.mem_map.1 hr
    have h1 := hw.each q hq
    have h2 := hl q hq
    refine ⟨by simp only; omega, itemB_true.2 ⟨h1.1, h1.2.1, ⟨h1.2.2.1, h1.2.2.2.1⟩, h2.2, h2.1⟩⟩
  · rw [hasL_hasI, has_form]; exact hw.cur
  · by_cases hR : R = []
    · subst hR; left; rfl
    · right
      obtain ⟨q, hq, h1, _⟩ := minR_mem hR
      have hm : (q.1, q.2.1, base - q.2.2) ∈ formL base R := by unfold formL; exact List.mem_map.2 ⟨q, hq, rfl⟩
      have := frontV_best hm
      have := ho hR
      simp only at *
      omega
theorem raise_lag {base : Int} {R : List RI} (h : LagB base R) : LagB (raiseM base R) R ∧ base ≤ raiseM base R ∧ raiseM base R ≤ base + 1125899906842624 := by
  unfold raiseM
  split
  · exact ⟨h, Int.le_refl _, by omega⟩
  · rename_i hR
    obtain ⟨q, hq, h1, _⟩ := minR_mem hR
    have h2 := h q hq
    refine ⟨fun r hr => ?_, by omega, by omega⟩
    have h3 := h r hr
    have h4 := minR_le hr
    omega
theorem LagB.del {base : Int} {R : List RI} (h : LagB base R) (id : Int) : LagB base (delI R id) := fun r hr => h r (mem_delI.1 hr).1
theorem LagB.wgt {base : Int} {R : List RI} (h : LagB base R) (id n : Int) : LagB base (wgtI R id n) := fun r hr => by
  rcases mem_wgt hr with ⟨q, hq, _, rfl⟩ | ⟨hr, _⟩
  · exact h q hq
  · exact h r hr
theorem minR_wgt (R : List RI) (id n : Int) : minR (wgtI R id n) = minR R := by unfold minR; rw [pL_wgt]
theorem wgt_nil {R : List RI} {id n : Int} (h : wgtI R id n ≠ []) : R ≠ [] := fun e => h (by subst e; rfl)
theorem Low.wgt {base : Int} {R : List RI} (h : Low base R) (id n : Int) : Low base (wgtI R id n) := fun hn => by rw [minR_wgt]; exact h (wgt_nil hn)

/-! What each call leaves -/
theorem enter_lag {base : Int} {R : List RI} (x : RI) (hl : LagB base R) (ho : Low base R) :
    LagB (enterM base R x).2.1 (enterM base R x).2.2 ∧ Low (enterM base R x).2.1 (enterM base R x).2.2 ∧ base ≤ (enterM base R x).2.1 ∧ (enterM base R x).2.1 ≤ base + 1125899906842624 := by
  have same : LagB base R ∧ Low base R ∧ base ≤ base ∧ base ≤ base + 1125899906842624 := ⟨hl, ho, Int.le_refl _, by omega⟩
  unfold enterM
  split
  · exact same
  · unfold putM
    split
    · rename_i hi
      rcases addM_cases base R (x.1, x.2.1, min x.2.2 698377680) with ⟨h1, h2⟩ | ⟨h1, h2, h3⟩
      · rw [if_neg h2]; exact same
      · rw [h3, if_pos rfl]
        simp only
        have hb := itemB_true.1 hi
        simp only at hb
        have hL : LagB base (insR R (x.1, x.2.1, base - min x.2.2 698377680)) := fun r hr => by
          rcases mem_insR.1 hr with rfl | hr
          · simp only; omega
          · exact hl r hr
        obtain ⟨h4, h5, h6⟩ := raise_lag hL
        exact ⟨h4, low_raise _ _, h5, h6⟩
    · exact same
theorem leave_lag {base cur : Int} {R : List RI} (id : Int) (hl : LagB base R) (ho : Low base R) :
    LagB (leaveM base cur R id).2.2.1 (leaveM base cur R id).2.2.2.2 ∧ Low (leaveM base cur R id).2.2.1 (leaveM base cur R id).2.2.2.2 ∧ base ≤ (leaveM base cur R id).2.2.1 ∧ (leaveM base cur R id).2.2.1 ≤ base + 1125899906842624 := by
  unfold leaveM
  split
  · simp only
    obtain ⟨h4, h5, h6⟩ := raise_lag (hl.del id)
    exact ⟨h4, low_raise _ _, h5, h6⟩
  · exact ⟨hl, ho, Int.le_refl _, by simp only; omega⟩
theorem weigh_lag {base : Int} {R : List RI} (id n : Int) (hl : LagB base R) (ho : Low base R) : LagB base (weighM R id n).2 ∧ Low base (weighM R id n).2 := by
  unfold weighM
  split
  · split
    · exact ⟨hl.wgt id n, ho.wgt id n⟩
    · exact ⟨hl, ho⟩
  · exact ⟨hl, ho⟩
theorem pick_low {base cur b0 c0 : Int} {R : List RI} (hw : WfS b0 c0 R) (ho : Low base R) : pickC cur R = -1 ∨ hasI R (pickC cur R) = true ∧ (getI R (pickC cur R)).2.2 ≤ base + 465585120 := by
  unfold pickC
  by_cases hR : R = []
  · rw [if_pos hR]; exact .inl rfl
  · rw [if_neg hR]
    have hlo := ho hR
    obtain ⟨q, hq, h1, h2⟩ := minR_mem hR
    have hm : hasI R (minR R).2 = true ∧ (getI R (minR R).2).2.2 ≤ base + 465585120 := by
      have hg : getI R (minR R).2 = q := by rw [← h2]; exact getI_of hw.asc hq
      exact ⟨hasI_iff.2 ⟨q, hq, h2⟩, by rw [hg]; omega⟩
    by_cases hI : hasI R cur = true
    · rw [if_pos hI]
      by_cases hf : (minR R).1 < (getI R cur).2.2 - 465585120
      · rw [if_pos hf]; exact .inr hm
      · rw [if_neg hf]; exact .inr ⟨hI, by omega⟩
    · rw [if_neg hI]; exact .inr hm
theorem charge_lag {base cur : Int} {R : List RI} (hw : WfS base (pickC cur R) R) (hl : LagB base R) (ho : Low base R) :
    LagB (chargeM base (pickC cur R) R).2.2.1 (chargeM base (pickC cur R) R).2.2.2 ∧ Low (chargeM base (pickC cur R) R).2.2.1 (chargeM base (pickC cur R) R).2.2.2 ∧ base ≤ (chargeM base (pickC cur R) R).2.2.1 ∧ (chargeM base (pickC cur R) R).2.2.1 ≤ base + 1125899906842624 := by
  have same : LagB base R ∧ Low base R ∧ base ≤ base ∧ base ≤ base + 1125899906842624 := ⟨hl, ho, Int.le_refl _, by omega⟩
  have hp := pick_low (cur := cur) hw ho
  generalize pickC cur R = c at *
  unfold chargeM
  split
  · exact same
  · rename_i hc
    split
    · exact same
    · simp only
      obtain ⟨hI, hv⟩ := hp.resolve_left hc
      obtain ⟨hr, _⟩ := getI_mem hI
      have hst := stepV_bd (getI R c).2.1
      have hq2 := hl _ hr
      have hL : LagB base (chgI R c ((getI R c).2.2 + stepV (getI R c).2.1)) := fun r hr => by
        rcases mem_chg hr with ⟨z, hz, _, rfl⟩ | ⟨hr, _⟩
        · simp only; omega
        · exact hl r hr
      obtain ⟨h4, h5, h6⟩ := raise_lag hL
      exact ⟨h4, low_raise _ _, h5, h6⟩
theorem seed_lag {base f0 : Int} {l : List RI} (h : goodV f0 l = true) : LagB base (seedR base l) ∧ Low base (seedR base l) := by
  have hg := goodV_of h
  refine ⟨fun r hr => ?_, fun hn => ?_⟩
  · unfold seedR at hr
    obtain ⟨q, hq, rfl⟩ := List.mem_map.1 hr
    have := itemB_true.1 (hg.each q hq)
    simp only; omega
  · have hl : l ≠ [] := fun e => hn (by subst e; rfl)
    have hf : 0 ≤ (frontV l).2.2 := by
      unfold goodV at h
      simp only [Bool.and_eq_true, decide_eq_true_eq, Bool.or_eq_true] at h
      rcases h.2 with h1 | h1
      · cases l with
        | nil => exact absurd rfl hl
        | cons x xs => simp [someL] at h1
      · exact h1
    have hm := frontV_mem hl
    have : ((frontV l).1, (frontV l).2.1, base - (frontV l).2.2) ∈ seedR base l := by unfold seedR; exact List.mem_map.2 ⟨_, hm, rfl⟩
    have := minR_le this
    simp only at this
    omega
end Go.Proofs.YtnfcapeajhegmaaGreat

namespace Go.Proofs.YtnfcapeajhegmaaGreat
open Go.RowKit

/-! How far -/
structure Up (base : Int) (R : List RI) (k : Nat) : Prop where
  lo : -1152921504606846976 ≤ base
  hi : base ≤ 1152921504606846976 + 1125899906842624 * ((k + 1 : Nat) : Int)
  each : ∀ r ∈ R, r.2.2 ≤ 1152921504606846976 + 1125899906842624 * ((k + 1 : Nat) : Int)
theorem Up.more {base : Int} {R : List RI} {k : Nat} (h : Up base R k) : Up base R (k + 1) :=
  ⟨h.lo, by have := h.hi; omega, fun r hr => by have := h.each r hr; omega⟩
theorem Up.raise {base : Int} {R : List RI} {k : Nat} (h : Up base R k) : Up (raiseM base R) R k := by
  have h1 := raiseM_ge base R
  refine ⟨by have := h.lo; omega, ?_, h.each⟩
  unfold raiseM
  split
  · exact h.hi
  · rename_i hR
    obtain ⟨q, hq, h2, _⟩ := minR_mem hR
    have := h.each q hq
    have := h.hi
    omega
theorem put_up {base : Int} {R : List RI} {k : Nat} (x : RI) (h : Up base R k) : Up (putM base R x).2.1 (putM base R x).2.2 (k + 1) := by
  unfold putM
  split
  · rename_i hi
    rcases addM_cases base R x with ⟨h1, h2⟩ | ⟨h1, h2, h3⟩
    · rw [if_neg h2]; exact h.more
    · rw [h3, if_pos rfl]
      have hb := itemB_true.1 hi
      refine Up.raise ⟨h.lo, by have := h.hi; omega, fun r hr => ?_⟩
      rcases mem_insR.1 hr with rfl | hr
      · have := h.hi; simp only; omega
      · have := h.each r hr; omega
  · exact h.more
theorem enter_up {base : Int} {R : List RI} {k : Nat} (x : RI) (h : Up base R k) : Up (enterM base R x).2.1 (enterM base R x).2.2 (k + 1) := by
  unfold enterM
  split
  · exact h.more
  · exact put_up _ h
theorem leave_up {base cur : Int} {R : List RI} {k : Nat} (id : Int) (h : Up base R k) : Up (leaveM base cur R id).2.2.1 (leaveM base cur R id).2.2.2.2 (k + 1) := by
  unfold leaveM
  split
  · exact (Up.raise (R := delI R id) ⟨h.lo, h.hi, fun r hr => h.each r (mem_delI.1 hr).1⟩).more
  · exact h.more
theorem weigh_up {base : Int} {R : List RI} {k : Nat} (id n : Int) (h : Up base R k) : Up base (weighM R id n).2 (k + 1) := by
  unfold weighM
  split
  · split
    · refine Up.more ⟨h.lo, h.hi, fun r hr => ?_⟩
      rcases mem_wgt hr with ⟨q, hq, _, rfl⟩ | ⟨hr, _⟩
      · exact h.each q hq
      · exact h.each r hr
    · exact h.more
  · exact h.more
theorem charge_up {base cur : Int} {R : List RI} {k : Nat} (hw : WfS base cur R) (h : Up base R k) : Up (chargeM base cur R).2.2.1 (chargeM base cur R).2.2.2 (k + 1) := by
  unfold chargeM
  split
  · exact h.more
  · split
    · exact h.more
    · rename_i hc _
      have hst := stepV_bd (getI R cur).2.1
      have hI : hasI R cur = true := by rcases hw.cur with h1 | h1; exact absurd h1 hc; exact h1
      have hm := h.each _ (getI_mem hI).1
      refine Up.raise ⟨h.lo, by have := h.hi; omega, fun r hr => ?_⟩
      rcases mem_chg hr with ⟨q, hq, _, rfl⟩ | ⟨hr, _⟩
      · simp only; omega
      · have := h.each r hr; omega
theorem seed_up {base f0 : Int} {l : List RI} (h : goodV f0 l = true) (h1 : -1152921504606846976 ≤ base) (h2 : base ≤ 1152921504606846976) : Up base (seedR base l) 0 := by
  have hg := goodV_of h
  refine ⟨h1, by omega, fun r hr => ?_⟩
  unfold seedR at hr
  obtain ⟨q, hq, rfl⟩ := List.mem_map.1 hr
  have := itemB_true.1 (hg.each q hq)
  simp only; omega

/-! Moved by d -/
def mvI (d : Int) (r : RI) : RI := (r.1, r.2.1, r.2.2 + d)
def shR (d : Int) (R : List RI) : List RI := R.map (mvI d)
theorem sh_nil {d : Int} {R : List RI} : shR d R = [] ↔ R = [] := by unfold shR; simp
theorem sh_has (d : Int) (R : List RI) (id : Int) : hasI (shR d R) id = hasI R id := has_map (f := mvI d) (fun _ => rfl) id
theorem sh_len (d : Int) (R : List RI) : (shR d R).length = R.length := by unfold shR; simp
theorem sh_asc {d : Int} {R : List RI} (h : AscR R) : AscR (shR d R) := asc_map (f := mvI d) h (fun _ => rfl)
theorem sh_get {d : Int} {R : List RI} (h : AscR R) {id : Int} (hi : hasI R id = true) : getI (shR d R) id = mvI d (getI R id) := by
  obtain ⟨h1, h2⟩ := getI_mem hi
  have hm : mvI d (getI R id) ∈ shR d R := by unfold shR; exact List.mem_map.2 ⟨_, h1, rfl⟩
  have := getI_of (sh_asc h) hm
  rw [show (mvI d (getI R id)).1 = id from h2] at this
  exact this
theorem sh_ins (d : Int) (R : List RI) (x : RI) : insR (shR d R) (mvI d x) = shR d (insR R x) := by
  induction R with
  | nil => rfl
  | cons y ys ih =>
    show insR (mvI d y :: shR d ys) (mvI d x) = shR d (insR (y :: ys) x)
    unfold insR
    by_cases h : y.1 < x.1
    · rw [if_pos (show (mvI d y).1 < (mvI d x).1 from h), if_pos h, ih]; rfl
    · rw [if_neg (show ¬ (mvI d y).1 < (mvI d x).1 from h), if_neg h]; rfl
theorem sh_del (d : Int) (R : List RI) (id : Int) : delI (shR d R) id = shR d (delI R id) := by
  unfold delI shR
  rw [List.filter_map]
  rfl
theorem sh_wgt (d : Int) (R : List RI) (id n : Int) : wgtI (shR d R) id n = shR d (wgtI R id n) := by
  unfold wgtI shR
  rw [List.map_map, List.map_map]
  refine List.map_congr_left (fun r _ => ?_)
  simp only [Function.comp, mvI]
  by_cases h : r.1 = id <;> simp [h]
theorem sh_chg (d : Int) (R : List RI) (id v : Int) : chgI (shR d R) id (v + d) = shR d (chgI R id v) := by
  unfold chgI shR
  rw [List.map_map, List.map_map]
  refine List.map_congr_left (fun r _ => ?_)
  simp only [Function.comp, mvI]
  by_cases h : r.1 = id <;> simp [h]
theorem sh_min {d : Int} {R : List RI} (h : R ≠ []) : minR (shR d R) = ((minR R).1 + d, (minR R).2) := by
  obtain ⟨q, hq, h1, h2⟩ := minR_mem h
  refine minR_eq ⟨mvI d q, by unfold shR; exact List.mem_map.2 ⟨q, hq, rfl⟩, by show q.2.2 + d = _; rw [h1], h2⟩ (fun r hr => ?_)
  unfold shR at hr
  obtain ⟨z, hz, rfl⟩ := List.mem_map.1 hr
  have := minR_le hz
  show (minR R).1 + d < z.2.2 + d ∨ ((minR R).1 + d = z.2.2 + d ∧ (minR R).2 ≤ z.1)
  omega
theorem sh_raise (d base : Int) (R : List RI) : raiseM (base + d) (shR d R) = raiseM base R + d := by
  unfold raiseM
  by_cases h : R = []
  · rw [if_pos h, if_pos (sh_nil.2 h)]
  · rw [if_neg h, if_neg (fun e => h (sh_nil.1 e)), sh_min h]
    simp only
    omega
theorem sh_form (d base : Int) (R : List RI) : formL (base + d) (shR d R) = formL base R := by
  unfold formL shR
  rw [List.map_map]
  refine List.map_congr_left (fun r _ => ?_)
  simp only [Function.comp, mvI]
  congr 2
  omega
theorem sh_add (d base : Int) (R : List RI) (x : RI) : addM (base + d) (shR d R) x = ((addM base R x).1, shR d (addM base R x).2) := by
  unfold addM
  rw [sh_has, sh_len]
  split
  · rfl
  · split
    · rfl
    · have e : ((x.1, x.2.1, base + d - x.2.2) : RI) = mvI d (x.1, x.2.1, base - x.2.2) := by unfold mvI; simp only; congr 2; omega
      rw [e, sh_ins]
theorem sh_put (d base : Int) (R : List RI) (x : RI) : putM (base + d) (shR d R) x = ((putM base R x).1, (putM base R x).2.1 + d, shR d (putM base R x).2.2) := by
  unfold putM
  rw [sh_add]
  split
  · simp only
    split
    · rw [sh_raise]
    · rfl
  · rfl
theorem sh_enter (d base : Int) (R : List RI) (x : RI) : enterM (base + d) (shR d R) x = ((enterM base R x).1, (enterM base R x).2.1 + d, shR d (enterM base R x).2.2) := by
  unfold enterM
  split
  · rfl
  · exact sh_put d base R _
theorem sh_leave {d base cur : Int} {R : List RI} (h : AscR R) (id : Int) : leaveM (base + d) cur (shR d R) id = ((leaveM base cur R id).1, (leaveM base cur R id).2.1, (leaveM base cur R id).2.2.1 + d, (leaveM base cur R id).2.2.2.1, shR d (leaveM base cur R id).2.2.2.2) := by
  unfold leaveM
  rw [sh_has]
  split
  · rename_i hi
    rw [sh_get h hi, sh_del, sh_raise]
    have e : base + d - (mvI d (getI R id)).2.2 = base - (getI R id).2.2 := by show base + d - ((getI R id).2.2 + d) = _; omega
    rw [e]
  · rfl
theorem sh_weigh (d : Int) (R : List RI) (id n : Int) : weighM (shR d R) id n = ((weighM R id n).1, shR d (weighM R id n).2) := by
  unfold weighM
  rw [sh_has, sh_wgt]
  split
  · split <;> rfl
  · rfl
theorem sh_charge {d base cur : Int} {R : List RI} {k : Nat} (hw : WfS base cur R) (h1 : Up base R k) (h2 : Up (base + d) (shR d R) k) (hk : k ≤ 900) :
    chargeM (base + d) cur (shR d R) = ((chargeM base cur R).1, (chargeM base cur R).2.1, (chargeM base cur R).2.2.1 + d, shR d (chargeM base cur R).2.2.2) := by
  unfold chargeM
  split
  · rfl
  · rename_i hc
    have hI : hasI R cur = true := by rcases hw.cur with h1 | h1; exact absurd h1 hc; exact h1
    rw [sh_get hw.asc hI]
    have hm := (getI_mem hI).1
    have hm2 : mvI d (getI R cur) ∈ shR d R := by unfold shR; exact List.mem_map.2 ⟨_, hm, rfl⟩
    have e1 := h1.each _ hm
    have e2 := h2.each _ hm2
    have hst := stepV_bd (getI R cur).2.1
    have e3 : (mvI d (getI R cur)).2.1 = (getI R cur).2.1 := rfl
    have e4 : (mvI d (getI R cur)).2.2 = (getI R cur).2.2 + d := rfl
    rw [e4] at e2
    rw [e3, e4, if_neg (by omega), if_neg (by omega)]
    have e5 : (getI R cur).2.2 + d + stepV (getI R cur).2.1 = (getI R cur).2.2 + stepV (getI R cur).2.1 + d := by omega
    rw [e5, sh_chg, sh_raise]
theorem sh_pick {b0 c0 : Int} (d cur : Int) {R : List RI} (hw : WfS b0 c0 R) : pickC cur (shR d R) = pickC cur R := by
  unfold pickC
  by_cases h : R = []
  · rw [if_pos h, if_pos (sh_nil.2 h)]
  · rw [if_neg h, if_neg (fun e => h (sh_nil.1 e)), sh_min h, sh_has]
    by_cases hI : hasI R cur = true
    · rw [if_pos hI, if_pos hI, sh_get hw.asc hI]
      have e : (mvI d (getI R cur)).2.2 = (getI R cur).2.2 + d := rfl
      rw [e]
      by_cases hf : (minR R).1 < (getI R cur).2.2 - 465585120
      · rw [if_pos hf, if_pos (by simp only; omega)]
      · rw [if_neg hf, if_neg (by simp only; omega)]
    · rw [if_neg hI, if_neg hI]
theorem sh_seed (a b : Int) (l : List RI) : seedR b l = shR (b - a) (seedR a l) := by
  unfold seedR shR
  rw [List.map_map]
  refine List.map_congr_left (fun r _ => ?_)
  simp only [Function.comp, mvI]
  congr 2
  omega

/-! Two queues -/
def S2In (W w : World) (s1 s2 : Nat) (b1 c1 : Int) (R1 : List RI) (b2 c2 : Int) (R2 : List RI) (S : Nat) (F : Nat → Prop) : Prop :=
  ∃ A1 t1 A2 t2, IsK w s1 A1 t1 b1 c1 R1 ∧ IsK w s2 A2 t2 b2 c2 R2 ∧ (0 ≤ t1 ∧ t1 ≤ (S : Int) ∧ 0 ≤ t2 ∧ t2 ≤ (S : Int)) ∧
    (∀ k, A1 k → W.heap.size ≤ k) ∧ (∀ k, A2 k → W.heap.size ≤ k) ∧ (∀ k, A1 k → ¬ A2 k) ∧ Below W.heap.size W w ∧
    ∀ k, F k → k < w.heap.size ∧ ¬ A1 k ∧ ¬ A2 k
section
variable {W w w' : World} {s1 s2 : Nat} {b1 c1 b2 c2 : Int} {R1 R2 : List RI} {S : Nat} {F : Nat → Prop}
theorem S2In.swap (h : S2In W w s1 s2 b1 c1 R1 b2 c2 R2 S F) : S2In W w s2 s1 b2 c2 R2 b1 c1 R1 S F := by
  obtain ⟨A1, t1, A2, t2, g1, g2, ⟨g3, g4, g5, g6⟩, g7, g8, g9, g10, g11⟩ := h
  exact ⟨A2, t2, A1, t1, g2, g1, ⟨g5, g6, g3, g4⟩, g8, g7, fun k hk hk' => g9 k hk' hk, g10, fun k hk => ⟨(g11 k hk).1, (g11 k hk).2.2, (g11 k hk).2.1⟩⟩
theorem S2In.wf (h : S2In W w s1 s2 b1 c1 R1 b2 c2 R2 S F) : WfS b1 c1 R1 := by
  obtain ⟨A1, t1, A2, t2, g1, _⟩ := h
  exact g1.wf
theorem S2In.frame (h : S2In W w s1 s2 b1 c1 R1 b2 c2 R2 S F) : Below W.heap.size W w := by
  obtain ⟨A1, t1, A2, t2, g1, g2, g3, g7, g8, g9, g10, g11⟩ := h
  exact g10
theorem S2In.weak (h : S2In W w s1 s2 b1 c1 R1 b2 c2 R2 S F) {S' : Nat} (hS : S ≤ S') : S2In W w s1 s2 b1 c1 R1 b2 c2 R2 S' F := by
  obtain ⟨A1, t1, A2, t2, g1, g2, ⟨g3, g4, g5, g6⟩, g7, g8, g9, g10, g11⟩ := h
  exact ⟨A1, t1, A2, t2, g1, g2, ⟨g3, by omega, g5, by omega⟩, g7, g8, g9, g10, g11⟩
/-- What has been made since is none of theirs. -/
theorem S2In.more {G : Nat → Prop} (h : S2In W w s1 s2 b1 c1 R1 b2 c2 R2 S F) (hb : Below w.heap.size w w') (hG : ∀ k, G k → F k ∨ (w.heap.size ≤ k ∧ k < w'.heap.size)) : S2In W w' s1 s2 b1 c1 R1 b2 c2 R2 S G := by
  obtain ⟨A1, t1, A2, t2, g1, g2, g3, g7, g8, g9, g10, g11⟩ := h
  refine ⟨A1, t1, A2, t2, g1.below hb, g2.below hb, g3, g7, g8, g9, g10.trans (hb.mono g10.size), fun k hk => ?_⟩
  rcases hG k hk with h | h
  · exact ⟨by have := (g11 k h).1; have := hb.size; omega, (g11 k h).2⟩
  · exact ⟨h.2, fun hq => by have := g1.lt k hq; omega, fun hq => by have := g2.lt k hq; omega⟩
theorem S2In.below (h : S2In W w s1 s2 b1 c1 R1 b2 c2 R2 S F) (hb : Below w.heap.size w w') : S2In W w' s1 s2 b1 c1 R1 b2 c2 R2 S F := h.more hb (fun _ hk => .inl hk)
/-- The first of them, the other one none of its blocks. -/
theorem S2In.one (h : S2In W w s1 s2 b1 c1 R1 b2 c2 R2 S F) :
    ∃ G : Nat → Prop, SIn W w s1 b1 c1 R1 S G ∧ (∀ w' S' b c R, SIn W w' s1 b c R S' G → (∀ k, G k → w'.heap[k]? = w.heap[k]?) → S ≤ S' → S2In W w' s1 s2 b c R b2 c2 R2 S' F) ∧ ∀ k, F k → G k := by
  obtain ⟨A1, t1, A2, t2, g1, g2, ⟨g3, g4, g5, g6⟩, g7, g8, g9, g10, g11⟩ := h
  refine ⟨fun k => A2 k ∨ F k, ⟨A1, t1, g1, g3, g4, g7, g10, fun k hk => ?_⟩, fun w' S' b c R hq hk hS => ?_, fun k hk => .inr hk⟩
  · rcases hk with hk | hk
    · exact ⟨g2.lt k hk, fun h => g9 k h hk⟩
    · exact ⟨(g11 k hk).1, (g11 k hk).2.1⟩
  · obtain ⟨A1, t1, q1, q2, q3, q4, q5, q6⟩ := hq
    exact ⟨A1, t1, A2, t2, q1, g2.keep (fun j hj => hk j (.inl hj)), ⟨q2, q3, g5, by omega⟩, q4, g8, fun k hk' hk2 => (q6 k (.inl hk2)).2 hk', q5, fun k hk' => ⟨(q6 k (.inr hk')).1, (q6 k (.inr hk')).2, (g11 k hk').2.2⟩⟩
/-- A call on the first of them. -/
theorem s2_call {f : Nat} {args : Array Value} {r : Value} {b c : Int} {R : List RI} {S' : Nat} (h : S2In W w s1 s2 b1 c1 R1 b2 c2 R2 S F) (hS : S ≤ S')
    (hc : ∀ G, SIn W w s1 b1 c1 R1 S G → Calls Tryz.prog f args w (InPost W w s1 b c R S' G r)) :
    Calls Tryz.prog f args w fun e w' => e = .returned r ∧ S2In W w' s1 s2 b c R b2 c2 R2 S' F ∧ ∀ k, F k → w'.heap[k]? = w.heap[k]? := by
  obtain ⟨G, h1, h2, h3⟩ := h.one
  refine (hc G h1).mono ?_
  rintro e w' ⟨he, hq, hk⟩
  exact ⟨he, h2 w' S' b c R hq hk hS, fun k hF => hk k (h3 k hF)⟩
theorem s2_form (h : S2In W w s1 s2 b1 c1 R1 b2 c2 R2 S F) :
    Calls Tryz.prog 16 #[.pointer (some ⟨s1, 0, none⟩)] w fun e w' => ∃ A c, e = .returned (.agg #[.int .i64 c1, .slice A R1.length c]) ∧ TRow w' A (formL b1 R1) ∧ S2In W w' s1 s2 b1 c1 R1 b2 c2 R2 S F ∧ Below w.heap.size w w' := by
  obtain ⟨G, h1, _⟩ := h.one
  refine (sform_in h1).mono ?_
  rintro e w' ⟨A, c, rfl, hT, _, hb⟩
  exact ⟨A, c, rfl, hT, h.below hb, hb⟩
end
end Go.Proofs.YtnfcapeajhegmaaGreat

namespace Go.Proofs.YtnfcapeajhegmaaGreat
open Go.RowKit Go.Maps

theorem InPost.weak {W w : World} {s : Nat} {base cur : Int} {R : List RI} {S S' : Nat} {F : Nat → Prop} {r : Value} (hS : S ≤ S') : ∀ e w', InPost W w s base cur R S F r e w' → InPost W w s base cur R S' F r e w' := fun _ _ ⟨h1, h2, h3⟩ => ⟨h1, h2.weak hS, h3⟩
theorem sh_pickV {b0 c0 : Int} (d cur : Int) {R : List RI} (hw : WfS b0 c0 R) : pickV cur (shR d R) = pickV cur R := by
  unfold pickV
  rw [sh_pick d cur hw]
  by_cases h : R = []
  · rw [if_pos h, if_pos (sh_nil.2 h)]
  · rw [if_neg h, if_neg (fun e => h (sh_nil.1 e))]
theorem sh_pickB (d : Int) (R : List RI) : pickB (shR d R) = pickB R := by
  unfold pickB
  by_cases h : R = []
  · rw [decide_eq_true h, decide_eq_true (sh_nil.2 h)]
  · rw [decide_eq_false h, decide_eq_false (fun e => h (sh_nil.1 e))]

/-- k acts are done on both. -/
def ApF (W w : World) (s1 s2 : Nat) (d : Int) (k : Nat) (base cur : Int) (R : List RI) (F : Nat → Prop) : Prop := S2In W w s1 s2 base cur R (base + d) cur (shR d R) (1000 + 32 * k) F ∧ Up base R k ∧ Up (base + d) (shR d R) k ∧ k ≤ 200
/-- One more on the first of them. -/
def Half (W w : World) (s1 s2 : Nat) (d : Int) (k : Nat) (b' c' : Int) (R' : List RI) (base cur : Int) (R : List RI) (F : Nat → Prop) : Prop := S2In W w s1 s2 b' c' R' (base + d) cur (shR d R) (1000 + 32 * k + 16) F ∧ Up b' R' (k + 1) ∧ Up base R k ∧ Up (base + d) (shR d R) k ∧ WfS base cur R ∧ k ≤ 200
section
variable {W w : World} {s1 s2 k : Nat} {d base cur b' c' : Int} {R R' : List RI} {F : Nat → Prop}
theorem ap_1 {f : Nat} {args : Array Value} {r : Value} (h : ApF W w s1 s2 d k base cur R F) (hu : Up b' R' (k + 1)) (hc : ∀ G, SIn W w s1 base cur R (1000 + 32 * k) G → Calls Tryz.prog f args w (InPost W w s1 b' c' R' (1000 + 32 * k + 16) G r)) :
    Calls Tryz.prog f args w fun e w' => e = .returned r ∧ Half W w' s1 s2 d k b' c' R' base cur R F ∧ ∀ j, F j → w'.heap[j]? = w.heap[j]? := by
  obtain ⟨hq, hu1, hu2, hk⟩ := h
  refine (s2_call hq (by omega) hc).mono ?_
  rintro e w' ⟨he, hq', hF⟩
  exact ⟨he, ⟨hq', hu, hu1, hu2, hq.wf, hk⟩, hF⟩
theorem ap_2 {f : Nat} {args : Array Value} {r : Value} (h : Half W w s1 s2 d k b' c' R' base cur R F) (hk : k < 200) (hu : Up (b' + d) (shR d R') (k + 1)) (hc : ∀ G, SIn W w s2 (base + d) cur (shR d R) (1000 + 32 * k + 16) G → Calls Tryz.prog f args w (InPost W w s2 (b' + d) c' (shR d R') (1000 + 32 * k + 32) G r)) :
    Calls Tryz.prog f args w fun e w' => e = .returned r ∧ ApF W w' s1 s2 d (k + 1) b' c' R' F ∧ ∀ j, F j → w'.heap[j]? = w.heap[j]? := by
  obtain ⟨hq, hu1, hu2, hu3, hwf, hk'⟩ := h
  refine (s2_call hq.swap (by omega) hc).mono ?_
  rintro e w' ⟨he, hq', hF⟩
  exact ⟨he, ⟨(S2In.swap hq').weak (by omega), hu1, hu, by omega⟩, hF⟩
theorem ap_enter1 (x : RI) (h : ApF W w s1 s2 d k base cur R F) :
    Calls Tryz.prog 42 #[.pointer (some ⟨s1, 0, none⟩), .int .i64 x.1, .int .i64 x.2.1, .int .i64 x.2.2] w fun e w' => e = .returned (.int .i64 (enterM base R x).1) ∧ Half W w' s1 s2 d k (enterM base R x).2.1 cur (enterM base R x).2.2 base cur R F ∧ ∀ j, F j → w'.heap[j]? = w.heap[j]? := by
  have h' := h
  obtain ⟨hq, hu1, hu2, hk⟩ := h
  have e1 := hu1.lo
  have e2 := hu1.hi
  exact ap_1 h' (enter_up x hu1) (fun G hG => (senter_in x hG (by omega) (by omega) (by omega)).mono (InPost.weak (by omega)))
theorem ap_enter2 (x : RI) (h : Half W w s1 s2 d k (enterM base R x).2.1 cur (enterM base R x).2.2 base cur R F) (hk : k < 200) :
    Calls Tryz.prog 42 #[.pointer (some ⟨s2, 0, none⟩), .int .i64 x.1, .int .i64 x.2.1, .int .i64 x.2.2] w fun e w' => e = .returned (.int .i64 (enterM base R x).1) ∧ ApF W w' s1 s2 d (k + 1) (enterM base R x).2.1 cur (enterM base R x).2.2 F ∧ ∀ j, F j → w'.heap[j]? = w.heap[j]? := by
  have h' := h
  obtain ⟨hq, hu1, hu2, hu3, hwf, hk'⟩ := h
  have e1 := hu3.lo
  have e2 := hu3.hi
  have hu := enter_up x hu3
  rw [sh_enter] at hu
  refine ap_2 h' hk hu (fun G hG => ?_)
  have hc := senter_in x hG (by omega) (by omega) (by omega)
  rw [sh_enter] at hc
  exact hc.mono (InPost.weak (by omega))
theorem ap_put1 (x : RI) (h : ApF W w s1 s2 d k base cur R F) :
    Calls Tryz.prog 45 #[.pointer (some ⟨s1, 0, none⟩), .int .i64 x.1, .int .i64 x.2.1, .int .i64 x.2.2] w fun e w' => e = .returned (.int .i64 (putM base R x).1) ∧ Half W w' s1 s2 d k (putM base R x).2.1 cur (putM base R x).2.2 base cur R F ∧ ∀ j, F j → w'.heap[j]? = w.heap[j]? := by
  have h' := h
  obtain ⟨hq, hu1, hu2, hk⟩ := h
  have e1 := hu1.lo
  have e2 := hu1.hi
  exact ap_1 h' (put_up x hu1) (fun G hG => (sput_in x hG (by omega) (by omega) (by omega)).mono (InPost.weak (by omega)))
theorem ap_put2 (x : RI) (h : Half W w s1 s2 d k (putM base R x).2.1 cur (putM base R x).2.2 base cur R F) (hk : k < 200) :
    Calls Tryz.prog 45 #[.pointer (some ⟨s2, 0, none⟩), .int .i64 x.1, .int .i64 x.2.1, .int .i64 x.2.2] w fun e w' => e = .returned (.int .i64 (putM base R x).1) ∧ ApF W w' s1 s2 d (k + 1) (putM base R x).2.1 cur (putM base R x).2.2 F ∧ ∀ j, F j → w'.heap[j]? = w.heap[j]? := by
  have h' := h
  obtain ⟨hq, hu1, hu2, hu3, hwf, hk'⟩ := h
  have e1 := hu3.lo
  have e2 := hu3.hi
  have hu := put_up x hu3
  rw [sh_put] at hu
  refine ap_2 h' hk hu (fun G hG => ?_)
  have hc := sput_in x hG (by omega) (by omega) (by omega)
  rw [sh_put] at hc
  exact hc.mono (InPost.weak (by omega))
theorem ap_leave1 (id : Int) (hid : wf64 id) (h : ApF W w s1 s2 d k base cur R F) :
    Calls Tryz.prog 46 #[.pointer (some ⟨s1, 0, none⟩), .int .i64 id] w fun e w' => e = .returned (.tuple #[.int .i64 (leaveM base cur R id).1, .int .i64 (leaveM base cur R id).2.1]) ∧ Half W w' s1 s2 d k (leaveM base cur R id).2.2.1 (leaveM base cur R id).2.2.2.1 (leaveM base cur R id).2.2.2.2 base cur R F ∧ ∀ j, F j → w'.heap[j]? = w.heap[j]? := by
  have h' := h
  obtain ⟨hq, hu1, hu2, hk⟩ := h
  have e1 := hu1.lo
  have e2 := hu1.hi
  exact ap_1 h' (leave_up (cur := cur) id hu1) (fun G hG => (sleave_in id hG hid (by omega)).mono (InPost.weak (by omega)))
theorem ap_leave2 (id : Int) (hid : wf64 id) (h : Half W w s1 s2 d k (leaveM base cur R id).2.2.1 (leaveM base cur R id).2.2.2.1 (leaveM base cur R id).2.2.2.2 base cur R F) (hk : k < 200) :
    Calls Tryz.prog 46 #[.pointer (some ⟨s2, 0, none⟩), .int .i64 id] w fun e w' => e = .returned (.tuple #[.int .i64 (leaveM base cur R id).1, .int .i64 (leaveM base cur R id).2.1]) ∧ ApF W w' s1 s2 d (k + 1) (leaveM base cur R id).2.2.1 (leaveM base cur R id).2.2.2.1 (leaveM base cur R id).2.2.2.2 F ∧ ∀ j, F j → w'.heap[j]? = w.heap[j]? := by
  have h' := h
  obtain ⟨hq, hu1, hu2, hu3, hwf, hk'⟩ := h
  have e1 := hu3.lo
  have e2 := hu3.hi
  have hu := leave_up (cur := cur) id hu3
  rw [sh_leave hwf.asc id] at hu
  refine ap_2 h' hk hu (fun G hG => ?_)
  have hc := sleave_in id hG hid (by omega)
  rw [sh_leave hwf.asc id] at hc
  exact hc.mono (InPost.weak (by omega))
theorem ap_weigh1 (id n : Int) (hid : wf64 id) (hn : wf64 n) (h : ApF W w s1 s2 d k base cur R F) :
    Calls Tryz.prog 47 #[.pointer (some ⟨s1, 0, none⟩), .int .i64 id, .int .i64 n] w fun e w' => e = .returned (.int .i64 (weighM R id n).1) ∧ Half W w' s1 s2 d k base cur (weighM R id n).2 base cur R F ∧ ∀ j, F j → w'.heap[j]? = w.heap[j]? := by
  have h' := h
  obtain ⟨hq, hu1, hu2, hk⟩ := h
  have e1 := hu1.lo
  have e2 := hu1.hi
  exact ap_1 h' (weigh_up id n hu1) (fun G hG => (sweigh_in id n hG hid hn).mono (InPost.weak (by omega)))
theorem ap_weigh2 (id n : Int) (hid : wf64 id) (hn : wf64 n) (h : Half W w s1 s2 d k base cur (weighM R id n).2 base cur R F) (hk : k < 200) :
    Calls Tryz.prog 47 #[.pointer (some ⟨s2, 0, none⟩), .int .i64 id, .int .i64 n] w fun e w' => e = .returned (.int .i64 (weighM R id n).1) ∧ ApF W w' s1 s2 d (k + 1) base cur (weighM R id n).2 F ∧ ∀ j, F j → w'.heap[j]? = w.heap[j]? := by
  have h' := h
  obtain ⟨hq, hu1, hu2, hu3, hwf, hk'⟩ := h
  have e1 := hu3.lo
  have e2 := hu3.hi
  have hu := weigh_up id n hu3
  rw [sh_weigh] at hu
  refine ap_2 h' hk hu (fun G hG => ?_)
  have hc := sweigh_in id n hG hid hn
  rw [sh_weigh] at hc
  exact hc.mono (InPost.weak (by omega))
theorem ap_pick1  (h : ApF W w s1 s2 d k base cur R F) :
    Calls Tryz.prog 43 #[.pointer (some ⟨s1, 0, none⟩)] w fun e w' => e = .returned (.tuple #[.int .i64 (pickV cur R), .bool (pickB R)]) ∧ Half W w' s1 s2 d k base (pickC cur R) R base cur R F ∧ ∀ j, F j → w'.heap[j]? = w.heap[j]? := by
  have h' := h
  obtain ⟨hq, hu1, hu2, hk⟩ := h
  have e1 := hu1.lo
  have e2 := hu1.hi
  exact ap_1 h' (hu1.more) (fun G hG => (spick_in hG).mono (InPost.weak (by omega)))
theorem ap_pick2  (h : Half W w s1 s2 d k base (pickC cur R) R base cur R F) (hk : k < 200) :
    Calls Tryz.prog 43 #[.pointer (some ⟨s2, 0, none⟩)] w fun e w' => e = .returned (.tuple #[.int .i64 (pickV cur R), .bool (pickB R)]) ∧ ApF W w' s1 s2 d (k + 1) base (pickC cur R) R F ∧ ∀ j, F j → w'.heap[j]? = w.heap[j]? := by
  have h' := h
  obtain ⟨hq, hu1, hu2, hu3, hwf, hk'⟩ := h
  have e1 := hu3.lo
  have e2 := hu3.hi
  have hu := hu3.more
  refine ap_2 h' hk hu (fun G hG => ?_)
  have hc := spick_in hG
  rw [sh_pick d cur hwf, sh_pickV d cur hwf, sh_pickB] at hc
  exact hc.mono (InPost.weak (by omega))
theorem ap_charge1  (h : ApF W w s1 s2 d k base cur R F) :
    Calls Tryz.prog 44 #[.pointer (some ⟨s1, 0, none⟩)] w fun e w' => e = .returned (.tuple #[.int .i64 (chargeM base cur R).1, .int .i64 (chargeM base cur R).2.1]) ∧ Half W w' s1 s2 d k (chargeM base cur R).2.2.1 cur (chargeM base cur R).2.2.2 base cur R F ∧ ∀ j, F j → w'.heap[j]? = w.heap[j]? := by
  have h' := h
  obtain ⟨hq, hu1, hu2, hk⟩ := h
  have e1 := hu1.lo
  have e2 := hu1.hi
  exact ap_1 h' (charge_up hq.wf hu1) (fun G hG => (scharge_in hG (by omega)).mono (InPost.weak (by omega)))
theorem ap_charge2  (h : Half W w s1 s2 d k (chargeM base cur R).2.2.1 cur (chargeM base cur R).2.2.2 base cur R F) (hk : k < 200) :
    Calls Tryz.prog 44 #[.pointer (some ⟨s2, 0, none⟩)] w fun e w' => e = .returned (.tuple #[.int .i64 (chargeM base cur R).1, .int .i64 (chargeM base cur R).2.1]) ∧ ApF W w' s1 s2 d (k + 1) (chargeM base cur R).2.2.1 cur (chargeM base cur R).2.2.2 F ∧ ∀ j, F j → w'.heap[j]? = w.heap[j]? := by
  have h' := h
  obtain ⟨hq, hu1, hu2, hu3, hwf, hk'⟩ := h
  have e1 := hu3.lo
  have e2 := hu3.hi
  have hu := charge_up hq.swap.wf hu3
  rw [sh_charge hwf hu2 hu3 (by omega)] at hu
  refine ap_2 h' hk hu (fun G hG => ?_)
  have hc := scharge_in hG (by omega)
  rw [sh_charge hwf hu2 hu3 (by omega)] at hc
  exact hc.mono (InPost.weak (by omega))
end
end Go.Proofs.YtnfcapeajhegmaaGreat
