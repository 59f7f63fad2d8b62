/- due: what is owed may be, whatever is done; nobody gets far. Plain theory. -/
import Derived.Test.YtandmngfajoinaaGreatUd4
import Derived.Test.YtandmngfajoinaaGreatSi
namespace Go.Proofs.YtandmngfajoinaaGreat
open Go.RowKit

theorem formL_length (base : Int) (R : List RI) : (formL base R).length = R.length := by unfold formL; simp
theorem befF_no {a b : RI} : befF a b = false ↔ ¬ (b.2.2 < a.2.2 ∨ (a.2.2 = b.2.2 ∧ a.1 < b.1)) := by
  rw [← befF_iff]; simp
theorem bestF_best : ∀ (l : List RI) (m : RI), ∀ y ∈ m :: l, befF y (bestF m l) = false
  | [], m, y, hy => by
    simp at hy
    subst hy
    rw [befF_no, bestF]
    omega
  | x :: xs, m, y, hy => by
    rw [bestF]
    by_cases h : befF x m = true
    · rw [if_pos h]
      have ih := bestF_best xs x
      have hx := ih x (by simp)
      simp at hy
      rcases hy with rfl | rfl | hy
      · rw [befF_no] at hx ⊢; rw [befF_iff] at h; omega
      · exact hx
      · exact ih y (by simp [hy])
    · rw [if_neg h]
      have ih := bestF_best xs m
      have hm := ih m (by simp)
      simp at hy h
      rcases hy with rfl | rfl | hy
      · exact hm
      · rw [befF_no] at hm h ⊢; omega
      · exact ih y (by simp [hy])
theorem bestF_mem : ∀ (l : List RI) (m : RI), bestF m l ∈ m :: l
  | [], m => by simp [bestF]
  | x :: xs, m => by
    rw [bestF]
    by_cases h : befF x m = true
    · rw [if_pos h]
      have := bestF_mem xs x
      simp at this ⊢
      exact .inr this
    · rw [if_neg h]
      have := bestF_mem xs m
      simp at this ⊢
      rcases this with h | h
      · exact .inl h
      · exact .inr (.inr h)
theorem frontV_best {l : List RI} {y : RI} (h : y ∈ l) : y.2.2 ≤ (frontV l).2.2 := by
  cases l with
  | nil => simp at h
  | cons x xs =>
    have := befF_no.1 (bestF_best xs x y h)
    show y.2.2 ≤ (bestF x xs).2.2
    omega
theorem frontV_mem {l : List RI} (h : l ≠ []) : frontV l ∈ l := by
  cases l with
  | nil => exact absurd rfl h
  | cons x xs => exact bestF_mem xs x
theorem asc_ascB : ∀ {l : List RI} {q : Int}, AscR l → (∀ r ∈ l, q < r.1 ∧ itemB r = true) → ascB q l = true
  | [], _, _, _ => rfl
  | x :: xs, q, h, hq => by
    obtain ⟨h1, h2⟩ := List.pairwise_cons.1 h
    rw [ascB, asc_ascB h2 (fun r hr => ⟨h1 r hr, (hq r (by simp [hr])).2⟩), (hq x (by simp)).2]
    simp [(hq x (by simp)).1]

/-- What is owed is within bounds. -/
def LagB (base : Int) (R : List RI) : Prop := ∀ r ∈ R, base - r.2.2 ≤ 1125899906842624 ∧ -1125899906842624 ≤ base - r.2.2
theorem has_form (base : Int) (R : List RI) (id : Int) : hasI (formL base R) id = hasI R id := has_map (f := fun r => (r.1, r.2.1, base - r.2.2)) (fun _ => rfl) id
theorem good_form {base cur : Int} {R : List RI} (hw : WfS base cur R) (hl : LagB base R) (ho : Low base R) : goodV cur (formL base R) = true := by
  unfold goodV
  simp only [Bool.and_eq_true, decide_eq_true_eq, Bool.or_eq_true]
  refine ⟨⟨⟨by rw [formL_length]; exact hw.len, asc_ascB (formL_asc hw.asc) (fun r hr => ?_)⟩, ?_⟩, ?_⟩
  · unfold formL at hr
    obtain ⟨q, hq, rfl⟩ := List.mem_map.1 hr
    have h1 := hw.each q hq
    have h2 := hl q hq
    refine ⟨by simp only; omega, itemB_true.2 ⟨h1.1, h1.2.1, ⟨h1.2.2.1, h1.2.2.2.1⟩, h2.2, h2.1⟩⟩
  · rw [hasL_hasI, has_form]; exact hw.cur
  · by_cases hR : R = []
    · subst hR; left; rfl
    · right
      obtain ⟨q, hq, h1, _⟩ := minR_mem hR
      have hm : (q.1, q.2.1, base - q.2.2) ∈ formL base R := by unfold formL; exact List.mem_map.2 ⟨q, hq, rfl⟩
      have := frontV_best hm
      have := ho hR
      simp only at *
      omega
theorem raise_lag {base : Int} {R : List RI} (h : LagB base R) : LagB (raiseM base R) R ∧ base ≤ raiseM base R ∧ raiseM base R ≤ base + 1125899906842624 := by
  unfold raiseM
  split
  · exact ⟨h, Int.le_refl _, by omega⟩
  · rename_i hR
    obtain ⟨q, hq, h1, _⟩ := minR_mem hR
    have h2 := h q hq
    refine ⟨fun r hr => ?_, by omega, by omega⟩
    have h3 := h r hr
    have h4 := minR_le hr
    omega
theorem LagB.del {base : Int} {R : List RI} (h : LagB base R) (id : Int) : LagB base (delI R id) := fun r hr => h r (mem_delI.1 hr).1
theorem LagB.wgt {base : Int} {R : List RI} (h : LagB base R) (id n : Int) : LagB base (wgtI R id n) := fun r hr => by
  rcases mem_wgt hr with ⟨q, hq, _, rfl⟩ | ⟨hr, _⟩
  · exact h q hq
  · exact h r hr
theorem minR_wgt (R : List RI) (id n : Int) : minR (wgtI R id n) = minR R := by unfold minR; rw [pL_wgt]
theorem wgt_nil {R : List RI} {id n : Int} (h : wgtI R id n ≠ []) : R ≠ [] := fun e => h (by subst e; rfl)
theorem Low.wgt {base : Int} {R : List RI} (h : Low base R) (id n : Int) : Low base (wgtI R id n) := fun hn => by rw [minR_wgt]; exact h (wgt_nil hn)

theorem seed_lag {base f0 : Int} {l : List RI} (h : goodV f0 l = true) : LagB base (seedR base l) ∧ Low base (seedR base l) := by
  have hg := goodV_of h
  refine ⟨fun r hr => ?_, fun hn => ?_⟩
  · unfold seedR at hr
    obtain ⟨q, hq, rfl⟩ := List.mem_map.1 hr
    have := itemB_true.1 (hg.each q hq)
    simp only; omega
  · have hl : l ≠ [] := fun e => hn (by subst e; rfl)
    have hf : 0 ≤ (frontV l).2.2 := by
      unfold goodV at h
      simp only [Bool.and_eq_true, decide_eq_true_eq, Bool.or_eq_true] at h
      rcases h.2 with h1 | h1
      · cases l with
        | nil => exact absurd rfl hl
        | cons x xs => simp [someL] at h1
      · exact h1
    have hm := frontV_mem hl
    have : ((frontV l).1, (frontV l).2.1, base - (frontV l).2.2) ∈ seedR base l := by unfold seedR; exact List.mem_map.2 ⟨_, hm, rfl⟩
    have := minR_le this
    simp only at this
    omega

/-! In the words of the tasks with their days -/
def formU (base : Int) (T : List TI) : List RI := formL base (cutL T)
theorem formU_length (base : Int) (T : List TI) : (formU base T).length = T.length := by unfold formU formL; rw [List.length_map, cut_len]
def seedU (base : Int) (l : List RI) : List TI := l.map (newU base)
theorem seedU_cut (base : Int) (l : List RI) : cutL (seedU base l) = seedR base l := by
  unfold cutL seedU seedR
  rw [List.map_map]
  rfl
theorem seedU_length (base : Int) (l : List RI) : (seedU base l).length = l.length := by unfold seedU; simp
theorem formU_seed (base : Int) (l : List RI) : formU base (seedU base l) = l := by unfold formU; rw [seedU_cut, formL_seed]
theorem seedU_day {f0 base : Int} {l : List RI} (h : goodV f0 l = true) : DayOk (seedU base l) := fun x hx => by
  unfold seedU at hx
  obtain ⟨r, hr, rfl⟩ := List.mem_map.1 hx
  exact new_day (goodB_true.2 (itemB_true.1 ((goodV_of h).each r hr)).2.2.1)
/-- Whether a sum of points is low. -/
theorem sum_shift (base : Int) (T : List TI) : sumT 0 T = sumT base T + base * allT T := by
  induction T with
  | nil => simp [sumT, allT]
  | cons x xs ih =>
    unfold sumT allT
    rw [ih, Int.sub_zero, Int.sub_mul, Int.mul_add]
    omega
theorem may_shift (base : Int) (T : List TI) (x : TI) : mayI T (dayI x) = true ↔ (x.2.2.1 - base) * allT T ≤ sumT base T := by
  unfold mayI
  rw [decide_eq_true_eq, sum_shift base T, Int.sub_mul]
  have e : (dayI x).1 = x.2.2.1 := rfl
  rw [e]
  omega
theorem sum_high {base M : Int} (hM : 0 ≤ M) : ∀ {T : List TI}, (∀ x ∈ T, x.2.2.1 - base ≤ M ∧ 1 ≤ x.2.1) → sumT base T ≤ M * allT T
  | [], _ => by simp [sumT, allT]
  | x :: xs, h => by
    obtain ⟨h1, h2⟩ := h x (by simp)
    have ih := sum_high hM (T := xs) (fun y hy => h y (by simp [hy]))
    unfold sumT allT
    rw [Int.mul_add]
    have := Int.mul_le_mul_of_nonneg_right h1 (show 0 ≤ x.2.1 by omega)
    omega
theorem sum_less {base M : Int} (hM : 0 ≤ M) : ∀ {T : List TI}, (∀ x ∈ T, x.2.2.1 - base ≤ M ∧ 1 ≤ x.2.1) → (∃ y ∈ T, y.2.2.1 ≤ base) → sumT base T ≤ M * allT T - M
  | [], _, ⟨y, hy, _⟩ => by simp at hy
  | x :: xs, h, ⟨y, hy, hyb⟩ => by
    obtain ⟨h1, h2⟩ := h x (by simp)
    have hr : ∀ z ∈ xs, z.2.2.1 - base ≤ M ∧ 1 ≤ z.2.1 := fun z hz => h z (by simp [hz])
    unfold sumT allT
    rw [Int.mul_add]
    rcases List.mem_cons.1 hy with rfl | hy
    · have ih := sum_high hM hr
      have a1 := Int.mul_le_mul_of_nonneg_right (show y.2.2.1 - base ≤ 0 by omega) (show 0 ≤ y.2.1 by omega)
      have a2 := Int.mul_le_mul_of_nonneg_left h2 hM
      omega
    · have ih := sum_less hM hr ⟨y, hy, hyb⟩
      have := Int.mul_le_mul_of_nonneg_right h1 (show 0 ≤ x.2.1 by omega)
      omega
theorem all_bd : ∀ {T : List TI}, (∀ x ∈ T, 1 ≤ x.2.1 ∧ x.2.1 ≤ 20) → 0 ≤ allT T ∧ allT T ≤ 20 * (T.length : Int)
  | [], _ => by simp [allT]
  | x :: xs, h => by
    have h1 := h x (by simp)
    have ih := all_bd (T := xs) (fun y hy => h y (by simp [hy]))
    rw [List.length_cons]
    unfold allT
    omega
theorem wgt_of {b c : Int} {T : List TI} (hw : WfS b c (cutL T)) {x : TI} (hx : x ∈ T) : 1 ≤ x.2.1 ∧ x.2.1 ≤ 20 := by
  have := hw.each _ (cut_mem hx)
  have e : (cutT x).2.1 = x.2.1 := rfl
  rw [e] at this
  exact ⟨this.2.2.1, this.2.2.2.1⟩
theorem len_of {b c : Int} {T : List TI} (hw : WfS b c (cutL T)) : T.length ≤ 64 := by have := hw.len; rwa [cut_len] at this
theorem low_mem {base : Int} {T : List TI} (hT : T ≠ []) (h : Low base (cutL T)) : ∃ y ∈ T, y.2.2.1 ≤ base ∧ y.2.2.1 = (minR (cutL T)).1 := by
  have hn : cutL T ≠ [] := fun e => hT (cut_nil.1 e)
  obtain ⟨r, hr, h1, _⟩ := minR_mem hn
  obtain ⟨y, hy, rfl⟩ := List.mem_map.1 hr
  have := h hn
  have e : (cutT y).2.2 = y.2.2.1 := rfl
  rw [e] at h1
  exact ⟨y, hy, by omega, h1⟩
/-- Who may run is not near the bound. -/
theorem may_room {base cur b0 : Int} {T : List TI} (hw : WfS b0 cur (cutL T)) (hl : LagB base (cutL T)) (ho : Low base (cutL T)) {x : TI} (hx : x ∈ T) (hm : mayI T (dayI x) = true) : x.2.2.1 + 232792560 ≤ base + 1125899906842624 := by
  have hT : T ≠ [] := List.ne_nil_of_mem hx
  obtain ⟨y, hy, hyb, _⟩ := low_mem hT ho
  have h1 := (may_shift base T x).1 hm
  have hb : ∀ z ∈ T, z.2.2.1 - base ≤ 1125899906842624 ∧ 1 ≤ z.2.1 := fun z hz => by
    have h2 := hl _ (cut_mem hz)
    have e : (cutT z).2.2 = z.2.2.1 := rfl
    rw [e] at h2
    exact ⟨by omega, (wgt_of hw hz).1⟩
  have h2 := sum_less (base := base) (M := 1125899906842624) (by decide) hb ⟨y, hy, hyb⟩
  obtain ⟨h3, h4⟩ := all_bd (fun z hz => wgt_of hw hz)
  have h5 := len_of hw
  apply Classical.byContradiction
  intro hn
  have h6 := Int.mul_le_mul_of_nonneg_right (show (1125899674050064 : Int) ≤ x.2.2.1 - base by omega) h3
  omega
/-- Who is picked. -/
theorem pickC_spec {b0 c0 : Int} {T : List TI} (hw : WfS b0 c0 (cutL T)) (hT : T ≠ []) : ∃ x ∈ T, pickC T = x.1 ∧ getU T (pickC T) = x ∧ mayI T (dayI x) = true ∧ ∀ y ∈ T, mayI T (dayI y) = true → dueB (dayI y) (dayI x) = false := by
  obtain ⟨x, hx, h1, h2, h3, h4⟩ := pick_spec hT (fun x hx => by have := wgt_of hw hx; omega)
  have e : pickC T = x.1 := by unfold pickC; rw [if_neg hT, h2]
  exact ⟨x, hx, e, by rw [e]; exact getU_of hw.asc hx, h3, h4⟩
theorem pickC_ok {b0 c0 : Int} {T : List TI} (hw : WfS b0 c0 (cutL T)) : pickC T = -1 ∨ hasI (cutL T) (pickC T) = true := by
  by_cases hT : T = []
  · left; unfold pickC; rw [if_pos hT]
  · obtain ⟨x, hx, e, _⟩ := pickC_spec hw hT
    exact .inr (hasU_iff.2 ⟨x, hx, e.symm⟩)

/-! What each call leaves -/
theorem put_lag {base : Int} {T : List TI} (x : RI) (hl : LagB base (cutL T)) (ho : Low base (cutL T)) :
    LagB (putU base T x).2.1 (cutL (putU base T x).2.2) ∧ Low (putU base T x).2.1 (cutL (putU base T x).2.2) ∧ base ≤ (putU base T x).2.1 ∧ (putU base T x).2.1 ≤ base + 1125899906842624 := by
  have same : LagB base (cutL T) ∧ Low base (cutL T) ∧ base ≤ base ∧ base ≤ base + 1125899906842624 := ⟨hl, ho, Int.le_refl _, by omega⟩
  unfold putU
  split
  · rename_i hi
    split
    · exact same
    · split
      · exact same
      · have hb := itemB_true.1 hi
        have hL : LagB base (cutL (insTT T (newU base x))) := fun r hr => by
          rw [cut_ins] at hr
          rcases mem_insR.1 hr with rfl | hr
          · have e : (cutT (newU base x)).2.2 = base - x.2.2 := rfl
            rw [e]; omega
          · exact hl r hr
        obtain ⟨h4, h5, h6⟩ := raise_lag hL
        exact ⟨h4, low_raise _ _, h5, h6⟩
  · exact same
theorem enter_lag {base : Int} {T : List TI} (x : RI) (hl : LagB base (cutL T)) (ho : Low base (cutL T)) :
    LagB (enterU base T x).2.1 (cutL (enterU base T x).2.2) ∧ Low (enterU base T x).2.1 (cutL (enterU base T x).2.2) ∧ base ≤ (enterU base T x).2.1 ∧ (enterU base T x).2.1 ≤ base + 1125899906842624 := by
  unfold enterU
  split
  · exact put_lag _ hl ho
  · exact ⟨hl, ho, Int.le_refl _, by simp only; omega⟩
theorem leave_lag {base cur : Int} {T : List TI} (id : Int) (hl : LagB base (cutL T)) (ho : Low base (cutL T)) :
    LagB (leaveU base cur T id).2.2.1 (cutL (leaveU base cur T id).2.2.2.2) ∧ Low (leaveU base cur T id).2.2.1 (cutL (leaveU base cur T id).2.2.2.2) ∧ base ≤ (leaveU base cur T id).2.2.1 ∧ (leaveU base cur T id).2.2.1 ≤ base + 1125899906842624 := by
  unfold leaveU
  split
  · simp only
    have hL : LagB base (cutL (delU T id)) := by rw [cut_delU]; exact hl.del id
    obtain ⟨h4, h5, h6⟩ := raise_lag hL
    exact ⟨h4, low_raise _ _, h5, h6⟩
  · exact ⟨hl, ho, Int.le_refl _, by simp only; omega⟩
theorem weigh_lag {base : Int} {T : List TI} (id n : Int) (hl : LagB base (cutL T)) (ho : Low base (cutL T)) : LagB base (cutL (weighU T id n).2) ∧ Low base (cutL (weighU T id n).2) := by
  unfold weighU
  split
  · split
    · simp only
      rw [cut_wei]
      exact ⟨hl.wgt id n, ho.wgt id n⟩
    · exact ⟨hl, ho⟩
  · exact ⟨hl, ho⟩
theorem charge_lag {base : Int} {T : List TI} (hw : WfS base (pickC T) (cutL T)) (hl : LagB base (cutL T)) (ho : Low base (cutL T)) :
    LagB (chargeU base (pickC T) T).2.2.1 (cutL (chargeU base (pickC T) T).2.2.2) ∧ Low (chargeU base (pickC T) T).2.2.1 (cutL (chargeU base (pickC T) T).2.2.2) ∧ base ≤ (chargeU base (pickC T) T).2.2.1 ∧ (chargeU base (pickC T) T).2.2.1 ≤ base + 1125899906842624 := by
  have same : LagB base (cutL T) ∧ Low base (cutL T) ∧ base ≤ base ∧ base ≤ base + 1125899906842624 := ⟨hl, ho, Int.le_refl _, by omega⟩
  by_cases hT : T = []
  · have e : chargeU base (pickC T) T = (0, 14, base, T) := by unfold chargeU pickC; rw [if_pos hT, if_pos rfl]
    rw [e]; exact same
  · obtain ⟨x, hx, e1, e2, hm, _⟩ := pickC_spec hw hT
    have hroom := may_room hw hl ho hx hm
    generalize pickC T = c at *
    unfold chargeU
    split
    · exact same
    · split
      · exact same
      · simp only
        subst e1
        have hst := stepV_bd x.2.1
        rw [cut_cha hw.asc hx]
        have hL : LagB base (chgI (cutL T) x.1 (x.2.2.1 + stepV x.2.1)) := fun r hr => by
          rcases mem_chg hr with ⟨z, hz, _, rfl⟩ | ⟨hr, _⟩
          · have h2 := hl _ (cut_mem hx)
            have e : (cutT x).2.2 = x.2.2.1 := rfl
            rw [e] at h2
            simp only; omega
          · exact hl r hr
        obtain ⟨h4, h5, h6⟩ := raise_lag hL
        exact ⟨h4, low_raise _ _, h5, h6⟩

/-! Near -/
/-- All are within five Scales of the base, and somebody is at it. -/
structure Near (base : Int) (T : List TI) : Prop where
  ne : T ≠ []
  at0 : (minR (cutL T)).1 = base
  le : ∀ x ∈ T, x.2.2.1 ≤ base + 1163962800
theorem Near.ge {base : Int} {T : List TI} (h : Near base T) {x : TI} (hx : x ∈ T) : base ≤ x.2.2.1 := by
  have h1 := minR_le (cut_mem hx)
  have h2 := h.at0
  have e : (cutT x).2.2 = x.2.2.1 := rfl
  rw [e] at h1
  omega
theorem Near.lag {base : Int} {T : List TI} (h : Near base T) {r : RI} (hr : r ∈ formU base T) : -1163962800 ≤ r.2.2 ∧ r.2.2 ≤ 0 := by
  unfold formU formL at hr
  obtain ⟨q, hq, rfl⟩ := List.mem_map.1 hr
  obtain ⟨x, hx, rfl⟩ := List.mem_map.1 hq
  have h1 := h.ge hx
  have h2 := h.le x hx
  have e : (cutT x).2.2 = x.2.2.1 := rfl
  simp only
  rw [e]
  omega
theorem Near.lag0 {base : Int} {T : List TI} (h : Near base T) : ∃ j : Nat, ∃ r, (formU base T)[j]? = some r ∧ r.2.2 = 0 := by
  obtain ⟨q, hq, h1, _⟩ := minR_mem (R := cutL T) (fun e => h.ne (cut_nil.1 e))
  have hm : (q.1, q.2.1, base - q.2.2) ∈ formU base T := by unfold formU formL; exact List.mem_map.2 ⟨q, hq, rfl⟩
  obtain ⟨j, hj⟩ := List.mem_iff_getElem?.1 hm
  exact ⟨j, _, hj, by have := h.at0; simp only; omega⟩
theorem insTT_last : ∀ {T : List TI} {x : TI}, (∀ y ∈ T, y.1 < x.1) → insTT T x = T ++ [x]
  | [], _, _ => rfl
  | y :: ys, x, h => by
    unfold insTT
    rw [if_pos (h y (by simp)), insTT_last (fun z hz => h z (by simp [hz]))]
    rfl
/-- One more comes. -/
theorem near_enter {T : List TI} {id n : Int} (_h : T = [] ∨ Near 0 T) (hall : ∀ x ∈ T, x.2.2.1 = 0 ∧ x.1 < id) (hid : 0 ≤ id) (hid2 : id ≤ 1073741824) (h1 : 1 ≤ n) (h2 : n ≤ 20) (hl : T.length < 64) :
    enterU 0 T (id, n, 0) = (0, 0, T ++ [newU 0 (id, n, 0)]) ∧ Near 0 (T ++ [newU 0 (id, n, 0)]) ∧ ∀ x ∈ T ++ [newU 0 (id, n, 0)], x.2.2.1 = 0 ∧ x.1 < id + 1 := by
  have hno : hasI (cutL T) id = false := hasU_no.2 (fun x hx => by have := (hall x hx).2; omega)
  have hins : insTT T (newU 0 (id, n, 0)) = T ++ [newU 0 (id, n, 0)] := insTT_last (fun x hx => (hall x hx).2)
  have hall' : ∀ x ∈ T ++ [newU 0 (id, n, 0)], x.2.2.1 = 0 ∧ x.1 < id + 1 := fun x hx => by
    rcases List.mem_append.1 hx with h | h
    · have := hall x h; omega
    · simp at h; subst h; exact ⟨rfl, by show id < id + 1; omega⟩
  have hne : T ++ [newU 0 (id, n, 0)] ≠ [] := by simp
  have hmin : (minR (cutL (T ++ [newU 0 (id, n, 0)]))).1 = 0 := by
    obtain ⟨r, hr, h3, _⟩ := minR_mem (R := cutL (T ++ [newU 0 (id, n, 0)])) (fun e => hne (cut_nil.1 e))
    obtain ⟨x, hx, rfl⟩ := List.mem_map.1 hr
    rw [← h3]; exact (hall' x hx).1
  refine ⟨?_, ⟨hne, hmin, fun x hx => by have := hall' x hx; omega⟩, hall'⟩
  have hit : itemB (id, n, 0) = true := itemB_true.2 ⟨hid, hid2, ⟨h1, h2⟩, by simp only; omega, by simp only; omega⟩
  have he : enterU 0 T (id, n, 0) = putU 0 T (id, n, 0) := by
    unfold enterU
    rw [if_pos (show lagB (0 : Int) = true by decide)]
    rfl
  rw [he]
  unfold putU
  rw [hit, if_pos rfl, if_neg (show ¬ hasI (cutL T) id = true by rw [hno]; decide), if_neg (show ¬ 64 ≤ T.length by omega), hins]
  have hr : raiseM 0 (cutL (T ++ [newU 0 (id, n, 0)])) = 0 := by
    unfold raiseM
    rw [if_neg (fun e => hne (cut_nil.1 e)), hmin]
    rfl
  rw [hr]
/-- One tick. -/
theorem near_charge {base b0 c0 : Int} {T : List TI} (h : Near base T) (hw : WfS b0 c0 (cutL T)) (hd : DayOk T) (hb : base ≤ 1000000000000000) :
    ∃ b', chargeU base (pickC T) T = (pickC T, 0, b', updU T (pickC T) chaT) ∧ Near b' (updU T (pickC T) chaT) ∧ base ≤ b' ∧ b' ≤ base + 1163962800 := by
  obtain ⟨x, hx, e1, e2, hm, hbest⟩ := pickC_spec hw h.ne
  rw [e1] at e2 ⊢
  have heach := hw.each _ (cut_mem hx)
  have i1 : (cutT x).1 = x.1 := rfl
  rw [i1] at heach
  have hm1 : x.1 ≠ -1 := by omega
  have hge := h.ge hx
  have hst := stepV_bd x.2.1
  have htk : tickV x.2.1 = stepV x.2.1 := rfl
  have hxd := hd x hx
  -- the least one may run
  have hv : x.2.2.1 + stepV x.2.1 ≤ base + 1163962800 := by
    obtain ⟨y, hy, hyb, hye⟩ := low_mem h.ne (fun _ => by have := h.at0; omega : Low base (cutL T))
    have hmy : mayI T (dayI y) = true := by
      unfold mayI
      rw [decide_eq_true_eq]
      have := sum_least (base := 0) (m := y.2.2.1) (l := T) (fun z hz => ⟨by
        have h1 := minR_le (cut_mem hz)
        have e : (cutT z).2.2 = z.2.2.1 := rfl
        rw [e] at h1
        omega, by have := wgt_of hw hz; omega⟩)
      rw [Int.sub_zero] at this
      exact this
    have h1 := dueB_false.1 (hbest y hy hmy)
    have f1 : (dayI y).2.1 = y.2.2.2 := rfl
    have f2 : (dayI x).2.1 = x.2.2.2 := rfl
    rw [f1, f2] at h1
    have hyd := hd y hy
    have hty := tickV_bd y.2.1
    omega
  obtain ⟨T', hT'⟩ : ∃ T', updU T x.1 chaT = T' := ⟨_, rfl⟩
  have hne : T' ≠ [] := fun e => by
    have := length_updU T x.1 chaT
    rw [hT', e] at this
    simp at this
    exact h.ne (List.eq_nil_of_length_eq_zero (by omega))
  have hall : ∀ z ∈ T', base ≤ z.2.2.1 ∧ z.2.2.1 ≤ base + 1163962800 := fun z hz => by
    rw [← hT'] at hz
    rcases mem_updU hz with ⟨y, hy, he, rfl⟩ | ⟨hz, _⟩
    · obtain rfl := uniqU hw.asc hy hx he
      have e : (chaT y).2.2.1 = y.2.2.1 + tickV y.2.1 := rfl
      rw [e]; omega
    · exact ⟨h.ge hz, h.le z hz⟩
  have hne' : cutL T' ≠ [] := fun e => hne (cut_nil.1 e)
  obtain ⟨r, hr, hr1, _⟩ := minR_mem hne'
  obtain ⟨p, hp, rfl⟩ := List.mem_map.1 hr
  have hpb := hall p hp
  have e3 : (cutT p).2.2 = p.2.2.1 := rfl
  rw [e3] at hr1
  rw [hT']
  refine ⟨raiseM base (cutL T'), ?_, ⟨hne, ?_, fun z hz => ?_⟩, raiseM_ge _ _, ?_⟩
  · unfold chargeU
    rw [if_neg hm1, e2, if_neg (by omega), hT']
  · unfold raiseM; rw [if_neg hne']; omega
  · unfold raiseM; rw [if_neg hne']
    have := hall z hz; omega
  · unfold raiseM; rw [if_neg hne']; omega
end Go.Proofs.YtandmngfajoinaaGreat
