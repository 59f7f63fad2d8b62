/- Moved by d, over the tags; sums of weights. -/
import Derived.Test.YtandmngfajoinaaGreatJn
namespace Go.Proofs.YtandmngfajoinaaGreat.Po
open Go.RowKit

/-! Moved by d -/
def mvI (d : Int) (r : RI) : RI := (r.1, r.2.1, r.2.2 + d)
def shR (d : Int) (R : List RI) : List RI := R.map (mvI d)
theorem sh_nil {d : Int} {R : List RI} : shR d R = [] ↔ R = [] := by unfold shR; simp
theorem sh_has (d : Int) (R : List RI) (id : Int) : hasI (shR d R) id = hasI R id := has_map (f := mvI d) (fun _ => rfl) id
theorem sh_len (d : Int) (R : List RI) : (shR d R).length = R.length := by unfold shR; simp
theorem sh_asc {d : Int} {R : List RI} (h : AscR R) : AscR (shR d R) := asc_map (f := mvI d) h (fun _ => rfl)
theorem sh_get {d : Int} {R : List RI} (h : AscR R) {id : Int} (hi : hasI R id = true) : getI (shR d R) id = mvI d (getI R id) := by
  obtain ⟨h1, h2⟩ := getI_mem hi
  have hm : mvI d (getI R id) ∈ shR d R := by unfold shR; exact List.mem_map.2 ⟨_, h1, rfl⟩
  have := getI_of (sh_asc h) hm
  rw [show (mvI d (getI R id)).1 = id from h2] at this
  exact this
theorem sh_ins (d : Int) (R : List RI) (x : RI) : insR (shR d R) (mvI d x) = shR d (insR R x) := by
  induction R with
  | nil => rfl
  | cons y ys ih =>
    show insR (mvI d y :: shR d ys) (mvI d x) = shR d (insR (y :: ys) x)
    unfold insR
    by_cases h : y.1 < x.1
    · rw [if_pos (show (mvI d y).1 < (mvI d x).1 from h), if_pos h, ih]; rfl
    · rw [if_neg (show ¬ (mvI d y).1 < (mvI d x).1 from h), if_neg h]; rfl
theorem sh_del (d : Int) (R : List RI) (id : Int) : delI (shR d R) id = shR d (delI R id) := by
  unfold delI shR
  rw [List.filter_map]
  rfl
theorem sh_wgt (d : Int) (R : List RI) (id n : Int) : wgtI (shR d R) id n = shR d (wgtI R id n) := by
  unfold wgtI shR
  rw [List.map_map, List.map_map]
  refine List.map_congr_left (fun r _ => ?_)
  simp only [Function.comp, mvI]
  by_cases h : r.1 = id <;> simp [h]
theorem sh_chg (d : Int) (R : List RI) (id v : Int) : chgI (shR d R) id (v + d) = shR d (chgI R id v) := by
  unfold chgI shR
  rw [List.map_map, List.map_map]
  refine List.map_congr_left (fun r _ => ?_)
  simp only [Function.comp, mvI]
  by_cases h : r.1 = id <;> simp [h]
theorem sh_min {d : Int} {R : List RI} (h : R ≠ []) : minR (shR d R) = ((minR R).1 + d, (minR R).2) := by
  obtain ⟨q, hq, h1, h2⟩ := minR_mem h
  refine minR_eq ⟨mvI d q, by unfold shR; exact List.mem_map.2 ⟨q, hq, rfl⟩, by show q.2.2 + d = _; rw [h1], h2⟩ (fun r hr => ?_)
  unfold shR at hr
  obtain ⟨z, hz, rfl⟩ := List.mem_map.1 hr
  have := minR_le hz
  show (minR R).1 + d < z.2.2 + d ∨ ((minR R).1 + d = z.2.2 + d ∧ (minR R).2 ≤ z.1)
  omega
theorem sh_raise (d base : Int) (R : List RI) : raiseM (base + d) (shR d R) = raiseM base R + d := by
  unfold raiseM
  by_cases h : R = []
  · rw [if_pos h, if_pos (sh_nil.2 h)]
  · rw [if_neg h, if_neg (fun e => h (sh_nil.1 e)), sh_min h]
    simp only
    omega
theorem sh_form (d base : Int) (R : List RI) : formL (base + d) (shR d R) = formL base R := by
  unfold formL shR
  rw [List.map_map]
  refine List.map_congr_left (fun r _ => ?_)
  simp only [Function.comp, mvI]
  congr 2
  omega
theorem sh_add (d base : Int) (R : List RI) (x : RI) : addM (base + d) (shR d R) x = ((addM base R x).1, shR d (addM base R x).2) := by
  unfold addM
  rw [sh_has, sh_len]
  split
  · rfl
  · split
    · rfl
    · have e : ((x.1, x.2.1, base + d - x.2.2) : RI) = mvI d (x.1, x.2.1, base - x.2.2) := by unfold mvI; simp only; congr 2; omega
      rw [e, sh_ins]
theorem sh_put (d base : Int) (R : List RI) (x : RI) : putM (base + d) (shR d R) x = ((putM base R x).1, (putM base R x).2.1 + d, shR d (putM base R x).2.2) := by
  unfold putM
  rw [sh_add]
  split
  · simp only
    split
    · rw [sh_raise]
    · rfl
  · rfl
def mvT (d : Int) (x : TI) : TI := (x.1, x.2.1, x.2.2.1 + d, x.2.2.2 + d)
def shU (d : Int) (T : List TI) : List TI := T.map (mvT d)
theorem shU_cut (d : Int) (T : List TI) : cutL (shU d T) = shR d (cutL T) := by
  unfold cutL shU shR
  rw [List.map_map, List.map_map]
  rfl
theorem shU_nil {d : Int} {T : List TI} : shU d T = [] ↔ T = [] := by unfold shU; simp
theorem shU_len (d : Int) (T : List TI) : (shU d T).length = T.length := by unfold shU; simp
theorem shU_mem {d : Int} {T : List TI} {x : TI} (h : x ∈ T) : mvT d x ∈ shU d T := List.mem_map.2 ⟨x, h, rfl⟩
theorem shU_asc {d : Int} {T : List TI} (h : AscR (cutL T)) : AscR (cutL (shU d T)) := by rw [shU_cut]; exact sh_asc h
theorem shU_get {d : Int} {T : List TI} (h : AscR (cutL T)) {id : Int} (hi : hasI (cutL T) id = true) : getU (shU d T) id = mvT d (getU T id) := by
  obtain ⟨h1, h2⟩ := getU_mem hi
  have := getU_of (shU_asc (d := d) h) (shU_mem (d := d) h1)
  rwa [show (mvT d (getU T id)).1 = id from h2] at this
theorem shU_ins (d : Int) (T : List TI) (x : TI) : insTT (shU d T) (mvT d x) = shU d (insTT T x) := by
  induction T with
  | nil => rfl
  | cons y ys ih =>
    show insTT (mvT d y :: shU d ys) (mvT d x) = shU d (insTT (y :: ys) x)
    unfold insTT
    by_cases h : y.1 < x.1
    · rw [if_pos (show (mvT d y).1 < (mvT d x).1 from h), if_pos h, ih]; rfl
    · rw [if_neg (show ¬ (mvT d y).1 < (mvT d x).1 from h), if_neg h]; rfl
theorem shU_del (d : Int) (T : List TI) (id : Int) : delU (shU d T) id = shU d (delU T id) := by
  unfold delU shU
  rw [List.filter_map]
  rfl
theorem shU_upd (d : Int) (T : List TI) (id : Int) {f : TI → TI} (hf : ∀ x, f (mvT d x) = mvT d (f x)) : updU (shU d T) id f = shU d (updU T id f) := by
  unfold updU shU
  rw [List.map_map, List.map_map]
  refine List.map_congr_left (fun x _ => ?_)
  simp only [Function.comp]
  by_cases h : x.1 = id
  · rw [if_pos h, if_pos (show (mvT d x).1 = id from h), hf]
  · rw [if_neg h, if_neg (show ¬ (mvT d x).1 = id from h)]
theorem wei_mv (d n : Int) (x : TI) : weiT n (mvT d x) = mvT d (weiT n x) := by
  unfold weiT mvT
  simp only
  congr 3
  omega
theorem cha_mv (d : Int) (x : TI) : chaT (mvT d x) = mvT d (chaT x) := by
  unfold chaT mvT
  simp only
  congr 2
  refine Prod.ext (by simp only; omega) ?_
  simp only
  by_cases h : x.2.2.2 ≤ x.2.2.1 + tickV x.2.1
  · rw [if_pos h, if_pos (by omega)]; omega
  · rw [if_neg h, if_neg (by omega)]
theorem new_mv (d base : Int) (x : RI) : newU (base + d) x = mvT d (newU base x) := by
  unfold newU mvT
  simp only
  congr 2
  refine Prod.ext (by simp only; omega) (by simp only; omega)
theorem shU_raise (d base : Int) (T : List TI) : raiseM (base + d) (cutL (shU d T)) = raiseM base (cutL T) + d := by rw [shU_cut, sh_raise]
theorem shU_form (d base : Int) (T : List TI) : formU (base + d) (shU d T) = formU base T := by unfold formU; rw [shU_cut, sh_form]
theorem shU_has (d : Int) (T : List TI) (id : Int) : hasI (cutL (shU d T)) id = hasI (cutL T) id := by rw [shU_cut, sh_has]
theorem shU_put (d base : Int) (T : List TI) (x : RI) : putU (base + d) (shU d T) x = ((putU base T x).1, (putU base T x).2.1 + d, shU d (putU base T x).2.2) := by
  unfold putU
  rw [shU_has, shU_len, new_mv, shU_ins, shU_raise]
  split
  · split
    · rfl
    · split <;> rfl
  · rfl
theorem shU_enter (d base : Int) (T : List TI) (x : RI) : enterU (base + d) (shU d T) x = ((enterU base T x).1, (enterU base T x).2.1 + d, shU d (enterU base T x).2.2) := by
  unfold enterU
  split
  · exact shU_put d base T _
  · rfl
theorem shU_leave {d base cur : Int} {T : List TI} (h : AscR (cutL T)) (id : Int) : leaveU (base + d) cur (shU d T) id = ((leaveU base cur T id).1, (leaveU base cur T id).2.1, (leaveU base cur T id).2.2.1 + d, (leaveU base cur T id).2.2.2.1, shU d (leaveU base cur T id).2.2.2.2) := by
  unfold leaveU
  rw [shU_has, shU_del, shU_raise]
  split
  · rename_i hi
    rw [shU_get h hi]
    have e : base + d - (mvT d (getU T id)).2.2.1 = base - (getU T id).2.2.1 := by show base + d - ((getU T id).2.2.1 + d) = _; omega
    rw [e]
  · rfl
theorem shU_weigh (d : Int) (T : List TI) (id n : Int) : weighU (shU d T) id n = ((weighU T id n).1, shU d (weighU T id n).2) := by
  unfold weighU
  rw [shU_has, shU_upd d T id (wei_mv d n)]
  split
  · split <;> rfl
  · rfl
theorem shU_charge {d base cur : Int} {T : List TI} {k : Nat} (hw : WfS base cur (cutL T)) (h1 : Up base (cutL T) k) (h2 : Up (base + d) (cutL (shU d T)) k) (hk : k ≤ 900) :
    chargeU (base + d) cur (shU d T) = ((chargeU base cur T).1, (chargeU base cur T).2.1, (chargeU base cur T).2.2.1 + d, shU d (chargeU base cur T).2.2.2) := by
  unfold chargeU
  split
  · rfl
  · rename_i hc
    have hI : hasI (cutL T) cur = true := by rcases hw.cur with h1 | h1; exact absurd h1 hc; exact h1
    rw [shU_get hw.asc hI]
    have hm := (getU_mem hI).1
    have e1 := h1.each _ (cut_mem hm)
    have e2 := h2.each _ (cut_mem (shU_mem (d := d) hm))
    have hst := stepV_bd (getU T cur).2.1
    have i1 : (cutT (getU T cur)).2.2 = (getU T cur).2.2.1 := rfl
    have i2 : (cutT (mvT d (getU T cur))).2.2 = (getU T cur).2.2.1 + d := rfl
    have i3 : (mvT d (getU T cur)).2.1 = (getU T cur).2.1 := rfl
    have i4 : (mvT d (getU T cur)).2.2.1 = (getU T cur).2.2.1 + d := rfl
    rw [i1] at e1
    rw [i2] at e2
    rw [i3, i4, if_neg (by omega), if_neg (by omega), shU_upd d T cur (cha_mv d), shU_raise]
theorem shU_all (d : Int) (T : List TI) : allT (shU d T) = allT T ∧ sumT 0 (shU d T) = sumT 0 T + d * allT T := by
  induction T with
  | nil => simp [shU, allT, sumT]
  | cons x xs ih =>
    have e1 : allT (shU d (x :: xs)) = allT (shU d xs) + x.2.1 := rfl
    have e2 : sumT 0 (shU d (x :: xs)) = sumT 0 (shU d xs) + (x.2.2.1 + d - 0) * x.2.1 := rfl
    have e3 : allT (x :: xs) = allT xs + x.2.1 := rfl
    have e4 : sumT 0 (x :: xs) = sumT 0 xs + (x.2.2.1 - 0) * x.2.1 := rfl
    rw [e1, e2, e3, e4, ih.1, ih.2, Int.sub_zero, Int.sub_zero, Int.add_mul, Int.mul_add]
    refine ⟨rfl, ?_⟩
    omega
theorem shU_may (d : Int) (T : List TI) (x : TI) : mayI (shU d T) (dayI (mvT d x)) = mayI T (dayI x) := by
  unfold mayI
  rw [(shU_all d T).1, (shU_all d T).2]
  have e1 : (dayI (mvT d x)).1 = x.2.2.1 + d := rfl
  have e2 : (dayI x).1 = x.2.2.1 := rfl
  rw [e1, e2, Int.add_mul, Bool.eq_iff_iff, decide_eq_true_eq, decide_eq_true_eq]
  omega
theorem shU_pick {b0 c0 : Int} (d : Int) {T : List TI} (hw : WfS b0 c0 (cutL T)) : pickC (shU d T) = pickC T := by
  by_cases hT : T = []
  · subst hT; rfl
  · obtain ⟨x, hx, e1, e2, hm, hb⟩ := pickC_spec hw hT
    have hp := pick_best (shU_asc (d := d) hw.asc) (shU_mem (d := d) hx) (by rw [shU_may]; exact hm) (fun y hy hm' => by
      obtain ⟨z, hz, rfl⟩ := List.mem_map.1 hy
      rw [shU_may] at hm'
      have h1 := dueB_false.1 (hb z hz hm')
      refine dueB_false.2 ?_
      have f1 : (dayI (mvT d x)).2.1 = (dayI x).2.1 + d := rfl
      have f2 : (dayI (mvT d z)).2.1 = (dayI z).2.1 + d := rfl
      have f3 : (dayI (mvT d x)).2.2 = (dayI x).2.2 := rfl
      have f4 : (dayI (mvT d z)).2.2 = (dayI z).2.2 := rfl
      rw [f1, f2, f3, f4]
      omega)
    rw [e1]
    unfold pickC pickU
    rw [if_neg (fun e => hT (shU_nil.1 e)), hp]
    rfl
theorem shU_pickV {b0 c0 : Int} (d : Int) {T : List TI} (hw : WfS b0 c0 (cutL T)) : pickV (shU d T) = pickV T := by
  have h := shU_pick d hw
  unfold pickC at h
  unfold pickV
  by_cases hT : T = []
  · rw [if_pos hT, if_pos (shU_nil.2 hT)]
  · rw [if_neg hT, if_neg (fun e => hT (shU_nil.1 e))] at h ⊢
    exact h
theorem shU_pickB (d : Int) (T : List TI) : pickB (shU d T) = pickB T := by
  unfold pickB
  by_cases h : T = []
  · rw [decide_eq_true h, decide_eq_true (shU_nil.2 h)]
  · rw [decide_eq_false h, decide_eq_false (fun e => h (shU_nil.1 e))]
theorem shU_seed (a b : Int) (l : List RI) : seedU b l = shU (b - a) (seedU a l) := by
  unfold seedU shU
  rw [List.map_map]
  refine List.map_congr_left (fun r _ => ?_)
  simp only [Function.comp]
  rw [← new_mv]
  congr 1
  omega
/-! By the tag -/
theorem sh_entP (t d base : Int) (T : List TI) (x : RI) : entP t (base + d) (shU d T) x = ((entP t base T x).1, (entP t base T x).2.1 + d, shU d (entP t base T x).2.2) := by
  rw [ent_put, ent_put]
  split
  · exact shU_put d base T _
  · rfl
theorem sh_pickP {t cur b0 c0 : Int} (ht : Tag t) (d : Int) {T : List TI} (hw : WfS b0 c0 (cutL T)) : pickPC t cur (shU d T) = pickPC t cur T := by
  by_cases hT : T = []
  · subst hT; rfl
  · have hc : cutL T ≠ [] := fun e => hT (cut_nil.1 e)
    unfold pickPC
    rw [if_neg hT, if_neg (fun e => hT (shU_nil.1 e))]
    unfold pickP
    rcases ht with rfl | rfl | rfl
    · rw [if_pos rfl, if_pos rfl, shU_cut, sh_min hc]
    · rw [if_neg (by decide), if_pos rfl, if_neg (by decide), if_pos rfl, shU_cut]
      unfold Fa.pickC
      rw [if_neg hc, if_neg (fun e => hc (sh_nil.1 e)), sh_has, sh_min hc]
      by_cases hI : hasI (cutL T) cur = true
      · rw [if_pos hI, if_pos hI, sh_get hw.asc hI]
        have e : (mvI d (getI (cutL T) cur)).2.2 = (getI (cutL T) cur).2.2 + d := rfl
        rw [e]
        by_cases hf : (minR (cutL T)).1 < (getI (cutL T) cur).2.2 - 465585120
        · rw [if_pos hf, if_pos (by show (minR (cutL T)).1 + d < _; omega)]
        · rw [if_neg hf, if_neg (by show ¬ ((minR (cutL T)).1 + d < _); omega)]
      · rw [if_neg hI, if_neg hI]
    · rw [if_neg (by decide), if_neg (by decide), if_neg (by decide), if_neg (by decide)]
      have h := shU_pick d hw
      unfold pickC at h
      rw [if_neg hT, if_neg (fun e => hT (shU_nil.1 e))] at h
      exact h

/-! Sums of weights -/
theorem allT_ins (T : List TI) (x : TI) : allT (insTT T x) = allT T + x.2.1 := by
  induction T with
  | nil => rfl
  | cons y ys ih =>
    unfold insTT
    split
    · show allT (insTT ys x) + y.2.1 = allT ys + y.2.1 + x.2.1
      rw [ih]; omega
    · rfl
theorem delU_no {T : List TI} {id : Int} (h : ∀ x ∈ T, x.1 ≠ id) : delU T id = T := by
  unfold delU
  rw [List.filter_eq_self]
  intro x hx
  simp [h x hx]
theorem allT_del : ∀ {T : List TI}, AscR (cutL T) → ∀ {x : TI}, x ∈ T → allT (delU T x.1) = allT T - x.2.1
  | [], _, x, h => by simp at h
  | y :: T, ha, x, h => by
    have ha' : AscR (cutT y :: cutL T) := ha
    obtain ⟨h1, h2⟩ := List.pairwise_cons.1 ha'
    rcases List.mem_cons.1 h with rfl | h
    · have hn : ∀ z ∈ T, z.1 ≠ x.1 := fun z hz => by
        have := h1 _ (cut_mem hz)
        have e1 : (cutT z).1 = z.1 := rfl
        have e2 : (cutT x).1 = x.1 := rfl
        omega
      have e : delU (x :: T) x.1 = delU T x.1 := by unfold delU; rw [List.filter_cons, if_neg (by simp)]
      rw [e, delU_no hn]
      show _ = allT T + x.2.1 - x.2.1
      omega
    · have hn : y.1 ≠ x.1 := by
        have := h1 _ (cut_mem h)
        have e1 : (cutT x).1 = x.1 := rfl
        have e2 : (cutT y).1 = y.1 := rfl
        omega
      have e : delU (y :: T) x.1 = y :: delU T x.1 := by unfold delU; rw [List.filter_cons, if_pos (by simp [hn])]
      rw [e]
      show allT (delU T x.1) + y.2.1 = allT T + y.2.1 - x.2.1
      rw [allT_del h2 h]; omega
theorem allT_cha (T : List TI) (id : Int) : allT (updU T id chaT) = allT T := allT_of (upd_ids T id)
theorem allT_form (base : Int) (T : List TI) : allW (formU base T) = allT T := by
  have h : ∀ R : List RI, allW (formL base R) = allW R := fun R => by
    induction R with
    | nil => rfl
    | cons r R ih =>
      show r.2.1 + allW (formL base R) = r.2.1 + allW R
      rw [ih]
  unfold formU
  rw [h]
  exact (sumW_cut T).2
end Go.Proofs.YtandmngfajoinaaGreat.Po
