/- due: how far the points get; tasks moved by d. Plain theory. due: two queues that differ in their base, call by call. -/
import Derived.Test.YtnfcapeajhegmabGreatUm
import Derived.Test.YtnfcapeajhegmabGreatUh5
namespace Go.Proofs.YtnfcapeajhegmabGreat
open Go.RowKit

/-! How far -/
structure Up (base : Int) (R : List RI) (k : Nat) : Prop where
  lo : -1152921504606846976 ≤ base
  hi : base ≤ 1152921504606846976 + 1125899906842624 * ((k + 1 : Nat) : Int)
  each : ∀ r ∈ R, r.2.2 ≤ 1152921504606846976 + 1125899906842624 * ((k + 1 : Nat) : Int)
theorem Up.more {base : Int} {R : List RI} {k : Nat} (h : Up base R k) : Up base R (k + 1) :=
  ⟨h.lo, by have := h.hi; omega, fun r hr => by have := h.each r hr; omega⟩
theorem Up.raise {base : Int} {R : List RI} {k : Nat} (h : Up base R k) : Up (raiseM base R) R k := by
  have h1 := raiseM_ge base R
  refine ⟨by have := h.lo; omega, ?_, h.each⟩
  unfold raiseM
  split
  · exact h.hi
  · rename_i hR
    obtain ⟨q, hq, h2, _⟩ := minR_mem hR
    have := h.each q hq
    have := h.hi
    omega
theorem put_up {base : Int} {R : List RI} {k : Nat} (x : RI) (h : Up base R k) : Up (putM base R x).2.1 (putM base R x).2.2 (k + 1) := by
  unfold putM
  split
  · rename_i hi
    rcases addM_cases base R x with ⟨h1, h2⟩ | ⟨h1, h2, h3⟩
    · rw [if_neg h2]; exact h.more
    · rw [h3, if_pos rfl]
      have hb := itemB_true.1 hi
      refine Up.raise ⟨h.lo, by have := h.hi; omega, fun r hr => ?_⟩
      rcases mem_insR.1 hr with rfl | hr
      · have := h.hi; simp only; omega
      · have := h.each r hr; omega
  · exact h.more
theorem leave_up {base cur : Int} {R : List RI} {k : Nat} (id : Int) (h : Up base R k) : Up (leaveM base cur R id).2.2.1 (leaveM base cur R id).2.2.2.2 (k + 1) := by
  unfold leaveM
  split
  · exact (Up.raise (R := delI R id) ⟨h.lo, h.hi, fun r hr => h.each r (mem_delI.1 hr).1⟩).more
  · exact h.more
theorem weigh_up {base : Int} {R : List RI} {k : Nat} (id n : Int) (h : Up base R k) : Up base (weighM R id n).2 (k + 1) := by
  unfold weighM
  split
  · split
    · refine Up.more ⟨h.lo, h.hi, fun r hr => ?_⟩
      rcases mem_wgt hr with ⟨q, hq, _, rfl⟩ | ⟨hr, _⟩
      · exact h.each q hq
      · exact h.each r hr
    · exact h.more
  · exact h.more
theorem charge_up {base cur : Int} {R : List RI} {k : Nat} (hw : WfS base cur R) (h : Up base R k) : Up (chargeM base cur R).2.2.1 (chargeM base cur R).2.2.2 (k + 1) := by
  unfold chargeM
  split
  · exact h.more
  · split
    · exact h.more
    · rename_i hc _
      have hst := stepV_bd (getI R cur).2.1
      have hI : hasI R cur = true := by rcases hw.cur with h1 | h1; exact absurd h1 hc; exact h1
      have hm := h.each _ (getI_mem hI).1
      refine Up.raise ⟨h.lo, by have := h.hi; omega, fun r hr => ?_⟩
      rcases mem_chg hr with ⟨q, hq, _, rfl⟩ | ⟨hr, _⟩
      · simp only; omega
      · have := h.each r hr; omega
theorem seed_up {base f0 : Int} {l : List RI} (h : goodV f0 l = true) (h1 : -1152921504606846976 ≤ base) (h2 : base ≤ 1152921504606846976) : Up base (seedR base l) 0 := by
  have hg := goodV_of h
  refine ⟨h1, by omega, fun r hr => ?_⟩
  unfold seedR at hr
  obtain ⟨q, hq, rfl⟩ := List.mem_map.1 hr
  have := itemB_true.1 (hg.each q hq)
  simp only; omega

/-! Moved by d -/
def mvI (d : Int) (r : RI) : RI := (r.1, r.2.1, r.2.2 + d)
def shR (d : Int) (R : List RI) : List RI := R.map (mvI d)
theorem sh_nil {d : Int} {R : List RI} : shR d R = [] ↔ R = [] := by unfold shR; simp
theorem sh_has (d : Int) (R : List RI) (id : Int) : hasI (shR d R) id = hasI R id := has_map (f := mvI d) (fun _ => rfl) id
theorem sh_len (d : Int) (R : List RI) : (shR d R).length = R.length := by unfold shR; simp
theorem sh_asc {d : Int} {R : List RI} (h : AscR R) : AscR (shR d R) := asc_map (f := mvI d) h (fun _ => rfl)
theorem sh_get {d : Int} {R : List RI} (h : AscR R) {id : Int} (hi : hasI R id = true) : getI (shR d R) id = mvI d (getI R id) := by
  obtain ⟨h1, h2⟩ := getI_mem hi
  have hm : mvI d (getI R id) ∈ shR d R := by unfold shR; exact List.mem_map.2 ⟨_, h1, rfl⟩
  have := getI_of (sh_asc h) hm
  rw [show (mvI d (getI R id)).1 = id from h2] at this
  exact this
theorem sh_ins (d : Int) (R : List RI) (x : RI) : insR (shR d R) (mvI d x) = shR d (insR R x) := by
  induction R with
  | nil => rfl
  | cons y ys ih =>
    show insR (mvI d y :: shR d ys) (mvI d x) = shR d (insR (y :: ys) x)
    unfold insR
    by_cases h : y.1 < x.1
    · rw [if_pos (show (mvI d y).1 < (mvI d x).1 from h), if_pos h, ih]; rfl
    · rw [if_neg (show ¬ (mvI d y).1 < (mvI d x).1 from h), if_neg h]; rfl
theorem sh_del (d : Int) (R : List RI) (id : Int) : delI (shR d R) id = shR d (delI R id) := by
  unfold delI shR
  rw [List.filter_map]
  rfl
theorem sh_wgt (d : Int) (R : List RI) (id n : Int) : wgtI (shR d R) id n = shR d (wgtI R id n) := by
  unfold wgtI shR
  rw [List.map_map, List.map_map]
  refine List.map_congr_left (fun r _ => ?_)
  simp only [Function.comp, mvI]
  by_cases h : r.1 = id <;> simp [h]
theorem sh_chg (d : Int) (R : List RI) (id v : Int) : chgI (shR d R) id (v + d) = shR d (chgI R id v) := by
  unfold chgI shR
  rw [List.map_map, List.map_map]
  refine List.map_congr_left (fun r _ => ?_)
  simp only [Function.comp, mvI]
  by_cases h : r.1 = id <;> simp [h]
theorem sh_min {d : Int} {R : List RI} (h : R ≠ []) : minR (shR d R) = ((minR R).1 + d, (minR R).2) := by
  obtain ⟨q, hq, h1, h2⟩ := minR_mem h
  refine minR_eq ⟨mvI d q, by unfold shR; exact List.mem_map.2 ⟨q, hq, rfl⟩, by show q.2.2 + d = _; rw [h1], h2⟩ (fun r hr => ?_)
  unfold shR at hr
  obtain ⟨z, hz, rfl⟩ := List.mem_map.1 hr
  have := minR_le hz
  show (minR R).1 + d < z.2.2 + d ∨ ((minR R).1 + d = z.2.2 + d ∧ (minR R).2 ≤ z.1)
  omega
theorem sh_raise (d base : Int) (R : List RI) : raiseM (base + d) (shR d R) = raiseM base R + d := by
  unfold raiseM
  by_cases h : R = []
  · rw [if_pos h, if_pos (sh_nil.2 h)]
  · rw [if_neg h, if_neg (fun e => h (sh_nil.1 e)), sh_min h]
    simp only
    omega
theorem sh_form (d base : Int) (R : List RI) : formL (base + d) (shR d R) = formL base R := by
  unfold formL shR
  rw [List.map_map]
  refine List.map_congr_left (fun r _ => ?_)
  simp only [Function.comp, mvI]
  congr 2
  omega
theorem sh_add (d base : Int) (R : List RI) (x : RI) : addM (base + d) (shR d R) x = ((addM base R x).1, shR d (addM base R x).2) := by
  unfold addM
  rw [sh_has, sh_len]
  split
  · rfl
  · split
    · rfl
    · have e : ((x.1, x.2.1, base + d - x.2.2) : RI) = mvI d (x.1, x.2.1, base - x.2.2) := by unfold mvI; simp only; congr 2; omega
      rw [e, sh_ins]
theorem sh_put (d base : Int) (R : List RI) (x : RI) : putM (base + d) (shR d R) x = ((putM base R x).1, (putM base R x).2.1 + d, shR d (putM base R x).2.2) := by
  unfold putM
  rw [sh_add]
  split
  · simp only
    split
    · rw [sh_raise]
    · rfl
  · rfl

/-! In the words of the tasks with their days -/
theorem putU_up {base : Int} {T : List TI} {k : Nat} (x : RI) (h : Up base (cutL T) k) : Up (putU base T x).2.1 (cutL (putU base T x).2.2) (k + 1) := by
  have := put_up x h
  rwa [put_cut] at this
theorem enter_up {base : Int} {T : List TI} {k : Nat} (x : RI) (h : Up base (cutL T) k) : Up (enterU base T x).2.1 (cutL (enterU base T x).2.2) (k + 1) := by
  unfold enterU
  split
  · exact putU_up _ h
  · exact h.more
theorem leaveU_up {base cur : Int} {T : List TI} {k : Nat} (ha : AscR (cutL T)) (id : Int) (h : Up base (cutL T) k) : Up (leaveU base cur T id).2.2.1 (cutL (leaveU base cur T id).2.2.2.2) (k + 1) := by
  have := leave_up (cur := cur) id h
  rwa [leave_cut ha] at this
theorem weighU_up {base : Int} {T : List TI} {k : Nat} (id n : Int) (h : Up base (cutL T) k) : Up base (cutL (weighU T id n).2) (k + 1) := by
  have := weigh_up id n h
  rwa [weigh_cut] at this
theorem chargeU_up {base cur : Int} {T : List TI} {k : Nat} (hw : WfS base cur (cutL T)) (h : Up base (cutL T) k) : Up (chargeU base cur T).2.2.1 (cutL (chargeU base cur T).2.2.2) (k + 1) := by
  have := charge_up hw h
  rwa [charge_cut hw.asc hw.cur] at this

def mvT (d : Int) (x : TI) : TI := (x.1, x.2.1, x.2.2.1 + d, x.2.2.2 + d)
def shU (d : Int) (T : List TI) : List TI := T.map (mvT d)
theorem shU_cut (d : Int) (T : List TI) : cutL (shU d T) = shR d (cutL T) := by
  unfold cutL shU shR
  rw [List.map_map, List.map_map]
  rfl
theorem shU_nil {d : Int} {T : List TI} : shU d T = [] ↔ T = [] := by unfold shU; simp
theorem shU_len (d : Int) (T : List TI) : (shU d T).length = T.length := by unfold shU; simp
theorem shU_mem {d : Int} {T : List TI} {x : TI} (h : x ∈ T) : mvT d x ∈ shU d T := List.mem_map.2 ⟨x, h, rfl⟩
theorem shU_asc {d : Int} {T : List TI} (h : AscR (cutL T)) : AscR (cutL (shU d T)) := by rw [shU_cut]; exact sh_asc h
theorem shU_get {d : Int} {T : List TI} (h : AscR (cutL T)) {id : Int} (hi : hasI (cutL T) id = true) : getU (shU d T) id = mvT d (getU T id) := by
  obtain ⟨h1, h2⟩ := getU_mem hi
  have := getU_of (shU_asc (d := d) h) (shU_mem (d := d) h1)
  rwa [show (mvT d (getU T id)).1 = id from h2] at this
theorem shU_ins (d : Int) (T : List TI) (x : TI) : insTT (shU d T) (mvT d x) = shU d (insTT T x) := by
  induction T with
  | nil => rfl
  | cons y ys ih =>
    show insTT (mvT d y :: shU d ys) (mvT d x) = shU d (insTT (y :: ys) x)
    unfold insTT
    by_cases h : y.1 < x.1
    · rw [if_pos (show (mvT d y).1 < (mvT d x).1 from h), if_pos h, ih]; rfl
    · rw [if_neg (show ¬ (mvT d y).1 < (mvT d x).1 from h), if_neg h]; rfl
theorem shU_del (d : Int) (T : List TI) (id : Int) : delU (shU d T) id = shU d (delU T id) := by
  unfold delU shU
  rw [List.filter_map]
  rfl
theorem shU_upd (d : Int) (T : List TI) (id : Int) {f : TI → TI} (hf : ∀ x, f (mvT d x) = mvT d (f x)) : updU (shU d T) id f = shU d (updU T id f) := by
  unfold updU shU
  rw [List.map_map, List.map_map]
  refine List.map_congr_left (fun x _ => ?_)
  simp only [Function.comp]
  by_cases h : x.1 = id
  · rw [if_pos h, if_pos (show (mvT d x).1 = id from h), hf]
  · rw [if_neg h, if_neg (show ¬ (mvT d x).1 = id from h)]
theorem wei_mv (d n : Int) (x : TI) : weiT n (mvT d x) = mvT d (weiT n x) := by
  unfold weiT mvT
  simp only
  congr 3
  omega
theorem cha_mv (d : Int) (x : TI) : chaT (mvT d x) = mvT d (chaT x) := by
  unfold chaT mvT
  simp only
  congr 2
  refine Prod.ext (by simp only; omega) ?_
  simp only
  by_cases h : x.2.2.2 ≤ x.2.2.1 + tickV x.2.1
  · rw [if_pos h, if_pos (by omega)]; omega
  · rw [if_neg h, if_neg (by omega)]
theorem new_mv (d base : Int) (x : RI) : newU (base + d) x = mvT d (newU base x) := by
  unfold newU mvT
  simp only
  congr 2
  refine Prod.ext (by simp only; omega) (by simp only; omega)
theorem shU_raise (d base : Int) (T : List TI) : raiseM (base + d) (cutL (shU d T)) = raiseM base (cutL T) + d := by rw [shU_cut, sh_raise]
theorem shU_form (d base : Int) (T : List TI) : formU (base + d) (shU d T) = formU base T := by unfold formU; rw [shU_cut, sh_form]
theorem shU_has (d : Int) (T : List TI) (id : Int) : hasI (cutL (shU d T)) id = hasI (cutL T) id := by rw [shU_cut, sh_has]
theorem shU_put (d base : Int) (T : List TI) (x : RI) : putU (base + d) (shU d T) x = ((putU base T x).1, (putU base T x).2.1 + d, shU d (putU base T x).2.2) := by
  unfold putU
  rw [shU_has, shU_len, new_mv, shU_ins, shU_raise]
  split
  · split
    · rfl
    · split <;> rfl
  · rfl
theorem shU_enter (d base : Int) (T : List TI) (x : RI) : enterU (base + d) (shU d T) x = ((enterU base T x).1, (enterU base T x).2.1 + d, shU d (enterU base T x).2.2) := by
  unfold enterU
  split
  · exact shU_put d base T _
  · rfl
theorem shU_leave {d base cur : Int} {T : List TI} (h : AscR (cutL T)) (id : Int) : leaveU (base + d) cur (shU d T) id = ((leaveU base cur T id).1, (leaveU base cur T id).2.1, (leaveU base cur T id).2.2.1 + d, (leaveU base cur T id).2.2.2.1, shU d (leaveU base cur T id).2.2.2.2) := by
  unfold leaveU
  rw [shU_has, shU_del, shU_raise]
  split
  · rename_i hi
    rw [shU_get h hi]
    have e : base + d - (mvT d (getU T id)).2.2.1 = base - (getU T id).2.2.1 := by show base + d - ((getU T id).2.2.1 + d) = _; omega
    rw [e]
  · rfl
theorem shU_weigh (d : Int) (T : List TI) (id n : Int) : weighU (shU d T) id n = ((weighU T id n).1, shU d (weighU T id n).2) := by
  unfold weighU
  rw [shU_has, shU_upd d T id (wei_mv d n)]
  split
  · split <;> rfl
  · rfl
theorem shU_charge {d base cur : Int} {T : List TI} {k : Nat} (hw : WfS base cur (cutL T)) (h1 : Up base (cutL T) k) (h2 : Up (base + d) (cutL (shU d T)) k) (hk : k ≤ 900) :
    chargeU (base + d) cur (shU d T) = ((chargeU base cur T).1, (chargeU base cur T).2.1, (chargeU base cur T).2.2.1 + d, shU d (chargeU base cur T).2.2.2) := by
  unfold chargeU
  split
  · rfl
  · rename_i hc
    have hI : hasI (cutL T) cur = true := by rcases hw.cur with h1 | h1; exact absurd h1 hc; exact h1
    rw [shU_get hw.asc hI]
    have hm := (getU_mem hI).1
    have e1 := h1.each _ (cut_mem hm)
    have e2 := h2.each _ (cut_mem (shU_mem (d := d) hm))
    have hst := stepV_bd (getU T cur).2.1
    have i1 : (cutT (getU T cur)).2.2 = (getU T cur).2.2.1 := rfl
    have i2 : (cutT (mvT d (getU T cur))).2.2 = (getU T cur).2.2.1 + d := rfl
    have i3 : (mvT d (getU T cur)).2.1 = (getU T cur).2.1 := rfl
    have i4 : (mvT d (getU T cur)).2.2.1 = (getU T cur).2.2.1 + d := rfl
    rw [i1] at e1
    rw [i2] at e2
    rw [i3, i4, if_neg (by omega), if_neg (by omega), shU_upd d T cur (cha_mv d), shU_raise]
theorem shU_all (d : Int) (T : List TI) : allT (shU d T) = allT T ∧ sumT 0 (shU d T) = sumT 0 T + d * allT T := by
  induction T with
  | nil => simp [shU, allT, sumT]
  | cons x xs ih =>
    have e1 : allT (shU d (x :: xs)) = allT (shU d xs) + x.2.1 := rfl
    have e2 : sumT 0 (shU d (x :: xs)) = sumT 0 (shU d xs) + (x.2.2.1 + d - 0) * x.2.1 := rfl
    have e3 : allT (x :: xs) = allT xs + x.2.1 := rfl
    have e4 : sumT 0 (x :: xs) = sumT 0 xs + (x.2.2.1 - 0) * x.2.1 := rfl
    rw [e1, e2, e3, e4, ih.1, ih.2, Int.sub_zero, Int.sub_zero, Int.add_mul, Int.mul_add]
    refine ⟨rfl, ?_⟩
    omega
theorem shU_may (d : Int) (T : List TI) (x : TI) : mayI (shU d T) (dayI (mvT d x)) = mayI T (dayI x) := by
  unfold mayI
  rw [(shU_all d T).1, (shU_all d T).2]
  have e1 : (dayI (mvT d x)).1 = x.2.2.1 + d := rfl
  have e2 : (dayI x).1 = x.2.2.1 := rfl
  rw [e1, e2, Int.add_mul, Bool.eq_iff_iff, decide_eq_true_eq, decide_eq_true_eq]
  omega
theorem shU_pick {b0 c0 : Int} (d : Int) {T : List TI} (hw : WfS b0 c0 (cutL T)) : pickC (shU d T) = pickC T := by
  by_cases hT : T = []
  · subst hT; rfl
  · obtain ⟨x, hx, e1, e2, hm, hb⟩ := pickC_spec hw hT
    have hp := pick_best (shU_asc (d := d) hw.asc) (shU_mem (d := d) hx) (by rw [shU_may]; exact hm) (fun y hy hm' => by
      obtain ⟨z, hz, rfl⟩ := List.mem_map.1 hy
      rw [shU_may] at hm'
      have h1 := dueB_false.1 (hb z hz hm')
      refine dueB_false.2 ?_
      have f1 : (dayI (mvT d x)).2.1 = (dayI x).2.1 + d := rfl
      have f2 : (dayI (mvT d z)).2.1 = (dayI z).2.1 + d := rfl
      have f3 : (dayI (mvT d x)).2.2 = (dayI x).2.2 := rfl
      have f4 : (dayI (mvT d z)).2.2 = (dayI z).2.2 := rfl
      rw [f1, f2, f3, f4]
      omega)
    rw [e1]
    unfold pickC pickU
    rw [if_neg (fun e => hT (shU_nil.1 e)), hp]
    rfl
theorem shU_pickV {b0 c0 : Int} (d : Int) {T : List TI} (hw : WfS b0 c0 (cutL T)) : pickV (shU d T) = pickV T := by
  have h := shU_pick d hw
  unfold pickC at h
  unfold pickV
  by_cases hT : T = []
  · rw [if_pos hT, if_pos (shU_nil.2 hT)]
  · rw [if_neg hT, if_neg (fun e => hT (shU_nil.1 e))] at h ⊢
    exact h
theorem shU_pickB (d : Int) (T : List TI) : pickB (shU d T) = pickB T := by
  unfold pickB
  by_cases h : T = []
  · rw [decide_eq_true h, decide_eq_true (shU_nil.2 h)]
  · rw [decide_eq_false h, decide_eq_false (fun e => h (shU_nil.1 e))]
theorem shU_seed (a b : Int) (l : List RI) : seedU b l = shU (b - a) (seedU a l) := by
  unfold seedU shU
  rw [List.map_map]
  refine List.map_congr_left (fun r _ => ?_)
  simp only [Function.comp]
  rw [← new_mv]
  congr 1
  omega
end Go.Proofs.YtnfcapeajhegmabGreat

namespace Go.Proofs.YtnfcapeajhegmabGreat
open Go.RowKit Go.Maps

/-! Two queues -/
def S2In (W w : World) (s1 s2 : Nat) (b1 c1 : Int) (R1 : List TI) (b2 c2 : Int) (R2 : List TI) (S : Nat) (F : Nat → Prop) : Prop :=
  ∃ A1 t1 A2 t2, IsU w s1 A1 t1 b1 c1 R1 ∧ IsU w s2 A2 t2 b2 c2 R2 ∧ (0 ≤ t1 ∧ t1 ≤ (S : Int) ∧ 0 ≤ t2 ∧ t2 ≤ (S : Int)) ∧
    (∀ k, A1 k → W.heap.size ≤ k) ∧ (∀ k, A2 k → W.heap.size ≤ k) ∧ (∀ k, A1 k → ¬ A2 k) ∧ Below W.heap.size W w ∧
    ∀ k, F k → k < w.heap.size ∧ ¬ A1 k ∧ ¬ A2 k
section
variable {W w w' : World} {s1 s2 : Nat} {b1 c1 b2 c2 : Int} {R1 R2 : List TI} {S : Nat} {F : Nat → Prop}
theorem S2In.swap (h : S2In W w s1 s2 b1 c1 R1 b2 c2 R2 S F) : S2In W w s2 s1 b2 c2 R2 b1 c1 R1 S F := by
  obtain ⟨A1, t1, A2, t2, g1, g2, ⟨g3, g4, g5, g6⟩, g7, g8, g9, g10, g11⟩ := h
  exact ⟨A2, t2, A1, t1, g2, g1, ⟨g5, g6, g3, g4⟩, g8, g7, fun k hk hk' => g9 k hk' hk, g10, fun k hk => ⟨(g11 k hk).1, (g11 k hk).2.2, (g11 k hk).2.1⟩⟩
theorem S2In.wf (h : S2In W w s1 s2 b1 c1 R1 b2 c2 R2 S F) : WfS b1 c1 (cutL R1) := by
  obtain ⟨A1, t1, A2, t2, g1, _⟩ := h
  exact g1.wf
theorem S2In.frame (h : S2In W w s1 s2 b1 c1 R1 b2 c2 R2 S F) : Below W.heap.size W w := by
  obtain ⟨A1, t1, A2, t2, g1, g2, g3, g7, g8, g9, g10, g11⟩ := h
  exact g10
theorem S2In.weak (h : S2In W w s1 s2 b1 c1 R1 b2 c2 R2 S F) {S' : Nat} (hS : S ≤ S') : S2In W w s1 s2 b1 c1 R1 b2 c2 R2 S' F := by
  obtain ⟨A1, t1, A2, t2, g1, g2, ⟨g3, g4, g5, g6⟩, g7, g8, g9, g10, g11⟩ := h
  exact ⟨A1, t1, A2, t2, g1, g2, ⟨g3, by omega, g5, by omega⟩, g7, g8, g9, g10, g11⟩
/-- What has been made since is none of theirs. -/
theorem S2In.more {G : Nat → Prop} (h : S2In W w s1 s2 b1 c1 R1 b2 c2 R2 S F) (hb : Below w.heap.size w w') (hG : ∀ k, G k → F k ∨ (w.heap.size ≤ k ∧ k < w'.heap.size)) : S2In W w' s1 s2 b1 c1 R1 b2 c2 R2 S G := by
  obtain ⟨A1, t1, A2, t2, g1, g2, g3, g7, g8, g9, g10, g11⟩ := h
  refine ⟨A1, t1, A2, t2, g1.below hb, g2.below hb, g3, g7, g8, g9, g10.trans (hb.mono g10.size), fun k hk => ?_⟩
  rcases hG k hk with h | h
  · exact ⟨by have := (g11 k h).1; have := hb.size; omega, (g11 k h).2⟩
  · exact ⟨h.2, fun hq => by have := g1.lt k hq; omega, fun hq => by have := g2.lt k hq; omega⟩
theorem S2In.below (h : S2In W w s1 s2 b1 c1 R1 b2 c2 R2 S F) (hb : Below w.heap.size w w') : S2In W w' s1 s2 b1 c1 R1 b2 c2 R2 S F := h.more hb (fun _ hk => .inl hk)
/-- The first of them, the other one none of its blocks. -/
theorem S2In.one (h : S2In W w s1 s2 b1 c1 R1 b2 c2 R2 S F) :
    ∃ G : Nat → Prop, SIn W w s1 b1 c1 R1 S G ∧ (∀ w' S' b c R, SIn W w' s1 b c R S' G → (∀ k, G k → w'.heap[k]? = w.heap[k]?) → S ≤ S' → S2In W w' s1 s2 b c R b2 c2 R2 S' F) ∧ ∀ k, F k → G k := by
  obtain ⟨A1, t1, A2, t2, g1, g2, ⟨g3, g4, g5, g6⟩, g7, g8, g9, g10, g11⟩ := h
  refine ⟨fun k => A2 k ∨ F k, ⟨A1, t1, g1, g3, g4, g7, g10, fun k hk => ?_⟩, fun w' S' b c R hq hk hS => ?_, fun k hk => .inr hk⟩
  · rcases hk with hk | hk
    · exact ⟨g2.lt k hk, fun h => g9 k h hk⟩
    · exact ⟨(g11 k hk).1, (g11 k hk).2.1⟩
  · obtain ⟨A1, t1, q1, q2, q3, q4, q5, q6⟩ := hq
    exact ⟨A1, t1, A2, t2, q1, g2.keep (fun j hj => hk j (.inl hj)), ⟨q2, q3, g5, by omega⟩, q4, g8, fun k hk' hk2 => (q6 k (.inl hk2)).2 hk', q5, fun k hk' => ⟨(q6 k (.inr hk')).1, (q6 k (.inr hk')).2, (g11 k hk').2.2⟩⟩
/-- A call on the first of them. -/
theorem s2_call {f : Nat} {args : Array Value} {r : Value} {b c : Int} {R : List TI} {S' : Nat} (h : S2In W w s1 s2 b1 c1 R1 b2 c2 R2 S F) (hS : S ≤ S')
    (hc : ∀ G, SIn W w s1 b1 c1 R1 S G → Calls Tryz.prog f args w (InPost W w s1 b c R S' G r)) :
    Calls Tryz.prog f args w fun e w' => e = .returned r ∧ S2In W w' s1 s2 b c R b2 c2 R2 S' F ∧ ∀ k, F k → w'.heap[k]? = w.heap[k]? := by
  obtain ⟨G, h1, h2, h3⟩ := h.one
  refine (hc G h1).mono ?_
  rintro e w' ⟨he, hq, hk⟩
  exact ⟨he, h2 w' S' b c R hq hk hS, fun k hF => hk k (h3 k hF)⟩
theorem s2_form (h : S2In W w s1 s2 b1 c1 R1 b2 c2 R2 S F) :
    Calls Tryz.prog 15 #[.pointer (some ⟨s1, 0, none⟩)] w fun e w' => ∃ A c, e = .returned (.agg #[.int .i64 c1, .slice A R1.length c]) ∧ TRow w' A (formU b1 R1) ∧ S2In W w' s1 s2 b1 c1 R1 b2 c2 R2 S F ∧ Below w.heap.size w w' := by
  obtain ⟨G, h1, _⟩ := h.one
  refine (sform_in h1).mono ?_
  rintro e w' ⟨A, c, rfl, hT, _, hb⟩
  exact ⟨A, c, rfl, hT, h.below hb, hb⟩
end
theorem InPost.weak {W w : World} {s : Nat} {base cur : Int} {R : List TI} {S S' : Nat} {F : Nat → Prop} {r : Value} (hS : S ≤ S') : ∀ e w', InPost W w s base cur R S F r e w' → InPost W w s base cur R S' F r e w' := fun _ _ ⟨h1, h2, h3⟩ => ⟨h1, h2.weak hS, h3⟩
/-- k acts are done on both. -/
def ApF (W w : World) (s1 s2 : Nat) (d : Int) (k : Nat) (base cur : Int) (R : List TI) (F : Nat → Prop) : Prop := S2In W w s1 s2 base cur R (base + d) cur (shU d R) (4000 + 64 * k) F ∧ Up base (cutL R) k ∧ Up (base + d) (cutL (shU d R)) k ∧ k ≤ 200
/-- One more on the first of them. -/
def Half (W w : World) (s1 s2 : Nat) (d : Int) (k : Nat) (b' c' : Int) (R' : List TI) (base cur : Int) (R : List TI) (F : Nat → Prop) : Prop := S2In W w s1 s2 b' c' R' (base + d) cur (shU d R) (4000 + 64 * k + 32) F ∧ Up b' (cutL R') (k + 1) ∧ Up base (cutL R) k ∧ Up (base + d) (cutL (shU d R)) k ∧ WfS base cur (cutL R) ∧ k ≤ 200
section
variable {W w : World} {s1 s2 k : Nat} {d base cur b' c' : Int} {R R' : List TI} {F : Nat → Prop}
theorem ap_1 {f : Nat} {args : Array Value} {r : Value} (h : ApF W w s1 s2 d k base cur R F) (hu : Up b' (cutL R') (k + 1)) (hc : ∀ G, SIn W w s1 base cur R (4000 + 64 * k) G → Calls Tryz.prog f args w (InPost W w s1 b' c' R' (4000 + 64 * k + 32) G r)) :
    Calls Tryz.prog f args w fun e w' => e = .returned r ∧ Half W w' s1 s2 d k b' c' R' base cur R F ∧ ∀ j, F j → w'.heap[j]? = w.heap[j]? := by
  obtain ⟨hq, hu1, hu2, hk⟩ := h
  refine (s2_call hq (by omega) hc).mono ?_
  rintro e w' ⟨he, hq', hF⟩
  exact ⟨he, ⟨hq', hu, hu1, hu2, hq.wf, hk⟩, hF⟩
theorem ap_2 {f : Nat} {args : Array Value} {r : Value} (h : Half W w s1 s2 d k b' c' R' base cur R F) (hk : k < 200) (hu : Up (b' + d) (cutL (shU d R')) (k + 1)) (hc : ∀ G, SIn W w s2 (base + d) cur (shU d R) (4000 + 64 * k + 32) G → Calls Tryz.prog f args w (InPost W w s2 (b' + d) c' (shU d R') (4000 + 64 * k + 64) G r)) :
    Calls Tryz.prog f args w fun e w' => e = .returned r ∧ ApF W w' s1 s2 d (k + 1) b' c' R' F ∧ ∀ j, F j → w'.heap[j]? = w.heap[j]? := by
  obtain ⟨hq, hu1, hu2, hu3, hwf, hk'⟩ := h
  refine (s2_call hq.swap (by omega) hc).mono ?_
  rintro e w' ⟨he, hq', hF⟩
  exact ⟨he, ⟨(S2In.swap hq').weak (by omega), hu1, hu, by omega⟩, hF⟩
theorem ap_enter1 (x : RI) (h : ApF W w s1 s2 d k base cur R F) :
    Calls Tryz.prog 18 #[.pointer (some ⟨s1, 0, none⟩), .int .i64 x.1, .int .i64 x.2.1, .int .i64 x.2.2] w fun e w' => e = .returned (.int .i64 (enterU base R x).1) ∧ Half W w' s1 s2 d k (enterU base R x).2.1 cur (enterU base R x).2.2 base cur R F ∧ ∀ j, F j → w'.heap[j]? = w.heap[j]? := by
  have h' := h
  obtain ⟨hq, hu1, hu2, hk⟩ := h
  have e1 := hu1.lo
  have e2 := hu1.hi
  exact ap_1 h' (enter_up x hu1) (fun G hG => (senter_in x hG (by omega) (by omega) (by omega)).mono (InPost.weak (by omega)))
theorem ap_enter2 (x : RI) (h : Half W w s1 s2 d k (enterU base R x).2.1 cur (enterU base R x).2.2 base cur R F) (hk : k < 200) :
    Calls Tryz.prog 18 #[.pointer (some ⟨s2, 0, none⟩), .int .i64 x.1, .int .i64 x.2.1, .int .i64 x.2.2] w fun e w' => e = .returned (.int .i64 (enterU base R x).1) ∧ ApF W w' s1 s2 d (k + 1) (enterU base R x).2.1 cur (enterU base R x).2.2 F ∧ ∀ j, F j → w'.heap[j]? = w.heap[j]? := by
  have h' := h
  obtain ⟨hq, hu1, hu2, hu3, hwf, hk'⟩ := h
  have e1 := hu3.lo
  have e2 := hu3.hi
  have hu := enter_up x hu3
  rw [shU_enter] at hu
  refine ap_2 h' hk hu (fun G hG => ?_)
  have hc := senter_in x hG (by omega) (by omega) (by omega)
  rw [shU_enter] at hc
  exact hc.mono (InPost.weak (by omega))
theorem ap_put1 (x : RI) (h : ApF W w s1 s2 d k base cur R F) :
    Calls Tryz.prog 19 #[.pointer (some ⟨s1, 0, none⟩), .int .i64 x.1, .int .i64 x.2.1, .int .i64 x.2.2] w fun e w' => e = .returned (.int .i64 (putU base R x).1) ∧ Half W w' s1 s2 d k (putU base R x).2.1 cur (putU base R x).2.2 base cur R F ∧ ∀ j, F j → w'.heap[j]? = w.heap[j]? := by
  have h' := h
  obtain ⟨hq, hu1, hu2, hk⟩ := h
  have e1 := hu1.lo
  have e2 := hu1.hi
  exact ap_1 h' (putU_up x hu1) (fun G hG => (sput_in x hG (by omega) (by omega) (by omega)).mono (InPost.weak (by omega)))
theorem ap_put2 (x : RI) (h : Half W w s1 s2 d k (putU base R x).2.1 cur (putU base R x).2.2 base cur R F) (hk : k < 200) :
    Calls Tryz.prog 19 #[.pointer (some ⟨s2, 0, none⟩), .int .i64 x.1, .int .i64 x.2.1, .int .i64 x.2.2] w fun e w' => e = .returned (.int .i64 (putU base R x).1) ∧ ApF W w' s1 s2 d (k + 1) (putU base R x).2.1 cur (putU base R x).2.2 F ∧ ∀ j, F j → w'.heap[j]? = w.heap[j]? := by
  have h' := h
  obtain ⟨hq, hu1, hu2, hu3, hwf, hk'⟩ := h
  have e1 := hu3.lo
  have e2 := hu3.hi
  have hu := putU_up x hu3
  rw [shU_put] at hu
  refine ap_2 h' hk hu (fun G hG => ?_)
  have hc := sput_in x hG (by omega) (by omega) (by omega)
  rw [shU_put] at hc
  exact hc.mono (InPost.weak (by omega))
theorem ap_leave1 (id : Int) (hid : wf64 id) (h : ApF W w s1 s2 d k base cur R F) :
    Calls Tryz.prog 20 #[.pointer (some ⟨s1, 0, none⟩), .int .i64 id] w fun e w' => e = .returned (.tuple #[.int .i64 (leaveU base cur R id).1, .int .i64 (leaveU base cur R id).2.1]) ∧ Half W w' s1 s2 d k (leaveU base cur R id).2.2.1 (leaveU base cur R id).2.2.2.1 (leaveU base cur R id).2.2.2.2 base cur R F ∧ ∀ j, F j → w'.heap[j]? = w.heap[j]? := by
  have h' := h
  obtain ⟨hq, hu1, hu2, hk⟩ := h
  have e1 := hu1.lo
  have e2 := hu1.hi
  exact ap_1 h' (leaveU_up (cur := cur) hq.wf.asc id hu1) (fun G hG => (sleave_in id hG hid (by omega)).mono (InPost.weak (by omega)))
theorem ap_leave2 (id : Int) (hid : wf64 id) (h : Half W w s1 s2 d k (leaveU base cur R id).2.2.1 (leaveU base cur R id).2.2.2.1 (leaveU base cur R id).2.2.2.2 base cur R F) (hk : k < 200) :
    Calls Tryz.prog 20 #[.pointer (some ⟨s2, 0, none⟩), .int .i64 id] w fun e w' => e = .returned (.tuple #[.int .i64 (leaveU base cur R id).1, .int .i64 (leaveU base cur R id).2.1]) ∧ ApF W w' s1 s2 d (k + 1) (leaveU base cur R id).2.2.1 (leaveU base cur R id).2.2.2.1 (leaveU base cur R id).2.2.2.2 F ∧ ∀ j, F j → w'.heap[j]? = w.heap[j]? := by
  have h' := h
  obtain ⟨hq, hu1, hu2, hu3, hwf, hk'⟩ := h
  have e1 := hu3.lo
  have e2 := hu3.hi
  have hu := leaveU_up (cur := cur) (shU_asc hwf.asc) id hu3
  rw [shU_leave hwf.asc id] at hu
  refine ap_2 h' hk hu (fun G hG => ?_)
  have hc := sleave_in id hG hid (by omega)
  rw [shU_leave hwf.asc id] at hc
  exact hc.mono (InPost.weak (by omega))
theorem ap_weigh1 (id n : Int) (hid : wf64 id) (hn : wf64 n) (h : ApF W w s1 s2 d k base cur R F) :
    Calls Tryz.prog 21 #[.pointer (some ⟨s1, 0, none⟩), .int .i64 id, .int .i64 n] w fun e w' => e = .returned (.int .i64 (weighU R id n).1) ∧ Half W w' s1 s2 d k base cur (weighU R id n).2 base cur R F ∧ ∀ j, F j → w'.heap[j]? = w.heap[j]? := by
  have h' := h
  obtain ⟨hq, hu1, hu2, hk⟩ := h
  have e1 := hu1.lo
  have e2 := hu1.hi
  exact ap_1 h' (weighU_up id n hu1) (fun G hG => (sweigh_in id n hG hid hn (by omega)).mono (InPost.weak (by omega)))
theorem ap_weigh2 (id n : Int) (hid : wf64 id) (hn : wf64 n) (h : Half W w s1 s2 d k base cur (weighU R id n).2 base cur R F) (hk : k < 200) :
    Calls Tryz.prog 21 #[.pointer (some ⟨s2, 0, none⟩), .int .i64 id, .int .i64 n] w fun e w' => e = .returned (.int .i64 (weighU R id n).1) ∧ ApF W w' s1 s2 d (k + 1) base cur (weighU R id n).2 F ∧ ∀ j, F j → w'.heap[j]? = w.heap[j]? := by
  have h' := h
  obtain ⟨hq, hu1, hu2, hu3, hwf, hk'⟩ := h
  have e1 := hu3.lo
  have e2 := hu3.hi
  have hu := weighU_up id n hu3
  rw [shU_weigh] at hu
  refine ap_2 h' hk hu (fun G hG => ?_)
  have hc := sweigh_in id n hG hid hn (by omega)
  rw [shU_weigh] at hc
  exact hc.mono (InPost.weak (by omega))
theorem ap_pick1  (h : ApF W w s1 s2 d k base cur R F) :
    Calls Tryz.prog 22 #[.pointer (some ⟨s1, 0, none⟩)] w fun e w' => e = .returned (.tuple #[.int .i64 (pickV R), .bool (pickB R)]) ∧ Half W w' s1 s2 d k base (pickC R) R base cur R F ∧ ∀ j, F j → w'.heap[j]? = w.heap[j]? := by
  have h' := h
  obtain ⟨hq, hu1, hu2, hk⟩ := h
  have e1 := hu1.lo
  have e2 := hu1.hi
  exact ap_1 h' (hu1.more) (fun G hG => (spick_in hG).mono (InPost.weak (by omega)))
theorem ap_pick2  (h : Half W w s1 s2 d k base (pickC R) R base cur R F) (hk : k < 200) :
    Calls Tryz.prog 22 #[.pointer (some ⟨s2, 0, none⟩)] w fun e w' => e = .returned (.tuple #[.int .i64 (pickV R), .bool (pickB R)]) ∧ ApF W w' s1 s2 d (k + 1) base (pickC R) R F ∧ ∀ j, F j → w'.heap[j]? = w.heap[j]? := by
  have h' := h
  obtain ⟨hq, hu1, hu2, hu3, hwf, hk'⟩ := h
  have e1 := hu3.lo
  have e2 := hu3.hi
  have hu := hu3.more
  refine ap_2 h' hk hu (fun G hG => ?_)
  have hc := spick_in hG
  rw [shU_pick d hwf, shU_pickV d hwf, shU_pickB] at hc
  exact hc.mono (InPost.weak (by omega))
theorem ap_charge1  (h : ApF W w s1 s2 d k base cur R F) :
    Calls Tryz.prog 23 #[.pointer (some ⟨s1, 0, none⟩)] w fun e w' => e = .returned (.tuple #[.int .i64 (chargeU base cur R).1, .int .i64 (chargeU base cur R).2.1]) ∧ Half W w' s1 s2 d k (chargeU base cur R).2.2.1 cur (chargeU base cur R).2.2.2 base cur R F ∧ ∀ j, F j → w'.heap[j]? = w.heap[j]? := by
  have h' := h
  obtain ⟨hq, hu1, hu2, hk⟩ := h
  have e1 := hu1.lo
  have e2 := hu1.hi
  exact ap_1 h' (chargeU_up hq.wf hu1) (fun G hG => (scharge_in hG (by omega)).mono (InPost.weak (by omega)))
theorem ap_charge2  (h : Half W w s1 s2 d k (chargeU base cur R).2.2.1 cur (chargeU base cur R).2.2.2 base cur R F) (hk : k < 200) :
    Calls Tryz.prog 23 #[.pointer (some ⟨s2, 0, none⟩)] w fun e w' => e = .returned (.tuple #[.int .i64 (chargeU base cur R).1, .int .i64 (chargeU base cur R).2.1]) ∧ ApF W w' s1 s2 d (k + 1) (chargeU base cur R).2.2.1 cur (chargeU base cur R).2.2.2 F ∧ ∀ j, F j → w'.heap[j]? = w.heap[j]? := by
  have h' := h
  obtain ⟨hq, hu1, hu2, hu3, hwf, hk'⟩ := h
  have e1 := hu3.lo
  have e2 := hu3.hi
  have hu := chargeU_up hq.swap.wf hu3
  rw [shU_charge hwf hu2 hu3 (by omega)] at hu
  refine ap_2 h' hk hu (fun G hG => ?_)
  have hc := scharge_in hG (by omega)
  rw [shU_charge hwf hu2 hu3 (by omega)] at hc
  exact hc.mono (InPost.weak (by omega))
end
end Go.Proofs.YtnfcapeajhegmabGreat
