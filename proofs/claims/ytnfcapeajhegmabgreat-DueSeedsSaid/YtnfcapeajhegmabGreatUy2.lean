/- The reference's queue beside due's: its calls in the words of due's models. due's queue beside the reference's. -/
import Derived.Test.YtnfcapeajhegmabGreatMv
import Derived.Test.YtnfcapeajhegmabGreatMu
import Derived.Test.YtnfcapeajhegmabGreatUz2

import Derived.Test.YtnfcapeajhegmabGreatUn2
namespace Go.Proofs.YtnfcapeajhegmabGreat
open Go.RowKit

theorem cut_form (base : Int) (T : List TI) : formT base T = formU base T := by
  unfold formT formU formL cutL
  rw [List.map_map]
  rfl
theorem cut_min {T : List TI} (h : T ≠ []) : minP T = (minR (cutL T)).1 := by
  obtain ⟨x, hx, he⟩ := minP_mem h
  obtain ⟨r, hr, h1, h2⟩ := minR_mem (R := cutL T) (fun e => h (cut_nil.1 e))
  have h3 := minR_le (cut_mem hx)
  obtain ⟨y, hy, rfl⟩ := List.mem_map.1 hr
  have h4 := minP_le hy
  have e1 : (cutT y).2.2 = y.2.2.1 := rfl
  have e2 : (cutT x).2.2 = x.2.2.1 := rfl
  rw [e1] at h1
  rw [e2] at h3
  omega
theorem cut_grow (base : Int) (T : List TI) : growT base T = raiseM base (cutL T) := by
  unfold growT raiseM
  by_cases h : T = []
  · rw [if_pos h, if_pos (cut_nil.2 h)]
  · rw [if_neg h, if_neg (fun e => h (cut_nil.1 e)), cut_min h]
theorem cut_has {T : List TI} {id : Int} : (atT id T 0 = -1 ∧ hasI (cutL T) id = false) ∨ ∃ k x, atT id T 0 = ((k : Nat) : Int) ∧ T[k]? = some x ∧ x.1 = id ∧ hasI (cutL T) id = true := by
  rcases atT_found id T 0 with ⟨h1, h2⟩ | ⟨k, x, h1, h2, h3⟩
  · refine .inl ⟨h1, hasI_no.2 (fun r hr => ?_)⟩
    obtain ⟨y, hy, rfl⟩ := List.mem_map.1 hr
    exact h2 y hy
  · exact .inr ⟨k, x, by simpa using h1, h2, h3, hasI_iff.2 ⟨cutT x, cut_mem (List.mem_of_getElem? h2), h3⟩⟩

theorem erase_U {T : List TI} {x : TI} : ∀ {k : Nat}, AscR (cutL T) → T[k]? = some x → T.eraseIdx k = delU T x.1 := by
  induction T with
  | nil => intro k _ h; simp at h
  | cons y ys ih =>
    intro k ha h
    obtain ⟨h1, h2⟩ := List.pairwise_cons.1 ha
    cases k with
    | zero =>
      simp at h
      subst h
      have e : delU (y :: ys) y.1 = delU ys y.1 := by unfold delU; simp
      rw [e, delU_no (fun z hz e => by have h3 : y.1 < z.1 := h1 _ (cut_mem hz); omega)]
      rfl
    | succ k =>
      have h' : ys[k]? = some x := by simpa using h
      have hlt : y.1 < x.1 := h1 _ (cut_mem (List.mem_of_getElem? h'))
      have hne : y.1 ≠ x.1 := by omega
      have e : delU (y :: ys) x.1 = y :: delU ys x.1 := by unfold delU; simp [hne]
      rw [e, ← ih h2 h']
      rfl
theorem set_U {T : List TI} {x : TI} (f : TI → TI) : ∀ {k : Nat}, AscR (cutL T) → T[k]? = some x → T.set k (f x) = updU T x.1 f := by
  induction T with
  | nil => intro k _ h; simp at h
  | cons y ys ih =>
    intro k ha h
    obtain ⟨h1, h2⟩ := List.pairwise_cons.1 ha
    cases k with
    | zero =>
      simp at h
      subst h
      show f y :: ys = updU (y :: ys) y.1 f
      unfold updU
      rw [List.map_cons, if_pos rfl]
      congr 1
      conv => lhs; rw [← List.map_id ys]
      refine List.map_congr_left (fun z hz => ?_)
      have h3 : y.1 < z.1 := h1 _ (cut_mem hz)
      rw [if_neg (by omega)]
      rfl
    | succ k =>
      have h' : ys[k]? = some x := by simpa using h
      have hlt : y.1 < x.1 := h1 _ (cut_mem (List.mem_of_getElem? h'))
      show y :: ys.set k (f x) = updU (y :: ys) x.1 f
      rw [ih h2 h']
      unfold updU
      rw [List.map_cons, if_neg (by omega)]
theorem soon_pick {b0 c0 base : Int} {T : List TI} (hw : WfS b0 c0 (cutL T)) {x : TI} (h : SoonT base T x) : pickC T = x.1 := by
  obtain ⟨k, hk, hm, hb, hf⟩ := h
  have hx := List.mem_of_getElem? hk
  have hT : T ≠ [] := List.ne_nil_of_mem hx
  have hp := pick_best hw.asc hx ((may_shift base T x).2 hm) (fun y hy hm' => by
    have h1 := (may_shift base T y).1 hm'
    have h2 := hb y hy h1
    refine dueB_false.2 ?_
    have f1 : (dayI x).2.1 = x.2.2.2 := rfl
    have f2 : (dayI y).2.1 = y.2.2.2 := rfl
    have f3 : (dayI x).2.2 = x.1 := rfl
    have f4 : (dayI y).2.2 = y.1 := rfl
    rw [f1, f2, f3, f4]
    by_cases he : x.2.2.2 = y.2.2.2
    · refine .inr ⟨he, ?_⟩
      obtain ⟨j, hj⟩ := List.getElem?_of_mem hy
      rcases Nat.lt_trichotomy j k with hl | hl | hl
      · have := hf j y hl hj h1; omega
      · subst hl
        rw [hk] at hj
        rw [Option.some.inj hj]
        exact Int.le_refl _
      · have h3 : x.1 < y.1 := asc_index hw.asc (cut_at hk) (cut_at hj) hl
        omega
    · exact .inl (by omega))
  unfold pickC pickU
  rw [if_neg hT, hp]
  rfl

/-! How far the points get -/
structure UpF (base : Int) (T : List TI) (k : Nat) : Prop where
  up : Up base (cutL T) k
  fit : ∀ x ∈ T, -1125899906842624 ≤ x.2.2.1 - base ∧ x.2.2.1 - base ≤ 1125899906842624 + 232792560 * (k : Int)
section
variable {base cur : Int} {T : List TI} {k : Nat}
theorem UpF.lo (h : UpF base T k) : -1152921504606846976 ≤ base := h.up.lo
theorem UpF.hi (h : UpF base T k) : base ≤ 1152921504606846976 + 1125899906842624 * ((k + 1 : Nat) : Int) := h.up.hi
theorem UpF.more (h : UpF base T k) : UpF base T (k + 1) := ⟨h.up.more, fun x hx => by have := h.fit x hx; omega⟩
theorem fit_raise {N : Int} (h : ∀ x ∈ T, -1125899906842624 ≤ x.2.2.1 - base ∧ x.2.2.1 - base ≤ N) : ∀ x ∈ T, -1125899906842624 ≤ x.2.2.1 - raiseM base (cutL T) ∧ x.2.2.1 - raiseM base (cutL T) ≤ N := fun x hx => by
  have h1 := h x hx
  have h2 := raiseM_ge base (cutL T)
  have h3 := minR_le (cut_mem hx)
  have e : (cutT x).2.2 = x.2.2.1 := rfl
  rw [e] at h3
  have h4 : raiseM base (cutL T) = max base (minR (cutL T)).1 := by unfold raiseM; rw [if_neg (List.ne_nil_of_mem (cut_mem hx))]
  omega
theorem UpF.put (h : UpF base T k) (x : RI) : UpF (putU base T x).2.1 (putU base T x).2.2 (k + 1) := by
  refine ⟨putU_up x h.up, ?_⟩
  have same : ∀ x ∈ T, -1125899906842624 ≤ x.2.2.1 - base ∧ x.2.2.1 - base ≤ 1125899906842624 + 232792560 * ((k + 1 : Nat) : Int) := fun x hx => by have := h.fit x hx; omega
  unfold putU
  split
  · rename_i hi
    split
    · exact same
    · split
      · exact same
      · refine fit_raise (fun z hz => ?_)
        rcases mem_insTT.1 hz with rfl | hz
        · have := itemB_true.1 hi
          have e : (newU base x).2.2.1 = base - x.2.2 := rfl
          rw [e]; omega
        · exact same z hz
  · exact same
theorem UpF.enter (h : UpF base T k) (x : RI) : UpF (enterU base T x).2.1 (enterU base T x).2.2 (k + 1) := by
  unfold enterU
  split
  · exact h.put _
  · exact h.more
theorem UpF.leave (h : UpF base T k) (ha : AscR (cutL T)) (id : Int) : UpF (leaveU base cur T id).2.2.1 (leaveU base cur T id).2.2.2.2 (k + 1) := by
  refine ⟨leaveU_up ha id h.up, ?_⟩
  unfold leaveU
  split
  · exact fit_raise (fun z hz => by have := h.fit z (mem_delU.1 hz).1; omega)
  · exact fun x hx => by have := h.fit x hx; simp only; omega
theorem UpF.weigh (h : UpF base T k) (id n : Int) : UpF base (weighU T id n).2 (k + 1) := by
  refine ⟨weighU_up id n h.up, ?_⟩
  have same : ∀ x ∈ T, -1125899906842624 ≤ x.2.2.1 - base ∧ x.2.2.1 - base ≤ 1125899906842624 + 232792560 * ((k + 1 : Nat) : Int) := fun x hx => by have := h.fit x hx; omega
  unfold weighU
  split
  · split
    · intro z hz
      rcases mem_updU hz with ⟨x, hx, _, rfl⟩ | ⟨hz, _⟩
      · exact same x hx
      · exact same z hz
    · exact same
  · exact same
theorem UpF.charge (h : UpF base T k) (hw : WfS base cur (cutL T)) : UpF (chargeU base cur T).2.2.1 (chargeU base cur T).2.2.2 (k + 1) := by
  refine ⟨chargeU_up hw h.up, ?_⟩
  have same : ∀ x ∈ T, -1125899906842624 ≤ x.2.2.1 - base ∧ x.2.2.1 - base ≤ 1125899906842624 + 232792560 * ((k + 1 : Nat) : Int) := fun x hx => by have := h.fit x hx; omega
  unfold chargeU
  split
  · exact same
  · split
    · exact same
    · refine fit_raise (fun z hz => ?_)
      rcases mem_updU hz with ⟨x, hx, _, rfl⟩ | ⟨hz, _⟩
      · have h1 := h.fit x hx
        have h2 := tickV_bd x.2.1
        have e : (chaT x).2.2.1 = x.2.2.1 + tickV x.2.1 := rfl
        rw [e]; omega
      · exact same z hz
theorem UpF.fitT (h : UpF base T k) (hw : WfS base cur (cutL T)) (hk : k ≤ 1000) : FitT base T := fun x hx => by
  have h1 := h.fit x hx
  have h2 := wgt_of hw hx
  omega
end
theorem seed_upF {base f0 : Int} {l : List RI} (h : goodV f0 l = true) (h1 : -1152921504606846976 ≤ base) (h2 : base ≤ 1152921504606846976) : UpF base (seedU base l) 0 := by
  refine ⟨by rw [seedU_cut]; exact seed_up h h1 h2, fun x hx => ?_⟩
  unfold seedU at hx
  obtain ⟨r, hr, rfl⟩ := List.mem_map.1 hx
  have := itemB_true.1 ((goodV_of h).each r hr)
  have e : (newU base r).2.2.1 = base - r.2.2 := rfl
  rw [e]; omega
theorem low_put (base : Int) (T : List TI) (x : RI) (h : Low base (cutL T)) : Low (putU base T x).2.1 (cutL (putU base T x).2.2) := by
  unfold putU
  split
  · split
    · exact h
    · split
      · exact h
      · exact low_raise _ _
  · exact h
theorem low_enter (base : Int) (T : List TI) (x : RI) (h : Low base (cutL T)) : Low (enterU base T x).2.1 (cutL (enterU base T x).2.2) := by
  unfold enterU
  split
  · exact low_put _ _ _ h
  · exact h
theorem low_leave (base cur : Int) (T : List TI) (id : Int) (h : Low base (cutL T)) : Low (leaveU base cur T id).2.2.1 (cutL (leaveU base cur T id).2.2.2.2) := by
  unfold leaveU
  split
  · exact low_raise _ _
  · exact h
theorem low_weigh (base : Int) (T : List TI) (id n : Int) (h : Low base (cutL T)) : Low base (cutL (weighU T id n).2) := by
  unfold weighU
  split
  · split
    · simp only
      rw [cut_wei]
      exact h.wgt _ _
    · exact h
  · exact h
theorem low_charge (base cur : Int) (T : List TI) (h : Low base (cutL T)) : Low (chargeU base cur T).2.2.1 (cutL (chargeU base cur T).2.2.2) := by
  unfold chargeU
  split
  · exact h
  · split
    · exact h
    · exact low_raise _ _

/-! Enter, in one form. -/
def coreU (base : Int) (T : List TI) (y : RI) : Int × Int × List TI :=
  if hasI (cutL T) y.1 = true then (4, base, T) else if 64 ≤ T.length then (3, base, T) else (0, raiseM base (cutL (insTT T (newU base y))), insTT T (newU base y))
def entU (ex : Bool) (base : Int) (T : List TI) (x : RI) : Int × Int × List TI := if ex = true then putU base T x else enterU base T x
theorem put_core (base : Int) (T : List TI) (x : RI) : putU base T x = if itemB x = true then coreU base T x else (1, base, T) := rfl
theorem enter_core (base : Int) (T : List TI) (x : RI) : enterU base T x = if itemB x = true then coreU base T (x.1, x.2.1, min (max x.2.2 (-698377680)) 698377680) else (1, base, T) := by
  unfold enterU
  rw [put_core]
  by_cases h : lagB x.2.2 = true
  · have hl := h
    unfold lagB at hl
    simp only [Bool.and_eq_true, decide_eq_true_eq] at hl
    have e : itemB (x.1, x.2.1, min (max x.2.2 (-698377680)) 698377680) = true ↔ itemB x = true := by
      rw [itemB_true, itemB_true]
      simp only
      omega
    rw [if_pos h]
    by_cases h1 : itemB x = true
    · rw [if_pos h1, if_pos (e.2 h1)]
    · rw [if_neg h1, if_neg (fun hi => h1 (e.1 hi))]
  · rw [if_neg h, if_neg (fun hi => h (by
      have := (itemB_true.1 hi).2.2.2
      unfold lagB
      simp only [Bool.and_eq_true, decide_eq_true_eq]
      omega))]
theorem ent_core (ex : Bool) (base : Int) (T : List TI) (x : RI) : entU ex base T x = if itemB x = true then coreU base T (x.1, x.2.1, lagE 2 ex x.2.2) else (1, base, T) := by
  unfold entU lagE
  cases ex with
  | true => simp only [if_true]; exact put_core base T x
  | false =>
    simp only [Bool.false_eq_true, if_false]
    rw [enter_core]
    have e : min (max x.2.2 (-698377680)) 698377680 = heldT 2 x.2.2 := by
      unfold heldT
      rw [if_neg (by decide)]
      (repeat' split) <;> omega
    rw [e]

/-- What comes back, and what is left. -/
def RIn (w : World) (p : Nat) (vt : Value) (r : Value) (b' c' : Int) (R' : List TI) (e : Ending) (w' : World) : Prop := e = .returned r ∧ ∃ T', T' = R' ∧ RPost p 2 vt b' c' T' w w'
section
variable {w : World} {p : Nat} {base cur : Int} {vt : Value} {T : List TI}
theorem rent_m (ex : Bool) (x : RI) (h : IsT w p 2 base cur vt T) (hw : WfS base cur (cutL T)) :
    Calls Tryz.prog 24 #[.pointer (some ⟨p, 0, none⟩), .int .i64 x.1, .int .i64 x.2.1, .int .i64 x.2.2, .bool ex] w (RIn w p vt (.int .i64 (entU ex base T x).1) (entU ex base T x).2.1 cur (entU ex base T x).2.2) := by
  have hl : T.length ≤ 64 := len_of hw
  obtain ⟨x0, x1, x2⟩ := x
  rw [ent_core]
  cases hI : itemB (x0, x1, x2) with
  | false =>
    simp only [Bool.false_eq_true, if_false]
    refine (rent_bad p 2 base cur vt T x0 x1 x2 ex w hI).mono ?_
    rintro e w' ⟨rfl, rfl⟩
    exact ⟨rfl, T, rfl, RPost.same h⟩
  | true =>
    simp only [if_true]
    unfold coreU
    simp only
    by_cases hold : 0 ≤ atT x0 T 0 ∨ 64 ≤ T.length
    · refine (rent_old p 2 base cur vt T x0 x1 x2 ex w h (by omega) hI hold).mono ?_
      rintro e w' ⟨rfl, rfl⟩
      rcases cut_has (T := T) (id := x0) with ⟨h1, h2⟩ | ⟨k, y, h1, h2, h3, h4⟩
      · have hf : 64 ≤ T.length := by omega
        rw [h2, h1, if_neg (by decide), if_pos hf]
        exact ⟨rfl, T, rfl, RPost.same h⟩
      · rw [h4, h1, if_pos rfl]
        exact ⟨by rw [if_pos (Int.natCast_nonneg k)], T, rfl, RPost.same h⟩
    · have hat : atT x0 T 0 = -1 ∧ hasI (cutL T) x0 = false := by
        rcases cut_has (T := T) (id := x0) with h1 | ⟨k, y, h1, _⟩
        · exact h1
        · omega
      have hnew : newU base (x0, x1, lagE 2 ex x2) = newT 2 base (x0, x1, x2) ex := rfl
      rw [hat.2, if_neg (by decide), if_neg (by omega), hnew, ← cut_grow]
      have key : Calls Tryz.prog 24 #[.pointer (some ⟨p, 0, none⟩), .int .i64 x0, .int .i64 x1, .int .i64 x2, .bool ex] w fun e w' => e = .returned (.int .i64 0) ∧ RPost p 2 vt (growT base (insTT T (newT 2 base (x0, x1, x2) ex))) cur (insTT T (newT 2 base (x0, x1, x2) ex)) w w' := by
        rcases h.2.1.2 with ⟨h1, h2⟩ | ⟨g, cap, cells, h1, _⟩
        · have hT : T = [] := List.eq_nil_of_length_eq_zero h2
          subst h1 hT
          exact rent_nil p 2 base cur x0 x1 x2 ex w h (.inr (.inr rfl)) hI hw.lo hw.hi
        · subst h1
          exact rent_new p g cap 2 base cur T x0 x1 x2 ex w h (.inr (.inr rfl)) (by omega) hI hat.1 hw.lo hw.hi
      refine key.mono ?_
      rintro e w' ⟨rfl, hP⟩
      exact ⟨rfl, _, rfl, hP⟩
theorem some_form (h : IsT w p 2 base cur vt T) {k : Nat} {x : TI} (hx : T[k]? = some x) : ∃ g c, vt = .slice (some ⟨g, 0, none⟩) T.length c := by
  obtain ⟨g, c, hv, _⟩ := h.2.1.get hx
  exact ⟨g, c, hv⟩
theorem each_of (hw : WfS base cur (cutL T)) {x : TI} (hx : x ∈ T) : 0 ≤ x.1 ∧ -4000000000000000000 ≤ x.2.2.1 ∧ x.2.2.1 ≤ 4000000000000000000 := by
  have he := hw.each _ (cut_mem hx)
  exact ⟨he.1, he.2.2.2.2.1, he.2.2.2.2.2⟩
theorem rlea_m (id : Int) (h : IsT w p 2 base cur vt T) (hw : WfS base cur (cutL T)) :
    Calls Tryz.prog 25 #[.pointer (some ⟨p, 0, none⟩), .int .i64 id] w (RIn w p vt (.tuple #[.int .i64 (leaveU base cur T id).1, .int .i64 (leaveU base cur T id).2.1]) (leaveU base cur T id).2.2.1 (leaveU base cur T id).2.2.2.1 (leaveU base cur T id).2.2.2.2) := by
  have hl : T.length ≤ 64 := len_of hw
  unfold leaveU
  rcases cut_has (T := T) (id := id) with ⟨h1, h2⟩ | ⟨k, y, h1, h2, h3, h4⟩
  · rw [h2, if_neg (by decide)]
    refine (rlea_no p 2 base cur id vt T w h (by omega) h1).mono ?_
    rintro e w' ⟨rfl, rfl⟩
    exact ⟨rfl, T, rfl, RPost.same h⟩
  · rw [h4, if_pos rfl]
    subst h3
    rw [getU_of hw.asc (List.mem_of_getElem? h2), ← erase_U hw.asc h2, ← cut_grow]
    obtain ⟨g, c, rfl⟩ := some_form h h2
    have he := each_of hw (List.mem_of_getElem? h2)
    refine (rlea_yes p g c k 2 base cur y.1 T y w h (by omega) h1 h2 hw.lo hw.hi he.2.1 he.2.2).mono ?_
    rintro e w' ⟨rfl, hP⟩
    exact ⟨rfl, _, rfl, hP⟩
theorem rwei_m (id n : Int) (h : IsT w p 2 base cur vt T) (hw : WfS base cur (cutL T)) (hlow : Low base (cutL T)) :
    Calls Tryz.prog 26 #[.pointer (some ⟨p, 0, none⟩), .int .i64 id, .int .i64 n] w (RIn w p vt (.int .i64 (weighU T id n).1) base cur (weighU T id n).2) := by
  have hl : T.length ≤ 64 := len_of hw
  unfold weighU
  rcases cut_has (T := T) (id := id) with ⟨h1, h2⟩ | ⟨k, y, h1, h2, h3, h4⟩
  · rw [h2, if_neg (by decide)]
    refine (rwei_no p 2 base cur id n vt T w h (by omega) h1).mono ?_
    rintro e w' ⟨rfl, rfl⟩
    exact ⟨rfl, T, rfl, RPost.same h⟩
  · rw [h4, if_pos rfl]
    cases hg : goodB n with
    | false =>
      rw [if_neg (by decide)]
      refine (rwei_bad p 2 base cur id n vt T w h (by omega) (by omega) hg).mono ?_
      rintro e w' ⟨rfl, rfl⟩
      exact ⟨rfl, T, rfl, RPost.same h⟩
    | true =>
      rw [if_pos rfl]
      subst h3
      obtain ⟨g, c, rfl⟩ := some_form h h2
      have he := each_of hw (List.mem_of_getElem? h2)
      refine (rwei_yes p g c k 2 base cur y.1 n T y w h (by omega) h1 h2 hg he.2.1 he.2.2).mono ?_
      rintro e w' ⟨rfl, hP⟩
      have e1 : T.set k (y.1, n, y.2.2.1, y.2.2.1 + 4 * tickV n) = updU T y.1 (weiT n) := set_U (weiT n) hw.asc h2
      rw [e1, cut_grow, cut_wei, raise_low (hlow.wgt y.1 n)] at hP
      exact ⟨rfl, _, rfl, hP⟩
theorem rcha_m (h : IsT w p 2 base cur vt T) (hw : WfS base cur (cutL T)) :
    Calls Tryz.prog 28 #[.pointer (some ⟨p, 0, none⟩)] w (RIn w p vt (.tuple #[.int .i64 (chargeU base cur T).1, .int .i64 (chargeU base cur T).2.1]) (chargeU base cur T).2.2.1 cur (chargeU base cur T).2.2.2) := by
  have hl : T.length ≤ 64 := len_of hw
  unfold chargeU
  rcases cut_has (T := T) (id := cur) with ⟨h1, h2⟩ | ⟨k, y, h1, h2, h3, h4⟩
  · have hc : cur = -1 := by
      rcases hw.cur with h | h
      · exact h
      · rw [h2] at h; cases h
    rw [if_pos hc]
    refine (rcha_no p 2 base cur vt T w h (by omega) h1).mono ?_
    rintro e w' ⟨rfl, rfl⟩
    exact ⟨rfl, T, rfl, RPost.same h⟩
  · have he := each_of hw (List.mem_of_getElem? h2)
    have hc : cur ≠ -1 := fun e => by omega
    rw [if_neg hc]
    have hgt : getU T cur = y := by rw [← h3]; exact getU_of hw.asc (List.mem_of_getElem? h2)
    have e0 : stepV y.2.1 = tickV y.2.1 := rfl
    rw [hgt, e0]
    obtain ⟨g, c, rfl⟩ := some_form h h2
    by_cases hov : 2305843009213693952 < y.2.2.1 + tickV y.2.1
    · rw [if_pos (by omega)]
      refine (rcha_over p g c k 2 base cur T y w h (by omega) h1 h2 he.2.1 he.2.2 hov).mono ?_
      rintro e w' ⟨rfl, rfl⟩
      exact ⟨rfl, T, rfl, RPost.same h⟩
    · rw [if_neg (by omega)]
      have e1 : T.set k (chaT y) = updU T cur chaT := by rw [← h3]; exact set_U chaT hw.asc h2
      refine (rcha_yes p g c k 2 base cur T y w h (by omega) h1 h2 he.2.1 he.2.2 (by omega)).mono ?_
      rintro e w' ⟨rfl, hP⟩
      rw [e1, cut_grow] at hP
      exact ⟨rfl, _, rfl, hP⟩
theorem rpick_m (h : IsT w p 2 base cur vt T) (hw : WfS base cur (cutL T)) (hf : FitT base T) :
    Calls Tryz.prog 27 #[.pointer (some ⟨p, 0, none⟩)] w (RIn w p vt (.tuple #[.int .i64 (pickV T), .bool (pickB T)]) base (pickC T) T) := by
  have hl : T.length ≤ 64 := len_of hw
  unfold pickV pickB
  by_cases hn : T = []
  · subst hn
    refine (rpick_nil p 2 base cur vt w h).mono ?_
    rintro e w' ⟨rfl, hP⟩
    exact ⟨rfl, [], rfl, hP⟩
  · rw [if_neg hn, decide_eq_false hn]
    refine (rpick2_some p base cur vt T w h hl hn hf).mono ?_
    rintro e w' ⟨x, hs, rfl, hP⟩
    have e1 := soon_pick hw hs
    have e2 : pickU T = x.1 := by unfold pickC at e1; rwa [if_neg hn] at e1
    rw [e1, e2]
    exact ⟨rfl, T, rfl, hP⟩
theorem rform_m (h : IsT w p 2 base cur vt T) (hw : WfS base cur (cutL T)) :
    Calls Tryz.prog 31 #[.pointer (some ⟨p, 0, none⟩)] w (FPost cur (formU base T) w) := by
  have hl : T.length ≤ 64 := len_of hw
  rw [← cut_form]
  exact rform_c p 2 base cur vt T w h (by omega) hw.lo hw.hi (fun x hx => (each_of hw hx).2)
end
end Go.Proofs.YtnfcapeajhegmabGreat

namespace Go.Proofs.YtnfcapeajhegmabGreat
open Go.RowKit Go.Maps

/-- A queue, and one of the reference's. -/
def P2 (W w : World) (s : Nat) (bs cs : Int) (R : List TI) (S p : Nat) (bt ct : Int) (Q : List TI) (F : Nat → Prop) : Prop :=
  ∃ A st vt T, IsU w s A st bs cs R ∧ (IsT w p 2 bt ct vt T ∧ T = Q) ∧ (0 ≤ st ∧ st ≤ (S : Int)) ∧ (∀ k, A k → W.heap.size ≤ k) ∧ (∀ k, TOf p vt k → W.heap.size ≤ k) ∧ (∀ k, A k → ¬ TOf p vt k) ∧ Below W.heap.size W w ∧
    ∀ k, F k → k < w.heap.size ∧ ¬ A k ∧ ¬ TOf p vt k
section
variable {W w w' : World} {s S p : Nat} {bs cs bt ct : Int} {R Q : List TI} {F : Nat → Prop}
theorem P2.wf (h : P2 W w s bs cs R S p bt ct Q F) : WfS bs cs (cutL R) := by
  obtain ⟨A, st, vt, T, g1, _⟩ := h
  exact g1.wf
theorem P2.frame (h : P2 W w s bs cs R S p bt ct Q F) : Below W.heap.size W w := by
  obtain ⟨A, st, vt, T, g1, g2, g3, g4, g5, g6, g7, g8⟩ := h
  exact g7
theorem P2.weak (h : P2 W w s bs cs R S p bt ct Q F) {S' : Nat} (hS : S ≤ S') : P2 W w s bs cs R S' p bt ct Q F := by
  obtain ⟨A, st, vt, T, g1, g2, ⟨g3, g3'⟩, g4, g5, g6, g7, g8⟩ := h
  exact ⟨A, st, vt, T, g1, g2, ⟨g3, by omega⟩, g4, g5, g6, g7, g8⟩
theorem P2.more {G : Nat → Prop} (h : P2 W w s bs cs R S p bt ct Q F) (hb : Below w.heap.size w w') (hG : ∀ k, G k → F k ∨ (w.heap.size ≤ k ∧ k < w'.heap.size)) : P2 W w' s bs cs R S p bt ct Q G := by
  obtain ⟨A, st, vt, T, g1, ⟨g2, g2'⟩, g3, g4, g5, g6, g7, g8⟩ := h
  refine ⟨A, st, vt, T, g1.below hb, ⟨g2.below hb, g2'⟩, g3, g4, g5, g6, g7.trans (hb.mono g7.size), fun k hk => ?_⟩
  rcases hG k hk with h | h
  · exact ⟨by have := (g8 k h).1; have := hb.size; omega, (g8 k h).2⟩
  · exact ⟨h.2, fun hq => by have := g1.lt k hq; omega, fun hq => by have := g2.lt k hq; omega⟩
theorem P2.below (h : P2 W w s bs cs R S p bt ct Q F) (hb : Below w.heap.size w w') : P2 W w' s bs cs R S p bt ct Q F := h.more hb (fun _ hk => .inl hk)
theorem P2.refCells (h : P2 W w s bs cs R S p bt ct Q F) : w.cell? ⟨p, 1, none⟩ = some (.int .i64 bt) ∧ w.cell? ⟨p, 2, none⟩ = some (.int .i64 ct) ∧ w.frozen? ⟨p, 2, none⟩ = false := by
  obtain ⟨A, st, vt, T, g1, ⟨g2, _⟩, _⟩ := h
  exact ⟨g2.cells.2.1, g2.cells.2.2.1, g2.free 2⟩
/-- The program's, the reference's none of its blocks. -/
theorem P2.one (h : P2 W w s bs cs R S p bt ct Q F) :
    ∃ G : Nat → Prop, SIn W w s bs cs R S G ∧ (∀ w' S' b c R', SIn W w' s b c R' S' G → (∀ k, G k → w'.heap[k]? = w.heap[k]?) → S ≤ S' → P2 W w' s b c R' S' p bt ct Q F) ∧ ∀ k, F k ∨ k = p → G k := by
  obtain ⟨A, st, vt, T, g1, ⟨g2, g2'⟩, ⟨g3, g3'⟩, g4, g5, g6, g7, g8⟩ := h
  refine ⟨fun k => TOf p vt k ∨ F k, ⟨A, st, g1, g3, g3', g4, g7, fun k hk => ?_⟩, fun w' S' b c R hq hk hS => ?_, fun k hk => ?_⟩
  · rcases hk with hk | hk
    · exact ⟨g2.lt k hk, fun h => g6 k h hk⟩
    · exact ⟨(g8 k hk).1, (g8 k hk).2.1⟩
  · obtain ⟨A1, t1, q1, q2, q3, q4, q5, q6⟩ := hq
    exact ⟨A1, t1, vt, T, q1, ⟨g2.keep (fun j hj => hk j (.inl hj)), g2'⟩, ⟨q2, q3⟩, q4, g5, fun k hk' hk2 => (q6 k (.inl hk2)).2 hk', q5, fun k hk' => ⟨(q6 k (.inr hk')).1, (q6 k (.inr hk')).2, (g8 k hk').2.2⟩⟩
  · rcases hk with h | rfl
    · exact .inr h
    · exact .inl (.inl rfl)
theorem p2_call {f : Nat} {args : Array Value} {r : Value} {b c : Int} {R' : List TI} {S' : Nat} (h : P2 W w s bs cs R S p bt ct Q F) (hS : S ≤ S')
    (hc : ∀ G, SIn W w s bs cs R S G → Calls Tryz.prog f args w (InPost W w s b c R' S' G r)) :
    Calls Tryz.prog f args w fun e w' => e = .returned r ∧ P2 W w' s b c R' S' p bt ct Q F ∧ ∀ k, F k ∨ k = p → w'.heap[k]? = w.heap[k]? := by
  obtain ⟨G, h1, h2, h3⟩ := h.one
  refine (hc G h1).mono ?_
  rintro e w' ⟨he, hq, hk⟩
  exact ⟨he, h2 w' S' b c R' hq hk hS, fun k hF => hk k (h3 k hF)⟩
theorem p2_form (h : P2 W w s bs cs R S p bt ct Q F) :
    Calls Tryz.prog 15 #[.pointer (some ⟨s, 0, none⟩)] w fun e w' => ∃ A c, e = .returned (.agg #[.int .i64 cs, .slice A R.length c]) ∧ TRow w' A (formU bs R) ∧ Below w.heap.size w w' := by
  obtain ⟨G, h1, _⟩ := h.one
  refine (sform_in h1).mono ?_
  rintro e w' ⟨A, c, rfl, hT, _, hb⟩
  exact ⟨A, c, rfl, hT, hb⟩
theorem p2_base (h : P2 W w s bs cs R S p bt ct Q F) : Calls Tryz.prog 16 #[.pointer (some ⟨s, 0, none⟩)] w fun e w' => e = .returned (.int .i64 bs) ∧ w = w' := by
  obtain ⟨G, h1, _⟩ := h.one
  exact sbase_in h1
theorem p2_rform (h : P2 W w s bs cs R S p bt ct Q F) (hw : WfS bt ct (cutL Q)) : Calls Tryz.prog 31 #[.pointer (some ⟨p, 0, none⟩)] w (FPost ct (formU bt Q) w) := by
  obtain ⟨A, st, vt, T, g1, ⟨g2, rfl⟩, _⟩ := h
  exact rform_m g2 hw
/-- A call on the reference's. -/
theorem p2_ref {f : Nat} {args : Array Value} {r : Value} {b' c' : Int} {Q' : List TI} (h : P2 W w s bs cs R S p bt ct Q F) (hc : ∀ vt T, IsT w p 2 bt ct vt T → T = Q → Calls Tryz.prog f args w (RIn w p vt r b' c' Q')) :
    Calls Tryz.prog f args w fun e w' => e = .returned r ∧ P2 W w' s bs cs R S p b' c' Q' F ∧ ∀ k, F k → w'.heap[k]? = w.heap[k]? := by
  obtain ⟨A, st, vt, T, g1, ⟨g2, g2'⟩, g3, g4, g5, g6, g7, g8⟩ := h
  refine (hc vt T g2 g2').mono ?_
  rintro e w' ⟨he, T', hT', v', hq, ht⟩
  have hks : ∀ j, A j → w'.heap[j]? = w.heap[j]? := fun j hj => ht.block j (g1.lt j hj) (g6 j hj)
  refine ⟨he, ⟨A, st, v', T', g1.keep hks, ⟨hq, hT'⟩, g3, g4, fun k hk => ?_, fun k hk hk' => ?_, g7.trans (ht.below g5 g7.size), fun k hk => ?_⟩, fun k hk => ht.block k (g8 k hk).1 (g8 k hk).2.2⟩
  · rcases ht.sub k hk with h | h
    · exact g5 k h
    · have := g7.size; omega
  · rcases ht.sub k hk' with h | h
    · exact g6 k hk h
    · have := g1.lt k hk; omega
  · have h1 := (g8 k hk).1
    refine ⟨by have := ht.size; omega, (g8 k hk).2.1, fun hq' => ?_⟩
    rcases ht.sub k hq' with h | h
    · exact (g8 k hk).2.2 h
    · omega
/-- The reference's Cur is set. -/
theorem P2.setC (h : P2 W w s bs cs R S p bt ct Q F) (c' : Int) : P2 W (w.setCell ⟨p, 2, none⟩ (.int .i64 c')) s bs cs R S p bt c' Q F := by
  obtain ⟨A, st, vt, T, g1, ⟨g2, g2'⟩, g3, g4, g5, g6, g7, g8⟩ := h
  obtain ⟨hq, ht⟩ := g2.setC c'
  have hks : ∀ j, A j → (w.setCell ⟨p, 2, none⟩ (.int .i64 c')).heap[j]? = w.heap[j]? := fun j hj => ht.block j (g1.lt j hj) (g6 j hj)
  exact ⟨A, st, vt, T, g1.keep hks, ⟨hq, g2'⟩, g3, g4, g5, g6, g7.trans (ht.below g5 g7.size), fun k hk => ⟨by have := (g8 k hk).1; have := ht.size; omega, (g8 k hk).2⟩⟩
end

/-- k acts are done on both. -/
def PlF (W w : World) (s p k : Nat) (base cur : Int) (R : List TI) (F : Nat → Prop) : Prop := P2 W w s base cur R (4000 + 64 * k) p base cur R F ∧ UpF base R k ∧ Low base (cutL R) ∧ k ≤ 200
/-- One more on the program's. -/
def PlH (W w : World) (s p k : Nat) (b' c' : Int) (R' : List TI) (base cur : Int) (R : List TI) (F : Nat → Prop) : Prop := P2 W w s b' c' R' (4000 + 64 * k + 64) p base cur R F ∧ UpF b' R' (k + 1) ∧ Low b' (cutL R') ∧ Low base (cutL R) ∧ WfS base cur (cutL R) ∧ k < 200
section
variable {W w w' : World} {s p k : Nat} {base cur b' c' : Int} {R R' : List TI} {F : Nat → Prop}
theorem PlF.more {G : Nat → Prop} (h : PlF W w s p k base cur R F) (hb : Below w.heap.size w w') (hG : ∀ j, G j → F j ∨ (w.heap.size ≤ j ∧ j < w'.heap.size)) : PlF W w' s p k base cur R G := ⟨h.1.more hb hG, h.2⟩
theorem pl_1 {f : Nat} {args : Array Value} {r : Value} (h : PlF W w s p k base cur R F) (hk : k < 200) (hu : UpF b' R' (k + 1)) (hl : Low b' (cutL R')) (hc : ∀ G, SIn W w s base cur R (4000 + 64 * k) G → Calls Tryz.prog f args w (InPost W w s b' c' R' (4000 + 64 * k + 64) G r)) :
    Calls Tryz.prog f args w fun e w' => e = .returned r ∧ PlH W w' s p k b' c' R' base cur R F ∧ ∀ j, F j ∨ j = p → w'.heap[j]? = w.heap[j]? := by
  obtain ⟨hq, hu1, hlow, _⟩ := h
  refine (p2_call hq (by omega) hc).mono ?_
  rintro e w' ⟨he, hq', hF⟩
  exact ⟨he, ⟨hq', hu, hl, hlow, hq.wf, hk⟩, hF⟩
theorem pl_2 {f : Nat} {args : Array Value} {r : Value} (h : PlH W w s p k b' c' R' base cur R F) (hc : ∀ vt T, IsT w p 2 base cur vt T → T = R → Calls Tryz.prog f args w (RIn w p vt r b' c' R')) :
    Calls Tryz.prog f args w fun e w' => e = .returned r ∧ PlF W w' s p (k + 1) b' c' R' F ∧ ∀ j, F j → w'.heap[j]? = w.heap[j]? := by
  obtain ⟨hq, hu1, hl, hl0, hwf, hk⟩ := h
  refine (p2_ref hq hc).mono ?_
  rintro e w' ⟨he, hq', hF⟩
  exact ⟨he, ⟨hq'.weak (by omega), hu1, hl, by omega⟩, hF⟩
theorem pl_enter1 (x : RI) (h : PlF W w s p k base cur R F) (hk : k < 200) :
    Calls Tryz.prog 18 #[.pointer (some ⟨s, 0, none⟩), .int .i64 x.1, .int .i64 x.2.1, .int .i64 x.2.2] w fun e w' => e = .returned (.int .i64 (enterU base R x).1) ∧ PlH W w' s p k (enterU base R x).2.1 cur (enterU base R x).2.2 base cur R F ∧ ∀ j, F j ∨ j = p → w'.heap[j]? = w.heap[j]? := by
  have h' := h
  obtain ⟨hq, hu1, hl, hk2⟩ := h
  have e1 := hu1.lo
  have e2 := hu1.hi
  exact pl_1 h' hk (hu1.enter x) (low_enter base R x hl) (fun G hG => (senter_in x hG (by omega) (by omega) (by omega)).mono (InPost.weak (by omega)))
theorem pl_enter2 (x : RI) (h : PlH W w s p k (enterU base R x).2.1 cur (enterU base R x).2.2 base cur R F) :
    Calls Tryz.prog 24 #[.pointer (some ⟨p, 0, none⟩), .int .i64 x.1, .int .i64 x.2.1, .int .i64 x.2.2, .bool false] w fun e w' => e = .returned (.int .i64 (enterU base R x).1) ∧ PlF W w' s p (k + 1) (enterU base R x).2.1 cur (enterU base R x).2.2 F ∧ ∀ j, F j → w'.heap[j]? = w.heap[j]? := by
  have h' := h
  obtain ⟨hq, hu1, hl, hl0, hwf, hk⟩ := h
  refine pl_2 h' (fun vt T hi hT => ?_)
  subst hT
  exact rent_m false x hi hwf
theorem pl_put1 (x : RI) (h : PlF W w s p k base cur R F) (hk : k < 200) :
    Calls Tryz.prog 19 #[.pointer (some ⟨s, 0, none⟩), .int .i64 x.1, .int .i64 x.2.1, .int .i64 x.2.2] w fun e w' => e = .returned (.int .i64 (putU base R x).1) ∧ PlH W w' s p k (putU base R x).2.1 cur (putU base R x).2.2 base cur R F ∧ ∀ j, F j ∨ j = p → w'.heap[j]? = w.heap[j]? := by
  have h' := h
  obtain ⟨hq, hu1, hl, hk2⟩ := h
  have e1 := hu1.lo
  have e2 := hu1.hi
  exact pl_1 h' hk (hu1.put x) (low_put base R x hl) (fun G hG => (sput_in x hG (by omega) (by omega) (by omega)).mono (InPost.weak (by omega)))
theorem pl_put2 (x : RI) (h : PlH W w s p k (putU base R x).2.1 cur (putU base R x).2.2 base cur R F) :
    Calls Tryz.prog 24 #[.pointer (some ⟨p, 0, none⟩), .int .i64 x.1, .int .i64 x.2.1, .int .i64 x.2.2, .bool true] w fun e w' => e = .returned (.int .i64 (putU base R x).1) ∧ PlF W w' s p (k + 1) (putU base R x).2.1 cur (putU base R x).2.2 F ∧ ∀ j, F j → w'.heap[j]? = w.heap[j]? := by
  have h' := h
  obtain ⟨hq, hu1, hl, hl0, hwf, hk⟩ := h
  refine pl_2 h' (fun vt T hi hT => ?_)
  subst hT
  exact rent_m true x hi hwf
theorem pl_leave1 (id : Int) (hid : wf64 id) (h : PlF W w s p k base cur R F) (hk : k < 200) :
    Calls Tryz.prog 20 #[.pointer (some ⟨s, 0, none⟩), .int .i64 id] w fun e w' => e = .returned (.tuple #[.int .i64 (leaveU base cur R id).1, .int .i64 (leaveU base cur R id).2.1]) ∧ PlH W w' s p k (leaveU base cur R id).2.2.1 (leaveU base cur R id).2.2.2.1 (leaveU base cur R id).2.2.2.2 base cur R F ∧ ∀ j, F j ∨ j = p → w'.heap[j]? = w.heap[j]? := by
  have h' := h
  obtain ⟨hq, hu1, hl, hk2⟩ := h
  have e1 := hu1.lo
  have e2 := hu1.hi
  exact pl_1 h' hk (hu1.leave hq.wf.asc id) (low_leave base cur R id hl) (fun G hG => (sleave_in id hG hid (by omega)).mono (InPost.weak (by omega)))
theorem pl_leave2 (id : Int) (_hid : wf64 id) (h : PlH W w s p k (leaveU base cur R id).2.2.1 (leaveU base cur R id).2.2.2.1 (leaveU base cur R id).2.2.2.2 base cur R F) :
    Calls Tryz.prog 25 #[.pointer (some ⟨p, 0, none⟩), .int .i64 id] w fun e w' => e = .returned (.tuple #[.int .i64 (leaveU base cur R id).1, .int .i64 (leaveU base cur R id).2.1]) ∧ PlF W w' s p (k + 1) (leaveU base cur R id).2.2.1 (leaveU base cur R id).2.2.2.1 (leaveU base cur R id).2.2.2.2 F ∧ ∀ j, F j → w'.heap[j]? = w.heap[j]? := by
  have h' := h
  obtain ⟨hq, hu1, hl, hl0, hwf, hk⟩ := h
  refine pl_2 h' (fun vt T hi hT => ?_)
  subst hT
  exact rlea_m id hi hwf
theorem pl_weigh1 (id n : Int) (hid : wf64 id) (hn : wf64 n) (h : PlF W w s p k base cur R F) (hk : k < 200) :
    Calls Tryz.prog 21 #[.pointer (some ⟨s, 0, none⟩), .int .i64 id, .int .i64 n] w fun e w' => e = .returned (.int .i64 (weighU R id n).1) ∧ PlH W w' s p k base cur (weighU R id n).2 base cur R F ∧ ∀ j, F j ∨ j = p → w'.heap[j]? = w.heap[j]? := by
  have h' := h
  obtain ⟨hq, hu1, hl, hk2⟩ := h
  have e1 := hu1.lo
  have e2 := hu1.hi
  exact pl_1 h' hk (hu1.weigh id n) (low_weigh base R id n hl) (fun G hG => (sweigh_in id n hG hid hn (by omega)).mono (InPost.weak (by omega)))
theorem pl_weigh2 (id n : Int) (_hid : wf64 id) (_hn : wf64 n) (h : PlH W w s p k base cur (weighU R id n).2 base cur R F) :
    Calls Tryz.prog 26 #[.pointer (some ⟨p, 0, none⟩), .int .i64 id, .int .i64 n] w fun e w' => e = .returned (.int .i64 (weighU R id n).1) ∧ PlF W w' s p (k + 1) base cur (weighU R id n).2 F ∧ ∀ j, F j → w'.heap[j]? = w.heap[j]? := by
  have h' := h
  obtain ⟨hq, hu1, hl, hl0, hwf, hk⟩ := h
  refine pl_2 h' (fun vt T hi hT => ?_)
  subst hT
  exact rwei_m id n hi hwf hl0
theorem pl_pick1 (h : PlF W w s p k base cur R F) (hk : k < 200) :
    Calls Tryz.prog 22 #[.pointer (some ⟨s, 0, none⟩)] w fun e w' => e = .returned (.tuple #[.int .i64 (pickV R), .bool (pickB R)]) ∧ PlH W w' s p k base (pickC R) R base cur R F ∧ ∀ j, F j ∨ j = p → w'.heap[j]? = w.heap[j]? := by
  have h' := h
  obtain ⟨hq, hu1, hl, hk2⟩ := h
  have e1 := hu1.lo
  have e2 := hu1.hi
  exact pl_1 h' hk (hu1.more) (hl) (fun G hG => (spick_in hG).mono (InPost.weak (by omega)))
theorem pl_pick2 (h : PlH W w s p k base (pickC R) R base cur R F) :
    Calls Tryz.prog 27 #[.pointer (some ⟨p, 0, none⟩)] w fun e w' => e = .returned (.tuple #[.int .i64 (pickV R), .bool (pickB R)]) ∧ PlF W w' s p (k + 1) base (pickC R) R F ∧ ∀ j, F j → w'.heap[j]? = w.heap[j]? := by
  have h' := h
  obtain ⟨hq, hu1, hl, hl0, hwf, hk⟩ := h
  refine pl_2 h' (fun vt T hi hT => ?_)
  subst hT
  exact rpick_m hi hwf (hu1.fitT hwf (by omega))
theorem pl_charge1 (h : PlF W w s p k base cur R F) (hk : k < 200) :
    Calls Tryz.prog 23 #[.pointer (some ⟨s, 0, none⟩)] w fun e w' => e = .returned (.tuple #[.int .i64 (chargeU base cur R).1, .int .i64 (chargeU base cur R).2.1]) ∧ PlH W w' s p k (chargeU base cur R).2.2.1 cur (chargeU base cur R).2.2.2 base cur R F ∧ ∀ j, F j ∨ j = p → w'.heap[j]? = w.heap[j]? := by
  have h' := h
  obtain ⟨hq, hu1, hl, hk2⟩ := h
  have e1 := hu1.lo
  have e2 := hu1.hi
  exact pl_1 h' hk (hu1.charge hq.wf) (low_charge base cur R hl) (fun G hG => (scharge_in hG (by omega)).mono (InPost.weak (by omega)))
theorem pl_charge2 (h : PlH W w s p k (chargeU base cur R).2.2.1 cur (chargeU base cur R).2.2.2 base cur R F) :
    Calls Tryz.prog 28 #[.pointer (some ⟨p, 0, none⟩)] w fun e w' => e = .returned (.tuple #[.int .i64 (chargeU base cur R).1, .int .i64 (chargeU base cur R).2.1]) ∧ PlF W w' s p (k + 1) (chargeU base cur R).2.2.1 cur (chargeU base cur R).2.2.2 F ∧ ∀ j, F j → w'.heap[j]? = w.heap[j]? := by
  have h' := h
  obtain ⟨hq, hu1, hl, hl0, hwf, hk⟩ := h
  refine pl_2 h' (fun vt T hi hT => ?_)
  subst hT
  exact rcha_m hi hwf
theorem pl_back1 (h : PlF W w s p k base cur R F) (hk : k < 200) :
    Calls Tryz.prog 29 #[.pointer (some ⟨s, 0, none⟩)] w fun e w' => e = .returned (.bool (!decide (cur = -1))) ∧ PlH W w' s p k base (-1) R base cur R F ∧ ∀ j, F j ∨ j = p → w'.heap[j]? = w.heap[j]? := by
  have h' := h
  obtain ⟨hq, hu1, hl, hk2⟩ := h
  exact pl_1 h' hk hu1.more hl (fun G hG => (sback_in hG).mono (InPost.weak (by omega)))
theorem pl_back2 (h : PlH W w s p k base (-1) R base cur R F) : PlF W (w.setCell ⟨p, 2, none⟩ (.int .i64 (-1))) s p (k + 1) base (-1) R F := by
  obtain ⟨hq, hu1, hl, hl0, hwf, hk⟩ := h
  exact ⟨(hq.setC (-1)).weak (by omega), hu1, hl, by omega⟩
end
end Go.Proofs.YtnfcapeajhegmabGreat
