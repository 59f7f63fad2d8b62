/- The reference's queue beside policy's: its calls in the program's words. The reference's Good; its Seed, by any tag. -/
import Derived.Test.YtandmngfajoinaaGreatJcd
import Derived.Test.YtandmngfajoinaaGreatJmy
import Derived.Test.YtandmngfajoinaaGreatYh
namespace Go.Proofs.YtandmngfajoinaaGreat.Po
open Go.RowKit Go.Maps


theorem cut_form (base : Int) (T : List TI) : formT base T = formU base T := by
  unfold formT formU formL cutL
  rw [List.map_map]
  rfl
theorem cut_min {T : List TI} (h : T ≠ []) : minP T = (minR (cutL T)).1 := by
  obtain ⟨x, hx, he⟩ := minP_mem h
  obtain ⟨r, hr, h1, h2⟩ := minR_mem (R := cutL T) (fun e => h (cut_nil.1 e))
  have h3 := minR_le (cut_mem hx)
  obtain ⟨y, hy, rfl⟩ := List.mem_map.1 hr
  have h4 := minP_le hy
  have e1 : (cutT y).2.2 = y.2.2.1 := rfl
  have e2 : (cutT x).2.2 = x.2.2.1 := rfl
  rw [e1] at h1
  rw [e2] at h3
  omega
theorem cut_grow (base : Int) (T : List TI) : growT base T = raiseM base (cutL T) := by
  unfold growT raiseM
  by_cases h : T = []
  · rw [if_pos h, if_pos (cut_nil.2 h)]
  · rw [if_neg h, if_neg (fun e => h (cut_nil.1 e)), cut_min h]
theorem cut_has {T : List TI} {id : Int} : (atT id T 0 = -1 ∧ hasI (cutL T) id = false) ∨ ∃ k x, atT id T 0 = ((k : Nat) : Int) ∧ T[k]? = some x ∧ x.1 = id ∧ hasI (cutL T) id = true := by
  rcases atT_found id T 0 with ⟨h1, h2⟩ | ⟨k, x, h1, h2, h3⟩
  · refine .inl ⟨h1, hasI_no.2 (fun r hr => ?_)⟩
    obtain ⟨y, hy, rfl⟩ := List.mem_map.1 hr
    exact h2 y hy
  · exact .inr ⟨k, x, by simpa using h1, h2, h3, hasI_iff.2 ⟨cutT x, cut_mem (List.mem_of_getElem? h2), h3⟩⟩

theorem erase_U {T : List TI} {x : TI} : ∀ {k : Nat}, AscR (cutL T) → T[k]? = some x → T.eraseIdx k = delU T x.1 := by
  induction T with
  | nil => intro k _ h; simp at h
  | cons y ys ih =>
    intro k ha h
    obtain ⟨h1, h2⟩ := List.pairwise_cons.1 ha
    cases k with
    | zero =>
      simp at h
      subst h
      have e : delU (y :: ys) y.1 = delU ys y.1 := by unfold delU; simp
      rw [e, delU_no (fun z hz e => by have h3 : y.1 < z.1 := h1 _ (cut_mem hz); omega)]
      rfl
    | succ k =>
      have h' : ys[k]? = some x := by simpa using h
      have hlt : y.1 < x.1 := h1 _ (cut_mem (List.mem_of_getElem? h'))
      have hne : y.1 ≠ x.1 := by omega
      have e : delU (y :: ys) x.1 = y :: delU ys x.1 := by unfold delU; simp [hne]
      rw [e, ← ih h2 h']
      rfl
theorem set_U {T : List TI} {x : TI} (f : TI → TI) : ∀ {k : Nat}, AscR (cutL T) → T[k]? = some x → T.set k (f x) = updU T x.1 f := by
  induction T with
  | nil => intro k _ h; simp at h
  | cons y ys ih =>
    intro k ha h
    obtain ⟨h1, h2⟩ := List.pairwise_cons.1 ha
    cases k with
    | zero =>
      simp at h
      subst h
      show f y :: ys = updU (y :: ys) y.1 f
      unfold updU
      rw [List.map_cons, if_pos rfl]
      congr 1
      conv => lhs; rw [← List.map_id ys]
      refine List.map_congr_left (fun z hz => ?_)
      have h3 : y.1 < z.1 := h1 _ (cut_mem hz)
      rw [if_neg (by omega)]
      rfl
    | succ k =>
      have h' : ys[k]? = some x := by simpa using h
      have hlt : y.1 < x.1 := h1 _ (cut_mem (List.mem_of_getElem? h'))
      show y :: ys.set k (f x) = updU (y :: ys) x.1 f
      rw [ih h2 h']
      unfold updU
      rw [List.map_cons, if_neg (by omega)]
theorem soon_pick {b0 c0 base : Int} {T : List TI} (hw : WfS b0 c0 (cutL T)) {x : TI} (h : SoonT base T x) : pickC T = x.1 := by
  obtain ⟨k, hk, hm, hb, hf⟩ := h
  have hx := List.mem_of_getElem? hk
  have hT : T ≠ [] := List.ne_nil_of_mem hx
  have hp := pick_best hw.asc hx ((may_shift base T x).2 hm) (fun y hy hm' => by
    have h1 := (may_shift base T y).1 hm'
    have h2 := hb y hy h1
    refine dueB_false.2 ?_
    have f1 : (dayI x).2.1 = x.2.2.2 := rfl
    have f2 : (dayI y).2.1 = y.2.2.2 := rfl
    have f3 : (dayI x).2.2 = x.1 := rfl
    have f4 : (dayI y).2.2 = y.1 := rfl
    rw [f1, f2, f3, f4]
    by_cases he : x.2.2.2 = y.2.2.2
    · refine .inr ⟨he, ?_⟩
      obtain ⟨j, hj⟩ := List.getElem?_of_mem hy
      rcases Nat.lt_trichotomy j k with hl | hl | hl
      · have := hf j y hl hj h1; omega
      · subst hl
        rw [hk] at hj
        rw [Option.some.inj hj]
        exact Int.le_refl _
      · have h3 : x.1 < y.1 := asc_index hw.asc (cut_at hk) (cut_at hj) hl
        omega
    · exact .inl (by omega))
  unfold pickC pickU
  rw [if_neg hT, hp]
  rfl


theorem UpF.fitT {base cur : Int} {T : List TI} {k : Nat} (h : UpF base T k) (hw : WfS base cur (cutL T)) (hk : k ≤ 1000) : FitT base T := fun x hx => by
  have h1 := h.fit x hx
  have h2 := wgt_of hw hx
  omega

set_option maxHeartbeats 1000000 in
theorem rheld_w (tag lag : Int) (w : World) (ht : tag = 0 ∨ tag = 1 ∨ tag = 2) (h1 : -9223372036854775808 ≤ lag) :
    Calls Tryz.prog 42 #[.int .i64 tag, .int .i64 lag] w fun e w' => e = .returned (.int .i64 (heldT tag lag)) ∧ w = w' := by
  obtain ⟨r, hr⟩ : ∃ r, heldT tag lag = r := ⟨_, rfl⟩
  rw [hr]
  rcases ht with rfl | rfl | rfl
  · by_cases h2 : 0 < lag
    · have hv : r = 0 := by rw [← hr]; unfold heldT; rw [if_pos rfl, if_pos h2]
      subst hv
      clear hr
      go_enter Tryz.func42, Tryz.ntmps42
      go_wp2_with fail
      go_ret
      exact ⟨rfl, rfl⟩
    · have hv : r = lag := by rw [← hr]; unfold heldT; rw [if_pos rfl, if_neg h2]
      subst hv
      have h3 : ¬ r < -9223372036854775808 := by omega
      clear hr
      go_enter Tryz.func42, Tryz.ntmps42
      go_wp2_with fail
      go_ret
      exact ⟨rfl, rfl⟩
  · by_cases h2 : 698377680 < lag
    · have hv : r = 698377680 := by rw [← hr]; unfold heldT; simp [h2]
      subst hv
      clear hr
      go_enter Tryz.func42, Tryz.ntmps42
      go_wp2_with fail
      go_ret
      exact ⟨rfl, rfl⟩
    · have hv : r = lag := by rw [← hr]; unfold heldT; simp [h2]
      subst hv
      have h3 : ¬ r < -9223372036854775808 := by omega
      clear hr
      go_enter Tryz.func42, Tryz.ntmps42
      go_wp2_with fail
      go_ret
      exact ⟨rfl, rfl⟩
  · by_cases h2 : 698377680 < lag
    · have hv : r = 698377680 := by rw [← hr]; unfold heldT; simp [h2]
      subst hv
      clear hr
      go_enter Tryz.func42, Tryz.ntmps42
      go_wp2_with fail
      go_ret
      exact ⟨rfl, rfl⟩
    · by_cases h3 : lag < -698377680
      · have hv : r = -698377680 := by rw [← hr]; unfold heldT; simp [h2, h3]
        subst hv
        clear hr
        go_enter Tryz.func42, Tryz.ntmps42
        go_wp2_with fail
        go_ret
        exact ⟨rfl, rfl⟩
      · have hv : r = lag := by rw [← hr]; unfold heldT; simp [h2, h3]
        subst hv
        clear hr
        go_enter Tryz.func42, Tryz.ntmps42
        go_wp2_with fail
        go_ret
        exact ⟨rfl, rfl⟩


theorem held_T {t : Int} (ht : Tag t) (x : Int) : heldT t x = heldP t x := by
  unfold heldT heldP
  rcases ht with rfl | rfl | rfl
  all_goals simp
  all_goals (repeat' split)
  all_goals omega
/-- Enter and Put, in one form. -/
def entX (t : Int) (ex : Bool) (base : Int) (T : List TI) (x : RI) : Int × Int × List TI := if ex = true then putU base T x else entP t base T x
theorem ent_core {t : Int} (ht : Tag t) (ex : Bool) (base : Int) (T : List TI) (x : RI) : entX t ex base T x = if itemB x = true then coreU base T (x.1, x.2.1, lagE t ex x.2.2) else (1, base, T) := by
  unfold entX lagE
  cases ex with
  | true => simp only [if_true]; exact put_core base T x
  | false =>
    simp only [Bool.false_eq_true, if_false]
    rw [held_T ht]
    rfl
theorem cut_first {T : List TI} (ha : AscR (cutL T)) {b : Nat} {x : TI} (h : FirstT T b x) : minR (cutL T) = (x.2.2.1, x.1) := by
  obtain ⟨h1, h2, h3⟩ := h
  refine minR_eq ⟨cutT x, cut_mem (List.mem_of_getElem? h1), rfl, rfl⟩ (fun r hr => ?_)
  obtain ⟨y, hy, rfl⟩ := List.mem_map.1 hr
  show x.2.2.1 < y.2.2.1 ∨ (x.2.2.1 = y.2.2.1 ∧ x.1 ≤ y.1)
  have h4 := h2 y hy
  by_cases he : x.2.2.1 = y.2.2.1
  · refine .inr ⟨he, ?_⟩
    obtain ⟨j, hj⟩ := List.getElem?_of_mem hy
    rcases Nat.lt_trichotomy j b with hl | hl | hl
    · have := h3 j y hl hj; omega
    · subst hl
      rw [h1] at hj
      rw [Option.some.inj hj]
      exact Int.le_refl _
    · have : x.1 < y.1 := asc_index ha (cut_at h1) (cut_at hj) hl
      omega
  · exact .inl (by omega)

/-- What comes back, and what is left. -/
def RIn (t : Int) (w : World) (p : Nat) (vt : Value) (r : Value) (b' c' : Int) (R' : List TI) (e : Ending) (w' : World) : Prop := e = .returned r ∧ ∃ T', T' = R' ∧ RPost p t vt b' c' T' w w'
section
variable {t : Int} {w : World} {p : Nat} {base cur : Int} {vt : Value} {T : List TI}
theorem rent_m (ht : Tag t) (ex : Bool) (x : RI) (h : IsT w p t base cur vt T) (hw : WfS base cur (cutL T)) :
    Calls Tryz.prog 12 #[.pointer (some ⟨p, 0, none⟩), .int .i64 x.1, .int .i64 x.2.1, .int .i64 x.2.2, .bool ex] w (RIn t w p vt (.int .i64 (entX t ex base T x).1) (entX t ex base T x).2.1 cur (entX t ex base T x).2.2) := by
  have hl : T.length ≤ 64 := len_of hw
  obtain ⟨x0, x1, x2⟩ := x
  rw [ent_core ht]
  cases hI : itemB (x0, x1, x2) with
  | false =>
    simp only [Bool.false_eq_true, if_false]
    refine (rent_bad p t base cur vt T x0 x1 x2 ex w hI).mono ?_
    rintro e w' ⟨rfl, rfl⟩
    exact ⟨rfl, T, rfl, RPost.same h⟩
  | true =>
    simp only [if_true]
    unfold coreU
    simp only
    by_cases hold : 0 ≤ atT x0 T 0 ∨ 64 ≤ T.length
    · refine (rent_old p t base cur vt T x0 x1 x2 ex w h (by omega) hI hold).mono ?_
      rintro e w' ⟨rfl, rfl⟩
      rcases cut_has (T := T) (id := x0) with ⟨h1, h2⟩ | ⟨k, y, h1, h2, h3, h4⟩
      · have hf : 64 ≤ T.length := by omega
        rw [h2, h1, if_neg (by decide), if_pos hf]
        exact ⟨rfl, T, rfl, RPost.same h⟩
      · rw [h4, h1, if_pos rfl]
        exact ⟨by rw [if_pos (Int.natCast_nonneg k)], T, rfl, RPost.same h⟩
    · have hat : atT x0 T 0 = -1 ∧ hasI (cutL T) x0 = false := by
        rcases cut_has (T := T) (id := x0) with h1 | ⟨k, y, h1, _⟩
        · exact h1
        · omega
      have hnew : newU base (x0, x1, lagE t ex x2) = newT t base (x0, x1, x2) ex := rfl
      rw [hat.2, if_neg (by decide), if_neg (by omega), hnew, ← cut_grow]
      have key : Calls Tryz.prog 12 #[.pointer (some ⟨p, 0, none⟩), .int .i64 x0, .int .i64 x1, .int .i64 x2, .bool ex] w fun e w' => e = .returned (.int .i64 0) ∧ RPost p t vt (growT base (insTT T (newT t base (x0, x1, x2) ex))) cur (insTT T (newT t base (x0, x1, x2) ex)) w w' := by
        rcases h.2.1.2 with ⟨h1, h2⟩ | ⟨g, cap, cells, h1, _⟩
        · have hT : T = [] := List.eq_nil_of_length_eq_zero h2
          subst h1 hT
          exact rent_nil p t base cur x0 x1 x2 ex w h ht hI hw.lo hw.hi
        · subst h1
          exact rent_new p g cap t base cur T x0 x1 x2 ex w h ht (by omega) hI hat.1 hw.lo hw.hi
      refine key.mono ?_
      rintro e w' ⟨rfl, hP⟩
      exact ⟨rfl, _, rfl, hP⟩
theorem some_form (h : IsT w p t base cur vt T) {k : Nat} {x : TI} (hx : T[k]? = some x) : ∃ g c, vt = .slice (some ⟨g, 0, none⟩) T.length c := by
  obtain ⟨g, c, hv, _⟩ := h.2.1.get hx
  exact ⟨g, c, hv⟩
theorem each_of (hw : WfS base cur (cutL T)) {x : TI} (hx : x ∈ T) : 0 ≤ x.1 ∧ -4000000000000000000 ≤ x.2.2.1 ∧ x.2.2.1 ≤ 4000000000000000000 := by
  have he := hw.each _ (cut_mem hx)
  exact ⟨he.1, he.2.2.2.2.1, he.2.2.2.2.2⟩
theorem rlea_m (id : Int) (h : IsT w p t base cur vt T) (hw : WfS base cur (cutL T)) :
    Calls Tryz.prog 14 #[.pointer (some ⟨p, 0, none⟩), .int .i64 id] w (RIn t w p vt (.tuple #[.int .i64 (leaveU base cur T id).1, .int .i64 (leaveU base cur T id).2.1]) (leaveU base cur T id).2.2.1 (leaveU base cur T id).2.2.2.1 (leaveU base cur T id).2.2.2.2) := by
  have hl : T.length ≤ 64 := len_of hw
  unfold leaveU
  rcases cut_has (T := T) (id := id) with ⟨h1, h2⟩ | ⟨k, y, h1, h2, h3, h4⟩
  · rw [h2, if_neg (by decide)]
    refine (rlea_no p t base cur id vt T w h (by omega) h1).mono ?_
    rintro e w' ⟨rfl, rfl⟩
    exact ⟨rfl, T, rfl, RPost.same h⟩
  · rw [h4, if_pos rfl]
    subst h3
    rw [getU_of hw.asc (List.mem_of_getElem? h2), ← erase_U hw.asc h2, ← cut_grow]
    obtain ⟨g, c, rfl⟩ := some_form h h2
    have he := each_of hw (List.mem_of_getElem? h2)
    refine (rlea_yes p g c k t base cur y.1 T y w h (by omega) h1 h2 hw.lo hw.hi he.2.1 he.2.2).mono ?_
    rintro e w' ⟨rfl, hP⟩
    exact ⟨rfl, _, rfl, hP⟩
theorem rwei_m (id n : Int) (h : IsT w p t base cur vt T) (hw : WfS base cur (cutL T)) (hlow : Low base (cutL T)) :
    Calls Tryz.prog 16 #[.pointer (some ⟨p, 0, none⟩), .int .i64 id, .int .i64 n] w (RIn t w p vt (.int .i64 (weighU T id n).1) base cur (weighU T id n).2) := by
  have hl : T.length ≤ 64 := len_of hw
  unfold weighU
  rcases cut_has (T := T) (id := id) with ⟨h1, h2⟩ | ⟨k, y, h1, h2, h3, h4⟩
  · rw [h2, if_neg (by decide)]
    refine (rwei_no p t base cur id n vt T w h (by omega) h1).mono ?_
    rintro e w' ⟨rfl, rfl⟩
    exact ⟨rfl, T, rfl, RPost.same h⟩
  · rw [h4, if_pos rfl]
    cases hg : goodB n with
    | false =>
      rw [if_neg (by decide)]
      refine (rwei_bad p t base cur id n vt T w h (by omega) (by omega) hg).mono ?_
      rintro e w' ⟨rfl, rfl⟩
      exact ⟨rfl, T, rfl, RPost.same h⟩
    | true =>
      rw [if_pos rfl]
      subst h3
      obtain ⟨g, c, rfl⟩ := some_form h h2
      have he := each_of hw (List.mem_of_getElem? h2)
      refine (rwei_yes p g c k t base cur y.1 n T y w h (by omega) h1 h2 hg he.2.1 he.2.2).mono ?_
      rintro e w' ⟨rfl, hP⟩
      have e1 : T.set k (y.1, n, y.2.2.1, y.2.2.1 + 4 * tickV n) = updU T y.1 (weiT n) := set_U (weiT n) hw.asc h2
      rw [e1, cut_grow, cut_wei, raise_low (hlow.wgt y.1 n)] at hP
      exact ⟨rfl, _, rfl, hP⟩
theorem rcha_m (h : IsT w p t base cur vt T) (hw : WfS base cur (cutL T)) :
    Calls Tryz.prog 19 #[.pointer (some ⟨p, 0, none⟩)] w (RIn t w p vt (.tuple #[.int .i64 (chargeU base cur T).1, .int .i64 (chargeU base cur T).2.1]) (chargeU base cur T).2.2.1 cur (chargeU base cur T).2.2.2) := by
  have hl : T.length ≤ 64 := len_of hw
  unfold chargeU
  rcases cut_has (T := T) (id := cur) with ⟨h1, h2⟩ | ⟨k, y, h1, h2, h3, h4⟩
  · have hc : cur = -1 := by
      rcases hw.cur with h | h
      · exact h
      · rw [h2] at h; cases h
    rw [if_pos hc]
    refine (rcha_no p t base cur vt T w h (by omega) h1).mono ?_
    rintro e w' ⟨rfl, rfl⟩
    exact ⟨rfl, T, rfl, RPost.same h⟩
  · have he := each_of hw (List.mem_of_getElem? h2)
    have hc : cur ≠ -1 := fun e => by omega
    rw [if_neg hc]
    have hgt : getU T cur = y := by rw [← h3]; exact getU_of hw.asc (List.mem_of_getElem? h2)
    have e0 : stepV y.2.1 = tickV y.2.1 := rfl
    rw [hgt, e0]
    obtain ⟨g, c, rfl⟩ := some_form h h2
    by_cases hov : 2305843009213693952 < y.2.2.1 + tickV y.2.1
    · rw [if_pos (by omega)]
      refine (rcha_over p g c k t base cur T y w h (by omega) h1 h2 he.2.1 he.2.2 hov).mono ?_
      rintro e w' ⟨rfl, rfl⟩
      exact ⟨rfl, T, rfl, RPost.same h⟩
    · rw [if_neg (by omega)]
      have e1 : T.set k (chaT y) = updU T cur chaT := by rw [← h3]; exact set_U chaT hw.asc h2
      refine (rcha_yes p g c k t base cur T y w h (by omega) h1 h2 he.2.1 he.2.2 (by omega)).mono ?_
      rintro e w' ⟨rfl, hP⟩
      rw [e1, cut_grow] at hP
      exact ⟨rfl, _, rfl, hP⟩

theorem rpick_m (ht : Tag t) (h : IsT w p t base cur vt T) (hw : WfS base cur (cutL T)) (hf : FitT base T) :
    Calls Tryz.prog 18 #[.pointer (some ⟨p, 0, none⟩)] w (RIn t w p vt (.tuple #[.int .i64 (pickPV t cur T), .bool (pickPB T)]) base (pickPC t cur T) T) := by
  have hl : T.length ≤ 64 := len_of hw
  unfold pickPV pickPB pickPC
  by_cases hn : T = []
  · subst hn
    refine (rpick_nil p t base cur vt w h).mono ?_
    rintro e w' ⟨rfl, hP⟩
    exact ⟨rfl, [], rfl, hP⟩
  · have hn' : cutL T ≠ [] := fun e => hn (cut_nil.1 e)
    rw [if_neg hn, if_neg hn, decide_eq_false hn]
    rcases ht with rfl | rfl | rfl
    · refine (rpick_some p base cur vt T w h (by omega) hn).mono ?_
      rintro e w' ⟨b, x, hb, rfl, hP⟩
      have e1 : pickP 0 cur T = x.1 := by
        show (minR (cutL T)).2 = x.1
        rw [cut_first hw.asc hb]
      rw [e1]
      exact ⟨rfl, T, rfl, hP⟩
    · refine (rpick1_some p base cur vt T w h (by omega) hn (fun x hx => (each_of hw hx).2)).mono ?_
      rintro e w' ⟨b, x, c, hb, hg, rfl, hP⟩
      have e1 : pickP 1 cur T = c := by
        show Fa.pickC cur (cutL T) = c
        unfold Fa.pickC
        rw [if_neg hn', cut_first hw.asc hb]
        rcases hg with ⟨h1, rfl⟩ | ⟨k, y, h1, h2, h3, rfl⟩
        · rcases cut_has (T := T) (id := cur) with ⟨h4, h5⟩ | ⟨k, z, h4, _⟩
          · rw [if_neg (by rw [h5]; decide)]
          · omega
        · subst h3
          have hI : hasI (cutL T) y.1 = true := hasI_iff.2 ⟨cutT y, cut_mem (List.mem_of_getElem? h2), rfl⟩
          rw [if_pos hI, cut_get hw.asc h2]
          have e1 : (cutT y).2.2 = y.2.2.1 := rfl
          rw [e1]
          by_cases hf : y.2.2.1 - 465585120 ≤ x.2.2.1
          · rw [if_pos hf, if_neg (by simp only; omega)]
          · rw [if_neg hf, if_pos (by simp only; omega)]
      rw [e1]
      exact ⟨rfl, T, rfl, hP⟩
    · refine (rpick2_some p base cur vt T w h hl hn hf).mono ?_
      rintro e w' ⟨x, hs, rfl, hP⟩
      have e1 := soon_pick hw hs
      have e2 : pickP 2 cur T = x.1 := by
        show pickU T = x.1
        unfold pickC at e1; rwa [if_neg hn] at e1
      rw [e2]
      exact ⟨rfl, T, rfl, hP⟩
theorem rform_m (h : IsT w p t base cur vt T) (hw : WfS base cur (cutL T)) :
    Calls Tryz.prog 24 #[.pointer (some ⟨p, 0, none⟩)] w (FPost cur (formU base T) w) := by
  have hl : T.length ≤ 64 := len_of hw
  rw [← cut_form]
  exact rform_c p t base cur vt T w h (by omega) hw.lo hw.hi (fun x hx => (each_of hw hx).2)
end
end Go.Proofs.YtandmngfajoinaaGreat.Po

namespace Go.Proofs.YtandmngfajoinaaGreat.Po
open Go.RowKit

def awTo (f0 : Int) (l : List RI) (k : Nat) : Bool := (f0 == -1) || (l.take k).any (fun x => x.1 == f0)
def frTo (l : List RI) (k : Nat) : Bool := ((l.length : Int) == 0) || (l.take k).any (fun x => decide (0 ≤ x.2.2))
theorem awTo_next {f0 : Int} {l : List RI} {k : Nat} {x : RI} (h : l[k]? = some x) : awTo f0 l (k + 1) = (awTo f0 l k || (x.1 == f0)) := by
  unfold awTo
  rw [List.take_add_one, h, List.any_append, ← Bool.or_assoc]
  simp
theorem frTo_next {l : List RI} {k : Nat} {x : RI} (h : l[k]? = some x) : frTo l (k + 1) = (frTo l k || decide (0 ≤ x.2.2)) := by
  unfold frTo
  rw [List.take_add_one, h, List.any_append, ← Bool.or_assoc]
  simp
theorem good_split (f0 : Int) (l : List RI) : goodV f0 l = (decide (l.length ≤ 64) && ascB (-1) l && awTo f0 l l.length && frTo l l.length) := by
  unfold goodV awTo frTo
  rw [List.take_length, hasL_hasI]
  have e1 : (decide (f0 = -1) || hasI l f0) = ((f0 == -1) || l.any (fun x => x.1 == f0)) := by
    unfold hasI
    rfl
  have e2 : (!someL l || decide (0 ≤ (frontV l).2.2)) = (((l.length : Int) == 0) || l.any (fun x => decide (0 ≤ x.2.2))) := by
    cases l with
    | nil => rfl
    | cons x xs =>
      have hl : (((x :: xs).length : Int) == 0) = false := by simp; omega
      rw [hl]
      show (false || decide (0 ≤ (frontV (x :: xs)).2.2)) = _
      rw [Bool.false_or, Bool.false_or]
      rw [Bool.eq_iff_iff, decide_eq_true_iff, List.any_eq_true]
      constructor
      · intro h
        exact ⟨_, frontV_mem (by simp), by simpa using h⟩
      · rintro ⟨y, hy, h⟩
        have := frontV_best hy
        simp at h
        omega
  rw [e1, e2]
theorem item_no {x0 x1 x2 : Int} (h : x0 < 0 ∨ 1073741824 < x0 ∨ goodB x1 = false ∨ x2 < -1125899906842624 ∨ 1125899906842624 < x2) : itemB (x0, x1, x2) = false := by
  cases hb : itemB (x0, x1, x2) with
  | false => rfl
  | true =>
    have h2 := itemB_true.1 hb
    simp only at h2
    rcases h with h | h | h | h | h
    · omega
    · omega
    · rw [goodB_true.2 h2.2.2.1] at h; cases h
    · omega
    · omega
theorem item_yes {x0 x1 x2 : Int} (h1 : ¬ x0 < 0) (h2 : ¬ 1073741824 < x0) (h3 : goodB x1 = true) (h4 : ¬ x2 < -1125899906842624) (h5 : ¬ 1125899906842624 < x2) : itemB (x0, x1, x2) = true :=
  itemB_true.2 ⟨by simp only; omega, by simp only; omega, goodB_true.1 h3, by simp only; omega, by simp only; omega⟩

set_option maxRecDepth 100000 in
set_option maxHeartbeats 16000000 in
theorem rgood_c (f0 : Int) (A : Option Addr) (n c : Nat) (l : List RI) (w : World) (hn : l.length = n) (hl : n ≤ 1000000) (hr : TRow w A l) :
    Calls Tryz.prog 51 #[.agg #[.int .i64 f0, .slice A n c]] w (Ret10 (.bool (goodV f0 l)) w) := by
  obtain ⟨W, hW⟩ : ∃ W, w.alloc (.cells #[.int .i64 f0, .slice A n c] 53) = W := ⟨_, rfl⟩
  have hb : Below w.heap.size w W := by rw [← hW]; exact (Below.refl _ w).alloc (Nat.le_refl _) _
  have hB : W.heap[w.heap.size]? = some (.cells #[.int .i64 f0, .slice A n c] 53 (0, 0)) := by rw [← hW]; exact World.alloc_heap_new w _
  have hs : W.heap.size = w.heap.size + 1 := by rw [← hW]; simp
  have b0 : W.cell? ⟨w.heap.size, 0, none⟩ = some (.int .i64 f0) := by simp [World.cell?, hB]
  have b1 : W.cell? ⟨w.heap.size, 1, none⟩ = some (.slice A n c) := by simp [World.cell?, hB]
  have BOX : Hid (∀ w', Below W.heap.size W w' → w'.cell? ⟨w.heap.size, 0, none⟩ = some (.int .i64 f0) ∧ w'.cell? ⟨w.heap.size, 1, none⟩ = some (.slice A n c)) := Lib.hid (fun w' h => ⟨(h.cell (p := ⟨w.heap.size, 0, none⟩) (by show w.heap.size < _; omega)).trans b0, (h.cell (p := ⟨w.heap.size, 1, none⟩) (by show w.heap.size < _; omega)).trans b1⟩)
  have HV := Lib.hid (good_split f0 l)
  generalize goodV f0 l = V at *
  have HR := Lib.hid (hr.below hb (Nat.le_refl _))
  have HB := Lib.hid hb
  have HN := Lib.hid hn
  have HW := Lib.hid hW
  obtain ⟨GA, hga⟩ : ∃ GA, ascB (-1) l = GA := ⟨_, rfl⟩
  have HGA := Lib.hid hga
  rw [hga] at HV
  have hz : ((n : Int) == 0) = frTo l 0 := by unfold frTo; rw [hn]; simp
  have hz2 : (f0 == -1) = awTo f0 l 0 := by unfold awTo; simp
  have HZ := Lib.hid (And.intro hz hz2)
  clear hr hn hga hb hB hs hW hz hz2
  go_enter Tryz.func51, Tryz.ntmps51
  go_wp2_with fail
  rw [HW.out]
  go_big_quiet (fail)
  rename_i nq
  go_wp2_with fail
  go_loopw [3, 4, 5] (fun va vf iv wr => ∃ (k : Nat) (q : Int), va = .bool (awTo f0 l k) ∧ vf = .bool (frTo l k) ∧ iv = .int .i64 k ∧ k ≤ n ∧ Hid (((k = 0 ∧ q = -1) ∨ ∃ j y, k = j + 1 ∧ l[j]? = some y ∧ q = y.1) ∧ GA = ascB q (l.drop k)) ∧ Hid (Below W.heap.size W wr)) (fun _ _ iv _ => n - (intOf iv).toNat)
  case atStart => exact ⟨0, -1, by rw [← HZ.out.2], by rw [← HZ.out.1], rfl, Nat.zero_le _, Lib.hid ⟨.inl ⟨rfl, rfl⟩, HGA.out.symm⟩, Lib.hid (below_drewN (Below.refl _ W) _)⟩
  case round =>
    clear b0 b1
    obtain ⟨k, q, rfl, rfl, rfl, hk, HQ, HBR⟩ := hrel
    obtain ⟨b0, b1⟩ := BOX.out wr HBR.out
    obtain ⟨aw, haw⟩ : ∃ aw, awTo f0 l k = aw := ⟨_, rfl⟩
    obtain ⟨fr, hfr⟩ : ∃ fr, frTo l k = fr := ⟨_, rfl⟩
    rw [haw, hfr]
    by_cases hlt : k < n
    · obtain ⟨x, hx⟩ : ∃ x, l[k]? = some x := ⟨_, List.getElem?_eq_getElem (by rw [HN.out]; exact hlt)⟩
      obtain ⟨ad, rfl, c0, c1, c2⟩ := (HR.out.below HBR.out (Nat.le_refl _)).at hx
      have hbl : (ad.add (k * 3)).block < wr.heap.size := cell_lt0 c0
      have HS := Lib.hid (ascB_step (q := q) hx)
      have hna := awTo_next (f0 := f0) hx
      have hnf := frTo_next hx
      rw [haw] at hna
      rw [hfr] at hnf
      have HNA := Lib.hid (And.intro hna hnf)
      have HXk := Lib.hid hx
      clear hx hna hnf haw hfr
      obtain ⟨x0, x1, x2⟩ := x
      simp only at c0 c1 c2
      obtain ⟨w2, hw2⟩ : ∃ w2, wr.alloc (.cells #[.int .i64 x0, .int .i64 x1, .int .i64 x2] 92) = w2 := ⟨_, rfl⟩
      have hb2 : Below wr.heap.size wr w2 := by rw [← hw2]; exact (Below.refl _ wr).alloc (Nat.le_refl _) _
      have hI : w2.heap[wr.heap.size]? = some (.cells #[.int .i64 x0, .int .i64 x1, .int .i64 x2] 92 (0, 0)) := by rw [← hw2]; exact World.alloc_heap_new wr _
      have d0 : w2.cell? ⟨wr.heap.size, 0, none⟩ = some (.int .i64 x0) := by simp [World.cell?, hI]
      have d1 : w2.cell? ⟨wr.heap.size, 1, none⟩ = some (.int .i64 x1) := by simp [World.cell?, hI]
      have d2 : w2.cell? ⟨wr.heap.size, 2, none⟩ = some (.int .i64 x2) := by simp [World.cell?, hI]
      have HBE : Hid (Below W.heap.size W w2) := Lib.hid (HBR.out.trans (hb2.mono HBR.out.size))
      obtain ⟨e0, e1⟩ := BOX.out w2 HBE.out
      have HW2 := Lib.hid hw2
      have KQ : Hid (∀ (W : World) n, Calls Tryz.prog 40 #[.int .i64 x1] (W.drewN n) fun e w'' => e = .returned (.bool (goodB x1)) ∧ ∃ m, w'' = W.drewN m) := Lib.hid (fun W n => quiet_eq (rgoodw_c x1 (W.drewN n)))
      have KQ0 : Hid (∀ (W : World), Calls Tryz.prog 40 #[.int .i64 x1] W fun e w'' => e = .returned (.bool (goodB x1)) ∧ W = w'') := Lib.hid (fun W => rgoodw_c x1 W)
      obtain ⟨gb, hgb⟩ : ∃ gb, goodB x1 = gb := ⟨_, rfl⟩
      rw [hgb] at KQ KQ0
      have HGB := Lib.hid hgb
      have hk0 : (0 : Int) ≤ (k : Int) := by omega
      have hkm : (k : Int) < (n : Int) := by omega
      clear hw2 hb2 hI hgb
      rcases HQ.out.1 with ⟨hk00, hq⟩ | ⟨j, y, hj, hy, hq⟩
      · subst hq
        have hkz : ¬ (0 : Int) < (k : Int) := by omega
        clear hk00
        by_cases h1 : x0 < 0
        · have g1 : decide (x0 < 0) = true := decide_eq_true h1
          have HP : Hid (GA = false) := Lib.hid (by rw [HQ.out.2, HS.out, item_no (.inl h1)]; simp)
          clear HS KQ0
          go_wp2_with fail
          rw [HW2.out]
          go_big_quiet ((first | exact KQ.out _ _))
          go_wp2_with fail
          go_ret
          exact ⟨ret_b (by rw [HV.out, HP.out]; simp), below_drewN (HB.out.trans (HBE.out.mono HB.out.size)) _⟩
        have g1 : decide (x0 < 0) = false := decide_eq_false h1
        by_cases h2 : 1073741824 < x0
        · have g2 : decide (1073741824 < x0) = true := decide_eq_true h2
          have HP : Hid (GA = false) := Lib.hid (by rw [HQ.out.2, HS.out, item_no (.inr (.inl h2))]; simp)
          clear HS KQ0
          go_wp2_with fail
          rw [HW2.out]
          go_big_quiet ((first | exact KQ.out _ _))
          go_wp2_with fail
          go_ret
          exact ⟨ret_b (by rw [HV.out, HP.out]; simp), below_drewN (HB.out.trans (HBE.out.mono HB.out.size)) _⟩
        have g2 : decide (1073741824 < x0) = false := decide_eq_false h2
        have gz : decide ((0 : Int) < (k : Int)) = false := decide_eq_false hkz
        have gzn : decide (0 < k) = false := decide_eq_false (by omega)
        cases gb
        case' false =>
          have HP : Hid (GA = false) := Lib.hid (by rw [HQ.out.2, HS.out, item_no (.inr (.inr (.inl HGB.out)))]; simp)
          clear HS KQ0
          go_wp2_with fail
          rw [HW2.out]
          go_big_quiet ((first | exact KQ.out _ _))
          go_wp2_with fail
          go_ret
          exact ⟨ret_b (by rw [HV.out, HP.out]; simp), below_drewN (HB.out.trans (HBE.out.mono HB.out.size)) _⟩
        by_cases h4 : x2 < -1125899906842624
        · have g4 : decide (x2 < -1125899906842624) = true := decide_eq_true h4
          have HP : Hid (GA = false) := Lib.hid (by rw [HQ.out.2, HS.out, item_no (.inr (.inr (.inr (.inl h4))))]; simp)
          clear HS KQ0
          go_wp2_with fail
          rw [HW2.out]
          go_big_quiet ((first | exact KQ.out _ _))
          go_wp2_with fail
          go_ret
          exact ⟨ret_b (by rw [HV.out, HP.out]; simp), below_drewN (HB.out.trans (HBE.out.mono HB.out.size)) _⟩
        have g4 : decide (x2 < -1125899906842624) = false := decide_eq_false h4
        by_cases h5 : 1125899906842624 < x2
        · have g5 : decide (1125899906842624 < x2) = true := decide_eq_true h5
          have HP : Hid (GA = false) := Lib.hid (by rw [HQ.out.2, HS.out, item_no (.inr (.inr (.inr (.inr h5))))]; simp)
          clear HS KQ0
          go_wp2_with fail
          rw [HW2.out]
          go_big_quiet ((first | exact KQ.out _ _))
          go_wp2_with fail
          go_ret
          exact ⟨ret_b (by rw [HV.out, HP.out]; simp), below_drewN (HB.out.trans (HBE.out.mono HB.out.size)) _⟩
        have g5 : decide (1125899906842624 < x2) = false := decide_eq_false h5
        have hit := item_yes h1 h2 HGB.out h4 h5
        have HNX : Hid (GA = ascB x0 (l.drop (k + 1))) := Lib.hid (by
          have hlt0 : decide ((-1) < x0) = true := decide_eq_true (by omega)
          rw [HQ.out.2, HS.out, hit, hlt0]
          rfl)
        clear HS KQ0 hit
        go_wp2_with fail
        rw [HW2.out]
        go_big_quiet ((first | exact KQ.out _ _))
        rename_i nq2
        clear KQ h1 h2 h4 h5 g1 g2 g4 g5 gz gzn
        cases aw
        all_goals
          cases fr
          all_goals
            go_wp2_with fail
            go_roundw
            case rel => exact ⟨k + 1, x0, by rw [HNA.out.1]; rfl, by rw [HNA.out.2]; rfl, by go_num, by omega, Lib.hid ⟨.inr ⟨k, _, rfl, HXk.out, rfl⟩, HNX.out⟩, Lib.hid (below_drewN HBE.out _)⟩
            case measure => simp [intOf]; omega
      · subst hq
        obtain ⟨ad', he', t0, -, -⟩ := (HR.out.below HBE.out (Nat.le_refl _)).at hy
        obtain rfl : ad = ad' := by injection he'
        obtain ⟨y0, y1, y2⟩ := y
        simp only at t0
        have hwj : IntKind.i64.wrap ((k : Int) - 1) = (j : Int) := by rw [IntKind.wrap_i64]; omega
        have hj0 : (0 : Int) ≤ (j : Int) := by omega
        have hjn : (j : Int) < (n : Int) := by omega
        have hjp : (0 : Int) < (k : Int) := by omega
        clear hj
        clear hy he'
        by_cases h1 : x0 < 0
        · have g1 : decide (x0 < 0) = true := decide_eq_true h1
          have HP : Hid (GA = false) := Lib.hid (by rw [HQ.out.2, HS.out, item_no (.inl h1)]; simp)
          clear HS KQ0
          go_wp2_with fail
          rw [HW2.out]
          go_big_quiet ((first | exact KQ.out _ _))
          go_wp2_with fail
          go_ret
          exact ⟨ret_b (by rw [HV.out, HP.out]; simp), below_drewN (HB.out.trans (HBE.out.mono HB.out.size)) _⟩
        have g1 : decide (x0 < 0) = false := decide_eq_false h1
        by_cases h2 : 1073741824 < x0
        · have g2 : decide (1073741824 < x0) = true := decide_eq_true h2
          have HP : Hid (GA = false) := Lib.hid (by rw [HQ.out.2, HS.out, item_no (.inr (.inl h2))]; simp)
          clear HS KQ0
          go_wp2_with fail
          rw [HW2.out]
          go_big_quiet ((first | exact KQ.out _ _))
          go_wp2_with fail
          go_ret
          exact ⟨ret_b (by rw [HV.out, HP.out]; simp), below_drewN (HB.out.trans (HBE.out.mono HB.out.size)) _⟩
        have g2 : decide (1073741824 < x0) = false := decide_eq_false h2
        have gz : decide ((0 : Int) < (k : Int)) = true := decide_eq_true hjp
        have gzn : decide (0 < k) = true := decide_eq_true (by omega)
        by_cases h6 : x0 ≤ y0
        · have g6 : decide (x0 ≤ y0) = true := decide_eq_true h6
          have HP : Hid (GA = false) := Lib.hid (by rw [HQ.out.2, HS.out]; simp; omega)
          clear HS KQ0
          go_wp2_with fail
          rw [HW2.out]
          go_big_quiet ((first | exact KQ.out _ _))
          go_wp2_with fail
          go_ret
          exact ⟨ret_b (by rw [HV.out, HP.out]; simp), below_drewN (HB.out.trans (HBE.out.mono HB.out.size)) _⟩
        have g6 : decide (x0 ≤ y0) = false := decide_eq_false h6
        cases gb
        case' false =>
          have HP : Hid (GA = false) := Lib.hid (by rw [HQ.out.2, HS.out, item_no (.inr (.inr (.inl HGB.out)))]; simp)
          clear HS KQ0
          go_wp2_with fail
          rw [HW2.out]
          go_big_quiet ((first | exact KQ.out _ _))
          go_wp2_with fail
          go_ret
          exact ⟨ret_b (by rw [HV.out, HP.out]; simp), below_drewN (HB.out.trans (HBE.out.mono HB.out.size)) _⟩
        by_cases h4 : x2 < -1125899906842624
        · have g4 : decide (x2 < -1125899906842624) = true := decide_eq_true h4
          have HP : Hid (GA = false) := Lib.hid (by rw [HQ.out.2, HS.out, item_no (.inr (.inr (.inr (.inl h4))))]; simp)
          clear HS KQ0
          go_wp2_with fail
          rw [HW2.out]
          go_big_quiet ((first | exact KQ.out _ _))
          go_wp2_with fail
          go_ret
          exact ⟨ret_b (by rw [HV.out, HP.out]; simp), below_drewN (HB.out.trans (HBE.out.mono HB.out.size)) _⟩
        have g4 : decide (x2 < -1125899906842624) = false := decide_eq_false h4
        by_cases h5 : 1125899906842624 < x2
        · have g5 : decide (1125899906842624 < x2) = true := decide_eq_true h5
          have HP : Hid (GA = false) := Lib.hid (by rw [HQ.out.2, HS.out, item_no (.inr (.inr (.inr (.inr h5))))]; simp)
          clear HS KQ0
          go_wp2_with fail
          rw [HW2.out]
          go_big_quiet ((first | exact KQ.out _ _))
          go_wp2_with fail
          go_ret
          exact ⟨ret_b (by rw [HV.out, HP.out]; simp), below_drewN (HB.out.trans (HBE.out.mono HB.out.size)) _⟩
        have g5 : decide (1125899906842624 < x2) = false := decide_eq_false h5
        have hit := item_yes h1 h2 HGB.out h4 h5
        have HNX : Hid (GA = ascB x0 (l.drop (k + 1))) := Lib.hid (by
          have hlt0 : decide (y0 < x0) = true := decide_eq_true (by omega)
          rw [HQ.out.2, HS.out, hit, hlt0]
          rfl)
        clear HS KQ0 hit
        go_wp2_with fail
        rw [HW2.out]
        go_big_quiet ((first | exact KQ.out _ _))
        rename_i nq2
        clear KQ h1 h2 h4 h5 g1 g2 g4 g5 gz gzn h6 g6
        cases aw
        all_goals
          cases fr
          all_goals
            go_wp2_with fail
            go_roundw
            case rel => exact ⟨k + 1, x0, by rw [HNA.out.1]; rfl, by rw [HNA.out.2]; rfl, by go_num, by omega, Lib.hid ⟨.inr ⟨k, _, rfl, HXk.out, rfl⟩, HNX.out⟩, Lib.hid (below_drewN HBE.out _)⟩
            case measure => simp [intOf]; omega
    · obtain rfl : k = n := by omega
      have HG : Hid (GA = true) := Lib.hid (by rw [HQ.out.2, ← HN.out]; exact ascB_end q l)
      have HBZ := Lib.hid (HB.out.trans (HBR.out.mono HB.out.size))
      have hv := HV.out
      rw [HN.out, haw, hfr, HG.out] at hv
      have HVV := Lib.hid hv
      clear haw hfr hv HR HQ
      by_cases h64 : k ≤ 64
      all_goals
        have h64' : (k : Int) ≤ 64 ∨ ¬ (k : Int) ≤ 64 := by omega
        cases aw
        all_goals
          cases fr
          all_goals
            go_wp2_with fail
            all_goals
              go_ret
              exact ⟨ret_b (by rw [HVV.out]; first | (simp; done) | (simp [h64]; done) | (simp; omega)), HBZ.out⟩
end Go.Proofs.YtandmngfajoinaaGreat.Po

namespace Go.Proofs.YtandmngfajoinaaGreat.Po
open Go.RowKit

def seedT (base : Int) (l : List RI) : List TI := l.map (fun x => (x.1, x.2.1, base - x.2.2, base - x.2.2 + 4 * tickV x.2.1))
theorem take_snocT {l : List TI} {k : Nat} {x : TI} (h : l[k]? = some x) : l.take (k + 1) = l.take k ++ [x] := by rw [List.take_add_one, h]; rfl
theorem flatT_snoc (l : List TI) (x : TI) : flatT (l ++ [x]) = flatT l ++ encT x := by rw [flatT_append]; simp [flatT]
/-- So many are in. -/
def SdAt (t : Int) (W : World) (p : Nat) (base : Int) (v : Value) (xs : List TI) (wr : World) : Prop := IsT wr p t base (-1) v xs ∧ (∀ g, v.ownBlock = some g → p < g) ∧ Below p W wr
theorem SdAt.next {t : Int} {W wr w5 : World} {p : Nat} {base : Int} {v v' : Value} {xs : List TI} {y : TI} {o : Obj} (h : SdAt t W p base v xs wr) (_hW : p ≤ W.heap.size) (r1 : w5.ownsRow 0 59 4 v' (xs.length + 1) (flatT xs ++ encT y)) (r2 : ((wr.alloc o).drew).grownBy w5 v.ownBlock) (r3 : ∀ g, v'.ownBlock = some g → v.ownBlock = some g ∨ ((wr.alloc o).drew).heap.size ≤ g) :
    SdAt t W p base v' (xs ++ [y]) (w5.setCell ⟨p, 3, none⟩ v') ∧ w5.cell? ⟨p, 3, none⟩ = some v ∧ w5.frozen? ⟨p, 3, none⟩ = false := by
  obtain ⟨h1, h2, h3⟩ := h
  have hp := h1.ltp
  have hsz : ((wr.alloc o).drew).heap.size = wr.heap.size + 1 := by show (wr.alloc o).heap.size = _; simp
  have hs5 : wr.heap.size + 1 ≤ w5.heap.size := by have := r2.size; omega
  have hk : ∀ k, k < p + 1 → w5.heap[k]? = wr.heap[k]? := fun k hlt => (r2.block k (by omega) (fun e => by have := h2 k e.symm; omega)).trans (Below.heap_alloc wr o k (by omega))
  have e1 := (hk p (by omega)).trans h1.1
  have hv' : ∀ g, v'.ownBlock = some g → p < g := fun g hg => by
    rcases r3 g hg with h | h
    · exact h2 g h
    · omega
  have hne : ∀ k, k ≠ p → (w5.setCell ⟨p, 3, none⟩ v').heap[k]? = w5.heap[k]? := fun k hk => Below.heap_setCell w5 _ _ k hk
  have hss : (w5.setCell ⟨p, 3, none⟩ v').heap.size = w5.heap.size := by simp [World.setCell]
  refine ⟨⟨⟨set_heap e1 _, ?_, fun e => by have := hv' p e; omega⟩, hv', ⟨?_, ?_, ?_, by have := h3.size; omega, fun k hlt => (hne k (by omega)).trans ((hk k (by omega)).trans (h3.block k hlt))⟩⟩, by simp [World.cell?, e1], by simp [World.frozen?, e1]⟩
  · unfold TV
    rw [List.length_append, List.length_singleton, flatT_snoc]
    exact own_keep r1 (fun g hg => hne g (by have := hv' g hg; omega))
  · exact r2.os.trans h3.os
  · exact r2.tape.trans h3.tape
  · exact r2.output.trans h3.output
/-- What Seed answers. -/
def RSPost (t base f0 : Int) (l : List RI) (w : World) (e : Ending) (w' : World) : Prop :=
  if Tag t ∧ SdOk base f0 l then ∃ p v, e = .returned (.tuple #[.pointer (some ⟨p, 0, none⟩), .int .i64 0]) ∧ IsT w' p t base f0 v (seedT base l) ∧ (∀ k, TOf p v k → w.heap.size ≤ k) ∧ Below w.heap.size w w'
  else e = .returned (.tuple #[.pointer none, .int .i64 1]) ∧ Below w.heap.size w w'

set_option linter.unusedSimpArgs false in
set_option maxRecDepth 100000 in
set_option maxHeartbeats 16000000 in
theorem rseed_t {t : Int} (ht : Tag t) (f0 base : Int) (A : Option Addr) (n c : Nat) (l : List RI) (w : World) (hn : l.length = n) (hl : n ≤ 1000000) (hr : TRow w A l) :
    Calls Tryz.prog 23 #[.int .i64 t, .agg #[.int .i64 f0, .slice A n c], .int .i64 base] w (RSPost t base f0 l w) := by
  obtain ⟨W, hW⟩ : ∃ W, w.alloc (.cells #[.int .i64 f0, .slice A n c] 53) = W := ⟨_, rfl⟩
  have hb : Below w.heap.size w W := by rw [← hW]; exact (Below.refl _ w).alloc (Nat.le_refl _) _
  have hB : W.heap[w.heap.size]? = some (.cells #[.int .i64 f0, .slice A n c] 53 (0, 0)) := by rw [← hW]; exact World.alloc_heap_new w _
  have hs : W.heap.size = w.heap.size + 1 := by rw [← hW]; simp
  have b0 : W.cell? ⟨w.heap.size, 0, none⟩ = some (.int .i64 f0) := by simp [World.cell?, hB]
  have b1 : W.cell? ⟨w.heap.size, 1, none⟩ = some (.slice A n c) := by simp [World.cell?, hB]
  have HW := Lib.hid hW
  have HB := Lib.hid hb
  have HN := Lib.hid hn
  by_cases hbase : -1152921504606846976 ≤ base ∧ base ≤ 1152921504606846976
  · obtain ⟨p, hp⟩ : ∃ p, W.heap.size = p := ⟨_, rfl⟩
    have kn := rnew_c t base W ht hbase.1 hbase.2
    have hi0 := rnew_is (w := W) t base
    rw [hp] at kn hi0
    obtain ⟨w3, hw3⟩ : ∃ w3, W.alloc (.cells #[.int .i64 t, .int .i64 base, .int .i64 (-1), .slice none 0 0] 57) = w3 := ⟨_, rfl⟩
    rw [hw3] at kn hi0
    have hb3 : Below p W w3 := by rw [← hw3, ← hp]; exact (Below.refl _ W).alloc (Nat.le_refl _) _
    have hs3 : w3.heap.size = p + 1 := by rw [← hw3, ← hp]; simp
    have hpw : p = w.heap.size + 1 := by omega
    have HS0 : Hid (SdAt t W p base (.slice none 0 0) [] w3) := Lib.hid ⟨hi0, fun g hg => by simp [Value.ownBlock] at hg, hb3⟩
    have BOX : Hid (∀ w', Below p W w' → w'.cell? ⟨w.heap.size, 0, none⟩ = some (.int .i64 f0) ∧ w'.cell? ⟨w.heap.size, 1, none⟩ = some (.slice A n c)) := Lib.hid (fun w' h => ⟨(h.cell (p := ⟨w.heap.size, 0, none⟩) (by show w.heap.size < _; omega)).trans b0, (h.cell (p := ⟨w.heap.size, 1, none⟩) (by show w.heap.size < _; omega)).trans b1⟩)
    have HR : Hid (∀ w', Below p W w' → TRow w' A l ∧ Below w.heap.size w w') := Lib.hid (fun w' h => ⟨hr.below (hb.trans (h.mono (by omega))) (Nat.le_refl _), hb.trans (h.mono (by omega))⟩)
    have KG := Lib.hid (rgood_c f0 A n c l w3 hn hl (HR.out w3 hb3).1)
    have KN := Lib.hid kn
    obtain ⟨d0, d1⟩ := BOX.out w3 hb3
    have HB3 := Lib.hid hb3
    have HP := Lib.hid (And.intro hp hpw)
    have HBA := Lib.hid hbase
    cases hg : goodV f0 l with
    | false =>
      rw [hg] at KG
      refine Calls.mono (?_ : Calls _ _ _ _ (fun e w' => e = .returned (.tuple #[.pointer none, .int .i64 1]) ∧ Below w.heap.size w w')) (fun e w' h => by unfold RSPost; rw [if_neg (fun hh => by have h2 := hh.2.1; rw [hg] at h2; exact Bool.false_ne_true h2)]; exact h)
      clear hr hn hb hB hs hW hbase hi0 hw3 kn hb3 hs3 hpw hp hg HS0
      go_enter Tryz.func23, Tryz.ntmps23
      go_wp2_with fail
      rw [HW.out]
      refine KN.out.mono ?_
      rintro e w4 ⟨rfl, rfl⟩
      go_wp2_with fail
      refine KG.out.mono ?_
      rintro e w5 ⟨rfl, hb5⟩
      have HB5 := Lib.hid ((HR.out _ HB3.out).2.trans (hb5.mono (HR.out _ HB3.out).2.size))
      clear hb5 KG
      go_wp2_with fail
      go_ret2
      exact ⟨rfl, HB5.out⟩
    | true =>
      rw [hg] at KG
      refine Calls.mono (?_ : Calls _ _ _ _ (fun e w' => ∃ p v, e = .returned (.tuple #[.pointer (some ⟨p, 0, none⟩), .int .i64 0]) ∧ IsT w' p t base f0 v (seedT base l) ∧ (∀ k, TOf p v k → w.heap.size ≤ k) ∧ Below w.heap.size w w')) (fun e w' h => by unfold RSPost; rw [if_pos ⟨ht, hg, hbase⟩]; exact h)
      have HGF := Lib.hid (goodV_of hg)
      obtain ⟨i0, hi, hz0, hz1, hz2⟩ := info_partsT info_ti
      clear hr hn hb hB hs hW hbase hi0 hw3 kn hb3 hs3 hpw hp hg
      go_enter Tryz.func23, Tryz.ntmps23
      go_wp2_with fail
      rw [HW.out]
      refine KN.out.mono ?_
      rintro e w4 ⟨rfl, rfl⟩
      go_wp2_with fail
      refine KG.out.mono ?_
      rintro e w5 ⟨rfl, hb5⟩
      have HS5 : Hid (SdAt t W p base (.slice none 0 0) [] w5) := Lib.hid ⟨HS0.out.1.below hb5, HS0.out.2.1, HS0.out.2.2.trans (hb5.mono (by have := HS0.out.1.ltp; omega))⟩
      clear hb5 KG KN HS0 d0 d1
      obtain ⟨d0, d1⟩ := BOX.out w5 HS5.out.2.2
      go_wp2_with fail
      clear d0 d1
      go_loopw [10, 11] (fun iv _ wr => ∃ (k : Nat) (v : Value), iv = .int .i64 k ∧ k ≤ n ∧ Hid (SdAt t W p base v ((seedT base l).take k) wr)) (fun iv _ _ => n - (intOf iv).toNat)
      case atStart => exact ⟨0, _, rfl, Nat.zero_le _, HS5⟩
      case round =>
        clear HS5
        obtain ⟨k, v, rfl, hk, HA⟩ := hrel
        obtain ⟨d0, d1⟩ := BOX.out wr HA.out.2.2
        obtain ⟨-, -, q2, q3⟩ := HA.out.1.cells
        have qf := HA.out.1.free 2
        by_cases hlt : k < n
        · obtain ⟨x, hx⟩ : ∃ x, l[k]? = some x := ⟨_, List.getElem?_eq_getElem (by rw [HN.out]; exact hlt)⟩
          obtain ⟨ad, rfl, c0, c1, c2⟩ := (HR.out wr HA.out.2.2).1.at hx
          have hadl : (ad.add (k * 3)).block < p := by
            obtain ⟨ad', he, e0, -, -⟩ := (HR.out W (Below.refl _ W)).1.at hx
            obtain rfl := Option.some.inj he
            have := cell_lt0 e0
            rw [HP.out.1] at this
            exact this
          have hit := itemB_true.1 (HGF.out.each x (List.mem_of_getElem? hx))
          have hfx : (seedT base l)[k]? = some (x.1, x.2.1, base - x.2.2, base - x.2.2 + 4 * tickV x.2.1) := by unfold seedT; rw [List.getElem?_map, hx]; rfl
          have HT := Lib.hid (take_snocT hfx)
          have hlen : ((seedT base l).take k).length = k := by
            rw [List.length_take]
            unfold seedT
            rw [List.length_map, HN.out]
            omega
          have HLEN := Lib.hid hlen
          obtain ⟨hd1, hd2⟩ := tickV_bd x.2.1
          have KD := Lib.hid (fun w => rday_c x.2.1 w)
          obtain ⟨x0, x1, x2⟩ := x
          simp only at c0 c1 c2 hit HT hd1 hd2 KD
          obtain ⟨dv, hdv⟩ : ∃ dv, 4 * tickV x1 = dv := ⟨_, rfl⟩
          simp only [hdv] at KD HT
          obtain ⟨nv, hnv⟩ : ∃ nv, base - x2 = nv := ⟨_, rfl⟩
          have hw1 : IntKind.i64.wrap (base - x2) = nv := by have := HBA.out; rw [IntKind.wrap_i64]; omega
          have hw2 : IntKind.i64.wrap (nv + dv) = nv + dv := by have := HBA.out; rw [IntKind.wrap_i64]; omega
          rw [hnv] at HT
          generalize (seedT base l).take k = xs at *
          have hkm : (k : Int) < (n : Int) := by omega
          have hk0 : (0 : Int) ≤ (k : Int) := by omega
          have hpl := HA.out.1.ltp
          have hpw := HP.out.2
          clear hx hfx hlen hit hdv hnv hd1 hd2 q2 qf
          have KEEP : Hid (∀ w2 : World, (∀ j, j < p + 1 → w2.heap[j]? = wr.heap[j]?) → (fun w' => w'.cell? ⟨p, 3, none⟩ = some v ∧ w'.cell? ⟨w.heap.size, 1, none⟩ = some (.slice (some ad) n c) ∧ w'.cell? (ad.add (k * 3)) = some (.int .i64 x0) ∧ w'.cell? ⟨(ad.add (k * 3)).block, (ad.add (k * 3)).off + 1, none⟩ = some (.int .i64 x1)) w2) := Lib.hid (fun w2 hs => ⟨(cellB (a := ⟨p, 3, none⟩) (hs p (by omega))).trans q3, (cellB (a := ⟨w.heap.size, 1, none⟩) (hs w.heap.size (by omega))).trans d1, (cellB (hs _ (by omega))).trans c0, (cellB (a := ⟨(ad.add (k * 3)).block, (ad.add (k * 3)).off + 1, none⟩) (hs _ (by show (ad.add (k * 3)).block < _; omega))).trans c1⟩)
          have S0 := Lib.hid (KEEP.out wr.drew (fun _ _ => rfl))
          clear hpw
          go_wp2_with fail
          refine wp_region_phase 30 (by kernel_rfl) (by kernel_rfl) (fun w' => w'.cell? ⟨p, 3, none⟩ = some v ∧ w'.cell? ⟨w.heap.size, 1, none⟩ = some (.slice (some ad) n c) ∧ w'.cell? (ad.add (k * 3)) = some (.int .i64 x0) ∧ w'.cell? ⟨(ad.add (k * 3)).block, (ad.add (k * 3)).off + 1, none⟩ = some (.int .i64 x1)) ?_
          refine wpAnyH_take (i := 0) (v := .pointer (some ⟨p, 0, none⟩)) rfl (by kernel_rfl) (by kernel_rfl) (by kernel_rfl) (fun _ _ _ h => h) (Or.inl ⟨by rfl, ?_⟩) S0.out ?_
          · rintro w' ⟨s1, s2, s3, s4⟩; go_simp
          simp only [Act.put, List.setIfInBounds_toArray, List.set_cons_zero, List.set_cons_succ]
          refine wpAnyH_take (i := 1) (v := .pointer (some ⟨p, 0, none⟩)) rfl (by kernel_rfl) (by kernel_rfl) (by kernel_rfl) (fun _ _ _ h => h) (Or.inl ⟨by rfl, ?_⟩) S0.out ?_
          · rintro w' ⟨s1, s2, s3, s4⟩; go_simp
          simp only [Act.put, List.setIfInBounds_toArray, List.set_cons_zero, List.set_cons_succ]
          refine wpAnyH_take (i := 2) (v := .pointer (some ⟨p, 0, none⟩)) rfl (by kernel_rfl) (by kernel_rfl) (by kernel_rfl) (fun _ _ _ h => h) (Or.inl ⟨by rfl, ?_⟩) S0.out ?_
          · rintro w' ⟨s1, s2, s3, s4⟩; go_simp
          simp only [Act.put, List.setIfInBounds_toArray, List.set_cons_zero, List.set_cons_succ]
          refine wpAnyH_take (i := 3) (v := .pointer (some ⟨p, 3, none⟩)) rfl (by kernel_rfl) (by kernel_rfl) (by kernel_rfl) (fun _ _ _ h => h) (Or.inl ⟨by rfl, ?_⟩) S0.out ?_
          · rintro w' ⟨s1, s2, s3, s4⟩; go_simp
          simp only [Act.put, List.setIfInBounds_toArray, List.set_cons_zero, List.set_cons_succ]
          refine wpAnyH_take (i := 4) (v := v) rfl (by kernel_rfl) (by kernel_rfl) (by kernel_rfl) (fun _ _ _ h => h) (Or.inl ⟨by rfl, ?_⟩) S0.out ?_
          · rintro w' ⟨s1, s2, s3, s4⟩; go_simp
          simp only [Act.put, List.setIfInBounds_toArray, List.set_cons_zero, List.set_cons_succ]
          refine wpAnyH_take (i := 5) (v := .pointer (some ⟨w.heap.size, 1, none⟩)) rfl (by kernel_rfl) (by kernel_rfl) (by kernel_rfl) (fun _ _ _ h => h) (Or.inl ⟨by rfl, ?_⟩) S0.out ?_
          · rintro w' ⟨s1, s2, s3, s4⟩; go_simp
          simp only [Act.put, List.setIfInBounds_toArray, List.set_cons_zero, List.set_cons_succ]
          refine wpAnyH_take (i := 6) (v := .slice (some ad) n c) rfl (by kernel_rfl) (by kernel_rfl) (by kernel_rfl) (fun _ _ _ h => h) (Or.inl ⟨by rfl, ?_⟩) S0.out ?_
          · rintro w' ⟨s1, s2, s3, s4⟩; go_simp
          simp only [Act.put, List.setIfInBounds_toArray, List.set_cons_zero, List.set_cons_succ]
          refine wpAnyH_take (i := 7) (v := .int .i64 k) rfl (by kernel_rfl) (by kernel_rfl) (by kernel_rfl) (fun _ _ _ h => h) (Or.inl ⟨by rfl, ?_⟩) S0.out ?_
          · rintro w' ⟨s1, s2, s3, s4⟩; go_simp
          simp only [Act.put, List.setIfInBounds_toArray, List.set_cons_zero, List.set_cons_succ]
          refine wpAnyH_take (i := 8) (v := .pointer (some (ad.add (k * 3)))) rfl (by kernel_rfl) (by kernel_rfl) (by kernel_rfl) (fun _ _ _ h => h) (Or.inl ⟨by rfl, ?_⟩) S0.out ?_
          · rintro w' ⟨s1, s2, s3, s4⟩; go_simp
          simp only [Act.put, List.setIfInBounds_toArray, List.set_cons_zero, List.set_cons_succ]
          refine wpAnyH_take (i := 9) (v := .pointer (some (ad.add (k * 3)))) rfl (by kernel_rfl) (by kernel_rfl) (by kernel_rfl) (fun _ _ _ h => h) (Or.inl ⟨by rfl, ?_⟩) S0.out ?_
          · rintro w' ⟨s1, s2, s3, s4⟩; go_simp
          simp only [Act.put, List.setIfInBounds_toArray, List.set_cons_zero, List.set_cons_succ]
          refine wpAnyH_take (i := 10) (v := .int .i64 x0) rfl (by kernel_rfl) (by kernel_rfl) (by kernel_rfl) (fun _ _ _ h => h) (Or.inl ⟨by rfl, ?_⟩) S0.out ?_
          · rintro w' ⟨s1, s2, s3, s4⟩; go_simp
          simp only [Act.put, List.setIfInBounds_toArray, List.set_cons_zero, List.set_cons_succ]
          refine wpAnyH_take (i := 11) (v := .pointer (some ⟨w.heap.size, 1, none⟩)) rfl (by kernel_rfl) (by kernel_rfl) (by kernel_rfl) (fun _ _ _ h => h) (Or.inl ⟨by rfl, ?_⟩) S0.out ?_
          · rintro w' ⟨s1, s2, s3, s4⟩; go_simp
          simp only [Act.put, List.setIfInBounds_toArray, List.set_cons_zero, List.set_cons_succ]
          refine wpAnyH_take (i := 12) (v := .slice (some ad) n c) rfl (by kernel_rfl) (by kernel_rfl) (by kernel_rfl) (fun _ _ _ h => h) (Or.inl ⟨by rfl, ?_⟩) S0.out ?_
          · rintro w' ⟨s1, s2, s3, s4⟩; go_simp
          simp only [Act.put, List.setIfInBounds_toArray, List.set_cons_zero, List.set_cons_succ]
          refine wpAnyH_take (i := 13) (v := .int .i64 k) rfl (by kernel_rfl) (by kernel_rfl) (by kernel_rfl) (fun _ _ _ h => h) (Or.inl ⟨by rfl, ?_⟩) S0.out ?_
          · rintro w' ⟨s1, s2, s3, s4⟩; go_simp
          simp only [Act.put, List.setIfInBounds_toArray, List.set_cons_zero, List.set_cons_succ]
          refine wpAnyH_take (i := 14) (v := .pointer (some (ad.add (k * 3)))) rfl (by kernel_rfl) (by kernel_rfl) (by kernel_rfl) (fun _ _ _ h => h) (Or.inl ⟨by rfl, ?_⟩) S0.out ?_
          · rintro w' ⟨s1, s2, s3, s4⟩; go_simp
          simp only [Act.put, List.setIfInBounds_toArray, List.set_cons_zero, List.set_cons_succ]
          refine wpAnyH_take (i := 15) (v := .pointer (some ⟨(ad.add (k * 3)).block, (ad.add (k * 3)).off + 1, none⟩)) rfl (by kernel_rfl) (by kernel_rfl) (by kernel_rfl) (fun _ _ _ h => h) (Or.inl ⟨by rfl, ?_⟩) S0.out ?_
          · rintro w' ⟨s1, s2, s3, s4⟩; go_simp
          simp only [Act.put, List.setIfInBounds_toArray, List.set_cons_zero, List.set_cons_succ]
          refine wpAnyH_take (i := 16) (v := .int .i64 x1) rfl (by kernel_rfl) (by kernel_rfl) (by kernel_rfl) (fun _ _ _ h => h) (Or.inl ⟨by rfl, ?_⟩) S0.out ?_
          · rintro w' ⟨s1, s2, s3, s4⟩; go_simp
          simp only [Act.put, List.setIfInBounds_toArray, List.set_cons_zero, List.set_cons_succ]
          refine wpAnyH_take (i := 17) (v := .int .i64 nv) rfl (by kernel_rfl) (by kernel_rfl) (by kernel_rfl) (fun _ _ _ h => h) (Or.inl ⟨by rfl, ?_⟩) S0.out ?_
          · rintro w' ⟨s1, s2, s3, s4⟩; go_simp
          simp only [Act.put, List.setIfInBounds_toArray, List.set_cons_zero, List.set_cons_succ]
          refine wpAnyH_take (i := 18) (v := .int .i64 nv) rfl (by kernel_rfl) (by kernel_rfl) (by kernel_rfl) (fun _ _ _ h => h) (Or.inl ⟨by rfl, ?_⟩) S0.out ?_
          · rintro w' ⟨s1, s2, s3, s4⟩; go_simp
          simp only [Act.put, List.setIfInBounds_toArray, List.set_cons_zero, List.set_cons_succ]
          refine wpAnyH_take (i := 19) (v := .pointer (some ⟨w.heap.size, 1, none⟩)) rfl (by kernel_rfl) (by kernel_rfl) (by kernel_rfl) (fun _ _ _ h => h) (Or.inl ⟨by rfl, ?_⟩) S0.out ?_
          · rintro w' ⟨s1, s2, s3, s4⟩; go_simp
          simp only [Act.put, List.setIfInBounds_toArray, List.set_cons_zero, List.set_cons_succ]
          refine wpAnyH_take (i := 20) (v := .slice (some ad) n c) rfl (by kernel_rfl) (by kernel_rfl) (by kernel_rfl) (fun _ _ _ h => h) (Or.inl ⟨by rfl, ?_⟩) S0.out ?_
          · rintro w' ⟨s1, s2, s3, s4⟩; go_simp
          simp only [Act.put, List.setIfInBounds_toArray, List.set_cons_zero, List.set_cons_succ]
          refine wpAnyH_take (i := 21) (v := .int .i64 k) rfl (by kernel_rfl) (by kernel_rfl) (by kernel_rfl) (fun _ _ _ h => h) (Or.inl ⟨by rfl, ?_⟩) S0.out ?_
          · rintro w' ⟨s1, s2, s3, s4⟩; go_simp
          simp only [Act.put, List.setIfInBounds_toArray, List.set_cons_zero, List.set_cons_succ]
          refine wpAnyH_take (i := 22) (v := .pointer (some (ad.add (k * 3)))) rfl (by kernel_rfl) (by kernel_rfl) (by kernel_rfl) (fun _ _ _ h => h) (Or.inl ⟨by rfl, ?_⟩) S0.out ?_
          · rintro w' ⟨s1, s2, s3, s4⟩; go_simp
          simp only [Act.put, List.setIfInBounds_toArray, List.set_cons_zero, List.set_cons_succ]
          refine wpAnyH_take (i := 23) (v := .pointer (some ⟨(ad.add (k * 3)).block, (ad.add (k * 3)).off + 1, none⟩)) rfl (by kernel_rfl) (by kernel_rfl) (by kernel_rfl) (fun _ _ _ h => h) (Or.inl ⟨by rfl, ?_⟩) S0.out ?_
          · rintro w' ⟨s1, s2, s3, s4⟩; go_simp
          simp only [Act.put, List.setIfInBounds_toArray, List.set_cons_zero, List.set_cons_succ]
          refine wpAnyH_take (i := 24) (v := .int .i64 x1) rfl (by kernel_rfl) (by kernel_rfl) (by kernel_rfl) (fun _ _ _ h => h) (Or.inl ⟨by rfl, ?_⟩) S0.out ?_
          · rintro w' ⟨s1, s2, s3, s4⟩; go_simp
          simp only [Act.put, List.setIfInBounds_toArray, List.set_cons_zero, List.set_cons_succ]
          refine wpAnyH_ready (rs := [25]) (by kernel_rfl) (by simp) ?_
          refine AllReadyH.cons rfl (fun K hK => ?_) AllReadyH.nil
          go_simp
          refine (KD.out _).mono ?_
          rintro e w4' ⟨rfl, rfl⟩
          refine hK.out _ _ S0.out (fun _ => ?_)
          clear hK
          refine wpAnyH_take (i := 26) (v := .int .i64 (nv + dv)) rfl (by kernel_rfl) (by kernel_rfl) (by kernel_rfl) (fun _ _ _ h => h) (Or.inl ⟨by rfl, ?_⟩) S0.out ?_
          · rintro w' ⟨s1, s2, s3, s4⟩; go_simp
          simp only [Act.put, List.setIfInBounds_toArray, List.set_cons_zero, List.set_cons_succ]
          refine wpAnyH_take (i := 27) (v := .agg #[.int .i64 x0, .int .i64 x1, .int .i64 nv, .int .i64 (nv + dv)]) rfl (by kernel_rfl) (by kernel_rfl) (by kernel_rfl) (fun _ _ _ h => h) (Or.inl ⟨by rfl, ?_⟩) S0.out ?_
          · rintro w' ⟨s1, s2, s3, s4⟩; go_simp
          simp only [Act.put, List.setIfInBounds_toArray, List.set_cons_zero, List.set_cons_succ]
          refine wpAnyH_ready (rs := [28]) (by kernel_rfl) (by simp) ?_
          refine AllReadyH.cons rfl (fun K hK => ?_) AllReadyH.nil
          go_simp
          have hsa : (wr.alloc (.cells #[.int .i64 x0, .int .i64 x1, .int .i64 nv, .int .i64 (nv + dv)] 59)).drew.heap.size = wr.heap.size + 1 := by show (wr.alloc _).heap.size = _; simp
          refine hK.out _ _ (KEEP.out _ (fun j hj => Below.heap_alloc wr _ j (by omega))) (fun _ => ?_)
          clear hK
          refine wpAnyH_ready (rs := [29]) (by kernel_rfl) (by simp) ?_
          refine AllReadyH.cons rfl (fun K hK => ?_) AllReadyH.nil
          obtain ⟨v', w5', hrun, r1, r2, r3⟩ := run_append_where (P := Tryz.prog) (wr.alloc (.cells #[.int .i64 x0, .int .i64 x1, .int .i64 nv, .int .i64 (nv + dv)] 59)).drew 0 55 55 59 i0 (.agg #[.int .i64 0, .int .i64 0, .int .i64 0, .int .i64 0]) 4 32 Tryz.underlying55 hi hz0 hz1 hz2 rfl (by decide) v _ _ ((HA.out.1.2.1).alloc _) ⟨wr.heap.size, 0, none⟩ 1 1 (encT (x0, x1, nv, nv + dv)) rfl (encT_at (World.alloc_heap_new wr _)) (encT_one _) (by have := HLEN.out; unfold maxLen; omega) (by have := HLEN.out; omega) (by omega)
          obtain ⟨A2, m2, rfl⟩ := row_form r1
          obtain ⟨hn1, hn2, hn3⟩ := HA.out.next (by rw [HP.out.1]; exact Nat.le_refl _) r1 r2 r3
          have hvB := HA.out.2.1
          refine step_appN rfl _ _ _ _ rfl hrun rfl rfl ?_
          refine hK.out _ _ (KEEP.out _ (fun j hj => (r2.block j (by omega) (fun e => by have := hvB j e.symm; omega)).trans (Below.heap_alloc wr _ j (by omega)))) (fun _ => ?_)
          rw [← HT.out] at hn1
          have HNX := Lib.hid hn1
          clear hK hrun r1 r2 r3 hn1 hvB
          refine wpAnyH_done (by kernel_rfl) ?_ _
          refine phase_tail (by kernel_rfl) ?_
          simp only [List.drop_succ_cons, List.drop_zero]
          go_wp2_with fail
          go_roundw
          case rel => exact ⟨k + 1, _, by go_num, by omega, HNX⟩
          case measure => simp [intOf]; omega
        · obtain rfl : k = n := by omega
          have hall : (seedT base l).take k = seedT base l := List.take_of_length_le (by unfold seedT; rw [List.length_map, HN.out]; omega)
          have ha := HA.out
          rw [hall] at ha
          have POST := Lib.hid (And.intro (ha.1.setC f0) (And.intro ha.2.1 ha.2.2))
          have HBX := Lib.hid (HR.out wr ha.2.2).2
          have HPW := Lib.hid HP.out.2
          clear ha hall HA
          go_wp2_with fail
          go_ret2
          obtain ⟨⟨z1, z2⟩, z3, z4⟩ := POST.out
          refine ⟨p, v, rfl, z1, ?_, HBX.out.setCell (by show w.heap.size ≤ p; have := HPW.out; omega) _⟩
          rintro j (rfl | hj)
          · have := HPW.out; omega
          · have := z3 j hj; have := HPW.out; omega
  · have kn := rnew_no t base W ht (by omega)
    have KN := Lib.hid kn
    refine Calls.mono (?_ : Calls _ _ _ _ (fun e w' => e = .returned (.tuple #[.pointer none, .int .i64 1]) ∧ Below w.heap.size w w')) (fun e w' h => by unfold RSPost; rw [if_neg (fun h => hbase h.2.2)]; exact h)
    clear kn hr hn hb hB hs hW hbase
    go_enter Tryz.func23, Tryz.ntmps23
    go_wp2_with fail
    rw [HW.out]
    refine KN.out.mono ?_
    rintro e w4 ⟨rfl, rfl⟩
    go_wp2_with fail
    go_ret2
    exact ⟨rfl, HB.out⟩
theorem rnew_bad (t base : Int) (w : World) (ht : ¬ Tag t) :
    Calls Tryz.prog 10 #[.int .i64 t, .int .i64 base] w fun e w' => e = .returned (.tuple #[.pointer none, .int .i64 1]) ∧ w = w' := by
  have h : t < 0 ∨ 2 < t := by unfold Tag at ht; omega
  clear ht
  rcases h with h | h
  · go_enter Tryz.func10, Tryz.ntmps10
    go_wp2_with fail
    go_ret2
    exact ⟨rfl, rfl⟩
  · have h2 : ¬ t < 0 := by omega
    go_enter Tryz.func10, Tryz.ntmps10
    go_wp2_with fail
    go_ret2
    exact ⟨rfl, rfl⟩
theorem rseed_bad {t : Int} (ht : ¬ Tag t) (f0 base : Int) (A : Option Addr) (n c : Nat) (w : World) :
    Calls Tryz.prog 23 #[.int .i64 t, .agg #[.int .i64 f0, .slice A n c], .int .i64 base] w fun e w' => e = .returned (.tuple #[.pointer none, .int .i64 1]) ∧ Below w.heap.size w w' := by
  have hb := (Below.refl _ w).alloc (Nat.le_refl _) (.cells #[.int .i64 f0, .slice A n c] 53)
  obtain ⟨W, hW⟩ : ∃ W, w.alloc (.cells #[.int .i64 f0, .slice A n c] 53) = W := ⟨_, rfl⟩
  rw [hW] at hb
  have HB := Lib.hid hb
  have KN := Lib.hid (rnew_bad t base W ht)
  have HW := Lib.hid hW
  clear hb hW ht
  go_enter Tryz.func23, Tryz.ntmps23
  go_wp2_with fail
  rw [HW.out]
  refine KN.out.mono ?_
  rintro e w4 ⟨rfl, rfl⟩
  go_wp2_with fail
  go_ret2
  exact ⟨rfl, HB.out⟩
theorem rseed_p (t f0 base : Int) (A : Option Addr) (n c : Nat) (l : List RI) (w : World) (hn : l.length = n) (hl : n ≤ 1000000) (hr : TRow w A l) :
    Calls Tryz.prog 23 #[.int .i64 t, .agg #[.int .i64 f0, .slice A n c], .int .i64 base] w (RSPost t base f0 l w) := by
  by_cases ht : Tag t
  · exact rseed_t ht f0 base A n c l w hn hl hr
  · refine (rseed_bad ht f0 base A n c w).mono (fun e w' h => ?_)
    unfold RSPost
    rw [if_neg (fun hh => ht hh.1)]
    exact h
end Go.Proofs.YtandmngfajoinaaGreat.Po
