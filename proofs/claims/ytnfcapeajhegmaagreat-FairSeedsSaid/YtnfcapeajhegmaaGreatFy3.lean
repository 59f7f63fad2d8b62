/- The reference's queue beside fair's: its calls in the words of fair's models. fair's queue beside the reference's. -/
import Derived.Test.YtnfcapeajhegmaaGreatMv
import Derived.Test.YtnfcapeajhegmaaGreatMu
import Derived.Test.YtnfcapeajhegmaaGreatFzt
import Derived.Test.YtnfcapeajhegmaaGreatFo3
namespace Go.Proofs.YtnfcapeajhegmaaGreat
open Go.RowKit

def cutT (x : TI) : RI := (x.1, x.2.1, x.2.2.1)
def cutL (T : List TI) : List RI := T.map cutT
theorem tick_step (x : Int) : tickV x = stepV x := rfl
theorem cut_len (T : List TI) : (cutL T).length = T.length := by unfold cutL; simp
theorem cut_at {T : List TI} {k : Nat} {x : TI} (h : T[k]? = some x) : (cutL T)[k]? = some (cutT x) := by unfold cutL; rw [List.getElem?_map, h]; rfl
theorem cut_mem {T : List TI} {x : TI} (h : x ∈ T) : cutT x ∈ cutL T := List.mem_map.2 ⟨x, h, rfl⟩
theorem cut_nil {T : List TI} : cutL T = [] ↔ T = [] := by unfold cutL; simp
theorem cut_form (base : Int) (T : List TI) : formT base T = formL base (cutL T) := by
  unfold formT formL cutL
  rw [List.map_map]
  rfl
theorem cut_min {T : List TI} (h : T ≠ []) : minP T = (minR (cutL T)).1 := by
  obtain ⟨x, hx, he⟩ := minP_mem h
  obtain ⟨r, hr, h1, h2⟩ := minR_mem (R := cutL T) (fun e => h (cut_nil.1 e))
  have h3 := minR_le (cut_mem hx)
  obtain ⟨y, hy, rfl⟩ := List.mem_map.1 hr
  have h4 := minP_le hy
  have e1 : (cutT y).2.2 = y.2.2.1 := rfl
  have e2 : (cutT x).2.2 = x.2.2.1 := rfl
  rw [e1] at h1
  rw [e2] at h3
  omega
theorem cut_grow (base : Int) (T : List TI) : growT base T = raiseM base (cutL T) := by
  unfold growT raiseM
  by_cases h : T = []
  · rw [if_pos h, if_pos (cut_nil.2 h)]
  · rw [if_neg h, if_neg (fun e => h (cut_nil.1 e)), cut_min h]
theorem cut_ins (T : List TI) (x : TI) : cutL (insTT T x) = insR (cutL T) (cutT x) := by
  induction T with
  | nil => rfl
  | cons y ys ih =>
    unfold insTT
    show cutL (if y.1 < x.1 then y :: insTT ys x else x :: y :: ys) = (if (cutT y).1 < (cutT x).1 then cutT y :: insR (cutL ys) (cutT x) else cutT x :: cutT y :: cutL ys)
    by_cases h : y.1 < x.1
    · have h' : (cutT y).1 < (cutT x).1 := h
      rw [if_pos h, if_pos h', ← ih]; rfl
    · have h' : ¬ (cutT y).1 < (cutT x).1 := h
      rw [if_neg h, if_neg h']; rfl
theorem cut_has {T : List TI} {id : Int} : (atT id T 0 = -1 ∧ hasI (cutL T) id = false) ∨ ∃ k x, atT id T 0 = ((k : Nat) : Int) ∧ T[k]? = some x ∧ x.1 = id ∧ hasI (cutL T) id = true := by
  rcases atT_found id T 0 with ⟨h1, h2⟩ | ⟨k, x, h1, h2, h3⟩
  · refine .inl ⟨h1, hasI_no.2 (fun r hr => ?_)⟩
    obtain ⟨y, hy, rfl⟩ := List.mem_map.1 hr
    exact h2 y hy
  · exact .inr ⟨k, x, by simpa using h1, h2, h3, hasI_iff.2 ⟨cutT x, cut_mem (List.mem_of_getElem? h2), h3⟩⟩
theorem cut_get {T : List TI} (ha : AscR (cutL T)) {k : Nat} {x : TI} (h : T[k]? = some x) : getI (cutL T) x.1 = cutT x := getI_of ha (cut_mem (List.mem_of_getElem? h))
theorem asc_index {R : List RI} (ha : AscR R) {i j : Nat} {a b : RI} (hi : R[i]? = some a) (hj : R[j]? = some b) (hij : i < j) : a.1 < b.1 := by
  obtain ⟨h1, rfl⟩ := List.getElem?_eq_some_iff.1 hi
  obtain ⟨h2, rfl⟩ := List.getElem?_eq_some_iff.1 hj
  exact (List.pairwise_iff_getElem.1 ha) i j h1 h2 hij
theorem asc_place {R : List RI} (ha : AscR R) {i j : Nat} {a b : RI} (hi : R[i]? = some a) (hj : R[j]? = some b) (he : a.1 = b.1) : i = j := by
  rcases Nat.lt_trichotomy i j with h | h | h
  · have := asc_index ha hi hj h; omega
  · exact h
  · have := asc_index ha hj hi h; omega
theorem cut_del {T : List TI} {x : TI} : ∀ {k : Nat}, AscR (cutL T) → T[k]? = some x → cutL (T.eraseIdx k) = delI (cutL T) x.1 := by
  induction T with
  | nil => intro k _ h; simp at h
  | cons y ys ih =>
    intro k ha h
    obtain ⟨h1, h2⟩ := List.pairwise_cons.1 ha
    cases k with
    | zero =>
      simp at h
      subst h
      show cutL ys = delI (cutT y :: cutL ys) y.1
      have hn : ∀ r ∈ cutL ys, r.1 ≠ y.1 := fun r hr e => by have : y.1 < r.1 := h1 r hr; omega
      have e : delI (cutT y :: cutL ys) y.1 = delI (cutL ys) y.1 := by unfold delI; rw [List.filter_cons_of_neg (by simp [cutT])]
      rw [e, delI_no hn]
    | succ k =>
      have h' : ys[k]? = some x := by simpa using h
      have hlt : y.1 < x.1 := h1 _ (cut_mem (List.mem_of_getElem? h'))
      show cutT y :: cutL (ys.eraseIdx k) = delI (cutT y :: cutL ys) x.1
      rw [ih h2 h']
      unfold delI
      rw [List.filter_cons_of_pos]
      have : y.1 ≠ x.1 := by omega
      simp [cutT, this]
theorem cut_set {T : List TI} {x y : TI} (f : RI → RI) : ∀ {k : Nat}, AscR (cutL T) → T[k]? = some x → f (cutT x) = cutT y → (∀ r ∈ cutL T, r.1 ≠ x.1 → f r = r) → cutL (T.set k y) = (cutL T).map f := by
  induction T with
  | nil => intro k _ h; simp at h
  | cons z zs ih =>
    intro k ha h hf hn
    obtain ⟨h1, h2⟩ := List.pairwise_cons.1 ha
    cases k with
    | zero =>
      simp at h
      subst h
      show cutT y :: cutL zs = f (cutT z) :: (cutL zs).map f
      rw [hf]
      congr 1
      have : (cutL zs).map f = (cutL zs).map id := List.map_congr_left (fun r hr => hn r (List.mem_cons_of_mem _ hr) (fun e => by have : z.1 < r.1 := h1 r hr; omega))
      rw [this, List.map_id]
    | succ k =>
      have h' : zs[k]? = some x := by simpa using h
      have hlt : z.1 < x.1 := h1 _ (cut_mem (List.mem_of_getElem? h'))
      show cutT z :: cutL (zs.set k y) = f (cutT z) :: (cutL zs).map f
      rw [ih h2 h' hf (fun r hr => hn r (List.mem_cons_of_mem _ hr)), hn (cutT z) (List.mem_cons_self ..) (fun e => by have : z.1 = x.1 := e; omega)]
theorem cut_wgt {T : List TI} (ha : AscR (cutL T)) {k : Nat} {x : TI} (h : T[k]? = some x) (n d : Int) : cutL (T.set k (x.1, n, x.2.2.1, d)) = wgtI (cutL T) x.1 n :=
  cut_set (fun r => if r.1 = x.1 then (r.1, n, r.2.2) else r) ha h (by show (if x.1 = x.1 then _ else _) = _; rw [if_pos rfl]; rfl) (fun r _ hr => if_neg hr)
theorem cut_chg {T : List TI} (ha : AscR (cutL T)) {k : Nat} {x : TI} (h : T[k]? = some x) (v d : Int) : cutL (T.set k (x.1, x.2.1, v, d)) = chgI (cutL T) x.1 v :=
  cut_set (fun r => if r.1 = x.1 then (r.1, r.2.1, v) else r) ha h (by show (if x.1 = x.1 then _ else _) = _; rw [if_pos rfl]; rfl) (fun r _ hr => if_neg hr)
theorem cut_first {T : List TI} (ha : AscR (cutL T)) {b : Nat} {x : TI} (h : FirstT T b x) : minR (cutL T) = (x.2.2.1, x.1) := by
  obtain ⟨h1, h2, h3⟩ := h
  refine minR_eq ⟨cutT x, cut_mem (List.mem_of_getElem? h1), rfl, rfl⟩ (fun r hr => ?_)
  obtain ⟨y, hy, rfl⟩ := List.mem_map.1 hr
  show x.2.2.1 < y.2.2.1 ∨ (x.2.2.1 = y.2.2.1 ∧ x.1 ≤ y.1)
  have h4 := h2 y hy
  by_cases he : x.2.2.1 = y.2.2.1
  · refine .inr ⟨he, ?_⟩
    obtain ⟨j, hj⟩ := List.getElem?_of_mem hy
    rcases Nat.lt_trichotomy j b with hl | hl | hl
    · have := h3 j y hl hj; omega
    · subst hl
      rw [h1] at hj
      rw [Option.some.inj hj]
      exact Int.le_refl _
    · have : x.1 < y.1 := asc_index ha (cut_at h1) (cut_at hj) hl
      omega
  · exact .inl (by omega)

/-! Enter, in one form. -/
def coreM (base : Int) (R : List RI) (y : RI) : Int × Int × List RI :=
  if hasI R y.1 = true then (4, base, R) else if 64 ≤ R.length then (3, base, R) else (0, raiseM base (insR R (y.1, y.2.1, base - y.2.2)), insR R (y.1, y.2.1, base - y.2.2))
def entM (ex : Bool) (base : Int) (R : List RI) (x : RI) : Int × Int × List RI := if ex = true then putM base R x else enterM base R x
theorem put_core (base : Int) (R : List RI) (x : RI) : putM base R x = if itemB x = true then coreM base R x else (1, base, R) := by
  unfold putM coreM addM
  by_cases h1 : itemB x = true
  · rw [if_pos h1, if_pos h1]
    by_cases h2 : hasI R x.1 = true
    · rw [if_pos h2, if_pos h2]; rfl
    · rw [if_neg h2, if_neg h2]
      by_cases h3 : 64 ≤ R.length
      · rw [if_pos h3, if_pos h3]; rfl
      · rw [if_neg h3, if_neg h3]; rfl
  · rw [if_neg h1, if_neg h1]
theorem enter_core (base : Int) (R : List RI) (x : RI) : enterM base R x = if itemB x = true then coreM base R (x.1, x.2.1, min x.2.2 698377680) else (1, base, R) := by
  unfold enterM
  rw [put_core]
  have e : ¬ 1125899906842624 < x.2.2 → (itemB (x.1, x.2.1, min x.2.2 698377680) = true ↔ itemB x = true) := fun h => by
    rw [itemB_true, itemB_true]
    simp only
    omega
  by_cases h : 1125899906842624 < x.2.2
  · rw [if_pos h, if_neg (fun hi => by have := (itemB_true.1 hi).2.2.2; omega)]
  · rw [if_neg h]
    by_cases h1 : itemB x = true
    · rw [if_pos h1, if_pos ((e h).2 h1)]
    · rw [if_neg h1, if_neg (fun hi => h1 ((e h).1 hi))]
theorem ent_core (ex : Bool) (base : Int) (R : List RI) (x : RI) : entM ex base R x = if itemB x = true then coreM base R (x.1, x.2.1, lagE 1 ex x.2.2) else (1, base, R) := by
  unfold entM lagE
  cases ex with
  | true => simp only [if_true]; exact put_core base R x
  | false =>
    simp only [Bool.false_eq_true, if_false]
    rw [enter_core]
    have e : min x.2.2 698377680 = heldT 1 x.2.2 := by unfold heldT; rw [if_neg (by decide)]; (repeat' split) <;> omega
    rw [e]

/-- What comes back, and what is left, in fair's words. -/
def RIn (w : World) (p : Nat) (vt : Value) (r : Value) (b' c' : Int) (R' : List RI) (e : Ending) (w' : World) : Prop := e = .returned r ∧ ∃ T', cutL T' = R' ∧ RPost p 1 vt b' c' T' w w'
section
variable {w : World} {p : Nat} {base cur : Int} {vt : Value} {T : List TI}
theorem rent_m (ex : Bool) (x : RI) (h : IsT w p 1 base cur vt T) (hw : WfS base cur (cutL T)) :
    Calls Tryz.prog 30 #[.pointer (some ⟨p, 0, none⟩), .int .i64 x.1, .int .i64 x.2.1, .int .i64 x.2.2, .bool ex] w (RIn w p vt (.int .i64 (entM ex base (cutL T) x).1) (entM ex base (cutL T) x).2.1 cur (entM ex base (cutL T) x).2.2) := by
  have hl : T.length ≤ 64 := by rw [← cut_len]; exact hw.len
  obtain ⟨x0, x1, x2⟩ := x
  rw [ent_core]
  cases hI : itemB (x0, x1, x2) with
  | false =>
    simp only [Bool.false_eq_true, if_false]
    refine (rent_bad p 1 base cur vt T x0 x1 x2 ex w hI).mono ?_
    rintro e w' ⟨rfl, rfl⟩
    exact ⟨rfl, T, rfl, RPost.same h⟩
  | true =>
    simp only [if_true]
    unfold coreM
    simp only
    by_cases hold : 0 ≤ atT x0 T 0 ∨ 64 ≤ T.length
    · refine (rent_old p 1 base cur vt T x0 x1 x2 ex w h (by omega) hI hold).mono ?_
      rintro e w' ⟨rfl, rfl⟩
      rcases cut_has (T := T) (id := x0) with ⟨h1, h2⟩ | ⟨k, y, h1, h2, h3, h4⟩
      · have hf : 64 ≤ (cutL T).length := by rw [cut_len]; omega
        rw [h2, h1, if_neg (by decide), if_pos hf]
        exact ⟨rfl, T, rfl, RPost.same h⟩
      · rw [h4, h1, if_pos rfl]
        exact ⟨by rw [if_pos (Int.natCast_nonneg k)], T, rfl, RPost.same h⟩
    · have hat : atT x0 T 0 = -1 ∧ hasI (cutL T) x0 = false := by
        rcases cut_has (T := T) (id := x0) with h1 | ⟨k, y, h1, _⟩
        · exact h1
        · omega
      have hcut : cutL (insTT T (newT 1 base (x0, x1, x2) ex)) = insR (cutL T) (x0, x1, base - lagE 1 ex x2) := cut_ins _ _
      rw [hat.2, if_neg (by decide), if_neg (by rw [cut_len]; omega), ← hcut, ← cut_grow]
      have key : Calls Tryz.prog 30 #[.pointer (some ⟨p, 0, none⟩), .int .i64 x0, .int .i64 x1, .int .i64 x2, .bool ex] w fun e w' => e = .returned (.int .i64 0) ∧ RPost p 1 vt (growT base (insTT T (newT 1 base (x0, x1, x2) ex))) cur (insTT T (newT 1 base (x0, x1, x2) ex)) w w' := by
        rcases h.2.1.2 with ⟨h1, h2⟩ | ⟨g, cap, cells, h1, _⟩
        · have hT : T = [] := List.eq_nil_of_length_eq_zero h2
          subst h1 hT
          exact rent_nil p 1 base cur x0 x1 x2 ex w h (.inr (.inl rfl)) hI hw.lo hw.hi
        · subst h1
          exact rent_new p g cap 1 base cur T x0 x1 x2 ex w h (.inr (.inl rfl)) (by omega) hI hat.1 hw.lo hw.hi
      refine key.mono ?_
      rintro e w' ⟨rfl, hP⟩
      exact ⟨rfl, _, rfl, hP⟩
theorem some_form (h : IsT w p 1 base cur vt T) {k : Nat} {x : TI} (hx : T[k]? = some x) : ∃ g c, vt = .slice (some ⟨g, 0, none⟩) T.length c := by
  obtain ⟨g, c, hv, _⟩ := h.2.1.get hx
  exact ⟨g, c, hv⟩
theorem rlea_m (id : Int) (h : IsT w p 1 base cur vt T) (hw : WfS base cur (cutL T)) :
    Calls Tryz.prog 33 #[.pointer (some ⟨p, 0, none⟩), .int .i64 id] w (RIn w p vt (.tuple #[.int .i64 (leaveM base cur (cutL T) id).1, .int .i64 (leaveM base cur (cutL T) id).2.1]) (leaveM base cur (cutL T) id).2.2.1 (leaveM base cur (cutL T) id).2.2.2.1 (leaveM base cur (cutL T) id).2.2.2.2) := by
  have hl : T.length ≤ 64 := by rw [← cut_len]; exact hw.len
  unfold leaveM
  rcases cut_has (T := T) (id := id) with ⟨h1, h2⟩ | ⟨k, y, h1, h2, h3, h4⟩
  · rw [h2, if_neg (by decide)]
    refine (rlea_no p 1 base cur id vt T w h (by omega) h1).mono ?_
    rintro e w' ⟨rfl, rfl⟩
    exact ⟨rfl, T, rfl, RPost.same h⟩
  · rw [h4, if_pos rfl]
    subst h3
    rw [cut_get hw.asc h2, ← cut_del hw.asc h2, ← cut_grow]
    obtain ⟨g, c, rfl⟩ := some_form h h2
    have he := hw.each _ (cut_mem (List.mem_of_getElem? h2))
    refine (rlea_yes p g c k 1 base cur y.1 T y w h (by omega) h1 h2 hw.lo hw.hi he.2.2.2.2.1 he.2.2.2.2.2).mono ?_
    rintro e w' ⟨rfl, hP⟩
    exact ⟨rfl, _, rfl, hP⟩
theorem rwei_m (id n : Int) (h : IsT w p 1 base cur vt T) (hw : WfS base cur (cutL T)) (hlow : Low base (cutL T)) :
    Calls Tryz.prog 35 #[.pointer (some ⟨p, 0, none⟩), .int .i64 id, .int .i64 n] w (RIn w p vt (.int .i64 (weighM (cutL T) id n).1) base cur (weighM (cutL T) id n).2) := by
  have hl : T.length ≤ 64 := by rw [← cut_len]; exact hw.len
  unfold weighM
  rcases cut_has (T := T) (id := id) with ⟨h1, h2⟩ | ⟨k, y, h1, h2, h3, h4⟩
  · rw [h2, if_neg (by decide)]
    refine (rwei_no p 1 base cur id n vt T w h (by omega) h1).mono ?_
    rintro e w' ⟨rfl, rfl⟩
    exact ⟨rfl, T, rfl, RPost.same h⟩
  · rw [h4, if_pos rfl]
    cases hg : goodB n with
    | false =>
      rw [if_neg (by decide)]
      refine (rwei_bad p 1 base cur id n vt T w h (by omega) (by omega) hg).mono ?_
      rintro e w' ⟨rfl, rfl⟩
      exact ⟨rfl, T, rfl, RPost.same h⟩
    | true =>
      rw [if_pos rfl]
      subst h3
      obtain ⟨g, c, rfl⟩ := some_form h h2
      have he := hw.each _ (cut_mem (List.mem_of_getElem? h2))
      refine (rwei_yes p g c k 1 base cur y.1 n T y w h (by omega) h1 h2 hg he.2.2.2.2.1 he.2.2.2.2.2).mono ?_
      rintro e w' ⟨rfl, hP⟩
      have e1 := cut_wgt hw.asc h2 n (y.2.2.1 + 4 * tickV n)
      rw [cut_grow, e1, raise_low (hlow.wgt y.1 n)] at hP
      exact ⟨rfl, _, e1, hP⟩
theorem rcha_m (h : IsT w p 1 base cur vt T) (hw : WfS base cur (cutL T)) :
    Calls Tryz.prog 37 #[.pointer (some ⟨p, 0, none⟩)] w (RIn w p vt (.tuple #[.int .i64 (chargeM base cur (cutL T)).1, .int .i64 (chargeM base cur (cutL T)).2.1]) (chargeM base cur (cutL T)).2.2.1 cur (chargeM base cur (cutL T)).2.2.2) := by
  have hl : T.length ≤ 64 := by rw [← cut_len]; exact hw.len
  unfold chargeM
  rcases cut_has (T := T) (id := cur) with ⟨h1, h2⟩ | ⟨k, y, h1, h2, h3, h4⟩
  · have hc : cur = -1 := by
      rcases hw.cur with h | h
      · exact h
      · rw [h2] at h; cases h
    rw [if_pos hc]
    refine (rcha_no p 1 base cur vt T w h (by omega) h1).mono ?_
    rintro e w' ⟨rfl, rfl⟩
    exact ⟨rfl, T, rfl, RPost.same h⟩
  · have he := hw.each _ (cut_mem (List.mem_of_getElem? h2))
    have hc : cur ≠ -1 := fun e => by have : 0 ≤ y.1 := he.1; omega
    rw [if_neg hc]
    have hgt : getI (cutL T) cur = cutT y := by rw [← h3]; exact cut_get hw.asc h2
    rw [hgt]
    obtain ⟨g, c, rfl⟩ := some_form h h2
    by_cases hov : 2305843009213693952 < y.2.2.1 + tickV y.2.1
    · have hov' : 2305843009213693952 - stepV (cutT y).2.1 < (cutT y).2.2 := by
        have e1 : stepV (cutT y).2.1 = tickV y.2.1 := rfl
        have e2 : (cutT y).2.2 = y.2.2.1 := rfl
        rw [e1, e2]; omega
      rw [if_pos hov']
      refine (rcha_over p g c k 1 base cur T y w h (by omega) h1 h2 he.2.2.2.2.1 he.2.2.2.2.2 hov).mono ?_
      rintro e w' ⟨rfl, rfl⟩
      exact ⟨rfl, T, rfl, RPost.same h⟩
    · have hov' : ¬ 2305843009213693952 - stepV (cutT y).2.1 < (cutT y).2.2 := by
        have e1 : stepV (cutT y).2.1 = tickV y.2.1 := rfl
        have e2 : (cutT y).2.2 = y.2.2.1 := rfl
        rw [e1, e2]; omega
      rw [if_neg hov']
      have e1 : cutL (T.set k (chaT y)) = chgI (cutL T) cur ((cutT y).2.2 + stepV (cutT y).2.1) := by rw [← h3]; exact cut_chg hw.asc h2 _ _
      refine (rcha_yes p g c k 1 base cur T y w h (by omega) h1 h2 he.2.2.2.2.1 he.2.2.2.2.2 (by omega)).mono ?_
      rintro e w' ⟨rfl, hP⟩
      rw [cut_grow, e1] at hP
      exact ⟨rfl, _, e1, hP⟩
theorem rpick_m (h : IsT w p 1 base cur vt T) (hw : WfS base cur (cutL T)) :
    Calls Tryz.prog 36 #[.pointer (some ⟨p, 0, none⟩)] w (RIn w p vt (.tuple #[.int .i64 (pickV cur (cutL T)), .bool (pickB (cutL T))]) base (pickC cur (cutL T)) (cutL T)) := by
  have hl : T.length ≤ 64 := by rw [← cut_len]; exact hw.len
  unfold pickV pickB
  by_cases hn : T = []
  · subst hn
    refine (rpick_nil p 1 base cur vt w h).mono ?_
    rintro e w' ⟨rfl, hP⟩
    exact ⟨rfl, [], rfl, hP⟩
  · have hn' : cutL T ≠ [] := fun e => hn (cut_nil.1 e)
    rw [if_neg hn', decide_eq_false hn']
    unfold pickC
    rw [if_neg hn']
    refine (rpick1_some p base cur vt T w h (by omega) hn (fun x hx => by have he := hw.each _ (cut_mem hx); exact ⟨he.2.2.2.2.1, he.2.2.2.2.2⟩)).mono ?_
    rintro e w' ⟨b, x, c, hb, hg, rfl, hP⟩
    rw [cut_first hw.asc hb]
    rcases hg with ⟨h1, rfl⟩ | ⟨k, y, h1, h2, h3, rfl⟩
    · rcases cut_has (T := T) (id := cur) with ⟨h4, h5⟩ | ⟨k, z, h4, _⟩
      · rw [if_neg (by rw [h5]; decide)]
        exact ⟨rfl, T, rfl, hP⟩
      · omega
    · subst h3
      have hI : hasI (cutL T) y.1 = true := hasI_iff.2 ⟨cutT y, cut_mem (List.mem_of_getElem? h2), rfl⟩
      rw [if_pos hI, cut_get hw.asc h2]
      have e1 : (cutT y).2.2 = y.2.2.1 := rfl
      rw [e1]
      by_cases hf : y.2.2.1 - 465585120 ≤ x.2.2.1
      · rw [if_pos hf] at hP ⊢
        rw [if_neg (by simp only; omega)]
        exact ⟨rfl, T, rfl, hP⟩
      · rw [if_neg hf] at hP ⊢
        rw [if_pos (by simp only; omega)]
        exact ⟨rfl, T, rfl, hP⟩
theorem rform_m (h : IsT w p 1 base cur vt T) (hw : WfS base cur (cutL T)) :
    Calls Tryz.prog 40 #[.pointer (some ⟨p, 0, none⟩)] w (FPost cur (formL base (cutL T)) w) := by
  have hl : T.length ≤ 64 := by rw [← cut_len]; exact hw.len
  rw [← cut_form]
  exact rform_c p 1 base cur vt T w h (by omega) hw.lo hw.hi (fun x hx => by have he := hw.each _ (cut_mem hx); exact ⟨he.2.2.2.2.1, he.2.2.2.2.2⟩)
end
end Go.Proofs.YtnfcapeajhegmaaGreat

namespace Go.Proofs.YtnfcapeajhegmaaGreat
open Go.RowKit Go.Maps

/-- A queue, and one of the reference's. -/
def P2 (W w : World) (s : Nat) (bs cs : Int) (R : List RI) (S p : Nat) (bt ct : Int) (Q : List RI) (F : Nat → Prop) : Prop :=
  ∃ A st vt T, IsK w s A st bs cs R ∧ (IsT w p 1 bt ct vt T ∧ cutL T = Q) ∧ (0 ≤ st ∧ st ≤ (S : Int)) ∧ (∀ k, A k → W.heap.size ≤ k) ∧ (∀ k, TOf p vt k → W.heap.size ≤ k) ∧ (∀ k, A k → ¬ TOf p vt k) ∧ Below W.heap.size W w ∧
    ∀ k, F k → k < w.heap.size ∧ ¬ A k ∧ ¬ TOf p vt k
section
variable {W w w' : World} {s S p : Nat} {bs cs bt ct : Int} {R Q : List RI} {F : Nat → Prop}
theorem P2.wf (h : P2 W w s bs cs R S p bt ct Q F) : WfS bs cs R := by
  obtain ⟨A, st, vt, T, g1, _⟩ := h
  exact g1.wf
theorem P2.frame (h : P2 W w s bs cs R S p bt ct Q F) : Below W.heap.size W w := by
  obtain ⟨A, st, vt, T, g1, g2, g3, g4, g5, g6, g7, g8⟩ := h
  exact g7
theorem P2.weak (h : P2 W w s bs cs R S p bt ct Q F) {S' : Nat} (hS : S ≤ S') : P2 W w s bs cs R S' p bt ct Q F := by
  obtain ⟨A, st, vt, T, g1, g2, ⟨g3, g3'⟩, g4, g5, g6, g7, g8⟩ := h
  exact ⟨A, st, vt, T, g1, g2, ⟨g3, by omega⟩, g4, g5, g6, g7, g8⟩
theorem P2.more {G : Nat → Prop} (h : P2 W w s bs cs R S p bt ct Q F) (hb : Below w.heap.size w w') (hG : ∀ k, G k → F k ∨ (w.heap.size ≤ k ∧ k < w'.heap.size)) : P2 W w' s bs cs R S p bt ct Q G := by
  obtain ⟨A, st, vt, T, g1, ⟨g2, g2'⟩, g3, g4, g5, g6, g7, g8⟩ := h
  refine ⟨A, st, vt, T, g1.below hb, ⟨g2.below hb, g2'⟩, g3, g4, g5, g6, g7.trans (hb.mono g7.size), fun k hk => ?_⟩
  rcases hG k hk with h | h
  · exact ⟨by have := (g8 k h).1; have := hb.size; omega, (g8 k h).2⟩
  · exact ⟨h.2, fun hq => by have := g1.lt k hq; omega, fun hq => by have := g2.lt k hq; omega⟩
theorem P2.below (h : P2 W w s bs cs R S p bt ct Q F) (hb : Below w.heap.size w w') : P2 W w' s bs cs R S p bt ct Q F := h.more hb (fun _ hk => .inl hk)
theorem P2.refCells (h : P2 W w s bs cs R S p bt ct Q F) : w.cell? ⟨p, 1, none⟩ = some (.int .i64 bt) ∧ w.cell? ⟨p, 2, none⟩ = some (.int .i64 ct) ∧ w.frozen? ⟨p, 2, none⟩ = false := by
  obtain ⟨A, st, vt, T, g1, ⟨g2, _⟩, _⟩ := h
  exact ⟨g2.cells.2.1, g2.cells.2.2.1, g2.free 2⟩
/-- The program's, the reference's none of its blocks. -/
theorem P2.one (h : P2 W w s bs cs R S p bt ct Q F) :
    ∃ G : Nat → Prop, SIn W w s bs cs R S G ∧ (∀ w' S' b c R', SIn W w' s b c R' S' G → (∀ k, G k → w'.heap[k]? = w.heap[k]?) → S ≤ S' → P2 W w' s b c R' S' p bt ct Q F) ∧ ∀ k, F k ∨ k = p → G k := by
  obtain ⟨A, st, vt, T, g1, ⟨g2, g2'⟩, ⟨g3, g3'⟩, g4, g5, g6, g7, g8⟩ := h
  refine ⟨fun k => TOf p vt k ∨ F k, ⟨A, st, g1, g3, g3', g4, g7, fun k hk => ?_⟩, fun w' S' b c R hq hk hS => ?_, fun k hk => ?_⟩
  · rcases hk with hk | hk
    · exact ⟨g2.lt k hk, fun h => g6 k h hk⟩
    · exact ⟨(g8 k hk).1, (g8 k hk).2.1⟩
  · obtain ⟨A1, t1, q1, q2, q3, q4, q5, q6⟩ := hq
    exact ⟨A1, t1, vt, T, q1, ⟨g2.keep (fun j hj => hk j (.inl hj)), g2'⟩, ⟨q2, q3⟩, q4, g5, fun k hk' hk2 => (q6 k (.inl hk2)).2 hk', q5, fun k hk' => ⟨(q6 k (.inr hk')).1, (q6 k (.inr hk')).2, (g8 k hk').2.2⟩⟩
  · rcases hk with h | rfl
    · exact .inr h
    · exact .inl (.inl rfl)
theorem p2_call {f : Nat} {args : Array Value} {r : Value} {b c : Int} {R' : List RI} {S' : Nat} (h : P2 W w s bs cs R S p bt ct Q F) (hS : S ≤ S')
    (hc : ∀ G, SIn W w s bs cs R S G → Calls Tryz.prog f args w (InPost W w s b c R' S' G r)) :
    Calls Tryz.prog f args w fun e w' => e = .returned r ∧ P2 W w' s b c R' S' p bt ct Q F ∧ ∀ k, F k ∨ k = p → w'.heap[k]? = w.heap[k]? := by
  obtain ⟨G, h1, h2, h3⟩ := h.one
  refine (hc G h1).mono ?_
  rintro e w' ⟨he, hq, hk⟩
  exact ⟨he, h2 w' S' b c R' hq hk hS, fun k hF => hk k (h3 k hF)⟩
theorem p2_form (h : P2 W w s bs cs R S p bt ct Q F) :
    Calls Tryz.prog 16 #[.pointer (some ⟨s, 0, none⟩)] w fun e w' => ∃ A c, e = .returned (.agg #[.int .i64 cs, .slice A R.length c]) ∧ TRow w' A (formL bs R) ∧ Below w.heap.size w w' := by
  obtain ⟨G, h1, _⟩ := h.one
  refine (sform_in h1).mono ?_
  rintro e w' ⟨A, c, rfl, hT, _, hb⟩
  exact ⟨A, c, rfl, hT, hb⟩
theorem p2_base (h : P2 W w s bs cs R S p bt ct Q F) : Calls Tryz.prog 17 #[.pointer (some ⟨s, 0, none⟩)] w fun e w' => e = .returned (.int .i64 bs) ∧ w = w' := by
  obtain ⟨G, h1, _⟩ := h.one
  exact sbase_in h1
theorem p2_rform (h : P2 W w s bs cs R S p bt ct Q F) (hw : WfS bt ct Q) : Calls Tryz.prog 40 #[.pointer (some ⟨p, 0, none⟩)] w (FPost ct (formL bt Q) w) := by
  obtain ⟨A, st, vt, T, g1, ⟨g2, rfl⟩, _⟩ := h
  exact rform_m g2 hw
/-- A call on the reference's. -/
theorem p2_ref {f : Nat} {args : Array Value} {r : Value} {b' c' : Int} {Q' : List RI} (h : P2 W w s bs cs R S p bt ct Q F) (hc : ∀ vt T, IsT w p 1 bt ct vt T → cutL T = Q → Calls Tryz.prog f args w (RIn w p vt r b' c' Q')) :
    Calls Tryz.prog f args w fun e w' => e = .returned r ∧ P2 W w' s bs cs R S p b' c' Q' F ∧ ∀ k, F k → w'.heap[k]? = w.heap[k]? := by
  obtain ⟨A, st, vt, T, g1, ⟨g2, g2'⟩, g3, g4, g5, g6, g7, g8⟩ := h
  refine (hc vt T g2 g2').mono ?_
  rintro e w' ⟨he, T', hT', v', hq, ht⟩
  have hks : ∀ j, A j → w'.heap[j]? = w.heap[j]? := fun j hj => ht.block j (g1.lt j hj) (g6 j hj)
  refine ⟨he, ⟨A, st, v', T', g1.keep hks, ⟨hq, hT'⟩, g3, g4, fun k hk => ?_, fun k hk hk' => ?_, g7.trans (ht.below g5 g7.size), fun k hk => ?_⟩, fun k hk => ht.block k (g8 k hk).1 (g8 k hk).2.2⟩
  · rcases ht.sub k hk with h | h
    · exact g5 k h
    · have := g7.size; omega
  · rcases ht.sub k hk' with h | h
    · exact g6 k hk h
    · have := g1.lt k hk; omega
  · have h1 := (g8 k hk).1
    refine ⟨by have := ht.size; omega, (g8 k hk).2.1, fun hq' => ?_⟩
    rcases ht.sub k hq' with h | h
    · exact (g8 k hk).2.2 h
    · omega
/-- The reference's Cur is set. -/
theorem P2.setC (h : P2 W w s bs cs R S p bt ct Q F) (c' : Int) : P2 W (w.setCell ⟨p, 2, none⟩ (.int .i64 c')) s bs cs R S p bt c' Q F := by
  obtain ⟨A, st, vt, T, g1, ⟨g2, g2'⟩, g3, g4, g5, g6, g7, g8⟩ := h
  obtain ⟨hq, ht⟩ := g2.setC c'
  have hks : ∀ j, A j → (w.setCell ⟨p, 2, none⟩ (.int .i64 c')).heap[j]? = w.heap[j]? := fun j hj => ht.block j (g1.lt j hj) (g6 j hj)
  exact ⟨A, st, vt, T, g1.keep hks, ⟨hq, g2'⟩, g3, g4, g5, g6, g7.trans (ht.below g5 g7.size), fun k hk => ⟨by have := (g8 k hk).1; have := ht.size; omega, (g8 k hk).2⟩⟩
end

theorem low_put (base : Int) (R : List RI) (x : RI) (h : Low base R) : Low (putM base R x).2.1 (putM base R x).2.2 := by
  unfold putM
  split
  · split
    · exact low_raise _ _
    · exact h
  · exact h
theorem low_enter (base : Int) (R : List RI) (x : RI) (h : Low base R) : Low (enterM base R x).2.1 (enterM base R x).2.2 := by
  unfold enterM
  split
  · exact h
  · exact low_put _ _ _ h
theorem low_leave (base cur : Int) (R : List RI) (id : Int) (h : Low base R) : Low (leaveM base cur R id).2.2.1 (leaveM base cur R id).2.2.2.2 := by
  unfold leaveM
  split
  · exact low_raise _ _
  · exact h
theorem low_weigh (base : Int) (R : List RI) (id n : Int) (h : Low base R) : Low base (weighM R id n).2 := by
  unfold weighM
  split
  · split
    · exact h.wgt _ _
    · exact h
  · exact h
theorem low_charge (base cur : Int) (R : List RI) (h : Low base R) : Low (chargeM base cur R).2.2.1 (chargeM base cur R).2.2.2 := by
  unfold chargeM
  split
  · exact h
  · split
    · exact h
    · exact low_raise _ _

/-- k acts are done on both. -/
def PlF (W w : World) (s p k : Nat) (base cur : Int) (R : List RI) (F : Nat → Prop) : Prop := P2 W w s base cur R (1000 + 32 * k) p base cur R F ∧ Up base R k ∧ Low base R ∧ k ≤ 200
/-- One more on the program's. -/
def PlH (W w : World) (s p k : Nat) (b' c' : Int) (R' : List RI) (base cur : Int) (R : List RI) (F : Nat → Prop) : Prop := P2 W w s b' c' R' (1000 + 32 * k + 32) p base cur R F ∧ Up b' R' (k + 1) ∧ Low b' R' ∧ Low base R ∧ WfS base cur R ∧ k < 200
section
variable {W w w' : World} {s p k : Nat} {base cur b' c' : Int} {R R' : List RI} {F : Nat → Prop}
theorem PlF.more {G : Nat → Prop} (h : PlF W w s p k base cur R F) (hb : Below w.heap.size w w') (hG : ∀ j, G j → F j ∨ (w.heap.size ≤ j ∧ j < w'.heap.size)) : PlF W w' s p k base cur R G := ⟨h.1.more hb hG, h.2⟩
theorem pl_1 {f : Nat} {args : Array Value} {r : Value} (h : PlF W w s p k base cur R F) (hk : k < 200) (hu : Up b' R' (k + 1)) (hl : Low b' R') (hc : ∀ G, SIn W w s base cur R (1000 + 32 * k) G → Calls Tryz.prog f args w (InPost W w s b' c' R' (1000 + 32 * k + 32) G r)) :
    Calls Tryz.prog f args w fun e w' => e = .returned r ∧ PlH W w' s p k b' c' R' base cur R F ∧ ∀ j, F j ∨ j = p → w'.heap[j]? = w.heap[j]? := by
  obtain ⟨hq, hu1, hlow, _⟩ := h
  refine (p2_call hq (by omega) hc).mono ?_
  rintro e w' ⟨he, hq', hF⟩
  exact ⟨he, ⟨hq', hu, hl, hlow, hq.wf, hk⟩, hF⟩
theorem pl_2 {f : Nat} {args : Array Value} {r : Value} (h : PlH W w s p k b' c' R' base cur R F) (hc : ∀ vt T, IsT w p 1 base cur vt T → cutL T = R → Calls Tryz.prog f args w (RIn w p vt r b' c' R')) :
    Calls Tryz.prog f args w fun e w' => e = .returned r ∧ PlF W w' s p (k + 1) b' c' R' F ∧ ∀ j, F j → w'.heap[j]? = w.heap[j]? := by
  obtain ⟨hq, hu1, hl, hl0, hwf, hk⟩ := h
  refine (p2_ref hq hc).mono ?_
  rintro e w' ⟨he, hq', hF⟩
  exact ⟨he, ⟨hq'.weak (by omega), hu1, hl, by omega⟩, hF⟩
theorem pl_enter1 (x : RI) (h : PlF W w s p k base cur R F) (hk : k < 200) :
    Calls Tryz.prog 42 #[.pointer (some ⟨s, 0, none⟩), .int .i64 x.1, .int .i64 x.2.1, .int .i64 x.2.2] w fun e w' => e = .returned (.int .i64 (enterM base R x).1) ∧ PlH W w' s p k (enterM base R x).2.1 cur (enterM base R x).2.2 base cur R F ∧ ∀ j, F j ∨ j = p → w'.heap[j]? = w.heap[j]? := by
  have h' := h
  obtain ⟨hq, hu1, hl, hk2⟩ := h
  have e1 := hu1.lo
  have e2 := hu1.hi
  exact pl_1 h' hk (enter_up x hu1) (low_enter base R x hl) (fun G hG => (senter_in x hG (by omega) (by omega) (by omega)).mono (InPost.weak (by omega)))
theorem pl_enter2 (x : RI) (h : PlH W w s p k (enterM base R x).2.1 cur (enterM base R x).2.2 base cur R F) :
    Calls Tryz.prog 30 #[.pointer (some ⟨p, 0, none⟩), .int .i64 x.1, .int .i64 x.2.1, .int .i64 x.2.2, .bool false] w fun e w' => e = .returned (.int .i64 (enterM base R x).1) ∧ PlF W w' s p (k + 1) (enterM base R x).2.1 cur (enterM base R x).2.2 F ∧ ∀ j, F j → w'.heap[j]? = w.heap[j]? := by
  have h' := h
  obtain ⟨hq, hu1, hl, hl0, hwf, hk⟩ := h
  refine pl_2 h' (fun vt T hi hT => ?_)
  subst hT
  exact rent_m false x hi hwf
theorem pl_put1 (x : RI) (h : PlF W w s p k base cur R F) (hk : k < 200) :
    Calls Tryz.prog 45 #[.pointer (some ⟨s, 0, none⟩), .int .i64 x.1, .int .i64 x.2.1, .int .i64 x.2.2] w fun e w' => e = .returned (.int .i64 (putM base R x).1) ∧ PlH W w' s p k (putM base R x).2.1 cur (putM base R x).2.2 base cur R F ∧ ∀ j, F j ∨ j = p → w'.heap[j]? = w.heap[j]? := by
  have h' := h
  obtain ⟨hq, hu1, hl, hk2⟩ := h
  have e1 := hu1.lo
  have e2 := hu1.hi
  exact pl_1 h' hk (put_up x hu1) (low_put base R x hl) (fun G hG => (sput_in x hG (by omega) (by omega) (by omega)).mono (InPost.weak (by omega)))
theorem pl_put2 (x : RI) (h : PlH W w s p k (putM base R x).2.1 cur (putM base R x).2.2 base cur R F) :
    Calls Tryz.prog 30 #[.pointer (some ⟨p, 0, none⟩), .int .i64 x.1, .int .i64 x.2.1, .int .i64 x.2.2, .bool true] w fun e w' => e = .returned (.int .i64 (putM base R x).1) ∧ PlF W w' s p (k + 1) (putM base R x).2.1 cur (putM base R x).2.2 F ∧ ∀ j, F j → w'.heap[j]? = w.heap[j]? := by
  have h' := h
  obtain ⟨hq, hu1, hl, hl0, hwf, hk⟩ := h
  refine pl_2 h' (fun vt T hi hT => ?_)
  subst hT
  exact rent_m true x hi hwf
theorem pl_leave1 (id : Int) (hid : wf64 id) (h : PlF W w s p k base cur R F) (hk : k < 200) :
    Calls Tryz.prog 46 #[.pointer (some ⟨s, 0, none⟩), .int .i64 id] w fun e w' => e = .returned (.tuple #[.int .i64 (leaveM base cur R id).1, .int .i64 (leaveM base cur R id).2.1]) ∧ PlH W w' s p k (leaveM base cur R id).2.2.1 (leaveM base cur R id).2.2.2.1 (leaveM base cur R id).2.2.2.2 base cur R F ∧ ∀ j, F j ∨ j = p → w'.heap[j]? = w.heap[j]? := by
  have h' := h
  obtain ⟨hq, hu1, hl, hk2⟩ := h
  have e1 := hu1.lo
  have e2 := hu1.hi
  exact pl_1 h' hk (leave_up (cur := cur) id hu1) (low_leave base cur R id hl) (fun G hG => (sleave_in id hG hid (by omega)).mono (InPost.weak (by omega)))
theorem pl_leave2 (id : Int) (_hid : wf64 id) (h : PlH W w s p k (leaveM base cur R id).2.2.1 (leaveM base cur R id).2.2.2.1 (leaveM base cur R id).2.2.2.2 base cur R F) :
    Calls Tryz.prog 33 #[.pointer (some ⟨p, 0, none⟩), .int .i64 id] w fun e w' => e = .returned (.tuple #[.int .i64 (leaveM base cur R id).1, .int .i64 (leaveM base cur R id).2.1]) ∧ PlF W w' s p (k + 1) (leaveM base cur R id).2.2.1 (leaveM base cur R id).2.2.2.1 (leaveM base cur R id).2.2.2.2 F ∧ ∀ j, F j → w'.heap[j]? = w.heap[j]? := by
  have h' := h
  obtain ⟨hq, hu1, hl, hl0, hwf, hk⟩ := h
  refine pl_2 h' (fun vt T hi hT => ?_)
  subst hT
  exact rlea_m id hi hwf
theorem pl_weigh1 (id n : Int) (hid : wf64 id) (hn : wf64 n) (h : PlF W w s p k base cur R F) (hk : k < 200) :
    Calls Tryz.prog 47 #[.pointer (some ⟨s, 0, none⟩), .int .i64 id, .int .i64 n] w fun e w' => e = .returned (.int .i64 (weighM R id n).1) ∧ PlH W w' s p k base cur (weighM R id n).2 base cur R F ∧ ∀ j, F j ∨ j = p → w'.heap[j]? = w.heap[j]? := by
  have h' := h
  obtain ⟨hq, hu1, hl, hk2⟩ := h
  have e1 := hu1.lo
  have e2 := hu1.hi
  exact pl_1 h' hk (weigh_up id n hu1) (low_weigh base R id n hl) (fun G hG => (sweigh_in id n hG hid hn).mono (InPost.weak (by omega)))
theorem pl_weigh2 (id n : Int) (_hid : wf64 id) (_hn : wf64 n) (h : PlH W w s p k base cur (weighM R id n).2 base cur R F) :
    Calls Tryz.prog 35 #[.pointer (some ⟨p, 0, none⟩), .int .i64 id, .int .i64 n] w fun e w' => e = .returned (.int .i64 (weighM R id n).1) ∧ PlF W w' s p (k + 1) base cur (weighM R id n).2 F ∧ ∀ j, F j → w'.heap[j]? = w.heap[j]? := by
  have h' := h
  obtain ⟨hq, hu1, hl, hl0, hwf, hk⟩ := h
  refine pl_2 h' (fun vt T hi hT => ?_)
  subst hT
  exact rwei_m id n hi hwf hl0
theorem pl_pick1 (h : PlF W w s p k base cur R F) (hk : k < 200) :
    Calls Tryz.prog 43 #[.pointer (some ⟨s, 0, none⟩)] w fun e w' => e = .returned (.tuple #[.int .i64 (pickV cur R), .bool (pickB R)]) ∧ PlH W w' s p k base (pickC cur R) R base cur R F ∧ ∀ j, F j ∨ j = p → w'.heap[j]? = w.heap[j]? := by
  have h' := h
  obtain ⟨hq, hu1, hl, hk2⟩ := h
  have e1 := hu1.lo
  have e2 := hu1.hi
  exact pl_1 h' hk (hu1.more) (hl) (fun G hG => (spick_in hG).mono (InPost.weak (by omega)))
theorem pl_pick2 (h : PlH W w s p k base (pickC cur R) R base cur R F) :
    Calls Tryz.prog 36 #[.pointer (some ⟨p, 0, none⟩)] w fun e w' => e = .returned (.tuple #[.int .i64 (pickV cur R), .bool (pickB R)]) ∧ PlF W w' s p (k + 1) base (pickC cur R) R F ∧ ∀ j, F j → w'.heap[j]? = w.heap[j]? := by
  have h' := h
  obtain ⟨hq, hu1, hl, hl0, hwf, hk⟩ := h
  refine pl_2 h' (fun vt T hi hT => ?_)
  subst hT
  exact rpick_m hi hwf
theorem pl_charge1 (h : PlF W w s p k base cur R F) (hk : k < 200) :
    Calls Tryz.prog 44 #[.pointer (some ⟨s, 0, none⟩)] w fun e w' => e = .returned (.tuple #[.int .i64 (chargeM base cur R).1, .int .i64 (chargeM base cur R).2.1]) ∧ PlH W w' s p k (chargeM base cur R).2.2.1 cur (chargeM base cur R).2.2.2 base cur R F ∧ ∀ j, F j ∨ j = p → w'.heap[j]? = w.heap[j]? := by
  have h' := h
  obtain ⟨hq, hu1, hl, hk2⟩ := h
  have e1 := hu1.lo
  have e2 := hu1.hi
  exact pl_1 h' hk (charge_up hq.wf hu1) (low_charge base cur R hl) (fun G hG => (scharge_in hG (by omega)).mono (InPost.weak (by omega)))
theorem pl_charge2 (h : PlH W w s p k (chargeM base cur R).2.2.1 cur (chargeM base cur R).2.2.2 base cur R F) :
    Calls Tryz.prog 37 #[.pointer (some ⟨p, 0, none⟩)] w fun e w' => e = .returned (.tuple #[.int .i64 (chargeM base cur R).1, .int .i64 (chargeM base cur R).2.1]) ∧ PlF W w' s p (k + 1) (chargeM base cur R).2.2.1 cur (chargeM base cur R).2.2.2 F ∧ ∀ j, F j → w'.heap[j]? = w.heap[j]? := by
  have h' := h
  obtain ⟨hq, hu1, hl, hl0, hwf, hk⟩ := h
  refine pl_2 h' (fun vt T hi hT => ?_)
  subst hT
  exact rcha_m hi hwf
theorem pl_back1 (h : PlF W w s p k base cur R F) (hk : k < 200) :
    Calls Tryz.prog 48 #[.pointer (some ⟨s, 0, none⟩)] w fun e w' => e = .returned (.bool (!decide (cur = -1))) ∧ PlH W w' s p k base (-1) R base cur R F ∧ ∀ j, F j ∨ j = p → w'.heap[j]? = w.heap[j]? := by
  have h' := h
  obtain ⟨hq, hu1, hl, hk2⟩ := h
  exact pl_1 h' hk hu1.more hl (fun G hG => (sback_in hG).mono (InPost.weak (by omega)))
theorem pl_back2 (h : PlH W w s p k base (-1) R base cur R F) : PlF W (w.setCell ⟨p, 2, none⟩ (.int .i64 (-1))) s p (k + 1) base (-1) R F := by
  obtain ⟨hq, hu1, hl, hl0, hwf, hk⟩ := h
  exact ⟨(hq.setC (-1)).weak (by omega), hu1, hl, by omega⟩
end
end Go.Proofs.YtnfcapeajhegmaaGreat
