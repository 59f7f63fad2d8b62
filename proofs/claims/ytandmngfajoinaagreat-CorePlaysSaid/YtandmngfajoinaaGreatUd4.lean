/- Tasks without their days. Plain theory. due: tasks with their days; what each call makes of them; who is picked. Plain theory. due's queue: two pointers, one at the points, one at the deadlines; calls on either. due: deadline, renew, move. -/
import Derived.Test.YtandmngfajoinaaGreatTi
import Derived.Test.YtandmngfajoinaaGreatSf
import Derived.Test.YtandmngfajoinaaGreatDq
namespace Go.Proofs.YtandmngfajoinaaGreat
open Go.RowKit

def cutT (x : TI) : RI := (x.1, x.2.1, x.2.2.1)
def cutL (T : List TI) : List RI := T.map cutT
theorem tick_step (x : Int) : tickV x = stepV x := rfl
theorem cut_len (T : List TI) : (cutL T).length = T.length := by unfold cutL; simp
theorem cut_at {T : List TI} {k : Nat} {x : TI} (h : T[k]? = some x) : (cutL T)[k]? = some (cutT x) := by unfold cutL; rw [List.getElem?_map, h]; rfl
theorem cut_mem {T : List TI} {x : TI} (h : x ∈ T) : cutT x ∈ cutL T := List.mem_map.2 ⟨x, h, rfl⟩
theorem cut_nil {T : List TI} : cutL T = [] ↔ T = [] := by unfold cutL; simp
theorem cut_ins (T : List TI) (x : TI) : cutL (insTT T x) = insR (cutL T) (cutT x) := by
  induction T with
  | nil => rfl
  | cons y ys ih =>
    unfold insTT
    show cutL (if y.1 < x.1 then y :: insTT ys x else x :: y :: ys) = (if (cutT y).1 < (cutT x).1 then cutT y :: insR (cutL ys) (cutT x) else cutT x :: cutT y :: cutL ys)
    by_cases h : y.1 < x.1
    · have h' : (cutT y).1 < (cutT x).1 := h
      rw [if_pos h, if_pos h', ← ih]; rfl
    · have h' : ¬ (cutT y).1 < (cutT x).1 := h
      rw [if_neg h, if_neg h']; rfl
theorem cut_get {T : List TI} (ha : AscR (cutL T)) {k : Nat} {x : TI} (h : T[k]? = some x) : getI (cutL T) x.1 = cutT x := getI_of ha (cut_mem (List.mem_of_getElem? h))
theorem asc_index {R : List RI} (ha : AscR R) {i j : Nat} {a b : RI} (hi : R[i]? = some a) (hj : R[j]? = some b) (hij : i < j) : a.1 < b.1 := by
  obtain ⟨h1, rfl⟩ := List.getElem?_eq_some_iff.1 hi
  obtain ⟨h2, rfl⟩ := List.getElem?_eq_some_iff.1 hj
  exact (List.pairwise_iff_getElem.1 ha) i j h1 h2 hij
theorem asc_place {R : List RI} (ha : AscR R) {i j : Nat} {a b : RI} (hi : R[i]? = some a) (hj : R[j]? = some b) (he : a.1 = b.1) : i = j := by
  rcases Nat.lt_trichotomy i j with h | h | h
  · have := asc_index ha hi hj h; omega
  · exact h
  · have := asc_index ha hj hi h; omega
theorem cut_del {T : List TI} {x : TI} : ∀ {k : Nat}, AscR (cutL T) → T[k]? = some x → cutL (T.eraseIdx k) = delI (cutL T) x.1 := by
  induction T with
  | nil => intro k _ h; simp at h
  | cons y ys ih =>
    intro k ha h
    obtain ⟨h1, h2⟩ := List.pairwise_cons.1 ha
    cases k with
    | zero =>
      simp at h
      subst h
      show cutL ys = delI (cutT y :: cutL ys) y.1
      have hn : ∀ r ∈ cutL ys, r.1 ≠ y.1 := fun r hr e => by have : y.1 < r.1 := h1 r hr; omega
      have e : delI (cutT y :: cutL ys) y.1 = delI (cutL ys) y.1 := by unfold delI; rw [List.filter_cons_of_neg (by simp [cutT])]
      rw [e, delI_no hn]
    | succ k =>
      have h' : ys[k]? = some x := by simpa using h
      have hlt : y.1 < x.1 := h1 _ (cut_mem (List.mem_of_getElem? h'))
      show cutT y :: cutL (ys.eraseIdx k) = delI (cutT y :: cutL ys) x.1
      rw [ih h2 h']
      unfold delI
      rw [List.filter_cons_of_pos]
      have : y.1 ≠ x.1 := by omega
      simp [cutT, this]
theorem cut_set {T : List TI} {x y : TI} (f : RI → RI) : ∀ {k : Nat}, AscR (cutL T) → T[k]? = some x → f (cutT x) = cutT y → (∀ r ∈ cutL T, r.1 ≠ x.1 → f r = r) → cutL (T.set k y) = (cutL T).map f := by
  induction T with
  | nil => intro k _ h; simp at h
  | cons z zs ih =>
    intro k ha h hf hn
    obtain ⟨h1, h2⟩ := List.pairwise_cons.1 ha
    cases k with
    | zero =>
      simp at h
      subst h
      show cutT y :: cutL zs = f (cutT z) :: (cutL zs).map f
      rw [hf]
      congr 1
      have : (cutL zs).map f = (cutL zs).map id := List.map_congr_left (fun r hr => hn r (List.mem_cons_of_mem _ hr) (fun e => by have : z.1 < r.1 := h1 r hr; omega))
      rw [this, List.map_id]
    | succ k =>
      have h' : zs[k]? = some x := by simpa using h
      have hlt : z.1 < x.1 := h1 _ (cut_mem (List.mem_of_getElem? h'))
      show cutT z :: cutL (zs.set k y) = f (cutT z) :: (cutL zs).map f
      rw [ih h2 h' hf (fun r hr => hn r (List.mem_cons_of_mem _ hr)), hn (cutT z) (List.mem_cons_self ..) (fun e => by have : z.1 = x.1 := e; omega)]
theorem cut_wgt {T : List TI} (ha : AscR (cutL T)) {k : Nat} {x : TI} (h : T[k]? = some x) (n d : Int) : cutL (T.set k (x.1, n, x.2.2.1, d)) = wgtI (cutL T) x.1 n :=
  cut_set (fun r => if r.1 = x.1 then (r.1, n, r.2.2) else r) ha h (by show (if x.1 = x.1 then _ else _) = _; rw [if_pos rfl]; rfl) (fun r _ hr => if_neg hr)
theorem cut_chg {T : List TI} (ha : AscR (cutL T)) {k : Nat} {x : TI} (h : T[k]? = some x) (v d : Int) : cutL (T.set k (x.1, x.2.1, v, d)) = chgI (cutL T) x.1 v :=
  cut_set (fun r => if r.1 = x.1 then (r.1, r.2.1, v) else r) ha h (by show (if x.1 = x.1 then _ else _) = _; rw [if_pos rfl]; rfl) (fun r _ hr => if_neg hr)
end Go.Proofs.YtandmngfajoinaaGreat

namespace Go.Proofs.YtandmngfajoinaaGreat
open Go.RowKit

theorem dueB_false {a b : RI} : dueB a b = false ↔ b.2.1 < a.2.1 ∨ (b.2.1 = a.2.1 ∧ b.2.2 ≤ a.2.2) := by
  unfold dueB
  constructor
  · intro h
    simp at h
    omega
  · intro h
    simp
    omega
theorem snoc_ind {P : List RI → Prop} (h0 : P []) (hs : ∀ T x, P T → P (T ++ [x])) (T : List RI) : P T := by
  have : P T.reverse.reverse := by
    induction T.reverse with
    | nil => exact h0
    | cons x xs ih => rw [List.reverse_cons]; exact hs _ _ ih
  rwa [List.reverse_reverse] at this
theorem bestO_spec (T : List RI) : (T = [] ∧ bestO T = none) ∨ ∃ r, bestO T = some r ∧ r ∈ T ∧ ∀ z ∈ T, dueB z r = false := by
  induction T using snoc_ind with
  | h0 => exact .inl ⟨rfl, rfl⟩
  | hs T x ih =>
    refine .inr ?_
    rw [bestO_snoc]
    rcases ih with ⟨rfl, h⟩ | ⟨r, h, hm, hz⟩
    · rw [h]
      refine ⟨x, rfl, by simp, fun z hz => ?_⟩
      simp at hz
      subst hz
      exact dueB_false.2 (.inr ⟨rfl, Int.le_refl _⟩)
    · rw [h]
      cases hd : dueB x r with
      | true =>
        refine ⟨x, by simp [better, hd], by simp, fun z hz' => ?_⟩
        rcases List.mem_append.1 hz' with h1 | h1
        · have h2 := dueB_false.1 (hz z h1)
          have h3 : ¬ (r.2.1 < x.2.1 ∨ (r.2.1 = x.2.1 ∧ r.2.2 ≤ x.2.2)) := fun h => by rw [dueB_false.2 h] at hd; cases hd
          exact dueB_false.2 (by omega)
        · simp at h1
          subst h1
          exact dueB_false.2 (.inr ⟨rfl, Int.le_refl _⟩)
      | false =>
        refine ⟨r, by simp [better, hd], by simp [hm], fun z hz' => ?_⟩
        rcases List.mem_append.1 hz' with h1 | h1
        · exact hz z h1
        · simp at h1
          subst h1
          exact hd
theorem mem_while {T : List RI} (ho : Ord (qL T)) {key : Int} {z : RI} : z ∈ T.takeWhile (fun r => decide (r.1 ≤ key)) ↔ z ∈ T ∧ z.1 ≤ key := by
  induction T with
  | nil => simp
  | cons y T ih =>
    obtain ⟨h1, h2⟩ := List.pairwise_cons.1 (show List.Pairwise _ ((y.1, y.2.2) :: qL T) from ho)
    rw [List.takeWhile_cons]
    by_cases hy : y.1 ≤ key
    · rw [if_pos (by simpa using hy), List.mem_cons, ih h2, List.mem_cons]
      constructor
      · rintro (rfl | ⟨h3, h4⟩)
        · exact ⟨.inl rfl, hy⟩
        · exact ⟨.inr h3, h4⟩
      · rintro ⟨rfl | h3, h4⟩
        · exact .inl rfl
        · exact .inr ⟨h3, h4⟩
    · rw [if_neg (by simpa using hy)]
      simp only [List.not_mem_nil, false_iff]
      rintro ⟨h3, h4⟩
      rcases List.mem_cons.1 h3 with rfl | h3
      · exact hy h4
      · have := h1 (z.1, z.2.2) (mem_qL.2 ⟨z, h3, rfl⟩)
        unfold befQ at this
        simp at this
        omega
/-- First: nobody may come, or one that may, and nobody that may is due ahead of it. -/
theorem first_spec {T : List RI} (ho : Ord (qL T)) (key : Int) : (firstT key T = none ∧ ∀ z ∈ T, key < z.1) ∨ ∃ r, firstT key T = some r ∧ r ∈ T ∧ r.1 ≤ key ∧ ∀ z ∈ T, z.1 ≤ key → dueB z r = false := by
  unfold firstT
  rcases bestO_spec (T.takeWhile (fun r => decide (r.1 ≤ key))) with ⟨h1, h2⟩ | ⟨r, h1, h2, h3⟩
  · refine .inl ⟨h2, fun z hz => ?_⟩
    rcases Int.lt_or_le key z.1 with h | h
    · exact h
    · have := (mem_while ho).2 ⟨hz, h⟩
      rw [h1] at this
      cases this
  · have h4 := (mem_while ho).1 h2
    exact .inr ⟨r, h1, h4.1, h4.2, fun z hz hk => h3 z ((mem_while ho).2 ⟨hz, hk⟩)⟩


/-- In the words of the queue of deadlines: key, day, number. -/
def dayI (x : TI) : RI := (x.2.2.1, x.2.2.2, x.1)
def dL (T : List TI) : List RI := T.map dayI
def delU (T : List TI) (id : Int) : List TI := T.filter (fun x => !decide (x.1 = id))
def updU (T : List TI) (id : Int) (f : TI → TI) : List TI := T.map (fun x => if x.1 = id then f x else x)
def getU (T : List TI) (id : Int) : TI := (T.find? (fun x => decide (x.1 = id))).getD (0, 0, 0, 0)
def notI (id : Int) (r : RI) : Bool := !decide (r.2.2 = id)
theorem mem_dL {T : List TI} {r : RI} : r ∈ dL T ↔ ∃ x ∈ T, dayI x = r := by unfold dL; rw [List.mem_map]
theorem length_dL (T : List TI) : (dL T).length = T.length := by unfold dL; simp
theorem mem_delU {T : List TI} {id : Int} {x : TI} : x ∈ delU T id ↔ x ∈ T ∧ x.1 ≠ id := by unfold delU; simp
theorem cut_delU (T : List TI) (id : Int) : cutL (delU T id) = delI (cutL T) id := by
  unfold cutL delU delI
  rw [List.filter_map]
  rfl
theorem dL_delU (T : List TI) (id : Int) : dL (delU T id) = (dL T).filter (notI id) := by
  unfold dL delU
  rw [List.filter_map]
  rfl
theorem hasU_iff {T : List TI} {id : Int} : hasI (cutL T) id = true ↔ ∃ x ∈ T, x.1 = id := by
  rw [hasI_iff]
  constructor
  · rintro ⟨r, hr, he⟩
    obtain ⟨x, hx, rfl⟩ := List.mem_map.1 hr
    exact ⟨x, hx, he⟩
  · rintro ⟨x, hx, he⟩
    exact ⟨cutT x, cut_mem hx, he⟩
theorem hasU_no {T : List TI} {id : Int} : hasI (cutL T) id = false ↔ ∀ x ∈ T, x.1 ≠ id := by
  rw [hasI_no]
  exact ⟨fun h x hx => h _ (cut_mem hx), fun h r hr => by
    obtain ⟨x, hx, rfl⟩ := List.mem_map.1 hr
    exact h x hx⟩
theorem uniqU {T : List TI} (h : AscR (cutL T)) {a b : TI} (ha : a ∈ T) (hb : b ∈ T) (he : a.1 = b.1) : a = b := by
  obtain ⟨i, hi⟩ := List.getElem?_of_mem ha
  obtain ⟨j, hj⟩ := List.getElem?_of_mem hb
  obtain rfl := asc_place h (cut_at hi) (cut_at hj) he
  rw [hi] at hj
  exact Option.some.inj hj
theorem getU_mem {T : List TI} {id : Int} (h : hasI (cutL T) id = true) : getU T id ∈ T ∧ (getU T id).1 = id := by
  unfold getU
  cases hf : T.find? (fun x => decide (x.1 = id)) with
  | none =>
    obtain ⟨x, hx, he⟩ := hasU_iff.1 h
    exact absurd (List.find?_eq_none.1 hf x hx) (by simp [he])
  | some y => exact ⟨List.mem_of_find?_eq_some hf, by simpa using List.find?_some hf⟩
theorem getU_cut {T : List TI} (ha : AscR (cutL T)) {id : Int} (h : hasI (cutL T) id = true) : getI (cutL T) id = cutT (getU T id) := by
  obtain ⟨h1, h2⟩ := getU_mem h
  have := getI_of ha (cut_mem h1)
  rw [show (cutT (getU T id)).1 = id from h2] at this
  exact this
theorem getU_of {T : List TI} (ha : AscR (cutL T)) {x : TI} (hx : x ∈ T) : getU T x.1 = x := by
  obtain ⟨h1, h2⟩ := getU_mem (hasU_iff.2 ⟨x, hx, rfl⟩)
  exact uniqU ha h1 hx h2
theorem delU_no {T : List TI} {id : Int} (h : ∀ x ∈ T, x.1 ≠ id) : delU T id = T := by
  unfold delU
  exact List.filter_eq_self.2 (fun x hx => by simp [h x hx])
theorem delU_perm : ∀ {T : List TI} {x : TI}, AscR (cutL T) → x ∈ T → T.Perm (x :: delU T x.1)
  | [], _, _, hx => by simp at hx
  | y :: ys, x, h, hx => by
    obtain ⟨h1, h2⟩ := List.pairwise_cons.1 h
    rcases List.mem_cons.1 hx with rfl | hx'
    · have e : delU (x :: ys) x.1 = ys := by
        have : delU (x :: ys) x.1 = delU ys x.1 := by unfold delU; simp
        rw [this]
        exact delU_no (fun z hz e => by have h3 : x.1 < z.1 := h1 _ (cut_mem hz); omega)
      rw [e]
    · have hne : y.1 ≠ x.1 := by have h3 : y.1 < x.1 := h1 _ (cut_mem hx'); omega
      have e : delU (y :: ys) x.1 = y :: delU ys x.1 := by unfold delU; simp [hne]
      rw [e]
      exact ((delU_perm h2 hx').cons y).trans (List.Perm.swap x y _)
theorem insTT_perm (T : List TI) (x : TI) : (insTT T x).Perm (x :: T) := by
  induction T with
  | nil => exact List.Perm.refl _
  | cons y ys ih =>
    unfold insTT
    split
    · exact (ih.cons y).trans (List.Perm.swap x y ys)
    · exact List.Perm.refl _
theorem mem_insTT {T : List TI} {x z : TI} : z ∈ insTT T x ↔ z = x ∨ z ∈ T := by rw [(insTT_perm T x).mem_iff, List.mem_cons]
theorem updU_perm {T : List TI} (h : AscR (cutL T)) {x : TI} (hx : x ∈ T) (f : TI → TI) : (updU T x.1 f).Perm (f x :: delU T x.1) := by
  have h1 := (delU_perm h hx).map (fun z : TI => if z.1 = x.1 then f z else z)
  refine h1.trans ?_
  rw [List.map_cons, if_pos rfl]
  have e : (delU T x.1).map (fun z : TI => if z.1 = x.1 then f z else z) = delU T x.1 := by
    conv => rhs; rw [← List.map_id (delU T x.1)]
    exact List.map_congr_left (fun z hz => by rw [if_neg (mem_delU.1 hz).2]; rfl)
  rw [e]
theorem mem_updU {T : List TI} {id : Int} {f : TI → TI} {z : TI} (hz : z ∈ updU T id f) : (∃ x ∈ T, x.1 = id ∧ z = f x) ∨ (z ∈ T ∧ z.1 ≠ id) := by
  unfold updU at hz
  obtain ⟨x, hx, rfl⟩ := List.mem_map.1 hz
  by_cases h : x.1 = id
  · rw [if_pos h]; exact .inl ⟨x, hx, h, rfl⟩
  · rw [if_neg h]; exact .inr ⟨hx, h⟩
theorem length_updU (T : List TI) (id : Int) (f : TI → TI) : (updU T id f).length = T.length := by unfold updU; simp
theorem length_delU_le (T : List TI) (id : Int) : (delU T id).length ≤ T.length := List.length_filter_le _ _
theorem dL_ins (T : List TI) (x : TI) : (dL (insTT T x)).Perm (dayI x :: dL T) := (insTT_perm T x).map _
theorem dL_upd {T : List TI} (h : AscR (cutL T)) {x : TI} (hx : x ∈ T) (f : TI → TI) : (dL (updU T x.1 f)).Perm (dayI (f x) :: (dL T).filter (notI x.1)) := by
  rw [← dL_delU]
  exact (updU_perm h hx f).map _
/-- A task, weighed. -/
def weiT (n : Int) (x : TI) : TI := (x.1, n, x.2.2.1, x.2.2.1 + 4 * tickV n)
theorem cut_wei (T : List TI) (id n : Int) : cutL (updU T id (weiT n)) = wgtI (cutL T) id n := by
  unfold cutL updU wgtI
  rw [List.map_map, List.map_map]
  refine List.map_congr_left (fun x _ => ?_)
  simp only [Function.comp, cutT]
  by_cases h : x.1 = id <;> simp [h, weiT]
theorem cut_cha {T : List TI} (ha : AscR (cutL T)) {x : TI} (hx : x ∈ T) : cutL (updU T x.1 chaT) = chgI (cutL T) x.1 (x.2.2.1 + stepV x.2.1) := by
  unfold cutL updU chgI
  rw [List.map_map, List.map_map]
  refine List.map_congr_left (fun y hy => ?_)
  simp only [Function.comp, cutT]
  by_cases h : y.1 = x.1
  · obtain rfl := uniqU ha hy hx h
    simp [chaT, tick_step]
  · simp [h]

/-! The queue of deadlines' list -/
theorem erase_permD {D : List RI} {i : Nat} {r : RI} (hi : D[i]? = some r) : D.Perm (r :: D.eraseIdx i) := by
  induction D generalizing i with
  | nil => simp at hi
  | cons y ys ih =>
    cases i with
    | zero => simp at hi; subst hi; exact List.Perm.refl _
    | succ i => exact ((ih (by simpa using hi)).cons y).trans (List.Perm.swap r y _)
theorem insT_perm (D : List RI) (r : RI) : (insT D r).Perm (r :: D) := by
  induction D with
  | nil => exact List.Perm.refl _
  | cons y ys ih =>
    unfold insT
    split
    · exact (ih.cons y).trans (List.Perm.swap r y ys)
    · exact List.Perm.refl _
theorem erase_not {D : List RI} (hd : Dist (qL D)) {i : Nat} {r : RI} (hi : D[i]? = some r) : (D.eraseIdx i).Perm (D.filter (notI r.2.2)) := by
  have hn : ∀ z ∈ D.eraseIdx i, notI r.2.2 z = true := fun z hz => by
    have h1 : (z.1, z.2.2) ∈ (qL D).eraseIdx i := by rw [← qL_erase]; exact mem_qL.2 ⟨z, hz, rfl⟩
    have h2 := ((mem_erase hd (qL_get hi)).1 h1).2
    unfold notI
    simp only at h2
    simp [h2]
  have h1 := (erase_permD hi).filter (notI r.2.2)
  rw [List.filter_cons_of_neg (by unfold notI; simp), List.filter_eq_self.2 hn] at h1
  exact h1.symm
theorem filter_not {D : List RI} {id : Int} (h : ∀ z ∈ qL D, z.2 ≠ id) : D.filter (notI id) = D :=
  List.filter_eq_self.2 (fun z hz => by have := h _ (mem_qL.2 ⟨z, hz, rfl⟩); unfold notI; simp only at this; simp [this])
theorem dist_dL {T : List TI} (h : AscR (cutL T)) {a b : RI} (ha : a ∈ dL T) (hb : b ∈ dL T) (he : a.2.2 = b.2.2) : a = b := by
  obtain ⟨x, hx, rfl⟩ := mem_dL.1 ha
  obtain ⟨y, hy, rfl⟩ := mem_dL.1 hb
  rw [uniqU h hx hy he]

/-! Who is picked -/
theorem best_same {l l' : List RI} (hm : ∀ z, z ∈ l ↔ z ∈ l') (hu : ∀ a ∈ l, ∀ b ∈ l, a.2.2 = b.2.2 → a = b) : bestO l = bestO l' := by
  rcases bestO_spec l with ⟨h1, h2⟩ | ⟨r, h2, h3, h4⟩
  · rcases bestO_spec l' with ⟨h5, h6⟩ | ⟨q, h6, h7, h8⟩
    · rw [h2, h6]
    · rw [← hm] at h7; rw [h1] at h7; cases h7
  · rcases bestO_spec l' with ⟨h5, h6⟩ | ⟨q, h6, h7, h8⟩
    · rw [hm] at h3; rw [h5] at h3; cases h3
    · have a1 := dueB_false.1 (h4 q ((hm q).2 h7))
      have a2 := dueB_false.1 (h8 r ((hm r).1 h3))
      rw [h2, h6, hu r h3 q ((hm q).2 h7) (by omega)]
def mayI (T : List TI) (r : RI) : Bool := decide (r.1 * allT T ≤ sumT 0 T)
def pickO (T : List TI) : Option RI := bestO ((dL T).filter (mayI T))
def pickU (T : List TI) : Int := (optR (pickO T)).1.2.2
theorem pick_best {T : List TI} (ha : AscR (cutL T)) {x : TI} (hx : x ∈ T) (hm : mayI T (dayI x) = true) (hb : ∀ y ∈ T, mayI T (dayI y) = true → dueB (dayI y) (dayI x) = false) : pickO T = some (dayI x) := by
  unfold pickO
  rcases bestO_spec ((dL T).filter (mayI T)) with ⟨h1, -⟩ | ⟨r, h2, h3, h4⟩
  · have : dayI x ∈ (dL T).filter (mayI T) := List.mem_filter.2 ⟨mem_dL.2 ⟨x, hx, rfl⟩, hm⟩
    rw [h1] at this; cases this
  · rw [h2]
    obtain ⟨h5, h6⟩ := List.mem_filter.1 h3
    obtain ⟨y, hy, rfl⟩ := mem_dL.1 h5
    have a1 := dueB_false.1 (hb y hy h6)
    have a2 := dueB_false.1 (h4 (dayI x) (List.mem_filter.2 ⟨mem_dL.2 ⟨x, hx, rfl⟩, hm⟩))
    have e : y.1 = x.1 := by
      have e1 : (dayI y).2.2 = y.1 := rfl
      have e2 : (dayI x).2.2 = x.1 := rfl
      rw [e1, e2] at a1 a2
      omega
    rw [uniqU ha hy hx e]
/-- Somebody may; of those that may one is the first. -/
theorem pick_spec {T : List TI} (hT : T ≠ []) (hw : ∀ x ∈ T, 0 ≤ x.2.1) : ∃ x ∈ T, pickO T = some (dayI x) ∧ pickU T = x.1 ∧ mayI T (dayI x) = true ∧ ∀ y ∈ T, mayI T (dayI y) = true → dueB (dayI y) (dayI x) = false := by
  have hne : (dL T).filter (mayI T) ≠ [] := by
    obtain ⟨x, hx, he⟩ := minP_mem hT
    refine List.ne_nil_of_mem (List.mem_filter.2 ⟨mem_dL.2 ⟨x, hx, rfl⟩, ?_⟩)
    unfold mayI
    rw [decide_eq_true_eq]
    have := sum_least (base := 0) (m := x.2.2.1) (l := T) (fun y hy => ⟨by have := minP_le hy; omega, hw y hy⟩)
    rw [Int.sub_zero] at this
    exact this
  rcases bestO_spec ((dL T).filter (mayI T)) with ⟨h1, -⟩ | ⟨r, h2, h3, h4⟩
  · exact absurd h1 hne
  · obtain ⟨h5, h6⟩ := List.mem_filter.1 h3
    obtain ⟨x, hx, rfl⟩ := mem_dL.1 h5
    refine ⟨x, hx, h2, ?_, h6, fun y hy hm => h4 _ (List.mem_filter.2 ⟨mem_dL.2 ⟨y, hy, rfl⟩, hm⟩)⟩
    unfold pickU pickO
    rw [h2]
    rfl
/-- First of the queue of deadlines tells who is picked. -/
theorem first_pick {T : List TI} {D : List RI} (ha : AscR (cutL T)) (hp : D.Perm (dL T)) (ho : Ord (qL D)) {avg : Int} (hv : ∀ z : Int, z ≤ avg ↔ z * allT T ≤ sumT 0 T) : firstT avg D = pickO T := by
  unfold firstT pickO
  refine best_same (fun z => ?_) (fun a h1 b h2 he => ?_)
  · rw [mem_while ho, List.mem_filter, hp.mem_iff]
    unfold mayI
    rw [decide_eq_true_eq, hv]
  · exact dist_dL ha (hp.mem_iff.1 ((mem_while ho).1 h1).1) (hp.mem_iff.1 ((mem_while ho).1 h2).1) he

/-! The average -/
def sumW : List RI → Int
  | [] => 0
  | r :: rs => r.2.2 * r.2.1 + sumW rs
def allW : List RI → Int
  | [] => 0
  | r :: rs => r.2.1 + allW rs
theorem sumW_perm {l l' : List RI} (h : l.Perm l') : sumW l = sumW l' ∧ allW l = allW l' := by
  induction h with
  | nil => exact ⟨rfl, rfl⟩
  | cons x _ ih => unfold sumW allW; omega
  | swap x y l => unfold sumW allW; unfold sumW allW; omega
  | trans _ _ h1 h2 => omega
theorem sumW_cut (T : List TI) : sumW (cutL T) = sumT 0 T ∧ allW (cutL T) = allT T := by
  induction T with
  | nil => exact ⟨rfl, rfl⟩
  | cons x xs ih =>
    have e1 : sumW (cutL (x :: xs)) = x.2.2.1 * x.2.1 + sumW (cutL xs) := rfl
    have e2 : allW (cutL (x :: xs)) = x.2.1 + allW (cutL xs) := rfl
    rw [e1, e2]
    unfold sumT allT
    rw [Int.sub_zero]
    omega
def allTo (l : List RI) (k : Nat) : Int := allW (l.take k)
def whoW (lo tot : Int) : List RI → Int
  | [] => 0
  | r :: rs => (r.2.2 - lo) / tot * r.2.1 + whoW lo tot rs
def resW (lo tot : Int) : List RI → Int
  | [] => 0
  | r :: rs => (r.2.2 - lo) % tot * r.2.1 + resW lo tot rs
theorem allW_snoc (l : List RI) (r : RI) : allW (l ++ [r]) = allW l + r.2.1 := by
  induction l with
  | nil => simp [allW]
  | cons y ys ih => rw [List.cons_append, allW, allW, ih]; omega
theorem whoW_snoc (lo tot : Int) (l : List RI) (r : RI) : whoW lo tot (l ++ [r]) = whoW lo tot l + (r.2.2 - lo) / tot * r.2.1 := by
  induction l with
  | nil => simp [whoW]
  | cons y ys ih => rw [List.cons_append, whoW, whoW, ih]; omega
theorem resW_snoc (lo tot : Int) (l : List RI) (r : RI) : resW lo tot (l ++ [r]) = resW lo tot l + (r.2.2 - lo) % tot * r.2.1 := by
  induction l with
  | nil => simp [resW]
  | cons y ys ih => rw [List.cons_append, resW, resW, ih]; omega
theorem split_sum (lo tot : Int) (l : List RI) : sumW l = lo * allW l + tot * whoW lo tot l + resW lo tot l := by
  induction l with
  | nil => simp [sumW, allW, whoW, resW]
  | cons r rs ih =>
    unfold sumW allW whoW resW
    have h1 : r.2.2 * r.2.1 = lo * r.2.1 + tot * ((r.2.2 - lo) / tot * r.2.1) + (r.2.2 - lo) % tot * r.2.1 := by
      have h2 : r.2.2 = lo + (tot * ((r.2.2 - lo) / tot) + (r.2.2 - lo) % tot) := by have := Int.mul_ediv_add_emod (r.2.2 - lo) tot; omega
      conv => lhs; rw [h2]
      rw [Int.add_mul, Int.add_mul, Int.mul_assoc, Int.add_assoc]
    rw [h1, ih, Int.mul_add, Int.mul_add]
    omega
/-- What the program reckons. -/
def avgW (lo : Int) (l : List RI) : Int := lo + whoW lo (allW l) l + resW lo (allW l) l / allW l
theorem avg_is {lo : Int} {l : List RI} (ht : 0 < allW l) : avgW lo l = sumW l / allW l := by
  rw [split_sum lo (allW l) l]
  have e : lo * allW l + allW l * whoW lo (allW l) l + resW lo (allW l) l = resW lo (allW l) l + allW l * (lo + whoW lo (allW l) l) := by
    rw [Int.mul_add, Int.mul_comm lo]; omega
  rw [e, Int.add_mul_ediv_left _ _ (by omega)]
  unfold avgW
  omega
theorem avg_le {lo : Int} {l : List RI} (ht : 0 < allW l) (z : Int) : z ≤ avgW lo l ↔ z * allW l ≤ sumW l := by
  rw [avg_is ht, Int.le_ediv_iff_mul_le ht]
theorem allW_pos {l : List RI} (hl : l ≠ []) (hw : ∀ r ∈ l, 1 ≤ r.2.1) : 0 < allW l := by
  have : ∀ l : List RI, (∀ r ∈ l, 1 ≤ r.2.1) → 0 ≤ allW l := fun l => by
    induction l with
    | nil => intro _; exact Int.le_refl _
    | cons y ys ih => intro h; have h1 := h y (by simp); have h2 := ih (fun r hr => h r (by simp [hr])); unfold allW; omega
  cases l with
  | nil => exact absurd rfl hl
  | cons y ys => have h1 := hw y (by simp); have h2 := this ys (fun r hr => hw r (by simp [hr])); unfold allW; omega

/-! The calls -/
def newU (base : Int) (x : RI) : TI := (x.1, x.2.1, base - x.2.2, base - x.2.2 + 4 * tickV x.2.1)
/-- What Put answers, and what it leaves: the answer, the base, the tasks. -/
def putU (base : Int) (T : List TI) (x : RI) : Int × Int × List TI :=
  if itemB x = true then (if hasI (cutL T) x.1 = true then (4, base, T) else if 64 ≤ T.length then (3, base, T) else (0, raiseM base (cutL (insTT T (newU base x))), insTT T (newU base x))) else (1, base, T)
def enterU (base : Int) (T : List TI) (x : RI) : Int × Int × List TI :=
  if lagB x.2.2 = true then putU base T (x.1, x.2.1, min (max x.2.2 (-698377680)) 698377680) else (1, base, T)
def leaveU (base cur : Int) (T : List TI) (id : Int) : Int × Int × Int × Int × List TI :=
  if hasI (cutL T) id = true then (base - (getU T id).2.2.1, 0, raiseM base (cutL (delU T id)), if cur = id then -1 else cur, delU T id) else (0, 2, base, cur, T)
def weighU (T : List TI) (id n : Int) : Int × List TI :=
  if hasI (cutL T) id = true then (if goodB n = true then (0, updU T id (weiT n)) else (1, T)) else (2, T)
def chargeU (base cur : Int) (T : List TI) : Int × Int × Int × List TI :=
  if cur = -1 then (0, 14, base, T) else
    if 2305843009213693952 - stepV (getU T cur).2.1 < (getU T cur).2.2.1 then (0, 7, base, T) else
      (cur, 0, raiseM base (cutL (updU T cur chaT)), updU T cur chaT)
def pickC (T : List TI) : Int := if T = [] then -1 else pickU T
def pickV (T : List TI) : Int := if T = [] then 0 else pickU T
def pickB (T : List TI) : Bool := !decide (T = [])
theorem put_cut (base : Int) (T : List TI) (x : RI) : putM base (cutL T) x = ((putU base T x).1, (putU base T x).2.1, cutL (putU base T x).2.2) := by
  have e : cutL (insTT T (newU base x)) = insR (cutL T) (x.1, x.2.1, base - x.2.2) := cut_ins T _
  unfold putM putU addM
  rw [e, cut_len]
  by_cases h1 : itemB x = true
  · rw [if_pos h1, if_pos h1]
    by_cases h2 : hasI (cutL T) x.1 = true
    · rw [if_pos h2, if_pos h2]; rfl
    · rw [if_neg h2, if_neg h2]
      by_cases h3 : 64 ≤ T.length
      · rw [if_pos h3, if_pos h3]; rfl
      · rw [if_neg h3, if_neg h3, if_pos rfl]
        simp only [e]
  · rw [if_neg h1, if_neg h1]
theorem leave_cut {base cur : Int} {T : List TI} (ha : AscR (cutL T)) (id : Int) : leaveM base cur (cutL T) id = ((leaveU base cur T id).1, (leaveU base cur T id).2.1, (leaveU base cur T id).2.2.1, (leaveU base cur T id).2.2.2.1, cutL (leaveU base cur T id).2.2.2.2) := by
  unfold leaveM leaveU
  by_cases h : hasI (cutL T) id = true
  · rw [if_pos h, if_pos h, getU_cut ha h, ← cut_delU]; rfl
  · rw [if_neg h, if_neg h]
theorem weigh_cut (T : List TI) (id n : Int) : weighM (cutL T) id n = ((weighU T id n).1, cutL (weighU T id n).2) := by
  unfold weighM weighU
  by_cases h : hasI (cutL T) id = true
  · rw [if_pos h, if_pos h]
    by_cases h2 : goodB n = true
    · rw [if_pos h2, if_pos h2, ← cut_wei]
    · rw [if_neg h2, if_neg h2]
  · rw [if_neg h, if_neg h]
theorem charge_cut {base cur : Int} {T : List TI} (ha : AscR (cutL T)) (hc : cur = -1 ∨ hasI (cutL T) cur = true) : chargeM base cur (cutL T) = ((chargeU base cur T).1, (chargeU base cur T).2.1, (chargeU base cur T).2.2.1, cutL (chargeU base cur T).2.2.2) := by
  unfold chargeM chargeU
  by_cases h1 : cur = -1
  · rw [if_pos h1, if_pos h1]
  · have hh := hc.resolve_left h1
    obtain ⟨h3, h4⟩ := getU_mem hh
    rw [if_neg h1, if_neg h1, getU_cut ha hh]
    have e := cut_cha ha h3
    rw [h4] at e
    have e1 : (cutT (getU T cur)).2.1 = (getU T cur).2.1 := rfl
    have e2 : (cutT (getU T cur)).2.2 = (getU T cur).2.2.1 := rfl
    rw [e1, e2, ← e]
    split <;> rfl

/-- Each day lies ahead of its point, four ticks at most. -/
def DayOk (T : List TI) : Prop := ∀ x ∈ T, x.2.2.1 < x.2.2.2 ∧ x.2.2.2 ≤ x.2.2.1 + 4 * tickV x.2.1
theorem tick_pos {x : Int} (h : goodB x = true) : 11639628 ≤ tickV x := by
  have h1 := goodB_true.1 h
  rw [tickV_yes h]
  exact (Int.le_ediv_iff_mul_le (by omega)).2 (by omega)
theorem good_of {b c : Int} {T : List TI} (hw : WfS b c (cutL T)) {x : TI} (hx : x ∈ T) : goodB x.2.1 = true := by
  have := hw.each _ (cut_mem hx)
  have e : (cutT x).2.1 = x.2.1 := rfl
  rw [e] at this
  exact goodB_true.2 ⟨this.2.2.1, this.2.2.2.1⟩
theorem DayOk.ins {T : List TI} (h : DayOk T) {x : TI} (hx : x.2.2.1 < x.2.2.2 ∧ x.2.2.2 ≤ x.2.2.1 + 4 * tickV x.2.1) : DayOk (insTT T x) := fun z hz => by
  rcases mem_insTT.1 hz with rfl | hz
  · exact hx
  · exact h z hz
theorem DayOk.del {T : List TI} (h : DayOk T) (id : Int) : DayOk (delU T id) := fun z hz => h z (mem_delU.1 hz).1
theorem DayOk.upd {T : List TI} (h : DayOk T) {id : Int} {f : TI → TI} (hf : ∀ x ∈ T, x.1 = id → (f x).2.2.1 < (f x).2.2.2 ∧ (f x).2.2.2 ≤ (f x).2.2.1 + 4 * tickV (f x).2.1) : DayOk (updU T id f) := fun z hz => by
  rcases mem_updU hz with ⟨x, hx, he, rfl⟩ | ⟨hz, _⟩
  · exact hf x hx he
  · exact h z hz
theorem new_day {base : Int} {x : RI} (h : goodB x.2.1 = true) : (newU base x).2.2.1 < (newU base x).2.2.2 ∧ (newU base x).2.2.2 ≤ (newU base x).2.2.1 + 4 * tickV (newU base x).2.1 := by
  have := tick_pos h
  unfold newU
  simp only
  omega
theorem wei_day {n : Int} {x : TI} (h : goodB n = true) : (weiT n x).2.2.1 < (weiT n x).2.2.2 ∧ (weiT n x).2.2.2 ≤ (weiT n x).2.2.1 + 4 * tickV (weiT n x).2.1 := by
  have := tick_pos h
  unfold weiT
  simp only
  omega
theorem cha_day {x : TI} (h : goodB x.2.1 = true) (hx : x.2.2.1 < x.2.2.2 ∧ x.2.2.2 ≤ x.2.2.1 + 4 * tickV x.2.1) : (chaT x).2.2.1 < (chaT x).2.2.2 ∧ (chaT x).2.2.2 ≤ (chaT x).2.2.1 + 4 * tickV (chaT x).2.1 := by
  have := tick_pos h
  unfold chaT
  simp only
  split <;> omega
theorem put_day {base : Int} {T : List TI} (h : DayOk T) (x : RI) : DayOk (putU base T x).2.2 := by
  unfold putU
  split
  · rename_i hi
    split
    · exact h
    · split
      · exact h
      · exact h.ins (new_day (goodB_true.2 (itemB_true.1 hi).2.2.1))
  · exact h
end Go.Proofs.YtandmngfajoinaaGreat

namespace Go.Proofs.YtandmngfajoinaaGreat
open Go.RowKit

/-- Block o is a queue: its points at s, its deadlines at d. -/
def UBox (w : World) (o s d : Nat) : Prop := w.heap[o]? = some (.cells #[.pointer (some ⟨s, 0, none⟩), .pointer (some ⟨d, 0, none⟩)] 116 (0, 0))
theorem UBox.lt {w : World} {o s d : Nat} (h : UBox w o s d) : o < w.heap.size := (Array.getElem?_eq_some_iff.1 h).1
theorem UBox.cells {w : World} {o s d : Nat} (h : UBox w o s d) : w.cell? ⟨o, 0, none⟩ = some (.pointer (some ⟨s, 0, none⟩)) ∧ w.cell? ⟨o, 1, none⟩ = some (.pointer (some ⟨d, 0, none⟩)) := by
  constructor <;> simp [World.cell?, show w.heap[o]? = _ from h]
theorem UBox.keep {w w' : World} {o s d : Nat} (h : UBox w o s d) (hs : w'.heap[o]? = w.heap[o]?) : UBox w' o s d := hs.trans h

/-- Its points R, its deadlines D; A: its blocks; its steps at most st. -/
def IsP (w : World) (o : Nat) (A : Nat → Prop) (s d : Nat) (st base cur : Int) (R D : List RI) : Prop :=
  ∃ b mp mw v st1 L b2 m2 v2 mp2 st2, UBox w o s d ∧ IsS w s b mp mw v st1 base cur L R ∧ IsD w d b2 m2 64 st2 D v2 mp2 ∧ (0 ≤ st1 ∧ st1 ≤ st ∧ 0 ≤ st2 ∧ st2 ≤ st) ∧
    ¬ SOf s b mp mw v o ∧ ¬ DOf d b2 m2 v2 mp2 o ∧ (∀ k, SOf s b mp mw v k → ¬ DOf d b2 m2 v2 mp2 k) ∧ ∀ k, A k ↔ (k = o ∨ SOf s b mp mw v k ∨ DOf d b2 m2 v2 mp2 k)
/-- What is left behind a call. -/
def PPost (o : Nat) (A : Nat → Prop) (s d : Nat) (st base cur : Int) (R D : List RI) (K : Nat) (w w' : World) : Prop :=
  ∃ A', IsP w' o A' s d (st + (K : Int)) base cur R D ∧ Trip A w A' w'
section
variable {w w' : World} {o s d : Nat} {A : Nat → Prop} {st base cur : Int} {R D : List RI}
theorem IsP.box (h : IsP w o A s d st base cur R D) : UBox w o s d := by
  obtain ⟨b, mp, mw, v, st1, L, b2, m2, v2, mp2, st2, h1, _⟩ := h
  exact h1
theorem IsP.wf (h : IsP w o A s d st base cur R D) : WfS base cur R := by
  obtain ⟨b, mp, mw, v, st1, L, b2, m2, v2, mp2, st2, h1, h2, _⟩ := h
  exact h2.wf
theorem IsP.ord (h : IsP w o A s d st base cur R D) : Ord (qL D) ∧ Dist (qL D) := by
  obtain ⟨b, mp, mw, v, st1, L, b2, m2, v2, mp2, st2, h1, h2, h3, _⟩ := h
  exact ⟨h3.q.ord, h3.q.dist⟩
theorem IsP.lt (h : IsP w o A s d st base cur R D) : ∀ k, A k → k < w.heap.size := by
  obtain ⟨b, mp, mw, v, st1, L, b2, m2, v2, mp2, st2, h1, h2, h3, h4, h5, h6, h7, h8⟩ := h
  intro k hk
  rcases (h8 k).1 hk with rfl | hk | hk
  · exact h1.lt
  · exact h2.lt k hk
  · exact h3.lt k hk
theorem IsP.keep (h : IsP w o A s d st base cur R D) (hs : ∀ k, A k → w'.heap[k]? = w.heap[k]?) : IsP w' o A s d st base cur R D := by
  obtain ⟨b, mp, mw, v, st1, L, b2, m2, v2, mp2, st2, h1, h2, h3, h4, h5, h6, h7, h8⟩ := h
  exact ⟨b, mp, mw, v, st1, L, b2, m2, v2, mp2, st2, h1.keep (hs o ((h8 o).2 (.inl rfl))), h2.keep (fun k hk => hs k ((h8 k).2 (.inr (.inl hk)))), h3.keep (fun k hk => hs k ((h8 k).2 (.inr (.inr hk)))), h4, h5, h6, h7, h8⟩
theorem IsP.below (h : IsP w o A s d st base cur R D) (hb : Below w.heap.size w w') : IsP w' o A s d st base cur R D := h.keep (fun k hk => hb.block k (h.lt k hk))
theorem IsP.self (h : IsP w o A s d st base cur R D) (hb : Below w.heap.size w w') : Trip A w A w' := below_trip hb h.lt
theorem IsP.weak (h : IsP w o A s d st base cur R D) {st' : Int} (hs : st ≤ st') : IsP w o A s d st' base cur R D := by
  obtain ⟨b, mp, mw, v, st1, L, b2, m2, v2, mp2, st2, h1, h2, h3, ⟨h4, h5, h6, h7⟩, h8⟩ := h
  exact ⟨b, mp, mw, v, st1, L, b2, m2, v2, mp2, st2, h1, h2, h3, ⟨h4, by omega, h6, by omega⟩, h8⟩
theorem PPost.same {K : Nat} (h : IsP w o A s d st base cur R D) (hb : Below w.heap.size w w') : PPost o A s d st base cur R D K w w' :=
  ⟨A, (h.below hb).weak (by omega), h.self hb⟩
theorem PPost.pre {W : World} {base' cur' : Int} {R' D' : List RI} {K : Nat} (h : IsP w o A s d st base cur R D) (hb : Below w.heap.size w W) (hP : PPost o A s d st base' cur' R' D' K W w') : PPost o A s d st base' cur' R' D' K w w' := by
  obtain ⟨A', hq, ht⟩ := hP
  exact ⟨A', hq, (h.self hb).trans ht⟩
theorem PPost.then {W : World} {base' cur' base2 cur2 : Int} {R' D' R2 D2 : List RI} {K K2 : Nat} (h1 : PPost o A s d st base' cur' R' D' K w W) (h2 : ∀ A', IsP W o A' s d (st + (K : Int)) base' cur' R' D' → PPost o A' s d (st + (K : Int)) base2 cur2 R2 D2 K2 W w') : PPost o A s d st base2 cur2 R2 D2 (K + K2) w w' := by
  obtain ⟨A', hq, ht⟩ := h1
  obtain ⟨A2, hq2, ht2⟩ := h2 A' hq
  exact ⟨A2, hq2.weak (by omega), ht.trans ht2⟩
theorem PPost.weak {base' cur' : Int} {R' D' : List RI} {K K2 : Nat} (h : PPost o A s d st base' cur' R' D' K w w') (hk : K ≤ K2) : PPost o A s d st base' cur' R' D' K2 w w' := by
  obtain ⟨A', hq, ht⟩ := h
  exact ⟨A', hq.weak (by omega), ht⟩
/-- A call on the points. -/
theorem p_s {f : Nat} {args : Array Value} {Q : Ending → Prop} {base' cur' : Int} {R' : List RI} {K : Nat} (h : IsP w o A s d st base cur R D)
    (hc : ∀ b mp mw v st1 L, IsS w s b mp mw v st1 base cur L R → 0 ≤ st1 → st1 ≤ st → Calls Tryz.prog f args w fun e w' => Q e ∧ SPost s b mp mw v st1 base' cur' R' K w w') :
    Calls Tryz.prog f args w fun e w' => Q e ∧ PPost o A s d st base' cur' R' D K w w' := by
  obtain ⟨b, mp, mw, v, st1, L, b2, m2, v2, mp2, st2, h1, h2, h3, h4, h5, h6, h7, h8⟩ := h
  refine (hc b mp mw v st1 L h2 h4.1 h4.2.1).mono ?_
  rintro e w' ⟨he, v', L', k, hk, hq, ht⟩
  have ho := h1.lt
  have hz := ht.size
  have hD : ∀ j, DOf d b2 m2 v2 mp2 j → w'.heap[j]? = w.heap[j]? := fun j hj => ht.block j (h3.lt j hj) (fun hh => h7 j hh hj)
  refine ⟨he, fun j => j = o ∨ SOf s b mp mw v' j ∨ DOf d b2 m2 v2 mp2 j, ⟨b, mp, mw, v', _, L', b2, m2, v2, mp2, st2, h1.keep (ht.block o ho h5), hq, h3.keep hD, by omega, fun hh => (ht.sub o hh).elim h5 (fun _ => by omega), h6, fun j hj hj' => ?_, fun _ => Iff.rfl⟩, ⟨ht.os, ht.tape, ht.output, hz, fun j hj hn => ht.block j hj (fun hh => hn ((h8 j).2 (.inr (.inl hh)))), fun j hj => ?_, fun j hj => ?_⟩⟩
  · rcases ht.sub j hj with h | h
    · exact h7 j h hj'
    · have := h3.lt j hj'; omega
  · rcases hj with rfl | hj | hj
    · exact .inl ((h8 _).2 (.inl rfl))
    · exact (ht.sub j hj).imp (fun hh => (h8 j).2 (.inr (.inl hh))) id
    · exact .inl ((h8 j).2 (.inr (.inr hj)))
  · rcases hj with rfl | hj | hj
    · omega
    · exact ht.bd j hj
    · have := h3.lt j hj; omega
/-- A call on the deadlines. -/
theorem p_d {f : Nat} {args : Array Value} {Q : Ending → Prop} {D' : List RI} {K : Nat} (h : IsP w o A s d st base cur R D)
    (hc : ∀ b m v mp st2, IsD w d b m 64 st2 D v mp → 0 ≤ st2 → st2 ≤ st → Calls Tryz.prog f args w fun e w' => Q e ∧ DPost d b m mp 64 st2 v D' K w w') :
    Calls Tryz.prog f args w fun e w' => Q e ∧ PPost o A s d st base cur R D' K w w' := by
  obtain ⟨b, mp, mw, v, st1, L, b2, m2, v2, mp2, st2, h1, h2, h3, h4, h5, h6, h7, h8⟩ := h
  refine (hc b2 m2 v2 mp2 st2 h3 h4.2.2.1 h4.2.2.2).mono ?_
  rintro e w' ⟨he, v', k, hk, hq, ht⟩
  have ho := h1.lt
  have hz := ht.size
  have hS : ∀ j, SOf s b mp mw v j → w'.heap[j]? = w.heap[j]? := fun j hj => ht.block j (h2.lt j hj) (fun hh => h7 j hj hh)
  refine ⟨he, fun j => j = o ∨ SOf s b mp mw v j ∨ DOf d b2 m2 v' mp2 j, ⟨b, mp, mw, v, st1, L, b2, m2, v', mp2, _, h1.keep (ht.block o ho h6), h2.keep hS, hq, by omega, h5, fun hh => (ht.sub o hh).elim h6 (fun _ => by omega), fun j hj hj' => ?_, fun _ => Iff.rfl⟩, ⟨ht.os, ht.tape, ht.output, hz, fun j hj hn => ht.block j hj (fun hh => hn ((h8 j).2 (.inr (.inr hh)))), fun j hj => ?_, fun j hj => ?_⟩⟩
  · rcases ht.sub j hj' with h | h
    · exact h7 j hj h
    · have := h2.lt j hj; omega
  · rcases hj with rfl | hj | hj
    · exact .inl ((h8 _).2 (.inl rfl))
    · exact .inl ((h8 j).2 (.inr (.inl hj)))
    · exact (ht.sub j hj).imp (fun hh => (h8 j).2 (.inr (.inr hh))) id
  · rcases hj with rfl | hj | hj
    · omega
    · have := h2.lt j hj; omega
    · exact ht.bd j hj
/-- A call that reads. -/
theorem p_read {f : Nat} {args : Array Value} {Q : Ending → World → Prop}
    (h : IsP w o A s d st base cur R D) (hc : ∀ b mp mw v st1 L, IsS w s b mp mw v st1 base cur L R → Calls Tryz.prog f args w Q) : Calls Tryz.prog f args w Q := by
  obtain ⟨b, mp, mw, v, st1, L, b2, m2, v2, mp2, st2, h1, h2, _⟩ := h
  exact hc b mp mw v st1 L h2
theorem p_readD {f : Nat} {args : Array Value} {Q : Ending → World → Prop}
    (h : IsP w o A s d st base cur R D) (hc : ∀ b m v mp st2, IsD w d b m 64 st2 D v mp → Calls Tryz.prog f args w Q) : Calls Tryz.prog f args w Q := by
  obtain ⟨b, mp, mw, v, st1, L, b2, m2, v2, mp2, st2, h1, h2, h3, _⟩ := h
  exact hc b2 m2 v2 mp2 st2 h3

/-- Drop, of a number that is there or not. -/
theorem p_drop (id : Int) (h : IsP w o A s d st base cur R D) (hid : wf64 id) (hl : D.length ≤ 64) (hs : st < 1000000000000000) :
    Calls Tryz.prog 72 #[.pointer (some ⟨d, 0, none⟩), .int .i64 id] w fun e w' => ∃ r bb D', e = .returned (.tuple #[.agg (encR r).toArray, .bool bb]) ∧ D'.Perm (D.filter (notI id)) ∧ PPost o A s d st base cur R D' 8 w w' := by
  obtain ⟨ho, hd⟩ := h.ord
  by_cases hn : ∀ z ∈ qL D, z.2 ≠ id
  · refine (p_readD h (fun b m v mp st2 hD => ddrop_no d b m 64 st2 D v mp id w hD hid hn)).mono ?_
    rintro e w' ⟨rfl, hb⟩
    exact ⟨_, _, D, rfl, by rw [filter_not hn], PPost.same h hb⟩
  · have hex : ∃ r ∈ D, r.2.2 = id := by
      apply Classical.byContradiction
      intro hno
      refine hn (fun z hz he => ?_)
      obtain ⟨r, hr, rfl⟩ := mem_qL.1 hz
      exact hno ⟨r, hr, he⟩
    obtain ⟨r, hr, rfl⟩ := hex
    obtain ⟨i, hi⟩ := List.getElem?_of_mem hr
    refine (p_d (Q := fun e => e = .returned (.tuple #[.agg (encR r).toArray, .bool true])) (D' := D.eraseIdx i) (K := 8) h (fun b m v mp st2 hD h0 h1 => ddrop_yes d b m 64 st2 D v mp r i 7 w hD hi (by omega) (by omega) (by omega) h0 (by omega))).mono ?_
    rintro e w' ⟨rfl, hP⟩
    exact ⟨_, _, _, rfl, erase_not hd hi, hP⟩
/-- Put, of a number that is not there. -/
theorem p_put (r : RI) (h : IsP w o A s d st base cur R D) (h0 : wf64 r.1) (h1 : wf64 r.2.1) (h2 : wf64 r.2.2) (hn : ∀ z ∈ D, z.2.2 ≠ r.2.2) (hl : D.length < 64) (hs : st < 1000000000000000) :
    Calls Tryz.prog 73 #[.pointer (some ⟨d, 0, none⟩), .int .i64 r.1, .int .i64 r.2.1, .int .i64 r.2.2] w fun e w' => e = .returned (.int .i64 0) ∧ PPost o A s d st base cur R (insT D r) 8 w w' := by
  have hno : ∀ z ∈ qL D, z.2 ≠ r.2.2 := fun z hz => by
    obtain ⟨y, hy, rfl⟩ := mem_qL.1 hz
    exact hn y hy
  have e : putT 64 D r = (0, insT D r) := by
    unfold putT
    rw [keyV_no hno, if_neg (by simp), if_neg (by omega)]
  refine p_d (Q := fun e => e = .returned (.int .i64 0)) h (fun b m v mp st2 hD a0 a1 => ?_)
  have K := dput_c d b m 64 st2 D v mp r 7 w hD h0 h1 h2 (by omega) (by omega) (by omega) a0 (by omega)
  rw [e] at K
  exact K
/-- Set, of a number that is there. -/
theorem p_set (r r0 : RI) (h : IsP w o A s d st base cur R D) (hr : r0 ∈ D) (he : r0.2.2 = r.2.2) (h0 : wf64 r.1) (h1 : wf64 r.2.1) (hl : D.length ≤ 64) (hs : st < 1000000000000000) :
    Calls Tryz.prog 188 #[.pointer (some ⟨d, 0, none⟩), .int .i64 r.2.2, .int .i64 r.1, .int .i64 r.2.1] w fun e w' => ∃ D', e = .returned (.bool true) ∧ D'.Perm (r :: D.filter (notI r.2.2)) ∧ PPost o A s d st base cur R D' 16 w w' := by
  obtain ⟨ho, hd⟩ := h.ord
  obtain ⟨i, hi⟩ := List.getElem?_of_mem hr
  refine (p_d (Q := fun e => e = .returned (.bool true)) (D' := setT D i r) (K := 16) h (fun b m v mp st2 hD a0 a1 => dset_yes d b m 64 st2 D v mp r r0 i 7 w hD hi he h0 h1 (by omega) (by omega) (by omega) a0 (by omega))).mono ?_
  rintro e w' ⟨rfl, hP⟩
  refine ⟨_, rfl, ?_, hP⟩
  unfold setT
  refine (insT_perm _ _).trans (List.Perm.cons _ ?_)
  rw [← he]
  exact erase_not hd hi
end
end Go.Proofs.YtandmngfajoinaaGreat

namespace Go.Proofs.YtandmngfajoinaaGreat
open Go.RowKit

/-- A task in a box of its own. -/
def TaAt (w : World) (b : Nat) (r : RI) : Prop := BoxAt w b 120 #[.int .i64 r.1, .int .i64 r.2.1, .int .i64 r.2.2]
theorem TaAt.cells {w : World} {b : Nat} {r : RI} (h : TaAt w b r) : w.cell? ⟨b, 0, none⟩ = some (.int .i64 r.1) ∧ w.cell? ⟨b, 1, none⟩ = some (.int .i64 r.2.1) ∧ w.cell? ⟨b, 2, none⟩ = some (.int .i64 r.2.2) :=
  ⟨BoxAt.cell h, BoxAt.cell h, BoxAt.cell h⟩

set_option maxRecDepth 100000 in
set_option maxHeartbeats 2000000 in
theorem udead_c (x0 x1 x2 : Int) (w : World) (h1 : -4000000000000000000 ≤ x2) (h2 : x2 ≤ 4000000000000000000) :
    Calls Tryz.prog 74 #[.agg #[.int .i64 x0, .int .i64 x1, .int .i64 x2]] w (Ret10 (.int .i64 (x2 + 4 * stepV x1)) w) := by
  have KS := Lib.hid (fun w => step_c x1 w)
  have hsv := stepV_bd x1
  have HB := Lib.hid ((Below.refl _ w).alloc (Nat.le_refl _) (.cells #[.int .i64 x0, .int .i64 x1, .int .i64 x2] 120))
  generalize stepV x1 = sv at *
  have hw1 : IntKind.i64.wrap (4 * sv) = 4 * sv := by rw [IntKind.wrap_i64]; omega
  have hw2 : IntKind.i64.wrap (9223372036854775807 - 4 * sv) = 9223372036854775807 - 4 * sv := by rw [IntKind.wrap_i64]; omega
  have hw3 : IntKind.i64.wrap (x2 + 4 * sv) = x2 + 4 * sv := by rw [IntKind.wrap_i64]; omega
  have hd : decide (9223372036854775807 - 4 * sv < x2) = false := by simp; omega
  clear hsv h1 h2
  go_enter Tryz.func74, Tryz.ntmps74
  go_wp2_with fail
  refine (KS.out _).mono ?_
  rintro e w' ⟨rfl, rfl⟩
  go_wp2_with fail
  go_ret
  exact ⟨rfl, HB.out⟩

section
variable {w w' : World} {o s d : Nat} {A : Nat → Prop} {st base cur : Int} {R D : List RI}
/-- A box that was made since stays behind a call on the queue. -/
theorem box_stays {b : Nat} {t : TypeId} {cs : Array Value} (h : BoxAt w b t cs) (hn : ¬ A b) {A' : Nat → Prop} (ht : Trip A w A' w') : BoxAt w' b t cs := (ht.block _ h.lt hn).trans h
set_option maxRecDepth 100000 in
set_option maxHeartbeats 8000000 in
theorem urenew_c (x0 x1 x2 : Int) (w : World) (h : IsP w o A s d st base cur R D) (hx0 : 0 ≤ x0) (hx1 : x0 ≤ 1073741824) (h1 : -4000000000000000000 ≤ x2) (h2 : x2 ≤ 4000000000000000000) (hD : D.length ≤ 64) (hl : (D.filter (notI x0)).length < 64) (hs : st < 100000000000000) :
    Calls Tryz.prog 65 #[.pointer (some ⟨o, 0, none⟩), .agg #[.int .i64 x0, .int .i64 x1, .int .i64 x2]] w fun e w' => e = .returned (.tuple #[]) ∧ ∃ D', D'.Perm ((x2, x2 + 4 * stepV x1, x0) :: D.filter (notI x0)) ∧ PPost o A s d st base cur R D' 16 w w' := by
  obtain ⟨w1, hw1⟩ : ∃ w1, w.alloc (.cells #[.int .i64 x0, .int .i64 x1, .int .i64 x2] 120) = w1 := ⟨_, rfl⟩
  have hb1 : Below w.heap.size w w1 := by rw [← hw1]; exact (Below.refl _ w).alloc (Nat.le_refl _) _
  have hx : TaAt w1 w.heap.size (x0, x1, x2) := by rw [← hw1]; exact heap_alloc_new w _
  have hq1 := h.below hb1
  have hnA : ¬ A w.heap.size := fun hh => by have := h.lt _ hh; omega
  have hw0 : wf64 x0 := wf64_of (by omega) (by omega)
  have hsv := stepV_bd x1
  obtain ⟨-, c1⟩ := hq1.box.cells
  obtain ⟨d0, d1, d2⟩ := hx.cells
  have hs0 : w.heap.size < w1.heap.size := hx.lt
  have KD : Hid (Calls Tryz.prog 72 #[.pointer (some ⟨d, 0, none⟩), .int .i64 x0] w1.drew fun e w' => ∃ r bb D', e = .returned (.tuple #[.agg (encR r).toArray, .bool bb]) ∧ D'.Perm (D.filter (notI x0)) ∧ (w'.cell? ⟨o, 1, none⟩ = some (.pointer (some ⟨d, 0, none⟩)) ∧ TaAt w' w.heap.size (x0, x1, x2)) ∧ PPost o A s d st base cur R D' 8 w1 w') := Lib.hid (by
    refine (p_drop x0 (hq1.below (Below.refl _ w1).drew) hw0 hD (by omega)).mono ?_
    rintro e w' ⟨r, bb, D', he, hp, A', hq, ht⟩
    exact ⟨r, bb, D', he, hp, ⟨hq.box.cells.2, box_stays (w := w1.drew) hx hnA ht⟩, A', hq, (hq1.self (Below.refl _ w1).drew).trans ht⟩)
  have HS := Lib.hid (And.intro c1 d0)
  have H := Lib.hid (And.intro hl (And.intro (And.intro hnA (And.intro hs0 (h.self hb1))) (And.intro hw0 (And.intro hsv (And.intro h1 (And.intro h2 hs))))))
  clear h hb1 hx hq1 hnA hw0 hsv c1 d1 d2 hs0 h1 h2 hl hs hD
  obtain ⟨sv, hsv'⟩ : ∃ sv, stepV x1 = sv := ⟨_, rfl⟩
  have HSV := Lib.hid hsv'
  rw [hsv'] at H ⊢
  clear hsv'
  go_enter Tryz.func65, Tryz.ntmps65
  go_wp2_with fail
  go_region_held3 (fun w' => w'.cell? ⟨o, 1, none⟩ = some (.pointer (some ⟨d, 0, none⟩)) ∧ w'.cell? ⟨w.heap.size, 0, none⟩ = some (.int .i64 x0)) (first | exact HS.out | exact HS1.out | go_keep)
    (first | (go_at_call 72; refine KD.out.mono ?_; rintro e w2 ⟨r, bb, D1, rfl, hp, hS, hP⟩; have HS1 := Lib.hid (And.intro hS.1 hS.2.cells.1); have HP := Lib.hid (And.intro hp (And.intro hS hP)); clear hp hS hP))
  obtain ⟨A1, hq2, ht2⟩ := HP.out.2.2
  have hx2 : TaAt w2 w.heap.size (x0, x1, x2) := HP.out.2.1.2
  have hnA1 : ¬ A1 w.heap.size := fun hh => (ht2.sub _ hh).elim H.out.2.1.1 (fun h1 => by have := H.out.2.1.2.1; omega)
  obtain ⟨e0, e1, e2⟩ := hx2.cells
  simp only at e0 e1 e2
  have ec := HP.out.2.1.1
  have hlen : D1.length < 64 := by rw [HP.out.1.length_eq]; exact H.out.1
  have hno : ∀ z ∈ D1, z.2.2 ≠ x0 := fun z hz => by
    have := (List.mem_filter.1 (HP.out.1.mem_iff.1 hz)).2
    unfold notI at this
    simpa using this
  have KE : Hid (Calls Tryz.prog 74 #[.agg #[.int .i64 x0, .int .i64 x1, .int .i64 x2]] w2.drew fun e w' => e = .returned (.int .i64 (x2 + 4 * sv)) ∧ (w'.cell? ⟨o, 1, none⟩ = some (.pointer (some ⟨d, 0, none⟩)) ∧ w'.cell? ⟨w.heap.size, 0, none⟩ = some (.int .i64 x0) ∧ w'.cell? ⟨w.heap.size, 1, none⟩ = some (.int .i64 x1) ∧ w'.cell? ⟨w.heap.size, 2, none⟩ = some (.int .i64 x2)) ∧ Below w2.heap.size w2 w') := Lib.hid (by
    have K := udead_c x0 x1 x2 w2.drew H.out.2.2.2.2.1 H.out.2.2.2.2.2.1
    rw [HSV.out] at K
    refine K.mono ?_
    rintro e w' ⟨he, hb⟩
    have hb' : Below w2.heap.size w2 w' := (Below.refl _ w2).drew.trans hb
    have hk := hb'.block w.heap.size hx2.lt
    have hko := hb'.block o hq2.box.lt
    exact ⟨he, ⟨(cellq_of hko 1).trans ec, (cellq_of hk 0).trans e0, (cellq_of hk 1).trans e1, (cellq_of hk 2).trans e2⟩, hb'⟩)
  have KP : Hid (∀ w3, Below w2.heap.size w2 w3 → Calls Tryz.prog 73 #[.pointer (some ⟨d, 0, none⟩), .int .i64 x2, .int .i64 (x2 + 4 * sv), .int .i64 x0] w3 fun e w' => e = .returned (.int .i64 0) ∧ (w'.cell? ⟨o, 1, none⟩ = some (.pointer (some ⟨d, 0, none⟩)) ∧ w'.cell? ⟨w.heap.size, 0, none⟩ = some (.int .i64 x0) ∧ w'.cell? ⟨w.heap.size, 1, none⟩ = some (.int .i64 x1) ∧ w'.cell? ⟨w.heap.size, 2, none⟩ = some (.int .i64 x2)) ∧ PPost o A s d st base cur R (insT D1 (x2, x2 + 4 * sv, x0)) 16 w w') := Lib.hid (fun w3 hb => by
    obtain ⟨a1, a2, a3, a4, a5, a6, a7⟩ := H.out
    refine (p_put (x2, x2 + 4 * sv, x0) (hq2.below hb) (wf64_of (by simp only; omega) (by simp only; omega)) (wf64_of (by simp only; omega) (by simp only; omega)) a3 hno hlen (by omega)).mono ?_
    rintro e w' ⟨he, A2, hq3, ht3⟩
    have hk := (ht3.block w.heap.size (by have := hb.size; have := hx2.lt; omega) hnA1).trans (hb.block w.heap.size hx2.lt)
    exact ⟨he, ⟨hq3.box.cells.2, (cellq_of hk 0).trans e0, (cellq_of hk 1).trans e1, (cellq_of hk 2).trans e2⟩, A2, hq3.weak (by omega), a2.2.2.trans (ht2.trans ((hq2.self hb).trans ht3))⟩)
  have HZ := Lib.hid (And.intro ec (And.intro e0 (And.intro e1 e2)))
  have HPM : Hid ((insT D1 (x2, x2 + 4 * sv, x0)).Perm ((x2, x2 + 4 * sv, x0) :: D.filter (notI x0))) := Lib.hid ((insT_perm _ _).trans (HP.out.1.cons _))
  generalize insT D1 (x2, x2 + 4 * sv, x0) = D2 at *
  clear hq2 ht2 hx2 hnA1 e0 e1 e2 ec hlen hno KD HS HS1 HP
  go_wp2_with fail
  go_region_held3 (fun w' => w'.cell? ⟨o, 1, none⟩ = some (.pointer (some ⟨d, 0, none⟩)) ∧ w'.cell? ⟨w.heap.size, 0, none⟩ = some (.int .i64 x0) ∧ w'.cell? ⟨w.heap.size, 1, none⟩ = some (.int .i64 x1) ∧ w'.cell? ⟨w.heap.size, 2, none⟩ = some (.int .i64 x2)) (first | exact HZ.out | exact HZ1.out | exact HZ2.out | go_keep)
    (first
      | (go_at_call 74; refine KE.out.mono ?_; rintro e w3 ⟨rfl, hS, hb3⟩; have HZ1 := Lib.hid hS; have HB3 := Lib.hid hb3; clear hS hb3)
      | (go_at_call 73; refine (KP.out _ HB3.out).mono ?_; rintro e w4 ⟨rfl, hS, hP⟩; have HZ2 := Lib.hid hS; have HP4 := Lib.hid hP; clear hS hP))
  go_wp2_with fail
  go_end0
  exact ⟨rfl, D2, HPM.out, HP4.out⟩

theorem IsP.dwf (h : IsP w o A s d st base cur R D) {r : RI} (hr : r ∈ D) : wf64 r.1 ∧ wf64 r.2.1 ∧ wf64 r.2.2 := by
  obtain ⟨b, mp, mw, v, st1, L, b2, m2, v2, mp2, st2, h1, h2, h3, _⟩ := h
  exact h3.wfs hr
theorem not_less {r : RI} (hr : r ∈ D) (hD : D.length ≤ 64) : (D.filter (notI r.2.2)).length < 64 := by
  have h := (erase_permD (List.getElem?_of_mem hr).choose_spec).filter (notI r.2.2)
  have h2 := h.length_eq
  rw [List.filter_cons_of_neg (by unfold notI; simp)] at h2
  have h3 := List.length_filter_le (notI r.2.2) (D.eraseIdx (List.getElem?_of_mem hr).choose)
  have h4 := (erase_permD (List.getElem?_of_mem hr).choose_spec).length_eq
  rw [List.length_cons] at h4
  omega
theorem zero3 {W : World} {r : Nat} {t : TypeId} {a b c : Value} (h : W.heap[r]? = some (.cells #[a, b, c] t (0, 0))) :
    W.cell? ⟨r, 0, none⟩ = some a ∧ W.cell? ⟨r, 1, none⟩ = some b ∧ W.cell? ⟨r, 2, none⟩ = some c ∧ W.frozen? ⟨r, 0, none⟩ = false ∧ W.frozen? ⟨r, 1, none⟩ = false ∧ W.frozen? ⟨r, 2, none⟩ = false := by
  refine ⟨?_, ?_, ?_, ?_, ?_, ?_⟩ <;> simp [World.cell?, World.frozen?, h]
set_option maxRecDepth 100000 in
set_option maxHeartbeats 8000000 in
theorem umove_c (x0 x1 x2 k0 dd : Int) (w : World) (h : IsP w o A s d st base cur R D) (hr : (k0, dd, x0) ∈ D) (hx0 : 0 ≤ x0) (hx1 : x0 ≤ 1073741824) (h1 : -4000000000000000000 ≤ x2) (h2 : x2 ≤ 4000000000000000000) (hD : D.length ≤ 64) (hs : st < 100000000000000) :
    Calls Tryz.prog 184 #[.pointer (some ⟨o, 0, none⟩), .agg #[.int .i64 x0, .int .i64 x1, .int .i64 x2]] w fun e w' => e = .returned (.tuple #[]) ∧ ∃ D', D'.Perm ((x2, if dd ≤ x2 then x2 + 4 * stepV x1 else dd, x0) :: D.filter (notI x0)) ∧ PPost o A s d st base cur R D' 16 w w' := by
  obtain ⟨M, hM⟩ : ∃ M, (if dd ≤ x2 then x2 + 4 * stepV x1 else dd) = M := ⟨_, rfl⟩
  rw [hM]
  have HM := Lib.hid hM
  clear hM
  obtain ⟨w1, hw1⟩ : ∃ w1, w.alloc (.cells #[.int .i64 x0, .int .i64 x1, .int .i64 x2] 120) = w1 := ⟨_, rfl⟩
  have hb1 : Below w.heap.size w w1 := by rw [← hw1]; exact (Below.refl _ w).alloc (Nat.le_refl _) _
  have hx : TaAt w1 w.heap.size (x0, x1, x2) := by rw [← hw1]; exact heap_alloc_new w _
  have hq1 := h.below hb1
  have hwd := h.dwf hr
  have hfl := not_less hr hD
  simp only at hwd hfl
  obtain ⟨-, c1⟩ := hq1.box.cells
  obtain ⟨d0, d1, d2⟩ := hx.cells
  simp only at d0 d1 d2
  have hs0 : w.heap.size < w1.heap.size := hx.lt
  have HW : Hid (∀ W, Below w1.heap.size w1 W → ((W.cell? ⟨o, 1, none⟩ = some (.pointer (some ⟨d, 0, none⟩)) ∧ W.cell? ⟨w.heap.size, 0, none⟩ = some (.int .i64 x0) ∧ W.cell? ⟨w.heap.size, 1, none⟩ = some (.int .i64 x1) ∧ W.cell? ⟨w.heap.size, 2, none⟩ = some (.int .i64 x2)))) := Lib.hid (fun W hb' => by
    have hk := hb'.block w.heap.size hs0
    have hko := hb'.block o hq1.box.lt
    exact ⟨(cellq_of hko 1).trans c1, (cellq_of hk 0).trans d0, (cellq_of hk 1).trans d1, (cellq_of hk 2).trans d2⟩)
  have KG : Hid (∀ W, Below w1.heap.size w1 W → Calls Tryz.prog 82 #[.pointer (some ⟨d, 0, none⟩), .int .i64 x0] W fun e w' => e = .returned (.tuple #[.agg #[.int .i64 k0, .int .i64 dd, .int .i64 x0], .bool true]) ∧ Below W.heap.size W w' ∧ Below w1.heap.size w1 w') := Lib.hid (fun W hbW => by
    refine (p_readD (hq1.below hbW) (fun b m v mp st2 hd => dget_yes d b m 64 st2 D v mp (k0, dd, x0) W hd hr)).mono ?_
    rintro e w' ⟨he, hb⟩
    exact ⟨he, hb, hbW.trans (hb.mono hbW.size)⟩)
  have HB0 := Lib.hid (Below.refl w1.heap.size w1).drew
  have HBA := Lib.hid ((Below.refl w1.heap.size w1).alloc (Nat.le_refl _) (.cells #[.int .i64 0, .int .i64 0, .int .i64 0] 138)).drew
  have HS := Lib.hid (And.intro c1 (And.intro d0 (And.intro d1 d2)))
  have H := Lib.hid (And.intro h (And.intro hr (And.intro hb1 (And.intro hwd (And.intro hfl (And.intro h1 (And.intro h2 (And.intro hs (And.intro hx0 (And.intro hx1 hD))))))))))
  have HX := Lib.hid (And.intro hx hs0)
  clear h hr hb1 hx hq1 hwd hfl c1 d0 d1 d2 hs0 h1 h2 hs hx0 hx1 hD
  go_enter Tryz.func184, Tryz.ntmps184
  go_wp2_with fail
  go_region_held3 (fun w' => w'.cell? ⟨o, 1, none⟩ = some (.pointer (some ⟨d, 0, none⟩)) ∧ w'.cell? ⟨w.heap.size, 0, none⟩ = some (.int .i64 x0) ∧ w'.cell? ⟨w.heap.size, 1, none⟩ = some (.int .i64 x1) ∧ w'.cell? ⟨w.heap.size, 2, none⟩ = some (.int .i64 x2)) (first | exact HS.out | exact HW.out _ HB0.out | exact HW.out _ HBA.out | exact HW.out _ HB.out | exact HW.out _ (HB.out.alloc HB.out.size _) | exact HW.out _ (below_set3 HB.out (Nat.le_refl _) _ _ _))
    (first
      | (go_at_call 82; refine (KG.out _ HB0.out).mono ?_; rintro e w2 ⟨rfl, hb2, hb⟩; have HB2 := Lib.hid hb2; have HB := Lib.hid hb; clear hb2 hb)
      | (go_at_call 82; refine (KG.out _ HBA.out).mono ?_; rintro e w2 ⟨rfl, hb2, hb⟩
         have hz : w2.heap[w1.heap.size]? = some (.cells #[.int .i64 0, .int .i64 0, .int .i64 0] 138 (0, 0)) := (hb2.block _ (by show _ < (w1.alloc _).heap.size; simp)).trans (World.alloc_heap_new w1 _)
         obtain ⟨r0, r1, r2, f0, f1, f2⟩ := zero3 hz
         have HB2 := Lib.hid hz
         have HB := Lib.hid hb
         clear hb2 hb hz))
  · obtain ⟨w3, hw3⟩ : ∃ w3, w2.alloc (.cells #[.int .i64 k0, .int .i64 dd, .int .i64 x0] 138) = w3 := ⟨_, rfl⟩
    have hb3 : Below w1.heap.size w1 w3 := by rw [← hw3]; exact HB.out.alloc HB.out.size _
    have hi3 : BoxAt w3 w2.heap.size 138 #[.int .i64 k0, .int .i64 dd, .int .i64 x0] := by rw [← hw3]; exact heap_alloc_new w2 _
    have hbl : w1.heap.size ≤ w2.heap.size := HB.out.size
    rw [hw3]
    obtain ⟨bb, hbb⟩ : ∃ bb, w2.heap.size = bb := ⟨_, rfl⟩
    rw [hbb] at hi3 hbl ⊢
    have hx3 : TaAt w3 w.heap.size (x0, x1, x2) := (hb3.block _ HX.out.2).trans HX.out.1
    obtain ⟨d0, d1, d2⟩ := hx3.cells
    simp only at d0 d1 d2
    have f1 : w3.cell? ⟨bb, 1, none⟩ = some (.int .i64 dd) := BoxAt.cell hi3
    have hbw := H.out.2.2.1.trans (hb3.mono H.out.2.2.1.size)
    have hq3 := H.out.1.below hbw
    obtain ⟨-, c3⟩ := hq3.box.cells
    have hbl2 : w.heap.size < bb := by have := HX.out.2; omega
    by_cases hdd : dd ≤ x2
    · have K : Hid (Calls Tryz.prog 65 #[.pointer (some ⟨o, 0, none⟩), .agg #[.int .i64 x0, .int .i64 x1, .int .i64 x2]] w3 fun e w' => e = .returned (.tuple #[]) ∧ ∃ D', D'.Perm ((x2, M, x0) :: D.filter (notI x0)) ∧ PPost o A s d st base cur R D' 16 w w') := Lib.hid (by
        obtain ⟨h, hr, hb1, hwd, hfl, h1, h2, hs, hx0, hx1, hD⟩ := H.out
        refine (urenew_c x0 x1 x2 w3 hq3 hx0 hx1 h1 h2 hD hfl hs).mono ?_
        rintro e w' ⟨he, D', hp, hP⟩
        rw [← HM.out, if_pos hdd]
        exact ⟨he, D', hp, PPost.pre h hbw hP⟩)
      have hge : decide (dd ≤ x2) = true := decide_eq_true hdd
      clear hb3 hi3 hx3 hbw hq3 c3 hw3 HS HB HB2 HB0 HBA HW KG HX hdd hbl hbl2 hbb
      go_wp2_with fail
      refine K.out.mono ?_
      rintro e w4 ⟨rfl, hP⟩
      have HP := Lib.hid hP
      clear hP K
      go_wp2_with fail
      refine bodyPost_ret (results_none rfl _ _ _) rfl ?_
      exact ⟨rfl, HP.out⟩
    · have K : Hid (Calls Tryz.prog 188 #[.pointer (some ⟨d, 0, none⟩), .int .i64 x0, .int .i64 x2, .int .i64 dd] w3.drew fun e w' => e = .returned (.bool true) ∧ (w'.cell? ⟨o, 1, none⟩ = some (.pointer (some ⟨d, 0, none⟩)) ∧ w'.cell? ⟨w.heap.size, 0, none⟩ = some (.int .i64 x0) ∧ w'.cell? ⟨w.heap.size, 2, none⟩ = some (.int .i64 x2) ∧ w'.cell? ⟨bb, 1, none⟩ = some (.int .i64 dd)) ∧ ∃ D', D'.Perm ((x2, M, x0) :: D.filter (notI x0)) ∧ PPost o A s d st base cur R D' 16 w w') := Lib.hid (by
        obtain ⟨h, hr, hb1, hwd, hfl, h1, h2, hs, hx0, hx1, hD⟩ := H.out
        have hb3' : Below w.heap.size w w3.drew := hbw.drew
        refine (p_set (x2, dd, x0) (k0, dd, x0) (h.below hb3') hr rfl (wf64_of (by simp only; omega) (by simp only; omega)) hwd.2.1 hD (by omega)).mono ?_
        rintro e w' ⟨D', he, hp, A', hq, ht⟩
        rw [← HM.out, if_neg hdd]
        have hn1 : ¬ A w.heap.size := fun hh => by have := h.lt _ hh; omega
        have hn2 : ¬ A bb := fun hh => by have := h.lt _ hh; omega
        have hk := ht.block w.heap.size (show _ < w3.heap.size from hx3.lt) hn1
        have hk2 := ht.block bb (show _ < w3.heap.size from hi3.lt) hn2
        exact ⟨he, ⟨hq.box.cells.2, (cellq_of hk 0).trans d0, (cellq_of hk 2).trans d2, (cellq_of hk2 1).trans f1⟩, D', hp, A', hq, (h.self hb3').trans ht⟩)
      have hge : decide (dd ≤ x2) = false := decide_eq_false hdd
      have HS3 := Lib.hid (And.intro c3 (And.intro d0 (And.intro d2 f1)))
      clear hb3 hi3 hx3 hbw hq3 hw3 HS HB HB2 HB0 HBA HW KG HX hdd hbl hbl2 hbb
      go_wp2_with fail
      go_region_held3 (fun w' => w'.cell? ⟨o, 1, none⟩ = some (.pointer (some ⟨d, 0, none⟩)) ∧ w'.cell? ⟨w.heap.size, 0, none⟩ = some (.int .i64 x0) ∧ w'.cell? ⟨w.heap.size, 2, none⟩ = some (.int .i64 x2) ∧ w'.cell? ⟨bb, 1, none⟩ = some (.int .i64 dd)) (first | exact HS3.out | exact HZ1.out | go_keep)
        (first | (go_at_call 188; refine K.out.mono ?_; rintro e w4 ⟨rfl, hS, hP⟩; have HZ1 := Lib.hid hS; have HP := Lib.hid hP; clear hS hP))
      go_wp2_with fail
      go_end0
      exact ⟨rfl, HP.out⟩
  · obtain ⟨w3, hw3⟩ : ∃ w3, ((w2.setCell ⟨w1.heap.size, 0, none⟩ (.int .i64 k0)).setCell ⟨w1.heap.size, 1, none⟩ (.int .i64 dd)).setCell ⟨w1.heap.size, 2, none⟩ (.int .i64 x0) = w3 := ⟨_, rfl⟩
    have hb3 : Below w1.heap.size w1 w3 := by rw [← hw3]; exact below_set3 HB.out (Nat.le_refl _) _ _ _
    have hi3 : BoxAt w3 w1.heap.size 138 #[.int .i64 k0, .int .i64 dd, .int .i64 x0] := by rw [← hw3]; exact set3_same _ _ _ HB2.out
    have hbl : w1.heap.size ≤ w1.heap.size := Nat.le_refl _
    rw [hw3]
    obtain ⟨bb, hbb⟩ : ∃ bb, w1.heap.size = bb := ⟨_, rfl⟩
    clear r0 r1 r2 f0 f1 f2
    rw [hbb] at hi3 hbl ⊢
    have hx3 : TaAt w3 w.heap.size (x0, x1, x2) := (hb3.block _ HX.out.2).trans HX.out.1
    obtain ⟨d0, d1, d2⟩ := hx3.cells
    simp only at d0 d1 d2
    have f1 : w3.cell? ⟨bb, 1, none⟩ = some (.int .i64 dd) := BoxAt.cell hi3
    have hbw := H.out.2.2.1.trans (hb3.mono H.out.2.2.1.size)
    have hq3 := H.out.1.below hbw
    obtain ⟨-, c3⟩ := hq3.box.cells
    have hbl2 : w.heap.size < bb := by have := HX.out.2; omega
    by_cases hdd : dd ≤ x2
    · have K : Hid (Calls Tryz.prog 65 #[.pointer (some ⟨o, 0, none⟩), .agg #[.int .i64 x0, .int .i64 x1, .int .i64 x2]] w3 fun e w' => e = .returned (.tuple #[]) ∧ ∃ D', D'.Perm ((x2, M, x0) :: D.filter (notI x0)) ∧ PPost o A s d st base cur R D' 16 w w') := Lib.hid (by
        obtain ⟨h, hr, hb1, hwd, hfl, h1, h2, hs, hx0, hx1, hD⟩ := H.out
        refine (urenew_c x0 x1 x2 w3 hq3 hx0 hx1 h1 h2 hD hfl hs).mono ?_
        rintro e w' ⟨he, D', hp, hP⟩
        rw [← HM.out, if_pos hdd]
        exact ⟨he, D', hp, PPost.pre h hbw hP⟩)
      have hge : decide (dd ≤ x2) = true := decide_eq_true hdd
      clear hb3 hi3 hx3 hbw hq3 c3 hw3 HS HB HB2 HB0 HBA HW KG HX hdd hbl hbl2 hbb
      go_wp2_with fail
      refine K.out.mono ?_
      rintro e w4 ⟨rfl, hP⟩
      have HP := Lib.hid hP
      clear hP K
      go_wp2_with fail
      refine bodyPost_ret (results_none rfl _ _ _) rfl ?_
      exact ⟨rfl, HP.out⟩
    · have K : Hid (Calls Tryz.prog 188 #[.pointer (some ⟨d, 0, none⟩), .int .i64 x0, .int .i64 x2, .int .i64 dd] w3.drew fun e w' => e = .returned (.bool true) ∧ (w'.cell? ⟨o, 1, none⟩ = some (.pointer (some ⟨d, 0, none⟩)) ∧ w'.cell? ⟨w.heap.size, 0, none⟩ = some (.int .i64 x0) ∧ w'.cell? ⟨w.heap.size, 2, none⟩ = some (.int .i64 x2) ∧ w'.cell? ⟨bb, 1, none⟩ = some (.int .i64 dd)) ∧ ∃ D', D'.Perm ((x2, M, x0) :: D.filter (notI x0)) ∧ PPost o A s d st base cur R D' 16 w w') := Lib.hid (by
        obtain ⟨h, hr, hb1, hwd, hfl, h1, h2, hs, hx0, hx1, hD⟩ := H.out
        have hb3' : Below w.heap.size w w3.drew := hbw.drew
        refine (p_set (x2, dd, x0) (k0, dd, x0) (h.below hb3') hr rfl (wf64_of (by simp only; omega) (by simp only; omega)) hwd.2.1 hD (by omega)).mono ?_
        rintro e w' ⟨D', he, hp, A', hq, ht⟩
        rw [← HM.out, if_neg hdd]
        have hn1 : ¬ A w.heap.size := fun hh => by have := h.lt _ hh; omega
        have hn2 : ¬ A bb := fun hh => by have := h.lt _ hh; omega
        have hk := ht.block w.heap.size (show _ < w3.heap.size from hx3.lt) hn1
        have hk2 := ht.block bb (show _ < w3.heap.size from hi3.lt) hn2
        exact ⟨he, ⟨hq.box.cells.2, (cellq_of hk 0).trans d0, (cellq_of hk 2).trans d2, (cellq_of hk2 1).trans f1⟩, D', hp, A', hq, (h.self hb3').trans ht⟩)
      have hge : decide (dd ≤ x2) = false := decide_eq_false hdd
      have HS3 := Lib.hid (And.intro c3 (And.intro d0 (And.intro d2 f1)))
      clear hb3 hi3 hx3 hbw hq3 hw3 HS HB HB2 HB0 HBA HW KG HX hdd hbl hbl2 hbb
      go_wp2_with fail
      go_region_held3 (fun w' => w'.cell? ⟨o, 1, none⟩ = some (.pointer (some ⟨d, 0, none⟩)) ∧ w'.cell? ⟨w.heap.size, 0, none⟩ = some (.int .i64 x0) ∧ w'.cell? ⟨w.heap.size, 2, none⟩ = some (.int .i64 x2) ∧ w'.cell? ⟨bb, 1, none⟩ = some (.int .i64 dd)) (first | exact HS3.out | exact HZ1.out | go_keep)
        (first | (go_at_call 188; refine K.out.mono ?_; rintro e w4 ⟨rfl, hS, hP⟩; have HZ1 := Lib.hid hS; have HP := Lib.hid hP; clear hS hP))
      go_wp2_with fail
      go_end0
      exact ⟨rfl, HP.out⟩
end
end Go.Proofs.YtandmngfajoinaaGreat
