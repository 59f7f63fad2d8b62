/- Tasks as a list in the order of their numbers (number, weight, point); what the queue's list and its map of weights hold of it. Plain theory. -/
import Derived.Test.YtandmngfajoinaaGreatOl
import Derived.Test.YtandmngfajoinaaGreatYe
namespace Go.Proofs.YtandmngfajoinaaGreat
open Go.RowKit Go.Maps

def AscR (R : List RI) : Prop := R.Pairwise (fun a b => a.1 < b.1)
/-- Points with their numbers; weights with theirs. -/
def pL (R : List RI) : List QI := R.map (fun r => (r.2.2, r.1))
def wL (R : List RI) : List QI := R.map (fun r => (r.2.1, r.1))
def hasI (R : List RI) (id : Int) : Bool := R.any (fun r => decide (r.1 = id))
def getI (R : List RI) (id : Int) : RI := (R.find? (fun r => decide (r.1 = id))).getD (0, 0, 0)
def insR : List RI → RI → List RI
  | [], x => [x]
  | y :: ys, x => if y.1 < x.1 then y :: insR ys x else x :: y :: ys
def delI (R : List RI) (id : Int) : List RI := R.filter (fun r => !decide (r.1 = id))
def wgtI (R : List RI) (id n : Int) : List RI := R.map (fun r => if r.1 = id then (r.1, n, r.2.2) else r)
def chgI (R : List RI) (id v : Int) : List RI := R.map (fun r => if r.1 = id then (r.1, r.2.1, v) else r)
def formL (base : Int) (R : List RI) : List RI := R.map (fun r => (r.1, r.2.1, base - r.2.2))

theorem hasI_iff {R : List RI} {id : Int} : hasI R id = true ↔ ∃ r ∈ R, r.1 = id := by unfold hasI; simp
theorem hasI_no {R : List RI} {id : Int} : hasI R id = false ↔ ∀ r ∈ R, r.1 ≠ id := by unfold hasI; simp
theorem AscR.uniq {R : List RI} (h : AscR R) {a b : RI} (ha : a ∈ R) (hb : b ∈ R) (he : a.1 = b.1) : a = b := by
  induction R with
  | nil => simp at ha
  | cons y ys ih =>
    obtain ⟨h1, h2⟩ := List.pairwise_cons.1 h
    rcases List.mem_cons.1 ha with ea | ha' <;> rcases List.mem_cons.1 hb with eb | hb'
    · rw [ea, eb]
    · rw [ea] at he; have := h1 b hb'; omega
    · rw [eb] at he; have := h1 a ha'; omega
    · exact ih h2 ha' hb'
theorem getI_of {R : List RI} (h : AscR R) {r : RI} (hr : r ∈ R) : getI R r.1 = r := by
  unfold getI
  cases hf : R.find? (fun z => decide (z.1 = r.1)) with
  | none => exact absurd (List.find?_eq_none.1 hf r hr) (by simp)
  | some y =>
    have h1 : y.1 = r.1 := by simpa using List.find?_some hf
    exact h.uniq (List.mem_of_find?_eq_some hf) hr h1
theorem getI_mem {R : List RI} {id : Int} (h : hasI R id = true) : getI R id ∈ R ∧ (getI R id).1 = id := by
  unfold getI
  cases hf : R.find? (fun z => decide (z.1 = id)) with
  | none =>
    obtain ⟨r, hr, he⟩ := hasI_iff.1 h
    exact absurd (List.find?_eq_none.1 hf r hr) (by simp [he])
  | some y => exact ⟨List.mem_of_find?_eq_some hf, by simpa using List.find?_some hf⟩

theorem mem_insR {R : List RI} {x z : RI} : z ∈ insR R x ↔ z = x ∨ z ∈ R := by
  induction R with
  | nil => simp [insR]
  | cons y ys ih =>
    unfold insR
    split
    · simp only [List.mem_cons, ih]
      constructor
      · rintro (h | h | h)
        · exact .inr (.inl h)
        · exact .inl h
        · exact .inr (.inr h)
      · rintro (h | h | h)
        · exact .inr (.inl h)
        · exact .inl h
        · exact .inr (.inr h)
    · simp only [List.mem_cons]
theorem insR_perm (R : List RI) (x : RI) : (insR R x).Perm (x :: R) := by
  induction R with
  | nil => exact List.Perm.refl _
  | cons y ys ih =>
    unfold insR
    split
    · exact (ih.cons y).trans (List.Perm.swap x y ys)
    · exact List.Perm.refl _
theorem length_insR (R : List RI) (x : RI) : (insR R x).length = R.length + 1 := (insR_perm R x).length_eq
theorem AscR.ins {R : List RI} {x : RI} (h : AscR R) (hx : hasI R x.1 = false) : AscR (insR R x) := by
  induction R with
  | nil => exact List.pairwise_singleton _ _
  | cons y ys ih =>
    obtain ⟨h1, h2⟩ := List.pairwise_cons.1 h
    have hn := hasI_no.1 hx
    have hy := hn y (by simp)
    unfold insR
    split
    · rename_i hb
      refine List.pairwise_cons.2 ⟨fun z hz => ?_, ih h2 (hasI_no.2 fun r hr => hn r (by simp [hr]))⟩
      rcases mem_insR.1 hz with rfl | hz
      · exact hb
      · exact h1 z hz
    · rename_i hb
      refine List.pairwise_cons.2 ⟨fun z hz => ?_, h⟩
      rcases List.mem_cons.1 hz with rfl | hz
      · omega
      · have := h1 z hz; omega
theorem insL_perm (L : List QI) (x : QI) : (insL L x).Perm (x :: L) := by
  induction L with
  | nil => exact List.Perm.refl _
  | cons y ys ih =>
    unfold insL
    split
    · exact (ih.cons y).trans (List.Perm.swap x y ys)
    · exact List.Perm.refl _
theorem AscR.del {R : List RI} (h : AscR R) (id : Int) : AscR (delI R id) := List.Pairwise.sublist List.filter_sublist h
theorem mem_delI {R : List RI} {id : Int} {z : RI} : z ∈ delI R id ↔ z ∈ R ∧ z.1 ≠ id := by unfold delI; simp
theorem delI_no {R : List RI} {id : Int} (h : ∀ r ∈ R, r.1 ≠ id) : delI R id = R := by
  unfold delI
  exact List.filter_eq_self.2 (fun r hr => by simp [h r hr])
theorem delI_perm {R : List RI} (h : AscR R) {r : RI} (hr : r ∈ R) : R.Perm (r :: delI R r.1) := by
  induction R with
  | nil => simp at hr
  | cons y ys ih =>
    obtain ⟨h1, h2⟩ := List.pairwise_cons.1 h
    rcases List.mem_cons.1 hr with rfl | hr'
    · have e : delI (r :: ys) r.1 = ys := by
        have : delI (r :: ys) r.1 = delI ys r.1 := by unfold delI; simp
        rw [this]
        exact delI_no (fun z hz => by have := h1 z hz; omega)
      rw [e]
    · have hne : y.1 ≠ r.1 := by have := h1 r hr'; omega
      have e : delI (y :: ys) r.1 = y :: delI ys r.1 := by unfold delI; simp [hne]
      rw [e]
      exact ((ih h2 hr').cons y).trans (List.Perm.swap r y _)
theorem length_delI {R : List RI} (h : AscR R) {r : RI} (hr : r ∈ R) : (delI R r.1).length + 1 = R.length := by
  have := (delI_perm h hr).length_eq
  simpa using this.symm
theorem asc_map {R : List RI} (h : AscR R) {f : RI → RI} (hf : ∀ r, (f r).1 = r.1) : AscR (R.map f) := by
  unfold AscR
  rw [List.pairwise_map]
  exact h.imp (fun {a b} hab => by rw [hf, hf]; exact hab)
theorem wgt_id (id n : Int) (r : RI) : (if r.1 = id then ((r.1, n, r.2.2) : RI) else r).1 = r.1 := by split <;> rfl
theorem chg_id (id v : Int) (r : RI) : (if r.1 = id then ((r.1, r.2.1, v) : RI) else r).1 = r.1 := by split <;> rfl
theorem AscR.wgt {R : List RI} (h : AscR R) (id n : Int) : AscR (wgtI R id n) := asc_map h (wgt_id id n)
theorem AscR.chg {R : List RI} (h : AscR R) (id v : Int) : AscR (chgI R id v) := asc_map h (chg_id id v)
theorem has_map {R : List RI} {f : RI → RI} (hf : ∀ r, (f r).1 = r.1) (id : Int) : hasI (R.map f) id = hasI R id := by
  unfold hasI
  rw [List.any_map]
  congr 1
  funext r
  simp [hf]
theorem has_wgt (R : List RI) (i n id : Int) : hasI (wgtI R i n) id = hasI R id := has_map (wgt_id i n) id
theorem has_chg (R : List RI) (i v id : Int) : hasI (chgI R i v) id = hasI R id := has_map (chg_id i v) id
theorem has_ins (R : List RI) (x : RI) (id : Int) : hasI (insR R x) id = (decide (x.1 = id) || hasI R id) := by
  rw [Bool.eq_iff_iff]
  simp only [hasI_iff, Bool.or_eq_true, decide_eq_true_eq]
  constructor
  · rintro ⟨r, hr, he⟩
    rcases mem_insR.1 hr with rfl | hr
    · exact .inl he
    · exact .inr ⟨r, hr, he⟩
  · rintro (he | ⟨r, hr, he⟩)
    · exact ⟨x, mem_insR.2 (.inl rfl), he⟩
    · exact ⟨r, mem_insR.2 (.inr hr), he⟩
theorem has_del (R : List RI) (i id : Int) : hasI (delI R i) id = (hasI R id && !decide (id = i)) := by
  rw [Bool.eq_iff_iff]
  simp only [hasI_iff, Bool.and_eq_true, Bool.not_eq_true', decide_eq_false_iff_not]
  constructor
  · rintro ⟨r, hr, rfl⟩
    obtain ⟨h1, h2⟩ := mem_delI.1 hr
    exact ⟨⟨r, h1, rfl⟩, h2⟩
  · rintro ⟨⟨r, hr, rfl⟩, h⟩
    exact ⟨r, mem_delI.2 ⟨hr, h⟩, rfl⟩
theorem pL_wgt (R : List RI) (id n : Int) : pL (wgtI R id n) = pL R := by
  unfold pL wgtI
  rw [List.map_map]
  refine List.map_congr_left (fun r _ => ?_)
  simp only [Function.comp]
  split <;> rfl
theorem wL_chg (R : List RI) (id v : Int) : wL (chgI R id v) = wL R := by
  unfold wL chgI
  rw [List.map_map]
  refine List.map_congr_left (fun r _ => ?_)
  simp only [Function.comp]
  split <;> rfl
theorem wL_wgt (R : List RI) (id n : Int) : wL (wgtI R id n) = (wL R).map (fun x => if x.2 = id then (n, x.2) else x) := by
  unfold wL wgtI
  rw [List.map_map, List.map_map]
  refine List.map_congr_left (fun r _ => ?_)
  simp only [Function.comp]
  by_cases h : r.1 = id <;> simp [h]
theorem delI_chg (R : List RI) (id v : Int) : delI (chgI R id v) id = delI R id := by
  induction R with
  | nil => rfl
  | cons y ys ih =>
    unfold chgI delI at *
    rw [List.map_cons, List.filter_cons, List.filter_cons]
    by_cases h : y.1 = id <;> simp [h] <;> exact ih
theorem mem_chg {R : List RI} {id v : Int} {z : RI} (hz : z ∈ chgI R id v) : (∃ r ∈ R, r.1 = id ∧ z = (id, r.2.1, v)) ∨ (z ∈ R ∧ z.1 ≠ id) := by
  unfold chgI at hz
  obtain ⟨r, hr, rfl⟩ := List.mem_map.1 hz
  by_cases h : r.1 = id
  · rw [if_pos h]; exact .inl ⟨r, hr, h, by rw [h]⟩
  · rw [if_neg h]; exact .inr ⟨hr, h⟩
theorem mem_wgt {R : List RI} {id n : Int} {z : RI} (hz : z ∈ wgtI R id n) : (∃ r ∈ R, r.1 = id ∧ z = (id, n, r.2.2)) ∨ (z ∈ R ∧ z.1 ≠ id) := by
  unfold wgtI at hz
  obtain ⟨r, hr, rfl⟩ := List.mem_map.1 hz
  by_cases h : r.1 = id
  · rw [if_pos h]; exact .inl ⟨r, hr, h, by rw [h]⟩
  · rw [if_neg h]; exact .inr ⟨hr, h⟩
theorem length_chg (R : List RI) (id v : Int) : (chgI R id v).length = R.length := by unfold chgI; simp
theorem length_wgt (R : List RI) (id n : Int) : (wgtI R id n).length = R.length := by unfold wgtI; simp

/-! The queue's list -/
theorem pL_ins (R : List RI) (x : RI) : (pL (insR R x)).Perm ((x.2.2, x.1) :: pL R) := (insR_perm R x).map _
theorem wL_ins (R : List RI) (x : RI) : (wL (insR R x)).Perm ((x.2.1, x.1) :: wL R) := (insR_perm R x).map _
theorem pL_del {R : List RI} (h : AscR R) {r : RI} (hr : r ∈ R) : (pL R).Perm ((r.2.2, r.1) :: pL (delI R r.1)) := (delI_perm h hr).map _
theorem wL_del {R : List RI} (h : AscR R) {r : RI} (hr : r ∈ R) : (wL R).Perm ((r.2.1, r.1) :: wL (delI R r.1)) := (delI_perm h hr).map _
theorem mem_pL {R : List RI} {x : QI} : x ∈ pL R ↔ ∃ r ∈ R, r.2.2 = x.1 ∧ r.1 = x.2 := by
  unfold pL
  rw [List.mem_map]
  constructor
  · rintro ⟨r, hr, rfl⟩; exact ⟨r, hr, rfl, rfl⟩
  · rintro ⟨r, hr, h1, h2⟩; exact ⟨r, hr, by rw [h1, h2]⟩
theorem mem_wL {R : List RI} {x : QI} : x ∈ wL R ↔ ∃ r ∈ R, r.2.1 = x.1 ∧ r.1 = x.2 := by
  unfold wL
  rw [List.mem_map]
  constructor
  · rintro ⟨r, hr, rfl⟩; exact ⟨r, hr, rfl, rfl⟩
  · rintro ⟨r, hr, h1, h2⟩; exact ⟨r, hr, by rw [h1, h2]⟩
theorem erase_perm {L : List QI} {i : Nat} {x : QI} (hi : L[i]? = some x) : L.Perm (x :: L.eraseIdx i) := by
  induction L generalizing i with
  | nil => simp at hi
  | cons y ys ih =>
    cases i with
    | zero => simp at hi; subst hi; exact List.Perm.refl _
    | succ i => exact ((ih (by simpa using hi)).cons y).trans (List.Perm.swap x y _)
theorem perm_key {L : List QI} {R : List RI} (hp : L.Perm (pL R)) (hd : Dist L) (_ha : AscR R) (id : Int) : keyV L id = if hasI R id = true then ((getI R id).2.2, true) else (0, false) := by
  cases h : hasI R id with
  | true =>
    obtain ⟨h1, h2⟩ := getI_mem h
    have hm : ((getI R id).2.2, (getI R id).1) ∈ L := hp.mem_iff.2 (mem_pL.2 ⟨_, h1, rfl, rfl⟩)
    have := keyV_yes hd hm
    simp only [h2] at this
    rw [this, if_pos rfl]
  | false =>
    rw [if_neg (by decide)]
    refine keyV_no (fun z hz he => ?_)
    obtain ⟨r, hr, _, h2⟩ := mem_pL.1 (hp.mem_iff.1 hz)
    exact hasI_no.1 h r hr (h2.trans he)
theorem perm_at {L : List QI} {R : List RI} (hp : L.Perm (pL R)) {r : RI} (hr : r ∈ R) : ∃ i : Nat, L[i]? = some (r.2.2, r.1) :=
  List.mem_iff_getElem?.1 (hp.mem_iff.2 (mem_pL.2 ⟨r, hr, rfl, rfl⟩))
theorem perm_ins {L : List QI} {R : List RI} (hp : L.Perm (pL R)) (x : RI) : (insL L (x.2.2, x.1)).Perm (pL (insR R x)) :=
  ((insL_perm L _).trans (hp.cons _)).trans (pL_ins R x).symm
theorem perm_del {L : List QI} {R : List RI} (hp : L.Perm (pL R)) (ha : AscR R) {r : RI} (hr : r ∈ R) {i : Nat} (hi : L[i]? = some (r.2.2, r.1)) : (L.eraseIdx i).Perm (pL (delI R r.1)) :=
  List.Perm.cons_inv (((erase_perm hi).symm.trans hp).trans (pL_del ha hr))
theorem chg_mem {R : List RI} {r : RI} (hr : r ∈ R) (v : Int) : (r.1, r.2.1, v) ∈ chgI R r.1 v := by
  unfold chgI
  exact List.mem_map.2 ⟨r, hr, if_pos rfl⟩
theorem perm_chg {L : List QI} {R : List RI} (hp : L.Perm (pL R)) (ha : AscR R) {r : RI} (hr : r ∈ R) {i : Nat} (hi : L[i]? = some (r.2.2, r.1)) (v : Int) : (insL (L.eraseIdx i) (v, r.1)).Perm (pL (chgI R r.1 v)) := by
  have h1 := (insL_perm (L.eraseIdx i) (v, r.1)).trans ((perm_del hp ha hr hi).cons _)
  have h2 := pL_del (ha.chg r.1 v) (chg_mem hr v)
  rw [delI_chg] at h2
  exact h1.trans h2.symm

/-! Who is least -/
def lessQ (m y : QI) : QI := if befQ y m then y else m
def leastQ : List QI → QI
  | [] => (0, 0)
  | x :: xs => xs.foldl lessQ x
def minR (R : List RI) : QI := leastQ (pL R)
theorem befQ_irrefl (x : QI) : befQ x x = false := by unfold befQ; simp
theorem fold_mem (xs : List QI) (x : QI) : xs.foldl lessQ x ∈ x :: xs := by
  induction xs generalizing x with
  | nil => simp
  | cons y ys ih =>
    rw [List.foldl_cons]
    have := ih (lessQ x y)
    rcases List.mem_cons.1 this with h | h
    · rw [h]; unfold lessQ; split <;> simp
    · simp [h]
theorem bef_no {a b : QI} : befQ a b = false ↔ ¬ (a.1 < b.1 ∨ (a.1 = b.1 ∧ a.2 < b.2)) := by unfold befQ; simp
theorem bef_yes {a b : QI} : befQ a b = true ↔ (a.1 < b.1 ∨ (a.1 = b.1 ∧ a.2 < b.2)) := by unfold befQ; simp
theorem fold_least (xs : List QI) (x : QI) : ∀ y ∈ x :: xs, befQ y (xs.foldl lessQ x) = false := by
  induction xs generalizing x with
  | nil => intro y hy; simp at hy; subst hy; exact befQ_irrefl _
  | cons z zs ih =>
    intro y hy
    rw [List.foldl_cons]
    have hm := ih (lessQ x z) (lessQ x z) (by simp)
    have hx : befQ x (lessQ x z) = false ∨ True := .inr trivial
    rcases List.mem_cons.1 hy with rfl | hy
    · rw [bef_no] at hm ⊢
      unfold lessQ at hm
      split at hm
      · rename_i h
        rw [bef_yes] at h
        unfold lessQ
        rw [if_pos (bef_yes.2 h)]
        omega
      · rename_i h
        unfold lessQ
        rw [if_neg h]
        exact hm
    · rcases List.mem_cons.1 hy with rfl | hy
      · rw [bef_no] at hm ⊢
        unfold lessQ at hm
        split at hm
        · rename_i h
          unfold lessQ
          rw [if_pos h]
          exact hm
        · rename_i h
          have h' : befQ y x = false := by simpa using h
          rw [bef_no] at h'
          unfold lessQ
          rw [if_neg h]
          omega
      · exact ih _ y (by simp [hy])
theorem leastQ_mem {l : List QI} (h : l ≠ []) : leastQ l ∈ l := by
  cases l with
  | nil => exact absurd rfl h
  | cons x xs => exact fold_mem xs x
theorem leastQ_least {l : List QI} {y : QI} (h : y ∈ l) : befQ y (leastQ l) = false := by
  cases l with
  | nil => simp at h
  | cons x xs => exact fold_least xs x y h
theorem minR_mem {R : List RI} (h : R ≠ []) : ∃ r ∈ R, r.2.2 = (minR R).1 ∧ r.1 = (minR R).2 :=
  mem_pL.1 (leastQ_mem (by unfold pL; simpa using h))
theorem minR_le {R : List RI} {r : RI} (h : r ∈ R) : (minR R).1 < r.2.2 ∨ ((minR R).1 = r.2.2 ∧ (minR R).2 ≤ r.1) := by
  have := leastQ_least (mem_pL.2 ⟨r, h, rfl, rfl⟩ : ((r.2.2, r.1) : QI) ∈ pL R)
  rw [bef_no] at this
  unfold minR
  simp only at this
  omega
theorem minR_eq {R : List RI} {x : QI} (hm : ∃ r ∈ R, r.2.2 = x.1 ∧ r.1 = x.2) (hl : ∀ r ∈ R, x.1 < r.2.2 ∨ (x.1 = r.2.2 ∧ x.2 ≤ r.1)) : minR R = x := by
  obtain ⟨r, hr, h1, h2⟩ := hm
  obtain ⟨q, hq, h3, h4⟩ := minR_mem (List.ne_nil_of_mem hr)
  have h5 := minR_le hr
  have h6 := hl q hq
  refine Prod.ext ?_ ?_ <;> omega
theorem perm_min {L : List QI} {R : List RI} (hp : L.Perm (pL R)) (ho : Ord L) : minV L = if R = [] then ((0, 0), false) else (minR R, true) := by
  cases L with
  | nil =>
    have : pL R = [] := hp.nil_eq.symm
    have hR : R = [] := by unfold pL at this; simpa using this
    rw [if_pos hR]; rfl
  | cons x xs =>
    have hR : R ≠ [] := by
      rintro rfl
      exact absurd hp.length_eq (by simp [pL])
    rw [if_neg hR]
    have : minR R = x := minR_eq (mem_pL.1 (hp.mem_iff.1 (by simp))) (fun r hr => by
      have hm : ((r.2.2, r.1) : QI) ∈ x :: xs := hp.mem_iff.2 (mem_pL.2 ⟨r, hr, rfl, rfl⟩)
      rcases List.mem_cons.1 hm with h | h
      · rw [← h]; exact .inr ⟨rfl, Int.le_refl _⟩
      · have := bef_yes.1 ((List.pairwise_cons.1 ho).1 _ h)
        simp only at this
        omega)
    rw [this]; rfl
theorem perm_len {L : List QI} {R : List RI} (hp : L.Perm (pL R)) : L.length = R.length := by rw [hp.length_eq]; unfold pL; simp

/-- The base behind a call that lets it follow the least point. -/
def raiseM (base : Int) (R : List RI) : Int := if R = [] then base else max base (minR R).1
theorem raiseM_ge (base : Int) (R : List RI) : base ≤ raiseM base R := by unfold raiseM; split <;> omega
def Low (base : Int) (R : List RI) : Prop := R ≠ [] → (minR R).1 ≤ base
theorem low_raise (base : Int) (R : List RI) : Low (raiseM base R) R := by intro h; unfold raiseM; rw [if_neg h]; omega
theorem raise_low {base : Int} {R : List RI} (h : Low base R) : raiseM base R = base := by
  unfold raiseM
  split
  · rfl
  · rename_i hn; have := h hn; omega
theorem low_nil (base : Int) : Low base [] := fun h => absurd rfl h

/-- The tasks, the base, who runs: what may be. -/
structure WfS (base cur : Int) (R : List RI) : Prop where
  asc : AscR R
  len : R.length ≤ 64
  each : ∀ r ∈ R, 0 ≤ r.1 ∧ r.1 ≤ 1073741824 ∧ 1 ≤ r.2.1 ∧ r.2.1 ≤ 20 ∧ -4000000000000000000 ≤ r.2.2 ∧ r.2.2 ≤ 4000000000000000000
  lo : -4000000000000000000 ≤ base
  hi : base ≤ 4000000000000000000
  cur : cur = -1 ∨ hasI R cur = true
theorem WfS.wf {base cur : Int} {R : List RI} (h : WfS base cur R) (c : Int) (hc : c = -1 ∨ hasI R c = true) : WfS base c R := ⟨h.asc, h.len, h.each, h.lo, h.hi, hc⟩
theorem WfS.base {base cur b' : Int} {R : List RI} (h : WfS base cur R) (h1 : -4000000000000000000 ≤ b') (h2 : b' ≤ 4000000000000000000) : WfS b' cur R := ⟨h.asc, h.len, h.each, h1, h2, h.cur⟩
theorem WfS.raise {base cur : Int} {R : List RI} (h : WfS base cur R) : WfS (raiseM base R) cur R := by
  refine h.base (by have := raiseM_ge base R; have := h.lo; omega) ?_
  unfold raiseM
  split
  · exact h.hi
  · rename_i hn
    obtain ⟨r, hr, h1, _⟩ := minR_mem hn
    have := h.each r hr
    have := h.hi
    omega
theorem WfS.ins {base cur : Int} {R : List RI} (h : WfS base cur R) {x : RI} (hx : hasI R x.1 = false) (hl : R.length < 64) (he : 0 ≤ x.1 ∧ x.1 ≤ 1073741824 ∧ 1 ≤ x.2.1 ∧ x.2.1 ≤ 20 ∧ -4000000000000000000 ≤ x.2.2 ∧ x.2.2 ≤ 4000000000000000000) : WfS base cur (insR R x) :=
  ⟨h.asc.ins hx, by rw [length_insR]; omega, fun r hr => by
    rcases mem_insR.1 hr with rfl | hr
    · exact he
    · exact h.each r hr, h.lo, h.hi, h.cur.imp id (fun hc => by rw [has_ins, hc, Bool.or_true])⟩
theorem WfS.del {base cur : Int} {R : List RI} (h : WfS base cur R) (id : Int) : WfS base (if cur = id then -1 else cur) (delI R id) :=
  ⟨h.asc.del id, Nat.le_trans (List.length_filter_le _ _) h.len, fun r hr => h.each r (mem_delI.1 hr).1, h.lo, h.hi, by
    split
    · exact .inl rfl
    · rename_i hn
      refine h.cur.imp (fun h => h) (fun hc => ?_)
      rw [has_del, hc]; simp [hn]⟩
theorem WfS.wgt {base cur : Int} {R : List RI} (h : WfS base cur R) (id n : Int) (h1 : 1 ≤ n) (h2 : n ≤ 20) : WfS base cur (wgtI R id n) :=
  ⟨h.asc.wgt id n, by rw [length_wgt]; exact h.len, fun r hr => by
    rcases mem_wgt hr with ⟨q, hq, he, rfl⟩ | ⟨hr, _⟩
    · have := h.each q hq; simp only; omega
    · exact h.each r hr, h.lo, h.hi, h.cur.imp (fun h => h) (fun hc => by rw [has_wgt, hc])⟩
theorem WfS.chg {base cur : Int} {R : List RI} (h : WfS base cur R) (id v : Int) (h1 : -4000000000000000000 ≤ v) (h2 : v ≤ 4000000000000000000) : WfS base cur (chgI R id v) :=
  ⟨h.asc.chg id v, by rw [length_chg]; exact h.len, fun r hr => by
    rcases mem_chg hr with ⟨q, hq, he, rfl⟩ | ⟨hr, _⟩
    · have := h.each q hq; simp only; omega
    · exact h.each r hr, h.lo, h.hi, h.cur.imp (fun h => h) (fun hc => by rw [has_chg, hc])⟩
end Go.Proofs.YtandmngfajoinaaGreat
