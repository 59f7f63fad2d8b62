/- Plain theory of Go's stable sort (slices.SortStableFunc): what swapRange, rotate and symMerge do to a row. No program is named here. -/
import Derived.Sort.LotA
import Derived.Sort.WalkA
namespace Go.Proofs.Ytaeondpeaabfeaa
open Go.Sort
section
variable {α : Type}

/-- d with [a, a + n) and [b, b + n) exchanged. -/
def swF (d : Nat → α) (a b n : Nat) (k : Nat) : α := if a ≤ k ∧ k < a + n then d (k + (b - a)) else if b ≤ k ∧ k < b + n then d (k - (b - a)) else d k
/-- d with [a, m) and [m, b) exchanged. -/
def rotF (d : Nat → α) (a m b : Nat) (k : Nat) : α := if a ≤ k ∧ k < a + (b - m) then d (k + (m - a)) else if a + (b - m) ≤ k ∧ k < b then d (k - (b - m)) else d k

theorem swF_zero (d : Nat → α) (a b k : Nat) : swF d a b 0 k = d k := by
  unfold swF; rw [if_neg (by omega), if_neg (by omega)]
theorem congr_at (d : Nat → α) {i j : Nat} (h : i = j) : d i = d j := by rw [h]
theorem rot_left (d dk : Nat → α) (m i j : Nat) (hj : 1 ≤ j) (hij : j < i) (him : i ≤ m) (h : ∀ k, dk k = swF d (m - i) m j k) (k : Nat) : rotF dk (m - (i - j)) m (m + j) k = rotF d (m - i) m (m + j) k := by
  unfold rotF
  simp only [h]
  unfold swF
  repeat' split
  all_goals first | rfl | (exfalso; omega) | (apply congr_at; omega)
theorem rot_right (d dk : Nat → α) (m i j : Nat) (hi : 1 ≤ i) (hij : i < j) (him : i ≤ m) (h : ∀ k, dk k = swF d (m - i) (m + j - i) i k) (k : Nat) : rotF dk (m - i) m (m + (j - i)) k = rotF d (m - i) m (m + j) k := by
  unfold rotF
  simp only [h]
  unfold swF
  repeat' split
  all_goals first | rfl | (exfalso; omega) | (apply congr_at; omega)
theorem rot_end (d dk : Nat → α) (m i : Nat) (him : i ≤ m) (h : ∀ k, dk k = swF d (m - i) m i k) (k : Nat) : dk k = rotF d (m - i) m (m + i) k := by
  rw [h]
  unfold rotF swF
  repeat' split
  all_goals first | rfl | (exfalso; omega) | (apply congr_at; omega)
theorem rot_none (d : Nat → α) (a m b : Nat) (ha : a ≤ m) (hb : m ≤ b) (h : a = m ∨ m = b) (k : Nat) : rotF d a m b k = d k := by
  unfold rotF
  repeat' split
  all_goals first | rfl | (exfalso; omega) | (apply congr_at; omega)

variable {lt : α → α → Bool}
/-- If x is not less than y, then whatever is less than y .. -/
theorem swo_lt_of_lt_of_not (hS : SWO lt) {x y z : α} (h1 : lt x z = true) (h2 : lt x y = false) : lt y z = true := by
  cases h : lt y z with
  | true => rfl
  | false => have := hS.ntrans _ _ _ h2 h; rw [h1] at this; cases this
theorem swo_lt_of_not_of_lt (hS : SWO lt) {x y z : α} (h1 : lt x z = true) (h2 : lt y z = false) : lt x y = true := by
  cases h : lt x y with
  | true => rfl
  | false => have := hS.ntrans _ _ _ h h2; rw [h1] at this; cases this

end

section
variable {α : Type} [Inhabited α] {lt : α → α → Bool}
theorem swF_succ (d dk : Array α) (a b n : Nat) (hs : b + n < dk.size) (hab : a + n < b) (h : ∀ k, dk[k]! = swF (fun k => d[k]!) a b n k) (k : Nat) :
    (swp dk (a + n) (b + n))[k]! = swF (fun k => d[k]!) a b (n + 1) k := by
  rw [swp_get dk (by omega) hs, h k, h (a + n), h (b + n)]
  unfold swF
  repeat' split
  all_goals first | rfl | (exfalso; omega) | (apply congr_at (fun k => d[k]!); omega)

/-- One in front of a sorted row, moved to its place. -/
theorem base_left (hS : SWO lt) {a b i : Nat} {d d' : Array α} (h : SortedIn lt (a + 1) b d) (h1 : a + 1 ≤ i) (h2 : i ≤ b) (hl : i = a + 1 ∨ lt d[i - 1]! d[a]! = true) (hr : i = b ∨ lt d[i]! d[a]! = false)
    (hd : ∀ k, d'[k]! = if a ≤ k ∧ k + 1 < i then d[k + 1]! else if k + 1 = i then d[a]! else d[k]!) : SortedIn lt a b d' := by
  have L : ∀ q, a + 1 ≤ q → q < i → lt d[q]! d[a]! = true := by
    intro q hq1 hq2
    rcases hl with hl | hl
    · omega
    · by_cases e : q = i - 1
      · subst e; exact hl
      · exact swo_lt_of_lt_of_not hS hl (h q (i - 1) hq1 (by omega) (by omega))
  have R : ∀ q, i ≤ q → q < b → lt d[q]! d[a]! = false := by
    intro q hq1 hq2
    rcases hr with hr | hr
    · omega
    · by_cases e : q = i
      · subst e; exact hr
      · cases hc : lt d[q]! d[a]! with
        | false => rfl
        | true =>
          have := swo_lt_of_lt_of_not hS hc (h i q h1 (by omega) hq2)
          rw [hr] at this; cases this
  have g1 : ∀ k, a ≤ k → k + 1 < i → d'[k]! = d[k + 1]! := fun k x y => by rw [hd, if_pos ⟨x, y⟩]
  have g2 : ∀ k, k + 1 = i → d'[k]! = d[a]! := fun k x => by rw [hd, if_neg (by omega), if_pos x]
  have g3 : ∀ k, i ≤ k → d'[k]! = d[k]! := fun k x => by rw [hd, if_neg (by omega), if_neg (by omega)]
  intro p q hap hpq hqb
  by_cases hp : p + 1 < i
  · rw [g1 p hap hp]
    by_cases hq : q + 1 < i
    · rw [g1 q (by omega) hq]; exact h _ _ (by omega) (by omega) (by omega)
    · by_cases hq2 : q + 1 = i
      · rw [g2 q hq2]; exact hS.asymmA (L _ (by omega) (by omega))
      · rw [g3 q (by omega)]; exact h _ _ (by omega) (by omega) (by omega)
  · rw [g3 q (by omega)]
    by_cases hp2 : p + 1 = i
    · rw [g2 p hp2]; exact R _ (by omega) (by omega)
    · rw [g3 p (by omega)]; exact h _ _ (by omega) (by omega) (by omega)

/-- One behind a sorted row, moved to its place. -/
theorem base_right (hS : SWO lt) {a m i : Nat} {d d' : Array α} (h : SortedIn lt a m d) (h1 : a ≤ i) (h2 : i ≤ m) (hl : i = a ∨ lt d[m]! d[i - 1]! = false) (hr : i = m ∨ lt d[m]! d[i]! = true)
    (hd : ∀ k, d'[k]! = if i < k ∧ k ≤ m then d[k - 1]! else if k = i then d[m]! else d[k]!) : SortedIn lt a (m + 1) d' := by
  have L : ∀ q, a ≤ q → q < i → lt d[m]! d[q]! = false := by
    intro q hq1 hq2
    rcases hl with hl | hl
    · omega
    · by_cases e : q = i - 1
      · subst e; exact hl
      · exact hS.ntrans _ _ _ hl (h q (i - 1) hq1 (by omega) (by omega))
  have R : ∀ q, i ≤ q → q < m → lt d[m]! d[q]! = true := by
    intro q hq1 hq2
    rcases hr with hr | hr
    · omega
    · by_cases e : q = i
      · subst e; exact hr
      · exact swo_lt_of_not_of_lt hS hr (h i q h1 (by omega) hq2)
  have g1 : ∀ k, i < k → k ≤ m → d'[k]! = d[k - 1]! := fun k x y => by rw [hd, if_pos ⟨x, y⟩]
  have g2 : ∀ k, k = i → d'[k]! = d[m]! := fun k x => by rw [hd, if_neg (by omega), if_pos x]
  have g3 : ∀ k, k < i → d'[k]! = d[k]! := fun k x => by rw [hd, if_neg (by omega), if_neg (by omega)]
  intro p q hap hpq hqb
  by_cases hq : i < q
  · rw [g1 q hq (by omega)]
    by_cases hp : i < p
    · rw [g1 p hp (by omega)]; exact h _ _ (by omega) (by omega) (by omega)
    · by_cases hp2 : p = i
      · rw [g2 p hp2]; exact hS.asymmA (R _ (by omega) (by omega))
      · rw [g3 p (by omega)]; exact h _ _ (by omega) (by omega) (by omega)
  · rw [g3 p (by omega)]
    by_cases hq2 : q = i
    · rw [g2 q hq2]; exact L _ (by omega) (by omega)
    · rw [g3 q (by omega)]; exact h _ _ (by omega) (by omega) (by omega)

/-- Two sorted rows side by side; between them the test cl is the order itself. -/
structure Sides (lt cl : α → α → Bool) (a m b : Nat) (d : Array α) : Prop where
  left : SortedIn lt a m d
  right : SortedIn lt m b d
  cross : ∀ i j, a ≤ i → i < m → m ≤ j → j < b → cl d[j]! d[i]! = lt d[j]! d[i]!

/-- What symMerge has behind its rotation: two pairs of sides, and all of the first pair ahead of all of the second. -/
structure Parted (lt cl : α → α → Bool) (a s mid e b : Nat) (d : Array α) : Prop where
  one : Sides lt cl a s mid d
  two : Sides lt cl mid e b d
  apart : ∀ i j, a ≤ i → i < mid → mid ≤ j → j < b → lt d[j]! d[i]! = false

theorem parted (hS : SWO lt) {cl : α → α → Bool} {a m b mid s e : Nat} {d d' : Array α} (H : Sides lt cl a m b d) (hs1 : a ≤ s) (hs2 : s ≤ m) (hs3 : s ≤ mid) (he : e + s = mid + m) (he2 : e ≤ b) (he1 : m ≤ e)
    (hl : s = a ∨ e = b ∨ cl d[e]! d[s - 1]! = false) (hr : s = m ∨ e = m ∨ cl d[e - 1]! d[s]! = true) (hd : ∀ k, d'[k]! = rotF (fun k => d[k]!) s m e k) : Parted lt cl a s mid e b d' := by
  have g1 : ∀ k, k < s → d'[k]! = d[k]! := fun k h => by rw [hd]; unfold rotF; rw [if_neg (by omega), if_neg (by omega)]
  have g2 : ∀ k, s ≤ k → k < mid → d'[k]! = d[k + (m - s)]! := fun k h h' => by rw [hd]; unfold rotF; rw [if_pos (by omega)]
  have g3 : ∀ k, mid ≤ k → k < e → d'[k]! = d[k - (e - m)]! := fun k h h' => by rw [hd]; unfold rotF; rw [if_neg (by omega), if_pos (by omega)]
  have g4 : ∀ k, e ≤ k → d'[k]! = d[k]! := fun k h => by rw [hd]; unfold rotF; rw [if_neg (by omega), if_neg (by omega)]
  have LR : ∀ p q, a ≤ p → p < s → e ≤ q → q < b → lt d[q]! d[p]! = false := by
    intro p q h1 h2 h3 h4
    rcases hl with hl | hl | hl
    · omega
    · omega
    · rw [H.cross _ _ (by omega) (by omega) (by omega) (by omega)] at hl
      have x1 : lt d[q]! d[s - 1]! = false := by
        by_cases e1 : q = e
        · subst e1; exact hl
        · exact hS.ntrans _ _ _ (H.right e q (by omega) (by omega) (by omega)) hl
      by_cases e2 : p = s - 1
      · subst e2; exact x1
      · exact hS.ntrans _ _ _ x1 (H.left p (s - 1) (by omega) (by omega) (by omega))
  have RL : ∀ p q, m ≤ p → p < e → s ≤ q → q < m → lt d[q]! d[p]! = false := by
    intro p q h1 h2 h3 h4
    rcases hr with hr | hr | hr
    · omega
    · omega
    · rw [H.cross _ _ (by omega) (by omega) (by omega) (by omega)] at hr
      have x1 : lt d[q]! d[e - 1]! = false := by
        by_cases e1 : q = s
        · subst e1; exact hS.asymmA hr
        · exact hS.ntrans _ _ _ (H.left s q (by omega) (by omega) (by omega)) (hS.asymmA hr)
      by_cases e2 : p = e - 1
      · subst e2; exact x1
      · exact hS.ntrans _ _ _ x1 (H.right p (e - 1) (by omega) (by omega) (by omega))
  refine ⟨⟨?_, ?_, ?_⟩, ⟨?_, ?_, ?_⟩, ?_⟩
  · intro p q h1 h2 h3; rw [g1 p (by omega), g1 q h3]; exact H.left _ _ h1 h2 (by omega)
  · intro p q h1 h2 h3; rw [g2 p h1 (by omega), g2 q (by omega) h3]; exact H.right _ _ (by omega) (by omega) (by omega)
  · intro p q h1 h2 h3 h4; rw [g1 p h2, g2 q h3 h4]; exact H.cross _ _ h1 (by omega) (by omega) (by omega)
  · intro p q h1 h2 h3; rw [g3 p h1 (by omega), g3 q (by omega) h3]; exact H.left _ _ (by omega) (by omega) (by omega)
  · intro p q h1 h2 h3; rw [g4 p h1, g4 q (by omega)]; exact H.right _ _ (by omega) h2 h3
  · intro p q h1 h2 h3 h4; rw [g3 p h1 h2, g4 q h3]; exact H.cross _ _ (by omega) (by omega) (by omega) h4
  · intro p q h1 h2 h3 h4
    by_cases hp : p < s
    · rw [g1 p hp]
      by_cases hq : q < e
      · rw [g3 q h3 hq]; exact H.left _ _ h1 (by omega) (by omega)
      · rw [g4 q (by omega)]; exact LR _ _ h1 hp (by omega) h4
    · rw [g2 p (by omega) h2]
      by_cases hq : q < e
      · rw [g3 q h3 hq]; exact RL _ _ (by omega) (by omega) (by omega) (by omega)
      · rw [g4 q (by omega)]; exact H.right _ _ (by omega) (by omega) h4

/-- d' is d with [a, b) permuted and sorted. -/
def Merged (lt : α → α → Bool) (a b : Nat) (d d' : Array α) : Prop := PermIn a b d d' ∧ SortedIn lt a b d'

/-- Sides that are one: nothing is to be done. -/
theorem Sides.whole {cl : α → α → Bool} {a m b : Nat} {d : Array α} (H : Sides lt cl a m b d) (h : m ≤ a ∨ b ≤ m) : SortedIn lt a b d := by
  intro p q h1 h2 h3
  rcases h with h | h
  · exact H.right p q (by omega) h2 h3
  · exact H.left p q h1 h2 (by omega)
theorem Sides.keep {cl : α → α → Bool} {a m b : Nat} {d d' : Array α} (H : Sides lt cl a m b d) (h : ∀ i, a ≤ i → i < b → d'[i]! = d[i]!) (h1 : a ≤ m) (h2 : m ≤ b) : Sides lt cl a m b d' where
  left p q x1 x2 x3 := by rw [h p x1 (by omega), h q (by omega) (by omega)]; exact H.left p q x1 x2 x3
  right p q x1 x2 x3 := by rw [h p (by omega) (by omega), h q (by omega) (by omega)]; exact H.right p q x1 x2 x3
  cross p q x1 x2 x3 x4 := by rw [h p x1 (by omega), h q (by omega) x4]; exact H.cross p q x1 x2 x3 x4

/-- Both pairs merged: all is merged. -/
theorem Parted.merged {cl : α → α → Bool} {a s mid e b : Nat} {d d1 d2 d3 : Array α} (H : Parted lt cl a s mid e b d1) (h1 : a ≤ mid) (h2 : mid ≤ b) (hb : b ≤ d.size) (h0 : PermIn a b d d1)
    (m1 : Merged lt a mid d1 d2) (m2 : Merged lt mid b d2 d3) : Merged lt a b d d3 := by
  have z1 : d1.size = d.size := h0.1
  have z2 : d2.size = d.size := m1.1.1.trans z1
  have p12 := permIn_mono d1 d2 a mid a b (Nat.le_refl _) h2 (by omega) m1.1
  have p23 := permIn_mono d2 d3 mid b a b h1 (Nat.le_refl _) (by omega) m2.1
  refine ⟨permIn_trans _ _ _ a b h0 (permIn_trans _ _ _ a b p12 p23), ?_⟩
  have ap1 : ∀ i, a ≤ i → i < mid → ∀ j, mid ≤ j → j < b → lt d1[j]! d2[i]! = false :=
    permIn_all d1 d2 a mid (fun x => ∀ j, mid ≤ j → j < b → lt d1[j]! x = false) (by omega) m1.1 (fun i hi1 hi2 j hj1 hj2 => H.apart i j hi1 hi2 hj1 hj2)
  have ap2 : ∀ j, mid ≤ j → j < b → ∀ i, a ≤ i → i < mid → lt d3[j]! d2[i]! = false :=
    permIn_all d2 d3 mid b (fun x => ∀ i, a ≤ i → i < mid → lt x d2[i]! = false) (by omega) m2.1 (fun j hj1 hj2 i hi1 hi2 => by rw [m1.1.2.1 j (by omega)]; exact ap1 i hi1 hi2 j hj1 hj2)
  intro p q x1 x2 x3
  by_cases hq : q < mid
  · rw [m2.1.2.1 p (by omega), m2.1.2.1 q (by omega)]; exact m1.2 p q x1 x2 hq
  · by_cases hp : p < mid
    · rw [m2.1.2.1 p (by omega)]; exact ap2 q (by omega) x3 p x1 hp
    · exact m2.2 p q (by omega) x2 x3

/-! ### The insertion sort: it asks of one that came later and one that came earlier alone -/
theorem insInner_agree {l1 l2 : α → α → Bool} (a : Nat) : ∀ (j : Nat) (d : Array α), j < d.size → (∀ k, a ≤ k → k < j → l1 d[j]! d[k]! = l2 d[j]! d[k]!) → insInner l1 a j d = insInner l2 a j d
  | 0, d, _, _ => by unfold insInner; rfl
  | j + 1, d, hz, h => by
    unfold insInner
    by_cases ha : j + 1 > a
    · rw [h j (by omega) (by omega)]
      split
      · refine insInner_agree a j _ (by rw [swp_size]; omega) fun k hk1 hk2 => ?_
        rw [swp_get d hz (by omega), swp_get d hz (by omega), if_pos rfl, if_neg (by omega), if_neg (by omega)]
        exact h k hk1 (by omega)
      · rfl
    · have : decide (j + 1 > a) = false := decide_eq_false ha
      rw [this]; simp
theorem insInner_perm (l : α → α → Bool) (a b : Nat) : ∀ (j : Nat) (d : Array α), j < b → b ≤ d.size → PermIn a b d (insInner l a j d)
  | 0, d, _, _ => by unfold insInner; exact permIn_refl d a b
  | j + 1, d, hj, hb => by
    unfold insInner
    split
    · rename_i hc
      simp only [Bool.and_eq_true, decide_eq_true_eq] at hc
      exact permIn_trans _ _ _ a b (swp_permIn d a b (j + 1) j (by omega) hj (by omega) (by omega) hb) (insInner_perm l a b j _ (by omega) (by rw [swp_size]; exact hb))
    · exact permIn_refl d a b

theorem insOuter_agree {l1 l2 : α → α → Bool} (a b : Nat) (d : Array α) (hb : b ≤ d.size) (h : ∀ p q, a ≤ p → p < q → q < b → l1 d[q]! d[p]! = l2 d[q]! d[p]!) :
    ∀ (n i : Nat) (dk : Array α), b - i = n → a < i → PermIn a i d dk → insOuter l1 a b i dk = insOuter l2 a b i dk
  | 0, i, dk, hn, _, _ => by rw [insOuter_stop _ _ _ _ _ (by omega), insOuter_stop _ _ _ _ _ (by omega)]
  | n + 1, i, dk, hn, hai, hp => by
    have hib : i < b := by omega
    have hz := hp.1
    rw [insOuter_go _ _ _ _ _ hib, insOuter_go _ _ _ _ _ hib]
    have e : insInner l1 a i dk = insInner l2 a i dk := by
      refine insInner_agree a i dk (by omega) ?_
      rw [hp.2.1 i (by omega)]
      exact permIn_all d dk a i (fun x => l1 d[i]! x = l2 d[i]! x) (by omega) hp (fun k hk1 hk2 => h k i hk1 hk2 hib)
    rw [e]
    refine insOuter_agree a b d hb h n (i + 1) _ (by omega) (by omega) ?_
    have hm := permIn_mono d dk a i a (i + 1) (Nat.le_refl _) (by omega) (by omega) hp
    exact permIn_trans _ _ _ a (i + 1) hm (insInner_perm l2 a (i + 1) i dk (by omega) (by omega))

theorem insertionSort_agree {l1 l2 : α → α → Bool} (a b : Nat) (d : Array α) (hb : b ≤ d.size) (h : ∀ p q, a ≤ p → p < q → q < b → l1 d[q]! d[p]! = l2 d[q]! d[p]!) : insertionSort l1 d a b = insertionSort l2 d a b := by
  unfold insertionSort
  exact insOuter_agree a b d hb h _ (a + 1) d rfl (by omega) (permIn_refl d a (a + 1))
end
end Go.Proofs.Ytaeondpeaabfeaa
