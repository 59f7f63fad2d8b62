/- slices.stableCmpFunc at 64 elements or fewer: sorted, and stable. -/
import Derived.Test.YtaeondpeaabfeaaSf
namespace Go.Proofs.Ytaeondpeaabfeaa
open Go.RowKit Go.Sort Go.Lib

/-- [lo, hi) of dk is sorted and holds what d had there. -/
def Seg (lt : Int → Int → Bool) (d : Array Int) (lo hi : Nat) (dk : Array Int) : Prop := SortedIn lt lo hi dk ∧ ∀ i, lo ≤ i → i < hi → ∃ j, lo ≤ j ∧ j < hi ∧ dk[i]! = d[j]!
/-- The test is the order itself of one that came later and one that came earlier. -/
def Agree (lt cl : Int → Int → Bool) (d : Array Int) : Prop := ∀ p q, p < q → q < d.size → cl d[q]! d[p]! = lt d[q]! d[p]!

variable {lt : Int → Int → Bool} {cl : Int → Int → Bool} {d dk dk' : Array Int} {lo mid hi : Nat}
theorem Seg.keep (h : Seg lt d lo hi dk) (hk : ∀ i, lo ≤ i → i < hi → dk'[i]! = dk[i]!) : Seg lt d lo hi dk' :=
  ⟨fun p q h1 h2 h3 => by rw [hk p h1 (by omega), hk q (by omega) h3]; exact h.1 p q h1 h2 h3, fun i h1 h2 => by rw [hk i h1 h2]; exact h.2 i h1 h2⟩
theorem Seg.none (h : hi ≤ lo) : Seg lt d lo hi dk := ⟨fun p q _ _ _ => by omega, fun i _ _ => by omega⟩
theorem Seg.first (hz : dk.size = d.size) (hh : hi ≤ d.size) (hk : ∀ i, lo ≤ i → i < hi → dk[i]! = d[i]!) (hm : Merged lt lo hi dk dk') : Seg lt d lo hi dk' := by
  refine ⟨hm.2, ?_⟩
  exact permIn_all dk dk' lo hi (fun x => ∃ j, lo ≤ j ∧ j < hi ∧ x = d[j]!) (by omega) hm.1 (fun i h1 h2 => ⟨i, h1, h2, hk i h1 h2⟩)
theorem Seg.sides (h1 : Seg lt d lo mid dk) (h2 : Seg lt d mid hi dk) (ha : Agree lt cl d) (hh : hi ≤ d.size) : Sides lt cl lo mid hi dk := by
  refine ⟨h1.1, h2.1, ?_⟩
  intro i j x1 x2 x3 x4
  obtain ⟨i', y1, y2, e1⟩ := h1.2 i x1 x2
  obtain ⟨j', y3, y4, e2⟩ := h2.2 j x3 x4
  rw [e1, e2]
  exact ha i' j' (by omega) (by omega)
theorem Seg.merge (hz : dk.size = d.size) (hh : hi ≤ d.size) (h1 : Seg lt d lo mid dk) (h2 : Seg lt d mid hi dk) (hm : Merged lt lo hi dk dk') (hlm : lo ≤ mid) (hmh : mid ≤ hi) : Seg lt d lo hi dk' := by
  refine ⟨hm.2, ?_⟩
  refine permIn_all dk dk' lo hi (fun x => ∃ j, lo ≤ j ∧ j < hi ∧ x = d[j]!) (by omega) hm.1 (fun i x1 x2 => ?_)
  by_cases h : i < mid
  · obtain ⟨j, y1, y2, e⟩ := h1.2 i x1 h; exact ⟨j, y1, by omega, e⟩
  · obtain ⟨j, y1, y2, e⟩ := h2.2 i (by omega) x2; exact ⟨j, by omega, y2, e⟩
theorem Agree.part (ha : Agree lt cl d) (hk : ∀ i, lo ≤ i → i < hi → dk[i]! = d[i]!) (hh : hi ≤ d.size) (p q : Nat) (h1 : lo ≤ p) (h2 : p < q) (h3 : q < hi) : cl dk[q]! dk[p]! = lt dk[q]! dk[p]! := by
  rw [hk p h1 (by omega), hk q (by omega) h3]; exact ha p q h2 (by omega)

/-- All blocks of a length are sorted. -/
def Blocks (lt : Int → Int → Bool) (d : Array Int) (bs : Nat) (dk : Array Int) : Prop := PermIn 0 d.size d dk ∧ ∀ c, Seg lt d (bs * c) (min (bs * c + bs) d.size) dk
/-- The first blocks are sorted, what follows is as it was. -/
def Begun (lt : Int → Int → Bool) (d : Array Int) (t : Nat) (dk : Array Int) : Prop :=
  20 * t ≤ d.size ∧ PermIn 0 d.size d dk ∧ (∀ c, c < t → Seg lt d (20 * c) (20 * c + 20) dk) ∧ ∀ i, 20 * t ≤ i → dk[i]! = d[i]!
/-- The first pairs of blocks are merged. -/
def Pairs (lt : Int → Int → Bool) (d : Array Int) (bs t : Nat) (dk : Array Int) : Prop :=
  PermIn 0 d.size d dk ∧ (∀ c, c < t → Seg lt d (2 * (bs * c)) (2 * (bs * c) + 2 * bs) dk) ∧ ∀ c, 2 * t ≤ c → Seg lt d (bs * c) (min (bs * c + bs) d.size) dk

theorem Begun.start : Begun lt d 0 d := ⟨by omega, permIn_refl _ _ _, fun c h => by omega, fun _ _ => rfl⟩
theorem Begun.next {t : Nat} (h : Begun lt d t dk) (h2 : 20 * t + 20 ≤ d.size) (hm : Merged lt (20 * t) (20 * t + 20) dk dk') : Begun lt d (t + 1) dk' := by
  obtain ⟨x1, x2, x3, x4⟩ := h
  refine ⟨by omega, permIn_trans _ _ _ _ _ x2 (permIn_mono _ _ _ _ _ _ (by omega) (by omega) (by rw [x2.1]; omega) hm.1), ?_, ?_⟩
  · intro c hc
    by_cases e : c = t
    · subst e; exact Seg.first x2.1 (by omega) (fun i y1 y2 => x4 i y1) hm
    · exact (x3 c (by omega)).keep fun i y1 y2 => hm.1.2.1 i (by omega)
  · intro i hi; rw [hm.1.2.1 i (by omega)]; exact x4 i (by omega)
theorem Begun.done {t : Nat} (h : Begun lt d t dk) (h2 : d.size < 20 * t + 20) (hm : Merged lt (20 * t) d.size dk dk') : Blocks lt d 20 dk' := by
  obtain ⟨x1, x2, x3, x4⟩ := h
  refine ⟨permIn_trans _ _ _ _ _ x2 (permIn_mono _ _ _ _ _ _ (by omega) (by omega) (by rw [x2.1]; omega) hm.1), ?_⟩
  intro c
  by_cases h1 : c < t
  · rw [Nat.min_eq_left (by omega)]
    exact (x3 c h1).keep fun i y1 y2 => hm.1.2.1 i (by omega)
  · by_cases e : c = t
    · subst e; rw [Nat.min_eq_right (by omega)]; exact Seg.first x2.1 (by omega) (fun i y1 y2 => x4 i y1) hm
    · exact Seg.none (by omega)
theorem Blocks.pairs {bs : Nat} (h : Blocks lt d bs dk) : Pairs lt d bs 0 dk := ⟨h.1, fun c h => by omega, fun c _ => h.2 c⟩

theorem Pairs.sides {bs t hi : Nat} (h : Pairs lt d bs t dk) (ha : Agree lt cl d) (h1 : 2 * (bs * t) + bs ≤ hi) (h2 : hi = min (2 * (bs * t) + 2 * bs) d.size) :
    Sides lt cl (2 * (bs * t)) (2 * (bs * t) + bs) hi dk := by
  have e1 : bs * (2 * t) = 2 * (bs * t) := by rw [Nat.mul_left_comm]
  have e2 : bs * (2 * t + 1) = 2 * (bs * t) + bs := by rw [Nat.mul_add, e1, Nat.mul_one]
  have a1 := h.2.2 (2 * t) (by omega)
  have a2 := h.2.2 (2 * t + 1) (by omega)
  rw [e1] at a1
  rw [e2] at a2
  rw [Nat.min_eq_left (by omega)] at a1
  rw [show min (2 * (bs * t) + bs + bs) d.size = hi by omega] at a2
  exact a1.sides a2 ha (by omega)
theorem Pairs.seg {bs t hi : Nat} (h : Pairs lt d bs t dk) (h1 : 2 * (bs * t) + bs ≤ hi) (h2 : hi = min (2 * (bs * t) + 2 * bs) d.size) (hm : Merged lt (2 * (bs * t)) hi dk dk') : Seg lt d (2 * (bs * t)) hi dk' := by
  have e1 : bs * (2 * t) = 2 * (bs * t) := by rw [Nat.mul_left_comm]
  have e2 : bs * (2 * t + 1) = 2 * (bs * t) + bs := by rw [Nat.mul_add, e1, Nat.mul_one]
  have a1 := h.2.2 (2 * t) (by omega)
  have a2 := h.2.2 (2 * t + 1) (by omega)
  rw [e1] at a1
  rw [e2] at a2
  rw [Nat.min_eq_left (by omega)] at a1
  rw [show min (2 * (bs * t) + bs + bs) d.size = hi by omega] at a2
  exact Seg.merge h.1.1 (by omega) a1 a2 hm (by omega) (by omega)
theorem mul_lt_step {bs c t : Nat} (h : c < t) : bs * c + bs ≤ bs * t := by
  have := Nat.mul_le_mul_left bs (show c + 1 ≤ t by omega)
  rw [Nat.mul_add, Nat.mul_one] at this
  exact this
theorem Pairs.next {bs t : Nat} (h : Pairs lt d bs t dk) (h2 : 2 * (bs * t) + 2 * bs ≤ d.size) (hm : Merged lt (2 * (bs * t)) (2 * (bs * t) + 2 * bs) dk dk') : Pairs lt d bs (t + 1) dk' := by
  have hs := h.seg (hi := 2 * (bs * t) + 2 * bs) (by omega) (by omega) hm
  refine ⟨permIn_trans _ _ _ _ _ h.1 (permIn_mono _ _ _ _ _ _ (by omega) (by omega) (by rw [h.1.1]; omega) hm.1), ?_, ?_⟩
  · intro c hc
    by_cases e : c = t
    · subst e; exact hs
    · have := mul_lt_step (bs := bs) (show c < t by omega)
      exact (h.2.1 c (by omega)).keep fun i y1 y2 => hm.1.2.1 i (by omega)
  · intro c hc
    have e1 : bs * (2 * t) = 2 * (bs * t) := by rw [Nat.mul_left_comm]
    have := Nat.mul_le_mul_left bs hc
    rw [show 2 * (t + 1) = 2 * t + 1 + 1 by omega, Nat.mul_add, Nat.mul_add, e1, Nat.mul_one] at this
    exact (h.2.2 c (by omega)).keep fun i y1 y2 => hm.1.2.1 i (by omega)
theorem Pairs.done {bs t : Nat} (h : Pairs lt d bs t dk) (h2 : d.size < 2 * (bs * t) + 2 * bs) (hm : Merged lt (2 * (bs * t)) d.size dk dk') (h3 : 2 * (bs * t) + bs < d.size) : Blocks lt d (2 * bs) dk' := by
  have hs := h.seg (hi := d.size) (by omega) (by omega) hm
  refine ⟨permIn_trans _ _ _ _ _ h.1 (permIn_mono _ _ _ _ _ _ (by omega) (by omega) (by rw [h.1.1]; omega) hm.1), ?_⟩
  intro c
  rw [Nat.mul_assoc]
  rcases Nat.lt_trichotomy c t with x | x | x
  · have := mul_lt_step (bs := bs) x
    rw [Nat.min_eq_left (by omega)]
    exact (h.2.1 c x).keep fun i y1 y2 => hm.1.2.1 i (by omega)
  · subst x; rw [Nat.min_eq_right (by omega)]; exact hs
  · have := mul_lt_step (bs := bs) x
    exact Seg.none (by omega)
theorem Pairs.over {bs t : Nat} (h : Pairs lt d bs t dk) (h0 : 2 * (bs * t) ≤ d.size) (h3 : d.size ≤ 2 * (bs * t) + bs) : Blocks lt d (2 * bs) dk := by
  refine ⟨h.1, ?_⟩
  intro c
  have e1 : bs * (2 * t) = 2 * (bs * t) := by rw [Nat.mul_left_comm]
  rw [Nat.mul_assoc]
  rcases Nat.lt_trichotomy c t with x | x | x
  · have := mul_lt_step (bs := bs) x
    rw [Nat.min_eq_left (by omega)]; exact h.2.1 c x
  · subst x
    have a1 := h.2.2 (2 * c) (by omega)
    rw [e1] at a1
    rw [show min (2 * (bs * c) + 2 * bs) d.size = min (2 * (bs * c) + bs) d.size by omega]
    exact a1
  · have := mul_lt_step (bs := bs) x
    exact Seg.none (by omega)
theorem Blocks.all {bs : Nat} (h : Blocks lt d bs dk) (hb : d.size ≤ bs) : Merged lt 0 d.size d dk := by
  refine ⟨h.1, ?_⟩
  have := (h.2 0).1
  rw [Nat.mul_zero, Nat.zero_add, Nat.min_eq_right hb] at this
  exact this
end Go.Proofs.Ytaeondpeaabfeaa
