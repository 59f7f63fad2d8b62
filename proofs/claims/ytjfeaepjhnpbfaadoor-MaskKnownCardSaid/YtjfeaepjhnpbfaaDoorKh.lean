/- Masks: what follows of bits, lists and texts. No function of the program is walked here. -/
import Derived.Test.YtjfeaepjhnpbfaaDoorKe
import Derived.Test.YtjfeaepjhnpbfaaDoorKf
import Derived.Test.YtjfeaepjhnpbfaaDoorKg
namespace Go.Proofs.YtjfeaepjhnpbfaaDoor
open Go.RowKit

theorem mem_cores {m i : Nat} : i ∈ coresL m ↔ i < 16 ∧ m.testBit i = true := by
  unfold coresL coresTo
  rw [List.mem_filter, List.mem_range]
theorem high_bit {m i : Nat} (hm : m < 65536) (h : ¬ i < 16) : m.testBit i = false :=
  Nat.testBit_lt_two_pow (Nat.lt_of_lt_of_le (show m < 2 ^ 16 from hm) (Nat.pow_le_pow_right (by omega) (by omega)))

theorem ofStep_nat (m x : Nat) (hx : x < 16) : ofStep m (x : Int) = m ||| 2 ^ x := by
  unfold ofStep; rw [if_pos (by omega)]; simp
theorem of_bits (l : List Nat) (hl : ∀ x ∈ l, x < 16) : ∀ (m i : Nat), ((ints64 l).foldl ofStep m).testBit i = (m.testBit i || decide (i ∈ l)) := by
  induction l with
  | nil => intro m i; simp [ints64]
  | cons x xs ih =>
    intro m i
    have h1 := ih (fun y hy => hl y (by simp [hy])) (ofStep m x) i
    have hx := hl x (by simp)
    show ((ints64 xs).foldl ofStep (ofStep m x)).testBit i = _
    rw [h1, ofStep_nat m x hx, Nat.testBit_or, Nat.testBit_two_pow]
    by_cases e : x = i
    · subst e; simp
    · have e' : i ≠ x := fun h => e h.symm
      simp [e, e']
theorem of_eq {m : Nat} (hm : m < 65536) (l : List Nat) (hl : ∀ i, i ∈ l ↔ i ∈ coresL m) : ofN (ints64 l) = m := by
  apply Nat.eq_of_testBit_eq
  intro i
  unfold ofN
  rw [of_bits l (fun x hx => (mem_cores.1 ((hl x).1 hx)).1)]
  rw [Nat.zero_testBit, Bool.false_or]
  by_cases h : i < 16
  · cases hb : m.testBit i
    · have : ¬ i ∈ l := fun h1 => by have := (mem_cores.1 ((hl i).1 h1)).2; rw [hb] at this; cases this
      simp [this]
    · have : i ∈ l := (hl i).2 (mem_cores.2 ⟨h, hb⟩)
      simp [this]
  · rw [high_bit hm h]
    have : ¬ i ∈ l := fun h1 => h (mem_cores.1 ((hl i).1 h1)).1
    simp [this]
theorem of_cores {m : Nat} (hm : m < 65536) : ofN (ints64 (coresL m)) = m := of_eq hm _ (fun _ => Iff.rfl)

theorem low_bit (f i : Nat) : (lowN f).testBit i = decide (i < f) := by unfold lowN; rw [Nat.testBit_two_pow_sub_one]
theorem notlow_bit {f : Nat} (hf : f < 16) (i : Nat) : (65535 - lowN f).testBit i = (decide (i < 16) && !decide (i < f)) := by
  have e : 65535 - lowN f = 2 ^ 16 - (lowN f + 1) := by have := lowN_lt hf; omega
  rw [e, Nat.testBit_two_pow_sub_succ (show lowN f < 2 ^ 16 from lowN_lt hf), low_bit]
theorem part0 {m f : Nat} (hf : f < 16) : coresL (partN m f 0) = (coresL m).filter (fun c => decide (f ≤ c)) := by
  unfold coresL coresTo partN
  rw [if_pos rfl, List.filter_filter]
  apply List.filter_congr
  intro c hc
  have hc16 : c < 16 := List.mem_range.1 hc
  rw [Nat.testBit_and, notlow_bit hf]
  by_cases h : c < f
  · have : ¬ f ≤ c := by omega
    simp [h, this]
  · have : f ≤ c := by omega
    simp [h, this, hc16]
theorem part1 {m f : Nat} : coresL (partN m f 1) = (coresL m).filter (fun c => decide (c < f)) := by
  unfold coresL coresTo partN
  rw [if_neg (by omega), List.filter_filter]
  apply List.filter_congr
  intro c _
  rw [Nat.testBit_and, low_bit, Bool.and_comm]
theorem around_eq {m f : Nat} (hf : f < 16) : aroundL m f = (coresL m).filter (fun c => decide (f ≤ c)) ++ (coresL m).filter (fun c => decide (c < f)) := by
  unfold aroundL doneL doneL doneL
  rw [part0 hf, part1, List.nil_append]
theorem filter_two (l : List Nat) (f : Nat) : (l.filter (fun c => decide (f ≤ c))).length + (l.filter (fun c => decide (c < f))).length = l.length := by
  induction l with
  | nil => rfl
  | cons x xs ih =>
    by_cases h : f ≤ x
    · have h2 : ¬ x < f := by omega
      simp only [List.filter_cons, h, h2, decide_true, decide_false, if_true, List.length_cons]
      simp
      omega
    · have h2 : x < f := by omega
      simp only [List.filter_cons, h, h2, decide_true, decide_false, if_true, List.length_cons]
      simp
      omega
theorem around_length {m f : Nat} (hf : f < 16) : (aroundL m f).length = (coresL m).length := by
  rw [around_eq hf, List.length_append, filter_two]
theorem of_around {m f : Nat} (hm : m < 65536) (hf : f < 16) : ofN (ints64 (aroundL m f)) = m := by
  refine of_eq hm _ (fun i => ?_)
  rw [around_eq hf, List.mem_append, List.mem_filter, List.mem_filter]
  constructor
  · rintro (h | h)
    · exact h.1
    · exact h.1
  · intro h
    by_cases e : f ≤ i
    · exact .inl ⟨h, by simp [e]⟩
    · exact .inr ⟨h, by simp; omega⟩
theorem around_zero (m : Nat) : aroundL m 0 = coresL m := by
  rw [around_eq (by omega)]
  have h1 : (coresL m).filter (fun c => decide (0 ≤ c)) = coresL m := List.filter_eq_self.2 (fun _ _ => by simp)
  have h2 : (coresL m).filter (fun c => decide (c < 0)) = [] := List.filter_eq_nil_iff.2 (fun _ _ => by simp)
  rw [h1, h2, List.append_nil]

theorem good_last (m : Nat) (c : Int) : goodB m c = (decide (1 ≤ c) && decide (c ≤ 16) && (match (coresL m).getLast? with | none => false | some x => decide ((x : Int) < c))) := by
  unfold goodB
  rw [backL_eq, List.head?_reverse]
  cases (coresL m).getLast? <;> rfl

/-! Texts -/
/-- A numeral, and what may follow it. -/
def NoComma (x : List UInt8) : Prop := ∀ b ∈ x, b ≠ 44
def Tail (t : List UInt8) : Prop := t = [] ∨ ∃ r, t = 44 :: r
theorem cut_eq : ∀ {x y t u : List UInt8}, NoComma x → NoComma y → Tail t → Tail u → x ++ t = y ++ u → x = y ∧ t = u
  | [], [], _, _, _, _, _, _, h => ⟨rfl, h⟩
  | [], b :: y, t, u, _, hy, ht, _, h => by
    rcases ht with rfl | ⟨r, rfl⟩
    · simp at h
    · simp at h
      exact absurd h.1.symm (hy b (by simp))
  | a :: x, [], t, u, hx, _, _, hu, h => by
    rcases hu with rfl | ⟨r, rfl⟩
    · simp at h
    · simp at h
      exact absurd h.1 (hx a (by simp))
  | a :: x, b :: y, t, u, hx, hy, ht, hu, h => by
    simp at h
    obtain ⟨h1, h2⟩ := h
    obtain ⟨h3, h4⟩ := cut_eq (fun c hc => hx c (by simp [hc])) (fun c hc => hy c (by simp [hc])) ht hu h2
    exact ⟨by rw [h1, h3], h4⟩
theorem joinTail_tail (r : List (List UInt8)) : Tail (Lib.joinTail [44] r) := by
  cases r with
  | nil => exact .inl rfl
  | cons y r => exact .inr ⟨y ++ Lib.joinTail [44] r, by simp [Lib.joinTail]⟩
theorem joinTail_inj : ∀ {r s : List (List UInt8)}, (∀ x ∈ r, NoComma x) → (∀ x ∈ s, NoComma x) → Lib.joinTail [44] r = Lib.joinTail [44] s → r = s
  | [], [], _, _, _ => rfl
  | [], y :: s, _, _, h => by simp [Lib.joinTail] at h
  | x :: r, [], _, _, h => by simp [Lib.joinTail] at h
  | x :: r, y :: s, hr, hs, h => by
    have e1 : Lib.joinTail [44] (x :: r) = 44 :: (x ++ Lib.joinTail [44] r) := by simp [Lib.joinTail]
    have e2 : Lib.joinTail [44] (y :: s) = 44 :: (y ++ Lib.joinTail [44] s) := by simp [Lib.joinTail]
    rw [e1, e2] at h
    injection h with _ h
    obtain ⟨h1, h2⟩ := cut_eq (hr x (by simp)) (hs y (by simp)) (joinTail_tail r) (joinTail_tail s) h
    rw [h1, joinTail_inj (fun z hz => hr z (by simp [hz])) (fun z hz => hs z (by simp [hz])) h2]

/-- Numerals of one or two digits, in a form that reckons. -/
def dec2 (x : Nat) : List UInt8 := if x < 10 then [UInt8.ofNat (48 + x)] else [UInt8.ofNat (48 + x / 10), UInt8.ofNat (48 + x % 10)]
theorem dec_eq {x : Nat} (h : x < 100) : Lib.decDigits x = dec2 x := by
  unfold dec2
  by_cases h1 : x < 10
  · rw [dec_one h1, if_pos h1]
  · rw [dec_two h1 h, if_neg h1]
theorem dec2_facts : ∀ x : Fin 16, (dec2 x.val).all (fun b => b != 44 && b != 45) = true ∧ dec2 x.val ≠ [] := by decide +kernel
theorem dec2_inj : ∀ x y : Fin 16, dec2 x.val = dec2 y.val → x = y := by decide +kernel
theorem dec_noComma {x : Nat} (h : x < 16) : NoComma (Lib.decDigits x) := by
  rw [dec_eq (by omega)]
  intro b hb
  have := List.all_eq_true.1 (dec2_facts ⟨x, h⟩).1 b hb
  simp at this
  exact this.1
theorem dec_head {x : Nat} (h : x < 16) (t : List UInt8) : Lib.decDigits x ++ t ≠ [45] := by
  rw [dec_eq (by omega)]
  intro e
  obtain ⟨h1, h2⟩ := dec2_facts ⟨x, h⟩
  simp only at h1 h2
  cases hd : dec2 x with
  | nil => exact h2 hd
  | cons b r =>
    rw [hd] at e h1
    simp at e
    have := List.all_eq_true.1 h1 b (by simp)
    simp [e.1] at this
theorem map_dec_inj : ∀ {l r : List Nat}, (∀ x ∈ l, x < 16) → (∀ x ∈ r, x < 16) → l.map Lib.decDigits = r.map Lib.decDigits → l = r
  | [], [], _, _, _ => rfl
  | [], y :: r, _, _, h => by simp at h
  | x :: l, [], _, _, h => by simp at h
  | x :: l, y :: r, hl, hr, h => by
    simp only [List.map_cons, List.cons.injEq] at h
    have hx := hl x (by simp)
    have hy := hr y (by simp)
    have h1 : dec2 x = dec2 y := by rw [← dec_eq (by omega), ← dec_eq (by omega)]; exact h.1
    have h2 := congrArg Fin.val (dec2_inj ⟨x, hx⟩ ⟨y, hy⟩ h1)
    simp only at h2
    rw [h2, map_dec_inj (fun z hz => hl z (by simp [hz])) (fun z hz => hr z (by simp [hz])) h.2]
theorem textL_inj {l r : List Nat} (hl : ∀ x ∈ l, x < 16) (hr : ∀ x ∈ r, x < 16) (h : textL l = textL r) : l = r := by
  cases l with
  | nil =>
    cases r with
    | nil => rfl
    | cons y r =>
      exfalso
      unfold textL at h
      rw [if_pos rfl, if_neg (by simp), List.map_cons, Lib.join_cons] at h
      exact dec_head (hr y (by simp)) _ h.symm
  | cons x l =>
    cases r with
    | nil =>
      exfalso
      unfold textL at h
      rw [if_pos rfl, if_neg (by simp), List.map_cons, Lib.join_cons] at h
      exact dec_head (hl x (by simp)) _ h
    | cons y r =>
      unfold textL at h
      rw [if_neg (by simp), if_neg (by simp), List.map_cons, List.map_cons, Lib.join_cons, Lib.join_cons] at h
      obtain ⟨h1, h2⟩ := cut_eq (dec_noComma (hl x (by simp))) (dec_noComma (hr y (by simp))) (joinTail_tail _) (joinTail_tail _) h
      have nc : ∀ (l : List Nat), (∀ x ∈ l, x < 16) → ∀ x ∈ l.map Lib.decDigits, NoComma x := fun l hl x hx => by
        obtain ⟨y, hy, rfl⟩ := List.mem_map.1 hx
        exact dec_noComma (hl y hy)
      have h3 := joinTail_inj (nc l fun z hz => hl z (by simp [hz])) (nc r fun z hz => hr z (by simp [hz])) h2
      refine map_dec_inj hl hr ?_
      rw [List.map_cons, List.map_cons, h1, h3]
theorem cores_inj {a b : Nat} (ha : a < 65536) (hb : b < 65536) (h : coresL a = coresL b) : a = b := by
  rw [← of_cores ha, ← of_cores hb, h]
theorem text_eq {a b : Nat} (ha : a < 65536) (hb : b < 65536) : textS a = textS b ↔ a = b := by
  constructor
  · intro h
    have h1 : (textL (coresL a)).toArray = (textL (coresL b)).toArray := by injection h
    exact cores_inj ha hb (textL_inj (fun x hx => mem_coresL hx) (fun x hx => mem_coresL hx) (by simpa using h1))
  · intro h; rw [h]
end Go.Proofs.YtjfeaepjhnpbfaaDoor
