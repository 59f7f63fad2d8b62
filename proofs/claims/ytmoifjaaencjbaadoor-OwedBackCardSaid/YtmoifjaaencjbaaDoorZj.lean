/- Forms, plain theory: who is owed most; texts read back. -/
import Derived.Test.YtmoifjaaencjbaaDoorZg
import Derived.Test.YtmoifjaaencjbaaDoorZe
namespace Go.Proofs.YtmoifjaaencjbaaDoor

/-! Who is owed most -/
theorem befF_no {a b : RI} : befF a b = false ↔ ¬ (b.2.2 < a.2.2 ∨ (a.2.2 = b.2.2 ∧ a.1 < b.1)) := by
  rw [← befF_iff]; simp
theorem bestF_best : ∀ (l : List RI) (m : RI), ∀ y ∈ m :: l, befF y (bestF m l) = false
  | [], m, y, hy => by
    simp at hy
    subst hy
    rw [befF_no, bestF]
    omega
  | x :: xs, m, y, hy => by
    rw [bestF]
    by_cases h : befF x m = true
    · rw [if_pos h]
      have ih := bestF_best xs x
      have hx := ih x (by simp)
      simp at hy
      rcases hy with rfl | rfl | hy
      · rw [befF_no] at hx ⊢; rw [befF_iff] at h; omega
      · exact hx
      · exact ih y (by simp [hy])
    · rw [if_neg h]
      have ih := bestF_best xs m
      have hm := ih m (by simp)
      simp at hy h
      rcases hy with rfl | rfl | hy
      · exact hm
      · rw [befF_no] at hm h ⊢; omega
      · exact ih y (by simp [hy])
theorem bestF_mem : ∀ (l : List RI) (m : RI), bestF m l ∈ m :: l
  | [], m => by simp [bestF]
  | x :: xs, m => by
    rw [bestF]
    by_cases h : befF x m = true
    · rw [if_pos h]
      have := bestF_mem xs x
      simp at this ⊢
      exact .inr this
    · rw [if_neg h]
      have := bestF_mem xs m
      simp at this ⊢
      rcases this with h | h
      · exact .inl h
      · exact .inr (.inr h)
theorem frontV_best {l : List RI} {y : RI} (h : y ∈ l) : ¬ ((frontV l).2.2 < y.2.2 ∨ (y.2.2 = (frontV l).2.2 ∧ y.1 < (frontV l).1)) := by
  cases l with
  | nil => simp at h
  | cons x xs => exact befF_no.1 (bestF_best xs x y h)
theorem frontV_mem {l : List RI} (h : someL l = true) : frontV l ∈ l := by
  cases l with
  | nil => simp [someL] at h
  | cons x xs => exact bestF_mem xs x
theorem goodV_front {c : Int} {l : List RI} (h : goodV c l = true) (h2 : someL l = true) : 0 ≤ (frontV l).2.2 := by
  unfold goodV at h
  simp [h2] at h
  exact h.2

/-! What a good form holds -/
theorem ascB_items : ∀ {l : List RI} {q : Int}, ascB q l = true → ∀ r ∈ l, itemB r = true
  | [], _, _, r, hr => by simp at hr
  | x :: xs, q, h, r, hr => by
    rw [ascB] at h
    simp at h
    simp at hr
    rcases hr with rfl | hr
    · exact h.1.2
    · exact ascB_items h.2 r hr
theorem itemB_sm {r : RI} (h : itemB r = true) : SmR r := by
  rw [itemB_true] at h
  unfold SmR Sm
  omega
theorem idxL_mem (p : RI → Bool) : ∀ (l : List RI) (k : Nat), 0 ≤ idxL p l k → ∃ r ∈ l, p r = true
  | [], _, h => by simp [idxL] at h
  | x :: xs, k, h => by
    rw [idxL] at h
    by_cases hp : p x = true
    · exact ⟨x, by simp, hp⟩
    · rw [if_neg hp] at h
      obtain ⟨r, h1, h2⟩ := idxL_mem p xs _ h
      exact ⟨r, by simp [h1], h2⟩
theorem goodV_parts {c : Int} {l : List RI} (h : goodV c l = true) : l.length ≤ 64 ∧ (∀ r ∈ l, SmR r) ∧ Sm c := by
  unfold goodV at h
  simp at h
  obtain ⟨⟨⟨h1, h2⟩, h3⟩, h4⟩ := h
  refine ⟨h1, fun r hr => itemB_sm (ascB_items h2 r hr), ?_⟩
  rcases h3 with rfl | h3
  · unfold Sm; omega
  · unfold hasL at h3
    simp at h3
    obtain ⟨r, hr, he⟩ := idxL_mem _ _ _ h3
    unfold idIs at he
    simp at he
    subst he
    exact (itemB_sm (ascB_items h2 r hr)).1

/-! Numerals and texts -/
/-- The number of a list of digits. -/
def valD (l : List UInt8) : Nat := l.foldl (fun a d => a * 10 + (d.toNat - 48)) 0
theorem valD_app (l : List UInt8) (d : UInt8) : valD (l ++ [d]) = valD l * 10 + (d.toNat - 48) := by simp [valD]
theorem dig_toNat {n : Nat} (h : n < 10) : (UInt8.ofNat (48 + n)).toNat = 48 + n := by
  rw [UInt8.toNat_ofNat']; omega
theorem valD_dec (u : Nat) : valD (Lib.decDigits u) = u := by
  induction u using Nat.strongRecOn with
  | _ u ih =>
    by_cases h : u < 10
    · rw [Lib.decDigits, dif_pos h]
      simp only [valD, List.foldl_cons, List.foldl_nil, dig_toNat h]
      omega
    · rw [Lib.decDigits, dif_neg h, valD_app, ih (u / 10) (by omega), dig_toNat (by omega)]
      omega
def IsDig (b : UInt8) : Prop := 48 ≤ b.toNat ∧ b.toNat ≤ 57
theorem dec_digits (u : Nat) : ∀ b ∈ Lib.decDigits u, IsDig b := by
  induction u using Nat.strongRecOn with
  | _ u ih =>
    intro b hb
    by_cases h : u < 10
    · rw [Lib.decDigits, dif_pos h] at hb
      have e := List.mem_singleton.1 hb
      have := dig_toNat (n := u) h
      unfold IsDig
      rw [e, this]
      omega
    · rw [Lib.decDigits, dif_neg h, List.mem_append] at hb
      rcases hb with hb | hb
      · exact ih (u / 10) (by omega) b hb
      · have e := List.mem_singleton.1 hb
        have := dig_toNat (n := u % 10) (by omega)
        unfold IsDig
        rw [e, this]
        omega
theorem itoa_bytes (z : Int) : ∀ b ∈ Lib.itoa z, b = 45 ∨ IsDig b := by
  intro b hb
  unfold Lib.itoa at hb
  split at hb
  · rcases List.mem_cons.1 hb with h | h
    · exact .inl h
    · exact .inr (dec_digits _ b h)
  · exact .inr (dec_digits _ b hb)
theorem dec_inj {u v : Nat} (h : Lib.decDigits u = Lib.decDigits v) : u = v := by rw [← valD_dec u, ← valD_dec v, h]
theorem dec_no45 {u : Nat} {t : List UInt8} (h : Lib.decDigits u = 45 :: t) : False := by
  have := dec_digits u 45 (by rw [h]; simp)
  revert this
  unfold IsDig
  decide
theorem itoa_inj {a b : Int} (h : Lib.itoa a = Lib.itoa b) : a = b := by
  unfold Lib.itoa at h
  split at h <;> split at h
  · have := dec_inj (List.cons.inj h).2; omega
  · exact (dec_no45 h.symm).elim
  · exact (dec_no45 h).elim
  · have := dec_inj h; omega
theorem itoa_no (z : Int) (s : UInt8) (hs : s = 32 ∨ s = 47 ∨ s = 58) : ∀ b ∈ Lib.itoa z, b ≠ s := by
  intro b hb e
  subst e
  rcases itoa_bytes z b hb with h | h
  · subst h; revert hs; decide
  · unfold IsDig at h
    rcases hs with rfl | rfl | rfl <;> revert h <;> decide

def TailS (s : UInt8) (t : List UInt8) : Prop := t = [] ∨ ∃ r, t = s :: r
theorem cut_eq (s : UInt8) : ∀ {x y t u : List UInt8}, (∀ b ∈ x, b ≠ s) → (∀ b ∈ y, b ≠ s) → TailS s t → TailS s u → x ++ t = y ++ u → x = y ∧ t = u
  | [], [], _, _, _, _, _, _, h => ⟨rfl, h⟩
  | [], b :: y, t, u, _, hy, ht, _, h => by
    rcases ht with rfl | ⟨r, rfl⟩
    · simp at h
    · simp at h
      exact absurd h.1.symm (hy b (by simp))
  | a :: x, [], t, u, hx, _, _, hu, h => by
    rcases hu with rfl | ⟨r, rfl⟩
    · simp at h
    · simp at h
      exact absurd h.1 (hx a (by simp))
  | a :: x, b :: y, t, u, hx, hy, ht, hu, h => by
    simp at h
    obtain ⟨h1, h2⟩ := h
    obtain ⟨h3, h4⟩ := cut_eq s (fun c hc => hx c (by simp [hc])) (fun c hc => hy c (by simp [hc])) ht hu h2
    exact ⟨by rw [h1, h3], h4⟩
theorem cut_num (s : UInt8) (hs : s = 32 ∨ s = 47 ∨ s = 58) {a b : Int} {t u : List UInt8} (ht : TailS s t) (hu : TailS s u) (h : Lib.itoa a ++ t = Lib.itoa b ++ u) : a = b ∧ t = u := by
  obtain ⟨h1, h2⟩ := cut_eq s (itoa_no a s hs) (itoa_no b s hs) ht hu h
  exact ⟨itoa_inj h1, h2⟩
theorem itemsT_cons (x : RI) (xs : List RI) : itemsT (x :: xs) = 32 :: (Lib.itoa x.1 ++ (47 :: (Lib.itoa x.2.1 ++ (47 :: (Lib.itoa x.2.2 ++ itemsT xs))))) := by simp [itemsT, itemT]
theorem itemsT_tail (l : List RI) : TailS 32 (itemsT l) := by
  cases l with
  | nil => exact .inl rfl
  | cons x xs => exact .inr ⟨_, itemsT_cons x xs⟩
theorem itemsT_inj : ∀ {l m : List RI}, itemsT l = itemsT m → l = m
  | [], [], _ => rfl
  | [], y :: m, h => by rw [itemsT_cons] at h; simp [itemsT] at h
  | x :: l, [], h => by rw [itemsT_cons] at h; simp [itemsT] at h
  | x :: l, y :: m, h => by
    rw [itemsT_cons, itemsT_cons] at h
    have h := (List.cons.inj h).2
    obtain ⟨e0, h⟩ := cut_num 47 (.inr (.inl rfl)) (.inr ⟨_, rfl⟩) (.inr ⟨_, rfl⟩) h
    have h := (List.cons.inj h).2
    obtain ⟨e1, h⟩ := cut_num 47 (.inr (.inl rfl)) (.inr ⟨_, rfl⟩) (.inr ⟨_, rfl⟩) h
    have h := (List.cons.inj h).2
    obtain ⟨e2, h⟩ := cut_num 32 (.inl rfl) (itemsT_tail l) (itemsT_tail m) h
    rw [itemsT_inj h]
    obtain ⟨x0, x1, x2⟩ := x
    obtain ⟨y0, y1, y2⟩ := y
    simp only at e0 e1 e2
    rw [e0, e1, e2]
theorem textL_inj {a b : Int} {l m : List RI} (h : textL a l = textL b m) : a = b ∧ l = m := by
  unfold textL at h
  rw [List.append_assoc, List.append_assoc] at h
  obtain ⟨e, h⟩ := cut_num 58 (.inr (.inr rfl)) (.inr ⟨_, rfl⟩) (.inr ⟨_, rfl⟩) h
  exact ⟨e, itemsT_inj (List.cons.inj h).2⟩
end Go.Proofs.YtmoifjaaencjbaaDoor
