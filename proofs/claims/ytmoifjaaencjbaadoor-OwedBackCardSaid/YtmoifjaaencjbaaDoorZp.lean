/- Forms, plain theory: what is put in and dropped again. -/
import Derived.Test.YtmoifjaaencjbaaDoorZo
import Derived.Test.YtmoifjaaencjbaaDoorZj
namespace Go.Proofs.YtmoifjaaencjbaaDoor

theorem insK_le (id : Int) (l : List RI) : insK id l ≤ l.length := by
  rcases insK_spec id l with ⟨_, h⟩ | ⟨k, _, h, h2⟩
  · omega
  · omega
theorem has_no {id : Int} {l : List RI} (h : hasL id l = false) : ∀ r ∈ l, idIs id r = false := by
  unfold hasL at h
  rcases idxL_spec (idIs id) l 0 with ⟨_, h2⟩ | ⟨k, r, h1, _⟩
  · exact h2
  · rw [h1] at h; simp at h
theorem ins_len (l : List RI) (x : RI) : (l.take (insK x.1 l)).length = insK x.1 l := by
  rw [List.length_take]; have := insK_le x.1 l; omega
theorem insA_eq (l : List RI) (x : RI) : insA l x = l.take (insK x.1 l) ++ (x :: l.drop (insK x.1 l)) := by unfold insA; simp
theorem insA_at (l : List RI) (x : RI) : (insA l x)[insK x.1 l]? = some x := by
  rw [insA_eq, List.getElem?_append_right (by rw [ins_len]; exact Nat.le_refl _), ins_len, Nat.sub_self]; rfl
theorem insA_before {l : List RI} {x r : RI} {k : Nat} (h : (insA l x)[k]? = some r) (hk : k < insK x.1 l) : r ∈ l := by
  rw [insA_eq, List.getElem?_append_left (by rw [ins_len]; exact hk)] at h
  exact List.mem_of_mem_take (List.mem_of_getElem? h)
theorem insA_idx {l : List RI} {x : RI} (h : hasL x.1 l = false) : idxL (idIs x.1) (insA l x) 0 = (insK x.1 l : Int) ∧ findV x.1 (insA l x) = some x := by
  have hx : idIs x.1 x = true := by unfold idIs; simp
  have hat := insA_at l x
  have hno := has_no h
  rcases idxL_spec (idIs x.1) (insA l x) 0 with ⟨_, h2⟩ | ⟨k, r, h1, h2, h3, h4⟩
  · have := h2 x (List.mem_of_getElem? hat); rw [hx] at this; cases this
  · rw [Nat.zero_add] at h1
    have hk : k = insK x.1 l := by
      rcases Nat.lt_trichotomy k (insK x.1 l) with hlt | he | hgt
      · have := hno r (insA_before h2 hlt); rw [h3] at this; cases this
      · exact he
      · have := h4 _ hgt x hat; rw [hx] at this; cases this
    subst hk
    rw [hat] at h2
    obtain rfl := Option.some.inj h2
    exact ⟨h1, find_some hat hx h4⟩
theorem insA_del (l : List RI) (x : RI) : delA (insA l x) (insK x.1 l) = l := by
  unfold delA
  have e1 : (insA l x).take (insK x.1 l) = l.take (insK x.1 l) := by
    rw [insA_eq]; exact List.take_left' (ins_len l x)
  have e2 : (insA l x).drop (insK x.1 l + 1) = l.drop (insK x.1 l) := by
    have e3 : insA l x = (l.take (insK x.1 l) ++ [x]) ++ l.drop (insK x.1 l) := rfl
    rw [e3]
    exact List.drop_left' (by rw [List.length_append, ins_len]; rfl)
  rw [e1, e2, List.take_append_drop]
theorem goodV_cur {f0 id : Int} {l : List RI} (h : goodV f0 l = true) (hh : hasL id l = false) (h0 : 0 ≤ id) : f0 ≠ id := by
  intro e
  subst e
  unfold goodV at h
  simp at h
  obtain ⟨⟨_, h3⟩, _⟩ := h
  rcases h3 with h3 | h3
  · omega
  · rw [hh] at h3; cases h3
theorem insA_good_id {f0 : Int} {l : List RI} {x : RI} (h : goodV f0 (insA l x) = true) : 0 ≤ x.1 := by
  unfold goodV at h
  simp at h
  obtain ⟨⟨⟨_, h2⟩, _⟩, _⟩ := h
  exact (itemB_true.1 (ascB_items h2 x (List.mem_of_getElem? (insA_at l x)))).1
/-- What is put in and dropped again: the answers. -/
theorem back_drop {f0 : Int} {l : List RI} {x : RI} (hG : goodV f0 l = true) (hH : hasL x.1 l = false) (hG2 : goodV f0 (insA l x) = true) : dropO f0 (insA l x) x.1 = (0, f0, l) := by
  obtain ⟨h1, _⟩ := insA_idx hH
  unfold dropO
  rw [if_neg (by simp [hG2]), h1, if_neg (by omega), if_neg (goodV_cur hG hH (insA_good_id hG2))]
  rw [Int.toNat_natCast, insA_del]
theorem insA_len (l : List RI) (x : RI) : (insA l x).length = l.length + 1 := insA_length l x (insK_le _ _)
end Go.Proofs.YtmoifjaaencjbaaDoor
