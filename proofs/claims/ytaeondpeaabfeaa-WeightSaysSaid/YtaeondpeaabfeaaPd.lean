/- Plain theory of weight.Parts: each gets its share or one more; all is given out. No program is named here. -/
import Derived.Test.YtaeondpeaabfeaaGb
namespace Go.Proofs.Ytaeondpeaabfeaa
open Go.RowKit Go.Sort

theorem bump_sum (q : List Int) : ∀ (i : Nat), i < q.length → (bump q i).sum = q.sum + 1 := by
  unfold bump
  induction q with
  | nil => intro i h; simp at h
  | cons x t ih =>
    intro i h
    cases i with
    | zero => simp; omega
    | succ i =>
      have := ih i (by simpa using h)
      simp only [List.set_cons_succ, List.sum_cons, List.getD_cons_succ]
      rw [this]; omega
theorem bumps_sum (ps : List Nat) : ∀ (q : List Int), (∀ p ∈ ps, p < q.length) → (bumps q ps).sum = q.sum + (ps.length : Int) := by
  induction ps with
  | nil => intro q _; simp [bumps]
  | cons p t ih =>
    intro q h
    show (bumps (bump q p) t).sum = _
    rw [ih _ (fun x hx => by rw [bump_length]; exact h x (by simp [hx])), bump_sum q p (h p (by simp)), List.length_cons]
    omega
theorem bump_at (q : List Int) (p i : Nat) (hi : i < q.length) : (bump q p).getD i 0 = q.getD i 0 + if i = p then 1 else 0 := by
  unfold bump
  rw [List.getD_eq_getElem?_getD, List.getElem?_set]
  by_cases e : p = i
  · subst e; rw [if_pos rfl, if_pos hi, if_pos rfl]; rfl
  · rw [if_neg e, if_neg (by omega), List.getD_eq_getElem?_getD]; omega
theorem bumps_at (ps : List Nat) : ∀ (q : List Int), ps.Nodup → ∀ i, i < q.length → (bumps q ps).getD i 0 = q.getD i 0 + if i ∈ ps then 1 else 0 := by
  induction ps with
  | nil => intro q _ i _; simp [bumps]
  | cons p t ih =>
    intro q hn i hi
    rw [List.nodup_cons] at hn
    show (bumps (bump q p) t).getD i 0 = _
    rw [ih _ hn.2 i (by rw [bump_length]; exact hi), bump_at q p i hi]
    by_cases e : i = p
    · subst e; rw [if_pos rfl, if_neg hn.1, if_pos (by simp)]; omega
    · rw [if_neg e]
      by_cases m : i ∈ t
      · rw [if_pos m, if_pos (by simp [m])]; omega
      · rw [if_neg m, if_neg (by simp [e, m])]; omega

theorem ordL_perm (o : List Int) : (ordL o).Perm (iota o.length).toList := List.mergeSort_perm _ _
theorem iota_list (n : Nat) : (iota n).toList.map Int.toNat = List.range n := by
  unfold iota
  simp only [List.map_map]
  conv => rhs; rw [← List.map_id (List.range n)]
  apply List.map_congr_left
  intro i _
  simp
/-- The places as natural numbers. -/
def placeL (o : List Int) : List Nat := (ordL o).map Int.toNat
theorem placeL_perm (o : List Int) : (placeL o).Perm (List.range o.length) := by
  unfold placeL
  rw [← iota_list]
  exact (ordL_perm o).map _
theorem placeL_nodup (o : List Int) : (placeL o).Nodup := (placeL_perm o).nodup_iff.2 List.nodup_range
theorem placeL_lt (o : List Int) (p : Nat) (h : p ∈ placeL o) : p < o.length := List.mem_range.1 ((placeL_perm o).mem_iff.1 h)
theorem placeL_length (o : List Int) : (placeL o).length = o.length := by rw [(placeL_perm o).length_eq, List.length_range]

theorem partsL_eq (l : List Int) (n : Int) : partsL l n = bumps (shL l n) ((placeL (ofL l n)).take (n - (shL l n).sum).toNat) := by
  unfold partsL placeL; rw [List.map_take]
theorem partsL_sum (l : List Int) (n : Int) (hb : totB l = true) (h0 : 0 < l.length) : (partsL l n).sum = n := by
  have hl := left_bound l n hb h0
  rw [partsL_eq, bumps_sum]
  · rw [List.length_take, placeL_length, ofL_length, Nat.min_eq_left (by omega)]; omega
  · intro p hp
    have := placeL_lt _ p (List.mem_of_mem_take hp)
    rw [ofL_length] at this
    rw [shL_length]; exact this
theorem partsL_at (l : List Int) (n : Int) (k : Nat) (hk : k < l.length) : ∃ z, (partsL l n)[k]? = some z ∧ (z = n * l[k] / l.sum ∨ z = n * l[k] / l.sum + 1) := by
  have h := bumps_at ((placeL (ofL l n)).take (n - (shL l n).sum).toNat) (shL l n) ((placeL_nodup _).sublist (List.take_sublist _ _)) k (by rw [shL_length]; exact hk)
  rw [← partsL_eq] at h
  have hk2 : k < (partsL l n).length := by rw [partsL_length]; exact hk
  have hk3 : k < (shL l n).length := by rw [shL_length]; exact hk
  rw [List.getD_eq_getElem?_getD, List.getElem?_eq_getElem hk2, List.getD_eq_getElem?_getD, List.getElem?_eq_getElem hk3, Option.getD_some, Option.getD_some, shL_at l n k hk] at h
  refine ⟨_, List.getElem?_eq_getElem hk2, ?_⟩
  rw [h]
  split
  · exact .inr rfl
  · exact .inl (by omega)
theorem partsL_le (l : List Int) (n : Int) (hb : totB l = true) (hn : 0 ≤ n) : ∀ z ∈ partsL l n, 0 ≤ z ∧ z ≤ n + 1 := by
  intro z hz
  obtain ⟨k, hk, rfl⟩ := List.mem_iff_getElem.1 hz
  have hk2 : k < l.length := by rw [partsL_length] at hk; exact hk
  obtain ⟨z, h1, h2⟩ := partsL_at l n k hk2
  rw [List.getElem?_eq_getElem hk] at h1
  injection h1 with h1
  have := share_le (fair_of l n hb hn _ (List.getElem_mem hk2))
  omega
end Go.Proofs.Ytaeondpeaabfeaa
