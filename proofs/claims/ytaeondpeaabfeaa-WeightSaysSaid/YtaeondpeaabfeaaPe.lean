/- Whoever takes, time and again, the first of the least that are left takes the places in their order. No program is named here. -/
import Derived.Test.YtaeondpeaabfeaaPd
namespace Go.Proofs.Ytaeondpeaabfeaa
open Go.RowKit Go.Sort

/-- The order of two places. -/
def lexN (o : List Int) (i j : Nat) : Bool := lexB (keyO o) (i : Int) (j : Int)
theorem lexN_false {o : List Int} {i j : Nat} (hi : i < o.length) (hj : j < o.length) : lexN o i j = false ↔ ¬ (o[i] < o[j] ∨ (o[i] = o[j] ∧ i < j)) := by
  unfold lexN
  rw [lexB_false, keyO_at o i hi, keyO_at o j hj]
  omega
theorem ordL_sorted (o : List Int) : (ordL o).Pairwise (fun x y => lexB (keyO o) y x = false) := by
  have h := List.pairwise_mergeSort (le := fun x y => !lexB (keyO o) y x) (l := (iota o.length).toList)
    (fun x y z h1 h2 => by
      simp only [Bool.not_eq_true'] at *
      exact (lexB_swo _).ntrans _ _ _ h2 h1)
    (fun x y => by
      cases h1 : lexB (keyO o) y x with
      | false => simp
      | true => simp [(lexB_swo _).asymmA h1])
  exact h.imp (fun h => by simpa using h)
theorem placeL_sorted (o : List Int) : (placeL o).Pairwise (fun i j => lexN o j i = false) := by
  unfold placeL
  rw [List.pairwise_map]
  refine (ordL_sorted o).imp_of_mem ?_
  intro x y hx hy h
  have nn : ∀ z ∈ ordL o, 0 ≤ z := by
    intro z hz
    have := (ordL_perm o).mem_iff.1 hz
    unfold iota at this
    simp only [List.mem_map, List.mem_range] at this
    obtain ⟨i, _, rfl⟩ := this
    omega
  unfold lexN
  rw [Int.toNat_of_nonneg (nn x hx), Int.toNat_of_nonneg (nn y hy)]
  exact h

/-- best is the first of the least below i that is not taken, or -1. -/
def MinAt (o : List Int) (D : List Nat) (i : Nat) (best : Int) : Prop :=
  (best = -1 ∧ ∀ j, j < i → j ∈ D) ∨ (∃ b : Nat, best = b ∧ b < i ∧ b ∉ D ∧ ∀ j, j < i → j ∉ D → lexN o j b = false)
theorem MinAt.start (o : List Int) (D : List Nat) : MinAt o D 0 (-1) := .inl ⟨rfl, fun j h => by omega⟩
theorem MinAt.skip {o : List Int} {D : List Nat} {i : Nat} {best : Int} (h : MinAt o D i best) (hi : i ∈ D) : MinAt o D (i + 1) best := by
  rcases h with ⟨h1, h2⟩ | ⟨b, h1, h2, h3, h4⟩
  · refine .inl ⟨h1, fun j hj => ?_⟩
    by_cases e : j = i
    · subst e; exact hi
    · exact h2 j (by omega)
  · refine .inr ⟨b, h1, by omega, h3, fun j hj hd => ?_⟩
    by_cases e : j = i
    · subst e; exact absurd hi hd
    · exact h4 j (by omega) hd
theorem MinAt.first {o : List Int} {D : List Nat} {i : Nat} {best : Int} (h : MinAt o D i best) (hb : best < 0) (hi : i ∉ D) (hio : i < o.length) : MinAt o D (i + 1) (i : Int) := by
  rcases h with ⟨h1, h2⟩ | ⟨b, h1, h2, h3, h4⟩
  · refine .inr ⟨i, rfl, by omega, hi, fun j hj hd => ?_⟩
    by_cases e : j = i
    · subst e; rw [lexN_false hio hio]; omega
    · exact absurd (h2 j (by omega)) hd
  · omega
theorem MinAt.better {o : List Int} {D : List Nat} {i b : Nat} (h : MinAt o D i (b : Int)) (hi : i ∉ D) (hio : i < o.length) (hbo : b < o.length) (hlt : o[i] < o[b]) : MinAt o D (i + 1) (i : Int) := by
  rcases h with ⟨h1, h2⟩ | ⟨b', h1, h2, h3, h4⟩
  · omega
  · obtain rfl : b = b' := by omega
    refine .inr ⟨i, rfl, by omega, hi, fun j hj hd => ?_⟩
    by_cases e : j = i
    · subst e; rw [lexN_false hio hio]; omega
    · have := (lexN_false (show j < o.length by omega) hbo).1 (h4 j (by omega) hd)
      rw [lexN_false (by omega) hio]; omega
theorem MinAt.keep {o : List Int} {D : List Nat} {i b : Nat} (h : MinAt o D i (b : Int)) (hio : i < o.length) (hbo : b < o.length) (hlt : ¬ o[i] < o[b]) : MinAt o D (i + 1) (b : Int) := by
  rcases h with ⟨h1, h2⟩ | ⟨b', h1, h2, h3, h4⟩
  · omega
  · obtain rfl : b = b' := by omega
    refine .inr ⟨b, rfl, by omega, h3, fun j hj hd => ?_⟩
    by_cases e : j = i
    · subst e; rw [lexN_false hio hbo]; omega
    · exact h4 j (by omega) hd
theorem MinAt.form {o : List Int} {D : List Nat} {i : Nat} {best : Int} (h : MinAt o D i best) : best = -1 ∨ ∃ b : Nat, best = b ∧ b < i ∧ b ∉ D := by
  rcases h with ⟨h1, _⟩ | ⟨b, h1, h2, h3, _⟩
  · exact .inl h1
  · exact .inr ⟨b, h1, h2, h3⟩

theorem MinAt.done {o : List Int} {t : Nat} {best : Int} (ht : t < o.length) (h : MinAt o ((placeL o).take t) o.length best) : best = (((placeL o)[t]'(by rw [placeL_length]; exact ht) : Nat) : Int) := by
  have hl := placeL_length o
  have htl : t < (placeL o).length := by rw [hl]; exact ht
  have hnd := placeL_nodup o
  have hsp : placeL o = (placeL o).take t ++ (placeL o).drop t := (List.take_append_drop t _).symm
  have hdr : (placeL o).drop t = (placeL o)[t] :: (placeL o).drop (t + 1) := List.drop_eq_getElem_cons htl
  have hpl : (placeL o)[t] < o.length := placeL_lt o _ (List.getElem_mem htl)
  have hn : (placeL o)[t] ∉ (placeL o).take t := by
    rw [hsp, List.nodup_append] at hnd
    intro hm
    exact hnd.2.2 _ hm _ (by rw [hdr]; exact List.mem_cons_self) rfl
  rcases h with ⟨h1, h2⟩ | ⟨b, h1, h2, h3, h4⟩
  · exact absurd (h2 _ hpl) hn
  · rw [h1]
    have e1 := h4 _ hpl hn
    have hb : b ∈ placeL o := (placeL_perm o).mem_iff.2 (List.mem_range.2 h2)
    rw [hsp, List.mem_append] at hb
    rcases hb with hb | hb
    · exact absurd hb h3
    · rw [hdr, List.mem_cons] at hb
      rcases hb with hb | hb
      · rw [hb]
      · have hs := placeL_sorted o
        rw [hsp, List.pairwise_append] at hs
        have hs2 := hs.2.1
        rw [hdr, List.pairwise_cons] at hs2
        have e2 := hs2.1 b hb
        have := lexB_total (keyO o) _ _ e1 e2
        omega

/-- Who has been taken. -/
def doneL (o : List Int) (t : Nat) : List Bool := (List.range o.length).map fun j => decide (j ∈ (placeL o).take t)
theorem doneL_length (o : List Int) (t : Nat) : (doneL o t).length = o.length := by simp [doneL]
theorem doneL_zero (o : List Int) : doneL o 0 = List.replicate o.length false := by
  apply List.ext_getElem
  · simp [doneL]
  · intro i h1 h2; simp [doneL]
theorem doneL_at (o : List Int) (t j : Nat) (h : j < o.length) : (doneL o t)[j]'(by rw [doneL_length]; exact h) = decide (j ∈ (placeL o).take t) := by simp [doneL]
theorem doneL_set (o : List Int) (t : Nat) (h : t < o.length) : (doneL o t).set ((placeL o)[t]'(by rw [placeL_length]; exact h)) true = doneL o (t + 1) := by
  have htl : t < (placeL o).length := by rw [placeL_length]; exact h
  apply List.ext_getElem
  · simp [doneL]
  · intro i h1 h2
    have hi : i < o.length := by rw [doneL_length] at h2; exact h2
    rw [List.getElem_set, doneL_at o (t + 1) i hi]
    have e : (placeL o).take (t + 1) = (placeL o).take t ++ [(placeL o)[t]] := by rw [List.take_add_one, List.getElem?_eq_getElem htl]; rfl
    split
    · rename_i e2; rw [e, ← e2]; exact (decide_eq_true (List.mem_append_right _ (List.mem_singleton.2 rfl))).symm
    · rename_i e2
      rw [doneL_at o t i hi, e]
      congr 1
      simp only [List.mem_append, List.mem_singleton]
      refine propext ⟨Or.inl, fun x => ?_⟩
      rcases x with x | x
      · exact x
      · exact absurd x.symm e2
theorem place_take (o : List Int) (t : Nat) (h : t < o.length) : (placeL o).take (t + 1) = (placeL o).take t ++ [(placeL o)[t]'(by rw [placeL_length]; exact h)] := by
  rw [List.take_add_one, List.getElem?_eq_getElem (by rw [placeL_length]; exact h)]; rfl
/-- Whoever has not been taken has its share. -/
theorem bumps_not (l : List Int) (n : Int) (t j : Nat) (hj : j < l.length) (hd : j ∉ (placeL (ofL l n)).take t) : (bumps (shL l n) ((placeL (ofL l n)).take t))[j]? = some (n * l[j] / l.sum) := by
  have h := bumps_at ((placeL (ofL l n)).take t) (shL l n) ((placeL_nodup _).sublist (List.take_sublist _ _)) j (by rw [shL_length]; exact hj)
  have hk2 : j < (bumps (shL l n) ((placeL (ofL l n)).take t)).length := by rw [bumps_length, shL_length]; exact hj
  have hk3 : j < (shL l n).length := by rw [shL_length]; exact hj
  rw [if_neg hd, List.getD_eq_getElem?_getD, List.getElem?_eq_getElem hk2, List.getD_eq_getElem?_getD, List.getElem?_eq_getElem hk3, Option.getD_some, Option.getD_some, shL_at l n j hj] at h
  rw [List.getElem?_eq_getElem hk2, h]; simp
end Go.Proofs.Ytaeondpeaabfeaa
