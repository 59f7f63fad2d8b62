/- Groups: what is under what. -/
import Derived.Test.YtbhcooomdjhoiaaVi
namespace Go.Proofs.Ytbhcooomdjhoiaa
open Go.RowKit Go.Shelf

theorem Chn.tail {G : List GR} {i : Nat} {l : List Nat} (h : Chn G i l) : ∀ x ∈ l, ∃ l', Chn G x l' ∧ l' <:+ l := by
  induction h with
  | root h =>
    intro x hx
    simp at hx
    subst hx
    exact ⟨_, .root h, List.suffix_refl _⟩
  | @up i u l h0 h1 h2 ih =>
    intro x hx
    rcases List.mem_cons.1 hx with rfl | hx
    · exact ⟨_, .up h0 h1 h2, List.suffix_refl _⟩
    · obtain ⟨l', h3, h4⟩ := ih x hx
      exact ⟨l', h3, h4.trans (List.suffix_cons _ _)⟩
theorem Chn.zero {G : List GR} {i : Nat} {l : List Nat} (h : Chn G i l) : 0 ∈ l := by
  induction h with
  | root h => simp
  | up _ _ _ ih => simp [ih]
theorem underG_mem {G : List GR} {a b : Int} (h : underG G a b = true) : ∃ x : Nat, b = x ∧ x ∈ chI G a := by
  unfold underG at h
  obtain ⟨x, hx, he⟩ := List.any_eq_true.1 h
  exact ⟨x, by simpa using (of_decide_eq_true (by simpa using he) : (x : Int) = b).symm, hx⟩
theorem underG_of {G : List GR} {a : Int} {x : Nat} (h : x ∈ chI G a) : underG G a x = true := by
  unfold underG
  exact List.any_eq_true.2 ⟨x, h, by simp⟩
theorem WfG.ch {G : List GR} (h : WfG G) {a : Int} (hn : chI G a ≠ []) : ∃ i : Nat, a = i ∧ Chn G i (chI G a) ∧ (chI G a).length ≤ 4 := by
  refine h.chn ?_
  cases hh : hasG G a with
  | true => rfl
  | false => exact absurd (chI_no hh) hn
/-- What stands on the way up of one that is on the way up. -/
theorem WfG.sub {G : List GR} (h : WfG G) {a : Int} {x : Nat} (hx : x ∈ chI G a) : chI G x <:+ chI G a := by
  obtain ⟨i, rfl, hc, hl⟩ := h.ch (a := a) (List.ne_nil_of_mem hx)
  obtain ⟨l', h1, h2⟩ := hc.tail x hx
  rw [chI_of h1 (by have := h2.length_le; omega)]
  exact h2
theorem WfG.trans {G : List GR} (h : WfG G) {a b c : Int} (h1 : underG G a b = true) (h2 : underG G b c = true) : underG G a c = true := by
  obtain ⟨x, rfl, hx⟩ := underG_mem h1
  obtain ⟨y, rfl, hy⟩ := underG_mem h2
  exact underG_of ((h.sub hx).subset hy)
theorem WfG.anti {G : List GR} (h : WfG G) {a b : Int} (h1 : underG G a b = true) (h2 : underG G b a = true) : a = b := by
  obtain ⟨x, rfl, hx⟩ := underG_mem h1
  obtain ⟨y, rfl, hy⟩ := underG_mem h2
  have s1 := h.sub hx
  have s2 := h.sub hy
  have e := s1.eq_of_length_le s2.length_le
  obtain ⟨i, hi, hc, _⟩ := h.ch (a := (y : Int)) (List.ne_nil_of_mem hx)
  obtain ⟨j, hj, hd, _⟩ := h.ch (a := (x : Int)) (List.ne_nil_of_mem hy)
  obtain ⟨_, _, e1, _⟩ := hc.ne
  obtain ⟨_, _, e2, _⟩ := hd.ne
  rw [e1, e2] at e
  injection e with e _
  omega
theorem WfG.top {G : List GR} (h : WfG G) {a : Int} (hn : chI G a ≠ []) : underG G a 0 = true ∧ underG G a a = true := by
  obtain ⟨i, rfl, hc, _⟩ := h.ch hn
  refine ⟨underG_of (x := 0) hc.zero, underG_of ?_⟩
  obtain ⟨_, _, e, _⟩ := hc.ne
  rw [e]
  simp
end Go.Proofs.Ytbhcooomdjhoiaa
