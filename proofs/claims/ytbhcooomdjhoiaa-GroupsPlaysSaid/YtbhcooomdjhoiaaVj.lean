/- Groups: what is under what. -/
import Derived.Test.YtbhcooomdjhoiaaVi
namespace Go.Proofs.Ytbhcooomdjhoiaa
open Go.RowKit Go.Shelf

theorem own_head {k : IntKind} {w : World} {base n c : Nat} {e : TypeId} {A : Option Addr} {l : List Int} (h : OwnI k w base e (.slice A n c) l) : ∀ ad, A = some ad → ∃ g, ad = ⟨g, 0, none⟩ := by
  rintro ad rfl
  rcases h.2 with ⟨h1, _⟩ | ⟨g, cap, cur, h1, _⟩
  · cases h1
  · injection h1 with h1 _ _
    injection h1 with h1
    exact ⟨g, h1⟩
theorem chain_in1 {W w : World} {b n : Nat} {G : List GR} {id : Int} {l : List Nat} (h : GAt W w b G) (e : chI G id = l) (hn : l.length = n) (h1 : 1 ≤ n) :
    Calls Try.prog 12 #[.pointer (some ⟨b, 0, none⟩), .int .i64 id] w fun e w' => ∃ g c, e = .returned (.slice (some ⟨g, 0, none⟩) n c) ∧ n ≤ c ∧ IRow .i64 w' w'.heap.size (some ⟨g, 0, none⟩) (ints64 l) ∧ GAt W w' b G ∧ Below w.heap.size w w' := by
  refine (chain_c b G id w h.is h.wf).mono ?_
  rintro e w' ⟨v, rfl, h2, h3⟩
  rw [e] at h2
  obtain ⟨A, c, g1, g2, _, g4⟩ := h2.form
  subst g1
  rw [ints64_length] at g2
  obtain ⟨ad, rfl, _⟩ := g4.at (i := 0) (by rw [ints64_length]; omega)
  rw [ints64_length] at h2
  obtain ⟨g, rfl⟩ := own_head h2 ad rfl
  exact ⟨g, c, by rw [ints64_length, hn], by omega, g4, h.below h3, h3⟩
theorem all_in1 {W w : World} {b n : Nat} {G : List GR} {l : List Nat} (h : GAt W w b G) (e : numsL G true = l) (hn : l.length = n) (h1 : 1 ≤ n) :
    Calls Try.prog 15 #[.pointer (some ⟨b, 0, none⟩)] w fun e w' => ∃ g c, e = .returned (.slice (some ⟨g, 0, none⟩) n c) ∧ n ≤ c ∧ IRow .i64 w' w'.heap.size (some ⟨g, 0, none⟩) (ints64 l) ∧ GAt W w' b G ∧ Below w.heap.size w w' := by
  refine (all_c b G w h.is).mono ?_
  rintro e w' ⟨v, rfl, h2, h3⟩
  rw [e] at h2
  obtain ⟨A, c, g1, g2, _, g4⟩ := h2.form
  subst g1
  rw [ints64_length] at g2
  obtain ⟨ad, rfl, _⟩ := g4.at (i := 0) (by rw [ints64_length]; omega)
  rw [ints64_length] at h2
  obtain ⟨g, rfl⟩ := own_head h2 ad rfl
  exact ⟨g, c, by rw [ints64_length, hn], by omega, g4, h.below h3, h3⟩
theorem add_at (g j : Nat) : (⟨g, 0, none⟩ : Addr).add j = ⟨g, j, none⟩ := by unfold Addr.add; split <;> simp_all
theorem IRow.cell {k : IntKind} {w : World} {B g j : Nat} {l : List Int} {z : Int} (h : IRow k w B (some ⟨g, 0, none⟩) l) (hj : l[j]? = some z) : w.cell? ⟨g, j, none⟩ = some (.int k z) := by
  obtain ⟨ad, e1, _, e2⟩ := h j z hj
  injection e1 with e1
  subst e1
  rwa [add_at] at e2

theorem Chn.tail {G : List GR} {i : Nat} {l : List Nat} (h : Chn G i l) : ∀ x ∈ l, ∃ l', Chn G x l' ∧ l' <:+ l := by
  induction h with
  | root h =>
    intro x hx
    simp at hx
    subst hx
    exact ⟨_, .root h, List.suffix_refl _⟩
  | @up i u l h0 h1 h2 ih =>
    intro x hx
    rcases List.mem_cons.1 hx with rfl | hx
    · exact ⟨_, .up h0 h1 h2, List.suffix_refl _⟩
    · obtain ⟨l', h3, h4⟩ := ih x hx
      exact ⟨l', h3, h4.trans (List.suffix_cons _ _)⟩
theorem Chn.zero {G : List GR} {i : Nat} {l : List Nat} (h : Chn G i l) : 0 ∈ l := by
  induction h with
  | root h => simp
  | up _ _ _ ih => simp [ih]
theorem underG_mem {G : List GR} {a b : Int} (h : underG G a b = true) : ∃ x : Nat, b = x ∧ x ∈ chI G a := by
  unfold underG at h
  obtain ⟨x, hx, he⟩ := List.any_eq_true.1 h
  exact ⟨x, by simpa using (of_decide_eq_true (by simpa using he) : (x : Int) = b).symm, hx⟩
theorem underG_of {G : List GR} {a : Int} {x : Nat} (h : x ∈ chI G a) : underG G a x = true := by
  unfold underG
  exact List.any_eq_true.2 ⟨x, h, by simp⟩
theorem WfG.ch {G : List GR} (h : WfG G) {a : Int} (hn : chI G a ≠ []) : ∃ i : Nat, a = i ∧ Chn G i (chI G a) ∧ (chI G a).length ≤ 4 := by
  refine h.chn ?_
  cases hh : hasG G a with
  | true => rfl
  | false => exact absurd (chI_no hh) hn
/-- What stands on the way up of one that is on the way up. -/
theorem WfG.sub {G : List GR} (h : WfG G) {a : Int} {x : Nat} (hx : x ∈ chI G a) : chI G x <:+ chI G a := by
  obtain ⟨i, rfl, hc, hl⟩ := h.ch (a := a) (List.ne_nil_of_mem hx)
  obtain ⟨l', h1, h2⟩ := hc.tail x hx
  rw [chI_of h1 (by have := h2.length_le; omega)]
  exact h2
theorem WfG.trans {G : List GR} (h : WfG G) {a b c : Int} (h1 : underG G a b = true) (h2 : underG G b c = true) : underG G a c = true := by
  obtain ⟨x, rfl, hx⟩ := underG_mem h1
  obtain ⟨y, rfl, hy⟩ := underG_mem h2
  exact underG_of ((h.sub hx).subset hy)
theorem WfG.anti {G : List GR} (h : WfG G) {a b : Int} (h1 : underG G a b = true) (h2 : underG G b a = true) : a = b := by
  obtain ⟨x, rfl, hx⟩ := underG_mem h1
  obtain ⟨y, rfl, hy⟩ := underG_mem h2
  have s1 := h.sub hx
  have s2 := h.sub hy
  have e := s1.eq_of_length_le s2.length_le
  obtain ⟨i, hi, hc, _⟩ := h.ch (a := (y : Int)) (List.ne_nil_of_mem hx)
  obtain ⟨j, hj, hd, _⟩ := h.ch (a := (x : Int)) (List.ne_nil_of_mem hy)
  obtain ⟨_, _, e1, _⟩ := hc.ne
  obtain ⟨_, _, e2, _⟩ := hd.ne
  rw [e1, e2] at e
  injection e with e _
  omega
theorem WfG.top {G : List GR} (h : WfG G) {a : Int} (hn : chI G a ≠ []) : underG G a 0 = true ∧ underG G a a = true := by
  obtain ⟨i, rfl, hc, _⟩ := h.ch hn
  refine ⟨underG_of (x := 0) hc.zero, underG_of ?_⟩
  obtain ⟨_, _, e, _⟩ := hc.ne
  rw [e]
  simp
theorem Chn.last {G : List GR} {i : Nat} {l : List Nat} (h : Chn G i l) : l.getLast? = some 0 := by
  induction h with
  | root h => rfl
  | up _ _ h2 ih =>
    obtain ⟨_, _, e, _⟩ := h2.ne
    rw [e] at ih ⊢
    rw [List.getLast?_cons_cons]
    exact ih
/-- The next one on the way up. -/
theorem WfG.next {G : List GR} (h : WfG G) {x y : Nat} {r : List Nat} (e : chI G (x : Int) = x :: y :: r) : upG G x = ((y : Int), true) ∧ chI G y = y :: r := by
  obtain ⟨i, hi, hc, hl⟩ := h.ch (a := (x : Int)) (by rw [e]; simp)
  rw [e] at hc hl
  obtain rfl : x = i := by omega
  cases hc with
  | up h0 h1 h2 =>
    obtain ⟨_, _, e2, _⟩ := h2.ne
    injection e2 with e2 _
    subst e2
    exact ⟨upG_of h0 h1, chI_of h2 (by simp at hl ⊢; omega)⟩
theorem WfG.there {G : List GR} (h : WfG G) {x : Nat} (hx : x ∈ numsL G true) : ∃ r, chI G x = x :: r ∧ (chI G (x : Int)).length ≤ 4 ∧ (chI G (x : Int)).getLast? = some 0 := by
  obtain ⟨t, ht⟩ := mem_numsL hx
  obtain ⟨l, h1, h2⟩ := h.all x t ht
  obtain ⟨_, r, e, _⟩ := h1.ne
  rw [chI_of h1 h2]
  exact ⟨r, e, h2, h1.last⟩
theorem WfG.nums {G : List GR} (h : WfG G) : ∃ r, numsL G true = 0 :: r ∧ (numsL G true).length ≤ 16 := by
  have hle := numsL_length G true
  rw [h.len] at hle
  obtain ⟨u, hu⟩ := h.root
  have h1 : numsTo G true 1 = [0] := by rw [numsTo_yes hu]; rfl
  have h2 := numsTo_le G true (k := 1) (n := G.length) (by rw [h.len]; omega)
  rw [h1] at h2
  obtain ⟨r, hr⟩ := h2
  exact ⟨r, hr.symm, hle⟩
end Go.Proofs.Ytbhcooomdjhoiaa
