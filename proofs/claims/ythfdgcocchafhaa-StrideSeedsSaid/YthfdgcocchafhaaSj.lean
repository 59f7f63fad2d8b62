/- stride's queue, as a law makes it; the law's awake. -/
import Derived.Test.YthfdgcocchafhaaSi
namespace Go.Proofs.Ythfdgcocchafhaa
open Go.RowKit Go.Maps

/-- A queue that was made since W, its steps at most S; the blocks F are none of its. -/
def SIn (W w : World) (s : Nat) (base cur : Int) (R : List RI) (S : Nat) (F : Nat → Prop) : Prop :=
  ∃ b mp mw v st L, IsS w s b mp mw v st base cur L R ∧ 0 ≤ st ∧ st ≤ (S : Int) ∧ (∀ k, SOf s b mp mw v k → W.heap.size ≤ k) ∧ Below W.heap.size W w ∧ ∀ k, F k → k < w.heap.size ∧ ¬ SOf s b mp mw v k
section
variable {W w w' : World} {s S : Nat} {base cur : Int} {R : List RI} {F : Nat → Prop}
theorem SIn.wf (h : SIn W w s base cur R S F) : WfS base cur R := by
  obtain ⟨b, mp, mw, v, st, L, h1, _⟩ := h
  exact h1.wf
theorem SIn.frame (h : SIn W w s base cur R S F) : Below W.heap.size W w := by
  obtain ⟨b, mp, mw, v, st, L, h1, h2, h3, h4, h5, h6⟩ := h
  exact h5
theorem SIn.below (h : SIn W w s base cur R S F) (hb : Below w.heap.size w w') : SIn W w' s base cur R S F := by
  obtain ⟨b, mp, mw, v, st, L, h1, h2, h3, h4, h5, h6⟩ := h
  exact ⟨b, mp, mw, v, st, L, h1.below hb, h2, h3, h4, h5.trans (hb.mono h5.size), fun k hk => ⟨by have := (h6 k hk).1; have := hb.size; omega, (h6 k hk).2⟩⟩
theorem SIn.weak (h : SIn W w s base cur R S F) {S' : Nat} (hS : S ≤ S') : SIn W w s base cur R S' F := by
  obtain ⟨b, mp, mw, v, st, L, h1, h2, h3, h4, h5, h6⟩ := h
  exact ⟨b, mp, mw, v, st, L, h1, h2, by omega, h4, h5, h6⟩
/-- What has been made since is none of its. -/
theorem SIn.more {G : Nat → Prop} (h : SIn W w s base cur R S F) (hb : Below w.heap.size w w') (hG : ∀ k, G k → F k ∨ (w.heap.size ≤ k ∧ k < w'.heap.size)) : SIn W w' s base cur R S G := by
  obtain ⟨b, mp, mw, v, st, L, h1, h2, h3, h4, h5, h6⟩ := h
  refine ⟨b, mp, mw, v, st, L, h1.below hb, h2, h3, h4, h5.trans (hb.mono h5.size), fun k hk => ?_⟩
  rcases hG k hk with h | h
  · exact ⟨by have := (h6 k h).1; have := hb.size; omega, (h6 k h).2⟩
  · exact ⟨h.2, fun hq => by have := h1.lt k hq; omega⟩
theorem SIn.alloc (h : SIn W w s base cur R S F) (o : Obj) : SIn W (w.alloc o) s base cur R S F := h.below ((Below.refl _ w).alloc (Nat.le_refl _) o)
theorem SIn.post {b mp mw K : Nat} {v : Value} {st base' cur' : Int} {R' : List RI} (hP : SPost s b mp mw v st base' cur' R' K w w') (h2 : 0 ≤ st) (h3 : st ≤ (S : Int)) (h4 : ∀ k, SOf s b mp mw v k → W.heap.size ≤ k) (h5 : Below W.heap.size W w) (h6 : ∀ k, F k → k < w.heap.size ∧ ¬ SOf s b mp mw v k) :
    SIn W w' s base' cur' R' (S + K) F ∧ ∀ k, F k → w'.heap[k]? = w.heap[k]? := by
  obtain ⟨v', L', k, hk, hq, ht⟩ := hP
  refine ⟨⟨b, mp, mw, v', _, L', hq, by omega, by omega, fun j hj => ?_, h5.trans (ht.below h4 h5.size), fun j hj => ?_⟩, fun j hj => ht.block j (h6 j hj).1 (h6 j hj).2⟩
  · rcases ht.sub j hj with h | h
    · exact h4 j h
    · have := h5.size; omega
  · have h7 := (h6 j hj).1
    refine ⟨by have := ht.size; omega, fun hq' => ?_⟩
    rcases ht.sub j hq' with h | h
    · exact (h6 j hj).2 h
    · omega
/-- What comes back, and what is left. -/
def InPost (W w : World) (s : Nat) (base cur : Int) (R : List RI) (S : Nat) (F : Nat → Prop) (r : Value) (e : Ending) (w' : World) : Prop :=
  e = .returned r ∧ SIn W w' s base cur R S F ∧ ∀ k, F k → w'.heap[k]? = w.heap[k]?

theorem sput_in (x : RI) (h : SIn W w s base cur R S F) (h1 : -3900000000000000000 ≤ base) (h2 : base ≤ 3900000000000000000) (hS : S ≤ 1000000000) :
    Calls Try.prog 20 #[.pointer (some ⟨s, 0, none⟩), .int .i64 x.1, .int .i64 x.2.1, .int .i64 x.2.2] w (InPost W w s (putM base R x).2.1 cur (putM base R x).2.2 (S + 8) F (.int .i64 (putM base R x).1)) := by
  obtain ⟨b, mp, mw, v, st, L, g1, g2, g3, g4, g5, g6⟩ := h
  refine (sput_c x.1 x.2.1 x.2.2 w g1 h1 h2 g2 (by omega)).mono ?_
  rintro e w' ⟨rfl, hP⟩
  exact ⟨rfl, SIn.post hP g2 g3 g4 g5 g6⟩
theorem senter_in (x : RI) (h : SIn W w s base cur R S F) (h1 : -3900000000000000000 ≤ base) (h2 : base ≤ 3900000000000000000) (hS : S ≤ 1000000000) :
    Calls Try.prog 19 #[.pointer (some ⟨s, 0, none⟩), .int .i64 x.1, .int .i64 x.2.1, .int .i64 x.2.2] w (InPost W w s (enterM base R x).2.1 cur (enterM base R x).2.2 (S + 8) F (.int .i64 (enterM base R x).1)) := by
  obtain ⟨b, mp, mw, v, st, L, g1, g2, g3, g4, g5, g6⟩ := h
  refine (senter_c x.1 x.2.1 x.2.2 w g1 h1 h2 g2 (by omega)).mono ?_
  rintro e w' ⟨rfl, hP⟩
  exact ⟨rfl, SIn.post hP g2 g3 g4 g5 g6⟩
theorem spick_in (h : SIn W w s base cur R S F) :
    Calls Try.prog 23 #[.pointer (some ⟨s, 0, none⟩)] w (InPost W w s base (if R = [] then -1 else (minR R).2) R S F (.tuple #[.int .i64 (if R = [] then 0 else (minR R).2), .bool (!decide (R = []))])) := by
  obtain ⟨b, mp, mw, v, st, L, g1, g2, g3, g4, g5, g6⟩ := h
  refine (spick_c w g1).mono ?_
  rintro e w' ⟨rfl, hP⟩
  exact ⟨rfl, SIn.post hP g2 g3 g4 g5 g6⟩
theorem scharge_in (h : SIn W w s base cur R S F) (hS : S ≤ 1000000000) :
    Calls Try.prog 24 #[.pointer (some ⟨s, 0, none⟩)] w (InPost W w s (chargeM base cur R).2.2.1 cur (chargeM base cur R).2.2.2 (S + 16) F (.tuple #[.int .i64 (chargeM base cur R).1, .int .i64 (chargeM base cur R).2.1])) := by
  obtain ⟨b, mp, mw, v, st, L, g1, g2, g3, g4, g5, g6⟩ := h
  refine (scharge_c w g1 g2 (by omega)).mono ?_
  rintro e w' ⟨rfl, hP⟩
  exact ⟨rfl, SIn.post hP g2 g3 g4 g5 g6⟩
theorem sleave_in (id : Int) (h : SIn W w s base cur R S F) (hid : wf64 id) (hS : S ≤ 1000000000) :
    Calls Try.prog 21 #[.pointer (some ⟨s, 0, none⟩), .int .i64 id] w (InPost W w s (leaveM base cur R id).2.2.1 (leaveM base cur R id).2.2.2.1 (leaveM base cur R id).2.2.2.2 (S + 8) F (.tuple #[.int .i64 (leaveM base cur R id).1, .int .i64 (leaveM base cur R id).2.1])) := by
  obtain ⟨b, mp, mw, v, st, L, g1, g2, g3, g4, g5, g6⟩ := h
  refine (sleave_c id w g1 hid g2 (by omega)).mono ?_
  rintro e w' ⟨rfl, hP⟩
  exact ⟨rfl, SIn.post hP g2 g3 g4 g5 g6⟩
theorem sweigh_in (id n : Int) (h : SIn W w s base cur R S F) (hid : wf64 id) (hn : wf64 n) :
    Calls Try.prog 22 #[.pointer (some ⟨s, 0, none⟩), .int .i64 id, .int .i64 n] w (InPost W w s base cur (weighM R id n).2 S F (.int .i64 (weighM R id n).1)) := by
  obtain ⟨b, mp, mw, v, st, L, g1, g2, g3, g4, g5, g6⟩ := h
  refine (sweigh_c id n w g1 hid hn).mono ?_
  rintro e w' ⟨rfl, hP⟩
  exact ⟨rfl, SIn.post hP g2 g3 g4 g5 g6⟩
theorem sback_in (h : SIn W w s base cur R S F) :
    Calls Try.prog 31 #[.pointer (some ⟨s, 0, none⟩)] w (InPost W w s base (-1) R S F (.bool (!decide (cur = -1)))) := by
  obtain ⟨b, mp, mw, v, st, L, g1, g2, g3, g4, g5, g6⟩ := h
  refine (sback_c w g1).mono ?_
  rintro e w' ⟨rfl, hP⟩
  exact ⟨rfl, SIn.post hP g2 g3 g4 g5 g6⟩
theorem sbase_in (h : SIn W w s base cur R S F) :
    Calls Try.prog 17 #[.pointer (some ⟨s, 0, none⟩)] w fun e w' => e = .returned (.int .i64 base) ∧ w = w' := by
  obtain ⟨b, mp, mw, v, st, L, g1, _⟩ := h
  exact sbase_c w g1.box
def FormPost (W w : World) (s : Nat) (base cur : Int) (R : List RI) (S : Nat) (F : Nat → Prop) (e : Ending) (w' : World) : Prop :=
  ∃ A c, e = .returned (.agg #[.int .i64 cur, .slice A R.length c]) ∧ TRow w' A (formL base R) ∧ SIn W w' s base cur R S F ∧ Below w.heap.size w w'
theorem sform_in (h : SIn W w s base cur R S F) :
    Calls Try.prog 16 #[.pointer (some ⟨s, 0, none⟩)] w (FormPost W w s base cur R S F) := by
  have h' := h
  obtain ⟨b, mp, mw, v, st, L, g1, _⟩ := h
  refine (sform_c s b mp mw v st base cur L R w g1).mono ?_
  rintro e w' ⟨A, c, rfl, hT, hb⟩
  exact ⟨A, c, rfl, hT, h'.below hb, hb⟩
theorem formL_length (base : Int) (R : List RI) : (formL base R).length = R.length := by unfold formL; simp
end
/-- New, of a law. -/
theorem snew_in (W w : World) (hb : Below W.heap.size W w) (base : Int) (F : Nat → Prop) (hF : ∀ k, F k → k < w.heap.size) (h1 : -1152921504606846976 ≤ base) (h2 : base ≤ 1152921504606846976) :
    Calls Try.prog 9 #[.int .i64 base] w fun e w' => ∃ s, e = .returned (.tuple #[.pointer (some ⟨s, 0, none⟩), .int .i64 0]) ∧ SIn W w' s base (-1) [] 0 F ∧ Below w.heap.size w w' := by
  refine (snew_c base w h1 h2).mono ?_
  rintro e w' ⟨s, b, mp, mw, rfl, g1, g2, g3⟩
  have := hb.size
  refine ⟨s, rfl, ⟨b, mp, mw, _, 0, [], g1, by omega, by omega, fun k hk => by have := g2 k hk; omega, hb.trans (g3.mono this), fun k hk => ?_⟩, g3⟩
  have h3 := hF k hk
  have := g3.size
  exact ⟨by omega, fun hq => by have := g2 k hq; omega⟩

/-! The law's awake -/
def awS : Nat → Int × List RI
  | 0 => (0, [(1, 1, 0), (2, 2, 0)])
  | k + 1 => let c := chargeM (awS k).1 (minR (awS k).2).2 (awS k).2; (c.2.2.1, c.2.2.2)
def wantA : List Int := [1, 2, 2, 1, 2, 2]
def awOk (k : Nat) : Bool := !decide ((awS k).2 = []) && decide (wantA[k]? = some (minR (awS k).2).2) && decide (chargeM (awS k).1 (minR (awS k).2).2 (awS k).2 = ((minR (awS k).2).2, 0, awS (k + 1)))
theorem aw_next : ∀ k, k < 6 → awOk k = true := by decide +kernel
theorem aw_init : enterM 0 [] (1, 1, 0) = (0, 0, [(1, 1, 0)]) ∧ enterM 0 [(1, 1, 0)] (2, 2, 0) = (0, 0, [(1, 1, 0), (2, 2, 0)]) := by decide +kernel
end Go.Proofs.Ythfdgcocchafhaa
