/- Boxes of a law that calls account; law 8's awake. -/
import Derived.Test.YtcomhbfblfclpaaAh
namespace Go.Proofs.Ytcomhbfblfclpaa
open Go.RowKit

/-- An account in a box of its own: the block, its type, its fields. -/
abbrev BX := Nat × TypeId × Int × Int × Int × Int
def BXAt (w : World) (x : BX) : Prop := AcAt w x.1 x.2.1 x.2.2.1 x.2.2.2.1 x.2.2.2.2.1 x.2.2.2.2.2
/-- What lay below W lies, and the law's boxes hold what l says. -/
structure BxIn (W w : World) (l : List BX) : Prop where
  fr : Below W.heap.size W w
  bx : ∀ (i : Nat) (x : BX), l[i]? = some x → W.heap.size ≤ x.1 ∧ BXAt w x
theorem BxIn.nil {W w : World} (h : Below W.heap.size W w) : BxIn W w [] := ⟨h, fun i x hi => by simp at hi⟩
theorem BxIn.step {W w w' : World} {l : List BX} (h : BxIn W w l) (hb : Below w.heap.size w w') : BxIn W w' l :=
  ⟨h.fr.trans (hb.mono h.fr.size), fun i x hi => ⟨(h.bx i x hi).1, AcAt.below (h.bx i x hi).2 hb (AcAt.lt (h.bx i x hi).2)⟩⟩
theorem BxIn.push {W w : World} {l : List BX} (h : BxIn W w l) (t : TypeId) (q p l' f : Int) : BxIn W (w.alloc (.cells #[.int .i64 q, .int .i64 p, .int .i64 l', .int .i64 f] t)) ((w.heap.size, t, q, p, l', f) :: l) := by
  refine ⟨h.fr.alloc h.fr.size _, fun i x hi => ?_⟩
  cases i with
  | zero =>
    simp at hi
    subst hi
    exact ⟨h.fr.size, AcAt.new w t q p l' f⟩
  | succ i =>
    rw [List.getElem?_cons_succ] at hi
    have h1 := h.bx i x hi
    exact ⟨h1.1, AcAt.keep h1.2 (Below.heap_alloc w _ _ (AcAt.lt h1.2))⟩
theorem BxIn.drew {W w : World} {l : List BX} (h : BxIn W w l) : BxIn W w.drew l := ⟨h.fr.drew, h.bx⟩
theorem BxIn.drewN {W w : World} {l : List BX} (h : BxIn W w l) (n : Nat) : BxIn W (w.drewN n) l := ⟨below_drewN h.fr n, h.bx⟩
theorem BxIn.get {W w : World} {l : List BX} (h : BxIn W w l) (i : Nat) {b : Nat} {t : TypeId} {q p l' f : Int} (hi : l[i]? = some (b, t, q, p, l', f)) :
    (w.cell? ⟨b, 0, none⟩ = some (.int .i64 q) ∧ w.cell? ⟨b, 1, none⟩ = some (.int .i64 p) ∧ w.cell? ⟨b, 2, none⟩ = some (.int .i64 l') ∧ w.cell? ⟨b, 3, none⟩ = some (.int .i64 f)) ∧ b < w.heap.size := by
  have h1 := (h.bx i _ hi).2
  obtain ⟨c0, c1, c2, c3, -⟩ := AcAt.cells h1
  exact ⟨⟨c0, c1, c2, c3⟩, AcAt.lt h1⟩
theorem BxIn.free {W w : World} {l : List BX} (h : BxIn W w l) (i : Nat) {b : Nat} {t : TypeId} {q p l' f : Int} (hi : l[i]? = some (b, t, q, p, l', f)) :
    w.frozen? ⟨b, 0, none⟩ = false ∧ w.frozen? ⟨b, 1, none⟩ = false ∧ w.frozen? ⟨b, 2, none⟩ = false ∧ w.frozen? ⟨b, 3, none⟩ = false := by
  obtain ⟨-, -, -, -, c⟩ := AcAt.cells (h.bx i _ hi).2
  exact c
/-- A box gets a new account. -/
theorem BxIn.put {W w : World} {l : List BX} (h : BxIn W w l) (i : Nat) {b : Nat} {t : TypeId} {q p l' f : Int} (hi : l[i]? = some (b, t, q, p, l', f)) (hu : ∀ j x, l[j]? = some x → j ≠ i → x.1 ≠ b) (q' p' l2 f' : Int) :
    BxIn W ((((w.setCell ⟨b, 0, none⟩ (.int .i64 q')).setCell ⟨b, 1, none⟩ (.int .i64 p')).setCell ⟨b, 2, none⟩ (.int .i64 l2)).setCell ⟨b, 3, none⟩ (.int .i64 f')) (l.set i (b, t, q', p', l2, f')) := by
  obtain ⟨h0, h1⟩ := h.bx i _ hi
  refine ⟨Below.setAll h.fr h0 _ _ _ _, fun j x hj => ?_⟩
  by_cases e : i = j
  · subst e
    have hl := (List.getElem?_eq_some_iff.1 hi).1
    rw [List.getElem?_set, if_pos rfl, if_pos hl] at hj
    injection hj with hj
    subst hj
    exact ⟨h0, AcAt.setAll h1 q' p' l2 f'⟩
  · rw [List.getElem?_set, if_neg e] at hj
    obtain ⟨g0, g1⟩ := h.bx j x hj
    have hne := hu j x hj (fun h => e h.symm)
    exact ⟨g0, AcAt.other (AcAt.other (AcAt.other (AcAt.other g1 (a := ⟨b, 0, none⟩) hne _) (a := ⟨b, 1, none⟩) hne _) (a := ⟨b, 2, none⟩) hne _) (a := ⟨b, 3, none⟩) hne _⟩

theorem new_of (q p v0 v1 e : Int) (h0 : newQ q p = v0) (h1 : newP q p = v1) (h2 : newE q p = e) (w : World) :
    Calls Try.prog 8 #[.int .i64 q, .int .i64 p] w (Ret8 (.tuple #[.agg #[.int .i64 v0, .int .i64 v1, .int .i64 v0, .int .i64 0], .int .i64 e]) w) := by
  have := new_c q p w
  rwa [h0, h1, h2] at this
theorem use_of (q p l f : Int) (v : Value) (h : useV q p l f = v) (w : World) :
    Calls Try.prog 9 #[.agg #[.int .i64 q, .int .i64 p, .int .i64 l, .int .i64 f]] w (Ret8 v w) := h ▸ use_c q p l f w
theorem tick_of (q p l f n : Int) (v : Value) (h : tickV q p l f n = v) (w : World) :
    Calls Try.prog 10 #[.agg #[.int .i64 q, .int .i64 p, .int .i64 l, .int .i64 f], .int .i64 n] w (Ret8 v w) := h ▸ tick_c q p l f n w
theorem spent_of (q p l f : Int) (b : Bool) (h : (limB q p l f && decide (l = 0)) = b) (w : World) :
    Calls Try.prog 11 #[.agg #[.int .i64 q, .int .i64 p, .int .i64 l, .int .i64 f]] w (Ret8 (.bool b) w) := h ▸ spent_c q p l f w
theorem good_of (q p l f : Int) (b : Bool) (h : goodA q p l f = b) (w : World) :
    Calls Try.prog 13 #[.agg #[.int .i64 q, .int .i64 p, .int .i64 l, .int .i64 f]] w (Ret8 (.bool b) w) := h ▸ good_c q p l f w
theorem next_of (q p l f v : Int) (h : nextV q p l f = v) (w : World) :
    Calls Try.prog 12 #[.agg #[.int .i64 q, .int .i64 p, .int .i64 l, .int .i64 f]] w (Ret8 (.int .i64 v) w) := h ▸ next_c q p l f w

set_option maxRecDepth 100000 in
set_option maxHeartbeats 2000000 in
theorem awake8_c (W : World) : Calls Try.prog 7 #[] W fun e w' => e = .returned (.bool true) ∧ Below W.heap.size W w' := by
  go_enter Try.func7, Try.ntmps7
  go_wp2_with fail
  refine (new_of 2 5 2 5 0 (by decide) (by decide) (by decide) _).mono ?_
  rintro e w1 ⟨rfl, hb⟩
  have HB1 := Lib.hid ((BxIn.nil (Below.refl _ W)).step hb)
  clear hb
  have HB2 := Lib.hid (HB1.out.push 24 (2) (5) (2) (0))
  clear HB1
  go_wp2_with fail
  refine (use_of 2 5 2 0 (.tuple #[.agg #[.int .i64 (2), .int .i64 (5), .int .i64 (1), .int .i64 (0)], .int .i64 0]) (by rfl) _).mono ?_
  rintro e w2 ⟨rfl, hb⟩
  have HB3 := Lib.hid (HB2.out.step hb)
  clear HB2
  clear hb
  obtain ⟨⟨a0, a1, a2, a3⟩, al⟩ := HB3.out.get 0 rfl
  obtain ⟨af0, af1, af2, af3⟩ := HB3.out.free 0 rfl
  have HB4 := Lib.hid (HB3.out.put 0 rfl (fun j x hj h => by cases j with | zero => exact absurd rfl h | succ j => simp at hj) 2 5 1 0)
  clear HB3
  go_wp2_with fail
  refine (use_of 2 5 1 0 (.tuple #[.agg #[.int .i64 (2), .int .i64 (5), .int .i64 (0), .int .i64 (0)], .int .i64 0]) (by rfl) _).mono ?_
  rintro e w3 ⟨rfl, hb⟩
  clear a0 a1 a2 a3 al af0 af1 af2 af3
  have HB5 := Lib.hid (HB4.out.step hb)
  clear HB4
  clear hb
  obtain ⟨⟨a0, a1, a2, a3⟩, al⟩ := HB5.out.get 0 rfl
  obtain ⟨af0, af1, af2, af3⟩ := HB5.out.free 0 rfl
  have HB6 := Lib.hid (HB5.out.put 0 rfl (fun j x hj h => by cases j with | zero => exact absurd rfl h | succ j => simp at hj) 2 5 0 0)
  clear HB5
  go_wp2_with fail
  refine (tick_of 2 5 0 0 5 (.tuple #[.agg #[.int .i64 (2), .int .i64 (5), .int .i64 (2), .int .i64 (0)], .bool true]) (by rfl) _).mono ?_
  rintro e w4 ⟨rfl, hb⟩
  clear a0 a1 a2 a3 al af0 af1 af2 af3
  have HB7 := Lib.hid (HB6.out.step hb)
  clear HB6
  clear hb
  obtain ⟨⟨a0, a1, a2, a3⟩, al⟩ := HB7.out.get 0 rfl
  have HB8 := Lib.hid (HB7.out.push 24 (2) (5) (2) (0))
  clear HB7
  go_wp2_with fail
  refine (spent_of 2 5 0 0 true (by rfl) _).mono ?_
  rintro e w5 ⟨rfl, hb⟩
  clear a0 a1 a2 a3 al
  have HB9 := Lib.hid (HB8.out.step hb)
  clear HB8
  clear hb
  obtain ⟨⟨b0, b1, b2, b3⟩, bl⟩ := HB9.out.get 0 rfl
  go_wp2_with fail
  go_ret
  exact ⟨rfl, HB9.out.fr⟩
end Go.Proofs.Ytcomhbfblfclpaa
