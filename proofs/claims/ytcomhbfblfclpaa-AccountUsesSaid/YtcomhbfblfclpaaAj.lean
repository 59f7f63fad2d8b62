/- Ticks one by one. -/
import Derived.Test.YtcomhbfblfclpaaAi
namespace Go.Proofs.Ytcomhbfblfclpaa
open Go.RowKit

/-- What is left, where the period stands, whether one has ended: i ticks later. -/
def tl (q p l f i : Int) : Int := if limB q p l f && decide (p ≤ f + i) then q else l
def tf (q p l f i : Int) : Int := if limB q p l f then (f + i) % p else f
def tb (q p l f i : Int) : Bool := limB q p l f && decide (p ≤ f + i)
/-- Has one ended by m ticks more? -/
def tn (q p l f i m : Int) : Bool := limB q p l f && decide (p ≤ tf q p l f i + m)

theorem tl_zero (q p l f : Int) : tl q p l f 0 = l := by
  have hL := @limB_true q p l f
  unfold tl
  cases h : limB q p l f with
  | false => rfl
  | true =>
    obtain ⟨a1, a2, a3, a4, a5, a6, a7, a8⟩ := hL.1 h
    rw [decide_eq_false (by omega)]
    rfl
theorem tf_zero (q p l f : Int) : tf q p l f 0 = f := by
  have hL := @limB_true q p l f
  unfold tf
  cases h : limB q p l f with
  | false => rfl
  | true =>
    obtain ⟨a1, a2, a3, a4, a5, a6, a7, a8⟩ := hL.1 h
    rw [if_pos rfl, Int.add_zero]
    exact Int.emod_eq_of_lt a7 (by omega)
theorem tb_zero (q p l f : Int) : tb q p l f 0 = false := by
  have hL := @limB_true q p l f
  unfold tb
  cases h : limB q p l f with
  | false => rfl
  | true =>
    obtain ⟨a1, a2, a3, a4, a5, a6, a7, a8⟩ := hL.1 h
    rw [decide_eq_false (by omega)]
    rfl
theorem lim_ticked {q p l f i : Int} : limB q p (tl q p l f i) (tf q p l f i) = limB q p l f := by
  cases h : limB q p l f with
  | false => simp [tl, tf, h]
  | true =>
    obtain ⟨a1, a2, a3, a4, a5, a6, a7, a8⟩ := limB_true.1 h
    have r0 := Int.emod_nonneg (f + i) (show p ≠ 0 by omega)
    have r1 := Int.emod_lt_of_pos (f + i) (show 0 < p by omega)
    refine limB_true.2 ?_
    simp only [tl, tf, h, if_true, Bool.true_and, decide_eq_true_eq]
    split <;> omega
theorem tf_more {q p l f i m : Int} : (if limB q p l f then (tf q p l f i + m % p) % p else tf q p l f i) = tf q p l f (i + m) := by
  unfold tf
  cases h : limB q p l f with
  | false => rfl
  | true =>
    simp only [if_true]
    rw [← Int.add_emod, Int.add_assoc]
theorem tn_more {q p l f i m : Int} (hi : 0 ≤ i) (hm : 0 ≤ m) : tb q p l f (i + m) = (tb q p l f i || tn q p l f i m) := by
  unfold tb tn tf
  cases h : limB q p l f with
  | false => rfl
  | true =>
    obtain ⟨a1, a2, a3, a4, a5, a6, a7, a8⟩ := limB_true.1 h
    simp only [if_true, Bool.true_and]
    by_cases h1 : p ≤ f + i
    · rw [decide_eq_true h1, decide_eq_true (by omega)]; rfl
    · rw [decide_eq_false h1, Int.emod_eq_of_lt (by omega) (by omega), Bool.false_or, Int.add_assoc]
theorem tickV_ticked {q p l f i m : Int} (hi : 0 ≤ i) (hm : 0 ≤ m) : tickV q p (tl q p l f i) (tf q p l f i) m = .tuple #[.agg #[.int .i64 q, .int .i64 p, .int .i64 (tl q p l f (i + m)), .int .i64 (tf q p l f (i + m))], .bool (tn q p l f i m)] := by
  have ht : tickN m = m := by unfold tickN; rw [if_pos hm]
  have hb : tickB q p (tl q p l f i) (tf q p l f i) m = tn q p l f i m := by
    unfold tickB tn
    rw [lim_ticked, ht]
    congr 1
    rw [Bool.eq_iff_iff, decide_eq_true_eq, decide_eq_true_eq]
    omega
  have hf : tickF q p (tl q p l f i) (tf q p l f i) m = tf q p l f (i + m) := by
    unfold tickF
    rw [lim_ticked, ht]
    exact tf_more
  have hl : tickL q p (tl q p l f i) (tf q p l f i) m = tl q p l f (i + m) := by
    unfold tickL
    rw [hb]
    have h1 := tn_more (q := q) (p := p) (l := l) (f := f) hi hm
    show (if tn q p l f i m = true then q else if tb q p l f i = true then q else l) = (if tb q p l f (i + m) = true then q else l)
    rw [h1]
    cases tn q p l f i m <;> cases tb q p l f i <;> rfl
  unfold tickV
  rw [hb, hf, hl]
theorem tick_st (q p l f i m j : Int) (hi : 0 ≤ i) (hm : 0 ≤ m) (hj : i + m = j) (w : World) :
    Calls Try.prog 10 #[.agg #[.int .i64 q, .int .i64 p, .int .i64 (tl q p l f i), .int .i64 (tf q p l f i)], .int .i64 m] w (Ret8 (.tuple #[.agg #[.int .i64 q, .int .i64 p, .int .i64 (tl q p l f j), .int .i64 (tf q p l f j)], .bool (tn q p l f i m)]) w) :=
  tick_of _ _ _ _ _ _ (by rw [tickV_ticked hi hm, hj]) w

theorem BxIn.tail {W w : World} {x : BX} {l : List BX} (h : BxIn W w (x :: l)) : BxIn W w l := ⟨h.fr, fun i y hi => h.bx (i + 1) y (by rw [List.getElem?_cons_succ]; exact hi)⟩
/-- All are below the heap's size. -/
theorem BxIn.lt {W w : World} {l : List BX} (h : BxIn W w l) {i : Nat} {x : BX} (hi : l[i]? = some x) : x.1 < w.heap.size := AcAt.lt (h.bx i x hi).2
/-- The first or the second box gets a new account. -/
theorem BxIn.put0 {W w : World} {b : Nat} {t : TypeId} {q p l' f : Int} {L : List BX} (h : BxIn W w ((b, t, q, p, l', f) :: L)) (hu : ∀ x ∈ L, x.1 ≠ b) (q' p' l2 f' : Int) :
    BxIn W ((((w.setCell ⟨b, 0, none⟩ (.int .i64 q')).setCell ⟨b, 1, none⟩ (.int .i64 p')).setCell ⟨b, 2, none⟩ (.int .i64 l2)).setCell ⟨b, 3, none⟩ (.int .i64 f')) ((b, t, q', p', l2, f') :: L) := by
  have := h.put 0 rfl (fun j x hj h => by
    cases j with
    | zero => exact absurd rfl h
    | succ j => exact hu x (List.mem_of_getElem? (by rw [List.getElem?_cons_succ] at hj; exact hj))) q' p' l2 f'
  simpa using this
theorem BxIn.put1 {W w : World} {b : Nat} {y : BX} {t : TypeId} {q p l' f : Int} {L : List BX} (h : BxIn W w (y :: (b, t, q, p, l', f) :: L)) (hy : y.1 ≠ b) (hu : ∀ x ∈ L, x.1 ≠ b) (q' p' l2 f' : Int) :
    BxIn W ((((w.setCell ⟨b, 0, none⟩ (.int .i64 q')).setCell ⟨b, 1, none⟩ (.int .i64 p')).setCell ⟨b, 2, none⟩ (.int .i64 l2)).setCell ⟨b, 3, none⟩ (.int .i64 f')) ((b, t, q', p', l2, f') :: L) := by
  have := h.put 1 rfl (fun j x hj h => by
    match j with
    | 0 => simp at hj; subst hj; exact hy
    | 1 => exact absurd rfl h
    | j + 2 => exact hu x (List.mem_of_getElem? (by rw [List.getElem?_cons_succ, List.getElem?_cons_succ] at hj; exact hj))) q' p' l2 f'
  exact BxIn.tail (by simpa using this)
end Go.Proofs.Ytcomhbfblfclpaa
