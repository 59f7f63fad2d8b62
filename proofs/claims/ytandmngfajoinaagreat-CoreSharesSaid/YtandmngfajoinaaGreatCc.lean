/- What the laws of a core reckon with: tasks come one by one; a tick; how many ran. -/
import Derived.Test.YtandmngfajoinaaGreatCb
namespace Go.Proofs.YtandmngfajoinaaGreat.Po
open Go.RowKit

/-! One by one -/
structure Ent (T : List TI) (k : Nat) : Prop where
  near : T = [] ∨ Near 0 T
  all : ∀ x ∈ T, x.2.2.1 = 0 ∧ x.1 < (k : Int)
  day : DayOk T
  len : T.length ≤ k
theorem Ent.nil : Ent [] 0 := ⟨.inl rfl, fun x hx => by simp at hx, fun x hx => by simp at hx, Nat.le_refl _⟩
theorem Ent.yes {t n : Int} {T : List TI} {k : Nat} (h : Ent T k) (ht : Tag t) (hk : k < 64) (h1 : 1 ≤ n) (h2 : n ≤ 20) :
    entC t false 0 T ((k : Int), n, 0) = (0, 0, T ++ [newU 0 ((k : Int), n, 0)]) ∧ Ent (T ++ [newU 0 ((k : Int), n, 0)]) (k + 1) := by
  have hl := h.len
  obtain ⟨e1, e2, e3⟩ := near_enterP (t := t) (id := (k : Int)) ht h.near h.all (by omega) (by omega) h1 h2 (by omega)
  have e : entC t false 0 T ((k : Int), n, 0) = entP t 0 T ((k : Int), n, 0) := if_neg Bool.false_ne_true
  refine ⟨e.trans e1, ⟨.inr e2, fun x hx => by have := e3 x hx; omega, fun x hx => ?_, by rw [List.length_append]; simp; omega⟩⟩
  rcases List.mem_append.1 hx with hx | hx
  · exact h.day x hx
  · obtain rfl := List.mem_singleton.1 hx
    exact new_day (goodB_true.2 ⟨h1, h2⟩)
theorem Ent.no {t n : Int} {T : List TI} {k : Nat} (h : Ent T k) (hn : ¬ (1 ≤ n ∧ n ≤ 20)) :
    entC t false 0 T ((k : Int), n, 0) = (1, 0, T) ∧ Ent T (k + 1) := by
  have e : entC t false 0 T ((k : Int), n, 0) = entP t 0 T ((k : Int), n, 0) := if_neg Bool.false_ne_true
  refine ⟨e.trans ?_, h.near, fun x hx => by have := h.all x hx; omega, h.day, by have := h.len; omega⟩
  unfold entP
  rw [if_neg (fun hi => hn (itemB_true.1 hi).2.2.1)]

/-! A tick -/
theorem tick_day {b c : Int} {T : List TI} (h : DayOk T) (hw : WfS b c (cutL T)) (id : Int) : DayOk (updU T id chaT) := h.upd (fun x hx _ => cha_day (good_of hw hx) (h x hx))
theorem near_run {t cur base : Int} {T : List TI} (ht : Tag t) (h : Near base T) (hw : WfS base cur (cutL T)) (hd : DayOk T) (hb : base ≤ 1000000000000000) :
    ∃ b' x, x ∈ T ∧ wf64 x.1 ∧ 0 ≤ x.1 ∧ pickPC t cur T = x.1 ∧ chargeU base (pickPC t cur T) T = (x.1, 0, b', updU T x.1 chaT) ∧ Near b' (updU T x.1 chaT) ∧ DayOk (updU T x.1 chaT) ∧ base ≤ b' ∧ b' ≤ base + 1163962800 := by
  obtain ⟨b', x, h1, h2, h3, h4, h5, h6, h7⟩ := near_tickP (cur := cur) ht h hw hd hb
  have he := hw.each _ (cut_mem h1)
  have e1 : (cutT x).1 = x.1 := rfl
  rw [e1] at he
  exact ⟨b', x, h1, wf64_of (by omega) (by omega), h3, h2, by rw [h2]; exact h4, h5, tick_day hd hw x.1, h6, h7⟩

/-! How many ran -/
def cSum (C : Int → Int) : Nat → Int
  | 0 => 0
  | k + 1 => cSum C k + C (k : Int)
theorem cSum_zero : ∀ k, cSum (fun _ => 0) k = 0
  | 0 => rfl
  | k + 1 => by unfold cSum; rw [cSum_zero k]; rfl
theorem cSum_no {C : Int → Int} {id : Int} : ∀ {k : Nat}, (k : Int) ≤ id → cSum (incC C id) k = cSum C k
  | 0, _ => rfl
  | k + 1, h => by
    unfold cSum
    rw [cSum_no (by omega)]
    unfold incC
    rw [if_neg (by omega)]
theorem cSum_inc {C : Int → Int} {id : Int} : ∀ {k : Nat}, 0 ≤ id → id < (k : Int) → cSum (incC C id) k = cSum C k + 1
  | 0, h1, h2 => by omega
  | k + 1, h1, h2 => by
    unfold cSum
    by_cases h : id = (k : Int)
    · rw [cSum_no (by omega)]
      unfold incC
      rw [if_pos h.symm]
      omega
    · rw [cSum_inc h1 (by omega)]
      unfold incC
      rw [if_neg (by omega)]
      omega
theorem cSum_bd {C : Int → Int} {N : Int} (h : ∀ z, 0 ≤ C z ∧ C z ≤ N) : ∀ k, 0 ≤ cSum C k ∧ cSum C k ≤ (k : Int) * N
  | 0 => by unfold cSum; omega
  | k + 1 => by
    have h1 := cSum_bd h k
    have h2 := h (k : Int)
    unfold cSum
    have e : ((k + 1 : Nat) : Int) * N = (k : Int) * N + N := by rw [Int.natCast_add, Int.add_mul]; omega
    omega
end Go.Proofs.YtandmngfajoinaaGreat.Po
