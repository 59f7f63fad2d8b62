/- Layer 9: what a start tells; plain facts of Next. -/
import Derived.Test.YtjglfdinddkdjaaDoorEb
namespace Go.Proofs.YtjglfdinddkdjaaDoor
open Go.RowKit

set_option maxRecDepth 100000 in
theorem awake9_c (w : World) (hT : Tabs w) : Calls Tryd.prog 6 #[] w fun e w' => e = .returned (.bool true) ∧ w = w' := by
  have K := Lib.hid (next_c 1 1 w hT)
  have N := Lib.hid (name_c 2 w hT)
  go_enter Tryd.func6, Tryd.ntmps6
  go_wp2_with fail
  refine K.out.mono ?_
  rintro e w1 ⟨rfl, rfl⟩
  rw [show nextV 1 1 = (2, 0) by decide]
  go_wp2_with fail
  refine N.out.mono ?_
  rintro e w1 ⟨rfl, rfl⟩
  rw [show nameV 2 = [114, 101, 97, 100, 121] by decide]
  go_wp2_with fail
  go_ret
  exact ⟨rfl, rfl⟩

def okNext (p : Int × Int) (s a : Int) (g : Bool) : Bool :=
  !g || (decide (p = (0, 4)) || (decide (p.2 = 0) && (decide (2 ≤ p.1) && (decide (p.1 ≤ 6) && (decide (s ≠ 6) && (decide (p.1 = 3 → s = 2) && decide (a = 8 ↔ p.1 = 6)))))))
/-- What an action may do to a state that was reached. -/
theorem next_cases {s : Int} (h1 : 1 ≤ s) (h6 : s ≤ 6) (a : Int) :
    (nextV s a = (0, 1) ∧ (a < 1 ∨ 8 < a)) ∨ (nextV s a = (0, 4) ∧ 1 ≤ a ∧ a ≤ 8) ∨
    (∃ t, nextV s a = (t, 0) ∧ 2 ≤ t ∧ t ≤ 6 ∧ s ≠ 6 ∧ (t = 3 → s = 2) ∧ (a = 8 ↔ t = 6)) := by
  by_cases ha : a < 1 ∨ 8 < a
  · exact .inl ⟨nextV_out (by omega), ha⟩
  · refine .inr ?_
    have H : ∀ i < 7, ∀ j < 9, okNext (nextV (Int.ofNat i) (Int.ofNat j)) (Int.ofNat i) (Int.ofNat j) (decide (1 ≤ i ∧ 1 ≤ j)) = true := by decide
    obtain ⟨i, rfl⟩ : ∃ i : Nat, s = i := ⟨s.toNat, by omega⟩
    obtain ⟨j, rfl⟩ : ∃ j : Nat, a = j := ⟨a.toNat, by omega⟩
    have h := H i (by omega) j (by omega)
    rw [decide_eq_true (by omega)] at h
    simp only [okNext, Int.ofNat_eq_natCast, Bool.not_true, Bool.false_or, Bool.or_eq_true, Bool.and_eq_true, decide_eq_true_eq] at h
    rcases h with h | ⟨e, h⟩
    · exact .inl ⟨h, by omega, by omega⟩
    · refine .inr ⟨(nextV (i : Int) (j : Int)).1, Prod.ext rfl e, ?_⟩
      obtain ⟨h1, h2, h3, h4, h5⟩ := h
      exact ⟨h1, h2, h3, h4, h5⟩
end Go.Proofs.YtjglfdinddkdjaaDoor
