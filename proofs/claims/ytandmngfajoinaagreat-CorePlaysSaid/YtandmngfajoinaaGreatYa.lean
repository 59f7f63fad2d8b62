/- Forms: what a list of items holds; Compare, Or, weight.Good, goodItem. -/
import Derived.WalkKit
import Derived.Below
import Derived.Lib.Hide
import Derived.Test.YtandmngfajoinaaGreatChecked
import Derived.Test.YtandmngfajoinaaGreatOd
import Derived.Laws.Rows
import Derived.Laws.ResultCell
import Derived.Deep.DeepCutAuto
import Derived.Deep.QuietTactic
import Derived.BigQuiet
import Derived.StillTailTactics
import Derived.Deep.Slices
namespace Go.Proofs.YtandmngfajoinaaGreat
open Go.RowKit

/-- A thing of three numbers: its ID, its weight, its lag; its cells; a list's cells. -/
abbrev RI := Int × Int × Int
def encR (x : RI) : List Value := [.int .i64 x.1, .int .i64 x.2.1, .int .i64 x.2.2]
def flatR : List RI → List Value
  | [] => []
  | x :: xs => encR x ++ flatR xs
theorem flatR_length (l : List RI) : (flatR l).length = l.length * 3 := by
  induction l with
  | nil => rfl
  | cons x xs ih => rw [flatR, List.length_append, ih, List.length_cons]; simp [encR]; omega
theorem flatR_append (a b : List RI) : flatR (a ++ b) = flatR a ++ flatR b := by
  induction a with
  | nil => rfl
  | cons x xs ih => rw [List.cons_append, flatR, flatR, ih, List.append_assoc]
theorem flatR_get {l : List RI} {j : Nat} {x : RI} (h : l[j]? = some x) (i : Nat) (hi : i < 3) : (flatR l)[j * 3 + i]? = (encR x)[i]? := by
  induction l generalizing j with
  | nil => simp at h
  | cons y ys ih =>
    cases j with
    | zero =>
      simp at h
      subst h
      rw [flatR, List.getElem?_append_left (by simp [encR]; omega)]
      simp
    | succ j =>
      have h' : ys[j]? = some x := by simpa using h
      rw [flatR, List.getElem?_append_right (by simp [encR]; omega)]
      have e : (j + 1) * 3 + i - (encR y).length = j * 3 + i := by simp [encR]; omega
      rw [e, ih h']
theorem flatR_one (l : List RI) : ∀ u ∈ flatR l, u.oneCell' = true := by
  induction l with
  | nil => intro u hu; simp [flatR] at hu
  | cons x xs ih =>
    intro u hu
    rw [flatR, List.mem_append] at hu
    rcases hu with h | h
    · simp [encR] at h
      rcases h with rfl | rfl | rfl <;> rfl
    · exact ih u h

theorem add_next (a : Addr) (i j : Nat) : (⟨(a.add i).block, (a.add i).off + (j + 1), none⟩ : Addr) = a.add (i + (j + 1)) := by
  rw [← Go.Deep.add_add]
  unfold Addr.add
  simp
theorem cell_lt0 {w : World} {a : Addr} {v : Value} (h : w.cell? a = some v) : a.block < w.heap.size := by
  rcases Nat.lt_or_ge a.block w.heap.size with h1 | h1
  · exact h1
  · unfold World.cell? at h
    rw [Array.getElem?_eq_none h1] at h
    simp at h

/-- The slice at A holds the items l. -/
def TRow (w : World) (A : Option Addr) (l : List RI) : Prop :=
  ∀ i r, l[i]? = some r → ∃ ad, A = some ad ∧ w.cell? (ad.add (i * 3)) = some (.int .i64 r.1) ∧ w.cell? (ad.add (i * 3 + 1)) = some (.int .i64 r.2.1) ∧ w.cell? (ad.add (i * 3 + 2)) = some (.int .i64 r.2.2)
theorem TRow.nil {w : World} {A : Option Addr} : TRow w A [] := fun i r h => by simp at h
theorem TRow.below {w w' : World} {A : Option Addr} {l : List RI} {B : Nat} (h : TRow w A l) (hb : Below B w w') (hB : w.heap.size ≤ B) : TRow w' A l := fun i r hi => by
  obtain ⟨ad, e, h0, h1, h2⟩ := h i r hi
  exact ⟨ad, e, (hb.cell (Nat.lt_of_lt_of_le (cell_lt0 h0) hB)).trans h0, (hb.cell (Nat.lt_of_lt_of_le (cell_lt0 h1) hB)).trans h1, (hb.cell (Nat.lt_of_lt_of_le (cell_lt0 h2) hB)).trans h2⟩
/-- One item's cells, as a walk spells them. -/
def Cells3 (w : World) (a : Addr) (r : RI) : Prop :=
  w.cell? a = some (.int .i64 r.1) ∧ w.cell? ⟨a.block, a.off + 1, none⟩ = some (.int .i64 r.2.1) ∧ w.cell? ⟨a.block, a.off + 2, none⟩ = some (.int .i64 r.2.2)
theorem TRow.at {w : World} {A : Option Addr} {l : List RI} (h : TRow w A l) {i : Nat} {r : RI} (hi : l[i]? = some r) : ∃ ad, A = some ad ∧ Cells3 w (ad.add (i * 3)) r := by
  obtain ⟨ad, e, h0, h1, h2⟩ := h i r hi
  exact ⟨ad, e, h0, by rw [add_next]; exact h1, by rw [add_next]; exact h2⟩
theorem Cells3.below {w w' : World} {a : Addr} {r : RI} {B : Nat} (h : Cells3 w a r) (hb : Below B w w') (hB : w.heap.size ≤ B) : Cells3 w' a r := by
  obtain ⟨h0, h1, h2⟩ := h
  exact ⟨(hb.cell (Nat.lt_of_lt_of_le (cell_lt0 h0) hB)).trans h0, (hb.cell (Nat.lt_of_lt_of_le (cell_lt0 h1) hB)).trans h1, (hb.cell (Nat.lt_of_lt_of_le (cell_lt0 h2) hB)).trans h2⟩
theorem TRow.of_own {w : World} {base : Nat} {e : TypeId} {g n c : Nat} {l : List RI} (h : w.ownsRow base e 3 (.slice (some ⟨g, 0, none⟩) n c) n (flatR l)) : TRow w (some ⟨g, 0, none⟩) l := fun i r hi => by
  have hc := World.ownsRow.cells h (g := g) rfl
  exact ⟨_, rfl, hc _ _ ((flatR_get hi 0 (by omega)).trans rfl), hc _ _ ((flatR_get hi 1 (by omega)).trans rfl), hc _ _ ((flatR_get hi 2 (by omega)).trans rfl)⟩

/-- A value comes back, and what lay lies. -/
def Ret10 (v : Value) (w : World) (e : Ending) (w' : World) : Prop := e = .returned v ∧ Below w.heap.size w w'
theorem ret_b {a b : Bool} (h : a = b) : Ending.returned (.bool a) = .returned (.bool b) := by rw [h]
theorem ret_i {k : IntKind} {a b : Int} (h : a = b) : Ending.returned (.int k a) = .returned (.int k b) := by rw [h]

def goodB (x : Int) : Bool := decide (1 ≤ x) && decide (x ≤ 20)
theorem goodB_true {x : Int} : goodB x = true ↔ 1 ≤ x ∧ x ≤ 20 := by unfold goodB; simp
theorem wgood_c (x : Int) (w : World) :
    Calls Tryz.prog 85 #[.int .i64 x] w fun e w' => e = .returned (.bool (goodB x)) ∧ w = w' := by
  by_cases h1 : 1 ≤ x <;> by_cases h2 : x ≤ 20
  all_goals
    go_enter Tryz.func85, Tryz.ntmps85
    go_wp2
    go_ret
    refine ⟨ret_b ?_, rfl⟩
    unfold goodB; simp [h1, h2]

/-- May an item be in a form? -/
def itemB (r : RI) : Bool := decide (0 ≤ r.1) && decide (r.1 ≤ 1073741824) && goodB r.2.1 && decide (-1125899906842624 ≤ r.2.2) && decide (r.2.2 ≤ 1125899906842624)
theorem itemB_true {r : RI} : itemB r = true ↔ 0 ≤ r.1 ∧ r.1 ≤ 1073741824 ∧ (1 ≤ r.2.1 ∧ r.2.1 ≤ 20) ∧ -1125899906842624 ≤ r.2.2 ∧ r.2.2 ≤ 1125899906842624 := by unfold itemB; simp [goodB_true]; omega

set_option maxRecDepth 100000 in
set_option maxHeartbeats 2000000 in
theorem goodItem_c (x0 x1 x2 : Int) (w : World) :
    Calls Tryz.prog 75 #[.agg #[.int .i64 x0, .int .i64 x1, .int .i64 x2]] w (Ret10 (.bool (itemB (x0, x1, x2))) w) := by
  have K1 := Lib.hid (fun w => wgood_c x1 w)
  have HB := Lib.hid ((Below.refl _ w).alloc (Nat.le_refl _) (.cells #[.int .i64 x0, .int .i64 x1, .int .i64 x2] 69))
  have HD : Hid (itemB (x0, x1, x2) = (decide (0 ≤ x0) && decide (x0 ≤ 1073741824) && goodB x1 && decide (-1125899906842624 ≤ x2) && decide (x2 ≤ 1125899906842624))) := Lib.hid rfl
  generalize goodB x1 = b1 at *
  generalize itemB (x0, x1, x2) = r at *
  by_cases h1 : 0 ≤ x0
  · by_cases h2 : x0 ≤ 1073741824
    · go_enter Tryz.func75, Tryz.ntmps75
      go_wp2_with fail
      refine (K1.out _).mono ?_; rintro e w' ⟨rfl, rfl⟩
      cases b1
      · go_wp2_with fail
        go_ret
        exact ⟨by rw [HD.out]; simp, HB.out⟩
      · go_wp2_with fail
        all_goals
          go_ret
          exact ⟨by rw [HD.out]; first | (simp [*]; done) | (simp; omega), HB.out⟩
    · go_enter Tryz.func75, Tryz.ntmps75
      go_wp2_with fail
      go_ret
      exact ⟨by rw [HD.out]; simp; omega, HB.out⟩
  · go_enter Tryz.func75, Tryz.ntmps75
    go_wp2_with fail
    go_ret
    exact ⟨by rw [HD.out]; simp; omega, HB.out⟩
end Go.Proofs.YtandmngfajoinaaGreat
