/- The reference's Parts. -/
import Derived.Test.YtaeondpeaabfeaaHa
import Derived.Test.YtaeondpeaabfeaaPe
import Derived.Test.YtaeondpeaabfeaaPc
namespace Go.Proofs.Ytaeondpeaabfeaa
open Go.RowKit Go.Sort

/-- A row of truths at the head of block g. -/
def BRow (w : World) (g : Nat) (l : List Bool) : Prop := ∀ j z, l[j]? = some z → w.cell? ⟨g, j, none⟩ = some (.bool z) ∧ w.frozen? ⟨g, j, none⟩ = false
theorem BRow.at {w : World} {g : Nat} {l : List Bool} (h : BRow w g l) {j : Nat} (hj : j < l.length) : w.cell? ⟨g, j, none⟩ = some (.bool l[j]) ∧ w.frozen? ⟨g, j, none⟩ = false := h j _ (List.getElem?_eq_getElem hj)
theorem BRow.drewN {w : World} {g : Nat} {l : List Bool} (h : BRow w g l) (n : Nat) : BRow (w.drewN n) g l := h
theorem BRow.other {w : World} {g g' j : Nat} {l : List Bool} (h : BRow w g l) (hne : g ≠ g') (v : Value) : BRow (w.setCell ⟨g', j, none⟩ v) g l := fun i z hi =>
  ⟨(World.cell?_setCell_other _ _ _ _ (fun e => by have := congrArg Addr.block e; simp at this; omega)).trans (h i z hi).1, by rw [World.frozen?_setCell]; exact (h i z hi).2⟩
theorem BRow.stored {w : World} {g j : Nat} {l : List Bool} (h : BRow w g l) (x : Bool) : BRow (w.setCell ⟨g, j, none⟩ (.bool x)) g (l.set j x) := by
  intro i z hi
  rw [List.getElem?_set] at hi
  by_cases e : j = i
  · subst e
    rw [if_pos rfl] at hi
    split at hi
    · rename_i hlt
      injection hi with hi
      subst hi
      exact ⟨World.cell?_setCell_same _ _ _ (h.at hlt).1, by rw [World.frozen?_setCell]; exact (h.at hlt).2⟩
    · cases hi
  · rw [if_neg e] at hi
    exact ⟨(World.cell?_setCell_other _ _ _ _ (fun x => by first | (simp at x; done) | (simp at x; omega))).trans (h i z hi).1, by rw [World.frozen?_setCell]; exact (h i z hi).2⟩
theorem made_falses {w : World} {base g n : Nat} {e : TypeId} (h : w.ownsRow base e 1 (.slice (some ⟨g, 0, none⟩) n n) n (madeCells (Value.bool false).cells (n * 1)).toList) : BRow w g (List.replicate n false) := by
  have e1 : (madeCells (Value.bool false).cells (n * 1)).toList = List.replicate n (.bool false) := by
    rw [Nat.mul_one]; exact toList_madeCells_one _ n
  rw [e1] at h
  intro j z hj
  rw [List.getElem?_replicate] at hj
  split at hj
  · rename_i hlt
    injection hj with hj
    subst hj
    refine ⟨?_, World.ownsRow.frozenAt h j⟩
    rw [World.ownsRow.cellAt h j (by omega), List.getElem?_replicate, if_pos hlt]
  · cases hj

theorem info_bool : (Try.prog.info? 4).map (fun i => (i.zero, i.size, i.bytes)) = some (some (.bool false), 1, 1) := by kernel_rfl

set_option maxHeartbeats 1000000 in
theorem parts_ref_none (A : Option Addr) (c : Nat) (B : Nat) (l : List Int) (n : Int) (w : World) (hl : l.length ≤ 70) (hr : IRow .i64 w B A l) (hb : partsB l n = false) :
    Calls Try.prog 22 #[.slice A l.length c, .int .i64 n] w fun e w' => e = .returned (.slice none 0 0) ∧ w = w' := by
  have hc := Lib.hid (total_ref A c B l w hl hr)
  clear hr
  cases ht : totB l with
  | false =>
    rw [ht] at hc
    clear ht hb
    go_enter Try.func22, Try.ntmps22
    go_wp2_with (go_at_call 17; refine hc.out.mono ?_; rintro e w' ⟨rfl, rfl⟩)
    go_ret
    exact ⟨rfl, rfl⟩
  | true =>
    rw [ht] at hc
    have hb2 : l.length = 0 ∨ n < 0 ∨ 1099511627776 < n := by
      have : ¬ (0 < l.length ∧ 0 ≤ n ∧ n ≤ 1099511627776) := fun h => by have h2 := partsB_true.2 ⟨ht, h⟩; rw [hb] at h2; cases h2
      omega
    clear ht hb
    generalize totV l = T at hc
    obtain ⟨m, hm⟩ : ∃ m, m = l.length := ⟨_, rfl⟩
    rw [← hm] at hc hl hb2 ⊢
    clear hm
    by_cases h2 : n < 0
    · go_enter Try.func22, Try.ntmps22
      go_wp2_with (go_at_call 17; refine hc.out.mono ?_; rintro e w' ⟨rfl, rfl⟩)
      go_ret
      exact ⟨rfl, rfl⟩
    · have h2' : 0 ≤ n := by omega
      by_cases h3 : 1099511627776 < n
      · go_enter Try.func22, Try.ntmps22
        go_wp2_with (go_at_call 17; refine hc.out.mono ?_; rintro e w' ⟨rfl, rfl⟩)
        go_ret
        exact ⟨rfl, rfl⟩
      · have h3' : n ≤ 1099511627776 := by omega
        obtain rfl : m = 0 := by omega
        go_enter Try.func22, Try.ntmps22
        go_wp2_with (go_at_call 17; refine hc.out.mono ?_; rintro e w' ⟨rfl, rfl⟩)
        go_ret
        exact ⟨rfl, rfl⟩
end Go.Proofs.Ytaeondpeaabfeaa
