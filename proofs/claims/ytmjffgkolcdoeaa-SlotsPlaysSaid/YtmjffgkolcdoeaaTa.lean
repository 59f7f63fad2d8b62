/- Slots: what they are in the heap; Place, name, Has. -/
import Derived.WalkKit
import Derived.Below
import Derived.Lib.Hide
import Derived.Test.YtmjffgkolcdoeaaChecked
import Derived.Test.YtmjffgkolcdoeaaMem
import Derived.Test.YtmjffgkolcdoeaaIr
import Derived.Test.YtmjffgkolcdoeaaApp
import Derived.Lib.SliceRun
import Derived.Shelf.Abstract
import Derived.Shelf.RegionOpen
import Derived.OwnWalkIn
import Derived.TacticsInMore
import Derived.LoopNIn
import Derived.LoopIn
import Derived.Laws.ResultCell
import Derived.Carry
namespace Go.Proofs.Ytmjffgkolcdoeaa
open Go.RowKit

/-- A slot: its turn, whether it is taken. -/
abbrev SL := Nat × Bool
def encS (x : SL) : List Value := [.int .i64 x.1, .bool x.2]
def flatS : List SL → List Value
  | [] => []
  | x :: xs => encS x ++ flatS xs
theorem flatS_length (l : List SL) : (flatS l).length = l.length * 2 := by
  induction l with
  | nil => rfl
  | cons x xs ih => simp [flatS, encS, ih]; omega
theorem flatS_get0 {l : List SL} {j : Nat} {x : SL} (h : l[j]? = some x) : (flatS l)[j * 2]? = some (.int .i64 x.1) := by
  induction l generalizing j with
  | nil => simp at h
  | cons y ys ih =>
    cases j with
    | zero => simp at h; subst h; simp [flatS, encS]
    | succ j =>
      rw [List.getElem?_cons_succ] at h
      have := ih h
      rw [show (j + 1) * 2 = j * 2 + 1 + 1 by omega]
      simpa [flatS, encS] using this
theorem flatS_get1 {l : List SL} {j : Nat} {x : SL} (h : l[j]? = some x) : (flatS l)[j * 2 + 1]? = some (.bool x.2) := by
  induction l generalizing j with
  | nil => simp at h
  | cons y ys ih =>
    cases j with
    | zero => simp at h; subst h; simp [flatS, encS]
    | succ j =>
      rw [List.getElem?_cons_succ] at h
      have := ih h
      rw [show (j + 1) * 2 + 1 = j * 2 + 1 + 1 + 1 by omega]
      simpa [flatS, encS] using this
theorem flatS_set (l : List SL) (j : Nat) (x : SL) : flatS (l.set j x) = ((flatS l).set (j * 2) (.int .i64 x.1)).set (j * 2 + 1) (.bool x.2) := by
  induction l generalizing j with
  | nil => rfl
  | cons y ys ih =>
    cases j with
    | zero => simp [flatS, encS]
    | succ j =>
      rw [show (j + 1) * 2 = j * 2 + 1 + 1 by omega]
      simp [flatS, encS, ih]
theorem flatS_set1 {l : List SL} {j : Nat} {x : SL} (h : l[j]? = some x) (c : Bool) : flatS (l.set j (x.1, c)) = (flatS l).set (j * 2 + 1) (.bool c) := by
  rw [flatS_set]
  congr 1
  apply List.ext_getElem?
  intro i
  rw [List.getElem?_set]
  split
  · rename_i e
    subst e
    have := flatS_get0 h
    have hl := (List.getElem?_eq_some_iff.1 this).1
    rw [this, if_pos hl]
  · rfl

structure IsS (w : World) (b g : Nat) (S : List SL) : Prop where
  box : w.heap[b]? = some (.cells #[.slice (some ⟨g, 0, none⟩) S.length S.length] 42 (0, 0))
  row : w.heap[g]? = some (.cells (flatS S).toArray 47 (0, 0))
  pos : 1 ≤ S.length
  le : S.length ≤ 64
  ne : b ≠ g
theorem IsS.ltb {w : World} {b g : Nat} {S : List SL} (h : IsS w b g S) : b < w.heap.size := (Array.getElem?_eq_some_iff.1 h.box).1
theorem IsS.ltg {w : World} {b g : Nat} {S : List SL} (h : IsS w b g S) : g < w.heap.size := (Array.getElem?_eq_some_iff.1 h.row).1
theorem IsS.keep {w w' : World} {b g : Nat} {S : List SL} (h : IsS w b g S) (hb : w'.heap[b]? = w.heap[b]?) (hg : w'.heap[g]? = w.heap[g]?) : IsS w' b g S :=
  ⟨hb.trans h.box, hg.trans h.row, h.pos, h.le, h.ne⟩
theorem IsS.below {w w' : World} {b g : Nat} {S : List SL} (h : IsS w b g S) (hb : Below w.heap.size w w') : IsS w' b g S :=
  h.keep (hb.block _ h.ltb) (hb.block _ h.ltg)
theorem IsS.cb {w : World} {b g : Nat} {S : List SL} (h : IsS w b g S) : w.cell? ⟨b, 0, none⟩ = some (.slice (some ⟨g, 0, none⟩) S.length S.length) := by
  simp [World.cell?, h.box]
theorem IsS.c0 {w : World} {b g : Nat} {S : List SL} (h : IsS w b g S) {j : Nat} {x : SL} (hx : S[j]? = some x) : w.cell? ⟨g, j * 2, none⟩ = some (.int .i64 x.1) := by
  have := flatS_get0 hx
  simp [World.cell?, h.row, this]
theorem IsS.c1 {w : World} {b g : Nat} {S : List SL} (h : IsS w b g S) {j : Nat} {x : SL} (hx : S[j]? = some x) : w.cell? ⟨g, j * 2 + 1, none⟩ = some (.bool x.2) := by
  have := flatS_get1 hx
  simp [World.cell?, h.row, this]
theorem IsS.frozen {w : World} {b g : Nat} {S : List SL} (h : IsS w b g S) (o : Nat) : w.frozen? ⟨g, o, none⟩ = false := by
  simp [World.frozen?, h.row]

/-- Place's answer. -/
def placeV (id : Int) : Int × Int := if id < 0 then (-1, -1) else (id % 64, id / 64)
set_option maxHeartbeats 1000000 in
theorem place_c (id : Int) (h3 : -9223372036854775808 ≤ id) (h4 : id ≤ 9223372036854775807) (w : World) :
    Calls Try.prog 10 #[.int .i64 id] w fun e w' => e = .returned (.tuple #[.int .i64 (placeV id).1, .int .i64 (placeV id).2]) ∧ w = w' := by
  by_cases h : id < 0
  · have e : placeV id = (-1, -1) := by unfold placeV; rw [if_pos h]
    rw [e]
    go_enter Try.func10, Try.ntmps10
    go_wp2
    go_ret2
    exact ⟨rfl, rfl⟩
  · have e : placeV id = (id % 64, id / 64) := by unfold placeV; rw [if_neg h]
    rw [e]
    have h1 : id.tmod 64 = id % 64 := Int.tmod_eq_emod_of_nonneg (by omega)
    have h2 : id.tdiv 64 = id / 64 := Int.tdiv_eq_ediv_of_nonneg (by omega)
    go_enter Try.func10, Try.ntmps10
    go_wp2
    go_ret2
    exact ⟨rfl, rfl⟩

set_option maxHeartbeats 1000000 in
theorem name_c (b g : Nat) (S : List SL) (k : Nat) (t : Nat) (c : Bool) (w : World) (h : IsS w b g S) (hk : S[k]? = some (t, c)) (ht : t ≤ 1000000) :
    Calls Try.prog 21 #[.pointer (some ⟨b, 0, none⟩), .int .i64 k] w fun e w' => e = .returned (.int .i64 (k + 64 * t : Nat)) ∧ w = w' := by
  have cb := h.cb
  have c0 := h.c0 hk
  have hkl := (List.getElem?_eq_some_iff.1 hk).1
  have hle := h.le
  simp only at c0
  obtain ⟨n, hn⟩ : ∃ n, S.length = n := ⟨_, rfl⟩
  rw [hn] at cb hkl hle
  clear h hk hn
  go_enter Try.func21, Try.ntmps21
  go_wp2
  go_ret
  refine ⟨?_, rfl⟩
  simp
end Go.Proofs.Ytmjffgkolcdoeaa
