/- Groups: what they are in the heap; has, Up. -/
import Derived.WalkKit
import Derived.Below
import Derived.Lib.Hide
import Derived.Test.YtbhcooomdjhoiaaChecked
import Derived.Test.YtbhcooomdjhoiaaMem
import Derived.Test.YtbhcooomdjhoiaaIr
import Derived.Test.YtbhcooomdjhoiaaApp
import Derived.Lib.SliceRun
import Derived.Shelf.Abstract
import Derived.Shelf.RegionOpen
import Derived.OwnWalkIn
import Derived.TacticsInMore
import Derived.LoopNIn
import Derived.LoopIn
import Derived.Laws.ResultCell
import Derived.Carry
import Derived.Deep.WholeRow
namespace Go.Proofs.Ytbhcooomdjhoiaa
open Go.RowKit

/-- A group: what it is in, whether it is there. -/
abbrev GR := Nat × Bool
def encG (x : GR) : List Value := [.int .i64 x.1, .bool x.2]
def flatG : List GR → List Value
  | [] => []
  | x :: xs => encG x ++ flatG xs
theorem flatG_length (l : List GR) : (flatG l).length = l.length * 2 := by
  induction l with
  | nil => rfl
  | cons x xs ih => simp [flatG, encG, ih]; omega
theorem flatG_get0 {l : List GR} {j : Nat} {x : GR} (h : l[j]? = some x) : (flatG l)[j * 2]? = some (.int .i64 x.1) := by
  induction l generalizing j with
  | nil => simp at h
  | cons y ys ih =>
    cases j with
    | zero => simp at h; subst h; simp [flatG, encG]
    | succ j =>
      rw [List.getElem?_cons_succ] at h
      have := ih h
      rw [show (j + 1) * 2 = j * 2 + 1 + 1 by omega]
      simpa [flatG, encG] using this
theorem flatG_get1 {l : List GR} {j : Nat} {x : GR} (h : l[j]? = some x) : (flatG l)[j * 2 + 1]? = some (.bool x.2) := by
  induction l generalizing j with
  | nil => simp at h
  | cons y ys ih =>
    cases j with
    | zero => simp at h; subst h; simp [flatG, encG]
    | succ j =>
      rw [List.getElem?_cons_succ] at h
      have := ih h
      rw [show (j + 1) * 2 + 1 = j * 2 + 1 + 1 + 1 by omega]
      simpa [flatG, encG] using this
theorem flatG_set (l : List GR) (j : Nat) (x : GR) : flatG (l.set j x) = ((flatG l).set (j * 2) (.int .i64 x.1)).set (j * 2 + 1) (.bool x.2) := by
  induction l generalizing j with
  | nil => rfl
  | cons y ys ih =>
    cases j with
    | zero => simp [flatG, encG]
    | succ j =>
      rw [show (j + 1) * 2 = j * 2 + 1 + 1 by omega]
      simp [flatG, encG, ih]

structure IsG (w : World) (b : Nat) (G : List GR) : Prop where
  box : w.heap[b]? = some (.cells (flatG G).toArray 49 (0, 0))
  len : G.length = 16
theorem IsG.lt {w : World} {b : Nat} {G : List GR} (h : IsG w b G) : b < w.heap.size := (Array.getElem?_eq_some_iff.1 h.box).1
theorem IsG.keep {w w' : World} {b : Nat} {G : List GR} (h : IsG w b G) (hb : w'.heap[b]? = w.heap[b]?) : IsG w' b G := ⟨hb.trans h.box, h.len⟩
theorem IsG.below {w w' : World} {b : Nat} {G : List GR} (h : IsG w b G) (hb : Below w.heap.size w w') : IsG w' b G := h.keep (hb.block _ h.lt)
theorem IsG.c0 {w : World} {b : Nat} {G : List GR} (h : IsG w b G) {j : Nat} {x : GR} (hx : G[j]? = some x) : w.cell? ⟨b, j * 2, none⟩ = some (.int .i64 x.1) := by
  have := flatG_get0 hx
  simp [World.cell?, h.box, this]
theorem IsG.c1 {w : World} {b : Nat} {G : List GR} (h : IsG w b G) {j : Nat} {x : GR} (hx : G[j]? = some x) : w.cell? ⟨b, j * 2 + 1, none⟩ = some (.bool x.2) := by
  have := flatG_get1 hx
  simp [World.cell?, h.box, this]
theorem IsG.frozen {w : World} {b : Nat} {G : List GR} (h : IsG w b G) (o : Nat) : w.frozen? ⟨b, o, none⟩ = false := by simp [World.frozen?, h.box]
theorem IsG.at {w : World} {b : Nat} {G : List GR} (h : IsG w b G) {k : Nat} (hk : k < 16) : ∃ u c, G[k]? = some (u, c) := ⟨_, _, List.getElem?_eq_getElem (by rw [h.len]; exact hk)⟩

/-- Is there a group id? -/
def hasG (G : List GR) (id : Int) : Bool := decide (0 ≤ id) && ((G[id.toNat]?.map (·.2)) == some true)
theorem hasG_neg {G : List GR} {id : Int} (h : id < 0) : hasG G id = false := by unfold hasG; simp; omega
theorem hasG_big {G : List GR} {id : Int} (h : (G.length : Int) ≤ id) : hasG G id = false := by
  unfold hasG
  rw [List.getElem?_eq_none (by omega)]
  simp
theorem hasG_in {G : List GR} {k u : Nat} {c : Bool} (hx : G[k]? = some (u, c)) : hasG G (k : Int) = c := by
  unfold hasG
  rw [Int.toNat_natCast, hx]
  simp
theorem hasG_yes {G : List GR} {id : Int} (h : hasG G id = true) : ∃ k u : Nat, id = (k : Int) ∧ G[k]? = some (u, true) := by
  unfold hasG at h
  simp only [Bool.and_eq_true, decide_eq_true_eq, beq_iff_eq] at h
  obtain ⟨h0, h1⟩ := h
  cases hg : G[id.toNat]? with
  | none => rw [hg] at h1; simp at h1
  | some y => obtain ⟨u, c⟩ := y; rw [hg] at h1; simp at h1; subst h1; exact ⟨id.toNat, u, by omega, hg⟩

set_option maxHeartbeats 1000000 in
theorem has_c (b : Nat) (G : List GR) (id : Int) (w : World) (h : IsG w b G) :
    Calls Try.prog 22 #[.pointer (some ⟨b, 0, none⟩), .int .i64 id] w fun e w' => e = .returned (.bool (hasG G id)) ∧ w = w' := by
  by_cases h1 : id < 0
  · rw [hasG_neg h1]
    clear h
    go_enter Try.func22, Try.ntmps22
    go_wp2
    go_ret
    exact ⟨rfl, rfl⟩
  · by_cases h2 : 16 ≤ id
    · rw [hasG_big (by rw [h.len]; exact h2)]
      clear h
      go_enter Try.func22, Try.ntmps22
      go_wp2
      go_ret
      exact ⟨rfl, rfl⟩
    · obtain ⟨k, rfl⟩ : ∃ k : Nat, id = k := ⟨id.toNat, by omega⟩
      have hk : k < 16 := by omega
      obtain ⟨u, c, hx⟩ := h.at hk
      rw [hasG_in hx]
      have d1 := h.c1 hx
      simp only at d1
      clear h hx h1 h2
      go_enter Try.func22, Try.ntmps22
      go_wp2
      go_ret
      exact ⟨rfl, rfl⟩

/-- Up's answer. -/
def upG (G : List GR) (id : Int) : Int × Bool := if id ≠ 0 ∧ hasG G id = true then ((G[id.toNat]?.getD (0, false)).1, true) else (0, false)

set_option maxHeartbeats 1000000 in
theorem up_c (b : Nat) (G : List GR) (id : Int) (w : World) (h : IsG w b G) :
    Calls Try.prog 11 #[.pointer (some ⟨b, 0, none⟩), .int .i64 id] w fun e w' => e = .returned (.tuple #[.int .i64 (upG G id).1, .bool (upG G id).2]) ∧ w = w' := by
  by_cases h0 : id = 0
  · subst h0
    have e : upG G 0 = (0, false) := by unfold upG; simp
    rw [e]
    clear h e
    go_enter Try.func11, Try.ntmps11
    go_wp2
    go_ret2
    exact ⟨rfl, rfl⟩
  · have KH := Lib.hid (has_c b G id w h)
    cases hh : hasG G id with
    | false =>
      have e : upG G id = (0, false) := by unfold upG; rw [if_neg (by rw [hh]; simp)]
      rw [e]
      rw [hh] at KH
      clear h e hh
      go_enter Try.func11, Try.ntmps11
      go_wp2_with (go_at_call 22; refine (KH.out).mono ?_; rintro e w' ⟨rfl, rfl⟩)
      go_ret2
      exact ⟨rfl, rfl⟩
    | true =>
      obtain ⟨k, u, rfl, hx⟩ := hasG_yes hh
      have e : upG G (k : Int) = ((u : Int), true) := by unfold upG; rw [if_pos ⟨h0, hh⟩, Int.toNat_natCast, hx]; rfl
      rw [e]
      rw [hh] at KH
      have d0 := h.c0 hx
      simp only at d0
      have hk : k < 16 := by have := (List.getElem?_eq_some_iff.1 hx).1; rw [h.len] at this; exact this
      clear h e hh hx
      go_enter Try.func11, Try.ntmps11
      go_wp2_with (go_at_call 22; refine (KH.out).mono ?_; rintro e w' ⟨rfl, rfl⟩)
      go_ret2
      exact ⟨rfl, rfl⟩
end Go.Proofs.Ytbhcooomdjhoiaa
