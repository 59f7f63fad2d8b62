/- Rows of the reference of chapters 4 and 5: what a Row holds; At, before. -/
import Derived.Test.YtaodkfnbmpbcfaaMem
import Derived.Test.YtaodkfnbmpbcfaaIt
import Derived.Test.YtaodkfnbmpbcfaaChecked
namespace Go.Proofs.Ytaodkfnbmpbcfaa
open Go.RowKit

/-- A thing of the reference's: its key, its day, its number; its cells; a list's cells. -/
abbrev RI := Int × Int × Int
def encR (x : RI) : List Value := [.int .i64 x.1, .int .i64 x.2.1, .int .i64 x.2.2]
def flatR : List RI → List Value
  | [] => []
  | x :: xs => encR x ++ flatR xs
theorem flatR_length (l : List RI) : (flatR l).length = l.length * 3 := by
  induction l with
  | nil => rfl
  | cons x xs ih => rw [flatR, List.length_append, ih, List.length_cons]; simp [encR]; omega
theorem flatR_append (a b : List RI) : flatR (a ++ b) = flatR a ++ flatR b := by
  induction a with
  | nil => rfl
  | cons x xs ih => rw [List.cons_append, flatR, flatR, ih, List.append_assoc]
theorem flatR_get {l : List RI} {j : Nat} {x : RI} (h : l[j]? = some x) (i : Nat) (hi : i < 3) : (flatR l)[j * 3 + i]? = (encR x)[i]? := by
  induction l generalizing j with
  | nil => simp at h
  | cons y ys ih =>
    cases j with
    | zero =>
      simp at h
      subst h
      rw [flatR, List.getElem?_append_left (by simp [encR]; omega)]
      simp
    | succ j =>
      have h' : ys[j]? = some x := by simpa using h
      rw [flatR, List.getElem?_append_right (by simp [encR]; omega)]
      have e : (j + 1) * 3 + i - (encR y).length = j * 3 + i := by simp [encR]; omega
      rw [e, ih h']

/-- The slice v holds the list l. -/
def RowV (w : World) (v : Value) (l : List RI) : Prop := w.ownsRow 0 38 3 v l.length (flatR l)
theorem RowV.keep {w w' : World} {v : Value} {l : List RI} (h : RowV w v l) (hs : ∀ g, v.ownBlock = some g → w'.heap[g]? = w.heap[g]?) : RowV w' v l := by
  refine ⟨h.1, ?_⟩
  rcases h.2 with h2 | ⟨g, cap, cur, h1, h2, h3, h4⟩
  · exact .inl h2
  · exact .inr ⟨g, cap, cur, h1, h2, (hs g (by rw [h1]; rfl)).trans h3, h4⟩
theorem RowV.form {w : World} {v : Value} {l : List RI} (h : RowV w v l) : ∃ A c, v = .slice A l.length c := by
  rcases h.2 with ⟨h1, h2⟩ | ⟨g, cap, cur, h1, _⟩
  · exact ⟨none, 0, by rw [h1, h2]⟩
  · exact ⟨_, _, h1⟩
/-- One thing of it. -/
theorem RowV.get {w : World} {v : Value} {l : List RI} (h : RowV w v l) {j : Nat} {x : RI} (hj : l[j]? = some x) :
    ∃ g c, v = .slice (some ⟨g, 0, none⟩) l.length c ∧ g < w.heap.size ∧ l.length ≤ c ∧ w.cell? ⟨g, j * 3, none⟩ = some (.int .i64 x.1) ∧ w.cell? ⟨g, j * 3 + 1, none⟩ = some (.int .i64 x.2.1) ∧ w.cell? ⟨g, j * 3 + 2, none⟩ = some (.int .i64 x.2.2) := by
  have hlt : j < l.length := (List.getElem?_eq_some_iff.1 hj).1
  rcases h.2 with ⟨h1, h2⟩ | ⟨g, cap, cur, h1, h2, h3, h4, _⟩
  · omega
  · have hc := World.ownsRow.cells h (g := g) (by rw [h1]; rfl)
    have ha : ∀ i, (⟨g, 0, none⟩ : Addr).add i = ⟨g, i, none⟩ := fun i => by unfold Addr.add; split <;> simp_all
    refine ⟨g, cap, h1, (Array.getElem?_eq_some_iff.1 h3).1, h4, ?_, ?_, ?_⟩
    · have := hc (j * 3 + 0) _ ((flatR_get hj 0 (by omega)).trans rfl); rwa [ha] at this
    · have := hc (j * 3 + 1) _ ((flatR_get hj 1 (by omega)).trans rfl); rwa [ha] at this
    · have := hc (j * 3 + 2) _ ((flatR_get hj 2 (by omega)).trans rfl); rwa [ha] at this

/-- Block b is a Row: room for so many, the list l. -/
def IsRow (w : World) (b : Nat) (most : Int) (v : Value) (l : List RI) : Prop :=
  w.heap[b]? = some (.cells #[.int .i64 most, v] 29 (0, 0)) ∧ RowV w v l ∧ v.ownBlock ≠ some b

/-- The place of a number; -1. -/
def atR (id : Int) : List RI → Nat → Int
  | [], _ => -1
  | x :: xs, k => if x.2.2 = id then k else atR id xs (k + 1)

set_option maxHeartbeats 1000000 in
theorem rowAt_c (b : Nat) (most id : Int) (v : Value) (l : List RI) (w : World) (h : IsRow w b most v l) (hl : l.length ≤ 1000000) :
    Calls Try.prog 14 #[.pointer (some ⟨b, 0, none⟩), .int .i64 id] w fun e w' => e = .returned (.int .i64 (atR id l 0)) ∧ w = w' := by
  have hc1 : w.cell? ⟨b, 1, none⟩ = some v := by simp [World.cell?, h.1]
  have HR := Lib.hid h.2.1
  obtain ⟨A, c, rfl⟩ := h.2.1.form
  obtain ⟨n, hn⟩ : ∃ n, l.length = n := ⟨_, rfl⟩
  rw [hn] at hc1 HR hl
  have HN := Lib.hid hn
  clear h hn
  go_enter Try.func14, Try.ntmps14
  go_wp2_with fail
  go_loop [5] (fun i => ∃ k : Nat, i = .int .i64 k ∧ k ≤ n ∧ atR id l 0 = atR id (l.drop k) k) (fun i => n - (intOf i).toNat)
  case atStart => exact ⟨0, rfl, Nat.zero_le _, by simp⟩
  case round =>
    obtain ⟨k, rfl, hk, hat⟩ := hrel
    have HAT := Lib.hid hat
    clear hat
    by_cases hlt : k < n
    · have hkl : k < l.length := by rw [HN.out]; exact hlt
      obtain ⟨g, cc, hv, _, _, c0, c1, c2⟩ := HR.out.get (List.getElem?_eq_getElem hkl)
      rw [HN.out] at hv
      injection hv with hv1 hv2 hv3
      subst hv1 hv3
      obtain ⟨x, hx⟩ : ∃ x, x = l[k] := ⟨_, rfl⟩
      rw [← hx] at c0 c1 c2
      have hstep : atR id (l.drop k) k = if x.2.2 = id then (k : Int) else atR id (l.drop (k + 1)) (k + 1) := by
        rw [List.drop_eq_getElem_cons hkl, atR, ← hx]
      have HS := Lib.hid hstep
      clear hx hstep hv2 c0 c1
      by_cases he : x.2.2 = id
      · go_wp2_with fail
        go_ret
        refine ⟨?_, rfl⟩
        rw [HAT.out, HS.out, if_pos he]
        rfl
      · have he' : (x.2.2 == id) = false := by simp [he]
        go_wp2_with fail
        go_round
        case rel => exact ⟨k + 1, by go_num, by omega, by rw [HAT.out, HS.out, if_neg he]⟩
        case measure => simp [intOf]; omega
    · obtain rfl : k = n := by omega
      have e1 : atR id l 0 = -1 := by rw [HAT.out, ← HN.out, List.drop_length]; rfl
      rw [e1]
      go_wp2_with fail
      go_ret
      exact ⟨rfl, rfl⟩

/-- Is a ahead of b? -/
def befB (a b : RI) : Bool := decide (a.1 < b.1) || (decide (a.1 = b.1) && decide (a.2.2 < b.2.2))
set_option maxHeartbeats 1000000 in
theorem before_c (a b : RI) (w : World) : Calls Try.prog 33 #[.agg (encR a).toArray, .agg (encR b).toArray] w fun e w' => e = .returned (.bool (befB a b)) ∧ Below w.heap.size w w' := by
  obtain ⟨a0, a1, a2⟩ := a
  obtain ⟨b0, b1, b2⟩ := b
  simp only [encR, befB]
  by_cases h1 : a0 < b0
  · go_enter Try.func33, Try.ntmps33
    go_wp2_with fail
    go_ret
    exact ⟨by simp [h1], ((Below.refl _ w).alloc (Nat.le_refl _) _).alloc (by simp) _⟩
  · by_cases h2 : a0 = b0
    · subst h2
      go_enter Try.func33, Try.ntmps33
      go_wp2_with fail
      go_ret
      exact ⟨by simp, ((Below.refl _ w).alloc (Nat.le_refl _) _).alloc (by simp) _⟩
    · have h2' : (a0 == b0) = false := by simp [h2]
      go_enter Try.func33, Try.ntmps33
      go_wp2_with fail
      go_ret
      exact ⟨by simp [h1], ((Below.refl _ w).alloc (Nat.le_refl _) _).alloc (by simp) _⟩
end Go.Proofs.Ytaodkfnbmpbcfaa
