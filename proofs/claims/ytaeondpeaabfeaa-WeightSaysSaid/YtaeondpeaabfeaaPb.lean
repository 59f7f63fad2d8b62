/- The contract of weight.Parts. -/
import Derived.Test.YtaeondpeaabfeaaPa
import Derived.Test.YtaeondpeaabfeaaSi
namespace Go.Proofs.Ytaeondpeaabfeaa
open Go.RowKit Go.Sort

/-- Where Parts answers nothing. -/
def partsB (l : List Int) (n : Int) : Bool := totB l && decide (l.length ≠ 0) && decide (0 ≤ n) && decide (n ≤ 1099511627776)
theorem partsB_true {l : List Int} {n : Int} : partsB l n = true ↔ totB l = true ∧ 0 < l.length ∧ 0 ≤ n ∧ n ≤ 1099511627776 := by
  unfold partsB
  simp only [Bool.and_eq_true, decide_eq_true_eq]
  constructor
  · rintro ⟨⟨⟨a, b⟩, c⟩, d⟩; exact ⟨a, by omega, c, d⟩
  · rintro ⟨a, b, c, d⟩; exact ⟨⟨⟨a, by omega⟩, c⟩, d⟩

set_option maxHeartbeats 1000000 in
theorem parts_none (A : Option Addr) (c : Nat) (B : Nat) (l : List Int) (n : Int) (w : World) (hl : l.length ≤ 9223372036854775807) (hr : IRow .i64 w B A l) (hb : partsB l n = false) :
    Calls Try.prog 15 #[.slice A l.length c, .int .i64 n] w fun e w' => e = .returned (.slice none 0 0) ∧ w = w' := by
  have hc := Lib.hid (total_c A l.length c B l w rfl hl hr)
  clear hr
  cases ht : totB l with
  | false =>
    rw [ht] at hc
    clear ht hb
    go_enter Try.func15, Try.ntmps15
    go_wp2_with (go_at_call 12; refine hc.out.mono ?_; rintro e w' ⟨rfl, rfl⟩)
    go_ret
    exact ⟨rfl, rfl⟩
  | true =>
    rw [ht] at hc
    have hb2 : l.length = 0 ∨ n < 0 ∨ 1099511627776 < n := by
      have : ¬ (0 < l.length ∧ 0 ≤ n ∧ n ≤ 1099511627776) := fun h => by have h2 := partsB_true.2 ⟨ht, h⟩; rw [hb] at h2; cases h2
      omega
    clear ht hb
    generalize totV l = T at hc
    obtain ⟨m, hm⟩ : ∃ m, m = l.length := ⟨_, rfl⟩
    rw [← hm] at hc hl hb2 ⊢
    clear hm
    by_cases h1 : m = 0
    · subst h1
      go_enter Try.func15, Try.ntmps15
      go_wp2_with (go_at_call 12; refine hc.out.mono ?_; rintro e w' ⟨rfl, rfl⟩)
      go_ret
      exact ⟨rfl, rfl⟩
    · have h1' : ((m : Int) == 0) = false := beq_eq_false_iff_ne.2 (by omega)
      by_cases h2 : n < 0
      · go_enter Try.func15, Try.ntmps15
        go_wp2_with (go_at_call 12; refine hc.out.mono ?_; rintro e w' ⟨rfl, rfl⟩)
        go_ret
        exact ⟨rfl, rfl⟩
      · have h3 : 1099511627776 < n := by omega
        go_enter Try.func15, Try.ntmps15
        go_wp2_with (go_at_call 12; refine hc.out.mono ?_; rintro e w' ⟨rfl, rfl⟩)
        go_ret
        exact ⟨rfl, rfl⟩

/-- What Parts hands back. -/
def PartsPost (w : World) (l : List Int) (n : Int) (e : Ending) (w' : World) : Prop :=
  ∃ (g : Nat) (d' : Array Int), e = .returned (.slice (some ⟨g, 0, none⟩) l.length l.length) ∧ w.heap.size ≤ g ∧ g < w'.heap.size ∧ Merged (lexB (keyO (ofL l n))) 0 l.length (iota l.length) d' ∧
    RowAt w' g (bumps (shL l n) ((d'.toList.take (n - (shL l n).sum).toNat).map Int.toNat)) ∧ Below w.heap.size w w'

/-- While the shares are laid: k of them. -/
def ShAt (w : World) (l : List Int) (n : Int) (g : Nat) (k : Nat) (rest : Int) (wr : World) : Prop :=
  (k ≤ l.length ∧ rest = n - ((shL l n).take k).sum) ∧ RowAt wr w.heap.size (fill (shL l n) k) ∧ RowAt wr g (fill (ofL l n) k) ∧ (w.heap.size < g ∧ g < wr.heap.size) ∧ Below w.heap.size w wr
theorem ShAt.bound {w : World} {l : List Int} {n rest : Int} {g k : Nat} {wr : World} (h : ShAt w l n g k rest wr) (hb : totB l = true) (hn : 0 ≤ n) (hn2 : n ≤ 1099511627776) : -100000000000000 ≤ rest ∧ rest ≤ 1099511627776 := by
  have h1 := h.1.2
  have h2 := (totB_true.1 hb).1
  have h3 : ∀ z ∈ (shL l n).take k, 0 ≤ z ∧ z ≤ n := fun z hz => shL_le l n hb hn z (List.mem_of_mem_take hz)
  have h4 := sum_map_le ((shL l n).take k) id n h3
  rw [List.map_id] at h4
  have h5 : ((shL l n).take k).length ≤ 64 := by rw [List.length_take, shL_length]; omega
  have h6 : n * (((shL l n).take k).length : Int) ≤ 1099511627776 * 64 := Int.mul_le_mul hn2 (by omega) (by omega) (by omega)
  omega
theorem ShAt.next {w : World} {l : List Int} {n rest : Int} {g k : Nat} {wr : World} (h : ShAt w l n g k rest wr) (hk : k < l.length) (s o : Int) (hs : s = n * l[k] / l.sum) (ho : o = n * l[k] / l.sum * l.sum - n * l[k]) (q : Nat) :
    ShAt w l n g (k + 1) (rest - s) (((wr.drewN q).setCell ⟨w.heap.size, k, none⟩ (.int .i64 s)).setCell ⟨g, k, none⟩ (.int .i64 o)) := by
  obtain ⟨⟨h1, h2⟩, h3, h4, ⟨h5, h7⟩, h6⟩ := h
  have e1 := fill_set (shL l n) k (by rw [shL_length]; exact hk)
  have e2 := fill_set (ofL l n) k (by rw [ofL_length]; exact hk)
  rw [shL_at l n k hk, ← hs] at e1
  rw [ofL_at l n k hk, ← ho] at e2
  refine ⟨⟨by omega, ?_⟩, ?_, ?_, ⟨h5, by simpa using h7⟩, ((below_drewN h6 q).setCell (by simp) _).setCell (by simp; omega) _⟩
  · rw [sum_snoc _ k (by rw [shL_length]; exact hk), shL_at l n k hk, ← hs, h2]; omega
  · rw [← e1]; exact ((h3.drewN q).stored s).other (by omega) _
  · rw [← e2]; exact ((h4.drewN q).other (by omega) _).stored o

theorem info_i64p : (Try.prog.info? 2).map (fun i => (i.zero, i.size, i.bytes)) = some (some (.int .i64 0), 1, 8) := by kernel_rfl

/-- While those that are off most get one more: k of them have. -/
def BuAt (w : World) (l : List Int) (n : Int) (g : Nat) (d' : Array Int) (k : Nat) (wr : World) : Prop :=
  RowAt wr w.heap.size (bumps (shL l n) ((d'.toList.take k).map Int.toNat)) ∧ (∀ j, j < l.length → wr.cell? ⟨g, j, none⟩ = some (.int .i64 d'[j]!)) ∧ w.heap.size < g ∧ g < wr.heap.size ∧ Below w.heap.size w wr ∧ (∀ z ∈ bumps (shL l n) ((d'.toList.take k).map Int.toNat), 0 ≤ z ∧ z ≤ n + (k : Int))
theorem BuAt.next {w : World} {l : List Int} {n : Int} {g : Nat} {d' : Array Int} {k : Nat} {wr : World} (h : BuAt w l n g d' k wr) (hk : k < l.length) (hd : d'.size = l.length) (hn : 0 ≤ n) (i : Nat) (hi : d'[k]! = (i : Int)) (x : Int) (hx : x = (bumps (shL l n) ((d'.toList.take k).map Int.toNat)).getD i 0) :
    BuAt w l n g d' (k + 1) (wr.setCell ⟨w.heap.size, i, none⟩ (.int .i64 (x + 1))) := by
  obtain ⟨h1, h2, h3, h4, h5, h6⟩ := h
  have e : (d'.toList.take (k + 1)).map Int.toNat = (d'.toList.take k).map Int.toNat ++ [i] := by
    have hk2 : k < d'.toList.length := by simpa using (by omega : k < d'.size)
    rw [List.take_add_one, List.getElem?_eq_getElem hk2, List.map_append]
    have : d'.toList[k] = (i : Int) := by
      rw [← hi, getElem!_pos d' k (by omega)]; rfl
    simp [this]
  unfold BuAt
  rw [e, bumps_snoc]
  refine ⟨?_, ?_, h3, by simpa using h4, h5.setCell (by simp) _, ?_⟩
  · unfold bump; rw [← hx]; exact h1.stored (x + 1)
  · intro j hj
    exact (World.cell?_setCell_other _ _ _ _ (fun e => by have := congrArg Addr.block e; simp at this; omega)).trans (h2 j hj)
  · have := bump_le _ i (n + k) h6 (by omega)
    intro z hz
    have := this z hz
    omega
end Go.Proofs.Ytaeondpeaabfeaa
