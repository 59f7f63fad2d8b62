/- Masks: isCore, Has; All and Back, and what they hand back yields. -/
import Derived.WalkKit
import Derived.Below
import Derived.Lib.Hide
import Derived.Laws.BitsAllLaws
import Derived.Shelf.Abstract
import Derived.Shelf.RegionOpen
import Derived.OwnWalkIn
import Derived.TacticsInMore
import Derived.LoopNIn
import Derived.LoopIn
import Derived.Test.YtjfeaepjhnpbfaaDoorChecked
import Derived.Test.YtjfeaepjhnpbfaaDoorIt
namespace Go.Proofs.YtjfeaepjhnpbfaaDoor
open Go.RowKit Go.Shelf
attribute [local go_sem] Oper.semAt_some wide_fn wide_depth

theorem and_pow (m k : Nat) : (m &&& 2 ^ k != 0) = m.testBit k := by
  have h : (m &&& 2 ^ k) = (if m.testBit k then 2 ^ k else 0) := by
    apply Nat.eq_of_testBit_eq
    intro i
    rw [Nat.testBit_and, Nat.testBit_two_pow]
    by_cases e : k = i
    · subst e
      cases hb : m.testBit k <;> simp
    · cases hb : m.testBit k <;> simp [e]
  rw [h]
  cases hb : m.testBit k
  · simp
  · simp

theorem pow_lt {k : Nat} (h : k < 16) : 2 ^ k < 65536 := by
  have : 2 ^ k < 2 ^ 16 := Nat.pow_lt_pow_right (by omega) h
  simpa using this

theorem wrap_u16 (n : Int) : IntKind.u16.wrap n = n % 65536 := by simp [IntKind.wrap, IntKind.bits, IntKind.signed]
theorem wrap_pow {k : Nat} (h : k < 16) : IntKind.u16.wrap (2 ^ k) = ((2 ^ k : Nat) : Int) := by
  have h1 := pow_lt h
  have h2 : ((2 : Int) ^ k) = ((2 ^ k : Nat) : Int) := by simp
  rw [h2, wrap_u16]
  generalize 2 ^ k = q at h1
  omega

theorem isCore_c (c : Int) (w : World) : Calls Tryd.prog 20 #[.int .i64 c] w fun e w' => e = .returned (.bool (decide (0 ≤ c ∧ c < 16))) ∧ w = w' := by
  go_enter Tryd.func20, Tryd.ntmps20
  go_wp2_with fail
  · have h : 0 ≤ c := by assumption
    go_ret
    exact ⟨by simp [h], rfl⟩
  · have h : c < 0 := by assumption
    go_ret
    exact ⟨by simp; omega, rfl⟩

theorem isCore_b (c : Int) (b : Bool) (hb : b = decide (0 ≤ c ∧ c < 16)) (w : World) : Calls Tryd.prog 20 #[.int .i64 c] w fun e w' => e = .returned (.bool b) ∧ w = w' := by
  subst hb; exact isCore_c c w

/-- Does the mask hold c? -/
def hasB (m : Nat) (c : Int) : Bool := decide (0 ≤ c ∧ c < 16) && m.testBit c.toNat

theorem has_c (m : Nat) (c : Int) (hm : m < 65536) (w : World) : Calls Tryd.prog 12 #[.int .u16 m, .int .i64 c] w fun e w' => e = .returned (.bool (hasB m c)) ∧ w = w' := by
  by_cases hc : 0 ≤ c ∧ c < 16
  · obtain ⟨k, rfl⟩ := Int.eq_ofNat_of_zero_le hc.1
    have hk : k < 16 := by omega
    have hp := wrap_pow hk
    have ha : bits BinOp.and IntKind.u16 (m : Int) ((2 ^ k : Nat) : Int) = ((m &&& 2 ^ k : Nat) : Int) := u16_and_nat m (2 ^ k) hm (pow_lt hk)
    have hb : (((m &&& 2 ^ k : Nat) : Int) != 0) = m.testBit k := by
      rw [← and_pow]
      cases h : (m &&& 2 ^ k) with
      | zero => rfl
      | succ q => simp [bne]; omega
    have hh : hasB m (k : Int) = m.testBit k := by simp [hasB]; omega
    rw [hh]
    go_enter Tryd.func12, Tryd.ntmps12
    go_wp2_with (go_at_call 20; refine (isCore_b _ true (by simp; omega) _).mono ?_; rintro e w' ⟨rfl, rfl⟩)
    go_ret
    refine ⟨?_, rfl⟩
    have e : (bits BinOp.and IntKind.u16 (m : Int) (2 ^ k) != 0) = m.testBit k := by rw [← hb, ← ha]; simp
    simp [e]
  · have hh : hasB m c = false := by simp [hasB, hc]
    rw [hh]
    go_enter Tryd.func12, Tryd.ntmps12
    go_wp2_with (go_at_call 20; refine (isCore_b _ false (by simp; omega) _).mono ?_; rintro e w' ⟨rfl, rfl⟩)
    go_ret
    exact ⟨rfl, rfl⟩

theorem has_at (m k : Nat) (hm : m < 65536) (hk : k < 16) (b : Bool) (hb : m.testBit k = b) (w : World) : Calls Tryd.prog 12 #[.int .u16 m, .int .i64 k] w fun e w' => e = .returned (.bool b) ∧ w = w' := by
  have := has_c m k hm w
  have hh : hasB m (k : Int) = b := by rw [← hb]; simp [hasB]; omega
  rwa [hh] at this

/-- The cores of a mask below k, rising; all of them. -/
def coresTo (m k : Nat) : List Nat := (List.range k).filter fun c => m.testBit c
def coresL (m : Nat) : List Nat := coresTo m 16
theorem coresTo_hit {m k : Nat} (h : m.testBit k = true) : coresTo m (k + 1) = coresTo m k ++ [k] := by
  unfold coresTo; rw [List.range_succ, List.filter_append]; simp [h]
theorem coresTo_miss {m k : Nat} (h : m.testBit k = false) : coresTo m (k + 1) = coresTo m k := by
  unfold coresTo; rw [List.range_succ, List.filter_append]; simp [h]
theorem coresTo_le {m k j : Nat} (h : k ≤ j) : coresTo m k <+: coresTo m j := by
  induction j with
  | zero => obtain rfl : k = 0 := by omega
            exact List.prefix_refl _
  | succ j ih =>
    by_cases e : k = j + 1
    · subst e; exact List.prefix_refl _
    · refine (ih (by omega)).trans ?_
      cases hb : m.testBit j
      · rw [coresTo_miss hb]; exact List.prefix_refl _
      · rw [coresTo_hit hb]; exact ⟨[j], rfl⟩

theorem cell_of_heap {W W' : World} {b : Nat} (h : W'.heap[b]? = W.heap[b]?) (o : Nat) : W'.cell? ⟨b, o, none⟩ = W.cell? ⟨b, o, none⟩ := World.cell?_of_block (w := W) h

set_option maxRecDepth 100000 in
set_option maxHeartbeats 1000000 in
theorem all1_gives (m : Nat) (hm : m < 65536) (Bm : Nat) (W0 : World) (hc : W0.cell? ⟨Bm, 0, none⟩ = some (.int .u16 m)) :
    Gives Tryd.prog 29 #[.pointer (some ⟨Bm, 0, none⟩)] (fun x : Nat => #[Value.int .i64 x]) (coresL m) (fun k => k = Bm) W0 := by
  intro l J Jx A W hJ hJx hA hR hY h0
  obtain ⟨hR1, hR2, hR3⟩ := hR Bm rfl
  clear hR
  have hcW := (cell_of_heap hR2 0).trans hc
  clear hc
  refine callsIn_of_wp Tryd.func29 rfl trivial ?_ rfl
  simp only [Tryd.ntmps29, List.size_toArray, List.length_cons, List.length_nil, Nat.reduceAdd, Nat.reduceSub, Array.replicate_succ, Array.replicate_zero, List.push_toArray, List.append_toArray, List.nil_append, List.cons_append]
  gi_wp2
  gi_loopw [4] (fun c wr => ∃ (k : Nat) (A1 : Nat → Prop), c = .int .i64 k ∧ k ≤ 16 ∧ Trip A W A1 wr ∧ J (coresTo m k) A1 wr) (fun c _ => 16 - (intOf c).toNat)
  case atStart => exact ⟨0, A, rfl, Nat.zero_le _, Trip.refl hA, h0⟩
  case round =>
    obtain ⟨k, A1, rfl, hk, ht, hj⟩ := hrel
    by_cases hlt : k < 16
    · have hcr := (cell_of_heap (ht.block Bm hR1 hR3) 0).trans hcW
      cases hb : m.testBit k
      · gi_wp2_with (gi_at_call 12; refine (callsIn_wide.2 (has_at m k hm hlt _ hb _)).mono ?_; rintro e w' ⟨rfl, rfl⟩)
        go_roundw
        case rel => exact ⟨k + 1, A1, by go_num, by omega, ht, by rw [coresTo_miss hb]; exact hj⟩
        case measure => simp [intOf]; omega
      · obtain ⟨fn, tmps, assign, body, hy, hR⟩ := hY (coresTo m k) k A1 wr hj (by rw [← coresTo_hit hb]; exact coresTo_le (by omega)) ht.bd
        gi_wp2_with (gi_at_call 12; refine (callsIn_wide.2 (has_at m k hm hlt _ hb _)).mono ?_; rintro e w' ⟨rfl, rfl⟩)
        refine hR.mono ?_
        rintro e W3 ⟨A2, ht3, ⟨rfl, hj3⟩ | ⟨rfl, hj3⟩⟩
        · gi_wp2
          go_roundw
          case rel => exact ⟨k + 1, A2, by go_num, by omega, ht.trans ht3, by rw [coresTo_hit hb]; exact hj3⟩
          case measure => simp [intOf]; omega
        · gi_wp2
          refine bodyPost_ret (results_none rfl _ _ _) rfl ?_
          exact ⟨⟨_, rfl⟩, A2, ht.trans ht3, .inr ⟨_, by rw [← coresTo_hit hb]; exact coresTo_le (by omega), hj3⟩⟩
    · obtain rfl : k = 16 := by omega
      gi_wp2
      go_end0
      exact ⟨⟨_, rfl⟩, A1, ht, .inl hj⟩

/-- The cores of a mask, falling: the first j steps. -/
def backTo (m j : Nat) : List Nat := ((List.range j).map fun i => 15 - i).filter fun c => m.testBit c
def backL (m : Nat) : List Nat := backTo m 16
theorem backTo_hit {m j : Nat} (h : m.testBit (15 - j) = true) : backTo m (j + 1) = backTo m j ++ [15 - j] := by
  unfold backTo; rw [List.range_succ, List.map_append, List.filter_append]; simp [h]
theorem backTo_miss {m j : Nat} (h : m.testBit (15 - j) = false) : backTo m (j + 1) = backTo m j := by
  unfold backTo; rw [List.range_succ, List.map_append, List.filter_append]; simp [h]
theorem backTo_le {m k j : Nat} (h : k ≤ j) : backTo m k <+: backTo m j := by
  induction j with
  | zero => obtain rfl : k = 0 := by omega
            exact List.prefix_refl _
  | succ j ih =>
    by_cases e : k = j + 1
    · subst e; exact List.prefix_refl _
    · refine (ih (by omega)).trans ?_
      cases hb : m.testBit (15 - j)
      · rw [backTo_miss hb]; exact List.prefix_refl _
      · rw [backTo_hit hb]; exact ⟨[15 - j], rfl⟩
theorem backL_eq (m : Nat) : backL m = (coresL m).reverse := by
  have h : (List.range 16).map (fun i => 15 - i) = (List.range 16).reverse := by decide
  unfold backL backTo coresL coresTo
  rw [h, List.filter_reverse]

set_option maxRecDepth 100000 in
set_option maxHeartbeats 1000000 in
theorem back1_gives (m : Nat) (hm : m < 65536) (Bm : Nat) (W0 : World) (hc : W0.cell? ⟨Bm, 0, none⟩ = some (.int .u16 m)) :
    Gives Tryd.prog 35 #[.pointer (some ⟨Bm, 0, none⟩)] (fun x : Nat => #[Value.int .i64 x]) (backL m) (fun k => k = Bm) W0 := by
  intro l J Jx A W hJ hJx hA hR hY h0
  obtain ⟨hR1, hR2, hR3⟩ := hR Bm rfl
  clear hR
  have hcW := (cell_of_heap hR2 0).trans hc
  clear hc
  refine callsIn_of_wp Tryd.func35 rfl trivial ?_ rfl
  simp only [Tryd.ntmps35, List.size_toArray, List.length_cons, List.length_nil, Nat.reduceAdd, Nat.reduceSub, Array.replicate_succ, Array.replicate_zero, List.push_toArray, List.append_toArray, List.nil_append, List.cons_append]
  gi_wp2
  gi_loopw [3] (fun c wr => ∃ (j : Nat) (x : Int) (A1 : Nat → Prop), c = .int .i64 x ∧ x = 15 - (j : Int) ∧ j ≤ 16 ∧ Trip A W A1 wr ∧ J (backTo m j) A1 wr) (fun c _ => (intOf c + 1).toNat)
  case atStart => exact ⟨0, 15, A, rfl, rfl, Nat.zero_le _, Trip.refl hA, h0⟩
  case round =>
    obtain ⟨j, x, A1, rfl, hx, hk, ht, hj⟩ := hrel
    by_cases hlt : j < 16
    · have hcr := (cell_of_heap (ht.block Bm hR1 hR3) 0).trans hcW
      obtain ⟨k, hkk⟩ : ∃ k, k = 15 - j := ⟨_, rfl⟩
      obtain rfl : x = (k : Int) := by omega
      have hk16 : k < 16 := by omega
      have HX := Lib.hid hx
      have HK := Lib.hid hkk
      clear hx hkk
      cases hb : m.testBit k
      · gi_wp2_with (gi_at_call 12; refine (callsIn_wide.2 (has_at m k hm hk16 _ hb _)).mono ?_; rintro e w' ⟨rfl, rfl⟩)
        go_roundw
        case rel => exact ⟨j + 1, (k : Int) - 1, A1, by go_num, by have := HX.out; omega, by omega, ht, by rw [backTo_miss (by rw [← HK.out]; exact hb)]; exact hj⟩
        case measure => simp [intOf]
      · obtain ⟨fn, tmps, assign, body, hy, hR⟩ := hY (backTo m j) k A1 wr hj (by rw [HK.out, ← backTo_hit (by rw [← HK.out]; exact hb)]; exact backTo_le (by omega)) ht.bd
        gi_wp2_with (gi_at_call 12; refine (callsIn_wide.2 (has_at m k hm hk16 _ hb _)).mono ?_; rintro e w' ⟨rfl, rfl⟩)
        refine hR.mono ?_
        rintro e W3 ⟨A2, ht3, ⟨rfl, hj3⟩ | ⟨rfl, hj3⟩⟩
        · gi_wp2
          go_roundw
          case rel => exact ⟨j + 1, (k : Int) - 1, A2, by go_num, by have := HX.out; omega, by omega, ht.trans ht3, by rw [backTo_hit (by rw [← HK.out]; exact hb), ← HK.out]; exact hj3⟩
          case measure => simp [intOf]
        · gi_wp2
          refine bodyPost_ret (results_none rfl _ _ _) rfl ?_
          exact ⟨⟨_, rfl⟩, A2, ht.trans ht3, .inr ⟨_, by rw [HK.out, ← backTo_hit (by rw [← HK.out]; exact hb)]; exact backTo_le (by omega), hj3⟩⟩
    · obtain rfl : j = 16 := by omega
      obtain rfl : x = -1 := by omega
      gi_wp2
      go_end0
      exact ⟨⟨_, rfl⟩, A1, ht, .inl hj⟩

/-- m.All(), m.Back(): the mask is boxed, the function's value holds the box. -/
theorem all_c (m : Int) (w : World) : Calls Tryd.prog 21 #[.int .u16 m] w fun e w' => e = .returned (.func (.func 29) #[] #[.pointer (some ⟨w.heap.size, 0, none⟩)]) ∧ w' = w.alloc (.cells #[.int .u16 m] 24) := by
  go_enter Tryd.func21, Tryd.ntmps21
  go_wp2_with fail
  go_ret
  exact ⟨rfl, rfl⟩
theorem back_c (m : Int) (w : World) : Calls Tryd.prog 25 #[.int .u16 m] w fun e w' => e = .returned (.func (.func 35) #[] #[.pointer (some ⟨w.heap.size, 0, none⟩)]) ∧ w' = w.alloc (.cells #[.int .u16 m] 24) := by
  go_enter Tryd.func25, Tryd.ntmps25
  go_wp2_with fail
  go_ret
  exact ⟨rfl, rfl⟩
end Go.Proofs.YtjfeaepjhnpbfaaDoor
