/- Queues: the order of two things; compare. -/
import Derived.Test.YtandmngfajoinaaGreatOc
import Derived.RegionTactic
import Derived.Deep.RegionHeld3
import Derived.Deep.DeepCutAuto
import Derived.BigQuiet
namespace Go.Proofs.YtandmngfajoinaaGreat
open Go.RowKit

/-- How two numbers stand, and two things. -/
def cmq (x y : Int) : Int := if x < y then -1 else if y < x then 1 else 0
theorem cmq_lt {x y : Int} (h : x < y) : cmq x y = -1 := by unfold cmq; rw [if_pos h]
theorem cmq_gt {x y : Int} (h : y < x) : cmq x y = 1 := by unfold cmq; rw [if_neg (by omega), if_pos h]
theorem cmq_eq (x : Int) : cmq x x = 0 := by unfold cmq; rw [if_neg (by omega), if_neg (by omega)]
theorem ret_q {k : IntKind} {a b : Int} (h : a = b) : Ending.returned (.int k a) = .returned (.int k b) := by rw [h]
def orQ (u v : Int) : Int := if u = 0 then v else u
def cmpQ (x y : QI) : Int := orQ (cmq x.1 y.1) (cmq x.2 y.2)
def befQ (x y : QI) : Bool := decide (x.1 < y.1) || (decide (x.1 = y.1) && decide (x.2 < y.2))
theorem cmpQ_neg (x y : QI) : decide (cmpQ x y < 0) = befQ x y := by
  unfold cmpQ orQ befQ cmq
  repeat' split
  all_goals simp
  all_goals omega

set_option maxHeartbeats 400000 in
theorem cmp64_c (x y : Int) (w : World) :
    Calls Tryz.prog 89 #[.int .i64 x, .int .i64 y] w fun e w' => e = .returned (.int .i64 (cmq x y)) ∧ w = w' := by
  rcases Int.lt_trichotomy x y with h | h | h
  · go_enter Tryz.func89, Tryz.ntmps89
    go_wp2
    go_ret
    exact ⟨ret_q (cmq_lt h).symm, rfl⟩
  · subst h
    go_enter Tryz.func89, Tryz.ntmps89
    go_wp2
    go_ret
    exact ⟨ret_q (cmq_eq _).symm, rfl⟩
  · go_enter Tryz.func89, Tryz.ntmps89
    go_wp2
    go_ret
    exact ⟨ret_q (cmq_gt h).symm, rfl⟩
set_option maxHeartbeats 400000 in
theorem cmpint_c (x y : Int) (w : World) :
    Calls Tryz.prog 90 #[.int .i64 x, .int .i64 y] w fun e w' => e = .returned (.int .i64 (cmq x y)) ∧ w = w' := by
  rcases Int.lt_trichotomy x y with h | h | h
  · go_enter Tryz.func90, Tryz.ntmps90
    go_wp2
    go_ret
    exact ⟨ret_q (cmq_lt h).symm, rfl⟩
  · subst h
    go_enter Tryz.func90, Tryz.ntmps90
    go_wp2
    go_ret
    exact ⟨ret_q (cmq_eq _).symm, rfl⟩
  · go_enter Tryz.func90, Tryz.ntmps90
    go_wp2
    go_ret
    exact ⟨ret_q (cmq_gt h).symm, rfl⟩

set_option maxHeartbeats 1000000 in
/-- cmp.Or of two numbers that have just been laid. -/
theorem or_c (u v : Int) (g : Nat) (w : World) (h : w.heap[g]? = some (.cells #[.int .i64 u, .int .i64 v] 3 (0, 0))) :
    Calls Tryz.prog 88 #[.slice (some ⟨g, 0, none⟩) 2 2] w fun e w' => e = .returned (.int .i64 (orQ u v)) ∧ w = w' := by
  have c0 : w.cell? ⟨g, 0, none⟩ = some (.int .i64 u) := by simp [World.cell?, h]
  have c1 : w.cell? ⟨g, 1, none⟩ = some (.int .i64 v) := by simp [World.cell?, h]
  clear h
  unfold orQ
  by_cases hu : u = 0
  · rw [if_pos hu]
    by_cases hv : v = 0
    · subst hu hv
      go_enter Tryz.func88, Tryz.ntmps88
      go_wp2_with fail
      refine wp_loop_rounds 3 ?_
      rw [rounds_succ]; go_wp2_with fail
      rw [rounds_succ]; go_wp2_with fail
      rw [rounds_succ]; go_wp2_with fail
      go_ret
      exact ⟨rfl, rfl⟩
    · subst hu
      go_enter Tryz.func88, Tryz.ntmps88
      go_wp2_with fail
      refine wp_loop_rounds 3 ?_
      rw [rounds_succ]; go_wp2_with fail
      rw [rounds_succ]; go_wp2_with fail
      go_ret
      exact ⟨rfl, rfl⟩
  · rw [if_neg hu]
    go_enter Tryz.func88, Tryz.ntmps88
    go_wp2_with fail
    refine wp_loop_rounds 3 ?_
    rw [rounds_succ]; go_wp2_with fail
    go_ret
    exact ⟨rfl, rfl⟩

theorem or_new (u v : Int) (w : World) : Calls Tryz.prog 88 #[.slice (some ⟨w.heap.size, 0, none⟩) 2 2] (w.alloc (.cells #[.int .i64 u, .int .i64 v] 3)).drew fun e w' => e = .returned (.int .i64 (orQ u v)) ∧ (w.alloc (.cells #[.int .i64 u, .int .i64 v] 3)).drew = w' :=
  or_c u v w.heap.size (w.alloc (.cells #[.int .i64 u, .int .i64 v] 3)).drew (World.alloc_heap_new w _)

/-- Block b is a queue's: its room, its slice, its map, its steps. -/
def QBox (w : World) (b : Nat) (most : Int) (v : Value) (mp : Nat) (s : Int) : Prop :=
  w.heap[b]? = some (.cells #[.int .i64 most, v, .map (some mp), .int .i64 s] 149 (0, 0))
theorem QBox.lt {w : World} {b : Nat} {most : Int} {v : Value} {mp : Nat} {s : Int} (h : QBox w b most v mp s) : b < w.heap.size := (Array.getElem?_eq_some_iff.1 h).1
theorem QBox.set3 {w : World} {b : Nat} {most : Int} {v : Value} {mp : Nat} {s : Int} (h : QBox w b most v mp s) (s' : Int) : QBox (w.setCell ⟨b, 3, none⟩ (.int .i64 s')) b most v mp s' := by
  obtain ⟨hlt, hk⟩ := Array.getElem?_eq_some_iff.1 h
  show (w.heap.modify b _)[b]? = _
  rw [Array.getElem?_eq_getElem (by rw [Array.size_modify]; exact hlt), Array.getElem_modify_self, hk]
  rfl
theorem QBox.set1 {w : World} {b : Nat} {most : Int} {v : Value} {mp : Nat} {s : Int} (h : QBox w b most v mp s) (v' : Value) : QBox (w.setCell ⟨b, 1, none⟩ v') b most v' mp s := by
  obtain ⟨hlt, hk⟩ := Array.getElem?_eq_some_iff.1 h
  show (w.heap.modify b _)[b]? = _
  rw [Array.getElem?_eq_getElem (by rw [Array.size_modify]; exact hlt), Array.getElem_modify_self, hk]
  rfl
theorem Trip.setAt {A A' : Nat → Prop} {W W' : World} (h : Trip A W A' W') (b i : Nat) (v : Value) (hb : A b ∨ W.heap.size ≤ b) : Trip A W A' (W'.setCell ⟨b, i, none⟩ v) :=
  ⟨h.os, h.tape, h.output, by simp [World.setCell]; exact h.size, fun k hk hn => (Below.heap_setCell W' _ v k (fun e => by rcases hb with h1 | h1; exact hn (e ▸ h1); simp at e; omega)).trans (h.block k hk hn), h.sub, fun k hk => by simp [World.setCell]; exact h.bd k hk⟩
/-- Two things' cells, in two blocks. -/
def TwoQ (w : World) (g : Nat) (x y : QI) : Prop := w.cell? ⟨g, 0, none⟩ = some (.int .i64 x.1) ∧ w.cell? ⟨g, 1, none⟩ = some (.int .i64 x.2) ∧ w.cell? ⟨g + 1, 0, none⟩ = some (.int .i64 y.1) ∧ w.cell? ⟨g + 1, 1, none⟩ = some (.int .i64 y.2)

set_option maxHeartbeats 2000000 in
/-- q.compare(x, y). -/
theorem compare_c (b mp : Nat) (most s : Int) (v : Value) (x y : QI) (w : World) (h : QBox w b most v mp s) (hs : 0 ≤ s) (hs' : s < 4611686018427387904) :
    Calls Tryz.prog 103 #[.pointer (some ⟨b, 0, none⟩), .agg (encQ x).toArray, .agg (encQ y).toArray] w fun e w' => e = .returned (.int .i64 (cmpQ x y)) ∧ QBox w' b most v mp (s + 1) ∧ Trip (fun j => j = b) w (fun j => j = b) w' := by
  obtain ⟨x0, x1⟩ := x
  obtain ⟨y0, y1⟩ := y
  have hlt := h.lt
  have c3 : w.cell? ⟨b, 3, none⟩ = some (.int .i64 s) := by simp [World.cell?, show w.heap[b]? = _ from h]
  have f3 : w.frozen? ⟨b, 3, none⟩ = false := by simp [World.frozen?, show w.heap[b]? = _ from h]
  have hw1 : IntKind.i64.wrap (s + 1) = s + 1 := by rw [IntKind.wrap_i64]; omega
  have HB := Lib.hid h
  clear h
  show Calls _ _ #[_, .agg #[.int .i64 x0, .int .i64 x1], .agg #[.int .i64 y0, .int .i64 y1]] _ _
  go_enter Tryz.func103, Tryz.ntmps103
  go_wp2_with fail
  obtain ⟨w1, hw1'⟩ : ∃ w1, w.setCell ⟨b, 3, none⟩ (.int .i64 (s + 1)) = w1 := ⟨_, rfl⟩
  have hs1 : w1.heap.size = w.heap.size := by rw [← hw1']; simp [World.setCell]
  have ht1 : Trip (fun j => j = b) w (fun j => j = b) w1 := by rw [← hw1']; exact (Trip.refl (fun j hj => by omega)).setAt b 3 _ (.inl rfl)
  have hq1 : QBox w1 b most v mp (s + 1) := by rw [← hw1']; exact HB.out.set3 _
  rw [hw1']
  clear hw1'
  obtain ⟨w2, hw2⟩ : ∃ w2, ((w1.alloc (.cells #[.int .i64 x0, .int .i64 x1] 136)).alloc (.cells #[.int .i64 y0, .int .i64 y1] 136)) = w2 := ⟨_, rfl⟩
  have ht : Trip (fun j => j = b) w (fun j => j = b) w2 := by rw [← hw2]; exact (ht1.alloc _).alloc _
  have hq2 : QBox w2 b most v mp (s + 1) := by
    rw [← hw2]
    exact (Below.heap_alloc _ _ b (by rw [World.size_alloc]; omega)).trans ((Below.heap_alloc _ _ b (by omega)).trans hq1)
  have hS : TwoQ w2 w.heap.size (x0, x1) (y0, y1) := by
    have e1 : w2.heap[w.heap.size]? = some (.cells #[.int .i64 x0, .int .i64 x1] 136 (0, 0)) := by
      rw [← hw2, ← hs1, Below.heap_alloc _ _ _ (by simp)]
      exact World.alloc_heap_new _ _
    have e2 : w2.heap[w.heap.size + 1]? = some (.cells #[.int .i64 y0, .int .i64 y1] 136 (0, 0)) := by
      rw [← hw2, ← hs1]
      have := World.alloc_heap_new (w1.alloc (.cells #[.int .i64 x0, .int .i64 x1] 136)) (.cells #[.int .i64 y0, .int .i64 y1] 136)
      rwa [World.size_alloc] at this
    exact ⟨by simp [World.cell?, e1], by simp [World.cell?, e1], by simp [World.cell?, e2], by simp [World.cell?, e2]⟩
  rw [hw2]
  have HT := Lib.hid ht
  have HQ := Lib.hid hq2
  have HS := Lib.hid hS
  unfold TwoQ at hS
  simp only at hS
  obtain ⟨s0, s1, s2, s3⟩ := hS
  clear hw2 ht hq2 c3 f3 hw1 HB ht1 hq1 hs1
  go_region_held3 (fun w' => w'.cell? ⟨w.heap.size, 0, none⟩ = some (.int .i64 x0) ∧ w'.cell? ⟨w.heap.size, 1, none⟩ = some (.int .i64 x1) ∧ w'.cell? ⟨w.heap.size + 1, 0, none⟩ = some (.int .i64 y0) ∧ w'.cell? ⟨w.heap.size + 1, 1, none⟩ = some (.int .i64 y1)) (first | exact HS.out | go_keep)
    (first
      | (go_at_call 89; refine (cmp64_c _ _ _).mono ?_; rintro e w' ⟨rfl, rfl⟩)
      | (go_at_call 90; refine (cmpint_c _ _ _).mono ?_; rintro e w' ⟨rfl, rfl⟩)
      | (go_at_call 88; refine (or_new (cmq x0 y0) (cmq x1 y1) w2).mono ?_; rintro e w' ⟨rfl, rfl⟩))
  go_wp2_with fail
  go_ret
  exact ⟨rfl, (Below.heap_alloc w2 _ b HQ.out.lt).trans HQ.out, (HT.out.alloc _).drew⟩
end Go.Proofs.YtandmngfajoinaaGreat
