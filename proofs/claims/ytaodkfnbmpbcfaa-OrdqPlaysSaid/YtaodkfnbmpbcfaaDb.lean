/- Queues of deadlines: withDue, isDueBefore. -/
import Derived.Test.YtaodkfnbmpbcfaaDa
import Derived.Laws.ResultCell
import Derived.Laws.Rows
import Derived.BigRegion
namespace Go.Proofs.Ytaodkfnbmpbcfaa
open Go.RowKit

set_option maxRecDepth 100000 in
set_option maxHeartbeats 2000000 in
theorem withDue_w (d b m : Nat) (T : List RI) (r : RI) (w : World) (hbox : w.heap[d]? = some (.cells #[.pointer (some ⟨b, 0, none⟩), .map (some m)] 87 (0, 0))) (hmap : QMap w m (qM T)) (hr : r ∈ T) (hw2 : wf64 r.2.2) :
    Calls Try.prog 38 #[.pointer (some ⟨d, 0, none⟩), .agg (encQ (r.1, r.2.2)).toArray] w fun e w' => e = .returned (.agg (encR r).toArray) ∧ Below w.heap.size w w' := by
  have hl : ∀ w', w'.heap[m]? = w.heap[m]? → (Instr.lookup 74 (.map (some m)) (.int .i64 r.2.2) false).run Try.prog w' = .ok (.int .i64 r.2.1) w' := fun w' hw => (hmap.keep hw).at (x := (r.2.1, r.2.2)) (mem_qM.2 ⟨r, hr, rfl⟩) hw2
  obtain ⟨x0, x1, x2⟩ := r
  simp only at hl
  have c1 : w.cell? ⟨d, 1, none⟩ = some (.map (some m)) := by simp [World.cell?, hbox]
  have hdl : d < w.heap.size := (Array.getElem?_eq_some_iff.1 hbox).1
  have hml := hmap.lt
  have hl1 := hl ((w.alloc (.cells #[.int .i64 x0, .int .i64 x2] 40)).alloc (.cells #[.int .i64 0, .int .i64 0, .int .i64 0] 63)) (by rw [Below.heap_alloc _ _ _ (by simp; omega), Below.heap_alloc _ _ _ hml])
  have hl2 := hl ((w.alloc (.cells #[.int .i64 x0, .int .i64 x2] 40)).alloc (.cells #[.int .i64 0, .int .i64 0, .int .i64 0] 63)).drew (by show ((w.alloc _).alloc _).heap[m]? = _; rw [Below.heap_alloc _ _ _ (by simp; omega), Below.heap_alloc _ _ _ hml])
  clear hbox hmap hr hl hw2
  simp only [encQ, encR]
  go_enter Try.func38, Try.ntmps38
  go_wp2_with fail
  go_region
  all_goals go_wp2_with fail
  refine bodyPost_ret (results_cell_row rfl _ _ (w.heap.size + 1) 63 #[.int .i64 x0, .int .i64 x1, .int .i64 x2] (0, 0) _ rfl (heap_alloc2_new w _ _) Try.underlying63 rfl (by kernel_rfl)) rfl ?_
  exact ⟨rfl, (((Below.refl _ w).alloc (Nat.le_refl _) _).alloc (by simp) _).drew⟩

theorem withDue_c (d b m : Nat) (most s : Int) (T : List RI) (v : Value) (mp : Nat) (r : RI) (w : World) (h : IsD w d b m most s T v mp) (hr : r ∈ T) :
    Calls Try.prog 38 #[.pointer (some ⟨d, 0, none⟩), .agg (encQ (r.1, r.2.2)).toArray] w fun e w' => e = .returned (.agg (encR r).toArray) ∧ Below w.heap.size w w' :=
  withDue_w d b m T r w h.box h.map hr (h.wfs hr).2.2

/-- Is a due ahead of b? -/
def dueB (a b : RI) : Bool := decide (a.2.1 < b.2.1) || (decide (a.2.1 = b.2.1) && decide (a.2.2 < b.2.2))
theorem dueB_cmp (a b : RI) : decide (cmpQ (a.2.1, a.2.2) (b.2.1, b.2.2) < 0) = dueB a b := cmpQ_neg _ _

set_option maxRecDepth 100000 in
set_option maxHeartbeats 2000000 in
theorem isDueBefore_c (x y : RI) (w : World) :
    Calls Try.prog 39 #[.agg (encR x).toArray, .agg (encR y).toArray] w fun e w' => e = .returned (.bool (dueB x y)) ∧ Below w.heap.size w w' := by
  rw [← dueB_cmp]
  obtain ⟨x0, x1, x2⟩ := x
  obtain ⟨y0, y1, y2⟩ := y
  simp only [encR]
  go_enter Try.func39, Try.ntmps39
  go_wp2_with fail
  obtain ⟨w2, hw2⟩ : ∃ w2, ((w.alloc (.cells #[.int .i64 x0, .int .i64 x1, .int .i64 x2] 63)).alloc (.cells #[.int .i64 y0, .int .i64 y1, .int .i64 y2] 63)) = w2 := ⟨_, rfl⟩
  have hb2 : Below w.heap.size w w2 := by rw [← hw2]; exact ((Below.refl _ w).alloc (Nat.le_refl _) _).alloc (by simp) _
  have e1 : w2.heap[w.heap.size]? = some (.cells #[.int .i64 x0, .int .i64 x1, .int .i64 x2] 63 (0, 0)) := by
    rw [← hw2, Below.heap_alloc _ _ _ (by simp)]
    exact World.alloc_heap_new _ _
  have e2 : w2.heap[w.heap.size + 1]? = some (.cells #[.int .i64 y0, .int .i64 y1, .int .i64 y2] 63 (0, 0)) := by rw [← hw2]; exact heap_alloc2_new w _ _
  have s0 : w2.cell? ⟨w.heap.size, 1, none⟩ = some (.int .i64 x1) := by simp [World.cell?, e1]
  have s1 : w2.cell? ⟨w.heap.size, 2, none⟩ = some (.int .i64 x2) := by simp [World.cell?, e1]
  have s2 : w2.cell? ⟨w.heap.size + 1, 1, none⟩ = some (.int .i64 y1) := by simp [World.cell?, e2]
  have s3 : w2.cell? ⟨w.heap.size + 1, 2, none⟩ = some (.int .i64 y2) := by simp [World.cell?, e2]
  have HS := Lib.hid (And.intro s0 (And.intro s1 (And.intro s2 s3)))
  rw [hw2]
  have HB := Lib.hid hb2
  clear hw2 e1 e2 hb2
  go_region_held3 (fun w' => w'.cell? ⟨w.heap.size, 1, none⟩ = some (.int .i64 x1) ∧ w'.cell? ⟨w.heap.size, 2, none⟩ = some (.int .i64 x2) ∧ w'.cell? ⟨w.heap.size + 1, 1, none⟩ = some (.int .i64 y1) ∧ w'.cell? ⟨w.heap.size + 1, 2, none⟩ = some (.int .i64 y2)) (first | exact HS.out | go_keep)
    (first
      | (go_at_call 48; refine (cmp64_c _ _ _).mono ?_; rintro e w' ⟨rfl, rfl⟩)
      | (go_at_call 49; refine (cmpint_c _ _ _).mono ?_; rintro e w' ⟨rfl, rfl⟩)
      | (go_at_call 47; refine (or_new (cmq x1 y1) (cmq x2 y2) w2).mono ?_; rintro e w' ⟨rfl, rfl⟩))
  go_wp2_with fail
  go_ret
  exact ⟨rfl, (HB.out.alloc HB.out.size _).drew⟩
end Go.Proofs.Ytaodkfnbmpbcfaa
