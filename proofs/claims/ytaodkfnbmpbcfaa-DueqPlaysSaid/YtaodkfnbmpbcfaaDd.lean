/- Queues of deadlines: New, Get, Least, Set, Drop. -/
import Derived.Test.YtaodkfnbmpbcfaaDc
namespace Go.Proofs.Ytaodkfnbmpbcfaa
open Go.RowKit

theorem IsD.alloc {w : World} {d b m : Nat} {most s : Int} {T : List RI} {v : Value} {mp : Nat} (h : IsD w d b m most s T v mp) (o : Obj) : IsD (w.alloc o) d b m most s T v mp := h.below ((Below.refl _ w).alloc (Nat.le_refl _) o)
theorem below_set3 {B : Nat} {W w : World} (h : Below B W w) {r : Nat} (hr : B ≤ r) (x y z : Value) : Below B W (set3 w r x y z) := ((h.setCell (p := ⟨r, 0, none⟩) hr x).setCell (p := ⟨r, 1, none⟩) hr y).setCell (p := ⟨r, 2, none⟩) hr z
/-- A box of three noughts, behind a call that made memory. -/
theorem zeros_behind {w w2 : World} {t : TypeId} (hb : Below (w.alloc (.cells #[.int .i64 0, .int .i64 0, .int .i64 0] t)).heap.size (w.alloc (.cells #[.int .i64 0, .int .i64 0, .int .i64 0] t)) w2) :
    w2.heap[w.heap.size]? = some (.cells #[.int .i64 0, .int .i64 0, .int .i64 0] t (0, 0)) := (hb.block _ (by simp)).trans (World.alloc_heap_new _ _)

set_option maxRecDepth 100000 in
set_option maxHeartbeats 2000000 in
theorem dget_yes (d b m : Nat) (most s : Int) (T : List RI) (v : Value) (mp : Nat) (r : RI) (w : World) (h : IsD w d b m most s T v mp) (hr : r ∈ T) :
    Calls Try.prog 27 #[.pointer (some ⟨d, 0, none⟩), .int .i64 r.2.2] w fun e w' => e = .returned (.tuple #[.agg (encR r).toArray, .bool true]) ∧ Below w.heap.size w w' := by
  have hdl := h.lt d (.inl rfl)
  have c0 : w.cell? ⟨d, 0, none⟩ = some (.pointer (some ⟨b, 0, none⟩)) := by simp [World.cell?, h.box]
  have ha := h.alloc (.cells #[.int .i64 0, .int .i64 0, .int .i64 0] 63)
  have K := qkey_c b mp most s v (qL T) r.2.2 _ ha.q (h.wfs hr).2.2
  rw [keyV_yes (x := (r.1, r.2.2)) h.q.dist (mem_qL.2 ⟨r, hr, rfl⟩)] at K
  have K := Lib.hid K
  have KW := Lib.hid (withDue_c d b m most s T v mp r _ ha hr)
  obtain ⟨x0, x1, x2⟩ := r
  simp only [encQ, encR] at KW ⊢
  clear h ha hr
  go_enter Try.func27, Try.ntmps27
  go_wp2_with fail
  refine (K.out).mono ?_
  rintro e w1 ⟨rfl, rfl⟩
  go_wp2_with fail
  refine (KW.out).mono ?_
  rintro e w2 ⟨rfl, hb⟩
  have hz := zeros_behind hb
  have r0 : w2.cell? ⟨w.heap.size, 0, none⟩ = some (.int .i64 0) := by simp [World.cell?, hz]
  have r1 : w2.cell? ⟨w.heap.size, 1, none⟩ = some (.int .i64 0) := by simp [World.cell?, hz]
  have r2 : w2.cell? ⟨w.heap.size, 2, none⟩ = some (.int .i64 0) := by simp [World.cell?, hz]
  have f0 : w2.frozen? ⟨w.heap.size, 0, none⟩ = false := by simp [World.frozen?, hz]
  have f1 : w2.frozen? ⟨w.heap.size, 1, none⟩ = false := by simp [World.frozen?, hz]
  have f2 : w2.frozen? ⟨w.heap.size, 2, none⟩ = false := by simp [World.frozen?, hz]
  have HZ := Lib.hid hz
  have HB := Lib.hid hb
  clear hz hb K KW
  go_wp2_with fail
  refine bodyPost_ret (res_due rfl _ w.heap.size #[.int .i64 x0, .int .i64 x1, .int .i64 x2] true _ rfl rfl rfl (set3_same _ _ _ HZ.out)) rfl ?_
  exact ⟨rfl, below_set3 (((Below.refl _ w).alloc (Nat.le_refl _) _).trans (HB.out.mono (by simp))) (Nat.le_refl _) _ _ _⟩

set_option maxRecDepth 100000 in
set_option maxHeartbeats 2000000 in
theorem dget_no (d b m : Nat) (most s : Int) (T : List RI) (v : Value) (mp : Nat) (id : Int) (w : World) (h : IsD w d b m most s T v mp) (hi : wf64 id) (hn : ∀ z ∈ qL T, z.2 ≠ id) :
    Calls Try.prog 27 #[.pointer (some ⟨d, 0, none⟩), .int .i64 id] w fun e w' => e = .returned (.tuple #[.agg (encR (0, 0, 0)).toArray, .bool false]) ∧ Below w.heap.size w w' := by
  have hdl := h.lt d (.inl rfl)
  have c0 : w.cell? ⟨d, 0, none⟩ = some (.pointer (some ⟨b, 0, none⟩)) := by simp [World.cell?, h.box]
  have ha := h.alloc (.cells #[.int .i64 0, .int .i64 0, .int .i64 0] 63)
  have K := qkey_c b mp most s v (qL T) id _ ha.q hi
  rw [keyV_no hn] at K
  have K := Lib.hid K
  clear h ha hi hn
  simp only [encR]
  go_enter Try.func27, Try.ntmps27
  go_wp2_with fail
  refine (K.out).mono ?_
  rintro e w1 ⟨rfl, rfl⟩
  clear K
  go_wp2_with fail
  refine bodyPost_ret (res_due rfl _ w.heap.size #[.int .i64 0, .int .i64 0, .int .i64 0] false _ rfl rfl rfl (World.alloc_heap_new _ _)) rfl ?_
  exact ⟨rfl, (Below.refl _ w).alloc (Nat.le_refl _) _⟩

/-- The least. -/
def minT : List RI → RI × Bool
  | [] => ((0, 0, 0), false)
  | r :: _ => (r, true)
set_option maxRecDepth 100000 in
set_option maxHeartbeats 2000000 in
theorem dleast_c (d b m : Nat) (most s : Int) (T : List RI) (v : Value) (mp : Nat) (w : World) (h : IsD w d b m most s T v mp) (hL : T.length ≤ 1000000) :
    Calls Try.prog 29 #[.pointer (some ⟨d, 0, none⟩)] w fun e w' => e = .returned (.tuple #[.agg (encR (minT T).1).toArray, .bool (minT T).2]) ∧ Below w.heap.size w w' := by
  have hdl := h.lt d (.inl rfl)
  have c0 : w.cell? ⟨d, 0, none⟩ = some (.pointer (some ⟨b, 0, none⟩)) := by simp [World.cell?, h.box]
  have ha := h.alloc (.cells #[.int .i64 0, .int .i64 0, .int .i64 0] 63)
  have K := Lib.hid (qmin_c b mp most s v (qL T) _ ha.q (by rw [qL_length]; exact hL))
  have HD := Lib.hid ha
  cases T with
  | nil =>
    simp only [qL, List.map_nil, minV, encQ, minT, encR] at K ⊢
    clear h ha
    go_enter Try.func29, Try.ntmps29
    go_wp2_with fail
    refine (K.out).mono ?_
    rintro e w1 ⟨rfl, hb⟩
    have hz := zeros_behind hb
    have r0 : w1.cell? ⟨w.heap.size, 0, none⟩ = some (.int .i64 0) := by simp [World.cell?, hz]
    have r1 : w1.cell? ⟨w.heap.size, 1, none⟩ = some (.int .i64 0) := by simp [World.cell?, hz]
    have r2 : w1.cell? ⟨w.heap.size, 2, none⟩ = some (.int .i64 0) := by simp [World.cell?, hz]
    have f0 : w1.frozen? ⟨w.heap.size, 0, none⟩ = false := by simp [World.frozen?, hz]
    have f1 : w1.frozen? ⟨w.heap.size, 1, none⟩ = false := by simp [World.frozen?, hz]
    have f2 : w1.frozen? ⟨w.heap.size, 2, none⟩ = false := by simp [World.frozen?, hz]
    have hlt : w.heap.size < w1.heap.size := (Array.getElem?_eq_some_iff.1 hz).1
    have HZ := Lib.hid hz
    have HB := Lib.hid hb
    clear hz hb K
    go_wp2_with fail
    refine bodyPost_ret (res_due rfl _ w.heap.size #[.int .i64 0, .int .i64 0, .int .i64 0] false _ rfl rfl rfl ((Below.heap_alloc (set3 w1 w.heap.size _ _ _) _ _ (by rw [set3_size]; exact hlt)).trans (set3_same _ _ _ HZ.out))) rfl ?_
    exact ⟨rfl, (below_set3 (((Below.refl _ w).alloc (Nat.le_refl _) _).trans (HB.out.mono (by simp))) (Nat.le_refl _) _ _ _).alloc (by show _ ≤ (set3 w1 _ _ _ _).heap.size; rw [set3_size]; omega) _⟩
  | cons r T' =>
    obtain ⟨x0, x1, x2⟩ := r
    simp only [qL, List.map_cons, minV, encQ, minT, encR] at K ⊢
    clear h ha
    go_enter Try.func29, Try.ntmps29
    go_wp2_with fail
    refine (K.out).mono ?_
    rintro e w1 ⟨rfl, hb⟩
    have hz := zeros_behind hb
    have hlt : w.heap.size < w1.heap.size := (Array.getElem?_eq_some_iff.1 hz).1
    have hd1 := (HD.out.below hb).alloc (.cells #[.int .i64 x0, .int .i64 x2] 40)
    have KW := Lib.hid (withDue_c d b m most s _ v mp (x0, x1, x2) _ hd1 (by simp))
    simp only [encQ, encR] at KW
    have HZ := Lib.hid hz
    have HB := Lib.hid hb
    clear hz hb K hd1
    go_wp2_with fail
    refine (KW.out).mono ?_
    rintro e w2 ⟨rfl, hb2⟩
    have hz : w2.heap[w.heap.size]? = some (.cells #[.int .i64 0, .int .i64 0, .int .i64 0] 63 (0, 0)) := (hb2.block _ (by simp; omega)).trans ((Below.heap_alloc _ _ _ hlt).trans HZ.out)
    have r0 : w2.cell? ⟨w.heap.size, 0, none⟩ = some (.int .i64 0) := by simp [World.cell?, hz]
    have r1 : w2.cell? ⟨w.heap.size, 1, none⟩ = some (.int .i64 0) := by simp [World.cell?, hz]
    have r2 : w2.cell? ⟨w.heap.size, 2, none⟩ = some (.int .i64 0) := by simp [World.cell?, hz]
    have f0 : w2.frozen? ⟨w.heap.size, 0, none⟩ = false := by simp [World.frozen?, hz]
    have f1 : w2.frozen? ⟨w.heap.size, 1, none⟩ = false := by simp [World.frozen?, hz]
    have f2 : w2.frozen? ⟨w.heap.size, 2, none⟩ = false := by simp [World.frozen?, hz]
    have HZ2 := Lib.hid hz
    have HB2 := Lib.hid hb2
    clear hz hb2 KW
    go_wp2_with fail
    refine bodyPost_ret (res_due rfl _ w.heap.size #[.int .i64 x0, .int .i64 x1, .int .i64 x2] true _ rfl rfl rfl (set3_same _ _ _ HZ2.out)) rfl ?_
    exact ⟨rfl, below_set3 (((((Below.refl _ w).alloc (Nat.le_refl _) _).trans (HB.out.mono (by simp))).alloc (by omega) _).trans (HB2.out.mono (by simp; omega))) (Nat.le_refl _) _ _ _⟩
end Go.Proofs.Ytaodkfnbmpbcfaa
