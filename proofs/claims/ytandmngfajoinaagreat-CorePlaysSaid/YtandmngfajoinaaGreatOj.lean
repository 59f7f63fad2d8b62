/- Queues: New, Len, Steps, Key, Min, Put. -/
import Derived.Test.YtandmngfajoinaaGreatOi
import Derived.Laws.ResultCell
import Derived.Carry
namespace Go.Proofs.YtandmngfajoinaaGreat
open Go.RowKit

theorem trip_self {w w' : World} {b : Nat} {v : Value} {mp : Nat} {most s : Int} {L : List QI} (h : IsQ w b most s L v mp) (hb : Below w.heap.size w w') : Trip (QOf b v mp) w (QOf b v mp) w' :=
  ⟨hb.os, hb.tape, hb.output, hb.size, fun k hk _ => hb.block k hk, fun _ h => .inl h, fun k hk => by have := h.lt k hk; have := hb.size; omega⟩
theorem isQ_below {w w' : World} {b : Nat} {v : Value} {mp : Nat} {most s : Int} {L : List QI} (h : IsQ w b most s L v mp) (hb : Below w.heap.size w w') : IsQ w' b most s L v mp := h.keep (fun k hk => hb.block k (h.lt k hk))

set_option maxHeartbeats 1000000 in
theorem qlen_c (b mp : Nat) (most s : Int) (v : Value) (L : List QI) (w : World) (hq : IsQ w b most s L v mp) :
    Calls Tryz.prog 70 #[.pointer (some ⟨b, 0, none⟩)] w fun e w' => e = .returned (.int .i64 L.length) ∧ w = w' := by
  obtain ⟨A, c, rfl, _⟩ := hq.row.form
  have c1 : w.cell? ⟨b, 1, none⟩ = some (.slice A L.length c) := by simp [World.cell?, show w.heap[b]? = _ from hq.box]
  clear hq
  go_enter Tryz.func70, Tryz.ntmps70
  go_wp2
  go_ret
  exact ⟨rfl, rfl⟩
/-- What Key tells. -/
def keyV (L : List QI) (id : Int) : Int × Bool :=
  match L.find? (fun x => x.2 == id) with
  | some x => (x.1, true)
  | none => (0, false)
theorem keyV_yes {L : List QI} (hd : Dist L) {x : QI} (hx : x ∈ L) : keyV L x.2 = (x.1, true) := by
  unfold keyV
  cases h : L.find? (fun y => y.2 == x.2) with
  | none => exact absurd (List.find?_eq_none.1 h x hx) (by simp)
  | some y =>
    have h1 : y.2 = x.2 := by simpa using List.find?_some h
    rw [hd.uniq (List.mem_of_find?_eq_some h) hx h1]
theorem keyV_no {L : List QI} {id : Int} (hn : ∀ x ∈ L, x.2 ≠ id) : keyV L id = (0, false) := by
  unfold keyV
  rw [List.find?_eq_none.2 (fun x hx => by simpa using hn x hx)]
theorem QMap.look' {w : World} {mp : Nat} {L : List QI} (h : QMap w mp L) (hd : Dist L) (id : Int) (hw : wf64 id) :
    (Instr.lookup 31 (.map (some mp)) (.int .i64 id) true).run Tryz.prog w = .ok (.tuple #[.int .i64 (keyV L id).1, .bool (keyV L id).2]) w := by
  by_cases hx : ∃ x ∈ L, x.2 = id
  · obtain ⟨x, hx, rfl⟩ := hx
    rw [keyV_yes hd hx]
    exact (h.look _ hw).1 x hx rfl
  · have hn : ∀ x ∈ L, x.2 ≠ id := fun x h1 h2 => hx ⟨x, h1, h2⟩
    rw [keyV_no hn]
    exact (h.look _ hw).2 hn

set_option maxHeartbeats 1000000 in
theorem qkey_c (b mp : Nat) (most s : Int) (v : Value) (L : List QI) (id : Int) (w : World) (hq : IsQ w b most s L v mp) (hw : wf64 id) :
    Calls Tryz.prog 92 #[.pointer (some ⟨b, 0, none⟩), .int .i64 id] w fun e w' => e = .returned (.tuple #[.int .i64 (keyV L id).1, .bool (keyV L id).2]) ∧ w = w' := by
  have c1 : w.cell? ⟨b, 2, none⟩ = some (.map (some mp)) := by simp [World.cell?, show w.heap[b]? = _ from hq.box]
  have hl := hq.map.look' hq.dist id hw
  generalize keyV L id = kv at *
  obtain ⟨k0, k1⟩ := kv
  simp only at hl
  clear hq hw
  go_enter Tryz.func92, Tryz.ntmps92
  go_wp2
  go_ret2
  exact ⟨rfl, rfl⟩

/-- Two cells, written anew. -/
def set2 (w : World) (r : Nat) (x y : Value) : World := (w.setCell ⟨r, 0, none⟩ x).setCell ⟨r, 1, none⟩ y
theorem setCell_q {w : World} {r i : Nat} {t : TypeId} {cs : Array Value} (v : Value) (h : w.heap[r]? = some (.cells cs t (0, 0))) : (w.setCell ⟨r, i, none⟩ v).heap[r]? = some (.cells (cs.setIfInBounds i v) t (0, 0)) := by
  obtain ⟨hlt, hk⟩ := Array.getElem?_eq_some_iff.1 h
  show (w.heap.modify r _)[r]? = _
  rw [Array.getElem?_eq_getElem (by rw [Array.size_modify]; exact hlt), Array.getElem_modify_self, hk]
  rfl
theorem set2_same {w : World} {r : Nat} {t : TypeId} {a b : Value} (x y : Value) (h : w.heap[r]? = some (.cells #[a, b] t (0, 0))) : (set2 w r x y).heap[r]? = some (.cells #[x, y] t (0, 0)) :=
  setCell_q (i := 1) y (setCell_q (i := 0) x h)
theorem set2_other {w : World} {r j : Nat} (x y : Value) (h : j ≠ r) : (set2 w r x y).heap[j]? = w.heap[j]? := by
  unfold set2
  rw [Below.heap_setCell _ _ _ _ h, Below.heap_setCell _ _ _ _ h]
theorem set2_size {w : World} {r : Nat} (x y : Value) : (set2 w r x y).heap.size = w.heap.size := by simp [set2, World.setCell]
theorem below_set2 {B : Nat} {w0 w : World} {r : Nat} (x y : Value) (h : Below B w0 w) (hr : B ≤ r) : Below B w0 (set2 w r x y) :=
  ⟨h.os, h.tape, h.output, by rw [set2_size]; exact h.size, fun k hk => (set2_other x y (by omega)).trans (h.block k hk)⟩
/-- The results of a function that hands back a thing, in a cell, and a bool. -/
theorem item_results (fn : Func) (i j : Nat) (hf : fn.results = #[.cell i 136, .tmp j]) (tmps : Array Value) (r : Nat) (cs : Array Value) (bb : Bool) (w : World) (h4 : tmps.getD i undef = .pointer (some ⟨r, 0, none⟩)) (h5 : tmps.getD j undef = .bool bb) (hc : cs.size = 2) (hr : w.heap[r]? = some (.cells cs 136 (0, 0))) :
    (results fn tmps).run Tryz.prog w = .ok (.tuple #[.agg cs, .bool bb]) w := by
  rw [results_cell_tmp hf, h4, h5]
  have hl := run_loadVar_row (P := Tryz.prog) w r 136 136 cs (0, 0) _ hr Tryz.underlying136 rfl (by rw [hc]; kernel_rfl)
  simp [asAddr, hl]

/-- What Min tells. -/
def minV : List QI → QI × Bool
  | [] => ((0, 0), false)
  | x :: _ => (x, true)
set_option maxRecDepth 100000 in
set_option maxHeartbeats 2000000 in
theorem qmin_c (b mp : Nat) (most s : Int) (v : Value) (L : List QI) (w : World) (hq : IsQ w b most s L v mp) (hL : L.length ≤ 1000000) :
    Calls Tryz.prog 149 #[.pointer (some ⟨b, 0, none⟩)] w fun e w' => e = .returned (.tuple #[.agg (encQ (minV L).1).toArray, .bool (minV L).2]) ∧ Below w.heap.size w w' := by
  have hbw := hq.box.lt
  have hb1 : Below w.heap.size w (w.alloc (.cells #[.int .i64 0, .int .i64 0] 136)) := (Below.refl _ w).alloc (Nat.le_refl _) _
  have hnew : (w.alloc (.cells #[.int .i64 0, .int .i64 0] 136)).heap[w.heap.size]? = some (.cells #[.int .i64 0, .int .i64 0] 136 (0, 0)) := World.alloc_heap_new _ _
  cases L with
  | nil =>
    obtain ⟨A, c, rfl, _⟩ := hq.row.form
    have c1 : w.cell? ⟨b, 1, none⟩ = some (.slice A 0 c) := by simp [World.cell?, show w.heap[b]? = _ from hq.box]
    have HB := Lib.hid hb1
    have HN := Lib.hid hnew
    clear hq hb1 hnew
    simp only [minV]
    go_enter Tryz.func149, Tryz.ntmps149
    go_wp2
    refine bodyPost_ret (item_results _ 2 3 rfl _ w.heap.size #[.int .i64 0, .int .i64 0] false _ rfl rfl rfl HN.out) rfl ?_
    exact ⟨rfl, HB.out⟩
  | cons x xs =>
    obtain ⟨x0, x1⟩ := x
    obtain ⟨g, c, rfl, hg, hc, d0, d1⟩ := hq.row.get (j := 0) (x := (x0, x1)) rfl
    have c1 : w.cell? ⟨b, 1, none⟩ = some (.slice (some ⟨g, 0, none⟩) ((x0, x1) :: xs).length c) := by simp [World.cell?, show w.heap[b]? = _ from hq.box]
    simp only [Nat.zero_mul, Nat.zero_add, List.length_cons] at d0 d1 c1 hL
    obtain ⟨n, hn⟩ : ∃ n, xs.length = n := ⟨_, rfl⟩
    rw [hn] at c1 hL
    have hb2 : Below w.heap.size w (w.alloc (.cells #[.int .i64 x0, .int .i64 x1] 136)) := (Below.refl _ w).alloc (Nat.le_refl _) _
    have hnew2 : (w.alloc (.cells #[.int .i64 x0, .int .i64 x1] 136)).heap[w.heap.size]? = some (.cells #[.int .i64 x0, .int .i64 x1] 136 (0, 0)) := World.alloc_heap_new _ _
    have HB := Lib.hid hb2
    have HN := Lib.hid hnew2
    clear hq hb1 hnew hb2 hnew2 hn
    simp only [minV]
    go_enter Tryz.func149, Tryz.ntmps149
    go_wp2
    refine bodyPost_ret (item_results _ 2 3 rfl _ w.heap.size #[.int .i64 x0, .int .i64 x1] true _ rfl rfl rfl HN.out) rfl ?_
    exact ⟨rfl, HB.out⟩

/-- What Put answers, and what it leaves. -/
def putV (most : Int) (L : List QI) (x : QI) : Int × List QI :=
  if (keyV L x.2).2 = true then (4, L) else if most ≤ (L.length : Int) then (3, L) else (0, insL L x)
/-- What is left behind a call that changes a queue. -/
def QPost (b mp : Nat) (most s : Int) (v : Value) (L' : List QI) (K : Nat) (w w' : World) : Prop :=
  ∃ v', ∃ k : Nat, k ≤ K ∧ IsQ w' b most (s + (k : Int)) L' v' mp ∧ Trip (QOf b v mp) w (QOf b v' mp) w'
theorem QPost.same {b mp : Nat} {most s : Int} {v : Value} {L : List QI} {K : Nat} {w w' : World} (hq : IsQ w b most s L v mp) (hb : Below w.heap.size w w') : QPost b mp most s v L K w w' :=
  ⟨v, 0, Nat.zero_le _, by simpa using isQ_below hq hb, trip_self hq hb⟩

set_option maxRecDepth 100000 in
set_option maxHeartbeats 2000000 in
/-- q.Put(key, id). -/
theorem qput_c (b mp : Nat) (most s : Int) (v : Value) (L : List QI) (x : QI) (B : Nat) (w : World) (hq : IsQ w b most s L v mp) (hk : wf64 x.1) (hi : wf64 x.2) (hL : L.length ≤ 1000000) (hB : L.length < 2 ^ B) (hB' : B ≤ 1000) (hs : 0 ≤ s) (hs' : s < 2305843009213693952) :
    Calls Tryz.prog 78 #[.pointer (some ⟨b, 0, none⟩), .int .i64 x.1, .int .i64 x.2] w fun e w' => e = .returned (.int .i64 (putV most L x).1) ∧ QPost b mp most s v (putV most L x).2 (B + 1) w w' := by
  have c2 : w.cell? ⟨b, 2, none⟩ = some (.map (some mp)) := by simp [World.cell?, show w.heap[b]? = _ from hq.box]
  have hl := hq.map.look' hq.dist x.2 hi
  by_cases hx : ∃ z ∈ L, z.2 = x.2
  · have hkv : (keyV L x.2).2 = true := by
      obtain ⟨z, hz, he⟩ := hx
      rw [← he, keyV_yes hq.dist hz]
    have hp : putV most L x = (4, L) := by unfold putV; rw [if_pos hkv]
    rw [hp]
    rw [hkv] at hl
    generalize (keyV L x.2).1 = k0 at *
    have POST := Lib.hid (QPost.same (K := B + 1) hq (Below.refl _ w))
    obtain ⟨xk, xi⟩ := x
    simp only at hl hk hi
    clear hq hkv hx hp hB hk hi
    go_enter Tryz.func78, Tryz.ntmps78
    go_wp2
    go_ret
    exact ⟨rfl, POST.out⟩
  · have hn : ∀ z ∈ L, z.2 ≠ x.2 := fun z h1 h2 => hx ⟨z, h1, h2⟩
    have hkv := keyV_no hn
    have hc0 : w.cell? ⟨b, 0, none⟩ = some (.int .i64 most) := by simp [World.cell?, show w.heap[b]? = _ from hq.box]
    rw [hkv] at hl
    obtain ⟨A, c, rfl, _⟩ := hq.row.form
    have c1 : w.cell? ⟨b, 1, none⟩ = some (.slice A L.length c) := by simp [World.cell?, show w.heap[b]? = _ from hq.box]
    by_cases hf : most ≤ (L.length : Int)
    · have hp : putV most L x = (3, L) := by unfold putV; rw [hkv, if_neg (by simp), if_pos hf]
      rw [hp]
      have POST := Lib.hid (QPost.same (K := B + 1) (w' := w.drew) hq (Below.refl _ w).drew)
      obtain ⟨xk, xi⟩ := x
      simp only at hl hk hi
      clear hq hkv hx hp hB hk hi hn
      obtain ⟨n, hnn⟩ : ∃ n, L.length = n := ⟨_, rfl⟩
      rw [hnn] at c1 hf
      clear hnn
      go_enter Tryz.func78, Tryz.ntmps78
      go_wp2_with fail
      go_region
      all_goals
        go_wp2
        go_ret
        exact ⟨rfl, POST.out⟩
    · have hp : putV most L x = (0, insL L x) := by unfold putV; rw [hkv, if_neg (by simp), if_neg hf]
      rw [hp]
      have KI := Lib.hid (insert_c b mp most s _ L x B w.drew (isQ_below hq (Below.refl _ w).drew) hn hk hi hL hB hB' hs hs')
      obtain ⟨xk, xi⟩ := x
      simp only at hl hk hi
      have KI' : Hid (Calls Tryz.prog 91 #[.pointer (some ⟨b, 0, none⟩), .agg #[.int .i64 xk, .int .i64 xi]] w.drew fun e w' => (∃ u, e = .returned u) ∧ QPost b mp most s (.slice A L.length c) (insL L (xk, xi)) (B + 1) w.drew w') := KI
      obtain ⟨n, hnn⟩ : ∃ n, L.length = n := ⟨_, rfl⟩
      have c1' : w.cell? ⟨b, 1, none⟩ = some (.slice A n c) := by rw [← hnn]; exact c1
      have hf' : ¬ most ≤ (n : Int) := by rw [← hnn]; exact hf
      clear hq hkv hx hp hB hk hi hn KI hnn c1 hf
      go_enter Tryz.func78, Tryz.ntmps78
      go_wp2_with fail
      go_region
      all_goals
        go_wp2_with (go_at_call 91; refine (KI'.out).mono ?_; rintro e w' ⟨⟨u, rfl⟩, hP⟩; have HP := Lib.hid hP; clear hP)
        go_ret
        obtain ⟨v', k, h1, h2, h3⟩ := HP.out
        exact ⟨rfl, v', k, h1, h2, h3.undrew⟩
end Go.Proofs.YtandmngfajoinaaGreat
