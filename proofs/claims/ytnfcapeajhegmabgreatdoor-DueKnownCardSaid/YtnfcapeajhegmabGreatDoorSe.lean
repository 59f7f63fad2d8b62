/- The queue of points: Base, Back, PickLeast, Cur, Leave. -/
import Derived.Test.YtnfcapeajhegmabGreatDoorSd
namespace Go.Proofs.YtnfcapeajhegmabGreatDoor
open Go.RowKit Go.Maps

section
variable {w w' : World} {s b mp mw : Nat} {v : Value} {st base cur : Int} {L : List QI} {R : List RI}


set_option maxHeartbeats 1000000 in
theorem sback_c (w : World) (h : IsS w s b mp mw v st base cur L R) :
    Calls Tryz.prog 20 #[.pointer (some ⟨s, 0, none⟩)] w fun e w' => e = .returned (.bool (!decide (cur = -1))) ∧ SPost s b mp mw v st base (-1) R 0 w w' := by
  obtain ⟨-, c1, -, -, -, f1⟩ := h.box.cells
  have FIN : Hid (SPost s b mp mw v st base (-1) R 0 w (w.setCell ⟨s, 1, none⟩ (.int .i64 (-1)))) := Lib.hid ⟨v, L, 0, Nat.le_refl _, by simpa using h.set1 (.inl rfl), (h.self (Below.refl _ w)).setS⟩
  have hb : (cur != -1) = !decide (cur = -1) := by by_cases e : cur = -1 <;> simp [e]
  clear h
  go_enter Tryz.func20, Tryz.ntmps20
  go_wp2
  go_ret
  exact ⟨ret_b hb, FIN.out⟩

set_option maxRecDepth 100000 in
set_option maxHeartbeats 2000000 in
theorem look_w (h : IsS w s b mp mw v st base cur L R) (id : Int) (hid : wf64 id) :
    (Instr.lookup 74 (.map (some mw)) (.int .i64 id) true).run Tryz.prog w = .ok (.tuple #[.int .i64 (if hasI R id = true then (getI R id).2.1 else 0), .bool (hasI R id)]) w := by
  cases hI : hasI R id with
  | true =>
    obtain ⟨hr, he⟩ := getI_mem hI
    rw [if_pos rfl]
    exact (h.wm.look id hid).1 ((getI R id).2.1, (getI R id).1) (mem_wL.2 ⟨_, hr, rfl, rfl⟩) he
  | false =>
    rw [if_neg (by decide)]
    refine (h.wm.look id hid).2 (fun x hx he => ?_)
    obtain ⟨r, hr, _, h2⟩ := mem_wL.1 hx
    exact hasI_no.1 hI r hr (h2.trans he)

set_option maxRecDepth 100000 in
set_option maxHeartbeats 2000000 in
/-- The one of a number runs; nobody, if there is none. -/
theorem spid_c (id : Int) (w : World) (h : IsS w s b mp mw v st base cur L R) (hid : wf64 id) :
    Calls Tryz.prog 23 #[.pointer (some ⟨s, 0, none⟩), .int .i64 id] w fun e w' => e = .returned (.tuple #[.int .i64 (if hasI R id = true then id else 0), .bool (hasI R id)]) ∧ SPost s b mp mw v st base (if hasI R id = true then id else -1) R 0 w w' := by
  obtain ⟨-, c1, -, c3, -, f1⟩ := h.box.cells
  have hrun := look_w h id hid
  have FIN : Hid (SPost s b mp mw v st base (if hasI R id = true then id else -1) R 0 w (w.setCell ⟨s, 1, none⟩ (.int .i64 (if hasI R id = true then id else -1)))) := by
    have hz : (if hasI R id = true then id else -1) = -1 ∨ hasI R (if hasI R id = true then id else -1) = true := by
      by_cases hI : hasI R id = true
      · rw [if_pos hI]; exact .inr hI
      · rw [if_neg hI]; exact .inl rfl
    exact Lib.hid ⟨v, L, 0, Nat.le_refl _, by simpa using h.set1 hz, (h.self (Below.refl _ w)).setS⟩
  cases hI : hasI R id with
  | false =>
    rw [hI] at hrun FIN
    simp only [Bool.false_eq_true, if_false] at hrun FIN ⊢
    clear h hI hid
    go_enter Tryz.func23, Tryz.ntmps23
    go_wp2_with fail
    go_ret2
    exact ⟨rfl, FIN.out⟩
  | true =>
    rw [hI] at hrun FIN
    simp only [if_true] at hrun FIN ⊢
    generalize (getI R id).2.1 = r1 at hrun
    clear h hI hid
    go_enter Tryz.func23, Tryz.ntmps23
    go_wp2_with fail
    go_ret2
    exact ⟨rfl, FIN.out⟩


/-- Who runs, with its point; none. -/
def curV (cur : Int) (R : List RI) : QI × Bool := if hasI R cur = true then (((getI R cur).2.2, cur), true) else ((0, 0), false)
theorem IsS.cur64 (h : IsS w s b mp mw v st base cur L R) : wf64 cur := by
  rcases h.wf.cur with hc | hc
  · rw [hc]; exact wf64_of (by decide) (by decide)
  · obtain ⟨hr, he⟩ := getI_mem hc
    have := (h.id64 hr).1
    rwa [he] at this
set_option maxRecDepth 100000 in
set_option maxHeartbeats 4000000 in
theorem scur_c (w : World) (h : IsS w s b mp mw v st base cur L R) :
    Calls Tryz.prog 42 #[.pointer (some ⟨s, 0, none⟩)] w fun e w' => e = .returned (.tuple #[.agg (encQ (curV cur R).1).toArray, .bool (curV cur R).2]) ∧ Below w.heap.size w w' := by
  have hb1 : Below w.heap.size w (w.alloc (.cells #[.int .i64 0, .int .i64 0] 86)) := (Below.refl _ w).alloc (Nat.le_refl _) _
  have hnew := World.alloc_heap_new w (.cells #[.int .i64 0, .int .i64 0] 86)
  obtain ⟨w1, hw1⟩ : ∃ w1, w.alloc (.cells #[.int .i64 0, .int .i64 0] 86) = w1 := ⟨_, rfl⟩
  rw [hw1] at hb1 hnew
  have h1 := h.below hb1
  obtain ⟨-, c1, c2, -, -, -⟩ := h1.box.cells
  have KK : Hid (∀ n, Calls Tryz.prog 46 #[.pointer (some ⟨b, 0, none⟩), .int .i64 cur] (w1.drewN n) fun e w'' => e = .returned (.tuple #[.int .i64 (keyV L cur).1, .bool (keyV L cur).2]) ∧ ∃ m, w'' = w1.drewN m) := Lib.hid (fun n => quiet_eq (qkey_c b mp 64 st v L cur (w1.drewN n) (h1.q.keep (fun _ _ => rfl)) h.cur64))
  rw [perm_key h.perm h.q.dist h.wf.asc cur] at KK
  have FIN : Hid (∀ (q : Nat) (x y : Value), (set2 (w1.drewN q) w.heap.size x y).heap[w.heap.size]? = some (.cells #[x, y] 86 (0, 0)) ∧ Below w.heap.size w (set2 (w1.drewN q) w.heap.size x y)) := Lib.hid (fun q x y =>
    ⟨set2_same x y (show (w1.drewN q).heap[w.heap.size]? = _ from hnew), below_set2 x y (below_drewN hb1 q) (Nat.le_refl _)⟩)
  have HN := Lib.hid hnew
  unfold curV
  cases hI : hasI R cur with
  | false =>
    rw [hI, if_neg (by decide)] at KK
    rw [if_neg (by decide)]
    simp only [encQ]
    clear h h1 hb1 hnew hI
    go_enter Tryz.func42, Tryz.ntmps42
    go_wp2_with fail
    go_big_quiet ((first | exact KK.out _))
    have HF := Lib.hid (FIN.out nq (.int .i64 0) (.int .i64 0))
    obtain ⟨t0, t1, t2, t3⟩ := two_cells (show (w1.drewN nq).heap[w.heap.size]? = _ from HN.out) (.int .i64 0)
    clear KK FIN
    go_wp2_with fail
    refine bodyPost_ret (item_results _ 2 3 rfl _ w.heap.size #[.int .i64 0, .int .i64 0] false _ rfl rfl rfl HF.out.1) rfl ?_
    exact ⟨rfl, HF.out.2⟩
  | true =>
    rw [hI, if_pos rfl] at KK
    rw [if_pos rfl]
    simp only [encQ]
    generalize (getI R cur).2.2 = x0 at *
    clear h h1 hb1 hnew hI
    go_enter Tryz.func42, Tryz.ntmps42
    go_wp2_with fail
    go_big_quiet ((first | exact KK.out _))
    have HF := Lib.hid (FIN.out nq (.int .i64 x0) (.int .i64 cur))
    obtain ⟨t0, t1, t2, t3⟩ := two_cells (show (w1.drewN nq).heap[w.heap.size]? = _ from HN.out) (.int .i64 x0)
    clear KK FIN
    go_wp2_with fail
    refine bodyPost_ret (item_results _ 2 3 rfl _ w.heap.size #[.int .i64 x0, .int .i64 cur] true _ rfl rfl rfl HF.out.1) rfl ?_
    exact ⟨rfl, HF.out.2⟩

/-- What Leave answers, and what it leaves: the lag, the error; the base, who runs, the tasks. -/
def leaveM (base cur : Int) (R : List RI) (id : Int) : Int × Int × Int × Int × List RI :=
  if hasI R id = true then (base - (getI R id).2.2, 0, raiseM base (delI R id), if cur = id then -1 else cur, delI R id) else (0, 2, base, cur, R)

end
end Go.Proofs.YtnfcapeajhegmabGreatDoor
