/- Queues of deadlines: Drop. -/
import Derived.Test.YtaodkfnbmpbcfaaDe
namespace Go.Proofs.Ytaodkfnbmpbcfaa
open Go.RowKit

/-- Three cells of a box that is none of its. -/
theorem DPost.set3 {d b m mp K r : Nat} {most s : Int} {v : Value} {T T' : List RI} {w w2 w4 : World} (h : IsD w d b m most s T v mp) (hb : Below w.heap.size w w2) (h1 : w.heap.size ≤ r) (h2 : r < w2.heap.size) (hp : DPost d b m mp most s v T' K w2 w4) (x y z : Value) : DPost d b m mp most s v T' K w (set3 w4 r x y z) := by
  obtain ⟨v', k, hk, hd, ht⟩ := hp
  have hne : ∀ j, DOf d b m v' mp j → j ≠ r := fun j hj => by
    rcases ht.sub j hj with h3 | h3
    · have := h.lt j h3; omega
    · omega
  have ht' := (below_trip hb h.lt).trans ht
  refine ⟨v', k, hk, hd.keep (fun j hj => set3_other x y z (hne j hj)), ⟨ht'.os, ht'.tape, ht'.output, by rw [set3_size]; exact ht'.size, fun j hj hn => ?_, ht'.sub, fun j hj => by rw [set3_size]; exact ht'.bd j hj⟩⟩
  rw [set3_other x y z (by omega)]
  exact ht'.block j hj hn

set_option maxRecDepth 100000 in
set_option maxHeartbeats 2000000 in
theorem ddrop_yes (d b m : Nat) (most s : Int) (T : List RI) (v : Value) (mp : Nat) (r : RI) (i B : Nat) (w : World) (h : IsD w d b m most s T v mp) (hi : T[i]? = some r) (hL : T.length ≤ 1000000) (hB : T.length < 2 ^ B) (hB' : B ≤ 1000) (hs : 0 ≤ s) (hs' : s < 2305843009213693952) :
    Calls Try.prog 23 #[.pointer (some ⟨d, 0, none⟩), .int .i64 r.2.2] w fun e w' => e = .returned (.tuple #[.agg (encR r).toArray, .bool true]) ∧ DPost d b m mp most s v (T.eraseIdx i) (B + 1) w w' := by
  have ha := h.alloc (.cells #[.int .i64 0, .int .i64 0, .int .i64 0] 63)
  have K := Lib.hid (dget_yes d b m most s T v mp r _ ha (List.mem_of_getElem? hi))
  have HA := Lib.hid ha
  have HD := Lib.hid h
  have HI := Lib.hid hi
  have HW := Lib.hid (h.wfs (List.mem_of_getElem? hi)).2.2
  obtain ⟨x0, x1, x2⟩ := r
  simp only [encR] at K HW ⊢
  clear h ha hi
  go_enter Try.func23, Try.ntmps23
  go_wp2_with fail
  refine (K.out).mono ?_
  rintro e w1 ⟨rfl, hb⟩
  have hz := zeros_behind hb
  have hlt : w.heap.size < w1.heap.size := (Array.getElem?_eq_some_iff.1 hz).1
  have hb1 : Below w.heap.size w w1 := ((Below.refl _ w).alloc (Nat.le_refl _) _).trans (hb.mono (by simp))
  obtain ⟨w2, hw2⟩ : ∃ w2, w1.alloc (.cells #[.int .i64 x0, .int .i64 x1, .int .i64 x2] 63) = w2 := ⟨_, rfl⟩
  have hbox : w2.heap[w1.heap.size]? = some (.cells #[.int .i64 x0, .int .i64 x1, .int .i64 x2] 63 (0, 0)) := by rw [← hw2]; exact World.alloc_heap_new _ _
  have hz2 : w2.heap[w.heap.size]? = some (.cells #[.int .i64 0, .int .i64 0, .int .i64 0] 63 (0, 0)) := by rw [← hw2, Below.heap_alloc _ _ _ hlt]; exact hz
  have hb2 : Below w.heap.size w w2 := by rw [← hw2]; exact hb1.alloc (by omega) _
  have hs2 : w1.heap.size < w2.heap.size := by rw [← hw2]; simp
  have hd2 := HD.out.below hb2
  have c0 : w2.cell? ⟨d, 0, none⟩ = some (.pointer (some ⟨b, 0, none⟩)) := by simp [World.cell?, hd2.box]
  have K2 := qdrop_yes b mp most s v (qL T) (x0, x2) i B w2 hd2.q (qL_get HI.out) (by rw [qL_length]; exact hL) (by rw [qL_length]; exact hB) hB' hs hs'
  rw [← qL_erase] at K2
  have K2 := Lib.hid K2
  have HD2 := Lib.hid hd2
  have HBOX := Lib.hid hbox
  have HZ2 := Lib.hid hz2
  have HB2 := Lib.hid hb2
  clear hz hb hb1 hbox hz2 hb2 hd2 K HA
  go_wp2_with fail
  clear hw2
  refine (K2.out).mono ?_
  rintro e w3 ⟨rfl, hP⟩
  obtain ⟨hM, c1⟩ := HD2.out.days hP
  obtain ⟨w4, hrun, hM4, hgr, hsz⟩ := hM.drop (dist_M HD2.out.q.dist) (qM_get HI.out) HW.out 0
  rw [← qM_erase] at hM4
  have hP0 := hP
  obtain ⟨_, _, _, _, ht⟩ := hP0
  have nq : ∀ k, w.heap.size ≤ k → ¬ QOf b v mp k := fun k hk hq => by have := HD.out.q.lt k hq; omega
  have hmw := HD.out.lt m (.inr (.inl rfl))
  have e3 : ∀ k, w.heap.size ≤ k → k < w2.heap.size → w4.heap[k]? = w2.heap[k]? := fun k h1 h2 => by
    rw [hgr.block k (by have := ht.size; omega) (by intro e; injection e with e; omega), ht.block k h2 (nq k h1)]
  have eb := (e3 _ (by omega) hs2).trans HBOX.out
  have ez := (e3 w.heap.size (by omega) (by omega)).trans HZ2.out
  have b0 : w4.cell? ⟨w1.heap.size, 0, none⟩ = some (.int .i64 x0) := by simp [World.cell?, eb]
  have b1 : w4.cell? ⟨w1.heap.size, 1, none⟩ = some (.int .i64 x1) := by simp [World.cell?, eb]
  have b2 : w4.cell? ⟨w1.heap.size, 2, none⟩ = some (.int .i64 x2) := by simp [World.cell?, eb]
  have r0 : w4.cell? ⟨w.heap.size, 0, none⟩ = some (.int .i64 0) := by simp [World.cell?, ez]
  have r1 : w4.cell? ⟨w.heap.size, 1, none⟩ = some (.int .i64 0) := by simp [World.cell?, ez]
  have r2 : w4.cell? ⟨w.heap.size, 2, none⟩ = some (.int .i64 0) := by simp [World.cell?, ez]
  have f0 : w4.frozen? ⟨w.heap.size, 0, none⟩ = false := by simp [World.frozen?, ez]
  have f1 : w4.frozen? ⟨w.heap.size, 1, none⟩ = false := by simp [World.frozen?, ez]
  have f2 : w4.frozen? ⟨w.heap.size, 2, none⟩ = false := by simp [World.frozen?, ez]
  have POST := Lib.hid (HD2.out.step hP hM4 ⟨hgr.os, hgr.tape, hgr.output⟩ hgr.size (fun k hk hn => hgr.block k hk (fun e => hn (Option.some.inj e))) (fun r hr => HD2.out.wf r (List.mem_of_mem_eraseIdx hr)))
  have EZ := Lib.hid ez
  clear hM hM4 hgr hsz hP ht nq e3 eb ez K2 c0
  go_wp2_with fail
  refine bodyPost_ret (res_due rfl _ w.heap.size #[.int .i64 x0, .int .i64 x1, .int .i64 x2] true _ rfl rfl rfl (set3_same _ _ _ EZ.out)) rfl ?_
  exact ⟨rfl, DPost.set3 HD.out HB2.out (Nat.le_refl _) (by omega) POST.out _ _ _⟩
end Go.Proofs.Ytaodkfnbmpbcfaa
