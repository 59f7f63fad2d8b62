/- Queues of deadlines: New, Set, Drop. -/
import Derived.Test.YtaodkfnbmpbcfaaDd
namespace Go.Proofs.Ytaodkfnbmpbcfaa
open Go.RowKit

/-- A queue of deadlines that a call made. -/
def NewD (W w : World) (most : Int) (e : Ending) : Prop :=
  ∃ d b m v mp, e = .returned (.pointer (some ⟨d, 0, none⟩)) ∧ IsD w d b m most 0 [] v mp ∧ (∀ k, DOf d b m v mp k → W.heap.size ≤ k) ∧ Below W.heap.size W w
set_option maxRecDepth 100000 in
set_option maxHeartbeats 2000000 in
theorem dnew_c (most : Int) (w : World) :
    Calls Try.prog 21 #[.int .i64 most] w fun e w' => NewD w w' (clampQ most) e := by
  have hmm := @run_makeMap Try.prog
  go_enter Try.func21, Try.ntmps21
  go_wp2_with fail
  refine (qnew_c most w).mono ?_
  rintro e w1 ⟨rfl, hq, hb⟩
  have hlt := hq.box.lt
  have hb2 : Below w1.heap.size w1 ((w1.alloc (.map #[] 0)).alloc (.cells #[.pointer (some ⟨w.heap.size + 1, 0, none⟩), .map (some w1.heap.size)] 87)) := ((Below.refl _ w1).alloc (Nat.le_refl _) _).alloc (by simp) _
  have POST : NewD w ((w1.alloc (.map #[] 0)).alloc (.cells #[.pointer (some ⟨w.heap.size + 1, 0, none⟩), .map (some w1.heap.size)] 87)) (clampQ most) (.returned (.pointer (some ⟨w1.heap.size + 1, 0, none⟩))) := by
    refine ⟨_, w.heap.size + 1, w1.heap.size, _, w.heap.size, rfl, ⟨heap_alloc2_new _ _ _, isQ_below hq hb2, ?_, by simp, ?_, ?_, by omega⟩, ?_, hb.trans (hb2.mono (by omega))⟩
    · exact ⟨.map [], (World.ownsMap_made w1 Try.prog 3 (plainElem Try.prog 2)).alloc _, Keeps.empty⟩
    · rintro (h | h | h)
      · omega
      · omega
      · simp [Value.ownBlock] at h
    · rintro (h | h | h)
      · omega
      · omega
      · simp [Value.ownBlock] at h
    · rintro k (rfl | rfl | rfl | rfl | h)
      · omega
      · omega
      · omega
      · omega
      · simp [Value.ownBlock] at h
  have POST := Lib.hid POST
  clear hq hb hb2
  go_wp2_with fail
  go_ret
  exact POST.out

/-- One given another key, another day. -/
def setT (T : List RI) (i : Nat) (r : RI) : List RI := insT (T.eraseIdx i) r
theorem set_days {T : List RI} {i : Nat} {r0 r : RI} (hd : Dist (qL T)) (hi : T[i]? = some r0) (he : r0.2.2 = r.2.2) : (∀ z, z ∈ qM (setT T i r) ↔ z = (r.2.1, r.2.2) ∨ (z ∈ qM T ∧ z.2 ≠ r.2.2)) ∧ (∃ z ∈ qM T, z.2 = r.2.2) ∧ (qM (setT T i r)).length = (qM T).length ∧ ∀ z ∈ qL (T.eraseIdx i), z.2 ≠ r.2.2 := by
  have h1 := fun z => mem_erase (z := z) (dist_M hd) (qM_get hi)
  rw [← qM_erase] at h1
  have hlt : i < T.length := (List.getElem?_eq_some_iff.1 hi).1
  have h2 : ∀ z ∈ qL (T.eraseIdx i), z.2 ≠ r.2.2 := fun z hz => by
    rw [qL_erase] at hz
    have := ((mem_erase hd (qL_get hi)).1 hz).2
    simp only at this
    rw [he] at this
    exact this
  refine ⟨fun z => ?_, ⟨(r0.2.1, r0.2.2), mem_qM.2 ⟨r0, List.mem_of_getElem? hi, rfl⟩, he⟩, ?_, h2⟩
  · rw [setT, (ins_days h2).1 z, h1 z]
    simp only [he]
    constructor
    · rintro (h | ⟨⟨h3, h4⟩, _⟩)
      · exact .inl h
      · exact .inr ⟨h3, h4⟩
    · rintro (h | ⟨h3, h4⟩)
      · exact .inl h
      · exact .inr ⟨⟨h3, h4⟩, h4⟩
  · rw [qM_length, qM_length, setT, length_insT, List.length_eraseIdx, if_pos hlt]; omega

set_option maxRecDepth 100000 in
set_option maxHeartbeats 2000000 in
theorem dset_yes (d b m : Nat) (most s : Int) (T : List RI) (v : Value) (mp : Nat) (r r0 : RI) (i B : Nat) (w : World) (h : IsD w d b m most s T v mp) (hi : T[i]? = some r0) (he : r0.2.2 = r.2.2) (h0 : wf64 r.1) (h1 : wf64 r.2.1) (hL : T.length ≤ 1000000) (hB : T.length < 2 ^ B) (hB' : B ≤ 1000) (hs : 0 ≤ s) (hs' : s < 2305843009213692000) :
    Calls Try.prog 24 #[.pointer (some ⟨d, 0, none⟩), .int .i64 r.2.2, .int .i64 r.1, .int .i64 r.2.1] w fun e w' => e = .returned (.bool true) ∧ DPost d b m mp most s v (setT T i r) (2 * (B + 1)) w w' := by
  have c0 : w.cell? ⟨d, 0, none⟩ = some (.pointer (some ⟨b, 0, none⟩)) := by simp [World.cell?, h.box]
  have K := qset_yes b mp most s v (qL T) (r0.1, r0.2.2) r.1 i B w h.q (qL_get hi) h0 (by rw [qL_length]; exact hL) (by rw [qL_length]; exact hB) hB' hs hs'
  simp only [he] at K
  have e1 : insL ((qL T).eraseIdx i) (r.1, r.2.2) = qL (setT T i r) := by rw [setT, qL_ins, qL_erase]
  rw [e1] at K
  have K := Lib.hid K
  have HD := Lib.hid h
  have HS := Lib.hid (set_days h.q.dist hi he)
  have H1 := Lib.hid h1
  have H2 := Lib.hid (show wf64 r.2.2 by rw [← he]; exact (h.wfs (List.mem_of_getElem? hi)).2.2)
  obtain ⟨x0, x1, x2⟩ := r
  simp only at *
  clear h hi he h0 h1 e1
  go_enter Try.func24, Try.ntmps24
  go_wp2_with fail
  refine (K.out).mono ?_
  rintro e w1 ⟨rfl, hP⟩
  obtain ⟨hM, c1⟩ := HD.out.days hP
  obtain ⟨hs1, hs2, hs3, hs4⟩ := HS.out
  obtain ⟨w2, hrun, hM2, hgr, hsz⟩ := hM.any (L' := qM (setT T i (x0, x1, x2))) (x1, x2) H1.out H2.out (by rw [qM_length]; exact hL) hs1 (.inl ⟨hs2, hs3⟩)
  have POST := Lib.hid (HD.out.step hP hM2 ⟨hgr.os, hgr.tape, hgr.output⟩ hgr.size (fun k hk hn => hgr.block k hk (fun e => hn (Option.some.inj e))) (fun r hr => by
    rcases mem_insT.1 hr with rfl | hr
    · exact H1.out
    · exact HD.out.wf r (List.mem_of_mem_eraseIdx hr)))
  clear hM hs1 hs2 hs3 hs4 hM2 hgr hsz hP K c0
  go_wp2_with fail
  go_ret
  exact ⟨rfl, POST.out⟩

set_option maxHeartbeats 1000000 in
theorem dset_no (d b m : Nat) (most s : Int) (T : List RI) (v : Value) (mp : Nat) (id key due : Int) (w : World) (h : IsD w d b m most s T v mp) (hi : wf64 id) (hn : ∀ z ∈ qL T, z.2 ≠ id) :
    Calls Try.prog 24 #[.pointer (some ⟨d, 0, none⟩), .int .i64 id, .int .i64 key, .int .i64 due] w fun e w' => e = .returned (.bool false) ∧ Below w.heap.size w w' := by
  have c0 : w.cell? ⟨d, 0, none⟩ = some (.pointer (some ⟨b, 0, none⟩)) := by simp [World.cell?, h.box]
  have K := Lib.hid (qset_no b mp most s v (qL T) id key w h.q hi hn)
  clear h hi hn
  go_enter Try.func24, Try.ntmps24
  go_wp2_with fail
  refine (K.out).mono ?_
  rintro e w1 ⟨rfl, hb⟩
  have HB := Lib.hid hb
  clear hb
  go_wp2_with fail
  go_ret
  exact ⟨rfl, HB.out⟩

theorem DPost.of_below {d b m mp K : Nat} {most s : Int} {v : Value} {T T' : List RI} {w w1 w2 : World} (h : IsD w d b m most s T v mp) (hb : Below w.heap.size w w1) (hp : DPost d b m mp most s v T' K w1 w2) : DPost d b m mp most s v T' K w w2 := by
  obtain ⟨v', k, h1, h2, ht⟩ := hp
  exact ⟨v', k, h1, h2, (below_trip hb h.lt).trans ht⟩

set_option maxRecDepth 100000 in
set_option maxHeartbeats 2000000 in
theorem ddrop_no (d b m : Nat) (most s : Int) (T : List RI) (v : Value) (mp : Nat) (id : Int) (w : World) (h : IsD w d b m most s T v mp) (hi : wf64 id) (hn : ∀ z ∈ qL T, z.2 ≠ id) :
    Calls Try.prog 23 #[.pointer (some ⟨d, 0, none⟩), .int .i64 id] w fun e w' => e = .returned (.tuple #[.agg (encR (0, 0, 0)).toArray, .bool false]) ∧ Below w.heap.size w w' := by
  have ha := h.alloc (.cells #[.int .i64 0, .int .i64 0, .int .i64 0] 63)
  have K := Lib.hid (dget_no d b m most s T v mp id _ ha hi hn)
  simp only [encR] at K ⊢
  clear h ha hi hn
  go_enter Try.func23, Try.ntmps23
  go_wp2_with fail
  refine (K.out).mono ?_
  rintro e w1 ⟨rfl, hb⟩
  have hz := zeros_behind hb
  have r0 : w1.cell? ⟨w.heap.size, 0, none⟩ = some (.int .i64 0) := by simp [World.cell?, hz]
  have r1 : w1.cell? ⟨w.heap.size, 1, none⟩ = some (.int .i64 0) := by simp [World.cell?, hz]
  have r2 : w1.cell? ⟨w.heap.size, 2, none⟩ = some (.int .i64 0) := by simp [World.cell?, hz]
  have f0 : w1.frozen? ⟨w.heap.size, 0, none⟩ = false := by simp [World.frozen?, hz]
  have f1 : w1.frozen? ⟨w.heap.size, 1, none⟩ = false := by simp [World.frozen?, hz]
  have f2 : w1.frozen? ⟨w.heap.size, 2, none⟩ = false := by simp [World.frozen?, hz]
  have hlt : w.heap.size < w1.heap.size := (Array.getElem?_eq_some_iff.1 hz).1
  have HZ := Lib.hid hz
  have HB := Lib.hid hb
  clear hz hb K
  go_wp2_with fail
  refine bodyPost_ret (res_due rfl _ w.heap.size #[.int .i64 0, .int .i64 0, .int .i64 0] false _ rfl rfl rfl ((Below.heap_alloc (set3 w1 w.heap.size _ _ _) _ _ (by rw [set3_size]; exact hlt)).trans (set3_same _ _ _ HZ.out))) rfl ?_
  exact ⟨rfl, (below_set3 (((Below.refl _ w).alloc (Nat.le_refl _) _).trans (HB.out.mono (by simp))) (Nat.le_refl _) _ _ _).alloc (by show _ ≤ (set3 w1 _ _ _ _).heap.size; rw [set3_size]; omega) _⟩
end Go.Proofs.Ytaodkfnbmpbcfaa
