/- Queues: New, Drop, Set. -/
import Derived.Test.YtandmngfajoinaaGreatOj
namespace Go.Proofs.YtandmngfajoinaaGreat
open Go.RowKit

/-- New's room. -/
def clampQ (most : Int) : Int := if most < 1 then 1 else if 4096 < most then 4096 else most
theorem clampQ_pos (most : Int) : 1 ≤ clampQ most ∧ clampQ most ≤ 4096 := by unfold clampQ; split <;> (try split) <;> omega
theorem new_isQ (m : Int) (w : World) : IsQ ((w.alloc (.map #[] 0)).alloc (.cells #[.int .i64 m, .slice none 0 0, .map (some w.heap.size), .int .i64 0] 149)) (w.heap.size + 1) m 0 [] (.slice none 0 0) w.heap.size := by
  refine ⟨?_, ⟨rfl, .inl ⟨rfl, rfl⟩⟩, ?_, List.Pairwise.nil, List.Pairwise.nil, by simp, by simp [Value.ownBlock], by simp [Value.ownBlock], by omega⟩
  · have := World.alloc_heap_new (w.alloc (.map #[] 0)) (.cells #[.int .i64 m, .slice none 0 0, .map (some w.heap.size), .int .i64 0] 149)
    rwa [World.size_alloc] at this
  · exact ⟨.map [], (World.ownsMap_made w Tryz.prog 3 (plainElem Tryz.prog 2)).alloc _, Keeps.empty⟩

set_option maxRecDepth 100000 in
set_option maxHeartbeats 2000000 in
theorem qnew_c (most : Int) (w : World) :
    Calls Tryz.prog 69 #[.int .i64 most] w fun e w' => e = .returned (.pointer (some ⟨w.heap.size + 1, 0, none⟩)) ∧ IsQ w' (w.heap.size + 1) (clampQ most) 0 [] (.slice none 0 0) w.heap.size ∧ Below w.heap.size w w' := by
  have POST : ∀ m, Hid (IsQ ((w.alloc (.map #[] 0)).alloc (.cells #[.int .i64 m, .slice none 0 0, .map (some w.heap.size), .int .i64 0] 149)) (w.heap.size + 1) m 0 [] (.slice none 0 0) w.heap.size ∧ Below w.heap.size w ((w.alloc (.map #[] 0)).alloc (.cells #[.int .i64 m, .slice none 0 0, .map (some w.heap.size), .int .i64 0] 149))) := fun m => Lib.hid ⟨new_isQ m w, ((Below.refl _ w).alloc (Nat.le_refl _) _).alloc (by simp) _⟩
  have hmm := @run_makeMap Tryz.prog
  by_cases h1 : most < 1
  · have e : clampQ most = 1 := by unfold clampQ; rw [if_pos h1]
    rw [e]
    go_enter Tryz.func69, Tryz.ntmps69
    go_wp2
    go_ret
    exact ⟨rfl, (POST 1).out⟩
  · by_cases h2 : 4096 < most
    · have e : clampQ most = 4096 := by unfold clampQ; rw [if_neg h1, if_pos h2]
      rw [e]
      go_enter Tryz.func69, Tryz.ntmps69
      go_wp2
      go_ret
      exact ⟨rfl, (POST 4096).out⟩
    · have e : clampQ most = most := by unfold clampQ; rw [if_neg h1, if_neg h2]
      rw [e]
      go_enter Tryz.func69, Tryz.ntmps69
      go_wp2
      go_ret
      exact ⟨rfl, (POST most).out⟩

set_option maxRecDepth 100000 in
set_option maxHeartbeats 2000000 in
theorem qdrop_no (b mp : Nat) (most s : Int) (v : Value) (L : List QI) (id : Int) (w : World) (hq : IsQ w b most s L v mp) (hi : wf64 id) (hn : ∀ z ∈ L, z.2 ≠ id) :
    Calls Tryz.prog 83 #[.pointer (some ⟨b, 0, none⟩), .int .i64 id] w fun e w' => e = .returned (.tuple #[.agg #[.int .i64 0, .int .i64 0], .bool false]) ∧ Below w.heap.size w w' := by
  have hbw := hq.box.lt
  have hb1 : Below w.heap.size w (w.alloc (.cells #[.int .i64 0, .int .i64 0] 136)) := (Below.refl _ w).alloc (Nat.le_refl _) _
  have hnew : (w.alloc (.cells #[.int .i64 0, .int .i64 0] 136)).heap[w.heap.size]? = some (.cells #[.int .i64 0, .int .i64 0] 136 (0, 0)) := World.alloc_heap_new _ _
  have c2 : w.cell? ⟨b, 2, none⟩ = some (.map (some mp)) := by simp [World.cell?, show w.heap[b]? = _ from hq.box]
  have hl := (isQ_below hq hb1).map.look' hq.dist id hi
  rw [keyV_no hn] at hl
  have HB := Lib.hid hb1
  have HN := Lib.hid hnew
  clear hq hb1 hnew hi hn
  go_enter Tryz.func83, Tryz.ntmps83
  go_wp2
  refine bodyPost_ret (item_results _ 4 5 rfl _ w.heap.size #[.int .i64 0, .int .i64 0] false _ rfl rfl rfl HN.out) rfl ?_
  exact ⟨rfl, HB.out⟩

set_option maxRecDepth 100000 in
set_option maxHeartbeats 2000000 in
theorem qdrop_yes (b mp : Nat) (most s : Int) (v : Value) (L : List QI) (x : QI) (i B : Nat) (w : World) (hq : IsQ w b most s L v mp) (hx : L[i]? = some x) (hL : L.length ≤ 1000000) (hB : L.length < 2 ^ B) (hB' : B ≤ 1000) (hs : 0 ≤ s) (hs' : s < 2305843009213693952) :
    Calls Tryz.prog 83 #[.pointer (some ⟨b, 0, none⟩), .int .i64 x.2] w fun e w' => e = .returned (.tuple #[.agg #[.int .i64 x.1, .int .i64 x.2], .bool true]) ∧ QPost b mp most s v (L.eraseIdx i) (B + 1) w w' := by
  have hbw := hq.box.lt
  have hxm : x ∈ L := List.mem_of_getElem? hx
  have hi := (hq.wf x hxm).2
  have hb1 : Below w.heap.size w (w.alloc (.cells #[.int .i64 0, .int .i64 0] 136)) := (Below.refl _ w).alloc (Nat.le_refl _) _
  have c2 : w.cell? ⟨b, 2, none⟩ = some (.map (some mp)) := by simp [World.cell?, show w.heap[b]? = _ from hq.box]
  have hl := (isQ_below hq hb1).map.look' hq.dist x.2 hi
  rw [keyV_yes hq.dist hxm] at hl
  obtain ⟨x0, x1⟩ := x
  simp only at hl hi
  obtain ⟨w2, hw2⟩ : ∃ w2, (w.alloc (.cells #[.int .i64 0, .int .i64 0] 136)).alloc (.cells #[.int .i64 x0, .int .i64 x1] 136) = w2 := ⟨_, rfl⟩
  have hb2 : Below w.heap.size w w2 := by rw [← hw2]; exact hb1.alloc (by simp) _
  have hs2 : w2.heap.size = w.heap.size + 2 := by rw [← hw2]; simp
  have hq2 := isQ_below hq hb2
  have e0 : w2.heap[w.heap.size]? = some (.cells #[.int .i64 0, .int .i64 0] 136 (0, 0)) := by
    rw [← hw2, Below.heap_alloc _ _ _ (by simp)]; exact World.alloc_heap_new _ _
  have e1 : w2.heap[w.heap.size + 1]? = some (.cells #[.int .i64 x0, .int .i64 x1] 136 (0, 0)) := by
    rw [← hw2]
    have := World.alloc_heap_new (w.alloc (.cells #[.int .i64 0, .int .i64 0] 136)) (.cells #[.int .i64 x0, .int .i64 x1] 136)
    rwa [World.size_alloc] at this
  have KR : Hid (Calls Tryz.prog 94 #[.pointer (some ⟨b, 0, none⟩), .agg #[.int .i64 x0, .int .i64 x1]] w2 fun e w' => (∃ u, e = .returned u) ∧ QPost b mp most s v (L.eraseIdx i) (B + 1) w2 w' ∧
      w'.heap[w.heap.size]? = some (.cells #[.int .i64 0, .int .i64 0] 136 (0, 0)) ∧ w'.heap[w.heap.size + 1]? = some (.cells #[.int .i64 x0, .int .i64 x1] 136 (0, 0))) :=
    Lib.hid ((remove_c b mp most s v L (x0, x1) i B w2 hq2 hx hL hB hB' hs hs').mono (fun e w' ⟨hu, v', k, h1, h2, h3⟩ => ⟨hu, ⟨v', k, h1, h2, h3⟩,
      (h3.block _ (by omega) (fun h => by have := hq.lt _ h; omega)).trans e0, (h3.block _ (by omega) (fun h => by have := hq.lt _ h; omega)).trans e1⟩))
  have y0 : w2.cell? ⟨w.heap.size + 1, 0, none⟩ = some (.int .i64 x0) := by simp [World.cell?, e1]
  have y1 : w2.cell? ⟨w.heap.size + 1, 1, none⟩ = some (.int .i64 x1) := by simp [World.cell?, e1]
  have HQ := Lib.hid hq
  have HB2 := Lib.hid hb2
  have HS2 := Lib.hid hs2
  clear hq hb1 hi hxm hx hB hq2 e0 e1 hb2 hs2
  go_enter Tryz.func83, Tryz.ntmps83
  go_wp2_with fail
  refine (KR.out).mono ?_
  rintro e w' ⟨⟨u, rfl⟩, hP, e0, e1⟩
  have HP := Lib.hid hP
  have d0 : w'.cell? ⟨w.heap.size + 1, 0, none⟩ = some (.int .i64 x0) := by simp [World.cell?, e1]
  have d1 : w'.cell? ⟨w.heap.size + 1, 1, none⟩ = some (.int .i64 x1) := by simp [World.cell?, e1]
  have r0 : w'.cell? ⟨w.heap.size, 0, none⟩ = some (.int .i64 0) := by simp [World.cell?, e0]
  have r1 : w'.cell? ⟨w.heap.size, 1, none⟩ = some (.int .i64 0) := by simp [World.cell?, e0]
  have f0 : w'.frozen? ⟨w.heap.size, 0, none⟩ = false := by simp [World.frozen?, e0]
  have f1 : w'.frozen? ⟨w.heap.size, 1, none⟩ = false := by simp [World.frozen?, e0]
  have HE := Lib.hid e0
  clear hP e0 e1
  go_wp2_with fail
  refine bodyPost_ret (item_results _ 4 5 rfl _ w.heap.size #[.int .i64 x0, .int .i64 x1] true _ rfl rfl rfl (set2_same _ _ HE.out)) rfl ?_
  obtain ⟨v', k, h1, h2, h3⟩ := HP.out
  have hs2 := HS2.out
  have hb2 := HB2.out
  have hout : ∀ j, QOf b v' mp j → j ≠ w.heap.size := fun j hj e => by
    subst e
    rcases h3.sub _ hj with h | h
    · have := HQ.out.lt _ h; omega
    · omega
  refine ⟨rfl, v', k, h1, h2.keep (fun j hj => set2_other _ _ (hout j hj)), ?_⟩
  refine ⟨h3.os.trans hb2.os, h3.tape.trans hb2.tape, h3.output.trans hb2.output, ?_, fun j hj hn => ?_, fun j hj => ?_, fun j hj => ?_⟩
  · show _ ≤ (set2 w' _ _ _).heap.size; rw [set2_size]; have := h3.size; omega
  · exact (set2_other _ _ (by omega)).trans ((h3.block j (by omega) hn).trans (hb2.block j hj))
  · rcases h3.sub j hj with h | h
    · exact .inl h
    · exact .inr (by omega)
  · show _ < (set2 w' _ _ _).heap.size; rw [set2_size]; exact h3.bd j hj

set_option maxRecDepth 100000 in
set_option maxHeartbeats 2000000 in
theorem qset_no (b mp : Nat) (most s : Int) (v : Value) (L : List QI) (id key : Int) (w : World) (hq : IsQ w b most s L v mp) (hi : wf64 id) (hn : ∀ z ∈ L, z.2 ≠ id) :
    Calls Tryz.prog 139 #[.pointer (some ⟨b, 0, none⟩), .int .i64 id, .int .i64 key] w fun e w' => e = .returned (.bool false) ∧ Below w.heap.size w w' := by
  have KD := Lib.hid (qdrop_no b mp most s v L id w hq hi hn)
  clear hq hi hn
  go_enter Tryz.func139, Tryz.ntmps139
  go_wp2_with (go_at_call 83; refine (KD.out).mono ?_; rintro e w1 ⟨rfl, hB⟩; have HB := Lib.hid hB; clear hB)
  go_ret
  exact ⟨rfl, HB.out.alloc HB.out.size _⟩

theorem erase_no {L : List QI} (hd : Dist L) {i : Nat} {x : QI} (hx : L[i]? = some x) : ∀ z ∈ L.eraseIdx i, z.2 ≠ x.2 := fun _z hz => ((mem_erase hd hx).1 hz).2
set_option maxRecDepth 100000 in
set_option maxHeartbeats 2000000 in
theorem qset_yes (b mp : Nat) (most s : Int) (v : Value) (L : List QI) (x : QI) (key : Int) (i B : Nat) (w : World) (hq : IsQ w b most s L v mp) (hx : L[i]? = some x) (hk : wf64 key) (hL : L.length ≤ 1000000) (hB : L.length < 2 ^ B) (hB' : B ≤ 1000) (hs : 0 ≤ s) (hs' : s < 2305843009213692000) :
    Calls Tryz.prog 139 #[.pointer (some ⟨b, 0, none⟩), .int .i64 x.2, .int .i64 key] w fun e w' => e = .returned (.bool true) ∧ QPost b mp most s v (insL (L.eraseIdx i) (key, x.2)) (2 * (B + 1)) w w' := by
  have hxm : x ∈ L := List.mem_of_getElem? hx
  have hi := (hq.wf x hxm).2
  have KD := Lib.hid (qdrop_yes b mp most s v L x i B w hq hx hL hB hB' hs (by omega))
  have hel : (L.eraseIdx i).length ≤ L.length := by rw [List.length_eraseIdx]; split <;> omega
  have KI : Hid (∀ (w1 : World) (v1 : Value) (k : Nat) (t : Obj), k ≤ B + 1 → IsQ w1 b most (s + (k : Int)) (L.eraseIdx i) v1 mp → Trip (QOf b v mp) w (QOf b v1 mp) w1 →
      Calls Tryz.prog 91 #[.pointer (some ⟨b, 0, none⟩), .agg #[.int .i64 key, .int .i64 x.2]] (w1.alloc t) fun e w' => (∃ u, e = .returned u) ∧ QPost b mp most s v (insL (L.eraseIdx i) (key, x.2)) (2 * (B + 1)) w w') := Lib.hid (fun w1 v1 k t hkB h1 h2 => by
    have hbel : Below w1.heap.size w1 (w1.alloc t) := (Below.refl _ w1).alloc (Nat.le_refl _) _
    refine (insert_c b mp most (s + k) v1 (L.eraseIdx i) (key, x.2) B (w1.alloc t) (isQ_below h1 hbel) (fun z hz => erase_no hq.dist hx z hz) hk hi (by omega) (by omega) hB' (by omega) (by omega)).mono ?_
    rintro e w' ⟨hu, v', k', h3, h4, h5⟩
    refine ⟨hu, v', k + k', by omega, ?_, h2.trans ((trip_self h1 hbel).trans h5)⟩
    have e1 : s + ((k + k' : Nat) : Int) = s + (k : Int) + (k' : Int) := by omega
    rw [e1]
    exact h4)
  obtain ⟨x0, x1⟩ := x
  simp only at hi
  clear hq hx hB hxm hel hk hi
  go_enter Tryz.func139, Tryz.ntmps139
  go_wp2_with (first
    | (go_at_call 83; refine (KD.out).mono ?_; rintro e w1 ⟨rfl, hP⟩; have HP := Lib.hid hP; clear hP)
    | (go_at_call 91; obtain ⟨v1, k, g1, g2, g3⟩ := HP.out; refine (KI.out _ v1 k _ g1 g2 g3).mono ?_; rintro e w2 ⟨⟨u, rfl⟩, hP2⟩; have HP2 := Lib.hid hP2; clear hP2 g1 g2 g3))
  go_ret
  exact ⟨rfl, HP2.out⟩
end Go.Proofs.YtandmngfajoinaaGreat
