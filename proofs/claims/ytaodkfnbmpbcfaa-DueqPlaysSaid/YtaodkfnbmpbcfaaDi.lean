/- Queues of deadlines that a law makes: one, with all its blocks new. -/
import Derived.Test.YtaodkfnbmpbcfaaDh
namespace Go.Proofs.Ytaodkfnbmpbcfaa
open Go.RowKit

/-- A queue of deadlines that was made since W, its steps at most S; the blocks F are none of its. -/
def DIn (W w : World) (d : Nat) (most : Int) (S : Nat) (T : List RI) (F : Nat → Prop) : Prop :=
  ∃ b m v mp s, IsD w d b m most s T v mp ∧ 0 ≤ s ∧ s ≤ (S : Int) ∧ (∀ k, DOf d b m v mp k → W.heap.size ≤ k) ∧ Below W.heap.size W w ∧ ∀ k, F k → k < w.heap.size ∧ ¬ DOf d b m v mp k
theorem DIn.frame {W w : World} {d : Nat} {most : Int} {S : Nat} {T : List RI} {F : Nat → Prop} (h : DIn W w d most S T F) : Below W.heap.size W w := by
  obtain ⟨_, _, _, _, _, _, _, _, _, h5, _⟩ := h
  exact h5
/-- What has been made since is none of its. -/
theorem DIn.more {W w w' : World} {d : Nat} {most : Int} {S : Nat} {T : List RI} {F G : Nat → Prop} (h : DIn W w d most S T F) (hb : Below w.heap.size w w') (hG : ∀ k, G k → F k ∨ (w.heap.size ≤ k ∧ k < w'.heap.size)) : DIn W w' d most S T G := by
  obtain ⟨b, m, v, mp, s, h1, h2, h3, h4, h5, h6⟩ := h
  refine ⟨b, m, v, mp, s, h1.below hb, h2, h3, h4, h5.trans (hb.mono h5.size), fun k hk => ?_⟩
  rcases hG k hk with h | h
  · exact ⟨by have := (h6 k h).1; have := hb.size; omega, (h6 k h).2⟩
  · exact ⟨h.2, fun hq => by have := h1.lt k hq; omega⟩
theorem DIn.below {W w w' : World} {d : Nat} {most : Int} {S : Nat} {T : List RI} {F : Nat → Prop} (h : DIn W w d most S T F) (hb : Below w.heap.size w w') : DIn W w' d most S T F := h.more hb (fun _ h => .inl h)
theorem DIn.alloc {W w : World} {d : Nat} {most : Int} {S : Nat} {T : List RI} {F : Nat → Prop} (h : DIn W w d most S T F) (o : Obj) : DIn W (w.alloc o) d most S T F := h.below ((Below.refl _ w).alloc (Nat.le_refl _) o)
theorem DIn.ord {W w : World} {d : Nat} {most : Int} {S : Nat} {T : List RI} {F : Nat → Prop} (h : DIn W w d most S T F) : Ord (qL T) ∧ Dist (qL T) := by
  obtain ⟨_, _, _, _, _, h1, _⟩ := h
  exact ⟨h1.q.ord, h1.q.dist⟩
theorem DIn.post {W w w' : World} {d b m mp : Nat} {most s : Int} {v : Value} {S K : Nat} {T' : List RI} {F : Nat → Prop} (hP : DPost d b m mp most s v T' K w w') (h0 : 0 ≤ s) (hS : s ≤ (S : Int)) (hN : ∀ k, DOf d b m v mp k → W.heap.size ≤ k) (hb : Below W.heap.size W w) (hF : ∀ k, F k → k < w.heap.size ∧ ¬ DOf d b m v mp k) :
    DIn W w' d most (S + K) T' F ∧ ∀ k, F k → w'.heap[k]? = w.heap[k]? := by
  obtain ⟨v', k, h1, h2, h3⟩ := hP
  refine ⟨⟨b, m, v', mp, s + k, h2, by omega, by omega, fun j hj => ?_, hb.trans (h3.below hN hb.size), fun j hj => ?_⟩, fun j hj => h3.block j (hF j hj).1 (hF j hj).2⟩
  · rcases h3.sub j hj with h | h
    · exact hN j h
    · have := hb.size; omega
  · have := (hF j hj).1
    refine ⟨by have := h3.size; omega, fun hq => ?_⟩
    rcases h3.sub j hq with h | h
    · exact (hF j hj).2 h
    · omega

/-- What New gives. -/
def MadeNew (W w w' : World) (most : Int) (F : Nat → Prop) (e : Ending) : Prop := ∃ d, e = .returned (.pointer (some ⟨d, 0, none⟩)) ∧ DIn W w' d most 0 [] F ∧ Below w.heap.size w w'
theorem dnew_in (W w : World) (hb : Below W.heap.size W w) (most : Int) (F : Nat → Prop) (hF : ∀ k, F k → k < w.heap.size) :
    Calls Try.prog 21 #[.int .i64 most] w fun e w' => MadeNew W w w' (clampQ most) F e := by
  refine (dnew_c most w).mono ?_
  rintro e w' ⟨d, b, m, v, mp, rfl, h1, h2, h3⟩
  have := hb.size
  have := h3.size
  exact ⟨d, rfl, ⟨b, m, v, mp, 0, h1, by omega, by omega, fun k hk => by have := h2 k hk; omega, hb.trans (h3.mono hb.size), fun k hk => ⟨by have := hF k hk; omega, fun hq => by have := h2 k hq; have := hF k hk; omega⟩⟩, h3⟩
theorem dput_in {W w : World} {d : Nat} {most : Int} {S : Nat} {T : List RI} {F : Nat → Prop} (r : RI) (h : DIn W w d most S T F) (h0 : wf64 r.1) (h1 : wf64 r.2.1) (h2 : wf64 r.2.2) (hL : T.length ≤ 1000000) (hS : S ≤ 1000000000) :
    Calls Try.prog 22 #[.pointer (some ⟨d, 0, none⟩), .int .i64 r.1, .int .i64 r.2.1, .int .i64 r.2.2] w fun e w' => e = .returned (.int .i64 (putT most T r).1) ∧ DIn W w' d most (S + 21) (putT most T r).2 F ∧ ∀ k, F k → w'.heap[k]? = w.heap[k]? := by
  obtain ⟨b, m, v, mp, s, g1, g2, g3, g4, g5, g6⟩ := h
  refine (dput_c d b m most s T v mp r 20 w g1 h0 h1 h2 hL (by omega) (by omega) g2 (by omega)).mono ?_
  rintro e w' ⟨rfl, hP⟩
  exact ⟨rfl, DIn.post hP g2 g3 g4 g5 g6⟩
theorem ddrop_in {W w : World} {d : Nat} {most : Int} {S : Nat} {T : List RI} {F : Nat → Prop} {r : RI} {i : Nat} (h : DIn W w d most S T F) (hi : T[i]? = some r) (hL : T.length ≤ 1000000) (hS : S ≤ 1000000000) :
    Calls Try.prog 23 #[.pointer (some ⟨d, 0, none⟩), .int .i64 r.2.2] w fun e w' => e = .returned (.tuple #[.agg (encR r).toArray, .bool true]) ∧ DIn W w' d most (S + 21) (T.eraseIdx i) F ∧ ∀ k, F k → w'.heap[k]? = w.heap[k]? := by
  obtain ⟨b, m, v, mp, s, g1, g2, g3, g4, g5, g6⟩ := h
  refine (ddrop_yes d b m most s T v mp r i 20 w g1 hi hL (by omega) (by omega) g2 (by omega)).mono ?_
  rintro e w' ⟨rfl, hP⟩
  exact ⟨rfl, DIn.post hP g2 g3 g4 g5 g6⟩
theorem ddrop_in_no {W w : World} {d : Nat} {most : Int} {S : Nat} {T : List RI} {F : Nat → Prop} {id : Int} (h : DIn W w d most S T F) (hi : wf64 id) (hn : ∀ z ∈ qL T, z.2 ≠ id) :
    Calls Try.prog 23 #[.pointer (some ⟨d, 0, none⟩), .int .i64 id] w fun e w' => e = .returned (.tuple #[.agg (encR (0, 0, 0)).toArray, .bool false]) ∧ DIn W w' d most S T F ∧ Below w.heap.size w w' := by
  have h' := h
  obtain ⟨b, m, v, mp, s, g1, _⟩ := h
  refine (ddrop_no d b m most s T v mp id w g1 hi hn).mono ?_
  rintro e w' ⟨rfl, hP⟩
  exact ⟨rfl, h'.below hP, hP⟩
theorem dset_in {W w : World} {d : Nat} {most : Int} {S : Nat} {T : List RI} {F : Nat → Prop} {r0 : RI} {i : Nat} (r : RI) (h : DIn W w d most S T F) (hi : T[i]? = some r0) (he : r0.2.2 = r.2.2) (h0 : wf64 r.1) (h1 : wf64 r.2.1) (hL : T.length ≤ 1000000) (hS : S ≤ 1000000000) :
    Calls Try.prog 24 #[.pointer (some ⟨d, 0, none⟩), .int .i64 r.2.2, .int .i64 r.1, .int .i64 r.2.1] w fun e w' => e = .returned (.bool true) ∧ DIn W w' d most (S + 42) (setT T i r) F ∧ ∀ k, F k → w'.heap[k]? = w.heap[k]? := by
  obtain ⟨b, m, v, mp, s, g1, g2, g3, g4, g5, g6⟩ := h
  refine (dset_yes d b m most s T v mp r r0 i 20 w g1 hi he h0 h1 hL (by omega) (by omega) g2 (by omega)).mono ?_
  rintro e w' ⟨rfl, hP⟩
  exact ⟨rfl, DIn.post hP g2 g3 g4 g5 g6⟩
theorem dset_in_no {W w : World} {d : Nat} {most : Int} {S : Nat} {T : List RI} {F : Nat → Prop} {id : Int} (key due : Int) (h : DIn W w d most S T F) (hi : wf64 id) (hn : ∀ z ∈ qL T, z.2 ≠ id) :
    Calls Try.prog 24 #[.pointer (some ⟨d, 0, none⟩), .int .i64 id, .int .i64 key, .int .i64 due] w fun e w' => e = .returned (.bool false) ∧ DIn W w' d most S T F ∧ Below w.heap.size w w' := by
  have h' := h
  obtain ⟨b, m, v, mp, s, g1, _⟩ := h
  refine (dset_no d b m most s T v mp id key due w g1 hi hn).mono ?_
  rintro e w' ⟨rfl, hP⟩
  exact ⟨rfl, h'.below hP, hP⟩
theorem dfirst_in {W w : World} {d : Nat} {most : Int} {S : Nat} {T : List RI} {F : Nat → Prop} (key : Int) (h : DIn W w d most S T F) (hL : T.length ≤ 1000000) :
    Calls Try.prog 25 #[.pointer (some ⟨d, 0, none⟩), .int .i64 key] w fun e w' => e = .returned (.tuple #[.agg (encR (optR (firstT key T)).1).toArray, .bool (optR (firstT key T)).2]) ∧ DIn W w' d most S T F ∧ Below w.heap.size w w' := by
  have h' := h
  obtain ⟨b, m, v, mp, s, g1, _⟩ := h
  refine (dfirst_c d b m most s T v mp key w g1 hL).mono ?_
  rintro e w' ⟨rfl, hP⟩
  exact ⟨rfl, h'.below hP, hP⟩
theorem dleast_in {W w : World} {d : Nat} {most : Int} {S : Nat} {T : List RI} {F : Nat → Prop} (h : DIn W w d most S T F) (hL : T.length ≤ 1000000) :
    Calls Try.prog 29 #[.pointer (some ⟨d, 0, none⟩)] w fun e w' => e = .returned (.tuple #[.agg (encR (minT T).1).toArray, .bool (minT T).2]) ∧ DIn W w' d most S T F ∧ Below w.heap.size w w' := by
  have h' := h
  obtain ⟨b, m, v, mp, s, g1, _⟩ := h
  refine (dleast_c d b m most s T v mp w g1 hL).mono ?_
  rintro e w' ⟨rfl, hP⟩
  exact ⟨rfl, h'.below hP, hP⟩
theorem dget_in {W w : World} {d : Nat} {most : Int} {S : Nat} {T : List RI} {F : Nat → Prop} {r : RI} (h : DIn W w d most S T F) (hr : r ∈ T) :
    Calls Try.prog 27 #[.pointer (some ⟨d, 0, none⟩), .int .i64 r.2.2] w fun e w' => e = .returned (.tuple #[.agg (encR r).toArray, .bool true]) ∧ DIn W w' d most S T F ∧ Below w.heap.size w w' := by
  have h' := h
  obtain ⟨b, m, v, mp, s, g1, _⟩ := h
  refine (dget_yes d b m most s T v mp r w g1 hr).mono ?_
  rintro e w' ⟨rfl, hP⟩
  exact ⟨rfl, h'.below hP, hP⟩
theorem dget_in_no {W w : World} {d : Nat} {most : Int} {S : Nat} {T : List RI} {F : Nat → Prop} {id : Int} (h : DIn W w d most S T F) (hi : wf64 id) (hn : ∀ z ∈ qL T, z.2 ≠ id) :
    Calls Try.prog 27 #[.pointer (some ⟨d, 0, none⟩), .int .i64 id] w fun e w' => e = .returned (.tuple #[.agg (encR (0, 0, 0)).toArray, .bool false]) ∧ DIn W w' d most S T F ∧ Below w.heap.size w w' := by
  have h' := h
  obtain ⟨b, m, v, mp, s, g1, _⟩ := h
  refine (dget_no d b m most s T v mp id w g1 hi hn).mono ?_
  rintro e w' ⟨rfl, hP⟩
  exact ⟨rfl, h'.below hP, hP⟩
theorem dlen_in {W w : World} {d : Nat} {most : Int} {S : Nat} {T : List RI} {F : Nat → Prop} (h : DIn W w d most S T F) :
    Calls Try.prog 28 #[.pointer (some ⟨d, 0, none⟩)] w fun e w' => e = .returned (.int .i64 T.length) ∧ w = w' := by
  obtain ⟨b, m, v, mp, s, g1, _⟩ := h
  exact dlen_c d b m most s T v mp w g1
theorem dlist_in {W w : World} {d : Nat} {most : Int} {S : Nat} {T : List RI} {F : Nat → Prop} (h : DIn W w d most S T F) (hL : T.length ≤ 1000000) :
    Calls Try.prog 31 #[.pointer (some ⟨d, 0, none⟩)] w fun e w' => ∃ v', e = .returned v' ∧ MadeD w' w.heap.size v' T ∧ DIn W w' d most S T F ∧ Below w.heap.size w w' := by
  have h' := h
  obtain ⟨b, m, v, mp, s, g1, _⟩ := h
  refine (dlist_c d b m most s T v mp w g1 hL).mono ?_
  rintro e w' ⟨v', rfl, hM, hP⟩
  exact ⟨v', rfl, hM, h'.below hP, hP⟩

set_option maxRecDepth 100000 in
set_option maxHeartbeats 2000000 in
/-- The law's own awake. -/
theorem awake5_c (w : World) : Calls Try.prog 20 #[] w fun e w' => e = .returned (.bool true) ∧ Below w.heap.size w w' := by
  go_enter Try.func20, Try.ntmps20
  go_wp2_with fail
  refine (dnew_in w w (Below.refl _ w) 4 (fun _ => False) (fun _ h => h.elim)).mono ?_
  rintro e w1 ⟨d, rfl, hq, _⟩
  have e4 : clampQ 4 = 4 := by decide
  rw [e4] at hq
  have H1 := Lib.hid hq
  clear hq e4
  go_wp2_with fail
  refine (dput_in (5, 1, 1) H1.out (by unfold wf64; decide) (by unfold wf64; decide) (by unfold wf64; decide) (by decide) (by decide)).mono ?_
  rintro e w2 ⟨rfl, hq, _⟩
  have ep : putT 4 [] (5, 1, 1) = (0, [(5, 1, 1)]) := by decide
  rw [ep] at hq ⊢
  have H2 := Lib.hid hq
  clear hq ep H1
  go_wp2_with fail
  refine (dput_in (3, 9, 2) H2.out (by unfold wf64; decide) (by unfold wf64; decide) (by unfold wf64; decide) (by decide) (by decide)).mono ?_
  rintro e w3 ⟨rfl, hq, _⟩
  have ep : putT 4 [(5, 1, 1)] (3, 9, 2) = (0, [(3, 9, 2), (5, 1, 1)]) := by decide
  rw [ep] at hq ⊢
  have H3 := Lib.hid hq
  clear hq ep H2
  go_wp2_with fail
  refine (dfirst_in 4 H3.out (by decide)).mono ?_
  rintro e w4 ⟨rfl, hq, _⟩
  have ep : optR (firstT 4 [(3, 9, 2), (5, 1, 1)]) = ((3, 9, 2), true) := by decide
  rw [ep]
  simp only [encR]
  have H4 := Lib.hid hq
  clear hq ep H3
  go_wp2_with fail
  refine (dfirst_in 5 (H4.out.alloc _) (by decide)).mono ?_
  rintro e w5 ⟨rfl, hq, hb⟩
  have ep : optR (firstT 5 [(3, 9, 2), (5, 1, 1)]) = ((5, 1, 1), true) := by decide
  rw [ep]
  simp only [encR]
  have hx : w5.heap[w4.heap.size]? = some (.cells #[.int .i64 3, .int .i64 9, .int .i64 2] 63 (0, 0)) := (hb.block _ (by simp)).trans (World.alloc_heap_new _ _)
  have x2 : w5.cell? ⟨w4.heap.size, 2, none⟩ = some (.int .i64 2) := by simp [World.cell?, hx]
  have hlt : w4.heap.size < w5.heap.size := (Array.getElem?_eq_some_iff.1 hx).1
  have H5 := Lib.hid hq
  clear hq ep H4 hb hx
  go_wp2_with fail
  go_ret
  exact ⟨rfl, (H5.out.alloc _).frame⟩
end Go.Proofs.Ytaodkfnbmpbcfaa
