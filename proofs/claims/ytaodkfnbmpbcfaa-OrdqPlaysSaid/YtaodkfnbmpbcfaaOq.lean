/- Queues that a law makes: one, with all its blocks new. -/
import Derived.Test.YtaodkfnbmpbcfaaOo
namespace Go.Proofs.Ytaodkfnbmpbcfaa
open Go.RowKit

/-- A queue that was made since W, its steps at most S; the blocks F are none of its. -/
def QIn (W w : World) (b : Nat) (most : Int) (S : Nat) (L : List QI) (F : Nat → Prop) : Prop :=
  ∃ v mp s, IsQ w b most s L v mp ∧ 0 ≤ s ∧ s ≤ (S : Int) ∧ (∀ k, QOf b v mp k → W.heap.size ≤ k) ∧ Below W.heap.size W w ∧ ∀ k, F k → k < w.heap.size ∧ ¬ QOf b v mp k
theorem QIn.below {W w w' : World} {b : Nat} {most : Int} {S : Nat} {L : List QI} {F : Nat → Prop} (h : QIn W w b most S L F) (hb : Below w.heap.size w w') : QIn W w' b most S L F := by
  obtain ⟨v, mp, s, h1, h2, h3, h4, h5, h6⟩ := h
  exact ⟨v, mp, s, isQ_below h1 hb, h2, h3, h4, h5.trans (hb.mono h5.size), fun k hk => ⟨by have := (h6 k hk).1; have := hb.size; omega, (h6 k hk).2⟩⟩
/-- What has been made since is none of its. -/
theorem QIn.more {W w w' : World} {b : Nat} {most : Int} {S : Nat} {L : List QI} {F G : Nat → Prop} (h : QIn W w b most S L F) (hb : Below w.heap.size w w') (hG : ∀ k, G k → F k ∨ (w.heap.size ≤ k ∧ k < w'.heap.size)) : QIn W w' b most S L G := by
  obtain ⟨v, mp, s, h1, h2, h3, h4, h5, h6⟩ := h
  refine ⟨v, mp, s, isQ_below h1 hb, h2, h3, h4, h5.trans (hb.mono h5.size), fun k hk => ?_⟩
  rcases hG k hk with h | h
  · exact ⟨by have := (h6 k h).1; have := hb.size; omega, (h6 k h).2⟩
  · exact ⟨h.2, fun hq => by have := h1.lt k hq; omega⟩
theorem QIn.frame {W w : World} {b : Nat} {most : Int} {S : Nat} {L : List QI} {F : Nat → Prop} (h : QIn W w b most S L F) : Below W.heap.size W w := by
  obtain ⟨_, _, _, _, _, _, _, h5, _⟩ := h
  exact h5
theorem QIn.alloc {W w : World} {b : Nat} {most : Int} {S : Nat} {L : List QI} {F : Nat → Prop} (h : QIn W w b most S L F) (o : Obj) : QIn W (w.alloc o) b most S L F := h.below ((Below.refl _ w).alloc (Nat.le_refl _) o)
theorem QIn.drew {W w : World} {b : Nat} {most : Int} {S : Nat} {L : List QI} {F : Nat → Prop} (h : QIn W w b most S L F) : QIn W w.drew b most S L F := h.below (Below.refl _ w).drew
theorem QIn.ord {W w : World} {b : Nat} {most : Int} {S : Nat} {L : List QI} {F : Nat → Prop} (h : QIn W w b most S L F) : Ord L ∧ Dist L := by
  obtain ⟨_, _, _, h1, _⟩ := h
  exact ⟨h1.ord, h1.dist⟩
theorem QIn.post {W w w' : World} {b mp : Nat} {most s : Int} {v : Value} {S K : Nat} {L' : List QI} {F : Nat → Prop} (hP : QPost b mp most s v L' K w w') (h0 : 0 ≤ s) (hS : s ≤ (S : Int)) (hN : ∀ k, QOf b v mp k → W.heap.size ≤ k) (hb : Below W.heap.size W w) (hF : ∀ k, F k → k < w.heap.size ∧ ¬ QOf b v mp k) :
    QIn W w' b most (S + K) L' F ∧ ∀ k, F k → w'.heap[k]? = w.heap[k]? := by
  obtain ⟨v', k, h1, h2, h3⟩ := hP
  refine ⟨⟨v', mp, s + k, h2, by omega, by omega, fun j hj => ?_, hb.trans (h3.below hN hb.size), fun j hj => ?_⟩, fun j hj => h3.block j (hF j hj).1 (hF j hj).2⟩
  · rcases h3.sub j hj with h | h
    · exact hN j h
    · have := hb.size; omega
  · have := (hF j hj).1
    refine ⟨by have := h3.size; omega, fun hq => ?_⟩
    rcases h3.sub j hq with h | h
    · exact (hF j hj).2 h
    · omega

theorem qnew_in (W w : World) (hb : Below W.heap.size W w) (most : Int) (F : Nat → Prop) (hF : ∀ k, F k → k < w.heap.size) :
    Calls Try.prog 6 #[.int .i64 most] w fun e w' => e = .returned (.pointer (some ⟨w.heap.size + 1, 0, none⟩)) ∧ QIn W w' (w.heap.size + 1) (clampQ most) 0 [] F ∧ Below w.heap.size w w' := by
  refine (qnew_c most w).mono ?_
  rintro e w' ⟨rfl, h1, h2⟩
  have := hb.size
  refine ⟨rfl, ⟨_, _, 0, h1, by omega, by omega, fun k hk => ?_, hb.trans (h2.mono this), fun k hk => ?_⟩, h2⟩
  · rcases hk with rfl | rfl | h
    · omega
    · omega
    · simp [Value.ownBlock] at h
  · have h3 := hF k hk
    have := h2.size
    refine ⟨by omega, fun hq => ?_⟩
    rcases hq with rfl | rfl | h
    · omega
    · omega
    · simp [Value.ownBlock] at h
theorem qput_in {W w : World} {b : Nat} {most : Int} {S : Nat} {L : List QI} {F : Nat → Prop} (x : QI) (h : QIn W w b most S L F) (hk : wf64 x.1) (hi : wf64 x.2) (hL : L.length ≤ 1000000) (hS : S ≤ 1000000000) :
    Calls Try.prog 8 #[.pointer (some ⟨b, 0, none⟩), .int .i64 x.1, .int .i64 x.2] w fun e w' => e = .returned (.int .i64 (putV most L x).1) ∧ QIn W w' b most (S + 21) (putV most L x).2 F ∧ ∀ k, F k → w'.heap[k]? = w.heap[k]? := by
  obtain ⟨v, mp, s, h1, h2, h3, h4, h5, h6⟩ := h
  refine (qput_c b mp most s v L x 20 w h1 hk hi hL (by omega) (by omega) h2 (by omega)).mono ?_
  rintro e w' ⟨rfl, hP⟩
  exact ⟨rfl, QIn.post hP h2 h3 h4 h5 h6⟩
theorem qdrop_in {W w : World} {b : Nat} {most : Int} {S : Nat} {L : List QI} {F : Nat → Prop} {x : QI} {i : Nat} (h : QIn W w b most S L F) (hx : L[i]? = some x) (hL : L.length ≤ 1000000) (hS : S ≤ 1000000000) :
    Calls Try.prog 10 #[.pointer (some ⟨b, 0, none⟩), .int .i64 x.2] w fun e w' => e = .returned (.tuple #[.agg #[.int .i64 x.1, .int .i64 x.2], .bool true]) ∧ QIn W w' b most (S + 21) (L.eraseIdx i) F ∧ ∀ k, F k → w'.heap[k]? = w.heap[k]? := by
  obtain ⟨v, mp, s, h1, h2, h3, h4, h5, h6⟩ := h
  refine (qdrop_yes b mp most s v L x i 20 w h1 hx hL (by omega) (by omega) h2 (by omega)).mono ?_
  rintro e w' ⟨rfl, hP⟩
  exact ⟨rfl, QIn.post hP h2 h3 h4 h5 h6⟩
theorem qdrop_in_no {W w : World} {b : Nat} {most : Int} {S : Nat} {L : List QI} {F : Nat → Prop} {id : Int} (h : QIn W w b most S L F) (hi : wf64 id) (hn : ∀ z ∈ L, z.2 ≠ id) :
    Calls Try.prog 10 #[.pointer (some ⟨b, 0, none⟩), .int .i64 id] w fun e w' => e = .returned (.tuple #[.agg #[.int .i64 0, .int .i64 0], .bool false]) ∧ QIn W w' b most S L F ∧ Below w.heap.size w w' := by
  have h' := h
  obtain ⟨v, mp, s, h1, h2, h3, h4, h5, h6⟩ := h
  refine (qdrop_no b mp most s v L id w h1 hi hn).mono ?_
  rintro e w' ⟨rfl, hP⟩
  exact ⟨rfl, h'.below hP, hP⟩
theorem qset_in {W w : World} {b : Nat} {most : Int} {S : Nat} {L : List QI} {F : Nat → Prop} {x : QI} {i : Nat} (key : Int) (h : QIn W w b most S L F) (hx : L[i]? = some x) (hk : wf64 key) (hL : L.length ≤ 1000000) (hS : S ≤ 1000000000) :
    Calls Try.prog 12 #[.pointer (some ⟨b, 0, none⟩), .int .i64 x.2, .int .i64 key] w fun e w' => e = .returned (.bool true) ∧ QIn W w' b most (S + 42) (insL (L.eraseIdx i) (key, x.2)) F ∧ ∀ k, F k → w'.heap[k]? = w.heap[k]? := by
  obtain ⟨v, mp, s, h1, h2, h3, h4, h5, h6⟩ := h
  refine (qset_yes b mp most s v L x key i 20 w h1 hx hk hL (by omega) (by omega) h2 (by omega)).mono ?_
  rintro e w' ⟨rfl, hP⟩
  exact ⟨rfl, QIn.post hP h2 h3 h4 h5 h6⟩
theorem qset_in_no {W w : World} {b : Nat} {most : Int} {S : Nat} {L : List QI} {F : Nat → Prop} {id : Int} (key : Int) (h : QIn W w b most S L F) (hi : wf64 id) (hn : ∀ z ∈ L, z.2 ≠ id) :
    Calls Try.prog 12 #[.pointer (some ⟨b, 0, none⟩), .int .i64 id, .int .i64 key] w fun e w' => e = .returned (.bool false) ∧ QIn W w' b most S L F ∧ Below w.heap.size w w' := by
  have h' := h
  obtain ⟨v, mp, s, h1, h2, h3, h4, h5, h6⟩ := h
  refine (qset_no b mp most s v L id key w h1 hi hn).mono ?_
  rintro e w' ⟨rfl, hP⟩
  exact ⟨rfl, h'.below hP, hP⟩
theorem qmin_in {W w : World} {b : Nat} {most : Int} {S : Nat} {L : List QI} {F : Nat → Prop} (h : QIn W w b most S L F) (hL : L.length ≤ 1000000) :
    Calls Try.prog 13 #[.pointer (some ⟨b, 0, none⟩)] w fun e w' => e = .returned (.tuple #[.agg #[.int .i64 (minV L).1.1, .int .i64 (minV L).1.2], .bool (minV L).2]) ∧ QIn W w' b most S L F ∧ Below w.heap.size w w' := by
  have h' := h
  obtain ⟨v, mp, s, h1, _⟩ := h
  refine (qmin_c b mp most s v L w h1 hL).mono ?_
  rintro e w' ⟨rfl, hP⟩
  exact ⟨rfl, h'.below hP, hP⟩
theorem qlen_in {W w : World} {b : Nat} {most : Int} {S : Nat} {L : List QI} {F : Nat → Prop} (h : QIn W w b most S L F) :
    Calls Try.prog 16 #[.pointer (some ⟨b, 0, none⟩)] w fun e w' => e = .returned (.int .i64 L.length) ∧ w = w' := by
  obtain ⟨v, mp, s, h1, _⟩ := h
  exact qlen_c b mp most s v L w h1
theorem qkey_in {W w : World} {b : Nat} {most : Int} {S : Nat} {L : List QI} {F : Nat → Prop} {id : Int} (h : QIn W w b most S L F) (hi : wf64 id) :
    Calls Try.prog 15 #[.pointer (some ⟨b, 0, none⟩), .int .i64 id] w fun e w' => e = .returned (.tuple #[.int .i64 (keyV L id).1, .bool (keyV L id).2]) ∧ w = w' := by
  obtain ⟨v, mp, s, h1, _⟩ := h
  exact qkey_c b mp most s v L id w h1 hi
theorem qlist_in {W w : World} {b : Nat} {most : Int} {S : Nat} {L : List QI} {F : Nat → Prop} (h : QIn W w b most S L F) (hL : L.length ≤ 1000000) :
    Calls Try.prog 18 #[.pointer (some ⟨b, 0, none⟩)] w fun e w' => ∃ v', e = .returned v' ∧ MadeQ w' w.heap.size v' L ∧ QIn W w' b most S L F ∧ Below w.heap.size w w' := by
  have h' := h
  obtain ⟨v, mp, s, h1, _⟩ := h
  refine (qlist_c b mp most s v L w h1 hL).mono ?_
  rintro e w' ⟨v', rfl, hM, hP⟩
  exact ⟨v', rfl, hM, h'.below hP, hP⟩
theorem qover_in {W w : World} {b : Nat} {most : Int} {S : Nat} {L : List QI} {F : Nat → Prop} (key : Int) (h : QIn W w b most S L F) (hL : L.length ≤ 1000000) :
    Calls Try.prog 19 #[.pointer (some ⟨b, 0, none⟩), .int .i64 key] w fun e w' => ∃ v', e = .returned v' ∧ MadeQ w' w.heap.size v' (overL L key) ∧ QIn W w' b most S L F ∧ Below w.heap.size w w' := by
  have h' := h
  obtain ⟨v, mp, s, h1, _⟩ := h
  refine (qover_c b mp most s key v L w h1 hL).mono ?_
  rintro e w' ⟨v', rfl, hM, hP⟩
  exact ⟨v', rfl, hM, h'.below hP, hP⟩

set_option maxRecDepth 100000 in
set_option maxHeartbeats 2000000 in
/-- The law's own awake. -/
theorem awake4_c (w : World) : Calls Try.prog 5 #[] w fun e w' => e = .returned (.bool true) ∧ Below w.heap.size w w' := by
  go_enter Try.func5, Try.ntmps5
  go_wp2_with fail
  refine (qnew_in w w (Below.refl _ w) 4 (fun _ => False) (fun _ h => h.elim)).mono ?_
  rintro e w1 ⟨rfl, hq, _⟩
  have e4 : clampQ 4 = 4 := by decide
  rw [e4] at hq
  have H1 := Lib.hid hq
  clear hq e4
  go_wp2_with fail
  refine (qput_in (5, 1) H1.out (by unfold wf64; decide) (by unfold wf64; decide) (by decide) (by decide)).mono ?_
  rintro e w2 ⟨rfl, hq, _⟩
  have ep : putV 4 [] (5, 1) = (0, [(5, 1)]) := by decide
  rw [ep] at hq ⊢
  have H2 := Lib.hid hq
  clear hq ep H1
  go_wp2_with fail
  refine (qput_in (3, 2) H2.out (by unfold wf64; decide) (by unfold wf64; decide) (by decide) (by decide)).mono ?_
  rintro e w3 ⟨rfl, hq, _⟩
  have ep : putV 4 [(5, 1)] (3, 2) = (0, [(3, 2), (5, 1)]) := by decide
  rw [ep] at hq ⊢
  have H3 := Lib.hid hq
  clear hq ep H2
  go_wp2_with fail
  refine (qmin_in H3.out (by decide)).mono ?_
  rintro e w4 ⟨rfl, hq, hb⟩
  simp only [minV]
  have H4 := Lib.hid hq
  clear hq hb H3
  go_wp2_with fail
  refine (qlen_in (H4.out.alloc _)).mono ?_
  rintro e w5 ⟨rfl, rfl⟩
  go_wp2_with fail
  go_ret
  exact ⟨rfl, (H4.out.alloc _).frame⟩
end Go.Proofs.Ytaodkfnbmpbcfaa
