/- A queue and a row of the reference, side by side: what each act leaves. -/
import Derived.Test.YtaodkfnbmpbcfaaQg
import Derived.Test.YtaodkfnbmpbcfaaQc
namespace Go.Proofs.Ytaodkfnbmpbcfaa
open Go.RowKit

/-- A row's blocks. -/
def RowOf (rb : Nat) (u : Value) (k : Nat) : Prop := k = rb ∨ u.ownBlock = some k
/-- A queue with the list L, a row with the list R, both made since W; the blocks F are of neither. -/
def P2 (W w : World) (b rb : Nat) (most s : Int) (L : List QI) (R : List RI) (F : Nat → Prop) : Prop :=
  ∃ v mp u, IsQ w b most s L v mp ∧ IsRow w rb most u R ∧ (∀ k, QOf b v mp k → W.heap.size ≤ k) ∧ (∀ k, RowOf rb u k → W.heap.size ≤ k ∧ k < w.heap.size ∧ ¬ QOf b v mp k) ∧ Below W.heap.size W w ∧ ∀ k, F k → k < w.heap.size ∧ ¬ QOf b v mp k ∧ ¬ RowOf rb u k
theorem P2.frame {W w : World} {b rb : Nat} {most s : Int} {L : List QI} {R : List RI} {F : Nat → Prop} (h : P2 W w b rb most s L R F) : Below W.heap.size W w := by
  obtain ⟨_, _, _, _, _, _, _, h5, _⟩ := h
  exact h5
theorem P2.more {W w w' : World} {b rb : Nat} {most s : Int} {L : List QI} {R : List RI} {F G : Nat → Prop} (h : P2 W w b rb most s L R F) (hb : Below w.heap.size w w') (hG : ∀ k, G k → F k ∨ (w.heap.size ≤ k ∧ k < w'.heap.size)) : P2 W w' b rb most s L R G := by
  obtain ⟨v, mp, u, h1, h2, h3, h4, h5, h6⟩ := h
  have hs := hb.size
  refine ⟨v, mp, u, isQ_below h1 hb, below_row h2 hb, h3, fun k hk => ⟨(h4 k hk).1, by have := (h4 k hk).2.1; omega, (h4 k hk).2.2⟩, h5.trans (hb.mono h5.size), fun k hk => ?_⟩
  rcases hG k hk with h | h
  · exact ⟨by have := (h6 k h).1; omega, (h6 k h).2⟩
  · exact ⟨h.2, fun hq => by have := h1.lt k hq; omega, fun hr => by have := (h4 k hr).2.1; omega⟩
theorem P2.below {W w w' : World} {b rb : Nat} {most s : Int} {L : List QI} {R : List RI} {F : Nat → Prop} (h : P2 W w b rb most s L R F) (hb : Below w.heap.size w w') : P2 W w' b rb most s L R F := h.more hb (fun _ h => .inl h)
theorem P2.ord {W w : World} {b rb : Nat} {most s : Int} {L : List QI} {R : List RI} {F : Nat → Prop} (h : P2 W w b rb most s L R F) : Ord L ∧ Dist L := by
  obtain ⟨_, _, _, h1, _⟩ := h
  exact ⟨h1.ord, h1.dist⟩
/-- Behind an act of the queue. -/
theorem P2.queue {W w w' : World} {b rb mp K : Nat} {most s : Int} {v u : Value} {L' : List QI} {R : List RI} {F : Nat → Prop} (hP : QPost b mp most s v L' K w w') (h2 : IsRow w rb most u R) (h3 : ∀ k, QOf b v mp k → W.heap.size ≤ k) (h4 : ∀ k, RowOf rb u k → W.heap.size ≤ k ∧ k < w.heap.size ∧ ¬ QOf b v mp k) (h5 : Below W.heap.size W w) (h6 : ∀ k, F k → k < w.heap.size ∧ ¬ QOf b v mp k ∧ ¬ RowOf rb u k) :
    ∃ k : Nat, k ≤ K ∧ P2 W w' b rb most (s + (k : Int)) L' R F ∧ ∀ k, F k → w'.heap[k]? = w.heap[k]? := by
  obtain ⟨v', k, hk, hq, ht⟩ := hP
  have hs := ht.size
  have hn : ∀ j, j < w.heap.size → ¬ QOf b v mp j → ¬ QOf b v' mp j := fun j hj hnq hq' => by
    rcases ht.sub j hq' with h | h
    · exact hnq h
    · omega
  refine ⟨k, hk, ⟨v', mp, u, hq, h2.keep (fun j hj => ht.block j (h4 j hj).2.1 (h4 j hj).2.2), fun j hj => ?_, fun j hj => ⟨(h4 j hj).1, by have := (h4 j hj).2.1; omega, hn j (h4 j hj).2.1 (h4 j hj).2.2⟩, h5.trans (ht.below h3 h5.size), fun j hj => ⟨by have := (h6 j hj).1; omega, hn j (h6 j hj).1 (h6 j hj).2.1, (h6 j hj).2.2⟩⟩, fun j hj => ht.block j (h6 j hj).1 (h6 j hj).2.1⟩
  rcases ht.sub j hj with h | h
  · exact h3 j h
  · have := h5.size; omega
/-- Behind an act of the row. -/
theorem P2.row {W w w' : World} {b rb : Nat} {most s : Int} {L : List QI} {R' : List RI} {F : Nat → Prop} {v u u' : Value} {mp : Nat} (h1 : IsQ w b most s L v mp) (hr : IsRow w' rb most u' R') (hn : ∀ j, u'.ownBlock = some j → u.ownBlock = some j ∨ w.heap.size ≤ j) (ht : Trip (fun j => j = rb) w (fun j => j = rb) w')
    (h3 : ∀ k, QOf b v mp k → W.heap.size ≤ k) (h4 : ∀ k, RowOf rb u k → W.heap.size ≤ k ∧ k < w.heap.size ∧ ¬ QOf b v mp k) (h5 : Below W.heap.size W w) (h6 : ∀ k, F k → k < w.heap.size ∧ ¬ QOf b v mp k ∧ ¬ RowOf rb u k) :
    P2 W w' b rb most s L R' F ∧ ∀ k, F k → w'.heap[k]? = w.heap[k]? := by
  have hs := ht.size
  have hw := h5.size
  have hrb := h4 rb (.inl rfl)
  have hr4 : ∀ k, RowOf rb u' k → RowOf rb u k ∨ w.heap.size ≤ k := fun k hk => by
    rcases hk with h | h
    · exact .inl (.inl h)
    · exact (hn k h).imp (fun h => .inr h) id
  refine ⟨⟨v, mp, u', h1.keep (fun k hk => ht.block k (h1.lt k hk) (fun e => hrb.2.2 (e ▸ hk))), hr, h3, fun k hk => ?_, h5.trans (ht.below (fun k hk => by rw [hk]; exact hrb.1) hw), fun k hk => ?_⟩, fun k hk => ht.block k (h6 k hk).1 (fun e => (h6 k hk).2.2 (.inl e))⟩
  · have hlt : k < w'.heap.size := by
      rcases hk with rfl | h
      · exact ht.bd _ rfl
      · exact (World.ownsRow.lt hr.2.1 k h).2
    rcases hr4 k hk with h | h
    · exact ⟨(h4 k h).1, hlt, (h4 k h).2.2⟩
    · exact ⟨by omega, hlt, fun hq => by have := h1.lt k hq; omega⟩
  · refine ⟨by have := (h6 k hk).1; omega, (h6 k hk).2.1, fun hr' => ?_⟩
    rcases hr4 k hr' with h | h
    · exact (h6 k hk).2.2 h
    · have := (h6 k hk).1; omega

/-- What an act of the queue leaves. -/
def P2Q (W w : World) (b rb : Nat) (most s : Int) (K : Nat) (L' : List QI) (R : List RI) (F : Nat → Prop) (w' : World) : Prop := ∃ k : Nat, k ≤ K ∧ P2 W w' b rb most (s + (k : Int)) L' R F ∧ ∀ k, F k → w'.heap[k]? = w.heap[k]?
theorem p2put {W w : World} {b rb : Nat} {most s : Int} {L : List QI} {R : List RI} {F : Nat → Prop} (x : QI) (B : Nat) (h : P2 W w b rb most s L R F) (hk : wf64 x.1) (hi : wf64 x.2) (hL : L.length ≤ 1000000) (hB : L.length < 2 ^ B) (hB' : B ≤ 1000) (hs : 0 ≤ s) (hs' : s < 2305843009213693952) :
    Calls Try.prog 8 #[.pointer (some ⟨b, 0, none⟩), .int .i64 x.1, .int .i64 x.2] w fun e w' => e = .returned (.int .i64 (putV most L x).1) ∧ P2Q W w b rb most s (B + 1) (putV most L x).2 R F w' := by
  obtain ⟨v, mp, u, h1, h2, h3, h4, h5, h6⟩ := h
  refine (qput_c b mp most s v L x B w h1 hk hi hL hB hB' hs hs').mono ?_
  rintro e w' ⟨rfl, hP⟩
  exact ⟨rfl, P2.queue hP h2 h3 h4 h5 h6⟩
theorem p2drop {W w : World} {b rb : Nat} {most s : Int} {L : List QI} {R : List RI} {F : Nat → Prop} {x : QI} {i : Nat} (B : Nat) (h : P2 W w b rb most s L R F) (hx : L[i]? = some x) (hL : L.length ≤ 1000000) (hB : L.length < 2 ^ B) (hB' : B ≤ 1000) (hs : 0 ≤ s) (hs' : s < 2305843009213693952) :
    Calls Try.prog 10 #[.pointer (some ⟨b, 0, none⟩), .int .i64 x.2] w fun e w' => e = .returned (.tuple #[.agg #[.int .i64 x.1, .int .i64 x.2], .bool true]) ∧ P2Q W w b rb most s (B + 1) (L.eraseIdx i) R F w' := by
  obtain ⟨v, mp, u, h1, h2, h3, h4, h5, h6⟩ := h
  refine (qdrop_yes b mp most s v L x i B w h1 hx hL hB hB' hs hs').mono ?_
  rintro e w' ⟨rfl, hP⟩
  exact ⟨rfl, P2.queue hP h2 h3 h4 h5 h6⟩
theorem p2drop_no {W w : World} {b rb : Nat} {most s : Int} {L : List QI} {R : List RI} {F : Nat → Prop} {id : Int} (h : P2 W w b rb most s L R F) (hi : wf64 id) (hn : ∀ z ∈ L, z.2 ≠ id) :
    Calls Try.prog 10 #[.pointer (some ⟨b, 0, none⟩), .int .i64 id] w fun e w' => e = .returned (.tuple #[.agg #[.int .i64 0, .int .i64 0], .bool false]) ∧ P2 W w' b rb most s L R F ∧ Below w.heap.size w w' := by
  have h' := h
  obtain ⟨v, mp, u, h1, _⟩ := h
  refine (qdrop_no b mp most s v L id w h1 hi hn).mono ?_
  rintro e w' ⟨rfl, hP⟩
  exact ⟨rfl, h'.below hP, hP⟩
theorem p2set {W w : World} {b rb : Nat} {most s : Int} {L : List QI} {R : List RI} {F : Nat → Prop} {x : QI} {i : Nat} (key : Int) (B : Nat) (h : P2 W w b rb most s L R F) (hx : L[i]? = some x) (hk : wf64 key) (hL : L.length ≤ 1000000) (hB : L.length < 2 ^ B) (hB' : B ≤ 1000) (hs : 0 ≤ s) (hs' : s < 2305843009213692000) :
    Calls Try.prog 12 #[.pointer (some ⟨b, 0, none⟩), .int .i64 x.2, .int .i64 key] w fun e w' => e = .returned (.bool true) ∧ P2Q W w b rb most s (2 * (B + 1)) (insL (L.eraseIdx i) (key, x.2)) R F w' := by
  obtain ⟨v, mp, u, h1, h2, h3, h4, h5, h6⟩ := h
  refine (qset_yes b mp most s v L x key i B w h1 hx hk hL hB hB' hs hs').mono ?_
  rintro e w' ⟨rfl, hP⟩
  exact ⟨rfl, P2.queue hP h2 h3 h4 h5 h6⟩
theorem p2set_no {W w : World} {b rb : Nat} {most s : Int} {L : List QI} {R : List RI} {F : Nat → Prop} {id : Int} (key : Int) (h : P2 W w b rb most s L R F) (hi : wf64 id) (hn : ∀ z ∈ L, z.2 ≠ id) :
    Calls Try.prog 12 #[.pointer (some ⟨b, 0, none⟩), .int .i64 id, .int .i64 key] w fun e w' => e = .returned (.bool false) ∧ P2 W w' b rb most s L R F ∧ Below w.heap.size w w' := by
  have h' := h
  obtain ⟨v, mp, u, h1, _⟩ := h
  refine (qset_no b mp most s v L id key w h1 hi hn).mono ?_
  rintro e w' ⟨rfl, hP⟩
  exact ⟨rfl, h'.below hP, hP⟩
theorem p2min {W w : World} {b rb : Nat} {most s : Int} {L : List QI} {R : List RI} {F : Nat → Prop} (h : P2 W w b rb most s L R F) (hL : L.length ≤ 1000000) :
    Calls Try.prog 13 #[.pointer (some ⟨b, 0, none⟩)] w fun e w' => e = .returned (.tuple #[.agg #[.int .i64 (minV L).1.1, .int .i64 (minV L).1.2], .bool (minV L).2]) ∧ P2 W w' b rb most s L R F ∧ Below w.heap.size w w' := by
  have h' := h
  obtain ⟨v, mp, u, h1, _⟩ := h
  refine (qmin_c b mp most s v L w h1 hL).mono ?_
  rintro e w' ⟨rfl, hP⟩
  exact ⟨rfl, h'.below hP, hP⟩
theorem p2len {W w : World} {b rb : Nat} {most s : Int} {L : List QI} {R : List RI} {F : Nat → Prop} (h : P2 W w b rb most s L R F) :
    Calls Try.prog 16 #[.pointer (some ⟨b, 0, none⟩)] w fun e w' => e = .returned (.int .i64 L.length) ∧ w = w' := by
  obtain ⟨v, mp, u, h1, _⟩ := h
  exact qlen_c b mp most s v L w h1
theorem p2steps {W w : World} {b rb : Nat} {most s : Int} {L : List QI} {R : List RI} {F : Nat → Prop} (h : P2 W w b rb most s L R F) :
    Calls Try.prog 7 #[.pointer (some ⟨b, 0, none⟩)] w fun e w' => e = .returned (.int .i64 s) ∧ w = w' := by
  obtain ⟨v, mp, u, h1, _⟩ := h
  exact qsteps_c b mp most s v L w h1
theorem p2key {W w : World} {b rb : Nat} {most s : Int} {L : List QI} {R : List RI} {F : Nat → Prop} {id : Int} (h : P2 W w b rb most s L R F) (hi : wf64 id) :
    Calls Try.prog 15 #[.pointer (some ⟨b, 0, none⟩), .int .i64 id] w fun e w' => e = .returned (.tuple #[.int .i64 (keyV L id).1, .bool (keyV L id).2]) ∧ w = w' := by
  obtain ⟨v, mp, u, h1, _⟩ := h
  exact qkey_c b mp most s v L id w h1 hi
theorem p2list {W w : World} {b rb : Nat} {most s : Int} {L : List QI} {R : List RI} {F : Nat → Prop} (h : P2 W w b rb most s L R F) (hL : L.length ≤ 1000000) :
    Calls Try.prog 18 #[.pointer (some ⟨b, 0, none⟩)] w fun e w' => ∃ v', e = .returned v' ∧ MadeQ w' w.heap.size v' L ∧ P2 W w' b rb most s L R F ∧ Below w.heap.size w w' := by
  have h' := h
  obtain ⟨v, mp, u, h1, _⟩ := h
  refine (qlist_c b mp most s v L w h1 hL).mono ?_
  rintro e w' ⟨v', rfl, hM, hP⟩
  exact ⟨v', rfl, hM, h'.below hP, hP⟩
theorem p2over {W w : World} {b rb : Nat} {most s : Int} {L : List QI} {R : List RI} {F : Nat → Prop} (key : Int) (h : P2 W w b rb most s L R F) (hL : L.length ≤ 1000000) :
    Calls Try.prog 19 #[.pointer (some ⟨b, 0, none⟩), .int .i64 key] w fun e w' => ∃ v', e = .returned v' ∧ MadeQ w' w.heap.size v' (overL L key) ∧ P2 W w' b rb most s L R F ∧ Below w.heap.size w w' := by
  have h' := h
  obtain ⟨v, mp, u, h1, _⟩ := h
  refine (qover_c b mp most s key v L w h1 hL).mono ?_
  rintro e w' ⟨v', rfl, hM, hP⟩
  exact ⟨v', rfl, hM, h'.below hP, hP⟩

theorem p2rput {W w : World} {b rb : Nat} {most s : Int} {L : List QI} {R : List RI} {F : Nat → Prop} (x : RI) (h : P2 W w b rb most s L R F) (hR : R.length ≤ 1000000) (hm : 0 < most) :
    Calls Try.prog 9 #[.pointer (some ⟨rb, 0, none⟩), .agg (encR x).toArray] w fun e w' => e = .returned (.int .i64 (putT most R x).1) ∧ P2 W w' b rb most s L (putT most R x).2 F ∧ ∀ k, F k → w'.heap[k]? = w.heap[k]? := by
  obtain ⟨v, mp, u, h1, h2, h3, h4, h5, h6⟩ := h
  refine (rowPut_c rb most x u R w h2 hR hm).mono ?_
  rintro e w' ⟨rfl, u', hr, hn, ht⟩
  exact ⟨rfl, P2.row h1 hr hn ht h3 h4 h5 h6⟩
theorem p2rdrop {W w : World} {b rb : Nat} {most s : Int} {L : List QI} {R : List RI} {F : Nat → Prop} {x : RI} {k : Nat} (id : Int) (h : P2 W w b rb most s L R F) (hR : R.length ≤ 1000000) (hk : atR id R 0 = (k : Int)) (hx : R[k]? = some x) :
    Calls Try.prog 11 #[.pointer (some ⟨rb, 0, none⟩), .int .i64 id] w fun e w' => e = .returned (.tuple #[.agg (encR x).toArray, .bool true]) ∧ P2 W w' b rb most s L (R.eraseIdx k) F ∧ ∀ k, F k → w'.heap[k]? = w.heap[k]? := by
  obtain ⟨v, mp, u, h1, h2, h3, h4, h5, h6⟩ := h
  refine (rowDrop_yes rb k most id x u R w h2 hR hk hx).mono ?_
  rintro e w' ⟨rfl, u', hr, hn, ht⟩
  exact ⟨rfl, P2.row h1 hr (fun j hj => .inr (hn j hj)) ht h3 h4 h5 h6⟩
theorem p2rdrop_no {W w : World} {b rb : Nat} {most s : Int} {L : List QI} {R : List RI} {F : Nat → Prop} (id : Int) (h : P2 W w b rb most s L R F) (hR : R.length ≤ 1000000) (hk : atR id R 0 = -1) :
    Calls Try.prog 11 #[.pointer (some ⟨rb, 0, none⟩), .int .i64 id] w fun e w' => e = .returned (.tuple #[.agg (encR (0, 0, 0)).toArray, .bool false]) ∧ P2 W w' b rb most s L R F ∧ ∀ k, F k → w'.heap[k]? = w.heap[k]? := by
  obtain ⟨v, mp, u, h1, h2, h3, h4, h5, h6⟩ := h
  refine (rowDrop_no rb most id u R w h2 hR hk).mono ?_
  rintro e w' ⟨rfl, hr, ht⟩
  exact ⟨rfl, P2.row h1 hr (fun j hj => .inl hj) ht h3 h4 h5 h6⟩
theorem p2rat {W w : World} {b rb : Nat} {most s : Int} {L : List QI} {R : List RI} {F : Nat → Prop} (id : Int) (h : P2 W w b rb most s L R F) (hR : R.length ≤ 1000000) :
    Calls Try.prog 14 #[.pointer (some ⟨rb, 0, none⟩), .int .i64 id] w fun e w' => e = .returned (.int .i64 (atR id R 0)) ∧ w = w' := by
  obtain ⟨v, mp, u, h1, h2, _⟩ := h
  exact rowAt_c rb most id u R w h2 hR
end Go.Proofs.Ytaodkfnbmpbcfaa
