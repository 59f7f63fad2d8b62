/- A queue of deadlines and a row side by side, beside boxes that the law keeps. -/
import Derived.Test.YtaodkfnbmpbcfaaPm
import Derived.Test.YtaodkfnbmpbcfaaDj
import Derived.Test.YtaodkfnbmpbcfaaQh
namespace Go.Proofs.Ytaodkfnbmpbcfaa
open Go.RowKit

def DF (rb : Nat) (u : Value) (l : List BX) (k : Nat) : Prop := RowOf rb u k ∨ InB l k
def DP (W w : World) (d rb : Nat) (most : Int) (S : Nat) (T R : List RI) (l : List BX) : Prop :=
  ∃ u, DIn W w d most S T (DF rb u l) ∧ IsRow w rb most u R ∧ (∀ k, RowOf rb u k → W.heap.size ≤ k ∧ k < w.heap.size ∧ ¬ InB l k) ∧ ∀ p ∈ l, w.heap[p.1]? = some (.cells p.2.1 p.2.2 (0, 0))
section
variable {W w w' : World} {d rb : Nat} {most : Int} {S : Nat} {T R : List RI} {l : List BX}
theorem inB_lt (h : ∀ p ∈ l, w.heap[p.1]? = some (.cells p.2.1 p.2.2 (0, 0))) {k : Nat} (hk : InB l k) : k < w.heap.size := by
  obtain ⟨p, hp, rfl⟩ := hk
  exact (Array.getElem?_eq_some_iff.1 (h p hp)).1
/-- Behind an act of the queue. -/
theorem DP.queue {S' : Nat} {T' : List RI} {u : Value} (h2 : IsRow w rb most u R) (h3 : ∀ k, RowOf rb u k → W.heap.size ≤ k ∧ k < w.heap.size ∧ ¬ InB l k) (h4 : ∀ p ∈ l, w.heap[p.1]? = some (.cells p.2.1 p.2.2 (0, 0)))
    (hD : DIn W w' d most S' T' (DF rb u l)) (hk : ∀ k, DF rb u l k → w'.heap[k]? = w.heap[k]?) : DP W w' d rb most S' T' R l := by
  refine ⟨u, hD, h2.keep (fun j hj => hk j (.inl hj)), fun k hr => ⟨(h3 k hr).1, ?_, (h3 k hr).2.2⟩, fun p hp => (hk p.1 (.inr ⟨p, hp, rfl⟩)).trans (h4 p hp)⟩
  obtain ⟨_, _, _, _, _, _, _, _, _, _, h6⟩ := hD
  exact (h6 k (.inl hr)).1
theorem DP.below (h : DP W w d rb most S T R l) (hb : Below w.heap.size w w') : DP W w' d rb most S T R l := by
  obtain ⟨u, h1, h2, h3, h4⟩ := h
  refine DP.queue h2 h3 h4 (h1.below hb) fun k hk => hb.block k ?_
  rcases hk with hk | hk
  · exact (h3 k hk).2.1
  · exact inB_lt h4 hk
theorem DP.drew (h : DP W w d rb most S T R l) : DP W w.drew d rb most S T R l := h.below ((Below.refl _ w).drew)
theorem DP.drewN (h : DP W w d rb most S T R l) (n : Nat) : DP W (w.drewN n) d rb most S T R l := h.below (below_drewN (Below.refl _ w) n)
theorem DP.push (h : DP W w d rb most S T R l) (cs : Array Value) (t : TypeId) : DP W (w.alloc (.cells cs t)) d rb most S T R ((w.heap.size, cs, t) :: l) := by
  obtain ⟨u, h1, h2, h3, h4⟩ := h
  have hb : Below w.heap.size w (w.alloc (.cells cs t)) := (Below.refl _ w).alloc (Nat.le_refl _) _
  refine ⟨u, h1.more hb (fun k hk => ?_), h2.alloc _, fun k hk => ⟨(h3 k hk).1, by have := (h3 k hk).2.1; simp; omega, ?_⟩, fun p hp => ?_⟩
  · rcases hk with hk | ⟨p, hp, rfl⟩
    · exact .inl (.inl hk)
    · rcases List.mem_cons.1 hp with rfl | hp
      · exact .inr ⟨Nat.le_refl _, by simp⟩
      · exact .inl (.inr ⟨p, hp, rfl⟩)
  · rintro ⟨p, hp, rfl⟩
    rcases List.mem_cons.1 hp with rfl | hp
    · have := (h3 _ hk).2.1; simp at this
    · exact (h3 _ hk).2.2 ⟨p, hp, rfl⟩
  · rcases List.mem_cons.1 hp with rfl | hp
    · exact World.alloc_heap_new _ _
    · exact (hb.block _ (inB_lt h4 ⟨p, hp, rfl⟩)).trans (h4 p hp)
theorem DP.less {l' : List BX} (h : DP W w d rb most S T R l) (hl : ∀ p ∈ l', p ∈ l) : DP W w d rb most S T R l' := by
  obtain ⟨u, h1, h2, h3, h4⟩ := h
  have hi : ∀ k, InB l' k → InB l k := fun k ⟨p, hp, e⟩ => ⟨p, hl p hp, e⟩
  exact ⟨u, h1.more (Below.refl _ w) (fun k hk => .inl (hk.imp id (hi k))), h2, fun k hk => ⟨(h3 k hk).1, (h3 k hk).2.1, fun h => (h3 k hk).2.2 (hi k h)⟩, fun p hp => h4 p (hl p hp)⟩
theorem DP.cell (h : DP W w d rb most S T R l) {r : Nat} {cs : Array Value} {t : TypeId} (hp : (r, cs, t) ∈ l) {i : Nat} {v : Value} (hv : cs[i]? = some v) : w.cell? ⟨r, i, none⟩ = some v := by
  obtain ⟨u, h1, h2, h3, h4⟩ := h
  have := h4 _ hp
  simp only at this
  simp [World.cell?, this, hv]
theorem DP.frame (h : DP W w d rb most S T R l) : Below W.heap.size W w := by
  obtain ⟨u, h1, _⟩ := h
  exact h1.frame
theorem DP.ord (h : DP W w d rb most S T R l) : Ord (qL T) ∧ Dist (qL T) := by
  obtain ⟨u, h1, _⟩ := h
  exact h1.ord
theorem DP.row (h : DP W w d rb most S T R l) : ∃ u, w.cell? ⟨rb, 1, none⟩ = some u ∧ RowV w u R := by
  obtain ⟨u, _, h2, _⟩ := h
  exact ⟨u, by simp [World.cell?, h2.1], h2.2.1⟩
theorem DP.rowv {v : Value} (h : DP W w d rb most S T R l) (hv : w.cell? ⟨rb, 1, none⟩ = some v) : RowV w v R := by
  obtain ⟨u, hu, hR⟩ := h.row
  rw [hv] at hu
  injection hu with hu
  subst hu
  exact hR
theorem DP.steps {S' : Nat} (h : DP W w d rb most S T R l) (hs : S ≤ S') : DP W w d rb most S' T R l := by
  obtain ⟨u, ⟨b, m, v, mp, s, g1, g2, g3, g4⟩, h2⟩ := h
  exact ⟨u, ⟨b, m, v, mp, s, g1, g2, by omega, g4⟩, h2⟩
/-- Behind an act of the row. -/
theorem DP.rowed {u u' : Value} {R' : List RI} (h1 : DIn W w d most S T (DF rb u l)) (h3 : ∀ k, RowOf rb u k → W.heap.size ≤ k ∧ k < w.heap.size ∧ ¬ InB l k) (h4 : ∀ p ∈ l, w.heap[p.1]? = some (.cells p.2.1 p.2.2 (0, 0)))
    (hr : IsRow w' rb most u' R') (hn : ∀ j, u'.ownBlock = some j → u.ownBlock = some j ∨ w.heap.size ≤ j) (ht : Trip (fun j => j = rb) w (fun j => j = rb) w') : DP W w' d rb most S T R' l := by
  obtain ⟨b, m, v, mp, s, g1, g2, g3, g4, g5, g6⟩ := h1
  have hs := ht.size
  have hrb := h3 rb (.inl rfl)
  have hrd := (g6 rb (.inl (.inl rfl))).2
  have hr4 : ∀ k, RowOf rb u' k → RowOf rb u k ∨ w.heap.size ≤ k := fun k hk => by
    rcases hk with h | h
    · exact .inl (.inl h)
    · exact (hn k h).imp (fun h => .inr h) id
  have hlt : ∀ k, RowOf rb u' k → k < w'.heap.size := fun k hk => by
    rcases hk with rfl | h
    · exact ht.bd _ rfl
    · exact (World.ownsRow.lt hr.2.1 k h).2
  have hW := g5.size
  refine ⟨u', ⟨b, m, v, mp, s, g1.keep (fun k hk => ht.block k (g1.lt k hk) (fun e => hrd (e ▸ hk))), g2, g3, g4, g5.trans (ht.below (fun k hk => by rw [hk]; exact hrb.1) hW), fun k hk => ?_⟩, hr, fun k hk => ?_, fun p hp => ?_⟩
  · rcases hk with hk | hk
    · refine ⟨hlt k hk, fun hd => ?_⟩
      rcases hr4 k hk with h | h
      · exact (g6 k (.inl h)).2 hd
      · have := g1.lt k hd; omega
    · exact ⟨by have := inB_lt h4 hk; omega, (g6 k (.inr hk)).2⟩
  · rcases hr4 k hk with h | h
    · exact ⟨(h3 k h).1, hlt k hk, (h3 k h).2.2⟩
    · exact ⟨by omega, hlt k hk, fun hb => by have := inB_lt h4 hb; omega⟩
  · refine (ht.block p.1 (inB_lt h4 ⟨p, hp, rfl⟩) (fun e => hrb.2.2 ⟨p, hp, e⟩)).trans (h4 p hp)

theorem eput (x : RI) (h : DP W w d rb most S T R l) (h0 : wf64 x.1) (h1 : wf64 x.2.1) (h2 : wf64 x.2.2) (hL : T.length ≤ 1000000) (hS : S ≤ 1000000000) {ev : Int} {T' : List RI} (e : putT most T x = (ev, T')) :
    Calls Try.prog 22 #[.pointer (some ⟨d, 0, none⟩), .int .i64 x.1, .int .i64 x.2.1, .int .i64 x.2.2] w fun e w' => e = .returned (.int .i64 ev) ∧ DP W w' d rb most (S + 42) T' R l := by
  obtain ⟨u, g1, g2, g3, g4⟩ := h
  have := dput_in x g1 h0 h1 h2 hL hS
  rw [e] at this
  refine this.mono ?_
  rintro e w' ⟨rfl, hD, hk⟩
  exact ⟨rfl, (DP.queue g2 g3 g4 hD hk).steps (by omega)⟩
theorem edrop {x : RI} {i : Nat} (h : DP W w d rb most S T R l) (hx : T[i]? = some x) (hL : T.length ≤ 1000000) (hS : S ≤ 1000000000) :
    Calls Try.prog 23 #[.pointer (some ⟨d, 0, none⟩), .int .i64 x.2.2] w fun e w' => e = .returned (.tuple #[.agg #[.int .i64 x.1, .int .i64 x.2.1, .int .i64 x.2.2], .bool true]) ∧ DP W w' d rb most (S + 42) (T.eraseIdx i) R l := by
  obtain ⟨u, g1, g2, g3, g4⟩ := h
  refine (ddrop_in g1 hx hL hS).mono ?_
  rintro e w' ⟨rfl, hD, hk⟩
  exact ⟨rfl, (DP.queue g2 g3 g4 hD hk).steps (by omega)⟩
theorem edrop_no {id : Int} (h : DP W w d rb most S T R l) (hi : wf64 id) (hn : atR id T 0 = -1) :
    Calls Try.prog 23 #[.pointer (some ⟨d, 0, none⟩), .int .i64 id] w fun e w' => e = .returned (.tuple #[.agg #[.int .i64 0, .int .i64 0, .int .i64 0], .bool false]) ∧ DP W w' d rb most S T R l := by
  have h' := h
  obtain ⟨u, g1, _⟩ := h
  refine (ddrop_in_no g1 hi (none_qL hn)).mono ?_
  rintro e w' ⟨rfl, _, hb⟩
  exact ⟨rfl, h'.below hb⟩
theorem eset {x : RI} {i : Nat} (key due : Int) (h : DP W w d rb most S T R l) (hx : T[i]? = some x) (h0 : wf64 key) (h1 : wf64 due) (hL : T.length ≤ 1000000) (hS : S ≤ 1000000000) :
    Calls Try.prog 24 #[.pointer (some ⟨d, 0, none⟩), .int .i64 x.2.2, .int .i64 key, .int .i64 due] w fun e w' => e = .returned (.bool true) ∧ DP W w' d rb most (S + 42) (insT (T.eraseIdx i) (key, due, x.2.2)) R l := by
  obtain ⟨u, g1, g2, g3, g4⟩ := h
  refine (dset_in (key, due, x.2.2) g1 hx rfl h0 h1 hL hS).mono ?_
  rintro e w' ⟨rfl, hD, hk⟩
  exact ⟨rfl, DP.queue g2 g3 g4 hD hk⟩
theorem eset_no {id : Int} (key due : Int) (h : DP W w d rb most S T R l) (hi : wf64 id) (hn : atR id T 0 = -1) :
    Calls Try.prog 24 #[.pointer (some ⟨d, 0, none⟩), .int .i64 id, .int .i64 key, .int .i64 due] w fun e w' => e = .returned (.bool false) ∧ DP W w' d rb most S T R l := by
  have h' := h
  obtain ⟨u, g1, _⟩ := h
  refine (dset_in_no key due g1 hi (none_qL hn)).mono ?_
  rintro e w' ⟨rfl, _, hb⟩
  exact ⟨rfl, h'.below hb⟩
theorem efirst (key : Int) (h : DP W w d rb most S T R l) (hL : T.length ≤ 1000000) {x0 x1 x2 : Int} {c : Bool} (e : optR (firstT key T) = ((x0, x1, x2), c)) :
    Calls Try.prog 25 #[.pointer (some ⟨d, 0, none⟩), .int .i64 key] w fun e w' => e = .returned (.tuple #[.agg #[.int .i64 x0, .int .i64 x1, .int .i64 x2], .bool c]) ∧ DP W w' d rb most S T R l := by
  have h' := h
  obtain ⟨u, g1, _⟩ := h
  have := dfirst_in key g1 hL
  rw [e] at this
  refine this.mono ?_
  rintro e w' ⟨rfl, _, hb⟩
  exact ⟨rfl, h'.below hb⟩
theorem erfirst (key : Int) (h : DP W w d rb most S T T l) (hL : T.length ≤ 1000000) {x0 x1 x2 : Int} {c : Bool} (e : optR (firstT key T) = ((x0, x1, x2), c)) :
    Calls Try.prog 26 #[.pointer (some ⟨rb, 0, none⟩), .int .i64 key] w fun e w' => e = .returned (.tuple #[.agg #[.int .i64 x0, .int .i64 x1, .int .i64 x2], .bool c]) ∧ DP W w' d rb most S T T l := by
  have h' := h
  have ho := h.ord.1
  obtain ⟨u, g1, g2, _⟩ := h
  have := rowFirst_c rb most key u T w g2 hL
  rw [scan_first ho, e] at this
  refine this.mono ?_
  rintro e w' ⟨rfl, hb⟩
  exact ⟨rfl, h'.below hb⟩
theorem eget {r : RI} (h : DP W w d rb most S T R l) (hr : r ∈ T) :
    Calls Try.prog 27 #[.pointer (some ⟨d, 0, none⟩), .int .i64 r.2.2] w fun e w' => e = .returned (.tuple #[.agg #[.int .i64 r.1, .int .i64 r.2.1, .int .i64 r.2.2], .bool true]) ∧ DP W w' d rb most S T R l := by
  have h' := h
  obtain ⟨u, g1, _⟩ := h
  refine (dget_in g1 hr).mono ?_
  rintro e w' ⟨rfl, _, hb⟩
  exact ⟨rfl, h'.below hb⟩
theorem eget_no {id : Int} (h : DP W w d rb most S T R l) (hi : wf64 id) (hn : atR id T 0 = -1) :
    Calls Try.prog 27 #[.pointer (some ⟨d, 0, none⟩), .int .i64 id] w fun e w' => e = .returned (.tuple #[.agg #[.int .i64 0, .int .i64 0, .int .i64 0], .bool false]) ∧ DP W w' d rb most S T R l := by
  have h' := h
  obtain ⟨u, g1, _⟩ := h
  refine (dget_in_no g1 hi (none_qL hn)).mono ?_
  rintro e w' ⟨rfl, _, hb⟩
  exact ⟨rfl, h'.below hb⟩
theorem eleast (h : DP W w d rb most S T R l) (hL : T.length ≤ 1000000) {x0 x1 x2 : Int} {c : Bool} (e : minT T = ((x0, x1, x2), c)) :
    Calls Try.prog 29 #[.pointer (some ⟨d, 0, none⟩)] w fun e w' => e = .returned (.tuple #[.agg #[.int .i64 x0, .int .i64 x1, .int .i64 x2], .bool c]) ∧ DP W w' d rb most S T R l := by
  have h' := h
  obtain ⟨u, g1, _⟩ := h
  have := dleast_in g1 hL
  rw [e] at this
  refine this.mono ?_
  rintro e w' ⟨rfl, _, hb⟩
  exact ⟨rfl, h'.below hb⟩
theorem elen (h : DP W w d rb most S T R l) :
    Calls Try.prog 28 #[.pointer (some ⟨d, 0, none⟩)] w fun e w' => e = .returned (.int .i64 T.length) ∧ w = w' := by
  obtain ⟨u, g1, _⟩ := h
  exact dlen_in g1
theorem elist (h : DP W w d rb most S T R l) (hL : T.length ≤ 1000000) :
    Calls Try.prog 31 #[.pointer (some ⟨d, 0, none⟩)] w fun e w' => ∃ v', e = .returned v' ∧ MadeD w' w.heap.size v' T ∧ DP W w' d rb most S T R l ∧ Below w.heap.size w w' := by
  have h' := h
  obtain ⟨u, g1, _⟩ := h
  refine (dlist_in g1 hL).mono ?_
  rintro e w' ⟨v', rfl, hM, _, hb⟩
  exact ⟨v', rfl, hM, h'.below hb, hb⟩
theorem erput (x : RI) (h : DP W w d rb most S T R l) (hR : R.length ≤ 1000000) (hm : 0 < most) {ev : Int} {R' : List RI} (e : putT most R x = (ev, R')) :
    Calls Try.prog 9 #[.pointer (some ⟨rb, 0, none⟩), .agg #[.int .i64 x.1, .int .i64 x.2.1, .int .i64 x.2.2]] w fun e w' => e = .returned (.int .i64 ev) ∧ DP W w' d rb most S T R' l := by
  obtain ⟨u, g1, g2, g3, g4⟩ := h
  have := rowPut_c rb most x u R w g2 hR hm
  rw [e] at this
  refine this.mono ?_
  rintro e w' ⟨rfl, u', hr, hn, ht⟩
  exact ⟨rfl, DP.rowed g1 g3 g4 hr hn ht⟩
theorem erdrop {x : RI} {k : Nat} (id : Int) (h : DP W w d rb most S T R l) (hR : R.length ≤ 1000000) (hk : atR id R 0 = (k : Int)) (hx : R[k]? = some x) :
    Calls Try.prog 11 #[.pointer (some ⟨rb, 0, none⟩), .int .i64 id] w fun e w' => e = .returned (.tuple #[.agg #[.int .i64 x.1, .int .i64 x.2.1, .int .i64 x.2.2], .bool true]) ∧ DP W w' d rb most S T (R.eraseIdx k) l := by
  obtain ⟨u, g1, g2, g3, g4⟩ := h
  refine (rowDrop_yes rb k most id x u R w g2 hR hk hx).mono ?_
  rintro e w' ⟨rfl, u', hr, hn, ht⟩
  exact ⟨rfl, DP.rowed g1 g3 g4 hr (fun j hj => .inr (hn j hj)) ht⟩
theorem erdrop_no (id : Int) (h : DP W w d rb most S T R l) (hR : R.length ≤ 1000000) (hk : atR id R 0 = -1) :
    Calls Try.prog 11 #[.pointer (some ⟨rb, 0, none⟩), .int .i64 id] w fun e w' => e = .returned (.tuple #[.agg #[.int .i64 0, .int .i64 0, .int .i64 0], .bool false]) ∧ DP W w' d rb most S T R l := by
  obtain ⟨u, g1, g2, g3, g4⟩ := h
  refine (rowDrop_no rb most id u R w g2 hR hk).mono ?_
  rintro e w' ⟨rfl, hr, ht⟩
  exact ⟨rfl, DP.rowed g1 g3 g4 hr (fun j hj => .inl hj) ht⟩
theorem erat (id : Int) (h : DP W w d rb most S T R l) (hR : R.length ≤ 1000000) :
    Calls Try.prog 14 #[.pointer (some ⟨rb, 0, none⟩), .int .i64 id] w fun e w' => e = .returned (.int .i64 (atR id R 0)) ∧ w = w' := by
  obtain ⟨u, g1, g2, _⟩ := h
  exact rowAt_c rb most id u R w g2 hR
theorem putT_again' {most : Int} {i : Nat} {x : RI} (hd : Dist (qL R)) (hx : R[i]? = some x) (hm : (R.length : Int) ≤ most) (key due : Int) : putT most (R.eraseIdx i) (key, due, x.2.2) = (0, insT (R.eraseIdx i) (key, due, x.2.2)) := by
  have hlt := (List.getElem?_eq_some_iff.1 hx).1
  unfold putT
  have h1 : keyV (qL (R.eraseIdx i)) x.2.2 = (0, false) := by
    refine keyV_no fun z hz => ?_
    rw [qL_erase] at hz
    exact ((mem_erase hd (qL_get hx)).1 hz).2
  simp only [h1, Bool.false_eq_true, if_false]
  rw [if_neg (by rw [List.length_eraseIdx, if_pos hlt]; omega)]
end
end Go.Proofs.Ytaodkfnbmpbcfaa
