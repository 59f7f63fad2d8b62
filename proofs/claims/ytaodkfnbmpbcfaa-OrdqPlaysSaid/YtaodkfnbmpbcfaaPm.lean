/- A queue and a row side by side, beside boxes that the law keeps. -/
import Derived.Test.YtaodkfnbmpbcfaaPl
import Derived.Test.YtaodkfnbmpbcfaaOr
import Derived.Test.YtaodkfnbmpbcfaaFrame
namespace Go.Proofs.Ytaodkfnbmpbcfaa
open Go.RowKit

/-- A box: its block, what it holds, of what type. -/
abbrev BX := Nat × Array Value × TypeId
def InB (l : List BX) (k : Nat) : Prop := ∃ p ∈ l, p.1 = k
def PB (W w : World) (b rb : Nat) (most s : Int) (L : List QI) (R : List RI) (l : List BX) : Prop :=
  P2 W w b rb most s L R (InB l) ∧ ∀ p ∈ l, w.heap[p.1]? = some (.cells p.2.1 p.2.2 (0, 0))
section
variable {W w w' : World} {b rb : Nat} {most s : Int} {L : List QI} {R : List RI} {l : List BX}
theorem PB.same {s' : Int} {L' : List QI} {R' : List RI} (h : PB W w b rb most s L R l) (hP : P2 W w' b rb most s' L' R' (InB l)) (hk : ∀ k, InB l k → w'.heap[k]? = w.heap[k]?) : PB W w' b rb most s' L' R' l :=
  ⟨hP, fun p hp => (hk p.1 ⟨p, hp, rfl⟩).trans (h.2 p hp)⟩
theorem PB.lt (h : PB W w b rb most s L R l) {k : Nat} (hk : InB l k) : k < w.heap.size := by
  obtain ⟨p, hp, rfl⟩ := hk
  exact (Array.getElem?_eq_some_iff.1 (h.2 p hp)).1
theorem PB.below (h : PB W w b rb most s L R l) (hb : Below w.heap.size w w') : PB W w' b rb most s L R l := h.same (h.1.below hb) fun k hk => hb.block k (h.lt hk)
theorem PB.drew (h : PB W w b rb most s L R l) : PB W w.drew b rb most s L R l := h.below ((Below.refl _ w).drew)
theorem PB.drewN (h : PB W w b rb most s L R l) (n : Nat) : PB W (w.drewN n) b rb most s L R l := h.below (below_drewN (Below.refl _ w) n)
theorem PB.push (h : PB W w b rb most s L R l) (cs : Array Value) (t : TypeId) : PB W (w.alloc (.cells cs t)) b rb most s L R ((w.heap.size, cs, t) :: l) := by
  have hb : Below w.heap.size w (w.alloc (.cells cs t)) := (Below.refl _ w).alloc (Nat.le_refl _) _
  refine ⟨h.1.more hb fun k hk => ?_, fun p hp => ?_⟩
  · obtain ⟨p, hp, rfl⟩ := hk
    rcases List.mem_cons.1 hp with rfl | hp
    · exact .inr ⟨Nat.le_refl _, by simp⟩
    · exact .inl ⟨p, hp, rfl⟩
  · rcases List.mem_cons.1 hp with rfl | hp
    · exact World.alloc_heap_new _ _
    · exact (h.below hb).2 p hp
theorem PB.less {l' : List BX} (h : PB W w b rb most s L R l) (hl : ∀ p ∈ l', p ∈ l) : PB W w b rb most s L R l' :=
  ⟨h.1.more (Below.refl _ w) (fun k hk => .inl (by obtain ⟨p, hp, rfl⟩ := hk; exact ⟨p, hl p hp, rfl⟩)), fun p hp => h.2 p (hl p hp)⟩
theorem PB.cell (h : PB W w b rb most s L R l) {r : Nat} {cs : Array Value} {t : TypeId} (hp : (r, cs, t) ∈ l) {i : Nat} {v : Value} (hv : cs[i]? = some v) : w.cell? ⟨r, i, none⟩ = some v := by
  have := h.2 _ hp
  simp only at this
  simp [World.cell?, this, hv]
theorem PB.frame (h : PB W w b rb most s L R l) : Below W.heap.size W w := h.1.frame
theorem PB.row (h : PB W w b rb most s L R l) : ∃ u, w.cell? ⟨rb, 1, none⟩ = some u ∧ RowV w u R := by
  obtain ⟨v, mp, u, h1, h2, _⟩ := h.1
  exact ⟨u, by simp [World.cell?, h2.1], h2.2.1⟩

theorem PB.sub {v : Value} (h : PB W w b rb most s L R l) (hv : w.cell? ⟨rb, 1, none⟩ = some v) : RSub w v R := by
  obtain ⟨u, hu, hR⟩ := h.row
  rw [hv] at hu
  injection hu with hu
  subst hu
  exact hR.sub
theorem PB.rowv {v : Value} (h : PB W w b rb most s L R l) (hv : w.cell? ⟨rb, 1, none⟩ = some v) : RowV w v R := by
  obtain ⟨u, hu, hR⟩ := h.row
  rw [hv] at hu
  injection hu with hu
  subst hu
  exact hR
theorem PB.two {p q : Addr} {u v : Value} (_ : PB W w' b rb most s L R l) (h : w.cell? p = some u ∧ w.cell? q = some v) (hb : Below w.heap.size w w') : w'.cell? p = some u ∧ w'.cell? q = some v :=
  ⟨(hb.cell (cell_lt h.1)).trans h.1, (hb.cell (cell_lt h.2)).trans h.2⟩
theorem bput (x : RI) (B : Nat) (h : PB W w b rb most s (qL R) R l) (hk : wf64 x.1) (hi : wf64 x.2.2) (hL : R.length ≤ 1000000) (hB : R.length < 2 ^ B) (hB' : B ≤ 1000) (hs : 0 ≤ s) (hs' : s < 2305843009213693952) :
    Calls Try.prog 8 #[.pointer (some ⟨b, 0, none⟩), .int .i64 x.1, .int .i64 x.2.2] w fun e w' => e = .returned (.int .i64 (putT most R x).1) ∧ ∃ k : Nat, k ≤ B + 1 ∧ PB W w' b rb most (s + (k : Int)) (qL (putT most R x).2) R l := by
  have := p2put (x.1, x.2.2) B h.1 hk hi (by rw [qL_length]; exact hL) (by rw [qL_length]; exact hB) hB' hs hs'
  rw [putT_V] at this
  refine this.mono ?_
  rintro e w' ⟨rfl, k, hk, hP, hF⟩
  exact ⟨rfl, k, hk, h.same hP hF⟩
theorem bdrop {x : RI} {i : Nat} (B : Nat) (h : PB W w b rb most s (qL R) R l) (hx : R[i]? = some x) (hL : R.length ≤ 1000000) (hB : R.length < 2 ^ B) (hB' : B ≤ 1000) (hs : 0 ≤ s) (hs' : s < 2305843009213693952) :
    Calls Try.prog 10 #[.pointer (some ⟨b, 0, none⟩), .int .i64 x.2.2] w fun e w' => e = .returned (.tuple #[.agg #[.int .i64 x.1, .int .i64 x.2.2], .bool true]) ∧ ∃ k : Nat, k ≤ B + 1 ∧ PB W w' b rb most (s + (k : Int)) (qL (R.eraseIdx i)) R l := by
  have := p2drop B h.1 (qL_get hx) (by rw [qL_length]; exact hL) (by rw [qL_length]; exact hB) hB' hs hs'
  rw [← qL_erase] at this
  refine this.mono ?_
  rintro e w' ⟨rfl, k, hk, hP, hF⟩
  exact ⟨rfl, k, hk, h.same hP hF⟩
theorem bset {x : RI} {i : Nat} (key : Int) (B : Nat) (h : PB W w b rb most s (qL R) R l) (hx : R[i]? = some x) (hk : wf64 key) (hL : R.length ≤ 1000000) (hB : R.length < 2 ^ B) (hB' : B ≤ 1000) (hs : 0 ≤ s) (hs' : s < 2305843009213692000) :
    Calls Try.prog 12 #[.pointer (some ⟨b, 0, none⟩), .int .i64 x.2.2, .int .i64 key] w fun e w' => e = .returned (.bool true) ∧ ∃ k : Nat, k ≤ 2 * (B + 1) ∧ PB W w' b rb most (s + (k : Int)) (qL (insT (R.eraseIdx i) (key, 0, x.2.2))) R l := by
  have := p2set key B h.1 (qL_get hx) hk (by rw [qL_length]; exact hL) (by rw [qL_length]; exact hB) hB' hs hs'
  rw [qL_ins, qL_erase]
  refine this.mono ?_
  rintro e w' ⟨rfl, k, hk, hP, hF⟩
  exact ⟨rfl, k, hk, h.same hP hF⟩
theorem none_qL {id : Int} (h : atR id R 0 = -1) : ∀ z ∈ qL R, z.2 ≠ id := by
  intro z hz
  unfold qL at hz
  obtain ⟨r, hr, rfl⟩ := List.mem_map.1 hz
  exact atR_none h r hr
theorem bdrop_no {id : Int} (h : PB W w b rb most s (qL R) R l) (hi : wf64 id) (hn : atR id R 0 = -1) :
    Calls Try.prog 10 #[.pointer (some ⟨b, 0, none⟩), .int .i64 id] w fun e w' => e = .returned (.tuple #[.agg #[.int .i64 0, .int .i64 0], .bool false]) ∧ PB W w' b rb most s (qL R) R l := by
  refine (p2drop_no h.1 hi (none_qL hn)).mono ?_
  rintro e w' ⟨rfl, hP, hb⟩
  exact ⟨rfl, h.below hb⟩
theorem bset_no {id : Int} (key : Int) (h : PB W w b rb most s (qL R) R l) (hi : wf64 id) (hn : atR id R 0 = -1) :
    Calls Try.prog 12 #[.pointer (some ⟨b, 0, none⟩), .int .i64 id, .int .i64 key] w fun e w' => e = .returned (.bool false) ∧ PB W w' b rb most s (qL R) R l := by
  refine (p2set_no key h.1 hi (none_qL hn)).mono ?_
  rintro e w' ⟨rfl, hP, hb⟩
  exact ⟨rfl, h.below hb⟩
theorem bmin (h : PB W w b rb most s (qL R) R l) (hL : R.length ≤ 1000000) {x y : Int} {c : Bool} (e : minV (qL R) = ((x, y), c)) :
    Calls Try.prog 13 #[.pointer (some ⟨b, 0, none⟩)] w fun e w' => e = .returned (.tuple #[.agg #[.int .i64 x, .int .i64 y], .bool c]) ∧ PB W w' b rb most s (qL R) R l := by
  have := p2min h.1 (by rw [qL_length]; exact hL)
  rw [e] at this
  refine this.mono ?_
  rintro e w' ⟨rfl, hP, hb⟩
  exact ⟨rfl, h.below hb⟩
theorem brput (x : RI) (h : PB W w b rb most s L R l) (hR : R.length ≤ 1000000) (hm : 0 < most) {ev : Int} {R' : List RI} (e : putT most R x = (ev, R')) :
    Calls Try.prog 9 #[.pointer (some ⟨rb, 0, none⟩), .agg #[.int .i64 x.1, .int .i64 x.2.1, .int .i64 x.2.2]] w fun e w' => e = .returned (.int .i64 ev) ∧ PB W w' b rb most s L R' l := by
  have := p2rput x h.1 hR hm
  rw [e] at this
  refine this.mono ?_
  rintro e w' ⟨rfl, hP, hF⟩
  exact ⟨rfl, h.same hP hF⟩
theorem brdrop {x : RI} {k : Nat} (id : Int) (h : PB W w b rb most s L R l) (hR : R.length ≤ 1000000) (hk : atR id R 0 = (k : Int)) (hx : R[k]? = some x) :
    Calls Try.prog 11 #[.pointer (some ⟨rb, 0, none⟩), .int .i64 id] w fun e w' => e = .returned (.tuple #[.agg #[.int .i64 x.1, .int .i64 x.2.1, .int .i64 x.2.2], .bool true]) ∧ PB W w' b rb most s L (R.eraseIdx k) l := by
  refine (p2rdrop id h.1 hR hk hx).mono ?_
  rintro e w' ⟨rfl, hP, hF⟩
  exact ⟨rfl, h.same hP hF⟩
theorem brdrop_no (id : Int) (h : PB W w b rb most s L R l) (hR : R.length ≤ 1000000) (hk : atR id R 0 = -1) :
    Calls Try.prog 11 #[.pointer (some ⟨rb, 0, none⟩), .int .i64 id] w fun e w' => e = .returned (.tuple #[.agg #[.int .i64 0, .int .i64 0, .int .i64 0], .bool false]) ∧ PB W w' b rb most s L R l := by
  refine (p2rdrop_no id h.1 hR hk).mono ?_
  rintro e w' ⟨rfl, hP, hF⟩
  exact ⟨rfl, h.same hP hF⟩
theorem putT_len (most : Int) (R : List RI) (x : RI) : (putT most R x).2.length ≤ R.length + 1 := by
  unfold putT
  split
  · exact Nat.le_succ _
  · split
    · exact Nat.le_succ _
    · simp [length_insT]
theorem putT_most {most : Int} {R : List RI} (x : RI) (h : (R.length : Int) ≤ most) : ((putT most R x).2.length : Int) ≤ most := by
  unfold putT
  split
  · exact h
  · split
    · exact h
    · rw [length_insT]; omega
/-- One that is taken out and put in again. -/
theorem putT_again {most : Int} {i : Nat} {x : RI} (hd : Dist (qL R)) (hx : R[i]? = some x) (hm : (R.length : Int) ≤ most) (key : Int) : putT most (R.eraseIdx i) (key, 0, x.2.2) = (0, insT (R.eraseIdx i) (key, 0, x.2.2)) := by
  have hlt := (List.getElem?_eq_some_iff.1 hx).1
  unfold putT
  have h1 : keyV (qL (R.eraseIdx i)) x.2.2 = (0, false) := by
    refine keyV_no fun z hz => ?_
    rw [qL_erase] at hz
    exact ((mem_erase hd (qL_get hx)).1 hz).2
  simp only [h1, Bool.false_eq_true, if_false]
  rw [if_neg (by rw [List.length_eraseIdx, if_pos hlt]; omega)]
theorem over_drop {key : Int} {i : Nat} (ho : Ord (qL R)) (h1 : ∀ j r, j < i → R[j]? = some r → r.1 ≤ key) (h2 : ∀ r, R[i]? = some r → key < r.1) : overL (qL R) key = qL (R.drop i) := by
  have e : qL R = qL (R.take i) ++ qL (R.drop i) := by unfold qL; rw [← List.map_append, List.take_append_drop]
  have e1 : overL (qL (R.take i)) key = [] := by
    unfold overL
    rw [List.filter_eq_nil_iff]
    intro z hz
    unfold qL at hz
    obtain ⟨r, hr, rfl⟩ := List.mem_map.1 hz
    obtain ⟨j, hj⟩ := List.mem_iff_getElem?.1 hr
    rw [List.getElem?_take] at hj
    split at hj
    · rename_i hlt
      have := h1 j r hlt hj
      simp; omega
    · cases hj
  have e2 : overL (qL (R.drop i)) key = qL (R.drop i) := by
    refine overL_all fun z hz => ?_
    unfold qL at hz
    obtain ⟨r, hr, rfl⟩ := List.mem_map.1 hz
    obtain ⟨j, hj⟩ := List.mem_iff_getElem?.1 hr
    rw [List.getElem?_drop] at hj
    cases j with
    | zero => exact h2 r hj
    | succ j =>
      have hlt : i < R.length := by have := (List.getElem?_eq_some_iff.1 hj).1; omega
      have hri := List.getElem?_eq_getElem hlt
      have h3 := h2 _ hri
      have h4 := ho.get (qL_get hri) (qL_get hj) (by omega)
      unfold befQ at h4
      simp at h4
      simp only
      omega
  rw [e]
  show (qL (R.take i) ++ qL (R.drop i)).filter _ = _
  rw [List.filter_append]
  show overL (qL (R.take i)) key ++ overL (qL (R.drop i)) key = _
  rw [e1, e2]
  rfl
theorem rowv_drop {gr cap : Nat} (h : RowV w (.slice (some ⟨gr, 0, none⟩) R.length cap) R) (i : Nat) : RSub w (.slice (some ⟨gr, i * 3, none⟩) (R.length - i) (cap - i)) (R.drop i) := by
  refine ⟨some ⟨gr, i * 3, none⟩, cap - i, by rw [List.length_drop], fun j r hj => ?_⟩
  rw [List.getElem?_drop] at hj
  obtain ⟨g', c', hv, hlt, _, d0, d1, d2⟩ := h.get hj
  injection hv with hv1
  injection hv1 with hv1
  injection hv1 with hv1
  subst hv1
  refine ⟨gr, i * 3, rfl, hlt, ?_, ?_, ?_⟩
  · rw [← Nat.add_mul]; exact d0
  · rw [← Nat.add_mul]; exact d1
  · rw [← Nat.add_mul]; exact d2
theorem key_yes {i : Nat} {x : RI} (hd : Dist (qL R)) (hx : R[i]? = some x) : keyV (qL R) x.2.2 = (x.1, true) :=
  keyV_yes (x := (x.1, x.2.2)) hd (List.mem_of_getElem? (qL_get hx))
end
end Go.Proofs.Ytaodkfnbmpbcfaa
