/- Rows of the reference: Drop. -/
import Derived.Test.YtaodkfnbmpbcfaaQa
import Derived.Test.YtaodkfnbmpbcfaaApp
import Derived.Deep.RegionLaw
import Derived.Deep.CutBlock
import Derived.Deep.DeepCutAuto
import Derived.Laws.ResultCell
namespace Go.Proofs.Ytaodkfnbmpbcfaa
open Go.RowKit

theorem info_ri : (Try.prog.info? 38).map (fun i => (i.zero, i.size, i.bytes)) = some (some (.agg #[.int .i64 0, .int .i64 0, .int .i64 0]), 3, 24) := by kernel_rfl

/-- append in a region that draws its order, to a slice that is not nil: the new value written out. -/
theorem stepw_where {P : Program} {w : World} {ops : Array Oper} {o : Oper} {a : Act} {K : Act → World → Prop} {Q : Exit → Act → World → Prop} {E : Prop}
    (hg : o.guard = none) (s x : Operand) (t : TypeId) (hop : o.op = Op.call { callee := Callee.builtin Builtin.append, args := #[s, x], argTypes := #[t, t] })
    (base : Nat) (e : TypeId) (i : TypeInfo) (z : Value) (size bytes : Nat) (h1 : P.underlying t = some (.slice e)) (h2 : P.info? e = some i) (h3 : i.zero = some z) (h4 : i.size = size) (h5 : i.bytes = bytes) (h6 : z.cells.size = size) (h7 : 0 < size)
    (g0 cap0 k : Nat) (xs : List Value) (hs : a.eval s = .slice (some ⟨g0, 0, none⟩) k cap0) (hown : w.ownsRow base e size (.slice (some ⟨g0, 0, none⟩) k cap0) k xs) (ad : Addr) (m c : Nat) (news : List Value) (hx : a.eval x = .slice (some ad) m c) (hn : news.length = m * size)
    (hc : ∀ j u, news[j]? = some u → w.cell? (ad.add j) = some u) (h1c : ∀ u ∈ news, u.oneCell' = true) (b1 : k + m ≤ maxLen) (b2 : (k + m) * bytes ≤ 140737488355328) (b3 : base ≤ w.heap.size)
    (hK : ∀ g1 c1 w', w'.ownsRow base e size (.slice (some ⟨g1, 0, none⟩) (k + m) c1) (k + m) (xs ++ news) → w.grownBy w' (some g0) → (g1 = g0 ∨ w.heap.size ≤ g1) → K (a.put o.dst (.slice (some ⟨g1, 0, none⟩) (k + m) c1)) w') :
    if Region.wanted o (yielded ops a.tmps) = true then Oper.wp P o a w K Q else E := by
  have hw : Region.wanted o (yielded ops a.tmps) = true := by simp [Region.wanted, hg]
  rw [if_pos hw]
  obtain ⟨v', w', hrun, r1, r2, r3⟩ := run_append_where (P := P) w base t o.type e i z size bytes h1 h2 h3 h4 h5 h6 h7 _ k xs hown ad m c news hn hc h1c b1 b2 b3
  obtain ⟨v2, w2, hrun2, _, _, r4⟩ := run_append_own (P := P) w base t o.type e i z size bytes h1 h2 h3 h4 h5 h6 h7 _ k xs hown ad m c news hn hc h1c b1 b2 b3
  have e1 := hrun.symm.trans hrun2
  injection e1 with e2 e3
  subst e2 e3
  have hnn : v' ≠ .slice none 0 0 := fun h => by have := (r4.1 h).1; cases this
  rcases r1.2 with ⟨h, _⟩ | ⟨g1, c1, cur, rfl, _⟩
  · exact absurd h hnn
  unfold Oper.wp execOp
  simp only [hop, resolve, invoke, builtin, Sem.run_bind, Sem.run_pure, Result.andThen_ok, List.map_toArray, List.map_cons, List.map_nil, hs, hx, hrun]
  refine hK g1 c1 w' r1 r2 ?_
  rcases r3 g1 rfl with h | h
  · simp [Value.ownBlock] at h; exact .inl h.symm
  · exact .inr h

theorem own_empty (w : World) (e : TypeId) : (w.alloc (.cells #[] e)).drew.ownsRow w.heap.size e 3 (.slice (some ⟨w.heap.size, 0, none⟩) 0 0) 0 [] :=
  ⟨rfl, .inr ⟨w.heap.size, 0, #[], rfl, Nat.le_refl _, World.alloc_heap_new w _, Nat.le_refl _, Nat.zero_le _, rfl, rfl⟩⟩
theorem flatR_one (l : List RI) : ∀ u ∈ flatR l, u.oneCell' = true := by
  induction l with
  | nil => intro u hu; simp [flatR] at hu
  | cons x xs ih =>
    intro u hu
    rw [flatR, List.mem_append] at hu
    rcases hu with h | h
    · simp [encR] at h
      rcases h with rfl | rfl | rfl <;> rfl
    · exact ih u h
/-- A part of a row's cells. -/
theorem RowV.part {w : World} {g n c : Nat} {l : List RI} (h : RowV w (.slice (some ⟨g, 0, none⟩) n c) l) (k : Nat) {t : List RI} (ht : t <+: l.drop k) : ∀ j u, (flatR t)[j]? = some u → w.cell? ⟨g, k * 3 + j, none⟩ = some u := by
  intro j u hu
  have hc := World.ownsRow.cells h (g := g) rfl
  have ha : ∀ i, (⟨g, 0, none⟩ : Addr).add i = ⟨g, i, none⟩ := fun i => by unfold Addr.add; split <;> simp_all
  have hb : (flatR l)[k * 3 + j]? = some u := by
    by_cases hk : k ≤ l.length
    · obtain ⟨r, hr⟩ := ht
      have e : l = l.take k ++ (t ++ r) := by rw [hr, List.take_append_drop]
      have e2 : (flatR (l.take k)).length = k * 3 := by rw [flatR_length, List.length_take]; omega
      rw [e, flatR_append, flatR_append, List.getElem?_append_right (by rw [e2]; omega), e2]
      have hj : j < (flatR t).length := (List.getElem?_eq_some_iff.1 hu).1
      have e3 : k * 3 + j - k * 3 = j := by omega
      rw [e3, List.getElem?_append_left hj, hu]
    · have : t = [] := by
        have h1 : l.drop k = [] := List.drop_eq_nil_of_le (by omega)
        rw [h1] at ht
        exact List.prefix_nil.1 ht
      subst this
      simp [flatR] at hu
  have := hc _ _ hb
  rwa [ha] at this

theorem atR_found (id : Int) : ∀ (l : List RI) (j : Nat), atR id l j = -1 ∨ ∃ k x, atR id l j = ((j + k : Nat) : Int) ∧ l[k]? = some x ∧ x.2.2 = id
  | [], _ => .inl rfl
  | y :: ys, j => by
    by_cases h : y.2.2 = id
    · exact .inr ⟨0, y, by rw [atR, if_pos h]; rfl, rfl, h⟩
    · rcases atR_found id ys (j + 1) with h1 | ⟨k, x, h1, h2, h3⟩
      · exact .inl (by rw [atR, if_neg h]; exact h1)
      · exact .inr ⟨k + 1, x, by rw [atR, if_neg h, h1]; congr 1; omega, by simpa using h2, h3⟩
theorem IsRow.alloc {w : World} {b : Nat} {most : Int} {v : Value} {l : List RI} (h : IsRow w b most v l) (o : Obj) : IsRow (w.alloc o) b most v l :=
  ⟨(Below.heap_alloc w o b (Array.getElem?_eq_some_iff.1 h.1).1).trans h.1, World.ownsRow.alloc h.2.1 o, h.2.2⟩

theorem IsRow.keep {w w' : World} {b : Nat} {most : Int} {v : Value} {l : List RI} (h : IsRow w b most v l) (hs : ∀ j, (j = b ∨ v.ownBlock = some j) → w'.heap[j]? = w.heap[j]?) : IsRow w' b most v l :=
  ⟨(hs b (.inl rfl)).trans h.1, h.2.1.keep (fun g hg => hs g (.inr hg)), h.2.2⟩
/-- A store of another list into a row. -/
theorem IsRow.store {w : World} {b : Nat} {most : Int} {v v' : Value} {l' : List RI} (h : w.heap[b]? = some (.cells #[.int .i64 most, v] 29 (0, 0))) (hr : RowV w v' l') (hn : v'.ownBlock ≠ some b) : IsRow (w.setCell ⟨b, 1, none⟩ v') b most v' l' := by
  obtain ⟨hlt, hk⟩ := Array.getElem?_eq_some_iff.1 h
  refine ⟨?_, hr.keep (fun g hg => Below.heap_setCell w _ v' g (fun e => hn (by rw [hg, e]))), hn⟩
  show (w.heap.modify b _)[b]? = _
  rw [Array.getElem?_eq_getElem (by rw [Array.size_modify]; exact hlt), Array.getElem_modify_self, hk]
  rfl

theorem erase_eq (l : List RI) (k : Nat) : flatR (l.eraseIdx k) = flatR (l.take k) ++ flatR (l.drop (k + 1)) := by
  rw [List.eraseIdx_eq_take_drop_succ, flatR_append]
/-- Behind the store: the row holds another list, in blocks that are new. -/
theorem row_post {w2 w4 : World} {b H g2 c2 N : Nat} {most : Int} {v : Value} {l' : List RI} (hH : w2.heap.size = H) (hb : w2.heap[b]? = some (.cells #[.int .i64 most, v] 29 (0, 0))) (hB : Below H w2 w4)
    (hO : w4.ownsRow H 38 3 (.slice (some ⟨g2, 0, none⟩) N c2) N (flatR l')) (hN : l'.length = N) :
    ∃ v', IsRow (w4.setCell ⟨b, 1, none⟩ (.slice (some ⟨g2, 0, none⟩) N c2)) b most v' l' ∧ (∀ j, v'.ownBlock = some j → w2.heap.size ≤ j) ∧ Trip (fun j => j = b) w2 (fun j => j = b) (w4.setCell ⟨b, 1, none⟩ (.slice (some ⟨g2, 0, none⟩) N c2)) := by
  subst hN
  have hbl : b < w2.heap.size := (Array.getElem?_eq_some_iff.1 hb).1
  have hlt := World.ownsRow.lt hO g2 rfl
  have hr : RowV w4 (.slice (some ⟨g2, 0, none⟩) l'.length c2) l' := by
    refine ⟨hO.1, ?_⟩
    rcases hO.2 with h | ⟨g, cap, cur, h1, h2, h3⟩
    · exact .inl h
    · exact .inr ⟨g, cap, cur, h1, Nat.zero_le _, h3⟩
  refine ⟨_, IsRow.store (v := v) ((hB.block b (by omega)).trans hb) hr (fun e => by simp [Value.ownBlock] at e; omega), fun j hj => ?_, ?_⟩
  · simp [Value.ownBlock] at hj; omega
  · refine ⟨hB.os, hB.tape, hB.output, ?_, fun j hj hn => ?_, fun _ h => .inl h, fun j hj => ?_⟩
    · show w2.heap.size ≤ (w4.heap.modify _ _).size; rw [Array.size_modify]; exact hB.size
    · exact (Below.heap_setCell w4 _ _ j hn).trans (hB.block j (by omega))
    · show j < (w4.heap.modify _ _).size; rw [Array.size_modify]; have := hB.size; omega

/-- Three cells, written anew. -/
def set3 (w : World) (r : Nat) (x y z : Value) : World := ((w.setCell ⟨r, 0, none⟩ x).setCell ⟨r, 1, none⟩ y).setCell ⟨r, 2, none⟩ z
theorem setCell_row {w : World} {r i : Nat} {t : TypeId} {cs : Array Value} (v : Value) (h : w.heap[r]? = some (.cells cs t (0, 0))) : (w.setCell ⟨r, i, none⟩ v).heap[r]? = some (.cells (cs.setIfInBounds i v) t (0, 0)) := by
  obtain ⟨hlt, hk⟩ := Array.getElem?_eq_some_iff.1 h
  show (w.heap.modify r _)[r]? = _
  rw [Array.getElem?_eq_getElem (by rw [Array.size_modify]; exact hlt), Array.getElem_modify_self, hk]
  rfl
theorem set3_same {w : World} {r : Nat} {t : TypeId} {a b c : Value} (x y z : Value) (h : w.heap[r]? = some (.cells #[a, b, c] t (0, 0))) : (set3 w r x y z).heap[r]? = some (.cells #[x, y, z] t (0, 0)) := by
  have h1 := setCell_row (i := 0) x h
  have h2 := setCell_row (i := 1) y h1
  have h3 := setCell_row (i := 2) z h2
  exact h3
theorem set3_other {w : World} {r j : Nat} (x y z : Value) (h : j ≠ r) : (set3 w r x y z).heap[j]? = w.heap[j]? := by
  unfold set3
  rw [Below.heap_setCell _ _ _ _ h, Below.heap_setCell _ _ _ _ h, Below.heap_setCell _ _ _ _ h]
theorem set3_size {w : World} {r : Nat} (x y z : Value) : (set3 w r x y z).heap.size = w.heap.size := by simp [set3, World.setCell]
theorem drop_results (tmps : Array Value) (r : Nat) (cs : Array Value) (bb : Bool) (w : World) (h4 : tmps.getD 4 undef = .pointer (some ⟨r, 0, none⟩)) (h5 : tmps.getD 5 undef = .bool bb) (hc : cs.size = 3) (hr : w.heap[r]? = some (.cells cs 38 (0, 0))) :
    (results Try.f11 tmps).run Try.prog w = .ok (.tuple #[.agg cs, .bool bb]) w := by
  rw [results_cell_tmp rfl, h4, h5]
  have hl := run_loadVar_row (P := Try.prog) w r 38 38 cs (0, 0) _ hr Try.underlying38 rfl (by rw [hc]; kernel_rfl)
  simp [asAddr, hl]

set_option maxRecDepth 100000 in
set_option maxHeartbeats 4000000 in
theorem rowDrop_yes (b k : Nat) (most id : Int) (x : RI) (v : Value) (l : List RI) (w : World) (h : IsRow w b most v l) (hl : l.length ≤ 1000000) (hk : atR id l 0 = (k : Int)) (hx : l[k]? = some x) :
    Calls Try.prog 11 #[.pointer (some ⟨b, 0, none⟩), .int .i64 id] w fun e w' => e = .returned (.tuple #[.agg (encR x).toArray, .bool true]) ∧ ∃ v', IsRow w' b most v' (l.eraseIdx k) ∧ (∀ j, v'.ownBlock = some j → w.heap.size ≤ j) ∧ Trip (fun j => j = b) w (fun j => j = b) w' := by
  have k1 := fun (o : Obj) => rowAt_c b most id v l (w.alloc o) (h.alloc o) hl
  rw [hk] at k1
  have K1 := Lib.hid k1
  have hlt : k < l.length := (List.getElem?_eq_some_iff.1 hx).1
  have hbl : b < w.heap.size := (Array.getElem?_eq_some_iff.1 h.1).1
  have hc1 : w.cell? ⟨b, 1, none⟩ = some v := by simp [World.cell?, h.1]
  have hf1 : w.frozen? ⟨b, 1, none⟩ = false := by simp [World.frozen?, h.1]
  obtain ⟨g, c, rfl, hg, hnc, c0, c1, c2⟩ := h.2.1.get hx
  obtain ⟨x0, x1, x2⟩ := x
  simp only at c0 c1 c2
  have hgb : g ≠ b := fun e => h.2.2 (by rw [e]; rfl)
  obtain ⟨n, hn⟩ : ∃ n, l.length = n := ⟨_, rfl⟩
  rw [hn] at hc1 hnc hl hlt
  have HN := Lib.hid hn
  have HX := Lib.hid hx
  have HROW := Lib.hid h
  clear h hn k1 hk hx
  go_enter Try.func11, Try.ntmps11
  go_wp2_with fail
  refine (K1.out _).mono ?_
  rintro e w' ⟨rfl, rfl⟩
  go_wp2_with fail
  have hk0 : (0 : Int) ≤ (k : Int) := by omega
  have hkc : (k : Int) ≤ (c : Int) := by omega
  have hkn : (k : Int) + 1 ≤ (n : Int) := by omega
  obtain ⟨w2, hw2⟩ : ∃ w2, (w.alloc (Obj.cells #[Value.int IntKind.i64 0, Value.int IntKind.i64 0, Value.int IntKind.i64 0] 38)).alloc (Obj.cells #[Value.int IntKind.i64 x0, Value.int IntKind.i64 x1, Value.int IntKind.i64 x2] 38) = w2 := ⟨_, rfl⟩
  have hb2 : Below w.heap.size w w2 := by rw [← hw2]; exact ((Below.refl _ w).alloc (Nat.le_refl _) _).alloc (by simp) _
  have hc2' := (hb2.cell (p := ⟨b, 1, none⟩) hbl).trans hc1
  have hf2 := (hb2.frozen (p := ⟨b, 1, none⟩) hbl).trans hf1
  have hs2 : w2.heap.size = w.heap.size + 2 := by rw [← hw2]; simp
  have hbox : w2.heap[w.heap.size + 1]? = some (.cells #[.int .i64 x0, .int .i64 x1, .int .i64 x2] 38 (0, 0)) := by
    rw [← hw2]
    have := World.alloc_heap_new (w.alloc (Obj.cells #[Value.int IntKind.i64 0, Value.int IntKind.i64 0, Value.int IntKind.i64 0] 38)) (Obj.cells #[Value.int IntKind.i64 x0, Value.int IntKind.i64 x1, Value.int IntKind.i64 x2] 38)
    rwa [World.size_alloc] at this
  have hres : w2.heap[w.heap.size]? = some (.cells #[.int .i64 0, .int .i64 0, .int .i64 0] 38 (0, 0)) := by
    rw [← hw2, Below.heap_alloc _ _ _ (by simp)]
    exact World.alloc_heap_new _ _
  rw [hw2]
  have HBOX := Lib.hid hbox
  have HRES := Lib.hid hres
  have HS2 := Lib.hid hs2
  clear hc1 hf1 c0 c1 c2 K1 hw2 hbox hres hs2
  go_cut [5] (fun v wx => v = .bool false ∧ ∃ v', IsRow wx b most v' (l.eraseIdx k) ∧ (∀ j, v'.ownBlock = some j → w2.heap.size ≤ j) ∧ Trip (fun j => j = b) w2 (fun j => j = b) wx)
  case rest =>
    obtain ⟨rfl, v', hrow', hnew, ht⟩ := hcut
    have hlb : b < w.heap.size := hbl
    have hs2 := HS2.out
    have eb : wc.heap[w.heap.size + 1]? = some (.cells #[.int .i64 x0, .int .i64 x1, .int .i64 x2] 38 (0, 0)) := (ht.block _ (by omega) (by omega)).trans HBOX.out
    have er : wc.heap[w.heap.size]? = some (.cells #[.int .i64 0, .int .i64 0, .int .i64 0] 38 (0, 0)) := (ht.block _ (by omega) (by omega)).trans HRES.out
    have d0 : wc.cell? ⟨w.heap.size + 1, 0, none⟩ = some (.int .i64 x0) := by simp [World.cell?, eb]
    have d1 : wc.cell? ⟨w.heap.size + 1, 1, none⟩ = some (.int .i64 x1) := by simp [World.cell?, eb]
    have d2 : wc.cell? ⟨w.heap.size + 1, 2, none⟩ = some (.int .i64 x2) := by simp [World.cell?, eb]
    have r0 : wc.cell? ⟨w.heap.size, 0, none⟩ = some (.int .i64 0) := by simp [World.cell?, er]
    have r1 : wc.cell? ⟨w.heap.size, 1, none⟩ = some (.int .i64 0) := by simp [World.cell?, er]
    have r2 : wc.cell? ⟨w.heap.size, 2, none⟩ = some (.int .i64 0) := by simp [World.cell?, er]
    have f0 : wc.frozen? ⟨w.heap.size, 0, none⟩ = false := by simp [World.frozen?, er]
    have f1 : wc.frozen? ⟨w.heap.size, 1, none⟩ = false := by simp [World.frozen?, er]
    have f2 : wc.frozen? ⟨w.heap.size, 2, none⟩ = false := by simp [World.frozen?, er]
    have HT := Lib.hid ht
    have HROW' := Lib.hid hrow'
    have HNEW := Lib.hid hnew
    have HER := Lib.hid er
    clear ht hrow' hnew eb er hs2
    go_wp2_with fail
    refine bodyPost_ret (drop_results _ w.heap.size #[.int .i64 x0, .int .i64 x1, .int .i64 x2] true _ rfl rfl rfl (set3_same _ _ _ HER.out)) rfl ?_
    have hs2 := HS2.out
    have ht := HT.out
    refine ⟨rfl, v', HROW'.out.keep (fun j hj => ?_), fun j hj => by have := HNEW.out j hj; omega, ?_⟩
    · refine set3_other _ _ _ ?_
      rcases hj with rfl | hj
      · omega
      · have := HNEW.out j hj; omega
    · refine ⟨ht.os.trans hb2.os, ht.tape.trans hb2.tape, ht.output.trans hb2.output, ?_, fun j hj hn => ?_, fun _ h => .inl h, fun j hj => ?_⟩
      · show _ ≤ (set3 wc _ _ _ _).heap.size; rw [set3_size]; have := ht.size; omega
      · exact (set3_other _ _ _ (by omega)).trans ((ht.block j (by omega) hn).trans (hb2.block j hj))
      · show _ < (set3 wc _ _ _ _).heap.size; rw [set3_size]; have := ht.size; omega
  case first =>
    have hw1 : IntKind.i64.wrap ((k : Int) + 1) = (k : Int) + 1 := by rw [IntKind.wrap_i64]; omega
    have hk1 : (0 : Int) ≤ (k : Int) + 1 := by omega
    have hkc1 : (k : Int) + 1 ≤ (c : Int) := by omega
    have hnc' : (n : Int) ≤ (c : Int) := by omega
    obtain ⟨i0, hi, hz0, hz1, hz2⟩ := info_parts info_ri
    have hrow := HROW.out.2.1
    rw [HN.out] at hrow
    have hbg2 : w.heap.size ≤ w2.heap.size := hb2.size
    obtain ⟨H, hH⟩ : ∃ H, w2.heap.size = H := ⟨_, rfl⟩
    have hP1 : Hid (∀ w', Below H w2 w' → ∀ j u, (flatR (l.take k))[j]? = some u → w'.cell? ((⟨g, 0, none⟩ : Addr).add j) = some u) := Lib.hid (fun w' hb j u hu => by
      have ha : ∀ i, (⟨g, 0, none⟩ : Addr).add i = ⟨g, i, none⟩ := fun i => by unfold Addr.add; split <;> simp_all
      rw [ha, hb.cell (p := ⟨g, j, none⟩) (by show g < H; omega), hb2.cell (p := ⟨g, j, none⟩) hg]
      have := hrow.part 0 (t := l.take k) (by rw [List.drop_zero]; exact List.take_prefix _ _) j u hu
      simpa using this)
    obtain ⟨AD, hAD⟩ : ∃ AD, (if c = k + 1 then some (⟨g, 0, none⟩ : Addr) else some ⟨g, (k + 1) * 3, none⟩) = some AD := by split <;> exact ⟨_, rfl⟩
    have hP2 : Hid (∀ w', Below H w2 w' → ∀ j u, (flatR (l.drop (k + 1)))[j]? = some u → w'.cell? (AD.add j) = some u) := Lib.hid (fun w' hb j u hu => by
      by_cases hcc : c = k + 1
      · have h1 : l.drop (k + 1) = [] := List.drop_eq_nil_of_le (by rw [HN.out]; omega)
        rw [h1] at hu
        simp [flatR] at hu
      · rw [if_neg hcc] at hAD
        injection hAD with hAD
        subst hAD
        have ha : ∀ o i, (⟨g, o, none⟩ : Addr).add i = ⟨g, o + i, none⟩ := fun o i => by unfold Addr.add; split <;> simp_all
        rw [ha, hb.cell (p := ⟨g, (k + 1) * 3 + j, none⟩) (by show g < H; omega), hb2.cell (p := ⟨g, (k + 1) * 3 + j, none⟩) hg]
        exact hrow.part (k + 1) (t := l.drop (k + 1)) (List.prefix_refl _) j u hu)
    have L1 : (flatR (l.take k)).length = k * 3 := by rw [flatR_length, List.length_take, HN.out]; omega
    have L2 : (flatR (l.drop (k + 1))).length = (n - (k + 1)) * 3 := by rw [flatR_length, List.length_drop, HN.out]
    have HB2R := Lib.hid ((hb2.block b hbl).trans HROW.out.1)
    have HLE := Lib.hid (show (l.eraseIdx k).length = k + (n - (k + 1)) by rw [List.length_eraseIdx, if_pos (by rw [HN.out]; exact hlt), HN.out]; omega)
    have HL1 := Lib.hid L1
    have HL2 := Lib.hid L2
    have hbH : b < H := by omega
    have hgH : g < H := by omega
    clear L1 L2 hrow
    have hE := own_empty w2 38
    rw [hH] at hE
    have HE := Lib.hid hE
    have hB1 : Below H w2 (w2.alloc (.cells #[] 38)).drew := ((Below.refl H w2).alloc (by omega) _).drew
    have HB1 := Lib.hid hB1
    have HH := Lib.hid hH
    clear hE hB1
    have hc1' := (HB1.out.cell (p := ⟨b, 1, none⟩) hbH).trans hc2'
    go_region_law
      (first
        | (refine stepw_where (by rfl) _ _ 27 (by rfl) H 38 i0 (.agg #[.int .i64 0, .int .i64 0, .int .i64 0]) 3 24 Try.underlying27 hi hz0 hz1 hz2 (by rfl) (by omega) H 0 0 [] (by rw [← HH.out]; rfl) HE.out ⟨g, 0, none⟩ k c (flatR (l.take k)) (by rfl) HL1.out (hP1.out _ HB1.out) (flatR_one _) (by unfold maxLen; omega) (by omega) (by rw [← HH.out]; show _ ≤ (w2.alloc _).heap.size; rw [World.size_alloc]; omega) ?_; intro g1 c1 w3 hown1 hgrow1 hg1; simp only [Nat.zero_add, List.nil_append] at hown1; have HB3 := Lib.hid (HB1.out.grown hgrow1 (by rw [← HH.out]; show _ ≤ (w2.alloc _).heap.size; rw [World.size_alloc]; omega) (fun k e => by cases e; exact Nat.le_refl _)); have HO1 := Lib.hid hown1; have hc3 := (HB3.out.cell (p := ⟨b, 1, none⟩) hbH).trans hc2'; clear hown1 hgrow1)
        | (refine stepw_where (by rfl) _ _ 27 (by rfl) H 38 i0 (.agg #[.int .i64 0, .int .i64 0, .int .i64 0]) 3 24 Try.underlying27 hi hz0 hz1 hz2 (by rfl) (by omega) g1 c1 k _ (by rfl) HO1.out AD (n - (k + 1)) (c - (k + 1)) (flatR (l.drop (k + 1))) (by first | rfl | (simp [Act.eval, Act.put, hAD]; done) | (go_simp; done)) HL2.out (hP2.out _ HB3.out) (flatR_one _) (by unfold maxLen; omega) (by omega) (by have := HB3.out.size; omega) ?_; intro g2 c2 w4 hown2 hgrow2 hg2; have HB4 := Lib.hid (HB3.out.grown hgrow2 (by have := HB3.out.size; omega) (fun k e => by cases e; exact (World.ownsRow.lt HO1.out _ rfl).1)); have HO2 := Lib.hid hown2; have hc4 := (HB4.out.cell (p := ⟨b, 1, none⟩) hbH).trans hc2'; have hf4 := (HB4.out.frozen (p := ⟨b, 1, none⟩) hbH).trans hf2; clear hown2 hgrow2))
    all_goals
      go_wp2_with fail
      go_meet
      exact ⟨rfl, row_post HH.out (HB2R.out) HB4.out (by rw [erase_eq]; exact HO2.out) HLE.out⟩

set_option maxRecDepth 100000 in
set_option maxHeartbeats 1000000 in
theorem rowDrop_no (b : Nat) (most id : Int) (v : Value) (l : List RI) (w : World) (h : IsRow w b most v l) (hl : l.length ≤ 1000000) (hk : atR id l 0 = -1) :
    Calls Try.prog 11 #[.pointer (some ⟨b, 0, none⟩), .int .i64 id] w fun e w' => e = .returned (.tuple #[.agg (encR (0, 0, 0)).toArray, .bool false]) ∧ IsRow w' b most v l ∧ Trip (fun j => j = b) w (fun j => j = b) w' := by
  have k1 := fun (o : Obj) => rowAt_c b most id v l (w.alloc o) (h.alloc o) hl
  rw [hk] at k1
  have K1 := Lib.hid k1
  have HROW := Lib.hid h
  have hbl : b < w.heap.size := (Array.getElem?_eq_some_iff.1 h.1).1
  clear h k1 hk
  go_enter Try.func11, Try.ntmps11
  go_wp2_with fail
  refine (K1.out _).mono ?_
  rintro e w' ⟨rfl, rfl⟩
  go_wp2_with fail
  refine bodyPost_ret (drop_results _ w.heap.size #[.int .i64 0, .int .i64 0, .int .i64 0] false _ rfl rfl rfl (World.alloc_heap_new _ _)) rfl ?_
  refine ⟨rfl, HROW.out.alloc _, ?_⟩
  exact (Trip.refl (fun j hj => by omega)).alloc _
end Go.Proofs.Ytaodkfnbmpbcfaa
