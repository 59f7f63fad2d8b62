/- Queues of deadlines: List. -/
import Derived.Test.YtaodkfnbmpbcfaaDg
namespace Go.Proofs.Ytaodkfnbmpbcfaa
open Go.RowKit Go.Shelf
attribute [local go_sem] Oper.semAt_some wide_fn wide_depth


theorem info_dq : (Try.prog.info? 63).map (fun i => (i.zero, i.size, i.bytes)) = some (some (.agg #[.int .i64 0, .int .i64 0, .int .i64 0]), 3, 24) := by kernel_rfl
theorem flatR_snoc (l : List RI) (x : RI) : flatR (l ++ [x]) = flatR l ++ encR x := by rw [flatR_append]; simp [flatR]
theorem encR_cells {w : World} {g : Nat} {t : TypeId} {x : RI} (h : w.heap[g]? = some (.cells (encR x).toArray t (0, 0))) : ∀ j u, (encR x)[j]? = some u → w.cell? ((⟨g, 0, none⟩ : Addr).add j) = some u := by
  intro j u hu
  have ha : (⟨g, 0, none⟩ : Addr).add j = ⟨g, j, none⟩ := by unfold Addr.add; split <;> simp_all
  rw [ha]
  simp [World.cell?, h]
  exact hu
theorem encR_one (x : RI) : ∀ u ∈ encR x, u.oneCell' = true := by
  intro u hu
  simp [encR] at hu
  rcases hu with rfl | rfl | rfl <;> rfl
/-- A list that the call made. -/
def MadeD (w : World) (n0 : Nat) (v : Value) (T : List RI) : Prop := w.ownsRow n0 63 3 v T.length (flatR T)

/-- The loop's state: the box B holds what has come; all else as it lay. -/
def ListAt (w3 : World) (n0 B H d m : Nat) (pl : List RI) (A : Nat → Prop) (W : World) : Prop :=
  ∃ v, Boxed W B 71 v ∧ W.ownsRow n0 63 3 v pl.length (flatR pl) ∧ (∀ k, A k ↔ ((k = B ∨ v.ownBlock = some k) ∨ k = H ∨ k = d ∨ k = m)) ∧ W.heap[H]? = w3.heap[H]? ∧ W.heap[d]? = w3.heap[d]? ∧ W.heap[m]? = w3.heap[m]?
theorem listAt_loc {α : Type} (f : List α → List RI) (w3 : World) (n0 B H d m : Nat) : Loc (fun pre => ListAt w3 n0 B H d m (f pre)) := by
  rintro s A X Y ⟨v, h1, h2, h3, h4, h5, h6⟩ hs
  refine ⟨v, (hs B ((h3 B).2 (by simp))).trans h1, ⟨h2.1, ?_⟩, h3, (hs H ((h3 H).2 (by simp))).trans h4, (hs d ((h3 d).2 (by simp))).trans h5, (hs m ((h3 m).2 (by simp))).trans h6⟩
  rcases h2.2 with h4 | ⟨g, cap, cur, h4, h5, h6, h7⟩
  · exact .inl h4
  · exact .inr ⟨g, cap, cur, h4, h5, (hs g ((h3 g).2 (.inl (.inr (by rw [h4]; rfl))))).trans h6, h7⟩

/-- One more has come. -/
theorem list_next {pl : List RI} {w3 W w2 w5 : World} {n0 B H d m k' : Nat} {A1 : Nat → Prop} {v1 v' : Value} {x : RI} (hA : ∀ k, A1 k ↔ ((k = B ∨ v1.ownBlock = some k) ∨ k = H ∨ k = d ∨ k = m)) (hbd : ∀ k, A1 k → k < W.heap.size) (hb2 : Below W.heap.size W w2)
    (hE : W.heap[H]? = w3.heap[H]? ∧ W.heap[d]? = w3.heap[d]? ∧ W.heap[m]? = w3.heap[m]?) (hH : H < n0) (hd : d < H) (hm : m < H) (hHB : H < B) (hrow : w2.ownsRow n0 63 3 v1 pl.length (flatR pl))
    (hv : Boxed w5 B 71 v') (hr : w5.ownsRow n0 63 3 v' k' (flatR pl ++ encR x)) (ht : Trip (fun k => k = B ∨ v1.ownBlock = some k) w2 (fun k => k = B ∨ v'.ownBlock = some k) w5) (hk' : k' = (pl ++ [x]).length) :
    ∃ A2, Trip A1 W A2 w5 ∧ ListAt w3 n0 B H d m (pl ++ [x]) A2 w5 := by
  have hs := hb2.size
  have hl : ∀ k, k < n0 → k ≠ B → ¬ (k = B ∨ v1.ownBlock = some k) := fun k hk hne h => by
    rcases h with h | h
    · exact hne h
    · have := (World.ownsRow.lt hrow k h).1; omega
  have e : ∀ k, A1 k → k < n0 → k ≠ B → w5.heap[k]? = W.heap[k]? := fun k hA' hk hne => (ht.block k (by have := hbd k hA'; omega) (hl k hk hne)).trans (hb2.block k (hbd k hA'))
  have aH := (hA H).2 (by simp)
  have ad := (hA d).2 (by simp)
  have am := (hA m).2 (by simp)
  refine ⟨fun k => (k = B ∨ v'.ownBlock = some k) ∨ k = H ∨ k = d ∨ k = m, ?_, v', hv, by subst hk'; rw [flatR_snoc]; exact hr, fun _ => Iff.rfl, (e H aH hH (by omega)).trans hE.1, (e d ad (by omega) (by omega)).trans hE.2.1, (e m am (by omega) (by omega)).trans hE.2.2⟩
  refine ((below_trip hb2 hbd).trans (ht.wider (C := A1) (fun k hk => (hA k).2 (.inl hk)) (fun k hk => by have := hbd k hk; omega))).less (fun k hk => ?_)
  rcases hk with h | h
  · exact .inl h
  · exact .inr ((hA k).2 (.inr h))

set_option maxRecDepth 100000 in
set_option maxHeartbeats 8000000 in
/-- q.List(). -/
theorem dlist_c (d b m : Nat) (most s : Int) (T : List RI) (v : Value) (mp : Nat) (w : World) (h : IsD w d b m most s T v mp) (hL : T.length ≤ 1000000) :
    Calls Try.prog 31 #[.pointer (some ⟨d, 0, none⟩)] w fun e w' => ∃ v', e = .returned v' ∧ MadeD w' w.heap.size v' T ∧ Below w.heap.size w w' := by
  obtain ⟨i0, hi, hz0, hz1, hz2⟩ := info_parts info_dq
  have hdl := h.lt d (.inl rfl)
  have hml := h.lt m (.inr (.inl rfl))
  have hbl := h.lt b (.inr (.inr (.inl rfl)))
  have ha := h.alloc (.cells #[.pointer (some ⟨d, 0, none⟩)] 58)
  have KL := Lib.hid (dlen_c d b m most s T v mp _ ha)
  have HD := Lib.hid h
  obtain ⟨n, hn⟩ : ∃ n, T.length = n := ⟨_, rfl⟩
  rw [hn] at KL hL
  have HN := Lib.hid hn
  clear hn h ha
  have hqc : ∀ w0 : World, (w.alloc (.cells #[.pointer (some ⟨d, 0, none⟩)] 58)).grownBy w0 none → w0.cell? ⟨w.heap.size, 0, none⟩ = some (.pointer (some ⟨d, 0, none⟩)) ∧ w0.cell? ⟨d, 0, none⟩ = some (.pointer (some ⟨b, 0, none⟩)) ∧ w.heap.size < w0.heap.size ∧ d < w0.heap.size := fun w0 hg => by
    have h1 := (hg.block w.heap.size (by simp) (by simp)).trans (World.alloc_heap_new w _)
    have h2 := (hg.block d (by simp; omega) (by simp)).trans ((Below.heap_alloc w _ d hdl).trans HD.out.box)
    exact ⟨by simp [World.cell?, h1], by simp [World.cell?, h2], by have := hg.size; simp at this; omega, by have := hg.size; simp at this; omega⟩
  have HQC := Lib.hid hqc
  clear hqc
  refine (callsIn_wide (n := 0)).1 ?_
  refine callsIn_of_wp_marks Try.func31 rfl trivial ?_ rfl
  simp only [Try.ntmps31, List.size_toArray, List.length_cons, List.length_nil, Nat.reduceAdd, Nat.reduceSub, Array.replicate_succ, Array.replicate_zero, List.push_toArray, List.append_toArray, List.nil_append, List.cons_append]
  gi_wp2_with (first
    | (gi_at_call 28; refine (callsIn_wide.2 (KL.out)).mono ?_; rintro e w' ⟨rfl, rfl⟩)
    | (gi_at_make; refine wpListIn_make_own _ rfl _ _ 71 rfl (w.heap.size + 1) 63 i0 (.agg #[.int .i64 0, .int .i64 0, .int .i64 0]) 3 Try.underlying71 hi hz0 hz1 .i64 .i64 n n rfl rfl rfl (by rw [hz2]; omega) (by unfold maxLen; omega) (by simp) ?_; intro w0 hown hgr; obtain ⟨g1, g2, g3, g4⟩ := HQC.out _ hgr; have HO := Lib.hid hown; have HG := Lib.hid hgr; clear hown hgr)
    | (gi_at_call 35; refine (callsIn_wide.2 (qall_c b _)).mono ?_; rintro e w' ⟨rfl, rfl⟩))
  have hg := HG.out
  have hown := HO.out
  rw [World.size_alloc] at hown
  have hg0 : w.heap.size + 1 < w0.heap.size := (World.ownsRow.lt hown _ rfl).2
  obtain ⟨w3, hw3⟩ : ∃ w3, (w0.alloc (Obj.cells #[Value.slice (some ⟨w.heap.size + 1, 0, none⟩) 0 n] 71)).alloc (Obj.cells #[Value.pointer (some ⟨b, 0, none⟩)] 24) = w3 := ⟨_, rfl⟩
  have bO : Boxed w3 w0.heap.size 71 (.slice (some ⟨w.heap.size + 1, 0, none⟩) 0 n) := by rw [← hw3]; exact (Boxed.new w0 71 _).alloc _
  have hs3 : w3.heap.size = w0.heap.size + 2 := by rw [← hw3]; simp
  have ho3 : ∀ k, k < w0.heap.size → w3.heap[k]? = w0.heap[k]? := fun k hk => by rw [← hw3, Below.heap_alloc _ _ _ (by simp; omega), Below.heap_alloc _ _ _ hk]
  have hr3 : w3.heap[w0.heap.size + 1]? = some (.cells #[.pointer (some ⟨b, 0, none⟩)] 24 (0, 0)) := by rw [← hw3]; exact heap_alloc2_new _ _ _
  have hrow3 : w3.ownsRow (w.heap.size + 1) 63 3 (.slice (some ⟨w.heap.size + 1, 0, none⟩) 0 n) 0 [] := by rw [← hw3]; exact (hown.alloc _).alloc _
  have hold : ∀ k, k < w.heap.size → w3.heap[k]? = w.heap[k]? := fun k hk => (ho3 k (by omega)).trans ((hg.block k (by simp; omega) (by simp)).trans (Below.heap_alloc w _ k hk))
  have kH : w3.heap[w.heap.size]? = some (.cells #[.pointer (some ⟨d, 0, none⟩)] 58 (0, 0)) := (ho3 _ (by omega)).trans ((hg.block w.heap.size (by simp) (by simp)).trans (World.alloc_heap_new w _))
  have hb3 : Below w.heap.size w w3 := ⟨by rw [← hw3]; exact hg.os, by rw [← hw3]; exact hg.tape, by rw [← hw3]; exact hg.output, by omega, hold⟩
  have hd3 := HD.out.below hb3
  have hseq := qall1_gives (w0.heap.size + 1) b mp most s v (qL T) w3 hr3 hd3.q (by rw [qL_length, HN.out]; exact hL)
  rw [hw3]
  have HB3 := Lib.hid hb3
  clear hw3 hg hown hr3 ho3 HO HG hb3 g1 g2
  refine wpRb (α := Nat × QI) (gf := 43) (lb := #[.pointer (some ⟨w0.heap.size + 1, 0, none⟩)]) rfl (enters_of Try.func43 (by kernel_rfl) rfl) hseq (fun _ => rfl) (fun k => (k = w0.heap.size ∨ (Value.slice (some ⟨w.heap.size + 1, 0, none⟩) 0 n).ownBlock = some k) ∨ k = w.heap.size ∨ k = d ∨ k = m) ?hA ?hR
    (fun pre => ListAt w3 (w.heap.size + 1) w0.heap.size w.heap.size d m (T.take pre.length)) (fun _ _ _ _ => False) (listAt_loc (fun pre : List (Nat × QI) => T.take pre.length) _ _ _ _ _ _) (fun _ _ _ _ _ hs _ => hs) ?h0
    (fun x => .cells (encQ x.2).toArray 40)
    (fun x r => { tmps := #[.pointer (some ⟨d, 0, none⟩), .pointer (some ⟨w.heap.size, 0, none⟩), .slice none 0 0, .pointer (some ⟨w0.heap.size, 0, none⟩), undef, .pointer (some ⟨r, 0, none⟩), .pointer (some ⟨d, 0, none⟩), .int .i64 n, .slice (some ⟨w.heap.size + 1, 0, none⟩) 0 n, .pointer (some ⟨d, 0, none⟩), .pointer (some ⟨d, 0, none⟩), .pointer (some ⟨d, 0, none⟩), .pointer (some ⟨b, 0, none⟩), .func (.func 43) #[] #[.pointer (some ⟨w0.heap.size + 1, 0, none⟩)], .int .i64 x.1, .agg (encQ x.2).toArray, undef, undef, undef, undef, undef, undef, undef], defers := [] }) ?assign ?body ?done ?stop
  case hA =>
    rintro k ((rfl | hk) | rfl | rfl | rfl)
    · omega
    · simp [Value.ownBlock] at hk; omega
    · omega
    · omega
    · omega
  case hR =>
    have hn1 := HD.out.n1
    have hn2 := HD.out.n2
    have hq := HD.out.q.lt
    have hno : ∀ k, QOf b v mp k → ¬ ((k = w0.heap.size ∨ (Value.slice (some ⟨w.heap.size + 1, 0, none⟩) 0 n).ownBlock = some k) ∨ k = w.heap.size ∨ k = d ∨ k = m) := fun k hk => by
      have := hq k hk
      rintro ((h | h) | h | h | h)
      · omega
      · simp [Value.ownBlock] at h; omega
      · omega
      · exact hn1 (h ▸ hk)
      · exact hn2 (h ▸ hk)
    rintro k (rfl | rfl | hk)
    · refine ⟨by omega, rfl, ?_⟩
      rintro ((h | h) | h | h | h)
      · omega
      · simp [Value.ownBlock] at h; omega
      · omega
      · omega
      · omega
    · exact ⟨by omega, rfl, hno _ (.inl rfl)⟩
    · have := hq k (.inr (.inr hk))
      exact ⟨by omega, rfl, hno _ (.inr (.inr hk))⟩
  case h0 => exact ⟨_, bO, hrow3, fun _ => Iff.rfl, rfl, rfl, rfl⟩
  case assign =>
    intro l x W K hK
    obtain ⟨x2, x0, x1⟩ := x
    simp only [encQ] at hK ⊢
    gi_wp2
    exact hK
  case body =>
    rintro l pre x A1 W r ⟨v1, hv, hrow, hAv, eH, ed, em⟩ hpre hbd hrA hbox
    obtain ⟨x2, y0, y1⟩ := x
    have hgx : (numQ 0 (qL T))[pre.length]? = some (x2, y0, y1) := by
      obtain ⟨t, ht⟩ := hpre
      rw [← ht]
      simp
    obtain ⟨rr, hrr, hye⟩ : ∃ rr, T[pre.length]? = some rr ∧ (rr.1, rr.2.2) = (y0, y1) := by simpa [qL] using numQ_get hgx
    obtain ⟨z0, z1, z2⟩ := rr
    injection hye with hy0 hy1
    simp only at hy0 hy1
    subst hy0 hy1
    have hrl : r < W.heap.size := (Array.getElem?_eq_some_iff.1 hbox).1
    have b0 : W.cell? ⟨r, 0, none⟩ = some (.int .i64 z0) := by simp [World.cell?, hbox, encQ]
    have b1 : W.cell? ⟨r, 1, none⟩ = some (.int .i64 z2) := by simp [World.cell?, hbox, encQ]
    have q2 : W.cell? ⟨w.heap.size, 0, none⟩ = some (.pointer (some ⟨d, 0, none⟩)) := by simp [World.cell?, eH.trans kH]
    have hc := hv.cell
    have hlt := hv.lt
    have hmem : (z0, z1, z2) ∈ T := List.mem_of_getElem? hrr
    have KW := Lib.hid (withDue_w d b m T (z0, z1, z2) W.drew (ed.trans hd3.box) (hd3.map.keep em) hmem (hd3.wfs hmem).2.2)
    simp only [encQ, encR] at KW
    have htk : T.take (pre.length + 1) = T.take pre.length ++ [(z0, z1, z2)] := by rw [List.take_add_one, hrr]; rfl
    have hpl : (T.take pre.length).length + 1 ≤ 1000000 := by have := (List.getElem?_eq_some_iff.1 hrr).1; rw [HN.out] at this; rw [List.length_take, HN.out]; omega
    have HTK := Lib.hid htk
    have HAV := Lib.hid hAv
    have HBD := Lib.hid hbd
    have HV := Lib.hid hv
    have HROW := Lib.hid hrow
    have HE := Lib.hid (And.intro eH (And.intro ed em))
    obtain ⟨pl, hpl'⟩ : ∃ pl, T.take pre.length = pl := ⟨_, rfl⟩
    rw [hpl'] at hpl HROW HTK
    simp only [encQ]
    clear hgx hpre hrr hbox htk hmem hAv hbd hv hrow eH ed em hpl'
    have hmx : Try.prog.follows .mixedOrders = true := by kernel_rfl
    gi_wp2
    refine wpIn_region_any hmx ?_
    change wpAnyIn _ _ _ _ _ _ _ _ _ (World.drew _)
    refine wpAnyIn_ready (rs := [0, 1, 2]) (by kernel_rfl) (by simp) (AllReadyIn.cons rfl (fun K hK => ?n0) (AllReadyIn.cons rfl (fun K hK => ?n1) (AllReadyIn.cons rfl (fun K hK => ?n2) AllReadyIn.nil)))
    case' n0 =>
      go_simp
      refine hK _ _ ?_
      clear hK K
      refine wpAnyIn_ready (rs := [1, 2]) (by kernel_rfl) (by simp) (AllReadyIn.cons rfl (fun K hK => ?n3) (AllReadyIn.cons rfl (fun K hK => ?n4) AllReadyIn.nil))
    case' n1 =>
      go_simp
      refine hK _ _ ?_
      clear hK K
      refine wpAnyIn_ready (rs := [0, 2]) (by kernel_rfl) (by simp) (AllReadyIn.cons rfl (fun K hK => ?n5) (AllReadyIn.cons rfl (fun K hK => ?n6) AllReadyIn.nil))
    case' n2 =>
      go_simp
      refine hK _ _ ?_
      clear hK K
      refine wpAnyIn_ready (rs := [0, 1]) (by kernel_rfl) (by simp) (AllReadyIn.cons rfl (fun K hK => ?n7) (AllReadyIn.cons rfl (fun K hK => ?n8) AllReadyIn.nil))
    case' n3 =>
      go_simp
      refine hK _ _ ?_
      clear hK K
      refine wpAnyIn_ready (rs := [2]) (by kernel_rfl) (by simp) (AllReadyIn.cons rfl (fun K hK => ?_) AllReadyIn.nil)
      go_simp
      refine hK _ _ ?_
      clear hK K
      refine wpAnyIn_ready (rs := [3]) (by kernel_rfl) (by simp) (AllReadyIn.cons rfl (fun K hK => ?_) AllReadyIn.nil)
      go_simp
      refine (CallsIn.inRound l (callsIn_wide.2 KW.out)).mono ?_
      rintro e w2 ⟨rfl, hb2⟩
      have hc2 := (hb2.cell (p := ⟨w0.heap.size, 0, none⟩) hlt).trans hc
      have hlt2 : w0.heap.size < w2.heap.size := Nat.lt_of_lt_of_le hlt hb2.size
      refine hK _ _ ?_
      clear hK K
      refine wpAnyIn_ready (rs := [4]) (by kernel_rfl) (by simp) (AllReadyIn.cons rfl (fun K hK => ?_) AllReadyIn.nil)
      go_simp
      refine hK _ _ ?_
      clear hK K
    case' n4 =>
      go_simp
      refine hK _ _ ?_
      clear hK K
      refine wpAnyIn_ready (rs := [1]) (by kernel_rfl) (by simp) (AllReadyIn.cons rfl (fun K hK => ?_) AllReadyIn.nil)
      go_simp
      refine hK _ _ ?_
      clear hK K
      refine wpAnyIn_ready (rs := [3]) (by kernel_rfl) (by simp) (AllReadyIn.cons rfl (fun K hK => ?_) AllReadyIn.nil)
      go_simp
      refine (CallsIn.inRound l (callsIn_wide.2 KW.out)).mono ?_
      rintro e w2 ⟨rfl, hb2⟩
      have hc2 := (hb2.cell (p := ⟨w0.heap.size, 0, none⟩) hlt).trans hc
      have hlt2 : w0.heap.size < w2.heap.size := Nat.lt_of_lt_of_le hlt hb2.size
      refine hK _ _ ?_
      clear hK K
      refine wpAnyIn_ready (rs := [4]) (by kernel_rfl) (by simp) (AllReadyIn.cons rfl (fun K hK => ?_) AllReadyIn.nil)
      go_simp
      refine hK _ _ ?_
      clear hK K
    case' n5 =>
      go_simp
      refine hK _ _ ?_
      clear hK K
      refine wpAnyIn_ready (rs := [2]) (by kernel_rfl) (by simp) (AllReadyIn.cons rfl (fun K hK => ?_) AllReadyIn.nil)
      go_simp
      refine hK _ _ ?_
      clear hK K
      refine wpAnyIn_ready (rs := [3]) (by kernel_rfl) (by simp) (AllReadyIn.cons rfl (fun K hK => ?_) AllReadyIn.nil)
      go_simp
      refine (CallsIn.inRound l (callsIn_wide.2 KW.out)).mono ?_
      rintro e w2 ⟨rfl, hb2⟩
      have hc2 := (hb2.cell (p := ⟨w0.heap.size, 0, none⟩) hlt).trans hc
      have hlt2 : w0.heap.size < w2.heap.size := Nat.lt_of_lt_of_le hlt hb2.size
      refine hK _ _ ?_
      clear hK K
      refine wpAnyIn_ready (rs := [4]) (by kernel_rfl) (by simp) (AllReadyIn.cons rfl (fun K hK => ?_) AllReadyIn.nil)
      go_simp
      refine hK _ _ ?_
      clear hK K
    case' n6 =>
      go_simp
      refine hK _ _ ?_
      clear hK K
      refine wpAnyIn_ready (rs := [0, 3]) (by kernel_rfl) (by simp) (AllReadyIn.cons rfl (fun K hK => ?n9) (AllReadyIn.cons rfl (fun K hK => ?n10) AllReadyIn.nil))
    case' n7 =>
      go_simp
      refine hK _ _ ?_
      clear hK K
      refine wpAnyIn_ready (rs := [1]) (by kernel_rfl) (by simp) (AllReadyIn.cons rfl (fun K hK => ?_) AllReadyIn.nil)
      go_simp
      refine hK _ _ ?_
      clear hK K
      refine wpAnyIn_ready (rs := [3]) (by kernel_rfl) (by simp) (AllReadyIn.cons rfl (fun K hK => ?_) AllReadyIn.nil)
      go_simp
      refine (CallsIn.inRound l (callsIn_wide.2 KW.out)).mono ?_
      rintro e w2 ⟨rfl, hb2⟩
      have hc2 := (hb2.cell (p := ⟨w0.heap.size, 0, none⟩) hlt).trans hc
      have hlt2 : w0.heap.size < w2.heap.size := Nat.lt_of_lt_of_le hlt hb2.size
      refine hK _ _ ?_
      clear hK K
      refine wpAnyIn_ready (rs := [4]) (by kernel_rfl) (by simp) (AllReadyIn.cons rfl (fun K hK => ?_) AllReadyIn.nil)
      go_simp
      refine hK _ _ ?_
      clear hK K
    case' n8 =>
      go_simp
      refine hK _ _ ?_
      clear hK K
      refine wpAnyIn_ready (rs := [0, 3]) (by kernel_rfl) (by simp) (AllReadyIn.cons rfl (fun K hK => ?n11) (AllReadyIn.cons rfl (fun K hK => ?n12) AllReadyIn.nil))
    case' n9 =>
      go_simp
      refine hK _ _ ?_
      clear hK K
      refine wpAnyIn_ready (rs := [3]) (by kernel_rfl) (by simp) (AllReadyIn.cons rfl (fun K hK => ?_) AllReadyIn.nil)
      go_simp
      refine (CallsIn.inRound l (callsIn_wide.2 KW.out)).mono ?_
      rintro e w2 ⟨rfl, hb2⟩
      have hc2 := (hb2.cell (p := ⟨w0.heap.size, 0, none⟩) hlt).trans hc
      have hlt2 : w0.heap.size < w2.heap.size := Nat.lt_of_lt_of_le hlt hb2.size
      refine hK _ _ ?_
      clear hK K
      refine wpAnyIn_ready (rs := [4]) (by kernel_rfl) (by simp) (AllReadyIn.cons rfl (fun K hK => ?_) AllReadyIn.nil)
      go_simp
      refine hK _ _ ?_
      clear hK K
    case' n10 =>
      go_simp
      refine (CallsIn.inRound l (callsIn_wide.2 KW.out)).mono ?_
      rintro e w2 ⟨rfl, hb2⟩
      have hc2 := (hb2.cell (p := ⟨w0.heap.size, 0, none⟩) hlt).trans hc
      have hlt2 : w0.heap.size < w2.heap.size := Nat.lt_of_lt_of_le hlt hb2.size
      refine hK _ _ ?_
      clear hK K
      refine wpAnyIn_ready (rs := [0, 4]) (by kernel_rfl) (by simp) (AllReadyIn.cons rfl (fun K hK => ?n13) (AllReadyIn.cons rfl (fun K hK => ?n14) AllReadyIn.nil))
    case' n11 =>
      go_simp
      refine hK _ _ ?_
      clear hK K
      refine wpAnyIn_ready (rs := [3]) (by kernel_rfl) (by simp) (AllReadyIn.cons rfl (fun K hK => ?_) AllReadyIn.nil)
      go_simp
      refine (CallsIn.inRound l (callsIn_wide.2 KW.out)).mono ?_
      rintro e w2 ⟨rfl, hb2⟩
      have hc2 := (hb2.cell (p := ⟨w0.heap.size, 0, none⟩) hlt).trans hc
      have hlt2 : w0.heap.size < w2.heap.size := Nat.lt_of_lt_of_le hlt hb2.size
      refine hK _ _ ?_
      clear hK K
      refine wpAnyIn_ready (rs := [4]) (by kernel_rfl) (by simp) (AllReadyIn.cons rfl (fun K hK => ?_) AllReadyIn.nil)
      go_simp
      refine hK _ _ ?_
      clear hK K
    case' n12 =>
      go_simp
      refine (CallsIn.inRound l (callsIn_wide.2 KW.out)).mono ?_
      rintro e w2 ⟨rfl, hb2⟩
      have hc2 := (hb2.cell (p := ⟨w0.heap.size, 0, none⟩) hlt).trans hc
      have hlt2 : w0.heap.size < w2.heap.size := Nat.lt_of_lt_of_le hlt hb2.size
      refine hK _ _ ?_
      clear hK K
      refine wpAnyIn_ready (rs := [0, 4]) (by kernel_rfl) (by simp) (AllReadyIn.cons rfl (fun K hK => ?n15) (AllReadyIn.cons rfl (fun K hK => ?n16) AllReadyIn.nil))
    case' n13 =>
      go_simp
      refine hK _ _ ?_
      clear hK K
      refine wpAnyIn_ready (rs := [4]) (by kernel_rfl) (by simp) (AllReadyIn.cons rfl (fun K hK => ?_) AllReadyIn.nil)
      go_simp
      refine hK _ _ ?_
      clear hK K
    case' n14 =>
      go_simp
      refine hK _ _ ?_
      clear hK K
      refine wpAnyIn_ready (rs := [0]) (by kernel_rfl) (by simp) (AllReadyIn.cons rfl (fun K hK => ?_) AllReadyIn.nil)
      go_simp
      refine hK _ _ ?_
      clear hK K
    case' n15 =>
      go_simp
      refine hK _ _ ?_
      clear hK K
      refine wpAnyIn_ready (rs := [4]) (by kernel_rfl) (by simp) (AllReadyIn.cons rfl (fun K hK => ?_) AllReadyIn.nil)
      go_simp
      refine hK _ _ ?_
      clear hK K
    case' n16 =>
      go_simp
      refine hK _ _ ?_
      clear hK K
      refine wpAnyIn_ready (rs := [0]) (by kernel_rfl) (by simp) (AllReadyIn.cons rfl (fun K hK => ?_) AllReadyIn.nil)
      go_simp
      refine hK _ _ ?_
      clear hK K

    all_goals
      have hv2' : Boxed w2 w0.heap.size 71 v1 := (hb2.block _ hlt).trans HV.out
      have hk2 : ∀ k, A1 k → w2.heap[k]? = W.heap[k]? := fun k hk => hb2.block k (HBD.out k hk)
      have hrow2 : w2.ownsRow (w.heap.size + 1) 63 3 v1 pl.length (flatR pl) := own_keep HROW.out (fun g hg => hk2 g ((HAV.out g).2 (.inl (.inr hg))))
      have hW2 := hb2.size
      refine wpAnyIn_ready (rs := [5]) (by kernel_rfl) (by simp) (AllReadyIn.cons rfl (fun K hK => ?_) AllReadyIn.nil)
      refine stepIn_where rfl _ _ 71 rfl (w.heap.size + 1) 63 i0 (.agg #[.int .i64 0, .int .i64 0, .int .i64 0]) 3 24 Try.underlying71 hi hz0 hz1 hz2 rfl (by decide) v1 pl.length (flatR pl) rfl (hrow2.alloc (.cells #[.int .i64 z0, .int .i64 z1, .int .i64 z2] 63)) ⟨w2.heap.size, 0, none⟩ 1 1 (encR (z0, z1, z2)) rfl rfl (encR_cells (World.alloc_heap_new w2 _)) (encR_one _) (by unfold maxLen; omega) (by omega) (by show _ ≤ (w2.alloc _).heap.size; rw [World.size_alloc]; omega) ?_
      intro v' w4 hown' hgrow hwh
      obtain ⟨g', cap', rfl⟩ := ownsRow_succ hown'
      have hgrow' : (w2.alloc (.cells #[.int .i64 z0, .int .i64 z1, .int .i64 z2] 63)).grownBy w4 v1.ownBlock := ⟨hgrow.os, hgrow.tape, hgrow.output, hgrow.size, hgrow.block⟩
      obtain ⟨hv1, hv2, hr2, ht2⟩ := app_trip hv2' (by decide) hrow2 hown' hgrow' hwh
      have hc1 := hv1.cell
      have hf1 := hv1.frozen
      have POST := Lib.hid (list_next HAV.out HBD.out (show Below W.heap.size W w2 from ((Below.refl W.heap.size W).drew).trans hb2) HE.out (by omega) hdl hml (by omega) hrow2 hv2 hr2 ht2 (by simp))
      refine hK _ _ ?_
      clear hK K
      refine wpAnyIn_ready (rs := [6]) (by kernel_rfl) (by simp) (AllReadyIn.cons rfl (fun K hK => ?_) AllReadyIn.nil)
      go_simp
      refine hK _ _ ?_
      clear hK K
      refine wpAnyIn_done (by kernel_rfl) ?_ _
      gi_wp2
      obtain ⟨A2, ht, hl⟩ := POST.out
      refine ⟨A2, ht, ?_⟩
      show ListAt w3 _ _ _ _ _ (T.take (pre ++ [(x2, z0, z2)]).length) _ _
      rw [List.length_append, List.length_singleton, HTK.out]
      exact hl
  case done =>
    rintro D A2 W ht hnD hD ⟨v1, hv, hrow, hAv, eH, ed, em⟩ hK
    rw [numQ_length, qL_length, List.take_length] at hrow
    have hc := hv.cell
    have hbw : Below w.heap.size w W := by
      have hs := HB3.out.size
      have hs2 := ht.size
      refine ⟨ht.os.trans HB3.out.os, ht.tape.trans HB3.out.tape, ht.output.trans HB3.out.output, by omega, fun k hk => ?_⟩
      by_cases h1 : k = d
      · subst h1; exact ed.trans (HB3.out.block k hk)
      · by_cases h2 : k = m
        · subst h2; exact em.trans (HB3.out.block k hk)
        · refine (ht.block k (by omega) ?_).trans (HB3.out.block k hk)
          rintro ((h | h) | h | h | h)
          · omega
          · simp [Value.ownBlock] at h; omega
          · omega
          · exact h1 h
          · exact h2 h
    have HBW := Lib.hid hbw
    have HROW := Lib.hid hrow
    clear ht hAv hbw hrow eH ed em hseq hrow3 hold
    gi_wp2
    refine ⟨by simp, .inl ⟨_, _, rfl, run_takeDeferred hK, ?_⟩⟩
    refine ⟨_, results_tmp rfl _ _ _, v1, rfl, own_less (ownsRow_putObj HROW.out (.deferred none) hK rfl) (by omega), below_putObj HBW.out (by omega) _⟩
  case stop =>
    rintro D c pre A2 W _ _ _ _ h _
    exact h.elim
end Go.Proofs.Ytaodkfnbmpbcfaa
