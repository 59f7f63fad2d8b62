/- The queue of points: List. -/
import Derived.Test.YtandmngfajoinaaGreatSg
import Derived.Test.YtandmngfajoinaaGreatStl
namespace Go.Proofs.YtandmngfajoinaaGreat
open Go.RowKit Go.Shelf
attribute [local go_sem] Oper.semAt_some wide_fn wide_depth

set_option maxRecDepth 100000 in
set_option maxHeartbeats 8000000 in
/-- q.List(). -/
theorem slist_c (s b mp mw : Nat) (v : Value) (st base cur : Int) (L : List QI) (R : List RI) (w : World) (h : IsS w s b mp mw v st base cur L R) :
    Calls Tryz.prog 64 #[.pointer (some ⟨s, 0, none⟩)] w fun e w' => ∃ g c, e = .returned (.slice (some ⟨g, 0, none⟩) R.length c) ∧ TRow w' (some ⟨g, 0, none⟩) (L.map (itF R)) ∧ Below w.heap.size w w' ∧ w.heap.size ≤ g ∧ g < w'.heap.size := by
  obtain ⟨i0, hi, hz0, hz1, hz2⟩ := info_parts info_pt
  have hsl := h.box.lt
  have hml := h.wm.lt
  have hbl := h.q.box.lt
  obtain ⟨wa, hwa⟩ : ∃ wa, w.alloc (.cells #[.pointer (some ⟨s, 0, none⟩)] 106) = wa := ⟨_, rfl⟩
  have hba : Below w.heap.size w wa := by rw [← hwa]; exact (Below.refl _ w).alloc (Nat.le_refl _) _
  have hsa : wa.heap.size = w.heap.size + 1 := by rw [← hwa]; simp
  have hqa : wa.heap[w.heap.size]? = some (.cells #[.pointer (some ⟨s, 0, none⟩)] 106 (0, 0)) := by rw [← hwa]; exact heap_alloc_new w _
  have ha := h.below hba
  have KL := Lib.hid (qlen_c b mp 64 st v L wa ha.q)
  have HS := Lib.hid h
  obtain ⟨n, hn⟩ : ∃ n, R.length = n := ⟨_, rfl⟩
  have hLn : L.length = n := (perm_len h.perm).trans hn
  have hL : n ≤ 64 := by rw [← hn]; exact h.wf.len
  rw [hLn] at KL
  rw [hn]
  have HN := Lib.hid hn
  have HLN := Lib.hid hLn
  have HBA := Lib.hid hba
  have q0 : wa.cell? ⟨w.heap.size, 0, none⟩ = some (.pointer (some ⟨s, 0, none⟩)) := by simp [World.cell?, hqa]
  obtain ⟨-, -, q2, -, -, -⟩ := ha.box.cells
  have hqc : ∀ w0 : World, wa.grownBy w0 none → w0.cell? ⟨w.heap.size, 0, none⟩ = some (.pointer (some ⟨s, 0, none⟩)) ∧ w0.cell? ⟨s, 2, none⟩ = some (.pointer (some ⟨b, 0, none⟩)) ∧ w.heap.size < w0.heap.size ∧ s < w0.heap.size := fun w0 hg => by
    have h1 := (hg.block w.heap.size (by omega) (by simp)).trans hqa
    have h2 := cellq_of (hg.block s (by omega) (by simp)) 2
    exact ⟨by simp [World.cell?, h1], h2.trans q2, by have := hg.size; omega, by have := hg.size; omega⟩
  have HQC := Lib.hid hqc
  have HQA := Lib.hid hqa
  clear hqc hn hLn h ha hqa hba
  refine (callsIn_wide (n := 0)).1 ?_
  refine callsIn_of_wp_marks Tryz.func64 rfl trivial ?_ rfl
  simp only [Tryz.ntmps64, List.size_toArray, List.length_cons, List.length_nil, Nat.reduceAdd, Nat.reduceSub, Array.replicate_succ, Array.replicate_zero, List.push_toArray, List.append_toArray, List.nil_append, List.cons_append]
  gi_wp2_with (first
    | (gi_at_call 70; refine (callsIn_wide.2 (KL.out)).mono ?_; rintro e w' ⟨rfl, rfl⟩)
    | (gi_at_make; refine wpListIn_make_own _ rfl _ _ 117 rfl (w.heap.size + 1) 120 i0 (.agg #[.int .i64 0, .int .i64 0, .int .i64 0]) 3 Tryz.underlying117 hi hz0 hz1 .i64 .i64 n n rfl rfl rfl (by rw [hz2]; omega) (by unfold maxLen; omega) (by omega) ?_; intro w0 hown hgr; obtain ⟨g1, g2, g3, g4⟩ := HQC.out _ hgr; have HO := Lib.hid hown; have HG := Lib.hid hgr; clear hown hgr)
    | (gi_at_call 71; refine (callsIn_wide.2 (qall_c b _)).mono ?_; rintro e w' ⟨rfl, rfl⟩))
  have hg := HG.out
  have hown := HO.out
  rw [hsa] at hown
  have hg0 : w.heap.size + 1 < w0.heap.size := (World.ownsRow.lt hown _ rfl).2
  obtain ⟨w3, hw3⟩ : ∃ w3, (w0.alloc (Obj.cells #[Value.slice (some ⟨w.heap.size + 1, 0, none⟩) 0 n] 117)).alloc (Obj.cells #[Value.pointer (some ⟨b, 0, none⟩)] 125) = w3 := ⟨_, rfl⟩
  have bO : Boxed w3 w0.heap.size 117 (.slice (some ⟨w.heap.size + 1, 0, none⟩) 0 n) := by rw [← hw3]; exact (Boxed.new w0 117 _).alloc _
  have hs3 : w3.heap.size = w0.heap.size + 2 := by rw [← hw3]; simp
  have ho3 : ∀ k, k < w0.heap.size → w3.heap[k]? = w0.heap[k]? := fun k hk => by rw [← hw3, Below.heap_alloc _ _ _ (by simp; omega), Below.heap_alloc _ _ _ hk]
  have hr3 : w3.heap[w0.heap.size + 1]? = some (.cells #[.pointer (some ⟨b, 0, none⟩)] 125 (0, 0)) := by rw [← hw3]; exact heap_alloc2_new _ _ _
  have hrow3 : w3.ownsRow (w.heap.size + 1) 120 3 (.slice (some ⟨w.heap.size + 1, 0, none⟩) 0 n) 0 [] := by rw [← hw3]; exact (hown.alloc _).alloc _
  have hold : ∀ k, k < wa.heap.size → w3.heap[k]? = wa.heap[k]? := fun k hk => (ho3 k (by omega)).trans (hg.block k hk (by simp))
  have kH : w3.heap[w.heap.size]? = some (.cells #[.pointer (some ⟨s, 0, none⟩)] 106 (0, 0)) := (hold _ (by omega)).trans HQA.out
  have hb3 : Below w.heap.size w w3 := HBA.out.trans ⟨by rw [← hw3]; exact hg.os, by rw [← hw3]; exact hg.tape, by rw [← hw3]; exact hg.output, by omega, fun k hk => hold k (by omega)⟩
  have hd3 := HS.out.below hb3
  have hseq := qall1_gives (w0.heap.size + 1) b mp 64 st v L w3 hr3 hd3.q (by rw [HLN.out]; omega)
  rw [hw3]
  have HB3 := Lib.hid hb3
  have HD3 := Lib.hid hd3
  have HLT := Lib.hid hd3.lt
  clear hw3 hg hown hr3 ho3 HO HG hb3 g1 g2 HQA HQC KL q0 q2
  refine wpRb (α := Nat × QI) (gf := 80) (lb := #[.pointer (some ⟨w0.heap.size + 1, 0, none⟩)]) rfl (enters_of Tryz.func80 (by kernel_rfl) rfl) hseq (fun _ => rfl) (fun k => (k = w0.heap.size ∨ (Value.slice (some ⟨w.heap.size + 1, 0, none⟩) 0 n).ownBlock = some k) ∨ k = w.heap.size ∨ k = s ∨ k = mw) ?hA ?hR
    (fun pre => ListAt w3 (w.heap.size + 1) w0.heap.size w.heap.size s mw ((L.take pre.length).map (itF R))) (fun _ _ _ _ => False) (listAt_loc (fun pre : List (Nat × QI) => (L.take pre.length).map (itF R)) _ _ _ _ _ _) (fun _ _ _ _ _ hs _ => hs) ?h0
    (fun x => .cells (encQ x.2).toArray 136)
    (fun x r => { tmps := #[.pointer (some ⟨s, 0, none⟩), .pointer (some ⟨w.heap.size, 0, none⟩), .slice none 0 0, .pointer (some ⟨w0.heap.size, 0, none⟩), undef, .pointer (some ⟨r, 0, none⟩), .pointer (some ⟨s, 0, none⟩), .pointer (some ⟨s, 0, none⟩), .pointer (some ⟨s, 2, none⟩), .pointer (some ⟨b, 0, none⟩), .int .i64 n, .slice (some ⟨w.heap.size + 1, 0, none⟩) 0 n, .pointer (some ⟨s, 0, none⟩), .pointer (some ⟨s, 0, none⟩), .pointer (some ⟨s, 2, none⟩), .pointer (some ⟨b, 0, none⟩), .func (.func 80) #[] #[.pointer (some ⟨w0.heap.size + 1, 0, none⟩)], .int .i64 x.1, .agg (encQ x.2).toArray, undef, undef, undef, undef, undef, undef, undef, undef, undef, undef, undef, undef, undef, undef, undef, undef], defers := [] }) ?assign ?body ?done ?stop
  case hA =>
    rintro k ((rfl | hk) | rfl | rfl | rfl)
    · omega
    · simp [Value.ownBlock] at hk; omega
    · omega
    · omega
    · omega
  case hR =>
    have hn1 := HD3.out.n2
    have hn2 := HD3.out.n3
    have hq := HS.out.q.lt
    have hno : ∀ k, QOf b v mp k → ¬ ((k = w0.heap.size ∨ (Value.slice (some ⟨w.heap.size + 1, 0, none⟩) 0 n).ownBlock = some k) ∨ k = w.heap.size ∨ k = s ∨ k = mw) := fun k hk => by
      have := hq k hk
      rintro ((h | h) | h | h | h)
      · omega
      · simp [Value.ownBlock] at h; omega
      · omega
      · exact hn1 (h ▸ hk)
      · exact hn2 (h ▸ hk)
    rintro k (rfl | rfl | hk)
    · refine ⟨by omega, rfl, ?_⟩
      rintro ((h | h) | h | h | h)
      · omega
      · simp [Value.ownBlock] at h; omega
      · omega
      · omega
      · omega
    · exact ⟨by omega, rfl, hno _ (.inl rfl)⟩
    · have := hq k (.inr (.inr hk))
      exact ⟨by omega, rfl, hno _ (.inr (.inr hk))⟩
  case h0 => exact ⟨_, ⟨_, _, _, rfl⟩, bO, hrow3, fun _ => Iff.rfl, rfl, rfl, rfl⟩
  case assign =>
    intro l x W K hK
    obtain ⟨x2, x0, x1⟩ := x
    simp only [encQ] at hK ⊢
    gi_wp2
    exact hK
  case body =>
    rintro l pre x A1 W r ⟨v1, hv0, hv, hrow, hAv, eH, ed, em⟩ hpre hbd hrA hbox
    obtain ⟨x2, y0, y1⟩ := x
    have hgx : (numQ 0 L)[pre.length]? = some (x2, y0, y1) := by
      obtain ⟨t, ht⟩ := hpre
      rw [← ht]
      simp
    have hrr : L[pre.length]? = some (y0, y1) := numQ_get hgx
    have hrl : r < W.heap.size := (Array.getElem?_eq_some_iff.1 hbox).1
    have hc := hv.cell
    have hlt := hv.lt
    have hmem : (y0, y1) ∈ L := List.mem_of_getElem? hrr
    obtain ⟨rr, hr1, hr2, hr3⟩ := mem_pL.1 (HD3.out.perm.mem_iff.1 hmem)
    simp only at hr2 hr3
    have hget := getI_of HD3.out.wf.asc hr1
    rw [hr3] at hget
    have hbo : SBox W s base cur b mw := HD3.out.box.keep ed
    have hwm : WMap W mw (wL R) := HD3.out.wm.keep em
    have heach := HD3.out.wf.each _ hr1
    have hid := (HD3.out.id64 hr1).1
    rw [hr3] at hid heach
    rw [hr2] at heach
    have htk : L.take (pre.length + 1) = L.take pre.length ++ [(y0, y1)] := by rw [List.take_add_one, hrr]; rfl
    have hpl : ((L.take pre.length).map (itF R)).length + 1 ≤ 1000000 := by rw [List.length_map, List.length_take, HLN.out]; omega
    obtain ⟨z1, hz1'⟩ : ∃ z1, (getI R y1).2.1 = z1 := ⟨_, rfl⟩
    have hit : itF R (y0, y1) = (y1, z1, y0) := by unfold itF; rw [hz1']
    have hxw : (z1, y1) ∈ wL R := mem_wL.2 ⟨rr, hr1, by rw [← hz1', hget], hr3⟩
    have hlook : ∀ w', w'.heap[mw]? = W.heap[mw]? → (Instr.lookup 126 (.map (some mw)) (.int .i64 y1) false).run Tryz.prog w' = .ok (.int .i64 z1) w' := fun w' hw' => (hwm.keep hw').look1 (x := (z1, y1)) hxw hid
    obtain ⟨g1, n1, c1, rfl⟩ := hv0
    have b0 : W.cell? ⟨r, 0, none⟩ = some (.int .i64 y0) := by simp [World.cell?, hbox, encQ]
    have b1 : W.cell? ⟨r, 1, none⟩ = some (.int .i64 y1) := by simp [World.cell?, hbox, encQ]
    have b2 : W.cell? ⟨w.heap.size, 0, none⟩ = some (.pointer (some ⟨s, 0, none⟩)) := by simp [World.cell?, eH.trans kH]
    obtain ⟨-, -, -, b3, -, -⟩ := hbo.cells
    have hHl : w.heap.size < W.heap.size := cell_lt0 b2
    have hsl2 : s < W.heap.size := hbo.lt
    have hml2 : mw < W.heap.size := hwm.lt
    have HS0 : Hid ((fun w' => w'.cell? ⟨w0.heap.size, 0, none⟩ = some (.slice (some ⟨g1, 0, none⟩) n1 c1) ∧ w'.cell? ⟨r, 1, none⟩ = some (.int .i64 y1) ∧ w'.cell? ⟨r, 0, none⟩ = some (.int .i64 y0) ∧ w'.cell? ⟨w.heap.size, 0, none⟩ = some (.pointer (some ⟨s, 0, none⟩)) ∧ w'.cell? ⟨s, 3, none⟩ = some (.map (some mw)) ∧ w'.heap[mw]? = W.heap[mw]?) W.drew) := Lib.hid ⟨hc, b1, b0, b2, b3, rfl⟩
    have HKEEP : Hid (∀ w2, Below W.heap.size W w2 → (fun w' => w'.cell? ⟨w0.heap.size, 0, none⟩ = some (.slice (some ⟨g1, 0, none⟩) n1 c1) ∧ w'.cell? ⟨r, 1, none⟩ = some (.int .i64 y1) ∧ w'.cell? ⟨r, 0, none⟩ = some (.int .i64 y0) ∧ w'.cell? ⟨w.heap.size, 0, none⟩ = some (.pointer (some ⟨s, 0, none⟩)) ∧ w'.cell? ⟨s, 3, none⟩ = some (.map (some mw)) ∧ w'.heap[mw]? = W.heap[mw]?) w2) := Lib.hid (fun w2 hb => ⟨(hb.cell (p := ⟨w0.heap.size, 0, none⟩) hlt).trans hc, (hb.cell (p := ⟨r, 1, none⟩) hrl).trans b1, (hb.cell (p := ⟨r, 0, none⟩) hrl).trans b0, (hb.cell (p := ⟨w.heap.size, 0, none⟩) hHl).trans b2, (hb.cell (p := ⟨s, 3, none⟩) hsl2).trans b3, hb.block mw hml2⟩)
    have HLOOK := Lib.hid hlook
    have HTK := Lib.hid htk
    have HIT := Lib.hid hit
    have HAV := Lib.hid hAv
    have HBD := Lib.hid hbd
    have HV := Lib.hid hv
    have HROW := Lib.hid hrow
    have HE := Lib.hid (And.intro eH (And.intro ed em))
    have HPL := Lib.hid hpl
    have HLEN : Hid (pre.length = (numQ 0 L).length ∨ True) := Lib.hid (.inr trivial)
    have hmx : Tryz.prog.follows .mixedOrders = true := by kernel_rfl
    simp only [encQ]
    clear hgx hpre hrr hbox htk hmem hAv hbd hv hrow eH ed em hlook hit hxw hz1' hget hbo hwm heach hid hr1 hr2 hr3 hpl HLEN b0 b1 b2 b3 hc
    gi_wp2
    refine wpIn_region_phaseR 15 hmx (by kernel_rfl) (by kernel_rfl) (fun w' => w'.cell? ⟨w0.heap.size, 0, none⟩ = some (.slice (some ⟨g1, 0, none⟩) n1 c1) ∧ w'.cell? ⟨r, 1, none⟩ = some (.int .i64 y1) ∧ w'.cell? ⟨r, 0, none⟩ = some (.int .i64 y0) ∧ w'.cell? ⟨w.heap.size, 0, none⟩ = some (.pointer (some ⟨s, 0, none⟩)) ∧ w'.cell? ⟨s, 3, none⟩ = some (.map (some mw)) ∧ w'.heap[mw]? = W.heap[mw]?) ?_
    refine wpAnyH_take (i := 0) (v := .slice (some ⟨g1, 0, none⟩) n1 c1) rfl (by kernel_rfl) (by kernel_rfl) (by kernel_rfl) (fun _ _ _ h => h) (Or.inl ⟨by rfl, ?_⟩) HS0.out ?_
    · rintro w' ⟨t1, t2, t3, t4, t5, t6⟩; go_simp
    simp only [Act.put, List.setIfInBounds_toArray]
    refine wpAnyH_take (i := 1) (v := .pointer (some ⟨r, 1, none⟩)) rfl (by kernel_rfl) (by kernel_rfl) (by kernel_rfl) (fun _ _ _ h => h) (Or.inl ⟨by rfl, ?_⟩) HS0.out ?_
    · rintro w' ⟨t1, t2, t3, t4, t5, t6⟩; go_simp
    simp only [Act.put]
    refine wpAnyH_take (i := 2) (v := .int .i64 y1) rfl (by kernel_rfl) (by kernel_rfl) (by kernel_rfl) (fun _ _ _ h => h) (Or.inl ⟨by rfl, ?_⟩) HS0.out ?_
    · rintro w' ⟨t1, t2, t3, t4, t5, t6⟩; go_simp
    simp only [Act.put]
    refine wpAnyH_take (i := 3) (v := .pointer (some ⟨s, 0, none⟩)) rfl (by kernel_rfl) (by kernel_rfl) (by kernel_rfl) (fun _ _ _ h => h) (Or.inl ⟨by rfl, ?_⟩) HS0.out ?_
    · rintro w' ⟨t1, t2, t3, t4, t5, t6⟩; go_simp
    simp only [Act.put]
    refine wpAnyH_take (i := 4) (v := .pointer (some ⟨s, 0, none⟩)) rfl (by kernel_rfl) (by kernel_rfl) (by kernel_rfl) (fun _ _ _ h => h) (Or.inl ⟨by rfl, ?_⟩) HS0.out ?_
    · rintro w' ⟨t1, t2, t3, t4, t5, t6⟩; go_simp
    simp only [Act.put]
    refine wpAnyH_take (i := 5) (v := .pointer (some ⟨s, 3, none⟩)) rfl (by kernel_rfl) (by kernel_rfl) (by kernel_rfl) (fun _ _ _ h => h) (Or.inl ⟨by rfl, ?_⟩) HS0.out ?_
    · rintro w' ⟨t1, t2, t3, t4, t5, t6⟩; go_simp
    simp only [Act.put]
    refine wpAnyH_take (i := 6) (v := .map (some mw)) rfl (by kernel_rfl) (by kernel_rfl) (by kernel_rfl) (fun _ _ _ h => h) (Or.inl ⟨by rfl, ?_⟩) HS0.out ?_
    · rintro w' ⟨t1, t2, t3, t4, t5, t6⟩; go_simp
    simp only [Act.put]
    refine wpAnyH_take (i := 7) (v := .pointer (some ⟨r, 1, none⟩)) rfl (by kernel_rfl) (by kernel_rfl) (by kernel_rfl) (fun _ _ _ h => h) (Or.inl ⟨by rfl, ?_⟩) HS0.out ?_
    · rintro w' ⟨t1, t2, t3, t4, t5, t6⟩; go_simp
    simp only [Act.put]
    refine wpAnyH_take (i := 8) (v := .int .i64 y1) rfl (by kernel_rfl) (by kernel_rfl) (by kernel_rfl) (fun _ _ _ h => h) (Or.inl ⟨by rfl, ?_⟩) HS0.out ?_
    · rintro w' ⟨t1, t2, t3, t4, t5, t6⟩; go_simp
    simp only [Act.put]
    refine wpAnyH_take (i := 9) (v := .int .i64 z1) rfl (by kernel_rfl) (by kernel_rfl) (by kernel_rfl) (fun _ _ _ h => h) (Or.inl ⟨by rfl, ?_⟩) HS0.out ?_
    · rintro w' ⟨t1, t2, t3, t4, t5, t6⟩; have hlk := HLOOK.out w' t6; go_simp
    simp only [Act.put]
    refine wpAnyH_take (i := 10) (v := .pointer (some ⟨r, 0, none⟩)) rfl (by kernel_rfl) (by kernel_rfl) (by kernel_rfl) (fun _ _ _ h => h) (Or.inl ⟨by rfl, ?_⟩) HS0.out ?_
    · rintro w' ⟨t1, t2, t3, t4, t5, t6⟩; go_simp
    simp only [Act.put]
    refine wpAnyH_take (i := 11) (v := .int .i64 y0) rfl (by kernel_rfl) (by kernel_rfl) (by kernel_rfl) (fun _ _ _ h => h) (Or.inl ⟨by rfl, ?_⟩) HS0.out ?_
    · rintro w' ⟨t1, t2, t3, t4, t5, t6⟩; go_simp
    simp only [Act.put]
    refine wpAnyH_take (i := 12) (v := .agg #[.int .i64 y1, .int .i64 z1, .int .i64 y0]) rfl (by kernel_rfl) (by kernel_rfl) (by kernel_rfl) (fun _ _ _ h => h) (Or.inl ⟨by rfl, ?_⟩) HS0.out ?_
    · rintro w' ⟨t1, t2, t3, t4, t5, t6⟩; go_simp
    simp only [Act.put]
    have hb2' : Below W.heap.size W W.drew := (Below.refl _ W).drew
    refine wpAnyH_ready (rs := [13]) (by kernel_rfl) (by simp) ?_
    refine AllReadyH.cons rfl (fun K hK => ?_) AllReadyH.nil
    go_simp
    have hb4 : Below W.heap.size W (W.drew.alloc (.cells #[.int .i64 y1, .int .i64 z1, .int .i64 y0] 120)) := hb2'.alloc hb2'.size _
    refine hK.out _ _ (HKEEP.out _ hb4) (fun _ => ?_)
    clear hK
    refine wpAnyH_ready (rs := [14]) (by kernel_rfl) (by simp) ?_
    refine AllReadyH.cons rfl (fun K hK => ?_) AllReadyH.nil
    have hs2 := hb2'.size
    have hs4 := hb4.size
    have hg1 := World.ownsRow.lt HROW.out g1 rfl
    have hrow2 : W.drew.ownsRow (w.heap.size + 1) 120 3 (.slice (some ⟨g1, 0, none⟩) n1 c1) ((L.take pre.length).map (itF R)).length (flatR ((L.take pre.length).map (itF R))) := own_keep HROW.out (fun g hg => hb2'.block g (World.ownsRow.lt HROW.out g hg).2)
    have hv2 : Boxed W.drew w0.heap.size 117 (.slice (some ⟨g1, 0, none⟩) n1 c1) := (hb2'.block _ hlt).trans HV.out
    obtain ⟨v', w5, hrun, r1, r2, r3⟩ := run_append_where (P := Tryz.prog) (W.drew.alloc (.cells #[.int .i64 y1, .int .i64 z1, .int .i64 y0] 120)) (w.heap.size + 1) 117 117 120 i0 (.agg #[.int .i64 0, .int .i64 0, .int .i64 0]) 3 24 Tryz.underlying117 hi hz0 hz1 hz2 rfl (by decide) (.slice (some ⟨g1, 0, none⟩) n1 c1) _ _ (hrow2.alloc _) ⟨W.drew.heap.size, 0, none⟩ 1 1 (encR (y1, z1, y0)) rfl (encR_cells (World.alloc_heap_new W.drew _)) (encR_one _) (by have := HPL.out; unfold maxLen; omega) (by have := HPL.out; omega) (by simp; omega)
    obtain ⟨g', cap', rfl⟩ := ownsRow_succ r1
    obtain ⟨hv5, hv6, hr6, ht6⟩ := app_trip hv2 (by decide) hrow2 r1 r2 r3
    have hc5 := hv5.cell
    have hf5 := hv5.frozen
    have hk5 : ∀ k, k < W.heap.size → k ≠ g1 → w5.heap[k]? = W.heap[k]? := fun k hk hne => (r2.block k (by omega) (fun e => hne (Option.some.inj e))).trans (hb4.block k hk)
    have hrg : r ≠ g1 := fun e => hrA ((HAV.out r).2 (.inl (.inr (by rw [e]; rfl))))
    have HS5 := Lib.hid (HKEEP.out W (Below.refl _ W))
    refine step_appN rfl _ _ _ _ rfl hrun rfl rfl ?_
    refine hK.out _ _ ⟨hc5, (cellq_of (hk5 r hrl hrg) 1).trans HS5.out.2.1, (cellq_of (hk5 r hrl hrg) 0).trans HS5.out.2.2.1, (cellq_of (hk5 _ hHl (by omega)) 0).trans HS5.out.2.2.2.1, (cellq_of (hk5 s hsl2 (by omega)) 3).trans HS5.out.2.2.2.2.1, hk5 mw hml2 (by omega)⟩ (fun _ => ?_)
    refine wpAnyH_done (by kernel_rfl) ?_ _
    refine phase_tail (by kernel_rfl) ?_
    have FIN := list_next (k' := ((L.take pre.length).map (itF R)).length + 1) HAV.out HBD.out hb2' HE.out (by omega) (by omega) (by omega) (by omega) ⟨_, _, _, rfl⟩ hrow2 hv6 hr6 ht6 (by simp)
    rw [← HIT.out] at FIN
    simp only [List.length_map, List.length_take] at FIN
    have HFIN := Lib.hid FIN
    clear hK hrun r1 r2 r3 hv5 hv6 hr6 ht6 hk5 hrow2 hv2 hb2' hb4 FIN
    simp only [List.drop_succ_cons, List.drop_zero]
    go_wp2_with fail
    simp only [onlyN]
    gi_wp2
    have e : (L.take (pre ++ [(x2, y0, y1)]).length).map (itF R) = (L.take pre.length).map (itF R) ++ [itF R (y0, y1)] := by rw [List.length_append, List.length_singleton, HTK.out, List.map_append]; rfl
    obtain ⟨A2, h1, h2⟩ := HFIN.out
    exact ⟨A2, h1, by show ListAt w3 _ _ _ _ _ ((L.take (pre ++ [(x2, y0, y1)]).length).map (itF R)) A2 _; rw [e]; exact h2⟩
  case done =>
    rintro D A2 W ht hnD hD ⟨v1, hv0, hv, hrow, hAv, eH, ed, em⟩ hK
    rw [numQ_length, List.take_length] at hrow
    have hc := hv.cell
    have hlt := hv.lt
    obtain ⟨g1, n1, c1, rfl⟩ := hv0
    obtain ⟨A0, c0', hfm⟩ := row_form hrow
    injection hfm with hf1 hf2 hf3
    rw [List.length_map, HLN.out] at hrow
    rw [List.length_map, HLN.out] at hf2
    subst hf2
    have hg1 := World.ownsRow.lt hrow g1 rfl
    have hbw : Below w.heap.size w W := by
      have hs := HB3.out.size
      have hs2 := ht.size
      refine ⟨ht.os.trans HB3.out.os, ht.tape.trans HB3.out.tape, ht.output.trans HB3.out.output, by omega, fun k hk => ?_⟩
      by_cases h1 : k = s
      · subst h1; exact ed.trans (HB3.out.block k hk)
      · by_cases h2 : k = mw
        · subst h2; exact em.trans (HB3.out.block k hk)
        · refine (ht.block k (by omega) ?_).trans (HB3.out.block k hk)
          rintro ((h | h) | h | h | h)
          · omega
          · simp [Value.ownBlock] at h; omega
          · omega
          · exact h1 h
          · exact h2 h
    have hDl : w.heap.size ≤ D := by omega
    have hfin : TRow (W.putObj D (.deferred none)) (some ⟨g1, 0, none⟩) (L.map (itF R)) := TRow.of_own (ownsRow_putObj hrow (.deferred none) hK rfl)
    have hbp : Below w.heap.size w (W.putObj D (.deferred none)) := ⟨hbw.os, hbw.tape, hbw.output, by rw [World.putObj_size]; exact hbw.size, fun k hk => (World.putObj_heap_other (by omega)).trans (hbw.block k hk)⟩
    have HF := Lib.hid (And.intro hfin (And.intro hbp hg1))
    clear ht hAv hbw hrow eH ed em hseq hrow3 hold hv hf1 hf3 hfin hbp
    gi_wp2
    refine ⟨by simp, .inl ⟨_, _, rfl, run_takeDeferred hK, ?_⟩⟩
    exact ⟨_, results_tmp rfl _ _ _, g1, c1, rfl, HF.out.1, HF.out.2.1, by have := HF.out.2.2.1; omega, by rw [World.putObj_size]; exact HF.out.2.2.2⟩
  case stop =>
    rintro D c pre A2 W _ _ _ _ h _
    exact h.elim
end Go.Proofs.YtandmngfajoinaaGreat
