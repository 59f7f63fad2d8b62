/- The queue of points: Form. -/
import Derived.Test.YtandmngfajoinaaGreatSs
import Derived.Test.YtandmngfajoinaaGreatSh
namespace Go.Proofs.YtandmngfajoinaaGreat
open Go.RowKit Go.Shelf

def lagF (base : Int) (r : RI) : RI := (r.1, r.2.1, base - r.2.2)
theorem trow_keep {w w' : World} {g : Nat} {l : List RI} (h : TRow w (some ⟨g, 0, none⟩) l) (hs : w'.heap[g]? = w.heap[g]?) : TRow w' (some ⟨g, 0, none⟩) l := fun i r hir => by
  obtain ⟨ad, he, h0, h1, h2⟩ := h i r hir
  obtain rfl := Option.some.inj he
  have hk : ∀ j, w'.cell? ((⟨g, 0, none⟩ : Addr).add j) = w.cell? ((⟨g, 0, none⟩ : Addr).add j) := fun j => by
    rw [addr_add]
    exact cellq_of hs _
  exact ⟨_, rfl, (hk _).trans h0, (hk _).trans h1, (hk _).trans h2⟩
/-- So many are told. -/
def FAt (w : World) (H g2 : Nat) (l' xs : List RI) (v : Value) (wr : World) : Prop :=
  Below H w wr ∧ wr.heap[H]? = some (.cells #[.int .i64 0, .slice none 0 0] 47 (0, 0)) ∧ TRow wr (some ⟨g2, 0, none⟩) l' ∧ Some0 v ∧ wr.ownsRow (H + 1) 69 3 v xs.length (flatR xs) ∧ (∀ g, v.ownBlock = some g → g ≠ g2) ∧ g2 < wr.heap.size ∧ H < g2
theorem FAt.next {w wr w5 : World} {H g2 : Nat} {l' xs : List RI} {v v' : Value} {y : RI} {o1 o2 : Obj} (h : FAt w H g2 l' xs v wr) (hH : w.heap.size = H) (h0 : Some0 v')
    (r1 : w5.ownsRow (H + 1) 69 3 v' (xs.length + 1) (flatR xs ++ encR y)) (r2 : ((wr.alloc o1).drew.alloc o2).grownBy w5 v.ownBlock) (r3 : ∀ g, v'.ownBlock = some g → v.ownBlock = some g ∨ ((wr.alloc o1).drew.alloc o2).heap.size ≤ g) :
    FAt w H g2 l' (xs ++ [y]) v' w5 ∧ ∀ k, k < wr.heap.size + 1 → v.ownBlock ≠ some k → w5.heap[k]? = (wr.alloc o1).heap[k]? := by
  obtain ⟨h1, h2, h3, h4, h5, h6, h7, h8⟩ := h
  have hsz : ((wr.alloc o1).drew.alloc o2).heap.size = wr.heap.size + 2 := by rw [World.size_alloc]; show (wr.alloc o1).heap.size + 1 = _; rw [World.size_alloc]
  have hz := h1.size
  have hk : ∀ k, k < wr.heap.size + 1 → v.ownBlock ≠ some k → w5.heap[k]? = (wr.alloc o1).heap[k]? := fun k hlt hne => (r2.block k (by omega) (fun e => hne e.symm)).trans (by
    rw [Below.heap_alloc _ _ _ (by show k < (wr.alloc o1).heap.size; rw [World.size_alloc]; exact hlt)]
    rfl)
  have hk2 : ∀ k, k < wr.heap.size → v.ownBlock ≠ some k → w5.heap[k]? = wr.heap[k]? := fun k hlt hne => (hk k (by omega) hne).trans (Below.heap_alloc wr o1 k hlt)
  have hv : ∀ g, v.ownBlock = some g → H + 1 ≤ g := fun g hg => (World.ownsRow.lt h5 g hg).1
  have hs5 := r2.size
  refine ⟨⟨⟨r2.os.trans h1.os, r2.tape.trans h1.tape, r2.output.trans h1.output, by omega, fun k hlt => (hk2 k (by omega) (fun e => by have := hv k e; omega)).trans (h1.block k hlt)⟩, (hk2 H (by omega) (fun e => by have := hv H e; omega)).trans h2, trow_keep h3 (hk2 g2 h7 (fun e => h6 g2 e rfl)), h0, ?_, fun g hg => ?_, by omega, h8⟩, hk⟩
  · rw [List.length_append, List.length_singleton, flatR_snoc]; exact r1
  · rcases r3 g hg with h | h
    · exact h6 g h
    · omega

set_option maxRecDepth 100000 in
set_option maxHeartbeats 8000000 in
/-- q.Form(). -/
theorem sform_c (s b mp mw : Nat) (v : Value) (st base cur : Int) (L : List QI) (R : List RI) (w : World) (h : IsS w s b mp mw v st base cur L R) :
    Calls Tryz.prog 133 #[.pointer (some ⟨s, 0, none⟩)] w fun e w' => ∃ g c, e = .returned (.agg #[.int .i64 cur, .slice (some ⟨g, 0, none⟩) R.length c]) ∧ TRow w' (some ⟨g, 0, none⟩) (formL base R) ∧ Below w.heap.size w w' ∧ w.heap.size ≤ g := by
  obtain ⟨i0, hi, hz0, hz1, hz2⟩ := info_parts info_oi
  have hsl := h.box.lt
  obtain ⟨wa, hwa⟩ : ∃ wa, w.alloc (.cells #[.int .i64 0, .slice none 0 0] 47) = wa := ⟨_, rfl⟩
  have hba : Below w.heap.size w wa := by rw [← hwa]; exact (Below.refl _ w).alloc (Nat.le_refl _) _
  have hsa : wa.heap.size = w.heap.size + 1 := by rw [← hwa]; simp
  have hfa : wa.heap[w.heap.size]? = some (.cells #[.int .i64 0, .slice none 0 0] 47 (0, 0)) := by rw [← hwa]; exact heap_alloc_new w _
  have ha := h.below hba
  have KL := Lib.hid (qlen_c b mp 64 st v L wa ha.q)
  have HS := Lib.hid h
  obtain ⟨n, hn⟩ : ∃ n, R.length = n := ⟨_, rfl⟩
  have hLn : L.length = n := (perm_len h.perm).trans hn
  have hL : n ≤ 64 := by rw [← hn]; exact h.wf.len
  rw [hLn] at KL
  rw [hn]
  have HN := Lib.hid hn
  have HLN : Hid ((L.map (itF R)).length = n) := Lib.hid (by rw [List.length_map]; exact hLn)
  have HBA := Lib.hid (And.intro hba (And.intro hfa hsa))
  have HPERM : Hid ((L.map (itF R)).Perm R) := Lib.hid (itF_perm h.perm h.wf.asc)
  obtain ⟨-, -, q2, -, -, -⟩ := ha.box.cells
  have KLI : Hid (∀ w0 : World, Below w.heap.size w w0 → Calls Tryz.prog 64 #[.pointer (some ⟨s, 0, none⟩)] w0 fun e w' => ∃ g c, e = .returned (.slice (some ⟨g, 0, none⟩) n c) ∧ TRow w' (some ⟨g, 0, none⟩) (L.map (itF R)) ∧ Below w0.heap.size w0 w' ∧ w0.heap.size ≤ g ∧ g < w'.heap.size) := Lib.hid (fun w0 hb => by rw [← hn]; exact slist_c s b mp mw v st base cur L R w0 (h.below hb))
  clear hn hLn h ha hfa hba
  go_enter Tryz.func133, Tryz.ntmps133
  go_wp2_with fail
  refine KL.out.mono ?_
  rintro e w' ⟨rfl, rfl⟩
  clear KL
  go_wp2_with (refine wpList_make_own wa rfl _ _ 45 rfl (w.heap.size + 1) 69 i0 (.agg #[.int .i64 0, .int .i64 0, .int .i64 0]) 3 Tryz.underlying45 hi hz0 hz1 .i64 .i64 _ n rfl rfl (by omega) (by rw [hz2]; omega) (by unfold maxLen; omega) (by omega) ?_; intro w0 hown hgr)
  rw [hsa] at hown
  have hb0 : Below w.heap.size w w0 := HBA.out.1.trans (((Below.refl wa.heap.size wa).grown hgr (Nat.le_refl _) (by simp)).mono (by omega))
  have hg0 : w.heap.size + 1 < w0.heap.size := (World.ownsRow.lt hown _ rfl).2
  have hf0 : w0.heap[w.heap.size]? = some (.cells #[.int .i64 0, .slice none 0 0] 47 (0, 0)) := (hgr.block _ (by omega) (by simp)).trans HBA.out.2.1
  have K1 := Lib.hid (KLI.out w0 hb0)
  have H0 := Lib.hid (And.intro hb0 (And.intro hg0 (And.intro hf0 hown)))
  clear hown hgr hb0 hg0 hf0 KLI q2
  refine K1.out.mono ?_
  rintro e w2 ⟨g2, c2, rfl, hT, hb2, hg2, hg3⟩
  have HF0 : Hid (FAt w w.heap.size g2 (L.map (itF R)) [] (.slice (some ⟨w.heap.size + 1, 0, none⟩) 0 n) w2) := by
    obtain ⟨hb0, hg0, hf0, hown⟩ := H0.out
    refine Lib.hid ⟨hb0.trans (hb2.mono hb0.size), (hb2.block _ (by omega)).trans hf0, hT, ⟨_, _, _, rfl⟩, own_keep hown (fun g hg => hb2.block g (World.ownsRow.lt hown g hg).2), fun g hg => ?_, hg3, by omega⟩
    simp [Value.ownBlock] at hg; omega
  have HI := Lib.hid (And.intro hi (And.intro hz0 (And.intro hz1 hz2)))
  clear hT hb2 hg2 hg3 K1 H0 hwa hsa
  generalize L.map (itF R) = l' at *
  go_wp2_with fail
  go_loopw [3, 15] (fun lv iv wr => ∃ (k : Nat) (v : Value), lv = v ∧ iv = .int .i64 k ∧ k ≤ n ∧ Hid (FAt w w.heap.size g2 l' ((l'.take k).map (lagF base)) v wr)) (fun _ iv _ => n - (intOf iv).toNat)
  case atStart => exact ⟨0, _, rfl, rfl, by omega, HF0⟩
  case round =>
    clear HF0
    obtain ⟨k, v, rfl, rfl, hk, HA⟩ := hrel
    by_cases hlt : k < n
    · obtain ⟨x, hx⟩ : ∃ x, l'[k]? = some x := ⟨_, List.getElem?_eq_getElem (by rw [HLN.out]; exact hlt)⟩
      obtain ⟨ad, he, d0, d1, d2⟩ := HA.out.2.2.1.at hx
      obtain rfl := Option.some.inj he
      have hkm : (k : Int) < (n : Int) := by omega
      have hk0 : (0 : Int) ≤ (k : Int) := by omega
      have hxr : x ∈ R := HPERM.out.mem_iff.1 (List.mem_of_getElem? hx)
      have heach := HS.out.wf.each x hxr
      have htk : (l'.take (k + 1)).map (lagF base) = (l'.take k).map (lagF base) ++ [lagF base x] := by rw [List.take_add_one, hx, List.map_append]; rfl
      have hlen : ((l'.take k).map (lagF base)).length = k := by rw [List.length_map, List.length_take, HLN.out]; omega
      obtain ⟨x0, x1, x2⟩ := x
      simp only at d0 d1 d2 heach
      rw [addr_add] at d0 d1 d2
      simp only [Nat.zero_add] at d0 d1 d2
      have HTK := Lib.hid htk
      have HLEN := Lib.hid hlen
      obtain ⟨g1, n1, c1, rfl⟩ := HA.out.2.2.2.1
      obtain ⟨wx, hwx⟩ : ∃ wx, wr.alloc (.cells #[.int .i64 x0, .int .i64 x1, .int .i64 x2] 120) = wx := ⟨_, rfl⟩
      have hbx : wx.heap[wr.heap.size]? = some (.cells #[.int .i64 x0, .int .i64 x1, .int .i64 x2] 120 (0, 0)) := by rw [← hwx]; exact heap_alloc_new wr _
      have hsx : wx.heap.size = wr.heap.size + 1 := by rw [← hwx]; simp
      have hbw : Below w.heap.size w wx := by rw [← hwx]; exact HA.out.1.alloc HA.out.1.size _
      have KG := Lib.hid (slag_c (s := s) (b := b) (mw := mw) (base := base) (cur := cur) x2 wx.drew ((HS.out.below hbw).below (Below.refl _ wx).drew).box HS.out.wf.lo HS.out.wf.hi heach.2.2.2.2.1 heach.2.2.2.2.2)
      have y0 : wx.cell? ⟨wr.heap.size, 0, none⟩ = some (.int .i64 x0) := by simp [World.cell?, hbx]
      have y1 : wx.cell? ⟨wr.heap.size, 1, none⟩ = some (.int .i64 x1) := by simp [World.cell?, hbx]
      have y2 : wx.cell? ⟨wr.heap.size, 2, none⟩ = some (.int .i64 x2) := by simp [World.cell?, hbx]
      have S0 : Hid ((fun w' => w'.cell? ⟨wr.heap.size, 0, none⟩ = some (.int .i64 x0) ∧ w'.cell? ⟨wr.heap.size, 1, none⟩ = some (.int .i64 x1) ∧ w'.cell? ⟨wr.heap.size, 2, none⟩ = some (.int .i64 x2)) wx.drew) := Lib.hid ⟨y0, y1, y2⟩
      have KEEP : Hid (∀ w2 : World, w2.heap[wr.heap.size]? = wx.heap[wr.heap.size]? → (fun w' => w'.cell? ⟨wr.heap.size, 0, none⟩ = some (.int .i64 x0) ∧ w'.cell? ⟨wr.heap.size, 1, none⟩ = some (.int .i64 x1) ∧ w'.cell? ⟨wr.heap.size, 2, none⟩ = some (.int .i64 x2)) w2) := Lib.hid (fun w2 h => ⟨(cellq_of h 0).trans y0, (cellq_of h 1).trans y1, (cellq_of h 2).trans y2⟩)
      have HWX := Lib.hid (And.intro hwx hsx)
      have hgl := World.ownsRow.lt HA.out.2.2.2.2.1 g1 rfl
      have HGL := Lib.hid hgl
      clear hx htk hlen hbx hsx hbw heach hxr y0 y1 y2 hgl
      go_wp2_with fail
      refine wp_region_phase 12 (by kernel_rfl) (by kernel_rfl) (fun w' => w'.cell? ⟨wr.heap.size, 0, none⟩ = some (.int .i64 x0) ∧ w'.cell? ⟨wr.heap.size, 1, none⟩ = some (.int .i64 x1) ∧ w'.cell? ⟨wr.heap.size, 2, none⟩ = some (.int .i64 x2)) ?_
      refine wpAnyH_take (i := 0) (v := .slice (some ⟨g1, 0, none⟩) n1 c1) rfl (by kernel_rfl) (by kernel_rfl) (by kernel_rfl) (fun _ _ _ h => h) (Or.inl ⟨by rfl, ?_⟩) S0.out ?_
      · rintro w' ⟨s1, s2, s3⟩; go_simp
      simp only [Act.put, List.setIfInBounds_toArray]
      refine wpAnyH_take (i := 1) (v := .pointer (some ⟨wr.heap.size, 0, none⟩)) rfl (by kernel_rfl) (by kernel_rfl) (by kernel_rfl) (fun _ _ _ h => h) (Or.inl ⟨by rfl, ?_⟩) S0.out ?_
      · rintro w' ⟨s1, s2, s3⟩; go_simp
      simp only [Act.put]
      refine wpAnyH_take (i := 2) (v := .int .i64 x0) rfl (by kernel_rfl) (by kernel_rfl) (by kernel_rfl) (fun _ _ _ h => h) (Or.inl ⟨by rfl, ?_⟩) S0.out ?_
      · rintro w' ⟨s1, s2, s3⟩; go_simp
      simp only [Act.put]
      refine wpAnyH_take (i := 3) (v := .pointer (some ⟨wr.heap.size, 1, none⟩)) rfl (by kernel_rfl) (by kernel_rfl) (by kernel_rfl) (fun _ _ _ h => h) (Or.inl ⟨by rfl, ?_⟩) S0.out ?_
      · rintro w' ⟨s1, s2, s3⟩; go_simp
      simp only [Act.put]
      refine wpAnyH_take (i := 4) (v := .int .i64 x1) rfl (by kernel_rfl) (by kernel_rfl) (by kernel_rfl) (fun _ _ _ h => h) (Or.inl ⟨by rfl, ?_⟩) S0.out ?_
      · rintro w' ⟨s1, s2, s3⟩; go_simp
      simp only [Act.put]
      refine wpAnyH_take (i := 5) (v := .pointer (some ⟨s, 0, none⟩)) rfl (by kernel_rfl) (by kernel_rfl) (by kernel_rfl) (fun _ _ _ h => h) (Or.inl ⟨by rfl, ?_⟩) S0.out ?_
      · rintro w' ⟨s1, s2, s3⟩; go_simp
      simp only [Act.put]
      refine wpAnyH_take (i := 6) (v := .pointer (some ⟨wr.heap.size, 2, none⟩)) rfl (by kernel_rfl) (by kernel_rfl) (by kernel_rfl) (fun _ _ _ h => h) (Or.inl ⟨by rfl, ?_⟩) S0.out ?_
      · rintro w' ⟨s1, s2, s3⟩; go_simp
      simp only [Act.put]
      refine wpAnyH_take (i := 7) (v := .int .i64 x2) rfl (by kernel_rfl) (by kernel_rfl) (by kernel_rfl) (fun _ _ _ h => h) (Or.inl ⟨by rfl, ?_⟩) S0.out ?_
      · rintro w' ⟨s1, s2, s3⟩; go_simp
      simp only [Act.put]
      refine wpAnyH_ready (rs := [8]) (by kernel_rfl) (by simp) ?_
      refine AllReadyH.cons rfl (fun K hK => ?_) AllReadyH.nil
      go_simp
      refine KG.out.mono ?_
      rintro e w3 ⟨rfl, rfl⟩
      refine hK.out _ _ S0.out (fun _ => ?_)
      clear hK
      refine wpAnyH_ready (rs := [9]) (by kernel_rfl) (by simp) ?_
      refine AllReadyH.cons rfl (fun K hK => ?_) AllReadyH.nil
      go_simp
      refine hK.out _ _ S0.out (fun _ => ?_)
      clear hK
      refine wpAnyH_ready (rs := [10]) (by kernel_rfl) (by simp) ?_
      refine AllReadyH.cons rfl (fun K hK => ?_) AllReadyH.nil
      go_simp
      refine hK.out _ _ (KEEP.out _ (Below.heap_alloc wx.drew _ _ (by show _ < wx.heap.size; have := HWX.out.2; omega))) (fun _ => ?_)
      clear hK
      refine wpAnyH_ready (rs := [11]) (by kernel_rfl) (by simp) ?_
      refine AllReadyH.cons rfl (fun K hK => ?_) AllReadyH.nil
      obtain ⟨hi, hz0, hz1, hz2⟩ := HI.out
      have hrow : wx.ownsRow (w.heap.size + 1) 69 3 (.slice (some ⟨g1, 0, none⟩) n1 c1) k (flatR ((l'.take k).map (lagF base))) := by
        rw [← HWX.out.1]
        have h1 := HA.out.2.2.2.2.1.alloc (.cells #[.int .i64 x0, .int .i64 x1, .int .i64 x2] 120)
        rw [HLEN.out] at h1
        exact h1
      have hrow2 : wx.drew.ownsRow (w.heap.size + 1) 69 3 (.slice (some ⟨g1, 0, none⟩) n1 c1) k (flatR ((l'.take k).map (lagF base))) := hrow
      have hsz2 : w.heap.size + 1 ≤ wx.heap.size := by have := HGL.out; have := HWX.out.2; omega
      obtain ⟨v', w5, hrun, r1, r2, r3⟩ := run_append_where (P := Tryz.prog) (wx.drew.alloc (.cells #[.int .i64 x0, .int .i64 x1, .int .i64 (base - x2)] 69)) (w.heap.size + 1) 45 45 69 i0 (.agg #[.int .i64 0, .int .i64 0, .int .i64 0]) 3 24 Tryz.underlying45 hi hz0 hz1 hz2 rfl (by decide) (.slice (some ⟨g1, 0, none⟩) n1 c1) _ _ (hrow2.alloc _) ⟨wx.drew.heap.size, 0, none⟩ 1 1 (encR (x0, x1, base - x2)) rfl (encR_cells (World.alloc_heap_new wx.drew _)) (encR_one _) (by unfold maxLen; omega) (by omega) (by simp; omega)
      obtain ⟨g', cap', rfl⟩ := ownsRow_succ r1
      have hA := HA.out
      rw [← HWX.out.1] at r2 r3
      obtain ⟨hn1, hn2⟩ := hA.next rfl ⟨_, _, _, rfl⟩ (by rw [HLEN.out]; exact r1) r2 r3
      refine step_appN rfl _ _ _ _ rfl hrun rfl rfl ?_
      refine hK.out _ _ (KEEP.out _ ((hn2 _ (by omega) (fun e => by have := HGL.out.2; simp [Value.ownBlock] at e; omega)).trans (by rw [HWX.out.1]))) (fun _ => ?_)
      have e5 : lagF base (x0, x1, x2) = (x0, x1, base - x2) := rfl
      rw [← e5, ← HTK.out] at hn1
      have HNX := Lib.hid hn1
      clear hK hrun r1 r2 r3 hn1 hn2 hA hrow hrow2 hsz2 e5 KG
      refine wpAnyH_done (by kernel_rfl) ?_ _
      refine phase_tail (by kernel_rfl) ?_
      simp only [List.drop_succ_cons, List.drop_zero]
      go_wp2_with fail
      go_roundw
      case rel => exact ⟨k + 1, _, rfl, by go_num, by omega, HNX⟩
      case measure => simp [intOf]; omega
    · obtain rfl : k = n := by omega
      have hall : l'.take k = l' := List.take_of_length_le (by rw [HLN.out]; omega)
      have ha := HA.out
      rw [hall] at ha
      obtain ⟨f1, f2, f3, ⟨g1, n1, c1, rfl⟩, f5, f6, f7, f8⟩ := ha
      obtain ⟨A0, c0', hfm⟩ := row_form f5
      injection hfm with hf1 hf2 hf3
      rw [List.length_map, HLN.out] at f5 hf2
      subst hf2
      have KS := Lib.hid (sort_c g1 n1 c1 (w.heap.size + 1) (l'.map (lagF base)) (formL base R) wr (by rw [List.length_map]; exact HLN.out) f5 (HPERM.out.map _) (formL_asc HS.out.wf.asc) (by omega))
      have hgl := World.ownsRow.lt f5 g1 rfl
      have hbo := (HS.out.below f1).box
      have HX := Lib.hid (And.intro f1 (And.intro f2 (And.intro hbo hgl)))
      clear hall f1 f2 f3 f5 f6 f7 f8 hf1 hf3 hbo hgl HA
      have hlt' : decide ((n1 : Int) < (n1 : Int)) = false := by simp
      go_wp2_with fail
      refine KS.out.mono ?_
      rintro e w6 ⟨rfl, hT, k1, k2, k3, k4, k5⟩
      obtain ⟨f1, f2, hbo, hgl⟩ := HX.out
      have hsz := f1.size
      have bF : BoxAt w6 w.heap.size 47 #[.int .i64 0, .slice none 0 0] := (k5 _ (by omega) (by omega)).trans f2
      obtain ⟨-, u1, -, -, -, -⟩ := (hbo.keep (k5 s hbo.lt (by omega))).cells
      have v0 : w6.cell? ⟨w.heap.size, 0, none⟩ = some (.int .i64 0) := BoxAt.cell bF
      have v1 : w6.cell? ⟨w.heap.size, 1, none⟩ = some (.slice none 0 0) := BoxAt.cell bF
      have z0 : w6.frozen? ⟨w.heap.size, 0, none⟩ = false := BoxAt.unfrozen bF _
      have z1 : w6.frozen? ⟨w.heap.size, 1, none⟩ = false := BoxAt.unfrozen bF _
      have hb6 : Below w.heap.size w w6 := f1.trans ⟨k1, k2, k3, k4, fun j hj => k5 j (by omega) (by omega)⟩
      obtain ⟨w7, hw7⟩ : ∃ w7, (w6.setCell ⟨w.heap.size, 0, none⟩ (.int .i64 cur)).setCell ⟨w.heap.size, 1, none⟩ (.slice (some ⟨g1, 0, none⟩) n1 c1) = w7 := ⟨_, rfl⟩
      have hF7 : FoAt w7 w.heap.size cur (some ⟨g1, 0, none⟩) n1 c1 := by rw [← hw7]; exact FoAt.set bF _ _ _ _
      have hB7 : Below w.heap.size w w7 := by rw [← hw7]; exact Below.set2 hb6 (Nat.le_refl _) _ _
      have hT7 : TRow w7 (some ⟨g1, 0, none⟩) (formL base R) := trow_keep hT (by
        rw [← hw7]
        refine Eq.trans (Below.heap_setCell (w6.setCell ⟨w.heap.size, 0, none⟩ (.int .i64 cur)) ⟨w.heap.size, 1, none⟩ _ g1 (by show g1 ≠ w.heap.size; omega)) ?_
        exact Below.heap_setCell w6 ⟨w.heap.size, 0, none⟩ _ g1 (by show g1 ≠ w.heap.size; omega))
      have HZ := Lib.hid (And.intro hF7 (And.intro hT7 (And.intro hB7 hgl.1)))
      have HW7 := Lib.hid hw7
      clear f1 f2 hbo hgl hsz bF hb6 hF7 hB7 hT7 hT k1 k2 k3 k4 k5 KS HX hw7
      go_wp2_with fail
      refine bodyPost_ret (res_box1 rfl _ w.heap.size #[.int .i64 cur, .slice (some ⟨g1, 0, none⟩) n1 c1] _ rfl (by rw [HW7.out]; exact HZ.out.1) Tryz.underlying47 rfl (by kernel_rfl)) rfl ?_
      rw [HW7.out]
      exact ⟨g1, c1, rfl, HZ.out.2.1, HZ.out.2.2.1, by have := HZ.out.2.2.2; omega⟩
end Go.Proofs.YtandmngfajoinaaGreat
