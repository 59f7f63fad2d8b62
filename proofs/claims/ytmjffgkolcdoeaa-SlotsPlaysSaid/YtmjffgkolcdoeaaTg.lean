/- Slots: List. -/
import Derived.Test.YtmjffgkolcdoeaaTf
import Derived.Test.YtmjffgkolcdoeaaApb
namespace Go.Proofs.Ytmjffgkolcdoeaa
open Go.RowKit Go.Shelf

def nameAt (S : List SL) (k : Nat) : Int := ((k + 64 * (S[k]?.getD (0, false)).1 : Nat) : Int)
def namesL (S : List SL) : List Int := (placesL S true).map (nameAt S)
theorem nameAt_of {S : List SL} {k t : Nat} {c : Bool} (h : S[k]? = some (t, c)) : nameAt S k = ((k + 64 * t : Nat) : Int) := by unfold nameAt; rw [h]; rfl
theorem info_intS : (Try.prog.info? 3).map (fun i => (i.zero, i.size, i.bytes)) = some (some (.int .i64 0), 1, 8) := by kernel_rfl

/-- The loop's state: the box B holds what has come; the blocks E as they lay. -/
def ListE (w3 : World) (n0 B : Nat) (E : Nat → Prop) (pl : List Int) (A : Nat → Prop) (W : World) : Prop :=
  ∃ v, Boxed W B 33 v ∧ W.ownsRow n0 3 1 v pl.length (pl.map (Value.int .i64)) ∧ (∀ k, A k ↔ ((k = B ∨ v.ownBlock = some k) ∨ E k)) ∧ (∀ k, v.ownBlock = some k → ¬ E k) ∧ ∀ k, E k → W.heap[k]? = w3.heap[k]?
theorem listE_loc {α : Type} (f : List α → List Int) (w3 : World) (n0 B : Nat) (E : Nat → Prop) : Loc (fun pre => ListE w3 n0 B E (f pre)) := by
  rintro s A X Y ⟨v, h1, h2, h3, h4, h5⟩ hs
  exact ⟨v, (hs B ((h3 B).2 (by simp))).trans h1, own_keep h2 (fun g hg => hs g ((h3 g).2 (.inl (.inr hg)))), h3, h4, fun k hk => (hs k ((h3 k).2 (.inr hk))).trans (h5 k hk)⟩
theorem listE_next {pl : List Int} {w3 W w2 w5 : World} {n0 B k' : Nat} {E A1 : Nat → Prop} {v1 v' : Value} {x : Int} (hA : ∀ k, A1 k ↔ ((k = B ∨ v1.ownBlock = some k) ∨ E k)) (hbd : ∀ k, A1 k → k < W.heap.size) (hb2 : Below W.heap.size W w2)
    (hE : ∀ k, E k → W.heap[k]? = w3.heap[k]?) (hEB : ¬ E B) (hne : ∀ k, v1.ownBlock = some k → ¬ E k) (hwh : ∀ k, v'.ownBlock = some k → v1.ownBlock = some k ∨ w2.heap.size ≤ k)
    (hv : Boxed w5 B 33 v') (hr : w5.ownsRow n0 3 1 v' k' (pl.map (Value.int .i64) ++ [.int .i64 x])) (ht : Trip (fun k => k = B ∨ v1.ownBlock = some k) w2 (fun k => k = B ∨ v'.ownBlock = some k) w5) (hk' : k' = (pl ++ [x]).length) :
    ∃ A2, Trip A1 W A2 w5 ∧ ListE w3 n0 B E (pl ++ [x]) A2 w5 := by
  have hs := hb2.size
  have hlt : ∀ k, E k → k < W.heap.size := fun k hk => hbd k ((hA k).2 (.inr hk))
  have e : ∀ k, E k → w5.heap[k]? = W.heap[k]? := fun k hk => by
    refine (ht.block k (by have := hlt k hk; omega) ?_).trans (hb2.block k (hlt k hk))
    rintro (h | h)
    · exact hEB (h ▸ hk)
    · exact hne k h hk
  refine ⟨fun k => (k = B ∨ v'.ownBlock = some k) ∨ E k, ?_, v', hv, by subst hk'; rw [List.map_append]; exact hr, fun _ => Iff.rfl, fun k hk hE' => ?_, fun k hk => (e k hk).trans (hE k hk)⟩
  · refine ((below_trip hb2 hbd).trans (ht.wider (C := A1) (fun k hk => (hA k).2 (.inl hk)) (fun k hk => by have := hbd k hk; omega))).less (fun k hk => ?_)
    rcases hk with h | h
    · exact .inl h
    · exact .inr ((hA k).2 (.inr h))
  · rcases hwh k hk with h | h
    · exact hne k h hE'
    · have := hlt k hE'; omega

/-- The blocks that the loop reads. -/
def LReads (H B b g k : Nat) : Prop := k = H ∨ SReads (B + 1) (B + 2) b g k

attribute [local go_sem] Oper.semAt_some wide_fn wide_depth in
set_option maxRecDepth 100000 in
set_option maxHeartbeats 8000000 in
/-- s.List(). -/
theorem slist_c (b g : Nat) (S : List SL) (w : World) (h : IsS w b g S) (hb : ∀ x ∈ S, x.1 ≤ 1000000) :
    Calls Try.prog 13 #[.pointer (some ⟨b, 0, none⟩)] w fun e w' => ∃ v', e = .returned v' ∧ OwnI .i64 w' w.heap.size 3 v' (namesL S) ∧ Below w.heap.size w w' := by
  obtain ⟨i0, hi, hz0, hz1, hz2⟩ := info_parts info_intS
  have hbl := h.ltb
  have hgl := h.ltg
  have hba : Below w.heap.size w (w.alloc (.cells #[.pointer (some ⟨b, 0, none⟩)] 23)) := (Below.refl _ w).alloc (Nat.le_refl _) _
  have KL := Lib.hid (len_c b g S _ (h.below hba))
  obtain ⟨n, hn⟩ : ∃ n, (placesL S true).length = n := ⟨_, rfl⟩
  have hle : n ≤ 64 := by have := placesL_length S true; have := h.le; omega
  rw [hn] at KL
  have HN := Lib.hid hn
  have HS := Lib.hid h
  have HBD := Lib.hid hb
  have hqc : ∀ w0 : World, Below (w.heap.size + 1) (w.alloc (.cells #[.pointer (some ⟨b, 0, none⟩)] 23)) w0 → w0.cell? ⟨w.heap.size, 0, none⟩ = some (.pointer (some ⟨b, 0, none⟩)) ∧ w.heap.size < w0.heap.size := fun w0 hg => by
    have h1 := (hg.block w.heap.size (by omega)).trans (World.alloc_heap_new w _)
    exact ⟨by simp [World.cell?, h1], by have := hg.size; simp at this; omega⟩
  have HQC := Lib.hid hqc
  have KP := Lib.hid (fun w0 => places_c b true w0 w0.heap.size rfl)
  clear hn h hb hba hqc
  refine (callsIn_wide (n := 0)).1 ?_
  refine callsIn_of_wp_marks Try.func13 rfl trivial ?_ rfl
  simp only [Try.ntmps13, List.size_toArray, List.length_cons, List.length_nil, Nat.reduceAdd, Nat.reduceSub, Array.replicate_succ, Array.replicate_zero, List.push_toArray, List.append_toArray, List.nil_append, List.cons_append]
  gi_wp2_with (first
    | (gi_at_call 14; refine (callsIn_wide.2 (KL.out)).mono ?_; rintro e w' ⟨rfl, hb'⟩; rw [World.size_alloc] at hb'; have hs' := hb'.size; rw [World.size_alloc] at hs'; have HB' := Lib.hid hb'; clear hb')
    | (gi_at_make; refine wpListIn_make_own _ rfl _ _ 33 rfl (w.heap.size + 1) 3 i0 (.int .i64 0) 1 Try.underlying33 hi hz0 hz1 .i64 .i64 n n rfl rfl rfl (by rw [hz2]; omega) (by unfold maxLen; omega) (by omega) ?_; intro w0 hown hgr; have hgb : Below (w.heap.size + 1) (w.alloc (.cells #[.pointer (some ⟨b, 0, none⟩)] 23)) w0 := (HB'.out).trans ⟨hgr.os, hgr.tape, hgr.output, hgr.size, fun k hk => hgr.block k (by omega) (by simp)⟩; obtain ⟨g1, g2⟩ := HQC.out _ hgb; have HO := Lib.hid hown; have HG := Lib.hid hgb; clear hown hgr hgb)
    | (gi_at_call 20; refine (callsIn_wide.2 (KP.out _)).mono ?_; rintro e w3 ⟨rfl, p1, p2, p3, p4⟩))
  have hown := HO.out
  have hg0 : w'.heap.size < w0.heap.size := (World.ownsRow.lt hown _ rfl).2
  rw [World.size_alloc] at p1 p2 p3 p4
  obtain ⟨B, hB⟩ : ∃ B, w0.heap.size = B := ⟨_, rfl⟩
  have ho3 : ∀ k, k < w0.heap.size → w3.heap[k]? = w0.heap[k]? := fun k hk => (p4.block k (by omega)).trans (Below.heap_alloc w0 _ k hk)
  have bO : Boxed w3 w0.heap.size 33 (.slice (some ⟨w'.heap.size, 0, none⟩) 0 n) := (p4.block _ (by omega)).trans (Boxed.new w0 33 _)
  have hrow3 : w3.ownsRow (w.heap.size + 1) 3 1 (.slice (some ⟨w'.heap.size, 0, none⟩) 0 n) 0 [] := own_keep hown (fun g hg => ho3 g (World.ownsRow.lt hown g hg).2)
  have hb0 : Below w.heap.size w w0 := ((Below.refl _ w).alloc (Nat.le_refl _) _).trans (HG.out.mono (by omega))
  have hb3 : Below w.heap.size w w3 := ⟨p4.os.trans hb0.os, p4.tape.trans hb0.tape, p4.output.trans hb0.output, by omega, fun k hk => (ho3 k (by omega)).trans (hb0.block k hk)⟩
  have kH : w3.heap[w.heap.size]? = some (.cells #[.pointer (some ⟨b, 0, none⟩)] 23 (0, 0)) := (ho3 _ (by omega)).trans ((HG.out.block w.heap.size (by omega)).trans (World.alloc_heap_new w _))
  have hs3 := HS.out.below hb3
  have HB3 := Lib.hid hb3
  have HS3 := Lib.hid hs3
  try simp only [World.size_alloc]
  rw [hB] at p1 p2 p3 bO g2 hg0
  try simp only [hB]
  clear hown ho3 hb0 hb3 hs3 p4 HO HG HB' KL KP HQC g1 hB
  have hEB : ¬ LReads w.heap.size B b g B := fun hk => by unfold LReads SReads at hk; omega
  have hRd : ∀ k, LReads w.heap.size B b g k → k < w3.heap.size := fun k hk => by unfold LReads SReads at hk; omega
  refine wpR3 (α := Nat) (gf := 22) (lb := #[.pointer (some ⟨B + 1, 0, none⟩), .pointer (some ⟨B + 1 + 1, 0, none⟩)]) rfl (enters_of Try.func22 (by kernel_rfl) rfl)
    (places1_gives (B + 1) (B + 2) b g true S w3 p1 p2 HS3.out) (fun _ => rfl) (fun k => (k = B ∨ (Value.slice (some ⟨w'.heap.size, 0, none⟩) 0 n).ownBlock = some k) ∨ LReads w.heap.size B b g k) ?hA (fun pre => ListE w3 (w.heap.size + 1) B (LReads w.heap.size B b g) (pre.map (nameAt S))) ?hR (fun _ _ _ _ => False) (listE_loc (fun pre : List Nat => pre.map (nameAt S)) _ _ _ _) (fun _ _ _ _ _ hs _ => hs) ?h0
    (fun x => { tmps := #[.pointer (some ⟨b, 0, none⟩), .pointer (some ⟨w.heap.size, 0, none⟩), .slice none 0 0, .pointer (some ⟨B, 0, none⟩), .int .i64 x, .pointer (some ⟨b, 0, none⟩), .int .i64 n, .slice (some ⟨w'.heap.size, 0, none⟩) 0 n, .pointer (some ⟨b, 0, none⟩),
      .func (.func 22) #[] #[.pointer (some ⟨B + 1, 0, none⟩), .pointer (some ⟨B + 1 + 1, 0, none⟩)], .int .i64 x, undef, undef, undef, undef, undef, undef, undef], defers := [] }) ?assign ?body ?done ?stop
  case hA =>
    rintro k ((rfl | hk) | hk)
    · omega
    · simp [Value.ownBlock] at hk; omega
    · exact hRd k hk
  case hR =>
    rintro pre A1 W1 ⟨_, _, _, _, _, h5⟩ k hk
    have h4 := h5 k (.inr hk)
    refine ⟨?_, h4⟩
    rw [Array.getElem?_eq_getElem (hRd k (.inr hk))] at h4
    exact (Array.getElem?_eq_some_iff.1 h4).1
  case h0 => exact ⟨_, bO, hrow3, fun _ => Iff.rfl, fun k hk hE => by simp [Value.ownBlock] at hk; unfold LReads SReads at hE; omega, fun _ _ => rfl⟩
  case assign =>
    intro l x W K hK
    gi_wp2
    exact hK
  case body =>
    rintro l pre x A1 W ⟨v1, hv, hrow, hAv, hne, hE⟩ hpre hbd
    obtain ⟨t, hx⟩ := mem_placesL (S := S) (c := true) (k := x) (by obtain ⟨r, hr⟩ := hpre; rw [← hr]; simp)
    have ht : t ≤ 1000000 := HBD.out (t, true) (List.mem_of_getElem? hx)
    have hsW : IsS W b g S := HS3.out.keep (hE b (.inr (.inr (.inr (.inl rfl))))) (hE g (.inr (.inr (.inr (.inr rfl)))))
    have q2 : W.cell? ⟨w.heap.size, 0, none⟩ = some (.pointer (some ⟨b, 0, none⟩)) := by simp [World.cell?, (hE _ (.inl rfl)).trans kH]
    have hc := hv.cell
    have hlt := hv.lt
    have hsD : IsS W.drew b g S := hsW.keep rfl rfl
    have KN := Lib.hid ((name_c b g S x t true W.drew hsD hx ht).mono (R' := fun e w' => e = .returned (.int .i64 (x + 64 * t : Nat)) ∧ Below W.drew.heap.size W.drew w') (fun e w' ⟨h1, h2⟩ => ⟨h1, h2 ▸ Below.refl _ _⟩))
    have hnm := nameAt_of hx
    obtain ⟨z, hz⟩ : ∃ z : Int, ((x + 64 * t : Nat) : Int) = z := ⟨_, rfl⟩
    rw [hz] at KN hnm
    have hpm : (pre ++ [x]).map (nameAt S) = pre.map (nameAt S) ++ [z] := by rw [List.map_append, List.map_cons, List.map_nil, hnm]
    have hpl : (pre.map (nameAt S)).length + 1 ≤ 1000000 := by have := hpre.length_le; rw [HN.out] at this; simp at this ⊢; omega
    have HPM := Lib.hid hpm
    have HAV := Lib.hid hAv
    have HBD' := Lib.hid hbd
    have HV := Lib.hid hv
    have HROW := Lib.hid hrow
    have HE := Lib.hid hE
    have HNE := Lib.hid hne
    obtain ⟨pl, hpl'⟩ : ∃ pl, pre.map (nameAt S) = pl := ⟨_, rfl⟩
    rw [hpl'] at hpl HROW HPM
    clear hpre hx hpm hAv hbd hv hrow hE hne hpl' hsW hsD hnm hz ht p1 p2 bO hrow3 kH
    have hmx : Try.prog.follows .mixedOrders = true := by kernel_rfl
    gi_wp2
    refine wpIn_region_any hmx ?_
    change wpAnyIn _ _ _ _ _ _ _ _ _ (World.drew _)
    refine wpAnyIn_ready (rs := [0, 1, 2]) (by kernel_rfl) (by simp) (AllReadyIn.cons rfl (fun K hK => ?n0) (AllReadyIn.cons rfl (fun K hK => ?n1) (AllReadyIn.cons rfl (fun K hK => ?n2) AllReadyIn.nil)))
    case' n0 =>
      go_simp
      refine hK _ _ ?_
      clear hK K
      refine wpAnyIn_ready (rs := [1, 2]) (by kernel_rfl) (by simp) (AllReadyIn.cons rfl (fun K hK => ?n3) (AllReadyIn.cons rfl (fun K hK => ?n4) AllReadyIn.nil))
    case' n1 =>
      go_simp
      refine hK _ _ ?_
      clear hK K
      refine wpAnyIn_ready (rs := [0, 2]) (by kernel_rfl) (by simp) (AllReadyIn.cons rfl (fun K hK => ?n5) (AllReadyIn.cons rfl (fun K hK => ?n6) AllReadyIn.nil))
    case' n2 =>
      go_simp
      refine hK _ _ ?_
      clear hK K
      refine wpAnyIn_ready (rs := [0, 1]) (by kernel_rfl) (by simp) (AllReadyIn.cons rfl (fun K hK => ?n7) (AllReadyIn.cons rfl (fun K hK => ?n8) AllReadyIn.nil))
    case' n3 =>
      go_simp
      refine hK _ _ ?_
      clear hK K
      refine wpAnyIn_ready (rs := [2]) (by kernel_rfl) (by simp) (AllReadyIn.cons rfl (fun K hK => ?_) AllReadyIn.nil)
      go_simp
      refine hK _ _ ?_
      clear hK K
      refine wpAnyIn_ready (rs := [3]) (by kernel_rfl) (by simp) (AllReadyIn.cons rfl (fun K hK => ?_) AllReadyIn.nil)
      go_simp
      refine (CallsIn.inRound l (callsIn_wide.2 KN.out)).mono ?_
      rintro e w2 ⟨rfl, hb2⟩
      have hc2 := (hb2.cell (p := ⟨B, 0, none⟩) hlt).trans hc
      have hlt2 : B < w2.heap.size := Nat.lt_of_lt_of_le hlt hb2.size
      refine hK _ _ ?_
      clear hK K
      refine wpAnyIn_ready (rs := [4]) (by kernel_rfl) (by simp) (AllReadyIn.cons rfl (fun K hK => ?_) AllReadyIn.nil)
      go_simp
      refine hK _ _ ?_
      clear hK K
    case' n4 =>
      go_simp
      refine hK _ _ ?_
      clear hK K
      refine wpAnyIn_ready (rs := [1]) (by kernel_rfl) (by simp) (AllReadyIn.cons rfl (fun K hK => ?_) AllReadyIn.nil)
      go_simp
      refine hK _ _ ?_
      clear hK K
      refine wpAnyIn_ready (rs := [3]) (by kernel_rfl) (by simp) (AllReadyIn.cons rfl (fun K hK => ?_) AllReadyIn.nil)
      go_simp
      refine (CallsIn.inRound l (callsIn_wide.2 KN.out)).mono ?_
      rintro e w2 ⟨rfl, hb2⟩
      have hc2 := (hb2.cell (p := ⟨B, 0, none⟩) hlt).trans hc
      have hlt2 : B < w2.heap.size := Nat.lt_of_lt_of_le hlt hb2.size
      refine hK _ _ ?_
      clear hK K
      refine wpAnyIn_ready (rs := [4]) (by kernel_rfl) (by simp) (AllReadyIn.cons rfl (fun K hK => ?_) AllReadyIn.nil)
      go_simp
      refine hK _ _ ?_
      clear hK K
    case' n5 =>
      go_simp
      refine hK _ _ ?_
      clear hK K
      refine wpAnyIn_ready (rs := [2]) (by kernel_rfl) (by simp) (AllReadyIn.cons rfl (fun K hK => ?_) AllReadyIn.nil)
      go_simp
      refine hK _ _ ?_
      clear hK K
      refine wpAnyIn_ready (rs := [3]) (by kernel_rfl) (by simp) (AllReadyIn.cons rfl (fun K hK => ?_) AllReadyIn.nil)
      go_simp
      refine (CallsIn.inRound l (callsIn_wide.2 KN.out)).mono ?_
      rintro e w2 ⟨rfl, hb2⟩
      have hc2 := (hb2.cell (p := ⟨B, 0, none⟩) hlt).trans hc
      have hlt2 : B < w2.heap.size := Nat.lt_of_lt_of_le hlt hb2.size
      refine hK _ _ ?_
      clear hK K
      refine wpAnyIn_ready (rs := [4]) (by kernel_rfl) (by simp) (AllReadyIn.cons rfl (fun K hK => ?_) AllReadyIn.nil)
      go_simp
      refine hK _ _ ?_
      clear hK K
    case' n6 =>
      go_simp
      refine hK _ _ ?_
      clear hK K
      refine wpAnyIn_ready (rs := [0, 3]) (by kernel_rfl) (by simp) (AllReadyIn.cons rfl (fun K hK => ?n9) (AllReadyIn.cons rfl (fun K hK => ?n10) AllReadyIn.nil))
    case' n7 =>
      go_simp
      refine hK _ _ ?_
      clear hK K
      refine wpAnyIn_ready (rs := [1]) (by kernel_rfl) (by simp) (AllReadyIn.cons rfl (fun K hK => ?_) AllReadyIn.nil)
      go_simp
      refine hK _ _ ?_
      clear hK K
      refine wpAnyIn_ready (rs := [3]) (by kernel_rfl) (by simp) (AllReadyIn.cons rfl (fun K hK => ?_) AllReadyIn.nil)
      go_simp
      refine (CallsIn.inRound l (callsIn_wide.2 KN.out)).mono ?_
      rintro e w2 ⟨rfl, hb2⟩
      have hc2 := (hb2.cell (p := ⟨B, 0, none⟩) hlt).trans hc
      have hlt2 : B < w2.heap.size := Nat.lt_of_lt_of_le hlt hb2.size
      refine hK _ _ ?_
      clear hK K
      refine wpAnyIn_ready (rs := [4]) (by kernel_rfl) (by simp) (AllReadyIn.cons rfl (fun K hK => ?_) AllReadyIn.nil)
      go_simp
      refine hK _ _ ?_
      clear hK K
    case' n8 =>
      go_simp
      refine hK _ _ ?_
      clear hK K
      refine wpAnyIn_ready (rs := [0, 3]) (by kernel_rfl) (by simp) (AllReadyIn.cons rfl (fun K hK => ?n11) (AllReadyIn.cons rfl (fun K hK => ?n12) AllReadyIn.nil))
    case' n9 =>
      go_simp
      refine hK _ _ ?_
      clear hK K
      refine wpAnyIn_ready (rs := [3]) (by kernel_rfl) (by simp) (AllReadyIn.cons rfl (fun K hK => ?_) AllReadyIn.nil)
      go_simp
      refine (CallsIn.inRound l (callsIn_wide.2 KN.out)).mono ?_
      rintro e w2 ⟨rfl, hb2⟩
      have hc2 := (hb2.cell (p := ⟨B, 0, none⟩) hlt).trans hc
      have hlt2 : B < w2.heap.size := Nat.lt_of_lt_of_le hlt hb2.size
      refine hK _ _ ?_
      clear hK K
      refine wpAnyIn_ready (rs := [4]) (by kernel_rfl) (by simp) (AllReadyIn.cons rfl (fun K hK => ?_) AllReadyIn.nil)
      go_simp
      refine hK _ _ ?_
      clear hK K
    case' n10 =>
      go_simp
      refine (CallsIn.inRound l (callsIn_wide.2 KN.out)).mono ?_
      rintro e w2 ⟨rfl, hb2⟩
      have hc2 := (hb2.cell (p := ⟨B, 0, none⟩) hlt).trans hc
      have hlt2 : B < w2.heap.size := Nat.lt_of_lt_of_le hlt hb2.size
      refine hK _ _ ?_
      clear hK K
      refine wpAnyIn_ready (rs := [0, 4]) (by kernel_rfl) (by simp) (AllReadyIn.cons rfl (fun K hK => ?n13) (AllReadyIn.cons rfl (fun K hK => ?n14) AllReadyIn.nil))
    case' n11 =>
      go_simp
      refine hK _ _ ?_
      clear hK K
      refine wpAnyIn_ready (rs := [3]) (by kernel_rfl) (by simp) (AllReadyIn.cons rfl (fun K hK => ?_) AllReadyIn.nil)
      go_simp
      refine (CallsIn.inRound l (callsIn_wide.2 KN.out)).mono ?_
      rintro e w2 ⟨rfl, hb2⟩
      have hc2 := (hb2.cell (p := ⟨B, 0, none⟩) hlt).trans hc
      have hlt2 : B < w2.heap.size := Nat.lt_of_lt_of_le hlt hb2.size
      refine hK _ _ ?_
      clear hK K
      refine wpAnyIn_ready (rs := [4]) (by kernel_rfl) (by simp) (AllReadyIn.cons rfl (fun K hK => ?_) AllReadyIn.nil)
      go_simp
      refine hK _ _ ?_
      clear hK K
    case' n12 =>
      go_simp
      refine (CallsIn.inRound l (callsIn_wide.2 KN.out)).mono ?_
      rintro e w2 ⟨rfl, hb2⟩
      have hc2 := (hb2.cell (p := ⟨B, 0, none⟩) hlt).trans hc
      have hlt2 : B < w2.heap.size := Nat.lt_of_lt_of_le hlt hb2.size
      refine hK _ _ ?_
      clear hK K
      refine wpAnyIn_ready (rs := [0, 4]) (by kernel_rfl) (by simp) (AllReadyIn.cons rfl (fun K hK => ?n15) (AllReadyIn.cons rfl (fun K hK => ?n16) AllReadyIn.nil))
    case' n13 =>
      go_simp
      refine hK _ _ ?_
      clear hK K
      refine wpAnyIn_ready (rs := [4]) (by kernel_rfl) (by simp) (AllReadyIn.cons rfl (fun K hK => ?_) AllReadyIn.nil)
      go_simp
      refine hK _ _ ?_
      clear hK K
    case' n14 =>
      go_simp
      refine hK _ _ ?_
      clear hK K
      refine wpAnyIn_ready (rs := [0]) (by kernel_rfl) (by simp) (AllReadyIn.cons rfl (fun K hK => ?_) AllReadyIn.nil)
      go_simp
      refine hK _ _ ?_
      clear hK K
    case' n15 =>
      go_simp
      refine hK _ _ ?_
      clear hK K
      refine wpAnyIn_ready (rs := [4]) (by kernel_rfl) (by simp) (AllReadyIn.cons rfl (fun K hK => ?_) AllReadyIn.nil)
      go_simp
      refine hK _ _ ?_
      clear hK K
    case' n16 =>
      go_simp
      refine hK _ _ ?_
      clear hK K
      refine wpAnyIn_ready (rs := [0]) (by kernel_rfl) (by simp) (AllReadyIn.cons rfl (fun K hK => ?_) AllReadyIn.nil)
      go_simp
      refine hK _ _ ?_
      clear hK K

    all_goals
      have hv2' : Boxed w2 B 33 v1 := (hb2.block _ hlt).trans HV.out
      have hk2 : ∀ k, A1 k → w2.heap[k]? = W.heap[k]? := fun k hk => hb2.block k (HBD'.out k hk)
      have hrow2 : w2.ownsRow (w.heap.size + 1) 3 1 v1 pl.length (pl.map (Value.int .i64)) := own_keep HROW.out (fun g hg => hk2 g ((HAV.out g).2 (.inl (.inr hg))))
      have hW2 := hb2.size
      refine wpAnyIn_ready (rs := [5]) (by kernel_rfl) (by simp) (AllReadyIn.cons rfl (fun K hK => ?_) AllReadyIn.nil)
      refine stepIn_where rfl _ _ 33 rfl (w.heap.size + 1) 3 i0 (.int .i64 0) 1 8 Try.underlying33 hi hz0 hz1 hz2 rfl (by decide) v1 pl.length (pl.map (Value.int .i64)) rfl (hrow2.alloc (.cells #[.int .i64 z] 3)) ⟨w2.heap.size, 0, none⟩ 1 1 [.int .i64 z] rfl rfl (cell_one_new w2 _ _) (by simp [Value.oneCell']) (by unfold maxLen; omega) (by omega) (by show _ ≤ (w2.alloc _).heap.size; rw [World.size_alloc]; have : W.drew.heap.size = W.heap.size := rfl; omega) ?_
      intro v' w4 hown' hgrow hwh
      obtain ⟨g', cap', rfl⟩ := ownsRow_succ hown'
      have hgrow' : (w2.alloc (.cells #[.int .i64 z] 3)).grownBy w4 v1.ownBlock := ⟨hgrow.os, hgrow.tape, hgrow.output, hgrow.size, hgrow.block⟩
      obtain ⟨hv1, hv2, hr2, ht2⟩ := app_trip hv2' (by decide) hrow2 hown' hgrow' hwh
      have hc1 := hv1.cell
      have hf1 := hv1.frozen
      have POST := Lib.hid (listE_next HAV.out HBD'.out (show Below W.heap.size W w2 from ((Below.refl W.heap.size W).drew).trans hb2) HE.out hEB HNE.out (fun k hk => (hwh k hk).imp id (fun h => by have h' : (w2.alloc (.cells #[.int .i64 z] 3)).heap.size ≤ k := h; rw [World.size_alloc] at h'; omega)) hv2 hr2 ht2 (by simp))
      refine hK _ _ ?_
      clear hK K
      refine wpAnyIn_ready (rs := [6]) (by kernel_rfl) (by simp) (AllReadyIn.cons rfl (fun K hK => ?_) AllReadyIn.nil)
      go_simp
      refine hK _ _ ?_
      clear hK K
      refine wpAnyIn_done (by kernel_rfl) ?_ _
      gi_wp2
      obtain ⟨A2, ht, hl⟩ := POST.out
      refine ⟨A2, ht, ?_⟩
      show ListE w3 _ _ _ ((pre ++ [x]).map (nameAt S)) _ _
      rw [HPM.out]
      exact hl
  case done =>
    rintro D A2 W ht hnD hD ⟨v1, hv, hrow, hAv, hne, hE⟩ hK
    have hc := hv.cell
    have hbw : Below w.heap.size w W := by
      have hs := HB3.out.size
      have hs2 := ht.size
      refine ⟨ht.os.trans HB3.out.os, ht.tape.trans HB3.out.tape, ht.output.trans HB3.out.output, by omega, fun k hk => ?_⟩
      by_cases h1 : LReads w.heap.size B b g k
      · exact (hE k h1).trans (HB3.out.block k hk)
      · refine (ht.block k (by omega) ?_).trans (HB3.out.block k hk)
        rintro ((h | h) | h)
        · omega
        · simp [Value.ownBlock] at h; omega
        · exact h1 h
    have HBW := Lib.hid hbw
    have HROW := Lib.hid hrow
    clear ht hAv hbw hrow hE hne hrow3 p1 p2 bO kH
    gi_wp2
    refine ⟨by simp, .inl ⟨_, _, rfl, run_takeDeferred hK, ?_⟩⟩
    refine ⟨_, results_tmp rfl _ _ _, v1, rfl, own_less (ownsRow_putObj HROW.out (.deferred none) hK rfl) (by omega), ?_⟩
    have hB := HBW.out
    exact ⟨hB.os, hB.tape, hB.output, by rw [World.putObj_size]; exact hB.size, fun k hk => (World.putObj_heap_other (by omega)).trans (hB.block k hk)⟩
  case stop => rintro D cd pre A2 W ht hnD hD hpre hf hK; exact hf.elim
end Go.Proofs.Ytmjffgkolcdoeaa
