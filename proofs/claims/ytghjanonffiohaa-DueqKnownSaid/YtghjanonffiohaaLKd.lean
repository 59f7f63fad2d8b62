/- DueqKnown: its walk. -/
import Derived.Test.YtghjanonffiohaaDj
import Derived.Test.YtghjanonffiohaaLKq
namespace Go.Proofs.Ytghjanonffiohaa
open Go.RowKit

set_option maxRecDepth 100000 in
set_option maxHeartbeats 8000000 in
theorem dueqKnown_c (W : World) : Calls Try.prog 6 #[] W fun e w' => e = .returned (.bool true) ∧ Below W.heap.size W w' := by
  go_enter Try.func6, Try.ntmps6
  go_wp2_with fail
  refine (awake5_c W).mono ?_
  rintro e w1 ⟨rfl, hb1⟩
  have HB1 := Lib.hid hb1
  clear hb1
  go_wp2_with fail
  refine (dnew_in W w1 HB1.out 3 (fun _ => False) (fun _ h => h.elim)).mono ?_
  rintro e w2 ⟨d, rfl, hq, _⟩
  have e4 : clampQ 3 = 3 := by decide
  rw [e4] at hq
  have H2 := Lib.hid (DB.of hq)
  clear hq e4 HB1
  go_wp2_with fail
  refine (dfirst_in 4611686018427387904 (H2.out).1 (by decide)).mono ?_
  rintro e w3 ⟨rfl, _, hb⟩
  have ep : optR (firstT 4611686018427387904 []) = ((0, 0, 0), false) := by decide
  rw [ep]
  simp only [encR]
  have hq := (H2.out).below hb
  have H3 := Lib.hid hq
  clear hq H2 ep hb
  go_wp2_with fail
  refine (dleast_in ((H3.out.below ((Below.refl _ w3).alloc (Nat.le_refl _) _))).1 (by decide)).mono ?_
  rintro e w4 ⟨rfl, _, hb⟩
  have ep : minT [] = ((0, 0, 0), false) := by decide
  rw [ep]
  simp only [encR]
  have hq := ((H3.out.below ((Below.refl _ w3).alloc (Nat.le_refl _) _))).below hb
  have H4 := Lib.hid hq
  clear hq H3 ep hb
  go_wp2_with fail
  refine (dput_b (1, 7, 5) (H4.out.below ((Below.refl _ w4).alloc (Nat.le_refl _) _)) (by unfold wf64; decide) (by unfold wf64; decide) (by unfold wf64; decide) (by decide) (by decide)).mono ?_
  rintro e w5 ⟨rfl, hq, _⟩
  have ep : putT 3 [] (1, 7, 5) = (0, [(1, 7, 5)]) := by decide
  rw [ep] at hq ⊢
  have H5 := Lib.hid hq
  clear hq H4 ep
  go_wp2_with fail
  refine (dput_b (2, 7, 3) H5.out (by unfold wf64; decide) (by unfold wf64; decide) (by unfold wf64; decide) (by decide) (by decide)).mono ?_
  rintro e w6 ⟨rfl, hq, _⟩
  have ep : putT 3 [(1, 7, 5)] (2, 7, 3) = (0, [(1, 7, 5), (2, 7, 3)]) := by decide
  rw [ep] at hq ⊢
  have H6 := Lib.hid hq
  clear hq H5 ep
  go_wp2_with fail
  refine (dput_b (2, 8, 1) H6.out (by unfold wf64; decide) (by unfold wf64; decide) (by unfold wf64; decide) (by decide) (by decide)).mono ?_
  rintro e w7 ⟨rfl, hq, _⟩
  have ep : putT 3 [(1, 7, 5), (2, 7, 3)] (2, 8, 1) = (0, [(1, 7, 5), (2, 8, 1), (2, 7, 3)]) := by decide
  rw [ep] at hq ⊢
  have H7 := Lib.hid hq
  clear hq H6 ep
  go_wp2_with fail
  refine (dput_b (0, 0, 9) H7.out (by unfold wf64; decide) (by unfold wf64; decide) (by unfold wf64; decide) (by decide) (by decide)).mono ?_
  rintro e w8 ⟨rfl, hq, _⟩
  have ep : putT 3 [(1, 7, 5), (2, 8, 1), (2, 7, 3)] (0, 0, 9) = (3, [(1, 7, 5), (2, 8, 1), (2, 7, 3)]) := by decide
  rw [ep] at hq ⊢
  have H8 := Lib.hid hq
  clear hq H7 ep
  go_wp2_with fail
  refine (dput_b (0, 0, 5) H8.out (by unfold wf64; decide) (by unfold wf64; decide) (by unfold wf64; decide) (by decide) (by decide)).mono ?_
  rintro e w9 ⟨rfl, hq, _⟩
  have ep : putT 3 [(1, 7, 5), (2, 8, 1), (2, 7, 3)] (0, 0, 5) = (4, [(1, 7, 5), (2, 8, 1), (2, 7, 3)]) := by decide
  rw [ep] at hq ⊢
  have H9 := Lib.hid hq
  clear hq H8 ep
  go_wp2_with fail
  refine (dfirst_in 2 (H9.out).1 (by decide)).mono ?_
  rintro e w10 ⟨rfl, _, hb⟩
  have ep : optR (firstT 2 [(1, 7, 5), (2, 8, 1), (2, 7, 3)]) = ((2, 7, 3), true) := by decide
  rw [ep]
  simp only [encR]
  have hq := (H9.out).below hb
  have H10 := Lib.hid hq
  clear hq H9 ep hb
  go_wp2_with fail
  refine (dfirst_in 1 ((H10.out.push (2, 7, 3))).1 (by decide)).mono ?_
  rintro e w11 ⟨rfl, _, hb⟩
  have ep : optR (firstT 1 [(1, 7, 5), (2, 8, 1), (2, 7, 3)]) = ((1, 7, 5), true) := by decide
  rw [ep]
  simp only [encR]
  have hq := ((H10.out.push (2, 7, 3))).below hb
  have H11 := Lib.hid hq
  clear hq H10 ep hb
  go_wp2_with fail
  refine (dfirst_in 0 ((H11.out.push (1, 7, 5))).1 (by decide)).mono ?_
  rintro e w12 ⟨rfl, _, hb⟩
  have ep : optR (firstT 0 [(1, 7, 5), (2, 8, 1), (2, 7, 3)]) = ((0, 0, 0), false) := by decide
  rw [ep]
  simp only [encR]
  have hq := ((H11.out.push (1, 7, 5))).below hb
  have H12 := Lib.hid hq
  clear hq H11 ep hb
  go_wp2_with fail
  refine (dleast_in ((H12.out.below ((Below.refl _ w12).alloc (Nat.le_refl _) _))).1 (by decide)).mono ?_
  rintro e w13 ⟨rfl, _, hb⟩
  have ep : minT [(1, 7, 5), (2, 8, 1), (2, 7, 3)] = ((1, 7, 5), true) := by decide
  rw [ep]
  simp only [encR]
  have hq := ((H12.out.below ((Below.refl _ w12).alloc (Nat.le_refl _) _))).below hb
  have H13 := Lib.hid hq
  clear hq H12 ep hb
  go_wp2_with fail
  refine (dset_b (i := 0) (r0 := (1, 7, 5)) (3, 1, 5) (H13.out.push (1, 7, 5)) (by rfl) (by rfl) (by unfold wf64; decide) (by unfold wf64; decide) (by decide) (by decide)).mono ?_
  rintro e w14 ⟨rfl, hq, _⟩
  have ep : setT [(1, 7, 5), (2, 8, 1), (2, 7, 3)] 0 (3, 1, 5) = [(2, 8, 1), (2, 7, 3), (3, 1, 5)] := by decide
  rw [ep] at hq
  have H14 := Lib.hid hq
  clear hq H13 ep
  go_wp2_with fail
  refine (dset_in_no (id := 9) 3 1 (H14.out).1 (by unfold wf64; decide) (by decide)).mono ?_
  rintro e w15 ⟨rfl, _, hb⟩
  have hq := (H14.out).below hb
  have H15 := Lib.hid hq
  clear hq H14 hb
  go_wp2_with fail
  refine (dget_in (r := (3, 1, 5)) (H15.out).1 (by simp)).mono ?_
  rintro e w16 ⟨rfl, _, hb⟩
  simp only [encR]
  have hq := (H15.out).below hb
  have H16 := Lib.hid hq
  clear hq H15 hb
  go_wp2_with fail
  refine (dget_in_no (id := 9) ((H16.out.push (3, 1, 5))).1 (by unfold wf64; decide) (by decide)).mono ?_
  rintro e w17 ⟨rfl, _, hb⟩
  simp only [encR]
  have hq := ((H16.out.push (3, 1, 5))).below hb
  have H17 := Lib.hid hq
  clear hq H16 hb
  go_wp2_with fail
  refine (dlist_in ((H17.out.below ((Below.refl _ w17).alloc (Nat.le_refl _) _))).1 (by decide)).mono ?_
  rintro e w18 ⟨vl, rfl, hM, _, hb⟩
  have hq := ((H17.out.below ((Below.refl _ w17).alloc (Nat.le_refl _) _))).more (G' := fun j => vl.ownBlock = some j) hb (fun j hj => .inr (World.ownsRow.lt hM j hj))
  have HL : Hid (DRow w18 vl [(2, 8, 1), (2, 7, 3), (3, 1, 5)]) := Lib.hid (base_zero hM)
  have H18 := Lib.hid hq
  clear hq H17 hb hM
  go_wp2_with fail
  refine (ddrop_b (i := 1) (r := (2, 7, 3)) H18.out (by rfl) (by decide) (by decide)).mono ?_
  rintro e w19 ⟨rfl, hq, hk⟩
  have ep : List.eraseIdx [(2, 8, 1), (2, 7, 3), (3, 1, 5)] 1 = ([(2, 8, 1), (3, 1, 5)] : List RI) := by decide
  rw [ep] at hq
  simp only [encR]
  have HL' : Hid (DRow w19 vl [(2, 8, 1), (2, 7, 3), (3, 1, 5)]) := Lib.hid (HL.out.keep hk)
  have H19 := Lib.hid hq
  clear hq H18 hk ep HL
  go_wp2_with fail
  refine (ddrop_in_no (id := 3) ((H19.out.push (2, 7, 3))).1 (by unfold wf64; decide) (by decide)).mono ?_
  rintro e w20 ⟨rfl, _, hb⟩
  simp only [encR]
  have hb' := ((Below.refl _ w19).alloc (Nat.le_refl _) (.cells #[.int .i64 2, .int .i64 7, .int .i64 3] 60)).trans (hb.mono (by simp))
  have HL : Hid (DRow w20 vl [(2, 8, 1), (2, 7, 3), (3, 1, 5)]) := Lib.hid (HL'.out.keep (fun g hg => hb'.block g (HL'.out.lt hg)))
  have hq := ((H19.out.push (2, 7, 3))).below hb
  have H20 := Lib.hid hq
  clear hq H19 hb hb' HL'
  obtain ⟨x00, x01, x02⟩ := H20.out.box (b := w10.heap.size) (r := (2, 7, 3)) (by simp)
  have lt0 : w10.heap.size < w20.heap.size := (Array.getElem?_eq_some_iff.1 (H20.out.2 (w10.heap.size, (2, 7, 3)) (by simp))).1
  obtain ⟨x10, x11, x12⟩ := H20.out.box (b := w11.heap.size) (r := (1, 7, 5)) (by simp)
  have lt1 : w11.heap.size < w20.heap.size := (Array.getElem?_eq_some_iff.1 (H20.out.2 (w11.heap.size, (1, 7, 5)) (by simp))).1
  obtain ⟨x20, x21, x22⟩ := H20.out.box (b := w13.heap.size) (r := (1, 7, 5)) (by simp)
  have lt2 : w13.heap.size < w20.heap.size := (Array.getElem?_eq_some_iff.1 (H20.out.2 (w13.heap.size, (1, 7, 5)) (by simp))).1
  obtain ⟨x30, x31, x32⟩ := H20.out.box (b := w16.heap.size) (r := (3, 1, 5)) (by simp)
  have lt3 : w16.heap.size < w20.heap.size := (Array.getElem?_eq_some_iff.1 (H20.out.2 (w16.heap.size, (3, 1, 5)) (by simp))).1
  obtain ⟨x40, x41, x42⟩ := H20.out.box (b := w19.heap.size) (r := (2, 7, 3)) (by simp)
  have lt4 : w19.heap.size < w20.heap.size := (Array.getElem?_eq_some_iff.1 (H20.out.2 (w19.heap.size, (2, 7, 3)) (by simp))).1
  simp only at x00 x01 x02 x10 x11 x12 x20 x21 x22 x30 x31 x32 x40 x41 x42
  go_wp2_with fail
  obtain ⟨w22, hw22⟩ : ∃ w22, (w20.alloc (.cells #[.int .i64 0, .int .i64 0, .int .i64 0] 60)).alloc (.cells (flatR [(2, 8, 1), (2, 7, 3), (3, 1, 5)]).toArray 40) = w22 := ⟨_, rfl⟩
  have hb22 : Below w20.heap.size w20 w22 := by rw [← hw22]; exact ((Below.refl _ w20).alloc (Nat.le_refl _) _).alloc (by simp) _
  have hn22 : w22.heap[w20.heap.size + 1]? = some (.cells (flatR [(2, 8, 1), (2, 7, 3), (3, 1, 5)]).toArray 40 (0, 0)) := by rw [← hw22]; exact heap_alloc2_new _ _ _
  simp only [flatR, encR, List.cons_append, List.nil_append] at hw22
  rw [hw22]
  have K := Lib.hid (same5_c vl _ _ w22 (HL.out.keep (fun g hg => hb22.block g (HL.out.lt hg))) (rsub_new hn22) (by decide))
  have H22 := Lib.hid (H20.out.below hb22)
  clear hw22 hb22 hn22 x00 x01 x02 x10 x11 x12 x20 x21 x22 x30 x31 x32 x40 x41 x42 lt0 lt1 lt2 lt3 lt4
  refine (K.out).mono ?_
  rintro e w23 ⟨rfl, nq, rfl⟩
  clear K
  obtain ⟨y0, y1, y2⟩ := H22.out.box (b := w19.heap.size) (r := (2, 7, 3)) (by simp)
  simp only at y0 y1 y2
  have KL := Lib.hid (dlen_in (H22.out.below (below_drewN (Below.refl _ _) nq)).1)
  go_wp2_with fail
  refine (KL.out).mono ?_
  rintro e w24 ⟨rfl, rfl⟩
  go_wp2_with fail
  go_ret
  exact ⟨rfl, (H22.out.below (below_drewN (Below.refl _ _) nq)).frame⟩
end Go.Proofs.Ytghjanonffiohaa
