/- OrdqKnown: its walk. -/
import Derived.Test.YtghjanonffiohaaQc
namespace Go.Proofs.Ytghjanonffiohaa
open Go.RowKit

theorem wf64_of {a : Int} (h : (Lit.int .i64 a).wf = true) : wf64 a := h
/-- Three things of the reference's in a new row. -/
theorem rsub_new {w' : World} {g : Nat} {R : List RI} {t : TypeId} (hb : w'.heap[g]? = some (.cells (flatR R).toArray t (0, 0))) : RSub w' (.slice (some ⟨g, 0, none⟩) R.length R.length) R := by
  refine ⟨_, _, rfl, fun j r hj => ⟨_, 0, rfl, (Array.getElem?_eq_some_iff.1 hb).1, ?_, ?_, ?_⟩⟩
  · have h := flatR_get hj 0 (by omega)
    simp [World.cell?, hb]
    exact h
  · have h := flatR_get hj 1 (by omega)
    simp [World.cell?, hb]
    exact h
  · have h := flatR_get hj 2 (by omega)
    simp [World.cell?, hb]
    exact h

set_option maxRecDepth 100000 in
set_option maxHeartbeats 8000000 in
theorem ordqKnown_c (W : World) : Calls Try.prog 3 #[] W fun e w' => e = .returned (.bool true) ∧ Below W.heap.size W w' := by
  go_enter Try.func3, Try.ntmps3
  go_wp2_with fail
  refine (awake4_c W).mono ?_
  rintro e w1 ⟨rfl, hb1⟩
  have HB1 := Lib.hid hb1
  clear hb1
  go_wp2_with fail
  refine (qnew_in W w1 HB1.out 3 (fun _ => False) (fun _ h => h.elim)).mono ?_
  rintro e w2 ⟨rfl, hq, _⟩
  have e4 : clampQ 3 = 3 := by decide
  rw [e4] at hq
  have H2 := Lib.hid hq
  clear hq e4 HB1
  obtain ⟨b, hb⟩ : ∃ b, w1.heap.size + 1 = b := ⟨_, rfl⟩
  rw [hb] at H2 ⊢
  clear hb
  go_wp2_with fail
  refine (qmin_in H2.out (by decide)).mono ?_
  rintro e w3 ⟨rfl, hq, _⟩
  simp only [minV]
  have H3 := Lib.hid hq
  clear hq H2
  go_wp2_with fail
  refine (qput_in (5, 9) (H3.out.alloc _) (by unfold wf64; decide) (by unfold wf64; decide) (by decide) (by decide)).mono ?_
  rintro e w4 ⟨rfl, hq, _⟩
  have ep : putV 3 [] (5, 9) = (0, [(5, 9)]) := by decide
  rw [ep] at hq ⊢
  have H4 := Lib.hid hq
  clear hq ep H3
  go_wp2_with fail
  refine (qput_in (1, 9) H4.out (by unfold wf64; decide) (by unfold wf64; decide) (by decide) (by decide)).mono ?_
  rintro e w5 ⟨rfl, hq, _⟩
  have ep : putV 3 [(5, 9)] (1, 9) = (4, [(5, 9)]) := by decide
  rw [ep] at hq ⊢
  have H5 := Lib.hid hq
  clear hq ep H4
  go_wp2_with fail
  refine (qput_in (5, 3) H5.out (by unfold wf64; decide) (by unfold wf64; decide) (by decide) (by decide)).mono ?_
  rintro e w6 ⟨rfl, hq, _⟩
  have ep : putV 3 [(5, 9)] (5, 3) = (0, [(5, 3), (5, 9)]) := by decide
  rw [ep] at hq ⊢
  have H6 := Lib.hid hq
  clear hq ep H5
  go_wp2_with fail
  refine (qput_in (-7, 4) H6.out (by unfold wf64; decide) (by unfold wf64; decide) (by decide) (by decide)).mono ?_
  rintro e w7 ⟨rfl, hq, _⟩
  have ep : putV 3 [(5, 3), (5, 9)] (-7, 4) = (0, [(-7, 4), (5, 3), (5, 9)]) := by decide
  rw [ep] at hq ⊢
  have H7 := Lib.hid hq
  clear hq ep H6
  go_wp2_with fail
  refine (qput_in (0, 8) H7.out (by unfold wf64; decide) (by unfold wf64; decide) (by decide) (by decide)).mono ?_
  rintro e w8 ⟨rfl, hq, _⟩
  have ep : putV 3 [(-7, 4), (5, 3), (5, 9)] (0, 8) = (3, [(-7, 4), (5, 3), (5, 9)]) := by decide
  rw [ep] at hq ⊢
  have H8 := Lib.hid hq
  clear hq ep H7
  go_wp2_with fail
  refine (qput_in (0, 9) H8.out (by unfold wf64; decide) (by unfold wf64; decide) (by decide) (by decide)).mono ?_
  rintro e w9 ⟨rfl, hq, _⟩
  have ep : putV 3 [(-7, 4), (5, 3), (5, 9)] (0, 9) = (4, [(-7, 4), (5, 3), (5, 9)]) := by decide
  rw [ep] at hq ⊢
  have H9 := Lib.hid hq
  clear hq ep H8
  go_wp2_with fail
  refine (qset_in (x := (-7, 4)) (i := 0) 6 H9.out (by rfl) (by unfold wf64; decide) (by decide) (by decide)).mono ?_
  rintro e w10 ⟨rfl, hq, _⟩
  have ep : insL (List.eraseIdx [(-7, 4), (5, 3), (5, 9)] 0) (6, 4) = [(5, 3), (5, 9), (6, 4)] := by decide
  rw [ep] at hq
  have H10 := Lib.hid hq
  clear hq ep H9
  go_wp2_with fail
  refine (qset_in_no (id := 8) 6 H10.out (by unfold wf64; decide) (by decide)).mono ?_
  rintro e w11 ⟨rfl, hq, _⟩
  have H11 := Lib.hid hq
  clear hq H10
  go_wp2_with fail
  refine (qlist_in H11.out (by decide)).mono ?_
  rintro e w12 ⟨vl, rfl, hM, hq, hb⟩
  have hq' := H11.out.more (G := fun j => vl.ownBlock = some j) hb (fun j hj => .inr (World.ownsRow.lt hM j hj))
  have HL : Hid (QRow w12 26 vl [(5, 3), (5, 9), (6, 4)]) := Lib.hid (base_zero hM)
  have H12 := Lib.hid hq'
  clear hq hq' hM hb H11
  go_wp2_with fail
  refine (qover_in 5 H12.out (by decide)).mono ?_
  rintro e w13 ⟨vo, rfl, hM, hq, hb⟩
  have ep : overL [(5, 3), (5, 9), (6, 4)] 5 = [(6, 4)] := by decide
  rw [ep] at hM
  have hq' := H12.out.more (G := fun j => vl.ownBlock = some j ∨ vo.ownBlock = some j) hb (fun j hj => hj.elim .inl (fun h => .inr (World.ownsRow.lt hM j h)))
  have HL' : Hid (QRow w13 26 vl [(5, 3), (5, 9), (6, 4)]) := Lib.hid (HL.out.keep (fun g hg => hb.block g (HL.out.lt hg)))
  have HO : Hid (QRow w13 26 vo [(6, 4)]) := Lib.hid (base_zero hM)
  have H13 := Lib.hid hq'
  clear hq hq' hM hb H12 HL ep
  go_wp2_with fail
  refine (qkey_in (id := 4) H13.out (by unfold wf64; decide)).mono ?_
  rintro e w14 ⟨rfl, rfl⟩
  have ep : keyV [(5, 3), (5, 9), (6, 4)] 4 = (6, true) := by decide
  rw [ep]
  clear ep
  go_wp2_with fail
  refine (qkey_in (id := 8) H13.out (by unfold wf64; decide)).mono ?_
  rintro e w14 ⟨rfl, rfl⟩
  have ep : keyV [(5, 3), (5, 9), (6, 4)] 8 = (0, false) := by decide
  rw [ep]
  clear ep
  go_wp2_with fail
  refine (qdrop_in (x := (5, 3)) (i := 0) H13.out (by rfl) (by decide) (by decide)).mono ?_
  rintro e w14 ⟨rfl, hq, hk⟩
  have ep : List.eraseIdx [(5, 3), (5, 9), ((6, 4) : QI)] 0 = [(5, 9), (6, 4)] := by decide
  rw [ep] at hq
  have HL : Hid (QRow w14 26 vl [(5, 3), (5, 9), (6, 4)]) := Lib.hid (HL'.out.keep (fun g hg => hk g (.inl hg)))
  have HO' : Hid (QRow w14 26 vo [(6, 4)]) := Lib.hid (HO.out.keep (fun g hg => hk g (.inr hg)))
  have H14 := Lib.hid hq
  clear hq hk ep H13 HL' HO
  go_wp2_with fail
  refine (qdrop_in_no (id := 3) (H14.out.alloc _) (by unfold wf64; decide) (by decide)).mono ?_
  rintro e w15 ⟨rfl, hq, hb⟩
  have hb' := ((Below.refl _ w14).alloc (Nat.le_refl _) (.cells #[.int .i64 5, .int .i64 3] 26)).trans (hb.mono (by simp))
  have hx : w15.heap[w14.heap.size]? = some (.cells #[.int .i64 5, .int .i64 3] 26 (0, 0)) := (hb.block _ (by simp)).trans (World.alloc_heap_new _ _)
  have HX := Lib.hid hx
  have HL' : Hid (QRow w15 26 vl [(5, 3), (5, 9), (6, 4)]) := Lib.hid (HL.out.keep (fun g hg => hb'.block g (HL.out.lt hg)))
  have HO : Hid (QRow w15 26 vo [(6, 4)]) := Lib.hid (HO'.out.keep (fun g hg => hb'.block g (HO'.out.lt hg)))
  have H15 := Lib.hid hq
  clear hq hb hb' hx H14 HL HO'
  go_wp2_with fail
  obtain ⟨w16, hw16⟩ : ∃ w16, w15.alloc (.cells #[.int .i64 0, .int .i64 0] 26) = w16 := ⟨_, rfl⟩
  have hb16 : Below w15.heap.size w15 w16 := by rw [← hw16]; exact (Below.refl _ w15).alloc (Nat.le_refl _) _
  rw [hw16]
  have HX' : Hid (w16.heap[w14.heap.size]? = some (.cells #[.int .i64 5, .int .i64 3] 26 (0, 0))) := Lib.hid ((hb16.block _ (Array.getElem?_eq_some_iff.1 HX.out).1).trans HX.out)
  have HL : Hid (QRow w16 26 vl [(5, 3), (5, 9), (6, 4)]) := Lib.hid (HL'.out.keep (fun g hg => hb16.block g (HL'.out.lt hg)))
  have HO' : Hid (QRow w16 26 vo [(6, 4)]) := Lib.hid (HO.out.keep (fun g hg => hb16.block g (HO.out.lt hg)))
  have H16 := Lib.hid (H15.out.below hb16)
  clear hw16 hb16 HX H15 HL' HO
  refine (qnew_in W w16 H16.out.frame (-5) (fun k => k < w16.heap.size) (fun _ h => h)).mono ?_
  rintro e w17 ⟨rfl, hq, hb⟩
  have e4 : clampQ (-5) = 1 := by decide
  rw [e4] at hq
  have HX : Hid (w17.heap[w14.heap.size]? = some (.cells #[.int .i64 5, .int .i64 3] 26 (0, 0))) := Lib.hid ((hb.block _ (Array.getElem?_eq_some_iff.1 HX'.out).1).trans HX'.out)
  have hk17 : ∀ k, k < w16.heap.size → w17.heap[k]? = w16.heap[k]? := fun k hk => hb.block k hk
  have H17 := Lib.hid hq
  have HK17 := Lib.hid hk17
  clear hq e4 hb hk17 HX
  obtain ⟨b2, hb2⟩ : ∃ b2, w16.heap.size + 1 = b2 := ⟨_, rfl⟩
  rw [hb2] at H17 ⊢
  clear hb2
  go_wp2_with fail
  refine (qput_in (1, 1) H17.out (by unfold wf64; decide) (by unfold wf64; decide) (by decide) (by decide)).mono ?_
  rintro e w18 ⟨rfl, hq, hk⟩
  have ep : putV 1 [] (1, 1) = (0, [(1, 1)]) := by decide
  rw [ep] at hq ⊢
  have H18 := Lib.hid hq
  have HK18 : Hid (∀ k, k < w16.heap.size → w18.heap[k]? = w16.heap[k]?) := Lib.hid (fun k h => (hk k h).trans (HK17.out k h))
  clear hq ep H17 HK17 hk
  go_wp2_with fail
  refine (qput_in (2, 2) H18.out (by unfold wf64; decide) (by unfold wf64; decide) (by decide) (by decide)).mono ?_
  rintro e w19 ⟨rfl, hq, hk⟩
  have ep : putV 1 [(1, 1)] (2, 2) = (3, [(1, 1)]) := by decide
  rw [ep] at hq ⊢
  have H19 := Lib.hid hq.frame
  have HK19 : Hid (∀ k, k < w16.heap.size → w19.heap[k]? = w16.heap[k]?) := Lib.hid (fun k h => (hk k h).trans (HK18.out k h))
  clear hq ep H18 HK18 hk
  have HX : Hid (w19.heap[w14.heap.size]? = some (.cells #[.int .i64 5, .int .i64 3] 26 (0, 0))) := Lib.hid ((HK19.out _ (Array.getElem?_eq_some_iff.1 HX'.out).1).trans HX'.out)
  have HL' : Hid (QRow w19 26 vl [(5, 3), (5, 9), (6, 4)]) := Lib.hid (HL.out.keep (fun g hg => HK19.out g (HL.out.lt hg)))
  have HO : Hid (QRow w19 26 vo [(6, 4)]) := Lib.hid (HO'.out.keep (fun g hg => HK19.out g (HO'.out.lt hg)))
  obtain ⟨v, mp, s, hQ, _⟩ := H16.out
  have HQ := Lib.hid (hQ.keep (w' := w19) (fun k hk => HK19.out k (hQ.lt k hk)))
  clear hQ H16 HK19 HX' HL HO'
  go_wp2_with fail
  obtain ⟨w20, hw20⟩ : ∃ w20, w19.alloc (.cells (flatR [(5, 0, 3), (5, 0, 9), (6, 0, 4)]).toArray 40) = w20 := ⟨_, rfl⟩
  have hb20 : Below w19.heap.size w19 w20 := by rw [← hw20]; exact (Below.refl _ w19).alloc (Nat.le_refl _) _
  have hn20 : w20.heap[w19.heap.size]? = some (.cells (flatR [(5, 0, 3), (5, 0, 9), (6, 0, 4)]).toArray 40 (0, 0)) := by rw [← hw20]; exact World.alloc_heap_new _ _
  simp only [flatR, encR, List.cons_append, List.nil_append] at hw20
  rw [hw20]
  have K := Lib.hid (same4_c vl _ _ _ w20 (HL'.out.keep (fun g hg => hb20.block g (HL'.out.lt hg))) (rsub_new hn20) (by unfold Alike; rfl) (by decide))
  have HB20 := Lib.hid hb20
  clear hb20 hn20 hw20
  refine (K.out).mono ?_
  rintro e w21 ⟨rfl, nq, rfl⟩
  clear K
  go_wp2_with fail
  obtain ⟨w21, hw21⟩ : ∃ w21, (w20.drewN nq).alloc (.cells (flatR [(6, 0, 4)]).toArray 40) = w21 := ⟨_, rfl⟩
  have hb21 : Below w20.heap.size w20 w21 := by rw [← hw21]; exact (below_drewN (Below.refl _ _) nq).alloc (Nat.le_refl _) _
  have hn21 : w21.heap[w20.heap.size]? = some (.cells (flatR [(6, 0, 4)]).toArray 40 (0, 0)) := by rw [← hw21]; exact World.alloc_heap_new _ _
  simp only [flatR, encR, List.cons_append, List.nil_append] at hw21
  rw [hw21]
  have hb21' := HB20.out.trans (hb21.mono HB20.out.size)
  have K := Lib.hid (same4_c vo _ _ _ w21 (HO.out.keep (fun g hg => hb21'.block g (HO.out.lt hg))) (rsub_new hn21) (by unfold Alike; rfl) (by decide))
  have HX21 := (hb21'.block _ (Array.getElem?_eq_some_iff.1 HX.out).1).trans HX.out
  have x0 : w21.cell? ⟨w14.heap.size, 0, none⟩ = some (.int .i64 5) := by simp [World.cell?, HX21]
  have x1 : w21.cell? ⟨w14.heap.size, 1, none⟩ = some (.int .i64 3) := by simp [World.cell?, HX21]
  have HB21 := Lib.hid hb21'
  clear hb21 hn21 hw21 hb21' HX21
  refine (K.out).mono ?_
  rintro e w22 ⟨rfl, nq2, rfl⟩
  clear K
  have KL := Lib.hid (qlen_c b mp 3 s v _ (w21.drewN nq2) (isQ_below HQ.out (below_drewN HB21.out nq2)))
  go_wp2_with fail
  refine (KL.out).mono ?_
  rintro e w23 ⟨rfl, rfl⟩
  go_wp2_with fail
  go_ret
  exact ⟨rfl, H19.out.trans ((below_drewN HB21.out nq2).mono H19.out.size)⟩
end Go.Proofs.Ytghjanonffiohaa
