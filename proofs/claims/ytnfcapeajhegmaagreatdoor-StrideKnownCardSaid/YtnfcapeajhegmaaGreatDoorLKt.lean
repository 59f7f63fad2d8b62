/- StrideKnown. -/
import Derived.Test.YtnfcapeajhegmaaGreatDoorSk
import Derived.Test.YtnfcapeajhegmaaGreatDoorYi
namespace Go.Proofs.YtnfcapeajhegmaaGreatDoor
open Go.RowKit Go.Maps

theorem kt_facts :
    chargeM 100 (-1) [] = (0, 14, 100, []) ∧
    enterM 100 [] (1, 1, 50) = (0, 100, [(1, 1, 100)]) ∧
    enterM 100 [(1, 1, 100)] (1, 1, 0) = (4, 100, [(1, 1, 100)]) ∧
    enterM 100 [(1, 1, 100)] (2, 0, 0) = (1, 100, [(1, 1, 100)]) ∧
    enterM 100 [(1, 1, 100)] (2, 2, -10) = (0, 100, [(1, 1, 100), (2, 2, 110)]) ∧
    leaveM 100 (-1) [(1, 1, 100), (2, 2, 110)] 2 = (-10, 0, 100, -1, [(1, 1, 100)]) ∧
    putM 100 [(1, 1, 100)] (2, 2, 30) = (0, 100, [(1, 1, 100), (2, 2, 70)]) ∧
    leaveM 100 (-1) [(1, 1, 100), (2, 2, 70)] 2 = (30, 0, 100, -1, [(1, 1, 100)]) ∧
    leaveM 100 (-1) [(1, 1, 100)] 2 = (0, 2, 100, -1, [(1, 1, 100)]) ∧
    weighM [(1, 1, 100)] 1 5 = (0, [(1, 5, 100)]) ∧
    weighM [(1, 5, 100)] 1 0 = (1, [(1, 5, 100)]) ∧
    weighM [(1, 5, 100)] 9 1 = (2, [(1, 5, 100)]) ∧
    minR [(1, 5, 100)] = (100, 1) ∧
    formL 100 [(1, 5, 100)] = [(1, 5, 0)] ∧ goodV 0 [] = false := by
  refine ⟨?_, ?_, ?_, ?_, ?_, ?_, ?_, ?_, ?_, ?_, ?_, ?_, ?_, ?_, ?_⟩ <;> first | decide +kernel | (refine Prod.ext ?_ (Prod.ext ?_ (Prod.ext ?_ (Prod.ext ?_ ?_))) <;> decide +kernel)
theorem kt_text : textL (-1) [(1, 5, 0)] = [45, 49, 58, 32, 49, 47, 53, 47, 48] := by
  have e0 : Lib.itoa 0 = [48] := itoa_digit (n := 0) (by omega)
  have e1 : Lib.itoa 1 = [49] := itoa_digit (n := 1) (by omega)
  have e5 : Lib.itoa 5 = [53] := itoa_digit (n := 5) (by omega)
  have em : Lib.itoa (-1) = [45, 49] := itoa_minus (n := 1) (by omega) (by omega)
  simp [textL, itemsT, itemT, e0, e1, e5, em]
theorem kt_small : ∀ r ∈ ([(1, 5, 0)] : List RI), SmR r := by
  intro r hr
  simp at hr
  subst hr
  refine ⟨⟨?_, ?_⟩, ⟨?_, ?_⟩, ⟨?_, ?_⟩⟩ <;> decide

set_option maxRecDepth 100000 in
set_option maxHeartbeats 16000000 in
theorem known_c (W : World) (ht : Tab W) : Calls Tryz.prog 3 #[] W fun e w' => e = .returned (.bool true) ∧ Below W.heap.size W w' := by
  obtain ⟨f0, f1, f2, f3, f4, f5, f6, f7, f8, f9, f10, f11, f12, f13, fg⟩ := kt_facts
  have Xf0 := Lib.hid f0
  have Xf1 := Lib.hid f1
  have Xf2 := Lib.hid f2
  have Xf3 := Lib.hid f3
  have Xf4 := Lib.hid f4
  have Xf5 := Lib.hid f5
  have Xf6 := Lib.hid f6
  have Xf7 := Lib.hid f7
  have Xf8 := Lib.hid f8
  have Xf9 := Lib.hid f9
  have Xf10 := Lib.hid f10
  have Xf11 := Lib.hid f11
  have Xf12 := Lib.hid f12
  have Xf13 := Lib.hid f13
  have XG := Lib.hid fg
  have XT := Lib.hid kt_text
  have HT := Lib.hid ht
  clear ht fg f0 f1 f2 f3 f4 f5 f6 f7 f8 f9 f10 f11 f12 f13
  have K0 := Lib.hid (awake11_c W)
  go_enter Tryz.func3, Tryz.ntmps3
  go_wp2_with fail
  refine K0.out.mono ?_
  rintro e w1 ⟨rfl, hb⟩
  have B1 := Lib.hid hb
  clear hb K0
  go_wp2_with fail
  refine (snew_no 1152921504606846977 w1 (by decide)).mono ?_
  rintro e w2 ⟨rfl, rfl⟩
  go_wp2_with fail
  refine (snew_no (-1152921504606846977) w1 (by decide)).mono ?_
  rintro e w2 ⟨rfl, rfl⟩
  have K1 := Lib.hid (sseed_c 0 0 none 0 0 [] w1 rfl (by decide) TRow.nil)
  unfold SeedPost at K1
  simp only [XG.out, Bool.false_eq_true, false_and, if_false] at K1
  go_wp2_with fail
  refine K1.out.mono ?_
  rintro e w2 ⟨rfl, hb⟩
  have B2 := Lib.hid (B1.out.trans (hb.mono B1.out.size))
  clear hb K1 B1
  go_wp2_with fail
  refine (snew_in W w2 B2.out 100 (fun _ => False) (fun _ h => h.elim) (by decide) (by decide)).mono ?_
  rintro e w3 ⟨s, rfl, hq, -⟩
  have H := Lib.hid hq
  clear hq B2
  go_wp2_with fail
  refine (spick_in H.out).mono ?_
  rintro e w4 ⟨rfl, hq, -⟩
  have H1 := Lib.hid hq
  clear hq H
  simp only [if_true, decide_true, Bool.not_true] at H1 ⊢
  have H := H1
  clear H1
  go_wp2_with fail
  refine (scharge_in H.out (by decide)).mono ?_
  rintro e w5 ⟨rfl, hq, -⟩
  rw [Xf0.out] at hq ⊢
  have H1 := Lib.hid hq
  clear hq H Xf0
  have H := H1
  clear H1
  simp only
  go_wp2_with fail
  refine (senter_in (1, 1, 50) H.out (by decide) (by decide) (by decide)).mono ?_
  rintro e w6 ⟨rfl, hq, -⟩
  rw [Xf1.out] at hq ⊢
  have H1 := Lib.hid hq
  clear hq H Xf1
  have H := H1
  clear H1
  simp only
  go_wp2_with fail
  refine (senter_in (1, 1, 0) H.out (by decide) (by decide) (by decide)).mono ?_
  rintro e w7 ⟨rfl, hq, -⟩
  rw [Xf2.out] at hq ⊢
  have H1 := Lib.hid hq
  clear hq H Xf2
  have H := H1
  clear H1
  simp only
  go_wp2_with fail
  refine (senter_in (2, 0, 0) H.out (by decide) (by decide) (by decide)).mono ?_
  rintro e w8 ⟨rfl, hq, -⟩
  rw [Xf3.out] at hq ⊢
  have H1 := Lib.hid hq
  clear hq H Xf3
  have H := H1
  clear H1
  simp only
  go_wp2_with fail
  refine (senter_in (2, 2, -10) H.out (by decide) (by decide) (by decide)).mono ?_
  rintro e w9 ⟨rfl, hq, -⟩
  rw [Xf4.out] at hq ⊢
  have H1 := Lib.hid hq
  clear hq H Xf4
  have H := H1
  clear H1
  simp only
  go_wp2_with fail
  refine (sleave_in 2 H.out (by unfold wf64; decide) (by decide)).mono ?_
  rintro e w10 ⟨rfl, hq, -⟩
  rw [Xf5.out] at hq ⊢
  have H1 := Lib.hid hq
  clear hq H Xf5
  have H := H1
  clear H1
  simp only
  go_wp2_with fail
  refine (sput_in (2, 2, 30) H.out (by decide) (by decide) (by decide)).mono ?_
  rintro e w11 ⟨rfl, hq, -⟩
  rw [Xf6.out] at hq ⊢
  have H1 := Lib.hid hq
  clear hq H Xf6
  have H := H1
  clear H1
  simp only
  go_wp2_with fail
  refine (sleave_in 2 H.out (by unfold wf64; decide) (by decide)).mono ?_
  rintro e w12 ⟨rfl, hq, -⟩
  rw [Xf7.out] at hq ⊢
  have H1 := Lib.hid hq
  clear hq H Xf7
  have H := H1
  clear H1
  simp only
  go_wp2_with fail
  refine (sleave_in 2 H.out (by unfold wf64; decide) (by decide)).mono ?_
  rintro e w13 ⟨rfl, hq, -⟩
  rw [Xf8.out] at hq ⊢
  have H1 := Lib.hid hq
  clear hq H Xf8
  have H := H1
  clear H1
  simp only
  go_wp2_with fail
  refine (sweigh_in 1 5 H.out (by unfold wf64; decide) (by unfold wf64; decide)).mono ?_
  rintro e w14 ⟨rfl, hq, -⟩
  rw [Xf9.out] at hq ⊢
  have H1 := Lib.hid hq
  clear hq H Xf9
  have H := H1
  clear H1
  simp only
  go_wp2_with fail
  refine (sweigh_in 1 0 H.out (by unfold wf64; decide) (by unfold wf64; decide)).mono ?_
  rintro e w15 ⟨rfl, hq, -⟩
  rw [Xf10.out] at hq ⊢
  have H1 := Lib.hid hq
  clear hq H Xf10
  have H := H1
  clear H1
  simp only
  go_wp2_with fail
  refine (sweigh_in 9 1 H.out (by unfold wf64; decide) (by unfold wf64; decide)).mono ?_
  rintro e w16 ⟨rfl, hq, -⟩
  rw [Xf11.out] at hq ⊢
  have H1 := Lib.hid hq
  clear hq H Xf11
  have H := H1
  clear H1
  simp only
  go_wp2_with fail
  refine (spick_in H.out).mono ?_
  rintro e wp ⟨rfl, hq, -⟩
  rw [Xf12.out] at hq ⊢
  have H1 := Lib.hid hq
  clear hq H Xf12
  simp only [reduceCtorEq, if_false, decide_false, Bool.not_false] at H1 ⊢
  have H := H1
  clear H1
  go_wp2_with fail
  refine (sback_in H.out).mono ?_
  rintro e wq ⟨rfl, hq, -⟩
  have H1 := Lib.hid hq
  clear hq H
  have H := H1
  clear H1
  go_wp2_with fail
  refine (sback_in H.out).mono ?_
  rintro e wr ⟨rfl, hq, -⟩
  have H1 := Lib.hid hq
  clear hq H
  have H := H1
  clear H1
  go_wp2_with fail
  refine (sform_in H.out).mono ?_
  rintro e ws ⟨A, c, rfl, hT, hq, -⟩
  rw [Xf13.out] at hT
  have K1 := Lib.hid (text_c (-1) A 1 c [(1, 5, 0)] ws rfl (by decide) hT (HT.out.below hq.frame (Nat.le_refl _)) ⟨by decide, by decide⟩ kt_small)
  rw [XT.out] at K1
  have H1 := Lib.hid hq
  clear hq H Xf13 hT
  simp only [List.length_singleton]
  go_wp2_with fail
  refine K1.out.mono ?_
  rintro e wt ⟨rfl, hb⟩
  have H := Lib.hid (H1.out.below hb)
  clear H1 hb K1
  go_wp2_with fail
  refine (sbase_in H.out).mono ?_
  rintro e wu ⟨rfl, rfl⟩
  have HB := Lib.hid H.out.frame
  clear H
  go_wp2_with fail
  go_ret
  exact ⟨rfl, HB.out⟩
end Go.Proofs.YtnfcapeajhegmaaGreatDoor
