/- PolicyHeld. -/
import Derived.Test.YtancneebbellnaaGreatDoorJg
import Derived.Test.YtancneebbellnaaGreatDoorJl
namespace Go.Proofs.YtancneebbellnaaGreatDoor.Po
open Go.RowKit Go.Maps

theorem held_zero (t : Int) : heldP t 0 = 0 := by unfold heldP; (repeat' split) <;> omega
theorem held_twice (t x : Int) : heldP t (heldP t x) = heldP t x := by unfold heldP; (repeat' split) <;> omega
theorem ent_one (t : Int) : entP t 0 [] (1, 1, 0) = (0, 0, [(1, 1, 0, 931170240)]) := by
  unfold entP
  simp only [held_zero]
  exact tri (by decide +kernel) (by decide +kernel) (by decide +kernel)
theorem ent_two (t i g : Int) (h1 : 1 ≤ i) (h2 : i ≤ 20) (h3 : -1125899906842624 ≤ g) (h4 : g ≤ 1125899906842624) :
    entP t 0 [(1, 1, 0, 931170240)] (2, i, g) = (0, 0, [(1, 1, 0, 931170240), newU 0 (2, i, heldP t g)]) := by
  unfold entP
  have hi : itemB (2, i, g) = true := itemB_true.2 ⟨show (0 : Int) ≤ 2 by decide, show (2 : Int) ≤ 1073741824 by decide, ⟨h1, h2⟩, h3, h4⟩
  rw [if_pos hi]
  unfold coreU
  have hn : hasI (cutL [((1 : Int), (1 : Int), (0 : Int), (931170240 : Int))]) 2 = false := by decide
  simp only [hn]
  rw [if_neg (by decide), if_neg (by decide)]
  have e : insTT [((1 : Int), (1 : Int), (0 : Int), (931170240 : Int))] (newU 0 (2, i, heldP t g)) = [(1, 1, 0, 931170240), newU 0 (2, i, heldP t g)] := by
    unfold insTT
    rw [if_pos (show (1 : Int) < (newU 0 (2, i, heldP t g)).1 by show (1 : Int) < 2; decide)]
    rfl
  rw [e]
  have hm : (minR (cutL [(1, 1, 0, 931170240), newU 0 (2, i, heldP t g)])).1 ≤ 0 := by
    have h := minR_le (R := cutL [(1, 1, 0, 931170240), newU 0 (2, i, heldP t g)]) (cut_mem (x := (1, 1, 0, 931170240)) (by simp))
    have e : (cutT (1, 1, 0, 931170240)).2.2 = 0 := rfl
    rw [e] at h
    omega
  have hr : raiseM 0 (cutL [(1, 1, 0, 931170240), newU 0 (2, i, heldP t g)]) = 0 := by
    unfold raiseM
    rw [if_neg (fun h => by simp [cutL] at h)]
    omega
  rw [hr]
theorem form_two (i h : Int) : findV 2 (formU 0 [(1, 1, 0, 931170240), newU 0 (2, i, h)]) = some (2, i, h) := by
  have e : formU 0 [(1, 1, 0, 931170240), newU 0 (2, i, h)] = [(1, 1, 0), (2, i, h)] := by
    unfold formU formL cutL
    simp [newU, cutT]
  rw [e]
  rfl
theorem wf64_bd {x : Int} (h1 : -1125899906842624 ≤ x) (h2 : x ≤ 1125899906842624) : wf64 x := wf64_of (by omega) (by omega)
set_option maxRecDepth 100000 in
set_option maxHeartbeats 8000000 in
theorem sheld_c (t i g : Int) (w : World) (hk : Kinds w) : Calls Tryz.prog 6 #[.int .i64 t, .int .i64 i, .int .i64 g] w fun e w' => e = .returned (.bool true) ∧ Below w.heap.size w w' := by
  have HK := Lib.hid hk
  clear hk
  go_enter Tryz.func6, Tryz.ntmps6
  go_wp2_with fail
  refine (awake14_c w HK.out).mono ?_
  rintro e w1 ⟨rfl, hb1⟩
  have HB1 := Lib.hid hb1
  clear hb1
  go_wp2_with fail
  refine (pnew_p t 0 w1).mono ?_
  intro e w2 h
  unfold SeedP at h
  by_cases ht : Tag t ∧ SdOk 0 (-1) []
  case' neg =>
    rw [if_neg ht] at h
    obtain ⟨rfl, hb⟩ := h
    have HB := Lib.hid (HB1.out.trans (hb.mono HB1.out.size))
    clear hb ht HK HB1
    go_wp2_with fail
    go_ret
    exact ⟨rfl, HB.out⟩
  rw [if_pos ht] at h
  obtain ⟨p, A, st, rfl, hq, s1, s2, hn, hb⟩ := h
  have HB2 : Hid (Below w.heap.size w w2) := Lib.hid (HB1.out.trans (hb.mono HB1.out.size))
  have H0 : Hid (SIn t w w2 p 0 (-1) [] 4000 (fun _ => False)) := Lib.hid (seed_in HB1.out (fun _ h => h.elim) hq s1 s2 hn hb)
  clear ht hq s1 s2 hn hb HB1
  by_cases h1 : i < 1
  · go_wp2_with fail
    go_ret
    exact ⟨rfl, HB2.out⟩
  by_cases h2 : 20 < i
  · go_wp2_with fail
    go_ret
    exact ⟨rfl, HB2.out⟩
  by_cases h3 : g < -1125899906842624
  · go_wp2_with fail
    go_ret
    exact ⟨rfl, HB2.out⟩
  by_cases h4 : 1125899906842624 < g
  · go_wp2_with fail
    go_ret
    exact ⟨rfl, HB2.out⟩
  have HG := Lib.hid (held_bd t (x := g) (by omega) (by omega))
  have HE := Lib.hid (ent_two t i g (by omega) (by omega) (by omega) (by omega))
  have HW := Lib.hid (wf64_bd (x := g) (by omega) (by omega))
  have HF := Lib.hid (form_two i (heldP t g))
  have HT := Lib.hid (held_twice t g)
  go_wp2_with fail
  refine (senter_in (1, 1, 0) H0.out (by decide) (by decide) (by decide)).mono ?_
  rintro e w3 ⟨rfl, hq, -⟩
  rw [ent_one] at hq ⊢
  have H3 := Lib.hid hq
  clear hq H0
  simp only
  go_wp2_with fail
  refine (sheld_in g HW.out HK.out H3.out).mono ?_
  rintro e w4 ⟨rfl, hb⟩
  have H4 := Lib.hid (H3.out.below hb)
  clear hb H3
  go_wp2_with fail
  refine (senter_in (2, i, g) H4.out (by decide) (by decide) (by decide)).mono ?_
  rintro e w5 ⟨rfl, hq, -⟩
  rw [HE.out] at hq ⊢
  have H5 := Lib.hid hq
  clear hq H4 HE
  simp only
  obtain ⟨x, hx⟩ : ∃ x, heldP t g = x := ⟨_, rfl⟩
  rw [hx] at HG HF HT H5 ⊢
  go_wp2_with fail
  refine (sform_in H5.out).mono ?_
  rintro e w6 ⟨A6, c6, rfl, hT, hb⟩
  have H6 := Lib.hid (H5.out.below hb)
  have KF0 := find_c (-1) A6 2 c6 2 _ w6 rfl (by decide) hT
  rw [HF.out] at KF0
  have KF := Lib.hid KF0
  clear hT hb H5 HF KF0
  go_wp2_with fail
  refine KF.out.mono ?_
  rintro e w7 ⟨rfl, hb⟩
  have H7 := Lib.hid (H6.out.below hb)
  clear hb KF H6
  simp only [Option.getD_some, Option.isSome_some]
  go_wp2_with fail
  have KH := Lib.hid (sheld_in x (wf64_bd HG.out.1 HG.out.2) HK.out (H7.out.alloc (.cells #[.int .i64 2, .int .i64 i, .int .i64 x] 68)))
  rw [HT.out] at KH
  have hb8 := H7.out.frame.alloc H7.out.frame.size (.cells #[.int .i64 2, .int .i64 i, .int .i64 x] 68)
  have hx8 : ItAt (w7.alloc (.cells #[.int .i64 2, .int .i64 i, .int .i64 x] 68)) w7.heap.size (2, i, x) := heap_alloc_new w7 _
  obtain ⟨w8, hw8⟩ : ∃ w8, w7.alloc (.cells #[.int .i64 2, .int .i64 i, .int .i64 x] 68) = w8 := ⟨_, rfl⟩
  rw [hw8] at hb8 hx8 KH ⊢
  have HB8 := Lib.hid (And.intro hb8 hx8)
  clear hb8 hx8 hw8 H7
  refine KH.out.mono ?_
  rintro e w9 ⟨rfl, hb9⟩
  have HB9 := Lib.hid (HB8.out.1.trans (hb9.mono HB8.out.1.size))
  obtain ⟨q0, q1, q2, -⟩ := ItAt.cells (show ItAt w9 w7.heap.size (2, i, x) from BoxAt.next HB8.out.2 hb9 (Nat.le_refl _))
  simp only at q0 q1 q2
  clear hb9 HB8 KH
  go_wp2_with fail
  go_ret
  exact ⟨rfl, HB9.out⟩
end Go.Proofs.YtancneebbellnaaGreatDoor.Po
