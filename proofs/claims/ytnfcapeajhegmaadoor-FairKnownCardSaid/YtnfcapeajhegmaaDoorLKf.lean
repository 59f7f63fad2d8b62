/- FairKnown. -/
import Derived.Test.YtnfcapeajhegmaaDoorFk
import Derived.Test.YtnfcapeajhegmaaDoorYi
namespace Go.Proofs.YtnfcapeajhegmaaDoor
open Go.RowKit Go.Maps

/-- Two of one weight, from -5 on, after k ticks. -/
def kfR (k : Nat) : List RI := [(1, 20, -5 + 11639628 * (k : Int)), (2, 20, -5)]
def kfC (k : Nat) : Int := if k = 0 then -1 else 1
def kfOk (k : Nat) : Bool := decide (pickV (kfC k) (kfR k) = 1) && decide (pickC (kfC k) (kfR k) = 1) && pickB (kfR k) && decide (chargeM (-5) 1 (kfR k) = (1, 0, -5, kfR (k + 1)))
theorem kf_next : ∀ k, k < 41 → kfOk k = true := by decide +kernel
theorem kf_init : enterM (-5) [] (1, 20, 0) = (0, -5, [(1, 20, -5)]) ∧ enterM (-5) [(1, 20, -5)] (2, 20, 0) = (0, -5, kfR 0) := by decide +kernel
theorem kf_end : pickV 1 (kfR 41) = 2 ∧ pickC 1 (kfR 41) = 2 ∧ pickB (kfR 41) = true ∧ pickV 2 (kfR 41) = 2 ∧ pickC 2 (kfR 41) = 2 ∧ pickV (-1) (kfR 41) = 2 ∧ pickC (-1) (kfR 41) = 2 := by decide +kernel
theorem kf_one : enterM 0 [] (1, 1, 1099511627776) = (0, 0, [(1, 1, -698377680)]) ∧ formL 0 [(1, 1, -698377680)] = [(1, 1, 698377680)] ∧ enterM 0 [(1, 1, -698377680)] (2, 1, -1099511627776) = (0, 0, [(1, 1, -698377680), (2, 1, 1099511627776)]) ∧ leaveM 0 (-1) [(1, 1, -698377680), (2, 1, 1099511627776)] 2 = (-1099511627776, 0, 0, -1, [(1, 1, -698377680)]) := by
  refine ⟨?_, ?_, ?_, ?_⟩ <;> first | decide +kernel | (refine Prod.ext ?_ (Prod.ext ?_ (Prod.ext ?_ (Prod.ext ?_ ?_))) <;> decide +kernel)
theorem digs_ten {n : Nat} (h : ¬ n < 10) : Lib.decDigits n = Lib.decDigits (n / 10) ++ [UInt8.ofNat (48 + n % 10)] := by rw [Lib.decDigits, dif_neg h]
theorem kf_num : Lib.itoa 698377680 = [54, 57, 56, 51, 55, 55, 54, 56, 48] := by
  have e : (698377680 : Int) = ((698377680 : Nat) : Int) := rfl
  rw [e, Lib.itoa_nonneg, digs_ten (by decide), digs_ten (by decide), digs_ten (by decide), digs_ten (by decide), digs_ten (by decide), digs_ten (by decide), digs_ten (by decide), digs_ten (by decide), Lib.decDigits_one (by decide)]
  rfl
theorem kf_text : textL (-1) [(1, 1, 698377680)] = [45, 49, 58, 32, 49, 47, 49, 47, 54, 57, 56, 51, 55, 55, 54, 56, 48] := by
  have e1 : Lib.itoa 1 = [49] := itoa_digit (n := 1) (by omega)
  have em : Lib.itoa (-1) = [45, 49] := itoa_minus (n := 1) (by omega) (by omega)
  simp [textL, itemsT, itemT, kf_num, e1, em]
theorem kf_small : ∀ r ∈ ([(1, 1, 698377680)] : List RI), SmR r := by
  intro r hr
  simp at hr
  subst hr
  refine ⟨⟨?_, ?_⟩, ⟨?_, ?_⟩, ⟨?_, ?_⟩⟩ <;> decide

set_option maxRecDepth 100000 in
set_option maxHeartbeats 16000000 in
theorem fknown_c (W : World) (ht : Tab W) : Calls Tryd.prog 3 #[] W fun e w' => e = .returned (.bool true) ∧ Below W.heap.size W w' := by
  obtain ⟨f0, f1, f2, f3⟩ := kf_one
  obtain ⟨i0, i1⟩ := kf_init
  have Xf0 := Lib.hid f0
  have Xf1 := Lib.hid f1
  have Xf2 := Lib.hid f2
  have Xf3 := Lib.hid f3
  have Xi0 := Lib.hid i0
  have Xi1 := Lib.hid i1
  have XE := Lib.hid kf_end
  have XN := Lib.hid kf_next
  have XT := Lib.hid kf_text
  have HT := Lib.hid ht
  clear ht f0 f1 f2 f3 i0 i1
  have K0 := Lib.hid (awake12_c W)
  go_enter Tryd.func3, Tryd.ntmps3
  go_wp2_with fail
  refine K0.out.mono ?_
  rintro e w1 ⟨rfl, hb⟩
  have B1 := Lib.hid hb
  clear hb K0
  go_wp2_with fail
  refine (snew_in W w1 B1.out 0 (fun _ => False) (fun _ h => h.elim) (by decide) (by decide)).mono ?_
  rintro e w2 ⟨q, rfl, hq, -⟩
  have H := Lib.hid hq
  clear hq B1
  go_wp2_with fail
  refine (senter_in (1, 1, 1099511627776) H.out (by decide) (by decide) (by decide)).mono ?_
  rintro e w3 ⟨rfl, hq, -⟩
  rw [Xf0.out] at hq ⊢
  have H1 := Lib.hid hq
  clear hq H Xf0
  have H := H1
  clear H1
  simp only
  go_wp2_with fail
  refine (sform_in H.out).mono ?_
  rintro e w4 ⟨A, c, rfl, hT, hq, -⟩
  rw [Xf1.out] at hT
  have K1 := Lib.hid (text_c (-1) A 1 c [(1, 1, 698377680)] w4 rfl (by decide) hT (HT.out.below hq.frame (Nat.le_refl _)) ⟨by decide, by decide⟩ kf_small)
  rw [XT.out] at K1
  have H1 := Lib.hid hq
  clear hq H Xf1 hT
  simp only [List.length_singleton]
  go_wp2_with fail
  refine K1.out.mono ?_
  rintro e w5 ⟨rfl, hb⟩
  have H := Lib.hid (H1.out.below hb)
  clear H1 hb K1 XT
  go_wp2_with fail
  refine (senter_in (2, 1, -1099511627776) H.out (by decide) (by decide) (by decide)).mono ?_
  rintro e w6 ⟨rfl, hq, -⟩
  rw [Xf2.out] at hq ⊢
  have H1 := Lib.hid hq
  clear hq H Xf2
  have H := H1
  clear H1
  simp only
  go_wp2_with fail
  refine (sleave_in 2 H.out (by unfold wf64; decide) (by decide)).mono ?_
  rintro e w7 ⟨rfl, hq, -⟩
  rw [Xf3.out] at hq ⊢
  have B7 := Lib.hid hq.frame
  clear hq H Xf3
  simp only
  go_wp2_with fail
  refine (snew_in W w7 B7.out (-5) (fun _ => False) (fun _ h => h.elim) (by decide) (by decide)).mono ?_
  rintro e w8 ⟨s, rfl, hq, -⟩
  have H := Lib.hid hq
  clear hq B7
  go_wp2_with fail
  refine (senter_in (1, 20, 0) H.out (by decide) (by decide) (by decide)).mono ?_
  rintro e w9 ⟨rfl, hq, -⟩
  rw [Xi0.out] at hq ⊢
  have H1 := Lib.hid hq
  clear hq H Xi0
  have H := H1
  clear H1
  simp only
  go_wp2_with fail
  refine (senter_in (2, 20, 0) H.out (by decide) (by decide) (by decide)).mono ?_
  rintro e w10 ⟨rfl, hq, -⟩
  rw [Xi1.out] at hq ⊢
  have HA : Hid (SIn W w10 s (-5) (kfC 0) (kfR 0) (16 + 16 * 0) (fun _ => False)) := Lib.hid hq
  clear hq H Xi1 HT
  simp only
  go_wp2_with fail
  go_loopw [8, 9] (fun r i wr => ∃ k : Nat, r = .int .i64 k ∧ i = .int .i64 k ∧ k ≤ 41 ∧ Hid (SIn W wr s (-5) (kfC k) (kfR k) (16 + 16 * k) (fun _ => False))) (fun _ i _ => 200 - (intOf i).toNat)
  case atStart => exact ⟨0, rfl, rfl, by omega, HA⟩
  case round =>
    obtain ⟨k, rfl, rfl, hk, HQ⟩ := hrel
    clear HA
    have hlt200 : (k : Int) < 200 := by omega
    by_cases hlt : k < 41
    · have hok := XN.out k hlt
      unfold kfOk at hok
      simp only [Bool.and_eq_true, decide_eq_true_eq] at hok
      obtain ⟨⟨⟨h0, h1⟩, h2⟩, h3⟩ := hok
      have KP := Lib.hid (spick_in HQ.out)
      rw [h0, h1, h2] at KP
      have H3 := Lib.hid h3
      have hc1 : kfC (k + 1) = 1 := by unfold kfC; rw [if_neg (by omega)]
      clear h0 h1 h2 h3 HQ
      go_wp2_with fail
      refine KP.out.mono ?_
      rintro e w11 ⟨rfl, hq, -⟩
      have KC := Lib.hid (scharge_in hq (by omega))
      rw [H3.out] at KC
      clear hq KP
      go_wp2_with fail
      refine KC.out.mono ?_
      rintro e w12 ⟨rfl, hq, -⟩
      have HQ6 : Hid (SIn W w12 s (-5) (kfC (k + 1)) (kfR (k + 1)) (16 + 16 * (k + 1)) (fun _ => False)) := Lib.hid (by rw [hc1]; exact hq.weak (by omega))
      clear hq KC hc1 H3
      simp only
      go_wp2_with fail
      go_roundw
      case rel => exact ⟨k + 1, by go_num, by go_num, by omega, HQ6⟩
      case measure => simp [intOf]; omega
    · obtain rfl : k = 41 := by omega
      obtain ⟨z0, z1, z2, z3, z4, z5, z6⟩ := XE.out
      have hc1 : kfC 41 = 1 := by unfold kfC; rw [if_neg (by omega)]
      have KP := Lib.hid (spick_in HQ.out)
      rw [hc1, z0, z1, z2] at KP
      have HZ := Lib.hid (And.intro z2 (And.intro z3 (And.intro z4 (And.intro z5 z6))))
      generalize kfR 41 = R at *
      clear z0 z1 z2 z3 z4 z5 z6 HQ hc1 XE XN
      go_wp2_with fail
      refine KP.out.mono ?_
      rintro e w11 ⟨rfl, hq, -⟩
      have KP2 := Lib.hid (spick_in hq)
      rw [HZ.out.2.1, HZ.out.2.2.1, HZ.out.1] at KP2
      clear hq KP
      go_wp2_with fail
      refine KP2.out.mono ?_
      rintro e w12 ⟨rfl, hq, -⟩
      have KB := Lib.hid (sback_in hq)
      clear hq KP2
      go_wp2_with fail
      refine KB.out.mono ?_
      rintro e w13 ⟨rfl, hq, -⟩
      have KP3 := Lib.hid (spick_in hq)
      rw [HZ.out.2.2.2.1, HZ.out.2.2.2.2, HZ.out.1] at KP3
      clear hq KB
      go_wp2_with fail
      refine KP3.out.mono ?_
      rintro e w14 ⟨rfl, hq, -⟩
      have HB := Lib.hid hq.frame
      clear hq KP3
      go_wp2_with fail
      go_ret
      exact ⟨rfl, HB.out⟩
end Go.Proofs.YtnfcapeajhegmaaDoor
