/- DueKnown. -/
import Derived.Test.YtnfcapeajhegmabGreatDoorUh5
import Derived.Test.YtnfcapeajhegmabGreatDoorUm
import Derived.Test.YtnfcapeajhegmabGreatDoorYi
namespace Go.Proofs.YtnfcapeajhegmabGreatDoor
open Go.RowKit Go.Maps

def kn1 : List TI := [(1, 1, -698377680, 232792560)]
def kn2 : List TI := [(1, 1, -698377680, 232792560), (2, 1, 698377680, 1629547920)]
def kn3 : List TI := [(1, 1, 7, 931170247)]
def kn4 : List TI := [(1, 1, 7, 931170247), (2, 20, 7, 46558519)]
def kn5 : List TI := [(1, 1, 7, 931170247), (2, 20, 11639635, 46558519)]
theorem kn_one : enterU 0 [] (1, 1, 1099511627776) = (0, 0, kn1) ∧ enterU 0 kn1 (2, 1, -1099511627776) = (0, 0, kn2) ∧ formU 0 kn2 = [(1, 1, 698377680), (2, 1, -698377680)] := ⟨tri (by decide +kernel) (by decide +kernel) (by decide +kernel), tri (by decide +kernel) (by decide +kernel) (by decide +kernel), by decide +kernel⟩
theorem kn_two : enterU 7 [] (1, 1, 0) = (0, 7, kn3) ∧ enterU 7 kn3 (2, 20, 0) = (0, 7, kn4) ∧ (pickV kn4 = 2 ∧ pickB kn4 = true ∧ pickC kn4 = 2) ∧ chargeU 7 2 kn4 = (2, 0, 7, kn5) ∧ pickV kn5 = 1 ∧ pickB kn5 = true := ⟨tri (by decide +kernel) (by decide +kernel) (by decide +kernel), tri (by decide +kernel) (by decide +kernel) (by decide +kernel), by decide +kernel, quad (by decide +kernel) (by decide +kernel) (by decide +kernel) (by decide +kernel), by decide +kernel, by decide +kernel⟩
theorem digs_ten {n : Nat} (h : ¬ n < 10) : Lib.decDigits n = Lib.decDigits (n / 10) ++ [UInt8.ofNat (48 + n % 10)] := by rw [Lib.decDigits, dif_neg h]
theorem kn_dig : Lib.decDigits 698377680 = [54, 57, 56, 51, 55, 55, 54, 56, 48] := by
  rw [digs_ten (by decide), digs_ten (by decide), digs_ten (by decide), digs_ten (by decide), digs_ten (by decide), digs_ten (by decide), digs_ten (by decide), digs_ten (by decide), Lib.decDigits_one (by decide)]
  rfl
theorem kn_num : Lib.itoa 698377680 = [54, 57, 56, 51, 55, 55, 54, 56, 48] := by
  have e : (698377680 : Int) = ((698377680 : Nat) : Int) := rfl
  rw [e, Lib.itoa_nonneg, kn_dig]
theorem kn_neg : Lib.itoa (-698377680) = [45, 54, 57, 56, 51, 55, 55, 54, 56, 48] := by
  have e : (-698377680 : Int) = -((698377680 : Nat) : Int) := rfl
  rw [e, Lib.itoa_neg _ (by decide), kn_dig]
theorem kn_text : textL (-1) [(1, 1, 698377680), (2, 1, -698377680)] = [45, 49, 58, 32, 49, 47, 49, 47, 54, 57, 56, 51, 55, 55, 54, 56, 48, 32, 50, 47, 49, 47, 45, 54, 57, 56, 51, 55, 55, 54, 56, 48] := by
  have e1 : Lib.itoa 1 = [49] := itoa_digit (n := 1) (by omega)
  have e2 : Lib.itoa 2 = [50] := itoa_digit (n := 2) (by omega)
  have em : Lib.itoa (-1) = [45, 49] := itoa_minus (n := 1) (by omega) (by omega)
  simp [textL, itemsT, itemT, kn_num, kn_neg, e1, e2, em]
theorem kn_small : ∀ r ∈ ([(1, 1, 698377680), (2, 1, -698377680)] : List RI), SmR r := by
  intro r hr
  simp at hr
  rcases hr with rfl | rfl <;> refine ⟨⟨?_, ?_⟩, ⟨?_, ?_⟩, ⟨?_, ?_⟩⟩ <;> decide

set_option maxRecDepth 100000 in
set_option maxHeartbeats 16000000 in
theorem uknown_c (W : World) (ht : Tab W) : Calls Tryz.prog 3 #[] W fun e w' => e = .returned (.bool true) ∧ Below W.heap.size W w' := by
  obtain ⟨f0, f1, f2⟩ := kn_one
  obtain ⟨i0, i1, i2, i3, i4⟩ := kn_two
  have Xf0 := Lib.hid f0
  have Xf1 := Lib.hid f1
  have Xf2 := Lib.hid f2
  have Xi0 := Lib.hid i0
  have Xi1 := Lib.hid i1
  have Xi2 := Lib.hid i2
  have Xi3 := Lib.hid i3
  have Xi4 := Lib.hid i4
  have XT := Lib.hid kn_text
  have HT := Lib.hid ht
  clear ht f0 f1 f2 i0 i1 i2 i3 i4
  have K0 := Lib.hid (awake13_c W)
  go_enter Tryz.func3, Tryz.ntmps3
  go_wp2_with fail
  refine K0.out.mono ?_
  rintro e w1 ⟨rfl, hb⟩
  have B1 := Lib.hid hb
  clear hb K0
  go_wp2_with fail
  refine (snew_in W w1 B1.out 0 (fun _ => False) (fun _ h => h.elim) (by decide) (by decide)).mono ?_
  rintro e w2 ⟨q, rfl, hq, -⟩
  have H := Lib.hid hq
  clear hq B1
  go_wp2_with fail
  refine (senter_in (1, 1, 1099511627776) H.out (by decide) (by decide) (by decide)).mono ?_
  rintro e w3 ⟨rfl, hq, -⟩
  rw [Xf0.out] at hq ⊢
  have H1 := Lib.hid hq
  clear hq H Xf0
  have H := H1
  clear H1
  simp only
  go_wp2_with fail
  refine (senter_in (2, 1, -1099511627776) H.out (by decide) (by decide) (by decide)).mono ?_
  rintro e w3 ⟨rfl, hq, -⟩
  rw [Xf1.out] at hq ⊢
  have H1 := Lib.hid hq
  clear hq H Xf1
  have H := H1
  clear H1
  simp only
  go_wp2_with fail
  refine (sform_in H.out).mono ?_
  rintro e w4 ⟨A, c, rfl, hT, hq, -⟩
  rw [Xf2.out] at hT
  have K1 := Lib.hid (text_c (-1) A 2 c [(1, 1, 698377680), (2, 1, -698377680)] w4 rfl (by decide) hT (HT.out.below hq.frame (Nat.le_refl _)) ⟨by decide, by decide⟩ kn_small)
  rw [XT.out] at K1
  have B4 := Lib.hid hq.frame
  clear hq H Xf2 hT HT
  simp only [show kn2.length = 2 from rfl]
  go_wp2_with fail
  refine K1.out.mono ?_
  rintro e w5 ⟨rfl, hb⟩
  have B5 := Lib.hid (B4.out.trans (hb.mono B4.out.size))
  clear B4 hb K1 XT
  go_wp2_with fail
  refine (snew_in W w5 B5.out 7 (fun _ => False) (fun _ h => h.elim) (by decide) (by decide)).mono ?_
  rintro e w8 ⟨s, rfl, hq, -⟩
  have H := Lib.hid hq
  clear hq B5
  go_wp2_with fail
  refine (senter_in (1, 1, 0) H.out (by decide) (by decide) (by decide)).mono ?_
  rintro e w9 ⟨rfl, hq, -⟩
  rw [Xi0.out] at hq ⊢
  have H1 := Lib.hid hq
  clear hq H Xi0
  have H := H1
  clear H1
  simp only
  go_wp2_with fail
  refine (senter_in (2, 20, 0) H.out (by decide) (by decide) (by decide)).mono ?_
  rintro e w10 ⟨rfl, hq, -⟩
  rw [Xi1.out] at hq ⊢
  have KP := Lib.hid (spick_in hq)
  rw [Xi2.out.1, Xi2.out.2.1, Xi2.out.2.2] at KP
  clear hq H Xi1 Xi2
  simp only
  go_wp2_with fail
  refine KP.out.mono ?_
  rintro e w11 ⟨rfl, hq, -⟩
  have KC := Lib.hid (scharge_in hq (by decide))
  rw [Xi3.out] at KC
  clear hq KP Xi3
  go_wp2_with fail
  refine KC.out.mono ?_
  rintro e w12 ⟨rfl, hq, -⟩
  have KP := Lib.hid (spick_in hq)
  rw [Xi4.out.1, Xi4.out.2] at KP
  clear hq KC Xi4
  simp only
  go_wp2_with fail
  refine KP.out.mono ?_
  rintro e w13 ⟨rfl, hq, -⟩
  have HB := Lib.hid hq.frame
  clear hq KP
  go_wp2_with fail
  go_ret
  exact ⟨rfl, HB.out⟩
end Go.Proofs.YtnfcapeajhegmabGreatDoor
