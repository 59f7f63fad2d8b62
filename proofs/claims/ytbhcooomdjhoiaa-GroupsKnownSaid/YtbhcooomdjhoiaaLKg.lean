/- GroupsKnown: its walk. -/
import Derived.Test.YtbhcooomdjhoiaaVi
namespace Go.Proofs.Ytbhcooomdjhoiaa
open Go.RowKit Go.Shelf

/-- 1 in 0, 2 in 1. -/
def kA : List GR := (rootG.set 1 (0, true)).set 2 (1, true)
/-- So many more in 0. -/
def kG : Nat → List GR
  | 0 => kA.set 3 (0, true)
  | n + 1 => (addG (kG n) 0).2.2
theorem kG_add (n : Nat) : addG (kG n) 0 = ((addG (kG n) 0).1, (addG (kG n) 0).2.1, kG (n + 1)) := rfl

set_option maxRecDepth 100000 in
set_option maxHeartbeats 8000000 in
theorem groupsKnown_c (W : World) :
    Calls Try.prog 3 #[] W fun e w' => e = .returned (.bool true) ∧ Below W.heap.size W w' := by
  go_enter Try.func3, Try.ntmps3
  go_wp2_with fail
  refine (awake7_c W).mono ?_
  rintro e w0 ⟨rfl, hb0⟩
  have HB0 := Lib.hid hb0
  clear hb0
  go_wp2_with fail
  refine (new_in HB0.out).mono ?_
  rintro e w1 ⟨b, rfl, h1, _, _⟩
  have H1 := Lib.hid h1
  clear h1 HB0
  go_wp2_with fail
  refine (add_in (x := 1) (y := 0) (G' := rootG.set 1 (0, true)) H1.out (by decide)).mono ?_
  rintro e w2 ⟨rfl, h2, _⟩
  have H2 := Lib.hid h2
  clear h2 H1
  go_wp2_with fail
  refine (add_in (x := 2) (y := 0) (G' := kA) H2.out (by decide)).mono ?_
  rintro e w3 ⟨rfl, h3, _⟩
  have H3 := Lib.hid h3
  clear h3 H2
  go_wp2_with fail
  refine (add_in (x := 3) (y := 0) (G' := kA.set 3 (2, true)) H3.out (by decide)).mono ?_
  rintro e w4 ⟨rfl, h4, _⟩
  have H4 := Lib.hid h4
  clear h4 H3
  go_wp2_with fail
  refine (add_in (x := 0) (y := 6) (G' := kA.set 3 (2, true)) H4.out (by decide)).mono ?_
  rintro e w5 ⟨rfl, h5, _⟩
  have H5 := Lib.hid h5
  clear h5 H4
  go_wp2_with fail
  refine (add_in (x := 0) (y := 2) (G' := kA.set 3 (2, true)) H5.out (by decide)).mono ?_
  rintro e w6 ⟨rfl, h6, _⟩
  have H6 := Lib.hid h6
  clear h6 H5
  go_wp2_with fail
  refine (add_in (x := 0) (y := 2) (G' := kA.set 3 (2, true)) H6.out (by decide)).mono ?_
  rintro e w7 ⟨rfl, h7, _⟩
  have H7 := Lib.hid h7
  clear h7 H6
  go_wp2_with fail
  refine (remove_in (y := 1) (G' := kA.set 3 (2, true)) H7.out (by decide)).mono ?_
  rintro e w8 ⟨rfl, h8, _⟩
  have H8 := Lib.hid h8
  clear h8 H7
  go_wp2_with fail
  refine (remove_in (y := 4) (G' := kA.set 3 (2, true)) H8.out (by decide)).mono ?_
  rintro e w9 ⟨rfl, h9, _⟩
  have H9 := Lib.hid h9
  clear h9 H8
  go_wp2_with fail
  refine (remove_in (y := 2) (G' := kA.set 3 (2, true)) H9.out (by decide)).mono ?_
  rintro e w10 ⟨rfl, h10, _⟩
  have H10 := Lib.hid h10
  clear h10 H9
  go_wp2_with fail
  refine (remove_in (y := 0) (G' := kA) H10.out (by decide)).mono ?_
  rintro e w11 ⟨rfl, h11, _⟩
  have H11 := Lib.hid h11
  clear h11 H10
  go_wp2_with fail
  refine (add_in (x := 3) (y := 0) (G' := kG 0) H11.out (by decide)).mono ?_
  rintro e w12 ⟨rfl, h12, _⟩
  have H12 := Lib.hid h12
  clear h12 H11
  go_wp2_with fail
  go_loopw [14] (fun iv wr => ∃ i : Nat, iv = .int .i64 i ∧ i ≤ 12 ∧ Hid (GAt W wr b (kG i))) (fun iv _ => 12 - (intOf iv).toNat)
  case atStart => exact ⟨0, rfl, by omega, H12⟩
  case round =>
    obtain ⟨i, rfl, hi, HI⟩ := hrel
    by_cases hil : i < 12
    · have K1 := Lib.hid (add_in HI.out (kG_add i))
      go_wp2_with fail
      refine K1.out.mono ?_
      rintro e w3 ⟨rfl, h3, _⟩
      have H3 := Lib.hid h3
      clear h3 K1
      go_wp2_with fail
      go_roundw
      case rel => first | exact ⟨i + 1, by go_num, by omega, H3⟩ | ((repeat apply Exists.intro); refine ⟨⟨i + 1, ?_, by omega, H3⟩, rfl⟩; go_num)
      case measure => simp [intOf]; omega
    · obtain rfl : i = 12 := by omega
      have H20 := HI
      go_wp2_with fail
      refine (add_in (x := 0) (y := 3) (G' := kG 12) H20.out (by decide)).mono ?_
      rintro e w21 ⟨rfl, h21, _⟩
      have H21 := Lib.hid h21
      clear h21 H20
      go_wp2_with fail
      refine (up_in (x := 1) (c := true) H21.out (by decide)).mono ?_
      rintro e w22 ⟨rfl, rfl⟩
      go_wp2_with fail
      refine (up_in (x := 0) (c := false) H21.out (by decide)).mono ?_
      rintro e w22 ⟨rfl, rfl⟩
      go_wp2_with fail
      refine (up_in (x := 0) (c := false) H21.out (by decide)).mono ?_
      rintro e w22 ⟨rfl, rfl⟩
      go_wp2_with fail
      refine (chain_in (n := 0) (l := []) H21.out (by decide) rfl).mono ?_
      rintro e w22 ⟨A22, c22, rfl, _, h22, _⟩
      have H22 := Lib.hid h22
      clear h22 H21
      go_wp2_with fail
      refine (depth_in (n := 0) H22.out (by decide)).mono ?_
      rintro e w23 ⟨rfl, h23, _⟩
      have H23 := Lib.hid h23
      clear h23 H22
      go_wp2_with fail
      refine (under_in (c := true) H23.out (by decide)).mono ?_
      rintro e w24 ⟨rfl, h24, _⟩
      have H24 := Lib.hid h24
      clear h24 H23
      go_wp2_with fail
      refine (under_in (c := true) H24.out (by decide)).mono ?_
      rintro e w25 ⟨rfl, h25, _⟩
      have H25 := Lib.hid h25
      clear h25 H24
      go_wp2_with fail
      refine (under_in (c := false) H25.out (by decide)).mono ?_
      rintro e w26 ⟨rfl, h26, _⟩
      have H26 := Lib.hid h26
      clear h26 H25
      go_wp2_with fail
      refine (under_in (c := false) H26.out (by decide)).mono ?_
      rintro e w27 ⟨rfl, h27, _⟩
      have H27 := Lib.hid h27
      clear h27 H26
      go_wp2_with fail
      refine (all_in (n := 16) (l := numsL (kG 12) true) H27.out rfl (by decide)).mono ?_
      rintro e w28 ⟨A28, c28, rfl, _, h28, _⟩
      have H28 := Lib.hid h28
      clear h28 H27
      have HF := Lib.hid H28.out.fr
      clear H28
      go_wp2_with fail
      go_ret
      exact ⟨rfl, HF.out⟩
end Go.Proofs.Ytbhcooomdjhoiaa
