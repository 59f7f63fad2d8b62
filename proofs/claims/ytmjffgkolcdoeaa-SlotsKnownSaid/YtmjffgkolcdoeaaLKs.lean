/- SlotsKnown: its walk. -/
import Derived.Test.YtmjffgkolcdoeaaTh
namespace Go.Proofs.Ytmjffgkolcdoeaa
open Go.RowKit

set_option maxRecDepth 100000 in
set_option maxHeartbeats 4000000 in
theorem slotsKnown_c (W : World) :
    Calls Try.prog 3 #[] W fun e w' => e = .returned (.bool true) ∧ Below W.heap.size W w' := by
  go_enter Try.func3, Try.ntmps3
  go_wp2_with fail
  refine (awake6_c W).mono ?_
  rintro e w0 ⟨rfl, hb0⟩
  have HB0 := Lib.hid hb0
  clear hb0
  go_wp2_with fail
  refine (new_in HB0.out 2).mono ?_
  rintro e w1 ⟨b, g, rfl, h1, _, _, _⟩
  have H1 := Lib.hid (show SAt W w1 b g [(0, false), (0, false)] from h1)
  clear h1 HB0
  go_wp2_with fail
  refine (take_in (x := 0) (y := 0) (S' := [(0, true), (0, false)]) H1.out (by decide) (by rfl)).mono ?_
  rintro e w2 ⟨rfl, h2, _⟩
  have H2 := Lib.hid h2
  clear h2 H1
  go_wp2_with fail
  refine (take_in (x := 1) (y := 0) (S' := [(0, true), (0, true)]) H2.out (by decide) (by rfl)).mono ?_
  rintro e w3 ⟨rfl, h3, _⟩
  have H3 := Lib.hid h3
  clear h3 H2
  go_wp2_with fail
  refine (take_in (x := 0) (y := 3) (S' := [(0, true), (0, true)]) H3.out (by decide) (by rfl)).mono ?_
  rintro e w4 ⟨rfl, h4, _⟩
  have H4 := Lib.hid h4
  clear h4 H3
  go_wp2_with fail
  refine (free_in (y := 2) (S' := [(0, true), (0, true)]) H4.out (by decide) (by decide) (by decide) (by rfl)).mono ?_
  rintro e w5 ⟨rfl, h5, _⟩
  have H5 := Lib.hid h5
  clear h5 H4
  go_wp2_with fail
  refine (free_in (y := 2) (S' := [(0, true), (0, true)]) H5.out (by decide) (by decide) (by decide) (by rfl)).mono ?_
  rintro e w6 ⟨rfl, h6, _⟩
  have H6 := Lib.hid h6
  clear h6 H5
  go_wp2_with fail
  refine (free_in (y := 0) (S' := [(0, true), (1, false)]) H6.out (by decide) (by decide) (by decide) (by rfl)).mono ?_
  rintro e w7 ⟨rfl, h7, _⟩
  have H7 := Lib.hid h7
  clear h7 H6
  go_wp2_with fail
  refine (free_in (y := 2) (S' := [(0, true), (1, false)]) H7.out (by decide) (by decide) (by decide) (by rfl)).mono ?_
  rintro e w8 ⟨rfl, h8, _⟩
  have H8 := Lib.hid h8
  clear h8 H7
  go_wp2_with fail
  refine (take_in (x := 65) (y := 0) (S' := [(0, true), (1, true)]) H8.out (by decide) (by rfl)).mono ?_
  rintro e w9 ⟨rfl, h9, _⟩
  have H9 := Lib.hid h9
  clear h9 H8
  go_wp2_with fail
  refine (new_in H9.out.fr 0).mono ?_
  rintro e w10 ⟨b2, g2, rfl, h10, k1, k2, k3⟩
  have hb9 := H9.out.is.ltb
  have hg9 := H9.out.is.ltg
  have H10 := Lib.hid (show SAt W w10 b2 g2 [(0, false)] from h10)
  have H10' := Lib.hid (H9.out.below k3)
  have d1 : b ≠ b2 := by omega
  have d2 : b ≠ g2 := by omega
  have d3 : g ≠ b2 := by omega
  have d4 : g ≠ g2 := by omega
  clear h10 H9 k1 k2 k3 hb9 hg9
  go_wp2_with fail
  refine (take_in (x := 0) (y := 0) (S' := [(0, true)]) H10.out (by decide) (by rfl)).mono ?_
  rintro e w11 ⟨rfl, h11, t11⟩
  have H11 := Lib.hid h11
  have H11' := Lib.hid (H10'.out.two h11.fr t11 d1 d2 d3 d4)
  clear h11 t11 H10 H10'
  go_wp2_with fail
  refine (take_in (x := 0) (y := 3) (S' := [(0, true)]) H11.out (by decide) (by rfl)).mono ?_
  rintro e w12 ⟨rfl, h12, t12⟩
  have H12 := Lib.hid (H11'.out.two h12.fr t12 d1 d2 d3 d4)
  clear h12 t12 H11 H11' d1 d2 d3 d4
  go_wp2_with fail
  refine (place_v (p := 1) (t := 1) w12 (by decide) (by decide) (by decide)).mono ?_
  rintro e w13 ⟨rfl, rfl⟩
  go_wp2_with fail
  refine (place_v (p := -1) (t := -1) w12 (by decide) (by decide) (by decide)).mono ?_
  rintro e w13 ⟨rfl, rfl⟩
  go_wp2_with fail
  refine (has_in (c := false) H12.out (by decide) (by decide) (by decide)).mono ?_
  rintro e w13 ⟨rfl, rfl⟩
  go_wp2_with fail
  refine (has_in (c := true) H12.out (by decide) (by decide) (by decide)).mono ?_
  rintro e w13 ⟨rfl, rfl⟩
  go_wp2_with fail
  refine (has_in (c := false) H12.out (by decide) (by decide) (by decide)).mono ?_
  rintro e w13 ⟨rfl, rfl⟩
  go_wp2_with fail
  refine (list_in (n := 2) (l := [0, 65]) H12.out (by decide) (by decide) rfl).mono ?_
  rintro e w13 ⟨A, c, rfl, hr, h13, _⟩
  have HR := Lib.hid hr
  have H13 := Lib.hid h13
  have hrl := Lib.hid (IRow.lit w13 [0, 65] #[.int .i64 0, .int .i64 65] 3 (w13.heap.size + 1) w13.heap.size rfl rfl (by omega) (k := .i64))
  have hr2 := Lib.hid (show IRow .i64 (w13.alloc (.cells #[.int .i64 0, .int .i64 65] 3)) (w13.heap.size + 1) A [0, 65] from hr.keep (by omega) (fun p hp => ((Below.refl w13.heap.size w13).alloc (Nat.le_refl _) _).cell hp))
  have H14 := Lib.hid (h13.below ((Below.refl w13.heap.size w13).alloc (Nat.le_refl _) (.cells #[.int .i64 0, .int .i64 65] 3)))
  clear hr h13 HR H13 H12
  go_wp2_with fail
  refine (ints6_eq A _ 2 c _ _ [0, 65] _ rfl (by decide) hr2.out hrl.out).mono ?_
  rintro e w14 ⟨rfl, hb14⟩
  have H15 := Lib.hid (H14.out.below hb14)
  clear hb14 H14 hrl hr2
  go_wp2_with fail
  refine (len_in (n := 2) H15.out (by decide)).mono ?_
  rintro e w15 ⟨rfl, h15, _⟩
  have H16 := Lib.hid h15.fr
  clear h15 H15
  go_wp2_with fail
  go_ret
  exact ⟨rfl, H16.out⟩
end Go.Proofs.Ytmjffgkolcdoeaa
