/- AccountKnown: its walk. -/
import Derived.Test.YtcomhbfblfclpaaAi
namespace Go.Proofs.Ytcomhbfblfclpaa
open Go.RowKit

theorem BxIn.push' {W w : World} {l : List BX} (h : BxIn W w l) (b : Nat) (hb : w.heap.size = b) (t : TypeId) (q p l' f : Int) : BxIn W (w.alloc (.cells #[.int .i64 q, .int .i64 p, .int .i64 l', .int .i64 f] t)) ((b, t, q, p, l', f) :: l) := hb ▸ h.push t q p l' f

set_option maxRecDepth 100000 in
set_option maxHeartbeats 8000000 in
theorem accountKnown_c (W : World) : Calls Try.prog 3 #[] W fun e w' => e = .returned (.bool true) ∧ Below W.heap.size W w' := by
  go_enter Try.func3, Try.ntmps3
  go_wp2_with fail
  refine (awake8_c W).mono ?_
  rintro e w0 ⟨rfl, hb⟩
  have HB0 := Lib.hid (BxIn.nil hb)
  clear hb
  go_wp2_with fail
  refine (new_of 0 5 0 0 1 (by decide) (by decide) (by decide) _).mono ?_
  rintro e w1 ⟨rfl, hb⟩
  have HB1 := Lib.hid (HB0.out.step hb)
  clear HB0
  clear hb
  have HB2 := Lib.hid (HB1.out.push 24 (0) (0) (0) (0))
  clear HB1
  go_wp2_with fail
  refine (new_of 5 0 0 0 1 (by decide) (by decide) (by decide) _).mono ?_
  rintro e w2 ⟨rfl, hb⟩
  have HB3 := Lib.hid (HB2.out.step hb)
  clear HB2
  clear hb
  have HB4 := Lib.hid (HB3.out.push 24 (0) (0) (0) (0))
  clear HB3
  go_wp2_with fail
  refine (new_of 1073741825 5 0 0 1 (by decide) (by decide) (by decide) _).mono ?_
  rintro e w3 ⟨rfl, hb⟩
  have HB5 := Lib.hid (HB4.out.step hb)
  clear HB4
  clear hb
  have HB6 := Lib.hid (HB5.out.push 24 (0) (0) (0) (0))
  clear HB5
  go_wp2_with fail
  refine (new_of 0 0 0 0 0 (by decide) (by decide) (by decide) _).mono ?_
  rintro e w4 ⟨rfl, hb⟩
  have HB7 := Lib.hid (HB6.out.step hb)
  clear HB6
  clear hb
  have HB8 := Lib.hid (HB7.out.push 24 (0) (0) (0) (0))
  clear HB7
  go_wp2_with fail
  refine (use_of 0 0 0 0 (.tuple #[.agg #[.int .i64 (0), .int .i64 (0), .int .i64 (0), .int .i64 (0)], .int .i64 0]) (by rfl) _).mono ?_
  rintro e w5 ⟨rfl, hb⟩
  have HB9 := Lib.hid (HB8.out.step hb)
  clear HB8
  clear hb
  have HB10 := Lib.hid (HB9.out.push 24 (0) (0) (0) (0))
  clear HB9
  go_wp2_with fail
  refine (new_of 3 10 3 10 0 (by decide) (by decide) (by decide) _).mono ?_
  rintro e w6 ⟨rfl, hb⟩
  have HB11 := Lib.hid (HB10.out.step hb)
  clear HB10
  clear hb
  have HB12 := Lib.hid (HB11.out.push 24 (3) (10) (3) (0))
  clear HB11
  go_wp2_with fail
  refine (tick_of 3 10 3 0 (4) (.tuple #[.agg #[.int .i64 (3), .int .i64 (10), .int .i64 (3), .int .i64 (4)], .bool false]) (by rfl) _).mono ?_
  rintro e w7 ⟨rfl, hb⟩
  have HB13 := Lib.hid (HB12.out.step hb)
  clear HB12
  clear hb
  have HB14 := Lib.hid (HB13.out.push 24 (3) (10) (3) (4))
  clear HB13
  go_wp2_with fail
  refine (tick_of 3 10 3 4 (4611686018427387904) (.tuple #[.agg #[.int .i64 (3), .int .i64 (10), .int .i64 (3), .int .i64 (8)], .bool true]) (by rfl) _).mono ?_
  rintro e w8 ⟨rfl, hb⟩
  have HB15 := Lib.hid (HB14.out.step hb)
  clear HB14
  clear hb
  obtain ⟨⟨y0, y1, y2, y3⟩, yl⟩ := HB15.out.get 0 rfl
  have HB16 := Lib.hid (HB15.out.push 24 (3) (10) (3) (8))
  clear HB15
  go_wp2_with fail
  refine (tick_of 3 10 3 4 (-5) (.tuple #[.agg #[.int .i64 (3), .int .i64 (10), .int .i64 (3), .int .i64 (4)], .bool false]) (by rfl) _).mono ?_
  rintro e w9 ⟨rfl, hb⟩
  clear y0 y1 y2 y3 yl
  have HB17 := Lib.hid (HB16.out.step hb)
  clear HB16
  clear hb
  have HB18 := Lib.hid (HB17.out.push 24 (3) (10) (3) (4))
  clear HB17
  have HB19 := Lib.hid (HB18.out.push' (w9.heap.size + 1) (by simp) 24 (3) (10) (0) (0))
  clear HB18
  go_wp2_with fail
  refine (use_of 3 10 0 0 (.tuple #[.agg #[.int .i64 (0), .int .i64 (0), .int .i64 (0), .int .i64 (0)], .int .i64 14]) (by rfl) _).mono ?_
  rintro e w10 ⟨rfl, hb⟩
  have HB20 := Lib.hid (HB19.out.step hb)
  clear HB19
  clear hb
  have HB21 := Lib.hid (HB20.out.push 24 (0) (0) (0) (0))
  clear HB20
  have HB22 := Lib.hid (HB21.out.push' (w10.heap.size + 1) (by simp) 24 (3) (10) (4) (0))
  clear HB21
  go_wp2_with fail
  refine (use_of 3 10 4 0 (.tuple #[.agg #[.int .i64 (0), .int .i64 (0), .int .i64 (0), .int .i64 (0)], .int .i64 1]) (by rfl) _).mono ?_
  rintro e w11 ⟨rfl, hb⟩
  have HB23 := Lib.hid (HB22.out.step hb)
  clear HB22
  clear hb
  have HB24 := Lib.hid (HB23.out.push 24 (0) (0) (0) (0))
  clear HB23
  obtain ⟨⟨bad0, bad1, bad2, bad3⟩, badl⟩ := HB24.out.get 1 rfl
  go_wp2_with fail
  refine (tick_of 3 10 4 0 (100) (.tuple #[.agg #[.int .i64 (3), .int .i64 (10), .int .i64 (4), .int .i64 (0)], .bool false]) (by rfl) _).mono ?_
  rintro e w12 ⟨rfl, hb⟩
  clear bad0 bad1 bad2 bad3 badl
  have HB25 := Lib.hid (HB24.out.step hb)
  clear HB24
  clear hb
  obtain ⟨⟨free0, free1, free2, free3⟩, freel⟩ := HB25.out.get 9 rfl
  obtain ⟨⟨same0, same1, same2, same3⟩, samel⟩ := HB25.out.get 8 rfl
  have HB26 := Lib.hid (HB25.out.push 24 (3) (10) (4) (0))
  clear HB25
  go_wp2_with fail
  refine (spent_of 0 0 0 0 false (by rfl) _).mono ?_
  rintro e w13 ⟨rfl, hb⟩
  clear free0 free1 free2 free3 freel same0 same1 same2 same3 samel
  have HB27 := Lib.hid (HB26.out.step hb)
  clear HB26
  clear hb
  obtain ⟨⟨free0, free1, free2, free3⟩, freel⟩ := HB27.out.get 10 rfl
  go_wp2_with fail
  refine (next_of 0 0 0 0 0 (by rfl) _).mono ?_
  rintro e w14 ⟨rfl, hb⟩
  clear free0 free1 free2 free3 freel
  have HB28 := Lib.hid (HB27.out.step hb)
  clear HB27
  clear hb
  obtain ⟨⟨y0, y1, y2, y3⟩, yl⟩ := HB28.out.get 7 rfl
  go_wp2_with fail
  refine (next_of 3 10 3 4 6 (by rfl) _).mono ?_
  rintro e w15 ⟨rfl, hb⟩
  clear y0 y1 y2 y3 yl
  have HB29 := Lib.hid (HB28.out.step hb)
  clear HB28
  clear hb
  obtain ⟨⟨z0, z1, z2, z3⟩, zl⟩ := HB29.out.get 6 rfl
  obtain ⟨⟨w0, w1, w2, w3⟩, wl⟩ := HB29.out.get 5 rfl
  obtain ⟨⟨y0, y1, y2, y3⟩, yl⟩ := HB29.out.get 7 rfl
  obtain ⟨⟨v0, v1, v2, v3⟩, vl⟩ := HB29.out.get 0 rfl
  obtain ⟨⟨bad0, bad1, bad2, bad3⟩, badl⟩ := HB29.out.get 2 rfl
  go_wp2_with fail
  refine (good_of 3 10 4 0 false (by rfl) _).mono ?_
  rintro e w16 ⟨rfl, hb⟩
  clear z0 z1 z2 z3 zl w0 w1 w2 w3 wl y0 y1 y2 y3 yl v0 v1 v2 v3 vl bad0 bad1 bad2 bad3 badl
  have HB30 := Lib.hid (HB29.out.step hb)
  clear HB29
  clear hb
  obtain ⟨⟨spent0, spent1, spent2, spent3⟩, spentl⟩ := HB30.out.get 4 rfl
  go_wp2_with fail
  refine (good_of 3 10 0 0 true (by rfl) _).mono ?_
  rintro e w17 ⟨rfl, hb⟩
  clear spent0 spent1 spent2 spent3 spentl
  have HB31 := Lib.hid (HB30.out.step hb)
  clear HB30
  clear hb
  obtain ⟨⟨spent0, spent1, spent2, spent3⟩, spentl⟩ := HB31.out.get 4 rfl
  go_wp2_with fail
  refine (spent_of 3 10 0 0 true (by rfl) _).mono ?_
  rintro e w18 ⟨rfl, hb⟩
  clear spent0 spent1 spent2 spent3 spentl
  have HB32 := Lib.hid (HB31.out.step hb)
  clear HB31
  clear hb
  obtain ⟨⟨bad0, bad1, bad2, bad3⟩, badl⟩ := HB32.out.get 2 rfl
  go_wp2_with fail
  refine (spent_of 3 10 4 0 false (by rfl) _).mono ?_
  rintro e w19 ⟨rfl, hb⟩
  clear bad0 bad1 bad2 bad3 badl
  have HB33 := Lib.hid (HB32.out.step hb)
  clear HB32
  clear hb
  obtain ⟨⟨bad0, bad1, bad2, bad3⟩, badl⟩ := HB33.out.get 2 rfl
  go_wp2_with fail
  refine (next_of 3 10 4 0 0 (by rfl) _).mono ?_
  rintro e w20 ⟨rfl, hb⟩
  clear bad0 bad1 bad2 bad3 badl
  have HB34 := Lib.hid (HB33.out.step hb)
  clear HB33
  clear hb
  go_wp2_with fail
  go_ret
  exact ⟨rfl, HB34.out.fr⟩
end Go.Proofs.Ytcomhbfblfclpaa
