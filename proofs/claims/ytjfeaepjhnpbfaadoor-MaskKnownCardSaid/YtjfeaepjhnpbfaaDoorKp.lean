/- The law MaskKnown, walked. -/
import Derived.Test.YtjfeaepjhnpbfaaDoorKi
namespace Go.Proofs.YtjfeaepjhnpbfaaDoor
open Go.RowKit Go.Sort

theorem text0 : textS 0 = ⟨#[45]⟩ := by
  have h1 : coresL 0 = [] := by decide
  unfold textS textL
  rw [h1]
  rfl

/-- Of over a list that was just written down. -/
theorem of_lit (v : World) (cs : Array Value) (l : List Int) (n m : Nat) (hn : l.length = n) (hl : n ≤ 1000) (hc : cs = (l.map (Value.int .i64)).toArray) (hm : ofN l = m) :
    Calls Tryd.prog 8 #[.slice (some ⟨v.heap.size, 0, none⟩) n n] (v.alloc (.cells cs 3)) fun e w' => e = .returned (.int .u16 m) ∧ Below v.heap.size v w' := by
  refine (of_v _ n n (v.heap.size + 1) m l _ hn (by omega) (IRow.lit _ _ _ _ _ _ hc rfl (by omega)) hm).mono ?_
  rintro e w' ⟨rfl, rfl⟩
  exact ⟨rfl, (Below.refl _ _).alloc (Nat.le_refl _) _⟩

set_option maxRecDepth 100000 in
set_option maxHeartbeats 2000000 in
theorem maskKnown_walk (w : World) : Calls Tryd.prog 3 #[] w (Ret (.bool true) w) := by
  have k0 := Lib.hid (fun w => awake_c w)
  have k1 := Lib.hid (fun (w : World) => of_v none 0 0 0 0 [] w rfl (by omega) IRow.nil (by decide))
  have k2 := Lib.hid (fun (v : World) => of_lit v _ [0, 1, 2, 3, 4, 5, 6, 7, 8, 9, 10, 11, 12, 13, 14, 15] 16 65535 rfl (by omega) rfl (by decide))
  have k3 := Lib.hid (fun w => text_v 0 _ (by omega) text0 w)
  have k4 := Lib.hid (fun w => list_v 0 0 [] (by omega) (by decide) rfl w)
  have k5 := Lib.hid (fun w => good_v 0 4 false (by omega) (by decide) w)
  have k6 := Lib.hid (fun w => good_v 65535 16 true (by omega) (by decide) w)
  have k7 := Lib.hid (fun w => good_v 65535 15 false (by omega) (by decide) w)
  have k8 := Lib.hid (fun w => good_v 1 0 false (by omega) (by decide) w)
  have k9 := Lib.hid (fun w => good_v 1 17 false (by omega) (by decide) w)
  have k10 := Lib.hid (fun w => good_v 1 1 true (by omega) (by decide) w)
  have k11 := Lib.hid (fun (v : World) => of_lit v _ [-1, 16, 3, 3] 4 8 rfl (by omega) rfl (by decide))
  have k12 := Lib.hid (fun (v : World) => of_lit v _ [3] 1 8 rfl (by omega) rfl (by decide))
  have k13 := Lib.hid (fun w => has_v 8 (-1) false (by omega) (by decide) w)
  have k14 := Lib.hid (fun w => has_v 8 16 false (by omega) (by decide) w)
  have k15 := Lib.hid (fun w => has_v 8 3 true (by omega) (by decide) w)
  have k16 := Lib.hid (fun w => around_v 65535 16 20 [15, 0, 1, 2, 3, 4, 5, 6, 7, 8, 9, 10, 11, 12, 13, 14] (by omega) (by decide) rfl w)
  have k17 := Lib.hid (fun (v : World) => of_lit v _ [0, 1] 2 3 rfl (by omega) rfl (by decide))
  have k18 := Lib.hid (fun w => around_v 3 2 (-5) [0, 1] (by omega) (by decide) rfl w)
  have k19 := Lib.hid (fun w => len_v 65535 16 (by omega) (by decide) w)
  go_enter Tryd.func3, Tryd.ntmps3
  go_wp2_with fail
  refine (k0.out _).mono ?_
  rintro e v0 ⟨rfl, hb0⟩
  have HB0 := Lib.hid hb0
  clear hb0
  go_wp2_with fail
  refine (k1.out _).mono ?_
  rintro e v1 ⟨rfl, rfl⟩
  go_wp2_with fail
  refine (k2.out _).mono ?_
  rintro e v1 ⟨rfl, hb1⟩
  have HB1 := Lib.hid (HB0.out.trans (hb1.mono HB0.out.size))
  clear hb1
  go_wp2_with fail
  refine (k3.out _).mono ?_
  rintro e v2 ⟨rfl, hb2⟩
  have HB2 := Lib.hid (HB1.out.trans (hb2.mono HB1.out.size))
  clear hb2 HB0 HB1
  go_wp2_with fail
  refine (k4.out _).mono ?_
  rintro e v3 ⟨A3, c3, rfl, hc31, hc32, hr3, hb3⟩
  clear hc31 hc32 hr3
  have HB3 := Lib.hid (HB2.out.trans (hb3.mono HB2.out.size))
  clear hb3 HB2
  go_wp2_with fail
  refine (k5.out _).mono ?_
  rintro e v4 ⟨rfl, hb4⟩
  have HB4 := Lib.hid (HB3.out.trans (hb4.mono HB3.out.size))
  clear hb4 HB3
  go_wp2_with fail
  refine (k6.out _).mono ?_
  rintro e v5 ⟨rfl, hb5⟩
  have HB5 := Lib.hid (HB4.out.trans (hb5.mono HB4.out.size))
  clear hb5 HB4
  go_wp2_with fail
  refine (k7.out _).mono ?_
  rintro e v6 ⟨rfl, hb6⟩
  have HB6 := Lib.hid (HB5.out.trans (hb6.mono HB5.out.size))
  clear hb6 HB5
  go_wp2_with fail
  refine (k8.out _).mono ?_
  rintro e v7 ⟨rfl, hb7⟩
  have HB7 := Lib.hid (HB6.out.trans (hb7.mono HB6.out.size))
  clear hb7 HB6
  go_wp2_with fail
  refine (k9.out _).mono ?_
  rintro e v8 ⟨rfl, hb8⟩
  have HB8 := Lib.hid (HB7.out.trans (hb8.mono HB7.out.size))
  clear hb8 HB7
  go_wp2_with fail
  refine (k10.out _).mono ?_
  rintro e v9 ⟨rfl, hb9⟩
  have HB9 := Lib.hid (HB8.out.trans (hb9.mono HB8.out.size))
  clear hb9 HB8
  go_wp2_with fail
  refine (k11.out _).mono ?_
  rintro e v10 ⟨rfl, hb10⟩
  have HB10 := Lib.hid (HB9.out.trans (hb10.mono HB9.out.size))
  clear hb10 HB9
  go_wp2_with fail
  refine (k12.out _).mono ?_
  rintro e v11 ⟨rfl, hb11⟩
  have HB11 := Lib.hid (HB10.out.trans (hb11.mono HB10.out.size))
  clear hb11 HB10
  go_wp2_with fail
  refine (k13.out _).mono ?_
  rintro e u ⟨rfl, rfl⟩
  go_wp2_with fail
  refine (k12.out _).mono ?_
  rintro e v12 ⟨rfl, hb12⟩
  have HB12 := Lib.hid (HB11.out.trans (hb12.mono HB11.out.size))
  clear hb12 HB11
  go_wp2_with fail
  refine (k14.out _).mono ?_
  rintro e u ⟨rfl, rfl⟩
  go_wp2_with fail
  refine (k12.out _).mono ?_
  rintro e v13 ⟨rfl, hb13⟩
  have HB13 := Lib.hid (HB12.out.trans (hb13.mono HB12.out.size))
  clear hb13 HB12
  go_wp2_with fail
  refine (k15.out _).mono ?_
  rintro e u ⟨rfl, rfl⟩
  go_wp2_with fail
  refine (k16.out _).mono ?_
  rintro e v14 ⟨A, ca, rfl, hca1, hca2, hr, hb14⟩
  have HB14 := Lib.hid (HB13.out.trans (hb14.mono HB13.out.size))
  obtain ⟨ad, rfl, hblk, hcl⟩ := hr.at (i := 0) (by simp)
  clear hcl
  have hr2 : IRow .i64 v14 v14.heap.size (some ad) [15, 0] := fun j z hj => by
    match j, hj with
    | 0, hj => exact hr 0 z (by simpa using hj)
    | 1, hj => exact hr 1 z (by simpa using hj)
  have kx := Lib.hid (fun c2 => ints_eq (some ad) (some ⟨v14.heap.size, 0, none⟩) 2 c2 2 (v14.heap.size + 1) [15, 0] (v14.alloc (.cells #[.int .i64 15, .int .i64 0] 3)) rfl (by omega) ((hr2.alloc (Nat.le_refl _) _).more (by omega)) (IRow.lit _ _ _ _ _ _ rfl rfl (by omega)))
  have HBx := Lib.hid (HB14.out.alloc HB14.out.size (.cells #[.int .i64 15, .int .i64 0] 3))
  have hca : (2 : Int) ≤ (ca : Int) := by omega
  clear hb14 HB13 hr hr2 hblk
  go_wp2_with fail
  refine (kx.out _).mono ?_
  rintro e v15 ⟨rfl, hb15⟩
  have HB15 := Lib.hid (HBx.out.trans (hb15.mono HBx.out.size))
  clear hb15 HBx HB14
  go_wp2_with fail
  refine (k17.out _).mono ?_
  rintro e v16 ⟨rfl, hb16⟩
  have HB16 := Lib.hid (HB15.out.trans (hb16.mono HB15.out.size))
  clear hb16 HB15
  go_wp2_with fail
  refine (k18.out _).mono ?_
  rintro e v17 ⟨A2, c2, rfl, hc21, hc22, hr2, hb17⟩
  have HB17 := Lib.hid (HB16.out.trans (hb17.mono HB16.out.size))
  have ky := Lib.hid (ints_eq A2 (some ⟨v17.heap.size, 0, none⟩) 2 c2 2 (v17.heap.size + 1) [0, 1] (v17.alloc (.cells #[.int .i64 0, .int .i64 1] 3)) rfl (by omega) ((hr2.alloc (Nat.le_refl _) _).more (by omega)) (IRow.lit _ _ _ _ _ _ rfl rfl (by omega)))
  have HBy := Lib.hid (HB17.out.alloc HB17.out.size (.cells #[.int .i64 0, .int .i64 1] 3))
  clear hb17 hr2 HB16 HB17
  go_wp2_with fail
  refine ky.out.mono ?_
  rintro e v18 ⟨rfl, hb18⟩
  have HB18 := Lib.hid (HBy.out.trans (hb18.mono HBy.out.size))
  clear hb18 HBy
  go_wp2_with fail
  refine (k19.out _).mono ?_
  rintro e v19 ⟨rfl, hb19⟩
  have HB19 := Lib.hid (HB18.out.trans (hb19.mono HB18.out.size))
  clear hb19 HB18
  go_wp2_with fail
  go_ret
  exact ⟨rfl, HB19.out⟩

theorem maskKnown_law (W : World) : Calls Tryd.prog 3 #[] W fun e w' => e = .returned (.bool true) ∧ Below W.heap.size W w' := maskKnown_walk W
end Go.Proofs.YtjfeaepjhnpbfaaDoor
