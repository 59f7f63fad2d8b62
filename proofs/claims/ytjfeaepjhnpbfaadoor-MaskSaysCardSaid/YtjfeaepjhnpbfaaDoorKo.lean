/- The law MaskSays, walked. -/
import Derived.Test.YtjfeaepjhnpbfaaDoorKn
import Derived.Test.YtjfeaepjhnpbfaaDoorKj
import Derived.Deep.CutBlock
import Derived.Deep.DeepCutAuto
namespace Go.Proofs.YtjfeaepjhnpbfaaDoor
open Go.RowKit Go.Sort

/-- One step further in a list that is sifted. -/
theorem sift_hit {l : List Int} {k : Nat} (h : k < l.length) (p : Int → Bool) (hp : p l[k] = true) : (l.take (k + 1)).filter p = (l.take k).filter p ++ [l[k]] := by
  rw [List.take_add_one, List.getElem?_eq_getElem h, List.filter_append]
  simp [hp]
theorem sift_miss {l : List Int} {k : Nat} (h : k < l.length) (p : Int → Bool) (hp : p l[k] = false) : (l.take (k + 1)).filter p = (l.take k).filter p := by
  rw [List.take_add_one, List.getElem?_eq_getElem h, List.filter_append]
  simp [hp]
def upP (a : Int) (z : Int) : Bool := decide (a ≤ z)
def downP (a : Int) (z : Int) : Bool := decide (z < a)
theorem around_ints {m : Nat} {c : Int} : (ints64 (coresL m)).filter (upP (clampN c)) ++ (ints64 (coresL m)).filter (downP (clampN c)) = ints64 (aroundL m (clampN c)) := by
  rw [around_eq (clampN_lt c)]
  unfold ints64
  rw [List.map_append, List.filter_map, List.filter_map]
  congr 2
  · apply List.filter_congr
    intro x _
    simp [upP]
  · apply List.filter_congr
    intro x _
    simp [downP]

theorem and15 : ∀ y : Fin 16, bits BinOp.and IntKind.i64 (y.val : Int) 15 = (y.val : Int) := by decide +kernel

set_option maxRecDepth 100000 in
set_option maxHeartbeats 2000000 in
theorem maskSays_walk (m n ca : Nat) (A : Option Addr) (l : List Int) (c d : Int) (hm : m < 65536) (w : World) (hn : l.length = n) (hnc : n ≤ ca) (hcm : ca ≤ maxLen) (hr : IRow .i64 w w.heap.size A l) :
    Calls Tryd.prog 4 #[.int .u16 m, .slice A n ca, .int .i64 c, .int .i64 d] w (Ret (.bool true) w) := by
  obtain ⟨i0, hi, hz0, hz1, hz2⟩ := info_parts info_int
  obtain ⟨N, hN⟩ : ∃ N, (coresL m).length = N := ⟨_, rfl⟩
  have hN16 : N ≤ 16 := by have := cores_length_le m; omega
  obtain ⟨lc, hlc⟩ : ∃ lc, lc = ints64 (coresL m) := ⟨_, rfl⟩
  obtain ⟨q, hq⟩ : ∃ q, ofN l = q := ⟨_, rfl⟩
  obtain ⟨s, hs⟩ : ∃ s, textS m = s := ⟨_, rfl⟩
  obtain ⟨g, hg⟩ : ∃ g, goodB m d = g := ⟨_, rfl⟩
  obtain ⟨a, ha⟩ : ∃ a : Int, a = clampN c := ⟨_, rfl⟩
  have hn63 : n ≤ 9223372036854775807 := by unfold maxLen at hcm; omega
  have HN := Lib.hid hN
  have HLC := Lib.hid hlc
  have HA := Lib.hid ha
  have HL := Lib.hid (show lc.length = N by rw [hlc, ints64_length, hN])
  have k0 := Lib.hid (fun w => awake_c w)
  have k1 := Lib.hid (fun w => cores_v m N lc hm hlc.symm (by rw [hlc, ints64_length, hN]) w)
  have k2 := Lib.hid (fun (w' : World) (hb : Below w.heap.size w w') => of_v A n ca w.heap.size q l w' hn hn63 (hr.below hb) hq)
  have k3 := Lib.hid (fun (w' : World) (hb : Below w.heap.size w w') => maskOf_c A n ca w.heap.size q l w' hn hn63 (hr.below hb) hq)
  have k4 := Lib.hid (fun w => list_v m N lc hm hlc.symm (by rw [hlc, ints64_length, hN]) w)
  have k5 := Lib.hid (fun w => around_v m N c (lc.filter (upP a) ++ lc.filter (downP a)) hm (by rw [hlc, ha, around_ints]) (by rw [hlc, ha, around_ints, ints64_length, around_length (clampN_lt c), hN]) w)
  have hal : (lc.filter (upP a) ++ lc.filter (downP a)).length = N := by rw [hlc, ha, around_ints, ints64_length, around_length (clampN_lt c), hN]
  have HAL := Lib.hid hal
  have k6 := Lib.hid (fun w => len_v m N hm hN w)
  have k7 := Lib.hid (fun w => text_v m s hm hs w)
  have k8 := Lib.hid (fun w => (hs ▸ maskText_c m hm w : Calls Tryd.prog 18 #[.int .u16 m] w (Ret (.string s) w)))
  have k9 := Lib.hid (fun w => good_v m d g hm hg w)
  have k10 := Lib.hid (fun w => (hg ▸ goodMask_c m d hm w : Calls Tryd.prog 19 #[.int .u16 m, .int .i64 d] w (Ret (.bool g) w)))
  clear hN hlc hq hs hg ha hal hn hr
  go_enter Tryd.func4, Tryd.ntmps4
  go_wp2_with fail
  refine (k0.out _).mono ?_
  rintro e w1 ⟨rfl, hb1⟩
  have HB1 := Lib.hid hb1
  clear hb1
  by_cases h40 : 40 < n
  · have h40' : (40 : Int) < (n : Int) := by omega
    go_wp2_with fail
    go_ret
    exact ⟨rfl, HB1.out⟩
  · have h40' : ¬ (40 : Int) < (n : Int) := by omega
    clear h40
    go_wp2_with fail
    refine (k1.out _).mono ?_
    rintro e w2 ⟨Aw, cw, rfl, hcw1, hcw2, hrw, hbw⟩
    have HB2 := Lib.hid (HB1.out.trans (hbw.mono HB1.out.size))
    have HRW := Lib.hid hrw
    clear hrw hbw HB1
    go_upto_if 26 with fail
    go_cut [11] (fun v wx => ∃ x : Int, v = .int .i64 x ∧ x = max c 0 ∧ wx = w2)
    case first => as_aux_lemma =>
      by_cases hc0 : c < 0
      · go_wp2_with fail
        go_meet
        exact ⟨0, rfl, by omega, rfl⟩
      · go_wp2_with fail
        go_meet
        exact ⟨c, rfl, by omega, rfl⟩
    case rest =>
      obtain ⟨x, rfl, hx, rfl⟩ := hcut
      have HX := Lib.hid hx
      clear hx
      go_upto_if 28 with fail
      go_cut [11] (fun v wx => v = .int .i64 a ∧ wx = wc)
      case first => as_aux_lemma =>
        by_cases hc15 : 15 < x
        · go_wp2_with fail
          go_meet
          refine ⟨?_, rfl⟩
          have h1 := HX.out
          have h2 := HA.out
          unfold clampN at h2
          congr 1
          omega
        · go_wp2_with fail
          go_meet
          refine ⟨?_, rfl⟩
          have h1 := HX.out
          have h2 := HA.out
          unfold clampN at h2
          congr 1
          omega
      case rest =>
        obtain ⟨rfl, rfl⟩ := hcut
        go_wp2_with fail
        go_loopw [12, 13] (fun v i wr => ∃ k : Nat, i = .int .i64 k ∧ k ≤ N ∧ OwnI .i64 wr wc.heap.size 3 v ((lc.take k).filter (upP a)) ∧ Below wc.heap.size wc wr) (fun _ i _ => N - (intOf i).toNat)
        case atStart => exact ⟨0, rfl, Nat.zero_le _, by simpa using OwnI.nil _ _ _ _, Below.refl _ _⟩
        case round =>
          obtain ⟨k, rfl, hk, hv, hbr⟩ := hrel
          have hbs := hbr.size
          have HBR := Lib.hid hbr
          clear hbr
          by_cases hlt : k < N
          · have hlt' : (k : Int) < (N : Int) := by omega
            have hkl : k < lc.length := by rw [HL.out]; exact hlt
            obtain ⟨ad, rfl, hblk, hcell⟩ := HRW.out.at hkl
            have hcr := (HBR.out.cell (p := ad.add k) (by rw [add_block]; exact hblk)).trans hcell
            have hlen : ((lc.take k).filter (upP a)).length ≤ 16 := by
              refine Nat.le_trans (List.length_filter_le _ _) ?_
              rw [List.length_take]; omega
            have e1 := sift_hit hkl (upP a)
            have e2 := sift_miss hkl (upP a)
            obtain ⟨z, hz⟩ : ∃ z, z = lc[k] := ⟨_, rfl⟩
            rw [← hz] at hcr e1 e2
            have E1 := Lib.hid e1
            have E2 := Lib.hid e2
            clear hz e1 e2 hcell hblk
            by_cases hp : a ≤ z
            · go_wp2_with (at_builtin; refine wpList_app1 rfl _ _ 27 rfl wc.heap.size 3 i0 8 0 Tryd.underlying27 hi hz0 hz1 hz2 _ _ rfl hv z rfl (by omega) (by omega) hbs ?_; intro v' w' hv' hb')
              go_roundw
              case rel => exact ⟨k + 1, by go_num, by omega, by rw [E1.out (by simp [upP, hp])]; exact hv', HBR.out.trans hb'⟩
              case measure => simp [intOf]; omega
            · go_wp2_with fail
              go_roundw
              case rel => exact ⟨k + 1, by go_num, by omega, by rw [E2.out (by simp [upP]; omega)]; exact hv, HBR.out⟩
              case measure => simp [intOf]; omega
          · obtain rfl : k = N := by omega
            have e1 : lc.take k = lc := by rw [← HL.out, List.take_length]
            rw [e1] at hv
            have HB3 := Lib.hid (HB2.out.trans (HBR.out.mono HB2.out.size))
            clear e1 hk hlt
            go_wp2_with fail
            go_loopw [12, 14] (fun v i wr => ∃ j : Nat, i = .int .i64 j ∧ j ≤ k ∧ OwnI .i64 wr wc.heap.size 3 v (lc.filter (upP a) ++ (lc.take j).filter (downP a)) ∧ Below wc.heap.size wc wr) (fun _ i _ => k - (intOf i).toNat)
            case atStart => exact ⟨0, rfl, Nat.zero_le _, by simpa using hv, HBR.out⟩
            case round =>
              clear hv hbs HBR HB3
              rename_i _ _
              obtain ⟨j, rfl, hj, hv, hbr⟩ := hrel
              have hbs := hbr.size
              have HBR := Lib.hid hbr
              clear hbr
              by_cases hlt : j < k
              · have hlt' : (j : Int) < (k : Int) := by omega
                have hkl : j < lc.length := by rw [HL.out]; exact hlt
                obtain ⟨ad, rfl, hblk, hcell⟩ := HRW.out.at hkl
                have hcr := (HBR.out.cell (p := ad.add j) (by rw [add_block]; exact hblk)).trans hcell
                have hlen : (lc.filter (upP a) ++ (lc.take j).filter (downP a)).length ≤ 32 := by
                  rw [List.length_append]
                  have h1 := List.length_filter_le (upP a) lc
                  have h2 := List.length_filter_le (downP a) (lc.take j)
                  rw [List.length_take] at h2
                  have := HL.out
                  omega
                have e1 := sift_hit hkl (downP a)
                have e2 := sift_miss hkl (downP a)
                obtain ⟨z, hz⟩ : ∃ z, z = lc[j] := ⟨_, rfl⟩
                rw [← hz] at hcr e1 e2
                have E1 := Lib.hid e1
                have E2 := Lib.hid e2
                clear hz e1 e2 hcell hblk
                by_cases hp : z < a
                · go_wp2_with (at_builtin; refine wpList_app1 rfl _ _ 27 rfl wc.heap.size 3 i0 8 0 Tryd.underlying27 hi hz0 hz1 hz2 _ _ rfl hv z rfl (by omega) (by omega) hbs ?_; intro v' w' hv' hb')
                  go_roundw
                  case rel => exact ⟨j + 1, by go_num, by omega, by rw [E1.out (by simp [downP, hp]), ← List.append_assoc]; exact hv', HBR.out.trans hb'⟩
                  case measure => simp [intOf]; omega
                · go_wp2_with fail
                  go_roundw
                  case rel => exact ⟨j + 1, by go_num, by omega, by rw [E2.out (by simp [downP]; omega)]; exact hv, HBR.out⟩
                  case measure => simp [intOf]; omega
              · obtain rfl : j = k := by omega
                have e1 : lc.take j = lc := by rw [← HL.out, List.take_length]
                rw [e1] at hv
                clear e1 hlt hj
                obtain ⟨A2, c2, hu, hc21, hc22, hr2⟩ := hv.form
                rw [HAL.out] at hu hc21
                subst hu
                obtain ⟨la, hla⟩ : ∃ la, la = lc.filter (upP a) ++ lc.filter (downP a) := ⟨_, rfl⟩
                rw [← hla] at hr2 k5 HAL
                have HR2 := Lib.hid hr2
                have HRW2 := Lib.hid ((HRW.out.below HBR.out).more hbs)
                have HB4 := Lib.hid (HB2.out.trans (HBR.out.mono HB2.out.size))
                clear hla hr2 hv
                obtain ⟨hh, hhh⟩ : ∃ hh, hasB m c = hh := ⟨_, rfl⟩
                have k11 := Lib.hid (fun w => has_v m c hh hm hhh w)
                have HH := Lib.hid hhh
                clear hhh
                go_upto_region 23 with fail
                go_cut [15] (fun v wx => v = .bool hh ∧ wx = wr)
                case first => as_aux_lemma =>
                  by_cases hc0 : c < 0
                  · have e : hh = false := by rw [← HH.out]; unfold hasB; simp; omega
                    subst e
                    go_wp2_with fail
                    go_meet
                    exact ⟨rfl, rfl⟩
                  · by_cases hc16 : c < 16
                    · obtain ⟨y, rfl⟩ := Int.eq_ofNat_of_zero_le (show 0 ≤ c by omega)
                      have hy : y < 16 := by omega
                      have h15 := and15 ⟨y, hy⟩
                      simp only at h15
                      have e : m.testBit y = hh := by rw [← HH.out]; unfold hasB; simp; omega
                      have hsb := shr_bit (k := y) hm hh e
                      go_wp2_with fail
                      go_meet
                      exact ⟨rfl, rfl⟩
                    · have e : hh = false := by rw [← HH.out]; unfold hasB; simp; omega
                      subst e
                      go_wp2_with fail
                      go_meet
                      exact ⟨rfl, rfl⟩
                case rest =>
                  obtain ⟨rfl, hwc⟩ := hcut
                  subst hwc
                  clear hbs HBR HB2 HRW
                  have hj63 : j ≤ 9223372036854775807 := by omega
                  go_wp2_with fail
                  refine (k2.out _ HB4.out).mono ?_
                  rintro e v1 ⟨rfl, rfl⟩
                  go_wp2_with fail
                  refine (k3.out _ HB4.out).mono ?_
                  rintro e v1 ⟨rfl, rfl⟩
                  go_wp2_with fail
                  refine (k4.out _).mono ?_
                  rintro e v1 ⟨A5, c5, rfl, hc51, hc52, hr5, hb5⟩
                  have HB5 := Lib.hid (HB4.out.trans (hb5.mono HB4.out.size))
                  have HR3 := Lib.hid ((HR2.out.below hb5).more hb5.size)
                  have k12 := Lib.hid (ints_eq A5 Aw j c5 cw v1.heap.size lc v1 HL.out hj63 hr5 ((HRW2.out.below hb5).more hb5.size))
                  clear hb5 hr5 HR2 HRW2 HB4
                  go_wp2_with fail
                  refine k12.out.mono ?_
                  rintro e v2 ⟨rfl, hb6⟩
                  have HB6 := Lib.hid (HB5.out.trans (hb6.mono HB5.out.size))
                  have HR4 := Lib.hid ((HR3.out.below hb6).more hb6.size)
                  clear hb6 HB5 HR3
                  go_wp2_with fail
                  refine (k5.out _).mono ?_
                  rintro e v3 ⟨A7, c7, rfl, hc71, hc72, hr7, hb7⟩
                  have HB7 := Lib.hid (HB6.out.trans (hb7.mono HB6.out.size))
                  have k13 := Lib.hid (ints_eq A7 A2 j c7 c2 v3.heap.size la v3 HAL.out hj63 hr7 ((HR4.out.below hb7).more hb7.size))
                  clear hb7 hr7 HB6 HR4
                  go_wp2_with fail
                  refine k13.out.mono ?_
                  rintro e v4 ⟨rfl, hb8⟩
                  have HB8 := Lib.hid (HB7.out.trans (hb8.mono HB7.out.size))
                  clear hb8 HB7
                  go_wp2_with fail
                  refine (k6.out _).mono ?_
                  rintro e v5 ⟨rfl, hb9⟩
                  have HB9 := Lib.hid (HB8.out.trans (hb9.mono HB8.out.size))
                  clear hb9 HB8
                  go_wp2_with fail
                  refine (k7.out _).mono ?_
                  rintro e v6 ⟨rfl, hb10⟩
                  have HB10 := Lib.hid (HB9.out.trans (hb10.mono HB9.out.size))
                  clear hb10 HB9
                  go_wp2_with fail
                  refine (k8.out _).mono ?_
                  rintro e v7 ⟨rfl, hb11⟩
                  have HB11 := Lib.hid (HB10.out.trans (hb11.mono HB10.out.size))
                  clear hb11 HB10
                  go_wp2_with fail
                  refine (k9.out _).mono ?_
                  rintro e v8 ⟨rfl, hb12⟩
                  have HB12 := Lib.hid (HB11.out.trans (hb12.mono HB11.out.size))
                  clear hb12 HB11
                  go_wp2_with fail
                  refine (k10.out _).mono ?_
                  rintro e v9 ⟨rfl, hb13⟩
                  have HB13 := Lib.hid (HB12.out.trans (hb13.mono HB12.out.size))
                  clear hb13 HB12
                  go_wp2_with fail
                  refine (k11.out _).mono ?_
                  rintro e v10 ⟨rfl, rfl⟩
                  go_wp2_with fail
                  go_ret
                  exact ⟨by simp, HB13.out⟩

theorem maskSays_law (a : Int) (A : Option Addr) (ca : Nat) (l : List Int) (c d : Int) (wa : (Lit.int .u16 a).wf = true) (hnc : l.length ≤ ca) (hcm : ca ≤ maxLen) (W : World) (hr : IRow .i64 W W.heap.size A l) :
    Calls Tryd.prog 4 #[.int .u16 a, .slice A l.length ca, .int .i64 c, .int .i64 d] W fun e w' => e = .returned (.bool true) ∧ Below W.heap.size W w' := by
  obtain ⟨m, rfl, hm⟩ := u16_wf wa
  exact maskSays_walk m l.length ca A l c d hm W rfl hnc hcm hr
end Go.Proofs.YtjfeaepjhnpbfaaDoor
