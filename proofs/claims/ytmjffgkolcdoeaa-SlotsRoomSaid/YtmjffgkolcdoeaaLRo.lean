/- SlotsRoom: its walk. -/
import Derived.Test.YtmjffgkolcdoeaaTf
namespace Go.Proofs.Ytmjffgkolcdoeaa
open Go.RowKit

theorem place_room (i T : Nat) (hi : i < 64) (hT : T ≤ 1000) (w : World) :
    Calls Try.prog 10 #[.int .i64 ((i : Int) + 64 * (T : Int))] w fun e w' => e = .returned (.tuple #[.int .i64 i, .int .i64 T]) ∧ w = w' := by
  have := place_c ((i : Int) + 64 * (T : Int)) (by omega) (by omega) w
  have e : placeV ((i : Int) + 64 * (T : Int)) = ((i : Int), (T : Int)) := by unfold placeV; rw [if_neg (by omega)]; simp only [Prod.mk.injEq]; omega
  rw [e] at this
  exact this

set_option maxRecDepth 100000 in
set_option maxHeartbeats 4000000 in
theorem slotsRoom_c (most : Int) (W : World) :
    Calls Try.prog 5 #[.int .i64 most] W fun e w' => e = .returned (.bool true) ∧ Below W.heap.size W w' := by
  by_cases h1 : most < 1
  · go_enter Try.func5, Try.ntmps5
    go_wp2_with fail
    refine (awake6_c W).mono ?_
    rintro e w1 ⟨rfl, hb1⟩
    have HB1 := Lib.hid hb1
    clear hb1
    go_wp2_with fail
    go_ret
    exact ⟨rfl, HB1.out⟩
  · by_cases h2 : 64 < most
    · go_enter Try.func5, Try.ntmps5
      go_wp2_with fail
      refine (awake6_c W).mono ?_
      rintro e w1 ⟨rfl, hb1⟩
      have HB1 := Lib.hid hb1
      clear hb1
      go_wp2_with fail
      go_ret
      exact ⟨rfl, HB1.out⟩
    · obtain ⟨m, rfl⟩ : ∃ m : Nat, most = m := ⟨most.toNat, by omega⟩
      have k1 : 1 ≤ m := by omega
      have k2 : m ≤ 64 := by omega
      have hcl : clampS m = m := by unfold clampS; rw [if_neg h1, if_neg h2]; omega
      have HCL := Lib.hid hcl
      clear hcl
      go_enter Try.func5, Try.ntmps5
      go_wp2_with fail
      refine (awake6_c W).mono ?_
      rintro e w1 ⟨rfl, hb1⟩
      have HB1 := Lib.hid hb1
      clear hb1
      go_wp2_with fail
      refine (new_in HB1.out m).mono ?_
      rintro e w2 ⟨b, g, rfl, hs, _, _, _⟩
      rw [HCL.out, roomT_zero] at hs
      have HS0 := Lib.hid hs
      clear hs HCL HB1
      go_wp2_with fail
      go_loopw [4] (fun tv wr => ∃ T : Nat, tv = .int .i64 T ∧ T ≤ 3 ∧ Hid (SAt W wr b g (roomT m T 0))) (fun tv _ => 3 - (intOf tv).toNat)
      case atStart => exact ⟨0, rfl, by omega, HS0⟩
      case round =>
        obtain ⟨T, rfl, hT, HT⟩ := hrel
        by_cases hlt : T < 3
        · have hd3 : decide ((T : Int) < 3) = true := by simp; omega
          go_wp2_with fail
          go_loopw [5] (fun iv wr => ∃ i : Nat, iv = .int .i64 i ∧ i ≤ m ∧ Hid (SAt W wr b g (roomT m T i))) (fun iv _ => m - (intOf iv).toNat)
          case atStart => exact ⟨0, rfl, by omega, HT⟩
          case round =>
            obtain ⟨i, rfl, hi, HI⟩ := hrel
            by_cases hil : i < m
            · have K1 := Lib.hid (take_in HI.out (roomT_bd (by omega)) (roomT_take hil))
              have KP := Lib.hid (place_room i T (by omega) (by omega))
              go_wp2_with fail
              refine K1.out.mono ?_
              rintro e w3 ⟨rfl, h3, _⟩
              have H3 := Lib.hid h3
              clear h3 K1
              go_wp2_with fail
              refine (KP.out _).mono ?_
              rintro e w4 ⟨rfl, rfl⟩
              go_wp2_with fail
              go_roundw
              case rel => first | exact ⟨i + 1, by go_num, by omega, H3⟩ | ((repeat apply Exists.intro); refine ⟨⟨i + 1, ?_, by omega, H3⟩, rfl⟩; go_num)
              case measure => simp [intOf]; omega
            · obtain rfl : i = m := by omega
              have K1 := Lib.hid (take_in HI.out (roomT_bd (by omega)) (roomT_full _ T))
              go_wp2_with fail
              refine K1.out.mono ?_
              rintro e w3 ⟨rfl, h3, _⟩
              have H3 := Lib.hid h3
              clear h3 K1
              go_wp2_with fail
              refine (len_in H3.out (roomT_len _ T)).mono ?_
              rintro e w4 ⟨rfl, h4, _⟩
              rw [← roomF_zero] at h4
              have H4 := Lib.hid h4
              clear h4 H3
              go_wp2_with fail
              go_loopw [12] (fun jv wr => ∃ j : Nat, jv = .int .i64 j ∧ j ≤ i ∧ Hid (SAt W wr b g (roomF i T j))) (fun jv _ => i - (intOf jv).toNat)
              case atStart => exact ⟨0, rfl, by omega, H4⟩
              case round =>
                obtain ⟨j, rfl, hj, HJ⟩ := hrel
                by_cases hjl : j < i
                · have K2 := Lib.hid (free_in HJ.out (by omega) (by omega) (roomF_bd (by omega)) (roomF_free (T := T) hjl k2))
                  go_wp2_with fail
                  refine K2.out.mono ?_
                  rintro e w5 ⟨rfl, h5, _⟩
                  have H5 := Lib.hid h5
                  clear h5 K2
                  go_wp2_with fail
                  go_roundw
                  case rel => first | exact ⟨j + 1, by go_num, by omega, H5⟩ | ((repeat apply Exists.intro); refine ⟨⟨j + 1, ?_, by omega, H5⟩, rfl⟩; go_num)
                  case measure => simp [intOf]; omega
                · obtain rfl : j = i := by omega
                  have hr := HJ.out
                  rw [roomF_end] at hr
                  have HR := Lib.hid hr
                  clear hr
                  go_wp2_with fail
                  go_roundw
                  case rel => first | exact ⟨T + 1, by go_num, by omega, HR⟩ | ((repeat apply Exists.intro); refine ⟨⟨T + 1, ?_, by omega, HR⟩, rfl⟩; go_num)
                  case measure => simp [intOf]; omega
        · obtain rfl : T = 3 := by omega
          go_wp2_with fail
          refine (len_in HT.out (roomT_none m 3)).mono ?_
          rintro e w4 ⟨rfl, h4, _⟩
          have H4 := Lib.hid h4.fr
          clear h4
          go_wp2_with fail
          go_ret
          exact ⟨rfl, H4.out⟩
end Go.Proofs.Ytmjffgkolcdoeaa
