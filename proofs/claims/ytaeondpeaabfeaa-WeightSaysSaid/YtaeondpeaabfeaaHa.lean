/- The reference's GoodWeight, Step, fair, Share, Off, Total. -/
import Derived.Test.YtaeondpeaabfeaaRk
import Derived.Test.YtaeondpeaabfeaaGa
namespace Go.Proofs.Ytaeondpeaabfeaa
open Go.RowKit

theorem good_ref (x : Int) (w : World) :
    Calls Try.prog 18 #[.int .i64 x] w fun e w' => e = .returned (.bool (goodB x)) ∧ w = w' := by
  by_cases h1 : 1 ≤ x <;> by_cases h2 : x ≤ 20
  all_goals
    go_enter Try.func18, Try.ntmps18
    go_wp2
    go_ret
    refine ⟨ret_b ?_, rfl⟩
    unfold goodB; simp [h1, h2]

set_option maxHeartbeats 400000 in
theorem step_ref (x : Int) (w : World) :
    Calls Try.prog 19 #[.int .i64 x] w fun e w' => e = .returned (.int .i64 (stepV x)) ∧ w = w' := by
  cases h : goodB x with
  | true =>
    have hx := goodB_true.1 h
    obtain ⟨h1, h2⟩ := hx
    have hc := Lib.hid (fun w => good_ref x w)
    rw [h] at hc
    have HS := Lib.hid (stepV_yes h)
    clear h
    have hz : (x == 0) = false := beq_eq_false_iff_ne.2 (by omega)
    go_enter Try.func19, Try.ntmps19
    go_wp2_with (go_at_call 18; refine (hc.out _).mono ?_; rintro e w' ⟨rfl, rfl⟩)
    go_ret
    refine ⟨ret_i ?_, rfl⟩
    rw [HS.out]
  | false =>
    have hc := Lib.hid (fun w => good_ref x w)
    rw [h] at hc
    have HS := Lib.hid (stepV_no h)
    clear h
    go_enter Try.func19, Try.ntmps19
    go_wp2_with (go_at_call 18; refine (hc.out _).mono ?_; rintro e w' ⟨rfl, rfl⟩)
    go_ret
    exact ⟨ret_i HS.out.symm, rfl⟩

set_option maxHeartbeats 400000 in
theorem fair_ref (x t n : Int) (w : World) :
    Calls Try.prog 26 #[.int .i64 x, .int .i64 t, .int .i64 n] w fun e w' => e = .returned (.bool (fairB x t n)) ∧ w = w' := by
  have hc := Lib.hid (fun w => good_ref x w)
  cases h : goodB x <;> rw [h] at hc
  · have HF : Hid (fairB x t n = false) := Lib.hid (by unfold fairB; simp [h])
    clear h
    go_enter Try.func26, Try.ntmps26
    go_wp2_with (go_at_call 18; refine (hc.out _).mono ?_; rintro e w' ⟨rfl, rfl⟩)
    go_ret
    exact ⟨ret_b HF.out.symm, rfl⟩
  · by_cases h1 : x ≤ t <;> by_cases h2 : t ≤ 1280 <;> by_cases h3 : 0 ≤ n
    all_goals
      have HF : Hid (fairB x t n = (decide (x ≤ t) && decide (t ≤ 1280) && decide (0 ≤ n))) := Lib.hid (by unfold fairB; simp [h])
      clear h
      go_enter Try.func26, Try.ntmps26
      go_wp2_with (go_at_call 18; refine (hc.out _).mono ?_; rintro e w' ⟨rfl, rfl⟩)
      go_ret
      refine ⟨ret_b ?_, rfl⟩
      rw [HF.out]; simp [h1, h2, h3]

set_option maxHeartbeats 400000 in
theorem share_ref (x t n : Int) (w : World) (hn : n ≤ 9223372036854775807) :
    Calls Try.prog 20 #[.int .i64 x, .int .i64 t, .int .i64 n] w (Ret w (.int .i64 (shareV x t n))) := by
  have hc := Lib.hid (fun w => fair_ref x t n w)
  cases h : fairB x t n <;> rw [h] at hc
  · have HS := Lib.hid (shareV_no h)
    clear h
    go_enter Try.func20, Try.ntmps20
    go_wp2_with (go_at_call 26; refine (hc.out _).mono ?_; rintro e w' ⟨rfl, rfl⟩)
    go_ret
    exact ⟨ret_i HS.out.symm, Below.refl _ _⟩
  · have HS := Lib.hid (shareV_yes h)
    have hb := share_le h
    obtain ⟨h1, h2, h3, h4, h5⟩ := fairB_true.1 h
    have HM : Hid (∀ w, Calls Try.prog 27 #[.int .i64 n, .int .i64 x, .int .i64 t] w (Ret w (.tuple #[.int .i64 (shareV x t n), .bool (fitB (shareV x t n))]))) := Lib.hid fun w => by
      have hm := muldiv_ref n x t w (by omega) (by omega) (by omega) (by omega) (by omega) (by omega) (by omega)
      rw [flV_pos h5 (by omega) (by omega), fitV_true (fitB_true.2 ⟨by omega, by omega⟩), ← HS.out] at hm
      exact hm
    clear h hb HS
    go_enter Try.func20, Try.ntmps20
    go_wp2_with (go_at_call 26; refine (hc.out _).mono ?_; rintro e w' ⟨rfl, rfl⟩)
    refine (HM.out _).mono ?_
    rintro e w' ⟨rfl, hbel⟩
    have HB := Lib.hid hbel
    clear hbel
    go_wp2_with fail
    go_ret
    exact ⟨rfl, HB.out⟩

set_option maxHeartbeats 400000 in
theorem off_ref (x t n g : Int) (w : World) :
    Calls Try.prog 21 #[.int .i64 x, .int .i64 t, .int .i64 n, .int .i64 g] w fun e w' => e = .returned (.int .i64 (offV x t n g)) ∧ w = w' := by
  have hc := Lib.hid (fun w => fair_ref x t n w)
  cases h : fairB x t n <;> rw [h] at hc
  · have HS := Lib.hid (offV_no (g := g) h)
    clear h
    go_enter Try.func21, Try.ntmps21
    go_wp2_with (go_at_call 26; refine (hc.out _).mono ?_; rintro e w' ⟨rfl, rfl⟩)
    go_ret
    exact ⟨ret_i HS.out.symm, rfl⟩
  · have HS := Lib.hid (offV_yes (g := g) h)
    clear h
    go_enter Try.func21, Try.ntmps21
    go_wp2_with (go_at_call 26; refine (hc.out _).mono ?_; rintro e w' ⟨rfl, rfl⟩)
    go_ret
    exact ⟨ret_i HS.out.symm, rfl⟩

theorem TotAt.bound70 {l : List Int} {k : Nat} {s : Int} (h : TotAt l k s) (hl : l.length ≤ 70) : 0 ≤ s ∧ s ≤ 1400 := by
  obtain ⟨h1, h2, h3⟩ := h
  have := sum_good _ h3
  have : (l.take k).length ≤ 70 := by rw [List.length_take]; omega
  omega

set_option maxHeartbeats 1000000 in
theorem total_ref (A : Option Addr) (c : Nat) (B : Nat) (l : List Int) (w : World) (hl : l.length ≤ 70) (hr : IRow .i64 w B A l) :
    Calls Try.prog 17 #[.slice A l.length c] w fun e w' => e = .returned (.tuple #[.int .i64 (totV l), .bool (totB l)]) ∧ w = w' := by
  have HR := Lib.hid hr
  clear hr
  go_enter Try.func17, Try.ntmps17
  go_wp2_with fail
  go_loop [4, 5] (fun s i => ∃ (k : Nat) (z : Int), i = .int .i64 k ∧ s = .int .i64 z ∧ TotAt l k z) (fun _ i => l.length - (intOf i).toNat)
  case atStart => exact ⟨0, 0, rfl, rfl, Nat.zero_le _, by simp, by simp⟩
  case round =>
    obtain ⟨k, z, rfl, rfl, ht⟩ := hrel
    by_cases hlt : k < l.length
    · obtain ⟨ad, rfl, _, hc⟩ := HR.out.at hlt
      have hz := ht.bound70 hl
      obtain ⟨hz1, hz2⟩ := hz
      have hx := Lib.hid (fun w => good_ref l[k] w)
      obtain ⟨x, hxe⟩ : ∃ x, x = l[k] := ⟨_, rfl⟩
      have HE := Lib.hid hxe
      rw [← hxe] at hc hx
      have HT := Lib.hid ht
      clear hxe ht
      cases hg : goodB x <;> rw [hg] at hx
      · have HB := Lib.hid (totB_bad hlt (by rw [← HE.out]; exact hg))
        clear hg
        go_wp2_with (go_at_call 18; refine (hx.out _).mono ?_; rintro e w' ⟨rfl, rfl⟩)
        go_ret2
        exact ⟨ret_ib (totV_no HB.out).symm HB.out.symm, rfl⟩
      · have hxb := goodB_true.1 hg
        obtain ⟨hx1, hx2⟩ := hxb
        have HG := Lib.hid hg
        clear hg
        go_wp2_with (go_at_call 18; refine (hx.out _).mono ?_; rintro e w' ⟨rfl, rfl⟩)
        go_round
        case rel => exact ⟨k + 1, _, by go_num, rfl, HT.out.next hlt HE.out HG.out⟩
        case measure => simp [intOf]; omega
    · have hk := ht.1
      have hke : k = l.length := by omega
      rw [hke] at ht
      by_cases h64 : 64 < l.length
      · have HB := Lib.hid (totB_long h64)
        clear ht hke
        go_wp2_with fail
        go_ret2
        exact ⟨ret_ib (totV_no HB.out).symm HB.out.symm, rfl⟩
      · have h64' : l.length ≤ 64 := by omega
        have HD := Lib.hid (ht.done h64')
        clear ht hke
        go_wp2_with fail
        go_ret2
        exact ⟨ret_ib HD.out.2.symm HD.out.1.symm, rfl⟩
end Go.Proofs.Ytaeondpeaabfeaa
