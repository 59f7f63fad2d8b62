/- The reference's Use, Tick. -/
import Derived.Test.YtcomhbfblfclpaaAf
namespace Go.Proofs.Ytcomhbfblfclpaa
open Go.RowKit

set_option maxRecDepth 100000 in
set_option maxHeartbeats 2000000 in
theorem ruse_c (q p l f : Int) (w : World) :
    Calls Try.prog 16 #[.agg #[.int .i64 q, .int .i64 p, .int .i64 l, .int .i64 f]] w (Ret8 (useV q p l f) w) := by
  have K1 := Lib.hid (fun w => rgood_c q p l f w)
  have K2 := Lib.hid (fun w => rspent_c q p l f w)
  have hL := @limB_true q p l f
  have h4 := @good_zero q p l f
  obtain ⟨v, hv⟩ : ∃ v, useV q p l f = v := ⟨_, rfl⟩
  rw [hv]
  unfold useV useE useL useOk at hv
  generalize goodA q p l f = b1 at *
  generalize limB q p l f = b3 at *
  have HV := Lib.hid hv
  clear hv
  cases b1
  · clear hL h4
    go_enter Try.func16, Try.ntmps16
    go_wp2_with fail
    refine (K1.out _).mono ?_
    rintro e w1 ⟨rfl, hb⟩
    obtain ⟨ha, ha2, hb, hs⟩ := AcAt.call2 hb
    obtain ⟨c0, c1, c2, c3, c4, c5, c6, c7⟩ := ha2.cells
    have HA := Lib.hid ha2
    have HB := Lib.hid hb
    clear hb ha ha2
    go_wp2_with fail
    refine bodyPost_ret (res_ac rfl _ (w.heap.size + 1) 0 0 0 0 _ _ rfl rfl (HA.out.setAll _ _ _ _) Try.underlying33 rfl (by kernel_rfl)) rfl ?_
    refine ⟨?_, Below.setAll HB.out (by omega) _ _ _ _⟩
    rw [← HV.out]
    rfl
  obtain ⟨b2, hb2⟩ : ∃ b2, (b3 && decide (l = 0)) = b2 := ⟨_, rfl⟩
  rw [hb2] at K2 HV
  cases b2
  · cases b3
    · obtain ⟨rfl, rfl, rfl, rfl⟩ := h4 rfl rfl
      clear hL hb2 h4
      go_enter Try.func16, Try.ntmps16
      go_wp2_with fail
      refine (K1.out _).mono ?_
      rintro e w1 ⟨rfl, hb⟩
      obtain ⟨ha, ha2, hb, hs⟩ := AcAt.call2 hb
      obtain ⟨c0, c1, c2, c3, -⟩ := ha.cells
      have HA := Lib.hid ha
      have HA2 := Lib.hid ha2
      have HB := Lib.hid hb
      clear hb ha ha2
      go_wp2_with fail
      refine (K2.out _).mono ?_
      rintro e w2 ⟨rfl, hb⟩
      have hs2 := hb.size
      have ha := HA.out.below hb HA.out.lt
      have ha2 := HA2.out.below hb HA2.out.lt
      have hb2 := HB.out.trans (hb.mono (by omega))
      clear hb HA HA2 HB c0 c1 c2 c3
      obtain ⟨c0, c1, c2, c3, -⟩ := ha.cells
      obtain ⟨d0, d1, d2, d3, d4, d5, d6, d7⟩ := ha2.cells
      have HA2 := Lib.hid ha2
      have HB := Lib.hid hb2
      clear ha ha2 hb2
      go_wp2_with fail
      refine bodyPost_ret (res_ac rfl _ (w.heap.size + 1) 0 0 0 0 _ _ rfl rfl (HA2.out.setAll _ _ _ _) Try.underlying33 rfl (by kernel_rfl)) rfl ?_
      refine ⟨?_, Below.setAll HB.out (by omega) _ _ _ _⟩
      rw [← HV.out]
      rfl
    · obtain ⟨a1, a2, a3, a4, a5, a6, a7, a8⟩ := hL.1 rfl
      have hl0 : 1 ≤ l := by simp at hb2; omega
      clear hL hb2 h4
      go_enter Try.func16, Try.ntmps16
      go_wp2_with fail
      refine (K1.out _).mono ?_
      rintro e w1 ⟨rfl, hb⟩
      obtain ⟨ha, ha2, hb, hs⟩ := AcAt.call2 hb
      obtain ⟨c0, c1, c2, c3, -⟩ := ha.cells
      have HA := Lib.hid ha
      have HA2 := Lib.hid ha2
      have HB := Lib.hid hb
      clear hb ha ha2
      go_wp2_with fail
      refine (K2.out _).mono ?_
      rintro e w2 ⟨rfl, hb⟩
      have hs2 := hb.size
      have ha := HA.out.below hb HA.out.lt
      have ha2 := HA2.out.below hb HA2.out.lt
      have hb2 := HB.out.trans (hb.mono (by omega))
      clear hb HA HA2 HB c0 c1 c2 c3
      obtain ⟨c0, c1, c2, c3, e0, e1, e2, e3⟩ := ha.cells
      obtain ⟨d0, d1, d2, d3, d4, d5, d6, d7⟩ := ha2.cells
      have HA2 := Lib.hid (ha2.other (a := ⟨w.heap.size, 2, none⟩) (by simp) (.int .i64 (l - 1)))
      have HB := Lib.hid (hb2.setCell (p := ⟨w.heap.size, 2, none⟩) (Nat.le_refl _) (.int .i64 (l - 1)))
      clear ha ha2 hb2
      go_wp2_with fail
      refine bodyPost_ret (res_ac rfl _ (w.heap.size + 1) q p (l - 1) f _ _ rfl rfl (HA2.out.setAll _ _ _ _) Try.underlying33 rfl (by kernel_rfl)) rfl ?_
      refine ⟨?_, Below.setAll HB.out (by omega) _ _ _ _⟩
      rw [← HV.out]
      rfl
  · clear hL hb2 h4
    go_enter Try.func16, Try.ntmps16
    go_wp2_with fail
    refine (K1.out _).mono ?_
    rintro e w1 ⟨rfl, hb⟩
    obtain ⟨ha, ha2, hb, hs⟩ := AcAt.call2 hb
    obtain ⟨c0, c1, c2, c3, -⟩ := ha.cells
    have HA2 := Lib.hid ha2
    have HB := Lib.hid hb
    clear hb ha ha2
    go_wp2_with fail
    refine (K2.out _).mono ?_
    rintro e w2 ⟨rfl, hb⟩
    have hs2 := hb.size
    have ha2 := HA2.out.below hb HA2.out.lt
    have hb2 := HB.out.trans (hb.mono (by omega))
    clear hb HA2 HB c0 c1 c2 c3
    obtain ⟨d0, d1, d2, d3, d4, d5, d6, d7⟩ := ha2.cells
    have HA2 := Lib.hid ha2
    have HB := Lib.hid hb2
    clear ha2 hb2
    go_wp2_with fail
    refine bodyPost_ret (res_ac rfl _ (w.heap.size + 1) 0 0 0 0 _ _ rfl rfl (HA2.out.setAll _ _ _ _) Try.underlying33 rfl (by kernel_rfl)) rfl ?_
    refine ⟨?_, Below.setAll HB.out (by omega) _ _ _ _⟩
    rw [← HV.out]
    rfl
end Go.Proofs.Ytcomhbfblfclpaa
