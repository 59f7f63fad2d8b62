/- Quotas: Tick. -/
import Derived.Test.YtcomhbfblfclpaaAc
import Derived.BigRegion
import Derived.StillTailTactics
import Derived.Deep.RegionHeld3
namespace Go.Proofs.Ytcomhbfblfclpaa
open Go.RowKit

def tickN (n : Int) : Int := if 0 ≤ n then n else 0
theorem tickN_pos {n : Int} : 0 ≤ tickN n := by unfold tickN; split <;> omega
def tickB (q p l f n : Int) : Bool := limB q p l f && decide (p - f ≤ tickN n)
def tickL (q p l f n : Int) : Int := if tickB q p l f n then q else l
def tickF (q p l f n : Int) : Int := if limB q p l f then (f + tickN n % p) % p else f
def tickV (q p l f n : Int) : Value := .tuple #[.agg #[.int .i64 q, .int .i64 p, .int .i64 (tickL q p l f n), .int .i64 (tickF q p l f n)], .bool (tickB q p l f n)]

set_option maxRecDepth 100000 in
set_option maxHeartbeats 2000000 in
theorem tick_c (q p l f n : Int) (w : World) :
    Calls Try.prog 10 #[.agg #[.int .i64 q, .int .i64 p, .int .i64 l, .int .i64 f], .int .i64 n] w (Ret8 (tickV q p l f n) w) := by
  have K1 := Lib.hid (fun w => limited_c q p l f w)
  have K2 := Lib.hid (fun w => next_c q p l f w)
  have hL := @limB_true q p l f
  obtain ⟨v, hv⟩ : ∃ v, tickV q p l f n = v := ⟨_, rfl⟩
  rw [hv]
  unfold tickV tickL tickF tickB at hv
  have hnx : nextV q p l f = if limB q p l f = true then p - f else 0 := rfl
  generalize nextV q p l f = nx at *
  generalize limB q p l f = b1 at *
  have HV := Lib.hid hv
  clear hv
  cases b1
  · clear hL K2 hnx
    go_enter Try.func10, Try.ntmps10
    go_wp2_with fail
    refine (K1.out _).mono ?_
    rintro e w1 ⟨rfl, hb⟩
    obtain ⟨ha, ha2, hb, hs⟩ := AcAt.call2 hb
    obtain ⟨c0, c1, c2, c3, -⟩ := ha.cells
    obtain ⟨d0, d1, d2, d3, d4, d5, d6, d7⟩ := ha2.cells
    have HA := Lib.hid ha2
    have HB := Lib.hid hb
    clear hb ha ha2
    go_wp2_with fail
    refine bodyPost_ret (res_ac rfl _ (w.heap.size + 1) q p l f _ _ rfl rfl (HA.out.setAll _ _ _ _) Try.underlying24 rfl (by kernel_rfl)) rfl ?_
    refine ⟨?_, Below.setAll HB.out (by omega) _ _ _ _⟩
    rw [← HV.out]
    rfl
  · obtain rfl : nx = p - f := by simpa using hnx
    obtain ⟨a1, a2, a3, a4, a5, a6, a7, a8⟩ := hL.1 rfl
    have hpz : (p == 0) = false := beq_eq_false_iff_ne.2 (by omega)
    clear hL hnx
    by_cases hn : n < 0
    · have ht : tickN n = 0 := by unfold tickN; rw [if_neg (by omega)]
      rw [ht] at HV
      clear ht
      have m1 : (0 : Int).tmod p = 0 := Int.zero_tmod _
      have m2 : f.tmod p = f := by rw [Int.tmod_eq_emod_of_nonneg a7]; exact Int.emod_eq_of_lt a7 (by omega)
      go_enter Try.func10, Try.ntmps10
      go_wp2_with fail
      refine (K1.out _).mono ?_
      rintro e w1 ⟨rfl, hb⟩
      obtain ⟨ha, ha2, hb, hs⟩ := AcAt.call2 hb
      obtain ⟨c0, c1, c2, c3, -⟩ := ha.cells
      have HA := Lib.hid ha
      have HA2 := Lib.hid ha2
      have HB := Lib.hid hb
      clear hb ha ha2
      go_wp2_with fail
      refine (K2.out _).mono ?_
      rintro e w2 ⟨rfl, hb⟩
      have hs2 := hb.size
      have ha := HA.out.below hb HA.out.lt
      have ha2 := HA2.out.below hb HA2.out.lt
      have hb2 := HB.out.trans (hb.mono (by omega))
      clear hb HA HA2 HB c0 c1 c2 c3
      obtain ⟨c0, c1, c2, c3, e0, e1, e2, e3⟩ := ha.cells
      obtain ⟨d0, d1, d2, d3, d4, d5, d6, d7⟩ := ha2.cells
      have ha2' := ha2
      have hb2' := hb2
      have HA2 := Lib.hid (ha2'.other (a := ⟨w.heap.size, 3, none⟩) (by simp) (.int .i64 f))
      have HB := Lib.hid (hb2'.setCell (p := ⟨w.heap.size, 3, none⟩) (Nat.le_refl _) (.int .i64 f))
      clear ha ha2 hb2 ha2' hb2'
      go_wp2_with fail
      go_region
      all_goals go_wp2_with fail
      refine bodyPost_ret (res_ac rfl _ (w.heap.size + 1) q p l f _ _ rfl rfl (HA2.out.setAll q p l f).drew Try.underlying24 rfl (by kernel_rfl)) rfl ?_
      refine ⟨?_, (Below.setAll HB.out (by omega) _ _ _ _).drew⟩
      rw [← HV.out]
      have h9 : ¬ (p - f ≤ 0) := by omega
      have h8 : (f + 0 % p) % p = f := by rw [Int.zero_emod, Int.add_zero]; exact Int.emod_eq_of_lt a7 (by omega)
      simp only [h8]
      simp [h9]
    · have ht : tickN n = n := by unfold tickN; rw [if_pos (by omega)]
      rw [ht] at HV
      clear ht
      have m1 : n.tmod p = n % p := Int.tmod_eq_emod_of_nonneg (by omega)
      have r0 := Int.emod_nonneg n (show p ≠ 0 by omega)
      have r1 := Int.emod_lt_of_pos n (show 0 < p by omega)
      generalize n % p = r at *
      have m2 : (f + r).tmod p = (f + r) % p := Int.tmod_eq_emod_of_nonneg (by omega)
      have s0 := Int.emod_nonneg (f + r) (show p ≠ 0 by omega)
      have s1 := Int.emod_lt_of_pos (f + r) (show 0 < p by omega)
      generalize (f + r) % p = g at *
      by_cases he : p - f ≤ n
      · have HE := Lib.hid he
        go_enter Try.func10, Try.ntmps10
        go_wp2_with fail
        refine (K1.out _).mono ?_
        rintro e w1 ⟨rfl, hb⟩
        obtain ⟨ha, ha2, hb, hs⟩ := AcAt.call2 hb
        obtain ⟨c0, c1, c2, c3, -⟩ := ha.cells
        have HA := Lib.hid ha
        have HA2 := Lib.hid ha2
        have HB := Lib.hid hb
        clear hb ha ha2
        go_wp2_with fail
        refine (K2.out _).mono ?_
        rintro e w2 ⟨rfl, hb⟩
        have hs2 := hb.size
        have ha := HA.out.below hb HA.out.lt
        have ha2 := HA2.out.below hb HA2.out.lt
        have hb2 := HB.out.trans (hb.mono (by omega))
        clear hb HA HA2 HB c0 c1 c2 c3
        obtain ⟨c0, c1, c2, c3, e0, e1, e2, e3⟩ := ha.cells
        obtain ⟨d0, d1, d2, d3, d4, d5, d6, d7⟩ := ha2.cells
        have ha2' := ha2.other (a := ⟨w.heap.size, 2, none⟩) (by simp) (.int .i64 q)
        have hb2' := hb2.setCell (p := ⟨w.heap.size, 2, none⟩) (Nat.le_refl _) (.int .i64 q)
        have HA2 := Lib.hid (ha2'.other (a := ⟨w.heap.size, 3, none⟩) (by simp) (.int .i64 g))
        have HB := Lib.hid (hb2'.setCell (p := ⟨w.heap.size, 3, none⟩) (Nat.le_refl _) (.int .i64 g))
        clear ha ha2 hb2 ha2' hb2'
        go_wp2_with fail
        go_region
        all_goals go_wp2_with fail
        refine bodyPost_ret (res_ac rfl _ (w.heap.size + 1) q p q g _ _ rfl rfl (HA2.out.setAll q p q g).drew Try.underlying24 rfl (by kernel_rfl)) rfl ?_
        refine ⟨?_, (Below.setAll HB.out (by omega) _ _ _ _).drew⟩
        rw [← HV.out]
        simp [HE.out]
      · have HE := Lib.hid he
        go_enter Try.func10, Try.ntmps10
        go_wp2_with fail
        refine (K1.out _).mono ?_
        rintro e w1 ⟨rfl, hb⟩
        obtain ⟨ha, ha2, hb, hs⟩ := AcAt.call2 hb
        obtain ⟨c0, c1, c2, c3, -⟩ := ha.cells
        have HA := Lib.hid ha
        have HA2 := Lib.hid ha2
        have HB := Lib.hid hb
        clear hb ha ha2
        go_wp2_with fail
        refine (K2.out _).mono ?_
        rintro e w2 ⟨rfl, hb⟩
        have hs2 := hb.size
        have ha := HA.out.below hb HA.out.lt
        have ha2 := HA2.out.below hb HA2.out.lt
        have hb2 := HB.out.trans (hb.mono (by omega))
        clear hb HA HA2 HB c0 c1 c2 c3
        obtain ⟨c0, c1, c2, c3, e0, e1, e2, e3⟩ := ha.cells
        obtain ⟨d0, d1, d2, d3, d4, d5, d6, d7⟩ := ha2.cells
        have ha2' := ha2
        have hb2' := hb2
        have HA2 := Lib.hid (ha2'.other (a := ⟨w.heap.size, 3, none⟩) (by simp) (.int .i64 g))
        have HB := Lib.hid (hb2'.setCell (p := ⟨w.heap.size, 3, none⟩) (Nat.le_refl _) (.int .i64 g))
        clear ha ha2 hb2 ha2' hb2'
        go_wp2_with fail
        go_region
        all_goals go_wp2_with fail
        refine bodyPost_ret (res_ac rfl _ (w.heap.size + 1) q p l g _ _ rfl rfl (HA2.out.setAll q p l g).drew Try.underlying24 rfl (by kernel_rfl)) rfl ?_
        refine ⟨?_, (Below.setAll HB.out (by omega) _ _ _ _).drew⟩
        rw [← HV.out]
        have h9 : ¬ (p - f ≤ n) := by have := HE.out; omega
        simp [h9]
end Go.Proofs.Ytcomhbfblfclpaa
