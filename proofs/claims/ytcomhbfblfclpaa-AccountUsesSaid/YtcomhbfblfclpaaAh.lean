/- The reference's Tick. -/
import Derived.Test.YtcomhbfblfclpaaAg
namespace Go.Proofs.Ytcomhbfblfclpaa
open Go.RowKit

theorem tickV_same {q p l f n : Int} (h : limB q p l f = false ∨ n < 1) : tickV q p l f n = .tuple #[.agg #[.int .i64 q, .int .i64 p, .int .i64 l, .int .i64 f], .bool false] := by
  have hL := @limB_true q p l f
  cases hl : limB q p l f with
  | false => simp [tickV, tickL, tickF, tickB, hl]
  | true =>
    rw [hl] at hL h
    obtain ⟨a1, a2, a3, a4, a5, a6, a7, a8⟩ := hL.1 rfl
    have hn : n < 1 := by rcases h with h | h; cases h; exact h
    have ht : tickN n = 0 := by unfold tickN; split <;> omega
    have hb : tickB q p l f n = false := by
      unfold tickB
      rw [ht, hl]
      simp
      omega
    have hf : tickF q p l f n = f := by
      unfold tickF
      rw [ht, hl, Int.zero_emod, Int.add_zero]
      exact Int.emod_eq_of_lt a7 (by omega)
    simp [tickV, tickL, hb, hf]
theorem tickV_move {q p l f n : Int} (h : limB q p l f = true) (h1 : 1 ≤ n) : tickV q p l f n = .tuple #[.agg #[.int .i64 q, .int .i64 p, .int .i64 (if p - f ≤ n then q else l), .int .i64 ((f + n % p) % p)], .bool (decide (p - f ≤ n))] := by
  have ht : tickN n = n := by unfold tickN; split <;> omega
  simp [tickV, tickL, tickF, tickB, h, ht]
/-- The reference's own test whether a period has ended. -/
theorem ended_iff {p f n : Int} (hp : 1 ≤ p) (hf : 0 ≤ f) (hn : 1 ≤ n) : p - f ≤ n ↔ (0 < n / p ∨ p ≤ f + n % p) := by
  have e := Int.mul_ediv_add_emod n p
  have r0 := Int.emod_nonneg n (show p ≠ 0 by omega)
  have r1 := Int.emod_lt_of_pos n (show 0 < p by omega)
  have d0 : 0 ≤ n / p := Int.ediv_nonneg (by omega) (by omega)
  generalize n / p = k at *
  generalize n % p = r at *
  rcases Int.lt_or_le 0 k with hk | hk
  · have : p * 1 ≤ p * k := Int.mul_le_mul_of_nonneg_left (by omega) (by omega)
    rw [Int.mul_one] at this
    constructor
    · exact fun _ => .inl hk
    · intro _; omega
  · have : k = 0 := by omega
    subst this
    rw [Int.mul_zero] at e
    constructor
    · intro h; right; omega
    · intro h; omega

set_option maxRecDepth 100000 in
set_option maxHeartbeats 2000000 in
theorem rtick_c (q p l f n : Int) (hn9 : n ≤ 9223372036854775807) (w : World) :
    Calls Try.prog 17 #[.agg #[.int .i64 q, .int .i64 p, .int .i64 l, .int .i64 f], .int .i64 n] w (Ret8 (tickV q p l f n) w) := by
  have K1 := Lib.hid (fun w => rgood_c q p l f w)
  have hL := @limB_true q p l f
  have h4 := @good_zero q p l f
  have h5 := @good_not q p l f
  have HS := Lib.hid (@tickV_same q p l f n)
  have HM := Lib.hid (@tickV_move q p l f n)
  generalize tickV q p l f n = v at *
  generalize goodA q p l f = b1 at *
  generalize limB q p l f = b3 at *
  cases b1
  · have HZ := Lib.hid (HS.out (.inl (h5 rfl)))
    clear hL h4 h5 HM HS
    go_enter Try.func17, Try.ntmps17
    go_wp2_with fail
    refine (K1.out _).mono ?_
    rintro e w1 ⟨rfl, hb⟩
    obtain ⟨ha, ha2, hb, hs⟩ := AcAt.call2 hb
    obtain ⟨c0, c1, c2, c3, e0, e1, e2, e3⟩ := ha.cells
    obtain ⟨d0, d1, d2, d3, d4, d5, d6, d7⟩ := ha2.cells
    have HA2 := Lib.hid ha2
    have HB := Lib.hid hb
    clear ha ha2 hb
    go_wp2_with fail
    refine bodyPost_ret (res_ac rfl _ (w.heap.size + 1) q p l f _ _ rfl rfl (HA2.out.setAll q p l f) Try.underlying33 rfl (by kernel_rfl)) rfl ?_
    refine ⟨?_, Below.setAll HB.out (by omega) _ _ _ _⟩
    exact HZ.out.symm ▸ rfl
  · cases b3
    · have HZ := Lib.hid (HS.out (.inl rfl))
      obtain ⟨rfl, rfl, rfl, rfl⟩ := h4 rfl rfl
      clear hL h4 h5 HM HS
      by_cases hn : n < 1
      · have hn0 := hn
        go_enter Try.func17, Try.ntmps17
        go_wp2_with fail
        refine (K1.out _).mono ?_
        rintro e w1 ⟨rfl, hb⟩
        obtain ⟨ha, ha2, hb, hs⟩ := AcAt.call2 hb
        obtain ⟨c0, c1, c2, c3, e0, e1, e2, e3⟩ := ha.cells
        obtain ⟨d0, d1, d2, d3, d4, d5, d6, d7⟩ := ha2.cells
        have HA2 := Lib.hid ha2
        have HB := Lib.hid hb
        clear ha ha2 hb
        go_wp2_with fail
        refine bodyPost_ret (res_ac rfl _ (w.heap.size + 1) 0 0 0 0 _ _ rfl rfl (HA2.out.setAll 0 0 0 0) Try.underlying33 rfl (by kernel_rfl)) rfl ?_
        refine ⟨?_, Below.setAll HB.out (by omega) _ _ _ _⟩
        exact HZ.out.symm ▸ rfl
      · have hn0 := hn
        go_enter Try.func17, Try.ntmps17
        go_wp2_with fail
        refine (K1.out _).mono ?_
        rintro e w1 ⟨rfl, hb⟩
        obtain ⟨ha, ha2, hb, hs⟩ := AcAt.call2 hb
        obtain ⟨c0, c1, c2, c3, e0, e1, e2, e3⟩ := ha.cells
        obtain ⟨d0, d1, d2, d3, d4, d5, d6, d7⟩ := ha2.cells
        have HA2 := Lib.hid ha2
        have HB := Lib.hid hb
        clear ha ha2 hb
        go_wp2_with fail
        refine bodyPost_ret (res_ac rfl _ (w.heap.size + 1) 0 0 0 0 _ _ rfl rfl (HA2.out.setAll 0 0 0 0) Try.underlying33 rfl (by kernel_rfl)) rfl ?_
        refine ⟨?_, Below.setAll HB.out (by omega) _ _ _ _⟩
        exact HZ.out.symm ▸ rfl
    · by_cases hn : n < 1
      · have HZ := Lib.hid (HS.out (.inr hn))
        clear hL h4 h5 HM HS
        go_enter Try.func17, Try.ntmps17
        go_wp2_with fail
        refine (K1.out _).mono ?_
        rintro e w1 ⟨rfl, hb⟩
        obtain ⟨ha, ha2, hb, hs⟩ := AcAt.call2 hb
        obtain ⟨c0, c1, c2, c3, e0, e1, e2, e3⟩ := ha.cells
        obtain ⟨d0, d1, d2, d3, d4, d5, d6, d7⟩ := ha2.cells
        have HA2 := Lib.hid ha2
        have HB := Lib.hid hb
        clear ha ha2 hb
        go_wp2_with fail
        refine bodyPost_ret (res_ac rfl _ (w.heap.size + 1) q p l f _ _ rfl rfl (HA2.out.setAll q p l f) Try.underlying33 rfl (by kernel_rfl)) rfl ?_
        refine ⟨?_, Below.setAll HB.out (by omega) _ _ _ _⟩
        exact HZ.out.symm ▸ rfl
      · obtain ⟨a1, a2, a3, a4, a5, a6, a7, a8⟩ := hL.1 rfl
        have HY := Lib.hid (HM.out rfl (by omega))
        have hqz : (q == 0) = false := beq_eq_false_iff_ne.2 (by omega)
        have hpz : (p == 0) = false := beq_eq_false_iff_ne.2 (by omega)
        have hI := ended_iff a3 a7 (show 1 ≤ n by omega)
        have m0 : n.tdiv p = n / p := Int.tdiv_eq_ediv_of_nonneg (by omega)
        have m1 : n.tmod p = n % p := Int.tmod_eq_emod_of_nonneg (by omega)
        have r0 := Int.emod_nonneg n (show p ≠ 0 by omega)
        have r1 := Int.emod_lt_of_pos n (show 0 < p by omega)
        have d0 : 0 ≤ n / p := Int.ediv_nonneg (by omega) (by omega)
        have k9 : n / p ≤ 9223372036854775807 := Int.le_trans (Int.ediv_le_self p (by omega)) hn9
        clear hL h4 h5 HS HM
        generalize n / p = k at *
        generalize n % p = r at *
        have m2 : (f + r).tmod p = (f + r) % p := Int.tmod_eq_emod_of_nonneg (by omega)
        have s0 := Int.emod_nonneg (f + r) (show p ≠ 0 by omega)
        have s1 := Int.emod_lt_of_pos (f + r) (show 0 < p by omega)
        generalize (f + r) % p = g at *
        by_cases hk : 0 < k
        · have hy : p - f ≤ n := hI.2 (.inl hk)
          rw [if_pos hy, decide_eq_true hy] at HY
          clear hI hy
          go_enter Try.func17, Try.ntmps17
          go_wp2_with fail
          refine (K1.out _).mono ?_
          rintro e w1 ⟨rfl, hb⟩
          obtain ⟨ha, ha2, hb, hs⟩ := AcAt.call2 hb
          obtain ⟨c0, c1, c2, c3, e0, e1, e2, e3⟩ := ha.cells
          obtain ⟨d0, d1, d2, d3, d4, d5, d6, d7⟩ := ha2.cells
          have ha2 := ha2.other (a := ⟨w.heap.size, 3, none⟩) (by simp) (.int .i64 g)
          have hb := hb.setCell (p := ⟨w.heap.size, 3, none⟩) (Nat.le_refl _) (.int .i64 g)
          have ha2 := ha2.other (a := ⟨w.heap.size, 2, none⟩) (by simp) (.int .i64 q)
          have hb := hb.setCell (p := ⟨w.heap.size, 2, none⟩) (Nat.le_refl _) (.int .i64 q)
          have HA2 := Lib.hid ha2
          have HB := Lib.hid hb
          clear ha ha2 hb
          go_wp2_with fail
          refine bodyPost_ret (res_ac rfl _ (w.heap.size + 1) q p q g _ _ rfl rfl (HA2.out.setAll q p q g) Try.underlying33 rfl (by kernel_rfl)) rfl ?_
          refine ⟨?_, (Below.setAll HB.out (by omega) _ _ _ _)⟩
          rw [HY.out]
          simp
        · by_cases hg : p ≤ f + r
          · have hy : p - f ≤ n := hI.2 (.inr hg)
            rw [if_pos hy, decide_eq_true hy] at HY
            clear hI hy
            go_enter Try.func17, Try.ntmps17
            go_wp2_with fail
            refine (K1.out _).mono ?_
            rintro e w1 ⟨rfl, hb⟩
            obtain ⟨ha, ha2, hb, hs⟩ := AcAt.call2 hb
            obtain ⟨c0, c1, c2, c3, e0, e1, e2, e3⟩ := ha.cells
            obtain ⟨d0, d1, d2, d3, d4, d5, d6, d7⟩ := ha2.cells
            have ha2 := ha2.other (a := ⟨w.heap.size, 3, none⟩) (by simp) (.int .i64 g)
            have hb := hb.setCell (p := ⟨w.heap.size, 3, none⟩) (Nat.le_refl _) (.int .i64 g)
            have ha2 := ha2.other (a := ⟨w.heap.size, 2, none⟩) (by simp) (.int .i64 q)
            have hb := hb.setCell (p := ⟨w.heap.size, 2, none⟩) (Nat.le_refl _) (.int .i64 q)
            have HA2 := Lib.hid ha2
            have HB := Lib.hid hb
            clear ha ha2 hb
            go_wp2_with fail
            refine bodyPost_ret (res_ac rfl _ (w.heap.size + 1) q p q g _ _ rfl rfl (HA2.out.setAll q p q g) Try.underlying33 rfl (by kernel_rfl)) rfl ?_
            refine ⟨?_, (Below.setAll HB.out (by omega) _ _ _ _)⟩
            rw [HY.out]
            simp
          · have hy : ¬ (p - f ≤ n) := fun h => by have := hI.1 h; omega
            rw [if_neg hy, decide_eq_false hy] at HY
            clear hI hy
            have HK := Lib.hid hk
            have HG := Lib.hid hg
            go_enter Try.func17, Try.ntmps17
            go_wp2_with fail
            refine (K1.out _).mono ?_
            rintro e w1 ⟨rfl, hb⟩
            obtain ⟨ha, ha2, hb, hs⟩ := AcAt.call2 hb
            obtain ⟨c0, c1, c2, c3, e0, e1, e2, e3⟩ := ha.cells
            obtain ⟨d0, d1, d2, d3, d4, d5, d6, d7⟩ := ha2.cells
            have ha2 := ha2.other (a := ⟨w.heap.size, 3, none⟩) (by simp) (.int .i64 g)
            have hb := hb.setCell (p := ⟨w.heap.size, 3, none⟩) (Nat.le_refl _) (.int .i64 g)
            have HA2 := Lib.hid ha2
            have HB := Lib.hid hb
            clear ha ha2 hb
            go_wp2_with fail
            refine bodyPost_ret (res_ac rfl _ (w.heap.size + 1) q p l g _ _ rfl rfl (HA2.out.setAll q p l g) Try.underlying33 rfl (by kernel_rfl)) rfl ?_
            refine ⟨?_, (Below.setAll HB.out (by omega) _ _ _ _)⟩
            rw [HY.out]
            have h1 := HK.out
            have h2 := HG.out
            simp [h1, h2]
end Go.Proofs.Ytcomhbfblfclpaa
