/- The contract of the reference's Fits. -/
import Derived.Test.YtaeondpeaabfeaaRf
namespace Go.Proofs.Ytaeondpeaabfeaa
open Go.RowKit

theorem V_low {f : Nat → Int} (hf : ∀ j, 0 ≤ f j ∧ f j < 65536) (m : Nat) : ∀ k, ∃ t, 0 ≤ t ∧ V f (m + k) = V f m + t * 65536 ^ m
  | 0 => ⟨0, by omega, by simp⟩
  | k + 1 => by
    obtain ⟨t, h1, h2⟩ := V_low hf m k
    refine ⟨t + f (m + k) * 65536 ^ k, ?_, ?_⟩
    · have := Int.mul_nonneg (hf (m + k)).1 (Int.le_of_lt (pow_pos' k)); omega
    · rw [← Nat.add_assoc]
      simp only [V]
      rw [h2, Int.add_mul, Int.pow_add, Int.mul_assoc, Int.mul_comm (65536 ^ k)]
      omega
theorem val_four {l : List Int} (hd : Dig l) (h : val l < 65536 ^ 4) : V (dg l) 4 = val l := by
  by_cases hl : l.length ≤ 4
  · exact V_ge hl
  · obtain ⟨t, h1, h2⟩ := V_low hd.at 4 (l.length - 4)
    rw [show 4 + (l.length - 4) = l.length by omega] at h2
    have h3 := V_bound hd.at 4
    have h4 : V (dg l) l.length = val l := rfl
    have : t = 0 := by omega
    subst this
    omega

theorem cmpV_nonpos {x y : Int} (h : x ≤ y) : cmpV x y ≤ 0 := by
  unfold cmpV; split
  · decide
  · rw [if_neg (by omega)]; decide
/-- What Fits has read: the digits from k on are W. -/
structure FSt (l : List Int) (k : Nat) (W : Int) : Prop where
  k4 : k ≤ 4
  w0 : 0 ≤ W
  sum : val l = V (dg l) k + W * 65536 ^ k
  top : W * 65536 ^ k ≤ val l
theorem FSt.start {l : List Int} (hd : Dig l) (h : val l < 65536 ^ 4) : FSt l 4 0 := ⟨by omega, by omega, by rw [val_four hd h]; omega, by have := (val_bound hd).1; omega⟩
theorem FSt.next {l : List Int} {k : Nat} {W : Int} (hd : Dig l) (h : FSt l (k + 1) W) : FSt l k (W * 65536 + dg l k) ∧ W * 65536 + dg l k ≤ val l ∧ 0 ≤ dg l k ∧ 0 ≤ W * 65536 := by
  have h1 := hd.at k
  have h2 := h.w0
  have hs := h.sum
  have hv := (V_bound hd.at k).1
  have hp := pow_pos' k
  have e : (W * 65536 + dg l k) * 65536 ^ k = W * (65536 ^ k * 65536) + dg l k * 65536 ^ k := by
    rw [Int.add_mul, Int.mul_assoc, Int.mul_comm (65536 : Int)]
  have hs2 : val l = V (dg l) k + (W * 65536 + dg l k) * 65536 ^ k := by
    simp only [V, Int.pow_succ] at hs
    rw [e]; omega
  have hm : (W * 65536 + dg l k) * 1 ≤ (W * 65536 + dg l k) * 65536 ^ k := Int.mul_le_mul_of_nonneg_left (by omega) (by omega)
  have := h.k4
  exact ⟨⟨by omega, by omega, hs2, by omega⟩, by omega, h1.1, by omega⟩
theorem FSt.done {l : List Int} {W : Int} (h : FSt l 0 W) : W = val l := by
  have := h.sum; simp [V] at this; omega

set_option maxHeartbeats 2000000 in
theorem fits_ref (v : Value) (neg : Bool) (l : List Int) (w : World) (hb : BigV w v neg l) (h1 : l.length ≤ 38) :
    Calls Try.prog 35 #[v] w (Ret w (.tuple #[.int .i64 (fitV (sval neg l)), .bool (fitB (sval neg l))])) := by
  obtain ⟨A, c, rfl, hr, hd⟩ := hb
  have hbig : BigV w (.agg #[.bool neg, .slice A l.length c]) neg l := ⟨A, c, rfl, hr, hd⟩
  have HR := Lib.hid hr
  have HD := Lib.hid hd
  clear hr hd
  go_enter Try.func35, Try.ntmps35
  go_wp2_with fail
  refine (of_c _ _ (by omega) (by omega)).mono ?_
  rintro e x1 ⟨v1, n1, r1, rfl, b1, s1, m1, c1⟩
  have S1 := Lib.hid s1
  clear s1
  go_wp2_with fail
  refine (of_c _ _ (by omega) (by omega)).mono ?_
  rintro e x2 ⟨v2, n2, r2, rfl, b2, s2, m2, c2⟩
  have S2 := Lib.hid s2
  clear s2
  obtain ⟨A1, k1, rfl⟩ := b1.agg
  obtain ⟨A2, k2, rfl⟩ := b2.agg
  have d0 : Below w.heap.size w (w.alloc (.cells #[.bool neg, .slice A l.length c] 53)) := (Below.refl w.heap.size w).alloc (Nat.le_refl _) _
  have d1 := d0.trans (c1.mono d0.size)
  have d2 := d1.trans (c2.mono d1.size)
  go_upto_region 2 with fail
  have e3 : Below x2.heap.size x2 ((x2.alloc (.cells #[.bool n1, .slice A1 r1.length k1] 53)).alloc (.cells #[.bool n2, .slice A2 r2.length k2] 53)) := ((Below.refl _ _).alloc (Nat.le_refl _) _).alloc (by simp) _
  have q0 : (w.alloc (.cells #[.bool neg, .slice A l.length c] 53)).cell? ⟨w.heap.size, 0, none⟩ = some (.bool neg) ∧ (w.alloc (.cells #[.bool neg, .slice A l.length c] 53)).cell? ⟨w.heap.size, 1, none⟩ = some (.slice A l.length c) := by simp [go_sem]
  have q1 := two_next (two_next (two_next q0 c1) c2) e3
  have q2 : ((x2.alloc (.cells #[.bool n1, .slice A1 r1.length k1] 53)).alloc (.cells #[.bool n2, .slice A2 r2.length k2] 53)).cell? ⟨x2.heap.size, 0, none⟩ = some (.bool n1) ∧ ((x2.alloc (.cells #[.bool n1, .slice A1 r1.length k1] 53)).alloc (.cells #[.bool n2, .slice A2 r2.length k2] 53)).cell? ⟨x2.heap.size, 1, none⟩ = some (.slice A1 r1.length k1) := by simp [go_sem]
  have q3 : ((x2.alloc (.cells #[.bool n1, .slice A1 r1.length k1] 53)).alloc (.cells #[.bool n2, .slice A2 r2.length k2] 53)).cell? ⟨x2.heap.size + 1, 0, none⟩ = some (.bool n2) ∧ ((x2.alloc (.cells #[.bool n1, .slice A1 r1.length k1] 53)).alloc (.cells #[.bool n2, .slice A2 r2.length k2] 53)).cell? ⟨x2.heap.size + 1, 1, none⟩ = some (.slice A2 r2.length k2) := by simp [go_sem]
  have d3 := d2.trans (e3.mono d2.size)
  have g0 := hbig.below d3
  have g1 := (b1.below c2).below e3
  have g2 := b2.below e3
  clear c1 c2 e3 d0 d1 d2 b1 b2 q0 hbig
  generalize ((x2.alloc (.cells #[.bool n1, .slice A1 r1.length k1] 53)).alloc (.cells #[.bool n2, .slice A2 r2.length k2] 53)) = W3 at *
  generalize x2.heap.size = B at *
  have HC1 := Lib.hid (cmp_ref _ _ _ _ _ _ _ g0 g1 h1 (by omega))
  rw [S1.out] at HC1
  obtain ⟨p1, p2⟩ := q1
  obtain ⟨p3, p4⟩ := q2
  obtain ⟨p5, p6⟩ := q3
  by_cases hlow : sval neg l < -9223372036854775808
  · rw [cmpV_lt hlow] at HC1
    go_wp2_with (go_at_call 42; refine HC1.out.mono ?_; rintro e x4 ⟨rfl, c4⟩)
    go_ret2
    exact ⟨ret_out (.inl hlow), d3.trans (c4.mono d3.size)⟩
  · have hc0 : 0 ≤ cmpV (sval neg l) (-9223372036854775808) := cmpV_nonneg (by omega)
    go_wp2_with fail
    refine HC1.out.mono ?_
    rintro e x4 ⟨rfl, c4⟩
    have g0' := g0.below c4
    have g2' := g2.below c4
    obtain ⟨q5, q6⟩ := two_next ⟨p1, p2⟩ c4
    obtain ⟨q7, q8⟩ := two_next ⟨p5, p6⟩ c4
    have d4 := d3.trans (c4.mono d3.size)
    have HC2 := Lib.hid (cmp_ref _ _ _ _ _ _ _ g0' g2' h1 (by omega))
    rw [S2.out] at HC2
    clear p1 p2 p3 p4 p5 p6 g0 g1 g2 HC1 c4
    by_cases hhigh : 9223372036854775807 < sval neg l
    · rw [cmpV_gt hhigh] at HC2
      go_wp2_with (go_at_call 42; refine HC2.out.mono ?_; rintro e x5 ⟨rfl, c5⟩)
      go_ret2
      exact ⟨ret_out (.inr hhigh), d4.trans (c5.mono d4.size)⟩
    · have hc1 : cmpV (sval neg l) 9223372036854775807 ≤ 0 := cmpV_nonpos (by omega)
      go_wp2_with fail
      refine HC2.out.mono ?_
      rintro e x5 ⟨rfl, c5⟩
      obtain ⟨y1, y2⟩ := two_next ⟨q5, q6⟩ c5
      have d5 := d4.trans (c5.mono d4.size)
      clear q5 q6 q7 q8 g0' g2' HC2 c5 d4 d3 S1 S2
      have hvl := (val_bound HD.out).1
      cases neg
      · rw [sval_pos] at hlow hhigh hc0 hc1 ⊢
        have hst := FSt.start HD.out (show val l < 65536 ^ 4 by omega)
        go_wp2_with fail
        go_loop [6, 7] (fun s t => ∃ (k : Nat) (W : Int), s = .int .i64 (W) ∧ t = .int .i64 ((k : Int) - 1) ∧ FSt l k W) (fun _ t => (intOf t + 1).toNat)
        case atStart => exact ⟨4, 0, rfl, rfl, hst⟩
        case round =>
          clear hst
          obtain ⟨k, W, rfl, rfl, hst⟩ := hrel
          rcases k with _ | m
          · have hw := Lib.hid hst.done
            clear hst
            go_wp2_with fail
            go_ret2
            exact ⟨ret_in (by rw [sval_pos]; omega) (by rw [sval_pos]; omega) (by rw [hw.out, sval_pos]), d5⟩
          · obtain ⟨hn, hle, hd0, hw0⟩ := hst.next HD.out
            have hk4 := hst.k4
            have HN := Lib.hid hn
            clear hst hn
            go_wp2_with (go_at_call 43; refine (at_c A c w.heap.size l _ m _ (by omega) (HR.out.below d5)).mono ?_; rintro e w' ⟨rfl, rfl⟩)
            go_round
            case rel => exact ⟨m, W * 65536 + dg l m, by go_num, by go_num, HN.out⟩
            case measure => simp [intOf]
      · rw [sval_neg] at hlow hhigh hc0 hc1 ⊢
        have hst := FSt.start HD.out (show val l < 65536 ^ 4 by omega)
        go_wp2_with fail
        go_loop [6, 7] (fun s t => ∃ (k : Nat) (W : Int), s = .int .i64 (-W) ∧ t = .int .i64 ((k : Int) - 1) ∧ FSt l k W) (fun _ t => (intOf t + 1).toNat)
        case atStart => exact ⟨4, 0, rfl, rfl, hst⟩
        case round =>
          clear hst
          obtain ⟨k, W, rfl, rfl, hst⟩ := hrel
          rcases k with _ | m
          · have hw := Lib.hid hst.done
            clear hst
            go_wp2_with fail
            go_ret2
            exact ⟨ret_in (by rw [sval_neg]; omega) (by rw [sval_neg]; omega) (by rw [hw.out, sval_neg]), d5⟩
          · obtain ⟨hn, hle, hd0, hw0⟩ := hst.next HD.out
            have hk4 := hst.k4
            have HN := Lib.hid hn
            clear hst hn
            go_wp2_with (go_at_call 43; refine (at_c A c w.heap.size l _ m _ (by omega) (HR.out.below d5)).mono ?_; rintro e w' ⟨rfl, rfl⟩)
            go_round
            case rel => exact ⟨m, W * 65536 + dg l m, by go_num, by go_num, HN.out⟩
            case measure => simp [intOf]
end Go.Proofs.Ytaeondpeaabfeaa
