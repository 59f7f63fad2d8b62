/- The walk of the law WholeWide: it returns true. -/
import Derived.Test.YtkjomnmdepndpaaLHeld
import Derived.Test.YtkjomnmdepndpaaRf
import Derived.Test.YtkjomnmdepndpaaFloor
namespace Go.Proofs.Ytkjomnmdepndpaa
open Go.RowKit

set_option maxHeartbeats 4000000 in
set_option maxRecDepth 100000 in
theorem lwide_c (a b c : Int) (w : World) (ha : -9223372036854775808 ≤ a) (ha' : a ≤ 9223372036854775807) (hb : -9223372036854775808 ≤ b) (hb' : b ≤ 9223372036854775807)
    (hc : -9223372036854775808 ≤ c) (hc' : c ≤ 9223372036854775807) :
    Calls Try.prog 5 #[.int .i64 a, .int .i64 b, .int .i64 c] w (Ret w (.bool true)) := by
  have hm := mul_le_126 ha ha' hb hb'
  obtain ⟨hi, lo, he, i1, i2, l1, l2⟩ : ∃ hi lo : Int, hi * 18446744073709551616 + lo = a * b ∧ -9223372036854775808 ≤ hi ∧ hi ≤ 9223372036854775807 ∧ 0 ≤ lo ∧ lo < 18446744073709551616 :=
    ⟨a * b / 18446744073709551616, a * b % 18446744073709551616, by omega, by omega, by omega, by omega, by omega⟩
  have HW : Hid (∀ w, Calls Try.prog 16 #[.int .i64 a, .int .i64 b] w fun e w' => e = .returned (.tuple #[.int .i64 hi, .int .u64 lo]) ∧ w = w') := Lib.hid (fun w => by
    have h := wide_c a b w ha ha' hb hb'
    rw [show a * b / 18446744073709551616 = hi by omega, show a * b % 18446744073709551616 = lo by omega] at h
    exact h)
  have hmask : bits .and .u64 lo 4294967295 = lo % 4294967296 := by
    obtain ⟨n, rfl⟩ := Int.eq_ofNat_of_zero_le l1
    rw [maskN n (by omega)]; omega
  have HE := Lib.hid he
  clear he hm
  go_enter Try.func5, Try.ntmps5
  go_upto_region 5 with (first
    | (go_at_call 10; refine (awake_c _).mono ?_; rintro e w' ⟨rfl, n, rfl⟩)
    | (go_at_call 16; refine (HW.out _).mono ?_; rintro e w' ⟨rfl, rfl⟩)
    | (go_at_call 19; refine (of_c _ _ (by omega) (by omega)).mono ?_; rintro e w0 ⟨v2, n2, t2, rfl, hv2, hs2, hl2, hbel0⟩; obtain ⟨A2, c2, rfl⟩ := hv2.agg; have HS2 := Lib.hid hs2; clear hs2))
  have u0 : BigV (w0.alloc (.cells #[.bool n2, .slice A2 t2.length c2] 34)) (.agg #[.bool n2, .slice A2 t2.length c2]) n2 t2 := hv2.below ((Below.refl _ _).alloc (Nat.le_refl _) _)
  have d0 : Below w.heap.size w (w0.alloc (.cells #[.bool n2, .slice A2 t2.length c2] 34)) := (below_drewN (Below.refl w.heap.size w) n).trans (hbel0.alloc hbel0.size _)
  have hS0 : (w0.alloc (.cells #[.bool n2, .slice A2 t2.length c2] 34)).cell? ⟨w0.heap.size, 0, none⟩ = some (.bool n2) ∧ (w0.alloc (.cells #[.bool n2, .slice A2 t2.length c2] 34)).cell? ⟨w0.heap.size, 1, none⟩ = some (.slice A2 t2.length c2) := by simp [go_sem]
  generalize w0.alloc (.cells #[.bool n2, .slice A2 t2.length c2] 34) = W0 at *
  generalize w0.heap.size = g at *
  clear hbel0 hv2
  obtain ⟨z1, z2⟩ := hS0
  go_cut [10] (fun s wx => ∃ (g : Nat) (ns : Bool) (ls : List Int), s = .pointer (some ⟨g, 0, none⟩) ∧ BoxV wx g ns ls ∧ sval ns ls = a * b ∧ ls.length ≤ 24 ∧ Below w.heap.size w wx)
  case first =>
    have q0 : Hid (W0.cell? ⟨g, 0, none⟩ = some (.bool n2) ∧ W0.cell? ⟨g, 1, none⟩ = some (.slice A2 t2.length c2)) := Lib.hid ⟨z1, z2⟩
    have y1 : IntKind.i64.wrap (lo / 4294967296) = lo / 4294967296 := by rw [IntKind.wrap_i64]; omega
    have y2 : IntKind.i64.wrap (lo % 4294967296) = lo % 4294967296 := by rw [IntKind.wrap_i64]; omega
    have y3 : wrap64 (lo / 4294967296) = lo / 4294967296 := by unfold wrap64; omega
    have y4 : wrap64 (lo % 4294967296) = lo % 4294967296 := by unfold wrap64; omega
    go_region_held3 (fun w' => w'.cell? ⟨g, 0, none⟩ = some (.bool n2) ∧ w'.cell? ⟨g, 1, none⟩ = some (.slice A2 t2.length c2)) (first | exact two_alloc _ q8.out | exact q8.out | exact two_set q8.out (by first | exact Nat.ne_of_lt (cellLt q7.out.1) | exact Nat.ne_of_lt (cellLt q6.out.1) | exact Nat.ne_of_lt (cellLt q5.out.1) | exact Nat.ne_of_lt (cellLt q4.out.1) | exact Nat.ne_of_lt (cellLt q3.out.1) | exact Nat.ne_of_lt (cellLt q2.out.1) | exact Nat.ne_of_lt (cellLt q1.out.1) | exact Nat.ne_of_lt (cellLt q0.out.1)) | exact q7.out | exact two_alloc _ q7.out | exact q6.out | exact two_alloc _ q6.out | exact q5.out | exact two_alloc _ q5.out | exact q4.out | exact two_alloc _ q4.out | exact q3.out | exact two_alloc _ q3.out | exact q2.out | exact two_alloc _ q2.out | exact q1.out | exact two_alloc _ q1.out | exact q0.out | exact two_alloc _ q0.out | go_keep)
      (first
        | (go_at_call_of 21 v3; refine (add_ref _ _ _ _ _ _ _ (by first | exact b37 | exact BigV.alloc b37 _) (by first | exact b7 | exact BigV.alloc b7 _) (by omega) (by omega)).mono ?_; rintro e x8 ⟨v8, n8, r8, rfl, b8, s8, m8, c8⟩; have S8 := Lib.hid s8; clear s8; (first | have PZ' := Lib.hid (PZ.start c8) | have PZ' := Lib.hid (PZ'.out.next c8) | skip); have c8 : Below x7.heap.size x7 x8 := (by first | exact c8 | exact below_alloc c8); have d8 := d7.trans (c8.mono d7.size); have q8 := Lib.hid (two_next q7.out c8); obtain ⟨A8, k8, rfl⟩ := b8.agg; (try (have pz0 := PZ'.out.c0; have pz1 := PZ'.out.c1; have pzf := PZ'.out.f)))
        | (go_at_call_of 21 v5; refine (add_ref _ _ _ _ _ _ _ (by first | exact b56 | exact BigV.alloc b56 _) (by first | exact b6 | exact BigV.alloc b6 _) (by omega) (by omega)).mono ?_; rintro e x7 ⟨v7, n7, r7, rfl, b7, s7, m7, c7⟩; have S7 := Lib.hid s7; clear s7; (first | have PZ' := Lib.hid (PZ.start c7) | have PZ' := Lib.hid (PZ'.out.next c7) | skip); have c7 : Below x6.heap.size x6 x7 := (by first | exact c7 | exact below_alloc c7); have d7 := d6.trans (c7.mono d6.size); have q7 := Lib.hid (two_next q6.out c7); have b37 := b36.below c7)
        | (go_at_call 19; have b5' := b5; refine (of_c _ _ (by omega) (by omega)).mono ?_; rintro e x6 ⟨v6, n6, r6, rfl, b6, s6, m6, c6⟩; have S6 := Lib.hid s6; clear s6; (first | have PZ' := Lib.hid (PZ.start c6) | have PZ' := Lib.hid (PZ'.out.next c6) | skip); have c6 : Below x5.heap.size x5 x6 := (by first | exact c6 | exact below_alloc c6); have d6 := d5.trans (c6.mono d5.size); have q6 := Lib.hid (two_next q5.out c6); have b36 := b35.below c6; have b56 := b5.below c6)
        | (go_at_call_of 23 v4; refine (mul_ref _ _ _ _ _ _ _ (by first | exact b4 | exact BigV.alloc b4 _) (by first | exact u4 | exact BigV.alloc u4 _) (by omega) (by omega)).mono ?_; rintro e x5 ⟨v5, n5, r5, rfl, b5, s5, m5, c5⟩; have S5 := Lib.hid s5; clear s5; (first | have PZ' := Lib.hid (PZ.start c5) | have PZ' := Lib.hid (PZ'.out.next c5) | skip); have c5 : Below x4.heap.size x4 x5 := (by first | exact c5 | exact below_alloc c5); have d5 := d4.trans (c5.mono d4.size); have q5 := Lib.hid (two_next q4.out c5); have b35 := b34.below c5)
        | (go_at_call 19; have u3' := u3; refine (of_c _ _ (by omega) (by omega)).mono ?_; rintro e x4 ⟨v4, n4, r4, rfl, b4, s4, m4, c4⟩; have S4 := Lib.hid s4; clear s4; (first | have PZ' := Lib.hid (PZ.start c4) | have PZ' := Lib.hid (PZ'.out.next c4) | skip); have c4 : Below x3.heap.size x3 x4 := (by first | exact c4 | exact below_alloc c4); have d4 := d3.trans (c4.mono d3.size); have q4 := Lib.hid (two_next q3.out c4); have u4 := u3.below c4; have b34 := b3.below c4)
        | (go_at_call_of 23 v2; refine (mul_ref _ _ _ _ _ _ _ (by first | exact b2 | exact BigV.alloc b2 _) (by first | exact u2 | exact BigV.alloc u2 _) (by omega) (by omega)).mono ?_; rintro e x3 ⟨v3, n3, r3, rfl, b3, s3, m3, c3⟩; have S3 := Lib.hid s3; clear s3; (first | have PZ' := Lib.hid (PZ.start c3) | have PZ' := Lib.hid (PZ'.out.next c3) | skip); have c3 : Below x2.heap.size x2 x3 := (by first | exact c3 | exact below_alloc c3); have d3 := d2.trans (c3.mono d2.size); have q3 := Lib.hid (two_next q2.out c3); have u3 := u2.below c3)
        | (go_at_call_of 23 v1; refine (mul_ref _ _ _ _ _ _ _ (by first | exact b1 | exact BigV.alloc b1 _) (by first | exact u1 | exact BigV.alloc u1 _) (by omega) (by omega)).mono ?_; rintro e x2 ⟨v2, n2', r2, rfl, b2, s2, m2, c2⟩; have S2 := Lib.hid s2; clear s2; (first | have PZ' := Lib.hid (PZ.start c2) | have PZ' := Lib.hid (PZ'.out.next c2) | skip); have c2 : Below x1.heap.size x1 x2 := (by first | exact c2 | exact below_alloc c2); have d2 := d1.trans (c2.mono d1.size); have q2 := Lib.hid (two_next q1.out c2); have u2 := u1.below c2)
        | (go_at_call_of 19 (Value.int .i64 hi); refine (of_c _ _ (by omega) (by omega)).mono ?_; rintro e x1 ⟨v1, n1, r1, rfl, b1, s1, m1, c1⟩; have c1 := below_of_drew c1; have S1 := Lib.hid s1; clear s1; (first | have PZ' := Lib.hid (PZ.start c1) | have PZ' := Lib.hid (PZ'.out.next c1) | skip); have c1 : Below W0.heap.size W0 x1 := (by first | exact c1 | exact below_alloc c1); have d1 := d0.trans (c1.mono d0.size); have q1 := Lib.hid (two_next q0.out c1); have u1 := u0.below c1))
    all_goals
      go_wp2_with fail
      go_meet
      have hs : sval n8 r8 = a * b := by rw [S8.out, S3.out, S2.out, S1.out, S7.out, S5.out, S4.out, S6.out, HS2.out, ← HE.out]; omega
      first
      | exact ⟨_, n8, r8, rfl, ⟨A8, k8, PZ'.out.cells.1, PZ'.out.cells.2, b8.set PZ'.out⟩, hs, by omega, (d8.setCell (by first | exact d7.size | exact d6.size | exact d5.size | exact d4.size | exact d3.size | exact d2.size | exact d1.size | exact d0.size) _).setCell (by first | exact d7.size | exact d6.size | exact d5.size | exact d4.size | exact d3.size | exact d2.size | exact d1.size | exact d0.size) _⟩
      | exact ⟨x8.heap.size, n8, r8, rfl, ⟨A8, k8, by simp [go_sem], by simp [go_sem], b8.alloc _⟩, hs, by omega, d8.alloc d8.size _⟩
  case rest =>
    obtain ⟨gs, ns, ls, rfl, hbox, hsv, hll, hB⟩ := hcut
    obtain ⟨As, cs, z3, z4, hbig⟩ := hbox
    have HSV := Lib.hid hsv
    clear hsv z1 z2 u0 d0 hmask HW
    have q0 : Hid (wc.cell? ⟨gs, 0, none⟩ = some (.bool ns) ∧ wc.cell? ⟨gs, 1, none⟩ = some (.slice As ls.length cs)) := Lib.hid ⟨z3, z4⟩
    clear z3 z4
    go_wp2_with fail
    go_region_held3 (fun w' => w'.cell? ⟨gs, 0, none⟩ = some (.bool ns) ∧ w'.cell? ⟨gs, 1, none⟩ = some (.slice As ls.length cs)) (first | exact q4.out | exact q3.out | exact q2.out | exact q1.out | exact q0.out)
      (first
        | (go_at_call 26; refine (cmp_ref _ _ _ _ _ _ _ g3 b3 (by omega) (by omega)).mono ?_; rintro e x4 ⟨rfl, c5⟩; rw [HSV.out, S3.out, S1.out, S2.out, cmpV_eq rfl]; have d4 := d3.trans (c5.mono d3.size); have q4 := Lib.hid (two_next q3.out c5))
        | (go_at_call 23; refine (mul_ref _ _ _ _ _ _ _ b12 b2 (by omega) (by omega)).mono ?_; rintro e x3 ⟨v3, n4, r3, rfl, b3, s3, m3, c4⟩; have S3 := Lib.hid s3; clear s3; have g3 := g2.below c4; have d3 := d2.trans (c4.mono d2.size); have q3 := Lib.hid (two_next q2.out c4))
        | (go_at_call_of 19 (Value.int .i64 b); refine (of_c _ _ (by omega) (by omega)).mono ?_; rintro e x2 ⟨v2, n3, r2, rfl, b2, s2, m2, c3⟩; have S2 := Lib.hid s2; clear s2; have g2 := g1.below c3; have b12 := b1.below c3; have d2 := d1.trans (c3.mono d1.size); have q2 := Lib.hid (two_next q1.out c3))
        | (go_at_call_of 19 (Value.int .i64 a); refine (of_c _ _ (by omega) (by omega)).mono ?_; rintro e x1 ⟨v1, n1, r1, rfl, b1, s1, m1, c1⟩; have c1 := below_of_drew c1; have S1 := Lib.hid s1; clear s1; have g1 := hbig.below c1; have d1 := hB.trans (c1.mono hB.size); have q1 := Lib.hid (two_next q0.out c1)))
    clear c1 c3 c4 c5 b1 b2 b3 b12 g1 g2 g3 S1 S2 S3 q0 q1 q2 q3 q4 d1 d2 d3 HSV hB hbig HE HS2
    by_cases hc0 : c = 0
    · subst hc0
      go_wp2_with (go_at_call 14; refine (muldiv_zero _ _ _).mono ?_; rintro e w' ⟨rfl, rfl⟩)
      go_ret
      exact ⟨rfl, d4⟩
    · have hcb : (c != 0) = true := bne_iff_ne.2 hc0
      have hF := flV_floor a b c
      obtain ⟨F, hFe⟩ : ∃ F, F = flV a b c := ⟨_, rfl⟩
      have HM := Lib.hid (fun w => muldiv_c a b c w ha ha' hb hb' hc hc' hc0)
      rw [← hFe] at hF HM
      have HF := Lib.hid hF
      clear hF hFe
      cases hfit : fitB F
      · have hfv : fitV F = 0 := fitV_false hfit
        rw [hfit, hfv] at HM
        clear hfit hfv
        go_wp2_with (go_at_call 14; refine (HM.out _).mono ?_; rintro e w' ⟨rfl, n, rfl⟩)
        go_ret
        exact ⟨rfl, below_drewN d4 _⟩
      · have hfv : fitV F = F := fitV_true hfit
        have hrange := fitB_true.1 hfit
        rw [hfit, hfv] at HM
        obtain ⟨f1, f2⟩ := hrange
        clear hfit hfv
        by_cases hc1 : c < 1
        · go_wp2_with (go_at_call 14; refine (HM.out _).mono ?_; rintro e w' ⟨rfl, n, rfl⟩)
          go_ret
          exact ⟨rfl, below_drewN d4 _⟩
        · have hc2 : 1 ≤ c := by omega
          have h3 := HF.out hc2
          have hle : cmpV (F * c) (a * b) ≤ 0 := by unfold cmpV; split; · decide
                                                    · rw [if_neg (by omega)]; decide
          have hgt : Hid (cmpV ((F + 1) * c) (a * b) = 1) := Lib.hid (cmpV_gt h3.2)
          clear h3 HF
          by_cases hmax : F = 9223372036854775807
          · have hmb : (F == 9223372036854775807) = true := beq_iff_eq.2 hmax
            have HMX := Lib.hid hmax
            clear hmax
            go_wp2_with (first
              | (go_at_call 14; refine (HM.out _).mono ?_; rintro e w' ⟨rfl, n, rfl⟩)
              | (go_at_call 18; refine (cmpmul_c _ _ _ _ _ (by assumption) (by assumption) (by assumption) (by assumption) (by assumption) (by assumption) (by assumption) (by assumption)).mono ?_; rintro e w' ⟨rfl, rfl⟩))
            all_goals (go_ret; exact ⟨rfl, below_drewN d4 _⟩)
          · have hmb : (F == 9223372036854775807) = false := beq_eq_false_iff_ne.2 hmax
            have f3 : F + 1 ≤ 9223372036854775807 := by omega
            have f4 : -9223372036854775808 ≤ F + 1 := by omega
            go_wp2_with fail
            refine (HM.out _).mono ?_; rintro e w' ⟨rfl, n, rfl⟩
            go_wp2_with fail
            refine (cmpmul_c _ _ _ _ _ f1 f2 hc hc' ha ha' hb hb').mono ?_; rintro e w' ⟨rfl, rfl⟩
            go_wp2_with fail
            refine (cmpmul_c _ _ _ _ _ f4 f3 hc hc' ha ha' hb hb').mono ?_; rintro e w' ⟨rfl, rfl⟩; rw [hgt.out]
            go_wp2_with fail
            go_ret
            exact ⟨rfl, below_drewN d4 _⟩
end Go.Proofs.Ytkjomnmdepndpaa
