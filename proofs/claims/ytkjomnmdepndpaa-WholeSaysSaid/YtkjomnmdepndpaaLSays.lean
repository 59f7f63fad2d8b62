/- The walk of the law WholeSays: it returns true. -/
import Derived.Test.YtkjomnmdepndpaaRm
namespace Go.Proofs.Ytkjomnmdepndpaa
open Go.RowKit

/-- Two boxes, at g and behind it, that hold a number each. -/
structure PQ (w : World) (g : Nat) (n1 : Bool) (A1 : Option Addr) (r1 : List Int) (k1 : Nat) (n2 : Bool) (A2 : Option Addr) (r2 : List Int) (k2 : Nat) (W : World) : Prop where
  p : W.cell? ⟨g, 0, none⟩ = some (.bool n1) ∧ W.cell? ⟨g, 1, none⟩ = some (.slice A1 r1.length k1)
  q : W.cell? ⟨g + 1, 0, none⟩ = some (.bool n2) ∧ W.cell? ⟨g + 1, 1, none⟩ = some (.slice A2 r2.length k2)
  bp : BigV W (.agg #[.bool n1, .slice A1 r1.length k1]) n1 r1
  bq : BigV W (.agg #[.bool n2, .slice A2 r2.length k2]) n2 r2
  d : Below w.heap.size w W
theorem PQ.next {w : World} {g : Nat} {n1 n2 : Bool} {A1 A2 : Option Addr} {r1 r2 : List Int} {k1 k2 : Nat} {W W' : World} (h : PQ w g n1 A1 r1 k1 n2 A2 r2 k2 W) (b : Below W.heap.size W W') : PQ w g n1 A1 r1 k1 n2 A2 r2 k2 W' :=
  ⟨two_next h.p b, two_next h.q b, h.bp.below b, h.bq.below b, h.d.trans (b.mono h.d.size)⟩
/-- .. and their four cells. -/
def Four (g : Nat) (n1 : Bool) (A1 : Option Addr) (m1 k1 : Nat) (n2 : Bool) (A2 : Option Addr) (m2 k2 : Nat) (W : World) : Prop :=
  W.cell? ⟨g, 0, none⟩ = some (.bool n1) ∧ W.cell? ⟨g, 1, none⟩ = some (.slice A1 m1 k1) ∧ W.cell? ⟨g + 1, 0, none⟩ = some (.bool n2) ∧ W.cell? ⟨g + 1, 1, none⟩ = some (.slice A2 m2 k2)
theorem PQ.four {w : World} {g : Nat} {n1 n2 : Bool} {A1 A2 : Option Addr} {r1 r2 : List Int} {k1 k2 : Nat} {W : World} (h : PQ w g n1 A1 r1 k1 n2 A2 r2 k2 W) : W.cell? ⟨g, 0, none⟩ = some (.bool n1) ∧ W.cell? ⟨g, 1, none⟩ = some (.slice A1 r1.length k1) ∧ W.cell? ⟨g + 1, 0, none⟩ = some (.bool n2) ∧ W.cell? ⟨g + 1, 1, none⟩ = some (.slice A2 r2.length k2) :=
  ⟨h.p.1, h.p.2, h.q.1, h.q.2⟩
theorem PQ.start {w x1 x2 : World} {n : Nat} {n1 n2 : Bool} {A1 A2 : Option Addr} {r1 r2 : List Int} {k1 k2 : Nat} (c1 : Below (w.drewN n).heap.size (w.drewN n) x1) (c2 : Below x1.heap.size x1 x2)
    (b1 : BigV x1 (.agg #[.bool n1, .slice A1 r1.length k1]) n1 r1) (b2 : BigV x2 (.agg #[.bool n2, .slice A2 r2.length k2]) n2 r2) (t : TypeId) :
    PQ w x2.heap.size n1 A1 r1 k1 n2 A2 r2 k2 ((x2.alloc (.cells #[.bool n1, .slice A1 r1.length k1] t)).alloc (.cells #[.bool n2, .slice A2 r2.length k2] t)) := by
  have d1 : Below w.heap.size w x1 := (below_drewN (Below.refl w.heap.size w) n).trans c1
  have d2 := d1.trans (c2.mono d1.size)
  exact ⟨by simp [go_sem], by simp [go_sem], ((b1.below c2).alloc _).alloc _, (b2.alloc _).alloc _, (d2.alloc d2.size _).alloc (by have := d2.size; simp; omega) _⟩

set_option maxHeartbeats 4000000 in
set_option maxRecDepth 100000 in
theorem lsays_c (a b c d : Int) (A : Option Addr) (cl : Nat) (l : List Int) (w : World) (ha : -9223372036854775808 ≤ a) (ha' : a ≤ 9223372036854775807) (hb : -9223372036854775808 ≤ b) (hb' : b ≤ 9223372036854775807)
    (hc : -9223372036854775808 ≤ c) (hc' : c ≤ 9223372036854775807) (hd : -9223372036854775808 ≤ d) (hd' : d ≤ 9223372036854775807) (hr : IRow .i64 w w.heap.size A l) (hw : ∀ x ∈ l, -9223372036854775808 ≤ x ∧ x ≤ 9223372036854775807) (hl : l.length ≤ 100) :
    Calls Try.prog 4 #[.int .i64 a, .int .i64 b, .int .i64 c, .int .i64 d, .slice A l.length cl] w (Ret w (.bool true)) := by
  obtain ⟨M, MB, HM, HMR⟩ : ∃ M MB, Hid (∀ W, Calls Try.prog 14 #[.int .i64 a, .int .i64 b, .int .i64 c] W (Drawn (.tuple #[.int .i64 M, .bool MB]) W)) ∧ Hid (∀ W, Calls Try.prog 24 #[.int .i64 a, .int .i64 b, .int .i64 c] W (Ret W (.tuple #[.int .i64 M, .bool MB]))) := by
    by_cases h0 : c = 0
    · subst h0
      exact ⟨0, false, Lib.hid (fun W => (muldiv_zero a b W).mono (fun e w' h => ⟨h.1, 0, by rw [← h.2]; rfl⟩)), Lib.hid (fun W => muldiv_ref_zero a b W)⟩
    · exact ⟨_, _, Lib.hid (fun W => muldiv_c a b c W ha ha' hb hb' hc hc' h0), Lib.hid (fun W => muldiv_ref a b c W ha ha' hb hb' hc hc' h0)⟩
  obtain ⟨X1, hX1⟩ : ∃ X, X = fitV (a + b) := ⟨_, rfl⟩
  obtain ⟨I1, hI1⟩ : ∃ X, X = fitB (a + b) := ⟨_, rfl⟩
  obtain ⟨X2, hX2⟩ : ∃ X, X = fitV (a + -b) := ⟨_, rfl⟩
  obtain ⟨I2, hI2⟩ : ∃ X, X = fitB (a + -b) := ⟨_, rfl⟩
  obtain ⟨X3, hX3⟩ : ∃ X, X = fitV (a * b) := ⟨_, rfl⟩
  obtain ⟨I3, hI3⟩ : ∃ X, X = fitB (a * b) := ⟨_, rfl⟩
  obtain ⟨X4, hX4⟩ : ∃ X, X = fitV l.sum := ⟨_, rfl⟩
  obtain ⟨I4, hI4⟩ : ∃ X, X = fitB l.sum := ⟨_, rfl⟩
  obtain ⟨Z, hZ⟩ : ∃ X, X = cmpV (a * b) (c * d) := ⟨_, rfl⟩
  have H1 := Lib.hid (fun W => add_c a b W ha ha' hb hb')
  have H2 := Lib.hid (fun W => sub_c a b W ha ha' hb hb')
  have H3 := Lib.hid (fun W => mul_c a b W ha ha' hb hb')
  have H4 := Lib.hid (fun W (h : Below w.heap.size w W) => sum_c A cl w.heap.size l W (by omega) (hr.below h) hw)
  have H5 := Lib.hid (fun W (h : Below w.heap.size w W) => sum_ref A cl l W hl ((hr.below h).more h.size) hw)
  have H6 := Lib.hid (fun W => cmpmul_c a b c d W ha ha' hb hb' hc hc' hd hd')
  rw [← hX1, ← hI1] at H1
  rw [Int.sub_eq_add_neg, ← hX2, ← hI2] at H2
  rw [← hX3, ← hI3] at H3
  rw [← hX4, ← hI4] at H4 H5
  rw [← hZ] at H6
  have E1 := Lib.hid (And.intro hX1 hI1)
  have E2 := Lib.hid (And.intro hX2 hI2)
  have E3 := Lib.hid (And.intro hX3 hI3)
  have EZ := Lib.hid hZ
  clear hr hw hX1 hI1 hX2 hI2 hX3 hI3 hX4 hI4 hZ
  go_enter Try.func4, Try.ntmps4
  go_wp2_with (go_at_call 10; refine (awake_c _).mono ?_; rintro e w' ⟨rfl, n, rfl⟩)
  refine (of_c _ _ ha ha').mono ?_
  rintro e x1 ⟨v1, n1, r1, rfl, b1, s1, m1, c1⟩
  have S1 := Lib.hid s1
  obtain ⟨A1, k1, rfl⟩ := b1.agg
  clear s1
  go_wp2_with fail
  refine (of_c _ _ hb hb').mono ?_
  rintro e x2 ⟨v2, n2, r2, rfl, b2, s2, m2, c2⟩
  have S2 := Lib.hid s2
  obtain ⟨A2, k2, rfl⟩ := b2.agg
  clear s2
  go_wp2_with fail
  have P0 := Lib.hid (PQ.start c1 c2 b1 b2 34)
  clear b1 b2 c1 c2
  generalize (x2.alloc (.cells #[.bool n1, .slice A1 r1.length k1] 34)).alloc (.cells #[.bool n2, .slice A2 r2.length k2] 34) = W0 at *
  generalize x2.heap.size = g at *
  refine (H1.out _).mono ?_
  rintro e w' ⟨rfl, rfl⟩
  obtain ⟨y1, y2, y3, y4⟩ := P0.out.four
  go_wp2_with fail
  refine (add_ref _ _ _ _ _ _ _ P0.out.bp P0.out.bq (by omega) (by omega)).mono ?_
  rintro e x3 ⟨v3, n3, r3, rfl, b3, s3, m3, c3⟩
  have P1 := Lib.hid (P0.out.next c3)
  have S3 : Hid (sval n3 r3 = a + b) := Lib.hid (by rw [s3, S1.out, S2.out])
  clear s3 c3 y1 y2 y3 y4
  go_wp2_with fail
  refine (fits_ref _ _ _ _ b3 (by omega)).mono ?_
  rintro e x4 ⟨rfl, c4⟩
  rw [S3.out, ← E1.out.1, ← E1.out.2]
  have P2 := Lib.hid (P1.out.next c4)
  clear b3 c4 S3 P1 P0 m3
  go_wp2_with fail
  refine (H2.out _).mono ?_
  rintro e w' ⟨rfl, rfl⟩
  go_wp2_with fail
  go_region_held3 (fun w' => w'.cell? ⟨g, 0, none⟩ = some (.bool n1) ∧ w'.cell? ⟨g, 1, none⟩ = some (.slice A1 r1.length k1) ∧ w'.cell? ⟨g + 1, 0, none⟩ = some (.bool n2) ∧ w'.cell? ⟨g + 1, 1, none⟩ = some (.slice A2 r2.length k2)) (first | exact P5.out.four | exact P4.out.four | exact P3.out.four | exact P2.out.four)
    (first
      | (go_at_call 20; refine (fits_ref _ _ _ _ b6 (by omega)).mono ?_; rintro e x7 ⟨rfl, c7⟩; rw [S6.out, ← E2.out.1, ← E2.out.2]; have P5 := Lib.hid (P4.out.next c7))
      | (go_at_call 21; refine (add_ref _ _ _ _ _ _ _ P3.out.bp b5 (by omega) (by omega)).mono ?_; rintro e x6 ⟨v6, n6, r6, rfl, b6, s6, m6, c6⟩; have P4 := Lib.hid (P3.out.next c6); have S6 : Hid (sval n6 r6 = a + -b) := Lib.hid (by rw [s6, S5.out, S1.out]); clear s6)
      | (go_at_call 22; refine (turn_c _ _ _ _ (BigV.drew P2.out.bq)).mono ?_; rintro e x5 ⟨v5, n5, r5, rfl, b5, s5, m5, c5⟩; have c5 := below_of_drew c5; have P3 := Lib.hid (P2.out.next c5); have S5 : Hid (sval n5 r5 = -b) := Lib.hid (by rw [s5, S2.out]); clear s5))
  clear b5 b6 c5 c6 c7 S5 S6 P2 P3 P4 m5 m6
  go_wp2_with fail
  refine (H3.out _).mono ?_
  rintro e w' ⟨rfl, rfl⟩
  obtain ⟨y1, y2, y3, y4⟩ := P5.out.four
  go_wp2_with fail
  refine (mul_ref _ _ _ _ _ _ _ P5.out.bp P5.out.bq (by omega) (by omega)).mono ?_
  rintro e x8 ⟨v8, n8, r8, rfl, b8, s8, m8, c8⟩
  have P6 := Lib.hid (P5.out.next c8)
  have S8 : Hid (sval n8 r8 = a * b) := Lib.hid (by rw [s8, S1.out, S2.out])
  clear s8 c8 y1 y2 y3 y4
  go_wp2_with fail
  refine (fits_ref _ _ _ _ b8 (by omega)).mono ?_
  rintro e x9 ⟨rfl, c9⟩
  rw [S8.out, ← E3.out.1, ← E3.out.2]
  have P7 := Lib.hid (P6.out.next c9)
  clear b8 c9 S8 P5 P6 m8
  go_wp2_with fail
  refine (HM.out _).mono ?_
  rintro e w' ⟨rfl, nn, rfl⟩
  have P8 := Lib.hid (P7.out.next (below_drewN (Below.refl _ _) nn))
  clear P7
  generalize x9.drewN nn = y0 at *
  go_wp2_with fail
  refine (HMR.out _).mono ?_
  rintro e y1 ⟨rfl, c10⟩
  have P9 := Lib.hid (P8.out.next c10)
  clear P8 c10
  go_wp2_with fail
  refine (H4.out _ P9.out.d).mono ?_
  rintro e w' ⟨rfl, rfl⟩
  go_wp2_with fail
  refine (H5.out _ P9.out.d).mono ?_
  rintro e y2 ⟨rfl, c11⟩
  have Q0 := Lib.hid (P9.out.next c11)
  clear P9 c11 HM HMR H1 H2 H3 H4 H5 E1 E2 E3
  go_wp2_with fail
  dsimp only [List.append]
  go_region_held3 (fun w' => w'.cell? ⟨g, 0, none⟩ = some (.bool n1) ∧ w'.cell? ⟨g, 1, none⟩ = some (.slice A1 r1.length k1) ∧ w'.cell? ⟨g + 1, 0, none⟩ = some (.bool n2) ∧ w'.cell? ⟨g + 1, 1, none⟩ = some (.slice A2 r2.length k2)) (first | exact Q5.out.four | exact Q4.out.four | exact Q3.out.four | exact Q2.out.four | exact Q1.out.four | exact Q0.out.four)
    (first
      | (go_at_call 26; refine (cmp_ref _ _ _ _ _ _ _ h14 b4 (by omega) (by omega)).mono ?_; rintro e z5 ⟨rfl, c5⟩; rw [T1.out, T4.out, ← EZ.out]; have Q5 := Lib.hid (Q4.out.next c5))
      | (go_at_call_of 23 v2; refine (mul_ref _ _ _ _ _ _ _ b23 b3 (by omega) (by omega)).mono ?_; rintro e z4 ⟨v4, t4, l4, rfl, b4, s4, m4, c4⟩; have Q4 := Lib.hid (Q3.out.next c4); have T4 : Hid (sval t4 l4 = c * d) := Lib.hid (by rw [s4, T2.out, T3.out]); have h14 := h13.below c4; clear s4)
      | (go_at_call_of 19 (Value.int .i64 d); refine (of_c _ _ hd hd').mono ?_; rintro e z3 ⟨v3, t3, l3, rfl, b3, s3, m3, c3⟩; have Q3 := Lib.hid (Q2.out.next c3); have T3 := Lib.hid s3; have h13 := h12.below c3; have b23 := b2.below c3; clear s3)
      | (go_at_call_of 19 (Value.int .i64 c); refine (of_c _ _ hc hc').mono ?_; rintro e z2 ⟨v2, t2, l2, rfl, b2, s2, m2', c2⟩; have Q2 := Lib.hid (Q1.out.next c2); have T2 := Lib.hid s2; have h12 := b1.below c2; clear s2)
      | (go_at_call 23; refine (mul_ref _ _ _ _ _ _ _ (BigV.drew Q0.out.bp) (BigV.drew Q0.out.bq) (by omega) (by omega)).mono ?_; rintro e z1 ⟨v1, t1, l1, rfl, b1, s1, m1', c1⟩; have c1 := below_of_drew c1; have Q1 := Lib.hid (Q0.out.next c1); have T1 : Hid (sval t1 l1 = a * b) := Lib.hid (by rw [s1, S1.out, S2.out]); clear s1)
      | (go_at_call 18; refine (H6.out _).mono ?_; rintro e w' ⟨rfl, rfl⟩))
  go_wp2_with fail
  go_ret
  exact ⟨rfl, Q5.out.d⟩
end Go.Proofs.Ytkjomnmdepndpaa
