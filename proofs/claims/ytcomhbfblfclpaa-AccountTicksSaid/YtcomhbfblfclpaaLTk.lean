/- AccountTicks: its walk. -/
import Derived.Test.YtcomhbfblfclpaaAj
namespace Go.Proofs.Ytcomhbfblfclpaa
open Go.RowKit

theorem BxIn.push_at {W w : World} {l : List BX} (h : BxIn W w l) (b : Nat) (hb : w.heap.size = b) (t : TypeId) (q p l' f : Int) : BxIn W (w.alloc (.cells #[.int .i64 q, .int .i64 p, .int .i64 l', .int .i64 f] t)) ((b, t, q, p, l', f) :: l) := hb ▸ h.push t q p l' f

set_option maxRecDepth 100000 in
set_option maxHeartbeats 4000000 in
theorem accountTicks_c (q p l f n m : Int) (W : World) : Calls Try.prog 5 #[.agg #[.int .i64 q, .int .i64 p, .int .i64 l, .int .i64 f], .int .i64 n, .int .i64 m] W fun e w' => e = .returned (.bool true) ∧ Below W.heap.size W w' := by
  by_cases hg : n < 0 ∨ 300 < n ∨ m < 0 ∨ n < m
  · go_enter Try.func5, Try.ntmps5
    go_wp2_with fail
    refine (awake8_c _).mono ?_
    rintro e w1 ⟨rfl, hb⟩
    have HB := Lib.hid ((BxIn.nil (Below.refl _ W)).push 24 q p l f |>.step hb)
    clear hb
    go_wp2_with fail
    all_goals
      go_ret
      exact ⟨rfl, HB.out.fr⟩
  obtain ⟨N, rfl⟩ : ∃ N : Nat, n = N := ⟨n.toNat, by omega⟩
  obtain ⟨M, rfl⟩ : ∃ M : Nat, m = M := ⟨m.toNat, by omega⟩
  have hN : N ≤ 300 := by omega
  have hM : M ≤ N := by omega
  clear hg
  have KA := Lib.hid (fun w => awake8_c w)
  have k1 := tick_st q p l f 0 N N (by omega) (by omega) (by omega)
  have k2 := tick_st q p l f 0 M M (by omega) (by omega) (by omega)
  have K3 := Lib.hid (tick_st q p l f M ((N : Int) - M) N (by omega) (by omega) (by omega))
  have K4 := Lib.hid (fun (i : Nat) => tick_st q p l f i 1 (i + 1) (by omega) (by omega) rfl)
  have T1 := Lib.hid (show tn q p l f 0 N = (tn q p l f 0 M || tn q p l f M ((N : Int) - M)) by
    have h1 := tn_more (q := q) (p := p) (l := l) (f := f) (i := 0) (m := N) (by omega) (by omega)
    have h2 := tn_more (q := q) (p := p) (l := l) (f := f) (i := 0) (m := M) (by omega) (by omega)
    have h3 := tn_more (q := q) (p := p) (l := l) (f := f) (i := M) (m := (N : Int) - M) (by omega) (by omega)
    rw [tb_zero, Bool.false_or] at h1 h2
    rw [Int.zero_add] at h1 h2
    rw [show (M : Int) + ((N : Int) - M) = N by omega, h2] at h3
    rw [← h1, h3])
  have T2 := Lib.hid (show tb q p l f N = tn q p l f 0 N by
    have h1 := tn_more (q := q) (p := p) (l := l) (f := f) (i := 0) (m := N) (by omega) (by omega)
    rwa [tb_zero, Bool.false_or, Int.zero_add] at h1)
  have T3 := Lib.hid (fun (i : Nat) => show tb q p l f (i + 1) = (tb q p l f i || tn q p l f i 1) from tn_more (by omega) (by omega))
  rw [tl_zero, tf_zero] at k1 k2
  have Z1 := Lib.hid (tl_zero q p l f)
  have Z2 := Lib.hid (tf_zero q p l f)
  have Z3 := Lib.hid (tb_zero q p l f)
  have K1 := Lib.hid k1
  have K2 := Lib.hid k2
  clear k1 k2
  generalize hL1 : tl q p l f = L at *
  generalize hF1 : tf q p l f = F at *
  generalize hB1 : tb q p l f = B at *
  generalize hT1 : tn q p l f = T at *
  clear hL1 hF1 hB1 hT1
  go_enter Try.func5, Try.ntmps5
  go_wp2_with fail
  have HA0 := Lib.hid ((BxIn.nil (Below.refl _ W)).push 24 q p l f)
  refine (KA.out _).mono ?_
  rintro e w1 ⟨rfl, hb⟩
  have HB1 := Lib.hid (HA0.out.step hb)
  clear HA0
  clear hb
  obtain ⟨⟨a0, a1, a2, a3⟩, al⟩ := HB1.out.get 0 rfl
  go_wp2_with fail
  refine (K1.out _).mono ?_
  rintro e w2 ⟨rfl, hb⟩
  clear a0 a1 a2 a3 al
  have HB2 := Lib.hid (HB1.out.step hb)
  clear HB1
  clear hb
  obtain ⟨⟨a0, a1, a2, a3⟩, al⟩ := HB2.out.get 0 rfl
  have D1 := Lib.hid (HB2.out.lt (i := 0) rfl)
  have HB3 := Lib.hid (HB2.out.push 24 (q) (p) (L N) (F N))
  clear HB2
  go_wp2_with fail
  refine (K2.out _).mono ?_
  rintro e w3 ⟨rfl, hb⟩
  clear a0 a1 a2 a3 al
  have HB4 := Lib.hid (HB3.out.step hb)
  clear HB3
  clear hb
  have D2 := Lib.hid (HB4.out.lt (i := 0) rfl)
  have D3 := Lib.hid (HB4.out.lt (i := 1) rfl)
  have HB5 := Lib.hid (HB4.out.push 24 (q) (p) (L M) (F M))
  clear HB4
  go_wp2_with fail
  refine (K3.out _).mono ?_
  rintro e w4 ⟨rfl, hb⟩
  have HB6 := Lib.hid (HB5.out.step hb)
  clear HB5
  clear hb
  obtain ⟨⟨y0, y1, y2, y3⟩, yl⟩ := HB6.out.get 0 rfl
  obtain ⟨⟨a0, a1, a2, a3⟩, al⟩ := HB6.out.get 2 rfl
  obtain ⟨yf0, yf1, yf2, yf3⟩ := HB6.out.free 0 rfl
  have HB7 := Lib.hid (HB6.out.put0 (fun x hx => by have d1 := D3.out; have d2 := D2.out; simp at hx d1 d2; rcases hx with rfl | rfl <;> simp <;> omega) q p (L N) (F N))
  clear HB6
  have n1 : W.heap.size ≠ w3.heap.size := by have d2 : W.heap.size < w3.heap.size := D3.out; omega
  have n2 : w3.heap.size ≠ W.heap.size := fun h => n1 h.symm
  have HB8 := Lib.hid (HB7.out.push_at w4.heap.size (by simp) 24 q p l f)
  clear HB7
  have D4 := Lib.hid (show w3.heap.size < w4.heap.size from yl)
  have D5 := Lib.hid (show W.heap.size < w4.heap.size from al)
  have D6 := Lib.hid (show w2.heap.size < w4.heap.size from by have d : w2.heap.size < w3.heap.size := D2.out; omega)
  go_wp2_with fail
  go_loopw [14, 13] (fun iv av wr => ∃ i : Nat, iv = .int .i64 i ∧ i ≤ N ∧ av = .bool (B i) ∧ Hid (BxIn W wr [(w4.heap.size, 24, q, p, L i, F i), (w3.heap.size, 24, q, p, L N, F N), (w2.heap.size, 24, q, p, L N, F N), (W.heap.size, 24, q, p, l, f)])) (fun iv _ _ => N - (intOf iv).toNat)
  case atStart => exact ⟨0, rfl, by omega, by rw [show ((0 : Nat) : Int) = 0 from rfl, Z3.out], by rw [show ((0 : Nat) : Int) = 0 from rfl, Z1.out, Z2.out]; exact HB8⟩
  case round =>
    obtain ⟨i, rfl, hi, rfl, HI⟩ := hrel
    by_cases hlt : i < N
    · have ht := Lib.hid (T3.out i)
      have KT := Lib.hid (K4.out i)
      obtain ⟨⟨z0, z1, z2, z3⟩, zl⟩ := HI.out.get 0 rfl
      go_wp2_with fail
      refine (KT.out _).mono ?_
      rintro e w5 ⟨rfl, hb⟩
      clear z0 z1 z2 z3 zl
      have HJ := Lib.hid (HI.out.step hb)
      clear hb KT
      obtain ⟨⟨z0, z1, z2, z3⟩, zl⟩ := HJ.out.get 0 rfl
      obtain ⟨zf0, zf1, zf2, zf3⟩ := HJ.out.free 0 rfl
      have n3 : w4.heap.size ≠ w5.heap.size := by omega
      have n4 : w5.heap.size ≠ w4.heap.size := fun h => n3 h.symm
      have HQ := Lib.hid ((HJ.out.put0 (fun x hx => by have d4 := D4.out; have d5 := D5.out; have d6 := D6.out; simp at hx; rcases hx with rfl | rfl | rfl <;> simp <;> omega) q p (L (i + 1)) (F (i + 1))).push 24 q p (L (i + 1)) (F (i + 1))).tail
      obtain ⟨bi, hbi⟩ : ∃ bi, B i = bi := ⟨_, rfl⟩
      rw [hbi] at ht ⊢
      have HBI := Lib.hid hbi
      clear hbi
      cases bi
      all_goals
        go_wp2_with fail
        go_roundw
        case rel => exact ⟨i + 1, by go_num, by omega, by rw [show (((i + 1 : Nat) : Int)) = (i : Int) + 1 by omega, ht.out]; rfl, by rw [show (((i + 1 : Nat) : Int)) = (i : Int) + 1 by omega]; exact HQ⟩
        case measure => simp [intOf]; omega
    · obtain rfl : i = N := by omega
      obtain ⟨⟨z0, z1, z2, z3⟩, zl⟩ := HI.out.get 0 rfl
      obtain ⟨⟨y0, y1, y2, y3⟩, yl⟩ := HI.out.get 1 rfl
      obtain ⟨⟨x0, x1, x2, x3⟩, xl⟩ := HI.out.get 2 rfl
      have t2 := T2.out
      have t1 := T1.out
      rw [t1] at t2
      rw [t2]
      go_wp2_with fail
      all_goals
        go_ret
        exact ⟨rfl, HI.out.fr⟩
end Go.Proofs.Ytcomhbfblfclpaa
