/- The reference's Pick of the second policy: Cur goes on until it is too far ahead. -/
import Derived.Test.YtnfcapeajhegmaaMu
namespace Go.Proofs.Ytnfcapeajhegmaa
open Go.RowKit

/-- Who runs: Cur, if it is there and the least one is not too far behind it; else the least one. -/
def GoesOn (l : List TI) (cur : Int) (x : TI) (c : Int) : Prop :=
  (atT cur l 0 = -1 ∧ c = x.1) ∨ ∃ (k : Nat) (y : TI), atT cur l 0 = ((k : Nat) : Int) ∧ l[k]? = some y ∧ y.1 = cur ∧ c = if y.2.2.1 - 465585120 ≤ x.2.2.1 then cur else x.1

set_option maxRecDepth 100000 in
set_option maxHeartbeats 8000000 in
theorem rpick1_some (p : Nat) (base cur : Int) (v : Value) (l : List TI) (w : World) (h : IsT w p 1 base cur v l) (hl : l.length ≤ 1000000) (hne : l ≠ []) (hlo : ∀ y ∈ l, -4000000000000000000 ≤ y.2.2.1 ∧ y.2.2.1 ≤ 4000000000000000000) :
    Calls Try.prog 42 #[.pointer (some ⟨p, 0, none⟩)] w fun e w' => ∃ b x c, FirstT l b x ∧ GoesOn l cur x c ∧ e = .returned (.tuple #[.int .i64 c, .bool true]) ∧ RPost p 1 v base c l w w' := by
  obtain ⟨n, hn⟩ : ∃ n, l.length = n := ⟨_, rfl⟩
  have hn0 : 0 < n := by rw [← hn]; exact List.length_pos_iff.2 hne
  obtain ⟨c0, c1, c2, c3⟩ := h.cells
  have f2 := h.free 2
  have HS := Lib.hid (BestAt.start (l := l) (by omega))
  have HN := Lib.hid hn
  have HH := Lib.hid h
  have HLO := Lib.hid hlo
  have HNE := Lib.hid hl
  obtain ⟨A, c, rfl⟩ := h.2.1.form
  rw [hn] at c3 hl
  have hnz : ((n : Int) == 0) = false := by simp; omega
  clear h hne hn hlo
  go_enter Try.func42, Try.ntmps42
  go_wp2_with fail
  go_loopw [4, 6, 7, 8] (fun fb sm al iv wr => ∃ (i b q : Nat) (s a : Int), iv = .int .i64 i ∧ fb = .int .i64 b ∧ sm = .int .i64 s ∧ al = .int .i64 a ∧ i ≤ n ∧ b < n ∧ Hid (BestAt l i b) ∧ wr = w.drewN q) (fun _ _ _ iv _ => n - (intOf iv).toNat)
  case atStart => exact ⟨0, 0, 0, 0, 0, rfl, rfl, rfl, rfl, by omega, hn0, HS, rfl⟩
  case round =>
    clear HS
    obtain ⟨i, b, q, s, a, rfl, rfl, rfl, rfl, hi, hb, HB, rfl⟩ := hrel
    obtain ⟨x, hx⟩ : ∃ x, l[b]? = some x := ⟨_, List.getElem?_eq_getElem (by rw [HN.out]; exact hb)⟩
    obtain ⟨g, cc, hv, _, _, d0, -, d2, -⟩ := HH.out.2.1.get hx
    rw [HN.out] at hv
    injection hv with hv1 hv2 hv3
    subst hv1 hv3
    have HX := Lib.hid hx
    clear hx hv2
    have hb0 : (0 : Int) ≤ (b : Int) := by omega
    have hbn : (b : Int) < (n : Int) := by omega
    by_cases hlt : i < n
    · obtain ⟨y, hy⟩ : ∃ y, l[i]? = some y := ⟨_, List.getElem?_eq_getElem (by rw [HN.out]; exact hlt)⟩
      obtain ⟨g', cc', hv, _, _, t0, t1, t2, t3⟩ := HH.out.2.1.get hy
      rw [HN.out] at hv
      injection hv with hv1 hv2 hv3
      obtain rfl : g = g' := by injection hv1 with hv1; injection hv1
      have HY := Lib.hid hy
      have hin : (i : Int) < (n : Int) := by omega
      clear hy hv1 hv2 hv3 t0 t3
      by_cases hc : y.2.2.1 < x.2.2.1
      · have HNX := Lib.hid (HB.out.take HX.out HY.out hc)
        obtain ⟨x0, x1, xv, x3⟩ := x
        obtain ⟨y0, y1, yv, y3⟩ := y
        simp only at d0 d2 t1 t2 hc
        go_wp2_with fail
        go_big_quiet (fail)
        go_wp2_with fail
        go_big_quiet (fail)
        go_wp2_with fail
        go_roundw
        case rel => exact ⟨i + 1, i, _, _, _, by go_num, rfl, rfl, rfl, by omega, hlt, HNX, rfl⟩
        case measure => simp [intOf]; omega
      · have HNX := Lib.hid (HB.out.skip HX.out HY.out hc)
        obtain ⟨x0, x1, xv, x3⟩ := x
        obtain ⟨y0, y1, yv, y3⟩ := y
        simp only at d0 d2 t1 t2 hc
        go_wp2_with fail
        go_big_quiet (fail)
        go_wp2_with fail
        go_big_quiet (fail)
        go_wp2_with fail
        go_roundw
        case rel => exact ⟨i + 1, b, _, _, _, by go_num, rfl, rfl, rfl, by omega, hb, HNX, rfl⟩
        case measure => simp [intOf]; omega
    · obtain rfl : i = n := by omega
      have hd := HB.out
      rw [← HN.out] at hd
      have HD := Lib.hid (hd.done HX.out)
      clear hd HB
      obtain ⟨w1, hw1⟩ : ∃ w1, w.drewN q = w1 := ⟨_, rfl⟩
      have hq1 : IsT w1 p 1 base cur (.slice (some ⟨g, 0, none⟩) l.length c) l := by rw [← hw1]; exact HH.out
      have HT1 : Hid (Trip (TOf p (.slice (some ⟨g, 0, none⟩) l.length c)) w (TOf p (.slice (some ⟨g, 0, none⟩) l.length c)) w1) := Lib.hid (by rw [← hw1]; exact tripN HH.out.self q)
      have HQ1 := Lib.hid hq1
      obtain ⟨u0, u1, u2, u3⟩ := hq1.cells
      rw [HN.out] at u3
      have KA := Lib.hid (rat_c p 1 base cur cur _ l w1 hq1 HNE.out)
      rw [hw1]
      clear hw1 hq1 c0 c1 c2 c3 f2 d0 d2
      rcases atT_found cur l 0 with ⟨h1, h2⟩ | ⟨k, y, h1, h2, h3⟩
      · rw [h1] at KA
        have HF : Hid (GoesOn l cur x x.1) := Lib.hid (.inl ⟨h1, rfl⟩)
        clear h1 h2
        obtain ⟨g', c', hv, _, _, d0, -⟩ := HQ1.out.2.1.get HX.out
        injection hv with hv1 hv2 hv3
        obtain rfl : g = g' := by injection hv1 with hv1; injection hv1
        clear hv1 hv2 hv3
        generalize hx0 : x.1 = x0 at *
        go_wp2_with fail
        refine KA.out.mono ?_; rintro e w' ⟨rfl, rfl⟩
        clear KA
        go_wp2_with fail
        go_big_quiet (fail)
        obtain ⟨w2, hw2⟩ : ∃ w2, w1.drewN nq = w2 := ⟨_, rfl⟩
        have hq2 : IsT w2 p 1 base cur (.slice (some ⟨g, 0, none⟩) l.length c) l := by rw [← hw2]; exact HQ1.out
        have HT2 : Hid (Trip (TOf p (.slice (some ⟨g, 0, none⟩) l.length c)) w (TOf p (.slice (some ⟨g, 0, none⟩) l.length c)) w2) := Lib.hid (by rw [← hw2]; exact tripN HT1.out nq)
        obtain ⟨s0, s1, s2, s3⟩ := hq2.cells
        rw [HN.out] at s3
        have e0 : w2.cell? ⟨g, b * 4, none⟩ = some (.int .i64 x0) := by rw [← hw2]; exact d0
        have g2 := hq2.free 2
        have pst := hq2.setC x0
        have v2 := pst.1.cells.2.2.1
        have POST := Lib.hid pst
        rw [hw2]
        clear hw2 hq2 pst u0 u1 u2 u3 d0
        go_wp2_with fail
        go_ret2
        exact ⟨_, _, _, HD.out, HF.out, rfl, _, POST.out.1, HT2.out.trans POST.out.2⟩
      · rw [Nat.zero_add] at h1
        rw [h1] at KA
        subst h3
        have HLY := Lib.hid (HLO.out y (List.mem_of_getElem? h2))
        obtain ⟨g', c', hv, _, _, d0, d1, d2, d3⟩ := HQ1.out.2.1.get HX.out
        injection hv with hv1 hv2 hv3
        obtain rfl : g = g' := by injection hv1 with hv1; injection hv1
        obtain ⟨g', c'', hw, _, _, t0, t1, t2, t3⟩ := HQ1.out.2.1.get h2
        injection hw with hw1 hw2 hw3
        obtain rfl : g = g' := by injection hw1 with hw1; injection hw1
        have HY := Lib.hid (And.intro h1 h2)
        have hkn : k < i := by rw [← HN.out]; exact (List.getElem?_eq_some_iff.1 h2).1
        have hk0 : (0 : Int) ≤ (k : Int) := by omega
        have hkn' : (k : Int) < (i : Int) := by omega
        clear hv1 hv2 hv3 hw1 hw2 hw3 h1 h2 d1 d3 t0 t1 t3
        obtain ⟨x0, x1, xv, x3⟩ := x
        obtain ⟨y0, y1, yv, y3⟩ := y
        simp only at d0 d2 t2 HLY HQ1 KA u2 HY HX
        have hwr : IntKind.i64.wrap (yv - 465585120) = yv - 465585120 := by have := HLY.out; rw [IntKind.wrap_i64]; omega
        by_cases hf : yv - 465585120 ≤ xv
        · have HF : Hid (GoesOn l y0 (x0, x1, xv, x3) y0) := Lib.hid (.inr ⟨k, _, HY.out.1, HY.out.2, rfl, (if_pos hf).symm⟩)
          go_wp2_with fail
          refine KA.out.mono ?_; rintro e w' ⟨rfl, rfl⟩
          clear KA
          go_wp2_with fail
          go_big_quiet (fail)
          obtain ⟨w2, hw2⟩ : ∃ w2, w1.drewN nq = w2 := ⟨_, rfl⟩
          have hq2 : IsT w2 p 1 base y0 (.slice (some ⟨g, 0, none⟩) l.length c) l := by rw [← hw2]; exact HQ1.out
          have HT2 : Hid (Trip (TOf p (.slice (some ⟨g, 0, none⟩) l.length c)) w (TOf p (.slice (some ⟨g, 0, none⟩) l.length c)) w2) := Lib.hid (by rw [← hw2]; exact tripN HT1.out nq)
          obtain ⟨s0, s1, s2, s3⟩ := hq2.cells
          rw [HN.out] at s3
          rw [hw2]
          have HQ2 := Lib.hid hq2
          clear hw2 hq2 u0 u1 u2 u3
          go_wp2_with fail
          go_ret2
          exact ⟨b, x0, x1, xv, x3, HD.out, y0, HF.out, rfl, _, HQ2.out, HT2.out⟩
        · have HF : Hid (GoesOn l y0 (x0, x1, xv, x3) x0) := Lib.hid (.inr ⟨k, _, HY.out.1, HY.out.2, rfl, (if_neg hf).symm⟩)
          go_wp2_with fail
          refine KA.out.mono ?_; rintro e w' ⟨rfl, rfl⟩
          clear KA
          go_wp2_with fail
          go_big_quiet (fail)
          obtain ⟨w2, hw2⟩ : ∃ w2, w1.drewN nq = w2 := ⟨_, rfl⟩
          have hq2 : IsT w2 p 1 base y0 (.slice (some ⟨g, 0, none⟩) l.length c) l := by rw [← hw2]; exact HQ1.out
          have HT2 : Hid (Trip (TOf p (.slice (some ⟨g, 0, none⟩) l.length c)) w (TOf p (.slice (some ⟨g, 0, none⟩) l.length c)) w2) := Lib.hid (by rw [← hw2]; exact tripN HT1.out nq)
          obtain ⟨s0, s1, s2, s3⟩ := hq2.cells
          rw [HN.out] at s3
          have e0 : w2.cell? ⟨g, b * 4, none⟩ = some (.int .i64 x0) := by rw [← hw2]; exact d0
          have g2 := hq2.free 2
          have pst := hq2.setC x0
          have v2 := pst.1.cells.2.2.1
          have POST := Lib.hid pst
          rw [hw2]
          clear hw2 hq2 pst u0 u1 u2 u3 d0
          go_wp2_with fail
          go_ret2
          exact ⟨b, x0, x1, xv, x3, HD.out, x0, HF.out, rfl, _, POST.out.1, HT2.out.trans POST.out.2⟩
end Go.Proofs.Ytnfcapeajhegmaa
