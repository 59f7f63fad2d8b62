/- Rows of the reference: First. -/
import Derived.Test.YtaodkfnbmpbcfaaQf
import Derived.Test.YtaodkfnbmpbcfaaDk
namespace Go.Proofs.Ytaodkfnbmpbcfaa
open Go.RowKit

theorem res_ri {fn : Func} {p u : Tmp} (h : fn.results = #[.cell p 38, .tmp u]) (tmps : Array Value) (r : Nat) (cs : Array Value) (bb : Bool) (w : World) (h4 : tmps.getD p undef = .pointer (some ⟨r, 0, none⟩)) (h5 : tmps.getD u undef = .bool bb)
    (hc : cs.size = 3) (hr : w.heap[r]? = some (.cells cs 38 (0, 0))) : (results fn tmps).run Try.prog w = .ok (.tuple #[.agg cs, .bool bb]) w := by
  rw [results_cell_tmp h, h4, h5]
  have hl := run_loadVar_row (P := Try.prog) w r 38 38 cs (0, 0) _ hr Try.underlying38 rfl (by rw [hc]; kernel_rfl)
  simp [asAddr, hl]

/-- Who is first of those that may come, looked for in all. -/
def scanT (key : Int) (T : List RI) : Option RI := bestO (T.filter (fun r => decide (r.1 ≤ key)))
theorem scan_first {T : List RI} (ho : Ord (qL T)) (key : Int) : scanT key T = firstT key T := by
  unfold scanT firstT
  congr 1
  induction T with
  | nil => rfl
  | cons y T ih =>
    obtain ⟨h1, h2⟩ := List.pairwise_cons.1 (show List.Pairwise _ ((y.1, y.2.2) :: qL T) from ho)
    rw [List.filter_cons, List.takeWhile_cons]
    by_cases hy : y.1 ≤ key
    · rw [if_pos (by simpa using hy), if_pos (by simpa using hy), ih h2]
    · rw [if_neg (by simpa using hy), if_neg (by simpa using hy)]
      refine List.filter_eq_nil_iff.2 (fun z hz => ?_)
      have := h1 (z.1, z.2.2) (mem_qL.2 ⟨z, hz, rfl⟩)
      unfold befQ at this
      simp at this
      simp
      omega
theorem scan_no {key : Int} {T : List RI} {k : Nat} {y : RI} (h : T[k]? = some y) (hy : key < y.1) : scanT key (T.take (k + 1)) = scanT key (T.take k) := by
  unfold scanT
  have e : decide (y.1 ≤ key) = false := decide_eq_false (by omega)
  rw [List.take_add_one, h]
  simp [List.filter_append, e]
theorem scan_yes {key : Int} {T : List RI} {k : Nat} {y : RI} (h : T[k]? = some y) (hy : y.1 ≤ key) : scanT key (T.take (k + 1)) = better (scanT key (T.take k)) y := by
  unfold scanT
  have e : decide (y.1 ≤ key) = true := decide_eq_true hy
  rw [List.take_add_one, h, ← bestO_snoc]
  simp [List.filter_append, e]

/-- Where the best so far lies. -/
def BestAt (T : List RI) (o : Option RI) (best : Int) : Prop := (best = -1 ∧ o = none) ∨ ∃ (j : Nat) (r : RI), best = (j : Int) ∧ T[j]? = some r ∧ o = some r

set_option maxRecDepth 100000 in
set_option maxHeartbeats 4000000 in
theorem rowFirst_c (b : Nat) (most key : Int) (v : Value) (l : List RI) (w : World) (h : IsRow w b most v l) (hl : l.length ≤ 1000000) :
    Calls Try.prog 26 #[.pointer (some ⟨b, 0, none⟩), .int .i64 key] w fun e w' => e = .returned (.tuple #[.agg (encR (optR (scanT key l)).1).toArray, .bool (optR (scanT key l)).2]) ∧ Below w.heap.size w w' := by
  have hbl : b < w.heap.size := (Array.getElem?_eq_some_iff.1 h.1).1
  obtain ⟨ob, hob⟩ : ∃ ob, optR (scanT key l) = ob := ⟨_, rfl⟩
  have HOB := Lib.hid hob
  rw [hob]
  obtain ⟨⟨o0, o1, o2⟩, bb⟩ := ob
  simp only [encR]
  clear hob
  obtain ⟨A, c, rfl⟩ := h.2.1.form
  obtain ⟨n, hn⟩ : ∃ n, l.length = n := ⟨_, rfl⟩
  obtain ⟨w1, hw1⟩ : ∃ w1, w.alloc (.cells #[.int .i64 0, .int .i64 0, .int .i64 0] 38) = w1 := ⟨_, rfl⟩
  have hb1 : Below w.heap.size w w1 := by rw [← hw1]; exact (Below.refl _ w).alloc (Nat.le_refl _) _
  have hz1 : w1.heap[w.heap.size]? = some (.cells #[.int .i64 0, .int .i64 0, .int .i64 0] 38 (0, 0)) := by rw [← hw1]; exact World.alloc_heap_new _ _
  have hrow := below_row h hb1
  have c1 : w1.cell? ⟨b, 1, none⟩ = some (.slice A n c) := by simp [World.cell?, hrow.1, hn]
  have HROW := Lib.hid hrow.2.1
  have HN := Lib.hid hn
  have HB1 := Lib.hid hb1
  have HZ1 := Lib.hid hz1
  have HW1 := Lib.hid hw1
  rw [hn] at hl
  clear h hrow hn hb1 hz1 hw1
  go_enter Try.func26, Try.ntmps26
  go_wp2_with fail
  rw [HW1.out]
  go_loopw [6, 7] (fun best i wr => ∃ (k nq : Nat) (bi : Int), best = .int .i64 bi ∧ i = .int .i64 k ∧ k ≤ n ∧ wr = w1.drewN nq ∧ Hid (BestAt l (scanT key (l.take k)) bi)) (fun _ i _ => n - (intOf i).toNat)
  case atStart => exact ⟨0, 0, -1, rfl, rfl, Nat.zero_le _, rfl, Lib.hid (.inl ⟨rfl, rfl⟩)⟩
  case round =>
    obtain ⟨k, nq, bi, rfl, rfl, hk, rfl, HBA⟩ := hrel
    have c1' : (w1.drewN nq).cell? ⟨b, 1, none⟩ = some (.slice A n c) := c1
    by_cases hlt : k < n
    · have hkl : k < l.length := by rw [HN.out]; exact hlt
      obtain ⟨y, hy⟩ : ∃ y, l[k]? = some y := ⟨_, List.getElem?_eq_getElem hkl⟩
      obtain ⟨g, cc, hv, _, _, y0', y1', y2'⟩ := HROW.out.get hy
      rw [HN.out] at hv
      injection hv with hv1 hv2 hv3
      subst hv1 hv3
      have HY := Lib.hid hy
      obtain ⟨y0, y1, y2⟩ := y
      simp only at y0' y1' y2'
      have d0 : (w1.drewN nq).cell? ⟨g, k * 3, none⟩ = some (.int .i64 y0) := y0'
      have d1 : (w1.drewN nq).cell? ⟨g, k * 3 + 1, none⟩ = some (.int .i64 y1) := y1'
      have d2 : (w1.drewN nq).cell? ⟨g, k * 3 + 2, none⟩ = some (.int .i64 y2) := y2'
      have hkm : (k : Int) < (n : Int) := by omega
      clear hy hv2 hkl
      by_cases hky : y0 ≤ key
      · have e0 : decide (y0 ≤ key) = true := decide_eq_true hky
        have HSC := Lib.hid (scan_yes HY.out hky)
        rcases HBA.out with ⟨hb, ho⟩ | ⟨j, r, hb, hj, ho⟩
        · subst hb
          have e1 : decide ((-1 : Int) < 0) = true := by decide
          have HN' : Hid (BestAt l (scanT key (l.take (k + 1))) (k : Int)) := Lib.hid (.inr ⟨k, _, rfl, HY.out, by rw [HSC.out, ho]; rfl⟩)
          clear ho HBA HSC
          go_wp2_with fail
          try dsimp only [List.append]
          go_big_quiet (fail)
          go_wp2_with fail
          go_roundw
          case rel => exact ⟨k + 1, _, k, rfl, by go_num, by omega, rfl, HN'⟩
          case measure => simp [intOf]; omega
        · subst hb
          have hjl : j < n := by rw [← HN.out]; exact (List.getElem?_eq_some_iff.1 hj).1
          obtain ⟨g', cc', hv, _, _, r0', r1', r2'⟩ := HROW.out.get hj
          obtain rfl : g = g' := by injection hv with hv1; injection hv1 with hv1; injection hv1 with hv1
          obtain ⟨r0, r1, r2⟩ := r
          simp only at r0' r1' r2'
          have f1 : (w1.drewN nq).cell? ⟨g, j * 3 + 1, none⟩ = some (.int .i64 r1) := r1'
          have f2 : (w1.drewN nq).cell? ⟨g, j * 3 + 2, none⟩ = some (.int .i64 r2) := r2'
          have hjm : (j : Int) < (n : Int) := by omega
          have hj0 : decide ((j : Int) < 0) = false := decide_eq_false (by omega)
          have HJ := Lib.hid hj
          have HO := Lib.hid ho
          clear hv hj ho HBA
          cases hdb : dueB (y0, y1, y2) (r0, r1, r2) with
          | true =>
            have HN' : Hid (BestAt l (scanT key (l.take (k + 1))) (k : Int)) := Lib.hid (.inr ⟨k, _, rfl, HY.out, by rw [HSC.out, HO.out, better]; simp [hdb]⟩)
            have hlex : y1 < r1 ∨ (y1 = r1 ∧ y2 < r2) := by
              unfold dueB at hdb
              simp at hdb
              omega
            clear hdb HSC
            rcases hlex with h1 | ⟨h1, h2⟩
            case' inl =>
              have e1 : decide (y1 < r1) = true := decide_eq_true h1
              clear h1
            case' inr =>
              subst h1
              have e1 : decide (y1 < y1) = false := by simp
              have e2 : (y1 == y1) = true := by simp
              have e3 : decide (y2 < r2) = true := decide_eq_true h2
              clear h2
            all_goals
              go_wp2_with fail
              try dsimp only [List.append]
              go_big_quiet (fail)
              go_wp2_with fail
              go_roundw
              case rel => exact ⟨k + 1, _, k, rfl, by go_num, by omega, rfl, HN'⟩
              case measure => simp [intOf]; omega
          | false =>
            have HN' : Hid (BestAt l (scanT key (l.take (k + 1))) (j : Int)) := Lib.hid (.inr ⟨j, _, rfl, HJ.out, by rw [HSC.out, HO.out, better]; simp [hdb]⟩)
            have hlex := dueB_false.1 hdb
            simp only at hlex
            have e1 : decide (y1 < r1) = false := decide_eq_false (by omega)
            clear hdb HSC
            by_cases h1 : y1 = r1
            case' pos =>
              subst h1
              have e2 : (y1 == y1) = true := by simp
              have e3 : decide (y2 < r2) = false := decide_eq_false (by omega)
              clear hlex
            case' neg =>
              have e2 : (y1 == r1) = false := by simpa using h1
              clear hlex h1
            all_goals
              go_wp2_with fail
              try dsimp only [List.append]
              go_big_quiet (fail)
              go_wp2_with fail
              go_roundw
              case rel => exact ⟨k + 1, _, j, rfl, by go_num, by omega, rfl, HN'⟩
              case measure => simp [intOf]; omega
      · have e0 : decide (y0 ≤ key) = false := decide_eq_false hky
        have HSC := Lib.hid (scan_no HY.out (by omega : key < y0))
        go_wp2_with fail
        try dsimp only [List.append]
        go_big_quiet (fail)
        go_wp2_with fail
        go_roundw
        case rel => exact ⟨k + 1, _, bi, rfl, by go_num, by omega, rfl, Lib.hid (by rw [HSC.out]; exact HBA.out)⟩
        case measure => simp [intOf]; omega
    · obtain rfl : k = n := by omega
      have hba := HBA.out
      rw [List.take_of_length_le (by rw [HN.out]; exact Nat.le_refl _)] at hba
      have hz := HZ1.out
      have t0 : (w1.drewN nq).cell? ⟨w.heap.size, 0, none⟩ = some (.int .i64 0) := by simp [World.cell?, hz]
      have t1 : (w1.drewN nq).cell? ⟨w.heap.size, 1, none⟩ = some (.int .i64 0) := by simp [World.cell?, hz]
      have t2 : (w1.drewN nq).cell? ⟨w.heap.size, 2, none⟩ = some (.int .i64 0) := by simp [World.cell?, hz]
      have s0 : w1.cell? ⟨w.heap.size, 0, none⟩ = some (.int .i64 0) := by simp [World.cell?, hz]
      have s1 : w1.cell? ⟨w.heap.size, 1, none⟩ = some (.int .i64 0) := by simp [World.cell?, hz]
      have s2 : w1.cell? ⟨w.heap.size, 2, none⟩ = some (.int .i64 0) := by simp [World.cell?, hz]
      have f0 : w1.frozen? ⟨w.heap.size, 0, none⟩ = false := by simp [World.frozen?, hz]
      have f1 : w1.frozen? ⟨w.heap.size, 1, none⟩ = false := by simp [World.frozen?, hz]
      have f2 : w1.frozen? ⟨w.heap.size, 2, none⟩ = false := by simp [World.frozen?, hz]
      clear hz HBA hlt
      rcases hba with ⟨hb, ho⟩ | ⟨j, r, hb, hj, ho⟩
      · subst hb
        have hob := HOB.out
        rw [ho] at hob
        simp only [optR, Prod.mk.injEq] at hob
        obtain ⟨⟨rfl, rfl, rfl⟩, rfl⟩ := hob
        clear ho
        go_wp2_with fail
        refine bodyPost_ret (res_ri rfl _ w.heap.size #[.int .i64 0, .int .i64 0, .int .i64 0] false _ rfl rfl rfl (set3_same (w := w1.drewN nq) _ _ _ HZ1.out)) rfl ?_
        exact ⟨rfl, ((below_drewN HB1.out nq).setCell (p := ⟨w.heap.size, 0, none⟩) (Nat.le_refl _) _ |>.setCell (p := ⟨w.heap.size, 1, none⟩) (Nat.le_refl _) _ |>.setCell (p := ⟨w.heap.size, 2, none⟩) (Nat.le_refl _) _)⟩
      · subst hb
        have hob := HOB.out
        rw [ho] at hob
        have hjl : j < k := by rw [← HN.out]; exact (List.getElem?_eq_some_iff.1 hj).1
        obtain ⟨g, cc, hv, hgw, _, r0', r1', r2'⟩ := HROW.out.get hj
        rw [HN.out] at hv
        injection hv with hv1 hv2 hv3
        subst hv1 hv3
        obtain ⟨r0, r1, r2⟩ := r
        simp only [optR, Prod.mk.injEq] at hob
        obtain ⟨⟨rfl, rfl, rfl⟩, rfl⟩ := hob
        simp only at r0' r1' r2'
        have q0 : (w1.drewN nq).cell? ⟨g, j * 3, none⟩ = some (.int .i64 r0) := r0'
        have q1 : (w1.drewN nq).cell? ⟨g, j * 3 + 1, none⟩ = some (.int .i64 r1) := r1'
        have q2 : (w1.drewN nq).cell? ⟨g, j * 3 + 2, none⟩ = some (.int .i64 r2) := r2'
        have hjm : (j : Int) < (k : Int) := by omega
        have hj0 : decide ((j : Int) < 0) = false := decide_eq_false (by omega)
        clear ho hj hv2
        go_wp2_with fail
        refine bodyPost_ret (res_ri rfl _ w.heap.size #[.int .i64 r0, .int .i64 r1, .int .i64 r2] true _ rfl rfl rfl (set3_same (w := w1.drewN nq) _ _ _ HZ1.out)) rfl ?_
        exact ⟨rfl, ((below_drewN HB1.out nq).setCell (p := ⟨w.heap.size, 0, none⟩) (Nat.le_refl _) _ |>.setCell (p := ⟨w.heap.size, 1, none⟩) (Nat.le_refl _) _ |>.setCell (p := ⟨w.heap.size, 2, none⟩) (Nat.le_refl _) _)⟩
end Go.Proofs.Ytaodkfnbmpbcfaa
