/- AccountSays: its walk. -/
import Derived.Test.YtcomhbfblfclpaaAi
import Derived.Deep.RegionHeld3
import Derived.DataShut
namespace Go.Proofs.Ytcomhbfblfclpaa
open Go.RowKit

theorem wf_top {z : Int} (h : (Lit.int .i64 z).wf = true) : z ≤ 9223372036854775807 := by
  have := ((Lit.wf_int_iff .i64 z).1 h).2
  exact Int.le_trans this (by decide)

set_option maxRecDepth 100000 in
set_option maxHeartbeats 4000000 in
theorem accountSays_c (q p l f qu pe n : Int) (hn : n ≤ 9223372036854775807) (W : World) : Calls Try.prog 4 #[.agg #[.int .i64 q, .int .i64 p, .int .i64 l, .int .i64 f], .int .i64 qu, .int .i64 pe, .int .i64 n] W fun e w' => e = .returned (.bool true) ∧ Below W.heap.size W w' := by
  have KA := Lib.hid (fun w => awake8_c w)
  have KO := Lib.hid (fun w => own_c q p l f w)
  have KN := Lib.hid (fun w => new_c qu pe w)
  have KNr := Lib.hid (fun w => rnew_c qu pe w)
  have KU := Lib.hid (fun w => use_c q p l f w)
  have KUr := Lib.hid (fun w => ruse_c q p l f w)
  have KT := Lib.hid (fun w => tick_c q p l f n w)
  have KTr := Lib.hid (fun w => rtick_c q p l f n hn w)
  have KG := Lib.hid (fun w => good_c q p l f w)
  have KGr := Lib.hid (fun w => rgood_c q p l f w)
  have KS := Lib.hid (fun w => spent_c q p l f w)
  have KSr := Lib.hid (fun w => rspent_c q p l f w)
  have KX := Lib.hid (fun w => next_c q p l f w)
  have KXr := Lib.hid (fun w => rnext_c q p l f w)
  clear hn
  unfold useV at KU KUr
  unfold tickV at KT KTr
  generalize newQ qu pe = v0 at *
  generalize newP qu pe = v1 at *
  generalize newE qu pe = v2 at *
  generalize (limB q p l f && decide (l = 0)) = s0 at *
  generalize nextV q p l f = x0 at *
  generalize orZ (useOk q p l f) q = u0 at *
  generalize orZ (useOk q p l f) p = u1 at *
  generalize useL q p l f = u2 at *
  generalize orZ (useOk q p l f) f = u3 at *
  generalize useE q p l f = u4 at *
  generalize tickL q p l f n = t2 at *
  generalize tickF q p l f n = t3 at *
  generalize tickB q p l f n = t4 at *
  generalize goodA q p l f = g0 at *
  have KO1 := Lib.hid (fun w => own_c v0 v1 v0 0 w)
  have KO2 := Lib.hid (fun w => own_c u0 u1 u2 u3 w)
  have KO3 := Lib.hid (fun w => own_c q p t2 t3 w)
  go_enter Try.func4, Try.ntmps4
  go_wp2_with fail
  have HA0 := Lib.hid ((BxIn.nil (Below.refl _ W)).push 24 q p l f)
  refine (KA.out _).mono ?_
  rintro e w1 ⟨rfl, hb⟩
  have HB1 := Lib.hid (HA0.out.step hb)
  clear HA0
  clear hb
  obtain ⟨⟨a0, a1, a2, a3⟩, al⟩ := HB1.out.get 0 rfl
  go_wp2_with fail
  refine (KO.out _).mono ?_
  rintro e w2 ⟨rfl, hb⟩
  clear a0 a1 a2 a3 al
  have HB2 := Lib.hid (HB1.out.step hb)
  clear HB1
  clear hb
  obtain ⟨⟨a0, a1, a2, a3⟩, al⟩ := HB2.out.get 0 rfl
  have HB3 := Lib.hid (HB2.out.push 33 (q) (p) (l) (f))
  clear HB2
  go_wp2_with fail
  refine (KN.out _).mono ?_
  rintro e w3 ⟨rfl, hb⟩
  clear a0 a1 a2 a3 al
  have HB4 := Lib.hid (HB3.out.step hb)
  clear HB3
  clear hb
  have HB5 := Lib.hid (HB4.out.push 24 (v0) (v1) (v0) (0))
  clear HB4
  go_wp2_with fail
  refine (KNr.out _).mono ?_
  rintro e w4 ⟨rfl, hb⟩
  have HB6 := Lib.hid (HB5.out.step hb)
  clear HB5
  clear hb
  obtain ⟨⟨a0, a1, a2, a3⟩, al⟩ := HB6.out.get 2 rfl
  have HB7 := Lib.hid (HB6.out.push 33 (v0) (v1) (v0) (0))
  clear HB6
  go_wp2_with fail
  refine (KU.out _).mono ?_
  rintro e w5 ⟨rfl, hb⟩
  clear a0 a1 a2 a3 al
  have HB8 := Lib.hid (HB7.out.step hb)
  clear HB7
  clear hb
  obtain ⟨⟨w0, w1, w2, w3⟩, wl⟩ := HB8.out.get 2 rfl
  have HB9 := Lib.hid (HB8.out.push 24 (u0) (u1) (u2) (u3))
  clear HB8
  go_wp2_with fail
  refine (KUr.out _).mono ?_
  rintro e w6 ⟨rfl, hb⟩
  clear w0 w1 w2 w3 wl
  have HB10 := Lib.hid (HB9.out.step hb)
  clear HB9
  clear hb
  obtain ⟨⟨a0, a1, a2, a3⟩, al⟩ := HB10.out.get 4 rfl
  have HB11 := Lib.hid (HB10.out.push 33 (u0) (u1) (u2) (u3))
  clear HB10
  go_wp2_with fail
  refine (KT.out _).mono ?_
  rintro e w7 ⟨rfl, hb⟩
  clear a0 a1 a2 a3 al
  have HB12 := Lib.hid (HB11.out.step hb)
  clear HB11
  clear hb
  obtain ⟨⟨w0, w1, w2, w3⟩, wl⟩ := HB12.out.get 4 rfl
  have HB13 := Lib.hid (HB12.out.push 24 (q) (p) (t2) (t3))
  clear HB12
  go_wp2_with fail
  refine (KTr.out _).mono ?_
  rintro e w8 ⟨rfl, hb⟩
  clear w0 w1 w2 w3 wl
  have HB14 := Lib.hid (HB13.out.step hb)
  clear HB13
  clear hb
  have HB15 := Lib.hid (HB14.out.push 33 (q) (p) (t2) (t3))
  clear HB14
  have CELL : Hid (∀ w', BxIn W w' [(w8.heap.size, 33, q, p, t2, t3), (w7.heap.size, 24, q, p, t2, t3), (w6.heap.size, 33, u0, u1, u2, u3), (w5.heap.size, 24, u0, u1, u2, u3), (w4.heap.size, 33, v0, v1, v0, 0), (w3.heap.size, 24, v0, v1, v0, 0), (w2.heap.size, 33, q, p, l, f), (W.heap.size, 24, q, p, l, f)] → w'.cell? ⟨w8.heap.size, 0, none⟩ = some (.int .i64 q) ∧ w'.cell? ⟨w8.heap.size, 1, none⟩ = some (.int .i64 p) ∧ w'.cell? ⟨w8.heap.size, 2, none⟩ = some (.int .i64 t2) ∧ w'.cell? ⟨w8.heap.size, 3, none⟩ = some (.int .i64 t3) ∧ w'.cell? ⟨w7.heap.size, 0, none⟩ = some (.int .i64 q) ∧ w'.cell? ⟨w7.heap.size, 1, none⟩ = some (.int .i64 p) ∧ w'.cell? ⟨w7.heap.size, 2, none⟩ = some (.int .i64 t2) ∧ w'.cell? ⟨w7.heap.size, 3, none⟩ = some (.int .i64 t3) ∧ w'.cell? ⟨w6.heap.size, 0, none⟩ = some (.int .i64 u0) ∧ w'.cell? ⟨w6.heap.size, 1, none⟩ = some (.int .i64 u1) ∧ w'.cell? ⟨w6.heap.size, 2, none⟩ = some (.int .i64 u2) ∧ w'.cell? ⟨w6.heap.size, 3, none⟩ = some (.int .i64 u3) ∧ w'.cell? ⟨w5.heap.size, 0, none⟩ = some (.int .i64 u0) ∧ w'.cell? ⟨w5.heap.size, 1, none⟩ = some (.int .i64 u1) ∧ w'.cell? ⟨w5.heap.size, 2, none⟩ = some (.int .i64 u2) ∧ w'.cell? ⟨w5.heap.size, 3, none⟩ = some (.int .i64 u3) ∧ w'.cell? ⟨w4.heap.size, 0, none⟩ = some (.int .i64 v0) ∧ w'.cell? ⟨w4.heap.size, 1, none⟩ = some (.int .i64 v1) ∧ w'.cell? ⟨w4.heap.size, 2, none⟩ = some (.int .i64 v0) ∧ w'.cell? ⟨w4.heap.size, 3, none⟩ = some (.int .i64 0) ∧ w'.cell? ⟨w3.heap.size, 0, none⟩ = some (.int .i64 v0) ∧ w'.cell? ⟨w3.heap.size, 1, none⟩ = some (.int .i64 v1) ∧ w'.cell? ⟨w3.heap.size, 2, none⟩ = some (.int .i64 v0) ∧ w'.cell? ⟨w3.heap.size, 3, none⟩ = some (.int .i64 0) ∧ w'.cell? ⟨w2.heap.size, 0, none⟩ = some (.int .i64 q) ∧ w'.cell? ⟨w2.heap.size, 1, none⟩ = some (.int .i64 p) ∧ w'.cell? ⟨w2.heap.size, 2, none⟩ = some (.int .i64 l) ∧ w'.cell? ⟨w2.heap.size, 3, none⟩ = some (.int .i64 f) ∧ w'.cell? ⟨W.heap.size, 0, none⟩ = some (.int .i64 q) ∧ w'.cell? ⟨W.heap.size, 1, none⟩ = some (.int .i64 p) ∧ w'.cell? ⟨W.heap.size, 2, none⟩ = some (.int .i64 l) ∧ w'.cell? ⟨W.heap.size, 3, none⟩ = some (.int .i64 f)) := Lib.hid fun w' h => by
    obtain ⟨⟨qq0, qq1, qq2, qq3⟩, -⟩ := h.get 0 rfl
    obtain ⟨⟨pp0, pp1, pp2, pp3⟩, -⟩ := h.get 1 rfl
    obtain ⟨⟨v0, v1, v2, v3⟩, -⟩ := h.get 2 rfl
    obtain ⟨⟨u0, u1, u2, u3⟩, -⟩ := h.get 3 rfl
    obtain ⟨⟨y0, y1, y2, y3⟩, -⟩ := h.get 4 rfl
    obtain ⟨⟨x0, x1, x2, x3⟩, -⟩ := h.get 5 rfl
    obtain ⟨⟨w0, w1, w2, w3⟩, -⟩ := h.get 6 rfl
    obtain ⟨⟨a0, a1, a2, a3⟩, -⟩ := h.get 7 rfl
    exact ⟨qq0, qq1, qq2, qq3, pp0, pp1, pp2, pp3, v0, v1, v2, v3, u0, u1, u2, u3, y0, y1, y2, y3, x0, x1, x2, x3, w0, w1, w2, w3, a0, a1, a2, a3⟩
  generalize hwz : w8.alloc (.cells #[.int .i64 q, .int .i64 p, .int .i64 t2, .int .i64 t3] 33) = wz at HB15
  have HZ := Lib.hid HB15.out.drew
  have hc0 := CELL.out _ HZ.out
  clear KA KO KN KNr KU KUr KT KTr
  go_wp2_with fail
  go_region_held3 (fun w' => w'.cell? ⟨w8.heap.size, 0, none⟩ = some (.int .i64 q) ∧ w'.cell? ⟨w8.heap.size, 1, none⟩ = some (.int .i64 p) ∧ w'.cell? ⟨w8.heap.size, 2, none⟩ = some (.int .i64 t2) ∧ w'.cell? ⟨w8.heap.size, 3, none⟩ = some (.int .i64 t3) ∧ w'.cell? ⟨w7.heap.size, 0, none⟩ = some (.int .i64 q) ∧ w'.cell? ⟨w7.heap.size, 1, none⟩ = some (.int .i64 p) ∧ w'.cell? ⟨w7.heap.size, 2, none⟩ = some (.int .i64 t2) ∧ w'.cell? ⟨w7.heap.size, 3, none⟩ = some (.int .i64 t3) ∧ w'.cell? ⟨w6.heap.size, 0, none⟩ = some (.int .i64 u0) ∧ w'.cell? ⟨w6.heap.size, 1, none⟩ = some (.int .i64 u1) ∧ w'.cell? ⟨w6.heap.size, 2, none⟩ = some (.int .i64 u2) ∧ w'.cell? ⟨w6.heap.size, 3, none⟩ = some (.int .i64 u3) ∧ w'.cell? ⟨w5.heap.size, 0, none⟩ = some (.int .i64 u0) ∧ w'.cell? ⟨w5.heap.size, 1, none⟩ = some (.int .i64 u1) ∧ w'.cell? ⟨w5.heap.size, 2, none⟩ = some (.int .i64 u2) ∧ w'.cell? ⟨w5.heap.size, 3, none⟩ = some (.int .i64 u3) ∧ w'.cell? ⟨w4.heap.size, 0, none⟩ = some (.int .i64 v0) ∧ w'.cell? ⟨w4.heap.size, 1, none⟩ = some (.int .i64 v1) ∧ w'.cell? ⟨w4.heap.size, 2, none⟩ = some (.int .i64 v0) ∧ w'.cell? ⟨w4.heap.size, 3, none⟩ = some (.int .i64 0) ∧ w'.cell? ⟨w3.heap.size, 0, none⟩ = some (.int .i64 v0) ∧ w'.cell? ⟨w3.heap.size, 1, none⟩ = some (.int .i64 v1) ∧ w'.cell? ⟨w3.heap.size, 2, none⟩ = some (.int .i64 v0) ∧ w'.cell? ⟨w3.heap.size, 3, none⟩ = some (.int .i64 0) ∧ w'.cell? ⟨w2.heap.size, 0, none⟩ = some (.int .i64 q) ∧ w'.cell? ⟨w2.heap.size, 1, none⟩ = some (.int .i64 p) ∧ w'.cell? ⟨w2.heap.size, 2, none⟩ = some (.int .i64 l) ∧ w'.cell? ⟨w2.heap.size, 3, none⟩ = some (.int .i64 f) ∧ w'.cell? ⟨W.heap.size, 0, none⟩ = some (.int .i64 q) ∧ w'.cell? ⟨W.heap.size, 1, none⟩ = some (.int .i64 p) ∧ w'.cell? ⟨W.heap.size, 2, none⟩ = some (.int .i64 l) ∧ w'.cell? ⟨W.heap.size, 3, none⟩ = some (.int .i64 f)) (first | exact hc9 | exact hc8 | exact hc7 | exact hc6 | exact hc5 | exact hc4 | exact hc3 | exact hc2 | exact hc1 | exact hc0)
    (first
      | (go_at_call_of 14 (Value.agg #[Value.int .i64 v0, Value.int .i64 v1, Value.int .i64 v0, Value.int .i64 0]); refine (KO1.out _).mono ?_; rintro e x1 ⟨rfl, hb⟩; have HD1 := Lib.hid (HZ.out.step hb); have hc1 := CELL.out _ HD1.out; clear hb)
      | (go_at_call_of 14 (Value.agg #[Value.int .i64 u0, Value.int .i64 u1, Value.int .i64 u2, Value.int .i64 u3]); refine (KO2.out _).mono ?_; rintro e x2 ⟨rfl, hb⟩; have HD2 := Lib.hid (HD1.out.step hb); have hc2 := CELL.out _ HD2.out; clear hb)
      | (go_at_call_of 14 (Value.agg #[Value.int .i64 q, Value.int .i64 p, Value.int .i64 t2, Value.int .i64 t3]); refine (KO3.out _).mono ?_; rintro e x3 ⟨rfl, hb⟩; have HD3 := Lib.hid (HD2.out.step hb); have hc3 := CELL.out _ HD3.out; clear hb)
      | (go_at_call 13; refine (KG.out _).mono ?_; rintro e x4 ⟨rfl, hb⟩; have HD4 := Lib.hid (HD3.out.step hb); have hc4 := CELL.out _ HD4.out; clear hb)
      | (go_at_call 18; refine (KGr.out _).mono ?_; rintro e x5 ⟨rfl, hb⟩; have HD5 := Lib.hid (HD4.out.step hb); have hc5 := CELL.out _ HD5.out; clear hb)
      | (go_at_call 11; refine (KS.out _).mono ?_; rintro e x6 ⟨rfl, hb⟩; have HD6 := Lib.hid (HD5.out.step hb); have hc6 := CELL.out _ HD6.out; clear hb)
      | (go_at_call 19; refine (KSr.out _).mono ?_; rintro e x7 ⟨rfl, hb⟩; have HD7 := Lib.hid (HD6.out.step hb); have hc7 := CELL.out _ HD7.out; clear hb)
      | (go_at_call 12; refine (KX.out _).mono ?_; rintro e x8 ⟨rfl, hb⟩; have HD8 := Lib.hid (HD7.out.step hb); have hc8 := CELL.out _ HD8.out; clear hb)
      | (go_at_call 20; refine (KXr.out _).mono ?_; rintro e x9 ⟨rfl, hb⟩; have HD9 := Lib.hid (HD8.out.step hb); have hc9 := CELL.out _ HD9.out; clear hb))
  go_wp2_with fail
  go_ret
  exact ⟨by simp, HD9.out.fr⟩
end Go.Proofs.Ytcomhbfblfclpaa
