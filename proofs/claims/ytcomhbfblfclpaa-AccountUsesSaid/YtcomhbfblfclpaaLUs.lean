/- AccountUses: its walk. -/
import Derived.Test.YtcomhbfblfclpaaAj
import Derived.Deep.RegionHeld3
import Derived.Deep.DeepCutAuto
namespace Go.Proofs.Ytcomhbfblfclpaa
open Go.RowKit

theorem newE_cases (q p : Int) : newE q p = 1 ∨ (newE q p = 0 ∧ q = 0 ∧ p = 0) ∨ (newE q p = 0 ∧ newB q p = true) := by
  unfold newE
  cases h : newB q p with
  | true => exact .inr (.inr ⟨rfl, rfl⟩)
  | false =>
    by_cases h2 : q = 0 ∧ p = 0
    · exact .inr (.inl ⟨by simp [h2.1, h2.2], h2.1, h2.2⟩)
    · left
      have h3 : (decide (q = 0) && decide (p = 0)) = false := by simpa using h2
      rw [h3]
      rfl
/-- What is left behind i uses. -/
def leftI (q : Int) (i : Nat) : Int := if (i : Int) ≤ q then q - i else 0
theorem leftI_zero {q : Int} (h : 0 ≤ q) : leftI q 0 = q := by unfold leftI; rw [if_pos (by omega)]; omega
theorem leftI_lt {q : Int} {i : Nat} (h : (i : Int) < q) : leftI q i = q - i ∧ leftI q (i + 1) = q - i - 1 := by unfold leftI; rw [if_pos (by omega), if_pos (by omega)]; omega
theorem leftI_ge {q : Int} {i : Nat} (h : q ≤ (i : Int)) : leftI q i = 0 ∧ leftI q (i + 1) = 0 := by unfold leftI; constructor <;> split <;> omega
theorem leftI_bd {q : Int} (h : 0 ≤ q) (i : Nat) : 0 ≤ leftI q i ∧ leftI q i ≤ q := by unfold leftI; split <;> omega
theorem lim_at {q p l : Int} (h : newB q p = true) (h0 : 0 ≤ l) (h1 : l ≤ q) : limB q p l 0 = true := by
  have := newB_true.1 h
  exact limB_true.2 (by omega)
theorem use_yes {q p l : Int} (h : newB q p = true) (h0 : 0 < l) (h1 : l ≤ q) : useV q p l 0 = .tuple #[.agg #[.int .i64 q, .int .i64 p, .int .i64 (l - 1), .int .i64 0], .int .i64 0] := by
  have hl := lim_at h (Int.le_of_lt h0) h1
  have hg : goodA q p l 0 = true := by unfold goodA; rw [hl]; simp
  have hd : decide (l = 0) = false := decide_eq_false (by omega)
  simp [useV, useE, useL, useOk, orZ, hl, hg, hd]
theorem use_no {q p : Int} (h : newB q p = true) : useV q p 0 0 = .tuple #[.agg #[.int .i64 0, .int .i64 0, .int .i64 0, .int .i64 0], .int .i64 14] := by
  have hq := newB_true.1 h
  have hl := lim_at h (Int.le_refl 0) (by omega)
  have hg : goodA q p 0 0 = true := by unfold goodA; rw [hl]; simp
  simp [useV, useE, useL, useOk, orZ, hl, hg]
theorem next_at {q p l : Int} (h : newB q p = true) (h0 : 0 ≤ l) (h1 : l ≤ q) : nextV q p l 0 = p := by
  unfold nextV
  rw [lim_at h h0 h1]
  simp
theorem tick_before {q p l : Int} (h : newB q p = true) (h0 : 0 ≤ l) (h1 : l ≤ q) : ∃ f, tickV q p l 0 (p - 1) = .tuple #[.agg #[.int .i64 q, .int .i64 p, .int .i64 l, .int .i64 f], .bool false] := by
  have hq := newB_true.1 h
  have hl := lim_at h h0 h1
  have hb : tickB q p l 0 (p - 1) = false := by
    unfold tickB tickN
    rw [hl, if_pos (by omega), decide_eq_false (by omega)]
    rfl
  exact ⟨tickF q p l 0 (p - 1), by simp [tickV, tickL, hb]⟩
theorem tick_end {q p l : Int} (h : newB q p = true) (h0 : 0 ≤ l) (h1 : l ≤ q) : tickV q p l 0 p = .tuple #[.agg #[.int .i64 q, .int .i64 p, .int .i64 q, .int .i64 0], .bool true] := by
  have hq := newB_true.1 h
  have hl := lim_at h h0 h1
  have hb : tickB q p l 0 p = true := by
    unfold tickB tickN
    rw [hl, if_pos (show 0 ≤ p by omega), decide_eq_true (by omega)]
    rfl
  have hf : tickF q p l 0 p = 0 := by
    unfold tickF tickN
    rw [hl, if_pos rfl, if_pos (show 0 ≤ p by omega)]
    simp
  simp [tickV, tickL, hb, hf]

theorem BxIn.swap {W w : World} {x y : BX} {l : List BX} (h : BxIn W w (x :: y :: l)) : BxIn W w (y :: x :: l) := ⟨h.fr, fun i z hi => by
  match i with
  | 0 => exact h.bx 1 z (by simpa using hi)
  | 1 => exact h.bx 0 z (by simpa using hi)
  | i + 2 => exact h.bx (i + 2) z (by simpa using hi)⟩
def C4 (w : World) (b : Nat) (q p l f : Int) : Prop := w.cell? ⟨b, 0, none⟩ = some (.int .i64 q) ∧ w.cell? ⟨b, 1, none⟩ = some (.int .i64 p) ∧ w.cell? ⟨b, 2, none⟩ = some (.int .i64 l) ∧ w.cell? ⟨b, 3, none⟩ = some (.int .i64 f)
theorem BxIn.hd {W w : World} {b : Nat} {t : TypeId} {q p l f : Int} {L : List BX} (h : BxIn W w ((b, t, q, p, l, f) :: L)) : w.cell? ⟨b, 0, none⟩ = some (.int .i64 q) ∧ w.cell? ⟨b, 1, none⟩ = some (.int .i64 p) ∧ w.cell? ⟨b, 2, none⟩ = some (.int .i64 l) ∧ w.cell? ⟨b, 3, none⟩ = some (.int .i64 f) := (h.get 0 rfl).1
theorem BxIn.hdf {W w : World} {b : Nat} {t : TypeId} {q p l f : Int} {L : List BX} (h : BxIn W w ((b, t, q, p, l, f) :: L)) : w.frozen? ⟨b, 0, none⟩ = false ∧ w.frozen? ⟨b, 1, none⟩ = false ∧ w.frozen? ⟨b, 2, none⟩ = false ∧ w.frozen? ⟨b, 3, none⟩ = false := h.free 0 rfl
theorem BxIn.hdl {W w : World} {b : Nat} {t : TypeId} {q p l f : Int} {L : List BX} (h : BxIn W w ((b, t, q, p, l, f) :: L)) : b < w.heap.size := (h.get 0 rfl).2

set_option maxRecDepth 100000 in
set_option maxHeartbeats 4000000 in
theorem accountUses_c (q p n : Int) (W : World) : Calls Try.prog 6 #[.int .i64 q, .int .i64 p, .int .i64 n] W fun e w' => e = .returned (.bool true) ∧ Below W.heap.size W w' := by
  by_cases hn : n < 0 ∨ 400 < n
  · have KN := Lib.hid (fun w => new_c q p w)
    generalize newE q p = e0 at *
    generalize newQ q p = v0 at *
    generalize newP q p = v1 at *
    go_enter Try.func6, Try.ntmps6
    go_wp2_with fail
    refine (awake8_c _).mono ?_
    rintro e w0 ⟨rfl, hb⟩
    have HB0 := Lib.hid (BxIn.nil hb)
    clear hb
    go_wp2_with fail
    refine (KN.out _).mono ?_
    rintro e w1 ⟨rfl, hb⟩
    have HB1 := Lib.hid ((HB0.out.step hb).push 24 v0 v1 v0 0)
    clear hb
    go_wp2_with fail
    all_goals
      go_ret
      exact ⟨rfl, HB1.out.fr⟩
  obtain ⟨N, rfl⟩ : ∃ N : Nat, n = N := ⟨n.toNat, by omega⟩
  have hN : N ≤ 400 := by omega
  clear hn
  rcases newE_cases q p with hE | ⟨hE, rfl, rfl⟩ | ⟨hE, hB⟩
  · have KN := Lib.hid (fun w => new_c q p w)
    rw [hE] at KN
    generalize newQ q p = v0 at *
    generalize newP q p = v1 at *
    clear hE
    go_enter Try.func6, Try.ntmps6
    go_wp2_with fail
    refine (awake8_c _).mono ?_
    rintro e w0 ⟨rfl, hb⟩
    have HB0 := Lib.hid (BxIn.nil hb)
    clear hb
    go_wp2_with fail
    refine (KN.out _).mono ?_
    rintro e w1 ⟨rfl, hb⟩
    have HB1 := Lib.hid ((HB0.out.step hb).push 24 v0 v1 v0 0)
    clear hb
    go_wp2_with fail
    all_goals
      go_ret
      exact ⟨rfl, HB1.out.fr⟩
  · have KU := Lib.hid (use_of 0 0 0 0 (.tuple #[.agg #[.int .i64 0, .int .i64 0, .int .i64 0, .int .i64 0], .int .i64 0]) (by rfl))
    have KX := Lib.hid (next_of 0 0 0 0 0 (by rfl))
    have kt := tick_of 0 0 0 0 (IntKind.i64.wrap (-1)) (.tuple #[.agg #[.int .i64 0, .int .i64 0, .int .i64 0, .int .i64 0], .bool false]) (by rfl)
    have KT1 := Lib.hid kt
    clear kt
    have KT2 := Lib.hid (tick_of 0 0 0 0 0 (.tuple #[.agg #[.int .i64 0, .int .i64 0, .int .i64 0, .int .i64 0], .bool false]) (by rfl))
    clear hE
    go_enter Try.func6, Try.ntmps6
    go_wp2_with fail
    refine (awake8_c _).mono ?_
    rintro e w0 ⟨rfl, hb⟩
    have HB0 := Lib.hid (BxIn.nil hb)
    clear hb
    go_wp2_with fail
    refine (new_of 0 0 0 0 0 (by decide) (by decide) (by decide) _).mono ?_
    rintro e w1 ⟨rfl, hb⟩
    have HB1 := Lib.hid ((HB0.out.step hb).push 24 0 0 0 0)
    clear hb HB0
    go_wp2_with fail
    go_loopw [9] (fun iv wr => ∃ i : Nat, iv = .int .i64 i ∧ i ≤ N ∧ Hid (BxIn W wr [(w1.heap.size, 24, 0, 0, 0, 0)])) (fun iv _ => N - (intOf iv).toNat)
    case atStart => exact ⟨0, rfl, by omega, HB1⟩
    case round =>
      obtain ⟨i, rfl, hi, HI⟩ := hrel
      by_cases hlt : i < N
      · obtain ⟨⟨z0, z1, z2, z3⟩, zl⟩ := HI.out.get 0 rfl
        go_wp2_with fail
        refine (KU.out _).mono ?_
        rintro e w2 ⟨rfl, hb⟩
        clear z0 z1 z2 z3 zl
        have HJ := Lib.hid (HI.out.step hb)
        have HQ := Lib.hid (HJ.out.push 24 0 0 0 0).tail
        clear hb
        obtain ⟨⟨z0, z1, z2, z3⟩, zl⟩ := HJ.out.get 0 rfl
        go_wp2_with fail
        go_roundw
        case rel => first | exact ⟨i + 1, by go_num, by omega, HQ⟩ | ((repeat apply Exists.intro); refine ⟨⟨i + 1, ?_, by omega, HQ⟩, rfl⟩; go_num)
        case measure => simp [intOf]; omega
      · obtain ⟨⟨z0, z1, z2, z3⟩, zl⟩ := HI.out.get 0 rfl
        have HZ := Lib.hid HI.out.drew
        have HZ0 := Lib.hid (HI.out.push 24 0 0 0 0).drew
        have hc0 := HZ.out.hd
        have D0 := Lib.hid HI.out.hdl
        go_upto_region 19 with fail
        go_cut [12, 13] (fun vc vt wx => ∃ bc : Nat, vc = .pointer (some ⟨bc, 0, none⟩) ∧ vt = .bool false ∧ Hid (BxIn W wx ((bc, 24, 0, 0, 0, 0) :: ((w1.heap.size, 24, 0, 0, 0, 0) :: []))))
        case first =>
          go_region_held3 (fun w' => w'.cell? ⟨w1.heap.size, 0, none⟩ = some (.int .i64 (0)) ∧ w'.cell? ⟨w1.heap.size, 1, none⟩ = some (.int .i64 (0)) ∧ w'.cell? ⟨w1.heap.size, 2, none⟩ = some (.int .i64 (0)) ∧ w'.cell? ⟨w1.heap.size, 3, none⟩ = some (.int .i64 (0))) (first | with_reducible exact hc2 | with_reducible exact hc1 | with_reducible exact hc0 | with_reducible exact HZ0.out.tail.hd | with_reducible exact (H1.out.push 24 0 0 0 0).tail.hd | with_reducible exact (H2.out.push 24 0 0 0 0).tail.hd | with_reducible exact (H2.out.push 24 (0) (0) (0) (0)).tail.hd | with_reducible exact ((H2.out.put0 (fun x hx => by have d0 := D0.out; have d1 := D1.out; simp at hx; subst hx; simp; omega) (0) (0) (0) (0))).tail.hd)
            (first
              | (go_at_call 12; refine (KX.out _).mono ?_; rintro e x1 ⟨rfl, hb⟩; first | ((with_reducible have H1 := Lib.hid (HZ.out.step hb)); have hc1 := H1.out.hd; have D1 := Lib.hid H1.out.hdl; have E1 := Lib.hid hb.size; clear hb) | ((with_reducible have H1 := Lib.hid (HZ0.out.step hb)); have hc1 := H1.out.tail.hd; have D1 := Lib.hid H1.out.tail.hdl; have E1 := Lib.hid hb.size; clear hb))
              | (go_at_call 10; refine (KT1.out _).mono ?_; rintro e x2 ⟨rfl, hb⟩; first | ((with_reducible have H2 := Lib.hid (H1.out.step hb)); have hc2 : x2.cell? ⟨w1.heap.size, 0, none⟩ = some (.int .i64 (0)) ∧ x2.cell? ⟨w1.heap.size, 1, none⟩ = some (.int .i64 (0)) ∧ x2.cell? ⟨w1.heap.size, 2, none⟩ = some (.int .i64 (0)) ∧ x2.cell? ⟨w1.heap.size, 3, none⟩ = some (.int .i64 (0)) := (by with_reducible exact H2.out.hd); clear hb) | ((with_reducible have H2 := Lib.hid (H1.out.step hb)); have hc2 : x2.cell? ⟨w1.heap.size, 0, none⟩ = some (.int .i64 (0)) ∧ x2.cell? ⟨w1.heap.size, 1, none⟩ = some (.int .i64 (0)) ∧ x2.cell? ⟨w1.heap.size, 2, none⟩ = some (.int .i64 (0)) ∧ x2.cell? ⟨w1.heap.size, 3, none⟩ = some (.int .i64 (0)) := (by with_reducible exact H2.out.tail.hd); obtain ⟨n0, n1, n2, n3⟩ := H2.out.hd; obtain ⟨m0, m1, m2, m3⟩ := H2.out.hdf; have nl := H2.out.hdl; clear hb) | ((with_reducible have H2 := Lib.hid ((H1.out.push 24 0 0 0 0).step hb)); have hc2 := H2.out.tail.hd; obtain ⟨n0, n1, n2, n3⟩ := H2.out.hd; obtain ⟨m0, m1, m2, m3⟩ := H2.out.hdf; have nl := H2.out.hdl; clear hb)))
          all_goals
            go_wp2_with fail
            go_meet
            first | (with_reducible exact ⟨_, rfl, rfl, Lib.hid (H2.out.push 24 (0) (0) (0) (0))⟩) | exact ⟨_, rfl, rfl, Lib.hid (H2.out.put0 (fun x hx => by have d0 := D0.out; have d1 := D1.out; simp at hx; subst hx; simp; omega) (0) (0) (0) (0))⟩
        case rest =>
          obtain ⟨bc19, rfl, rfl, HC19⟩ := hcut
          clear HZ HZ0 hc0 D0
          have HS := Lib.hid HC19.out.swap
          have D2 := Lib.hid HC19.out.hdl
          clear HC19 HI
          have HZ := Lib.hid HS.out.drew
          have HZ0 := Lib.hid (HS.out.push 24 0 0 0 0).drew
          have hc0 := HZ.out.hd
          have D0 := Lib.hid HS.out.hdl
          go_upto_region 20 with fail
          go_cut [14, 15] (fun vc vt wx => ∃ bc : Nat, vc = .pointer (some ⟨bc, 0, none⟩) ∧ vt = .bool false ∧ Hid (BxIn W wx ((bc, 24, 0, 0, 0, 0) :: ((w1.heap.size, 24, 0, 0, 0, 0) :: [(bc19, 24, 0, 0, 0, 0)]))))
          case first =>
            go_region_held3 (fun w' => w'.cell? ⟨w1.heap.size, 0, none⟩ = some (.int .i64 (0)) ∧ w'.cell? ⟨w1.heap.size, 1, none⟩ = some (.int .i64 (0)) ∧ w'.cell? ⟨w1.heap.size, 2, none⟩ = some (.int .i64 (0)) ∧ w'.cell? ⟨w1.heap.size, 3, none⟩ = some (.int .i64 (0))) (first | with_reducible exact hc2 | with_reducible exact hc1 | with_reducible exact hc0 | with_reducible exact HZ0.out.tail.hd | with_reducible exact (H1.out.push 24 0 0 0 0).tail.hd | with_reducible exact (H2.out.push 24 0 0 0 0).tail.hd | with_reducible exact (H2.out.push 24 (0) (0) (0) (0)).tail.hd | with_reducible exact ((H2.out.put0 (fun x hx => by have d0 := D0.out; have d1 := D1.out; have d2 := D2.out; have e1 := E1.out; simp at hx e1; rcases hx with rfl | rfl <;> simp <;> omega) (0) (0) (0) (0))).tail.hd)
              (first
                | (go_at_call 12; refine (KX.out _).mono ?_; rintro e x1 ⟨rfl, hb⟩; first | ((with_reducible have H1 := Lib.hid (HZ.out.step hb)); have hc1 := H1.out.hd; have D1 := Lib.hid H1.out.hdl; have E1 := Lib.hid hb.size; clear hb) | ((with_reducible have H1 := Lib.hid (HZ0.out.step hb)); have hc1 := H1.out.tail.hd; have D1 := Lib.hid H1.out.tail.hdl; have E1 := Lib.hid hb.size; clear hb))
                | (go_at_call 10; refine (KT2.out _).mono ?_; rintro e x2 ⟨rfl, hb⟩; first | ((with_reducible have H2 := Lib.hid (H1.out.step hb)); have hc2 : x2.cell? ⟨w1.heap.size, 0, none⟩ = some (.int .i64 (0)) ∧ x2.cell? ⟨w1.heap.size, 1, none⟩ = some (.int .i64 (0)) ∧ x2.cell? ⟨w1.heap.size, 2, none⟩ = some (.int .i64 (0)) ∧ x2.cell? ⟨w1.heap.size, 3, none⟩ = some (.int .i64 (0)) := (by with_reducible exact H2.out.hd); clear hb) | ((with_reducible have H2 := Lib.hid (H1.out.step hb)); have hc2 : x2.cell? ⟨w1.heap.size, 0, none⟩ = some (.int .i64 (0)) ∧ x2.cell? ⟨w1.heap.size, 1, none⟩ = some (.int .i64 (0)) ∧ x2.cell? ⟨w1.heap.size, 2, none⟩ = some (.int .i64 (0)) ∧ x2.cell? ⟨w1.heap.size, 3, none⟩ = some (.int .i64 (0)) := (by with_reducible exact H2.out.tail.hd); obtain ⟨n0, n1, n2, n3⟩ := H2.out.hd; obtain ⟨m0, m1, m2, m3⟩ := H2.out.hdf; have nl := H2.out.hdl; clear hb) | ((with_reducible have H2 := Lib.hid ((H1.out.push 24 0 0 0 0).step hb)); have hc2 := H2.out.tail.hd; obtain ⟨n0, n1, n2, n3⟩ := H2.out.hd; obtain ⟨m0, m1, m2, m3⟩ := H2.out.hdf; have nl := H2.out.hdl; clear hb)))
            all_goals
              go_wp2_with fail
              go_meet
              first | (with_reducible exact ⟨_, rfl, rfl, Lib.hid (H2.out.push 24 (0) (0) (0) (0))⟩) | exact ⟨_, rfl, rfl, Lib.hid (H2.out.put0 (fun x hx => by have d0 := D0.out; have d1 := D1.out; have d2 := D2.out; have e1 := E1.out; simp at hx e1; rcases hx with rfl | rfl <;> simp <;> omega) (0) (0) (0) (0))⟩
          case rest =>
            obtain ⟨bc20, rfl, rfl, HC20⟩ := hcut
            clear HZ HZ0 hc0 D0
            obtain ⟨⟨z0, z1, z2, z3⟩, zl⟩ := HC20.out.get 0 rfl
            obtain ⟨⟨y0, y1, y2, y3⟩, yl⟩ := HC20.out.get 1 rfl
            obtain ⟨⟨x0, x1, x2, x3⟩, xl⟩ := HC20.out.get 2 rfl
            go_wp2_with fail
            go_ret
            exact ⟨rfl, HC20.out.fr⟩
  · have hq := newB_true.1 hB
    obtain ⟨q1, q2, p1, p2⟩ := hq
    have KN := Lib.hid (new_of q p q p 0 (by unfold newQ; rw [hB]; rfl) (by unfold newP; rw [hB]; rfl) hE)
    have hqz : (q == 0) = false := beq_eq_false_iff_ne.2 (by omega)
    have KU1 := Lib.hid (fun (l : Int) (h0 : 0 < l) (h1 : l ≤ q) => use_of q p l 0 _ (use_yes hB h0 h1))
    have KU2 := Lib.hid (use_of q p 0 0 _ (use_no hB))
    have KS := Lib.hid (spent_of q p 0 0 true (by rw [lim_at hB (Int.le_refl 0) (by omega)]; rfl))
    have KXl := Lib.hid (fun (l : Int) (h0 : 0 ≤ l) (h1 : l ≤ q) => next_of q p l 0 p (next_at hB h0 h1))
    have KTa := Lib.hid (fun (l : Int) (h0 : 0 ≤ l) (h1 : l ≤ q) => tick_before (p := p) hB h0 h1)
    have KTb := Lib.hid (fun (l : Int) (h0 : 0 ≤ l) (h1 : l ≤ q) => tick_of q p l 0 p _ (tick_end hB h0 h1))
    clear hE hB
    go_enter Try.func6, Try.ntmps6
    go_wp2_with fail
    refine (awake8_c _).mono ?_
    rintro e w0 ⟨rfl, hb⟩
    have HB0 := Lib.hid (BxIn.nil hb)
    clear hb
    go_wp2_with fail
    refine (KN.out _).mono ?_
    rintro e w1 ⟨rfl, hb⟩
    have HB1 := Lib.hid ((HB0.out.step hb).push 24 q p q 0)
    clear hb HB0 KN
    go_wp2_with fail
    go_loopw [9] (fun iv wr => ∃ i : Nat, iv = .int .i64 i ∧ i ≤ N ∧ Hid (BxIn W wr [(w1.heap.size, 24, q, p, leftI q i, 0)])) (fun iv _ => N - (intOf iv).toNat)
    case atStart => exact ⟨0, rfl, by omega, by rw [leftI_zero (by omega)]; exact HB1⟩
    case round =>
      obtain ⟨i, rfl, hi, HI⟩ := hrel
      by_cases hlt : i < N
      · by_cases hiq : (i : Int) < q
        · obtain ⟨l1, l2⟩ := leftI_lt hiq
          rw [l1] at HI
          have L2 := Lib.hid l2
          have KU := Lib.hid (KU1.out (q - i) (by omega) (by omega))
          clear l1 l2
          obtain ⟨⟨z0, z1, z2, z3⟩, zl⟩ := HI.out.get 0 rfl
          go_wp2_with fail
          refine (KU.out _).mono ?_
          rintro e w2 ⟨rfl, hb⟩
          clear z0 z1 z2 z3 zl
          have HJ := Lib.hid (HI.out.step hb)
          have HQ := Lib.hid ((HJ.out.put0 (fun x hx => by simp at hx) q p (q - i - 1) 0).push 24 q p (q - i - 1) 0).tail
          clear hb
          obtain ⟨⟨z0, z1, z2, z3⟩, zl⟩ := HJ.out.get 0 rfl
          obtain ⟨f0, f1, f2, f3⟩ := HJ.out.free 0 rfl
          go_wp2_with fail
          go_roundw
          case rel => first | exact ⟨i + 1, by go_num, by omega, by rw [L2.out]; exact HQ⟩ | ((repeat apply Exists.intro); refine ⟨⟨i + 1, ?_, by omega, by rw [L2.out]; exact HQ⟩, rfl⟩; go_num)
          case measure => simp [intOf]; omega
        · obtain ⟨l1, l2⟩ := leftI_ge (show q ≤ (i : Int) by omega)
          rw [l1] at HI
          have L2 := Lib.hid l2
          clear l1 l2
          obtain ⟨⟨z0, z1, z2, z3⟩, zl⟩ := HI.out.get 0 rfl
          go_wp2_with fail
          refine (KU2.out _).mono ?_
          rintro e w2 ⟨rfl, hb⟩
          clear z0 z1 z2 z3 zl
          have HJ := Lib.hid (HI.out.step hb)
          have HQ := Lib.hid (HJ.out.push 24 0 0 0 0).tail
          clear hb
          obtain ⟨⟨z0, z1, z2, z3⟩, zl⟩ := HJ.out.get 0 rfl
          go_wp2_with fail
          refine (KS.out _).mono ?_
          rintro e w3 ⟨rfl, hb⟩
          have HR := Lib.hid (HQ.out.step hb)
          clear hb z0 z1 z2 z3 zl
          go_wp2_with fail
          go_roundw
          case rel => first | exact ⟨i + 1, by go_num, by omega, by rw [L2.out]; exact HR⟩ | ((repeat apply Exists.intro); refine ⟨⟨i + 1, ?_, by omega, by rw [L2.out]; exact HR⟩, rfl⟩; go_num)
          case measure => simp [intOf]; omega
      · obtain rfl : i = N := by omega
        obtain ⟨b0, b1⟩ := leftI_bd (show 0 ≤ q by omega) i
        generalize leftI q i = La at *
        have KX := Lib.hid (KXl.out La b0 b1)
        obtain ⟨fa, hfa⟩ := KTa.out La b0 b1
        have hwr : IntKind.i64.wrap (p - 1) = p - 1 := by rw [IntKind.wrap_i64]; omega
        rw [← hwr] at hfa
        have KT1 := Lib.hid (tick_of q p La 0 _ _ hfa)
        have KT2 := Lib.hid (KTb.out La b0 b1)
        clear KXl KTa KTb hfa hwr KU1 KU2 KS
        obtain ⟨⟨z0, z1, z2, z3⟩, zl⟩ := HI.out.get 0 rfl
        have HZ := Lib.hid HI.out.drew
        have HZ0 := Lib.hid (HI.out.push 24 0 0 0 0).drew
        have hc0 := HZ.out.hd
        have D0 := Lib.hid HI.out.hdl
        go_upto_region 19 with fail
        go_cut [12, 13] (fun vc vt wx => ∃ bc : Nat, vc = .pointer (some ⟨bc, 0, none⟩) ∧ vt = .bool false ∧ Hid (BxIn W wx ((bc, 24, q, p, La, fa) :: ((w1.heap.size, 24, q, p, La, 0) :: []))))
        case first =>
          go_region_held3 (fun w' => w'.cell? ⟨w1.heap.size, 0, none⟩ = some (.int .i64 (q)) ∧ w'.cell? ⟨w1.heap.size, 1, none⟩ = some (.int .i64 (p)) ∧ w'.cell? ⟨w1.heap.size, 2, none⟩ = some (.int .i64 (La)) ∧ w'.cell? ⟨w1.heap.size, 3, none⟩ = some (.int .i64 (0))) (first | with_reducible exact hc2 | with_reducible exact hc1 | with_reducible exact hc0 | with_reducible exact HZ0.out.tail.hd | with_reducible exact (H1.out.push 24 0 0 0 0).tail.hd | with_reducible exact (H2.out.push 24 0 0 0 0).tail.hd | with_reducible exact (H2.out.push 24 (q) (p) (La) (fa)).tail.hd | with_reducible exact ((H2.out.put0 (fun x hx => by have d0 := D0.out; have d1 := D1.out; simp at hx; subst hx; simp; omega) (q) (p) (La) (fa))).tail.hd)
            (first
              | (go_at_call 12; refine (KX.out _).mono ?_; rintro e x1 ⟨rfl, hb⟩; first | ((with_reducible have H1 := Lib.hid (HZ.out.step hb)); have hc1 := H1.out.hd; have D1 := Lib.hid H1.out.hdl; have E1 := Lib.hid hb.size; clear hb) | ((with_reducible have H1 := Lib.hid (HZ0.out.step hb)); have hc1 := H1.out.tail.hd; have D1 := Lib.hid H1.out.tail.hdl; have E1 := Lib.hid hb.size; clear hb))
              | (go_at_call 10; refine (KT1.out _).mono ?_; rintro e x2 ⟨rfl, hb⟩; first | ((with_reducible have H2 := Lib.hid (H1.out.step hb)); have hc2 : x2.cell? ⟨w1.heap.size, 0, none⟩ = some (.int .i64 (q)) ∧ x2.cell? ⟨w1.heap.size, 1, none⟩ = some (.int .i64 (p)) ∧ x2.cell? ⟨w1.heap.size, 2, none⟩ = some (.int .i64 (La)) ∧ x2.cell? ⟨w1.heap.size, 3, none⟩ = some (.int .i64 (0)) := (by with_reducible exact H2.out.hd); clear hb) | ((with_reducible have H2 := Lib.hid (H1.out.step hb)); have hc2 : x2.cell? ⟨w1.heap.size, 0, none⟩ = some (.int .i64 (q)) ∧ x2.cell? ⟨w1.heap.size, 1, none⟩ = some (.int .i64 (p)) ∧ x2.cell? ⟨w1.heap.size, 2, none⟩ = some (.int .i64 (La)) ∧ x2.cell? ⟨w1.heap.size, 3, none⟩ = some (.int .i64 (0)) := (by with_reducible exact H2.out.tail.hd); obtain ⟨n0, n1, n2, n3⟩ := H2.out.hd; obtain ⟨m0, m1, m2, m3⟩ := H2.out.hdf; have nl := H2.out.hdl; clear hb) | ((with_reducible have H2 := Lib.hid ((H1.out.push 24 0 0 0 0).step hb)); have hc2 := H2.out.tail.hd; obtain ⟨n0, n1, n2, n3⟩ := H2.out.hd; obtain ⟨m0, m1, m2, m3⟩ := H2.out.hdf; have nl := H2.out.hdl; clear hb)))
          all_goals
            go_wp2_with fail
            go_meet
            first | (with_reducible exact ⟨_, rfl, rfl, Lib.hid (H2.out.push 24 (q) (p) (La) (fa))⟩) | exact ⟨_, rfl, rfl, Lib.hid (H2.out.put0 (fun x hx => by have d0 := D0.out; have d1 := D1.out; simp at hx; subst hx; simp; omega) (q) (p) (La) (fa))⟩
        case rest =>
          obtain ⟨bc19, rfl, rfl, HC19⟩ := hcut
          clear HZ HZ0 hc0 D0
          have HS := Lib.hid HC19.out.swap
          have D2 := Lib.hid HC19.out.hdl
          clear HC19 HI
          have HZ := Lib.hid HS.out.drew
          have HZ0 := Lib.hid (HS.out.push 24 0 0 0 0).drew
          have hc0 := HZ.out.hd
          have D0 := Lib.hid HS.out.hdl
          go_upto_region 20 with fail
          go_cut [14, 15] (fun vc vt wx => ∃ bc : Nat, vc = .pointer (some ⟨bc, 0, none⟩) ∧ vt = .bool true ∧ Hid (BxIn W wx ((bc, 24, q, p, q, 0) :: ((w1.heap.size, 24, q, p, La, 0) :: [(bc19, 24, q, p, La, fa)]))))
          case first =>
            go_region_held3 (fun w' => w'.cell? ⟨w1.heap.size, 0, none⟩ = some (.int .i64 (q)) ∧ w'.cell? ⟨w1.heap.size, 1, none⟩ = some (.int .i64 (p)) ∧ w'.cell? ⟨w1.heap.size, 2, none⟩ = some (.int .i64 (La)) ∧ w'.cell? ⟨w1.heap.size, 3, none⟩ = some (.int .i64 (0))) (first | with_reducible exact hc2 | with_reducible exact hc1 | with_reducible exact hc0 | with_reducible exact HZ0.out.tail.hd | with_reducible exact (H1.out.push 24 0 0 0 0).tail.hd | with_reducible exact (H2.out.push 24 0 0 0 0).tail.hd | with_reducible exact (H2.out.push 24 (q) (p) (q) (0)).tail.hd | with_reducible exact ((H2.out.put0 (fun x hx => by have d0 := D0.out; have d1 := D1.out; have d2 := D2.out; have e1 := E1.out; simp at hx e1; rcases hx with rfl | rfl <;> simp <;> omega) (q) (p) (q) (0))).tail.hd)
              (first
                | (go_at_call 12; refine (KX.out _).mono ?_; rintro e x1 ⟨rfl, hb⟩; first | ((with_reducible have H1 := Lib.hid (HZ.out.step hb)); have hc1 := H1.out.hd; have D1 := Lib.hid H1.out.hdl; have E1 := Lib.hid hb.size; clear hb) | ((with_reducible have H1 := Lib.hid (HZ0.out.step hb)); have hc1 := H1.out.tail.hd; have D1 := Lib.hid H1.out.tail.hdl; have E1 := Lib.hid hb.size; clear hb))
                | (go_at_call 10; refine (KT2.out _).mono ?_; rintro e x2 ⟨rfl, hb⟩; first | ((with_reducible have H2 := Lib.hid (H1.out.step hb)); have hc2 : x2.cell? ⟨w1.heap.size, 0, none⟩ = some (.int .i64 (q)) ∧ x2.cell? ⟨w1.heap.size, 1, none⟩ = some (.int .i64 (p)) ∧ x2.cell? ⟨w1.heap.size, 2, none⟩ = some (.int .i64 (La)) ∧ x2.cell? ⟨w1.heap.size, 3, none⟩ = some (.int .i64 (0)) := (by with_reducible exact H2.out.hd); clear hb) | ((with_reducible have H2 := Lib.hid (H1.out.step hb)); have hc2 : x2.cell? ⟨w1.heap.size, 0, none⟩ = some (.int .i64 (q)) ∧ x2.cell? ⟨w1.heap.size, 1, none⟩ = some (.int .i64 (p)) ∧ x2.cell? ⟨w1.heap.size, 2, none⟩ = some (.int .i64 (La)) ∧ x2.cell? ⟨w1.heap.size, 3, none⟩ = some (.int .i64 (0)) := (by with_reducible exact H2.out.tail.hd); obtain ⟨n0, n1, n2, n3⟩ := H2.out.hd; obtain ⟨m0, m1, m2, m3⟩ := H2.out.hdf; have nl := H2.out.hdl; clear hb) | ((with_reducible have H2 := Lib.hid ((H1.out.push 24 0 0 0 0).step hb)); have hc2 := H2.out.tail.hd; obtain ⟨n0, n1, n2, n3⟩ := H2.out.hd; obtain ⟨m0, m1, m2, m3⟩ := H2.out.hdf; have nl := H2.out.hdl; clear hb)))
            all_goals
              go_wp2_with fail
              go_meet
              first | (with_reducible exact ⟨_, rfl, rfl, Lib.hid (H2.out.push 24 (q) (p) (q) (0))⟩) | exact ⟨_, rfl, rfl, Lib.hid (H2.out.put0 (fun x hx => by have d0 := D0.out; have d1 := D1.out; have d2 := D2.out; have e1 := E1.out; simp at hx e1; rcases hx with rfl | rfl <;> simp <;> omega) (q) (p) (q) (0))⟩
          case rest =>
            obtain ⟨bc20, rfl, rfl, HC20⟩ := hcut
            clear HZ HZ0 hc0 D0
            obtain ⟨⟨z0, z1, z2, z3⟩, zl⟩ := HC20.out.get 0 rfl
            obtain ⟨⟨y0, y1, y2, y3⟩, yl⟩ := HC20.out.get 1 rfl
            obtain ⟨⟨x0, x1, x2, x3⟩, xl⟩ := HC20.out.get 2 rfl
            go_wp2_with fail
            go_ret
            exact ⟨rfl, HC20.out.fr⟩
end Go.Proofs.Ytcomhbfblfclpaa
