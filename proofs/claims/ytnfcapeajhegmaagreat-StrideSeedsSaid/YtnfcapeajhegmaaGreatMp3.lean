/- The reference's Good. -/
import Derived.Test.YtnfcapeajhegmaaGreatMu
import Derived.Test.YtnfcapeajhegmaaGreatSo3
namespace Go.Proofs.YtnfcapeajhegmaaGreat
open Go.RowKit

def awTo (f0 : Int) (l : List RI) (k : Nat) : Bool := (f0 == -1) || (l.take k).any (fun x => x.1 == f0)
def frTo (l : List RI) (k : Nat) : Bool := ((l.length : Int) == 0) || (l.take k).any (fun x => decide (0 ≤ x.2.2))
theorem awTo_next {f0 : Int} {l : List RI} {k : Nat} {x : RI} (h : l[k]? = some x) : awTo f0 l (k + 1) = (awTo f0 l k || (x.1 == f0)) := by
  unfold awTo
  rw [List.take_add_one, h, List.any_append, ← Bool.or_assoc]
  simp
theorem frTo_next {l : List RI} {k : Nat} {x : RI} (h : l[k]? = some x) : frTo l (k + 1) = (frTo l k || decide (0 ≤ x.2.2)) := by
  unfold frTo
  rw [List.take_add_one, h, List.any_append, ← Bool.or_assoc]
  simp
theorem good_split (f0 : Int) (l : List RI) : goodV f0 l = (decide (l.length ≤ 64) && ascB (-1) l && awTo f0 l l.length && frTo l l.length) := by
  unfold goodV awTo frTo
  rw [List.take_length, hasL_hasI]
  have e1 : (decide (f0 = -1) || hasI l f0) = ((f0 == -1) || l.any (fun x => x.1 == f0)) := by
    unfold hasI
    rfl
  have e2 : (!someL l || decide (0 ≤ (frontV l).2.2)) = (((l.length : Int) == 0) || l.any (fun x => decide (0 ≤ x.2.2))) := by
    cases l with
    | nil => rfl
    | cons x xs =>
      have hl : (((x :: xs).length : Int) == 0) = false := by simp; omega
      rw [hl]
      show (false || decide (0 ≤ (frontV (x :: xs)).2.2)) = _
      rw [Bool.false_or, Bool.false_or]
      rw [Bool.eq_iff_iff, decide_eq_true_iff, List.any_eq_true]
      constructor
      · intro h
        exact ⟨_, frontV_mem (by simp), by simpa using h⟩
      · rintro ⟨y, hy, h⟩
        have := frontV_best hy
        simp at h
        omega
  rw [e1, e2]
theorem item_no {x0 x1 x2 : Int} (h : x0 < 0 ∨ 1073741824 < x0 ∨ goodB x1 = false ∨ x2 < -1125899906842624 ∨ 1125899906842624 < x2) : itemB (x0, x1, x2) = false := by
  cases hb : itemB (x0, x1, x2) with
  | false => rfl
  | true =>
    have h2 := itemB_true.1 hb
    simp only at h2
    rcases h with h | h | h | h | h
    · omega
    · omega
    · rw [goodB_true.2 h2.2.2.1] at h; cases h
    · omega
    · omega
theorem item_yes {x0 x1 x2 : Int} (h1 : ¬ x0 < 0) (h2 : ¬ 1073741824 < x0) (h3 : goodB x1 = true) (h4 : ¬ x2 < -1125899906842624) (h5 : ¬ 1125899906842624 < x2) : itemB (x0, x1, x2) = true :=
  itemB_true.2 ⟨by simp only; omega, by simp only; omega, goodB_true.1 h3, by simp only; omega, by simp only; omega⟩

set_option maxRecDepth 100000 in
set_option maxHeartbeats 16000000 in
theorem rgood_c (f0 : Int) (A : Option Addr) (n c : Nat) (l : List RI) (w : World) (hn : l.length = n) (hl : n ≤ 1000000) (hr : TRow w A l) :
    Calls Tryz.prog 25 #[.agg #[.int .i64 f0, .slice A n c]] w (Ret10 (.bool (goodV f0 l)) w) := by
  obtain ⟨W, hW⟩ : ∃ W, w.alloc (.cells #[.int .i64 f0, .slice A n c] 36) = W := ⟨_, rfl⟩
  have hb : Below w.heap.size w W := by rw [← hW]; exact (Below.refl _ w).alloc (Nat.le_refl _) _
  have hB : W.heap[w.heap.size]? = some (.cells #[.int .i64 f0, .slice A n c] 36 (0, 0)) := by rw [← hW]; exact World.alloc_heap_new w _
  have hs : W.heap.size = w.heap.size + 1 := by rw [← hW]; simp
  have b0 : W.cell? ⟨w.heap.size, 0, none⟩ = some (.int .i64 f0) := by simp [World.cell?, hB]
  have b1 : W.cell? ⟨w.heap.size, 1, none⟩ = some (.slice A n c) := by simp [World.cell?, hB]
  have BOX : Hid (∀ w', Below W.heap.size W w' → w'.cell? ⟨w.heap.size, 0, none⟩ = some (.int .i64 f0) ∧ w'.cell? ⟨w.heap.size, 1, none⟩ = some (.slice A n c)) := Lib.hid (fun w' h => ⟨(h.cell (p := ⟨w.heap.size, 0, none⟩) (by show w.heap.size < _; omega)).trans b0, (h.cell (p := ⟨w.heap.size, 1, none⟩) (by show w.heap.size < _; omega)).trans b1⟩)
  have HV := Lib.hid (good_split f0 l)
  generalize goodV f0 l = V at *
  have HR := Lib.hid (hr.below hb (Nat.le_refl _))
  have HB := Lib.hid hb
  have HN := Lib.hid hn
  have HW := Lib.hid hW
  obtain ⟨GA, hga⟩ : ∃ GA, ascB (-1) l = GA := ⟨_, rfl⟩
  have HGA := Lib.hid hga
  rw [hga] at HV
  have hz : ((n : Int) == 0) = frTo l 0 := by unfold frTo; rw [hn]; simp
  have hz2 : (f0 == -1) = awTo f0 l 0 := by unfold awTo; simp
  have HZ := Lib.hid (And.intro hz hz2)
  clear hr hn hga hb hB hs hW hz hz2
  go_enter Tryz.func25, Tryz.ntmps25
  go_wp2_with fail
  rw [HW.out]
  go_big_quiet (fail)
  rename_i nq
  go_wp2_with fail
  go_loopw [3, 4, 5] (fun va vf iv wr => ∃ (k : Nat) (q : Int), va = .bool (awTo f0 l k) ∧ vf = .bool (frTo l k) ∧ iv = .int .i64 k ∧ k ≤ n ∧ Hid (((k = 0 ∧ q = -1) ∨ ∃ j y, k = j + 1 ∧ l[j]? = some y ∧ q = y.1) ∧ GA = ascB q (l.drop k)) ∧ Hid (Below W.heap.size W wr)) (fun _ _ iv _ => n - (intOf iv).toNat)
  case atStart => exact ⟨0, -1, by rw [← HZ.out.2], by rw [← HZ.out.1], rfl, Nat.zero_le _, Lib.hid ⟨.inl ⟨rfl, rfl⟩, HGA.out.symm⟩, Lib.hid (below_drewN (Below.refl _ W) _)⟩
  case round =>
    clear b0 b1
    obtain ⟨k, q, rfl, rfl, rfl, hk, HQ, HBR⟩ := hrel
    obtain ⟨b0, b1⟩ := BOX.out wr HBR.out
    obtain ⟨aw, haw⟩ : ∃ aw, awTo f0 l k = aw := ⟨_, rfl⟩
    obtain ⟨fr, hfr⟩ : ∃ fr, frTo l k = fr := ⟨_, rfl⟩
    rw [haw, hfr]
    by_cases hlt : k < n
    · obtain ⟨x, hx⟩ : ∃ x, l[k]? = some x := ⟨_, List.getElem?_eq_getElem (by rw [HN.out]; exact hlt)⟩
      obtain ⟨ad, rfl, c0, c1, c2⟩ := (HR.out.below HBR.out (Nat.le_refl _)).at hx
      have hbl : (ad.add (k * 3)).block < wr.heap.size := cell_lt0 c0
      have HS := Lib.hid (ascB_step (q := q) hx)
      have hna := awTo_next (f0 := f0) hx
      have hnf := frTo_next hx
      rw [haw] at hna
      rw [hfr] at hnf
      have HNA := Lib.hid (And.intro hna hnf)
      have HXk := Lib.hid hx
      clear hx hna hnf haw hfr
      obtain ⟨x0, x1, x2⟩ := x
      simp only at c0 c1 c2
      obtain ⟨w2, hw2⟩ : ∃ w2, wr.alloc (.cells #[.int .i64 x0, .int .i64 x1, .int .i64 x2] 67) = w2 := ⟨_, rfl⟩
      have hb2 : Below wr.heap.size wr w2 := by rw [← hw2]; exact (Below.refl _ wr).alloc (Nat.le_refl _) _
      have hI : w2.heap[wr.heap.size]? = some (.cells #[.int .i64 x0, .int .i64 x1, .int .i64 x2] 67 (0, 0)) := by rw [← hw2]; exact World.alloc_heap_new wr _
      have d0 : w2.cell? ⟨wr.heap.size, 0, none⟩ = some (.int .i64 x0) := by simp [World.cell?, hI]
      have d1 : w2.cell? ⟨wr.heap.size, 1, none⟩ = some (.int .i64 x1) := by simp [World.cell?, hI]
      have d2 : w2.cell? ⟨wr.heap.size, 2, none⟩ = some (.int .i64 x2) := by simp [World.cell?, hI]
      have HBE : Hid (Below W.heap.size W w2) := Lib.hid (HBR.out.trans (hb2.mono HBR.out.size))
      obtain ⟨e0, e1⟩ := BOX.out w2 HBE.out
      have HW2 := Lib.hid hw2
      have KQ : Hid (∀ (W : World) n, Calls Tryz.prog 55 #[.int .i64 x1] (W.drewN n) fun e w'' => e = .returned (.bool (goodB x1)) ∧ ∃ m, w'' = W.drewN m) := Lib.hid (fun W n => quiet_eq (rgoodw_c x1 (W.drewN n)))
      have KQ0 : Hid (∀ (W : World), Calls Tryz.prog 55 #[.int .i64 x1] W fun e w'' => e = .returned (.bool (goodB x1)) ∧ W = w'') := Lib.hid (fun W => rgoodw_c x1 W)
      obtain ⟨gb, hgb⟩ : ∃ gb, goodB x1 = gb := ⟨_, rfl⟩
      rw [hgb] at KQ KQ0
      have HGB := Lib.hid hgb
      have hk0 : (0 : Int) ≤ (k : Int) := by omega
      have hkm : (k : Int) < (n : Int) := by omega
      clear hw2 hb2 hI hgb
      rcases HQ.out.1 with ⟨hk00, hq⟩ | ⟨j, y, hj, hy, hq⟩
      · subst hq
        have hkz : ¬ (0 : Int) < (k : Int) := by omega
        clear hk00
        by_cases h1 : x0 < 0
        · have g1 : decide (x0 < 0) = true := decide_eq_true h1
          have HP : Hid (GA = false) := Lib.hid (by rw [HQ.out.2, HS.out, item_no (.inl h1)]; simp)
          clear HS KQ0
          go_wp2_with fail
          rw [HW2.out]
          go_big_quiet ((first | exact KQ.out _ _))
          go_wp2_with fail
          go_ret
          exact ⟨ret_b (by rw [HV.out, HP.out]; simp), below_drewN (HB.out.trans (HBE.out.mono HB.out.size)) _⟩
        have g1 : decide (x0 < 0) = false := decide_eq_false h1
        by_cases h2 : 1073741824 < x0
        · have g2 : decide (1073741824 < x0) = true := decide_eq_true h2
          have HP : Hid (GA = false) := Lib.hid (by rw [HQ.out.2, HS.out, item_no (.inr (.inl h2))]; simp)
          clear HS KQ0
          go_wp2_with fail
          rw [HW2.out]
          go_big_quiet ((first | exact KQ.out _ _))
          go_wp2_with fail
          go_ret
          exact ⟨ret_b (by rw [HV.out, HP.out]; simp), below_drewN (HB.out.trans (HBE.out.mono HB.out.size)) _⟩
        have g2 : decide (1073741824 < x0) = false := decide_eq_false h2
        have gz : decide ((0 : Int) < (k : Int)) = false := decide_eq_false hkz
        have gzn : decide (0 < k) = false := decide_eq_false (by omega)
        cases gb
        case' false =>
          have HP : Hid (GA = false) := Lib.hid (by rw [HQ.out.2, HS.out, item_no (.inr (.inr (.inl HGB.out)))]; simp)
          clear HS KQ0
          go_wp2_with fail
          rw [HW2.out]
          go_big_quiet ((first | exact KQ.out _ _))
          go_wp2_with fail
          go_ret
          exact ⟨ret_b (by rw [HV.out, HP.out]; simp), below_drewN (HB.out.trans (HBE.out.mono HB.out.size)) _⟩
        by_cases h4 : x2 < -1125899906842624
        · have g4 : decide (x2 < -1125899906842624) = true := decide_eq_true h4
          have HP : Hid (GA = false) := Lib.hid (by rw [HQ.out.2, HS.out, item_no (.inr (.inr (.inr (.inl h4))))]; simp)
          clear HS KQ0
          go_wp2_with fail
          rw [HW2.out]
          go_big_quiet ((first | exact KQ.out _ _))
          go_wp2_with fail
          go_ret
          exact ⟨ret_b (by rw [HV.out, HP.out]; simp), below_drewN (HB.out.trans (HBE.out.mono HB.out.size)) _⟩
        have g4 : decide (x2 < -1125899906842624) = false := decide_eq_false h4
        by_cases h5 : 1125899906842624 < x2
        · have g5 : decide (1125899906842624 < x2) = true := decide_eq_true h5
          have HP : Hid (GA = false) := Lib.hid (by rw [HQ.out.2, HS.out, item_no (.inr (.inr (.inr (.inr h5))))]; simp)
          clear HS KQ0
          go_wp2_with fail
          rw [HW2.out]
          go_big_quiet ((first | exact KQ.out _ _))
          go_wp2_with fail
          go_ret
          exact ⟨ret_b (by rw [HV.out, HP.out]; simp), below_drewN (HB.out.trans (HBE.out.mono HB.out.size)) _⟩
        have g5 : decide (1125899906842624 < x2) = false := decide_eq_false h5
        have hit := item_yes h1 h2 HGB.out h4 h5
        have HNX : Hid (GA = ascB x0 (l.drop (k + 1))) := Lib.hid (by
          have hlt0 : decide ((-1) < x0) = true := decide_eq_true (by omega)
          rw [HQ.out.2, HS.out, hit, hlt0]
          rfl)
        clear HS KQ0 hit
        go_wp2_with fail
        rw [HW2.out]
        go_big_quiet ((first | exact KQ.out _ _))
        rename_i nq2
        clear KQ h1 h2 h4 h5 g1 g2 g4 g5 gz gzn
        cases aw
        all_goals
          cases fr
          all_goals
            go_wp2_with fail
            go_roundw
            case rel => exact ⟨k + 1, x0, by rw [HNA.out.1]; rfl, by rw [HNA.out.2]; rfl, by go_num, by omega, Lib.hid ⟨.inr ⟨k, _, rfl, HXk.out, rfl⟩, HNX.out⟩, Lib.hid (below_drewN HBE.out _)⟩
            case measure => simp [intOf]; omega
      · subst hq
        obtain ⟨ad', he', t0, -, -⟩ := (HR.out.below HBE.out (Nat.le_refl _)).at hy
        obtain rfl : ad = ad' := by injection he'
        obtain ⟨y0, y1, y2⟩ := y
        simp only at t0
        have hwj : IntKind.i64.wrap ((k : Int) - 1) = (j : Int) := by rw [IntKind.wrap_i64]; omega
        have hj0 : (0 : Int) ≤ (j : Int) := by omega
        have hjn : (j : Int) < (n : Int) := by omega
        have hjp : (0 : Int) < (k : Int) := by omega
        clear hj
        clear hy he'
        by_cases h1 : x0 < 0
        · have g1 : decide (x0 < 0) = true := decide_eq_true h1
          have HP : Hid (GA = false) := Lib.hid (by rw [HQ.out.2, HS.out, item_no (.inl h1)]; simp)
          clear HS KQ0
          go_wp2_with fail
          rw [HW2.out]
          go_big_quiet ((first | exact KQ.out _ _))
          go_wp2_with fail
          go_ret
          exact ⟨ret_b (by rw [HV.out, HP.out]; simp), below_drewN (HB.out.trans (HBE.out.mono HB.out.size)) _⟩
        have g1 : decide (x0 < 0) = false := decide_eq_false h1
        by_cases h2 : 1073741824 < x0
        · have g2 : decide (1073741824 < x0) = true := decide_eq_true h2
          have HP : Hid (GA = false) := Lib.hid (by rw [HQ.out.2, HS.out, item_no (.inr (.inl h2))]; simp)
          clear HS KQ0
          go_wp2_with fail
          rw [HW2.out]
          go_big_quiet ((first | exact KQ.out _ _))
          go_wp2_with fail
          go_ret
          exact ⟨ret_b (by rw [HV.out, HP.out]; simp), below_drewN (HB.out.trans (HBE.out.mono HB.out.size)) _⟩
        have g2 : decide (1073741824 < x0) = false := decide_eq_false h2
        have gz : decide ((0 : Int) < (k : Int)) = true := decide_eq_true hjp
        have gzn : decide (0 < k) = true := decide_eq_true (by omega)
        by_cases h6 : x0 ≤ y0
        · have g6 : decide (x0 ≤ y0) = true := decide_eq_true h6
          have HP : Hid (GA = false) := Lib.hid (by rw [HQ.out.2, HS.out]; simp; omega)
          clear HS KQ0
          go_wp2_with fail
          rw [HW2.out]
          go_big_quiet ((first | exact KQ.out _ _))
          go_wp2_with fail
          go_ret
          exact ⟨ret_b (by rw [HV.out, HP.out]; simp), below_drewN (HB.out.trans (HBE.out.mono HB.out.size)) _⟩
        have g6 : decide (x0 ≤ y0) = false := decide_eq_false h6
        cases gb
        case' false =>
          have HP : Hid (GA = false) := Lib.hid (by rw [HQ.out.2, HS.out, item_no (.inr (.inr (.inl HGB.out)))]; simp)
          clear HS KQ0
          go_wp2_with fail
          rw [HW2.out]
          go_big_quiet ((first | exact KQ.out _ _))
          go_wp2_with fail
          go_ret
          exact ⟨ret_b (by rw [HV.out, HP.out]; simp), below_drewN (HB.out.trans (HBE.out.mono HB.out.size)) _⟩
        by_cases h4 : x2 < -1125899906842624
        · have g4 : decide (x2 < -1125899906842624) = true := decide_eq_true h4
          have HP : Hid (GA = false) := Lib.hid (by rw [HQ.out.2, HS.out, item_no (.inr (.inr (.inr (.inl h4))))]; simp)
          clear HS KQ0
          go_wp2_with fail
          rw [HW2.out]
          go_big_quiet ((first | exact KQ.out _ _))
          go_wp2_with fail
          go_ret
          exact ⟨ret_b (by rw [HV.out, HP.out]; simp), below_drewN (HB.out.trans (HBE.out.mono HB.out.size)) _⟩
        have g4 : decide (x2 < -1125899906842624) = false := decide_eq_false h4
        by_cases h5 : 1125899906842624 < x2
        · have g5 : decide (1125899906842624 < x2) = true := decide_eq_true h5
          have HP : Hid (GA = false) := Lib.hid (by rw [HQ.out.2, HS.out, item_no (.inr (.inr (.inr (.inr h5))))]; simp)
          clear HS KQ0
          go_wp2_with fail
          rw [HW2.out]
          go_big_quiet ((first | exact KQ.out _ _))
          go_wp2_with fail
          go_ret
          exact ⟨ret_b (by rw [HV.out, HP.out]; simp), below_drewN (HB.out.trans (HBE.out.mono HB.out.size)) _⟩
        have g5 : decide (1125899906842624 < x2) = false := decide_eq_false h5
        have hit := item_yes h1 h2 HGB.out h4 h5
        have HNX : Hid (GA = ascB x0 (l.drop (k + 1))) := Lib.hid (by
          have hlt0 : decide (y0 < x0) = true := decide_eq_true (by omega)
          rw [HQ.out.2, HS.out, hit, hlt0]
          rfl)
        clear HS KQ0 hit
        go_wp2_with fail
        rw [HW2.out]
        go_big_quiet ((first | exact KQ.out _ _))
        rename_i nq2
        clear KQ h1 h2 h4 h5 g1 g2 g4 g5 gz gzn h6 g6
        cases aw
        all_goals
          cases fr
          all_goals
            go_wp2_with fail
            go_roundw
            case rel => exact ⟨k + 1, x0, by rw [HNA.out.1]; rfl, by rw [HNA.out.2]; rfl, by go_num, by omega, Lib.hid ⟨.inr ⟨k, _, rfl, HXk.out, rfl⟩, HNX.out⟩, Lib.hid (below_drewN HBE.out _)⟩
            case measure => simp [intOf]; omega
    · obtain rfl : k = n := by omega
      have HG : Hid (GA = true) := Lib.hid (by rw [HQ.out.2, ← HN.out]; exact ascB_end q l)
      have HBZ := Lib.hid (HB.out.trans (HBR.out.mono HB.out.size))
      have hv := HV.out
      rw [HN.out, haw, hfr, HG.out] at hv
      have HVV := Lib.hid hv
      clear haw hfr hv HR HQ
      by_cases h64 : k ≤ 64
      all_goals
        have h64' : (k : Int) ≤ 64 ∨ ¬ (k : Int) ≤ 64 := by omega
        cases aw
        all_goals
          cases fr
          all_goals
            go_wp2_with fail
            all_goals
              go_ret
              exact ⟨ret_b (by rw [HVV.out]; first | (simp; done) | (simp [h64]; done) | (simp; omega)), HBZ.out⟩
end Go.Proofs.YtnfcapeajhegmaaGreat
