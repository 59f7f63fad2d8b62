/- The reference's Good. The reference's Seed. FairSeeds. -/
import Derived.Test.YtnfcapeajhegmaaGreatMu
import Derived.Test.YtnfcapeajhegmaaGreatFo3
import Derived.Test.YtnfcapeajhegmaaGreatFy3
import Derived.Test.YtnfcapeajhegmaaGreatFx3
import Derived.Test.YtnfcapeajhegmaaGreatYh
namespace Go.Proofs.YtnfcapeajhegmaaGreat
open Go.RowKit

def awTo (f0 : Int) (l : List RI) (k : Nat) : Bool := (f0 == -1) || (l.take k).any (fun x => x.1 == f0)
def frTo (l : List RI) (k : Nat) : Bool := ((l.length : Int) == 0) || (l.take k).any (fun x => decide (0 ≤ x.2.2))
theorem awTo_next {f0 : Int} {l : List RI} {k : Nat} {x : RI} (h : l[k]? = some x) : awTo f0 l (k + 1) = (awTo f0 l k || (x.1 == f0)) := by
  unfold awTo
  rw [List.take_add_one, h, List.any_append, ← Bool.or_assoc]
  simp
theorem frTo_next {l : List RI} {k : Nat} {x : RI} (h : l[k]? = some x) : frTo l (k + 1) = (frTo l k || decide (0 ≤ x.2.2)) := by
  unfold frTo
  rw [List.take_add_one, h, List.any_append, ← Bool.or_assoc]
  simp
theorem good_split (f0 : Int) (l : List RI) : goodV f0 l = (decide (l.length ≤ 64) && ascB (-1) l && awTo f0 l l.length && frTo l l.length) := by
  unfold goodV awTo frTo
  rw [List.take_length, hasL_hasI]
  have e1 : (decide (f0 = -1) || hasI l f0) = ((f0 == -1) || l.any (fun x => x.1 == f0)) := by
    unfold hasI
    rfl
  have e2 : (!someL l || decide (0 ≤ (frontV l).2.2)) = (((l.length : Int) == 0) || l.any (fun x => decide (0 ≤ x.2.2))) := by
    cases l with
    | nil => rfl
    | cons x xs =>
      have hl : (((x :: xs).length : Int) == 0) = false := by simp; omega
      rw [hl]
      show (false || decide (0 ≤ (frontV (x :: xs)).2.2)) = _
      rw [Bool.false_or, Bool.false_or]
      rw [Bool.eq_iff_iff, decide_eq_true_iff, List.any_eq_true]
      constructor
      · intro h
        exact ⟨_, frontV_mem (by simp), by simpa using h⟩
      · rintro ⟨y, hy, h⟩
        have := frontV_best hy
        simp at h
        omega
  rw [e1, e2]
theorem item_no {x0 x1 x2 : Int} (h : x0 < 0 ∨ 1073741824 < x0 ∨ goodB x1 = false ∨ x2 < -1125899906842624 ∨ 1125899906842624 < x2) : itemB (x0, x1, x2) = false := by
  cases hb : itemB (x0, x1, x2) with
  | false => rfl
  | true =>
    have h2 := itemB_true.1 hb
    simp only at h2
    rcases h with h | h | h | h | h
    · omega
    · omega
    · rw [goodB_true.2 h2.2.2.1] at h; cases h
    · omega
    · omega
theorem item_yes {x0 x1 x2 : Int} (h1 : ¬ x0 < 0) (h2 : ¬ 1073741824 < x0) (h3 : goodB x1 = true) (h4 : ¬ x2 < -1125899906842624) (h5 : ¬ 1125899906842624 < x2) : itemB (x0, x1, x2) = true :=
  itemB_true.2 ⟨by simp only; omega, by simp only; omega, goodB_true.1 h3, by simp only; omega, by simp only; omega⟩

set_option maxRecDepth 100000 in
set_option maxHeartbeats 16000000 in
theorem rgood_c (f0 : Int) (A : Option Addr) (n c : Nat) (l : List RI) (w : World) (hn : l.length = n) (hl : n ≤ 1000000) (hr : TRow w A l) :
    Calls Tryz.prog 25 #[.agg #[.int .i64 f0, .slice A n c]] w (Ret10 (.bool (goodV f0 l)) w) := by
  obtain ⟨W, hW⟩ : ∃ W, w.alloc (.cells #[.int .i64 f0, .slice A n c] 36) = W := ⟨_, rfl⟩
  have hb : Below w.heap.size w W := by rw [← hW]; exact (Below.refl _ w).alloc (Nat.le_refl _) _
  have hB : W.heap[w.heap.size]? = some (.cells #[.int .i64 f0, .slice A n c] 36 (0, 0)) := by rw [← hW]; exact World.alloc_heap_new w _
  have hs : W.heap.size = w.heap.size + 1 := by rw [← hW]; simp
  have b0 : W.cell? ⟨w.heap.size, 0, none⟩ = some (.int .i64 f0) := by simp [World.cell?, hB]
  have b1 : W.cell? ⟨w.heap.size, 1, none⟩ = some (.slice A n c) := by simp [World.cell?, hB]
  have BOX : Hid (∀ w', Below W.heap.size W w' → w'.cell? ⟨w.heap.size, 0, none⟩ = some (.int .i64 f0) ∧ w'.cell? ⟨w.heap.size, 1, none⟩ = some (.slice A n c)) := Lib.hid (fun w' h => ⟨(h.cell (p := ⟨w.heap.size, 0, none⟩) (by show w.heap.size < _; omega)).trans b0, (h.cell (p := ⟨w.heap.size, 1, none⟩) (by show w.heap.size < _; omega)).trans b1⟩)
  have HV := Lib.hid (good_split f0 l)
  generalize goodV f0 l = V at *
  have HR := Lib.hid (hr.below hb (Nat.le_refl _))
  have HB := Lib.hid hb
  have HN := Lib.hid hn
  have HW := Lib.hid hW
  obtain ⟨GA, hga⟩ : ∃ GA, ascB (-1) l = GA := ⟨_, rfl⟩
  have HGA := Lib.hid hga
  rw [hga] at HV
  have hz : ((n : Int) == 0) = frTo l 0 := by unfold frTo; rw [hn]; simp
  have hz2 : (f0 == -1) = awTo f0 l 0 := by unfold awTo; simp
  have HZ := Lib.hid (And.intro hz hz2)
  clear hr hn hga hb hB hs hW hz hz2
  go_enter Tryz.func25, Tryz.ntmps25
  go_wp2_with fail
  rw [HW.out]
  go_big_quiet (fail)
  rename_i nq
  go_wp2_with fail
  go_loopw [3, 4, 5] (fun va vf iv wr => ∃ (k : Nat) (q : Int), va = .bool (awTo f0 l k) ∧ vf = .bool (frTo l k) ∧ iv = .int .i64 k ∧ k ≤ n ∧ Hid (((k = 0 ∧ q = -1) ∨ ∃ j y, k = j + 1 ∧ l[j]? = some y ∧ q = y.1) ∧ GA = ascB q (l.drop k)) ∧ Hid (Below W.heap.size W wr)) (fun _ _ iv _ => n - (intOf iv).toNat)
  case atStart => exact ⟨0, -1, by rw [← HZ.out.2], by rw [← HZ.out.1], rfl, Nat.zero_le _, Lib.hid ⟨.inl ⟨rfl, rfl⟩, HGA.out.symm⟩, Lib.hid (below_drewN (Below.refl _ W) _)⟩
  case round =>
    clear b0 b1
    obtain ⟨k, q, rfl, rfl, rfl, hk, HQ, HBR⟩ := hrel
    obtain ⟨b0, b1⟩ := BOX.out wr HBR.out
    obtain ⟨aw, haw⟩ : ∃ aw, awTo f0 l k = aw := ⟨_, rfl⟩
    obtain ⟨fr, hfr⟩ : ∃ fr, frTo l k = fr := ⟨_, rfl⟩
    rw [haw, hfr]
    by_cases hlt : k < n
    · obtain ⟨x, hx⟩ : ∃ x, l[k]? = some x := ⟨_, List.getElem?_eq_getElem (by rw [HN.out]; exact hlt)⟩
      obtain ⟨ad, rfl, c0, c1, c2⟩ := (HR.out.below HBR.out (Nat.le_refl _)).at hx
      have hbl : (ad.add (k * 3)).block < wr.heap.size := cell_lt0 c0
      have HS := Lib.hid (ascB_step (q := q) hx)
      have hna := awTo_next (f0 := f0) hx
      have hnf := frTo_next hx
      rw [haw] at hna
      rw [hfr] at hnf
      have HNA := Lib.hid (And.intro hna hnf)
      have HXk := Lib.hid hx
      clear hx hna hnf haw hfr
      obtain ⟨x0, x1, x2⟩ := x
      simp only at c0 c1 c2
      obtain ⟨w2, hw2⟩ : ∃ w2, wr.alloc (.cells #[.int .i64 x0, .int .i64 x1, .int .i64 x2] 67) = w2 := ⟨_, rfl⟩
      have hb2 : Below wr.heap.size wr w2 := by rw [← hw2]; exact (Below.refl _ wr).alloc (Nat.le_refl _) _
      have hI : w2.heap[wr.heap.size]? = some (.cells #[.int .i64 x0, .int .i64 x1, .int .i64 x2] 67 (0, 0)) := by rw [← hw2]; exact World.alloc_heap_new wr _
      have d0 : w2.cell? ⟨wr.heap.size, 0, none⟩ = some (.int .i64 x0) := by simp [World.cell?, hI]
      have d1 : w2.cell? ⟨wr.heap.size, 1, none⟩ = some (.int .i64 x1) := by simp [World.cell?, hI]
      have d2 : w2.cell? ⟨wr.heap.size, 2, none⟩ = some (.int .i64 x2) := by simp [World.cell?, hI]
      have HBE : Hid (Below W.heap.size W w2) := Lib.hid (HBR.out.trans (hb2.mono HBR.out.size))
      obtain ⟨e0, e1⟩ := BOX.out w2 HBE.out
      have HW2 := Lib.hid hw2
      have KQ : Hid (∀ (W : World) n, Calls Tryz.prog 55 #[.int .i64 x1] (W.drewN n) fun e w'' => e = .returned (.bool (goodB x1)) ∧ ∃ m, w'' = W.drewN m) := Lib.hid (fun W n => quiet_eq (rgoodw_c x1 (W.drewN n)))
      have KQ0 : Hid (∀ (W : World), Calls Tryz.prog 55 #[.int .i64 x1] W fun e w'' => e = .returned (.bool (goodB x1)) ∧ W = w'') := Lib.hid (fun W => rgoodw_c x1 W)
      obtain ⟨gb, hgb⟩ : ∃ gb, goodB x1 = gb := ⟨_, rfl⟩
      rw [hgb] at KQ KQ0
      have HGB := Lib.hid hgb
      have hk0 : (0 : Int) ≤ (k : Int) := by omega
      have hkm : (k : Int) < (n : Int) := by omega
      clear hw2 hb2 hI hgb
      rcases HQ.out.1 with ⟨hk00, hq⟩ | ⟨j, y, hj, hy, hq⟩
      · subst hq
        have hkz : ¬ (0 : Int) < (k : Int) := by omega
        clear hk00
        by_cases h1 : x0 < 0
        · have g1 : decide (x0 < 0) = true := decide_eq_true h1
          have HP : Hid (GA = false) := Lib.hid (by rw [HQ.out.2, HS.out, item_no (.inl h1)]; simp)
          clear HS KQ0
          go_wp2_with fail
          rw [HW2.out]
          go_big_quiet ((first | exact KQ.out _ _))
          go_wp2_with fail
          go_ret
          exact ⟨ret_b (by rw [HV.out, HP.out]; simp), below_drewN (HB.out.trans (HBE.out.mono HB.out.size)) _⟩
        have g1 : decide (x0 < 0) = false := decide_eq_false h1
        by_cases h2 : 1073741824 < x0
        · have g2 : decide (1073741824 < x0) = true := decide_eq_true h2
          have HP : Hid (GA = false) := Lib.hid (by rw [HQ.out.2, HS.out, item_no (.inr (.inl h2))]; simp)
          clear HS KQ0
          go_wp2_with fail
          rw [HW2.out]
          go_big_quiet ((first | exact KQ.out _ _))
          go_wp2_with fail
          go_ret
          exact ⟨ret_b (by rw [HV.out, HP.out]; simp), below_drewN (HB.out.trans (HBE.out.mono HB.out.size)) _⟩
        have g2 : decide (1073741824 < x0) = false := decide_eq_false h2
        have gz : decide ((0 : Int) < (k : Int)) = false := decide_eq_false hkz
        have gzn : decide (0 < k) = false := decide_eq_false (by omega)
        cases gb
        case' false =>
          have HP : Hid (GA = false) := Lib.hid (by rw [HQ.out.2, HS.out, item_no (.inr (.inr (.inl HGB.out)))]; simp)
          clear HS KQ0
          go_wp2_with fail
          rw [HW2.out]
          go_big_quiet ((first | exact KQ.out _ _))
          go_wp2_with fail
          go_ret
          exact ⟨ret_b (by rw [HV.out, HP.out]; simp), below_drewN (HB.out.trans (HBE.out.mono HB.out.size)) _⟩
        by_cases h4 : x2 < -1125899906842624
        · have g4 : decide (x2 < -1125899906842624) = true := decide_eq_true h4
          have HP : Hid (GA = false) := Lib.hid (by rw [HQ.out.2, HS.out, item_no (.inr (.inr (.inr (.inl h4))))]; simp)
          clear HS KQ0
          go_wp2_with fail
          rw [HW2.out]
          go_big_quiet ((first | exact KQ.out _ _))
          go_wp2_with fail
          go_ret
          exact ⟨ret_b (by rw [HV.out, HP.out]; simp), below_drewN (HB.out.trans (HBE.out.mono HB.out.size)) _⟩
        have g4 : decide (x2 < -1125899906842624) = false := decide_eq_false h4
        by_cases h5 : 1125899906842624 < x2
        · have g5 : decide (1125899906842624 < x2) = true := decide_eq_true h5
          have HP : Hid (GA = false) := Lib.hid (by rw [HQ.out.2, HS.out, item_no (.inr (.inr (.inr (.inr h5))))]; simp)
          clear HS KQ0
          go_wp2_with fail
          rw [HW2.out]
          go_big_quiet ((first | exact KQ.out _ _))
          go_wp2_with fail
          go_ret
          exact ⟨ret_b (by rw [HV.out, HP.out]; simp), below_drewN (HB.out.trans (HBE.out.mono HB.out.size)) _⟩
        have g5 : decide (1125899906842624 < x2) = false := decide_eq_false h5
        have hit := item_yes h1 h2 HGB.out h4 h5
        have HNX : Hid (GA = ascB x0 (l.drop (k + 1))) := Lib.hid (by
          have hlt0 : decide ((-1) < x0) = true := decide_eq_true (by omega)
          rw [HQ.out.2, HS.out, hit, hlt0]
          rfl)
        clear HS KQ0 hit
        go_wp2_with fail
        rw [HW2.out]
        go_big_quiet ((first | exact KQ.out _ _))
        rename_i nq2
        clear KQ h1 h2 h4 h5 g1 g2 g4 g5 gz gzn
        cases aw
        all_goals
          cases fr
          all_goals
            go_wp2_with fail
            go_roundw
            case rel => exact ⟨k + 1, x0, by rw [HNA.out.1]; rfl, by rw [HNA.out.2]; rfl, by go_num, by omega, Lib.hid ⟨.inr ⟨k, _, rfl, HXk.out, rfl⟩, HNX.out⟩, Lib.hid (below_drewN HBE.out _)⟩
            case measure => simp [intOf]; omega
      · subst hq
        obtain ⟨ad', he', t0, -, -⟩ := (HR.out.below HBE.out (Nat.le_refl _)).at hy
        obtain rfl : ad = ad' := by injection he'
        obtain ⟨y0, y1, y2⟩ := y
        simp only at t0
        have hwj : IntKind.i64.wrap ((k : Int) - 1) = (j : Int) := by rw [IntKind.wrap_i64]; omega
        have hj0 : (0 : Int) ≤ (j : Int) := by omega
        have hjn : (j : Int) < (n : Int) := by omega
        have hjp : (0 : Int) < (k : Int) := by omega
        clear hj
        clear hy he'
        by_cases h1 : x0 < 0
        · have g1 : decide (x0 < 0) = true := decide_eq_true h1
          have HP : Hid (GA = false) := Lib.hid (by rw [HQ.out.2, HS.out, item_no (.inl h1)]; simp)
          clear HS KQ0
          go_wp2_with fail
          rw [HW2.out]
          go_big_quiet ((first | exact KQ.out _ _))
          go_wp2_with fail
          go_ret
          exact ⟨ret_b (by rw [HV.out, HP.out]; simp), below_drewN (HB.out.trans (HBE.out.mono HB.out.size)) _⟩
        have g1 : decide (x0 < 0) = false := decide_eq_false h1
        by_cases h2 : 1073741824 < x0
        · have g2 : decide (1073741824 < x0) = true := decide_eq_true h2
          have HP : Hid (GA = false) := Lib.hid (by rw [HQ.out.2, HS.out, item_no (.inr (.inl h2))]; simp)
          clear HS KQ0
          go_wp2_with fail
          rw [HW2.out]
          go_big_quiet ((first | exact KQ.out _ _))
          go_wp2_with fail
          go_ret
          exact ⟨ret_b (by rw [HV.out, HP.out]; simp), below_drewN (HB.out.trans (HBE.out.mono HB.out.size)) _⟩
        have g2 : decide (1073741824 < x0) = false := decide_eq_false h2
        have gz : decide ((0 : Int) < (k : Int)) = true := decide_eq_true hjp
        have gzn : decide (0 < k) = true := decide_eq_true (by omega)
        by_cases h6 : x0 ≤ y0
        · have g6 : decide (x0 ≤ y0) = true := decide_eq_true h6
          have HP : Hid (GA = false) := Lib.hid (by rw [HQ.out.2, HS.out]; simp; omega)
          clear HS KQ0
          go_wp2_with fail
          rw [HW2.out]
          go_big_quiet ((first | exact KQ.out _ _))
          go_wp2_with fail
          go_ret
          exact ⟨ret_b (by rw [HV.out, HP.out]; simp), below_drewN (HB.out.trans (HBE.out.mono HB.out.size)) _⟩
        have g6 : decide (x0 ≤ y0) = false := decide_eq_false h6
        cases gb
        case' false =>
          have HP : Hid (GA = false) := Lib.hid (by rw [HQ.out.2, HS.out, item_no (.inr (.inr (.inl HGB.out)))]; simp)
          clear HS KQ0
          go_wp2_with fail
          rw [HW2.out]
          go_big_quiet ((first | exact KQ.out _ _))
          go_wp2_with fail
          go_ret
          exact ⟨ret_b (by rw [HV.out, HP.out]; simp), below_drewN (HB.out.trans (HBE.out.mono HB.out.size)) _⟩
        by_cases h4 : x2 < -1125899906842624
        · have g4 : decide (x2 < -1125899906842624) = true := decide_eq_true h4
          have HP : Hid (GA = false) := Lib.hid (by rw [HQ.out.2, HS.out, item_no (.inr (.inr (.inr (.inl h4))))]; simp)
          clear HS KQ0
          go_wp2_with fail
          rw [HW2.out]
          go_big_quiet ((first | exact KQ.out _ _))
          go_wp2_with fail
          go_ret
          exact ⟨ret_b (by rw [HV.out, HP.out]; simp), below_drewN (HB.out.trans (HBE.out.mono HB.out.size)) _⟩
        have g4 : decide (x2 < -1125899906842624) = false := decide_eq_false h4
        by_cases h5 : 1125899906842624 < x2
        · have g5 : decide (1125899906842624 < x2) = true := decide_eq_true h5
          have HP : Hid (GA = false) := Lib.hid (by rw [HQ.out.2, HS.out, item_no (.inr (.inr (.inr (.inr h5))))]; simp)
          clear HS KQ0
          go_wp2_with fail
          rw [HW2.out]
          go_big_quiet ((first | exact KQ.out _ _))
          go_wp2_with fail
          go_ret
          exact ⟨ret_b (by rw [HV.out, HP.out]; simp), below_drewN (HB.out.trans (HBE.out.mono HB.out.size)) _⟩
        have g5 : decide (1125899906842624 < x2) = false := decide_eq_false h5
        have hit := item_yes h1 h2 HGB.out h4 h5
        have HNX : Hid (GA = ascB x0 (l.drop (k + 1))) := Lib.hid (by
          have hlt0 : decide (y0 < x0) = true := decide_eq_true (by omega)
          rw [HQ.out.2, HS.out, hit, hlt0]
          rfl)
        clear HS KQ0 hit
        go_wp2_with fail
        rw [HW2.out]
        go_big_quiet ((first | exact KQ.out _ _))
        rename_i nq2
        clear KQ h1 h2 h4 h5 g1 g2 g4 g5 gz gzn h6 g6
        cases aw
        all_goals
          cases fr
          all_goals
            go_wp2_with fail
            go_roundw
            case rel => exact ⟨k + 1, x0, by rw [HNA.out.1]; rfl, by rw [HNA.out.2]; rfl, by go_num, by omega, Lib.hid ⟨.inr ⟨k, _, rfl, HXk.out, rfl⟩, HNX.out⟩, Lib.hid (below_drewN HBE.out _)⟩
            case measure => simp [intOf]; omega
    · obtain rfl : k = n := by omega
      have HG : Hid (GA = true) := Lib.hid (by rw [HQ.out.2, ← HN.out]; exact ascB_end q l)
      have HBZ := Lib.hid (HB.out.trans (HBR.out.mono HB.out.size))
      have hv := HV.out
      rw [HN.out, haw, hfr, HG.out] at hv
      have HVV := Lib.hid hv
      clear haw hfr hv HR HQ
      by_cases h64 : k ≤ 64
      all_goals
        have h64' : (k : Int) ≤ 64 ∨ ¬ (k : Int) ≤ 64 := by omega
        cases aw
        all_goals
          cases fr
          all_goals
            go_wp2_with fail
            all_goals
              go_ret
              exact ⟨ret_b (by rw [HVV.out]; first | (simp; done) | (simp [h64]; done) | (simp; omega)), HBZ.out⟩
end Go.Proofs.YtnfcapeajhegmaaGreat

namespace Go.Proofs.YtnfcapeajhegmaaGreat
open Go.RowKit

def seedT (base : Int) (l : List RI) : List TI := l.map (fun x => (x.1, x.2.1, base - x.2.2, base - x.2.2 + 4 * tickV x.2.1))
theorem cut_seed (base : Int) (l : List RI) : cutL (seedT base l) = seedR base l := by
  unfold cutL seedT seedR
  rw [List.map_map]
  rfl
theorem take_snocT {l : List TI} {k : Nat} {x : TI} (h : l[k]? = some x) : l.take (k + 1) = l.take k ++ [x] := by rw [List.take_add_one, h]; rfl
theorem flatT_snoc (l : List TI) (x : TI) : flatT (l ++ [x]) = flatT l ++ encT x := by rw [flatT_append]; simp [flatT]
/-- So many are in. -/
def SdAt (W : World) (p : Nat) (base : Int) (v : Value) (xs : List TI) (wr : World) : Prop := IsT wr p 1 base (-1) v xs ∧ (∀ g, v.ownBlock = some g → p < g) ∧ Below p W wr
theorem SdAt.next {W wr w5 : World} {p : Nat} {base : Int} {v v' : Value} {xs : List TI} {y : TI} {o : Obj} (h : SdAt W p base v xs wr) (_hW : p ≤ W.heap.size) (r1 : w5.ownsRow 0 73 4 v' (xs.length + 1) (flatT xs ++ encT y)) (r2 : ((wr.alloc o).drew).grownBy w5 v.ownBlock) (r3 : ∀ g, v'.ownBlock = some g → v.ownBlock = some g ∨ ((wr.alloc o).drew).heap.size ≤ g) :
    SdAt W p base v' (xs ++ [y]) (w5.setCell ⟨p, 3, none⟩ v') ∧ w5.cell? ⟨p, 3, none⟩ = some v ∧ w5.frozen? ⟨p, 3, none⟩ = false := by
  obtain ⟨h1, h2, h3⟩ := h
  have hp := h1.ltp
  have hsz : ((wr.alloc o).drew).heap.size = wr.heap.size + 1 := by show (wr.alloc o).heap.size = _; simp
  have hs5 : wr.heap.size + 1 ≤ w5.heap.size := by have := r2.size; omega
  have hk : ∀ k, k < p + 1 → w5.heap[k]? = wr.heap[k]? := fun k hlt => (r2.block k (by omega) (fun e => by have := h2 k e.symm; omega)).trans (Below.heap_alloc wr o k (by omega))
  have e1 := (hk p (by omega)).trans h1.1
  have hv' : ∀ g, v'.ownBlock = some g → p < g := fun g hg => by
    rcases r3 g hg with h | h
    · exact h2 g h
    · omega
  have hne : ∀ k, k ≠ p → (w5.setCell ⟨p, 3, none⟩ v').heap[k]? = w5.heap[k]? := fun k hk => Below.heap_setCell w5 _ _ k hk
  have hss : (w5.setCell ⟨p, 3, none⟩ v').heap.size = w5.heap.size := by simp [World.setCell]
  refine ⟨⟨⟨set_heap e1 _, ?_, fun e => by have := hv' p e; omega⟩, hv', ⟨?_, ?_, ?_, by have := h3.size; omega, fun k hlt => (hne k (by omega)).trans ((hk k (by omega)).trans (h3.block k hlt))⟩⟩, by simp [World.cell?, e1], by simp [World.frozen?, e1]⟩
  · unfold TV
    rw [List.length_append, List.length_singleton, flatT_snoc]
    exact own_keep r1 (fun g hg => hne g (by have := hv' g hg; omega))
  · exact r2.os.trans h3.os
  · exact r2.tape.trans h3.tape
  · exact r2.output.trans h3.output
/-- What Seed answers. -/
def RSPost (base f0 : Int) (l : List RI) (w : World) (e : Ending) (w' : World) : Prop :=
  if goodV f0 l = true ∧ -1152921504606846976 ≤ base ∧ base ≤ 1152921504606846976 then ∃ p v, e = .returned (.tuple #[.pointer (some ⟨p, 0, none⟩), .int .i64 0]) ∧ IsT w' p 1 base f0 v (seedT base l) ∧ (∀ k, TOf p v k → w.heap.size ≤ k) ∧ Below w.heap.size w w'
  else e = .returned (.tuple #[.pointer none, .int .i64 1]) ∧ Below w.heap.size w w'

set_option linter.unusedSimpArgs false in
set_option maxRecDepth 100000 in
set_option maxHeartbeats 16000000 in
theorem rseed_c (f0 base : Int) (A : Option Addr) (n c : Nat) (l : List RI) (w : World) (hn : l.length = n) (hl : n ≤ 1000000) (hr : TRow w A l) :
    Calls Tryz.prog 7 #[.int .i64 1, .agg #[.int .i64 f0, .slice A n c], .int .i64 base] w (RSPost base f0 l w) := by
  obtain ⟨W, hW⟩ : ∃ W, w.alloc (.cells #[.int .i64 f0, .slice A n c] 36) = W := ⟨_, rfl⟩
  have hb : Below w.heap.size w W := by rw [← hW]; exact (Below.refl _ w).alloc (Nat.le_refl _) _
  have hB : W.heap[w.heap.size]? = some (.cells #[.int .i64 f0, .slice A n c] 36 (0, 0)) := by rw [← hW]; exact World.alloc_heap_new w _
  have hs : W.heap.size = w.heap.size + 1 := by rw [← hW]; simp
  have b0 : W.cell? ⟨w.heap.size, 0, none⟩ = some (.int .i64 f0) := by simp [World.cell?, hB]
  have b1 : W.cell? ⟨w.heap.size, 1, none⟩ = some (.slice A n c) := by simp [World.cell?, hB]
  have HW := Lib.hid hW
  have HB := Lib.hid hb
  have HN := Lib.hid hn
  by_cases hbase : -1152921504606846976 ≤ base ∧ base ≤ 1152921504606846976
  · obtain ⟨p, hp⟩ : ∃ p, W.heap.size = p := ⟨_, rfl⟩
    have kn := rnew_c 1 base W (.inr (.inl rfl)) hbase.1 hbase.2
    have hi0 := rnew_is (w := W) 1 base
    rw [hp] at kn hi0
    obtain ⟨w3, hw3⟩ : ∃ w3, W.alloc (.cells #[.int .i64 1, .int .i64 base, .int .i64 (-1), .slice none 0 0] 70) = w3 := ⟨_, rfl⟩
    rw [hw3] at kn hi0
    have hb3 : Below p W w3 := by rw [← hw3, ← hp]; exact (Below.refl _ W).alloc (Nat.le_refl _) _
    have hs3 : w3.heap.size = p + 1 := by rw [← hw3, ← hp]; simp
    have hpw : p = w.heap.size + 1 := by omega
    have HS0 : Hid (SdAt W p base (.slice none 0 0) [] w3) := Lib.hid ⟨hi0, fun g hg => by simp [Value.ownBlock] at hg, hb3⟩
    have BOX : Hid (∀ w', Below p W w' → w'.cell? ⟨w.heap.size, 0, none⟩ = some (.int .i64 f0) ∧ w'.cell? ⟨w.heap.size, 1, none⟩ = some (.slice A n c)) := Lib.hid (fun w' h => ⟨(h.cell (p := ⟨w.heap.size, 0, none⟩) (by show w.heap.size < _; omega)).trans b0, (h.cell (p := ⟨w.heap.size, 1, none⟩) (by show w.heap.size < _; omega)).trans b1⟩)
    have HR : Hid (∀ w', Below p W w' → TRow w' A l ∧ Below w.heap.size w w') := Lib.hid (fun w' h => ⟨hr.below (hb.trans (h.mono (by omega))) (Nat.le_refl _), hb.trans (h.mono (by omega))⟩)
    have KG := Lib.hid (rgood_c f0 A n c l w3 hn hl (HR.out w3 hb3).1)
    have KN := Lib.hid kn
    obtain ⟨d0, d1⟩ := BOX.out w3 hb3
    have HB3 := Lib.hid hb3
    have HP := Lib.hid (And.intro hp hpw)
    have HBA := Lib.hid hbase
    cases hg : goodV f0 l with
    | false =>
      rw [hg] at KG
      refine Calls.mono (?_ : Calls _ _ _ _ (fun e w' => e = .returned (.tuple #[.pointer none, .int .i64 1]) ∧ Below w.heap.size w w')) (fun e w' h => by unfold RSPost; rw [if_neg (fun hh => by rw [hg] at hh; exact Bool.false_ne_true hh.1)]; exact h)
      clear hr hn hb hB hs hW hbase hi0 hw3 kn hb3 hs3 hpw hp hg HS0
      go_enter Tryz.func7, Tryz.ntmps7
      go_wp2_with fail
      rw [HW.out]
      refine KN.out.mono ?_
      rintro e w4 ⟨rfl, rfl⟩
      go_wp2_with fail
      refine KG.out.mono ?_
      rintro e w5 ⟨rfl, hb5⟩
      have HB5 := Lib.hid ((HR.out _ HB3.out).2.trans (hb5.mono (HR.out _ HB3.out).2.size))
      clear hb5 KG
      go_wp2_with fail
      go_ret2
      exact ⟨rfl, HB5.out⟩
    | true =>
      rw [hg] at KG
      refine Calls.mono (?_ : Calls _ _ _ _ (fun e w' => ∃ p v, e = .returned (.tuple #[.pointer (some ⟨p, 0, none⟩), .int .i64 0]) ∧ IsT w' p 1 base f0 v (seedT base l) ∧ (∀ k, TOf p v k → w.heap.size ≤ k) ∧ Below w.heap.size w w')) (fun e w' h => by unfold RSPost; rw [if_pos ⟨hg, hbase⟩]; exact h)
      have HGF := Lib.hid (goodV_of hg)
      obtain ⟨i0, hi, hz0, hz1, hz2⟩ := info_partsT info_ti
      clear hr hn hb hB hs hW hbase hi0 hw3 kn hb3 hs3 hpw hp hg
      go_enter Tryz.func7, Tryz.ntmps7
      go_wp2_with fail
      rw [HW.out]
      refine KN.out.mono ?_
      rintro e w4 ⟨rfl, rfl⟩
      go_wp2_with fail
      refine KG.out.mono ?_
      rintro e w5 ⟨rfl, hb5⟩
      have HS5 : Hid (SdAt W p base (.slice none 0 0) [] w5) := Lib.hid ⟨HS0.out.1.below hb5, HS0.out.2.1, HS0.out.2.2.trans (hb5.mono (by have := HS0.out.1.ltp; omega))⟩
      clear hb5 KG KN HS0 d0 d1
      obtain ⟨d0, d1⟩ := BOX.out w5 HS5.out.2.2
      go_wp2_with fail
      clear d0 d1
      go_loopw [10, 11] (fun iv _ wr => ∃ (k : Nat) (v : Value), iv = .int .i64 k ∧ k ≤ n ∧ Hid (SdAt W p base v ((seedT base l).take k) wr)) (fun iv _ _ => n - (intOf iv).toNat)
      case atStart => exact ⟨0, _, rfl, Nat.zero_le _, HS5⟩
      case round =>
        clear HS5
        obtain ⟨k, v, rfl, hk, HA⟩ := hrel
        obtain ⟨d0, d1⟩ := BOX.out wr HA.out.2.2
        obtain ⟨-, -, q2, q3⟩ := HA.out.1.cells
        have qf := HA.out.1.free 2
        by_cases hlt : k < n
        · obtain ⟨x, hx⟩ : ∃ x, l[k]? = some x := ⟨_, List.getElem?_eq_getElem (by rw [HN.out]; exact hlt)⟩
          obtain ⟨ad, rfl, c0, c1, c2⟩ := (HR.out wr HA.out.2.2).1.at hx
          have hadl : (ad.add (k * 3)).block < p := by
            obtain ⟨ad', he, e0, -, -⟩ := (HR.out W (Below.refl _ W)).1.at hx
            obtain rfl := Option.some.inj he
            have := cell_lt0 e0
            rw [HP.out.1] at this
            exact this
          have hit := itemB_true.1 (HGF.out.each x (List.mem_of_getElem? hx))
          have hfx : (seedT base l)[k]? = some (x.1, x.2.1, base - x.2.2, base - x.2.2 + 4 * tickV x.2.1) := by unfold seedT; rw [List.getElem?_map, hx]; rfl
          have HT := Lib.hid (take_snocT hfx)
          have hlen : ((seedT base l).take k).length = k := by
            rw [List.length_take]
            unfold seedT
            rw [List.length_map, HN.out]
            omega
          have HLEN := Lib.hid hlen
          obtain ⟨hd1, hd2⟩ := tickV_bd x.2.1
          have KD := Lib.hid (fun w => rday_c x.2.1 w)
          obtain ⟨x0, x1, x2⟩ := x
          simp only at c0 c1 c2 hit HT hd1 hd2 KD
          obtain ⟨dv, hdv⟩ : ∃ dv, 4 * tickV x1 = dv := ⟨_, rfl⟩
          simp only [hdv] at KD HT
          obtain ⟨nv, hnv⟩ : ∃ nv, base - x2 = nv := ⟨_, rfl⟩
          have hw1 : IntKind.i64.wrap (base - x2) = nv := by have := HBA.out; rw [IntKind.wrap_i64]; omega
          have hw2 : IntKind.i64.wrap (nv + dv) = nv + dv := by have := HBA.out; rw [IntKind.wrap_i64]; omega
          rw [hnv] at HT
          generalize (seedT base l).take k = xs at *
          have hkm : (k : Int) < (n : Int) := by omega
          have hk0 : (0 : Int) ≤ (k : Int) := by omega
          have hpl := HA.out.1.ltp
          have hpw := HP.out.2
          clear hx hfx hlen hit hdv hnv hd1 hd2 q2 qf
          have KEEP : Hid (∀ w2 : World, (∀ j, j < p + 1 → w2.heap[j]? = wr.heap[j]?) → (fun w' => w'.cell? ⟨p, 3, none⟩ = some v ∧ w'.cell? ⟨w.heap.size, 1, none⟩ = some (.slice (some ad) n c) ∧ w'.cell? (ad.add (k * 3)) = some (.int .i64 x0) ∧ w'.cell? ⟨(ad.add (k * 3)).block, (ad.add (k * 3)).off + 1, none⟩ = some (.int .i64 x1)) w2) := Lib.hid (fun w2 hs => ⟨(cellB (a := ⟨p, 3, none⟩) (hs p (by omega))).trans q3, (cellB (a := ⟨w.heap.size, 1, none⟩) (hs w.heap.size (by omega))).trans d1, (cellB (hs _ (by omega))).trans c0, (cellB (a := ⟨(ad.add (k * 3)).block, (ad.add (k * 3)).off + 1, none⟩) (hs _ (by show (ad.add (k * 3)).block < _; omega))).trans c1⟩)
          have S0 := Lib.hid (KEEP.out wr.drew (fun _ _ => rfl))
          clear hpw
          go_wp2_with fail
          refine wp_region_phase 30 (by kernel_rfl) (by kernel_rfl) (fun w' => w'.cell? ⟨p, 3, none⟩ = some v ∧ w'.cell? ⟨w.heap.size, 1, none⟩ = some (.slice (some ad) n c) ∧ w'.cell? (ad.add (k * 3)) = some (.int .i64 x0) ∧ w'.cell? ⟨(ad.add (k * 3)).block, (ad.add (k * 3)).off + 1, none⟩ = some (.int .i64 x1)) ?_
          refine wpAnyH_take (i := 0) (v := .pointer (some ⟨p, 0, none⟩)) rfl (by kernel_rfl) (by kernel_rfl) (by kernel_rfl) (fun _ _ _ h => h) (Or.inl ⟨by rfl, ?_⟩) S0.out ?_
          · rintro w' ⟨s1, s2, s3, s4⟩; go_simp
          simp only [Act.put, List.setIfInBounds_toArray, List.set_cons_zero, List.set_cons_succ]
          refine wpAnyH_take (i := 1) (v := .pointer (some ⟨p, 0, none⟩)) rfl (by kernel_rfl) (by kernel_rfl) (by kernel_rfl) (fun _ _ _ h => h) (Or.inl ⟨by rfl, ?_⟩) S0.out ?_
          · rintro w' ⟨s1, s2, s3, s4⟩; go_simp
          simp only [Act.put, List.setIfInBounds_toArray, List.set_cons_zero, List.set_cons_succ]
          refine wpAnyH_take (i := 2) (v := .pointer (some ⟨p, 0, none⟩)) rfl (by kernel_rfl) (by kernel_rfl) (by kernel_rfl) (fun _ _ _ h => h) (Or.inl ⟨by rfl, ?_⟩) S0.out ?_
          · rintro w' ⟨s1, s2, s3, s4⟩; go_simp
          simp only [Act.put, List.setIfInBounds_toArray, List.set_cons_zero, List.set_cons_succ]
          refine wpAnyH_take (i := 3) (v := .pointer (some ⟨p, 3, none⟩)) rfl (by kernel_rfl) (by kernel_rfl) (by kernel_rfl) (fun _ _ _ h => h) (Or.inl ⟨by rfl, ?_⟩) S0.out ?_
          · rintro w' ⟨s1, s2, s3, s4⟩; go_simp
          simp only [Act.put, List.setIfInBounds_toArray, List.set_cons_zero, List.set_cons_succ]
          refine wpAnyH_take (i := 4) (v := v) rfl (by kernel_rfl) (by kernel_rfl) (by kernel_rfl) (fun _ _ _ h => h) (Or.inl ⟨by rfl, ?_⟩) S0.out ?_
          · rintro w' ⟨s1, s2, s3, s4⟩; go_simp
          simp only [Act.put, List.setIfInBounds_toArray, List.set_cons_zero, List.set_cons_succ]
          refine wpAnyH_take (i := 5) (v := .pointer (some ⟨w.heap.size, 1, none⟩)) rfl (by kernel_rfl) (by kernel_rfl) (by kernel_rfl) (fun _ _ _ h => h) (Or.inl ⟨by rfl, ?_⟩) S0.out ?_
          · rintro w' ⟨s1, s2, s3, s4⟩; go_simp
          simp only [Act.put, List.setIfInBounds_toArray, List.set_cons_zero, List.set_cons_succ]
          refine wpAnyH_take (i := 6) (v := .slice (some ad) n c) rfl (by kernel_rfl) (by kernel_rfl) (by kernel_rfl) (fun _ _ _ h => h) (Or.inl ⟨by rfl, ?_⟩) S0.out ?_
          · rintro w' ⟨s1, s2, s3, s4⟩; go_simp
          simp only [Act.put, List.setIfInBounds_toArray, List.set_cons_zero, List.set_cons_succ]
          refine wpAnyH_take (i := 7) (v := .int .i64 k) rfl (by kernel_rfl) (by kernel_rfl) (by kernel_rfl) (fun _ _ _ h => h) (Or.inl ⟨by rfl, ?_⟩) S0.out ?_
          · rintro w' ⟨s1, s2, s3, s4⟩; go_simp
          simp only [Act.put, List.setIfInBounds_toArray, List.set_cons_zero, List.set_cons_succ]
          refine wpAnyH_take (i := 8) (v := .pointer (some (ad.add (k * 3)))) rfl (by kernel_rfl) (by kernel_rfl) (by kernel_rfl) (fun _ _ _ h => h) (Or.inl ⟨by rfl, ?_⟩) S0.out ?_
          · rintro w' ⟨s1, s2, s3, s4⟩; go_simp
          simp only [Act.put, List.setIfInBounds_toArray, List.set_cons_zero, List.set_cons_succ]
          refine wpAnyH_take (i := 9) (v := .pointer (some (ad.add (k * 3)))) rfl (by kernel_rfl) (by kernel_rfl) (by kernel_rfl) (fun _ _ _ h => h) (Or.inl ⟨by rfl, ?_⟩) S0.out ?_
          · rintro w' ⟨s1, s2, s3, s4⟩; go_simp
          simp only [Act.put, List.setIfInBounds_toArray, List.set_cons_zero, List.set_cons_succ]
          refine wpAnyH_take (i := 10) (v := .int .i64 x0) rfl (by kernel_rfl) (by kernel_rfl) (by kernel_rfl) (fun _ _ _ h => h) (Or.inl ⟨by rfl, ?_⟩) S0.out ?_
          · rintro w' ⟨s1, s2, s3, s4⟩; go_simp
          simp only [Act.put, List.setIfInBounds_toArray, List.set_cons_zero, List.set_cons_succ]
          refine wpAnyH_take (i := 11) (v := .pointer (some ⟨w.heap.size, 1, none⟩)) rfl (by kernel_rfl) (by kernel_rfl) (by kernel_rfl) (fun _ _ _ h => h) (Or.inl ⟨by rfl, ?_⟩) S0.out ?_
          · rintro w' ⟨s1, s2, s3, s4⟩; go_simp
          simp only [Act.put, List.setIfInBounds_toArray, List.set_cons_zero, List.set_cons_succ]
          refine wpAnyH_take (i := 12) (v := .slice (some ad) n c) rfl (by kernel_rfl) (by kernel_rfl) (by kernel_rfl) (fun _ _ _ h => h) (Or.inl ⟨by rfl, ?_⟩) S0.out ?_
          · rintro w' ⟨s1, s2, s3, s4⟩; go_simp
          simp only [Act.put, List.setIfInBounds_toArray, List.set_cons_zero, List.set_cons_succ]
          refine wpAnyH_take (i := 13) (v := .int .i64 k) rfl (by kernel_rfl) (by kernel_rfl) (by kernel_rfl) (fun _ _ _ h => h) (Or.inl ⟨by rfl, ?_⟩) S0.out ?_
          · rintro w' ⟨s1, s2, s3, s4⟩; go_simp
          simp only [Act.put, List.setIfInBounds_toArray, List.set_cons_zero, List.set_cons_succ]
          refine wpAnyH_take (i := 14) (v := .pointer (some (ad.add (k * 3)))) rfl (by kernel_rfl) (by kernel_rfl) (by kernel_rfl) (fun _ _ _ h => h) (Or.inl ⟨by rfl, ?_⟩) S0.out ?_
          · rintro w' ⟨s1, s2, s3, s4⟩; go_simp
          simp only [Act.put, List.setIfInBounds_toArray, List.set_cons_zero, List.set_cons_succ]
          refine wpAnyH_take (i := 15) (v := .pointer (some ⟨(ad.add (k * 3)).block, (ad.add (k * 3)).off + 1, none⟩)) rfl (by kernel_rfl) (by kernel_rfl) (by kernel_rfl) (fun _ _ _ h => h) (Or.inl ⟨by rfl, ?_⟩) S0.out ?_
          · rintro w' ⟨s1, s2, s3, s4⟩; go_simp
          simp only [Act.put, List.setIfInBounds_toArray, List.set_cons_zero, List.set_cons_succ]
          refine wpAnyH_take (i := 16) (v := .int .i64 x1) rfl (by kernel_rfl) (by kernel_rfl) (by kernel_rfl) (fun _ _ _ h => h) (Or.inl ⟨by rfl, ?_⟩) S0.out ?_
          · rintro w' ⟨s1, s2, s3, s4⟩; go_simp
          simp only [Act.put, List.setIfInBounds_toArray, List.set_cons_zero, List.set_cons_succ]
          refine wpAnyH_take (i := 17) (v := .int .i64 nv) rfl (by kernel_rfl) (by kernel_rfl) (by kernel_rfl) (fun _ _ _ h => h) (Or.inl ⟨by rfl, ?_⟩) S0.out ?_
          · rintro w' ⟨s1, s2, s3, s4⟩; go_simp
          simp only [Act.put, List.setIfInBounds_toArray, List.set_cons_zero, List.set_cons_succ]
          refine wpAnyH_take (i := 18) (v := .int .i64 nv) rfl (by kernel_rfl) (by kernel_rfl) (by kernel_rfl) (fun _ _ _ h => h) (Or.inl ⟨by rfl, ?_⟩) S0.out ?_
          · rintro w' ⟨s1, s2, s3, s4⟩; go_simp
          simp only [Act.put, List.setIfInBounds_toArray, List.set_cons_zero, List.set_cons_succ]
          refine wpAnyH_take (i := 19) (v := .pointer (some ⟨w.heap.size, 1, none⟩)) rfl (by kernel_rfl) (by kernel_rfl) (by kernel_rfl) (fun _ _ _ h => h) (Or.inl ⟨by rfl, ?_⟩) S0.out ?_
          · rintro w' ⟨s1, s2, s3, s4⟩; go_simp
          simp only [Act.put, List.setIfInBounds_toArray, List.set_cons_zero, List.set_cons_succ]
          refine wpAnyH_take (i := 20) (v := .slice (some ad) n c) rfl (by kernel_rfl) (by kernel_rfl) (by kernel_rfl) (fun _ _ _ h => h) (Or.inl ⟨by rfl, ?_⟩) S0.out ?_
          · rintro w' ⟨s1, s2, s3, s4⟩; go_simp
          simp only [Act.put, List.setIfInBounds_toArray, List.set_cons_zero, List.set_cons_succ]
          refine wpAnyH_take (i := 21) (v := .int .i64 k) rfl (by kernel_rfl) (by kernel_rfl) (by kernel_rfl) (fun _ _ _ h => h) (Or.inl ⟨by rfl, ?_⟩) S0.out ?_
          · rintro w' ⟨s1, s2, s3, s4⟩; go_simp
          simp only [Act.put, List.setIfInBounds_toArray, List.set_cons_zero, List.set_cons_succ]
          refine wpAnyH_take (i := 22) (v := .pointer (some (ad.add (k * 3)))) rfl (by kernel_rfl) (by kernel_rfl) (by kernel_rfl) (fun _ _ _ h => h) (Or.inl ⟨by rfl, ?_⟩) S0.out ?_
          · rintro w' ⟨s1, s2, s3, s4⟩; go_simp
          simp only [Act.put, List.setIfInBounds_toArray, List.set_cons_zero, List.set_cons_succ]
          refine wpAnyH_take (i := 23) (v := .pointer (some ⟨(ad.add (k * 3)).block, (ad.add (k * 3)).off + 1, none⟩)) rfl (by kernel_rfl) (by kernel_rfl) (by kernel_rfl) (fun _ _ _ h => h) (Or.inl ⟨by rfl, ?_⟩) S0.out ?_
          · rintro w' ⟨s1, s2, s3, s4⟩; go_simp
          simp only [Act.put, List.setIfInBounds_toArray, List.set_cons_zero, List.set_cons_succ]
          refine wpAnyH_take (i := 24) (v := .int .i64 x1) rfl (by kernel_rfl) (by kernel_rfl) (by kernel_rfl) (fun _ _ _ h => h) (Or.inl ⟨by rfl, ?_⟩) S0.out ?_
          · rintro w' ⟨s1, s2, s3, s4⟩; go_simp
          simp only [Act.put, List.setIfInBounds_toArray, List.set_cons_zero, List.set_cons_succ]
          refine wpAnyH_ready (rs := [25]) (by kernel_rfl) (by simp) ?_
          refine AllReadyH.cons rfl (fun K hK => ?_) AllReadyH.nil
          go_simp
          refine (KD.out _).mono ?_
          rintro e w4' ⟨rfl, rfl⟩
          refine hK.out _ _ S0.out (fun _ => ?_)
          clear hK
          refine wpAnyH_take (i := 26) (v := .int .i64 (nv + dv)) rfl (by kernel_rfl) (by kernel_rfl) (by kernel_rfl) (fun _ _ _ h => h) (Or.inl ⟨by rfl, ?_⟩) S0.out ?_
          · rintro w' ⟨s1, s2, s3, s4⟩; go_simp
          simp only [Act.put, List.setIfInBounds_toArray, List.set_cons_zero, List.set_cons_succ]
          refine wpAnyH_take (i := 27) (v := .agg #[.int .i64 x0, .int .i64 x1, .int .i64 nv, .int .i64 (nv + dv)]) rfl (by kernel_rfl) (by kernel_rfl) (by kernel_rfl) (fun _ _ _ h => h) (Or.inl ⟨by rfl, ?_⟩) S0.out ?_
          · rintro w' ⟨s1, s2, s3, s4⟩; go_simp
          simp only [Act.put, List.setIfInBounds_toArray, List.set_cons_zero, List.set_cons_succ]
          refine wpAnyH_ready (rs := [28]) (by kernel_rfl) (by simp) ?_
          refine AllReadyH.cons rfl (fun K hK => ?_) AllReadyH.nil
          go_simp
          have hsa : (wr.alloc (.cells #[.int .i64 x0, .int .i64 x1, .int .i64 nv, .int .i64 (nv + dv)] 73)).drew.heap.size = wr.heap.size + 1 := by show (wr.alloc _).heap.size = _; simp
          refine hK.out _ _ (KEEP.out _ (fun j hj => Below.heap_alloc wr _ j (by omega))) (fun _ => ?_)
          clear hK
          refine wpAnyH_ready (rs := [29]) (by kernel_rfl) (by simp) ?_
          refine AllReadyH.cons rfl (fun K hK => ?_) AllReadyH.nil
          obtain ⟨v', w5', hrun, r1, r2, r3⟩ := run_append_where (P := Tryz.prog) (wr.alloc (.cells #[.int .i64 x0, .int .i64 x1, .int .i64 nv, .int .i64 (nv + dv)] 73)).drew 0 68 68 73 i0 (.agg #[.int .i64 0, .int .i64 0, .int .i64 0, .int .i64 0]) 4 32 Tryz.underlying68 hi hz0 hz1 hz2 rfl (by decide) v _ _ ((HA.out.1.2.1).alloc _) ⟨wr.heap.size, 0, none⟩ 1 1 (encT (x0, x1, nv, nv + dv)) rfl (encT_at (World.alloc_heap_new wr _)) (encT_one _) (by have := HLEN.out; unfold maxLen; omega) (by have := HLEN.out; omega) (by omega)
          obtain ⟨A2, m2, rfl⟩ := row_form r1
          obtain ⟨hn1, hn2, hn3⟩ := HA.out.next (by rw [HP.out.1]; exact Nat.le_refl _) r1 r2 r3
          have hvB := HA.out.2.1
          refine step_appN rfl _ _ _ _ rfl hrun rfl rfl ?_
          refine hK.out _ _ (KEEP.out _ (fun j hj => (r2.block j (by omega) (fun e => by have := hvB j e.symm; omega)).trans (Below.heap_alloc wr _ j (by omega)))) (fun _ => ?_)
          rw [← HT.out] at hn1
          have HNX := Lib.hid hn1
          clear hK hrun r1 r2 r3 hn1 hvB
          refine wpAnyH_done (by kernel_rfl) ?_ _
          refine phase_tail (by kernel_rfl) ?_
          simp only [List.drop_succ_cons, List.drop_zero]
          go_wp2_with fail
          go_roundw
          case rel => exact ⟨k + 1, _, by go_num, by omega, HNX⟩
          case measure => simp [intOf]; omega
        · obtain rfl : k = n := by omega
          have hall : (seedT base l).take k = seedT base l := List.take_of_length_le (by unfold seedT; rw [List.length_map, HN.out]; omega)
          have ha := HA.out
          rw [hall] at ha
          have POST := Lib.hid (And.intro (ha.1.setC f0) (And.intro ha.2.1 ha.2.2))
          have HBX := Lib.hid (HR.out wr ha.2.2).2
          have HPW := Lib.hid HP.out.2
          clear ha hall HA
          go_wp2_with fail
          go_ret2
          obtain ⟨⟨z1, z2⟩, z3, z4⟩ := POST.out
          refine ⟨p, v, rfl, z1, ?_, HBX.out.setCell (by show w.heap.size ≤ p; have := HPW.out; omega) _⟩
          rintro j (rfl | hj)
          · have := HPW.out; omega
          · have := z3 j hj; have := HPW.out; omega
  · have kn := rnew_no 1 base W (.inr (.inl rfl)) (by omega)
    have KN := Lib.hid kn
    refine Calls.mono (?_ : Calls _ _ _ _ (fun e w' => e = .returned (.tuple #[.pointer none, .int .i64 1]) ∧ Below w.heap.size w w')) (fun e w' h => by unfold RSPost; rw [if_neg (fun h => hbase h.2)]; exact h)
    clear kn hr hn hb hB hs hW hbase
    go_enter Tryz.func7, Tryz.ntmps7
    go_wp2_with fail
    rw [HW.out]
    refine KN.out.mono ?_
    rintro e w4 ⟨rfl, rfl⟩
    go_wp2_with fail
    go_ret2
    exact ⟨rfl, HB.out⟩
end Go.Proofs.YtnfcapeajhegmaaGreat

namespace Go.Proofs.YtnfcapeajhegmaaGreat
open Go.RowKit Go.Maps

/-- Both, made of one form. -/
theorem pl_seed {W w3 w5 : World} {s p : Nat} {Ab : Nat → Prop} {vt : Value} {t : Int} {b f0 : Int} {l : List RI} {B : Nat} (hg : goodV f0 l = true) (h1 : -1152921504606846976 ≤ b) (h2 : b ≤ 1152921504606846976)
    (hq : IsK w3 s Ab t b f0 (seedR b l)) (ht0 : 0 ≤ t) (ht1 : t ≤ 1000) (hs : ∀ k, Ab k → W.heap.size ≤ k) (hb3 : Below W.heap.size W w3) (hB : w3.heap.size ≤ B) (hb5 : Below w3.heap.size w3 w5) (hr : IsT w5 p 1 b f0 vt (seedT b l)) (hrn : ∀ k, TOf p vt k → B ≤ k) :
    PlF W w5 s p 0 b f0 (seedR b l) (fun _ => False) := by
  have hs3 := hb3.size
  exact ⟨⟨Ab, t, vt, seedT b l, hq.below hb5, ⟨hr, cut_seed b l⟩, ⟨ht0, by omega⟩, hs, fun k hk => by have := hrn k hk; omega, fun k hk hk' => by have := hq.lt k hk; have := hrn k hk'; omega, hb3.trans (hb5.mono hs3), fun k hk => hk.elim⟩, seed_up hg h1 h2, (seed_lag hg).2, by omega⟩

set_option maxRecDepth 100000 in
set_option maxHeartbeats 16000000 in
theorem sseeds_c (f0 b : Int) (A A1 : Option Addr) (c c1 : Nat) (l : List RI) (acts : List (List Int)) (w : World) (hr : TRow w A l) (hr1 : Rows w 4 A1 acts) :
    Calls Tryz.prog 4 #[.agg #[.int .i64 f0, .slice A l.length c], .int .i64 b, .slice A1 acts.length c1] w fun e w' => e = .returned (.bool true) ∧ Below w.heap.size w w' := by
  have hb1 := (Below.refl _ w).alloc (Nat.le_refl _) (.cells #[.int .i64 f0, .slice A l.length c] 24)
  have hf1 : FoAt (w.alloc (.cells #[.int .i64 f0, .slice A l.length c] 24)) w.heap.size f0 A l.length c := heap_alloc_new w _
  obtain ⟨w1, hw1⟩ : ∃ w1, w.alloc (.cells #[.int .i64 f0, .slice A l.length c] 24) = w1 := ⟨_, rfl⟩
  have hs1 : w1.heap.size = w.heap.size + 1 := by rw [← hw1]; simp
  rw [hw1] at hb1 hf1
  have KA := Lib.hid (awake12_c w1)
  obtain ⟨n, hn⟩ : ∃ n, l.length = n := ⟨_, rfl⟩
  obtain ⟨t, ht⟩ : ∃ t, acts.length = t := ⟨_, rfl⟩
  rw [hn] at hf1 hw1 ⊢
  rw [ht]
  have KS : Hid (∀ W, n ≤ 70 → Below w.heap.size w W → Calls Tryz.prog 14 #[.agg #[.int .i64 f0, .slice A n c], .int .i64 b] W (SeedPost b f0 l W)) := Lib.hid (fun W h70 hb => by rw [← hn]; exact sseed_c f0 b A _ c l W rfl (by omega) (hr.below hb (Nat.le_refl _)))
  have KO : Hid (∀ W, n ≤ 70 → Below w.heap.size w W → Calls Tryz.prog 15 #[.agg #[.int .i64 f0, .slice A n c]] W (FPost f0 l W)) := Lib.hid (fun W h70 hb => own_c f0 A n c l W hn (by omega) (hr.below hb (Nat.le_refl _)))
  have HB1 := Lib.hid hb1
  have HF1 := Lib.hid hf1
  have HR := Lib.hid hr
  have HR1 := Lib.hid hr1
  have HN := Lib.hid (And.intro hn ht)
  clear hr hr1 hn ht hb1 hf1
  go_enter Tryz.func4, Tryz.ntmps4
  go_wp2_with fail
  refine KA.out.mono ?_
  rintro e w2 ⟨rfl, hb⟩
  have HB2 := Lib.hid (HB1.out.trans (hb.mono (by omega)))
  have hf2 : FoAt w2 w.heap.size f0 A n c := BoxAt.next HF1.out hb (Nat.le_refl _)
  have HF2 := Lib.hid hf2
  obtain ⟨d0, d1, -, -⟩ := FoAt.cells hf2
  clear hb KA hf2
  by_cases h70 : (70 : Int) < (n : Int)
  · go_wp2_with fail
    go_ret
    exact ⟨rfl, HB2.out⟩
  by_cases h100 : (100 : Int) < (t : Int)
  · go_wp2_with fail
    go_ret
    exact ⟨rfl, HB2.out⟩
  go_wp2_with fail
  refine (KS.out _ (by omega) HB2.out).mono ?_
  rintro e w3 hP1
  have hb23 : Below w2.heap.size w2 w3 := by
    unfold SeedPost at hP1
    split at hP1
    · obtain ⟨s, Ab, st, _, _, _, _, _, hb⟩ := hP1
      exact hb
    · exact hP1.2
  have HB3 := Lib.hid (HB2.out.trans (hb23.mono HB2.out.size))
  have hf3 : FoAt w3 w.heap.size f0 A n c := BoxAt.next HF2.out hb23 (Nat.le_refl _)
  have HF3 := Lib.hid hf3
  obtain ⟨d0, d1, -, -⟩ := FoAt.cells hf3
  clear hb23 hf3 KS
  by_cases hcond : goodV f0 l = true ∧ -1152921504606846976 ≤ b ∧ b ≤ 1152921504606846976
  · unfold SeedPost at hP1
    rw [if_pos hcond] at hP1
    obtain ⟨s, Ab, st, rfl, hq1, h10, h11, hnw1, hbs1⟩ := hP1
    have HQ1 := Lib.hid (And.intro hq1 (And.intro h10 (And.intro h11 (And.intro hnw1 hbs1))))
    have HC := Lib.hid hcond
    clear hq1 h10 h11 hnw1 hbs1 hcond
    go_wp2_with fail
    refine (KO.out _ (by omega) HB3.out).mono ?_
    rintro e w4 ⟨A4, c4, rfl, hT4, hb34⟩
    have HB34 := Lib.hid hb34
    have KR := rseed_c f0 b A4 n c4 l w4 HN.out.1 (by omega) hT4
    rw [HN.out.1]
    have KR := Lib.hid KR
    clear hT4 hb34 KO
    go_wp2_with fail
    refine KR.out.mono ?_
    rintro e w5 hP2
    unfold RSPost at hP2
    rw [if_pos HC.out] at hP2
    obtain ⟨p, vt, rfl, hq2, hnw2, hb45⟩ := hP2
    have hb35 : Below w3.heap.size w3 w5 := HB34.out.trans (hb45.mono HB34.out.size)
    have HS0 : Hid (PlF w w5 s p 0 b f0 (seedR b l) (fun _ => False)) := by
      obtain ⟨hq1, h10, h11, hnw1, hbs1⟩ := HQ1.out
      have hsz2 := HB2.out.size
      have hsz3 := HB3.out.size
      exact Lib.hid (pl_seed HC.out.1 HC.out.2.1 HC.out.2.2 hq1 h10 h11 (fun k hk => by have := hnw1 k hk; omega) HB3.out HB34.out.size hb35 hq2 hnw2)
    have hf5 : FoAt w5 w.heap.size f0 A n c := BoxAt.next HF3.out hb35 (Nat.le_refl _)
    obtain ⟨d0, d1, -, -⟩ := FoAt.cells hf5
    have HZ0 := Lib.hid (And.intro d0 d1)
    have HF5 := Lib.hid hf5
    have HSD : Hid (PlF w w5.drew s p 0 b f0 (seedR b l) (fun _ => False)) := Lib.hid (HS0.out.more (Below.refl _ w5).drew (fun j hj => hj.elim))
    have KF := Lib.hid ((p2_form HSD.out.1).mono (fun e w' (h : ∃ A c, e = .returned (.agg #[.int .i64 f0, .slice A (seedR b l).length c]) ∧ TRow w' A (formL b (seedR b l)) ∧ Below w5.drew.heap.size w5.drew w') => by
      obtain ⟨A8, c8, he, hT8, hb8⟩ := h
      have hq8 : PlF w w' s p 0 b f0 (seedR b l) (fun _ => False) := HSD.out.more hb8 (fun j hj => hj.elim)
      have hf8 : FoAt w' w.heap.size f0 A n c := BoxAt.next HF5.out ((Below.refl _ w5).drew.trans hb8) (Nat.le_refl _)
      rw [formL_seed] at hT8
      rw [seedR_length, HN.out.1] at he
      have hw8 : Below w.heap.size w w' := hq8.1.frame
      have K := same_c f0 f0 A8 A n c8 n c l l w' HN.out.1 HN.out.1 (by omega) hT8 (HR.out.below hw8 (Nat.le_refl _))
      have es : sameB f0 f0 l l = true := by unfold sameB; simp
      rw [es] at K
      have K' := K.mono (fun e2 w2' (h2 : Ret10 (.bool true) w' e2 w2') => by
        obtain ⟨he2, hb9⟩ := h2
        have hq9 : PlF w w2' s p 0 b f0 (seedR b l) (fun _ => False) := hq8.more hb9 (fun j hj => hj.elim)
        have hf9 : FoAt w2' w.heap.size f0 A n c := BoxAt.next hf8 hb9 (Nat.le_refl _)
        exact (⟨he2, ⟨(FoAt.cells hf9).1, (FoAt.cells hf9).2.1⟩, Lib.hid (p2_base hq9.1), Lib.hid hq9⟩ : e2 = .returned (.bool true) ∧ (w2'.cell? ⟨w.heap.size, 0, none⟩ = some (.int .i64 f0) ∧ w2'.cell? ⟨w.heap.size, 1, none⟩ = some (.slice A n c)) ∧ Hid (Calls Tryz.prog 17 #[.pointer (some ⟨s, 0, none⟩)] w2' fun e3 w3' => e3 = .returned (.int .i64 b) ∧ w2' = w3') ∧ Hid (PlF w w2' s p 0 b f0 (seedR b l) (fun _ => False))))
      exact (⟨A8, c8, he, ⟨(FoAt.cells hf8).1, (FoAt.cells hf8).2.1⟩, Lib.hid K'⟩ : ∃ A8 c8, e = .returned (.agg #[.int .i64 f0, .slice A8 n c8]) ∧ (w'.cell? ⟨w.heap.size, 0, none⟩ = some (.int .i64 f0) ∧ w'.cell? ⟨w.heap.size, 1, none⟩ = some (.slice A n c)) ∧ Hid (Calls Tryz.prog 9 #[.agg #[.int .i64 f0, .slice A8 n c8], .agg #[.int .i64 f0, .slice A n c]] w' fun e2 w2' => e2 = .returned (.bool true) ∧ (w2'.cell? ⟨w.heap.size, 0, none⟩ = some (.int .i64 f0) ∧ w2'.cell? ⟨w.heap.size, 1, none⟩ = some (.slice A n c)) ∧ Hid (Calls Tryz.prog 17 #[.pointer (some ⟨s, 0, none⟩)] w2' fun e3 w3' => e3 = .returned (.int .i64 b) ∧ w2' = w3') ∧ Hid (PlF w w2' s p 0 b f0 (seedR b l) (fun _ => False))))))
    clear hq2 hnw2 hb45 hb35 hf5 HQ1 HB34 KR HSD HS0
    generalize seedR b l = R0 at *
    go_wp2_with fail
    go_region_held3 (fun w' => w'.cell? ⟨w.heap.size, 0, none⟩ = some (.int .i64 f0) ∧ w'.cell? ⟨w.heap.size, 1, none⟩ = some (.slice A n c)) (first | exact HZ0.out | exact HZ1.out | exact HZ2.out | go_keep)
      (first
        | (go_at_call 16; refine KF.out.mono ?_; rintro e w6 ⟨A8, c8, rfl, hS, KE⟩; have HZ1 := Lib.hid hS; clear hS)
        | (go_at_call 9; refine KE.out.mono ?_; rintro e w7 ⟨rfl, hS, KB, HS⟩; have HZ2 := Lib.hid hS; clear hS)
        | (go_at_call 17; refine KB.out.mono ?_; rintro e w8 ⟨rfl, rfl⟩))
    clear HZ0 HZ1 HZ2 KF KE KB HF1 HF2 HF3 HF5 HR HC d0 d1
    go_wp2_with fail
    go_loopw [11] (fun i wr => ∃ (k : Nat) (b' cur : Int) (R : List RI), i = .int .i64 k ∧ k ≤ t ∧ Hid (PlF w wr s p k b' cur R (fun _ => False))) (fun i _ => t - (intOf i).toNat)
    case atStart => exact ⟨0, _, _, _, rfl, by omega, HS⟩
    case round =>
      obtain ⟨k, b', cur, R, rfl, hk, HQ⟩ := hrel
      clear HS
      by_cases hlt : k < t
      · have hlt' : (k : Int) < (t : Int) := by omega
        obtain ⟨ad, o, i, m, g, rfl, ⟨a0, a1, a2, a3⟩, hwi, hwm⟩ := act_at HR1.out (by rw [HN.out.2]; exact hlt) HQ.out.1.frame
        have KT := Lib.hid (sstep_c o i m g hwi hwm HQ.out (by omega))
        clear hwi hwm HQ
        go_wp2_with fail
        refine KT.out.mono ?_
        rintro e w9 ⟨rfl, b'', c', R', hq⟩
        have HE := Lib.hid hq
        clear hq KT a0 a1 a2 a3
        go_wp2_with fail
        go_roundw
        case rel => exact ⟨k + 1, _, _, _, by go_num, by omega, HE⟩
        case measure => simp [intOf]; omega
      · have HB : Hid (Below w.heap.size w wr) := Lib.hid HQ.out.1.frame
        have hlt' : decide ((k : Int) < (t : Int)) = false := by simp; omega
        clear HQ
        go_wp2_with fail
        go_ret
        exact ⟨rfl, HB.out⟩
  · unfold SeedPost at hP1
    rw [if_neg hcond] at hP1
    obtain ⟨rfl, -⟩ := hP1
    have HC := Lib.hid hcond
    clear hcond
    go_wp2_with fail
    refine (KO.out _ (by omega) HB3.out).mono ?_
    rintro e w4 ⟨A4, c4, rfl, hT4, hb34⟩
    have HB4 := Lib.hid (HB3.out.trans (hb34.mono HB3.out.size))
    have KR := rseed_c f0 b A4 n c4 l w4 HN.out.1 (by omega) hT4
    rw [HN.out.1]
    have KR := Lib.hid KR
    clear hT4 hb34 KO
    go_wp2_with fail
    refine KR.out.mono ?_
    rintro e w5 hP2
    unfold RSPost at hP2
    rw [if_neg HC.out] at hP2
    obtain ⟨rfl, hb45⟩ := hP2
    have HB5 := Lib.hid (HB4.out.trans (hb45.mono HB4.out.size))
    clear hb45 KR
    go_wp2_with fail
    go_ret
    exact ⟨rfl, HB5.out⟩
end Go.Proofs.YtnfcapeajhegmaaGreat
