/- OrdqSets: its walk. -/
import Derived.Test.YtdafopijaplbfaaOr
import Derived.BigQuiet
namespace Go.Proofs.Ytdafopijaplbfaa
open Go.RowKit

theorem qsTo_at {l : List Int} {n j : Nat} (hj : j < n) : ∃ i : Nat, (qsTo l n)[i]? = some (l.getD j 0, (j : Int)) := by
  obtain ⟨i, hi, he⟩ := List.getElem_of_mem (qsTo_mem.2 ⟨j, hj, rfl⟩ : ((l.getD j 0, (j : Int)) : QI) ∈ qsTo l n)
  exact ⟨i, by rw [List.getElem?_eq_getElem hi, he]⟩

theorem Q2In.dist1 {W w : World} {b1 b2 : Nat} {most : Int} {S : Nat} {L1 L2 : List QI} (h : Q2In W w b1 b2 most S L1 L2) : Dist L1 := by
  obtain ⟨v1, m1, s1, v2, m2, s2, h1, _⟩ := h
  exact h1.dist

set_option maxRecDepth 100000 in
set_option maxHeartbeats 8000000 in
theorem ordqSets_c (A : Option Addr) (c : Nat) (l : List Int) (id key : Int) (W : World) (hl : l.length ≤ c) (hm : c ≤ maxLen) (hr : IRow .i64 W W.heap.size A l) (hw : ∀ z ∈ l, (Lit.int .i64 z).wf = true) (hkey : (Lit.int .i64 key).wf = true) :
    Calls Try.prog 6 #[.slice A l.length c, .int .i64 id, .int .i64 key] W fun e w' => e = .returned (.bool true) ∧ Below W.heap.size W w' := by
  obtain ⟨n, hn⟩ : ∃ n, l.length = n := ⟨_, rfl⟩
  have HN := Lib.hid hn
  have HR := Lib.hid hr
  have HW := Lib.hid hw
  have HKY : Hid (wf64 key) := Lib.hid hkey
  unfold maxLen at hm
  rw [hn] at hl ⊢
  clear hn hr hw hkey
  by_cases hout : 60 < n ∨ id < 0 ∨ (n : Int) ≤ id
  · rcases hout with h | h | h
    · go_enter Try.func6, Try.ntmps6
      go_wp2_with fail
      refine (awake4_c W).mono ?_
      rintro e w1 ⟨rfl, hb1⟩
      have HB1 := Lib.hid hb1
      clear hb1
      go_wp2_with fail
      all_goals
        go_ret
        exact ⟨rfl, HB1.out⟩
    · by_cases h60 : 60 < n
      · go_enter Try.func6, Try.ntmps6
        go_wp2_with fail
        refine (awake4_c W).mono ?_
        rintro e w1 ⟨rfl, hb1⟩
        have HB1 := Lib.hid hb1
        clear hb1
        go_wp2_with fail
        all_goals
          go_ret
          exact ⟨rfl, HB1.out⟩
      · have h60' : n ≤ 60 := by omega
        go_enter Try.func6, Try.ntmps6
        go_wp2_with fail
        refine (awake4_c W).mono ?_
        rintro e w1 ⟨rfl, hb1⟩
        have HB1 := Lib.hid hb1
        clear hb1
        go_wp2_with fail
        all_goals
          go_ret
          exact ⟨rfl, HB1.out⟩
    · by_cases h60 : 60 < n
      · go_enter Try.func6, Try.ntmps6
        go_wp2_with fail
        refine (awake4_c W).mono ?_
        rintro e w1 ⟨rfl, hb1⟩
        have HB1 := Lib.hid hb1
        clear hb1
        go_wp2_with fail
        all_goals
          go_ret
          exact ⟨rfl, HB1.out⟩
      · have h60' : n ≤ 60 := by omega
        have hid0 : 0 ≤ id := by omega
        go_enter Try.func6, Try.ntmps6
        go_wp2_with fail
        refine (awake4_c W).mono ?_
        rintro e w1 ⟨rfl, hb1⟩
        have HB1 := Lib.hid hb1
        clear hb1
        go_wp2_with fail
        all_goals
          go_ret
          exact ⟨rfl, HB1.out⟩
  have hn2 : n ≤ 60 := by omega
  obtain ⟨j, hj⟩ : ∃ j : Nat, id = (j : Int) := ⟨id.toNat, by omega⟩
  subst hj
  have hjn : j < n := by omega
  clear hout
  go_enter Try.func6, Try.ntmps6
  go_wp2_with fail
  refine (awake4_c W).mono ?_
  rintro e w1 ⟨rfl, hb1⟩
  have HB1 := Lib.hid hb1
  clear hb1
  go_wp2_with fail
  refine (qnew_in W w1 HB1.out 100 (fun _ => False) (fun _ h => h.elim)).mono ?_
  rintro e w2 ⟨rfl, hq, _⟩
  have H2 := Lib.hid hq
  clear hq HB1
  obtain ⟨b1, hb1⟩ : ∃ b, w1.heap.size + 1 = b := ⟨_, rfl⟩
  rw [hb1] at H2 ⊢
  clear hb1
  go_wp2_with fail
  refine (q2new (w' := w2) H2.out).mono ?_
  rintro e w3 ⟨rfl, hq⟩
  have e4 : clampQ 100 = 100 := by decide
  rw [e4] at hq
  have H3 := Lib.hid hq
  clear hq e4 H2
  obtain ⟨b2, hb2⟩ : ∃ b, w2.heap.size + 1 = b := ⟨_, rfl⟩
  rw [hb2] at H3 ⊢
  clear hb2
  go_wp2_with fail
  go_loopw [9] (fun i wr => ∃ k : Nat, i = .int .i64 k ∧ k ≤ n ∧ Hid (Q2In W wr b1 b2 100 (k * 42) (qsTo l k) (qsTo l k))) (fun i _ => n - (intOf i).toNat)
  case atStart => exact ⟨0, rfl, Nat.zero_le _, by simpa [qsTo] using H3⟩
  case round =>
    obtain ⟨k, rfl, hk, HK⟩ := hrel
    by_cases hlt : k < n
    · have hkl : k < l.length := by rw [HN.out]; exact hlt
      obtain ⟨ad, rfl, hadb, hcell⟩ := HR.out.at hkl
      have hc := (HK.out.frame.cell (p := ad.add k) (by rw [add_block]; exact hadb)).trans hcell
      have hwk : wf64 l[k] := HW.out _ (List.getElem_mem hkl)
      have hp := putV_qs (l := l) (k := k) (most := 100) (by omega)
      rw [getD_at hkl] at hp
      obtain ⟨x, hx⟩ : ∃ x, x = l[k] := ⟨_, rfl⟩
      rw [← hx] at hc hwk hp hcell
      have KP := Lib.hid (q2put (x, (k : Int)) HK.out hwk (wf64_nat (by omega)) (by rw [qsTo_length]; omega) (by omega))
      rw [hp] at KP
      have HP := Lib.hid hp
      have HWK := Lib.hid hwk
      clear hp hx hwk
      go_wp2_with fail
      refine (KP.out).mono ?_
      rintro e w4 ⟨rfl, hq⟩
      have hc4 := (hq.frame.cell (p := ad.add k) (by rw [add_block]; exact hadb)).trans hcell
      have KQ := Lib.hid (q2put (x, (k : Int)) hq.swap HWK.out (wf64_nat (by omega)) (by rw [qsTo_length]; omega) (by omega))
      rw [HP.out] at KQ
      clear hq KP HK hc hcell hadb
      go_wp2_with fail
      refine (KQ.out).mono ?_
      rintro e w5 ⟨rfl, hq⟩
      have H5 := Lib.hid hq.swap
      clear hq KQ
      go_wp2_with fail
      go_roundw
      case rel => exact ⟨k + 1, by go_num, by omega, by have := H5; rwa [show k * 42 + 21 + 21 = (k + 1) * 42 by omega] at this⟩
      case measure => simp [intOf]; omega
    · obtain rfl : k = n := by omega
      obtain ⟨i, hi⟩ := qsTo_at (l := l) hjn
      obtain ⟨L, hL⟩ : ∃ L, qsTo l k = L := ⟨_, rfl⟩
      have hLl : L.length = k := by rw [← hL]; exact qsTo_length l k
      rw [hL] at HK hi
      obtain ⟨xv, hxv⟩ : ∃ xv, l.getD j 0 = xv := ⟨_, rfl⟩
      rw [hxv] at hi
      have HI := Lib.hid hi
      have HDI := Lib.hid HK.out.dist1
      have KS := Lib.hid (q2set (x := (xv, (j : Int))) (i := i) key HK.out hi HKY.out (by omega) (by omega))
      have HLL := Lib.hid hLl
      clear hL H3 hLl HN HR HW hxv hi
      go_wp2_with fail
      refine (KS.out).mono ?_
      rintro e w4 ⟨rfl, hq4⟩
      have KD := Lib.hid (q2drop (x := (xv, (j : Int))) (i := i) hq4.swap HI.out (by rw [HLL.out]; omega) (by omega))
      clear hq4 KS HK
      go_wp2_with fail
      refine (KD.out).mono ?_
      rintro e w5 ⟨rfl, hq5⟩
      have hq6 := hq5.below ((Below.refl _ w5).alloc (Nat.le_refl _) (.cells #[.int .i64 xv, .int .i64 j] 26))
      have hel : (L.eraseIdx i).length = k - 1 := by rw [List.length_eraseIdx, if_pos (List.getElem?_eq_some_iff.1 HI.out).1, HLL.out]
      have hno := erase_no HDI.out HI.out
      have hpv : putV 100 (L.eraseIdx i) (key, (j : Int)) = (0, insL (L.eraseIdx i) (key, (j : Int))) := by
        unfold putV
        rw [keyV_no (id := ((key, (j : Int)) : QI).2) hno, if_neg (by simp), if_neg (by rw [hel]; omega)]
      have KP := Lib.hid (q2put (key, (j : Int)) hq6 HKY.out (wf64_nat (by omega)) (by omega) (by omega))
      rw [hpv] at KP
      clear hq5 hq6 KD hno hpv
      go_wp2_with fail
      refine (KP.out).mono ?_
      rintro e w7 ⟨rfl, hq7⟩
      obtain ⟨L', hL'⟩ : ∃ L', insL (L.eraseIdx i) (key, (j : Int)) = L' := ⟨_, rfl⟩
      have hLl' : L'.length ≤ 1000 := by rw [← hL', length_insL, hel]; omega
      simp only [hL'] at hq7
      have H7 := Lib.hid hq7.swap
      clear hq7 KP hL' hel
      go_wp2_with fail
      refine (q2list H7.out (by omega)).mono ?_
      rintro e w8 ⟨va, rfl, hMa, hq8, _⟩
      have hra : QRow w8 26 va L' := base_zero hMa
      obtain ⟨Aa, ca, rfl, _⟩ := hra.form
      obtain ⟨n', hn'⟩ : ∃ n', L'.length = n' := ⟨_, rfl⟩
      rw [hn'] at hra hLl' ⊢
      have HRA := Lib.hid hra
      have KB := Lib.hid (q2list hq8.swap (by omega))
      have HN' := Lib.hid hn'
      clear hMa hq8 hra H7 hn'
      go_wp2_with fail
      refine (KB.out).mono ?_
      rintro e w9 ⟨vb, rfl, hMb, hq9, hb9⟩
      have hrb : QRow w9 26 vb L' := base_zero hMb
      have hra : QRow w9 26 (.slice Aa n' ca) L' := HRA.out.keep (fun g hg => hb9.block g (HRA.out.lt hg))
      obtain ⟨Ab, cb, rfl, _⟩ := hrb.form
      rw [HN'.out] at hrb ⊢
      have HRB := Lib.hid hrb
      have HRA9 := Lib.hid hra
      have H9 := Lib.hid hq9.frame
      clear hMb hq9 hb9 hra hrb HRA KB
      go_wp2_with fail
      go_loopw [16] (fun i wr => ∃ q nq : Nat, i = .int .i64 q ∧ q ≤ n' ∧ wr = w9.drewN nq) (fun i _ => n' - (intOf i).toNat)
      case atStart => exact ⟨0, 0, rfl, Nat.zero_le _, rfl⟩
      case round =>
        obtain ⟨q, nq, rfl, hq, rfl⟩ := hrel
        by_cases hlt2 : q < n'
        · have hql : q < L'.length := by rw [HN'.out]; exact hlt2
          obtain ⟨x, hx⟩ : ∃ x, L'[q]? = some x := ⟨_, List.getElem?_eq_getElem hql⟩
          obtain ⟨g1, c1, hv1, _, _, a0, a1⟩ := HRA9.out.get hx
          obtain ⟨g2, c2, hv2, _, _, b0, b1⟩ := HRB.out.get hx
          injection hv1 with hv11 hv12 hv13
          injection hv2 with hv21 hv22 hv23
          subst hv11 hv13 hv21 hv23
          obtain ⟨x0, x1⟩ := x
          simp only at a0 a1 b0 b1
          have a0' : (w9.drewN nq).cell? ⟨g1, q * 2, none⟩ = some (.int .i64 x0) := a0
          have a1' : (w9.drewN nq).cell? ⟨g1, q * 2 + 1, none⟩ = some (.int .i64 x1) := a1
          have b0' : (w9.drewN nq).cell? ⟨g2, q * 2, none⟩ = some (.int .i64 x0) := b0
          have b1' : (w9.drewN nq).cell? ⟨g2, q * 2 + 1, none⟩ = some (.int .i64 x1) := b1
          have hqm : (q : Int) < (n' : Int) := by omega
          clear hx hv12 hv22 hql HRA9 HRB
          go_wp2_with fail
          go_quiet (fail)
          go_wp2_with fail
          go_roundw
          case rel => exact ⟨q + 1, _, by go_num, by omega, rfl⟩
          case measure => simp [intOf]; omega
        · obtain rfl : q = n' := by omega
          go_wp2_with fail
          go_ret
          exact ⟨rfl, below_drewN H9.out nq⟩
end Go.Proofs.Ytdafopijaplbfaa
