/- OrdqOver: its walk. -/
import Derived.Test.YtdafopijaplbfaaOr
import Derived.BigQuiet
namespace Go.Proofs.Ytdafopijaplbfaa
open Go.RowKit

set_option maxRecDepth 100000 in
set_option maxHeartbeats 8000000 in
theorem ordqOver_c (A : Option Addr) (c : Nat) (l : List Int) (key : Int) (W : World) (hl : l.length ≤ c) (hm : c ≤ maxLen) (hr : IRow .i64 W W.heap.size A l) (hw : ∀ z ∈ l, (Lit.int .i64 z).wf = true) :
    Calls Try.prog 7 #[.slice A l.length c, .int .i64 key] W fun e w' => e = .returned (.bool true) ∧ Below W.heap.size W w' := by
  obtain ⟨n, hn⟩ : ∃ n, l.length = n := ⟨_, rfl⟩
  have HN := Lib.hid hn
  have HR := Lib.hid hr
  have HW := Lib.hid hw
  unfold maxLen at hm
  rw [hn] at hl ⊢
  clear hn hr hw
  go_enter Try.func7, Try.ntmps7
  go_wp2_with fail
  refine (awake4_c W).mono ?_
  rintro e w1 ⟨rfl, hb1⟩
  have HB1 := Lib.hid hb1
  clear hb1
  by_cases hbig : 80 < n
  · go_wp2_with fail
    go_ret
    exact ⟨rfl, HB1.out⟩
  have hn2 : n ≤ 80 := by omega
  clear hbig
  go_wp2_with fail
  refine (qnew_in W w1 HB1.out 100 (fun _ => False) (fun _ h => h.elim)).mono ?_
  rintro e w2 ⟨rfl, hq, _⟩
  have e4 : clampQ 100 = 100 := by decide
  rw [e4] at hq
  have H2 := Lib.hid hq
  clear hq e4 HB1
  obtain ⟨b, hb⟩ : ∃ b, w1.heap.size + 1 = b := ⟨_, rfl⟩
  rw [hb] at H2 ⊢
  clear hb
  go_wp2_with fail
  go_loopw [6, 7] (fun vc i wr => ∃ k m : Nat, i = .int .i64 k ∧ vc = .int .i64 m ∧ k ≤ n ∧ Hid (m = (overL (qsTo l k) key).length) ∧ Hid (QIn W wr b 100 (k * 21) (qsTo l k) (fun _ => False))) (fun _ i _ => n - (intOf i).toNat)
  case atStart => exact ⟨0, 0, rfl, rfl, Nat.zero_le _, Lib.hid (by simp [qsTo, overL]), by simpa [qsTo] using H2⟩
  case round =>
    obtain ⟨k, m, rfl, rfl, hk, HM, HK⟩ := hrel
    by_cases hlt : k < n
    · have hkl : k < l.length := by rw [HN.out]; exact hlt
      obtain ⟨ad, rfl, hadb, hcell⟩ := HR.out.at hkl
      have hc := (HK.out.frame.cell (p := ad.add k) (by rw [add_block]; exact hadb)).trans hcell
      have hwk : wf64 l[k] := HW.out _ (List.getElem_mem hkl)
      have hp := putV_qs (l := l) (k := k) (most := 100) (by omega)
      have hov := overL_ins (qsTo l k) (l.getD k 0, (k : Int)) key
      rw [getD_at hkl] at hp hov
      obtain ⟨x, hx⟩ : ∃ x, x = l[k] := ⟨_, rfl⟩
      rw [← hx] at hc hwk hp hcell hov
      have HOV : Hid ((overL (qsTo l (k + 1)) key).length = (overL (qsTo l k) key).length + (if key < x then 1 else 0)) := Lib.hid (by rw [← hov]; show (overL (insL (qsTo l k) (l.getD k 0, (k : Int))) key).length = _; rw [getD_at hkl, ← hx])
      have KP := Lib.hid (qput_in (x, (k : Int)) HK.out hwk (wf64_nat (by omega)) (by rw [qsTo_length]; omega) (by omega))
      rw [hp] at KP
      have hmb : m ≤ k := by have h1 := overL_length (qsTo l k) key; rw [qsTo_length] at h1; rw [HM.out]; exact h1
      clear hp hx hwk hov
      go_wp2_with fail
      refine (KP.out).mono ?_
      rintro e w3 ⟨rfl, hq, _⟩
      have H3 := Lib.hid hq
      have hc3 := (hq.frame.cell (p := ad.add k) (by rw [add_block]; exact hadb)).trans hcell
      clear hq KP HK hc hcell hadb
      by_cases hgt : key < x
      · go_wp2_with fail
        go_roundw
        case rel => exact ⟨k + 1, m + 1, by go_num, by go_num, by omega, Lib.hid (by rw [HOV.out, HM.out, if_pos hgt]), by have := H3; rwa [show k * 21 + 21 = (k + 1) * 21 by omega] at this⟩
        case measure => simp [intOf]; omega
      · go_wp2_with fail
        go_roundw
        case rel => exact ⟨k + 1, m, by go_num, rfl, by omega, Lib.hid (by rw [HOV.out, HM.out, if_neg (by omega)]; rfl), by have := H3; rwa [show k * 21 + 21 = (k + 1) * 21 by omega] at this⟩
        case measure => simp [intOf]; omega
    · obtain rfl : k = n := by omega
      obtain ⟨L, hL⟩ : ∃ L, qsTo l k = L := ⟨_, rfl⟩
      have hLl : L.length = k := by rw [← hL]; exact qsTo_length l k
      rw [hL] at HK HM
      obtain ⟨O, hO⟩ : ∃ O, overL L key = O := ⟨_, rfl⟩
      have hOl : O.length = m := by rw [← hO, HM.out]
      have hlast := overL_last HK.out.ord.1 key
      have HKEY : Hid (∀ (i : Nat) (x : QI), O[i]? = some x → key < x.1) := Lib.hid (fun i x hx => overL_mem (L := L) (by rw [hO]; exact hx))
      have hmk : m ≤ k := by have h1 := overL_length L key; rw [hO, hOl, hLl] at h1; exact h1
      obtain ⟨d, hd⟩ : ∃ d, k = d + m := ⟨k - m, by omega⟩
      rw [hO, hLl, hOl, show k - m = d by omega] at hlast
      have HLAST := Lib.hid hlast
      have KO := Lib.hid (qover_in key HK.out (by omega))
      rw [hO] at KO
      have HD := Lib.hid hd
      have HLL := Lib.hid hLl
      have HOL := Lib.hid hOl
      clear hL H2 hO hlast HM hd hLl hOl HN HR HW
      go_wp2_with fail
      refine (KO.out).mono ?_
      rintro e w4 ⟨vo, rfl, hMo, hq4, hb4⟩
      have KL := Lib.hid (qlist_in hq4 (by rw [HLL.out]; omega))
      have hro : QRow w4 26 vo O := base_zero hMo
      obtain ⟨Ao, co, rfl, _⟩ := hro.form
      rw [HOL.out] at hro ⊢
      have HRO := Lib.hid hro
      clear hMo hq4 hb4 hro KO HK
      go_wp2_with fail
      refine (KL.out).mono ?_
      rintro e w5 ⟨vl, rfl, hMl, hq5, hb5⟩
      have hrl : QRow w5 26 vl L := base_zero hMl
      have hro5 : QRow w5 26 (.slice Ao m co) O := HRO.out.keep (fun g hg => hb5.block g (HRO.out.lt hg))
      obtain ⟨Al, cl, rfl, hcl, hcl2⟩ := hrl.form
      rw [HLL.out] at hrl hcl ⊢
      unfold maxLen at hcl2
      have HRL := Lib.hid hrl
      have HRO5 := Lib.hid hro5
      have H5 := Lib.hid hq5
      clear hMl hq5 hb5 hrl hro5 HRO KL
      go_wp2_with fail
      go_loopw [10] (fun i wr => ∃ q nq : Nat, i = .int .i64 q ∧ q ≤ m ∧ wr = w5.drewN nq) (fun i _ => m - (intOf i).toNat)
      case atStart => exact ⟨0, 0, rfl, Nat.zero_le _, rfl⟩
      case round =>
        obtain ⟨q, nq, rfl, hq, rfl⟩ := hrel
        by_cases hlt2 : q < m
        · have hql : q < O.length := by rw [HOL.out]; exact hlt2
          obtain ⟨x, hx⟩ : ∃ x, O[q]? = some x := ⟨_, List.getElem?_eq_getElem hql⟩
          have hk2 := HKEY.out q x hx
          have hxl : L[d + q]? = some x := by rw [← hx, HLAST.out, List.getElem?_drop]
          have hd := HD.out
          obtain ⟨t, ht⟩ : ∃ t, d + q = t := ⟨_, rfl⟩
          rw [ht] at hxl
          obtain ⟨g1, c1, hv1, _, _, a0, a1⟩ := HRO5.out.get hx
          obtain ⟨g2, c2, hv2, _, _, b0, b1⟩ := HRL.out.get hxl
          injection hv1 with hv11 hv12 hv13
          injection hv2 with hv21 hv22 hv23
          subst hv11 hv13 hv21 hv23
          obtain ⟨x0, x1⟩ := x
          simp only at a0 a1 b0 b1 hk2
          have hw1 : IntKind.i64.wrap ((k : Int) - (m : Int)) = (d : Int) := by rw [IntKind.wrap_i64]; omega
          have hw2 : IntKind.i64.wrap ((d : Int) + (q : Int)) = (t : Int) := by rw [IntKind.wrap_i64]; omega
          have htk : (t : Int) < (k : Int) := by omega
          have hqm : (q : Int) < (m : Int) := by omega
          have hle : decide (x0 ≤ key) = false := decide_eq_false (by omega)
          have a0' : (w5.drewN nq).cell? ⟨g1, q * 2, none⟩ = some (.int .i64 x0) := a0
          have a1' : (w5.drewN nq).cell? ⟨g1, q * 2 + 1, none⟩ = some (.int .i64 x1) := a1
          have b0' : (w5.drewN nq).cell? ⟨g2, t * 2, none⟩ = some (.int .i64 x0) := b0
          have b1' : (w5.drewN nq).cell? ⟨g2, t * 2 + 1, none⟩ = some (.int .i64 x1) := b1
          clear hx hxl hv12 hv22 hql hk2 hd ht HRO5 HRL HKEY HLAST HD
          go_wp2_with fail
          go_quiet (fail)
          go_wp2_with fail
          go_roundw
          case rel => exact ⟨q + 1, _, by go_num, by omega, rfl⟩
          case measure => simp [intOf]; omega
        · obtain rfl : q = m := by omega
          have KN := Lib.hid (qlen_in (H5.out.below (below_drewN (Below.refl _ w5) nq)))
          rw [HLL.out] at KN
          go_wp2_with fail
          refine (KN.out).mono ?_
          rintro e w6 ⟨rfl, rfl⟩
          go_wp2_with fail
          go_ret
          exact ⟨by simp, below_drewN H5.out.frame nq⟩
end Go.Proofs.Ytdafopijaplbfaa
