/- LifeKnown: its walk. -/
import Derived.BigQuiet
import Derived.Test.YtjglfdinddkdjaaDoorEd
namespace Go.Proofs.YtjglfdinddkdjaaDoor
open Go.RowKit

theorem waysTo_ten (s : Int) : waysTo s 10 = waysTo s 9 := waysTo_miss (n := 9) (by rw [nextV_out (by right; right; right; decide)]; decide)
theorem ways_step {s a : Int} (h : (nextV s a).2 = 0) : 1 ≤ a ∧ waysTo s (a + 1).toNat = waysTo s a.toNat ++ [a] := by
  have h1 : 1 ≤ a := by
    rcases Int.lt_or_le a 1 with h1 | h1
    · rw [nextV_out (by omega)] at h; exact absurd h (by decide)
    · exact h1
  refine ⟨h1, ?_⟩
  obtain ⟨n, rfl⟩ : ∃ n : Nat, a = n := ⟨a.toNat, by omega⟩
  exact waysTo_hit h
theorem ways_stay {s a : Int} (h : (nextV s a).2 ≠ 0) : waysTo s (a + 1).toNat = waysTo s a.toNat := by
  rcases Int.lt_or_le a 0 with h1 | h1
  · rw [show (a + 1).toNat = 0 by omega, show a.toNat = 0 by omega]
  · obtain ⟨n, rfl⟩ : ∃ n : Nat, a = n := ⟨a.toNat, by omega⟩
    exact waysTo_miss h

set_option maxRecDepth 100000 in
set_option maxHeartbeats 4000000 in
theorem lifeKnown_c (W : World) (hT : Tabs W) :
    Calls Tryd.prog 3 #[] W fun e w' => e = .returned (.bool true) ∧ Below W.heap.size W w' := by
  obtain ⟨i0, hi, hz0, hz1, hz2⟩ : ∃ i, Tryd.prog.info? 3 = some i ∧ i.zero = some (.int .i64 0) ∧ i.size = 1 ∧ i.bytes = 8 := by
    cases hq : Tryd.prog.info? 3 with
    | none => have := info_intE; rw [hq] at this; simp at this
    | some i => have := info_intE; rw [hq] at this; simp at this; exact ⟨i, rfl, this⟩
  have HT := Lib.hid hT
  clear hT
  go_enter Tryd.func3, Tryd.ntmps3
  go_wp2_with fail
  refine (awake9_c _ HT.out).mono ?_
  rintro e w1 ⟨rfl, rfl⟩
  go_wp2_with fail
  go_loopw [1] (fun sv wr => ∃ s : Int, sv = .int .i64 s ∧ -1 ≤ s ∧ s ≤ 8 ∧ Hid (Below W.heap.size W wr)) (fun sv _ => (8 - intOf sv).toNat)
  case atStart => exact ⟨-1, rfl, by omega, by omega, Lib.hid (Below.refl _ _)⟩
  case round =>
    obtain ⟨s, rfl, hs1, hs8, HB⟩ := hrel
    by_cases hlt : s ≤ 7
    · go_wp2_with fail
      go_loopw [2, 3] (fun cv av wr' => ∃ a : Int, av = .int .i64 a ∧ -1 ≤ a ∧ a ≤ 10 ∧ Hid (Below W.heap.size W wr') ∧ Hid (OwnI .i64 wr' W.heap.size 3 cv (waysTo s a.toNat))) (fun _ av _ => (10 - intOf av).toNat)
      case atStart => exact ⟨-1, rfl, by omega, by omega, HB, Lib.hid (OwnI.nil _ _ _ _)⟩
      case round =>
        obtain ⟨a, rfl, ha1, ha10, HB2, HV⟩ := hrel
        by_cases hla : a ≤ 9
        · have K1 := Lib.hid (next_c s a _ (HT.out.below HB2.out (Nat.le_refl _)))
          have K2 := Lib.hid (nextState_c s a)
          by_cases h0 : (nextV s a).2 = 0
          · obtain ⟨_, e1⟩ := ways_step h0
            have hlen := waysTo_len s a.toNat
            generalize hl : waysTo s a.toNat = l at *
            generalize hn : nextV s a = p at *
            obtain ⟨p1, p2⟩ := p
            have H0 : p2 = 0 := h0
            subst H0
            have E1 := Lib.hid e1
            have hv := HV.out
            have hbs := HB2.out.size
            clear e1 h0 hn hl
            go_wp2_with fail
            refine K1.out.mono ?_
            rintro e w1 ⟨rfl, rfl⟩
            go_wp2_with fail
            refine (K2.out _).mono ?_
            rintro e w1 ⟨rfl, rfl⟩
            go_wp2_with (at_builtin; refine wpList_app1 rfl _ _ 23 rfl W.heap.size 3 i0 8 0 Tryd.underlying23 hi hz0 hz1 hz2 _ _ rfl hv a rfl (by omega) (by omega) hbs ?_; intro v' w' hv' hb')
            go_roundw
            case rel => exact ⟨a + 1, by go_num, by omega, by omega, Lib.hid (HB2.out.trans hb'), Lib.hid (by rw [E1.out]; exact hv')⟩
            case measure => simp [intOf]; omega
          · have e1 := ways_stay h0
            generalize hn : nextV s a = p at *
            obtain ⟨p1, p2⟩ := p
            have H0 : ¬ p2 = 0 := h0
            have E1 := Lib.hid e1
            clear e1 h0 hn
            go_wp2_with fail
            refine K1.out.mono ?_
            rintro e w1 ⟨rfl, rfl⟩
            go_wp2_with fail
            refine (K2.out _).mono ?_
            rintro e w1 ⟨rfl, rfl⟩
            go_wp2_with fail
            go_roundw
            case rel => exact ⟨a + 1, by go_num, by omega, by omega, HB2, Lib.hid (by rw [E1.out]; exact HV.out)⟩
            case measure => simp [intOf]; omega
        · obtain rfl : a = 10 := by omega
          have hv0 := HV.out
          rw [show ((10 : Int)).toNat = 10 from rfl, waysTo_ten] at hv0
          obtain ⟨A, c, rfl, hc1, hc2, hr0⟩ := hv0.form
          have HV0 := Lib.hid hv0
          have K1 := Lib.hid (ways_c s _ (HT.out.below HB2.out (Nat.le_refl _)))
          clear hv0 hr0
          go_wp2_with fail
          refine K1.out.mono ?_
          rintro e w2 ⟨v, rfl, hv2, hb2⟩
          have HV2 := Lib.hid (HV0.out.below hb2 (Nat.le_refl _))
          have HB3 := Lib.hid (HB2.out.trans (hb2.mono HB2.out.size))
          obtain ⟨A2, c2, rfl, hd1, hd2, hr2⟩ := hv2.form
          have HR2 := Lib.hid hr2
          have HR0 := Lib.hid HV2.out.row
          have hlen := waysTo_len s 9
          generalize hl : waysTo s 9 = l at *
          have K2 := Lib.hid (name_c s _ (HT.out.below HB3.out (Nat.le_refl _)))
          have K3 := Lib.hid (stateName_c s)
          have hq : decide (s = 2 ∨ s = 3) = (s == 2 || s == 3) := by rw [Bool.eq_iff_iff]; simp
          have K4 := Lib.hid (waits_c s)
          rw [hq] at K4
          clear hq
          clear hv2 hb2 hr2 K1
          go_wp2_with fail
          refine K2.out.mono ?_
          rintro e w1 ⟨rfl, rfl⟩
          go_wp2_with fail
          refine (K3.out _).mono ?_
          rintro e w3 ⟨rfl, hb3⟩
          have HB4 := Lib.hid (HB3.out.trans (hb3.mono HB3.out.size))
          have HR0' := Lib.hid (HR0.out.below hb3)
          have HR2' := Lib.hid (HR2.out.below hb3)
          clear hb3 K2 K3
          go_wp2_with fail
          refine (K4.out _).mono ?_
          rintro e w1 ⟨rfl, rfl⟩
          go_wp2_with fail
          all_goals
            go_loopw [9] (fun iv wr' => ∃ k q : Nat, iv = .int .i64 k ∧ k ≤ l.length ∧ wr' = w3.drewN q) (fun iv _ => l.length - (intOf iv).toNat)
            case atStart => exact ⟨0, 0, rfl, Nat.zero_le _, rfl⟩
            case round =>
              obtain ⟨k, q, rfl, hk, rfl⟩ := hrel
              by_cases hkl : k < l.length
              · obtain ⟨ad, rfl, _, hc⟩ := HR0'.out.at hkl
                obtain ⟨ad', rfl, _, hc'⟩ := HR2'.out.at hkl
                obtain ⟨x, hx⟩ : ∃ x, x = l[k] := ⟨_, rfl⟩
                rw [← hx] at hc hc'
                clear hx
                go_wp2_with fail
                go_quiet (fail)
                go_wp2_with fail
                go_roundw
                case rel => exact ⟨k + 1, _, by go_num, by omega, rfl⟩
                case measure => simp [intOf]; omega
              · go_wp2_with fail
                go_roundw
                case rel => exact ⟨_, by go_num, by omega, by omega, Lib.hid (below_drewN HB4.out _)⟩
                case measure => simp [intOf]; omega
    · obtain rfl : s = 8 := by omega
      go_wp2_with fail
      go_ret
      exact ⟨rfl, HB.out⟩
end Go.Proofs.YtjglfdinddkdjaaDoor
