/- fair: the law's awake. -/
import Derived.Test.YtnfcapeajhegmaaGreatFj
namespace Go.Proofs.YtnfcapeajhegmaaGreat
open Go.RowKit Go.Maps

def awC (k : Nat) : Int := if k = 0 then -1 else 1
def awR (k : Nat) : List RI := [(1, 20, 11639628 * (k : Int)), (2, 20, 0)]
def awOk (k : Nat) : Bool := decide (pickV (awC k) (awR k) = 1) && decide (pickC (awC k) (awR k) = 1) && pickB (awR k) && decide (chargeM 0 1 (awR k) = (1, 0, 0, awR (k + 1)))
theorem aw_next : ∀ k, k < 40 → awOk k = true := by decide +kernel
theorem aw_init : enterM 0 [] (1, 20, 0) = (0, 0, [(1, 20, 0)]) ∧ enterM 0 [(1, 20, 0)] (2, 20, 0) = (0, 0, awR 0) := by decide +kernel
set_option maxRecDepth 100000 in
set_option maxHeartbeats 4000000 in
theorem awake12_c (w : World) : Calls Tryz.prog 13 #[] w fun e w' => e = .returned (.bool true) ∧ Below w.heap.size w w' := by
  have hi := aw_init
  have HI := Lib.hid hi
  have HN := Lib.hid aw_next
  clear hi
  go_enter Tryz.func13, Tryz.ntmps13
  go_wp2_with fail
  refine (snew_in w w (Below.refl _ w) 0 (fun _ => False) (fun _ h => h.elim) (by decide) (by decide)).mono ?_
  rintro e w1 ⟨s, rfl, hq, hb⟩
  have H1 := Lib.hid hq
  clear hq hb
  go_wp2_with fail
  refine (senter_in (1, 20, 0) H1.out (by decide) (by decide) (by decide)).mono ?_
  rintro e w2 ⟨rfl, hq, -⟩
  rw [HI.out.1] at hq ⊢
  have H2 := Lib.hid hq
  clear hq
  simp only
  go_wp2_with fail
  refine (senter_in (2, 20, 0) H2.out (by decide) (by decide) (by decide)).mono ?_
  rintro e w3 ⟨rfl, hq, -⟩
  rw [HI.out.2] at hq ⊢
  have HA : Hid (SIn w w3 s 0 (awC 0) (awR 0) (16 + 16 * 0) (fun _ => False)) := Lib.hid hq
  clear hq H1 H2 HI
  simp only
  go_wp2_with fail
  go_loopw [3] (fun i wr => ∃ k : Nat, i = .int .i64 k ∧ k ≤ 40 ∧ Hid (SIn w wr s 0 (awC k) (awR k) (16 + 16 * k) (fun _ => False))) (fun i _ => 40 - (intOf i).toNat)
  case atStart => exact ⟨0, rfl, by omega, HA⟩
  case round =>
    obtain ⟨k, rfl, hk, HQ⟩ := hrel
    clear HA
    by_cases hlt : k < 40
    · have hok := HN.out k hlt
      unfold awOk at hok
      simp only [Bool.and_eq_true, decide_eq_true_eq] at hok
      obtain ⟨⟨⟨h0, h1⟩, h2⟩, h3⟩ := hok
      have KP := Lib.hid (spick_in HQ.out)
      rw [h0, h1, h2] at KP
      have H3 := Lib.hid h3
      have hc1 : awC (k + 1) = 1 := by unfold awC; rw [if_neg (by omega)]
      clear h0 h1 h2 h3 HQ
      go_wp2_with fail
      refine KP.out.mono ?_
      rintro e w5 ⟨rfl, hq, -⟩
      have KC := Lib.hid (scharge_in hq (by omega))
      rw [H3.out] at KC
      clear hq KP
      go_wp2_with fail
      refine KC.out.mono ?_
      rintro e w6 ⟨rfl, hq, -⟩
      have HQ6 : Hid (SIn w w6 s 0 (awC (k + 1)) (awR (k + 1)) (16 + 16 * (k + 1)) (fun _ => False)) := Lib.hid (by rw [hc1]; exact hq.weak (by omega))
      clear hq KC hc1 H3
      have hlt' : (k : Int) < 40 := by omega
      simp only
      go_wp2_with fail
      go_roundw
      case rel => exact ⟨k + 1, by go_num, by omega, HQ6⟩
      case measure => simp [intOf]; omega
    · obtain rfl : k = 40 := by omega
      have HB := Lib.hid HQ.out.frame
      clear HQ
      go_wp2_with fail
      go_ret
      exact ⟨rfl, HB.out⟩
end Go.Proofs.YtnfcapeajhegmaaGreat
