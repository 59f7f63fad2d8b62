/- The reference's words on masks: Cores, MaskOf. -/
import Derived.Test.YtjfeaepjhnpbfaaDoorKi
namespace Go.Proofs.YtjfeaepjhnpbfaaDoor
open Go.RowKit Go.Sort

theorem shr_bit {m k : Nat} (hm : m < 65536) (b : Bool) (hb : m.testBit k = b) : (bits BinOp.and IntKind.u16 ((m : Int) / 2 ^ k) 1 == 1) = b := by
  have e : (m : Int) / 2 ^ k = ((m / 2 ^ k : Nat) : Int) := by simp
  have hlt : m / 2 ^ k < 65536 := Nat.lt_of_le_of_lt (Nat.div_le_self _ _) hm
  have h := u16_and_nat (m / 2 ^ k) 1 hlt (by omega)
  rw [e]
  have h' : bits BinOp.and IntKind.u16 ((m / 2 ^ k : Nat) : Int) 1 = ((m / 2 ^ k % 2 : Nat) : Int) := by
    rw [Nat.and_one_is_mod] at h
    exact h
  rw [h', ← hb, Nat.testBit_eq_decide_div_mod_eq]
  have h2 : m / 2 ^ k % 2 < 2 := Nat.mod_lt _ (by omega)
  by_cases hc : m / 2 ^ k % 2 = 1
  · rw [hc]; rfl
  · have h0 : m / 2 ^ k % 2 = 0 := by omega
    rw [h0]; rfl

set_option maxRecDepth 100000 in
set_option maxHeartbeats 1000000 in
theorem cores_c (m : Nat) (hm : m < 65536) (w : World) : Calls Tryd.prog 16 #[.int .u16 m] w fun e w' => ∃ v, e = .returned v ∧ OwnI .i64 w' w.heap.size 3 v (ints64 (coresL m)) ∧ Below w.heap.size w w' := by
  obtain ⟨i0, hi, hz0, hz1, hz2⟩ := info_parts info_int
  go_enter Tryd.func16, Tryd.ntmps16
  go_wp2_with fail
  go_loopw [3, 4] (fun v c wr => ∃ k : Nat, c = .int .i64 k ∧ k ≤ 16 ∧ OwnI .i64 wr w.heap.size 3 v (ints64 (coresTo m k)) ∧ Below w.heap.size w wr) (fun _ c _ => 16 - (intOf c).toNat)
  case atStart => exact ⟨0, rfl, Nat.zero_le _, OwnI.nil _ _ _ _, Below.refl _ _⟩
  case round =>
    obtain ⟨k, rfl, hk, hv, hb⟩ := hrel
    have hbs := hb.size
    have HB := Lib.hid hb
    clear hb
    by_cases hlt : k < 16
    · have hlt' : (k : Int) < 16 := by omega
      cases hbit : m.testBit k
      · have hsb := shr_bit hm false hbit
        have HBIT := Lib.hid hbit
        clear hbit
        go_wp2_with fail
        go_roundw
        case rel => exact ⟨k + 1, by go_num, by omega, by rw [coresTo_miss HBIT.out]; exact hv, HB.out⟩
        case measure => simp [intOf]; omega
      · have hsb := shr_bit hm true hbit
        have HBIT := Lib.hid hbit
        have hlen : (ints64 (coresTo m k)).length ≤ 16 := by
          rw [ints64_length]
          unfold coresTo
          refine Nat.le_trans (List.length_filter_le _ _) ?_
          simp; omega
        have e1 : ints64 (coresTo m k) ++ [(k : Int)] = ints64 (coresTo m (k + 1)) := by rw [coresTo_hit hbit]; simp [ints64]
        have E1 := Lib.hid e1
        clear hbit e1
        go_wp2_with (at_builtin; refine wpList_app1 rfl _ _ 27 rfl w.heap.size 3 i0 8 0 Tryd.underlying27 hi hz0 hz1 hz2 _ _ rfl hv k rfl (by omega) (by omega) hbs ?_; intro v' w' hv' hb')
        go_roundw
        case rel => exact ⟨k + 1, by go_num, by omega, by rw [← E1.out]; exact hv', HB.out.trans hb'⟩
        case measure => simp [intOf]; omega
    · obtain rfl : k = 16 := by omega
      obtain ⟨A, c, rfl, _, _, _⟩ := hv.form
      go_wp2_with fail
      go_ret
      exact ⟨_, rfl, hv, HB.out⟩

set_option maxRecDepth 100000 in
set_option maxHeartbeats 1000000 in
theorem maskOf_c (A : Option Addr) (n c B m : Nat) (l : List Int) (w : World) (hn : l.length = n) (hl : n ≤ 9223372036854775807) (hr : IRow .i64 w B A l) (hv : ofN l = m) :
    Calls Tryd.prog 17 #[.slice A n c] w fun e w' => e = .returned (.int .u16 m) ∧ w = w' := by
  subst hv
  have HR := Lib.hid hr
  have HN := Lib.hid hn
  clear hr hn
  go_enter Tryd.func17, Tryd.ntmps17
  go_wp2_with fail
  go_loop [3, 4] (fun x i => ∃ k q : Nat, i = .int .i64 k ∧ x = .int .u16 q ∧ k ≤ n ∧ q = ofN (l.take k)) (fun _ i => n - (intOf i).toNat)
  case atStart => exact ⟨0, 0, rfl, rfl, Nat.zero_le _, by simp [ofN]⟩
  case round =>
    obtain ⟨k, q, rfl, rfl, hk, hq⟩ := hrel
    have hqb : q < 65536 := by rw [hq]; exact ofN_lt _
    have HQ := Lib.hid hq
    clear hq
    by_cases hlt : k < n
    · have hkl : k < l.length := by rw [HN.out]; exact hlt
      obtain ⟨ad, rfl, _, hc⟩ := HR.out.at hkl
      obtain ⟨z, hz⟩ : ∃ z, z = l[k] := ⟨_, rfl⟩
      have hstep : ofN (l.take (k + 1)) = ofStep q z := by rw [ofN_take hkl, ← HQ.out, ← hz]
      rw [← hz] at hc
      have HS := Lib.hid hstep
      clear hz hstep
      by_cases hc16 : 0 ≤ z ∧ z < 16
      · obtain ⟨j, rfl⟩ := Int.eq_ofNat_of_zero_le hc16.1
        have hj : j < 16 := by omega
        have hj' : (j : Int) < 16 := by omega
        have ho := or_pow hqb hj
        have hp := wrap_pow hj
        have hp2 : ((2 ^ j : Nat) : Int) = 2 ^ j := by simp
        rw [hp2] at hp
        clear hp2 hc16
        go_wp2_with fail
        go_round
        case rel => exact ⟨k + 1, ofStep q j, by go_num, rfl, by omega, HS.out.symm⟩
        case measure => simp [intOf]; omega
      · have he : ofStep q z = q := by unfold ofStep; rw [if_neg hc16]
        have HE := Lib.hid he
        clear he
        by_cases h0 : z < 0
        · clear hc16
          go_wp2_with fail
          go_round
          case rel => exact ⟨k + 1, q, by go_num, rfl, by omega, by rw [HS.out, HE.out]⟩
          case measure => simp [intOf]; omega
        · have h1 : 16 ≤ z := by omega
          clear hc16
          go_wp2_with fail
          go_round
          case rel => exact ⟨k + 1, q, by go_num, rfl, by omega, by rw [HS.out, HE.out]⟩
          case measure => simp [intOf]; omega
    · obtain rfl : k = n := by omega
      go_wp2_with fail
      go_ret
      refine ⟨?_, rfl⟩
      rw [HQ.out, ← HN.out, List.take_length]
      rfl
end Go.Proofs.YtjfeaepjhnpbfaaDoor
