/- Contracts of the reference's digits: at, cmpSize, digits. -/
import Derived.Test.YtaeondpeaabfeaaBig
import Derived.Test.YtaeondpeaabfeaaWm
import Derived.Test.YtaeondpeaabfeaaMem
import Derived.LoopTactic
namespace Go.Proofs.Ytaeondpeaabfeaa
open Go.RowKit

theorem info_i64 : (Try.prog.info? 2).map (fun i => (i.zero, i.size, i.bytes)) = some (some (.int .i64 0), 1, 8) := by kernel_rfl

set_option maxHeartbeats 400000 in
theorem at_c (A : Option Addr) (c B : Nat) (l : List Int) (i : Int) (m : Nat) (w : World) (hm : i = m) (hr : IRow .i64 w B A l) :
    Calls Try.prog 43 #[.slice A l.length c, .int .i64 i] w fun e w' => e = .returned (.int .i64 (dg l m)) ∧ w = w' := by
  subst hm
  by_cases h : m < l.length
  · obtain ⟨ad, rfl, _, hc⟩ := hr.at h
    rw [← dg_lt h] at hc
    clear hr
    go_enter Try.func43, Try.ntmps43
    go_wp2
    go_ret
    exact ⟨rfl, rfl⟩
  · have hd := Lib.hid (dg_ge (l := l) (j := m) (by omega))
    clear hr
    go_enter Try.func43, Try.ntmps43
    go_wp2
    go_ret
    exact ⟨ret_i hd.out.symm, rfl⟩

set_option maxHeartbeats 1000000 in
theorem cmpSize_c (A A' : Option Addr) (c c' B : Nat) (l l' : List Int) (w : World) (hr : IRow .i64 w B A l) (hr' : IRow .i64 w B A' l') (hd : Dig l) (hd' : Dig l') (h1 : l.length ≤ 1000000) (h2 : l'.length ≤ 1000000) :
    Calls Try.prog 44 #[.slice A l.length c, .slice A' l'.length c'] w fun e w' => e = .returned (.int .i64 (cmpV (val l) (val l'))) ∧ w = w' := by
  have HR := Lib.hid hr
  have HR' := Lib.hid hr'
  have HD := Lib.hid hd
  have HD' := Lib.hid hd'
  clear hr hr' hd hd'
  rcases (show l.length < l'.length ∨ l'.length ≤ l.length by omega) with h | h
  all_goals
    obtain ⟨n, hn, hln, hln', hn1⟩ : ∃ n : Nat, n = max l.length l'.length ∧ l.length ≤ n ∧ l'.length ≤ n ∧ n ≤ 1000000 := ⟨_, rfl, by omega, by omega, by omega⟩
    try have hb : decide (l.length < l'.length) = false := (by simp; omega)
    have HN := Lib.hid hn
    clear hn
    go_enter Try.func44, Try.ntmps44
    go_wp2_with fail
    go_loop [6] (fun i => ∃ k : Nat, k ≤ n ∧ i = .int .i64 ((k : Int) - 1) ∧ ∀ j, k ≤ j → dg l j = dg l' j) (fun i => (intOf i + 1).toNat)
    case atStart =>
      have hn := HN.out
      refine ⟨n, Nat.le_refl _, ?_, fun j hj => by rw [dg_ge (by omega), dg_ge (by omega)]⟩
      go_num
    case round =>
      obtain ⟨k, hk, rfl, he⟩ := hrel
      have HE := Lib.hid he
      clear he
      rcases k with _ | m
      · go_wp2_with fail
        go_ret
        have hv : val l = val l' := by
          rw [← V_ge hln, ← V_ge hln']
          exact V_congr fun j _ => HE.out j (Nat.zero_le _)
        exact ⟨ret_i (cmpV_eq hv).symm, rfl⟩
      · go_wp2_with fail
        refine (at_c A c B l _ m _ (by omega) HR.out).mono ?_
        rintro e w' ⟨rfl, rfl⟩
        go_wp2_with fail
        refine (at_c A' c' B l' _ m _ (by omega) HR'.out).mono ?_
        rintro e w' ⟨rfl, rfl⟩
        rcases Int.lt_trichotomy (dg l m) (dg l' m) with h3 | h3 | h3
        · go_wp2_with fail
          go_ret
          have hv : val l < val l' := by
            rw [← V_ge hln, ← V_ge hln']
            exact V_lt HD.out.at HD'.out.at (by omega) h3 fun j hj => HE.out j (by omega)
          exact ⟨ret_i (cmpV_lt hv).symm, rfl⟩
        · have h4 : ¬ dg l m < dg l' m := by omega
          have h5 : ¬ dg l' m < dg l m := by omega
          have H3 := Lib.hid h3
          clear h3
          go_wp2_with fail
          go_round
          case rel =>
            refine ⟨m, by omega, by go_num, fun j hj => ?_⟩
            by_cases hjm : j = m
            · rw [hjm]; exact H3.out
            · exact HE.out j (by omega)
          case measure => simp [intOf]
        · go_wp2_with fail
          go_ret
          have hv : val l' < val l := by
            rw [← V_ge hln, ← V_ge hln']
            exact V_lt HD'.out.at HD.out.at (by omega) h3 fun j hj => (HE.out j (by omega)).symm
          exact ⟨ret_i (cmpV_gt hv).symm, rfl⟩

/-- What 'digits' has done after k rounds: r are the digits, x is what is left. -/
def DSt (a : Int) (k : Nat) (x : Int) (r : List Int) : Prop := k ≤ 6 ∧ r.length = k ∧ Dig r ∧ val r + 65536 ^ k * (x.natAbs : Int) = (a.natAbs : Int) ∧ -9223372036854775808 ≤ x ∧ x ≤ 9223372036854775807
theorem DSt.start (a : Int) (h1 : -9223372036854775808 ≤ a) (h2 : a ≤ 9223372036854775807) : DSt a 0 a [] := ⟨by omega, rfl, Dig.nil, by simp [val_nil], h1, h2⟩
theorem DSt.next {a x x' d : Int} {k : Nat} {r : List Int} (h : DSt a k x r) (hk : k < 6) (hd : 0 ≤ d ∧ d < 65536) (hx : (x.natAbs : Int) = d + 65536 * (x'.natAbs : Int)) (h1 : -9223372036854775808 ≤ x') (h2 : x' ≤ 9223372036854775807) : DSt a (k + 1) x' (r ++ [d]) := by
  obtain ⟨_, h4, h5, h6, _, _⟩ := h
  refine ⟨by omega, by simp [h4], h5.snoc hd.1 hd.2, ?_, h1, h2⟩
  rw [val_snoc, h4, ← h6, hx, Int.pow_succ, Int.mul_add, Int.mul_comm d, Int.mul_assoc]
  omega
theorem DSt.done {a x : Int} {r : List Int} (h : DSt a 6 x r) (h1 : -9223372036854775808 ≤ a) (h2 : a ≤ 9223372036854775807) : val r = (a.natAbs : Int) := by
  obtain ⟨_, h4, h5, h6, _, _⟩ := h
  have := (val_bound h5).1
  omega

set_option maxHeartbeats 1000000 in
theorem digits_c (a : Int) (w : World) (h1 : -9223372036854775808 ≤ a) (h2 : a ≤ 9223372036854775807) :
    Calls Try.prog 47 #[.int .i64 a] w fun e w' => ∃ v r, e = .returned (.tuple #[v, .bool (decide (a < 0))]) ∧ OwnI .i64 w' w.heap.size 2 v r ∧ r.length = 6 ∧ Dig r ∧ val r = (a.natAbs : Int) ∧ Below w.heap.size w w' := by
  obtain ⟨i0, hi0, hz0, hz1, hz2⟩ := info_parts info_i64
  go_enter Try.func47, Try.ntmps47
  go_wp2_with fail
  go_loopw [4, 6, 0] (fun v i s wr => ∃ (k : Nat) (x : Int) (r : List Int), i = .int .i64 k ∧ s = .int .i64 x ∧ DSt a k x r ∧ OwnI .i64 wr w.heap.size 2 v r ∧ Below w.heap.size w wr) (fun _ i _ _ => 6 - (intOf i).toNat)
  case atStart => exact ⟨0, a, [], rfl, rfl, DSt.start a h1 h2, OwnI.nil _ _ _ _, Below.refl _ _⟩
  case round =>
    obtain ⟨k, x, r, rfl, rfl, hst, hown, hbel⟩ := hrel
    have hsz := hbel.size
    by_cases hlt : k < 6
    · have hx := hst.2.2.2.2
      have hlen := hst.2.1
      have HB : Hid ((r.length + 1) * 8 ≤ 140737488355328) := Lib.hid (by omega)
      obtain ⟨hx1, hx2⟩ := hx
      have HST := Lib.hid hst
      clear hst hlen
      by_cases h0 : 0 ≤ x
      · go_wp2_with (at_builtin; refine wpList_app1 rfl _ _ 30 rfl w.heap.size 2 i0 8 0 Try.underlying30 hi0 hz0 hz1 hz2 _ r rfl hown (x % 65536) rfl HB.out (by decide) hsz ?_; intro v' w1 hown1 hbel1; have hbel2 := hbel.trans hbel1; clear hown hbel hbel1)
        go_roundw
        case rel => exact ⟨k + 1, x / 65536, _, by go_num, rfl, HST.out.next hlt (by omega) (by omega) (by omega) (by omega), hown1, hbel2⟩
        case measure => simp [intOf]; omega
      · obtain ⟨y, rfl⟩ : ∃ y, x = -y := ⟨-x, by omega⟩
        have hy : 0 < y := by omega
        by_cases hm : 0 < y % 65536
        · go_wp2_with (at_builtin; refine wpList_app1 rfl _ _ 30 rfl w.heap.size 2 i0 8 0 Try.underlying30 hi0 hz0 hz1 hz2 _ r rfl hown (y % 65536) rfl HB.out (by decide) hsz ?_; intro v' w1 hown1 hbel1; have hbel2 := hbel.trans hbel1; clear hown hbel hbel1)
          go_roundw
          case rel => exact ⟨k + 1, -(y / 65536), _, by go_num, congrArg (Value.int .i64) (by rw [Int.tdiv_eq_ediv_of_nonneg (by omega)]; unfold wrap64; omega), HST.out.next hlt (by omega) (by omega) (by omega) (by omega), hown1, hbel2⟩
          case measure => simp [intOf]; omega
        · have hm0 : y % 65536 = 0 := by omega
          clear hm
          go_wp2_with (at_builtin; refine wpList_app1 rfl _ _ 30 rfl w.heap.size 2 i0 8 0 Try.underlying30 hi0 hz0 hz1 hz2 _ r rfl hown (0) rfl HB.out (by decide) hsz ?_; intro v' w1 hown1 hbel1; have hbel2 := hbel.trans hbel1; clear hown hbel hbel1)
          go_roundw
          case rel => exact ⟨k + 1, -(y / 65536), _, by go_num, congrArg (Value.int .i64) (by rw [Int.tdiv_eq_ediv_of_nonneg (by omega)]; unfold wrap64; omega), HST.out.next hlt (by omega) (by omega) (by omega) (by omega), hown1, hbel2⟩
          case measure => simp [intOf]; omega
    · have hk6 : k = 6 := by have := hst.1; omega
      subst hk6
      have hv := Lib.hid (hst.done h1 h2)
      have HST := Lib.hid hst
      clear hst
      go_wp2_with fail
      go_ret2
      exact ⟨_, r, rfl, hown, HST.out.2.1, HST.out.2.2.1, hv.out, hbel⟩
end Go.Proofs.Ytaeondpeaabfeaa
