/- LifeReach: its walk. -/
import Derived.Test.YtjglfdinddkdjaaDoorEc
namespace Go.Proofs.YtjglfdinddkdjaaDoor
open Go.RowKit

set_option maxRecDepth 100000 in
set_option maxHeartbeats 2000000 in
theorem lifeReach_c (A : Option Addr) (c : Nat) (l : List Int) (W : World) (hr : IRow .i64 W W.heap.size A l) (hT : Tabs W) :
    Calls Tryd.prog 5 #[.slice A l.length c] W fun e w' => e = .returned (.bool true) ∧ Below W.heap.size W w' := by
  have HT := Lib.hid hT
  have HR := Lib.hid hr
  clear hr
  by_cases h2 : 100 < l.length
  · go_enter Tryd.func5, Tryd.ntmps5
    go_wp2_with fail
    refine (awake9_c _ HT.out).mono ?_
    rintro e w1 ⟨rfl, rfl⟩
    go_wp2_with fail
    go_ret
    exact ⟨rfl, Below.refl _ _⟩
  · go_enter Tryd.func5, Tryd.ntmps5
    go_wp2_with fail
    refine (awake9_c _ HT.out).mono ?_
    rintro e w1 ⟨rfl, rfl⟩
    go_wp2_with fail
    go_loopw [3, 4] (fun sv iv wr => ∃ (s : Int) (i : Nat), sv = .int .i64 s ∧ iv = .int .i64 i ∧ 1 ≤ s ∧ s ≤ 6 ∧ i ≤ l.length ∧ wr = W) (fun _ iv _ => l.length - (intOf iv).toNat)
    case atStart => exact ⟨1, 0, rfl, rfl, by omega, by omega, by omega, rfl⟩
    case round =>
      obtain ⟨s, i, rfl, rfl, hs1, hs6, hi, rfl⟩ := hrel
      by_cases hlt : i < l.length
      · obtain ⟨ad, rfl, _, hc⟩ := HR.out.at hlt
        obtain ⟨a, ha⟩ : ∃ a, l[i] = a := ⟨_, rfl⟩
        rw [ha] at hc
        have K := Lib.hid (next_c s a _ HT.out)
        rcases next_cases hs1 hs6 a with ⟨hn, ho⟩ | ⟨hn, ho1, ho2⟩ | ⟨t, hn, ht2, ht6, hne, h3, h8⟩
        · rw [hn] at K
          clear hn ha ho
          go_wp2_with fail
          refine K.out.mono ?_
          rintro e w1 ⟨rfl, rfl⟩
          go_wp2_with fail
          go_roundw
          case rel => exact ⟨s, i + 1, rfl, by go_num, hs1, hs6, by omega, by trivial⟩
          case measure => simp [intOf]; omega
        · rw [hn] at K
          clear hn ha
          go_wp2_with fail
          refine K.out.mono ?_
          rintro e w1 ⟨rfl, rfl⟩
          go_wp2_with fail
          go_roundw
          case rel => exact ⟨s, i + 1, rfl, by go_num, hs1, hs6, by omega, by trivial⟩
          case measure => simp [intOf]; omega
        · rw [hn] at K
          clear hn ha h3 h8
          go_wp2_with fail
          refine K.out.mono ?_
          rintro e w1 ⟨rfl, rfl⟩
          go_wp2_with fail
          go_roundw
          case rel => exact ⟨t, i + 1, rfl, by go_num, by omega, by omega, by omega, by trivial⟩
          case measure => simp [intOf]; omega
      · have K8 := Lib.hid (next_c s 8 _ HT.out)
        have K2 := Lib.hid (next_c s 2 _ HT.out)
        have KN := Lib.hid (name_c s _ HT.out)
        obtain rfl | rfl | rfl | rfl | rfl | rfl : s = 1 ∨ s = 2 ∨ s = 3 ∨ s = 4 ∨ s = 5 ∨ s = 6 := by omega
        · rw [show nextV 1 8 = (6, 0) by decide] at K8
          rw [show nextV 1 2 = (0, 4) by decide] at K2
          rw [show nameV 1 = [110, 101, 119] by decide] at KN
          go_wp2_with fail
          refine K8.out.mono ?_
          rintro e w1 ⟨rfl, rfl⟩
          go_wp2_with fail
          refine K2.out.mono ?_
          rintro e w1 ⟨rfl, rfl⟩
          go_wp2_with fail
          refine KN.out.mono ?_
          rintro e w1 ⟨rfl, rfl⟩
          go_wp2_with fail
          go_ret
          exact ⟨rfl, Below.refl _ _⟩
        · rw [show nextV 2 8 = (6, 0) by decide] at K8
          rw [show nextV 2 2 = (3, 0) by decide] at K2
          rw [show nameV 2 = [114, 101, 97, 100, 121] by decide] at KN
          go_wp2_with fail
          refine K8.out.mono ?_
          rintro e w1 ⟨rfl, rfl⟩
          go_wp2_with fail
          refine K2.out.mono ?_
          rintro e w1 ⟨rfl, rfl⟩
          go_wp2_with fail
          refine KN.out.mono ?_
          rintro e w1 ⟨rfl, rfl⟩
          go_wp2_with fail
          go_ret
          exact ⟨rfl, Below.refl _ _⟩
        · rw [show nextV 3 8 = (6, 0) by decide] at K8
          rw [show nextV 3 2 = (0, 4) by decide] at K2
          rw [show nameV 3 = [114, 117, 110, 115] by decide] at KN
          go_wp2_with fail
          refine K8.out.mono ?_
          rintro e w1 ⟨rfl, rfl⟩
          go_wp2_with fail
          refine K2.out.mono ?_
          rintro e w1 ⟨rfl, rfl⟩
          go_wp2_with fail
          refine KN.out.mono ?_
          rintro e w1 ⟨rfl, rfl⟩
          go_wp2_with fail
          go_ret
          exact ⟨rfl, Below.refl _ _⟩
        · rw [show nextV 4 8 = (6, 0) by decide] at K8
          rw [show nextV 4 2 = (0, 4) by decide] at K2
          rw [show nameV 4 = [115, 108, 101, 101, 112, 115] by decide] at KN
          go_wp2_with fail
          refine K8.out.mono ?_
          rintro e w1 ⟨rfl, rfl⟩
          go_wp2_with fail
          refine K2.out.mono ?_
          rintro e w1 ⟨rfl, rfl⟩
          go_wp2_with fail
          refine KN.out.mono ?_
          rintro e w1 ⟨rfl, rfl⟩
          go_wp2_with fail
          go_ret
          exact ⟨rfl, Below.refl _ _⟩
        · rw [show nextV 5 8 = (6, 0) by decide] at K8
          rw [show nextV 5 2 = (0, 4) by decide] at K2
          rw [show nameV 5 = [104, 101, 108, 100] by decide] at KN
          go_wp2_with fail
          refine K8.out.mono ?_
          rintro e w1 ⟨rfl, rfl⟩
          go_wp2_with fail
          refine K2.out.mono ?_
          rintro e w1 ⟨rfl, rfl⟩
          go_wp2_with fail
          refine KN.out.mono ?_
          rintro e w1 ⟨rfl, rfl⟩
          go_wp2_with fail
          go_ret
          exact ⟨rfl, Below.refl _ _⟩
        · rw [show nextV 6 8 = (0, 4) by decide] at K8
          rw [show nextV 6 2 = (0, 4) by decide] at K2
          rw [show nameV 6 = [103, 111, 110, 101] by decide] at KN
          go_wp2_with fail
          refine K8.out.mono ?_
          rintro e w1 ⟨rfl, rfl⟩
          go_wp2_with fail
          refine K2.out.mono ?_
          rintro e w1 ⟨rfl, rfl⟩
          go_wp2_with fail
          refine KN.out.mono ?_
          rintro e w1 ⟨rfl, rfl⟩
          go_wp2_with fail
          go_ret
          exact ⟨rfl, Below.refl _ _⟩
end Go.Proofs.YtjglfdinddkdjaaDoor
