/- LifeRows: its walk. -/
import Derived.Test.YtjglfdinddkdjaaDoorEc
namespace Go.Proofs.YtjglfdinddkdjaaDoor
open Go.RowKit

set_option maxRecDepth 100000 in
set_option maxHeartbeats 2000000 in
theorem lifeRows_c (A : Option Addr) (c : Nat) (l : List Int) (W : World) (hr : IRow .i64 W W.heap.size A l) (hT : Tabs W) :
    Calls Tryd.prog 4 #[.slice A l.length c] W fun e w' => e = .returned (.bool true) ∧ Below W.heap.size W w' := by
  have HT := Lib.hid hT
  have HR := Lib.hid hr
  clear hr
  by_cases h2 : 200 < l.length
  · go_enter Tryd.func4, Tryd.ntmps4
    go_wp2_with fail
    refine (awake9_c _ HT.out).mono ?_
    rintro e w1 ⟨rfl, rfl⟩
    go_wp2_with fail
    go_ret
    exact ⟨rfl, Below.refl _ _⟩
  · go_enter Tryd.func4, Tryd.ntmps4
    go_wp2_with fail
    refine (awake9_c _ HT.out).mono ?_
    rintro e w1 ⟨rfl, rfl⟩
    go_wp2_with fail
    go_loopw [3, 4, 5] (fun sv gv iv wr => ∃ (s : Int) (i : Nat) (b : Bool), sv = .int .i64 s ∧ gv = .bool b ∧ iv = .int .i64 i ∧ 1 ≤ s ∧ s ≤ 6 ∧ i ≤ l.length ∧ b = decide (s = 6) ∧ wr = W) (fun _ _ iv _ => l.length - (intOf iv).toNat)
    case atStart => exact ⟨1, 0, false, rfl, rfl, rfl, by omega, by omega, by omega, rfl, rfl⟩
    case round =>
      obtain ⟨s, i, b, rfl, rfl, rfl, hs1, hs6, hi, hb, rfl⟩ := hrel
      by_cases hlt : i < l.length
      · obtain ⟨ad, rfl, _, hc⟩ := HR.out.at hlt
        obtain ⟨a, ha⟩ : ∃ a, l[i] = a := ⟨_, rfl⟩
        rw [ha] at hc
        have K := Lib.hid (next_c s a _ HT.out)
        rcases next_cases hs1 hs6 a with ⟨hn, ho⟩ | ⟨hn, ho1, ho2⟩ | ⟨t, hn, ht2, ht6, hne, h3, h8⟩
        · rw [hn] at K
          have HB := Lib.hid hb
          clear hn ha hb
          rcases ho with ho | ho
          · go_wp2_with fail
            refine K.out.mono ?_
            rintro e w1 ⟨rfl, rfl⟩
            go_wp2_with fail
            go_roundw
            case rel => exact ⟨s, i + 1, b, rfl, rfl, by go_num, hs1, hs6, by omega, HB.out, by trivial⟩
            case measure => simp [intOf]; omega
          · go_wp2_with fail
            refine K.out.mono ?_
            rintro e w1 ⟨rfl, rfl⟩
            go_wp2_with fail
            go_roundw
            case rel => exact ⟨s, i + 1, b, rfl, rfl, by go_num, hs1, hs6, by omega, HB.out, by trivial⟩
            case measure => simp [intOf]; omega
        · rw [hn] at K
          have HB := Lib.hid hb
          clear hn ha hb
          go_wp2_with fail
          refine K.out.mono ?_
          rintro e w1 ⟨rfl, rfl⟩
          go_wp2_with fail
          go_roundw
          case rel => exact ⟨s, i + 1, b, rfl, rfl, by go_num, hs1, hs6, by omega, HB.out, by trivial⟩
          case measure => simp [intOf]; omega
        · rw [hn] at K
          have hb' : b = false := by rw [hb]; exact decide_eq_false hne
          subst hb'
          clear hn ha hb
          by_cases ht : t = 6
          · have ha8 := h8.2 ht
            subst ht ha8
            clear h3 h8
            go_wp2_with fail
            refine K.out.mono ?_
            rintro e w1 ⟨rfl, rfl⟩
            go_wp2_with fail
            go_roundw
            case rel => exact ⟨6, i + 1, true, rfl, rfl, by go_num, by omega, by omega, by omega, rfl, by trivial⟩
            case measure => simp [intOf]; omega
          · have ha8 : ¬ a = 8 := fun h => ht (h8.1 h)
            by_cases ht3 : t = 3
            · have hs2 := h3 ht3
              subst ht3 hs2
              clear h3 h8
              go_wp2_with fail
              refine K.out.mono ?_
              rintro e w1 ⟨rfl, rfl⟩
              go_wp2_with fail
              go_roundw
              case rel => exact ⟨3, i + 1, false, rfl, rfl, by go_num, by omega, by omega, by omega, rfl, by trivial⟩
              case measure => simp [intOf]; omega
            · have hd6 : false = decide (t = 6) := (decide_eq_false ht).symm
              have HD6 := Lib.hid hd6
              have e8 : (a == 8) = false := by simpa using ha8
              have e6 : (t == 6) = false := by simpa using ht
              clear h3 h8 hd6
              go_wp2_with fail
              refine K.out.mono ?_
              rintro e w1 ⟨rfl, rfl⟩
              go_wp2_with fail
              go_roundw
              case rel => exact ⟨t, i + 1, false, rfl, by simp, by go_num, by omega, by omega, by omega, HD6.out, by trivial⟩
              case measure => simp [intOf]; omega
      · by_cases h6 : s = 6
        · subst h6
          obtain rfl : b = true := hb
          have K := Lib.hid (ways_c 6 _ HT.out)
          go_wp2_with fail
          refine K.out.mono ?_
          rintro e w1 ⟨v, rfl, hv, hb1⟩
          rw [show waysTo 6 9 = [] by decide] at hv
          obtain ⟨A', c', rfl, _, _, _⟩ := hv.form
          have HB1 := Lib.hid hb1
          clear hv hb1
          go_wp2_with fail
          go_ret
          exact ⟨rfl, HB1.out⟩
        · obtain rfl : b = false := by rw [hb]; exact decide_eq_false h6
          have hge : decide ((i : Int) < (l.length : Int)) = false := by simp; omega
          clear hb h6 hs1 hs6
          go_wp2_with fail
          go_ret
          exact ⟨rfl, Below.refl _ _⟩
end Go.Proofs.YtjglfdinddkdjaaDoor
