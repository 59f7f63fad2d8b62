/- Masks: how many cores. -/
import Derived.Test.YtjfeaepjhnpbfaaDoorKa
import Derived.Test.YtjfeaepjhnpbfaaDoorOnes
import Derived.Lib.BitFns
import Derived.Deep.Draws
namespace Go.Proofs.YtjfeaepjhnpbfaaDoor
open Go.RowKit

theorem ones_byte : ∀ n : Fin 256, Lib.onesCount n.val = (coresTo n.val 8).length := by decide +kernel
theorem cores_split (m : Nat) : (coresL m).length = (coresTo (m / 256) 8).length + (coresTo (m % 256) 8).length := by
  have h : List.range 16 = List.range 8 ++ (List.range 8).map (· + 8) := by decide
  have h1 : (List.range 8).filter (fun c => m.testBit c) = (List.range 8).filter (fun c => (m % 256).testBit c) := by
    apply List.filter_congr
    intro c hc
    have hc8 : c < 8 := List.mem_range.1 hc
    rw [show (256 : Nat) = 2 ^ 8 from rfl, Nat.testBit_mod_two_pow]
    simp [hc8]
  have h2 : (((List.range 8).map (· + 8)).filter (fun c => m.testBit c)).length = ((List.range 8).filter (fun c => (m / 256).testBit c)).length := by
    rw [List.filter_map, List.length_map]
    congr 1
    apply List.filter_congr
    intro c _
    rw [show (256 : Nat) = 2 ^ 8 from rfl, Nat.testBit_div_two_pow]
    rfl
  unfold coresL coresTo
  rw [h, List.filter_append, List.length_append, h1, h2]
  omega
theorem cores_length_le (m : Nat) : (coresL m).length ≤ 16 := by
  unfold coresL coresTo
  refine Nat.le_trans (List.length_filter_le _ _) ?_
  simp

theorem ones_c (m : Nat) (hm : m < 65536) (w : World) : Calls Tryd.prog 27 #[.int .u16 m] w fun e w' => e = .returned (.int .i64 (coresL m).length) ∧ w' = w.drew := by
  have ha : bits BinOp.and IntKind.u16 (m : Int) 255 = ((m % 256 : Nat) : Int) := by
    have := u16_and_nat m 255 hm (by omega)
    rw [Nat.and_two_pow_sub_one_eq_mod m 8] at this
    simpa using this
  have p1 := Lib.pop8_eq ⟨m / 256, by omega⟩
  have p2 := Lib.pop8_eq ⟨m % 256, by omega⟩
  have o1 := ones_byte ⟨m / 256, by omega⟩
  have o2 := ones_byte ⟨m % 256, by omega⟩
  simp only at p1 p2 o1 o2
  have hl := cores_split m
  have hle := cores_length_le m
  refine ones_walk m ((m / 256 : Nat) : Int) ((m % 256 : Nat) : Int) (by omega) ha (by omega) (by omega) (by omega) (by omega) _ ?_ (by omega) (by omega) w
  rw [p1, p2, o1, o2]
  omega

theorem len_c (m : Nat) (hm : m < 65536) (w : World) : Calls Tryd.prog 15 #[.int .u16 m] w fun e w' => e = .returned (.int .i64 (coresL m).length) ∧ w' = w.drew := by
  go_enter Tryd.func15, Tryd.ntmps15
  go_wp2_with (go_at_call 27; refine (ones_c m hm _).mono ?_; rintro e w' ⟨rfl, rfl⟩)
  go_ret
  exact ⟨rfl, rfl⟩
end Go.Proofs.YtjfeaepjhnpbfaaDoor
