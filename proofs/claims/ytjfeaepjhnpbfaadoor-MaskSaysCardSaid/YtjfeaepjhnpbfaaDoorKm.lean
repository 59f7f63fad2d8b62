/- The reference's Number at 11 to 15. -/
import Derived.Test.YtjfeaepjhnpbfaaDoorKl
namespace Go.Proofs.YtjfeaepjhnpbfaaDoor
open Go.RowKit Go.Sort

set_option maxRecDepth 100000 in
set_option maxHeartbeats 1000000 in
theorem number_11 (w : World) : Calls Tryd.prog 28 #[.int .i64 11] w (Ret (.string (numS 11)) w) := by
  have hcv : ∀ (W : World) (g : Nat), W.cell? ⟨g, 0, none⟩ = some (.int .u8 49) → (convert 54 9 (.slice (some ⟨g, 0, none⟩) 1 1)).run Tryd.prog W = .ok (.string ⟨#[49]⟩) W := fun W g hc => byte_str W g 49 (by omega) hc
  have hw1 : IntKind.i64.wrap 49 = 49 := by decide
  have hw2 : IntKind.u8.wrap 49 = 49 := by decide
  have hw3 : IntKind.i64.wrap 1 = 1 := by decide
  go_enter Tryd.func28, Tryd.ntmps28
  go_wp2_with fail
  go_region_with (go_at_call 28; refine (number_1 _).mono ?_; rintro e w' ⟨rfl, rfl⟩)
  all_goals go_wp2_with fail
  all_goals go_ret
  all_goals refine ⟨number_text 11 49 (by decide), ?_⟩
  all_goals exact ((((Below.refl _ w).alloc (Nat.le_refl _) _).alloc (by simp) _)).drew

set_option maxRecDepth 100000 in
set_option maxHeartbeats 1000000 in
theorem number_12 (w : World) : Calls Tryd.prog 28 #[.int .i64 12] w (Ret (.string (numS 12)) w) := by
  have hcv : ∀ (W : World) (g : Nat), W.cell? ⟨g, 0, none⟩ = some (.int .u8 50) → (convert 54 9 (.slice (some ⟨g, 0, none⟩) 1 1)).run Tryd.prog W = .ok (.string ⟨#[50]⟩) W := fun W g hc => byte_str W g 50 (by omega) hc
  have hw1 : IntKind.i64.wrap 50 = 50 := by decide
  have hw2 : IntKind.u8.wrap 50 = 50 := by decide
  have hw3 : IntKind.i64.wrap 1 = 1 := by decide
  go_enter Tryd.func28, Tryd.ntmps28
  go_wp2_with fail
  go_region_with (go_at_call 28; refine (number_1 _).mono ?_; rintro e w' ⟨rfl, rfl⟩)
  all_goals go_wp2_with fail
  all_goals go_ret
  all_goals refine ⟨number_text 12 50 (by decide), ?_⟩
  all_goals exact ((((Below.refl _ w).alloc (Nat.le_refl _) _).alloc (by simp) _)).drew

set_option maxRecDepth 100000 in
set_option maxHeartbeats 1000000 in
theorem number_13 (w : World) : Calls Tryd.prog 28 #[.int .i64 13] w (Ret (.string (numS 13)) w) := by
  have hcv : ∀ (W : World) (g : Nat), W.cell? ⟨g, 0, none⟩ = some (.int .u8 51) → (convert 54 9 (.slice (some ⟨g, 0, none⟩) 1 1)).run Tryd.prog W = .ok (.string ⟨#[51]⟩) W := fun W g hc => byte_str W g 51 (by omega) hc
  have hw1 : IntKind.i64.wrap 51 = 51 := by decide
  have hw2 : IntKind.u8.wrap 51 = 51 := by decide
  have hw3 : IntKind.i64.wrap 1 = 1 := by decide
  go_enter Tryd.func28, Tryd.ntmps28
  go_wp2_with fail
  go_region_with (go_at_call 28; refine (number_1 _).mono ?_; rintro e w' ⟨rfl, rfl⟩)
  all_goals go_wp2_with fail
  all_goals go_ret
  all_goals refine ⟨number_text 13 51 (by decide), ?_⟩
  all_goals exact ((((Below.refl _ w).alloc (Nat.le_refl _) _).alloc (by simp) _)).drew

set_option maxRecDepth 100000 in
set_option maxHeartbeats 1000000 in
theorem number_14 (w : World) : Calls Tryd.prog 28 #[.int .i64 14] w (Ret (.string (numS 14)) w) := by
  have hcv : ∀ (W : World) (g : Nat), W.cell? ⟨g, 0, none⟩ = some (.int .u8 52) → (convert 54 9 (.slice (some ⟨g, 0, none⟩) 1 1)).run Tryd.prog W = .ok (.string ⟨#[52]⟩) W := fun W g hc => byte_str W g 52 (by omega) hc
  have hw1 : IntKind.i64.wrap 52 = 52 := by decide
  have hw2 : IntKind.u8.wrap 52 = 52 := by decide
  have hw3 : IntKind.i64.wrap 1 = 1 := by decide
  go_enter Tryd.func28, Tryd.ntmps28
  go_wp2_with fail
  go_region_with (go_at_call 28; refine (number_1 _).mono ?_; rintro e w' ⟨rfl, rfl⟩)
  all_goals go_wp2_with fail
  all_goals go_ret
  all_goals refine ⟨number_text 14 52 (by decide), ?_⟩
  all_goals exact ((((Below.refl _ w).alloc (Nat.le_refl _) _).alloc (by simp) _)).drew

set_option maxRecDepth 100000 in
set_option maxHeartbeats 1000000 in
theorem number_15 (w : World) : Calls Tryd.prog 28 #[.int .i64 15] w (Ret (.string (numS 15)) w) := by
  have hcv : ∀ (W : World) (g : Nat), W.cell? ⟨g, 0, none⟩ = some (.int .u8 53) → (convert 54 9 (.slice (some ⟨g, 0, none⟩) 1 1)).run Tryd.prog W = .ok (.string ⟨#[53]⟩) W := fun W g hc => byte_str W g 53 (by omega) hc
  have hw1 : IntKind.i64.wrap 53 = 53 := by decide
  have hw2 : IntKind.u8.wrap 53 = 53 := by decide
  have hw3 : IntKind.i64.wrap 1 = 1 := by decide
  go_enter Tryd.func28, Tryd.ntmps28
  go_wp2_with fail
  go_region_with (go_at_call 28; refine (number_1 _).mono ?_; rintro e w' ⟨rfl, rfl⟩)
  all_goals go_wp2_with fail
  all_goals go_ret
  all_goals refine ⟨number_text 15 53 (by decide), ?_⟩
  all_goals exact ((((Below.refl _ w).alloc (Nat.le_refl _) _).alloc (by simp) _)).drew

theorem number_c (x : Nat) (hx : x < 16) (w : World) : Calls Tryd.prog 28 #[.int .i64 x] w (Ret (.string (numS x)) w) := by
  by_cases h : x < 10
  · refine (number_one x h w).mono ?_
    rintro e w' ⟨rfl, rfl⟩
    exact ⟨rfl, (Below.refl _ _).alloc (Nat.le_refl _) _⟩
  · have hc : x = 10 ∨ x = 11 ∨ x = 12 ∨ x = 13 ∨ x = 14 ∨ x = 15 := by omega
    rcases hc with rfl | rfl | rfl | rfl | rfl | rfl
    · exact number_10 w
    · exact number_11 w
    · exact number_12 w
    · exact number_13 w
    · exact number_14 w
    · exact number_15 w

end Go.Proofs.YtjfeaepjhnpbfaaDoor
