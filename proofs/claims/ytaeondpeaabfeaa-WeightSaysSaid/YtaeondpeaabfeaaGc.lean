/- awake of chapter 2. -/
import Derived.Test.YtaeondpeaabfeaaGb
namespace Go.Proofs.Ytaeondpeaabfeaa
open Go.RowKit Go.Sort

theorem IRow.alloc {k : IntKind} {w : World} {B : Nat} {A : Option Addr} {l : List Int} (h : IRow k w B A l) (hB : B ≤ w.heap.size) (o : Obj) : IRow k (w.alloc o) B A l := h.below ((Below.refl B w).alloc hB o)

set_option maxHeartbeats 1000000 in
set_option maxRecDepth 100000 in
theorem awake_c (w : World) : Calls Try.prog 9 #[] w fun e w' => e = .returned (.bool true) ∧ Below w.heap.size w w' := by
  have h4 : stepV 4 = 58198140 := by decide
  have hs := Lib.hid (fun w => h4 ▸ step_c 4 w)
  have hp := Lib.hid (parts_v (some ⟨w.heap.size, 0, none⟩) 2 2 [1, 2] 4 (w.alloc (.cells #[.int .i64 1, .int .i64 2] 3)) rfl (IRow.lit _ _ _ _ _ _ rfl rfl (by simp)) (by decide))
  clear h4
  go_enter Try.func9, Try.ntmps9
  go_wp2_with fail
  refine (hs.out _).mono ?_
  rintro e w' ⟨rfl, rfl⟩
  go_wp2_with fail
  refine hp.out.mono ?_
  rintro e w1 ⟨g, rfl, h1, h2, h3, h4⟩
  rw [partsL_12] at h3
  have hb : Below w.heap.size w w1 := ((Below.refl _ _).alloc (Nat.le_refl _) _).trans (h4.mono (by simp))
  have hl := Lib.hid (longs_eq (some ⟨g, 0, none⟩) (some ⟨w1.heap.size, 0, none⟩) 2 2 2 (w1.heap.size + 1) [1, 3] (w1.alloc (.cells #[.int .i64 1, .int .i64 3] 2)) rfl (by omega) (((h3.irow h2).alloc (Nat.le_refl _) _).more (by omega)) (IRow.lit _ _ _ _ _ _ rfl rfl (by omega)))
  have HB := Lib.hid (hb.alloc hb.size (.cells #[.int .i64 1, .int .i64 3] 2))
  clear h1 h2 h3 h4 hb hp
  go_wp2_with fail
  refine hl.out.mono ?_
  rintro e w2 ⟨rfl, q, rfl⟩
  go_wp2_with fail
  go_ret
  exact ⟨rfl, below_drewN HB.out q⟩
end Go.Proofs.Ytaeondpeaabfeaa
