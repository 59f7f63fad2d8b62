/- The walks of the laws WeightMore and WeightOffs: they return true. -/
import Derived.Test.YtaeondpeaabfeaaGc
namespace Go.Proofs.Ytaeondpeaabfeaa
open Go.RowKit Go.Sort

set_option maxHeartbeats 1000000 in
set_option maxRecDepth 100000 in
theorem lmore_no (x v t n m : Int) (w : World) (h : x < 1 ∨ v < x ∨ 20 < v ∨ t < v ∨ 1280 < t ∨ n < 0 ∨ m < n) :
    Calls Try.prog 6 #[.int .i64 x, .int .i64 v, .int .i64 t, .int .i64 n, .int .i64 m] w fun e w' => e = .returned (.bool true) ∧ Below w.heap.size w w' := by
  have H := Lib.hid h
  clear h
  go_enter Try.func6, Try.ntmps6
  go_wp2_with fail
  refine (awake_c _).mono ?_
  rintro e w1 ⟨rfl, hb⟩
  have HB := Lib.hid hb
  clear hb
  go_wp2_with fail
  all_goals first
    | (go_ret; exact ⟨rfl, HB.out⟩)
    | (exfalso; have := H.out; omega)

set_option maxHeartbeats 1000000 in
set_option maxRecDepth 100000 in
theorem lmore_c (x v t n m : Int) (w : World) (h1 : 1 ≤ x) (h2 : x ≤ v) (h3 : v ≤ 20) (h4 : v ≤ t) (h5 : t ≤ 1280) (h6 : 0 ≤ n) (h7 : n ≤ m) (hm : m ≤ 9223372036854775807) :
    Calls Try.prog 6 #[.int .i64 x, .int .i64 v, .int .i64 t, .int .i64 n, .int .i64 m] w fun e w' => e = .returned (.bool true) ∧ Below w.heap.size w w' := by
  have f1 : fairB x t n = true := fairB_true.2 ⟨by omega, by omega, by omega, by omega, by omega⟩
  have f2 : fairB v t n = true := fairB_true.2 ⟨by omega, by omega, by omega, by omega, by omega⟩
  have f3 : fairB x t m = true := fairB_true.2 ⟨by omega, by omega, by omega, by omega, by omega⟩
  have c1 : shareV x t n ≤ shareV v t n := by
    rw [shareV_yes f1, shareV_yes f2]
    exact Int.ediv_le_ediv (by omega) (Int.mul_le_mul_of_nonneg_left h2 h6)
  have c2 : shareV x t n ≤ shareV x t m := by
    rw [shareV_yes f1, shareV_yes f3]
    exact Int.ediv_le_ediv (by omega) (Int.mul_le_mul_of_nonneg_right h7 (by omega))
  have c3 : shareV x t n ≤ n := by rw [shareV_yes f1]; exact (share_le f1).2
  have c4 : stepV v ≤ stepV x := by
    rw [stepV_yes (goodB_true.2 ⟨by omega, by omega⟩), stepV_yes (goodB_true.2 ⟨by omega, by omega⟩)]
    rcases (by omega : v = 1 ∨ v = 2 ∨ v = 3 ∨ v = 4 ∨ v = 5 ∨ v = 6 ∨ v = 7 ∨ v = 8 ∨ v = 9 ∨ v = 10 ∨ v = 11 ∨ v = 12 ∨ v = 13 ∨ v = 14 ∨ v = 15 ∨ v = 16 ∨ v = 17 ∨ v = 18 ∨ v = 19 ∨ v = 20) with e | e | e | e | e | e | e | e | e | e | e | e | e | e | e | e | e | e | e | e
    all_goals
      subst e
      refine Int.le_ediv_of_mul_le (by omega) ?_
      omega
  have k1 := Lib.hid (fun W => share_c x t n W (by omega))
  have k2 := Lib.hid (fun W => share_c v t n W (by omega))
  have k3 := Lib.hid (fun W => share_c x t m W hm)
  have k4 := Lib.hid (fun W => step_c v W)
  have k5 := Lib.hid (fun W => step_c x W)
  generalize shareV x t n = a1 at k1 c1 c2 c3
  generalize shareV v t n = a2 at k2 c1
  generalize shareV x t m = a3 at k3 c2
  generalize stepV v = b1 at k4 c4
  generalize stepV x = b2 at k5 c4
  clear f1 f2 f3
  go_enter Try.func6, Try.ntmps6
  go_wp2_with fail
  refine (awake_c _).mono ?_
  rintro e w1 ⟨rfl, hb⟩
  have HB := Lib.hid hb
  clear hb
  go_wp2_with fail
  refine (k1.out _).mono ?_
  rintro e w2 ⟨rfl, q1, rfl⟩
  go_wp2_with fail
  refine (k2.out _).mono ?_
  rintro e w2 ⟨rfl, q2, rfl⟩
  go_wp2_with fail
  refine (k1.out _).mono ?_
  rintro e w2 ⟨rfl, q3, rfl⟩
  go_wp2_with fail
  refine (k3.out _).mono ?_
  rintro e w2 ⟨rfl, q4, rfl⟩
  go_wp2_with fail
  refine (k1.out _).mono ?_
  rintro e w2 ⟨rfl, q5, rfl⟩
  go_wp2_with fail
  refine (k4.out _).mono ?_
  rintro e w2 ⟨rfl, rfl⟩
  go_wp2_with fail
  refine (k5.out _).mono ?_
  rintro e w2 ⟨rfl, rfl⟩
  go_wp2_with fail
  go_ret
  refine ⟨ret_b (by simp), ?_⟩
  repeat apply below_drewN
  exact HB.out

theorem lmore_any (x v t n m : Int) (w : World) (hm : (Lit.int .i64 m).wf = true) :
    Calls Try.prog 6 #[.int .i64 x, .int .i64 v, .int .i64 t, .int .i64 n, .int .i64 m] w fun e w' => e = .returned (.bool true) ∧ Below w.heap.size w w' := by
  by_cases h : x < 1 ∨ v < x ∨ 20 < v ∨ t < v ∨ 1280 < t ∨ n < 0 ∨ m < n
  · exact lmore_no x v t n m w h
  · exact lmore_c x v t n m w (by omega) (by omega) (by omega) (by omega) (by omega) (by omega) (by omega) (of_wf hm).2

set_option maxHeartbeats 1000000 in
set_option maxRecDepth 100000 in
theorem loffs_no (x t n : Int) (w : World) (h : x < 1 ∨ 20 < x ∨ t < x ∨ 1280 < t ∨ n < 0 ∨ 1099511627776 < n) :
    Calls Try.prog 7 #[.int .i64 x, .int .i64 t, .int .i64 n] w fun e w' => e = .returned (.bool true) ∧ Below w.heap.size w w' := by
  have H := Lib.hid h
  clear h
  go_enter Try.func7, Try.ntmps7
  go_wp2_with fail
  refine (awake_c _).mono ?_
  rintro e w1 ⟨rfl, hb⟩
  have HB := Lib.hid hb
  clear hb
  go_wp2_with fail
  all_goals first
    | (go_ret; exact ⟨rfl, HB.out⟩)
    | (exfalso; have := H.out; omega)

theorem off_near {x t n : Int} (hf : fairB x t n = true) (hn : n ≤ 1099511627776) : offV x t n (shareV x t n) ≤ 0 ∧ -t < offV x t n (shareV x t n) := by
  obtain ⟨h1, h2, h3, h4, h5⟩ := fairB_true.1 hf
  rw [offV_yes hf, shareV_yes hf]
  have m1 : n * x ≤ 1099511627776 * 20 := Int.mul_le_mul hn h2 (by omega) (by omega)
  have m0 : 0 ≤ n * x := Int.mul_nonneg h5 (by omega)
  have d1 := Int.emod_add_mul_ediv (n * x) t
  have d2 := Int.emod_nonneg (n * x) (show t ≠ 0 by omega)
  have d3 := Int.emod_lt_of_pos (n * x) (show 0 < t by omega)
  have e1 : n * x / t * t = n * x - n * x % t := by rw [Int.mul_comm]; omega
  rw [e1]
  unfold wrap64
  omega

set_option maxHeartbeats 1000000 in
set_option maxRecDepth 100000 in
theorem loffs_c (x t n : Int) (w : World) (h1 : 1 ≤ x) (h2 : x ≤ 20) (h3 : x ≤ t) (h4 : t ≤ 1280) (h5 : 0 ≤ n) (h6 : n ≤ 1099511627776) :
    Calls Try.prog 7 #[.int .i64 x, .int .i64 t, .int .i64 n] w fun e w' => e = .returned (.bool true) ∧ Below w.heap.size w w' := by
  have f1 : fairB x t n = true := fairB_true.2 ⟨by omega, by omega, by omega, by omega, by omega⟩
  obtain ⟨c1, c2⟩ := off_near f1 h6
  have k1 := Lib.hid (fun W => share_c x t n W (by omega))
  have k2 := Lib.hid (fun W => off_c x t n (shareV x t n) W)
  generalize shareV x t n = a1 at k1 k2 c1 c2
  generalize offV x t n a1 = a2 at k2 c1 c2
  clear f1
  go_enter Try.func7, Try.ntmps7
  go_wp2_with fail
  refine (awake_c _).mono ?_
  rintro e w1 ⟨rfl, hb⟩
  have HB := Lib.hid hb
  clear hb
  go_wp2_with fail
  refine (k1.out _).mono ?_
  rintro e w2 ⟨rfl, q1, rfl⟩
  go_wp2_with fail
  refine (k2.out _).mono ?_
  rintro e w2 ⟨rfl, rfl⟩
  go_wp2_with fail
  go_ret
  exact ⟨ret_b (by simp), below_drewN HB.out _⟩

theorem loffs_any (x t n : Int) (w : World) :
    Calls Try.prog 7 #[.int .i64 x, .int .i64 t, .int .i64 n] w fun e w' => e = .returned (.bool true) ∧ Below w.heap.size w w' := by
  by_cases h : x < 1 ∨ 20 < x ∨ t < x ∨ 1280 < t ∨ n < 0 ∨ 1099511627776 < n
  · exact loffs_no x t n w h
  · exact loffs_c x t n w (by omega) (by omega) (by omega) (by omega) (by omega) (by omega)
end Go.Proofs.Ytaeondpeaabfeaa
