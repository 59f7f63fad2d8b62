/- The walk of the law WeightKnown: it returns true. -/
import Derived.Test.YtaeondpeaabfeaaGc
namespace Go.Proofs.Ytaeondpeaabfeaa
open Go.RowKit Go.Sort

theorem total_long (A : Option Addr) (n c : Nat) (w : World) (h : 64 < n) : Calls Try.prog 12 #[.slice A n c] w fun e w' => e = .returned (.tuple #[.int .i64 0, .bool false]) ∧ w = w' := by
  go_enter Try.func12, Try.ntmps12
  go_wp2
  go_ret2
  exact ⟨rfl, rfl⟩

theorem step_times (i : Int) (h1 : 1 ≤ i) (h2 : i ≤ 20) : stepV i * i = 232792560 := by
  rcases (by omega : i = 1 ∨ i = 2 ∨ i = 3 ∨ i = 4 ∨ i = 5 ∨ i = 6 ∨ i = 7 ∨ i = 8 ∨ i = 9 ∨ i = 10 ∨ i = 11 ∨ i = 12 ∨ i = 13 ∨ i = 14 ∨ i = 15 ∨ i = 16 ∨ i = 17 ∨ i = 18 ∨ i = 19 ∨ i = 20) with e | e | e | e | e | e | e | e | e | e | e | e | e | e | e | e | e | e | e | e
  all_goals
    subst e
    decide

theorem info_int' : (Try.prog.info? 3).map (fun i => (i.zero, i.size, i.bytes)) = some (some (.int .i64 0), 1, 8) := by kernel_rfl

/-- While 65 ones are laid. -/
def OnesAt (w : World) (g : Nat) (wr : World) : Prop := (∃ l : List Int, l.length = 65 ∧ RowAt wr g l) ∧ w.heap.size ≤ g ∧ g < wr.heap.size ∧ Below w.heap.size w wr
theorem OnesAt.next {w : World} {g : Nat} {wr : World} (h : OnesAt w g wr) (k : Nat) : OnesAt w g (wr.setCell ⟨g, k, none⟩ (.int .i64 1)) := by
  obtain ⟨⟨l, h1, h2⟩, h3, h4, h5⟩ := h
  exact ⟨⟨l.set k 1, by simpa using h1, h2.stored 1⟩, h3, by simpa using h4, h5.setCell (by simpa using h3) _⟩

set_option maxHeartbeats 4000000 in
set_option maxRecDepth 100000 in
theorem lknown_c (w : World) : Calls Try.prog 3 #[] w fun e w' => e = .returned (.bool true) ∧ Below w.heap.size w w' := by
  obtain ⟨i0, hi0, hz0, hz1, hz2⟩ := info_parts info_int'
  have a1 : totV [1, 20] = 21 := by decide
  have a2 : totB [1, 20] = true := by decide
  have a3 : totB [1, 21] = false := by decide
  have a4 : totV [1, 21] = 0 := by decide
  have a5 : totV [] = 0 := by decide
  have a6 : totB [] = true := by decide
  have g1 : goodB 0 = false := by decide
  have g2 : goodB 21 = false := by decide
  have s1 : stepV 0 = 0 := by decide
  have s2 : stepV (-1) = 0 := by decide
  have h1 : shareV 1 3 10 = 3 := by decide
  have h2 : shareV 3 2 10 = 0 := by decide
  have h3 : shareV 1 1281 10 = 0 := by decide
  have h4 : shareV 1 3 (-1) = 0 := by decide
  have h5 : shareV 20 20 9223372036854775807 = 9223372036854775807 := by decide
  have o1 : offV 1 3 10 3 = -1 := by rw [offV_yes (by decide)]; unfold wrap64; omega
  have o2 : offV 0 3 10 3 = 0 := offV_no (by decide)
  have K1 := Lib.hid (fun W => g1 ▸ good_c 0 W)
  have K2 := Lib.hid (fun W => g2 ▸ good_c 21 W)
  have K3 := Lib.hid (fun W => s1 ▸ step_c 0 W)
  have K4 := Lib.hid (fun W => s2 ▸ step_c (-1) W)
  have K5 := Lib.hid (fun W => h1 ▸ share_c 1 3 10 W (by omega))
  have K6 := Lib.hid (fun W => h2 ▸ share_c 3 2 10 W (by omega))
  have K7 := Lib.hid (fun W => h3 ▸ share_c 1 1281 10 W (by omega))
  have K8 := Lib.hid (fun W => h4 ▸ share_c 1 3 (-1) W (by omega))
  have K9 := Lib.hid (fun W => h5 ▸ share_c 20 20 9223372036854775807 W (by omega))
  have K10 := Lib.hid (fun W => o1 ▸ off_c 1 3 10 3 W)
  have K11 := Lib.hid (fun W => o2 ▸ off_c 0 3 10 3 W)
  have T1 : Hid (∀ (W : World) (g : Nat), g = W.heap.size → Calls Try.prog 12 #[.slice (some ⟨g, 0, none⟩) 2 2] (W.alloc (.cells #[.int .i64 1, .int .i64 20] 3)) fun e w' => e = .returned (.tuple #[.int .i64 21, .bool true]) ∧ W.alloc (.cells #[.int .i64 1, .int .i64 20] 3) = w') := Lib.hid fun W g hg => by
    subst hg
    have h := total_c (some ⟨W.heap.size, 0, none⟩) 2 2 (W.heap.size + 1) [1, 20] (W.alloc (.cells #[.int .i64 1, .int .i64 20] 3)) rfl (by omega) (IRow.lit _ _ _ _ _ _ rfl rfl (by omega))
    rw [a1, a2] at h; exact h
  have T2 : Hid (∀ (W : World) (g : Nat), g = W.heap.size → Calls Try.prog 12 #[.slice (some ⟨g, 0, none⟩) 2 2] (W.alloc (.cells #[.int .i64 1, .int .i64 21] 3)) fun e w' => e = .returned (.tuple #[.int .i64 0, .bool false]) ∧ W.alloc (.cells #[.int .i64 1, .int .i64 21] 3) = w') := Lib.hid fun W g hg => by
    subst hg
    have h := total_c (some ⟨W.heap.size, 0, none⟩) 2 2 (W.heap.size + 1) [1, 21] (W.alloc (.cells #[.int .i64 1, .int .i64 21] 3)) rfl (by omega) (IRow.lit _ _ _ _ _ _ rfl rfl (by omega))
    rw [a3, a4] at h; exact h
  have T3 : Hid (∀ W : World, Calls Try.prog 12 #[.slice none 0 0] W fun e w' => e = .returned (.tuple #[.int .i64 0, .bool true]) ∧ W = w') := Lib.hid fun W => by
    have h := total_c none 0 0 0 [] W rfl (by omega) IRow.nil
    rw [a5, a6] at h; exact h
  have N1 : Hid (∀ W : World, Calls Try.prog 15 #[.slice none 0 0, .int .i64 5] W fun e w' => e = .returned (.slice none 0 0) ∧ W = w') := Lib.hid fun W => parts_none none 0 0 [] 5 W (by simp) IRow.nil (by decide)
  have N2 : Hid (∀ (W : World) (g : Nat), g = W.heap.size → Calls Try.prog 15 #[.slice (some ⟨g, 0, none⟩) 1 1, .int .i64 (-1)] (W.alloc (.cells #[.int .i64 1] 3)) fun e w' => e = .returned (.slice none 0 0) ∧ W.alloc (.cells #[.int .i64 1] 3) = w') := Lib.hid fun W g hg => by
    subst hg
    exact parts_none (some ⟨W.heap.size, 0, none⟩) 1 (W.heap.size + 1) [1] (-1) (W.alloc (.cells #[.int .i64 1] 3)) (by simp) (IRow.lit _ _ _ _ _ _ rfl rfl (by omega)) (by decide)
  have N3 : Hid (∀ (W : World) (g : Nat), g = W.heap.size → Calls Try.prog 15 #[.slice (some ⟨g, 0, none⟩) 1 1, .int .i64 1099511627777] (W.alloc (.cells #[.int .i64 1] 3)) fun e w' => e = .returned (.slice none 0 0) ∧ W.alloc (.cells #[.int .i64 1] 3) = w') := Lib.hid fun W g hg => by
    subst hg
    exact parts_none (some ⟨W.heap.size, 0, none⟩) 1 (W.heap.size + 1) [1] 1099511627777 (W.alloc (.cells #[.int .i64 1] 3)) (by simp) (IRow.lit _ _ _ _ _ _ rfl rfl (by omega)) (by decide)
  have N4 : Hid (∀ (W : World) (g : Nat), g = W.heap.size → Calls Try.prog 15 #[.slice (some ⟨g, 0, none⟩) 3 3, .int .i64 5] (W.alloc (.cells #[.int .i64 1, .int .i64 1, .int .i64 1] 3)) (PartsRet (W.alloc (.cells #[.int .i64 1, .int .i64 1, .int .i64 1] 3)) [1, 1, 1] 5)) := Lib.hid fun W g hg => by
    subst hg
    exact parts_v (some ⟨W.heap.size, 0, none⟩) 3 3 [1, 1, 1] 5 (W.alloc (.cells #[.int .i64 1, .int .i64 1, .int .i64 1] 3)) rfl (IRow.lit _ _ _ _ _ _ rfl rfl (by simp)) (by decide)
  clear a1 a2 a3 a4 a5 a6 g1 g2 s1 s2 h1 h2 h3 h4 h5 o1 o2
  go_enter Try.func3, Try.ntmps3
  go_wp2_with fail
  refine (awake_c _).mono ?_
  rintro e w1 ⟨rfl, hbel⟩
  have HB := Lib.hid hbel
  clear hbel
  go_wp2_with fail
  go_loop [1] (fun i => ∃ k : Int, i = .int .i64 k ∧ 1 ≤ k ∧ k ≤ 21) (fun i => (21 - intOf i).toNat)
  case atStart => exact ⟨1, rfl, by omega, by omega⟩
  case round =>
    obtain ⟨k, rfl, hk1, hk2⟩ := hrel
    by_cases hlt : k ≤ 20
    · have hg := Lib.hid (fun W => good_c k W)
      rw [goodB_true.2 ⟨hk1, hlt⟩] at hg
      have hs := Lib.hid (fun W => step_c k W)
      have hm := step_times k hk1 hlt
      generalize stepV k = s at hs hm
      go_wp2_with (first
        | (go_at_call 10; refine (hg.out _).mono ?_; rintro e w' ⟨rfl, rfl⟩)
        | (go_at_call 11; refine (hs.out _).mono ?_; rintro e w' ⟨rfl, rfl⟩))
      go_round
      case rel => exact ⟨k + 1, rfl, by omega, by omega⟩
      case measure => simp [intOf]; omega
    · go_wp2_with fail
      (with_reducible refine (T1.out _ _ (by simp)).mono ?_)
      rintro e w2 ⟨rfl, rfl⟩
      go_wp2_with fail
      (with_reducible refine (T2.out _ _ (by simp)).mono ?_)
      rintro e w2 ⟨rfl, rfl⟩
      have HB2 := Lib.hid ((HB.out.alloc HB.out.size (.cells #[.int .i64 1, .int .i64 20] 3)).alloc (by have := HB.out.size; simp; omega) (.cells #[.int .i64 1, .int .i64 21] 3))
      generalize (w1.alloc (.cells #[.int .i64 1, .int .i64 20] 3)).alloc (.cells #[.int .i64 1, .int .i64 21] 3) = w2 at HB2 ⊢
      clear HB T1 T2
      have hsz := HB2.out.size
      go_wp2_with (refine wpList_make_full w2 rfl _ _ 27 rfl w.heap.size 3 i0 (.int .i64 0) 1 Try.underlying27 hi0 hz0 hz1 .i64 .i64 _ _ 65 rfl rfl (by omega) (by omega) (by rw [hz2]; omega) (by unfold maxLen; omega) hsz ?_; intro w3 hown1 hgrow1)
      (with_reducible refine (total_long _ _ _ _ (by omega)).mono ?_)
      rintro e w4 ⟨rfl, rfl⟩
      have HB3 := Lib.hid (HB2.out.grown hgrow1 hsz (by simp))
      clear hown1 hgrow1 HB2
      go_wp2_with fail
      (with_reducible refine (T3.out _).mono ?_)
      rintro e w4 ⟨rfl, rfl⟩
      have hsz3 := HB3.out.size
      clear T3
      go_wp2_with (refine wpList_make_full w3 rfl _ _ 27 rfl w.heap.size 3 i0 (.int .i64 0) 1 Try.underlying27 hi0 hz0 hz1 .i64 .i64 _ _ 65 rfl rfl (by omega) (by omega) (by rw [hz2]; omega) (by unfold maxLen; omega) hsz3 ?_; intro w4 hown1 hgrow1)
      have HO : Hid (OnesAt w w3.heap.size w4) := Lib.hid ⟨⟨_, by simp, (made_zeros hown1).rowAt (by simp)⟩, hsz3, (World.ownsRow.lt hown1 _ rfl).2, HB3.out.grown hgrow1 hsz3 (by simp)⟩
      clear hown1 hgrow1
      obtain ⟨g, hge⟩ : ∃ g, g = w3.heap.size := ⟨_, rfl⟩
      rw [← hge] at HO ⊢
      clear hge hsz3 HB3 hsz
      go_loopw [11] (fun vi wr => ∃ j : Nat, vi = .int .i64 j ∧ j ≤ 65 ∧ Hid (OnesAt w g wr)) (fun vi _ => 65 - (intOf vi).toNat)
      case atStart => exact ⟨0, rfl, by omega, HO⟩
      case round =>
        clear HO
        obtain ⟨j, rfl, hj, HI⟩ := hrel
        by_cases hlt : j < 65
        · obtain ⟨⟨l, q1, q2⟩, q3, q4, q5⟩ := HI.out
          have hc := (q2.at (show j < l.length by omega)).1
          have hf := (q2.at (show j < l.length by omega)).2
          generalize l[j]'(by omega) = z at hc
          have HX := Lib.hid (HI.out.next j)
          clear q1 q2 q3 q4 q5 HI
          clear l
          go_wp2_with fail
          go_roundw
          case rel => exact ⟨j + 1, by go_num, by omega, HX⟩
          case measure => simp [intOf]; omega
        · obtain ⟨_, _, _, q5⟩ := HI.out
          have HB4 := Lib.hid q5
          clear q5 HI
          go_wp2_with fail
          (with_reducible refine (total_long _ _ _ _ (by omega)).mono ?_)
          rintro e w5 ⟨rfl, rfl⟩
          go_wp2_with fail
          (with_reducible refine (K1.out _).mono ?_)
          rintro e w5 ⟨rfl, rfl⟩
          go_wp2_with fail
          (with_reducible refine (K2.out _).mono ?_)
          rintro e w5 ⟨rfl, rfl⟩
          go_wp2_with fail
          (with_reducible refine (K3.out _).mono ?_)
          rintro e w5 ⟨rfl, rfl⟩
          go_wp2_with fail
          (with_reducible refine (K4.out _).mono ?_)
          rintro e w5 ⟨rfl, rfl⟩
          go_wp2_with fail
          (with_reducible refine (K5.out _).mono ?_)
          rintro e w5 ⟨rfl, n0, rfl⟩
          go_wp2_with fail
          (with_reducible refine (K6.out _).mono ?_)
          rintro e w5 ⟨rfl, n1, rfl⟩
          go_wp2_with fail
          (with_reducible refine (K7.out _).mono ?_)
          rintro e w5 ⟨rfl, n2, rfl⟩
          go_wp2_with fail
          (with_reducible refine (K8.out _).mono ?_)
          rintro e w5 ⟨rfl, n3, rfl⟩
          go_wp2_with fail
          (with_reducible refine (K9.out _).mono ?_)
          rintro e w5 ⟨rfl, n4, rfl⟩
          go_wp2_with fail
          (with_reducible refine (K10.out _).mono ?_)
          rintro e w5 ⟨rfl, rfl⟩
          go_wp2_with fail
          (with_reducible refine (K11.out _).mono ?_)
          rintro e w5 ⟨rfl, rfl⟩
          have HB5 := Lib.hid (below_drewN HB4.out (n0 + n1 + n2 + n3 + n4))
          clear K1 K2 K3 K4 K5 K6 K7 K8 K9 K10 K11 HB4
          go_wp2_with fail
          generalize wr.drewN (n0 + n1 + n2 + n3 + n4) = w6 at HB5 ⊢
          (with_reducible refine (N1.out _).mono ?_)
          rintro e w7 ⟨rfl, rfl⟩
          go_wp2_with fail
          (with_reducible refine (N2.out _ _ (by simp)).mono ?_)
          rintro e w7 ⟨rfl, rfl⟩
          go_wp2_with fail
          (with_reducible refine (N3.out _ _ (by simp)).mono ?_)
          rintro e w7 ⟨rfl, rfl⟩
          have hz6 := HB5.out.size
          have HB6 := Lib.hid ((HB5.out.alloc hz6 (.cells #[.int .i64 1] 3)).alloc (by simp; omega) (.cells #[.int .i64 1] 3))
          generalize (w6.alloc (.cells #[.int .i64 1] 3)).alloc (.cells #[.int .i64 1] 3) = w8 at HB6 ⊢
          have hz8 := HB6.out.size
          clear HB5 N1 N2 N3 hz6
          go_wp2_with fail
          (with_reducible refine (N4.out _ _ (by simp)).mono ?_)
          rintro e w9 ⟨g9, rfl, q1, q2, q3, q4⟩
          rw [partsL_111] at q3
          have HB9 := Lib.hid ((HB6.out.alloc hz8 (.cells #[.int .i64 1, .int .i64 1, .int .i64 1] 3)).trans (q4.mono (by simp; omega)))
          have hl := Lib.hid (longs_eq (some ⟨g9, 0, none⟩) (some ⟨w9.heap.size, 0, none⟩) 3 3 3 (w9.heap.size + 1) [2, 2, 1] (w9.alloc (.cells #[.int .i64 2, .int .i64 2, .int .i64 1] 2)) rfl (by omega) (((q3.irow q2).alloc (Nat.le_refl _) _).more (by omega)) (IRow.lit _ _ _ _ _ _ rfl rfl (by omega)))
          have HBA := Lib.hid (HB9.out.alloc HB9.out.size (.cells #[.int .i64 2, .int .i64 2, .int .i64 1] 2))
          clear q1 q2 q3 q4 HB6 HB9 N4
          go_wp2_with fail
          refine hl.out.mono ?_
          rintro e wA ⟨rfl, q, rfl⟩
          go_wp2_with fail
          go_ret
          exact ⟨rfl, below_drewN HBA.out q⟩
end Go.Proofs.Ytaeondpeaabfeaa
