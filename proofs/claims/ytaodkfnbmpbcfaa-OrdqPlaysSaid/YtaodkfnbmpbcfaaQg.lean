/- Rows of the reference: Put into a row that has none yet; Put. -/
import Derived.Test.YtaodkfnbmpbcfaaQf
namespace Go.Proofs.Ytaodkfnbmpbcfaa
open Go.RowKit

theorem nil_post {w w1 wL w6 : World} {b g6 c6 : Nat} {most : Int} {x : RI} (h0 : IsRow w b most (.slice none 0 0) []) (hb1 : Below w.heap.size w w1) (hbL : Below w1.heap.size w1 wL) (hrow : IsRow w1 b most (.slice none 0 0) [])
    (hB : Below wL.heap.size wL w6) (ho : w6.ownsRow wL.heap.size 38 3 (.slice (some ⟨g6, 0, none⟩) (0 + 1 + 0) c6) (0 + 1 + 0) ([] ++ [] ++ encR x ++ [])) :
    ∃ v', IsRow (w6.setCell ⟨b, 1, none⟩ (.slice (some ⟨g6, 0, none⟩) (0 + 1 + 0) c6)) b most v' (insT [] x) ∧ (∀ j, v'.ownBlock = some j → w.heap.size ≤ j) ∧ Trip (fun j => j = b) w (fun j => j = b) (w6.setCell ⟨b, 1, none⟩ (.slice (some ⟨g6, 0, none⟩) (0 + 1 + 0) c6)) := by
  have hbl : b < w.heap.size := (Array.getElem?_eq_some_iff.1 h0.1).1
  have hs1 := hb1.size
  have hsL := hbL.size
  have e : flatR (insT [] x) = [] ++ [] ++ encR x ++ [] := by simp [insT, flatR]
  rw [← e] at ho
  obtain ⟨v', h1, h2, h3⟩ := row_post (w2 := wL) (most := most) (b := b) rfl ((hbL.block b (by omega)).trans hrow.1) hB ho rfl
  refine ⟨v', h1, fun j hj => by have := h2 j hj; omega, ?_⟩
  have hbw : Below w.heap.size w wL := hb1.trans (hbL.mono hs1)
  have ht : Trip (fun j => j = b) w (fun j => j = b) wL := ⟨hbw.os, hbw.tape, hbw.output, hbw.size, fun k hk _ => hbw.block k hk, fun _ h => .inl h, fun k hk => by have := hbw.size; omega⟩
  exact ht.trans h3

set_option linter.unusedSimpArgs false in
set_option maxRecDepth 100000 in
set_option maxHeartbeats 4000000 in
theorem rowPut_nil (b : Nat) (most : Int) (x : RI) (w : World) (h : IsRow w b most (.slice none 0 0) []) (hf : 0 < most) :
    Calls Try.prog 9 #[.pointer (some ⟨b, 0, none⟩), .agg (encR x).toArray] w fun e w' => e = .returned (.int .i64 0) ∧ ∃ v', IsRow w' b most v' (insT [] x) ∧ (∀ j, v'.ownBlock = some j → w.heap.size ≤ j) ∧ Trip (fun j => j = b) w (fun j => j = b) w' := by
  have K1 := Lib.hid (fun (o : Obj) => rowAt_c b most x.2.2 _ [] (w.alloc o) (h.alloc o) (by decide))
  simp only [atR] at K1
  have hbl : b < w.heap.size := (Array.getElem?_eq_some_iff.1 h.1).1
  obtain ⟨x0, x1, x2⟩ := x
  obtain ⟨w1, hw1⟩ : ∃ w1, w.alloc (.cells #[.int .i64 x0, .int .i64 x1, .int .i64 x2] 38) = w1 := ⟨_, rfl⟩
  have hb1 : Below w.heap.size w w1 := by rw [← hw1]; exact (Below.refl _ w).alloc (Nat.le_refl _) _
  have hs1 : w1.heap.size = w.heap.size + 1 := by rw [← hw1]; simp
  have hx1 : w1.heap[w.heap.size]? = some (.cells #[.int .i64 x0, .int .i64 x1, .int .i64 x2] 38 (0, 0)) := by rw [← hw1]; exact World.alloc_heap_new _ _
  have hrow1 := below_row h hb1
  have q0 : ∀ w', Below w1.heap.size w1 w' → w'.cell? ⟨b, 0, none⟩ = some (.int .i64 most) ∧ w'.cell? ⟨b, 1, none⟩ = some (.slice none 0 0) ∧ w'.cell? ⟨w.heap.size, 0, none⟩ = some (.int .i64 x0) ∧ w'.cell? ⟨w.heap.size, 1, none⟩ = some (.int .i64 x1) ∧ w'.cell? ⟨w.heap.size, 2, none⟩ = some (.int .i64 x2) := fun w' hb => by
    have e1 := (hb.block b (by omega)).trans hrow1.1
    have e2 := (hb.block w.heap.size (by omega)).trans hx1
    exact ⟨by simp [World.cell?, e1], by simp [World.cell?, e1], by simp [World.cell?, e2], by simp [World.cell?, e2], by simp [World.cell?, e2]⟩
  have F0 : Hid (∀ w', Below w1.heap.size w1 w' → w'.frozen? ⟨b, 1, none⟩ = false) := Lib.hid (fun w' hb => by
    have e1 := (hb.block b (by omega)).trans hrow1.1
    simp [World.frozen?, e1])
  have Q0 := Lib.hid q0
  have HROW := Lib.hid hrow1
  have HB1 := Lib.hid hb1
  have HH := Lib.hid h
  simp only [encR] at K1 ⊢
  have hd : decide (most ≤ 0) = false := decide_eq_false (by omega)
  have HW1 := Lib.hid hw1
  clear h hrow1 hx1 q0 hb1 hs1 hw1
  go_enter Try.func9, Try.ntmps9
  go_wp2_with fail
  refine (K1.out _).mono ?_
  rintro e w' ⟨rfl, rfl⟩
  rw [HW1.out]
  obtain ⟨a0, a1, a2, a3, a4⟩ := Q0.out w1 (Below.refl _ w1)
  clear K1
  go_wp2_with fail
  go_still (by kernel_rfl)
  go_wp2_with fail
  clear a0 a1 a2 a3 a4
  go_loopw [5] (fun i wr => i = .int .i64 0 ∧ Hid (Below w1.heap.size w1 wr)) (fun _ _ => 0)
  case atStart => exact ⟨rfl, Lib.hid (Below.refl _ w1).drew⟩
  case round =>
    obtain ⟨rfl, HK⟩ := hrel
    obtain ⟨a0, a1, a2, a3, a4⟩ := Q0.out wr HK.out
    go_wp2_with fail
    go_big_quiet (fail)
    rename_i nq
    obtain ⟨wL, hwL⟩ : ∃ wL, wr.drewN nq = wL := ⟨_, rfl⟩
    have HBL : Hid (Below w1.heap.size w1 wL) := Lib.hid (by rw [← hwL]; exact below_drewN HK.out nq)
    rw [hwL]
    clear hwL HK a0 a1 a2 a3 a4
    go_wp2_with fail
    obtain ⟨i0, hi, hz0, hz1, hz2⟩ := info_parts info_ri
    have SS : Hid (∀ w', Below wL.heap.size wL w' → w'.cell? ⟨b, 1, none⟩ = some (.slice none 0 0) ∧ w'.cell? ⟨w.heap.size, 0, none⟩ = some (.int .i64 x0) ∧ w'.cell? ⟨w.heap.size, 1, none⟩ = some (.int .i64 x1) ∧ w'.cell? ⟨w.heap.size, 2, none⟩ = some (.int .i64 x2)) := Lib.hid (fun w' hb => (Q0.out w' (HBL.out.trans (hb.mono HBL.out.size))).2)
    have HB0 : Hid (Below wL.heap.size wL wL.drew) := Lib.hid (Below.refl _ wL).drew
    refine wp_region_phase 19 (by kernel_rfl) (by kernel_rfl) (fun w' => w'.cell? ⟨b, 1, none⟩ = some (.slice none 0 0) ∧ w'.cell? ⟨w.heap.size, 0, none⟩ = some (.int .i64 x0) ∧ w'.cell? ⟨w.heap.size, 1, none⟩ = some (.int .i64 x1) ∧ w'.cell? ⟨w.heap.size, 2, none⟩ = some (.int .i64 x2)) ?_
    refine wpAnyH_take (i := 0) (v := .pointer (some ⟨b, 0, none⟩)) rfl (by kernel_rfl) (by kernel_rfl) (by kernel_rfl) (fun _ _ _ h => h) (Or.inl ⟨by rfl, ?_⟩) (SS.out _ HB0.out) ?_
    · rintro w' ⟨s1, s2, s3, s4⟩; go_simp
    simp only [Act.put, List.setIfInBounds_toArray, List.set_cons_zero, List.set_cons_succ]
    refine wpAnyH_take (i := 2) (v := .pointer (some ⟨b, 0, none⟩)) rfl (by kernel_rfl) (by kernel_rfl) (by kernel_rfl) (fun _ _ _ h => h) (Or.inl ⟨by rfl, ?_⟩) (SS.out _ HB0.out) ?_
    · rintro w' ⟨s1, s2, s3, s4⟩; go_simp
    simp only [Act.put, List.setIfInBounds_toArray, List.set_cons_zero, List.set_cons_succ]
    refine wpAnyH_take (i := 3) (v := .pointer (some ⟨b, 0, none⟩)) rfl (by kernel_rfl) (by kernel_rfl) (by kernel_rfl) (fun _ _ _ h => h) (Or.inl ⟨by rfl, ?_⟩) (SS.out _ HB0.out) ?_
    · rintro w' ⟨s1, s2, s3, s4⟩; go_simp
    simp only [Act.put, List.setIfInBounds_toArray, List.set_cons_zero, List.set_cons_succ]
    refine wpAnyH_take (i := 4) (v := .pointer (some ⟨b, 1, none⟩)) rfl (by kernel_rfl) (by kernel_rfl) (by kernel_rfl) (fun _ _ _ h => h) (Or.inl ⟨by rfl, ?_⟩) (SS.out _ HB0.out) ?_
    · rintro w' ⟨s1, s2, s3, s4⟩; go_simp
    simp only [Act.put, List.setIfInBounds_toArray, List.set_cons_zero, List.set_cons_succ]
    refine wpAnyH_take (i := 5) (v := .slice none 0 0) rfl (by kernel_rfl) (by kernel_rfl) (by kernel_rfl) (fun _ _ _ h => h) (Or.inl ⟨by rfl, ?_⟩) (SS.out _ HB0.out) ?_
    · rintro w' ⟨s1, s2, s3, s4⟩; go_simp
    simp only [Act.put, List.setIfInBounds_toArray, List.set_cons_zero, List.set_cons_succ]
    refine wpAnyH_take (i := 6) (v := .int .i64 0) rfl (by kernel_rfl) (by kernel_rfl) (by kernel_rfl) (fun _ _ _ h => h) (Or.inl ⟨by rfl, ?_⟩) (SS.out _ HB0.out) ?_
    · rintro w' ⟨s1, s2, s3, s4⟩; go_simp
    simp only [Act.put, List.setIfInBounds_toArray, List.set_cons_zero, List.set_cons_succ]
    refine wpAnyH_take (i := 7) (v := .slice none 0 0) rfl (by kernel_rfl) (by kernel_rfl) (by kernel_rfl) (fun _ _ _ h => h) (Or.inl ⟨by rfl, ?_⟩) (SS.out _ HB0.out) ?_
    · rintro w' ⟨s1, s2, s3, s4⟩; go_simp
    simp only [Act.put, List.setIfInBounds_toArray, List.set_cons_zero, List.set_cons_succ]
    refine wpAnyH_take (i := 9) (v := .agg #[.int .i64 x0, .int .i64 x1, .int .i64 x2]) rfl (by kernel_rfl) (by kernel_rfl) (by kernel_rfl) (fun _ _ _ h => h) (Or.inl ⟨by rfl, ?_⟩) (SS.out _ HB0.out) ?_
    · rintro w' ⟨s1, s2, s3, s4⟩; go_simp
    simp only [Act.put, List.setIfInBounds_toArray, List.set_cons_zero, List.set_cons_succ]
    refine wpAnyH_take (i := 12) (v := .pointer (some ⟨b, 0, none⟩)) rfl (by kernel_rfl) (by kernel_rfl) (by kernel_rfl) (fun _ _ _ h => h) (Or.inl ⟨by rfl, ?_⟩) (SS.out _ HB0.out) ?_
    · rintro w' ⟨s1, s2, s3, s4⟩; go_simp
    simp only [Act.put, List.setIfInBounds_toArray, List.set_cons_zero, List.set_cons_succ]
    refine wpAnyH_take (i := 13) (v := .pointer (some ⟨b, 0, none⟩)) rfl (by kernel_rfl) (by kernel_rfl) (by kernel_rfl) (fun _ _ _ h => h) (Or.inl ⟨by rfl, ?_⟩) (SS.out _ HB0.out) ?_
    · rintro w' ⟨s1, s2, s3, s4⟩; go_simp
    simp only [Act.put, List.setIfInBounds_toArray, List.set_cons_zero, List.set_cons_succ]
    refine wpAnyH_take (i := 14) (v := .pointer (some ⟨b, 1, none⟩)) rfl (by kernel_rfl) (by kernel_rfl) (by kernel_rfl) (fun _ _ _ h => h) (Or.inl ⟨by rfl, ?_⟩) (SS.out _ HB0.out) ?_
    · rintro w' ⟨s1, s2, s3, s4⟩; go_simp
    simp only [Act.put, List.setIfInBounds_toArray, List.set_cons_zero, List.set_cons_succ]
    refine wpAnyH_take (i := 15) (v := .slice none 0 0) rfl (by kernel_rfl) (by kernel_rfl) (by kernel_rfl) (fun _ _ _ h => h) (Or.inl ⟨by rfl, ?_⟩) (SS.out _ HB0.out) ?_
    · rintro w' ⟨s1, s2, s3, s4⟩; go_simp
    simp only [Act.put, List.setIfInBounds_toArray, List.set_cons_zero, List.set_cons_succ]
    refine wpAnyH_take (i := 16) (v := .int .i64 0) rfl (by kernel_rfl) (by kernel_rfl) (by kernel_rfl) (fun _ _ _ h => h) (Or.inl ⟨by rfl, ?_⟩) (SS.out _ HB0.out) ?_
    · rintro w' ⟨s1, s2, s3, s4⟩; go_simp
    simp only [Act.put, List.setIfInBounds_toArray, List.set_cons_zero, List.set_cons_succ]
    refine wpAnyH_take (i := 17) (v := .slice none 0 0) rfl (by kernel_rfl) (by kernel_rfl) (by kernel_rfl) (fun _ _ _ h => h) (Or.inl ⟨by rfl, ?_⟩) (SS.out _ HB0.out) ?_
    · rintro w' ⟨s1, s2, s3, s4⟩; go_simp
    simp only [Act.put, List.setIfInBounds_toArray, List.set_cons_zero, List.set_cons_succ]
    refine wpAnyH_ready (rs := [1, 10]) (by kernel_rfl) (by simp) ?_
    refine AllReadyH.cons rfl (fun K hK => ?_) (AllReadyH.cons rfl (fun K hK => ?_) AllReadyH.nil)
    · go_simp
      have hBe : Below wL.heap.size wL (wL.alloc (.cells #[] 38)).drew := ((Below.refl _ wL).alloc (Nat.le_refl _) _).drew
      refine hK.out _ _ (SS.out _ hBe) (fun _ => ?_)
      clear hK
      refine wpAnyH_ready (rs := [8, 10]) (by kernel_rfl) (by simp) ?_
      refine AllReadyH.cons rfl (fun K hK => ?_) (AllReadyH.cons rfl (fun K hK => ?_) AllReadyH.nil)
      · refine stepw_src (by rfl) _ _ 27 (by rfl) wL.heap.size 38 i0 (.agg #[.int .i64 0, .int .i64 0, .int .i64 0]) 3 24 Try.underlying27 hi hz0 hz1 hz2 (by rfl) (by omega) wL.heap.size 0 0 _ (by rfl) (own_empty wL _) none 0 0 [] (by rfl) rfl (.inl ⟨rfl, rfl, rfl, rfl⟩) (fun _ h => by cases h) (by unfold maxLen; omega) (by omega) (hBe).size ?_
        intro g3 c3 w3 ho3 hg3 hw3
        rw [Nat.zero_add] at ho3 ⊢
        have hB3 : Below wL.heap.size wL w3 := grown_below hBe hg3 (Nat.le_refl _) (hBe).size
        refine hK.out _ _ (SS.out _ hB3) (fun _ => ?_)
        clear hK
        refine wpAnyH_ready (rs := [10]) (by kernel_rfl) (by simp) ?_
        refine AllReadyH.cons rfl (fun K hK => ?_) AllReadyH.nil
        go_simp
        have hBx : Below wL.heap.size wL (w3.alloc (.cells #[.int .i64 x0, .int .i64 x1, .int .i64 x2] 38)) := (hB3).alloc (hB3).size _
        refine hK.out _ _ (SS.out _ hBx) (fun _ => ?_)
        clear hK
        refine wpAnyH_ready (rs := [11]) (by kernel_rfl) (by simp) ?_
        refine AllReadyH.cons rfl (fun K hK => ?_) AllReadyH.nil
        refine stepw_src (by rfl) _ _ 27 (by rfl) wL.heap.size 38 i0 (.agg #[.int .i64 0, .int .i64 0, .int .i64 0]) 3 24 Try.underlying27 hi hz0 hz1 hz2 (by rfl) (by omega) g3 c3 0 _ (by rfl) (ho3.alloc _) (some ⟨w3.heap.size, 0, none⟩) 1 1 (encR (x0, x1, x2)) (by rfl) rfl (.inr ⟨_, rfl, encR_at (World.alloc_heap_new w3 _)⟩) (encR1 _) (by unfold maxLen; omega) (by omega) (hBx).size ?_
        intro g5 c5 w5 ho5 hg5 hw5
        have hB5 : Below wL.heap.size wL w5 := grown_below hBx hg5 (World.ownsRow.lt ho3 _ rfl).1 (hBx).size
        refine hK.out _ _ (SS.out _ hB5) (fun _ => ?_)
        clear hK
        refine wpAnyH_ready (rs := [18]) (by kernel_rfl) (by simp) ?_
        refine AllReadyH.cons rfl (fun K hK => ?_) AllReadyH.nil
        refine stepw_src (by rfl) _ _ 27 (by rfl) wL.heap.size 38 i0 (.agg #[.int .i64 0, .int .i64 0, .int .i64 0]) 3 24 Try.underlying27 hi hz0 hz1 hz2 (by rfl) (by omega) g5 c5 (0 + 1) _ (by rfl) ho5 none 0 0 [] (by rfl) rfl (.inl ⟨rfl, rfl, rfl, rfl⟩) (fun _ h => by cases h) (by unfold maxLen; omega) (by omega) (hB5).size ?_
        intro g6 c6 w6 ho6 hg6 hw6
        have hB6 : Below wL.heap.size wL w6 := grown_below hB5 hg6 (World.ownsRow.lt ho5 _ rfl).1 (hB5).size
        refine hK.out _ _ (SS.out _ hB6) (fun _ => ?_)
        clear hK
        refine wpAnyH_done (by kernel_rfl) ?_ _
        refine phase_tail (by kernel_rfl) ?_
        have post := nil_post HH.out HB1.out HBL.out HROW.out hB6 ho6
        simp only [Nat.zero_add, Nat.add_zero] at post
        have POST := Lib.hid post
        clear post
        have f6 := F0.out w6 (HBL.out.trans (hB6.mono HBL.out.size))
        have s6 := (SS.out _ hB6).1
        clear hB6 hB5 ho6 ho5 hg6 hg5 hw6 hw5
        simp only [List.drop_succ_cons, List.drop_zero]
        go_wp2_with fail
        go_ret
        exact ⟨rfl, POST.out⟩
      · go_simp
        have hBx : Below wL.heap.size wL ((wL.alloc (.cells #[] 38)).drew.alloc (.cells #[.int .i64 x0, .int .i64 x1, .int .i64 x2] 38)) := (hBe).alloc (hBe).size _
        refine hK.out _ _ (SS.out _ hBx) (fun _ => ?_)
        clear hK
        refine wpAnyH_ready (rs := [8]) (by kernel_rfl) (by simp) ?_
        refine AllReadyH.cons rfl (fun K hK => ?_) AllReadyH.nil
        refine stepw_src (by rfl) _ _ 27 (by rfl) wL.heap.size 38 i0 (.agg #[.int .i64 0, .int .i64 0, .int .i64 0]) 3 24 Try.underlying27 hi hz0 hz1 hz2 (by rfl) (by omega) wL.heap.size 0 0 _ (by rfl) ((own_empty wL _).alloc _) none 0 0 [] (by rfl) rfl (.inl ⟨rfl, rfl, rfl, rfl⟩) (fun _ h => by cases h) (by unfold maxLen; omega) (by omega) (hBx).size ?_
        intro g3 c3 w3 ho3 hg3 hw3
        rw [Nat.zero_add] at ho3 ⊢
        have hB3 : Below wL.heap.size wL w3 := grown_below hBx hg3 (Nat.le_refl _) (hBx).size
        refine hK.out _ _ (SS.out _ hB3) (fun _ => ?_)
        clear hK
        have ex3 : w3.heap[wL.heap.size + 1]? = some (.cells #[.int .i64 x0, .int .i64 x1, .int .i64 x2] 38 (0, 0)) := (grown_other hg3 (by show _ < (World.alloc _ _).heap.size; rw [World.size_alloc]; show _ < (wL.alloc _).heap.size + 1; rw [World.size_alloc]; omega) (by omega)).trans (alloc_at' _ (by show _ = (wL.alloc _).heap.size; rw [World.size_alloc]))
        refine wpAnyH_ready (rs := [11]) (by kernel_rfl) (by simp) ?_
        refine AllReadyH.cons rfl (fun K hK => ?_) AllReadyH.nil
        refine stepw_src (by rfl) _ _ 27 (by rfl) wL.heap.size 38 i0 (.agg #[.int .i64 0, .int .i64 0, .int .i64 0]) 3 24 Try.underlying27 hi hz0 hz1 hz2 (by rfl) (by omega) g3 c3 0 _ (by rfl) ho3 (some ⟨wL.heap.size + 1, 0, none⟩) 1 1 (encR (x0, x1, x2)) (by rfl) rfl (.inr ⟨_, rfl, encR_at ex3⟩) (encR1 _) (by unfold maxLen; omega) (by omega) (hB3).size ?_
        intro g5 c5 w5 ho5 hg5 hw5
        have hB5 : Below wL.heap.size wL w5 := grown_below hB3 hg5 (World.ownsRow.lt ho3 _ rfl).1 (hB3).size
        refine hK.out _ _ (SS.out _ hB5) (fun _ => ?_)
        clear hK
        refine wpAnyH_ready (rs := [18]) (by kernel_rfl) (by simp) ?_
        refine AllReadyH.cons rfl (fun K hK => ?_) AllReadyH.nil
        refine stepw_src (by rfl) _ _ 27 (by rfl) wL.heap.size 38 i0 (.agg #[.int .i64 0, .int .i64 0, .int .i64 0]) 3 24 Try.underlying27 hi hz0 hz1 hz2 (by rfl) (by omega) g5 c5 (0 + 1) _ (by rfl) ho5 none 0 0 [] (by rfl) rfl (.inl ⟨rfl, rfl, rfl, rfl⟩) (fun _ h => by cases h) (by unfold maxLen; omega) (by omega) (hB5).size ?_
        intro g6 c6 w6 ho6 hg6 hw6
        have hB6 : Below wL.heap.size wL w6 := grown_below hB5 hg6 (World.ownsRow.lt ho5 _ rfl).1 (hB5).size
        refine hK.out _ _ (SS.out _ hB6) (fun _ => ?_)
        clear hK
        refine wpAnyH_done (by kernel_rfl) ?_ _
        refine phase_tail (by kernel_rfl) ?_
        have post := nil_post HH.out HB1.out HBL.out HROW.out hB6 ho6
        simp only [Nat.zero_add, Nat.add_zero] at post
        have POST := Lib.hid post
        clear post
        have f6 := F0.out w6 (HBL.out.trans (hB6.mono HBL.out.size))
        have s6 := (SS.out _ hB6).1
        clear hB6 hB5 ho6 ho5 hg6 hg5 hw6 hw5
        simp only [List.drop_succ_cons, List.drop_zero]
        go_wp2_with fail
        go_ret
        exact ⟨rfl, POST.out⟩
    · go_simp
      have hBx : Below wL.heap.size wL (wL.alloc (.cells #[.int .i64 x0, .int .i64 x1, .int .i64 x2] 38)).drew := ((Below.refl _ wL).alloc (Nat.le_refl _) _).drew
      refine hK.out _ _ (SS.out _ hBx) (fun _ => ?_)
      clear hK
      refine wpAnyH_ready (rs := [1]) (by kernel_rfl) (by simp) ?_
      refine AllReadyH.cons rfl (fun K hK => ?_) AllReadyH.nil
      go_simp
      have hBe : Below wL.heap.size wL ((wL.alloc (.cells #[.int .i64 x0, .int .i64 x1, .int .i64 x2] 38)).drew.alloc (.cells #[] 38)) := (hBx).alloc (hBx).size _
      refine hK.out _ _ (SS.out _ hBe) (fun _ => ?_)
      clear hK
      refine wpAnyH_ready (rs := [8]) (by kernel_rfl) (by simp) ?_
      refine AllReadyH.cons rfl (fun K hK => ?_) AllReadyH.nil
      refine stepw_src (by rfl) _ _ 27 (by rfl) wL.heap.size 38 i0 (.agg #[.int .i64 0, .int .i64 0, .int .i64 0]) 3 24 Try.underlying27 hi hz0 hz1 hz2 (by rfl) (by omega) (wL.heap.size + 1) 0 0 _ (by rfl) (own_empty' (by show _ = (wL.alloc _).heap.size; rw [World.size_alloc]) (by omega)) none 0 0 [] (by rfl) rfl (.inl ⟨rfl, rfl, rfl, rfl⟩) (fun _ h => by cases h) (by unfold maxLen; omega) (by omega) (hBe).size ?_
      intro g3 c3 w3 ho3 hg3 hw3
      rw [Nat.zero_add] at ho3 ⊢
      have hB3 : Below wL.heap.size wL w3 := grown_below hBe hg3 (by omega) (hBe).size
      refine hK.out _ _ (SS.out _ hB3) (fun _ => ?_)
      clear hK
      have ex3 : w3.heap[wL.heap.size]? = some (.cells #[.int .i64 x0, .int .i64 x1, .int .i64 x2] 38 (0, 0)) := (grown_other hg3 (by show _ < (World.alloc _ _).heap.size; rw [World.size_alloc]; show _ < (wL.alloc _).heap.size + 1; rw [World.size_alloc]; omega) (by omega)).trans ((Below.heap_alloc _ _ _ (by show _ < (wL.alloc _).heap.size; rw [World.size_alloc]; omega)).trans (World.alloc_heap_new wL _))
      refine wpAnyH_ready (rs := [11]) (by kernel_rfl) (by simp) ?_
      refine AllReadyH.cons rfl (fun K hK => ?_) AllReadyH.nil
      refine stepw_src (by rfl) _ _ 27 (by rfl) wL.heap.size 38 i0 (.agg #[.int .i64 0, .int .i64 0, .int .i64 0]) 3 24 Try.underlying27 hi hz0 hz1 hz2 (by rfl) (by omega) g3 c3 0 _ (by rfl) ho3 (some ⟨wL.heap.size, 0, none⟩) 1 1 (encR (x0, x1, x2)) (by rfl) rfl (.inr ⟨_, rfl, encR_at ex3⟩) (encR1 _) (by unfold maxLen; omega) (by omega) (hB3).size ?_
      intro g5 c5 w5 ho5 hg5 hw5
      have hB5 : Below wL.heap.size wL w5 := grown_below hB3 hg5 (World.ownsRow.lt ho3 _ rfl).1 (hB3).size
      refine hK.out _ _ (SS.out _ hB5) (fun _ => ?_)
      clear hK
      refine wpAnyH_ready (rs := [18]) (by kernel_rfl) (by simp) ?_
      refine AllReadyH.cons rfl (fun K hK => ?_) AllReadyH.nil
      refine stepw_src (by rfl) _ _ 27 (by rfl) wL.heap.size 38 i0 (.agg #[.int .i64 0, .int .i64 0, .int .i64 0]) 3 24 Try.underlying27 hi hz0 hz1 hz2 (by rfl) (by omega) g5 c5 (0 + 1) _ (by rfl) ho5 none 0 0 [] (by rfl) rfl (.inl ⟨rfl, rfl, rfl, rfl⟩) (fun _ h => by cases h) (by unfold maxLen; omega) (by omega) (hB5).size ?_
      intro g6 c6 w6 ho6 hg6 hw6
      have hB6 : Below wL.heap.size wL w6 := grown_below hB5 hg6 (World.ownsRow.lt ho5 _ rfl).1 (hB5).size
      refine hK.out _ _ (SS.out _ hB6) (fun _ => ?_)
      clear hK
      refine wpAnyH_done (by kernel_rfl) ?_ _
      refine phase_tail (by kernel_rfl) ?_
      have post := nil_post HH.out HB1.out HBL.out HROW.out hB6 ho6
      simp only [Nat.zero_add, Nat.add_zero] at post
      have POST := Lib.hid post
      clear post
      have f6 := F0.out w6 (HBL.out.trans (hB6.mono HBL.out.size))
      have s6 := (SS.out _ hB6).1
      clear hB6 hB5 ho6 ho5 hg6 hg5 hw6 hw5
      simp only [List.drop_succ_cons, List.drop_zero]
      go_wp2_with fail
      go_ret
      exact ⟨rfl, POST.out⟩

/-- w.Put(x). -/
theorem rowPut_c (b : Nat) (most : Int) (x : RI) (v : Value) (l : List RI) (w : World) (h : IsRow w b most v l) (hl : l.length ≤ 1000000) (hm : 0 < most) :
    Calls Try.prog 9 #[.pointer (some ⟨b, 0, none⟩), .agg (encR x).toArray] w fun e w' => e = .returned (.int .i64 (putT most l x).1) ∧ ∃ v', IsRow w' b most v' (putT most l x).2 ∧ (∀ j, v'.ownBlock = some j → v.ownBlock = some j ∨ w.heap.size ≤ j) ∧ Trip (fun j => j = b) w (fun j => j = b) w' := by
  unfold putT
  rcases keyV_at (l := l) (id := x.2.2) with ⟨h1, k, y, h2, _⟩ | ⟨h1, h2, h3⟩
  · rw [h1, if_pos rfl]
    refine (rowPut_old b most x v l w h hl (by rw [h2]; omega)).mono ?_
    rintro e w' ⟨rfl, hr, ht⟩
    exact ⟨rfl, v, hr, fun _ hj => .inl hj, ht⟩
  · rw [h1, if_neg (by simp)]
    by_cases hf : most ≤ (l.length : Int)
    · rw [if_pos hf]
      refine (rowPut_full b most x v l w h hl h2 hf).mono ?_
      rintro e w' ⟨rfl, hr, ht⟩
      exact ⟨rfl, v, hr, fun _ hj => .inl hj, ht⟩
    · rw [if_neg hf]
      rcases h.2.1.2 with ⟨e1, e2⟩ | ⟨g, cap, cur, e1, _⟩
      · have hl0 : l = [] := List.eq_nil_of_length_eq_zero e2
        subst hl0 e1
        refine (rowPut_nil b most x w h hm).mono ?_
        rintro e w' ⟨rfl, v', hr, hn, ht⟩
        exact ⟨rfl, v', hr, fun j hj => .inr (hn j hj), ht⟩
      · subst e1
        refine (rowPut_new b g cap most x l w h hl h2 (by omega)).mono ?_
        rintro e w' ⟨rfl, v', hr, hn, ht⟩
        exact ⟨rfl, v', hr, fun j hj => .inr (hn j hj), ht⟩
end Go.Proofs.Ytaodkfnbmpbcfaa
