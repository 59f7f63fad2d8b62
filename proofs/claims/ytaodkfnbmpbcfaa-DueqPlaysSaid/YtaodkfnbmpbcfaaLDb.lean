/- DueqPlays: its loop, its walk. -/
import Derived.Test.YtaodkfnbmpbcfaaLDa
namespace Go.Proofs.Ytaodkfnbmpbcfaa
open Go.RowKit

theorem dlLoop {Q0 : Exit → Act → World → Prop} {C : Code} {a : Act} {w : World} (W : World) (A A2 : Option Addr) (c c2 n n2 d rb : Nat) (cm : Int) (l : List (List Int)) (l2 : List Int) (HN : Hid (l.length = n)) (HR : Hid (Rows W 4 A l)) (HN2 : Hid (l2.length = n2)) (HR2 : Hid (IRow .i64 W W.heap.size A2 l2)) (hn3 : n ≤ 200) (hn10 : n2 ≤ 10) (hcm : 1 ≤ cm)
    (HK : Hid (DP W w d rb cm 0 [] [] [])) (ha : a = dlF A A2 c c2 n n2 d rb (fun i => a.tmps.getD i undef) (fun i => a.tmps.getD i undef) 0) (hC : C = dbody)
    (hexit : ∀ g a' w', dlX W A A2 c c2 n n2 d rb cm g a' w' → Q0 (.exit 0) a' w') : Code.wp Try.prog (Code.loop C) Q0 a w := by
  subst hC
  refine wp_loop (dlI W A A2 c c2 n n2 d rb cm (fun i => a.tmps.getD i undef)) (dlM n) ⟨_, 0, [], Nat.zero_le _, HK, Nat.le_refl _, by simp only [List.length_nil]; omega, ha⟩ ?_
  rintro a1 w1 ⟨f, k, R, hk, HK1, hRl, hRm, rfl⟩
  exact dlRound W A A2 c c2 n n2 d rb cm _ f l l2 HN HR HN2 HR2 hn3 hn10 hcm (fun a' w' h => hexit _ a' w' h) k R hk w1 HK1 hRl hRm

theorem dp_new {W w2 : World} {d : Nat} {m : Int} (hq : DIn W w2 d m 0 [] (fun _ => False)) :
    DP W (w2.alloc (.cells #[.int .i64 m, .slice none 0 0] 29)) d w2.heap.size m 0 [] [] [] := by
  have hs := hq.frame.size
  have hb3 : Below w2.heap.size w2 (w2.alloc (.cells #[.int .i64 m, .slice none 0 0] 29)) := (Below.refl _ w2).alloc (Nat.le_refl _) _
  refine ⟨.slice none 0 0, hq.more hb3 (fun k hk => .inr ?_), ⟨World.alloc_heap_new _ _, World.ownsRow_nil _ _ _ _, by simp [Value.ownBlock]⟩, fun k hk => ?_, by simp⟩
  · rcases hk with (rfl | h) | ⟨p, hp, _⟩
    · exact ⟨Nat.le_refl _, by simp⟩
    · simp [Value.ownBlock] at h
    · cases hp
  · rcases hk with rfl | h
    · exact ⟨hs, by simp, fun ⟨p, hp, _⟩ => by cases hp⟩
    · simp [Value.ownBlock] at h

set_option maxRecDepth 1000000 in
set_option maxHeartbeats 8000000 in
theorem dueqPlays_c (most : Int) (A : Option Addr) (c : Nat) (l : List (List Int)) (A2 : Option Addr) (c2 : Nat) (l2 : List Int) (W : World) (_ : l.length ≤ c) (_ : c ≤ maxLen) (hr : Rows W 4 A l) (_ : l2.length ≤ c2) (_ : c2 ≤ maxLen) (hr2 : IRow .i64 W W.heap.size A2 l2) :
    Calls Try.prog 4 #[.int .i64 most, .slice A l.length c, .slice A2 l2.length c2] W fun e w' => e = .returned (.bool true) ∧ Below W.heap.size W w' := by
  obtain ⟨n, hn⟩ : ∃ n, l.length = n := ⟨_, rfl⟩
  obtain ⟨n2, hn2⟩ : ∃ n2, l2.length = n2 := ⟨_, rfl⟩
  have HN := Lib.hid hn
  have HR := Lib.hid hr
  have HN2 := Lib.hid hn2
  have HR2 := Lib.hid hr2
  rw [hn, hn2]
  clear hn hr hn2 hr2
  by_cases hbig : 200 < n
  · go_enter Try.func4, Try.ntmps4
    go_wp2_with fail
    refine (awake5_c W).mono ?_
    rintro e w1 ⟨rfl, hb1⟩
    have HB1 := Lib.hid hb1
    clear hb1
    go_wp2_with fail
    go_ret
    exact ⟨rfl, HB1.out⟩
  by_cases hbig2 : 10 < n2
  · have hn3' : n ≤ 200 := by omega
    go_enter Try.func4, Try.ntmps4
    go_wp2_with fail
    refine (awake5_c W).mono ?_
    rintro e w1 ⟨rfl, hb1⟩
    have HB1 := Lib.hid hb1
    clear hb1
    go_wp2_with fail
    go_ret
    exact ⟨rfl, HB1.out⟩
  have hn3 : n ≤ 200 := by omega
  have hn10 : n2 ≤ 10 := by omega
  clear hbig hbig2
  go_enter Try.func4, Try.ntmps4
  go_wp2_with fail
  refine (awake5_c W).mono ?_
  rintro e w1 ⟨rfl, hb1⟩
  have HB1 := Lib.hid hb1
  clear hb1
  go_wp2_with fail
  refine (dnew_in W w1 HB1.out most (fun _ => False) (fun _ h => h.elim)).mono ?_
  rintro e w2 ⟨d, rfl, hq, _⟩
  have HP := Lib.hid (dp_new hq)
  clear hq HB1
  have hcl := clampQ_pos most
  obtain ⟨cm, hcm⟩ : ∃ cm, clampQ most = cm := ⟨_, rfl⟩
  rw [hcm] at HP hcl
  have HCM := Lib.hid hcm
  obtain ⟨m1, hm1⟩ : ∃ m1, (if most < 1 then (1 : Int) else most) = m1 := ⟨_, rfl⟩
  have HM1 := Lib.hid hm1
  clear hcm hm1
  go_upto_if 45 with fail
  go_cut [] (fun wx => wx = w2.alloc (.cells #[.int .i64 m1, .slice none 0 0] 29))
  case first => as_aux_lemma =>
    by_cases h1 : most < 1
    · obtain rfl : m1 = 1 := by rw [← HM1.out, if_pos h1]
      go_wp2_with fail
      go_meet
      rfl
    · obtain rfl : m1 = most := by rw [← HM1.out, if_neg h1]
      go_wp2_with fail
      go_meet
      rfl
  case rest =>
  subst hcut
  go_upto_if 50 with fail
  go_cut [] (fun wx => Hid (DP W wx d w2.heap.size cm 0 [] [] []))
  case first => as_aux_lemma =>
    by_cases h2 : 4096 < most
    · obtain rfl : cm = 4096 := by rw [← HCM.out]; unfold clampQ; rw [if_neg (by omega), if_pos h2]
      go_wp2_with fail
      go_meet
      exact HP
    · obtain rfl : cm = m1 := by rw [← HCM.out, ← HM1.out]; unfold clampQ; rw [if_neg h2]
      go_wp2_with fail
      go_meet
      exact HP
  case rest =>
  go_wp2_with fail
  refine dlLoop W A A2 c c2 n n2 d w2.heap.size cm l l2 HN HR HN2 HR2 hn3 hn10 (by omega) hcut (by kernel_rfl) (by kernel_rfl) ?_
  rintro g a' w' ⟨⟨S, R, hP, hL⟩, f, k, rfl⟩
  unfold dlF
  clear HP hcut
  have PD := Lib.hid hP.drew
  obtain ⟨u, hu, hR⟩ := hP.row
  obtain ⟨A1, c1, rfl⟩ := hR.form
  have SD : w'.drew.cell? ⟨w2.heap.size, 1, none⟩ = some (.slice A1 R.length c1) := hu
  have SUB := Lib.hid (fun (w : World) (v : Value) (h : DP W w d w2.heap.size cm S R R []) => h.rowv (v := v))
  obtain ⟨m, hm⟩ : ∃ m, R.length = m := ⟨_, rfl⟩
  rw [hm] at SD
  have HMM := Lib.hid hm
  clear hu hR hP hm
  go_wp2_with fail
  go_region_held3 (fun w' => w'.cell? ⟨w2.heap.size, 1, none⟩ = some (.slice A1 m c1)) (first | exact S2 | exact S1 | exact SD)
    (first
      | (go_at_call 31; refine (elist PD.out hL).mono ?_; rintro e x1 ⟨v1, rfl, hM1, hP1, hb1⟩; have P1 := Lib.hid hP1; have S1 := (hb1.cell (cell_lt SD)).trans SD; have M1 := Lib.hid hM1; clear hM1 hb1 hP1)
      | (go_at_call 30; refine (same5_c _ _ R _ (base_zero M1.out) (SUB.out _ _ P1.out S1).sub hL).mono ?_; rintro e x2 ⟨rfl, n2', rfl⟩; have FB := Lib.hid (P1.out.drewN n2').frame; have S2 : (x1.drewN n2').cell? ⟨w2.heap.size, 1, none⟩ = some (.slice A1 m c1) := S1))
  go_wp2_with fail
  go_ret
  exact ⟨rfl, FB.out⟩
end Go.Proofs.Ytaodkfnbmpbcfaa
