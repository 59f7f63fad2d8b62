/- OrdqPlays: its loop, its walk. -/
import Derived.Test.YtaodkfnbmpbcfaaLPa
namespace Go.Proofs.Ytaodkfnbmpbcfaa
open Go.RowKit

theorem plLoop {Q0 : Exit → Act → World → Prop} {C : Code} {a : Act} {w : World} (W : World) (A : Option Addr) (c n b rb : Nat) (cm : Int) (l : List (List Int)) (HN : Hid (l.length = n)) (HR : Hid (Rows W 3 A l)) (hn3 : n ≤ 300) (hcm : 1 ≤ cm)
    (HK : Hid (PB W w b rb cm 0 [] [] [])) (ha : a = plF A c n b rb (fun i => a.tmps.getD i undef) (fun i => a.tmps.getD i undef) 0) (hC : C = pbody)
    (hexit : ∀ g a' w', plX W A c n b rb g a' w' → Q0 (.exit 0) a' w') : Code.wp Try.prog (Code.loop C) Q0 a w := by
  subst hC
  refine wp_loop (plI W A c n b rb cm (fun i => a.tmps.getD i undef)) (plM n) ⟨_, 0, 0, [], Nat.zero_le _, HK, Int.le_refl _, by omega, Nat.le_refl _, by simp only [List.length_nil]; omega, ha⟩ ?_
  rintro a1 w1 ⟨f, k, s, R, hk, HK1, hs0, hs1, hRl, hRm, rfl⟩
  exact plRound W A c n b rb cm _ f l HN HR hn3 hcm (fun a' w' h => hexit _ a' w' h) k s R hk w1 HK1 hs0 hs1 hRl hRm

theorem p2_new {W w1 w2 : World} {m : Int} (hb : Below W.heap.size W w1) (hq : IsQ w2 (w1.heap.size + 1) m 0 [] (.slice none 0 0) w1.heap.size) (hb2 : Below w1.heap.size w1 w2) :
    PB W (w2.alloc (.cells #[.int .i64 m, .slice none 0 0] 29)) (w1.heap.size + 1) w2.heap.size m 0 [] [] [] := by
  have hs := hb.size
  have hs2 := hb2.size
  have hlt := hq.box.lt
  have hb3 : Below w2.heap.size w2 (w2.alloc (.cells #[.int .i64 m, .slice none 0 0] 29)) := (Below.refl _ w2).alloc (Nat.le_refl _) _
  refine ⟨⟨_, _, .slice none 0 0, isQ_below hq hb3, ⟨World.alloc_heap_new _ _, World.ownsRow_nil _ _ _ _, by simp [Value.ownBlock]⟩, ?_, ?_, (hb.trans (hb2.mono hs)).trans (hb3.mono (by omega)), fun _ h => by obtain ⟨p, hp, _⟩ := h; cases hp⟩, by simp⟩
  · rintro k (rfl | rfl | h)
    · omega
    · omega
    · simp [Value.ownBlock] at h
  · rintro k (rfl | h)
    · refine ⟨by omega, by simp, ?_⟩
      rintro (h | h | h)
      · omega
      · omega
      · simp [Value.ownBlock] at h
    · simp [Value.ownBlock] at h

set_option maxRecDepth 1000000 in
set_option maxHeartbeats 8000000 in
theorem ordqPlays_c (most : Int) (A : Option Addr) (c : Nat) (l : List (List Int)) (W : World) (_ : l.length ≤ c) (_ : c ≤ maxLen) (hr : Rows W 3 A l) :
    Calls Try.prog 3 #[.int .i64 most, .slice A l.length c] W fun e w' => e = .returned (.bool true) ∧ Below W.heap.size W w' := by
  obtain ⟨n, hn⟩ : ∃ n, l.length = n := ⟨_, rfl⟩
  have HN := Lib.hid hn
  have HR := Lib.hid hr
  rw [hn]
  clear hn hr
  by_cases hbig : 300 < n
  · go_enter Try.func3, Try.ntmps3
    go_wp2_with fail
    refine (awake4_c W).mono ?_
    rintro e w1 ⟨rfl, hb1⟩
    have HB1 := Lib.hid hb1
    clear hb1
    go_wp2_with fail
    go_ret
    exact ⟨rfl, HB1.out⟩
  have hn3 : n ≤ 300 := by omega
  clear hbig
  go_enter Try.func3, Try.ntmps3
  go_wp2_with fail
  refine (awake4_c W).mono ?_
  rintro e w1 ⟨rfl, hb1⟩
  have HB1 := Lib.hid hb1
  clear hb1
  go_wp2_with fail
  refine (qnew_c most w1).mono ?_
  rintro e w2 ⟨rfl, hq, hb2⟩
  have HP := Lib.hid (p2_new HB1.out hq hb2)
  clear hq hb2 HB1
  obtain ⟨b, hb⟩ : ∃ b, w1.heap.size + 1 = b := ⟨_, rfl⟩
  rw [hb] at HP ⊢
  clear hb
  have hcl := clampQ_pos most
  obtain ⟨cm, hcm⟩ : ∃ cm, clampQ most = cm := ⟨_, rfl⟩
  rw [hcm] at HP hcl
  have HCM := Lib.hid hcm
  obtain ⟨m1, hm1⟩ : ∃ m1, (if most < 1 then (1 : Int) else most) = m1 := ⟨_, rfl⟩
  have HM1 := Lib.hid hm1
  clear hcm hm1
  go_upto_if 35 with fail
  go_cut [] (fun wx => wx = w2.alloc (.cells #[.int .i64 m1, .slice none 0 0] 29))
  case first => as_aux_lemma =>
    by_cases h1 : most < 1
    · obtain rfl : m1 = 1 := by rw [← HM1.out, if_pos h1]
      go_wp2_with fail
      go_meet
      rfl
    · obtain rfl : m1 = most := by rw [← HM1.out, if_neg h1]
      go_wp2_with fail
      go_meet
      rfl
  case rest =>
  subst hcut
  go_upto_if 40 with fail
  go_cut [] (fun wx => Hid (PB W wx b w2.heap.size cm 0 [] [] []))
  case first => as_aux_lemma =>
    by_cases h2 : 4096 < most
    · obtain rfl : cm = 4096 := by rw [← HCM.out]; unfold clampQ; rw [if_neg (by omega), if_pos h2]
      go_wp2_with fail
      go_meet
      exact HP
    · obtain rfl : cm = m1 := by rw [← HCM.out, ← HM1.out]; unfold clampQ; rw [if_neg h2]
      go_wp2_with fail
      go_meet
      exact HP
  case rest =>
  go_wp2_with fail
  refine plLoop W A c n b w2.heap.size cm l HN HR hn3 (by omega) hcut (by kernel_rfl) (by kernel_rfl) ?_
  rintro g a' w' ⟨hbw, f, k, rfl⟩
  unfold plF
  clear HP hcut
  have HBW := Lib.hid hbw
  clear hbw
  go_wp2_with fail
  go_ret
  exact ⟨rfl, HBW.out⟩
end Go.Proofs.Ytaodkfnbmpbcfaa
