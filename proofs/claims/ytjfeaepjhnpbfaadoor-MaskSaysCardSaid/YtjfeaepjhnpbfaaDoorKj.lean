/- The laws MaskAround and MaskTexts, walked. -/
import Derived.Test.YtjfeaepjhnpbfaaDoorKi
namespace Go.Proofs.YtjfeaepjhnpbfaaDoor
open Go.RowKit Go.Sort

set_option maxRecDepth 100000 in
set_option maxHeartbeats 1000000 in
theorem maskAround_walk (m : Nat) (c : Int) (hm : m < 65536) (w : World) : Calls Tryd.prog 5 #[.int .u16 m, .int .i64 c] w (Ret (.bool true) w) := by
  obtain ⟨n, hn⟩ : ∃ n, (coresL m).length = n := ⟨_, rfl⟩
  have hn16 : n ≤ 16 := by have := cores_length_le m; omega
  have k1 := Lib.hid (fun w => awake_c w)
  have k2 := Lib.hid (fun w => around_v m n c _ hm rfl (by rw [ints64_length, around_length (clampN_lt c), hn]) w)
  have k3 := Lib.hid (fun w => around_v m n 0 _ hm rfl (by rw [ints64_length, around_length (clampN_lt 0), hn]) w)
  have k4 := Lib.hid (fun w => list_v m n _ hm rfl (by rw [ints64_length, hn]) w)
  have k5 := Lib.hid (fun w => len_v m n hm hn w)
  have e1 : ofN (ints64 (aroundL m (clampN c))) = m := of_around hm (clampN_lt c)
  have e2 : ints64 (aroundL m (clampN 0)) = ints64 (coresL m) := by show ints64 (aroundL m 0) = _; rw [around_zero]
  have e3 : ofN (ints64 (coresL m)) = m := of_cores hm
  rw [e2] at k3
  obtain ⟨la, hla⟩ : ∃ la, la = ints64 (aroundL m (clampN c)) := ⟨_, rfl⟩
  obtain ⟨lc, hlc⟩ : ∃ lc, lc = ints64 (coresL m) := ⟨_, rfl⟩
  have n1 : la.length = n := by rw [hla, ints64_length, around_length (clampN_lt c), hn]
  have n2 : lc.length = n := by rw [hlc, ints64_length, hn]
  rw [← hla] at k2 e1
  rw [← hlc] at k3 k4 e3
  have kk := Lib.hid (And.intro (And.intro e1 e3) (And.intro n1 n2))
  clear e1 e2 e3 hla hlc n1 n2 hn
  go_enter Tryd.func5, Tryd.ntmps5
  go_wp2_with fail
  refine (k1.out _).mono ?_
  rintro e w1 ⟨rfl, hb1⟩
  have HB1 := Lib.hid hb1
  clear hb1
  go_wp2_with fail
  refine (k2.out _).mono ?_
  rintro e w2 ⟨A, ca, rfl, hc1, hc2, hr, hb⟩
  have HB2 := Lib.hid (HB1.out.trans (hb.mono HB1.out.size))
  have k6 := Lib.hid (of_v A n ca _ m la w2 kk.out.2.1 (by omega) hr kk.out.1.1)
  clear hb hr
  go_wp2_with fail
  refine k6.out.mono ?_
  rintro e w3 ⟨rfl, rfl⟩
  go_wp2_with fail
  refine (k5.out _).mono ?_
  rintro e w4 ⟨rfl, hb4⟩
  have HB4 := Lib.hid (HB2.out.trans (hb4.mono HB2.out.size))
  clear hb4
  go_wp2_with fail
  refine (k3.out _).mono ?_
  rintro e w5 ⟨A5, c5, rfl, hc51, hc52, hr5, hb5⟩
  have HB5 := Lib.hid (HB4.out.trans (hb5.mono HB4.out.size))
  have HR5 := Lib.hid hr5
  clear hb5 hr5
  go_wp2_with fail
  refine (k4.out _).mono ?_
  rintro e w6 ⟨A6, c6, rfl, hc61, hc62, hr6, hb6⟩
  have k7 := Lib.hid (ints_eq A5 A6 n c5 c6 w6.heap.size lc w6 kk.out.2.2 (by omega) ((HR5.out.below hb6).more hb6.size) hr6)
  have HB6 := Lib.hid (HB5.out.trans (hb6.mono HB5.out.size))
  clear hb6 hr6
  go_wp2_with fail
  refine k7.out.mono ?_
  rintro e w7 ⟨rfl, hb7⟩
  have HB7 := Lib.hid (HB6.out.trans (hb7.mono HB6.out.size))
  clear hb7
  go_wp2_with fail
  refine (k4.out _).mono ?_
  rintro e w8 ⟨A8, c8, rfl, hc81, hc82, hr8, hb8⟩
  have HB8 := Lib.hid (HB7.out.trans (hb8.mono HB7.out.size))
  have k8 := Lib.hid (of_v A8 n c8 _ m lc w8 kk.out.2.2 (by omega) hr8 kk.out.1.2)
  clear hb8 hr8
  go_wp2_with fail
  refine k8.out.mono ?_
  rintro e w9 ⟨rfl, rfl⟩
  go_wp2_with fail
  go_ret
  exact ⟨by simp, HB8.out⟩

set_option maxRecDepth 100000 in
set_option maxHeartbeats 1000000 in
theorem maskTexts_walk (a b : Nat) (ha : a < 65536) (hb : b < 65536) (w : World) : Calls Tryd.prog 6 #[.int .u16 a, .int .u16 b] w (Ret (.bool true) w) := by
  have k1 := Lib.hid (fun w => awake_c w)
  have k2 := Lib.hid (fun w => text_v a _ ha rfl w)
  have k3 := Lib.hid (fun w => text_v b _ hb rfl w)
  have e1 := text_eq ha hb
  obtain ⟨s, hs⟩ : ∃ s, s = textS a := ⟨_, rfl⟩
  obtain ⟨t, ht⟩ : ∃ t, t = textS b := ⟨_, rfl⟩
  rw [← hs] at k2 e1
  rw [← ht] at k3 e1
  have E1 := Lib.hid e1
  clear hs ht e1
  go_enter Tryd.func6, Tryd.ntmps6
  go_wp2_with fail
  refine (k1.out _).mono ?_
  rintro e w1 ⟨rfl, hb1⟩
  have HB1 := Lib.hid hb1
  clear hb1
  go_wp2_with fail
  refine (k2.out _).mono ?_
  rintro e w2 ⟨rfl, hb2⟩
  have HB2 := Lib.hid (HB1.out.trans (hb2.mono HB1.out.size))
  clear hb2
  go_wp2_with fail
  refine (k3.out _).mono ?_
  rintro e w3 ⟨rfl, hb3⟩
  have HB3 := Lib.hid (HB2.out.trans (hb3.mono HB2.out.size))
  clear hb3
  go_wp2_with fail
  go_ret
  refine ⟨congrArg Ending.returned (congrArg Value.bool ?_), HB3.out⟩
  have h1 := E1.out
  by_cases h : a = b
  · have h2 := h1.2 h
    rw [h, h2]
    simp
  · have h2 : ¬ s = t := fun e => h (h1.1 e)
    have h3 : ¬ s.toList = t.toList := fun e => h2 (by
      rw [ByteArray.toList_eq, ByteArray.toList_eq] at e
      cases s; cases t
      congr 1
      exact Array.toList_inj.1 e)
    have h4 : ¬ (a : Int) = (b : Int) := by omega
    have e3 : (s.toList == t.toList) = false := by simp [h3]
    have e4 : ((a : Int) == (b : Int)) = false := by simp [h4]
    show ((s.toList == t.toList) == ((a : Int) == (b : Int))) = true
    rw [e3, e4]
    rfl

theorem u16_wf {a : Int} (h : (Lit.int .u16 a).wf = true) : ∃ m : Nat, a = m ∧ m < 65536 := by
  have h1 : 0 ≤ a ∧ a ≤ 65535 := by simpa [Lit.wf, IntKind.min, IntKind.max, IntKind.bits, IntKind.signed] using h
  exact ⟨a.toNat, by omega, by omega⟩
theorem maskAround_law (a c : Int) (wa : (Lit.int .u16 a).wf = true) (W : World) : Calls Tryd.prog 5 #[.int .u16 a, .int .i64 c] W fun e w' => e = .returned (.bool true) ∧ Below W.heap.size W w' := by
  obtain ⟨m, rfl, hm⟩ := u16_wf wa
  exact maskAround_walk m c hm W
theorem maskTexts_law (a b : Int) (wa : (Lit.int .u16 a).wf = true) (wb : (Lit.int .u16 b).wf = true) (W : World) : Calls Tryd.prog 6 #[.int .u16 a, .int .u16 b] W fun e w' => e = .returned (.bool true) ∧ Below W.heap.size W w' := by
  obtain ⟨m, rfl, hm⟩ := u16_wf wa
  obtain ⟨n, rfl, hn⟩ := u16_wf wb
  exact maskTexts_walk m n hm hn W
end Go.Proofs.YtjfeaepjhnpbfaaDoor
