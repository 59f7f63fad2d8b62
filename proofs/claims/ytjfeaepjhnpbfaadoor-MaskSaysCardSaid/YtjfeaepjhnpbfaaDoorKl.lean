/- The reference's words on masks: GoodMask, Number, MaskText. -/
import Derived.Test.YtjfeaepjhnpbfaaDoorKk
import Derived.Laws.IdiomStrings
namespace Go.Proofs.YtjfeaepjhnpbfaaDoor
open Go.RowKit Go.Sort

theorem cores_v (m n : Nat) (l : List Int) (hm : m < 65536) (hl : ints64 (coresL m) = l) (hn : l.length = n) (w : World) : Calls Tryd.prog 16 #[.int .u16 m] w (SRet n l w) := by
  refine (cores_c m hm w).mono ?_
  rintro e w' ⟨v, rfl, h1, h2⟩
  rw [hl] at h1
  exact sret hn h1 h2

set_option maxRecDepth 100000 in
set_option maxHeartbeats 1000000 in
theorem goodMask_c (m : Nat) (c : Int) (hm : m < 65536) (w : World) : Calls Tryd.prog 19 #[.int .u16 m, .int .i64 c] w (Ret (.bool (goodB m c)) w) := by
  obtain ⟨n, hn⟩ : ∃ n, (coresL m).length = n := ⟨_, rfl⟩
  have hn16 : n ≤ 16 := by have := cores_length_le m; omega
  have k1 := Lib.hid (fun w => cores_v m n _ hm rfl (by rw [ints64_length, hn]) w)
  have HG := Lib.hid (good_last m c)
  obtain ⟨g, hg⟩ : ∃ g, g = goodB m c := ⟨_, rfl⟩
  rw [← hg] at HG ⊢
  clear hg
  have HN := Lib.hid hn
  clear hn
  go_enter Tryd.func19, Tryd.ntmps19
  go_wp2_with fail
  refine (k1.out _).mono ?_
  rintro e w1 ⟨A, ca, rfl, hc1, hc2, hr, hb⟩
  have HB := Lib.hid hb
  have HR := Lib.hid hr
  clear hb hr
  by_cases h1 : c < 1
  · have e : g = false := by rw [HG.out]; simp; omega
    subst e
    go_wp2_with fail
    go_ret
    exact ⟨rfl, HB.out⟩
  · have h1' : 1 ≤ c := by omega
    clear h1
    by_cases h2 : 16 < c
    · have e : g = false := by rw [HG.out]; simp; omega
      subst e
      go_wp2_with fail
      go_ret
      exact ⟨rfl, HB.out⟩
    · have h2' : c ≤ 16 := by omega
      clear h2
      cases n with
      | zero =>
        have e : g = false := by
          rw [HG.out, List.eq_nil_of_length_eq_zero HN.out]; simp
        subst e
        go_wp2_with fail
        go_ret
        exact ⟨rfl, HB.out⟩
      | succ k =>
        have hkl : k < (ints64 (coresL m)).length := by rw [ints64_length, HN.out]; omega
        obtain ⟨ad, rfl, _, hcell⟩ := HR.out.at hkl
        obtain ⟨z, hz⟩ : ∃ z, z = (ints64 (coresL m))[k] := ⟨_, rfl⟩
        rw [← hz] at hcell
        have e : g = decide (z < c) := by
          rw [HG.out, List.getLast?_eq_getElem?, HN.out]
          have hk2 : k < (coresL m).length := by rw [HN.out]; omega
          have : (k + 1 - 1) = k := by omega
          rw [this, List.getElem?_eq_getElem hk2]
          have hz' : z = ((coresL m)[k] : Int) := by rw [hz]; simp [ints64]
          simp [h1', h2', hz']
        subst e
        clear hz HG
        have hk0 : (0 : Int) ≤ (k : Int) := by omega
        have hsub : ((k : Int) + 1 - 1) = (k : Int) := by omega
        go_wp2_with fail
        go_ret
        exact ⟨rfl, HB.out⟩

/-- string([]byte{d}). -/
theorem byte_str (W : World) (g d : Nat) (hd : d < 256) (hc : W.cell? ⟨g, 0, none⟩ = some (.int .u8 d)) :
    (convert 54 9 (.slice (some ⟨g, 0, none⟩) 1 1)).run Tryd.prog W = .ok (.string ⟨#[UInt8.ofNat d]⟩) W := by
  refine run_convert_bytes_back W 54 9 5 ⟨g, 0, none⟩ 1 [UInt8.ofNat d] Tryd.underlying54 Tryd.underlying5 Tryd.underlying9 ?_
  intro j hj
  match j, hj with
  | 0, _ =>
    have e : (UInt8.ofNat d).toNat = d := by simp; omega
    show W.cell? ((⟨g, 0, none⟩ : Addr).add 0) = some (.int .u8 ((UInt8.ofNat d).toNat : Int))
    rw [e]
    exact hc

theorem number_one (x : Nat) (hx : x < 10) (w : World) : Calls Tryd.prog 28 #[.int .i64 x] w fun e w' => e = .returned (.string (numS x)) ∧ w' = w.alloc (.cells #[.int .u8 (48 + (x : Int))] 5) := by
  have h0 : ¬ ((x : Int) < 0) := by omega
  have h1 : (x : Int) < 10 := by omega
  have hcv : (convert 54 9 (.slice (some ⟨w.heap.size, 0, none⟩) 1 1)).run Tryd.prog (w.alloc (.cells #[.int .u8 (48 + (x : Int))] 5)) = .ok (.string (numS x)) (w.alloc (.cells #[.int .u8 (48 + (x : Int))] 5)) := by
    have h := byte_str (w.alloc (.cells #[.int .u8 (48 + (x : Int))] 5)) w.heap.size (48 + x) (by omega) (by simp)
    rw [h]
    unfold numS
    rw [dec_one hx]
  go_enter Tryd.func28, Tryd.ntmps28
  go_wp2_with fail
  go_ret
  exact ⟨rfl, rfl⟩

theorem num1 : numS 1 = ⟨#[49]⟩ := by unfold numS; rw [dec_eq (by omega)]; rfl
theorem number_1 (w : World) : Calls Tryd.prog 28 #[.int .i64 1] w fun e w' => e = .returned (.string ⟨#[49]⟩) ∧ w' = w.alloc (.cells #[.int .u8 49] 5) := by
  have := number_one 1 (by omega) w
  rw [num1] at this
  exact this
/-- A numeral of two digits, the first 1. -/
theorem number_text (x d : Nat) (h : dec2 x = [49, UInt8.ofNat d] ∧ x < 100) : Ending.returned (Value.string (⟨#[49]⟩ ++ ⟨#[UInt8.ofNat d]⟩)) = Ending.returned (Value.string (numS x)) := by
  have h2 : numS x = ⟨#[49, UInt8.ofNat d]⟩ := by unfold numS; rw [dec_eq h.2, h.1]
  rw [h2]
  rfl

set_option maxRecDepth 100000 in
set_option maxHeartbeats 1000000 in
theorem number_10 (w : World) : Calls Tryd.prog 28 #[.int .i64 10] w (Ret (.string (numS 10)) w) := by
  have hcv : ∀ (W : World) (g : Nat), W.cell? ⟨g, 0, none⟩ = some (.int .u8 48) → (convert 54 9 (.slice (some ⟨g, 0, none⟩) 1 1)).run Tryd.prog W = .ok (.string ⟨#[48]⟩) W := fun W g hc => byte_str W g 48 (by omega) hc
  have hw1 : IntKind.i64.wrap 48 = 48 := by decide
  have hw2 : IntKind.u8.wrap 48 = 48 := by decide
  have hw3 : IntKind.i64.wrap 1 = 1 := by decide
  go_enter Tryd.func28, Tryd.ntmps28
  go_wp2_with fail
  go_region_with (go_at_call 28; refine (number_1 _).mono ?_; rintro e w' ⟨rfl, rfl⟩)
  all_goals go_wp2_with fail
  all_goals go_ret
  all_goals refine ⟨number_text 10 48 (by decide), ?_⟩
  all_goals exact ((((Below.refl _ w).alloc (Nat.le_refl _) _).alloc (by simp) _)).drew

end Go.Proofs.YtjfeaepjhnpbfaaDoor
