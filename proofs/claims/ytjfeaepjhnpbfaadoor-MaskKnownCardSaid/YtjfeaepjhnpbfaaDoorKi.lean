/- ints, and the document's first words on masks: awake. -/
import Derived.Test.YtjfeaepjhnpbfaaDoorKh
namespace Go.Proofs.YtjfeaepjhnpbfaaDoor
open Go.RowKit Go.Sort

theorem IRow.alloc {k : IntKind} {w : World} {B : Nat} {A : Option Addr} {l : List Int} (h : IRow k w B A l) (hB : B ≤ w.heap.size) (o : Obj) : IRow k (w.alloc o) B A l := h.below ((Below.refl B w).alloc hB o)

/-- A value comes back, and what lay lies. -/
def Ret (v : Value) (w : World) (e : Ending) (w' : World) : Prop := e = .returned v ∧ Below w.heap.size w w'
/-- A slice of n numbers comes back, and what lay lies. -/
def SRet (n : Nat) (l : List Int) (w : World) (e : Ending) (w' : World) : Prop :=
  ∃ A c, e = .returned (.slice A n c) ∧ n ≤ c ∧ c ≤ maxLen ∧ IRow .i64 w' w'.heap.size A l ∧ Below w.heap.size w w'

set_option maxHeartbeats 1000000 in
theorem ints_eq (A A' : Option Addr) (n c c' B : Nat) (l : List Int) (w : World) (hn : l.length = n) (hl : n ≤ 9223372036854775807) (hr : IRow .i64 w B A l) (hr' : IRow .i64 w B A' l) :
    Calls Tryd.prog 13 #[.slice A n c, .slice A' n c'] w (Ret (.bool true) w) := by
  have HR := Lib.hid hr
  have HR' := Lib.hid hr'
  have HN := Lib.hid hn
  clear hr hr' hn
  go_enter Tryd.func13, Tryd.ntmps13
  go_wp2_with fail
  go_loopw [5] (fun i wr => ∃ k q : Nat, i = .int .i64 k ∧ k ≤ n ∧ wr = w.drewN q) (fun i _ => n - (intOf i).toNat)
  case atStart => exact ⟨0, 0, rfl, Nat.zero_le _, rfl⟩
  case round =>
    obtain ⟨k, q, rfl, hk, rfl⟩ := hrel
    by_cases hlt : k < n
    · have hkl : k < l.length := by rw [HN.out]; exact hlt
      obtain ⟨ad, rfl, _, hc⟩ := HR.out.at hkl
      obtain ⟨ad', rfl, _, hc'⟩ := HR'.out.at hkl
      obtain ⟨x, hx⟩ : ∃ x, x = l[k] := ⟨_, rfl⟩
      rw [← hx] at hc hc'
      clear hx
      go_wp2_with fail
      go_quiet (fail)
      go_wp2_with fail
      go_roundw
      case rel => exact ⟨k + 1, _, by go_num, by omega, rfl⟩
      case measure => simp [intOf]; omega
    · go_wp2_with fail
      go_ret
      exact ⟨rfl, below_drewN (Below.refl _ _) _⟩

theorem sret {l : List Int} {n : Nat} {w w' : World} {v : Value} (hn : l.length = n) (h : OwnI .i64 w' w.heap.size 3 v l) (hb : Below w.heap.size w w') : SRet n l w (.returned v) w' := by
  obtain ⟨A, c, h1, h2, h3, h4⟩ := h.form
  exact ⟨A, c, by rw [h1, hn], by omega, h3, h4, hb⟩
theorem list_v (m n : Nat) (l : List Int) (hm : m < 65536) (hl : ints64 (coresL m) = l) (hn : l.length = n) (w : World) : Calls Tryd.prog 10 #[.int .u16 m] w (SRet n l w) := by
  refine (list_c m hm w).mono ?_
  rintro e w' ⟨v, rfl, h1, h2⟩
  rw [hl] at h1
  exact sret hn h1 h2
theorem around_v (m n : Nat) (c : Int) (l : List Int) (hm : m < 65536) (hl : ints64 (aroundL m (clampN c)) = l) (hn : l.length = n) (w : World) : Calls Tryd.prog 14 #[.int .u16 m, .int .i64 c] w (SRet n l w) := by
  refine (around_c m c hm w).mono ?_
  rintro e w' ⟨v, rfl, h1, h2⟩
  rw [hl] at h1
  exact sret hn h1 h2
theorem of_v (A : Option Addr) (n c B m : Nat) (l : List Int) (w : World) (hn : l.length = n) (hl : n ≤ 9223372036854775807) (hr : IRow .i64 w B A l) (hm : ofN l = m) :
    Calls Tryd.prog 8 #[.slice A n c] w fun e w' => e = .returned (.int .u16 m) ∧ w = w' := by
  subst hm; exact of_c A n c B l w hn hl hr
theorem len_v (m n : Nat) (hm : m < 65536) (hn : (coresL m).length = n) (w : World) : Calls Tryd.prog 15 #[.int .u16 m] w (Ret (.int .i64 n) w) := by
  subst hn
  refine (len_c m hm w).mono ?_
  rintro e w' ⟨rfl, rfl⟩
  exact ⟨rfl, (Below.refl _ _).drew⟩
theorem text_v (m : Nat) (s : ByteArray) (hm : m < 65536) (hs : textS m = s) (w : World) : Calls Tryd.prog 9 #[.int .u16 m] w (Ret (.string s) w) := by
  subst hs; exact text_c m hm w
theorem good_v (m : Nat) (c : Int) (b : Bool) (hm : m < 65536) (hb : goodB m c = b) (w : World) : Calls Tryd.prog 11 #[.int .u16 m, .int .i64 c] w (Ret (.bool b) w) := by
  subst hb; exact good_c m c hm w
theorem has_v (m : Nat) (c : Int) (b : Bool) (hm : m < 65536) (hb : hasB m c = b) (w : World) : Calls Tryd.prog 12 #[.int .u16 m, .int .i64 c] w fun e w' => e = .returned (.bool b) ∧ w = w' := by
  subst hb; exact has_c m c hm w

theorem text5 : textS 5 = ⟨#[48, 44, 50]⟩ := by
  have h1 : coresL 5 = [0, 2] := by decide
  unfold textS textL
  rw [h1, if_neg (by simp)]
  simp only [List.map_cons, List.map_nil]
  rw [dec_eq (by omega), dec_eq (by omega)]
  rfl

set_option maxRecDepth 100000 in
set_option maxHeartbeats 1000000 in
theorem awake_c (w : World) : Calls Tryd.prog 7 #[] w (Ret (.bool true) w) := by
  have k1 := Lib.hid (of_v (some ⟨w.heap.size, 0, none⟩) 2 2 (w.heap.size + 1) 5 [0, 2] (w.alloc (.cells #[.int .i64 0, .int .i64 2] 3)) rfl (by omega) (IRow.lit _ _ _ _ _ _ rfl rfl (by simp)) (by decide))
  have k2 := Lib.hid (fun w => around_v 5 2 1 [2, 0] (by omega) (by decide) rfl w)
  have k3 := Lib.hid (fun w => text_v 5 _ (by omega) text5 w)
  have k4 := Lib.hid (fun w => len_v 5 2 (by omega) (by decide) w)
  go_enter Tryd.func7, Tryd.ntmps7
  go_wp2_with fail
  refine k1.out.mono ?_
  rintro e w' ⟨rfl, rfl⟩
  go_wp2_with fail
  refine (k2.out _).mono ?_
  rintro e w1 ⟨A, c, rfl, hc1, hc2, hr, hb⟩
  have HB := Lib.hid (((Below.refl _ w).alloc (Nat.le_refl _) _).trans (hb.mono (by simp)))
  have k5 := Lib.hid (ints_eq A (some ⟨w1.heap.size, 0, none⟩) 2 c 2 (w1.heap.size + 1) [2, 0] (w1.alloc (.cells #[.int .i64 2, .int .i64 0] 3)) rfl (by omega) ((hr.alloc (Nat.le_refl _) _).more (by omega)) (IRow.lit _ _ _ _ _ _ rfl rfl (by omega)))
  clear hr hb
  go_wp2_with fail
  refine k5.out.mono ?_
  rintro e w2 ⟨rfl, hb2⟩
  have HB2 := Lib.hid ((HB.out.alloc HB.out.size _).trans (hb2.mono (by have := HB.out.size; simp; omega)))
  clear hb2
  go_wp2_with fail
  refine (k3.out _).mono ?_
  rintro e w3 ⟨rfl, hb3⟩
  have HB3 := Lib.hid (HB2.out.trans (hb3.mono HB2.out.size))
  clear hb3
  go_wp2_with fail
  refine (k4.out _).mono ?_
  rintro e w4 ⟨rfl, hb4⟩
  have HB4 := Lib.hid (HB3.out.trans (hb4.mono HB3.out.size))
  clear hb4
  go_wp2_with fail
  go_ret
  exact ⟨rfl, HB4.out⟩
end Go.Proofs.YtjfeaepjhnpbfaaDoor
