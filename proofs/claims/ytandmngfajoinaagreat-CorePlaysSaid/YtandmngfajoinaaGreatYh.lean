/- Forms: slices.Equal, Same. -/
import Derived.Test.YtandmngfajoinaaGreatYc
namespace Go.Proofs.YtandmngfajoinaaGreat
open Go.RowKit

theorem take_next {l l' : List RI} {k : Nat} {y : RI} (h : l.take k = l'.take k) (h1 : l[k]? = some y) (h2 : l'[k]? = some y) : l.take (k + 1) = l'.take (k + 1) := by
  obtain ⟨a1, a2⟩ := List.getElem?_eq_some_iff.1 h1
  obtain ⟨b1, b2⟩ := List.getElem?_eq_some_iff.1 h2
  rw [List.take_succ_eq_append_getElem a1, List.take_succ_eq_append_getElem b1, h, a2, b2]
theorem ne_at {l l' : List RI} {k : Nat} {y z : RI} (h1 : l[k]? = some y) (h2 : l'[k]? = some z) (h : y ≠ z) : decide (l = l') = false := by
  simp
  intro e
  rw [e, h2] at h1
  exact h (Option.some.inj h1).symm

set_option maxRecDepth 100000 in
set_option maxHeartbeats 4000000 in
theorem equal_c (A A' : Option Addr) (n c n' c' : Nat) (l l' : List RI) (w : World) (hn : l.length = n) (hn' : l'.length = n') (hl : n ≤ 4611686018427387904) (hr : TRow w A l) (hr' : TRow w A' l') :
    Calls Tryz.prog 54 #[.slice A n c, .slice A' n' c'] w (Ret10 (.bool (decide (l = l'))) w) := by
  by_cases hnn : n = n'
  · subst hnn
    have HR := Lib.hid hr
    have HR' := Lib.hid hr'
    have HN := Lib.hid hn
    have HN' := Lib.hid hn'
    clear hr hr' hn hn'
    go_enter Tryz.func54, Tryz.ntmps54
    go_wp2_with fail
    go_loopw [13] (fun i wr => ∃ k q : Nat, i = .int .i64 k ∧ k ≤ n ∧ l.take k = l'.take k ∧ wr = w.drewN q) (fun i _ => n - (intOf i).toNat)
    case atStart => exact ⟨0, 0, rfl, Nat.zero_le _, rfl, rfl⟩
    case round =>
      obtain ⟨k, q, rfl, hk, hat, hwr⟩ := hrel
      have HAT := Lib.hid hat
      subst hwr
      clear hat
      by_cases hlt : k < n
      · obtain ⟨y, hx⟩ : ∃ y, l[k]? = some y := ⟨_, List.getElem?_eq_getElem (by rw [HN.out]; exact hlt)⟩
        obtain ⟨z, hz⟩ : ∃ z, l'[k]? = some z := ⟨_, List.getElem?_eq_getElem (by rw [HN'.out]; exact hlt)⟩
        obtain ⟨ad, rfl, c0, c1, c2⟩ := HR.out.at hx
        obtain ⟨ad', rfl, d0, d1, d2⟩ := HR'.out.at hz
        have HX := Lib.hid (And.intro hx hz)
        clear hx hz
        obtain ⟨y0, y1, y2⟩ := y
        obtain ⟨z0, z1, z2⟩ := z
        simp only at c0 c1 c2 d0 d1 d2
        have hlt' : (k : Int) < (n : Int) := by omega
        by_cases h0 : y0 = z0
        · subst h0
          by_cases h1 : y1 = z1
          · subst h1
            by_cases h2 : y2 = z2
            · subst h2
              go_wp2_with fail
              go_quiet (fail)
              go_wp2_with fail
              go_roundw
              case rel => exact ⟨k + 1, _, by go_num, by omega, take_next HAT.out HX.out.1 HX.out.2, rfl⟩
              case measure => simp [intOf]; omega
            · have h0' : (y2 == z2) = false := by simp [h2]
              have HE : Hid (decide (l = l') = false) := Lib.hid (ne_at HX.out.1 HX.out.2 (by simp [h2]))
              clear h2
              go_wp2_with fail
              go_quiet (fail)
              go_wp2_with fail
              go_ret
              exact ⟨ret_b HE.out.symm, below_drewN (below_drewN (Below.refl _ w) q) _⟩
          · have h0' : (y1 == z1) = false := by simp [h1]
            have HE : Hid (decide (l = l') = false) := Lib.hid (ne_at HX.out.1 HX.out.2 (by simp [h1]))
            clear h1
            go_wp2_with fail
            go_quiet (fail)
            go_wp2_with fail
            go_ret
            exact ⟨ret_b HE.out.symm, below_drewN (below_drewN (Below.refl _ w) q) _⟩
        · have h0' : (y0 == z0) = false := by simp [h0]
          have HE : Hid (decide (l = l') = false) := Lib.hid (ne_at HX.out.1 HX.out.2 (by simp [h0]))
          clear h0
          go_wp2_with fail
          go_quiet (fail)
          go_wp2_with fail
          go_ret
          exact ⟨ret_b HE.out.symm, below_drewN (below_drewN (Below.refl _ w) q) _⟩
      · obtain rfl : k = n := by omega
        have HE : Hid (decide (l = l') = true) := Lib.hid (by
          have h1 := HAT.out
          rw [List.take_of_length_le (by have := HN.out; omega), List.take_of_length_le (by have := HN'.out; omega)] at h1
          simp [h1])
        go_wp2_with fail
        go_ret
        exact ⟨ret_b HE.out.symm, below_drewN (Below.refl _ w) q⟩
  · have HE : Hid (decide (l = l') = false) := Lib.hid (by simp; intro e; exact hnn (by rw [← hn, ← hn', e]))
    have hnn' : ((n : Int) != (n' : Int)) = true := by simp; omega
    clear hr hr' hn hn' hnn
    go_enter Tryz.func54, Tryz.ntmps54
    go_wp2_with fail
    go_ret
    exact ⟨ret_b HE.out.symm, Below.refl _ w⟩

def sameB (a b : Int) (l l' : List RI) : Bool := decide (a = b) && decide (l = l')
set_option maxRecDepth 100000 in
set_option maxHeartbeats 2000000 in
theorem same_c (f0 g0 : Int) (A A' : Option Addr) (n c n' c' : Nat) (l l' : List RI) (w : World) (hn : l.length = n) (hn' : l'.length = n') (hl : n ≤ 4611686018427387904) (hr : TRow w A l) (hr' : TRow w A' l') :
    Calls Tryz.prog 34 #[.agg #[.int .i64 f0, .slice A n c], .agg #[.int .i64 g0, .slice A' n' c']] w (Ret10 (.bool (sameB f0 g0 l l')) w) := by
  have hb := ((Below.refl _ w).alloc (Nat.le_refl _) (.cells #[.int .i64 f0, .slice A n c] 47)).alloc (by simp) (.cells #[.int .i64 g0, .slice A' n' c'] 47)
  have K := Lib.hid (equal_c A A' n c n' c' l l' ((w.alloc (.cells #[.int .i64 f0, .slice A n c] 47)).alloc (.cells #[.int .i64 g0, .slice A' n' c'] 47)) hn hn' hl (hr.below hb (Nat.le_refl _)) (hr'.below hb (Nat.le_refl _)))
  have HB := Lib.hid hb
  have HV : Hid (sameB f0 g0 l l' = (decide (f0 = g0) && decide (l = l'))) := Lib.hid rfl
  generalize decide (l = l') = E at *
  generalize sameB f0 g0 l l' = V at *
  clear hn hn' hl hr hr' hb
  by_cases h : f0 = g0
  · subst h
    go_enter Tryz.func34, Tryz.ntmps34
    go_wp2_with fail
    refine K.out.mono ?_
    rintro e w1 ⟨rfl, hb1⟩
    have HB1 := Lib.hid (HB.out.trans (hb1.mono HB.out.size))
    clear hb1
    go_wp2_with fail
    go_ret
    exact ⟨ret_b (by rw [HV.out]; simp), HB1.out⟩
  · have h' : (f0 == g0) = false := by simp [h]
    have HE : Hid (decide (f0 = g0) = false) := Lib.hid (by simp [h])
    clear h K
    go_enter Tryz.func34, Tryz.ntmps34
    go_wp2_with fail
    go_ret
    exact ⟨ret_b (by rw [HV.out, HE.out]; simp), HB.out⟩
end Go.Proofs.YtandmngfajoinaaGreat
