/- The walk of the law WeightParts: it returns true. -/
import Derived.Test.YtaeondpeaabfeaaGc
import Derived.Test.YtaeondpeaabfeaaPd
namespace Go.Proofs.Ytaeondpeaabfeaa
open Go.RowKit Go.Sort

set_option maxHeartbeats 1000000 in
set_option maxRecDepth 100000 in
theorem lparts_no (A : Option Addr) (c : Nat) (l : List Int) (n : Int) (w : World) (hl : l.length ≤ 9223372036854775807) (hr : IRow .i64 w w.heap.size A l) (hb : partsB l n = false) :
    Calls Try.prog 5 #[.slice A l.length c, .int .i64 n] w fun e w' => e = .returned (.bool true) ∧ Below w.heap.size w w' := by
  have hc1 := Lib.hid (fun W (hb2 : Below w.heap.size w W) => total_c A l.length c _ l W rfl hl (hr.below hb2))
  have hc2 := Lib.hid (fun W (hb2 : Below w.heap.size w W) => parts_none A c _ l n W hl (hr.below hb2) hb)
  have hb2 : totB l = false ∨ l.length = 0 ∨ n < 0 ∨ 1099511627776 < n := by
    cases ht : totB l with
    | false => exact .inl rfl
    | true =>
      have : ¬ (0 < l.length ∧ 0 ≤ n ∧ n ≤ 1099511627776) := fun h => by have h2 := partsB_true.2 ⟨ht, h⟩; rw [hb] at h2; cases h2
      omega
  clear hr hb
  generalize totV l = T at hc1
  generalize totB l = p at hc1 hb2
  obtain ⟨m, hm⟩ : ∃ m, m = l.length := ⟨_, rfl⟩
  rw [← hm] at hc1 hc2 hl hb2 ⊢
  clear hm
  cases p
  · clear hb2
    go_enter Try.func5, Try.ntmps5
    go_wp2_with fail
    refine (awake_c _).mono ?_
    rintro e w1 ⟨rfl, hbel⟩
    have HB := Lib.hid hbel
    clear hbel
    go_wp2_with fail
    refine (hc1.out _ HB.out).mono ?_
    rintro e w2 ⟨rfl, rfl⟩
    go_wp2_with fail
    refine (hc2.out _ HB.out).mono ?_
    rintro e w2 ⟨rfl, rfl⟩
    go_wp2_with fail
    go_ret
    exact ⟨rfl, HB.out⟩
  · have hb3 : m = 0 ∨ n < 0 ∨ 1099511627776 < n := by
      rcases hb2 with h | h
      · cases h
      · exact h
    clear hb2
    by_cases h1 : m = 0
    · subst h1
      clear hb3
      go_enter Try.func5, Try.ntmps5
      go_wp2_with fail
      refine (awake_c _).mono ?_
      rintro e w1 ⟨rfl, hbel⟩
      have HB := Lib.hid hbel
      clear hbel
      go_wp2_with fail
      refine (hc1.out _ HB.out).mono ?_
      rintro e w2 ⟨rfl, rfl⟩
      go_wp2_with fail
      refine (hc2.out _ HB.out).mono ?_
      rintro e w2 ⟨rfl, rfl⟩
      go_wp2_with fail
      go_ret
      exact ⟨rfl, HB.out⟩
    · have h1' : ((m : Int) == 0) = false := beq_eq_false_iff_ne.2 (by omega)
      by_cases h2 : n < 0
      · go_enter Try.func5, Try.ntmps5
        go_wp2_with fail
        refine (awake_c _).mono ?_
        rintro e w1 ⟨rfl, hbel⟩
        have HB := Lib.hid hbel
        clear hbel
        go_wp2_with fail
        refine (hc1.out _ HB.out).mono ?_
        rintro e w2 ⟨rfl, rfl⟩
        go_wp2_with fail
        refine (hc2.out _ HB.out).mono ?_
        rintro e w2 ⟨rfl, rfl⟩
        go_wp2_with fail
        go_ret
        exact ⟨rfl, HB.out⟩
      · have h3 : 1099511627776 < n := by omega
        go_enter Try.func5, Try.ntmps5
        go_wp2_with fail
        refine (awake_c _).mono ?_
        rintro e w1 ⟨rfl, hbel⟩
        have HB := Lib.hid hbel
        clear hbel
        go_wp2_with fail
        refine (hc1.out _ HB.out).mono ?_
        rintro e w2 ⟨rfl, rfl⟩
        go_wp2_with fail
        refine (hc2.out _ HB.out).mono ?_
        rintro e w2 ⟨rfl, rfl⟩
        go_wp2_with fail
        go_ret
        exact ⟨rfl, HB.out⟩

theorem take_le (P : List Int) (k : Nat) (c : Int) (h : ∀ z ∈ P, 0 ≤ z ∧ z ≤ c) (hP : P.length ≤ 64) (hc : 0 ≤ c) : 0 ≤ (P.take k).sum ∧ (P.take k).sum ≤ c * 64 := by
  have h1 := sum_map_le (P.take k) id c (fun x hx => h x (List.mem_of_mem_take hx))
  rw [List.map_id] at h1
  refine ⟨h1.1, Int.le_trans h1.2 (Int.mul_le_mul_of_nonneg_left ?_ hc)⟩
  rw [List.length_take]; omega

set_option maxHeartbeats 2000000 in
set_option maxRecDepth 100000 in
theorem lparts_c (A : Option Addr) (c : Nat) (l : List Int) (n : Int) (w : World) (hr : IRow .i64 w w.heap.size A l) (hb : partsB l n = true) :
    Calls Try.prog 5 #[.slice A l.length c, .int .i64 n] w fun e w' => e = .returned (.bool true) ∧ Below w.heap.size w w' := by
  obtain ⟨hb1, hb2, hb3, hb4⟩ := partsB_true.1 hb
  have h64 := (totB_true.1 hb1).1
  have hc1 := Lib.hid (fun W (hb2 : Below w.heap.size w W) => total_c A l.length c _ l W rfl (by omega) (hr.below hb2))
  rw [hb1, totV_yes hb1] at hc1
  have hc2 := Lib.hid (fun W (hbw : Below w.heap.size w W) => parts_v A l.length c l n W rfl ((hr.below hbw).more hbw.size) hb)
  have HR := Lib.hid hr
  have HB1 := Lib.hid hb1
  have HSUM := Lib.hid (partsL_sum l n hb1 hb2)
  have HLE := Lib.hid (partsL_le l n hb1 hb3)
  obtain ⟨T, hT⟩ : ∃ T, T = l.sum := ⟨_, rfl⟩
  rw [← hT] at hc1
  have HT := Lib.hid hT
  obtain ⟨m, hm⟩ : ∃ m, m = l.length := ⟨_, rfl⟩
  rw [← hm] at hc1 hc2 hb2 h64 ⊢
  have HM := Lib.hid hm
  clear hT hm hr hb hb1
  have hm0 : ((m : Int) == 0) = false := beq_eq_false_iff_ne.2 (by omega)
  have hn0 : decide (n < 0) = false := decide_eq_false (by omega)
  have hn1 : decide (1099511627776 < n) = false := decide_eq_false (by omega)
  go_enter Try.func5, Try.ntmps5
  go_wp2_with fail
  refine (awake_c _).mono ?_
  rintro e w1 ⟨rfl, hbel⟩
  have HB := Lib.hid hbel
  clear hbel
  go_wp2_with fail
  refine (hc1.out _ HB.out).mono ?_
  rintro e w2 ⟨rfl, rfl⟩
  go_wp2_with fail
  refine (hc2.out _ HB.out).mono ?_
  rintro e w2 ⟨g, he, q1, q2, q3, q4⟩
  rw [← HM.out] at he
  subst he
  have HP := Lib.hid q3
  have HB2 := Lib.hid (HB.out.trans (q4.mono HB.out.size))
  clear q1 q2 q3 q4 HB hc1 hc2
  go_wp2_with fail
  go_loopw [8, 9] (fun s i wr => ∃ (k q : Nat), i = .int .i64 k ∧ s = .int .i64 ((partsL l n).take k).sum ∧ k ≤ m ∧ wr = w2.drewN q) (fun _ i _ => m - (intOf i).toNat)
  case atStart => exact ⟨0, 0, rfl, by simp, Nat.zero_le _, rfl⟩
  case round =>
    obtain ⟨k, q, rfl, rfl, hk, rfl⟩ := hrel
    by_cases hlt : k < m
    · have hkl : k < l.length := by rw [← HM.out]; exact hlt
      have hkp : k < (partsL l n).length := by rw [partsL_length]; exact hkl
      obtain ⟨ad, rfl, _, hcell⟩ := (HR.out.below HB2.out).at hkl
      obtain ⟨x, hx⟩ : ∃ x, x = l[k] := ⟨_, rfl⟩
      rw [← hx] at hcell
      obtain ⟨s, hs⟩ : ∃ s, s = n * l[k] / l.sum := ⟨_, rfl⟩
      have hcs : Hid (∀ W, Calls Try.prog 13 #[.int .i64 x, .int .i64 T, .int .i64 n] W (Drawn (.int .i64 s) W)) := Lib.hid fun W => by
        have h := share_c x T n W (by omega)
        rw [HT.out, hx, shareV_of l n HB1.out hb3 k hkl, ← hs] at h
        rw [HT.out, hx]; exact h
      have hsb : 0 ≤ s ∧ s ≤ n := by
        have := share_le (fair_of l n HB1.out hb3 _ (List.getElem_mem hkl))
        rw [← hs] at this; exact this
      obtain ⟨hs1, hs2⟩ := hsb
      obtain ⟨z, hz1, hz2⟩ := partsL_at l n k hkl
      rw [← hs] at hz2
      have hcp := (HP.out k z hz1).1
      have hze : (partsL l n)[k] = z := by rw [List.getElem?_eq_getElem hkp] at hz1; injection hz1
      have hsn := Lib.hid (sum_snoc (partsL l n) k hkp)
      rw [hze] at hsn
      obtain ⟨hS1, hS2⟩ := take_le (partsL l n) k (n + 1) HLE.out (by rw [partsL_length, ← HM.out]; exact h64) (by omega)
      generalize ((partsL l n).take k).sum = S at hsn hS1 hS2
      clear hx hs hz1 hze hkp
      rcases hz2 with hz2 | rfl
      · obtain rfl : s = z := hz2.symm
        have hb5 : (s != s) = false := by simp
        go_wp2_with (go_at_call 13; refine (hcs.out _).mono ?_; rintro e w' ⟨rfl, q', rfl⟩)
        go_roundw
        case rel => exact ⟨k + 1, _, by go_num, by rw [hsn.out], by omega, rfl⟩
        case measure => simp [intOf]; omega
      · have hb5 : (s + 1 != s) = true := by simp; omega
        have hb6 : (s + 1 != s + 1) = false := by simp
        go_wp2_with (go_at_call 13; refine (hcs.out _).mono ?_; rintro e w' ⟨rfl, q', rfl⟩)
        go_roundw
        case rel => exact ⟨k + 1, _, by go_num, by rw [hsn.out], by omega, rfl⟩
        case measure => simp [intOf]; omega
    · have hkm : k = m := by omega
      have e1 : (partsL l n).take k = partsL l n := by rw [hkm, HM.out, ← partsL_length l n, List.take_length]
      rw [e1, HSUM.out]
      clear e1 hkm
      go_wp2_with fail
      go_ret
      exact ⟨ret_b (by simp), below_drewN HB2.out _⟩

theorem lparts_any (A : Option Addr) (c : Nat) (l : List Int) (n : Int) (w : World) (hr : IRow .i64 w w.heap.size A l) (hl : l.length ≤ c) (hm : c ≤ maxLen) :
    Calls Try.prog 5 #[.slice A l.length c, .int .i64 n] w fun e w' => e = .returned (.bool true) ∧ Below w.heap.size w w' := by
  unfold maxLen at hm
  cases hb : partsB l n with
  | false => exact lparts_no A c l n w (by omega) hr hb
  | true => exact lparts_c A c l n w hr hb
end Go.Proofs.Ytaeondpeaabfeaa
