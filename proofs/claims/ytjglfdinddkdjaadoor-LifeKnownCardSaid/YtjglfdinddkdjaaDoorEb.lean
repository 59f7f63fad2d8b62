/- Package life: Next, Ways, Waits, Name. -/
import Derived.Test.YtjglfdinddkdjaaDoorEa
namespace Go.Proofs.YtjglfdinddkdjaaDoor
open Go.RowKit

theorem info_intE : (Tryd.prog.info? 3).map (fun i => (i.zero, i.size, i.bytes)) = some (some (.int .i64 0), 1, 8) := by kernel_rfl
theorem info_row : (Tryd.prog.info? 31).map (fun i => (i.zero.map (·.cells.size), i.size, i.bytes)) = some (some 9, 9, 72) := by kernel_rfl

/-- What an action leads to, and the error. -/
def nextV (s a : Int) : Int × Int :=
  if s < 0 ∨ 6 < s ∨ a < 1 ∨ 8 < a then (0, 1)
  else
    let t := (((rowL[s.toNat]?).getD [])[a.toNat]?).getD 0
    if t = 0 then (0, 4) else (t, 0)
theorem nextV_out {s a : Int} (h : s < 0 ∨ 6 < s ∨ a < 1 ∨ 8 < a) : nextV s a = (0, 1) := by unfold nextV; rw [if_pos h]
theorem row_some {s a : Nat} (hs : s < 7) (ha : a < 9) : ∃ z, ((rowL[s]?).getD [])[a]? = some z ∧ (((rowL[s]?).getD [])[a]?).getD 0 = z := by
  have h : ∀ s < 7, ∀ a < 9, (((rowL[s]?).getD [])[a]?).isSome = true := by decide
  obtain ⟨z, hz⟩ := Option.isSome_iff_exists.1 (h s hs a ha)
  exact ⟨z, hz, by rw [hz]; rfl⟩

set_option maxRecDepth 100000 in
theorem known_c (s : Int) (w : World) : Calls Tryd.prog 13 #[.int .i64 s] w fun e w' => e = .returned (.bool (decide (0 ≤ s ∧ s ≤ 6))) ∧ w = w' := by
  by_cases h1 : 0 ≤ s
  · by_cases h2 : s ≤ 6
    · have hd : decide (0 ≤ s ∧ s ≤ 6) = true := by simp; omega
      rw [hd]
      go_enter Tryd.func13, Tryd.ntmps13
      go_wp2_with fail
      go_ret
      exact ⟨rfl, rfl⟩
    · have hd : decide (0 ≤ s ∧ s ≤ 6) = false := by simp; omega
      rw [hd]
      go_enter Tryd.func13, Tryd.ntmps13
      go_wp2_with fail
      go_ret
      exact ⟨rfl, rfl⟩
  · have hd : decide (0 ≤ s ∧ s ≤ 6) = false := by simp; omega
    rw [hd]
    go_enter Tryd.func13, Tryd.ntmps13
    go_wp2_with fail
    go_ret
    exact ⟨rfl, rfl⟩

set_option maxRecDepth 100000 in
theorem waits_c (s : Int) (w : World) : Calls Tryd.prog 12 #[.int .i64 s] w fun e w' => e = .returned (.bool (decide (s = 2 ∨ s = 3))) ∧ w = w' := by
  by_cases h1 : s = 2
  · subst h1
    go_enter Tryd.func12, Tryd.ntmps12
    go_wp2_with fail
    go_ret
    exact ⟨rfl, rfl⟩
  · by_cases h2 : s = 3
    · subst h2
      go_enter Tryd.func12, Tryd.ntmps12
      go_wp2_with fail
      go_ret
      exact ⟨rfl, rfl⟩
    · have hd : decide (s = 2 ∨ s = 3) = false := by simp; omega
      rw [hd]
      go_enter Tryd.func12, Tryd.ntmps12
      go_wp2_with fail
      go_ret
      exact ⟨by simp [h1, h2], rfl⟩

set_option maxRecDepth 100000 in
theorem next_c (s a : Int) (w : World) (hT : Tabs w) :
    Calls Tryd.prog 7 #[.int .i64 s, .int .i64 a] w fun e w' => e = .returned (.tuple #[.int .i64 (nextV s a).1, .int .i64 (nextV s a).2]) ∧ w = w' := by
  by_cases hk : 0 ≤ s ∧ s ≤ 6
  · have K := Lib.hid (known_c s)
    rw [decide_eq_true hk] at K
    by_cases h1 : a < 1
    · rw [nextV_out (by omega)]
      go_enter Tryd.func7, Tryd.ntmps7
      go_wp2_with fail
      refine (K.out _).mono ?_
      rintro e w1 ⟨rfl, rfl⟩
      go_wp2_with fail
      go_ret2
      exact ⟨rfl, rfl⟩
    · by_cases h2 : 8 < a
      · rw [nextV_out (by omega)]
        go_enter Tryd.func7, Tryd.ntmps7
        go_wp2_with fail
        refine (K.out _).mono ?_
        rintro e w1 ⟨rfl, rfl⟩
        go_wp2_with fail
        go_ret2
        exact ⟨rfl, rfl⟩
      · obtain ⟨k, rfl⟩ : ∃ k : Nat, s = k := ⟨s.toNat, by omega⟩
        obtain ⟨j, rfl⟩ : ∃ j : Nat, a = j := ⟨a.toNat, by omega⟩
        have hk7 : k < 7 := by omega
        have hj9 : j < 9 := by omega
        obtain ⟨z, hz, hzd⟩ := row_some hk7 hj9
        have hc := hT.1 k j z hk7 hj9 hz
        have hv : nextV (k : Int) (j : Int) = if z = 0 then (0, 4) else (z, 0) := by
          unfold nextV
          rw [if_neg (by omega)]
          simp only [Int.toNat_natCast, hzd]
        rw [hv]
        clear hT hv hzd hz
        by_cases hz0 : z = 0
        · subst hz0
          rw [if_pos rfl]
          go_enter Tryd.func7, Tryd.ntmps7
          go_wp2_with fail
          refine (K.out _).mono ?_
          rintro e w1 ⟨rfl, rfl⟩
          go_wp2_with fail
          go_ret2
          exact ⟨rfl, rfl⟩
        · rw [if_neg hz0]
          go_enter Tryd.func7, Tryd.ntmps7
          go_wp2_with fail
          refine (K.out _).mono ?_
          rintro e w1 ⟨rfl, rfl⟩
          go_wp2_with fail
          go_ret2
          exact ⟨rfl, rfl⟩
  · have K := Lib.hid (known_c s)
    rw [decide_eq_false hk] at K
    rw [nextV_out (by omega)]
    go_enter Tryd.func7, Tryd.ntmps7
    go_wp2_with fail
    refine (K.out _).mono ?_
    rintro e w1 ⟨rfl, rfl⟩
    go_wp2_with fail
    go_ret2
    exact ⟨rfl, rfl⟩

/-- The name of a state. -/
def nameV (s : Int) : List UInt8 := if s < 0 ∨ 6 < s then [63] else (nameL[s.toNat]?).getD []

set_option maxRecDepth 100000 in
theorem name_c (s : Int) (w : World) (hT : Tabs w) : Calls Tryd.prog 10 #[.int .i64 s] w fun e w' => e = .returned (.string ⟨(nameV s).toArray⟩) ∧ w = w' := by
  have K := Lib.hid (known_c s)
  by_cases hk : 0 ≤ s ∧ s ≤ 6
  · rw [decide_eq_true hk] at K
    obtain ⟨k, rfl⟩ : ∃ k : Nat, s = k := ⟨s.toNat, by omega⟩
    have hk7 : k < 7 := by omega
    obtain ⟨bs, hb⟩ : ∃ bs, nameL[k]? = some bs := Option.isSome_iff_exists.1 ((show ∀ k < 7, (nameL[k]?).isSome = true by decide) k hk7)
    have hc := hT.2 k bs hb
    have hv : nameV (k : Int) = bs := by
      unfold nameV
      rw [if_neg (by omega), Int.toNat_natCast, hb]; rfl
    rw [hv]
    clear hT hv hb
    go_enter Tryd.func10, Tryd.ntmps10
    go_wp2_with fail
    refine (K.out _).mono ?_
    rintro e w1 ⟨rfl, rfl⟩
    go_wp2_with fail
    go_ret
    exact ⟨rfl, rfl⟩
  · rw [decide_eq_false hk] at K
    have hv : nameV s = [63] := by unfold nameV; rw [if_pos (by omega)]
    rw [hv]
    go_enter Tryd.func10, Tryd.ntmps10
    go_wp2_with fail
    refine (K.out _).mono ?_
    rintro e w1 ⟨rfl, rfl⟩
    go_wp2_with fail
    go_ret
    exact ⟨rfl, rfl⟩

/-- The actions below n that a state allows. -/
def waysTo (s : Int) (n : Nat) : List Int := ((List.range n).filter fun (a : Nat) => (nextV s (a : Int)).2 == 0).map fun (a : Nat) => (a : Int)
theorem waysTo_hit {s : Int} {n : Nat} (h : (nextV s n).2 = 0) : waysTo s (n + 1) = waysTo s n ++ [(n : Int)] := by
  unfold waysTo
  rw [List.range_succ, List.filter_append, List.map_append]
  simp [h]
theorem waysTo_miss {s : Int} {n : Nat} (h : (nextV s n).2 ≠ 0) : waysTo s (n + 1) = waysTo s n := by
  unfold waysTo
  rw [List.range_succ, List.filter_append]
  simp [h]
theorem waysTo_len (s : Int) (n : Nat) : (waysTo s n).length ≤ n := by
  unfold waysTo
  rw [List.length_map]
  exact Nat.le_trans (List.length_filter_le _ _) (by simp)
theorem waysTo_one (s : Int) : waysTo s 1 = [] := by
  have : waysTo s (0 + 1) = waysTo s 0 := waysTo_miss (by rw [nextV_out (by right; right; left; decide)]; decide)
  rw [this]; rfl

set_option maxRecDepth 100000 in
set_option maxHeartbeats 1000000 in
theorem ways_c (s : Int) (w : World) (hT : Tabs w) : Calls Tryd.prog 9 #[.int .i64 s] w fun e w' => ∃ v, e = .returned v ∧ OwnI .i64 w' w.heap.size 3 v (waysTo s 9) ∧ Below w.heap.size w w' := by
  obtain ⟨i0, hi, hz0, hz1, hz2⟩ : ∃ i, Tryd.prog.info? 3 = some i ∧ i.zero = some (.int .i64 0) ∧ i.size = 1 ∧ i.bytes = 8 := by
    cases hq : Tryd.prog.info? 3 with
    | none => have := info_intE; rw [hq] at this; simp at this
    | some i => have := info_intE; rw [hq] at this; simp at this; exact ⟨i, rfl, this⟩
  have HT := Lib.hid hT
  clear hT
  go_enter Tryd.func9, Tryd.ntmps9
  go_wp2_with fail
  go_loopw [3, 4] (fun v c wr => ∃ k : Nat, c = .int .i64 k ∧ 1 ≤ k ∧ k ≤ 9 ∧ OwnI .i64 wr w.heap.size 3 v (waysTo s k) ∧ Below w.heap.size w wr) (fun _ c _ => 9 - (intOf c).toNat)
  case atStart => exact ⟨1, rfl, by omega, by omega, by rw [waysTo_one]; exact OwnI.nil _ _ _ _, Below.refl _ _⟩
  case round =>
    obtain ⟨k, rfl, hk1, hk, hv, hb⟩ := hrel
    have hbs := hb.size
    have K := Lib.hid (next_c s k wr (HT.out.below hb (Nat.le_refl _)))
    have HB := Lib.hid hb
    have HV := Lib.hid hv
    clear hb
    by_cases hlt : k < 9
    · have hlt' : (k : Int) ≤ 8 := by omega
      have hlen := waysTo_len s k
      by_cases h0 : (nextV s k).2 = 0
      · have e1 := waysTo_hit h0
        generalize hl : waysTo s k = l at *
        generalize hn : nextV s k = p at *
        obtain ⟨p1, p2⟩ := p
        have H0 : p2 = 0 := h0
        subst H0
        have E1 := Lib.hid e1
        clear e1 h0 hn hl
        go_wp2_with fail
        refine K.out.mono ?_
        rintro e w1 ⟨rfl, rfl⟩
        go_wp2_with (at_builtin; refine wpList_app1 rfl _ _ 23 rfl w.heap.size 3 i0 8 0 Tryd.underlying23 hi hz0 hz1 hz2 _ _ rfl hv k rfl (by omega) (by omega) hbs ?_; intro v' w' hv' hb')
        go_roundw
        case rel => exact ⟨k + 1, by go_num, by omega, by omega, by rw [E1.out]; exact hv', HB.out.trans hb'⟩
        case measure => simp [intOf]; omega
      · have e1 := waysTo_miss h0
        generalize hn : nextV s k = p at *
        obtain ⟨p1, p2⟩ := p
        have H0 : ¬ p2 = 0 := h0
        have E1 := Lib.hid e1
        clear e1 h0 hn
        go_wp2_with fail
        refine K.out.mono ?_
        rintro e w1 ⟨rfl, rfl⟩
        go_wp2_with fail
        go_roundw
        case rel => exact ⟨k + 1, by go_num, by omega, by omega, by rw [E1.out]; exact HV.out, HB.out⟩
        case measure => simp [intOf]; omega
    · obtain rfl : k = 9 := by omega
      go_wp2_with fail
      go_ret
      exact ⟨_, rfl, HV.out, HB.out⟩
end Go.Proofs.YtjglfdinddkdjaaDoor
