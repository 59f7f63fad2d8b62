/- Slots: Has, Free. -/
import Derived.Test.YtmjffgkolcdoeaaTa
namespace Go.Proofs.Ytmjffgkolcdoeaa
open Go.RowKit

def hasS (S : List SL) (id : Int) : Bool := decide (0 ≤ id) && (S[(id % 64).toNat]? == some ((id / 64).toNat, true))
theorem hasS_neg {S : List SL} {id : Int} (h : id < 0) : hasS S id = false := by
  unfold hasS; simp; omega
theorem hasS_out {S : List SL} {id : Int} (h : (S.length : Int) ≤ id % 64) : hasS S id = false := by
  unfold hasS
  rw [List.getElem?_eq_none (by omega)]
  simp
theorem hasS_in {S : List SL} {k q t : Nat} {c : Bool} (hk : k < 64) (hx : S[k]? = some (t, c)) : hasS S ((k + 64 * q : Nat) : Int) = (decide (t = q) && c) := by
  unfold hasS
  have h1 : (((k + 64 * q : Nat) : Int) % 64).toNat = k := by omega
  have h2 : (((k + 64 * q : Nat) : Int) / 64).toNat = q := by omega
  rw [h1, h2, hx]
  have : (0 : Int) ≤ ((k + 64 * q : Nat) : Int) := by omega
  rw [decide_eq_true this]
  by_cases h : t = q
  · subst h; cases c <;> simp
  · cases c <;> simp [h]

set_option maxHeartbeats 1000000 in
theorem has_c (b g : Nat) (S : List SL) (id : Int) (w : World) (h : IsS w b g S) (h3 : -9223372036854775808 ≤ id) (h4 : id ≤ 9223372036854775807) :
    Calls Try.prog 11 #[.pointer (some ⟨b, 0, none⟩), .int .i64 id] w fun e w' => e = .returned (.bool (hasS S id)) ∧ w = w' := by
  have cb := h.cb
  have hle := h.le
  have KP := Lib.hid (place_c id h3 h4 w)
  by_cases hn : id < 0
  · rw [hasS_neg hn]
    have e : placeV id = (-1, -1) := by unfold placeV; rw [if_pos hn]
    rw [e] at KP
    simp only at KP
    clear h
    go_enter Try.func11, Try.ntmps11
    go_wp2_with (go_at_call 10; refine (KP.out).mono ?_; rintro e w' ⟨rfl, rfl⟩)
    go_ret
    exact ⟨rfl, rfl⟩
  · obtain ⟨k, q, hkq, hk64⟩ : ∃ k q : Nat, id = ((k + 64 * q : Nat) : Int) ∧ k < 64 := ⟨(id % 64).toNat, (id / 64).toNat, by omega, by omega⟩
    have e : placeV id = ((k : Int), (q : Int)) := by unfold placeV; rw [if_neg hn]; simp only [Prod.mk.injEq]; omega
    rw [e] at KP
    simp only at KP
    have hq : q ≤ 144115188075855872 := by omega
    by_cases hkn : S.length ≤ k
    · rw [hasS_out (S := S) (id := id) (by omega)]
      obtain ⟨n, hn'⟩ : ∃ n, S.length = n := ⟨_, rfl⟩
      rw [hn'] at cb hle hkn
      clear h hkq hn'
      go_enter Try.func11, Try.ntmps11
      go_wp2_with (go_at_call 10; refine (KP.out).mono ?_; rintro e w' ⟨rfl, rfl⟩)
      go_ret
      exact ⟨rfl, rfl⟩
    · have hkn' : k < S.length := by omega
      obtain ⟨⟨t, c⟩, hx⟩ : ∃ x, S[k]? = some x := ⟨_, List.getElem?_eq_getElem hkn'⟩
      rw [hkq, hasS_in hk64 hx, ← hkq]
      have d0 := h.c0 hx
      have d1 := h.c1 hx
      simp only at d0 d1
      obtain ⟨n, hn'⟩ : ∃ n, S.length = n := ⟨_, rfl⟩
      rw [hn'] at cb hle hkn'
      clear h hkq hn' hkn hx
      go_enter Try.func11, Try.ntmps11
      go_wp2_with (go_at_call 10; refine (KP.out).mono ?_; rintro e w' ⟨rfl, rfl⟩)
      all_goals
        go_ret
        refine ⟨?_, rfl⟩
        cases c <;> simp_all <;> omega

/-- Free's answer, and what is left. -/
def freeS (S : List SL) (id : Int) : Int × List SL := if hasS S id then (0, S.set (id % 64).toNat ((id / 64).toNat + 1, false)) else (2, S)
/-- A call that turned the slots' two blocks alone. -/
def SPost (b g : Nat) (S : List SL) (w w' : World) : Prop := IsS w' b g S ∧ Trip (fun k => k = b ∨ k = g) w (fun k => k = b ∨ k = g) w'
theorem SPost.refl {b g : Nat} {S : List SL} {w : World} (h : IsS w b g S) : SPost b g S w w := ⟨h, Trip.refl (by rintro k (rfl | rfl); exact h.ltb; exact h.ltg)⟩
theorem setCell_s {w : World} {r i : Nat} {t : TypeId} {cs : Array Value} (v : Value) (h : w.heap[r]? = some (.cells cs t (0, 0))) : (w.setCell ⟨r, i, none⟩ v).heap[r]? = some (.cells (cs.setIfInBounds i v) t (0, 0)) := by
  have hlt : r < w.heap.size := (Array.getElem?_eq_some_iff.1 h).1
  simp [World.setCell, Array.getElem?_modify, h]
theorem setCell_o {w : World} {r i k : Nat} (v : Value) (h : k ≠ r) : (w.setCell ⟨r, i, none⟩ v).heap[k]? = w.heap[k]? := Below.heap_setCell w _ v k h
theorem setCell_z {w : World} {r i : Nat} (v : Value) : (w.setCell ⟨r, i, none⟩ v).heap.size = w.heap.size := by simp [World.setCell]
theorem trip_setg {b g i : Nat} {w : World} (v : Value) (hb : b < w.heap.size) (hg : g < w.heap.size) : Trip (fun k => k = b ∨ k = g) w (fun k => k = b ∨ k = g) (w.setCell ⟨g, i, none⟩ v) :=
  ⟨rfl, rfl, rfl, by rw [setCell_z]; exact Nat.le_refl _, fun k _ hk => setCell_o v (fun e => hk (.inr e)), fun _ h => .inl h, by rintro k (rfl | rfl) <;> rw [setCell_z] <;> assumption⟩
theorem IsS.set1 {w : World} {b g : Nat} {S : List SL} (h : IsS w b g S) {k t : Nat} {c : Bool} (hk : S[k]? = some (t, c)) (c' : Bool) : SPost b g (S.set k (t, c')) w (w.setCell ⟨g, k * 2 + 1, none⟩ (.bool c')) := by
  refine ⟨⟨?_, ?_, by rw [List.length_set]; exact h.pos, by rw [List.length_set]; exact h.le, h.ne⟩, trip_setg _ h.ltb h.ltg⟩
  · rw [setCell_o _ h.ne, List.length_set]; exact h.box
  · rw [setCell_s _ h.row, flatS_set1 hk c']; simp
theorem IsS.set2 {w : World} {b g : Nat} {S : List SL} (h : IsS w b g S) (k t : Nat) (c : Bool) : SPost b g (S.set k (t, c)) w ((w.setCell ⟨g, k * 2, none⟩ (.int .i64 t)).setCell ⟨g, k * 2 + 1, none⟩ (.bool c)) := by
  refine ⟨⟨?_, ?_, by rw [List.length_set]; exact h.pos, by rw [List.length_set]; exact h.le, h.ne⟩, (trip_setg _ h.ltb h.ltg).trans (trip_setg _ (by rw [setCell_z]; exact h.ltb) (by rw [setCell_z]; exact h.ltg))⟩
  · rw [setCell_o _ h.ne, setCell_o _ h.ne, List.length_set]; exact h.box
  · rw [setCell_s _ (setCell_s _ h.row), flatS_set]; simp

set_option maxHeartbeats 1000000 in
theorem free_c (b g : Nat) (S : List SL) (id : Int) (w : World) (h : IsS w b g S) (h3 : -9223372036854775808 ≤ id) (h4 : id ≤ 9223372036854775807) (hb : ∀ x ∈ S, x.1 ≤ 1000000) :
    Calls Try.prog 9 #[.pointer (some ⟨b, 0, none⟩), .int .i64 id] w fun e w' => e = .returned (.int .i64 (freeS S id).1) ∧ SPost b g (freeS S id).2 w w' := by
  have KH := Lib.hid (has_c b g S id w h h3 h4)
  unfold freeS
  cases hs : hasS S id with
  | false =>
    rw [hs] at KH
    have P := Lib.hid (SPost.refl h)
    simp only [Bool.false_eq_true, if_false]
    clear h
    go_enter Try.func9, Try.ntmps9
    go_wp2_with (go_at_call 11; refine (KH.out).mono ?_; rintro e w' ⟨rfl, rfl⟩)
    go_ret
    exact ⟨rfl, P.out⟩
  | true =>
    rw [hs] at KH
    have hs' := hs
    unfold hasS at hs'
    simp only [Bool.and_eq_true, decide_eq_true_eq, beq_iff_eq] at hs'
    obtain ⟨hn, hx⟩ := hs'
    obtain ⟨k, hk⟩ : ∃ k, (id % 64).toNat = k := ⟨_, rfl⟩
    obtain ⟨q, hq⟩ : ∃ q, (id / 64).toNat = q := ⟨_, rfl⟩
    rw [hk, hq] at hx
    have hqb : q ≤ 1000000 := hb (q, true) (List.mem_of_getElem? hx)
    have KP := Lib.hid (place_c id h3 h4 w)
    have e : placeV id = ((k : Int), (q : Int)) := by unfold placeV; rw [if_neg (by omega)]; simp only [Prod.mk.injEq]; omega
    rw [e] at KP
    simp only at KP
    rw [hk, hq]
    simp only [if_true]
    have hkn : k < S.length := (List.getElem?_eq_some_iff.1 hx).1
    have P := Lib.hid (h.set2 k (q + 1) false)
    have cb := h.cb
    have d0 := h.c0 hx
    have d1 := h.c1 hx
    simp only at d0 d1
    have f0 := h.frozen (k * 2)
    have f1 := h.frozen (k * 2 + 1)
    have hle := h.le
    obtain ⟨n, hn'⟩ : ∃ n, S.length = n := ⟨_, rfl⟩
    rw [hn'] at cb hle hkn
    clear h hn' hs hx hk hq hb e
    go_enter Try.func9, Try.ntmps9
    go_wp2_with (first | (go_at_call 11; refine (KH.out).mono ?_; rintro e w' ⟨rfl, rfl⟩) | (go_at_call 10; refine (KP.out).mono ?_; rintro e w' ⟨rfl, rfl⟩))
    go_ret
    exact ⟨rfl, P.out⟩
end Go.Proofs.Ytmjffgkolcdoeaa
