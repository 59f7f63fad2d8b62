/- Slots that a law makes; law 6's awake; what becomes of a row of slots all alike. -/
import Derived.Test.YtmjffgkolcdoeaaTe
namespace Go.Proofs.Ytmjffgkolcdoeaa
open Go.RowKit

structure SAt (W w : World) (b g : Nat) (S : List SL) : Prop where
  is : IsS w b g S
  nb : W.heap.size ≤ b
  ng : W.heap.size ≤ g
  fr : Below W.heap.size W w
theorem SAt.below {W w w' : World} {b g : Nat} {S : List SL} (h : SAt W w b g S) (hb : Below w.heap.size w w') : SAt W w' b g S :=
  ⟨h.is.below hb, h.nb, h.ng, h.fr.trans (hb.mono h.fr.size)⟩
theorem SAt.post {W w w' : World} {b g : Nat} {S S' : List SL} (h : SAt W w b g S) (hp : SPost b g S' w w') : SAt W w' b g S' :=
  ⟨hp.1, h.nb, h.ng, h.fr.trans (hp.2.below (by rintro k (rfl | rfl); exact h.nb; exact h.ng) h.fr.size)⟩
theorem new_in {W w : World} (hW : Below W.heap.size W w) (most : Int) :
    Calls Try.prog 7 #[.int .i64 most] w fun e w' => ∃ b g, e = .returned (.pointer (some ⟨b, 0, none⟩)) ∧ SAt W w' b g (List.replicate (clampS most) (0, false)) ∧ w.heap.size ≤ b ∧ w.heap.size ≤ g ∧ Below w.heap.size w w' := by
  refine (new_c most w).mono ?_
  rintro e w' ⟨b, rfl, h1, h2, h3⟩
  have := hW.size
  exact ⟨b, _, rfl, ⟨h1, by omega, this, hW.trans (h3.mono this)⟩, h2, Nat.le_refl _, h3⟩
theorem take_in {W w : World} {b g : Nat} {S S' : List SL} {x y : Int} (h : SAt W w b g S) (hb : ∀ x ∈ S, x.1 ≤ 1000000) (e : takeS S = (x, y, S')) :
    Calls Try.prog 8 #[.pointer (some ⟨b, 0, none⟩)] w fun e w' => e = .returned (.tuple #[.int .i64 x, .int .i64 y]) ∧ SAt W w' b g S' ∧ Trip (fun k => k = b ∨ k = g) w (fun k => k = b ∨ k = g) w' := by
  have := take_c b g S w h.is hb
  rw [e] at this
  refine this.mono ?_
  rintro e w' ⟨rfl, h1⟩
  exact ⟨rfl, h.post h1, h1.2⟩
theorem free_in {W w : World} {b g : Nat} {S S' : List SL} {id y : Int} (h : SAt W w b g S) (h3 : -9223372036854775808 ≤ id) (h4 : id ≤ 9223372036854775807) (hb : ∀ x ∈ S, x.1 ≤ 1000000) (e : freeS S id = (y, S')) :
    Calls Try.prog 9 #[.pointer (some ⟨b, 0, none⟩), .int .i64 id] w fun e w' => e = .returned (.int .i64 y) ∧ SAt W w' b g S' ∧ Trip (fun k => k = b ∨ k = g) w (fun k => k = b ∨ k = g) w' := by
  have := free_c b g S id w h.is h3 h4 hb
  rw [e] at this
  refine this.mono ?_
  rintro e w' ⟨rfl, h1⟩
  exact ⟨rfl, h.post h1, h1.2⟩
theorem len_in {W w : World} {b g : Nat} {S : List SL} {n : Nat} (h : SAt W w b g S) (e : (placesL S true).length = n) :
    Calls Try.prog 14 #[.pointer (some ⟨b, 0, none⟩)] w fun e w' => e = .returned (.int .i64 n) ∧ SAt W w' b g S ∧ Below w.heap.size w w' := by
  have := len_c b g S w h.is
  rw [e] at this
  refine this.mono ?_
  rintro e w' ⟨rfl, h1⟩
  exact ⟨rfl, h.below h1, h1⟩

set_option maxRecDepth 100000 in
set_option maxHeartbeats 2000000 in
theorem awake6_c (W : World) : Calls Try.prog 6 #[] W fun e w' => e = .returned (.bool true) ∧ Below W.heap.size W w' := by
  go_enter Try.func6, Try.ntmps6
  go_wp2_with fail
  refine (new_in (Below.refl _ W) 4).mono ?_
  rintro e w1 ⟨b, g, rfl, h1, _, _, _⟩
  have H1 := Lib.hid (show SAt W w1 b g [(0, false), (0, false), (0, false), (0, false)] from h1)
  clear h1
  go_wp2_with fail
  refine (take_in (x := 0) (y := 0) (S' := [(0, true), (0, false), (0, false), (0, false)]) H1.out (by decide) (by rfl)).mono ?_
  rintro e w2 ⟨rfl, h2, _⟩
  have H2 := Lib.hid h2
  clear h2 H1
  go_wp2_with fail
  refine (take_in (x := 1) (y := 0) (S' := [(0, true), (0, true), (0, false), (0, false)]) H2.out (by decide) (by rfl)).mono ?_
  rintro e w3 ⟨rfl, h3, _⟩
  have H3 := Lib.hid h3
  clear h3 H2
  go_wp2_with fail
  refine (free_in (y := 0) (S' := [(1, false), (0, true), (0, false), (0, false)]) H3.out (by decide) (by decide) (by decide) (by rfl)).mono ?_
  rintro e w4 ⟨rfl, h4, _⟩
  have H4 := Lib.hid h4
  clear h4 H3
  go_wp2_with fail
  refine (take_in (x := 64) (y := 0) (S' := [(1, true), (0, true), (0, false), (0, false)]) H4.out (by decide) (by rfl)).mono ?_
  rintro e w5 ⟨rfl, h5, _⟩
  have H5 := Lib.hid h5.fr
  clear h5 H4
  go_wp2_with fail
  go_ret
  exact ⟨rfl, H5.out⟩

theorem places_none {S : List SL} {c : Bool} {k : Nat} (_hk : k ≤ S.length) (h : ∀ j, j < k → ∃ t, S[j]? = some (t, !c)) : placesTo S c k = [] := by
  unfold placesTo
  rw [List.filter_eq_nil_iff]
  intro j hj
  obtain ⟨t, ht⟩ := h j (List.mem_range.1 hj)
  rw [ht]
  cases c <;> simp
theorem places_all {S : List SL} {c : Bool} (h : ∀ j, j < S.length → ∃ t, S[j]? = some (t, c)) : placesL S c = List.range S.length := by
  unfold placesL placesTo
  rw [List.filter_eq_self]
  intro j hj
  obtain ⟨t, ht⟩ := h j (List.mem_range.1 hj)
  rw [ht]
  simp
theorem takeS_at {S : List SL} {k t : Nat} (h : ∀ j, j < k → ∃ t', S[j]? = some (t', true)) (hk : S[k]? = some (t, false)) : takeS S = ((k : Int) + 64 * (t : Int), 0, S.set k (t, true)) := by
  have hkl := (List.getElem?_eq_some_iff.1 hk).1
  have h1 : placesTo S false (k + 1) = [k] := by rw [placesTo_yes hk, places_none (by omega) h]; rfl
  obtain ⟨r, hr⟩ := placesTo_le S false (show k + 1 ≤ S.length by omega)
  rw [h1] at hr
  rw [takeS_some (r := r) (show placesL S false = k :: r from hr.symm) hk]
  simp
theorem takeS_full {S : List SL} (h : ∀ j, j < S.length → ∃ t', S[j]? = some (t', true)) : takeS S = (0, 3, S) := takeS_none (places_none (Nat.le_refl _) h)

/-- A row of slots at turn T, the first i taken. -/
def roomT (m T i : Nat) : List SL := (List.range m).map (fun j => (T, decide (j < i)))
/-- A row of slots of which the first i have been freed. -/
def roomF (m T i : Nat) : List SL := (List.range m).map (fun j => if j < i then (T + 1, false) else (T, true))
theorem roomT_get {m T i j : Nat} (h : j < m) : (roomT m T i)[j]? = some (T, decide (j < i)) := by simp [roomT, h]
theorem roomF_get {m T i j : Nat} (h : j < m) : (roomF m T i)[j]? = some (if j < i then (T + 1, false) else (T, true)) := by simp [roomF, h]
theorem roomT_length (m T i : Nat) : (roomT m T i).length = m := by simp [roomT]
theorem roomF_length (m T i : Nat) : (roomF m T i).length = m := by simp [roomF]
theorem roomT_set {m T i : Nat} (_h : i < m) : (roomT m T i).set i (T, true) = roomT m T (i + 1) := by
  apply List.ext_getElem?
  intro j
  by_cases hj : j < m
  · rw [roomT_get hj, List.getElem?_set]
    split
    · rename_i e
      subst e
      simp [roomT_length, hj]
    · rename_i e
      rw [roomT_get hj]
      simp
      omega
  · rw [List.getElem?_eq_none (by simp [roomT_length]; omega), List.getElem?_eq_none (by simp [roomT_length]; omega)]
theorem roomF_set {m T i : Nat} (_h : i < m) : (roomF m T i).set i (T + 1, false) = roomF m T (i + 1) := by
  apply List.ext_getElem?
  intro j
  by_cases hj : j < m
  · rw [roomF_get hj, List.getElem?_set]
    split
    · rename_i e
      subst e
      simp [roomF_length, hj]
    · rename_i e
      rw [roomF_get hj]
      have : (j < i) = (j < i + 1) := by apply propext; omega
      simp only [this]
  · rw [List.getElem?_eq_none (by simp [roomF_length]; omega), List.getElem?_eq_none (by simp [roomF_length]; omega)]
theorem roomT_take {m T i : Nat} (h : i < m) : takeS (roomT m T i) = ((i : Int) + 64 * (T : Int), 0, roomT m T (i + 1)) := by
  rw [takeS_at (k := i) (t := T) (fun j hj => ⟨T, by rw [roomT_get (by omega)]; simp [hj]⟩) (by rw [roomT_get h]; simp), roomT_set h]
theorem roomT_full (m T : Nat) : takeS (roomT m T m) = (0, 3, roomT m T m) :=
  takeS_full (fun j hj => by rw [roomT_length] at hj; exact ⟨T, by rw [roomT_get hj]; simp [hj]⟩)
theorem roomT_len (m T : Nat) : (placesL (roomT m T m) true).length = m := by
  rw [places_all (fun j hj => by rw [roomT_length] at hj; exact ⟨T, by rw [roomT_get hj]; simp [hj]⟩)]
  simp [roomT_length]
theorem roomT_none (m T : Nat) : (placesL (roomT m T 0) true).length = 0 := by
  unfold placesL
  rw [places_none (Nat.le_refl _) (fun j hj => by rw [roomT_length] at hj; exact ⟨T, by rw [roomT_get hj]; simp⟩)]
  rfl
theorem roomF_free {m T i : Nat} (h : i < m) (hm : m ≤ 64) : freeS (roomF m T i) ((i : Int) + 64 * (T : Int)) = (0, roomF m T (i + 1)) := by
  have e : (i : Int) + 64 * (T : Int) = ((i + 64 * T : Nat) : Int) := by omega
  unfold freeS
  rw [e, hasS_in (k := i) (q := T) (t := T) (c := true) (by omega) (by rw [roomF_get h]; simp)]
  rw [show (((i + 64 * T : Nat) : Int) % 64).toNat = i by omega, show (((i + 64 * T : Nat) : Int) / 64).toNat = T by omega, roomF_set h]
  simp
theorem roomF_zero (m T : Nat) : roomF m T 0 = roomT m T m := by
  unfold roomF roomT
  apply List.map_congr_left
  intro j hj
  have := List.mem_range.1 hj
  simp [this]
theorem roomF_end (m T : Nat) : roomF m T m = roomT m (T + 1) 0 := by
  unfold roomF roomT
  apply List.map_congr_left
  intro j hj
  have := List.mem_range.1 hj
  simp [this]
theorem roomT_zero (m : Nat) : List.replicate m ((0, false) : SL) = roomT m 0 0 := by
  unfold roomT
  apply List.ext_getElem?
  intro j
  simp [List.getElem?_replicate]
  split <;> simp_all
theorem roomT_bd {m T i : Nat} (h : T ≤ 1000) : ∀ x ∈ roomT m T i, x.1 ≤ 1000000 := by
  intro x hx
  unfold roomT at hx
  obtain ⟨j, _, rfl⟩ := List.mem_map.1 hx
  show T ≤ 1000000
  omega
theorem roomF_bd {m T i : Nat} (h : T ≤ 1000) : ∀ x ∈ roomF m T i, x.1 ≤ 1000000 := by
  intro x hx
  unfold roomF at hx
  obtain ⟨j, _, rfl⟩ := List.mem_map.1 hx
  split <;> simp <;> omega
end Go.Proofs.Ytmjffgkolcdoeaa
