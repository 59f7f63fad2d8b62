/- longs; Parts by a value; awake. -/
import Derived.Test.YtaeondpeaabfeaaPc
namespace Go.Proofs.Ytaeondpeaabfeaa
open Go.RowKit Go.Sort

set_option maxHeartbeats 1000000 in
theorem longs_eq (A A' : Option Addr) (n c c' B : Nat) (l : List Int) (w : World) (hn : l.length = n) (hl : n ≤ 9223372036854775807) (hr : IRow .i64 w B A l) (hr' : IRow .i64 w B A' l) :
    Calls Try.prog 16 #[.slice A n c, .slice A' n c'] w (Drawn (.bool true) w) := by
  have HR := Lib.hid hr
  have HR' := Lib.hid hr'
  have HN := Lib.hid hn
  clear hr hr' hn
  go_enter Try.func16, Try.ntmps16
  go_wp2_with fail
  go_loopw [5] (fun i wr => ∃ k q : Nat, i = .int .i64 k ∧ k ≤ n ∧ wr = w.drewN q) (fun i _ => n - (intOf i).toNat)
  case atStart => exact ⟨0, 0, rfl, Nat.zero_le _, rfl⟩
  case round =>
    obtain ⟨k, q, rfl, hk, rfl⟩ := hrel
    by_cases hlt : k < n
    · have hkl : k < l.length := by rw [HN.out]; exact hlt
      obtain ⟨ad, rfl, _, hc⟩ := HR.out.at hkl
      obtain ⟨ad', rfl, _, hc'⟩ := HR'.out.at hkl
      obtain ⟨x, hx⟩ : ∃ x, x = l[k] := ⟨_, rfl⟩
      rw [← hx] at hc hc'
      clear hx
      go_wp2_with fail
      go_quiet (fail)
      go_wp2_with fail
      go_roundw
      case rel => exact ⟨k + 1, _, by go_num, by omega, rfl⟩
      case measure => simp [intOf]; omega
    · go_wp2_with fail
      go_ret
      exact ⟨rfl, _, rfl⟩

/-- The places of a row by what stands there. -/
def ordL (o : List Int) : List Int := (iota o.length).toList.mergeSort (fun x y => !lexB (keyO o) y x)
theorem lexB_total (o : Int → Int) (x y : Int) (h1 : lexB o x y = false) (h2 : lexB o y x = false) : x = y := by
  rw [lexB_false] at h1 h2; omega
theorem merged_ord {o : List Int} {d' : Array Int} (h : Merged (lexB (keyO o)) 0 o.length (iota o.length) d') : d'.toList = ordL o := by
  have hz := iota_size o.length
  refine sorted_unique_holds (lexB_swo _) (lexB_total _) (iota o.length) d' ?_ ?_
  · rw [hz]; exact h.1
  · rw [hz]; exact h.2
/-- What Parts gives. -/
def partsL (l : List Int) (n : Int) : List Int := bumps (shL l n) (((ordL (ofL l n)).take (n - (shL l n).sum).toNat).map Int.toNat)
theorem partsL_length (l : List Int) (n : Int) : (partsL l n).length = l.length := by unfold partsL; rw [bumps_length, shL_length]

def PartsRet (w : World) (l : List Int) (n : Int) (e : Ending) (w' : World) : Prop :=
  ∃ g : Nat, e = .returned (.slice (some ⟨g, 0, none⟩) l.length l.length) ∧ w.heap.size ≤ g ∧ g < w'.heap.size ∧ RowAt w' g (partsL l n) ∧ Below w.heap.size w w'
theorem parts_v (A : Option Addr) (m c : Nat) (l : List Int) (n : Int) (w : World) (hm : l.length = m) (hr : IRow .i64 w w.heap.size A l) (hb : partsB l n = true) :
    Calls Try.prog 15 #[.slice A m c, .int .i64 n] w (PartsRet w l n) := by
  subst hm
  refine (parts_c A c l n w hr hb).mono ?_
  rintro e w' ⟨g, d', h1, h2, h3, h4, h5, h6⟩
  refine ⟨g, h1, h2, h3, ?_, h6⟩
  have h7 := merged_ord (o := ofL l n) (d' := d') (by rw [ofL_length]; exact h4)
  unfold partsL
  rw [← h7]; exact h5

/-- The places, if they are known. -/
theorem ordL_of {o : List Int} (e : Array Int) (h : Merged (lexB (keyO o)) 0 o.length (iota o.length) e) : ordL o = e.toList := (merged_ord h).symm
theorem sorted_of_adj {o : List Int} {e : Array Int} {n : Nat} (h : ∀ i, i + 1 < n → lexB (keyO o) e[i + 1]! e[i]! = false) : SortedIn (lexB (keyO o)) 0 n e := by
  intro i j _ hij hj
  induction j with
  | zero => omega
  | succ j ih =>
    by_cases e1 : i = j
    · subst e1; exact h i hj
    · exact (lexB_swo _).ntrans _ _ _ (h j hj) (ih (by omega) (by omega))

theorem partsL_12 : partsL [1, 2] 4 = [1, 3] := by
  have h : ordL (ofL [1, 2] 4) = [1, 0] := by
    refine ordL_of #[1, 0] ⟨⟨rfl, ?_, by decide⟩, sorted_of_adj ?_⟩
    · intro i hi
      have hi : 2 ≤ i := by
        rcases hi with hi | hi
        · omega
        · exact hi
      rw [getElem!_neg _ i (by simp; omega), getElem!_neg _ i (by rw [iota_size]; simp [ofL]; omega)]
    · intro i hi
      have hi : i + 1 < 2 := hi
      obtain rfl : i = 0 := by omega
      decide
  unfold partsL
  rw [h]
  decide
theorem partsL_111 : partsL [1, 1, 1] 5 = [2, 2, 1] := by
  have h : ordL (ofL [1, 1, 1] 5) = [0, 1, 2] := by
    refine ordL_of #[0, 1, 2] ⟨⟨rfl, ?_, by decide⟩, sorted_of_adj ?_⟩
    · intro i hi
      have hi : 3 ≤ i := by
        rcases hi with hi | hi
        · omega
        · exact hi
      rw [getElem!_neg _ i (by simp; omega), getElem!_neg _ i (by rw [iota_size]; simp [ofL]; omega)]
    · intro i hi
      have hi : i + 1 < 3 := hi
      rcases (by omega : i = 0 ∨ i = 1) with rfl | rfl
      · decide
      · decide
  unfold partsL
  rw [h]
  decide
end Go.Proofs.Ytaeondpeaabfeaa
