/- Plain arithmetic: numbers of base 2^16 by their digits. No program is named here. -/
import Derived.Test.YtaeondpeaabfeaaNumb
namespace Go.Proofs.Ytaeondpeaabfeaa

/-- The number whose digits of base 2^16 are f 0, f 1, .. f (n - 1). -/
def V (f : Nat → Int) : Nat → Int
  | 0 => 0
  | n + 1 => V f n + f n * 65536 ^ n
/-- A list's digits, 0 beyond its end. -/
def dg (l : List Int) (j : Nat) : Int := l.getD j 0
def val (l : List Int) : Int := V (dg l) l.length
/-- Each digit is one. -/
def Dig (l : List Int) : Prop := ∀ d ∈ l, 0 ≤ d ∧ d < 65536

theorem dg_lt {l : List Int} {j : Nat} (h : j < l.length) : dg l j = l[j] := by simp [dg, h]
theorem dg_ge {l : List Int} {j : Nat} (h : l.length ≤ j) : dg l j = 0 := by simp [dg, List.getElem?_eq_none h]
theorem Dig.at {l : List Int} (h : Dig l) (j : Nat) : 0 ≤ dg l j ∧ dg l j < 65536 := by
  by_cases hj : j < l.length
  · rw [dg_lt hj]; exact h _ (List.getElem_mem _)
  · rw [dg_ge (by omega)]; omega
theorem dg_append_lt {l m : List Int} {j : Nat} (h : j < l.length) : dg (l ++ m) j = dg l j := by
  simp [dg, List.getElem?_append_left h]
theorem dg_append_at {l : List Int} {x : Int} : dg (l ++ [x]) l.length = x := by simp [dg]
theorem dg_set_at {l : List Int} {j : Nat} {x : Int} (h : j < l.length) : dg (l.set j x) j = x := by simp [dg, h]
theorem dg_set_ne {l : List Int} {i j : Nat} {x : Int} (h : i ≠ j) : dg (l.set i x) j = dg l j := by simp [dg, List.getElem?_set_ne h]

theorem V_congr {f g : Nat → Int} : ∀ {n : Nat}, (∀ j, j < n → f j = g j) → V f n = V g n
  | 0, _ => rfl
  | n + 1, h => by
    have ih := V_congr (n := n) fun j hj => h j (by omega)
    simp only [V, ih, h n (by omega)]
theorem pow_pos' (n : Nat) : (0 : Int) < 65536 ^ n := Int.pow_pos (by omega)
theorem V_bound {f : Nat → Int} (hf : ∀ j, 0 ≤ f j ∧ f j < 65536) : ∀ n, 0 ≤ V f n ∧ V f n < 65536 ^ n
  | 0 => by simp [V]
  | n + 1 => by
    have ih := V_bound hf n
    have hp := pow_pos' n
    have h1 : 0 ≤ f n * 65536 ^ n := Int.mul_nonneg (hf n).1 (by omega)
    have h2 : f n * 65536 ^ n ≤ 65535 * 65536 ^ n := Int.mul_le_mul_of_nonneg_right (by have := (hf n).2; omega) (by omega)
    simp only [V, Int.pow_succ]
    omega
/-- Beyond a list's end there is nothing. -/
theorem V_past (l : List Int) : ∀ k, V (dg l) (l.length + k) = val l
  | 0 => rfl
  | k + 1 => by
    rw [show l.length + (k + 1) = (l.length + k) + 1 by omega]
    simp only [V]
    rw [V_past l k, dg_ge (by omega)]; simp
theorem V_ge {l : List Int} {n : Nat} (h : l.length ≤ n) : V (dg l) n = val l := by
  obtain ⟨k, rfl⟩ : ∃ k, n = l.length + k := ⟨n - l.length, by omega⟩
  exact V_past l k
theorem val_bound {l : List Int} (h : Dig l) : 0 ≤ val l ∧ val l < 65536 ^ l.length := V_bound h.at _
theorem val_nil : val [] = 0 := rfl

/-- Who has the greater digit at i, and the same ones above, is the greater. -/
theorem V_lt {f g : Nat → Int} {i n : Nat} (hf : ∀ j, 0 ≤ f j ∧ f j < 65536) (hg : ∀ j, 0 ≤ g j ∧ g j < 65536) (hi : i < n) (h : f i < g i) (he : ∀ j, i < j → f j = g j) : V f n < V g n := by
  obtain ⟨k, rfl⟩ : ∃ k, n = i + 1 + k := ⟨n - (i + 1), by omega⟩
  clear hi
  induction k with
  | zero =>
    simp only [V]
    have h1 := V_bound hf i
    have h2 := V_bound hg i
    have h3 : (f i + 1) * 65536 ^ i ≤ g i * 65536 ^ i := Int.mul_le_mul_of_nonneg_right (by omega) (by have := pow_pos' i; omega)
    rw [Int.add_mul] at h3
    omega
  | succ k ih =>
    rw [show i + 1 + (k + 1) = (i + 1 + k) + 1 by omega]
    simp only [V]
    rw [he (i + 1 + k) (by omega)]
    omega

/-- A digit put in place of another. -/
theorem V_set (l : List Int) (p : Nat) (x : Int) (hp : p < l.length) : ∀ n, V (dg (l.set p x)) n = V (dg l) n + if p < n then (x - dg l p) * 65536 ^ p else 0
  | 0 => by simp [V]
  | n + 1 => by
    simp only [V]
    rw [V_set l p x hp n]
    by_cases h : p = n
    · subst h
      rw [dg_set_at hp, if_neg (by omega), if_pos (by omega), Int.sub_mul]; omega
    · rw [dg_set_ne h]
      by_cases h2 : p < n
      · rw [if_pos h2, if_pos (by omega)]; omega
      · rw [if_neg h2, if_neg (by omega)]; omega

theorem Dig.nil : Dig [] := by intro d h; simp at h
theorem Dig.snoc {l : List Int} {x : Int} (h : Dig l) (h0 : 0 ≤ x) (h1 : x < 65536) : Dig (l ++ [x]) := by
  intro d hd
  rw [List.mem_append] at hd
  rcases hd with hd | hd
  · exact h d hd
  · simp at hd; subst hd; exact ⟨h0, h1⟩
theorem Dig.set {l : List Int} {x : Int} {p : Nat} (h : Dig l) (h0 : 0 ≤ x) (h1 : x < 65536) : Dig (l.set p x) := by
  intro d hd
  rcases List.mem_or_eq_of_mem_set hd with hd | rfl
  · exact h d hd
  · exact ⟨h0, h1⟩
theorem val_snoc (l : List Int) (x : Int) : val (l ++ [x]) = val l + x * 65536 ^ l.length := by
  unfold val
  rw [List.length_append]
  show V (dg (l ++ [x])) (l.length + 1) = _
  simp only [V]
  rw [dg_append_at, V_congr (f := dg (l ++ [x])) (g := dg l) fun j hj => dg_append_lt hj]

/-- A signed number. -/
def sval (neg : Bool) (l : List Int) : Int := if neg = true then -val l else val l
theorem sval_neg (l : List Int) : sval true l = -val l := rfl
theorem sval_pos (l : List Int) : sval false l = val l := rfl
end Go.Proofs.Ytaeondpeaabfeaa
