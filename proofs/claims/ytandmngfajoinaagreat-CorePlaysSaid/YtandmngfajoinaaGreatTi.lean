/- Tasks with their days: what the program and the reference share. Plain theory. -/
import Derived.Test.YtandmngfajoinaaGreatYa
namespace Go.Proofs.YtandmngfajoinaaGreat
open Go.RowKit

/-- A task: number, weight, point, day. -/
abbrev TI := Int × Int × Int × Int
/-- A tick of a weight. -/
def tickV (x : Int) : Int := if goodB x = true then 232792560 / x else 0
theorem tickV_yes {x : Int} (h : goodB x = true) : tickV x = 232792560 / x := by unfold tickV; rw [if_pos h]
theorem tickV_no {x : Int} (h : goodB x = false) : tickV x = 0 := by unfold tickV; rw [if_neg (by simp [h])]
theorem tickV_bd (x : Int) : 0 ≤ tickV x ∧ tickV x ≤ 232792560 := by
  unfold tickV
  split
  · rename_i h
    have := goodB_true.1 h
    exact ⟨Int.ediv_nonneg (by decide) (by omega), Int.ediv_le_self _ (by decide)⟩
  · omega
/-- A task, laid in its place. -/
def insTT : List TI → TI → List TI
  | [], x => [x]
  | y :: ys, x => if y.1 < x.1 then y :: insTT ys x else x :: y :: ys
theorem length_insTT (l : List TI) (x : TI) : (insTT l x).length = l.length + 1 := by
  induction l with
  | nil => rfl
  | cons y ys ih =>
    unfold insTT
    split
    · rw [List.length_cons, ih, List.length_cons]
    · simp
theorem insTT_split {l : List TI} {x : TI} : ∀ {k : Nat}, k ≤ l.length → (∀ z ∈ l.take k, z.1 < x.1) → insTT l x = l.take k ++ insTT (l.drop k) x := by
  induction l with
  | nil => intro k _ _; simp
  | cons y ys ih =>
    intro k hk h
    cases k with
    | zero => simp
    | succ k =>
      have hy : y.1 < x.1 := h y (by simp)
      rw [insTT, if_pos hy, ih (k := k) (by simpa using hk) (fun z hz => h z (by rw [List.take_succ_cons]; exact List.mem_cons_of_mem _ hz))]
      rfl
theorem insTT_here {l : List TI} {x : TI} {k : Nat} (hk : k ≤ l.length) (h : ∀ z ∈ l.take k, z.1 < x.1) (hx : ∀ y, l[k]? = some y → ¬ y.1 < x.1) : insTT l x = l.take k ++ [x] ++ l.drop k := by
  rw [insTT_split hk h]
  have e : insTT (l.drop k) x = [x] ++ l.drop k := by
    cases hd : l.drop k with
    | nil => rfl
    | cons y ys =>
      have hy : l[k]? = some y := by
        have := congrArg (fun t => t[0]?) hd
        simpa using this
      rw [insTT, if_neg (hx y hy)]
      rfl
  rw [e, List.append_assoc]

/-- A task, charged. -/
def chaT (x : TI) : TI := (x.1, x.2.1, x.2.2.1 + tickV x.2.1, if x.2.2.2 ≤ x.2.2.1 + tickV x.2.1 then x.2.2.1 + tickV x.2.1 + 4 * tickV x.2.1 else x.2.2.2)
def sumT (base : Int) : List TI → Int
  | [] => 0
  | x :: xs => sumT base xs + (x.2.2.1 - base) * x.2.1
def allT : List TI → Int
  | [] => 0
  | x :: xs => allT xs + x.2.1
theorem sumT_snoc (base : Int) (l : List TI) (x : TI) : sumT base (l ++ [x]) = sumT base l + (x.2.2.1 - base) * x.2.1 := by
  induction l with
  | nil => rfl
  | cons y ys ih =>
    show sumT base (ys ++ [x]) + (y.2.2.1 - base) * y.2.1 = sumT base ys + (y.2.2.1 - base) * y.2.1 + (x.2.2.1 - base) * x.2.1
    rw [ih]; omega
theorem allT_snoc (l : List TI) (x : TI) : allT (l ++ [x]) = allT l + x.2.1 := by
  induction l with
  | nil => rfl
  | cons y ys ih =>
    show allT (ys ++ [x]) + y.2.1 = allT ys + y.2.1 + x.2.1
    rw [ih]; omega
/-- Not ahead of the average. -/
def mayT (base : Int) (l : List TI) (x : TI) : Prop := (x.2.2.1 - base) * allT l ≤ sumT base l
theorem sum_least {base m : Int} : ∀ {l : List TI}, (∀ x ∈ l, m ≤ x.2.2.1 ∧ 0 ≤ x.2.1) → (m - base) * allT l ≤ sumT base l
  | [], _ => by simp [sumT, allT]
  | x :: xs, h => by
    obtain ⟨h1, h2⟩ := h x (by simp)
    have ih := sum_least (base := base) (m := m) (l := xs) (fun y hy => h y (by simp [hy]))
    unfold sumT allT
    rw [Int.mul_add]
    have := Int.mul_le_mul_of_nonneg_right (show m - base ≤ x.2.2.1 - base by omega) h2
    omega
/-- The least point. -/
def minP : List TI → Int
  | [] => 0
  | [x] => x.2.2.1
  | x :: y :: ys => min x.2.2.1 (minP (y :: ys))
theorem minP_le : ∀ {l : List TI} {x : TI}, x ∈ l → minP l ≤ x.2.2.1
  | [], _, h => by cases h
  | [y], x, h => by
    have : x = y := by simpa using h
    rw [this]
    exact Int.le_refl _
  | y :: z :: zs, x, h => by
    rw [minP]
    rcases List.mem_cons.1 h with rfl | h
    · omega
    · have := minP_le h; omega
theorem minP_mem : ∀ {l : List TI}, l ≠ [] → ∃ x ∈ l, x.2.2.1 = minP l
  | [], h => absurd rfl h
  | [y], _ => ⟨y, by simp, rfl⟩
  | y :: z :: zs, _ => by
    obtain ⟨x, hx, he⟩ := minP_mem (l := z :: zs) (by simp)
    rw [minP]
    by_cases hc : y.2.2.1 ≤ minP (z :: zs)
    · exact ⟨y, by simp, by omega⟩
    · exact ⟨x, List.mem_cons_of_mem _ hx, by omega⟩
end Go.Proofs.YtandmngfajoinaaGreat
