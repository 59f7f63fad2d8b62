/- Plain theory of weight.Parts: shares, what is left, and who gets one more. No program is named here. -/
import Derived.Test.YtaeondpeaabfeaaGa
namespace Go.Proofs.Ytaeondpeaabfeaa
open Go.RowKit

/-- A row of numbers at the head of block g. -/
def RowAt (w : World) (g : Nat) (l : List Int) : Prop := ∀ j z, l[j]? = some z → w.cell? ⟨g, j, none⟩ = some (.int .i64 z) ∧ w.frozen? ⟨g, j, none⟩ = false
theorem RowAt.at {w : World} {g : Nat} {l : List Int} (h : RowAt w g l) {j : Nat} (hj : j < l.length) : w.cell? ⟨g, j, none⟩ = some (.int .i64 l[j]) ∧ w.frozen? ⟨g, j, none⟩ = false := h j _ (List.getElem?_eq_getElem hj)
theorem RowAt.drewN {w : World} {g : Nat} {l : List Int} (h : RowAt w g l) (n : Nat) : RowAt (w.drewN n) g l := h
theorem RowAt.below {w w' : World} {g B : Nat} {l : List Int} (h : RowAt w g l) (hb : Below B w w') (hg : g < B) : RowAt w' g l := fun j z hj =>
  ⟨(hb.cell (p := ⟨g, j, none⟩) hg).trans (h j z hj).1, (hb.frozen (p := ⟨g, j, none⟩) hg).trans (h j z hj).2⟩
theorem RowAt.other {w : World} {g g' j : Nat} {l : List Int} (h : RowAt w g l) (hne : g ≠ g') (v : Value) : RowAt (w.setCell ⟨g', j, none⟩ v) g l := fun i z hi =>
  ⟨(World.cell?_setCell_other _ _ _ _ (fun e => by have := congrArg Addr.block e; simp at this; omega)).trans (h i z hi).1, by rw [World.frozen?_setCell]; exact (h i z hi).2⟩
theorem RowAt.stored {w : World} {g j : Nat} {l : List Int} (h : RowAt w g l) (x : Int) : RowAt (w.setCell ⟨g, j, none⟩ (.int .i64 x)) g (l.set j x) := by
  intro i z hi
  rw [List.getElem?_set] at hi
  by_cases e : j = i
  · subst e
    rw [if_pos rfl] at hi
    split at hi
    · rename_i hlt
      injection hi with hi
      subst hi
      exact ⟨World.cell?_setCell_same _ _ _ (h.at hlt).1, by rw [World.frozen?_setCell]; exact (h.at hlt).2⟩
    · cases hi
  · rw [if_neg e] at hi
    exact ⟨(World.cell?_setCell_other _ _ _ _ (fun x => by first | (simp at x; done) | (simp at x; omega))).trans (h i z hi).1, by rw [World.frozen?_setCell]; exact (h i z hi).2⟩
theorem RowAt.irow {w : World} {g : Nat} {l : List Int} (h : RowAt w g l) (hg : g < w.heap.size) : IRow .i64 w w.heap.size (some ⟨g, 0, none⟩) l := fun j z hj => by
  refine ⟨_, rfl, hg, ?_⟩
  have e : (Addr.add ⟨g, 0, none⟩ j : Addr) = ⟨g, j, none⟩ := by unfold Addr.add; split <;> simp_all
  rw [e]; exact (h j z hj).1
theorem OwnI.rowAt {w : World} {base g n : Nat} {e : TypeId} {l : List Int} (h : OwnI .i64 w base e (.slice (some ⟨g, 0, none⟩) n n) l) (hn : l.length = n) : RowAt w g l := by
  subst hn
  intro j z hj
  have hlt := (List.getElem?_eq_some_iff.1 hj)
  obtain ⟨h1, h2⟩ := hlt
  subst h2
  exact ⟨h.cellAt j h1, h.frozenAt j⟩

/-- A row on its way from zeros to xs. -/
def fill (xs : List Int) (k : Nat) : List Int := xs.take k ++ List.replicate (xs.length - k) 0
theorem fill_zero (xs : List Int) : fill xs 0 = List.replicate xs.length 0 := by simp [fill]
theorem fill_all (xs : List Int) : fill xs xs.length = xs := by simp [fill]
theorem fill_length (xs : List Int) (k : Nat) (hk : k ≤ xs.length) : (fill xs k).length = xs.length := by simp [fill]; omega
theorem fill_set (xs : List Int) (k : Nat) (hk : k < xs.length) : (fill xs k).set k xs[k] = fill xs (k + 1) := by
  unfold fill
  have e : List.replicate (xs.length - k) (0 : Int) = 0 :: List.replicate (xs.length - (k + 1)) 0 := by rw [← List.replicate_succ]; congr 1; omega
  have hl : (xs.take k).length = k := by rw [List.length_take]; omega
  rw [e, List.set_append_right _ _ (by omega), hl, Nat.sub_self, List.set_cons_zero, List.take_add_one, List.getElem?_eq_getElem hk, Option.toList_some, List.append_assoc]
  rfl

/-- The shares of all, and by how much each is off. -/
def shL (l : List Int) (n : Int) : List Int := l.map fun x => n * x / l.sum
def ofL (l : List Int) (n : Int) : List Int := l.map fun x => n * x / l.sum * l.sum - n * x
theorem shL_length (l : List Int) (n : Int) : (shL l n).length = l.length := by simp [shL]
theorem ofL_length (l : List Int) (n : Int) : (ofL l n).length = l.length := by simp [ofL]
theorem shL_at (l : List Int) (n : Int) (k : Nat) (hk : k < l.length) : (shL l n)[k]'(by rw [shL_length]; exact hk) = n * l[k] / l.sum := by simp [shL]
theorem ofL_at (l : List Int) (n : Int) (k : Nat) (hk : k < l.length) : (ofL l n)[k]'(by rw [ofL_length]; exact hk) = n * l[k] / l.sum * l.sum - n * l[k] := by simp [ofL]

theorem le_sum (l : List Int) (h : ∀ x ∈ l, 1 ≤ x ∧ x ≤ 20) : ∀ x ∈ l, x ≤ l.sum := by
  induction l with
  | nil => simp
  | cons y t ih =>
    have h1 := h y (by simp)
    have h2 := sum_good t (fun z hz => h z (by simp [hz]))
    intro x hx
    rw [List.sum_cons]
    rcases List.mem_cons.1 hx with e | hx
    · subst e; omega
    · have := ih (fun z hz => h z (by simp [hz])) x hx; omega
theorem fair_of (l : List Int) (n : Int) (hb : totB l = true) (hn : 0 ≤ n) (x : Int) (hx : x ∈ l) : fairB x l.sum n = true := by
  obtain ⟨h1, h2⟩ := totB_true.1 hb
  have h3 := le_sum l h2 x hx
  have h4 := sum_good l h2
  have h5 := h2 x hx
  exact fairB_true.2 ⟨by omega, by omega, by omega, by omega, hn⟩
theorem sum_map_le (l : List Int) (g : Int → Int) (c : Int) (h : ∀ x ∈ l, 0 ≤ g x ∧ g x ≤ c) : 0 ≤ (l.map g).sum ∧ (l.map g).sum ≤ c * (l.length : Int) := by
  induction l with
  | nil => simp
  | cons x t ih =>
    have h1 := h x (by simp)
    have h2 := ih (fun y hy => h y (by simp [hy]))
    simp only [List.map_cons, List.sum_cons, List.length_cons]
    rw [Int.natCast_add, Int.mul_add]
    omega
/-- T times what is left is what all the divisions left. -/
theorem left_sum (l : List Int) (n T : Int) : (l.map fun x => n * x % T).sum + T * (l.map fun x => n * x / T).sum = n * l.sum := by
  induction l with
  | nil => simp
  | cons x t ih =>
    simp only [List.map_cons, List.sum_cons]
    rw [Int.mul_add, Int.mul_add, ← ih]
    have := Int.emod_add_mul_ediv (n * x) T
    omega
/-- What is left is less than the number of weights. -/
theorem left_bound (l : List Int) (n : Int) (hb : totB l = true) (h0 : 0 < l.length) : 0 ≤ n - (shL l n).sum ∧ n - (shL l n).sum < (l.length : Int) := by
  obtain ⟨h1, h2⟩ := totB_true.1 hb
  have h3 := sum_good l h2
  obtain ⟨T, hT⟩ : ∃ T, T = l.sum := ⟨_, rfl⟩
  have hT0 : 0 < T := by omega
  have e := left_sum l n T
  have hm : ∀ m : List Int, m.length ≠ 0 → 0 ≤ (m.map fun x => n * x % T).sum ∧ (m.map fun x => n * x % T).sum < T * (m.length : Int) := by
    intro m hm
    have := sum_map_le m (fun x => n * x % T) (T - 1) (fun x _ => ⟨Int.emod_nonneg _ (by omega), by have := Int.emod_lt_of_pos (n * x) hT0; omega⟩)
    refine ⟨this.1, ?_⟩
    have h4 := this.2
    rw [Int.sub_mul, Int.one_mul] at h4
    omega
  have hm1 := hm l (by omega)
  have hs : shL l n = l.map fun x => n * x / T := by unfold shL; rw [hT]
  rw [hs]
  rw [← hT] at e
  obtain ⟨S, hS⟩ : ∃ S, S = (l.map fun x => n * x / T).sum := ⟨_, rfl⟩
  obtain ⟨R, hR⟩ : ∃ R, R = (l.map fun x => n * x % T).sum := ⟨_, rfl⟩
  rw [← hS, ← hR] at e
  rw [← hR] at hm1
  rw [← hS]
  have e2 : T * (n - S) = R := by rw [Int.mul_sub, Int.mul_comm T n]; omega
  refine ⟨?_, ?_⟩
  · by_cases h : n - S < 0
    · have := Int.mul_neg_of_pos_of_neg hT0 h; omega
    · omega
  · refine Int.lt_of_mul_lt_mul_left (a := T) ?_ (by omega)
    rw [e2]; exact hm1.2

/-- One more for place i. -/
def bump (q : List Int) (i : Nat) : List Int := q.set i (q.getD i 0 + 1)
def bumps (q : List Int) (ps : List Nat) : List Int := ps.foldl bump q
theorem bump_length (q : List Int) (i : Nat) : (bump q i).length = q.length := by simp [bump]
theorem bumps_length (q : List Int) (ps : List Nat) : (bumps q ps).length = q.length := by
  induction ps generalizing q with
  | nil => rfl
  | cons p t ih => show (bumps (bump q p) t).length = _; rw [ih, bump_length]
theorem bumps_snoc (q : List Int) (ps : List Nat) (i : Nat) : bumps q (ps ++ [i]) = bump (bumps q ps) i := by simp [bumps]
theorem bump_le (q : List Int) (i : Nat) (c : Int) (h : ∀ z ∈ q, 0 ≤ z ∧ z ≤ c) (hc : 0 ≤ c) : ∀ z ∈ bump q i, 0 ≤ z ∧ z ≤ c + 1 := by
  intro z hz
  have hg : 0 ≤ q.getD i 0 ∧ q.getD i 0 ≤ c := by
    rcases Nat.lt_or_ge i q.length with x | x
    · rw [List.getD_eq_getElem?_getD, List.getElem?_eq_getElem x]; exact h _ (List.getElem_mem x)
    · rw [List.getD_eq_getElem?_getD, List.getElem?_eq_none x]; exact ⟨Int.le_refl _, hc⟩
  rcases List.mem_or_eq_of_mem_set hz with x | x
  · have := h z x; omega
  · omega
theorem shL_le (l : List Int) (n : Int) (hb : totB l = true) (hn : 0 ≤ n) : ∀ z ∈ shL l n, 0 ≤ z ∧ z ≤ n := by
  intro z hz
  obtain ⟨x, hx, rfl⟩ := List.mem_map.1 hz
  exact share_le (fair_of l n hb hn x hx)
end Go.Proofs.Ytaeondpeaabfeaa
