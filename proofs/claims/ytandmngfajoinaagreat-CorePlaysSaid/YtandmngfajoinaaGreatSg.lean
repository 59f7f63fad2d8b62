/- stride's queue: Form, up to the sort: its parts. -/
import Derived.Test.YtandmngfajoinaaGreatSf
import Derived.Test.YtandmngfajoinaaGreatItb
import Derived.Test.YtandmngfajoinaaGreatWr
namespace Go.Proofs.YtandmngfajoinaaGreat
open Go.RowKit Go.Shelf
attribute [local go_sem] Oper.semAt_some wide_fn wide_depth

set_option maxHeartbeats 1000000 in
theorem qall_c (b : Nat) (w : World) : Calls Tryz.prog 71 #[.pointer (some ⟨b, 0, none⟩)] w fun e w' =>
    e = .returned (.func (.func 80) #[] #[.pointer (some ⟨w.heap.size, 0, none⟩)]) ∧ w' = w.alloc (.cells #[.pointer (some ⟨b, 0, none⟩)] 125) := by
  go_enter Tryz.func71, Tryz.ntmps71
  go_wp2
  go_ret
  exact ⟨rfl, rfl⟩

theorem info_oi : (Tryz.prog.info? 69).map (fun i => (i.zero, i.size, i.bytes)) = some (some (.agg #[.int .i64 0, .int .i64 0, .int .i64 0]), 3, 24) := by kernel_rfl
theorem info_pt : (Tryz.prog.info? 120).map (fun i => (i.zero, i.size, i.bytes)) = some (some (.agg #[.int .i64 0, .int .i64 0, .int .i64 0]), 3, 24) := by kernel_rfl
theorem flatR_snoc (l : List RI) (x : RI) : flatR (l ++ [x]) = flatR l ++ encR x := by rw [flatR_append]; simp [flatR]
theorem encR_cells {w : World} {g : Nat} {t : TypeId} {x : RI} (h : w.heap[g]? = some (.cells (encR x).toArray t (0, 0))) : ∀ j u, (encR x)[j]? = some u → w.cell? ((⟨g, 0, none⟩ : Addr).add j) = some u := by
  intro j u hu
  have ha : (⟨g, 0, none⟩ : Addr).add j = ⟨g, j, none⟩ := by unfold Addr.add; split <;> simp_all
  rw [ha]
  simp [World.cell?, h]
  exact hu
theorem encR_one (x : RI) : ∀ u ∈ encR x, u.oneCell' = true := by
  intro u hu
  simp [encR] at hu
  rcases hu with rfl | rfl | rfl <;> rfl
/-- The value is a slice that begins somewhere. -/
def Some0 (v : Value) : Prop := ∃ g n c, v = .slice (some ⟨g, 0, none⟩) n c

/-- The loop's state: the box B holds what has come; all else as it lay. -/
def ListAt (w3 : World) (n0 B H d m : Nat) (pl : List RI) (A : Nat → Prop) (W : World) : Prop :=
  ∃ v, Some0 v ∧ Boxed W B 117 v ∧ W.ownsRow n0 120 3 v pl.length (flatR pl) ∧ (∀ k, A k ↔ ((k = B ∨ v.ownBlock = some k) ∨ k = H ∨ k = d ∨ k = m)) ∧ W.heap[H]? = w3.heap[H]? ∧ W.heap[d]? = w3.heap[d]? ∧ W.heap[m]? = w3.heap[m]?
theorem listAt_loc {α : Type} (f : List α → List RI) (w3 : World) (n0 B H d m : Nat) : Loc (fun pre => ListAt w3 n0 B H d m (f pre)) := by
  rintro s A X Y ⟨v, h0, h1, h2, h3, h4, h5, h6⟩ hs
  refine ⟨v, h0, (hs B ((h3 B).2 (by simp))).trans h1, ⟨h2.1, ?_⟩, h3, (hs H ((h3 H).2 (by simp))).trans h4, (hs d ((h3 d).2 (by simp))).trans h5, (hs m ((h3 m).2 (by simp))).trans h6⟩
  rcases h2.2 with h4 | ⟨g, cap, cur, h4, h5, h6, h7⟩
  · exact .inl h4
  · exact .inr ⟨g, cap, cur, h4, h5, (hs g ((h3 g).2 (.inl (.inr (by rw [h4]; rfl))))).trans h6, h7⟩

/-- One more has come. -/
theorem list_next {pl : List RI} {w3 W w2 w5 : World} {n0 B H d m k' : Nat} {A1 : Nat → Prop} {v1 v' : Value} {x : RI} (hA : ∀ k, A1 k ↔ ((k = B ∨ v1.ownBlock = some k) ∨ k = H ∨ k = d ∨ k = m)) (hbd : ∀ k, A1 k → k < W.heap.size) (hb2 : Below W.heap.size W w2)
    (hE : W.heap[H]? = w3.heap[H]? ∧ W.heap[d]? = w3.heap[d]? ∧ W.heap[m]? = w3.heap[m]?) (hH : H < n0) (hd : d < H) (hm : m < H) (hHB : n0 < B) (h0 : Some0 v') (hrow : w2.ownsRow n0 120 3 v1 pl.length (flatR pl))
    (hv : Boxed w5 B 117 v') (hr : w5.ownsRow n0 120 3 v' k' (flatR pl ++ encR x)) (ht : Trip (fun k => k = B ∨ v1.ownBlock = some k) w2 (fun k => k = B ∨ v'.ownBlock = some k) w5) (hk' : k' = (pl ++ [x]).length) :
    ∃ A2, Trip A1 W A2 w5 ∧ ListAt w3 n0 B H d m (pl ++ [x]) A2 w5 := by
  have hs := hb2.size
  have hl : ∀ k, k < n0 → k ≠ B → ¬ (k = B ∨ v1.ownBlock = some k) := fun k hk hne h => by
    rcases h with h | h
    · exact hne h
    · have := (World.ownsRow.lt hrow k h).1; omega
  have e : ∀ k, A1 k → k < n0 → k ≠ B → w5.heap[k]? = W.heap[k]? := fun k hA' hk hne => (ht.block k (by have := hbd k hA'; omega) (hl k hk hne)).trans (hb2.block k (hbd k hA'))
  have aH := (hA H).2 (by simp)
  have ad := (hA d).2 (by simp)
  have am := (hA m).2 (by simp)
  refine ⟨fun k => (k = B ∨ v'.ownBlock = some k) ∨ k = H ∨ k = d ∨ k = m, ?_, v', h0, hv, by subst hk'; rw [flatR_snoc]; exact hr, fun _ => Iff.rfl, (e H aH hH (by omega)).trans hE.1, (e d ad (by omega) (by omega)).trans hE.2.1, (e m am (by omega) (by omega)).trans hE.2.2⟩
  refine ((below_trip hb2 hbd).trans (ht.wider (C := A1) (fun k hk => (hA k).2 (.inl hk)) (fun k hk => by have := hbd k hk; omega))).less (fun k hk => ?_)
  rcases hk with h | h
  · exact .inl h
  · exact .inr ((hA k).2 (.inr h))

/-- What an item of the queue's list is told as. -/
def itF (R : List RI) (x : QI) : RI := (x.2, (getI R x.2).2.1, x.1)
theorem itF_perm {R : List RI} {L : List QI} (hp : L.Perm (pL R)) (ha : AscR R) : (L.map (itF R)).Perm R := by
  refine (hp.map _).trans ?_
  unfold pL
  rw [List.map_map]
  refine List.Perm.of_eq ?_
  conv => rhs; rw [← List.map_id R]
  refine List.map_congr_left (fun r hr => ?_)
  simp only [Function.comp, itF, getI_of ha hr, id]
theorem numQ_get {k j : Nat} {L : List QI} {x : Nat × QI} (h : (numQ k L)[j]? = some x) : L[j]? = some x.2 := by
  induction L generalizing k j with
  | nil => simp [numQ] at h
  | cons y ys ih =>
    cases j with
    | zero => simp [numQ] at h; subst h; rfl
    | succ j => exact ih (by simpa [numQ] using h)

/-- Two lists of the same items, the one ascending, the other not descending. -/
theorem sorted_eq : ∀ {l l' : List RI}, AscR l → l'.Pairwise (fun a b => ¬ b.1 < a.1) → l'.Perm l → l' = l
  | [], l', _, _, hp => hp.eq_nil
  | x :: xs, [], _, _, hp => absurd hp.length_eq (by simp)
  | x :: xs, y :: ys, h, h', hp => by
    obtain ⟨h1, h2⟩ := List.pairwise_cons.1 h
    obtain ⟨h3, h4⟩ := List.pairwise_cons.1 h'
    have e : y = x := by
      have hx : x ∈ y :: ys := hp.mem_iff.2 (by simp)
      have hy : y ∈ x :: xs := hp.mem_iff.1 (by simp)
      rcases List.mem_cons.1 hy with h | h
      · exact h
      · have a := h1 y h
        rcases List.mem_cons.1 hx with h5 | h5
        · exact h5.symm
        · exact absurd a (h3 x h5)
    subst e
    rw [sorted_eq h2 h4 (List.Perm.cons_inv hp)]
theorem formL_asc {base : Int} {R : List RI} (h : AscR R) : AscR (formL base R) := asc_map (f := fun r => (r.1, r.2.1, base - r.2.2)) h (fun _ => rfl)

end Go.Proofs.YtandmngfajoinaaGreat
