/- Forms: Find; plain words on places; Put's and Drop's lists. -/
import Derived.Test.YtandmngfajoinaaGreatYe
namespace Go.Proofs.YtandmngfajoinaaGreat
open Go.RowKit

theorem idxL_spec (p : RI → Bool) : ∀ (l : List RI) (j : Nat), (idxL p l j = -1 ∧ ∀ r ∈ l, p r = false) ∨ (∃ k r, idxL p l j = ((j + k : Nat) : Int) ∧ l[k]? = some r ∧ p r = true ∧ ∀ i, i < k → ∀ x, l[i]? = some x → p x = false)
  | [], _ => .inl ⟨rfl, by simp⟩
  | x :: xs, j => by
    by_cases hp : p x = true
    · exact .inr ⟨0, x, by rw [idxL, if_pos hp]; rfl, rfl, hp, fun i hi => by omega⟩
    · have hp' : p x = false := by simpa using hp
      rcases idxL_spec p xs (j + 1) with ⟨h1, h2⟩ | ⟨k, r, h1, h2, h3, h4⟩
      · refine .inl ⟨by rw [idxL, if_neg hp]; exact h1, fun r hr => ?_⟩
        rcases List.mem_cons.1 hr with rfl | hr
        · exact hp'
        · exact h2 r hr
      · refine .inr ⟨k + 1, r, by rw [idxL, if_neg hp, h1]; congr 1; omega, by simpa using h2, h3, fun i hi y hy => ?_⟩
        cases i with
        | zero => simp at hy; subst hy; exact hp'
        | succ i => exact h4 i (by omega) y (by simpa using hy)

/-- The item of an ID. -/
def findV (id : Int) (l : List RI) : Option RI := l.find? (idIs id)
theorem find_none {id : Int} {l : List RI} (h : ∀ r ∈ l, idIs id r = false) : findV id l = none := by
  unfold findV
  rw [List.find?_eq_none]
  intro r hr
  simp [h r hr]
theorem find_some {id : Int} : ∀ {l : List RI} {k : Nat} {r : RI}, l[k]? = some r → idIs id r = true → (∀ i, i < k → ∀ x, l[i]? = some x → idIs id x = false) → findV id l = some r
  | [], k, r, h, _, _ => by simp at h
  | y :: ys, 0, r, h, hp, _ => by
    simp at h
    subst h
    unfold findV
    rw [List.find?_cons_of_pos hp]
  | y :: ys, k + 1, r, h, hp, hb => by
    have hy := hb 0 (by omega) y rfl
    unfold findV
    rw [List.find?_cons_of_neg (by simp [hy])]
    exact find_some (by simpa using h) hp (fun i hi x hx => hb (i + 1) (by omega) x (by simpa using hx))

set_option maxRecDepth 100000 in
set_option maxHeartbeats 2000000 in
theorem find_c (f0 : Int) (A : Option Addr) (n c : Nat) (id : Int) (l : List RI) (w : World) (hn : l.length = n) (hl : n ≤ 4611686018427387904) (hr : TRow w A l) :
    Calls Tryz.prog 32 #[.agg #[.int .i64 f0, .slice A n c], .int .i64 id] w (Ret10 (.tuple #[.agg #[.int .i64 ((findV id l).getD (0, 0, 0)).1, .int .i64 ((findV id l).getD (0, 0, 0)).2.1, .int .i64 ((findV id l).getD (0, 0, 0)).2.2], .bool (findV id l).isSome]) w) := by
  obtain ⟨W, hW⟩ : ∃ W, (w.alloc (.cells #[.int .i64 f0, .slice A n c] 47)).alloc (.cells #[.int .i64 0, .int .i64 0, .int .i64 0] 69) = W := ⟨_, rfl⟩
  have hb : Below w.heap.size w W := by rw [← hW]; exact ((Below.refl _ w).alloc (Nat.le_refl _) _).alloc (by simp) _
  have hf : FoAt W w.heap.size f0 A n c := by rw [← hW]; exact heap_alloc2_old w _ _
  have hz : ItAt W (w.heap.size + 1) (0, 0, 0) := by rw [← hW]; exact heap_alloc2_new w _ _
  have K1 := Lib.hid (oplace_c A n c id l W hn (by omega) (hr.below hb (Nat.le_refl _)))
  have HW := Lib.hid hW
  have H := Lib.hid (And.intro hb (And.intro hf hz))
  have HR := Lib.hid hr
  have HN := Lib.hid hn
  rcases idxL_spec (idIs id) l 0 with ⟨h1, h2⟩ | ⟨k, r, h1, h2, h3, h4⟩
  · have HV := Lib.hid (find_none h2)
    rw [h1] at K1
    clear hW hb hf hz hr hn h1 h2 hl
    go_enter Tryz.func32, Tryz.ntmps32
    go_wp2_with fail
    rw [HW.out]
    refine K1.out.mono ?_
    rintro e w1 ⟨rfl, hb1⟩
    have HZ := Lib.hid (show ItAt w1 (w.heap.size + 1) (0, 0, 0) from BoxAt.next H.out.2.2 hb1 (Nat.le_refl _))
    have HB := Lib.hid (H.out.1.trans (hb1.mono H.out.1.size))
    obtain ⟨z0, z1, z2, g0, g1, g2⟩ := HZ.out.cells
    clear hb1
    go_wp2_with fail
    refine bodyPost_ret (res_box rfl _ (w.heap.size + 1) #[.int .i64 0, .int .i64 0, .int .i64 0] _ _ rfl rfl (HZ.out.set 0 0 0) Tryz.underlying69 rfl (by kernel_rfl)) rfl ?_
    exact ⟨by rw [HV.out]; rfl, Below.set3 HB.out (by omega) _ _ _⟩
  · have HV := Lib.hid (find_some h2 h3 h4)
    rw [h1, Nat.zero_add] at K1
    have hlt : k < n := by have := (List.getElem?_eq_some_iff.1 h2).1; omega
    have hlt' : (k : Int) < (n : Int) := by omega
    have H2 := Lib.hid h2
    clear hW hb hf hz hr hn h1 h2 h3 h4 hl
    go_enter Tryz.func32, Tryz.ntmps32
    go_wp2_with fail
    rw [HW.out]
    refine K1.out.mono ?_
    rintro e w1 ⟨rfl, hb1⟩
    have HZ := Lib.hid (show ItAt w1 (w.heap.size + 1) (0, 0, 0) from BoxAt.next H.out.2.2 hb1 (Nat.le_refl _))
    have HF := Lib.hid (show FoAt w1 w.heap.size f0 A n c from BoxAt.next H.out.2.1 hb1 (Nat.le_refl _))
    have HB := Lib.hid (H.out.1.trans (hb1.mono H.out.1.size))
    obtain ⟨z0, z1, z2, g0, g1, g2⟩ := HZ.out.cells
    obtain ⟨u0, u1, -, -⟩ := HF.out.cells
    obtain ⟨ad, rfl, c0, c1, c2⟩ := (HR.out.below HB.out (Nat.le_refl _)).at H2.out
    obtain ⟨r0, r1, r2⟩ := r
    simp only at c0 c1 c2
    clear hb1
    go_wp2_with fail
    refine bodyPost_ret (res_box rfl _ (w.heap.size + 1) #[.int .i64 r0, .int .i64 r1, .int .i64 r2] _ _ rfl rfl (HZ.out.set r0 r1 r2) Tryz.underlying69 rfl (by kernel_rfl)) rfl ?_
    exact ⟨by rw [HV.out]; rfl, Below.set3 HB.out (by omega) _ _ _⟩
end Go.Proofs.YtandmngfajoinaaGreat
