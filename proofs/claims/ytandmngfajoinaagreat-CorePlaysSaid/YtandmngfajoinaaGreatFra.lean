/- An argument that is a slice of structs of five numbers and a bool. No function of the program is named here. -/
import Derived.Test.YtandmngfajoinaaGreatFrame
import Derived.Deep.Slices
import Derived.Deep.Fields
import Derived.ChangeSame
namespace Go.Proofs.YtandmngfajoinaaGreat
open Go.ChangeShapes Go.WideShapes Go.ChangeAt Go.RowKit Go.Deep

/-- What an act says: five numbers, a bool. -/
abbrev AC := Int × Int × Int × Int × Int × Bool
/-- The slice at A holds the acts l. -/
def ARow (W : World) (A : Option Addr) (l : List AC) : Prop :=
  ∀ i r, l[i]? = some r → ∃ ad, A = some ad ∧ ad.block < W.heap.size ∧ (W.cell? (ad.add (i * 6)) = some (.int .i64 r.1) ∧ W.cell? (ad.add (i * 6 + 1)) = some (.int .i64 r.2.1) ∧ W.cell? (ad.add (i * 6 + 2)) = some (.int .i64 r.2.2.1) ∧ W.cell? (ad.add (i * 6 + 3)) = some (.int .i64 r.2.2.2.1) ∧ W.cell? (ad.add (i * 6 + 4)) = some (.int .i64 r.2.2.2.2.1) ∧ W.cell? (ad.add (i * 6 + 5)) = some (.bool r.2.2.2.2.2)) ∧
    ((Lit.int .i64 r.2.1).wf = true ∧ (Lit.int .i64 r.2.2.1).wf = true ∧ (Lit.int .i64 r.2.2.2.1).wf = true ∧ (Lit.int .i64 r.2.2.2.2.1).wf = true)

section
variable {H : Type} {enc : TypeId × Value → H} {P : Program}
def numAct (W : World) (a : Addr) : Int := match W.cell? a with | some (.int _ z) => z | _ => 0
def bitAct (W : World) (a : Addr) : Bool := match W.cell? a with | some (.bool z) => z | _ => false

theorem view_acts {W : World} {r : Reach} {b0 : Nat} {t e : TypeId} {fs : Array Field} {v : Value} {d : DataW H} {p : List MemPlace} (ht : P.underlying t = some (.slice e)) (he : P.underlying e = some (.struct fs)) (h1 : oneCellFields P fs = true) (hC : P.cellsOf e = fs.size) (h6 : fs.size = 6)
    (hint : ∀ (j : Nat) (f : Field), fs[j]? = some f → j < 5 → P.underlying f.type = some (.int .i64)) (hbit : ∀ (f : Field), fs[5]? = some f → P.underlying f.type = some .bool) (hval : Value.okWide P W r b0 t v) (h : DataW.Trod enc P W 0 (fun _ => true) true t v d p) :
    ∃ (A : Option Addr) (c : Nat) (l : List AC), v = .slice A l.length c ∧ l.length ≤ c ∧ c ≤ maxLen ∧ ARow W A l ∧ (A = none → c = 0) := by
  obtain ⟨a0, len, cap, rfl⟩ := okWide_slice ht hval
  obtain ⟨fuel, hf⟩ := h
  rcases open_slice ht hf with ⟨hcs, _⟩ | ⟨a, len', cap', m, n, D, Pl, hcs, _, hl, hm, hmm, _, hi⟩
  · simp [Value.cells] at hcs
    obtain ⟨rfl, rfl, rfl⟩ := hcs
    exact ⟨none, 0, [], rfl, Nat.le_refl _, Nat.zero_le _, fun i r hi => by simp at hi, fun _ => rfl⟩
  · simp [Value.cells] at hcs
    obtain ⟨rfl, rfl, rfl⟩ := hcs
    have hlm : len ≤ m := by rw [hmm]; split <;> omega
    have hcell : ∀ i, i < len → ∀ j, j < 5 → ∃ z, W.cell? (a.add (i * 6 + j)) = some (.int .i64 z) ∧ (Lit.int .i64 z).wf = true := by
      intro i hil j hj
      obtain ⟨cs', hc, htr⟩ := hi i (by omega)
      rw [hC] at hc
      obtain ⟨ys, n', _, _, _, hyl, hfl⟩ := DataW.trod_struct he htr
      obtain ⟨_, hcl, hat⟩ := World.cells?_some hc
      have hfj : fs[j]? = some fs[j] := Array.getElem?_eq_getElem (by omega)
      obtain ⟨ho, hk⟩ := hone_of h1 j fs[j] hfj
      have h2 := hfl j fs[j] hfj
      have hjc : j < cs'.length := by omega
      have e1 : (cs'.drop j).take 1 = [cs'[j]] := by rw [List.drop_eq_getElem_cons hjc]; rfl
      rw [ho, hk, e1, List.getElem?_eq_getElem (by omega)] at h2
      obtain ⟨z, hz, _, hw⟩ := DataW.trod_int (hint j _ hfj hj) h2
      injection hz with hz
      refine ⟨z, ?_, hw⟩
      have h3 := hat j (by omega)
      rw [Go.Deep.add_add, List.getElem?_eq_getElem hjc, hz, h6] at h3
      exact h3
    have hbool : ∀ i, i < len → ∃ z, W.cell? (a.add (i * 6 + 5)) = some (.bool z) := by
      intro i hil
      obtain ⟨cs', hc, htr⟩ := hi i (by omega)
      rw [hC] at hc
      obtain ⟨ys, n', _, _, _, hyl, hfl⟩ := DataW.trod_struct he htr
      obtain ⟨_, hcl, hat⟩ := World.cells?_some hc
      have hfj : fs[5]? = some fs[5] := Array.getElem?_eq_getElem (by omega)
      obtain ⟨ho, hk⟩ := hone_of h1 5 fs[5] hfj
      have h2 := hfl 5 fs[5] hfj
      have hjc : 5 < cs'.length := by omega
      have e1 : (cs'.drop 5).take 1 = [cs'[5]] := by rw [List.drop_eq_getElem_cons hjc]; rfl
      rw [ho, hk, e1, List.getElem?_eq_getElem (by omega)] at h2
      obtain ⟨z, hz, _⟩ := DataW.trod_bool (hbit _ hfj) h2
      injection hz with hz
      refine ⟨z, ?_⟩
      have h3 := hat 5 (by omega)
      rw [Go.Deep.add_add, List.getElem?_eq_getElem hjc, hz, h6] at h3
      exact h3
    refine ⟨some a, cap, (List.range len).map (fun i => (numAct W (a.add (i * 6)), numAct W (a.add (i * 6 + 1)), numAct W (a.add (i * 6 + 2)), numAct W (a.add (i * 6 + 3)), numAct W (a.add (i * 6 + 4)), bitAct W (a.add (i * 6 + 5)))), by simp, by simpa using hl, hm, fun i r hr => ?_, fun h => by cases h⟩
    have hil : i < len := by
      have := (List.getElem?_eq_some_iff.1 hr).1
      simpa using this
    simp [hil] at hr
    subst hr
    obtain ⟨z0, hz0, hw0⟩ := hcell i hil 0 (by omega)
    obtain ⟨z1, hz1, hw1⟩ := hcell i hil 1 (by omega)
    obtain ⟨z2, hz2, hw2⟩ := hcell i hil 2 (by omega)
    obtain ⟨z3, hz3, hw3⟩ := hcell i hil 3 (by omega)
    obtain ⟨z4, hz4, hw4⟩ := hcell i hil 4 (by omega)
    obtain ⟨z5, hz5⟩ := hbool i hil
    rw [Nat.add_zero] at hz0
    exact ⟨a, rfl, by have := cell_lt hz0; rwa [add_block] at this, ⟨by simp [numAct, hz0], by simp [numAct, hz1], by simp [numAct, hz2], by simp [numAct, hz3], by simp [numAct, hz4], by simp [bitAct, hz5]⟩, by simp [numAct, hz1]; exact hw1, by simp [numAct, hz2]; exact hw2, by simp [numAct, hz3]; exact hw3, by simp [numAct, hz4]; exact hw4⟩
end
end Go.Proofs.YtandmngfajoinaaGreat
