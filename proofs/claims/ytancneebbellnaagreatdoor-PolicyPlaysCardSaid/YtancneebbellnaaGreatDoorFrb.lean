/- An argument that is a slice of structs whose fields are all numbers. No function of the program is named here. -/
import Derived.Test.YtancneebbellnaaGreatDoorFrame
import Derived.Deep.Slices
import Derived.Deep.Fields
import Derived.ChangeSame
namespace Go.Proofs.YtancneebbellnaaGreatDoor
open Go.ChangeShapes Go.WideShapes Go.ChangeAt Go.RowKit Go.Deep

section
variable {H : Type} {enc : TypeId × Value → H} {P : Program}

/-- What a cell holds, as a number. -/
def numAt (W : World) (a : Addr) : Int := match W.cell? a with | some (.int _ z) => z | _ => 0
/-- The slice at A holds the rows l, each of nf numbers. -/
def Rows (W : World) (nf : Nat) (A : Option Addr) (l : List (List Int)) : Prop :=
  ∀ i r, l[i]? = some r → r.length = nf ∧ ∃ ad, A = some ad ∧ ad.block < W.heap.size ∧ ∀ j z, r[j]? = some z → W.cell? (ad.add (i * nf + j)) = some (.int .i64 z) ∧ (Lit.int .i64 z).wf = true

theorem view_rows {W : World} {r : Reach} {b0 : Nat} {t e : TypeId} {fs : Array Field} {v : Value} {d : DataW H} {p : List MemPlace} (ht : P.underlying t = some (.slice e)) (he : P.underlying e = some (.struct fs)) (h1 : oneCellFields P fs = true) (hC : P.cellsOf e = fs.size) (hpos : 0 < fs.size)
    (hint : ∀ (j : Nat) (f : Field), fs[j]? = some f → P.underlying f.type = some (.int .i64)) (hval : Value.okWide P W r b0 t v) (h : DataW.Trod enc P W 0 (fun _ => true) true t v d p) :
    ∃ (A : Option Addr) (c : Nat) (l : List (List Int)), v = .slice A l.length c ∧ l.length ≤ c ∧ c ≤ maxLen ∧ Rows W fs.size A l ∧ (A = none → c = 0) := by
  obtain ⟨a0, len, cap, rfl⟩ := okWide_slice ht hval
  obtain ⟨fuel, hf⟩ := h
  rcases open_slice ht hf with ⟨hcs, _⟩ | ⟨a, len', cap', m, n, D, Pl, hcs, _, hl, hm, hmm, _, hi⟩
  · simp [Value.cells] at hcs
    obtain ⟨rfl, rfl, rfl⟩ := hcs
    exact ⟨none, 0, [], rfl, Nat.le_refl _, Nat.zero_le _, fun i r hi => by simp at hi, fun _ => rfl⟩
  · simp [Value.cells] at hcs
    obtain ⟨rfl, rfl, rfl⟩ := hcs
    have hlm : len ≤ m := by rw [hmm]; split <;> omega
    have hcell : ∀ i, i < len → ∀ j, j < fs.size → ∃ z, W.cell? (a.add (i * fs.size + j)) = some (.int .i64 z) ∧ (Lit.int .i64 z).wf = true := by
      intro i hil j hj
      obtain ⟨cs', hc, htr⟩ := hi i (by omega)
      rw [hC] at hc
      obtain ⟨ys, n', _, _, _, hyl, hfl⟩ := DataW.trod_struct he htr
      obtain ⟨_, hcl, hat⟩ := World.cells?_some hc
      have hfj : fs[j]? = some fs[j] := Array.getElem?_eq_getElem hj
      obtain ⟨ho, hk⟩ := hone_of h1 j fs[j] hfj
      have h2 := hfl j fs[j] hfj
      have hjc : j < cs'.length := by omega
      have e1 : (cs'.drop j).take 1 = [cs'[j]] := by rw [List.drop_eq_getElem_cons hjc]; rfl
      rw [ho, hk, e1, List.getElem?_eq_getElem (by omega)] at h2
      obtain ⟨z, hz, _, hw⟩ := DataW.trod_int (hint j _ hfj) h2
      injection hz with hz
      refine ⟨z, ?_, hw⟩
      have h3 := hat j hj
      rw [Go.Deep.add_add, List.getElem?_eq_getElem hjc, hz] at h3
      exact h3
    refine ⟨some a, cap, (List.range len).map (fun i => (List.range fs.size).map (fun j => numAt W (a.add (i * fs.size + j)))), by simp, by simpa using hl, hm, fun i r hr => ?_, fun h => by cases h⟩
    have hil : i < len := by
      have := (List.getElem?_eq_some_iff.1 hr).1
      simpa using this
    simp [hil] at hr
    subst hr
    obtain ⟨z0, hz0, _⟩ := hcell i hil 0 hpos
    refine ⟨by simp, a, rfl, by have := cell_lt hz0; rwa [add_block] at this, fun j z hj => ?_⟩
    have hjl : j < fs.size := by
      have := (List.getElem?_eq_some_iff.1 hj).1
      simpa using this
    obtain ⟨q, hq, hw⟩ := hcell i hil j hjl
    simp [hjl, numAt, hq] at hj
    subst hj
    exact ⟨hq, hw⟩
end
end Go.Proofs.YtancneebbellnaaGreatDoor
