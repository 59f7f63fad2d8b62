/- An argument that holds a slice of items. -/
import Derived.Test.YtandmngfajoinaaGreatFrame
import Derived.Test.YtandmngfajoinaaGreatYa
import Derived.Deep.Slices
import Derived.Deep.Fields
import Derived.ChangeSame
namespace Go.Proofs.YtandmngfajoinaaGreat
open Go.ChangeShapes Go.WideShapes Go.ChangeAt Go.RowKit Go.Deep

section
variable {H : Type} {enc : TypeId × Value → H} {P : Program}
/-- What a cell holds, as a number. -/
def numItem (W : World) (a : Addr) : Int := match W.cell? a with | some (.int _ z) => z | _ => 0

theorem view_items {W : World} {t e : TypeId} {fs : Array Field} {v : Value} {fuel : Nat} {y : DataW H × List MemPlace} (ht : P.underlying t = some (.slice e)) (he : P.underlying e = some (.struct fs)) (h1 : oneCellFields P fs = true) (hC : P.cellsOf e = fs.size) (h3 : fs.size = 3)
    (hint : ∀ (j : Nat) (f : Field), fs[j]? = some f → P.underlying f.type = some (.int .i64)) (hf : DataW.trod enc P W 0 (fun _ => true) true fuel t [v] = some y) :
    ∃ (A : Option Addr) (c : Nat) (l : List RI), v = .slice A l.length c ∧ l.length ≤ c ∧ c ≤ maxLen ∧ TRow W A l ∧ (A = none → c = 0) := by
  obtain ⟨d, p⟩ := y
  rcases open_slice ht hf with ⟨hcs, _⟩ | ⟨a, len, cap, m, n, D, Pl, hcs, _, hl, hm, hmm, _, hi⟩
  · obtain rfl := List.singleton_inj.1 hcs
    exact ⟨none, 0, [], rfl, Nat.le_refl _, Nat.zero_le _, TRow.nil, fun _ => rfl⟩
  · obtain rfl := List.singleton_inj.1 hcs
    have hlm : len ≤ m := by rw [hmm]; split <;> omega
    have hcell : ∀ i, i < len → ∀ j, j < 3 → ∃ z, W.cell? (a.add (i * 3 + j)) = some (.int .i64 z) := by
      intro i hil j hj
      obtain ⟨cs', hc, htr⟩ := hi i (by omega)
      rw [hC] at hc
      obtain ⟨ys, n', _, _, _, hyl, hfl⟩ := DataW.trod_struct he htr
      obtain ⟨_, hcl, hat⟩ := World.cells?_some hc
      have hfj : fs[j]? = some fs[j] := Array.getElem?_eq_getElem (by omega)
      obtain ⟨ho, hk⟩ := hone_of h1 j fs[j] hfj
      have h2 := hfl j fs[j] hfj
      have hjc : j < cs'.length := by omega
      have e1 : (cs'.drop j).take 1 = [cs'[j]] := by rw [List.drop_eq_getElem_cons hjc]; rfl
      rw [ho, hk, e1, List.getElem?_eq_getElem (by omega)] at h2
      obtain ⟨z, hz, _, hw⟩ := DataW.trod_int (hint j _ hfj) h2
      injection hz with hz
      refine ⟨z, ?_⟩
      have h3' := hat j (by omega)
      rw [Go.Deep.add_add, List.getElem?_eq_getElem hjc, hz, h3] at h3'
      exact h3'
    refine ⟨some a, cap, (List.range len).map (fun i => (numItem W (a.add (i * 3)), numItem W (a.add (i * 3 + 1)), numItem W (a.add (i * 3 + 2)))), by simp, by simpa using hl, hm, fun i r hr => ?_, fun e => by cases e⟩
    have hil : i < len := by
      have := (List.getElem?_eq_some_iff.1 hr).1
      simpa using this
    simp [hil] at hr
    subst hr
    obtain ⟨z0, hz0⟩ := hcell i hil 0 (by omega)
    obtain ⟨z1, hz1⟩ := hcell i hil 1 (by omega)
    obtain ⟨z2, hz2⟩ := hcell i hil 2 (by omega)
    rw [Nat.add_zero] at hz0
    exact ⟨a, rfl, by simp [numItem, hz0], by simp [numItem, hz1], by simp [numItem, hz2]⟩
end
end Go.Proofs.YtandmngfajoinaaGreat
