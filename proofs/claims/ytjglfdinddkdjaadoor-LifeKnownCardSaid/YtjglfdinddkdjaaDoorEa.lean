/- The two listed tables: what the program's package variables hold. -/
import Derived.Lib.LaidU8
import Derived.MakeChecks
import Derived.Stop.Joined
import Derived.Test.YtjglfdinddkdjaaDoorRows
import Derived.Test.YtjglfdinddkdjaaDoorMem
import Derived.Test.YtjglfdinddkdjaaDoorFrame
namespace Go.Proofs.YtjglfdinddkdjaaDoor
open Go.RowKit

/-- What follows: by the state, then by the action. -/
def rowL : List (List Int) := [[0, 0, 0, 0, 0, 0, 0, 0, 0], [0, 2, 0, 0, 0, 0, 0, 0, 6], [0, 0, 3, 0, 4, 0, 5, 0, 6], [0, 0, 0, 2, 4, 0, 5, 0, 6], [0, 0, 0, 0, 0, 2, 0, 0, 6], [0, 0, 0, 0, 4, 0, 0, 2, 6], [0, 0, 0, 0, 0, 0, 0, 0, 0]]
def nameL : List (List UInt8) := [[110, 111, 110, 101], [110, 101, 119], [114, 101, 97, 100, 121], [114, 117, 110, 115], [115, 108, 101, 101, 112, 115], [104, 101, 108, 100], [103, 111, 110, 101]]

/-- The variables hold the tables. -/
def Tabs (w : World) : Prop :=
  (∀ s a z, s < 7 → a < 9 → ((rowL[s]?).getD [])[a]? = some z → w.cell? ⟨0, s * 9 + a, none⟩ = some (.int .i64 z)) ∧
  (∀ s bs, nameL[s]? = some bs → w.cell? ⟨1, s, none⟩ = some (.string ⟨bs.toArray⟩))

theorem Tabs.lt0 {w : World} (h : Tabs w) : 0 < w.heap.size := cell_lt (h.1 0 0 0 (by decide) (by decide) rfl)
theorem Tabs.lt1 {w : World} (h : Tabs w) : 1 < w.heap.size := cell_lt (h.2 0 _ rfl)
theorem Tabs.below {w w' : World} {B : Nat} (h : Tabs w) (hb : Below B w w') (hB : w.heap.size ≤ B) : Tabs w' := by
  have h0 := h.lt0
  have h1 := h.lt1
  refine ⟨fun s a z hs ha hz => ?_, fun s bs hz => ?_⟩
  · rw [hb.cell (Nat.lt_of_lt_of_le h0 hB)]; exact h.1 s a z hs ha hz
  · rw [hb.cell (Nat.lt_of_lt_of_le h1 hB)]; exact h.2 s bs hz

theorem laid_plain (W : World) (h : laidMetH Tryd.prog [("stadholder/life.follows", Rows.laid_stadholder_life_follows), ("stadholder/life.names", Rows.laid_stadholder_life_names)] W) : Tabs W := by
  rw [MakeChecks.laidMetH_plain _ _ _ (by rfl)] at h
  refine ⟨?_, ?_⟩
  · obtain ⟨g, t, cs, fuel, p, hg, hty, hvar, hd⟩ := Lib.laidMet.reads h (.head _)
    have hg0 : Tryd.prog.globalNamed "stadholder/life.follows" = some 0 := by kernel_rfl
    have ht0 : (Tryd.prog.globals[0]?).map (·.type) = some 32 := by kernel_rfl
    obtain rfl := Option.some.inj (hg0.symm.trans hg)
    obtain rfl := Option.some.inj (ht0.symm.trans hty)
    intro s a z hs ha hz
    rw [World.var?_cell hg hvar, ← Array.getElem?_toList]
    obtain ⟨fuel', d, q, hdi, he⟩ := Lib.array_elem Tryd.underlying32 hd s hs
    have hc9 : Tryd.prog.cellsOf 31 = 9 := by kernel_rfl
    have hc1 : Tryd.prog.cellsOf 3 = 1 := by kernel_rfl
    rw [hc9] at he
    have hdd : d = Lib.tabData .i64 ((rowL[s]?).getD []) := by
      match s, hs, hdi with
      | 0, _, hdi => cases hdi; rfl
      | 1, _, hdi => cases hdi; rfl
      | 2, _, hdi => cases hdi; rfl
      | 3, _, hdi => cases hdi; rfl
      | 4, _, hdi => cases hdi; rfl
      | 5, _, hdi => cases hdi; rfl
      | 6, _, hdi => cases hdi; rfl
    subst hdd
    have hcs := Lib.cells_of_tab Tryd.underlying31 Tryd.underlying3 hc1 hc9 he
    have h1 := congrArg (·[a]?) hcs
    simp only [List.getElem?_take, if_pos ha, List.getElem?_drop, List.getElem?_map, hz, Option.map_some] at h1
    exact h1
  · obtain ⟨g, t, cs, fuel, p, hg, hty, hvar, hd⟩ := Lib.laidMet.reads h (.tail _ (.head _))
    have hg0 : Tryd.prog.globalNamed "stadholder/life.names" = some 1 := by kernel_rfl
    have ht0 : (Tryd.prog.globals[1]?).map (·.type) = some 33 := by kernel_rfl
    obtain rfl := Option.some.inj (hg0.symm.trans hg)
    obtain rfl := Option.some.inj (ht0.symm.trans hty)
    intro s bs hz
    have hs : s < 7 := (List.getElem?_eq_some_iff.1 hz).1
    rw [World.var?_cell hg hvar, ← Array.getElem?_toList]
    obtain ⟨fuel', d, q, hdi, he⟩ := Lib.array_elem Tryd.underlying33 hd s hs
    have hc1 : Tryd.prog.cellsOf 9 = 1 := by kernel_rfl
    rw [hc1] at he
    obtain ⟨st, hcs, hx, _⟩ := DataW.trod_string Tryd.underlying9 he
    have hdd : d = .lit (.string bs) := by
      match s, hs, hdi, hz with
      | 0, _, hdi, hz => cases hdi; cases hz; rfl
      | 1, _, hdi, hz => cases hdi; cases hz; rfl
      | 2, _, hdi, hz => cases hdi; cases hz; rfl
      | 3, _, hdi, hz => cases hdi; cases hz; rfl
      | 4, _, hdi, hz => cases hdi; cases hz; rfl
      | 5, _, hdi, hz => cases hdi; cases hz; rfl
      | 6, _, hdi, hz => cases hdi; cases hz; rfl
    subst hdd
    simp only [Prod.mk.injEq, DataW.lit.injEq, Lit.string.injEq] at hx
    have hst : st = ⟨bs.toArray⟩ := by
      cases st
      obtain ⟨hx, _⟩ := hx
      subst hx
      simp
    subst hst
    have h1 := congrArg (·[0]?) hcs
    simpa [List.getElem?_take, List.getElem?_drop] using h1
end Go.Proofs.YtjglfdinddkdjaaDoor
