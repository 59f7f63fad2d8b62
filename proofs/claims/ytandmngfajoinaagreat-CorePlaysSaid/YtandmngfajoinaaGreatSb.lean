/- The map of weights; what a queue is in; weight.Step. -/
import Derived.Test.YtandmngfajoinaaGreatSa
import Derived.Maps.OwnSet
namespace Go.Proofs.YtandmngfajoinaaGreat
open Go.RowKit Go.Maps

def stepV (x : Int) : Int := if goodB x = true then 232792560 / x else 0
theorem stepV_yes {x : Int} (h : goodB x = true) : stepV x = 232792560 / x := by unfold stepV; rw [if_pos h]
theorem stepV_no {x : Int} (h : goodB x = false) : stepV x = 0 := by unfold stepV; rw [if_neg (by simp [h])]
theorem stepV_bd (x : Int) : 0 ≤ stepV x ∧ stepV x ≤ 232792560 := by
  unfold stepV
  split
  · rename_i h
    have := goodB_true.1 h
    exact ⟨Int.ediv_nonneg (by decide) (by omega), Int.ediv_le_self _ (by decide)⟩
  · omega

set_option maxHeartbeats 400000 in
theorem step_c (x : Int) (w : World) :
    Calls Tryz.prog 84 #[.int .i64 x] w fun e w' => e = .returned (.int .i64 (stepV x)) ∧ w = w' := by
  cases h : goodB x with
  | true =>
    have hx := goodB_true.1 h
    obtain ⟨h1, h2⟩ := hx
    have hc := Lib.hid (fun w => wgood_c x w)
    rw [h] at hc
    have HS := Lib.hid (stepV_yes h)
    clear h
    have hz : (x == 0) = false := beq_eq_false_iff_ne.2 (by omega)
    go_enter Tryz.func84, Tryz.ntmps84
    go_wp2_with (go_at_call 85; refine (hc.out _).mono ?_; rintro e w' ⟨rfl, rfl⟩)
    go_ret
    refine ⟨ret_i ?_, rfl⟩
    rw [HS.out]
  | false =>
    have hc := Lib.hid (fun w => wgood_c x w)
    rw [h] at hc
    have HS := Lib.hid (stepV_no h)
    clear h
    go_enter Tryz.func84, Tryz.ntmps84
    go_wp2_with (go_at_call 85; refine (hc.out _).mono ?_; rintro e w' ⟨rfl, rfl⟩)
    go_ret
    exact ⟨ret_i HS.out.symm, rfl⟩

/-! The map of weights -/
theorem Keeps.perm {D : DataW Unit} {L L' : List QI} (h : Keeps D L) (hp : L.Perm L') : Keeps D L' :=
  ⟨h.tidy, h.size.trans hp.length_eq, fun id => (h.has id).trans ⟨fun ⟨x, hx, he⟩ => ⟨x, hp.mem_iff.1 hx, he⟩, fun ⟨x, hx, he⟩ => ⟨x, hp.mem_iff.2 hx, he⟩⟩, fun x hx => h.get x (hp.mem_iff.2 hx)⟩
theorem Keeps.add {D : DataW Unit} {L : List QI} (h : Keeps D L) {x : QI} (hx : ∀ z ∈ L, z.2 ≠ x.2) : Keeps (D.put (.int .i64 x.2) (.lit (.int .i64 x.1))) (x :: L) := (h.put hx).perm (insL_perm L x)
theorem Keeps.set {D : DataW Unit} {L : List QI} (h : Keeps D L) {n id : Int} (hx : ∃ z ∈ L, z.2 = id) : Keeps (D.put (.int .i64 id) (.lit (.int .i64 n))) (L.map (fun x => if x.2 = id then (n, x.2) else x)) := by
  have hid : ∀ x : QI, (if x.2 = id then ((n, x.2) : QI) else x).2 = x.2 := fun x => by split <;> rfl
  have hyes : Maps.has D (.int .i64 id) = true := (h.has _).2 hx
  refine ⟨h.tidy.put (isKey _) _, ?_, fun i => ?_, fun z hz => ?_⟩
  · rw [size_put h.tidy, hyes, List.length_map, h.size]; simp
  · by_cases he : i = id
    · subst he
      rw [has_put_same h.tidy.isMap (isKey _)]
      simp only [true_iff]
      obtain ⟨z, hz, he⟩ := hx
      exact ⟨_, List.mem_map.2 ⟨z, hz, rfl⟩, (hid z).trans he⟩
    · rw [has_put_other (by intro e; injection e with _ e; exact he e), h.has]
      constructor
      · rintro ⟨z, hz, rfl⟩; exact ⟨_, List.mem_map.2 ⟨z, hz, rfl⟩, hid z⟩
      · rintro ⟨z, hz, rfl⟩
        obtain ⟨y, hy, rfl⟩ := List.mem_map.1 hz
        exact ⟨y, hy, (hid y).symm⟩
  · obtain ⟨y, hy, rfl⟩ := List.mem_map.1 hz
    by_cases he : y.2 = id
    · rw [if_pos he]
      simp only
      rw [he, atKey_put_same h.tidy.isMap (isKey _)]
    · rw [if_neg he, atKey_put_other (by intro e; injection e with _ e; exact he e)]
      exact h.get y hy
theorem Keeps.rem {D : DataW Unit} {L L' : List QI} (h : Keeps D L) {x : QI} (hp : L.Perm (x :: L')) (hn : ∀ z ∈ L', z.2 ≠ x.2) : Keeps (D.del (.int .i64 x.2)) L' := by
  have h' := h.perm hp
  have hyes : Maps.has D (.int .i64 x.2) = true := (h'.has _).2 ⟨x, by simp, rfl⟩
  refine ⟨h'.tidy.del _, ?_, fun id => ?_, fun z hz => ?_⟩
  · have := size_del h'.tidy (k := .int .i64 x.2)
    rw [hyes, h'.size] at this
    simp at this
    exact this
  · by_cases he : id = x.2
    · subst he
      rw [has_del_same]
      simp only [Bool.false_eq_true, false_iff]
      rintro ⟨z, hz, he⟩
      exact hn z hz he
    · rw [has_del_other (by intro e; injection e with _ e; exact he e), h'.has]
      constructor
      · rintro ⟨z, hz, rfl⟩
        rcases List.mem_cons.1 hz with rfl | hz
        · exact absurd rfl he
        · exact ⟨z, hz, rfl⟩
      · rintro ⟨z, hz, rfl⟩; exact ⟨z, by simp [hz], rfl⟩
  · rw [atKey_del_other (by intro e; injection e with _ e; exact hn z hz e)]
    exact h'.get z (by simp [hz])

/-- Block m is a map int -> int that keeps G. -/
def WMap (w : World) (m : Nat) (G : List QI) : Prop := ∃ D : DataW Unit, w.ownsMap Tryz.prog 3 (plainElem Tryz.prog 3) m G.length D ∧ Keeps D G
theorem WMap.keep {w w' : World} {m : Nat} {G : List QI} (h : WMap w m G) (hs : w'.heap[m]? = w.heap[m]?) : WMap w' m G := by
  obtain ⟨D, h1, h2⟩ := h
  exact ⟨D, ownsMap_keep h1 hs, h2⟩
theorem WMap.lt {w : World} {m : Nat} {G : List QI} (h : WMap w m G) : m < w.heap.size := by
  obtain ⟨D, h1, _⟩ := h
  exact h1.lt
theorem WMap.perm {w : World} {m : Nat} {G G' : List QI} (h : WMap w m G) (hp : G.Perm G') : WMap w m G' := by
  obtain ⟨D, h1, h2⟩ := h
  exact ⟨D, by rw [← hp.length_eq]; exact h1, h2.perm hp⟩
theorem WMap.new (w : World) : WMap (w.alloc (.map #[] 0)) w.heap.size [] := ⟨.map [], World.ownsMap_made w Tryz.prog 3 (plainElem Tryz.prog 3), Keeps.empty⟩
theorem zero_int (w : World) : (zeroValue 3).run Tryz.prog w = .ok (.int .i64 0) w := by kernel_rfl
set_option maxRecDepth 100000 in
/-- 'v, ok := m[id]'. -/
theorem WMap.look {w : World} {m : Nat} {G : List QI} (h : WMap w m G) (id : Int) (hw : wf64 id) :
    (∀ x ∈ G, x.2 = id → (Instr.lookup 126 (.map (some m)) (.int .i64 id) true).run Tryz.prog w = .ok (.tuple #[.int .i64 x.1, .bool true]) w) ∧
    ((∀ x ∈ G, x.2 ≠ id) → (Instr.lookup 126 (.map (some m)) (.int .i64 id) true).run Tryz.prog w = .ok (.tuple #[.int .i64 0, .bool false]) w) := by
  obtain ⟨D, h1, h2⟩ := h
  obtain ⟨v, ps, hrun, hv⟩ := h1.look_ok keyed_i Tryz.underlying126 (zero_int w) (plainElem_int Tryz.underlying3 (by decide)) (keyOf_int_mk Tryz.underlying3 hw)
  obtain ⟨c, rfl, hc, _⟩ := plainElem_int_inv Tryz.underlying3 hv
  have hc' : D.atKey (.int .i64 id) (.lit (.int .i64 0)) = .lit (.int .i64 c) := congrArg Prod.fst hc
  refine ⟨fun x hx he => ?_, fun hn => ?_⟩
  · subst he
    have e1 := h2.get x hx
    rw [hc'] at e1
    injection e1 with e1
    injection e1 with _ e1
    rw [hrun, (h2.has _).2 ⟨x, hx, rfl⟩, e1]
  · have hno : Maps.has D (.int .i64 id) = false := by
      cases hh : Maps.has D (.int .i64 id) with
      | false => rfl
      | true => obtain ⟨z, hz, he⟩ := (h2.has _).1 hh; exact absurd he (hn z hz)
    have e1 := hc'
    rw [atKey_of_not_has hno] at e1
    injection e1 with e1
    injection e1 with _ e1
    rw [hrun, hno, e1]
set_option maxRecDepth 100000 in
/-- 'm[id]'. -/
theorem WMap.look1 {w : World} {m : Nat} {G : List QI} (h : WMap w m G) {x : QI} (hx : x ∈ G) (hw : wf64 x.2) :
    (Instr.lookup 126 (.map (some m)) (.int .i64 x.2) false).run Tryz.prog w = .ok (.int .i64 x.1) w := by
  obtain ⟨D, h1, h2⟩ := h
  obtain ⟨v, ps, hrun, hv⟩ := h1.lookup keyed_i Tryz.underlying126 (zero_int w) (plainElem_int Tryz.underlying3 (by decide)) (keyOf_int_mk Tryz.underlying3 hw)
  obtain ⟨c, rfl, hc, _⟩ := plainElem_int_inv Tryz.underlying3 hv
  have hc' : D.atKey (.int .i64 x.2) (.lit (.int .i64 0)) = .lit (.int .i64 c) := congrArg Prod.fst hc
  have e1 := h2.get x hx
  rw [hc'] at e1
  injection e1 with e1
  injection e1 with _ e1
  rw [hrun, e1]
theorem WMap.store {w : World} {m : Nat} {G G' : List QI} (h : WMap w m G) {id n : Int} (hw : wf64 id) (hn : wf64 n) (hl : G.length ≤ 1000000) (hk : ∀ D, Keeps D G → Keeps (D.put (.int .i64 id) (.lit (.int .i64 n))) G') :
    ∃ w', (Instr.mapUpdate 126 (.map (some m)) (.int .i64 id) (.int .i64 n)).run Tryz.prog w = .ok () w' ∧ WMap w' m G' ∧ w.grownBy w' (some m) ∧ w'.heap.size = w.heap.size := by
  obtain ⟨D, h1, h2⟩ := h
  obtain ⟨w', hrun, h3, h4⟩ := h1.store keyed_i Tryz.underlying126 (by unfold maxLen; omega) (keyOf_int_mk Tryz.underlying3 hw) (plainElem_int Tryz.underlying3 hn)
  have h5 := hk D h2
  refine ⟨w', hrun, ⟨_, by rw [← h5.size]; exact ownsMap_tight h3, h5⟩, h4.grown, ?_⟩
  obtain ⟨_, _, _, _, _, rfl⟩ := h4
  simp [ChangeMaps.setBlock]
theorem WMap.drop {w : World} {m : Nat} {G G' : List QI} (h : WMap w m G) {x : QI} (hw : wf64 x.2) (hp : G.Perm (x :: G')) (hn : ∀ z ∈ G', z.2 ≠ x.2) (ty : TypeId) :
    ∃ w', (Builtin.delete_ #[126, 3] ty #[.map (some m), .int .i64 x.2]).run Tryz.prog w = .ok (.tuple #[]) w' ∧ WMap w' m G' ∧ w.grownBy w' (some m) ∧ w'.heap.size = w.heap.size := by
  obtain ⟨D, h1, h2⟩ := h
  obtain ⟨w', hrun, h3, h4⟩ := h1.drop keyed_i Tryz.underlying126 (keyOf_int_mk Tryz.underlying3 hw) ty
  have h5 := h2.rem hp hn
  refine ⟨w', hrun, ⟨_, by rw [← h5.size]; exact ownsMap_tight h3, h5⟩, h4.grown, ?_⟩
  obtain ⟨_, _, _, _, _, rfl⟩ := h4
  simp [ChangeMaps.setBlock]
end Go.Proofs.YtandmngfajoinaaGreat
