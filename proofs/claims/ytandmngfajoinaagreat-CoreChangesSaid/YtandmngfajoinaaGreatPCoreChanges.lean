/- The law CoreChanges returns true for every input, and each argument reads afterwards as it did before (no condition). The walk is in YtandmngfajoinaaGreatLCc. -/
import Derived.Test.YtandmngfajoinaaGreatRows
import Derived.Lib.SmallJoins
import Derived.Test.YtandmngfajoinaaGreatYrc
import Derived.Test.YtandmngfajoinaaGreatFrame
import Derived.Test.YtandmngfajoinaaGreatLCc
namespace Go.Proofs.YtandmngfajoinaaGreat.coreChanges
open Go.ChangeShapes Go.WideShapes Go.ChangeAt Go.RowKit
set_option linter.unusedVariables false

theorem own : ownKnob Tryz.prog.godebug = none := by kernel_rfl
theorem laidOut : laidOutB Tryz.prog = true := by kernel_rfl
set_option maxRecDepth 100000 in
theorem forms69 : ∀ fs, Tryz.prog.underlying 69 = some (.struct fs) → ∀ (j : Nat) (f : Field), fs[j]? = some f → Tryz.prog.underlying f.type = some (.int .i64) := by
  intro fs h j f hj
  rw [Tryz.underlying69] at h
  injection h with h
  injection h with h
  subst h
  have hm := Array.mem_of_getElem? hj
  simp at hm
  (repeat' (rcases hm with rfl | hm)) <;> (try subst hm) <;> (first | exact Tryz.underlying2 | exact Tryz.underlying3)

set_option maxRecDepth 100000 in
theorem lifted (os : Os) (started : os.Started) (H : Type) (enc : TypeId × Value → H) :
    ReturnsInHanded {} Tryz.checked os 6 .any (Rows.coreChangesSpec.pre6 enc Tryz.prog Tryz.f6 Rows.coreChangesRow.domain false) (Rows.coreChangesSpec.post enc Tryz.prog Tryz.f6 false true false false) := by
  refine returnsInHanded_of_change (C := Tryz.checked) own started (by kernel_rfl) Tryz.func6
    (ChangeSpec.witness6 (enc := enc) (C := Tryz.checked) false ⟨#[], #[.int .i64 0, .agg #[.int .i64 0, .slice none 0 0], .int .i64 0, .agg #[.int .i64 0, .slice none 0 0]], []⟩ 8 (by kernel_rfl) (by kernel_rfl) (by kernel_rfl) (by kernel_rfl)) ?_
  intro W base args ds gs before hval0 hW hcnd _
  have hval : ∀ (j : Nat) t v, Tryz.f6.params[j]? = some t → args[j]? = some v → Value.okWide Tryz.prog W .any base t v := hval0
  have hW' := hW
  obtain ⟨p, q, hA0, hV, hps, hfz, hnd⟩ := hW
  have hA : DataW.TrodAll enc Tryz.prog W 0 (fun _ => true) true Tryz.f6.params.toList args.toList ds p := hA0
  rw [Tryz.params6] at hA hval
  obtain ⟨v0, vs0, d0, ds0, p0, q0, hargs, rfl, rfl, h0, r0⟩ := trodAll_cons hA
  obtain ⟨v1, vs1, d1, ds1, p1, q1, rfl, rfl, rfl, h1, r1⟩ := trodAll_cons r0
  obtain ⟨v2, vs2, d2, ds2, p2, q2, rfl, rfl, rfl, h2, r2⟩ := trodAll_cons r1
  obtain ⟨v3, vs3, d3, ds3, p3, q3, rfl, rfl, rfl, h3, r3⟩ := trodAll_cons r2
  obtain ⟨rfl, rfl, rfl⟩ := trodAll_nil r3
  obtain rfl : args = #[v0, v1, v2, v3] := by cases args; simp_all
  obtain ⟨a0, rfl, rfl, rfl, w0⟩ := open_int Tryz.underlying3 (hval 0 3 v0 rfl rfl) h0
  obtain ⟨x1_0, x1_1, y1_0, y1_1, n1, rfl, rfl, rfl, g1_0, g1_1⟩ := Go.Joins.open_agg2 Tryz.underlying47 (by kernel_rfl) (by kernel_rfl) (hval 1 47 v1 rfl rfl) h1
  obtain ⟨a1, z1, rfl, w1⟩ := DataW.trod_int Tryz.underlying3 g1_0
  obtain rfl := List.singleton_inj.1 z1
  obtain ⟨A1, c1, l1, rfl, hl1, hm1, hr1, hz1⟩ := view_items Tryz.underlying45 Tryz.underlying69 (by kernel_rfl) (by kernel_rfl) (by rfl) (forms69 _ Tryz.underlying69) g1_1
  obtain ⟨a2, rfl, rfl, rfl, w2⟩ := open_int Tryz.underlying3 (hval 2 3 v2 rfl rfl) h2
  obtain ⟨x3_0, x3_1, y3_0, y3_1, n3, rfl, rfl, rfl, g3_0, g3_1⟩ := Go.Joins.open_agg2 Tryz.underlying47 (by kernel_rfl) (by kernel_rfl) (hval 3 47 v3 rfl rfl) h3
  obtain ⟨a3, z3, rfl, w3⟩ := DataW.trod_int Tryz.underlying3 g3_0
  obtain rfl := List.singleton_inj.1 z3
  obtain ⟨A3, c3, l3, rfl, hl3, hm3, hr3, hz3⟩ := view_items Tryz.underlying45 Tryz.underlying69 (by kernel_rfl) (by kernel_rfl) (by rfl) (forms69 _ Tryz.underlying69) g3_1
  refine (Po.cchanges_c a0 a1 a2 a3 A1 A3 c1 c3 l1 l3 W hr1 hr3).mono fun e W' ⟨he, hb⟩ => ?_
  subst he
  exact ⟨_, rfl, law_post laidOut (by kernel_rfl) rfl rfl Tryz.underlying4 hW' rfl hb⟩

theorem over : Rows.coreChangesRow.holds Tryz.pinned (OpenSpec.ofChange Rows.coreChangesSpec) :=
  OpenClaim.holds_of_wide 6 Tryz.f6 rfl rfl rfl rfl rfl rfl rfl ⟨rfl, rfl, rfl, rfl, rfl⟩ rfl rfl rfl rfl rfl (by kernel_rfl) Tryz.func6 (by kernel_rfl)
    (of_decide_eq_true (by kernel_rfl)) (by unfold Func.isWrapper; first | (rw [if_pos (by decide +kernel)]; kernel_rfl) | (rw [if_neg (by decide +kernel)]; exact ⟨rfl, rfl⟩))
    (fun os started H enc _ => lifted os started H enc)

/-- The statement. -/
theorem proved : Rows.CoreChangesSaid :=
  over
#print axioms proved
end Go.Proofs.YtandmngfajoinaaGreat.coreChanges
