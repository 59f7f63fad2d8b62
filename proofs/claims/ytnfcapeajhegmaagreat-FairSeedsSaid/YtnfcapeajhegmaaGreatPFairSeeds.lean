/- The law FairSeeds returns true for every input, and each argument reads afterwards as it did before (no condition). The walk is in YtnfcapeajhegmaaGreatLFt3. -/
import Derived.Test.YtnfcapeajhegmaaGreatRows
import Derived.Test.YtnfcapeajhegmaaGreatFrb
import Derived.Lib.SmallJoins
import Derived.Test.YtnfcapeajhegmaaGreatYrc
import Derived.Test.YtnfcapeajhegmaaGreatFrame
import Derived.Test.YtnfcapeajhegmaaGreatLFt3
namespace Go.Proofs.YtnfcapeajhegmaaGreat.fairSeeds
open Go.ChangeShapes Go.WideShapes Go.ChangeAt Go.RowKit
set_option linter.unusedVariables false

theorem own : ownKnob Tryz.prog.godebug = none := by kernel_rfl
theorem laidOut : laidOutB Tryz.prog = true := by kernel_rfl
set_option maxRecDepth 100000 in
theorem rows50 : ∀ fs, Tryz.prog.underlying 50 = some (.struct fs) → ∀ (j : Nat) (f : Field), fs[j]? = some f → Tryz.prog.underlying f.type = some (.int .i64) := by
  intro fs h j f hj
  rw [Tryz.underlying50] at h
  injection h with h
  injection h with h
  subst h
  have hm := Array.mem_of_getElem? hj
  simp at hm
  (repeat' (rcases hm with rfl | hm)) <;> (try subst hm) <;> (first | exact Tryz.underlying2 | exact Tryz.underlying3)
set_option maxRecDepth 100000 in
theorem forms74 : ∀ fs, Tryz.prog.underlying 74 = some (.struct fs) → ∀ (j : Nat) (f : Field), fs[j]? = some f → Tryz.prog.underlying f.type = some (.int .i64) := by
  intro fs h j f hj
  rw [Tryz.underlying74] at h
  injection h with h
  injection h with h
  subst h
  have hm := Array.mem_of_getElem? hj
  simp at hm
  (repeat' (rcases hm with rfl | hm)) <;> (try subst hm) <;> (first | exact Tryz.underlying2 | exact Tryz.underlying3)

set_option maxRecDepth 100000 in
theorem lifted (os : Os) (started : os.Started) (H : Type) (enc : TypeId × Value → H) :
    ReturnsInHanded {} Tryz.checked os 4 .any (Rows.fairSeedsSpec.pre6 enc Tryz.prog Tryz.f4 Rows.fairSeedsRow.domain false) (Rows.fairSeedsSpec.post enc Tryz.prog Tryz.f4 false true false false) := by
  refine returnsInHanded_of_change (C := Tryz.checked) own started (by kernel_rfl) Tryz.func4
    (ChangeSpec.witness6 (enc := enc) (C := Tryz.checked) false ⟨#[], #[.agg #[.int .i64 0, .slice none 0 0], .int .i64 0, .slice none 0 0], []⟩ 8 (by kernel_rfl) (by kernel_rfl) (by kernel_rfl) (by kernel_rfl)) ?_
  intro W base args ds gs before hval0 hW hcnd _
  have hval : ∀ (j : Nat) t v, Tryz.f4.params[j]? = some t → args[j]? = some v → Value.okWide Tryz.prog W .any base t v := hval0
  have hW' := hW
  obtain ⟨p, q, hA0, hV, hps, hfz, hnd⟩ := hW
  have hA : DataW.TrodAll enc Tryz.prog W 0 (fun _ => true) true Tryz.f4.params.toList args.toList ds p := hA0
  rw [Tryz.params4] at hA hval
  obtain ⟨v0, vs0, d0, ds0, p0, q0, hargs, rfl, rfl, h0, r0⟩ := trodAll_cons hA
  obtain ⟨v1, vs1, d1, ds1, p1, q1, rfl, rfl, rfl, h1, r1⟩ := trodAll_cons r0
  obtain ⟨v2, vs2, d2, ds2, p2, q2, rfl, rfl, rfl, h2, r2⟩ := trodAll_cons r1
  obtain ⟨rfl, rfl, rfl⟩ := trodAll_nil r2
  obtain rfl : args = #[v0, v1, v2] := by cases args; simp_all
  obtain ⟨x0_0, x0_1, y0_0, y0_1, n0, rfl, rfl, rfl, g0_0, g0_1⟩ := Go.Joins.open_agg2 Tryz.underlying24 (by kernel_rfl) (by kernel_rfl) (hval 0 24 v0 rfl rfl) h0
  obtain ⟨a0, z0, rfl, w0⟩ := DataW.trod_int Tryz.underlying3 g0_0
  obtain rfl := List.singleton_inj.1 z0
  obtain ⟨A0, c0, l0, rfl, hl0, hm0, hr0, hz0⟩ := view_items Tryz.underlying22 Tryz.underlying74 (by kernel_rfl) (by kernel_rfl) (by rfl) (forms74 _ Tryz.underlying74) g0_1
  obtain ⟨a1, rfl, rfl, rfl, w1⟩ := open_int Tryz.underlying2 (hval 1 2 v1 rfl rfl) h1
  obtain ⟨A2, c2, l2, rfl, hl2, hm2, hr2, hz2⟩ := view_rows Tryz.underlying45 Tryz.underlying50 (by kernel_rfl) (by kernel_rfl) (by decide) (rows50 _ Tryz.underlying50) (hval 2 45 v2 rfl rfl) h2
  refine (sseeds_c a0 a1 A0 A2 c0 c2 l0 l2 W hr0 hr2).mono fun e W' ⟨he, hb⟩ => ?_
  subst he
  exact ⟨_, rfl, law_post laidOut (by kernel_rfl) rfl rfl Tryz.underlying4 hW' rfl hb⟩

theorem over : Rows.fairSeedsRow.holds Tryz.pinned (OpenSpec.ofChange Rows.fairSeedsSpec) :=
  OpenClaim.holds_of_wide 4 Tryz.f4 rfl rfl rfl rfl rfl rfl rfl ⟨rfl, rfl, rfl, rfl, rfl⟩ rfl rfl rfl rfl rfl (by kernel_rfl) Tryz.func4 (by kernel_rfl)
    (of_decide_eq_true (by kernel_rfl)) (by unfold Func.isWrapper; first | (rw [if_pos (by decide +kernel)]; kernel_rfl) | (rw [if_neg (by decide +kernel)]; exact ⟨rfl, rfl⟩))
    (fun os started H enc _ => lifted os started H enc)

/-- The statement. -/
theorem proved : Rows.FairSeedsSaid :=
  over
#print axioms proved
end Go.Proofs.YtnfcapeajhegmaaGreat.fairSeeds
