/- The law FairApart returns true for every input, and each argument reads afterwards as it did before (no condition). The walk is in YtnfcapeajhegmaaLFa. -/
import Derived.Test.YtnfcapeajhegmaaRows
import Derived.Test.YtnfcapeajhegmaaFrb
import Derived.Lib.SmallJoins
import Derived.Test.YtnfcapeajhegmaaYrc
import Derived.Test.YtnfcapeajhegmaaFrame
import Derived.Test.YtnfcapeajhegmaaLFa
namespace Go.Proofs.Ytnfcapeajhegmaa.fairApart
open Go.ChangeShapes Go.WideShapes Go.ChangeAt Go.RowKit
set_option linter.unusedVariables false

theorem own : ownKnob Try.prog.godebug = none := by kernel_rfl
theorem laidOut : laidOutB Try.prog = true := by kernel_rfl
set_option maxRecDepth 100000 in
theorem rows62 : ∀ fs, Try.prog.underlying 62 = some (.struct fs) → ∀ (j : Nat) (f : Field), fs[j]? = some f → Try.prog.underlying f.type = some (.int .i64) := by
  intro fs h j f hj
  rw [Try.underlying62] at h
  injection h with h
  injection h with h
  subst h
  have hm := Array.mem_of_getElem? hj
  simp at hm
  (repeat' (rcases hm with rfl | hm)) <;> (try subst hm) <;> (first | exact Try.underlying2 | exact Try.underlying3)
set_option maxRecDepth 100000 in
theorem forms55 : ∀ fs, Try.prog.underlying 55 = some (.struct fs) → ∀ (j : Nat) (f : Field), fs[j]? = some f → Try.prog.underlying f.type = some (.int .i64) := by
  intro fs h j f hj
  rw [Try.underlying55] at h
  injection h with h
  injection h with h
  subst h
  have hm := Array.mem_of_getElem? hj
  simp at hm
  (repeat' (rcases hm with rfl | hm)) <;> (try subst hm) <;> (first | exact Try.underlying2 | exact Try.underlying3)

set_option maxRecDepth 100000 in
theorem lifted (os : Os) (started : os.Started) (H : Type) (enc : TypeId × Value → H) :
    ReturnsInHanded {} Try.checked os 8 .any (Rows.fairApartSpec.pre6 enc Try.prog Try.f8 Rows.fairApartRow.domain false) (Rows.fairApartSpec.post enc Try.prog Try.f8 false true false false) := by
  refine returnsInHanded_of_change (C := Try.checked) own started (by kernel_rfl) Try.func8
    (ChangeSpec.witness6 (enc := enc) (C := Try.checked) false ⟨#[], #[.agg #[.int .i64 0, .slice none 0 0], .int .i64 0, .int .i64 0, .slice none 0 0], []⟩ 8 (by kernel_rfl) (by kernel_rfl) (by kernel_rfl) (by kernel_rfl)) ?_
  intro W base args ds gs before hval0 hW hcnd _
  have hval : ∀ (j : Nat) t v, Try.f8.params[j]? = some t → args[j]? = some v → Value.okWide Try.prog W .any base t v := hval0
  have hW' := hW
  obtain ⟨p, q, hA0, hV, hps, hfz, hnd⟩ := hW
  have hA : DataW.TrodAll enc Try.prog W 0 (fun _ => true) true Try.f8.params.toList args.toList ds p := hA0
  rw [Try.params8] at hA hval
  obtain ⟨v0, vs0, d0, ds0, p0, q0, hargs, rfl, rfl, h0, r0⟩ := trodAll_cons hA
  obtain ⟨v1, vs1, d1, ds1, p1, q1, rfl, rfl, rfl, h1, r1⟩ := trodAll_cons r0
  obtain ⟨v2, vs2, d2, ds2, p2, q2, rfl, rfl, rfl, h2, r2⟩ := trodAll_cons r1
  obtain ⟨v3, vs3, d3, ds3, p3, q3, rfl, rfl, rfl, h3, r3⟩ := trodAll_cons r2
  obtain ⟨rfl, rfl, rfl⟩ := trodAll_nil r3
  obtain rfl : args = #[v0, v1, v2, v3] := by cases args; simp_all
  obtain ⟨x0_0, x0_1, y0_0, y0_1, n0, rfl, rfl, rfl, g0_0, g0_1⟩ := Go.Joins.open_agg2 Try.underlying37 (by kernel_rfl) (by kernel_rfl) (hval 0 37 v0 rfl rfl) h0
  obtain ⟨a0, z0, rfl, w0⟩ := DataW.trod_int Try.underlying3 g0_0
  obtain rfl := List.singleton_inj.1 z0
  obtain ⟨A0, c0, l0, rfl, hl0, hm0, hr0, hz0⟩ := view_items Try.underlying35 Try.underlying55 (by kernel_rfl) (by kernel_rfl) (by rfl) (forms55 _ Try.underlying55) g0_1
  obtain ⟨a1, rfl, rfl, rfl, w1⟩ := open_int Try.underlying2 (hval 1 2 v1 rfl rfl) h1
  obtain ⟨a2, rfl, rfl, rfl, w2⟩ := open_int Try.underlying2 (hval 2 2 v2 rfl rfl) h2
  obtain ⟨A3, c3, l3, rfl, hl3, hm3, hr3, hz3⟩ := view_rows Try.underlying57 Try.underlying62 (by kernel_rfl) (by kernel_rfl) (by decide) (rows62 _ Try.underlying62) (hval 3 57 v3 rfl rfl) h3
  refine (sapart_c a0 a1 a2 A0 A3 c0 c3 l0 l3 W hr0 hr3).mono fun e W' ⟨he, hb⟩ => ?_
  subst he
  exact ⟨_, rfl, law_post laidOut (by kernel_rfl) rfl rfl Try.underlying4 hW' rfl hb⟩

theorem over : Rows.fairApartRow.holds Try.pinned (OpenSpec.ofChange Rows.fairApartSpec) :=
  OpenClaim.holds_of_wide 8 Try.f8 rfl rfl rfl rfl rfl rfl rfl ⟨rfl, rfl, rfl, rfl, rfl⟩ rfl rfl rfl rfl rfl (by kernel_rfl) Try.func8 (by kernel_rfl)
    (of_decide_eq_true (by kernel_rfl)) (by unfold Func.isWrapper; first | (rw [if_pos (by decide +kernel)]; kernel_rfl) | (rw [if_neg (by decide +kernel)]; exact ⟨rfl, rfl⟩))
    (fun os started H enc _ => lifted os started H enc)

/-- The statement. -/
theorem proved : Rows.FairApartSaid :=
  over
#print axioms proved
end Go.Proofs.Ytnfcapeajhegmaa.fairApart
