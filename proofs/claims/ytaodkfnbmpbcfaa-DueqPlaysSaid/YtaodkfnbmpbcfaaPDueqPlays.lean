/- The law DueqPlays returns true for every input, and each argument reads afterwards as it did before (no condition). The walk is in YtaodkfnbmpbcfaaLDb. -/
import Derived.Test.YtaodkfnbmpbcfaaRows
import Derived.Test.YtaodkfnbmpbcfaaFrb
import Derived.Test.YtaodkfnbmpbcfaaFrame
import Derived.Test.YtaodkfnbmpbcfaaLDb
namespace Go.Proofs.Ytaodkfnbmpbcfaa.dueqPlays
open Go.ChangeShapes Go.WideShapes Go.ChangeAt Go.RowKit
set_option linter.unusedVariables false

theorem own : ownKnob Try.prog.godebug = none := by kernel_rfl
theorem laidOut : laidOutB Try.prog = true := by kernel_rfl
theorem cells2 : Try.prog.cellsOf 2 = 1 := by kernel_rfl
set_option maxRecDepth 100000 in
theorem rows61 : ∀ fs, Try.prog.underlying 61 = some (.struct fs) → ∀ (j : Nat) (f : Field), fs[j]? = some f → Try.prog.underlying f.type = some (.int .i64) := by
  intro fs h j f hj
  rw [Try.underlying61] at h
  injection h with h
  injection h with h
  subst h
  have hm := Array.mem_of_getElem? hj
  simp at hm
  (repeat' (rcases hm with rfl | hm)) <;> (try subst hm) <;> (first | exact Try.underlying2 | exact Try.underlying3)

set_option maxRecDepth 100000 in
theorem lifted (os : Os) (started : os.Started) (H : Type) (enc : TypeId × Value → H) :
    ReturnsInHanded {} Try.checked os 4 .any (Rows.dueqPlaysSpec.pre6 enc Try.prog Try.f4 Rows.dueqPlaysRow.domain false) (Rows.dueqPlaysSpec.post enc Try.prog Try.f4 false true false false) := by
  refine returnsInHanded_of_change (C := Try.checked) own started (by kernel_rfl) Try.func4
    (ChangeSpec.witness6 (enc := enc) (C := Try.checked) false ⟨#[], #[.int .i64 0, .slice none 0 0, .slice none 0 0], []⟩ 8 (by kernel_rfl) (by kernel_rfl) (by kernel_rfl) (by kernel_rfl)) ?_
  intro W base args ds gs before hval0 hW hcnd _
  have hval : ∀ (j : Nat) t v, Try.f4.params[j]? = some t → args[j]? = some v → Value.okWide Try.prog W .any base t v := hval0
  have hW' := hW
  obtain ⟨p, q, hA0, hV, hps, hfz, hnd⟩ := hW
  have hA : DataW.TrodAll enc Try.prog W 0 (fun _ => true) true Try.f4.params.toList args.toList ds p := hA0
  rw [Try.params4] at hA hval
  obtain ⟨v0, vs0, d0, ds0, p0, q0, hargs, rfl, rfl, h0, r0⟩ := trodAll_cons hA
  obtain ⟨v1, vs1, d1, ds1, p1, q1, rfl, rfl, rfl, h1, r1⟩ := trodAll_cons r0
  obtain ⟨v2, vs2, d2, ds2, p2, q2, rfl, rfl, rfl, h2, r2⟩ := trodAll_cons r1
  obtain ⟨rfl, rfl, rfl⟩ := trodAll_nil r2
  obtain rfl : args = #[v0, v1, v2] := by cases args; simp_all
  obtain ⟨a0, rfl, rfl, rfl, w0⟩ := open_int Try.underlying3 (hval 0 3 v0 rfl rfl) h0
  obtain ⟨A1, c1, l1, rfl, hl1, hm1, hr1, hz1⟩ := view_rows Try.underlying56 Try.underlying61 (by kernel_rfl) (by kernel_rfl) (by decide) (rows61 _ Try.underlying61) (hval 1 56 v1 rfl rfl) h1
  obtain ⟨A2, c2, l2, rfl, hl2, hm2, hr2, hw2, hz2⟩ := view_ints Try.underlying57 Try.underlying2 cells2 (hval 2 57 v2 rfl rfl) h2
  refine (dueqPlays_c a0 A1 c1 l1 A2 c2 l2 W hl1 hm1 hr1 hl2 hm2 hr2).mono fun e W' ⟨he, hb⟩ => ?_
  subst he
  exact ⟨_, rfl, law_post laidOut (by kernel_rfl) rfl rfl Try.underlying4 hW' rfl hb⟩

theorem over : Rows.dueqPlaysRow.holds Try.pinned (OpenSpec.ofChange Rows.dueqPlaysSpec) :=
  OpenClaim.holds_of_wide 4 Try.f4 rfl rfl rfl rfl rfl rfl rfl ⟨rfl, rfl, rfl, rfl, rfl⟩ rfl rfl rfl rfl rfl (by kernel_rfl) Try.func4 (by kernel_rfl)
    (of_decide_eq_true (by kernel_rfl)) (by unfold Func.isWrapper; first | (rw [if_pos (by decide +kernel)]; kernel_rfl) | (rw [if_neg (by decide +kernel)]; exact ⟨rfl, rfl⟩))
    (fun os started H enc _ => lifted os started H enc)

/-- The statement. -/
theorem proved : Rows.DueqPlaysSaid :=
  over
#print axioms proved
end Go.Proofs.Ytaodkfnbmpbcfaa.dueqPlays
