/- The law CorePlays returns true for every input, and each argument reads afterwards as it did before (no condition). The walk is in YtandmngfajoinaaGreatLCp. -/
import Derived.Test.YtandmngfajoinaaGreatRows
import Derived.Test.YtandmngfajoinaaGreatFra
import Derived.Test.YtandmngfajoinaaGreatFrame
import Derived.Test.YtandmngfajoinaaGreatLCp
namespace Go.Proofs.YtandmngfajoinaaGreat.corePlays
open Go.ChangeShapes Go.WideShapes Go.ChangeAt Go.RowKit
set_option linter.unusedVariables false

theorem own : ownKnob Tryz.prog.godebug = none := by kernel_rfl
theorem laidOut : laidOutB Tryz.prog = true := by kernel_rfl
set_option maxRecDepth 100000 in
theorem acts33 : ∀ fs, Tryz.prog.underlying 33 = some (.struct fs) → ∀ (j : Nat) (f : Field), fs[j]? = some f → j < 5 → Tryz.prog.underlying f.type = some (.int .i64) := by
  intro fs h j f hj hlt
  rw [Tryz.underlying33] at h
  injection h with h
  injection h with h
  subst h
  rcases j with _ | _ | _ | _ | _ | j
  all_goals first | omega | (simp at hj; subst hj; first | exact Tryz.underlying2 | exact Tryz.underlying3)
set_option maxRecDepth 100000 in
theorem bits33 : ∀ fs, Tryz.prog.underlying 33 = some (.struct fs) → ∀ (f : Field), fs[5]? = some f → Tryz.prog.underlying f.type = some .bool := by
  intro fs h f hj
  rw [Tryz.underlying33] at h
  injection h with h
  injection h with h
  subst h
  simp at hj
  subst hj
  first | exact Tryz.underlying4

set_option maxRecDepth 100000 in
theorem lifted (os : Os) (started : os.Started) (H : Type) (enc : TypeId × Value → H) :
    ReturnsInHanded {} Tryz.checked os 3 .any (Rows.corePlaysSpec.pre6 enc Tryz.prog Tryz.f3 Rows.corePlaysRow.domain false) (Rows.corePlaysSpec.post enc Tryz.prog Tryz.f3 false true false false) := by
  refine returnsInHanded_of_change (C := Tryz.checked) own started (by kernel_rfl) Tryz.func3
    (ChangeSpec.witness6 (enc := enc) (C := Tryz.checked) false ⟨#[], #[.int .i64 0, .slice none 0 0], []⟩ 8 (by kernel_rfl) (by kernel_rfl) (by kernel_rfl) (by kernel_rfl)) ?_
  intro W base args ds gs before hval0 hW hcnd _
  have hval : ∀ (j : Nat) t v, Tryz.f3.params[j]? = some t → args[j]? = some v → Value.okWide Tryz.prog W .any base t v := hval0
  have hW' := hW
  obtain ⟨p, q, hA0, hV, hps, hfz, hnd⟩ := hW
  have hA : DataW.TrodAll enc Tryz.prog W 0 (fun _ => true) true Tryz.f3.params.toList args.toList ds p := hA0
  rw [Tryz.params3] at hA hval
  obtain ⟨v0, vs0, d0, ds0, p0, q0, hargs, rfl, rfl, h0, r0⟩ := trodAll_cons hA
  obtain ⟨v1, vs1, d1, ds1, p1, q1, rfl, rfl, rfl, h1, r1⟩ := trodAll_cons r0
  obtain ⟨rfl, rfl, rfl⟩ := trodAll_nil r1
  obtain rfl : args = #[v0, v1] := by cases args; simp_all
  obtain ⟨a0, rfl, rfl, rfl, w0⟩ := open_int Tryz.underlying3 (hval 0 3 v0 rfl rfl) h0
  obtain ⟨A1, c1, l1, rfl, hl1, hm1, hr1, hz1⟩ := view_acts Tryz.underlying22 Tryz.underlying33 (by kernel_rfl) (by kernel_rfl) (by decide) (acts33 _ Tryz.underlying33) (bits33 _ Tryz.underlying33) (hval 1 22 v1 rfl rfl) h1
  refine (Po.cplays_c a0 A1 c1 l1 W hr1).mono fun e W' ⟨he, hb⟩ => ?_
  subst he
  exact ⟨_, rfl, law_post laidOut (by kernel_rfl) rfl rfl Tryz.underlying4 hW' rfl hb⟩

theorem over : Rows.corePlaysRow.holds Tryz.pinned (OpenSpec.ofChange Rows.corePlaysSpec) :=
  OpenClaim.holds_of_wide 3 Tryz.f3 rfl rfl rfl rfl rfl rfl rfl ⟨rfl, rfl, rfl, rfl, rfl⟩ rfl rfl rfl rfl rfl (by kernel_rfl) Tryz.func3 (by kernel_rfl)
    (of_decide_eq_true (by kernel_rfl)) (by unfold Func.isWrapper; first | (rw [if_pos (by decide +kernel)]; kernel_rfl) | (rw [if_neg (by decide +kernel)]; exact ⟨rfl, rfl⟩))
    (fun os started H enc _ => lifted os started H enc)

/-- The statement. -/
theorem proved : Rows.CorePlaysSaid :=
  over
#print axioms proved
end Go.Proofs.YtandmngfajoinaaGreat.corePlays
