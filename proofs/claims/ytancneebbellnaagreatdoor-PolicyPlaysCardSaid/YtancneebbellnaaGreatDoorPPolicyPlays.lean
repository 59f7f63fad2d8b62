/- The law PolicyPlays returns true for every input, and each argument reads afterwards as it did before (no condition on the arguments; the card ties the listed package-level variables to the program's text, as the seat's pruned copy of the project holds it: the packages that the law loads). The walk is in YtancneebbellnaaGreatDoorLJp2. -/
import Derived.Lib.SmallJoins
import Derived.Test.YtancneebbellnaaGreatDoorFrb
import Derived.Test.YtancneebbellnaaGreatDoorYrc
import Derived.Test.YtancneebbellnaaGreatDoorRows
import Derived.Test.YtancneebbellnaaGreatDoorCards
import Derived.Test.YtancneebbellnaaGreatDoorTie
import Derived.Test.YtancneebbellnaaGreatDoorFrame
import Derived.Test.YtancneebbellnaaGreatDoorLJp2
import Derived.ProofKit
import Derived.LaidMore
import Derived.OpenShut
import Derived.Stop.Joined
import Derived.SevenTiedAt
namespace Go.Proofs.YtancneebbellnaaGreatDoor.policyPlays
open Go.ChangeShapes Go.WideShapes Go.ChangeAt Go.WideMaps Go.WideElems Go.RowKit
set_option linter.unusedVariables false

theorem own : ownKnob Tryz.prog.godebug = none := by kernel_rfl
theorem laidOut : laidOutB Tryz.prog = true := by kernel_rfl
set_option maxRecDepth 100000 in
theorem rows44 : ∀ fs, Tryz.prog.underlying 44 = some (.struct fs) → ∀ (j : Nat) (f : Field), fs[j]? = some f → Tryz.prog.underlying f.type = some (.int .i64) := by
  intro fs h j f hj
  rw [Tryz.underlying44] at h
  injection h with h
  injection h with h
  subst h
  have hm := Array.mem_of_getElem? hj
  simp at hm
  (repeat' (rcases hm with rfl | hm)) <;> (try subst hm) <;> (first | exact Tryz.underlying2 | exact Tryz.underlying3)
set_option maxRecDepth 100000 in
theorem forms68 : ∀ fs, Tryz.prog.underlying 68 = some (.struct fs) → ∀ (j : Nat) (f : Field), fs[j]? = some f → Tryz.prog.underlying f.type = some (.int .i64) := by
  intro fs h j f hj
  rw [Tryz.underlying68] at h
  injection h with h
  injection h with h
  subst h
  have hm := Array.mem_of_getElem? hj
  simp at hm
  (repeat' (rcases hm with rfl | hm)) <;> (try subst hm) <;> (first | exact Tryz.underlying2 | exact Tryz.underlying3)
/-- The heap that the program's own door leaves meets the condition. -/
theorem door_met (os : Os) (args : Array Value) : laidMetH Tryz.prog Rows.policyPlaysRow.laid ((World.doorLaid Tryz.prog 24 os).forCall (fun _ _ => 0) ⟨#[], args, []⟩).memory :=
  laidMetH_of_parts3 (fuel := 8) (laidMet_of_run' 8 (by kernel_rfl) (by kernel_rfl)) (by kernel_rfl) (by kernel_rfl)

set_option maxRecDepth 100000 in
theorem lifted (os : Os) (started : os.Started) (H : Type) (enc : TypeId × Value → H) :
    ReturnsInHanded {} Tryz.checked os 4 .any (fun w args => (Rows.policyPlaysSpec.pre enc Tryz.prog Tryz.f4 [] false w args ∧ laidMetH Tryz.prog Rows.policyPlaysRow.laid w) ∧ sizedMet enc Tryz.prog Tryz.f4 (OpenSpec.ofChange Rows.policyPlaysSpec) false w args)
      (Rows.policyPlaysSpec.post enc Tryz.prog Tryz.f4 false true false false) := by
  refine returnsInHanded_of_change_and (C := Tryz.checked) (X := fun w _ => laidMetH Tryz.prog Rows.policyPlaysRow.laid w) (fun _ _ _ hh h => h.of_heap hh) own started (by kernel_rfl) Tryz.func4
    (ChangeSpec.witness_shaped (enc := enc) (C := Tryz.checked) (os := os) (X := fun w _ => laidMetH Tryz.prog Rows.policyPlaysRow.laid w) false (World.doorLaid Tryz.prog 24 os) #[.int .i64 0, .agg #[.int .i64 0, .slice none 0 0], .int .i64 0, .slice none 0 0] 8 rfl (World.shaped_of_RefB (by kernel_rfl) (by kernel_rfl)) (by kernel_rfl) (by kernel_rfl) (by kernel_rfl) (door_met os _)) ?_
  intro W base args ds gs before hval0 hW _ _ hL _
  have hval : ∀ (j : Nat) t v, Tryz.f4.params[j]? = some t → args[j]? = some v → Value.okWide Tryz.prog W .any base t v := hval0
  have hW' := hW
  obtain ⟨p, q, hA0, hV, hps, hfz, hnd⟩ := hW
  have hA : DataW.TrodAll enc Tryz.prog W 0 (fun _ => true) true Tryz.f4.params.toList args.toList ds p := hA0
  rw [Tryz.params4] at hA hval
  obtain ⟨v0, vs0, d0, ds0, p0, q0, hargs, rfl, rfl, h0, r0⟩ := trodAll_cons hA
  obtain ⟨v1, vs1, d1, ds1, p1, q1, rfl, rfl, rfl, h1, r1⟩ := trodAll_cons r0
  obtain ⟨v2, vs2, d2, ds2, p2, q2, rfl, rfl, rfl, h2, r2⟩ := trodAll_cons r1
  obtain ⟨v3, vs3, d3, ds3, p3, q3, rfl, rfl, rfl, h3, r3⟩ := trodAll_cons r2
  obtain ⟨rfl, rfl, rfl⟩ := trodAll_nil r3
  obtain rfl : args = #[v0, v1, v2, v3] := by cases args; simp_all
  obtain ⟨a0, rfl, rfl, rfl, w0⟩ := open_int Tryz.underlying3 (hval 0 3 v0 rfl rfl) h0
  obtain ⟨x1_0, x1_1, y1_0, y1_1, n1, rfl, rfl, rfl, g1_0, g1_1⟩ := Go.Joins.open_agg2 Tryz.underlying30 (by kernel_rfl) (by kernel_rfl) (hval 1 30 v1 rfl rfl) h1
  obtain ⟨a1, z1, rfl, w1⟩ := DataW.trod_int Tryz.underlying3 g1_0
  obtain rfl := List.singleton_inj.1 z1
  obtain ⟨A1, c1, l1, rfl, hl1, hm1, hr1, hz1⟩ := view_items Tryz.underlying28 Tryz.underlying68 (by kernel_rfl) (by kernel_rfl) (by rfl) (forms68 _ Tryz.underlying68) g1_1
  obtain ⟨a2, rfl, rfl, rfl, w2⟩ := open_int Tryz.underlying2 (hval 2 2 v2 rfl rfl) h2
  obtain ⟨A3, c3, l3, rfl, hl3, hm3, hr3, hz3⟩ := view_rows Tryz.underlying35 Tryz.underlying44 (by kernel_rfl) (by kernel_rfl) (by decide) (rows44 _ Tryz.underlying44) (hval 3 35 v3 rfl rfl) h3
  refine (Po.splays_c a0 a1 a2 A1 A3 c1 c3 l1 l3 W (Po.laid_kinds W hL) hr1 hr3).mono fun e W' ⟨he, hb⟩ => ?_
  subst he
  exact ⟨_, rfl, law_post laidOut (by kernel_rfl) rfl rfl Tryz.underlying4 hW' rfl hb⟩

theorem over : Rows.policyPlaysRow.holds Tryz.pinned (OpenSpec.ofChange Rows.policyPlaysSpec) :=
  OpenClaim.holds_of_wide 4 Tryz.f4 rfl rfl rfl rfl rfl rfl rfl ⟨rfl, rfl, rfl, rfl, rfl⟩ rfl rfl rfl rfl rfl (by kernel_rfl) Tryz.func4 (by kernel_rfl)
    (of_decide_eq_true (by kernel_rfl)) (by unfold Func.isWrapper; first | (rw [if_pos (by decide +kernel)]; kernel_rfl) | (rw [if_neg (by decide +kernel)]; exact ⟨rfl, rfl⟩))
    (fun os started H enc _ => lifted os started H enc)

/-- The statement. -/
theorem proved : Rows.PolicyPlaysCardSaid :=
  Claim7.holds_tied_plain_at .later [] [.data] true (true, "72219c68746a55f836d7fd86fd071c13beceb50383e2076792080888629fc777") false
    over (fun _ h => by cases h) (by kernel_rfl) (fun _ h => by cases h) policyPlays_row_tie rfl ⟨rfl, rfl⟩ (by kernel_rfl) rfl
    (fun f fn hf hfn => by
      obtain rfl : f = 4 := Option.some.inj ((show Tryz.prog.funcNamed Rows.policyPlaysRow.func = some 4 by kernel_rfl).symm.trans hf) |>.symm
      obtain rfl : fn = Tryz.f4 := (Option.some.inj (Tryz.func4.symm.trans hfn)).symm
      exact ⟨by kernel_rfl, fun j t ht => by
        rw [Tryz.params4] at ht
        have hm : t ∈ [3, 30, 2, 35] := by simpa using Array.mem_of_getElem? ht
        have hall : ([3, 30, 2, 35].all fun u => !Tryz.prog.wantsStandIn u) = true := by kernel_rfl
        exact (show Tryz.prog.wantsStandIn t = false by simpa using List.all_eq_true.1 hall t hm)⟩)
    (by kernel_rfl)
#print axioms proved
end Go.Proofs.YtancneebbellnaaGreatDoor.policyPlays
