/-
  No cell of these rows narrows 'for every input' (looked for: loops, veiled, ifaces, maps, wideKeys, modest, calm, conditions, laid).
  DERIVED. THE GIVEN ROWS OF THIS SEAT. 5 by the template 'for every input the law returns true; each argument reads behind the call as it read before'; 0 by the template 'total and deterministic' (their statements: YtandmngfajoinaaGreatTotals.lean).
  GIVEN WITH THE SEED: the statements are not yours to turn. If you find one false, say at which input.
  Laid BY PROGRAM, IN A SANDBOX (cutbox-rows.mjs): the forced cells as the released guide's own fill.sh prints them over the translation ffeed902e17e0e4b… (all of the seat's roots in one cut). By AI agents, Wed Nov 11 2026. No macro, syntax, notation, axiom, sorry.
-/
import Derived.Test.YtandmngfajoinaaGreatChecked
import GoSem.Claim
import GoSem.ClaimJoined
import GoSem.ClaimMapViews
import Derived.JoinedTies
import Derived.KernelRfl
namespace Go.Proofs.YtandmngfajoinaaGreat
/- THE CELL 'sum', in the pinned program and in every row, IS THE sha256 OF THE DUMP (.gsa) THAT YtandmngfajoinaaGreatProg.lean LOADS. Nothing in Lean hashes anything: it is a label: what it is worth is what the hold of that sum in a sandbox is worth. -/
noncomputable def Tryz.pinned : Pinned := { name := "ytandmngfajoinaagreat", sum := "ffeed902e17e0e4bb46087d54b338c1af705f315ae3e807d0f8c6de355f2fc30", checked := Tryz.checked }
namespace Rows
def none {H : Type} : Left H := { results := [], args := [] }

/-- 'stadholderlaw15.CorePlays': WHATEVER THE INPUT: true; the input reads as it did. -/
def corePlaysSpec : ChangeSpec := { name := "corePlays", fn := fun _ => fun
  | [d1, d2] => { results := [.lit (.bool true)], args := [d1, d2] }
  | _ => none }
def corePlaysRow : OpenClaim := { program := "ytandmngfajoinaagreat", sum := "ffeed902e17e0e4bb46087d54b338c1af705f315ae3e807d0f8c6de355f2fc30", func := "stadholder/stadholderlaw15.CorePlays", spec := "corePlays", inPlace := ["slices.overlaps[stadholder/ordq.Item]"], unfollowed := true, recurses := true, apart := false }
def CorePlaysSaid : Prop := corePlaysRow.holds Tryz.pinned (OpenSpec.ofChange corePlaysSpec)

/-- ITS FALSE NEIGHBOUR: 'it returns false'. Refute it at one input. -/
def corePlaysWrong : ChangeSpec := { name := "corePlays", fn := fun _ => fun
  | [d1, d2] => { results := [.lit (.bool false)], args := [d1, d2] }
  | _ => none }
def CorePlaysWrongFalsely : Prop := corePlaysRow.holds Tryz.pinned (OpenSpec.ofChange corePlaysWrong)

/-- 'stadholderlaw15.CoreShares': WHATEVER THE INPUT: true; the input reads as it did. -/
def coreSharesSpec : ChangeSpec := { name := "coreShares", fn := fun _ => fun
  | [d1, d2, d3, d4] => { results := [.lit (.bool true)], args := [d1, d2, d3, d4] }
  | _ => none }
def coreSharesRow : OpenClaim := { program := "ytandmngfajoinaagreat", sum := "ffeed902e17e0e4bb46087d54b338c1af705f315ae3e807d0f8c6de355f2fc30", func := "stadholder/stadholderlaw15.CoreShares", spec := "coreShares", inPlace := ["slices.overlaps[stadholder/ordq.Item]"], unfollowed := true, recurses := true, apart := false }
def CoreSharesSaid : Prop := coreSharesRow.holds Tryz.pinned (OpenSpec.ofChange coreSharesSpec)

/-- ITS FALSE NEIGHBOUR: 'it returns false'. Refute it at one input. -/
def coreSharesWrong : ChangeSpec := { name := "coreShares", fn := fun _ => fun
  | [d1, d2, d3, d4] => { results := [.lit (.bool false)], args := [d1, d2, d3, d4] }
  | _ => none }
def CoreSharesWrongFalsely : Prop := coreSharesRow.holds Tryz.pinned (OpenSpec.ofChange coreSharesWrong)

/-- 'stadholderlaw15.CoreLoads': WHATEVER THE INPUT: true; the input reads as it did. -/
def coreLoadsSpec : ChangeSpec := { name := "coreLoads", fn := fun _ => fun
  | [d1, d2] => { results := [.lit (.bool true)], args := [d1, d2] }
  | _ => none }
def coreLoadsRow : OpenClaim := { program := "ytandmngfajoinaagreat", sum := "ffeed902e17e0e4bb46087d54b338c1af705f315ae3e807d0f8c6de355f2fc30", func := "stadholder/stadholderlaw15.CoreLoads", spec := "coreLoads", inPlace := ["slices.overlaps[stadholder/ordq.Item]"], unfollowed := true, recurses := true, apart := false }
def CoreLoadsSaid : Prop := coreLoadsRow.holds Tryz.pinned (OpenSpec.ofChange coreLoadsSpec)

/-- ITS FALSE NEIGHBOUR: 'it returns false'. Refute it at one input. -/
def coreLoadsWrong : ChangeSpec := { name := "coreLoads", fn := fun _ => fun
  | [d1, d2] => { results := [.lit (.bool false)], args := [d1, d2] }
  | _ => none }
def CoreLoadsWrongFalsely : Prop := coreLoadsRow.holds Tryz.pinned (OpenSpec.ofChange coreLoadsWrong)

/-- 'stadholderlaw15.CoreChanges': WHATEVER THE INPUT: true; the input reads as it did. -/
def coreChangesSpec : ChangeSpec := { name := "coreChanges", fn := fun _ => fun
  | [d1, d2, d3, d4] => { results := [.lit (.bool true)], args := [d1, d2, d3, d4] }
  | _ => none }
def coreChangesRow : OpenClaim := { program := "ytandmngfajoinaagreat", sum := "ffeed902e17e0e4bb46087d54b338c1af705f315ae3e807d0f8c6de355f2fc30", func := "stadholder/stadholderlaw15.CoreChanges", spec := "coreChanges", inPlace := ["slices.overlaps[stadholder/ordq.Item]"], unfollowed := true, recurses := true, apart := false }
def CoreChangesSaid : Prop := coreChangesRow.holds Tryz.pinned (OpenSpec.ofChange coreChangesSpec)

/-- ITS FALSE NEIGHBOUR: 'it returns false'. Refute it at one input. -/
def coreChangesWrong : ChangeSpec := { name := "coreChanges", fn := fun _ => fun
  | [d1, d2, d3, d4] => { results := [.lit (.bool false)], args := [d1, d2, d3, d4] }
  | _ => none }
def CoreChangesWrongFalsely : Prop := coreChangesRow.holds Tryz.pinned (OpenSpec.ofChange coreChangesWrong)

/-- 'stadholderlaw15.CoreServes': WHATEVER THE INPUT: true; the input reads as it did. -/
def coreServesSpec : ChangeSpec := { name := "coreServes", fn := fun _ => fun
  | [d1, d2, d3] => { results := [.lit (.bool true)], args := [d1, d2, d3] }
  | _ => none }
def coreServesRow : OpenClaim := { program := "ytandmngfajoinaagreat", sum := "ffeed902e17e0e4bb46087d54b338c1af705f315ae3e807d0f8c6de355f2fc30", func := "stadholder/stadholderlaw15.CoreServes", spec := "coreServes", inPlace := ["slices.overlaps[stadholder/ordq.Item]"], unfollowed := true, recurses := true, apart := false }
def CoreServesSaid : Prop := coreServesRow.holds Tryz.pinned (OpenSpec.ofChange coreServesSpec)

/-- ITS FALSE NEIGHBOUR: 'it returns false'. Refute it at one input. -/
def coreServesWrong : ChangeSpec := { name := "coreServes", fn := fun _ => fun
  | [d1, d2, d3] => { results := [.lit (.bool false)], args := [d1, d2, d3] }
  | _ => none }
def CoreServesWrongFalsely : Prop := coreServesRow.holds Tryz.pinned (OpenSpec.ofChange coreServesWrong)

/- THE SECOND FORM. 'bulk': how many values and letters a reading holds, each counted each time it is reached (what is shared counts as often as it is met; a slice's spare places count too). A statement '..UptoSaid' is the law's where the arguments, and the package variables that the reading takes, are together of bulk at most 1048576: NARROWER than '..Said'. Prove '..Said' where nothing that the law and all that it calls make is longer than what came in: it says more and counts as full. Else prove '..UptoSaid'. A law counts once. -/
mutual
def uptoBulk {H : Type} : DataW H → Nat
  | .lit (.string bytes) => bytes.length + 1
  | .lit _ => 1
  | .nil => 1
  | .ptr d => uptoBulk d + 1
  | .slice elems spare => uptoBulkAll elems + uptoBulkAll spare + 1
  | .agg parts => uptoBulkAll parts + 1
  | .iface _ d => uptoBulk d + 1
  | .map entries => uptoBulkEntries entries + 1
  | .held _ => 1
def uptoBulkAll {H : Type} : List (DataW H) → Nat
  | [] => 0
  | d :: r => uptoBulk d + uptoBulkAll r
def uptoBulkEntries {H : Type} : List (Lit × DataW H) → Nat
  | [] => 0
  | x :: r => uptoBulkEntry x + uptoBulkEntries r
def uptoBulkEntry {H : Type} : Lit × DataW H → Nat
  | (.string bytes, d) => bytes.length + uptoBulk d + 1
  | (_, d) => uptoBulk d + 1
 end
def uptoSmall : (H : Type) → List (DataW H) → Bool := fun _ ds => decide (uptoBulkAll ds ≤ 1048576)
def OpenSpec.upto (s : _root_.Go.ChangeSpec) : _root_.Go.OpenSpec := { _root_.Go.OpenSpec.ofChange s with cond := some uptoSmall }

/-- 'stadholderlaw15.CorePlays', WHERE WHAT IT READS IS OF BULK AT MOST 1048576: true; the input reads as it did. -/
def corePlaysUptoRow : OpenClaim := { program := "ytandmngfajoinaagreat", sum := "ffeed902e17e0e4bb46087d54b338c1af705f315ae3e807d0f8c6de355f2fc30", func := "stadholder/stadholderlaw15.CorePlays", spec := "corePlays", inPlace := ["slices.overlaps[stadholder/ordq.Item]"], unfollowed := true, recurses := true, apart := false, narrowed := true }
def CorePlaysUptoSaid : Prop := corePlaysUptoRow.holds Tryz.pinned (OpenSpec.upto corePlaysSpec)

/-- 'stadholderlaw15.CoreShares', WHERE WHAT IT READS IS OF BULK AT MOST 1048576: true; the input reads as it did. -/
def coreSharesUptoRow : OpenClaim := { program := "ytandmngfajoinaagreat", sum := "ffeed902e17e0e4bb46087d54b338c1af705f315ae3e807d0f8c6de355f2fc30", func := "stadholder/stadholderlaw15.CoreShares", spec := "coreShares", inPlace := ["slices.overlaps[stadholder/ordq.Item]"], unfollowed := true, recurses := true, apart := false, narrowed := true }
def CoreSharesUptoSaid : Prop := coreSharesUptoRow.holds Tryz.pinned (OpenSpec.upto coreSharesSpec)

/-- 'stadholderlaw15.CoreLoads', WHERE WHAT IT READS IS OF BULK AT MOST 1048576: true; the input reads as it did. -/
def coreLoadsUptoRow : OpenClaim := { program := "ytandmngfajoinaagreat", sum := "ffeed902e17e0e4bb46087d54b338c1af705f315ae3e807d0f8c6de355f2fc30", func := "stadholder/stadholderlaw15.CoreLoads", spec := "coreLoads", inPlace := ["slices.overlaps[stadholder/ordq.Item]"], unfollowed := true, recurses := true, apart := false, narrowed := true }
def CoreLoadsUptoSaid : Prop := coreLoadsUptoRow.holds Tryz.pinned (OpenSpec.upto coreLoadsSpec)

/-- 'stadholderlaw15.CoreChanges', WHERE WHAT IT READS IS OF BULK AT MOST 1048576: true; the input reads as it did. -/
def coreChangesUptoRow : OpenClaim := { program := "ytandmngfajoinaagreat", sum := "ffeed902e17e0e4bb46087d54b338c1af705f315ae3e807d0f8c6de355f2fc30", func := "stadholder/stadholderlaw15.CoreChanges", spec := "coreChanges", inPlace := ["slices.overlaps[stadholder/ordq.Item]"], unfollowed := true, recurses := true, apart := false, narrowed := true }
def CoreChangesUptoSaid : Prop := coreChangesUptoRow.holds Tryz.pinned (OpenSpec.upto coreChangesSpec)

/-- 'stadholderlaw15.CoreServes', WHERE WHAT IT READS IS OF BULK AT MOST 1048576: true; the input reads as it did. -/
def coreServesUptoRow : OpenClaim := { program := "ytandmngfajoinaagreat", sum := "ffeed902e17e0e4bb46087d54b338c1af705f315ae3e807d0f8c6de355f2fc30", func := "stadholder/stadholderlaw15.CoreServes", spec := "coreServes", inPlace := ["slices.overlaps[stadholder/ordq.Item]"], unfollowed := true, recurses := true, apart := false, narrowed := true }
def CoreServesUptoSaid : Prop := coreServesUptoRow.holds Tryz.pinned (OpenSpec.upto coreServesSpec)

end Rows
end Go.Proofs.YtandmngfajoinaaGreat
