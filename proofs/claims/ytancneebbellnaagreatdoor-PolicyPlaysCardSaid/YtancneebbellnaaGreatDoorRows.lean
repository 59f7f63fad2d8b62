/-
  NARROWER THAN 'FOR EVERY INPUT', by the rows' own cells (each row's printed sentence says how): PolicyKnown: laid · PolicyPlays: laid · PolicyTurns: laid · PolicyHeld: laid · PolicyLeaves: laid.
  DERIVED. THE GIVEN ROWS OF THIS SEAT. 5 by the template 'for every input the law returns true; each argument reads behind the call as it read before'; 0 by the template 'total and deterministic' (their statements: YtancneebbellnaaGreatDoorTotals.lean).
  GIVEN WITH THE SEED: the statements are not yours to turn. If you find one false, say at which input.
  Laid BY PROGRAM, IN A SANDBOX (cutbox-rows.mjs): the forced cells as the released guide's own fill.sh prints them over the translation 0c0b2799a7d0abad… (all of the seat's roots in one cut). By AI agents, Wed Nov 11 2026. No macro, syntax, notation, axiom, sorry.
-/
import Derived.Test.YtancneebbellnaaGreatDoorChecked
import GoSem.Claim
import GoSem.ClaimJoined
import GoSem.ClaimMapViews
import Derived.JoinedTies
import Derived.KernelRfl
namespace Go.Proofs.YtancneebbellnaaGreatDoor
/- THE CELL 'sum', in the pinned program and in every row, IS THE sha256 OF THE DUMP (.gsa) THAT YtancneebbellnaaGreatDoorProg.lean LOADS. Nothing in Lean hashes anything: it is a label: what it is worth is what the hold of that sum in a sandbox is worth. -/
noncomputable def Tryz.pinned : Pinned := { name := "ytancneebbellnaagreatdoor", sum := "0c0b2799a7d0abad1185cf0a6b9f0e51d862922e108e21399dcb1a88aeaf8b24", checked := Tryz.checked }
namespace Rows
def none {H : Type} : Left H := { results := [], args := [] }

/- WHAT THE LISTED PACKAGE-LEVEL VARIABLES READ AS WHEN THE CALL BEGINS. Each datum BY PROGRAM (the guide's laid-datum.mjs) off the statement by which the dump's own 'gosem.cut.vars' lays the variable. In a bare row this is a premise. The card (YtancneebbellnaaGreatDoorCards.lean) ties it to the program's text. -/
def laid_stadholder_policy_kinds {H : Type} : DataW H := .agg [.agg [.lit (.string [115, 116, 114, 105, 100, 101]), .lit (.int .i64 (-9223372036854775808)), .lit (.int .i64 0)], .agg [.lit (.string [102, 97, 105, 114]), .lit (.int .i64 (-9223372036854775808)), .lit (.int .i64 698377680)], .agg [.lit (.string [100, 117, 101]), .lit (.int .i64 (-698377680)), .lit (.int .i64 698377680)]]

/-- 'stadholderlaw14.PolicyKnown': WHATEVER THE INPUT: true; the input reads as it did. -/
def policyKnownSpec : ChangeSpec := { name := "policyKnown", fn := fun _ => fun
  | [] => { results := [.lit (.bool true)], args := [] }
  | _ => none }
def policyKnownRow : OpenClaim := { program := "ytancneebbellnaagreatdoor", sum := "0c0b2799a7d0abad1185cf0a6b9f0e51d862922e108e21399dcb1a88aeaf8b24", func := "stadholder/stadholderlaw14.PolicyKnown", spec := "policyKnown", inPlace := ["slices.overlaps[stadholder/ordq.Item]"], unfollowed := true, recurses := true, named := ["stadholder/policy.kinds"], apart := false, laid := [("stadholder/policy.kinds", laid_stadholder_policy_kinds)] }
def PolicyKnownSaid : Prop := policyKnownRow.holds Tryz.pinned (OpenSpec.ofChange policyKnownSpec)

/-- ITS FALSE NEIGHBOUR: 'it returns false'. Refute it at one input. -/
def policyKnownWrong : ChangeSpec := { name := "policyKnown", fn := fun _ => fun
  | [] => { results := [.lit (.bool false)], args := [] }
  | _ => none }
def PolicyKnownWrongFalsely : Prop := policyKnownRow.holds Tryz.pinned (OpenSpec.ofChange policyKnownWrong)

/-- 'stadholderlaw14.PolicyPlays': WHATEVER THE INPUT: true; the input reads as it did. -/
def policyPlaysSpec : ChangeSpec := { name := "policyPlays", fn := fun _ => fun
  | [d1, d2, d3, d4] => { results := [.lit (.bool true)], args := [d1, d2, d3, d4] }
  | _ => none }
def policyPlaysRow : OpenClaim := { program := "ytancneebbellnaagreatdoor", sum := "0c0b2799a7d0abad1185cf0a6b9f0e51d862922e108e21399dcb1a88aeaf8b24", func := "stadholder/stadholderlaw14.PolicyPlays", spec := "policyPlays", inPlace := ["slices.overlaps[stadholder/ordq.Item]"], unfollowed := true, recurses := true, named := ["stadholder/policy.kinds"], apart := false, laid := [("stadholder/policy.kinds", laid_stadholder_policy_kinds)] }
def PolicyPlaysSaid : Prop := policyPlaysRow.holds Tryz.pinned (OpenSpec.ofChange policyPlaysSpec)

/-- ITS FALSE NEIGHBOUR: 'it returns false'. Refute it at one input. -/
def policyPlaysWrong : ChangeSpec := { name := "policyPlays", fn := fun _ => fun
  | [d1, d2, d3, d4] => { results := [.lit (.bool false)], args := [d1, d2, d3, d4] }
  | _ => none }
def PolicyPlaysWrongFalsely : Prop := policyPlaysRow.holds Tryz.pinned (OpenSpec.ofChange policyPlaysWrong)

/-- 'stadholderlaw14.PolicyTurns': WHATEVER THE INPUT: true; the input reads as it did. -/
def policyTurnsSpec : ChangeSpec := { name := "policyTurns", fn := fun _ => fun
  | [d1, d2, d3] => { results := [.lit (.bool true)], args := [d1, d2, d3] }
  | _ => none }
def policyTurnsRow : OpenClaim := { program := "ytancneebbellnaagreatdoor", sum := "0c0b2799a7d0abad1185cf0a6b9f0e51d862922e108e21399dcb1a88aeaf8b24", func := "stadholder/stadholderlaw14.PolicyTurns", spec := "policyTurns", inPlace := ["slices.overlaps[stadholder/ordq.Item]"], unfollowed := true, recurses := true, named := ["stadholder/policy.kinds"], apart := false, laid := [("stadholder/policy.kinds", laid_stadholder_policy_kinds)] }
def PolicyTurnsSaid : Prop := policyTurnsRow.holds Tryz.pinned (OpenSpec.ofChange policyTurnsSpec)

/-- ITS FALSE NEIGHBOUR: 'it returns false'. Refute it at one input. -/
def policyTurnsWrong : ChangeSpec := { name := "policyTurns", fn := fun _ => fun
  | [d1, d2, d3] => { results := [.lit (.bool false)], args := [d1, d2, d3] }
  | _ => none }
def PolicyTurnsWrongFalsely : Prop := policyTurnsRow.holds Tryz.pinned (OpenSpec.ofChange policyTurnsWrong)

/-- 'stadholderlaw14.PolicyHeld': WHATEVER THE INPUT: true; the input reads as it did. -/
def policyHeldSpec : ChangeSpec := { name := "policyHeld", fn := fun _ => fun
  | [d1, d2, d3] => { results := [.lit (.bool true)], args := [d1, d2, d3] }
  | _ => none }
def policyHeldRow : OpenClaim := { program := "ytancneebbellnaagreatdoor", sum := "0c0b2799a7d0abad1185cf0a6b9f0e51d862922e108e21399dcb1a88aeaf8b24", func := "stadholder/stadholderlaw14.PolicyHeld", spec := "policyHeld", inPlace := ["slices.overlaps[stadholder/ordq.Item]"], unfollowed := true, recurses := true, named := ["stadholder/policy.kinds"], apart := false, laid := [("stadholder/policy.kinds", laid_stadholder_policy_kinds)] }
def PolicyHeldSaid : Prop := policyHeldRow.holds Tryz.pinned (OpenSpec.ofChange policyHeldSpec)

/-- ITS FALSE NEIGHBOUR: 'it returns false'. Refute it at one input. -/
def policyHeldWrong : ChangeSpec := { name := "policyHeld", fn := fun _ => fun
  | [d1, d2, d3] => { results := [.lit (.bool false)], args := [d1, d2, d3] }
  | _ => none }
def PolicyHeldWrongFalsely : Prop := policyHeldRow.holds Tryz.pinned (OpenSpec.ofChange policyHeldWrong)

/-- 'stadholderlaw14.PolicyLeaves': WHATEVER THE INPUT: true; the input reads as it did. -/
def policyLeavesSpec : ChangeSpec := { name := "policyLeaves", fn := fun _ => fun
  | [d1, d2, d3] => { results := [.lit (.bool true)], args := [d1, d2, d3] }
  | _ => none }
def policyLeavesRow : OpenClaim := { program := "ytancneebbellnaagreatdoor", sum := "0c0b2799a7d0abad1185cf0a6b9f0e51d862922e108e21399dcb1a88aeaf8b24", func := "stadholder/stadholderlaw14.PolicyLeaves", spec := "policyLeaves", inPlace := ["slices.overlaps[stadholder/ordq.Item]"], unfollowed := true, recurses := true, named := ["stadholder/policy.kinds"], apart := false, laid := [("stadholder/policy.kinds", laid_stadholder_policy_kinds)] }
def PolicyLeavesSaid : Prop := policyLeavesRow.holds Tryz.pinned (OpenSpec.ofChange policyLeavesSpec)

/-- ITS FALSE NEIGHBOUR: 'it returns false'. Refute it at one input. -/
def policyLeavesWrong : ChangeSpec := { name := "policyLeaves", fn := fun _ => fun
  | [d1, d2, d3] => { results := [.lit (.bool false)], args := [d1, d2, d3] }
  | _ => none }
def PolicyLeavesWrongFalsely : Prop := policyLeavesRow.holds Tryz.pinned (OpenSpec.ofChange policyLeavesWrong)

/- THE SECOND FORM. 'bulk': how many values and letters a reading holds, each counted each time it is reached (what is shared counts as often as it is met; a slice's spare places count too). A statement '..UptoSaid' is the law's where the arguments, and the package variables that the reading takes, are together of bulk at most 1048576: NARROWER than '..Said'. Prove '..Said' where nothing that the law and all that it calls make is longer than what came in: it says more and counts as full. Else prove '..UptoSaid'. A law counts once. -/
mutual
def uptoBulk {H : Type} : DataW H → Nat
  | .lit (.string bytes) => bytes.length + 1
  | .lit _ => 1
  | .nil => 1
  | .ptr d => uptoBulk d + 1
  | .slice elems spare => uptoBulkAll elems + uptoBulkAll spare + 1
  | .agg parts => uptoBulkAll parts + 1
  | .iface _ d => uptoBulk d + 1
  | .map entries => uptoBulkEntries entries + 1
  | .held _ => 1
def uptoBulkAll {H : Type} : List (DataW H) → Nat
  | [] => 0
  | d :: r => uptoBulk d + uptoBulkAll r
def uptoBulkEntries {H : Type} : List (Lit × DataW H) → Nat
  | [] => 0
  | x :: r => uptoBulkEntry x + uptoBulkEntries r
def uptoBulkEntry {H : Type} : Lit × DataW H → Nat
  | (.string bytes, d) => bytes.length + uptoBulk d + 1
  | (_, d) => uptoBulk d + 1
 end
def uptoSmall : (H : Type) → List (DataW H) → Bool := fun _ ds => decide (uptoBulkAll ds ≤ 1048576)
def OpenSpec.upto (s : _root_.Go.ChangeSpec) : _root_.Go.OpenSpec := { _root_.Go.OpenSpec.ofChange s with cond := some uptoSmall }

/-- 'stadholderlaw14.PolicyKnown', WHERE WHAT IT READS IS OF BULK AT MOST 1048576: true; the input reads as it did. -/
def policyKnownUptoRow : OpenClaim := { program := "ytancneebbellnaagreatdoor", sum := "0c0b2799a7d0abad1185cf0a6b9f0e51d862922e108e21399dcb1a88aeaf8b24", func := "stadholder/stadholderlaw14.PolicyKnown", spec := "policyKnown", inPlace := ["slices.overlaps[stadholder/ordq.Item]"], unfollowed := true, recurses := true, named := ["stadholder/policy.kinds"], apart := false, laid := [("stadholder/policy.kinds", laid_stadholder_policy_kinds)], narrowed := true }
def PolicyKnownUptoSaid : Prop := policyKnownUptoRow.holds Tryz.pinned (OpenSpec.upto policyKnownSpec)

/-- 'stadholderlaw14.PolicyPlays', WHERE WHAT IT READS IS OF BULK AT MOST 1048576: true; the input reads as it did. -/
def policyPlaysUptoRow : OpenClaim := { program := "ytancneebbellnaagreatdoor", sum := "0c0b2799a7d0abad1185cf0a6b9f0e51d862922e108e21399dcb1a88aeaf8b24", func := "stadholder/stadholderlaw14.PolicyPlays", spec := "policyPlays", inPlace := ["slices.overlaps[stadholder/ordq.Item]"], unfollowed := true, recurses := true, named := ["stadholder/policy.kinds"], apart := false, laid := [("stadholder/policy.kinds", laid_stadholder_policy_kinds)], narrowed := true }
def PolicyPlaysUptoSaid : Prop := policyPlaysUptoRow.holds Tryz.pinned (OpenSpec.upto policyPlaysSpec)

/-- 'stadholderlaw14.PolicyTurns', WHERE WHAT IT READS IS OF BULK AT MOST 1048576: true; the input reads as it did. -/
def policyTurnsUptoRow : OpenClaim := { program := "ytancneebbellnaagreatdoor", sum := "0c0b2799a7d0abad1185cf0a6b9f0e51d862922e108e21399dcb1a88aeaf8b24", func := "stadholder/stadholderlaw14.PolicyTurns", spec := "policyTurns", inPlace := ["slices.overlaps[stadholder/ordq.Item]"], unfollowed := true, recurses := true, named := ["stadholder/policy.kinds"], apart := false, laid := [("stadholder/policy.kinds", laid_stadholder_policy_kinds)], narrowed := true }
def PolicyTurnsUptoSaid : Prop := policyTurnsUptoRow.holds Tryz.pinned (OpenSpec.upto policyTurnsSpec)

/-- 'stadholderlaw14.PolicyHeld', WHERE WHAT IT READS IS OF BULK AT MOST 1048576: true; the input reads as it did. -/
def policyHeldUptoRow : OpenClaim := { program := "ytancneebbellnaagreatdoor", sum := "0c0b2799a7d0abad1185cf0a6b9f0e51d862922e108e21399dcb1a88aeaf8b24", func := "stadholder/stadholderlaw14.PolicyHeld", spec := "policyHeld", inPlace := ["slices.overlaps[stadholder/ordq.Item]"], unfollowed := true, recurses := true, named := ["stadholder/policy.kinds"], apart := false, laid := [("stadholder/policy.kinds", laid_stadholder_policy_kinds)], narrowed := true }
def PolicyHeldUptoSaid : Prop := policyHeldUptoRow.holds Tryz.pinned (OpenSpec.upto policyHeldSpec)

/-- 'stadholderlaw14.PolicyLeaves', WHERE WHAT IT READS IS OF BULK AT MOST 1048576: true; the input reads as it did. -/
def policyLeavesUptoRow : OpenClaim := { program := "ytancneebbellnaagreatdoor", sum := "0c0b2799a7d0abad1185cf0a6b9f0e51d862922e108e21399dcb1a88aeaf8b24", func := "stadholder/stadholderlaw14.PolicyLeaves", spec := "policyLeaves", inPlace := ["slices.overlaps[stadholder/ordq.Item]"], unfollowed := true, recurses := true, named := ["stadholder/policy.kinds"], apart := false, laid := [("stadholder/policy.kinds", laid_stadholder_policy_kinds)], narrowed := true }
def PolicyLeavesUptoSaid : Prop := policyLeavesUptoRow.holds Tryz.pinned (OpenSpec.upto policyLeavesSpec)

end Rows
end Go.Proofs.YtancneebbellnaaGreatDoor
