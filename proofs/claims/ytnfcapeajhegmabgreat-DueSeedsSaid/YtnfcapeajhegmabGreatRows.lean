/-
  No cell of these rows narrows 'for every input' (looked for: loops, veiled, ifaces, maps, wideKeys, modest, calm, conditions, laid).
  DERIVED. THE GIVEN ROWS OF THIS SEAT. 4 by the template 'for every input the law returns true; each argument reads behind the call as it read before'; 0 by the template 'total and deterministic' (their statements: YtnfcapeajhegmabGreatTotals.lean).
  GIVEN WITH THE SEED: the statements are not yours to turn. If you find one false, say at which input.
  Laid BY PROGRAM, IN A SANDBOX (cutbox-rows.mjs): the forced cells as the released guide's own fill.sh prints them over the translation 3e408af5cbffb37c… (all of the seat's roots in one cut). By AI agents, Wed Nov 11 2026. No macro, syntax, notation, axiom, sorry.
-/
import Derived.Test.YtnfcapeajhegmabGreatChecked
import GoSem.Claim
import GoSem.ClaimJoined
import GoSem.ClaimMapViews
import Derived.JoinedTies
import Derived.KernelRfl
namespace Go.Proofs.YtnfcapeajhegmabGreat
/- THE CELL 'sum', in the pinned program and in every row, IS THE sha256 OF THE DUMP (.gsa) THAT YtnfcapeajhegmabGreatProg.lean LOADS. Nothing in Lean hashes anything: it is a label: what it is worth is what the hold of that sum in a sandbox is worth. -/
noncomputable def Tryz.pinned : Pinned := { name := "ytnfcapeajhegmabgreat", sum := "3e408af5cbffb37ce63feec66cd10145a54676aa0c3e88e3dafc6582a09f7eae", checked := Tryz.checked }
namespace Rows
def none {H : Type} : Left H := { results := [], args := [] }

/-- 'stadholderlaw13.DuePlays': WHATEVER THE INPUT: true; the input reads as it did. -/
def duePlaysSpec : ChangeSpec := { name := "duePlays", fn := fun _ => fun
  | [d1, d2] => { results := [.lit (.bool true)], args := [d1, d2] }
  | _ => none }
def duePlaysRow : OpenClaim := { program := "ytnfcapeajhegmabgreat", sum := "3e408af5cbffb37ce63feec66cd10145a54676aa0c3e88e3dafc6582a09f7eae", func := "stadholder/stadholderlaw13.DuePlays", spec := "duePlays", inPlace := ["slices.overlaps[stadholder/ordq.Item]"], unfollowed := true, recurses := true, apart := false }
def DuePlaysSaid : Prop := duePlaysRow.holds Tryz.pinned (OpenSpec.ofChange duePlaysSpec)

/-- ITS FALSE NEIGHBOUR: 'it returns false'. Refute it at one input. -/
def duePlaysWrong : ChangeSpec := { name := "duePlays", fn := fun _ => fun
  | [d1, d2] => { results := [.lit (.bool false)], args := [d1, d2] }
  | _ => none }
def DuePlaysWrongFalsely : Prop := duePlaysRow.holds Tryz.pinned (OpenSpec.ofChange duePlaysWrong)

/-- 'stadholderlaw13.DueSeeds': WHATEVER THE INPUT: true; the input reads as it did. -/
def dueSeedsSpec : ChangeSpec := { name := "dueSeeds", fn := fun _ => fun
  | [d1, d2, d3] => { results := [.lit (.bool true)], args := [d1, d2, d3] }
  | _ => none }
def dueSeedsRow : OpenClaim := { program := "ytnfcapeajhegmabgreat", sum := "3e408af5cbffb37ce63feec66cd10145a54676aa0c3e88e3dafc6582a09f7eae", func := "stadholder/stadholderlaw13.DueSeeds", spec := "dueSeeds", inPlace := ["slices.overlaps[stadholder/ordq.Item]"], unfollowed := true, recurses := true, apart := false }
def DueSeedsSaid : Prop := dueSeedsRow.holds Tryz.pinned (OpenSpec.ofChange dueSeedsSpec)

/-- ITS FALSE NEIGHBOUR: 'it returns false'. Refute it at one input. -/
def dueSeedsWrong : ChangeSpec := { name := "dueSeeds", fn := fun _ => fun
  | [d1, d2, d3] => { results := [.lit (.bool false)], args := [d1, d2, d3] }
  | _ => none }
def DueSeedsWrongFalsely : Prop := dueSeedsRow.holds Tryz.pinned (OpenSpec.ofChange dueSeedsWrong)

/-- 'stadholderlaw13.DueApart': WHATEVER THE INPUT: true; the input reads as it did. -/
def dueApartSpec : ChangeSpec := { name := "dueApart", fn := fun _ => fun
  | [d1, d2, d3, d4] => { results := [.lit (.bool true)], args := [d1, d2, d3, d4] }
  | _ => none }
def dueApartRow : OpenClaim := { program := "ytnfcapeajhegmabgreat", sum := "3e408af5cbffb37ce63feec66cd10145a54676aa0c3e88e3dafc6582a09f7eae", func := "stadholder/stadholderlaw13.DueApart", spec := "dueApart", inPlace := ["slices.overlaps[stadholder/ordq.Item]"], unfollowed := true, recurses := true, apart := false }
def DueApartSaid : Prop := dueApartRow.holds Tryz.pinned (OpenSpec.ofChange dueApartSpec)

/-- ITS FALSE NEIGHBOUR: 'it returns false'. Refute it at one input. -/
def dueApartWrong : ChangeSpec := { name := "dueApart", fn := fun _ => fun
  | [d1, d2, d3, d4] => { results := [.lit (.bool false)], args := [d1, d2, d3, d4] }
  | _ => none }
def DueApartWrongFalsely : Prop := dueApartRow.holds Tryz.pinned (OpenSpec.ofChange dueApartWrong)

/-- 'stadholderlaw13.DueGood': WHATEVER THE INPUT: true; the input reads as it did. -/
def dueGoodSpec : ChangeSpec := { name := "dueGood", fn := fun _ => fun
  | [d1, d2] => { results := [.lit (.bool true)], args := [d1, d2] }
  | _ => none }
def dueGoodRow : OpenClaim := { program := "ytnfcapeajhegmabgreat", sum := "3e408af5cbffb37ce63feec66cd10145a54676aa0c3e88e3dafc6582a09f7eae", func := "stadholder/stadholderlaw13.DueGood", spec := "dueGood", inPlace := ["slices.overlaps[stadholder/ordq.Item]"], unfollowed := true, recurses := true, apart := false }
def DueGoodSaid : Prop := dueGoodRow.holds Tryz.pinned (OpenSpec.ofChange dueGoodSpec)

/-- ITS FALSE NEIGHBOUR: 'it returns false'. Refute it at one input. -/
def dueGoodWrong : ChangeSpec := { name := "dueGood", fn := fun _ => fun
  | [d1, d2] => { results := [.lit (.bool false)], args := [d1, d2] }
  | _ => none }
def DueGoodWrongFalsely : Prop := dueGoodRow.holds Tryz.pinned (OpenSpec.ofChange dueGoodWrong)

/- THE SECOND FORM. 'bulk': how many values and letters a reading holds, each counted each time it is reached (what is shared counts as often as it is met; a slice's spare places count too). A statement '..UptoSaid' is the law's where the arguments, and the package variables that the reading takes, are together of bulk at most 1048576: NARROWER than '..Said'. Prove '..Said' where nothing that the law and all that it calls make is longer than what came in: it says more and counts as full. Else prove '..UptoSaid'. A law counts once. -/
mutual
def uptoBulk {H : Type} : DataW H → Nat
  | .lit (.string bytes) => bytes.length + 1
  | .lit _ => 1
  | .nil => 1
  | .ptr d => uptoBulk d + 1
  | .slice elems spare => uptoBulkAll elems + uptoBulkAll spare + 1
  | .agg parts => uptoBulkAll parts + 1
  | .iface _ d => uptoBulk d + 1
  | .map entries => uptoBulkEntries entries + 1
  | .held _ => 1
def uptoBulkAll {H : Type} : List (DataW H) → Nat
  | [] => 0
  | d :: r => uptoBulk d + uptoBulkAll r
def uptoBulkEntries {H : Type} : List (Lit × DataW H) → Nat
  | [] => 0
  | x :: r => uptoBulkEntry x + uptoBulkEntries r
def uptoBulkEntry {H : Type} : Lit × DataW H → Nat
  | (.string bytes, d) => bytes.length + uptoBulk d + 1
  | (_, d) => uptoBulk d + 1
 end
def uptoSmall : (H : Type) → List (DataW H) → Bool := fun _ ds => decide (uptoBulkAll ds ≤ 1048576)
def OpenSpec.upto (s : _root_.Go.ChangeSpec) : _root_.Go.OpenSpec := { _root_.Go.OpenSpec.ofChange s with cond := some uptoSmall }

/-- 'stadholderlaw13.DuePlays', WHERE WHAT IT READS IS OF BULK AT MOST 1048576: true; the input reads as it did. -/
def duePlaysUptoRow : OpenClaim := { program := "ytnfcapeajhegmabgreat", sum := "3e408af5cbffb37ce63feec66cd10145a54676aa0c3e88e3dafc6582a09f7eae", func := "stadholder/stadholderlaw13.DuePlays", spec := "duePlays", inPlace := ["slices.overlaps[stadholder/ordq.Item]"], unfollowed := true, recurses := true, apart := false, narrowed := true }
def DuePlaysUptoSaid : Prop := duePlaysUptoRow.holds Tryz.pinned (OpenSpec.upto duePlaysSpec)

/-- 'stadholderlaw13.DueSeeds', WHERE WHAT IT READS IS OF BULK AT MOST 1048576: true; the input reads as it did. -/
def dueSeedsUptoRow : OpenClaim := { program := "ytnfcapeajhegmabgreat", sum := "3e408af5cbffb37ce63feec66cd10145a54676aa0c3e88e3dafc6582a09f7eae", func := "stadholder/stadholderlaw13.DueSeeds", spec := "dueSeeds", inPlace := ["slices.overlaps[stadholder/ordq.Item]"], unfollowed := true, recurses := true, apart := false, narrowed := true }
def DueSeedsUptoSaid : Prop := dueSeedsUptoRow.holds Tryz.pinned (OpenSpec.upto dueSeedsSpec)

/-- 'stadholderlaw13.DueApart', WHERE WHAT IT READS IS OF BULK AT MOST 1048576: true; the input reads as it did. -/
def dueApartUptoRow : OpenClaim := { program := "ytnfcapeajhegmabgreat", sum := "3e408af5cbffb37ce63feec66cd10145a54676aa0c3e88e3dafc6582a09f7eae", func := "stadholder/stadholderlaw13.DueApart", spec := "dueApart", inPlace := ["slices.overlaps[stadholder/ordq.Item]"], unfollowed := true, recurses := true, apart := false, narrowed := true }
def DueApartUptoSaid : Prop := dueApartUptoRow.holds Tryz.pinned (OpenSpec.upto dueApartSpec)

/-- 'stadholderlaw13.DueGood', WHERE WHAT IT READS IS OF BULK AT MOST 1048576: true; the input reads as it did. -/
def dueGoodUptoRow : OpenClaim := { program := "ytnfcapeajhegmabgreat", sum := "3e408af5cbffb37ce63feec66cd10145a54676aa0c3e88e3dafc6582a09f7eae", func := "stadholder/stadholderlaw13.DueGood", spec := "dueGood", inPlace := ["slices.overlaps[stadholder/ordq.Item]"], unfollowed := true, recurses := true, apart := false, narrowed := true }
def DueGoodUptoSaid : Prop := dueGoodUptoRow.holds Tryz.pinned (OpenSpec.upto dueGoodSpec)

end Rows
end Go.Proofs.YtnfcapeajhegmabGreat
