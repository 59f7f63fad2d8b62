/-
  No cell of these rows narrows 'for every input' (looked for: loops, veiled, ifaces, maps, wideKeys, modest, calm, conditions, laid).
  DERIVED. THE GIVEN ROWS OF THIS SEAT. 8 by the template 'for every input the law returns true; each argument reads behind the call as it read before'; 0 by the template 'total and deterministic' (their statements: YtnfcapeajhegmaaTotals.lean).
  GIVEN WITH THE SEED: the statements are not yours to turn. If you find one false, say at which input.
  Laid BY PROGRAM, IN A SANDBOX (cutbox-rows.mjs): the forced cells as the released guide's own fill.sh prints them over the translation ddddfebf09679680… (all of the seat's roots in one cut). By AI agents, Wed Nov 11 2026. No macro, syntax, notation, axiom, sorry.
-/
import Derived.Test.YtnfcapeajhegmaaChecked
import GoSem.Claim
import GoSem.ClaimJoined
import GoSem.ClaimMapViews
import Derived.JoinedTies
import Derived.KernelRfl
namespace Go.Proofs.Ytnfcapeajhegmaa
/- THE CELL 'sum', in the pinned program and in every row, IS THE sha256 OF THE DUMP (.gsa) THAT YtnfcapeajhegmaaProg.lean LOADS. Nothing in Lean hashes anything: it is a label: what it is worth is what the hold of that sum in a sandbox is worth. -/
noncomputable def Try.pinned : Pinned := { name := "ytnfcapeajhegmaa", sum := "ddddfebf096796806c10cf79394b0affdea5345fbc023c12bef478dbb634efdc", checked := Try.checked }
namespace Rows
def none {H : Type} : Left H := { results := [], args := [] }

/-- 'stadholderlaw11.StridePlays': WHATEVER THE INPUT: true; the input reads as it did. -/
def stridePlaysSpec : ChangeSpec := { name := "stridePlays", fn := fun _ => fun
  | [d1, d2] => { results := [.lit (.bool true)], args := [d1, d2] }
  | _ => none }
def stridePlaysRow : OpenClaim := { program := "ytnfcapeajhegmaa", sum := "ddddfebf096796806c10cf79394b0affdea5345fbc023c12bef478dbb634efdc", func := "stadholder/stadholderlaw11.StridePlays", spec := "stridePlays", inPlace := ["slices.overlaps[stadholder/ordq.Item]"], unfollowed := true, recurses := true, apart := false }
def StridePlaysSaid : Prop := stridePlaysRow.holds Try.pinned (OpenSpec.ofChange stridePlaysSpec)

/-- ITS FALSE NEIGHBOUR: 'it returns false'. Refute it at one input. -/
def stridePlaysWrong : ChangeSpec := { name := "stridePlays", fn := fun _ => fun
  | [d1, d2] => { results := [.lit (.bool false)], args := [d1, d2] }
  | _ => none }
def StridePlaysWrongFalsely : Prop := stridePlaysRow.holds Try.pinned (OpenSpec.ofChange stridePlaysWrong)

/-- 'stadholderlaw11.StrideApart': WHATEVER THE INPUT: true; the input reads as it did. -/
def strideApartSpec : ChangeSpec := { name := "strideApart", fn := fun _ => fun
  | [d1, d2, d3, d4] => { results := [.lit (.bool true)], args := [d1, d2, d3, d4] }
  | _ => none }
def strideApartRow : OpenClaim := { program := "ytnfcapeajhegmaa", sum := "ddddfebf096796806c10cf79394b0affdea5345fbc023c12bef478dbb634efdc", func := "stadholder/stadholderlaw11.StrideApart", spec := "strideApart", inPlace := ["slices.overlaps[stadholder/ordq.Item]"], unfollowed := true, recurses := true, apart := false }
def StrideApartSaid : Prop := strideApartRow.holds Try.pinned (OpenSpec.ofChange strideApartSpec)

/-- ITS FALSE NEIGHBOUR: 'it returns false'. Refute it at one input. -/
def strideApartWrong : ChangeSpec := { name := "strideApart", fn := fun _ => fun
  | [d1, d2, d3, d4] => { results := [.lit (.bool false)], args := [d1, d2, d3, d4] }
  | _ => none }
def StrideApartWrongFalsely : Prop := strideApartRow.holds Try.pinned (OpenSpec.ofChange strideApartWrong)

/-- 'stadholderlaw11.StrideGood': WHATEVER THE INPUT: true; the input reads as it did. -/
def strideGoodSpec : ChangeSpec := { name := "strideGood", fn := fun _ => fun
  | [d1, d2] => { results := [.lit (.bool true)], args := [d1, d2] }
  | _ => none }
def strideGoodRow : OpenClaim := { program := "ytnfcapeajhegmaa", sum := "ddddfebf096796806c10cf79394b0affdea5345fbc023c12bef478dbb634efdc", func := "stadholder/stadholderlaw11.StrideGood", spec := "strideGood", inPlace := ["slices.overlaps[stadholder/ordq.Item]"], unfollowed := true, recurses := true, apart := false }
def StrideGoodSaid : Prop := strideGoodRow.holds Try.pinned (OpenSpec.ofChange strideGoodSpec)

/-- ITS FALSE NEIGHBOUR: 'it returns false'. Refute it at one input. -/
def strideGoodWrong : ChangeSpec := { name := "strideGood", fn := fun _ => fun
  | [d1, d2] => { results := [.lit (.bool false)], args := [d1, d2] }
  | _ => none }
def StrideGoodWrongFalsely : Prop := strideGoodRow.holds Try.pinned (OpenSpec.ofChange strideGoodWrong)

/-- 'stadholderlaw11.StrideNear': WHATEVER THE INPUT: true; the input reads as it did. -/
def strideNearSpec : ChangeSpec := { name := "strideNear", fn := fun _ => fun
  | [d1, d2] => { results := [.lit (.bool true)], args := [d1, d2] }
  | _ => none }
def strideNearRow : OpenClaim := { program := "ytnfcapeajhegmaa", sum := "ddddfebf096796806c10cf79394b0affdea5345fbc023c12bef478dbb634efdc", func := "stadholder/stadholderlaw11.StrideNear", spec := "strideNear", inPlace := ["slices.overlaps[stadholder/ordq.Item]"], unfollowed := true, recurses := true, apart := false }
def StrideNearSaid : Prop := strideNearRow.holds Try.pinned (OpenSpec.ofChange strideNearSpec)

/-- ITS FALSE NEIGHBOUR: 'it returns false'. Refute it at one input. -/
def strideNearWrong : ChangeSpec := { name := "strideNear", fn := fun _ => fun
  | [d1, d2] => { results := [.lit (.bool false)], args := [d1, d2] }
  | _ => none }
def StrideNearWrongFalsely : Prop := strideNearRow.holds Try.pinned (OpenSpec.ofChange strideNearWrong)

/-- 'stadholderlaw12.FairPlays': WHATEVER THE INPUT: true; the input reads as it did. -/
def fairPlaysSpec : ChangeSpec := { name := "fairPlays", fn := fun _ => fun
  | [d1, d2] => { results := [.lit (.bool true)], args := [d1, d2] }
  | _ => none }
def fairPlaysRow : OpenClaim := { program := "ytnfcapeajhegmaa", sum := "ddddfebf096796806c10cf79394b0affdea5345fbc023c12bef478dbb634efdc", func := "stadholder/stadholderlaw12.FairPlays", spec := "fairPlays", inPlace := ["slices.overlaps[stadholder/ordq.Item]"], unfollowed := true, recurses := true, apart := false }
def FairPlaysSaid : Prop := fairPlaysRow.holds Try.pinned (OpenSpec.ofChange fairPlaysSpec)

/-- ITS FALSE NEIGHBOUR: 'it returns false'. Refute it at one input. -/
def fairPlaysWrong : ChangeSpec := { name := "fairPlays", fn := fun _ => fun
  | [d1, d2] => { results := [.lit (.bool false)], args := [d1, d2] }
  | _ => none }
def FairPlaysWrongFalsely : Prop := fairPlaysRow.holds Try.pinned (OpenSpec.ofChange fairPlaysWrong)

/-- 'stadholderlaw12.FairApart': WHATEVER THE INPUT: true; the input reads as it did. -/
def fairApartSpec : ChangeSpec := { name := "fairApart", fn := fun _ => fun
  | [d1, d2, d3, d4] => { results := [.lit (.bool true)], args := [d1, d2, d3, d4] }
  | _ => none }
def fairApartRow : OpenClaim := { program := "ytnfcapeajhegmaa", sum := "ddddfebf096796806c10cf79394b0affdea5345fbc023c12bef478dbb634efdc", func := "stadholder/stadholderlaw12.FairApart", spec := "fairApart", inPlace := ["slices.overlaps[stadholder/ordq.Item]"], unfollowed := true, recurses := true, apart := false }
def FairApartSaid : Prop := fairApartRow.holds Try.pinned (OpenSpec.ofChange fairApartSpec)

/-- ITS FALSE NEIGHBOUR: 'it returns false'. Refute it at one input. -/
def fairApartWrong : ChangeSpec := { name := "fairApart", fn := fun _ => fun
  | [d1, d2, d3, d4] => { results := [.lit (.bool false)], args := [d1, d2, d3, d4] }
  | _ => none }
def FairApartWrongFalsely : Prop := fairApartRow.holds Try.pinned (OpenSpec.ofChange fairApartWrong)

/-- 'stadholderlaw12.FairGood': WHATEVER THE INPUT: true; the input reads as it did. -/
def fairGoodSpec : ChangeSpec := { name := "fairGood", fn := fun _ => fun
  | [d1, d2] => { results := [.lit (.bool true)], args := [d1, d2] }
  | _ => none }
def fairGoodRow : OpenClaim := { program := "ytnfcapeajhegmaa", sum := "ddddfebf096796806c10cf79394b0affdea5345fbc023c12bef478dbb634efdc", func := "stadholder/stadholderlaw12.FairGood", spec := "fairGood", inPlace := ["slices.overlaps[stadholder/ordq.Item]"], unfollowed := true, recurses := true, apart := false }
def FairGoodSaid : Prop := fairGoodRow.holds Try.pinned (OpenSpec.ofChange fairGoodSpec)

/-- ITS FALSE NEIGHBOUR: 'it returns false'. Refute it at one input. -/
def fairGoodWrong : ChangeSpec := { name := "fairGood", fn := fun _ => fun
  | [d1, d2] => { results := [.lit (.bool false)], args := [d1, d2] }
  | _ => none }
def FairGoodWrongFalsely : Prop := fairGoodRow.holds Try.pinned (OpenSpec.ofChange fairGoodWrong)

/-- 'stadholderlaw12.FairNear': WHATEVER THE INPUT: true; the input reads as it did. -/
def fairNearSpec : ChangeSpec := { name := "fairNear", fn := fun _ => fun
  | [d1, d2] => { results := [.lit (.bool true)], args := [d1, d2] }
  | _ => none }
def fairNearRow : OpenClaim := { program := "ytnfcapeajhegmaa", sum := "ddddfebf096796806c10cf79394b0affdea5345fbc023c12bef478dbb634efdc", func := "stadholder/stadholderlaw12.FairNear", spec := "fairNear", inPlace := ["slices.overlaps[stadholder/ordq.Item]"], unfollowed := true, recurses := true, apart := false }
def FairNearSaid : Prop := fairNearRow.holds Try.pinned (OpenSpec.ofChange fairNearSpec)

/-- ITS FALSE NEIGHBOUR: 'it returns false'. Refute it at one input. -/
def fairNearWrong : ChangeSpec := { name := "fairNear", fn := fun _ => fun
  | [d1, d2] => { results := [.lit (.bool false)], args := [d1, d2] }
  | _ => none }
def FairNearWrongFalsely : Prop := fairNearRow.holds Try.pinned (OpenSpec.ofChange fairNearWrong)

/- THE SECOND FORM. 'bulk': how many values and letters a reading holds, each counted each time it is reached (what is shared counts as often as it is met; a slice's spare places count too). A statement '..UptoSaid' is the law's where the arguments, and the package variables that the reading takes, are together of bulk at most 1048576: NARROWER than '..Said'. Prove '..Said' where nothing that the law and all that it calls make is longer than what came in: it says more and counts as full. Else prove '..UptoSaid'. A law counts once. -/
mutual
def uptoBulk {H : Type} : DataW H → Nat
  | .lit (.string bytes) => bytes.length + 1
  | .lit _ => 1
  | .nil => 1
  | .ptr d => uptoBulk d + 1
  | .slice elems spare => uptoBulkAll elems + uptoBulkAll spare + 1
  | .agg parts => uptoBulkAll parts + 1
  | .iface _ d => uptoBulk d + 1
  | .map entries => uptoBulkEntries entries + 1
  | .held _ => 1
def uptoBulkAll {H : Type} : List (DataW H) → Nat
  | [] => 0
  | d :: r => uptoBulk d + uptoBulkAll r
def uptoBulkEntries {H : Type} : List (Lit × DataW H) → Nat
  | [] => 0
  | x :: r => uptoBulkEntry x + uptoBulkEntries r
def uptoBulkEntry {H : Type} : Lit × DataW H → Nat
  | (.string bytes, d) => bytes.length + uptoBulk d + 1
  | (_, d) => uptoBulk d + 1
 end
def uptoSmall : (H : Type) → List (DataW H) → Bool := fun _ ds => decide (uptoBulkAll ds ≤ 1048576)
def OpenSpec.upto (s : _root_.Go.ChangeSpec) : _root_.Go.OpenSpec := { _root_.Go.OpenSpec.ofChange s with cond := some uptoSmall }

/-- 'stadholderlaw11.StridePlays', WHERE WHAT IT READS IS OF BULK AT MOST 1048576: true; the input reads as it did. -/
def stridePlaysUptoRow : OpenClaim := { program := "ytnfcapeajhegmaa", sum := "ddddfebf096796806c10cf79394b0affdea5345fbc023c12bef478dbb634efdc", func := "stadholder/stadholderlaw11.StridePlays", spec := "stridePlays", inPlace := ["slices.overlaps[stadholder/ordq.Item]"], unfollowed := true, recurses := true, apart := false, narrowed := true }
def StridePlaysUptoSaid : Prop := stridePlaysUptoRow.holds Try.pinned (OpenSpec.upto stridePlaysSpec)

/-- 'stadholderlaw11.StrideApart', WHERE WHAT IT READS IS OF BULK AT MOST 1048576: true; the input reads as it did. -/
def strideApartUptoRow : OpenClaim := { program := "ytnfcapeajhegmaa", sum := "ddddfebf096796806c10cf79394b0affdea5345fbc023c12bef478dbb634efdc", func := "stadholder/stadholderlaw11.StrideApart", spec := "strideApart", inPlace := ["slices.overlaps[stadholder/ordq.Item]"], unfollowed := true, recurses := true, apart := false, narrowed := true }
def StrideApartUptoSaid : Prop := strideApartUptoRow.holds Try.pinned (OpenSpec.upto strideApartSpec)

/-- 'stadholderlaw11.StrideGood', WHERE WHAT IT READS IS OF BULK AT MOST 1048576: true; the input reads as it did. -/
def strideGoodUptoRow : OpenClaim := { program := "ytnfcapeajhegmaa", sum := "ddddfebf096796806c10cf79394b0affdea5345fbc023c12bef478dbb634efdc", func := "stadholder/stadholderlaw11.StrideGood", spec := "strideGood", inPlace := ["slices.overlaps[stadholder/ordq.Item]"], unfollowed := true, recurses := true, apart := false, narrowed := true }
def StrideGoodUptoSaid : Prop := strideGoodUptoRow.holds Try.pinned (OpenSpec.upto strideGoodSpec)

/-- 'stadholderlaw11.StrideNear', WHERE WHAT IT READS IS OF BULK AT MOST 1048576: true; the input reads as it did. -/
def strideNearUptoRow : OpenClaim := { program := "ytnfcapeajhegmaa", sum := "ddddfebf096796806c10cf79394b0affdea5345fbc023c12bef478dbb634efdc", func := "stadholder/stadholderlaw11.StrideNear", spec := "strideNear", inPlace := ["slices.overlaps[stadholder/ordq.Item]"], unfollowed := true, recurses := true, apart := false, narrowed := true }
def StrideNearUptoSaid : Prop := strideNearUptoRow.holds Try.pinned (OpenSpec.upto strideNearSpec)

/-- 'stadholderlaw12.FairPlays', WHERE WHAT IT READS IS OF BULK AT MOST 1048576: true; the input reads as it did. -/
def fairPlaysUptoRow : OpenClaim := { program := "ytnfcapeajhegmaa", sum := "ddddfebf096796806c10cf79394b0affdea5345fbc023c12bef478dbb634efdc", func := "stadholder/stadholderlaw12.FairPlays", spec := "fairPlays", inPlace := ["slices.overlaps[stadholder/ordq.Item]"], unfollowed := true, recurses := true, apart := false, narrowed := true }
def FairPlaysUptoSaid : Prop := fairPlaysUptoRow.holds Try.pinned (OpenSpec.upto fairPlaysSpec)

/-- 'stadholderlaw12.FairApart', WHERE WHAT IT READS IS OF BULK AT MOST 1048576: true; the input reads as it did. -/
def fairApartUptoRow : OpenClaim := { program := "ytnfcapeajhegmaa", sum := "ddddfebf096796806c10cf79394b0affdea5345fbc023c12bef478dbb634efdc", func := "stadholder/stadholderlaw12.FairApart", spec := "fairApart", inPlace := ["slices.overlaps[stadholder/ordq.Item]"], unfollowed := true, recurses := true, apart := false, narrowed := true }
def FairApartUptoSaid : Prop := fairApartUptoRow.holds Try.pinned (OpenSpec.upto fairApartSpec)

/-- 'stadholderlaw12.FairGood', WHERE WHAT IT READS IS OF BULK AT MOST 1048576: true; the input reads as it did. -/
def fairGoodUptoRow : OpenClaim := { program := "ytnfcapeajhegmaa", sum := "ddddfebf096796806c10cf79394b0affdea5345fbc023c12bef478dbb634efdc", func := "stadholder/stadholderlaw12.FairGood", spec := "fairGood", inPlace := ["slices.overlaps[stadholder/ordq.Item]"], unfollowed := true, recurses := true, apart := false, narrowed := true }
def FairGoodUptoSaid : Prop := fairGoodUptoRow.holds Try.pinned (OpenSpec.upto fairGoodSpec)

/-- 'stadholderlaw12.FairNear', WHERE WHAT IT READS IS OF BULK AT MOST 1048576: true; the input reads as it did. -/
def fairNearUptoRow : OpenClaim := { program := "ytnfcapeajhegmaa", sum := "ddddfebf096796806c10cf79394b0affdea5345fbc023c12bef478dbb634efdc", func := "stadholder/stadholderlaw12.FairNear", spec := "fairNear", inPlace := ["slices.overlaps[stadholder/ordq.Item]"], unfollowed := true, recurses := true, apart := false, narrowed := true }
def FairNearUptoSaid : Prop := fairNearUptoRow.holds Try.pinned (OpenSpec.upto fairNearSpec)

end Rows
end Go.Proofs.Ytnfcapeajhegmaa
