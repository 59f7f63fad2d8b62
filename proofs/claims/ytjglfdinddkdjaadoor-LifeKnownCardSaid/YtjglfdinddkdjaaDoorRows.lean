/-
  NARROWER THAN 'FOR EVERY INPUT', by the rows' own cells (each row's printed sentence says how): LifeKnown: laid · LifeRows: laid · LifeReach: laid.
  DERIVED. THE GIVEN ROWS OF THIS SEAT. 3 by the template 'for every input the law returns true; each argument reads behind the call as it read before'; 0 by the template 'total and deterministic' (their statements: YtjglfdinddkdjaaDoorTotals.lean).
  GIVEN WITH THE SEED: the statements are not yours to turn. If you find one false, say at which input.
  Laid BY PROGRAM, IN A SANDBOX (cutbox-rows.mjs): the forced cells as the released guide's own fill.sh prints them over the translation e12d6deb44d26e57… (all of the seat's roots in one cut). By AI agents, Wed Nov 11 2026. No macro, syntax, notation, axiom, sorry.
-/
import Derived.Test.YtjglfdinddkdjaaDoorChecked
import GoSem.Claim
import GoSem.ClaimJoined
import GoSem.ClaimMapViews
import Derived.JoinedTies
import Derived.KernelRfl
namespace Go.Proofs.YtjglfdinddkdjaaDoor
/- THE CELL 'sum', in the pinned program and in every row, IS THE sha256 OF THE DUMP (.gsa) THAT YtjglfdinddkdjaaDoorProg.lean LOADS. Nothing in Lean hashes anything: it is a label: what it is worth is what the hold of that sum in a sandbox is worth. -/
noncomputable def Tryd.pinned : Pinned := { name := "ytjglfdinddkdjaadoor", sum := "e12d6deb44d26e5751a80232af7456a6e2244c1d8fe51d7dda9e14c14f3fbf64", checked := Tryd.checked }
namespace Rows
def none {H : Type} : Left H := { results := [], args := [] }

/- WHAT THE LISTED PACKAGE-LEVEL VARIABLES READ AS WHEN THE CALL BEGINS. Each datum BY PROGRAM (the guide's laid-datum.mjs) off the statement by which the dump's own 'gosem.cut.vars' lays the variable. In a bare row this is a premise. The card (YtjglfdinddkdjaaDoorCards.lean) ties it to the program's text. -/
def laid_stadholder_life_follows {H : Type} : DataW H := .agg [.agg [.lit (.int .i64 0), .lit (.int .i64 0), .lit (.int .i64 0), .lit (.int .i64 0), .lit (.int .i64 0), .lit (.int .i64 0), .lit (.int .i64 0), .lit (.int .i64 0), .lit (.int .i64 0)], .agg [.lit (.int .i64 0), .lit (.int .i64 2), .lit (.int .i64 0), .lit (.int .i64 0), .lit (.int .i64 0), .lit (.int .i64 0), .lit (.int .i64 0), .lit (.int .i64 0), .lit (.int .i64 6)], .agg [.lit (.int .i64 0), .lit (.int .i64 0), .lit (.int .i64 3), .lit (.int .i64 0), .lit (.int .i64 4), .lit (.int .i64 0), .lit (.int .i64 5), .lit (.int .i64 0), .lit (.int .i64 6)], .agg [.lit (.int .i64 0), .lit (.int .i64 0), .lit (.int .i64 0), .lit (.int .i64 2), .lit (.int .i64 4), .lit (.int .i64 0), .lit (.int .i64 5), .lit (.int .i64 0), .lit (.int .i64 6)], .agg [.lit (.int .i64 0), .lit (.int .i64 0), .lit (.int .i64 0), .lit (.int .i64 0), .lit (.int .i64 0), .lit (.int .i64 2), .lit (.int .i64 0), .lit (.int .i64 0), .lit (.int .i64 6)], .agg [.lit (.int .i64 0), .lit (.int .i64 0), .lit (.int .i64 0), .lit (.int .i64 0), .lit (.int .i64 4), .lit (.int .i64 0), .lit (.int .i64 0), .lit (.int .i64 2), .lit (.int .i64 6)], .agg [.lit (.int .i64 0), .lit (.int .i64 0), .lit (.int .i64 0), .lit (.int .i64 0), .lit (.int .i64 0), .lit (.int .i64 0), .lit (.int .i64 0), .lit (.int .i64 0), .lit (.int .i64 0)]]
def laid_stadholder_life_names {H : Type} : DataW H := .agg [.lit (.string [110, 111, 110, 101]), .lit (.string [110, 101, 119]), .lit (.string [114, 101, 97, 100, 121]), .lit (.string [114, 117, 110, 115]), .lit (.string [115, 108, 101, 101, 112, 115]), .lit (.string [104, 101, 108, 100]), .lit (.string [103, 111, 110, 101])]

/-- 'stadholderlaw9.LifeKnown': WHATEVER THE INPUT: true; the input reads as it did. -/
def lifeKnownSpec : ChangeSpec := { name := "lifeKnown", fn := fun _ => fun
  | [] => { results := [.lit (.bool true)], args := [] }
  | _ => none }
def lifeKnownRow : OpenClaim := { program := "ytjglfdinddkdjaadoor", sum := "e12d6deb44d26e5751a80232af7456a6e2244c1d8fe51d7dda9e14c14f3fbf64", func := "stadholder/stadholderlaw9.LifeKnown", spec := "lifeKnown", named := ["stadholder/life.follows", "stadholder/life.names"], apart := false, laid := [("stadholder/life.follows", laid_stadholder_life_follows), ("stadholder/life.names", laid_stadholder_life_names)] }
def LifeKnownSaid : Prop := lifeKnownRow.holds Tryd.pinned (OpenSpec.ofChange lifeKnownSpec)

/-- ITS FALSE NEIGHBOUR: 'it returns false'. Refute it at one input. -/
def lifeKnownWrong : ChangeSpec := { name := "lifeKnown", fn := fun _ => fun
  | [] => { results := [.lit (.bool false)], args := [] }
  | _ => none }
def LifeKnownWrongFalsely : Prop := lifeKnownRow.holds Tryd.pinned (OpenSpec.ofChange lifeKnownWrong)

/-- 'stadholderlaw9.LifeRows': WHATEVER THE INPUT: true; the input reads as it did. -/
def lifeRowsSpec : ChangeSpec := { name := "lifeRows", fn := fun _ => fun
  | [d] => { results := [.lit (.bool true)], args := [d] }
  | _ => none }
def lifeRowsRow : OpenClaim := { program := "ytjglfdinddkdjaadoor", sum := "e12d6deb44d26e5751a80232af7456a6e2244c1d8fe51d7dda9e14c14f3fbf64", func := "stadholder/stadholderlaw9.LifeRows", spec := "lifeRows", named := ["stadholder/life.follows", "stadholder/life.names"], apart := false, laid := [("stadholder/life.follows", laid_stadholder_life_follows), ("stadholder/life.names", laid_stadholder_life_names)] }
def LifeRowsSaid : Prop := lifeRowsRow.holds Tryd.pinned (OpenSpec.ofChange lifeRowsSpec)

/-- ITS FALSE NEIGHBOUR: 'it returns false'. Refute it at one input. -/
def lifeRowsWrong : ChangeSpec := { name := "lifeRows", fn := fun _ => fun
  | [d] => { results := [.lit (.bool false)], args := [d] }
  | _ => none }
def LifeRowsWrongFalsely : Prop := lifeRowsRow.holds Tryd.pinned (OpenSpec.ofChange lifeRowsWrong)

/-- 'stadholderlaw9.LifeReach': WHATEVER THE INPUT: true; the input reads as it did. -/
def lifeReachSpec : ChangeSpec := { name := "lifeReach", fn := fun _ => fun
  | [d] => { results := [.lit (.bool true)], args := [d] }
  | _ => none }
def lifeReachRow : OpenClaim := { program := "ytjglfdinddkdjaadoor", sum := "e12d6deb44d26e5751a80232af7456a6e2244c1d8fe51d7dda9e14c14f3fbf64", func := "stadholder/stadholderlaw9.LifeReach", spec := "lifeReach", named := ["stadholder/life.follows", "stadholder/life.names"], apart := false, laid := [("stadholder/life.follows", laid_stadholder_life_follows), ("stadholder/life.names", laid_stadholder_life_names)] }
def LifeReachSaid : Prop := lifeReachRow.holds Tryd.pinned (OpenSpec.ofChange lifeReachSpec)

/-- ITS FALSE NEIGHBOUR: 'it returns false'. Refute it at one input. -/
def lifeReachWrong : ChangeSpec := { name := "lifeReach", fn := fun _ => fun
  | [d] => { results := [.lit (.bool false)], args := [d] }
  | _ => none }
def LifeReachWrongFalsely : Prop := lifeReachRow.holds Tryd.pinned (OpenSpec.ofChange lifeReachWrong)

/- THE SECOND FORM. 'bulk': how many values and letters a reading holds, each counted each time it is reached (what is shared counts as often as it is met; a slice's spare places count too). A statement '..UptoSaid' is the law's where the arguments, and the package variables that the reading takes, are together of bulk at most 1048576: NARROWER than '..Said'. Prove '..Said' where nothing that the law and all that it calls make is longer than what came in: it says more and counts as full. Else prove '..UptoSaid'. A law counts once. -/
mutual
def uptoBulk {H : Type} : DataW H → Nat
  | .lit (.string bytes) => bytes.length + 1
  | .lit _ => 1
  | .nil => 1
  | .ptr d => uptoBulk d + 1
  | .slice elems spare => uptoBulkAll elems + uptoBulkAll spare + 1
  | .agg parts => uptoBulkAll parts + 1
  | .iface _ d => uptoBulk d + 1
  | .map entries => uptoBulkEntries entries + 1
  | .held _ => 1
def uptoBulkAll {H : Type} : List (DataW H) → Nat
  | [] => 0
  | d :: r => uptoBulk d + uptoBulkAll r
def uptoBulkEntries {H : Type} : List (Lit × DataW H) → Nat
  | [] => 0
  | x :: r => uptoBulkEntry x + uptoBulkEntries r
def uptoBulkEntry {H : Type} : Lit × DataW H → Nat
  | (.string bytes, d) => bytes.length + uptoBulk d + 1
  | (_, d) => uptoBulk d + 1
 end
def uptoSmall : (H : Type) → List (DataW H) → Bool := fun _ ds => decide (uptoBulkAll ds ≤ 1048576)
def OpenSpec.upto (s : _root_.Go.ChangeSpec) : _root_.Go.OpenSpec := { _root_.Go.OpenSpec.ofChange s with cond := some uptoSmall }

/-- 'stadholderlaw9.LifeKnown', WHERE WHAT IT READS IS OF BULK AT MOST 1048576: true; the input reads as it did. -/
def lifeKnownUptoRow : OpenClaim := { program := "ytjglfdinddkdjaadoor", sum := "e12d6deb44d26e5751a80232af7456a6e2244c1d8fe51d7dda9e14c14f3fbf64", func := "stadholder/stadholderlaw9.LifeKnown", spec := "lifeKnown", named := ["stadholder/life.follows", "stadholder/life.names"], apart := false, laid := [("stadholder/life.follows", laid_stadholder_life_follows), ("stadholder/life.names", laid_stadholder_life_names)], narrowed := true }
def LifeKnownUptoSaid : Prop := lifeKnownUptoRow.holds Tryd.pinned (OpenSpec.upto lifeKnownSpec)

/-- 'stadholderlaw9.LifeRows', WHERE WHAT IT READS IS OF BULK AT MOST 1048576: true; the input reads as it did. -/
def lifeRowsUptoRow : OpenClaim := { program := "ytjglfdinddkdjaadoor", sum := "e12d6deb44d26e5751a80232af7456a6e2244c1d8fe51d7dda9e14c14f3fbf64", func := "stadholder/stadholderlaw9.LifeRows", spec := "lifeRows", named := ["stadholder/life.follows", "stadholder/life.names"], apart := false, laid := [("stadholder/life.follows", laid_stadholder_life_follows), ("stadholder/life.names", laid_stadholder_life_names)], narrowed := true }
def LifeRowsUptoSaid : Prop := lifeRowsUptoRow.holds Tryd.pinned (OpenSpec.upto lifeRowsSpec)

/-- 'stadholderlaw9.LifeReach', WHERE WHAT IT READS IS OF BULK AT MOST 1048576: true; the input reads as it did. -/
def lifeReachUptoRow : OpenClaim := { program := "ytjglfdinddkdjaadoor", sum := "e12d6deb44d26e5751a80232af7456a6e2244c1d8fe51d7dda9e14c14f3fbf64", func := "stadholder/stadholderlaw9.LifeReach", spec := "lifeReach", named := ["stadholder/life.follows", "stadholder/life.names"], apart := false, laid := [("stadholder/life.follows", laid_stadholder_life_follows), ("stadholder/life.names", laid_stadholder_life_names)], narrowed := true }
def LifeReachUptoSaid : Prop := lifeReachUptoRow.holds Tryd.pinned (OpenSpec.upto lifeReachSpec)

end Rows
end Go.Proofs.YtjglfdinddkdjaaDoor
