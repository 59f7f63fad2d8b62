/-
  DERIVED. GIVEN WITH THE SEED: THE CARDS: each row of YtjglfdinddkdjaaDoorRows.lean that lists a variable, with what it lists TIED to the program's text (the seventh form; the later family's looks); each row that meets fmt, with fmt's text TOLD by the authors' own Lean function (tested against real Go, not proved from fmt's source: count such statements apart). THE CARD IS WHAT COUNTS. Prove the row's statement (the work); the ties are given (YtjglfdinddkdjaaDoorTie.lean); close each card by the builder's one call (the guide's Derived/Test/ToyasCard.lean, 'card_holds'). Laid BY PROGRAM, IN A SANDBOX (cutbox-door.mjs). By AI agents, Wed Nov 11 2026. No macro, syntax, notation, axiom, sorry.
-/
import Derived.Test.YtjglfdinddkdjaaDoorRows
import GoSem.ClaimSeven
namespace Go.Proofs.YtjglfdinddkdjaaDoor
namespace Rows

/-- THE TIED CARD OF 'stadholderlaw9.LifeKnown'. -/
def lifeKnownCard : Claim7 := { stood := { row := lifeKnownRow, standIns := [], harness := (true, "2acede7df8d789dde54ef6e884f2417e575cf5ee8f64d8f3cdba93770cecbe80"), looks := false }, kinds := [], alts := [], laidByText := true, laidKinds := [.data, .data], laidTests := true, laidLooks := .later }
def LifeKnownCardSaid : Prop := Claim7.holds Tryd.pinned (.plain (OpenSpec.ofChange lifeKnownSpec)) lifeKnownCard

/-- THE TIED CARD OF 'stadholderlaw9.LifeRows'. -/
def lifeRowsCard : Claim7 := { stood := { row := lifeRowsRow, standIns := [], harness := (true, "2acede7df8d789dde54ef6e884f2417e575cf5ee8f64d8f3cdba93770cecbe80"), looks := false }, kinds := [], alts := [], laidByText := true, laidKinds := [.data, .data], laidTests := true, laidLooks := .later }
def LifeRowsCardSaid : Prop := Claim7.holds Tryd.pinned (.plain (OpenSpec.ofChange lifeRowsSpec)) lifeRowsCard

/-- THE TIED CARD OF 'stadholderlaw9.LifeReach'. -/
def lifeReachCard : Claim7 := { stood := { row := lifeReachRow, standIns := [], harness := (true, "2acede7df8d789dde54ef6e884f2417e575cf5ee8f64d8f3cdba93770cecbe80"), looks := false }, kinds := [], alts := [], laidByText := true, laidKinds := [.data, .data], laidTests := true, laidLooks := .later }
def LifeReachCardSaid : Prop := Claim7.holds Tryd.pinned (.plain (OpenSpec.ofChange lifeReachSpec)) lifeReachCard

/-- THE SECOND FORM's CARD OF 'stadholderlaw9.LifeKnown'. -/
def lifeKnownUptoCard : Claim7 := { stood := { row := lifeKnownUptoRow, standIns := [], harness := (true, "2acede7df8d789dde54ef6e884f2417e575cf5ee8f64d8f3cdba93770cecbe80"), looks := false }, kinds := [], alts := [], laidByText := true, laidKinds := [.data, .data], laidTests := true, laidLooks := .later }
def LifeKnownUptoCardSaid : Prop := Claim7.holds Tryd.pinned (.plain (OpenSpec.upto lifeKnownSpec)) lifeKnownUptoCard

/-- THE SECOND FORM's CARD OF 'stadholderlaw9.LifeRows'. -/
def lifeRowsUptoCard : Claim7 := { stood := { row := lifeRowsUptoRow, standIns := [], harness := (true, "2acede7df8d789dde54ef6e884f2417e575cf5ee8f64d8f3cdba93770cecbe80"), looks := false }, kinds := [], alts := [], laidByText := true, laidKinds := [.data, .data], laidTests := true, laidLooks := .later }
def LifeRowsUptoCardSaid : Prop := Claim7.holds Tryd.pinned (.plain (OpenSpec.upto lifeRowsSpec)) lifeRowsUptoCard

/-- THE SECOND FORM's CARD OF 'stadholderlaw9.LifeReach'. -/
def lifeReachUptoCard : Claim7 := { stood := { row := lifeReachUptoRow, standIns := [], harness := (true, "2acede7df8d789dde54ef6e884f2417e575cf5ee8f64d8f3cdba93770cecbe80"), looks := false }, kinds := [], alts := [], laidByText := true, laidKinds := [.data, .data], laidTests := true, laidLooks := .later }
def LifeReachUptoCardSaid : Prop := Claim7.holds Tryd.pinned (.plain (OpenSpec.upto lifeReachSpec)) lifeReachUptoCard
end Rows
end Go.Proofs.YtjglfdinddkdjaaDoor
