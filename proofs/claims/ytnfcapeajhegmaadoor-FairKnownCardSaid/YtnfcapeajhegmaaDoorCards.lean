/-
  DERIVED. GIVEN WITH THE SEED: THE CARDS: each row of YtnfcapeajhegmaaDoorRows.lean that lists a variable, with what it lists TIED to the program's text (the seventh form; the later family's looks); each row that meets fmt, with fmt's text TOLD by the authors' own Lean function (tested against real Go, not proved from fmt's source: count such statements apart). THE CARD IS WHAT COUNTS. Prove the row's statement (the work); the ties are given (YtnfcapeajhegmaaDoorTie.lean); close each card by the builder's one call (the guide's Derived/Test/ToyasCard.lean, 'card_holds'). Laid BY PROGRAM, IN A SANDBOX (cutbox-door.mjs). By AI agents, Wed Nov 11 2026. No macro, syntax, notation, axiom, sorry.
-/
import Derived.Test.YtnfcapeajhegmaaDoorRows
import GoSem.ClaimSeven
namespace Go.Proofs.YtnfcapeajhegmaaDoor
namespace Rows

/-- THE TIED CARD OF 'stadholderlaw12.FairKnown'. -/
def fairKnownCard : Claim7 := { stood := { row := fairKnownRow, standIns := [], harness := (true, "c498b0b9f604a341f824e4b7ff4670ba7203065aca9de8131d19f6573b352163"), looks := false }, kinds := [], alts := [], laidByText := true, laidKinds := [.data, .data, .data], laidTests := true, laidLooks := .later }
def FairKnownCardSaid : Prop := Claim7.holds Tryd.pinned (.plain (OpenSpec.ofChange fairKnownSpec)) fairKnownCard

/-- THE SECOND FORM's CARD OF 'stadholderlaw12.FairKnown'. -/
def fairKnownUptoCard : Claim7 := { stood := { row := fairKnownUptoRow, standIns := [], harness := (true, "c498b0b9f604a341f824e4b7ff4670ba7203065aca9de8131d19f6573b352163"), looks := false }, kinds := [], alts := [], laidByText := true, laidKinds := [.data, .data, .data], laidTests := true, laidLooks := .later }
def FairKnownUptoCardSaid : Prop := Claim7.holds Tryd.pinned (.plain (OpenSpec.upto fairKnownSpec)) fairKnownUptoCard
end Rows
end Go.Proofs.YtnfcapeajhegmaaDoor
