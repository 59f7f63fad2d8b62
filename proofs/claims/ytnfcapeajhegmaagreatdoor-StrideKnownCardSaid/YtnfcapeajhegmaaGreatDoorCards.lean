/-
  DERIVED. GIVEN WITH THE SEED: THE CARDS: each row of YtnfcapeajhegmaaGreatDoorRows.lean that lists a variable, with what it lists TIED to the program's text (the seventh form; the later family's looks); each row that meets fmt, with fmt's text TOLD by the authors' own Lean function (tested against real Go, not proved from fmt's source: count such statements apart). THE CARD IS WHAT COUNTS. Prove the row's statement (the work); the ties are given (YtnfcapeajhegmaaGreatDoorTie.lean); close each card by the builder's one call (the guide's Derived/Test/ToyasCard.lean, 'card_holds'). Laid BY PROGRAM, IN A SANDBOX (cutbox-door.mjs). By AI agents, Wed Nov 11 2026. No macro, syntax, notation, axiom, sorry.
-/
import Derived.Test.YtnfcapeajhegmaaGreatDoorRows
import GoSem.ClaimSeven
namespace Go.Proofs.YtnfcapeajhegmaaGreatDoor
namespace Rows

/-- THE TIED CARD OF 'stadholderlaw11.StrideKnown'. -/
def strideKnownCard : Claim7 := { stood := { row := strideKnownRow, standIns := [], harness := (true, "9ffb26baa8149705177394347d086766bac9e31c56fa5a9cefff5fe87eb30939"), looks := false }, kinds := [], alts := [], laidByText := true, laidKinds := [.data, .data, .data], laidTests := true, laidLooks := .later }
def StrideKnownCardSaid : Prop := Claim7.holds Tryz.pinned (.plain (OpenSpec.ofChange strideKnownSpec)) strideKnownCard

/-- THE SECOND FORM's CARD OF 'stadholderlaw11.StrideKnown'. -/
def strideKnownUptoCard : Claim7 := { stood := { row := strideKnownUptoRow, standIns := [], harness := (true, "9ffb26baa8149705177394347d086766bac9e31c56fa5a9cefff5fe87eb30939"), looks := false }, kinds := [], alts := [], laidByText := true, laidKinds := [.data, .data, .data], laidTests := true, laidLooks := .later }
def StrideKnownUptoCardSaid : Prop := Claim7.holds Tryz.pinned (.plain (OpenSpec.upto strideKnownSpec)) strideKnownUptoCard
end Rows
end Go.Proofs.YtnfcapeajhegmaaGreatDoor
