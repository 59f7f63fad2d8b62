/-
  DERIVED. GIVEN WITH THE SEED: THE CARDS: each row of YtnfcapeajhegmabGreatDoorRows.lean that lists a variable, with what it lists TIED to the program's text (the seventh form; the later family's looks); each row that meets fmt, with fmt's text TOLD by the authors' own Lean function (tested against real Go, not proved from fmt's source: count such statements apart). THE CARD IS WHAT COUNTS. Prove the row's statement (the work); the ties are given (YtnfcapeajhegmabGreatDoorTie.lean); close each card by the builder's one call (the guide's Derived/Test/ToyasCard.lean, 'card_holds'). Laid BY PROGRAM, IN A SANDBOX (cutbox-door.mjs). By AI agents, Wed Nov 11 2026. No macro, syntax, notation, axiom, sorry.
-/
import Derived.Test.YtnfcapeajhegmabGreatDoorRows
import GoSem.ClaimSeven
namespace Go.Proofs.YtnfcapeajhegmabGreatDoor
namespace Rows

/-- THE TIED CARD OF 'stadholderlaw13.DueKnown'. -/
def dueKnownCard : Claim7 := { stood := { row := dueKnownRow, standIns := [], harness := (true, "123f148456f48fa8d1c196791a528813d04ff85fd5018ece439d96ccc541bab5"), looks := false }, kinds := [], alts := [], laidByText := true, laidKinds := [.data, .data, .data], laidTests := true, laidLooks := .later }
def DueKnownCardSaid : Prop := Claim7.holds Tryz.pinned (.plain (OpenSpec.ofChange dueKnownSpec)) dueKnownCard

/-- THE SECOND FORM's CARD OF 'stadholderlaw13.DueKnown'. -/
def dueKnownUptoCard : Claim7 := { stood := { row := dueKnownUptoRow, standIns := [], harness := (true, "123f148456f48fa8d1c196791a528813d04ff85fd5018ece439d96ccc541bab5"), looks := false }, kinds := [], alts := [], laidByText := true, laidKinds := [.data, .data, .data], laidTests := true, laidLooks := .later }
def DueKnownUptoCardSaid : Prop := Claim7.holds Tryz.pinned (.plain (OpenSpec.upto dueKnownSpec)) dueKnownUptoCard
end Rows
end Go.Proofs.YtnfcapeajhegmabGreatDoor
