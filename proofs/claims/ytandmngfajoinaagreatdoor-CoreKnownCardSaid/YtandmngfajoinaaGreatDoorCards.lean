/-
  DERIVED. GIVEN WITH THE SEED: THE CARDS: each row of YtandmngfajoinaaGreatDoorRows.lean that lists a variable, with what it lists TIED to the program's text (the seventh form; the later family's looks); each row that meets fmt, with fmt's text TOLD by the authors' own Lean function (tested against real Go, not proved from fmt's source: count such statements apart). THE CARD IS WHAT COUNTS. Prove the row's statement (the work); the ties are given (YtandmngfajoinaaGreatDoorTie.lean); close each card by the builder's one call (the guide's Derived/Test/ToyasCard.lean, 'card_holds'). Laid BY PROGRAM, IN A SANDBOX (cutbox-door.mjs). By AI agents, Wed Nov 11 2026. No macro, syntax, notation, axiom, sorry.
-/
import Derived.Test.YtandmngfajoinaaGreatDoorRows
import GoSem.ClaimSeven
namespace Go.Proofs.YtandmngfajoinaaGreatDoor
namespace Rows

/-- THE TIED CARD OF 'stadholderlaw15.CoreKnown'. -/
def coreKnownCard : Claim7 := { stood := { row := coreKnownRow, standIns := [], harness := (true, "6860c90c827a6a63214c9a9af25c8fd8cfb08de6fd436755a3dfd4d1a79e5415"), looks := false }, kinds := [], alts := [], laidByText := true, laidKinds := [.data, .data, .data], laidTests := true, laidLooks := .later }
def CoreKnownCardSaid : Prop := Claim7.holds Tryz.pinned (.plain (OpenSpec.ofChange coreKnownSpec)) coreKnownCard

/-- THE SECOND FORM's CARD OF 'stadholderlaw15.CoreKnown'. -/
def coreKnownUptoCard : Claim7 := { stood := { row := coreKnownUptoRow, standIns := [], harness := (true, "6860c90c827a6a63214c9a9af25c8fd8cfb08de6fd436755a3dfd4d1a79e5415"), looks := false }, kinds := [], alts := [], laidByText := true, laidKinds := [.data, .data, .data], laidTests := true, laidLooks := .later }
def CoreKnownUptoCardSaid : Prop := Claim7.holds Tryz.pinned (.plain (OpenSpec.upto coreKnownSpec)) coreKnownUptoCard
end Rows
end Go.Proofs.YtandmngfajoinaaGreatDoor
