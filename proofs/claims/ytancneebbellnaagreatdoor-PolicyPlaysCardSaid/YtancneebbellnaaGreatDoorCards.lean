/-
  DERIVED. GIVEN WITH THE SEED: THE CARDS: each row of YtancneebbellnaaGreatDoorRows.lean that lists a variable, with what it lists TIED to the program's text (the seventh form; the later family's looks); each row that meets fmt, with fmt's text TOLD by the authors' own Lean function (tested against real Go, not proved from fmt's source: count such statements apart). THE CARD IS WHAT COUNTS. Prove the row's statement (the work); the ties are given (YtancneebbellnaaGreatDoorTie.lean); close each card by the builder's one call (the guide's Derived/Test/ToyasCard.lean, 'card_holds'). Laid BY PROGRAM, IN A SANDBOX (cutbox-door.mjs). By AI agents, Wed Nov 11 2026. No macro, syntax, notation, axiom, sorry.
-/
import Derived.Test.YtancneebbellnaaGreatDoorRows
import GoSem.ClaimSeven
namespace Go.Proofs.YtancneebbellnaaGreatDoor
namespace Rows

/-- THE TIED CARD OF 'stadholderlaw14.PolicyKnown'. -/
def policyKnownCard : Claim7 := { stood := { row := policyKnownRow, standIns := [], harness := (true, "72219c68746a55f836d7fd86fd071c13beceb50383e2076792080888629fc777"), looks := false }, kinds := [], alts := [], laidByText := true, laidKinds := [.data], laidTests := true, laidLooks := .later }
def PolicyKnownCardSaid : Prop := Claim7.holds Tryz.pinned (.plain (OpenSpec.ofChange policyKnownSpec)) policyKnownCard

/-- THE TIED CARD OF 'stadholderlaw14.PolicyPlays'. -/
def policyPlaysCard : Claim7 := { stood := { row := policyPlaysRow, standIns := [], harness := (true, "72219c68746a55f836d7fd86fd071c13beceb50383e2076792080888629fc777"), looks := false }, kinds := [], alts := [], laidByText := true, laidKinds := [.data], laidTests := true, laidLooks := .later }
def PolicyPlaysCardSaid : Prop := Claim7.holds Tryz.pinned (.plain (OpenSpec.ofChange policyPlaysSpec)) policyPlaysCard

/-- THE TIED CARD OF 'stadholderlaw14.PolicyTurns'. -/
def policyTurnsCard : Claim7 := { stood := { row := policyTurnsRow, standIns := [], harness := (true, "72219c68746a55f836d7fd86fd071c13beceb50383e2076792080888629fc777"), looks := false }, kinds := [], alts := [], laidByText := true, laidKinds := [.data], laidTests := true, laidLooks := .later }
def PolicyTurnsCardSaid : Prop := Claim7.holds Tryz.pinned (.plain (OpenSpec.ofChange policyTurnsSpec)) policyTurnsCard

/-- THE TIED CARD OF 'stadholderlaw14.PolicyHeld'. -/
def policyHeldCard : Claim7 := { stood := { row := policyHeldRow, standIns := [], harness := (true, "72219c68746a55f836d7fd86fd071c13beceb50383e2076792080888629fc777"), looks := false }, kinds := [], alts := [], laidByText := true, laidKinds := [.data], laidTests := true, laidLooks := .later }
def PolicyHeldCardSaid : Prop := Claim7.holds Tryz.pinned (.plain (OpenSpec.ofChange policyHeldSpec)) policyHeldCard

/-- THE TIED CARD OF 'stadholderlaw14.PolicyLeaves'. -/
def policyLeavesCard : Claim7 := { stood := { row := policyLeavesRow, standIns := [], harness := (true, "72219c68746a55f836d7fd86fd071c13beceb50383e2076792080888629fc777"), looks := false }, kinds := [], alts := [], laidByText := true, laidKinds := [.data], laidTests := true, laidLooks := .later }
def PolicyLeavesCardSaid : Prop := Claim7.holds Tryz.pinned (.plain (OpenSpec.ofChange policyLeavesSpec)) policyLeavesCard

/-- THE SECOND FORM's CARD OF 'stadholderlaw14.PolicyKnown'. -/
def policyKnownUptoCard : Claim7 := { stood := { row := policyKnownUptoRow, standIns := [], harness := (true, "72219c68746a55f836d7fd86fd071c13beceb50383e2076792080888629fc777"), looks := false }, kinds := [], alts := [], laidByText := true, laidKinds := [.data], laidTests := true, laidLooks := .later }
def PolicyKnownUptoCardSaid : Prop := Claim7.holds Tryz.pinned (.plain (OpenSpec.upto policyKnownSpec)) policyKnownUptoCard

/-- THE SECOND FORM's CARD OF 'stadholderlaw14.PolicyPlays'. -/
def policyPlaysUptoCard : Claim7 := { stood := { row := policyPlaysUptoRow, standIns := [], harness := (true, "72219c68746a55f836d7fd86fd071c13beceb50383e2076792080888629fc777"), looks := false }, kinds := [], alts := [], laidByText := true, laidKinds := [.data], laidTests := true, laidLooks := .later }
def PolicyPlaysUptoCardSaid : Prop := Claim7.holds Tryz.pinned (.plain (OpenSpec.upto policyPlaysSpec)) policyPlaysUptoCard

/-- THE SECOND FORM's CARD OF 'stadholderlaw14.PolicyTurns'. -/
def policyTurnsUptoCard : Claim7 := { stood := { row := policyTurnsUptoRow, standIns := [], harness := (true, "72219c68746a55f836d7fd86fd071c13beceb50383e2076792080888629fc777"), looks := false }, kinds := [], alts := [], laidByText := true, laidKinds := [.data], laidTests := true, laidLooks := .later }
def PolicyTurnsUptoCardSaid : Prop := Claim7.holds Tryz.pinned (.plain (OpenSpec.upto policyTurnsSpec)) policyTurnsUptoCard

/-- THE SECOND FORM's CARD OF 'stadholderlaw14.PolicyHeld'. -/
def policyHeldUptoCard : Claim7 := { stood := { row := policyHeldUptoRow, standIns := [], harness := (true, "72219c68746a55f836d7fd86fd071c13beceb50383e2076792080888629fc777"), looks := false }, kinds := [], alts := [], laidByText := true, laidKinds := [.data], laidTests := true, laidLooks := .later }
def PolicyHeldUptoCardSaid : Prop := Claim7.holds Tryz.pinned (.plain (OpenSpec.upto policyHeldSpec)) policyHeldUptoCard

/-- THE SECOND FORM's CARD OF 'stadholderlaw14.PolicyLeaves'. -/
def policyLeavesUptoCard : Claim7 := { stood := { row := policyLeavesUptoRow, standIns := [], harness := (true, "72219c68746a55f836d7fd86fd071c13beceb50383e2076792080888629fc777"), looks := false }, kinds := [], alts := [], laidByText := true, laidKinds := [.data], laidTests := true, laidLooks := .later }
def PolicyLeavesUptoCardSaid : Prop := Claim7.holds Tryz.pinned (.plain (OpenSpec.upto policyLeavesSpec)) policyLeavesUptoCard
end Rows
end Go.Proofs.YtancneebbellnaaGreatDoor
