/-
  DERIVED. GIVEN WITH THE SEED: THE CARDS: each row of YteoepabmnbkabaaGreatDoorRows.lean that lists a variable, with what it lists TIED to the program's text (the seventh form; the later family's looks); each row that meets fmt, with fmt's text TOLD by the authors' own Lean function (tested against real Go, not proved from fmt's source: count such statements apart). THE CARD IS WHAT COUNTS. Prove the row's statement (the work); the ties are given (YteoepabmnbkabaaGreatDoorTie.lean); close each card by the builder's one call (the guide's Derived/Test/ToyasCard.lean, 'card_holds'). Laid BY PROGRAM, IN A SANDBOX (cutbox-door.mjs). By AI agents, Wed Nov 11 2026. No macro, syntax, notation, axiom, sorry.
-/
import Derived.Test.YteoepabmnbkabaaGreatDoorRows
import GoSem.ClaimSeven
namespace Go.Proofs.YteoepabmnbkabaaGreatDoor
namespace Rows

/-- THE TIED CARD OF 'goitlaw17.SenderPlays'. -/
def senderPlaysCard : Claim7 := { stood := { row := senderPlaysRow, standIns := [], harness := (true, "e6cae5a103346ac0c370edd84fa30b06c4ffa5e8f8130ebd0b7d9b222739cc94"), looks := false }, kinds := [], alts := [], laidByText := true, laidKinds := [.data], laidTests := true, laidLooks := .later }
def SenderPlaysCardSaid : Prop := Claim7.holds Tryz.pinned (.plain (OpenSpec.ofChange senderPlaysSpec)) senderPlaysCard

/-- THE TIED CARD OF 'goitlaw17.SenderAllowed'. -/
def senderAllowedCard : Claim7 := { stood := { row := senderAllowedRow, standIns := [], harness := (true, "e6cae5a103346ac0c370edd84fa30b06c4ffa5e8f8130ebd0b7d9b222739cc94"), looks := false }, kinds := [], alts := [], laidByText := true, laidKinds := [.data], laidTests := true, laidLooks := .later }
def SenderAllowedCardSaid : Prop := Claim7.holds Tryz.pinned (.plain (OpenSpec.ofChange senderAllowedSpec)) senderAllowedCard

/-- THE TIED CARD OF 'goitlaw17.SenderStuck'. -/
def senderStuckCard : Claim7 := { stood := { row := senderStuckRow, standIns := [], harness := (true, "e6cae5a103346ac0c370edd84fa30b06c4ffa5e8f8130ebd0b7d9b222739cc94"), looks := false }, kinds := [], alts := [], laidByText := true, laidKinds := [.data], laidTests := true, laidLooks := .later }
def SenderStuckCardSaid : Prop := Claim7.holds Tryz.pinned (.plain (OpenSpec.ofChange senderStuckSpec)) senderStuckCard

/-- THE TIED CARD OF 'goitlaw17.SenderKept'. -/
def senderKeptCard : Claim7 := { stood := { row := senderKeptRow, standIns := [], harness := (true, "e6cae5a103346ac0c370edd84fa30b06c4ffa5e8f8130ebd0b7d9b222739cc94"), looks := false }, kinds := [], alts := [], laidByText := true, laidKinds := [.data], laidTests := true, laidLooks := .later }
def SenderKeptCardSaid : Prop := Claim7.holds Tryz.pinned (.plain (OpenSpec.ofChange senderKeptSpec)) senderKeptCard

/-- THE SECOND FORM's CARD OF 'goitlaw17.SenderPlays'. -/
def senderPlaysUptoCard : Claim7 := { stood := { row := senderPlaysUptoRow, standIns := [], harness := (true, "e6cae5a103346ac0c370edd84fa30b06c4ffa5e8f8130ebd0b7d9b222739cc94"), looks := false }, kinds := [], alts := [], laidByText := true, laidKinds := [.data], laidTests := true, laidLooks := .later }
def SenderPlaysUptoCardSaid : Prop := Claim7.holds Tryz.pinned (.plain (OpenSpec.upto senderPlaysSpec)) senderPlaysUptoCard

/-- THE SECOND FORM's CARD OF 'goitlaw17.SenderAllowed'. -/
def senderAllowedUptoCard : Claim7 := { stood := { row := senderAllowedUptoRow, standIns := [], harness := (true, "e6cae5a103346ac0c370edd84fa30b06c4ffa5e8f8130ebd0b7d9b222739cc94"), looks := false }, kinds := [], alts := [], laidByText := true, laidKinds := [.data], laidTests := true, laidLooks := .later }
def SenderAllowedUptoCardSaid : Prop := Claim7.holds Tryz.pinned (.plain (OpenSpec.upto senderAllowedSpec)) senderAllowedUptoCard

/-- THE SECOND FORM's CARD OF 'goitlaw17.SenderStuck'. -/
def senderStuckUptoCard : Claim7 := { stood := { row := senderStuckUptoRow, standIns := [], harness := (true, "e6cae5a103346ac0c370edd84fa30b06c4ffa5e8f8130ebd0b7d9b222739cc94"), looks := false }, kinds := [], alts := [], laidByText := true, laidKinds := [.data], laidTests := true, laidLooks := .later }
def SenderStuckUptoCardSaid : Prop := Claim7.holds Tryz.pinned (.plain (OpenSpec.upto senderStuckSpec)) senderStuckUptoCard

/-- THE SECOND FORM's CARD OF 'goitlaw17.SenderKept'. -/
def senderKeptUptoCard : Claim7 := { stood := { row := senderKeptUptoRow, standIns := [], harness := (true, "e6cae5a103346ac0c370edd84fa30b06c4ffa5e8f8130ebd0b7d9b222739cc94"), looks := false }, kinds := [], alts := [], laidByText := true, laidKinds := [.data], laidTests := true, laidLooks := .later }
def SenderKeptUptoCardSaid : Prop := Claim7.holds Tryz.pinned (.plain (OpenSpec.upto senderKeptSpec)) senderKeptUptoCard
end Rows
end Go.Proofs.YteoepabmnbkabaaGreatDoor
