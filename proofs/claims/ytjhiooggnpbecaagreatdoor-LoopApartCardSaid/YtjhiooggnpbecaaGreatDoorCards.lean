/-
  DERIVED. GIVEN WITH THE SEED: THE CARDS: each row of YtjhiooggnpbecaaGreatDoorRows.lean that lists a variable, with what it lists TIED to the program's text (the seventh form; the later family's looks); each row that meets fmt, with fmt's text TOLD by the authors' own Lean function (tested against real Go, not proved from fmt's source: count such statements apart). THE CARD IS WHAT COUNTS. Prove the row's statement (the work); the ties are given (YtjhiooggnpbecaaGreatDoorTie.lean); close each card by the builder's one call (the guide's Derived/Test/ToyasCard.lean, 'card_holds'). Laid BY PROGRAM, IN A SANDBOX (cutbox-door.mjs). By AI agents, Wed Nov 11 2026. No macro, syntax, notation, axiom, sorry.
-/
import Derived.Test.YtjhiooggnpbecaaGreatDoorRows
import GoSem.ClaimSeven
namespace Go.Proofs.YtjhiooggnpbecaaGreatDoor
namespace Rows

/-- THE TIED CARD OF 'goitlaw23.LoopAccounts'. -/
def loopAccountsCard : Claim7 := { stood := { row := loopAccountsRow, standIns := [], harness := (true, "0901ab2b10b9751000f099612bf5a4e0ce6532a40914b30396afa75ee6bc2ff7"), looks := false }, kinds := [], alts := [], laidByText := true, laidKinds := [.data], laidTests := true, laidLooks := .later }
def LoopAccountsCardSaid : Prop := Claim7.holds Tryz.pinned (.plain (OpenSpec.ofChange loopAccountsSpec)) loopAccountsCard

/-- THE TIED CARD OF 'goitlaw23.LoopApart'. -/
def loopApartCard : Claim7 := { stood := { row := loopApartRow, standIns := [], harness := (true, "0901ab2b10b9751000f099612bf5a4e0ce6532a40914b30396afa75ee6bc2ff7"), looks := false }, kinds := [], alts := [], laidByText := true, laidKinds := [.data], laidTests := true, laidLooks := .later }
def LoopApartCardSaid : Prop := Claim7.holds Tryz.pinned (.plain (OpenSpec.ofChange loopApartSpec)) loopApartCard

/-- THE TIED CARD OF 'goitlaw23.LoopQuiet'. -/
def loopQuietCard : Claim7 := { stood := { row := loopQuietRow, standIns := [], harness := (true, "0901ab2b10b9751000f099612bf5a4e0ce6532a40914b30396afa75ee6bc2ff7"), looks := false }, kinds := [], alts := [], laidByText := true, laidKinds := [.data], laidTests := true, laidLooks := .later }
def LoopQuietCardSaid : Prop := Claim7.holds Tryz.pinned (.plain (OpenSpec.ofChange loopQuietSpec)) loopQuietCard

/-- THE TIED CARD OF 'goittop.TopPaced'. -/
def topPacedCard : Claim7 := { stood := { row := topPacedRow, standIns := [], harness := (true, "0901ab2b10b9751000f099612bf5a4e0ce6532a40914b30396afa75ee6bc2ff7"), looks := false }, kinds := [], alts := [], laidByText := true, laidKinds := [.data], laidTests := true, laidLooks := .later }
def TopPacedCardSaid : Prop := Claim7.holds Tryz.pinned (.plain (OpenSpec.ofChange topPacedSpec)) topPacedCard

/-- THE TIED CARD OF 'goittop.TopDelay'. -/
def topDelayCard : Claim7 := { stood := { row := topDelayRow, standIns := [], harness := (true, "0901ab2b10b9751000f099612bf5a4e0ce6532a40914b30396afa75ee6bc2ff7"), looks := false }, kinds := [], alts := [], laidByText := true, laidKinds := [.data], laidTests := true, laidLooks := .later }
def TopDelayCardSaid : Prop := Claim7.holds Tryz.pinned (.plain (OpenSpec.ofChange topDelaySpec)) topDelayCard

/-- THE SECOND FORM's CARD OF 'goitlaw23.LoopAccounts'. -/
def loopAccountsUptoCard : Claim7 := { stood := { row := loopAccountsUptoRow, standIns := [], harness := (true, "0901ab2b10b9751000f099612bf5a4e0ce6532a40914b30396afa75ee6bc2ff7"), looks := false }, kinds := [], alts := [], laidByText := true, laidKinds := [.data], laidTests := true, laidLooks := .later }
def LoopAccountsUptoCardSaid : Prop := Claim7.holds Tryz.pinned (.plain (OpenSpec.upto loopAccountsSpec)) loopAccountsUptoCard

/-- THE SECOND FORM's CARD OF 'goitlaw23.LoopApart'. -/
def loopApartUptoCard : Claim7 := { stood := { row := loopApartUptoRow, standIns := [], harness := (true, "0901ab2b10b9751000f099612bf5a4e0ce6532a40914b30396afa75ee6bc2ff7"), looks := false }, kinds := [], alts := [], laidByText := true, laidKinds := [.data], laidTests := true, laidLooks := .later }
def LoopApartUptoCardSaid : Prop := Claim7.holds Tryz.pinned (.plain (OpenSpec.upto loopApartSpec)) loopApartUptoCard

/-- THE SECOND FORM's CARD OF 'goitlaw23.LoopQuiet'. -/
def loopQuietUptoCard : Claim7 := { stood := { row := loopQuietUptoRow, standIns := [], harness := (true, "0901ab2b10b9751000f099612bf5a4e0ce6532a40914b30396afa75ee6bc2ff7"), looks := false }, kinds := [], alts := [], laidByText := true, laidKinds := [.data], laidTests := true, laidLooks := .later }
def LoopQuietUptoCardSaid : Prop := Claim7.holds Tryz.pinned (.plain (OpenSpec.upto loopQuietSpec)) loopQuietUptoCard

/-- THE SECOND FORM's CARD OF 'goittop.TopPaced'. -/
def topPacedUptoCard : Claim7 := { stood := { row := topPacedUptoRow, standIns := [], harness := (true, "0901ab2b10b9751000f099612bf5a4e0ce6532a40914b30396afa75ee6bc2ff7"), looks := false }, kinds := [], alts := [], laidByText := true, laidKinds := [.data], laidTests := true, laidLooks := .later }
def TopPacedUptoCardSaid : Prop := Claim7.holds Tryz.pinned (.plain (OpenSpec.upto topPacedSpec)) topPacedUptoCard

/-- THE SECOND FORM's CARD OF 'goittop.TopDelay'. -/
def topDelayUptoCard : Claim7 := { stood := { row := topDelayUptoRow, standIns := [], harness := (true, "0901ab2b10b9751000f099612bf5a4e0ce6532a40914b30396afa75ee6bc2ff7"), looks := false }, kinds := [], alts := [], laidByText := true, laidKinds := [.data], laidTests := true, laidLooks := .later }
def TopDelayUptoCardSaid : Prop := Claim7.holds Tryz.pinned (.plain (OpenSpec.upto topDelaySpec)) topDelayUptoCard
end Rows
end Go.Proofs.YtjhiooggnpbecaaGreatDoor
