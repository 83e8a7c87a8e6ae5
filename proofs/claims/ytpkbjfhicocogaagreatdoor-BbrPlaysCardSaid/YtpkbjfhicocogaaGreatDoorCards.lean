/-
  DERIVED. GIVEN WITH THE SEED: THE CARDS: each row of YtpkbjfhicocogaaGreatDoorRows.lean that lists a variable, with what it lists TIED to the program's text (the seventh form; the later family's looks); each row that meets fmt, with fmt's text TOLD by the authors' own Lean function (tested against real Go, not proved from fmt's source: count such statements apart). THE CARD IS WHAT COUNTS. Prove the row's statement (the work); the ties are given (YtpkbjfhicocogaaGreatDoorTie.lean); close each card by the builder's one call (the guide's Derived/Test/ToyasCard.lean, 'card_holds'). Laid BY PROGRAM, IN A SANDBOX (cutbox-door.mjs). By AI agents, Wed Nov 11 2026. No macro, syntax, notation, axiom, sorry.
-/
import Derived.Test.YtpkbjfhicocogaaGreatDoorRows
import GoSem.ClaimSeven
namespace Go.Proofs.YtpkbjfhicocogaaGreatDoor
namespace Rows

/-- THE TIED CARD OF 'goitlaw15.BbrPlays'. -/
def bbrPlaysCard : Claim7 := { stood := { row := bbrPlaysRow, standIns := [], harness := (true, "4cc9e4bd17d955866f66b739d00b2484c14bb2a5bcdeb805e42ab730978986e2"), looks := false }, kinds := [], alts := [], laidByText := true, laidKinds := [.data], laidTests := true, laidLooks := .later }
def BbrPlaysCardSaid : Prop := Claim7.holds Tryz.pinned (.plain (OpenSpec.ofChange bbrPlaysSpec)) bbrPlaysCard

/-- THE SECOND FORM's CARD OF 'goitlaw15.BbrPlays'. -/
def bbrPlaysUptoCard : Claim7 := { stood := { row := bbrPlaysUptoRow, standIns := [], harness := (true, "4cc9e4bd17d955866f66b739d00b2484c14bb2a5bcdeb805e42ab730978986e2"), looks := false }, kinds := [], alts := [], laidByText := true, laidKinds := [.data], laidTests := true, laidLooks := .later }
def BbrPlaysUptoCardSaid : Prop := Claim7.holds Tryz.pinned (.plain (OpenSpec.upto bbrPlaysSpec)) bbrPlaysUptoCard
end Rows
end Go.Proofs.YtpkbjfhicocogaaGreatDoor
