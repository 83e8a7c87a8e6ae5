/-
  DERIVED. GIVEN WITH THE SEED: THE CARDS: each row of YtpkbjfhicocogaaDoorRows.lean that lists a variable, with what it lists TIED to the program's text (the seventh form; the later family's looks); each row that meets fmt, with fmt's text TOLD by the authors' own Lean function (tested against real Go, not proved from fmt's source: count such statements apart). THE CARD IS WHAT COUNTS. Prove the row's statement (the work); the ties are given (YtpkbjfhicocogaaDoorTie.lean); close each card by the builder's one call (the guide's Derived/Test/ToyasCard.lean, 'card_holds'). Laid BY PROGRAM, IN A SANDBOX (cutbox-door.mjs). By AI agents, Wed Nov 11 2026. No macro, syntax, notation, axiom, sorry.
-/
import Derived.Test.YtpkbjfhicocogaaDoorRows
import GoSem.ClaimSeven
namespace Go.Proofs.YtpkbjfhicocogaaDoor
namespace Rows

/-- THE TIED CARD OF 'goitlaw15.BbrStuck'. -/
def bbrStuckCard : Claim7 := { stood := { row := bbrStuckRow, standIns := [], harness := (true, "422def767de16cbcc345ce66c7e0bf9755885c91ad86c717f1485f342d9050a8"), looks := false }, kinds := [], alts := [], laidByText := true, laidKinds := [.data], laidTests := true, laidLooks := .later }
def BbrStuckCardSaid : Prop := Claim7.holds Tryd.pinned (.plain (OpenSpec.ofChange bbrStuckSpec)) bbrStuckCard

/-- THE TIED CARD OF 'goitlaw15.BbrGrows'. -/
def bbrGrowsCard : Claim7 := { stood := { row := bbrGrowsRow, standIns := [], harness := (true, "422def767de16cbcc345ce66c7e0bf9755885c91ad86c717f1485f342d9050a8"), looks := false }, kinds := [], alts := [], laidByText := true, laidKinds := [.data], laidTests := true, laidLooks := .later }
def BbrGrowsCardSaid : Prop := Claim7.holds Tryd.pinned (.plain (OpenSpec.ofChange bbrGrowsSpec)) bbrGrowsCard

/-- THE SECOND FORM's CARD OF 'goitlaw15.BbrStuck'. -/
def bbrStuckUptoCard : Claim7 := { stood := { row := bbrStuckUptoRow, standIns := [], harness := (true, "422def767de16cbcc345ce66c7e0bf9755885c91ad86c717f1485f342d9050a8"), looks := false }, kinds := [], alts := [], laidByText := true, laidKinds := [.data], laidTests := true, laidLooks := .later }
def BbrStuckUptoCardSaid : Prop := Claim7.holds Tryd.pinned (.plain (OpenSpec.upto bbrStuckSpec)) bbrStuckUptoCard

/-- THE SECOND FORM's CARD OF 'goitlaw15.BbrGrows'. -/
def bbrGrowsUptoCard : Claim7 := { stood := { row := bbrGrowsUptoRow, standIns := [], harness := (true, "422def767de16cbcc345ce66c7e0bf9755885c91ad86c717f1485f342d9050a8"), looks := false }, kinds := [], alts := [], laidByText := true, laidKinds := [.data], laidTests := true, laidLooks := .later }
def BbrGrowsUptoCardSaid : Prop := Claim7.holds Tryd.pinned (.plain (OpenSpec.upto bbrGrowsSpec)) bbrGrowsUptoCard
end Rows
end Go.Proofs.YtpkbjfhicocogaaDoor
