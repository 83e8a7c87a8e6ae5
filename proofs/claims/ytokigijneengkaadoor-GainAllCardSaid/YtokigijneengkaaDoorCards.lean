/-
  DERIVED. GIVEN WITH THE SEED: THE CARDS: each row of YtokigijneengkaaDoorRows.lean that lists a variable, with what it lists TIED to the program's text (the seventh form; the later family's looks); each row that meets fmt, with fmt's text TOLD by the authors' own Lean function (tested against real Go, not proved from fmt's source: count such statements apart). THE CARD IS WHAT COUNTS. Prove the row's statement (the work); the ties are given (YtokigijneengkaaDoorTie.lean); close each card by the builder's one call (the guide's Derived/Test/ToyasCard.lean, 'card_holds'). Laid BY PROGRAM, IN A SANDBOX (cutbox-door.mjs). By AI agents, Wed Nov 11 2026. No macro, syntax, notation, axiom, sorry.
-/
import Derived.Test.YtokigijneengkaaDoorRows
import GoSem.ClaimSeven
namespace Go.Proofs.YtokigijneengkaaDoor
namespace Rows

/-- THE TIED CARD OF 'goitlaw12.GainTells'. -/
def gainTellsCard : Claim7 := { stood := { row := gainTellsRow, standIns := [], harness := (true, "65e96061ded75254ae37dc17589f9031fc162ce590507fe5dba4b3e305eec21a"), looks := false }, kinds := [], alts := [], laidByText := true, laidKinds := [.data], laidTests := true, laidLooks := .later }
def GainTellsCardSaid : Prop := Claim7.holds Tryd.pinned (.plain (OpenSpec.ofChange gainTellsSpec)) gainTellsCard

/-- THE TIED CARD OF 'goitlaw12.GainNames'. -/
def gainNamesCard : Claim7 := { stood := { row := gainNamesRow, standIns := [], harness := (true, "65e96061ded75254ae37dc17589f9031fc162ce590507fe5dba4b3e305eec21a"), looks := false }, kinds := [], alts := [], laidByText := true, laidKinds := [.data], laidTests := true, laidLooks := .later }
def GainNamesCardSaid : Prop := Claim7.holds Tryd.pinned (.plain (OpenSpec.ofChange gainNamesSpec)) gainNamesCard

/-- THE TIED CARD OF 'goitlaw12.GainAll'. -/
def gainAllCard : Claim7 := { stood := { row := gainAllRow, standIns := [], harness := (true, "65e96061ded75254ae37dc17589f9031fc162ce590507fe5dba4b3e305eec21a"), looks := false }, kinds := [], alts := [], laidByText := true, laidKinds := [.data], laidTests := true, laidLooks := .later }
def GainAllCardSaid : Prop := Claim7.holds Tryd.pinned (.plain (OpenSpec.ofChange gainAllSpec)) gainAllCard

/-- THE SECOND FORM's CARD OF 'goitlaw12.GainTells'. -/
def gainTellsUptoCard : Claim7 := { stood := { row := gainTellsUptoRow, standIns := [], harness := (true, "65e96061ded75254ae37dc17589f9031fc162ce590507fe5dba4b3e305eec21a"), looks := false }, kinds := [], alts := [], laidByText := true, laidKinds := [.data], laidTests := true, laidLooks := .later }
def GainTellsUptoCardSaid : Prop := Claim7.holds Tryd.pinned (.plain (OpenSpec.upto gainTellsSpec)) gainTellsUptoCard

/-- THE SECOND FORM's CARD OF 'goitlaw12.GainNames'. -/
def gainNamesUptoCard : Claim7 := { stood := { row := gainNamesUptoRow, standIns := [], harness := (true, "65e96061ded75254ae37dc17589f9031fc162ce590507fe5dba4b3e305eec21a"), looks := false }, kinds := [], alts := [], laidByText := true, laidKinds := [.data], laidTests := true, laidLooks := .later }
def GainNamesUptoCardSaid : Prop := Claim7.holds Tryd.pinned (.plain (OpenSpec.upto gainNamesSpec)) gainNamesUptoCard

/-- THE SECOND FORM's CARD OF 'goitlaw12.GainAll'. -/
def gainAllUptoCard : Claim7 := { stood := { row := gainAllUptoRow, standIns := [], harness := (true, "65e96061ded75254ae37dc17589f9031fc162ce590507fe5dba4b3e305eec21a"), looks := false }, kinds := [], alts := [], laidByText := true, laidKinds := [.data], laidTests := true, laidLooks := .later }
def GainAllUptoCardSaid : Prop := Claim7.holds Tryd.pinned (.plain (OpenSpec.upto gainAllSpec)) gainAllUptoCard
end Rows
end Go.Proofs.YtokigijneengkaaDoor
