/-
  NARROWER THAN 'FOR EVERY INPUT', by the rows' own cells (each row's printed sentence says how): LoopAccounts: laid · LoopApart: laid · LoopQuiet: laid · TopPaced: laid · TopDelay: laid.
  DERIVED. THE GIVEN ROWS OF THIS SEAT. 5 by the template 'for every input the law returns true; each argument reads behind the call as it read before'; 0 by the template 'total and deterministic' (their statements: YtjhiooggnpbecaaGreatDoorTotals.lean).
  GIVEN WITH THE SEED: the statements are not yours to turn. If you find one false, say at which input.
  Laid BY PROGRAM, IN A SANDBOX (cutbox-rows.mjs): the forced cells as the released guide's own fill.sh prints them over the translation e7d89b989ebb20cd… (all of the seat's roots in one cut). By AI agents, Wed Nov 11 2026. No macro, syntax, notation, axiom, sorry.
-/
import Derived.Test.YtjhiooggnpbecaaGreatDoorChecked
import GoSem.Claim
import GoSem.ClaimJoined
import GoSem.ClaimMapViews
import Derived.JoinedTies
import Derived.KernelRfl
namespace Go.Proofs.YtjhiooggnpbecaaGreatDoor
/- THE CELL 'sum', in the pinned program and in every row, IS THE sha256 OF THE DUMP (.gsa) THAT YtjhiooggnpbecaaGreatDoorProg.lean LOADS. Nothing in Lean hashes anything: it is a label: what it is worth is what the hold of that sum in a sandbox is worth. -/
noncomputable def Tryz.pinned : Pinned := { name := "ytjhiooggnpbecaagreatdoor", sum := "e7d89b989ebb20cd53dd7822be95cfd7918930b8be2116ebab318205a8fa4351", checked := Tryz.checked }
namespace Rows
def none {H : Type} : Left H := { results := [], args := [] }

/- WHAT THE LISTED PACKAGE-LEVEL VARIABLES READ AS WHEN THE CALL BEGINS. Each datum BY PROGRAM (the guide's laid-datum.mjs) off the statement by which the dump's own 'gosem.cut.vars' lays the variable. In a bare row this is a premise. The card (YtjhiooggnpbecaaGreatDoorCards.lean) ties it to the program's text. -/
def laid_goit_gain_table {H : Type} : DataW H := .agg [.agg [.lit (.int .u64 277), .lit (.int .u64 200)], .agg [.lit (.int .u64 36), .lit (.int .u64 200)], .agg [.lit (.int .u64 75), .lit (.int .u64 200)], .agg [.lit (.int .u64 100), .lit (.int .u64 200)], .agg [.lit (.int .u64 100), .lit (.int .u64 200)], .agg [.lit (.int .u64 125), .lit (.int .u64 225)], .agg [.lit (.int .u64 100), .lit (.int .u64 50)]]

/-- 'goitlaw23.LoopAccounts': WHATEVER THE INPUT: true; the input reads as it did. -/
def loopAccountsSpec : ChangeSpec := { name := "loopAccounts", fn := fun _ => fun
  | [d1, d2, d3] => { results := [.lit (.bool true)], args := [d1, d2, d3] }
  | _ => none }
def loopAccountsRow : OpenClaim := { program := "ytjhiooggnpbecaagreatdoor", sum := "e7d89b989ebb20cd53dd7822be95cfd7918930b8be2116ebab318205a8fa4351", func := "goit/goitlaw23.LoopAccounts", spec := "loopAccounts", inPlace := ["math/bits.Add64", "math/bits.Sub64", "slices.overlaps[[]goit/api.Range]"], unfollowed := true, recurses := true, named := ["math/bits.divideError", "math/bits.overflowError", "goit/gain.table"], apart := false, laid := [("goit/gain.table", laid_goit_gain_table)] }
def LoopAccountsSaid : Prop := loopAccountsRow.holds Tryz.pinned (OpenSpec.ofChange loopAccountsSpec)

/-- ITS FALSE NEIGHBOUR: 'it returns false'. Refute it at one input. -/
def loopAccountsWrong : ChangeSpec := { name := "loopAccounts", fn := fun _ => fun
  | [d1, d2, d3] => { results := [.lit (.bool false)], args := [d1, d2, d3] }
  | _ => none }
def LoopAccountsWrongFalsely : Prop := loopAccountsRow.holds Tryz.pinned (OpenSpec.ofChange loopAccountsWrong)

/-- 'goitlaw23.LoopApart': WHATEVER THE INPUT: true; the input reads as it did. -/
def loopApartSpec : ChangeSpec := { name := "loopApart", fn := fun _ => fun
  | [d1, d2, d3] => { results := [.lit (.bool true)], args := [d1, d2, d3] }
  | _ => none }
def loopApartRow : OpenClaim := { program := "ytjhiooggnpbecaagreatdoor", sum := "e7d89b989ebb20cd53dd7822be95cfd7918930b8be2116ebab318205a8fa4351", func := "goit/goitlaw23.LoopApart", spec := "loopApart", inPlace := ["math/bits.Add64", "math/bits.Sub64", "slices.overlaps[[]goit/api.Range]"], unfollowed := true, recurses := true, named := ["math/bits.divideError", "math/bits.overflowError", "goit/gain.table"], apart := false, laid := [("goit/gain.table", laid_goit_gain_table)] }
def LoopApartSaid : Prop := loopApartRow.holds Tryz.pinned (OpenSpec.ofChange loopApartSpec)

/-- ITS FALSE NEIGHBOUR: 'it returns false'. Refute it at one input. -/
def loopApartWrong : ChangeSpec := { name := "loopApart", fn := fun _ => fun
  | [d1, d2, d3] => { results := [.lit (.bool false)], args := [d1, d2, d3] }
  | _ => none }
def LoopApartWrongFalsely : Prop := loopApartRow.holds Tryz.pinned (OpenSpec.ofChange loopApartWrong)

/-- 'goitlaw23.LoopQuiet': WHATEVER THE INPUT: true; the input reads as it did. -/
def loopQuietSpec : ChangeSpec := { name := "loopQuiet", fn := fun _ => fun
  | [d1, d2, d3] => { results := [.lit (.bool true)], args := [d1, d2, d3] }
  | _ => none }
def loopQuietRow : OpenClaim := { program := "ytjhiooggnpbecaagreatdoor", sum := "e7d89b989ebb20cd53dd7822be95cfd7918930b8be2116ebab318205a8fa4351", func := "goit/goitlaw23.LoopQuiet", spec := "loopQuiet", inPlace := ["math/bits.Add64", "math/bits.Sub64", "slices.overlaps[[]goit/api.Range]"], unfollowed := true, recurses := true, named := ["math/bits.divideError", "math/bits.overflowError", "goit/gain.table"], apart := false, laid := [("goit/gain.table", laid_goit_gain_table)] }
def LoopQuietSaid : Prop := loopQuietRow.holds Tryz.pinned (OpenSpec.ofChange loopQuietSpec)

/-- ITS FALSE NEIGHBOUR: 'it returns false'. Refute it at one input. -/
def loopQuietWrong : ChangeSpec := { name := "loopQuiet", fn := fun _ => fun
  | [d1, d2, d3] => { results := [.lit (.bool false)], args := [d1, d2, d3] }
  | _ => none }
def LoopQuietWrongFalsely : Prop := loopQuietRow.holds Tryz.pinned (OpenSpec.ofChange loopQuietWrong)

/-- 'goittop.TopPaced': WHATEVER THE INPUT: true; the input reads as it did. -/
def topPacedSpec : ChangeSpec := { name := "topPaced", fn := fun _ => fun
  | [d1, d2, d3] => { results := [.lit (.bool true)], args := [d1, d2, d3] }
  | _ => none }
def topPacedRow : OpenClaim := { program := "ytjhiooggnpbecaagreatdoor", sum := "e7d89b989ebb20cd53dd7822be95cfd7918930b8be2116ebab318205a8fa4351", func := "goit/goittop.TopPaced", spec := "topPaced", inPlace := ["math/bits.Add64", "math/bits.Sub64", "slices.overlaps[[]goit/api.Range]"], unfollowed := true, recurses := true, named := ["math/bits.divideError", "math/bits.overflowError", "goit/gain.table"], apart := false, laid := [("goit/gain.table", laid_goit_gain_table)] }
def TopPacedSaid : Prop := topPacedRow.holds Tryz.pinned (OpenSpec.ofChange topPacedSpec)

/-- ITS FALSE NEIGHBOUR: 'it returns false'. Refute it at one input. -/
def topPacedWrong : ChangeSpec := { name := "topPaced", fn := fun _ => fun
  | [d1, d2, d3] => { results := [.lit (.bool false)], args := [d1, d2, d3] }
  | _ => none }
def TopPacedWrongFalsely : Prop := topPacedRow.holds Tryz.pinned (OpenSpec.ofChange topPacedWrong)

/-- 'goittop.TopDelay': WHATEVER THE INPUT: true; the input reads as it did. -/
def topDelaySpec : ChangeSpec := { name := "topDelay", fn := fun _ => fun
  | [d1, d2, d3] => { results := [.lit (.bool true)], args := [d1, d2, d3] }
  | _ => none }
def topDelayRow : OpenClaim := { program := "ytjhiooggnpbecaagreatdoor", sum := "e7d89b989ebb20cd53dd7822be95cfd7918930b8be2116ebab318205a8fa4351", func := "goit/goittop.TopDelay", spec := "topDelay", inPlace := ["math/bits.Add64", "math/bits.Sub64", "slices.overlaps[[]goit/api.Range]"], unfollowed := true, recurses := true, named := ["math/bits.divideError", "math/bits.overflowError", "goit/gain.table"], apart := false, laid := [("goit/gain.table", laid_goit_gain_table)] }
def TopDelaySaid : Prop := topDelayRow.holds Tryz.pinned (OpenSpec.ofChange topDelaySpec)

/-- ITS FALSE NEIGHBOUR: 'it returns false'. Refute it at one input. -/
def topDelayWrong : ChangeSpec := { name := "topDelay", fn := fun _ => fun
  | [d1, d2, d3] => { results := [.lit (.bool false)], args := [d1, d2, d3] }
  | _ => none }
def TopDelayWrongFalsely : Prop := topDelayRow.holds Tryz.pinned (OpenSpec.ofChange topDelayWrong)

/- THE SECOND FORM. 'bulk': how many values and letters a reading holds, each counted each time it is reached (what is shared counts as often as it is met; a slice's spare places count too). A statement '..UptoSaid' is the law's where the arguments, and the package variables that the reading takes, are together of bulk at most 1048576: NARROWER than '..Said'. Prove '..Said' where nothing that the law and all that it calls make is longer than what came in: it says more and counts as full. Else prove '..UptoSaid'. A law counts once. -/
mutual
def uptoBulk {H : Type} : DataW H → Nat
  | .lit (.string bytes) => bytes.length + 1
  | .lit _ => 1
  | .nil => 1
  | .ptr d => uptoBulk d + 1
  | .slice elems spare => uptoBulkAll elems + uptoBulkAll spare + 1
  | .agg parts => uptoBulkAll parts + 1
  | .iface _ d => uptoBulk d + 1
  | .map entries => uptoBulkEntries entries + 1
  | .held _ => 1
def uptoBulkAll {H : Type} : List (DataW H) → Nat
  | [] => 0
  | d :: r => uptoBulk d + uptoBulkAll r
def uptoBulkEntries {H : Type} : List (Lit × DataW H) → Nat
  | [] => 0
  | x :: r => uptoBulkEntry x + uptoBulkEntries r
def uptoBulkEntry {H : Type} : Lit × DataW H → Nat
  | (.string bytes, d) => bytes.length + uptoBulk d + 1
  | (_, d) => uptoBulk d + 1
 end
def uptoSmall : (H : Type) → List (DataW H) → Bool := fun _ ds => decide (uptoBulkAll ds ≤ 1048576)
def OpenSpec.upto (s : _root_.Go.ChangeSpec) : _root_.Go.OpenSpec := { _root_.Go.OpenSpec.ofChange s with cond := some uptoSmall }

/-- 'goitlaw23.LoopAccounts', WHERE WHAT IT READS IS OF BULK AT MOST 1048576: true; the input reads as it did. -/
def loopAccountsUptoRow : OpenClaim := { program := "ytjhiooggnpbecaagreatdoor", sum := "e7d89b989ebb20cd53dd7822be95cfd7918930b8be2116ebab318205a8fa4351", func := "goit/goitlaw23.LoopAccounts", spec := "loopAccounts", inPlace := ["math/bits.Add64", "math/bits.Sub64", "slices.overlaps[[]goit/api.Range]"], unfollowed := true, recurses := true, named := ["math/bits.divideError", "math/bits.overflowError", "goit/gain.table"], apart := false, laid := [("goit/gain.table", laid_goit_gain_table)], narrowed := true }
def LoopAccountsUptoSaid : Prop := loopAccountsUptoRow.holds Tryz.pinned (OpenSpec.upto loopAccountsSpec)

/-- 'goitlaw23.LoopApart', WHERE WHAT IT READS IS OF BULK AT MOST 1048576: true; the input reads as it did. -/
def loopApartUptoRow : OpenClaim := { program := "ytjhiooggnpbecaagreatdoor", sum := "e7d89b989ebb20cd53dd7822be95cfd7918930b8be2116ebab318205a8fa4351", func := "goit/goitlaw23.LoopApart", spec := "loopApart", inPlace := ["math/bits.Add64", "math/bits.Sub64", "slices.overlaps[[]goit/api.Range]"], unfollowed := true, recurses := true, named := ["math/bits.divideError", "math/bits.overflowError", "goit/gain.table"], apart := false, laid := [("goit/gain.table", laid_goit_gain_table)], narrowed := true }
def LoopApartUptoSaid : Prop := loopApartUptoRow.holds Tryz.pinned (OpenSpec.upto loopApartSpec)

/-- 'goitlaw23.LoopQuiet', WHERE WHAT IT READS IS OF BULK AT MOST 1048576: true; the input reads as it did. -/
def loopQuietUptoRow : OpenClaim := { program := "ytjhiooggnpbecaagreatdoor", sum := "e7d89b989ebb20cd53dd7822be95cfd7918930b8be2116ebab318205a8fa4351", func := "goit/goitlaw23.LoopQuiet", spec := "loopQuiet", inPlace := ["math/bits.Add64", "math/bits.Sub64", "slices.overlaps[[]goit/api.Range]"], unfollowed := true, recurses := true, named := ["math/bits.divideError", "math/bits.overflowError", "goit/gain.table"], apart := false, laid := [("goit/gain.table", laid_goit_gain_table)], narrowed := true }
def LoopQuietUptoSaid : Prop := loopQuietUptoRow.holds Tryz.pinned (OpenSpec.upto loopQuietSpec)

/-- 'goittop.TopPaced', WHERE WHAT IT READS IS OF BULK AT MOST 1048576: true; the input reads as it did. -/
def topPacedUptoRow : OpenClaim := { program := "ytjhiooggnpbecaagreatdoor", sum := "e7d89b989ebb20cd53dd7822be95cfd7918930b8be2116ebab318205a8fa4351", func := "goit/goittop.TopPaced", spec := "topPaced", inPlace := ["math/bits.Add64", "math/bits.Sub64", "slices.overlaps[[]goit/api.Range]"], unfollowed := true, recurses := true, named := ["math/bits.divideError", "math/bits.overflowError", "goit/gain.table"], apart := false, laid := [("goit/gain.table", laid_goit_gain_table)], narrowed := true }
def TopPacedUptoSaid : Prop := topPacedUptoRow.holds Tryz.pinned (OpenSpec.upto topPacedSpec)

/-- 'goittop.TopDelay', WHERE WHAT IT READS IS OF BULK AT MOST 1048576: true; the input reads as it did. -/
def topDelayUptoRow : OpenClaim := { program := "ytjhiooggnpbecaagreatdoor", sum := "e7d89b989ebb20cd53dd7822be95cfd7918930b8be2116ebab318205a8fa4351", func := "goit/goittop.TopDelay", spec := "topDelay", inPlace := ["math/bits.Add64", "math/bits.Sub64", "slices.overlaps[[]goit/api.Range]"], unfollowed := true, recurses := true, named := ["math/bits.divideError", "math/bits.overflowError", "goit/gain.table"], apart := false, laid := [("goit/gain.table", laid_goit_gain_table)], narrowed := true }
def TopDelayUptoSaid : Prop := topDelayUptoRow.holds Tryz.pinned (OpenSpec.upto topDelaySpec)

end Rows
end Go.Proofs.YtjhiooggnpbecaaGreatDoor
