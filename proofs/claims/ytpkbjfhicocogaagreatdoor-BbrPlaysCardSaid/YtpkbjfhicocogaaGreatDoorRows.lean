/-
  NARROWER THAN 'FOR EVERY INPUT', by the rows' own cells (each row's printed sentence says how): BbrPlays: laid.
  DERIVED. THE GIVEN ROWS OF THIS SEAT. 1 by the template 'for every input the law returns true; each argument reads behind the call as it read before'; 0 by the template 'total and deterministic' (their statements: YtpkbjfhicocogaaGreatDoorTotals.lean).
  GIVEN WITH THE SEED: the statements are not yours to turn. If you find one false, say at which input.
  Laid BY PROGRAM, IN A SANDBOX (cutbox-rows.mjs): the forced cells as the released guide's own fill.sh prints them over the translation 7089e1990f0cff36… (all of the seat's roots in one cut). By AI agents, Wed Nov 11 2026. No macro, syntax, notation, axiom, sorry.
-/
import Derived.Test.YtpkbjfhicocogaaGreatDoorChecked
import GoSem.Claim
import GoSem.ClaimJoined
import GoSem.ClaimMapViews
import Derived.JoinedTies
import Derived.KernelRfl
namespace Go.Proofs.YtpkbjfhicocogaaGreatDoor
/- THE CELL 'sum', in the pinned program and in every row, IS THE sha256 OF THE DUMP (.gsa) THAT YtpkbjfhicocogaaGreatDoorProg.lean LOADS. Nothing in Lean hashes anything: it is a label: what it is worth is what the hold of that sum in a sandbox is worth. -/
noncomputable def Tryz.pinned : Pinned := { name := "ytpkbjfhicocogaagreatdoor", sum := "7089e1990f0cff3681c26d502ac61e5bc45b119bc9184670f78c511382b78116", checked := Tryz.checked }
namespace Rows
def none {H : Type} : Left H := { results := [], args := [] }

/- WHAT THE LISTED PACKAGE-LEVEL VARIABLES READ AS WHEN THE CALL BEGINS. Each datum BY PROGRAM (the guide's laid-datum.mjs) off the statement by which the dump's own 'gosem.cut.vars' lays the variable. In a bare row this is a premise. The card (YtpkbjfhicocogaaGreatDoorCards.lean) ties it to the program's text. -/
def laid_goit_gain_table {H : Type} : DataW H := .agg [.agg [.lit (.int .u64 277), .lit (.int .u64 200)], .agg [.lit (.int .u64 36), .lit (.int .u64 200)], .agg [.lit (.int .u64 75), .lit (.int .u64 200)], .agg [.lit (.int .u64 100), .lit (.int .u64 200)], .agg [.lit (.int .u64 100), .lit (.int .u64 200)], .agg [.lit (.int .u64 125), .lit (.int .u64 225)], .agg [.lit (.int .u64 100), .lit (.int .u64 50)]]

/-- 'goitlaw15.BbrPlays': WHATEVER THE INPUT: true; the input reads as it did. -/
def bbrPlaysSpec : ChangeSpec := { name := "bbrPlays", fn := fun _ => fun
  | [d1, d2] => { results := [.lit (.bool true)], args := [d1, d2] }
  | _ => none }
def bbrPlaysRow : OpenClaim := { program := "ytpkbjfhicocogaagreatdoor", sum := "7089e1990f0cff3681c26d502ac61e5bc45b119bc9184670f78c511382b78116", func := "goit/goitlaw15.BbrPlays", spec := "bbrPlays", inPlace := ["math/bits.Add64", "math/bits.Sub64"], unfollowed := true, recurses := true, named := ["math/bits.divideError", "math/bits.overflowError", "goit/gain.table"], apart := false, laid := [("goit/gain.table", laid_goit_gain_table)] }
def BbrPlaysSaid : Prop := bbrPlaysRow.holds Tryz.pinned (OpenSpec.ofChange bbrPlaysSpec)

/-- ITS FALSE NEIGHBOUR: 'it returns false'. Refute it at one input. -/
def bbrPlaysWrong : ChangeSpec := { name := "bbrPlays", fn := fun _ => fun
  | [d1, d2] => { results := [.lit (.bool false)], args := [d1, d2] }
  | _ => none }
def BbrPlaysWrongFalsely : Prop := bbrPlaysRow.holds Tryz.pinned (OpenSpec.ofChange bbrPlaysWrong)

/- THE SECOND FORM. 'bulk': how many values and letters a reading holds, each counted each time it is reached (what is shared counts as often as it is met; a slice's spare places count too). A statement '..UptoSaid' is the law's where the arguments, and the package variables that the reading takes, are together of bulk at most 1048576: NARROWER than '..Said'. Prove '..Said' where nothing that the law and all that it calls make is longer than what came in: it says more and counts as full. Else prove '..UptoSaid'. A law counts once. -/
mutual
def uptoBulk {H : Type} : DataW H → Nat
  | .lit (.string bytes) => bytes.length + 1
  | .lit _ => 1
  | .nil => 1
  | .ptr d => uptoBulk d + 1
  | .slice elems spare => uptoBulkAll elems + uptoBulkAll spare + 1
  | .agg parts => uptoBulkAll parts + 1
  | .iface _ d => uptoBulk d + 1
  | .map entries => uptoBulkEntries entries + 1
  | .held _ => 1
def uptoBulkAll {H : Type} : List (DataW H) → Nat
  | [] => 0
  | d :: r => uptoBulk d + uptoBulkAll r
def uptoBulkEntries {H : Type} : List (Lit × DataW H) → Nat
  | [] => 0
  | x :: r => uptoBulkEntry x + uptoBulkEntries r
def uptoBulkEntry {H : Type} : Lit × DataW H → Nat
  | (.string bytes, d) => bytes.length + uptoBulk d + 1
  | (_, d) => uptoBulk d + 1
 end
def uptoSmall : (H : Type) → List (DataW H) → Bool := fun _ ds => decide (uptoBulkAll ds ≤ 1048576)
def OpenSpec.upto (s : _root_.Go.ChangeSpec) : _root_.Go.OpenSpec := { _root_.Go.OpenSpec.ofChange s with cond := some uptoSmall }

/-- 'goitlaw15.BbrPlays', WHERE WHAT IT READS IS OF BULK AT MOST 1048576: true; the input reads as it did. -/
def bbrPlaysUptoRow : OpenClaim := { program := "ytpkbjfhicocogaagreatdoor", sum := "7089e1990f0cff3681c26d502ac61e5bc45b119bc9184670f78c511382b78116", func := "goit/goitlaw15.BbrPlays", spec := "bbrPlays", inPlace := ["math/bits.Add64", "math/bits.Sub64"], unfollowed := true, recurses := true, named := ["math/bits.divideError", "math/bits.overflowError", "goit/gain.table"], apart := false, laid := [("goit/gain.table", laid_goit_gain_table)], narrowed := true }
def BbrPlaysUptoSaid : Prop := bbrPlaysUptoRow.holds Tryz.pinned (OpenSpec.upto bbrPlaysSpec)

end Rows
end Go.Proofs.YtpkbjfhicocogaaGreatDoor
