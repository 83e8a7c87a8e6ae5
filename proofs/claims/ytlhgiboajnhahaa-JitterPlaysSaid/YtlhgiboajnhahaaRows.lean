/-
  No cell of these rows narrows 'for every input' (looked for: loops, veiled, ifaces, maps, wideKeys, modest, calm, conditions, laid).
  DERIVED. THE GIVEN ROWS OF THIS SEAT. 3 by the template 'for every input the law returns true; each argument reads behind the call as it read before'; 0 by the template 'total and deterministic' (their statements: YtlhgiboajnhahaaTotals.lean).
  GIVEN WITH THE SEED: the statements are not yours to turn. If you find one false, say at which input.
  Laid BY PROGRAM, IN A SANDBOX (cutbox-rows.mjs): the forced cells as the released guide's own fill.sh prints them over the translation 75cc6266a964af79… (all of the seat's roots in one cut). By AI agents, Wed Nov 11 2026. No macro, syntax, notation, axiom, sorry.
-/
import Derived.Test.YtlhgiboajnhahaaChecked
import GoSem.Claim
import GoSem.ClaimJoined
import GoSem.ClaimMapViews
import Derived.JoinedTies
import Derived.KernelRfl
namespace Go.Proofs.Ytlhgiboajnhahaa
/- THE CELL 'sum', in the pinned program and in every row, IS THE sha256 OF THE DUMP (.gsa) THAT YtlhgiboajnhahaaProg.lean LOADS. Nothing in Lean hashes anything: it is a label: what it is worth is what the hold of that sum in a sandbox is worth. -/
noncomputable def Try.pinned : Pinned := { name := "ytlhgiboajnhahaa", sum := "75cc6266a964af797b2562b4f2df9be7ababa6129fbd49fadd2196ed2aaa37dc", checked := Try.checked }
namespace Rows
def none {H : Type} : Left H := { results := [], args := [] }

/-- 'goitlaw20.JitterPlays': WHATEVER THE INPUT: true; the input reads as it did. -/
def jitterPlaysSpec : ChangeSpec := { name := "jitterPlays", fn := fun _ => fun
  | [d1, d2, d3] => { results := [.lit (.bool true)], args := [d1, d2, d3] }
  | _ => none }
def jitterPlaysRow : OpenClaim := { program := "ytlhgiboajnhahaa", sum := "75cc6266a964af797b2562b4f2df9be7ababa6129fbd49fadd2196ed2aaa37dc", func := "goit/goitlaw20.JitterPlays", spec := "jitterPlays", inPlace := ["math/bits.Add64"], unfollowed := true, recurses := true, apart := false }
def JitterPlaysSaid : Prop := jitterPlaysRow.holds Try.pinned (OpenSpec.ofChange jitterPlaysSpec)

/-- ITS FALSE NEIGHBOUR: 'it returns false'. Refute it at one input. -/
def jitterPlaysWrong : ChangeSpec := { name := "jitterPlays", fn := fun _ => fun
  | [d1, d2, d3] => { results := [.lit (.bool false)], args := [d1, d2, d3] }
  | _ => none }
def JitterPlaysWrongFalsely : Prop := jitterPlaysRow.holds Try.pinned (OpenSpec.ofChange jitterPlaysWrong)

/-- 'goitlaw20.JitterLate': WHATEVER THE INPUT: true; the input reads as it did. -/
def jitterLateSpec : ChangeSpec := { name := "jitterLate", fn := fun _ => fun
  | [d1, d2, d3] => { results := [.lit (.bool true)], args := [d1, d2, d3] }
  | _ => none }
def jitterLateRow : OpenClaim := { program := "ytlhgiboajnhahaa", sum := "75cc6266a964af797b2562b4f2df9be7ababa6129fbd49fadd2196ed2aaa37dc", func := "goit/goitlaw20.JitterLate", spec := "jitterLate", inPlace := ["math/bits.Add64"], unfollowed := true, recurses := true, apart := false }
def JitterLateSaid : Prop := jitterLateRow.holds Try.pinned (OpenSpec.ofChange jitterLateSpec)

/-- ITS FALSE NEIGHBOUR: 'it returns false'. Refute it at one input. -/
def jitterLateWrong : ChangeSpec := { name := "jitterLate", fn := fun _ => fun
  | [d1, d2, d3] => { results := [.lit (.bool false)], args := [d1, d2, d3] }
  | _ => none }
def JitterLateWrongFalsely : Prop := jitterLateRow.holds Try.pinned (OpenSpec.ofChange jitterLateWrong)

/-- 'goitlaw20.JitterNone': WHATEVER THE INPUT: true; the input reads as it did. -/
def jitterNoneSpec : ChangeSpec := { name := "jitterNone", fn := fun _ => fun
  | [d1, d2] => { results := [.lit (.bool true)], args := [d1, d2] }
  | _ => none }
def jitterNoneRow : OpenClaim := { program := "ytlhgiboajnhahaa", sum := "75cc6266a964af797b2562b4f2df9be7ababa6129fbd49fadd2196ed2aaa37dc", func := "goit/goitlaw20.JitterNone", spec := "jitterNone", inPlace := ["math/bits.Add64"], unfollowed := true, recurses := true, apart := false }
def JitterNoneSaid : Prop := jitterNoneRow.holds Try.pinned (OpenSpec.ofChange jitterNoneSpec)

/-- ITS FALSE NEIGHBOUR: 'it returns false'. Refute it at one input. -/
def jitterNoneWrong : ChangeSpec := { name := "jitterNone", fn := fun _ => fun
  | [d1, d2] => { results := [.lit (.bool false)], args := [d1, d2] }
  | _ => none }
def JitterNoneWrongFalsely : Prop := jitterNoneRow.holds Try.pinned (OpenSpec.ofChange jitterNoneWrong)

/- THE SECOND FORM. 'bulk': how many values and letters a reading holds, each counted each time it is reached (what is shared counts as often as it is met; a slice's spare places count too). A statement '..UptoSaid' is the law's where the arguments, and the package variables that the reading takes, are together of bulk at most 1048576: NARROWER than '..Said'. Prove '..Said' where nothing that the law and all that it calls make is longer than what came in: it says more and counts as full. Else prove '..UptoSaid'. A law counts once. -/
mutual
def uptoBulk {H : Type} : DataW H → Nat
  | .lit (.string bytes) => bytes.length + 1
  | .lit _ => 1
  | .nil => 1
  | .ptr d => uptoBulk d + 1
  | .slice elems spare => uptoBulkAll elems + uptoBulkAll spare + 1
  | .agg parts => uptoBulkAll parts + 1
  | .iface _ d => uptoBulk d + 1
  | .map entries => uptoBulkEntries entries + 1
  | .held _ => 1
def uptoBulkAll {H : Type} : List (DataW H) → Nat
  | [] => 0
  | d :: r => uptoBulk d + uptoBulkAll r
def uptoBulkEntries {H : Type} : List (Lit × DataW H) → Nat
  | [] => 0
  | x :: r => uptoBulkEntry x + uptoBulkEntries r
def uptoBulkEntry {H : Type} : Lit × DataW H → Nat
  | (.string bytes, d) => bytes.length + uptoBulk d + 1
  | (_, d) => uptoBulk d + 1
 end
def uptoSmall : (H : Type) → List (DataW H) → Bool := fun _ ds => decide (uptoBulkAll ds ≤ 1048576)
def OpenSpec.upto (s : _root_.Go.ChangeSpec) : _root_.Go.OpenSpec := { _root_.Go.OpenSpec.ofChange s with cond := some uptoSmall }

/-- 'goitlaw20.JitterPlays', WHERE WHAT IT READS IS OF BULK AT MOST 1048576: true; the input reads as it did. -/
def jitterPlaysUptoRow : OpenClaim := { program := "ytlhgiboajnhahaa", sum := "75cc6266a964af797b2562b4f2df9be7ababa6129fbd49fadd2196ed2aaa37dc", func := "goit/goitlaw20.JitterPlays", spec := "jitterPlays", inPlace := ["math/bits.Add64"], unfollowed := true, recurses := true, apart := false, narrowed := true }
def JitterPlaysUptoSaid : Prop := jitterPlaysUptoRow.holds Try.pinned (OpenSpec.upto jitterPlaysSpec)

/-- 'goitlaw20.JitterLate', WHERE WHAT IT READS IS OF BULK AT MOST 1048576: true; the input reads as it did. -/
def jitterLateUptoRow : OpenClaim := { program := "ytlhgiboajnhahaa", sum := "75cc6266a964af797b2562b4f2df9be7ababa6129fbd49fadd2196ed2aaa37dc", func := "goit/goitlaw20.JitterLate", spec := "jitterLate", inPlace := ["math/bits.Add64"], unfollowed := true, recurses := true, apart := false, narrowed := true }
def JitterLateUptoSaid : Prop := jitterLateUptoRow.holds Try.pinned (OpenSpec.upto jitterLateSpec)

/-- 'goitlaw20.JitterNone', WHERE WHAT IT READS IS OF BULK AT MOST 1048576: true; the input reads as it did. -/
def jitterNoneUptoRow : OpenClaim := { program := "ytlhgiboajnhahaa", sum := "75cc6266a964af797b2562b4f2df9be7ababa6129fbd49fadd2196ed2aaa37dc", func := "goit/goitlaw20.JitterNone", spec := "jitterNone", inPlace := ["math/bits.Add64"], unfollowed := true, recurses := true, apart := false, narrowed := true }
def JitterNoneUptoSaid : Prop := jitterNoneUptoRow.holds Try.pinned (OpenSpec.upto jitterNoneSpec)

end Rows
end Go.Proofs.Ytlhgiboajnhahaa
