/-
  No cell of these rows narrows 'for every input' (looked for: loops, veiled, ifaces, maps, wideKeys, modest, calm, conditions, laid).
  DERIVED. THE GIVEN ROWS OF THIS SEAT. 4 by the template 'for every input the law returns true; each argument reads behind the call as it read before'; 0 by the template 'total and deterministic' (their statements: YtgpmnhhcjccofaaTotals.lean).
  GIVEN WITH THE SEED: the statements are not yours to turn. If you find one false, say at which input.
  Laid BY PROGRAM, IN A SANDBOX (cutbox-rows.mjs): the forced cells as the released guide's own fill.sh prints them over the translation 45b47256e4c4e107… (all of the seat's roots in one cut). By AI agents, Wed Nov 11 2026. No macro, syntax, notation, axiom, sorry.
-/
import Derived.Test.YtgpmnhhcjccofaaChecked
import GoSem.Claim
import GoSem.ClaimJoined
import GoSem.ClaimMapViews
import Derived.JoinedTies
import Derived.KernelRfl
namespace Go.Proofs.Ytgpmnhhcjccofaa
/- THE CELL 'sum', in the pinned program and in every row, IS THE sha256 OF THE DUMP (.gsa) THAT YtgpmnhhcjccofaaProg.lean LOADS. Nothing in Lean hashes anything: it is a label: what it is worth is what the hold of that sum in a sandbox is worth. -/
noncomputable def Try.pinned : Pinned := { name := "ytgpmnhhcjccofaa", sum := "45b47256e4c4e107e45cf8082f2289d6ed9a172fab5a33d900dc56ea8c482e46", checked := Try.checked }
namespace Rows
def none {H : Type} : Left H := { results := [], args := [] }

/-- 'goitlaw21.LinkPlays': WHATEVER THE INPUT: true; the input reads as it did. -/
def linkPlaysSpec : ChangeSpec := { name := "linkPlays", fn := fun _ => fun
  | [d1, d2] => { results := [.lit (.bool true)], args := [d1, d2] }
  | _ => none }
def linkPlaysRow : OpenClaim := { program := "ytgpmnhhcjccofaa", sum := "45b47256e4c4e107e45cf8082f2289d6ed9a172fab5a33d900dc56ea8c482e46", func := "goit/goitlaw21.LinkPlays", spec := "linkPlays", inPlace := ["math/bits.Add64", "math/bits.Sub64"], unfollowed := true, recurses := true, apart := false }
def LinkPlaysSaid : Prop := linkPlaysRow.holds Try.pinned (OpenSpec.ofChange linkPlaysSpec)

/-- ITS FALSE NEIGHBOUR: 'it returns false'. Refute it at one input. -/
def linkPlaysWrong : ChangeSpec := { name := "linkPlays", fn := fun _ => fun
  | [d1, d2] => { results := [.lit (.bool false)], args := [d1, d2] }
  | _ => none }
def LinkPlaysWrongFalsely : Prop := linkPlaysRow.holds Try.pinned (OpenSpec.ofChange linkPlaysWrong)

/-- 'goitlaw21.LinkEnvelope': WHATEVER THE INPUT: true; the input reads as it did. -/
def linkEnvelopeSpec : ChangeSpec := { name := "linkEnvelope", fn := fun _ => fun
  | [d1, d2] => { results := [.lit (.bool true)], args := [d1, d2] }
  | _ => none }
def linkEnvelopeRow : OpenClaim := { program := "ytgpmnhhcjccofaa", sum := "45b47256e4c4e107e45cf8082f2289d6ed9a172fab5a33d900dc56ea8c482e46", func := "goit/goitlaw21.LinkEnvelope", spec := "linkEnvelope", inPlace := ["math/bits.Add64", "math/bits.Sub64"], unfollowed := true, recurses := true, apart := false }
def LinkEnvelopeSaid : Prop := linkEnvelopeRow.holds Try.pinned (OpenSpec.ofChange linkEnvelopeSpec)

/-- ITS FALSE NEIGHBOUR: 'it returns false'. Refute it at one input. -/
def linkEnvelopeWrong : ChangeSpec := { name := "linkEnvelope", fn := fun _ => fun
  | [d1, d2] => { results := [.lit (.bool false)], args := [d1, d2] }
  | _ => none }
def LinkEnvelopeWrongFalsely : Prop := linkEnvelopeRow.holds Try.pinned (OpenSpec.ofChange linkEnvelopeWrong)

/-- 'goitlaw21.LinkWait': WHATEVER THE INPUT: true; the input reads as it did. -/
def linkWaitSpec : ChangeSpec := { name := "linkWait", fn := fun _ => fun
  | [d1, d2, d3] => { results := [.lit (.bool true)], args := [d1, d2, d3] }
  | _ => none }
def linkWaitRow : OpenClaim := { program := "ytgpmnhhcjccofaa", sum := "45b47256e4c4e107e45cf8082f2289d6ed9a172fab5a33d900dc56ea8c482e46", func := "goit/goitlaw21.LinkWait", spec := "linkWait", inPlace := ["math/bits.Add64", "math/bits.Sub64"], unfollowed := true, recurses := true, apart := false }
def LinkWaitSaid : Prop := linkWaitRow.holds Try.pinned (OpenSpec.ofChange linkWaitSpec)

/-- ITS FALSE NEIGHBOUR: 'it returns false'. Refute it at one input. -/
def linkWaitWrong : ChangeSpec := { name := "linkWait", fn := fun _ => fun
  | [d1, d2, d3] => { results := [.lit (.bool false)], args := [d1, d2, d3] }
  | _ => none }
def LinkWaitWrongFalsely : Prop := linkWaitRow.holds Try.pinned (OpenSpec.ofChange linkWaitWrong)

/-- 'goitlaw21.LinkServed': WHATEVER THE INPUT: true; the input reads as it did. -/
def linkServedSpec : ChangeSpec := { name := "linkServed", fn := fun _ => fun
  | [d1, d2, d3] => { results := [.lit (.bool true)], args := [d1, d2, d3] }
  | _ => none }
def linkServedRow : OpenClaim := { program := "ytgpmnhhcjccofaa", sum := "45b47256e4c4e107e45cf8082f2289d6ed9a172fab5a33d900dc56ea8c482e46", func := "goit/goitlaw21.LinkServed", spec := "linkServed", inPlace := ["math/bits.Add64", "math/bits.Sub64"], unfollowed := true, recurses := true, apart := false }
def LinkServedSaid : Prop := linkServedRow.holds Try.pinned (OpenSpec.ofChange linkServedSpec)

/-- ITS FALSE NEIGHBOUR: 'it returns false'. Refute it at one input. -/
def linkServedWrong : ChangeSpec := { name := "linkServed", fn := fun _ => fun
  | [d1, d2, d3] => { results := [.lit (.bool false)], args := [d1, d2, d3] }
  | _ => none }
def LinkServedWrongFalsely : Prop := linkServedRow.holds Try.pinned (OpenSpec.ofChange linkServedWrong)

/- THE SECOND FORM. 'bulk': how many values and letters a reading holds, each counted each time it is reached (what is shared counts as often as it is met; a slice's spare places count too). A statement '..UptoSaid' is the law's where the arguments, and the package variables that the reading takes, are together of bulk at most 1048576: NARROWER than '..Said'. Prove '..Said' where nothing that the law and all that it calls make is longer than what came in: it says more and counts as full. Else prove '..UptoSaid'. A law counts once. -/
mutual
def uptoBulk {H : Type} : DataW H → Nat
  | .lit (.string bytes) => bytes.length + 1
  | .lit _ => 1
  | .nil => 1
  | .ptr d => uptoBulk d + 1
  | .slice elems spare => uptoBulkAll elems + uptoBulkAll spare + 1
  | .agg parts => uptoBulkAll parts + 1
  | .iface _ d => uptoBulk d + 1
  | .map entries => uptoBulkEntries entries + 1
  | .held _ => 1
def uptoBulkAll {H : Type} : List (DataW H) → Nat
  | [] => 0
  | d :: r => uptoBulk d + uptoBulkAll r
def uptoBulkEntries {H : Type} : List (Lit × DataW H) → Nat
  | [] => 0
  | x :: r => uptoBulkEntry x + uptoBulkEntries r
def uptoBulkEntry {H : Type} : Lit × DataW H → Nat
  | (.string bytes, d) => bytes.length + uptoBulk d + 1
  | (_, d) => uptoBulk d + 1
 end
def uptoSmall : (H : Type) → List (DataW H) → Bool := fun _ ds => decide (uptoBulkAll ds ≤ 1048576)
def OpenSpec.upto (s : _root_.Go.ChangeSpec) : _root_.Go.OpenSpec := { _root_.Go.OpenSpec.ofChange s with cond := some uptoSmall }

/-- 'goitlaw21.LinkPlays', WHERE WHAT IT READS IS OF BULK AT MOST 1048576: true; the input reads as it did. -/
def linkPlaysUptoRow : OpenClaim := { program := "ytgpmnhhcjccofaa", sum := "45b47256e4c4e107e45cf8082f2289d6ed9a172fab5a33d900dc56ea8c482e46", func := "goit/goitlaw21.LinkPlays", spec := "linkPlays", inPlace := ["math/bits.Add64", "math/bits.Sub64"], unfollowed := true, recurses := true, apart := false, narrowed := true }
def LinkPlaysUptoSaid : Prop := linkPlaysUptoRow.holds Try.pinned (OpenSpec.upto linkPlaysSpec)

/-- 'goitlaw21.LinkEnvelope', WHERE WHAT IT READS IS OF BULK AT MOST 1048576: true; the input reads as it did. -/
def linkEnvelopeUptoRow : OpenClaim := { program := "ytgpmnhhcjccofaa", sum := "45b47256e4c4e107e45cf8082f2289d6ed9a172fab5a33d900dc56ea8c482e46", func := "goit/goitlaw21.LinkEnvelope", spec := "linkEnvelope", inPlace := ["math/bits.Add64", "math/bits.Sub64"], unfollowed := true, recurses := true, apart := false, narrowed := true }
def LinkEnvelopeUptoSaid : Prop := linkEnvelopeUptoRow.holds Try.pinned (OpenSpec.upto linkEnvelopeSpec)

/-- 'goitlaw21.LinkWait', WHERE WHAT IT READS IS OF BULK AT MOST 1048576: true; the input reads as it did. -/
def linkWaitUptoRow : OpenClaim := { program := "ytgpmnhhcjccofaa", sum := "45b47256e4c4e107e45cf8082f2289d6ed9a172fab5a33d900dc56ea8c482e46", func := "goit/goitlaw21.LinkWait", spec := "linkWait", inPlace := ["math/bits.Add64", "math/bits.Sub64"], unfollowed := true, recurses := true, apart := false, narrowed := true }
def LinkWaitUptoSaid : Prop := linkWaitUptoRow.holds Try.pinned (OpenSpec.upto linkWaitSpec)

/-- 'goitlaw21.LinkServed', WHERE WHAT IT READS IS OF BULK AT MOST 1048576: true; the input reads as it did. -/
def linkServedUptoRow : OpenClaim := { program := "ytgpmnhhcjccofaa", sum := "45b47256e4c4e107e45cf8082f2289d6ed9a172fab5a33d900dc56ea8c482e46", func := "goit/goitlaw21.LinkServed", spec := "linkServed", inPlace := ["math/bits.Add64", "math/bits.Sub64"], unfollowed := true, recurses := true, apart := false, narrowed := true }
def LinkServedUptoSaid : Prop := linkServedUptoRow.holds Try.pinned (OpenSpec.upto linkServedSpec)

end Rows
end Go.Proofs.Ytgpmnhhcjccofaa
