/-
  No cell of these rows narrows 'for every input' (looked for: loops, veiled, ifaces, maps, wideKeys, modest, calm, conditions, laid).
  DERIVED. THE GIVEN ROWS OF THIS SEAT. 4 by the template 'for every input the law returns true; each argument reads behind the call as it read before'; 0 by the template 'total and deterministic' (their statements: YtafmfkgaijnfbaaTotals.lean).
  GIVEN WITH THE SEED: the statements are not yours to turn. If you find one false, say at which input.
  Laid BY PROGRAM, IN A SANDBOX (cutbox-rows.mjs): the forced cells as the released guide's own fill.sh prints them over the translation cab9dd9fd8b0e33e… (all of the seat's roots in one cut). By AI agents, Wed Nov 11 2026. No macro, syntax, notation, axiom, sorry.
-/
import Derived.Test.YtafmfkgaijnfbaaChecked
import GoSem.Claim
import GoSem.ClaimJoined
import GoSem.ClaimMapViews
import Derived.JoinedTies
import Derived.KernelRfl
namespace Go.Proofs.Ytafmfkgaijnfbaa
/- THE CELL 'sum', in the pinned program and in every row, IS THE sha256 OF THE DUMP (.gsa) THAT YtafmfkgaijnfbaaProg.lean LOADS. Nothing in Lean hashes anything: it is a label: what it is worth is what the hold of that sum in a sandbox is worth. -/
noncomputable def Try.pinned : Pinned := { name := "ytafmfkgaijnfbaa", sum := "cab9dd9fd8b0e33e33277115be19476961c1cc8d36fc57d6f172dea90c2f4d83", checked := Try.checked }
namespace Rows
def none {H : Type} : Left H := { results := [], args := [] }

/-- 'goitlaw16.PacerPlays': WHATEVER THE INPUT: true; the input reads as it did. -/
def pacerPlaysSpec : ChangeSpec := { name := "pacerPlays", fn := fun _ => fun
  | [d1, d2] => { results := [.lit (.bool true)], args := [d1, d2] }
  | _ => none }
def pacerPlaysRow : OpenClaim := { program := "ytafmfkgaijnfbaa", sum := "cab9dd9fd8b0e33e33277115be19476961c1cc8d36fc57d6f172dea90c2f4d83", func := "goit/goitlaw16.PacerPlays", spec := "pacerPlays", inPlace := ["math/bits.Add64", "math/bits.Sub64"], named := ["math/bits.divideError", "math/bits.overflowError"], apart := false }
def PacerPlaysSaid : Prop := pacerPlaysRow.holds Try.pinned (OpenSpec.ofChange pacerPlaysSpec)

/-- ITS FALSE NEIGHBOUR: 'it returns false'. Refute it at one input. -/
def pacerPlaysWrong : ChangeSpec := { name := "pacerPlays", fn := fun _ => fun
  | [d1, d2] => { results := [.lit (.bool false)], args := [d1, d2] }
  | _ => none }
def PacerPlaysWrongFalsely : Prop := pacerPlaysRow.holds Try.pinned (OpenSpec.ofChange pacerPlaysWrong)

/-- 'goitlaw16.PacerNoMore': WHATEVER THE INPUT: true; the input reads as it did. -/
def pacerNoMoreSpec : ChangeSpec := { name := "pacerNoMore", fn := fun _ => fun
  | [d1, d2] => { results := [.lit (.bool true)], args := [d1, d2] }
  | _ => none }
def pacerNoMoreRow : OpenClaim := { program := "ytafmfkgaijnfbaa", sum := "cab9dd9fd8b0e33e33277115be19476961c1cc8d36fc57d6f172dea90c2f4d83", func := "goit/goitlaw16.PacerNoMore", spec := "pacerNoMore", inPlace := ["math/bits.Add64", "math/bits.Sub64"], named := ["math/bits.divideError", "math/bits.overflowError"], apart := false }
def PacerNoMoreSaid : Prop := pacerNoMoreRow.holds Try.pinned (OpenSpec.ofChange pacerNoMoreSpec)

/-- ITS FALSE NEIGHBOUR: 'it returns false'. Refute it at one input. -/
def pacerNoMoreWrong : ChangeSpec := { name := "pacerNoMore", fn := fun _ => fun
  | [d1, d2] => { results := [.lit (.bool false)], args := [d1, d2] }
  | _ => none }
def PacerNoMoreWrongFalsely : Prop := pacerNoMoreRow.holds Try.pinned (OpenSpec.ofChange pacerNoMoreWrong)

/-- 'goitlaw16.PacerThen': WHATEVER THE INPUT: true; the input reads as it did. -/
def pacerThenSpec : ChangeSpec := { name := "pacerThen", fn := fun _ => fun
  | [d1, d2] => { results := [.lit (.bool true)], args := [d1, d2] }
  | _ => none }
def pacerThenRow : OpenClaim := { program := "ytafmfkgaijnfbaa", sum := "cab9dd9fd8b0e33e33277115be19476961c1cc8d36fc57d6f172dea90c2f4d83", func := "goit/goitlaw16.PacerThen", spec := "pacerThen", inPlace := ["math/bits.Add64", "math/bits.Sub64"], named := ["math/bits.divideError", "math/bits.overflowError"], apart := false }
def PacerThenSaid : Prop := pacerThenRow.holds Try.pinned (OpenSpec.ofChange pacerThenSpec)

/-- ITS FALSE NEIGHBOUR: 'it returns false'. Refute it at one input. -/
def pacerThenWrong : ChangeSpec := { name := "pacerThen", fn := fun _ => fun
  | [d1, d2] => { results := [.lit (.bool false)], args := [d1, d2] }
  | _ => none }
def PacerThenWrongFalsely : Prop := pacerThenRow.holds Try.pinned (OpenSpec.ofChange pacerThenWrong)

/-- 'goitlaw16.PacerTwice': WHATEVER THE INPUT: true; the input reads as it did. -/
def pacerTwiceSpec : ChangeSpec := { name := "pacerTwice", fn := fun _ => fun
  | [d1, d2, d3] => { results := [.lit (.bool true)], args := [d1, d2, d3] }
  | _ => none }
def pacerTwiceRow : OpenClaim := { program := "ytafmfkgaijnfbaa", sum := "cab9dd9fd8b0e33e33277115be19476961c1cc8d36fc57d6f172dea90c2f4d83", func := "goit/goitlaw16.PacerTwice", spec := "pacerTwice", inPlace := ["math/bits.Add64", "math/bits.Sub64"], named := ["math/bits.divideError", "math/bits.overflowError"], apart := false }
def PacerTwiceSaid : Prop := pacerTwiceRow.holds Try.pinned (OpenSpec.ofChange pacerTwiceSpec)

/-- ITS FALSE NEIGHBOUR: 'it returns false'. Refute it at one input. -/
def pacerTwiceWrong : ChangeSpec := { name := "pacerTwice", fn := fun _ => fun
  | [d1, d2, d3] => { results := [.lit (.bool false)], args := [d1, d2, d3] }
  | _ => none }
def PacerTwiceWrongFalsely : Prop := pacerTwiceRow.holds Try.pinned (OpenSpec.ofChange pacerTwiceWrong)

/- THE SECOND FORM. 'bulk': how many values and letters a reading holds, each counted each time it is reached (what is shared counts as often as it is met; a slice's spare places count too). A statement '..UptoSaid' is the law's where the arguments, and the package variables that the reading takes, are together of bulk at most 1048576: NARROWER than '..Said'. Prove '..Said' where nothing that the law and all that it calls make is longer than what came in: it says more and counts as full. Else prove '..UptoSaid'. A law counts once. -/
mutual
def uptoBulk {H : Type} : DataW H → Nat
  | .lit (.string bytes) => bytes.length + 1
  | .lit _ => 1
  | .nil => 1
  | .ptr d => uptoBulk d + 1
  | .slice elems spare => uptoBulkAll elems + uptoBulkAll spare + 1
  | .agg parts => uptoBulkAll parts + 1
  | .iface _ d => uptoBulk d + 1
  | .map entries => uptoBulkEntries entries + 1
  | .held _ => 1
def uptoBulkAll {H : Type} : List (DataW H) → Nat
  | [] => 0
  | d :: r => uptoBulk d + uptoBulkAll r
def uptoBulkEntries {H : Type} : List (Lit × DataW H) → Nat
  | [] => 0
  | x :: r => uptoBulkEntry x + uptoBulkEntries r
def uptoBulkEntry {H : Type} : Lit × DataW H → Nat
  | (.string bytes, d) => bytes.length + uptoBulk d + 1
  | (_, d) => uptoBulk d + 1
 end
def uptoSmall : (H : Type) → List (DataW H) → Bool := fun _ ds => decide (uptoBulkAll ds ≤ 1048576)
def OpenSpec.upto (s : _root_.Go.ChangeSpec) : _root_.Go.OpenSpec := { _root_.Go.OpenSpec.ofChange s with cond := some uptoSmall }

/-- 'goitlaw16.PacerPlays', WHERE WHAT IT READS IS OF BULK AT MOST 1048576: true; the input reads as it did. -/
def pacerPlaysUptoRow : OpenClaim := { program := "ytafmfkgaijnfbaa", sum := "cab9dd9fd8b0e33e33277115be19476961c1cc8d36fc57d6f172dea90c2f4d83", func := "goit/goitlaw16.PacerPlays", spec := "pacerPlays", inPlace := ["math/bits.Add64", "math/bits.Sub64"], named := ["math/bits.divideError", "math/bits.overflowError"], apart := false, narrowed := true }
def PacerPlaysUptoSaid : Prop := pacerPlaysUptoRow.holds Try.pinned (OpenSpec.upto pacerPlaysSpec)

/-- 'goitlaw16.PacerNoMore', WHERE WHAT IT READS IS OF BULK AT MOST 1048576: true; the input reads as it did. -/
def pacerNoMoreUptoRow : OpenClaim := { program := "ytafmfkgaijnfbaa", sum := "cab9dd9fd8b0e33e33277115be19476961c1cc8d36fc57d6f172dea90c2f4d83", func := "goit/goitlaw16.PacerNoMore", spec := "pacerNoMore", inPlace := ["math/bits.Add64", "math/bits.Sub64"], named := ["math/bits.divideError", "math/bits.overflowError"], apart := false, narrowed := true }
def PacerNoMoreUptoSaid : Prop := pacerNoMoreUptoRow.holds Try.pinned (OpenSpec.upto pacerNoMoreSpec)

/-- 'goitlaw16.PacerThen', WHERE WHAT IT READS IS OF BULK AT MOST 1048576: true; the input reads as it did. -/
def pacerThenUptoRow : OpenClaim := { program := "ytafmfkgaijnfbaa", sum := "cab9dd9fd8b0e33e33277115be19476961c1cc8d36fc57d6f172dea90c2f4d83", func := "goit/goitlaw16.PacerThen", spec := "pacerThen", inPlace := ["math/bits.Add64", "math/bits.Sub64"], named := ["math/bits.divideError", "math/bits.overflowError"], apart := false, narrowed := true }
def PacerThenUptoSaid : Prop := pacerThenUptoRow.holds Try.pinned (OpenSpec.upto pacerThenSpec)

/-- 'goitlaw16.PacerTwice', WHERE WHAT IT READS IS OF BULK AT MOST 1048576: true; the input reads as it did. -/
def pacerTwiceUptoRow : OpenClaim := { program := "ytafmfkgaijnfbaa", sum := "cab9dd9fd8b0e33e33277115be19476961c1cc8d36fc57d6f172dea90c2f4d83", func := "goit/goitlaw16.PacerTwice", spec := "pacerTwice", inPlace := ["math/bits.Add64", "math/bits.Sub64"], named := ["math/bits.divideError", "math/bits.overflowError"], apart := false, narrowed := true }
def PacerTwiceUptoSaid : Prop := pacerTwiceUptoRow.holds Try.pinned (OpenSpec.upto pacerTwiceSpec)

end Rows
end Go.Proofs.Ytafmfkgaijnfbaa
