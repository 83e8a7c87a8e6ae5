/-
  No cell of these rows narrows 'for every input' (looked for: loops, veiled, ifaces, maps, wideKeys, modest, calm, conditions, laid).
  DERIVED. THE GIVEN ROWS OF THIS SEAT. 3 by the template 'for every input the law returns true; each argument reads behind the call as it read before'; 0 by the template 'total and deterministic' (their statements: YtkgdfbiokgggmaaTotals.lean).
  GIVEN WITH THE SEED: the statements are not yours to turn. If you find one false, say at which input.
  Laid BY PROGRAM, IN A SANDBOX (cutbox-rows.mjs): the forced cells as the released guide's own fill.sh prints them over the translation 1e4057cb5af7c787… (all of the seat's roots in one cut). By AI agents, Wed Nov 11 2026. No macro, syntax, notation, axiom, sorry.
-/
import Derived.Test.YtkgdfbiokgggmaaChecked
import GoSem.Claim
import GoSem.ClaimJoined
import GoSem.ClaimMapViews
import Derived.JoinedTies
import Derived.KernelRfl
namespace Go.Proofs.Ytkgdfbiokgggmaa
/- THE CELL 'sum', in the pinned program and in every row, IS THE sha256 OF THE DUMP (.gsa) THAT YtkgdfbiokgggmaaProg.lean LOADS. Nothing in Lean hashes anything: it is a label: what it is worth is what the hold of that sum in a sandbox is worth. -/
noncomputable def Try.pinned : Pinned := { name := "ytkgdfbiokgggmaa", sum := "1e4057cb5af7c78726a0cd746833e8c4e176dec778cf8c30380120902373a85c", checked := Try.checked }
namespace Rows
def none {H : Type} : Left H := { results := [], args := [] }

/-- 'goitlaw14.ModeNext': WHATEVER THE INPUT: true; the input reads as it did. -/
def modeNextSpec : ChangeSpec := { name := "modeNext", fn := fun _ => fun
  | [d1, d2, d3] => { results := [.lit (.bool true)], args := [d1, d2, d3] }
  | _ => none }
def modeNextRow : OpenClaim := { program := "ytkgdfbiokgggmaa", sum := "1e4057cb5af7c78726a0cd746833e8c4e176dec778cf8c30380120902373a85c", func := "goit/goitlaw14.ModeNext", spec := "modeNext", named := ["math/bits.divideError", "math/bits.overflowError"], plainKeys := false, apart := false }
def ModeNextSaid : Prop := modeNextRow.holds Try.pinned (OpenSpec.ofChange modeNextSpec)

/-- ITS FALSE NEIGHBOUR: 'it returns false'. Refute it at one input. -/
def modeNextWrong : ChangeSpec := { name := "modeNext", fn := fun _ => fun
  | [d1, d2, d3] => { results := [.lit (.bool false)], args := [d1, d2, d3] }
  | _ => none }
def ModeNextWrongFalsely : Prop := modeNextRow.holds Try.pinned (OpenSpec.ofChange modeNextWrong)

/-- 'goitlaw14.ModeArrows': WHATEVER THE INPUT: true; the input reads as it did. -/
def modeArrowsSpec : ChangeSpec := { name := "modeArrows", fn := fun _ => fun
  | [d1, d2, d3] => { results := [.lit (.bool true)], args := [d1, d2, d3] }
  | _ => none }
def modeArrowsRow : OpenClaim := { program := "ytkgdfbiokgggmaa", sum := "1e4057cb5af7c78726a0cd746833e8c4e176dec778cf8c30380120902373a85c", func := "goit/goitlaw14.ModeArrows", spec := "modeArrows", named := ["math/bits.divideError", "math/bits.overflowError"], plainKeys := false, apart := false }
def ModeArrowsSaid : Prop := modeArrowsRow.holds Try.pinned (OpenSpec.ofChange modeArrowsSpec)

/-- ITS FALSE NEIGHBOUR: 'it returns false'. Refute it at one input. -/
def modeArrowsWrong : ChangeSpec := { name := "modeArrows", fn := fun _ => fun
  | [d1, d2, d3] => { results := [.lit (.bool false)], args := [d1, d2, d3] }
  | _ => none }
def ModeArrowsWrongFalsely : Prop := modeArrowsRow.holds Try.pinned (OpenSpec.ofChange modeArrowsWrong)

/-- 'goitlaw14.ModeQuiet': WHATEVER THE INPUT: true; the input reads as it did. -/
def modeQuietSpec : ChangeSpec := { name := "modeQuiet", fn := fun _ => fun
  | [d1, d2, d3] => { results := [.lit (.bool true)], args := [d1, d2, d3] }
  | _ => none }
def modeQuietRow : OpenClaim := { program := "ytkgdfbiokgggmaa", sum := "1e4057cb5af7c78726a0cd746833e8c4e176dec778cf8c30380120902373a85c", func := "goit/goitlaw14.ModeQuiet", spec := "modeQuiet", named := ["math/bits.divideError", "math/bits.overflowError"], plainKeys := false, apart := false }
def ModeQuietSaid : Prop := modeQuietRow.holds Try.pinned (OpenSpec.ofChange modeQuietSpec)

/-- ITS FALSE NEIGHBOUR: 'it returns false'. Refute it at one input. -/
def modeQuietWrong : ChangeSpec := { name := "modeQuiet", fn := fun _ => fun
  | [d1, d2, d3] => { results := [.lit (.bool false)], args := [d1, d2, d3] }
  | _ => none }
def ModeQuietWrongFalsely : Prop := modeQuietRow.holds Try.pinned (OpenSpec.ofChange modeQuietWrong)

/- THE SECOND FORM. 'bulk': how many values and letters a reading holds, each counted each time it is reached (what is shared counts as often as it is met; a slice's spare places count too). A statement '..UptoSaid' is the law's where the arguments, and the package variables that the reading takes, are together of bulk at most 1048576: NARROWER than '..Said'. Prove '..Said' where nothing that the law and all that it calls make is longer than what came in: it says more and counts as full. Else prove '..UptoSaid'. A law counts once. -/
mutual
def uptoBulk {H : Type} : DataW H → Nat
  | .lit (.string bytes) => bytes.length + 1
  | .lit _ => 1
  | .nil => 1
  | .ptr d => uptoBulk d + 1
  | .slice elems spare => uptoBulkAll elems + uptoBulkAll spare + 1
  | .agg parts => uptoBulkAll parts + 1
  | .iface _ d => uptoBulk d + 1
  | .map entries => uptoBulkEntries entries + 1
  | .held _ => 1
def uptoBulkAll {H : Type} : List (DataW H) → Nat
  | [] => 0
  | d :: r => uptoBulk d + uptoBulkAll r
def uptoBulkEntries {H : Type} : List (Lit × DataW H) → Nat
  | [] => 0
  | x :: r => uptoBulkEntry x + uptoBulkEntries r
def uptoBulkEntry {H : Type} : Lit × DataW H → Nat
  | (.string bytes, d) => bytes.length + uptoBulk d + 1
  | (_, d) => uptoBulk d + 1
 end
def uptoSmall : (H : Type) → List (DataW H) → Bool := fun _ ds => decide (uptoBulkAll ds ≤ 1048576)
def OpenSpec.upto (s : _root_.Go.ChangeSpec) : _root_.Go.OpenSpec := { _root_.Go.OpenSpec.ofChange s with cond := some uptoSmall }

/-- 'goitlaw14.ModeNext', WHERE WHAT IT READS IS OF BULK AT MOST 1048576: true; the input reads as it did. -/
def modeNextUptoRow : OpenClaim := { program := "ytkgdfbiokgggmaa", sum := "1e4057cb5af7c78726a0cd746833e8c4e176dec778cf8c30380120902373a85c", func := "goit/goitlaw14.ModeNext", spec := "modeNext", named := ["math/bits.divideError", "math/bits.overflowError"], plainKeys := false, apart := false, narrowed := true }
def ModeNextUptoSaid : Prop := modeNextUptoRow.holds Try.pinned (OpenSpec.upto modeNextSpec)

/-- 'goitlaw14.ModeArrows', WHERE WHAT IT READS IS OF BULK AT MOST 1048576: true; the input reads as it did. -/
def modeArrowsUptoRow : OpenClaim := { program := "ytkgdfbiokgggmaa", sum := "1e4057cb5af7c78726a0cd746833e8c4e176dec778cf8c30380120902373a85c", func := "goit/goitlaw14.ModeArrows", spec := "modeArrows", named := ["math/bits.divideError", "math/bits.overflowError"], plainKeys := false, apart := false, narrowed := true }
def ModeArrowsUptoSaid : Prop := modeArrowsUptoRow.holds Try.pinned (OpenSpec.upto modeArrowsSpec)

/-- 'goitlaw14.ModeQuiet', WHERE WHAT IT READS IS OF BULK AT MOST 1048576: true; the input reads as it did. -/
def modeQuietUptoRow : OpenClaim := { program := "ytkgdfbiokgggmaa", sum := "1e4057cb5af7c78726a0cd746833e8c4e176dec778cf8c30380120902373a85c", func := "goit/goitlaw14.ModeQuiet", spec := "modeQuiet", named := ["math/bits.divideError", "math/bits.overflowError"], plainKeys := false, apart := false, narrowed := true }
def ModeQuietUptoSaid : Prop := modeQuietUptoRow.holds Try.pinned (OpenSpec.upto modeQuietSpec)

end Rows
end Go.Proofs.Ytkgdfbiokgggmaa
