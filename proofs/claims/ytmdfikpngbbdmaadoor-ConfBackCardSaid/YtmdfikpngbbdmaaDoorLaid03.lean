/- The library's variables as the rows list them: what a walk takes of them, and a world that has them. -/
import Derived.Test.YtmdfikpngbbdmaaDoorRows
import Derived.Test.YtmdfikpngbbdmaaDoorLb
import Derived.Deep.DeepHandedRow
import Derived.Deep.DeepWitnessRowRef
import Derived.Lib.LaidIn
import Derived.Stop.LaidErr
import Derived.Lib.LaidTab
import Derived.ProofKit
import Derived.SizedLaws
set_option linter.unusedVariables false
namespace Go.Proofs.YtmdfikpngbbdmaaDoor
open Go.ChangeShapes Go.WideShapes Go.ChangeAt Go.RowKit Go.Lib

theorem rowErr (u : TypeId) (h : Tryd.prog.typeName? 3 u = some (match Rows.laid_strconv_ErrRange (H := Unit) with
    | .iface nm _ => nm
    | _ => default)) : u = 109 :=
  typeName_ptr_named (nm := "errors.errorString") (by kernel_rfl) (by kernel_rfl) (by decide) u (h.trans (congrArg some (by decide)))

theorem gl_of {W : World} (hL : laidMet Tryd.prog Rows.confBackRow.laid W) (hS : W.ShapedOpen Tryd.prog) : Gl W where
  tab := of_tab (by kernel_rfl) (Lib.tabIs_of_head (g := 2) (t := 96) (e := 22) (n := 20) (by kernel_rfl) (by kernel_rfl) Tryd.underlying96 Tryd.underlying22 (by kernel_rfl) (by kernel_rfl) hL.tail.tail)
  es := by
    obtain ⟨a, s, hv, _⟩ := laid_sentinel (g := 4) (ti := 62) (tp := 109) (te := 111) (ts := 9) hL.tail.tail.tail.tail (by kernel_rfl) (by kernel_rfl) Tryd.underlying62 rowErr Tryd.underlying109 Tryd.underlying111 rfl rfl Tryd.underlying9 (by kernel_rfl) (by kernel_rfl)
    exact ⟨_, _, hv⟩
  er := by
    obtain ⟨a, s, hv, _⟩ := laid_sentinel (g := 5) (ti := 62) (tp := 109) (te := 111) (ts := 9) hL.tail.tail.tail (by kernel_rfl) (by kernel_rfl) Tryd.underlying62 rowErr Tryd.underlying109 Tryd.underlying111 rfl rfl Tryd.underlying9 (by kernel_rfl) (by kernel_rfl)
    exact ⟨_, _, hv⟩
  ml := Tryd.laysM145.s1_3 W hS

/-- The cells of a table's data. -/
def cellsOfData (d : DataW Unit) : Array Value := match d with
  | .agg l => (l.map fun x => match x with
    | .lit (.int k n) => Value.int k n
    | _ => undef).toArray
  | _ => #[]
def putVar (h : Array Obj) (g : Nat) (cs : Array Value) : Array Obj := h.modify g fun
  | .cells _ t frozen => .cells cs t frozen
  | o => o
/-- A world in which the variables hold what the program's text lays. -/
noncomputable def laidWorld (os : Os) : World :=
  let N := (World.settled Tryd.prog os).heap.size
  let w0 := World.holding Tryd.prog os ⟨#[
    .cells #[.string ⟨#[118, 97, 108, 117, 101, 32, 111, 117, 116, 32, 111, 102, 32, 114, 97, 110, 103, 101]⟩] 111,
    .cells #[.string ⟨#[105, 110, 118, 97, 108, 105, 100, 32, 115, 121, 110, 116, 97, 120]⟩] 111], #[], []⟩
  let h1 := putVar w0.heap 6 (cellsOfData Rows.laid_math_bits_deBruijn32tab)
  let h2 := putVar h1 7 (cellsOfData Rows.laid_math_bits_deBruijn64tab)
  let h3 := putVar h2 2 (cellsOfData Rows.laid_internal_strconv_uint64pow10)
  let h4 := putVar h3 5 #[.iface 109 (.pointer (some ⟨N, 0, none⟩))]
  let h5 := putVar h4 4 #[.iface 109 (.pointer (some ⟨N + 1, 0, none⟩))]
  { w0 with heap := h5 }
theorem laid_met (os : Os) (args : Array Value) : laidMet Tryd.prog Rows.confBackRow.laid ((laidWorld os).forCall (fun _ _ => 0) ⟨#[], args, []⟩).memory :=
  laidMet_of_run' 8 (by kernel_rfl) (by kernel_rfl)
end Go.Proofs.YtmdfikpngbbdmaaDoor
