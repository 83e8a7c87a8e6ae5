/- Contracts of package ring over this translation, for rows of goit/jitter.parcel: New, Clone, no row. -/
import Derived.Test.YtlhgiboajnhahaaJuc
set_option linter.unusedVariables false
namespace Go.Proofs.Ytlhgiboajnhahaa
open Go.RowKit

structure JpNew (w : World) (s : QS Jp) (e : Ending) (w' : World) : Prop where
  at_ : ∃ b g, e = .returned (.pointer (some ⟨b, 0, none⟩)) ∧ JpAt w' b g s ∧ w.heap.size ≤ b ∧ w.heap.size ≤ g
  bel : Below w.heap.size w w'

set_option maxHeartbeats 1000000 in
theorem jp_New (v : Option Addr) (cap : Nat) (l : List Jp) (w : World) (h : Its w v l) (hn : l.length ≤ 100000) :
    Calls Try.prog 17 #[.slice v l.length cap] w (JpNew w ⟨l, 0, l.length⟩) := by
  have HH := Lib.hid h
  have hmk := jp_mk l.length hn
  have hsz : (Try.prog.info? 53).map (·.size) = some 8 := by kernel_rfl
  clear h
  have HB : Hid (Below w.heap.size w (w.alloc (.cells (icells (List.replicate l.length (Itm.z (α := Jp)))) 53))) := Lib.hid ((Below.refl _ _).alloc (Nat.le_refl _) _)
  have HBk : Hid (Blk (w.alloc (.cells (icells (List.replicate l.length (Itm.z (α := Jp)))) 53)) w.heap.size 53 (icells (List.replicate l.length (Itm.z (α := Jp))))) := Lib.hid (Blk.new _ _ _)
  have HNc := Lib.hid (HH.out.keep HB.out)
  have HC1 : Hid ((l.flatMap (Itm.cs (α := Jp))).length = l.length * 8) := Lib.hid (icells_len l)
  have HC2 : Hid ((icells (List.replicate l.length (Itm.z (α := Jp)))).size = l.length * 8) := Lib.hid (by rw [icells_size, List.length_replicate]; rfl)
  go_enter Try.func17, Try.ntmps17
  go_wp2_with ((refine wpList_copy_items rfl (.tmp 7) (.tmp 8) 64 64 rfl 53 Try.underlying64 8 (by decide) hsz l.length v l.length cap w.heap.size rfl rfl (icells (List.replicate l.length (Itm.z (α := Jp)))) 53 HBk.out (l.flatMap (Itm.cs (α := Jp))) HC1.out HC2.out (fun hp => (HNc.out).cells hp) (one_items l) w.heap.size w HB.out (Nat.le_refl _) ?_); intro w2 h2 hb2)
  have HW := Lib.hid hb2
  have H2 : Hid (Blk w2 w.heap.size 53 (icells l)) := h2
  clear h2 hb2 hmk
  go_wp2_with fail
  go_ret
  refine ⟨⟨w2.heap.size, w.heap.size, rfl, ⟨?_, ?_⟩, HW.out.size, Nat.le_refl _⟩, HW.out.alloc HW.out.size _⟩
  · exact Blk.new _ _ _
  · exact H2.out.alloc _

end Go.Proofs.Ytlhgiboajnhahaa
