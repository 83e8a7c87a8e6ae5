/- Contracts of package ring over this translation, for rows of goit/filt.reading: New, Clone, no row. -/
import Derived.Test.YthhiljaceobnmaaQrc
set_option linter.unusedVariables false
namespace Go.Proofs.Ythhiljaceobnmaa
open Go.RowKit

structure RdNew (w : World) (s : QS Rd) (e : Ending) (w' : World) : Prop where
  at_ : ∃ b g, e = .returned (.pointer (some ⟨b, 0, none⟩)) ∧ RdAt w' b g s ∧ w.heap.size ≤ b ∧ w.heap.size ≤ g
  bel : Below w.heap.size w w'

set_option maxHeartbeats 1000000 in
theorem rd_New (v : Option Addr) (cap : Nat) (l : List Rd) (w : World) (h : Its w v l) (hn : l.length ≤ 100000) :
    Calls Try.prog 23 #[.slice v l.length cap] w (RdNew w ⟨l, 0, l.length⟩) := by
  have HH := Lib.hid h
  have hmk := rd_mk l.length hn
  have hsz : (Try.prog.info? 52).map (·.size) = some 2 := by kernel_rfl
  clear h
  have HB : Hid (Below w.heap.size w (w.alloc (.cells (icells (List.replicate l.length (Itm.z (α := Rd)))) 52))) := Lib.hid ((Below.refl _ _).alloc (Nat.le_refl _) _)
  have HBk : Hid (Blk (w.alloc (.cells (icells (List.replicate l.length (Itm.z (α := Rd)))) 52)) w.heap.size 52 (icells (List.replicate l.length (Itm.z (α := Rd))))) := Lib.hid (Blk.new _ _ _)
  have HNc := Lib.hid (HH.out.keep HB.out)
  have HC1 : Hid ((l.flatMap (Itm.cs (α := Rd))).length = l.length * 2) := Lib.hid (icells_len l)
  have HC2 : Hid ((icells (List.replicate l.length (Itm.z (α := Rd)))).size = l.length * 2) := Lib.hid (by rw [icells_size, List.length_replicate]; rfl)
  go_enter Try.func23, Try.ntmps23
  go_wp2_with ((refine wpList_copy_items rfl (.tmp 7) (.tmp 8) 61 61 rfl 52 Try.underlying61 2 (by decide) hsz l.length v l.length cap w.heap.size rfl rfl (icells (List.replicate l.length (Itm.z (α := Rd)))) 52 HBk.out (l.flatMap (Itm.cs (α := Rd))) HC1.out HC2.out (fun hp => (HNc.out).cells hp) (one_items l) w.heap.size w HB.out (Nat.le_refl _) ?_); intro w2 h2 hb2)
  have HW := Lib.hid hb2
  have H2 : Hid (Blk w2 w.heap.size 52 (icells l)) := h2
  clear h2 hb2 hmk
  go_wp2_with fail
  go_ret
  refine ⟨⟨w2.heap.size, w.heap.size, rfl, ⟨?_, ?_⟩, HW.out.size, Nat.le_refl _⟩, HW.out.alloc HW.out.size _⟩
  · exact Blk.new _ _ _
  · exact H2.out.alloc _

set_option maxHeartbeats 400000 in
theorem rd_Clone (b g : Nat) (s : QS Rd) (w : World) (h : RdAt w b g s) (ho : s.ok) :
    Calls Try.prog 21 #[.pointer (some ⟨b, 0, none⟩)] w (RdNew w s) := by
  have HH := Lib.hid h
  have c0 := h.head.cell (i := 0) (v := .slice (some ⟨g, 0, none⟩) s.pl.length s.pl.length) rfl
  have HC := Lib.hid (rd_New (some ⟨g, 0, none⟩) s.pl.length s.pl w (Its.of_blk h.body) ho.m)
  have hbl := h.head.lt
  clear h ho
  go_enter Try.func21, Try.ntmps21
  go_wp2_with fail
  refine (HC.out).mono ?_
  rintro e w1 ⟨⟨b', g', rfl, hr, hb', hg'⟩, hbel⟩
  have HR := Lib.hid hr
  have HW := Lib.hid hbel
  have H1 := Lib.hid (HH.out.keep hbel)
  clear hr hbel c0 HC
  have c1 := H1.out.head.cell (i := 1) (v := .int .i64 (s.first : Int)) rfl
  have c2 := H1.out.head.cell (i := 2) (v := .int .i64 (s.cnt : Int)) rfl
  have n1 := HR.out.head.cell (i := 1) (v := .int .i64 0) rfl
  have n2 := HR.out.head.cell (i := 2) (v := .int .i64 (s.pl.length : Int)) rfl
  have f1 := HR.out.head.free 1
  have f2 := HR.out.head.free 2
  have hne : b ≠ b' := by omega
  go_wp2_with fail
  go_region
  have HF : Hid (RdAt ((w1.setCell ⟨b', 1, none⟩ (.int .i64 (s.first : Int))).setCell ⟨b', 2, none⟩ (.int .i64 (s.cnt : Int))) b' g' s) := Lib.hid ⟨by
      have := (HR.out.head.set 1 (.int .i64 (s.first : Int))).set 2 (.int .i64 (s.cnt : Int))
      simpa [rdCells] using this, (HR.out.body.set_other _ _ (Ne.symm HR.out.ne)).set_other _ _ (Ne.symm HR.out.ne)⟩
  have HG := Lib.hid ((HW.out.setCell (p := ⟨b', 1, none⟩) hb' (.int .i64 (s.first : Int))).setCell (p := ⟨b', 2, none⟩) hb' (.int .i64 (s.cnt : Int)))
  go_wp2_with fail
  go_ret
  exact ⟨⟨b', g', rfl, RdAt.drawn (Drawn.drew _) HF.out, hb', hg'⟩, HG.out.trans ((Drawn.drew _).below _)⟩
end Go.Proofs.Ythhiljaceobnmaa
