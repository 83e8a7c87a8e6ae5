/- Contracts of package filt over this translation: last, forget, enter. -/
import Derived.Test.YthhiljaceobnmaaFb
import Derived.Outline
set_option linter.unusedVariables false
namespace Go.Proofs.Ythhiljaceobnmaa
open Go.RowKit Pl

set_option maxHeartbeats 400000 in
theorem fl_last (a b g : Nat) (f : FS) (w : World) (h : FlAt w a b g f) :
    Calls Try.prog 27 #[.pointer (some ⟨a, 0, none⟩)] w fun e w' => e = rdgot (f.l.getLastD Itm.z) (!f.l.isEmpty) ∧ Below w.heap.size w w' := by
  have HB := Lib.hid (show Blk (w.alloc (.cells #[.int .u64 0, .int .u64 0] 52)) w.heap.size 52 #[.int .u64 0, .int .u64 0] from Blk.new _ _ _)
  have HR := Lib.hid (h.row.alloc (.cells #[.int .u64 0, .int .u64 0] 52))
  have HA := Lib.hid (h.head.alloc (.cells #[.int .u64 0, .int .u64 0] 52))
  have HW : Hid (Below w.heap.size w (w.alloc (.cells #[.int .u64 0, .int .u64 0] 52))) := Lib.hid ((Below.refl _ _).alloc (Nat.le_refl _) _)
  have a0 := HA.out.drew.cell (i := 0) (v := .pointer (some ⟨b, 0, none⟩)) rfl
  have HZ : Hid (a ≠ w.heap.size) := Lib.hid h.head.old
  have hlen := h.row.len
  clear h
  have HL := Lib.hid (rd_len b g f.l (w.alloc (.cells #[.int .u64 0, .int .u64 0] 52)).drew (HR.out.drawn (Drawn.drew _)))
  have HQ := Lib.hid (rd_lastone b g f.l (w.alloc (.cells #[.int .u64 0, .int .u64 0] 52)).drew (HR.out.drawn (Drawn.drew _)))
  generalize f.l.getLastD Itm.z = x at *
  generalize (!f.l.isEmpty) = o at *
  generalize f.l.length = n at *
  have HWR : Hid (IntKind.i64.wrap ((n : Int) - 1) = (n : Int) - 1) := Lib.hid (by rw [IntKind.wrap_i64]; omega)
  go_enter Try.func27, Try.ntmps27
  go_wp2_with fail
  generalize (w.alloc (.cells #[.int .u64 0, .int .u64 0] 52)) = wa at *
  go_region_held3 (fun w' => w'.cell? ⟨a, 0, none⟩ = some (.pointer (some ⟨b, 0, none⟩)))
    (first | exact a0 | exact b0 | exact (far (far b0 HZ.out) HZ.out))
    (first | (go_at_call 30; refine (HL.out).mono ?_; rintro e w' ⟨rfl, rfl⟩) | (go_at_call 18; rw [HWR.out]; refine (HQ.out).mono ?_; rintro e w' ⟨rfl, hd⟩; have HD := Lib.hid hd; clear hd; have HB2 := Lib.hid (HB.out.drew.keep HD.out); have r0 := HB2.out.cell (i := 0) (v := .int .u64 0) rfl; have r1 := HB2.out.cell (i := 1) (v := .int .u64 0) rfl; have f0 := HB2.out.free 0; have f1 := HB2.out.free 1; unfold rdgot Rd.agg; have b0 := (HD.out.cell (p := ⟨a, 0, none⟩) (World.block_lt_of_cell? _ _ a0)).trans a0))
  go_wp2_with fail
  have F1 := Blk.whole (Itm.cs x) HB2.out rfl
  refine bodyPost_ret (results_cell_tmp rfl _ _ w.heap.size 52 _ _ rfl F1 Try.underlying52 rfl (by kernel_rfl)) rfl ⟨rfl, ?_⟩
  exact Below.sets (Nat.le_refl _) (Itm.cs x) 0 w' (HW.out.trans ((((Drawn.drew wa).below _).trans (HD.out.mono (Nat.le_refl _))).mono HW.out.size))
end Go.Proofs.Ythhiljaceobnmaa
