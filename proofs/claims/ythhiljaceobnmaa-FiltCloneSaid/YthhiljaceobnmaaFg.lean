/- Contracts of package filt over this translation: Clone; no filter. -/
import Derived.Test.YthhiljaceobnmaaFf
set_option linter.unusedVariables false
namespace Go.Proofs.Ythhiljaceobnmaa
open Go.RowKit Pl

set_option maxHeartbeats 400000 in
theorem fl_Clone (a b g : Nat) (f : FS) (w : World) (h : FlAt w a b g f) :
    Calls Try.prog 12 #[.pointer (some ⟨a, 0, none⟩)] w (FMade w f) := by
  have HF : Hid (FlAt (w.alloc (.cells #[.pointer (some ⟨b, 0, none⟩), .int .u64 (f.win : Int), .int .u64 (f.t : Int), .bool f.least] 49)) a b g f) := Lib.hid ⟨h.head.alloc _, h.row.alloc _⟩
  have HC : Hid (Blk (w.alloc (.cells #[.pointer (some ⟨b, 0, none⟩), .int .u64 (f.win : Int), .int .u64 (f.t : Int), .bool f.least] 49)) w.heap.size 49 (fcells b f)) := Lib.hid (Blk.new _ _ _)
  have HB : Hid (Below w.heap.size w (w.alloc (.cells #[.pointer (some ⟨b, 0, none⟩), .int .u64 (f.win : Int), .int .u64 (f.t : Int), .bool f.least] 49))) := Lib.hid ((Below.refl _ _).alloc (Nat.le_refl _) _)
  have HK := Lib.hid (rd_clone b g f.l _ HF.out.row)
  have a0 := h.head.cell (i := 0) (v := .pointer (some ⟨b, 0, none⟩)) rfl
  have a1 := h.head.cell (i := 1) (v := .int .u64 (f.win : Int)) rfl
  have a2 := h.head.cell (i := 2) (v := .int .u64 (f.t : Int)) rfl
  have a3 := h.head.cell (i := 3) (v := .bool f.least) rfl
  have b0 := HF.out.head.cell (i := 0) (v := .pointer (some ⟨b, 0, none⟩)) rfl
  clear h
  go_enter Try.func12, Try.ntmps12
  go_wp2_with fail
  generalize (w.alloc (.cells #[.pointer (some ⟨b, 0, none⟩), .int .u64 (f.win : Int), .int .u64 (f.t : Int), .bool f.least] 49)) = w1 at *
  refine (HK.out).mono ?_
  rintro e w2 ⟨⟨b', g', rfl, hr, hb', hg'⟩, hbel⟩
  have HR := Lib.hid hr
  have HC2 := Lib.hid (HC.out.keep hbel)
  have HB2 := Lib.hid (bel_to HB.out hbel HB.out.size)
  have HS := Lib.hid HB.out.size
  have c0 := HC2.out.cell (i := 0) (v := .pointer (some ⟨b, 0, none⟩)) rfl
  have c1 := HC2.out.free 0
  clear hr hbel HK a0 a1 a2 a3 b0
  go_wp2_with fail
  go_ret
  have hlt := HC.out.lt
  have hb2 : b' ≠ w.heap.size := by omega
  have hg2 : g' ≠ w.heap.size := by omega
  have := HS.out
  refine ⟨⟨w.heap.size, b', g', rfl, ⟨?_, HR.out.set_other hb2 hg2⟩, Nat.le_refl _, by omega, by omega⟩, HB2.out.setCell (p := ⟨w.heap.size, 0, none⟩) (Nat.le_refl _) _⟩
  have := HC2.out.set 0 (.pointer (some ⟨b', 0, none⟩))
  simpa [fcells] using this

theorem fl_Best_nil (w : World) : Calls Try.prog 9 #[.pointer none] w fun e w' => e = .returned (.tuple #[.int .u64 0, .int .u64 0, .bool false]) ∧ w = w' := by
  go_enter Try.func9, Try.ntmps9
  go_wp2_with fail
  go_ret3
  exact ⟨rfl, rfl⟩
theorem fl_To_nil (t : Int) (w : World) : Calls Try.prog 7 #[.pointer none, .int .u64 t] w fun e w' => e = .returned (.int .i64 1) ∧ w = w' := by
  go_enter Try.func7, Try.ntmps7
  go_wp2_with fail
  go_ret
  exact ⟨rfl, rfl⟩
theorem fl_Put_nil (t x : Int) (w : World) : Calls Try.prog 8 #[.pointer none, .int .u64 t, .int .u64 x] w fun e w' => e = .returned (.int .i64 1) ∧ w = w' := by
  go_enter Try.func8, Try.ntmps8
  go_wp2_with (go_at_call 7; refine (fl_To_nil t w).mono ?_; rintro e w' ⟨rfl, rfl⟩)
  go_ret
  exact ⟨rfl, rfl⟩
theorem fl_Time_nil (w : World) : Calls Try.prog 10 #[.pointer none] w fun e w' => e = .returned (.int .u64 0) ∧ w = w' := by
  go_enter Try.func10, Try.ntmps10
  go_wp2_with fail
  go_ret
  exact ⟨rfl, rfl⟩
theorem fl_Clone_nil (w : World) : Calls Try.prog 12 #[.pointer none] w fun e w' => e = .returned (.pointer none) ∧ w = w' := by
  go_enter Try.func12, Try.ntmps12
  go_wp2_with fail
  go_ret
  exact ⟨rfl, rfl⟩

/-- A filter of a kind. -/
theorem law_of (win : Nat) (s : Bool) (w : World) : Calls Try.prog 6 #[.int .u64 (win : Int), .bool s] w (FMade w ⟨win, 0, s, []⟩) := by
  rcases s
  · go_enter Try.func6, Try.ntmps6
    go_wp2_with fail
    refine (fl_Most win w).mono ?_
    rintro e w1 ⟨⟨a, b, g, rfl, hr, ha, hb, hg⟩, hbel⟩
    have HR := Lib.hid hr
    have HB := Lib.hid hbel
    clear hr hbel
    go_wp2_with fail
    go_ret
    exact ⟨⟨a, b, g, rfl, HR.out, ha, hb, hg⟩, HB.out⟩
  · go_enter Try.func6, Try.ntmps6
    go_wp2_with fail
    refine (fl_Least win w).mono ?_
    rintro e w1 ⟨⟨a, b, g, rfl, hr, ha, hb, hg⟩, hbel⟩
    have HR := Lib.hid hr
    have HB := Lib.hid hbel
    clear hr hbel
    go_wp2_with fail
    go_ret
    exact ⟨⟨a, b, g, rfl, HR.out, ha, hb, hg⟩, HB.out⟩
end Go.Proofs.Ythhiljaceobnmaa
