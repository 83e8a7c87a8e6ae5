/- Contracts of package rate over this translation: a sampler is a block of four cells; perSecond, older, New, Delivered, Stamp, Limit. -/
import Derived.Test.YtmkgbpfifdiniaaEa
import Derived.Test.YtmkgbpfifdiniaaSub
import Derived.Test.YtmkgbpfifdiniaaFixS
import Derived.BigRegion
import Derived.Deep.RegionHeld3
set_option linter.unusedVariables false
namespace Go.Proofs.Ytmkgbpfifdiniaa
open Go.RowKit Pl

/-- One result: a struct that lies in memory. -/
theorem results_cell {P : Program} {fn : Func} {p : Tmp} {ty : TypeId} (h : fn.results = #[.cell p ty]) (tmps : Array Value) (w : World) (g : Nat) (T : TypeId) (cs : Array Value) (d : TypeDesc)
    (hp : tmps.getD p undef = .pointer (some ⟨g, 0, none⟩)) (hg : Blk w g T cs)
    (hu : P.underlying ty = some d) (hd : (match d with | .struct _ | .array _ _ => true | _ => false) = true) (hi : (P.info? ty).map (·.size) = some cs.size) :
    (results fn tmps).run P w = .ok (.agg cs) w := by
  have hp' : tmps[p]?.getD undef = .pointer (some ⟨g, 0, none⟩) := by simpa using hp
  simp [results, h, hp', asAddr, run_loadVar_row w g T ty cs (0, 0) d hg hu hd hi]

/-- A sampler in memory. -/
def RaAt (w : World) (b : Nat) (s : RaS) : Prop := Blk w b 44 s.cells

theorem ra_perSecond (d i : Nat) (w : World) (hd : d ≤ 18446744073709551615) (hi : i ≤ 18446744073709551615) :
    Calls Try.prog 19 #[.int .u64 (d : Int), .int .u64 (i : Int)] w fun e w' => e = .returned (.int .u64 ((perS d i : Nat) : Int)) ∧ Drawn w w' := by
  by_cases c : i = 0
  · subst c
    have hc : (((0 : Nat) : Int) == 0) = true := rfl
    go_enter Try.func19, Try.ntmps19
    go_wp2
    go_ret
    exact ⟨rfl, Drawn.refl _⟩
  · have hc : ((i : Int) == 0) = false := beq_eq_false_iff_ne.2 (by omega)
    have HN := Lib.hid c
    have HS := Lib.hid (fix_Share_n d 1000000 i w hd (by omega) hi)
    clear c
    have HP : Hid (perS d i = shareS d 1000000 i) := Lib.hid (by unfold perS; rw [if_neg HN.out])
    generalize shareS d 1000000 i = q at *
    go_enter Try.func19, Try.ntmps19
    go_wp2_with (go_at_call 10; refine (HS.out).mono ?_; rintro e w' ⟨rfl, k⟩)
    go_ret
    exact ⟨ret_u64 (by rw [HP.out]), k⟩

theorem ra_older (a b : St) (w : World) :
    Calls Try.prog 17 #[.agg a.cells, .agg b.cells] w fun e w' => e = .returned (.bool (olderB a b)) ∧ Below w.heap.size w w' := by
  unfold olderB St.cells
  by_cases c : a.deliv = b.deliv
  · rw [if_pos c]
    have hc : ((a.deliv : Int) == (b.deliv : Int)) = true := by rw [c]; simp
    clear c
    go_enter Try.func17, Try.ntmps17
    go_wp2
    go_ret
    exact ⟨by simp, ((Below.refl _ _).alloc (Nat.le_refl _) _).alloc (by simp) _⟩
  · rw [if_neg c]
    have hc : ((a.deliv : Int) == (b.deliv : Int)) = false := beq_eq_false_iff_ne.2 (by omega)
    clear c
    go_enter Try.func17, Try.ntmps17
    go_wp2
    go_ret
    exact ⟨by simp, ((Below.refl _ _).alloc (Nat.le_refl _) _).alloc (by simp) _⟩

theorem ra_New (w : World) : Calls Try.prog 6 #[] w fun e w' => e = .returned (.pointer (some ⟨w.heap.size, 0, none⟩)) ∧ w.alloc (.cells RaS.zero.cells 44) = w' := by
  go_enter Try.func6, Try.ntmps6
  go_wp2
  go_ret
  exact ⟨rfl, rfl⟩

theorem ra_Delivered (b : Nat) (s : RaS) (w : World) (h : RaAt w b s) :
    Calls Try.prog 11 #[.pointer (some ⟨b, 0, none⟩)] w fun e w' => e = .returned (.int .u64 (s.n : Int)) ∧ w = w' := by
  have h0 := Blk.cell h (i := 0) (v := .int .u64 (s.n : Int)) rfl
  clear h
  go_enter Try.func11, Try.ntmps11
  go_wp2
  go_ret
  exact ⟨rfl, rfl⟩
theorem ra_Delivered_nil (w : World) :
    Calls Try.prog 11 #[.pointer none] w fun e w' => e = .returned (.int .u64 0) ∧ w = w' := by
  go_enter Try.func11, Try.ntmps11
  go_wp2
  go_ret
  exact ⟨rfl, rfl⟩
theorem ra_Limit_nil (v : Value) (w : World) :
    Calls Try.prog 8 #[.pointer none, v] w fun e w' => e = .returned (.tuple #[]) ∧ w = w' := by
  go_enter Try.func8, Try.ntmps8
  go_wp2
  exact bodyPost_ret (v := .tuple #[]) (by simp [results, Try.results8, go_sem]) rfl ⟨rfl, rfl⟩
theorem ra_Stamp_nil (v u : Value) (w : World) :
    Calls Try.prog 7 #[.pointer none, v, u] w fun e w' => e = .returned (.agg (St.cells ⟨0, 0, 0, 0, false⟩)) ∧ Below w.heap.size w w' := by
  have HB := Lib.hid (Blk.new w 32 (St.cells ⟨0, 0, 0, 0, false⟩))
  have HW := Lib.hid ((Below.refl w.heap.size w).alloc (Nat.le_refl _) (.cells (St.cells ⟨0, 0, 0, 0, false⟩) 32))
  unfold St.cells at *
  go_enter Try.func7, Try.ntmps7
  go_wp2
  exact bodyPost_ret (results_cell rfl _ _ w.heap.size 32 _ _ rfl HB.out Try.underlying32 rfl (by kernel_rfl)) rfl ⟨rfl, HW.out⟩
theorem ra_Ack_nil (v u : Value) (w : World) :
    Calls Try.prog 9 #[.pointer none, v, u] w fun e w' => e = .returned (.tuple #[.agg Smp.zero.cells, .bool false]) ∧ Below w.heap.size w w' := by
  have HB := Lib.hid (Blk.new w 36 Smp.zero.cells)
  have HW := Lib.hid ((Below.refl w.heap.size w).alloc (Nat.le_refl _) (.cells Smp.zero.cells 36))
  unfold Smp.cells Smp.zero at *
  go_enter Try.func9, Try.ntmps9
  go_wp2
  exact bodyPost_ret (results_cell_tmp rfl _ _ w.heap.size 36 _ _ rfl HB.out Try.underlying36 rfl (by kernel_rfl)) rfl ⟨rfl, HW.out⟩
/-- No packets: nothing changes. -/
theorem ra_Ack_none (b c : Nat) (p : Option Addr) (v : Value) (w : World) :
    Calls Try.prog 9 #[.pointer (some ⟨b, 0, none⟩), v, .slice p 0 c] w fun e w' => e = .returned (.tuple #[.agg Smp.zero.cells, .bool false]) ∧ Below w.heap.size w w' := by
  have HB := Lib.hid (Blk.new w 36 Smp.zero.cells)
  have HW := Lib.hid ((Below.refl w.heap.size w).alloc (Nat.le_refl _) (.cells Smp.zero.cells 36))
  unfold Smp.cells Smp.zero at *
  go_enter Try.func9, Try.ntmps9
  go_wp2
  exact bodyPost_ret (results_cell_tmp rfl _ _ w.heap.size 36 _ _ rfl HB.out Try.underlying36 rfl (by kernel_rfl)) rfl ⟨rfl, HW.out⟩

set_option maxHeartbeats 400000 in
theorem ra_Limit (b fl : Nat) (s : RaS) (w : World) (h : RaAt w b s) (hs : s.ok) (hf : fl ≤ 18446744073709551615) :
    Calls Try.prog 8 #[.pointer (some ⟨b, 0, none⟩), .int .u64 (fl : Int)] w fun e w' => e = .returned (.tuple #[]) ∧ RaAt w' b (s.limit fl) ∧ w.grownBy w' (some b) := by
  have h0 := Blk.cell h (i := 0) (v := .int .u64 (s.n : Int)) rfl
  have h3 := Blk.cell h (i := 3) (v := .int .u64 (s.mark : Int)) rfl
  have f3 := Blk.free h 3
  have hlt := Blk.lt h
  have HH := Lib.hid h
  have hn := hs.n
  have HA := Lib.hid (fix_Add2_n w w.heap.size 2 s.n fl rfl hn hf)
  have HB : Hid (Blk (w.alloc (.cells #[.int .u64 (s.n : Int), .int .u64 (fl : Int)] 27)) b 44 s.cells) := Lib.hid (Blk.alloc h _)
  have HL : Hid ((s.limit fl).mark = max (addS s.n fl) 1) := Lib.hid rfl
  have HZ : Hid (s.limit fl = ⟨s.n, s.last, s.first, (s.limit fl).mark⟩) := Lib.hid rfl
  clear h hs
  generalize (s.limit fl).mark = M at *
  generalize s.limit fl = s' at *
  generalize addS s.n fl = m at *
  have HM : Hid (max (m : Int) 1 = (M : Int)) := Lib.hid (by have := HL.out; omega)
  go_enter Try.func8, Try.ntmps8
  go_wp2_with (go_at_call 12; refine (HA.out).mono ?_; rintro e w' ⟨rfl, rfl⟩)
  go_end0
  have := (Blk.set HH.out 3 (.int .u64 (max (m : Int) 1))).alloc (.cells #[.int .u64 (s.n : Int), .int .u64 (fl : Int)] 27)
  refine ⟨rfl, ?_, gr_alloc (gr_set (gr_refl _ _) _ _) _⟩
  rw [HZ.out]
  rw [HM.out] at this ⊢
  exact this
end Go.Proofs.Ytmkgbpfifdiniaa
