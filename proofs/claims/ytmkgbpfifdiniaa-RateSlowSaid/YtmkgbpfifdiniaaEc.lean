/- Stamp over this translation. -/
import Derived.Test.YtmkgbpfifdiniaaEb
set_option linter.unusedVariables false
namespace Go.Proofs.Ytmkgbpfifdiniaa
open Go.RowKit Pl

theorem gr_set_new {a w : World} {row : Option Nat} {g : Nat} (h : a.grownBy w row) (hg : a.heap.size ≤ g) (i : Nat) (u : Value) : a.grownBy (w.setCell ⟨g, i, none⟩ u) row :=
  ⟨h.os, h.tape, h.output, Nat.le_trans h.size (by simp [World.setCell]), fun k hk hr => (Below.heap_setCell _ _ _ _ (by show k ≠ g; omega)).trans (h.block k hk hr)⟩
theorem gr_sets_new {a : World} {row : Option Nat} {g : Nat} (hg : a.heap.size ≤ g) : ∀ (vs : List Value) (o : Nat) (w : World), a.grownBy w row → a.grownBy (w.setCells g o vs) row
  | [], _, _, h => h
  | v :: r, o, w, h => gr_sets_new hg r (o + 1) _ (gr_set_new h hg o v)

/-- What a stamp leaves: the sampler, all other blocks as they were. -/
structure StampPost (w : World) (b : Nat) (t : St) (s : RaS) (e : Ending) (w' : World) : Prop where
  e : e = .returned (.agg t.cells)
  blk : RaAt w' b s
  gr : w.grownBy w' (some b)

set_option maxHeartbeats 2000000 in
theorem ra_Stamp_some (b now fl : Nat) (s : RaS) (w : World) (h : RaAt w b s) (hf : fl ≠ 0) :
    Calls Try.prog 7 #[.pointer (some ⟨b, 0, none⟩), .int .u64 (now : Int), .int .u64 (fl : Int)] w (StampPost w b (s.stampT now) s) := by
  have HB := Lib.hid (Blk.new w 32 #[.int .u64 0, .int .u64 0, .int .u64 0, .int .u64 0, .bool false])
  have HG := Lib.hid (gr_alloc (gr_refl w (some b)) (.cells #[.int .u64 0, .int .u64 0, .int .u64 0, .int .u64 0, .bool false] 32))
  have HC := Lib.hid (Blk.alloc h (.cells #[.int .u64 0, .int .u64 0, .int .u64 0, .int .u64 0, .bool false] 32))
  have HN : Hid (w.heap.size ≠ b) := Lib.hid (by have := Blk.lt h; omega)
  have k0 := HC.out.cell (i := 0) (v := .int .u64 (s.n : Int)) rfl
  have k1 := HC.out.cell (i := 1) (v := .int .u64 (s.last : Int)) rfl
  have k2 := HC.out.cell (i := 2) (v := .int .u64 (s.first : Int)) rfl
  have k3 := HC.out.cell (i := 3) (v := .int .u64 (s.mark : Int)) rfl
  have z0 := HB.out.cell (i := 0) (v := .int .u64 0) rfl
  have z1 := HB.out.cell (i := 1) (v := .int .u64 0) rfl
  have z2 := HB.out.cell (i := 2) (v := .int .u64 0) rfl
  have z3 := HB.out.cell (i := 3) (v := .int .u64 0) rfl
  have z4 := HB.out.cell (i := 4) (v := .bool false) rfl
  have y0 := HB.out.free 0
  have y1 := HB.out.free 1
  have y2 := HB.out.free 2
  have y3 := HB.out.free 3
  have y4 := HB.out.free 4
  have hlt := Blk.lt h
  have hc : ((fl : Int) == 0) = false := beq_eq_false_iff_ne.2 (by omega)
  clear h hf
  obtain ⟨m, hm⟩ : ∃ m : Bool, decide (s.mark ≠ 0) = m := ⟨_, rfl⟩
  have HM : Hid (((s.mark : Int) != 0) = m) := Lib.hid (by rw [← hm]; by_cases c : s.mark = 0 <;> simp [c])
  have HT : Hid ((s.stampT now).cells = #[.int .u64 (now : Int), .int .u64 (s.first : Int), .int .u64 (s.n : Int), .int .u64 (s.last : Int), .bool m]) := Lib.hid (by unfold RaS.stampT St.cells; rw [hm])
  clear hm
  go_enter Try.func7, Try.ntmps7
  go_wp2_with fail
  generalize (w.alloc (.cells #[.int .u64 0, .int .u64 0, .int .u64 0, .int .u64 0, .bool false] 32)) = wa at *
  go_region
  go_wp2_with fail
  rw [HM.out]
  have F1 := (Blk.whole [.int .u64 (now : Int), .int .u64 (s.first : Int), .int .u64 (s.n : Int), .int .u64 (s.last : Int), .bool m] HB.out rfl).drew
  refine bodyPost_ret (results_cell rfl _ _ w.heap.size 32 _ _ rfl F1 Try.underlying32 rfl (by kernel_rfl)) rfl ⟨by rw [HT.out], ?_, ?_⟩
  · exact (Blk.sets_other (fun e => HN.out e.symm) [.int .u64 (now : Int), .int .u64 (s.first : Int), .int .u64 (s.n : Int), .int .u64 (s.last : Int), .bool m] 0 _ HC.out).drew
  · exact gr_drew (gr_sets_new (Nat.le_refl _) [.int .u64 (now : Int), .int .u64 (s.first : Int), .int .u64 (s.n : Int), .int .u64 (s.last : Int), .bool m] 0 _ HG.out)

set_option maxHeartbeats 2000000 in
theorem ra_Stamp_zero (b now : Nat) (s : RaS) (w : World) (h : RaAt w b s) :
    Calls Try.prog 7 #[.pointer (some ⟨b, 0, none⟩), .int .u64 (now : Int), .int .u64 0] w (StampPost w b ((s.stampS now 0).stampT now) (s.stampS now 0)) := by
  have HN : Hid (w.heap.size ≠ b) := Lib.hid (by have := Blk.lt h; omega)
  have HB2 : Hid (Blk (((w.setCell ⟨b, 2, none⟩ (.int .u64 (now : Int))).setCell ⟨b, 1, none⟩ (.int .u64 (now : Int))).alloc (.cells #[.int .u64 0, .int .u64 0, .int .u64 0, .int .u64 0, .bool false] 32)) w.heap.size 32 #[.int .u64 0, .int .u64 0, .int .u64 0, .int .u64 0, .bool false]) := Lib.hid (by
    have := Blk.new ((w.setCell ⟨b, 2, none⟩ (.int .u64 (now : Int))).setCell ⟨b, 1, none⟩ (.int .u64 (now : Int))) 32 #[.int .u64 0, .int .u64 0, .int .u64 0, .int .u64 0, .bool false]
    have e : ((w.setCell ⟨b, 2, none⟩ (.int .u64 (now : Int))).setCell ⟨b, 1, none⟩ (.int .u64 (now : Int))).heap.size = w.heap.size := by simp [World.setCell]
    rw [e] at this
    exact this)
  have HC2 : Hid (Blk _ b 44 (s.stampS now 0).cells) := Lib.hid (((Blk.set h 2 (.int .u64 (now : Int))).set 1 (.int .u64 (now : Int))).alloc (.cells #[.int .u64 0, .int .u64 0, .int .u64 0, .int .u64 0, .bool false] 32))
  have HG2 := Lib.hid (gr_alloc (gr_set (gr_set (gr_refl w (some b)) 2 (.int .u64 (now : Int))) 1 (.int .u64 (now : Int))) (.cells #[.int .u64 0, .int .u64 0, .int .u64 0, .int .u64 0, .bool false] 32))
  have h1 := Blk.cell h (i := 1) (v := .int .u64 (s.last : Int)) rfl
  have h2 := Blk.cell h (i := 2) (v := .int .u64 (s.first : Int)) rfl
  have hb1 := Blk.free h 1
  have hb2 := Blk.free h 2
  have hlt := Blk.lt h
  clear h
  obtain ⟨m, hm⟩ : ∃ m : Bool, decide (s.mark ≠ 0) = m := ⟨_, rfl⟩
  have HM : Hid (((s.mark : Int) != 0) = m) := Lib.hid (by rw [← hm]; by_cases c : s.mark = 0 <;> simp [c])
  have HT : Hid (((s.stampS now 0).stampT now).cells = #[.int .u64 (now : Int), .int .u64 (now : Int), .int .u64 (s.n : Int), .int .u64 (now : Int), .bool m]) := Lib.hid (by unfold RaS.stampT St.cells RaS.stampS; rw [if_pos rfl]; simp only [hm])
  clear hm
  go_enter Try.func7, Try.ntmps7
  go_wp2_with fail
  generalize (((w.setCell ⟨b, 2, none⟩ (.int .u64 (now : Int))).setCell ⟨b, 1, none⟩ (.int .u64 (now : Int))).alloc (.cells #[.int .u64 0, .int .u64 0, .int .u64 0, .int .u64 0, .bool false] 32)) = wb at *
  have k0 := HC2.out.cell (i := 0) (v := .int .u64 (s.n : Int)) rfl
  have k1 := HC2.out.cell (i := 1) (v := .int .u64 (now : Int)) rfl
  have k2 := HC2.out.cell (i := 2) (v := .int .u64 (now : Int)) rfl
  have k3 := HC2.out.cell (i := 3) (v := .int .u64 (s.mark : Int)) rfl
  have z0 := HB2.out.cell (i := 0) (v := .int .u64 0) rfl
  have z1 := HB2.out.cell (i := 1) (v := .int .u64 0) rfl
  have z2 := HB2.out.cell (i := 2) (v := .int .u64 0) rfl
  have z3 := HB2.out.cell (i := 3) (v := .int .u64 0) rfl
  have z4 := HB2.out.cell (i := 4) (v := .bool false) rfl
  have y0 := HB2.out.free 0
  have y1 := HB2.out.free 1
  have y2 := HB2.out.free 2
  have y3 := HB2.out.free 3
  have y4 := HB2.out.free 4
  go_region
  go_wp2_with fail
  rw [HM.out]
  have F1 := (Blk.whole [.int .u64 (now : Int), .int .u64 (now : Int), .int .u64 (s.n : Int), .int .u64 (now : Int), .bool m] HB2.out rfl).drew
  refine bodyPost_ret (results_cell rfl _ _ w.heap.size 32 _ _ rfl F1 Try.underlying32 rfl (by kernel_rfl)) rfl ⟨by rw [HT.out], ?_, ?_⟩
  · exact (Blk.sets_other (fun e => HN.out e.symm) [.int .u64 (now : Int), .int .u64 (now : Int), .int .u64 (s.n : Int), .int .u64 (now : Int), .bool m] 0 _ HC2.out).drew
  · exact gr_drew (gr_sets_new (Nat.le_refl _) [.int .u64 (now : Int), .int .u64 (now : Int), .int .u64 (s.n : Int), .int .u64 (now : Int), .bool m] 0 _ HG2.out)

theorem ra_Stamp (b now fl : Nat) (s : RaS) (w : World) (h : RaAt w b s) :
    Calls Try.prog 7 #[.pointer (some ⟨b, 0, none⟩), .int .u64 (now : Int), .int .u64 (fl : Int)] w (StampPost w b ((s.stampS now fl).stampT now) (s.stampS now fl)) := by
  by_cases c : fl = 0
  · subst c
    exact ra_Stamp_zero b now s w h
  · have e : s.stampS now fl = s := by unfold RaS.stampS; rw [if_neg c]
    rw [e]
    exact ra_Stamp_some b now fl s w h c
end Go.Proofs.Ytmkgbpfifdiniaa
