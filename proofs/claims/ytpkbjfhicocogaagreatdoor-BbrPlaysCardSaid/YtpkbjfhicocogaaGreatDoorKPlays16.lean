/- 2 texts put together: what each one says stands ahead of it. -/
import Derived.Test.YtpkbjfhicocogaaGreatDoorKPlays10
import Derived.Test.YtpkbjfhicocogaaGreatDoorKPlays08
import Derived.Test.YtpkbjfhicocogaaGreatDoorKPlays15
import Derived.BigRegion
import Derived.Deep.RegionHeld3
import Derived.Deep.LoopGhost
/- Contracts of package bound over this translation: bounds are three numbers. -/
set_option linter.unusedVariables false
namespace Go.Proofs.YtpkbjfhicocogaaGreatDoor
open Go.RowKit Pl

structure BS where
  hi : Nat
  lo : Nat
  bw : Nat
deriving DecidableEq
def BS.cells (b : BS) : Array Value := #[.int .u64 (b.hi : Int), .int .u64 (b.lo : Int), .int .u64 (b.bw : Int)]
structure BS.ok (b : BS) : Prop where
  hi : b.hi ≤ 18446744073709551615
  lo : b.lo ≤ 18446744073709551615
  bw : b.bw ≤ 18446744073709551615
def BS.none : BS := ⟨18446744073709551615, 18446744073709551615, 18446744073709551615⟩
def leftS (x : Nat) : Nat := shareS x 7 10
/-- What was there, or another one, where it was none. -/
def orS (x y : Nat) : Nat := if x = 18446744073709551615 then y else x
def BS.lose (b : BS) (f r h : Nat) : BS := ⟨b.hi, max f (leftS (orS b.lo h)), max r (leftS (orS b.bw r))⟩
def BS.pull (b : BS) (f t : Nat) : BS := ⟨max f (leftS t), b.lo, b.bw⟩
def BS.push (b : BS) (n : Nat) : BS := ⟨if b.hi = 18446744073709551615 then b.hi else min (addS b.hi n) 18446744073709551614, b.lo, b.bw⟩
def BS.short (b : BS) : BS := ⟨b.hi, 18446744073709551615, 18446744073709551615⟩
def mins (x : Nat) (l : List Nat) : Nat := l.foldl min x
def BS.cap (b : BS) (l : List Nat) : Nat := mins (min b.hi b.lo) l
def BS.room (b : BS) : Nat := if b.hi = 18446744073709551615 then 18446744073709551615 else shareS b.hi 85 100
def BS.limit (b : BS) (r : Nat) : Nat := min r b.bw
theorem leftS_le (x : Nat) : leftS x ≤ 18446744073709551615 := shareS_le _ _ _
theorem orS_le {x y : Nat} (hx : x ≤ 18446744073709551615) (hy : y ≤ 18446744073709551615) : orS x y ≤ 18446744073709551615 := by unfold orS; split <;> assumption
theorem mins_app (x : Nat) (l r : List Nat) : mins x (l ++ r) = mins (mins x l) r := by simp [mins]
theorem mins_take (x : Nat) {l : List Nat} {k : Nat} (h : k < l.length) : mins x (l.take (k + 1)) = min (mins x (l.take k)) (l.getD k 0) := by
  rw [List.take_succ_eq_append_getElem h, mins_app]
  simp [mins, List.getD_eq_getElem?_getD, h]
theorem BS.lose_ok {b : BS} (hb : b.ok) {f r h : Nat} (hf : f ≤ 18446744073709551615) (hr : r ≤ 18446744073709551615) : (b.lose f r h).ok := by
  have h1 := leftS_le (orS b.lo h)
  have h2 := leftS_le (orS b.bw r)
  exact ⟨hb.hi, by dsimp [BS.lose]; omega, by dsimp [BS.lose]; omega⟩
theorem BS.pull_ok {b : BS} (hb : b.ok) {f t : Nat} (hf : f ≤ 18446744073709551615) : (b.pull f t).ok := by
  have h1 := leftS_le t
  exact ⟨by dsimp [BS.pull]; omega, hb.lo, hb.bw⟩
theorem BS.push_ok {b : BS} (hb : b.ok) (n : Nat) : (b.push n).ok := by
  have h1 := hb.hi
  exact ⟨by dsimp [BS.push]; split <;> omega, hb.lo, hb.bw⟩
theorem BS.none_ok : BS.none.ok := ⟨Nat.le_refl _, Nat.le_refl _, Nat.le_refl _⟩

/-- A list of numbers as memory holds them. -/
def NumsR (w : World) (v : Option Addr) (l : List Nat) : Prop :=
  0 < l.length → ∃ b off, v = some ⟨b, off, none⟩ ∧ b < w.heap.size ∧ Row w b off l
theorem NumsR.keep {w w' : World} {v : Option Addr} {l : List Nat} (h : NumsR w v l) (k : Below w.heap.size w w') : NumsR w' v l := by
  intro hp
  obtain ⟨b, off, e, hb, hc⟩ := h hp
  exact ⟨b, off, e, Nat.lt_of_lt_of_le hb k.size, fun i hi => (k.cell (p := ⟨b, off + i, none⟩) hb).trans (hc i hi)⟩
theorem NumsR.none (w : World) (v : Option Addr) : NumsR w v [] := fun h => absurd h (by simp)

theorem bd_left (x : Nat) (hx : x ≤ 18446744073709551615) (w : World) :
    Calls Tryz.prog 123 #[.int .u64 (x : Int)] w fun e w' => e = .returned (.int .u64 ((leftS x : Nat) : Int)) ∧ Below w.heap.size w w' := by
  have HS := Lib.hid (share_b x 7 10 w hx (by omega) (by omega))
  unfold leftS
  generalize shareS x 7 10 = q at *
  clear hx
  go_enter Tryz.func123, Tryz.ntmps123
  go_wp2_with fail
  refine (HS.out).mono ?_
  rintro e w' ⟨rfl, hb⟩
  have HB := Lib.hid hb
  clear hb
  go_wp2_with fail
  go_ret
  exact ⟨rfl, HB.out⟩

theorem bd_None (w : World) :
    Calls Tryz.prog 20 #[] w fun e w' => e = .returned (.agg BS.none.cells) ∧ Below w.heap.size w w' := by
  have A0 := Lib.hid (Blk.new w 52 #[.int .u64 0, .int .u64 0, .int .u64 0])
  have AW := Lib.hid ((Below.refl w.heap.size w).alloc (Nat.le_refl _) (.cells #[.int .u64 0, .int .u64 0, .int .u64 0] 52))
  have F1 := Lib.hid (Blk.whole [.int .u64 18446744073709551615, .int .u64 18446744073709551615, .int .u64 18446744073709551615] A0.out rfl)
  have FW := Lib.hid (Below.sets (Nat.le_refl w.heap.size) [.int .u64 18446744073709551615, .int .u64 18446744073709551615, .int .u64 18446744073709551615] 0 _ AW.out)
  go_enter Tryz.func20, Tryz.ntmps20
  go_wp2_with fail
  first
    | exact bodyPost_ret (results_cell rfl _ _ w.heap.size 52 _ _ rfl F1.out Tryz.underlying52 rfl (by kernel_rfl)) rfl ⟨rfl, FW.out⟩
    | exact bodyPost_ret (results_cell rfl _ _ w.heap.size 52 _ _ rfl (Blk.new w _ _) Tryz.underlying52 rfl (by kernel_rfl)) rfl ⟨rfl, (Below.refl _ _).alloc (Nat.le_refl _) _⟩


set_option maxHeartbeats 400000 in
theorem bd_Short (b : BS) (w : World) :
    Calls Tryz.prog 79 #[.agg b.cells] w fun e w' => e = .returned (.agg b.short.cells) ∧ Below w.heap.size w w' := by
  obtain ⟨hi, lo, bw⟩ := b
  unfold BS.cells
  dsimp only
  go_enter Tryz.func79, Tryz.ntmps79
  go_wp2_with fail
  exact bodyPost_ret (results_cell rfl _ _ (w.heap.size + 1) 52 _ _ rfl (Blk.new1 w _ _ _) Tryz.underlying52 rfl (by kernel_rfl)) rfl ⟨rfl, ((Below.refl _ _).alloc (Nat.le_refl _) _).alloc (by simp) _⟩


set_option maxHeartbeats 1000000 in
theorem bd_Pull (b : BS) (f t : Nat) (w : World) (hf : f ≤ 18446744073709551615) (ht : t ≤ 18446744073709551615) :
    Calls Tryz.prog 76 #[.agg b.cells, .int .u64 (f : Int), .int .u64 (t : Int)] w fun e w' => e = .returned (.agg (b.pull f t).cells) ∧ Below w.heap.size w w' := by
  have HL := Lib.hid (fun w => bd_left t ht w)
  obtain ⟨hi, lo, bw⟩ := b
  have HT : Hid ((BS.pull ⟨hi, lo, bw⟩ f t).cells = #[.int .u64 (max (f : Int) (leftS t : Int)), .int .u64 (lo : Int), .int .u64 (bw : Int)]) := Lib.hid (by
    have e : ((max f (leftS t) : Nat) : Int) = max (f : Int) (leftS t : Int) := by omega
    unfold BS.pull BS.cells; dsimp only; rw [e])
  generalize leftS t = q at *
  clear hf ht
  unfold BS.cells at HT ⊢
  dsimp only at HT ⊢
  go_enter Tryz.func76, Tryz.ntmps76
  go_wp2_with fail
  refine (HL.out _).mono ?_
  rintro e w1 ⟨rfl, h1⟩
  have B0 := Lib.hid (Blk.keep (Blk.alloc (Blk.new w 52 #[.int .u64 (hi : Int), .int .u64 (lo : Int), .int .u64 (bw : Int)]) (.cells #[.int .u64 0, .int .u64 0, .int .u64 0] 52)) h1)
  have B1 := Lib.hid (Blk.keep (Blk.new1 w (.cells #[.int .u64 (hi : Int), .int .u64 (lo : Int), .int .u64 (bw : Int)] 52) 52 #[.int .u64 0, .int .u64 0, .int .u64 0]) h1)
  have BW := Lib.hid (bel_to (((Below.refl w.heap.size w).alloc (Nat.le_refl _) (.cells #[.int .u64 (hi : Int), .int .u64 (lo : Int), .int .u64 (bw : Int)] 52)).alloc (by simp) (.cells #[.int .u64 0, .int .u64 0, .int .u64 0] 52)) h1 (by simp; omega))
  have HNE : Hid (w.heap.size ≠ w.heap.size + 1) := Lib.hid (by omega)
  clear h1 HL
  have a0 := B0.out.cell (i := 0) (v := .int .u64 (hi : Int)) rfl
  have a1 := B0.out.cell (i := 1) (v := .int .u64 (lo : Int)) rfl
  have a2 := B0.out.cell (i := 2) (v := .int .u64 (bw : Int)) rfl
  have f0 := B0.out.free 0
  have f1 := B0.out.free 1
  have f2 := B0.out.free 2
  have t0 := B1.out.cell (i := 0) (v := .int .u64 0) rfl
  have t1 := B1.out.cell (i := 1) (v := .int .u64 0) rfl
  have t2 := B1.out.cell (i := 2) (v := .int .u64 0) rfl
  have y0 := B1.out.free 0
  have y1 := B1.out.free 1
  have y2 := B1.out.free 2
  have F1 := Lib.hid (Blk.whole [.int .u64 (max (f : Int) (q : Int) : Int), .int .u64 (lo : Int), .int .u64 (bw : Int)] (B1.out.set_other (c := w.heap.size) 0 (.int .u64 (max (f : Int) (q : Int) : Int)) (by omega)) rfl)
  have FW := Lib.hid (Below.sets (show w.heap.size ≤ w.heap.size + 1 by omega) [.int .u64 (max (f : Int) (q : Int) : Int), .int .u64 (lo : Int), .int .u64 (bw : Int)] 0 _ (BW.out.setCell (p := ⟨w.heap.size, 0, none⟩) (Nat.le_refl _) (.int .u64 (max (f : Int) (q : Int) : Int))))
  go_wp2_with fail
  exact bodyPost_ret (results_cell rfl _ _ (w.heap.size + 1) 52 _ _ rfl F1.out Tryz.underlying52 rfl (by kernel_rfl)) rfl ⟨by rw [HT.out], FW.out⟩


set_option maxHeartbeats 4000000 in
theorem bd_Lose (b : BS) (f r h : Nat) (w : World) (hb : b.ok) (hf : f ≤ 18446744073709551615) (hr : r ≤ 18446744073709551615) (hh : h ≤ 18446744073709551615) :
    Calls Tryz.prog 78 #[.agg b.cells, .int .u64 (f : Int), .int .u64 (r : Int), .int .u64 (h : Int)] w fun e w' => e = .returned (.agg (b.lose f r h).cells) ∧ Below w.heap.size w w' := by
  have HL := Lib.hid (fun x hx w => bd_left x hx w)
  obtain ⟨hi, lo, bw⟩ := b
  have blo : lo ≤ 18446744073709551615 := hb.lo
  have bbw : bw ≤ 18446744073709551615 := hb.bw
  have HT : Hid ((BS.lose ⟨hi, lo, bw⟩ f r h).cells = #[.int .u64 (hi : Int), .int .u64 (max (f : Int) (leftS (orS lo h) : Int)), .int .u64 (max (r : Int) (leftS (orS bw r) : Int))]) := Lib.hid (by
    have e1 : ((max f (leftS (orS lo h)) : Nat) : Int) = max (f : Int) (leftS (orS lo h) : Int) := by omega
    have e2 : ((max r (leftS (orS bw r)) : Nat) : Int) = max (r : Int) (leftS (orS bw r) : Int) := by omega
    unfold BS.lose BS.cells; dsimp only; rw [e1, e2])
  clear hb hf
  unfold BS.cells at HT ⊢
  dsimp only at HT ⊢
  by_cases c1 : lo = 18446744073709551615
  · have t1 : ((lo : Int) == 18446744073709551615) = true := by rw [c1]; rfl
    have o1 : orS lo h = h := if_pos c1
    rw [o1] at HT
    have H1 := Lib.hid (HL.out h hh)
    generalize leftS h = q1 at *
    clear c1 o1
    by_cases c2 : bw = 18446744073709551615
    · have t2 : ((bw : Int) == 18446744073709551615) = true := by rw [c2]; rfl
      have o2 : orS bw r = r := if_pos c2
      rw [o2] at HT
      have H2 := Lib.hid (HL.out r hr)
      generalize leftS r = q2 at *
      clear c2 o2 HL hr hh blo bbw
      go_enter Tryz.func78, Tryz.ntmps78
      go_wp2_with fail
      refine (H1.out _).mono ?_
      rintro e w1 ⟨rfl, h1⟩
      have B0 := Lib.hid (Blk.keep (Blk.alloc (Blk.new w 52 #[.int .u64 (hi : Int), .int .u64 (h : Int), .int .u64 (r : Int)]) (.cells #[.int .u64 0, .int .u64 0, .int .u64 0] 52)) h1)
      have B1 := Lib.hid (Blk.keep (Blk.new1 w (.cells #[.int .u64 (hi : Int), .int .u64 (h : Int), .int .u64 (r : Int)] 52) 52 #[.int .u64 0, .int .u64 0, .int .u64 0]) h1)
      have BW := Lib.hid (bel_to (((Below.refl w.heap.size w).alloc (Nat.le_refl _) (.cells #[.int .u64 (hi : Int), .int .u64 (h : Int), .int .u64 (r : Int)] 52)).alloc (by simp) (.cells #[.int .u64 0, .int .u64 0, .int .u64 0] 52)) h1 (by simp; omega))
      have HNE : Hid (w.heap.size ≠ w.heap.size + 1) := Lib.hid (by omega)
      clear h1 H1
      have a0 := B0.out.cell (i := 0) (v := .int .u64 (hi : Int)) rfl
      have a1 := B0.out.cell (i := 1) (v := .int .u64 (h : Int)) rfl
      have a2 := B0.out.cell (i := 2) (v := .int .u64 (r : Int)) rfl
      have f0 := B0.out.free 0
      have f1 := B0.out.free 1
      have f2 := B0.out.free 2
      go_wp2_with fail
      refine (H2.out _).mono ?_
      rintro e w2 ⟨rfl, h2⟩
      have C0 := Lib.hid (Blk.keep (B0.out.set 1 (.int .u64 (max (f : Int) (q1 : Int)))) h2)
      have C1 := Lib.hid (Blk.keep (B1.out.set_other (c := w.heap.size) 1 (.int .u64 (max (f : Int) (q1 : Int))) (by omega)) h2)
      have CW := Lib.hid (bel_to (BW.out.setCell (p := ⟨w.heap.size, 1, none⟩) (Nat.le_refl _) (.int .u64 (max (f : Int) (q1 : Int)))) h2 (by have := BW.out.size; simpa using this))
      clear h2 H2 B0 B1 BW a0 a1 a2 f0 f1 f2
      have a0 := C0.out.cell (i := 0) (v := .int .u64 (hi : Int)) rfl
      have a1 := C0.out.cell (i := 1) (v := .int .u64 (max (f : Int) (q1 : Int) : Int)) rfl
      have a2 := C0.out.cell (i := 2) (v := .int .u64 (r : Int)) rfl
      have f0 := C0.out.free 0
      have f1 := C0.out.free 1
      have f2 := C0.out.free 2
      have t0 := C1.out.cell (i := 0) (v := .int .u64 0) rfl
      have t1 := C1.out.cell (i := 1) (v := .int .u64 0) rfl
      have t2 := C1.out.cell (i := 2) (v := .int .u64 0) rfl
      have y0 := C1.out.free 0
      have y1 := C1.out.free 1
      have y2 := C1.out.free 2
      have F1 := Lib.hid (Blk.whole [.int .u64 (hi : Int), .int .u64 (max (f : Int) (q1 : Int) : Int), .int .u64 (max (r : Int) (q2 : Int) : Int)] (C1.out.set_other (c := w.heap.size) 2 (.int .u64 (max (r : Int) (q2 : Int) : Int)) (by omega)) rfl)
      have FW := Lib.hid (Below.sets (show w.heap.size ≤ w.heap.size + 1 by omega) [.int .u64 (hi : Int), .int .u64 (max (f : Int) (q1 : Int) : Int), .int .u64 (max (r : Int) (q2 : Int) : Int)] 0 _ (CW.out.setCell (p := ⟨w.heap.size, 2, none⟩) (Nat.le_refl _) (.int .u64 (max (r : Int) (q2 : Int) : Int))))
      go_wp2_with fail
      exact bodyPost_ret (results_cell rfl _ _ (w.heap.size + 1) 52 _ _ rfl F1.out Tryz.underlying52 rfl (by kernel_rfl)) rfl ⟨by rw [HT.out], FW.out⟩
    · have t2 : ((bw : Int) == 18446744073709551615) = false := beq_eq_false_iff_ne.2 (by omega)
      have o2 : orS bw r = bw := if_neg c2
      rw [o2] at HT
      have H2 := Lib.hid (HL.out bw bbw)
      generalize leftS bw = q2 at *
      clear c2 o2 HL hr hh blo bbw
      go_enter Tryz.func78, Tryz.ntmps78
      go_wp2_with fail
      refine (H1.out _).mono ?_
      rintro e w1 ⟨rfl, h1⟩
      have B0 := Lib.hid (Blk.keep (Blk.alloc (Blk.new w 52 #[.int .u64 (hi : Int), .int .u64 (h : Int), .int .u64 (bw : Int)]) (.cells #[.int .u64 0, .int .u64 0, .int .u64 0] 52)) h1)
      have B1 := Lib.hid (Blk.keep (Blk.new1 w (.cells #[.int .u64 (hi : Int), .int .u64 (h : Int), .int .u64 (bw : Int)] 52) 52 #[.int .u64 0, .int .u64 0, .int .u64 0]) h1)
      have BW := Lib.hid (bel_to (((Below.refl w.heap.size w).alloc (Nat.le_refl _) (.cells #[.int .u64 (hi : Int), .int .u64 (h : Int), .int .u64 (bw : Int)] 52)).alloc (by simp) (.cells #[.int .u64 0, .int .u64 0, .int .u64 0] 52)) h1 (by simp; omega))
      have HNE : Hid (w.heap.size ≠ w.heap.size + 1) := Lib.hid (by omega)
      clear h1 H1
      have a0 := B0.out.cell (i := 0) (v := .int .u64 (hi : Int)) rfl
      have a1 := B0.out.cell (i := 1) (v := .int .u64 (h : Int)) rfl
      have a2 := B0.out.cell (i := 2) (v := .int .u64 (bw : Int)) rfl
      have f0 := B0.out.free 0
      have f1 := B0.out.free 1
      have f2 := B0.out.free 2
      go_wp2_with fail
      refine (H2.out _).mono ?_
      rintro e w2 ⟨rfl, h2⟩
      have C0 := Lib.hid (Blk.keep (B0.out.set 1 (.int .u64 (max (f : Int) (q1 : Int)))) h2)
      have C1 := Lib.hid (Blk.keep (B1.out.set_other (c := w.heap.size) 1 (.int .u64 (max (f : Int) (q1 : Int))) (by omega)) h2)
      have CW := Lib.hid (bel_to (BW.out.setCell (p := ⟨w.heap.size, 1, none⟩) (Nat.le_refl _) (.int .u64 (max (f : Int) (q1 : Int)))) h2 (by have := BW.out.size; simpa using this))
      clear h2 H2 B0 B1 BW a0 a1 a2 f0 f1 f2
      have a0 := C0.out.cell (i := 0) (v := .int .u64 (hi : Int)) rfl
      have a1 := C0.out.cell (i := 1) (v := .int .u64 (max (f : Int) (q1 : Int) : Int)) rfl
      have a2 := C0.out.cell (i := 2) (v := .int .u64 (bw : Int)) rfl
      have f0 := C0.out.free 0
      have f1 := C0.out.free 1
      have f2 := C0.out.free 2
      have t0 := C1.out.cell (i := 0) (v := .int .u64 0) rfl
      have t1 := C1.out.cell (i := 1) (v := .int .u64 0) rfl
      have t2 := C1.out.cell (i := 2) (v := .int .u64 0) rfl
      have y0 := C1.out.free 0
      have y1 := C1.out.free 1
      have y2 := C1.out.free 2
      have F1 := Lib.hid (Blk.whole [.int .u64 (hi : Int), .int .u64 (max (f : Int) (q1 : Int) : Int), .int .u64 (max (r : Int) (q2 : Int) : Int)] (C1.out.set_other (c := w.heap.size) 2 (.int .u64 (max (r : Int) (q2 : Int) : Int)) (by omega)) rfl)
      have FW := Lib.hid (Below.sets (show w.heap.size ≤ w.heap.size + 1 by omega) [.int .u64 (hi : Int), .int .u64 (max (f : Int) (q1 : Int) : Int), .int .u64 (max (r : Int) (q2 : Int) : Int)] 0 _ (CW.out.setCell (p := ⟨w.heap.size, 2, none⟩) (Nat.le_refl _) (.int .u64 (max (r : Int) (q2 : Int) : Int))))
      go_wp2_with fail
      exact bodyPost_ret (results_cell rfl _ _ (w.heap.size + 1) 52 _ _ rfl F1.out Tryz.underlying52 rfl (by kernel_rfl)) rfl ⟨by rw [HT.out], FW.out⟩
  · have t1 : ((lo : Int) == 18446744073709551615) = false := beq_eq_false_iff_ne.2 (by omega)
    have o1 : orS lo h = lo := if_neg c1
    rw [o1] at HT
    have H1 := Lib.hid (HL.out lo blo)
    generalize leftS lo = q1 at *
    clear c1 o1
    by_cases c2 : bw = 18446744073709551615
    · have t2 : ((bw : Int) == 18446744073709551615) = true := by rw [c2]; rfl
      have o2 : orS bw r = r := if_pos c2
      rw [o2] at HT
      have H2 := Lib.hid (HL.out r hr)
      generalize leftS r = q2 at *
      clear c2 o2 HL hr hh blo bbw
      go_enter Tryz.func78, Tryz.ntmps78
      go_wp2_with fail
      refine (H1.out _).mono ?_
      rintro e w1 ⟨rfl, h1⟩
      have B0 := Lib.hid (Blk.keep (Blk.alloc (Blk.new w 52 #[.int .u64 (hi : Int), .int .u64 (lo : Int), .int .u64 (r : Int)]) (.cells #[.int .u64 0, .int .u64 0, .int .u64 0] 52)) h1)
      have B1 := Lib.hid (Blk.keep (Blk.new1 w (.cells #[.int .u64 (hi : Int), .int .u64 (lo : Int), .int .u64 (r : Int)] 52) 52 #[.int .u64 0, .int .u64 0, .int .u64 0]) h1)
      have BW := Lib.hid (bel_to (((Below.refl w.heap.size w).alloc (Nat.le_refl _) (.cells #[.int .u64 (hi : Int), .int .u64 (lo : Int), .int .u64 (r : Int)] 52)).alloc (by simp) (.cells #[.int .u64 0, .int .u64 0, .int .u64 0] 52)) h1 (by simp; omega))
      have HNE : Hid (w.heap.size ≠ w.heap.size + 1) := Lib.hid (by omega)
      clear h1 H1
      have a0 := B0.out.cell (i := 0) (v := .int .u64 (hi : Int)) rfl
      have a1 := B0.out.cell (i := 1) (v := .int .u64 (lo : Int)) rfl
      have a2 := B0.out.cell (i := 2) (v := .int .u64 (r : Int)) rfl
      have f0 := B0.out.free 0
      have f1 := B0.out.free 1
      have f2 := B0.out.free 2
      go_wp2_with fail
      refine (H2.out _).mono ?_
      rintro e w2 ⟨rfl, h2⟩
      have C0 := Lib.hid (Blk.keep (B0.out.set 1 (.int .u64 (max (f : Int) (q1 : Int)))) h2)
      have C1 := Lib.hid (Blk.keep (B1.out.set_other (c := w.heap.size) 1 (.int .u64 (max (f : Int) (q1 : Int))) (by omega)) h2)
      have CW := Lib.hid (bel_to (BW.out.setCell (p := ⟨w.heap.size, 1, none⟩) (Nat.le_refl _) (.int .u64 (max (f : Int) (q1 : Int)))) h2 (by have := BW.out.size; simpa using this))
      clear h2 H2 B0 B1 BW a0 a1 a2 f0 f1 f2
      have a0 := C0.out.cell (i := 0) (v := .int .u64 (hi : Int)) rfl
      have a1 := C0.out.cell (i := 1) (v := .int .u64 (max (f : Int) (q1 : Int) : Int)) rfl
      have a2 := C0.out.cell (i := 2) (v := .int .u64 (r : Int)) rfl
      have f0 := C0.out.free 0
      have f1 := C0.out.free 1
      have f2 := C0.out.free 2
      have t0 := C1.out.cell (i := 0) (v := .int .u64 0) rfl
      have t1 := C1.out.cell (i := 1) (v := .int .u64 0) rfl
      have t2 := C1.out.cell (i := 2) (v := .int .u64 0) rfl
      have y0 := C1.out.free 0
      have y1 := C1.out.free 1
      have y2 := C1.out.free 2
      have F1 := Lib.hid (Blk.whole [.int .u64 (hi : Int), .int .u64 (max (f : Int) (q1 : Int) : Int), .int .u64 (max (r : Int) (q2 : Int) : Int)] (C1.out.set_other (c := w.heap.size) 2 (.int .u64 (max (r : Int) (q2 : Int) : Int)) (by omega)) rfl)
      have FW := Lib.hid (Below.sets (show w.heap.size ≤ w.heap.size + 1 by omega) [.int .u64 (hi : Int), .int .u64 (max (f : Int) (q1 : Int) : Int), .int .u64 (max (r : Int) (q2 : Int) : Int)] 0 _ (CW.out.setCell (p := ⟨w.heap.size, 2, none⟩) (Nat.le_refl _) (.int .u64 (max (r : Int) (q2 : Int) : Int))))
      go_wp2_with fail
      exact bodyPost_ret (results_cell rfl _ _ (w.heap.size + 1) 52 _ _ rfl F1.out Tryz.underlying52 rfl (by kernel_rfl)) rfl ⟨by rw [HT.out], FW.out⟩
    · have t2 : ((bw : Int) == 18446744073709551615) = false := beq_eq_false_iff_ne.2 (by omega)
      have o2 : orS bw r = bw := if_neg c2
      rw [o2] at HT
      have H2 := Lib.hid (HL.out bw bbw)
      generalize leftS bw = q2 at *
      clear c2 o2 HL hr hh blo bbw
      go_enter Tryz.func78, Tryz.ntmps78
      go_wp2_with fail
      refine (H1.out _).mono ?_
      rintro e w1 ⟨rfl, h1⟩
      have B0 := Lib.hid (Blk.keep (Blk.alloc (Blk.new w 52 #[.int .u64 (hi : Int), .int .u64 (lo : Int), .int .u64 (bw : Int)]) (.cells #[.int .u64 0, .int .u64 0, .int .u64 0] 52)) h1)
      have B1 := Lib.hid (Blk.keep (Blk.new1 w (.cells #[.int .u64 (hi : Int), .int .u64 (lo : Int), .int .u64 (bw : Int)] 52) 52 #[.int .u64 0, .int .u64 0, .int .u64 0]) h1)
      have BW := Lib.hid (bel_to (((Below.refl w.heap.size w).alloc (Nat.le_refl _) (.cells #[.int .u64 (hi : Int), .int .u64 (lo : Int), .int .u64 (bw : Int)] 52)).alloc (by simp) (.cells #[.int .u64 0, .int .u64 0, .int .u64 0] 52)) h1 (by simp; omega))
      have HNE : Hid (w.heap.size ≠ w.heap.size + 1) := Lib.hid (by omega)
      clear h1 H1
      have a0 := B0.out.cell (i := 0) (v := .int .u64 (hi : Int)) rfl
      have a1 := B0.out.cell (i := 1) (v := .int .u64 (lo : Int)) rfl
      have a2 := B0.out.cell (i := 2) (v := .int .u64 (bw : Int)) rfl
      have f0 := B0.out.free 0
      have f1 := B0.out.free 1
      have f2 := B0.out.free 2
      go_wp2_with fail
      refine (H2.out _).mono ?_
      rintro e w2 ⟨rfl, h2⟩
      have C0 := Lib.hid (Blk.keep (B0.out.set 1 (.int .u64 (max (f : Int) (q1 : Int)))) h2)
      have C1 := Lib.hid (Blk.keep (B1.out.set_other (c := w.heap.size) 1 (.int .u64 (max (f : Int) (q1 : Int))) (by omega)) h2)
      have CW := Lib.hid (bel_to (BW.out.setCell (p := ⟨w.heap.size, 1, none⟩) (Nat.le_refl _) (.int .u64 (max (f : Int) (q1 : Int)))) h2 (by have := BW.out.size; simpa using this))
      clear h2 H2 B0 B1 BW a0 a1 a2 f0 f1 f2
      have a0 := C0.out.cell (i := 0) (v := .int .u64 (hi : Int)) rfl
      have a1 := C0.out.cell (i := 1) (v := .int .u64 (max (f : Int) (q1 : Int) : Int)) rfl
      have a2 := C0.out.cell (i := 2) (v := .int .u64 (bw : Int)) rfl
      have f0 := C0.out.free 0
      have f1 := C0.out.free 1
      have f2 := C0.out.free 2
      have t0 := C1.out.cell (i := 0) (v := .int .u64 0) rfl
      have t1 := C1.out.cell (i := 1) (v := .int .u64 0) rfl
      have t2 := C1.out.cell (i := 2) (v := .int .u64 0) rfl
      have y0 := C1.out.free 0
      have y1 := C1.out.free 1
      have y2 := C1.out.free 2
      have F1 := Lib.hid (Blk.whole [.int .u64 (hi : Int), .int .u64 (max (f : Int) (q1 : Int) : Int), .int .u64 (max (r : Int) (q2 : Int) : Int)] (C1.out.set_other (c := w.heap.size) 2 (.int .u64 (max (r : Int) (q2 : Int) : Int)) (by omega)) rfl)
      have FW := Lib.hid (Below.sets (show w.heap.size ≤ w.heap.size + 1 by omega) [.int .u64 (hi : Int), .int .u64 (max (f : Int) (q1 : Int) : Int), .int .u64 (max (r : Int) (q2 : Int) : Int)] 0 _ (CW.out.setCell (p := ⟨w.heap.size, 2, none⟩) (Nat.le_refl _) (.int .u64 (max (r : Int) (q2 : Int) : Int))))
      go_wp2_with fail
      exact bodyPost_ret (results_cell rfl _ _ (w.heap.size + 1) 52 _ _ rfl F1.out Tryz.underlying52 rfl (by kernel_rfl)) rfl ⟨by rw [HT.out], FW.out⟩


set_option maxHeartbeats 1000000 in
theorem bd_Push (b : BS) (n : Nat) (w : World) (hb : b.ok) (hn : n ≤ 18446744073709551615) :
    Calls Tryz.prog 42 #[.agg b.cells, .int .u64 (n : Int)] w fun e w' => e = .returned (.agg (b.push n).cells) ∧ Below w.heap.size w w' := by
  obtain ⟨hi, lo, bw⟩ := b
  have bhi : hi ≤ 18446744073709551615 := hb.hi
  clear hb
  by_cases c : hi = 18446744073709551615
  · have t1 : ((hi : Int) == 18446744073709551615) = true := by rw [c]; rfl
    have HT : Hid ((BS.push ⟨hi, lo, bw⟩ n).cells = #[.int .u64 (hi : Int), .int .u64 (lo : Int), .int .u64 (bw : Int)]) := Lib.hid (by unfold BS.push BS.cells; dsimp only; rw [if_pos c])
    clear c
    unfold BS.cells at HT ⊢
    dsimp only at HT ⊢
    go_enter Tryz.func42, Tryz.ntmps42
    go_wp2_with fail
    exact bodyPost_ret (results_cell rfl _ _ (w.heap.size + 1) 52 _ _ rfl (Blk.new1 w _ _ _) Tryz.underlying52 rfl (by kernel_rfl)) rfl ⟨by rw [HT.out], ((Below.refl _ _).alloc (Nat.le_refl _) _).alloc (by simp) _⟩
  · have t1 : ((hi : Int) == 18446744073709551615) = false := beq_eq_false_iff_ne.2 (by omega)
    have HA := Lib.hid (fun W b hW => add2_b W b 2 hi n hW bhi hn)
    have HT : Hid ((BS.push ⟨hi, lo, bw⟩ n).cells = #[.int .u64 (min (addS hi n : Int) 18446744073709551614), .int .u64 (lo : Int), .int .u64 (bw : Int)]) := Lib.hid (by
      have e : ((min (addS hi n) 18446744073709551614 : Nat) : Int) = min (addS hi n : Int) 18446744073709551614 := by omega
      unfold BS.push BS.cells; dsimp only; rw [if_neg c, e])
    generalize addS hi n = q at *
    clear c bhi hn
    unfold BS.cells at HT ⊢
    dsimp only at HT ⊢
    go_enter Tryz.func42, Tryz.ntmps42
    go_wp2_with fail
    refine (HA.out ((w.alloc (.cells #[.int .u64 (hi : Int), .int .u64 (lo : Int), .int .u64 (bw : Int)] 52)).alloc (.cells #[.int .u64 0, .int .u64 0, .int .u64 0] 52)) _ (by simp)).mono ?_
    rintro e w1 ⟨rfl, h1⟩
    have B0 := Lib.hid (Blk.keep (Blk.alloc (Blk.new w 52 #[.int .u64 (hi : Int), .int .u64 (lo : Int), .int .u64 (bw : Int)]) (.cells #[.int .u64 0, .int .u64 0, .int .u64 0] 52)) h1)
    have B1 := Lib.hid (Blk.keep (Blk.new1 w (.cells #[.int .u64 (hi : Int), .int .u64 (lo : Int), .int .u64 (bw : Int)] 52) 52 #[.int .u64 0, .int .u64 0, .int .u64 0]) h1)
    have BW := Lib.hid (bel_to (((Below.refl w.heap.size w).alloc (Nat.le_refl _) (.cells #[.int .u64 (hi : Int), .int .u64 (lo : Int), .int .u64 (bw : Int)] 52)).alloc (by simp) (.cells #[.int .u64 0, .int .u64 0, .int .u64 0] 52)) h1 (by simp; omega))
    have HNE : Hid (w.heap.size ≠ w.heap.size + 1) := Lib.hid (by omega)
    clear h1 HA
    have a0 := B0.out.cell (i := 0) (v := .int .u64 (hi : Int)) rfl
    have a1 := B0.out.cell (i := 1) (v := .int .u64 (lo : Int)) rfl
    have a2 := B0.out.cell (i := 2) (v := .int .u64 (bw : Int)) rfl
    have f0 := B0.out.free 0
    have f1 := B0.out.free 1
    have f2 := B0.out.free 2
    have t0 := B1.out.cell (i := 0) (v := .int .u64 0) rfl
    have t1 := B1.out.cell (i := 1) (v := .int .u64 0) rfl
    have t2 := B1.out.cell (i := 2) (v := .int .u64 0) rfl
    have y0 := B1.out.free 0
    have y1 := B1.out.free 1
    have y2 := B1.out.free 2
    have F1 := Lib.hid (Blk.whole [.int .u64 (min (q : Int) 18446744073709551614 : Int), .int .u64 (lo : Int), .int .u64 (bw : Int)] (B1.out.set_other (c := w.heap.size) 0 (.int .u64 (min (q : Int) 18446744073709551614 : Int)) (by omega)) rfl)
    have FW := Lib.hid (Below.sets (show w.heap.size ≤ w.heap.size + 1 by omega) [.int .u64 (min (q : Int) 18446744073709551614 : Int), .int .u64 (lo : Int), .int .u64 (bw : Int)] 0 _ (BW.out.setCell (p := ⟨w.heap.size, 0, none⟩) (Nat.le_refl _) (.int .u64 (min (q : Int) 18446744073709551614 : Int))))
    go_wp2_with fail
    exact bodyPost_ret (results_cell rfl _ _ (w.heap.size + 1) 52 _ _ rfl F1.out Tryz.underlying52 rfl (by kernel_rfl)) rfl ⟨by rw [HT.out], FW.out⟩


theorem bd_Room (b : BS) (w : World) (hb : b.ok) :
    Calls Tryz.prog 86 #[.agg b.cells] w fun e w' => e = .returned (.int .u64 (b.room : Int)) ∧ Below w.heap.size w w' := by
  obtain ⟨hi, lo, bw⟩ := b
  have bhi : hi ≤ 18446744073709551615 := hb.hi
  clear hb
  by_cases c : hi = 18446744073709551615
  · have t1 : ((hi : Int) == 18446744073709551615) = true := by rw [c]; rfl
    have HT : Hid (BS.room ⟨hi, lo, bw⟩ = 18446744073709551615) := Lib.hid (if_pos c)
    clear c
    unfold BS.cells
    dsimp only
    go_enter Tryz.func86, Tryz.ntmps86
    go_wp2_with fail
    go_ret
    exact ⟨ret_u64 (by rw [HT.out]; rfl), (Below.refl _ _).alloc (Nat.le_refl _) _⟩
  · have t1 : ((hi : Int) == 18446744073709551615) = false := beq_eq_false_iff_ne.2 (by omega)
    have HT : Hid (BS.room ⟨hi, lo, bw⟩ = shareS hi 85 100) := Lib.hid (if_neg c)
    have HS := Lib.hid (fun w => share_b hi 85 100 w bhi (by omega) (by omega))
    generalize shareS hi 85 100 = q at *
    clear c bhi
    unfold BS.cells
    dsimp only
    go_enter Tryz.func86, Tryz.ntmps86
    go_wp2_with fail
    refine (HS.out _).mono ?_
    rintro e w1 ⟨rfl, h1⟩
    have HW := Lib.hid (bel_to ((Below.refl w.heap.size w).alloc (Nat.le_refl _) _) h1 (by simp))
    clear h1
    go_wp2_with fail
    go_ret
    exact ⟨ret_u64 (by rw [HT.out]), HW.out⟩


set_option maxHeartbeats 1000000 in
theorem bd_Cap (b : BS) (v : Option Addr) (cap : Nat) (l : List Nat) (w : World) (hl : l.length ≤ 9223372036854775807) (hrow : NumsR w v l) :
    Calls Tryz.prog 91 #[.agg b.cells, .slice v l.length cap] w fun e w' => e = .returned (.int .u64 (b.cap l : Int)) ∧ Below w.heap.size w w' := by
  obtain ⟨hi, lo, bw⟩ := b
  have HR := Lib.hid hrow
  have HT : Hid (BS.cap ⟨hi, lo, bw⟩ l = mins (min hi lo) l) := Lib.hid rfl
  have HM : Hid (min (hi : Int) (lo : Int) = ((min hi lo : Nat) : Int)) := Lib.hid (by omega)
  clear hrow
  unfold BS.cells
  dsimp only
  go_enter Tryz.func91, Tryz.ntmps91
  go_wp2_with fail
  go_loop [5, 15] (fun s i => ∃ k : Nat, k ≤ l.length ∧ i = .int .i64 k ∧ s = .int .u64 ((mins (min hi lo) (l.take k) : Nat) : Int)) (fun _ i => l.length - (intOf i).toNat)
  case atStart => exact ⟨0, Nat.zero_le _, rfl, by rw [HM.out]; rfl⟩
  case round =>
    obtain ⟨k, hk, rfl, rfl⟩ := hrel
    by_cases hlt : k < l.length
    · obtain ⟨rb, off, rfl, hb, hc⟩ := HR.out (by omega)
      have hcell := cell_al (hc k hlt) (.cells #[.int .u64 (hi : Int), .int .u64 (lo : Int), .int .u64 (bw : Int)] 52)
      have HS := Lib.hid (mins_take (min hi lo) hlt)
      clear hb hc
      generalize l.getD k 0 = z at *
      generalize mins (min hi lo) (l.take k) = m at *
      go_wp2_with fail
      go_round
      case rel => exact ⟨k + 1, by omega, by go_num, by rw [HS.out]; congr 1; omega⟩
      case measure => simp [intOf]; omega
    · obtain rfl : k = l.length := by omega
      go_wp2_with fail
      go_ret
      exact ⟨ret_u64 (by rw [HT.out]), (Below.refl _ _).alloc (Nat.le_refl _) _⟩


theorem bd_Limit (b : BS) (r : Nat) (w : World) :
    Calls Tryz.prog 54 #[.agg b.cells, .int .u64 (r : Int)] w fun e w' => e = .returned (.int .u64 (b.limit r : Int)) ∧ Below w.heap.size w w' := by
  obtain ⟨hi, lo, bw⟩ := b
  have HM : Hid (min (r : Int) (bw : Int) = (BS.limit ⟨hi, lo, bw⟩ r : Int)) := Lib.hid (by unfold BS.limit; dsimp only; omega)
  unfold BS.cells
  dsimp only
  go_enter Tryz.func54, Tryz.ntmps54
  go_wp2_with fail
  go_ret
  exact ⟨ret_u64 HM.out, (Below.refl _ _).alloc (Nat.le_refl _) _⟩

end Go.Proofs.YtpkbjfhicocogaaGreatDoor

/- Contracts of the document's answers of layer 13 (goitref13), over this translation. -/
set_option linter.unusedVariables false
namespace Go.Proofs.YtpkbjfhicocogaaGreatDoor
open Go.RowKit Pl

theorem share_pl (x y z : Nat) (w : World) (hx : x ≤ 18446744073709551615) (hy : y ≤ 18446744073709551615) (hz : z ≤ 18446744073709551615) :
    Calls Tryz.prog 66 #[.int .u64 (x : Int), .int .u64 (y : Int), .int .u64 (z : Int)] w fun e w' => e = .returned (.int .u64 ((shareS x y z : Nat) : Int)) ∧ Below w.heap.size w w' :=
  (ref_Share x y z w hx hy hz).mono fun _ _ h => ⟨h.1, h.2 ▸ Below.refl _ _⟩
theorem left_pl (x : Nat) (hx : x ≤ 18446744073709551615) (w : World) :
    Calls Tryz.prog 66 #[.int .u64 (x : Int), .int .u64 7, .int .u64 10] w fun e w' => e = .returned (.int .u64 ((leftS x : Nat) : Int)) ∧ Below w.heap.size w w' :=
  share_pl x 7 10 w hx (by omega) (by omega)


set_option maxHeartbeats 1000000 in
theorem rb_Pull (b : BS) (f t : Nat) (w : World) (hf : f ≤ 18446744073709551615) (ht : t ≤ 18446744073709551615) :
    Calls Tryz.prog 45 #[.agg b.cells, .int .u64 (f : Int), .int .u64 (t : Int)] w fun e w' => e = .returned (.agg (b.pull f t).cells) ∧ Below w.heap.size w w' := by
  have HL := Lib.hid (fun w => left_pl t ht w)
  obtain ⟨hi, lo, bw⟩ := b
  have HT : Hid ((BS.pull ⟨hi, lo, bw⟩ f t).cells = #[.int .u64 (max (f : Int) (leftS t : Int)), .int .u64 (lo : Int), .int .u64 (bw : Int)]) := Lib.hid (by
    have e : ((max f (leftS t) : Nat) : Int) = max (f : Int) (leftS t : Int) := by omega
    unfold BS.pull BS.cells; dsimp only; rw [e])
  generalize leftS t = q at *
  clear hf ht
  unfold BS.cells at HT ⊢
  dsimp only at HT ⊢
  go_enter Tryz.func45, Tryz.ntmps45
  go_wp2_with fail
  refine (HL.out _).mono ?_
  rintro e w1 ⟨rfl, h1⟩
  have B0 := Lib.hid (Blk.keep (Blk.alloc (Blk.new w 72 #[.int .u64 (hi : Int), .int .u64 (lo : Int), .int .u64 (bw : Int)]) (.cells #[.int .u64 0, .int .u64 0, .int .u64 0] 72)) h1)
  have B1 := Lib.hid (Blk.keep (Blk.new1 w (.cells #[.int .u64 (hi : Int), .int .u64 (lo : Int), .int .u64 (bw : Int)] 72) 72 #[.int .u64 0, .int .u64 0, .int .u64 0]) h1)
  have BW := Lib.hid (bel_to (((Below.refl w.heap.size w).alloc (Nat.le_refl _) (.cells #[.int .u64 (hi : Int), .int .u64 (lo : Int), .int .u64 (bw : Int)] 72)).alloc (by simp) (.cells #[.int .u64 0, .int .u64 0, .int .u64 0] 72)) h1 (by simp; omega))
  have HNE : Hid (w.heap.size ≠ w.heap.size + 1) := Lib.hid (by omega)
  clear h1 HL
  have a0 := B0.out.cell (i := 0) (v := .int .u64 (hi : Int)) rfl
  have a1 := B0.out.cell (i := 1) (v := .int .u64 (lo : Int)) rfl
  have a2 := B0.out.cell (i := 2) (v := .int .u64 (bw : Int)) rfl
  have f0 := B0.out.free 0
  have f1 := B0.out.free 1
  have f2 := B0.out.free 2
  have t0 := B1.out.cell (i := 0) (v := .int .u64 0) rfl
  have t1 := B1.out.cell (i := 1) (v := .int .u64 0) rfl
  have t2 := B1.out.cell (i := 2) (v := .int .u64 0) rfl
  have y0 := B1.out.free 0
  have y1 := B1.out.free 1
  have y2 := B1.out.free 2
  have F1 := Lib.hid (Blk.whole [.int .u64 (max (f : Int) (q : Int) : Int), .int .u64 (lo : Int), .int .u64 (bw : Int)] (B1.out.set_other (c := w.heap.size) 0 (.int .u64 (max (f : Int) (q : Int) : Int)) (by omega)) rfl)
  have FW := Lib.hid (Below.sets (show w.heap.size ≤ w.heap.size + 1 by omega) [.int .u64 (max (f : Int) (q : Int) : Int), .int .u64 (lo : Int), .int .u64 (bw : Int)] 0 _ (BW.out.setCell (p := ⟨w.heap.size, 0, none⟩) (Nat.le_refl _) (.int .u64 (max (f : Int) (q : Int) : Int))))
  go_wp2_with fail
  exact bodyPost_ret (results_cell rfl _ _ (w.heap.size + 1) 72 _ _ rfl F1.out Tryz.underlying72 rfl (by kernel_rfl)) rfl ⟨by rw [HT.out], FW.out⟩


set_option maxHeartbeats 4000000 in
theorem rb_Lose (b : BS) (f r h : Nat) (w : World) (hb : b.ok) (hf : f ≤ 18446744073709551615) (hr : r ≤ 18446744073709551615) (hh : h ≤ 18446744073709551615) :
    Calls Tryz.prog 47 #[.agg b.cells, .int .u64 (f : Int), .int .u64 (r : Int), .int .u64 (h : Int)] w fun e w' => e = .returned (.agg (b.lose f r h).cells) ∧ Below w.heap.size w w' := by
  have HL := Lib.hid (fun x hx w => left_pl x hx w)
  obtain ⟨hi, lo, bw⟩ := b
  have blo : lo ≤ 18446744073709551615 := hb.lo
  have bbw : bw ≤ 18446744073709551615 := hb.bw
  have HT : Hid ((BS.lose ⟨hi, lo, bw⟩ f r h).cells = #[.int .u64 (hi : Int), .int .u64 (max (f : Int) (leftS (orS lo h) : Int)), .int .u64 (max (r : Int) (leftS (orS bw r) : Int))]) := Lib.hid (by
    have e1 : ((max f (leftS (orS lo h)) : Nat) : Int) = max (f : Int) (leftS (orS lo h) : Int) := by omega
    have e2 : ((max r (leftS (orS bw r)) : Nat) : Int) = max (r : Int) (leftS (orS bw r) : Int) := by omega
    unfold BS.lose BS.cells; dsimp only; rw [e1, e2])
  clear hb hf
  unfold BS.cells at HT ⊢
  dsimp only at HT ⊢
  by_cases c1 : lo = 18446744073709551615
  · have t1 : ((lo : Int) == 18446744073709551615) = true := by rw [c1]; rfl
    have o1 : orS lo h = h := if_pos c1
    rw [o1] at HT
    have H1 := Lib.hid (HL.out h hh)
    generalize leftS h = q1 at *
    clear c1 o1
    by_cases c2 : bw = 18446744073709551615
    · have t2 : ((bw : Int) == 18446744073709551615) = true := by rw [c2]; rfl
      have o2 : orS bw r = r := if_pos c2
      rw [o2] at HT
      have H2 := Lib.hid (HL.out r hr)
      generalize leftS r = q2 at *
      clear c2 o2 HL hr hh blo bbw
      go_enter Tryz.func47, Tryz.ntmps47
      go_wp2_with fail
      refine (H1.out _).mono ?_
      rintro e w1 ⟨rfl, h1⟩
      have B0 := Lib.hid (Blk.keep (Blk.alloc (Blk.new w 72 #[.int .u64 (hi : Int), .int .u64 (lo : Int), .int .u64 (bw : Int)]) (.cells #[.int .u64 0, .int .u64 0, .int .u64 0] 72)) h1)
      have B1 := Lib.hid (Blk.keep (Blk.new1 w (.cells #[.int .u64 (hi : Int), .int .u64 (lo : Int), .int .u64 (bw : Int)] 72) 72 #[.int .u64 0, .int .u64 0, .int .u64 0]) h1)
      have BW := Lib.hid (bel_to (((Below.refl w.heap.size w).alloc (Nat.le_refl _) (.cells #[.int .u64 (hi : Int), .int .u64 (lo : Int), .int .u64 (bw : Int)] 72)).alloc (by simp) (.cells #[.int .u64 0, .int .u64 0, .int .u64 0] 72)) h1 (by simp; omega))
      have HNE : Hid (w.heap.size ≠ w.heap.size + 1) := Lib.hid (by omega)
      clear h1 H1
      have a0 := B0.out.cell (i := 0) (v := .int .u64 (hi : Int)) rfl
      have a1 := B0.out.cell (i := 1) (v := .int .u64 (lo : Int)) rfl
      have a2 := B0.out.cell (i := 2) (v := .int .u64 (bw : Int)) rfl
      have f0 := B0.out.free 0
      have f1 := B0.out.free 1
      have f2 := B0.out.free 2
      go_wp2_with fail
      refine (H2.out _).mono ?_
      rintro e w2 ⟨rfl, h2⟩
      have C0 := Lib.hid (Blk.keep (B0.out.set 1 (.int .u64 (max (f : Int) (q1 : Int)))) h2)
      have C1 := Lib.hid (Blk.keep (B1.out.set_other (c := w.heap.size) 1 (.int .u64 (max (f : Int) (q1 : Int))) (by omega)) h2)
      have CW := Lib.hid (bel_to (BW.out.setCell (p := ⟨w.heap.size, 1, none⟩) (Nat.le_refl _) (.int .u64 (max (f : Int) (q1 : Int)))) h2 (by have := BW.out.size; simpa using this))
      clear h2 H2 B0 B1 BW a0 a1 a2 f0 f1 f2
      have a0 := C0.out.cell (i := 0) (v := .int .u64 (hi : Int)) rfl
      have a1 := C0.out.cell (i := 1) (v := .int .u64 (max (f : Int) (q1 : Int) : Int)) rfl
      have a2 := C0.out.cell (i := 2) (v := .int .u64 (bw : Int)) rfl
      have f0 := C0.out.free 0
      have f1 := C0.out.free 1
      have f2 := C0.out.free 2
      have t0 := C1.out.cell (i := 0) (v := .int .u64 0) rfl
      have t1 := C1.out.cell (i := 1) (v := .int .u64 0) rfl
      have t2 := C1.out.cell (i := 2) (v := .int .u64 0) rfl
      have y0 := C1.out.free 0
      have y1 := C1.out.free 1
      have y2 := C1.out.free 2
      have F1 := Lib.hid (Blk.whole [.int .u64 (hi : Int), .int .u64 (max (f : Int) (q1 : Int) : Int), .int .u64 (max (r : Int) (q2 : Int) : Int)] (C1.out.set_other (c := w.heap.size) 2 (.int .u64 (max (r : Int) (q2 : Int) : Int)) (by omega)) rfl)
      have FW := Lib.hid (Below.sets (show w.heap.size ≤ w.heap.size + 1 by omega) [.int .u64 (hi : Int), .int .u64 (max (f : Int) (q1 : Int) : Int), .int .u64 (max (r : Int) (q2 : Int) : Int)] 0 _ (CW.out.setCell (p := ⟨w.heap.size, 2, none⟩) (Nat.le_refl _) (.int .u64 (max (r : Int) (q2 : Int) : Int))))
      go_wp2_with fail
      exact bodyPost_ret (results_cell rfl _ _ (w.heap.size + 1) 72 _ _ rfl F1.out Tryz.underlying72 rfl (by kernel_rfl)) rfl ⟨by rw [HT.out], FW.out⟩
    · have t2 : ((bw : Int) == 18446744073709551615) = false := beq_eq_false_iff_ne.2 (by omega)
      have o2 : orS bw r = bw := if_neg c2
      rw [o2] at HT
      have H2 := Lib.hid (HL.out bw bbw)
      generalize leftS bw = q2 at *
      clear c2 o2 HL hr hh blo bbw
      go_enter Tryz.func47, Tryz.ntmps47
      go_wp2_with fail
      refine (H1.out _).mono ?_
      rintro e w1 ⟨rfl, h1⟩
      have B0 := Lib.hid (Blk.keep (Blk.alloc (Blk.new w 72 #[.int .u64 (hi : Int), .int .u64 (lo : Int), .int .u64 (bw : Int)]) (.cells #[.int .u64 0, .int .u64 0, .int .u64 0] 72)) h1)
      have B1 := Lib.hid (Blk.keep (Blk.new1 w (.cells #[.int .u64 (hi : Int), .int .u64 (lo : Int), .int .u64 (bw : Int)] 72) 72 #[.int .u64 0, .int .u64 0, .int .u64 0]) h1)
      have BW := Lib.hid (bel_to (((Below.refl w.heap.size w).alloc (Nat.le_refl _) (.cells #[.int .u64 (hi : Int), .int .u64 (lo : Int), .int .u64 (bw : Int)] 72)).alloc (by simp) (.cells #[.int .u64 0, .int .u64 0, .int .u64 0] 72)) h1 (by simp; omega))
      have HNE : Hid (w.heap.size ≠ w.heap.size + 1) := Lib.hid (by omega)
      clear h1 H1
      have a0 := B0.out.cell (i := 0) (v := .int .u64 (hi : Int)) rfl
      have a1 := B0.out.cell (i := 1) (v := .int .u64 (lo : Int)) rfl
      have a2 := B0.out.cell (i := 2) (v := .int .u64 (bw : Int)) rfl
      have f0 := B0.out.free 0
      have f1 := B0.out.free 1
      have f2 := B0.out.free 2
      go_wp2_with fail
      refine (H2.out _).mono ?_
      rintro e w2 ⟨rfl, h2⟩
      have C0 := Lib.hid (Blk.keep (B0.out.set 1 (.int .u64 (max (f : Int) (q1 : Int)))) h2)
      have C1 := Lib.hid (Blk.keep (B1.out.set_other (c := w.heap.size) 1 (.int .u64 (max (f : Int) (q1 : Int))) (by omega)) h2)
      have CW := Lib.hid (bel_to (BW.out.setCell (p := ⟨w.heap.size, 1, none⟩) (Nat.le_refl _) (.int .u64 (max (f : Int) (q1 : Int)))) h2 (by have := BW.out.size; simpa using this))
      clear h2 H2 B0 B1 BW a0 a1 a2 f0 f1 f2
      have a0 := C0.out.cell (i := 0) (v := .int .u64 (hi : Int)) rfl
      have a1 := C0.out.cell (i := 1) (v := .int .u64 (max (f : Int) (q1 : Int) : Int)) rfl
      have a2 := C0.out.cell (i := 2) (v := .int .u64 (bw : Int)) rfl
      have f0 := C0.out.free 0
      have f1 := C0.out.free 1
      have f2 := C0.out.free 2
      have t0 := C1.out.cell (i := 0) (v := .int .u64 0) rfl
      have t1 := C1.out.cell (i := 1) (v := .int .u64 0) rfl
      have t2 := C1.out.cell (i := 2) (v := .int .u64 0) rfl
      have y0 := C1.out.free 0
      have y1 := C1.out.free 1
      have y2 := C1.out.free 2
      have F1 := Lib.hid (Blk.whole [.int .u64 (hi : Int), .int .u64 (max (f : Int) (q1 : Int) : Int), .int .u64 (max (r : Int) (q2 : Int) : Int)] (C1.out.set_other (c := w.heap.size) 2 (.int .u64 (max (r : Int) (q2 : Int) : Int)) (by omega)) rfl)
      have FW := Lib.hid (Below.sets (show w.heap.size ≤ w.heap.size + 1 by omega) [.int .u64 (hi : Int), .int .u64 (max (f : Int) (q1 : Int) : Int), .int .u64 (max (r : Int) (q2 : Int) : Int)] 0 _ (CW.out.setCell (p := ⟨w.heap.size, 2, none⟩) (Nat.le_refl _) (.int .u64 (max (r : Int) (q2 : Int) : Int))))
      go_wp2_with fail
      exact bodyPost_ret (results_cell rfl _ _ (w.heap.size + 1) 72 _ _ rfl F1.out Tryz.underlying72 rfl (by kernel_rfl)) rfl ⟨by rw [HT.out], FW.out⟩
  · have t1 : ((lo : Int) == 18446744073709551615) = false := beq_eq_false_iff_ne.2 (by omega)
    have o1 : orS lo h = lo := if_neg c1
    rw [o1] at HT
    have H1 := Lib.hid (HL.out lo blo)
    generalize leftS lo = q1 at *
    clear c1 o1
    by_cases c2 : bw = 18446744073709551615
    · have t2 : ((bw : Int) == 18446744073709551615) = true := by rw [c2]; rfl
      have o2 : orS bw r = r := if_pos c2
      rw [o2] at HT
      have H2 := Lib.hid (HL.out r hr)
      generalize leftS r = q2 at *
      clear c2 o2 HL hr hh blo bbw
      go_enter Tryz.func47, Tryz.ntmps47
      go_wp2_with fail
      refine (H1.out _).mono ?_
      rintro e w1 ⟨rfl, h1⟩
      have B0 := Lib.hid (Blk.keep (Blk.alloc (Blk.new w 72 #[.int .u64 (hi : Int), .int .u64 (lo : Int), .int .u64 (bw : Int)]) (.cells #[.int .u64 0, .int .u64 0, .int .u64 0] 72)) h1)
      have B1 := Lib.hid (Blk.keep (Blk.new1 w (.cells #[.int .u64 (hi : Int), .int .u64 (lo : Int), .int .u64 (bw : Int)] 72) 72 #[.int .u64 0, .int .u64 0, .int .u64 0]) h1)
      have BW := Lib.hid (bel_to (((Below.refl w.heap.size w).alloc (Nat.le_refl _) (.cells #[.int .u64 (hi : Int), .int .u64 (lo : Int), .int .u64 (bw : Int)] 72)).alloc (by simp) (.cells #[.int .u64 0, .int .u64 0, .int .u64 0] 72)) h1 (by simp; omega))
      have HNE : Hid (w.heap.size ≠ w.heap.size + 1) := Lib.hid (by omega)
      clear h1 H1
      have a0 := B0.out.cell (i := 0) (v := .int .u64 (hi : Int)) rfl
      have a1 := B0.out.cell (i := 1) (v := .int .u64 (lo : Int)) rfl
      have a2 := B0.out.cell (i := 2) (v := .int .u64 (bw : Int)) rfl
      have f0 := B0.out.free 0
      have f1 := B0.out.free 1
      have f2 := B0.out.free 2
      go_wp2_with fail
      refine (H2.out _).mono ?_
      rintro e w2 ⟨rfl, h2⟩
      have C0 := Lib.hid (Blk.keep (B0.out.set 1 (.int .u64 (max (f : Int) (q1 : Int)))) h2)
      have C1 := Lib.hid (Blk.keep (B1.out.set_other (c := w.heap.size) 1 (.int .u64 (max (f : Int) (q1 : Int))) (by omega)) h2)
      have CW := Lib.hid (bel_to (BW.out.setCell (p := ⟨w.heap.size, 1, none⟩) (Nat.le_refl _) (.int .u64 (max (f : Int) (q1 : Int)))) h2 (by have := BW.out.size; simpa using this))
      clear h2 H2 B0 B1 BW a0 a1 a2 f0 f1 f2
      have a0 := C0.out.cell (i := 0) (v := .int .u64 (hi : Int)) rfl
      have a1 := C0.out.cell (i := 1) (v := .int .u64 (max (f : Int) (q1 : Int) : Int)) rfl
      have a2 := C0.out.cell (i := 2) (v := .int .u64 (bw : Int)) rfl
      have f0 := C0.out.free 0
      have f1 := C0.out.free 1
      have f2 := C0.out.free 2
      have t0 := C1.out.cell (i := 0) (v := .int .u64 0) rfl
      have t1 := C1.out.cell (i := 1) (v := .int .u64 0) rfl
      have t2 := C1.out.cell (i := 2) (v := .int .u64 0) rfl
      have y0 := C1.out.free 0
      have y1 := C1.out.free 1
      have y2 := C1.out.free 2
      have F1 := Lib.hid (Blk.whole [.int .u64 (hi : Int), .int .u64 (max (f : Int) (q1 : Int) : Int), .int .u64 (max (r : Int) (q2 : Int) : Int)] (C1.out.set_other (c := w.heap.size) 2 (.int .u64 (max (r : Int) (q2 : Int) : Int)) (by omega)) rfl)
      have FW := Lib.hid (Below.sets (show w.heap.size ≤ w.heap.size + 1 by omega) [.int .u64 (hi : Int), .int .u64 (max (f : Int) (q1 : Int) : Int), .int .u64 (max (r : Int) (q2 : Int) : Int)] 0 _ (CW.out.setCell (p := ⟨w.heap.size, 2, none⟩) (Nat.le_refl _) (.int .u64 (max (r : Int) (q2 : Int) : Int))))
      go_wp2_with fail
      exact bodyPost_ret (results_cell rfl _ _ (w.heap.size + 1) 72 _ _ rfl F1.out Tryz.underlying72 rfl (by kernel_rfl)) rfl ⟨by rw [HT.out], FW.out⟩
    · have t2 : ((bw : Int) == 18446744073709551615) = false := beq_eq_false_iff_ne.2 (by omega)
      have o2 : orS bw r = bw := if_neg c2
      rw [o2] at HT
      have H2 := Lib.hid (HL.out bw bbw)
      generalize leftS bw = q2 at *
      clear c2 o2 HL hr hh blo bbw
      go_enter Tryz.func47, Tryz.ntmps47
      go_wp2_with fail
      refine (H1.out _).mono ?_
      rintro e w1 ⟨rfl, h1⟩
      have B0 := Lib.hid (Blk.keep (Blk.alloc (Blk.new w 72 #[.int .u64 (hi : Int), .int .u64 (lo : Int), .int .u64 (bw : Int)]) (.cells #[.int .u64 0, .int .u64 0, .int .u64 0] 72)) h1)
      have B1 := Lib.hid (Blk.keep (Blk.new1 w (.cells #[.int .u64 (hi : Int), .int .u64 (lo : Int), .int .u64 (bw : Int)] 72) 72 #[.int .u64 0, .int .u64 0, .int .u64 0]) h1)
      have BW := Lib.hid (bel_to (((Below.refl w.heap.size w).alloc (Nat.le_refl _) (.cells #[.int .u64 (hi : Int), .int .u64 (lo : Int), .int .u64 (bw : Int)] 72)).alloc (by simp) (.cells #[.int .u64 0, .int .u64 0, .int .u64 0] 72)) h1 (by simp; omega))
      have HNE : Hid (w.heap.size ≠ w.heap.size + 1) := Lib.hid (by omega)
      clear h1 H1
      have a0 := B0.out.cell (i := 0) (v := .int .u64 (hi : Int)) rfl
      have a1 := B0.out.cell (i := 1) (v := .int .u64 (lo : Int)) rfl
      have a2 := B0.out.cell (i := 2) (v := .int .u64 (bw : Int)) rfl
      have f0 := B0.out.free 0
      have f1 := B0.out.free 1
      have f2 := B0.out.free 2
      go_wp2_with fail
      refine (H2.out _).mono ?_
      rintro e w2 ⟨rfl, h2⟩
      have C0 := Lib.hid (Blk.keep (B0.out.set 1 (.int .u64 (max (f : Int) (q1 : Int)))) h2)
      have C1 := Lib.hid (Blk.keep (B1.out.set_other (c := w.heap.size) 1 (.int .u64 (max (f : Int) (q1 : Int))) (by omega)) h2)
      have CW := Lib.hid (bel_to (BW.out.setCell (p := ⟨w.heap.size, 1, none⟩) (Nat.le_refl _) (.int .u64 (max (f : Int) (q1 : Int)))) h2 (by have := BW.out.size; simpa using this))
      clear h2 H2 B0 B1 BW a0 a1 a2 f0 f1 f2
      have a0 := C0.out.cell (i := 0) (v := .int .u64 (hi : Int)) rfl
      have a1 := C0.out.cell (i := 1) (v := .int .u64 (max (f : Int) (q1 : Int) : Int)) rfl
      have a2 := C0.out.cell (i := 2) (v := .int .u64 (bw : Int)) rfl
      have f0 := C0.out.free 0
      have f1 := C0.out.free 1
      have f2 := C0.out.free 2
      have t0 := C1.out.cell (i := 0) (v := .int .u64 0) rfl
      have t1 := C1.out.cell (i := 1) (v := .int .u64 0) rfl
      have t2 := C1.out.cell (i := 2) (v := .int .u64 0) rfl
      have y0 := C1.out.free 0
      have y1 := C1.out.free 1
      have y2 := C1.out.free 2
      have F1 := Lib.hid (Blk.whole [.int .u64 (hi : Int), .int .u64 (max (f : Int) (q1 : Int) : Int), .int .u64 (max (r : Int) (q2 : Int) : Int)] (C1.out.set_other (c := w.heap.size) 2 (.int .u64 (max (r : Int) (q2 : Int) : Int)) (by omega)) rfl)
      have FW := Lib.hid (Below.sets (show w.heap.size ≤ w.heap.size + 1 by omega) [.int .u64 (hi : Int), .int .u64 (max (f : Int) (q1 : Int) : Int), .int .u64 (max (r : Int) (q2 : Int) : Int)] 0 _ (CW.out.setCell (p := ⟨w.heap.size, 2, none⟩) (Nat.le_refl _) (.int .u64 (max (r : Int) (q2 : Int) : Int))))
      go_wp2_with fail
      exact bodyPost_ret (results_cell rfl _ _ (w.heap.size + 1) 72 _ _ rfl F1.out Tryz.underlying72 rfl (by kernel_rfl)) rfl ⟨by rw [HT.out], FW.out⟩


set_option maxHeartbeats 1000000 in
theorem rb_Push (b : BS) (n : Nat) (w : World) (hb : b.ok) (hn : n ≤ 18446744073709551615) :
    Calls Tryz.prog 49 #[.agg b.cells, .int .u64 (n : Int)] w fun e w' => e = .returned (.agg (b.push n).cells) ∧ Below w.heap.size w w' := by
  obtain ⟨hi, lo, bw⟩ := b
  have bhi : hi ≤ 18446744073709551615 := hb.hi
  clear hb
  by_cases c : hi = 18446744073709551615
  · have t1 : ((hi : Int) == 18446744073709551615) = true := by rw [c]; rfl
    have HT : Hid ((BS.push ⟨hi, lo, bw⟩ n).cells = #[.int .u64 (hi : Int), .int .u64 (lo : Int), .int .u64 (bw : Int)]) := Lib.hid (by unfold BS.push BS.cells; dsimp only; rw [if_pos c])
    clear c
    unfold BS.cells at HT ⊢
    dsimp only at HT ⊢
    go_enter Tryz.func49, Tryz.ntmps49
    go_wp2_with fail
    exact bodyPost_ret (results_cell rfl _ _ (w.heap.size + 1) 72 _ _ rfl (Blk.new1 w _ _ _) Tryz.underlying72 rfl (by kernel_rfl)) rfl ⟨by rw [HT.out], ((Below.refl _ _).alloc (Nat.le_refl _) _).alloc (by simp) _⟩
  · have t1 : ((hi : Int) == 18446744073709551615) = false := beq_eq_false_iff_ne.2 (by omega)
    have HA := Lib.hid (fun w => ref_Add hi n w bhi hn)
    have HT : Hid ((BS.push ⟨hi, lo, bw⟩ n).cells = #[.int .u64 (min (addS hi n : Int) 18446744073709551614), .int .u64 (lo : Int), .int .u64 (bw : Int)]) := Lib.hid (by
      have e : ((min (addS hi n) 18446744073709551614 : Nat) : Int) = min (addS hi n : Int) 18446744073709551614 := by omega
      unfold BS.push BS.cells; dsimp only; rw [if_neg c, e])
    generalize addS hi n = q at *
    clear c bhi hn
    unfold BS.cells at HT ⊢
    dsimp only at HT ⊢
    go_enter Tryz.func49, Tryz.ntmps49
    go_wp2_with fail
    refine (HA.out _).mono ?_
    rintro e w1 ⟨rfl, hw1⟩
    have h1 := Below.refl ((w.alloc (.cells #[.int .u64 (hi : Int), .int .u64 (lo : Int), .int .u64 (bw : Int)] 72)).alloc (.cells #[.int .u64 0, .int .u64 0, .int .u64 0] 72)).heap.size ((w.alloc (.cells #[.int .u64 (hi : Int), .int .u64 (lo : Int), .int .u64 (bw : Int)] 72)).alloc (.cells #[.int .u64 0, .int .u64 0, .int .u64 0] 72))
    rw (config := { occs := .pos [3] }) [hw1] at h1
    clear hw1
    have B0 := Lib.hid (Blk.keep (Blk.alloc (Blk.new w 72 #[.int .u64 (hi : Int), .int .u64 (lo : Int), .int .u64 (bw : Int)]) (.cells #[.int .u64 0, .int .u64 0, .int .u64 0] 72)) h1)
    have B1 := Lib.hid (Blk.keep (Blk.new1 w (.cells #[.int .u64 (hi : Int), .int .u64 (lo : Int), .int .u64 (bw : Int)] 72) 72 #[.int .u64 0, .int .u64 0, .int .u64 0]) h1)
    have BW := Lib.hid (bel_to (((Below.refl w.heap.size w).alloc (Nat.le_refl _) (.cells #[.int .u64 (hi : Int), .int .u64 (lo : Int), .int .u64 (bw : Int)] 72)).alloc (by simp) (.cells #[.int .u64 0, .int .u64 0, .int .u64 0] 72)) h1 (by simp; omega))
    have HNE : Hid (w.heap.size ≠ w.heap.size + 1) := Lib.hid (by omega)
    clear h1 HA
    have a0 := B0.out.cell (i := 0) (v := .int .u64 (hi : Int)) rfl
    have a1 := B0.out.cell (i := 1) (v := .int .u64 (lo : Int)) rfl
    have a2 := B0.out.cell (i := 2) (v := .int .u64 (bw : Int)) rfl
    have f0 := B0.out.free 0
    have f1 := B0.out.free 1
    have f2 := B0.out.free 2
    have t0 := B1.out.cell (i := 0) (v := .int .u64 0) rfl
    have t1 := B1.out.cell (i := 1) (v := .int .u64 0) rfl
    have t2 := B1.out.cell (i := 2) (v := .int .u64 0) rfl
    have y0 := B1.out.free 0
    have y1 := B1.out.free 1
    have y2 := B1.out.free 2
    have F1 := Lib.hid (Blk.whole [.int .u64 (min (q : Int) 18446744073709551614 : Int), .int .u64 (lo : Int), .int .u64 (bw : Int)] (B1.out.set_other (c := w.heap.size) 0 (.int .u64 (min (q : Int) 18446744073709551614 : Int)) (by omega)) rfl)
    have FW := Lib.hid (Below.sets (show w.heap.size ≤ w.heap.size + 1 by omega) [.int .u64 (min (q : Int) 18446744073709551614 : Int), .int .u64 (lo : Int), .int .u64 (bw : Int)] 0 _ (BW.out.setCell (p := ⟨w.heap.size, 0, none⟩) (Nat.le_refl _) (.int .u64 (min (q : Int) 18446744073709551614 : Int))))
    go_wp2_with fail
    exact bodyPost_ret (results_cell rfl _ _ (w.heap.size + 1) 72 _ _ rfl F1.out Tryz.underlying72 rfl (by kernel_rfl)) rfl ⟨by rw [HT.out], FW.out⟩


theorem rb_Room (b : BS) (w : World) (hb : b.ok) :
    Calls Tryz.prog 101 #[.agg b.cells] w fun e w' => e = .returned (.int .u64 (b.room : Int)) ∧ Below w.heap.size w w' := by
  obtain ⟨hi, lo, bw⟩ := b
  have bhi : hi ≤ 18446744073709551615 := hb.hi
  clear hb
  by_cases c : hi = 18446744073709551615
  · have t1 : ((hi : Int) == 18446744073709551615) = true := by rw [c]; rfl
    have HT : Hid (BS.room ⟨hi, lo, bw⟩ = 18446744073709551615) := Lib.hid (if_pos c)
    clear c
    unfold BS.cells
    dsimp only
    go_enter Tryz.func101, Tryz.ntmps101
    go_wp2_with fail
    go_ret
    exact ⟨ret_u64 (by rw [HT.out]; rfl), (Below.refl _ _).alloc (Nat.le_refl _) _⟩
  · have t1 : ((hi : Int) == 18446744073709551615) = false := beq_eq_false_iff_ne.2 (by omega)
    have HT : Hid (BS.room ⟨hi, lo, bw⟩ = shareS hi 85 100) := Lib.hid (if_neg c)
    have HS := Lib.hid (fun w => share_pl hi 85 100 w bhi (by omega) (by omega))
    generalize shareS hi 85 100 = q at *
    clear c bhi
    unfold BS.cells
    dsimp only
    go_enter Tryz.func101, Tryz.ntmps101
    go_wp2_with fail
    refine (HS.out _).mono ?_
    rintro e w1 ⟨rfl, h1⟩
    have HW := Lib.hid (bel_to ((Below.refl w.heap.size w).alloc (Nat.le_refl _) _) h1 (by simp))
    clear h1
    go_wp2_with fail
    go_ret
    exact ⟨ret_u64 (by rw [HT.out]), HW.out⟩


set_option maxHeartbeats 1000000 in
theorem rb_Cap (b : BS) (v : Option Addr) (cap : Nat) (l : List Nat) (w : World) (hl : l.length ≤ 9223372036854775807) (hrow : NumsR w v l) :
    Calls Tryz.prog 108 #[.agg b.cells, .slice v l.length cap] w fun e w' => e = .returned (.int .u64 (b.cap l : Int)) ∧ Below w.heap.size w w' := by
  obtain ⟨hi, lo, bw⟩ := b
  have HR := Lib.hid hrow
  have HT : Hid (BS.cap ⟨hi, lo, bw⟩ l = mins (min hi lo) l) := Lib.hid rfl
  have HM : Hid (min (hi : Int) (lo : Int) = ((min hi lo : Nat) : Int)) := Lib.hid (by omega)
  clear hrow
  unfold BS.cells
  dsimp only
  go_enter Tryz.func108, Tryz.ntmps108
  go_wp2_with fail
  go_loop [5, 6] (fun s i => ∃ k : Nat, k ≤ l.length ∧ i = .int .i64 k ∧ s = .int .u64 ((mins (min hi lo) (l.take k) : Nat) : Int)) (fun _ i => l.length - (intOf i).toNat)
  case atStart => exact ⟨0, Nat.zero_le _, rfl, by rw [HM.out]; rfl⟩
  case round =>
    obtain ⟨k, hk, rfl, rfl⟩ := hrel
    by_cases hlt : k < l.length
    · obtain ⟨rb, off, rfl, hb, hc⟩ := HR.out (by omega)
      have hcell := cell_al (hc k hlt) (.cells #[.int .u64 (hi : Int), .int .u64 (lo : Int), .int .u64 (bw : Int)] 72)
      have HS := Lib.hid (mins_take (min hi lo) hlt)
      clear hb hc
      generalize l.getD k 0 = z at *
      generalize mins (min hi lo) (l.take k) = m at *
      go_wp2_with fail
      go_round
      case rel => exact ⟨k + 1, by omega, by go_num, by rw [HS.out]; congr 1; omega⟩
      case measure => simp [intOf]; omega
    · obtain rfl : k = l.length := by omega
      go_wp2_with fail
      go_ret
      exact ⟨ret_u64 (by rw [HT.out]), (Below.refl _ _).alloc (Nat.le_refl _) _⟩


end Go.Proofs.YtpkbjfhicocogaaGreatDoor
