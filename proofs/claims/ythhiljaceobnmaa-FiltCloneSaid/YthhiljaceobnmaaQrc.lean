/- Contracts of package ring over this translation, for rows of goit/filt.reading: narrow, At. -/
import Derived.Test.YthhiljaceobnmaaQrb
set_option linter.unusedVariables false
namespace Go.Proofs.Ythhiljaceobnmaa
open Go.RowKit

set_option maxHeartbeats 400000 in
theorem rd_narrow (b g : Nat) (s : QS Rd) (w : World) (h : RdAt w b g s) (ho : s.ok) :
    Calls Try.prog 35 #[.pointer (some ⟨b, 0, none⟩)] w (RdPost w b g (.returned (.tuple #[])) s.narrow) := by
  have HH := Lib.hid h
  have HO := Lib.hid ho
  have c0 := h.head.cell (i := 0) (v := .slice (some ⟨g, 0, none⟩) s.pl.length s.pl.length) rfl
  have c2 := h.head.cell (i := 2) (v := .int .i64 (s.cnt : Int)) rfl
  have hm := ho.m
  have hc := ho.c
  clear h ho
  by_cases a : 0 < s.cnt
  · by_cases d : s.cnt ≤ s.pl.length / 4
    · have HE : Hid (s.narrow = s.move (s.pl.length / 2)) := Lib.hid (if_pos ⟨a, d⟩)
      have d1 : decide ((s.cnt : Int) ≤ (s.pl.length : Int) / 4) = true := by simp; omega
      go_enter Try.func35, Try.ntmps35
      go_wp2_with fail
      go_quiet (fail)
      have HD : Hid (Drawn w (w.drewN nq)) := Lib.hid ⟨nq, rfl⟩
      have e0 := (HD.out.cell _).trans c0
      generalize w.drewN nq = w1 at *
      go_wp2_with fail
      have e : ((s.pl.length : Int) / 2) = ((s.pl.length / 2 : Nat) : Int) := by omega
      rw [e]
      clear e
      refine (rd_move b g (s.pl.length / 2) s w1 (RdAt.drawn HD.out HH.out) HO.out (by omega) (by omega)).mono ?_
      rintro e w2 ⟨rfl, hat, hmv⟩
      have HA := Lib.hid hat
      have HM := Lib.hid hmv
      clear hat hmv
      go_wp2_with fail
      go_end0
      obtain ⟨g', h1, h2⟩ := HA.out
      rw [HE.out]
      exact ⟨rfl, ⟨g', h1, by rw [HD.out.heap] at h2; exact h2⟩, ((Mv.refl w b g).drawn HD.out).trans HM.out (.inl rfl)⟩
    · have HE : Hid (s.narrow = s) := Lib.hid (if_neg (fun k => d k.2))
      have d1 : decide ((s.cnt : Int) ≤ (s.pl.length : Int) / 4) = false := by simp; omega
      go_enter Try.func35, Try.ntmps35
      go_wp2_with fail
      go_quiet (fail)
      have HD : Hid (Drawn w (w.drewN nq)) := Lib.hid ⟨nq, rfl⟩
      go_wp2_with fail
      go_end0
      rw [HE.out]
      exact ⟨rfl, ⟨g, RdAt.drawn HD.out HH.out, .inl rfl⟩, (Mv.refl w b g).drawn HD.out⟩
  · have HE : Hid (s.narrow = s) := Lib.hid (if_neg (fun k => a k.1))
    have d0 : decide ((0 : Int) < (s.cnt : Int)) = false := by simp; omega
    have d1 : decide (0 < s.cnt) = false := by simp; omega
    go_enter Try.func35, Try.ntmps35
    go_wp2_with fail
    go_quiet (fail)
    have HD : Hid (Drawn w (w.drewN nq)) := Lib.hid ⟨nq, rfl⟩
    go_wp2_with fail
    go_end0
    rw [HE.out]
    exact ⟨rfl, ⟨g, RdAt.drawn HD.out HH.out, .inl rfl⟩, (Mv.refl w b g).drawn HD.out⟩

/-- The answer (x, ok) of a call. -/
def rdgot (x : Rd) (ok : Bool) : Ending := .returned (.tuple #[x.agg, .bool ok])

set_option maxHeartbeats 1000000 in
theorem rd_At (b g i : Nat) (s : QS Rd) (w : World) (h : RdAt w b g s) (ho : s.ok) (hi : i < s.cnt) :
    Calls Try.prog 18 #[.pointer (some ⟨b, 0, none⟩), .int .i64 (i : Int)] w fun e w' => e = rdgot (s.get i) true ∧ Below w.heap.size w w' := by
  have HO := Lib.hid ho
  have HB := Lib.hid (show Blk (w.alloc (.cells #[.int .u64 0, .int .u64 0] 52)) w.heap.size 52 #[.int .u64 0, .int .u64 0] from Blk.new _ _ _)
  have HH := Lib.hid (h.alloc (.cells #[.int .u64 0, .int .u64 0] 52))
  have HW : Hid (Below w.heap.size w (w.alloc (.cells #[.int .u64 0, .int .u64 0] 52))) := Lib.hid ((Below.refl _ _).alloc (Nat.le_refl _) _)
  have HZ : Hid (g ≠ w.heap.size) := Lib.hid h.body.old
  have HZ2 : Hid (b ≠ w.heap.size) := Lib.hid h.head.old
  have hp : 0 < s.pl.length := by have := ho.c; omega
  have hpl := QS.pos_lt hp i
  have hc := ho.c
  have hm := ho.m
  have a0 := HH.out.head.drew.cell (i := 0) (v := .slice (some ⟨g, 0, none⟩) s.pl.length s.pl.length) rfl
  have x0 := HH.out.body.drew.cell (i := s.pos i * 2) (v := .int .u64 ((s.get i).t : Int)) (icells_at (α := Rd) 0 hpl (by decide))
  have x1 := HH.out.body.drew.cell (i := s.pos i * 2 + 1) (v := .int .u64 ((s.get i).x : Int)) (icells_at (α := Rd) 1 hpl (by decide))
  have r0 := HB.out.drew.cell (i := 0) (v := .int .u64 0) rfl
  have r1 := HB.out.drew.cell (i := 1) (v := .int .u64 0) rfl
  have f0 := HB.out.free 0
  have f1 := HB.out.free 1
  have HP := Lib.hid (rd_place b g i s)
  have HL := Lib.hid (rd_Len b g s (w.alloc (.cells #[.int .u64 0, .int .u64 0] 52)) HH.out)
  have i3 : (0 : Int) ≤ ((s.pos i : Nat) : Int) := by omega
  have i4 : ((s.pos i : Nat) : Int) < (s.pl.length : Int) := by omega
  have d0 : decide ((i : Int) < 0) = false := by simp
  have d1 : decide (s.cnt ≤ i) = false := by simp; omega
  clear h ho
  generalize s.get i = x at *
  generalize s.pos i = p at *
  go_enter Try.func18, Try.ntmps18
  go_wp2_with (go_at_call 30; refine (HL.out).mono ?_; rintro e w' ⟨rfl, rfl⟩)
  generalize (w.alloc (.cells #[.int .u64 0, .int .u64 0] 52)) = wa at *
  go_region_held3 (fun w' => w'.cell? ⟨b, 0, none⟩ = some (.slice (some ⟨g, 0, none⟩) s.pl.length s.pl.length) ∧ w'.cell? ⟨g, p * 2, none⟩ = some (.int .u64 (x.t : Int)) ∧ w'.cell? ⟨g, p * 2 + 1, none⟩ = some (.int .u64 (x.x : Int)))
    (first | exact ⟨a0, x0, x1⟩ | exact ⟨b0, q0, q1⟩ | exact ⟨(far (far b0 HZ2.out) HZ2.out), (far (far q0 HZ.out) HZ.out), (far (far q1 HZ.out) HZ.out)⟩)
    (first | (go_at_call 31; refine (HP.out _ (RdAt.drawn (Drawn.drew wa) HH.out) HO.out hp (by omega)).mono ?_; rintro e w' ⟨rfl, hd⟩; have HD := Lib.hid hd; clear hd; have b0 := (HD.out.cell _).trans a0; have q0 := (HD.out.cell _).trans x0; have q1 := (HD.out.cell _).trans x1; have t0 := (HD.out.cell _).trans r0; have t1 := (HD.out.cell _).trans r1; have h0 := (HD.out.frozen _).trans f0; have h1 := (HD.out.frozen _).trans f1))
  have hD : Drawn wa w' := (Drawn.drew wa).more HD.out
  have F1 : Blk ((w'.setCell ⟨w.heap.size, 0, none⟩ (.int .u64 (x.t : Int))).setCell ⟨w.heap.size, 1, none⟩ (.int .u64 (x.x : Int))) w.heap.size 52 (Itm.cs x).toArray := Blk.whole (Itm.cs x) (hD.blk HB.out) rfl
  have F2 : Below w.heap.size w ((w'.setCell ⟨w.heap.size, 0, none⟩ (.int .u64 (x.t : Int))).setCell ⟨w.heap.size, 1, none⟩ (.int .u64 (x.x : Int))) := Below.sets (Nat.le_refl _) (Itm.cs x) 0 w' (HW.out.trans (hD.below _))
  go_wp2_with fail
  exact bodyPost_ret (results_cell_tmp rfl _ _ w.heap.size 52 _ _ rfl F1 Try.underlying52 rfl (by kernel_rfl)) rfl ⟨rfl, F2⟩

theorem rd_At_out (b g : Nat) (i : Int) (s : QS Rd) (w : World) (h : RdAt w b g s) (hi : i < 0 ∨ (s.cnt : Int) ≤ i) :
    Calls Try.prog 18 #[.pointer (some ⟨b, 0, none⟩), .int .i64 i] w fun e w' => e = rdgot Itm.z false ∧ Below w.heap.size w w' := by
  have HH := Lib.hid (h.alloc (.cells #[.int .u64 0, .int .u64 0] 52))
  have HL := Lib.hid (rd_Len b g s (w.alloc (.cells #[.int .u64 0, .int .u64 0] 52)) HH.out)
  have HB := Lib.hid (show Blk (w.alloc (.cells #[.int .u64 0, .int .u64 0] 52)) w.heap.size 52 #[.int .u64 0, .int .u64 0] from Blk.new _ _ _)
  have HW : Hid (Below w.heap.size w (w.alloc (.cells #[.int .u64 0, .int .u64 0] 52))) := Lib.hid ((Below.refl _ _).alloc (Nat.le_refl _) _)
  clear h
  by_cases c : i < 0
  · have d0 : decide (i < 0) = true := by simpa using c
    go_enter Try.func18, Try.ntmps18
    go_wp2_with (go_at_call 30; refine (HL.out).mono ?_; rintro e w' ⟨rfl, rfl⟩)
    exact bodyPost_ret (results_cell_tmp rfl _ _ w.heap.size 52 _ _ rfl HB.out Try.underlying52 rfl (by kernel_rfl)) rfl ⟨rfl, HW.out⟩
  · have d0 : decide (i < 0) = false := by simpa using c
    have hj : (s.cnt : Int) ≤ i := by omega
    have d1 : decide ((s.cnt : Int) ≤ i) = true := by simpa using hj
    clear hi
    go_enter Try.func18, Try.ntmps18
    go_wp2_with (go_at_call 30; refine (HL.out).mono ?_; rintro e w' ⟨rfl, rfl⟩)
    exact bodyPost_ret (results_cell_tmp rfl _ _ w.heap.size 52 _ _ rfl HB.out Try.underlying52 rfl (by kernel_rfl)) rfl ⟨rfl, HW.out⟩
end Go.Proofs.Ythhiljaceobnmaa
