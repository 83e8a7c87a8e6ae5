/- Contracts of package ring over this translation, for rows of goit/filt.reading: Push. -/
import Derived.Test.YthhiljaceobnmaaQrc
set_option linter.unusedVariables false
namespace Go.Proofs.Ythhiljaceobnmaa
open Go.RowKit

set_option maxHeartbeats 2000000 in
theorem rd_Push (b g : Nat) (x : Rd) (s : QS Rd) (w : World) (h : RdAt w b g s) (ho : s.ok) (hk : s.cnt ≤ 1000) :
    Calls Try.prog 29 #[.pointer (some ⟨b, 0, none⟩), x.agg] w (RdPost w b g (.returned (.tuple #[])) (s.push x)) := by
  unfold Rd.agg
  have HO := Lib.hid ho
  have HH := Lib.hid (h.alloc (.cells #[.int .u64 (x.t : Int), .int .u64 (x.x : Int)] 52))
  have HX := Lib.hid (show Blk (w.alloc (.cells #[.int .u64 (x.t : Int), .int .u64 (x.x : Int)] 52)) w.heap.size 52 #[.int .u64 (x.t : Int), .int .u64 (x.x : Int)] from Blk.new _ _ _)
  have HM : Hid (Mv w (w.alloc (.cells #[.int .u64 (x.t : Int), .int .u64 (x.x : Int)] 52)) b g) := Lib.hid ((Mv.refl w b g).alloc _)
  have HS1 : Hid ((w.alloc (.cells #[.int .u64 (x.t : Int), .int .u64 (x.x : Int)] 52)).heap.size = w.heap.size + 1) := Lib.hid (by simp)
  have b0 := HH.out.head.cell (i := 0) (v := .slice (some ⟨g, 0, none⟩) s.pl.length s.pl.length) rfl
  have b2 := HH.out.head.cell (i := 2) (v := .int .i64 (s.cnt : Int)) rfl
  have hm := ho.m
  have hc := ho.c
  have HZb : Hid (w.heap.size ≠ b) := Lib.hid (Ne.symm h.head.old)
  have HZg : Hid (w.heap.size ≠ g) := Lib.hid (Ne.symm h.body.old)
  clear h ho
  by_cases a : s.cnt = s.pl.length
  · by_cases z0 : 1 ≤ s.cnt
    · have HE : Hid (s.wide = s.move (2 * s.cnt)) := Lib.hid (by unfold QS.wide; rw [if_pos a]; congr 1; omega)
      have z1 : (1 : Int) < 2 * (s.cnt : Int) := by omega
      have d1 : (s.cnt == s.pl.length) = true := by simpa using a
      have HA := Lib.hid a
      clear a
      go_enter Try.func29, Try.ntmps29
      go_wp2_with fail
      generalize (w.alloc (.cells #[.int .u64 (x.t : Int), .int .u64 (x.x : Int)] 52)) = w0 at *
      go_quiet (fail)
      have HD : Hid (Drawn w0 (w0.drewN nq)) := Lib.hid ⟨nq, rfl⟩
      have q2 := (HD.out.cell _).trans b2
      generalize w0.drewN nq = w1 at *
      go_wp2_with fail
      have HC : Hid (Calls Try.prog 38 #[.pointer (some ⟨b, 0, none⟩), .int .i64 (2 * (s.cnt : Int))] w1 (RdPost w1 b g (.returned (.tuple #[])) (s.move (2 * s.cnt)))) := Lib.hid (by have := rd_move b g (2 * s.cnt) s w1 (RdAt.drawn HD.out HH.out) HO.out (by omega) (by omega); simpa using this)
      refine (HC.out).mono ?_
      rintro e w2 ⟨rfl, hat, hmv⟩
      obtain ⟨g2, hg2, hgq⟩ := hat
      rw [← HE.out] at hg2
      have HG := Lib.hid hg2
      have HX2 := Lib.hid ((HD.out.blk HX.out).mv hmv HZb.out HZg.out)
      have HM2 := Lib.hid ((HM.out.drawn HD.out).trans hmv (.inl rfl))
      have HQ : Hid (g2 = g ∨ w.heap.size < g2) := Lib.hid (by have := HS1.out; rw [HD.out.heap] at hgq; omega)
      have HZ : Hid (w.heap.size ≠ g2) := Lib.hid (by have := HQ.out; have := HZg.out; omega)
      clear hg2 hgq hmv q2 HE b0 b2 HD HC z1 HX
      have HX := HX2
      clear HX2
      replace HQ : Hid (g2 = g ∨ w.heap.size ≤ g2) := Lib.hid (by have := HQ.out; omega)
      have HO2 := Lib.hid (QS.wide_ok HO.out hk)
      have HC2 := Lib.hid (QS.wide_cnt s)
      have HR2 := Lib.hid (QS.wide_room HO.out)
      have HPU : Hid (s.push x = ⟨s.wide.pl.set (s.wide.pos s.cnt) x, s.wide.first, s.cnt + 1⟩) := Lib.hid rfl
      generalize s.wide = t at *
      generalize s.push x = u at *
      obtain ⟨t1, t2, t3⟩ := t
      obtain rfl : t3 = s.cnt := HC2.out
      have hr : s.cnt < t1.length := HR2.out
      have hpl := QS.pos_lt (s := ⟨t1, t2, s.cnt⟩) (by show 0 < t1.length; omega) s.cnt
      have a0 := HG.out.head.drew.cell (i := 0) (v := .slice (some ⟨g2, 0, none⟩) t1.length t1.length) rfl
      have a2 := HG.out.head.drew.cell (i := 2) (v := .int .i64 (s.cnt : Int)) rfl
      have k2 := HG.out.head.drew.free 2
      have x0 := HX.out.drew.cell (i := 0) (v := .int .u64 (x.t : Int)) rfl
      have x1 := HX.out.drew.cell (i := 1) (v := .int .u64 (x.x : Int)) rfl
      have HN2 := Lib.hid HG.out.ne
      have HP := Lib.hid (rd_place b g2 s.cnt ⟨t1, t2, s.cnt⟩)
      have i3 : (0 : Int) ≤ ((QS.pos ⟨t1, t2, s.cnt⟩ s.cnt : Nat) : Int) := by omega
      have i4 : ((QS.pos ⟨t1, t2, s.cnt⟩ s.cnt : Nat) : Int) < (t1.length : Int) := by exact_mod_cast hpl
      have i5 : QS.pos ⟨t1, t2, s.cnt⟩ s.cnt < t1.length := hpl
      clear hpl
      generalize QS.pos ⟨t1, t2, s.cnt⟩ s.cnt = p at *
      obtain ⟨y0, hy0⟩ : ∃ v, (icells t1)[p * 2]? = some v := ⟨_, Array.getElem?_eq_getElem (by rw [icells_size]; show _ < t1.length * 2; omega)⟩
      have c0 := HG.out.body.drew.cell hy0
      have f0 := HG.out.body.drew.free (p * 2)
      obtain ⟨y1, hy1⟩ : ∃ v, (icells t1)[p * 2 + 1]? = some v := ⟨_, Array.getElem?_eq_getElem (by rw [icells_size]; show _ < t1.length * 2; omega)⟩
      have c1 := HG.out.body.drew.cell hy1
      have f1 := HG.out.body.drew.free (p * 2 + 1)
      go_wp2_with fail
      go_region_held3 (fun w' => w'.cell? ⟨b, 0, none⟩ = some (.slice (some ⟨g2, 0, none⟩) t1.length t1.length) ∧ w'.cell? ⟨b, 2, none⟩ = some (.int .i64 (s.cnt : Int)) ∧ w'.cell? ⟨w.heap.size, 0, none⟩ = some (.int .u64 (x.t : Int)) ∧ w'.cell? ⟨w.heap.size, 1, none⟩ = some (.int .u64 (x.x : Int)))
        (first | exact ⟨a0, a2, x0, x1⟩ | exact ⟨b0, b2, q0, q1⟩ | exact ⟨(far (far b0 HN2.out) HN2.out), (far (far b2 HN2.out) HN2.out), (far (far q0 HZ.out) HZ.out), (far (far q1 HZ.out) HZ.out)⟩)
        (first | (go_at_call 31; refine (HP.out _ (RdAt.drawn (Drawn.drew w2) HG.out) HO2.out (by show 0 < t1.length; omega) (by omega)).mono ?_; rintro e w' ⟨rfl, hd⟩; have HD := Lib.hid hd; clear hd; have b0 := (HD.out.cell _).trans a0; have b2 := (HD.out.cell _).trans a2; have l2 := (HD.out.frozen _).trans k2; have q0 := (HD.out.cell _).trans x0; have q1 := (HD.out.cell _).trans x1; have d0 := (HD.out.cell _).trans c0; have d1 := (HD.out.cell _).trans c1; have h0 := (HD.out.frozen _).trans f0; have h1 := (HD.out.frozen _).trans f1))
      have hD : Drawn w2 w' := (Drawn.drew w2).more HD.out
      have F1 : Hid (Blk ((w'.setCell ⟨g2, p * 2, none⟩ (.int .u64 (x.t : Int))).setCell ⟨g2, p * 2 + 1, none⟩ (.int .u64 (x.x : Int))) g2 52 (icells (t1.set p x))) := Lib.hid (by
        have := Blk.sets (Itm.cs x) (p * Itm.k Rd) w' _ (hD.blk HG.out.body)
        rw [putA_item t1 p x i5] at this
        exact this)
      have F2 : Hid (Blk ((w'.setCell ⟨g2, p * 2, none⟩ (.int .u64 (x.t : Int))).setCell ⟨g2, p * 2 + 1, none⟩ (.int .u64 (x.x : Int))) b 63 (rdCells ⟨t1, t2, s.cnt⟩ g2)) := Lib.hid (Blk.sets_other HN2.out (Itm.cs x) (p * 2) w' (hD.blk HG.out.head))
      have F3 : Hid (Mv w ((w'.setCell ⟨g2, p * 2, none⟩ (.int .u64 (x.t : Int))).setCell ⟨g2, p * 2 + 1, none⟩ (.int .u64 (x.x : Int))) b g) := Lib.hid (Mv.sets (by have := HQ.out; omega) (Itm.cs x) (p * 2) w' (HM2.out.drawn hD))
      generalize ((w'.setCell ⟨g2, p * 2, none⟩ (.int .u64 (x.t : Int))).setCell ⟨g2, p * 2 + 1, none⟩ (.int .u64 (x.x : Int))) = w3 at *
      clear a0 a2 k2 b0 b2 l2 x0 q0 c0 d0 f0 h0 hy0 x1 q1 c1 d1 f1 h1 hy1 hD HD HP i3 i4 i5
      have m2 := F2.out.cell (i := 2) (v := .int .i64 (s.cnt : Int)) rfl
      have n2 := F2.out.free 2
      go_wp2_with fail
      go_end0
      refine ⟨rfl, ⟨g2, ⟨?_, ?_⟩, HQ.out⟩, F3.out.set (.inl rfl) _ _⟩
      · have := F2.out.set 2 (.int .i64 ((s.cnt : Int) + 1))
        rw [HPU.out]
        simpa [rdCells] using this
      · rw [HPU.out]
        exact F1.out.set_other _ _ (Ne.symm HN2.out)
    · have HE : Hid (s.wide = s.move 1) := Lib.hid (by unfold QS.wide; rw [if_pos a]; congr 1; omega)
      have z1 : 2 * (s.cnt : Int) ≤ 1 := by omega
      have d1 : (s.cnt == s.pl.length) = true := by simpa using a
      have HA := Lib.hid a
      clear a
      go_enter Try.func29, Try.ntmps29
      go_wp2_with fail
      generalize (w.alloc (.cells #[.int .u64 (x.t : Int), .int .u64 (x.x : Int)] 52)) = w0 at *
      go_quiet (fail)
      have HD : Hid (Drawn w0 (w0.drewN nq)) := Lib.hid ⟨nq, rfl⟩
      have q2 := (HD.out.cell _).trans b2
      generalize w0.drewN nq = w1 at *
      go_wp2_with fail
      have HC : Hid (Calls Try.prog 38 #[.pointer (some ⟨b, 0, none⟩), .int .i64 1] w1 (RdPost w1 b g (.returned (.tuple #[])) (s.move 1))) := Lib.hid (by have := rd_move b g 1 s w1 (RdAt.drawn HD.out HH.out) HO.out (by omega) (by omega); simpa using this)
      refine (HC.out).mono ?_
      rintro e w2 ⟨rfl, hat, hmv⟩
      obtain ⟨g2, hg2, hgq⟩ := hat
      rw [← HE.out] at hg2
      have HG := Lib.hid hg2
      have HX2 := Lib.hid ((HD.out.blk HX.out).mv hmv HZb.out HZg.out)
      have HM2 := Lib.hid ((HM.out.drawn HD.out).trans hmv (.inl rfl))
      have HQ : Hid (g2 = g ∨ w.heap.size < g2) := Lib.hid (by have := HS1.out; rw [HD.out.heap] at hgq; omega)
      have HZ : Hid (w.heap.size ≠ g2) := Lib.hid (by have := HQ.out; have := HZg.out; omega)
      clear hg2 hgq hmv q2 HE b0 b2 HD HC z1 HX
      have HX := HX2
      clear HX2
      replace HQ : Hid (g2 = g ∨ w.heap.size ≤ g2) := Lib.hid (by have := HQ.out; omega)
      have HO2 := Lib.hid (QS.wide_ok HO.out hk)
      have HC2 := Lib.hid (QS.wide_cnt s)
      have HR2 := Lib.hid (QS.wide_room HO.out)
      have HPU : Hid (s.push x = ⟨s.wide.pl.set (s.wide.pos s.cnt) x, s.wide.first, s.cnt + 1⟩) := Lib.hid rfl
      generalize s.wide = t at *
      generalize s.push x = u at *
      obtain ⟨t1, t2, t3⟩ := t
      obtain rfl : t3 = s.cnt := HC2.out
      have hr : s.cnt < t1.length := HR2.out
      have hpl := QS.pos_lt (s := ⟨t1, t2, s.cnt⟩) (by show 0 < t1.length; omega) s.cnt
      have a0 := HG.out.head.drew.cell (i := 0) (v := .slice (some ⟨g2, 0, none⟩) t1.length t1.length) rfl
      have a2 := HG.out.head.drew.cell (i := 2) (v := .int .i64 (s.cnt : Int)) rfl
      have k2 := HG.out.head.drew.free 2
      have x0 := HX.out.drew.cell (i := 0) (v := .int .u64 (x.t : Int)) rfl
      have x1 := HX.out.drew.cell (i := 1) (v := .int .u64 (x.x : Int)) rfl
      have HN2 := Lib.hid HG.out.ne
      have HP := Lib.hid (rd_place b g2 s.cnt ⟨t1, t2, s.cnt⟩)
      have i3 : (0 : Int) ≤ ((QS.pos ⟨t1, t2, s.cnt⟩ s.cnt : Nat) : Int) := by omega
      have i4 : ((QS.pos ⟨t1, t2, s.cnt⟩ s.cnt : Nat) : Int) < (t1.length : Int) := by exact_mod_cast hpl
      have i5 : QS.pos ⟨t1, t2, s.cnt⟩ s.cnt < t1.length := hpl
      clear hpl
      generalize QS.pos ⟨t1, t2, s.cnt⟩ s.cnt = p at *
      obtain ⟨y0, hy0⟩ : ∃ v, (icells t1)[p * 2]? = some v := ⟨_, Array.getElem?_eq_getElem (by rw [icells_size]; show _ < t1.length * 2; omega)⟩
      have c0 := HG.out.body.drew.cell hy0
      have f0 := HG.out.body.drew.free (p * 2)
      obtain ⟨y1, hy1⟩ : ∃ v, (icells t1)[p * 2 + 1]? = some v := ⟨_, Array.getElem?_eq_getElem (by rw [icells_size]; show _ < t1.length * 2; omega)⟩
      have c1 := HG.out.body.drew.cell hy1
      have f1 := HG.out.body.drew.free (p * 2 + 1)
      go_wp2_with fail
      go_region_held3 (fun w' => w'.cell? ⟨b, 0, none⟩ = some (.slice (some ⟨g2, 0, none⟩) t1.length t1.length) ∧ w'.cell? ⟨b, 2, none⟩ = some (.int .i64 (s.cnt : Int)) ∧ w'.cell? ⟨w.heap.size, 0, none⟩ = some (.int .u64 (x.t : Int)) ∧ w'.cell? ⟨w.heap.size, 1, none⟩ = some (.int .u64 (x.x : Int)))
        (first | exact ⟨a0, a2, x0, x1⟩ | exact ⟨b0, b2, q0, q1⟩ | exact ⟨(far (far b0 HN2.out) HN2.out), (far (far b2 HN2.out) HN2.out), (far (far q0 HZ.out) HZ.out), (far (far q1 HZ.out) HZ.out)⟩)
        (first | (go_at_call 31; refine (HP.out _ (RdAt.drawn (Drawn.drew w2) HG.out) HO2.out (by show 0 < t1.length; omega) (by omega)).mono ?_; rintro e w' ⟨rfl, hd⟩; have HD := Lib.hid hd; clear hd; have b0 := (HD.out.cell _).trans a0; have b2 := (HD.out.cell _).trans a2; have l2 := (HD.out.frozen _).trans k2; have q0 := (HD.out.cell _).trans x0; have q1 := (HD.out.cell _).trans x1; have d0 := (HD.out.cell _).trans c0; have d1 := (HD.out.cell _).trans c1; have h0 := (HD.out.frozen _).trans f0; have h1 := (HD.out.frozen _).trans f1))
      have hD : Drawn w2 w' := (Drawn.drew w2).more HD.out
      have F1 : Hid (Blk ((w'.setCell ⟨g2, p * 2, none⟩ (.int .u64 (x.t : Int))).setCell ⟨g2, p * 2 + 1, none⟩ (.int .u64 (x.x : Int))) g2 52 (icells (t1.set p x))) := Lib.hid (by
        have := Blk.sets (Itm.cs x) (p * Itm.k Rd) w' _ (hD.blk HG.out.body)
        rw [putA_item t1 p x i5] at this
        exact this)
      have F2 : Hid (Blk ((w'.setCell ⟨g2, p * 2, none⟩ (.int .u64 (x.t : Int))).setCell ⟨g2, p * 2 + 1, none⟩ (.int .u64 (x.x : Int))) b 63 (rdCells ⟨t1, t2, s.cnt⟩ g2)) := Lib.hid (Blk.sets_other HN2.out (Itm.cs x) (p * 2) w' (hD.blk HG.out.head))
      have F3 : Hid (Mv w ((w'.setCell ⟨g2, p * 2, none⟩ (.int .u64 (x.t : Int))).setCell ⟨g2, p * 2 + 1, none⟩ (.int .u64 (x.x : Int))) b g) := Lib.hid (Mv.sets (by have := HQ.out; omega) (Itm.cs x) (p * 2) w' (HM2.out.drawn hD))
      generalize ((w'.setCell ⟨g2, p * 2, none⟩ (.int .u64 (x.t : Int))).setCell ⟨g2, p * 2 + 1, none⟩ (.int .u64 (x.x : Int))) = w3 at *
      clear a0 a2 k2 b0 b2 l2 x0 q0 c0 d0 f0 h0 hy0 x1 q1 c1 d1 f1 h1 hy1 hD HD HP i3 i4 i5
      have m2 := F2.out.cell (i := 2) (v := .int .i64 (s.cnt : Int)) rfl
      have n2 := F2.out.free 2
      go_wp2_with fail
      go_end0
      refine ⟨rfl, ⟨g2, ⟨?_, ?_⟩, HQ.out⟩, F3.out.set (.inl rfl) _ _⟩
      · have := F2.out.set 2 (.int .i64 ((s.cnt : Int) + 1))
        rw [HPU.out]
        simpa [rdCells] using this
      · rw [HPU.out]
        exact F1.out.set_other _ _ (Ne.symm HN2.out)
  · have HE : Hid (s.wide = s) := Lib.hid (if_neg a)
    have d1 : (s.cnt == s.pl.length) = false := by simpa using a
    have HA := Lib.hid a
    clear a
    go_enter Try.func29, Try.ntmps29
    go_wp2_with fail
    generalize (w.alloc (.cells #[.int .u64 (x.t : Int), .int .u64 (x.x : Int)] 52)) = w0 at *
    go_quiet (fail)
    have HD : Hid (Drawn w0 (w0.drewN nq)) := Lib.hid ⟨nq, rfl⟩
    have q2 := (HD.out.cell _).trans b2
    have HG : Hid (RdAt (w0.drewN nq) b g s.wide) := Lib.hid (by rw [HE.out]; exact RdAt.drawn HD.out HH.out)
    have HM2 := Lib.hid (HM.out.drawn HD.out)
    have HX2 := Lib.hid (HD.out.blk HX.out)
    obtain ⟨g2, hg2⟩ : ∃ g2, g2 = g := ⟨_, rfl⟩
    have HQ : Hid (g2 = g ∨ w.heap.size ≤ g2) := Lib.hid (.inl hg2)
    have HZ : Hid (w.heap.size ≠ g2) := Lib.hid (by have := HZg.out; omega)
    rw [← hg2] at HG
    generalize w0.drewN nq = w2 at *
    clear hg2 HE b0 b2 HD q2 HX
    have HX := HX2
    clear HX2
    have HO2 := Lib.hid (QS.wide_ok HO.out hk)
    have HC2 := Lib.hid (QS.wide_cnt s)
    have HR2 := Lib.hid (QS.wide_room HO.out)
    have HPU : Hid (s.push x = ⟨s.wide.pl.set (s.wide.pos s.cnt) x, s.wide.first, s.cnt + 1⟩) := Lib.hid rfl
    generalize s.wide = t at *
    generalize s.push x = u at *
    obtain ⟨t1, t2, t3⟩ := t
    obtain rfl : t3 = s.cnt := HC2.out
    have hr : s.cnt < t1.length := HR2.out
    have hpl := QS.pos_lt (s := ⟨t1, t2, s.cnt⟩) (by show 0 < t1.length; omega) s.cnt
    have a0 := HG.out.head.drew.cell (i := 0) (v := .slice (some ⟨g2, 0, none⟩) t1.length t1.length) rfl
    have a2 := HG.out.head.drew.cell (i := 2) (v := .int .i64 (s.cnt : Int)) rfl
    have k2 := HG.out.head.drew.free 2
    have x0 := HX.out.drew.cell (i := 0) (v := .int .u64 (x.t : Int)) rfl
    have x1 := HX.out.drew.cell (i := 1) (v := .int .u64 (x.x : Int)) rfl
    have HN2 := Lib.hid HG.out.ne
    have HP := Lib.hid (rd_place b g2 s.cnt ⟨t1, t2, s.cnt⟩)
    have i3 : (0 : Int) ≤ ((QS.pos ⟨t1, t2, s.cnt⟩ s.cnt : Nat) : Int) := by omega
    have i4 : ((QS.pos ⟨t1, t2, s.cnt⟩ s.cnt : Nat) : Int) < (t1.length : Int) := by exact_mod_cast hpl
    have i5 : QS.pos ⟨t1, t2, s.cnt⟩ s.cnt < t1.length := hpl
    clear hpl
    generalize QS.pos ⟨t1, t2, s.cnt⟩ s.cnt = p at *
    obtain ⟨y0, hy0⟩ : ∃ v, (icells t1)[p * 2]? = some v := ⟨_, Array.getElem?_eq_getElem (by rw [icells_size]; show _ < t1.length * 2; omega)⟩
    have c0 := HG.out.body.drew.cell hy0
    have f0 := HG.out.body.drew.free (p * 2)
    obtain ⟨y1, hy1⟩ : ∃ v, (icells t1)[p * 2 + 1]? = some v := ⟨_, Array.getElem?_eq_getElem (by rw [icells_size]; show _ < t1.length * 2; omega)⟩
    have c1 := HG.out.body.drew.cell hy1
    have f1 := HG.out.body.drew.free (p * 2 + 1)
    go_wp2_with fail
    go_region_held3 (fun w' => w'.cell? ⟨b, 0, none⟩ = some (.slice (some ⟨g2, 0, none⟩) t1.length t1.length) ∧ w'.cell? ⟨b, 2, none⟩ = some (.int .i64 (s.cnt : Int)) ∧ w'.cell? ⟨w.heap.size, 0, none⟩ = some (.int .u64 (x.t : Int)) ∧ w'.cell? ⟨w.heap.size, 1, none⟩ = some (.int .u64 (x.x : Int)))
      (first | exact ⟨a0, a2, x0, x1⟩ | exact ⟨b0, b2, q0, q1⟩ | exact ⟨(far (far b0 HN2.out) HN2.out), (far (far b2 HN2.out) HN2.out), (far (far q0 HZ.out) HZ.out), (far (far q1 HZ.out) HZ.out)⟩)
      (first | (go_at_call 31; refine (HP.out _ (RdAt.drawn (Drawn.drew w2) HG.out) HO2.out (by show 0 < t1.length; omega) (by omega)).mono ?_; rintro e w' ⟨rfl, hd⟩; have HD := Lib.hid hd; clear hd; have b0 := (HD.out.cell _).trans a0; have b2 := (HD.out.cell _).trans a2; have l2 := (HD.out.frozen _).trans k2; have q0 := (HD.out.cell _).trans x0; have q1 := (HD.out.cell _).trans x1; have d0 := (HD.out.cell _).trans c0; have d1 := (HD.out.cell _).trans c1; have h0 := (HD.out.frozen _).trans f0; have h1 := (HD.out.frozen _).trans f1))
    have hD : Drawn w2 w' := (Drawn.drew w2).more HD.out
    have F1 : Hid (Blk ((w'.setCell ⟨g2, p * 2, none⟩ (.int .u64 (x.t : Int))).setCell ⟨g2, p * 2 + 1, none⟩ (.int .u64 (x.x : Int))) g2 52 (icells (t1.set p x))) := Lib.hid (by
      have := Blk.sets (Itm.cs x) (p * Itm.k Rd) w' _ (hD.blk HG.out.body)
      rw [putA_item t1 p x i5] at this
      exact this)
    have F2 : Hid (Blk ((w'.setCell ⟨g2, p * 2, none⟩ (.int .u64 (x.t : Int))).setCell ⟨g2, p * 2 + 1, none⟩ (.int .u64 (x.x : Int))) b 63 (rdCells ⟨t1, t2, s.cnt⟩ g2)) := Lib.hid (Blk.sets_other HN2.out (Itm.cs x) (p * 2) w' (hD.blk HG.out.head))
    have F3 : Hid (Mv w ((w'.setCell ⟨g2, p * 2, none⟩ (.int .u64 (x.t : Int))).setCell ⟨g2, p * 2 + 1, none⟩ (.int .u64 (x.x : Int))) b g) := Lib.hid (Mv.sets (by have := HQ.out; omega) (Itm.cs x) (p * 2) w' (HM2.out.drawn hD))
    generalize ((w'.setCell ⟨g2, p * 2, none⟩ (.int .u64 (x.t : Int))).setCell ⟨g2, p * 2 + 1, none⟩ (.int .u64 (x.x : Int))) = w3 at *
    clear a0 a2 k2 b0 b2 l2 x0 q0 c0 d0 f0 h0 hy0 x1 q1 c1 d1 f1 h1 hy1 hD HD HP i3 i4 i5
    have m2 := F2.out.cell (i := 2) (v := .int .i64 (s.cnt : Int)) rfl
    have n2 := F2.out.free 2
    go_wp2_with fail
    go_end0
    refine ⟨rfl, ⟨g2, ⟨?_, ?_⟩, HQ.out⟩, F3.out.set (.inl rfl) _ _⟩
    · have := F2.out.set 2 (.int .i64 ((s.cnt : Int) + 1))
      rw [HPU.out]
      simpa [rdCells] using this
    · rw [HPU.out]
      exact F1.out.set_other _ _ (Ne.symm HN2.out)
end Go.Proofs.Ythhiljaceobnmaa
