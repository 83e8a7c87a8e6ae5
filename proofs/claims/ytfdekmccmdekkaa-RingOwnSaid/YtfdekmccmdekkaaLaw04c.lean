/- RingOwn over this translation: a clone goes on apart; lists that were handed in, or told, are not the row's; no row answers nothing. -/
import Derived.Test.YtfdekmccmdekkaaIn04
set_option linter.unusedVariables false
namespace Go.Proofs.Ytfdekmccmdekkaa
open Go.RowKit

theorem RingOwn_long (v0 v1 : Option Addr) (n0 n1 c0 c1 : Nat) (w : World) (h : 200 < n0 ∨ 200 < n1) (h0 : n0 ≤ 9223372036854775807) (h1 : n1 ≤ 9223372036854775807) :
    Calls Try.prog 4 #[.slice v0 n0 c0, .slice v1 n1 c1] w fun e w' => e = .returned (.bool true) ∧ Below w.heap.size w w' := by
  have HA := Lib.hid (alive04 w)
  by_cases a : 200 < n0
  · have hc : decide (200 < (n0 : Int)) = true := by simp; omega
    go_enter Try.func4, Try.ntmps4
    go_wp2_with (go_at_call 5; refine (HA.out).mono ?_; rintro e w' ⟨rfl, hb⟩)
    go_ret
    exact ⟨rfl, hb⟩
  · have hc : decide (200 < (n0 : Int)) = false := by simp; omega
    have hd : decide (200 < (n1 : Int)) = true := by simp; omega
    go_enter Try.func4, Try.ntmps4
    go_wp2_with (go_at_call 5; refine (HA.out).mono ?_; rintro e w' ⟨rfl, hb⟩)
    go_ret
    exact ⟨rfl, hb⟩

/-- A block with numbers at its first n places. -/
def Fill (w : World) (g n : Nat) : Prop := ∃ cs : Array Value, Blk w g 27 cs ∧ n ≤ cs.size ∧ ∀ i, i < n → ∃ z : Int, cs[i]? = some (.int .u64 z)
theorem Fill.cell {w : World} {g n i : Nat} (h : Fill w g n) (hi : i < n) : ∃ z : Int, w.cell? ⟨g, i, none⟩ = some (.int .u64 z) := by
  obtain ⟨cs, hb, _, hc⟩ := h
  obtain ⟨z, hz⟩ := hc i hi
  exact ⟨z, hb.cell hz⟩
theorem Fill.free {w : World} {g n : Nat} (h : Fill w g n) (i : Nat) : w.frozen? ⟨g, i, none⟩ = false := by
  obtain ⟨cs, hb, _, _⟩ := h
  exact hb.free i
theorem Fill.set {w : World} {g n : Nat} (h : Fill w g n) (i : Nat) (z : Int) : Fill (w.setCell ⟨g, i, none⟩ (.int .u64 z)) g n := by
  obtain ⟨cs, hb, hn, hc⟩ := h
  refine ⟨_, hb.set i (.int .u64 z), by simpa using hn, fun j hj => ?_⟩
  by_cases e : i = j
  · subst e
    exact ⟨z, by simp [Array.getElem?_setIfInBounds]; omega⟩
  · obtain ⟨y, hy⟩ := hc j hj
    exact ⟨y, by rw [Array.getElem?_setIfInBounds, if_neg e]; exact hy⟩
theorem Fill.far {w : World} {g n c : Nat} (h : Fill w g n) (i : Nat) (u : Value) (hne : g ≠ c) : Fill (w.setCell ⟨c, i, none⟩ u) g n := by
  obtain ⟨cs, hb, hn, hc⟩ := h
  exact ⟨cs, hb.set_other i u hne, hn, hc⟩
theorem Fill.keep {w w' : World} {g n : Nat} (h : Fill w g n) (k : Below w.heap.size w w') : Fill w' g n := by
  obtain ⟨cs, hb, hn, hc⟩ := h
  exact ⟨cs, hb.keep k, hn, hc⟩
theorem Fill.of_list {w : World} {g : Nat} {l : List Nat} (h : Blk w g 27 (pcells l)) : Fill w g l.length := ⟨_, h, by simp [pcells], fun i hi => ⟨_, pcells_at hi⟩⟩
theorem Fill.of_row {w : World} {g cap : Nat} {l : List Nat} (h : w.ownsRow 0 27 1 (.slice (some ⟨g, 0, none⟩) l.length cap) l.length (l.map ncell)) : Fill w g l.length := by
  obtain ⟨_, cur, hb, h1, _, h3, h4⟩ := row_inv h
  refine ⟨cur, hb, by omega, fun i hi => ?_⟩
  have e : (cur.toList.take l.length)[i]? = some (ncell (l.getD i 0)) := by rw [h4]; simp [List.getD_eq_getElem?_getD, hi]
  rw [List.getElem?_take_of_lt hi] at e
  exact ⟨((l.getD i 0 : Nat) : Int), by rw [← Array.getElem?_toList]; exact e⟩
theorem Nums.of_row {w : World} {g cap : Nat} {l : List Nat} (h : w.ownsRow 0 27 1 (.slice (some ⟨g, 0, none⟩) l.length cap) l.length (l.map ncell)) : Nums w (some ⟨g, 0, none⟩) l := by
  intro _
  refine ⟨g, 0, rfl, (h.lt g rfl).2, fun i hi => ?_⟩
  have := h.cells (g := g) rfl i (ncell (l.getD i 0)) (by simp [hi, List.getD_eq_getElem?_getD])
  rw [Go.WideShapes.add_plain] at this
  exact this
theorem RingAt.far {w : World} {b g c : Nat} {s : RS} (h : RingAt w b g s) (i : Nat) (u : Value) (h1 : b ≠ c) (h2 : g ≠ c) : RingAt (w.setCell ⟨c, i, none⟩ u) b g s := ⟨h.head.set_other i u h1, h.body.set_other i u h2⟩

/-- What holds while the lists that were handed in, and told, are written. -/
structure OwnRel1 (W : World) (b g cb cg go gt n : Nat) (s : RS) (wr : World) : Prop where
  r : RingAt wr b g s
  c : RingAt wr cb cg s
  o : Fill wr go n
  t : Fill wr gt n
  bel : Below W.heap.size W wr

structure Far1 (W : World) (b g cb cg go gt : Nat) : Prop where
  o1 : b ≠ go
  o2 : g ≠ go
  o3 : cb ≠ go
  o4 : cg ≠ go
  t1 : b ≠ gt
  t2 : g ≠ gt
  t3 : cb ≠ gt
  t4 : cg ≠ gt
  ot : go ≠ gt
  bc : b ≠ cb
  gc : g ≠ cg
  wb : W.heap.size ≤ b
  wg : W.heap.size ≤ g
  wo : W.heap.size ≤ go
  wt : W.heap.size ≤ gt

theorem OwnRel1.seto {W w : World} {b g cb cg go gt n : Nat} {s : RS} (h : OwnRel1 W b g cb cg go gt n s w) (f : Far1 W b g cb cg go gt) (i : Nat) (z : Int) : OwnRel1 W b g cb cg go gt n s (w.setCell ⟨go, i, none⟩ (.int .u64 z)) :=
  ⟨h.r.far _ _ f.o1 f.o2, h.c.far _ _ f.o3 f.o4, h.o.set i z, h.t.far _ _ (Ne.symm f.ot), h.bel.setCell (p := ⟨go, i, none⟩) f.wo _⟩
theorem OwnRel1.sett {W w : World} {b g cb cg go gt n : Nat} {s : RS} (h : OwnRel1 W b g cb cg go gt n s w) (f : Far1 W b g cb cg go gt) (i : Nat) (z : Int) : OwnRel1 W b g cb cg go gt n s (w.setCell ⟨gt, i, none⟩ (.int .u64 z)) :=
  ⟨h.r.far _ _ f.t1 f.t2, h.c.far _ _ f.t3 f.t4, h.o.far _ _ f.ot, h.t.set i z, h.bel.setCell (p := ⟨gt, i, none⟩) f.wt _⟩

/-- What holds while acts are done: the rows go on, the clone stays. -/
def OwnRel2 (W : World) (b m cb cg : Nat) (s0 : RS) (k : Nat) (wr : World) : Prop :=
  ∃ (s : RS) (g v cap : Nat), RingAt wr b g s ∧ RowAt wr m v cap s.items ∧ g ≠ v ∧ s.ok ∧ s.cnt ≤ 200 + k ∧ W.heap.size ≤ b ∧ W.heap.size ≤ g ∧ W.heap.size ≤ m ∧ W.heap.size ≤ v ∧ Below W.heap.size W wr ∧ RingAt wr cb cg s0 ∧ b ≠ cb ∧ g ≠ cg ∧ v ≠ cg

theorem OwnRel2.next {W w w' : World} {b g m v cap k kd x cb cg : Nat} {s s0 : RS} (hr : RingAt w b g s) (hw : RowAt w m v cap s.items) (ho : s.ok) (hk : k ≤ 200) (hc : s.cnt ≤ 200 + k) (h1 : W.heap.size ≤ b) (h2 : W.heap.size ≤ g) (h3 : W.heap.size ≤ m) (h4 : W.heap.size ≤ v) (hB : Below W.heap.size W w)
    (hcl : RingAt w cb cg s0) (n1 : b ≠ cb) (n2 : g ≠ cg) (n3 : v ≠ cg) (h : Both w b g m v (s.step kd x) w') : OwnRel2 W b m cb cg s0 (k + 1) w' := by
  obtain ⟨⟨g', v', cap', q1, q2, q3, q4, q5⟩, q6⟩ := h
  have := hB.size
  obtain ⟨_, cur, hv, _⟩ := row_inv hw.own
  have e1 : cb ≠ m := hcl.head.ne hw.head (by decide)
  have e2 : cb ≠ g := hcl.head.ne hr.body (by decide)
  have e3 : cb ≠ v := hcl.head.ne hv (by decide)
  have e4 : cg ≠ b := hcl.body.ne hr.head (by decide)
  have e5 : cg ≠ m := hcl.body.ne hw.head (by decide)
  have l1 := hcl.head.lt
  have l2 := hcl.body.lt
  have hcl' : RingAt w' cb cg s0 := ⟨show w'.heap[cb]? = _ by rw [q6.block cb l1 (Ne.symm n1) e2 e1 e3]; exact hcl.head, show w'.heap[cg]? = _ by rw [q6.block cg l2 e4 (Ne.symm n2) e5 (Ne.symm n3)]; exact hcl.body⟩
  exact ⟨s.step kd x, g', v', cap', q1, q2, q3, RS.step_ok ho (by omega) kd x, by have := RS.step_cnt (s := s) kd x; omega, h1, by omega, h3, by omega, Mv4.bel hB q6 h1 h2 h3 h4, hcl', n1, by omega, by omega⟩

set_option maxRecDepth 100000 in
set_option maxHeartbeats 4000000 in
theorem RingOwn_nil (W : World) (v1 : Option Addr) (ca c1 b1 o1 : Nat) (l : List (Nat × Nat × Int)) (hf : 0 ≤ 200) (hl : l.length ≤ 200) (h1 : Acts3 W b1 o1 l) (hb : 0 < l.length → v1 = some ⟨b1, o1, none⟩ ∧ b1 < W.heap.size) :
    Calls Try.prog 4 #[.slice none 0 ca, .slice v1 l.length c1] W fun e w' => e = .returned (.bool true) ∧ Below W.heap.size W w' := by
  have HA := Lib.hid alive04
  have HL := Lib.hid h1
  have HB := Lib.hid hb
  have HNW : Hid (Nums W none []) := Lib.hid (fun h => absurd h (by simp))
  have d1 : decide (200 < l.length) = false := by simpa using hl
  have d2 : decide (200 < (l.length : Int)) = false := by simp; omega
  clear h1 hb
  obtain ⟨i0, hi, hz0, hz1, hz2⟩ := info_parts u64_info
  have HI := Lib.hid hi
  have HZ0 := Lib.hid hz0
  have HZ1 := Lib.hid hz1
  have HZ2 := Lib.hid hz2
  clear hi hz0 hz1 hz2
  have HOE := Lib.hid (own_empty W)
  have HN0 : Hid (Nums (W.alloc (.cells #[] 27)) (some ⟨W.heap.size, 0, none⟩) []) := Lib.hid (fun h => absurd h (by simp))
  have HFo : Hid (Fill (W.alloc (.cells #[] 27)) W.heap.size 0) := Lib.hid ⟨#[], Blk.new _ _ _, Nat.zero_le _, fun i hi => absurd hi (by omega)⟩
  have HB0 : Hid (Below W.heap.size W (W.alloc (.cells #[] 27))) := Lib.hid ((Below.refl _ _).alloc (Nat.le_refl _) _)
  have HGO : Hid (W.heap.size ≤ W.heap.size) := Lib.hid (Nat.le_refl _)
  go_enter Try.func4, Try.ntmps4
  go_wp2_with fail
  generalize W.alloc (.cells #[] 27) = w2 at *
  have HS0 : Hid ((RS.items ⟨[], 0, 0⟩) = []) := Lib.hid (RS.new_items [])
  have HOk : Hid (RS.ok ⟨[], 0, 0⟩) := Lib.hid (RS.new_ok (f := []) (by first | (simp; done) | omega))
  have HC : Hid (Calls Try.prog 6 #[.slice (some ⟨W.heap.size, 0, none⟩) 0 0] w2 (NewPost w2 ⟨[], 0, 0⟩)) := Lib.hid (ring_New _ 0 [] w2 HN0.out (by first | (simp; done) | omega))
  go_wp2_with fail
  refine (HC.out).mono ?_
  rintro e w3 ⟨⟨b, g, rfl, hr, hb, hg⟩, hbel⟩
  have R3 := Lib.hid hr
  have O3 := Lib.hid (HFo.out.keep hbel)
  have G3 := Lib.hid (bel_to HB0.out hbel HB0.out.size)
  have HQ1 := Lib.hid hb
  have HQ2 := Lib.hid hg
  have HLo : Hid (W.heap.size < w2.heap.size) := Lib.hid (by obtain ⟨_, k, _⟩ := HFo.out; exact k.lt)
  clear hr hbel hb hg HC
  go_wp2_with fail
  refine (ring_Clone b g ⟨[], 0, 0⟩ w3 R3.out HOk.out).mono ?_
  rintro e w4 ⟨⟨cb, cg, rfl, hr, hb, hg⟩, hbel⟩
  have C4 := Lib.hid hr
  have R4 := Lib.hid (R3.out.keep hbel)
  have O4 := Lib.hid (O3.out.keep hbel)
  have G4 := Lib.hid (bel_to G3.out hbel G3.out.size)
  have HQ3 := Lib.hid hb
  have HQ4 := Lib.hid hg
  have HLr := Lib.hid R3.out.head.lt
  have HLg := Lib.hid R3.out.body.lt
  clear hr hbel hb hg
  go_wp2_with fail
  refine (ring_All b g ⟨[], 0, 0⟩ w4 R4.out HOk.out).mono ?_
  rintro e w5 ⟨rfl, hbk, hbel⟩
  have hlt1 := C4.out.head.lt
  have hlt2 := C4.out.body.lt
  have hlt3 := R4.out.head.lt
  have hlt4 := R4.out.body.lt
  have HFar : Hid (Far1 W b g cb cg (W.heap.size) w4.heap.size) := Lib.hid (by
    have := HLo.out; have := HQ1.out; have := HQ2.out; have := HQ3.out; have := HQ4.out; have := HLr.out; have := HLg.out; have := HB0.out.size; have := HGO.out; have := G4.out.size; have := G3.out.size
    obtain ⟨_, k4, _⟩ := O4.out
    have := k4.lt
    constructor <;> omega)
  rw [HS0.out] at hbk
  have HRel : Hid (OwnRel1 W b g cb cg (W.heap.size) w4.heap.size 0 ⟨[], 0, 0⟩ w5) := Lib.hid ⟨R4.out.keep hbel, C4.out.keep hbel, O4.out.keep hbel, Fill.of_list hbk, bel_to G4.out hbel G4.out.size⟩
  clear hbk hbel hlt1 hlt2 hlt3 hlt4 R3 O3 G3 R4 O4 C4 G4 HQ1 HQ2 HQ3 HQ4 HLr HLg HLo
  rw [HS0.out]
  obtain ⟨gt, hgt⟩ : ∃ gt, w4.heap.size = gt := ⟨_, rfl⟩
  simp only [hgt] at HFar HRel ⊢
  clear hgt
  simp only [List.length_nil]
  go_wp2_with fail
  go_loopw [9] (fun i wr => ∃ k : Nat, i = .int .i64 (k : Int) ∧ k ≤ 0 ∧ Hid (OwnRel1 W b g cb cg (W.heap.size) gt 0 ⟨[], 0, 0⟩ wr)) (fun i _ => 0 - (intOf i).toNat)
  case atStart => exact ⟨0, rfl, Nat.zero_le _, HRel⟩
  case round =>
    obtain ⟨k, rfl, hk, HR⟩ := hrel
    by_cases hlt : k < 0
    · exact absurd hlt (by omega)
    · have HNa := Lib.hid HR.out.bel
      have HOE6 := Lib.hid (own_empty wr)
      have HP0 : Hid (OwnRel2 W b (wr.heap.size + 1) cb cg ⟨[], 0, 0⟩ 0 ((wr.alloc (.cells #[] 27)).alloc (.cells #[.slice (some ⟨wr.heap.size, 0, none⟩) 0 0] 30))) := Lib.hid (by
        have q1 := HR.out.r.body.lt
        have q2 := HR.out.c.body.lt
        have q3 := HNa.out.size
        have q4 := HFar.out
        refine ⟨⟨[], 0, 0⟩, g, wr.heap.size, 0, (HR.out.r.alloc _).alloc _, ⟨Blk.new1 _ _ _ _, HOE6.out.alloc _⟩, by omega, HOk.out, by simp, q4.wb, q4.wg, by omega, by omega, (HNa.out.alloc q3 _).alloc (by simp; omega) _, (HR.out.c.alloc _).alloc _, q4.bc, q4.gc, by omega⟩)
      go_wp2_with fail
      generalize (wr.alloc (.cells #[] 27)).alloc (.cells #[.slice (some ⟨wr.heap.size, 0, none⟩) 0 0] 30) = w7 at *
      obtain ⟨m, hm⟩ : ∃ m, wr.heap.size + 1 = m := ⟨_, rfl⟩
      simp only [hm] at *
      clear hm HOE6 HNa

      have HE0 : Hid (OwnRel2 W b m cb cg ⟨[], 0, 0⟩ 0 w7) := HP0
      clear HP0 HR
      go_loopw [11] (fun i wr => ∃ k : Nat, i = .int .i64 (k : Int) ∧ k ≤ l.length ∧ OwnRel2 W b m cb cg ⟨[], 0, 0⟩ k wr) (fun i _ => l.length - (intOf i).toNat)
      case atStart => exact ⟨0, rfl, Nat.zero_le _, HE0.out⟩
      case round =>
        obtain ⟨k, rfl, hk, s, g, v, cap, hr, hw, hgv, ho, hc, hbW, hgW, hmW, hvW, hB, hcl, n1, n2, n3⟩ := hrel
        have R := Lib.hid hr
        have RW := Lib.hid hw
        have O := Lib.hid ho
        have G := Lib.hid hB
        have HGV := Lib.hid hgv
        have CL := Lib.hid hcl
        have N1 := Lib.hid n1
        have N2 := Lib.hid n2
        have N3 := Lib.hid n3
        clear hr hw ho hB hgv hcl n1 n2 n3
        by_cases hlt : k < l.length
        · obtain ⟨a0, a1, a2, hkd⟩ := HL.out k hlt
          obtain ⟨rfl, hbl⟩ := HB.out (by omega)
          rw [← G.out.cell (p := ⟨b1, o1 + k * 3, none⟩) hbl] at a0
          rw [← G.out.cell (p := ⟨b1, o1 + k * 3 + 1, none⟩) hbl] at a1
          rw [← G.out.cell (p := ⟨b1, o1 + k * 3 + 2, none⟩) hbl] at a2
          generalize (l.getD k (0, 0, 0)).2.2 = ai at *
          generalize (l.getD k (0, 0, 0)).2.1 = x at *
          generalize (l.getD k (0, 0, 0)).1 = kd at *
          have HC : Hid (Calls Try.prog 7 #[.pointer (some ⟨b, 0, none⟩), .pointer (some ⟨m, 0, none⟩), .agg #[.int .u8 (kd : Int), .int .u64 (x : Int), .int .i64 ai]] wr (ActPost wr b g m v (s.step kd x))) := Lib.hid (act_any b g m v cap kd x ai s wr R.out O.out RW.out HGV.out (by omega) hkd)
          go_wp2_with fail
          refine (HC.out).mono ?_
          rintro e w8 ⟨rfl, hbo⟩
          have HP := Lib.hid (OwnRel2.next R.out RW.out O.out (by omega) hc hbW hgW hmW hvW G.out CL.out N1.out N2.out N3.out hbo)
          clear hbo HC a0 a1 a2
          go_wp2_with fail
          go_roundw
          case rel => exact ⟨k + 1, by go_num, by omega, HP.out⟩
          case measure => simp [intOf]; omega
        · go_wp2_with fail
          refine (ring_Push_nil _ _).mono ?_
          rintro e w' ⟨rfl, rfl⟩
          go_wp2_with fail
          refine (ring_Shift_nil _).mono ?_
          rintro e w' ⟨rfl, rfl⟩
          unfold got
          go_wp2_with fail
          refine (ring_Pop_nil _).mono ?_
          rintro e w' ⟨rfl, rfl⟩
          unfold got
          go_wp2_with fail
          refine (ring_At_nil _).mono ?_
          rintro e w' ⟨rfl, rfl⟩
          unfold got
          go_wp2_with fail
          refine (ring_All cb cg ⟨[], 0, 0⟩ wr CL.out HOk.out).mono ?_
          rintro e w8 ⟨rfl, hbk, hbel⟩
          rw [HS0.out] at hbk
          have HK := Lib.hid hbk
          have G8 := Lib.hid (bel_to G.out hbel G.out.size)
          clear hbk hbel
          rw [HS0.out]
          go_wp2_with fail
          refine (HA.out w8).mono ?_
          rintro e w9 ⟨rfl, hb9⟩
          have HN1 := Lib.hid (Nums.of_blk (HK.out.keep hb9))
          have G9 := Lib.hid (bel_to G8.out hb9 G8.out.size)
          have HN2 := Lib.hid (HNW.out.keep G9.out)
          clear hb9
          have HC : Hid (Calls Try.prog 9 #[.slice (some ⟨wr.heap.size, 0, none⟩) 0 0, .slice none 0 ca] w9 fun e w' => e = .returned (.bool true) ∧ Drawn w9 w') := Lib.hid (ref_Same _ _ _ _ [] w9 HN1.out HN2.out (by first | (simp; done) | omega))
          go_wp2_with fail
          refine (HC.out).mono ?_
          rintro e w10 ⟨rfl, hd⟩
          have HD := Lib.hid hd
          clear hd
          go_wp2_with fail
          refine (ring_Len_nil _).mono ?_
          rintro e w' ⟨rfl, rfl⟩
          go_wp2_with fail
          refine (ring_All_nil _).mono ?_
          rintro e w' ⟨rfl, rfl⟩
          go_wp2_with fail
          refine (ring_Clone_nil _).mono ?_
          rintro e w' ⟨rfl, rfl⟩
          go_wp2_with fail
          go_ret
          exact ⟨rfl, G9.out.trans (HD.out.below _)⟩

set_option maxRecDepth 100000 in
set_option maxHeartbeats 4000000 in
theorem RingOwn_some (W : World) (v1 : Option Addr) (ad : Addr) (f : List Nat) (ca c1 b1 o1 : Nat) (l : List (Nat × Nat × Int)) (hf : f.length ≤ 200) (hl : l.length ≤ 200) (h0 : Nums W (some ad) f) (h1 : Acts3 W b1 o1 l) (hb : 0 < l.length → v1 = some ⟨b1, o1, none⟩ ∧ b1 < W.heap.size) :
    Calls Try.prog 4 #[.slice (some ad) f.length ca, .slice v1 l.length c1] W fun e w' => e = .returned (.bool true) ∧ Below W.heap.size W w' := by
  have HA := Lib.hid alive04
  have HL := Lib.hid h1
  have HB := Lib.hid hb
  have HNW := Lib.hid h0
  clear h0
  have d0 : decide (200 < f.length) = false := by simpa using hf
  have d3 : decide (200 < (f.length : Int)) = false := by simp; omega
  have d1 : decide (200 < l.length) = false := by simpa using hl
  have d2 : decide (200 < (l.length : Int)) = false := by simp; omega
  clear h1 hb
  obtain ⟨i0, hi, hz0, hz1, hz2⟩ := info_parts u64_info
  have HI := Lib.hid hi
  have HZ0 := Lib.hid hz0
  have HZ1 := Lib.hid hz1
  have HZ2 := Lib.hid hz2
  clear hi hz0 hz1 hz2
  have HOE := Lib.hid (own_empty W)
  have HFC := Lib.hid ((HNW.out.keep ((Below.refl _ _).alloc (Nat.le_refl _) (.cells #[] 27))).at_some)
  go_enter Try.func4, Try.ntmps4
  go_wp2_with (first | (go_at_call 6; fail) | (at_builtin; refine wpList_append_own_at _ rfl (.tmp 30) (.tmp 31) 22 rfl 0 27 i0 (.int .u64 0) 1 8 Try.underlying22 HI.out HZ0.out HZ1.out HZ2.out rfl (by decide) (.slice (some ⟨W.heap.size, 0, none⟩) 0 0) 0 [] rfl HOE.out ad f.length ca (f.map ncell) rfl (by simp) HFC.out (one_nums f) (by unfold maxLen; omega) (by omega) (Nat.zero_le _) ?_; intro v' w2 hown hgr hnil hat; simp only [Nat.zero_add, List.nil_append] at hown; have HW := Lib.hid hown; have HG := Lib.hid hgr; have HAT := Lib.hid hat; have HFm := Lib.hid (row_form hown (fun e => by have := hnil.1 e; simp at this)); clear hown hgr hnil hat; obtain ⟨go, capo, rfl⟩ := HFm.out))
  have HW' : Hid (w2.ownsRow 0 27 1 (.slice (some ⟨go, 0, none⟩) f.length capo) f.length (f.map ncell)) := HW
  have HN0 := Lib.hid (Nums.of_row HW'.out)
  have HFo := Lib.hid (Fill.of_row HW'.out)
  have HB0 : Hid (Below W.heap.size W w2) := Lib.hid (bel_gr ((Below.refl _ _).alloc (Nat.le_refl _) _) HG.out (by simp) (Nat.le_refl _))
  have HGO : Hid (W.heap.size ≤ go) := Lib.hid (by have h1 := HAT.out; simp [Value.ownBlock] at h1; omega)
  clear HW HW' HG HAT HFm HFC
  have HS0 : Hid ((RS.items ⟨f, 0, f.length⟩) = f) := Lib.hid (RS.new_items f)
  have HOk : Hid (RS.ok ⟨f, 0, f.length⟩) := Lib.hid (RS.new_ok (f := f) (by first | (simp; done) | omega))
  have HC : Hid (Calls Try.prog 6 #[.slice (some ⟨go, 0, none⟩) f.length capo] w2 (NewPost w2 ⟨f, 0, f.length⟩)) := Lib.hid (ring_New _ capo f w2 HN0.out (by first | (simp; done) | omega))
  go_wp2_with fail
  refine (HC.out).mono ?_
  rintro e w3 ⟨⟨b, g, rfl, hr, hb, hg⟩, hbel⟩
  have R3 := Lib.hid hr
  have O3 := Lib.hid (HFo.out.keep hbel)
  have G3 := Lib.hid (bel_to HB0.out hbel HB0.out.size)
  have HQ1 := Lib.hid hb
  have HQ2 := Lib.hid hg
  have HLo : Hid (go < w2.heap.size) := Lib.hid (by obtain ⟨_, k, _⟩ := HFo.out; exact k.lt)
  clear hr hbel hb hg HC
  go_wp2_with fail
  refine (ring_Clone b g ⟨f, 0, f.length⟩ w3 R3.out HOk.out).mono ?_
  rintro e w4 ⟨⟨cb, cg, rfl, hr, hb, hg⟩, hbel⟩
  have C4 := Lib.hid hr
  have R4 := Lib.hid (R3.out.keep hbel)
  have O4 := Lib.hid (O3.out.keep hbel)
  have G4 := Lib.hid (bel_to G3.out hbel G3.out.size)
  have HQ3 := Lib.hid hb
  have HQ4 := Lib.hid hg
  have HLr := Lib.hid R3.out.head.lt
  have HLg := Lib.hid R3.out.body.lt
  clear hr hbel hb hg
  go_wp2_with fail
  refine (ring_All b g ⟨f, 0, f.length⟩ w4 R4.out HOk.out).mono ?_
  rintro e w5 ⟨rfl, hbk, hbel⟩
  have hlt1 := C4.out.head.lt
  have hlt2 := C4.out.body.lt
  have hlt3 := R4.out.head.lt
  have hlt4 := R4.out.body.lt
  have HFar : Hid (Far1 W b g cb cg (go) w4.heap.size) := Lib.hid (by
    have := HLo.out; have := HQ1.out; have := HQ2.out; have := HQ3.out; have := HQ4.out; have := HLr.out; have := HLg.out; have := HB0.out.size; have := HGO.out; have := G4.out.size; have := G3.out.size
    obtain ⟨_, k4, _⟩ := O4.out
    have := k4.lt
    constructor <;> omega)
  rw [HS0.out] at hbk
  have HRel : Hid (OwnRel1 W b g cb cg (go) w4.heap.size f.length ⟨f, 0, f.length⟩ w5) := Lib.hid ⟨R4.out.keep hbel, C4.out.keep hbel, O4.out.keep hbel, Fill.of_list hbk, bel_to G4.out hbel G4.out.size⟩
  clear hbk hbel hlt1 hlt2 hlt3 hlt4 R3 O3 G3 R4 O4 C4 G4 HQ1 HQ2 HQ3 HQ4 HLr HLg HLo
  rw [HS0.out]
  obtain ⟨gt, hgt⟩ : ∃ gt, w4.heap.size = gt := ⟨_, rfl⟩
  simp only [hgt] at HFar HRel ⊢
  clear hgt
  go_wp2_with fail
  go_loopw [9] (fun i wr => ∃ k : Nat, i = .int .i64 (k : Int) ∧ k ≤ f.length ∧ Hid (OwnRel1 W b g cb cg (go) gt f.length ⟨f, 0, f.length⟩ wr)) (fun i _ => f.length - (intOf i).toNat)
  case atStart => exact ⟨0, rfl, Nat.zero_le _, HRel⟩
  case round =>
    obtain ⟨k, rfl, hk, HR⟩ := hrel
    by_cases hlt : k < f.length
    · obtain ⟨z1, e1⟩ := HR.out.o.cell hlt
      obtain ⟨z2, e2⟩ := HR.out.t.cell hlt
      have f1 := HR.out.o.free k
      have f2 := HR.out.t.free k
      have hne := HFar.out.ot
      go_wp2_with fail
      go_roundw
      case rel => exact ⟨k + 1, by go_num, by omega, Lib.hid ((HR.out.seto HFar.out k _).sett HFar.out k _)⟩
      case measure => simp [intOf]; omega
    · have HNa := Lib.hid HR.out.bel
      have HOE6 := Lib.hid (own_empty wr)
      have HFC := Lib.hid (((HNW.out.keep HNa.out).keep ((Below.refl _ _).alloc (Nat.le_refl _) (.cells #[] 27))).at_some)
      go_wp2_with (at_builtin; refine wpList_append_own_at _ rfl (.tmp 66) (.tmp 67) 22 rfl 0 27 i0 (.int .u64 0) 1 8 Try.underlying22 HI.out HZ0.out HZ1.out HZ2.out rfl (by decide) (.slice (some ⟨wr.heap.size, 0, none⟩) 0 0) 0 [] rfl HOE6.out ad f.length ca (f.map ncell) rfl (by simp) HFC.out (one_nums f) (by unfold maxLen; omega) (by omega) (Nat.zero_le _) ?_; intro v' w6 hown hgr hnil hat; simp only [Nat.zero_add, List.nil_append] at hown; have HW6 := Lib.hid hown; have HG6 := Lib.hid hgr; have HAT := Lib.hid hat; have HFm := Lib.hid (row_form hown (fun e => by have := hnil.1 e; simp at this)); clear hown hgr hnil hat; obtain ⟨g', cap', rfl⟩ := HFm.out)
      have HP0 : Hid (OwnRel2 W b w6.heap.size cb cg ⟨f, 0, f.length⟩ 0 (w6.alloc (.cells #[.slice (some ⟨g', 0, none⟩) f.length cap'] 30))) := Lib.hid (by
        have hb2 : Below wr.heap.size wr w6 := bel_gr ((Below.refl _ _).alloc (Nat.le_refl _) _) HG6.out (by simp) (Nat.le_refl _)
        have hq : g' = wr.heap.size ∨ g' = wr.heap.size + 1 := by have h1 := HAT.out; simp [Value.ownBlock] at h1; omega
        have q1 := HR.out.r.body.lt
        have q2 := HR.out.c.body.lt
        have q3 := HNa.out.size
        have q4 := HFar.out
        have q5 := hb2.size
        have B2 : Below W.heap.size W w6 := bel_to HNa.out hb2 HNa.out.size
        have hw : RowAt (w6.alloc (.cells #[.slice (some ⟨g', 0, none⟩) f.length cap'] 30)) w6.heap.size g' cap' f := ⟨Blk.new _ _ _, by have := HW6.out.alloc (.cells #[.slice (some ⟨g', 0, none⟩) f.length cap'] 30); simpa using this⟩
        refine ⟨⟨f, 0, f.length⟩, g, g', cap', (HR.out.r.keep hb2).alloc _, ?_, by omega, HOk.out, hf, q4.wb, q4.wg, by omega, by omega, B2.alloc (by omega) _, (HR.out.c.keep hb2).alloc _, q4.bc, q4.gc, by omega⟩
        rw [HS0.out]
        exact hw)
      generalize w6.alloc (.cells #[.slice (some ⟨g', 0, none⟩) f.length cap'] 30) = w7 at *
      obtain ⟨m, hm⟩ : ∃ m, w6.heap.size = m := ⟨_, rfl⟩
      simp only [hm] at *
      clear hm HOE6 HNa HW6 HG6 HAT HFm HFC

      have HE0 : Hid (OwnRel2 W b m cb cg ⟨f, 0, f.length⟩ 0 w7) := HP0
      clear HP0 HR
      go_loopw [11] (fun i wr => ∃ k : Nat, i = .int .i64 (k : Int) ∧ k ≤ l.length ∧ OwnRel2 W b m cb cg ⟨f, 0, f.length⟩ k wr) (fun i _ => l.length - (intOf i).toNat)
      case atStart => exact ⟨0, rfl, Nat.zero_le _, HE0.out⟩
      case round =>
        obtain ⟨k, rfl, hk, s, g, v, cap, hr, hw, hgv, ho, hc, hbW, hgW, hmW, hvW, hB, hcl, n1, n2, n3⟩ := hrel
        have R := Lib.hid hr
        have RW := Lib.hid hw
        have O := Lib.hid ho
        have G := Lib.hid hB
        have HGV := Lib.hid hgv
        have CL := Lib.hid hcl
        have N1 := Lib.hid n1
        have N2 := Lib.hid n2
        have N3 := Lib.hid n3
        clear hr hw ho hB hgv hcl n1 n2 n3
        by_cases hlt : k < l.length
        · obtain ⟨a0, a1, a2, hkd⟩ := HL.out k hlt
          obtain ⟨rfl, hbl⟩ := HB.out (by omega)
          rw [← G.out.cell (p := ⟨b1, o1 + k * 3, none⟩) hbl] at a0
          rw [← G.out.cell (p := ⟨b1, o1 + k * 3 + 1, none⟩) hbl] at a1
          rw [← G.out.cell (p := ⟨b1, o1 + k * 3 + 2, none⟩) hbl] at a2
          generalize (l.getD k (0, 0, 0)).2.2 = ai at *
          generalize (l.getD k (0, 0, 0)).2.1 = x at *
          generalize (l.getD k (0, 0, 0)).1 = kd at *
          have HC : Hid (Calls Try.prog 7 #[.pointer (some ⟨b, 0, none⟩), .pointer (some ⟨m, 0, none⟩), .agg #[.int .u8 (kd : Int), .int .u64 (x : Int), .int .i64 ai]] wr (ActPost wr b g m v (s.step kd x))) := Lib.hid (act_any b g m v cap kd x ai s wr R.out O.out RW.out HGV.out (by omega) hkd)
          go_wp2_with fail
          refine (HC.out).mono ?_
          rintro e w8 ⟨rfl, hbo⟩
          have HP := Lib.hid (OwnRel2.next R.out RW.out O.out (by omega) hc hbW hgW hmW hvW G.out CL.out N1.out N2.out N3.out hbo)
          clear hbo HC a0 a1 a2
          go_wp2_with fail
          go_roundw
          case rel => exact ⟨k + 1, by go_num, by omega, HP.out⟩
          case measure => simp [intOf]; omega
        · go_wp2_with fail
          refine (ring_Push_nil _ _).mono ?_
          rintro e w' ⟨rfl, rfl⟩
          go_wp2_with fail
          refine (ring_Shift_nil _).mono ?_
          rintro e w' ⟨rfl, rfl⟩
          unfold got
          go_wp2_with fail
          refine (ring_Pop_nil _).mono ?_
          rintro e w' ⟨rfl, rfl⟩
          unfold got
          go_wp2_with fail
          refine (ring_At_nil _).mono ?_
          rintro e w' ⟨rfl, rfl⟩
          unfold got
          go_wp2_with fail
          refine (ring_All cb cg ⟨f, 0, f.length⟩ wr CL.out HOk.out).mono ?_
          rintro e w8 ⟨rfl, hbk, hbel⟩
          rw [HS0.out] at hbk
          have HK := Lib.hid hbk
          have G8 := Lib.hid (bel_to G.out hbel G.out.size)
          clear hbk hbel
          rw [HS0.out]
          go_wp2_with fail
          refine (HA.out w8).mono ?_
          rintro e w9 ⟨rfl, hb9⟩
          have HN1 := Lib.hid (Nums.of_blk (HK.out.keep hb9))
          have G9 := Lib.hid (bel_to G8.out hb9 G8.out.size)
          have HN2 := Lib.hid (HNW.out.keep G9.out)
          clear hb9
          have HC : Hid (Calls Try.prog 9 #[.slice (some ⟨wr.heap.size, 0, none⟩) f.length f.length, .slice (some ad) f.length ca] w9 fun e w' => e = .returned (.bool true) ∧ Drawn w9 w') := Lib.hid (ref_Same _ _ _ _ f w9 HN1.out HN2.out (by first | (simp; done) | omega))
          go_wp2_with fail
          refine (HC.out).mono ?_
          rintro e w10 ⟨rfl, hd⟩
          have HD := Lib.hid hd
          clear hd
          go_wp2_with fail
          refine (ring_Len_nil _).mono ?_
          rintro e w' ⟨rfl, rfl⟩
          go_wp2_with fail
          refine (ring_All_nil _).mono ?_
          rintro e w' ⟨rfl, rfl⟩
          go_wp2_with fail
          refine (ring_Clone_nil _).mono ?_
          rintro e w' ⟨rfl, rfl⟩
          go_wp2_with fail
          go_ret
          exact ⟨rfl, G9.out.trans (HD.out.below _)⟩

theorem RingOwn_walk (v0 v1 : Option Addr) (n0 n1 c0 c1 : Nat) (f : List Nat) (l : List (Nat × Nat × Int)) (b off : Nat) (w : World) (h0 : InNums w v0 n0 f) (h1 : InActs3 w v1 n1 l b off) :
    Calls Try.prog 4 #[.slice v0 n0 c0, .slice v1 n1 c1] w fun e w' => e = .returned (.bool true) ∧ Below w.heap.size w w' := by
  obtain ⟨rfl, m0, ha⟩ := h0
  obtain ⟨rfl, m1, hv, hb⟩ := h1
  by_cases c : 200 < f.length ∨ 200 < l.length
  · exact RingOwn_long v0 v1 _ _ c0 c1 w c m0 m1
  · rcases v0 with _ | ad
    · obtain rfl : f = [] := ha.none_nil
      exact RingOwn_nil w v1 c0 c1 b off l (by omega) (by omega) hb hv
    · exact RingOwn_some w v1 ad f c0 c1 b off l (by omega) (by omega) ha hb hv
end Go.Proofs.Ytfdekmccmdekkaa
