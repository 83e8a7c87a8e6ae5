/- Contracts of package pacer over this translation: a pacer is four cells, its rate, quantum, time, credit. -/
import Derived.Test.YtafmfkgaijnfbaaPc
import Derived.Test.YtafmfkgaijnfbaaNb
import Derived.Test.YtafmfkgaijnfbaaMul
import Derived.Test.YtafmfkgaijnfbaaFixB
import Derived.Deep.RegionHeld3
import Derived.Deep.RegionWith
set_option linter.unusedVariables false
namespace Go.Proofs.Ytafmfkgaijnfbaa
open Go.RowKit

def PS.cells (s : PS) : Array Value := #[.int .u64 (s.r : Int), .int .u64 (s.q : Int), .int .u64 (s.t : Int), .int .u64 (s.s : Int)]

theorem pc_New (w : World) : Calls Try.prog 8 #[] w fun e w' => e = .returned (.pointer (some ⟨w.heap.size, 0, none⟩)) ∧ w.alloc (.cells PS.zero.cells 47) = w' := by
  go_enter Try.func8, Try.ntmps8
  go_wp2
  go_ret
  exact ⟨rfl, rfl⟩

theorem pc_credit (x : Nat) (w : World) (hx : x ≤ 18446744073709551615) :
    Calls Try.prog 22 #[.int .u64 (x : Int)] w fun e w' => e = .returned (.int .u64 ((Pl.mulS x 1000000 : Nat) : Int)) ∧ w = w' := by
  have HM : Hid (∀ w, Calls Try.prog 29 #[.int .u64 (x : Int), .int .u64 1000000] w fun e w' => e = .returned (.int .u64 ((Pl.mulS x 1000000 : Nat) : Int)) ∧ w = w') := Lib.hid (fun w => fix_Mul_n x 1000000 w hx (by omega))
  generalize Pl.mulS x 1000000 = m at *
  go_enter Try.func22, Try.ntmps22
  go_wp2_with (go_at_call 29; refine (HM.out _).mono ?_; rintro e w' ⟨rfl, rfl⟩)
  go_ret
  exact ⟨rfl, rfl⟩

theorem pc_earned (r q l : Nat) (w : World) (hr : r ≤ 18446744073709551615) (hl : l ≤ 18446744073709551615) :
    Calls Try.prog 19 #[.agg #[.int .u64 (r : Int), .int .u64 (q : Int)], .int .u64 (l : Int)] w fun e w' => e = .returned (.int .u64 ((Pl.mulS r l : Nat) : Int)) ∧ Below w.heap.size w w' := by
  have HM := Lib.hid (fun w => fix_Mul_n r l w hr hl)
  generalize Pl.mulS r l = m at *
  go_enter Try.func19, Try.ntmps19
  go_wp2_with (go_at_call 29; refine (HM.out _).mono ?_; rintro e w' ⟨rfl, rfl⟩)
  go_ret
  exact ⟨rfl, al_be _ _⟩

theorem pc_most (r q : Nat) (w : World) (hq : q ≤ 18446744073709551615) :
    Calls Try.prog 20 #[.agg #[.int .u64 (r : Int), .int .u64 (q : Int)]] w fun e w' => e = .returned (.int .u64 ((Pl.mulS q 1000000 : Nat) : Int)) ∧ Below w.heap.size w w' := by
  have HM := Lib.hid (fun w => pc_credit q w hq)
  generalize Pl.mulS q 1000000 = m at *
  go_enter Try.func20, Try.ntmps20
  go_wp2_with (go_at_call 22; refine (HM.out _).mono ?_; rintro e w' ⟨rfl, rfl⟩)
  go_ret
  exact ⟨rfl, al_be _ _⟩

/-- wait: how long, and whether ever. -/
def waitT (r l : Nat) : Nat := if l = 0 then 0 else if r = 0 then 0 else Pl.overS l 1 r
def waitB (r l : Nat) : Bool := if l = 0 then true else if r = 0 then false else true
theorem waitT_le (r l : Nat) : waitT r l ≤ 18446744073709551615 := by
  unfold waitT
  split
  · omega
  · split
    · omega
    · exact Pl.overS_le _ _ _

theorem pc_wait (r q l : Nat) (w : World) (hr : r ≤ 18446744073709551615) (hl : l ≤ 18446744073709551615) :
    Calls Try.prog 24 #[.agg #[.int .u64 (r : Int), .int .u64 (q : Int)], .int .u64 (l : Int)] w fun e w' => e = .returned (.tuple #[.int .u64 ((waitT r l : Nat) : Int), .bool (waitB r l)]) ∧ Below w.heap.size w w' := by
  by_cases c : l = 0
  · have hT : Hid (waitT r l = 0) := Lib.hid (by unfold waitT; rw [if_pos c])
    have hB : Hid (waitB r l = true) := Lib.hid (by unfold waitB; rw [if_pos c])
    rw [hT.out, hB.out]
    subst c
    go_enter Try.func24, Try.ntmps24
    go_wp2
    go_ret2
    exact ⟨rfl, al_be _ _⟩
  · have t : ((l : Int) == 0) = false := beq_eq_false_iff_ne.2 (by omega)
    by_cases d : r = 0
    · have hT : Hid (waitT r l = 0) := Lib.hid (by unfold waitT; rw [if_neg c, if_pos d])
      have hB : Hid (waitB r l = false) := Lib.hid (by unfold waitB; rw [if_neg c, if_pos d])
      rw [hT.out, hB.out]
      clear hT hB
      subst d
      clear c
      go_enter Try.func24, Try.ntmps24
      go_wp2
      go_ret2
      exact ⟨rfl, al_be _ _⟩
    · have u : ((r : Int) == 0) = false := beq_eq_false_iff_ne.2 (by omega)
      have HO : Hid (∀ w, Calls Try.prog 30 #[.int .u64 (l : Int), .int .u64 1, .int .u64 (r : Int)] w fun e w' => e = .returned (.int .u64 ((Pl.overS l 1 r : Nat) : Int)) ∧ Below w.heap.size w w') := Lib.hid (fun w => fix_Over_pl l 1 r w hl (by omega) hr)
      have hT : Hid (waitT r l = Pl.overS l 1 r) := Lib.hid (by unfold waitT; rw [if_neg c, if_neg d])
      have hB : Hid (waitB r l = true) := Lib.hid (by unfold waitB; rw [if_neg c, if_neg d])
      rw [hT.out, hB.out]
      clear hT hB c d
      generalize Pl.overS l 1 r = m at *
      go_enter Try.func24, Try.ntmps24
      go_wp2_with (go_at_call 30; refine (HO.out _).mono ?_; rintro e w' ⟨rfl, hb⟩)
      go_ret2
      exact ⟨rfl, (al_be _ _).trans (hb.mono (by simp))⟩

theorem pc_Credit (b : Nat) (s : PS) (w : World) (h : Blk w b 47 s.cells) :
    Calls Try.prog 17 #[.pointer (some ⟨b, 0, none⟩)] w fun e w' => e = .returned (.int .u64 (s.s : Int)) ∧ w = w' := by
  have h3 := h.cell (i := 3) (v := .int .u64 s.s) rfl
  clear h
  go_enter Try.func17, Try.ntmps17
  go_wp2
  go_ret
  exact ⟨rfl, rfl⟩

/-- What a call of a pacer's leaves: its answer, the pacer, all other blocks as they were. -/
structure PPost (w : World) (b : Nat) (r : Value) (s : PS) (e : Ending) (w' : World) : Prop where
  e : e = .returned r
  blk : Blk w' b 47 s.cells
  gr : w.grownBy w' (some b)

/-- What holds while a pacer is changed. -/
structure PMut (W : World) (b : Nat) (s : PS) (w : World) : Prop where
  blk : Blk w b 47 s.cells
  gr : W.grownBy w (some b)
theorem PMut.start {W : World} {b : Nat} {s : PS} (h : Blk W b 47 s.cells) : PMut W b s W := ⟨h, gr_refl _ _⟩
theorem PMut.drew {W w : World} {b : Nat} {s : PS} (h : PMut W b s w) : PMut W b s w.drew := ⟨h.blk.drew, gr_drew h.gr⟩
theorem PMut.to {W w w' : World} {b : Nat} {s : PS} (h : PMut W b s w) (k : Below w.heap.size w w') : PMut W b s w' := ⟨h.blk.keep k, gr_trans h.gr (gr_below k _)⟩
theorem PMut.al {W w w' : World} {b : Nat} {s : PS} {o : Obj} (h : PMut W b s w) (k : Below (w.alloc o).heap.size (w.alloc o) w') : PMut W b s w' := (h.to (al_be _ _)).to k
theorem PMut.ald {W w w' : World} {b : Nat} {s : PS} {o : Obj} (h : PMut W b s w) (k : Below (w.alloc o).drew.heap.size (w.alloc o).drew w') : PMut W b s w' := (h.to (al_dr _ _)).to k
theorem PMut.set {W w : World} {b : Nat} {s s' : PS} (h : PMut W b s w) (i : Nat) (u : Value) (he : s.cells.setIfInBounds i u = s'.cells) : PMut W b s' (w.setCell ⟨b, i, none⟩ u) :=
  ⟨he ▸ h.blk.set i u, gr_set h.gr i u⟩
theorem PMut.post {W w : World} {b : Nat} {s : PS} {v : Value} (h : PMut W b s w) : PPost W b v s (.returned v) w := ⟨rfl, h.blk, h.gr⟩

/-- The same, but for its credit. -/
def PSome (W : World) (b r q t : Nat) (w : World) : Prop := ∃ z, PMut W b ⟨r, q, t, z⟩ w
theorem ps_of {W w : World} {b r q t z : Nat} (h : Hid (PMut W b ⟨r, q, t, z⟩ w)) : Hid (PSome W b r q t w) := Lib.hid ⟨z, h.out⟩
theorem ps_r {W : World} {b r q t : Nat} : (∀ w, Hid (PSome W b r q t w) → w.cell? ⟨b, 0, none⟩ = some (.int .u64 (r : Int))) ∧ (∀ w, Hid (PSome W b r q t w) → w.cell? ⟨b, 1, none⟩ = some (.int .u64 (q : Int))) ∧ (∀ w, Hid (PSome W b r q t w) → w.cell? ⟨b, 2, none⟩ = some (.int .u64 (t : Int))) :=
  ⟨fun w h => by obtain ⟨z, k⟩ := h.out; exact k.blk.cell rfl, fun w h => by obtain ⟨z, k⟩ := h.out; exact k.blk.cell rfl, fun w h => by obtain ⟨z, k⟩ := h.out; exact k.blk.cell rfl⟩
/-- Two numbers at hand, too. -/
structure PM2 (W : World) (b : Nat) (s : PS) (a x y : Nat) (w : World) : Prop where
  m : PMut W b s w
  c0 : w.cell? ⟨a, 0, none⟩ = some (.int .u64 (x : Int))
  c1 : w.cell? ⟨a, 1, none⟩ = some (.int .u64 (y : Int))
theorem PM2.to {W w w' : World} {b a x y : Nat} {s : PS} (h : PM2 W b s a x y w) (k : Below w.heap.size w w') : PM2 W b s a x y w' := ⟨h.m.to k, bel_cell k h.c0, bel_cell k h.c1⟩
theorem PMut.al2 {W w : World} {b : Nat} {s : PS} (h : PMut W b s w) (x y : Nat) (T : TypeId) : PM2 W b s w.heap.size x y (w.alloc (.cells #[.int .u64 (x : Int), .int .u64 (y : Int)] T)) := ⟨h.to (al_be _ _), (nc2 _ _ _ _).1, (nc2 _ _ _ _).2⟩
theorem pm_r {W : World} {b : Nat} {s : PS} : (∀ w, Hid (PMut W b s w) → w.cell? ⟨b, 0, none⟩ = some (.int .u64 (s.r : Int))) ∧ (∀ w, Hid (PMut W b s w) → w.cell? ⟨b, 1, none⟩ = some (.int .u64 (s.q : Int))) ∧ (∀ w, Hid (PMut W b s w) → w.cell? ⟨b, 2, none⟩ = some (.int .u64 (s.t : Int))) ∧ (∀ w, Hid (PMut W b s w) → w.cell? ⟨b, 3, none⟩ = some (.int .u64 (s.s : Int))) :=
  ⟨fun w h => h.out.blk.cell rfl, fun w h => h.out.blk.cell rfl, fun w h => h.out.blk.cell rfl, fun w h => h.out.blk.cell rfl⟩
theorem pn_k {W w w' : World} {b : Nat} {s : PS} (h : Hid (Blk w b 47 s.cells ∧ Below W.heap.size W w)) (k : Below w.heap.size w w') : Hid (Blk w' b 47 s.cells ∧ Below W.heap.size W w') := Lib.hid ⟨h.out.1.keep k, bel_to h.out.2 k h.out.2.size⟩
theorem pn_r {W : World} {b : Nat} {s : PS} : (∀ w, Hid (Blk w b 47 s.cells ∧ Below W.heap.size W w) → w.cell? ⟨b, 0, none⟩ = some (.int .u64 (s.r : Int))) ∧ (∀ w, Hid (Blk w b 47 s.cells ∧ Below W.heap.size W w) → w.cell? ⟨b, 1, none⟩ = some (.int .u64 (s.q : Int))) ∧ (∀ w, Hid (Blk w b 47 s.cells ∧ Below W.heap.size W w) → w.cell? ⟨b, 3, none⟩ = some (.int .u64 (s.s : Int))) :=
  ⟨fun w h => h.out.1.cell rfl, fun w h => h.out.1.cell rfl, fun w h => h.out.1.cell rfl⟩
theorem pm_k {W w w' : World} {b : Nat} {s : PS} (h : Hid (PMut W b s w)) (k : Below w.heap.size w w') : Hid (PMut W b s w') := Lib.hid (h.out.to k)

set_option maxHeartbeats 1000000 in
theorem pc_Tick_no (b now r q : Nat) (s : PS) (W : World) (h : Blk W b 47 s.cells) (c : now < s.t) :
    Calls Try.prog 9 #[.pointer (some ⟨b, 0, none⟩), .int .u64 (now : Int), .int .u64 (r : Int), .int .u64 (q : Int)] W (PPost W b (.int .i64 2) s) := by
  have h2 := h.cell (i := 2) (v := .int .u64 s.t) rfl
  have HM := Lib.hid (PMut.start h)
  have d : decide (now < s.t) = true := decide_eq_true c
  clear h
  go_enter Try.func9, Try.ntmps9
  go_wp2
  go_ret
  exact HM.out.post

set_option maxHeartbeats 2000000 in
theorem pc_Tick_yes (b now r q : Nat) (s : PS) (W : World) (h : Blk W b 47 s.cells) (ho : s.ok) (hn : now ≤ 18446744073709551615) (hr : r ≤ 18446744073709551615) (hq : q ≤ 18446744073709551615) (c : ¬ now < s.t) :
    Calls Try.prog 9 #[.pointer (some ⟨b, 0, none⟩), .int .u64 (now : Int), .int .u64 (r : Int), .int .u64 (q : Int)] W (PPost W b (.int .i64 0) (s.tickS now r q)) := by
  have h2 := h.cell (i := 2) (v := .int .u64 s.t) rfl
  have h0 := h.cell (i := 0) (v := .int .u64 s.r) rfl
  have h1 := h.cell (i := 1) (v := .int .u64 s.q) rfl
  have f0 := h.free 0
  have f1 := h.free 1
  have d : decide (now < s.t) = false := decide_eq_false c
  have hw : (now : Int) - (s.t : Int) = ((now - s.t : Nat) : Int) := by omega
  have hww : IntKind.u64.wrap ((now - s.t : Nat) : Int) = ((now - s.t : Nat) : Int) := by rw [IntKind.wrap_u64]; omega
  have hE := Lib.hid (fun w => pc_earned r q (now - s.t) w hr (by omega))
  have hM := Lib.hid (fun w => pc_most r q w hq)
  have hA := Lib.hid (add_any s.s (Pl.mulS r (now - s.t)) ho.2.2.2 (Pl.mulS_le _ _))
  have hm : min ((Pl.addS s.s (Pl.mulS r (now - s.t)) : Nat) : Int) ((Pl.mulS q 1000000 : Nat) : Int) = ((min (Pl.addS s.s (Pl.mulS r (now - s.t))) (Pl.mulS q 1000000) : Nat) : Int) := by omega
  have HT : Hid (s.tickS now r q = ⟨r, q, now, min (Pl.addS s.s (Pl.mulS r (now - s.t))) (Pl.mulS q 1000000)⟩) := Lib.hid (by unfold PS.tickS; rw [if_neg c])
  have M0 := Lib.hid ((((PMut.start h).set (s' := ⟨r, s.q, s.t, s.s⟩) 0 (.int .u64 r) rfl).set (s' := ⟨r, q, s.t, s.s⟩) 1 (.int .u64 q) rfl))
  rw [HT.out]
  generalize min (Pl.addS s.s (Pl.mulS r (now - s.t))) (Pl.mulS q 1000000) = z at *
  generalize Pl.addS s.s (Pl.mulS r (now - s.t)) = y at *
  generalize Pl.mulS r (now - s.t) = x at *
  generalize Pl.mulS q 1000000 = m at *
  generalize hl : now - s.t = l at *
  clear h ho hn hr hq c HT hl
  go_enter Try.func9, Try.ntmps9
  go_wp2_with fail
  generalize (W.setCell ⟨b, 0, none⟩ (.int .u64 (r : Int))).setCell ⟨b, 1, none⟩ (.int .u64 (q : Int)) = w0 at *
  have M1 := Lib.hid M0.out.drew
  obtain ⟨r0, r1, r2⟩ := ps_r (W := W) (b := b) (r := r) (q := q) (t := s.t)
  clear h0 h1 h2 f0 f1 M0
  refine wp_region_held_drew (S := (fun w' => Hid (PSome W b r q s.t w'))) (by kernel_rfl) (ps_of M1) (fun hHeld => ?_)
  simp only [List.size_toArray, List.length_cons, List.length_nil, Nat.reduceAdd, Array.replicate_succ, Array.replicate_zero, List.push_toArray, List.nil_append, List.cons_append]
  refine wpAnyH_take (i := 0) (oi := ⟨some 25, _, _, _, _, _⟩) (v := ?v1) rfl (by kernel_rfl) (by kernel_rfl) (by kernel_rfl) (fun _ _ _ h => h) (Or.inl ⟨by rfl, ?y1⟩) (by assumption) ?r1
  case y1 => intro w hSw; clear hSw; go_simp; (try with_reducible rfl)
  simp only [Act.put, List.setIfInBounds_toArray, List.set_cons_zero, List.set_cons_succ]
  refine wpAnyH_take (i := 1) (oi := ⟨some 26, _, _, _, _, _⟩) (v := ?v2) rfl (by kernel_rfl) (by kernel_rfl) (by kernel_rfl) (fun _ _ _ h => h) (Or.inl ⟨by rfl, ?y2⟩) (by assumption) ?r2
  case y2 => intro w hSw; clear hSw; go_simp; (try with_reducible rfl)
  simp only [Act.put, List.setIfInBounds_toArray, List.set_cons_zero, List.set_cons_succ]
  refine wpAnyH_take (i := 2) (oi := ⟨some 27, _, _, _, _, _⟩) (v := ?v3) rfl (by kernel_rfl) (by kernel_rfl) (by kernel_rfl) (fun _ _ _ h => h) (Or.inl ⟨by rfl, ?y3⟩) (by assumption) ?r3
  case y3 => intro w hSw; clear hSw; go_simp; (try with_reducible rfl)
  simp only [Act.put, List.setIfInBounds_toArray, List.set_cons_zero, List.set_cons_succ]
  refine wpAnyH_take (i := 3) (oi := ⟨some 28, _, _, _, _, _⟩) (v := ?v4) rfl (by kernel_rfl) (by kernel_rfl) (by kernel_rfl) (fun _ _ _ h => h) (Or.inl ⟨by rfl, ?y4⟩) (by assumption) ?r4
  case y4 => intro w hSw; clear hSw; go_simp; (try with_reducible rfl)
  simp only [Act.put, List.setIfInBounds_toArray, List.set_cons_zero, List.set_cons_succ]
  refine wpAnyH_take (i := 5) (oi := ⟨some 30, _, _, _, _, _⟩) (v := ?v5) rfl (by kernel_rfl) (by kernel_rfl) (by kernel_rfl) (fun _ _ _ h => h) (Or.inl ⟨by rfl, ?y5⟩) (by assumption) ?r5
  case y5 => intro w hSw; clear hSw; go_simp; (try with_reducible rfl)
  simp only [Act.put, List.setIfInBounds_toArray, List.set_cons_zero, List.set_cons_succ]
  refine wpAnyH_take (i := 6) (oi := ⟨some 31, _, _, _, _, _⟩) (v := ?v6) rfl (by kernel_rfl) (by kernel_rfl) (by kernel_rfl) (fun _ _ _ h => h) (Or.inl ⟨by rfl, ?y6⟩) (by assumption) ?r6
  case y6 => intro w hSw; clear hSw; go_simp; (try with_reducible rfl)
  simp only [Act.put, List.setIfInBounds_toArray, List.set_cons_zero, List.set_cons_succ]
  refine wpAnyH_take (i := 7) (oi := ⟨some 32, _, _, _, _, _⟩) (v := ?v7) rfl (by kernel_rfl) (by kernel_rfl) (by kernel_rfl) (fun _ _ _ h => h) (Or.inl ⟨by rfl, ?y7⟩) (by assumption) ?r7
  case y7 => intro w hSw; clear hSw; go_simp; (try with_reducible rfl)
  simp only [Act.put, List.setIfInBounds_toArray, List.set_cons_zero, List.set_cons_succ]
  refine wpAnyH_take (i := 8) (oi := ⟨some 33, _, _, _, _, _⟩) (v := ?v8) rfl (by kernel_rfl) (by kernel_rfl) (by kernel_rfl) (fun _ _ _ h => h) (Or.inl ⟨by rfl, ?y8⟩) (by assumption) ?r8
  case y8 => intro w hSw; skip; go_simp; (try with_reducible rfl)
  simp only [Act.put, List.setIfInBounds_toArray, List.set_cons_zero, List.set_cons_succ]
  refine wpAnyH_take (i := 9) (oi := ⟨some 34, _, _, _, _, _⟩) (v := ?v9) rfl (by kernel_rfl) (by kernel_rfl) (by kernel_rfl) (fun _ _ _ h => h) (Or.inl ⟨by rfl, ?y9⟩) (by assumption) ?r9
  case y9 => intro w hSw; clear hSw; go_simp; (try with_reducible rfl)
  simp only [Act.put, List.setIfInBounds_toArray, List.set_cons_zero, List.set_cons_succ]
  refine wpAnyH_take (i := 10) (oi := ⟨some 35, _, _, _, _, _⟩) (v := ?v10) rfl (by kernel_rfl) (by kernel_rfl) (by kernel_rfl) (fun _ _ _ h => h) (Or.inl ⟨by rfl, ?y10⟩) (by assumption) ?r10
  case y10 => intro w hSw; clear hSw; go_simp; (try with_reducible rfl)
  simp only [Act.put, List.setIfInBounds_toArray, List.set_cons_zero, List.set_cons_succ]
  refine wpAnyH_take (i := 11) (oi := ⟨some 36, _, _, _, _, _⟩) (v := ?v11) rfl (by kernel_rfl) (by kernel_rfl) (by kernel_rfl) (fun _ _ _ h => h) (Or.inl ⟨by rfl, ?y11⟩) (by assumption) ?r11
  case y11 => intro w hSw; clear hSw; go_simp; (try with_reducible rfl)
  simp only [Act.put, List.setIfInBounds_toArray, List.set_cons_zero, List.set_cons_succ]
  refine wpAnyH_take (i := 12) (oi := ⟨some 37, _, _, _, _, _⟩) (v := ?v12) rfl (by kernel_rfl) (by kernel_rfl) (by kernel_rfl) (fun _ _ _ h => h) (Or.inl ⟨by rfl, ?y12⟩) (by assumption) ?r12
  case y12 => intro w hSw; clear hSw; go_simp; (try with_reducible rfl)
  simp only [Act.put, List.setIfInBounds_toArray, List.set_cons_zero, List.set_cons_succ]
  refine wpAnyH_take (i := 13) (oi := ⟨some 38, _, _, _, _, _⟩) (v := ?v13) rfl (by kernel_rfl) (by kernel_rfl) (by kernel_rfl) (fun _ _ _ h => h) (Or.inl ⟨by rfl, ?y13⟩) (by assumption) ?r13
  case y13 => intro w hSw; skip; go_simp; (try with_reducible rfl)
  simp only [Act.put, List.setIfInBounds_toArray, List.set_cons_zero, List.set_cons_succ]
  refine wpAnyH_take (i := 14) (oi := ⟨some 39, _, _, _, _, _⟩) (v := ?v14) rfl (by kernel_rfl) (by kernel_rfl) (by kernel_rfl) (fun _ _ _ h => h) (Or.inl ⟨by rfl, ?y14⟩) (by assumption) ?r14
  case y14 => intro w hSw; clear hSw; go_simp; (try with_reducible rfl)
  simp only [Act.put, List.setIfInBounds_toArray, List.set_cons_zero, List.set_cons_succ]
  refine wpAnyH_take (i := 18) (oi := ⟨some 43, _, _, _, _, _⟩) (v := ?v15) rfl (by kernel_rfl) (by kernel_rfl) (by kernel_rfl) (fun _ _ _ h => h) (Or.inl ⟨by rfl, ?y15⟩) (by assumption) ?r15
  case y15 => intro w hSw; clear hSw; go_simp; (try with_reducible rfl)
  simp only [Act.put, List.setIfInBounds_toArray, List.set_cons_zero, List.set_cons_succ]
  refine wpAnyH_take (i := 19) (oi := ⟨some 44, _, _, _, _, _⟩) (v := ?v16) rfl (by kernel_rfl) (by kernel_rfl) (by kernel_rfl) (fun _ _ _ h => h) (Or.inl ⟨by rfl, ?y16⟩) (by assumption) ?r16
  case y16 => intro w hSw; clear hSw; go_simp; (try with_reducible rfl)
  simp only [Act.put, List.setIfInBounds_toArray, List.set_cons_zero, List.set_cons_succ]
  refine wpAnyH_take (i := 20) (oi := ⟨some 45, _, _, _, _, _⟩) (v := ?v17) rfl (by kernel_rfl) (by kernel_rfl) (by kernel_rfl) (fun _ _ _ h => h) (Or.inl ⟨by rfl, ?y17⟩) (by assumption) ?r17
  case y17 => intro w hSw; clear hSw; go_simp; (try with_reducible rfl)
  simp only [Act.put, List.setIfInBounds_toArray, List.set_cons_zero, List.set_cons_succ]
  refine wpAnyH_take (i := 21) (oi := ⟨some 46, _, _, _, _, _⟩) (v := ?v18) rfl (by kernel_rfl) (by kernel_rfl) (by kernel_rfl) (fun _ _ _ h => h) (Or.inl ⟨by rfl, ?y18⟩) (by assumption) ?r18
  case y18 => intro w hSw; skip; go_simp; (try with_reducible rfl)
  simp only [Act.put, List.setIfInBounds_toArray, List.set_cons_zero, List.set_cons_succ]
  refine wpAnyH_ready (rs := [4, 15]) (by kernel_rfl) (by simp) ?_
  refine AllReadyH.cons (o := ⟨some 29, _, _, _, _, _⟩) rfl (fun K hK => ?_) ?_
  · have c3 := (Hid.out (by assumption) : PMut W b ⟨r, q, s.t, s.s⟩ _).blk.cell (i := 3) (v := .int .u64 s.s) rfl
    go_simp
    refine hK.out _ _ hHeld (fun hHeld => ?_)
    clear hK
    try simp only [List.setIfInBounds_toArray, List.set_cons_zero, List.set_cons_succ]
    refine wpAnyH_ready (rs := [15]) (by kernel_rfl) (by simp) ?_
    refine AllReadyH.cons (o := ⟨some 40, _, _, _, _, _⟩) rfl (fun K hK => ?_) AllReadyH.nil
    go_simp
    refine (hE.out _).mono ?_
    rintro e w2 ⟨rfl, hb⟩
    have M2 := Lib.hid ((Hid.out (by assumption) : PMut W b ⟨r, q, s.t, s.s⟩ _).to hb)
    go_wp2_with fail
    refine hK.out _ _ (ps_of M2) (fun hHeld => ?_)
    clear hK
    try simp only [List.setIfInBounds_toArray, List.set_cons_zero, List.set_cons_succ]
    refine wpAnyH_ready (rs := [16]) (by kernel_rfl) (by simp) ?_
    refine AllReadyH.cons (o := ⟨some 41, _, _, _, _, _⟩) rfl (fun K hK => ?_) AllReadyH.nil
    have Z1 := Lib.hid ((Hid.out (by assumption) : PMut W b ⟨r, q, s.t, s.s⟩ _).al2 s.s x 23)
    have M3 := Lib.hid Z1.out.m
    go_simp
    refine hK.out _ _ (ps_of M3) (fun hHeld => ?_)
    clear hK
    try simp only [List.setIfInBounds_toArray, List.set_cons_zero, List.set_cons_succ]
    refine wpAnyH_ready (rs := [17]) (by kernel_rfl) (by simp) ?_
    refine AllReadyH.cons (o := ⟨some 42, _, _, _, _, _⟩) rfl (fun K hK => ?_) AllReadyH.nil
    go_simp
    refine (hA.out _ _ (Hid.out (by assumption) : PM2 W b ⟨r, q, s.t, s.s⟩ _ s.s x _).c0 (Hid.out (by assumption) : PM2 W b ⟨r, q, s.t, s.s⟩ _ s.s x _).c1).mono ?_
    rintro e w4 ⟨rfl, hb⟩
    have M4 := Lib.hid ((Hid.out (by assumption) : PMut W b ⟨r, q, s.t, s.s⟩ _).to hb)
    go_wp2_with fail
    refine hK.out _ _ (ps_of M4) (fun hHeld => ?_)
    clear hK
    try simp only [List.setIfInBounds_toArray, List.set_cons_zero, List.set_cons_succ]
    refine wpAnyH_ready (rs := [22]) (by kernel_rfl) (by simp) ?_
    refine AllReadyH.cons (o := ⟨some 47, _, _, _, _, _⟩) rfl (fun K hK => ?_) AllReadyH.nil
    go_simp
    refine (hM.out _).mono ?_
    rintro e w5 ⟨rfl, hb⟩
    have M5 := Lib.hid ((Hid.out (by assumption) : PMut W b ⟨r, q, s.t, s.s⟩ _).to hb)
    (first | have Z2 := Lib.hid ((Hid.out (by assumption) : PM2 W b ⟨r, q, s.t, s.s⟩ _ s.s x _).to hb) | skip)
    go_wp2_with fail
    refine hK.out _ _ (ps_of M5) (fun hHeld => ?_)
    clear hK
    try simp only [List.setIfInBounds_toArray, List.set_cons_zero, List.set_cons_succ]
    refine wpAnyH_take (i := 23) (oi := ⟨some 48, _, _, _, _, _⟩) (v := ?v19) rfl (by kernel_rfl) (by kernel_rfl) (by kernel_rfl) (fun _ _ _ h => h) (Or.inl ⟨by rfl, ?y19⟩) (by assumption) ?r19
    case y19 => intro w hSw; skip; go_simp; (try with_reducible rfl)
    simp only [Act.put, List.setIfInBounds_toArray, List.set_cons_zero, List.set_cons_succ]
    refine wpAnyH_take (i := 24) (oi := ⟨some 49, _, _, _, _, _⟩) (v := ?v20) rfl (by kernel_rfl) (by kernel_rfl) (by kernel_rfl) (fun _ _ _ h => h) (Or.inl ⟨by rfl, ?y20⟩) (by assumption) ?r20
    case y20 => intro w hSw; clear hSw; go_simp; (try with_reducible rfl)
    simp only [Act.put, List.setIfInBounds_toArray, List.set_cons_zero, List.set_cons_succ]
    refine wpAnyH_take (i := 25) (oi := ⟨some 50, _, _, _, _, _⟩) (v := ?v21) rfl (by kernel_rfl) (by kernel_rfl) (by kernel_rfl) (fun _ _ _ h => h) (Or.inl ⟨by rfl, ?y21⟩) (by assumption) ?r21
    case y21 => intro w hSw; clear hSw; go_simp; (try with_reducible rfl)
    simp only [Act.put, List.setIfInBounds_toArray, List.set_cons_zero, List.set_cons_succ]
    refine wpAnyH_ready (rs := [26]) (by kernel_rfl) (by simp) ?_
    refine AllReadyH.cons (o := ⟨none, _, _, _, _, _⟩) rfl (fun K hK => ?_) AllReadyH.nil
    have y3 := (Hid.out (by assumption) : PMut W b ⟨r, q, s.t, s.s⟩ _).blk.free 3
    have c3 := (Hid.out (by assumption) : PMut W b ⟨r, q, s.t, s.s⟩ _).blk.cell (i := 3) (v := .int .u64 s.s) rfl
    have M6 := Lib.hid ((Hid.out (by assumption) : PMut W b ⟨r, q, s.t, s.s⟩ _).set (s' := ⟨r, q, s.t, z⟩) 3 (.int .u64 (z : Int)) rfl)
    go_simp
    refine hK.out _ _ (ps_of M6) (fun hHeld => ?_)
    clear hK
    try simp only [List.setIfInBounds_toArray, List.set_cons_zero, List.set_cons_succ]
    refine wpAnyH_done (by kernel_rfl) ?_ _
    have y2 := M6.out.blk.free 2
    have M7 := Lib.hid (M6.out.set (s' := ⟨r, q, now, z⟩) 2 (.int .u64 (now : Int)) rfl)
    go_wp2_with fail
    go_ret
    exact M7.out.post
  refine AllReadyH.cons (o := ⟨some 40, _, _, _, _, _⟩) rfl (fun K hK => ?_) AllReadyH.nil
  go_simp
  refine (hE.out _).mono ?_
  rintro e w2 ⟨rfl, hb⟩
  have M2 := Lib.hid ((Hid.out (by assumption) : PMut W b ⟨r, q, s.t, s.s⟩ _).to hb)
  go_wp2_with fail
  refine hK.out _ _ (ps_of M2) (fun hHeld => ?_)
  clear hK
  try simp only [List.setIfInBounds_toArray, List.set_cons_zero, List.set_cons_succ]
  refine wpAnyH_ready (rs := [4]) (by kernel_rfl) (by simp) ?_
  refine AllReadyH.cons (o := ⟨some 29, _, _, _, _, _⟩) rfl (fun K hK => ?_) AllReadyH.nil
  have c3 := (Hid.out (by assumption) : PMut W b ⟨r, q, s.t, s.s⟩ _).blk.cell (i := 3) (v := .int .u64 s.s) rfl
  go_simp
  refine hK.out _ _ hHeld (fun hHeld => ?_)
  clear hK
  try simp only [List.setIfInBounds_toArray, List.set_cons_zero, List.set_cons_succ]
  refine wpAnyH_ready (rs := [16]) (by kernel_rfl) (by simp) ?_
  refine AllReadyH.cons (o := ⟨some 41, _, _, _, _, _⟩) rfl (fun K hK => ?_) AllReadyH.nil
  have Z1 := Lib.hid ((Hid.out (by assumption) : PMut W b ⟨r, q, s.t, s.s⟩ _).al2 s.s x 23)
  have M3 := Lib.hid Z1.out.m
  go_simp
  refine hK.out _ _ (ps_of M3) (fun hHeld => ?_)
  clear hK
  try simp only [List.setIfInBounds_toArray, List.set_cons_zero, List.set_cons_succ]
  refine wpAnyH_ready (rs := [17]) (by kernel_rfl) (by simp) ?_
  refine AllReadyH.cons (o := ⟨some 42, _, _, _, _, _⟩) rfl (fun K hK => ?_) AllReadyH.nil
  go_simp
  refine (hA.out _ _ (Hid.out (by assumption) : PM2 W b ⟨r, q, s.t, s.s⟩ _ s.s x _).c0 (Hid.out (by assumption) : PM2 W b ⟨r, q, s.t, s.s⟩ _ s.s x _).c1).mono ?_
  rintro e w4 ⟨rfl, hb⟩
  have M4 := Lib.hid ((Hid.out (by assumption) : PMut W b ⟨r, q, s.t, s.s⟩ _).to hb)
  go_wp2_with fail
  refine hK.out _ _ (ps_of M4) (fun hHeld => ?_)
  clear hK
  try simp only [List.setIfInBounds_toArray, List.set_cons_zero, List.set_cons_succ]
  refine wpAnyH_ready (rs := [22]) (by kernel_rfl) (by simp) ?_
  refine AllReadyH.cons (o := ⟨some 47, _, _, _, _, _⟩) rfl (fun K hK => ?_) AllReadyH.nil
  go_simp
  refine (hM.out _).mono ?_
  rintro e w5 ⟨rfl, hb⟩
  have M5 := Lib.hid ((Hid.out (by assumption) : PMut W b ⟨r, q, s.t, s.s⟩ _).to hb)
  (first | have Z2 := Lib.hid ((Hid.out (by assumption) : PM2 W b ⟨r, q, s.t, s.s⟩ _ s.s x _).to hb) | skip)
  go_wp2_with fail
  refine hK.out _ _ (ps_of M5) (fun hHeld => ?_)
  clear hK
  try simp only [List.setIfInBounds_toArray, List.set_cons_zero, List.set_cons_succ]
  refine wpAnyH_take (i := 23) (oi := ⟨some 48, _, _, _, _, _⟩) (v := ?v22) rfl (by kernel_rfl) (by kernel_rfl) (by kernel_rfl) (fun _ _ _ h => h) (Or.inl ⟨by rfl, ?y22⟩) (by assumption) ?r22
  case y22 => intro w hSw; skip; go_simp; (try with_reducible rfl)
  simp only [Act.put, List.setIfInBounds_toArray, List.set_cons_zero, List.set_cons_succ]
  refine wpAnyH_take (i := 24) (oi := ⟨some 49, _, _, _, _, _⟩) (v := ?v23) rfl (by kernel_rfl) (by kernel_rfl) (by kernel_rfl) (fun _ _ _ h => h) (Or.inl ⟨by rfl, ?y23⟩) (by assumption) ?r23
  case y23 => intro w hSw; clear hSw; go_simp; (try with_reducible rfl)
  simp only [Act.put, List.setIfInBounds_toArray, List.set_cons_zero, List.set_cons_succ]
  refine wpAnyH_take (i := 25) (oi := ⟨some 50, _, _, _, _, _⟩) (v := ?v24) rfl (by kernel_rfl) (by kernel_rfl) (by kernel_rfl) (fun _ _ _ h => h) (Or.inl ⟨by rfl, ?y24⟩) (by assumption) ?r24
  case y24 => intro w hSw; clear hSw; go_simp; (try with_reducible rfl)
  simp only [Act.put, List.setIfInBounds_toArray, List.set_cons_zero, List.set_cons_succ]
  refine wpAnyH_ready (rs := [26]) (by kernel_rfl) (by simp) ?_
  refine AllReadyH.cons (o := ⟨none, _, _, _, _, _⟩) rfl (fun K hK => ?_) AllReadyH.nil
  have y3 := (Hid.out (by assumption) : PMut W b ⟨r, q, s.t, s.s⟩ _).blk.free 3
  have c3 := (Hid.out (by assumption) : PMut W b ⟨r, q, s.t, s.s⟩ _).blk.cell (i := 3) (v := .int .u64 s.s) rfl
  have M6 := Lib.hid ((Hid.out (by assumption) : PMut W b ⟨r, q, s.t, s.s⟩ _).set (s' := ⟨r, q, s.t, z⟩) 3 (.int .u64 (z : Int)) rfl)
  go_simp
  refine hK.out _ _ (ps_of M6) (fun hHeld => ?_)
  clear hK
  try simp only [List.setIfInBounds_toArray, List.set_cons_zero, List.set_cons_succ]
  refine wpAnyH_done (by kernel_rfl) ?_ _
  have y2 := M6.out.blk.free 2
  have M7 := Lib.hid (M6.out.set (s' := ⟨r, q, now, z⟩) 2 (.int .u64 (now : Int)) rfl)
  go_wp2_with fail
  go_ret
  exact M7.out.post

theorem pc_Tick (b now r q : Nat) (s : PS) (W : World) (h : Blk W b 47 s.cells) (ho : s.ok) (hn : now ≤ 18446744073709551615) (hr : r ≤ 18446744073709551615) (hq : q ≤ 18446744073709551615) :
    Calls Try.prog 9 #[.pointer (some ⟨b, 0, none⟩), .int .u64 (now : Int), .int .u64 (r : Int), .int .u64 (q : Int)] W (PPost W b (.int .i64 (s.tickE now)) (s.tickS now r q)) := by
  unfold PS.tickE
  by_cases c : now < s.t
  · have e : s.tickS now r q = s := by unfold PS.tickS; rw [if_pos c]
    rw [if_pos c, e]
    exact pc_Tick_no b now r q s W h c
  · rw [if_neg c]
    exact pc_Tick_yes b now r q s W h ho hn hr hq c

theorem pc_Tick_nil (now r q : Int) (W : World) : Calls Try.prog 9 #[.pointer none, .int .u64 now, .int .u64 r, .int .u64 q] W fun e w' => e = .returned (.int .i64 1) ∧ W = w' := by
  go_enter Try.func9, Try.ntmps9
  go_wp2
  go_ret
  exact ⟨rfl, rfl⟩

set_option maxHeartbeats 1000000 in
theorem pc_Take (b x : Nat) (s : PS) (W : World) (h : Blk W b 47 s.cells) (ho : s.ok) (hx : x ≤ 18446744073709551615) :
    Calls Try.prog 11 #[.pointer (some ⟨b, 0, none⟩), .int .u64 (x : Int)] W (PPost W b (.bool (s.takeB x)) (s.takeS x)) := by
  have HC := Lib.hid (fun w => pc_credit x w hx)
  have M0 := Lib.hid (PMut.start h).drew
  unfold PS.takeB PS.takeS
  have hs := ho.2.2.2
  clear h ho hx
  by_cases c : Pl.mulS x 1000000 ≤ s.s
  · rw [decide_eq_true c, if_pos c]
    have d : decide (s.s < Pl.mulS x 1000000) = false := decide_eq_false (by omega)
    have e : IntKind.u64.wrap ((s.s - Pl.mulS x 1000000 : Nat) : Int) = ((s.s - Pl.mulS x 1000000 : Nat) : Int) := by rw [IntKind.wrap_u64]; omega
    have e' : (s.s : Int) - ((Pl.mulS x 1000000 : Nat) : Int) = ((s.s - Pl.mulS x 1000000 : Nat) : Int) := by omega
    generalize s.s - Pl.mulS x 1000000 = z at *
    generalize Pl.mulS x 1000000 = m at *
    clear c hs
    go_enter Try.func11, Try.ntmps11
    go_wp2_with fail
    have c3 := M0.out.blk.cell (i := 3) (v := .int .u64 (s.s : Int)) rfl
    go_region_held3 (fun w' => w'.cell? ⟨b, 3, none⟩ = some (.int .u64 (s.s : Int)) ∧ Hid (PMut W b s w'))
      (first | exact ⟨c3, M0⟩ | assumption | exact ⟨by assumption, by assumption⟩)
      (first
        | (go_at_call 22; go_split_ands; (refine (HC.out _).mono ?_); rintro e w' ⟨rfl, rfl⟩))
    all_goals
      go_split_ands
      have M1 := (‹Hid (PMut W b s _)›)
      clear c3 M0
      go_wp2_with fail
      have M2 := Lib.hid M1.out.drew
      have c3 := M2.out.blk.cell (i := 3) (v := .int .u64 (s.s : Int)) rfl
      have y3 := M2.out.blk.free 3
      have M3 := Lib.hid (M2.out.set (s' := ⟨s.r, s.q, s.t, z⟩) 3 (.int .u64 (z : Int)) rfl)
      go_region_with (first
        | (go_at_call 22; (refine (HC.out _).mono ?_); rintro e w' ⟨rfl, rfl⟩))
      all_goals
        go_wp2_with fail
        go_ret
        exact M3.out.post
  · rw [decide_eq_false c, if_neg c]
    have d : decide (s.s < Pl.mulS x 1000000) = true := decide_eq_true (by omega)
    generalize Pl.mulS x 1000000 = m at *
    clear c hs
    go_enter Try.func11, Try.ntmps11
    go_wp2_with fail
    have c3 := M0.out.blk.cell (i := 3) (v := .int .u64 (s.s : Int)) rfl
    go_region_held3 (fun w' => w'.cell? ⟨b, 3, none⟩ = some (.int .u64 (s.s : Int)) ∧ Hid (PMut W b s w'))
      (first | exact ⟨c3, M0⟩ | assumption | exact ⟨by assumption, by assumption⟩)
      (first
        | (go_at_call 22; go_split_ands; (refine (HC.out _).mono ?_); rintro e w' ⟨rfl, rfl⟩))
    all_goals
      go_split_ands
      have M1 := (‹Hid (PMut W b s _)›)
      go_wp2_with fail
      go_ret
      exact M1.out.post

theorem pc_Take_nil (x : Int) (W : World) : Calls Try.prog 11 #[.pointer none, .int .u64 x] W fun e w' => e = .returned (.bool false) ∧ Below W.heap.size W w' := by
  go_enter Try.func11, Try.ntmps11
  go_wp2_with fail
  go_region
  go_wp2
  go_ret
  exact ⟨rfl, (Drawn.drew _).below _⟩

set_option maxHeartbeats 1000000 in
theorem pc_Fill (b : Nat) (s : PS) (W : World) (h : Blk W b 47 s.cells) (ho : s.ok) :
    Calls Try.prog 13 #[.pointer (some ⟨b, 0, none⟩)] W (PPost W b (.tuple #[]) s.fillS) := by
  have HM := Lib.hid (fun w => pc_most s.r s.q w ho.2.1)
  have M0 := Lib.hid (PMut.start h)
  have h0 := h.cell (i := 0) (v := .int .u64 (s.r : Int)) rfl
  have h1 := h.cell (i := 1) (v := .int .u64 (s.q : Int)) rfl
  unfold PS.fillS
  clear h ho
  generalize Pl.mulS s.q 1000000 = z at *
  go_enter Try.func13, Try.ntmps13
  go_wp2_with fail
  refine (HM.out _).mono ?_
  rintro e w1 ⟨rfl, hb⟩
  have M1 := Lib.hid (M0.out.to hb)
  have y3 := M1.out.blk.free 3
  have c3 := M1.out.blk.cell (i := 3) (v := .int .u64 (s.s : Int)) rfl
  have M2 := Lib.hid (M1.out.set (s' := ⟨s.r, s.q, s.t, z⟩) 3 (.int .u64 (z : Int)) rfl)
  go_wp2_with fail
  go_end0
  exact M2.out.post

theorem pc_Fill_nil (W : World) : Calls Try.prog 13 #[.pointer none] W fun e w' => e = .returned (.tuple #[]) ∧ W = w' := by
  go_enter Try.func13, Try.ntmps13
  go_wp2
  exact bodyPost_ret (v := .tuple #[]) (by simp [results, Try.results13, go_sem]) rfl ⟨rfl, rfl⟩

theorem PS.next_wait (s : PS) (x : Nat) (ho : s.ok) : (s.q < x → s.nextB x = false ∧ s.nextT x = 0) ∧ (¬ s.q < x → s.nextB x = waitB s.r (s.lack x) ∧ s.nextT x = if waitB s.r (s.lack x) = true then Pl.addS s.t (waitT s.r (s.lack x)) else 0) := by
  unfold PS.nextB PS.nextT waitB waitT
  refine ⟨fun c => ⟨by rw [if_pos c], by rw [if_pos c]⟩, fun c => ?_⟩
  rw [if_neg c, if_neg c]
  refine ⟨rfl, ?_⟩
  split
  · simp only [if_true]
    have := ho.2.2.1
    unfold Pl.addS
    omega
  · split <;> simp

set_option maxHeartbeats 1000000 in
theorem pc_Next (b x : Nat) (s : PS) (W : World) (h : Blk W b 47 s.cells) (ho : s.ok) (hx : x ≤ 18446744073709551615) :
    Calls Try.prog 15 #[.pointer (some ⟨b, 0, none⟩), .int .u64 (x : Int)] W fun e w' => e = .returned (.tuple #[.int .u64 (s.nextT x : Int), .bool (s.nextB x)]) ∧ Below W.heap.size W w' := by
  obtain ⟨n1, n2⟩ := s.next_wait x ho
  have h1 := h.cell (i := 1) (v := .int .u64 (s.q : Int)) rfl
  by_cases c : s.q < x
  · obtain ⟨e1, e2⟩ := n1 c
    have E1 := Lib.hid e1
    have E2 := Lib.hid e2
    have d : decide (s.q < x) = true := decide_eq_true c
    rw [E1.out, E2.out]
    clear n1 n2 e1 e2 c h ho
    go_enter Try.func15, Try.ntmps15
    go_wp2
    go_ret2
    exact ⟨rfl, Below.refl _ _⟩
  · obtain ⟨e1, e2⟩ := n2 c
    have E1 := Lib.hid e1
    have E2 := Lib.hid e2
    have d : decide (s.q < x) = false := decide_eq_false c
    have HC := Lib.hid (fun w => pc_credit x w hx)
    have HL : Hid (∀ b w, w.cell? ⟨b, 0, none⟩ = some (.int .u64 (s.s : Int)) → Calls Try.prog 25 #[.int .u64 ((Pl.mulS x 1000000 : Nat) : Int), .slice (some ⟨b, 0, none⟩) 1 1] w fun e w' => e = .returned (.int .u64 ((s.lack x : Nat) : Int)) ∧ w = w') := Lib.hid (fun b w hw => sub_any (Pl.mulS x 1000000) s.s b (Pl.mulS_le _ _) ho.2.2.2 w hw)
    have hl : s.lack x ≤ 18446744073709551615 := Nat.le_trans (Nat.sub_le _ _) (Pl.mulS_le _ _)
    have HW := Lib.hid (fun w => pc_wait s.r s.q (s.lack x) w ho.1 hl)
    have HA := Lib.hid (add_any s.t (waitT s.r (s.lack x)) ho.2.2.1 (waitT_le _ _))
    have M0 := Lib.hid (PMut.start h)
    have I0 : Hid (Blk W b 47 s.cells ∧ Below W.heap.size W W) := Lib.hid ⟨h, Below.refl _ _⟩
    rw [E1.out, E2.out]
    clear n1 n2 e1 e2 c h ho hl hx E1 E2 M0
    generalize Pl.addS s.t (waitT s.r (s.lack x)) = n at *
    generalize waitT s.r (s.lack x) = t at *
    generalize waitB s.r (s.lack x) = o at *
    generalize s.lack x = l at *
    generalize Pl.mulS x 1000000 = m at *
    go_enter Try.func15, Try.ntmps15
    go_wp2_with fail
    obtain ⟨r0, r1, r3⟩ := pn_r (W := W) (b := b) (s := s)
    have I1 := pn_k I0 ((Drawn.drew W).below _)
    clear I0
    go_region_held3 (fun w' => Hid (Blk w' b 47 s.cells ∧ Below W.heap.size W w'))
      (first | exact I1 | assumption | exact pn_k (by assumption) hb | exact pn_k (by assumption) (al_be _ _))
      (first
        | (go_at_call 22; (refine (HC.out _).mono ?_); rintro e w' ⟨rfl, rfl⟩)
        | (go_at_call 25; (refine (HL.out _ _ (by first | exact new_cell rfl rfl | exact cell_dr (new_cell rfl rfl))).mono ?_); rintro e w' ⟨rfl, rfl⟩)
        | (go_at_call 24; (refine (HW.out _).mono ?_); rintro e w' ⟨rfl, hb⟩))
    all_goals
      have I2 := (‹Hid (Blk _ b 47 s.cells ∧ Below W.heap.size W _)›)
      have c2 := I2.out.1.cell (i := 2) (v := .int .u64 (s.t : Int)) rfl
      have l2 := I2.out.1.lt
      clear r0 r1 r3 I1 h1
      cases o with
      | false =>
        go_wp2_with fail
        go_ret2
        exact ⟨rfl, I2.out.2⟩
      | true =>
        go_wp2_with (go_at_call 18; (refine (HA.out _ _ (nc2 _ _ _ _).1 (nc2 _ _ _ _).2).mono ?_); rintro e w' ⟨rfl, hb⟩)
        go_ret2
        exact ⟨rfl, bel_to I2.out.2 ((al_be _ _).trans (hb.mono (by simp))) I2.out.2.size⟩

theorem pc_Next_nil (x : Int) (W : World) : Calls Try.prog 15 #[.pointer none, .int .u64 x] W fun e w' => e = .returned (.tuple #[.int .u64 0, .bool false]) ∧ W = w' := by
  go_enter Try.func15, Try.ntmps15
  go_wp2
  go_ret2
  exact ⟨rfl, rfl⟩

theorem pc_Credit_nil (W : World) : Calls Try.prog 17 #[.pointer none] W fun e w' => e = .returned (.int .u64 0) ∧ W = w' := by
  go_enter Try.func17, Try.ntmps17
  go_wp2
  go_ret
  exact ⟨rfl, rfl⟩

end Go.Proofs.Ytafmfkgaijnfbaa
