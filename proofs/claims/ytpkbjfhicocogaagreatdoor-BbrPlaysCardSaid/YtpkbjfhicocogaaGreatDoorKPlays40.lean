/- 1 texts put together: what each one says stands ahead of it. -/
import Derived.Test.YtpkbjfhicocogaaGreatDoorKPlays26
import Derived.Test.YtpkbjfhicocogaaGreatDoorKPlays04
import Derived.Test.YtpkbjfhicocogaaGreatDoorKPlays32
/- The document's engine over this translation: New; what the laws of layer 15 ask of both. -/
set_option linter.unusedVariables false
namespace Go.Proofs.YtpkbjfhicocogaaGreatDoor
open Go.RowKit Cf

/-- The document's engine as it is made. -/
structure NwI (W : World) (n ym yg : Nat) (cs : Array Value) (w : World) : Prop where
  blk : Blk w n 74 cs
  cy : DcAt w W.heap.size ym yg 1 [[]]
  bel : Below W.heap.size W w
  lo : W.heap.size ≤ n
theorem NwI.set {W w : World} {n ym yg : Nat} {cs ds : Array Value} (h : NwI W n ym yg cs w) (i : Nat) (u : Value) (e : cs.setIfInBounds i u = ds) : NwI W n ym yg ds (w.setCell ⟨n, i, none⟩ u) := by
  obtain ⟨arr, h1, h2, h3, h4, h5⟩ := h.cy.body
  exact ⟨e ▸ h.blk.set i u, ⟨h.cy.head.set_other i u (h.cy.head.ty h.blk (by decide)), h.cy.bm, h.cy.bg, arr, h1.set_other i u (h1.ty h.blk (by decide)), h2, h3, h4, h5.keep (KeepT.set h.blk (by decide) i u)⟩, h.bel.setCell (p := ⟨n, i, none⟩) h.lo u, h.lo⟩

set_option maxHeartbeats 2000000 in
theorem rz_New_ok (c : Setup) (hc : ∀ i, c i ≤ 18446744073709551615) (hr : rightC c = true) (B : Nat) (W : World) (hB : B ≤ W.heap.size) :
    Calls Tryz.prog 6 #[.agg (ccells c)] W fun e w' => ∃ Q : QP, e = .returned (.tuple #[.pointer (some ⟨Q.m, 0, none⟩), .bool true]) ∧ RefAt w' B Q (ES.new c) 0 ∧ Below W.heap.size W w' := by
  have HR := Lib.hid (fun w => ref_Right c w)
  have HY := Lib.hid (fun w => dc_New w)
  have HB := Lib.hid hB
  have N0 : Hid (NewI W c (W.alloc (.cells (ccells c) 24))) := Lib.hid ⟨Blk.new W _ _, al_be _ _⟩
  have hfc := firstC_eq hr
  have hm : IntKind.u64.wrap ((c 1 : Int) * (c 0 : Int)) = (firstC c : Int) := by rw [IntKind.wrap_u64, hfc.1, ← Int.natCast_mul]; omega
  rw [hr] at HR
  have r0 := ni_r (W := W) (c := c) (i := 0) (v := .int .u64 (c 0 : Int)) rfl
  have r1 := ni_r (W := W) (c := c) (i := 1) (v := .int .u64 (c 1 : Int)) rfl
  have r2 := ni_r (W := W) (c := c) (i := 2) (v := .int .u64 (c 2 : Int)) rfl
  have r3 := ni_r (W := W) (c := c) (i := 3) (v := .int .u64 (c 3 : Int)) rfl
  have r4 := ni_r (W := W) (c := c) (i := 4) (v := .int .u64 (c 4 : Int)) rfl
  have r5 := ni_r (W := W) (c := c) (i := 5) (v := .int .u64 (c 5 : Int)) rfl
  clear hr hc hB hfc
  have HX : Hid (ccells c = #[.int .u64 (c 0 : Int), .int .u64 (c 1 : Int), .int .u64 (c 2 : Int), .int .u64 (c 3 : Int), .int .u64 (c 4 : Int), .int .u64 (c 5 : Int)]) := Lib.hid rfl
  generalize hq : firstC c = fc at *
  rw [HX.out] at N0 HR ⊢
  go_enter Tryz.func6, Tryz.ntmps6
  go_wp2_with fail
  refine (HR.out _).mono ?_
  rintro e w1 ⟨rfl, hb⟩
  have N1 := ni_k N0 hb
  clear N0 hb HR
  go_wp2_with fail
  have N2 := ni_k N1 ((Drawn.drew w1).below _)
  go_region_held3 (fun w' => Hid (NewI W c w'))
    (first | with_reducible exact N2 | with_reducible exact N3 | exact ni_k N3 (al_be _ _))
    (first
      | (go_at_call 26; (with_reducible refine (HY.out _).mono ?_); rintro e w2 ⟨ym, yg, rfl, hd, hb⟩; have N3 := ni_k N2 hb; have D3 := Lib.hid hd; clear hd hb))
  have s2 := N2.out.bel.size
  have s3 := N3.out.bel.size
  have I0 : Hid (NwI W w2.heap.size ym yg #[.int .u64 (c 0 : Int), .int .u64 (c 1 : Int), .int .u64 (c 2 : Int), .int .u64 (c 3 : Int), .int .u64 (c 4 : Int), .int .u64 (c 5 : Int), .int .i64 0, .int .u64 0, .int .u64 0, .int .u64 0, .bool false, .int .u64 0, .slice none 0 0, .pointer (some ⟨ym, 0, none⟩), .int .u64 0, .int .u64 0, .int .u64 0, .int .i64 0, .int .u64 0, .int .u64 0, .int .u64 0, .int .u64 0, .int .u64 0, .int .u64 (fc : Int), .int .u64 0, .int .u64 0] (w2.alloc (.cells #[.int .u64 (c 0 : Int), .int .u64 (c 1 : Int), .int .u64 (c 2 : Int), .int .u64 (c 3 : Int), .int .u64 (c 4 : Int), .int .u64 (c 5 : Int), .int .i64 0, .int .u64 0, .int .u64 0, .int .u64 0, .bool false, .int .u64 0, .slice none 0 0, .pointer (some ⟨ym, 0, none⟩), .int .u64 0, .int .u64 0, .int .u64 0, .int .i64 0, .int .u64 0, .int .u64 0, .int .u64 0, .int .u64 0, .int .u64 0, .int .u64 (fc : Int), .int .u64 0, .int .u64 0] 74))) := Lib.hid
    ⟨Blk.new _ _ _, by
      have q := D3.out.keep (al_be w2 (.cells #[.int .u64 (c 0 : Int), .int .u64 (c 1 : Int), .int .u64 (c 2 : Int), .int .u64 (c 3 : Int), .int .u64 (c 4 : Int), .int .u64 (c 5 : Int), .int .i64 0, .int .u64 0, .int .u64 0, .int .u64 0, .bool false, .int .u64 0, .slice none 0 0, .pointer (some ⟨ym, 0, none⟩), .int .u64 0, .int .u64 0, .int .u64 0, .int .i64 0, .int .u64 0, .int .u64 0, .int .u64 0, .int .u64 0, .int .u64 0, .int .u64 (fc : Int), .int .u64 0, .int .u64 0] 74))
      exact ⟨q.head, Nat.le_trans s2 q.bm, Nat.le_trans s2 q.bg, q.body⟩, bel_to N3.out.bel (al_be _ _) s3, s3⟩
  have N4 := ni_k N3 (al_be w2 (.cells #[.int .u64 (c 0 : Int), .int .u64 (c 1 : Int), .int .u64 (c 2 : Int), .int .u64 (c 3 : Int), .int .u64 (c 4 : Int), .int .u64 (c 5 : Int), .int .i64 0, .int .u64 0, .int .u64 0, .int .u64 0, .bool false, .int .u64 0, .slice none 0 0, .pointer (some ⟨ym, 0, none⟩), .int .u64 0, .int .u64 0, .int .u64 0, .int .i64 0, .int .u64 0, .int .u64 0, .int .u64 0, .int .u64 0, .int .u64 0, .int .u64 (fc : Int), .int .u64 0, .int .u64 0] 74))
  clear N1 N2 N3 D3 HY s2 s3
  generalize w2.alloc (.cells #[.int .u64 (c 0 : Int), .int .u64 (c 1 : Int), .int .u64 (c 2 : Int), .int .u64 (c 3 : Int), .int .u64 (c 4 : Int), .int .u64 (c 5 : Int), .int .i64 0, .int .u64 0, .int .u64 0, .int .u64 0, .bool false, .int .u64 0, .slice none 0 0, .pointer (some ⟨ym, 0, none⟩), .int .u64 0, .int .u64 0, .int .u64 0, .int .i64 0, .int .u64 0, .int .u64 0, .int .u64 0, .int .u64 0, .int .u64 0, .int .u64 (fc : Int), .int .u64 0, .int .u64 0] 74) = w4 at *
  generalize w2.heap.size = n at *
  have c9 := I0.out.blk.cell (i := 9) (v := .int .u64 0) rfl
  have f9 := I0.out.blk.free 9
  have c10 := I0.out.blk.cell (i := 10) (v := .bool false) rfl
  have f10 := I0.out.blk.free 10
  have c11 := I0.out.blk.cell (i := 11) (v := .int .u64 0) rfl
  have f11 := I0.out.blk.free 11
  have c12 := I0.out.blk.cell (i := 12) (v := .slice none 0 0) rfl
  have f12 := I0.out.blk.free 12
  have c18 := I0.out.blk.cell (i := 18) (v := .int .u64 0) rfl
  have f18 := I0.out.blk.free 18
  have c19 := I0.out.blk.cell (i := 19) (v := .int .u64 0) rfl
  have f19 := I0.out.blk.free 19
  have c20 := I0.out.blk.cell (i := 20) (v := .int .u64 0) rfl
  have f20 := I0.out.blk.free 20
  have I1 := Lib.hid (I0.out.set 9 (.int .u64 (c 3 : Int)) (ds := #[.int .u64 (c 0 : Int), .int .u64 (c 1 : Int), .int .u64 (c 2 : Int), .int .u64 (c 3 : Int), .int .u64 (c 4 : Int), .int .u64 (c 5 : Int), .int .i64 0, .int .u64 0, .int .u64 0, .int .u64 (c 3 : Int), .bool false, .int .u64 0, .slice none 0 0, .pointer (some ⟨ym, 0, none⟩), .int .u64 0, .int .u64 0, .int .u64 0, .int .i64 0, .int .u64 0, .int .u64 0, .int .u64 0, .int .u64 0, .int .u64 0, .int .u64 (fc : Int), .int .u64 0, .int .u64 0]) rfl)
  have I2 := Lib.hid (I1.out.set 10 (.bool true) (ds := #[.int .u64 (c 0 : Int), .int .u64 (c 1 : Int), .int .u64 (c 2 : Int), .int .u64 (c 3 : Int), .int .u64 (c 4 : Int), .int .u64 (c 5 : Int), .int .i64 0, .int .u64 0, .int .u64 0, .int .u64 (c 3 : Int), .bool true, .int .u64 0, .slice none 0 0, .pointer (some ⟨ym, 0, none⟩), .int .u64 0, .int .u64 0, .int .u64 0, .int .i64 0, .int .u64 0, .int .u64 0, .int .u64 0, .int .u64 0, .int .u64 0, .int .u64 (fc : Int), .int .u64 0, .int .u64 0]) rfl)
  have I3 := Lib.hid (I2.out.set 11 (.int .u64 0) (ds := #[.int .u64 (c 0 : Int), .int .u64 (c 1 : Int), .int .u64 (c 2 : Int), .int .u64 (c 3 : Int), .int .u64 (c 4 : Int), .int .u64 (c 5 : Int), .int .i64 0, .int .u64 0, .int .u64 0, .int .u64 (c 3 : Int), .bool true, .int .u64 0, .slice none 0 0, .pointer (some ⟨ym, 0, none⟩), .int .u64 0, .int .u64 0, .int .u64 0, .int .i64 0, .int .u64 0, .int .u64 0, .int .u64 0, .int .u64 0, .int .u64 0, .int .u64 (fc : Int), .int .u64 0, .int .u64 0]) rfl)
  have I4 := Lib.hid (I3.out.set 12 (.slice none 0 0) (ds := #[.int .u64 (c 0 : Int), .int .u64 (c 1 : Int), .int .u64 (c 2 : Int), .int .u64 (c 3 : Int), .int .u64 (c 4 : Int), .int .u64 (c 5 : Int), .int .i64 0, .int .u64 0, .int .u64 0, .int .u64 (c 3 : Int), .bool true, .int .u64 0, .slice none 0 0, .pointer (some ⟨ym, 0, none⟩), .int .u64 0, .int .u64 0, .int .u64 0, .int .i64 0, .int .u64 0, .int .u64 0, .int .u64 0, .int .u64 0, .int .u64 0, .int .u64 (fc : Int), .int .u64 0, .int .u64 0]) rfl)
  have I5 := Lib.hid (I4.out.set 18 (.int .u64 18446744073709551615) (ds := #[.int .u64 (c 0 : Int), .int .u64 (c 1 : Int), .int .u64 (c 2 : Int), .int .u64 (c 3 : Int), .int .u64 (c 4 : Int), .int .u64 (c 5 : Int), .int .i64 0, .int .u64 0, .int .u64 0, .int .u64 (c 3 : Int), .bool true, .int .u64 0, .slice none 0 0, .pointer (some ⟨ym, 0, none⟩), .int .u64 0, .int .u64 0, .int .u64 0, .int .i64 0, .int .u64 18446744073709551615, .int .u64 0, .int .u64 0, .int .u64 0, .int .u64 0, .int .u64 (fc : Int), .int .u64 0, .int .u64 0]) rfl)
  have I6 := Lib.hid (I5.out.set 19 (.int .u64 18446744073709551615) (ds := #[.int .u64 (c 0 : Int), .int .u64 (c 1 : Int), .int .u64 (c 2 : Int), .int .u64 (c 3 : Int), .int .u64 (c 4 : Int), .int .u64 (c 5 : Int), .int .i64 0, .int .u64 0, .int .u64 0, .int .u64 (c 3 : Int), .bool true, .int .u64 0, .slice none 0 0, .pointer (some ⟨ym, 0, none⟩), .int .u64 0, .int .u64 0, .int .u64 0, .int .i64 0, .int .u64 18446744073709551615, .int .u64 18446744073709551615, .int .u64 0, .int .u64 0, .int .u64 0, .int .u64 (fc : Int), .int .u64 0, .int .u64 0]) rfl)
  have I7 := Lib.hid (I6.out.set 20 (.int .u64 18446744073709551615) (ds := #[.int .u64 (c 0 : Int), .int .u64 (c 1 : Int), .int .u64 (c 2 : Int), .int .u64 (c 3 : Int), .int .u64 (c 4 : Int), .int .u64 (c 5 : Int), .int .i64 0, .int .u64 0, .int .u64 0, .int .u64 (c 3 : Int), .bool true, .int .u64 0, .slice none 0 0, .pointer (some ⟨ym, 0, none⟩), .int .u64 0, .int .u64 0, .int .u64 0, .int .i64 0, .int .u64 18446744073709551615, .int .u64 18446744073709551615, .int .u64 18446744073709551615, .int .u64 0, .int .u64 0, .int .u64 (fc : Int), .int .u64 0, .int .u64 0]) rfl)
  clear I0 I1 I2 I3 I4 I5 I6
  go_wp2_with fail
  go_ret2
  subst hq
  obtain ⟨arr, h1, h2, h3, h4, h5⟩ := I7.out.cy.body
  exact ⟨⟨n, ym⟩, rfl, ⟨.slice none 0 0, [], [], [], yg, 1, I7.out.blk, RL.nil _ _, Inv.new (c 3) true, rfl, Nat.le_refl _, ⟨I7.out.cy.head, Nat.le_trans HB.out I7.out.cy.bm, Nat.le_trans HB.out I7.out.cy.bg, arr, h1, h2, h3, h4, h5⟩, rfl, Nat.le_refl _, fun l hl => by (simp at hl; subst hl; exact Nat.le_refl _), Nat.le_trans HB.out I7.out.lo⟩, I7.out.bel⟩

theorem rz_New_no (c : Setup) (hr : rightC c = false) (W : World) :
    Calls Tryz.prog 6 #[.agg (ccells c)] W fun e w' => e = .returned (.tuple #[.pointer none, .bool false]) ∧ Below W.heap.size W w' := by
  have HR := Lib.hid (fun w => ref_Right c w)
  have N0 : Hid (NewI W c (W.alloc (.cells (ccells c) 24))) := Lib.hid ⟨Blk.new W _ _, al_be _ _⟩
  rw [hr] at HR
  clear hr
  have HX : Hid (ccells c = #[.int .u64 (c 0 : Int), .int .u64 (c 1 : Int), .int .u64 (c 2 : Int), .int .u64 (c 3 : Int), .int .u64 (c 4 : Int), .int .u64 (c 5 : Int)]) := Lib.hid rfl
  rw [HX.out] at N0 HR ⊢
  go_enter Tryz.func6, Tryz.ntmps6
  go_wp2_with fail
  refine (HR.out _).mono ?_
  rintro e w1 ⟨rfl, hb⟩
  have N1 := ni_k N0 hb
  clear N0 hb HR
  go_wp2_with fail
  go_ret2
  exact ⟨rfl, N1.out.bel⟩

theorem al2 (w : World) (p q : Obj) : Below w.heap.size w ((w.alloc p).alloc q) := ((Below.refl _ _).alloc (Nat.le_refl _) _).alloc (by simp) _
set_option maxHeartbeats 1000000 in
theorem law_of15 (x : EvS) (w : World) :
    Calls Tryz.prog 10 #[x.val] w fun e w' => e = .returned x.val ∧ Below w.heap.size w w' := by
  obtain ⟨now, sd, si, sr, rt, sl, sm, dl, ac, lo, fl⟩ := x
  unfold EvS.val EvS.cells
  dsimp only
  go_enter Tryz.func10, Tryz.ntmps10
  go_wp2_with fail
  exact bodyPost_ret (results_cell rfl _ _ (w.heap.size + 1) 41 _ _ rfl (Blk.new1 w _ _ _) Tryz.underlying41 rfl (by kernel_rfl)) rfl ⟨rfl, al2 _ _ _⟩
theorem law_bounds15 (b : BS) (w : World) :
    Calls Tryz.prog 31 #[.agg b.cells] w fun e w' => e = .returned (.agg b.cells) ∧ Below w.heap.size w w' := by
  obtain ⟨hi, lo, bw⟩ := b
  unfold BS.cells
  dsimp only
  go_enter Tryz.func31, Tryz.ntmps31
  go_wp2_with fail
  exact bodyPost_ret (results_cell rfl _ _ (w.heap.size + 1) 72 _ _ rfl (Blk.new1 w _ _ _) Tryz.underlying72 rfl (by kernel_rfl)) rfl ⟨rfl, al2 _ _ _⟩
theorem eq_ref15 (b : BS) (w : World) : (Op.equalIn 10000 72 (.agg #[.int .u64 (b.hi : Int), .int .u64 (b.lo : Int), .int .u64 (b.bw : Int)]) (.agg #[.int .u64 (b.hi : Int), .int .u64 (b.lo : Int), .int .u64 (b.bw : Int)])).run Tryz.prog w = .ok true w := by
  have u := Tryz.underlying22
  have ag := Tryz.isAgg22
  have z := Tryz.sizeOf22
  have hS : Tryz.prog.underlying 72 = some (.struct (Tryz.prog.fieldsOf 72)) := by kernel_rfl
  have hp : Tryz.prog.stoodInHeld 72 = false := by kernel_rfl
  rw [show (10000 : Nat) = 9999 + 1 from rfl, run_equalIn_struct w 9999 72 _ _ hS hp]
  simp only [Program.fieldsOf, Tryz.underlying72]
  go_simp

/-- Both engines, while they are read. -/
structure BothI (W : World) (B : Nat) (P : EP) (Q : QP) (s : ES) (k : Nat) (w : World) : Prop where
  a : EngAt w B P s
  r : RefAt w B Q s k
  bel : Below W.heap.size W w
theorem bo_k {W w w' : World} {B k : Nat} {P : EP} {Q : QP} {s : ES} (h : Hid (BothI W B P Q s k w)) (q : Below w.heap.size w w') : Hid (BothI W B P Q s k w') := Lib.hid ⟨h.out.a.keep q, h.out.r.keep q, bel_to h.out.bel q h.out.bel.size⟩
theorem bo_r {W : World} {B k : Nat} {P : EP} {Q : QP} {s : ES} {i : Nat} {u : Value} (hu : ∀ v, (rcells Q s v)[i]? = some u) : ∀ w, Hid (BothI W B P Q s k w) → w.cell? ⟨Q.m, i, none⟩ = some u := fun w q => q.out.r.cell hu

set_option maxHeartbeats 4000000 in
set_option maxRecDepth 100000 in
theorem law_Same {B k j : Nat} {P : EP} {Q : QP} {s : ES} (W : World) (h : EngAt W B P s) (q : RefAt W B Q s k) (ho : s.ok j) (hk : k ≤ 900) (hr : rightC s.c = true) :
    Calls Tryz.prog 7 #[.pointer (some ⟨P.b, 0, none⟩), .pointer (some ⟨Q.m, 0, none⟩)] W fun e w' => e = .returned (.bool true) ∧ Below W.heap.size W w' := by
  have EState := Lib.hid (fun w h => en_State (B := B) (P := P) (s := s) w h)
  have ECwnd := Lib.hid (fun w h => en_Cwnd (B := B) (P := P) (s := s) w h)
  have EPace := Lib.hid (fun w h => en_Pace (B := B) (P := P) (s := s) w h ho)
  have EQuantum := Lib.hid (fun w h => en_Quantum (B := B) (P := P) (s := s) w h ho)
  have ELeast := Lib.hid (fun w h => en_Least (B := B) (P := P) (s := s) w h)
  have EBest := Lib.hid (fun w h => en_Best (B := B) (P := P) (s := s) w h ho)
  have ELimits := Lib.hid (fun w h => en_Limits (B := B) (P := P) (s := s) w h)
  have RPace := Lib.hid (fun w h => rz_Pace (B := B) (k := k) (Q := Q) (s := s) w h ho hk hr)
  have RQuantum := Lib.hid (fun w h => rz_Quantum (B := B) (k := k) (Q := Q) (s := s) w h ho hk hr)
  have RLeast := Lib.hid (fun w h => rz_Least (B := B) (k := k) (Q := Q) (s := s) w h ho hk)
  have RBest := Lib.hid (fun w h => rz_Best (B := B) (k := k) (Q := Q) (s := s) w h ho hk hr)
  have HBo := Lib.hid (fun w => law_bounds15 s.bs w)
  have heq := eq_ref15 s.bs
  have I0 : Hid (BothI W B P Q s k W.drew) := bo_k (Lib.hid ⟨h, q, Below.refl _ _⟩) ((Drawn.drew W).below _)
  have q6 := bo_r (W := W) (B := B) (k := k) (P := P) (Q := Q) (s := s) (i := 6) (u := .int .i64 s.st) (fun _ => rfl)
  have q23 := bo_r (W := W) (B := B) (k := k) (P := P) (Q := Q) (s := s) (i := 23) (u := .int .u64 (s.cwnd : Int)) (fun _ => rfl)
  have q18 := bo_r (W := W) (B := B) (k := k) (P := P) (Q := Q) (s := s) (i := 18) (u := .int .u64 (s.bs.hi : Int)) (fun _ => rfl)
  have q19 := bo_r (W := W) (B := B) (k := k) (P := P) (Q := Q) (s := s) (i := 19) (u := .int .u64 (s.bs.lo : Int)) (fun _ => rfl)
  have q20 := bo_r (W := W) (B := B) (k := k) (P := P) (Q := Q) (s := s) (i := 20) (u := .int .u64 (s.bs.bw : Int)) (fun _ => rfl)
  clear h q ho hr
  simp only [BS.cells] at HBo ELimits
  generalize s.pace = pa at *
  generalize s.quant = qu at *
  generalize s.trip = tr at *
  generalize s.rate = ra at *
  go_enter Tryz.func7, Tryz.ntmps7
  go_wp2_with fail
  go_region_held3 (fun w' => Hid (BothI W B P Q s k w'))
    (first | with_reducible exact I0 | with_reducible exact bo_k (by assumption) hb)
    (first
      | (go_at_call 12; (with_reducible refine (EState.out _ (Hid.out (by assumption) : BothI W B P Q s k _).a).mono ?_); rintro e w' ⟨rfl, hb⟩)
      | (go_at_call 13; (with_reducible refine (ECwnd.out _ (Hid.out (by assumption) : BothI W B P Q s k _).a).mono ?_); rintro e w' ⟨rfl, hb⟩)
      | (go_at_call 16; (with_reducible refine (EPace.out _ (Hid.out (by assumption) : BothI W B P Q s k _).a).mono ?_); rintro e w' ⟨rfl, hb⟩)
      | (go_at_call 17; (with_reducible refine (EQuantum.out _ (Hid.out (by assumption) : BothI W B P Q s k _).a).mono ?_); rintro e w' ⟨rfl, hb⟩)
      | (go_at_call 15; (with_reducible refine (ELeast.out _ (Hid.out (by assumption) : BothI W B P Q s k _).a).mono ?_); rintro e w' ⟨rfl, hb⟩)
      | (go_at_call 14; (with_reducible refine (EBest.out _ (Hid.out (by assumption) : BothI W B P Q s k _).a).mono ?_); rintro e w' ⟨rfl, hb⟩)
      | (go_at_call 32; (with_reducible refine (ELimits.out _ (Hid.out (by assumption) : BothI W B P Q s k _).a).mono ?_); rintro e w' ⟨rfl, hb⟩)
      | (go_at_call 27; (with_reducible refine (RPace.out _ (Hid.out (by assumption) : BothI W B P Q s k _).r).mono ?_); rintro e w' ⟨rfl, hb⟩)
      | (go_at_call 28; (with_reducible refine (RQuantum.out _ (Hid.out (by assumption) : BothI W B P Q s k _).r).mono ?_); rintro e w' ⟨rfl, hb⟩)
      | (go_at_call 29; (with_reducible refine (RLeast.out _ (Hid.out (by assumption) : BothI W B P Q s k _).r).mono ?_); rintro e w' ⟨rfl, hb⟩)
      | (go_at_call 30; (with_reducible refine (RBest.out _ (Hid.out (by assumption) : BothI W B P Q s k _).r).mono ?_); rintro e w' ⟨rfl, hb⟩)
      | (go_at_call 31; (with_reducible refine (HBo.out _).mono ?_); rintro e w' ⟨rfl, hb⟩))
  have I9 : Hid (BothI W B P Q s k w') := by assumption
  go_wp2_with fail
  go_ret
  exact ⟨rfl, I9.out.bel⟩
end Go.Proofs.YtpkbjfhicocogaaGreatDoor
