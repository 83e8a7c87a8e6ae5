/- 1 texts put together: what each one says stands ahead of it. -/
import Derived.Test.YtpkbjfhicocogaaGreatDoorKPlays26
import Derived.Test.YtpkbjfhicocogaaGreatDoorKPlays27
import Derived.Deep.DeepCutAuto
/- The document's engine over this translation: step 5. -/
set_option linter.unusedVariables false
namespace Go.Proofs.YtpkbjfhicocogaaGreatDoor
open Go.RowKit Cf

theorem RefAt.kr {w w' : World} {B k : Nat} {Q : QP} {s : ES} (h : RefAt w B Q s k) (q : ∀ T, T ∈ rtypes → ∀ b cs, Blk w b T cs → Blk w' b T cs) : RefAt w' B Q s k := by
  obtain ⟨v, A, K, cur, g, cap, h⟩ := h.x
  refine ⟨v, A, K, cur, g, cap, q _ (by decide) _ _ h.head, h.row.same (fun g cs _ hb => ?_), h.inv, h.ls, h.an, ?_, h.yo, h.kn, h.rn, h.own⟩
  · have := q _ (by decide) _ _ hb
    unfold Blk at this hb
    rw [this, hb]
  · obtain ⟨arr, h1, h2, h3, h4, h5⟩ := h.cy.body
    exact ⟨q _ (by decide) _ _ h.cy.head, h.cy.bm, h.cy.bg, arr, q _ (by decide) _ _ h1, h2, h3, h4, h5.keep (fun b cs hb => q _ (by decide) _ _ hb)⟩
theorem Blk.zrow {w : World} {g : Nat} {T : TypeId} {old : Array Value} (h : Blk w g T old) (cs : Array Value) : Blk (w.setRow g cs) g T cs := setRow_heap w g old cs T (0, 0) h
theorem Blk.zrow_other {w : World} {b g : Nat} {T : TypeId} {cs : Array Value} (h : Blk w b T cs) (hne : b ≠ g) (ds : Array Value) : Blk (w.setRow g ds) b T cs := (setRow_other w g b ds hne).trans h
/-- A signal of the call's own: its block, and what it holds. -/
structure SgAt (W : World) (n : Nat) (cs : Array Value) (w : World) : Prop where
  blk : Blk w n 81 cs
  lo : W.heap.size < n
theorem SgAt.keep {W w w' : World} {n : Nat} {cs : Array Value} (h : SgAt W n cs w) (q : Below w.heap.size w w') : SgAt W n cs w' := ⟨h.blk.keep q, h.lo⟩
theorem SgAt.new {W w : World} {B k : Nat} {Q : QP} {s : ES} {x : EvS} (h : RMut W B Q s k x w) (cs : Array Value) : SgAt W w.heap.size cs (w.alloc (.cells cs 81)) := ⟨Blk.new _ _ _, h.ev.lt⟩
theorem RMut.row {W w : World} {B k n : Nat} {Q : QP} {s : ES} {x : EvS} {old : Array Value} (h : RMut W B Q s k x w) (g : SgAt W n old w) (hB : B ≤ W.heap.size) (cs : Array Value) : RMut W B Q s k x (w.setRow n cs) :=
  ⟨h.at_.kr (fun T hT b ds q => q.zrow_other (q.ty g.blk (fun e => absurd (e ▸ hT) (by decide))) cs), below_setRow h.bel (Nat.le_trans hB (Nat.le_of_lt g.lo)) cs,
   fun T hT b ds q => (h.kq T hT b ds q).zrow_other (Nat.ne_of_lt (Nat.lt_trans q.lt g.lo)) cs, h.ev.zrow_other (Nat.ne_of_lt g.lo) cs⟩
theorem RMut.sg {W w : World} {B k n : Nat} {Q : QP} {s : ES} {x : EvS} {old : Array Value} (h : RMut W B Q s k x w) (g : SgAt W n old w) (hB : B ≤ W.heap.size) (i : Nat) (u : Value) : RMut W B Q s k x (w.setCell ⟨n, i, none⟩ u) :=
  ⟨h.at_.kr (fun T hT b ds q => q.set_other i u (q.ty g.blk (fun e => absurd (e ▸ hT) (by decide)))), h.bel.setCell (p := ⟨n, i, none⟩) (Nat.le_trans hB (Nat.le_of_lt g.lo)) u,
   fun T hT b ds q => (h.kq T hT b ds q).set_other i u (Nat.ne_of_lt (Nat.lt_trans q.lt g.lo)), h.ev.set_other i u (Nat.ne_of_lt g.lo)⟩
theorem SgAt.set {W w : World} {n : Nat} {cs ds : Array Value} (h : SgAt W n cs w) (i : Nat) (u : Value) (e : cs.setIfInBounds i u = ds) : SgAt W n ds (w.setCell ⟨n, i, none⟩ u) := ⟨e ▸ h.blk.set i u, h.lo⟩
/-- What holds when the signal is made. -/
structure TuI (W : World) (B : Nat) (Q : QP) (s : ES) (k : Nat) (x : EvS) (n : Nat) (cs : Array Value) (w : World) : Prop where
  m : RMut W B Q s k x w
  g : SgAt W n cs w
theorem tu_k {W w w' : World} {B k n : Nat} {Q : QP} {s : ES} {x : EvS} {cs : Array Value} (h : Hid (TuI W B Q s k x n cs w)) (q : Below w.heap.size w w') : Hid (TuI W B Q s k x n cs w') := Lib.hid ⟨h.out.m.to q, h.out.g.keep q⟩
theorem tu_g {W : World} {B k n : Nat} {Q : QP} {s : ES} {x : EvS} {cs : Array Value} {i : Nat} {v : Value} (hv : cs[i]? = some v) : ∀ w, Hid (TuI W B Q s k x n cs w) → w.cell? ⟨n, i, none⟩ = some v := fun w q => q.out.g.blk.cell hv
theorem tu_m {W : World} {B k n : Nat} {Q : QP} {s : ES} {x : EvS} {cs : Array Value} : ∀ w, Hid (TuI W B Q s k x n cs w) → Hid (RMut W B Q s k x w) := fun w q => Lib.hid q.out.m

set_option maxHeartbeats 8000000 in
set_option maxRecDepth 100000 in
theorem rz_turn {B k j : Nat} {Q : QP} {s : ES} (x : EvS) (hx : x.ok) (ov lo : Bool) (W : World) (h : RefAt W B Q s k) (ho : s.ok j) (hk : k ≤ 899) (hr : rightC s.c = true) :
    Calls Tryz.prog 48 #[.pointer (some ⟨Q.m, 0, none⟩), x.val, .bool ov, .bool lo] W (RPost B Q (.returned (.tuple #[])) (s.turn x.now (nextS s.st (s.sig x ov lo))) (k + 1) W) := by
  have HHo := Lib.hid (fun w h => rz_holds (B := B) (k := k) (Q := Q) (s := s) w h ho (by omega) hr)
  have HRo := Lib.hid (fun w => rb_Room s.bs w ho.bs)
  have HSt := Lib.hid (fun w h => rz_stale (B := B) (k := k) (Q := Q) (s := s) x.now hx.now w h ho (by omega) hr)
  have HSu := Lib.hid (fun w => rs_Sub x.now s.began w hx.now)
  have HWa : Hid (∀ w, Calls Tryz.prog 103 #[.int .i64 s.st, .int .u64 (s.y.n : Int), .int .u64 (s.c 4 : Int)] w fun e w' => e = .returned (.int .u64 ((waitS s.st s.y.n (s.c 4) : Nat) : Int)) ∧ w = w') := Lib.hid (fun w => (rf_Wait s.st s.y.n (s.c 4) w ho.yn).mono fun e w' q => ⟨q.1, q.2.symm⟩)
  have HNe := Lib.hid (fun w => rf_Next s.st (s.sig x ov lo) (ES.sig_ok ho hx ov lo) w)
  have HCe : Hid ((s.sig x ov lo).cells = #[.bool s.p.full, .bool ov, .bool lo, .bool (s.stale x.now), .int .u64 (x.fl : Int), .int .u64 (s.holds : Int), .int .u64 (s.bs.room : Int), .int .u64 (s.rounds : Int), .int .u64 ((Pl.subS x.now s.began : Nat) : Int), .int .u64 ((waitS s.st s.y.n (s.c 4) : Nat) : Int)]) := Lib.hid rfl
  rw [HCe.out] at HNe
  have hfu : decide ((3 : Int) ≤ (s.p.n : Int)) = s.p.full := by unfold Pi.full; exact decide_eq_decide.2 (by omega)
  have HB := Lib.hid h.size
  have HS6 : Hid (s.st = 6 → nextS s.st (s.sig x ov lo) = s.st ∨ nextS s.st (s.sig x ov lo) = 3 ∨ nextS s.st (s.sig x ov lo) = 0) := Lib.hid (fun e => by
    have := (next_follows s.st (s.sig x ov lo)).1
    rw [e] at this ⊢
    unfold followsS at this
    by_cases c : (6 : Int) = nextS 6 (s.sig x ov lo)
    · exact Or.inl c.symm
    · rw [if_neg c] at this
      have h2 : ((6 : Int), nextS 6 (s.sig x ov lo)) ∈ arrowsL := by simpa [rightI] using this
      simp [arrowsL] at h2
      exact Or.inr h2)
  have HK := Lib.hid hk
  have M0 := Lib.hid (RMut.start h x)
  have q17 := rm_e (W := W) (B := B) (k := k) (Q := Q) (s := s) (x := x) (i := 17) (u := .int .i64 (s.p.n : Int)) (fun _ => rfl)
  have q18 := rm_e (W := W) (B := B) (k := k) (Q := Q) (s := s) (x := x) (i := 18) (u := .int .u64 (s.bs.hi : Int)) (fun _ => rfl)
  have q19 := rm_e (W := W) (B := B) (k := k) (Q := Q) (s := s) (x := x) (i := 19) (u := .int .u64 (s.bs.lo : Int)) (fun _ => rfl)
  have q20 := rm_e (W := W) (B := B) (k := k) (Q := Q) (s := s) (x := x) (i := 20) (u := .int .u64 (s.bs.bw : Int)) (fun _ => rfl)
  have q8 := rm_e (W := W) (B := B) (k := k) (Q := Q) (s := s) (x := x) (i := 8) (u := .int .u64 (s.rounds : Int)) (fun _ => rfl)
  have q7 := rm_e (W := W) (B := B) (k := k) (Q := Q) (s := s) (x := x) (i := 7) (u := .int .u64 (s.began : Int)) (fun _ => rfl)
  have q6 := rm_e (W := W) (B := B) (k := k) (Q := Q) (s := s) (x := x) (i := 6) (u := .int .i64 s.st) (fun _ => rfl)
  have q4 := rm_e (W := W) (B := B) (k := k) (Q := Q) (s := s) (x := x) (i := 4) (u := .int .u64 (s.c 4 : Int)) (fun _ => rfl)
  have q13 := rm_e (W := W) (B := B) (k := k) (Q := Q) (s := s) (x := x) (i := 13) (u := .pointer (some ⟨Q.y, 0, none⟩)) (fun _ => rfl)
  have v0 := rm_ev (W := W) (B := B) (k := k) (Q := Q) (s := s) (x := x) (i := 0) (u := .int .u64 (x.now : Int)) rfl
  have v10 := rm_ev (W := W) (B := B) (k := k) (Q := Q) (s := s) (x := x) (i := 10) (u := .int .u64 (x.fl : Int)) rfl
  clear h ho hx hr
  unfold EvS.val
  have HE : Hid (x.cells = #[.int .u64 (x.now : Int), .int .u64 (x.sd : Int), .int .u64 (x.si : Int), .int .u64 (x.sr : Int), .int .u64 (x.rt : Int), .bool x.sl, .bool x.sm, .int .u64 (x.dl : Int), .int .u64 (x.ac : Int), .int .u64 (x.lo : Int), .int .u64 (x.fl : Int)]) := Lib.hid rfl
  rw [HE.out] at M0 ⊢
  generalize hT : nextS s.st (s.sig x ov lo) = t at *
  clear hT HCe
  generalize waitS s.st s.y.n (s.c 4) = wt at *
  generalize Pl.subS x.now s.began = el at *
  generalize s.bs.room = ro at *
  generalize s.holds = ho_ at *
  generalize s.stale x.now = sa at *
  generalize s.p.full = fu at *
  simp only [BS.cells] at HRo
  go_enter Tryz.func48, Tryz.ntmps48
  go_upto_region 1 with fail
  generalize W.alloc (.cells #[.int .u64 (x.now : Int), .int .u64 (x.sd : Int), .int .u64 (x.si : Int), .int .u64 (x.sr : Int), .int .u64 (x.rt : Int), .bool x.sl, .bool x.sm, .int .u64 (x.dl : Int), .int .u64 (x.ac : Int), .int .u64 (x.lo : Int), .int .u64 (x.fl : Int)] 41) = w0 at *
  have M1 := Lib.hid M0.out.drew
  go_cut [8] from 10 to 31 (fun v wx => ∃ n, v = .pointer (some ⟨n, 0, none⟩) ∧ SgAt W n #[.bool fu, .bool ov, .bool lo, .bool false, .int .u64 (x.fl : Int), .int .u64 (ho_ : Int), .int .u64 (ro : Int), .int .u64 (s.rounds : Int), .int .u64 0, .int .u64 0] wx ∧ RMut W B Q s k x wx)
  case first =>
    refine wp_region_held_drew (S := (fun w' => Hid (RMut W B Q s k x w'))) (by kernel_rfl) M1 (fun hHeld => ?_)
    simp only [List.size_toArray, List.length_cons, List.length_nil, Nat.reduceAdd, Array.replicate_succ, Array.replicate_zero, List.push_toArray, List.nil_append, List.cons_append]
    refine wpAnyH_take (i := 0) (oi := ⟨some 10, _, _, _, _, _⟩) (v := ?v1) rfl (by kernel_rfl) (by kernel_rfl) (by kernel_rfl) (fun _ _ _ h => h) (Or.inl ⟨by rfl, ?y1⟩) (by assumption) ?r1
    case y1 => intro w hSw; clear hSw; go_simp; (try with_reducible rfl)
    simp only [Act.put, List.setIfInBounds_toArray, List.set_cons_zero, List.set_cons_succ]
    refine wpAnyH_take (i := 1) (oi := ⟨some 11, _, _, _, _, _⟩) (v := ?v2) rfl (by kernel_rfl) (by kernel_rfl) (by kernel_rfl) (fun _ _ _ h => h) (Or.inl ⟨by rfl, ?y2⟩) (by assumption) ?r2
    case y2 => intro w hSw; clear hSw; go_simp; (try with_reducible rfl)
    simp only [Act.put, List.setIfInBounds_toArray, List.set_cons_zero, List.set_cons_succ]
    refine wpAnyH_take (i := 2) (oi := ⟨some 12, _, _, _, _, _⟩) (v := ?v3) rfl (by kernel_rfl) (by kernel_rfl) (by kernel_rfl) (fun _ _ _ h => h) (Or.inl ⟨by rfl, ?y3⟩) (by assumption) ?r3
    case y3 => intro w hSw; clear hSw; go_simp; (try with_reducible rfl)
    simp only [Act.put, List.setIfInBounds_toArray, List.set_cons_zero, List.set_cons_succ]
    refine wpAnyH_take (i := 3) (oi := ⟨some 13, _, _, _, _, _⟩) (v := ?v4) rfl (by kernel_rfl) (by kernel_rfl) (by kernel_rfl) (fun _ _ _ h => h) (Or.inl ⟨by rfl, ?y4⟩) (by assumption) ?r4
    case y4 => intro w hSw; clear hSw; go_simp; (try with_reducible rfl)
    simp only [Act.put, List.setIfInBounds_toArray, List.set_cons_zero, List.set_cons_succ]
    refine wpAnyH_take (i := 4) (oi := ⟨some 14, _, _, _, _, _⟩) (v := ?v5) rfl (by kernel_rfl) (by kernel_rfl) (by kernel_rfl) (fun _ _ _ h => h) (Or.inl ⟨by rfl, ?y5⟩) (by assumption) ?r5
    case y5 => intro w hSw; skip; go_simp; (try with_reducible rfl)
    simp only [Act.put, List.setIfInBounds_toArray, List.set_cons_zero, List.set_cons_succ]
    refine wpAnyH_take (i := 5) (oi := ⟨some 15, _, _, _, _, _⟩) (v := ?v6) rfl (by kernel_rfl) (by kernel_rfl) (by kernel_rfl) (fun _ _ _ h => h) (Or.inl ⟨by rfl, ?y6⟩) (by assumption) ?r6
    case y6 => intro w hSw; clear hSw; go_simp; (try with_reducible rfl)
    simp only [Act.put, List.setIfInBounds_toArray, List.set_cons_zero, List.set_cons_succ]
    refine wpAnyH_take (i := 6) (oi := ⟨some 16, _, _, _, _, _⟩) (v := ?v7) rfl (by kernel_rfl) (by kernel_rfl) (by kernel_rfl) (fun _ _ _ h => h) (Or.inl ⟨by rfl, ?y7⟩) (by assumption) ?r7
    case y7 => intro w hSw; clear hSw; go_simp; (try with_reducible rfl)
    simp only [Act.put, List.setIfInBounds_toArray, List.set_cons_zero, List.set_cons_succ]
    refine wpAnyH_take (i := 7) (oi := ⟨some 17, _, _, _, _, _⟩) (v := ?v8) rfl (by kernel_rfl) (by kernel_rfl) (by kernel_rfl) (fun _ _ _ h => h) (Or.inl ⟨by rfl, ?y8⟩) (by assumption) ?r8
    case y8 => intro w hSw; clear hSw; go_simp; (try with_reducible rfl)
    simp only [Act.put, List.setIfInBounds_toArray, List.set_cons_zero, List.set_cons_succ]
    refine wpAnyH_take (i := 8) (oi := ⟨some 18, _, _, _, _, _⟩) (v := ?v9) rfl (by kernel_rfl) (by kernel_rfl) (by kernel_rfl) (fun _ _ _ h => h) (Or.inl ⟨by rfl, ?y9⟩) (by assumption) ?r9
    case y9 => intro w hSw; clear hSw; go_simp; (try with_reducible rfl)
    simp only [Act.put, List.setIfInBounds_toArray, List.set_cons_zero, List.set_cons_succ]
    refine wpAnyH_take (i := 9) (oi := ⟨some 19, _, _, _, _, _⟩) (v := ?v10) rfl (by kernel_rfl) (by kernel_rfl) (by kernel_rfl) (fun _ _ _ h => h) (Or.inl ⟨by rfl, ?y10⟩) (by assumption) ?r10
    case y10 => intro w hSw; skip; go_simp; (try with_reducible rfl)
    simp only [Act.put, List.setIfInBounds_toArray, List.set_cons_zero, List.set_cons_succ]
    refine wpAnyH_take (i := 10) (oi := ⟨some 20, _, _, _, _, _⟩) (v := ?v11) rfl (by kernel_rfl) (by kernel_rfl) (by kernel_rfl) (fun _ _ _ h => h) (Or.inl ⟨by rfl, ?y11⟩) (by assumption) ?r11
    case y11 => intro w hSw; clear hSw; go_simp; (try with_reducible rfl)
    simp only [Act.put, List.setIfInBounds_toArray, List.set_cons_zero, List.set_cons_succ]
    refine wpAnyH_take (i := 12) (oi := ⟨some 22, _, _, _, _, _⟩) (v := ?v12) rfl (by kernel_rfl) (by kernel_rfl) (by kernel_rfl) (fun _ _ _ h => h) (Or.inl ⟨by rfl, ?y12⟩) (by assumption) ?r12
    case y12 => intro w hSw; clear hSw; go_simp; (try with_reducible rfl)
    simp only [Act.put, List.setIfInBounds_toArray, List.set_cons_zero, List.set_cons_succ]
    refine wpAnyH_take (i := 13) (oi := ⟨some 23, _, _, _, _, _⟩) (v := ?v13) rfl (by kernel_rfl) (by kernel_rfl) (by kernel_rfl) (fun _ _ _ h => h) (Or.inl ⟨by rfl, ?y13⟩) (by assumption) ?r13
    case y13 => intro w hSw; clear hSw; go_simp; (try with_reducible rfl)
    simp only [Act.put, List.setIfInBounds_toArray, List.set_cons_zero, List.set_cons_succ]
    refine wpAnyH_take (i := 14) (oi := ⟨some 24, _, _, _, _, _⟩) (v := ?v14) rfl (by kernel_rfl) (by kernel_rfl) (by kernel_rfl) (fun _ _ _ h => h) (Or.inl ⟨by rfl, ?y14⟩) (by assumption) ?r14
    case y14 => intro w hSw; clear hSw; go_simp; (try with_reducible rfl)
    simp only [Act.put, List.setIfInBounds_toArray, List.set_cons_zero, List.set_cons_succ]
    refine wpAnyH_take (i := 15) (oi := ⟨some 25, _, _, _, _, _⟩) (v := ?v15) rfl (by kernel_rfl) (by kernel_rfl) (by kernel_rfl) (fun _ _ _ h => h) (Or.inl ⟨by rfl, ?y15⟩) (by assumption) ?r15
    case y15 => intro w hSw; skip; go_simp; (try with_reducible rfl)
    simp only [Act.put, List.setIfInBounds_toArray, List.set_cons_zero, List.set_cons_succ]
    refine wpAnyH_take (i := 17) (oi := ⟨some 27, _, _, _, _, _⟩) (v := ?v16) rfl (by kernel_rfl) (by kernel_rfl) (by kernel_rfl) (fun _ _ _ h => h) (Or.inl ⟨by rfl, ?y16⟩) (by assumption) ?r16
    case y16 => intro w hSw; clear hSw; go_simp; (try with_reducible rfl)
    simp only [Act.put, List.setIfInBounds_toArray, List.set_cons_zero, List.set_cons_succ]
    refine wpAnyH_take (i := 18) (oi := ⟨some 28, _, _, _, _, _⟩) (v := ?v17) rfl (by kernel_rfl) (by kernel_rfl) (by kernel_rfl) (fun _ _ _ h => h) (Or.inl ⟨by rfl, ?y17⟩) (by assumption) ?r17
    case y17 => intro w hSw; clear hSw; go_simp; (try with_reducible rfl)
    simp only [Act.put, List.setIfInBounds_toArray, List.set_cons_zero, List.set_cons_succ]
    refine wpAnyH_take (i := 19) (oi := ⟨some 29, _, _, _, _, _⟩) (v := ?v18) rfl (by kernel_rfl) (by kernel_rfl) (by kernel_rfl) (fun _ _ _ h => h) (Or.inl ⟨by rfl, ?y18⟩) (by assumption) ?r18
    case y18 => intro w hSw; clear hSw; go_simp; (try with_reducible rfl)
    simp only [Act.put, List.setIfInBounds_toArray, List.set_cons_zero, List.set_cons_succ]
    refine wpAnyH_take (i := 20) (oi := ⟨some 30, _, _, _, _, _⟩) (v := ?v19) rfl (by kernel_rfl) (by kernel_rfl) (by kernel_rfl) (fun _ _ _ h => h) (Or.inl ⟨by rfl, ?y19⟩) (by assumption) ?r19
    case y19 => intro w hSw; skip; go_simp; (try with_reducible rfl)
    simp only [Act.put, List.setIfInBounds_toArray, List.set_cons_zero, List.set_cons_succ]
    refine wpAnyH_ready (rs := [11, 22]) (by kernel_rfl) (by simp) ?_
    refine AllReadyH.cons (o := ⟨some 21, _, _, _, _, _⟩) rfl (fun K hK => ?_) ?_
    · go_simp
      refine (HHo.out _ (Hid.out (by assumption) : RMut W B Q s k x _).at_).mono ?_
      rintro e w1 ⟨rfl, hb⟩
      (first | have sg := Lib.hid (sg.out.keep hb) | skip)
      go_wp2_with fail
      refine hK.out _ _ (rmk hHeld hb) (fun hHeld => ?_)
      clear hK
      try simp only [List.setIfInBounds_toArray, List.set_cons_zero, List.set_cons_succ]
      refine wpAnyH_ready (rs := [16, 22]) (by kernel_rfl) (by simp) ?_
      refine AllReadyH.cons (o := ⟨some 26, _, _, _, _, _⟩) rfl (fun K hK => ?_) ?_
      · go_simp
        refine (HRo.out _).mono ?_
        rintro e w1 ⟨rfl, hb⟩
        (first | have sg := Lib.hid (sg.out.keep hb) | skip)
        go_wp2_with fail
        refine hK.out _ _ (rmk hHeld hb) (fun hHeld => ?_)
        clear hK
        try simp only [List.setIfInBounds_toArray, List.set_cons_zero, List.set_cons_succ]
        refine wpAnyH_take (i := 21) (oi := ⟨some 31, _, _, _, _, _⟩) (v := ?v20) rfl (by kernel_rfl) (by kernel_rfl) (by kernel_rfl) (fun _ _ _ h => h) (Or.inl ⟨by rfl, ?y20⟩) (by assumption) ?r20
        case y20 => intro w hSw; clear hSw; go_simp; (try with_reducible rfl)
        simp only [Act.put, List.setIfInBounds_toArray, List.set_cons_zero, List.set_cons_succ]
        refine wpAnyH_ready (rs := [22]) (by kernel_rfl) (by simp) ?_
        refine AllReadyH.cons (o := ⟨some 8, _, _, _, _, _⟩) rfl (fun K hK => ?_) AllReadyH.nil
        go_simp
        (first | have sg := Lib.hid (SgAt.new (w := w1) (Hid.out (by assumption) : RMut W B Q s k x w1) #[.bool false, .bool false, .bool false, .bool false, .int .u64 0, .int .u64 0, .int .u64 0, .int .u64 0, .int .u64 0, .int .u64 0]) | have sg := Lib.hid (SgAt.new (w := w0.drew) M1.out #[.bool false, .bool false, .bool false, .bool false, .int .u64 0, .int .u64 0, .int .u64 0, .int .u64 0, .int .u64 0, .int .u64 0]))
        refine hK.out _ _ (rmk hHeld (al_be _ _)) (fun hHeld => ?_)
        clear hK
        try simp only [List.setIfInBounds_toArray, List.set_cons_zero, List.set_cons_succ]
        refine wpAnyH_ready (rs := [23]) (by kernel_rfl) (by simp) ?_
        refine AllReadyH.cons (o := ⟨none, _, _, _, _, _⟩) rfl (fun K hK => ?_) AllReadyH.nil
        rw [if_pos (by rfl)]
        refine wp_store_row _ _ _ rfl _ #[.bool fu, .bool ov, .bool lo, .bool false, .int .u64 (x.fl : Int), .int .u64 (ho_ : Int), .int .u64 (ro : Int), .int .u64 (s.rounds : Int), .int .u64 0, .int .u64 0] rfl rfl _ _ sg.out.blk (by kernel_rfl) rfl (by simp [Value.oneCell']) ?_
        refine hK.out _ _ (Lib.hid (hHeld.out.row sg.out HB.out #[.bool fu, .bool ov, .bool lo, .bool false, .int .u64 (x.fl : Int), .int .u64 (ho_ : Int), .int .u64 (ro : Int), .int .u64 (s.rounds : Int), .int .u64 0, .int .u64 0])) (fun hHeld => ?_)
        clear hK
        try simp only [List.setIfInBounds_toArray, List.set_cons_zero, List.set_cons_succ]
        refine wpAnyH_done (by kernel_rfl) ?_ _
        go_wp2_with fail
        go_meet
        exact ⟨_, rfl, ⟨sg.out.blk.zrow #[.bool fu, .bool ov, .bool lo, .bool false, .int .u64 (x.fl : Int), .int .u64 (ho_ : Int), .int .u64 (ro : Int), .int .u64 (s.rounds : Int), .int .u64 0, .int .u64 0], sg.out.lo⟩, hHeld.out⟩
      refine AllReadyH.cons (o := ⟨some 8, _, _, _, _, _⟩) rfl (fun K hK => ?_) AllReadyH.nil
      go_simp
      (first | have sg := Lib.hid (SgAt.new (w := w1) (Hid.out (by assumption) : RMut W B Q s k x w1) #[.bool false, .bool false, .bool false, .bool false, .int .u64 0, .int .u64 0, .int .u64 0, .int .u64 0, .int .u64 0, .int .u64 0]) | have sg := Lib.hid (SgAt.new (w := w0.drew) M1.out #[.bool false, .bool false, .bool false, .bool false, .int .u64 0, .int .u64 0, .int .u64 0, .int .u64 0, .int .u64 0, .int .u64 0]))
      refine hK.out _ _ (rmk hHeld (al_be _ _)) (fun hHeld => ?_)
      clear hK
      try simp only [List.setIfInBounds_toArray, List.set_cons_zero, List.set_cons_succ]
      refine wpAnyH_ready (rs := [16]) (by kernel_rfl) (by simp) ?_
      refine AllReadyH.cons (o := ⟨some 26, _, _, _, _, _⟩) rfl (fun K hK => ?_) AllReadyH.nil
      go_simp
      refine (HRo.out _).mono ?_
      rintro e w1 ⟨rfl, hb⟩
      (first | have sg := Lib.hid (sg.out.keep hb) | skip)
      go_wp2_with fail
      refine hK.out _ _ (rmk hHeld hb) (fun hHeld => ?_)
      clear hK
      try simp only [List.setIfInBounds_toArray, List.set_cons_zero, List.set_cons_succ]
      refine wpAnyH_take (i := 21) (oi := ⟨some 31, _, _, _, _, _⟩) (v := ?v21) rfl (by kernel_rfl) (by kernel_rfl) (by kernel_rfl) (fun _ _ _ h => h) (Or.inl ⟨by rfl, ?y21⟩) (by assumption) ?r21
      case y21 => intro w hSw; clear hSw; go_simp; (try with_reducible rfl)
      simp only [Act.put, List.setIfInBounds_toArray, List.set_cons_zero, List.set_cons_succ]
      refine wpAnyH_ready (rs := [23]) (by kernel_rfl) (by simp) ?_
      refine AllReadyH.cons (o := ⟨none, _, _, _, _, _⟩) rfl (fun K hK => ?_) AllReadyH.nil
      rw [if_pos (by rfl)]
      refine wp_store_row _ _ _ rfl _ #[.bool fu, .bool ov, .bool lo, .bool false, .int .u64 (x.fl : Int), .int .u64 (ho_ : Int), .int .u64 (ro : Int), .int .u64 (s.rounds : Int), .int .u64 0, .int .u64 0] rfl rfl _ _ sg.out.blk (by kernel_rfl) rfl (by simp [Value.oneCell']) ?_
      refine hK.out _ _ (Lib.hid (hHeld.out.row sg.out HB.out #[.bool fu, .bool ov, .bool lo, .bool false, .int .u64 (x.fl : Int), .int .u64 (ho_ : Int), .int .u64 (ro : Int), .int .u64 (s.rounds : Int), .int .u64 0, .int .u64 0])) (fun hHeld => ?_)
      clear hK
      try simp only [List.setIfInBounds_toArray, List.set_cons_zero, List.set_cons_succ]
      refine wpAnyH_done (by kernel_rfl) ?_ _
      go_wp2_with fail
      go_meet
      exact ⟨_, rfl, ⟨sg.out.blk.zrow #[.bool fu, .bool ov, .bool lo, .bool false, .int .u64 (x.fl : Int), .int .u64 (ho_ : Int), .int .u64 (ro : Int), .int .u64 (s.rounds : Int), .int .u64 0, .int .u64 0], sg.out.lo⟩, hHeld.out⟩
    refine AllReadyH.cons (o := ⟨some 8, _, _, _, _, _⟩) rfl (fun K hK => ?_) AllReadyH.nil
    go_simp
    (first | have sg := Lib.hid (SgAt.new (w := w1) (Hid.out (by assumption) : RMut W B Q s k x w1) #[.bool false, .bool false, .bool false, .bool false, .int .u64 0, .int .u64 0, .int .u64 0, .int .u64 0, .int .u64 0, .int .u64 0]) | have sg := Lib.hid (SgAt.new (w := w0.drew) M1.out #[.bool false, .bool false, .bool false, .bool false, .int .u64 0, .int .u64 0, .int .u64 0, .int .u64 0, .int .u64 0, .int .u64 0]))
    refine hK.out _ _ (rmk hHeld (al_be _ _)) (fun hHeld => ?_)
    clear hK
    try simp only [List.setIfInBounds_toArray, List.set_cons_zero, List.set_cons_succ]
    refine wpAnyH_ready (rs := [11]) (by kernel_rfl) (by simp) ?_
    refine AllReadyH.cons (o := ⟨some 21, _, _, _, _, _⟩) rfl (fun K hK => ?_) AllReadyH.nil
    go_simp
    refine (HHo.out _ (Hid.out (by assumption) : RMut W B Q s k x _).at_).mono ?_
    rintro e w1 ⟨rfl, hb⟩
    (first | have sg := Lib.hid (sg.out.keep hb) | skip)
    go_wp2_with fail
    refine hK.out _ _ (rmk hHeld hb) (fun hHeld => ?_)
    clear hK
    try simp only [List.setIfInBounds_toArray, List.set_cons_zero, List.set_cons_succ]
    refine wpAnyH_ready (rs := [16]) (by kernel_rfl) (by simp) ?_
    refine AllReadyH.cons (o := ⟨some 26, _, _, _, _, _⟩) rfl (fun K hK => ?_) AllReadyH.nil
    go_simp
    refine (HRo.out _).mono ?_
    rintro e w1 ⟨rfl, hb⟩
    (first | have sg := Lib.hid (sg.out.keep hb) | skip)
    go_wp2_with fail
    refine hK.out _ _ (rmk hHeld hb) (fun hHeld => ?_)
    clear hK
    try simp only [List.setIfInBounds_toArray, List.set_cons_zero, List.set_cons_succ]
    refine wpAnyH_take (i := 21) (oi := ⟨some 31, _, _, _, _, _⟩) (v := ?v22) rfl (by kernel_rfl) (by kernel_rfl) (by kernel_rfl) (fun _ _ _ h => h) (Or.inl ⟨by rfl, ?y22⟩) (by assumption) ?r22
    case y22 => intro w hSw; clear hSw; go_simp; (try with_reducible rfl)
    simp only [Act.put, List.setIfInBounds_toArray, List.set_cons_zero, List.set_cons_succ]
    refine wpAnyH_ready (rs := [23]) (by kernel_rfl) (by simp) ?_
    refine AllReadyH.cons (o := ⟨none, _, _, _, _, _⟩) rfl (fun K hK => ?_) AllReadyH.nil
    rw [if_pos (by rfl)]
    refine wp_store_row _ _ _ rfl _ #[.bool fu, .bool ov, .bool lo, .bool false, .int .u64 (x.fl : Int), .int .u64 (ho_ : Int), .int .u64 (ro : Int), .int .u64 (s.rounds : Int), .int .u64 0, .int .u64 0] rfl rfl _ _ sg.out.blk (by kernel_rfl) rfl (by simp [Value.oneCell']) ?_
    refine hK.out _ _ (Lib.hid (hHeld.out.row sg.out HB.out #[.bool fu, .bool ov, .bool lo, .bool false, .int .u64 (x.fl : Int), .int .u64 (ho_ : Int), .int .u64 (ro : Int), .int .u64 (s.rounds : Int), .int .u64 0, .int .u64 0])) (fun hHeld => ?_)
    clear hK
    try simp only [List.setIfInBounds_toArray, List.set_cons_zero, List.set_cons_succ]
    refine wpAnyH_done (by kernel_rfl) ?_ _
    go_wp2_with fail
    go_meet
    exact ⟨_, rfl, ⟨sg.out.blk.zrow #[.bool fu, .bool ov, .bool lo, .bool false, .int .u64 (x.fl : Int), .int .u64 (ho_ : Int), .int .u64 (ro : Int), .int .u64 (s.rounds : Int), .int .u64 0, .int .u64 0], sg.out.lo⟩, hHeld.out⟩
  case rest =>
    obtain ⟨n, rfl, hsg, hm⟩ := hcut
    have G2 := Lib.hid hsg
    have M2 := Lib.hid hm
    clear hsg hm M0 M1 HHo HRo
    go_wp2_with fail
    refine (HSt.out _ M2.out.at_).mono ?_
    rintro e w2 ⟨rfl, hb⟩
    have M3 := Lib.hid (M2.out.to hb)
    have G3 := Lib.hid (G2.out.keep hb)
    clear hb M2 G2 HSt
    have c3 := G3.out.blk.cell (i := 3) (v := .bool false) rfl
    have f3 := G3.out.blk.free 3
    have M4 := Lib.hid (M3.out.sg G3.out HB.out 3 (.bool sa))
    have G4 := Lib.hid (G3.out.set 3 (.bool sa) (ds := #[.bool fu, .bool ov, .bool lo, .bool sa, .int .u64 (x.fl : Int), .int .u64 (ho_ : Int), .int .u64 (ro : Int), .int .u64 (s.rounds : Int), .int .u64 0, .int .u64 0]) rfl)
    clear M3 G3
    go_wp2_with fail
    generalize w2.setCell ⟨n, 3, none⟩ (.bool sa) = w3 at *
    clear c3 f3
    have M5 := Lib.hid M4.out.drew
    have G5 := Lib.hid (G4.out.keep ((Drawn.drew w3).below _))
    have c8 := G5.out.blk.cell (i := 8) (v := .int .u64 0) rfl
    have f8 := G5.out.blk.free 8
    have M6 := Lib.hid (M5.out.sg G5.out HB.out 8 (.int .u64 (el : Int)))
    have G6 := Lib.hid (G5.out.set 8 (.int .u64 (el : Int)) (ds := #[.bool fu, .bool ov, .bool lo, .bool sa, .int .u64 (x.fl : Int), .int .u64 (ho_ : Int), .int .u64 (ro : Int), .int .u64 (s.rounds : Int), .int .u64 (el : Int), .int .u64 0]) rfl)
    clear M4 G4
    go_region_held3 (fun w' => Hid (RMut W B Q s k x w'))
      (first | with_reducible exact M5 | with_reducible assumption | exact M6)
      (first
        | (go_at_call 96; (with_reducible refine (HSu.out _).mono ?_); rintro e w' ⟨rfl, rfl⟩))
    clear M5 G5 c8 f8
    have M7 : Hid (RMut W B Q s k x ((w3.setCell ⟨n, 8, none⟩ (.int .u64 (el : Int))).drew)) := M6
    have G7 : Hid (SgAt W n #[.bool fu, .bool ov, .bool lo, .bool sa, .int .u64 (x.fl : Int), .int .u64 (ho_ : Int), .int .u64 (ro : Int), .int .u64 (s.rounds : Int), .int .u64 (el : Int), .int .u64 0] ((w3.setCell ⟨n, 8, none⟩ (.int .u64 (el : Int))).drew)) := G6
    clear M6 G6
    generalize (w3.setCell ⟨n, 8, none⟩ (.int .u64 (el : Int))).drew = w4 at *
    go_wp2_with fail
    obtain ⟨v_, A_, K, cur, g, cap, hX⟩ := M7.out.at_.x
    have hyn : s.y.n = K.length := by rw [hX.yo]; rfl
    have hkn := hX.kn
    have hk9 := HK.out
    have NY := Lib.hid (hX.cy.head.ty G7.out.blk (by decide))
    have cy0 := hX.cy.head.drew.cell (i := 0) (v := .slice (some ⟨g, 0, none⟩) (K.length + 1) cap) (by simp)
    rw [hyn] at HWa
    have l1 : IntKind.i64.wrap ((K.length : Int) + 1 - 1) = (K.length : Int) := by rw [IntKind.wrap_i64]; omega
    have l2 : IntKind.u64.wrap (K.length : Int) = (K.length : Int) := by rw [IntKind.wrap_u64]; omega
    have l3 : IntKind.i64.wrap (K.length : Int) = (K.length : Int) := by rw [IntKind.wrap_i64]; omega
    have M8 := Lib.hid M7.out.drew
    have G8 := Lib.hid (G7.out.keep ((Drawn.drew w4).below _))
    clear hX hyn hkn hk9 M7 G7
    generalize K.length = kl at *
    have c9 := G8.out.blk.cell (i := 9) (v := .int .u64 0) rfl
    have f9 := G8.out.blk.free 9
    have M9 := Lib.hid (M8.out.sg G8.out HB.out 9 (.int .u64 (wt : Int)))
    have G9 := Lib.hid (G8.out.set 9 (.int .u64 (wt : Int)) (ds := #[.bool fu, .bool ov, .bool lo, .bool sa, .int .u64 (x.fl : Int), .int .u64 (ho_ : Int), .int .u64 (ro : Int), .int .u64 (s.rounds : Int), .int .u64 (el : Int), .int .u64 (wt : Int)]) rfl)
    have cy9 := far (L := n) (k := 9) (u := .int .u64 (wt : Int)) cy0 NY.out
    go_region_held3 (fun w' => w'.cell? ⟨Q.y, 0, none⟩ = some (.slice (some ⟨g, 0, none⟩) (kl + 1) cap) ∧ Hid (RMut W B Q s k x w'))
      (first | with_reducible exact ⟨cy0, M8⟩ | with_reducible assumption | exact ⟨cy9, M9⟩)
      (first
        | (go_at_call 103; (with_reducible refine (HWa.out _).mono ?_); rintro e w' ⟨rfl, rfl⟩))
    have T1 : Hid (TuI W B Q s k x n #[.bool fu, .bool ov, .bool lo, .bool sa, .int .u64 (x.fl : Int), .int .u64 (ho_ : Int), .int .u64 (ro : Int), .int .u64 (s.rounds : Int), .int .u64 (el : Int), .int .u64 (wt : Int)] ((w4.setCell ⟨n, 9, none⟩ (.int .u64 (wt : Int))).drew)) := Lib.hid ⟨M9.out, G9.out⟩
    clear M8 G8 M9 G9 c9 f9 cy0 cy9 NY l1 l2 l3 HWa HSu
    generalize (w4.setCell ⟨n, 9, none⟩ (.int .u64 (wt : Int))).drew = w5 at *
    go_wp2_with fail
    have T2 := tu_k T1 ((Drawn.drew w5).below _)
    have s6 := fun w (q : Hid (TuI W B Q s k x n #[.bool fu, .bool ov, .bool lo, .bool sa, .int .u64 (x.fl : Int), .int .u64 (ho_ : Int), .int .u64 (ro : Int), .int .u64 (s.rounds : Int), .int .u64 (el : Int), .int .u64 (wt : Int)] w)) => q6 w (tu_m w q)
    have g0 := tu_g (W := W) (B := B) (k := k) (Q := Q) (s := s) (x := x) (n := n) (cs := #[.bool fu, .bool ov, .bool lo, .bool sa, .int .u64 (x.fl : Int), .int .u64 (ho_ : Int), .int .u64 (ro : Int), .int .u64 (s.rounds : Int), .int .u64 (el : Int), .int .u64 (wt : Int)]) (i := 0) (v := .bool fu) rfl
    have g1 := tu_g (W := W) (B := B) (k := k) (Q := Q) (s := s) (x := x) (n := n) (cs := #[.bool fu, .bool ov, .bool lo, .bool sa, .int .u64 (x.fl : Int), .int .u64 (ho_ : Int), .int .u64 (ro : Int), .int .u64 (s.rounds : Int), .int .u64 (el : Int), .int .u64 (wt : Int)]) (i := 1) (v := .bool ov) rfl
    have g2 := tu_g (W := W) (B := B) (k := k) (Q := Q) (s := s) (x := x) (n := n) (cs := #[.bool fu, .bool ov, .bool lo, .bool sa, .int .u64 (x.fl : Int), .int .u64 (ho_ : Int), .int .u64 (ro : Int), .int .u64 (s.rounds : Int), .int .u64 (el : Int), .int .u64 (wt : Int)]) (i := 2) (v := .bool lo) rfl
    have g3 := tu_g (W := W) (B := B) (k := k) (Q := Q) (s := s) (x := x) (n := n) (cs := #[.bool fu, .bool ov, .bool lo, .bool sa, .int .u64 (x.fl : Int), .int .u64 (ho_ : Int), .int .u64 (ro : Int), .int .u64 (s.rounds : Int), .int .u64 (el : Int), .int .u64 (wt : Int)]) (i := 3) (v := .bool sa) rfl
    have g4 := tu_g (W := W) (B := B) (k := k) (Q := Q) (s := s) (x := x) (n := n) (cs := #[.bool fu, .bool ov, .bool lo, .bool sa, .int .u64 (x.fl : Int), .int .u64 (ho_ : Int), .int .u64 (ro : Int), .int .u64 (s.rounds : Int), .int .u64 (el : Int), .int .u64 (wt : Int)]) (i := 4) (v := .int .u64 (x.fl : Int)) rfl
    have g5 := tu_g (W := W) (B := B) (k := k) (Q := Q) (s := s) (x := x) (n := n) (cs := #[.bool fu, .bool ov, .bool lo, .bool sa, .int .u64 (x.fl : Int), .int .u64 (ho_ : Int), .int .u64 (ro : Int), .int .u64 (s.rounds : Int), .int .u64 (el : Int), .int .u64 (wt : Int)]) (i := 5) (v := .int .u64 (ho_ : Int)) rfl
    have g6 := tu_g (W := W) (B := B) (k := k) (Q := Q) (s := s) (x := x) (n := n) (cs := #[.bool fu, .bool ov, .bool lo, .bool sa, .int .u64 (x.fl : Int), .int .u64 (ho_ : Int), .int .u64 (ro : Int), .int .u64 (s.rounds : Int), .int .u64 (el : Int), .int .u64 (wt : Int)]) (i := 6) (v := .int .u64 (ro : Int)) rfl
    have g7 := tu_g (W := W) (B := B) (k := k) (Q := Q) (s := s) (x := x) (n := n) (cs := #[.bool fu, .bool ov, .bool lo, .bool sa, .int .u64 (x.fl : Int), .int .u64 (ho_ : Int), .int .u64 (ro : Int), .int .u64 (s.rounds : Int), .int .u64 (el : Int), .int .u64 (wt : Int)]) (i := 7) (v := .int .u64 (s.rounds : Int)) rfl
    have g8 := tu_g (W := W) (B := B) (k := k) (Q := Q) (s := s) (x := x) (n := n) (cs := #[.bool fu, .bool ov, .bool lo, .bool sa, .int .u64 (x.fl : Int), .int .u64 (ho_ : Int), .int .u64 (ro : Int), .int .u64 (s.rounds : Int), .int .u64 (el : Int), .int .u64 (wt : Int)]) (i := 8) (v := .int .u64 (el : Int)) rfl
    have g9 := tu_g (W := W) (B := B) (k := k) (Q := Q) (s := s) (x := x) (n := n) (cs := #[.bool fu, .bool ov, .bool lo, .bool sa, .int .u64 (x.fl : Int), .int .u64 (ho_ : Int), .int .u64 (ro : Int), .int .u64 (s.rounds : Int), .int .u64 (el : Int), .int .u64 (wt : Int)]) (i := 9) (v := .int .u64 (wt : Int)) rfl
    go_region_held3 (fun w' => Hid (TuI W B Q s k x n #[.bool fu, .bool ov, .bool lo, .bool sa, .int .u64 (x.fl : Int), .int .u64 (ho_ : Int), .int .u64 (ro : Int), .int .u64 (s.rounds : Int), .int .u64 (el : Int), .int .u64 (wt : Int)] w'))
      (first | with_reducible exact T2 | with_reducible exact tu_k (by assumption) hb)
      (first
        | (go_at_call 104; (with_reducible refine (HNe.out _).mono ?_); rintro e w6 ⟨rfl, hb⟩))
    have MF := tu_m _ (show Hid (TuI W B Q s k x n #[.bool fu, .bool ov, .bool lo, .bool sa, .int .u64 (x.fl : Int), .int .u64 (ho_ : Int), .int .u64 (ro : Int), .int .u64 (s.rounds : Int), .int .u64 (el : Int), .int .u64 (wt : Int)] w6) by assumption)
    clear T1 T2 hb HNe s6 g0 g1 g2 g3 g4 g5 g6 g7 g8 g9
    have Hca : (t = s.st) ∨ (t ≠ s.st ∧ s.st = 6 ∧ t ≠ 4 ∧ t ≠ 6) ∨ (t ≠ s.st ∧ s.st ≠ 6 ∧ t = 6) ∨ (t ≠ s.st ∧ s.st ≠ 6 ∧ t = 4) ∨ (t ≠ s.st ∧ s.st = 5 ∧ t = 2) ∨ (t ≠ s.st ∧ s.st ≠ 6 ∧ t ≠ 6 ∧ t ≠ 4 ∧ ¬ (s.st = 5 ∧ t = 2)) := by
      have := HS6.out
      omega
    clear HS6
    rcases Hca with h1 | ⟨h1, h2, h3, h4⟩ | ⟨h1, h2, h3⟩ | ⟨h1, h2, h3⟩ | ⟨h1, h2, h3⟩ | ⟨h1, h2, h3, h4, h5⟩

    · have z0 : (t == s.st) = true := beq_iff_eq.2 h1
      have HT : Hid (s.turn x.now t = s) := Lib.hid (by unfold ES.turn; rw [if_pos h1])
      clear h1
      go_wp2_with fail
      exact bodyPost_ret (v := .tuple #[]) (by simp [results, Tryz.results48, go_sem]) rfl ⟨rfl, by rw [HT.out]; exact MF.out.at_.more (Nat.le_succ k), MF.out.bel, MF.out.kq⟩
    · have HT : Hid (s.turn x.now t = { s with ended := x.now, cwnd := max s.cwnd s.kept, st := t, began := x.now, rounds := 0 }) := Lib.hid (by unfold ES.turn; rw [if_neg h1]; unfold ES.side; rw [if_pos h2])
      have z0 : (t == s.st) = false := beq_eq_false_iff_ne.2 h1
      have z5 : (s.st == 5) = false := beq_eq_false_iff_ne.2 (by omega)
      have z4 : (t == 4) = false := beq_eq_false_iff_ne.2 (h3)
      have z6 : (s.st == 6) = true := beq_iff_eq.2 h2
      have y6_ : (t == 6) = false := beq_eq_false_iff_ne.2 (h4)
      have q25 := MF.out.at_.cell (i := 25) (u := .int .u64 (s.ended : Int)) (fun _ => rfl)
      have f25 := MF.out.at_.free 25
      have hm : max (s.cwnd : Int) (s.kept : Int) = ((max s.cwnd s.kept : Nat) : Int) := by omega
      have M1 := Lib.hid (MF.out.set (s' := { s with ended := x.now }) 25 (.int .u64 (x.now : Int)) (fun _ => rfl) rfl rfl)
      have g23 := M1.out.at_.cell (i := 23) (u := .int .u64 (s.cwnd : Int)) (fun _ => rfl)
      have g24 := M1.out.at_.cell (i := 24) (u := .int .u64 (s.kept : Int)) (fun _ => rfl)
      have f23 := M1.out.at_.free 23
      have y6 := M1.out.at_.free 6
      have y7 := M1.out.at_.free 7
      have y8 := M1.out.at_.free 8
      have d6 := M1.out.at_.cell (i := 6) (u := .int .i64 s.st) (fun _ => rfl)
      have d7 := M1.out.at_.cell (i := 7) (u := .int .u64 (s.began : Int)) (fun _ => rfl)
      have d8 := M1.out.at_.cell (i := 8) (u := .int .u64 (s.rounds : Int)) (fun _ => rfl)
      have M2 := Lib.hid (M1.out.set (s' := { s with ended := x.now, cwnd := max s.cwnd s.kept }) 23 (.int .u64 ((max s.cwnd s.kept : Nat) : Int)) (fun _ => rfl) rfl rfl).drew
      have MZ := Lib.hid (((M2.out.set (s' := { s with ended := x.now, cwnd := max s.cwnd s.kept, st := t }) 6 (.int .i64 t) (fun _ => rfl) rfl rfl).set (s' := { s with ended := x.now, cwnd := max s.cwnd s.kept, st := t, began := x.now }) 7 (.int .u64 (x.now : Int)) (fun _ => rfl) rfl rfl).set (s' := { s with ended := x.now, cwnd := max s.cwnd s.kept, st := t, began := x.now, rounds := 0 }) 8 (.int .u64 0) (fun _ => rfl) rfl rfl)
      have e0 := M1.out.ev.cell (i := 0) (v := .int .u64 (x.now : Int)) rfl
      clear h1 h2 h3 h4
      go_wp2_with fail
      generalize w6.setCell ⟨Q.m, 25, none⟩ (.int .u64 (x.now : Int)) = w7 at *
      go_region
      go_wp2_with fail
      go_end0
      exact ⟨rfl, by rw [HT.out]; exact MZ.out.at_.more (Nat.le_succ k), MZ.out.bel, MZ.out.kq⟩
    · have HT : Hid (s.turn x.now t = { s with kept := s.cwnd, st := t, began := x.now, rounds := 0 }) := Lib.hid (by unfold ES.turn; rw [if_neg h1]; unfold ES.side; rw [if_neg h2, if_pos h3])
      have z0 : (t == s.st) = false := beq_eq_false_iff_ne.2 h1
      have z4 : (t == 4) = false := beq_eq_false_iff_ne.2 (by omega)
      have z6 : (s.st == 6) = false := beq_eq_false_iff_ne.2 (h2)
      have y6_ : (t == 6) = true := beq_iff_eq.2 h3
      have zz : (s.st == 5) = false ∨ ((s.st == 5) = true ∧ (t == 2) = false) := by
        by_cases e5 : s.st = 5
        · exact Or.inr ⟨beq_iff_eq.2 e5, beq_eq_false_iff_ne.2 (by omega)⟩
        · exact Or.inl (beq_eq_false_iff_ne.2 e5)
      have q23 := MF.out.at_.cell (i := 23) (u := .int .u64 (s.cwnd : Int)) (fun _ => rfl)
      have q24 := MF.out.at_.cell (i := 24) (u := .int .u64 (s.kept : Int)) (fun _ => rfl)
      have f24 := MF.out.at_.free 24
      have M1 := Lib.hid (MF.out.set (s' := { s with kept := s.cwnd }) 24 (.int .u64 (s.cwnd : Int)) (fun _ => rfl) rfl rfl)
      have y6 := M1.out.at_.free 6
      have y7 := M1.out.at_.free 7
      have y8 := M1.out.at_.free 8
      have d6 := M1.out.at_.cell (i := 6) (u := .int .i64 s.st) (fun _ => rfl)
      have d7 := M1.out.at_.cell (i := 7) (u := .int .u64 (s.began : Int)) (fun _ => rfl)
      have d8 := M1.out.at_.cell (i := 8) (u := .int .u64 (s.rounds : Int)) (fun _ => rfl)
      have MZ := Lib.hid (((M1.out.set (s' := { s with kept := s.cwnd, st := t }) 6 (.int .i64 t) (fun _ => rfl) rfl rfl).set (s' := { s with kept := s.cwnd, st := t, began := x.now }) 7 (.int .u64 (x.now : Int)) (fun _ => rfl) rfl rfl).set (s' := { s with kept := s.cwnd, st := t, began := x.now, rounds := 0 }) 8 (.int .u64 0) (fun _ => rfl) rfl rfl)
      clear h1 h2 h3
      rcases zz with z5 | ⟨z5, z2⟩
      all_goals
        go_wp2_with fail
        go_end0
        exact ⟨rfl, by rw [HT.out]; exact MZ.out.at_.more (Nat.le_succ k), MZ.out.bel, MZ.out.kq⟩
    · have HT : Hid (s.turn x.now t = { s with bs := s.bs.short, st := t, began := x.now, rounds := 0 }) := Lib.hid (by unfold ES.turn; rw [if_neg h1]; unfold ES.side; rw [if_neg h2, if_neg (by omega), if_pos h3])
      have z0 : (t == s.st) = false := beq_eq_false_iff_ne.2 h1
      have z4 : (t == 4) = true := beq_iff_eq.2 h3
      have z6 : (s.st == 6) = false := beq_eq_false_iff_ne.2 (h2)
      have y6_ : (t == 6) = false := beq_eq_false_iff_ne.2 (by omega)
      have zz : (s.st == 5) = false ∨ ((s.st == 5) = true ∧ (t == 2) = false) := by
        by_cases e5 : s.st = 5
        · exact Or.inr ⟨beq_iff_eq.2 e5, beq_eq_false_iff_ne.2 (by omega)⟩
        · exact Or.inl (beq_eq_false_iff_ne.2 e5)
      have b18 := MF.out.at_.cell (i := 18) (u := .int .u64 (s.bs.hi : Int)) (fun _ => rfl)
      have b19 := MF.out.at_.cell (i := 19) (u := .int .u64 (s.bs.lo : Int)) (fun _ => rfl)
      have b20 := MF.out.at_.cell (i := 20) (u := .int .u64 (s.bs.bw : Int)) (fun _ => rfl)
      have f18 := MF.out.at_.free 18
      have f19 := MF.out.at_.free 19
      have f20 := MF.out.at_.free 20
      have M1 := Lib.hid (((MF.out.set (s' := { s with bs := ⟨s.bs.short.hi, s.bs.lo, s.bs.bw⟩ }) 18 (.int .u64 (s.bs.hi : Int)) (fun _ => rfl) rfl rfl).set (s' := { s with bs := ⟨s.bs.short.hi, s.bs.short.lo, s.bs.bw⟩ }) 19 (.int .u64 18446744073709551615) (fun _ => rfl) rfl rfl).set (s' := { s with bs := s.bs.short }) 20 (.int .u64 18446744073709551615) (fun _ => rfl) rfl rfl)
      have y6 := M1.out.at_.free 6
      have y7 := M1.out.at_.free 7
      have y8 := M1.out.at_.free 8
      have d6 := M1.out.at_.cell (i := 6) (u := .int .i64 s.st) (fun _ => rfl)
      have d7 := M1.out.at_.cell (i := 7) (u := .int .u64 (s.began : Int)) (fun _ => rfl)
      have d8 := M1.out.at_.cell (i := 8) (u := .int .u64 (s.rounds : Int)) (fun _ => rfl)
      have MZ := Lib.hid (((M1.out.set (s' := { s with bs := s.bs.short, st := t }) 6 (.int .i64 t) (fun _ => rfl) rfl rfl).set (s' := { s with bs := s.bs.short, st := t, began := x.now }) 7 (.int .u64 (x.now : Int)) (fun _ => rfl) rfl rfl).set (s' := { s with bs := s.bs.short, st := t, began := x.now, rounds := 0 }) 8 (.int .u64 0) (fun _ => rfl) rfl rfl)
      clear h1 h2 h3
      rcases zz with z5 | ⟨z5, z2⟩
      all_goals
        go_wp2_with fail
        go_end0
        exact ⟨rfl, by rw [HT.out]; exact MZ.out.at_.more (Nat.le_succ k), MZ.out.bel, MZ.out.kq⟩
    · have HT : Hid (s.turn x.now t = { s with y := s.y.next, st := t, began := x.now, rounds := 0 }) := Lib.hid (by unfold ES.turn; rw [if_neg h1]; unfold ES.side; rw [if_neg (by omega), if_neg (by omega), if_neg (by omega), if_pos ⟨h2, h3⟩])
      have z0 : (t == s.st) = false := beq_eq_false_iff_ne.2 h1
      have z5 : (s.st == 5) = true := beq_iff_eq.2 h2
      have z2 : (t == 2) = true := beq_iff_eq.2 h3
      have z4 : (t == 4) = false := beq_eq_false_iff_ne.2 (by omega)
      have z6 : (s.st == 6) = false := beq_eq_false_iff_ne.2 (by omega)
      have y6_ : (t == 6) = false := beq_eq_false_iff_ne.2 (by omega)
      have HY := Lib.hid (rz_CNext w6 MF.out.at_ (by have := HK.out; omega))
      clear h1 h2 h3
      go_wp2_with fail
      refine HY.out.mono ?_
      rintro e w7 hp
      obtain rfl := hp.e
      have M1 := Lib.hid (MF.out.step hp)
      clear hp HY
      have y6 := M1.out.at_.free 6
      have y7 := M1.out.at_.free 7
      have y8 := M1.out.at_.free 8
      have d6 := M1.out.at_.cell (i := 6) (u := .int .i64 s.st) (fun _ => rfl)
      have d7 := M1.out.at_.cell (i := 7) (u := .int .u64 (s.began : Int)) (fun _ => rfl)
      have d8 := M1.out.at_.cell (i := 8) (u := .int .u64 (s.rounds : Int)) (fun _ => rfl)
      have MZ := Lib.hid (((M1.out.set (s' := { s with y := s.y.next, st := t }) 6 (.int .i64 t) (fun _ => rfl) rfl rfl).set (s' := { s with y := s.y.next, st := t, began := x.now }) 7 (.int .u64 (x.now : Int)) (fun _ => rfl) rfl rfl).set (s' := { s with y := s.y.next, st := t, began := x.now, rounds := 0 }) 8 (.int .u64 0) (fun _ => rfl) rfl rfl)
      have e0 := M1.out.ev.cell (i := 0) (v := .int .u64 (x.now : Int)) rfl
      go_wp2_with fail
      go_end0
      exact ⟨rfl, by rw [HT.out]; exact MZ.out.at_, MZ.out.bel, MZ.out.kq⟩
    · have HT : Hid (s.turn x.now t = { s with st := t, began := x.now, rounds := 0 }) := Lib.hid (by unfold ES.turn; rw [if_neg h1]; unfold ES.side; rw [if_neg h2, if_neg h3, if_neg h4, if_neg h5])
      have z0 : (t == s.st) = false := beq_eq_false_iff_ne.2 h1
      have z4 : (t == 4) = false := beq_eq_false_iff_ne.2 (h4)
      have z6 : (s.st == 6) = false := beq_eq_false_iff_ne.2 (h2)
      have y6_ : (t == 6) = false := beq_eq_false_iff_ne.2 (h3)
      have zz : (s.st == 5) = false ∨ ((s.st == 5) = true ∧ (t == 2) = false) := by
        by_cases e5 : s.st = 5
        · exact Or.inr ⟨beq_iff_eq.2 e5, beq_eq_false_iff_ne.2 (fun e2 => h5 ⟨e5, e2⟩)⟩
        · exact Or.inl (beq_eq_false_iff_ne.2 e5)
      have y6 := MF.out.at_.free 6
      have y7 := MF.out.at_.free 7
      have y8 := MF.out.at_.free 8
      have d6 := MF.out.at_.cell (i := 6) (u := .int .i64 s.st) (fun _ => rfl)
      have d7 := MF.out.at_.cell (i := 7) (u := .int .u64 (s.began : Int)) (fun _ => rfl)
      have d8 := MF.out.at_.cell (i := 8) (u := .int .u64 (s.rounds : Int)) (fun _ => rfl)
      have MZ := Lib.hid (((MF.out.set (s' := { s with st := t }) 6 (.int .i64 t) (fun _ => rfl) rfl rfl).set (s' := { s with st := t, began := x.now }) 7 (.int .u64 (x.now : Int)) (fun _ => rfl) rfl rfl).set (s' := { s with st := t, began := x.now, rounds := 0 }) 8 (.int .u64 0) (fun _ => rfl) rfl rfl)
      clear h1 h2 h3 h4 h5
      rcases zz with z5 | ⟨z5, z2⟩
      all_goals
        go_wp2_with fail
        go_end0
        exact ⟨rfl, by rw [HT.out]; exact MZ.out.at_.more (Nat.le_succ k), MZ.out.bel, MZ.out.kq⟩
end Go.Proofs.YtpkbjfhicocogaaGreatDoor
