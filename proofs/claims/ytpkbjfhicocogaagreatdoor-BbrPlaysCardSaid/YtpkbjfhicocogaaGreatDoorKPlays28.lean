/- 1 texts put together: what each one says stands ahead of it. -/
import Derived.Test.YtpkbjfhicocogaaGreatDoorKPlays23
/- Contracts of package bbr over this translation: whether the least round trip is too old; the signal. -/
set_option linter.unusedVariables false
namespace Go.Proofs.YtpkbjfhicocogaaGreatDoor
open Go.RowKit Cf

theorem quo2 (c : Nat) (hc : c ≤ 18446744073709551615) : IntKind.u64.wrap ((c : Int) / 2) = ((c / 2 : Nat) : Int) := by rw [IntKind.wrap_u64]; omega
set_option maxHeartbeats 1000000 in
theorem en_stale {B k : Nat} {P : EP} {s : ES} (now : Nat) (hn : now ≤ 18446744073709551615) (W : World) (h : EngAt W B P s) (ho : s.ok k) :
    Calls Tryz.prog 85 #[.pointer (some ⟨P.b, 0, none⟩), .int .u64 (now : Int)] W fun e w' => e = .returned (.bool (s.stale now)) ∧ Below W.heap.size W w' := by
  obtain ⟨g, _, hf⟩ := h.f
  have HB := Lib.hid (fl_Best P.a P.r g s.f W hf)
  clear hf
  have c10 := h.e.cell (i := 10) (v := .pointer (some ⟨P.a, 0, none⟩)) rfl
  have bt := FS.best_t ho.f
  have be := ho.ended
  have bc := ho.c 3
  have HS := Lib.hid (fun b w hw => sub_any now (max s.f.best.t s.ended) b hn (by omega) w hw)
  have I0 := Lib.hid (EngI.start h)
  have hm : max (s.f.best.t : Int) (s.ended : Int) = ((max s.f.best.t s.ended : Nat) : Int) := by omega
  have hq := quo2 (s.c 3) bc
  unfold ES.stale
  unfold bestV at HB
  clear h ho bt be bc hn
  generalize Pl.subS now (max s.f.best.t s.ended) = q at *
  generalize max s.f.best.t s.ended = m at *
  generalize s.f.best = x at *
  generalize s.f.some = o at *
  cases o with
  | false =>
    go_enter Tryz.func85, Tryz.ntmps85
    go_wp2_with fail
    refine (HB.out).mono ?_
    rintro e w1 ⟨rfl, h1⟩
    have I1 := Lib.hid (I0.out.to h1)
    clear h1 I0 HB c10
    go_wp2_with fail
    go_region
    go_wp2
    go_ret
    exact ⟨rfl, I1.out.drew.bel⟩
  | true =>
    go_enter Tryz.func85, Tryz.ntmps85
    go_wp2_with fail
    refine (HB.out).mono ?_
    rintro e w1 ⟨rfl, h1⟩
    have I1 := Lib.hid (I0.out.to h1)
    clear h1 I0 HB c10
    go_wp2_with fail
    have I2 := Lib.hid I1.out.drew
    go_region_held3 (fun w' => w'.cell? ⟨P.b, 20, none⟩ = some (.int .u64 (s.ended : Int)) ∧ w'.cell? ⟨P.b, 3, none⟩ = some (.int .u64 (s.c 3 : Int)) ∧ Hid (EngI W B P s w'))
      (first | exact ei_e30 I2 | exact ei_e3 (by assumption) (al_dr _ _) | exact ei_e3 (by assumption) hb)
      (first
        | (go_at_call 72; go_split_ands; (refine (HS.out _ _ (by first | exact cell_dr (new_cell rfl rfl) | exact new_cell rfl rfl)).mono ?_); rintro e w' ⟨rfl, rfl⟩))
    all_goals
      have hd : decide ((s.c 3 : Int) / 2 < (q : Int)) = decide (s.c 3 / 2 < q) := decide_eq_decide.2 (by omega)
      have HD := Lib.hid hd
      clear hd hq hm
      go_wp2
      go_ret
      exact ⟨by rw [HD.out]; rfl, (Hid.out (by assumption) : EngI W B P s _).bel⟩

/-- What holds while a signal is made. -/
structure SigI (W : World) (B : Nat) (P : EP) (s : ES) (x : EvS) (w : World) : Prop where
  at0 : EngAt W B P s
  bel : Below W.heap.size W w
  ev : Blk w W.heap.size 39 x.cells
  re : ∃ cs, cs.size = 10 ∧ Blk w (W.heap.size + 1) 81 cs
theorem SigI.at_ {W w : World} {B : Nat} {P : EP} {s : ES} {x : EvS} (h : SigI W B P s x w) : EngAt w B P s := h.at0.keep h.bel
theorem SigI.to {W w w' : World} {B : Nat} {P : EP} {s : ES} {x : EvS} (h : SigI W B P s x w) (k : Below w.heap.size w w') : SigI W B P s x w' :=
  ⟨h.at0, bel_to h.bel k h.bel.size, h.ev.keep k, by obtain ⟨cs, a, b⟩ := h.re; exact ⟨cs, a, b.keep k⟩⟩
theorem SigI.set {W w : World} {B : Nat} {P : EP} {s : ES} {x : EvS} (h : SigI W B P s x w) (i : Nat) (u : Value) : SigI W B P s x (w.setCell ⟨W.heap.size + 1, i, none⟩ u) :=
  ⟨h.at0, h.bel.setCell (p := ⟨W.heap.size + 1, i, none⟩) (Nat.le_succ _) u, h.ev.set_other i u (by omega), by obtain ⟨cs, a, b⟩ := h.re; exact ⟨_, by simpa using a, b.set i u⟩⟩
theorem sig_k {W w w' : World} {B : Nat} {P : EP} {s : ES} {x : EvS} (h : Hid (SigI W B P s x w)) (k : Below w.heap.size w w') : Hid (SigI W B P s x w') := h.out.to k
theorem sig_r {W : World} {B : Nat} {P : EP} {s : ES} {x : EvS} : (∀ w, Hid (SigI W B P s x w) → w.cell? ⟨W.heap.size, 0, none⟩ = some (.int .u64 (x.now : Int))) ∧ (∀ w, Hid (SigI W B P s x w) → w.cell? ⟨W.heap.size, 10, none⟩ = some (.int .u64 (x.fl : Int))) ∧ (∀ w, Hid (SigI W B P s x w) → w.cell? ⟨P.b, 6, none⟩ = some (.pointer (some ⟨P.p, 0, none⟩))) ∧ (∀ w, Hid (SigI W B P s x w) → w.cell? ⟨P.b, 7, none⟩ = some (.int .u64 (s.bs.hi : Int))) ∧ (∀ w, Hid (SigI W B P s x w) → w.cell? ⟨P.b, 8, none⟩ = some (.int .u64 (s.bs.lo : Int))) ∧ (∀ w, Hid (SigI W B P s x w) → w.cell? ⟨P.b, 9, none⟩ = some (.int .u64 (s.bs.bw : Int))) ∧ (∀ w, Hid (SigI W B P s x w) → w.cell? ⟨P.b, 15, none⟩ = some (.int .u64 (s.rounds : Int))) ∧ (∀ w, Hid (SigI W B P s x w) → w.cell? ⟨P.b, 14, none⟩ = some (.int .u64 (s.began : Int))) ∧ (∀ w, Hid (SigI W B P s x w) → w.cell? ⟨P.b, 13, none⟩ = some (.int .i64 s.st)) ∧ (∀ w, Hid (SigI W B P s x w) → w.cell? ⟨P.b, 11, none⟩ = some (.pointer (some ⟨P.y, 0, none⟩))) ∧ (∀ w, Hid (SigI W B P s x w) → w.cell? ⟨P.b, 4, none⟩ = some (.int .u64 (s.c 4 : Int))) :=
  ⟨fun w q => q.out.ev.cell rfl, fun w q => q.out.ev.cell rfl, fun w q => q.out.at_.e.cell rfl, fun w q => q.out.at_.e.cell rfl, fun w q => q.out.at_.e.cell rfl, fun w q => q.out.at_.e.cell rfl, fun w q => q.out.at_.e.cell rfl, fun w q => q.out.at_.e.cell rfl, fun w q => q.out.at_.e.cell rfl, fun w q => q.out.at_.e.cell rfl, fun w q => q.out.at_.e.cell rfl⟩
theorem nc3 (W : World) (b x : Nat) (T : TypeId) (hb : b = W.heap.size) : (W.alloc (.cells #[.int .u64 (x : Int)] T)).cell? ⟨b, 0, none⟩ = some (.int .u64 (x : Int)) := by subst hb; exact new_cell rfl rfl
theorem Blk.row {w : World} {g : Nat} {T : TypeId} {old : Array Value} (h : Blk w g T old) (cs : Array Value) : Blk (w.setRow g cs) g T cs := setRow_heap w g old cs T (0, 0) h
theorem Blk.row_other {w : World} {b g : Nat} {T : TypeId} {cs : Array Value} (h : Blk w b T cs) (hne : b ≠ g) (ds : Array Value) : Blk (w.setRow g ds) b T cs := (setRow_other w g b ds hne).trans h
theorem sig_row {W w : World} {B : Nat} {P : EP} {s : ES} {x : EvS} (h : Hid (SigI W B P s x w)) (cs : Array Value) (hc : cs.size = 10) : Hid (SigI W B P s x (w.setRow (W.heap.size + 1) cs)) :=
  Lib.hid ⟨h.out.at0, below_setRow h.out.bel (Nat.le_succ _) cs, h.out.ev.row_other (by omega) cs, by obtain ⟨ds, _, q⟩ := h.out.re; exact ⟨cs, hc, q.row cs⟩⟩

set_option maxRecDepth 100000 in
set_option maxHeartbeats 4000000 in
theorem en_signal {B k : Nat} {P : EP} {s : ES} (x : EvS) (hx : x.ok) (ov lo : Bool) (W : World) (h : EngAt W B P s) (ho : s.ok k) :
    Calls Tryz.prog 41 #[.pointer (some ⟨P.b, 0, none⟩), x.val, .bool ov, .bool lo] W fun e w' => e = .returned (.agg (s.sig x ov lo).cells) ∧ Below W.heap.size W w' := by
  have HFu : Hid (∀ w, EngAt w B P s → Calls Tryz.prog 74 #[.pointer (some ⟨P.p, 0, none⟩)] w fun e w' => e = .returned (.bool s.p.full) ∧ Below w.heap.size w w') := Lib.hid (fun w hw => (pi_Full P.p s.p w hw.p).mono fun e w' q => ⟨q.1, q.2 ▸ Below.refl _ _⟩)
  have HSt := Lib.hid (fun w hw => en_stale (B := B) (P := P) (s := s) x.now hx.now w hw ho)
  have HHo := Lib.hid (fun w hw => en_holds (B := B) (P := P) (s := s) w hw ho)
  have HRo := Lib.hid (fun w (_ : EngAt w B P s) => bd_Room s.bs w ho.bs)
  have HSu : Hid (∀ b w, w.cell? ⟨b, 0, none⟩ = some (.int .u64 (s.began : Int)) → Calls Tryz.prog 72 #[.int .u64 (x.now : Int), .slice (some ⟨b, 0, none⟩) 1 1] w fun e w' => e = .returned (.int .u64 ((Pl.subS x.now s.began : Nat) : Int)) ∧ Below w.heap.size w w') := Lib.hid (fun b w hw => (sub_any x.now s.began b hx.now ho.began w hw).mono fun e w' q => ⟨q.1, q.2 ▸ Below.refl _ _⟩)
  have HCo : Hid (∀ w, EngAt w B P s → Calls Tryz.prog 88 #[.pointer (some ⟨P.y, 0, none⟩)] w fun e w' => e = .returned (.int .u64 (s.y.n : Int)) ∧ Below w.heap.size w w') := Lib.hid (fun w hw => (cy_Count P.y s.y w hw.y).mono fun e w' q => ⟨q.1, q.2 ▸ Below.refl _ _⟩)
  have HWa : Hid (∀ w, EngAt w B P s → Calls Tryz.prog 87 #[.int .i64 s.st, .int .u64 (s.y.n : Int), .int .u64 (s.c 4 : Int)] w fun e w' => e = .returned (.int .u64 ((waitS s.st s.y.n (s.c 4) : Nat) : Int)) ∧ Below w.heap.size w w') := Lib.hid (fun w _ => (mo_Wait s.st s.y.n (s.c 4) w ho.yn).mono fun e w' q => ⟨q.1, q.2 ▸ Below.refl _ _⟩)
  have I0 : Hid (SigI W B P s x ((W.alloc (.cells x.cells 39)).alloc (.cells #[.bool false, .bool false, .bool false, .bool false, .int .u64 0, .int .u64 0, .int .u64 0, .int .u64 0, .int .u64 0, .int .u64 0] 81)).drew) := Lib.hid
    ((show SigI W B P s x ((W.alloc (.cells x.cells 39)).alloc (.cells #[.bool false, .bool false, .bool false, .bool false, .int .u64 0, .int .u64 0, .int .u64 0, .int .u64 0, .int .u64 0, .int .u64 0] 81)) from
      ⟨h, ((Below.refl _ _).alloc (Nat.le_refl _) _).alloc (by simp) _, (Blk.new W _ _).alloc _, ⟨_, rfl, Blk.new1 W _ _ _⟩⟩).to ((Drawn.drew _).below _))
  have HT : Hid ((s.sig x ov lo).cells = #[.bool s.p.full, .bool ov, .bool lo, .bool (s.stale x.now), .int .u64 (x.fl : Int), .int .u64 (s.holds : Int), .int .u64 (s.bs.room : Int), .int .u64 (s.rounds : Int), .int .u64 ((Pl.subS x.now s.began : Nat) : Int), .int .u64 ((waitS s.st s.y.n (s.c 4) : Nat) : Int)]) := Lib.hid rfl
  clear h ho hx
  unfold EvS.cells at I0
  unfold EvS.val EvS.cells
  simp only [BS.cells] at HRo
  generalize waitS s.st s.y.n (s.c 4) = d9 at *
  generalize Pl.subS x.now s.began = d8 at *
  generalize s.bs.room = d6 at *
  generalize s.holds = d5 at *
  generalize s.stale x.now = d3 at *
  generalize s.p.full = d0 at *
  go_enter Tryz.func41, Tryz.ntmps41
  obtain ⟨rr0, rr1, rr2, rr3, rr4, rr5, rr6, rr7, rr8, rr9, rr10⟩ := sig_r (W := W) (B := B) (P := P) (s := s) (x := x)
  go_wp2_with fail
  refine wp_region_noPanic ?_

  refine wp_region_held_drew (S := (fun w' => Hid (SigI W B P s x w'))) (by kernel_rfl) I0 (fun hHeld => ?_)
  simp only [List.size_toArray, List.length_cons, List.length_nil, Nat.reduceAdd, Array.replicate_succ, Array.replicate_zero, List.push_toArray, List.nil_append, List.cons_append]
  refine wpAnyH_take (i := 0) (oi := ⟨some 9, _, _, _, _, _⟩) (v := ?v1) rfl (by kernel_rfl) (by kernel_rfl) (by kernel_rfl) (fun _ _ _ h => h) (Or.inl ⟨by rfl, ?y1⟩) (by assumption) ?r1
  case y1 => intro w hSw; clear hSw; go_simp; (try with_reducible rfl)
  simp only [Act.put, List.setIfInBounds_toArray, List.set_cons_zero, List.set_cons_succ]
  refine wpAnyH_take (i := 1) (oi := ⟨some 10, _, _, _, _, _⟩) (v := ?v2) rfl (by kernel_rfl) (by kernel_rfl) (by kernel_rfl) (fun _ _ _ h => h) (Or.inl ⟨by rfl, ?y2⟩) (by assumption) ?r2
  case y2 => intro w hSw; clear hSw; go_simp; (try with_reducible rfl)
  simp only [Act.put, List.setIfInBounds_toArray, List.set_cons_zero, List.set_cons_succ]
  refine wpAnyH_take (i := 2) (oi := ⟨some 11, _, _, _, _, _⟩) (v := ?v3) rfl (by kernel_rfl) (by kernel_rfl) (by kernel_rfl) (fun _ _ _ h => h) (Or.inl ⟨by rfl, ?y3⟩) (by assumption) ?r3
  case y3 => intro w hSw; clear hSw; go_simp; (try with_reducible rfl)
  simp only [Act.put, List.setIfInBounds_toArray, List.set_cons_zero, List.set_cons_succ]
  refine wpAnyH_take (i := 3) (oi := ⟨some 12, _, _, _, _, _⟩) (v := ?v4) rfl (by kernel_rfl) (by kernel_rfl) (by kernel_rfl) (fun _ _ _ h => h) (Or.inl ⟨by rfl, ?y4⟩) (by assumption) ?r4
  case y4 => intro w hSw; skip; go_simp; (try with_reducible rfl)
  simp only [Act.put, List.setIfInBounds_toArray, List.set_cons_zero, List.set_cons_succ]
  refine wpAnyH_take (i := 5) (oi := ⟨some 14, _, _, _, _, _⟩) (v := ?v5) rfl (by kernel_rfl) (by kernel_rfl) (by kernel_rfl) (fun _ _ _ h => h) (Or.inl ⟨by rfl, ?y5⟩) (by assumption) ?r5
  case y5 => intro w hSw; clear hSw; go_simp; (try with_reducible rfl)
  simp only [Act.put, List.setIfInBounds_toArray, List.set_cons_zero, List.set_cons_succ]
  refine wpAnyH_take (i := 6) (oi := ⟨some 15, _, _, _, _, _⟩) (v := ?v6) rfl (by kernel_rfl) (by kernel_rfl) (by kernel_rfl) (fun _ _ _ h => h) (Or.inl ⟨by rfl, ?y6⟩) (by assumption) ?r6
  case y6 => intro w hSw; clear hSw; go_simp; (try with_reducible rfl)
  simp only [Act.put, List.setIfInBounds_toArray, List.set_cons_zero, List.set_cons_succ]
  refine wpAnyH_take (i := 7) (oi := ⟨some 16, _, _, _, _, _⟩) (v := ?v7) rfl (by kernel_rfl) (by kernel_rfl) (by kernel_rfl) (fun _ _ _ h => h) (Or.inl ⟨by rfl, ?y7⟩) (by assumption) ?r7
  case y7 => intro w hSw; clear hSw; go_simp; (try with_reducible rfl)
  simp only [Act.put, List.setIfInBounds_toArray, List.set_cons_zero, List.set_cons_succ]
  refine wpAnyH_take (i := 8) (oi := ⟨some 17, _, _, _, _, _⟩) (v := ?v8) rfl (by kernel_rfl) (by kernel_rfl) (by kernel_rfl) (fun _ _ _ h => h) (Or.inl ⟨by rfl, ?y8⟩) (by assumption) ?r8
  case y8 => intro w hSw; clear hSw; go_simp; (try with_reducible rfl)
  simp only [Act.put, List.setIfInBounds_toArray, List.set_cons_zero, List.set_cons_succ]
  refine wpAnyH_take (i := 9) (oi := ⟨some 18, _, _, _, _, _⟩) (v := ?v9) rfl (by kernel_rfl) (by kernel_rfl) (by kernel_rfl) (fun _ _ _ h => h) (Or.inl ⟨by rfl, ?y9⟩) (by assumption) ?r9
  case y9 => intro w hSw; skip; go_simp; (try with_reducible rfl)
  simp only [Act.put, List.setIfInBounds_toArray, List.set_cons_zero, List.set_cons_succ]
  refine wpAnyH_take (i := 11) (oi := ⟨some 20, _, _, _, _, _⟩) (v := ?v10) rfl (by kernel_rfl) (by kernel_rfl) (by kernel_rfl) (fun _ _ _ h => h) (Or.inl ⟨by rfl, ?y10⟩) (by assumption) ?r10
  case y10 => intro w hSw; clear hSw; go_simp; (try with_reducible rfl)
  simp only [Act.put, List.setIfInBounds_toArray, List.set_cons_zero, List.set_cons_succ]
  refine wpAnyH_take (i := 12) (oi := ⟨some 21, _, _, _, _, _⟩) (v := ?v11) rfl (by kernel_rfl) (by kernel_rfl) (by kernel_rfl) (fun _ _ _ h => h) (Or.inl ⟨by rfl, ?y11⟩) (by assumption) ?r11
  case y11 => intro w hSw; skip; go_simp; (try with_reducible rfl)
  simp only [Act.put, List.setIfInBounds_toArray, List.set_cons_zero, List.set_cons_succ]
  refine wpAnyH_take (i := 13) (oi := ⟨some 22, _, _, _, _, _⟩) (v := ?v12) rfl (by kernel_rfl) (by kernel_rfl) (by kernel_rfl) (fun _ _ _ h => h) (Or.inl ⟨by rfl, ?y12⟩) (by assumption) ?r12
  case y12 => intro w hSw; clear hSw; go_simp; (try with_reducible rfl)
  simp only [Act.put, List.setIfInBounds_toArray, List.set_cons_zero, List.set_cons_succ]
  refine wpAnyH_take (i := 15) (oi := ⟨some 24, _, _, _, _, _⟩) (v := ?v13) rfl (by kernel_rfl) (by kernel_rfl) (by kernel_rfl) (fun _ _ _ h => h) (Or.inl ⟨by rfl, ?y13⟩) (by assumption) ?r13
  case y13 => intro w hSw; clear hSw; go_simp; (try with_reducible rfl)
  simp only [Act.put, List.setIfInBounds_toArray, List.set_cons_zero, List.set_cons_succ]
  refine wpAnyH_take (i := 16) (oi := ⟨some 25, _, _, _, _, _⟩) (v := ?v14) rfl (by kernel_rfl) (by kernel_rfl) (by kernel_rfl) (fun _ _ _ h => h) (Or.inl ⟨by rfl, ?y14⟩) (by assumption) ?r14
  case y14 => intro w hSw; clear hSw; go_simp; (try with_reducible rfl)
  simp only [Act.put, List.setIfInBounds_toArray, List.set_cons_zero, List.set_cons_succ]
  refine wpAnyH_take (i := 17) (oi := ⟨some 26, _, _, _, _, _⟩) (v := ?v15) rfl (by kernel_rfl) (by kernel_rfl) (by kernel_rfl) (fun _ _ _ h => h) (Or.inl ⟨by rfl, ?y15⟩) (by assumption) ?r15
  case y15 => intro w hSw; clear hSw; go_simp; (try with_reducible rfl)
  simp only [Act.put, List.setIfInBounds_toArray, List.set_cons_zero, List.set_cons_succ]
  refine wpAnyH_take (i := 18) (oi := ⟨some 27, _, _, _, _, _⟩) (v := ?v16) rfl (by kernel_rfl) (by kernel_rfl) (by kernel_rfl) (fun _ _ _ h => h) (Or.inl ⟨by rfl, ?y16⟩) (by assumption) ?r16
  case y16 => intro w hSw; skip; go_simp; (try with_reducible rfl)
  simp only [Act.put, List.setIfInBounds_toArray, List.set_cons_zero, List.set_cons_succ]
  refine wpAnyH_take (i := 20) (oi := ⟨some 29, _, _, _, _, _⟩) (v := ?v17) rfl (by kernel_rfl) (by kernel_rfl) (by kernel_rfl) (fun _ _ _ h => h) (Or.inl ⟨by rfl, ?y17⟩) (by assumption) ?r17
  case y17 => intro w hSw; clear hSw; go_simp; (try with_reducible rfl)
  simp only [Act.put, List.setIfInBounds_toArray, List.set_cons_zero, List.set_cons_succ]
  refine wpAnyH_take (i := 21) (oi := ⟨some 30, _, _, _, _, _⟩) (v := ?v18) rfl (by kernel_rfl) (by kernel_rfl) (by kernel_rfl) (fun _ _ _ h => h) (Or.inl ⟨by rfl, ?y18⟩) (by assumption) ?r18
  case y18 => intro w hSw; clear hSw; go_simp; (try with_reducible rfl)
  simp only [Act.put, List.setIfInBounds_toArray, List.set_cons_zero, List.set_cons_succ]
  refine wpAnyH_take (i := 22) (oi := ⟨some 31, _, _, _, _, _⟩) (v := ?v19) rfl (by kernel_rfl) (by kernel_rfl) (by kernel_rfl) (fun _ _ _ h => h) (Or.inl ⟨by rfl, ?y19⟩) (by assumption) ?r19
  case y19 => intro w hSw; clear hSw; go_simp; (try with_reducible rfl)
  simp only [Act.put, List.setIfInBounds_toArray, List.set_cons_zero, List.set_cons_succ]
  refine wpAnyH_take (i := 23) (oi := ⟨some 32, _, _, _, _, _⟩) (v := ?v20) rfl (by kernel_rfl) (by kernel_rfl) (by kernel_rfl) (fun _ _ _ h => h) (Or.inl ⟨by rfl, ?y20⟩) (by assumption) ?r20
  case y20 => intro w hSw; skip; go_simp; (try with_reducible rfl)
  simp only [Act.put, List.setIfInBounds_toArray, List.set_cons_zero, List.set_cons_succ]
  refine wpAnyH_take (i := 24) (oi := ⟨some 33, _, _, _, _, _⟩) (v := ?v21) rfl (by kernel_rfl) (by kernel_rfl) (by kernel_rfl) (fun _ _ _ h => h) (Or.inl ⟨by rfl, ?y21⟩) (by assumption) ?r21
  case y21 => intro w hSw; clear hSw; go_simp; (try with_reducible rfl)
  simp only [Act.put, List.setIfInBounds_toArray, List.set_cons_zero, List.set_cons_succ]
  refine wpAnyH_take (i := 25) (oi := ⟨some 34, _, _, _, _, _⟩) (v := ?v22) rfl (by kernel_rfl) (by kernel_rfl) (by kernel_rfl) (fun _ _ _ h => h) (Or.inl ⟨by rfl, ?y22⟩) (by assumption) ?r22
  case y22 => intro w hSw; skip; go_simp; (try with_reducible rfl)
  simp only [Act.put, List.setIfInBounds_toArray, List.set_cons_zero, List.set_cons_succ]
  refine wpAnyH_take (i := 26) (oi := ⟨some 35, _, _, _, _, _⟩) (v := ?v23) rfl (by kernel_rfl) (by kernel_rfl) (by kernel_rfl) (fun _ _ _ h => h) (Or.inl ⟨by rfl, ?y23⟩) (by assumption) ?r23
  case y23 => intro w hSw; clear hSw; go_simp; (try with_reducible rfl)
  simp only [Act.put, List.setIfInBounds_toArray, List.set_cons_zero, List.set_cons_succ]
  refine wpAnyH_take (i := 27) (oi := ⟨some 36, _, _, _, _, _⟩) (v := ?v24) rfl (by kernel_rfl) (by kernel_rfl) (by kernel_rfl) (fun _ _ _ h => h) (Or.inl ⟨by rfl, ?y24⟩) (by assumption) ?r24
  case y24 => intro w hSw; clear hSw; go_simp; (try with_reducible rfl)
  simp only [Act.put, List.setIfInBounds_toArray, List.set_cons_zero, List.set_cons_succ]
  refine wpAnyH_take (i := 28) (oi := ⟨some 37, _, _, _, _, _⟩) (v := ?v25) rfl (by kernel_rfl) (by kernel_rfl) (by kernel_rfl) (fun _ _ _ h => h) (Or.inl ⟨by rfl, ?y25⟩) (by assumption) ?r25
  case y25 => intro w hSw; clear hSw; go_simp; (try with_reducible rfl)
  simp only [Act.put, List.setIfInBounds_toArray, List.set_cons_zero, List.set_cons_succ]
  refine wpAnyH_take (i := 29) (oi := ⟨some 38, _, _, _, _, _⟩) (v := ?v26) rfl (by kernel_rfl) (by kernel_rfl) (by kernel_rfl) (fun _ _ _ h => h) (Or.inl ⟨by rfl, ?y26⟩) (by assumption) ?r26
  case y26 => intro w hSw; skip; go_simp; (try with_reducible rfl)
  simp only [Act.put, List.setIfInBounds_toArray, List.set_cons_zero, List.set_cons_succ]
  refine wpAnyH_take (i := 32) (oi := ⟨some 41, _, _, _, _, _⟩) (v := ?v27) rfl (by kernel_rfl) (by kernel_rfl) (by kernel_rfl) (fun _ _ _ h => h) (Or.inl ⟨by rfl, ?y27⟩) (by assumption) ?r27
  case y27 => intro w hSw; clear hSw; go_simp; (try with_reducible rfl)
  simp only [Act.put, List.setIfInBounds_toArray, List.set_cons_zero, List.set_cons_succ]
  refine wpAnyH_take (i := 33) (oi := ⟨some 42, _, _, _, _, _⟩) (v := ?v28) rfl (by kernel_rfl) (by kernel_rfl) (by kernel_rfl) (fun _ _ _ h => h) (Or.inl ⟨by rfl, ?y28⟩) (by assumption) ?r28
  case y28 => intro w hSw; clear hSw; go_simp; (try with_reducible rfl)
  simp only [Act.put, List.setIfInBounds_toArray, List.set_cons_zero, List.set_cons_succ]
  refine wpAnyH_take (i := 34) (oi := ⟨some 43, _, _, _, _, _⟩) (v := ?v29) rfl (by kernel_rfl) (by kernel_rfl) (by kernel_rfl) (fun _ _ _ h => h) (Or.inl ⟨by rfl, ?y29⟩) (by assumption) ?r29
  case y29 => intro w hSw; clear hSw; go_simp; (try with_reducible rfl)
  simp only [Act.put, List.setIfInBounds_toArray, List.set_cons_zero, List.set_cons_succ]
  refine wpAnyH_take (i := 35) (oi := ⟨some 44, _, _, _, _, _⟩) (v := ?v30) rfl (by kernel_rfl) (by kernel_rfl) (by kernel_rfl) (fun _ _ _ h => h) (Or.inl ⟨by rfl, ?y30⟩) (by assumption) ?r30
  case y30 => intro w hSw; skip; go_simp; (try with_reducible rfl)
  simp only [Act.put, List.setIfInBounds_toArray, List.set_cons_zero, List.set_cons_succ]
  refine wpAnyH_take (i := 36) (oi := ⟨some 45, _, _, _, _, _⟩) (v := ?v31) rfl (by kernel_rfl) (by kernel_rfl) (by kernel_rfl) (fun _ _ _ h => h) (Or.inl ⟨by rfl, ?y31⟩) (by assumption) ?r31
  case y31 => intro w hSw; clear hSw; go_simp; (try with_reducible rfl)
  simp only [Act.put, List.setIfInBounds_toArray, List.set_cons_zero, List.set_cons_succ]
  refine wpAnyH_take (i := 37) (oi := ⟨some 46, _, _, _, _, _⟩) (v := ?v32) rfl (by kernel_rfl) (by kernel_rfl) (by kernel_rfl) (fun _ _ _ h => h) (Or.inl ⟨by rfl, ?y32⟩) (by assumption) ?r32
  case y32 => intro w hSw; clear hSw; go_simp; (try with_reducible rfl)
  simp only [Act.put, List.setIfInBounds_toArray, List.set_cons_zero, List.set_cons_succ]
  refine wpAnyH_take (i := 38) (oi := ⟨some 47, _, _, _, _, _⟩) (v := ?v33) rfl (by kernel_rfl) (by kernel_rfl) (by kernel_rfl) (fun _ _ _ h => h) (Or.inl ⟨by rfl, ?y33⟩) (by assumption) ?r33
  case y33 => intro w hSw; clear hSw; go_simp; (try with_reducible rfl)
  simp only [Act.put, List.setIfInBounds_toArray, List.set_cons_zero, List.set_cons_succ]
  refine wpAnyH_take (i := 39) (oi := ⟨some 48, _, _, _, _, _⟩) (v := ?v34) rfl (by kernel_rfl) (by kernel_rfl) (by kernel_rfl) (fun _ _ _ h => h) (Or.inl ⟨by rfl, ?y34⟩) (by assumption) ?r34
  case y34 => intro w hSw; skip; go_simp; (try with_reducible rfl)
  simp only [Act.put, List.setIfInBounds_toArray, List.set_cons_zero, List.set_cons_succ]
  refine wpAnyH_take (i := 41) (oi := ⟨some 50, _, _, _, _, _⟩) (v := ?v35) rfl (by kernel_rfl) (by kernel_rfl) (by kernel_rfl) (fun _ _ _ h => h) (Or.inl ⟨by rfl, ?y35⟩) (by assumption) ?r35
  case y35 => intro w hSw; clear hSw; go_simp; (try with_reducible rfl)
  simp only [Act.put, List.setIfInBounds_toArray, List.set_cons_zero, List.set_cons_succ]
  refine wpAnyH_take (i := 42) (oi := ⟨some 51, _, _, _, _, _⟩) (v := ?v36) rfl (by kernel_rfl) (by kernel_rfl) (by kernel_rfl) (fun _ _ _ h => h) (Or.inl ⟨by rfl, ?y36⟩) (by assumption) ?r36
  case y36 => intro w hSw; clear hSw; go_simp; (try with_reducible rfl)
  simp only [Act.put, List.setIfInBounds_toArray, List.set_cons_zero, List.set_cons_succ]
  refine wpAnyH_take (i := 43) (oi := ⟨some 52, _, _, _, _, _⟩) (v := ?v37) rfl (by kernel_rfl) (by kernel_rfl) (by kernel_rfl) (fun _ _ _ h => h) (Or.inl ⟨by rfl, ?y37⟩) (by assumption) ?r37
  case y37 => intro w hSw; clear hSw; go_simp; (try with_reducible rfl)
  simp only [Act.put, List.setIfInBounds_toArray, List.set_cons_zero, List.set_cons_succ]
  refine wpAnyH_take (i := 44) (oi := ⟨some 53, _, _, _, _, _⟩) (v := ?v38) rfl (by kernel_rfl) (by kernel_rfl) (by kernel_rfl) (fun _ _ _ h => h) (Or.inl ⟨by rfl, ?y38⟩) (by assumption) ?r38
  case y38 => intro w hSw; clear hSw; go_simp; (try with_reducible rfl)
  simp only [Act.put, List.setIfInBounds_toArray, List.set_cons_zero, List.set_cons_succ]
  refine wpAnyH_take (i := 45) (oi := ⟨some 54, _, _, _, _, _⟩) (v := ?v39) rfl (by kernel_rfl) (by kernel_rfl) (by kernel_rfl) (fun _ _ _ h => h) (Or.inl ⟨by rfl, ?y39⟩) (by assumption) ?r39
  case y39 => intro w hSw; skip; go_simp; (try with_reducible rfl)
  simp only [Act.put, List.setIfInBounds_toArray, List.set_cons_zero, List.set_cons_succ]
  refine wpAnyH_ready (rs := [4, 30]) (by kernel_rfl) (by simp) ?_
  refine AllReadyH.cons (o := ⟨some 13, _, _, _, _, _⟩) rfl (fun K hK => ?_) ?_
  · go_simp
    refine (HFu.out _ hHeld.out.at_).mono ?_
    rintro e w1 ⟨rfl, hb⟩
    (first | (with_reducible have cc := bel_cell hb (nc1 _ s.began _)) | (with_reducible have cc := bel_cell hb (nc1' _ s.began _)) | (with_reducible have cc := bel_cell hb cc) | (with_reducible have cc := bel_cell hb (nc3 _ (W.heap.size + 1 + 1) s.began _ (by simp))) | (with_reducible have cc := bel_cell hb (cell_dr (nc3 _ (W.heap.size + 1 + 1) s.began _ (by simp)))) | skip)
    go_wp2_with fail
    refine hK.out _ _ (sig_k hHeld hb) (fun hHeld => ?_)
    clear hK
    try simp only [List.setIfInBounds_toArray, List.set_cons_zero, List.set_cons_succ]
    refine wpAnyH_ready (rs := [10, 30]) (by kernel_rfl) (by simp) ?_
    refine AllReadyH.cons (o := ⟨some 19, _, _, _, _, _⟩) rfl (fun K hK => ?_) ?_
    · go_simp
      refine (HSt.out _ hHeld.out.at_).mono ?_
      rintro e w1 ⟨rfl, hb⟩
      (first | (with_reducible have cc := bel_cell hb (nc1 _ s.began _)) | (with_reducible have cc := bel_cell hb (nc1' _ s.began _)) | (with_reducible have cc := bel_cell hb cc) | (with_reducible have cc := bel_cell hb (nc3 _ (W.heap.size + 1 + 1) s.began _ (by simp))) | (with_reducible have cc := bel_cell hb (cell_dr (nc3 _ (W.heap.size + 1 + 1) s.began _ (by simp)))) | skip)
      go_wp2_with fail
      refine hK.out _ _ (sig_k hHeld hb) (fun hHeld => ?_)
      clear hK
      try simp only [List.setIfInBounds_toArray, List.set_cons_zero, List.set_cons_succ]
      refine wpAnyH_ready (rs := [14, 30]) (by kernel_rfl) (by simp) ?_
      refine AllReadyH.cons (o := ⟨some 23, _, _, _, _, _⟩) rfl (fun K hK => ?_) ?_
      · go_simp
        refine (HHo.out _ hHeld.out.at_).mono ?_
        rintro e w1 ⟨rfl, hb⟩
        (first | (with_reducible have cc := bel_cell hb (nc1 _ s.began _)) | (with_reducible have cc := bel_cell hb (nc1' _ s.began _)) | (with_reducible have cc := bel_cell hb cc) | (with_reducible have cc := bel_cell hb (nc3 _ (W.heap.size + 1 + 1) s.began _ (by simp))) | (with_reducible have cc := bel_cell hb (cell_dr (nc3 _ (W.heap.size + 1 + 1) s.began _ (by simp)))) | skip)
        go_wp2_with fail
        refine hK.out _ _ (sig_k hHeld hb) (fun hHeld => ?_)
        clear hK
        try simp only [List.setIfInBounds_toArray, List.set_cons_zero, List.set_cons_succ]
        refine wpAnyH_ready (rs := [19, 30]) (by kernel_rfl) (by simp) ?_
        refine AllReadyH.cons (o := ⟨some 28, _, _, _, _, _⟩) rfl (fun K hK => ?_) ?_
        · go_simp
          refine (HRo.out _ hHeld.out.at_).mono ?_
          rintro e w1 ⟨rfl, hb⟩
          (first | (with_reducible have cc := bel_cell hb (nc1 _ s.began _)) | (with_reducible have cc := bel_cell hb (nc1' _ s.began _)) | (with_reducible have cc := bel_cell hb cc) | (with_reducible have cc := bel_cell hb (nc3 _ (W.heap.size + 1 + 1) s.began _ (by simp))) | (with_reducible have cc := bel_cell hb (cell_dr (nc3 _ (W.heap.size + 1 + 1) s.began _ (by simp)))) | skip)
          go_wp2_with fail
          refine hK.out _ _ (sig_k hHeld hb) (fun hHeld => ?_)
          clear hK
          try simp only [List.setIfInBounds_toArray, List.set_cons_zero, List.set_cons_succ]
          refine wpAnyH_ready (rs := [30]) (by kernel_rfl) (by simp) ?_
          refine AllReadyH.cons (o := ⟨some 39, _, _, _, _, _⟩) rfl (fun K hK => ?_) AllReadyH.nil
          go_simp
          refine hK.out _ _ (sig_k hHeld (al_be _ _)) (fun hHeld => ?_)
          clear hK
          try simp only [List.setIfInBounds_toArray, List.set_cons_zero, List.set_cons_succ]
          refine wpAnyH_ready (rs := [31]) (by kernel_rfl) (by simp) ?_
          refine AllReadyH.cons (o := ⟨some 40, _, _, _, _, _⟩) rfl (fun K hK => ?_) AllReadyH.nil
          go_simp
          refine (HSu.out _ _ (by first | with_reducible exact cc | (simp at cc; exact cc) | with_reducible exact nc1 _ _ _ | with_reducible exact nc1' _ _ _)).mono ?_
          rintro e w1 ⟨rfl, hb⟩
          go_wp2_with fail
          refine hK.out _ _ (sig_k hHeld hb) (fun hHeld => ?_)
          clear hK
          try simp only [List.setIfInBounds_toArray, List.set_cons_zero, List.set_cons_succ]
          refine wpAnyH_ready (rs := [40]) (by kernel_rfl) (by simp) ?_
          refine AllReadyH.cons (o := ⟨some 49, _, _, _, _, _⟩) rfl (fun K hK => ?_) AllReadyH.nil
          go_simp
          refine (HCo.out _ hHeld.out.at_).mono ?_
          rintro e w1 ⟨rfl, hb⟩
          (first | (with_reducible have cc := bel_cell hb (nc1 _ s.began _)) | (with_reducible have cc := bel_cell hb (nc1' _ s.began _)) | (with_reducible have cc := bel_cell hb cc) | (with_reducible have cc := bel_cell hb (nc3 _ (W.heap.size + 1 + 1) s.began _ (by simp))) | (with_reducible have cc := bel_cell hb (cell_dr (nc3 _ (W.heap.size + 1 + 1) s.began _ (by simp)))) | skip)
          go_wp2_with fail
          refine hK.out _ _ (sig_k hHeld hb) (fun hHeld => ?_)
          clear hK
          try simp only [List.setIfInBounds_toArray, List.set_cons_zero, List.set_cons_succ]
          refine wpAnyH_ready (rs := [46]) (by kernel_rfl) (by simp) ?_
          refine AllReadyH.cons (o := ⟨some 55, _, _, _, _, _⟩) rfl (fun K hK => ?_) AllReadyH.nil
          go_simp
          refine (HWa.out _ hHeld.out.at_).mono ?_
          rintro e w1 ⟨rfl, hb⟩
          (first | (with_reducible have cc := bel_cell hb (nc1 _ s.began _)) | (with_reducible have cc := bel_cell hb (nc1' _ s.began _)) | (with_reducible have cc := bel_cell hb cc) | (with_reducible have cc := bel_cell hb (nc3 _ (W.heap.size + 1 + 1) s.began _ (by simp))) | (with_reducible have cc := bel_cell hb (cell_dr (nc3 _ (W.heap.size + 1 + 1) s.began _ (by simp)))) | skip)
          go_wp2_with fail
          refine hK.out _ _ (sig_k hHeld hb) (fun hHeld => ?_)
          clear hK
          try simp only [List.setIfInBounds_toArray, List.set_cons_zero, List.set_cons_succ]
          refine wpAnyH_take (i := 47) (oi := ⟨some 56, _, _, _, _, _⟩) (v := ?v40) rfl (by kernel_rfl) (by kernel_rfl) (by kernel_rfl) (fun _ _ _ h => h) (Or.inl ⟨by rfl, ?y40⟩) (by assumption) ?r40
          case y40 => intro w hSw; clear hSw; go_simp; (try with_reducible rfl)
          simp only [Act.put, List.setIfInBounds_toArray, List.set_cons_zero, List.set_cons_succ]
          refine wpAnyH_ready (rs := [48]) (by kernel_rfl) (by simp) ?_
          refine AllReadyH.cons (o := ⟨none, _, _, _, _, _⟩) rfl (fun K hK => ?_) AllReadyH.nil
          obtain ⟨cs, hsz, hre⟩ := hHeld.out.re
          rw [if_pos (by rfl)]
          refine wp_store_row _ _ _ rfl (W.heap.size + 1) #[.bool d0, .bool ov, .bool lo, .bool d3, .int .u64 (x.fl : Int), .int .u64 (d5 : Int), .int .u64 (d6 : Int), .int .u64 (s.rounds : Int), .int .u64 (d8 : Int), .int .u64 (d9 : Int)] rfl rfl _ cs hre (by kernel_rfl) hsz (by simp [Value.oneCell']) ?_
          refine hK.out _ _ (sig_row hHeld #[.bool d0, .bool ov, .bool lo, .bool d3, .int .u64 (x.fl : Int), .int .u64 (d5 : Int), .int .u64 (d6 : Int), .int .u64 (s.rounds : Int), .int .u64 (d8 : Int), .int .u64 (d9 : Int)] rfl) (fun hHeld => ?_)
          clear hK
          try simp only [List.setIfInBounds_toArray, List.set_cons_zero, List.set_cons_succ]
          refine wpAnyH_done (by kernel_rfl) ?_ _
          refine NoPanic.normal ?_
          have F1 := Lib.hid (Blk.row hre #[.bool d0, .bool ov, .bool lo, .bool d3, .int .u64 (x.fl : Int), .int .u64 (d5 : Int), .int .u64 (d6 : Int), .int .u64 (s.rounds : Int), .int .u64 (d8 : Int), .int .u64 (d9 : Int)])
          have FW := Lib.hid hHeld.out.bel
          go_wp2_with fail
          exact bodyPost_ret (results_cell rfl _ _ (W.heap.size + 1) 81 _ _ rfl F1.out Tryz.underlying81 rfl (by kernel_rfl)) rfl ⟨by rw [HT.out], FW.out⟩
        refine AllReadyH.cons (o := ⟨some 39, _, _, _, _, _⟩) rfl (fun K hK => ?_) AllReadyH.nil
        go_simp
        refine hK.out _ _ (sig_k hHeld (al_be _ _)) (fun hHeld => ?_)
        clear hK
        try simp only [List.setIfInBounds_toArray, List.set_cons_zero, List.set_cons_succ]
        refine wpAnyH_ready (rs := [19]) (by kernel_rfl) (by simp) ?_
        refine AllReadyH.cons (o := ⟨some 28, _, _, _, _, _⟩) rfl (fun K hK => ?_) AllReadyH.nil
        go_simp
        refine (HRo.out _ hHeld.out.at_).mono ?_
        rintro e w1 ⟨rfl, hb⟩
        (first | (with_reducible have cc := bel_cell hb (nc1 _ s.began _)) | (with_reducible have cc := bel_cell hb (nc1' _ s.began _)) | (with_reducible have cc := bel_cell hb cc) | (with_reducible have cc := bel_cell hb (nc3 _ (W.heap.size + 1 + 1) s.began _ (by simp))) | (with_reducible have cc := bel_cell hb (cell_dr (nc3 _ (W.heap.size + 1 + 1) s.began _ (by simp)))) | skip)
        go_wp2_with fail
        refine hK.out _ _ (sig_k hHeld hb) (fun hHeld => ?_)
        clear hK
        try simp only [List.setIfInBounds_toArray, List.set_cons_zero, List.set_cons_succ]
        refine wpAnyH_ready (rs := [31]) (by kernel_rfl) (by simp) ?_
        refine AllReadyH.cons (o := ⟨some 40, _, _, _, _, _⟩) rfl (fun K hK => ?_) AllReadyH.nil
        go_simp
        refine (HSu.out _ _ (by first | with_reducible exact cc | (simp at cc; exact cc) | with_reducible exact nc1 _ _ _ | with_reducible exact nc1' _ _ _)).mono ?_
        rintro e w1 ⟨rfl, hb⟩
        go_wp2_with fail
        refine hK.out _ _ (sig_k hHeld hb) (fun hHeld => ?_)
        clear hK
        try simp only [List.setIfInBounds_toArray, List.set_cons_zero, List.set_cons_succ]
        refine wpAnyH_ready (rs := [40]) (by kernel_rfl) (by simp) ?_
        refine AllReadyH.cons (o := ⟨some 49, _, _, _, _, _⟩) rfl (fun K hK => ?_) AllReadyH.nil
        go_simp
        refine (HCo.out _ hHeld.out.at_).mono ?_
        rintro e w1 ⟨rfl, hb⟩
        (first | (with_reducible have cc := bel_cell hb (nc1 _ s.began _)) | (with_reducible have cc := bel_cell hb (nc1' _ s.began _)) | (with_reducible have cc := bel_cell hb cc) | (with_reducible have cc := bel_cell hb (nc3 _ (W.heap.size + 1 + 1) s.began _ (by simp))) | (with_reducible have cc := bel_cell hb (cell_dr (nc3 _ (W.heap.size + 1 + 1) s.began _ (by simp)))) | skip)
        go_wp2_with fail
        refine hK.out _ _ (sig_k hHeld hb) (fun hHeld => ?_)
        clear hK
        try simp only [List.setIfInBounds_toArray, List.set_cons_zero, List.set_cons_succ]
        refine wpAnyH_ready (rs := [46]) (by kernel_rfl) (by simp) ?_
        refine AllReadyH.cons (o := ⟨some 55, _, _, _, _, _⟩) rfl (fun K hK => ?_) AllReadyH.nil
        go_simp
        refine (HWa.out _ hHeld.out.at_).mono ?_
        rintro e w1 ⟨rfl, hb⟩
        (first | (with_reducible have cc := bel_cell hb (nc1 _ s.began _)) | (with_reducible have cc := bel_cell hb (nc1' _ s.began _)) | (with_reducible have cc := bel_cell hb cc) | (with_reducible have cc := bel_cell hb (nc3 _ (W.heap.size + 1 + 1) s.began _ (by simp))) | (with_reducible have cc := bel_cell hb (cell_dr (nc3 _ (W.heap.size + 1 + 1) s.began _ (by simp)))) | skip)
        go_wp2_with fail
        refine hK.out _ _ (sig_k hHeld hb) (fun hHeld => ?_)
        clear hK
        try simp only [List.setIfInBounds_toArray, List.set_cons_zero, List.set_cons_succ]
        refine wpAnyH_take (i := 47) (oi := ⟨some 56, _, _, _, _, _⟩) (v := ?v41) rfl (by kernel_rfl) (by kernel_rfl) (by kernel_rfl) (fun _ _ _ h => h) (Or.inl ⟨by rfl, ?y41⟩) (by assumption) ?r41
        case y41 => intro w hSw; clear hSw; go_simp; (try with_reducible rfl)
        simp only [Act.put, List.setIfInBounds_toArray, List.set_cons_zero, List.set_cons_succ]
        refine wpAnyH_ready (rs := [48]) (by kernel_rfl) (by simp) ?_
        refine AllReadyH.cons (o := ⟨none, _, _, _, _, _⟩) rfl (fun K hK => ?_) AllReadyH.nil
        obtain ⟨cs, hsz, hre⟩ := hHeld.out.re
        rw [if_pos (by rfl)]
        refine wp_store_row _ _ _ rfl (W.heap.size + 1) #[.bool d0, .bool ov, .bool lo, .bool d3, .int .u64 (x.fl : Int), .int .u64 (d5 : Int), .int .u64 (d6 : Int), .int .u64 (s.rounds : Int), .int .u64 (d8 : Int), .int .u64 (d9 : Int)] rfl rfl _ cs hre (by kernel_rfl) hsz (by simp [Value.oneCell']) ?_
        refine hK.out _ _ (sig_row hHeld #[.bool d0, .bool ov, .bool lo, .bool d3, .int .u64 (x.fl : Int), .int .u64 (d5 : Int), .int .u64 (d6 : Int), .int .u64 (s.rounds : Int), .int .u64 (d8 : Int), .int .u64 (d9 : Int)] rfl) (fun hHeld => ?_)
        clear hK
        try simp only [List.setIfInBounds_toArray, List.set_cons_zero, List.set_cons_succ]
        refine wpAnyH_done (by kernel_rfl) ?_ _
        refine NoPanic.normal ?_
        have F1 := Lib.hid (Blk.row hre #[.bool d0, .bool ov, .bool lo, .bool d3, .int .u64 (x.fl : Int), .int .u64 (d5 : Int), .int .u64 (d6 : Int), .int .u64 (s.rounds : Int), .int .u64 (d8 : Int), .int .u64 (d9 : Int)])
        have FW := Lib.hid hHeld.out.bel
        go_wp2_with fail
        exact bodyPost_ret (results_cell rfl _ _ (W.heap.size + 1) 81 _ _ rfl F1.out Tryz.underlying81 rfl (by kernel_rfl)) rfl ⟨by rw [HT.out], FW.out⟩
      refine AllReadyH.cons (o := ⟨some 39, _, _, _, _, _⟩) rfl (fun K hK => ?_) AllReadyH.nil
      go_simp
      refine hK.out _ _ (sig_k hHeld (al_be _ _)) (fun hHeld => ?_)
      clear hK
      try simp only [List.setIfInBounds_toArray, List.set_cons_zero, List.set_cons_succ]
      refine wpAnyH_ready (rs := [14]) (by kernel_rfl) (by simp) ?_
      refine AllReadyH.cons (o := ⟨some 23, _, _, _, _, _⟩) rfl (fun K hK => ?_) AllReadyH.nil
      go_simp
      refine (HHo.out _ hHeld.out.at_).mono ?_
      rintro e w1 ⟨rfl, hb⟩
      (first | (with_reducible have cc := bel_cell hb (nc1 _ s.began _)) | (with_reducible have cc := bel_cell hb (nc1' _ s.began _)) | (with_reducible have cc := bel_cell hb cc) | (with_reducible have cc := bel_cell hb (nc3 _ (W.heap.size + 1 + 1) s.began _ (by simp))) | (with_reducible have cc := bel_cell hb (cell_dr (nc3 _ (W.heap.size + 1 + 1) s.began _ (by simp)))) | skip)
      go_wp2_with fail
      refine hK.out _ _ (sig_k hHeld hb) (fun hHeld => ?_)
      clear hK
      try simp only [List.setIfInBounds_toArray, List.set_cons_zero, List.set_cons_succ]
      refine wpAnyH_ready (rs := [19]) (by kernel_rfl) (by simp) ?_
      refine AllReadyH.cons (o := ⟨some 28, _, _, _, _, _⟩) rfl (fun K hK => ?_) AllReadyH.nil
      go_simp
      refine (HRo.out _ hHeld.out.at_).mono ?_
      rintro e w1 ⟨rfl, hb⟩
      (first | (with_reducible have cc := bel_cell hb (nc1 _ s.began _)) | (with_reducible have cc := bel_cell hb (nc1' _ s.began _)) | (with_reducible have cc := bel_cell hb cc) | (with_reducible have cc := bel_cell hb (nc3 _ (W.heap.size + 1 + 1) s.began _ (by simp))) | (with_reducible have cc := bel_cell hb (cell_dr (nc3 _ (W.heap.size + 1 + 1) s.began _ (by simp)))) | skip)
      go_wp2_with fail
      refine hK.out _ _ (sig_k hHeld hb) (fun hHeld => ?_)
      clear hK
      try simp only [List.setIfInBounds_toArray, List.set_cons_zero, List.set_cons_succ]
      refine wpAnyH_ready (rs := [31]) (by kernel_rfl) (by simp) ?_
      refine AllReadyH.cons (o := ⟨some 40, _, _, _, _, _⟩) rfl (fun K hK => ?_) AllReadyH.nil
      go_simp
      refine (HSu.out _ _ (by first | with_reducible exact cc | (simp at cc; exact cc) | with_reducible exact nc1 _ _ _ | with_reducible exact nc1' _ _ _)).mono ?_
      rintro e w1 ⟨rfl, hb⟩
      go_wp2_with fail
      refine hK.out _ _ (sig_k hHeld hb) (fun hHeld => ?_)
      clear hK
      try simp only [List.setIfInBounds_toArray, List.set_cons_zero, List.set_cons_succ]
      refine wpAnyH_ready (rs := [40]) (by kernel_rfl) (by simp) ?_
      refine AllReadyH.cons (o := ⟨some 49, _, _, _, _, _⟩) rfl (fun K hK => ?_) AllReadyH.nil
      go_simp
      refine (HCo.out _ hHeld.out.at_).mono ?_
      rintro e w1 ⟨rfl, hb⟩
      (first | (with_reducible have cc := bel_cell hb (nc1 _ s.began _)) | (with_reducible have cc := bel_cell hb (nc1' _ s.began _)) | (with_reducible have cc := bel_cell hb cc) | (with_reducible have cc := bel_cell hb (nc3 _ (W.heap.size + 1 + 1) s.began _ (by simp))) | (with_reducible have cc := bel_cell hb (cell_dr (nc3 _ (W.heap.size + 1 + 1) s.began _ (by simp)))) | skip)
      go_wp2_with fail
      refine hK.out _ _ (sig_k hHeld hb) (fun hHeld => ?_)
      clear hK
      try simp only [List.setIfInBounds_toArray, List.set_cons_zero, List.set_cons_succ]
      refine wpAnyH_ready (rs := [46]) (by kernel_rfl) (by simp) ?_
      refine AllReadyH.cons (o := ⟨some 55, _, _, _, _, _⟩) rfl (fun K hK => ?_) AllReadyH.nil
      go_simp
      refine (HWa.out _ hHeld.out.at_).mono ?_
      rintro e w1 ⟨rfl, hb⟩
      (first | (with_reducible have cc := bel_cell hb (nc1 _ s.began _)) | (with_reducible have cc := bel_cell hb (nc1' _ s.began _)) | (with_reducible have cc := bel_cell hb cc) | (with_reducible have cc := bel_cell hb (nc3 _ (W.heap.size + 1 + 1) s.began _ (by simp))) | (with_reducible have cc := bel_cell hb (cell_dr (nc3 _ (W.heap.size + 1 + 1) s.began _ (by simp)))) | skip)
      go_wp2_with fail
      refine hK.out _ _ (sig_k hHeld hb) (fun hHeld => ?_)
      clear hK
      try simp only [List.setIfInBounds_toArray, List.set_cons_zero, List.set_cons_succ]
      refine wpAnyH_take (i := 47) (oi := ⟨some 56, _, _, _, _, _⟩) (v := ?v42) rfl (by kernel_rfl) (by kernel_rfl) (by kernel_rfl) (fun _ _ _ h => h) (Or.inl ⟨by rfl, ?y42⟩) (by assumption) ?r42
      case y42 => intro w hSw; clear hSw; go_simp; (try with_reducible rfl)
      simp only [Act.put, List.setIfInBounds_toArray, List.set_cons_zero, List.set_cons_succ]
      refine wpAnyH_ready (rs := [48]) (by kernel_rfl) (by simp) ?_
      refine AllReadyH.cons (o := ⟨none, _, _, _, _, _⟩) rfl (fun K hK => ?_) AllReadyH.nil
      obtain ⟨cs, hsz, hre⟩ := hHeld.out.re
      rw [if_pos (by rfl)]
      refine wp_store_row _ _ _ rfl (W.heap.size + 1) #[.bool d0, .bool ov, .bool lo, .bool d3, .int .u64 (x.fl : Int), .int .u64 (d5 : Int), .int .u64 (d6 : Int), .int .u64 (s.rounds : Int), .int .u64 (d8 : Int), .int .u64 (d9 : Int)] rfl rfl _ cs hre (by kernel_rfl) hsz (by simp [Value.oneCell']) ?_
      refine hK.out _ _ (sig_row hHeld #[.bool d0, .bool ov, .bool lo, .bool d3, .int .u64 (x.fl : Int), .int .u64 (d5 : Int), .int .u64 (d6 : Int), .int .u64 (s.rounds : Int), .int .u64 (d8 : Int), .int .u64 (d9 : Int)] rfl) (fun hHeld => ?_)
      clear hK
      try simp only [List.setIfInBounds_toArray, List.set_cons_zero, List.set_cons_succ]
      refine wpAnyH_done (by kernel_rfl) ?_ _
      refine NoPanic.normal ?_
      have F1 := Lib.hid (Blk.row hre #[.bool d0, .bool ov, .bool lo, .bool d3, .int .u64 (x.fl : Int), .int .u64 (d5 : Int), .int .u64 (d6 : Int), .int .u64 (s.rounds : Int), .int .u64 (d8 : Int), .int .u64 (d9 : Int)])
      have FW := Lib.hid hHeld.out.bel
      go_wp2_with fail
      exact bodyPost_ret (results_cell rfl _ _ (W.heap.size + 1) 81 _ _ rfl F1.out Tryz.underlying81 rfl (by kernel_rfl)) rfl ⟨by rw [HT.out], FW.out⟩
    refine AllReadyH.cons (o := ⟨some 39, _, _, _, _, _⟩) rfl (fun K hK => ?_) AllReadyH.nil
    go_simp
    refine hK.out _ _ (sig_k hHeld (al_be _ _)) (fun hHeld => ?_)
    clear hK
    try simp only [List.setIfInBounds_toArray, List.set_cons_zero, List.set_cons_succ]
    refine wpAnyH_ready (rs := [10]) (by kernel_rfl) (by simp) ?_
    refine AllReadyH.cons (o := ⟨some 19, _, _, _, _, _⟩) rfl (fun K hK => ?_) AllReadyH.nil
    go_simp
    refine (HSt.out _ hHeld.out.at_).mono ?_
    rintro e w1 ⟨rfl, hb⟩
    (first | (with_reducible have cc := bel_cell hb (nc1 _ s.began _)) | (with_reducible have cc := bel_cell hb (nc1' _ s.began _)) | (with_reducible have cc := bel_cell hb cc) | (with_reducible have cc := bel_cell hb (nc3 _ (W.heap.size + 1 + 1) s.began _ (by simp))) | (with_reducible have cc := bel_cell hb (cell_dr (nc3 _ (W.heap.size + 1 + 1) s.began _ (by simp)))) | skip)
    go_wp2_with fail
    refine hK.out _ _ (sig_k hHeld hb) (fun hHeld => ?_)
    clear hK
    try simp only [List.setIfInBounds_toArray, List.set_cons_zero, List.set_cons_succ]
    refine wpAnyH_ready (rs := [14]) (by kernel_rfl) (by simp) ?_
    refine AllReadyH.cons (o := ⟨some 23, _, _, _, _, _⟩) rfl (fun K hK => ?_) AllReadyH.nil
    go_simp
    refine (HHo.out _ hHeld.out.at_).mono ?_
    rintro e w1 ⟨rfl, hb⟩
    (first | (with_reducible have cc := bel_cell hb (nc1 _ s.began _)) | (with_reducible have cc := bel_cell hb (nc1' _ s.began _)) | (with_reducible have cc := bel_cell hb cc) | (with_reducible have cc := bel_cell hb (nc3 _ (W.heap.size + 1 + 1) s.began _ (by simp))) | (with_reducible have cc := bel_cell hb (cell_dr (nc3 _ (W.heap.size + 1 + 1) s.began _ (by simp)))) | skip)
    go_wp2_with fail
    refine hK.out _ _ (sig_k hHeld hb) (fun hHeld => ?_)
    clear hK
    try simp only [List.setIfInBounds_toArray, List.set_cons_zero, List.set_cons_succ]
    refine wpAnyH_ready (rs := [19]) (by kernel_rfl) (by simp) ?_
    refine AllReadyH.cons (o := ⟨some 28, _, _, _, _, _⟩) rfl (fun K hK => ?_) AllReadyH.nil
    go_simp
    refine (HRo.out _ hHeld.out.at_).mono ?_
    rintro e w1 ⟨rfl, hb⟩
    (first | (with_reducible have cc := bel_cell hb (nc1 _ s.began _)) | (with_reducible have cc := bel_cell hb (nc1' _ s.began _)) | (with_reducible have cc := bel_cell hb cc) | (with_reducible have cc := bel_cell hb (nc3 _ (W.heap.size + 1 + 1) s.began _ (by simp))) | (with_reducible have cc := bel_cell hb (cell_dr (nc3 _ (W.heap.size + 1 + 1) s.began _ (by simp)))) | skip)
    go_wp2_with fail
    refine hK.out _ _ (sig_k hHeld hb) (fun hHeld => ?_)
    clear hK
    try simp only [List.setIfInBounds_toArray, List.set_cons_zero, List.set_cons_succ]
    refine wpAnyH_ready (rs := [31]) (by kernel_rfl) (by simp) ?_
    refine AllReadyH.cons (o := ⟨some 40, _, _, _, _, _⟩) rfl (fun K hK => ?_) AllReadyH.nil
    go_simp
    refine (HSu.out _ _ (by first | with_reducible exact cc | (simp at cc; exact cc) | with_reducible exact nc1 _ _ _ | with_reducible exact nc1' _ _ _)).mono ?_
    rintro e w1 ⟨rfl, hb⟩
    go_wp2_with fail
    refine hK.out _ _ (sig_k hHeld hb) (fun hHeld => ?_)
    clear hK
    try simp only [List.setIfInBounds_toArray, List.set_cons_zero, List.set_cons_succ]
    refine wpAnyH_ready (rs := [40]) (by kernel_rfl) (by simp) ?_
    refine AllReadyH.cons (o := ⟨some 49, _, _, _, _, _⟩) rfl (fun K hK => ?_) AllReadyH.nil
    go_simp
    refine (HCo.out _ hHeld.out.at_).mono ?_
    rintro e w1 ⟨rfl, hb⟩
    (first | (with_reducible have cc := bel_cell hb (nc1 _ s.began _)) | (with_reducible have cc := bel_cell hb (nc1' _ s.began _)) | (with_reducible have cc := bel_cell hb cc) | (with_reducible have cc := bel_cell hb (nc3 _ (W.heap.size + 1 + 1) s.began _ (by simp))) | (with_reducible have cc := bel_cell hb (cell_dr (nc3 _ (W.heap.size + 1 + 1) s.began _ (by simp)))) | skip)
    go_wp2_with fail
    refine hK.out _ _ (sig_k hHeld hb) (fun hHeld => ?_)
    clear hK
    try simp only [List.setIfInBounds_toArray, List.set_cons_zero, List.set_cons_succ]
    refine wpAnyH_ready (rs := [46]) (by kernel_rfl) (by simp) ?_
    refine AllReadyH.cons (o := ⟨some 55, _, _, _, _, _⟩) rfl (fun K hK => ?_) AllReadyH.nil
    go_simp
    refine (HWa.out _ hHeld.out.at_).mono ?_
    rintro e w1 ⟨rfl, hb⟩
    (first | (with_reducible have cc := bel_cell hb (nc1 _ s.began _)) | (with_reducible have cc := bel_cell hb (nc1' _ s.began _)) | (with_reducible have cc := bel_cell hb cc) | (with_reducible have cc := bel_cell hb (nc3 _ (W.heap.size + 1 + 1) s.began _ (by simp))) | (with_reducible have cc := bel_cell hb (cell_dr (nc3 _ (W.heap.size + 1 + 1) s.began _ (by simp)))) | skip)
    go_wp2_with fail
    refine hK.out _ _ (sig_k hHeld hb) (fun hHeld => ?_)
    clear hK
    try simp only [List.setIfInBounds_toArray, List.set_cons_zero, List.set_cons_succ]
    refine wpAnyH_take (i := 47) (oi := ⟨some 56, _, _, _, _, _⟩) (v := ?v43) rfl (by kernel_rfl) (by kernel_rfl) (by kernel_rfl) (fun _ _ _ h => h) (Or.inl ⟨by rfl, ?y43⟩) (by assumption) ?r43
    case y43 => intro w hSw; clear hSw; go_simp; (try with_reducible rfl)
    simp only [Act.put, List.setIfInBounds_toArray, List.set_cons_zero, List.set_cons_succ]
    refine wpAnyH_ready (rs := [48]) (by kernel_rfl) (by simp) ?_
    refine AllReadyH.cons (o := ⟨none, _, _, _, _, _⟩) rfl (fun K hK => ?_) AllReadyH.nil
    obtain ⟨cs, hsz, hre⟩ := hHeld.out.re
    rw [if_pos (by rfl)]
    refine wp_store_row _ _ _ rfl (W.heap.size + 1) #[.bool d0, .bool ov, .bool lo, .bool d3, .int .u64 (x.fl : Int), .int .u64 (d5 : Int), .int .u64 (d6 : Int), .int .u64 (s.rounds : Int), .int .u64 (d8 : Int), .int .u64 (d9 : Int)] rfl rfl _ cs hre (by kernel_rfl) hsz (by simp [Value.oneCell']) ?_
    refine hK.out _ _ (sig_row hHeld #[.bool d0, .bool ov, .bool lo, .bool d3, .int .u64 (x.fl : Int), .int .u64 (d5 : Int), .int .u64 (d6 : Int), .int .u64 (s.rounds : Int), .int .u64 (d8 : Int), .int .u64 (d9 : Int)] rfl) (fun hHeld => ?_)
    clear hK
    try simp only [List.setIfInBounds_toArray, List.set_cons_zero, List.set_cons_succ]
    refine wpAnyH_done (by kernel_rfl) ?_ _
    refine NoPanic.normal ?_
    have F1 := Lib.hid (Blk.row hre #[.bool d0, .bool ov, .bool lo, .bool d3, .int .u64 (x.fl : Int), .int .u64 (d5 : Int), .int .u64 (d6 : Int), .int .u64 (s.rounds : Int), .int .u64 (d8 : Int), .int .u64 (d9 : Int)])
    have FW := Lib.hid hHeld.out.bel
    go_wp2_with fail
    exact bodyPost_ret (results_cell rfl _ _ (W.heap.size + 1) 81 _ _ rfl F1.out Tryz.underlying81 rfl (by kernel_rfl)) rfl ⟨by rw [HT.out], FW.out⟩
  refine AllReadyH.cons (o := ⟨some 39, _, _, _, _, _⟩) rfl (fun K hK => ?_) AllReadyH.nil
  go_simp
  refine hK.out _ _ (sig_k hHeld (al_be _ _)) (fun hHeld => ?_)
  clear hK
  try simp only [List.setIfInBounds_toArray, List.set_cons_zero, List.set_cons_succ]
  refine wpAnyH_ready (rs := [4]) (by kernel_rfl) (by simp) ?_
  refine AllReadyH.cons (o := ⟨some 13, _, _, _, _, _⟩) rfl (fun K hK => ?_) AllReadyH.nil
  go_simp
  refine (HFu.out _ hHeld.out.at_).mono ?_
  rintro e w1 ⟨rfl, hb⟩
  (first | (with_reducible have cc := bel_cell hb (nc1 _ s.began _)) | (with_reducible have cc := bel_cell hb (nc1' _ s.began _)) | (with_reducible have cc := bel_cell hb cc) | (with_reducible have cc := bel_cell hb (nc3 _ (W.heap.size + 1 + 1) s.began _ (by simp))) | (with_reducible have cc := bel_cell hb (cell_dr (nc3 _ (W.heap.size + 1 + 1) s.began _ (by simp)))) | skip)
  go_wp2_with fail
  refine hK.out _ _ (sig_k hHeld hb) (fun hHeld => ?_)
  clear hK
  try simp only [List.setIfInBounds_toArray, List.set_cons_zero, List.set_cons_succ]
  refine wpAnyH_ready (rs := [10]) (by kernel_rfl) (by simp) ?_
  refine AllReadyH.cons (o := ⟨some 19, _, _, _, _, _⟩) rfl (fun K hK => ?_) AllReadyH.nil
  go_simp
  refine (HSt.out _ hHeld.out.at_).mono ?_
  rintro e w1 ⟨rfl, hb⟩
  (first | (with_reducible have cc := bel_cell hb (nc1 _ s.began _)) | (with_reducible have cc := bel_cell hb (nc1' _ s.began _)) | (with_reducible have cc := bel_cell hb cc) | (with_reducible have cc := bel_cell hb (nc3 _ (W.heap.size + 1 + 1) s.began _ (by simp))) | (with_reducible have cc := bel_cell hb (cell_dr (nc3 _ (W.heap.size + 1 + 1) s.began _ (by simp)))) | skip)
  go_wp2_with fail
  refine hK.out _ _ (sig_k hHeld hb) (fun hHeld => ?_)
  clear hK
  try simp only [List.setIfInBounds_toArray, List.set_cons_zero, List.set_cons_succ]
  refine wpAnyH_ready (rs := [14]) (by kernel_rfl) (by simp) ?_
  refine AllReadyH.cons (o := ⟨some 23, _, _, _, _, _⟩) rfl (fun K hK => ?_) AllReadyH.nil
  go_simp
  refine (HHo.out _ hHeld.out.at_).mono ?_
  rintro e w1 ⟨rfl, hb⟩
  (first | (with_reducible have cc := bel_cell hb (nc1 _ s.began _)) | (with_reducible have cc := bel_cell hb (nc1' _ s.began _)) | (with_reducible have cc := bel_cell hb cc) | (with_reducible have cc := bel_cell hb (nc3 _ (W.heap.size + 1 + 1) s.began _ (by simp))) | (with_reducible have cc := bel_cell hb (cell_dr (nc3 _ (W.heap.size + 1 + 1) s.began _ (by simp)))) | skip)
  go_wp2_with fail
  refine hK.out _ _ (sig_k hHeld hb) (fun hHeld => ?_)
  clear hK
  try simp only [List.setIfInBounds_toArray, List.set_cons_zero, List.set_cons_succ]
  refine wpAnyH_ready (rs := [19]) (by kernel_rfl) (by simp) ?_
  refine AllReadyH.cons (o := ⟨some 28, _, _, _, _, _⟩) rfl (fun K hK => ?_) AllReadyH.nil
  go_simp
  refine (HRo.out _ hHeld.out.at_).mono ?_
  rintro e w1 ⟨rfl, hb⟩
  (first | (with_reducible have cc := bel_cell hb (nc1 _ s.began _)) | (with_reducible have cc := bel_cell hb (nc1' _ s.began _)) | (with_reducible have cc := bel_cell hb cc) | (with_reducible have cc := bel_cell hb (nc3 _ (W.heap.size + 1 + 1) s.began _ (by simp))) | (with_reducible have cc := bel_cell hb (cell_dr (nc3 _ (W.heap.size + 1 + 1) s.began _ (by simp)))) | skip)
  go_wp2_with fail
  refine hK.out _ _ (sig_k hHeld hb) (fun hHeld => ?_)
  clear hK
  try simp only [List.setIfInBounds_toArray, List.set_cons_zero, List.set_cons_succ]
  refine wpAnyH_ready (rs := [31]) (by kernel_rfl) (by simp) ?_
  refine AllReadyH.cons (o := ⟨some 40, _, _, _, _, _⟩) rfl (fun K hK => ?_) AllReadyH.nil
  go_simp
  refine (HSu.out _ _ (by first | with_reducible exact cc | (simp at cc; exact cc) | with_reducible exact nc1 _ _ _ | with_reducible exact nc1' _ _ _)).mono ?_
  rintro e w1 ⟨rfl, hb⟩
  go_wp2_with fail
  refine hK.out _ _ (sig_k hHeld hb) (fun hHeld => ?_)
  clear hK
  try simp only [List.setIfInBounds_toArray, List.set_cons_zero, List.set_cons_succ]
  refine wpAnyH_ready (rs := [40]) (by kernel_rfl) (by simp) ?_
  refine AllReadyH.cons (o := ⟨some 49, _, _, _, _, _⟩) rfl (fun K hK => ?_) AllReadyH.nil
  go_simp
  refine (HCo.out _ hHeld.out.at_).mono ?_
  rintro e w1 ⟨rfl, hb⟩
  (first | (with_reducible have cc := bel_cell hb (nc1 _ s.began _)) | (with_reducible have cc := bel_cell hb (nc1' _ s.began _)) | (with_reducible have cc := bel_cell hb cc) | (with_reducible have cc := bel_cell hb (nc3 _ (W.heap.size + 1 + 1) s.began _ (by simp))) | (with_reducible have cc := bel_cell hb (cell_dr (nc3 _ (W.heap.size + 1 + 1) s.began _ (by simp)))) | skip)
  go_wp2_with fail
  refine hK.out _ _ (sig_k hHeld hb) (fun hHeld => ?_)
  clear hK
  try simp only [List.setIfInBounds_toArray, List.set_cons_zero, List.set_cons_succ]
  refine wpAnyH_ready (rs := [46]) (by kernel_rfl) (by simp) ?_
  refine AllReadyH.cons (o := ⟨some 55, _, _, _, _, _⟩) rfl (fun K hK => ?_) AllReadyH.nil
  go_simp
  refine (HWa.out _ hHeld.out.at_).mono ?_
  rintro e w1 ⟨rfl, hb⟩
  (first | (with_reducible have cc := bel_cell hb (nc1 _ s.began _)) | (with_reducible have cc := bel_cell hb (nc1' _ s.began _)) | (with_reducible have cc := bel_cell hb cc) | (with_reducible have cc := bel_cell hb (nc3 _ (W.heap.size + 1 + 1) s.began _ (by simp))) | (with_reducible have cc := bel_cell hb (cell_dr (nc3 _ (W.heap.size + 1 + 1) s.began _ (by simp)))) | skip)
  go_wp2_with fail
  refine hK.out _ _ (sig_k hHeld hb) (fun hHeld => ?_)
  clear hK
  try simp only [List.setIfInBounds_toArray, List.set_cons_zero, List.set_cons_succ]
  refine wpAnyH_take (i := 47) (oi := ⟨some 56, _, _, _, _, _⟩) (v := ?v44) rfl (by kernel_rfl) (by kernel_rfl) (by kernel_rfl) (fun _ _ _ h => h) (Or.inl ⟨by rfl, ?y44⟩) (by assumption) ?r44
  case y44 => intro w hSw; clear hSw; go_simp; (try with_reducible rfl)
  simp only [Act.put, List.setIfInBounds_toArray, List.set_cons_zero, List.set_cons_succ]
  refine wpAnyH_ready (rs := [48]) (by kernel_rfl) (by simp) ?_
  refine AllReadyH.cons (o := ⟨none, _, _, _, _, _⟩) rfl (fun K hK => ?_) AllReadyH.nil
  obtain ⟨cs, hsz, hre⟩ := hHeld.out.re
  rw [if_pos (by rfl)]
  refine wp_store_row _ _ _ rfl (W.heap.size + 1) #[.bool d0, .bool ov, .bool lo, .bool d3, .int .u64 (x.fl : Int), .int .u64 (d5 : Int), .int .u64 (d6 : Int), .int .u64 (s.rounds : Int), .int .u64 (d8 : Int), .int .u64 (d9 : Int)] rfl rfl _ cs hre (by kernel_rfl) hsz (by simp [Value.oneCell']) ?_
  refine hK.out _ _ (sig_row hHeld #[.bool d0, .bool ov, .bool lo, .bool d3, .int .u64 (x.fl : Int), .int .u64 (d5 : Int), .int .u64 (d6 : Int), .int .u64 (s.rounds : Int), .int .u64 (d8 : Int), .int .u64 (d9 : Int)] rfl) (fun hHeld => ?_)
  clear hK
  try simp only [List.setIfInBounds_toArray, List.set_cons_zero, List.set_cons_succ]
  refine wpAnyH_done (by kernel_rfl) ?_ _
  refine NoPanic.normal ?_
  have F1 := Lib.hid (Blk.row hre #[.bool d0, .bool ov, .bool lo, .bool d3, .int .u64 (x.fl : Int), .int .u64 (d5 : Int), .int .u64 (d6 : Int), .int .u64 (s.rounds : Int), .int .u64 (d8 : Int), .int .u64 (d9 : Int)])
  have FW := Lib.hid hHeld.out.bel
  go_wp2_with fail
  exact bodyPost_ret (results_cell rfl _ _ (W.heap.size + 1) 81 _ _ rfl F1.out Tryz.underlying81 rfl (by kernel_rfl)) rfl ⟨by rw [HT.out], FW.out⟩
end Go.Proofs.YtpkbjfhicocogaaGreatDoor
