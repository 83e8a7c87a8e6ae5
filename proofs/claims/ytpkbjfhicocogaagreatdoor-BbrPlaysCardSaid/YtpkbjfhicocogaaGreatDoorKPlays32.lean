/- 2 texts put together: what each one says stands ahead of it. -/
import Derived.Test.YtpkbjfhicocogaaGreatDoorKPlays31
import Derived.Test.YtpkbjfhicocogaaGreatDoorKPlays26
/- Contracts of package bbr over this translation: On, whole; New; Limits; no engine. -/
set_option linter.unusedVariables false
namespace Go.Proofs.YtpkbjfhicocogaaGreatDoor
open Go.RowKit Cf

theorem bool_st (n : Int) (a : Int) : ((n == a) = true ∧ n = a) ∨ ((n == a) = false ∧ n ≠ a) := by
  by_cases h : n = a
  · exact Or.inl ⟨beq_iff_eq.2 h, h⟩
  · exact Or.inr ⟨beq_eq_false_iff_ne.2 h, h⟩

theorem en_On {B k : Nat} {P : EP} {s : ES} (x : EvS) (hx : x.ok) (W : World) (h : EngAt W B P s) (ho : s.ok k) (hk : k ≤ 900) :
    Calls Tryz.prog 8 #[.pointer (some ⟨P.b, 0, none⟩), x.val] W (EPost B P (.returned (.tuple #[])) (s.on x) W) := by
  have o1 := ES.count_ok ho x
  have o2 := ES.mea_ok o1 hx hk
  have o3 := ES.e3_ok ho hx hk
  have o4 := ES.e4_ok ho hx hk
  have o5 := ES.e5_ok ho hx hk
  have o6 := ES.e6_ok ho hx hk
  have o7 := ES.e7_ok ho hx hk
  have HCo := fun w h => en_count (B := B) (P := P) (s := s) x hx w h ho
  have HMe := fun w h => en_measure (B := B) (P := P) x hx w h o1 hk
  have HSe := fun w h => en_settle (B := B) (P := P) (s := (s.count x).mea x) w h o2
  have HBe := fun w (h : EngAt w B P (s.e3 x)) => cy_Best P.y (s.e3 x).y w h.y
  have HPu : ∀ ov sl w, EngAt w B P (s.e3 x) → Calls Tryz.prog 36 #[.pointer (some ⟨P.p, 0, none⟩), .int .u64 ((s.e3 x).y.best : Int), .bool ov, .bool sl] w fun e w' => e = .returned (.tuple #[]) ∧ MutN w B P ((s.e3 x).pput ov sl) w' := fun ov sl w h =>
    (pi_Put P.p (s.e3 x).y.best ov sl (s.e3 x).p w h.p o3.p (CY.best_le o3.ya o3.yt)).mono fun e w' q => ⟨q.1, MutN.pi h q.2.1 q.2.2⟩
  have HYi := fun w h => en_yield (B := B) (P := P) (s := s.e4 x) x hx w h o4
  have HSi := fun ov lo w h => en_signal (B := B) (P := P) (s := s.e5 x) x hx ov lo w h o5
  have HNe := fun ov lo w => mo_Next (s.e5 x).st ((s.e5 x).sig x ov lo) (ES.sig_ok o5 hx ov lo) w
  have HTu := fun t w h => en_turn (B := B) (P := P) (s := s.e5 x) x.now t w h o5
  have HPs := fun w => bd_Push (s.e6 x).bs x.ac w o6.bs hx.ac
  have HOp := fun w h => en_open (B := B) (P := P) (s := s.e7 x) x.ac hx.ac w h o7
  have e7 : s.el x = false → (((s.e6 x).st == 5) = true ∧ s.e7 x = { s.e6 x with bs := (s.e6 x).bs.push x.ac }) ∨ (((s.e6 x).st == 5) = false ∧ s.e7 x = s.e6 x) := fun hl => by
    rcases bool_st (s.e6 x).st 5 with ⟨a, b⟩ | ⟨a, b⟩
    · exact Or.inl ⟨a, by unfold ES.e7; rw [if_pos ⟨b, hl⟩]; rfl⟩
    · exact Or.inr ⟨a, by unfold ES.e7; rw [if_neg (fun q => b q.1)]⟩
  have e7' : s.el x = true → (((s.e6 x).st == 5) = true ∧ s.e7 x = s.e6 x) ∨ (((s.e6 x).st == 5) = false ∧ s.e7 x = s.e6 x) := fun hl => by
    have : s.e7 x = s.e6 x := by unfold ES.e7; rw [if_neg (fun q => by rw [hl] at q; exact absurd q.2 (by simp))]
    rcases bool_st (s.e6 x).st 5 with ⟨a, b⟩ | ⟨a, b⟩
    · exact Or.inl ⟨a, this⟩
    · exact Or.inr ⟨a, this⟩
  have e3n : s.eo x = false → (s.count x).mea x = s.e3 x := fun q => by
    have q' : (s.count x).over x = false := q
    unfold ES.e3; rw [q']; rfl
  have e3y : s.eo x = true → ((s.count x).mea x).settle = s.e3 x := fun q => by
    have q' : (s.count x).over x = true := q
    unfold ES.e3; rw [if_pos q']
  have e4n : x.sm = false → s.e3 x = s.e4 x := fun q => by unfold ES.e4; rw [q]; rfl
  have e4y : x.sm = true → (s.e3 x).pput (s.eo x) x.sl = s.e4 x := fun q => by unfold ES.e4; rw [if_pos q]
  have e5n : s.el x = false → s.e4 x = s.e5 x := fun q => by unfold ES.e5; rw [q]; rfl
  have e5y : s.el x = true → (s.e4 x).yield x = s.e5 x := fun q => by unfold ES.e5; rw [if_pos q]
  have e6 : ∀ ov lo, s.eo x = ov → s.el x = lo → (s.e5 x).turn x.now (nextS (s.e5 x).st ((s.e5 x).sig x ov lo)) = s.e6 x := fun ov lo a b => by unfold ES.e6; rw [a, b]
  have hel : s.el x = (s.eo x && ((s.count x).mea x).lossy) := rfl
  have hov : s.eo x = (x.sm && (s.count x).n.ackB (Pl.subS x.dl x.sd)) := rfl
  have hme : (s.count x).over x = s.eo x := rfl
  rw [hme] at HMe
  clear hme
  show Calls Tryz.prog 8 #[.pointer (some ⟨P.b, 0, none⟩), x.val] W (EPost B P (.returned (.tuple #[])) { s.e7 x with cwnd := (s.e7 x).open x.ac } W)
  generalize heo : s.eo x = ov at *
  generalize hlo : s.el x = lo at *
  generalize hll : ((s.count x).mea x).lossy = ll at *
  clear heo hlo hll o1 o2 o3 o4 o5 o6 o7
  generalize (s.count x).mea x = s2 at *
  generalize s.count x = s1 at *
  generalize s.e3 x = s3 at *
  generalize s.e4 x = s4 at *
  generalize s.e5 x = s5 at *
  generalize s.e6 x = s6 at *
  generalize s.e7 x = s7 at *
  obtain ⟨now, sd, si, sr, rt, sl, sm, dl, ac, lo', fl⟩ := x
  cases sm with
  | false =>
    obtain rfl : ov = false := hov
    obtain rfl : lo = false := by rw [hel]; rfl
    obtain rfl := e3n rfl
    obtain rfl := e4n rfl
    obtain rfl := e5n rfl
    have q6 := e6 false false rfl rfl
    exact en_On_ff (best := 0) (s3 := s2) (s4 := s2) (s5 := s2) W h HCo HMe (HSi false false) (HNe false false) (fun w h => q6 ▸ HTu _ w h) HPs HOp (e7 rfl)
  | true =>
    cases ov with
    | false =>
      obtain rfl : lo = false := by rw [hel]; rfl
      obtain rfl := e3n rfl
      obtain rfl := e4y rfl
      obtain rfl := e5n rfl
      have q6 := e6 false false rfl rfl
      exact en_On_tf (s3 := s2) (s5 := s2) W h HCo HMe HBe (HPu false sl) (HSi false false) (HNe false false) (fun w h => q6 ▸ HTu _ w h) HPs HOp (e7 rfl)
    | true =>
      obtain rfl : lo = ll := by rw [hel]; rfl
      obtain rfl := e3y rfl
      obtain rfl := e4y rfl
      cases lo with
      | false =>
        obtain rfl := e5n rfl
        have q6 := e6 true false rfl rfl
        exact en_On_tt (s5 := s2) W h HCo HMe HSe HBe (HPu true sl) (HSi true false) (HNe true false) (fun w h => q6 ▸ HTu _ w h) HPs HOp (e7 rfl)
      | true =>
        obtain rfl := e5y rfl
        have q6 := e6 true true rfl rfl
        exact en_On_ttt (bs7 := s6.bs.push ac) W h HCo HMe HSe HBe (HPu true sl) HYi (HSi true true) (HNe true true) (fun w h => q6 ▸ HTu _ w h) HPs HOp (e7' rfl)

theorem en_Limits {B : Nat} {P : EP} {s : ES} (w : World) (h : EngAt w B P s) :
    Calls Tryz.prog 32 #[.pointer (some ⟨P.b, 0, none⟩)] w fun e w' => e = .returned (.agg s.bs.cells) ∧ Below w.heap.size w w' := by
  have A0 := Lib.hid (h.e.alloc (.cells #[.int .u64 0, .int .u64 0, .int .u64 0] 52))
  have c7 := A0.out.cell (i := 7) (v := .int .u64 (s.bs.hi : Int)) rfl
  have c8 := A0.out.cell (i := 8) (v := .int .u64 (s.bs.lo : Int)) rfl
  have c9 := A0.out.cell (i := 9) (v := .int .u64 (s.bs.bw : Int)) rfl
  clear h
  go_enter Tryz.func32, Tryz.ntmps32
  go_wp2
  exact bodyPost_ret (results_cell rfl _ _ w.heap.size 52 _ _ rfl (Blk.new w _ _) Tryz.underlying52 rfl (by kernel_rfl)) rfl ⟨rfl, al_be _ _⟩

theorem en_On_nil (w : World) : Calls Tryz.prog 8 #[.pointer none, .agg #[.int .u64 0, .int .u64 0, .int .u64 0, .int .u64 0, .int .u64 0, .bool false, .bool false, .int .u64 0, .int .u64 0, .int .u64 0, .int .u64 0]] w fun e w' => e = .returned (.tuple #[]) ∧ Below w.heap.size w w' := by
  go_enter Tryz.func8, Tryz.ntmps8
  go_wp2
  exact bodyPost_ret (v := .tuple #[]) (by simp [results, Tryz.results8, go_sem]) rfl ⟨rfl, al_be _ _⟩
theorem en_Limits_nil (w : World) : Calls Tryz.prog 32 #[.pointer none] w fun e w' => e = .returned (.agg #[.int .u64 0, .int .u64 0, .int .u64 0]) ∧ Below w.heap.size w w' := by
  go_enter Tryz.func32, Tryz.ntmps32
  go_wp2
  exact bodyPost_ret (results_cell rfl _ _ w.heap.size 52 _ _ rfl (Blk.new w _ _) Tryz.underlying52 rfl (by kernel_rfl)) rfl ⟨rfl, al_be _ _⟩

theorem en_State_nil (w : World) : Calls Tryz.prog 12 #[.pointer none] w fun e w' => e = .returned (.int .i64 0) ∧ Below w.heap.size w w' := by
  go_enter Tryz.func12, Tryz.ntmps12
  go_wp2
  go_ret
  exact ⟨rfl, Below.refl _ _⟩
theorem en_Cwnd_nil (w : World) : Calls Tryz.prog 13 #[.pointer none] w fun e w' => e = .returned (.int .u64 0) ∧ Below w.heap.size w w' := by
  go_enter Tryz.func13, Tryz.ntmps13
  go_wp2
  go_ret
  exact ⟨rfl, Below.refl _ _⟩
theorem en_Pace_nil (w : World) : Calls Tryz.prog 16 #[.pointer none] w fun e w' => e = .returned (.int .u64 0) ∧ Below w.heap.size w w' := by
  go_enter Tryz.func16, Tryz.ntmps16
  go_wp2
  go_ret
  exact ⟨rfl, Below.refl _ _⟩
theorem en_Quantum_nil (w : World) : Calls Tryz.prog 17 #[.pointer none] w fun e w' => e = .returned (.int .u64 0) ∧ Below w.heap.size w w' := by
  go_enter Tryz.func17, Tryz.ntmps17
  go_wp2
  go_ret
  exact ⟨rfl, Below.refl _ _⟩
theorem en_Least_nil (w : World) : Calls Tryz.prog 15 #[.pointer none] w fun e w' => e = .returned (.int .u64 0) ∧ Below w.heap.size w w' := by
  go_enter Tryz.func15, Tryz.ntmps15
  go_wp2
  go_ret
  exact ⟨rfl, Below.refl _ _⟩
theorem en_Best_nil (w : World) : Calls Tryz.prog 14 #[.pointer none] w fun e w' => e = .returned (.int .u64 0) ∧ Below w.heap.size w w' := by
  go_enter Tryz.func14, Tryz.ntmps14
  go_wp2
  go_ret
  exact ⟨rfl, Below.refl _ _⟩

/-- A new engine, at W's end and behind it. -/
structure NewPost (W : World) (c : Setup) (e : Ending) (w : World) : Prop where
  at_ : ∃ P : EP, e = .returned (.tuple #[.pointer (some ⟨P.b, 0, none⟩), .int .i64 0]) ∧ EngAt w W.heap.size P (ES.new c)
  bel : Below W.heap.size W w
structure NewI (W : World) (c : Setup) (w : World) : Prop where
  b : Blk w W.heap.size 24 (ccells c)
  bel : Below W.heap.size W w
theorem ni_k {W w w' : World} {c : Setup} (h : Hid (NewI W c w)) (k : Below w.heap.size w w') : Hid (NewI W c w') := Lib.hid ⟨h.out.b.keep k, bel_to h.out.bel k h.out.bel.size⟩
theorem ni_r {W : World} {c : Setup} {i : Nat} {v : Value} (hv : (ccells c)[i]? = some v) : ∀ w, Hid (NewI W c w) → w.cell? ⟨W.heap.size, i, none⟩ = some v := fun w q => q.out.b.cell hv
theorem Gl.lt {w : World} (h : Gl w) : 0 < w.heap.size := World.block_lt_of_cell? w _ (h 0 (by omega)).1
theorem FlAt.below {w w' : World} {a b g : Nat} {f : FS} (h : FlAt w a b g f) (k : Below w.heap.size w w') : FlAt w' a b g f := h.keep k

set_option maxHeartbeats 2000000 in
theorem en_New_ok (c : Setup) (hc : ∀ i, c i ≤ 18446744073709551615) (hr : rightC c = true) (W : World) (hg : Gl W) :
    Calls Tryz.prog 5 #[.agg (ccells c)] W (NewPost W c) := by
  have HR := Lib.hid (fun w => conf_Right c hc w)
  have HE := Lib.hid (fun w => pi_Empty w)
  have HN := Lib.hid (fun w => bd_None w)
  have HL := Lib.hid (fun w => fl_Least (c 3) w)
  have HY := Lib.hid (fun w => cy_New w)
  have HC := Lib.hid (fun w => ct_New w)
  have HF := Lib.hid (fun w => conf_First c w hc)
  have HG := Lib.hid hg
  have N0 : Hid (NewI W c (W.alloc (.cells (ccells c) 24))) := Lib.hid ⟨Blk.new W _ _, al_be _ _⟩
  rw [hr] at HR

  have r0 := ni_r (W := W) (c := c) (i := 0) (v := .int .u64 (c 0 : Int)) rfl
  have r1 := ni_r (W := W) (c := c) (i := 1) (v := .int .u64 (c 1 : Int)) rfl
  have r2 := ni_r (W := W) (c := c) (i := 2) (v := .int .u64 (c 2 : Int)) rfl
  have r3 := ni_r (W := W) (c := c) (i := 3) (v := .int .u64 (c 3 : Int)) rfl
  have r4 := ni_r (W := W) (c := c) (i := 4) (v := .int .u64 (c 4 : Int)) rfl
  have r5 := ni_r (W := W) (c := c) (i := 5) (v := .int .u64 (c 5 : Int)) rfl
  clear hg hr hc
  have HX : Hid (ccells c = #[.int .u64 (c 0 : Int), .int .u64 (c 1 : Int), .int .u64 (c 2 : Int), .int .u64 (c 3 : Int), .int .u64 (c 4 : Int), .int .u64 (c 5 : Int)]) := Lib.hid rfl
  generalize hq : firstC c = fc at *
  rw [HX.out] at N0 HR HF ⊢
  simp only [BS.cells] at HN
  go_enter Tryz.func5, Tryz.ntmps5
  go_wp2_with fail
  refine (HR.out _).mono ?_
  rintro e w1 ⟨rfl, hb⟩
  have N1 := ni_k N0 hb
  clear N0 hb HR
  go_wp2_with fail
  have N2 := ni_k N1 ((Drawn.drew w1).below _)
  go_region_held3 (fun w' => Hid (NewI W c w'))
    (first | with_reducible exact N2 | with_reducible exact N3 | with_reducible exact N4 | with_reducible exact N5 | with_reducible exact N6 | with_reducible exact N7 | with_reducible exact N8 | exact ni_k N8 (al_be _ _))
    (first
      | (go_at_call 19; (with_reducible refine (HE.out _).mono ?_); rintro e w2 ⟨rfl, hb⟩; have N3 : Hid (NewI W c w2) := (by subst hb; exact ni_k N2 (al_be _ _)); have P3 : Hid (Blk w2 w1.heap.size 104 Pi.zero.cells) := (by subst hb; exact Lib.hid (Blk.new _ _ _)); have Z3 : Hid (w2.heap.size = w1.heap.size + 1) := (by subst hb; exact Lib.hid (by simp)); clear hb)
      | (go_at_call 20; (with_reducible refine (HN.out _).mono ?_); rintro e w3 ⟨rfl, hb⟩; have N4 := ni_k N3 hb; have P4 := Lib.hid (P3.out.keep hb); clear hb)
      | (go_at_call 21; (with_reducible refine (HL.out _).mono ?_); rintro e w4 hp; obtain ⟨fa, fb, fg, rfl, hfl, hsa, hsb, hsg⟩ := hp.at_; have N5 := ni_k N4 hp.bel; have P5 := Lib.hid (P4.out.keep hp.bel); have F5 := Lib.hid hfl; have A5 := Lib.hid (show W.heap.size ≤ fa ∧ W.heap.size ≤ fb ∧ W.heap.size ≤ fg from ⟨Nat.le_trans N4.out.bel.size hsa, Nat.le_trans N4.out.bel.size hsb, Nat.le_trans N4.out.bel.size hsg⟩); clear hp hfl hsa hsb hsg)
      | (go_at_call 22; (with_reducible refine (HY.out _).mono ?_); rintro e w5 ⟨rfl, hy, hb⟩; have N6 := ni_k N5 hb; have P6 := Lib.hid (P5.out.keep hb); have F6 := Lib.hid (F5.out.keep hb); have Y6 := Lib.hid hy; clear hb hy)
      | (go_at_call 23; (with_reducible refine (HC.out _).mono ?_); rintro e w6 ⟨rfl, hb⟩; have K6 : Hid (Below w5.heap.size w5 w6) := (by subst hb; exact Lib.hid (al_be _ _)); have C7 : Hid (Blk w6 w5.heap.size 115 Ct.zero.cells) := (by subst hb; exact Lib.hid (Blk.new _ _ _)); have N7 := ni_k N6 K6.out; have P7 := Lib.hid (P6.out.keep K6.out); have F7 := Lib.hid (F6.out.keep K6.out); have Y7 := Lib.hid (Blk.keep Y6.out K6.out); clear hb)
      | (go_at_call 24; (with_reducible refine (HF.out _).mono ?_); rintro e w7 ⟨rfl, hb⟩; have N8 := ni_k N7 hb; have P8 := Lib.hid (P7.out.keep hb); have F8 := Lib.hid (F7.out.keep hb); have Y8 := Lib.hid (Blk.keep Y7.out hb); have C8 := Lib.hid (C7.out.keep hb); clear hb))
  have sz := N8.out.bel.size
  have s1 := N1.out.bel.size
  have s5 := N5.out.bel.size
  have s4 := N4.out.bel.size
  have s6 := N6.out.bel.size
  have EA : EngAt (w7.alloc (.cells (ecells ⟨w7.heap.size, w1.heap.size, fa, fb, w4.heap.size, w5.heap.size⟩ (ES.new c)) 62)) W.heap.size ⟨w7.heap.size, w1.heap.size, fa, fb, w4.heap.size, w5.heap.size⟩ (ES.new c) :=
    ⟨Blk.new _ _ _, P8.out.keep (al_be _ _), ⟨fg, A5.out.2.2, F8.out.keep (al_be _ _)⟩, Blk.keep Y8.out (al_be _ _), C8.out.keep (al_be _ _),
      Gl.below (B := W.heap.size) HG.out (bel_to N8.out.bel (al_be _ _) sz) HG.out.lt, HG.out.lt, ⟨sz, s1, A5.out.1, A5.out.2.1, s5, s6⟩⟩
  have EB := bel_to N8.out.bel (al_be w7 (.cells (ecells ⟨w7.heap.size, w1.heap.size, fa, fb, w4.heap.size, w5.heap.size⟩ (ES.new c)) 62)) sz
  subst hq
  clear N1 N2 N3 N4 N5 N6 N7 N8 P3 P4 P5 P6 P7 P8 F5 F6 F7 F8 Y6 Y7 Y8 C7 C8 K6 A5 Z3 HE HN HL HY HC HF
  go_wp2_with fail
  go_ret2
  exact ⟨⟨_, rfl, EA⟩, EB⟩

theorem en_New_no (c : Setup) (hc : ∀ i, c i ≤ 18446744073709551615) (hr : rightC c = false) (W : World) :
    Calls Tryz.prog 5 #[.agg (ccells c)] W fun e w' => e = .returned (.tuple #[.pointer none, .int .i64 1]) ∧ Below W.heap.size W w' := by
  have HR := Lib.hid (fun w => conf_Right c hc w)
  have N0 : Hid (NewI W c (W.alloc (.cells (ccells c) 24))) := Lib.hid ⟨Blk.new W _ _, al_be _ _⟩
  rw [hr] at HR
  clear hr hc
  have HX : Hid (ccells c = #[.int .u64 (c 0 : Int), .int .u64 (c 1 : Int), .int .u64 (c 2 : Int), .int .u64 (c 3 : Int), .int .u64 (c 4 : Int), .int .u64 (c 5 : Int)]) := Lib.hid rfl
  rw [HX.out] at N0 HR ⊢
  go_enter Tryz.func5, Tryz.ntmps5
  go_wp2_with fail
  refine (HR.out _).mono ?_
  rintro e w1 ⟨rfl, hb⟩
  have N1 := ni_k N0 hb
  clear N0 hb HR
  go_wp2_with fail
  go_ret2
  exact ⟨rfl, N1.out.bel⟩
end Go.Proofs.YtpkbjfhicocogaaGreatDoor

/- The live question of layer 15 is answered as it is fixed, over this translation. -/
set_option linter.unusedVariables false
namespace Go.Proofs.YtpkbjfhicocogaaGreatDoor
open Go.RowKit Cf

set_option maxHeartbeats 2000000 in
theorem alive15 (W : World) (hg : Gl W) : Calls Tryz.prog 4 #[] W fun e w' => e = .returned (.bool true) ∧ Below W.heap.size W w' := by
  have HD := Lib.hid (conf_Default W)
  have HN := Lib.hid (fun w hg => en_New_ok defC defC_le defC_right w hg)
  have HG := Lib.hid hg
  have HO := Lib.hid (fun B P w h => en_On (B := B) (k := 0) (P := P) (s := ES.new defC) evA evA_ok w h (ES.new_ok defC_le) (by omega))
  have ok1 := ES.on_ok (ES.new_ok defC_le) evA_ok (Nat.zero_le _)
  have hm := alive_math
  generalize (ES.new defC).on evA = s at *
  have HSt := Lib.hid (fun B P w h => en_State (B := B) (P := P) (s := s) w h)
  have HCw := Lib.hid (fun B P w h => en_Cwnd (B := B) (P := P) (s := s) w h)
  have HBe := Lib.hid (fun B P w h => en_Best (B := B) (P := P) (s := s) w h ok1)
  have HLe := Lib.hid (fun B P w h => en_Least (B := B) (P := P) (s := s) w h)
  have HPa := Lib.hid (fun B P w h => en_Pace (B := B) (P := P) (s := s) w h ok1)
  have HQu := Lib.hid (fun B P w h => en_Quantum (B := B) (P := P) (s := s) w h ok1)
  rw [hm.1] at HSt
  rw [hm.2.1] at HCw
  rw [hm.2.2.1] at HBe
  rw [hm.2.2.2.1] at HLe
  rw [hm.2.2.2.2.1] at HPa
  rw [hm.2.2.2.2.2] at HQu
  clear hm ok1 hg
  rw [show evA.val = .agg #[.int .u64 50000, .int .u64 15000, .int .u64 50000, .int .u64 300000, .int .u64 50000, .bool false, .bool true, .int .u64 15000, .int .u64 15000, .int .u64 0, .int .u64 0] from rfl] at HO
  go_enter Tryz.func4, Tryz.ntmps4
  go_wp2_with fail
  refine (HD.out).mono ?_
  rintro e w0 ⟨rfl, hb⟩
  have G0 := Lib.hid (HG.out.keep hb)
  have B0 := Lib.hid hb
  clear hb HD HG
  go_wp2_with fail
  refine (HN.out _ G0.out).mono ?_
  rintro e w1 hp
  obtain ⟨P, rfl, hE⟩ := hp.at_
  have E1 := Lib.hid hE
  have B1 := Lib.hid (bel_to B0.out hp.bel B0.out.size)
  have HZ : Hid (W.heap.size ≤ w0.heap.size) := Lib.hid B0.out.size
  have B0' := Lib.hid hp.bel
  clear hp hE G0 HN
  go_wp2_with fail
  refine (HO.out _ _ _ E1.out).mono ?_
  rintro e w2 h1
  obtain rfl := h1.e
  have E2 := Lib.hid h1.at_
  have B2 := Lib.hid (B1.out.trans (h1.bel.mono HZ.out))
  clear h1 E1 B1 B0 B0' HO HZ
  go_wp2_with fail
  refine (HSt.out _ _ _ E2.out).mono ?_
  rintro e w3 ⟨rfl, hb⟩
  have E3 := Lib.hid (E2.out.keep hb)
  have B3 := Lib.hid (bel_to B2.out hb B2.out.size)
  clear hb E2 B2 HSt
  go_wp2_with fail
  refine (HCw.out _ _ _ E3.out).mono ?_
  rintro e w4 ⟨rfl, hb⟩
  have E4 := Lib.hid (E3.out.keep hb)
  have B4 := Lib.hid (bel_to B3.out hb B3.out.size)
  clear hb E3 B3 HCw
  go_wp2_with fail
  refine (HBe.out _ _ _ E4.out).mono ?_
  rintro e w5 ⟨rfl, hb⟩
  have E5 := Lib.hid (E4.out.keep hb)
  have B5 := Lib.hid (bel_to B4.out hb B4.out.size)
  clear hb E4 B4 HBe
  go_wp2_with fail
  refine (HLe.out _ _ _ E5.out).mono ?_
  rintro e w6 ⟨rfl, hb⟩
  have E6 := Lib.hid (E5.out.keep hb)
  have B6 := Lib.hid (bel_to B5.out hb B5.out.size)
  clear hb E5 B5 HLe
  go_wp2_with fail
  refine (HPa.out _ _ _ E6.out).mono ?_
  rintro e w7 ⟨rfl, hb⟩
  have E7 := Lib.hid (E6.out.keep hb)
  have B7 := Lib.hid (bel_to B6.out hb B6.out.size)
  clear hb E6 B6 HPa
  go_wp2_with fail
  refine (HQu.out _ _ _ E7.out).mono ?_
  rintro e w8 ⟨rfl, hb⟩
  have E8 := Lib.hid (E7.out.keep hb)
  have B8 := Lib.hid (bel_to B7.out hb B7.out.size)
  clear hb E7 B7 HQu
  go_wp2_with fail
  go_ret
  exact ⟨rfl, B8.out⟩
end Go.Proofs.YtpkbjfhicocogaaGreatDoor
