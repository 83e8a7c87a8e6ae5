/- Contracts of package queue over this translation: New, Put, Shift; no queue. -/
import Derived.Test.YteolchbeiidapaaWr
set_option linter.unusedVariables false
namespace Go.Proofs.Yteolchbeiidapaa
open Go.RowKit

set_option maxHeartbeats 1000000 in
theorem wq_Shift (b rb g0 : Nat) (s : QK) (W : World) (h : QAt W b rb g0 s) (ho : s.ok) :
    Calls Try.prog 7 #[.pointer (some ⟨b, 0, none⟩)] W (QPost W b rb g0 (.tuple #[s.headQ.agg, .bool s.someQ]) s.shiftQ) := by
  have H0 := Lib.hid h
  have HA := Lib.hid (wq_take b rb g0 s _ (h.keep (al_be W (.cells #[.int .u64 0, .int .u64 0, .int .u64 0, .int .u64 0, .int .u64 0, .int .u64 0, .bool false] 36))) ho)
  have HB := Lib.hid (Blk.new W 36 #[.int .u64 0, .int .u64 0, .int .u64 0, .int .u64 0, .int .u64 0, .int .u64 0, .bool false])
  clear h ho
  generalize s.headQ = x at *
  generalize s.someQ = q at *
  generalize s.shiftQ = s2 at *
  go_enter Try.func7, Try.ntmps7
  go_wp2_with fail
  refine HA.out.mono ?_
  rintro e w1 k
  have P6 := k
  obtain rfl := P6.e
  generalize hw0 : W.alloc (.cells #[.int .u64 0, .int .u64 0, .int .u64 0, .int .u64 0, .int .u64 0, .int .u64 0, .bool false] 36) = w0 at *
  have HW0 := Lib.hid hw0
  clear hw0 k HA
  have HB6 := Lib.hid (P6.box H0.out HB.out)
  have r0 := HB6.out.cell (i := 0) (v := .int .u64 0) rfl
  have f0 := HB6.out.free 0
  have r1 := HB6.out.cell (i := 1) (v := .int .u64 0) rfl
  have f1 := HB6.out.free 1
  have r2 := HB6.out.cell (i := 2) (v := .int .u64 0) rfl
  have f2 := HB6.out.free 2
  have r3 := HB6.out.cell (i := 3) (v := .int .u64 0) rfl
  have f3 := HB6.out.free 3
  have r4 := HB6.out.cell (i := 4) (v := .int .u64 0) rfl
  have f4 := HB6.out.free 4
  have r5 := HB6.out.cell (i := 5) (v := .int .u64 0) rfl
  have f5 := HB6.out.free 5
  have r6 := HB6.out.cell (i := 6) (v := .bool false) rfl
  have f6 := HB6.out.free 6
  unfold Pk.agg
  go_wp2_with fail
  have F1 := Blk.whole (Itm.cs x) HB6.out rfl
  exact bodyPost_ret (results_cell_tmp rfl _ _ W.heap.size 36 _ _ rfl F1 Try.underlying36 rfl (by kernel_rfl)) rfl (QPost.boxed HW0.out H0.out P6 (Itm.cs x))

/-- What New makes. -/
structure QMade (w : World) (r : Nat) (e : Ending) (w' : World) : Prop where
  at_ : ∃ b rb g, e = .returned (.pointer (some ⟨b, 0, none⟩)) ∧ QAt w' b rb g (QK.start r) ∧ w.heap.size ≤ b ∧ w.heap.size ≤ rb ∧ w.heap.size ≤ g
  bel : Below w.heap.size w w'
theorem wq_New (r : Nat) (w : World) : Calls Try.prog 6 #[.int .u64 (r : Int)] w (QMade w r) := by
  have HN := Lib.hid (pk_new none 0 [] w (Its.none _ _) (by simp))
  go_enter Try.func6, Try.ntmps6
  go_wp2_with fail
  refine HN.out.mono ?_
  rintro e w1 ⟨⟨b, g, rfl, hr, hb, hg⟩, hbel⟩
  have HR := Lib.hid hr
  have HW := Lib.hid hbel
  clear hr hbel HN
  go_wp2_with fail
  go_ret
  exact ⟨⟨_, b, g, rfl, ⟨Blk.new _ _ _, HR.out.alloc _⟩, HW.out.size, hb, hg⟩, HW.out.trans ((al_be _ _).mono HW.out.size)⟩

/-- The bytes that are asked for, and what is left of the room. -/
theorem wq_left (s : QK) (ho : s.ok) (b : Nat) (W : World) (h : W.cell? ⟨b, 0, none⟩ = some (.int .u64 (s.n : Int))) :
    Calls Try.prog 19 #[.int .u64 (s.room : Int), .slice (some ⟨b, 0, none⟩) 1 1] W fun e w' => e = .returned (.int .u64 ((Pl.subS s.room s.n : Nat) : Int)) ∧ Below W.heap.size W w' :=
  (sub_any s.room s.n b ho.room ho.n W h).mono fun e w' q => ⟨q.1, q.2 ▸ Below.refl _ _⟩
theorem wq_addc (b rb g0 : Nat) (p : Pk) (s : QK) (W : World) (cs : List Value) (hc : Itm.cs p = cs) (ho : s.ok) (hp : p.size ≤ 18446744073709551615) (hk : s.l.length ≤ 1000) : ∀ w, QM W b rb g0 W.heap.size cs s w →
    Calls Try.prog 21 #[.pointer (some ⟨b, 0, none⟩), .agg cs.toArray] w fun e w' => e = .returned (.tuple #[]) ∧ Hid (QM W b rb g0 W.heap.size cs (s.addQ p) w') := fun w h => by
  obtain ⟨g, h1, h2⟩ := h.at_
  have := wq_add b rb g p s w h1 ho hp hk
  subst hc
  exact this.mono fun e w' k => ⟨k.e, Lib.hid (h.call h1 h2 k)⟩
theorem wq_dropc (b rb g0 : Nat) (p : Pk) (s : QK) (W : World) (cs : List Value) (hc : Itm.cs p = cs) (ho : s.ok) (hp : p.size ≤ 18446744073709551615) : ∀ w, QM W b rb g0 W.heap.size cs s w →
    Calls Try.prog 20 #[.pointer (some ⟨b, 0, none⟩), .agg cs.toArray] w fun e w' => e = .returned (.tuple #[]) ∧ Hid (QM W b rb g0 W.heap.size cs (s.dropQ p) w') := fun w h => by
  obtain ⟨g, h1, h2⟩ := h.at_
  have := wq_drop b rb g p s w h1 ho hp
  subst hc
  exact this.mono fun e w' k => ⟨k.e, Lib.hid (h.call h1 h2 k)⟩

set_option maxHeartbeats 1000000 in
theorem wq_Put_no (b rb g0 : Nat) (p : Pk) (s : QK) (W : World) (h : QAt W b rb g0 s) (ho : s.ok) (hp : p.size ≤ 18446744073709551615) (c : ¬ p.size ≤ Pl.subS s.room s.n) :
    Calls Try.prog 9 #[.pointer (some ⟨b, 0, none⟩), p.agg] W (QPost W b rb g0 (.bool false) (s.dropQ p)) := by
  have d : decide (Pl.subS s.room s.n < p.size) = true := decide_eq_true (by omega)
  have HL := Lib.hid (wq_left s ho)
  have HC := Lib.hid (wq_dropc b rb g0 p s W _ rfl ho hp)
  have K0 := Lib.hid (QM.start h (Itm.cs p))
  have hx : (Itm.cs p)[1]? = some (.int .u64 (p.size : Int)) := rfl
  clear h ho c
  unfold Pk.agg
  go_enter Try.func9, Try.ntmps9
  go_upto_region 3 with fail
  change Code.wp _ _ _ _ (W.alloc (.cells (Itm.cs p).toArray 36))
  generalize W.alloc (.cells (Itm.cs p).toArray 36) = w0 at *
  have hu := Try.underlying36
  have hi := pk_inf p
  have R1 := qso_box (W := W) (b := b) (rb := rb) (g0 := g0) (z := W.heap.size) (s := s) hx
  generalize hcs : Itm.cs p = cs at *
  have HCs := Lib.hid hcs
  clear hcs hx
  generalize hq : s.dropQ p = s2 at *
  clear hq
  generalize Pl.subS s.room s.n = y at *
  generalize p.size = x at *
  have R2 : ∀ w, Hid (QM W b rb g0 W.heap.size cs s w) → w.cell? ⟨W.heap.size, 1, none⟩ = some (.int .u64 (x : Int)) := fun w k => R1 w (qso (r := 0) (l := []) k)
  obtain ⟨_, r1, r2, r3⟩ := qm_r (W := W) (b := b) (rb := rb) (g0 := g0) (z := W.heap.size) (cs := cs) (s := s)
  have M0 := Lib.hid K0.out.drew
  clear K0 R1
  go_wp2_with fail
  go_region_held3 (fun w' => Hid (QM W b rb g0 W.heap.size cs s w'))
    (first | exact M0 | exact M2 | exact Lib.hid ((Hid.out (by assumption) : QM W b rb g0 W.heap.size cs s _).to (al_be _ _)) | assumption)
    (first | (go_at_call 19; (first | refine (HL.out _ _ (nc1 _ _ _)).mono ?_ | refine (HL.out _ _ (nc1' _ _ _)).mono ?_); rintro e w' ⟨rfl, hb⟩; have M2 := Lib.hid ((Hid.out (by assumption) : QM W b rb g0 W.heap.size cs s _).to hb)))
  all_goals
    have M3 := (‹Hid (QM W b rb g0 W.heap.size cs s _)›)
    clear r1 r2 r3 R2 HL d M0
    obtain ⟨v0, v1, v2, v3, v4, v5, v6, rfl⟩ : ∃ v0 v1 v2 v3 v4 v5 v6, cs = [v0, v1, v2, v3, v4, v5, v6] := ⟨_, _, _, _, _, _, _, HCs.out.symm⟩
    clear HCs hi hu
    have HX := Lib.hid M3.out.box
    have x0 := HX.out.cell (i := 0) (v := v0) rfl
    have x1 := HX.out.cell (i := 1) (v := v1) rfl
    have x2 := HX.out.cell (i := 2) (v := v2) rfl
    have x3 := HX.out.cell (i := 3) (v := v3) rfl
    have x4 := HX.out.cell (i := 4) (v := v4) rfl
    have x5 := HX.out.cell (i := 5) (v := v5) rfl
    have x6 := HX.out.cell (i := 6) (v := v6) rfl
    go_wp2_with fail
    refine (HC.out _ M3.out).mono ?_
    rintro e w2 ⟨rfl, K2⟩
    go_wp2_with fail
    go_ret
    exact K2.out.post

set_option maxHeartbeats 1000000 in
theorem wq_Put_yes (b rb g0 : Nat) (p : Pk) (s : QK) (W : World) (h : QAt W b rb g0 s) (ho : s.ok) (hp : p.size ≤ 18446744073709551615) (hk : s.l.length ≤ 1000) (c : p.size ≤ Pl.subS s.room s.n) :
    Calls Try.prog 9 #[.pointer (some ⟨b, 0, none⟩), p.agg] W (QPost W b rb g0 (.bool true) (s.addQ p)) := by
  have d : decide (Pl.subS s.room s.n < p.size) = false := decide_eq_false (by omega)
  have HL := Lib.hid (wq_left s ho)
  have HC := Lib.hid (wq_addc b rb g0 p s W _ rfl ho hp hk)
  have K0 := Lib.hid (QM.start h (Itm.cs p))
  have hx : (Itm.cs p)[1]? = some (.int .u64 (p.size : Int)) := rfl
  clear h ho c
  unfold Pk.agg
  go_enter Try.func9, Try.ntmps9
  go_upto_region 3 with fail
  change Code.wp _ _ _ _ (W.alloc (.cells (Itm.cs p).toArray 36))
  generalize W.alloc (.cells (Itm.cs p).toArray 36) = w0 at *
  have hu := Try.underlying36
  have hi := pk_inf p
  have R1 := qso_box (W := W) (b := b) (rb := rb) (g0 := g0) (z := W.heap.size) (s := s) hx
  generalize hcs : Itm.cs p = cs at *
  have HCs := Lib.hid hcs
  clear hcs hx
  generalize hq : s.addQ p = s2 at *
  clear hq
  generalize Pl.subS s.room s.n = y at *
  generalize p.size = x at *
  have R2 : ∀ w, Hid (QM W b rb g0 W.heap.size cs s w) → w.cell? ⟨W.heap.size, 1, none⟩ = some (.int .u64 (x : Int)) := fun w k => R1 w (qso (r := 0) (l := []) k)
  obtain ⟨_, r1, r2, r3⟩ := qm_r (W := W) (b := b) (rb := rb) (g0 := g0) (z := W.heap.size) (cs := cs) (s := s)
  have M0 := Lib.hid K0.out.drew
  clear K0 R1
  go_wp2_with fail
  go_region_held3 (fun w' => Hid (QM W b rb g0 W.heap.size cs s w'))
    (first | exact M0 | exact M2 | exact Lib.hid ((Hid.out (by assumption) : QM W b rb g0 W.heap.size cs s _).to (al_be _ _)) | assumption)
    (first | (go_at_call 19; (first | refine (HL.out _ _ (nc1 _ _ _)).mono ?_ | refine (HL.out _ _ (nc1' _ _ _)).mono ?_); rintro e w' ⟨rfl, hb⟩; have M2 := Lib.hid ((Hid.out (by assumption) : QM W b rb g0 W.heap.size cs s _).to hb)))
  all_goals
    have M3 := (‹Hid (QM W b rb g0 W.heap.size cs s _)›)
    clear r1 r2 r3 R2 HL d
    obtain ⟨r0, r1⟩ := qx_r (W := W) (b := b) (rb := rb) (g0 := g0) (z := W.heap.size) (cs := cs)
    go_wp2_with fail
    generalize w' = w1 at *
    have M1 := Lib.hid M3.out.drew
    refine wp_region_held_drew (S := (fun w' => Hid (∃ s, QM W b rb g0 W.heap.size cs s w'))) (by kernel_rfl) (qx_of M1) (fun hHeld => ?_)
    generalize w1.drew = wd at *
    simp only [List.size_toArray, List.length_cons, List.length_nil, Nat.reduceAdd, Array.replicate_succ, Array.replicate_zero, List.push_toArray, List.nil_append, List.cons_append]
    refine' wpAnyH_take (i := 3) (oi := ⟨some 27, _, _, _, _, _⟩) (v := _) rfl (by kernel_rfl) (by kernel_rfl) (by kernel_rfl) (fun _ _ _ h => h) (yieldsIf_load_mid (by rfl) _ _ rfl _ _ rfl _ _ ?hS33 hu rfl hi) (by assumption) ?r33
    case hS33 => intro w hSw; exact r1 _ hSw
    simp only [Act.put, List.setIfInBounds_toArray, List.set_cons_zero, List.set_cons_succ]
    refine wpAnyH_take (i := 0) (oi := ⟨some 24, _, _, _, _, _⟩) (v := ?v34) rfl (by kernel_rfl) (by kernel_rfl) (by kernel_rfl) (fun _ _ _ h => h) (Or.inl ⟨by rfl, ?y34⟩) (by assumption) ?r34
    case y34 => intro w hSw; clear hSw; go_simp; (try with_reducible rfl)
    simp only [Act.put, List.setIfInBounds_toArray, List.set_cons_zero, List.set_cons_succ]
    refine wpAnyH_take (i := 1) (oi := ⟨some 25, _, _, _, _, _⟩) (v := ?v35) rfl (by kernel_rfl) (by kernel_rfl) (by kernel_rfl) (fun _ _ _ h => h) (Or.inl ⟨by rfl, ?y35⟩) (by assumption) ?r35
    case y35 => intro w hSw; clear hSw; go_simp; (try with_reducible rfl)
    simp only [Act.put, List.setIfInBounds_toArray, List.set_cons_zero, List.set_cons_succ]
    refine wpAnyH_take (i := 2) (oi := ⟨some 26, _, _, _, _, _⟩) (v := ?v36) rfl (by kernel_rfl) (by kernel_rfl) (by kernel_rfl) (fun _ _ _ h => h) (Or.inl ⟨by rfl, ?y36⟩) (by assumption) ?r36
    case y36 => intro w hSw; clear hSw; go_simp; (try with_reducible rfl)
    simp only [Act.put, List.setIfInBounds_toArray, List.set_cons_zero, List.set_cons_succ]
    refine wpAnyH_ready (rs := [4]) (by kernel_rfl) (by simp) ?_
    refine AllReadyH.cons (o := ⟨some 28, _, _, _, _, _⟩) rfl (fun K hK => ?_) AllReadyH.nil
    go_simp
    refine (HC.out _ (Hid.out (by assumption))).mono ?_
    rintro e w2 ⟨rfl, K2⟩
    go_wp2_with fail
    refine hK.out _ _ (qx_of K2) (fun hHeld => ?_)
    clear hK
    try simp only [List.setIfInBounds_toArray, List.set_cons_zero, List.set_cons_succ]
    refine wpAnyH_done (by kernel_rfl) ?_ _
    go_wp2_with fail
    go_ret
    exact K2.out.post

theorem wq_Put (b rb g0 : Nat) (p : Pk) (s : QK) (W : World) (h : QAt W b rb g0 s) (ho : s.ok) (hp : p.size ≤ 18446744073709551615) (hk : s.l.length ≤ 1000) :
    Calls Try.prog 9 #[.pointer (some ⟨b, 0, none⟩), p.agg] W (QPost W b rb g0 (.bool (s.putB p)) (s.putQ p)) := by
  unfold QK.putB QK.putQ
  by_cases c : p.size ≤ Pl.subS s.room s.n
  · rw [if_pos c, decide_eq_true c]; exact wq_Put_yes b rb g0 p s W h ho hp hk c
  · rw [if_neg c, decide_eq_false c]; exact wq_Put_no b rb g0 p s W h ho hp c

end Go.Proofs.Yteolchbeiidapaa
