/- Contracts of package queue over this translation: first, take, New, Put, Head, Shift; no queue. -/
import Derived.Test.YteolchbeiidapaaWq
set_option linter.unusedVariables false
namespace Go.Proofs.Yteolchbeiidapaa
open Go.RowKit

theorem pk_first (rb g : Nat) (l : List Pk) (w : World) (h : PkRow w rb g l) :
    Calls Try.prog 30 #[.pointer (some ⟨rb, 0, none⟩), .int .i64 0] w fun e w' => e = pkgot (l.getD 0 Itm.z) (!l.isEmpty) ∧ Below w.heap.size w w' := by
  cases l with
  | nil => exact pk_at_out rb g 0 [] w h (.inr (by simp))
  | cons x r => exact pk_at rb g 0 (x :: r) w h (by simp)
theorem pk_shift_any (rb g : Nat) (l : List Pk) (w : World) (h : PkRow w rb g l) :
    Calls Try.prog 25 #[.pointer (some ⟨rb, 0, none⟩)] w (PkRPost w rb g (pkgot (l.getD 0 Itm.z) (!l.isEmpty)) (l.drop 1)) := by
  cases l with
  | nil => exact pk_shift_none rb g w h
  | cons x r => exact pk_shift rb g x r w h

set_option maxHeartbeats 1000000 in
theorem wq_first (b rb g : Nat) (s : QK) (W : World) (h : QAt W b rb g s) :
    Calls Try.prog 24 #[.pointer (some ⟨b, 0, none⟩)] W fun e w' => e = pkgot s.headQ s.someQ ∧ Below W.heap.size W w' := by
  have K := h.keep (al_be W (.cells #[.int .u64 0, .int .u64 0, .int .u64 0, .int .u64 0, .int .u64 0, .int .u64 0, .bool false] 36))
  have h0 := K.head.cell (i := 0) (v := .pointer (some ⟨rb, 0, none⟩)) rfl
  have HA : Hid (Calls Try.prog 30 #[.pointer (some ⟨rb, 0, none⟩), .int .i64 0] (W.alloc (.cells #[.int .u64 0, .int .u64 0, .int .u64 0, .int .u64 0, .int .u64 0, .int .u64 0, .bool false] 36)) fun e w' => e = pkgot s.headQ s.someQ ∧ Below (W.alloc (.cells #[.int .u64 0, .int .u64 0, .int .u64 0, .int .u64 0, .int .u64 0, .int .u64 0, .bool false] 36)).heap.size (W.alloc (.cells #[.int .u64 0, .int .u64 0, .int .u64 0, .int .u64 0, .int .u64 0, .int .u64 0, .bool false] 36)) w') := Lib.hid (pk_first rb g s.l _ K.row)
  have HB := Lib.hid (Blk.new W 36 #[.int .u64 0, .int .u64 0, .int .u64 0, .int .u64 0, .int .u64 0, .int .u64 0, .bool false])
  have HW := Lib.hid (al_be W (.cells #[.int .u64 0, .int .u64 0, .int .u64 0, .int .u64 0, .int .u64 0, .int .u64 0, .bool false] 36))
  clear h K
  generalize s.headQ = x at *
  generalize s.someQ = q at *
  go_enter Try.func24, Try.ntmps24
  go_wp2_with fail
  refine HA.out.mono ?_
  rintro e w1 ⟨rfl, hb⟩
  have HB1 := Lib.hid (HB.out.keep hb)
  have HW1 := Lib.hid (bel_to HW.out hb (by simp))
  clear hb HA h0
  generalize (W.alloc (.cells #[.int .u64 0, .int .u64 0, .int .u64 0, .int .u64 0, .int .u64 0, .int .u64 0, .bool false] 36)) = w0 at *
  have r0 := HB1.out.cell (i := 0) (v := .int .u64 0) rfl
  have f0 := HB1.out.free 0
  have r1 := HB1.out.cell (i := 1) (v := .int .u64 0) rfl
  have f1 := HB1.out.free 1
  have r2 := HB1.out.cell (i := 2) (v := .int .u64 0) rfl
  have f2 := HB1.out.free 2
  have r3 := HB1.out.cell (i := 3) (v := .int .u64 0) rfl
  have f3 := HB1.out.free 3
  have r4 := HB1.out.cell (i := 4) (v := .int .u64 0) rfl
  have f4 := HB1.out.free 4
  have r5 := HB1.out.cell (i := 5) (v := .int .u64 0) rfl
  have f5 := HB1.out.free 5
  have r6 := HB1.out.cell (i := 6) (v := .bool false) rfl
  have f6 := HB1.out.free 6
  unfold pkgot Pk.agg
  go_wp2_with fail
  have F1 := Blk.whole (Itm.cs x) HB1.out rfl
  exact bodyPost_ret (results_cell_tmp rfl _ _ W.heap.size 36 _ _ rfl F1 Try.underlying36 rfl (by kernel_rfl)) rfl ⟨rfl, Below.sets (Nat.le_refl _) (Itm.cs x) 0 w1 HW1.out⟩

set_option maxHeartbeats 1000000 in
theorem wq_Head (b rb g : Nat) (s : QK) (W : World) (h : QAt W b rb g s) :
    Calls Try.prog 16 #[.pointer (some ⟨b, 0, none⟩)] W fun e w' => e = pkgot s.headQ s.someQ ∧ Below W.heap.size W w' := by
  have K := h.keep (al_be W (.cells #[.int .u64 0, .int .u64 0, .int .u64 0, .int .u64 0, .int .u64 0, .int .u64 0, .bool false] 36))
  have HA := Lib.hid (wq_first b rb g s _ K)
  have HB := Lib.hid (Blk.new W 36 #[.int .u64 0, .int .u64 0, .int .u64 0, .int .u64 0, .int .u64 0, .int .u64 0, .bool false])
  have HW := Lib.hid (al_be W (.cells #[.int .u64 0, .int .u64 0, .int .u64 0, .int .u64 0, .int .u64 0, .int .u64 0, .bool false] 36))
  clear h K
  generalize s.headQ = x at *
  generalize s.someQ = q at *
  go_enter Try.func16, Try.ntmps16
  go_wp2_with fail
  refine HA.out.mono ?_
  rintro e w1 ⟨rfl, hb⟩
  have HB1 := Lib.hid (HB.out.keep hb)
  have HW1 := Lib.hid (bel_to HW.out hb (by simp))
  clear hb HA
  generalize (W.alloc (.cells #[.int .u64 0, .int .u64 0, .int .u64 0, .int .u64 0, .int .u64 0, .int .u64 0, .bool false] 36)) = w0 at *
  have r0 := HB1.out.cell (i := 0) (v := .int .u64 0) rfl
  have f0 := HB1.out.free 0
  have r1 := HB1.out.cell (i := 1) (v := .int .u64 0) rfl
  have f1 := HB1.out.free 1
  have r2 := HB1.out.cell (i := 2) (v := .int .u64 0) rfl
  have f2 := HB1.out.free 2
  have r3 := HB1.out.cell (i := 3) (v := .int .u64 0) rfl
  have f3 := HB1.out.free 3
  have r4 := HB1.out.cell (i := 4) (v := .int .u64 0) rfl
  have f4 := HB1.out.free 4
  have r5 := HB1.out.cell (i := 5) (v := .int .u64 0) rfl
  have f5 := HB1.out.free 5
  have r6 := HB1.out.cell (i := 6) (v := .bool false) rfl
  have f6 := HB1.out.free 6
  unfold pkgot Pk.agg
  go_wp2_with fail
  have F1 := Blk.whole (Itm.cs x) HB1.out rfl
  exact bodyPost_ret (results_cell_tmp rfl _ _ W.heap.size 36 _ _ rfl F1 Try.underlying36 rfl (by kernel_rfl)) rfl ⟨rfl, Below.sets (Nat.le_refl _) (Itm.cs x) 0 w1 HW1.out⟩

/-- A queue that was changed behind the making of a result's block, which is then written. -/
theorem QPost.boxed {W w1 : World} {b rb g0 : Nat} {s s' : QK} {r v : Value} {e : Ending} {w0 : World} {o : Obj} (hw : W.alloc o = w0) (h0 : QAt W b rb g0 s) (h : QPost w0 b rb g0 r s' e w1) (cs : List Value) : QPost W b rb g0 v s' (.returned v) (w1.setCells W.heap.size 0 cs) := by
  subst hw
  obtain ⟨_, ⟨g, h1, h2⟩, f⟩ := h
  have lt := h0.lt
  have fz : Fr w1 (w1.setCells W.heap.size 0 cs) [W.heap.size] := Fr.sets (.inl (by simp)) cs 0 w1 (Fr.refl _ _)
  have e0 : (W.alloc o).heap.size = W.heap.size + 1 := by simp
  refine ⟨rfl, ⟨g, h1.fr fz (by simp; omega) (by simp; omega) (by simp; omega), by omega⟩, ?_⟩
  have f0 : Fr W w1 [b, rb, g0] := ((Fr.refl W [b, rb, g0]).alloc o).trans f (fun x hx => .inl hx)
  exact f0.trans fz (fun x hx => .inr (by simp at hx; omega))
theorem QPost.box {W w1 : World} {b rb g0 : Nat} {s s' : QK} {r : Value} {e : Ending} {w0 : World} (h0 : QAt W b rb g0 s) (h : QPost w0 b rb g0 r s' e w1) {T : TypeId} {cs : Array Value} (hb : Blk w0 W.heap.size T cs) : Blk w1 W.heap.size T cs := by
  have lt := h0.lt
  exact hb.fr h.fr (by simp; omega)


/-- The queue behind the ring's Shift, the packet in a box. -/
theorem QM.shifted {W w : World} {b rb g0 : Nat} {s : QK} {v e : Ending} {l : List Pk} (h : QAt W b rb g0 s) (k : PkRPost W rb g0 v l e w) (cs : List Value) : QM W b rb g0 w.heap.size cs ⟨l, s.n, s.room, s.dr, s.lost⟩ (w.alloc (.cells cs.toArray 36)) := by
  obtain ⟨g', k1, k2⟩ := k.at_
  have n := h.ne
  have lt := h.lt
  have sz := k.mv.size
  have gl := k1.lt
  have q : QAt w b rb g' ⟨l, s.n, s.room, s.dr, s.lost⟩ := ⟨h.head.fr k.mv (by simp [n.1, n.2.1]), k1⟩
  exact ⟨⟨g', q.keep (al_be _ _), k2, by omega⟩, (k.mv.mono (fun x hx => .inl (by simp at hx ⊢; omega))).alloc _, Blk.new _ _ _, sz, by omega⟩

set_option maxHeartbeats 1000000 in
theorem wq_take (b rb g0 : Nat) (s : QK) (W : World) (h : QAt W b rb g0 s) (ho : s.ok) :
    Calls Try.prog 18 #[.pointer (some ⟨b, 0, none⟩)] W (QPost W b rb g0 (.tuple #[s.headQ.agg, .bool s.someQ]) s.shiftQ) := by
  have H0 := Lib.hid h
  have K := h.keep (al_be W (.cells #[.int .u64 0, .int .u64 0, .int .u64 0, .int .u64 0, .int .u64 0, .int .u64 0, .bool false] 36))
  have h0 := K.head.cell (i := 0) (v := .pointer (some ⟨rb, 0, none⟩)) rfl
  have HA : Hid (Calls Try.prog 25 #[.pointer (some ⟨rb, 0, none⟩)] (W.alloc (.cells #[.int .u64 0, .int .u64 0, .int .u64 0, .int .u64 0, .int .u64 0, .int .u64 0, .bool false] 36)) (PkRPost (W.alloc (.cells #[.int .u64 0, .int .u64 0, .int .u64 0, .int .u64 0, .int .u64 0, .int .u64 0, .bool false] 36)) rb g0 (pkgot s.headQ s.someQ) (s.l.drop 1))) := Lib.hid (pk_shift_any rb g0 s.l _ K.row)
  have HK := Lib.hid K
  have HB := Lib.hid (Blk.new W 36 #[.int .u64 0, .int .u64 0, .int .u64 0, .int .u64 0, .int .u64 0, .int .u64 0, .bool false])
  have EQ : Hid (s.shiftQ = ⟨s.popQ.l, Pl.subS s.n s.headQ.size, s.popQ.room, s.popQ.dr, s.popQ.lost⟩) := Lib.hid rfl
  have hA : Hid (∀ (b : Nat) (W : World), W.cell? ⟨b, 0, none⟩ = some (.int .u64 (s.headQ.size : Int)) → Calls Try.prog 19 #[.int .u64 (s.n : Int), .slice (some ⟨b, 0, none⟩) 1 1] W fun e w' => e = .returned (.int .u64 ((Pl.subS s.n s.headQ.size : Nat) : Int)) ∧ Below W.heap.size W w') :=
    Lib.hid (fun b W h => (sub_any s.n s.headQ.size b ho.n (QK.head_ok ho) W h).mono fun e w' q => ⟨q.1, q.2 ▸ Below.refl _ _⟩)
  clear h K ho
  generalize s.headQ = x at *
  generalize s.someQ = q at *
  go_enter Try.func18, Try.ntmps18
  go_wp2_with fail
  refine HA.out.mono ?_
  rintro e w1 k
  obtain rfl := k.e
  have M0 : Hid (QM (W.alloc (.cells #[.int .u64 0, .int .u64 0, .int .u64 0, .int .u64 0, .int .u64 0, .int .u64 0, .bool false] 36)) b rb g0 w1.heap.size (Itm.cs x) ⟨s.popQ.l, s.n, s.popQ.room, s.popQ.dr, s.popQ.lost⟩ (w1.alloc (.cells #[.int .u64 (x.n : Int), .int .u64 (x.size : Int), .int .u64 (x.sent : Int), .int .u64 (x.first : Int), .int .u64 (x.deliv : Int), .int .u64 (x.at_ : Int), .bool x.lim] 36))) := Lib.hid (QM.shifted HK.out k (Itm.cs x))
  clear k HA h0 HK
  unfold pkgot Pk.agg
  go_upto_region 2 with fail
  have hx : (Itm.cs x)[1]? = some (.int .u64 (x.size : Int)) := rfl
  generalize (w1.alloc (.cells #[.int .u64 (x.n : Int), .int .u64 (x.size : Int), .int .u64 (x.sent : Int), .int .u64 (x.first : Int), .int .u64 (x.deliv : Int), .int .u64 (x.at_ : Int), .bool x.lim] 36)) = w2 at *
  generalize w1.heap.size = z at *
  generalize hw0 : W.alloc (.cells #[.int .u64 0, .int .u64 0, .int .u64 0, .int .u64 0, .int .u64 0, .int .u64 0, .bool false] 36) = w0 at *
  have HW0 := Lib.hid hw0
  clear hw0
  generalize hcs : Itm.cs x = cs at *
  have HCs := Lib.hid hcs
  clear hcs
  have R1 := qso_box (W := w0) (b := b) (rb := rb) (g0 := g0) (z := z) (s := s.popQ) hx
  generalize hxs : x.size = xs at *
  clear hxs
  generalize Pl.subS s.n xs = y at *
  generalize s.n = n at *
  generalize s.popQ = s2 at *
  have M1 := Lib.hid M0.out.drew
  go_wp2_with fail
  refine wp_region_held_drew (S := (fun w' => Hid (QSo w0 b rb g0 z cs s2 w'))) (by kernel_rfl) (qso (s := s2) (l := []) (r := 0) M1) (fun hHeld => ?_)
  generalize w2.drew = wd at *
  simp only [List.size_toArray, List.length_cons, List.length_nil, Nat.reduceAdd, Array.replicate_succ, Array.replicate_zero, List.push_toArray, List.nil_append, List.cons_append]
  refine wpAnyH_take (i := 0) (oi := ⟨some 14, _, _, _, _, _⟩) (v := ?v22) rfl (by kernel_rfl) (by kernel_rfl) (by kernel_rfl) (fun _ _ _ h => h) (Or.inl ⟨by rfl, ?y22⟩) (by assumption) ?r22
  case y22 => intro w hSw; clear hSw; go_simp; (try with_reducible rfl)
  simp only [Act.put, List.setIfInBounds_toArray, List.set_cons_zero, List.set_cons_succ]
  refine wpAnyH_take (i := 1) (oi := ⟨some 15, _, _, _, _, _⟩) (v := ?v23) rfl (by kernel_rfl) (by kernel_rfl) (by kernel_rfl) (fun _ _ _ h => h) (Or.inl ⟨by rfl, ?y23⟩) (by assumption) ?r23
  case y23 => intro w hSw; clear hSw; go_simp; (try with_reducible rfl)
  simp only [Act.put, List.setIfInBounds_toArray, List.set_cons_zero, List.set_cons_succ]
  refine wpAnyH_take (i := 2) (oi := ⟨some 16, _, _, _, _, _⟩) (v := ?v24) rfl (by kernel_rfl) (by kernel_rfl) (by kernel_rfl) (fun _ _ _ h => h) (Or.inl ⟨by rfl, ?y24⟩) (by assumption) ?r24
  case y24 => intro w hSw; clear hSw; go_simp; (try with_reducible rfl)
  simp only [Act.put, List.setIfInBounds_toArray, List.set_cons_zero, List.set_cons_succ]
  refine wpAnyH_take (i := 3) (oi := ⟨some 17, _, _, _, _, _⟩) (v := ?v25) rfl (by kernel_rfl) (by kernel_rfl) (by kernel_rfl) (fun _ _ _ h => h) (Or.inl ⟨by rfl, ?y25⟩) (by assumption) ?r25
  case y25 => intro w hSw; clear hSw; go_simp; (try with_reducible rfl)
  simp only [Act.put, List.setIfInBounds_toArray, List.set_cons_zero, List.set_cons_succ]
  refine wpAnyH_take (i := 5) (oi := ⟨some 19, _, _, _, _, _⟩) (v := ?v26) rfl (by kernel_rfl) (by kernel_rfl) (by kernel_rfl) (fun _ _ _ h => h) (Or.inl ⟨by rfl, ?y26⟩) (by assumption) ?r26
  case y26 => intro w hSw; clear hSw; go_simp; (try with_reducible rfl)
  simp only [Act.put, List.setIfInBounds_toArray, List.set_cons_zero, List.set_cons_succ]
  refine wpAnyH_take (i := 6) (oi := ⟨some 20, _, _, _, _, _⟩) (v := ?v27) rfl (by kernel_rfl) (by kernel_rfl) (by kernel_rfl) (fun _ _ _ h => h) (Or.inl ⟨by rfl, ?y27⟩) (by assumption) ?r27
  case y27 => intro w hSw; skip; go_simp; (try with_reducible rfl)
  simp only [Act.put, List.setIfInBounds_toArray, List.set_cons_zero, List.set_cons_succ]
  refine wpAnyH_ready (rs := [4, 7]) (by kernel_rfl) (by simp) ?_
  refine AllReadyH.cons (o := ⟨some 18, _, _, _, _, _⟩) rfl (fun K hK => ?k28) ?m28
  case' k28 =>
    have c3 := (Hid.out (by assumption) : QM w0 b rb g0 z cs ⟨s2.l, n, s2.room, s2.dr, s2.lost⟩ _).head.cell (i := 1) (v := .int .u64 (n : Int)) rfl
    go_simp
    refine hK.out _ _ hHeld (fun hHeld => ?_)
    clear hK
    try simp only [List.setIfInBounds_toArray, List.set_cons_zero, List.set_cons_succ]
    refine wpAnyH_ready (rs := [7]) (by kernel_rfl) (by simp) ?_
    refine AllReadyH.cons (o := ⟨some 21, _, _, _, _, _⟩) rfl (fun K hK => ?_) AllReadyH.nil
    have M3 := Lib.hid ((Hid.out (by assumption) : QM w0 b rb g0 z cs ⟨s2.l, n, s2.room, s2.dr, s2.lost⟩ _).to (al_be _ (.cells #[.int .u64 (xs : Int)] 22)))
    go_simp
    refine hK.out _ _ (qso (s := s2) (l := []) (r := 0) M3) (fun hHeld => ?_)
    clear hK
    try simp only [List.setIfInBounds_toArray, List.set_cons_zero, List.set_cons_succ]
    refine wpAnyH_ready (rs := [8]) (by kernel_rfl) (by simp) ?_
    refine AllReadyH.cons (o := ⟨some 22, _, _, _, _, _⟩) rfl (fun K hK => ?_) AllReadyH.nil
    go_simp
    refine (hA.out _ _ (new_cell rfl rfl)).mono ?_
    rintro e w4 ⟨rfl, hb⟩
    have M4 := Lib.hid ((Hid.out (by assumption) : QM w0 b rb g0 z cs ⟨s2.l, n, s2.room, s2.dr, s2.lost⟩ _).to hb)
    go_wp2_with fail
    refine hK.out _ _ (qso (s := s2) (l := []) (r := 0) M4) (fun hHeld => ?_)
    clear hK
    try simp only [List.setIfInBounds_toArray, List.set_cons_zero, List.set_cons_succ]
    refine wpAnyH_take (i := 9) (oi := ⟨some 23, _, _, _, _, _⟩) (v := ?v29) rfl (by kernel_rfl) (by kernel_rfl) (by kernel_rfl) (fun _ _ _ h => h) (Or.inl ⟨by rfl, ?y29⟩) (by assumption) ?r29
    case y29 => intro w hSw; clear hSw; go_simp; (try with_reducible rfl)
    simp only [Act.put, List.setIfInBounds_toArray, List.set_cons_zero, List.set_cons_succ]
    refine wpAnyH_take (i := 10) (oi := ⟨some 24, _, _, _, _, _⟩) (v := ?v30) rfl (by kernel_rfl) (by kernel_rfl) (by kernel_rfl) (fun _ _ _ h => h) (Or.inl ⟨by rfl, ?y30⟩) (by assumption) ?r30
    case y30 => intro w hSw; clear hSw; go_simp; (try with_reducible rfl)
    simp only [Act.put, List.setIfInBounds_toArray, List.set_cons_zero, List.set_cons_succ]
    refine wpAnyH_ready (rs := [11]) (by kernel_rfl) (by simp) ?_
    refine AllReadyH.cons (o := ⟨none, _, _, _, _, _⟩) rfl (fun K hK => ?_) AllReadyH.nil
    have y3 := (Hid.out (by assumption) : QM w0 b rb g0 z cs ⟨s2.l, n, s2.room, s2.dr, s2.lost⟩ _).head.free 1
    have c3 := (Hid.out (by assumption) : QM w0 b rb g0 z cs ⟨s2.l, n, s2.room, s2.dr, s2.lost⟩ _).head.cell (i := 1) (v := .int .u64 (n : Int)) rfl
    have M6 := Lib.hid ((Hid.out (by assumption) : QM w0 b rb g0 z cs ⟨s2.l, n, s2.room, s2.dr, s2.lost⟩ _).set (s' := ⟨s2.l, y, s2.room, s2.dr, s2.lost⟩) 1 (.int .u64 (y : Int)) rfl rfl)
    go_simp
    refine hK.out _ _ (qso (s := s2) (l := []) (r := 0) M6) (fun hHeld => ?_)
    clear hK
    try simp only [List.setIfInBounds_toArray, List.set_cons_zero, List.set_cons_succ]
    refine wpAnyH_done (by kernel_rfl) ?_ _
    skip
  case' m28 =>
    refine AllReadyH.cons (o := ⟨some 21, _, _, _, _, _⟩) rfl (fun K hK => ?_) AllReadyH.nil
    have M3 := Lib.hid ((Hid.out (by assumption) : QM w0 b rb g0 z cs ⟨s2.l, n, s2.room, s2.dr, s2.lost⟩ _).to (al_be _ (.cells #[.int .u64 (xs : Int)] 22)))
    go_simp
    refine hK.out _ _ (qso (s := s2) (l := []) (r := 0) M3) (fun hHeld => ?_)
    clear hK
    try simp only [List.setIfInBounds_toArray, List.set_cons_zero, List.set_cons_succ]
    refine wpAnyH_ready (rs := [4]) (by kernel_rfl) (by simp) ?_
    refine AllReadyH.cons (o := ⟨some 18, _, _, _, _, _⟩) rfl (fun K hK => ?_) AllReadyH.nil
    have c3 := (Hid.out (by assumption) : QM w0 b rb g0 z cs ⟨s2.l, n, s2.room, s2.dr, s2.lost⟩ _).head.cell (i := 1) (v := .int .u64 (n : Int)) rfl
    go_simp
    refine hK.out _ _ hHeld (fun hHeld => ?_)
    clear hK
    try simp only [List.setIfInBounds_toArray, List.set_cons_zero, List.set_cons_succ]
    refine wpAnyH_ready (rs := [8]) (by kernel_rfl) (by simp) ?_
    refine AllReadyH.cons (o := ⟨some 22, _, _, _, _, _⟩) rfl (fun K hK => ?_) AllReadyH.nil
    go_simp
    refine (hA.out _ _ (new_cell rfl rfl)).mono ?_
    rintro e w4 ⟨rfl, hb⟩
    have M4 := Lib.hid ((Hid.out (by assumption) : QM w0 b rb g0 z cs ⟨s2.l, n, s2.room, s2.dr, s2.lost⟩ _).to hb)
    go_wp2_with fail
    refine hK.out _ _ (qso (s := s2) (l := []) (r := 0) M4) (fun hHeld => ?_)
    clear hK
    try simp only [List.setIfInBounds_toArray, List.set_cons_zero, List.set_cons_succ]
    refine wpAnyH_take (i := 9) (oi := ⟨some 23, _, _, _, _, _⟩) (v := ?v31) rfl (by kernel_rfl) (by kernel_rfl) (by kernel_rfl) (fun _ _ _ h => h) (Or.inl ⟨by rfl, ?y31⟩) (by assumption) ?r31
    case y31 => intro w hSw; clear hSw; go_simp; (try with_reducible rfl)
    simp only [Act.put, List.setIfInBounds_toArray, List.set_cons_zero, List.set_cons_succ]
    refine wpAnyH_take (i := 10) (oi := ⟨some 24, _, _, _, _, _⟩) (v := ?v32) rfl (by kernel_rfl) (by kernel_rfl) (by kernel_rfl) (fun _ _ _ h => h) (Or.inl ⟨by rfl, ?y32⟩) (by assumption) ?r32
    case y32 => intro w hSw; clear hSw; go_simp; (try with_reducible rfl)
    simp only [Act.put, List.setIfInBounds_toArray, List.set_cons_zero, List.set_cons_succ]
    refine wpAnyH_ready (rs := [11]) (by kernel_rfl) (by simp) ?_
    refine AllReadyH.cons (o := ⟨none, _, _, _, _, _⟩) rfl (fun K hK => ?_) AllReadyH.nil
    have y3 := (Hid.out (by assumption) : QM w0 b rb g0 z cs ⟨s2.l, n, s2.room, s2.dr, s2.lost⟩ _).head.free 1
    have c3 := (Hid.out (by assumption) : QM w0 b rb g0 z cs ⟨s2.l, n, s2.room, s2.dr, s2.lost⟩ _).head.cell (i := 1) (v := .int .u64 (n : Int)) rfl
    have M6 := Lib.hid ((Hid.out (by assumption) : QM w0 b rb g0 z cs ⟨s2.l, n, s2.room, s2.dr, s2.lost⟩ _).set (s' := ⟨s2.l, y, s2.room, s2.dr, s2.lost⟩) 1 (.int .u64 (y : Int)) rfl rfl)
    go_simp
    refine hK.out _ _ (qso (s := s2) (l := []) (r := 0) M6) (fun hHeld => ?_)
    clear hK
    try simp only [List.setIfInBounds_toArray, List.set_cons_zero, List.set_cons_succ]
    refine wpAnyH_done (by kernel_rfl) ?_ _
    skip
  all_goals
    generalize (w4.setCell ⟨b, 1, none⟩ (.int .u64 (y : Int))) = w5 at *
    have P6 : QPost w0 b rb g0 (.tuple #[]) _ _ w5 := M6.out.post
    have HB6 := Lib.hid (P6.box H0.out HB.out)
    have HX6 : Hid (Blk w5 z 36 (Itm.cs x).toArray) := Lib.hid (HCs.out ▸ M6.out.box)
    clear hHeld M4 M0 M1 R1 hA hx
    have x0 := HX6.out.cell (i := 0) (v := .int .u64 (x.n : Int)) rfl
    have x1 := HX6.out.cell (i := 1) (v := .int .u64 (x.size : Int)) rfl
    have x2 := HX6.out.cell (i := 2) (v := .int .u64 (x.sent : Int)) rfl
    have x3 := HX6.out.cell (i := 3) (v := .int .u64 (x.first : Int)) rfl
    have x4 := HX6.out.cell (i := 4) (v := .int .u64 (x.deliv : Int)) rfl
    have x5 := HX6.out.cell (i := 5) (v := .int .u64 (x.at_ : Int)) rfl
    have x6 := HX6.out.cell (i := 6) (v := .bool x.lim) rfl
    have r0 := HB6.out.cell (i := 0) (v := .int .u64 0) rfl
    have f0 := HB6.out.free 0
    have r1 := HB6.out.cell (i := 1) (v := .int .u64 0) rfl
    have f1 := HB6.out.free 1
    have r2 := HB6.out.cell (i := 2) (v := .int .u64 0) rfl
    have f2 := HB6.out.free 2
    have r3 := HB6.out.cell (i := 3) (v := .int .u64 0) rfl
    have f3 := HB6.out.free 3
    have r4 := HB6.out.cell (i := 4) (v := .int .u64 0) rfl
    have f4 := HB6.out.free 4
    have r5 := HB6.out.cell (i := 5) (v := .int .u64 0) rfl
    have f5 := HB6.out.free 5
    have r6 := HB6.out.cell (i := 6) (v := .bool false) rfl
    have f6 := HB6.out.free 6
    go_wp2_with fail
    have F1 := Blk.whole (Itm.cs x) HB6.out rfl
    rw [EQ.out]
    exact bodyPost_ret (results_cell_tmp rfl _ _ W.heap.size 36 _ _ rfl F1 Try.underlying36 rfl (by kernel_rfl)) rfl (QPost.boxed HW0.out H0.out P6 (Itm.cs x))

end Go.Proofs.Yteolchbeiidapaa
