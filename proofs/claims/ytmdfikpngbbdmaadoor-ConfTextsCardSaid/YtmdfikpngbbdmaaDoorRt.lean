/- conf.Right over this translation: whether each of a setup's six numbers is in its range. -/
import Derived.Test.YtmdfikpngbbdmaaDoorIt
import Derived.Test.YtmdfikpngbbdmaaDoorRo
set_option linter.unusedVariables false
namespace Go.Proofs.YtmdfikpngbbdmaaDoor
open Go.RowKit Go.Shelf Cf
attribute [local go_sem] Oper.semAt_some

def ccells (c : Setup) : Array Value := #[.int .u64 (c 0 : Int), .int .u64 (c 1 : Int), .int .u64 (c 2 : Int), .int .u64 (c 3 : Int), .int .u64 (c 4 : Int), .int .u64 (c 5 : Int)]

theorem ccell {W : World} {b : Nat} {T : TypeId} {c : Setup} (h : Blk W b T (ccells c)) (k : Fin 6) : W.cell? ⟨b, k.val, none⟩ = some (.int .u64 (c k : Int)) :=
  h.cell (fin6 (fun k => (ccells c)[k.val]? = some (.int .u64 (c k : Int))) rfl rfl rfl rfl rfl rfl k)

theorem ko_drewN (W : World) (n : Nat) : KeepsOthers W (W.drewN n) := ⟨Nat.le_refl _, fun _ _ h _ => h⟩
theorem Blk.drewN {W : World} {b : Nat} {T : TypeId} {cs : Array Value} (h : Blk W b T cs) (n : Nat) : Blk (W.drewN n) b T cs := h
theorem boxed_drewN {W : World} {b : Nat} {T : TypeId} {v : Value} (h : Boxed W b T v) (n : Nat) : Boxed (W.drewN n) b T v := h
theorem Kf.drewN (W : World) (n : Nat) : Kf W (W.drewN n) := ⟨Nat.le_refl _, fun _ _ h => h⟩
theorem bel_drewN {B : Nat} {A W : World} (h : Below B A W) (n : Nat) : Below B A (W.drewN n) := ⟨h.os, h.tape, h.output, h.size, h.block⟩
theorem mem_all6 (x : Fin 6) : x ∈ all6 := by revert x; decide
theorem not_right {c : Setup} {x : Fin 6} (h : fits c x = false) : rightC c = false := by
  unfold rightC
  rw [List.all_eq_false]
  exact ⟨x, mem_all6 x, by simp [h]⟩
theorem all_snoc {c : Setup} {x : Fin 6} {pre : List (Fin 6)} (h : pre.all (fits c) = true) (hx : fits c x = true) : (pre ++ [x]).all (fits c) = true := by
  rw [List.all_append, h]; simp [hx]

theorem blk_own {β : Type} (B : Nat) (t : TypeId) (f : β → Array Value) : Own (fun s W => Blk W B t (f s)) := fun s X Y row hs hg hrow =>
  hs.grown hg (fun e => by
    obtain ⟨o, ho, hc⟩ := hrow B e.symm
    unfold Blk at hs
    rw [hs] at ho; cases ho; cases hc)

set_option maxRecDepth 100000 in
set_option maxHeartbeats 2000000 in
theorem conf_Right (c : Setup) (hc : ∀ k, c k ≤ 18446744073709551615) (w : World) :
    Calls Tryd.prog 10 #[.agg (ccells c)] w fun e w' => e = .returned (.bool (rightC c)) ∧ Below w.heap.size w w' := by
  refine (callsIn_wide (n := 6)).1 ?_
  refine callsIn_of_wp_marks Tryd.func10 rfl trivial ?_ rfl
  simp only [Tryd.ntmps10, List.size_toArray, List.length_cons, List.length_nil, Nat.reduceAdd, Nat.reduceSub, Array.replicate_succ, Array.replicate_zero, List.push_toArray, List.append_toArray, List.nil_append, List.cons_append]
  gi_wp2_with (refine ⟨trivial, ?_⟩; gi_at_call 14; refine (fields_in _ _ _).mono ?_; rintro e w' ⟨rfl, rfl⟩)
  have HC := Lib.hid hc
  clear hc
  have bC := (((Blk.new w 24 (ccells c)).alloc (.cells #[.bool false] 4)).alloc (.cells #[.pointer (some ⟨w.heap.size, 0, none⟩)] 40))
  have bR := (Boxed.new (w.alloc (.cells (ccells c) 24)) 4 (.bool false)).alloc (.cells #[.pointer (some ⟨w.heap.size, 0, none⟩)] 40)
  have bF := Boxed.new ((w.alloc (.cells (ccells c) 24)).alloc (.cells #[.bool false] 4)) 40 (.pointer (some ⟨w.heap.size, 0, none⟩))
  have hB0 : Below w.heap.size w (((w.alloc (.cells (ccells c) 24)).alloc (.cells #[.bool false] 4)).alloc (.cells #[.pointer (some ⟨w.heap.size, 0, none⟩)] 40)) := (((Below.refl _ w).alloc (Nat.le_refl _) _).alloc (by simp) _).alloc (by simp; omega) _
  simp only [World.size_alloc] at bC bR bF
  refine wpIn_rangeFunc_ownH rfl (by omega) (gf := 24) (lb := #[.pointer (some ⟨w.heap.size + 1 + 1, 0, none⟩)]) rfl trivial (enters_of Tryd.func24 (by kernel_rfl) rfl)
    (fields_stops 5 (w.heap.size + 1 + 1) w.heap.size (by omega) _ bF) Kf.trans Kf.putObj (Below.refl _ _) (fun _ => rfl)
    (fun pre W => ((Blk W w.heap.size 24 (ccells c) ∧ Boxed W (w.heap.size + 1) 4 (.bool false)) ∧ pre.all (fits c) = true) ∧ Below w.heap.size w W)
    (fun cd pre W => ((cd = .ret ∧ rightC c = false) ∧ Boxed W (w.heap.size + 1) 4 (.bool false)) ∧ Below w.heap.size w W)
    (OwnFrom.and (OwnFrom.and (OwnFrom.and (Own.from (blk_own _ _ _) _) (Own.from (boxed_own _ _ _) _)) (ownFrom_pure _ _)) (ownFrom_below (Nat.le_refl _) (by simp; omega)))
    (fun cd => OwnFrom.and (OwnFrom.and (ownFrom_pure _ _) (Own.from (boxed_own _ _ _) _)) (ownFrom_below (Nat.le_refl _) (by simp; omega)))
    ⟨⟨⟨bC, bR⟩, rfl⟩, hB0⟩
    (fun x a' W => ∃ Bx, Blk W Bx 43 (fcells w.heap.size x) ∧ a' = { tmps := #[.agg (ccells c), .pointer (some ⟨w.heap.size, 0, none⟩), .pointer (some ⟨w.heap.size + 1, 0, none⟩), .pointer (some ⟨Bx, 0, none⟩), .func (.func 24) #[] #[.pointer (some ⟨w.heap.size + 1 + 1, 0, none⟩)], .agg (fcells w.heap.size x), undef, undef, undef, undef, undef, undef, undef, undef, undef, undef, undef, undef, undef, undef, undef, undef], defers := [] })
    (fun x a' _ X Y row hs hg hr => by obtain ⟨Bx, h2, h3⟩ := hs; exact ⟨Bx, blk_own Bx 43 (fun (_ : Unit) => fcells w.heap.size x) () X Y row h2 hg (fun r e => (hr r e).2), h3⟩)
    ?assign ?body ?done ?stop
  case assign =>
    rintro l pre x W K ⟨⟨⟨h1, h2⟩, h3⟩, h4⟩ hK
    have H1 := Lib.hid h1
    have H2 := Lib.hid h2
    have H3 := Lib.hid h3
    have H4 := Lib.hid h4
    clear h1 h2 h3 h4
    simp only [fcells] at hK ⊢
    gi_wp2
    exact hK _ _ ((KeepsOthers.alloc _ _).from _) (Kf.alloc _ _) ⟨⟨⟨H1.out.alloc _, H2.out.alloc _⟩, H3.out⟩, H4.out.alloc H4.out.size _⟩ ⟨W.heap.size, Blk.new W _ _, rfl⟩
  case body =>
    rintro l pre x a' W hl ⟨r, hr⟩ ⟨⟨⟨h1, h2⟩, h3⟩, h4⟩ ⟨Bx, hX, rfl⟩ hlt
    have hn := ccell h1 x
    have f1 := hX.cell (i := 1) (v := .pointer (some ⟨w.heap.size, x.val, none⟩)) rfl
    have f2 := hX.cell (i := 2) (v := .int .u64 (least x : Int)) rfl
    have f3 := hX.cell (i := 3) (v := .int .u64 (most x : Int)) rfl
    have r1 := h2.cell
    have r2 := h2.frozen
    have H1 := Lib.hid h1
    have H2 := Lib.hid h2
    have H3 := Lib.hid h3
    have H4 := Lib.hid h4
    have HX := Lib.hid hX
    have HF := Lib.hid (show fits c x = decide (least x ≤ c x ∧ c x ≤ most x) from rfl)
    clear h1 h2 h3 h4 hX hr hl hlt bC bR bF hB0 HC
    simp only [fcells]
    generalize c x = n at *
    generalize least x = lo at *
    generalize most x = hi at *
    by_cases hlo : n < lo
    · have d1 : decide (n < lo) = true := by simpa using hlo
      refine wpIn_block (wpIn_seq_k (fun K hK => ?_))
      refine region_quiet_round (by rintro ⟨_, _, h⟩; exact h) (by kernel_rfl) (by kernel_rfl) (by kernel_rfl) ?_
      repeat (go_big_quiet_step (fail))
      refine wpQuiet_nil ?_
      intro _ hw'
      obtain ⟨nq, hw''⟩ := hw'
      subst hw''
      refine hK _ _ ?_
      clear hK
      gi_wp2
      have hx : fits c x = false := by rw [HF.out]; simp; omega
      exact ⟨((ko_drewN W nq).trans (KeepsOthers.setCell _ _ _)).from _, ⟨⟨rfl, not_right hx⟩, (boxed_drewN H2.out nq).set _⟩, (bel_drewN H4.out nq).setCell (p := ⟨w.heap.size + 1, 0, none⟩) (by simp) _⟩
    · have d1 : decide (n < lo) = false := by simpa using hlo
      by_cases hhi : hi < n
      · have d2 : decide (hi < n) = true := by simpa using hhi
        refine wpIn_block (wpIn_seq_k (fun K hK => ?_))
        refine region_quiet_round (by rintro ⟨_, _, h⟩; exact h) (by kernel_rfl) (by kernel_rfl) (by kernel_rfl) ?_
        repeat (go_big_quiet_step (fail))
        refine wpQuiet_nil ?_
        intro _ hw'
        obtain ⟨nq, hw''⟩ := hw'
        subst hw''
        refine hK _ _ ?_
        clear hK
        gi_wp2
        have hx : fits c x = false := by rw [HF.out]; simp; omega
        exact ⟨((ko_drewN W nq).trans (KeepsOthers.setCell _ _ _)).from _, ⟨⟨rfl, not_right hx⟩, (boxed_drewN H2.out nq).set _⟩, (bel_drewN H4.out nq).setCell (p := ⟨w.heap.size + 1, 0, none⟩) (by simp) _⟩
      · have d2 : decide (hi < n) = false := by simpa using hhi
        refine wpIn_block (wpIn_seq_k (fun K hK => ?_))
        refine region_quiet_round (by rintro ⟨_, _, h⟩; exact h) (by kernel_rfl) (by kernel_rfl) (by kernel_rfl) ?_
        repeat (go_big_quiet_step (fail))
        refine wpQuiet_nil ?_
        intro _ hw'
        obtain ⟨nq, hw''⟩ := hw'
        subst hw''
        refine hK _ _ ?_
        clear hK
        gi_wp2
        have hx : fits c x = true := by rw [HF.out]; simp; omega
        exact ⟨(ko_drewN W nq).from _, Kf.drewN W nq, ⟨⟨H1.out.drewN nq, boxed_drewN H2.out nq⟩, all_snoc H3.out hx⟩, bel_drewN H4.out nq⟩
  case done =>
    rintro D xs W hD rfl ⟨⟨⟨h1, h2⟩, h3⟩, h4⟩ hK
    have r1 := h2.cell
    have r2 := h2.frozen
    have H2 := Lib.hid h2
    have H3 := Lib.hid h3
    have H4 := Lib.hid h4
    have HK := Lib.hid hK
    have HD := Lib.hid hD
    clear h1 h2 h3 h4 hK hD bC bR bF hB0 HC
    gi_wp2
    have hK' := (KeepsOthers.setCell W ⟨w.heap.size + 1, 0, none⟩ (.bool true)).same D _ HK.out rfl
    refine ⟨by simp, .inl ⟨_, _, rfl, run_takeDeferred hK', ?_⟩⟩
    have hc5 := cell_kept (World.cell?_setCell_same' W ⟨w.heap.size + 1, 0, none⟩ (.bool true) (by rw [r1]; rfl)) (grownBy_putObj' _ D (.deferred none)) (fun r e => by cases e; exact ⟨_, hK', rfl⟩)
    refine ⟨.bool true, ?_, by rw [show rightC c = true from H3.out], (H4.out.setCell (p := ⟨w.heap.size + 1, 0, none⟩) (by simp) _).trans (belowK_b (w := w) (Nat.le_refl _) _ D _ _ (by have := HD.out; simp at this; omega) hK' rfl rfl)⟩
    simp [results, Tryd.f10, go_sem, hc5]
  case stop =>
    rintro D cd pre W hD _ ⟨⟨⟨rfl, h1⟩, h2⟩, h4⟩ hK
    have r1 := h2.cell
    have H1 := Lib.hid h1
    have H4 := Lib.hid h4
    have HK := Lib.hid hK
    have HD := Lib.hid hD
    clear h1 h2 h4 hK hD bC bR bF hB0 HC
    gi_wp2
    refine ⟨by simp, .inl ⟨_, _, rfl, run_takeDeferred HK.out, ?_⟩⟩
    have hc5 := cell_kept r1 (grownBy_putObj' _ D (.deferred none)) (fun r e => by cases e; exact ⟨_, HK.out, rfl⟩)
    refine ⟨.bool false, ?_, by rw [H1.out], H4.out.trans (belowK_b (w := w) (Nat.le_refl _) W D _ _ (by have := HD.out; simp at this; omega) HK.out rfl rfl)⟩
    simp [results, Tryd.f10, go_sem, hc5]
end Go.Proofs.YtmdfikpngbbdmaaDoor
