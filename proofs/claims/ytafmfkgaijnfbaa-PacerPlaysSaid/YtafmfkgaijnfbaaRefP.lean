/- Contracts of the document's own pacer (goitref16) over this translation: four cells, its time, credit, rate, quantum; the same answers. -/
import Derived.Test.YtafmfkgaijnfbaaPb
import Derived.Test.YtafmfkgaijnfbaaR1a
import Derived.Test.YtafmfkgaijnfbaaR1s
import Derived.Test.YtafmfkgaijnfbaaR1b
set_option linter.unusedVariables false
namespace Go.Proofs.Ytafmfkgaijnfbaa
open Go.RowKit

def PS.rcells (s : PS) : Array Value := #[.int .u64 (s.t : Int), .int .u64 (s.s : Int), .int .u64 (s.r : Int), .int .u64 (s.q : Int)]

/-- What a call of the document's pacer leaves. -/
structure QPost (w : World) (b : Nat) (r : Value) (s : PS) (e : Ending) (w' : World) : Prop where
  e : e = .returned r
  blk : Blk w' b 29 s.rcells
  gr : w.grownBy w' (some b)

theorem rq_Tick (b now r q : Nat) (s : PS) (W : World) (h : Blk W b 29 s.rcells) (ho : s.ok) (hn : now ≤ 18446744073709551615) (hr : r ≤ 18446744073709551615) (hq : q ≤ 18446744073709551615) :
    Calls Try.prog 10 #[.pointer (some ⟨b, 0, none⟩), .int .u64 (now : Int), .int .u64 (r : Int), .int .u64 (q : Int)] W (QPost W b (.int .i64 (s.tickE now)) (s.tickS now r q)) := by
  have c0 := h.cell (i := 0) (v := .int .u64 (s.t : Int)) rfl
  have c1 := h.cell (i := 1) (v := .int .u64 (s.s : Int)) rfl
  unfold PS.tickE PS.tickS
  by_cases c : now < s.t
  · rw [if_pos c, if_pos c]
    have d : decide (now < s.t) = true := decide_eq_true c
    have HH := Lib.hid h
    clear h c
    go_enter Try.func10, Try.ntmps10
    go_wp2
    go_ret
    exact ⟨rfl, HH.out, gr_refl _ _⟩
  · rw [if_neg c, if_neg c]
    have d : decide (now < s.t) = false := decide_eq_false c
    have hw : (now : Int) - (s.t : Int) = ((now - s.t : Nat) : Int) := by omega
    have hww : IntKind.u64.wrap ((now - s.t : Nat) : Int) = ((now - s.t : Nat) : Int) := by rw [IntKind.wrap_u64]; omega
    have HX := Lib.hid (fun w => ref_Mul r (now - s.t) w hr (by omega))
    have HY := Lib.hid (fun w => ref_Add s.s (Pl.mulS r (now - s.t)) w ho.2.2.2 (Pl.mulS_le _ _))
    have HM : Hid (∀ w, Calls Try.prog 14 #[.int .u64 (q : Int), .int .u64 1000000] w fun e w' => e = .returned (.int .u64 ((Pl.mulS q 1000000 : Nat) : Int)) ∧ w = w') := Lib.hid (fun w => ref_Mul q 1000000 w hq (by omega))
    have hm : min ((Pl.addS s.s (Pl.mulS r (now - s.t)) : Nat) : Int) ((Pl.mulS q 1000000 : Nat) : Int) = ((min (Pl.addS s.s (Pl.mulS r (now - s.t))) (Pl.mulS q 1000000) : Nat) : Int) := by omega
    have f0 := h.free 0
    have f1 := h.free 1
    have f2 := h.free 2
    have f3 := h.free 3
    have c2 := h.cell (i := 2) (v := .int .u64 (s.r : Int)) rfl
    have c3 := h.cell (i := 3) (v := .int .u64 (s.q : Int)) rfl
    have HH := Lib.hid h
    have HG := Lib.hid (gr_drew (gr_refl W (some b)))
    generalize min (Pl.addS s.s (Pl.mulS r (now - s.t))) (Pl.mulS q 1000000) = z at *
    generalize Pl.addS s.s (Pl.mulS r (now - s.t)) = y at *
    generalize Pl.mulS r (now - s.t) = x at *
    generalize Pl.mulS q 1000000 = m at *
    generalize hl : now - s.t = l at *
    clear h ho hn hr hq c hl
    go_enter Try.func10, Try.ntmps10
    go_wp2_with fail
    have c0' : W.drew.cell? ⟨b, 0, none⟩ = some (.int .u64 (s.t : Int)) := c0
    have c1' : W.drew.cell? ⟨b, 1, none⟩ = some (.int .u64 (s.s : Int)) := c1
    go_region_held3 (fun w' => w'.cell? ⟨b, 0, none⟩ = some (.int .u64 (s.t : Int)) ∧ w'.cell? ⟨b, 1, none⟩ = some (.int .u64 (s.s : Int)) ∧ w' = W.drew)
      (first | exact ⟨c0', c1', rfl⟩ | assumption)
      (first
        | (go_at_call 14; go_split_ands; (refine (HX.out _).mono ?_); rintro e w' ⟨rfl, rfl⟩)
        | (go_at_call 21; go_split_ands; (refine (HY.out _).mono ?_); rintro e w' ⟨rfl, rfl⟩))
    all_goals
      go_wp2_with (go_at_call 14; (refine (HM.out _).mono ?_); rintro e w' ⟨rfl, rfl⟩)
      go_ret
      exact ⟨rfl, by simpa [PS.rcells] using ((((HH.out.set 1 (.int .u64 z)).set 0 (.int .u64 now)).set 2 (.int .u64 r)).set 3 (.int .u64 q)).drew, gr_set (gr_set (gr_set (gr_set HG.out _ _) _ _) _ _) _ _⟩

theorem rq_Take (b x : Nat) (s : PS) (W : World) (h : Blk W b 29 s.rcells) (ho : s.ok) (hx : x ≤ 18446744073709551615) :
    Calls Try.prog 12 #[.pointer (some ⟨b, 0, none⟩), .int .u64 (x : Int)] W (QPost W b (.bool (s.takeB x)) (s.takeS x)) := by
  have c1 := h.cell (i := 1) (v := .int .u64 (s.s : Int)) rfl
  have f1 := h.free 1
  have HM : Hid (∀ w, Calls Try.prog 14 #[.int .u64 (x : Int), .int .u64 1000000] w fun e w' => e = .returned (.int .u64 ((Pl.mulS x 1000000 : Nat) : Int)) ∧ w = w') := Lib.hid (fun w => ref_Mul x 1000000 w hx (by omega))
  have hs := ho.2.2.2
  have HH := Lib.hid h
  unfold PS.takeB PS.takeS
  clear h ho hx
  by_cases c : Pl.mulS x 1000000 ≤ s.s
  · rw [decide_eq_true c, if_pos c]
    have d : decide (s.s < Pl.mulS x 1000000) = false := decide_eq_false (by omega)
    have e : IntKind.u64.wrap ((s.s - Pl.mulS x 1000000 : Nat) : Int) = ((s.s - Pl.mulS x 1000000 : Nat) : Int) := by rw [IntKind.wrap_u64]; omega
    have e' : (s.s : Int) - ((Pl.mulS x 1000000 : Nat) : Int) = ((s.s - Pl.mulS x 1000000 : Nat) : Int) := by omega
    generalize s.s - Pl.mulS x 1000000 = z at *
    generalize Pl.mulS x 1000000 = m at *
    clear c hs
    go_enter Try.func12, Try.ntmps12
    go_wp2_with (go_at_call 14; (refine (HM.out _).mono ?_); rintro e w' ⟨rfl, rfl⟩)
    go_ret
    exact ⟨rfl, by simpa [PS.rcells] using HH.out.set 1 (.int .u64 z), gr_set (gr_refl _ _) _ _⟩
  · rw [decide_eq_false c, if_neg c]
    have d : decide (s.s < Pl.mulS x 1000000) = true := decide_eq_true (by omega)
    generalize Pl.mulS x 1000000 = m at *
    clear c hs
    go_enter Try.func12, Try.ntmps12
    go_wp2_with (go_at_call 14; (refine (HM.out _).mono ?_); rintro e w' ⟨rfl, rfl⟩)
    go_ret
    exact ⟨rfl, HH.out, gr_refl _ _⟩

theorem rq_Next (b x : Nat) (s : PS) (W : World) (h : Blk W b 29 s.rcells) (ho : s.ok) (hx : x ≤ 18446744073709551615) :
    Calls Try.prog 16 #[.pointer (some ⟨b, 0, none⟩), .int .u64 (x : Int)] W fun e w' => e = .returned (.tuple #[.int .u64 (s.nextT x : Int), .bool (s.nextB x)]) ∧ Below W.heap.size W w' := by
  have c0 := h.cell (i := 0) (v := .int .u64 (s.t : Int)) rfl
  have c1 := h.cell (i := 1) (v := .int .u64 (s.s : Int)) rfl
  have c2 := h.cell (i := 2) (v := .int .u64 (s.r : Int)) rfl
  have c3 := h.cell (i := 3) (v := .int .u64 (s.q : Int)) rfl
  have HB := Lib.hid (Below.refl W.heap.size W)
  unfold PS.nextT PS.nextB
  by_cases c : s.q < x
  · rw [if_pos c, if_pos c]
    have d : decide (s.q < x) = true := decide_eq_true c
    clear h c ho
    go_enter Try.func16, Try.ntmps16
    go_wp2
    go_ret2
    exact ⟨rfl, HB.out⟩
  · rw [if_neg c, if_neg c]
    have d : decide (s.q < x) = false := decide_eq_false c
    have hl : s.lack x ≤ 18446744073709551615 := Nat.le_trans (Nat.sub_le _ _) (Pl.mulS_le _ _)
    have HM : Hid (∀ w, Calls Try.prog 14 #[.int .u64 (x : Int), .int .u64 1000000] w fun e w' => e = .returned (.int .u64 ((Pl.mulS x 1000000 : Nat) : Int)) ∧ w = w') := Lib.hid (fun w => ref_Mul x 1000000 w hx (by omega))
    have HS : Hid (∀ w, Calls Try.prog 26 #[.int .u64 ((Pl.mulS x 1000000 : Nat) : Int), .int .u64 (s.s : Int)] w fun e w' => e = .returned (.int .u64 ((s.lack x : Nat) : Int)) ∧ w = w') := Lib.hid (fun w => rs_Sub (Pl.mulS x 1000000) s.s w (Pl.mulS_le _ _))
    have HO : Hid (∀ w, Calls Try.prog 27 #[.int .u64 ((s.lack x : Nat) : Int), .int .u64 1, .int .u64 (s.r : Int)] w fun e w' => e = .returned (.int .u64 ((Pl.overS (s.lack x) 1 s.r : Nat) : Int)) ∧ w = w') := Lib.hid (fun w => ref_Over (s.lack x) 1 s.r w hl (by omega) ho.1)
    have HA := Lib.hid (fun w => ref_Add s.t (Pl.overS (s.lack x) 1 s.r) w ho.2.2.1 (Pl.overS_le _ _ _))
    have HD : Hid (W.drew.cell? ⟨b, 1, none⟩ = some (.int .u64 (s.s : Int))) := Lib.hid c1
    clear c h ho hl hx
    generalize Pl.addS s.t (Pl.overS (s.lack x) 1 s.r) = n at *
    generalize Pl.overS (s.lack x) 1 s.r = o at *
    generalize s.lack x = l at *
    generalize Pl.mulS x 1000000 = m at *
    by_cases c : l = 0
    · subst c
      rw [if_pos rfl, if_pos rfl]
      go_enter Try.func16, Try.ntmps16
      go_wp2_with fail
      go_region_held3 (fun w' => w'.cell? ⟨b, 1, none⟩ = some (.int .u64 (s.s : Int)) ∧ w' = W.drew)
        (first | exact ⟨HD.out, rfl⟩ | assumption)
        (first
          | (go_at_call 14; go_split_ands; (refine (HM.out _).mono ?_); rintro e w' ⟨rfl, rfl⟩)
          | (go_at_call 26; go_split_ands; (refine (HS.out _).mono ?_); rintro e w' ⟨rfl, rfl⟩))
      all_goals
        go_wp2
        go_ret2
        exact ⟨rfl, (Drawn.drew _).below _⟩
    · rw [if_neg c, if_neg c]
      have t : ((l : Int) == 0) = false := beq_eq_false_iff_ne.2 (by omega)
      by_cases c' : s.r = 0
      · rw [if_pos c', if_pos c']
        have u : ((s.r : Int) == 0) = true := by rw [c']; rfl
        clear c c'
        go_enter Try.func16, Try.ntmps16
        go_wp2_with fail
        go_region_held3 (fun w' => w'.cell? ⟨b, 1, none⟩ = some (.int .u64 (s.s : Int)) ∧ w' = W.drew)
          (first | exact ⟨HD.out, rfl⟩ | assumption)
          (first
            | (go_at_call 14; go_split_ands; (refine (HM.out _).mono ?_); rintro e w' ⟨rfl, rfl⟩)
            | (go_at_call 26; go_split_ands; (refine (HS.out _).mono ?_); rintro e w' ⟨rfl, rfl⟩))
        all_goals
          go_wp2
          go_ret2
          exact ⟨rfl, (Drawn.drew _).below _⟩
      · rw [if_neg c', if_neg c']
        have u : ((s.r : Int) == 0) = false := beq_eq_false_iff_ne.2 (by omega)
        have HD2 : Hid (W.drew.drew.cell? ⟨b, 0, none⟩ = some (.int .u64 (s.t : Int)) ∧ W.drew.drew.cell? ⟨b, 2, none⟩ = some (.int .u64 (s.r : Int)) ) := Lib.hid ⟨c0, c2⟩
        clear c c'
        go_enter Try.func16, Try.ntmps16
        go_wp2_with fail
        go_region_held3 (fun w' => w'.cell? ⟨b, 1, none⟩ = some (.int .u64 (s.s : Int)) ∧ w' = W.drew)
          (first | exact ⟨HD.out, rfl⟩ | assumption)
          (first
            | (go_at_call 14; go_split_ands; (refine (HM.out _).mono ?_); rintro e w' ⟨rfl, rfl⟩)
            | (go_at_call 26; go_split_ands; (refine (HS.out _).mono ?_); rintro e w' ⟨rfl, rfl⟩))
        all_goals
          go_wp2_with fail
          go_region_held3 (fun w' => w'.cell? ⟨b, 0, none⟩ = some (.int .u64 (s.t : Int)) ∧ w'.cell? ⟨b, 2, none⟩ = some (.int .u64 (s.r : Int)) ∧ w' = W.drew.drew)
            (first | exact ⟨HD2.out.1, HD2.out.2, rfl⟩ | assumption)
            (first
              | (go_at_call 27; go_split_ands; (refine (HO.out _).mono ?_); rintro e w' ⟨rfl, rfl⟩)
              | (go_at_call 21; go_split_ands; (refine (HA.out _).mono ?_); rintro e w' ⟨rfl, rfl⟩))
          all_goals
            go_wp2
            go_ret2
            exact ⟨rfl, ((Drawn.drew _).more (Drawn.drew _)).below _⟩
end Go.Proofs.Ytafmfkgaijnfbaa
