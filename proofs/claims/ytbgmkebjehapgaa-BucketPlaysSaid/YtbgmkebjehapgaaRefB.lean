/- Contracts of the document's own bucket (goitref18) over this translation: four cells of a block, from any one on: its rate, time, tokens, wasted ones. -/
import Derived.Test.YtbgmkebjehapgaaBk
import Derived.Test.YtbgmkebjehapgaaR1d
import Derived.Test.YtbgmkebjehapgaaR1m
set_option linter.unusedVariables false
namespace Go.Proofs.Ytbgmkebjehapgaa
open Go.RowKit

/-- The cells of a bucket, from o on. -/
structure KAt (cs : Array Value) (o : Nat) (s : KB) : Prop where
  r : cs[o]? = some (.int .u64 (s.r : Int))
  t : cs[o + 1]? = some (.int .u64 (s.t : Int))
  n : cs[o + 2]? = some (.int .u64 (s.n : Int))
  w : cs[o + 3]? = some (.int .u64 (s.w : Int))
/-- The cells, with another bucket from o on (of the same rate). -/
def putK (cs : Array Value) (o : Nat) (s : KB) : Array Value := ((cs.setIfInBounds (o + 1) (.int .u64 (s.t : Int))).setIfInBounds (o + 2) (.int .u64 (s.n : Int))).setIfInBounds (o + 3) (.int .u64 (s.w : Int))
theorem set_same {cs : Array Value} {i : Nat} {v : Value} (h : cs[i]? = some v) : cs.setIfInBounds i v = cs := by
  obtain ⟨hlt, he⟩ := Array.getElem?_eq_some_iff.1 h
  apply Array.ext
  · simp
  · intro k h1 h2
    rw [Array.getElem_setIfInBounds]
    split
    · next e => subst e; exact he.symm
    · rfl
theorem KAt.same {cs : Array Value} {o : Nat} {s : KB} (h : KAt cs o s) : putK cs o s = cs := by
  unfold putK; rw [set_same h.t, set_same h.n, set_same h.w]
theorem KAt.set2 {cs : Array Value} {o : Nat} {s : KB} (h : KAt cs o s) (n : Nat) : cs.setIfInBounds (o + 2) (.int .u64 (n : Int)) = putK cs o ⟨n, s.w, s.r, s.t⟩ := by
  unfold putK
  rw [set_same h.t]
  refine (set_same ?_).symm
  rw [Array.getElem?_setIfInBounds, if_neg (by omega)]
  exact h.w
theorem KAt.set21 {cs : Array Value} {o : Nat} {s : KB} (h : KAt cs o s) (n t : Nat) : (cs.setIfInBounds (o + 2) (.int .u64 (n : Int))).setIfInBounds (o + 1) (.int .u64 (t : Int)) = putK cs o ⟨n, s.w, s.r, t⟩ := by
  unfold putK
  rw [Array.setIfInBounds_comm _ _ (by omega)]
  refine (set_same ?_).symm
  rw [Array.getElem?_setIfInBounds, if_neg (by omega), Array.getElem?_setIfInBounds, if_neg (by omega)]
  exact h.w
theorem KAt.set23 {cs : Array Value} {o : Nat} {s : KB} (h : KAt cs o s) (n w : Nat) : (cs.setIfInBounds (o + 2) (.int .u64 (n : Int))).setIfInBounds (o + 3) (.int .u64 (w : Int)) = putK cs o ⟨n, w, s.r, s.t⟩ := by
  unfold putK
  rw [set_same h.t]
theorem KAt.put {cs : Array Value} {o : Nat} {s s' : KB} (h : KAt cs o s) (hr : s'.r = s.r) : KAt (putK cs o s') o s' := by
  have b1 := (Array.getElem?_eq_some_iff.1 h.t).1
  have b2 := (Array.getElem?_eq_some_iff.1 h.n).1
  have b3 := (Array.getElem?_eq_some_iff.1 h.w).1
  unfold putK
  refine ⟨?_, ?_, ?_, ?_⟩
  · simp only [Array.getElem?_setIfInBounds, Array.size_setIfInBounds]
    rw [if_neg (by omega), if_neg (by omega), if_neg (by omega), hr]
    exact h.r
  · simp only [Array.getElem?_setIfInBounds, Array.size_setIfInBounds]
    rw [if_neg (by omega), if_neg (by omega), if_pos trivial, if_pos b1]
  · simp only [Array.getElem?_setIfInBounds, Array.size_setIfInBounds]
    rw [if_neg (by omega), if_pos trivial, if_pos b2]
  · simp only [Array.getElem?_setIfInBounds, Array.size_setIfInBounds]
    rw [if_pos trivial, if_pos b3]

/-- What a call of the document's bucket leaves. -/
structure KQ (w : World) (b : Nat) (T : TypeId) (cs : Array Value) (o : Nat) (r : Value) (s : KB) (e : Ending) (w' : World) : Prop where
  e : e = .returned r
  blk : Blk w' b T (putK cs o s)
  gr : w.grownBy w' (some b)

/-- While its tokens are told anew: the block, with other tokens. -/
structure KXo (W : World) (b : Nat) (T : TypeId) (cs : Array Value) (o : Nat) (s : KB) (n : Nat) (w : World) : Prop where
  blk : Blk w b T (cs.setIfInBounds (o + 2) (.int .u64 (n : Int)))
  gr : W.grownBy w (some b)
  k : KAt cs o s
theorem KXo.cells {W w : World} {b o n : Nat} {T : TypeId} {cs : Array Value} {s : KB} (h : KXo W b T cs o s n w) : w.cell? ⟨b, o, none⟩ = some (.int .u64 (s.r : Int)) ∧ w.cell? ⟨b, o + 1, none⟩ = some (.int .u64 (s.t : Int)) ∧ w.cell? ⟨b, o + 2, none⟩ = some (.int .u64 (n : Int)) := by
  have b2 := (Array.getElem?_eq_some_iff.1 h.k.n).1
  refine ⟨h.blk.cell ?_, h.blk.cell ?_, h.blk.cell ?_⟩
  · rw [Array.getElem?_setIfInBounds, if_neg (by omega)]; exact h.k.r
  · rw [Array.getElem?_setIfInBounds, if_neg (by omega)]; exact h.k.t
  · rw [Array.getElem?_setIfInBounds, if_pos rfl, if_pos b2]
theorem KXo.start {W : World} {b o : Nat} {T : TypeId} {cs : Array Value} {s : KB} (h : Blk W b T cs) (hk : KAt cs o s) : KXo W b T cs o s s.n W.drew := ⟨by rw [set_same hk.n]; exact h.drew, gr_drew (gr_refl _ _), hk⟩
theorem KXo.set {W w : World} {b o n : Nat} {T : TypeId} {cs : Array Value} {s : KB} (h : KXo W b T cs o s n w) (z : Nat) : KXo W b T cs o s z (w.setCell ⟨b, o + 2, none⟩ (.int .u64 (z : Int))) := by
  refine ⟨?_, gr_set h.gr _ _, h.k⟩
  have := h.blk.set (o + 2) (.int .u64 (z : Int))
  rwa [Array.setIfInBounds_setIfInBounds] at this
theorem KXo.done {W w : World} {b o n : Nat} {T : TypeId} {cs : Array Value} {s : KB} (h : KXo W b T cs o s n w) (t : Nat) : KQ W b T cs o (.tuple #[]) ⟨n, s.w, s.r, t⟩ (.returned (.tuple #[])) (w.setCell ⟨b, o + 1, none⟩ (.int .u64 (t : Int))) :=
  ⟨rfl, by have := h.blk.set (o + 1) (.int .u64 (t : Int)); rwa [h.k.set21] at this, gr_set h.gr _ _⟩
def KSo (W : World) (b : Nat) (T : TypeId) (cs : Array Value) (o : Nat) (s : KB) (w : World) : Prop := ∃ n, KXo W b T cs o s n w
theorem kso_of {W w : World} {b o n : Nat} {T : TypeId} {cs : Array Value} {s : KB} (h : Hid (KXo W b T cs o s n w)) : Hid (KSo W b T cs o s w) := Lib.hid ⟨n, h.out⟩
theorem kso_r {W : World} {b o : Nat} {T : TypeId} {cs : Array Value} {s : KB} : (∀ w, Hid (KSo W b T cs o s w) → w.cell? ⟨b, o, none⟩ = some (.int .u64 (s.r : Int))) ∧ (∀ w, Hid (KSo W b T cs o s w) → w.cell? ⟨b, o + 1, none⟩ = some (.int .u64 (s.t : Int))) :=
  ⟨fun w h => by obtain ⟨n, k⟩ := h.out; exact k.cells.1, fun w h => by obtain ⟨n, k⟩ := h.out; exact k.cells.2.1⟩

theorem rk_To (b o now : Nat) (T : TypeId) (cs : Array Value) (s : KB) (W : World) (h : Blk W b T cs) (hk : KAt cs o s) (ho : s.ok) (hn : now ≤ 18446744073709551615) :
    Calls Try.prog 9 #[.pointer (some ⟨b, o, none⟩), .int .u64 (now : Int)] W (KQ W b T cs o (.tuple #[]) (s.toS now)) := by
  have c1 := h.cell hk.t
  unfold KB.toS
  by_cases c : now ≤ s.t
  · rw [if_pos c]
    have d : decide (s.t < now) = false := decide_eq_false (by omega)
    have HH := Lib.hid (show Blk W b T (putK cs o s) by rw [hk.same]; exact h)
    clear h hk ho hn c
    go_enter Try.func9, Try.ntmps9
    go_wp2
    go_end0
    exact ⟨rfl, HH.out, gr_refl _ _⟩
  · rw [if_neg c]
    have d : decide (s.t < now) = true := decide_eq_true (by omega)
    have hw : (now : Int) - (s.t : Int) = ((now - s.t : Nat) : Int) := by omega
    have hww : IntKind.u64.wrap ((now - s.t : Nat) : Int) = ((now - s.t : Nat) : Int) := by rw [IntKind.wrap_u64]; omega
    have HX := Lib.hid (fun w => ref_Mul s.r (now - s.t) w ho.2.2.1 (by omega))
    have HY := Lib.hid (fun w => ref_Add s.n (Pl.mulS s.r (now - s.t)) w ho.1 (Pl.mulS_le _ _))
    have K0 := Lib.hid (KXo.start h hk)
    obtain ⟨r0, r1⟩ := kso_r (W := W) (b := b) (T := T) (cs := cs) (o := o) (s := s)
    generalize Pl.addS s.n (Pl.mulS s.r (now - s.t)) = y at *
    generalize Pl.mulS s.r (now - s.t) = x at *
    generalize hl : now - s.t = l at *
    clear h hk ho hn c hl
    go_enter Try.func9, Try.ntmps9
    go_wp2_with fail
    clear c1
    skip
    refine wp_region_held_drew (S := (fun w' => Hid (KSo W b T cs o s w'))) (by kernel_rfl) (kso_of K0) (fun hHeld => ?_)
    generalize W.drew = w0 at *
    simp only [List.size_toArray, List.length_cons, List.length_nil, Nat.reduceAdd, Array.replicate_succ, Array.replicate_zero, List.push_toArray, List.nil_append, List.cons_append]
    refine wpAnyH_take (i := 0) (oi := ⟨some 10, _, _, _, _, _⟩) (v := ?v1) rfl (by kernel_rfl) (by kernel_rfl) (by kernel_rfl) (fun _ _ _ h => h) (Or.inl ⟨by rfl, ?y1⟩) (by assumption) ?r1
    case y1 => intro w hSw; clear hSw; go_simp; (try with_reducible rfl)
    simp only [Act.put, List.setIfInBounds_toArray, List.set_cons_zero, List.set_cons_succ]
    refine wpAnyH_take (i := 1) (oi := ⟨some 11, _, _, _, _, _⟩) (v := ?v2) rfl (by kernel_rfl) (by kernel_rfl) (by kernel_rfl) (fun _ _ _ h => h) (Or.inl ⟨by rfl, ?y2⟩) (by assumption) ?r2
    case y2 => intro w hSw; clear hSw; go_simp; (try with_reducible rfl)
    simp only [Act.put, List.setIfInBounds_toArray, List.set_cons_zero, List.set_cons_succ]
    refine wpAnyH_take (i := 2) (oi := ⟨some 12, _, _, _, _, _⟩) (v := ?v3) rfl (by kernel_rfl) (by kernel_rfl) (by kernel_rfl) (fun _ _ _ h => h) (Or.inl ⟨by rfl, ?y3⟩) (by assumption) ?r3
    case y3 => intro w hSw; clear hSw; go_simp; (try with_reducible rfl)
    simp only [Act.put, List.setIfInBounds_toArray, List.set_cons_zero, List.set_cons_succ]
    refine wpAnyH_take (i := 3) (oi := ⟨some 13, _, _, _, _, _⟩) (v := ?v4) rfl (by kernel_rfl) (by kernel_rfl) (by kernel_rfl) (fun _ _ _ h => h) (Or.inl ⟨by rfl, ?y4⟩) (by assumption) ?r4
    case y4 => intro w hSw; clear hSw; go_simp; (try with_reducible rfl)
    simp only [Act.put, List.setIfInBounds_toArray, List.set_cons_zero, List.set_cons_succ]
    refine wpAnyH_take (i := 5) (oi := ⟨some 15, _, _, _, _, _⟩) (v := ?v5) rfl (by kernel_rfl) (by kernel_rfl) (by kernel_rfl) (fun _ _ _ h => h) (Or.inl ⟨by rfl, ?y5⟩) (by assumption) ?r5
    case y5 => intro w hSw; clear hSw; go_simp; (try with_reducible rfl)
    simp only [Act.put, List.setIfInBounds_toArray, List.set_cons_zero, List.set_cons_succ]
    refine wpAnyH_take (i := 6) (oi := ⟨some 16, _, _, _, _, _⟩) (v := ?v6) rfl (by kernel_rfl) (by kernel_rfl) (by kernel_rfl) (fun _ _ _ h => h) (Or.inl ⟨by rfl, ?y6⟩) (by assumption) ?r6
    case y6 => intro w hSw; clear hSw; go_simp; (try with_reducible rfl)
    simp only [Act.put, List.setIfInBounds_toArray, List.set_cons_zero, List.set_cons_succ]
    refine wpAnyH_take (i := 7) (oi := ⟨some 17, _, _, _, _, _⟩) (v := ?v7) rfl (by kernel_rfl) (by kernel_rfl) (by kernel_rfl) (fun _ _ _ h => h) (Or.inl ⟨by rfl, ?y7⟩) (by assumption) ?r7
    case y7 => intro w hSw; clear hSw; go_simp; (try with_reducible rfl)
    simp only [Act.put, List.setIfInBounds_toArray, List.set_cons_zero, List.set_cons_succ]
    refine wpAnyH_take (i := 8) (oi := ⟨some 18, _, _, _, _, _⟩) (v := ?v8) rfl (by kernel_rfl) (by kernel_rfl) (by kernel_rfl) (fun _ _ _ h => h) (Or.inl ⟨by rfl, ?y8⟩) (by assumption) ?r8
    case y8 => intro w hSw; skip; go_simp; (try with_reducible rfl)
    simp only [Act.put, List.setIfInBounds_toArray, List.set_cons_zero, List.set_cons_succ]
    refine wpAnyH_take (i := 9) (oi := ⟨some 19, _, _, _, _, _⟩) (v := ?v9) rfl (by kernel_rfl) (by kernel_rfl) (by kernel_rfl) (fun _ _ _ h => h) (Or.inl ⟨by rfl, ?y9⟩) (by assumption) ?r9
    case y9 => intro w hSw; clear hSw; go_simp; (try with_reducible rfl)
    simp only [Act.put, List.setIfInBounds_toArray, List.set_cons_zero, List.set_cons_succ]
    refine wpAnyH_take (i := 10) (oi := ⟨some 20, _, _, _, _, _⟩) (v := ?v10) rfl (by kernel_rfl) (by kernel_rfl) (by kernel_rfl) (fun _ _ _ h => h) (Or.inl ⟨by rfl, ?y10⟩) (by assumption) ?r10
    case y10 => intro w hSw; clear hSw; go_simp; (try with_reducible rfl)
    simp only [Act.put, List.setIfInBounds_toArray, List.set_cons_zero, List.set_cons_succ]
    refine wpAnyH_take (i := 11) (oi := ⟨some 21, _, _, _, _, _⟩) (v := ?v11) rfl (by kernel_rfl) (by kernel_rfl) (by kernel_rfl) (fun _ _ _ h => h) (Or.inl ⟨by rfl, ?y11⟩) (by assumption) ?r11
    case y11 => intro w hSw; clear hSw; go_simp; (try with_reducible rfl)
    simp only [Act.put, List.setIfInBounds_toArray, List.set_cons_zero, List.set_cons_succ]
    refine wpAnyH_take (i := 12) (oi := ⟨some 22, _, _, _, _, _⟩) (v := ?v12) rfl (by kernel_rfl) (by kernel_rfl) (by kernel_rfl) (fun _ _ _ h => h) (Or.inl ⟨by rfl, ?y12⟩) (by assumption) ?r12
    case y12 => intro w hSw; clear hSw; go_simp; (try with_reducible rfl)
    simp only [Act.put, List.setIfInBounds_toArray, List.set_cons_zero, List.set_cons_succ]
    refine wpAnyH_take (i := 13) (oi := ⟨some 23, _, _, _, _, _⟩) (v := ?v13) rfl (by kernel_rfl) (by kernel_rfl) (by kernel_rfl) (fun _ _ _ h => h) (Or.inl ⟨by rfl, ?y13⟩) (by assumption) ?r13
    case y13 => intro w hSw; skip; go_simp; (try with_reducible rfl)
    simp only [Act.put, List.setIfInBounds_toArray, List.set_cons_zero, List.set_cons_succ]
    refine wpAnyH_take (i := 14) (oi := ⟨some 24, _, _, _, _, _⟩) (v := ?v14) rfl (by kernel_rfl) (by kernel_rfl) (by kernel_rfl) (fun _ _ _ h => h) (Or.inl ⟨by rfl, ?y14⟩) (by assumption) ?r14
    case y14 => intro w hSw; clear hSw; go_simp; (try with_reducible rfl)
    simp only [Act.put, List.setIfInBounds_toArray, List.set_cons_zero, List.set_cons_succ]
    refine wpAnyH_ready (rs := [4, 15]) (by kernel_rfl) (by simp) ?_
    refine AllReadyH.cons (o := ⟨some 14, _, _, _, _, _⟩) rfl (fun K hK => ?_) ?_
    · have c2 := (Hid.out (by assumption) : KXo W b T cs o s s.n _).cells.2.2
      go_simp
      refine hK.out _ _ hHeld (fun hHeld => ?_)
      clear hK
      try simp only [List.setIfInBounds_toArray, List.set_cons_zero, List.set_cons_succ]
      refine wpAnyH_ready (rs := [15]) (by kernel_rfl) (by simp) ?_
      refine AllReadyH.cons (o := ⟨some 25, _, _, _, _, _⟩) rfl (fun K hK => ?_) AllReadyH.nil
      go_simp
      refine (HX.out _).mono ?_
      rintro e w2 ⟨rfl, rfl⟩
      go_wp2_with fail
      refine hK.out _ _ hHeld (fun hHeld => ?_)
      clear hK
      try simp only [List.setIfInBounds_toArray, List.set_cons_zero, List.set_cons_succ]
      refine wpAnyH_ready (rs := [16]) (by kernel_rfl) (by simp) ?_
      refine AllReadyH.cons (o := ⟨some 26, _, _, _, _, _⟩) rfl (fun K hK => ?_) AllReadyH.nil
      go_simp
      refine (HY.out _).mono ?_
      rintro e w3 ⟨rfl, rfl⟩
      go_wp2_with fail
      refine hK.out _ _ hHeld (fun hHeld => ?_)
      clear hK
      try simp only [List.setIfInBounds_toArray, List.set_cons_zero, List.set_cons_succ]
      refine wpAnyH_take (i := 17) (oi := ⟨some 27, _, _, _, _, _⟩) (v := ?v15) rfl (by kernel_rfl) (by kernel_rfl) (by kernel_rfl) (fun _ _ _ h => h) (Or.inl ⟨by rfl, ?y15⟩) (by assumption) ?r15
      case y15 => intro w hSw; clear hSw; go_simp; (try with_reducible rfl)
      simp only [Act.put, List.setIfInBounds_toArray, List.set_cons_zero, List.set_cons_succ]
      refine wpAnyH_take (i := 18) (oi := ⟨some 28, _, _, _, _, _⟩) (v := ?v16) rfl (by kernel_rfl) (by kernel_rfl) (by kernel_rfl) (fun _ _ _ h => h) (Or.inl ⟨by rfl, ?y16⟩) (by assumption) ?r16
      case y16 => intro w hSw; clear hSw; go_simp; (try with_reducible rfl)
      simp only [Act.put, List.setIfInBounds_toArray, List.set_cons_zero, List.set_cons_succ]
      refine wpAnyH_ready (rs := [19]) (by kernel_rfl) (by simp) ?_
      refine AllReadyH.cons (o := ⟨none, _, _, _, _, _⟩) rfl (fun K hK => ?_) AllReadyH.nil
      have g0 := (Hid.out (by assumption) : KXo W b T cs o s s.n _)
      have g1 := g0.cells.2.2
      have g2 := g0.blk.free (o + 2)
      have M2 := Lib.hid (g0.set y)
      clear g0
      go_simp
      refine hK.out _ _ (kso_of M2) (fun hHeld => ?_)
      clear hK
      try simp only [List.setIfInBounds_toArray, List.set_cons_zero, List.set_cons_succ]
      refine wpAnyH_done (by kernel_rfl) ?_ _
      have g1 := M2.out.cells.2.1
      have g2 := M2.out.blk.free (o + 1)
      have M3 := Lib.hid (M2.out.done now)
      go_wp2_with fail
      go_end0
      exact M3.out
    refine AllReadyH.cons (o := ⟨some 25, _, _, _, _, _⟩) rfl (fun K hK => ?_) AllReadyH.nil
    go_simp
    refine (HX.out _).mono ?_
    rintro e w2 ⟨rfl, rfl⟩
    go_wp2_with fail
    refine hK.out _ _ hHeld (fun hHeld => ?_)
    clear hK
    try simp only [List.setIfInBounds_toArray, List.set_cons_zero, List.set_cons_succ]
    refine wpAnyH_ready (rs := [4]) (by kernel_rfl) (by simp) ?_
    refine AllReadyH.cons (o := ⟨some 14, _, _, _, _, _⟩) rfl (fun K hK => ?_) AllReadyH.nil
    have c2 := (Hid.out (by assumption) : KXo W b T cs o s s.n _).cells.2.2
    go_simp
    refine hK.out _ _ hHeld (fun hHeld => ?_)
    clear hK
    try simp only [List.setIfInBounds_toArray, List.set_cons_zero, List.set_cons_succ]
    refine wpAnyH_ready (rs := [16]) (by kernel_rfl) (by simp) ?_
    refine AllReadyH.cons (o := ⟨some 26, _, _, _, _, _⟩) rfl (fun K hK => ?_) AllReadyH.nil
    go_simp
    refine (HY.out _).mono ?_
    rintro e w3 ⟨rfl, rfl⟩
    go_wp2_with fail
    refine hK.out _ _ hHeld (fun hHeld => ?_)
    clear hK
    try simp only [List.setIfInBounds_toArray, List.set_cons_zero, List.set_cons_succ]
    refine wpAnyH_take (i := 17) (oi := ⟨some 27, _, _, _, _, _⟩) (v := ?v17) rfl (by kernel_rfl) (by kernel_rfl) (by kernel_rfl) (fun _ _ _ h => h) (Or.inl ⟨by rfl, ?y17⟩) (by assumption) ?r17
    case y17 => intro w hSw; clear hSw; go_simp; (try with_reducible rfl)
    simp only [Act.put, List.setIfInBounds_toArray, List.set_cons_zero, List.set_cons_succ]
    refine wpAnyH_take (i := 18) (oi := ⟨some 28, _, _, _, _, _⟩) (v := ?v18) rfl (by kernel_rfl) (by kernel_rfl) (by kernel_rfl) (fun _ _ _ h => h) (Or.inl ⟨by rfl, ?y18⟩) (by assumption) ?r18
    case y18 => intro w hSw; clear hSw; go_simp; (try with_reducible rfl)
    simp only [Act.put, List.setIfInBounds_toArray, List.set_cons_zero, List.set_cons_succ]
    refine wpAnyH_ready (rs := [19]) (by kernel_rfl) (by simp) ?_
    refine AllReadyH.cons (o := ⟨none, _, _, _, _, _⟩) rfl (fun K hK => ?_) AllReadyH.nil
    have g0 := (Hid.out (by assumption) : KXo W b T cs o s s.n _)
    have g1 := g0.cells.2.2
    have g2 := g0.blk.free (o + 2)
    have M2 := Lib.hid (g0.set y)
    clear g0
    go_simp
    refine hK.out _ _ (kso_of M2) (fun hHeld => ?_)
    clear hK
    try simp only [List.setIfInBounds_toArray, List.set_cons_zero, List.set_cons_succ]
    refine wpAnyH_done (by kernel_rfl) ?_ _
    have g1 := M2.out.cells.2.1
    have g2 := M2.out.blk.free (o + 1)
    have M3 := Lib.hid (M2.out.done now)
    go_wp2_with fail
    go_end0
    exact M3.out

theorem rk_Take (b o x : Nat) (T : TypeId) (cs : Array Value) (s : KB) (W : World) (h : Blk W b T cs) (hk : KAt cs o s) (ho : s.ok) (hx : x ≤ 18446744073709551615) :
    Calls Try.prog 11 #[.pointer (some ⟨b, o, none⟩), .int .u64 (x : Int)] W (KQ W b T cs o (.bool (s.takeB x)) (s.takeS x)) := by
  have c2 := h.cell hk.n
  have f2 := h.free (o + 2)
  have HM : Hid (∀ w, Calls Try.prog 19 #[.int .u64 (x : Int), .int .u64 1000000] w fun e w' => e = .returned (.int .u64 ((Pl.mulS x 1000000 : Nat) : Int)) ∧ w = w') := Lib.hid (fun w => ref_Mul x 1000000 w hx (by omega))
  have hs := ho.1
  have HS := Lib.hid (show Blk W b T (putK cs o s) by rw [hk.same]; exact h)
  have HH : Hid (∀ z : Nat, Blk (W.setCell ⟨b, o + 2, none⟩ (.int .u64 (z : Int))) b T (putK cs o ⟨z, s.w, s.r, s.t⟩)) := Lib.hid (fun z => by rw [← hk.set2]; exact h.set (o + 2) _)
  unfold KB.takeB KB.takeS KB.spendB KB.spendS
  clear h hk ho hx
  by_cases c : Pl.mulS x 1000000 ≤ s.n
  · rw [decide_eq_true c, if_pos c]
    have d : decide (s.n < Pl.mulS x 1000000) = false := decide_eq_false (by omega)
    have e : IntKind.u64.wrap ((s.n - Pl.mulS x 1000000 : Nat) : Int) = ((s.n - Pl.mulS x 1000000 : Nat) : Int) := by rw [IntKind.wrap_u64]; omega
    have e' : (s.n : Int) - ((Pl.mulS x 1000000 : Nat) : Int) = ((s.n - Pl.mulS x 1000000 : Nat) : Int) := by omega
    generalize s.n - Pl.mulS x 1000000 = z at *
    generalize Pl.mulS x 1000000 = m at *
    clear c hs
    go_enter Try.func11, Try.ntmps11
    go_wp2_with (go_at_call 19; (refine (HM.out _).mono ?_); rintro e w' ⟨rfl, rfl⟩)
    go_ret
    exact ⟨rfl, HH.out _, gr_set (gr_refl _ _) _ _⟩
  · rw [decide_eq_false c, if_neg c]
    have d : decide (s.n < Pl.mulS x 1000000) = true := decide_eq_true (by omega)
    generalize Pl.mulS x 1000000 = m at *
    clear c hs
    go_enter Try.func11, Try.ntmps11
    go_wp2_with (go_at_call 19; (refine (HM.out _).mono ?_); rintro e w' ⟨rfl, rfl⟩)
    go_ret
    exact ⟨rfl, HS.out, gr_refl _ _⟩

theorem rk_Waste (b o x : Nat) (T : TypeId) (cs : Array Value) (s : KB) (W : World) (h : Blk W b T cs) (hk : KAt cs o s) (ho : s.ok) (hx : x ≤ 18446744073709551615) :
    Calls Try.prog 13 #[.pointer (some ⟨b, o, none⟩), .int .u64 (x : Int)] W (KQ W b T cs o (.int .u64 (s.wasteN x : Int)) (s.wasteS x)) := by
  have c2 := h.cell hk.n
  have c3 := h.cell hk.w
  have f2 := h.free (o + 2)
  have f3 := h.free (o + 3)
  unfold KB.wasteN KB.wasteS
  have hle : min x s.n ≤ s.n := Nat.min_le_right _ _
  have hn := ho.1
  have HY := Lib.hid (fun w => ref_Add s.w (min x s.n) w ho.2.1 (by omega))
  have HH : Hid (∀ y z : Nat, Blk ((W.setCell ⟨b, o + 2, none⟩ (.int .u64 (y : Int))).setCell ⟨b, o + 3, none⟩ (.int .u64 (z : Int))) b T (putK cs o ⟨y, z, s.r, s.t⟩)) := Lib.hid (fun y z => by rw [← hk.set23]; exact (h.set (o + 2) _).set (o + 3) _)
  have hmm : min x s.n = x ∧ x ≤ s.n ∨ min x s.n = s.n ∧ s.n < x := by omega
  generalize min x s.n = m at *
  have e' : (s.n : Int) - (m : Int) = ((s.n - m : Nat) : Int) := by omega
  have e : IntKind.u64.wrap ((s.n - m : Nat) : Int) = ((s.n - m : Nat) : Int) := by rw [IntKind.wrap_u64]; omega
  generalize Pl.addS s.w m = z at *
  generalize s.n - m = y at *
  clear h hk ho hx hle hn
  rcases hmm with ⟨rfl, c⟩ | ⟨rfl, c⟩
  · have hm : min (m : Int) (s.n : Int) = (m : Int) := by omega
    go_enter Try.func13, Try.ntmps13
    go_wp2_with (go_at_call 18; (refine (HY.out _).mono ?_); rintro e w' ⟨rfl, rfl⟩)
    go_ret
    exact ⟨rfl, HH.out _ _, gr_set (gr_set (gr_refl _ _) _ _) _ _⟩
  · have hm : min (x : Int) (s.n : Int) = (s.n : Int) := by omega
    go_enter Try.func13, Try.ntmps13
    go_wp2_with (go_at_call 18; (refine (HY.out _).mono ?_); rintro e w' ⟨rfl, rfl⟩)
    go_ret
    exact ⟨rfl, HH.out _ _, gr_set (gr_set (gr_refl _ _) _ _) _ _⟩

/-- A document's bucket in a block of its own. -/
def KB.rcells (s : KB) : Array Value := #[.int .u64 (s.r : Int), .int .u64 (s.t : Int), .int .u64 (s.n : Int), .int .u64 (s.w : Int)]
theorem KB.rat (s : KB) : KAt s.rcells 0 s := ⟨rfl, rfl, rfl, rfl⟩
theorem KB.rput {s s' : KB} (hr : s'.r = s.r) : putK s.rcells 0 s' = s'.rcells := by unfold KB.rcells putK; rw [hr]; rfl
theorem KB.to_r (s : KB) (x : Nat) : (s.toS x).r = s.r := by unfold KB.toS; split <;> rfl
theorem KB.take_r (s : KB) (x : Nat) : (s.takeS x).r = s.r := by unfold KB.takeS KB.spendS; split <;> rfl
end Go.Proofs.Ytbgmkebjehapgaa
