/- conf.Print over this translation: a setup's text, or the error. -/
import Derived.Test.YtmdfikpngbbdmaaDoorTe
set_option linter.unusedVariables false
namespace Go.Proofs.YtmdfikpngbbdmaaDoor
open Go.RowKit Go.Shelf Cf
attribute [local go_sem] Oper.semAt_some

def rowV (c : Setup) (pre : List (Fin 6)) : List Value := (wordsC c pre).map (fun l => Value.string (ba l))
theorem rowV_snoc (c : Setup) (pre : List (Fin 6)) (x : Fin 6) : rowV c (pre ++ [x]) = rowV c pre ++ [.string (ba (word x))] ++ [.string (ba (Lib.decDigits (c x)))] := by
  simp [rowV, wordsC, pair]

/-- What holds in a round of Print. -/
structure PSt (w W0 : World) (B n0 s sw Bx : Nat) (x : Fin 6) (v : Value) (c : Setup) (w' : World) : Prop where
  bc : Blk w' s 24 (ccells c)
  bw : Boxed w' sw 36 v
  bx : Blk w' Bx 43 (fcells s x)
  bel : Below n0 w w'
  kf : Kf W0 w'
  ko : KeepsFrom B W0 w'
  le : n0 ≤ w'.heap.size
variable {w W0 w1 w2 : World} {B n0 s sw Bx : Nat} {x : Fin 6} {v : Value} {c : Setup}
theorem PSt.keep (h : PSt w W0 B n0 s sw Bx x v c w1) (hb : Below w1.heap.size w1 w2) : PSt w W0 B n0 s sw Bx x v c w2 :=
  ⟨h.bc.keep hb, Blk.keep h.bw hb, h.bx.keep hb, bel_to h.bel hb h.le, h.kf.trans (Kf.below hb), h.ko.trans (kf_of_below hb), Nat.le_trans h.le hb.size⟩
theorem PSt.told (h : PSt w W0 B n0 s sw Bx x v c w1) (hb : NoStr n0 w1 w2) : PSt w W0 B n0 s sw Bx x v c w2 :=
  ⟨hb.blk h.bc (by decide), hb.blk h.bw (by decide), hb.blk h.bx (by decide), h.bel.trans hb.bel, h.kf.trans hb.kf, h.ko.trans hb.ko, Nat.le_trans h.le hb.size⟩
theorem PSt.setW (h : PSt w W0 B n0 s sw Bx x v c w1) (hsw : n0 ≤ sw) (v' : Value) : PSt w W0 B n0 s sw Bx x v' c (w1.setCell ⟨sw, 0, none⟩ v') :=
  ⟨h.bc.set_other _ _ (blk_ne h.bc h.bw (by decide)), h.bw.set _, h.bx.set_other _ _ (blk_ne h.bx h.bw (by decide)), h.bel.setCell (p := ⟨sw, 0, none⟩) hsw _, h.kf.trans (Kf.set _ _ (not_fld h.bw (by decide))), h.ko.trans ((KeepsOthers.setCell _ _ _).from _), by simpa [World.setCell] using h.le⟩

theorem Join_row (n0 : Nat) (c : Setup) (hc : ∀ k, c k ≤ 18446744073709551615) (W : World) (g cap : Nat) (hr : W.ownsRow n0 9 1 (.slice (some ⟨g, 0, none⟩) 12 cap) 12 (rowV c all6)) :
    Calls Tryd.prog 16 #[.slice (some ⟨g, 0, none⟩) 12 cap, .string ⟨#[32]⟩] W fun e w' => e = .returned (.string (ba (textC c))) ∧ Below W.heap.size W w' := by
  have hm : ((wordsC c all6).map ba).map (·.data.toList) = wordsC c all6 := by
    rw [List.map_map]
    exact (List.map_congr_left (fun l _ => ba_list l)).trans (List.map_id _)
  have hl : ((wordsC c all6).map ba).length = 12 := rfl
  have hj : Lib.join (((wordsC c all6).map ba).map (·.data.toList)) [32] = textC c := by rw [hm]; rfl
  have hlt := (hr.lt g rfl).2
  have hcap : 12 ≤ cap := by
    rcases hr.2 with ⟨h, _⟩ | ⟨g', cap', cur, h, _, _, hle, _⟩
    · cases h
    · cases h; exact hle
  have h := Any.strings_Join Tryd.lays156 Tryd.Builder_Extra_156 g 0 cap ((wordsC c all6).map ba) ⟨#[32]⟩ W (fun j u hu => by
    have hc' := hr.cells (g := g) rfl j (.string u) (by
      unfold rowV
      rw [List.getElem?_map] at hu ⊢
      obtain ⟨l, hl', e⟩ := Option.map_eq_some_iff.1 hu
      rw [hl', ← e]; rfl)
    rw [Lib.add_plain] at hc'
    exact hc') hlt (by rw [hl]; omega) (by rw [hl]; exact hcap) (by show (Lib.join (((wordsC c all6).map ba).map (·.data.toList)) [32]).length ≤ _; rw [hj]; have := text_len c hc; omega)
  rw [hl] at h
  refine h.mono ?_
  rintro e w' ⟨rfl, hb⟩
  refine ⟨?_, hb⟩
  show Ending.returned (.string ⟨(Lib.join (((wordsC c all6).map ba).map (·.data.toList)) [32]).toArray⟩) = _
  rw [hj]; rfl

/-- Print's answer. -/
def printV (c : Setup) : Value := if rightC c = true then .tuple #[.string (ba (textC c)), .int .i64 0] else .tuple #[.string (ba []), .int .i64 1]

set_option maxRecDepth 100000 in
set_option maxHeartbeats 1000000 in
theorem conf_Print_no (c : Setup) (hc : ∀ k, c k ≤ 18446744073709551615) (w : World) (hr : rightC c = false) :
    Calls Tryd.prog 6 #[.agg (ccells c)] w fun e w' => e = .returned (.tuple #[.string (ba []), .int .i64 1]) ∧ Below w.heap.size w w' := by
  have HC := Lib.hid (conf_Right c hc (w.alloc (.cells (ccells c) 24)))
  rw [hr] at HC
  have g0 := (Below.refl w.heap.size w).alloc (Nat.le_refl _) (.cells (ccells c) 24)
  clear hc hr
  unfold ccells at *
  go_enter Tryd.func6, Tryd.ntmps6
  go_wp2_with (go_at_call 10; refine HC.out.mono ?_; rintro e w1 ⟨rfl, hb1⟩)
  go_ret2
  exact ⟨rfl, bel_to g0 hb1 (by simp)⟩

/-- The loop's invariant of Print. -/
def PI (w : World) (n0 s sw : Nat) (c : Setup) (pre : List (Fin 6)) (W : World) : Prop :=
  (Blk W s 24 (ccells c) ∧ ∃ v, Boxed W sw 36 v ∧ W.ownsRow n0 9 1 v (2 * pre.length) (rowV c pre) ∧ True) ∧ Below n0 w W ∧ n0 ≤ W.heap.size
theorem PI_own (w : World) (n0 s sw : Nat) (c : Setup) (B : Nat) (hn : n0 ≤ w.heap.size) (hB : n0 ≤ B) : OwnFrom B (PI w n0 s sw c) :=
  OwnFrom.and (OwnFrom.and (Own.from (blk_own _ _ _) _) (Own.from (holdsRow_own n0 sw 36 9 1 (fun pre => 2 * List.length pre) (rowV c) (fun _ _ => True)) _)) (OwnFrom.and (ownFrom_below hn hB) (fun _ _ _ _ hs hg _ => Nat.le_trans hs hg.size))

set_option maxRecDepth 100000 in
set_option maxHeartbeats 2000000 in
theorem conf_Print_yes (c : Setup) (hc : ∀ k, c k ≤ 18446744073709551615) (w : World) (hg : Gl w) (hr : rightC c = true) :
    Calls Tryd.prog 6 #[.agg (ccells c)] w fun e w' => e = .returned (.tuple #[.string (ba (textC c)), .int .i64 0]) ∧ Below w.heap.size w w' := by
  have HG := Lib.hid hg
  have HC := Lib.hid hc
  have HR := Lib.hid (conf_Right c hc (w.alloc (.cells (ccells c) 24)))
  rw [hr] at HR
  have g0 := (Below.refl w.heap.size w).alloc (Nat.le_refl _) (.cells (ccells c) 24)
  have b0 := Lib.hid (Blk.new w 24 (ccells c))
  clear hc hr hg
  refine (callsIn_wide (n := 6)).1 ?_
  refine callsIn_of_wp_marks Tryd.func6 rfl trivial ?_ rfl
  simp only [Tryd.ntmps6, List.size_toArray, List.length_cons, List.length_nil, Nat.reduceAdd, Nat.reduceSub, Array.replicate_succ, Array.replicate_zero, List.push_toArray, List.append_toArray, List.nil_append, List.cons_append]
  simp only [ccells] at HR ⊢
  gi_wp2_with fail
  refine ⟨trivial, ?_⟩
  refine (callsIn_wide.2 HR.out).mono ?_
  rintro e w1 ⟨rfl, hb1⟩
  have G1 := Lib.hid (bel_to g0 hb1 (by simp))
  have B1 := Lib.hid (b0.out.keep hb1)
  clear HR g0 b0 hb1
  generalize hs : w.heap.size = s at *
  have HS := Lib.hid hs
  clear hs
  gi_wp2_with (refine ⟨trivial, ?_⟩; gi_at_call 14; refine (fields_in _ _ _).mono ?_; rintro e w' ⟨rfl, rfl⟩)
  have hw1 := G1.out.size
  have hsz := HS.out
  have bC := (B1.out.alloc (.cells #[.slice none 0 0] 36)).alloc (.cells #[.pointer (some ⟨s, 0, none⟩)] 40)
  have bW := (Boxed.new w1 36 (.slice none 0 0)).alloc (.cells #[.pointer (some ⟨s, 0, none⟩)] 40)
  have bF := Boxed.new (w1.alloc (.cells #[.slice none 0 0] 36)) 40 (.pointer (some ⟨s, 0, none⟩))
  have hB0 := (G1.out.alloc (show s ≤ w1.heap.size by omega) (.cells #[.slice none 0 0] 36)).alloc (by simp; omega) (.cells #[.pointer (some ⟨s, 0, none⟩)] 40)
  simp only [World.size_alloc] at bC bW bF
  generalize hW0 : (w1.alloc (.cells #[.slice none 0 0] 36)).alloc (.cells #[.pointer (some ⟨s, 0, none⟩)] 40) = W0 at *
  have hW0s : W0.heap.size = w1.heap.size + 1 + 1 := by rw [← hW0]; simp
  have HW0 := Lib.hid hW0s
  clear hW0 hW0s
  have HLE : Hid (s ≤ w1.heap.size) := by show s ≤ w1.heap.size; omega
  have H6 : Hid (6 ≤ s) := by have := HG.out.six; show 6 ≤ s; omega
  have HWS : Hid (s ≤ w.heap.size) := by show s ≤ w.heap.size; omega
  clear hw1 hsz
  generalize hsw : w1.heap.size = sw at *
  have HSW := Lib.hid hsw
  clear hsw
  refine wpIn_rangeFunc_ownH rfl (by omega) (gf := 24) (lb := #[.pointer (some ⟨sw + 1, 0, none⟩)]) rfl trivial (enters_of Tryd.func24 (by kernel_rfl) rfl)
    (fields_stops 5 (sw + 1) s (by omega) _ bF) Kf.trans Kf.putObj (Below.refl _ _) (fun _ => rfl)
    (PI w s s sw c) (fun _ _ _ => False)
    (PI_own w s s sw c _ HWS.out (by have := HW0.out; have := HLE.out; omega))
    (fun _ _ _ _ _ hs _ _ => hs)
    ⟨⟨bC, _, bW, World.ownsRow_nil _ _ _ _, trivial⟩, hB0, by have := HW0.out; have := HLE.out; omega⟩
    (fun x a' W => ∃ Bx, Blk W Bx 43 (fcells s x) ∧ a' = { tmps := #[.agg #[.int .u64 (c 0 : Int), .int .u64 (c 1 : Int), .int .u64 (c 2 : Int), .int .u64 (c 3 : Int), .int .u64 (c 4 : Int), .int .u64 (c 5 : Int)], .pointer (some ⟨s, 0, none⟩), .string ⟨#[]⟩, .int .i64 0, .pointer (some ⟨sw, 0, none⟩), .pointer (some ⟨Bx, 0, none⟩), .agg #[.int .u64 (c 0 : Int), .int .u64 (c 1 : Int), .int .u64 (c 2 : Int), .int .u64 (c 3 : Int), .int .u64 (c 4 : Int), .int .u64 (c 5 : Int)], .bool true, .bool false, .func (.func 24) #[] #[.pointer (some ⟨sw + 1, 0, none⟩)], .agg (fcells s x), undef, undef, undef, undef, undef, undef, undef, undef, undef, undef, undef], defers := [] })
    (fun x a' _ X Y row hs hg hr => by obtain ⟨Bx, h2, h3⟩ := hs; exact ⟨Bx, blk_own Bx 43 (fun (_ : Unit) => fcells s x) () X Y row h2 hg (fun r e => (hr r e).2), h3⟩)
    ?assign ?body ?done ?stop
  case assign =>
    rintro l pre x W K hI hK
    have HI := Lib.hid hI
    clear hI
    simp only [fcells] at hK ⊢
    gi_wp2
    exact hK _ _ ((KeepsOthers.alloc _ _).from _) (Kf.alloc _ _) (OwnFrom.alloc (PI_own w s s sw c W0.heap.size HWS.out (by have := HW0.out; have := HLE.out; omega)) _ HI.out) ⟨W.heap.size, Blk.new W _ _, rfl⟩
  case body =>
    rintro l pre x a' W hl ⟨r, hr⟩ ⟨⟨h1, v, h2, h3, _⟩, h4, h5⟩ ⟨Bx, hX, rfl⟩ hlt
    have G := Lib.hid (PSt.mk (B := W0.heap.size) h1 h2 hX h4 (Kf.refl W) (KeepsFrom.refl _ W) h5)
    have R := Lib.hid h3
    have hcx := HC.out x
    clear h1 h2 h3 h4 h5 hX hr hl bC bW bF hB0 HC
    simp only [fcells]
    refine wpIn_block ?_
    have f0 := G.out.bx.cell (i := 0) (v := .string (wordB x)) rfl
    have f1 := G.out.bx.cell (i := 1) (v := .pointer (some ⟨s, x.val, none⟩)) rfl
    have f2 := ccell G.out.bc x
    refine region_held_round (S := fun w' => w'.cell? ⟨Bx, 0, none⟩ = some (.string (wordB x)) ∧ w'.cell? ⟨Bx, 1, none⟩ = some (.pointer (some ⟨s, x.val, none⟩)) ∧ w'.cell? ⟨s, x.val, none⟩ = some (.int .u64 (c x : Int))) (by rintro ⟨_, _, h⟩; exact h) (by kernel_rfl) (by kernel_rfl) ⟨f0, f1, f2⟩ (fun hHeld => ?_)
    simp only [List.size_toArray, List.length_cons, List.length_nil, Nat.reduceAdd, Array.replicate_succ, Array.replicate_zero, List.push_toArray, List.nil_append, List.cons_append]
    refine wpAnyH_take (i := 1) (oi := ⟨some 12, _, _, _, _, _⟩) (v := ?v1) rfl (by kernel_rfl) (by kernel_rfl) (by kernel_rfl) (fun _ _ _ h => h) (Or.inl ⟨by rfl, ?y1⟩) (by assumption) ?r1
    case y1 => intro w hSw; (try dsimp only at hSw); go_simp; (try with_reducible rfl)
    simp only [Act.put, List.setIfInBounds_toArray, List.set_cons_zero, List.set_cons_succ]
    refine wpAnyH_take (i := 2) (oi := ⟨some 13, _, _, _, _, _⟩) (v := ?v2) rfl (by kernel_rfl) (by kernel_rfl) (by kernel_rfl) (fun _ _ _ h => h) (Or.inl ⟨by rfl, ?y2⟩) (by assumption) ?r2
    case y2 => intro w hSw; (try dsimp only at hSw); go_simp; (try with_reducible rfl)
    simp only [Act.put, List.setIfInBounds_toArray, List.set_cons_zero, List.set_cons_succ]
    refine wpAnyH_take (i := 3) (oi := ⟨some 14, _, _, _, _, _⟩) (v := ?v3) rfl (by kernel_rfl) (by kernel_rfl) (by kernel_rfl) (fun _ _ _ h => h) (Or.inl ⟨by rfl, ?y3⟩) (by assumption) ?r3
    case y3 => intro w hSw; (try dsimp only at hSw); go_simp; (try with_reducible rfl)
    simp only [Act.put, List.setIfInBounds_toArray, List.set_cons_zero, List.set_cons_succ]
    refine wpAnyH_take (i := 4) (oi := ⟨some 15, _, _, _, _, _⟩) (v := ?v4) rfl (by kernel_rfl) (by kernel_rfl) (by kernel_rfl) (fun _ _ _ h => h) (Or.inl ⟨by rfl, ?y4⟩) (by assumption) ?r4
    case y4 => intro w hSw; (try dsimp only at hSw); go_simp; (try with_reducible rfl)
    simp only [Act.put, List.setIfInBounds_toArray, List.set_cons_zero, List.set_cons_succ]
    refine wpAnyH_take (i := 5) (oi := ⟨some 16, _, _, _, _, _⟩) (v := ?v5) rfl (by kernel_rfl) (by kernel_rfl) (by kernel_rfl) (fun _ _ _ h => h) (Or.inl ⟨by rfl, ?y5⟩) (by assumption) ?r5
    case y5 => intro w hSw; (try dsimp only at hSw); go_simp; (try with_reducible rfl)
    simp only [Act.put, List.setIfInBounds_toArray, List.set_cons_zero, List.set_cons_succ]
    refine wpAnyH_take (i := 6) (oi := ⟨some 17, _, _, _, _, _⟩) (v := ?v6) rfl (by kernel_rfl) (by kernel_rfl) (by kernel_rfl) (fun _ _ _ h => h) (Or.inl ⟨by rfl, ?y6⟩) (by assumption) ?r6
    case y6 => intro w hSw; (try dsimp only at hSw); go_simp; (try with_reducible rfl)
    simp only [Act.put, List.setIfInBounds_toArray, List.set_cons_zero, List.set_cons_succ]
    have G1 := Lib.hid (G.out.keep (bel_drew W))
    have R1 := Lib.hid (row_keep R.out (bel_drew W))
    clear G R f0 f1 f2
    generalize W.drew = W1 at *
    refine wpAnyH_ready (rs := [0, 7]) (by kernel_rfl) (by simp) ?_
    refine AllReadyH.cons (o := ⟨some 11, _, _, _, _, _⟩) rfl (fun K hK => ?_) ?_
    · have cw := G1.out.bw.cell
      go_simp
      refine hK.out _ _ hHeld (fun hHeld => ?_)
      clear hK
      simp only [List.setIfInBounds_toArray, List.set_cons_zero]
      refine wpAnyH_ready (rs := [7]) (by kernel_rfl) (by simp) ?_
      refine AllReadyH.cons (o := ⟨some 18, _, _, _, _, _⟩) rfl (fun K hK => ?_) AllReadyH.nil
      go_simp
      have gA := (Below.refl W1.heap.size W1).alloc (Nat.le_refl _) (.cells #[.int .u64 (c x : Int)] 22)
      have G2 := Lib.hid (G1.out.keep gA)
      have R2 := Lib.hid (row_keep R1.out gA)
      have B2 := Lib.hid (Blk.new W1 22 #[.int .u64 (c x : Int)])
      clear gA
      clear hHeld
      refine hK.out _ _ ⟨G2.out.bx.cell (i := 0) (v := .string (wordB x)) rfl, G2.out.bx.cell (i := 1) (v := .pointer (some ⟨s, x.val, none⟩)) rfl, ccell G2.out.bc x⟩ (fun hHeld => ?_)
      clear hK cw
      simp only [List.setIfInBounds_toArray, List.set_cons_zero, List.set_cons_succ]
      refine wpAnyH_ready (rs := [8]) (by kernel_rfl) (by simp) ?_
      refine AllReadyH.cons (o := ⟨some 19, _, _, _, _, _⟩) rfl (fun K hK => ?_) AllReadyH.nil
      go_simp
      refine (conf_tell s (2 * pre.length) v (rowV c pre) (wordB x) (c x) W1.heap.size _ hcx (by omega) H6.out (HG.out.low G2.out.bel H6.out) R2.out B2.out G2.out.le).mono ?_
      rintro e W3 ⟨v3, rfl, hr3, hn3⟩
      obtain ⟨g, cap, rfl⟩ := ownsRow_succ hr3
      have G3 := Lib.hid (G2.out.told hn3)
      have R3 := Lib.hid hr3
      clear hr3 hn3 G2 R2 B2 hHeld
      dsimp only
      refine hK.out _ _ ⟨G3.out.bx.cell (i := 0) (v := .string (wordB x)) rfl, G3.out.bx.cell (i := 1) (v := .pointer (some ⟨s, x.val, none⟩)) rfl, ccell G3.out.bc x⟩ (fun hHeld => ?_)
      clear hK
      simp only [List.setIfInBounds_toArray, List.set_cons_zero, List.set_cons_succ]
      have cw := G3.out.bw.cell
      have fw := G3.out.bw.frozen
      refine wpAnyH_ready (rs := [9]) (by kernel_rfl) (by simp) ?_
      refine AllReadyH.cons (o := ⟨none, _, _, _, _, _⟩) rfl (fun K hK => ?_) AllReadyH.nil
      go_simp
      have G4 := Lib.hid (G3.out.setW HLE.out (.slice (some ⟨g, 0, none⟩) (2 * pre.length + 1 + 1) cap))
      refine hK.out _ _ ⟨G4.out.bx.cell (i := 0) (v := .string (wordB x)) rfl, G4.out.bx.cell (i := 1) (v := .pointer (some ⟨s, x.val, none⟩)) rfl, ccell G4.out.bc x⟩ (fun hHeld => ?_)
      refine wpAnyH_done (by kernel_rfl) ?_ _
      refine ⟨G4.out.ko, G4.out.kf, ⟨G4.out.bc, _, G4.out.bw, ?_, trivial⟩, G4.out.bel, G4.out.le⟩
      have e1 : 2 * (pre ++ [x]).length = 2 * pre.length + 1 + 1 := by simp; omega
      rw [e1, rowV_snoc]
      exact R3.out.kept (grownBy_setCell' W3 sw _) (.inr (G3.out.bw.not_row (by decide) R3.out).symm)
    · refine AllReadyH.cons (o := ⟨some 18, _, _, _, _, _⟩) rfl (fun K hK => ?_) AllReadyH.nil
      go_simp
      have gA := (Below.refl W1.heap.size W1).alloc (Nat.le_refl _) (.cells #[.int .u64 (c x : Int)] 22)
      have G2 := Lib.hid (G1.out.keep gA)
      have R2 := Lib.hid (row_keep R1.out gA)
      have B2 := Lib.hid (Blk.new W1 22 #[.int .u64 (c x : Int)])
      clear gA
      clear hHeld
      refine hK.out _ _ ⟨G2.out.bx.cell (i := 0) (v := .string (wordB x)) rfl, G2.out.bx.cell (i := 1) (v := .pointer (some ⟨s, x.val, none⟩)) rfl, ccell G2.out.bc x⟩ (fun hHeld => ?_)
      clear hK
      simp only [List.setIfInBounds_toArray, List.set_cons_zero, List.set_cons_succ]
      have cw := G2.out.bw.cell
      refine wpAnyH_ready (rs := [0]) (by kernel_rfl) (by simp) ?_
      refine AllReadyH.cons (o := ⟨some 11, _, _, _, _, _⟩) rfl (fun K hK => ?_) AllReadyH.nil
      go_simp
      refine hK.out _ _ hHeld (fun hHeld => ?_)
      clear hK cw
      simp only [List.setIfInBounds_toArray, List.set_cons_zero]
      refine wpAnyH_ready (rs := [8]) (by kernel_rfl) (by simp) ?_
      refine AllReadyH.cons (o := ⟨some 19, _, _, _, _, _⟩) rfl (fun K hK => ?_) AllReadyH.nil
      go_simp
      refine (conf_tell s (2 * pre.length) v (rowV c pre) (wordB x) (c x) W1.heap.size _ hcx (by omega) H6.out (HG.out.low G2.out.bel H6.out) R2.out B2.out G2.out.le).mono ?_
      rintro e W3 ⟨v3, rfl, hr3, hn3⟩
      obtain ⟨g, cap, rfl⟩ := ownsRow_succ hr3
      have G3 := Lib.hid (G2.out.told hn3)
      have R3 := Lib.hid hr3
      clear hr3 hn3 G2 R2 B2 hHeld
      dsimp only
      refine hK.out _ _ ⟨G3.out.bx.cell (i := 0) (v := .string (wordB x)) rfl, G3.out.bx.cell (i := 1) (v := .pointer (some ⟨s, x.val, none⟩)) rfl, ccell G3.out.bc x⟩ (fun hHeld => ?_)
      clear hK
      simp only [List.setIfInBounds_toArray, List.set_cons_zero, List.set_cons_succ]
      have cw := G3.out.bw.cell
      have fw := G3.out.bw.frozen
      refine wpAnyH_ready (rs := [9]) (by kernel_rfl) (by simp) ?_
      refine AllReadyH.cons (o := ⟨none, _, _, _, _, _⟩) rfl (fun K hK => ?_) AllReadyH.nil
      go_simp
      have G4 := Lib.hid (G3.out.setW HLE.out (.slice (some ⟨g, 0, none⟩) (2 * pre.length + 1 + 1) cap))
      refine hK.out _ _ ⟨G4.out.bx.cell (i := 0) (v := .string (wordB x)) rfl, G4.out.bx.cell (i := 1) (v := .pointer (some ⟨s, x.val, none⟩)) rfl, ccell G4.out.bc x⟩ (fun hHeld => ?_)
      refine wpAnyH_done (by kernel_rfl) ?_ _
      refine ⟨G4.out.ko, G4.out.kf, ⟨G4.out.bc, _, G4.out.bw, ?_, trivial⟩, G4.out.bel, G4.out.le⟩
      have e1 : 2 * (pre ++ [x]).length = 2 * pre.length + 1 + 1 := by simp; omega
      rw [e1, rowV_snoc]
      exact R3.out.kept (grownBy_setCell' W3 sw _) (.inr (G3.out.bw.not_row (by decide) R3.out).symm)
  case done =>
    rintro D xs W hD rfl ⟨⟨h1, v, h2, h3, _⟩, h4, h5⟩ hK
    obtain ⟨g, cap, rfl⟩ := ownsRow_succ (k := 11) h3
    have HJ := Lib.hid (Join_row s c HC.out W g cap h3)
    have cw := h2.cell
    have H4 := Lib.hid h4
    have H5 := Lib.hid h5
    have HK := Lib.hid hK
    have HD := Lib.hid hD
    clear h1 h2 h3 h4 h5 hK hD bC bW bF hB0 HC HG
    gi_wp2_with fail
    refine ⟨trivial, ?_⟩
    refine (callsIn_wide.2 HJ.out).mono ?_
    rintro e W2 ⟨rfl, hb2⟩
    have K2 := (kf_of_below (B := 0) hb2).same D _ (Nat.zero_le _) HK.out rfl
    have L2 := bel_to H4.out hb2 H5.out
    have hsz2 := hb2.size
    clear hb2 HJ cw
    gi_wp2
    refine ⟨by simp, .inl ⟨_, _, rfl, run_takeDeferred K2, ?_⟩⟩
    refine ⟨_, results_tmp2 rfl _ _ _, rfl, ?_⟩
    rw [HS.out]
    exact L2.trans (belowK_b (w := w) HWS.out W2 D _ _ (by have := HD.out; have := HW0.out; have := HLE.out; have := HS.out; omega) K2 rfl rfl)
  case stop =>
    rintro D c pre W _ _ h _
    exact h.elim
end Go.Proofs.YtmdfikpngbbdmaaDoor
