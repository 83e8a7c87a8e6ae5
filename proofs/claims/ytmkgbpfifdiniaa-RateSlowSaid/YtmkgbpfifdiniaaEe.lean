/- sample over this translation. -/
import Derived.Test.YtmkgbpfifdiniaaEc
import Derived.Deep.RegionWith
import Derived.Deep.DeepCutAuto
import Derived.Deep.CutRange
set_option linter.unusedVariables false
namespace Go.Proofs.Ytmkgbpfifdiniaa
open Go.RowKit Pl

theorem cell_drew {w : World} {p : Addr} {v : Value} (h : w.cell? p = some v) : w.drew.cell? p = some v := h
theorem far5 {w : World} {b i L k0 k1 k2 k3 k4 : Nat} {u0 u1 u2 u3 u4 v : Value} (h : w.cell? ⟨b, i, none⟩ = some v) (n : b ≠ L) : (((((w.setCell ⟨L, k0, none⟩ u0).setCell ⟨L, k1, none⟩ u1).setCell ⟨L, k2, none⟩ u2).setCell ⟨L, k3, none⟩ u3).setCell ⟨L, k4, none⟩ u4).cell? ⟨b, i, none⟩ = some v := far (far (far (far (far h n) n) n) n) n
theorem sub1c (a x b cap : Nat) (w : World) (ha : a ≤ 18446744073709551615) (hx : x ≤ 18446744073709551615) (h : w.cell? ⟨b, 0, none⟩ = some (.int .u64 (x : Int))) :
    Calls Try.prog 18 #[.int .u64 (a : Int), .slice (some ⟨b, 0, none⟩) 1 cap] w fun e w' => e = .returned (.int .u64 ((subS a x : Nat) : Int)) ∧ w = w' := by
  have e : subS a x = lessS a [x] := by simp [lessS, subS]
  rw [e]
  have := fix_Sub (a : Int) b 0 cap [x] w (by omega) (by omega) (by simp) (by simp; omega) (fun i hi => by
    match i, hi with
    | 0, _ => exact h)
  simpa using this

/-- The same, at the worlds that a region comes to: the number's block is the newest one, or another one was made behind it, or ahead of it. -/
structure SubAt (a x r : Nat) : Prop where
  any : ∀ (b : Nat) (W : World), W.cell? ⟨b, 0, none⟩ = some (.int .u64 (x : Int)) → Calls Try.prog 18 #[.int .u64 (a : Int), .slice (some ⟨b, 0, none⟩) 1 1] W fun e w' => e = .returned (.int .u64 (r : Int)) ∧ W = w'
  plain : ∀ W : World, Calls Try.prog 18 #[.int .u64 (a : Int), .slice (some ⟨W.heap.size, 0, none⟩) 1 1] (W.alloc (.cells #[.int .u64 (x : Int)] 27)) fun e w' => e = .returned (.int .u64 (r : Int)) ∧ W.alloc (.cells #[.int .u64 (x : Int)] 27) = w'
  one : ∀ W : World, Calls Try.prog 18 #[.int .u64 (a : Int), .slice (some ⟨W.heap.size, 0, none⟩) 1 1] (W.alloc (.cells #[.int .u64 (x : Int)] 27)).drew fun e w' => e = .returned (.int .u64 (r : Int)) ∧ (W.alloc (.cells #[.int .u64 (x : Int)] 27)).drew = w'
  ahead : ∀ (W : World) (o : Obj), Calls Try.prog 18 #[.int .u64 (a : Int), .slice (some ⟨W.heap.size, 0, none⟩) 1 1] ((W.alloc (.cells #[.int .u64 (x : Int)] 27)).alloc o).drew fun e w' => e = .returned (.int .u64 (r : Int)) ∧ ((W.alloc (.cells #[.int .u64 (x : Int)] 27)).alloc o).drew = w'
  behind : ∀ (W : World) (o : Obj), Calls Try.prog 18 #[.int .u64 (a : Int), .slice (some ⟨W.heap.size + 1, 0, none⟩) 1 1] ((W.alloc o).alloc (.cells #[.int .u64 (x : Int)] 27)).drew fun e w' => e = .returned (.int .u64 (r : Int)) ∧ ((W.alloc o).alloc (.cells #[.int .u64 (x : Int)] 27)).drew = w'
theorem sub_at (a x : Nat) (ha : a ≤ 18446744073709551615) (hx : x ≤ 18446744073709551615) : SubAt a x (subS a x) :=
  ⟨fun b W h => sub1c a x _ 1 _ ha hx h, fun W => sub1c a x _ 1 _ ha hx (new_cell rfl rfl), fun W => sub1c a x _ 1 _ ha hx (cell_drew (new_cell rfl rfl)), fun W o => sub1c a x _ 1 _ ha hx (cell_drew (cell_al (new_cell rfl rfl) _)), fun W o => sub1c a x _ 1 _ ha hx (cell_drew (new_cell (by simp) rfl))⟩

set_option maxHeartbeats 1000000 in
theorem ra_sample (now n : Nat) (s : St) (w : World) (hnow : now ≤ 18446744073709551615) (hn : n ≤ 18446744073709551615) (hs : s.ok) :
    Calls Try.prog 14 #[.int .u64 (now : Int), .int .u64 (n : Int), .agg s.cells] w fun e w' => e = .returned (.agg (smpOf now n s).cells) ∧ Below w.heap.size w w' := by
  have S1 : ∀ b w, w.cell? ⟨b, 0, none⟩ = some (.int .u64 (s.deliv : Int)) → Calls Try.prog 18 #[.int .u64 (n : Int), .slice (some ⟨b, 0, none⟩) 1 1] w fun e w' => e = .returned (.int .u64 ((subS n s.deliv : Nat) : Int)) ∧ w = w' := fun b w h => sub1c n s.deliv b 1 w hn hs.deliv h
  have S2 := sub_at s.sent s.first hs.sent hs.first
  have S3 := sub_at now s.at_ hnow hs.at_
  have S4 := sub_at now s.sent hnow hs.sent
  have S5 : ∀ w, Calls Try.prog 19 #[.int .u64 ((subS n s.deliv : Nat) : Int), .int .u64 ((ivS now s : Nat) : Int)] w fun e w' => e = .returned (.int .u64 ((perS (subS n s.deliv) (ivS now s) : Nat) : Int)) ∧ Drawn w w' := fun w => ra_perSecond _ _ w (by have := subS_le n s.deliv; omega) (ivS_le hnow hs)
  have HIV : Hid (max ((subS s.sent s.first : Nat) : Int) ((subS now s.at_ : Nat) : Int) = ((ivS now s : Nat) : Int)) := Lib.hid (by unfold ivS; omega)
  have HT : Hid ((smpOf now n s).cells = #[.int .u64 ((subS n s.deliv : Nat) : Int), .int .u64 ((ivS now s : Nat) : Int), .int .u64 ((perS (subS n s.deliv) (ivS now s) : Nat) : Int), .int .u64 ((subS now s.sent : Nat) : Int), .bool s.lim]) := Lib.hid rfl
  generalize perS (subS n s.deliv) (ivS now s) = d5 at *
  generalize subS n s.deliv = d1 at *
  generalize subS s.sent s.first = d2 at *
  generalize subS now s.at_ = d3 at *
  generalize subS now s.sent = d4 at *
  generalize ivS now s = iv at *
  have H1 := Lib.hid S1
  have H2 := Lib.hid S2
  have H3 := Lib.hid S3
  have H4 := Lib.hid S4
  have H5 := Lib.hid S5
  clear S1 S2 S3 S4 S5 hs
  have A0 := Lib.hid (Blk.new w 32 s.cells)
  have A1 := Lib.hid (Blk.new1 w (.cells s.cells 32) 36 #[.int .u64 0, .int .u64 0, .int .u64 0, .int .u64 0, .bool false])
  have AW := Lib.hid (((Below.refl w.heap.size w).alloc (Nat.le_refl _) (.cells s.cells 32)).alloc (by simp) (.cells #[.int .u64 0, .int .u64 0, .int .u64 0, .int .u64 0, .bool false] 36))
  have A0' := Lib.hid (A0.out.alloc (.cells #[.int .u64 0, .int .u64 0, .int .u64 0, .int .u64 0, .bool false] 36))
  unfold St.cells at A0 A1 AW A0' ⊢
  have a2 := A0'.out.cell (i := 2) (v := .int .u64 (s.deliv : Int)) rfl
  go_enter Try.func14, Try.ntmps14
  go_wp2_with fail
  refine (H1.out _ _ (new_cell (by simp) rfl)).mono ?_
  rintro e w1 ⟨rfl, hw1⟩
  have B0 := Lib.hid (A0'.out.alloc (.cells #[.int .u64 (s.deliv : Int)] 27))
  have B1 := Lib.hid (A1.out.alloc (.cells #[.int .u64 (s.deliv : Int)] 27))
  have BW := Lib.hid (AW.out.alloc AW.out.size (.cells #[.int .u64 (s.deliv : Int)] 27))
  rw [hw1] at B0 B1 BW
  clear hw1 A0 A1 AW A0' a2 H1
  have b0 := B0.out.cell (i := 0) (v := .int .u64 (s.sent : Int)) rfl
  have b1 := B0.out.cell (i := 1) (v := .int .u64 (s.first : Int)) rfl
  have b3 := B0.out.cell (i := 3) (v := .int .u64 (s.at_ : Int)) rfl
  have hlt := B0.out.lt
  go_upto_region 2 with fail
  go_cut [8] from 14 to 25 (fun v wx => v = .int .u64 (iv : Int) ∧ Below w1.heap.size w1 wx)
  case first =>
    have c0 := B0.out.drew.cell (i := 0) (v := .int .u64 (s.sent : Int)) rfl
    have c1 := B0.out.drew.cell (i := 1) (v := .int .u64 (s.first : Int)) rfl
    have c3 := B0.out.drew.cell (i := 3) (v := .int .u64 (s.at_ : Int)) rfl
    go_region_held3 (fun w' => w'.cell? ⟨w.heap.size, 0, none⟩ = some (.int .u64 (s.sent : Int)) ∧ w'.cell? ⟨w.heap.size, 1, none⟩ = some (.int .u64 (s.first : Int)) ∧ w'.cell? ⟨w.heap.size, 3, none⟩ = some (.int .u64 (s.at_ : Int)))
      (first | exact ⟨c0, c1, c3⟩ | exact ⟨cell_drew (cell_al b0 _), cell_drew (cell_al b1 _), cell_drew (cell_al b3 _)⟩ | exact ⟨cell_drew (cell_al (cell_al b0 _) _), cell_drew (cell_al (cell_al b1 _) _), cell_drew (cell_al (cell_al b3 _) _)⟩)
      (first | (go_at_call 18; with_reducible refine (H2.out.one _).mono ?_; rintro e w' ⟨rfl, rfl⟩) | (go_at_call 18; with_reducible refine (H2.out.ahead _ _).mono ?_; rintro e w' ⟨rfl, rfl⟩) | (go_at_call 18; with_reducible refine (H2.out.behind _ _).mono ?_; rintro e w' ⟨rfl, rfl⟩) | (go_at_call 18; with_reducible refine (H3.out.one _).mono ?_; rintro e w' ⟨rfl, rfl⟩) | (go_at_call 18; with_reducible refine (H3.out.ahead _ _).mono ?_; rintro e w' ⟨rfl, rfl⟩) | (go_at_call 18; with_reducible refine (H3.out.behind _ _).mono ?_; rintro e w' ⟨rfl, rfl⟩))
    all_goals
      go_wp2_with fail
      go_meet
      exact ⟨by rw [HIV.out], ((((Below.refl w1.heap.size w1).alloc (Nat.le_refl _) _).alloc (by simp) _).trans ((Drawn.drew _).below _))⟩
  case rest =>
    obtain ⟨rfl, hbel⟩ := hcut
    have C0 := Lib.hid (B0.out.keep hbel)
    have C1 := Lib.hid (B1.out.keep hbel)
    have CW := Lib.hid (bel_to BW.out hbel BW.out.size)
    clear hbel B0 B1 BW b0 b1 b3 hlt
    have b0 := C0.out.cell (i := 0) (v := .int .u64 (s.sent : Int)) rfl
    have b4 := C0.out.cell (i := 4) (v := .bool s.lim) rfl
    have c0 := cell_drew b0
    have c4 := cell_drew b4
    have hlt := C0.out.lt
    go_wp2_with fail
    have HNE : Hid (w.heap.size ≠ w.heap.size + 1) := Lib.hid (by omega)
    go_region_held3 (fun w' => w'.cell? ⟨w.heap.size, 0, none⟩ = some (.int .u64 (s.sent : Int)) ∧ w'.cell? ⟨w.heap.size, 4, none⟩ = some (.bool s.lim))
      (first | with_reducible exact ⟨c0, c4⟩ | with_reducible exact ⟨g0, g4⟩ | with_reducible exact ⟨far5 g0 HNE.out, far5 g4 HNE.out⟩ | with_reducible exact ⟨e0, e4⟩ | with_reducible exact ⟨cell_al e0 _, cell_al e4 _⟩ | with_reducible exact ⟨cell_drew (cell_al b0 _), cell_drew (cell_al b4 _)⟩)
      (first | (go_at_call 19; refine (H5.out _).mono ?_; rintro e w2 ⟨rfl, k⟩; have HK := Lib.hid k; clear k; have e0 := (HK.out.cell _).trans (by first | exact c0 | exact cell_drew (cell_al b0 _)); have e4 := (HK.out.cell _).trans (by first | exact c4 | exact cell_drew (cell_al b4 _)); (try (have cc : w2.cell? ⟨wc.heap.size, 0, none⟩ = some (.int .u64 (s.sent : Int)) := (HK.out.cell _).trans (cell_drew (new_cell rfl rfl))))) | (go_at_call 18; with_reducible refine (H4.out.plain _).mono ?_; rintro e w3 ⟨rfl, hw3⟩; have HW3 : Hid (Below wc.heap.size wc w3) := Lib.hid (by rw [← hw3]; have q := ((Drawn.drew wc).more HK.out).below wc.heap.size; exact q.alloc q.size _); clear hw3; have D0 := Lib.hid (C0.out.keep HW3.out); have D1 := Lib.hid (C1.out.keep HW3.out); have g0 := D0.out.cell (i := 0) (v := .int .u64 (s.sent : Int)) rfl; have g4 := D0.out.cell (i := 4) (v := .bool s.lim) rfl; have t0 := D1.out.cell (i := 0) (v := .int .u64 0) rfl; have y0 := D1.out.free 0; have t1 := D1.out.cell (i := 1) (v := .int .u64 0) rfl; have y1 := D1.out.free 1; have t2 := D1.out.cell (i := 2) (v := .int .u64 0) rfl; have y2 := D1.out.free 2; have t3 := D1.out.cell (i := 3) (v := .int .u64 0) rfl; have y3 := D1.out.free 3; have t4 := D1.out.cell (i := 4) (v := .bool false) rfl; have y4 := D1.out.free 4) | (go_at_call 18; with_reducible refine (H4.out.any _ _ cc).mono ?_; rintro e w3 ⟨rfl, hw3⟩; have HW3 : Hid (Below wc.heap.size wc w3) := Lib.hid (by rw [← hw3]; exact ((Below.refl wc.heap.size wc).alloc (Nat.le_refl _) _).trans (((Drawn.drew _).more HK.out).below _)); clear hw3; have D0 := Lib.hid (C0.out.keep HW3.out); have D1 := Lib.hid (C1.out.keep HW3.out); have g0 := D0.out.cell (i := 0) (v := .int .u64 (s.sent : Int)) rfl; have g4 := D0.out.cell (i := 4) (v := .bool s.lim) rfl; have t0 := D1.out.cell (i := 0) (v := .int .u64 0) rfl; have y0 := D1.out.free 0; have t1 := D1.out.cell (i := 1) (v := .int .u64 0) rfl; have y1 := D1.out.free 1; have t2 := D1.out.cell (i := 2) (v := .int .u64 0) rfl; have y2 := D1.out.free 2; have t3 := D1.out.cell (i := 3) (v := .int .u64 0) rfl; have y3 := D1.out.free 3; have t4 := D1.out.cell (i := 4) (v := .bool false) rfl; have y4 := D1.out.free 4))
    all_goals
      have F1 := Lib.hid (Blk.whole [.int .u64 (d1 : Int), .int .u64 (iv : Int), .int .u64 (d5 : Int), .int .u64 (d4 : Int), .bool s.lim] D1.out rfl)
      have FW := Lib.hid (Below.sets (show w.heap.size ≤ w.heap.size + 1 by omega) [.int .u64 (d1 : Int), .int .u64 (iv : Int), .int .u64 (d5 : Int), .int .u64 (d4 : Int), .bool s.lim] 0 _ (bel_to CW.out HW3.out CW.out.size))
      go_wp2_with fail
      exact bodyPost_ret (results_cell rfl _ _ (w.heap.size + 1) 36 _ _ rfl F1.out Try.underlying36 rfl (by kernel_rfl)) rfl ⟨by rw [HT.out], FW.out⟩
end Go.Proofs.Ytmkgbpfifdiniaa
