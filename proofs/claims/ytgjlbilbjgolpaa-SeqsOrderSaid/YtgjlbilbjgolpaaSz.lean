/- Put of a set of one block at most, over this translation. -/
import Derived.Test.YtgjlbilbjgolpaaSy
set_option linter.unusedVariables false
namespace Go.Proofs.Ytgjlbilbjgolpaa
open Go.RowKit

theorem rr_one {w : World} {l : List Rn} {g n cap : Nat} : (Value.slice (some (⟨g, 0, none⟩ : Addr)) n cap).oneCell' = true := rfl

theorem own_ne {w : World} {b : Nat} {v : Value} {L : List Rn} {X : List Nat} (hb : Blk w b 40 #[v]) (hr : Rows w v L X) : some b ≠ v.ownBlock := by
  intro e
  rcases hr with ⟨rfl, p, cap, rfl, ho⟩ | ⟨hp, g, cap, rg, rc, rfl, ho, hr, hx⟩
  · rcases ho.2 with ⟨e1, _⟩ | ⟨g', cap', cur, e1, _, hg', _⟩
    · rw [e1] at e; simp [Value.ownBlock] at e
    · rw [e1] at e; simp [Value.ownBlock] at e; subst e
      exact Blk.ty (T := 22) hg' hb (by decide) rfl
  · rcases ho.2 with ⟨e1, _⟩ | ⟨g', cap', cur, e1, _, hg', _⟩
    · cases e1
    · rw [e1] at e; simp [Value.ownBlock] at e; subst e
      exact Blk.ty (T := 22) hg' hb (by decide) rfl

set_option maxHeartbeats 4000000 in
theorem put_ok (b : Nat) (X : List Nat) (L l : List Rn) (p : Option Addr) (c : Nat) (w : World) (h : SetAt w b X L) (hL : Canon L) (hl : Its w p l) (hp : 0 < l.length) (hm : L.length + l.length ≤ 64) (ho : l.all okB = true) (hu : ∀ r ∈ l, r.u64) :
    Calls Try.prog 7 #[.pointer (some ⟨b, 0, none⟩), .slice p l.length c] w (PutPost w b X L l) := by
  obtain ⟨ad, rfl, _⟩ := hl.cells hp
  obtain ⟨g, off, rfl, hg, _⟩ := its_two hl hp
  have hok : ∀ r ∈ l, r.ok := fun r hr => (okB_iff (hu r hr)).1 (List.all_eq_true.1 ho r hr)
  have hc := contains_any l g off c w hl hp (by omega)
  rw [ho] at hc
  have hc' : Calls Try.prog 13 #[.slice (some ⟨g, off, none⟩) l.length c, .func (.func 14) #[] #[]] w fun e w' => e = .returned (.bool false) ∧ Below w.heap.size w w' := hc
  have HC := Lib.hid hc'
  have hnr := fun W (k : Below w.heap.size w W) => near_any b X L l (some ⟨g, off, none⟩) c W (h.keep k) (by omega) (hl.keep k) hp (by omega) hu
  have HNr := Lib.hid hnr
  have hd0 : ((l.length : Int) == 0) = false := beq_eq_false_iff_ne.2 (by omega)
  obtain ⟨v, hb, hx, hv, hr⟩ := h
  have HB := Lib.hid hb
  have HX := Lib.hid hx
  have HV := Lib.hid hv
  have HR := Lib.hid hr
  have hcon := fun W (k : Below w.heap.size w W) => rows_con (hr.keep (fun x T cs _ hb => k.block x hb.lt) hv) (by omega : L.length ≤ 1000)
  have hrep := fun W (k : Below w.heap.size w W) => rows_rep (hr.keep (fun x T cs _ hb => k.block x hb.lt) hv)
  have HCon := Lib.hid hcon
  have HRep := Lib.hid hrep
  have HI := Lib.hid hl
  have HOk := Lib.hid hok
  have HCa := Lib.hid hL
  have HNe := Lib.hid (own_ne hb hr)
  have hcnt : ∃ N, cntN L = N := ⟨_, rfl⟩
  obtain ⟨N, hN⟩ := hcnt
  simp only [hN] at HNr HRep
  have HN := Lib.hid hN
  have hform : (N = 0 ∧ v = .slice none 0 0) ∨ (N = 0 ∧ ∃ g0 cap, v = .slice (some ⟨g0, 0, none⟩) 0 cap) ∨ (N = 1 ∧ ∃ g0 cap, v = .slice (some ⟨g0, 0, none⟩) 1 cap ∧ 1 ≤ cap ∧ cap ≤ 9223372036854775807) := by
    rcases hr with ⟨rfl, p, cap, rfl, ho⟩ | ⟨hp, g, cap, rg, rc, rfl, ho, hr, hx⟩
    · have hN0 : N = 0 := by rw [← hN]; rfl
      rcases ho.2 with ⟨e, _⟩ | ⟨g', cap', cur, e, _⟩
      · exact .inl ⟨hN0, e⟩
      · exact .inr (.inl ⟨hN0, g', cap', e⟩)
    · have hN1 : N = 1 := by rw [← hN]; unfold cntN; rw [if_neg (by rintro rfl; simp at hp)]
      rcases ho.2 with ⟨e, _⟩ | ⟨g', cap', cur, e, _, hg', k1, k2, _⟩
      · cases e
      · injection e with e e2 e3; subst e3
        exact .inr (.inr ⟨hN1, g, cap, rfl, k1, k2⟩)
  clear hb hx hv hr hcon hrep hN hc hc' hnr hl hok hL hu ho
  rcases hform with ⟨rfl, rfl⟩ | ⟨rfl, g0, cap0, rfl⟩ | ⟨rfl, g0, cap0, rfl, kc1, kc2⟩
  · have HRp : Hid (∀ W, Below w.heap.size w W → ∀ b' rv, W.cell? ⟨b', 0, none⟩ = some rv → rv.oneCell' = true → Calls Try.prog 19 #[.slice none 0 0, .int .i64 0, .int .i64 0, .slice (some ⟨b', 0, none⟩) 1 1] W (OneRow W (.slice none 0 0) rv)) := Lib.hid (fun W k b' rv c o => HRep.out W k b' rv c o)
    clear HRep
    go_enter Try.func7, Try.ntmps7
    go_wp2_with fail
    refine (HC.out).mono ?_
    rintro e w1 ⟨rfl, k1⟩
    have B1 := Lib.hid k1
    clear k1
    have C2 := Lib.hid (HNr.out w1 B1.out)
    go_wp2_with fail
    refine (C2.out).mono ?_
    rintro e w2 ⟨rfl, k2⟩
    have B2 := Lib.hid (B1.out.trans (k2.mono B1.out.size))
    clear k2 C2
    have h0 := (HB.out.below B2.out HB.out.lt).cell (i := 0) (v := .slice none 0 0) rfl
    have C3 := Lib.hid (HCon.out w2 B2.out)
    go_wp2_with fail
    refine (C3.out).mono ?_
    rintro e w3 ⟨u3, rfl, k1, k2, k3⟩
    have R3 := Lib.hid k1
    have B3 := Lib.hid (B2.out.trans (k2.mono B2.out.size))
    have O3 := Lib.hid (fun g e => Nat.le_trans B2.out.size (k3 g e))
    clear k1 k2 k3 C3 h0
    have I3 := Lib.hid (HI.out.keep B3.out)
    go_wp2_with (at_builtin; (refine wpList_append_rr rfl _ _ rfl u3 L rfl R3.out (some ⟨g, off, none⟩) l.length c l rfl rfl hp I3.out (by omega) ?_); intro g4 cap4 w4 hR hgr hat; have R4 := Lib.hid hR; have G4 := Lib.hid hgr; have A4 := Lib.hid hat; clear hR hgr hat)
    have B4 := Lib.hid (B3.out.grown G4.out B3.out.size (fun k e => O3.out k e))
    have O4 : Hid (w.heap.size ≤ g4) := Lib.hid (by
      rcases A4.out with k | k
      · exact O3.out _ k.symm
      · rw [k]; exact B3.out.size)
    have hs := sort_any g4 cap4 (L ++ l) w4 (by rw [List.length_append]; exact R4.out) (by rw [List.length_append]; omega)
    rw [List.length_append] at hs
    have HS := Lib.hid hs
    clear hs
    refine (HS.out).mono ?_
    rintro e w5 ⟨rfl, D, hperm, hrise, hrr, hfr⟩
    have R5 := Lib.hid hrr
    have B5 := Lib.hid (B4.out.trans ⟨hfr.os, hfr.tape, hfr.output, hfr.size, fun k hk => hfr.block k (Nat.lt_of_lt_of_le hk B4.out.size) (by have := O4.out; simp; omega)⟩)
    have HPm := Lib.hid hperm
    have HRi := Lib.hid hrise
    have hDl : D.length = L.length + l.length := by have := hperm.length_eq; simpa using this
    have HPu := Lib.hid (puts_of hperm hrise HCa.out HOk.out)
    have HPos : Hid (0 < (tog D).length) := Lib.hid (tog_pos (by omega))
    have htl := tog_len D
    have hDok : ∀ r ∈ D, r.ok := fun r hr => by
      rcases List.mem_append.1 (hperm.mem_iff.1 hr) with c | c
      · exact HCa.out.ok r c
      · exact HOk.out r c
    have B6 : Hid (Below w.heap.size w w5.drew) := Lib.hid (B5.out.trans ((Drawn.drew w5).below _))
    have hcap : L.length + l.length ≤ cap4 ∧ cap4 ≤ 9223372036854775807 := by
      obtain ⟨_, cur, _, k1, k2, _⟩ := hrr.inv
      exact ⟨k1, k2⟩
    have ht := together_any D ⟨g4, 0, none⟩ cap4 w5.drew (R5.out.drew.its) (by omega) hcap.2 (by omega) hDok
    rw [hDl] at ht
    have HT := Lib.hid ht
    clear ht hcap hDok hperm hrise hrr hfr HS HPm HRi R3 G4 A4 B3 B4 O3 I3
    have hD64 : (tog D).length ≤ 64 := by omega
    have h0 := (HB.out.below B6.out HB.out.lt).cell (i := 0) (v := .slice none 0 0) rfl
    clear htl
    generalize hq : (tog D).length = q at *
    have HQ := Lib.hid hq
    clear hq hDl
    go_wp2_with fail
    go_region_with (first
      | (go_at_call 21; ((with_reducible refine (HT.out).mono ?_); rintro e w6 ⟨u6, rfl, k1, k2, k3⟩); obtain ⟨g6, c6, e6, _⟩ := k1.form1 (by rw [HQ.out]; exact HPos.out); rw [HQ.out] at e6; subst e6; have R6 := Lib.hid k1; have B7 := Lib.hid (B6.out.trans (k2.mono B6.out.size)); have O6 : Hid (w.heap.size ≤ g6) := Lib.hid (Nat.le_trans B6.out.size (k3 g6 rfl)); clear k1 k2 k3; have h1 := (HB.out.below B7.out HB.out.lt).cell (i := 0) (v := .slice none 0 0) rfl)
      | (go_at_call 20; ((with_reducible refine (blocks_any _ _ _ _ hD64).mono ?_); rintro e w7 ⟨rfl, rfl⟩); have h2 := ((HB.out.below B7.out HB.out.lt).alloc (.cells #[.slice (some ⟨g6, 0, none⟩) q c6] 22)).cell (i := 0) (v := .slice none 0 0) rfl)
      | (go_at_call 19; ((with_reducible refine (HRp.out _ (B7.out.alloc B7.out.size _) _ (.slice (some ⟨g6, 0, none⟩) q c6) (by simp) rfl).mono ?_); rintro e w8 ⟨g8, c8, rfl, k1, k2, k3⟩); have R8 := Lib.hid k1; have G8 := Lib.hid k2; have A8 := Lib.hid k3; have K8 := Lib.hid (((HB.out.below B7.out HB.out.lt).alloc _).grown k2 HNe.out); clear k1 k2 k3; have h8 := K8.out.cell (i := 0) (v := .slice none 0 0) rfl; have f8 := K8.out.free 0))
    all_goals
      have PE : Hid (PutPost w b X L l (.returned (.int .i64 0)) (w8.setCell ⟨b, 0, none⟩ (.slice (some ⟨g8, 0, none⟩) 1 c8))) := Lib.hid (put_end (W := w6.alloc (.cells #[.slice (some ⟨g6, 0, none⟩) q c6] 22)) (D := D) (rt := g6) (ct := c6) HB.out HX.out HV.out HR.out (B7.out.alloc B7.out.size _) (by rw [HQ.out]; exact R6.out.keep ((Below.refl _ _).alloc (Nat.le_refl _) _)) O6.out (by rw [HQ.out]; exact HPos.out) HPu.out (by rw [HQ.out]; exact R8.out) G8.out A8.out)
      clear h8 f8 h1
      go_wp2
      go_ret
      exact PE.out
  · have HRp : Hid (∀ W, Below w.heap.size w W → ∀ b' rv, W.cell? ⟨b', 0, none⟩ = some rv → rv.oneCell' = true → Calls Try.prog 19 #[.slice (some ⟨g0, 0, none⟩) 0 cap0, .int .i64 0, .int .i64 0, .slice (some ⟨b', 0, none⟩) 1 1] W (OneRow W (.slice (some ⟨g0, 0, none⟩) 0 cap0) rv)) := Lib.hid (fun W k b' rv c o => HRep.out W k b' rv c o)
    clear HRep
    go_enter Try.func7, Try.ntmps7
    go_wp2_with fail
    refine (HC.out).mono ?_
    rintro e w1 ⟨rfl, k1⟩
    have B1 := Lib.hid k1
    clear k1
    have C2 := Lib.hid (HNr.out w1 B1.out)
    go_wp2_with fail
    refine (C2.out).mono ?_
    rintro e w2 ⟨rfl, k2⟩
    have B2 := Lib.hid (B1.out.trans (k2.mono B1.out.size))
    clear k2 C2
    have h0 := (HB.out.below B2.out HB.out.lt).cell (i := 0) (v := .slice (some ⟨g0, 0, none⟩) 0 cap0) rfl
    have C3 := Lib.hid (HCon.out w2 B2.out)
    go_wp2_with fail
    refine (C3.out).mono ?_
    rintro e w3 ⟨u3, rfl, k1, k2, k3⟩
    have R3 := Lib.hid k1
    have B3 := Lib.hid (B2.out.trans (k2.mono B2.out.size))
    have O3 := Lib.hid (fun g e => Nat.le_trans B2.out.size (k3 g e))
    clear k1 k2 k3 C3 h0
    have I3 := Lib.hid (HI.out.keep B3.out)
    go_wp2_with (at_builtin; (refine wpList_append_rr rfl _ _ rfl u3 L rfl R3.out (some ⟨g, off, none⟩) l.length c l rfl rfl hp I3.out (by omega) ?_); intro g4 cap4 w4 hR hgr hat; have R4 := Lib.hid hR; have G4 := Lib.hid hgr; have A4 := Lib.hid hat; clear hR hgr hat)
    have B4 := Lib.hid (B3.out.grown G4.out B3.out.size (fun k e => O3.out k e))
    have O4 : Hid (w.heap.size ≤ g4) := Lib.hid (by
      rcases A4.out with k | k
      · exact O3.out _ k.symm
      · rw [k]; exact B3.out.size)
    have hs := sort_any g4 cap4 (L ++ l) w4 (by rw [List.length_append]; exact R4.out) (by rw [List.length_append]; omega)
    rw [List.length_append] at hs
    have HS := Lib.hid hs
    clear hs
    refine (HS.out).mono ?_
    rintro e w5 ⟨rfl, D, hperm, hrise, hrr, hfr⟩
    have R5 := Lib.hid hrr
    have B5 := Lib.hid (B4.out.trans ⟨hfr.os, hfr.tape, hfr.output, hfr.size, fun k hk => hfr.block k (Nat.lt_of_lt_of_le hk B4.out.size) (by have := O4.out; simp; omega)⟩)
    have HPm := Lib.hid hperm
    have HRi := Lib.hid hrise
    have hDl : D.length = L.length + l.length := by have := hperm.length_eq; simpa using this
    have HPu := Lib.hid (puts_of hperm hrise HCa.out HOk.out)
    have HPos : Hid (0 < (tog D).length) := Lib.hid (tog_pos (by omega))
    have htl := tog_len D
    have hDok : ∀ r ∈ D, r.ok := fun r hr => by
      rcases List.mem_append.1 (hperm.mem_iff.1 hr) with c | c
      · exact HCa.out.ok r c
      · exact HOk.out r c
    have B6 : Hid (Below w.heap.size w w5.drew) := Lib.hid (B5.out.trans ((Drawn.drew w5).below _))
    have hcap : L.length + l.length ≤ cap4 ∧ cap4 ≤ 9223372036854775807 := by
      obtain ⟨_, cur, _, k1, k2, _⟩ := hrr.inv
      exact ⟨k1, k2⟩
    have ht := together_any D ⟨g4, 0, none⟩ cap4 w5.drew (R5.out.drew.its) (by omega) hcap.2 (by omega) hDok
    rw [hDl] at ht
    have HT := Lib.hid ht
    clear ht hcap hDok hperm hrise hrr hfr HS HPm HRi R3 G4 A4 B3 B4 O3 I3
    have hD64 : (tog D).length ≤ 64 := by omega
    have h0 := (HB.out.below B6.out HB.out.lt).cell (i := 0) (v := .slice (some ⟨g0, 0, none⟩) 0 cap0) rfl
    clear htl
    generalize hq : (tog D).length = q at *
    have HQ := Lib.hid hq
    clear hq hDl
    go_wp2_with fail
    go_region_with (first
      | (go_at_call 21; ((with_reducible refine (HT.out).mono ?_); rintro e w6 ⟨u6, rfl, k1, k2, k3⟩); obtain ⟨g6, c6, e6, _⟩ := k1.form1 (by rw [HQ.out]; exact HPos.out); rw [HQ.out] at e6; subst e6; have R6 := Lib.hid k1; have B7 := Lib.hid (B6.out.trans (k2.mono B6.out.size)); have O6 : Hid (w.heap.size ≤ g6) := Lib.hid (Nat.le_trans B6.out.size (k3 g6 rfl)); clear k1 k2 k3; have h1 := (HB.out.below B7.out HB.out.lt).cell (i := 0) (v := .slice (some ⟨g0, 0, none⟩) 0 cap0) rfl)
      | (go_at_call 20; ((with_reducible refine (blocks_any _ _ _ _ hD64).mono ?_); rintro e w7 ⟨rfl, rfl⟩); have h2 := ((HB.out.below B7.out HB.out.lt).alloc (.cells #[.slice (some ⟨g6, 0, none⟩) q c6] 22)).cell (i := 0) (v := .slice (some ⟨g0, 0, none⟩) 0 cap0) rfl)
      | (go_at_call 19; ((with_reducible refine (HRp.out _ (B7.out.alloc B7.out.size _) _ (.slice (some ⟨g6, 0, none⟩) q c6) (by simp) rfl).mono ?_); rintro e w8 ⟨g8, c8, rfl, k1, k2, k3⟩); have R8 := Lib.hid k1; have G8 := Lib.hid k2; have A8 := Lib.hid k3; have K8 := Lib.hid (((HB.out.below B7.out HB.out.lt).alloc _).grown k2 HNe.out); clear k1 k2 k3; have h8 := K8.out.cell (i := 0) (v := .slice (some ⟨g0, 0, none⟩) 0 cap0) rfl; have f8 := K8.out.free 0))
    all_goals
      have PE : Hid (PutPost w b X L l (.returned (.int .i64 0)) (w8.setCell ⟨b, 0, none⟩ (.slice (some ⟨g8, 0, none⟩) 1 c8))) := Lib.hid (put_end (W := w6.alloc (.cells #[.slice (some ⟨g6, 0, none⟩) q c6] 22)) (D := D) (rt := g6) (ct := c6) HB.out HX.out HV.out HR.out (B7.out.alloc B7.out.size _) (by rw [HQ.out]; exact R6.out.keep ((Below.refl _ _).alloc (Nat.le_refl _) _)) O6.out (by rw [HQ.out]; exact HPos.out) HPu.out (by rw [HQ.out]; exact R8.out) G8.out A8.out)
      clear h8 f8 h1
      go_wp2
      go_ret
      exact PE.out
  · have HRp : Hid (∀ W, Below w.heap.size w W → ∀ b' rv, W.cell? ⟨b', 0, none⟩ = some rv → rv.oneCell' = true → Calls Try.prog 19 #[.slice (some ⟨g0, 0, none⟩) 1 cap0, .int .i64 0, .int .i64 1, .slice (some ⟨b', 0, none⟩) 1 1] W (OneRow W (.slice (some ⟨g0, 0, none⟩) 1 cap0) rv)) := Lib.hid (fun W k b' rv c o => HRep.out W k b' rv c o)
    clear HRep
    go_enter Try.func7, Try.ntmps7
    go_wp2_with fail
    refine (HC.out).mono ?_
    rintro e w1 ⟨rfl, k1⟩
    have B1 := Lib.hid k1
    clear k1
    have C2 := Lib.hid (HNr.out w1 B1.out)
    go_wp2_with fail
    refine (C2.out).mono ?_
    rintro e w2 ⟨rfl, k2⟩
    have B2 := Lib.hid (B1.out.trans (k2.mono B1.out.size))
    clear k2 C2
    have h0 := (HB.out.below B2.out HB.out.lt).cell (i := 0) (v := .slice (some ⟨g0, 0, none⟩) 1 cap0) rfl
    have C3 := Lib.hid (HCon.out w2 B2.out)
    go_wp2_with fail
    refine (C3.out).mono ?_
    rintro e w3 ⟨u3, rfl, k1, k2, k3⟩
    have R3 := Lib.hid k1
    have B3 := Lib.hid (B2.out.trans (k2.mono B2.out.size))
    have O3 := Lib.hid (fun g e => Nat.le_trans B2.out.size (k3 g e))
    clear k1 k2 k3 C3 h0
    have I3 := Lib.hid (HI.out.keep B3.out)
    go_wp2_with (at_builtin; (refine wpList_append_rr rfl _ _ rfl u3 L rfl R3.out (some ⟨g, off, none⟩) l.length c l rfl rfl hp I3.out (by omega) ?_); intro g4 cap4 w4 hR hgr hat; have R4 := Lib.hid hR; have G4 := Lib.hid hgr; have A4 := Lib.hid hat; clear hR hgr hat)
    have B4 := Lib.hid (B3.out.grown G4.out B3.out.size (fun k e => O3.out k e))
    have O4 : Hid (w.heap.size ≤ g4) := Lib.hid (by
      rcases A4.out with k | k
      · exact O3.out _ k.symm
      · rw [k]; exact B3.out.size)
    have hs := sort_any g4 cap4 (L ++ l) w4 (by rw [List.length_append]; exact R4.out) (by rw [List.length_append]; omega)
    rw [List.length_append] at hs
    have HS := Lib.hid hs
    clear hs
    refine (HS.out).mono ?_
    rintro e w5 ⟨rfl, D, hperm, hrise, hrr, hfr⟩
    have R5 := Lib.hid hrr
    have B5 := Lib.hid (B4.out.trans ⟨hfr.os, hfr.tape, hfr.output, hfr.size, fun k hk => hfr.block k (Nat.lt_of_lt_of_le hk B4.out.size) (by have := O4.out; simp; omega)⟩)
    have HPm := Lib.hid hperm
    have HRi := Lib.hid hrise
    have hDl : D.length = L.length + l.length := by have := hperm.length_eq; simpa using this
    have HPu := Lib.hid (puts_of hperm hrise HCa.out HOk.out)
    have HPos : Hid (0 < (tog D).length) := Lib.hid (tog_pos (by omega))
    have htl := tog_len D
    have hDok : ∀ r ∈ D, r.ok := fun r hr => by
      rcases List.mem_append.1 (hperm.mem_iff.1 hr) with c | c
      · exact HCa.out.ok r c
      · exact HOk.out r c
    have B6 : Hid (Below w.heap.size w w5.drew) := Lib.hid (B5.out.trans ((Drawn.drew w5).below _))
    have hcap : L.length + l.length ≤ cap4 ∧ cap4 ≤ 9223372036854775807 := by
      obtain ⟨_, cur, _, k1, k2, _⟩ := hrr.inv
      exact ⟨k1, k2⟩
    have ht := together_any D ⟨g4, 0, none⟩ cap4 w5.drew (R5.out.drew.its) (by omega) hcap.2 (by omega) hDok
    rw [hDl] at ht
    have HT := Lib.hid ht
    clear ht hcap hDok hperm hrise hrr hfr HS HPm HRi R3 G4 A4 B3 B4 O3 I3
    have hD64 : (tog D).length ≤ 64 := by omega
    have h0 := (HB.out.below B6.out HB.out.lt).cell (i := 0) (v := .slice (some ⟨g0, 0, none⟩) 1 cap0) rfl
    clear htl
    generalize hq : (tog D).length = q at *
    have HQ := Lib.hid hq
    clear hq hDl
    go_wp2_with fail
    go_region_with (first
      | (go_at_call 21; ((with_reducible refine (HT.out).mono ?_); rintro e w6 ⟨u6, rfl, k1, k2, k3⟩); obtain ⟨g6, c6, e6, _⟩ := k1.form1 (by rw [HQ.out]; exact HPos.out); rw [HQ.out] at e6; subst e6; have R6 := Lib.hid k1; have B7 := Lib.hid (B6.out.trans (k2.mono B6.out.size)); have O6 : Hid (w.heap.size ≤ g6) := Lib.hid (Nat.le_trans B6.out.size (k3 g6 rfl)); clear k1 k2 k3; have h1 := (HB.out.below B7.out HB.out.lt).cell (i := 0) (v := .slice (some ⟨g0, 0, none⟩) 1 cap0) rfl)
      | (go_at_call 20; ((with_reducible refine (blocks_any _ _ _ _ hD64).mono ?_); rintro e w7 ⟨rfl, rfl⟩); have h2 := ((HB.out.below B7.out HB.out.lt).alloc (.cells #[.slice (some ⟨g6, 0, none⟩) q c6] 22)).cell (i := 0) (v := .slice (some ⟨g0, 0, none⟩) 1 cap0) rfl)
      | (go_at_call 19; ((with_reducible refine (HRp.out _ (B7.out.alloc B7.out.size _) _ (.slice (some ⟨g6, 0, none⟩) q c6) (by simp) rfl).mono ?_); rintro e w8 ⟨g8, c8, rfl, k1, k2, k3⟩); have R8 := Lib.hid k1; have G8 := Lib.hid k2; have A8 := Lib.hid k3; have K8 := Lib.hid (((HB.out.below B7.out HB.out.lt).alloc _).grown k2 HNe.out); clear k1 k2 k3; have h8 := K8.out.cell (i := 0) (v := .slice (some ⟨g0, 0, none⟩) 1 cap0) rfl; have f8 := K8.out.free 0))
    all_goals
      have PE : Hid (PutPost w b X L l (.returned (.int .i64 0)) (w8.setCell ⟨b, 0, none⟩ (.slice (some ⟨g8, 0, none⟩) 1 c8))) := Lib.hid (put_end (W := w6.alloc (.cells #[.slice (some ⟨g6, 0, none⟩) q c6] 22)) (D := D) (rt := g6) (ct := c6) HB.out HX.out HV.out HR.out (B7.out.alloc B7.out.size _) (by rw [HQ.out]; exact R6.out.keep ((Below.refl _ _).alloc (Nat.le_refl _) _)) O6.out (by rw [HQ.out]; exact HPos.out) HPu.out (by rw [HQ.out]; exact R8.out) G8.out A8.out)
      clear h8 f8 h1
      go_wp2
      go_ret
      exact PE.out
end Go.Proofs.Ytgjlbilbjgolpaa
