/- The live question of goitlaw10, over this translation. -/
import Derived.Test.YtmkgbpfifdiniaaIn10b
set_option linter.unusedVariables false
namespace Go.Proofs.Ytmkgbpfifdiniaa
open Go.RowKit Pl

/-- A call's own sampler, and what was there before. -/
def OwnR (w : World) (s : RaS) (wr : World) : Prop := RaAt wr w.heap.size s ∧ Below w.heap.size w wr
theorem OwnR.keep {w a b : World} {s : RaS} (h : OwnR w s a) (k : Below a.heap.size a b) : OwnR w s b := ⟨Blk.keep h.1 k, bel_to h.2 k h.2.size⟩
theorem OwnR.gr {w a b : World} {s s' : RaS} (h : OwnR w s a) (hb : RaAt b w.heap.size s') (k : a.grownBy b (some w.heap.size)) : OwnR w s' b := ⟨hb, bel_gr h.2 k h.2.size (Nat.le_refl _)⟩

theorem own_Stamp {w a : World} {s : RaS} (h : OwnR w s a) (now fl : Nat) : Calls Try.prog 7 #[.pointer (some ⟨w.heap.size, 0, none⟩), .int .u64 (now : Int), .int .u64 (fl : Int)] a fun e w' => e = .returned (.agg ((s.stampS now fl).stampT now).cells) ∧ OwnR w (s.stampS now fl) w' ∧ a.grownBy w' (some w.heap.size) :=
  (ra_Stamp _ now fl s a h.1).mono fun _ _ k => ⟨k.e, h.gr k.blk k.gr, k.gr⟩
theorem own_Limit {w a : World} {s : RaS} (h : OwnR w s a) (hs : s.ok) (fl : Nat) (hf : fl ≤ 18446744073709551615) : Calls Try.prog 8 #[.pointer (some ⟨w.heap.size, 0, none⟩), .int .u64 (fl : Int)] a fun e w' => e = .returned (.tuple #[]) ∧ OwnR w (s.limit fl) w' ∧ a.grownBy w' (some w.heap.size) :=
  (ra_Limit _ fl s a h.1 hs hf).mono fun _ _ k => ⟨k.1, h.gr k.2.1 k.2.2, k.2.2⟩
theorem own_Delivered {w a : World} {s : RaS} (h : OwnR w s a) : Calls Try.prog 11 #[.pointer (some ⟨w.heap.size, 0, none⟩)] a fun e w' => e = .returned (.int .u64 (s.n : Int)) ∧ a = w' := ra_Delivered _ s a h.1
theorem own_Ack {w a : World} {s : RaS} (h : OwnR w s a) (hs : s.ok) (now c : Nat) (p : Option Addr) (q : Pk) (l : List Pk) (hn : now ≤ 18446744073709551615) (hl : Its a p (q :: l)) (hu : ∀ x ∈ q :: l, x.u64) (hp : ∀ x, p = some x → x.block ≠ w.heap.size) (hc : l.length + 1 ≤ c) (hm : c ≤ 9223372036854775807) :
    Calls Try.prog 9 #[.pointer (some ⟨w.heap.size, 0, none⟩), .int .u64 (now : Int), .slice p (l.length + 1) c] a fun e w' => e = .returned (.tuple #[.agg (s.ackT now q l).cells, .bool true]) ∧ OwnR w (s.ack now q l) w' ∧ a.grownBy w' (some w.heap.size) :=
  (ra_Ack _ now c p q l s a h.1 hs hn hl hu hp hc hm).mono fun _ _ k => ⟨k.e, h.gr k.blk k.gr, k.gr⟩

/-- The live question's packets. -/
def pa10 : Pk := ⟨0, 500, 1000, 1000, 0, 1000, false⟩
def pb10 : Pk := ⟨1, 500, 2000, 1000, 0, 1000, false⟩
theorem al_ack : (RaS.ack ⟨0, 1000, 1000, 1000⟩ 11000 pa10 [pb10]) = ⟨1000, 11000, 2000, 1000⟩ := rfl
theorem al_ackT : (RaS.ackT ⟨0, 1000, 1000, 1000⟩ 11000 pa10 [pb10]).cells = #[.int .u64 1000, .int .u64 10000, .int .u64 100000, .int .u64 9000, .bool false] := by
  have : (RaS.ackT ⟨0, 1000, 1000, 1000⟩ 11000 pa10 [pb10]) = ⟨1000, 10000, 100000, 9000, false⟩ := by decide +kernel
  rw [this]; rfl
theorem al_s1 : ((RaS.zero.stampS 1000 0).stampT 1000).cells = #[.int .u64 1000, .int .u64 1000, .int .u64 0, .int .u64 1000, .bool false] := rfl
theorem al_s2 : ((RaS.stampS ⟨0, 1000, 1000, 0⟩ 2000 500).stampT 2000).cells = #[.int .u64 2000, .int .u64 1000, .int .u64 0, .int .u64 1000, .bool false] := rfl
theorem al_s3 : ((RaS.stampS ⟨1000, 11000, 2000, 1000⟩ 12000 9).stampT 12000).cells = #[.int .u64 12000, .int .u64 2000, .int .u64 1000, .int .u64 11000, .bool true] := rfl
theorem al_lim : (RaS.limit ⟨0, 1000, 1000, 0⟩ 1000) = ⟨0, 1000, 1000, 1000⟩ := rfl
theorem pk_ok (n z a b c d : Nat) (f : Bool) (h0 : n ≤ 18446744073709551615) (h1 : z ≤ 18446744073709551615) (h2 : a ≤ 18446744073709551615) (h3 : b ≤ 18446744073709551615) (h4 : c ≤ 18446744073709551615) (h5 : d ≤ 18446744073709551615) : (⟨n, z, a, b, c, d, f⟩ : Pk).u64 := ⟨h0, h1, h2, h3, h4, h5⟩

set_option maxHeartbeats 2000000 in
theorem alive10 (w : World) : Calls Try.prog 5 #[] w fun e w' => e = .returned (.bool true) ∧ Below w.heap.size w w' := by
  have H0 : Hid (OwnR w RaS.zero (w.alloc (.cells RaS.zero.cells 44))) := Lib.hid ⟨Blk.new _ _ _, (Below.refl _ _).alloc (Nat.le_refl _) _⟩
  have HN := Lib.hid (ra_New w)
  go_enter Try.func5, Try.ntmps5
  go_wp2_with fail
  refine (HN.out).mono ?_
  rintro e w0 ⟨rfl, hw0⟩
  rw [hw0] at H0
  clear hw0 HN
  have HS := own_Stamp H0.out 1000 0
  rw [al_s1] at HS
  have HS := Lib.hid HS
  go_wp2_with fail
  refine (HS.out).mono ?_
  rintro e w1 ⟨rfl, h1, _⟩
  have H1 : Hid (OwnR w ⟨0, 1000, 1000, 0⟩ (w1.alloc (.cells #[.int .u64 1000, .int .u64 1000, .int .u64 0, .int .u64 1000, .bool false] 32))) := Lib.hid (OwnR.keep h1 ((Below.refl _ _).alloc (Nat.le_refl _) _))
  have A1 := Lib.hid (Blk.new w1 32 #[.int .u64 1000, .int .u64 1000, .int .u64 0, .int .u64 1000, .bool false])
  have NA : Hid (w1.heap.size ≠ w.heap.size) := Lib.hid (by have := Blk.lt h1.1; omega)
  clear h1 H0 HS
  have HS := own_Stamp H1.out 2000 500
  rw [al_s2] at HS
  have HS := Lib.hid HS
  go_wp2_with fail
  refine (HS.out).mono ?_
  rintro e w2 ⟨rfl, h2, g2⟩
  have H2 : Hid (OwnR w ⟨0, 1000, 1000, 0⟩ (w2.alloc (.cells #[.int .u64 2000, .int .u64 1000, .int .u64 0, .int .u64 1000, .bool false] 32))) := Lib.hid (OwnR.keep h2 ((Below.refl _ _).alloc (Nat.le_refl _) _))
  have A2 := Lib.hid ((A1.out.grown g2 (by intro e; injection e with e; exact NA.out e)).alloc (.cells #[.int .u64 2000, .int .u64 1000, .int .u64 0, .int .u64 1000, .bool false] 32))
  have B2 := Lib.hid (Blk.new w2 32 #[.int .u64 2000, .int .u64 1000, .int .u64 0, .int .u64 1000, .bool false])
  have NB : Hid (w2.heap.size ≠ w.heap.size) := Lib.hid (by have := Blk.lt h2.1; omega)
  clear h2 g2 H1 A1 HS
  have HS := own_Limit H2.out ⟨by decide, by decide, by decide, by decide⟩ 1000 (by decide)
  rw [al_lim] at HS
  have HS := Lib.hid HS
  go_wp2_with fail
  refine (HS.out).mono ?_
  rintro e w3 ⟨rfl, h3, g3⟩
  have A3 := Lib.hid (A2.out.grown g3 (by intro e; injection e with e; exact NA.out e))
  have B3 := Lib.hid (B2.out.grown g3 (by intro e; injection e with e; exact NB.out e))
  have H3 := Lib.hid h3
  have P3 := Lib.hid (Blk.new w3 42 #[.int .u64 0, .int .u64 500, .int .u64 1000, .int .u64 1000, .int .u64 0, .int .u64 1000, .bool false, .int .u64 1, .int .u64 500, .int .u64 2000, .int .u64 1000, .int .u64 0, .int .u64 1000, .bool false])
  have HI : Hid (Its (w3.alloc (.cells #[.int .u64 0, .int .u64 500, .int .u64 1000, .int .u64 1000, .int .u64 0, .int .u64 1000, .bool false, .int .u64 1, .int .u64 500, .int .u64 2000, .int .u64 1000, .int .u64 0, .int .u64 1000, .bool false] 42)) (some ⟨w3.heap.size, 0, none⟩) [pa10, pb10]) := Lib.hid (Its.of_blk (l := [pa10, pb10]) P3.out)
  have H3' := Lib.hid (OwnR.keep h3 ((Below.refl _ _).alloc (Nat.le_refl _) (.cells #[.int .u64 0, .int .u64 500, .int .u64 1000, .int .u64 1000, .int .u64 0, .int .u64 1000, .bool false, .int .u64 1, .int .u64 500, .int .u64 2000, .int .u64 1000, .int .u64 0, .int .u64 1000, .bool false] 42)))
  have NP : Hid (w3.heap.size ≠ w.heap.size) := Lib.hid (by have := Blk.lt h3.1; omega)
  clear h3 g3 H2 A2 B2 HS
  have HS := own_Ack H3'.out ⟨by decide, by decide, by decide, by decide⟩ 11000 2 (some ⟨w3.heap.size, 0, none⟩) pa10 [pb10] (by decide) HI.out (by
    intro x hx
    simp only [List.mem_cons, List.not_mem_nil, or_false] at hx
    rcases hx with rfl | rfl
    · exact pk_ok _ _ _ _ _ _ _ (by decide) (by decide) (by decide) (by decide) (by decide) (by decide)
    · exact pk_ok _ _ _ _ _ _ _ (by decide) (by decide) (by decide) (by decide) (by decide) (by decide)) (by intro x hx; injection hx with hx; subst hx; exact NP.out) (by decide) (by decide)
  rw [al_ack, al_ackT] at HS
  have HS := Lib.hid HS
  have ka := World.block_lt_of_cell? _ _ (A3.out.cell (i := 0) (v := .int .u64 1000) rfl)
  have a0 := A3.out.cell (i := 0) (v := .int .u64 1000) rfl
  have a1 := A3.out.cell (i := 1) (v := .int .u64 1000) rfl
  have a2 := A3.out.cell (i := 2) (v := .int .u64 0) rfl
  have a3 := A3.out.cell (i := 3) (v := .int .u64 1000) rfl
  have a4 := A3.out.cell (i := 4) (v := .bool false) rfl
  have b0 := B3.out.cell (i := 0) (v := .int .u64 2000) rfl
  have b1 := B3.out.cell (i := 1) (v := .int .u64 1000) rfl
  have b2 := B3.out.cell (i := 2) (v := .int .u64 0) rfl
  have b3 := B3.out.cell (i := 3) (v := .int .u64 1000) rfl
  have b4 := B3.out.cell (i := 4) (v := .bool false) rfl
  clear H3 P3 HI
  go_wp2_with fail
  refine (HS.out).mono ?_
  rintro e w4 ⟨rfl, h4, g4⟩
  have H4 : Hid (OwnR w ⟨1000, 11000, 2000, 1000⟩ (w4.alloc (.cells #[.int .u64 1000, .int .u64 10000, .int .u64 100000, .int .u64 9000, .bool false] 36))) := Lib.hid (OwnR.keep h4 ((Below.refl _ _).alloc (Nat.le_refl _) _))
  have X4 := Lib.hid (Blk.new w4 36 #[.int .u64 1000, .int .u64 10000, .int .u64 100000, .int .u64 9000, .bool false])
  have NX : Hid (w4.heap.size ≠ w.heap.size) := Lib.hid (by have := Blk.lt h4.1; omega)
  clear h4 g4 H3' HS a0 a1 a2 a3 a4 b0 b1 b2 b3 b4 ka A3 B3 NA NB NP
  have HS := Lib.hid (ra_Ack_none w.heap.size 0 none (.int .u64 12000) (w4.alloc (.cells #[.int .u64 1000, .int .u64 10000, .int .u64 100000, .int .u64 9000, .bool false] 36)))
  unfold Smp.cells Smp.zero at HS
  go_wp2_with fail
  refine (HS.out).mono ?_
  rintro e w5 ⟨rfl, k5⟩
  have Z5 := Lib.hid ((Below.refl w5.heap.size w5).alloc (Nat.le_refl _) (.cells #[.int .u64 0, .int .u64 0, .int .u64 0, .int .u64 0, .bool false] 36))
  have H5 := Lib.hid ((OwnR.keep H4.out k5).keep Z5.out)
  have X5 := Lib.hid ((X4.out.keep k5).keep Z5.out)
  clear k5 HS H4 X4 Z5
  have HS := own_Stamp H5.out 12000 9
  rw [al_s3] at HS
  have HS := Lib.hid HS
  go_wp2_with fail
  refine (HS.out).mono ?_
  rintro e w6 ⟨rfl, h6, g6⟩
  have H6 : Hid (OwnR w ⟨1000, 11000, 2000, 1000⟩ (w6.alloc (.cells #[.int .u64 12000, .int .u64 2000, .int .u64 1000, .int .u64 11000, .bool true] 32))) := Lib.hid (OwnR.keep h6 ((Below.refl _ _).alloc (Nat.le_refl _) _))
  have X6 := Lib.hid ((X5.out.grown g6 (by intro e; injection e with e; exact NX.out e)).alloc (.cells #[.int .u64 12000, .int .u64 2000, .int .u64 1000, .int .u64 11000, .bool true] 32))
  have C6 := Lib.hid (Blk.new w6 32 #[.int .u64 12000, .int .u64 2000, .int .u64 1000, .int .u64 11000, .bool true])
  clear h6 g6 H5 X5 HS
  have x0 := X6.out.cell (i := 0) (v := .int .u64 1000) rfl
  have x1 := X6.out.cell (i := 1) (v := .int .u64 10000) rfl
  have x2 := X6.out.cell (i := 2) (v := .int .u64 100000) rfl
  have x3 := X6.out.cell (i := 3) (v := .int .u64 9000) rfl
  have x4 := X6.out.cell (i := 4) (v := .bool false) rfl
  have HD := Lib.hid (own_Delivered H6.out)
  have HF := Lib.hid H6.out.2
  clear H6
  go_wp2_with fail
  refine (HD.out).mono ?_
  rintro e w7 ⟨rfl, hw7⟩
  rw [← hw7]
  clear hw7 HD
  go_wp2_with fail
  go_ret
  exact ⟨rfl, HF.out⟩
end Go.Proofs.Ytmkgbpfifdiniaa
