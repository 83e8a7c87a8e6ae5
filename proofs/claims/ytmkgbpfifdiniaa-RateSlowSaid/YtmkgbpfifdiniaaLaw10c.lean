/- RateSlow over this translation: the walk. -/
import Derived.Test.YtmkgbpfifdiniaaLaw10b
import Derived.BigRegion
import Derived.StillTailTactics
import Derived.Deep.RegionHeld3
set_option linter.unusedVariables false
namespace Go.Proofs.Ytmkgbpfifdiniaa
open Go.RowKit Pl

theorem slow_long (v : Option Addr) (c b off : Nat) (l : List Ac) (W : World) (h : InActs W v l b off) (hf : fitsB l = false) :
    Calls Try.prog 3 #[.slice v l.length c] W fun e w' => e = .returned (.bool true) ∧ Below W.heap.size W w' := by
  have HF := Lib.hid (fits_any l v c b off W h)
  rw [hf] at HF
  have HA := Lib.hid (alive10 W)
  clear h hf
  go_enter Try.func3, Try.ntmps3
  go_wp2_with fail
  refine (HF.out).mono ?_
  rintro e w1 ⟨rfl, rfl⟩
  go_wp2_with fail
  refine (HA.out).mono ?_
  rintro e w2 ⟨rfl, b2⟩
  have B2 := Lib.hid b2
  clear b2 HA HF
  go_wp2
  go_ret
  exact ⟨rfl, B2.out⟩

theorem fitsB_all {l : List Ac} (h : fitsB l = true) : l.length ≤ 100 ∧ ∀ i, i < l.length → (l.getD i default).l.length ≤ 100 := by
  unfold fitsB at h
  rw [Bool.and_eq_true, List.all_eq_true] at h
  refine ⟨by simpa using h.1, fun i hi => ?_⟩
  have := h.2 (l.getD i default) (by simp [List.getD_eq_getElem?_getD, hi])
  simpa using this

/-- What holds at the head of each round. -/
def SlowRel (W : World) (n k : Nat) (wr : World) : Prop := k ≤ n ∧ ∃ s : RaS, s.ok ∧ OwnR W s wr

set_option maxHeartbeats 4000000 in
set_option maxRecDepth 100000 in
theorem slow_few (v : Option Addr) (c b off : Nat) (l : List Ac) (W : World) (h : InActs W v l b off) (hf : fitsB l = true) :
    Calls Try.prog 3 #[.slice v l.length c] W fun e w' => e = .returned (.bool true) ∧ Below W.heap.size W w' := by
  have HF := Lib.hid (fits_any l v c b off W h)
  rw [hf] at HF
  obtain ⟨hn, _⟩ := fitsB_all hf
  have HI := Lib.hid h
  have HN := Lib.hid (ra_New W)
  have HA := Lib.hid alive10
  clear h hf
  go_enter Try.func3, Try.ntmps3
  go_wp2_with fail
  refine (HF.out).mono ?_
  rintro e w1 ⟨rfl, rfl⟩
  go_wp2_with fail
  refine (HN.out).mono ?_
  rintro e w2 ⟨rfl, hw2⟩
  have H2 : Hid (OwnR w1 RaS.zero w2) := Lib.hid (by rw [← hw2]; exact ⟨Blk.new _ _ _, (Below.refl _ _).alloc (Nat.le_refl _) _⟩)
  clear hw2 HN HF
  go_wp2_with fail
  go_loopw [5] (fun i wr => ∃ k : Nat, i = .int .i64 (k : Int) ∧ SlowRel w1 l.length k wr) (fun i _ => l.length - (intOf i).toNat)
  case atStart => exact ⟨0, rfl, Nat.zero_le _, RaS.zero, ⟨by decide, by decide, by decide, by decide⟩, H2.out⟩
  case round =>
    obtain ⟨k, rfl, hk, s, hs, hO⟩ := hrel
    have HO := Lib.hid hO
    have HS := Lib.hid hs
    clear H2 hO hs
    by_cases hlt : k < l.length
    · obtain ⟨rfl, hb0⟩ := HI.out.2.1 (by omega)
      have A0 := HI.out.2.2 k hlt
      have A := A0.keep hb0 HO.out.2
      have i0 : (0 : Int) ≤ (k : Int) := by omega
      have i1 : (k : Int) < (l.length : Int) := by omega
      generalize l.getD k default = q at *
      have HQ := Lib.hid A0
      have HBk := Lib.hid (Nat.lt_of_lt_of_le hb0 HO.out.2.size)
      have hNe : b ≠ w1.heap.size := by omega
      have HNe := Lib.hid hNe
      have k0 := A.k0
      clear A0 hNe
      have hkd : q.kind % 3 = 0 ∨ q.kind % 3 = 1 ∨ q.kind % 3 = 2 := by omega
      rcases hkd with hkd | hkd | hkd
      · have d0 : ((q.kind : Int) % 3 == 0) = true := by rw [show ((q.kind : Int) % 3) = ((q.kind % 3 : Nat) : Int) by omega, hkd]; rfl
        have c1 := cell_drew A.k1
        have c2 := cell_drew A.k2
        have HSt := Lib.hid (own_Stamp (HO.out.keep ((Drawn.drew wr).below _)) q.now q.n)
        have HS2 := Lib.hid (RaS.stamp_ok HS.out A.b1 q.n)
        clear A hkd
        go_wp2_with fail
        go_region_held3 (fun w' => w'.cell? ⟨b, off + k * 4 + 1, none⟩ = some (.int .u64 (q.now : Int)) ∧ w'.cell? ⟨b, off + k * 4 + 2, none⟩ = some (.int .u64 (q.n : Int)))
          (first | with_reducible exact ⟨c1, c2⟩ | with_reducible exact ⟨e1, e2⟩)
          (first | (go_at_call 7; refine (HSt.out).mono ?_; rintro e w3 ⟨rfl, h3, g3⟩; have H3 := Lib.hid h3; have e1 := (World.grownBy.cell_far g3 ⟨b, _, none⟩ HBk.out (by intro e; injection e with e; exact HNe.out e)).trans c1; have e2 := (World.grownBy.cell_far g3 ⟨b, _, none⟩ HBk.out (by intro e; injection e with e; exact HNe.out e)).trans c2; clear h3 g3))
        go_wp2_with fail
        go_roundw
        case rel => exact ⟨k + 1, by go_num, by omega, _, HS2.out, H3.out⟩
        case measure => simp [intOf]; omega
      · have d0 : ((q.kind : Int) % 3 == 0) = false := by rw [show ((q.kind : Int) % 3) = ((q.kind % 3 : Nat) : Int) by omega, hkd]; rfl
        have d1 : ((q.kind : Int) % 3 == 1) = true := by rw [show ((q.kind : Int) % 3) = ((q.kind % 3 : Nat) : Int) by omega, hkd]; rfl
        have k2 := A.k2
        have HLi := Lib.hid (own_Limit HO.out HS.out q.n A.b2)
        have HS2 := Lib.hid (RaS.limit_ok HS.out q.n)
        clear A hkd
        go_wp2_with fail
        refine (HLi.out).mono ?_
        rintro e w3 ⟨rfl, h3, _⟩
        have H3 := Lib.hid h3
        clear h3 HLi
        go_wp2_with fail
        go_roundw
        case rel => exact ⟨k + 1, by go_num, by omega, _, HS2.out, H3.out⟩
        case measure => simp [intOf]; omega
      · have d0 : ((q.kind : Int) % 3 == 0) = false := by rw [show ((q.kind : Int) % 3) = ((q.kind % 3 : Nat) : Int) by omega, hkd]; rfl
        have d1 : ((q.kind : Int) % 3 == 1) = false := by rw [show ((q.kind : Int) % 3) = ((q.kind % 3 : Nat) : Int) by omega, hkd]; rfl
        obtain ⟨x, s2, f, hslow, hs2, hcall⟩ := any_Ack HS.out q.now q.c q.p q.l A.b1 HQ.out.b3
        have HSl := Lib.hid hslow
        have HS2 := Lib.hid hs2
        have HCa := Lib.hid hcall
        clear hslow hs2 hcall hkd
        have k1 := A.k1
        have k3 := A.k3
        have c1 := cell_drew k1
        have c3 := cell_drew k3
        have a1 := cell_drew (cell_al k1 (.cells #[.int .u64 0, .int .u64 0, .int .u64 0, .int .u64 0, .bool false] 36))
        have a3 := cell_drew (cell_al k3 (.cells #[.int .u64 0, .int .u64 0, .int .u64 0, .int .u64 0, .bool false] 36))
        have OB := Lib.hid (HO.out.keep ((Drawn.drew wr).below _))
        have OA : Hid (OwnR w1 s (wr.alloc (.cells #[.int .u64 0, .int .u64 0, .int .u64 0, .int .u64 0, .bool false] 36)).drew) := Lib.hid (HO.out.keep (((Below.refl _ _).alloc (Nat.le_refl _) _).trans ((Drawn.drew _).below _)))
        have XA := Lib.hid ((Blk.new wr 36 #[.int .u64 0, .int .u64 0, .int .u64 0, .int .u64 0, .bool false]).drew)
        have HBl : Hid (b < (wr.alloc (.cells #[.int .u64 0, .int .u64 0, .int .u64 0, .int .u64 0, .bool false] 36)).drew.heap.size) := Lib.hid (by have := HBk.out; simp; omega)
        have HXn : Hid (wr.heap.size ≠ w1.heap.size) := Lib.hid (by have := Blk.lt HO.out.1; omega)
        have HXb : Hid (b ≠ wr.heap.size) := Lib.hid (by have := HBk.out; omega)
        unfold Smp.cells at HCa
        clear A
        go_upto_region 9 with fail
        go_cut [6, 7] from 17 to 96 (fun v u wx => u = .bool f ∧ ∃ xb, v = .pointer (some ⟨xb, 0, none⟩) ∧ Blk wx xb 36 x.cells ∧ OwnR w1 s2 wx)
        case first =>
          go_region_held3 (fun w' => w'.cell? ⟨b, off + k * 4 + 1, none⟩ = some (.int .u64 (q.now : Int)) ∧ w'.cell? ⟨b, off + k * 4 + 3, none⟩ = some (.slice q.p q.l.length q.c))
            (first | with_reducible exact ⟨c1, c3⟩ | with_reducible exact ⟨a1, a3⟩ | with_reducible exact ⟨e1, e3⟩ | with_reducible exact ⟨cell_al e1 _, cell_al e3 _⟩ | with_reducible exact ⟨far5 e1 HXb.out, far5 e3 HXb.out⟩)
            (first | (go_at_call 9; (with_reducible refine (HCa.out _ OB.out).mono ?_); rintro e w3 ⟨rfl, h3, g3⟩; have H3 := Lib.hid h3; have e1 := (World.grownBy.cell_far g3 ⟨b, _, none⟩ HBk.out (by intro e; injection e with e; exact HNe.out e)).trans c1; have e3 := (World.grownBy.cell_far g3 ⟨b, _, none⟩ HBk.out (by intro e; injection e with e; exact HNe.out e)).trans c3; clear h3 g3) | (go_at_call 9; (with_reducible refine (HCa.out _ OA.out).mono ?_); rintro e w3 ⟨rfl, h3, g3⟩; have H3 := Lib.hid h3; have e1 := (World.grownBy.cell_far g3 ⟨b, _, none⟩ HBl.out (by intro e; injection e with e; exact HNe.out e)).trans a1; have e3 := (World.grownBy.cell_far g3 ⟨b, _, none⟩ HBl.out (by intro e; injection e with e; exact HNe.out e)).trans a3; have X3 := Lib.hid (XA.out.grown g3 (by intro e; injection e with e; exact HXn.out e)); clear h3 g3; have z0 := X3.out.cell (i := 0) (v := .int .u64 0) rfl; have y0 := X3.out.free 0; have z1 := X3.out.cell (i := 1) (v := .int .u64 0) rfl; have y1 := X3.out.free 1; have z2 := X3.out.cell (i := 2) (v := .int .u64 0) rfl; have y2 := X3.out.free 2; have z3 := X3.out.cell (i := 3) (v := .int .u64 0) rfl; have y3 := X3.out.free 3; have z4 := X3.out.cell (i := 4) (v := .bool false) rfl; have y4 := X3.out.free 4))
          · go_wp2_with fail
            go_meet
            exact ⟨rfl, w3.heap.size, rfl, Blk.new _ _ _, H3.out.keep ((Below.refl _ _).alloc (Nat.le_refl _) _)⟩
          · go_wp2_with fail
            go_meet
            exact ⟨rfl, wr.heap.size, rfl, Blk.whole [.int .u64 (x.deliv : Int), .int .u64 (x.interval : Int), .int .u64 (x.rate : Int), .int .u64 (x.rtt : Int), .bool x.lim] X3.out rfl, ⟨Blk.sets_other HXn.out.symm [.int .u64 (x.deliv : Int), .int .u64 (x.interval : Int), .int .u64 (x.rate : Int), .int .u64 (x.rtt : Int), .bool x.lim] 0 _ H3.out.1, Below.sets HO.out.2.size [.int .u64 (x.deliv : Int), .int .u64 (x.interval : Int), .int .u64 (x.rate : Int), .int .u64 (x.rtt : Int), .bool x.lim] 0 _ H3.out.2⟩⟩
        case rest =>
          obtain ⟨rfl, xb, rfl, hX, hO2⟩ := hcut
          have HO2 := Lib.hid hO2
          have HX := Lib.hid hX
          clear hX hO2
          have A2 := HQ.out.keep hb0 HO2.out.2
          have k1 := A2.k1
          clear A2 k3 c1 c3 a1 a3 OA OB XA HBl HXn HXb HCa HO
          have x0 := HX.out.cell (i := 0) (v := .int .u64 (x.deliv : Int)) rfl
          have x1 := HX.out.cell (i := 1) (v := .int .u64 (x.interval : Int)) rfl
          have x2 := HX.out.cell (i := 2) (v := .int .u64 (x.rate : Int)) rfl
          have x3 := HX.out.cell (i := 3) (v := .int .u64 (x.rtt : Int)) rfl
          have HDe : Hid (∀ n, Calls Try.prog 11 #[.pointer (some ⟨w1.heap.size, 0, none⟩)] (wc.drewN n) fun e w' => e = .returned (.int .u64 (s2.n : Int)) ∧ w' = wc.drewN n) := Lib.hid (fun n => (own_Delivered (HO2.out.keep (⟨rfl, rfl, rfl, Nat.le_refl _, fun _ _ => rfl⟩ : Below wc.heap.size wc (wc.drewN n)))).mono fun _ _ ⟨p, q⟩ => ⟨p, q.symm⟩)
          have HSh : Hid (∀ n, Calls Try.prog 10 #[.int .u64 (x.rate : Int), .int .u64 (x.interval : Int), .int .u64 1000000] (wc.drewN n) fun e w' => e = .returned (.int .u64 ((shareS x.rate x.interval 1000000 : Nat) : Int)) ∧ ∃ m, w' = (wc.drewN n).drewN m) := Lib.hid (fun n => fix_Share_n x.rate x.interval 1000000 (wc.drewN n) HSl.out.r' HSl.out.i' (by decide))
          have g1 : decide (s2.n < x.deliv) = false := by have := HSl.out.d; simp; omega
          have g2 : decide (q.now < x.rtt) = false := by have := HSl.out.t; simp; omega
          by_cases hr : x.rate < 18446744073709551615
          · have g0 : decide ((x.rate : Int) < 18446744073709551615) = true := by simp; omega
            have hy := HSl.out.r hr
            generalize shareS x.rate x.interval 1000000 = y at *
            have g3 : decide (x.deliv < y) = false := by simp; omega
            clear hr hy
            go_wp2_with fail
            go_quiet (first | (go_at_call 10; exact Calls.quiet_of (HSh.out _)) | (go_at_call 11; exact Calls.quiet_of_same (HDe.out _)))
            have HD : Hid (Drawn wc (wc.drewN nq)) := Lib.hid ⟨nq, rfl⟩
            generalize wc.drewN nq = w6 at *
            go_wp2_with fail
            go_roundw
            case rel => exact ⟨k + 1, by go_num, by omega, s2, HS2.out, HO2.out.keep (HD.out.below _)⟩
            case measure => simp [intOf]; omega
          · have g0 : decide ((x.rate : Int) < 18446744073709551615) = false := by simp; omega
            clear hr
            go_wp2_with fail
            go_quiet (first | (go_at_call 10; exact Calls.quiet_of (HSh.out _)) | (go_at_call 11; exact Calls.quiet_of_same (HDe.out _)))
            have HD : Hid (Drawn wc (wc.drewN nq)) := Lib.hid ⟨nq, rfl⟩
            generalize wc.drewN nq = w6 at *
            go_wp2_with fail
            go_roundw
            case rel => exact ⟨k + 1, by go_num, by omega, s2, HS2.out, HO2.out.keep (HD.out.below _)⟩
            case measure => simp [intOf]; omega
    · obtain rfl : k = l.length := by omega
      have HL0 := Lib.hid (ra_Limit_nil (.int .u64 1) wr)
      go_wp2_with fail
      refine (HL0.out).mono ?_
      rintro e w3 ⟨rfl, rfl⟩
      have hk := ra_Ack_nil (.int .u64 1) (.slice (some ⟨wr.heap.size, 0, none⟩) 1 1) (wr.alloc (.cells #[.int .u64 0, .int .u64 1, .int .u64 0, .int .u64 0, .int .u64 0, .int .u64 0, .bool false] 42))
      have e0 : Smp.zero.cells = #[.int .u64 0, .int .u64 0, .int .u64 0, .int .u64 0, .bool false] := rfl
      rw [e0] at hk
      have HK := Lib.hid hk
      clear hk e0 HL0
      go_wp2_with fail
      refine (HK.out).mono ?_
      rintro e w4 ⟨rfl, k4⟩
      have B4 : Hid (Below w1.heap.size w1 (w4.alloc (.cells #[.int .u64 0, .int .u64 0, .int .u64 0, .int .u64 0, .bool false] 36))) := Lib.hid (bel_to (bel_to HO.out.2 (((Below.refl wr.heap.size wr).alloc (Nat.le_refl _) _).trans (k4.mono (by simp))) HO.out.2.size) ((Below.refl _ _).alloc (Nat.le_refl _) _) (by
        have h1 := HO.out.2.size
        have h2 := k4.size
        simp at h2
        omega))
      have X4 := Lib.hid (Blk.new w4 36 #[.int .u64 0, .int .u64 0, .int .u64 0, .int .u64 0, .bool false])
      clear HK k4
      go_wp2_with fail
      refine (HA.out _).mono ?_
      rintro e w5 ⟨rfl, k5⟩
      have B5 := Lib.hid (bel_to B4.out k5 B4.out.size)
      have X5 := Lib.hid (X4.out.keep k5)
      clear k5 B4 X4
      have x0 := X5.out.cell (i := 0) (v := .int .u64 0) rfl
      have x1 := X5.out.cell (i := 1) (v := .int .u64 0) rfl
      have x2 := X5.out.cell (i := 2) (v := .int .u64 0) rfl
      have x3 := X5.out.cell (i := 3) (v := .int .u64 0) rfl
      have x4 := X5.out.cell (i := 4) (v := .bool false) rfl
      have HDn := Lib.hid (ra_Delivered_nil w5)
      have hst := ra_Stamp_nil (.int .u64 1) (.int .u64 0) w5
      have e0 : (St.cells ⟨0, 0, 0, 0, false⟩) = #[.int .u64 0, .int .u64 0, .int .u64 0, .int .u64 0, .bool false] := rfl
      rw [e0] at hst
      have HSt := Lib.hid hst
      clear hst e0
      go_wp2_with fail
      refine (HDn.out).mono ?_
      rintro e w6 ⟨rfl, hw6⟩
      rw [← hw6]
      clear hw6 HDn
      go_wp2_with fail
      refine (HSt.out).mono ?_
      rintro e w7 ⟨rfl, k7⟩
      have B7 := Lib.hid (bel_to B5.out k7 B5.out.size)
      clear k7 HSt
      go_wp2_with fail
      go_ret
      exact ⟨rfl, B7.out⟩

theorem RateSlow_walk (v : Option Addr) (len c : Nat) (l : List Ac) (b off : Nat) (W : World) (h : l.length = len ∧ InActs W v l b off) :
    Calls Try.prog 3 #[.slice v len c] W fun e w' => e = .returned (.bool true) ∧ Below W.heap.size W w' := by
  obtain ⟨rfl, h⟩ := h
  cases hf : fitsB l with
  | false => exact slow_long v c b off l W h hf
  | true => exact slow_few v c b off l W h hf
end Go.Proofs.Ytmkgbpfifdiniaa
