/- Contracts of package ring over this translation, for rows of goit/jitter.parcel: Push. -/
import Derived.Test.YtlhgiboajnhahaaJuc
set_option linter.unusedVariables false
namespace Go.Proofs.Ytlhgiboajnhahaa
open Go.RowKit

set_option maxHeartbeats 2000000 in
theorem jp_Push (b g : Nat) (x : Jp) (s : QS Jp) (w : World) (h : JpAt w b g s) (ho : s.ok) (hk : s.cnt ≤ 1000) :
    Calls Try.prog 20 #[.pointer (some ⟨b, 0, none⟩), x.agg] w (JpPost w b g (.returned (.tuple #[])) (s.push x)) := by
  unfold Jp.agg
  have HO := Lib.hid ho
  have HH := Lib.hid (h.alloc (.cells #[.int .u64 (x.p.n : Int), .int .u64 (x.p.size : Int), .int .u64 (x.p.sent : Int), .int .u64 (x.p.first : Int), .int .u64 (x.p.deliv : Int), .int .u64 (x.p.at_ : Int), .bool x.p.lim, .int .u64 (x.due : Int)] 53))
  have HX := Lib.hid (show Blk (w.alloc (.cells #[.int .u64 (x.p.n : Int), .int .u64 (x.p.size : Int), .int .u64 (x.p.sent : Int), .int .u64 (x.p.first : Int), .int .u64 (x.p.deliv : Int), .int .u64 (x.p.at_ : Int), .bool x.p.lim, .int .u64 (x.due : Int)] 53)) w.heap.size 53 (Itm.cs x).toArray from Blk.new _ _ _)
  have HM : Hid (Mv w (w.alloc (.cells #[.int .u64 (x.p.n : Int), .int .u64 (x.p.size : Int), .int .u64 (x.p.sent : Int), .int .u64 (x.p.first : Int), .int .u64 (x.p.deliv : Int), .int .u64 (x.p.at_ : Int), .bool x.p.lim, .int .u64 (x.due : Int)] 53)) b g) := Lib.hid ((Mv.refl w b g).alloc _)
  have HS1 : Hid ((w.alloc (.cells #[.int .u64 (x.p.n : Int), .int .u64 (x.p.size : Int), .int .u64 (x.p.sent : Int), .int .u64 (x.p.first : Int), .int .u64 (x.p.deliv : Int), .int .u64 (x.p.at_ : Int), .bool x.p.lim, .int .u64 (x.due : Int)] 53)).heap.size = w.heap.size + 1) := Lib.hid (by simp)
  have b0 := HH.out.head.cell (i := 0) (v := .slice (some ⟨g, 0, none⟩) s.pl.length s.pl.length) rfl
  have b2 := HH.out.head.cell (i := 2) (v := .int .i64 (s.cnt : Int)) rfl
  have hm := ho.m
  have hc := ho.c
  have HZb : Hid (w.heap.size ≠ b) := Lib.hid (Ne.symm h.head.old)
  have HZg : Hid (w.heap.size ≠ g) := Lib.hid (Ne.symm h.body.old)
  clear h ho
  have hu := Try.underlying53
  have hl : (Itm.cs x).length = 8 := Itm.len _
  have h1 : ∀ v ∈ Itm.cs x, v.oneCell' = true := Itm.one _
  have hi := jp_inf x
  generalize hxc : Itm.cs x = xc at *
  have HC := Lib.hid hxc
  clear hxc
  by_cases a : s.cnt = s.pl.length
  · by_cases z0 : 1 ≤ s.cnt
    · have HE : Hid (s.wide = s.move (2 * s.cnt)) := Lib.hid (by unfold QS.wide; rw [if_pos a]; congr 1; omega)
      have z1 : (1 : Int) < 2 * (s.cnt : Int) := by omega
      have d1 : (s.cnt == s.pl.length) = true := by simpa using a
      have HA := Lib.hid a
      clear a
      go_enter Try.func20, Try.ntmps20
      go_wp2_with fail
      generalize (w.alloc (.cells #[.int .u64 (x.p.n : Int), .int .u64 (x.p.size : Int), .int .u64 (x.p.sent : Int), .int .u64 (x.p.first : Int), .int .u64 (x.p.deliv : Int), .int .u64 (x.p.at_ : Int), .bool x.p.lim, .int .u64 (x.due : Int)] 53)) = w0 at *
      go_quiet (fail)
      have HD : Hid (Drawn w0 (w0.drewN nq)) := Lib.hid ⟨nq, rfl⟩
      have q2 := (HD.out.cell _).trans b2
      generalize w0.drewN nq = w1 at *
      go_wp2_with fail
      have HC : Hid (Calls Try.prog 28 #[.pointer (some ⟨b, 0, none⟩), .int .i64 (2 * (s.cnt : Int))] w1 (JpPost w1 b g (.returned (.tuple #[])) (s.move (2 * s.cnt)))) := Lib.hid (by have := jp_move b g (2 * s.cnt) s w1 (JpAt.drawn HD.out HH.out) HO.out (by omega) (by omega); simpa using this)
      refine (HC.out).mono ?_
      rintro e w2 ⟨rfl, hat, hmv⟩
      obtain ⟨g2, hg2, hgq⟩ := hat
      rw [← HE.out] at hg2
      have HG := Lib.hid hg2
      have HX2 := Lib.hid ((HD.out.blk HX.out).mv hmv HZb.out HZg.out)
      have HM2 := Lib.hid ((HM.out.drawn HD.out).trans hmv (.inl rfl))
      have HQ : Hid (g2 = g ∨ w.heap.size < g2) := Lib.hid (by have := HS1.out; rw [HD.out.heap] at hgq; omega)
      have HZ : Hid (w.heap.size ≠ g2) := Lib.hid (by have := HQ.out; have := HZg.out; omega)
      clear hg2 hgq hmv q2 HE b0 b2 HD HC z1 HX
      have HX := HX2
      clear HX2
      replace HQ : Hid (g2 = g ∨ w.heap.size ≤ g2) := Lib.hid (by have := HQ.out; omega)
      have HO2 := Lib.hid (QS.wide_ok HO.out hk)
      have HC2 := Lib.hid (QS.wide_cnt s)
      have HR2 := Lib.hid (QS.wide_room HO.out)
      have HPU : Hid (s.push x = ⟨s.wide.pl.set (s.wide.pos s.cnt) x, s.wide.first, s.cnt + 1⟩) := Lib.hid rfl
      generalize s.wide = t at *
      generalize s.push x = u at *
      obtain ⟨t1, t2, t3⟩ := t
      obtain rfl : t3 = s.cnt := HC2.out
      have hr : s.cnt < t1.length := HR2.out
      have hpl := QS.pos_lt (s := ⟨t1, t2, s.cnt⟩) (by show 0 < t1.length; omega) s.cnt
      have a0 := HG.out.head.drew.cell (i := 0) (v := .slice (some ⟨g2, 0, none⟩) t1.length t1.length) rfl
      have a2 := HG.out.head.drew.cell (i := 2) (v := .int .i64 (s.cnt : Int)) rfl
      have r0 := HX.out.drew.range0
      have t0 : w2.drew.there g2 (QS.pos ⟨t1, t2, s.cnt⟩ s.cnt * 8) 8 := HG.out.body.drew.therei (k := 8) rfl hpl
      have HN2 := Lib.hid HG.out.ne
      have HP := Lib.hid (fun (w : World) h => jp_place b g2 s.cnt ⟨t1, t2, s.cnt⟩ w h HO2.out (by show 0 < t1.length; omega) (by omega))
      have i3 : (0 : Int) ≤ ((QS.pos ⟨t1, t2, s.cnt⟩ s.cnt : Nat) : Int) := by omega
      have i4 : ((QS.pos ⟨t1, t2, s.cnt⟩ s.cnt : Nat) : Int) < (t1.length : Int) := by exact_mod_cast hpl
      have i5 : QS.pos ⟨t1, t2, s.cnt⟩ s.cnt < t1.length := hpl
      clear hpl
      generalize QS.pos ⟨t1, t2, s.cnt⟩ s.cnt = p at *
      go_wp2_with fail
      refine wp_region_held_drew (S := (fun w' => w'.cell? ⟨b, 0, none⟩ = some (.slice (some ⟨g2, 0, none⟩) t1.length t1.length) ∧ w'.cell? ⟨b, 2, none⟩ = some (.int .i64 (s.cnt : Int)) ∧ w'.rangeAt w.heap.size 0 xc ∧ w'.there g2 (p * 8) 8)) (by kernel_rfl) ⟨a0, a2, r0, t0⟩ (fun hHeld => ?_)
      simp only [List.size_toArray, List.length_cons, List.length_nil, Nat.reduceAdd, Array.replicate_succ, Array.replicate_zero, List.push_toArray, List.nil_append, List.cons_append]
      refine' wpAnyH_take (i := 10) (oi := ⟨some 34, _, _, _, _, _⟩) (v := _) rfl (by kernel_rfl) (by kernel_rfl) (by kernel_rfl) (fun _ _ _ h => h) (yieldsIf_load_mid (by rfl) _ _ rfl _ _ rfl _ _ ?hS29 hu rfl hi) (by assumption) ?r29
      case hS29 => intro w hSw; exact hSw.2.2.1
      simp only [Act.put, List.setIfInBounds_toArray, List.set_cons_zero, List.set_cons_succ]
      refine wpAnyH_take (i := 0) (oi := ⟨some 24, _, _, _, _, _⟩) (v := ?v30) rfl (by kernel_rfl) (by kernel_rfl) (by kernel_rfl) (fun _ _ _ h => h) (Or.inl ⟨by rfl, ?y30⟩) (by assumption) ?r30
      case y30 => intro w hSw; clear hSw; go_simp; (try with_reducible rfl)
      simp only [Act.put, List.setIfInBounds_toArray, List.set_cons_zero, List.set_cons_succ]
      refine wpAnyH_take (i := 1) (oi := ⟨some 25, _, _, _, _, _⟩) (v := ?v31) rfl (by kernel_rfl) (by kernel_rfl) (by kernel_rfl) (fun _ _ _ h => h) (Or.inl ⟨by rfl, ?y31⟩) (by assumption) ?r31
      case y31 => intro w hSw; clear hSw; go_simp; (try with_reducible rfl)
      simp only [Act.put, List.setIfInBounds_toArray, List.set_cons_zero, List.set_cons_succ]
      refine wpAnyH_take (i := 2) (oi := ⟨some 26, _, _, _, _, _⟩) (v := ?v32) rfl (by kernel_rfl) (by kernel_rfl) (by kernel_rfl) (fun _ _ _ h => h) (Or.inl ⟨by rfl, ?y32⟩) (by assumption) ?r32
      case y32 => intro w hSw; clear hSw; go_simp; (try with_reducible rfl)
      simp only [Act.put, List.setIfInBounds_toArray, List.set_cons_zero, List.set_cons_succ]
      refine wpAnyH_take (i := 3) (oi := ⟨some 27, _, _, _, _, _⟩) (v := ?v33) rfl (by kernel_rfl) (by kernel_rfl) (by kernel_rfl) (fun _ _ _ h => h) (Or.inl ⟨by rfl, ?y33⟩) (by assumption) ?r33
      case y33 => intro w hSw; obtain ⟨s0, s1, s2, s3⟩ := hSw; go_simp; (try with_reducible rfl)
      simp only [Act.put, List.setIfInBounds_toArray, List.set_cons_zero, List.set_cons_succ]
      refine wpAnyH_take (i := 4) (oi := ⟨some 28, _, _, _, _, _⟩) (v := ?v34) rfl (by kernel_rfl) (by kernel_rfl) (by kernel_rfl) (fun _ _ _ h => h) (Or.inl ⟨by rfl, ?y34⟩) (by assumption) ?r34
      case y34 => intro w hSw; clear hSw; go_simp; (try with_reducible rfl)
      simp only [Act.put, List.setIfInBounds_toArray, List.set_cons_zero, List.set_cons_succ]
      refine wpAnyH_take (i := 5) (oi := ⟨some 29, _, _, _, _, _⟩) (v := ?v35) rfl (by kernel_rfl) (by kernel_rfl) (by kernel_rfl) (fun _ _ _ h => h) (Or.inl ⟨by rfl, ?y35⟩) (by assumption) ?r35
      case y35 => intro w hSw; clear hSw; go_simp; (try with_reducible rfl)
      simp only [Act.put, List.setIfInBounds_toArray, List.set_cons_zero, List.set_cons_succ]
      refine wpAnyH_take (i := 6) (oi := ⟨some 30, _, _, _, _, _⟩) (v := ?v36) rfl (by kernel_rfl) (by kernel_rfl) (by kernel_rfl) (fun _ _ _ h => h) (Or.inl ⟨by rfl, ?y36⟩) (by assumption) ?r36
      case y36 => intro w hSw; clear hSw; go_simp; (try with_reducible rfl)
      simp only [Act.put, List.setIfInBounds_toArray, List.set_cons_zero, List.set_cons_succ]
      refine wpAnyH_take (i := 7) (oi := ⟨some 31, _, _, _, _, _⟩) (v := ?v37) rfl (by kernel_rfl) (by kernel_rfl) (by kernel_rfl) (fun _ _ _ h => h) (Or.inl ⟨by rfl, ?y37⟩) (by assumption) ?r37
      case y37 => intro w hSw; clear hSw; go_simp; (try with_reducible rfl)
      simp only [Act.put, List.setIfInBounds_toArray, List.set_cons_zero, List.set_cons_succ]
      refine wpAnyH_take (i := 8) (oi := ⟨some 32, _, _, _, _, _⟩) (v := ?v38) rfl (by kernel_rfl) (by kernel_rfl) (by kernel_rfl) (fun _ _ _ h => h) (Or.inl ⟨by rfl, ?y38⟩) (by assumption) ?r38
      case y38 => intro w hSw; obtain ⟨s0, s1, s2, s3⟩ := hSw; go_simp; (try with_reducible rfl)
      simp only [Act.put, List.setIfInBounds_toArray, List.set_cons_zero, List.set_cons_succ]
      refine wpAnyH_ready (rs := [9]) (by kernel_rfl) (by simp) ?_
      refine AllReadyH.cons (o := ⟨some 33, _, _, _, _, _⟩) rfl (fun K hK => ?_) AllReadyH.nil
      go_simp
      refine (HP.out _ (JpAt.drawn (Drawn.drew w2) HG.out)).mono ?_
      rintro e w' ⟨rfl, hd⟩
      have HD := Lib.hid hd
      clear hd
      have b0 := (HD.out.cell _).trans a0
      have b2 := (HD.out.cell _).trans a2
      have r1 := dr_range HD.out r0
      have t1_ := dr_there HD.out t0
      go_wp2_with fail
      refine hK.out _ _ ⟨b0, b2, r1, t1_⟩ (fun hHeld => ?_)
      clear hK
      try simp only [List.setIfInBounds_toArray, List.set_cons_zero, List.set_cons_succ]
      refine wpAnyH_take (i := 11) (oi := ⟨some 35, _, _, _, _, _⟩) (v := ?v39) rfl (by kernel_rfl) (by kernel_rfl) (by kernel_rfl) (fun _ _ _ h => h) (Or.inl ⟨by rfl, ?y39⟩) (by assumption) ?r39
      case y39 => intro w hSw; clear hSw; go_simp; (try with_reducible rfl)
      simp only [Act.put, List.setIfInBounds_toArray, List.set_cons_zero, List.set_cons_succ]
      refine wpAnyH_ready (rs := [12]) (by kernel_rfl) (by simp) ?_
      refine AllReadyH.cons (o := ⟨none, _, _, _, _, _⟩) rfl (fun K hK => ?_) AllReadyH.nil
      rw [if_pos (by rfl)]
      refine wp_store_mid _ _ _ rfl _ _ (List.toArray _) rfl rfl (by have e := hl; rw [← List.size_toArray] at e; rw [e]; exact t1_) (by rw [List.size_toArray]; exact hi) (all_oneCell_toArray h1) ?_
      dsimp only
      refine hK.out _ _ ⟨cell_sets b0 HN2.out, cell_sets b2 HN2.out, World.rangeAt_setCells_apart r1 _ _ _ (.inl HZ.out), World.there_setCells t1_ _ _ _⟩ (fun hHeld => ?_)
      clear hK
      try simp only [List.setIfInBounds_toArray, List.set_cons_zero, List.set_cons_succ]
      refine wpAnyH_done (by kernel_rfl) ?_ _
      have hD : Drawn w2 w' := (Drawn.drew w2).more HD.out
      have F1 : Hid (Blk (w'.setCells g2 (p * 8) xc) g2 53 (icells (t1.set p x))) := Lib.hid (by
        have := Blk.sets xc (p * Itm.k Jp) w' _ (hD.blk HG.out.body)
        have e := putA_item t1 p x i5
        rw [HC.out] at e
        rw [e] at this
        exact this)
      have F2 : Hid (Blk (w'.setCells g2 (p * 8) xc) b 67 (jpCells ⟨t1, t2, s.cnt⟩ g2)) := Lib.hid (Blk.sets_other HN2.out xc (p * 8) w' (hD.blk HG.out.head))
      have F3 : Hid (Mv w (w'.setCells g2 (p * 8) xc) b g) := Lib.hid (Mv.sets (by have := HQ.out; omega) xc (p * 8) w' (HM2.out.drawn hD))
      generalize (w'.setCells g2 (p * 8) xc) = w3 at *
      clear a0 a2 b0 b2 r0 r1 t0 t1_ hHeld hD HD HP i3 i4 i5
      have m2 := F2.out.cell (i := 2) (v := .int .i64 (s.cnt : Int)) rfl
      have n2 := F2.out.free 2
      go_wp2_with fail
      go_end0
      refine ⟨rfl, ⟨g2, ⟨?_, ?_⟩, HQ.out⟩, F3.out.set (.inl rfl) _ _⟩
      · have := F2.out.set 2 (.int .i64 ((s.cnt : Int) + 1))
        rw [HPU.out]
        simpa [jpCells] using this
      · rw [HPU.out]
        exact F1.out.set_other _ _ (Ne.symm HN2.out)
    · have HE : Hid (s.wide = s.move 1) := Lib.hid (by unfold QS.wide; rw [if_pos a]; congr 1; omega)
      have z1 : 2 * (s.cnt : Int) ≤ 1 := by omega
      have d1 : (s.cnt == s.pl.length) = true := by simpa using a
      have HA := Lib.hid a
      clear a
      go_enter Try.func20, Try.ntmps20
      go_wp2_with fail
      generalize (w.alloc (.cells #[.int .u64 (x.p.n : Int), .int .u64 (x.p.size : Int), .int .u64 (x.p.sent : Int), .int .u64 (x.p.first : Int), .int .u64 (x.p.deliv : Int), .int .u64 (x.p.at_ : Int), .bool x.p.lim, .int .u64 (x.due : Int)] 53)) = w0 at *
      go_quiet (fail)
      have HD : Hid (Drawn w0 (w0.drewN nq)) := Lib.hid ⟨nq, rfl⟩
      have q2 := (HD.out.cell _).trans b2
      generalize w0.drewN nq = w1 at *
      go_wp2_with fail
      have HC : Hid (Calls Try.prog 28 #[.pointer (some ⟨b, 0, none⟩), .int .i64 1] w1 (JpPost w1 b g (.returned (.tuple #[])) (s.move 1))) := Lib.hid (by have := jp_move b g 1 s w1 (JpAt.drawn HD.out HH.out) HO.out (by omega) (by omega); simpa using this)
      refine (HC.out).mono ?_
      rintro e w2 ⟨rfl, hat, hmv⟩
      obtain ⟨g2, hg2, hgq⟩ := hat
      rw [← HE.out] at hg2
      have HG := Lib.hid hg2
      have HX2 := Lib.hid ((HD.out.blk HX.out).mv hmv HZb.out HZg.out)
      have HM2 := Lib.hid ((HM.out.drawn HD.out).trans hmv (.inl rfl))
      have HQ : Hid (g2 = g ∨ w.heap.size < g2) := Lib.hid (by have := HS1.out; rw [HD.out.heap] at hgq; omega)
      have HZ : Hid (w.heap.size ≠ g2) := Lib.hid (by have := HQ.out; have := HZg.out; omega)
      clear hg2 hgq hmv q2 HE b0 b2 HD HC z1 HX
      have HX := HX2
      clear HX2
      replace HQ : Hid (g2 = g ∨ w.heap.size ≤ g2) := Lib.hid (by have := HQ.out; omega)
      have HO2 := Lib.hid (QS.wide_ok HO.out hk)
      have HC2 := Lib.hid (QS.wide_cnt s)
      have HR2 := Lib.hid (QS.wide_room HO.out)
      have HPU : Hid (s.push x = ⟨s.wide.pl.set (s.wide.pos s.cnt) x, s.wide.first, s.cnt + 1⟩) := Lib.hid rfl
      generalize s.wide = t at *
      generalize s.push x = u at *
      obtain ⟨t1, t2, t3⟩ := t
      obtain rfl : t3 = s.cnt := HC2.out
      have hr : s.cnt < t1.length := HR2.out
      have hpl := QS.pos_lt (s := ⟨t1, t2, s.cnt⟩) (by show 0 < t1.length; omega) s.cnt
      have a0 := HG.out.head.drew.cell (i := 0) (v := .slice (some ⟨g2, 0, none⟩) t1.length t1.length) rfl
      have a2 := HG.out.head.drew.cell (i := 2) (v := .int .i64 (s.cnt : Int)) rfl
      have r0 := HX.out.drew.range0
      have t0 : w2.drew.there g2 (QS.pos ⟨t1, t2, s.cnt⟩ s.cnt * 8) 8 := HG.out.body.drew.therei (k := 8) rfl hpl
      have HN2 := Lib.hid HG.out.ne
      have HP := Lib.hid (fun (w : World) h => jp_place b g2 s.cnt ⟨t1, t2, s.cnt⟩ w h HO2.out (by show 0 < t1.length; omega) (by omega))
      have i3 : (0 : Int) ≤ ((QS.pos ⟨t1, t2, s.cnt⟩ s.cnt : Nat) : Int) := by omega
      have i4 : ((QS.pos ⟨t1, t2, s.cnt⟩ s.cnt : Nat) : Int) < (t1.length : Int) := by exact_mod_cast hpl
      have i5 : QS.pos ⟨t1, t2, s.cnt⟩ s.cnt < t1.length := hpl
      clear hpl
      generalize QS.pos ⟨t1, t2, s.cnt⟩ s.cnt = p at *
      go_wp2_with fail
      refine wp_region_held_drew (S := (fun w' => w'.cell? ⟨b, 0, none⟩ = some (.slice (some ⟨g2, 0, none⟩) t1.length t1.length) ∧ w'.cell? ⟨b, 2, none⟩ = some (.int .i64 (s.cnt : Int)) ∧ w'.rangeAt w.heap.size 0 xc ∧ w'.there g2 (p * 8) 8)) (by kernel_rfl) ⟨a0, a2, r0, t0⟩ (fun hHeld => ?_)
      simp only [List.size_toArray, List.length_cons, List.length_nil, Nat.reduceAdd, Array.replicate_succ, Array.replicate_zero, List.push_toArray, List.nil_append, List.cons_append]
      refine' wpAnyH_take (i := 10) (oi := ⟨some 34, _, _, _, _, _⟩) (v := _) rfl (by kernel_rfl) (by kernel_rfl) (by kernel_rfl) (fun _ _ _ h => h) (yieldsIf_load_mid (by rfl) _ _ rfl _ _ rfl _ _ ?hS40 hu rfl hi) (by assumption) ?r40
      case hS40 => intro w hSw; exact hSw.2.2.1
      simp only [Act.put, List.setIfInBounds_toArray, List.set_cons_zero, List.set_cons_succ]
      refine wpAnyH_take (i := 0) (oi := ⟨some 24, _, _, _, _, _⟩) (v := ?v41) rfl (by kernel_rfl) (by kernel_rfl) (by kernel_rfl) (fun _ _ _ h => h) (Or.inl ⟨by rfl, ?y41⟩) (by assumption) ?r41
      case y41 => intro w hSw; clear hSw; go_simp; (try with_reducible rfl)
      simp only [Act.put, List.setIfInBounds_toArray, List.set_cons_zero, List.set_cons_succ]
      refine wpAnyH_take (i := 1) (oi := ⟨some 25, _, _, _, _, _⟩) (v := ?v42) rfl (by kernel_rfl) (by kernel_rfl) (by kernel_rfl) (fun _ _ _ h => h) (Or.inl ⟨by rfl, ?y42⟩) (by assumption) ?r42
      case y42 => intro w hSw; clear hSw; go_simp; (try with_reducible rfl)
      simp only [Act.put, List.setIfInBounds_toArray, List.set_cons_zero, List.set_cons_succ]
      refine wpAnyH_take (i := 2) (oi := ⟨some 26, _, _, _, _, _⟩) (v := ?v43) rfl (by kernel_rfl) (by kernel_rfl) (by kernel_rfl) (fun _ _ _ h => h) (Or.inl ⟨by rfl, ?y43⟩) (by assumption) ?r43
      case y43 => intro w hSw; clear hSw; go_simp; (try with_reducible rfl)
      simp only [Act.put, List.setIfInBounds_toArray, List.set_cons_zero, List.set_cons_succ]
      refine wpAnyH_take (i := 3) (oi := ⟨some 27, _, _, _, _, _⟩) (v := ?v44) rfl (by kernel_rfl) (by kernel_rfl) (by kernel_rfl) (fun _ _ _ h => h) (Or.inl ⟨by rfl, ?y44⟩) (by assumption) ?r44
      case y44 => intro w hSw; obtain ⟨s0, s1, s2, s3⟩ := hSw; go_simp; (try with_reducible rfl)
      simp only [Act.put, List.setIfInBounds_toArray, List.set_cons_zero, List.set_cons_succ]
      refine wpAnyH_take (i := 4) (oi := ⟨some 28, _, _, _, _, _⟩) (v := ?v45) rfl (by kernel_rfl) (by kernel_rfl) (by kernel_rfl) (fun _ _ _ h => h) (Or.inl ⟨by rfl, ?y45⟩) (by assumption) ?r45
      case y45 => intro w hSw; clear hSw; go_simp; (try with_reducible rfl)
      simp only [Act.put, List.setIfInBounds_toArray, List.set_cons_zero, List.set_cons_succ]
      refine wpAnyH_take (i := 5) (oi := ⟨some 29, _, _, _, _, _⟩) (v := ?v46) rfl (by kernel_rfl) (by kernel_rfl) (by kernel_rfl) (fun _ _ _ h => h) (Or.inl ⟨by rfl, ?y46⟩) (by assumption) ?r46
      case y46 => intro w hSw; clear hSw; go_simp; (try with_reducible rfl)
      simp only [Act.put, List.setIfInBounds_toArray, List.set_cons_zero, List.set_cons_succ]
      refine wpAnyH_take (i := 6) (oi := ⟨some 30, _, _, _, _, _⟩) (v := ?v47) rfl (by kernel_rfl) (by kernel_rfl) (by kernel_rfl) (fun _ _ _ h => h) (Or.inl ⟨by rfl, ?y47⟩) (by assumption) ?r47
      case y47 => intro w hSw; clear hSw; go_simp; (try with_reducible rfl)
      simp only [Act.put, List.setIfInBounds_toArray, List.set_cons_zero, List.set_cons_succ]
      refine wpAnyH_take (i := 7) (oi := ⟨some 31, _, _, _, _, _⟩) (v := ?v48) rfl (by kernel_rfl) (by kernel_rfl) (by kernel_rfl) (fun _ _ _ h => h) (Or.inl ⟨by rfl, ?y48⟩) (by assumption) ?r48
      case y48 => intro w hSw; clear hSw; go_simp; (try with_reducible rfl)
      simp only [Act.put, List.setIfInBounds_toArray, List.set_cons_zero, List.set_cons_succ]
      refine wpAnyH_take (i := 8) (oi := ⟨some 32, _, _, _, _, _⟩) (v := ?v49) rfl (by kernel_rfl) (by kernel_rfl) (by kernel_rfl) (fun _ _ _ h => h) (Or.inl ⟨by rfl, ?y49⟩) (by assumption) ?r49
      case y49 => intro w hSw; obtain ⟨s0, s1, s2, s3⟩ := hSw; go_simp; (try with_reducible rfl)
      simp only [Act.put, List.setIfInBounds_toArray, List.set_cons_zero, List.set_cons_succ]
      refine wpAnyH_ready (rs := [9]) (by kernel_rfl) (by simp) ?_
      refine AllReadyH.cons (o := ⟨some 33, _, _, _, _, _⟩) rfl (fun K hK => ?_) AllReadyH.nil
      go_simp
      refine (HP.out _ (JpAt.drawn (Drawn.drew w2) HG.out)).mono ?_
      rintro e w' ⟨rfl, hd⟩
      have HD := Lib.hid hd
      clear hd
      have b0 := (HD.out.cell _).trans a0
      have b2 := (HD.out.cell _).trans a2
      have r1 := dr_range HD.out r0
      have t1_ := dr_there HD.out t0
      go_wp2_with fail
      refine hK.out _ _ ⟨b0, b2, r1, t1_⟩ (fun hHeld => ?_)
      clear hK
      try simp only [List.setIfInBounds_toArray, List.set_cons_zero, List.set_cons_succ]
      refine wpAnyH_take (i := 11) (oi := ⟨some 35, _, _, _, _, _⟩) (v := ?v50) rfl (by kernel_rfl) (by kernel_rfl) (by kernel_rfl) (fun _ _ _ h => h) (Or.inl ⟨by rfl, ?y50⟩) (by assumption) ?r50
      case y50 => intro w hSw; clear hSw; go_simp; (try with_reducible rfl)
      simp only [Act.put, List.setIfInBounds_toArray, List.set_cons_zero, List.set_cons_succ]
      refine wpAnyH_ready (rs := [12]) (by kernel_rfl) (by simp) ?_
      refine AllReadyH.cons (o := ⟨none, _, _, _, _, _⟩) rfl (fun K hK => ?_) AllReadyH.nil
      rw [if_pos (by rfl)]
      refine wp_store_mid _ _ _ rfl _ _ (List.toArray _) rfl rfl (by have e := hl; rw [← List.size_toArray] at e; rw [e]; exact t1_) (by rw [List.size_toArray]; exact hi) (all_oneCell_toArray h1) ?_
      dsimp only
      refine hK.out _ _ ⟨cell_sets b0 HN2.out, cell_sets b2 HN2.out, World.rangeAt_setCells_apart r1 _ _ _ (.inl HZ.out), World.there_setCells t1_ _ _ _⟩ (fun hHeld => ?_)
      clear hK
      try simp only [List.setIfInBounds_toArray, List.set_cons_zero, List.set_cons_succ]
      refine wpAnyH_done (by kernel_rfl) ?_ _
      have hD : Drawn w2 w' := (Drawn.drew w2).more HD.out
      have F1 : Hid (Blk (w'.setCells g2 (p * 8) xc) g2 53 (icells (t1.set p x))) := Lib.hid (by
        have := Blk.sets xc (p * Itm.k Jp) w' _ (hD.blk HG.out.body)
        have e := putA_item t1 p x i5
        rw [HC.out] at e
        rw [e] at this
        exact this)
      have F2 : Hid (Blk (w'.setCells g2 (p * 8) xc) b 67 (jpCells ⟨t1, t2, s.cnt⟩ g2)) := Lib.hid (Blk.sets_other HN2.out xc (p * 8) w' (hD.blk HG.out.head))
      have F3 : Hid (Mv w (w'.setCells g2 (p * 8) xc) b g) := Lib.hid (Mv.sets (by have := HQ.out; omega) xc (p * 8) w' (HM2.out.drawn hD))
      generalize (w'.setCells g2 (p * 8) xc) = w3 at *
      clear a0 a2 b0 b2 r0 r1 t0 t1_ hHeld hD HD HP i3 i4 i5
      have m2 := F2.out.cell (i := 2) (v := .int .i64 (s.cnt : Int)) rfl
      have n2 := F2.out.free 2
      go_wp2_with fail
      go_end0
      refine ⟨rfl, ⟨g2, ⟨?_, ?_⟩, HQ.out⟩, F3.out.set (.inl rfl) _ _⟩
      · have := F2.out.set 2 (.int .i64 ((s.cnt : Int) + 1))
        rw [HPU.out]
        simpa [jpCells] using this
      · rw [HPU.out]
        exact F1.out.set_other _ _ (Ne.symm HN2.out)
  · have HE : Hid (s.wide = s) := Lib.hid (if_neg a)
    have d1 : (s.cnt == s.pl.length) = false := by simpa using a
    have HA := Lib.hid a
    clear a
    go_enter Try.func20, Try.ntmps20
    go_wp2_with fail
    generalize (w.alloc (.cells #[.int .u64 (x.p.n : Int), .int .u64 (x.p.size : Int), .int .u64 (x.p.sent : Int), .int .u64 (x.p.first : Int), .int .u64 (x.p.deliv : Int), .int .u64 (x.p.at_ : Int), .bool x.p.lim, .int .u64 (x.due : Int)] 53)) = w0 at *
    go_quiet (fail)
    have HD : Hid (Drawn w0 (w0.drewN nq)) := Lib.hid ⟨nq, rfl⟩
    have q2 := (HD.out.cell _).trans b2
    have HG : Hid (JpAt (w0.drewN nq) b g s.wide) := Lib.hid (by rw [HE.out]; exact JpAt.drawn HD.out HH.out)
    have HM2 := Lib.hid (HM.out.drawn HD.out)
    have HX2 := Lib.hid (HD.out.blk HX.out)
    obtain ⟨g2, hg2⟩ : ∃ g2, g2 = g := ⟨_, rfl⟩
    have HQ : Hid (g2 = g ∨ w.heap.size ≤ g2) := Lib.hid (.inl hg2)
    have HZ : Hid (w.heap.size ≠ g2) := Lib.hid (by have := HZg.out; omega)
    rw [← hg2] at HG
    generalize w0.drewN nq = w2 at *
    clear hg2 HE b0 b2 HD q2 HX
    have HX := HX2
    clear HX2
    have HO2 := Lib.hid (QS.wide_ok HO.out hk)
    have HC2 := Lib.hid (QS.wide_cnt s)
    have HR2 := Lib.hid (QS.wide_room HO.out)
    have HPU : Hid (s.push x = ⟨s.wide.pl.set (s.wide.pos s.cnt) x, s.wide.first, s.cnt + 1⟩) := Lib.hid rfl
    generalize s.wide = t at *
    generalize s.push x = u at *
    obtain ⟨t1, t2, t3⟩ := t
    obtain rfl : t3 = s.cnt := HC2.out
    have hr : s.cnt < t1.length := HR2.out
    have hpl := QS.pos_lt (s := ⟨t1, t2, s.cnt⟩) (by show 0 < t1.length; omega) s.cnt
    have a0 := HG.out.head.drew.cell (i := 0) (v := .slice (some ⟨g2, 0, none⟩) t1.length t1.length) rfl
    have a2 := HG.out.head.drew.cell (i := 2) (v := .int .i64 (s.cnt : Int)) rfl
    have r0 := HX.out.drew.range0
    have t0 : w2.drew.there g2 (QS.pos ⟨t1, t2, s.cnt⟩ s.cnt * 8) 8 := HG.out.body.drew.therei (k := 8) rfl hpl
    have HN2 := Lib.hid HG.out.ne
    have HP := Lib.hid (fun (w : World) h => jp_place b g2 s.cnt ⟨t1, t2, s.cnt⟩ w h HO2.out (by show 0 < t1.length; omega) (by omega))
    have i3 : (0 : Int) ≤ ((QS.pos ⟨t1, t2, s.cnt⟩ s.cnt : Nat) : Int) := by omega
    have i4 : ((QS.pos ⟨t1, t2, s.cnt⟩ s.cnt : Nat) : Int) < (t1.length : Int) := by exact_mod_cast hpl
    have i5 : QS.pos ⟨t1, t2, s.cnt⟩ s.cnt < t1.length := hpl
    clear hpl
    generalize QS.pos ⟨t1, t2, s.cnt⟩ s.cnt = p at *
    go_wp2_with fail
    refine wp_region_held_drew (S := (fun w' => w'.cell? ⟨b, 0, none⟩ = some (.slice (some ⟨g2, 0, none⟩) t1.length t1.length) ∧ w'.cell? ⟨b, 2, none⟩ = some (.int .i64 (s.cnt : Int)) ∧ w'.rangeAt w.heap.size 0 xc ∧ w'.there g2 (p * 8) 8)) (by kernel_rfl) ⟨a0, a2, r0, t0⟩ (fun hHeld => ?_)
    simp only [List.size_toArray, List.length_cons, List.length_nil, Nat.reduceAdd, Array.replicate_succ, Array.replicate_zero, List.push_toArray, List.nil_append, List.cons_append]
    refine' wpAnyH_take (i := 10) (oi := ⟨some 34, _, _, _, _, _⟩) (v := _) rfl (by kernel_rfl) (by kernel_rfl) (by kernel_rfl) (fun _ _ _ h => h) (yieldsIf_load_mid (by rfl) _ _ rfl _ _ rfl _ _ ?hS51 hu rfl hi) (by assumption) ?r51
    case hS51 => intro w hSw; exact hSw.2.2.1
    simp only [Act.put, List.setIfInBounds_toArray, List.set_cons_zero, List.set_cons_succ]
    refine wpAnyH_take (i := 0) (oi := ⟨some 24, _, _, _, _, _⟩) (v := ?v52) rfl (by kernel_rfl) (by kernel_rfl) (by kernel_rfl) (fun _ _ _ h => h) (Or.inl ⟨by rfl, ?y52⟩) (by assumption) ?r52
    case y52 => intro w hSw; clear hSw; go_simp; (try with_reducible rfl)
    simp only [Act.put, List.setIfInBounds_toArray, List.set_cons_zero, List.set_cons_succ]
    refine wpAnyH_take (i := 1) (oi := ⟨some 25, _, _, _, _, _⟩) (v := ?v53) rfl (by kernel_rfl) (by kernel_rfl) (by kernel_rfl) (fun _ _ _ h => h) (Or.inl ⟨by rfl, ?y53⟩) (by assumption) ?r53
    case y53 => intro w hSw; clear hSw; go_simp; (try with_reducible rfl)
    simp only [Act.put, List.setIfInBounds_toArray, List.set_cons_zero, List.set_cons_succ]
    refine wpAnyH_take (i := 2) (oi := ⟨some 26, _, _, _, _, _⟩) (v := ?v54) rfl (by kernel_rfl) (by kernel_rfl) (by kernel_rfl) (fun _ _ _ h => h) (Or.inl ⟨by rfl, ?y54⟩) (by assumption) ?r54
    case y54 => intro w hSw; clear hSw; go_simp; (try with_reducible rfl)
    simp only [Act.put, List.setIfInBounds_toArray, List.set_cons_zero, List.set_cons_succ]
    refine wpAnyH_take (i := 3) (oi := ⟨some 27, _, _, _, _, _⟩) (v := ?v55) rfl (by kernel_rfl) (by kernel_rfl) (by kernel_rfl) (fun _ _ _ h => h) (Or.inl ⟨by rfl, ?y55⟩) (by assumption) ?r55
    case y55 => intro w hSw; obtain ⟨s0, s1, s2, s3⟩ := hSw; go_simp; (try with_reducible rfl)
    simp only [Act.put, List.setIfInBounds_toArray, List.set_cons_zero, List.set_cons_succ]
    refine wpAnyH_take (i := 4) (oi := ⟨some 28, _, _, _, _, _⟩) (v := ?v56) rfl (by kernel_rfl) (by kernel_rfl) (by kernel_rfl) (fun _ _ _ h => h) (Or.inl ⟨by rfl, ?y56⟩) (by assumption) ?r56
    case y56 => intro w hSw; clear hSw; go_simp; (try with_reducible rfl)
    simp only [Act.put, List.setIfInBounds_toArray, List.set_cons_zero, List.set_cons_succ]
    refine wpAnyH_take (i := 5) (oi := ⟨some 29, _, _, _, _, _⟩) (v := ?v57) rfl (by kernel_rfl) (by kernel_rfl) (by kernel_rfl) (fun _ _ _ h => h) (Or.inl ⟨by rfl, ?y57⟩) (by assumption) ?r57
    case y57 => intro w hSw; clear hSw; go_simp; (try with_reducible rfl)
    simp only [Act.put, List.setIfInBounds_toArray, List.set_cons_zero, List.set_cons_succ]
    refine wpAnyH_take (i := 6) (oi := ⟨some 30, _, _, _, _, _⟩) (v := ?v58) rfl (by kernel_rfl) (by kernel_rfl) (by kernel_rfl) (fun _ _ _ h => h) (Or.inl ⟨by rfl, ?y58⟩) (by assumption) ?r58
    case y58 => intro w hSw; clear hSw; go_simp; (try with_reducible rfl)
    simp only [Act.put, List.setIfInBounds_toArray, List.set_cons_zero, List.set_cons_succ]
    refine wpAnyH_take (i := 7) (oi := ⟨some 31, _, _, _, _, _⟩) (v := ?v59) rfl (by kernel_rfl) (by kernel_rfl) (by kernel_rfl) (fun _ _ _ h => h) (Or.inl ⟨by rfl, ?y59⟩) (by assumption) ?r59
    case y59 => intro w hSw; clear hSw; go_simp; (try with_reducible rfl)
    simp only [Act.put, List.setIfInBounds_toArray, List.set_cons_zero, List.set_cons_succ]
    refine wpAnyH_take (i := 8) (oi := ⟨some 32, _, _, _, _, _⟩) (v := ?v60) rfl (by kernel_rfl) (by kernel_rfl) (by kernel_rfl) (fun _ _ _ h => h) (Or.inl ⟨by rfl, ?y60⟩) (by assumption) ?r60
    case y60 => intro w hSw; obtain ⟨s0, s1, s2, s3⟩ := hSw; go_simp; (try with_reducible rfl)
    simp only [Act.put, List.setIfInBounds_toArray, List.set_cons_zero, List.set_cons_succ]
    refine wpAnyH_ready (rs := [9]) (by kernel_rfl) (by simp) ?_
    refine AllReadyH.cons (o := ⟨some 33, _, _, _, _, _⟩) rfl (fun K hK => ?_) AllReadyH.nil
    go_simp
    refine (HP.out _ (JpAt.drawn (Drawn.drew w2) HG.out)).mono ?_
    rintro e w' ⟨rfl, hd⟩
    have HD := Lib.hid hd
    clear hd
    have b0 := (HD.out.cell _).trans a0
    have b2 := (HD.out.cell _).trans a2
    have r1 := dr_range HD.out r0
    have t1_ := dr_there HD.out t0
    go_wp2_with fail
    refine hK.out _ _ ⟨b0, b2, r1, t1_⟩ (fun hHeld => ?_)
    clear hK
    try simp only [List.setIfInBounds_toArray, List.set_cons_zero, List.set_cons_succ]
    refine wpAnyH_take (i := 11) (oi := ⟨some 35, _, _, _, _, _⟩) (v := ?v61) rfl (by kernel_rfl) (by kernel_rfl) (by kernel_rfl) (fun _ _ _ h => h) (Or.inl ⟨by rfl, ?y61⟩) (by assumption) ?r61
    case y61 => intro w hSw; clear hSw; go_simp; (try with_reducible rfl)
    simp only [Act.put, List.setIfInBounds_toArray, List.set_cons_zero, List.set_cons_succ]
    refine wpAnyH_ready (rs := [12]) (by kernel_rfl) (by simp) ?_
    refine AllReadyH.cons (o := ⟨none, _, _, _, _, _⟩) rfl (fun K hK => ?_) AllReadyH.nil
    rw [if_pos (by rfl)]
    refine wp_store_mid _ _ _ rfl _ _ (List.toArray _) rfl rfl (by have e := hl; rw [← List.size_toArray] at e; rw [e]; exact t1_) (by rw [List.size_toArray]; exact hi) (all_oneCell_toArray h1) ?_
    dsimp only
    refine hK.out _ _ ⟨cell_sets b0 HN2.out, cell_sets b2 HN2.out, World.rangeAt_setCells_apart r1 _ _ _ (.inl HZ.out), World.there_setCells t1_ _ _ _⟩ (fun hHeld => ?_)
    clear hK
    try simp only [List.setIfInBounds_toArray, List.set_cons_zero, List.set_cons_succ]
    refine wpAnyH_done (by kernel_rfl) ?_ _
    have hD : Drawn w2 w' := (Drawn.drew w2).more HD.out
    have F1 : Hid (Blk (w'.setCells g2 (p * 8) xc) g2 53 (icells (t1.set p x))) := Lib.hid (by
      have := Blk.sets xc (p * Itm.k Jp) w' _ (hD.blk HG.out.body)
      have e := putA_item t1 p x i5
      rw [HC.out] at e
      rw [e] at this
      exact this)
    have F2 : Hid (Blk (w'.setCells g2 (p * 8) xc) b 67 (jpCells ⟨t1, t2, s.cnt⟩ g2)) := Lib.hid (Blk.sets_other HN2.out xc (p * 8) w' (hD.blk HG.out.head))
    have F3 : Hid (Mv w (w'.setCells g2 (p * 8) xc) b g) := Lib.hid (Mv.sets (by have := HQ.out; omega) xc (p * 8) w' (HM2.out.drawn hD))
    generalize (w'.setCells g2 (p * 8) xc) = w3 at *
    clear a0 a2 b0 b2 r0 r1 t0 t1_ hHeld hD HD HP i3 i4 i5
    have m2 := F2.out.cell (i := 2) (v := .int .i64 (s.cnt : Int)) rfl
    have n2 := F2.out.free 2
    go_wp2_with fail
    go_end0
    refine ⟨rfl, ⟨g2, ⟨?_, ?_⟩, HQ.out⟩, F3.out.set (.inl rfl) _ _⟩
    · have := F2.out.set 2 (.int .i64 ((s.cnt : Int) + 1))
      rw [HPU.out]
      simpa [jpCells] using this
    · rw [HPU.out]
      exact F1.out.set_other _ _ (Ne.symm HN2.out)
end Go.Proofs.Ytlhgiboajnhahaa
