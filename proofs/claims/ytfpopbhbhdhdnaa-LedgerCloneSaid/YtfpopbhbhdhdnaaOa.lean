/- Out over this translation. -/
import Derived.Test.YtfpopbhbhdhdnaaLz
set_option linter.unusedVariables false
namespace Go.Proofs.Ytfpopbhbhdhdnaa
open Go.RowKit Go.Shelf
attribute [local go_sem] Oper.semAt_some

/-- What a loop that collects packets keeps. -/
structure PkI (ks : List Kp) (b rb g bl br fr to n0 B3 : Nat) (w : World) (pre : List Kp) (W : World) : Prop where
  rd : RdR ks b rb g bl br fr to pre W
  box : ∃ v, Blk W B3 29 #[v] ∧ W.ownsRow n0 41 7 v pre.length (pcs (pre.map Kp.p))
  bel : Below n0 w W
theorem pki_own (ks : List Kp) (b rb g bl br fr to n0 B3 B : Nat) (w : World) (hB : n0 ≤ B) (hn : n0 ≤ w.heap.size) : OwnFrom B (PkI ks b rb g bl br fr to n0 B3 w) :=
  fun pre X Y row hs hg hr => by
    have k := kept_grown hg (fun r e => (hr r e).2)
    obtain ⟨v, h1, h2⟩ := hs.box
    exact ⟨hs.rd.keepX fun x T cs _ hb => k x T cs hb, ⟨v, by unfold Blk; rw [k _ _ _ h1]; exact h1, own_same h2 fun g cs _ _ hb => k g _ cs hb⟩, hs.bel.grown hg (Nat.le_trans hn hs.bel.size) (fun k e => Nat.le_trans hB (hr k e).1)⟩
theorem opt_mem {o : Option Nat} {k : Nat} (h : k ∈ o.toList) : o = some k := by
  cases o with
  | none => cases h
  | some z => simp at h; rw [h]
/-- Types of blocks that the iterator does not read. -/
def offT (T : TypeId) : Prop := T ≠ 26 ∧ T ≠ 56 ∧ T ≠ 61 ∧ T ≠ 86 ∧ T ≠ 59 ∧ T ≠ 66
theorem RdR.off {ks : List Kp} {b rb g bl br fr to : Nat} {pre : List Kp} {W : World} (h : RdR ks b rb g bl br fr to pre W) {z : Nat} {T : TypeId} {cs : Array Value} (hz : Blk W z T cs) (hT : offT T) : ∀ y ∈ blocksR ks b rb g bl br, y ≠ z := by
  intro y hy
  obtain ⟨t1, t2, t3, t4, t5, t6⟩ := hT
  obtain ⟨c0, h0, _⟩ := h.rd.head
  obtain ⟨c1, hr1⟩ := h.rd.row.head
  obtain ⟨c2, hr2⟩ := h.rd.row.body
  simp only [blocksR, List.mem_cons, List.mem_map] at hy
  rcases hy with rfl | rfl | rfl | rfl | rfl | ⟨k, hk, rfl⟩
  · exact h.hl.ty hz (Ne.symm t1)
  · exact h.hr.ty hz (Ne.symm t2)
  · exact h0.ty hz (Ne.symm t3)
  · exact hr1.ty hz (Ne.symm t4)
  · exact hr2.ty hz (Ne.symm t5)
  · obtain ⟨gn, hg⟩ := h.rd.kept k hk
    exact hg.ty hz (Ne.symm t6)
/-- What a round that appends a packet leaves. -/
theorem pk_round {ks : List Kp} {b rb g bl br fr to n0 B3 : Nat} {w W w1 : World} {pre : List Kp} {x : Kp} {v : Value} {o : Obj} {g' cap n : Nat} (h : PkI ks b rb g bl br fr to n0 B3 w pre W) (hnw : n0 ≤ w.heap.size) (hB3 : n0 ≤ B3)
    (hb : Blk W B3 29 #[v]) (hv : W.ownsRow n0 41 7 v pre.length (pcs (pre.map Kp.p))) (hn : n = pre.length + 1)
    (hown : w1.ownsRow n0 41 7 (.slice (some ⟨g', 0, none⟩) n cap) (pre.length + 1) (pcs (pre.map Kp.p) ++ pcs [x.p])) (hg : ((W.alloc o).drew).grownBy w1 v.ownBlock) (B : Nat) :
    KeepsFrom B W (w1.setCell ⟨B3, 0, none⟩ (.slice (some ⟨g', 0, none⟩) n cap)) ∧ PkI ks b rb g bl br fr to n0 B3 w (pre ++ [x]) (w1.setCell ⟨B3, 0, none⟩ (.slice (some ⟨g', 0, none⟩) n cap)) := by
  subst hn
  have f1 : Fr W w1 v.ownBlock.toList := (((Fr.refl W v.ownBlock.toList).alloc o).drawn (Drawn.drew _)).trans (l' := v.ownBlock.toList) ⟨hg.os, hg.tape, hg.output, hg.size, fun k hk hl => hg.block k hk (fun e => hl (by rw [← e]; simp))⟩ (fun y hy => .inl hy)
  have vb : ∀ k ∈ v.ownBlock.toList, n0 ≤ k ∧ ∃ cs, Blk W k 41 cs := fun k hk => own_ge hv (opt_mem hk)
  have f2 : Fr W (w1.setCell ⟨B3, 0, none⟩ (.slice (some ⟨g', 0, none⟩) (pre.length + 1) cap)) (B3 :: v.ownBlock.toList) := (f1.mono (fun y hy => .inl (List.mem_cons_of_mem _ hy))).set (.inl List.mem_cons_self) 0 _
  have hb1 : Blk w1 B3 29 #[v] := ((hb.alloc o).drew).grown hg (fun e => by obtain ⟨_, cs, hc⟩ := vb B3 (by rw [← e]; simp); exact hc.ty hb (by decide) rfl)
  have rdb : ∀ y ∈ blocksR ks b rb g bl br, y ∉ (B3 :: v.ownBlock.toList) := fun y hy hm => by
    rcases List.mem_cons.1 hm with e | hm
    · exact h.rd.off hb (by unfold offT; decide) y hy e
    · obtain ⟨h1, cs, hc⟩ := vb y hm
      exact h.rd.off hc (by unfold offT; decide) y hy rfl
  refine ⟨kf_of_fr f2 (fun y hy => ?_), ⟨(h.rd.fr f2 rdb).more x, ⟨_, hb1.set 0 _, ?_⟩, bel_fr h.bel f2 (Nat.le_trans hnw h.bel.size) (fun y hy => ?_)⟩⟩
  · rcases List.mem_cons.1 hy with rfl | hy
    · exact .inr ⟨_, _, hb⟩
    · obtain ⟨_, cs, hc⟩ := vb y hy; exact .inr ⟨_, cs, hc⟩
  · have e : pcs ((pre ++ [x]).map Kp.p) = pcs (pre.map Kp.p) ++ pcs [x.p] := by unfold pcs; rw [List.map_append, List.flatMap_append]; rfl
    rw [List.length_append, e]
    refine own_same hown fun k cs e _ hk => Below.heap_setCell _ _ _ _ ?_
    show k ≠ B3
    exact hk.ty hb1 (by decide)
  · rcases List.mem_cons.1 hy with rfl | hy
    · exact hB3
    · exact (vb y hy).1

set_option maxRecDepth 100000 in
set_option maxHeartbeats 2000000 in
theorem out_any (b rb g : Nat) (s : LS) (w : World) (h : LAt w b rb g s) (hs : s.ok) :
    Calls Try.prog 11 #[.pointer (some ⟨b, 0, none⟩)] w fun e w' => ∃ v, e = .returned v ∧ PR w' v (outP s.ks) ∧ (∀ k, v.ownBlock = some k → w.heap.size ≤ k) ∧ Below w.heap.size w w' := by
  have l1 := h.head.cell (i := 1) (v := .int .i64 ((outK s.ks).length : Int)) rfl
  have ho := LS.out_le hs
  obtain ⟨i0, hi, hz0, hz1, hz2⟩ := info_parts pk_info
  have hmk : ∀ w : World, (Instr.makeSlice 29 (.int .i64 0) (.int .i64 ((outK s.ks).length : Int))).run Try.prog w = .ok (.slice (some ⟨w.heap.size, 0, none⟩) 0 (outK s.ks).length) (w.alloc (.cells (madeCells (Value.agg #[.int .u64 0, .int .u64 0, .int .u64 0, .int .u64 0, .int .u64 0, .int .u64 0, .bool false]).cells ((outK s.ks).length * 7)) 41)) := fun w => by
    have := run_make (P := Try.prog) w 29 41 i0 _ Try.underlying29 hi hz0 .i64 .i64 0 (outK s.ks).length (by omega) (by omega) (by rw [hz2]; omega) (by omega)
    rw [hz1] at this
    exact this
  have HMk := Lib.hid hmk
  have H1 := Lib.hid (Blk.new w 41 (madeCells (Value.agg #[.int .u64 0, .int .u64 0, .int .u64 0, .int .u64 0, .int .u64 0, .int .u64 0, .bool false]).cells ((outK s.ks).length * 7)))
  have HB1 : Hid (Below w.heap.size w (w.alloc (.cells (madeCells (Value.agg #[.int .u64 0, .int .u64 0, .int .u64 0, .int .u64 0, .int .u64 0, .int .u64 0, .bool false]).cells ((outK s.ks).length * 7)) 41))) := Lib.hid ((Below.refl _ _).alloc (Nat.le_refl _) _)
  have HSz : Hid ((madeCells (Value.agg #[.int .u64 0, .int .u64 0, .int .u64 0, .int .u64 0, .int .u64 0, .int .u64 0, .bool false]).cells ((outK s.ks).length * 7)).size = (outK s.ks).length * 7) := Lib.hid (size_madeCells _ _)
  have HI := Lib.hid hi
  have HZ0 := Lib.hid hz0
  have HZ1 := Lib.hid hz1
  have HZ2 := Lib.hid hz2
  have HH := Lib.hid h
  have HS := Lib.hid hs
  have HO : Hid (outP s.ks = (yK s.ks 0 18446744073709551615).map Kp.p) := Lib.hid (by rw [yK_all hs.pk]; rfl)
  have HYl : Hid ((yK s.ks 0 18446744073709551615).length = (outK s.ks).length) := Lib.hid (by rw [yK_all hs.pk])
  clear hmk hi hz0 hz1 hz2 h hs
  generalize (madeCells (Value.agg #[.int .u64 0, .int .u64 0, .int .u64 0, .int .u64 0, .int .u64 0, .int .u64 0, .bool false]).cells ((outK s.ks).length * 7)) = mc at *
  generalize (outK s.ks).length = o at *
  have hmk := HMk.out
  refine (callsIn_wide (n := 6)).1 ?_
  refine callsIn_of_wp_marks Try.func11 rfl trivial ?_ rfl
  simp only [Try.ntmps11, List.size_toArray, List.length_cons, List.length_nil, Nat.reduceAdd, Nat.reduceSub, Array.replicate_succ, Array.replicate_zero, List.push_toArray, List.append_toArray, List.nil_append, List.cons_append]
  gi_wp2_with (refine ⟨trivial, ?_⟩; gi_at_call 30; refine (callsIn_wide.2 (all_any b _)).mono ?_; rintro e w2 ⟨rfl, rfl⟩)
  have hs2 : ((w.alloc (.cells mc 41)).alloc (.cells #[.slice (some ⟨w.heap.size, 0, none⟩) 0 o] 29)).heap.size = w.heap.size + 2 := by simp
  have HB2 : Hid (Below w.heap.size w ((w.alloc (.cells mc 41)).alloc (.cells #[.slice (some ⟨w.heap.size, 0, none⟩) 0 o] 29))) := Lib.hid (HB1.out.alloc HB1.out.size _)
  have H2 : Hid (Blk ((w.alloc (.cells mc 41)).alloc (.cells #[.slice (some ⟨w.heap.size, 0, none⟩) 0 o] 29)) (w.heap.size + 1) 29 #[.slice (some ⟨w.heap.size, 0, none⟩) 0 o]) := Lib.hid (Blk.new1 _ _ _ _)
  have H1b := Lib.hid (H1.out.alloc (.cells #[.slice (some ⟨w.heap.size, 0, none⟩) 0 o] 29))
  clear H1 HB1 hmk HMk l1
  generalize ((w.alloc (.cells mc 41)).alloc (.cells #[.slice (some ⟨w.heap.size, 0, none⟩) 0 o] 29)) = W2 at *
  have hb1 := bw1_below W2 b 0 18446744073709551615
  have hI0 : PkI s.ks b rb g (w.heap.size + 2) (w.heap.size + 2 + 1) 0 18446744073709551615 w.heap.size (w.heap.size + 1) w [] (bw1 W2 b 0 18446744073709551615) := by
    refine ⟨?_, ⟨_, H2.out.keep hb1, ?_⟩, bel_to HB2.out hb1 HB2.out.size⟩
    · rw [← hs2]
      exact ((HH.out.keep HB2.out).keep hb1).rdr (bw1_l W2 b 0 18446744073709551615) (bw1_r W2 b 0 18446744073709551615)
    · exact ⟨rfl, .inr ⟨w.heap.size, o, mc, rfl, Nat.le_refl _, H1b.out.keep hb1, Nat.zero_le _, by unfold maxLen; omega, HSz.out, rfl⟩⟩
  have HSeq := Lib.hid (between_seq 5 b rb g (w.heap.size + 2) (w.heap.size + 2 + 1) 0 18446744073709551615 s.ks (by omega) HS.out.nodup HS.out.rise (Nat.le_trans (LS.len_le HS.out) HS.out.next))
  have hs3 : w.heap.size ≤ (bw1 W2 b 0 18446744073709551615).heap.size := by rw [bw1_size, hs2]; omega
  have hs4 : w.heap.size + 4 = (bw1 W2 b 0 18446744073709551615).heap.size := by rw [bw1_size, hs2]
  unfold bfn
  rw [hs2]
  clear HB2 H2 H1b hb1 hs2 HH
  generalize bw1 W2 b 0 18446744073709551615 = W3 at *
  generalize hn0 : w.heap.size = n0 at *
  have HN0 := Lib.hid hn0
  clear hn0
  have HI0 := Lib.hid hI0
  have HS3 := Lib.hid hs3
  have HS4 := Lib.hid hs4
  clear hI0 hs3 hs4
  refine wp_range1 (gf := 52) (lb := #[.pointer (some ⟨n0 + 2, 0, none⟩), .pointer (some ⟨n0 + 2 + 1, 0, none⟩)]) rfl (enters_of Try.func52 (by kernel_rfl) rfl) HSeq.out (fun _ => rfl)
    (PkI s.ks b rb g (n0 + 2) (n0 + 2 + 1) 0 18446744073709551615 n0 (n0 + 1) w) (fun _ _ _ => False) (pki_own _ _ _ _ _ _ _ _ _ _ _ _ HS3.out (by rw [HN0.out]; exact Nat.le_refl _)) (fun _ => ownFrom_pure _ _) (fun pre A h => h.rd) HI0.out
    (fun x => { tmps := #[.pointer (some ⟨b, 0, none⟩), undef, .slice none 0 0, .pointer (some ⟨n0 + 1, 0, none⟩), .pointer (some ⟨x.b, 0, none⟩), .pointer (some ⟨b, 0, none⟩), .bool false, .pointer (some ⟨b, 0, none⟩), .pointer (some ⟨b, 0, none⟩), .pointer (some ⟨b, 1, none⟩), .int .i64 (o : Int), .slice (some ⟨n0, 0, none⟩) 0 o, .pointer (some ⟨b, 0, none⟩), .func (.func 52) #[] #[.pointer (some ⟨n0 + 2, 0, none⟩), .pointer (some ⟨n0 + 2 + 1, 0, none⟩)], .pointer (some ⟨x.b, 0, none⟩), undef, undef, undef, undef, undef, undef, undef, undef], defers := [] })
    ?assign ?body ?done (fun D c pre W _ _ _ h _ => h.elim)
  case assign =>
    intro l x W K hK
    gi_wp2
    exact hK
  case body =>
    rintro l pre x W hI hok
    obtain ⟨v, hb, hv⟩ := hI.box
    have hxm : x ∈ s.ks := (List.mem_filter.1 (hok.mem (List.mem_append_right _ List.mem_cons_self))).1
    obtain ⟨gn, hxk⟩ := hI.rd.rd.kept x hxm
    have hpl : pre.length + 1 ≤ 500 := by
      have h1 := hok.length_le
      rw [List.length_append] at h1
      have h2 : (yK s.ks 0 18446744073709551615).length = o := HYl.out
      have h3 : [x].length = 1 := rfl
      omega
    obtain ⟨p0, c0, rfl⟩ : ∃ p c, v = .slice p pre.length c := by
      rcases hv.2 with ⟨e, k⟩ | ⟨g, cap, cur, e, _⟩
      · exact ⟨none, 0, by rw [e, k]⟩
      · exact ⟨_, cap, e⟩
    have HX := Lib.hid hxk
    have HIx := Lib.hid hI
    have Hb := Lib.hid hb
    have HV := Lib.hid hv
    have a0 : W.drew.cell? ⟨n0 + 1, 0, none⟩ = some (.slice p0 pre.length c0) := hb.drew.cell (i := 0) rfl
    have a1 : (W.alloc (.cells #[.int .u64 (x.p.n : Int), .int .u64 (x.p.size : Int), .int .u64 (x.p.sent : Int), .int .u64 (x.p.first : Int), .int .u64 (x.p.deliv : Int), .int .u64 (x.p.at_ : Int), .bool x.p.lim] 41)).cell? ⟨n0 + 1, 0, none⟩ = some (.slice p0 pre.length c0) := cell_al (w := W) a0 _
    have HA1 := Lib.hid a1
    have HFa : Hid ((W.alloc (.cells #[.int .u64 (x.p.n : Int), .int .u64 (x.p.size : Int), .int .u64 (x.p.sent : Int), .int .u64 (x.p.first : Int), .int .u64 (x.p.deliv : Int), .int .u64 (x.p.at_ : Int), .bool x.p.lim] 41)).frozen? ⟨n0 + 1, 0, none⟩ = false) := Lib.hid ((hb.alloc _).free 0)
    have HOw : Hid ((W.alloc (.cells #[.int .u64 (x.p.n : Int), .int .u64 (x.p.size : Int), .int .u64 (x.p.sent : Int), .int .u64 (x.p.first : Int), .int .u64 (x.p.deliv : Int), .int .u64 (x.p.at_ : Int), .bool x.p.lim] 41)).drew.ownsRow n0 41 7 (.slice p0 pre.length c0) pre.length (pcs (pre.map Kp.p))) := Lib.hid (own_same hv fun k cs _ _ hk => Below.heap_alloc _ _ _ hk.lt)
    have HNw : Hid (Blk (W.alloc (.cells #[.int .u64 (x.p.n : Int), .int .u64 (x.p.size : Int), .int .u64 (x.p.sent : Int), .int .u64 (x.p.first : Int), .int .u64 (x.p.deliv : Int), .int .u64 (x.p.at_ : Int), .bool x.p.lim] 41)).drew W.heap.size 41 #[.int .u64 (x.p.n : Int), .int .u64 (x.p.size : Int), .int .u64 (x.p.sent : Int), .int .u64 (x.p.first : Int), .int .u64 (x.p.deliv : Int), .int .u64 (x.p.at_ : Int), .bool x.p.lim]) := Lib.hid (Blk.new _ _ _).drew
    have HOne : Hid (∀ u ∈ ([.int .u64 (x.p.n : Int), .int .u64 (x.p.size : Int), .int .u64 (x.p.sent : Int), .int .u64 (x.p.first : Int), .int .u64 (x.p.deliv : Int), .int .u64 (x.p.at_ : Int), .bool x.p.lim] : List Value), u.oneCell' = true) := Lib.hid (Itm.one x.p)
    have HNa : Hid (some (n0 + 1) ≠ (Value.slice p0 pre.length c0).ownBlock) := Lib.hid (fun e => by obtain ⟨_, cs, hc⟩ := own_ge hv e.symm; exact hc.ty hb (by decide) rfl)
    have HNx : Hid (some x.b ≠ (Value.slice p0 pre.length c0).ownBlock) := Lib.hid (fun e => by obtain ⟨_, cs, hc⟩ := own_ge hv e.symm; exact hc.ty hxk (by decide) rfl)
    have hne : x.b ≠ n0 + 1 := hxk.ty hb (by decide)
    have HBs : Hid (n0 ≤ W.heap.size) := Lib.hid (by have := hI.bel.size; have := HN0.out; omega)
    clear hI hb hv hok hxm hxk HI0 HSeq HYl HO HSz
    gi_wp2
    refine region_held_round (S := fun w' => Blk w' x.b 66 (Kp.cells x.p gn)) (by rintro ⟨_, _, h⟩; exact h) (by kernel_rfl) (by kernel_rfl) HX.out.drew (fun hHeld => ?_)
    simp only [List.size_toArray, List.length_cons, List.length_nil, Nat.reduceAdd, Array.replicate_succ, Array.replicate_zero, List.push_toArray, List.nil_append, List.cons_append]
    refine wpAnyH_take (i := 1) (oi := ⟨some 16, _, _, _, _, _⟩) (v := ?v1) rfl (by kernel_rfl) (by kernel_rfl) (by kernel_rfl) (fun _ _ _ h => h) (Or.inl ⟨by rfl, ?y1⟩) (by assumption) ?r1
    case y1 => intro w hSw; clear hSw; go_simp; (try with_reducible rfl)
    simp only [Act.put, List.setIfInBounds_toArray, List.set_cons_zero, List.set_cons_succ]
    refine wpAnyH_take (i := 2) (oi := ⟨some 17, _, _, _, _, _⟩) (v := ?v2) rfl (by kernel_rfl) (by kernel_rfl) (by kernel_rfl) (fun _ _ _ h => h) (Or.inl ⟨by rfl, ?y2⟩) (by assumption) ?r2
    case y2 => intro w hSw; clear hSw; go_simp; (try with_reducible rfl)
    simp only [Act.put, List.setIfInBounds_toArray, List.set_cons_zero, List.set_cons_succ]
    refine wpAnyH_take (i := 3) (oi := ⟨some 18, _, _, _, _, _⟩) (v := ?v3) rfl (by kernel_rfl) (by kernel_rfl) (by kernel_rfl) (fun _ _ _ h => h) (Or.inl ⟨by rfl, ?y3⟩) (by assumption) ?r3
    case y3 => intro w hSw; clear hSw; go_simp; (try with_reducible rfl)
    simp only [Act.put, List.setIfInBounds_toArray, List.set_cons_zero, List.set_cons_succ]
    refine wpAnyH_take (i := 4) (oi := ⟨some 19, _, _, _, _, _⟩) (v := ?v4) rfl (by kernel_rfl) (by kernel_rfl) (by kernel_rfl) (fun _ _ _ h => h) (Or.inl ⟨by rfl, ?y4⟩) (by assumption) ?r4
    case y4 => intro w hSw; obtain ⟨s0, s1, s2, s3, s4, s5, s6, s7⟩ := kcell hSw; go_simp; (try with_reducible rfl)
    simp only [Act.put, List.setIfInBounds_toArray, List.set_cons_zero, List.set_cons_succ]
    refine wpAnyH_ready (rs := [0, 5]) (by kernel_rfl) (by simp) ?_
    refine AllReadyH.cons (o := ⟨some 15, _, _, _, _, _⟩) rfl (fun K hK => ?_) ?_
    · go_simp
      refine hK.out _ _ hHeld (fun hHeld => ?_)
      clear hK
      try simp only [List.setIfInBounds_toArray, List.set_cons_zero]
      refine wpAnyH_ready (rs := [5]) (by kernel_rfl) (by simp) ?_
      refine AllReadyH.cons (o := ⟨some 20, _, _, _, _, _⟩) rfl (fun K hK => ?_) AllReadyH.nil
      go_simp
      refine hK.out _ _ (hHeld.alloc _) (fun hHeld => ?_)
      clear hK
      try simp only [List.setIfInBounds_toArray, List.set_cons_zero, List.set_cons_succ]
      refine wpAnyH_ready (rs := [6]) (by kernel_rfl) (by simp) ?_
      refine AllReadyH.cons (o := ⟨some 21, _, _, _, _, _⟩) rfl (fun K hK => ?_) AllReadyH.nil
      ((refine step_append_lies _ (by rfl) _ _ _ (by rfl) n0 41 i0 (.agg #[.int .u64 0, .int .u64 0, .int .u64 0, .int .u64 0, .int .u64 0, .int .u64 0, .bool false]) 7 56 Try.underlying29 HI.out HZ0.out HZ1.out HZ2.out rfl (by decide) _ pre.length (pcs (pre.map Kp.p)) (by rfl) HOw.out ⟨W.heap.size, 0, none⟩ 1 1 [.int .u64 (x.p.n : Int), .int .u64 (x.p.size : Int), .int .u64 (x.p.sent : Int), .int .u64 (x.p.first : Int), .int .u64 (x.p.deliv : Int), .int .u64 (x.p.at_ : Int), .bool x.p.lim] (by rfl) (by rfl) (World.news_of_block HNw.out) HOne.out (by decide) (by unfold maxLen; omega) (by omega) (Nat.le_trans HBs.out (by simp)) (W.heap.size + 1) (by simp) ?_); intro g5 cap w5 hown hgrow hat hltg)
      have HOn := Lib.hid hown
      have HGr := Lib.hid hgrow
      clear hown hgrow hat
      have u1 := (HGr.out.cell_far ⟨n0 + 1, 0, none⟩ (World.block_lt_of_cell? _ _ HA1.out) HNa.out).trans HA1.out
      have u2 := (HGr.out.frozen_far ⟨n0 + 1, 0, none⟩ (World.block_lt_of_cell? _ _ HA1.out) HNa.out).trans HFa.out
      refine hK.out _ _ (hHeld.grown HGr.out HNx.out) (fun hHeld => ?_)
      clear hK
      try simp only [List.setIfInBounds_toArray, List.set_cons_zero, List.set_cons_succ]
      refine wpAnyH_ready (rs := [7]) (by kernel_rfl) (by simp) ?_
      refine AllReadyH.cons (o := ⟨none, _, _, _, _, _⟩) rfl (fun K hK => ?_) AllReadyH.nil
      go_simp
      refine hK.out _ _ (hHeld.set_other 0 _ hne) (fun hHeld => ?_)
      clear hK
      try simp only [List.setIfInBounds_toArray, List.set_cons_zero, List.set_cons_succ]
      refine wpAnyH_done (by kernel_rfl) ?_ _
      exact pk_round HIx.out (by rw [HN0.out]; exact Nat.le_refl _) (Nat.le_succ _) Hb.out HV.out rfl HOn.out HGr.out _
    refine AllReadyH.cons (o := ⟨some 20, _, _, _, _, _⟩) rfl (fun K hK => ?_) AllReadyH.nil
    go_simp
    refine hK.out _ _ (hHeld.alloc _) (fun hHeld => ?_)
    clear hK
    try simp only [List.setIfInBounds_toArray, List.set_cons_zero, List.set_cons_succ]
    refine wpAnyH_ready (rs := [0]) (by kernel_rfl) (by simp) ?_
    refine AllReadyH.cons (o := ⟨some 15, _, _, _, _, _⟩) rfl (fun K hK => ?_) AllReadyH.nil
    go_simp
    refine hK.out _ _ hHeld (fun hHeld => ?_)
    clear hK
    try simp only [List.setIfInBounds_toArray, List.set_cons_zero]
    refine wpAnyH_ready (rs := [6]) (by kernel_rfl) (by simp) ?_
    refine AllReadyH.cons (o := ⟨some 21, _, _, _, _, _⟩) rfl (fun K hK => ?_) AllReadyH.nil
    ((refine step_append_lies _ (by rfl) _ _ _ (by rfl) n0 41 i0 (.agg #[.int .u64 0, .int .u64 0, .int .u64 0, .int .u64 0, .int .u64 0, .int .u64 0, .bool false]) 7 56 Try.underlying29 HI.out HZ0.out HZ1.out HZ2.out rfl (by decide) _ pre.length (pcs (pre.map Kp.p)) (by rfl) HOw.out ⟨W.heap.size, 0, none⟩ 1 1 [.int .u64 (x.p.n : Int), .int .u64 (x.p.size : Int), .int .u64 (x.p.sent : Int), .int .u64 (x.p.first : Int), .int .u64 (x.p.deliv : Int), .int .u64 (x.p.at_ : Int), .bool x.p.lim] (by rfl) (by rfl) (World.news_of_block HNw.out) HOne.out (by decide) (by unfold maxLen; omega) (by omega) (Nat.le_trans HBs.out (by simp)) (W.heap.size + 1) (by simp) ?_); intro g5 cap w5 hown hgrow hat hltg)
    have HOn := Lib.hid hown
    have HGr := Lib.hid hgrow
    clear hown hgrow hat
    have u1 := (HGr.out.cell_far ⟨n0 + 1, 0, none⟩ (World.block_lt_of_cell? _ _ HA1.out) HNa.out).trans HA1.out
    have u2 := (HGr.out.frozen_far ⟨n0 + 1, 0, none⟩ (World.block_lt_of_cell? _ _ HA1.out) HNa.out).trans HFa.out
    refine hK.out _ _ (hHeld.grown HGr.out HNx.out) (fun hHeld => ?_)
    clear hK
    try simp only [List.setIfInBounds_toArray, List.set_cons_zero, List.set_cons_succ]
    refine wpAnyH_ready (rs := [7]) (by kernel_rfl) (by simp) ?_
    refine AllReadyH.cons (o := ⟨none, _, _, _, _, _⟩) rfl (fun K hK => ?_) AllReadyH.nil
    go_simp
    refine hK.out _ _ (hHeld.set_other 0 _ hne) (fun hHeld => ?_)
    clear hK
    try simp only [List.setIfInBounds_toArray, List.set_cons_zero, List.set_cons_succ]
    refine wpAnyH_done (by kernel_rfl) ?_ _
    exact pk_round HIx.out (by rw [HN0.out]; exact Nat.le_refl _) (Nat.le_succ _) Hb.out HV.out rfl HOn.out HGr.out _
  case done =>
    rintro D xs W hD hDl rfl hI hK
    have hP := (pki_own s.ks b rb g (n0 + 2) (n0 + 2 + 1) 0 18446744073709551615 n0 (n0 + 1) n0 w (Nat.le_refl _) (by rw [HN0.out]; exact Nat.le_refl _)).putObj (.deferred none) hI (Nat.le_trans HS3.out hD) hK rfl
    obtain ⟨v, hb, hv⟩ := hI.box
    have c0 := hb.cell (i := 0) rfl
    have hv2 := ownsRow_putObj hv (.deferred none) hK rfl
    have HV2 := Lib.hid hv2
    have HP := Lib.hid hP.bel
    have HK := Lib.hid hK
    clear hI hb hv hv2 hP hD hDl hK HI0 HSeq
    gi_wp2
    refine ⟨by simp, .inl ⟨_, _, rfl, run_takeDeferred HK.out, ?_⟩⟩
    refine ⟨v, ?_, v, rfl, ?_, fun k e => by rw [HN0.out]; exact (own_ge HV2.out e).1, by rw [HN0.out]; exact HP.out⟩
    · simp [results, Try.f11]
    · rw [HO.out]
      have := own_zero HV2.out
      unfold PR
      rw [List.length_map]
      exact this
end Go.Proofs.Ytfpopbhbhdhdnaa
