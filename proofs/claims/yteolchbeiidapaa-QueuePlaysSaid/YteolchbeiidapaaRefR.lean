/- The document's queue (goitref18.Queue), over this translation: Put. -/
import Derived.Test.YteolchbeiidapaaRefQ
import Derived.Deep.DeepCutAuto
set_option linter.unusedVariables false
namespace Go.Proofs.Yteolchbeiidapaa
open Go.RowKit

/-- The cells that stay: the packet's box. -/
def RMo (W : World) (m o B z : Nat) (T : TypeId) (cs : Array Value) (v : Value) (c : List Value) (w : World) : Prop := ∃ s v', RM W m o B z T cs v c s v' w
theorem rmo {W w : World} {m o B z : Nat} {T : TypeId} {cs : Array Value} {v v' : Value} {c : List Value} {s : QK} (h : Hid (RM W m o B z T cs v c s v' w)) : Hid (RMo W m o B z T cs v c w) := Lib.hid ⟨s, v', h.out⟩
theorem rmo_box {W : World} {m o B z i : Nat} {T : TypeId} {cs : Array Value} {v u : Value} {c : List Value} (hv : c[i]? = some u) : ∀ w, Hid (RMo W m o B z T cs v c w) → w.cell? ⟨z, i, none⟩ = some u := fun w h => by
  obtain ⟨s, v', h1⟩ := h.out
  exact h1.box.cell (by simpa using hv)
theorem RM.drew {W w : World} {m o B z : Nat} {T : TypeId} {cs : Array Value} {v v' : Value} {c : List Value} {s : QK} (h : RM W m o B z T cs v c s v' w) : RM W m o B z T cs v c s v' w.drew := h.to ((Drawn.drew w).below _)
theorem rmo_range {W : World} {m o B z : Nat} {T : TypeId} {cs : Array Value} {v : Value} {c : List Value} : ∀ w, Hid (RMo W m o B z T cs v c w) → w.rangeAt z 0 c := fun w h => by
  obtain ⟨s, v', h1⟩ := h.out
  exact h1.box.range0
theorem RM.bytes {W w : World} {m o B z : Nat} {T : TypeId} {cs : Array Value} {v v' : Value} {c : List Value} {s : QK} (h : RM W m o B z T cs v c s v' w) (hf : s.l.length ≤ 1000) (hz : ∀ x ∈ s.l, x.size ≤ 18446744073709551615) :
    Calls Try.prog 15 #[.pointer (some ⟨m, o, none⟩)] w fun e w' => e = .returned (.int .u64 ((sumQ s.l : Nat) : Int)) ∧ w = w' := by
  obtain ⟨cs', h1, h2, _⟩ := h.at_
  exact rq_Bytes m o B T cs' v' s w h1 h2 h.own hf hz

set_option maxHeartbeats 1000000 in
theorem rq_Put_no (m o B : Nat) (T : TypeId) (cs : Array Value) (v : Value) (p : Pk) (s : QK) (W : World) (hT : T ≠ 36) (hb : Blk W m T cs) (hk : RCells cs o s v) (hr : ROwn B W v s.l) (ho : s.ok) (hf : s.l.length ≤ 1000) (hp : p.size ≤ 18446744073709551615) (hle : sumQ s.l ≤ s.room) (c : ¬ p.size ≤ s.room - sumQ s.l) :
    Calls Try.prog 10 #[.pointer (some ⟨m, o, none⟩), p.agg] W (RQPost W m o B T cs v (.bool false) (s.dropQ p)) := by
  have d : decide (s.room - sumQ s.l < p.size) = true := decide_eq_true (by omega)
  have hA := Lib.hid (fun w => ref_Add s.dr 1 w ho.dr (by omega))
  have hB := Lib.hid (fun w => ref_Add s.lost p.size w ho.lost hp)
  have HBy := Lib.hid (fun w (h : RM W m o B W.heap.size T cs v (Itm.cs p) s v w) => h.bytes hf ho.sz)
  have K0 := Lib.hid (RM.start hb hk hr (Itm.cs p))
  have hx : (Itm.cs p)[1]? = some (.int .u64 (p.size : Int)) := rfl
  have hT := Lib.hid hT
  have HR := Lib.hid ho.room
  have z1 : (s.room : Int) - ((sumQ s.l : Nat) : Int) = ((s.room - sumQ s.l : Nat) : Int) := by omega
  have z2 : IntKind.u64.wrap ((s.room - sumQ s.l : Nat) : Int) = ((s.room - sumQ s.l : Nat) : Int) := by have := ho.room; rw [IntKind.wrap_u64]; omega
  clear hb hk hr ho hf hle c
  unfold QK.dropQ
  unfold Pk.agg
  go_enter Try.func10, Try.ntmps10
  go_upto_region 1 with fail
  change Code.wp _ _ _ _ (W.alloc (.cells (Itm.cs p).toArray 36))
  generalize W.alloc (.cells (Itm.cs p).toArray 36) = w0 at *
  have hu := Try.underlying36
  have hi := pk_inf p
  generalize hcs : Itm.cs p = c at *
  have HCs := Lib.hid hcs
  clear hcs
  have c1 := K0.out.box.cell (i := 1) (v := .int .u64 (p.size : Int)) (by simpa using hx)
  have k0 := K0.out.cells.1
  have k2 := K0.out.cells.2.2.1
  have R1 := rmo_box (W := W) (m := m) (o := o) (B := B) (z := W.heap.size) (T := T) (cs := cs) (v := v) hx
  have HB0 : Hid (∀ n, Calls Try.prog 15 #[.pointer (some ⟨m, o, none⟩)] (w0.drewN n) fun e w' => e = .returned (.int .u64 ((sumQ s.l : Nat) : Int)) ∧ w' = w0.drewN n) := Lib.hid (fun n => (HBy.out _ (K0.out.to ((show Drawn w0 (w0.drewN n) from ⟨n, rfl⟩).below _))).mono fun _ _ k => ⟨k.1, k.2.symm⟩)
  clear HBy hx
  generalize hd' : Pl.addS s.dr 1 = dd at *
  generalize Pl.addS s.lost p.size = y at *
  generalize p.size = x at *
  generalize hn : s.lost = n at *
  generalize s.room - sumQ s.l = q at *
  generalize sumQ s.l = sm at *
  go_wp2_with fail
  go_quiet (first | (go_at_call 15; exact Calls.quiet_of_same (HB0.out _)))
  have HD := Lib.hid (show Drawn w0 (w0.drewN nq) from ⟨nq, rfl⟩)
  have K1 := Lib.hid (K0.out.to (HD.out.below _))
  have k2 := K1.out.cells.2.2.1
  have f2 := K1.out.cells.2.2.2.2 (o + 2)
  generalize w0.drewN nq = w1 at *
  clear K0 HB0 HD
  go_wp2_with fail
  refine (hA.out _).mono ?_
  rintro e w' ⟨rfl, rfl⟩
  have M0 := Lib.hid (K1.out.setd hT.out dd)
  rw [hn] at M0
  clear K1 hn hd' k0 c1 d z1 z2
  go_wp2_with fail
  clear k2 f2
  generalize (w1.setCell ⟨m, o + 2, none⟩ (.int .u64 (dd : Int))) = w2 at *
  have M1 := Lib.hid M0.out.drew
  refine wp_region_held_drew (S := (fun w' => Hid (RMo W m o B W.heap.size T cs v c w'))) (by kernel_rfl) (rmo M1) (fun hHeld => ?_)
  generalize w2.drew = wd at *
  simp only [List.size_toArray, List.length_cons, List.length_nil, Nat.reduceAdd, Array.replicate_succ, Array.replicate_zero, List.push_toArray, List.nil_append, List.cons_append]
  refine wpAnyH_take (i := 0) (oi := ⟨some 23, _, _, _, _, _⟩) (v := ?v1) rfl (by kernel_rfl) (by kernel_rfl) (by kernel_rfl) (fun _ _ _ h => h) (Or.inl ⟨by rfl, ?y1⟩) (by assumption) ?r1
  case y1 => intro w hSw; clear hSw; go_simp; (try with_reducible rfl)
  simp only [Act.put, List.setIfInBounds_toArray, List.set_cons_zero, List.set_cons_succ]
  refine wpAnyH_take (i := 1) (oi := ⟨some 24, _, _, _, _, _⟩) (v := ?v2) rfl (by kernel_rfl) (by kernel_rfl) (by kernel_rfl) (fun _ _ _ h => h) (Or.inl ⟨by rfl, ?y2⟩) (by assumption) ?r2
  case y2 => intro w hSw; clear hSw; go_simp; (try with_reducible rfl)
  simp only [Act.put, List.setIfInBounds_toArray, List.set_cons_zero, List.set_cons_succ]
  refine wpAnyH_take (i := 2) (oi := ⟨some 25, _, _, _, _, _⟩) (v := ?v3) rfl (by kernel_rfl) (by kernel_rfl) (by kernel_rfl) (fun _ _ _ h => h) (Or.inl ⟨by rfl, ?y3⟩) (by assumption) ?r3
  case y3 => intro w hSw; clear hSw; go_simp; (try with_reducible rfl)
  simp only [Act.put, List.setIfInBounds_toArray, List.set_cons_zero, List.set_cons_succ]
  refine wpAnyH_take (i := 3) (oi := ⟨some 26, _, _, _, _, _⟩) (v := ?v4) rfl (by kernel_rfl) (by kernel_rfl) (by kernel_rfl) (fun _ _ _ h => h) (Or.inl ⟨by rfl, ?y4⟩) (by assumption) ?r4
  case y4 => intro w hSw; clear hSw; go_simp; (try with_reducible rfl)
  simp only [Act.put, List.setIfInBounds_toArray, List.set_cons_zero, List.set_cons_succ]
  refine wpAnyH_take (i := 5) (oi := ⟨some 28, _, _, _, _, _⟩) (v := ?v5) rfl (by kernel_rfl) (by kernel_rfl) (by kernel_rfl) (fun _ _ _ h => h) (Or.inl ⟨by rfl, ?y5⟩) (by assumption) ?r5
  case y5 => intro w hSw; clear hSw; go_simp; (try with_reducible rfl)
  simp only [Act.put, List.setIfInBounds_toArray, List.set_cons_zero, List.set_cons_succ]
  refine wpAnyH_take (i := 6) (oi := ⟨some 29, _, _, _, _, _⟩) (v := ?v6) rfl (by kernel_rfl) (by kernel_rfl) (by kernel_rfl) (fun _ _ _ h => h) (Or.inl ⟨by rfl, ?y6⟩) (by assumption) ?r6
  case y6 => intro w hSw; skip; go_simp; (try with_reducible rfl)
  simp only [Act.put, List.setIfInBounds_toArray, List.set_cons_zero, List.set_cons_succ]
  refine wpAnyH_ready (rs := [4]) (by kernel_rfl) (by simp) ?_
  refine AllReadyH.cons (o := ⟨some 27, _, _, _, _, _⟩) rfl (fun K hK => ?_) AllReadyH.nil
  have c3 := (Hid.out (by assumption) : RM W m o B W.heap.size T cs v c ⟨s.l, s.n, s.room, dd, n⟩ v _).cells.2.2.2.1
  go_simp
  refine hK.out _ _ hHeld (fun hHeld => ?_)
  clear hK
  try simp only [List.setIfInBounds_toArray, List.set_cons_zero, List.set_cons_succ]
  refine wpAnyH_ready (rs := [7]) (by kernel_rfl) (by simp) ?_
  refine AllReadyH.cons (o := ⟨some 30, _, _, _, _, _⟩) rfl (fun K hK => ?_) AllReadyH.nil
  go_simp
  refine (hB.out _).mono ?_
  rintro e w4 ⟨rfl, rfl⟩
  go_wp2_with fail
  refine hK.out _ _ hHeld (fun hHeld => ?_)
  clear hK
  try simp only [List.setIfInBounds_toArray, List.set_cons_zero, List.set_cons_succ]
  refine wpAnyH_take (i := 8) (oi := ⟨some 31, _, _, _, _, _⟩) (v := ?v7) rfl (by kernel_rfl) (by kernel_rfl) (by kernel_rfl) (fun _ _ _ h => h) (Or.inl ⟨by rfl, ?y7⟩) (by assumption) ?r7
  case y7 => intro w hSw; clear hSw; go_simp; (try with_reducible rfl)
  simp only [Act.put, List.setIfInBounds_toArray, List.set_cons_zero, List.set_cons_succ]
  refine wpAnyH_take (i := 9) (oi := ⟨some 32, _, _, _, _, _⟩) (v := ?v8) rfl (by kernel_rfl) (by kernel_rfl) (by kernel_rfl) (fun _ _ _ h => h) (Or.inl ⟨by rfl, ?y8⟩) (by assumption) ?r8
  case y8 => intro w hSw; clear hSw; go_simp; (try with_reducible rfl)
  simp only [Act.put, List.setIfInBounds_toArray, List.set_cons_zero, List.set_cons_succ]
  refine wpAnyH_ready (rs := [10]) (by kernel_rfl) (by simp) ?_
  refine AllReadyH.cons (o := ⟨none, _, _, _, _, _⟩) rfl (fun K hK => ?_) AllReadyH.nil
  have y3 := (Hid.out (by assumption) : RM W m o B W.heap.size T cs v c ⟨s.l, s.n, s.room, dd, n⟩ v _).cells.2.2.2.2 (o + 3)
  have c3 := (Hid.out (by assumption) : RM W m o B W.heap.size T cs v c ⟨s.l, s.n, s.room, dd, n⟩ v _).cells.2.2.2.1
  have M6 := Lib.hid ((Hid.out (by assumption) : RM W m o B W.heap.size T cs v c ⟨s.l, s.n, s.room, dd, n⟩ v _).setg hT.out y)
  go_simp
  refine hK.out _ _ (rmo M6) (fun hHeld => ?_)
  clear hK
  try simp only [List.setIfInBounds_toArray, List.set_cons_zero, List.set_cons_succ]
  refine wpAnyH_done (by kernel_rfl) ?_ _
  go_wp2_with fail
  go_ret
  exact M6.out.post

theorem RM.grown {W wA w5 : World} {m o B z : Nat} {T : TypeId} {cs : Array Value} {v : Value} {c : List Value} {s : QK} (hT : T ≠ 36) (h : RM W m o B z T cs v c s v wA) (hg : wA.grownBy w5 v.ownBlock) :
    (∃ cs', Blk w5 m T cs' ∧ RCells cs' o s v ∧ cs'.size = cs.size ∧ (∀ i, i < o ∨ o + 4 ≤ i → cs'[i]? = cs[i]?)) ∧ Fr W w5 [m, vb v m] ∧ Blk w5 z 36 c.toArray := by
  have hm := h.mne hT
  have hv : ∀ g, v.ownBlock = some g → g ≠ m ∧ vb v m = g := fun g e => by
    refine ⟨?_, by unfold vb; rw [e]; rfl⟩
    obtain ⟨hl, k⟩ := h.own
    rcases k with ⟨rfl, hn⟩ | ⟨g', cap, cur, rfl, hb, hgg, hr⟩
    · cases e
    · injection e with e; subst e; exact hm _ _ hgg
  obtain ⟨cs', h1, h2⟩ := h.at_
  refine ⟨⟨cs', h1.grown hg (fun e => (hv m e.symm).1 rfl), h2⟩, h.fr.trans (fr_gr (L := [m, vb v m]) hg (fun b e => by rw [(hv b e).2]; simp)) (fun x hx => .inl hx), h.box.grown hg (fun e => h.ne (hv z e.symm).2)⟩
theorem RM.appended {W wA w5 : World} {m o B z g cap H n' : Nat} {T : TypeId} {cs : Array Value} {v r : Value} {c : List Value} {s : QK} {l' : List Pk} (hT : T ≠ 36) (h : RM W m o B z T cs v c s v wA) (hg : wA.grownBy w5 v.ownBlock)
    (hown : ROwn B w5 (.slice (some ⟨g, 0, none⟩) l'.length cap) l') (hat : v.ownBlock = some g ∨ g = H) (hH : z < H) :
    RQPost W m o B T cs v r ⟨l', n', s.room, s.dr, s.lost⟩ (.returned r) (w5.setCell ⟨m, o + 1, none⟩ (.slice (some ⟨g, 0, none⟩) l'.length cap)) := by
  obtain ⟨⟨cs', h1, h2, h3, h4⟩, h5, h6⟩ := h.grown hT hg
  have hb : vb (.slice (some ⟨g, 0, none⟩) l'.length cap) m = g := rfl
  refine ⟨rfl, ⟨_, _, h1.set (o + 1) _, h2.setv _ l' n', by simpa using h3, fun i hi => by rw [Array.getElem?_setIfInBounds_ne (by omega)]; exact h4 i hi, hown.blk (fun b ds _ k => k.set_other _ _ (k.ty h1 (Ne.symm hT))), ?_⟩, h5.set (.inl (by simp)) _ _⟩
  rw [hb]
  rcases hat with e | e
  · left; unfold vb; rw [e]; rfl
  · right; have := h.lo; omega
theorem pkt_info : (Try.prog.info? 36).map (fun i => (i.zero, i.size, i.bytes)) = some (some (.agg #[.int .u64 0, .int .u64 0, .int .u64 0, .int .u64 0, .int .u64 0, .int .u64 0, .bool false]), 7, 56) := by kernel_rfl

set_option maxHeartbeats 1000000 in
theorem rq_Put_yes (m o B : Nat) (T : TypeId) (cs : Array Value) (v : Value) (p : Pk) (s : QK) (W : World) (hT : T ≠ 36) (hB : B ≤ W.heap.size) (hb : Blk W m T cs) (hk : RCells cs o s v) (hr : ROwn B W v s.l) (ho : s.ok) (hf : s.l.length ≤ 1000) (hp : p.size ≤ 18446744073709551615) (hle : sumQ s.l ≤ s.room) (c : p.size ≤ s.room - sumQ s.l) :
    Calls Try.prog 10 #[.pointer (some ⟨m, o, none⟩), p.agg] W (RQPost W m o B T cs v (.bool true) (s.addQ p)) := by
  have d : decide (s.room - sumQ s.l < p.size) = false := decide_eq_false (by omega)
  obtain ⟨i0, hi0, hz0, hz1, hz2⟩ := info_parts pkt_info
  have HI := Lib.hid hi0
  have HZ0 := Lib.hid hz0
  have HZ1 := Lib.hid hz1
  have HZ2 := Lib.hid hz2
  have HMz : Hid (W.heap.size ≠ m) := Lib.hid (Ne.symm hb.old)
  have HBs := Lib.hid hB
  have HBy := Lib.hid (fun w (h : RM W m o B W.heap.size T cs v (Itm.cs p) s v w) => h.bytes hf ho.sz)
  have K0 := Lib.hid (RM.start hb hk hr (Itm.cs p))
  have hx : (Itm.cs p)[1]? = some (.int .u64 (p.size : Int)) := rfl
  have hT := Lib.hid hT
  have HR := Lib.hid ho.room
  have z1 : (s.room : Int) - ((sumQ s.l : Nat) : Int) = ((s.room - sumQ s.l : Nat) : Int) := by omega
  have z2 : IntKind.u64.wrap ((s.room - sumQ s.l : Nat) : Int) = ((s.room - sumQ s.l : Nat) : Int) := by have := ho.room; rw [IntKind.wrap_u64]; omega
  clear hb hk hr ho hle c hi0 hz0 hz1 hz2 hB
  have EQ : Hid (s.addQ p = ⟨s.l ++ [p], Pl.addS s.n p.size, s.room, s.dr, s.lost⟩) := Lib.hid rfl
  have EF : Hid ((s.l ++ [p]).flatMap Itm.cs = s.l.flatMap Itm.cs ++ Itm.cs p) := Lib.hid (by simp)
  have HOne := Lib.hid (Itm.one p)
  unfold Pk.agg
  go_enter Try.func10, Try.ntmps10
  go_upto_region 1 with fail
  change Code.wp _ _ _ _ (W.alloc (.cells (Itm.cs p).toArray 36))
  generalize W.alloc (.cells (Itm.cs p).toArray 36) = w0 at *
  have hu := Try.underlying36
  have hi := pk_inf p
  generalize hcs : Itm.cs p = c at *
  have HCs := Lib.hid hcs
  clear hcs
  have c1 := K0.out.box.cell (i := 1) (v := .int .u64 (p.size : Int)) (by simpa using hx)
  have k0 := K0.out.cells.1
  have k2 := K0.out.cells.2.2.1
  have R1 := rmo_box (W := W) (m := m) (o := o) (B := B) (z := W.heap.size) (T := T) (cs := cs) (v := v) hx
  have HB0 : Hid (∀ n, Calls Try.prog 15 #[.pointer (some ⟨m, o, none⟩)] (w0.drewN n) fun e w' => e = .returned (.int .u64 ((sumQ s.l : Nat) : Int)) ∧ w' = w0.drewN n) := Lib.hid (fun n => (HBy.out _ (K0.out.to ((show Drawn w0 (w0.drewN n) from ⟨n, rfl⟩).below _))).mono fun _ _ k => ⟨k.1, k.2.symm⟩)
  clear HBy hx
  generalize p.size = x at *
  generalize s.room - sumQ s.l = q at *
  generalize sumQ s.l = sm at *
  go_wp2_with fail
  go_quiet (first | (go_at_call 15; exact Calls.quiet_of_same (HB0.out _)))
  have HD := Lib.hid (show Drawn w0 (w0.drewN nq) from ⟨nq, rfl⟩)
  have K1 := Lib.hid (K0.out.to (HD.out.below _))
  have HBs : Hid (B ≤ (w0.drewN nq).drew.heap.size) := Lib.hid (Nat.le_trans HBs.out K1.out.fr.size)
  generalize w0.drewN nq = w1 at *
  clear K0 HB0 HD k0 k2 c1 R1 d z1 z2
  obtain ⟨v0, v1, v2, v3, v4, v5, v6, rfl⟩ : ∃ v0 v1 v2 v3 v4 v5 v6, c = [v0, v1, v2, v3, v4, v5, v6] := ⟨_, _, _, _, _, _, _, HCs.out.symm⟩
  go_wp2_with fail
  have M1 := Lib.hid K1.out.drew
  clear K1
  refine wp_region_held_drew (S := (fun w' => Hid (Blk w' W.heap.size 36 [v0, v1, v2, v3, v4, v5, v6].toArray))) (by kernel_rfl) (Lib.hid M1.out.box) (fun hHeld => ?_)
  generalize w1.drew = wd at *
  simp only [List.size_toArray, List.length_cons, List.length_nil, Nat.reduceAdd, Array.replicate_succ, Array.replicate_zero, List.push_toArray, List.nil_append, List.cons_append]
  refine' wpAnyH_take (i := 5) (oi := ⟨some 38, _, _, _, _, _⟩) (v := _) rfl (by kernel_rfl) (by kernel_rfl) (by kernel_rfl) (fun _ _ _ h => h) (yieldsIf_load_mid (by rfl) _ _ rfl _ _ rfl _ _ ?hS9 hu rfl hi) (by assumption) ?r9
  case hS9 => intro w hSw; exact hSw.out.range0
  simp only [Act.put, List.setIfInBounds_toArray, List.set_cons_zero, List.set_cons_succ]
  refine wpAnyH_take (i := 0) (oi := ⟨some 33, _, _, _, _, _⟩) (v := ?v10) rfl (by kernel_rfl) (by kernel_rfl) (by kernel_rfl) (fun _ _ _ h => h) (Or.inl ⟨by rfl, ?y10⟩) (by assumption) ?r10
  case y10 => intro w hSw; clear hSw; go_simp; (try with_reducible rfl)
  simp only [Act.put, List.setIfInBounds_toArray, List.set_cons_zero, List.set_cons_succ]
  refine wpAnyH_take (i := 1) (oi := ⟨some 34, _, _, _, _, _⟩) (v := ?v11) rfl (by kernel_rfl) (by kernel_rfl) (by kernel_rfl) (fun _ _ _ h => h) (Or.inl ⟨by rfl, ?y11⟩) (by assumption) ?r11
  case y11 => intro w hSw; clear hSw; go_simp; (try with_reducible rfl)
  simp only [Act.put, List.setIfInBounds_toArray, List.set_cons_zero, List.set_cons_succ]
  refine wpAnyH_take (i := 2) (oi := ⟨some 35, _, _, _, _, _⟩) (v := ?v12) rfl (by kernel_rfl) (by kernel_rfl) (by kernel_rfl) (fun _ _ _ h => h) (Or.inl ⟨by rfl, ?y12⟩) (by assumption) ?r12
  case y12 => intro w hSw; clear hSw; go_simp; (try with_reducible rfl)
  simp only [Act.put, List.setIfInBounds_toArray, List.set_cons_zero, List.set_cons_succ]
  refine wpAnyH_take (i := 3) (oi := ⟨some 36, _, _, _, _, _⟩) (v := ?v13) rfl (by kernel_rfl) (by kernel_rfl) (by kernel_rfl) (fun _ _ _ h => h) (Or.inl ⟨by rfl, ?y13⟩) (by assumption) ?r13
  case y13 => intro w hSw; clear hSw; go_simp; (try with_reducible rfl)
  simp only [Act.put, List.setIfInBounds_toArray, List.set_cons_zero, List.set_cons_succ]
  refine wpAnyH_ready (rs := [4, 6]) (by kernel_rfl) (by simp) ?_
  refine AllReadyH.cons (o := ⟨some 37, _, _, _, _, _⟩) rfl (fun K hK => ?k14) ?m14
  case' k14 =>
    first | have c3 := M3.out.cells.2.1 | have c3 := M1.out.cells.2.1
    go_simp
    refine hK.out _ _ hHeld (fun hHeld => ?_)
    clear hK
    try simp only [List.setIfInBounds_toArray, List.set_cons_zero, List.set_cons_succ]
    refine wpAnyH_ready (rs := [6]) (by kernel_rfl) (by simp) ?_
    refine AllReadyH.cons (o := ⟨some 39, _, _, _, _, _⟩) rfl (fun K hK => ?_) AllReadyH.nil
    have M3 := Lib.hid (M1.out.to (al_be wd (.cells #[v0, v1, v2, v3, v4, v5, v6] 36)))
    have HNw := Lib.hid (Blk.new wd 36 #[v0, v1, v2, v3, v4, v5, v6])
    go_simp
    refine hK.out _ _ (Lib.hid M3.out.box) (fun hHeld => ?_)
    clear hK
    try simp only [List.setIfInBounds_toArray, List.set_cons_zero, List.set_cons_succ]
    refine wpAnyH_ready (rs := [7]) (by kernel_rfl) (by simp) ?_
    refine AllReadyH.cons (o := ⟨some 40, _, _, _, _, _⟩) rfl (fun K hK => ?_) AllReadyH.nil
    ((refine step_append_lies _ (by rfl) _ _ _ (by rfl) B 36 i0 (.agg #[.int .u64 0, .int .u64 0, .int .u64 0, .int .u64 0, .int .u64 0, .int .u64 0, .bool false]) 7 56 Try.underlying28 HI.out HZ0.out HZ1.out HZ2.out rfl (by decide) v s.l.length (s.l.flatMap Itm.cs) (by rfl) M3.out.own ⟨wd.heap.size, 0, none⟩ 1 1 [v0, v1, v2, v3, v4, v5, v6] (by rfl) (by rfl) (World.news_of_block HNw.out) HOne.out (by decide) (by unfold maxLen; omega) (by omega) (Nat.le_trans HBs.out (by simp)) (wd.heap.size + 1) (by simp) ?_); intro g5 cap w5 hown hgrow hat hltg)
    have HOn := Lib.hid hown
    have HGr := Lib.hid hgrow
    have HAt := Lib.hid hat
    clear hown hgrow hat
    have G5 := Lib.hid (M3.out.grown hT.out HGr.out)
    have hHeld5 := Lib.hid G5.out.2.2
    refine hK.out _ _ hHeld5 (fun hHeld => ?_)
    clear hK
    try simp only [List.setIfInBounds_toArray, List.set_cons_zero, List.set_cons_succ]
    refine wpAnyH_take (i := 8) (oi := ⟨some 41, _, _, _, _, _⟩) (v := ?v15) rfl (by kernel_rfl) (by kernel_rfl) (by kernel_rfl) (fun _ _ _ h => h) (Or.inl ⟨by rfl, ?y15⟩) (by assumption) ?r15
    case y15 => intro w hSw; clear hSw; go_simp; (try with_reducible rfl)
    simp only [Act.put, List.setIfInBounds_toArray, List.set_cons_zero, List.set_cons_succ]
    refine wpAnyH_take (i := 9) (oi := ⟨some 42, _, _, _, _, _⟩) (v := ?v16) rfl (by kernel_rfl) (by kernel_rfl) (by kernel_rfl) (fun _ _ _ h => h) (Or.inl ⟨by rfl, ?y16⟩) (by assumption) ?r16
    case y16 => intro w hSw; clear hSw; go_simp; (try with_reducible rfl)
    simp only [Act.put, List.setIfInBounds_toArray, List.set_cons_zero, List.set_cons_succ]
    refine wpAnyH_ready (rs := [10]) (by kernel_rfl) (by simp) ?_
    refine AllReadyH.cons (o := ⟨none, _, _, _, _, _⟩) rfl (fun K hK => ?_) AllReadyH.nil
    have c3 : w5.cell? ⟨m, o + 1, none⟩ = some v := by obtain ⟨cs5, a1, a2, _⟩ := G5.out.1; exact a1.cell a2.v
    have y3 : w5.frozen? ⟨m, o + 1, none⟩ = false := by obtain ⟨cs5, a1, a2, _⟩ := G5.out.1; exact a1.free _
    have hne10 : W.heap.size ≠ m := HMz.out
    go_simp
    refine hK.out _ _ (Lib.hid (hHeld5.out.set_other _ _ hne10)) (fun hHeld => ?_)
    clear hK
    try simp only [List.setIfInBounds_toArray, List.set_cons_zero, List.set_cons_succ]
    refine wpAnyH_done (by kernel_rfl) ?_ _
    skip
  case' m14 =>
    refine AllReadyH.cons (o := ⟨some 39, _, _, _, _, _⟩) rfl (fun K hK => ?_) AllReadyH.nil
    have M3 := Lib.hid (M1.out.to (al_be wd (.cells #[v0, v1, v2, v3, v4, v5, v6] 36)))
    have HNw := Lib.hid (Blk.new wd 36 #[v0, v1, v2, v3, v4, v5, v6])
    go_simp
    refine hK.out _ _ (Lib.hid M3.out.box) (fun hHeld => ?_)
    clear hK
    try simp only [List.setIfInBounds_toArray, List.set_cons_zero, List.set_cons_succ]
    refine wpAnyH_ready (rs := [4]) (by kernel_rfl) (by simp) ?_
    refine AllReadyH.cons (o := ⟨some 37, _, _, _, _, _⟩) rfl (fun K hK => ?_) AllReadyH.nil
    first | have c3 := M3.out.cells.2.1 | have c3 := M1.out.cells.2.1
    go_simp
    refine hK.out _ _ hHeld (fun hHeld => ?_)
    clear hK
    try simp only [List.setIfInBounds_toArray, List.set_cons_zero, List.set_cons_succ]
    refine wpAnyH_ready (rs := [7]) (by kernel_rfl) (by simp) ?_
    refine AllReadyH.cons (o := ⟨some 40, _, _, _, _, _⟩) rfl (fun K hK => ?_) AllReadyH.nil
    ((refine step_append_lies _ (by rfl) _ _ _ (by rfl) B 36 i0 (.agg #[.int .u64 0, .int .u64 0, .int .u64 0, .int .u64 0, .int .u64 0, .int .u64 0, .bool false]) 7 56 Try.underlying28 HI.out HZ0.out HZ1.out HZ2.out rfl (by decide) v s.l.length (s.l.flatMap Itm.cs) (by rfl) M3.out.own ⟨wd.heap.size, 0, none⟩ 1 1 [v0, v1, v2, v3, v4, v5, v6] (by rfl) (by rfl) (World.news_of_block HNw.out) HOne.out (by decide) (by unfold maxLen; omega) (by omega) (Nat.le_trans HBs.out (by simp)) (wd.heap.size + 1) (by simp) ?_); intro g5 cap w5 hown hgrow hat hltg)
    have HOn := Lib.hid hown
    have HGr := Lib.hid hgrow
    have HAt := Lib.hid hat
    clear hown hgrow hat
    have G5 := Lib.hid (M3.out.grown hT.out HGr.out)
    have hHeld5 := Lib.hid G5.out.2.2
    refine hK.out _ _ hHeld5 (fun hHeld => ?_)
    clear hK
    try simp only [List.setIfInBounds_toArray, List.set_cons_zero, List.set_cons_succ]
    refine wpAnyH_take (i := 8) (oi := ⟨some 41, _, _, _, _, _⟩) (v := ?v17) rfl (by kernel_rfl) (by kernel_rfl) (by kernel_rfl) (fun _ _ _ h => h) (Or.inl ⟨by rfl, ?y17⟩) (by assumption) ?r17
    case y17 => intro w hSw; clear hSw; go_simp; (try with_reducible rfl)
    simp only [Act.put, List.setIfInBounds_toArray, List.set_cons_zero, List.set_cons_succ]
    refine wpAnyH_take (i := 9) (oi := ⟨some 42, _, _, _, _, _⟩) (v := ?v18) rfl (by kernel_rfl) (by kernel_rfl) (by kernel_rfl) (fun _ _ _ h => h) (Or.inl ⟨by rfl, ?y18⟩) (by assumption) ?r18
    case y18 => intro w hSw; clear hSw; go_simp; (try with_reducible rfl)
    simp only [Act.put, List.setIfInBounds_toArray, List.set_cons_zero, List.set_cons_succ]
    refine wpAnyH_ready (rs := [10]) (by kernel_rfl) (by simp) ?_
    refine AllReadyH.cons (o := ⟨none, _, _, _, _, _⟩) rfl (fun K hK => ?_) AllReadyH.nil
    have c3 : w5.cell? ⟨m, o + 1, none⟩ = some v := by obtain ⟨cs5, a1, a2, _⟩ := G5.out.1; exact a1.cell a2.v
    have y3 : w5.frozen? ⟨m, o + 1, none⟩ = false := by obtain ⟨cs5, a1, a2, _⟩ := G5.out.1; exact a1.free _
    have hne10 : W.heap.size ≠ m := HMz.out
    go_simp
    refine hK.out _ _ (Lib.hid (hHeld5.out.set_other _ _ hne10)) (fun hHeld => ?_)
    clear hK
    try simp only [List.setIfInBounds_toArray, List.set_cons_zero, List.set_cons_succ]
    refine wpAnyH_done (by kernel_rfl) ?_ _
    skip
  all_goals
    have HH : Hid (W.heap.size < wd.heap.size + 1) := Lib.hid (Nat.lt_succ_of_le M1.out.fr.size)
    have HF : Hid (ROwn B w5 (.slice (some ⟨g5, 0, none⟩) (s.l ++ [p]).length cap) (s.l ++ [p])) := Lib.hid (by
      unfold ROwn; rw [EF.out, List.length_append]; exact HOn.out)
    have HP := Lib.hid (M3.out.appended (r := .bool true) (n' := Pl.addS s.n x) hT.out HGr.out HF.out HAt.out HH.out)
    go_wp2_with fail
    go_ret
    rw [EQ.out]
    have e : (s.l ++ [p]).length = s.l.length + 1 := by simp
    rw [e] at HP
    exact HP.out

end Go.Proofs.Yteolchbeiidapaa
