/- The document's box (goitref18.Box), at any offset of a block, over this translation: where it lies; Put. -/
import Derived.Test.YtlhgiboajnhahaaJl
import Derived.Test.YtlhgiboajnhahaaR1d
import Derived.Deep.AppendLies
import Derived.Deep.RegionHeld3
set_option linter.unusedVariables false
namespace Go.Proofs.Ytlhgiboajnhahaa
open Go.RowKit

theorem jdue_info : (Try.prog.info? 47).map (fun i => (i.zero, i.size, i.bytes)) = some (some (.agg #[.int .u64 0, .int .u64 0, .int .u64 0, .int .u64 0, .int .u64 0, .int .u64 0, .bool false, .int .u64 0]), 8, 64) := by kernel_rfl
theorem jfr_gr {w w' : World} {row : Option Nat} {L : List Nat} (h : w.grownBy w' row) (hr : ∀ b, row = some b → b ∈ L) : Fr w w' L :=
  ⟨h.os, h.tape, h.output, h.size, fun k hk hn => h.block k hk (fun e => hn (hr k e.symm))⟩
/-- Where the document's box lies: its delay, jitter, parcels, and when the last one was due. -/
structure JCells (cs : Array Value) (o : Nat) (s : BxS) (v : Value) : Prop where
  d : cs[o]? = some (.int .u64 (s.delay : Int))
  j : cs[o + 1]? = some (.int .u64 (s.jit : Int))
  v : cs[o + 2]? = some v
  t : cs[o + 3]? = some (.int .u64 (s.last : Int))
theorem JCells.setv {cs : Array Value} {o : Nat} {s : BxS} {v : Value} (h : JCells cs o s v) (v' : Value) (l : List Jp) : JCells (cs.setIfInBounds (o + 2) v') o ⟨s.delay, s.jit, l, s.last⟩ v' := by
  have hv := (Array.getElem?_eq_some_iff.1 h.v).1
  exact ⟨by rw [Array.getElem?_setIfInBounds_ne (by omega)]; exact h.d, by rw [Array.getElem?_setIfInBounds_ne (by omega)]; exact h.j, Array.getElem?_setIfInBounds_self_of_lt hv, by rw [Array.getElem?_setIfInBounds_ne (by omega)]; exact h.t⟩
theorem JCells.sett {cs : Array Value} {o : Nat} {s : BxS} {v : Value} (h : JCells cs o s v) (t : Nat) : JCells (cs.setIfInBounds (o + 3) (.int .u64 (t : Int))) o ⟨s.delay, s.jit, s.l, t⟩ v := by
  have hv := (Array.getElem?_eq_some_iff.1 h.t).1
  exact ⟨by rw [Array.getElem?_setIfInBounds_ne (by omega)]; exact h.d, by rw [Array.getElem?_setIfInBounds_ne (by omega)]; exact h.j, by rw [Array.getElem?_setIfInBounds_ne (by omega)]; exact h.v, Array.getElem?_setIfInBounds_self_of_lt hv⟩

/-- What a call of the document's box leaves. -/
structure RJPost (W : World) (m o B : Nat) (T : TypeId) (cs : Array Value) (v : Value) (r : Value) (s : BxS) (e : Ending) (w : World) : Prop where
  e : e = .returned r
  at_ : ∃ v' cs', Blk w m T cs' ∧ JCells cs' o s v' ∧ cs'.size = cs.size ∧ (∀ i, i < o ∨ o + 4 ≤ i → cs'[i]? = cs[i]?) ∧ SOwn 47 B w v' s.l ∧ (sb v' m = sb v m ∨ W.heap.size ≤ sb v' m)
  fr : Fr W w [m, sb v m]
/-- What holds while the document's box is changed. -/
structure RJ (W : World) (m o B : Nat) (T : TypeId) (cs : Array Value) (v : Value) (s : BxS) (v' : Value) (w : World) : Prop where
  at_ : ∃ cs', Blk w m T cs' ∧ JCells cs' o s v' ∧ cs'.size = cs.size ∧ (∀ i, i < o ∨ o + 4 ≤ i → cs'[i]? = cs[i]?)
  own : SOwn 47 B w v' s.l
  new : sb v' m = sb v m ∨ W.heap.size ≤ sb v' m
  fr : Fr W w [m, sb v m]
  mz : m < W.heap.size
theorem RJ.post {W w : World} {m o B : Nat} {T : TypeId} {cs : Array Value} {v v' r : Value} {s : BxS} (h : RJ W m o B T cs v s v' w) : RJPost W m o B T cs v r s (.returned r) w :=
  ⟨rfl, by obtain ⟨cs', h1, h2, h3, h4⟩ := h.at_; exact ⟨v', cs', h1, h2, h3, h4, h.own, h.new⟩, h.fr⟩
theorem RJ.to {W w w' : World} {m o B : Nat} {T : TypeId} {cs : Array Value} {v v' : Value} {s : BxS} (h : RJ W m o B T cs v s v' w) (k : Below w.heap.size w w') : RJ W m o B T cs v s v' w' :=
  ⟨by obtain ⟨cs', h1, h2⟩ := h.at_; exact ⟨cs', h1.keep k, h2⟩, h.own.keep k, h.new, h.fr.below k, h.mz⟩
theorem RJ.start {W : World} {m o B : Nat} {T : TypeId} {cs : Array Value} {v : Value} {s : BxS} (h : Blk W m T cs) (hk : JCells cs o s v) (ho : SOwn 47 B W v s.l) : RJ W m o B T cs v s v W :=
  ⟨⟨cs, h, hk, rfl, fun _ _ => rfl⟩, ho, .inl rfl, Fr.refl _ _, h.lt⟩
theorem RJ.cells {W w : World} {m o B : Nat} {T : TypeId} {cs : Array Value} {v v' : Value} {s : BxS} (h : RJ W m o B T cs v s v' w) : w.cell? ⟨m, o, none⟩ = some (.int .u64 (s.delay : Int)) ∧ w.cell? ⟨m, o + 1, none⟩ = some (.int .u64 (s.jit : Int)) ∧ w.cell? ⟨m, o + 2, none⟩ = some v' ∧ w.cell? ⟨m, o + 3, none⟩ = some (.int .u64 (s.last : Int)) ∧ ∀ i, w.frozen? ⟨m, i, none⟩ = false := by
  obtain ⟨cs', h1, h2, _⟩ := h.at_
  exact ⟨h1.cell h2.d, h1.cell h2.j, h1.cell h2.v, h1.cell h2.t, fun i => h1.free i⟩
theorem RJ.mne {W w : World} {m o B : Nat} {T U : TypeId} {cs : Array Value} {v v' : Value} {s : BxS} (h : RJ W m o B T cs v s v' w) (hT : T ≠ U) : ∀ g ds, Blk w g U ds → g ≠ m := fun g ds hb => by
  obtain ⟨cs', h1, _⟩ := h.at_
  exact hb.ty h1 (Ne.symm hT)
theorem RJ.sett {W w : World} {m o B : Nat} {T : TypeId} {cs : Array Value} {v v' : Value} {s : BxS} (hT : T ≠ 47) (h : RJ W m o B T cs v s v' w) (t : Nat) : RJ W m o B T cs v ⟨s.delay, s.jit, s.l, t⟩ v' (w.setCell ⟨m, o + 3, none⟩ (.int .u64 (t : Int))) := by
  have hm := h.mne hT
  obtain ⟨cs', h1, h2, h3, h4⟩ := h.at_
  exact ⟨⟨_, h1.set _ _, h2.sett t, by simpa using h3, fun j hj => by rw [Array.getElem?_setIfInBounds_ne (by omega)]; exact h4 j hj⟩, h.own.blk (fun g ds _ hb => hb.set_other _ _ (hm g ds hb)), h.new, h.fr.set (.inl (by simp)) _ _, h.mz⟩
theorem RJ.setv {W w : World} {m o B : Nat} {T : TypeId} {cs : Array Value} {v v1 v' : Value} {s : BxS} {l' : List Jp} (hT : T ≠ 47) (h : RJ W m o B T cs v s v1 w) (hown : SOwn 47 B w v' l') (hnew : sb v' m = sb v m ∨ W.heap.size ≤ sb v' m) :
    RJ W m o B T cs v ⟨s.delay, s.jit, l', s.last⟩ v' (w.setCell ⟨m, o + 2, none⟩ v') := by
  have hm := h.mne hT
  obtain ⟨cs', h1, h2, h3, h4⟩ := h.at_
  exact ⟨⟨_, h1.set (o + 2) v', h2.setv v' l', by simpa using h3, fun j hj => by rw [Array.getElem?_setIfInBounds_ne (by omega)]; exact h4 j hj⟩, hown.blk (fun g ds _ hb => hb.set_other _ _ (hm g ds hb)), hnew, h.fr.set (.inl (by simp)) _ _, h.mz⟩
/-- Behind an append to its parcels. -/
theorem RJ.grown {W wA w5 : World} {m o B : Nat} {T : TypeId} {cs : Array Value} {v : Value} {s : BxS} (hT : T ≠ 47) (h : RJ W m o B T cs v s v wA) (hg : wA.grownBy w5 v.ownBlock) :
    (∃ cs', Blk w5 m T cs' ∧ JCells cs' o s v ∧ cs'.size = cs.size ∧ (∀ i, i < o ∨ o + 4 ≤ i → cs'[i]? = cs[i]?)) ∧ Fr W w5 [m, sb v m] := by
  have hm := h.mne hT
  have hv : ∀ g, v.ownBlock = some g → g ≠ m ∧ sb v m = g := fun g e => by
    obtain ⟨_, ds, hd⟩ := h.own.own g e
    exact ⟨hm _ _ hd, by unfold sb; rw [e]; rfl⟩
  obtain ⟨cs', h1, h2⟩ := h.at_
  exact ⟨⟨cs', h1.grown hg (fun e => (hv m e.symm).1 rfl), h2⟩, h.fr.trans (jfr_gr (L := [m, sb v m]) hg (fun b e => by rw [(hv b e).2]; simp)) (fun x hx => .inl hx)⟩
theorem RJ.appended {W wA w5 : World} {m o B g cap H : Nat} {T : TypeId} {cs : Array Value} {v r : Value} {s : BxS} {l' : List Jp} (hT : T ≠ 47) (h : RJ W m o B T cs v s v wA) (hg : wA.grownBy w5 v.ownBlock)
    (hown : SOwn 47 B w5 (.slice (some ⟨g, 0, none⟩) l'.length cap) l') (hat : v.ownBlock = some g ∨ g = H) (hH : W.heap.size ≤ H) :
    RJPost W m o B T cs v r ⟨s.delay, s.jit, l', s.last⟩ (.returned r) (w5.setCell ⟨m, o + 2, none⟩ (.slice (some ⟨g, 0, none⟩) l'.length cap)) := by
  obtain ⟨⟨cs', h1, h2, h3, h4⟩, h5⟩ := h.grown hT hg
  have hb : sb (.slice (some ⟨g, 0, none⟩) l'.length cap) m = g := rfl
  refine ⟨rfl, ⟨_, _, h1.set (o + 2) _, h2.setv _ l', by simpa using h3, fun i hi => by rw [Array.getElem?_setIfInBounds_ne (by omega)]; exact h4 i hi, hown.blk (fun b ds _ k => k.set_other _ _ (k.ty h1 (Ne.symm hT))), ?_⟩, h5.set (.inl (by simp)) _ _⟩
  rw [hb]
  rcases hat with e | e
  · left; unfold sb; rw [e]; rfl
  · right; omega
theorem rj_r {W : World} {m o B : Nat} {T : TypeId} {cs : Array Value} {v v' : Value} {s : BxS} : (∀ w, Hid (RJ W m o B T cs v s v' w) → w.cell? ⟨m, o, none⟩ = some (.int .u64 (s.delay : Int))) ∧ (∀ w, Hid (RJ W m o B T cs v s v' w) → w.cell? ⟨m, o + 1, none⟩ = some (.int .u64 (s.jit : Int))) :=
  ⟨fun w h => h.out.cells.1, fun w h => h.out.cells.2.1⟩

set_option maxHeartbeats 2000000 in
theorem rj_Put (m o B : Nat) (T : TypeId) (cs : Array Value) (v : Value) (p : Pk) (now ch : Nat) (s : BxS) (W : World) (hT : T ≠ 47) (hB : B ≤ W.heap.size) (hb : Blk W m T cs) (hk : JCells cs o s v) (hr : SOwn 47 B W v s.l) (ho : s.ok) (hf : s.l.length ≤ 1000) (hn : now ≤ 18446744073709551615) (hc : ch ≤ 18446744073709551615) :
    Calls Try.prog 12 #[.pointer (some ⟨m, o, none⟩), p.agg, .int .u64 (now : Int), .int .u64 (ch : Int)] W (RJPost W m o B T cs v (.int .u64 ((s.dueB now ch : Nat) : Int)) (s.putB p now ch)) := by
  obtain ⟨i0, hi0, hz0, hz1, hz2⟩ := info_parts jdue_info
  have HI := Lib.hid hi0
  have HZ0 := Lib.hid hz0
  have HZ1 := Lib.hid hz1
  have HZ2 := Lib.hid hz2
  have HMz : Hid (W.heap.size ≠ m) := Lib.hid (Ne.symm hb.old)
  have HBs := Lib.hid hB
  have K0 := Lib.hid ((RJ.start hb hk hr).to (al_be W (.cells (Itm.cs p).toArray 39)))
  have B0 := Lib.hid (Blk.new W 39 (Itm.cs p).toArray)
  have A1 := Lib.hid (fun w => ref_Add now s.delay w hn ho.delay)
  have A2 := Lib.hid (fun w => ref_Add (Pl.addS now s.delay) (min ch s.jit) w (Pl.addS_le _ _) (by omega))
  have hmin : (if s.jit < ch then (s.jit : Int) else (ch : Int)) = ((min ch s.jit : Nat) : Int) := by split <;> omega
  have hmin2 : min (ch : Int) (s.jit : Int) = ((min ch s.jit : Nat) : Int) := by omega
  have hmx : Hid ((if s.ownT now ch < s.last then (s.last : Int) else ((s.ownT now ch : Nat) : Int)) = ((s.dueB now ch : Nat) : Int)) := Lib.hid (by unfold BxS.dueB; split <;> omega)
  have hT := Lib.hid hT
  have EQ : Hid (s.putB p now ch = ⟨s.delay, s.jit, s.l ++ [⟨p, s.dueB now ch⟩], s.dueB now ch⟩) := Lib.hid rfl
  have HE : Hid (Pl.addS (Pl.addS now s.delay) (min ch s.jit) = s.ownT now ch) := Lib.hid rfl
  have HOne := Lib.hid (Itm.one (Jp.mk p (s.dueB now ch)))
  have hcj : Hid (Itm.cs (Jp.mk p (s.dueB now ch)) = Itm.cs p ++ [.int .u64 ((s.dueB now ch : Nat) : Int)]) := Lib.hid rfl
  clear hb hk hr ho hi0 hz0 hz1 hz2 hB hn hc
  obtain ⟨q0, q1⟩ := rj_r (W := W) (m := m) (o := o) (B := B) (T := T) (cs := cs) (v := v) (v' := v) (s := s)
  unfold Pk.agg
  go_enter Try.func12, Try.ntmps12
  go_upto_region 1 with fail
  change Code.wp _ _ _ _ (W.alloc (.cells (Itm.cs p).toArray 39))
  have hu := Try.underlying39
  have hi : (Try.prog.info? 39).map (·.size) = some (Itm.cs p).length := by rw [Itm.len]; kernel_rfl
  generalize W.alloc (.cells (Itm.cs p).toArray 39) = w0 at *
  rw [HE.out] at A2
  generalize Pl.addS now s.delay = u1 at *
  generalize min ch s.jit = mi at *
  generalize s.ownT now ch = T1 at *
  generalize s.dueB now ch = D at *
  generalize hcs : Itm.cs p = c at *
  have HCs := Lib.hid hcs
  clear hcs
  have k0 := K0.out.cells.1
  have k1 := K0.out.cells.2.1
  have k3 := K0.out.cells.2.2.2.1
  have y3 := K0.out.cells.2.2.2.2 (o + 3)
  have A1q : Hid (∀ n, Calls Try.prog 21 #[.int .u64 (now : Int), .int .u64 (s.delay : Int)] (w0.drewN n) fun e w' => e = .returned (.int .u64 (u1 : Int)) ∧ w' = w0.drewN n) := Lib.hid (fun n => (A1.out _).mono fun _ _ k => ⟨k.1, k.2.symm⟩)
  have A2q : Hid (∀ n, Calls Try.prog 21 #[.int .u64 (u1 : Int), .int .u64 (mi : Int)] (w0.drewN n) fun e w' => e = .returned (.int .u64 (T1 : Int)) ∧ w' = w0.drewN n) := Lib.hid (fun n => (A2.out _).mono fun _ _ k => ⟨k.1, k.2.symm⟩)
  clear A1 A2
  go_wp2_with fail
  go_quiet (first | (go_at_call 21; with_reducible exact Calls.quiet_of_same (A1q.out _)) | (go_at_call 21; with_reducible exact Calls.quiet_of_same (A2q.out _)))
  have HDr := Lib.hid (show Drawn w0 (w0.drewN nq) from ⟨nq, rfl⟩)
  have K1 := Lib.hid (K0.out.to (HDr.out.below _))
  have B1 := Lib.hid (HDr.out.blk B0.out)
  generalize w0.drewN nq = w1 at *
  clear K0 HDr k0 k1 k3 y3 A1q A2q hmin hmin2 q0 q1 B0
  have k3 := K1.out.cells.2.2.2.1
  have y3 := K1.out.cells.2.2.2.2 (o + 3)
  have e4 := hmx.out
  have M0 := Lib.hid (K1.out.sett hT.out D)
  have Bz0 := Lib.hid (B1.out.set_other (o + 3) (.int .u64 (D : Int)) HMz.out)
  have HBs : Hid (B ≤ (w1.setCell ⟨m, o + 3, none⟩ (.int .u64 (D : Int))).drew.heap.size) := Lib.hid (Nat.le_trans HBs.out M0.out.fr.size)
  obtain ⟨v0, v1, v2, v3, v4, v5, v6, rfl⟩ : ∃ v0 v1 v2 v3 v4 v5 v6, c = [v0, v1, v2, v3, v4, v5, v6] := ⟨_, _, _, _, _, _, _, HCs.out.symm⟩
  rw [hcj.out] at HOne
  simp only [List.cons_append, List.nil_append] at HOne
  go_wp2_with fail
  clear k3 y3 e4 hmx K1 B1
  generalize (w1.setCell ⟨m, o + 3, none⟩ (.int .u64 (D : Int))) = w3 at *
  have M1 := Lib.hid (M0.out.to ((Drawn.drew w3).below _))
  have hBz := Lib.hid (show Blk w3.drew W.heap.size 39 [v0, v1, v2, v3, v4, v5, v6].toArray from Bz0.out.drew)
  clear M0 Bz0
  refine wp_region_held_drew (S := (fun w' => Hid (Blk w' W.heap.size 39 [v0, v1, v2, v3, v4, v5, v6].toArray))) (by kernel_rfl) hBz (fun hHeld => ?_)
  generalize w3.drew = wd at *
  simp only [List.size_toArray, List.length_cons, List.length_nil, Nat.reduceAdd, Array.replicate_succ, Array.replicate_zero, List.push_toArray, List.nil_append, List.cons_append]
  refine' wpAnyH_take (i := 5) (oi := ⟨some 38, _, _, _, _, _⟩) (v := _) rfl (by kernel_rfl) (by kernel_rfl) (by kernel_rfl) (fun _ _ _ h => h) (yieldsIf_load_mid (by rfl) _ _ rfl _ _ rfl _ _ ?hS1 hu rfl hi) (by assumption) ?r1
  case hS1 => intro w hSw; exact hSw.out.range0
  simp only [Act.put, List.setIfInBounds_toArray, List.set_cons_zero, List.set_cons_succ]
  refine wpAnyH_take (i := 0) (oi := ⟨some 33, _, _, _, _, _⟩) (v := ?v2) rfl (by kernel_rfl) (by kernel_rfl) (by kernel_rfl) (fun _ _ _ h => h) (Or.inl ⟨by rfl, ?y2⟩) (by assumption) ?r2
  case y2 => intro w hSw; clear hSw; go_simp; (try with_reducible rfl)
  simp only [Act.put, List.setIfInBounds_toArray, List.set_cons_zero, List.set_cons_succ]
  refine wpAnyH_take (i := 1) (oi := ⟨some 34, _, _, _, _, _⟩) (v := ?v3) rfl (by kernel_rfl) (by kernel_rfl) (by kernel_rfl) (fun _ _ _ h => h) (Or.inl ⟨by rfl, ?y3⟩) (by assumption) ?r3
  case y3 => intro w hSw; clear hSw; go_simp; (try with_reducible rfl)
  simp only [Act.put, List.setIfInBounds_toArray, List.set_cons_zero, List.set_cons_succ]
  refine wpAnyH_take (i := 2) (oi := ⟨some 35, _, _, _, _, _⟩) (v := ?v4) rfl (by kernel_rfl) (by kernel_rfl) (by kernel_rfl) (fun _ _ _ h => h) (Or.inl ⟨by rfl, ?y4⟩) (by assumption) ?r4
  case y4 => intro w hSw; clear hSw; go_simp; (try with_reducible rfl)
  simp only [Act.put, List.setIfInBounds_toArray, List.set_cons_zero, List.set_cons_succ]
  refine wpAnyH_take (i := 3) (oi := ⟨some 36, _, _, _, _, _⟩) (v := ?v5) rfl (by kernel_rfl) (by kernel_rfl) (by kernel_rfl) (fun _ _ _ h => h) (Or.inl ⟨by rfl, ?y5⟩) (by assumption) ?r5
  case y5 => intro w hSw; clear hSw; go_simp; (try with_reducible rfl)
  simp only [Act.put, List.setIfInBounds_toArray, List.set_cons_zero, List.set_cons_succ]
  refine wpAnyH_take (i := 6) (oi := ⟨some 39, _, _, _, _, _⟩) (v := ?v6) rfl (by kernel_rfl) (by kernel_rfl) (by kernel_rfl) (fun _ _ _ h => h) (Or.inl ⟨by rfl, ?y6⟩) (by assumption) ?r6
  case y6 => intro w hSw; clear hSw; go_simp; (try with_reducible rfl)
  simp only [Act.put, List.setIfInBounds_toArray, List.set_cons_zero, List.set_cons_succ]
  refine wpAnyH_take (i := 7) (oi := ⟨some 40, _, _, _, _, _⟩) (v := ?v7) rfl (by kernel_rfl) (by kernel_rfl) (by kernel_rfl) (fun _ _ _ h => h) (Or.inl ⟨by rfl, ?y7⟩) (by assumption) ?r7
  case y7 => intro w hSw; clear hSw; go_simp; (try with_reducible rfl)
  simp only [Act.put, List.setIfInBounds_toArray, List.set_cons_zero, List.set_cons_succ]
  refine wpAnyH_ready (rs := [4, 8]) (by kernel_rfl) (by simp) ?_
  refine AllReadyH.cons (o := ⟨some 37, _, _, _, _, _⟩) rfl (fun K hK => ?k8) ?m8
  case' k8 =>
    first | have c3 := M3.out.cells.2.2.1 | have c3 := M1.out.cells.2.2.1
    go_simp
    refine hK.out _ _ hHeld (fun hHeld => ?_)
    clear hK
    try simp only [List.setIfInBounds_toArray, List.set_cons_zero, List.set_cons_succ]
    refine wpAnyH_ready (rs := [8]) (by kernel_rfl) (by simp) ?_
    refine AllReadyH.cons (o := ⟨some 41, _, _, _, _, _⟩) rfl (fun K hK => ?_) AllReadyH.nil
    have M3 := Lib.hid (M1.out.to (al_be wd (.cells #[v0, v1, v2, v3, v4, v5, v6, .int .u64 (D : Int)] 47)))
    have HNw := Lib.hid (Blk.new wd 47 #[v0, v1, v2, v3, v4, v5, v6, .int .u64 (D : Int)])
    have Bz3 := Lib.hid ((Hid.out (by assumption) : Blk wd W.heap.size 39 [v0, v1, v2, v3, v4, v5, v6].toArray).alloc (.cells #[v0, v1, v2, v3, v4, v5, v6, .int .u64 (D : Int)] 47))
    go_simp
    refine hK.out _ _ Bz3 (fun hHeld => ?_)
    clear hK
    try simp only [List.setIfInBounds_toArray, List.set_cons_zero, List.set_cons_succ]
    refine wpAnyH_ready (rs := [9]) (by kernel_rfl) (by simp) ?_
    refine AllReadyH.cons (o := ⟨some 42, _, _, _, _, _⟩) rfl (fun K hK => ?_) AllReadyH.nil
    ((refine step_append_lies _ (by rfl) _ _ _ (by rfl) B 47 i0 (.agg #[.int .u64 0, .int .u64 0, .int .u64 0, .int .u64 0, .int .u64 0, .int .u64 0, .bool false, .int .u64 0]) 8 64 Try.underlying28 HI.out HZ0.out HZ1.out HZ2.out rfl (by decide) v s.l.length (s.l.flatMap Itm.cs) (by rfl) M3.out.own ⟨wd.heap.size, 0, none⟩ 1 1 [v0, v1, v2, v3, v4, v5, v6, .int .u64 (D : Int)] (by rfl) (by rfl) (World.news_of_block HNw.out) HOne.out (by decide) (by unfold maxLen; omega) (by omega) (Nat.le_trans HBs.out (by simp)) (wd.heap.size + 1) (by simp) ?_); intro g5 cap w5 hown hgrow hat hltg)
    have HOn := Lib.hid hown
    have HGr := Lib.hid hgrow
    have HAt := Lib.hid hat
    have G5 := Lib.hid (M3.out.grown hT.out hgrow)
    have hHeld5 := Lib.hid (Bz3.out.grown hgrow (fun e => by obtain ⟨_, ds, hd⟩ := M3.out.own.own _ e.symm; exact Bz3.out.ty hd (by decide) rfl))
    clear hown hgrow hat
    refine hK.out _ _ hHeld5 (fun hHeld => ?_)
    clear hK
    try simp only [List.setIfInBounds_toArray, List.set_cons_zero, List.set_cons_succ]
    refine wpAnyH_take (i := 10) (oi := ⟨some 43, _, _, _, _, _⟩) (v := ?v9) rfl (by kernel_rfl) (by kernel_rfl) (by kernel_rfl) (fun _ _ _ h => h) (Or.inl ⟨by rfl, ?y9⟩) (by assumption) ?r9
    case y9 => intro w hSw; clear hSw; go_simp; (try with_reducible rfl)
    simp only [Act.put, List.setIfInBounds_toArray, List.set_cons_zero, List.set_cons_succ]
    refine wpAnyH_take (i := 11) (oi := ⟨some 44, _, _, _, _, _⟩) (v := ?v10) rfl (by kernel_rfl) (by kernel_rfl) (by kernel_rfl) (fun _ _ _ h => h) (Or.inl ⟨by rfl, ?y10⟩) (by assumption) ?r10
    case y10 => intro w hSw; clear hSw; go_simp; (try with_reducible rfl)
    simp only [Act.put, List.setIfInBounds_toArray, List.set_cons_zero, List.set_cons_succ]
    refine wpAnyH_ready (rs := [12]) (by kernel_rfl) (by simp) ?_
    refine AllReadyH.cons (o := ⟨none, _, _, _, _, _⟩) rfl (fun K hK => ?_) AllReadyH.nil
    have c3 : w5.cell? ⟨m, o + 2, none⟩ = some v := by obtain ⟨cs5, a1, a2, _⟩ := G5.out.1; exact a1.cell a2.v
    have y3 : w5.frozen? ⟨m, o + 2, none⟩ = false := by obtain ⟨cs5, a1, a2, _⟩ := G5.out.1; exact a1.free _
    have hne10 : W.heap.size ≠ m := HMz.out
    go_simp
    refine hK.out _ _ (Lib.hid (hHeld5.out.set_other _ _ hne10)) (fun hHeld => ?_)
    clear hK
    try simp only [List.setIfInBounds_toArray, List.set_cons_zero, List.set_cons_succ]
    refine wpAnyH_done (by kernel_rfl) ?_ _
    skip
  case' m8 =>
    refine AllReadyH.cons (o := ⟨some 41, _, _, _, _, _⟩) rfl (fun K hK => ?_) AllReadyH.nil
    have M3 := Lib.hid (M1.out.to (al_be wd (.cells #[v0, v1, v2, v3, v4, v5, v6, .int .u64 (D : Int)] 47)))
    have HNw := Lib.hid (Blk.new wd 47 #[v0, v1, v2, v3, v4, v5, v6, .int .u64 (D : Int)])
    have Bz3 := Lib.hid ((Hid.out (by assumption) : Blk wd W.heap.size 39 [v0, v1, v2, v3, v4, v5, v6].toArray).alloc (.cells #[v0, v1, v2, v3, v4, v5, v6, .int .u64 (D : Int)] 47))
    go_simp
    refine hK.out _ _ Bz3 (fun hHeld => ?_)
    clear hK
    try simp only [List.setIfInBounds_toArray, List.set_cons_zero, List.set_cons_succ]
    refine wpAnyH_ready (rs := [4]) (by kernel_rfl) (by simp) ?_
    refine AllReadyH.cons (o := ⟨some 37, _, _, _, _, _⟩) rfl (fun K hK => ?_) AllReadyH.nil
    first | have c3 := M3.out.cells.2.2.1 | have c3 := M1.out.cells.2.2.1
    go_simp
    refine hK.out _ _ hHeld (fun hHeld => ?_)
    clear hK
    try simp only [List.setIfInBounds_toArray, List.set_cons_zero, List.set_cons_succ]
    refine wpAnyH_ready (rs := [9]) (by kernel_rfl) (by simp) ?_
    refine AllReadyH.cons (o := ⟨some 42, _, _, _, _, _⟩) rfl (fun K hK => ?_) AllReadyH.nil
    ((refine step_append_lies _ (by rfl) _ _ _ (by rfl) B 47 i0 (.agg #[.int .u64 0, .int .u64 0, .int .u64 0, .int .u64 0, .int .u64 0, .int .u64 0, .bool false, .int .u64 0]) 8 64 Try.underlying28 HI.out HZ0.out HZ1.out HZ2.out rfl (by decide) v s.l.length (s.l.flatMap Itm.cs) (by rfl) M3.out.own ⟨wd.heap.size, 0, none⟩ 1 1 [v0, v1, v2, v3, v4, v5, v6, .int .u64 (D : Int)] (by rfl) (by rfl) (World.news_of_block HNw.out) HOne.out (by decide) (by unfold maxLen; omega) (by omega) (Nat.le_trans HBs.out (by simp)) (wd.heap.size + 1) (by simp) ?_); intro g5 cap w5 hown hgrow hat hltg)
    have HOn := Lib.hid hown
    have HGr := Lib.hid hgrow
    have HAt := Lib.hid hat
    have G5 := Lib.hid (M3.out.grown hT.out hgrow)
    have hHeld5 := Lib.hid (Bz3.out.grown hgrow (fun e => by obtain ⟨_, ds, hd⟩ := M3.out.own.own _ e.symm; exact Bz3.out.ty hd (by decide) rfl))
    clear hown hgrow hat
    refine hK.out _ _ hHeld5 (fun hHeld => ?_)
    clear hK
    try simp only [List.setIfInBounds_toArray, List.set_cons_zero, List.set_cons_succ]
    refine wpAnyH_take (i := 10) (oi := ⟨some 43, _, _, _, _, _⟩) (v := ?v11) rfl (by kernel_rfl) (by kernel_rfl) (by kernel_rfl) (fun _ _ _ h => h) (Or.inl ⟨by rfl, ?y11⟩) (by assumption) ?r11
    case y11 => intro w hSw; clear hSw; go_simp; (try with_reducible rfl)
    simp only [Act.put, List.setIfInBounds_toArray, List.set_cons_zero, List.set_cons_succ]
    refine wpAnyH_take (i := 11) (oi := ⟨some 44, _, _, _, _, _⟩) (v := ?v12) rfl (by kernel_rfl) (by kernel_rfl) (by kernel_rfl) (fun _ _ _ h => h) (Or.inl ⟨by rfl, ?y12⟩) (by assumption) ?r12
    case y12 => intro w hSw; clear hSw; go_simp; (try with_reducible rfl)
    simp only [Act.put, List.setIfInBounds_toArray, List.set_cons_zero, List.set_cons_succ]
    refine wpAnyH_ready (rs := [12]) (by kernel_rfl) (by simp) ?_
    refine AllReadyH.cons (o := ⟨none, _, _, _, _, _⟩) rfl (fun K hK => ?_) AllReadyH.nil
    have c3 : w5.cell? ⟨m, o + 2, none⟩ = some v := by obtain ⟨cs5, a1, a2, _⟩ := G5.out.1; exact a1.cell a2.v
    have y3 : w5.frozen? ⟨m, o + 2, none⟩ = false := by obtain ⟨cs5, a1, a2, _⟩ := G5.out.1; exact a1.free _
    have hne10 : W.heap.size ≠ m := HMz.out
    go_simp
    refine hK.out _ _ (Lib.hid (hHeld5.out.set_other _ _ hne10)) (fun hHeld => ?_)
    clear hK
    try simp only [List.setIfInBounds_toArray, List.set_cons_zero, List.set_cons_succ]
    refine wpAnyH_done (by kernel_rfl) ?_ _
    skip
  all_goals
    have HH : Hid (W.heap.size ≤ wd.heap.size + 1) := Lib.hid (Nat.le_trans M1.out.fr.size (Nat.le_succ _))
    have HF : Hid (SOwn 47 B w5 (.slice (some ⟨g5, 0, none⟩) (s.l ++ [Jp.mk p D]).length cap) (s.l ++ [Jp.mk p D])) := Lib.hid (by
      have := HOn.out
      unfold SOwn
      rw [List.length_append, List.flatMap_append, List.flatMap_cons, List.flatMap_nil, List.append_nil, hcj.out]
      exact this)
    have HP := Lib.hid (M3.out.appended (r := .int .u64 (D : Int)) hT.out HGr.out HF.out HAt.out HH.out)
    go_wp2_with fail
    go_ret
    rw [EQ.out]
    have e : (s.l ++ [Jp.mk p D]).length = s.l.length + 1 := by simp
    rw [e] at HP
    exact HP.out

end Go.Proofs.Ytlhgiboajnhahaa
