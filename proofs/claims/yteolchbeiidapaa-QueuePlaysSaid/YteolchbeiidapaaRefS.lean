/- The document's queue (goitref18.Queue), over this translation: Shift; Put in one. -/
import Derived.Test.YteolchbeiidapaaRefR
import Derived.Maps.AppendAt
set_option linter.unusedVariables false
namespace Go.Proofs.Yteolchbeiidapaa
open Go.RowKit

theorem rq_Put (m o B : Nat) (T : TypeId) (cs : Array Value) (v : Value) (p : Pk) (s : QK) (W : World) (hT : T ≠ 36) (hB : B ≤ W.heap.size) (hb : Blk W m T cs) (hk : RCells cs o s v) (hr : ROwn B W v s.l) (ho : s.ok) (hf : s.l.length ≤ 1000) (hp : p.size ≤ 18446744073709551615) (hn : sumQ s.l = s.n) (hle : s.n ≤ s.room) :
    Calls Try.prog 10 #[.pointer (some ⟨m, o, none⟩), p.agg] W (RQPost W m o B T cs v (.bool (s.putB p)) (s.putQ p)) := by
  unfold QK.putB QK.putQ Pl.subS
  by_cases c : p.size ≤ s.room - s.n
  · rw [if_pos c, decide_eq_true c]; exact rq_Put_yes m o B T cs v p s W hT hB hb hk hr ho hf hp (by omega) (by omega)
  · rw [if_neg c, decide_eq_false c]; exact rq_Put_no m o B T cs v p s W hT hb hk hr ho hf hp (by omega) (by omega)

theorem RM.setv {W w : World} {m o B z : Nat} {T : TypeId} {cs : Array Value} {v v1 v' : Value} {c : List Value} {s : QK} {l' : List Pk} (n' : Nat) (hT : T ≠ 36) (h : RM W m o B z T cs v c s v1 w) (hown : ROwn B w v' l') (hnew : W.heap.size ≤ vb v' m) (hne : vb v' m ≠ z) :
    RM W m o B z T cs v c ⟨l', n', s.room, s.dr, s.lost⟩ v' (w.setCell ⟨m, o + 1, none⟩ v') := by
  have hm := h.mne hT
  obtain ⟨cs', h1, h2, h3, h4⟩ := h.at_
  exact ⟨⟨_, h1.set (o + 1) v', h2.setv v' l' n', by simpa using h3, fun j hj => by rw [Array.getElem?_setIfInBounds_ne (by omega)]; exact h4 j hj⟩, hown.blk (fun g ds _ hb => hb.set_other _ _ (hm g ds hb)), .inr hnew, hne, h.fr.set (.inl (by simp)) _ _, h.box.set_other _ _ (hm _ _ h.box), h.lo, h.mz⟩
theorem RQPost.boxed {W w0 w1 : World} {m o B : Nat} {T : TypeId} {cs : Array Value} {v r r2 : Value} {s : QK} {e : Ending} {ob : Obj} (hw : W.alloc ob = w0) (hm : m < W.heap.size) (hv : vb v m < W.heap.size) (h : RQPost w0 m o B T cs v r s e w1) (ds : List Value) : RQPost W m o B T cs v r2 s (.returned r2) (w1.setCells W.heap.size 0 ds) := by
  subst hw
  obtain ⟨_, ⟨v', cs', h1, h2, h3, h4, h5, h6⟩, f⟩ := h
  have e0 : (W.alloc ob).heap.size = W.heap.size + 1 := by simp
  have fz : Fr w1 (w1.setCells W.heap.size 0 ds) [W.heap.size] := Fr.sets (.inl (by simp)) ds 0 w1 (Fr.refl _ _)
  refine ⟨rfl, ⟨v', cs', h1.fr fz (by simp; omega), h2, h3, h4, h5.fr (m := m) fz (by simp; omega), by omega⟩, ?_⟩
  have f0 : Fr W w1 [m, vb v m] := ((Fr.refl W [m, vb v m]).alloc ob).trans f (fun x hx => .inl hx)
  exact f0.trans fz (fun x hx => .inr (by simp at hx; omega))
theorem rown_weak {B B' : Nat} {w : World} {v : Value} {l : List Pk} (h : B ≤ B') (k : w.ownsRow B' 36 7 v l.length (l.flatMap Itm.cs)) : ROwn B w v l := by
  obtain ⟨hl, k⟩ := k
  refine ⟨hl, ?_⟩
  rcases k with e | ⟨g, cap, cur, e, hb, r⟩
  · exact .inl e
  · exact .inr ⟨g, cap, cur, e, Nat.le_trans h hb, r⟩
theorem own_some {B n a b : Nat} {w : World} {v' : Value} {xs : List Value} (h : w.ownsRow B 36 7 v' n xs) (hat : v'.ownBlock = some a ∨ v'.ownBlock = some b) : ∃ g cap, v' = .slice (some ⟨g, 0, none⟩) n cap ∧ (g = a ∨ g = b) := by
  rcases h.2 with ⟨rfl, _⟩ | ⟨g, cap, cur, rfl, _⟩
  · rcases hat with e | e <;> cases e
  · exact ⟨g, cap, rfl, hat.imp Option.some.inj Option.some.inj⟩
theorem rown_empty {B : Nat} (w : World) (hB : B ≤ w.heap.size) : (w.alloc (.cells #[] 36)).ownsRow B 36 7 (.slice (some ⟨w.heap.size, 0, none⟩) 0 0) 0 [] :=
  ⟨rfl, .inr ⟨w.heap.size, 0, #[], rfl, hB, heap_alloc_new w _, Nat.le_refl _, by decide, rfl, rfl⟩⟩
/-- The packets behind the first one. -/
theorem its_rest {w : World} {g off : Nat} {x : Pk} {t : List Pk} (h : Its w (some ⟨g, off, none⟩) (x :: t)) : ∀ j u, (t.flatMap (Itm.cs (α := Pk)))[j]? = some u → w.cell? ((⟨g, off + 7, none⟩ : Addr).add j) = some u := fun j u hu => by
  obtain ⟨ad, e, hc⟩ := h.cells (by simp)
  injection e with e
  subst e
  have := hc (7 + j) u (by
    rw [List.flatMap_cons, List.getElem?_append_right (by rw [Itm.len]; show 7 ≤ 7 + j; omega), Itm.len]
    show (t.flatMap (Itm.cs (α := Pk)))[7 + j - 7]? = some u
    rw [show 7 + j - 7 = j by omega]; exact hu)
  rw [Go.WideShapes.add_plain] at this ⊢
  rw [show off + 7 + j = off + (7 + j) by omega]; exact this

set_option maxHeartbeats 1000000 in
theorem rq_Shift_nil (m o B : Nat) (T : TypeId) (cs : Array Value) (v : Value) (s : QK) (W : World) (hT : T ≠ 36) (hb : Blk W m T cs) (hk : RCells cs o s v) (hr : ROwn B W v s.l) (he : s.l = []) :
    Calls Try.prog 8 #[.pointer (some ⟨m, o, none⟩)] W (RQPost W m o B T cs v (.tuple #[(Itm.z : Pk).agg, .bool false]) s) := by
  obtain ⟨ao, cap, hv, hc1, hc2, _⟩ := hr.form
  rw [he] at hv hc1
  have k1 := (hb.alloc (.cells #[.int .u64 0, .int .u64 0, .int .u64 0, .int .u64 0, .int .u64 0, .int .u64 0, .bool false] 36)).cell hk.v
  rw [hv] at k1
  have Z0 := Lib.hid (Blk.new W 36 #[.int .u64 0, .int .u64 0, .int .u64 0, .int .u64 0, .int .u64 0, .int .u64 0, .bool false])
  have HP : Hid (RQPost (W.alloc (.cells #[.int .u64 0, .int .u64 0, .int .u64 0, .int .u64 0, .int .u64 0, .int .u64 0, .bool false] 36)) m o B T cs v (.tuple #[]) s (.returned (.tuple #[])) (W.alloc (.cells #[.int .u64 0, .int .u64 0, .int .u64 0, .int .u64 0, .int .u64 0, .int .u64 0, .bool false] 36))) := Lib.hid ⟨rfl, ⟨v, cs, hb.alloc _, hk, rfl, fun _ _ => rfl, hr.keep (al_be _ _), .inl rfl⟩, Fr.refl _ _⟩
  have Hm := Lib.hid hb.lt
  have Hvm := Lib.hid (hr.lt hb.lt)
  clear hb hk hr hc1 hc2
  go_enter Try.func8, Try.ntmps8
  go_upto_region 1 with fail
  generalize hw0 : W.alloc (.cells #[.int .u64 0, .int .u64 0, .int .u64 0, .int .u64 0, .int .u64 0, .int .u64 0, .bool false] 36) = w0 at *
  have HW0 := Lib.hid hw0
  clear hw0
  have r0 := Z0.out.cell (i := 0) (v := .int .u64 0) rfl
  have f0 := Z0.out.free 0
  have r1 := Z0.out.cell (i := 1) (v := .int .u64 0) rfl
  have f1 := Z0.out.free 1
  have r2 := Z0.out.cell (i := 2) (v := .int .u64 0) rfl
  have f2 := Z0.out.free 2
  have r3 := Z0.out.cell (i := 3) (v := .int .u64 0) rfl
  have f3 := Z0.out.free 3
  have r4 := Z0.out.cell (i := 4) (v := .int .u64 0) rfl
  have f4 := Z0.out.free 4
  have r5 := Z0.out.cell (i := 5) (v := .int .u64 0) rfl
  have f5 := Z0.out.free 5
  have r6 := Z0.out.cell (i := 6) (v := .bool false) rfl
  have f6 := Z0.out.free 6
  go_wp2_with fail
  have F1 := Blk.whole (Itm.cs (Itm.z : Pk)) Z0.out rfl
  exact bodyPost_ret (results_cell_tmp rfl _ _ W.heap.size 36 _ _ rfl F1 Try.underlying36 rfl (by kernel_rfl)) rfl (RQPost.boxed HW0.out Hm.out Hvm.out HP.out (Itm.cs (Itm.z : Pk)))

set_option maxHeartbeats 1000000 in
theorem rq_Shift_cons (m o B : Nat) (T : TypeId) (cs : Array Value) (v : Value) (s : QK) (x : Pk) (t : List Pk) (W : World) (hT : T ≠ 36) (hB : B ≤ W.heap.size) (hb : Blk W m T cs) (hk : RCells cs o s v) (hr : ROwn B W v s.l) (hf : s.l.length ≤ 1000) (he : s.l = x :: t) (n' : Nat) :
    Calls Try.prog 8 #[.pointer (some ⟨m, o, none⟩)] W (RQPost W m o B T cs v (.tuple #[x.agg, .bool true]) ⟨t, n', s.room, s.dr, s.lost⟩) := by
  obtain ⟨ao, cap, hv, hc1, hc2, hi, hg⟩ := hr.form
  obtain ⟨g, rfl, hvb⟩ := hg (by rw [he]; simp)
  rw [he] at hv hc1 hi hf
  have hvo : v = .slice (some ⟨g, 0, none⟩) (t.length + 1) cap := hv
  obtain ⟨i0, hi0, hz0, hz1, hz2⟩ := info_parts pkt_info
  have HI := Lib.hid hi0
  have HZ0 := Lib.hid hz0
  have HZ1 := Lib.hid hz1
  have HZ2 := Lib.hid hz2
  have k1 := (hb.alloc (.cells #[.int .u64 0, .int .u64 0, .int .u64 0, .int .u64 0, .int .u64 0, .int .u64 0, .bool false] 36)).cell hk.v
  rw [hvo] at k1
  have HR := Lib.hid (ROwn.keep hr (al_be W (.cells #[.int .u64 0, .int .u64 0, .int .u64 0, .int .u64 0, .int .u64 0, .int .u64 0, .bool false] 36)))
  have HIt := Lib.hid (hi.keep (al_be W (.cells #[.int .u64 0, .int .u64 0, .int .u64 0, .int .u64 0, .int .u64 0, .int .u64 0, .bool false] 36)))
  have Z0 := Lib.hid (Blk.new W 36 #[.int .u64 0, .int .u64 0, .int .u64 0, .int .u64 0, .int .u64 0, .int .u64 0, .bool false])
  have Hb0 := Lib.hid (hb.alloc (.cells #[.int .u64 0, .int .u64 0, .int .u64 0, .int .u64 0, .int .u64 0, .int .u64 0, .bool false] 36))
  have Hk := Lib.hid hk
  have Hm := Lib.hid hb.lt
  have Hvm := Lib.hid (hr.lt hb.lt)
  have HT := Lib.hid hT
  have HBs := Lib.hid (Nat.le_trans hB (al_be W (.cells #[.int .u64 0, .int .u64 0, .int .u64 0, .int .u64 0, .int .u64 0, .int .u64 0, .bool false] 36)).size)
  have HF : Hid (t.length ≤ 1000) := Lib.hid (by rw [List.length_cons] at hf; omega)
  have HE := Lib.hid he
  have Hvo := Lib.hid hvo
  rw [List.length_cons] at hc1
  clear hb hk hr hi he hv hvb hi0 hz0 hz1 hz2 hB hT hf hvo
  go_enter Try.func8, Try.ntmps8
  go_upto_region 1 with fail
  generalize hw0 : W.alloc (.cells #[.int .u64 0, .int .u64 0, .int .u64 0, .int .u64 0, .int .u64 0, .int .u64 0, .bool false] 36) = w0 at *
  have HW0 := Lib.hid hw0
  clear hw0
  obtain ⟨b', off, e1, _, hc⟩ := its_pk HIt.out (by simp)
  obtain ⟨x0, x1, x2, x3, x4, x5, x6⟩ := hc 0 (by simp) x rfl
  injection e1 with e1 e2
  subst e1 e2
  rw [Nat.zero_mul] at x0 x1 x2 x3 x4 x5 x6
  clear hc
  have hc2' : cap ≤ 9223372036854775807 := hc2
  go_upto_region 4 with fail
  have M2 := Lib.hid (RM.start Hb0.out Hk.out HR.out (Itm.cs x))
  change Code.wp _ _ _ _ (w0.alloc (.cells (Itm.cs x).toArray 36))
  have HIt2 := Lib.hid (HIt.out.keep (al_be w0 (.cells (Itm.cs x).toArray 36)))
  have Hz : Hid (w0.heap.size < (w0.alloc (.cells (Itm.cs x).toArray 36)).heap.size) := Lib.hid (by simp)
  generalize hcx : Itm.cs x = cx at *
  have Hcx := Lib.hid hcx
  clear hcx
  generalize (w0.alloc (.cells cx.toArray 36)) = w2 at *
  clear x0 x1 x2 x3 x4 x5 x6 k1
  have c2 := (M2.out.to (al_be w2 (.cells #[] 36))).cells.2.1
  rw [Hvo.out] at c2
  have HOE := Lib.hid (rown_empty (B := w0.heap.size) w2 (Nat.le_of_lt Hz.out))
  have HBa : Hid (w0.heap.size ≤ (w2.alloc (.cells #[] 36)).heap.size) := Lib.hid (Nat.le_trans (Nat.le_of_lt Hz.out) (al_be w2 (.cells #[] 36)).size)
  have HIt3 := Lib.hid (HIt2.out.keep (al_be w2 (.cells #[] 36)))
  have l1 : (1 : Int) ≤ ((t.length + 1 : Nat) : Int) := by omega
  have e1 : ((t.length : Int) + 1) - 1 = (t.length : Int) := by omega
  obtain rfl := Hcx.out
  by_cases hcap : cap = 1
  · subst hcap
    have ht : t = [] := List.eq_nil_of_length_eq_zero (by omega)
    subst ht
    have M3 := Lib.hid (M2.out.to (al_be w2 (.cells #[] 36)))
    have f2 := M3.out.cells.2.2.2.2 (o + 1)
    go_upto_region 5 with fail
    have M5 := Lib.hid (M3.out.setv (v' := .slice (some ⟨w2.heap.size, 0, none⟩) 0 0) (l' := []) n' HT.out (rown_weak (Nat.le_trans HBs.out (Nat.le_refl _)) (rown_empty (B := w0.heap.size) w2 (Nat.le_of_lt Hz.out))) (Nat.le_of_lt Hz.out) (Nat.ne_of_gt Hz.out))
    have P5 : RQPost w0 m o B T cs v (.tuple #[]) ⟨[], n', s.room, s.dr, s.lost⟩ (.returned (.tuple #[])) ((w2.alloc (.cells #[] 36)).setCell ⟨m, o + 1, none⟩ (.slice (some ⟨w2.heap.size, 0, none⟩) 0 0)) := M5.out.post
    have BX := Lib.hid (show Blk ((w2.alloc (.cells #[] 36)).setCell ⟨m, o + 1, none⟩ (.slice (some ⟨w2.heap.size, 0, none⟩) 0 0)) w0.heap.size 36 #[.int .u64 (x.n : Int), .int .u64 (x.size : Int), .int .u64 (x.sent : Int), .int .u64 (x.first : Int), .int .u64 (x.deliv : Int), .int .u64 (x.at_ : Int), .bool x.lim] from M5.out.box)
    have BZ := Lib.hid (Z0.out.fr M5.out.fr (by have := Hm.out; have := Hvm.out; simp; omega))
    clear M5
    generalize ((w2.alloc (.cells #[] 36)).setCell ⟨m, o + 1, none⟩ (.slice (some ⟨w2.heap.size, 0, none⟩) 0 0)) = w5 at *
    have y0 := BX.out.cell (i := 0) (v := .int .u64 (x.n : Int)) rfl
    have y1 := BX.out.cell (i := 1) (v := .int .u64 (x.size : Int)) rfl
    have y2 := BX.out.cell (i := 2) (v := .int .u64 (x.sent : Int)) rfl
    have y3 := BX.out.cell (i := 3) (v := .int .u64 (x.first : Int)) rfl
    have y4 := BX.out.cell (i := 4) (v := .int .u64 (x.deliv : Int)) rfl
    have y5 := BX.out.cell (i := 5) (v := .int .u64 (x.at_ : Int)) rfl
    have y6 := BX.out.cell (i := 6) (v := .bool x.lim) rfl
    have r0 := BZ.out.cell (i := 0) (v := .int .u64 0) rfl
    have f0 := BZ.out.free 0
    have r1 := BZ.out.cell (i := 1) (v := .int .u64 0) rfl
    have f1 := BZ.out.free 1
    have r2 := BZ.out.cell (i := 2) (v := .int .u64 0) rfl
    have f2 := BZ.out.free 2
    have r3 := BZ.out.cell (i := 3) (v := .int .u64 0) rfl
    have f3 := BZ.out.free 3
    have r4 := BZ.out.cell (i := 4) (v := .int .u64 0) rfl
    have f4 := BZ.out.free 4
    have r5 := BZ.out.cell (i := 5) (v := .int .u64 0) rfl
    have f5 := BZ.out.free 5
    have r6 := BZ.out.cell (i := 6) (v := .bool false) rfl
    have f6 := BZ.out.free 6
    go_wp2_with fail
    have F1 := Blk.whole (Itm.cs x) BZ.out rfl
    exact bodyPost_ret (results_cell_tmp rfl _ _ W.heap.size 36 _ _ rfl F1 Try.underlying36 rfl (by kernel_rfl)) rfl (RQPost.boxed HW0.out Hm.out Hvm.out P5 (Itm.cs x))
  · have HNw := Lib.hid (its_rest HIt3.out)
    rw [Nat.zero_add] at HNw
    go_upto_region 5 with (at_builtin; (refine wpList_append_own_at _ rfl _ _ 28 (by rfl) w0.heap.size 36 i0 (.agg #[.int .u64 0, .int .u64 0, .int .u64 0, .int .u64 0, .int .u64 0, .int .u64 0, .bool false]) 7 56 Try.underlying28 HI.out HZ0.out HZ1.out HZ2.out rfl (by decide) (.slice (some ⟨w2.heap.size, 0, none⟩) 0 0) 0 [] (by rfl) HOE.out ⟨g, 7, none⟩ t.length _ (t.flatMap Itm.cs) (by rfl) (icells_len t) HNw.out (one_items _) (by unfold maxLen; have := HF.out; omega) (by have := HF.out; omega) HBa.out ?_); intro v' w4 hown hgr hnil hat; rw [Nat.zero_add] at hown; obtain ⟨g6, cap6, rfl, hg6⟩ := own_some (a := w2.heap.size) hown hat; have HOw := Lib.hid hown; have HG6 := Lib.hid hg6; have M4 := Lib.hid (M2.out.to (bel_gr (al_be w2 (.cells #[] 36)) hgr (by simp) (Nat.le_refl _))); have c4 := M4.out.cells.2.1; have f4 := M4.out.cells.2.2.2.2 (o + 1); clear hown hgr hnil hat hg6)
    have hw : ROwn B w4 (.slice (some ⟨g6, 0, none⟩) t.length cap6) t := rown_weak (Nat.le_trans HBs.out (Nat.le_refl _)) (by have := HOw.out; simpa using this)
    have hvb : w2.heap.size ≤ vb (.slice (some ⟨g6, 0, none⟩) t.length cap6) m := by
      show w2.heap.size ≤ g6
      rcases HG6.out with e | e
      · omega
      · rw [e]; simp
    have M5 := Lib.hid (M4.out.setv n' HT.out hw (by have := Hz.out; omega) (by have := Hz.out; omega))
    clear c4 f4 hvb hw M4 HOw HG6
    have P5 : RQPost w0 m o B T cs v (.tuple #[]) ⟨t, n', s.room, s.dr, s.lost⟩ (.returned (.tuple #[])) (w4.setCell ⟨m, o + 1, none⟩ (.slice (some ⟨g6, 0, none⟩) t.length cap6)) := M5.out.post
    have BX := Lib.hid (show Blk (w4.setCell ⟨m, o + 1, none⟩ (.slice (some ⟨g6, 0, none⟩) t.length cap6)) w0.heap.size 36 #[.int .u64 (x.n : Int), .int .u64 (x.size : Int), .int .u64 (x.sent : Int), .int .u64 (x.first : Int), .int .u64 (x.deliv : Int), .int .u64 (x.at_ : Int), .bool x.lim] from M5.out.box)
    have BZ := Lib.hid (Z0.out.fr M5.out.fr (by have := Hm.out; have := Hvm.out; simp; omega))
    clear M5
    generalize (w4.setCell ⟨m, o + 1, none⟩ (.slice (some ⟨g6, 0, none⟩) t.length cap6)) = w5 at *
    have y0 := BX.out.cell (i := 0) (v := .int .u64 (x.n : Int)) rfl
    have y1 := BX.out.cell (i := 1) (v := .int .u64 (x.size : Int)) rfl
    have y2 := BX.out.cell (i := 2) (v := .int .u64 (x.sent : Int)) rfl
    have y3 := BX.out.cell (i := 3) (v := .int .u64 (x.first : Int)) rfl
    have y4 := BX.out.cell (i := 4) (v := .int .u64 (x.deliv : Int)) rfl
    have y5 := BX.out.cell (i := 5) (v := .int .u64 (x.at_ : Int)) rfl
    have y6 := BX.out.cell (i := 6) (v := .bool x.lim) rfl
    have r0 := BZ.out.cell (i := 0) (v := .int .u64 0) rfl
    have f0 := BZ.out.free 0
    have r1 := BZ.out.cell (i := 1) (v := .int .u64 0) rfl
    have f1 := BZ.out.free 1
    have r2 := BZ.out.cell (i := 2) (v := .int .u64 0) rfl
    have f2 := BZ.out.free 2
    have r3 := BZ.out.cell (i := 3) (v := .int .u64 0) rfl
    have f3 := BZ.out.free 3
    have r4 := BZ.out.cell (i := 4) (v := .int .u64 0) rfl
    have f4 := BZ.out.free 4
    have r5 := BZ.out.cell (i := 5) (v := .int .u64 0) rfl
    have f5 := BZ.out.free 5
    have r6 := BZ.out.cell (i := 6) (v := .bool false) rfl
    have f6 := BZ.out.free 6
    go_wp2_with fail
    have F1 := Blk.whole (Itm.cs x) BZ.out rfl
    exact bodyPost_ret (results_cell_tmp rfl _ _ W.heap.size 36 _ _ rfl F1 Try.underlying36 rfl (by kernel_rfl)) rfl (RQPost.boxed HW0.out Hm.out Hvm.out P5 (Itm.cs x))

end Go.Proofs.Yteolchbeiidapaa
