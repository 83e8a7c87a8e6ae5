/- The document's box over this translation: Out; all its packets. -/
import Derived.Test.YtlhgiboajnhahaaRefJ
set_option linter.unusedVariables false
namespace Go.Proofs.Ytlhgiboajnhahaa
open Go.RowKit

/-- All eight cells of a parcel of a slice. -/
theorem its_jp {w : World} {g : Nat} {l : List Jp} (h : Its w (some ⟨g, 0, none⟩) l) (k : Nat) (hk : k < l.length) (x : Jp) (hx : x = l.getD k Itm.z) :
    w.cell? ⟨g, k * 8, none⟩ = some (.int .u64 (x.p.n : Int)) ∧ w.cell? ⟨g, k * 8 + 1, none⟩ = some (.int .u64 (x.p.size : Int)) ∧ w.cell? ⟨g, k * 8 + 2, none⟩ = some (.int .u64 (x.p.sent : Int)) ∧ w.cell? ⟨g, k * 8 + 3, none⟩ = some (.int .u64 (x.p.first : Int)) ∧ w.cell? ⟨g, k * 8 + 4, none⟩ = some (.int .u64 (x.p.deliv : Int)) ∧ w.cell? ⟨g, k * 8 + 5, none⟩ = some (.int .u64 (x.p.at_ : Int)) ∧ w.cell? ⟨g, k * 8 + 6, none⟩ = some (.bool x.p.lim) ∧ w.cell? ⟨g, k * 8 + 7, none⟩ = some (.int .u64 (x.due : Int)) := by
  subst hx
  obtain ⟨b, off, e, _, hc⟩ := h (by omega)
  injection e with e
  injection e with e1 e2
  subst e1 e2
  have f : ∀ j v, j < 8 → (Itm.cs (l.getD k Itm.z))[j]? = some v → w.cell? ⟨g, k * 8 + j, none⟩ = some v := fun j v hj hv => by
    have := hc k j hk hj
    rw [Nat.zero_add, hv] at this
    exact this
  exact ⟨f 0 _ (by omega) rfl, f 1 _ (by omega) rfl, f 2 _ (by omega) rfl, f 3 _ (by omega) rfl, f 4 _ (by omega) rfl, f 5 _ (by omega) rfl, f 6 _ (by omega) rfl, f 7 _ (by omega) rfl⟩

set_option maxHeartbeats 1000000 in
theorem rj_all (m o B : Nat) (T : TypeId) (cs : Array Value) (v : Value) (s : BxS) (W : World) (hb : Blk W m T cs) (hk : JCells cs o s v) (hr : SOwn 47 B W v s.l) (hf : s.l.length ≤ 5000) :
    Calls Try.prog 15 #[.pointer (some ⟨m, o, none⟩)] W (PksPost W s.pks) := by
  have HE : Hid (s.pks = s.l.map Jp.p) := Lib.hid rfl
  obtain ⟨i0, hi0, hz0, hz1, hz2⟩ := info_parts jpk_info
  have HI := Lib.hid hi0
  have HZ0 := Lib.hid hz0
  have HZ1 := Lib.hid hz1
  have HZ2 := Lib.hid hz2
  have C2 := Lib.hid (hb.cell hk.v)
  have HM := Lib.hid hb.lt
  have HR := Lib.hid hr
  clear hb hk hr hi0 hz0 hz1 hz2
  generalize s.pks = pk at *
  generalize s.l = l at *
  go_enter Try.func15, Try.ntmps15
  go_wp2_with fail
  go_loopw [4, 3] (fun i ov wr => ∃ k : Nat, i = .int .i64 (k : Int) ∧ k ≤ l.length ∧ SOwn 39 W.heap.size wr ov ((l.take k).map Jp.p) ∧ Below W.heap.size W wr) (fun i _ _ => l.length - (intOf i).toNat)
  case atStart => exact ⟨0, rfl, Nat.zero_le _, SOwn.nil _ _ _, Below.refl _ _⟩
  case round =>
    obtain ⟨k, rfl, hk, ho, hbe⟩ := hrel
    have hr := HR.out.blk (fun g ds _ hd => hd.below hbe hd.lt)
    obtain ⟨ao, cap, hv, hc1, hc2, hit, hg⟩ := hr.form
    have c2 : wr.cell? ⟨m, o + 2, none⟩ = some (.slice ao l.length cap) := by rw [← hv]; exact (hbe.cell (p := ⟨m, _, none⟩) HM.out).trans C2.out
    by_cases hlt : k < l.length
    · obtain ⟨g, rfl, _⟩ := hg (by omega)
      obtain ⟨x, hx⟩ : ∃ x, x = l.getD k Itm.z := ⟨_, rfl⟩
      obtain ⟨a0, a1, a2, a3, a4, a5, a6, a7⟩ := its_jp hit k hlt x hx
      have HT : Hid ((l.take (k + 1)).map Jp.p = (l.take k).map Jp.p ++ [x.p]) := Lib.hid (by rw [hx]; exact pks_take l k hlt)
      have HLn : Hid (((l.take k).map Jp.p).length = k) := Lib.hid (by simp; omega)
      have HO := Lib.hid ho
      have HBe := Lib.hid hbe
      have HOne := Lib.hid (Itm.one x.p)
      have i0 : (0 : Int) ≤ (k : Int) := by omega
      have i1 : (k : Int) < (l.length : Int) := by omega
      clear ho hbe hx hr hv hit hg a7
      generalize (l.take k).map Jp.p = pre at *
      obtain ⟨ap, cp, hv, hp1, hp2, _, _⟩ := HO.out.form
      subst hv
      have HO2 := Lib.hid (HO.out.keep (al_be wr (.cells #[.int .u64 (x.p.n : Int), .int .u64 (x.p.size : Int), .int .u64 (x.p.sent : Int), .int .u64 (x.p.first : Int), .int .u64 (x.p.deliv : Int), .int .u64 (x.p.at_ : Int), .bool x.p.lim] 39)))
      have HNw := Lib.hid (World.news_of_block (Blk.new wr 39 #[.int .u64 (x.p.n : Int), .int .u64 (x.p.size : Int), .int .u64 (x.p.sent : Int), .int .u64 (x.p.first : Int), .int .u64 (x.p.deliv : Int), .int .u64 (x.p.at_ : Int), .bool x.p.lim]))
      have hsz : W.heap.size ≤ (wr.alloc (.cells #[.int .u64 (x.p.n : Int), .int .u64 (x.p.size : Int), .int .u64 (x.p.sent : Int), .int .u64 (x.p.first : Int), .int .u64 (x.p.deliv : Int), .int .u64 (x.p.at_ : Int), .bool x.p.lim] 39)).heap.size := by have := HBe.out.size; simp; omega
      have hpl : pre.length ≤ 5000 := by rw [HLn.out]; omega
      go_wp2_with (at_builtin; refine wpList_append_own_at _ rfl (.tmp 14) (.tmp 23) 33 rfl W.heap.size 39 _ (.agg #[.int .u64 0, .int .u64 0, .int .u64 0, .int .u64 0, .int .u64 0, .int .u64 0, .bool false]) 7 56 Try.underlying33 HI.out HZ0.out HZ1.out HZ2.out rfl (by decide) (.slice ap pre.length cp) pre.length (pre.flatMap Itm.cs) rfl HO2.out ⟨wr.heap.size, 0, none⟩ 1 1 (Itm.cs x.p) rfl rfl HNw.out HOne.out (by unfold maxLen; omega) (by omega) hsz ?_; intro v' w5 hown hgr hnil hat; have HW := Lib.hid hown; have HG := Lib.hid hgr; clear hown hgr hnil hat)
      have HS : Hid (SOwn 39 W.heap.size w5 v' (pre ++ [x.p])) := Lib.hid (SOwn.snoc HW.out)
      have HB5 := Lib.hid (bel_app HBe.out HBe.out.size HO.out (.cells #[.int .u64 (x.p.n : Int), .int .u64 (x.p.size : Int), .int .u64 (x.p.sent : Int), .int .u64 (x.p.first : Int), .int .u64 (x.p.deliv : Int), .int .u64 (x.p.at_ : Int), .bool x.p.lim] 39) HG.out)
      clear HW HG HO HO2 HNw HBe
      go_wp2_with fail
      go_roundw
      case rel => exact ⟨k + 1, by go_num, by omega, by rw [HT.out]; exact HS.out, HB5.out⟩
      case measure => simp [intOf]; omega
    · obtain rfl : k = l.length := by omega
      have HT : Hid ((l.take l.length).map Jp.p = pk) := Lib.hid (by rw [List.take_length]; exact HE.out.symm)
      have HO := Lib.hid ho
      have HBe := Lib.hid hbe
      clear ho hbe hr hv hit hg
      go_wp2_with fail
      go_ret
      exact ⟨⟨_, rfl, HT.out ▸ HO.out⟩, HBe.out⟩

/-- What the document's Out leaves. -/
structure RJOut (W : World) (m o B : Nat) (T : TypeId) (cs : Array Value) (v : Value) (l : List Pk) (s : BxS) (e : Ending) (w : World) : Prop where
  e : ∃ ov, e = .returned ov ∧ SOwn 39 W.heap.size w ov l
  at_ : ∃ v' cs', Blk w m T cs' ∧ JCells cs' o s v' ∧ cs'.size = cs.size ∧ (∀ i, i < o ∨ o + 4 ≤ i → cs'[i]? = cs[i]?) ∧ SOwn 47 B w v' s.l ∧ (sb v' m = sb v m ∨ W.heap.size ≤ sb v' m)
  fr : Fr W w [m, sb v m]
/-- Behind an append to a list of packets. -/
theorem RJ.app {W wA w5 : World} {m o B : Nat} {T : TypeId} {cs : Array Value} {v v' ov : Value} {s : BxS} {pre : List Pk} (hT : T ≠ 39) (h : RJ W m o B T cs v s v' wA) (ho : SOwn 39 W.heap.size wA ov pre) (ob : Obj) (hg : (wA.alloc ob).grownBy w5 ov.ownBlock) : RJ W m o B T cs v s v' w5 := by
  have hm := h.mne hT
  have f : Fr wA w5 ov.ownBlock.toList := ((Fr.refl wA ov.ownBlock.toList).alloc ob).trans (jfr_gr hg (fun b e => by rw [e]; simp)) (fun y hy => .inl hy)
  have ob : ∀ k ∈ ov.ownBlock.toList, W.heap.size ≤ k ∧ ∃ ds, Blk wA k 39 ds := fun k hk => ho.own k (by simpa using hk)
  obtain ⟨cs', h1, h2⟩ := h.at_
  exact ⟨⟨cs', h1.fr f (fun hx => by obtain ⟨_, ds, hd⟩ := ob m hx; exact hm _ _ hd rfl), h2⟩, h.own.blk (fun g ds _ hd => hd.fr f (fun hx => by obtain ⟨_, es, he⟩ := ob g hx; exact hd.ty he (by decide) rfl)), h.new, h.fr.trans f (fun x hx => .inr (ob x hx).1), h.mz⟩
/-- What Out's loop keeps. -/
structure DoI (W : World) (m o B : Nat) (T : TypeId) (cs : Array Value) (v : Value) (now : Nat) (s : BxS) (pre rest : List Jp) (v' ov : Value) (w : World) : Prop where
  e : s.l = pre ++ rest
  due : ∀ y ∈ pre, isDue now y = true
  rj : RJ W m o B T cs v ⟨s.delay, s.jit, rest, s.last⟩ v' w
  out : SOwn 39 W.heap.size w ov (pre.map Jp.p)
def ovLen : Value → Nat
  | .slice _ n _ => n
  | _ => 0
theorem DoI.done {W w : World} {m o B now : Nat} {T : TypeId} {cs : Array Value} {v v' ov : Value} {s : BxS} {pre rest : List Jp} (h : DoI W m o B T cs v now s pre rest v' ov w) (hr : ∀ y t, rest = y :: t → isDue now y = false) : RJOut W m o B T cs v (s.told now) (s.outB now) (.returned ov) w := by
  obtain ⟨e1, e2⟩ := due_split (f := isDue now) h.due hr
  rw [← h.e] at e1 e2
  have a1 : s.told now = pre.map Jp.p := by unfold BxS.told; rw [e1]
  have a2 : s.outB now = ⟨s.delay, s.jit, rest, s.last⟩ := by unfold BxS.outB; rw [e2]
  rw [a1, a2]
  have p := h.rj.post (r := ov)
  exact ⟨⟨ov, rfl, h.out⟩, p.at_, p.fr⟩

set_option maxRecDepth 100000 in
set_option maxHeartbeats 2000000 in
theorem rj_Out (m o B : Nat) (T : TypeId) (cs : Array Value) (v : Value) (now : Nat) (s : BxS) (W : World) (hT : T ≠ 47) (hT2 : T ≠ 39) (hB : B ≤ W.heap.size) (hb : Blk W m T cs) (hk : JCells cs o s v) (hr : SOwn 47 B W v s.l) (hf : s.l.length ≤ 1000) :
    Calls Try.prog 10 #[.pointer (some ⟨m, o, none⟩), .int .u64 (now : Int)] W (RJOut W m o B T cs v (s.told now) (s.outB now)) := by
  obtain ⟨i0, hi0, hz0, hz1, hz2⟩ := info_parts jpk_info
  obtain ⟨j0, hj0, hy0, hy1, hy2⟩ := info_parts jdue_info
  have HI := Lib.hid hi0
  have HZ0 := Lib.hid hz0
  have HZ1 := Lib.hid hz1
  have HZ2 := Lib.hid hz2
  have HJ := Lib.hid hj0
  have HY0 := Lib.hid hy0
  have HY1 := Lib.hid hy1
  have HY2 := Lib.hid hy2
  have HT := Lib.hid hT
  have HT2 := Lib.hid hT2
  have HBs := Lib.hid hB
  have I0 : Hid (DoI W m o B T cs v now s [] s.l v (.slice none 0 0) W) := Lib.hid ⟨rfl, (fun y hy => absurd hy (by simp)), RJ.start hb hk hr, SOwn.nil _ _ _⟩
  clear hb hk hr hi0 hz0 hz1 hz2 hj0 hy0 hy1 hy2 hT hT2 hB
  go_enter Try.func10, Try.ntmps10
  go_wp2_with fail
  go_loopw [5] (fun ov wr => ∃ pre rest v', DoI W m o B T cs v now s pre rest v' ov wr) (fun ov _ => s.l.length - ovLen ov)
  case atStart => exact ⟨_, _, _, I0.out⟩
  case round =>
    obtain ⟨pre, rest, v', hI⟩ := hrel
    obtain ⟨ap, cp, hov, hp1, hp2, _, _⟩ := hI.out.form
    rw [List.length_map] at hov hp1
    subst hov
    obtain ⟨ao, cap, hv, hc1, hc2, hit, hg⟩ := hI.rj.own.form
    have c2 := hI.rj.cells.2.2.1
    rw [hv] at c2
    have H := Lib.hid hI
    clear hI I0
    cases rest with
    | nil =>
      have c2 : wr.cell? ⟨m, o + 2, none⟩ = some (.slice ao 0 cap) := c2
      go_wp2
      go_ret
      exact H.out.done (fun y t e => by cases e)
    | cons x t =>
      obtain ⟨g, rfl, hsb⟩ := hg (by simp)
      have c2 : wr.cell? ⟨m, o + 2, none⟩ = some (.slice (some ⟨g, 0, none⟩) (t.length + 1) cap) := c2
      obtain ⟨a0, a1, a2, a3, a4, a5, a6, a7⟩ := its_jp hit 0 (by simp) x rfl
      simp only [Nat.zero_mul, Nat.zero_add] at a0 a1 a2 a3 a4 a5 a6 a7
      have b0 : (0 : Int) < ((t.length + 1 : Nat) : Int) := by omega
      have b1 : (0 : Int) < (t.length : Int) + 1 := by omega
      cases hd : isDue now x
      · have d1 : decide (x.due ≤ now) = false := hd
        go_wp2
        go_ret
        exact H.out.done (fun y t e => by cases e; exact hd)
      · have d1 : decide (x.due ≤ now) = true := hd
        have HH := Lib.hid hd
        clear hd
        have hsum : s.l.length = pre.length + (t.length + 1) := by rw [H.out.e]; simp
        have hpl : pre.length ≤ 1000 := by omega
        have htl : t.length ≤ 1000 := by omega
        have HO2 : Hid ((wr.alloc (.cells #[.int .u64 (x.p.n : Int), .int .u64 (x.p.size : Int), .int .u64 (x.p.sent : Int), .int .u64 (x.p.first : Int), .int .u64 (x.p.deliv : Int), .int .u64 (x.p.at_ : Int), .bool x.p.lim] 39)).ownsRow W.heap.size 39 7 (.slice ap pre.length cp) pre.length ((pre.map Jp.p).flatMap Itm.cs)) := Lib.hid (by
          have := H.out.out.keep (al_be wr (.cells #[.int .u64 (x.p.n : Int), .int .u64 (x.p.size : Int), .int .u64 (x.p.sent : Int), .int .u64 (x.p.first : Int), .int .u64 (x.p.deliv : Int), .int .u64 (x.p.at_ : Int), .bool x.p.lim] 39))
          unfold SOwn at this
          rw [List.length_map] at this
          exact this)
        have HNw := Lib.hid (World.news_of_block (Blk.new wr 39 #[.int .u64 (x.p.n : Int), .int .u64 (x.p.size : Int), .int .u64 (x.p.sent : Int), .int .u64 (x.p.first : Int), .int .u64 (x.p.deliv : Int), .int .u64 (x.p.at_ : Int), .bool x.p.lim]))
        have HOne := Lib.hid (Itm.one x.p)
        have hsz : W.heap.size ≤ (wr.alloc (.cells #[.int .u64 (x.p.n : Int), .int .u64 (x.p.size : Int), .int .u64 (x.p.sent : Int), .int .u64 (x.p.first : Int), .int .u64 (x.p.deliv : Int), .int .u64 (x.p.at_ : Int), .bool x.p.lim] 39)).heap.size := by have := H.out.rj.fr.size; simp; omega
        go_upto_region 4 with (at_builtin; refine wpList_append_own_at _ rfl (.tmp 23) (.tmp 31) 33 rfl W.heap.size 39 i0 (.agg #[.int .u64 0, .int .u64 0, .int .u64 0, .int .u64 0, .int .u64 0, .int .u64 0, .bool false]) 7 56 Try.underlying33 HI.out HZ0.out HZ1.out HZ2.out rfl (by decide) (.slice ap pre.length cp) pre.length ((pre.map Jp.p).flatMap Itm.cs) rfl HO2.out ⟨wr.heap.size, 0, none⟩ 1 1 (Itm.cs x.p) rfl rfl HNw.out HOne.out (by unfold maxLen; omega) (by omega) hsz ?_; intro v4 w4 hown hgr hnil hat; have HR4 := Lib.hid (H.out.rj.app HT2.out H.out.out (.cells #[.int .u64 (x.p.n : Int), .int .u64 (x.p.size : Int), .int .u64 (x.p.sent : Int), .int .u64 (x.p.first : Int), .int .u64 (x.p.deliv : Int), .int .u64 (x.p.at_ : Int), .bool x.p.lim] 39) hgr); have HS4 : Hid (SOwn 39 W.heap.size w4 v4 ((pre ++ [x]).map Jp.p)) := Lib.hid (by rw [List.map_append]; exact SOwn.snoc (l := pre.map Jp.p) (x := x.p) (by rw [List.length_map]; exact hown)); obtain ⟨g4, cap4, rfl⟩ := sown_succ hown; clear hown hgr hnil hat)
        have hitw : Its w4 (some ⟨g, 0, none⟩) (x :: t) := by
          obtain ⟨ao2, cap2, hv2, _, _, hit2, _⟩ := HR4.out.own.form
          rw [hv] at hv2
          injection hv2 with e1 e2 e3
          rw [e1]; exact hit2
        clear a0 a1 a2 a3 a4 a5 a6 a7 c2 d1 HO2 HNw HOne hsz hit hsb
        have HIt := Lib.hid (hitw.keep (al_be w4 (.cells #[] 47)))
        have R5 := Lib.hid (HR4.out.to (al_be w4 (.cells #[] 47)))
        have c5 : (w4.alloc (.cells #[] 47)).cell? ⟨m, o + 2, none⟩ = some (.slice (some ⟨g, 0, none⟩) (t.length + 1) cap) := by
          have := R5.out.cells.2.2.1
          rw [hv] at this
          exact this
        have HOE := Lib.hid (sown_empty (T := 47) (B := B) (k := 8) w4 (Nat.le_trans HBs.out HR4.out.fr.size))
        have hsz4 : W.heap.size ≤ w4.heap.size := HR4.out.fr.size
        have HBa : Hid (B ≤ (w4.alloc (.cells #[] 47)).heap.size) := Lib.hid (Nat.le_trans HBs.out (Nat.le_trans hsz4 (by simp)))
        have l1 : (1 : Int) ≤ ((t.length + 1 : Nat) : Int) := by omega
        have l2 : (1 : Int) ≤ (t.length : Int) + 1 := by omega
        have e1 : ((t.length : Int) + 1) - 1 = (t.length : Int) := by omega
        have hc2' : cap ≤ 9223372036854775807 := hc2
        rw [List.length_cons] at hc1
        clear hitw
        by_cases hcap : cap = 1
        · subst hcap
          have ht : t = [] := List.eq_nil_of_length_eq_zero (by omega)
          subst ht
          have f5 := R5.out.cells.2.2.2.2 (o + 2)
          have SE : Hid (SOwn 47 B (w4.alloc (.cells #[] 47)) (.slice (some ⟨w4.heap.size, 0, none⟩) 0 0) ([] : List Jp)) := Lib.hid HOE.out
          have M5 := Lib.hid (R5.out.setv (v' := .slice (some ⟨w4.heap.size, 0, none⟩) 0 0) (l' := []) HT.out SE.out (.inr hsz4))
          have S5 : Hid (SOwn 39 W.heap.size ((w4.alloc (.cells #[] 47)).setCell ⟨m, o + 2, none⟩ (.slice (some ⟨w4.heap.size, 0, none⟩) 0 0)) (.slice (some ⟨g4, 0, none⟩) (pre.length + 1) cap4) ((pre ++ [x]).map Jp.p)) := Lib.hid ((HS4.out.keep (al_be _ _)).blk (fun b ds _ hb => hb.set_other _ _ (R5.out.mne HT2.out _ _ hb)))
          have HD5 : Hid (DoI W m o B T cs v now s (pre ++ [x]) [] (.slice (some ⟨w4.heap.size, 0, none⟩) 0 0) (.slice (some ⟨g4, 0, none⟩) (pre.length + 1) cap4) ((w4.alloc (.cells #[] 47)).setCell ⟨m, o + 2, none⟩ (.slice (some ⟨w4.heap.size, 0, none⟩) 0 0))) :=
            Lib.hid ⟨by rw [H.out.e]; simp, fun y hy => by rcases List.mem_append.1 hy with c | c; exact H.out.due y c; rw [List.mem_singleton.1 c]; exact HH.out, M5.out, S5.out⟩
          clear M5 S5 SE HOE R5 HR4 HS4 HIt H
          go_wp2_with fail
          go_roundw
          case rel => exact ⟨_, _, _, HD5.out⟩
          case measure => simp [ovLen]; omega
        · have HNw := Lib.hid (its_tail HIt.out)
          rw [Nat.zero_add] at HNw
          go_wp2_with (at_builtin; (refine wpList_append_own_at _ rfl _ _ 28 (by rfl) B 47 j0 (.agg #[.int .u64 0, .int .u64 0, .int .u64 0, .int .u64 0, .int .u64 0, .int .u64 0, .bool false, .int .u64 0]) 8 64 Try.underlying28 HJ.out HY0.out HY1.out HY2.out rfl (by decide) (.slice (some ⟨w4.heap.size, 0, none⟩) 0 0) 0 [] (by rfl) HOE.out ⟨g, 8, none⟩ t.length _ (t.flatMap Itm.cs) (by rfl) (icells_len t) HNw.out (one_items _) (by unfold maxLen; omega) (by omega) HBa.out ?_); intro v6 w6 hown hgr hnil hat; rw [Nat.zero_add] at hown; obtain ⟨g6, cap6, rfl, hg6⟩ := sown_some (a := w4.heap.size) hown hat; have HOw := Lib.hid hown; have HG6 := Lib.hid hg6; have M4 := Lib.hid (HR4.out.to (bel_gr (al_be w4 (.cells #[] 47)) hgr (by simp) (Nat.le_refl _))); have S4 := Lib.hid (HS4.out.keep (bel_gr (al_be w4 (.cells #[] 47)) hgr (by simp) (Nat.le_refl _))); have c6 := M4.out.cells.2.2.1; have f6 := M4.out.cells.2.2.2.2 (o + 2); clear hown hgr hnil hat hg6)
          have hw : SOwn 47 B w6 (.slice (some ⟨g6, 0, none⟩) t.length cap6) t := HOw.out
          have hvb : sb (.slice (some ⟨g6, 0, none⟩) t.length cap6) m = sb v m ∨ W.heap.size ≤ sb (.slice (some ⟨g6, 0, none⟩) t.length cap6) m := by
            right
            show W.heap.size ≤ g6
            rcases HG6.out with e | e
            · omega
            · rw [e]; simp; omega
          have M5 := Lib.hid (M4.out.setv HT.out hw hvb)
          have S5 : Hid (SOwn 39 W.heap.size (w6.setCell ⟨m, o + 2, none⟩ (.slice (some ⟨g6, 0, none⟩) t.length cap6)) (.slice (some ⟨g4, 0, none⟩) (pre.length + 1) cap4) ((pre ++ [x]).map Jp.p)) := Lib.hid (S4.out.blk (fun b ds _ hb => hb.set_other _ _ (M4.out.mne HT2.out _ _ hb)))
          have HD5 : Hid (DoI W m o B T cs v now s (pre ++ [x]) t (.slice (some ⟨g6, 0, none⟩) t.length cap6) (.slice (some ⟨g4, 0, none⟩) (pre.length + 1) cap4) (w6.setCell ⟨m, o + 2, none⟩ (.slice (some ⟨g6, 0, none⟩) t.length cap6))) :=
            Lib.hid ⟨by rw [H.out.e]; simp, fun y hy => by rcases List.mem_append.1 hy with c | c; exact H.out.due y c; rw [List.mem_singleton.1 c]; exact HH.out, M5.out, S5.out⟩
          clear c6 f6 hvb hw M4 HOw HG6 M5 S5 S4 HOE R5 HR4 HS4 HIt H c5
          go_roundw
          case rel => exact ⟨_, _, _, HD5.out⟩
          case measure => simp [ovLen]; omega

end Go.Proofs.Ytlhgiboajnhahaa
