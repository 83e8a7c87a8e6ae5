/- What takes packets that are out away, one by one, over this translation. -/
import Derived.Test.YtfpopbhbhdhdnaaLo
import Derived.Deep.RegionLaw
import Derived.Deep.AppendLies
import Derived.Deep.RegionHeld3
import Derived.StillTailTactics
import Derived.BigRegion
set_option linter.unusedVariables false
namespace Go.Proofs.Ytfpopbhbhdhdnaa
open Go.RowKit

def tw1 (w : World) (b av : Nat) : World := (w.alloc (.cells #[.pointer (some ⟨b, 0, none⟩)] 26)).alloc (.cells #[.pointer (some ⟨av, 0, none⟩)] 74)
def tfn (w : World) : Value := .func (.func 50) #[] #[.pointer (some ⟨w.heap.size, 0, none⟩), .pointer (some ⟨w.heap.size + 1, 0, none⟩)]
theorem taker_any (b av : Nat) (w : World) :
    Calls Try.prog 26 #[.pointer (some ⟨b, 0, none⟩), .pointer (some ⟨av, 0, none⟩)] w fun e w' => e = .returned (tfn w) ∧ w' = tw1 w b av := by
  go_enter Try.func26, Try.ntmps26
  go_wp2
  go_ret
  exact ⟨rfl, rfl⟩
theorem tw1_below (w : World) (b av : Nat) : Below w.heap.size w (tw1 w b av) := ((Below.refl _ _).alloc (Nat.le_refl _) _).alloc (by simp) _
theorem tw1_l (w : World) (b av : Nat) : Blk (tw1 w b av) w.heap.size 26 #[.pointer (some ⟨b, 0, none⟩)] := (Blk.new _ _ _).alloc _
theorem tw1_t (w : World) (b av : Nat) : Blk (tw1 w b av) (w.heap.size + 1) 74 #[.pointer (some ⟨av, 0, none⟩)] := Blk.new1 _ _ _ _
theorem tw1_size (w : World) (b av : Nat) : (tw1 w b av).heap.size = w.heap.size + 2 := by simp [tw1]

/-- What a take leaves. -/
structure TakePost (w : World) (b rb g av : Nat) (x : Kp) (s : LS) (v : Value) (l : List Pk) (e : Ending) (w' : World) : Prop where
  e : e = .returned (.tuple #[])
  led : LAt w' b rb g (s.take [x.b])
  out : ∃ v', Blk w' av 29 #[v'] ∧ PR w' v' (l ++ [x.p]) ∧ (∀ k, v'.ownBlock = some k → v.ownBlock = some k ∨ w.heap.size ≤ k)
  fr : Fr w w' (b :: x.b :: av :: v.ownBlock.toList)

theorem take_led {w w' : World} {b rb g : Nat} {s : LS} {x : Kp} {L : List Nat} (h : LAt w b rb g s) (hs : s.ok) (hx : x ∈ s.ks) (k : Fr w w' (b :: x.b :: L)) (hL : ∀ y ∈ L, ∃ T cs, Blk w y T cs ∧ T ≠ 66 ∧ T ≠ 86 ∧ T ≠ 59)
    (hb : Blk w' b 61 (lcells rb (s.take [x.b]))) (hk : Blk w' x.b 66 (Kp.cells x.p true)) : LAt w' b rb g (s.take [x.b]) := by
  have nL : ∀ {y T cs}, Blk w y T cs → (T = 66 ∨ T = 86 ∨ T = 59) → y ∉ L := fun {y T cs} hy hT hm => by
    obtain ⟨T', cs', h1, h2, h3, h4⟩ := hL y hm
    refine hy.ty h1 ?_ rfl
    rcases hT with rfl | rfl | rfl
    · exact Ne.symm h2
    · exact Ne.symm h3
    · exact Ne.symm h4
  obtain ⟨c1, hc1⟩ := h.row.head
  obtain ⟨c2, hc2⟩ := h.row.body
  refine ⟨hb, ?_, fun y hy => ?_⟩
  · have e : itemsK (s.take [x.b]).ks = itemsK s.ks := by
      have := congrArg (List.map (· + 1)) (markK_b [x.b] s.ks)
      rw [List.map_map, List.map_map] at this
      exact this
    rw [e]
    refine h.row.fr k ?_ ?_
    · have a1 := hc1.ty h.head (by decide)
      have a2 := hc1.ty (h.kept x hx) (by decide)
      have a3 := nL hc1 (.inr (.inl rfl))
      simp [a1, a2, a3]
    · have a1 := hc2.ty h.head (by decide)
      have a2 := hc2.ty (h.kept x hx) (by decide)
      have a3 := nL hc2 (.inr (.inr rfl))
      simp [a1, a2, a3]
  · obtain ⟨z, hz, e1, e2, e3⟩ := markK_mem hy
    by_cases c : z.b = x.b
    · obtain rfl : z = x := by
        obtain ⟨i, hi, ei⟩ := List.mem_iff_getElem.1 hz
        obtain ⟨j, hj, ej⟩ := List.mem_iff_getElem.1 hx
        have hn := hs.nodup
        have key : ∀ {p q : Nat} (hp : p < s.ks.length) (hq : q < s.ks.length), p < q → s.ks[p].b ≠ s.ks[q].b := fun {p q} hp hq hpq => by
          have := List.pairwise_iff_getElem.1 hn p q (by rw [List.length_map]; exact hp) (by rw [List.length_map]; exact hq) hpq
          rwa [List.getElem_map, List.getElem_map] at this
        rcases Nat.lt_trichotomy i j with d | d | d
        · exact absurd (by rw [ei, ej]; exact c) (key hi hj d)
        · subst d; rw [← ei, ← ej]
        · exact absurd (by rw [ei, ej]; exact c.symm) (key hj hi d)
      rw [← e1, ← e2, e3]
      have : (z.gone || decide (z.b ∈ [z.b])) = true := by simp
      rw [this]; exact hk
    · rw [← e1, ← e2, e3]
      have : (z.gone || decide (z.b ∈ [x.b])) = z.gone := by simp [c]
      rw [this]
      have hzk := h.kept z hz
      refine hzk.fr k ?_
      have a1 := hzk.ty h.head (by decide)
      have a3 := nL hzk (.inl rfl)
      simp [a1, a3, c]

theorem take_end {w w4 w5 : World} {b rb g av g0 cap cv : Nat} {pv0 : Option Addr} {x : Kp} {s s' : LS} {l : List Pk} {o : Obj} (es : s' = s.take [x.b])
    (HTL : ∀ w' L, Fr w w' (b :: x.b :: L) → (∀ y ∈ L, ∃ T cs, Blk w y T cs ∧ T ≠ 66 ∧ T ≠ 86 ∧ T ≠ 59) → Blk w' b 61 (lcells rb s') → Blk w' x.b 66 (Kp.cells x.p true) → LAt w' b rb g s')
    (F4 : Fr w w4 [b, x.b]) (B4 : Blk w4 b 61 (lcells rb s')) (K4 : Blk w4 x.b 66 (Kp.cells x.p true)) (A4 : Blk w4 av 29 #[.slice pv0 l.length cv]) (HA : Blk w av 29 #[.slice pv0 l.length cv])
    (HV : PR w (.slice pv0 l.length cv) l) (ane1 : av ≠ x.b) (ane2 : av ≠ b) (HVb : ∀ k, (Value.slice pv0 l.length cv).ownBlock = some k → k ≠ b ∧ k ≠ x.b ∧ k ≠ av ∧ k < w.heap.size)
    (HGr : (w4.alloc o).drew.grownBy w5 (Value.slice pv0 l.length cv).ownBlock) (HOn : w5.ownsRow 0 41 7 (.slice (some ⟨g0, 0, none⟩) (l.length + 1) cap) (l.length + 1) (pcs l ++ pcs [x.p])) (HAt : (Value.slice pv0 l.length cv).ownBlock = some g0 ∨ g0 = w4.heap.size + 1) :
    TakePost w b rb g av x s (.slice pv0 l.length cv) l (.returned (.tuple #[])) (w5.setCell ⟨av, 0, none⟩ (.slice (some ⟨g0, 0, none⟩) (l.length + 1) cap)) := by
  subst es
  have hs4 := F4.size
  have g5 : Fr (w4.alloc o).drew w5 (Value.slice pv0 l.length cv).ownBlock.toList := ⟨HGr.os, HGr.tape, HGr.output, HGr.size, fun k hk hl => HGr.block k hk (fun e => hl (by rw [← e]; simp))⟩
  have f5 : Fr w w5 (b :: x.b :: av :: (Value.slice pv0 l.length cv).ownBlock.toList) :=
    (((F4.alloc o).drawn (Drawn.drew _)).mono (l' := b :: x.b :: av :: (Value.slice pv0 l.length cv).ownBlock.toList) (fun y hy => .inl (by simp at hy; rcases hy with rfl | rfl <;> simp))).trans g5 (fun y hy => .inl (by simp only [List.mem_cons]; exact .inr (.inr (.inr hy))))
  have f6 := f5.set (c := av) (.inl (by simp)) 0 (.slice (some ⟨g0, 0, none⟩) (l.length + 1) cap)
  have nb : some b ≠ (Value.slice pv0 l.length cv).ownBlock := fun e => (HVb b e.symm).1 rfl
  have nk : some x.b ≠ (Value.slice pv0 l.length cv).ownBlock := fun e => (HVb x.b e.symm).2.1 rfl
  have na : some av ≠ (Value.slice pv0 l.length cv).ownBlock := fun e => (HVb av e.symm).2.2.1 rfl
  have b6 := (((B4.alloc o).drew).grown HGr nb).set_other 0 (.slice (some ⟨g0, 0, none⟩) (l.length + 1) cap) (Ne.symm ane2)
  have k6 := (((K4.alloc o).drew).grown HGr nk).set_other 0 (.slice (some ⟨g0, 0, none⟩) (l.length + 1) cap) (Ne.symm ane1)
  have a6 := (((A4.alloc o).drew).grown HGr na).set 0 (.slice (some ⟨g0, 0, none⟩) (l.length + 1) cap)
  have hga : g0 ≠ av := by
    rcases HAt with e | e
    · exact (HVb g0 e).2.2.1
    · have := HA.lt; omega
  have hv : PR w5 (.slice (some ⟨g0, 0, none⟩) (l.length + 1) cap) (l ++ [x.p]) := PR.app rfl HOn
  refine ⟨rfl, HTL _ (av :: (Value.slice pv0 l.length cv).ownBlock.toList) f6 ?_ b6 k6, ⟨_, a6, hv.same fun k cs e _ => Below.heap_setCell _ _ _ _ ?_, fun k e => ?_⟩, f6⟩
  · intro y hy
    rcases List.mem_cons.1 hy with rfl | hy
    · exact ⟨_, _, HA, by decide, by decide, by decide⟩
    · have : (Value.slice pv0 l.length cv).ownBlock = some y := by
        cases h : (Value.slice pv0 l.length cv).ownBlock with
        | none => rw [h] at hy; cases hy
        | some z => rw [h] at hy; simp at hy; rw [hy]
      obtain ⟨cs, hc⟩ := HV.blk this
      exact ⟨_, cs, hc, by decide, by decide, by decide⟩
  · simp [Value.ownBlock] at e; show k ≠ av; rw [← e]; exact hga
  · simp [Value.ownBlock] at e
    subst e
    rcases HAt with h | h
    · exact .inl h
    · right; omega

set_option maxRecDepth 100000 in
set_option maxHeartbeats 2000000 in
theorem take_any (b rb g bl bt av : Nat) (x : Kp) (s : LS) (v : Value) (l : List Pk) (w : World) (h : LAt w b rb g s) (hs : s.ok) (hx : x ∈ s.ks) (hg : x.gone = false)
    (hl : Blk w bl 26 #[.pointer (some ⟨b, 0, none⟩)]) (ht : Blk w bt 74 #[.pointer (some ⟨av, 0, none⟩)]) (ha : Blk w av 29 #[v]) (hv : PR w v l) (hll : l.length ≤ 1000) :
    Calls Try.prog 50 #[.pointer (some ⟨x.b, 0, none⟩), .pointer (some ⟨bl, 0, none⟩), .pointer (some ⟨bt, 0, none⟩)] w (TakePost w b rb g av x s v l) := by
  obtain ⟨e1, e2⟩ := take_one hs hx hg
  obtain ⟨br, hbr, hdiv, hsub⟩ := sub64_tot (tot (s.take [x.b]).ks) x.p.size (hs.pk x hx).lt
  rw [e2] at hdiv hsub
  have HK := Lib.hid (h.kept x hx)
  rw [hg] at HK
  have HHd := Lib.hid h.head
  have hbx : b ≠ x.b := HHd.out.ty HK.out (by decide)
  have l0 := hl.cell (i := 0) rfl
  have lne1 : bl ≠ x.b := hl.ty HK.out (by decide)
  have lne2 : bl ≠ b := hl.ty HHd.out (by decide)
  have h1 := HHd.out.cell (i := 1) (v := .int .i64 ((outK s.ks).length : Int)) rfl
  have h2 := HHd.out.cell (i := 2) (v := .int .u64 ((tot s.ks / M64 : Nat) : Int)) rfl
  have h3 := HHd.out.cell (i := 3) (v := .int .u64 ((tot s.ks % M64 : Nat) : Int)) rfl
  have f1 := HHd.out.free 1
  have f2 := HHd.out.free 2
  have f3 := HHd.out.free 3
  have k1 := (kcell HK.out).2.1
  have k7 := (kcell HK.out).2.2.2.2.2.2.2
  have g7 := HK.out.free 7
  have hlo := LS.out_le hs
  have HH := Lib.hid h
  have HS := Lib.hid hs
  have HX := Lib.hid hx
  have HL := Lib.hid hl
  have HT := Lib.hid ht
  have HA := Lib.hid ha
  have HV := Lib.hid hv
  have E1 := Lib.hid e1
  have E2 := Lib.hid e2
  have HDiv := Lib.hid hdiv
  clear h hs hx hg hl ht ha hv e1 e2 hdiv
  have hbx' : x.b ≠ b := Ne.symm hbx
  have ho1 : (outK s.ks).length = (outK (s.take [x.b]).ks).length + 1 := E1.out.symm
  have hhi : tot s.ks / M64 = tot (s.take [x.b]).ks / M64 + br := HDiv.out
  have hhl : tot s.ks / M64 ≤ 500 := by
    have := LS.tot_le HS.out
    have := Nat.div_le_div_right (c := M64) this
    rwa [Nat.mul_div_cancel _ M64_pos] at this
  rw [ho1] at h1 hlo
  rw [hhi] at h2 hhl
  have HC3 : Hid (((lcells rb s).setIfInBounds 1 (.int .i64 ((outK (s.take [x.b]).ks).length : Int))) = #[.pointer (some ⟨rb, 0, none⟩), .int .i64 ((outK (s.take [x.b]).ks).length : Int), .int .u64 ((tot (s.take [x.b]).ks / M64 + br : Nat) : Int), .int .u64 ((tot s.ks % M64 : Nat) : Int), .bool s.mixed, .int .u64 (s.reorder : Int), .int .u64 (s.next : Int), .int .u64 (s.top : Int), .bool s.topped]) := Lib.hid (by rw [← hhi]; rfl)
  have HLC : Hid ((((lcells rb s).setIfInBounds 1 (.int .i64 ((outK (s.take [x.b]).ks).length : Int))).setIfInBounds 3 (.int .u64 ((tot (s.take [x.b]).ks % M64 : Nat) : Int))).setIfInBounds 2 (.int .u64 ((tot (s.take [x.b]).ks / M64 : Nat) : Int)) = lcells rb (s.take [x.b])) := Lib.hid (by
    simp [lcells]; exact ⟨rfl, rfl, rfl, rfl, rfl⟩)
  have HTL : Hid (∀ w' L, Fr w w' (b :: x.b :: L) → (∀ y ∈ L, ∃ T cs, Blk w y T cs ∧ T ≠ 66 ∧ T ≠ 86 ∧ T ≠ 59) → Blk w' b 61 (lcells rb (s.take [x.b])) → Blk w' x.b 66 (Kp.cells x.p true) → LAt w' b rb g (s.take [x.b])) :=
    Lib.hid (fun w' L k hL hb hk => take_led HH.out HS.out HX.out k hL hb hk)
  clear ho1 hhi HH HS HX E1 E2 HDiv
  generalize es : s.take [x.b] = s' at hlo h1 h2 hhl HLC HTL hsub HC3
  have ES := Lib.hid es.symm
  clear es
  generalize (outK s.ks).length = o0 at *
  generalize tot s.ks / M64 = hi0 at *
  generalize tot s.ks % M64 = lo at *
  generalize (outK s'.ks).length = o at *
  generalize tot s'.ks / M64 = hi at *
  generalize tot s'.ks % M64 = lo' at *
  go_enter Try.func50, Try.ntmps50
  go_wp2_with fail
  have hsz : w.heap.size ≤ ((w.setCell ⟨x.b, 7, none⟩ (.bool true)).setCell ⟨b, 1, none⟩ (.int .i64 (o : Int))).heap.size := by simp [World.setCell]
  have B2 := Lib.hid ((HHd.out.set_other 7 (.bool true) hbx).set 1 (.int .i64 (o : Int)))
  have K2 := Lib.hid ((HK.out.set 7 (.bool true)).set_other (c := b) 1 (.int .i64 (o : Int)) hbx')
  have F2 := Lib.hid (((Fr.refl w (b :: x.b :: [])).set (c := x.b) (.inl (by simp)) 7 (.bool true)).set (c := b) (.inl (by simp)) 1 (.int .i64 (o : Int)))
  have L2 := Lib.hid ((HL.out.set_other 7 (.bool true) lne1).set_other 1 (.int .i64 (o : Int)) lne2)
  generalize ((w.setCell ⟨x.b, 7, none⟩ (.bool true)).setCell ⟨b, 1, none⟩ (.int .i64 (o : Int))) = w2 at *
  clear l0 h1 h2 h3 f1 f2 f3 k1 k7 g7
  have l0 := L2.out.drew.cell (i := 0) (v := .pointer (some ⟨b, 0, none⟩)) rfl
  have h3 : w2.drew.cell? ⟨b, 3, none⟩ = some (.int .u64 (lo : Int)) := B2.out.drew.cell (i := 3) (by rw [HC3.out]; rfl)
  have f3 := B2.out.drew.free 3
  have k1 : w2.drew.cell? ⟨x.b, 1, none⟩ = some (.int .u64 (x.p.size : Int)) := K2.out.drew.cell (i := 1) rfl
  go_region
  have lne1' : bt ≠ x.b := HT.out.ty HK.out (by decide)
  have lne2' : bt ≠ b := HT.out.ty HHd.out (by decide)
  have ane1 : av ≠ x.b := HA.out.ty HK.out (by decide)
  have ane2 : av ≠ b := HA.out.ty HHd.out (by decide)
  have B3 := Lib.hid ((B2.out.set 3 (.int .u64 (lo' : Int))).drew)
  have K3 := Lib.hid ((K2.out.set_other 3 (.int .u64 (lo' : Int)) hbx').drew)
  have F3 := Lib.hid ((F2.out.set (c := b) (.inl (by simp)) 3 (.int .u64 (lo' : Int))).drawn (Drawn.drew _))
  clear l0 h3 f3 k1
  generalize (w2.setCell ⟨b, 3, none⟩ (.int .u64 (lo' : Int))).drew = w3 at *
  have l0 := (HL.out.fr F3.out (by simp [lne1, lne2])).cell (i := 0) (v := .pointer (some ⟨b, 0, none⟩)) rfl
  have h2 : w3.cell? ⟨b, 2, none⟩ = some (.int .u64 ((hi + br : Nat) : Int)) := B3.out.cell (i := 2) (by rw [HC3.out]; rfl)
  have f2 := B3.out.free 2
  go_wp2_with fail
  have B4 := Lib.hid (B3.out.set 2 (.int .u64 (hi : Int)))
  rw [HLC.out] at B4
  have K4 := Lib.hid (K3.out.set_other 2 (.int .u64 (hi : Int)) hbx')
  have F4 := Lib.hid (F3.out.set (c := b) (.inl (by simp)) 2 (.int .u64 (hi : Int)))
  clear l0 h2 f2 B2 K2 F2 B3 K3 F3 L2
  generalize (w3.setCell ⟨b, 2, none⟩ (.int .u64 (hi : Int))) = w4 at *
  obtain ⟨pv0, cv, rfl⟩ := HV.out.form
  obtain ⟨i0, hi0', hz0, hz1, hz2⟩ := info_parts pk_info
  have HI := Lib.hid hi0'
  have HZ0 := Lib.hid hz0
  have HZ1 := Lib.hid hz1
  have HZ2 := Lib.hid hz2
  clear hi0' hz0 hz1 hz2
  have hvb : ∀ k, (Value.slice pv0 l.length cv).ownBlock = some k → k ≠ b ∧ k ≠ x.b ∧ k ≠ av ∧ k ≠ bt ∧ k < w.heap.size := fun k e => by
    obtain ⟨cs, hc⟩ := HV.out.blk e
    exact ⟨hc.ty HHd.out (by decide), hc.ty HK.out (by decide), hc.ty HA.out (by decide), hc.ty HT.out (by decide), hc.lt⟩
  have V4 := Lib.hid (HV.out.fr F4.out (fun k e => by obtain ⟨a1, a2, _⟩ := hvb k e; simp [a1, a2]))
  have A4 := Lib.hid (HA.out.fr F4.out (by simp [ane1, ane2]))
  have T4 := Lib.hid (HT.out.fr F4.out (by simp [lne1', lne2']))
  have HVb := Lib.hid hvb
  clear hvb
  have hs4 : w.heap.size ≤ w4.heap.size := F4.out.size
  have t0 := T4.out.drew.cell (i := 0) (v := .pointer (some ⟨av, 0, none⟩)) rfl
  have a0 := A4.out.drew.cell (i := 0) (v := .slice pv0 l.length cv) rfl
  have fa := A4.out.drew.free 0
  obtain ⟨q0, q1, q2, q3, q4, q5, q6, _⟩ := kcell (p := x.p) (gn := true) (show Blk w4.drew x.b 66 (Kp.cells x.p true) from K4.out)
  have HOw : Hid ((w4.alloc (.cells #[.int .u64 (x.p.n : Int), .int .u64 (x.p.size : Int), .int .u64 (x.p.sent : Int), .int .u64 (x.p.first : Int), .int .u64 (x.p.deliv : Int), .int .u64 (x.p.at_ : Int), .bool x.p.lim] 41)).drew.ownsRow 0 41 7 (.slice pv0 l.length cv) l.length (pcs l)) :=
    Lib.hid ((V4.out.keep ((Below.refl _ _).alloc (Nat.le_refl _) _)).drawn (Drawn.drew _))
  have HNw : Hid (Blk (w4.alloc (.cells #[.int .u64 (x.p.n : Int), .int .u64 (x.p.size : Int), .int .u64 (x.p.sent : Int), .int .u64 (x.p.first : Int), .int .u64 (x.p.deliv : Int), .int .u64 (x.p.at_ : Int), .bool x.p.lim] 41)).drew w4.heap.size 41 #[.int .u64 (x.p.n : Int), .int .u64 (x.p.size : Int), .int .u64 (x.p.sent : Int), .int .u64 (x.p.first : Int), .int .u64 (x.p.deliv : Int), .int .u64 (x.p.at_ : Int), .bool x.p.lim]) := Lib.hid (Blk.new _ _ _).drew
  have HOne : Hid (∀ u ∈ [.int .u64 (x.p.n : Int), .int .u64 (x.p.size : Int), .int .u64 (x.p.sent : Int), .int .u64 (x.p.first : Int), .int .u64 (x.p.deliv : Int), .int .u64 (x.p.at_ : Int), Value.bool x.p.lim], u.oneCell' = true) := Lib.hid (Itm.one x.p)
  have t1 : (w4.alloc (.cells #[.int .u64 (x.p.n : Int), .int .u64 (x.p.size : Int), .int .u64 (x.p.sent : Int), .int .u64 (x.p.first : Int), .int .u64 (x.p.deliv : Int), .int .u64 (x.p.at_ : Int), .bool x.p.lim] 41)).cell? ⟨bt, 0, none⟩ = some (.pointer (some ⟨av, 0, none⟩)) := cell_al (w := w4) t0 _
  have a1 : (w4.alloc (.cells #[.int .u64 (x.p.n : Int), .int .u64 (x.p.size : Int), .int .u64 (x.p.sent : Int), .int .u64 (x.p.first : Int), .int .u64 (x.p.deliv : Int), .int .u64 (x.p.at_ : Int), .bool x.p.lim] 41)).cell? ⟨av, 0, none⟩ = some (.slice pv0 l.length cv) := cell_al (w := w4) a0 _
  have HT1 := Lib.hid t1
  have HA1 := Lib.hid a1
  have HFa : Hid ((w4.alloc (.cells #[.int .u64 (x.p.n : Int), .int .u64 (x.p.size : Int), .int .u64 (x.p.sent : Int), .int .u64 (x.p.first : Int), .int .u64 (x.p.deliv : Int), .int .u64 (x.p.at_ : Int), .bool x.p.lim] 41)).frozen? ⟨av, 0, none⟩ = false) := Lib.hid ((A4.out.alloc _).free 0)
  have HNt : Hid (some bt ≠ (Value.slice pv0 l.length cv).ownBlock) := Lib.hid (fun e => (HVb.out bt e.symm).2.2.2.1 rfl)
  have HNa : Hid (some av ≠ (Value.slice pv0 l.length cv).ownBlock) := Lib.hid (fun e => (HVb.out av e.symm).2.2.1 rfl)
  go_region_law ((refine step_append_lies _ (by rfl) _ _ _ (by rfl) 0 41 i0 (.agg #[.int .u64 0, .int .u64 0, .int .u64 0, .int .u64 0, .int .u64 0, .int .u64 0, .bool false]) 7 56 Try.underlying29 HI.out HZ0.out HZ1.out HZ2.out rfl (by decide) _ l.length (pcs l) (by rfl) HOw.out ⟨w4.heap.size, 0, none⟩ 1 1 [.int .u64 (x.p.n : Int), .int .u64 (x.p.size : Int), .int .u64 (x.p.sent : Int), .int .u64 (x.p.first : Int), .int .u64 (x.p.deliv : Int), .int .u64 (x.p.at_ : Int), .bool x.p.lim] (by rfl) (by rfl) (World.news_of_block HNw.out) HOne.out (by decide) (by unfold maxLen; omega) (by omega) (Nat.zero_le _) (w4.heap.size + 1) (by simp) ?_; intro g0 cap w5 hown hgrow hat hltg; have HOn := Lib.hid hown; have HGr := Lib.hid hgrow; have HAt := Lib.hid hat; clear hown hgrow hat; have u0 := (HGr.out.cell_far ⟨bt, 0, none⟩ (World.block_lt_of_cell? _ _ HT1.out) HNt.out).trans HT1.out; have u1 := (HGr.out.cell_far ⟨av, 0, none⟩ (World.block_lt_of_cell? _ _ HA1.out) HNa.out).trans HA1.out; have u2 := (HGr.out.frozen_far ⟨av, 0, none⟩ (World.block_lt_of_cell? _ _ HA1.out) HNa.out).trans HFa.out))
  all_goals
    have PE := take_end ES.out HTL.out F4.out B4.out K4.out A4.out HA.out HV.out ane1 ane2 (fun k e => by obtain ⟨a1, a2, a3, _, a5⟩ := HVb.out k e; exact ⟨a1, a2, a3, a5⟩) HGr.out HOn.out HAt.out
    go_end0
    exact PE
end Go.Proofs.Ytfpopbhbhdhdnaa
