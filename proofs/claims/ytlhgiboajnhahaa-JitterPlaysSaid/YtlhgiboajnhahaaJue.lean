/- Contracts of package ring over this translation, for rows of goit/jitter.parcel: Shift, Pop. -/
import Derived.Test.YtlhgiboajnhahaaJuc
set_option linter.unusedVariables false
namespace Go.Proofs.Ytlhgiboajnhahaa
open Go.RowKit

set_option maxHeartbeats 1000000 in
theorem jp_Shift (b g : Nat) (s : QS Jp) (w : World) (h : JpAt w b g s) (ho : s.ok) (hc : 0 < s.cnt) :
    Calls Try.prog 26 #[.pointer (some ⟨b, 0, none⟩)] w (JpPost w b g (jpgot (s.get 0) true) s.shift) := by
  have HO := Lib.hid ho
  have HH := Lib.hid (h.alloc (.cells #[.int .u64 0, .int .u64 0, .int .u64 0, .int .u64 0, .int .u64 0, .int .u64 0, .bool false, .int .u64 0] 53))
  have HB := Lib.hid (show Blk (w.alloc (.cells #[.int .u64 0, .int .u64 0, .int .u64 0, .int .u64 0, .int .u64 0, .int .u64 0, .bool false, .int .u64 0] 53)) w.heap.size 53 #[.int .u64 0, .int .u64 0, .int .u64 0, .int .u64 0, .int .u64 0, .int .u64 0, .bool false, .int .u64 0] from Blk.new _ _ _)
  have HM : Hid (Mv w (w.alloc (.cells #[.int .u64 0, .int .u64 0, .int .u64 0, .int .u64 0, .int .u64 0, .int .u64 0, .bool false, .int .u64 0] 53)) b g) := Lib.hid ((Mv.refl w b g).alloc _)
  have HS1 : Hid ((w.alloc (.cells #[.int .u64 0, .int .u64 0, .int .u64 0, .int .u64 0, .int .u64 0, .int .u64 0, .bool false, .int .u64 0] 53)).heap.size = w.heap.size + 1) := Lib.hid (by simp)
  have HZb : Hid (w.heap.size ≠ b) := Lib.hid (Ne.symm h.head.old)
  have HZg : Hid (w.heap.size ≠ g) := Lib.hid (Ne.symm h.body.old)
  have hp : 0 < s.pl.length := by have := ho.c; omega
  have HA : Hid (Calls Try.prog 22 #[.pointer (some ⟨b, 0, none⟩), .int .i64 0] (w.alloc (.cells #[.int .u64 0, .int .u64 0, .int .u64 0, .int .u64 0, .int .u64 0, .int .u64 0, .bool false, .int .u64 0] 53)) fun e w' => e = jpgot (s.get 0) true ∧ Below (w.alloc (.cells #[.int .u64 0, .int .u64 0, .int .u64 0, .int .u64 0, .int .u64 0, .int .u64 0, .bool false, .int .u64 0] 53)).heap.size (w.alloc (.cells #[.int .u64 0, .int .u64 0, .int .u64 0, .int .u64 0, .int .u64 0, .int .u64 0, .bool false, .int .u64 0] 53)) w') := Lib.hid (jp_At b g 0 s _ HH.out ho hc)
  have hcl : s.cnt ≤ 100000 := Nat.le_trans ho.c ho.m
  clear h ho
  generalize s.get 0 = x at *
  go_enter Try.func26, Try.ntmps26
  go_wp2_with fail
  refine (HA.out).mono ?_
  rintro e w1 ⟨rfl, hbel⟩
  have HR1 := Lib.hid (HH.out.keep hbel)
  have HB1 := Lib.hid (HB.out.keep hbel)
  have HM1 := Lib.hid (HM.out.below hbel)
  have HS2 : Hid (w.heap.size + 1 ≤ w1.heap.size) := Lib.hid (by have := hbel.size; have := HS1.out; omega)
  clear hbel HA HH HB HM
  unfold jpgot Jp.agg
  go_wp2_with fail
  have HX : Hid (Blk (w1.alloc (.cells #[.int .u64 (x.p.n : Int), .int .u64 (x.p.size : Int), .int .u64 (x.p.sent : Int), .int .u64 (x.p.first : Int), .int .u64 (x.p.deliv : Int), .int .u64 (x.p.at_ : Int), .bool x.p.lim, .int .u64 (x.due : Int)] 53)) w1.heap.size 53 #[.int .u64 (x.p.n : Int), .int .u64 (x.p.size : Int), .int .u64 (x.p.sent : Int), .int .u64 (x.p.first : Int), .int .u64 (x.p.deliv : Int), .int .u64 (x.p.at_ : Int), .bool x.p.lim, .int .u64 (x.due : Int)]) := Lib.hid (Blk.new _ _ _)
  have HR2 := Lib.hid (HR1.out.alloc (.cells #[.int .u64 (x.p.n : Int), .int .u64 (x.p.size : Int), .int .u64 (x.p.sent : Int), .int .u64 (x.p.first : Int), .int .u64 (x.p.deliv : Int), .int .u64 (x.p.at_ : Int), .bool x.p.lim, .int .u64 (x.due : Int)] 53))
  have HB2 := Lib.hid (HB1.out.alloc (.cells #[.int .u64 (x.p.n : Int), .int .u64 (x.p.size : Int), .int .u64 (x.p.sent : Int), .int .u64 (x.p.first : Int), .int .u64 (x.p.deliv : Int), .int .u64 (x.p.at_ : Int), .bool x.p.lim, .int .u64 (x.due : Int)] 53))
  have HM2 := Lib.hid (HM1.out.alloc (.cells #[.int .u64 (x.p.n : Int), .int .u64 (x.p.size : Int), .int .u64 (x.p.sent : Int), .int .u64 (x.p.first : Int), .int .u64 (x.p.deliv : Int), .int .u64 (x.p.at_ : Int), .bool x.p.lim, .int .u64 (x.due : Int)] 53))
  have HXb : Hid (w1.heap.size ≠ b) := Lib.hid (Ne.symm HR1.out.head.old)
  have HXg : Hid (w1.heap.size ≠ g) := Lib.hid (Ne.symm HR1.out.body.old)
  have HXz : Hid (w1.heap.size ≠ w.heap.size) := Lib.hid (by have := HS2.out; omega)
  generalize (w1.alloc (.cells #[.int .u64 (x.p.n : Int), .int .u64 (x.p.size : Int), .int .u64 (x.p.sent : Int), .int .u64 (x.p.first : Int), .int .u64 (x.p.deliv : Int), .int .u64 (x.p.at_ : Int), .bool x.p.lim, .int .u64 (x.due : Int)] 53)) = wa at *
  generalize w1.heap.size = q at *
  have HC : Hid (Calls Try.prog 31 #[.pointer (some ⟨b, 0, none⟩), .int .i64 0] wa (JpEPost wa b g (s.put 0 Itm.z))) := Lib.hid (jp_empty b g 0 s wa HR2.out HO.out hp (by omega))
  refine (HC.out).mono ?_
  rintro e w2 ⟨rfl, hat, hmv⟩
  have HR3 := Lib.hid hat
  have HM3 := Lib.hid (HM2.out.trans hmv (.inl rfl))
  have HB3 := Lib.hid (HB2.out.mv hmv HZb.out HZg.out)
  have HX3 := Lib.hid (HX.out.mv hmv HXb.out HXg.out)
  clear hat hmv HC HR2 HM2 HB2 HX
  go_wp2_with fail
  have HC : Hid (Calls Try.prog 29 #[.pointer (some ⟨b, 0, none⟩), .int .i64 1] w2 fun e w' => e = .returned (.int .i64 ((s.pos 1 : Nat) : Int)) ∧ Drawn w2 w') := Lib.hid (by
    have := jp_place b g 1 (s.put 0 Itm.z) w2 HR3.out (QS.put_ok HO.out 0 Itm.z) (by rw [QS.put_len]; exact hp) (by omega)
    rw [QS.put_pos] at this
    exact this)
  refine (HC.out).mono ?_
  rintro e w3 ⟨rfl, hd⟩
  have HR4 := Lib.hid (JpAt.drawn hd HR3.out)
  have HM4 := Lib.hid (HM3.out.drawn hd)
  have HB4 := Lib.hid (hd.blk HB3.out)
  have HX4 := Lib.hid (hd.blk HX3.out)
  clear hd HC HR3 HM3 HB3 HX3
  have c1 := HR4.out.head.cell (i := 1) (v := .int .i64 (s.first : Int)) rfl
  have c2 := HR4.out.head.cell (i := 2) (v := .int .i64 (s.cnt : Int)) rfl
  have f1 := HR4.out.head.free 1
  have f2 := HR4.out.head.free 2
  go_wp2_with fail
  have HR5 : Hid (JpAt ((w3.setCell ⟨b, 1, none⟩ (.int .i64 ((s.pos 1 : Nat) : Int))).setCell ⟨b, 2, none⟩ (.int .i64 ((s.cnt : Int) - 1))) b g s.shift0) := Lib.hid ⟨by
      have := (HR4.out.head.set 1 (.int .i64 ((s.pos 1 : Nat) : Int))).set 2 (.int .i64 ((s.cnt : Int) - 1))
      have e : ((s.cnt - 1 : Nat) : Int) = (s.cnt : Int) - 1 := by omega
      simpa [jpCells, QS.shift0, e, QS.put] using this,
    (HR4.out.body.set_other _ _ (Ne.symm HR4.out.ne)).set_other _ _ (Ne.symm HR4.out.ne)⟩
  have HM5 := Lib.hid ((HM4.out.set (c := b) (.inl rfl) 1 (.int .i64 ((s.pos 1 : Nat) : Int))).set (c := b) (.inl rfl) 2 (.int .i64 ((s.cnt : Int) - 1)))
  have HB5 := Lib.hid ((HB4.out.set_other 1 (.int .i64 ((s.pos 1 : Nat) : Int)) HZb.out).set_other 2 (.int .i64 ((s.cnt : Int) - 1)) HZb.out)
  have HX5 := Lib.hid ((HX4.out.set_other 1 (.int .i64 ((s.pos 1 : Nat) : Int)) HXb.out).set_other 2 (.int .i64 ((s.cnt : Int) - 1)) HXb.out)
  generalize ((w3.setCell ⟨b, 1, none⟩ (.int .i64 ((s.pos 1 : Nat) : Int))).setCell ⟨b, 2, none⟩ (.int .i64 ((s.cnt : Int) - 1))) = w4 at *
  clear c1 c2 f1 f2 HR4 HM4 HB4 HX4
  refine (jp_narrow b g s.shift0 w4 HR5.out (QS.shift0_ok HO.out hc)).mono ?_
  rintro e w5 ⟨rfl, hat, hmv⟩
  obtain ⟨g', hg', hgq⟩ := hat
  have HR6 := Lib.hid hg'
  have HG6 : Hid (g' = g ∨ w.heap.size < g') := Lib.hid (by have := HM5.out.size; have := HB5.out.lt; omega)
  have HM6 := Lib.hid (HM5.out.trans hmv (.inl rfl))
  have HB6 := Lib.hid (HB5.out.mv hmv HZb.out HZg.out)
  have HX6 := Lib.hid (HX5.out.mv hmv HXb.out HXg.out)
  clear hg' hgq hmv HR5 HM5 HB5 HX5
  have x0 := HX6.out.cell (i := 0) (v := .int .u64 (x.p.n : Int)) rfl
  have x1 := HX6.out.cell (i := 1) (v := .int .u64 (x.p.size : Int)) rfl
  have x2 := HX6.out.cell (i := 2) (v := .int .u64 (x.p.sent : Int)) rfl
  have x3 := HX6.out.cell (i := 3) (v := .int .u64 (x.p.first : Int)) rfl
  have x4 := HX6.out.cell (i := 4) (v := .int .u64 (x.p.deliv : Int)) rfl
  have x5 := HX6.out.cell (i := 5) (v := .int .u64 (x.p.at_ : Int)) rfl
  have x6 := HX6.out.cell (i := 6) (v := .bool x.p.lim) rfl
  have x7 := HX6.out.cell (i := 7) (v := .int .u64 (x.due : Int)) rfl
  have r0 := HB6.out.cell (i := 0) (v := .int .u64 0) rfl
  have fr0 := HB6.out.free 0
  have r1 := HB6.out.cell (i := 1) (v := .int .u64 0) rfl
  have fr1 := HB6.out.free 1
  have r2 := HB6.out.cell (i := 2) (v := .int .u64 0) rfl
  have fr2 := HB6.out.free 2
  have r3 := HB6.out.cell (i := 3) (v := .int .u64 0) rfl
  have fr3 := HB6.out.free 3
  have r4 := HB6.out.cell (i := 4) (v := .int .u64 0) rfl
  have fr4 := HB6.out.free 4
  have r5 := HB6.out.cell (i := 5) (v := .int .u64 0) rfl
  have fr5 := HB6.out.free 5
  have r6 := HB6.out.cell (i := 6) (v := .bool false) rfl
  have fr6 := HB6.out.free 6
  have r7 := HB6.out.cell (i := 7) (v := .int .u64 0) rfl
  have fr7 := HB6.out.free 7
  go_wp2_with fail
  have F1 := Blk.whole (Itm.cs x) HB6.out rfl
  refine bodyPost_ret (results_cell_tmp rfl _ _ w.heap.size 53 _ _ rfl F1 Try.underlying53 rfl (by kernel_rfl)) rfl ⟨rfl, ⟨g', ⟨?_, ?_⟩, ?_⟩, ?_⟩
  · exact Blk.sets_other (Ne.symm HZb.out) (Itm.cs x) 0 w5 HR6.out.head
  · exact Blk.sets_other (by have := HG6.out; have := HZg.out; omega) (Itm.cs x) 0 w5 HR6.out.body
  · have := HG6.out; omega
  · exact Mv.sets (.inr (.inr (Nat.le_refl _))) (Itm.cs x) 0 w5 HM6.out

set_option maxHeartbeats 1000000 in
theorem jp_Shift_none (b g : Nat) (s : QS Jp) (w : World) (h : JpAt w b g s) (hc : s.cnt = 0) :
    Calls Try.prog 26 #[.pointer (some ⟨b, 0, none⟩)] w (JpPost w b g (jpgot Itm.z false) s) := by
  have HH := Lib.hid (h.alloc (.cells #[.int .u64 0, .int .u64 0, .int .u64 0, .int .u64 0, .int .u64 0, .int .u64 0, .bool false, .int .u64 0] 53))
  have HB := Lib.hid (show Blk (w.alloc (.cells #[.int .u64 0, .int .u64 0, .int .u64 0, .int .u64 0, .int .u64 0, .int .u64 0, .bool false, .int .u64 0] 53)) w.heap.size 53 #[.int .u64 0, .int .u64 0, .int .u64 0, .int .u64 0, .int .u64 0, .int .u64 0, .bool false, .int .u64 0] from Blk.new _ _ _)
  have HM : Hid (Mv w (w.alloc (.cells #[.int .u64 0, .int .u64 0, .int .u64 0, .int .u64 0, .int .u64 0, .int .u64 0, .bool false, .int .u64 0] 53)) b g) := Lib.hid ((Mv.refl w b g).alloc _)
  have HZb : Hid (b ≠ w.heap.size) := Lib.hid h.head.old
  have HZg : Hid (g ≠ w.heap.size) := Lib.hid h.body.old
  have HA := Lib.hid (jp_At_out b g 0 s (w.alloc (.cells #[.int .u64 0, .int .u64 0, .int .u64 0, .int .u64 0, .int .u64 0, .int .u64 0, .bool false, .int .u64 0] 53)) HH.out (.inr (by omega)))
  clear h hc
  go_enter Try.func26, Try.ntmps26
  go_wp2_with fail
  refine (HA.out).mono ?_
  rintro e w1 ⟨rfl, hbel⟩
  have HR1 := Lib.hid (HH.out.keep hbel)
  have HB1 := Lib.hid (HB.out.keep hbel)
  have HM1 := Lib.hid (HM.out.below hbel)
  clear hbel HA HH HB HM
  have HX : Hid (Blk (w1.alloc (.cells #[.int .u64 0, .int .u64 0, .int .u64 0, .int .u64 0, .int .u64 0, .int .u64 0, .bool false, .int .u64 0] 53)) w1.heap.size 53 #[.int .u64 0, .int .u64 0, .int .u64 0, .int .u64 0, .int .u64 0, .int .u64 0, .bool false, .int .u64 0]) := Lib.hid (Blk.new _ _ _)
  have HR2 := Lib.hid (HR1.out.alloc (.cells #[.int .u64 0, .int .u64 0, .int .u64 0, .int .u64 0, .int .u64 0, .int .u64 0, .bool false, .int .u64 0] 53))
  have HB2 := Lib.hid (HB1.out.alloc (.cells #[.int .u64 0, .int .u64 0, .int .u64 0, .int .u64 0, .int .u64 0, .int .u64 0, .bool false, .int .u64 0] 53))
  have HM2 := Lib.hid (HM1.out.alloc (.cells #[.int .u64 0, .int .u64 0, .int .u64 0, .int .u64 0, .int .u64 0, .int .u64 0, .bool false, .int .u64 0] 53))
  have x0 := HX.out.cell (i := 0) (v := .int .u64 0) rfl
  have x1 := HX.out.cell (i := 1) (v := .int .u64 0) rfl
  have x2 := HX.out.cell (i := 2) (v := .int .u64 0) rfl
  have x3 := HX.out.cell (i := 3) (v := .int .u64 0) rfl
  have x4 := HX.out.cell (i := 4) (v := .int .u64 0) rfl
  have x5 := HX.out.cell (i := 5) (v := .int .u64 0) rfl
  have x6 := HX.out.cell (i := 6) (v := .bool false) rfl
  have x7 := HX.out.cell (i := 7) (v := .int .u64 0) rfl
  have r0 := HB2.out.cell (i := 0) (v := .int .u64 0) rfl
  have fr0 := HB2.out.free 0
  have r1 := HB2.out.cell (i := 1) (v := .int .u64 0) rfl
  have fr1 := HB2.out.free 1
  have r2 := HB2.out.cell (i := 2) (v := .int .u64 0) rfl
  have fr2 := HB2.out.free 2
  have r3 := HB2.out.cell (i := 3) (v := .int .u64 0) rfl
  have fr3 := HB2.out.free 3
  have r4 := HB2.out.cell (i := 4) (v := .int .u64 0) rfl
  have fr4 := HB2.out.free 4
  have r5 := HB2.out.cell (i := 5) (v := .int .u64 0) rfl
  have fr5 := HB2.out.free 5
  have r6 := HB2.out.cell (i := 6) (v := .bool false) rfl
  have fr6 := HB2.out.free 6
  have r7 := HB2.out.cell (i := 7) (v := .int .u64 0) rfl
  have fr7 := HB2.out.free 7
  have HG : jpgot Itm.z false = .returned (.tuple #[.agg #[.int .u64 0, .int .u64 0, .int .u64 0, .int .u64 0, .int .u64 0, .int .u64 0, .bool false, .int .u64 0], .bool false]) := rfl
  rw [HG]
  go_wp2_with fail
  have F1 := Blk.whole (Itm.cs (Itm.z (α := Jp))) HB2.out rfl
  refine bodyPost_ret (results_cell_tmp rfl _ _ w.heap.size 53 _ _ rfl F1 Try.underlying53 rfl (by kernel_rfl)) rfl ⟨rfl, ⟨g, ⟨?_, ?_⟩, .inl rfl⟩, ?_⟩
  · exact Blk.sets_other HZb.out (Itm.cs (Itm.z (α := Jp))) 0 _ HR2.out.head
  · exact Blk.sets_other HZg.out (Itm.cs (Itm.z (α := Jp))) 0 _ HR2.out.body
  · exact Mv.sets (.inr (.inr (Nat.le_refl _))) (Itm.cs (Itm.z (α := Jp))) 0 _ HM2.out

end Go.Proofs.Ytlhgiboajnhahaa
