/- Contracts of package filt over this translation: enter puts a reading, and takes away what it beats. -/
import Derived.Test.YthhiljaceobnmaaFd
set_option linter.unusedVariables false
namespace Go.Proofs.Ythhiljaceobnmaa
open Go.RowKit Pl

/-- What holds at the head of each round of enter. -/
def EntRel (w : World) (a b g : Nat) (f : FS) (r : Rd) (vz vo : Value) (wr : World) : Prop :=
  ∃ (z g' : Nat) (l : List Rd), vz = .pointer (some ⟨z, 0, none⟩) ∧ vo = .bool (!l.isEmpty) ∧ FlAt wr a b g' (f.with l) ∧ Blk wr z 52 (Itm.cs (l.getLastD Itm.z)).toArray ∧
    popL (bt f.least r) l = popL (bt f.least r) f.l ∧ (g' = g ∨ w.heap.size < g') ∧ w.heap.size < z ∧ z ≠ g' ∧ Fr w wr [a, b, g] ∧ Blk wr w.heap.size 52 #[.int .u64 (r.t : Int), .int .u64 (r.x : Int)] ∧ l.length ≤ f.l.length ∧ (∀ s ∈ l, s ∈ f.l)

set_option maxHeartbeats 2000000 in
theorem fl_enter_least (a b g : Nat) (f : FS) (r : Rd) (w : World) (h : FlAt w a b g f) (ho : f.ok) (hl : f.least = true) :
    Calls Try.prog 17 #[.pointer (some ⟨a, 0, none⟩), r.agg] w (FPost w a b g (.returned (.tuple #[])) (f.with (popL (bt f.least r) f.l ++ [r]))) := by
  have HO := Lib.hid ho
  have HF0 : Hid (FlAt (w.alloc (.cells #[.int .u64 (r.t : Int), .int .u64 (r.x : Int)] 52)) a b g f) := Lib.hid ⟨h.head.alloc _, h.row.alloc _⟩
  have HB0 : Hid (Blk (w.alloc (.cells #[.int .u64 (r.t : Int), .int .u64 (r.x : Int)] 52)) w.heap.size 52 #[.int .u64 (r.t : Int), .int .u64 (r.x : Int)]) := Lib.hid (Blk.new _ _ _)
  have HR0 : Hid (Fr w (w.alloc (.cells #[.int .u64 (r.t : Int), .int .u64 (r.x : Int)] 52)) [a, b, g]) := Lib.hid ((Fr.refl _ _).alloc _)
  have HS0 : Hid ((w.alloc (.cells #[.int .u64 (r.t : Int), .int .u64 (r.x : Int)] 52)).heap.size = w.heap.size + 1) := Lib.hid (by simp)
  have HBt := Lib.hid (fl_better a b g f r (w.alloc (.cells #[.int .u64 (r.t : Int), .int .u64 (r.x : Int)] 52)) HF0.out)
  have hbe : beats f.least r = .func (.func 36) #[r.agg] #[] := by rw [hl]; rfl
  rw [hbe] at HBt
  clear hbe
  unfold Rd.agg at HBt ⊢
  have hal := h.lt
  have r0 := HB0.out.cell (i := 0) (v := .int .u64 (r.t : Int)) rfl
  have r1 := HB0.out.cell (i := 1) (v := .int .u64 (r.x : Int)) rfl
  clear h ho
  rw [hl]
  go_enter Try.func17, Try.ntmps17
  go_wp2_with fail
  generalize (w.alloc (.cells #[.int .u64 (r.t : Int), .int .u64 (r.x : Int)] 52)) = w0 at *
  refine (HBt.out).mono ?_
  rintro e w1 ⟨rfl, hb⟩
  have HF1 := Lib.hid (HF0.out.keep hb)
  have HB1 := Lib.hid (HB0.out.keep hb)
  have HR1 := Lib.hid (HR0.out.below hb)
  have HS1 : Hid (w.heap.size < w1.heap.size) := Lib.hid (by have := hb.size; have := HS0.out; omega)
  clear hb HBt HF0 HB0 HR0 HS0 r0 r1
  have HLa := Lib.hid (fl_last a b g f w1 HF1.out)
  generalize hx : f.l.getLastD Itm.z = x at *
  have HX := Lib.hid hx
  clear hx
  go_wp2_with fail
  refine (HLa.out).mono ?_
  rintro e w2 ⟨rfl, hb⟩
  have HF2 := Lib.hid (HF1.out.keep hb)
  have HB2 := Lib.hid (HB1.out.keep hb)
  have HR2 := Lib.hid (HR1.out.below hb)
  have HS2 : Hid (w.heap.size < w2.heap.size) := Lib.hid (by have := hb.size; have := HS1.out; omega)
  clear hb HLa HF1 HB1 HR1 HS1
  unfold rdgot Rd.agg
  have R0 : Hid (EntRel w a b g f r (.pointer (some ⟨w2.heap.size, 0, none⟩)) (.bool (!f.l.isEmpty)) (w2.alloc (.cells #[.int .u64 (x.t : Int), .int .u64 (x.x : Int)] 52))) := Lib.hid
    ⟨w2.heap.size, g, f.l, rfl, rfl, ⟨HF2.out.head.alloc _, HF2.out.row.alloc _⟩, by rw [HX.out]; exact Blk.new _ _ _, rfl, .inl rfl, HS2.out, by have := HF2.out.lt; omega, HR2.out.alloc _, HB2.out.alloc _, Nat.le_refl _, fun _ h => h⟩
  go_wp2_with fail
  go_loopw [5, 6] (fun vz vo wr => EntRel w a b g f r vz vo wr) (fun _ _ wr => cntOf wr b)
  case atStart => exact R0.out
  case round =>
    obtain ⟨z, g', l, rfl, rfl, hf, hz, hd, hg, hzs, hzg, hfr, hbx, hn, hs⟩ := hrel
    have HF := Lib.hid hf
    have HZ := Lib.hid hz
    have HD := Lib.hid hd
    have HR := Lib.hid hfr
    have HBx := Lib.hid hbx
    have HG := Lib.hid hg
    have HS := Lib.hid hs
    have HN := Lib.hid hn
    have HOk := Lib.hid (FS.with_ok HO.out hn hs)
    have hwb : w.heap.size ≠ b := by obtain ⟨cs, k⟩ := hf.row.head; exact hbx.ty k (by decide)
    have hwg : w.heap.size ≠ g' := by omega
    clear hf hz hd hg hfr hs hn hbx R0
    rcases List.eq_nil_or_concat l with rfl | ⟨k, y, rfl⟩
    · have HE : Hid (popL (bt true r) f.l ++ [r] = ([] : List Rd) ++ [r]) := Lib.hid (by rw [← hl, ← HD.out]; rfl)
      have HRw := Lib.hid (HF.out.row.drawn (Drawn.drew _))
      have HPu := Lib.hid (rd_push b g' r [] _ HRw.out (by simp))
      unfold Rd.agg at HPu
      have a1 := HF.out.head.drew.cell (i := 0) (v := .pointer (some ⟨b, 0, none⟩)) rfl
      have r0 := HBx.out.drew.cell (i := 0) (v := .int .u64 (r.t : Int)) rfl
      have r1 := HBx.out.drew.cell (i := 1) (v := .int .u64 (r.x : Int)) rfl
      go_wp2_with fail
      go_region_held3 (fun w' => w'.cell? ⟨a, 0, none⟩ = some (.pointer (some ⟨b, 0, none⟩)) ∧ w'.cell? ⟨w.heap.size, 0, none⟩ = some (.int .u64 (r.t : Int)) ∧ w'.cell? ⟨w.heap.size, 1, none⟩ = some (.int .u64 (r.x : Int)))
        (first | exact ⟨a1, r0, r1⟩ | exact ⟨b1, s0, s1⟩)
        (first | (go_at_call 29; refine (HPu.out).mono ?_; rintro e w' ⟨rfl, hat, hfr⟩; have HAt := Lib.hid hat; have HFr := Lib.hid hfr; have HA9 := Lib.hid (HF.out.head.drew.fr hfr (by simp; exact ⟨HF.out.ab, HF.out.ag⟩)); have HB9 := Lib.hid (HBx.out.drew.fr hfr (by simp; exact ⟨hwb, hwg⟩)); clear hat hfr; have b1 := HA9.out.cell (i := 0) (v := .pointer (some ⟨b, 0, none⟩)) rfl; have s0 := HB9.out.cell (i := 0) (v := .int .u64 (r.t : Int)) rfl; have s1 := HB9.out.cell (i := 1) (v := .int .u64 (r.x : Int)) rfl))
      go_wp2_with fail
      go_end0
      obtain ⟨g9, hg9, hq9⟩ := HAt.out
      rw [HE.out]
      refine ⟨rfl, ⟨g9, ⟨HA9.out, hg9⟩, ?_⟩, ((HR.out.drawn (Drawn.drew _)).trans HFr.out (by have := HG.out; intro y hy; simp at hy ⊢; omega))⟩
      have h1 := HG.out
      have h2 := HR.out.size
      have h3 : (World.drew wr).heap.size = (wr).heap.size := rfl
      omega
    · rw [List.concat_eq_append] at HF HZ HD HS HN HOk ⊢
      have hne : (!(k ++ [y]).isEmpty) = true := by cases k <;> rfl
      have hla : (k ++ [y]).getLastD Itm.z = y := by simp
      rw [hla] at HZ
      have HCl := Lib.hid (fl_below r y wr)
      have z0 := HZ.out.cell (i := 0) (v := .int .u64 (y.t : Int)) rfl
      have z1 := HZ.out.cell (i := 1) (v := .int .u64 (y.x : Int)) rfl
      unfold Rd.agg at HCl
      rw [hne]
      clear hne hla
      go_wp2_with fail
      refine (HCl.out).mono ?_
      rintro e w3 ⟨rfl, hb⟩
      have HF3 := Lib.hid (HF.out.keep hb)
      have HZ3 := Lib.hid (HZ.out.keep hb)
      have HR3 := Lib.hid (HR.out.below hb)
      have HBx3 := Lib.hid (HBx.out.keep hb)
      clear hb HCl z0 z1 HZ HR HBx
      by_cases c : bt true r y = true
      · have HD2 : Hid (popL (bt f.least r) k = popL (bt f.least r) f.l) := Lib.hid (by rw [← HD.out, popL_snoc, if_pos (by rw [hl]; exact c)])
        rw [c]
        have a1 := HF3.out.head.cell (i := 0) (v := .pointer (some ⟨b, 0, none⟩)) rfl
        have HSh := Lib.hid (rd_pop b g' y k w3 HF3.out.row)
        clear HD c
        go_wp2_with fail
        refine (HSh.out).mono ?_
        rintro e w4 ⟨rfl, hat, hfr⟩
        obtain ⟨g2, hrow, hg2⟩ := hat
        have HA4 := Lib.hid (HF3.out.head.fr hfr (by simp; exact ⟨HF3.out.ab, HF3.out.ag⟩))
        have HRow4 := Lib.hid hrow
        have hzb : z ≠ b := by obtain ⟨cs, k⟩ := HF3.out.row.head; exact HZ3.out.ty k (by decide)
        have HZ4 := Lib.hid (HZ3.out.fr hfr (by simp; exact ⟨hzb, hzg⟩))
        have HBx4 := Lib.hid (HBx3.out.fr hfr (by simp; exact ⟨hwb, hwg⟩))
        have HR4 := Lib.hid (HR3.out.trans hfr (by have := HG.out; intro y hy; simp at hy ⊢; omega))
        have HG4 : Hid (g2 = g ∨ w.heap.size < g2) := Lib.hid (by have := HG.out; have := HR3.out.size; have := HBx3.out.lt; omega)
        have z0 := HZ4.out.cell (i := 0) (v := .int .u64 (y.t : Int)) rfl
        have z1 := HZ4.out.cell (i := 1) (v := .int .u64 (y.x : Int)) rfl
        clear hrow hg2 hfr HSh a1 HZ3 HBx3 HR3
        unfold rdgot Rd.agg
        have HZ5 : Hid (Blk (w4.alloc (.cells #[.int .u64 (y.t : Int), .int .u64 (y.x : Int)] 52)) w4.heap.size 52 #[.int .u64 (y.t : Int), .int .u64 (y.x : Int)]) := Lib.hid (Blk.new _ _ _)
        have HF5 : Hid (FlAt (w4.alloc (.cells #[.int .u64 (y.t : Int), .int .u64 (y.x : Int)] 52)) a b g2 (f.with k)) := Lib.hid ⟨HA4.out.alloc _, HRow4.out.alloc _⟩
        have HR5 := Lib.hid (HR4.out.alloc (.cells #[.int .u64 (y.t : Int), .int .u64 (y.x : Int)] 52))
        have HBx5 := Lib.hid (HBx4.out.alloc (.cells #[.int .u64 (y.t : Int), .int .u64 (y.x : Int)] 52))
        have HQ5 : Hid (w4.heap.size ≠ g2) := Lib.hid (by have := HRow4.out.lt; omega)
        have HS5 : Hid (w.heap.size < w4.heap.size) := Lib.hid HBx4.out.lt
        have HLa := Lib.hid (fl_last a b g2 (f.with k) _ HF5.out)
        clear HA4 HRow4 HR4 HBx4
        generalize hy : (f.with k).l.getLastD Itm.z = v at *
        have HY : Hid (k.getLastD Itm.z = v) := Lib.hid hy
        clear hy
        go_wp2_with fail
        refine (HLa.out).mono ?_
        rintro e w5 ⟨rfl, hb⟩
        have HZ6 := Lib.hid (HZ5.out.keep hb)
        have HF6 := Lib.hid (HF5.out.keep hb)
        have HR6 := Lib.hid (HR5.out.below hb)
        have HBx6 := Lib.hid (HBx5.out.keep hb)
        clear hb HLa HZ5 HF5 HR5 HBx5 z0 z1
        unfold rdgot Rd.agg
        have z0 := HZ6.out.cell (i := 0) (v := .int .u64 (y.t : Int)) rfl
        have z1 := HZ6.out.cell (i := 1) (v := .int .u64 (y.x : Int)) rfl
        have f0 := HZ6.out.free 0
        have f1 := HZ6.out.free 1
        generalize w4.heap.size = q at *
        go_wp2_with fail
        have HZ7 : Hid (Blk ((w5.setCell ⟨q, 0, none⟩ (.int .u64 (v.t : Int))).setCell ⟨q, 1, none⟩ (.int .u64 (v.x : Int))) q 52 (Itm.cs v).toArray) := Lib.hid (Blk.whole (Itm.cs v) HZ6.out rfl)
        have hqa : a ≠ q := HF6.out.head.ty HZ6.out (by decide)
        have hqb : b ≠ q := by obtain ⟨cs, k⟩ := HF6.out.row.head; exact k.ty HZ6.out (by decide)
        have hqw : w.heap.size ≠ q := by have := HS5.out; omega
        have HF7 : Hid (FlAt ((w5.setCell ⟨q, 0, none⟩ (.int .u64 (v.t : Int))).setCell ⟨q, 1, none⟩ (.int .u64 (v.x : Int))) a b g2 (f.with k)) := Lib.hid ⟨(HF6.out.head.set_other _ _ hqa).set_other _ _ hqa, (HF6.out.row.set_other hqb (Ne.symm HQ5.out)).set_other hqb (Ne.symm HQ5.out)⟩
        have HR7 : Hid (Fr w ((w5.setCell ⟨q, 0, none⟩ (.int .u64 (v.t : Int))).setCell ⟨q, 1, none⟩ (.int .u64 (v.x : Int))) [a, b, g]) := Lib.hid ((HR6.out.set (.inr (Nat.le_of_lt HS5.out)) _ _).set (.inr (Nat.le_of_lt HS5.out)) _ _)
        have HBx7 : Hid (Blk ((w5.setCell ⟨q, 0, none⟩ (.int .u64 (v.t : Int))).setCell ⟨q, 1, none⟩ (.int .u64 (v.x : Int))) w.heap.size 52 #[.int .u64 (r.t : Int), .int .u64 (r.x : Int)]) := Lib.hid ((HBx6.out.set_other _ _ hqw).set_other _ _ hqw)
        generalize ((w5.setCell ⟨q, 0, none⟩ (.int .u64 (v.t : Int))).setCell ⟨q, 1, none⟩ (.int .u64 (v.x : Int))) = w6 at *
        clear z0 z1 f0 f1 HZ6 HF6 HR6 HBx6
        go_roundw
        case rel => exact ⟨q, g2, k, rfl, rfl, HF7.out, by rw [HY.out]; exact HZ7.out, HD2.out, HG4.out, HS5.out, HQ5.out, HR7.out, HBx7.out, by have := HN.out; simp at this; omega, fun s hs => HS.out s (by simp [hs])⟩
        case measure => rw [HF7.out.row.cnt, HF.out.row.cnt]; simp [FS.with]
      · have HE : Hid (popL (bt true r) f.l ++ [r] = (k ++ [y]) ++ [r]) := Lib.hid (by rw [← hl, ← HD.out, popL_snoc, if_neg (by rw [hl]; exact c)])
        rw [eq_false_of_ne_true c]
        clear c
        have HRw := Lib.hid (HF3.out.row.drawn (Drawn.drew _))
        have HPu := Lib.hid (rd_push b g' r (k ++ [y]) _ HRw.out (by have := HOk.out.n; simpa [FS.with] using this))
        unfold Rd.agg at HPu
        have a1 := HF3.out.head.drew.cell (i := 0) (v := .pointer (some ⟨b, 0, none⟩)) rfl
        have r0 := HBx3.out.drew.cell (i := 0) (v := .int .u64 (r.t : Int)) rfl
        have r1 := HBx3.out.drew.cell (i := 1) (v := .int .u64 (r.x : Int)) rfl
        go_wp2_with fail
        go_region_held3 (fun w' => w'.cell? ⟨a, 0, none⟩ = some (.pointer (some ⟨b, 0, none⟩)) ∧ w'.cell? ⟨w.heap.size, 0, none⟩ = some (.int .u64 (r.t : Int)) ∧ w'.cell? ⟨w.heap.size, 1, none⟩ = some (.int .u64 (r.x : Int)))
          (first | exact ⟨a1, r0, r1⟩ | exact ⟨b1, s0, s1⟩)
          (first | (go_at_call 29; refine (HPu.out).mono ?_; rintro e w' ⟨rfl, hat, hfr⟩; have HAt := Lib.hid hat; have HFr := Lib.hid hfr; have HA9 := Lib.hid (HF3.out.head.drew.fr hfr (by simp; exact ⟨HF3.out.ab, HF3.out.ag⟩)); have HB9 := Lib.hid (HBx3.out.drew.fr hfr (by simp; exact ⟨hwb, hwg⟩)); clear hat hfr; have b1 := HA9.out.cell (i := 0) (v := .pointer (some ⟨b, 0, none⟩)) rfl; have s0 := HB9.out.cell (i := 0) (v := .int .u64 (r.t : Int)) rfl; have s1 := HB9.out.cell (i := 1) (v := .int .u64 (r.x : Int)) rfl))
        go_wp2_with fail
        go_end0
        obtain ⟨g9, hg9, hq9⟩ := HAt.out
        rw [HE.out]
        refine ⟨rfl, ⟨g9, ⟨HA9.out, hg9⟩, ?_⟩, ((HR3.out.drawn (Drawn.drew _)).trans HFr.out (by have := HG.out; intro y hy; simp at hy ⊢; omega))⟩
        have h1 := HG.out
        have h2 := HR3.out.size
        have h3 : (World.drew w3).heap.size = (w3).heap.size := rfl
        omega

set_option maxHeartbeats 2000000 in
theorem fl_enter_most (a b g : Nat) (f : FS) (r : Rd) (w : World) (h : FlAt w a b g f) (ho : f.ok) (hl : f.least = false) :
    Calls Try.prog 17 #[.pointer (some ⟨a, 0, none⟩), r.agg] w (FPost w a b g (.returned (.tuple #[])) (f.with (popL (bt f.least r) f.l ++ [r]))) := by
  have HO := Lib.hid ho
  have HF0 : Hid (FlAt (w.alloc (.cells #[.int .u64 (r.t : Int), .int .u64 (r.x : Int)] 52)) a b g f) := Lib.hid ⟨h.head.alloc _, h.row.alloc _⟩
  have HB0 : Hid (Blk (w.alloc (.cells #[.int .u64 (r.t : Int), .int .u64 (r.x : Int)] 52)) w.heap.size 52 #[.int .u64 (r.t : Int), .int .u64 (r.x : Int)]) := Lib.hid (Blk.new _ _ _)
  have HR0 : Hid (Fr w (w.alloc (.cells #[.int .u64 (r.t : Int), .int .u64 (r.x : Int)] 52)) [a, b, g]) := Lib.hid ((Fr.refl _ _).alloc _)
  have HS0 : Hid ((w.alloc (.cells #[.int .u64 (r.t : Int), .int .u64 (r.x : Int)] 52)).heap.size = w.heap.size + 1) := Lib.hid (by simp)
  have HBt := Lib.hid (fl_better a b g f r (w.alloc (.cells #[.int .u64 (r.t : Int), .int .u64 (r.x : Int)] 52)) HF0.out)
  have hbe : beats f.least r = .func (.func 37) #[r.agg] #[] := by rw [hl]; rfl
  rw [hbe] at HBt
  clear hbe
  unfold Rd.agg at HBt ⊢
  have hal := h.lt
  have r0 := HB0.out.cell (i := 0) (v := .int .u64 (r.t : Int)) rfl
  have r1 := HB0.out.cell (i := 1) (v := .int .u64 (r.x : Int)) rfl
  clear h ho
  rw [hl]
  go_enter Try.func17, Try.ntmps17
  go_wp2_with fail
  generalize (w.alloc (.cells #[.int .u64 (r.t : Int), .int .u64 (r.x : Int)] 52)) = w0 at *
  refine (HBt.out).mono ?_
  rintro e w1 ⟨rfl, hb⟩
  have HF1 := Lib.hid (HF0.out.keep hb)
  have HB1 := Lib.hid (HB0.out.keep hb)
  have HR1 := Lib.hid (HR0.out.below hb)
  have HS1 : Hid (w.heap.size < w1.heap.size) := Lib.hid (by have := hb.size; have := HS0.out; omega)
  clear hb HBt HF0 HB0 HR0 HS0 r0 r1
  have HLa := Lib.hid (fl_last a b g f w1 HF1.out)
  generalize hx : f.l.getLastD Itm.z = x at *
  have HX := Lib.hid hx
  clear hx
  go_wp2_with fail
  refine (HLa.out).mono ?_
  rintro e w2 ⟨rfl, hb⟩
  have HF2 := Lib.hid (HF1.out.keep hb)
  have HB2 := Lib.hid (HB1.out.keep hb)
  have HR2 := Lib.hid (HR1.out.below hb)
  have HS2 : Hid (w.heap.size < w2.heap.size) := Lib.hid (by have := hb.size; have := HS1.out; omega)
  clear hb HLa HF1 HB1 HR1 HS1
  unfold rdgot Rd.agg
  have R0 : Hid (EntRel w a b g f r (.pointer (some ⟨w2.heap.size, 0, none⟩)) (.bool (!f.l.isEmpty)) (w2.alloc (.cells #[.int .u64 (x.t : Int), .int .u64 (x.x : Int)] 52))) := Lib.hid
    ⟨w2.heap.size, g, f.l, rfl, rfl, ⟨HF2.out.head.alloc _, HF2.out.row.alloc _⟩, by rw [HX.out]; exact Blk.new _ _ _, rfl, .inl rfl, HS2.out, by have := HF2.out.lt; omega, HR2.out.alloc _, HB2.out.alloc _, Nat.le_refl _, fun _ h => h⟩
  go_wp2_with fail
  go_loopw [5, 6] (fun vz vo wr => EntRel w a b g f r vz vo wr) (fun _ _ wr => cntOf wr b)
  case atStart => exact R0.out
  case round =>
    obtain ⟨z, g', l, rfl, rfl, hf, hz, hd, hg, hzs, hzg, hfr, hbx, hn, hs⟩ := hrel
    have HF := Lib.hid hf
    have HZ := Lib.hid hz
    have HD := Lib.hid hd
    have HR := Lib.hid hfr
    have HBx := Lib.hid hbx
    have HG := Lib.hid hg
    have HS := Lib.hid hs
    have HN := Lib.hid hn
    have HOk := Lib.hid (FS.with_ok HO.out hn hs)
    have hwb : w.heap.size ≠ b := by obtain ⟨cs, k⟩ := hf.row.head; exact hbx.ty k (by decide)
    have hwg : w.heap.size ≠ g' := by omega
    clear hf hz hd hg hfr hs hn hbx R0
    rcases List.eq_nil_or_concat l with rfl | ⟨k, y, rfl⟩
    · have HE : Hid (popL (bt false r) f.l ++ [r] = ([] : List Rd) ++ [r]) := Lib.hid (by rw [← hl, ← HD.out]; rfl)
      have HRw := Lib.hid (HF.out.row.drawn (Drawn.drew _))
      have HPu := Lib.hid (rd_push b g' r [] _ HRw.out (by simp))
      unfold Rd.agg at HPu
      have a1 := HF.out.head.drew.cell (i := 0) (v := .pointer (some ⟨b, 0, none⟩)) rfl
      have r0 := HBx.out.drew.cell (i := 0) (v := .int .u64 (r.t : Int)) rfl
      have r1 := HBx.out.drew.cell (i := 1) (v := .int .u64 (r.x : Int)) rfl
      go_wp2_with fail
      go_region_held3 (fun w' => w'.cell? ⟨a, 0, none⟩ = some (.pointer (some ⟨b, 0, none⟩)) ∧ w'.cell? ⟨w.heap.size, 0, none⟩ = some (.int .u64 (r.t : Int)) ∧ w'.cell? ⟨w.heap.size, 1, none⟩ = some (.int .u64 (r.x : Int)))
        (first | exact ⟨a1, r0, r1⟩ | exact ⟨b1, s0, s1⟩)
        (first | (go_at_call 29; refine (HPu.out).mono ?_; rintro e w' ⟨rfl, hat, hfr⟩; have HAt := Lib.hid hat; have HFr := Lib.hid hfr; have HA9 := Lib.hid (HF.out.head.drew.fr hfr (by simp; exact ⟨HF.out.ab, HF.out.ag⟩)); have HB9 := Lib.hid (HBx.out.drew.fr hfr (by simp; exact ⟨hwb, hwg⟩)); clear hat hfr; have b1 := HA9.out.cell (i := 0) (v := .pointer (some ⟨b, 0, none⟩)) rfl; have s0 := HB9.out.cell (i := 0) (v := .int .u64 (r.t : Int)) rfl; have s1 := HB9.out.cell (i := 1) (v := .int .u64 (r.x : Int)) rfl))
      go_wp2_with fail
      go_end0
      obtain ⟨g9, hg9, hq9⟩ := HAt.out
      rw [HE.out]
      refine ⟨rfl, ⟨g9, ⟨HA9.out, hg9⟩, ?_⟩, ((HR.out.drawn (Drawn.drew _)).trans HFr.out (by have := HG.out; intro y hy; simp at hy ⊢; omega))⟩
      have h1 := HG.out
      have h2 := HR.out.size
      have h3 : (World.drew wr).heap.size = (wr).heap.size := rfl
      omega
    · rw [List.concat_eq_append] at HF HZ HD HS HN HOk ⊢
      have hne : (!(k ++ [y]).isEmpty) = true := by cases k <;> rfl
      have hla : (k ++ [y]).getLastD Itm.z = y := by simp
      rw [hla] at HZ
      have HCl := Lib.hid (fl_above r y wr)
      have z0 := HZ.out.cell (i := 0) (v := .int .u64 (y.t : Int)) rfl
      have z1 := HZ.out.cell (i := 1) (v := .int .u64 (y.x : Int)) rfl
      unfold Rd.agg at HCl
      rw [hne]
      clear hne hla
      go_wp2_with fail
      refine (HCl.out).mono ?_
      rintro e w3 ⟨rfl, hb⟩
      have HF3 := Lib.hid (HF.out.keep hb)
      have HZ3 := Lib.hid (HZ.out.keep hb)
      have HR3 := Lib.hid (HR.out.below hb)
      have HBx3 := Lib.hid (HBx.out.keep hb)
      clear hb HCl z0 z1 HZ HR HBx
      by_cases c : bt false r y = true
      · have HD2 : Hid (popL (bt f.least r) k = popL (bt f.least r) f.l) := Lib.hid (by rw [← HD.out, popL_snoc, if_pos (by rw [hl]; exact c)])
        rw [c]
        have a1 := HF3.out.head.cell (i := 0) (v := .pointer (some ⟨b, 0, none⟩)) rfl
        have HSh := Lib.hid (rd_pop b g' y k w3 HF3.out.row)
        clear HD c
        go_wp2_with fail
        refine (HSh.out).mono ?_
        rintro e w4 ⟨rfl, hat, hfr⟩
        obtain ⟨g2, hrow, hg2⟩ := hat
        have HA4 := Lib.hid (HF3.out.head.fr hfr (by simp; exact ⟨HF3.out.ab, HF3.out.ag⟩))
        have HRow4 := Lib.hid hrow
        have hzb : z ≠ b := by obtain ⟨cs, k⟩ := HF3.out.row.head; exact HZ3.out.ty k (by decide)
        have HZ4 := Lib.hid (HZ3.out.fr hfr (by simp; exact ⟨hzb, hzg⟩))
        have HBx4 := Lib.hid (HBx3.out.fr hfr (by simp; exact ⟨hwb, hwg⟩))
        have HR4 := Lib.hid (HR3.out.trans hfr (by have := HG.out; intro y hy; simp at hy ⊢; omega))
        have HG4 : Hid (g2 = g ∨ w.heap.size < g2) := Lib.hid (by have := HG.out; have := HR3.out.size; have := HBx3.out.lt; omega)
        have z0 := HZ4.out.cell (i := 0) (v := .int .u64 (y.t : Int)) rfl
        have z1 := HZ4.out.cell (i := 1) (v := .int .u64 (y.x : Int)) rfl
        clear hrow hg2 hfr HSh a1 HZ3 HBx3 HR3
        unfold rdgot Rd.agg
        have HZ5 : Hid (Blk (w4.alloc (.cells #[.int .u64 (y.t : Int), .int .u64 (y.x : Int)] 52)) w4.heap.size 52 #[.int .u64 (y.t : Int), .int .u64 (y.x : Int)]) := Lib.hid (Blk.new _ _ _)
        have HF5 : Hid (FlAt (w4.alloc (.cells #[.int .u64 (y.t : Int), .int .u64 (y.x : Int)] 52)) a b g2 (f.with k)) := Lib.hid ⟨HA4.out.alloc _, HRow4.out.alloc _⟩
        have HR5 := Lib.hid (HR4.out.alloc (.cells #[.int .u64 (y.t : Int), .int .u64 (y.x : Int)] 52))
        have HBx5 := Lib.hid (HBx4.out.alloc (.cells #[.int .u64 (y.t : Int), .int .u64 (y.x : Int)] 52))
        have HQ5 : Hid (w4.heap.size ≠ g2) := Lib.hid (by have := HRow4.out.lt; omega)
        have HS5 : Hid (w.heap.size < w4.heap.size) := Lib.hid HBx4.out.lt
        have HLa := Lib.hid (fl_last a b g2 (f.with k) _ HF5.out)
        clear HA4 HRow4 HR4 HBx4
        generalize hy : (f.with k).l.getLastD Itm.z = v at *
        have HY : Hid (k.getLastD Itm.z = v) := Lib.hid hy
        clear hy
        go_wp2_with fail
        refine (HLa.out).mono ?_
        rintro e w5 ⟨rfl, hb⟩
        have HZ6 := Lib.hid (HZ5.out.keep hb)
        have HF6 := Lib.hid (HF5.out.keep hb)
        have HR6 := Lib.hid (HR5.out.below hb)
        have HBx6 := Lib.hid (HBx5.out.keep hb)
        clear hb HLa HZ5 HF5 HR5 HBx5 z0 z1
        unfold rdgot Rd.agg
        have z0 := HZ6.out.cell (i := 0) (v := .int .u64 (y.t : Int)) rfl
        have z1 := HZ6.out.cell (i := 1) (v := .int .u64 (y.x : Int)) rfl
        have f0 := HZ6.out.free 0
        have f1 := HZ6.out.free 1
        generalize w4.heap.size = q at *
        go_wp2_with fail
        have HZ7 : Hid (Blk ((w5.setCell ⟨q, 0, none⟩ (.int .u64 (v.t : Int))).setCell ⟨q, 1, none⟩ (.int .u64 (v.x : Int))) q 52 (Itm.cs v).toArray) := Lib.hid (Blk.whole (Itm.cs v) HZ6.out rfl)
        have hqa : a ≠ q := HF6.out.head.ty HZ6.out (by decide)
        have hqb : b ≠ q := by obtain ⟨cs, k⟩ := HF6.out.row.head; exact k.ty HZ6.out (by decide)
        have hqw : w.heap.size ≠ q := by have := HS5.out; omega
        have HF7 : Hid (FlAt ((w5.setCell ⟨q, 0, none⟩ (.int .u64 (v.t : Int))).setCell ⟨q, 1, none⟩ (.int .u64 (v.x : Int))) a b g2 (f.with k)) := Lib.hid ⟨(HF6.out.head.set_other _ _ hqa).set_other _ _ hqa, (HF6.out.row.set_other hqb (Ne.symm HQ5.out)).set_other hqb (Ne.symm HQ5.out)⟩
        have HR7 : Hid (Fr w ((w5.setCell ⟨q, 0, none⟩ (.int .u64 (v.t : Int))).setCell ⟨q, 1, none⟩ (.int .u64 (v.x : Int))) [a, b, g]) := Lib.hid ((HR6.out.set (.inr (Nat.le_of_lt HS5.out)) _ _).set (.inr (Nat.le_of_lt HS5.out)) _ _)
        have HBx7 : Hid (Blk ((w5.setCell ⟨q, 0, none⟩ (.int .u64 (v.t : Int))).setCell ⟨q, 1, none⟩ (.int .u64 (v.x : Int))) w.heap.size 52 #[.int .u64 (r.t : Int), .int .u64 (r.x : Int)]) := Lib.hid ((HBx6.out.set_other _ _ hqw).set_other _ _ hqw)
        generalize ((w5.setCell ⟨q, 0, none⟩ (.int .u64 (v.t : Int))).setCell ⟨q, 1, none⟩ (.int .u64 (v.x : Int))) = w6 at *
        clear z0 z1 f0 f1 HZ6 HF6 HR6 HBx6
        go_roundw
        case rel => exact ⟨q, g2, k, rfl, rfl, HF7.out, by rw [HY.out]; exact HZ7.out, HD2.out, HG4.out, HS5.out, HQ5.out, HR7.out, HBx7.out, by have := HN.out; simp at this; omega, fun s hs => HS.out s (by simp [hs])⟩
        case measure => rw [HF7.out.row.cnt, HF.out.row.cnt]; simp [FS.with]
      · have HE : Hid (popL (bt false r) f.l ++ [r] = (k ++ [y]) ++ [r]) := Lib.hid (by rw [← hl, ← HD.out, popL_snoc, if_neg (by rw [hl]; exact c)])
        rw [eq_false_of_ne_true c]
        clear c
        have HRw := Lib.hid (HF3.out.row.drawn (Drawn.drew _))
        have HPu := Lib.hid (rd_push b g' r (k ++ [y]) _ HRw.out (by have := HOk.out.n; simpa [FS.with] using this))
        unfold Rd.agg at HPu
        have a1 := HF3.out.head.drew.cell (i := 0) (v := .pointer (some ⟨b, 0, none⟩)) rfl
        have r0 := HBx3.out.drew.cell (i := 0) (v := .int .u64 (r.t : Int)) rfl
        have r1 := HBx3.out.drew.cell (i := 1) (v := .int .u64 (r.x : Int)) rfl
        go_wp2_with fail
        go_region_held3 (fun w' => w'.cell? ⟨a, 0, none⟩ = some (.pointer (some ⟨b, 0, none⟩)) ∧ w'.cell? ⟨w.heap.size, 0, none⟩ = some (.int .u64 (r.t : Int)) ∧ w'.cell? ⟨w.heap.size, 1, none⟩ = some (.int .u64 (r.x : Int)))
          (first | exact ⟨a1, r0, r1⟩ | exact ⟨b1, s0, s1⟩)
          (first | (go_at_call 29; refine (HPu.out).mono ?_; rintro e w' ⟨rfl, hat, hfr⟩; have HAt := Lib.hid hat; have HFr := Lib.hid hfr; have HA9 := Lib.hid (HF3.out.head.drew.fr hfr (by simp; exact ⟨HF3.out.ab, HF3.out.ag⟩)); have HB9 := Lib.hid (HBx3.out.drew.fr hfr (by simp; exact ⟨hwb, hwg⟩)); clear hat hfr; have b1 := HA9.out.cell (i := 0) (v := .pointer (some ⟨b, 0, none⟩)) rfl; have s0 := HB9.out.cell (i := 0) (v := .int .u64 (r.t : Int)) rfl; have s1 := HB9.out.cell (i := 1) (v := .int .u64 (r.x : Int)) rfl))
        go_wp2_with fail
        go_end0
        obtain ⟨g9, hg9, hq9⟩ := HAt.out
        rw [HE.out]
        refine ⟨rfl, ⟨g9, ⟨HA9.out, hg9⟩, ?_⟩, ((HR3.out.drawn (Drawn.drew _)).trans HFr.out (by have := HG.out; intro y hy; simp at hy ⊢; omega))⟩
        have h1 := HG.out
        have h2 := HR3.out.size
        have h3 : (World.drew w3).heap.size = (w3).heap.size := rfl
        omega

theorem fl_enter (a b g : Nat) (f : FS) (r : Rd) (w : World) (h : FlAt w a b g f) (ho : f.ok) :
    Calls Try.prog 17 #[.pointer (some ⟨a, 0, none⟩), r.agg] w (FPost w a b g (.returned (.tuple #[])) (f.with (popL (bt f.least r) f.l ++ [r]))) := by
  rcases hl : f.least
  · have := fl_enter_most a b g f r w h ho hl
    rw [hl] at this; exact this
  · have := fl_enter_least a b g f r w h ho hl
    rw [hl] at this; exact this
end Go.Proofs.Ythhiljaceobnmaa
