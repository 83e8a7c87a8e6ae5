/- Contracts of package filt over this translation: forget takes away what does not count. -/
import Derived.Test.YthhiljaceobnmaaFc
set_option linter.unusedVariables false
namespace Go.Proofs.Ythhiljaceobnmaa
open Go.RowKit Pl

/-- How many items the row at block b says it has. -/
def cntOf (w : World) (b : Nat) : Nat := match w.cell? ⟨b, 2, none⟩ with | some v => (intOf v).toNat | none => 0
theorem RdRow.cnt {w : World} {b g : Nat} {l : List Rd} (h : RdRow w b g l) : cntOf w b = l.length := by
  obtain ⟨q, _, h2, h3⟩ := h
  have := h3.head.cell (i := 2) (v := .int .i64 (q.cnt : Int)) rfl
  rw [cntOf, this, ← h2, QS.len_items]; simp [intOf]

def FS.with (f : FS) (l : List Rd) : FS := ⟨f.win, f.t, f.least, l⟩

/-- What holds at the head of each round of forget. -/
def ForRel (w : World) (a b g : Nat) (f : FS) (vz vo : Value) (wr : World) : Prop :=
  ∃ (z g' : Nat) (l : List Rd), vz = .pointer (some ⟨z, 0, none⟩) ∧ vo = .bool (!l.isEmpty) ∧ FlAt wr a b g' (f.with l) ∧ Blk wr z 52 (Itm.cs (l.headD Itm.z)).toArray ∧
    l.dropWhile (fun r => !cnts f.win f.t r) = f.l.dropWhile (fun r => !cnts f.win f.t r) ∧ (g' = g ∨ w.heap.size ≤ g') ∧ w.heap.size ≤ z ∧ z ≠ g' ∧ Fr w wr [a, b, g] ∧ l.length ≤ f.l.length ∧ (∀ r ∈ l, r ∈ f.l)

theorem FS.with_ok {f : FS} (ho : f.ok) {l : List Rd} (hn : l.length ≤ f.l.length) (hs : ∀ r ∈ l, r ∈ f.l) : (f.with l).ok := ⟨ho.win, ho.t, fun r hr => ho.l r (hs r hr), Nat.le_trans hn ho.n⟩

set_option maxHeartbeats 1000000 in
theorem fl_forget (a b g : Nat) (f : FS) (w : World) (h : FlAt w a b g f) (ho : f.ok) :
    Calls Try.prog 16 #[.pointer (some ⟨a, 0, none⟩)] w (FPost w a b g (.returned (.tuple #[])) (f.with (f.l.dropWhile fun r => !cnts f.win f.t r))) := by
  have HH := Lib.hid h
  have HO := Lib.hid ho
  have a0 := h.head.cell (i := 0) (v := .pointer (some ⟨b, 0, none⟩)) rfl
  have HQ := Lib.hid (rd_first b g f.l w h.row)
  have hal := h.lt
  clear h ho
  generalize hx : f.l.headD Itm.z = x at *
  have HX := Lib.hid hx
  clear hx
  go_enter Try.func16, Try.ntmps16
  go_wp2_with fail
  refine (HQ.out).mono ?_
  rintro e w1 ⟨rfl, hb⟩
  have HB := Lib.hid hb
  have H1 := Lib.hid (HH.out.keep hb)
  clear hb HQ
  unfold rdgot Rd.agg
  go_wp2_with fail
  have R0 : Hid (ForRel w a b g f (.pointer (some ⟨w1.heap.size, 0, none⟩)) (.bool (!f.l.isEmpty)) (w1.alloc (.cells #[.int .u64 (x.t : Int), .int .u64 (x.x : Int)] 52))) := Lib.hid
    ⟨w1.heap.size, g, f.l, rfl, rfl, ⟨H1.out.head.alloc _, H1.out.row.alloc _⟩, by rw [HX.out]; exact Blk.new _ _ _, rfl, .inl rfl, HB.out.size, (by have := H1.out.lt; omega), (Fr.of_below HB.out _).alloc _, Nat.le_refl _, fun _ h => h⟩
  go_loopw [2, 3] (fun vz vo wr => ForRel w a b g f vz vo wr) (fun _ _ wr => cntOf wr b)
  case atStart => exact R0.out
  case round =>
    obtain ⟨z, g', l, rfl, rfl, hf, hz, hd, hg, hzs, hzg, hfr, hn, hs⟩ := hrel
    have HF := Lib.hid hf
    have HZ := Lib.hid hz
    have HD := Lib.hid hd
    have HR := Lib.hid hfr
    have HG := Lib.hid hg
    have HS := Lib.hid hs
    have HN := Lib.hid hn
    have HOk := Lib.hid (FS.with_ok HO.out hn hs)
    clear hf hz hd hg hfr hs hn R0
    rcases l with _ | ⟨r, l⟩
    · go_wp2_with fail
      go_end0
      exact ⟨rfl, ⟨g', by rw [← HD.out]; exact HF.out, HG.out⟩, HR.out⟩
    · have HC := Lib.hid (fl_counts a b g' (f.with (r :: l)) r wr HF.out HOk.out (HOk.out.l r (by simp [FS.with])))
      have z0 := HZ.out.cell (i := 0) (v := .int .u64 (r.t : Int)) rfl
      have z1 := HZ.out.cell (i := 1) (v := .int .u64 (r.x : Int)) rfl
      unfold Rd.agg at HC
      go_wp2_with fail
      refine (HC.out).mono ?_
      rintro e w2 ⟨rfl, hb⟩
      have hcc : cnts (f.with (r :: l)).win (f.with (r :: l)).t r = cnts f.win f.t r := rfl
      rw [hcc]
      clear hcc
      have HF2 := Lib.hid (HF.out.keep hb)
      have HZ2 := Lib.hid (HZ.out.keep hb)
      have HR2 := Lib.hid (HR.out.below hb)
      clear hb HC z0 z1 HZ HR
      by_cases c : cnts f.win f.t r = true
      · have HE : Hid (f.l.dropWhile (fun r => !cnts f.win f.t r) = r :: l) := Lib.hid (by rw [← HD.out, List.dropWhile_cons, if_neg (by simp [c])])
        rw [c]
        go_wp2_with fail
        go_end0
        rw [HE.out]
        exact ⟨rfl, ⟨g', HF2.out, HG.out⟩, HR2.out⟩
      · have HD2 : Hid (l.dropWhile (fun r => !cnts f.win f.t r) = f.l.dropWhile (fun r => !cnts f.win f.t r)) := Lib.hid (by rw [← HD.out, List.dropWhile_cons, if_pos (by simp [c])])
        rw [eq_false_of_ne_true c]
        have a1 := HF2.out.head.cell (i := 0) (v := .pointer (some ⟨b, 0, none⟩)) rfl
        have HSh := Lib.hid (rd_shift b g' r l w2 HF2.out.row)
        clear HD c
        go_wp2_with fail
        refine (HSh.out).mono ?_
        rintro e w3 ⟨rfl, hat, hfr⟩
        obtain ⟨g2, hrow, hg2⟩ := hat
        have HA3 := Lib.hid (HF2.out.head.fr hfr (by simp; exact ⟨HF2.out.ab, HF2.out.ag⟩))
        have HRow3 := Lib.hid hrow
        have hzb : z ≠ b := by obtain ⟨cs, k⟩ := HF2.out.row.head; exact HZ2.out.ty k (by decide)
        have HZ3 := Lib.hid (HZ2.out.fr hfr (by simp; exact ⟨hzb, hzg⟩))
        have HR3 := Lib.hid (HR2.out.trans hfr (by have := HG.out; intro y hy; simp at hy ⊢; omega))
        have HG3 : Hid (g2 = g ∨ w.heap.size ≤ g2) := Lib.hid (by have := HG.out; have := HR2.out.size; omega)
        have z0 := HZ3.out.cell (i := 0) (v := .int .u64 (r.t : Int)) rfl
        have z1 := HZ3.out.cell (i := 1) (v := .int .u64 (r.x : Int)) rfl
        clear hrow hg2 hfr HSh a1
        unfold rdgot Rd.agg
        have HZ4 : Hid (Blk (w3.alloc (.cells #[.int .u64 (r.t : Int), .int .u64 (r.x : Int)] 52)) w3.heap.size 52 #[.int .u64 (r.t : Int), .int .u64 (r.x : Int)]) := Lib.hid (Blk.new _ _ _)
        have HA4 := Lib.hid (HA3.out.alloc (.cells #[.int .u64 (r.t : Int), .int .u64 (r.x : Int)] 52))
        have HRow4 := Lib.hid (HRow3.out.alloc (.cells #[.int .u64 (r.t : Int), .int .u64 (r.x : Int)] 52))
        have HR4 := Lib.hid (HR3.out.alloc (.cells #[.int .u64 (r.t : Int), .int .u64 (r.x : Int)] 52))
        have HG4 : Hid (w3.heap.size ≠ g2) := Lib.hid (by have := HRow3.out.lt; omega)
        have HS4 : Hid (w.heap.size ≤ w3.heap.size) := Lib.hid HR3.out.size
        have a1 := HA4.out.cell (i := 0) (v := .pointer (some ⟨b, 0, none⟩)) rfl
        have HF4 := Lib.hid (rd_first b g2 l _ HRow4.out)
        clear HZ3 HA3 HRow3 HR3
        generalize hy : l.headD Itm.z = y at *
        have HY := Lib.hid hy
        clear hy
        go_wp2_with fail
        refine (HF4.out).mono ?_
        rintro e w5 ⟨rfl, hb⟩
        have HZ5 := Lib.hid (HZ4.out.keep hb)
        have HA5 := Lib.hid (HA4.out.keep hb)
        have HRow5 := Lib.hid (HRow4.out.keep hb)
        have HR5 := Lib.hid (HR4.out.below hb)
        clear hb HF4 HZ4 HA4 HRow4 HR4 a1 z0 z1
        unfold rdgot Rd.agg
        have z0 := HZ5.out.cell (i := 0) (v := .int .u64 (r.t : Int)) rfl
        have z1 := HZ5.out.cell (i := 1) (v := .int .u64 (r.x : Int)) rfl
        have f0 := HZ5.out.free 0
        have f1 := HZ5.out.free 1
        generalize w3.heap.size = q at *
        go_wp2_with fail
        have HZ6 : Hid (Blk ((w5.setCell ⟨q, 0, none⟩ (.int .u64 (y.t : Int))).setCell ⟨q, 1, none⟩ (.int .u64 (y.x : Int))) q 52 (Itm.cs y).toArray) := Lib.hid (Blk.whole (Itm.cs y) HZ5.out rfl)
        have hqa : a ≠ q := HA5.out.ty HZ5.out (by decide)
        have hqb : b ≠ q := by obtain ⟨cs, k⟩ := HRow5.out.head; exact k.ty HZ5.out (by decide)
        have HA6 : Hid (Blk ((w5.setCell ⟨q, 0, none⟩ (.int .u64 (y.t : Int))).setCell ⟨q, 1, none⟩ (.int .u64 (y.x : Int))) a 49 (fcells b (f.with l))) := Lib.hid ((HA5.out.set_other _ _ hqa).set_other _ _ hqa)
        have HRow6 : Hid (RdRow ((w5.setCell ⟨q, 0, none⟩ (.int .u64 (y.t : Int))).setCell ⟨q, 1, none⟩ (.int .u64 (y.x : Int))) b g2 l) := Lib.hid ((HRow5.out.set_other hqb (Ne.symm HG4.out)).set_other hqb (Ne.symm HG4.out))
        have HR6 : Hid (Fr w ((w5.setCell ⟨q, 0, none⟩ (.int .u64 (y.t : Int))).setCell ⟨q, 1, none⟩ (.int .u64 (y.x : Int))) [a, b, g]) := Lib.hid ((HR5.out.set (.inr HS4.out) _ _).set (.inr HS4.out) _ _)
        generalize ((w5.setCell ⟨q, 0, none⟩ (.int .u64 (y.t : Int))).setCell ⟨q, 1, none⟩ (.int .u64 (y.x : Int))) = w6 at *
        clear z0 z1 f0 f1 HZ5 HA5 HRow5 HR5
        go_roundw
        case rel => exact ⟨q, g2, l, rfl, rfl, ⟨HA6.out, HRow6.out⟩, by rw [HY.out]; exact HZ6.out, HD2.out, HG3.out, HS4.out, HG4.out, HR6.out, by have := HN.out; simp at this; omega, fun s hs => HS.out s (by simp [hs])⟩
        case measure => rw [HRow6.out.cnt, HF.out.row.cnt]; simp [FS.with]
end Go.Proofs.Ythhiljaceobnmaa
