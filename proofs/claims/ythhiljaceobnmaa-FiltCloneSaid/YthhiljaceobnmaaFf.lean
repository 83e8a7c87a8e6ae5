/- Contracts of package filt over this translation: the calls that the chapter lists. -/
import Derived.Test.YthhiljaceobnmaaFe
set_option linter.unusedVariables false
namespace Go.Proofs.Ythhiljaceobnmaa
open Go.RowKit Pl

set_option maxHeartbeats 1000000 in
theorem fl_To (a b g t : Nat) (f : FS) (w : World) (h : FlAt w a b g f) (ho : f.ok) (ht : t ≤ 18446744073709551615) :
    Calls Try.prog 7 #[.pointer (some ⟨a, 0, none⟩), .int .u64 (t : Int)] w (FPost w a b g (.returned (.int .i64 (f.err t))) (f.to t)) := by
  have HH := Lib.hid h
  have HO := Lib.hid ho
  have a2 := h.head.cell (i := 2) (v := .int .u64 (f.t : Int)) rfl
  have f2 := h.head.free 2
  clear h ho
  by_cases c : t < f.t
  · have d0 : decide (t < f.t) = true := by simpa using c
    have HE : Hid (f.to t = f ∧ f.err t = 2) := Lib.hid ⟨by unfold FS.to; rw [if_pos c], by unfold FS.err; rw [if_pos c]⟩
    clear c
    go_enter Try.func7, Try.ntmps7
    go_wp2_with fail
    go_ret
    rw [HE.out.1, HE.out.2]
    exact ⟨rfl, ⟨g, HH.out, .inl rfl⟩, Fr.refl _ _⟩
  · have d0 : decide (t < f.t) = false := by simpa using c
    have HE : Hid (f.to t = (⟨f.win, t, f.least, f.l⟩ : FS).with (f.l.dropWhile fun r => !cnts f.win t r) ∧ f.err t = 0) := Lib.hid ⟨FS.to_t f t c, by unfold FS.err; rw [if_neg c]⟩
    clear c
    go_enter Try.func7, Try.ntmps7
    go_wp2_with fail
    have HF1 : Hid (FlAt (w.setCell ⟨a, 2, none⟩ (.int .u64 (t : Int))) a b g ⟨f.win, t, f.least, f.l⟩) := Lib.hid ⟨by have := HH.out.head.set 2 (.int .u64 (t : Int)); simpa [fcells] using this, HH.out.row.set_other (Ne.symm HH.out.ab) (Ne.symm HH.out.ag)⟩
    have HR1 : Hid (Fr w (w.setCell ⟨a, 2, none⟩ (.int .u64 (t : Int))) [a, b, g]) := Lib.hid ((Fr.refl _ _).set (by simp) _ _)
    generalize (w.setCell ⟨a, 2, none⟩ (.int .u64 (t : Int))) = w1 at *
    refine (fl_forget a b g ⟨f.win, t, f.least, f.l⟩ w1 HF1.out ⟨HO.out.win, ht, HO.out.l, HO.out.n⟩).mono ?_
    rintro e w2 ⟨rfl, hat, hfr⟩
    have HA := Lib.hid hat
    have HF := Lib.hid hfr
    clear hat hfr
    go_wp2_with fail
    go_ret
    obtain ⟨g', h1, h2⟩ := HA.out
    rw [HE.out.1, HE.out.2]
    exact ⟨rfl, ⟨g', h1, by have := HR1.out.size; omega⟩, HR1.out.trans HF.out (fun y hy => .inl hy)⟩

theorem FS.err_to (f : FS) (t : Nat) : (f.err t = 2 ∧ t < f.t) ∨ (f.err t = 0 ∧ ¬ t < f.t) := by
  unfold FS.err; split <;> simp_all

set_option maxHeartbeats 1000000 in
theorem fl_Put (a b g t x : Nat) (f : FS) (w : World) (h : FlAt w a b g f) (ho : f.ok) (ht : t ≤ 18446744073709551615) :
    Calls Try.prog 8 #[.pointer (some ⟨a, 0, none⟩), .int .u64 (t : Int), .int .u64 (x : Int)] w (FPost w a b g (.returned (.int .i64 (f.err t))) (f.put t x)) := by
  have HT := Lib.hid (fl_To a b g t f w h ho ht)
  have HO := Lib.hid (FS.to_ok ho ht)
  clear h ho
  rcases FS.err_to f t with ⟨e1, c⟩ | ⟨e1, c⟩
  · rw [e1] at HT ⊢
    have HE : Hid (f.put t x = f.to t) := Lib.hid (by unfold FS.put FS.to; rw [if_pos c, if_pos c])
    clear e1 c
    go_enter Try.func8, Try.ntmps8
    go_wp2_with fail
    refine (HT.out).mono ?_
    rintro e w2 ⟨rfl, hat, hfr⟩
    have HA := Lib.hid hat
    have HF := Lib.hid hfr
    clear hat hfr HT
    go_wp2_with fail
    go_ret
    rw [HE.out]
    exact ⟨rfl, HA.out, HF.out⟩
  · rw [e1] at HT ⊢
    have HE : Hid (f.put t x = (f.to t).with (popL (bt (f.to t).least ⟨t, x⟩) (f.to t).l ++ [⟨t, x⟩])) := Lib.hid (by rw [FS.put_t f t x c, FS.to_least, FS.to_t f t c]; rfl)
    clear e1 c
    generalize f.to t = q at *
    go_enter Try.func8, Try.ntmps8
    go_wp2_with fail
    refine (HT.out).mono ?_
    rintro e w2 ⟨rfl, hat, hfr⟩
    obtain ⟨g1, hf1, hq1⟩ := hat
    have HF1 := Lib.hid hf1
    have HR1 := Lib.hid hfr
    have HG1 := Lib.hid hq1
    clear hf1 hq1 hfr HT
    have HEn : Hid (Calls Try.prog 17 #[.pointer (some ⟨a, 0, none⟩), .agg #[.int .u64 (t : Int), .int .u64 (x : Int)]] w2 (FPost w2 a b g1 (.returned (.tuple #[])) (q.with (popL (bt q.least ⟨t, x⟩) q.l ++ [⟨t, x⟩])))) := Lib.hid (fl_enter a b g1 q ⟨t, x⟩ w2 HF1.out HO.out)
    go_wp2_with fail
    refine (HEn.out).mono ?_
    rintro e w3 ⟨rfl, hat, hfr⟩
    have HA := Lib.hid hat
    have HF := Lib.hid hfr
    clear hat hfr HEn
    go_wp2_with fail
    go_ret
    obtain ⟨g', h1, h2⟩ := HA.out
    rw [HE.out]
    refine ⟨rfl, ⟨g', h1, ?_⟩, HR1.out.trans HF.out (by have := HG1.out; intro y hy; simp at hy ⊢; omega)⟩
    have := HR1.out.size
    have := HG1.out
    omega

/-- The answer of Best. -/
def bestV (f : FS) : Value := .tuple #[.int .u64 (f.best.x : Int), .int .u64 (f.best.t : Int), .bool f.some]

set_option maxHeartbeats 400000 in
theorem fl_Best (a b g : Nat) (f : FS) (w : World) (h : FlAt w a b g f) :
    Calls Try.prog 9 #[.pointer (some ⟨a, 0, none⟩)] w fun e w' => e = .returned (bestV f) ∧ Below w.heap.size w w' := by
  have HQ := Lib.hid (rd_first b g f.l w h.row)
  have hz : f.l.headD Itm.z = f.best := rfl
  have hs : (!f.l.isEmpty) = f.some := rfl
  rw [hz, hs] at HQ
  have a0 := h.head.cell (i := 0) (v := .pointer (some ⟨b, 0, none⟩)) rfl
  clear h hz hs
  unfold bestV
  generalize f.best = x at *
  generalize f.some = o at *
  go_enter Try.func9, Try.ntmps9
  go_wp2_with fail
  refine (HQ.out).mono ?_
  rintro e w1 ⟨rfl, hb⟩
  have HB := Lib.hid hb
  clear hb
  unfold rdgot Rd.agg
  go_wp2_with fail
  have HX : Hid (Blk (w1.alloc (.cells #[.int .u64 (x.t : Int), .int .u64 (x.x : Int)] 52)) w1.heap.size 52 #[.int .u64 (x.t : Int), .int .u64 (x.x : Int)]) := Lib.hid (Blk.new _ _ _)
  have x0 := HX.out.cell (i := 0) (v := .int .u64 (x.t : Int)) rfl
  have x1 := HX.out.cell (i := 1) (v := .int .u64 (x.x : Int)) rfl
  have HB2 := Lib.hid (HB.out.alloc HB.out.size (.cells #[.int .u64 (x.t : Int), .int .u64 (x.x : Int)] 52))
  generalize (w1.alloc (.cells #[.int .u64 (x.t : Int), .int .u64 (x.x : Int)] 52)) = w2 at *
  go_quiet (fail)
  have HD : Hid (Drawn w2 (w2.drewN nq)) := Lib.hid ⟨nq, rfl⟩
  go_wp2_with fail
  go_ret3
  exact ⟨rfl, HB2.out.trans (HD.out.below _)⟩

theorem fl_Time (a b g : Nat) (f : FS) (w : World) (h : FlAt w a b g f) :
    Calls Try.prog 10 #[.pointer (some ⟨a, 0, none⟩)] w fun e w' => e = .returned (.int .u64 (f.t : Int)) ∧ w = w' := by
  have a2 := h.head.cell (i := 2) (v := .int .u64 (f.t : Int)) rfl
  clear h
  go_enter Try.func10, Try.ntmps10
  go_wp2_with fail
  go_ret
  exact ⟨rfl, rfl⟩

structure FMade (w : World) (f : FS) (e : Ending) (w' : World) : Prop where
  at_ : ∃ a b g, e = .returned (.pointer (some ⟨a, 0, none⟩)) ∧ FlAt w' a b g f ∧ w.heap.size ≤ a ∧ w.heap.size ≤ b ∧ w.heap.size ≤ g
  bel : Below w.heap.size w w'

set_option maxHeartbeats 400000 in
theorem fl_Least (win : Nat) (w : World) : Calls Try.prog 14 #[.int .u64 (win : Int)] w (FMade w ⟨win, 0, true, []⟩) := by
  have HN : Hid (Calls Try.prog 23 #[.slice none 0 0] w (RdMade w [])) := Lib.hid (rd_new none 0 [] w (Its.none _ _) (by simp))
  go_enter Try.func14, Try.ntmps14
  go_wp2_with fail
  refine (HN.out).mono ?_
  rintro e w1 ⟨⟨b, g, rfl, hr, hb, hg⟩, hbel⟩
  have HR := Lib.hid hr
  have HB := Lib.hid hbel
  clear hr hbel HN
  go_wp2_with fail
  go_ret
  exact ⟨⟨w1.heap.size, b, g, rfl, ⟨Blk.new _ _ _, HR.out.alloc _⟩, HB.out.size, hb, hg⟩, HB.out.alloc HB.out.size _⟩
set_option maxHeartbeats 400000 in
theorem fl_Most (win : Nat) (w : World) : Calls Try.prog 15 #[.int .u64 (win : Int)] w (FMade w ⟨win, 0, false, []⟩) := by
  have HN : Hid (Calls Try.prog 23 #[.slice none 0 0] w (RdMade w [])) := Lib.hid (rd_new none 0 [] w (Its.none _ _) (by simp))
  go_enter Try.func15, Try.ntmps15
  go_wp2_with fail
  refine (HN.out).mono ?_
  rintro e w1 ⟨⟨b, g, rfl, hr, hb, hg⟩, hbel⟩
  have HR := Lib.hid hr
  have HB := Lib.hid hbel
  clear hr hbel HN
  go_wp2_with fail
  go_ret
  exact ⟨⟨w1.heap.size, b, g, rfl, ⟨Blk.new _ _ _, HR.out.alloc _⟩, HB.out.size, hb, hg⟩, HB.out.alloc HB.out.size _⟩
end Go.Proofs.Ythhiljaceobnmaa
