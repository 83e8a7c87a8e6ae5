/- conf.Parse over this translation: the setup that may be whose text a string is, or the error. -/
import Derived.Test.YtmdfikpngbbdmaaDoorPr
set_option linter.unusedVariables false
namespace Go.Proofs.YtmdfikpngbbdmaaDoor
open Go.RowKit Go.Shelf Cf

/-- Parse's answer. -/
def parseV (s : List UInt8) : Setup := (parseC s).getD (fun _ => 0)
def parseE (s : List UInt8) : Int := if (parseC s).isSome then 0 else 31
theorem guess_le (s : List UInt8) : ∀ k, guessC s k ≤ 18446744073709551615 := gfold_le s all6
theorem parse_yes {s : List UInt8} (h1 : rightC (guessC s) = true) (h2 : textC (guessC s) = s) : parseV s = guessC s ∧ parseE s = 0 := by
  unfold parseV parseE parseC; rw [if_pos ⟨h1, h2⟩]; exact ⟨rfl, rfl⟩
theorem parse_no {s : List UInt8} (h : ¬ (rightC (guessC s) = true ∧ textC (guessC s) = s)) : parseV s = (fun _ => 0) ∧ parseE s = 31 := by
  unfold parseV parseE parseC; rw [if_neg h]; exact ⟨rfl, rfl⟩
theorem ba_inj {a b : List UInt8} (h : ba a = ba b) : a = b := by
  have := congrArg (fun x : ByteArray => x.data.toList) h
  simpa [ba_list] using this

theorem ba_toList (l : List UInt8) : (ba l).toList = l := by rw [Lib.toList_data, ba_list]
theorem ba_beq {a b : List UInt8} (h : a ≠ b) : ((ba a).toList == (ba b).toList) = false := by
  rw [ba_toList, ba_toList]; simpa using h
def zeroC : Setup := fun _ => 0

set_option maxRecDepth 100000 in
set_option maxHeartbeats 1000000 in
theorem conf_Parse_core (s txt : List UInt8) (er : Int) (cv : Setup) (ev : Int) (w : World) (c : Setup) (hg : Gl w)
    (HU : Hid (∀ w', Gl w' → Calls Tryd.prog 19 #[.string (ba s)] w' fun e w'' => e = .returned (.agg (ccells c)) ∧ Below w'.heap.size w' w''))
    (HP : Hid (∀ w', Gl w' → Calls Tryd.prog 6 #[.agg (ccells c)] w' fun e w'' => e = .returned (.tuple #[.string (ba txt), .int .i64 er]) ∧ Below w'.heap.size w' w''))
    (HX : Hid ((er = 0 ∧ txt = s ∧ cv = c ∧ ev = 0) ∨ (er = 0 ∧ txt ≠ s ∧ cv = zeroC ∧ ev = 31) ∨ (er = 1 ∧ cv = zeroC ∧ ev = 31))) :
    Calls Tryd.prog 8 #[.string (ba s)] w fun e w' => e = .returned (.tuple #[.agg (ccells cv), .int .i64 ev]) ∧ Below w.heap.size w w' := by
  have HG := Lib.hid hg
  have g0 := (Below.refl w.heap.size w).alloc (Nat.le_refl _) (.cells (ccells zeroC) 24)
  have b0 := Blk.new w 24 (ccells zeroC)
  have G0 := Lib.hid g0
  have B0 := Lib.hid b0
  clear hg g0 b0
  go_enter Tryd.func8, Tryd.ntmps8
  go_wp2_with fail
  refine (HU.out _ (HG.out.keep G0.out)).mono ?_
  rintro e w1 ⟨rfl, hb1⟩
  have G1 := Lib.hid (bel_to G0.out hb1 (by simp))
  have B1 := Lib.hid (B0.out.keep hb1)
  clear hb1 G0 B0 HU
  have gA := (Below.refl w1.heap.size w1).alloc (Nat.le_refl _) (.cells (ccells c) 24)
  have GA := Lib.hid (bel_to G1.out gA G1.out.size)
  have BA := Lib.hid (B1.out.keep gA)
  have CA := Lib.hid (Blk.new w1 24 (ccells c))
  clear gA G1 B1
  simp only [ccells]
  go_wp2_with fail
  refine (HP.out _ (HG.out.keep GA.out)).mono ?_
  rintro e w2 ⟨rfl, hb2⟩
  have G2 := Lib.hid (bel_to GA.out hb2 GA.out.size)
  have B2 := Lib.hid (BA.out.keep hb2)
  have C2 := Lib.hid (CA.out.keep hb2)
  clear hb2 GA BA CA HP
  have p0 := ccell B2.out 0
  have p1 := ccell B2.out 1
  have p2 := ccell B2.out 2
  have p3 := ccell B2.out 3
  have p4 := ccell B2.out 4
  have p5 := ccell B2.out 5
  have f0 := B2.out.free 0
  have f1 := B2.out.free 1
  have f2 := B2.out.free 2
  have f3 := B2.out.free 3
  have f4 := B2.out.free 4
  have f5 := B2.out.free 5
  have r0 := ccell C2.out 0
  have r1 := ccell C2.out 1
  have r2 := ccell C2.out 2
  have r3 := ccell C2.out 3
  have r4 := ccell C2.out 4
  have r5 := ccell C2.out 5
  simp only [show (0 : Fin 6).val = 0 from rfl, show (1 : Fin 6).val = 1 from rfl, show (2 : Fin 6).val = 2 from rfl, show (3 : Fin 6).val = 3 from rfl, show (4 : Fin 6).val = 4 from rfl, show (5 : Fin 6).val = 5 from rfl] at p0 p1 p2 p3 p4 p5 r0 r1 r2 r3 r4 r5
  rcases HX.out with ⟨rfl, rfl, rfl, rfl⟩ | ⟨rfl, hne, rfl, rfl⟩ | ⟨rfl, rfl, rfl⟩
  · clear HX
    go_wp2
    have P6 := put6_blk cv B2.out
    have L6 := put6_bel (b := w.heap.size) cv G2.out (Nat.le_refl _)
    clear p0 p1 p2 p3 p4 p5 f0 f1 f2 f3 f4 f5 r0 r1 r2 r3 r4 r5
    change bodyPost _ _ _ _ _ (put6 w2 w.heap.size cv)
    generalize put6 w2 w.heap.size cv = w6 at *
    have q0 := ccell P6 0
    have q1 := ccell P6 1
    have q2 := ccell P6 2
    have q3 := ccell P6 3
    have q4 := ccell P6 4
    have q5 := ccell P6 5
    simp only [show (0 : Fin 6).val = 0 from rfl, show (1 : Fin 6).val = 1 from rfl, show (2 : Fin 6).val = 2 from rfl, show (3 : Fin 6).val = 3 from rfl, show (4 : Fin 6).val = 4 from rfl, show (5 : Fin 6).val = 5 from rfl] at q0 q1 q2 q3 q4 q5
    exact bodyPost_ret (v := .tuple #[.agg (ccells cv), .int .i64 0]) (by simp [results, Tryd.results8, go_sem, q0, q1, q2, q3, q4, q5, ccells]) rfl ⟨rfl, L6⟩
  · clear HX
    have d := ba_beq hne
    go_wp2
    have P6 := put6_blk zeroC B2.out
    have L6 := put6_bel (b := w.heap.size) zeroC G2.out (Nat.le_refl _)
    clear p0 p1 p2 p3 p4 p5 f0 f1 f2 f3 f4 f5 r0 r1 r2 r3 r4 r5
    change bodyPost _ _ _ _ _ (put6 w2 w.heap.size zeroC)
    generalize put6 w2 w.heap.size zeroC = w6 at *
    have q0 := ccell P6 0
    have q1 := ccell P6 1
    have q2 := ccell P6 2
    have q3 := ccell P6 3
    have q4 := ccell P6 4
    have q5 := ccell P6 5
    simp only [show (0 : Fin 6).val = 0 from rfl, show (1 : Fin 6).val = 1 from rfl, show (2 : Fin 6).val = 2 from rfl, show (3 : Fin 6).val = 3 from rfl, show (4 : Fin 6).val = 4 from rfl, show (5 : Fin 6).val = 5 from rfl] at q0 q1 q2 q3 q4 q5
    exact bodyPost_ret (v := .tuple #[.agg (ccells zeroC), .int .i64 31]) (by simp [results, Tryd.results8, go_sem, q0, q1, q2, q3, q4, q5, ccells]) rfl ⟨rfl, L6⟩
  · clear HX
    go_wp2
    have P6 := put6_blk zeroC B2.out
    have L6 := put6_bel (b := w.heap.size) zeroC G2.out (Nat.le_refl _)
    clear p0 p1 p2 p3 p4 p5 f0 f1 f2 f3 f4 f5 r0 r1 r2 r3 r4 r5
    change bodyPost _ _ _ _ _ (put6 w2 w.heap.size zeroC)
    generalize put6 w2 w.heap.size zeroC = w6 at *
    have q0 := ccell P6 0
    have q1 := ccell P6 1
    have q2 := ccell P6 2
    have q3 := ccell P6 3
    have q4 := ccell P6 4
    have q5 := ccell P6 5
    simp only [show (0 : Fin 6).val = 0 from rfl, show (1 : Fin 6).val = 1 from rfl, show (2 : Fin 6).val = 2 from rfl, show (3 : Fin 6).val = 3 from rfl, show (4 : Fin 6).val = 4 from rfl, show (5 : Fin 6).val = 5 from rfl] at q0 q1 q2 q3 q4 q5
    exact bodyPost_ret (v := .tuple #[.agg (ccells zeroC), .int .i64 31]) (by simp [results, Tryd.results8, go_sem, q0, q1, q2, q3, q4, q5, ccells]) rfl ⟨rfl, L6⟩

theorem conf_Parse (s : List UInt8) (hs : s.length ≤ 4294967280) (w : World) (hg : Gl w) :
    Calls Tryd.prog 8 #[.string (ba s)] w fun e w' => e = .returned (.tuple #[.agg (ccells (parseV s)), .int .i64 (parseE s)]) ∧ Below w.heap.size w w' := by
  have HU := Lib.hid (fun w' hw' => conf_guess s hs w' hw')
  have hc := guess_le s
  by_cases hr : rightC (guessC s) = true
  · have HP := Lib.hid (fun w' hw' => conf_Print_yes (guessC s) hc w' hw' hr)
    by_cases ht : textC (guessC s) = s
    · obtain ⟨e1, e2⟩ := parse_yes hr ht
      exact conf_Parse_core s _ 0 _ _ w _ hg HU HP (.inl ⟨rfl, ht, e1, e2⟩)
    · obtain ⟨e1, e2⟩ := parse_no (s := s) (fun h => ht h.2)
      exact conf_Parse_core s _ 0 _ _ w _ hg HU HP (.inr (.inl ⟨rfl, ht, e1, e2⟩))
  · have HP := Lib.hid (fun w' (_ : Gl w') => conf_Print_no (guessC s) hc w' (by simpa using hr))
    obtain ⟨e1, e2⟩ := parse_no (s := s) (fun h => hr h.1)
    exact conf_Parse_core s _ 1 _ _ w _ hg HU HP (.inr (.inr ⟨rfl, e1, e2⟩))
end Go.Proofs.YtmdfikpngbbdmaaDoor
