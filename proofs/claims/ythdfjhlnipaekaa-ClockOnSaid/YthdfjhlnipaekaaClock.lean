/- Contracts of package clock over this translation: a clock is three cells, its time, its bytes, whether it is past. -/
import Derived.Test.YthdfjhlnipaekaaAdd
import Derived.Test.YthdfjhlnipaekaaBlk
set_option linter.unusedVariables false
namespace Go.Proofs.Ythdfjhlnipaekaa
open Go.RowKit Pl

/-- A clock's reading. -/
structure CS where
  t : Nat
  n : Nat
  p : Bool

def CS.zero : CS := ⟨0, 0, false⟩
def CS.cells (s : CS) : Array Value := #[.int .u64 (s.t : Int), .int .u64 (s.n : Int), .bool s.p]
def CS.ok (s : CS) : Prop := s.t ≤ 4398046511104 ∧ s.n ≤ 72057594037927936

/-- To: the answer; the clock then. -/
def CS.toE (s : CS) (x : Nat) : Int := if s.p = true then 3 else if x < s.t then 2 else if 4398046511104 < x then 3 else 0
def CS.toS (s : CS) (x : Nat) : CS := if s.p = true then s else if x < s.t then s else if 4398046511104 < x then ⟨s.t, s.n, true⟩ else ⟨x, s.n, s.p⟩
/-- Count: the answer; the clock then. -/
def CS.countE (s : CS) (x : Nat) : Int := if s.p = true then 3 else if 72057594037927936 < s.n + x then 3 else 0
def CS.countS (s : CS) (x : Nat) : CS := if s.p = true then s else if 72057594037927936 < s.n + x then ⟨s.t, s.n, true⟩ else ⟨s.t, s.n + x, s.p⟩

theorem CS.to_ok {s : CS} (h : s.ok) (x : Nat) : (s.toS x).ok := by
  unfold CS.toS CS.ok at *
  split
  · exact h
  · split
    · exact h
    · split
      · exact h
      · exact ⟨by dsimp; omega, h.2⟩
theorem CS.count_ok {s : CS} (h : s.ok) (x : Nat) : (s.countS x).ok := by
  unfold CS.countS CS.ok at *
  split
  · exact h
  · split
    · exact h
    · exact ⟨h.1, by dsimp; omega⟩

theorem clock_New (w : World) : Calls Try.prog 6 #[] w fun e w' => e = .returned (.pointer (some ⟨w.heap.size, 0, none⟩)) ∧ w.alloc (.cells CS.zero.cells 39) = w' := by
  go_enter Try.func6, Try.ntmps6
  go_wp2
  go_ret
  exact ⟨rfl, rfl⟩

theorem clock_end (b : Nat) (s : CS) (w : World) (h : Blk w b 39 s.cells) :
    Calls Try.prog 15 #[.pointer (some ⟨b, 0, none⟩)] w fun e w' => e = .returned (.int .i64 3) ∧ w.setCell ⟨b, 2, none⟩ (.bool true) = w' := by
  have h2 := h.cell (i := 2) (v := .bool s.p) rfl
  have f2 := h.free 2
  have HH := Lib.hid h
  clear h
  go_enter Try.func15, Try.ntmps15
  go_wp2
  go_ret
  exact ⟨rfl, rfl⟩

theorem clock_read (b : Nat) (s : CS) (w : World) (h : Blk w b 39 s.cells) :
    Calls Try.prog 16 #[.pointer (some ⟨b, 0, none⟩)] w fun e w' => e = .returned (.agg s.cells) ∧ Below w.heap.size w w' := by
  have h0 := h.cell (i := 0) (v := .int .u64 s.t) rfl
  have h1 := h.cell (i := 1) (v := .int .u64 s.n) rfl
  have h2 := h.cell (i := 2) (v := .bool s.p) rfl
  have HH := Lib.hid h
  have hlt := h.lt
  clear h
  go_enter Try.func16, Try.ntmps16
  go_wp2
  exact bodyPost_ret (v := .agg s.cells) (by simp [results, Try.results16, go_sem, CS.cells]) rfl ⟨rfl, by first | exact ((Below.refl _ _).alloc (Nat.le_refl _) _) | skip⟩

theorem clock_read_nil (w : World) :
    Calls Try.prog 16 #[.pointer none] w fun e w' => e = .returned (.agg CS.zero.cells) ∧ Below w.heap.size w w' := by
  go_enter Try.func16, Try.ntmps16
  go_wp2
  exact bodyPost_ret (v := .agg CS.zero.cells) (by simp [results, Try.results16, go_sem, CS.cells, CS.zero]) rfl ⟨rfl, by first | exact ((Below.refl _ _).alloc (Nat.le_refl _) _) | skip⟩

theorem read_f0 (t n : Int) (p : Bool) (w : World) : (Instr.field 37 (.agg #[.int .u64 t, .int .u64 n, .bool p]) 0).run Try.prog w = .ok (.int .u64 t) w := by kernel_rfl
theorem read_f1 (t n : Int) (p : Bool) (w : World) : (Instr.field 37 (.agg #[.int .u64 t, .int .u64 n, .bool p]) 1).run Try.prog w = .ok (.int .u64 n) w := by kernel_rfl
theorem read_f2 (t n : Int) (p : Bool) (w : World) : (Instr.field 37 (.agg #[.int .u64 t, .int .u64 n, .bool p]) 2).run Try.prog w = .ok (.bool p) w := by kernel_rfl

theorem clock_Time (b : Nat) (s : CS) (w : World) (h : Blk w b 39 s.cells) :
    Calls Try.prog 11 #[.pointer (some ⟨b, 0, none⟩)] w fun e w' => e = .returned (.int .u64 (s.t : Int)) ∧ Below w.heap.size w w' := by
  have HR := Lib.hid (clock_read b s w h)
  clear h
  unfold CS.cells at HR
  have hf := read_f0
  go_enter Try.func11, Try.ntmps11
  go_wp2_with (go_at_call 16; refine (HR.out).mono ?_; rintro e w' ⟨rfl, hb⟩)
  go_ret
  exact ⟨rfl, hb⟩

theorem clock_Bytes (b : Nat) (s : CS) (w : World) (h : Blk w b 39 s.cells) :
    Calls Try.prog 12 #[.pointer (some ⟨b, 0, none⟩)] w fun e w' => e = .returned (.int .u64 (s.n : Int)) ∧ Below w.heap.size w w' := by
  have HR := Lib.hid (clock_read b s w h)
  clear h
  unfold CS.cells at HR
  have hf := read_f1
  go_enter Try.func12, Try.ntmps12
  go_wp2_with (go_at_call 16; refine (HR.out).mono ?_; rintro e w' ⟨rfl, hb⟩)
  go_ret
  exact ⟨rfl, hb⟩

theorem clock_Past (b : Nat) (s : CS) (w : World) (h : Blk w b 39 s.cells) :
    Calls Try.prog 13 #[.pointer (some ⟨b, 0, none⟩)] w fun e w' => e = .returned (.bool s.p) ∧ Below w.heap.size w w' := by
  have HR := Lib.hid (clock_read b s w h)
  clear h
  unfold CS.cells at HR
  have hf := read_f2
  go_enter Try.func13, Try.ntmps13
  go_wp2_with (go_at_call 16; refine (HR.out).mono ?_; rintro e w' ⟨rfl, hb⟩)
  go_ret
  exact ⟨rfl, hb⟩

theorem clock_Time_nil (w : World) : Calls Try.prog 11 #[.pointer none] w fun e w' => e = .returned (.int .u64 0) ∧ Below w.heap.size w w' := by
  have HR := Lib.hid (clock_read_nil w)
  unfold CS.cells CS.zero at HR
  have hf := read_f0
  go_enter Try.func11, Try.ntmps11
  go_wp2_with (go_at_call 16; refine (HR.out).mono ?_; rintro e w' ⟨rfl, hb⟩)
  go_ret
  exact ⟨rfl, hb⟩

theorem clock_Bytes_nil (w : World) : Calls Try.prog 12 #[.pointer none] w fun e w' => e = .returned (.int .u64 0) ∧ Below w.heap.size w w' := by
  have HR := Lib.hid (clock_read_nil w)
  unfold CS.cells CS.zero at HR
  have hf := read_f1
  go_enter Try.func12, Try.ntmps12
  go_wp2_with (go_at_call 16; refine (HR.out).mono ?_; rintro e w' ⟨rfl, hb⟩)
  go_ret
  exact ⟨rfl, hb⟩

theorem clock_Past_nil (w : World) : Calls Try.prog 13 #[.pointer none] w fun e w' => e = .returned (.bool false) ∧ Below w.heap.size w w' := by
  have HR := Lib.hid (clock_read_nil w)
  unfold CS.cells CS.zero at HR
  have hf := read_f2
  go_enter Try.func13, Try.ntmps13
  go_wp2_with (go_at_call 16; refine (HR.out).mono ?_; rintro e w' ⟨rfl, hb⟩)
  go_ret
  exact ⟨rfl, hb⟩

theorem clock_To_nil (x : Int) (w : World) : Calls Try.prog 9 #[.pointer none, .int .u64 x] w fun e w' => e = .returned (.int .i64 1) ∧ w = w' := by
  go_enter Try.func9, Try.ntmps9
  go_wp2
  go_ret
  exact ⟨rfl, rfl⟩

theorem clock_Count_nil (x : Int) (w : World) : Calls Try.prog 7 #[.pointer none, .int .u64 x] w fun e w' => e = .returned (.int .i64 1) ∧ w = w' := by
  go_enter Try.func7, Try.ntmps7
  go_wp2
  go_ret
  exact ⟨rfl, rfl⟩

/-- What a call of a clock's leaves: its answer, the clock, all other blocks as they were. -/
structure ClockPost (w : World) (b : Nat) (r : Int) (s : CS) (e : Ending) (w' : World) : Prop where
  e : e = .returned (.int .i64 r)
  blk : Blk w' b 39 s.cells
  gr : w.grownBy w' (some b)

theorem ret_i64 {a b : Int} (h : a = b) : Ending.returned (.int .i64 a) = .returned (.int .i64 b) := by rw [h]

set_option maxHeartbeats 400000 in
theorem clock_To (b x : Nat) (s : CS) (w : World) (h : Blk w b 39 s.cells) :
    Calls Try.prog 9 #[.pointer (some ⟨b, 0, none⟩), .int .u64 (x : Int)] w (ClockPost w b (s.toE x) (s.toS x)) := by
  have h0 := h.cell (i := 0) (v := .int .u64 s.t) rfl
  have h2 := h.cell (i := 2) (v := .bool s.p) rfl
  have f0 := h.free 0
  have HH := Lib.hid h
  have HE := Lib.hid (clock_end b s w h)
  clear h
  obtain ⟨t, n, p⟩ := s
  dsimp only at *
  cases p with
  | true =>
    go_enter Try.func9, Try.ntmps9
    go_wp2
    go_ret
    exact ⟨ret_i64 (by simp [CS.toE]), by simpa [CS.toS] using HH.out, gr_refl _ _⟩
  | false =>
    by_cases a : x < t
    · go_enter Try.func9, Try.ntmps9
      go_wp2
      go_ret
      exact ⟨ret_i64 (by simp [CS.toE, a]), by simpa [CS.toS, a] using HH.out, gr_refl _ _⟩
    · by_cases c : 4398046511104 < x
      · have ha : decide ((x : Nat) < t) = false := by simpa using a
        have hc : decide ((4398046511104 : Int) < (x : Int)) = true := by simp; omega
        have HA := Lib.hid a
        have HC := Lib.hid c
        clear a c
        go_enter Try.func9, Try.ntmps9
        go_wp2_with (go_at_call 15; refine (HE.out).mono ?_; rintro e w' ⟨rfl, rfl⟩)
        go_ret
        exact ⟨ret_i64 (by simp [CS.toE, HA.out, HC.out]), by simpa [CS.toS, HA.out, HC.out, CS.cells] using HH.out.set 2 (.bool true), gr_set (gr_refl _ _) _ _⟩
      · have ha : decide ((x : Nat) < t) = false := by simpa using a
        have hc : decide ((4398046511104 : Int) < (x : Int)) = false := by simp; omega
        have HA := Lib.hid a
        have HC := Lib.hid c
        clear a c
        go_enter Try.func9, Try.ntmps9
        go_wp2
        go_ret
        exact ⟨ret_i64 (by simp [CS.toE, HA.out, HC.out]), by simpa [CS.toS, HA.out, HC.out, CS.cells] using HH.out.set 0 (.int .u64 x), gr_set (gr_refl _ _) _ _⟩

set_option maxHeartbeats 400000 in
theorem clock_Count (b x : Nat) (s : CS) (w : World) (h : Blk w b 39 s.cells) (hx : x ≤ 18446744073709551615) (hs : s.n ≤ 18446744073709551615) :
    Calls Try.prog 7 #[.pointer (some ⟨b, 0, none⟩), .int .u64 (x : Int)] w (ClockPost w b (s.countE x) (s.countS x)) := by
  have h1 := h.cell (i := 1) (v := .int .u64 s.n) rfl
  have h2 := h.cell (i := 2) (v := .bool s.p) rfl
  have f1 := h.free 1
  have hlt := h.lt
  have HH := Lib.hid h
  clear h
  obtain ⟨t, n, p⟩ := s
  dsimp only at *
  cases p with
  | true =>
    go_enter Try.func7, Try.ntmps7
    go_wp2
    go_ret
    exact ⟨ret_i64 (by simp [CS.countE]), by simpa [CS.countS] using HH.out, gr_refl _ _⟩
  | false =>
    have HB := Lib.hid (HH.out.alloc (.cells #[.int .u64 (n : Int), .int .u64 (x : Int)] 27))
    have HS : Hid (addS n x = min (n + x) 18446744073709551615) := Lib.hid rfl
    have HA := Lib.hid (fix_Add2_n w w.heap.size 2 n x rfl hs hx)
    by_cases c : 72057594037927936 < n + x
    · have hc : decide ((72057594037927936 : Int) < ((addS n x : Nat) : Int)) = true := by have a := HS.out; simp; omega
      have HC := Lib.hid c
      clear c
      generalize addS n x = m at *
      go_enter Try.func7, Try.ntmps7
      go_wp2_with (first | (go_at_call 14; refine (HA.out).mono ?_; rintro e w' ⟨rfl, rfl⟩) | (go_at_call 15; refine (clock_end b ⟨t, n, false⟩ _ HB.out).mono ?_; rintro e w' ⟨rfl, rfl⟩))
      go_ret
      exact ⟨ret_i64 (by simp [CS.countE, HC.out]), by simpa [CS.countS, HC.out, CS.cells] using (HH.out.set 2 (.bool true)).alloc _, gr_alloc (gr_set (gr_refl _ _) _ _) _⟩
    · have hc : decide ((72057594037927936 : Int) < ((addS n x : Nat) : Int)) = false := by have a := HS.out; simp; omega
      have HM : Hid (addS n x = n + x) := Lib.hid (by have a := HS.out; omega)
      have HC := Lib.hid c
      clear c
      generalize addS n x = m at *
      go_enter Try.func7, Try.ntmps7
      go_wp2_with (go_at_call 14; refine (HA.out).mono ?_; rintro e w' ⟨rfl, rfl⟩)
      go_ret
      exact ⟨ret_i64 (by simp [CS.countE, HC.out]), by simpa [CS.countS, HC.out, CS.cells, HM.out] using (HH.out.set 1 (.int .u64 (m : Int))).alloc (.cells #[.int .u64 (n : Int), .int .u64 (x : Int)] 27), gr_alloc (gr_set (gr_refl _ _) _ _) _⟩
end Go.Proofs.Ythdfjhlnipaekaa
