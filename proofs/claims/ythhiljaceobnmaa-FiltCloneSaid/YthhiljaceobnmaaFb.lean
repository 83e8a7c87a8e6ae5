/- Contracts of package filt over this translation: a filter is a block of four cells (its row, its window, its time, whether it is for the least), and its row. -/
import Derived.Test.YthhiljaceobnmaaQrg
import Derived.Test.YthhiljaceobnmaaFa
import Derived.Test.YthhiljaceobnmaaAdd
set_option linter.unusedVariables false
namespace Go.Proofs.Ythhiljaceobnmaa
open Go.RowKit Pl

def fcells (b : Nat) (f : FS) : Array Value := #[.pointer (some ⟨b, 0, none⟩), .int .u64 (f.win : Int), .int .u64 (f.t : Int), .bool f.least]

/-- A filter in memory: itself at block a, its row at block b, the row's places at block g. -/
structure FlAt (w : World) (a b g : Nat) (f : FS) : Prop where
  head : Blk w a 49 (fcells b f)
  row : RdRow w b g f.l

theorem FlAt.keep {w w' : World} {a b g : Nat} {f : FS} (h : FlAt w a b g f) (k : Below w.heap.size w w') : FlAt w' a b g f := ⟨h.head.keep k, h.row.keep k⟩
theorem FlAt.fr {w w' : World} {a b g : Nat} {f : FS} {L : List Nat} (h : FlAt w a b g f) (k : Fr w w' L) (h1 : a ∉ L) (h2 : b ∉ L) (h3 : g ∉ L) : FlAt w' a b g f := ⟨h.head.fr k h1, h.row.fr k h2 h3⟩
theorem FlAt.ab {w : World} {a b g : Nat} {f : FS} (h : FlAt w a b g f) : a ≠ b := by obtain ⟨cs, k⟩ := h.row.head; exact h.head.ty k (by decide)
theorem FlAt.ag {w : World} {a b g : Nat} {f : FS} (h : FlAt w a b g f) : a ≠ g := by obtain ⟨cs, k⟩ := h.row.body; exact h.head.ty k (by decide)
theorem FlAt.bg {w : World} {a b g : Nat} {f : FS} (h : FlAt w a b g f) : b ≠ g := h.row.ne
theorem FlAt.lt {w : World} {a b g : Nat} {f : FS} (h : FlAt w a b g f) : a < w.heap.size ∧ b < w.heap.size ∧ g < w.heap.size := ⟨h.head.lt, h.row.lt.1, h.row.lt.2⟩

structure FPost (w : World) (a b g : Nat) (v : Ending) (f : FS) (e : Ending) (w' : World) : Prop where
  e : e = v
  at_ : ∃ g', FlAt w' a b g' f ∧ (g' = g ∨ w.heap.size ≤ g')
  fr : Fr w w' [a, b, g]

set_option maxHeartbeats 400000 in
theorem fl_counts (a b g : Nat) (f : FS) (r : Rd) (w : World) (h : FlAt w a b g f) (ho : f.ok) (hr : r.t ≤ 18446744073709551615) :
    Calls Try.prog 24 #[.pointer (some ⟨a, 0, none⟩), r.agg] w fun e w' => e = .returned (.bool (cnts f.win f.t r)) ∧ Below w.heap.size w w' := by
  unfold Rd.agg
  have HB := Lib.hid (show Blk (w.alloc (.cells #[.int .u64 (r.t : Int), .int .u64 (r.x : Int)] 52)) w.heap.size 52 #[.int .u64 (r.t : Int), .int .u64 (r.x : Int)] from Blk.new _ _ _)
  have HA := Lib.hid (h.head.alloc (.cells #[.int .u64 (r.t : Int), .int .u64 (r.x : Int)] 52))
  have HW : Hid (Below w.heap.size w (w.alloc (.cells #[.int .u64 (r.t : Int), .int .u64 (r.x : Int)] 52))) := Lib.hid ((Below.refl _ _).alloc (Nat.le_refl _) _)
  have r0 := HB.out.drew.cell (i := 0) (v := .int .u64 (r.t : Int)) rfl
  have a1 := HA.out.drew.cell (i := 1) (v := .int .u64 (f.win : Int)) rfl
  have a2 := HA.out.drew.cell (i := 2) (v := .int .u64 (f.t : Int)) rfl
  have hw := ho.win
  clear h ho
  go_enter Try.func24, Try.ntmps24
  go_wp2_with fail
  generalize (w.alloc (.cells #[.int .u64 (r.t : Int), .int .u64 (r.x : Int)] 52)) = wa at *
  go_region_held3 (fun w' => w'.cell? ⟨w.heap.size, 0, none⟩ = some (.int .u64 (r.t : Int)) ∧ w'.cell? ⟨a, 1, none⟩ = some (.int .u64 (f.win : Int)) ∧ w'.cell? ⟨a, 2, none⟩ = some (.int .u64 (f.t : Int)))
    (first | exact ⟨r0, a1, a2⟩ | exact ⟨cell_al r0 _, cell_al a1 _, cell_al a2 _⟩ | exact ⟨b0, b1, b2⟩ | (trace_state; fail))
    (first | (go_at_call 33; refine (add2_b wa.drew _ _ r.t f.win rfl (by omega) (by omega)).mono ?_; rintro e w' ⟨rfl, hd⟩; have HD := Lib.hid hd; clear hd; have b0 := (HD.out.cell (p := ⟨w.heap.size, 0, none⟩) (World.block_lt_of_cell? _ _ r0)).trans r0; have b1 := (HD.out.cell (p := ⟨a, 1, none⟩) (World.block_lt_of_cell? _ _ a1)).trans a1; have b2 := (HD.out.cell (p := ⟨a, 2, none⟩) (World.block_lt_of_cell? _ _ a2)).trans a2))
  go_wp2_with fail
  go_ret
  exact ⟨rfl, HW.out.trans ((((Drawn.drew wa).below _).trans (HD.out.mono (Nat.le_refl _))).mono HW.out.size)⟩

theorem bel2 (w : World) (o p : Obj) : Below w.heap.size w ((w.alloc o).alloc p) := ((Below.refl _ _).alloc (Nat.le_refl _) _).alloc (by simp) _
theorem fl_below (r s : Rd) (w : World) : Calls Try.prog 36 #[r.agg, s.agg] w fun e w' => e = .returned (.bool (bt true r s)) ∧ Below w.heap.size w w' := by
  unfold Rd.agg
  go_enter Try.func36, Try.ntmps36
  go_wp2_with fail
  go_ret
  exact ⟨by simp [bt], bel2 w _ _⟩
theorem fl_above (r s : Rd) (w : World) : Calls Try.prog 37 #[r.agg, s.agg] w fun e w' => e = .returned (.bool (bt false r s)) ∧ Below w.heap.size w w' := by
  unfold Rd.agg
  go_enter Try.func37, Try.ntmps37
  go_wp2_with fail
  go_ret
  exact ⟨by simp [bt], bel2 w _ _⟩

/-- The method value that tells what r beats. -/
def beats (least : Bool) (r : Rd) : Value := if least then .func (.func 36) #[r.agg] #[] else .func (.func 37) #[r.agg] #[]
theorem fl_better (a b g : Nat) (f : FS) (r : Rd) (w : World) (h : FlAt w a b g f) :
    Calls Try.prog 26 #[.pointer (some ⟨a, 0, none⟩), r.agg] w fun e w' => e = .returned (beats f.least r) ∧ Below w.heap.size w w' := by
  unfold beats Rd.agg
  have a3 := (h.head.alloc (.cells #[.int .u64 (r.t : Int), .int .u64 (r.x : Int)] 52)).cell (i := 3) (v := .bool f.least) rfl
  rcases hl : f.least
  · rw [hl] at a3
    go_enter Try.func26, Try.ntmps26
    go_wp2_with fail
    go_ret
    exact ⟨rfl, (Below.refl _ _).alloc (Nat.le_refl _) _⟩
  · rw [hl] at a3
    go_enter Try.func26, Try.ntmps26
    go_wp2_with fail
    go_ret
    exact ⟨rfl, (Below.refl _ _).alloc (Nat.le_refl _) _⟩

/-- The first one of a row, if there is one. -/
theorem rd_first (b g : Nat) (l : List Rd) (w : World) (h : RdRow w b g l) :
    Calls Try.prog 18 #[.pointer (some ⟨b, 0, none⟩), .int .i64 0] w fun e w' => e = rdgot (l.headD Itm.z) (!l.isEmpty) ∧ Below w.heap.size w w' := by
  rcases l with _ | ⟨x, r⟩
  · exact rd_at_out b g 0 [] w h (.inr (by simp))
  · exact rd_at b g 0 (x :: r) w h (by simp)
theorem rd_lastone (b g : Nat) (l : List Rd) (w : World) (h : RdRow w b g l) :
    Calls Try.prog 18 #[.pointer (some ⟨b, 0, none⟩), .int .i64 ((l.length : Int) - 1)] w fun e w' => e = rdgot (l.getLastD Itm.z) (!l.isEmpty) ∧ Below w.heap.size w w' := by
  rcases List.eq_nil_or_concat l with rfl | ⟨r, x, rfl⟩
  · exact rd_at_out b g _ [] w h (.inl (by simp))
  · have := rd_at b g r.length (r ++ [x]) w (by simpa using h) (by simp)
    have e : (!(r ++ [x]).isEmpty) = true := by cases r <;> rfl
    rw [List.concat_eq_append, e]
    simpa [List.getD_eq_getElem?_getD] using this

end Go.Proofs.Ythhiljaceobnmaa
