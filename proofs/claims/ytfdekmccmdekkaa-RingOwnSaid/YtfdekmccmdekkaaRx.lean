/- Contracts of package ring over this translation: New, Clone; the calls of no row. -/
import Derived.Test.YtfdekmccmdekkaaRs
import Derived.Laws.CopyOwn
set_option linter.unusedVariables false
namespace Go.Proofs.Ytfdekmccmdekkaa
open Go.RowKit

/-- A slice of numbers: where it begins, and what it reads as. -/
def Nums (w : World) (v : Option Addr) (l : List Nat) : Prop :=
  0 < l.length → ∃ b off, v = some ⟨b, off, none⟩ ∧ b < w.heap.size ∧ ∀ i, i < l.length → w.cell? ⟨b, off + i, none⟩ = some (ncell (l.getD i 0))

theorem Nums.keep {w w' : World} {v : Option Addr} {l : List Nat} (h : Nums w v l) (k : Below w.heap.size w w') : Nums w' v l := by
  intro hp
  obtain ⟨b, off, e, hb, hc⟩ := h hp
  exact ⟨b, off, e, Nat.lt_of_lt_of_le hb k.size, fun i hi => (k.cell (p := ⟨b, off + i, none⟩) hb).trans (hc i hi)⟩
theorem Nums.of_blk {w : World} {g : Nat} {l : List Nat} (h : Blk w g 27 (pcells l)) : Nums w (some ⟨g, 0, none⟩) l := by
  intro _
  refine ⟨g, 0, rfl, h.lt, fun i hi => h.cell ?_⟩
  rw [Nat.zero_add]; exact pcells_at hi
theorem map_at {l : List Nat} {j : Nat} {u : Value} (h : (l.map ncell)[j]? = some u) : j < l.length ∧ u = ncell (l.getD j 0) := by
  have hj : j < l.length := by
    rcases Nat.lt_or_ge j l.length with c | c
    · exact c
    · rw [List.getElem?_eq_none (by simpa using c)] at h; cases h
  refine ⟨hj, ?_⟩
  simp [hj] at h
  simp [List.getD_eq_getElem?_getD, hj, h]
theorem Nums.cells {w : World} {v : Option Addr} {l : List Nat} (h : Nums w v l) (hp : 0 < (l.map ncell).length) : ∃ ad, v = some ad ∧ ∀ j u, (l.map ncell)[j]? = some u → w.cell? (ad.add j) = some u := by
  obtain ⟨b, off, rfl, _, hc⟩ := h (by simpa using hp)
  refine ⟨_, rfl, fun j u hu => ?_⟩
  obtain ⟨hj, rfl⟩ := map_at hu
  rw [Go.WideShapes.add_plain]
  exact hc j hj
theorem one_nums (l : List Nat) : ∀ v ∈ l.map ncell, v.oneCell' = true := by
  intro v hv
  obtain ⟨n, _, rfl⟩ := List.mem_map.1 hv
  rfl

structure NewPost (w : World) (s : RS) (e : Ending) (w' : World) : Prop where
  at_ : ∃ b g, e = .returned (.pointer (some ⟨b, 0, none⟩)) ∧ RingAt w' b g s ∧ w.heap.size ≤ b ∧ w.heap.size ≤ g
  bel : Below w.heap.size w w'

theorem u64_size : (Try.prog.info? 27).map (·.size) = some 1 := by kernel_rfl

set_option maxHeartbeats 400000 in
theorem ring_New (v : Option Addr) (cap : Nat) (l : List Nat) (w : World) (h : Nums w v l) (hn : l.length ≤ 100000) :
    Calls Try.prog 6 #[.slice v l.length cap] w (NewPost w ⟨l, 0, l.length⟩) := by
  have HH := Lib.hid h
  have hmk := run_mk l.length hn
  clear h
  go_enter Try.func6, Try.ntmps6
  have HB : Hid (Below w.heap.size w (w.alloc (.cells (pcells (List.replicate l.length 0)) 27))) := Lib.hid ((Below.refl _ _).alloc (Nat.le_refl _) _)
  have HBk : Hid (Blk (w.alloc (.cells (pcells (List.replicate l.length 0)) 27)) w.heap.size 27 (pcells (List.replicate l.length 0))) := Lib.hid (Blk.new _ _ _)
  have HNc := Lib.hid (HH.out.keep HB.out)
  go_wp2_with ((refine wpList_copy_splice rfl (.tmp 7) (.tmp 8) 22 22 rfl 27 Try.underlying22 u64_size (some ⟨w.heap.size, 0, none⟩) v l.length l.length l.length cap rfl rfl w.heap.size 0 ((List.replicate l.length 0).map ncell) 27 HBk.out (l.map ncell) (by simp) (fun hp => ⟨rfl, (HNc.out).cells hp⟩) (by simp) (one_nums l) w.heap.size w HB.out (Nat.le_refl _) ?_); intro w2 h2 hb2)
  have HW := Lib.hid hb2
  have H2 : Hid (Blk w2 w.heap.size 27 (pcells l)) := Lib.hid (by
    have := h2.out
    rw [show splice (List.map ncell (List.replicate l.length 0)) 0 (List.map ncell l) = l.map ncell by simp [splice]] at this
    exact this)
  clear h2 hb2 hmk
  go_wp2_with fail
  go_ret
  refine ⟨⟨w2.heap.size, w.heap.size, rfl, ⟨?_, ?_⟩, HW.out.size, Nat.le_refl _⟩, HW.out.alloc HW.out.size _⟩
  · exact Blk.new _ _ _
  · exact H2.out.alloc _

set_option maxHeartbeats 400000 in
theorem ring_Clone (b g : Nat) (s : RS) (w : World) (h : RingAt w b g s) (ho : s.ok) :
    Calls Try.prog 11 #[.pointer (some ⟨b, 0, none⟩)] w (NewPost w s) := by
  have HH := Lib.hid h
  have c0 := h.head.cell (i := 0) (v := .slice (some ⟨g, 0, none⟩) s.pl.length s.pl.length) rfl
  have HC := Lib.hid (ring_New (some ⟨g, 0, none⟩) s.pl.length s.pl w (Nums.of_blk h.body) ho.m)
  have hbl := h.head.lt
  clear h ho
  go_enter Try.func11, Try.ntmps11
  go_wp2_with fail
  refine (HC.out).mono ?_
  rintro e w1 ⟨⟨b', g', rfl, hr, hb', hg'⟩, hbel⟩
  have HR := Lib.hid hr
  have HW := Lib.hid hbel
  have H1 := Lib.hid (HH.out.keep hbel)
  clear hr hbel c0 HC
  have c1 := H1.out.head.cell (i := 1) (v := .int .i64 (s.first : Int)) rfl
  have c2 := H1.out.head.cell (i := 2) (v := .int .i64 (s.cnt : Int)) rfl
  have n1 := HR.out.head.cell (i := 1) (v := .int .i64 0) rfl
  have n2 := HR.out.head.cell (i := 2) (v := .int .i64 (s.pl.length : Int)) rfl
  have f1 := HR.out.head.free 1
  have f2 := HR.out.head.free 2
  have hne : b ≠ b' := by omega
  go_wp2_with fail
  go_region
  have HF : Hid (RingAt ((w1.setCell ⟨b', 1, none⟩ (.int .i64 (s.first : Int))).setCell ⟨b', 2, none⟩ (.int .i64 (s.cnt : Int))) b' g' s) := Lib.hid ⟨by
      have := (HR.out.head.set 1 (.int .i64 (s.first : Int))).set 2 (.int .i64 (s.cnt : Int))
      simpa [RS.cells] using this, (HR.out.body.set_other _ _ (Ne.symm HR.out.ne)).set_other _ _ (Ne.symm HR.out.ne)⟩
  have HG := Lib.hid ((HW.out.setCell (p := ⟨b', 1, none⟩) hb' (.int .i64 (s.first : Int))).setCell (p := ⟨b', 2, none⟩) hb' (.int .i64 (s.cnt : Int)))
  go_wp2_with fail
  go_ret
  exact ⟨⟨b', g', rfl, (Drawn.drew _).ring HF.out, hb', hg'⟩, HG.out.trans ((Drawn.drew _).below _)⟩
end Go.Proofs.Ytfdekmccmdekkaa
