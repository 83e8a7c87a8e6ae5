/- Contracts of package ring over this translation: New, Clone; the calls of no row. -/
import Derived.Test.YtfpopbhbhdhdnaaKs
import Derived.Laws.CopyOwn
set_option linter.unusedVariables false
namespace Go.Proofs.Ytfpopbhbhdhdnaa
open Go.RowKit

/-- A slice of numbers: where it begins, and what it reads as. -/
def PNums (w : World) (v : Option Addr) (l : List Nat) : Prop :=
  0 < l.length → ∃ b off, v = some ⟨b, off, none⟩ ∧ b < w.heap.size ∧ ∀ i, i < l.length → w.cell? ⟨b, off + i, none⟩ = some (pv (l.getD i 0))

theorem PNums.keep {w w' : World} {v : Option Addr} {l : List Nat} (h : PNums w v l) (k : Below w.heap.size w w') : PNums w' v l := by
  intro hp
  obtain ⟨b, off, e, hb, hc⟩ := h hp
  exact ⟨b, off, e, Nat.lt_of_lt_of_le hb k.size, fun i hi => (k.cell (p := ⟨b, off + i, none⟩) hb).trans (hc i hi)⟩
theorem PNums.of_blk {w : World} {g : Nat} {l : List Nat} (h : Blk w g 59 (kcells l)) : PNums w (some ⟨g, 0, none⟩) l := by
  intro _
  refine ⟨g, 0, rfl, h.lt, fun i hi => h.cell ?_⟩
  rw [Nat.zero_add]; exact kcells_at hi
theorem kmap_at {l : List Nat} {j : Nat} {u : Value} (h : (l.map pv)[j]? = some u) : j < l.length ∧ u = pv (l.getD j 0) := by
  have hj : j < l.length := by
    rcases Nat.lt_or_ge j l.length with c | c
    · exact c
    · rw [List.getElem?_eq_none (by simpa using c)] at h; cases h
  refine ⟨hj, ?_⟩
  simp [hj] at h
  simp [List.getD_eq_getElem?_getD, hj, h]
theorem PNums.cells {w : World} {v : Option Addr} {l : List Nat} (h : PNums w v l) (hp : 0 < (l.map pv).length) : ∃ ad, v = some ad ∧ ∀ j u, (l.map pv)[j]? = some u → w.cell? (ad.add j) = some u := by
  obtain ⟨b, off, rfl, _, hc⟩ := h (by simpa using hp)
  refine ⟨_, rfl, fun j u hu => ?_⟩
  obtain ⟨hj, rfl⟩ := kmap_at hu
  rw [Go.WideShapes.add_plain]
  exact hc j hj
theorem one_ptrs (l : List Nat) : ∀ v ∈ l.map pv, v.oneCell' = true := by
  intro v hv
  obtain ⟨n, _, rfl⟩ := List.mem_map.1 hv
  rfl

structure KNew (w : World) (s : RS) (e : Ending) (w' : World) : Prop where
  at_ : ∃ b g, e = .returned (.pointer (some ⟨b, 0, none⟩)) ∧ KRingAt w' b g s ∧ w.heap.size ≤ b ∧ w.heap.size ≤ g
  bel : Below w.heap.size w w'

theorem kp_size : (Try.prog.info? 59).map (·.size) = some 1 := by kernel_rfl

set_option maxHeartbeats 400000 in
theorem kring_New (v : Option Addr) (cap : Nat) (l : List Nat) (w : World) (h : PNums w v l) (hn : l.length ≤ 100000) :
    Calls Try.prog 19 #[.slice v l.length cap] w (KNew w ⟨l, 0, l.length⟩) := by
  have HH := Lib.hid h
  have hmk := krun_mk l.length hn
  clear h
  go_enter Try.func19, Try.ntmps19
  have HB : Hid (Below w.heap.size w (w.alloc (.cells (kcells (List.replicate l.length 0)) 59))) := Lib.hid ((Below.refl _ _).alloc (Nat.le_refl _) _)
  have HBk : Hid (Blk (w.alloc (.cells (kcells (List.replicate l.length 0)) 59)) w.heap.size 59 (kcells (List.replicate l.length 0))) := Lib.hid (Blk.new _ _ _)
  have HNc := Lib.hid (HH.out.keep HB.out)
  go_wp2_with ((refine wpList_copy_splice rfl (.tmp 7) (.tmp 8) 84 84 rfl 59 Try.underlying84 kp_size (some ⟨w.heap.size, 0, none⟩) v l.length l.length l.length cap rfl rfl w.heap.size 0 ((List.replicate l.length 0).map pv) 59 HBk.out (l.map pv) (by simp) (fun hp => ⟨rfl, (HNc.out).cells hp⟩) (by simp) (one_ptrs l) w.heap.size w HB.out (Nat.le_refl _) ?_); intro w2 h2 hb2)
  have HW := Lib.hid hb2
  have H2 : Hid (Blk w2 w.heap.size 59 (kcells l)) := Lib.hid (by
    have := h2.out
    rw [show splice (List.map pv (List.replicate l.length 0)) 0 (List.map pv l) = l.map pv by simp [splice]] at this
    exact this)
  clear h2 hb2 hmk
  go_wp2_with fail
  go_ret
  refine ⟨⟨w2.heap.size, w.heap.size, rfl, ⟨?_, ?_⟩, HW.out.size, Nat.le_refl _⟩, HW.out.alloc HW.out.size _⟩
  · exact Blk.new _ _ _
  · exact H2.out.alloc _

end Go.Proofs.Ytfpopbhbhdhdnaa
