/- The calls of no row; the document's own row (goitref04) over this translation. -/
import Derived.Test.YtfdekmccmdekkaaRx
import Derived.Maps.AppendAt
import Derived.OwnWalk
import Derived.WalkSpells
set_option linter.unusedVariables false
namespace Go.Proofs.Ytfdekmccmdekkaa
open Go.RowKit

theorem ring_Push_nil (x : Int) (w : World) : Calls Try.prog 12 #[.pointer none, .int .u64 x] w fun e w' => e = .returned (.tuple #[]) ∧ w = w' := by
  go_enter Try.func12, Try.ntmps12
  go_wp2_with fail
  exact bodyPost_ret (v := .tuple #[]) (by simp [results, Try.results12, go_sem]) rfl ⟨rfl, rfl⟩
theorem ring_At_nil (w : World) : Calls Try.prog 15 #[.pointer none, .int .i64 0] w fun e w' => e = got 0 false ∧ w = w' := by
  go_enter Try.func15, Try.ntmps15
  go_wp2_with (go_at_call 10; refine (ring_Len_nil _).mono ?_; rintro e w' ⟨rfl, rfl⟩)
  go_ret2
  exact ⟨rfl, rfl⟩
theorem ring_At_nil1 (w : World) : Calls Try.prog 15 #[.pointer none, .int .i64 (-1)] w fun e w' => e = got 0 false ∧ w = w' := by
  go_enter Try.func15, Try.ntmps15
  go_wp2_with (go_at_call 10; refine (ring_Len_nil _).mono ?_; rintro e w' ⟨rfl, rfl⟩)
  go_ret2
  exact ⟨rfl, rfl⟩
theorem ring_Shift_nil (w : World) : Calls Try.prog 13 #[.pointer none] w fun e w' => e = got 0 false ∧ w = w' := by
  have HA := Lib.hid (ring_At_nil w)
  go_enter Try.func13, Try.ntmps13
  go_wp2_with fail
  refine (HA.out).mono ?_
  rintro e w' ⟨rfl, rfl⟩
  unfold got
  go_wp2_with fail
  go_ret2
  exact ⟨rfl, rfl⟩
theorem ring_Pop_nil (w : World) : Calls Try.prog 14 #[.pointer none] w fun e w' => e = got 0 false ∧ w = w' := by
  have HA := Lib.hid (ring_At_nil1 w)
  go_enter Try.func14, Try.ntmps14
  go_wp2_with fail
  refine (ring_Len_nil _).mono ?_
  rintro e w' ⟨rfl, rfl⟩
  go_wp2_with fail
  refine (HA.out).mono ?_
  rintro e w' ⟨rfl, rfl⟩
  unfold got
  go_wp2_with fail
  go_ret2
  exact ⟨rfl, rfl⟩
theorem ring_All_nil (w : World) : Calls Try.prog 8 #[.pointer none] w fun e w' => e = .returned (.slice none 0 0) ∧ w = w' := by
  go_enter Try.func8, Try.ntmps8
  go_wp2_with fail
  go_ret
  exact ⟨rfl, rfl⟩
theorem ring_Clone_nil (w : World) : Calls Try.prog 11 #[.pointer none] w fun e w' => e = .returned (.pointer none) ∧ w = w' := by
  go_enter Try.func11, Try.ntmps11
  go_wp2_with fail
  go_ret
  exact ⟨rfl, rfl⟩

/-- The document's row in memory: its head at block m, its items at block v. -/
structure RowAt (w : World) (m v cap : Nat) (l : List Nat) : Prop where
  head : Blk w m 30 #[.slice (some ⟨v, 0, none⟩) l.length cap]
  own : w.ownsRow 0 27 1 (.slice (some ⟨v, 0, none⟩) l.length cap) l.length (l.map ncell)

theorem RowAt.lt {w : World} {m v cap : Nat} {l : List Nat} (h : RowAt w m v cap l) : v < w.heap.size := (h.own.lt v rfl).2
theorem row_inv {w : World} {v n cap : Nat} {xs : List Value} (h : w.ownsRow 0 27 1 (.slice (some ⟨v, 0, none⟩) n cap) n xs) :
    xs.length = n ∧ ∃ cur, Blk w v 27 cur ∧ n ≤ cap ∧ cap ≤ maxLen ∧ cur.size = cap ∧ cur.toList.take n = xs := by
  rcases h with ⟨h1, ⟨h2, _⟩ | ⟨g, cap', cur, e, _, hg, h3, h4, h5, h6⟩⟩
  · cases h2
  · injection e with e1 e2 e3
    injection e1 with e1
    injection e1 with e1
    subst e1; subst e3
    exact ⟨by omega, cur, hg, h3, h4, by omega, by rw [Nat.mul_one] at h6; exact h6⟩
theorem row_mk {w : World} {v n cap : Nat} {xs : List Value} {cur : Array Value} (h0 : xs.length = n) (h1 : Blk w v 27 cur) (h2 : n ≤ cap) (h3 : cap ≤ maxLen) (h4 : cur.size = cap) (h5 : cur.toList.take n = xs) :
    w.ownsRow 0 27 1 (.slice (some ⟨v, 0, none⟩) n cap) n xs :=
  ⟨by omega, .inr ⟨v, cap, cur, rfl, Nat.zero_le _, h1, h2, h3, by omega, by rw [Nat.mul_one]; exact h5⟩⟩
theorem row_blk {w w' : World} {v n cap : Nat} {xs : List Value} (h : w.ownsRow 0 27 1 (.slice (some ⟨v, 0, none⟩) n cap) n xs) (hb : w'.heap[v]? = w.heap[v]?) : w'.ownsRow 0 27 1 (.slice (some ⟨v, 0, none⟩) n cap) n xs := by
  obtain ⟨a, cur, b, c⟩ := row_inv h
  exact row_mk a (show w'.heap[v]? = _ by rw [hb]; exact b) c.1 c.2.1 c.2.2.1 c.2.2.2
theorem RowAt.ne {w : World} {m v cap : Nat} {l : List Nat} (h : RowAt w m v cap l) : m ≠ v := by
  rintro rfl
  obtain ⟨_, cur, k, _⟩ := row_inv h.own
  have := h.head
  unfold Blk at this k; rw [this] at k; injection k with k; injection k with _ k; exact absurd k (by decide)
theorem RowAt.cell {w : World} {m v cap : Nat} {l : List Nat} (h : RowAt w m v cap l) {i : Nat} (hi : i < l.length) : w.cell? ⟨v, i, none⟩ = some (.int .u64 ((l.getD i 0 : Nat) : Int)) := by
  have := h.own.cells (g := v) rfl i (ncell (l.getD i 0)) (by simp [hi, List.getD_eq_getElem?_getD])
  rw [Go.WideShapes.add_plain, Nat.zero_add] at this
  exact this
theorem RowAt.nums {w : World} {m v cap : Nat} {l : List Nat} (h : RowAt w m v cap l) : Nums w (some ⟨v, 0, none⟩) l :=
  fun _ => ⟨v, 0, rfl, h.lt, fun i hi => by rw [Nat.zero_add]; exact h.cell hi⟩
theorem row_form {w : World} {v : Value} {n : Nat} {xs : List Value} (h : w.ownsRow 0 27 1 v n xs) (hv : v ≠ .slice none 0 0) : ∃ g cap, v = .slice (some ⟨g, 0, none⟩) n cap := by
  rcases h with ⟨_, ⟨e, _⟩ | ⟨g, cap, cur, e, _⟩⟩
  · exact absurd e hv
  · exact ⟨g, cap, e⟩

/-- What a call of the document's row leaves. -/
structure RowPost (w : World) (m v : Nat) (r : Ending) (l : List Nat) (e : Ending) (w' : World) : Prop where
  e : e = r
  at_ : ∃ v' cap, RowAt w' m v' cap l ∧ (v' = v ∨ w.heap.size ≤ v')
  mv : Mv w w' m v

theorem mv_of_grown {w w' : World} {m v : Nat} (h : w.grownBy w' (some v)) : Mv w w' m v := ⟨h.os, h.tape, h.output, h.size, fun k hk _ hv => h.block k hk (by intro e; injection e with e; exact hv e)⟩
theorem Mv.alloc {a w : World} {b g : Nat} (h : Mv a w b g) (o : Obj) : Mv a (w.alloc o) b g := h.below ((Below.refl _ _).alloc (Nat.le_refl _) o)

set_option maxHeartbeats 400000 in
theorem ref_Push (m v cap x : Nat) (l : List Nat) (w : World) (h : RowAt w m v cap l) (hl : l.length ≤ 1000) :
    Calls Try.prog 16 #[.pointer (some ⟨m, 0, none⟩), .int .u64 (x : Int)] w (RowPost w m v (.returned (.tuple #[])) (l ++ [x])) := by
  obtain ⟨i0, hi, hz0, hz1, hz2⟩ := info_parts u64_info
  have HI := Lib.hid hi
  have HZ0 := Lib.hid hz0
  have HZ1 := Lib.hid hz1
  have HZ2 := Lib.hid hz2
  clear hi hz0 hz1 hz2
  have HH := Lib.hid h
  have HN := Lib.hid h.ne
  have hml := h.head.lt
  have c0 := h.head.cell (i := 0) (v := .slice (some ⟨v, 0, none⟩) l.length cap) rfl
  have HO := Lib.hid (h.own.alloc (.cells #[.int .u64 (x : Int)] 27))
  have HB := Lib.hid (Blk.new w 27 #[.int .u64 (x : Int)])
  clear h
  go_enter Try.func16, Try.ntmps16
  go_wp2_with (at_builtin; refine wpList_append_own_at _ rfl (.tmp 8) (.tmp 10) 22 rfl 0 27 i0 (.int .u64 0) 1 8 Try.underlying22 HI.out HZ0.out HZ1.out HZ2.out rfl (by decide) (.slice (some ⟨v, 0, none⟩) l.length cap) l.length (l.map ncell) rfl HO.out ⟨w.heap.size, 0, none⟩ 1 1 [.int .u64 (x : Int)] rfl rfl (fun j u hu => by have hj : j = 0 := (by rcases j with _ | j; rfl; simp at hu); subst hj; rw [Go.WideShapes.add_plain]; exact HB.out.cell (by simpa using hu)) (by intro u hu; simp at hu; subst hu; rfl) (by unfold maxLen; omega) (by omega) (Nat.zero_le _) ?_; intro v' w1 hown hgr hnil hat; have HW := Lib.hid hown; have HG := Lib.hid hgr; have HAT := Lib.hid hat; have HF := Lib.hid (row_form hown (fun e => by have := hnil.1 e; simp at this)); clear hown hgr hnil hat; obtain ⟨g', cap', rfl⟩ := HF.out; have HM := Lib.hid (((Mv.refl w m v).alloc (.cells #[.int .u64 (x : Int)] 27)).trans (mv_of_grown (m := m) HG.out) (.inl rfl)); have HH1 := Lib.hid ((HH.out.head.alloc (.cells #[.int .u64 (x : Int)] 27)).grown HG.out (by intro e; injection e with e; exact HN.out e)); have d0 := HH1.out.cell (i := 0) (v := .slice (some ⟨v, 0, none⟩) l.length cap) rfl; have d1 := HH1.out.free 0)
  go_end0
  refine ⟨rfl, ⟨g', cap', ⟨?_, ?_⟩, ?_⟩, HM.out.set (.inl rfl) _ _⟩
  · have := HH1.out.set 0 (.slice (some ⟨g', 0, none⟩) (l.length + 1) cap')
    simpa using this
  · have hne : m ≠ g' := by
      have h1 := HAT.out
      have h2 := HN.out
      simp [Value.ownBlock] at h1
      omega
    have := row_blk (w' := w1.setCell ⟨m, 0, none⟩ (.slice (some ⟨g', 0, none⟩) (l.length + 1) cap')) HW.out (Below.heap_setCell _ _ _ _ (Ne.symm hne))
    simpa [ncell] using this
  · have h1 := HAT.out
    simp [Value.ownBlock] at h1
    omega
end Go.Proofs.Ytfdekmccmdekkaa
