/- The document's own row (goitref04) over this translation: Shift, Pop, At, Same. -/
import Derived.Test.YtfdekmccmdekkaaRy
set_option linter.unusedVariables false
namespace Go.Proofs.Ytfdekmccmdekkaa
open Go.RowKit

theorem own_empty (w : World) : (w.alloc (.cells #[] 27)).ownsRow 0 27 1 (.slice (some ⟨w.heap.size, 0, none⟩) 0 0) 0 [] :=
  row_mk rfl (Blk.new w _ _) (Nat.le_refl _) (Nat.zero_le _) rfl rfl

/-- The cells of a part of a row, from place k on, in a world in which an empty block was made. -/
theorem part_cells {w : World} {m v cap : Nat} {l r : List Nat} (h : RowAt w m v cap l) (k : Nat) (hr : ∀ j, j < r.length → k + j < l.length ∧ l.getD (k + j) 0 = r.getD j 0) (o : Obj) :
    ∀ j u, (r.map ncell)[j]? = some u → (w.alloc o).cell? ((⟨v, k, none⟩ : Addr).add j) = some u := by
  intro j u hu
  obtain ⟨hj, rfl⟩ := map_at hu
  obtain ⟨h1, h2⟩ := hr j hj
  rw [Go.WideShapes.add_plain, World.cell?_alloc_lt _ _ _ h.lt]
  have := h.cell h1
  rw [h2] at this
  exact this

set_option maxHeartbeats 400000 in
theorem ref_Shift (m v cap x : Nat) (r : List Nat) (w : World) (h : RowAt w m v cap (x :: r)) (hl : r.length ≤ 1000) :
    Calls Try.prog 17 #[.pointer (some ⟨m, 0, none⟩)] w (RowPost w m v (got x true) r) := by
  obtain ⟨i0, hi, hz0, hz1, hz2⟩ := info_parts u64_info
  have HI := Lib.hid hi
  have HZ0 := Lib.hid hz0
  have HZ1 := Lib.hid hz1
  have HZ2 := Lib.hid hz2
  clear hi hz0 hz1 hz2
  have HH := Lib.hid h
  have HN := Lib.hid h.ne
  have hml := h.head.lt
  have hcap : r.length + 1 ≤ cap := (row_inv h.own).2.choose_spec.2.1
  have c0 := h.head.cell (i := 0) (v := .slice (some ⟨v, 0, none⟩) (r.length + 1) cap) rfl
  have c1 : w.cell? ⟨v, 0, none⟩ = some (.int .u64 (x : Int)) := h.cell (i := 0) (by simp)
  have HOE := Lib.hid (own_empty w)
  have hvl := h.lt
  have HPC := Lib.hid (part_cells (r := r) h 1 (fun j hj => ⟨by simp; omega, by simp [List.getD_eq_getElem?_getD, Nat.add_comm 1 j]⟩) (.cells #[] 27))
  clear h
  by_cases hc : cap = 1
  · obtain rfl : r = [] := List.eq_nil_of_length_eq_zero (by omega)
    subst hc
    simp only [List.length_nil, Nat.zero_add] at c0
    go_enter Try.func17, Try.ntmps17
    go_wp2_with (at_builtin; refine wpList_append_own_at _ rfl (.tmp 18) (.tmp 23) 22 rfl 0 27 i0 (.int .u64 0) 1 8 Try.underlying22 HI.out HZ0.out HZ1.out HZ2.out rfl (by decide) (.slice (some ⟨w.heap.size, 0, none⟩) 0 0) 0 [] rfl HOE.out ⟨v, 0, none⟩ 0 0 [] rfl rfl (by intro j u hu; simp at hu) (by intro u hu; simp at hu) (by unfold maxLen; omega) (by omega) (Nat.zero_le _) ?_; intro v' w1 hown hgr hnil hat; have HW := Lib.hid hown; have HG := Lib.hid hgr; have HAT := Lib.hid hat; have HF := Lib.hid (row_form hown (fun e => by have := hnil.1 e; simp at this)); clear hown hgr hnil hat; obtain ⟨g', cap', rfl⟩ := HF.out; have HB1 := Lib.hid (bel_gr (B := w.heap.size) ((Below.refl _ _).alloc (Nat.le_refl _) _) HG.out (by simp) (Nat.le_refl _)); have HH1 := Lib.hid (HH.out.head.keep HB1.out); have d0 := HH1.out.cell (i := 0) (v := (.slice (some ⟨v, 0, none⟩) 1 1)) rfl; have d1 := HH1.out.free 0)
    go_ret2
    refine ⟨rfl, ⟨g', cap', ⟨?_, ?_⟩, .inr ?_⟩, (Mv.of_below HB1.out m v).set (.inl rfl) _ _⟩
    · have := HH1.out.set 0 (.slice (some ⟨g', 0, none⟩) 0 cap')
      simpa using this
    · have hne : m ≠ g' := by
        have h1 := HAT.out
        simp [Value.ownBlock] at h1
        omega
      have := row_blk (w' := w1.setCell ⟨m, 0, none⟩ (.slice (some ⟨g', 0, none⟩) 0 cap')) HW.out (Below.heap_setCell _ _ _ _ (Ne.symm hne))
      simpa using this
    · have h1 := HAT.out
      simp [Value.ownBlock] at h1
      omega
  · have hr0 : r.length < cap := by omega
    go_enter Try.func17, Try.ntmps17
    go_wp2_with (at_builtin; refine wpList_append_own_at _ rfl (.tmp 18) (.tmp 23) 22 rfl 0 27 i0 (.int .u64 0) 1 8 Try.underlying22 HI.out HZ0.out HZ1.out HZ2.out rfl (by decide) (.slice (some ⟨w.heap.size, 0, none⟩) 0 0) 0 [] rfl HOE.out ⟨v, 1, none⟩ r.length (cap - 1) (r.map ncell) rfl (by simp) HPC.out (one_nums r) (by unfold maxLen; omega) (by omega) (Nat.zero_le _) ?_; intro v' w1 hown hgr hnil hat; have HW := Lib.hid hown; have HG := Lib.hid hgr; have HAT := Lib.hid hat; have HF := Lib.hid (row_form hown (fun e => by have := hnil.1 e; simp at this)); clear hown hgr hnil hat; obtain ⟨g', cap', rfl⟩ := HF.out; have HB1 := Lib.hid (bel_gr (B := w.heap.size) ((Below.refl _ _).alloc (Nat.le_refl _) _) HG.out (by simp) (Nat.le_refl _)); have HH1 := Lib.hid (HH.out.head.keep HB1.out); have d0 := HH1.out.cell (i := 0) (v := (.slice (some ⟨v, 0, none⟩) (r.length + 1) cap)) rfl; have d1 := HH1.out.free 0)
    go_ret2
    refine ⟨rfl, ⟨g', cap', ⟨?_, ?_⟩, .inr ?_⟩, (Mv.of_below HB1.out m v).set (.inl rfl) _ _⟩
    · have := HH1.out.set 0 (.slice (some ⟨g', 0, none⟩) r.length cap')
      simpa using this
    · have hne : m ≠ g' := by
        have h1 := HAT.out
        simp [Value.ownBlock] at h1
        omega
      have := row_blk (w' := w1.setCell ⟨m, 0, none⟩ (.slice (some ⟨g', 0, none⟩) r.length cap')) HW.out (Below.heap_setCell _ _ _ _ (Ne.symm hne))
      simpa using this
    · have h1 := HAT.out
      simp [Value.ownBlock] at h1
      omega

set_option maxHeartbeats 400000 in
theorem ref_Pop (m v cap x : Nat) (r : List Nat) (w : World) (h : RowAt w m v cap (r ++ [x])) (hl : r.length ≤ 1000) :
    Calls Try.prog 18 #[.pointer (some ⟨m, 0, none⟩)] w (RowPost w m v (got x true) r) := by
  obtain ⟨i0, hi, hz0, hz1, hz2⟩ := info_parts u64_info
  have HI := Lib.hid hi
  have HZ0 := Lib.hid hz0
  have HZ1 := Lib.hid hz1
  have HZ2 := Lib.hid hz2
  clear hi hz0 hz1 hz2
  have HH := Lib.hid h
  have HN := Lib.hid h.ne
  have hml := h.head.lt
  have hcap : r.length + 1 ≤ cap := by have := (row_inv h.own).2.choose_spec.2.1; simpa using this
  have c0 := h.head.cell (i := 0) (v := .slice (some ⟨v, 0, none⟩) (r.length + 1) cap) (by simp)
  have c1 : w.cell? ⟨v, r.length, none⟩ = some (.int .u64 (x : Int)) := by have := h.cell (i := r.length) (by simp); simpa [List.getD_eq_getElem?_getD] using this
  have HOE := Lib.hid (own_empty w)
  have hvl := h.lt
  have HPC := Lib.hid (part_cells (r := r) h 0 (fun j hj => ⟨by simp; omega, by simp [List.getD_eq_getElem?_getD, List.getElem?_append_left hj]⟩) (.cells #[] 27))
  clear h
  go_enter Try.func18, Try.ntmps18
  go_wp2_with (at_builtin; refine wpList_append_own_at _ rfl (.tmp 22) (.tmp 29) 22 rfl 0 27 i0 (.int .u64 0) 1 8 Try.underlying22 HI.out HZ0.out HZ1.out HZ2.out rfl (by decide) (.slice (some ⟨w.heap.size, 0, none⟩) 0 0) 0 [] rfl HOE.out ⟨v, 0, none⟩ r.length cap (r.map ncell) rfl (by simp) HPC.out (one_nums r) (by unfold maxLen; omega) (by omega) (Nat.zero_le _) ?_; intro v' w1 hown hgr hnil hat; have HW := Lib.hid hown; have HG := Lib.hid hgr; have HAT := Lib.hid hat; have HF := Lib.hid (row_form hown (fun e => by have := hnil.1 e; simp at this)); clear hown hgr hnil hat; obtain ⟨g', cap', rfl⟩ := HF.out; have HB1 := Lib.hid (bel_gr (B := w.heap.size) ((Below.refl _ _).alloc (Nat.le_refl _) _) HG.out (by simp) (Nat.le_refl _)); have HH1 := Lib.hid (HH.out.head.keep HB1.out); have d0 := HH1.out.cell (i := 0) (v := (.slice (some ⟨v, 0, none⟩) (r.length + 1) cap)) (by simp); have d1 := HH1.out.free 0)
  go_ret2
  refine ⟨rfl, ⟨g', cap', ⟨?_, ?_⟩, .inr ?_⟩, (Mv.of_below HB1.out m v).set (.inl rfl) _ _⟩
  · have := HH1.out.set 0 (.slice (some ⟨g', 0, none⟩) r.length cap')
    simpa using this
  · have hne : m ≠ g' := by
      have h1 := HAT.out
      simp [Value.ownBlock] at h1
      omega
    have := row_blk (w' := w1.setCell ⟨m, 0, none⟩ (.slice (some ⟨g', 0, none⟩) r.length cap')) HW.out (Below.heap_setCell _ _ _ _ (Ne.symm hne))
    simpa using this
  · have h1 := HAT.out
    simp [Value.ownBlock] at h1
    omega

theorem ref_Shift_none (m v cap : Nat) (w : World) (h : RowAt w m v cap []) :
    Calls Try.prog 17 #[.pointer (some ⟨m, 0, none⟩)] w fun e w' => e = got 0 false ∧ w = w' := by
  have c0 := h.head.cell (i := 0) (v := .slice (some ⟨v, 0, none⟩) 0 cap) rfl
  clear h
  go_enter Try.func17, Try.ntmps17
  go_wp2_with fail
  go_ret2
  exact ⟨rfl, rfl⟩
theorem ref_Pop_none (m v cap : Nat) (w : World) (h : RowAt w m v cap []) :
    Calls Try.prog 18 #[.pointer (some ⟨m, 0, none⟩)] w fun e w' => e = got 0 false ∧ w = w' := by
  have c0 := h.head.cell (i := 0) (v := .slice (some ⟨v, 0, none⟩) 0 cap) rfl
  clear h
  go_enter Try.func18, Try.ntmps18
  go_wp2_with fail
  go_ret2
  exact ⟨rfl, rfl⟩
theorem ref_At (m v cap i : Nat) (l : List Nat) (w : World) (h : RowAt w m v cap l) (hi : i < l.length) (hl : l.length ≤ 1000) :
    Calls Try.prog 19 #[.pointer (some ⟨m, 0, none⟩), .int .i64 (i : Int)] w fun e w' => e = got (l.getD i 0) true ∧ w = w' := by
  have c0 := h.head.cell (i := 0) (v := .slice (some ⟨v, 0, none⟩) l.length cap) rfl
  have c1 := h.cell hi
  have d0 : decide ((i : Int) < 0) = false := by simp
  have d1 : decide (l.length ≤ i) = false := by simp; omega
  clear h
  generalize l.getD i 0 = x at *
  go_enter Try.func19, Try.ntmps19
  go_wp2_with fail
  go_ret2
  exact ⟨rfl, rfl⟩
theorem ref_At_out (m v cap : Nat) (i : Int) (l : List Nat) (w : World) (h : RowAt w m v cap l) (hi : i < 0 ∨ (l.length : Int) ≤ i) :
    Calls Try.prog 19 #[.pointer (some ⟨m, 0, none⟩), .int .i64 i] w fun e w' => e = got 0 false ∧ w = w' := by
  have c0 := h.head.cell (i := 0) (v := .slice (some ⟨v, 0, none⟩) l.length cap) rfl
  clear h
  by_cases c : i < 0
  · have d0 : decide (i < 0) = true := by simpa using c
    go_enter Try.func19, Try.ntmps19
    go_wp2_with fail
    go_ret2
    exact ⟨rfl, rfl⟩
  · have d0 : decide (i < 0) = false := by simpa using c
    have hj : (l.length : Int) ≤ i := by omega
    have d1 : decide ((l.length : Int) ≤ i) = true := by simpa using hj
    clear hi
    go_enter Try.func19, Try.ntmps19
    go_wp2_with fail
    go_ret2
    exact ⟨rfl, rfl⟩

set_option maxHeartbeats 400000 in
theorem ref_Same (va vb : Option Addr) (ca cb : Nat) (l : List Nat) (w : World) (ha : Nums w va l) (hb : Nums w vb l) (hl : l.length ≤ 100000) :
    Calls Try.prog 9 #[.slice va l.length ca, .slice vb l.length cb] w fun e w' => e = .returned (.bool true) ∧ Drawn w w' := by
  have HA := Lib.hid ha
  have HB := Lib.hid hb
  clear ha hb
  go_enter Try.func9, Try.ntmps9
  go_wp2_with fail
  go_loopw [5] (fun i wr => ∃ k : Nat, i = .int .i64 (k : Int) ∧ k ≤ l.length ∧ Hid (Drawn w wr)) (fun i _ => l.length - (intOf i).toNat)
  case atStart => exact ⟨0, rfl, Nat.zero_le _, Lib.hid (Drawn.refl _)⟩
  case round =>
    obtain ⟨k, rfl, hk, HD⟩ := hrel
    by_cases hlt : k < l.length
    · obtain ⟨b1, o1, rfl, _, h1⟩ := HA.out (by omega)
      obtain ⟨b2, o2, rfl, _, h2⟩ := HB.out (by omega)
      have c1 : wr.cell? ⟨b1, o1 + k, none⟩ = some (.int .u64 ((l.getD k 0 : Nat) : Int)) := (HD.out.cell _).trans (h1 k hlt)
      have c2 : wr.cell? ⟨b2, o2 + k, none⟩ = some (.int .u64 ((l.getD k 0 : Nat) : Int)) := (HD.out.cell _).trans (h2 k hlt)
      have i0 : (0 : Int) ≤ (k : Int) := by omega
      have i1 : (k : Int) < (l.length : Int) := by omega
      clear h1 h2
      generalize l.getD k 0 = x at *
      go_wp2_with fail
      go_quiet (fail)
      have HD2 : Hid (Drawn w (wr.drewN nq)) := Lib.hid (HD.out.more ⟨nq, rfl⟩)
      generalize wr.drewN nq = w2 at *
      go_wp2_with fail
      go_roundw
      case rel => exact ⟨k + 1, by go_num, by omega, HD2⟩
      case measure => simp [intOf]; omega
    · go_wp2_with fail
      go_ret
      exact ⟨rfl, HD.out⟩
end Go.Proofs.Ytfdekmccmdekkaa
