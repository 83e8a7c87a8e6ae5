/- RingPlays over this translation: the row answers as the document's row does, act by act. -/
import Derived.Test.YtfdekmccmdekkaaAct04
import Derived.Laws.AppendOwnNone
set_option linter.unusedVariables false
namespace Go.Proofs.Ytfdekmccmdekkaa
open Go.RowKit

/-- The acts that came in: what kind, a number, a place. -/
def Acts3 (w : World) (b off : Nat) (l : List (Nat × Nat × Int)) : Prop :=
  ∀ i, i < l.length → w.cell? ⟨b, off + i * 3, none⟩ = some (.int .u8 ((l.getD i (0, 0, 0)).1 : Int)) ∧ w.cell? ⟨b, off + i * 3 + 1, none⟩ = some (.int .u64 ((l.getD i (0, 0, 0)).2.1 : Int)) ∧ w.cell? ⟨b, off + i * 3 + 2, none⟩ = some (.int .i64 (l.getD i (0, 0, 0)).2.2) ∧ (l.getD i (0, 0, 0)).1 ≤ 255

theorem RingPlays_long (v0 v1 : Option Addr) (n0 n1 c0 c1 : Nat) (w : World) (h : 200 < n0 ∨ 200 < n1) (h0 : n0 ≤ 9223372036854775807) (h1 : n1 ≤ 9223372036854775807) :
    Calls Try.prog 3 #[.slice v0 n0 c0, .slice v1 n1 c1] w fun e w' => e = .returned (.bool true) ∧ Below w.heap.size w w' := by
  have HA := Lib.hid (alive04 w)
  by_cases a : 200 < n0
  · have hc : decide (200 < (n0 : Int)) = true := by simp; omega
    go_enter Try.func3, Try.ntmps3
    go_wp2_with (go_at_call 5; refine (HA.out).mono ?_; rintro e w' ⟨rfl, hb⟩)
    go_ret
    exact ⟨rfl, hb⟩
  · have hc : decide (200 < (n0 : Int)) = false := by simp; omega
    have hd : decide (200 < (n1 : Int)) = true := by simp; omega
    go_enter Try.func3, Try.ntmps3
    go_wp2_with (go_at_call 5; refine (HA.out).mono ?_; rintro e w' ⟨rfl, hb⟩)
    go_ret
    exact ⟨rfl, hb⟩

/-- What holds of the two rows at each round's head. -/
def PlayRel (W : World) (b m k : Nat) (wr : World) : Prop :=
  ∃ (s : RS) (g v cap : Nat), RingAt wr b g s ∧ RowAt wr m v cap s.items ∧ g ≠ v ∧ s.ok ∧ s.cnt ≤ 200 + k ∧ W.heap.size ≤ b ∧ W.heap.size ≤ g ∧ W.heap.size ≤ m ∧ W.heap.size ≤ v ∧ Below W.heap.size W wr

theorem RowAt.keep {w w' : World} {m v cap : Nat} {l : List Nat} (h : RowAt w m v cap l) (k : Below w.heap.size w w') : RowAt w' m v cap l := ⟨h.head.keep k, row_blk h.own (k.block v h.lt)⟩
theorem RowAt.drawn {w w' : World} {m v cap : Nat} {l : List Nat} (h : RowAt w m v cap l) (k : Drawn w w') : RowAt w' m v cap l := h.keep (k.below _)

theorem Mv4.bel {W a w : World} {b g m v : Nat} (h : Below W.heap.size W a) (k : Mv4 a w b g m v) (h1 : W.heap.size ≤ b) (h2 : W.heap.size ≤ g) (h3 : W.heap.size ≤ m) (h4 : W.heap.size ≤ v) : Below W.heap.size W w :=
  h.trans ⟨k.os, k.tape, k.output, k.size, fun i hi => k.block i (by have := h.size; omega) (by omega) (by omega) (by omega) (by omega)⟩

/-- One act keeps the relation. -/
theorem PlayRel.next {W w w' : World} {b g m v cap k kd x : Nat} {s : RS} (hw : RowAt w m v cap s.items) (ho : s.ok) (hk : k ≤ 200) (hc : s.cnt ≤ 200 + k) (h1 : W.heap.size ≤ b) (h2 : W.heap.size ≤ g) (h3 : W.heap.size ≤ m) (h4 : W.heap.size ≤ v) (hB : Below W.heap.size W w)
    (h : Both w b g m v (s.step kd x) w') : PlayRel W b m (k + 1) w' := by
  obtain ⟨⟨g', v', cap', q1, q2, q3, q4, q5⟩, q6⟩ := h
  have := hB.size
  exact ⟨s.step kd x, g', v', cap', q1, q2, q3, RS.step_ok ho (by omega) kd x, by have := RS.step_cnt (s := s) kd x; omega, h1, by omega, h3, by omega, Mv4.bel hB q6 h1 h2 h3 h4⟩

theorem RS.new_items (f : List Nat) : (RS.items ⟨f, 0, f.length⟩) = f := by
  apply List.ext_getElem?; intro i
  by_cases c : i < f.length
  · rw [RS.item_at (s := ⟨f, 0, f.length⟩) c]
    simp [RS.get, RS.pos, Nat.mod_eq_of_lt c, List.getD_eq_getElem?_getD, c]
  · rw [List.getElem?_eq_none (by rw [RS.len_items]; show f.length ≤ i; omega), List.getElem?_eq_none (by omega)]
theorem RS.new_ok {f : List Nat} (h : f.length ≤ 100000) : RS.ok ⟨f, 0, f.length⟩ := ⟨Nat.le_refl _, Nat.zero_le _, h⟩
theorem Nums.at_some {w : World} {ad : Addr} {f : List Nat} (h : Nums w (some ad) f) : ∀ j u, (f.map ncell)[j]? = some u → w.cell? (ad.add j) = some u := by
  intro j u hu
  obtain ⟨ad', e, hc⟩ := h.cells (by obtain ⟨hj, _⟩ := map_at hu; simp; omega)
  injection e with e
  subst e
  exact hc j u hu
theorem Nums.none_nil {w : World} {f : List Nat} (h : Nums w none f) : f = [] := by
  rcases f with _ | ⟨x, r⟩
  · rfl
  · obtain ⟨_, _, e, _⟩ := h (by simp)
    cases e

set_option maxHeartbeats 2000000 in
theorem RingPlays_rest (W : World) (v0 v1 : Option Addr) (ca c1 b1 o1 : Nat) (f : List Nat) (l : List (Nat × Nat × Int)) (hf : f.length ≤ 200) (hl : l.length ≤ 200) (h0 : Nums W v0 f) (h1 : Acts3 W b1 o1 l) (hb : 0 < l.length → v1 = some ⟨b1, o1, none⟩ ∧ b1 < W.heap.size) :
    Calls Try.prog 3 #[.slice v0 f.length ca, .slice v1 l.length c1] W fun e w' => e = .returned (.bool true) ∧ Below W.heap.size W w' := by
  have HA := Lib.hid alive04
  have HF := Lib.hid h0
  have HL := Lib.hid h1
  have HB := Lib.hid hb
  have d0 : decide (200 < f.length) = false := by simpa using hf
  have d1 : decide (200 < l.length) = false := by simpa using hl
  clear h0 h1 hb
  obtain ⟨i0, hi, hz0, hz1, hz2⟩ := info_parts u64_info
  have HI := Lib.hid hi
  have HZ0 := Lib.hid hz0
  have HZ1 := Lib.hid hz1
  have HZ2 := Lib.hid hz2
  clear hi hz0 hz1 hz2
  go_enter Try.func3, Try.ntmps3
  go_wp2_with fail
  refine (ring_New v0 ca f W HF.out (by omega)).mono ?_
  rintro e w1 ⟨⟨b, g, rfl, hr, hb, hg⟩, hbel⟩
  have HR := Lib.hid hr
  have HB1 := Lib.hid hbel
  have HF1 := Lib.hid (HF.out.keep hbel)
  clear hr hbel
  have HOE := Lib.hid (own_empty w1)
  have HGL := Lib.hid HR.out.body.lt
  rcases v0 with _ | ad
  · obtain rfl : f = [] := HF.out.none_nil
    have HP0 : Hid (PlayRel W b (w1.heap.size + 1) 0 ((w1.alloc (.cells #[] 27)).alloc (.cells #[.slice (some ⟨w1.heap.size, 0, none⟩) 0 0] 30))) := Lib.hid (by
      refine ⟨⟨[], 0, 0⟩, g, w1.heap.size, 0, (HR.out.alloc _).alloc _, ⟨Blk.new1 _ _ _ _, ?_⟩, by have := HGL.out; omega, RS.new_ok (by simp), by simp, hb, hg, by have := HB1.out.size; omega, by have := HB1.out.size; omega, (HB1.out.alloc HB1.out.size _).alloc (by have := HB1.out.size; simp; omega) _⟩
      exact HOE.out.alloc _)
    go_wp2_with fail
    generalize (w1.alloc (.cells #[] 27)).alloc (.cells #[.slice (some ⟨w1.heap.size, 0, none⟩) 0 0] 30) = w3 at *
    obtain ⟨m, hm⟩ : ∃ m, w1.heap.size + 1 = m := ⟨_, rfl⟩
    simp only [hm] at *
    clear hm HR HOE HB1 HGL
    go_loopw [7] (fun i wr => ∃ k : Nat, i = .int .i64 (k : Int) ∧ k ≤ l.length ∧ PlayRel W b m k wr) (fun i _ => l.length - (intOf i).toNat)
    case atStart => exact ⟨0, rfl, Nat.zero_le _, HP0.out⟩
    case round =>
      obtain ⟨k, rfl, hk, s, g, v, cap, hr, hw, hgv, ho, hc, hbW, hgW, hmW, hvW, hB⟩ := hrel
      have R := Lib.hid hr
      have RW := Lib.hid hw
      have O := Lib.hid ho
      have G := Lib.hid hB
      have HGV := Lib.hid hgv
      clear hr hw ho hB hgv
      by_cases hlt : k < l.length
      · obtain ⟨a0, a1, a2, hkd⟩ := HL.out k hlt
        obtain ⟨rfl, hbl⟩ := HB.out (by omega)
        rw [← G.out.cell (p := ⟨b1, o1 + k * 3, none⟩) hbl] at a0
        rw [← G.out.cell (p := ⟨b1, o1 + k * 3 + 1, none⟩) hbl] at a1
        rw [← G.out.cell (p := ⟨b1, o1 + k * 3 + 2, none⟩) hbl] at a2
        generalize (l.getD k (0, 0, 0)).2.2 = ai at *
        generalize (l.getD k (0, 0, 0)).2.1 = x at *
        generalize (l.getD k (0, 0, 0)).1 = kd at *
        have HC : Hid (Calls Try.prog 7 #[.pointer (some ⟨b, 0, none⟩), .pointer (some ⟨m, 0, none⟩), .agg #[.int .u8 (kd : Int), .int .u64 (x : Int), .int .i64 ai]] wr (ActPost wr b g m v (s.step kd x))) := Lib.hid (act_any b g m v cap kd x ai s wr R.out O.out RW.out HGV.out (by omega) hkd)
        go_wp2_with fail
        refine (HC.out).mono ?_
        rintro e w4 ⟨rfl, hbo⟩
        have HP := Lib.hid (PlayRel.next RW.out O.out (by omega) hc hbW hgW hmW hvW G.out hbo)
        clear hbo HC a0 a1 a2 R RW O G HGV hc hgW hvW hkd
        obtain ⟨s', g', v', cap', hr, hw, hgv, ho, hc, hbW2, hgW, hmW2, hvW, hB⟩ := HP.out
        have R := Lib.hid hr
        have RW := Lib.hid hw
        have O := Lib.hid ho
        have G := Lib.hid hB
        have HGV := Lib.hid hgv
        clear hr hw ho hB hgv HP
        go_wp2_with fail
        refine (ring_All b g' s' w4 R.out O.out).mono ?_
        rintro e w5 ⟨rfl, hbk, hbel⟩
        have R5 := Lib.hid (R.out.keep hbel)
        have RW5 := Lib.hid (RW.out.keep hbel)
        have G5 := Lib.hid (bel_to G.out hbel G.out.size)
        have HN1 := Lib.hid (Nums.of_blk hbk)
        have HN2 := Lib.hid RW5.out.nums
        have HE := Lib.hid (RS.len_items s')
        clear hbk hbel R RW G
        rw [HE.out]
        have c0 : w5.cell? ⟨m, 0, none⟩ = some (.slice (some ⟨v', 0, none⟩) s'.cnt cap') := by have := RW5.out.head.cell (i := 0) (v := .slice (some ⟨v', 0, none⟩) s'.items.length cap') rfl; rw [HE.out] at this; exact this
        have HS : Hid (∀ n, Calls Try.prog 9 #[.slice (some ⟨w4.heap.size, 0, none⟩) s'.cnt s'.cnt, .slice (some ⟨v', 0, none⟩) s'.cnt cap'] (w5.drewN n) fun e w' => e = .returned (.bool true) ∧ ∃ m, w' = (w5.drewN n).drewN m) := Lib.hid (fun n => by have := ref_Same (some ⟨w4.heap.size, 0, none⟩) (some ⟨v', 0, none⟩) s'.cnt cap' s'.items (w5.drewN n) HN1.out HN2.out (by rw [HE.out]; omega); rw [HE.out] at this; exact this)
        have HL2 : Hid (∀ n, Calls Try.prog 10 #[.pointer (some ⟨b, 0, none⟩)] (w5.drewN n) fun e w' => e = .returned (.int .i64 (s'.cnt : Int)) ∧ w' = w5.drewN n) := Lib.hid (fun n => (ring_Len b g' s' (w5.drewN n) (R5.out.drewN n)).mono fun _ _ ⟨p, q⟩ => ⟨p, q.symm⟩)
        go_wp2_with fail
        go_quiet (first | (go_at_call 9; exact Calls.quiet_of (HS.out _)) | (go_at_call 10; exact Calls.quiet_of_same (HL2.out _)))
        have HD : Hid (Drawn w5 (w5.drewN nq)) := Lib.hid ⟨nq, rfl⟩
        generalize w5.drewN nq = w6 at *
        go_wp2_with fail
        go_roundw
        case rel => exact ⟨k + 1, by go_num, by omega, s', g', v', cap', HD.out.ring R5.out, RW5.out.drawn HD.out, HGV.out, O.out, by omega, hbW, hgW, hmW, hvW, G5.out.trans (HD.out.below _)⟩
        case measure => simp [intOf]; omega
      · go_wp2_with fail
        refine (ring_All b g s wr R.out O.out).mono ?_
        rintro e w5 ⟨rfl, hbk, hbel⟩
        have RW5 := Lib.hid (RW.out.keep hbel)
        have G5 := Lib.hid (bel_to G.out hbel G.out.size)
        have HK := Lib.hid hbk
        have HE := Lib.hid (RS.len_items s)
        clear hbk hbel R RW G
        go_wp2_with fail
        refine (HA.out w5).mono ?_
        rintro e w6 ⟨rfl, hb6⟩
        have RW6 := Lib.hid (RW5.out.keep hb6)
        have HN1 := Lib.hid (Nums.of_blk (HK.out.keep hb6))
        have HN2 := Lib.hid RW6.out.nums
        have G6 := Lib.hid (bel_to G5.out hb6 G5.out.size)
        have c0 := RW6.out.head.cell (i := 0) (v := .slice (some ⟨v, 0, none⟩) s.items.length cap) rfl
        clear hb6
        go_wp2_with fail
        refine (ref_Same (some ⟨wr.heap.size, 0, none⟩) (some ⟨v, 0, none⟩) s.items.length cap s.items w6 HN1.out HN2.out (by rw [HE.out]; omega)).mono ?_
        rintro e w7 ⟨rfl, hd⟩
        have HD := Lib.hid hd
        clear hd
        go_wp2_with fail
        go_ret
        exact ⟨rfl, G6.out.trans (HD.out.below _)⟩
  · have HFC := Lib.hid ((HF1.out.keep ((Below.refl _ _).alloc (Nat.le_refl _) (.cells #[] 27))).at_some)
    go_wp2_with (at_builtin; refine wpList_append_own_at _ rfl (.tmp 22) (.tmp 23) 22 rfl 0 27 i0 (.int .u64 0) 1 8 Try.underlying22 HI.out HZ0.out HZ1.out HZ2.out rfl (by decide) (.slice (some ⟨w1.heap.size, 0, none⟩) 0 0) 0 [] rfl HOE.out ad f.length ca (f.map ncell) rfl (by simp) HFC.out (one_nums f) (by unfold maxLen; omega) (by omega) (Nat.zero_le _) ?_; intro v' w2 hown hgr hnil hat; simp only [Nat.zero_add, List.nil_append] at hown; have HW := Lib.hid hown; have HG := Lib.hid hgr; have HAT := Lib.hid hat; have HFm := Lib.hid (row_form hown (fun e => by have := hnil.1 e; simp at this)); clear hown hgr hnil hat; obtain ⟨g', cap', rfl⟩ := HFm.out)
    have HP0 : Hid (PlayRel W b w2.heap.size 0 (w2.alloc (.cells #[.slice (some ⟨g', 0, none⟩) f.length cap'] 30))) := Lib.hid (by
      have hb2 : Below w1.heap.size w1 w2 := bel_gr ((Below.refl _ _).alloc (Nat.le_refl _) _) HG.out (by simp) (Nat.le_refl _)
      have hq : g' = w1.heap.size ∨ g' = w1.heap.size + 1 := by have h1 := HAT.out; simp [Value.ownBlock] at h1; omega
      have := HB1.out.size
      have := HGL.out
      have := hb2.size
      have B2 : Below W.heap.size W w2 := bel_to HB1.out hb2 HB1.out.size
      have hw : RowAt (w2.alloc (.cells #[.slice (some ⟨g', 0, none⟩) f.length cap'] 30)) w2.heap.size g' cap' f := ⟨Blk.new _ _ _, by have := HW.out.alloc (.cells #[.slice (some ⟨g', 0, none⟩) f.length cap'] 30); simpa using this⟩
      refine ⟨⟨f, 0, f.length⟩, g, g', cap', (HR.out.keep hb2).alloc _, ?_, by omega, RS.new_ok (by omega), hf, hb, hg, by omega, by omega, B2.alloc (by omega) _⟩
      rw [RS.new_items]
      exact hw)
    generalize w2.alloc (.cells #[.slice (some ⟨g', 0, none⟩) f.length cap'] 30) = w3 at *
    obtain ⟨m, hm⟩ : ∃ m, w2.heap.size = m := ⟨_, rfl⟩
    simp only [hm] at *
    clear hm HR HOE HB1 HGL HW HG HAT HFm HFC
    go_loopw [7] (fun i wr => ∃ k : Nat, i = .int .i64 (k : Int) ∧ k ≤ l.length ∧ PlayRel W b m k wr) (fun i _ => l.length - (intOf i).toNat)
    case atStart => exact ⟨0, rfl, Nat.zero_le _, HP0.out⟩
    case round =>
      obtain ⟨k, rfl, hk, s, g, v, cap, hr, hw, hgv, ho, hc, hbW, hgW, hmW, hvW, hB⟩ := hrel
      have R := Lib.hid hr
      have RW := Lib.hid hw
      have O := Lib.hid ho
      have G := Lib.hid hB
      have HGV := Lib.hid hgv
      clear hr hw ho hB hgv
      by_cases hlt : k < l.length
      · obtain ⟨a0, a1, a2, hkd⟩ := HL.out k hlt
        obtain ⟨rfl, hbl⟩ := HB.out (by omega)
        rw [← G.out.cell (p := ⟨b1, o1 + k * 3, none⟩) hbl] at a0
        rw [← G.out.cell (p := ⟨b1, o1 + k * 3 + 1, none⟩) hbl] at a1
        rw [← G.out.cell (p := ⟨b1, o1 + k * 3 + 2, none⟩) hbl] at a2
        generalize (l.getD k (0, 0, 0)).2.2 = ai at *
        generalize (l.getD k (0, 0, 0)).2.1 = x at *
        generalize (l.getD k (0, 0, 0)).1 = kd at *
        have HC : Hid (Calls Try.prog 7 #[.pointer (some ⟨b, 0, none⟩), .pointer (some ⟨m, 0, none⟩), .agg #[.int .u8 (kd : Int), .int .u64 (x : Int), .int .i64 ai]] wr (ActPost wr b g m v (s.step kd x))) := Lib.hid (act_any b g m v cap kd x ai s wr R.out O.out RW.out HGV.out (by omega) hkd)
        go_wp2_with fail
        refine (HC.out).mono ?_
        rintro e w4 ⟨rfl, hbo⟩
        have HP := Lib.hid (PlayRel.next RW.out O.out (by omega) hc hbW hgW hmW hvW G.out hbo)
        clear hbo HC a0 a1 a2 R RW O G HGV hc hgW hvW hkd
        obtain ⟨s', g', v', cap', hr, hw, hgv, ho, hc, hbW2, hgW, hmW2, hvW, hB⟩ := HP.out
        have R := Lib.hid hr
        have RW := Lib.hid hw
        have O := Lib.hid ho
        have G := Lib.hid hB
        have HGV := Lib.hid hgv
        clear hr hw ho hB hgv HP
        go_wp2_with fail
        refine (ring_All b g' s' w4 R.out O.out).mono ?_
        rintro e w5 ⟨rfl, hbk, hbel⟩
        have R5 := Lib.hid (R.out.keep hbel)
        have RW5 := Lib.hid (RW.out.keep hbel)
        have G5 := Lib.hid (bel_to G.out hbel G.out.size)
        have HN1 := Lib.hid (Nums.of_blk hbk)
        have HN2 := Lib.hid RW5.out.nums
        have HE := Lib.hid (RS.len_items s')
        clear hbk hbel R RW G
        rw [HE.out]
        have c0 : w5.cell? ⟨m, 0, none⟩ = some (.slice (some ⟨v', 0, none⟩) s'.cnt cap') := by have := RW5.out.head.cell (i := 0) (v := .slice (some ⟨v', 0, none⟩) s'.items.length cap') rfl; rw [HE.out] at this; exact this
        have HS : Hid (∀ n, Calls Try.prog 9 #[.slice (some ⟨w4.heap.size, 0, none⟩) s'.cnt s'.cnt, .slice (some ⟨v', 0, none⟩) s'.cnt cap'] (w5.drewN n) fun e w' => e = .returned (.bool true) ∧ ∃ m, w' = (w5.drewN n).drewN m) := Lib.hid (fun n => by have := ref_Same (some ⟨w4.heap.size, 0, none⟩) (some ⟨v', 0, none⟩) s'.cnt cap' s'.items (w5.drewN n) HN1.out HN2.out (by rw [HE.out]; omega); rw [HE.out] at this; exact this)
        have HL2 : Hid (∀ n, Calls Try.prog 10 #[.pointer (some ⟨b, 0, none⟩)] (w5.drewN n) fun e w' => e = .returned (.int .i64 (s'.cnt : Int)) ∧ w' = w5.drewN n) := Lib.hid (fun n => (ring_Len b g' s' (w5.drewN n) (R5.out.drewN n)).mono fun _ _ ⟨p, q⟩ => ⟨p, q.symm⟩)
        go_wp2_with fail
        go_quiet (first | (go_at_call 9; exact Calls.quiet_of (HS.out _)) | (go_at_call 10; exact Calls.quiet_of_same (HL2.out _)))
        have HD : Hid (Drawn w5 (w5.drewN nq)) := Lib.hid ⟨nq, rfl⟩
        generalize w5.drewN nq = w6 at *
        go_wp2_with fail
        go_roundw
        case rel => exact ⟨k + 1, by go_num, by omega, s', g', v', cap', HD.out.ring R5.out, RW5.out.drawn HD.out, HGV.out, O.out, by omega, hbW, hgW, hmW, hvW, G5.out.trans (HD.out.below _)⟩
        case measure => simp [intOf]; omega
      · go_wp2_with fail
        refine (ring_All b g s wr R.out O.out).mono ?_
        rintro e w5 ⟨rfl, hbk, hbel⟩
        have RW5 := Lib.hid (RW.out.keep hbel)
        have G5 := Lib.hid (bel_to G.out hbel G.out.size)
        have HK := Lib.hid hbk
        have HE := Lib.hid (RS.len_items s)
        clear hbk hbel R RW G
        go_wp2_with fail
        refine (HA.out w5).mono ?_
        rintro e w6 ⟨rfl, hb6⟩
        have RW6 := Lib.hid (RW5.out.keep hb6)
        have HN1 := Lib.hid (Nums.of_blk (HK.out.keep hb6))
        have HN2 := Lib.hid RW6.out.nums
        have G6 := Lib.hid (bel_to G5.out hb6 G5.out.size)
        have c0 := RW6.out.head.cell (i := 0) (v := .slice (some ⟨v, 0, none⟩) s.items.length cap) rfl
        clear hb6
        go_wp2_with fail
        refine (ref_Same (some ⟨wr.heap.size, 0, none⟩) (some ⟨v, 0, none⟩) s.items.length cap s.items w6 HN1.out HN2.out (by rw [HE.out]; omega)).mono ?_
        rintro e w7 ⟨rfl, hd⟩
        have HD := Lib.hid hd
        clear hd
        go_wp2_with fail
        go_ret
        exact ⟨rfl, G6.out.trans (HD.out.below _)⟩
end Go.Proofs.Ytfdekmccmdekkaa
