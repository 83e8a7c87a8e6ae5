/- FiltFew over this translation: the first loop. -/
import Derived.Test.YthhiljaceobnmaaIn05
import Derived.BigRegion
set_option linter.unusedVariables false
namespace Go.Proofs.Ythhiljaceobnmaa
open Go.RowKit Pl

theorem FiltFew_long (win : Nat) (s : Bool) (v : Option Addr) (n c : Nat) (w : World) (h : 150 < n) (hm : n ≤ 9223372036854775807) :
    Calls Try.prog 3 #[.int .u64 (win : Int), .bool s, .slice v n c] w fun e w' => e = .returned (.bool true) ∧ Below w.heap.size w w' := by
  have HA := Lib.hid (alive05 w)
  have hc : decide (150 < (n : Int)) = true := by simp; omega
  go_enter Try.func3, Try.ntmps3
  go_wp2_with (go_at_call 5; refine (HA.out).mono ?_; rintro e w' ⟨rfl, hb⟩)
  go_ret
  exact ⟨rfl, hb⟩

/-- What holds at the head of each round of the first loop: m more readings were put into the filter than lie in the row. -/
def FewRel (W : World) (a win : Nat) (s : Bool) (v : Value) (more : List Rd) (k : Nat) (wr : World) : Prop :=
  ∃ (b g : Nat) (f : FS) (A : List Rd), FlAt wr a b g f ∧ W.heap.size ≤ a ∧ W.heap.size ≤ b ∧ W.heap.size ≤ g ∧ Below W.heap.size W wr ∧ RL wr W.heap.size v A ∧ Inv f (A ++ more) ∧ f.ok ∧ f.l.length ≤ k ∧ A.length ≤ k ∧ f.win = win ∧ f.least = s

/-- Between: the reading r was put into the filter, not yet into the row. -/
def FewMid (W : World) (a win : Nat) (s : Bool) (v : Value) (r : Rd) (k : Nat) (wr : World) : Prop :=
  ∃ (b g : Nat) (f : FS) (A : List Rd), FlAt wr a b g f ∧ W.heap.size ≤ a ∧ W.heap.size ≤ b ∧ W.heap.size ≤ g ∧ Below W.heap.size W wr ∧ RL wr W.heap.size v A ∧ Inv f (A ++ [r]) ∧ f.ok ∧ f.l.length ≤ k ∧ A.length < k ∧ f.win = win ∧ f.least = s

theorem few_To {W wr : World} {a win k t : Nat} {s : Bool} {v : Value} (h : FewRel W a win s v [] k wr) (ht : t ≤ 18446744073709551615) (hk : k ≤ 900) :
    Calls Try.prog 7 #[.pointer (some ⟨a, 0, none⟩), .int .u64 (t : Int)] wr fun e w' => (∃ x : Int, e = .returned (.int .i64 x)) ∧ FewRel W a win s v [] (k + 1) w' := by
  obtain ⟨b, g, f, A, h1, h2, h3, h4, h5, h6, h7, h8, h9, h10, h11, h12⟩ := h
  refine (fl_To a b g t f wr h1 h8 ht).mono fun e w' p => ⟨⟨_, p.e⟩, ?_⟩
  obtain ⟨g', q1, q2⟩ := p.at_
  have := h5.size
  have hl := FS.to_len f t
  exact ⟨b, g', f.to t, A, q1, h2, h3, by omega, bel_fp h5 p h5.size h2 h3 h4, h6.fr p.fr (h6.far h1), h7.to t, FS.to_ok h8 ht, by omega, by omega, by rw [FS.to_win]; exact h11, by rw [FS.to_least]; exact h12⟩
theorem few_Put {W wr : World} {a win k t x : Nat} {s : Bool} {v : Value} (h : FewRel W a win s v [] k wr) (ht : t ≤ 18446744073709551615) (hk : k ≤ 900) :
    (Calls Try.prog 8 #[.pointer (some ⟨a, 0, none⟩), .int .u64 (t : Int), .int .u64 (x : Int)] wr fun e w' => e = .returned (.int .i64 2) ∧ FewRel W a win s v [] (k + 1) w') ∨
    (Calls Try.prog 8 #[.pointer (some ⟨a, 0, none⟩), .int .u64 (t : Int), .int .u64 (x : Int)] wr fun e w' => e = .returned (.int .i64 0) ∧ FewMid W a win s v ⟨t, x⟩ (k + 1) w') := by
  obtain ⟨b, g, f, A, h1, h2, h3, h4, h5, h6, h7, h8, h9, h10, h11, h12⟩ := h
  have hp := fl_Put a b g t x f wr h1 h8 ht
  have := h5.size
  have hl := FS.put_len f t x
  rw [List.append_nil] at h7
  rcases FS.err_to f t with ⟨e1, c⟩ | ⟨e1, c⟩
  · left
    refine hp.mono fun e w' p => ?_
    obtain ⟨g', q1, q2⟩ := p.at_
    have he := p.e
    rw [e1] at he
    have e2 : f.put t x = f := if_pos c
    rw [e2] at q1
    exact ⟨he, b, g', f, A, q1, h2, h3, by omega, bel_fp h5 p h5.size h2 h3 h4, h6.fr p.fr (h6.far h1), by rw [List.append_nil]; exact h7, h8, by omega, by omega, h11, h12⟩
  · right
    refine hp.mono fun e w' p => ?_
    obtain ⟨g', q1, q2⟩ := p.at_
    have he := p.e
    rw [e1] at he
    exact ⟨he, b, g', f.put t x, A, q1, h2, h3, by omega, bel_fp h5 p h5.size h2 h3 h4, h6.fr p.fr (h6.far h1), h7.put t x ht c, FS.put_ok h8 ht (by omega), by omega, by omega, by rw [FS.put_win]; exact h11, by rw [FS.put_least]; exact h12⟩

theorem rd_one (r : Rd) : ∀ u ∈ Itm.cs r, u.oneCell' = true := Itm.one r

/-- What the second loop finds. -/
structure FewEnd (W : World) (a win : Nat) (s : Bool) (v : Value) (wr : World) (b g : Nat) (f : FS) (A : List Rd) : Prop where
  fl : FlAt wr a b g f
  bel : Below W.heap.size W wr
  row : RL wr W.heap.size v A
  inv : Inv f A
  ok : f.ok
  n : A.length ≤ 150
  win : f.win = win
  least : f.least = s

/-- It counts, as the law asks. -/
def cntB (f : FS) (r : Rd) : Bool := !decide (f.win < f.t - r.t)
def isB (f : FS) (r : Rd) : Bool := cntB f r && (decide (r.t = f.best.t) && decide (r.x = f.best.x))
theorem cntB_eq {f : FS} {r : Rd} (h : r.t ≤ f.t) (ho : f.ok) : cntB f r = cnts f.win f.t r := by
  have := ho.t
  have := ho.win
  unfold cntB cnts addS
  by_cases c : f.win < f.t - r.t
  · simp [c]; omega
  · simp [c]; omega
theorem any_more (p : Rd → Bool) (A : List Rd) {k : Nat} (h : k < A.length) : (A.take (k + 1)).any p = ((A.take k).any p || p (A.getD k Itm.z)) := by
  rw [List.take_succ_eq_append_getElem h, List.any_append]
  simp [List.getD_eq_getElem?_getD, h]
theorem few_fin {f : FS} {A : List Rd} (h : Inv f A) (ho : f.ok) : A.any (cntB f) = f.some ∧ A.any (isB f) = f.some ∧ (f.some = false → f.best = ⟨0, 0⟩) := by
  have hc : ∀ a ∈ A, cntB f a = cnts f.win f.t a := fun a ha => cntB_eq (h.past a ha) ho
  rcases hs : f.some
  · obtain ⟨h1, h2⟩ := h.none hs
    have hn : A.any (cntB f) = false := by
      rw [List.any_eq_false]
      intro a ha hb
      have hm : a ∈ cting f A := List.mem_filter.2 ⟨ha, by rw [← hc a ha]; exact hb⟩
      rw [h1] at hm; simp at hm
    refine ⟨hn, ?_, fun _ => h2⟩
    rw [List.any_eq_false] at hn ⊢
    intro a ha hb
    exact hn a ha (by unfold isB at hb; simp at hb; exact hb.1)
  · obtain ⟨h1, h2⟩ := List.mem_filter.1 (h.best hs).mem
    refine ⟨?_, ?_, fun e => by cases e⟩
    · rw [List.any_eq_true]; exact ⟨_, h1, by rw [hc _ h1]; exact h2⟩
    · rw [List.any_eq_true]; exact ⟨_, h1, by unfold isB; rw [hc _ h1, h2]; simp⟩
theorem few_good {f : FS} {A : List Rd} (h : Inv f A) (ho : f.ok) {a : Rd} (ha : a ∈ A) (hc : cntB f a = true) : bt f.least f.best a = true := by
  have hcc : cnts f.win f.t a = true := by rw [← cntB_eq (h.past a ha) ho]; exact hc
  exact (h.best (h.some_iff.2 ⟨a, ha, hcc⟩)).good a (List.mem_filter.2 ⟨ha, hcc⟩)

/-- One reading more lies in the row. -/
theorem few_more {W w w1 : World} {a win k t x g0 cap : Nat} {s : Bool} {v : Value} {A : List Rd} {b g : Nat} {f : FS}
    (h1 : FlAt w a b g f) (h2 : W.heap.size ≤ a) (h3 : W.heap.size ≤ b) (h4 : W.heap.size ≤ g) (h5 : Below W.heap.size W w) (h6 : RL w W.heap.size v A) (h7 : Inv f (A ++ [⟨t, x⟩])) (h8 : f.ok) (h9 : f.l.length ≤ k) (h10 : A.length < k) (h11 : f.win = win) (h12 : f.least = s)
    (ho : w1.ownsRow W.heap.size 34 2 (.slice (some ⟨g0, 0, none⟩) (A.length + 1) cap) (A.length + 1) (A.flatMap (Itm.cs (α := Rd)) ++ [.int .u64 (t : Int), .int .u64 (x : Int)])) (o : Obj) (hg : (w.drew.alloc o).grownBy w1 v.ownBlock) :
    FewRel W a win s (.slice (some ⟨g0, 0, none⟩) (A.length + 1) cap) [] k w1 := by
  have hB : Below W.heap.size W (w.drew.alloc o) := (h5.trans ((Drawn.drew w).below _)).alloc h5.size _
  have hf : FlAt (w.drew.alloc o) a b g f := (h1.keep ((Drawn.drew w).below _)).keep ((Below.refl _ _).alloc (Nat.le_refl _) _)
  have hr : RL (w.drew.alloc o) W.heap.size v A := (h6.keep ((Drawn.drew w).below _)).keep ((Below.refl _ _).alloc (Nat.le_refl _) _)
  have hne : ∀ c, c ∈ [a, b, g] → some c ≠ v.ownBlock := fun c hc e => hr.far hf c e.symm hc
  have hf1 : FlAt w1 a b g f := by
    have k1 := hf.head.grown hg (hne a (by simp))
    obtain ⟨q, q1, q2, q3⟩ := hf.row
    exact ⟨k1, q, q1, q2, ⟨q3.head.grown hg (hne b (by simp)), q3.body.grown hg (hne g (by simp))⟩⟩
  refine ⟨b, g, f, A ++ [⟨t, x⟩], hf1, h2, h3, h4, hB.grown hg hB.size (fun c e => ?_), RL.mk ⟨t, x⟩ rfl ho, by rw [List.append_nil]; exact h7, h8, h9, by simp; omega, h11, h12⟩
  rcases hr.2 with ⟨rfl, _⟩ | ⟨g1, c1, rfl, _⟩
  · simp [Value.ownBlock] at e
  · simp [Value.ownBlock] at e
    subst e
    obtain ⟨cs, _, k⟩ := RL.blk hr
    exact k

set_option maxHeartbeats 2000000 in
set_option maxRecDepth 100000 in
theorem FiltFew_rest (W : World) (win : Nat) (s : Bool) (v1 : Option Addr) (c1 b1 o1 : Nat) (l : List (Bool × Nat × Nat)) (hl : l.length ≤ 150) (hw : win ≤ 18446744073709551615) (h1 : Acts5 W b1 o1 l) (hb : 0 < l.length → v1 = some ⟨b1, o1, none⟩ ∧ b1 < W.heap.size) :
    Calls Try.prog 3 #[.int .u64 (win : Int), .bool s, .slice v1 l.length c1] W fun e w' => e = .returned (.bool true) ∧ Below W.heap.size W w' := by
  have HA := Lib.hid alive05
  have HL := Lib.hid h1
  have HB := Lib.hid hb
  have d1 : decide (150 < l.length) = false := by simpa using hl
  clear h1 hb
  obtain ⟨i0, hi, hz0, hz1, hz2⟩ := info_parts re_info
  have HI := Lib.hid hi
  have HZ0 := Lib.hid hz0
  have HZ1 := Lib.hid hz1
  have HZ2 := Lib.hid hz2
  clear hi hz0 hz1 hz2
  go_enter Try.func3, Try.ntmps3
  go_wp2_with fail
  refine (law_of win s W).mono ?_
  rintro e w1 ⟨⟨a, b, g, rfl, hr, ha, hb, hg⟩, hbel⟩
  have R0 : Hid (FewRel W a win s (.slice none 0 0) [] 0 w1) := Lib.hid ⟨b, g, _, [], hr, ha, hb, hg, hbel, RL.nil _ _, Inv.new _ _, ⟨hw, by simp, by simp, by simp⟩, by simp, by simp, rfl, rfl⟩
  clear hr hb hg hbel
  go_wp2_with fail
  go_loopw [8, 9] (fun v i wr => ∃ k : Nat, i = .int .i64 (k : Int) ∧ k ≤ l.length ∧ FewRel W a win s v [] k wr) (fun _ i _ => l.length - (intOf i).toNat)
  case atStart => exact ⟨0, rfl, Nat.zero_le _, R0.out⟩
  case round =>
    obtain ⟨k, rfl, hk, hrel⟩ := hrel
    have HR := Lib.hid hrel
    have HG : Hid (Below W.heap.size W wr) := Lib.hid (by obtain ⟨_, _, _, _, _, _, _, _, k, _⟩ := hrel; exact k)
    clear hrel R0
    by_cases hlt : k < l.length
    · obtain ⟨a0, a1, a2, hbt, hbx⟩ := HL.out k hlt
      obtain ⟨rfl, hbl⟩ := HB.out (by omega)
      have A1 := Lib.hid a1
      have A2 := Lib.hid a2
      rw [← HG.out.cell (p := ⟨b1, o1 + k * 3, none⟩) hbl] at a0
      rw [← HG.out.cell (p := ⟨b1, o1 + k * 3 + 1, none⟩) hbl] at a1
      rw [← HG.out.cell (p := ⟨b1, o1 + k * 3 + 2, none⟩) hbl] at a2
      generalize (l.getD k (false, 0, 0)).2.2 = x at *
      generalize (l.getD k (false, 0, 0)).2.1 = t at *
      generalize (l.getD k (false, 0, 0)).1 = p at *
      rcases p
      · have HC := Lib.hid (few_To (t := t) HR.out hbt (by omega))
        go_wp2_with fail
        refine (HC.out).mono ?_
        rintro e w4 ⟨⟨y, rfl⟩, hrel⟩
        have HR4 := Lib.hid hrel
        clear hrel HC a0 a1 a2 A1 A2
        go_wp2_with fail
        go_roundw
        case rel => exact ⟨k + 1, by go_num, by omega, HR4.out⟩
        case measure => simp [intOf]; omega
      · have j0 : (0 : Int) ≤ (k : Int) := by omega
        have j1 : (k : Int) < (l.length : Int) := by omega
        have HRd : Hid (FewRel W a win s _ [] k wr.drew) := Lib.hid (by obtain ⟨b, g, f, A, h1, h2, h3, h4, h5, h6, hh⟩ := HR.out; exact ⟨b, g, f, A, h1.keep ((Drawn.drew _).below _), h2, h3, h4, h5.trans ((Drawn.drew _).below _), h6.keep ((Drawn.drew _).below _), hh⟩)
        have q1 : wr.drew.cell? ⟨b1, o1 + k * 3 + 1, none⟩ = some (.int .u64 (t : Int)) := a1
        have q2 : wr.drew.cell? ⟨b1, o1 + k * 3 + 2, none⟩ = some (.int .u64 (x : Int)) := a2
        rcases few_Put (t := t) (x := x) HRd.out hbt (by omega) with hc | hc
        · have HC := Lib.hid hc
          clear hc
          go_wp2_with fail
          go_region_held3 (fun w' => w'.cell? ⟨b1, o1 + k * 3 + 1, none⟩ = some (.int .u64 (t : Int)) ∧ w'.cell? ⟨b1, o1 + k * 3 + 2, none⟩ = some (.int .u64 (x : Int)))
            (first | exact ⟨q1, q2⟩ | exact ⟨b2, b3⟩)
            (first | (go_at_call 8; refine (HC.out).mono ?_; rintro e w4 ⟨rfl, hrel⟩; have HR4 := Lib.hid hrel; clear hrel; have HG4 : Hid (Below W.heap.size W w4) := Lib.hid (by obtain ⟨_, _, _, _, _, _, _, _, k, _⟩ := HR4.out; exact k); have b2 := (HG4.out.cell (p := ⟨b1, o1 + k * 3 + 1, none⟩) hbl).trans A1.out; have b3 := (HG4.out.cell (p := ⟨b1, o1 + k * 3 + 2, none⟩) hbl).trans A2.out))
          go_wp2_with fail
          go_roundw
          case rel => exact ⟨k + 1, by go_num, by omega, HR4.out⟩
          case measure => simp [intOf]; omega
        · have HC := Lib.hid hc
          clear hc
          go_wp2_with fail
          go_region_held3 (fun w' => w'.cell? ⟨b1, o1 + k * 3 + 1, none⟩ = some (.int .u64 (t : Int)) ∧ w'.cell? ⟨b1, o1 + k * 3 + 2, none⟩ = some (.int .u64 (x : Int)))
            (first | exact ⟨q1, q2⟩ | exact ⟨b2, b3⟩)
            (first | (go_at_call 8; refine (HC.out).mono ?_; rintro e w4 ⟨rfl, hrel⟩; have HR4 := Lib.hid hrel; clear hrel; have HG4 : Hid (Below W.heap.size W w4) := Lib.hid (by obtain ⟨_, _, _, _, _, _, _, _, k, _⟩ := HR4.out; exact k); have b2 := (HG4.out.cell (p := ⟨b1, o1 + k * 3 + 1, none⟩) hbl).trans A1.out; have b3 := (HG4.out.cell (p := ⟨b1, o1 + k * 3 + 2, none⟩) hbl).trans A2.out))
          go_wp2_with fail
          clear HC q1 q2
          obtain ⟨b, g, f, A, m1, m2, m3, m4, m5, m6, m7, m8, m9, m10, m11, m12⟩ := HR4.out
          have M1 := Lib.hid m1
          have M5 := Lib.hid m5
          have M6 := Lib.hid m6
          have M7 := Lib.hid m7
          have M8 := Lib.hid m8
          have q1 : w4.drew.cell? ⟨b1, o1 + k * 3 + 1, none⟩ = some (.int .u64 (t : Int)) := b2
          have q2 : w4.drew.cell? ⟨b1, o1 + k * 3 + 2, none⟩ = some (.int .u64 (x : Int)) := b3
          have HOw := Lib.hid (((m6.keep ((Drawn.drew w4).below _)).keep ((Below.refl _ _).alloc (Nat.le_refl _) (.cells #[.int .u64 (t : Int), .int .u64 (x : Int)] 34))).own)
          have HNw := Lib.hid (Blk.new w4.drew 34 #[.int .u64 (t : Int), .int .u64 (x : Int)])
          have HNe : Hid (some b1 ≠ u8.ownBlock) := Lib.hid (by
            intro e
            rcases m6.2 with ⟨rfl, _⟩ | ⟨g1, c1, rfl, _⟩
            · simp [Value.ownBlock] at e
            · simp [Value.ownBlock] at e
              subst e
              obtain ⟨cs, _, k⟩ := RL.blk m6
              omega)
          clear m1 m5 m6 m7 m8 b2 b3
          go_region_held3 (fun w' => w'.cell? ⟨b1, o1 + k * 3 + 1, none⟩ = some (.int .u64 (t : Int)) ∧ w'.cell? ⟨b1, o1 + k * 3 + 2, none⟩ = some (.int .u64 (x : Int)))
            (first | exact ⟨q1, q2⟩ | exact ⟨cell_al q1 _, cell_al q2 _⟩ | exact ⟨b2, b3⟩)
            ((refine step_append_lies _ (by rfl) _ _ _ (by rfl) W.heap.size 34 i0 (.agg #[.int .u64 0, .int .u64 0]) 2 16 Try.underlying27 HI.out HZ0.out HZ1.out HZ2.out rfl (by decide) _ A.length (A.flatMap (Itm.cs (α := Rd))) (by rfl) HOw.out ⟨w4.heap.size, 0, none⟩ 1 1 [.int .u64 (t : Int), .int .u64 (x : Int)] (by rfl) (by rfl) (World.news_of_block HNw.out) (rd_one ⟨t, x⟩) (by decide) (by unfold maxLen; omega) (by omega) (by have := M5.out.size; simp; omega) (w4.heap.size + 1) (by simp) ?_; intro g0 cap w5 hown hgrow hat hltg; have HOn := Lib.hid hown; have HGr := Lib.hid hgrow; clear hown hgrow hat; have b2 := (HGr.out.cell_far ⟨b1, o1 + k * 3 + 1, none⟩ (World.block_lt_of_cell? _ _ (cell_al q1 _)) HNe.out).trans (cell_al q1 _); have b3 := (HGr.out.cell_far ⟨b1, o1 + k * 3 + 2, none⟩ (World.block_lt_of_cell? _ _ (cell_al q2 _)) HNe.out).trans (cell_al q2 _)))
          have HR5 : Hid (FewRel W a win s (.slice (some ⟨g0, 0, none⟩) (A.length + 1) cap) [] (k + 1) w5) := Lib.hid (few_more M1.out m2 m3 m4 M5.out M6.out M7.out M8.out m9 m10 m11 m12 HOn.out _ HGr.out)
          clear q1 q2 b2 b3 HOw HNw HOn HGr HNe M1 M5 M6 M7 M8 m2 m3 m4 m9 m10 m11 m12 a0 a1 a2
          go_wp2_with fail
          go_roundw
          case rel => exact ⟨k + 1, by go_num, by omega, HR5.out⟩
          case measure => simp [intOf]; omega
    · have hkk : k ≤ 150 := Nat.le_trans hk hl
      obtain ⟨b, g, f, A, m1, m2, m3, m4, m5, m6, m7, m8, m9, m10, m11, m12⟩ := HR.out
      rw [List.append_nil] at m7
      subst m11
      subst m12
      have hkl : A.length ≤ 150 := by omega
      obtain ⟨p8, c8, hv⟩ := m6.len_val
      have hu : u8 = .slice p8 A.length c8 := hv
      clear hv
      subst hu
      have HBst := Lib.hid (fl_Best a b g f wr m1)
      have M1 := Lib.hid m1
      have M5 := Lib.hid m5
      have M6 := Lib.hid m6
      have M7 := Lib.hid m7
      have M8 := Lib.hid m8
      clear m1 m5 m6 m7 m8 HR HG m9 m10 hkk
      unfold bestV at HBst
      generalize hX : f.best.x = X at *
      generalize hT : f.best.t = T at *
      generalize hO : f.some = O at *
      have HX := Lib.hid hX
      have HT := Lib.hid hT
      have HO := Lib.hid hO
      clear hX hT hO
      go_wp2_with fail
      refine (HBst.out).mono ?_
      rintro e w2 ⟨rfl, hb⟩
      have E0 : Hid (FewEnd W a f.win f.least (.slice p8 A.length c8) w2 b g f A) := Lib.hid ⟨M1.out.keep hb, bel_to M5.out hb M5.out.size, M6.out.keep hb, M7.out, M8.out, hkl, rfl, rfl⟩
      clear hb HBst M1 M5 M6
      go_wp2_with fail
      go_loopw [14, 15, 16] (fun cn is i wr => ∃ k : Nat, i = .int .i64 (k : Int) ∧ k ≤ A.length ∧ cn = .bool ((A.take k).any (cntB f)) ∧ is = .bool ((A.take k).any (isB f)) ∧ FewEnd W a f.win f.least (.slice p8 A.length c8) wr b g f A) (fun _ _ i _ => A.length - (intOf i).toNat)
      case atStart => exact ⟨0, rfl, Nat.zero_le _, rfl, rfl, E0.out⟩
      case round =>
        obtain ⟨k2, rfl, hk2, rfl, rfl, he⟩ := hrel
        have HE := Lib.hid he
        clear he E0
        by_cases hlt2 : k2 < A.length
        · obtain ⟨g8, c9, hp8⟩ := HE.out.row.form (by omega)
          injection hp8 with hp8 _ hc9
          subst hp8
          subst hc9
          obtain ⟨z0, z1⟩ := RL.cells HE.out.row hlt2
          have hmem : A.getD k2 Itm.z ∈ A := by simp [List.getD_eq_getElem?_getD, hlt2]
          have hpast : (A.getD k2 Itm.z).t ≤ f.t := M7.out.past _ hmem
          have HK1 := Lib.hid (any_more (cntB f) A hlt2)
          have HK2 := Lib.hid (any_more (isB f) A hlt2)
          have HGd := Lib.hid (few_good M7.out M8.out hmem)
          generalize A.getD k2 Itm.z = r at *
          have hft := M8.out.t
          have HTm : Hid (∀ n, Calls Try.prog 10 #[.pointer (some ⟨a, 0, none⟩)] (wr.drewN n) fun e w' => e = .returned (.int .u64 (f.t : Int)) ∧ w' = wr.drewN n) := Lib.hid (fun n => (fl_Time a b g f (wr.drewN n) (HE.out.fl.keep ((show Drawn wr (wr.drewN n) from ⟨n, rfl⟩).below _))).mono fun _ _ ⟨p, q⟩ => ⟨p, q.symm⟩)
          have i0 : (0 : Int) ≤ (k2 : Int) := by omega
          have i1 : (k2 : Int) < (A.length : Int) := by omega
          have i2 : k2 < A.length := hlt2
          by_cases hc : f.win < f.t - r.t
          · have d2 : decide ((f.win : Int) < (f.t : Int) - (r.t : Int)) = true := by simp; omega
            have hcb : cntB f r = false := by unfold cntB; simp [hc]
            have hib : isB f r = false := by unfold isB; rw [hcb]; rfl
            clear hc
            go_wp2_with fail
            go_quiet (first | (go_at_call 10; exact Calls.quiet_of_same (HTm.out _)))
            have HE2 : Hid (FewEnd W a f.win f.least (.slice (some ⟨g8, 0, none⟩) A.length c8) (wr.drewN nq) b g f A) := Lib.hid (by
              have hd : Drawn wr (wr.drewN nq) := ⟨nq, rfl⟩
              exact ⟨HE.out.fl.keep (hd.below _), HE.out.bel.trans (hd.below _), HE.out.row.keep (hd.below _), HE.out.inv, HE.out.ok, HE.out.n, rfl, rfl⟩)
            go_wp2_with fail
            go_roundw
            case rel => exact ⟨k2 + 1, by go_num, by omega, by rw [HK1.out, hcb]; simp, by rw [HK2.out, hib]; simp, HE2.out⟩
            case measure => simp [intOf]; omega
          · have d2 : decide ((f.win : Int) < (f.t : Int) - (r.t : Int)) = false := by simp; omega
            have hcb : cntB f r = true := by unfold cntB; simp [hc]
            have hgd := HGd.out hcb
            have HE2 : Hid (∀ n, FewEnd W a f.win f.least (.slice (some ⟨g8, 0, none⟩) A.length c8) (wr.drewN n) b g f A) := Lib.hid (by
              intro n
              have hd : Drawn wr (wr.drewN n) := ⟨n, rfl⟩
              exact ⟨HE.out.fl.keep (hd.below _), HE.out.bel.trans (hd.below _), HE.out.row.keep (hd.below _), HE.out.inv, HE.out.ok, HE.out.n, rfl, rfl⟩)
            generalize hi0 : (A.take k2).any (isB f) = i at *
            have HI0 := Lib.hid hi0
            clear hc hi0
            rcases hl2 : f.least
            · have hx : ¬ X < r.x := by rw [hl2] at hgd; unfold bt at hgd; simp at hgd; rw [HX.out] at hgd; omega
              have d3 : decide (X < r.x) = false := by simpa using hx
              clear hgd hx
              rw [hl2] at HE2
              rcases i
              · by_cases e1 : r.t = T
                · have u1 : (((r.t : Nat) : Int) == (T : Int)) = true := by simp [e1]
                  by_cases e2 : r.x = X
                  · have u2 : (((r.x : Nat) : Int) == (X : Int)) = true := by simp [e2]
                    have hib : isB f r = true := by unfold isB; rw [hcb, HT.out, HX.out]; simp [e1, e2]
                    clear e1 e2
                    go_wp2_with fail
                    go_quiet (first | (go_at_call 10; exact Calls.quiet_of_same (HTm.out _)))
                    replace HE2 := Lib.hid (HE2.out nq)
                    have y0 : (wr.drewN nq).cell? ⟨g8, k2 * 2, none⟩ = some (.int .u64 (r.t : Int)) := z0
                    have y1 : (wr.drewN nq).cell? ⟨g8, k2 * 2 + 1, none⟩ = some (.int .u64 (r.x : Int)) := z1
                    generalize wr.drewN nq = w9 at *
                    go_wp2_with fail
                    go_roundw
                    case rel => exact ⟨k2 + 1, by go_num, by omega, by rw [HK1.out, hcb]; simp, by rw [HK2.out]; first | (simp only [hib]; done) | (simp only [hib]; rfl), HE2.out⟩
                    case measure => simp [intOf]; omega
                  · have u2 : (((r.x : Nat) : Int) == (X : Int)) = false := by simp; omega
                    have hib : isB f r = false := by unfold isB; rw [HT.out, HX.out]; simp [e2]
                    clear e1 e2
                    go_wp2_with fail
                    go_quiet (first | (go_at_call 10; exact Calls.quiet_of_same (HTm.out _)))
                    replace HE2 := Lib.hid (HE2.out nq)
                    have y0 : (wr.drewN nq).cell? ⟨g8, k2 * 2, none⟩ = some (.int .u64 (r.t : Int)) := z0
                    have y1 : (wr.drewN nq).cell? ⟨g8, k2 * 2 + 1, none⟩ = some (.int .u64 (r.x : Int)) := z1
                    generalize wr.drewN nq = w9 at *
                    go_wp2_with fail
                    go_roundw
                    case rel => exact ⟨k2 + 1, by go_num, by omega, by rw [HK1.out, hcb]; simp, by rw [HK2.out]; first | (simp only [hib]; done) | (simp only [hib]; rfl), HE2.out⟩
                    case measure => simp [intOf]; omega
                · have u1 : (((r.t : Nat) : Int) == (T : Int)) = false := by simp; omega
                  have hib : isB f r = false := by unfold isB; rw [HT.out]; simp [e1]
                  clear e1
                  go_wp2_with fail
                  go_quiet (first | (go_at_call 10; exact Calls.quiet_of_same (HTm.out _)))
                  replace HE2 := Lib.hid (HE2.out nq)
                  have y0 : (wr.drewN nq).cell? ⟨g8, k2 * 2, none⟩ = some (.int .u64 (r.t : Int)) := z0
                  have y1 : (wr.drewN nq).cell? ⟨g8, k2 * 2 + 1, none⟩ = some (.int .u64 (r.x : Int)) := z1
                  generalize wr.drewN nq = w9 at *
                  go_wp2_with fail
                  go_roundw
                  case rel => exact ⟨k2 + 1, by go_num, by omega, by rw [HK1.out, hcb]; simp, by rw [HK2.out]; first | (simp only [hib]; done) | (simp only [hib]; rfl), HE2.out⟩
                  case measure => simp [intOf]; omega
              · have hib : (true || isB f r) = true := rfl
                go_wp2_with fail
                go_quiet (first | (go_at_call 10; exact Calls.quiet_of_same (HTm.out _)))
                replace HE2 := Lib.hid (HE2.out nq)
                have y0 : (wr.drewN nq).cell? ⟨g8, k2 * 2, none⟩ = some (.int .u64 (r.t : Int)) := z0
                have y1 : (wr.drewN nq).cell? ⟨g8, k2 * 2 + 1, none⟩ = some (.int .u64 (r.x : Int)) := z1
                generalize wr.drewN nq = w9 at *
                go_wp2_with fail
                go_roundw
                case rel => exact ⟨k2 + 1, by go_num, by omega, by rw [HK1.out, hcb]; simp, by rw [HK2.out]; first | (simp only [hib]; done) | (simp only [hib]; rfl), HE2.out⟩
                case measure => simp [intOf]; omega
            · have hx : ¬ r.x < X := by rw [hl2] at hgd; unfold bt at hgd; simp at hgd; rw [HX.out] at hgd; omega
              have d3 : decide (r.x < X) = false := by simpa using hx
              clear hgd hx
              rw [hl2] at HE2
              rcases i
              · by_cases e1 : r.t = T
                · have u1 : (((r.t : Nat) : Int) == (T : Int)) = true := by simp [e1]
                  by_cases e2 : r.x = X
                  · have u2 : (((r.x : Nat) : Int) == (X : Int)) = true := by simp [e2]
                    have hib : isB f r = true := by unfold isB; rw [hcb, HT.out, HX.out]; simp [e1, e2]
                    clear e1 e2
                    go_wp2_with fail
                    go_quiet (first | (go_at_call 10; exact Calls.quiet_of_same (HTm.out _)))
                    replace HE2 := Lib.hid (HE2.out nq)
                    have y0 : (wr.drewN nq).cell? ⟨g8, k2 * 2, none⟩ = some (.int .u64 (r.t : Int)) := z0
                    have y1 : (wr.drewN nq).cell? ⟨g8, k2 * 2 + 1, none⟩ = some (.int .u64 (r.x : Int)) := z1
                    generalize wr.drewN nq = w9 at *
                    go_wp2_with fail
                    go_roundw
                    case rel => exact ⟨k2 + 1, by go_num, by omega, by rw [HK1.out, hcb]; simp, by rw [HK2.out]; first | (simp only [hib]; done) | (simp only [hib]; rfl), HE2.out⟩
                    case measure => simp [intOf]; omega
                  · have u2 : (((r.x : Nat) : Int) == (X : Int)) = false := by simp; omega
                    have hib : isB f r = false := by unfold isB; rw [HT.out, HX.out]; simp [e2]
                    clear e1 e2
                    go_wp2_with fail
                    go_quiet (first | (go_at_call 10; exact Calls.quiet_of_same (HTm.out _)))
                    replace HE2 := Lib.hid (HE2.out nq)
                    have y0 : (wr.drewN nq).cell? ⟨g8, k2 * 2, none⟩ = some (.int .u64 (r.t : Int)) := z0
                    have y1 : (wr.drewN nq).cell? ⟨g8, k2 * 2 + 1, none⟩ = some (.int .u64 (r.x : Int)) := z1
                    generalize wr.drewN nq = w9 at *
                    go_wp2_with fail
                    go_roundw
                    case rel => exact ⟨k2 + 1, by go_num, by omega, by rw [HK1.out, hcb]; simp, by rw [HK2.out]; first | (simp only [hib]; done) | (simp only [hib]; rfl), HE2.out⟩
                    case measure => simp [intOf]; omega
                · have u1 : (((r.t : Nat) : Int) == (T : Int)) = false := by simp; omega
                  have hib : isB f r = false := by unfold isB; rw [HT.out]; simp [e1]
                  clear e1
                  go_wp2_with fail
                  go_quiet (first | (go_at_call 10; exact Calls.quiet_of_same (HTm.out _)))
                  replace HE2 := Lib.hid (HE2.out nq)
                  have y0 : (wr.drewN nq).cell? ⟨g8, k2 * 2, none⟩ = some (.int .u64 (r.t : Int)) := z0
                  have y1 : (wr.drewN nq).cell? ⟨g8, k2 * 2 + 1, none⟩ = some (.int .u64 (r.x : Int)) := z1
                  generalize wr.drewN nq = w9 at *
                  go_wp2_with fail
                  go_roundw
                  case rel => exact ⟨k2 + 1, by go_num, by omega, by rw [HK1.out, hcb]; simp, by rw [HK2.out]; first | (simp only [hib]; done) | (simp only [hib]; rfl), HE2.out⟩
                  case measure => simp [intOf]; omega
              · have hib : (true || isB f r) = true := rfl
                go_wp2_with fail
                go_quiet (first | (go_at_call 10; exact Calls.quiet_of_same (HTm.out _)))
                replace HE2 := Lib.hid (HE2.out nq)
                have y0 : (wr.drewN nq).cell? ⟨g8, k2 * 2, none⟩ = some (.int .u64 (r.t : Int)) := z0
                have y1 : (wr.drewN nq).cell? ⟨g8, k2 * 2 + 1, none⟩ = some (.int .u64 (r.x : Int)) := z1
                generalize wr.drewN nq = w9 at *
                go_wp2_with fail
                go_roundw
                case rel => exact ⟨k2 + 1, by go_num, by omega, by rw [HK1.out, hcb]; simp, by rw [HK2.out]; first | (simp only [hib]; done) | (simp only [hib]; rfl), HE2.out⟩
                case measure => simp [intOf]; omega
        · obtain rfl : k2 = A.length := by omega
          have hfin := few_fin HE.out.inv HE.out.ok
          have e1 : (A.take A.length).any (cntB f) = O := by rw [List.take_length, hfin.1, HO.out]
          have e2 : (A.take A.length).any (isB f) = O := by rw [List.take_length, hfin.2.1, HO.out]
          have HN0 : Hid (O = false → X = 0 ∧ T = 0) := Lib.hid (fun h => by
            have := hfin.2.2 (by rw [HO.out]; exact h)
            rw [← HX.out, ← HT.out, this]; exact ⟨rfl, rfl⟩)
          rw [e1, e2]
          clear e1 e2 hfin
          rcases O
          · obtain ⟨rfl, rfl⟩ := HN0.out rfl
            go_wp2_with fail
            refine (HA.out wr).mono ?_
            rintro e w9 ⟨rfl, hb⟩
            have HB9 := Lib.hid (bel_to HE.out.bel hb HE.out.bel.size)
            clear hb
            go_wp2_with fail
            go_ret
            exact ⟨rfl, HB9.out⟩
          · go_wp2_with fail
            refine (HA.out wr).mono ?_
            rintro e w9 ⟨rfl, hb⟩
            have HB9 := Lib.hid (bel_to HE.out.bel hb HE.out.bel.size)
            clear hb
            go_wp2_with fail
            go_ret
            exact ⟨rfl, HB9.out⟩

theorem FiltFew_walk (win : Nat) (s : Bool) (v : Option Addr) (n c : Nat) (l : List (Bool × Nat × Nat)) (b off : Nat) (w : World) (hw : win ≤ 18446744073709551615) (h : InActs5 w v n l b off) :
    Calls Try.prog 3 #[.int .u64 (win : Int), .bool s, .slice v n c] w fun e w' => e = .returned (.bool true) ∧ Below w.heap.size w w' := by
  obtain ⟨rfl, m1, hv, hb⟩ := h
  by_cases hc : 150 < l.length
  · exact FiltFew_long win s v _ c w hc m1
  · exact FiltFew_rest w win s v c b off l (by omega) hw hb hv
end Go.Proofs.Ythhiljaceobnmaa
