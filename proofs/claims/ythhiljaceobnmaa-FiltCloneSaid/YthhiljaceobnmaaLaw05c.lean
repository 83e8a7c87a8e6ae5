/- FiltClone over this translation. -/
import Derived.Test.YthhiljaceobnmaaMh
set_option linter.unusedVariables false
namespace Go.Proofs.Ythhiljaceobnmaa
open Go.RowKit Pl

theorem FiltClone_long (win : Nat) (v0 v1 : Option Addr) (n0 c0 n1 c1 : Nat) (w : World) (h : 150 < n0 ∨ 150 < n1) (hm0 : n0 ≤ 9223372036854775807) (hm1 : n1 ≤ 9223372036854775807) :
    Calls Try.prog 4 #[.int .u64 (win : Int), .slice v0 n0 c0, .slice v1 n1 c1] w fun e w' => e = .returned (.bool true) ∧ Below w.heap.size w w' := by
  have HA := Lib.hid (alive05 w)
  by_cases a : 150 < n0
  · have hc : decide (150 < (n0 : Int)) = true := by simp; omega
    go_enter Try.func4, Try.ntmps4
    go_wp2_with (go_at_call 5; refine (HA.out).mono ?_; rintro e w' ⟨rfl, hb⟩)
    go_ret
    exact ⟨rfl, hb⟩
  · have hc : decide (150 < (n0 : Int)) = false := by simp; omega
    have hd : decide (150 < (n1 : Int)) = true := by simp; omega
    go_enter Try.func4, Try.ntmps4
    go_wp2_with (go_at_call 5; refine (HA.out).mono ?_; rintro e w' ⟨rfl, hb⟩)
    go_ret
    exact ⟨rfl, hb⟩

/-- The clone, and the document's, ready for more. -/
structure CloneAt (W wc w : World) (a m c n win : Nat) (s : Bool) : Prop where
  one : PairRel W a m win s 150 wc
  bel : Below wc.heap.size wc w
  two : PairRel wc c n win s 150 w

theorem clone_pair {wr w5 w7 : World} {c b g n : Nat} {f : FS} {A : List Rd} {v : Value} {cs : Array Value} (hc : FlAt w5 c b g f) (hn5 : Blk w5 n 41 cs) (hfr : Fr w5 w7 [n]) (hn7 : Blk w7 n 41 #[.int .u64 (f.win : Int), .bool f.least, .int .u64 (f.t : Int), v]) (hr : RL w7 wr.heap.size v A) (hB : Below wr.heap.size wr w5)
    (h1 : wr.heap.size ≤ c) (h2 : wr.heap.size ≤ b) (h3 : wr.heap.size ≤ g) (h4 : wr.heap.size ≤ n) (hi : Inv f A) (ho : f.ok) (k1 : f.l.length ≤ 150) (k2 : A.length ≤ 150) : PairRel wr c n f.win f.least (150 + 0) w7 := by
  obtain ⟨c1, q1⟩ := hc.row.head
  obtain ⟨c2, q2⟩ := hc.row.body
  have n1 : c ≠ n := hc.head.ty hn5 (by decide)
  have n2 : b ≠ n := q1.ty hn5 (by decide)
  have n3 : g ≠ n := q2.ty hn5 (by decide)
  exact ⟨f, A, ⟨b, g, v, hc.fr hfr (by simpa using n1) (by simpa using n2) (by simpa using n3), ⟨hn7, hr⟩, h1, h2, h3, h4, bel_fr hB hfr hB.size (by simpa using h4)⟩, hi, ho, k1, k2, rfl, rfl⟩

set_option maxHeartbeats 4000000 in
set_option maxRecDepth 100000 in
theorem FiltClone_rest (W : World) (win : Nat) (v0 v1 : Option Addr) (c0 c1 b0 o0 b1 o1 : Nat) (l0 l1 : List (Bool × Nat × Nat)) (hl0 : l0.length ≤ 150) (hl1 : l1.length ≤ 150) (hw : win ≤ 18446744073709551615) (h0 : Acts5 W b0 o0 l0) (h1 : Acts5 W b1 o1 l1)
    (hb0 : 0 < l0.length → v0 = some ⟨b0, o0, none⟩ ∧ b0 < W.heap.size) (hb1 : 0 < l1.length → v1 = some ⟨b1, o1, none⟩ ∧ b1 < W.heap.size) :
    Calls Try.prog 4 #[.int .u64 (win : Int), .slice v0 l0.length c0, .slice v1 l1.length c1] W fun e w' => e = .returned (.bool true) ∧ Below W.heap.size W w' := by
  have HA := Lib.hid alive05
  have HL0 := Lib.hid h0
  have HL1 := Lib.hid h1
  have HB0 := Lib.hid hb0
  have HB1 := Lib.hid hb1
  have d0 : decide (150 < l0.length) = false := by simpa using hl0
  have d1 : decide (150 < l1.length) = false := by simpa using hl1
  clear h0 h1 hb0 hb1
  obtain ⟨i0, hi, hz0, hz1, hz2⟩ := info_parts re_info
  have HI := Lib.hid hi
  have HZ0 := Lib.hid hz0
  have HZ1 := Lib.hid hz1
  have HZ2 := Lib.hid hz2
  clear hi hz0 hz1 hz2
  obtain ⟨s, hs⟩ : ∃ s : Bool, ((win : Int) % 2 == 1) = s := ⟨_, rfl⟩
  go_enter Try.func4, Try.ntmps4
  go_wp2_with fail
  refine (law_of win s W).mono ?_
  rintro e w1 ⟨⟨a, b, g, rfl, hr, ha, hb, hg⟩, hbel⟩
  have R0 : Hid (PairRel W a w1.heap.size win s 0 (w1.alloc (.cells #[.int .u64 (win : Int), .bool s, .int .u64 0, .slice none 0 0] 41))) := Lib.hid
    ⟨⟨win, 0, s, []⟩, [], ⟨b, g, .slice none 0 0, hr.keep ((Below.refl _ _).alloc (Nat.le_refl _) _), ⟨Blk.new _ _ _, RL.nil _ _⟩, ha, hb, hg, hbel.size, hbel.alloc hbel.size _⟩, Inv.new _ _, ⟨hw, by simp, by simp, by simp⟩, by simp, by simp, rfl, rfl⟩
  clear hr hb hg hbel
  go_wp2_with fail
  generalize (w1.alloc (.cells #[.int .u64 (win : Int), .bool s, .int .u64 0, .slice none 0 0] 41)) = w2 at *
  generalize w1.heap.size = m at *
  go_loopw [9] (fun i wr => ∃ k : Nat, i = .int .i64 (k : Int) ∧ k ≤ l0.length ∧ PairRel W a m win s k wr) (fun i _ => l0.length - (intOf i).toNat)
  case atStart => exact ⟨0, rfl, Nat.zero_le _, R0.out⟩
  case round =>
    obtain ⟨k, rfl, hk, hrel⟩ := hrel
    have HR := Lib.hid hrel
    have HG := Lib.hid hrel.bel
    clear hrel R0
    by_cases hlt : k < l0.length
    · obtain ⟨a0, a1, a2, hbt, hbx⟩ := HL0.out k hlt
      obtain ⟨rfl, hbl⟩ := HB0.out (by omega)
      rw [← HG.out.cell (p := ⟨b0, o0 + k * 3, none⟩) hbl] at a0
      rw [← HG.out.cell (p := ⟨b0, o0 + k * 3 + 1, none⟩) hbl] at a1
      rw [← HG.out.cell (p := ⟨b0, o0 + k * 3 + 2, none⟩) hbl] at a2
      generalize (l0.getD k (false, 0, 0)).2.2 = x at *
      generalize (l0.getD k (false, 0, 0)).2.1 = t at *
      generalize (l0.getD k (false, 0, 0)).1 = p at *
      have HC := Lib.hid (rel_act (p := p) (t := t) (x := x) HR.out hbt (by omega))
      go_wp2_with fail
      refine (HC.out).mono ?_
      rintro e w4 ⟨rfl, hrel⟩
      have HR4 := Lib.hid hrel
      clear hrel HC a0 a1 a2
      go_wp2_with fail
      go_roundw
      case rel => exact ⟨k + 1, by go_num, by omega, HR4.out⟩
      case measure => simp [intOf]; omega
    · have HR1 : Hid (PairRel W a m win s 150 wr) := Lib.hid (by
        obtain ⟨f, A, q1, q2, q3, q4, q5, q6⟩ := HR.out
        exact ⟨f, A, q1, q2, q3, by omega, by omega, q6⟩)
      obtain ⟨f, A, ⟨b, g, v, q1, q2, q3, q4, q5, q6, q7⟩, r2, r3, r4, r5, r6, r7⟩ := HR.out
      subst r6
      subst r7
      have HCl := Lib.hid (fl_Clone a b g f wr q1)
      have HM := Lib.hid q2
      have HI2 := Lib.hid r2
      have HOk := Lib.hid r3
      clear q1 q2 r2 r3 HR
      go_wp2_with fail
      refine (HCl.out).mono ?_
      rintro e w4 ⟨⟨c, b', g', rfl, hc, hc1, hc2, hc3⟩, hbel⟩
      have HC4 := Lib.hid hc
      have HB4 := Lib.hid hbel
      have HM4 := Lib.hid (HM.out.keep hbel)
      clear hc hbel HCl
      have m1 := HM4.out.head.drew.cell (i := 1) (v := .bool f.least) rfl
      have m2 := HM4.out.head.drew.cell (i := 2) (v := .int .u64 (f.t : Int)) rfl
      rcases HM.out.row.2 with ⟨rfl, rfl⟩ | ⟨g8, c8, rfl, hpos⟩
      · skip
        go_wp2_with fail
        go_region_held3 (fun w' => w'.cell? ⟨m, 1, none⟩ = some (.bool f.least) ∧ w'.cell? ⟨m, 2, none⟩ = some (.int .u64 (f.t : Int)))
          (first | exact ⟨m1, m2⟩ | exact ⟨cell_al m1 _, cell_al m2 _⟩)
          (fail)
        have HN5 : Hid (Blk (w4.alloc (.cells #[.int .u64 (f.win : Int), .bool f.least, .int .u64 (f.t : Int), .slice none 0 0] 41)).drew w4.heap.size 41 #[.int .u64 (f.win : Int), .bool f.least, .int .u64 (f.t : Int), .slice none 0 0]) := Lib.hid (Blk.new w4 _ _)
        have HB5 : Hid (Below w4.heap.size w4 (w4.alloc (.cells #[.int .u64 (f.win : Int), .bool f.least, .int .u64 (f.t : Int), .slice none 0 0] 41)).drew) := Lib.hid (((Below.refl _ _).alloc (Nat.le_refl _) _).trans ((Drawn.drew _).below _))
        have HM5 := Lib.hid (HM4.out.keep HB5.out)
        have HC5 := Lib.hid (HC4.out.keep HB5.out)
        have HBB5 : Hid (Below wr.heap.size wr (w4.alloc (.cells #[.int .u64 (f.win : Int), .bool f.least, .int .u64 (f.t : Int), .slice none 0 0] 41)).drew) := Lib.hid (bel_to HB4.out HB5.out HB4.out.size)
        have HS4 : Hid (wr.heap.size ≤ w4.heap.size) := Lib.hid HB4.out.size
        clear m1 m2 HM4 HC4 HB4 HB5
        have n3 := HN5.out.drew.cell (i := 3) (v := .slice none 0 0) rfl
        have k3 := HN5.out.drew.free 3
        have m3 := HM5.out.head.drew.cell (i := 3) (v := .slice none 0 0) rfl
        have hmn : m ≠ w4.heap.size := by have := HM.out.head.lt; have := HS4.out; omega
        generalize (w4.alloc (.cells #[.int .u64 (f.win : Int), .bool f.least, .int .u64 (f.t : Int), .slice none 0 0] 41)).drew = w5 at *
        generalize w4.heap.size = n at *
        go_wp2_with fail
        have HP : Hid (PairRel wr c n f.win f.least (150 + 0) (w5.setCell ⟨n, 3, none⟩ (.slice none 0 0)).drew) := Lib.hid (clone_pair HC5.out HN5.out (((Fr.refl w5 [n]).set (by simp) 3 _).drawn (Drawn.drew _)) (Blk.drew (by have := HN5.out.set 3 (.slice none 0 0); simpa using this)) (RL.nil _ _) HBB5.out hc1 hc2 hc3 HS4.out HI2.out HOk.out (by omega) (by simp))
        go_region
        clear n3 k3 m3 hmn HN5 HM5 HC5 HBB5 HS4 hc1 hc2 hc3 q3 q4 q5 q6 q7 r4 r5
        generalize (w5.setCell ⟨n, 3, none⟩ (.slice none 0 0)).drew = w7 at *
        have HS : Hid (∀ wx, Below wr.heap.size wr wx → Calls Try.prog 13 #[.pointer (some ⟨a, 0, none⟩), .pointer (some ⟨m, 0, none⟩)] wx fun e w' => e = .returned (.bool true) ∧ Below wx.heap.size wx w') := Lib.hid (fun wx k => rel_same (HR1.out.keep k) (by decide))
        clear HM HI2 HOk HR1
        generalize f.win = fw at *
        generalize f.least = fs at *
        go_wp2_with fail
        go_loopw [12] (fun i wr' => ∃ k : Nat, i = .int .i64 (k : Int) ∧ k ≤ l1.length ∧ PairRel wr c n fw fs (150 + k) wr') (fun i _ => l1.length - (intOf i).toNat)
        case atStart => exact ⟨0, rfl, Nat.zero_le _, HP.out⟩
        case round =>
          obtain ⟨k2, rfl, hk2, hrel⟩ := hrel
          have HR := Lib.hid hrel
          have HG2 := Lib.hid hrel.bel
          have HGW : Hid (Below W.heap.size W wr) := Lib.hid (bel_to HG.out HG2.out HG.out.size)
          clear hrel HP
          by_cases hlt2 : k2 < l1.length
          · obtain ⟨a0, a1, a2, hbt, hbx⟩ := HL1.out k2 hlt2
            obtain ⟨rfl, hbl⟩ := HB1.out (by omega)
            rw [← HGW.out.cell (p := ⟨b1, o1 + k2 * 3, none⟩) hbl] at a0
            rw [← HGW.out.cell (p := ⟨b1, o1 + k2 * 3 + 1, none⟩) hbl] at a1
            rw [← HGW.out.cell (p := ⟨b1, o1 + k2 * 3 + 2, none⟩) hbl] at a2
            generalize (l1.getD k2 (false, 0, 0)).2.2 = x at *
            generalize (l1.getD k2 (false, 0, 0)).2.1 = t at *
            generalize (l1.getD k2 (false, 0, 0)).1 = p at *
            have HC := Lib.hid (rel_act (p := p) (t := t) (x := x) HR.out hbt (by omega))
            go_wp2_with fail
            refine (HC.out).mono ?_
            rintro e w8 ⟨rfl, hrel⟩
            have HR8 := Lib.hid hrel
            clear hrel HC a0 a1 a2
            have HS8 := Lib.hid (rel_same HR8.out (by omega))
            go_wp2_with fail
            refine (HS8.out).mono ?_
            rintro e w9 ⟨rfl, hb⟩
            have HR9 := Lib.hid (HR8.out.keep hb)
            clear hb HS8 HR8
            have HS9 := Lib.hid (HS.out w9 HR9.out.bel)
            go_wp2_with fail
            refine (HS9.out).mono ?_
            rintro e w10 ⟨rfl, hb⟩
            have HR10 := Lib.hid (HR9.out.keep hb)
            clear hb HS9 HR9
            go_wp2_with fail
            go_roundw
            case rel => exact ⟨k2 + 1, by go_num, by omega, HR10.out⟩
            case measure => simp [intOf]; omega
          · clear HS HR HL0 HL1 HB0 HB1
            go_wp2_with fail
            refine (fl_Best_nil _).mono ?_
            rintro e w8 ⟨rfl, rfl⟩
            go_wp2_with fail
            refine (HA.out _).mono ?_
            rintro e w9 ⟨rfl, hb⟩
            have HB9 := Lib.hid (bel_to HGW.out hb HGW.out.size)
            clear hb
            go_wp2_with fail
            refine (fl_To_nil 0 _).mono ?_
            rintro e w10 ⟨rfl, rfl⟩
            go_wp2_with fail
            refine (fl_Put_nil 0 0 _).mono ?_
            rintro e w10 ⟨rfl, rfl⟩
            go_wp2_with fail
            refine (fl_Time_nil _).mono ?_
            rintro e w10 ⟨rfl, rfl⟩
            go_wp2_with fail
            refine (fl_Clone_nil _).mono ?_
            rintro e w10 ⟨rfl, rfl⟩
            go_wp2_with fail
            go_ret
            exact ⟨rfl, HB9.out⟩
      · skip
        go_wp2_with fail
        go_region_held3 (fun w' => w'.cell? ⟨m, 1, none⟩ = some (.bool f.least) ∧ w'.cell? ⟨m, 2, none⟩ = some (.int .u64 (f.t : Int)))
          (first | exact ⟨m1, m2⟩ | exact ⟨cell_al m1 _, cell_al m2 _⟩)
          (fail)
        have HN5 : Hid (Blk (w4.alloc (.cells #[.int .u64 (f.win : Int), .bool f.least, .int .u64 (f.t : Int), .slice none 0 0] 41)).drew w4.heap.size 41 #[.int .u64 (f.win : Int), .bool f.least, .int .u64 (f.t : Int), .slice none 0 0]) := Lib.hid (Blk.new w4 _ _)
        have HB5 : Hid (Below w4.heap.size w4 (w4.alloc (.cells #[.int .u64 (f.win : Int), .bool f.least, .int .u64 (f.t : Int), .slice none 0 0] 41)).drew) := Lib.hid (((Below.refl _ _).alloc (Nat.le_refl _) _).trans ((Drawn.drew _).below _))
        have HM5 := Lib.hid (HM4.out.keep HB5.out)
        have HC5 := Lib.hid (HC4.out.keep HB5.out)
        have HBB5 : Hid (Below wr.heap.size wr (w4.alloc (.cells #[.int .u64 (f.win : Int), .bool f.least, .int .u64 (f.t : Int), .slice none 0 0] 41)).drew) := Lib.hid (bel_to HB4.out HB5.out HB4.out.size)
        have HS4 : Hid (wr.heap.size ≤ w4.heap.size) := Lib.hid HB4.out.size
        clear m1 m2 HM4 HC4 HB4 HB5
        have hpos := hpos
        have n3 := HN5.out.drew.cell (i := 3) (v := .slice none 0 0) rfl
        have k3 := HN5.out.drew.free 3
        have m3 := HM5.out.head.drew.cell (i := 3) (v := .slice (some ⟨g8, 0, none⟩) A.length c8) rfl
        have hmn : m ≠ w4.heap.size := by have := HM.out.head.lt; have := HS4.out; omega
        generalize (w4.alloc (.cells #[.int .u64 (f.win : Int), .bool f.least, .int .u64 (f.t : Int), .slice none 0 0] 41)).drew = w5 at *
        generalize w4.heap.size = n at *
        have HOw : Hid (w5.drew.ownsRow wr.heap.size 34 2 (.slice none 0 0) 0 []) := Lib.hid ⟨by simp, .inl ⟨rfl, rfl⟩⟩
        have HSr : Hid (∀ j u, (A.flatMap (Itm.cs (α := Rd)))[j]? = some u → w5.drew.cell? ((⟨g8, 0, none⟩ : Addr).add j) = some u) := Lib.hid (fun j u hu => (HM5.out.row.keep ((Drawn.drew w5).below _)).own.cells (g := g8) rfl j u hu)
        have HFl : Hid ((A.flatMap (Itm.cs (α := Rd))).length = A.length * 2) := Lib.hid (icells_len A)
        have hA : A.length ≤ 150 := by omega
        go_wp2_with fail
        go_region_law ((refine step_append_lies _ (by rfl) _ _ _ (by rfl) wr.heap.size 34 i0 (.agg #[.int .u64 0, .int .u64 0]) 2 16 Try.underlying27 HI.out HZ0.out HZ1.out HZ2.out rfl (by decide) (.slice none 0 0) 0 [] (by rfl) HOw.out ⟨g8, 0, none⟩ A.length c8 (A.flatMap (Itm.cs (α := Rd))) (by rfl) HFl.out HSr.out (one_items A) hpos (by unfold maxLen; omega) (by omega) HBB5.out.size w5.heap.size (by simp) ?_; intro g0 cap w6 hown hgrow hat hltg; have HOn := Lib.hid hown; have HGr := Lib.hid hgrow; have HAt := Lib.hid hat; clear hown hgrow hat; have b3 := (HGr.out.cell_far ⟨n, 3, none⟩ (World.block_lt_of_cell? _ _ n3) (by simp [Value.ownBlock])).trans n3; have b4 := (HGr.out.cell_far ⟨m, 3, none⟩ (World.block_lt_of_cell? _ _ m3) (by simp [Value.ownBlock])).trans m3; have kf := (HGr.out.frozen_far ⟨n, 3, none⟩ (World.block_lt_of_cell? _ _ n3) (by simp [Value.ownBlock])).trans k3))
        all_goals
          have HP : Hid (PairRel wr c n f.win f.least (150 + 0) (w6.setCell ⟨n, 3, none⟩ (.slice (some ⟨g0, 0, none⟩) A.length cap))) := Lib.hid (by
            have hg : Fr w5 w6 [n] := ((Fr.refl w5 [n]).drawn (Drawn.drew w5)).trans (l' := []) ⟨HGr.out.os, HGr.out.tape, HGr.out.output, HGr.out.size, fun k hk hl => HGr.out.block k hk (by simp [Value.ownBlock])⟩ (by simp)
            have hn6 : Blk w6 n 41 #[.int .u64 (f.win : Int), .bool f.least, .int .u64 (f.t : Int), .slice none 0 0] := HN5.out.drew.grown HGr.out (by simp [Value.ownBlock])
            have hgn : n < g0 := by
              rcases HAt.out with e | e
              · simp [Value.ownBlock] at e
              · have := HN5.out.lt; omega
            have hrl : RL w6 wr.heap.size (.slice (some ⟨g0, 0, none⟩) A.length cap) A := ⟨by have := HOn.out; simpa using this, .inr ⟨g0, cap, rfl, hpos⟩⟩
            exact clone_pair HC5.out HN5.out (hg.set (by simp) 3 _) (by have := hn6.set 3 (.slice (some ⟨g0, 0, none⟩) A.length cap); simpa using this) (hrl.set_other (by simp [Value.ownBlock]; omega)) HBB5.out hc1 hc2 hc3 HS4.out HI2.out HOk.out (by omega) (by omega))
          clear n3 k3 m3 hmn HN5 HM5 HC5 HBB5 HS4 hc1 hc2 hc3 q3 q4 q5 q6 q7 r4 r5 HOw HSr HFl hA HOn HGr HAt b3 b4 kf hltg hpos
          generalize (w6.setCell ⟨n, 3, none⟩ (.slice (some ⟨g0, 0, none⟩) A.length cap)) = w7 at *
          have HS : Hid (∀ wx, Below wr.heap.size wr wx → Calls Try.prog 13 #[.pointer (some ⟨a, 0, none⟩), .pointer (some ⟨m, 0, none⟩)] wx fun e w' => e = .returned (.bool true) ∧ Below wx.heap.size wx w') := Lib.hid (fun wx k => rel_same (HR1.out.keep k) (by decide))
          clear HM HI2 HOk HR1
          generalize f.win = fw at *
          generalize f.least = fs at *
          go_wp2_with fail
          go_loopw [12] (fun i wr' => ∃ k : Nat, i = .int .i64 (k : Int) ∧ k ≤ l1.length ∧ PairRel wr c n fw fs (150 + k) wr') (fun i _ => l1.length - (intOf i).toNat)
          case atStart => exact ⟨0, rfl, Nat.zero_le _, HP.out⟩
          case round =>
            obtain ⟨k2, rfl, hk2, hrel⟩ := hrel
            have HR := Lib.hid hrel
            have HG2 := Lib.hid hrel.bel
            have HGW : Hid (Below W.heap.size W wr) := Lib.hid (bel_to HG.out HG2.out HG.out.size)
            clear hrel HP
            by_cases hlt2 : k2 < l1.length
            · obtain ⟨a0, a1, a2, hbt, hbx⟩ := HL1.out k2 hlt2
              obtain ⟨rfl, hbl⟩ := HB1.out (by omega)
              rw [← HGW.out.cell (p := ⟨b1, o1 + k2 * 3, none⟩) hbl] at a0
              rw [← HGW.out.cell (p := ⟨b1, o1 + k2 * 3 + 1, none⟩) hbl] at a1
              rw [← HGW.out.cell (p := ⟨b1, o1 + k2 * 3 + 2, none⟩) hbl] at a2
              generalize (l1.getD k2 (false, 0, 0)).2.2 = x at *
              generalize (l1.getD k2 (false, 0, 0)).2.1 = t at *
              generalize (l1.getD k2 (false, 0, 0)).1 = p at *
              have HC := Lib.hid (rel_act (p := p) (t := t) (x := x) HR.out hbt (by omega))
              go_wp2_with fail
              refine (HC.out).mono ?_
              rintro e w8 ⟨rfl, hrel⟩
              have HR8 := Lib.hid hrel
              clear hrel HC a0 a1 a2
              have HS8 := Lib.hid (rel_same HR8.out (by omega))
              go_wp2_with fail
              refine (HS8.out).mono ?_
              rintro e w9 ⟨rfl, hb⟩
              have HR9 := Lib.hid (HR8.out.keep hb)
              clear hb HS8 HR8
              have HS9 := Lib.hid (HS.out w9 HR9.out.bel)
              go_wp2_with fail
              refine (HS9.out).mono ?_
              rintro e w10 ⟨rfl, hb⟩
              have HR10 := Lib.hid (HR9.out.keep hb)
              clear hb HS9 HR9
              go_wp2_with fail
              go_roundw
              case rel => exact ⟨k2 + 1, by go_num, by omega, HR10.out⟩
              case measure => simp [intOf]; omega
            · clear HS HR HL0 HL1 HB0 HB1
              go_wp2_with fail
              refine (fl_Best_nil _).mono ?_
              rintro e w8 ⟨rfl, rfl⟩
              go_wp2_with fail
              refine (HA.out _).mono ?_
              rintro e w9 ⟨rfl, hb⟩
              have HB9 := Lib.hid (bel_to HGW.out hb HGW.out.size)
              clear hb
              go_wp2_with fail
              refine (fl_To_nil 0 _).mono ?_
              rintro e w10 ⟨rfl, rfl⟩
              go_wp2_with fail
              refine (fl_Put_nil 0 0 _).mono ?_
              rintro e w10 ⟨rfl, rfl⟩
              go_wp2_with fail
              refine (fl_Time_nil _).mono ?_
              rintro e w10 ⟨rfl, rfl⟩
              go_wp2_with fail
              refine (fl_Clone_nil _).mono ?_
              rintro e w10 ⟨rfl, rfl⟩
              go_wp2_with fail
              go_ret
              exact ⟨rfl, HB9.out⟩

theorem FiltClone_walk (win : Nat) (v0 : Option Addr) (n0 c0 : Nat) (v1 : Option Addr) (n1 c1 : Nat) (l0 : List (Bool × Nat × Nat)) (b0 o0 : Nat) (l1 : List (Bool × Nat × Nat)) (b1 o1 : Nat) (w : World) (hw : win ≤ 18446744073709551615) (h0 : InActs5 w v0 n0 l0 b0 o0) (h1 : InActs5 w v1 n1 l1 b1 o1) :
    Calls Try.prog 4 #[.int .u64 (win : Int), .slice v0 n0 c0, .slice v1 n1 c1] w fun e w' => e = .returned (.bool true) ∧ Below w.heap.size w w' := by
  obtain ⟨rfl, m0, hv0, hb0⟩ := h0
  obtain ⟨rfl, m1, hv1, hb1⟩ := h1
  by_cases hc : 150 < l0.length ∨ 150 < l1.length
  · exact FiltClone_long win v0 v1 _ c0 _ c1 w hc m0 m1
  · exact FiltClone_rest w win v0 v1 c0 c1 b0 o0 b1 o1 l0 l1 (by omega) (by omega) hw hb0 hb1 hv0 hv1
end Go.Proofs.Ythhiljaceobnmaa
