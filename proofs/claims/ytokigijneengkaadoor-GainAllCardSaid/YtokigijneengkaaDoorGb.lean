/- Contracts of package gain over this translation: of, Right, Name, Parse, All. -/
import Derived.Test.YtokigijneengkaaDoorGa
import Derived.Laws.StructEq
import Derived.BigRegion
set_option linter.unusedVariables false
namespace Go.Proofs.YtokigijneengkaaDoor
open Go.RowKit Go.Maps

/-- The table, as the program's text lays it. -/
def Gl (w : World) : Prop := ∀ k, k < 7 → w.cell? ⟨0, k * 2, none⟩ = some (.int .u64 (rateG k : Int)) ∧ w.cell? ⟨0, k * 2 + 1, none⟩ = some (.int .u64 (flightG k : Int))
theorem Gl.keep {w w' : World} (h : Gl w) (hb : Below w.heap.size w w') : Gl w' := fun k hk =>
  ⟨(hb.cell (p := ⟨0, _, none⟩) (World.block_lt_of_cell? w _ (h k hk).1)).trans (h k hk).1, (hb.cell (p := ⟨0, _, none⟩) (World.block_lt_of_cell? w _ (h k hk).2)).trans (h k hk).2⟩
theorem Gl.alloc {w : World} (h : Gl w) (o : Obj) : Gl (w.alloc o) := h.keep ((Below.refl _ _).alloc (Nat.le_refl _) _)

/-- A number's gains: none, of what is no state. -/
def stG (s : Int) : Nat := if 0 ≤ s ∧ s < 7 then s.toNat else 7
theorem stG_in (k : Nat) (hk : k < 7) : stG k = k := by unfold stG; rw [if_pos (by omega)]; simp
theorem stG_out (s : Int) (h : ¬ (0 ≤ s ∧ s < 7)) : stG s = 7 := by unfold stG; rw [if_neg h]
theorem stG_seven (s : Int) (h : ¬ stG s < 7) : stG s = 7 := by
  by_cases k : 0 ≤ s ∧ s < 7
  · exact absurd (show stG s < 7 by unfold stG; rw [if_pos k]; omega) h
  · exact stG_out s k
theorem stG_cases (s : Int) : (∃ k : Nat, k < 7 ∧ s = (k : Int)) ∨ ¬ (0 ≤ s ∧ s < 7) := by
  by_cases h : 0 ≤ s ∧ s < 7
  · exact Or.inl ⟨s.toNat, by omega, by omega⟩
  · exact Or.inr h

set_option maxHeartbeats 1000000 in
theorem ga_of (s : Int) (w : World) (hg : Gl w) :
    Calls Tryd.prog 18 #[.int .i64 s] w fun e w' => e = .returned (.agg #[.int .u64 (rateG (stG s) : Int), .int .u64 (flightG (stG s) : Int)]) ∧ Below w.heap.size w w' := by
  rcases stG_cases s with ⟨k, hk, rfl⟩ | h
  · rw [stG_in k hk]
    have HG := Lib.hid (hg.alloc (.cells #[.int .u64 0, .int .u64 0] 37) k hk)
    have c0 := HG.out.1
    have c1 := HG.out.2
    have i0 : (0 : Int) ≤ (k : Int) := by omega
    have i1 : (k : Int) < 7 := by omega
    clear hg hk
    go_enter Tryd.func18, Tryd.ntmps18
    go_wp2
    exact bodyPost_ret (results_cell rfl _ _ w.heap.size 37 _ _ rfl (Blk.new w _ _) Tryd.underlying37 rfl (by kernel_rfl)) rfl ⟨rfl, (Below.refl _ _).alloc (Nat.le_refl _) _⟩
  · rw [stG_out s h]
    by_cases h0 : s < 0
    · clear h hg
      go_enter Tryd.func18, Tryd.ntmps18
      go_wp2
      exact bodyPost_ret (results_cell rfl _ _ w.heap.size 37 _ _ rfl (Blk.new w _ _) Tryd.underlying37 rfl (by kernel_rfl)) rfl ⟨rfl, (Below.refl _ _).alloc (Nat.le_refl _) _⟩
    · have h1 : 7 ≤ s := by omega
      clear h hg
      go_enter Tryd.func18, Tryd.ntmps18
      go_wp2
      exact bodyPost_ret (results_cell rfl _ _ w.heap.size 37 _ _ rfl (Blk.new w _ _) Tryd.underlying37 rfl (by kernel_rfl)) rfl ⟨rfl, (Below.refl _ _).alloc (Nat.le_refl _) _⟩

/-- Of a state, and of none, the gains are told from none by '!='. -/
theorem eq_gains : ∀ k, k < 7 → ∀ w, (Op.equalIn 10000 37 (.agg #[.int .u64 (rateG k : Int), .int .u64 (flightG k : Int)]) (.agg #[.int .u64 0, .int .u64 0])).run Tryd.prog w = .ok false w :=
  seven (fun w => by kernel_rfl) (fun w => by kernel_rfl) (fun w => by kernel_rfl) (fun w => by kernel_rfl) (fun w => by kernel_rfl) (fun w => by kernel_rfl) (fun w => by kernel_rfl)
theorem eq_none (w : World) : (Op.equalIn 10000 37 (.agg #[.int .u64 (rateG 7 : Int), .int .u64 (flightG 7 : Int)]) (.agg #[.int .u64 0, .int .u64 0])).run Tryd.prog w = .ok true w := by kernel_rfl

theorem ga_Right (s : Int) (w : World) (hg : Gl w) :
    Calls Tryd.prog 7 #[.int .i64 s] w fun e w' => e = .returned (.bool (decide (stG s < 7))) ∧ Below w.heap.size w w' := by
  have HO := Lib.hid (ga_of s w hg)
  by_cases h : stG s < 7
  · have he := eq_gains (stG s) h
    rw [decide_eq_true h]
    generalize rateG (stG s) = a at *
    generalize flightG (stG s) = b at *
    clear hg h
    go_enter Tryd.func7, Tryd.ntmps7
    go_wp2_with (go_at_call 18; refine (HO.out).mono ?_; rintro e w' ⟨rfl, hb⟩)
    go_ret
    exact ⟨rfl, hb⟩
  · have he := eq_none
    rw [decide_eq_false h]
    rw [stG_seven s h] at HO
    generalize rateG 7 = a at *
    generalize flightG 7 = b at *
    clear hg h
    go_enter Tryd.func7, Tryd.ntmps7
    go_wp2_with (go_at_call 18; refine (HO.out).mono ?_; rintro e w' ⟨rfl, hb⟩)
    go_ret
    exact ⟨rfl, hb⟩

theorem ret2i {a b c d : Int} (h : a = c) (k : b = d) : Ending.returned (.tuple #[.int .i64 a, .int .i64 b]) = .returned (.tuple #[.int .i64 c, .int .i64 d]) := by rw [h, k]
/-- What Parse answers. -/
def parS (b : List UInt8) : Nat := if idxG b < 7 then idxG b else 0
def parE (b : List UInt8) : Nat := if idxG b < 7 then 0 else 31

theorem ga_Parse (s : ByteArray) (hs : s.size ≤ maxLen) (w : World) :
    Calls Tryd.prog 15 #[.string s] w fun e w' => e = .returned (.tuple #[.int .i64 (parS s.data.toList : Int), .int .i64 (parE s.data.toList : Int)]) ∧ Below w.heap.size w w' := by
  have HN := Lib.hid (ga_names w)
  have HK := Lib.hid (Go.WideMaps.keyOf_string_mk Tryd.underlying9 hs)
  have HA := Lib.hid (at_G s.data.toList)
  by_cases h : idxG s.data.toList < 7
  · have HS : Hid (parS s.data.toList = idxG s.data.toList ∧ parE s.data.toList = 0) := Lib.hid ⟨by unfold parS; rw [if_pos h], by unfold parE; rw [if_pos h]⟩
    rw [decide_eq_true h, if_pos h, ← HS.out.1] at HA
    generalize parS s.data.toList = x at *
    generalize parE s.data.toList = y at *
    clear h hs
    go_enter Tryd.func15, Tryd.ntmps15
    go_wp2_with (first
      | (go_at_call 19; refine (HN.out).mono ?_; rintro e w1 ⟨rfl, hm, hb⟩; have HM := Lib.hid hm; clear hm)
      | (at_lookup; refine wpList_lookup_own_ok_int _ rfl _ _ 39 rfl 9 22 .i64 lawS Tryd.underlying39 Tryd.underlying22 (zeroS _) w.heap.size 7 _ rfl HM.out _ _ rfl HK.out ?_; intro c hat hwc; rw [HA.out.2]; obtain rfl : c = (x : Int) := (by have e := hat.symm.trans HA.out.1; injection e with e; injection e with _ e))
      | go_in)
    go_ret2
    exact ⟨ret2i rfl (by rw [HS.out.2]; rfl), hb⟩
  · have HS : Hid (parS s.data.toList = 0 ∧ parE s.data.toList = 31) := Lib.hid ⟨by unfold parS; rw [if_neg h], by unfold parE; rw [if_neg h]⟩
    rw [decide_eq_false h] at HA
    generalize parS s.data.toList = x at *
    generalize parE s.data.toList = y at *
    clear h hs
    go_enter Tryd.func15, Tryd.ntmps15
    go_wp2_with (first
      | (go_at_call 19; refine (HN.out).mono ?_; rintro e w1 ⟨rfl, hm, hb⟩; have HM := Lib.hid hm; clear hm)
      | (at_lookup; refine wpList_lookup_own_ok_int _ rfl _ _ 39 rfl 9 22 .i64 lawS Tryd.underlying39 Tryd.underlying22 (zeroS _) w.heap.size 7 _ rfl HM.out _ _ rfl HK.out ?_; intro c hat hwc; rw [HA.out.2])
      | go_in)
    go_ret2
    exact ⟨ret2i (by rw [HS.out.1]; rfl) (by rw [HS.out.2]; rfl), hb⟩

/-- What holds of the states that the loop has not come to yet. -/
def Still (s : Int) (left : Lit → Bool) : Prop := ∀ i : Nat, i < 7 → (i : Int) = s → left (.string (nmG i)) = true

theorem nm7 : nmB 7 = ⟨#[]⟩ := rfl

set_option maxRecDepth 100000 in
set_option maxHeartbeats 1000000 in
theorem ga_Name (s : Int) (w : World) :
    Calls Tryd.prog 9 #[.int .i64 s] w fun e w' => e = .returned (.string (nmB (stG s))) ∧ Below w.heap.size w w' := by
  have HN := Lib.hid (ga_names w)
  go_enter Tryd.func9, Tryd.ntmps9
  go_wp2_with (first
    | (go_at_call 19; refine (HN.out).mono ?_; rintro e w1 ⟨rfl, hm, hb⟩; have HM := Lib.hid hm; have HB := Lib.hid hb; clear hm hb)
    | (at_range; refine wpList_range_own _ rfl _ 39 rfl 9 22 lawS Tryd.underlying39 _ w.heap.size 7 _ rfl HM.out ?_; intro w0 hrg0 hg0 hs0)
    | go_in)
  go_frame
  have HB0 := Lib.hid (HB.out.grown hg0 HB.out.size (fun j hj => by cases hj))
  have HR := Lib.hid HB.out.size
  generalize w1.heap.size = r at *
  clear hs0 hg0 HB HM HN
  go_loopw [3] (fun _ wr => ∃ left cnt, wr.ranges Tryd.prog 9 (plainElem (H := Unit) Tryd.prog 22) w.heap.size r 7 dG left cnt ∧ Still s left ∧ Below w.heap.size w wr) (fun _ wr => wr.rangeLeft w.heap.size r)
  case atStart => exact ⟨_, _, hrg0, fun i hi _ => by rw [(at_G (nmG i)).2, idx_nm i hi]; exact decide_eq_true hi, HB0.out⟩
  case round =>
    obtain ⟨left, cnt, hrg, hst, hbl⟩ := hrel
    have HRG := Lib.hid hrg
    have HST := Lib.hid hst
    have HBL := Lib.hid hbl
    clear hrg hst hbl hrg0 HB0
    go_wp2_with (first
      | (at_next; refine wpList_next_ranges _ rfl _ rfl 9 lawS (plainElem (H := Unit) Tryd.prog 22) Proofs.encStr (Value.int .i64) (fun key kl hk => by obtain ⟨x, hx, _⟩ := Maps.keyOf_str Tryd.underlying9 hk; exact ⟨x, hx⟩) (fun v y hv => by obtain ⟨c, rfl, _⟩ := plainElem_int_inv Tryd.underlying22 hv; exact ⟨c, rfl⟩) w.heap.size r 7 _ _ _ rfl HRG.out ?_ ?_)
      | go_in)
    · intro hc0 hl0
      have HZ : Hid (stG s = 7) := Lib.hid (by
        rcases stG_cases s with ⟨k, hk, rfl⟩ | h
        · have := HST.out k hk rfl
          rw [hl0] at this
          cases this
        · exact stG_out s h)
      clear hl0
      go_wp2
      go_ret
      exact ⟨by rw [HZ.out, nm7]; rfl, HBL.out⟩
    · intro x c kl yd yp w2 cnt2 hkey hlk hv hat hrg2 hlt hg2 hs2 hen
      obtain ⟨x', ex, rfl, _⟩ := Maps.keyOf_str Tryd.underlying9 hkey
      obtain rfl : x = x' := encStr_inj ex
      obtain ⟨c', ec, ey, _⟩ := plainElem_int_inv Tryd.underlying22 hv
      cases ec
      cases ey
      obtain ⟨i, hi, rfl, rfl⟩ := in_G hat
      have HRG2 := Lib.hid hrg2
      have HB2 := Lib.hid (HBL.out.grown hg2 HBL.out.size (fun j hj => by cases hj; exact HR.out))
      have HM := Lib.hid (show w2.rangeLeft w.heap.size r < wr.rangeLeft w.heap.size r by rw [hrg2.left_eq, HRG.out.left_eq]; exact hlt)
      clear hs2 hg2 hat hkey hlk hrg2 hlt hv ex HRG HBL
      by_cases h : (i : Int) = s
      · have hc : ((i : Int) == s) = true := beq_iff_eq.2 h
        have HE : Hid (stG s = i) := Lib.hid (by rw [← h]; exact stG_in i hi)
        clear h
        go_wp2
        go_ret
        exact ⟨by rw [HE.out]; rfl, HB2.out⟩
      · have hc : ((i : Int) == s) = false := beq_eq_false_iff_ne.2 h
        have HT : Hid (Still s (fun z => left z && !z.sameKey (.string (nmG i)))) := Lib.hid (fun j hj e => by
          show (left (.string (nmG j)) && !(Lit.string (nmG j)).sameKey (.string (nmG i))) = true
          rw [HST.out j hj e, sameStr]
          have : (nmG j == nmG i) = false := beq_eq_false_iff_ne.2 (fun e2 => h (by rw [← nm_inj j hj i hi e2]; exact e))
          rw [this]; rfl)
        clear h
        go_wp2
        go_roundw
        case rel => exact ⟨_, cnt2, HRG2.out, HT.out, HB2.out⟩
        case measure => exact HM.out

theorem ga_All (w : World) :
    Calls Tryd.prog 17 #[] w fun e w' => e = .returned (.slice (some ⟨w.heap.size, 0, none⟩) 7 7) ∧ w.alloc (.cells #[.int .i64 0, .int .i64 1, .int .i64 2, .int .i64 3, .int .i64 4, .int .i64 5, .int .i64 6] 22) = w' := by
  have hmk : (Instr.makeSlice 33 (.int .i64 7) (.int .i64 7)).run Tryd.prog w = .ok (.slice (some ⟨w.heap.size, 0, none⟩) 7 7) (w.alloc (.cells #[.int .i64 0, .int .i64 0, .int .i64 0, .int .i64 0, .int .i64 0, .int .i64 0, .int .i64 0] 22)) := by kernel_rfl
  go_enter Tryd.func17, Tryd.ntmps17
  go_wp2
  refine wp_loop_rounds 8 ?_
  rw [rounds_succ]
  go_wp2
  rw [rounds_succ]
  go_wp2
  rw [rounds_succ]
  go_wp2
  rw [rounds_succ]
  go_wp2
  rw [rounds_succ]
  go_wp2
  rw [rounds_succ]
  go_wp2
  rw [rounds_succ]
  go_wp2
  rw [rounds_succ]
  go_wp2
  go_ret
  exact ⟨rfl, rfl⟩
end Go.Proofs.YtokigijneengkaaDoor
