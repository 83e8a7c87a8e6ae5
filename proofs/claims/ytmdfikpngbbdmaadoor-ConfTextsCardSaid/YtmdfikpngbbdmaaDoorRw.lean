/- The document's words of a text, over this translation. -/
import Derived.Test.YtmdfikpngbbdmaaDoorRg
import Derived.Test.YtmdfikpngbbdmaaDoorTe
import Derived.BigRegion
import Derived.IntWalk
set_option linter.unusedVariables false
namespace Go.Proofs.YtmdfikpngbbdmaaDoor
open Go.RowKit Go.Shelf Cf

theorem ba_get {s : List UInt8} {k : Nat} {b : UInt8} (h : s[k]? = some b) (hk : k < (ba s).size) : (ba s)[k] = b := by
  have h1 : (ba s).data[k]? = some b := by simpa [ba] using h
  have h2 : (ba s).data[k]? = some ((ba s).data[k]'hk) := Array.getElem?_eq_getElem hk
  exact Option.some.inj (h2.symm.trans h1)
theorem ba_extract {s : ByteArray} {k : Nat} (hk : k < s.size) : s.extract k (k + 1) = ba [s[k]] := by
  apply WideShapes.bytes_inj
  rw [Lib.extract_eq]
  have : s.data.toList.drop k = s.data.toList[k]'(by simpa using hk) :: s.data.toList.drop (k + 1) := List.drop_eq_getElem_cons (by simpa using hk)
  simp [ba, this]
  rfl
def strV (l : List UInt8) : Value := .string (ba l)
def rowS (ws : List (List UInt8)) : List Value := ws.map strV

theorem row_at {n0 g m cap : Nat} {w : World} {xs : List Value} {u : Value} (hx : xs.length = m) (hr : w.ownsRow n0 9 1 (.slice (some ⟨g, 0, none⟩) (m + 1) cap) (m + 1) (xs ++ [u])) :
    w.cell? ⟨g, m, none⟩ = some u ∧ w.frozen? ⟨g, m, none⟩ = false := by
  have h1 := hr.cells (g := g) rfl m u (by rw [List.getElem?_append_right (by omega), hx]; simp)
  rw [Lib.add_plain, Nat.zero_add] at h1
  refine ⟨h1, ?_⟩
  rcases hr.2 with ⟨h, _⟩ | ⟨g', cap', cur, h, _, hgb, _⟩
  · cases h
  · cases h
    simp [World.frozen?, hgb]
theorem row_set {n0 g m cap : Nat} {w : World} {xs : List Value} {u : Value} (u' : Value) (hx : xs.length = m) (hr : w.ownsRow n0 9 1 (.slice (some ⟨g, 0, none⟩) (m + 1) cap) (m + 1) (xs ++ [u])) :
    (w.setCell ⟨g, m, none⟩ u').ownsRow n0 9 1 (.slice (some ⟨g, 0, none⟩) (m + 1) cap) (m + 1) (xs ++ [u']) := by
  refine ⟨by simp [hx], .inr ?_⟩
  rcases hr.2 with ⟨h, _⟩ | ⟨g', cap', cur, h, hb, hgb, hle, hmx, hsz, htk⟩
  · cases h
  · cases h
    have B : Blk w g 9 cur := hgb
    refine ⟨g, cap, cur.setIfInBounds m u', rfl, hb, B.set m u', hle, hmx, by simpa using hsz, ?_⟩
    rw [Array.toList_setIfInBounds]
    have hlen : m < cur.toList.length := by rw [Array.length_toList, hsz]; omega
    have e1 : cur.toList.take m = xs := by
      have := congrArg (List.take m) htk
      rw [List.take_take] at this
      rw [show min m ((m + 1) * 1) = m by omega] at this
      rw [this, List.take_append_of_le_length (by omega), List.take_of_length_le (by omega)]
    rw [show (m + 1) * 1 = m + 1 by omega, List.take_succ_eq_append_getElem (by simpa using hlen), List.take_set_of_le (Nat.le_refl _)]
    rw [e1]
    simp
theorem row_below {n0 g m cap : Nat} {w0 w : World} {xs : List Value} {u : Value} (u' : Value) (hb : Below n0 w0 w) (hr : w.ownsRow n0 9 1 (.slice (some ⟨g, 0, none⟩) (m + 1) cap) (m + 1) (xs ++ [u])) : Below n0 w0 (w.setCell ⟨g, m, none⟩ u') :=
  hb.setCell (p := ⟨g, m, none⟩) (hr.lt g rfl).1 _

/-- The loop's relation of Words. -/
def WR (w : World) (s : List UInt8) (v i : Value) (wr : World) : Prop :=
  ∃ k : Nat, k ≤ s.length ∧ i = .int .i64 k ∧ (wfold (s.take k)).1.length ≤ k ∧ (wfold (s.take k)).2.length ≤ k ∧
    wr.ownsRow w.heap.size 9 1 v ((wfold (s.take k)).1.length + 1) (rowS (wfold (s.take k)).1 ++ [strV (wfold (s.take k)).2]) ∧ Below w.heap.size w wr
def WPost (w : World) (s : List UInt8) (e : Ending) (w' : World) : Prop :=
  ∃ v, e = .returned v ∧ w'.ownsRow w.heap.size 9 1 v (wordsR s).length (rowS (wordsR s)) ∧ Below w.heap.size w w'

set_option maxRecDepth 100000 in
set_option maxHeartbeats 1000000 in
theorem ref_Words (s : List UInt8) (hs : s.length ≤ 300) (w : World) :
    Calls Tryd.prog 20 #[.string (ba s)] w (WPost w s) := by
  obtain ⟨i0, hi, hz0, hz1, hz2⟩ := info_parts info_str
  have hsz := ba_size s
  go_enter Tryd.func20, Tryd.ntmps20
  go_wp2_with fail
  go_loopw [3, 4] (WR w s) (fun _ i _ => s.length - (intOf i).toNat)
  case atStart =>
    refine ⟨0, by omega, rfl, by simp [wfold], by simp [wfold], ?_, (Below.refl _ _).alloc (Nat.le_refl _) _⟩
    refine ⟨rfl, .inr ⟨w.heap.size, 1, #[.string (ba [])], rfl, Nat.le_refl _, World.alloc_heap_new w _, Nat.le_refl _, by unfold maxLen; omega, rfl, rfl⟩⟩
  case round =>
    obtain ⟨k, hk, rfl, h1, h2, hr, hb⟩ := hrel
    by_cases hlt : k < s.length
    · obtain ⟨b, hbs⟩ : ∃ b, s[k]? = some b := ⟨_, List.getElem?_eq_getElem hlt⟩
      have hsn : wfold (s.take (k + 1)) = wstep (wfold (s.take k)) b := by
        rw [List.take_add_one, hbs, Option.toList_some, wfold_snoc]
      have HSN := Lib.hid hsn
      clear hsn
      generalize wfold (s.take k) = p at *
      obtain ⟨dn, cur⟩ := p
      dsimp only at h1 h2 hr
      obtain ⟨g, cap, rfl⟩ := ownsRow_succ hr
      have HR := Lib.hid hr
      have HB := Lib.hid hb
      have hszw := hb.size
      have hat := row_at (by simp [rowS]) hr
      clear hr hb
      have hk2 : k < (ba s).size := by omega
      have hbk : (ba s)[k] = b := ba_get hbs hk2
      clear hbs
      by_cases hc : b = 32
      · have d : (((ba s)[k].toNat : Int) == 32) = true := by rw [hbk, hc]; rfl
        have e1 : wfold (s.take (k + 1)) = (dn ++ [cur], []) := by rw [HSN.out]; unfold wstep; rw [if_pos hc]
        have HE := Lib.hid e1
        have HM : Hid (dn.length + 1 + 1 ≤ maxLen) := by show dn.length + 1 + 1 ≤ maxLen; unfold maxLen; omega
        clear e1 hc HSN hbk hat
        go_wp2_with (first
          | (at_builtin; refine wpList_append_own _ rfl _ _ 36 rfl w.heap.size 9 i0 (.string ByteArray.empty) 1 16 Tryd.underlying36 hi hz0 hz1 hz2 rfl (by decide) (.slice (some ⟨g, 0, none⟩) (dn.length + 1) cap) (dn.length + 1) (rowS dn ++ [strV cur]) rfl (HR.out.alloc _) ⟨wr.heap.size, 0, none⟩ 1 1 [.string ⟨#[]⟩] rfl rfl (cell_one_new _ _ _) (fun x hx => by simp at hx; subst hx; rfl) HM.out (by omega) (by simp; omega) ?_; intro v4 w4 hown4 hgrow4 hnil4))
        have R4 := Lib.hid hown4
        have B4 := Lib.hid (HB.out.trans (NoStr.bel (((NoStr.refl w.heap.size wr).alloc (.cells #[.string ⟨#[]⟩] 9) HB.out.size).trans (NoStr.grown (HR.out.alloc _) hgrow4 (by simp; omega)))))
        clear hgrow4 hnil4 hown4 HR HB
        go_wp2_with fail
        go_roundw
        case rel =>
          refine ⟨k + 1, by omega, by go_num, by rw [HE.out]; simp; omega, by rw [HE.out]; simp, ?_, B4.out⟩
          rw [HE.out]
          have := R4.out
          simpa [rowS, strV, ba] using this
        case measure => simp [intOf]; omega
      · have d : (((ba s)[k].toNat : Int) == 32) = false := by
          rw [hbk]
          refine beq_eq_false_iff_ne.2 (fun h => hc ?_)
          apply UInt8.toNat_inj.1
          have h32 : (32 : UInt8).toNat = 32 := rfl
          omega
        have e1 : wfold (s.take (k + 1)) = (dn, cur ++ [b]) := by rw [HSN.out]; unfold wstep; rw [if_neg hc]
        have HE := Lib.hid e1
        obtain ⟨hcl, hfr⟩ := hat
        unfold strV at hcl
        have HX : Hid ((ba s).extract k (k + 1) = ba [b]) := by
          show (ba s).extract k (k + 1) = ba [b]
          rw [← hbk]; exact ba_extract hk2
        have hzc : (ba cur).size ≤ 300 := by rw [ba_size]; omega
        clear e1 hc HSN hbk
        generalize hm : dn.length = m at *
        have HMM := Lib.hid hm
        clear hm
        go_wp2_with fail
        have a1 : IntKind.i64.wrap (m : Int) = (m : Int) := IntWalk.i64_in _ (by omega)
        have a2 : IntKind.i64.wrap ((k : Int) + 1) = (k : Int) + 1 := IntWalk.i64_in _ (by omega)
        have a3 : (m : Int) < (m : Int) + 1 := by omega
        have a4 : (0 : Int) ≤ (m : Int) := by omega
        have a5 : (0 : Int) ≤ (k : Int) := by omega
        have a6 : (k : Int) ≤ (k : Int) + 1 := by omega
        have a7 : (k : Int) + 1 ≤ ((ba s).size : Int) := by omega
        have a8 : ((k : Int) + 1).toNat = k + 1 := by omega
        have hsl : ∀ W : World, (Instr.slice 9 (.string (ba s)) (some (.int .i64 (k : Int))) (some (.int .i64 ((k : Int) + 1))) none).run Tryd.prog W = .ok (.string (ba [b])) W := fun W => by
          rw [run_slice_string W 9 (ba s) .i64 .i64 (k : Int) ((k : Int) + 1) Tryd.underlying9 (by omega) (by omega) (by omega), a8, Int.toNat_natCast, HX.out]
        have hz1 : (ba [b]).size = 1 := by rw [ba_size]; rfl
        refine wp_region_held_drew (S := fun _ => True) (by kernel_rfl) trivial (fun hHeld => ?_)
        simp only [List.size_toArray, List.length_cons, List.length_nil, Nat.reduceAdd, Array.replicate_succ, Array.replicate_zero, List.push_toArray, List.nil_append, List.cons_append]
        refine wpAnyH_take (i := 0) (oi := ⟨some 19, _, _, _, _, _⟩) (v := ?v0) rfl (by kernel_rfl) (by kernel_rfl) (by kernel_rfl) (fun _ _ _ h => h) (Or.inl ⟨by rfl, ?y0⟩) (by assumption) ?r0
        case y0 => intro w hSw; go_simp; (try with_reducible rfl)
        simp only [Act.put, List.setIfInBounds_toArray, List.set_cons_zero, List.set_cons_succ]
        refine wpAnyH_take (i := 1) (oi := ⟨some 20, _, _, _, _, _⟩) (v := ?v1) rfl (by kernel_rfl) (by kernel_rfl) (by kernel_rfl) (fun _ _ _ h => h) (Or.inl ⟨by rfl, ?y1⟩) (by assumption) ?r1
        case y1 => intro w hSw; go_simp; (try with_reducible rfl)
        simp only [Act.put, List.setIfInBounds_toArray, List.set_cons_zero, List.set_cons_succ]
        refine wpAnyH_take (i := 2) (oi := ⟨some 21, _, _, _, _, _⟩) (v := ?v2) rfl (by kernel_rfl) (by kernel_rfl) (by kernel_rfl) (fun _ _ _ h => h) (Or.inl ⟨by rfl, ?y2⟩) (by assumption) ?r2
        case y2 => intro w hSw; go_simp; (try with_reducible rfl)
        simp only [Act.put, List.setIfInBounds_toArray, List.set_cons_zero, List.set_cons_succ]
        refine wpAnyH_take (i := 3) (oi := ⟨some 22, _, _, _, _, _⟩) (v := ?v3) rfl (by kernel_rfl) (by kernel_rfl) (by kernel_rfl) (fun _ _ _ h => h) (Or.inl ⟨by rfl, ?y3⟩) (by assumption) ?r3
        case y3 => intro w hSw; go_simp; (try with_reducible rfl)
        simp only [Act.put, List.setIfInBounds_toArray, List.set_cons_zero, List.set_cons_succ]
        refine wpAnyH_take (i := 4) (oi := ⟨some 23, _, _, _, _, _⟩) (v := ?v4) rfl (by kernel_rfl) (by kernel_rfl) (by kernel_rfl) (fun _ _ _ h => h) (Or.inl ⟨by rfl, ?y4⟩) (by assumption) ?r4
        case y4 => intro w hSw; go_simp; (try with_reducible rfl)
        simp only [Act.put, List.setIfInBounds_toArray, List.set_cons_zero, List.set_cons_succ]
        refine wpAnyH_take (i := 5) (oi := ⟨some 24, _, _, _, _, _⟩) (v := ?v5) rfl (by kernel_rfl) (by kernel_rfl) (by kernel_rfl) (fun _ _ _ h => h) (Or.inl ⟨by rfl, ?y5⟩) (by assumption) ?r5
        case y5 => intro w hSw; go_simp; (try with_reducible rfl)
        simp only [Act.put, List.setIfInBounds_toArray, List.set_cons_zero, List.set_cons_succ]
        refine wpAnyH_take (i := 6) (oi := ⟨some 25, _, _, _, _, _⟩) (v := ?v6) rfl (by kernel_rfl) (by kernel_rfl) (by kernel_rfl) (fun _ _ _ h => h) (Or.inl ⟨by rfl, ?y6⟩) (by assumption) ?r6
        case y6 => intro w hSw; go_simp; (try with_reducible rfl)
        simp only [Act.put, List.setIfInBounds_toArray, List.set_cons_zero, List.set_cons_succ]
        refine wpAnyH_take (i := 7) (oi := ⟨some 26, _, _, _, _, _⟩) (v := ?v7) rfl (by kernel_rfl) (by kernel_rfl) (by kernel_rfl) (fun _ _ _ h => h) (Or.inl ⟨by rfl, ?y7⟩) (by assumption) ?r7
        case y7 => intro w hSw; go_simp; (try with_reducible rfl)
        simp only [Act.put, List.setIfInBounds_toArray, List.set_cons_zero, List.set_cons_succ]
        refine wpAnyH_take (i := 8) (oi := ⟨some 27, _, _, _, _, _⟩) (v := ?v8) rfl (by kernel_rfl) (by kernel_rfl) (by kernel_rfl) (fun _ _ _ h => h) (Or.inl ⟨by rfl, ?y8⟩) (by assumption) ?r8
        case y8 => intro w hSw; go_simp; (try with_reducible rfl)
        simp only [Act.put, List.setIfInBounds_toArray, List.set_cons_zero, List.set_cons_succ]
        refine wpAnyH_take (i := 10) (oi := ⟨some 29, _, _, _, _, _⟩) (v := ?v10) rfl (by kernel_rfl) (by kernel_rfl) (by kernel_rfl) (fun _ _ _ h => h) (Or.inl ⟨by rfl, ?y10⟩) (by assumption) ?r10
        case y10 => intro w hSw; go_simp; (try with_reducible rfl)
        simp only [Act.put, List.setIfInBounds_toArray, List.set_cons_zero, List.set_cons_succ]
        refine wpAnyH_take (i := 11) (oi := ⟨some 30, _, _, _, _, _⟩) (v := ?v11) rfl (by kernel_rfl) (by kernel_rfl) (by kernel_rfl) (fun _ _ _ h => h) (Or.inl ⟨by rfl, ?y11⟩) (by assumption) ?r11
        case y11 => intro w hSw; go_simp; (try with_reducible rfl)
        simp only [Act.put, List.setIfInBounds_toArray, List.set_cons_zero, List.set_cons_succ]
        refine wpAnyH_take (i := 12) (oi := ⟨some 31, _, _, _, _, _⟩) (v := ?v12) rfl (by kernel_rfl) (by kernel_rfl) (by kernel_rfl) (fun _ _ _ h => h) (Or.inl ⟨by rfl, ?y12⟩) (by assumption) ?r12
        case y12 => intro w hSw; go_simp; (try with_reducible rfl)
        simp only [Act.put, List.setIfInBounds_toArray, List.set_cons_zero, List.set_cons_succ]
        refine wpAnyH_take (i := 13) (oi := ⟨some 32, _, _, _, _, _⟩) (v := ?v13) rfl (by kernel_rfl) (by kernel_rfl) (by kernel_rfl) (fun _ _ _ h => h) (Or.inl ⟨by rfl, ?y13⟩) (by assumption) ?r13
        case y13 => intro w hSw; go_simp; (try with_reducible rfl)
        simp only [Act.put, List.setIfInBounds_toArray, List.set_cons_zero, List.set_cons_succ]
        refine wpAnyH_take (i := 14) (oi := ⟨some 33, _, _, _, _, _⟩) (v := ?v14) rfl (by kernel_rfl) (by kernel_rfl) (by kernel_rfl) (fun _ _ _ h => h) (Or.inl ⟨by rfl, ?y14⟩) (by assumption) ?r14
        case y14 => intro w hSw; go_simp; (try with_reducible rfl)
        simp only [Act.put, List.setIfInBounds_toArray, List.set_cons_zero, List.set_cons_succ]
        refine wpAnyH_ready (rs := [9]) (by kernel_rfl) (by simp) ?_
        refine AllReadyH.cons (o := ⟨some 28, _, _, _, _, _⟩) rfl (fun K hK => ?_) AllReadyH.nil
        go_simp
        refine hK.out _ _ trivial (fun hHeld => ?_)
        clear hK
        simp only [List.setIfInBounds_toArray, List.set_cons_zero, List.set_cons_succ]
        refine wpAnyH_take (i := 15) (oi := ⟨some 34, _, _, _, _, _⟩) (v := ?v15) rfl (by kernel_rfl) (by kernel_rfl) (by kernel_rfl) (fun _ _ _ h => h) (Or.inl ⟨by rfl, ?y15⟩) (by assumption) ?r15
        case y15 => intro w hSw; go_simp; rw [if_neg (by omega)]
        simp only [Act.put, List.setIfInBounds_toArray, List.set_cons_zero, List.set_cons_succ]
        refine wpAnyH_take (i := 16) (oi := ⟨some 35, _, _, _, _, _⟩) (v := ?v16) rfl (by kernel_rfl) (by kernel_rfl) (by kernel_rfl) (fun _ _ _ h => h) (Or.inl ⟨by rfl, ?y16⟩) (by assumption) ?r16
        case y16 => intro w hSw; go_simp; (try with_reducible rfl)
        simp only [Act.put, List.setIfInBounds_toArray, List.set_cons_zero, List.set_cons_succ]
        refine wpAnyH_ready (rs := [17]) (by kernel_rfl) (by simp) ?_
        refine AllReadyH.cons (o := ⟨none, _, _, _, _, _⟩) rfl (fun K hK => ?_) AllReadyH.nil
        go_simp
        refine hK.out _ _ trivial (fun hHeld => ?_)
        clear hK
        refine wpAnyH_done (by kernel_rfl) ?_ _
        rw [ba_app]
        have R4 := Lib.hid (row_set (strV (cur ++ [b])) (by simp [rowS]; exact HMM.out) HR.out)
        have B4 := Lib.hid (row_below (strV (cur ++ [b])) HB.out HR.out)
        unfold strV at R4 B4
        generalize wr.setCell ⟨g, m, none⟩ (.string (ba (cur ++ [b]))) = w4 at *
        clear hcl hfr HR HB a1 a2 a3 a4 a5 a6 a7 a8 hsl hHeld
        have R5 := Lib.hid (row_keep R4.out (bel_drew' w4))
        have B5 := Lib.hid (bel_to B4.out (bel_drew' w4) B4.out.size)
        clear R4 B4
        generalize w4.drew = w5 at *
        go_wp2_with fail
        go_roundw
        case rel =>
          refine ⟨k + 1, by omega, by go_num, by rw [HE.out]; have := HMM.out; dsimp; omega, by rw [HE.out]; simp; omega, ?_, B5.out⟩
          rw [HE.out]
          have := R5.out
          rw [← HMM.out] at this
          rw [← HMM.out]
          exact this
        case measure => simp [intOf]; omega
    · have hkk : k = s.length := by omega
      subst hkk
      rw [List.take_of_length_le (Nat.le_refl _)] at hr
      have HR := Lib.hid hr
      have HB := Lib.hid hb
      clear hr hb h1 h2
      go_wp2_with fail
      go_ret
      refine ⟨_, rfl, ?_, HB.out⟩
      have := HR.out
      unfold wordsR rowS
      simpa [rowS] using this
end Go.Proofs.YtmdfikpngbbdmaaDoor
