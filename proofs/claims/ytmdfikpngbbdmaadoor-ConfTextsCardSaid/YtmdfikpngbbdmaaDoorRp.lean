/- The document's Parse for setups, over this translation. -/
import Derived.Test.YtmdfikpngbbdmaaDoorRn
import Derived.Test.YtmdfikpngbbdmaaDoorLaw03a
set_option linter.unusedVariables false
namespace Go.Proofs.YtmdfikpngbbdmaaDoor
open Go.RowKit Go.Shelf Cf

theorem row_base {a b T : Nat} {w : World} {v : Value} {k : Nat} {xs : List Value} (hr : w.ownsRow b T 1 v k xs) (hab : a ≤ b) : w.ownsRow a T 1 v k xs := by
  refine ⟨hr.1, ?_⟩
  rcases hr.2 with h | ⟨g, cap, cur, h, hb, rest⟩
  · exact .inl h
  · exact .inr ⟨g, cap, cur, h, Nat.le_trans hab hb, rest⟩
theorem row_kept {T b : Nat} {w w' : World} {v : Value} {k : Nat} {xs : List Value} (hr : w.ownsRow b T 1 v k xs) (hb : Below w.heap.size w w') : w'.ownsRow b T 1 v k xs :=
  hr.kept (gr_below hb none) (by cases hv : v.ownBlock <;> simp)

/-- A step that changes, of what was there, rows of numbers alone, at n0 or above. -/
structure NoNum (n0 : Nat) (w w' : World) : Prop where
  size : w.heap.size ≤ w'.heap.size
  others : ∀ (k : Nat) (o : Obj), w.heap[k]? = some o → (∀ cs fr, o ≠ Obj.cells cs 22 fr) → w'.heap[k]? = some o
  bel : Below n0 w w'
theorem NoNum.grown {n0 : Nat} {w w' : World} {v : Value} {k : Nat} {xs : List Value} {o : Obj} (hr : w.ownsRow n0 22 1 v k xs) (hg : (w.alloc o).grownBy w' v.ownBlock) (hn : n0 ≤ w.heap.size) : NoNum n0 w w' := by
  refine ⟨Nat.le_trans (by simp) hg.size, fun j ob hj ho => ?_, ?_⟩
  · have hlt := (Array.getElem?_eq_some_iff.1 hj).1
    have h1 : (w.alloc o).heap[j]? = some ob := (Below.heap_alloc _ _ _ hlt).trans hj
    refine (hg.block j (by simp; omega) (fun e => ?_)).trans h1
    rcases hr.2 with ⟨rfl, _⟩ | ⟨g, cap, cur, rfl, _, hgb, _⟩
    · simp [Value.ownBlock] at e
    · obtain rfl : j = g := by simpa [Value.ownBlock] using e
      rw [hj] at hgb
      exact ho _ _ (Option.some.inj hgb)
  · refine ((Below.refl n0 w).alloc hn o).grown hg (by simp; omega) (fun j e => ?_)
    rcases hr.2 with ⟨rfl, _⟩ | ⟨g, cap, cur, rfl, hb, _, _⟩
    · simp [Value.ownBlock] at e
    · obtain rfl : g = j := by simpa [Value.ownBlock] using e
      exact hb
theorem NoNum.blk {n0 : Nat} {w w' : World} {b : Nat} {T : TypeId} {cs : Array Value} (h : NoNum n0 w w') (hb : Blk w b T cs) (hT : T ≠ 22) : Blk w' b T cs :=
  h.others b _ hb (fun cs' fr e => by cases e; exact hT rfl)
theorem NoNum.row {n0 b T : Nat} {w w' : World} {v : Value} {k : Nat} {xs : List Value} (h : NoNum n0 w w') (hr : w.ownsRow b T 1 v k xs) (hT : T ≠ 22) : w'.ownsRow b T 1 v k xs := by
  refine ⟨hr.1, ?_⟩
  rcases hr.2 with hn | ⟨g, cap, cur, e, hb, hgb, rest⟩
  · exact .inl hn
  · exact .inr ⟨g, cap, cur, e, hb, h.blk hgb hT, rest⟩

theorem words_le (s : List UInt8) : ∀ x ∈ wordsR s, x.length ≤ s.length := by
  have H : (∀ x ∈ (wfold s).1, x.length ≤ s.length) ∧ (wfold s).2.length ≤ s.length := by
    refine snocInd (P := fun s => (∀ x ∈ (wfold s).1, x.length ≤ s.length) ∧ (wfold s).2.length ≤ s.length) ⟨by simp [wfold], by simp [wfold]⟩ ?_ s
    rintro s b ⟨h1, h2⟩
    rw [wfold_snoc]
    unfold wstep
    split
    · refine ⟨fun x hx => ?_, by simp⟩
      simp at hx
      simp
      rcases hx with hx | rfl
      · have := h1 x hx; omega
      · omega
    · refine ⟨fun x hx => ?_, by simp; omega⟩
      have := h1 x hx
      simp; omega
  intro x hx
  unfold wordsR at hx
  simp at hx
  rcases hx with hx | rfl
  · exact H.1 x hx
  · exact H.2
theorem getD_le (ws : List (List UInt8)) (n j : Nat) (h : ∀ x ∈ ws, x.length ≤ n) : (ws.getD j []).length ≤ n := by
  rw [List.getD_eq_getElem?_getD]
  cases e : ws[j]? with
  | none => simp
  | some x => exact h x (List.mem_of_getElem? e)

theorem wfold_len (s : List UInt8) : (wfold s).1.length ≤ s.length := by
  refine snocInd (P := fun s => (wfold s).1.length ≤ s.length) (by simp [wfold]) ?_ s
  intro s b h
  rw [wfold_snoc]
  unfold wstep
  split
  · simp; omega
  · simp; omega
def nameCells : Array Value := #[.string ⟨#[109, 115, 115]⟩, .string ⟨#[105, 110, 105, 116]⟩, .string ⟨#[114, 101, 111, 114, 100, 101, 114]⟩, .string ⟨#[119, 105, 110, 100, 111, 119]⟩, .string ⟨#[112, 114, 111, 98, 101]⟩, .string ⟨#[108, 111, 115, 115]⟩]
def refV (s : List UInt8) : Setup := (parseR s).getD zeroC
def refE (s : List UInt8) : Int := if (parseR s).isSome then 0 else 31
theorem ref_no {s : List UInt8} (h : parseR s = none) : refV s = zeroC ∧ refE s = 31 := by unfold refV refE; rw [h]; exact ⟨rfl, rfl⟩
theorem ref_yes {s : List UInt8} {c : Setup} (h : parseR s = some c) : refV s = c ∧ refE s = 0 := by unfold refV refE; rw [h]; exact ⟨rfl, rfl⟩

theorem row_drewN {b T : Nat} {w : World} {v : Value} {k : Nat} {xs : List Value} (hr : w.ownsRow b T 1 v k xs) (n : Nat) : (w.drewN n).ownsRow b T 1 v k xs := hr

theorem cell_al {w : World} {a : Addr} {v : Value} (h : w.cell? a = some v) (o : Obj) : (w.alloc o).drew.cell? a = some v :=
  (World.cell?_alloc_lt w o a (World.block_lt_of_cell? w a h)).trans h
theorem row_lt {b T g n cap k : Nat} {w : World} {xs : List Value} (hr : w.ownsRow b T 1 (.slice (some ⟨g, 0, none⟩) n cap) k xs) : g < w.heap.size := by
  rcases hr.2 with ⟨h, _⟩ | ⟨g', cap', cur, e, hb, hgb, rest⟩
  · cases h
  · cases e; exact (Array.getElem?_eq_some_iff.1 hgb).1

def numRow (l : List Nat) : List Value := l.map (fun (n : Nat) => Value.int .u64 (n : Int))
/-- The loop's relation of Parse. -/
def PR (w : World) (ws : List (List UInt8)) (v : Value) (bn : Nat) (vl i : Value) (wr : World) : Prop :=
  ∃ (k : Nat) (l : List Nat), k ≤ 6 ∧ i = .int .i64 k ∧ refL ws k = some l ∧ wr.ownsRow w.heap.size 22 1 vl k (numRow l) ∧ wr.ownsRow w.heap.size 9 1 v 12 (rowS ws) ∧ Blk wr bn 9 nameCells ∧ Blk wr w.heap.size 24 (ccells zeroC) ∧ Below w.heap.size w wr

theorem row_cell {b : Nat} {w : World} {g n cap : Nat} {ws : List (List UInt8)} (hr : w.ownsRow b 9 1 (.slice (some ⟨g, 0, none⟩) n cap) n (rowS ws)) (j : Nat) (hj : j < ws.length) : w.cell? ⟨g, j, none⟩ = some (.string (ba (ws.getD j []))) := by
  have h := hr.cells (g := g) rfl j (strV (ws.getD j [])) (by
    unfold rowS
    rw [List.getElem?_map, List.getD_eq_getElem?_getD, List.getElem?_eq_getElem hj]; rfl)
  rw [Lib.add_plain, Nat.zero_add] at h
  exact h

theorem info_u64 : (Tryd.prog.info? 22).map (fun i => (i.zero, i.size, i.bytes)) = some (some (.int .u64 0), 1, 8) := by kernel_rfl

set_option maxRecDepth 100000 in
set_option maxHeartbeats 2000000 in
theorem ref_Parse (s : List UInt8) (hs : s.length ≤ 300) (w : World) :
    Calls Tryd.prog 9 #[.string (ba s)] w fun e w' => e = .returned (.tuple #[.agg (ccells (refV s)), .int .i64 (refE s)]) ∧ Below w.heap.size w w' := by
  have HW := Lib.hid (ref_Words s hs (w.alloc (.cells (ccells zeroC) 24)))
  have g0 := Lib.hid ((Below.refl w.heap.size w).alloc (Nat.le_refl _) (.cells (ccells zeroC) 24))
  have b0 := Lib.hid (Blk.new w 24 (ccells zeroC))
  obtain ⟨i0, hi, hz0, hz1, hz2⟩ := info_parts info_u64
  go_enter Tryd.func9, Tryd.ntmps9
  go_wp2_with fail
  refine HW.out.mono ?_
  rintro e w1 ⟨v, rfl, hr, hb1⟩
  have G1 := Lib.hid (bel_to g0.out hb1 (by simp))
  have B1 := Lib.hid (b0.out.keep hb1)
  have hlen : (wordsR s).length = (wfold s).1.length + 1 := by simp [wordsR]
  have hr' := hr
  rw [hlen] at hr'
  obtain ⟨g, cap, rfl⟩ := ownsRow_succ hr'
  rw [← hlen] at hr ⊢
  have R1 := Lib.hid (row_base hr (show w.heap.size ≤ _ by simp))
  have HPR : Hid (parseR s = if (wordsR s).length = 12 then (refL (wordsR s) 6).bind (fun l => if rightC (ofL l) = true then some (ofL l) else none) else none) := rfl
  have HLW := Lib.hid (fun x hx => Nat.le_trans (words_le s x hx) hs)
  have hL300 : (wordsR s).length ≤ 301 := by
    rw [hlen]
    have := wfold_len s
    omega
  clear hr hr' hlen hb1 HW g0 b0
  generalize wordsR s = ws at *
  have gN := (Below.refl w1.heap.size w1).alloc (Nat.le_refl _) (.cells nameCells 9)
  have G2 := Lib.hid (bel_to G1.out gN G1.out.size)
  have B2 := Lib.hid (B1.out.keep gN)
  have R2 := Lib.hid (row_kept R1.out gN)
  have N2 := Lib.hid (Blk.new w1 9 nameCells)
  have hlt1 := B1.out.lt
  clear gN R1
  by_cases h12 : ws.length = 12
  · have d1 : ((ws.length : Int) == 12) = true := by rw [h12]; rfl
    have d2 : ((ws.length : Int) != 12) = false := by rw [h12]; rfl
    rw [h12] at R2 ⊢
    clear d1 d2 hL300
    have d1 : ((12 : Int) == 12) = true := rfl
    go_wp2_with fail
    rw [show (#[.string ⟨#[109, 115, 115]⟩, .string ⟨#[105, 110, 105, 116]⟩, .string ⟨#[114, 101, 111, 114, 100, 101, 114]⟩, .string ⟨#[119, 105, 110, 100, 111, 119]⟩, .string ⟨#[112, 114, 111, 98, 101]⟩, .string ⟨#[108, 111, 115, 115]⟩] : Array Value) = nameCells from rfl]
    go_loopw [6, 7] (PR w ws (.slice (some ⟨g, 0, none⟩) 12 cap) w1.heap.size) (fun _ i _ => 6 - (intOf i).toNat)
    case atStart => exact ⟨0, [], by omega, rfl, rfl, World.ownsRow_nil _ _ _ _, R2.out, N2.out, B2.out, G2.out⟩
    case round =>
      clear R2 N2 B2 G2 B1 G1
      obtain ⟨k, l, hk, rfl, hl, hr, hR, hN, hB, hG⟩ := hrel
      have ZR := Lib.hid hr
      have ZS := Lib.hid hR
      have ZN := Lib.hid hN
      have ZB := Lib.hid hB
      have ZG := Lib.hid hG
      have HLL := Lib.hid hl
      clear hr hR hN hB hG hl
      by_cases hlt : k < 6
      · have H : k = 0 ∨ k = 1 ∨ k = 2 ∨ k = 3 ∨ k = 4 ∨ k = 5 := by omega
        clear hk hlt
        rcases H with rfl | rfl | rfl | rfl | rfl | rfl
        · have c1 := row_cell ZS.out 1 (by omega)
          have c0 := row_cell ZS.out 0 (by omega)
          have cn := ZN.out.cell (i := 0) (v := .string ⟨#[109, 115, 115]⟩) rfl
          have HNu := Lib.hid (ref_Number (ws.getD 1 []) (getD_le ws 300 1 HLW.out) wr)
          have HRL : Hid (refL ws 1 = (numR (ws.getD 1 [])).bind (fun n => if ws.getD 0 [] = [109, 115, 115] then some (l ++ [n]) else none)) := by
            show refL ws (0 + 1) = _
            rw [refL, HLL.out]; rfl
          generalize ws.getD 1 [] = x1 at *
          generalize ws.getD 0 [] = x0 at *
          go_wp2_with fail
          refine HNu.out.mono ?_
          rintro e w3 ⟨rfl, rfl⟩
          clear HNu
          cases hnr : numR x1 with
          | none =>
            have hv := num_no hnr
            rw [hv.1, hv.2]
            rw [hnr] at HRL
            have hE := ref_no (s := s) (by rw [HPR.out, if_pos h12, refL_none ws 1 HRL.out 5]; rfl)
            have HE := Lib.hid hE
            clear hE hv HRL hnr
            go_wp2_with fail
            go_quiet (fail)
            have Z4 := Lib.hid (ZB.out.drewN nq)
            have G4 := Lib.hid (bel_drewN ZG.out nq)
            have R4 := Lib.hid (row_drewN ZR.out nq)
            have S4 := Lib.hid (row_drewN ZS.out nq)
            have N4 := Lib.hid (ZN.out.drewN nq)
            clear c1 c0 cn ZB ZG ZR ZS ZN
            generalize wr.drewN nq = w4 at *
            have p0 := ccell Z4.out 0
            have p1 := ccell Z4.out 1
            have p2 := ccell Z4.out 2
            have p3 := ccell Z4.out 3
            have p4 := ccell Z4.out 4
            have p5 := ccell Z4.out 5
            have f0 := Z4.out.free 0
            have f1 := Z4.out.free 1
            have f2 := Z4.out.free 2
            have f3 := Z4.out.free 3
            have f4 := Z4.out.free 4
            have f5 := Z4.out.free 5
            simp only [show (0 : Fin 6).val = 0 from rfl, show (1 : Fin 6).val = 1 from rfl, show (2 : Fin 6).val = 2 from rfl, show (3 : Fin 6).val = 3 from rfl, show (4 : Fin 6).val = 4 from rfl, show (5 : Fin 6).val = 5 from rfl] at p0 p1 p2 p3 p4 p5
            go_wp2_with fail
            have P6 := put6_blk zeroC Z4.out
            have L6 := put6_bel (b := w.heap.size) zeroC G4.out (Nat.le_refl _)
            clear p0 p1 p2 p3 p4 p5 f0 f1 f2 f3 f4 f5
            change bodyPost _ _ _ _ _ (put6 w4 w.heap.size zeroC)
            generalize put6 w4 w.heap.size zeroC = w6 at *
            have q0 := ccell P6 0
            have q1 := ccell P6 1
            have q2 := ccell P6 2
            have q3 := ccell P6 3
            have q4 := ccell P6 4
            have q5 := ccell P6 5
            simp only [show (0 : Fin 6).val = 0 from rfl, show (1 : Fin 6).val = 1 from rfl, show (2 : Fin 6).val = 2 from rfl, show (3 : Fin 6).val = 3 from rfl, show (4 : Fin 6).val = 4 from rfl, show (5 : Fin 6).val = 5 from rfl] at q0 q1 q2 q3 q4 q5
            exact bodyPost_ret (v := .tuple #[.agg (ccells zeroC), .int .i64 31]) (by simp [results, Tryd.results9, go_sem, q0, q1, q2, q3, q4, q5, ccells]) rfl ⟨by rw [HE.out.1, HE.out.2], L6⟩
          | some n =>
            have hv := num_yes hnr
            have hn40 := (numR_some hnr).2
            rw [hv.1, hv.2]
            rw [hnr] at HRL
            have HN40 := Lib.hid hn40
            clear hv hnr hn40
            by_cases hx : x0 = [109, 115, 115]
            · have d5 : ((ba x0).toList == (⟨#[109, 115, 115]⟩ : ByteArray).toList) = true := by rw [hx]; exact beq_self_eq_true _
              have d6 : ((ba x0).toList == [109, 115, 115]) = true := by rw [ba_toList, hx]; exact beq_self_eq_true _
              have HR2 : Hid (refL ws 1 = some (l ++ [n])) := by
                show refL ws 1 = some (l ++ [n])
                rw [HRL.out, Option.bind_some, if_pos hx]
              clear HRL hx
              go_wp2_with fail
              go_quiet (fail)
              have Z4 := Lib.hid (ZB.out.drewN nq)
              have G4 := Lib.hid (bel_drewN ZG.out nq)
              have R4 := Lib.hid (row_drewN ZR.out nq)
              have S4 := Lib.hid (row_drewN ZS.out nq)
              have N4 := Lib.hid (ZN.out.drewN nq)
              clear c1 c0 cn ZB ZG ZR ZS ZN
              generalize wr.drewN nq = w4 at *
              have p0 := ccell Z4.out 0
              have p1 := ccell Z4.out 1
              have p2 := ccell Z4.out 2
              have p3 := ccell Z4.out 3
              have p4 := ccell Z4.out 4
              have p5 := ccell Z4.out 5
              have f0 := Z4.out.free 0
              have f1 := Z4.out.free 1
              have f2 := Z4.out.free 2
              have f3 := Z4.out.free 3
              have f4 := Z4.out.free 4
              have f5 := Z4.out.free 5
              simp only [show (0 : Fin 6).val = 0 from rfl, show (1 : Fin 6).val = 1 from rfl, show (2 : Fin 6).val = 2 from rfl, show (3 : Fin 6).val = 3 from rfl, show (4 : Fin 6).val = 4 from rfl, show (5 : Fin 6).val = 5 from rfl] at p0 p1 p2 p3 p4 p5
              clear p0 p1 p2 p3 p4 p5 f0 f1 f2 f3 f4 f5
              have hszw := G4.out.size
              go_wp2_with (first
                | (at_builtin; refine wpList_append_own _ rfl _ _ 49 rfl w.heap.size 22 i0 (.int .u64 0) 1 8 Tryd.underlying49 hi hz0 hz1 hz2 rfl (by decide) _ 0 (numRow l) rfl (R4.out.alloc _) ⟨w4.heap.size, 0, none⟩ 1 1 [.int .u64 (n : Int)] rfl rfl (cell_one_new _ _ _) (fun x hx => by simp at hx; subst hx; rfl) (by unfold maxLen; omega) (by omega) (by simp; omega) ?_; intro v5 w5 hown5 hgrow5 hnil5))
              have M5 := NoNum.grown R4.out hgrow5 G4.out.size
              have R5 := Lib.hid hown5
              have S5 := Lib.hid (M5.row S4.out (by decide))
              have N5 := Lib.hid (M5.blk N4.out (by decide))
              have Z5 := Lib.hid (M5.blk Z4.out (by decide))
              have G5 := Lib.hid (G4.out.trans M5.bel)
              clear M5 hown5 hgrow5 hnil5 R4 S4 N4 Z4 G4
              go_wp2_with fail
              go_roundw
              case rel => exact ⟨1, l ++ [n], by omega, rfl, HR2.out, by have := R5.out; simpa [numRow] using this, S5.out, N5.out, Z5.out, G5.out⟩
              case measure => simp [intOf]
            · have d5 : ((ba x0).toList == (⟨#[109, 115, 115]⟩ : ByteArray).toList) = false := ba_beq hx
              have d6 : ((ba x0).toList == [109, 115, 115]) = false := by rw [ba_toList]; simpa using hx
              have hE := ref_no (s := s) (by rw [HPR.out, if_pos h12, refL_none ws 1 (by rw [HRL.out, Option.bind_some, if_neg hx]) 5]; rfl)
              have HE := Lib.hid hE
              clear hE HRL hx
              go_wp2_with fail
              go_quiet (fail)
              have Z4 := Lib.hid (ZB.out.drewN nq)
              have G4 := Lib.hid (bel_drewN ZG.out nq)
              have R4 := Lib.hid (row_drewN ZR.out nq)
              have S4 := Lib.hid (row_drewN ZS.out nq)
              have N4 := Lib.hid (ZN.out.drewN nq)
              clear c1 c0 cn ZB ZG ZR ZS ZN
              generalize wr.drewN nq = w4 at *
              have p0 := ccell Z4.out 0
              have p1 := ccell Z4.out 1
              have p2 := ccell Z4.out 2
              have p3 := ccell Z4.out 3
              have p4 := ccell Z4.out 4
              have p5 := ccell Z4.out 5
              have f0 := Z4.out.free 0
              have f1 := Z4.out.free 1
              have f2 := Z4.out.free 2
              have f3 := Z4.out.free 3
              have f4 := Z4.out.free 4
              have f5 := Z4.out.free 5
              simp only [show (0 : Fin 6).val = 0 from rfl, show (1 : Fin 6).val = 1 from rfl, show (2 : Fin 6).val = 2 from rfl, show (3 : Fin 6).val = 3 from rfl, show (4 : Fin 6).val = 4 from rfl, show (5 : Fin 6).val = 5 from rfl] at p0 p1 p2 p3 p4 p5
              go_wp2_with fail
              have P6 := put6_blk zeroC Z4.out
              have L6 := put6_bel (b := w.heap.size) zeroC G4.out (Nat.le_refl _)
              clear p0 p1 p2 p3 p4 p5 f0 f1 f2 f3 f4 f5
              change bodyPost _ _ _ _ _ (put6 w4 w.heap.size zeroC)
              generalize put6 w4 w.heap.size zeroC = w6 at *
              have q0 := ccell P6 0
              have q1 := ccell P6 1
              have q2 := ccell P6 2
              have q3 := ccell P6 3
              have q4 := ccell P6 4
              have q5 := ccell P6 5
              simp only [show (0 : Fin 6).val = 0 from rfl, show (1 : Fin 6).val = 1 from rfl, show (2 : Fin 6).val = 2 from rfl, show (3 : Fin 6).val = 3 from rfl, show (4 : Fin 6).val = 4 from rfl, show (5 : Fin 6).val = 5 from rfl] at q0 q1 q2 q3 q4 q5
              exact bodyPost_ret (v := .tuple #[.agg (ccells zeroC), .int .i64 31]) (by simp [results, Tryd.results9, go_sem, q0, q1, q2, q3, q4, q5, ccells]) rfl ⟨by rw [HE.out.1, HE.out.2], L6⟩
        · have c1 := row_cell ZS.out 3 (by omega)
          have c0 := row_cell ZS.out 2 (by omega)
          have cn := ZN.out.cell (i := 1) (v := .string ⟨#[105, 110, 105, 116]⟩) rfl
          have HNu := Lib.hid (ref_Number (ws.getD 3 []) (getD_le ws 300 3 HLW.out) wr)
          have HRL : Hid (refL ws 2 = (numR (ws.getD 3 [])).bind (fun n => if ws.getD 2 [] = [105, 110, 105, 116] then some (l ++ [n]) else none)) := by
            show refL ws (1 + 1) = _
            rw [refL, HLL.out]; rfl
          generalize ws.getD 3 [] = x1 at *
          generalize ws.getD 2 [] = x0 at *
          go_wp2_with fail
          refine HNu.out.mono ?_
          rintro e w3 ⟨rfl, rfl⟩
          clear HNu
          cases hnr : numR x1 with
          | none =>
            have hv := num_no hnr
            rw [hv.1, hv.2]
            rw [hnr] at HRL
            have hE := ref_no (s := s) (by rw [HPR.out, if_pos h12, refL_none ws 2 HRL.out 4]; rfl)
            have HE := Lib.hid hE
            clear hE hv HRL hnr
            go_wp2_with fail
            go_quiet (fail)
            have Z4 := Lib.hid (ZB.out.drewN nq)
            have G4 := Lib.hid (bel_drewN ZG.out nq)
            have R4 := Lib.hid (row_drewN ZR.out nq)
            have S4 := Lib.hid (row_drewN ZS.out nq)
            have N4 := Lib.hid (ZN.out.drewN nq)
            clear c1 c0 cn ZB ZG ZR ZS ZN
            generalize wr.drewN nq = w4 at *
            have p0 := ccell Z4.out 0
            have p1 := ccell Z4.out 1
            have p2 := ccell Z4.out 2
            have p3 := ccell Z4.out 3
            have p4 := ccell Z4.out 4
            have p5 := ccell Z4.out 5
            have f0 := Z4.out.free 0
            have f1 := Z4.out.free 1
            have f2 := Z4.out.free 2
            have f3 := Z4.out.free 3
            have f4 := Z4.out.free 4
            have f5 := Z4.out.free 5
            simp only [show (0 : Fin 6).val = 0 from rfl, show (1 : Fin 6).val = 1 from rfl, show (2 : Fin 6).val = 2 from rfl, show (3 : Fin 6).val = 3 from rfl, show (4 : Fin 6).val = 4 from rfl, show (5 : Fin 6).val = 5 from rfl] at p0 p1 p2 p3 p4 p5
            go_wp2_with fail
            have P6 := put6_blk zeroC Z4.out
            have L6 := put6_bel (b := w.heap.size) zeroC G4.out (Nat.le_refl _)
            clear p0 p1 p2 p3 p4 p5 f0 f1 f2 f3 f4 f5
            change bodyPost _ _ _ _ _ (put6 w4 w.heap.size zeroC)
            generalize put6 w4 w.heap.size zeroC = w6 at *
            have q0 := ccell P6 0
            have q1 := ccell P6 1
            have q2 := ccell P6 2
            have q3 := ccell P6 3
            have q4 := ccell P6 4
            have q5 := ccell P6 5
            simp only [show (0 : Fin 6).val = 0 from rfl, show (1 : Fin 6).val = 1 from rfl, show (2 : Fin 6).val = 2 from rfl, show (3 : Fin 6).val = 3 from rfl, show (4 : Fin 6).val = 4 from rfl, show (5 : Fin 6).val = 5 from rfl] at q0 q1 q2 q3 q4 q5
            exact bodyPost_ret (v := .tuple #[.agg (ccells zeroC), .int .i64 31]) (by simp [results, Tryd.results9, go_sem, q0, q1, q2, q3, q4, q5, ccells]) rfl ⟨by rw [HE.out.1, HE.out.2], L6⟩
          | some n =>
            have hv := num_yes hnr
            have hn40 := (numR_some hnr).2
            rw [hv.1, hv.2]
            rw [hnr] at HRL
            have HN40 := Lib.hid hn40
            clear hv hnr hn40
            by_cases hx : x0 = [105, 110, 105, 116]
            · have d5 : ((ba x0).toList == (⟨#[105, 110, 105, 116]⟩ : ByteArray).toList) = true := by rw [hx]; exact beq_self_eq_true _
              have d6 : ((ba x0).toList == [105, 110, 105, 116]) = true := by rw [ba_toList, hx]; exact beq_self_eq_true _
              have HR2 : Hid (refL ws 2 = some (l ++ [n])) := by
                show refL ws 2 = some (l ++ [n])
                rw [HRL.out, Option.bind_some, if_pos hx]
              clear HRL hx
              go_wp2_with fail
              go_quiet (fail)
              have Z4 := Lib.hid (ZB.out.drewN nq)
              have G4 := Lib.hid (bel_drewN ZG.out nq)
              have R4 := Lib.hid (row_drewN ZR.out nq)
              have S4 := Lib.hid (row_drewN ZS.out nq)
              have N4 := Lib.hid (ZN.out.drewN nq)
              clear c1 c0 cn ZB ZG ZR ZS ZN
              generalize wr.drewN nq = w4 at *
              have p0 := ccell Z4.out 0
              have p1 := ccell Z4.out 1
              have p2 := ccell Z4.out 2
              have p3 := ccell Z4.out 3
              have p4 := ccell Z4.out 4
              have p5 := ccell Z4.out 5
              have f0 := Z4.out.free 0
              have f1 := Z4.out.free 1
              have f2 := Z4.out.free 2
              have f3 := Z4.out.free 3
              have f4 := Z4.out.free 4
              have f5 := Z4.out.free 5
              simp only [show (0 : Fin 6).val = 0 from rfl, show (1 : Fin 6).val = 1 from rfl, show (2 : Fin 6).val = 2 from rfl, show (3 : Fin 6).val = 3 from rfl, show (4 : Fin 6).val = 4 from rfl, show (5 : Fin 6).val = 5 from rfl] at p0 p1 p2 p3 p4 p5
              clear p0 p1 p2 p3 p4 p5 f0 f1 f2 f3 f4 f5
              have hszw := G4.out.size
              go_wp2_with (first
                | (at_builtin; refine wpList_append_own _ rfl _ _ 49 rfl w.heap.size 22 i0 (.int .u64 0) 1 8 Tryd.underlying49 hi hz0 hz1 hz2 rfl (by decide) _ 1 (numRow l) rfl (R4.out.alloc _) ⟨w4.heap.size, 0, none⟩ 1 1 [.int .u64 (n : Int)] rfl rfl (cell_one_new _ _ _) (fun x hx => by simp at hx; subst hx; rfl) (by unfold maxLen; omega) (by omega) (by simp; omega) ?_; intro v5 w5 hown5 hgrow5 hnil5))
              have M5 := NoNum.grown R4.out hgrow5 G4.out.size
              have R5 := Lib.hid hown5
              have S5 := Lib.hid (M5.row S4.out (by decide))
              have N5 := Lib.hid (M5.blk N4.out (by decide))
              have Z5 := Lib.hid (M5.blk Z4.out (by decide))
              have G5 := Lib.hid (G4.out.trans M5.bel)
              clear M5 hown5 hgrow5 hnil5 R4 S4 N4 Z4 G4
              go_wp2_with fail
              go_roundw
              case rel => exact ⟨2, l ++ [n], by omega, rfl, HR2.out, by have := R5.out; simpa [numRow] using this, S5.out, N5.out, Z5.out, G5.out⟩
              case measure => simp [intOf]
            · have d5 : ((ba x0).toList == (⟨#[105, 110, 105, 116]⟩ : ByteArray).toList) = false := ba_beq hx
              have d6 : ((ba x0).toList == [105, 110, 105, 116]) = false := by rw [ba_toList]; simpa using hx
              have hE := ref_no (s := s) (by rw [HPR.out, if_pos h12, refL_none ws 2 (by rw [HRL.out, Option.bind_some, if_neg hx]) 4]; rfl)
              have HE := Lib.hid hE
              clear hE HRL hx
              go_wp2_with fail
              go_quiet (fail)
              have Z4 := Lib.hid (ZB.out.drewN nq)
              have G4 := Lib.hid (bel_drewN ZG.out nq)
              have R4 := Lib.hid (row_drewN ZR.out nq)
              have S4 := Lib.hid (row_drewN ZS.out nq)
              have N4 := Lib.hid (ZN.out.drewN nq)
              clear c1 c0 cn ZB ZG ZR ZS ZN
              generalize wr.drewN nq = w4 at *
              have p0 := ccell Z4.out 0
              have p1 := ccell Z4.out 1
              have p2 := ccell Z4.out 2
              have p3 := ccell Z4.out 3
              have p4 := ccell Z4.out 4
              have p5 := ccell Z4.out 5
              have f0 := Z4.out.free 0
              have f1 := Z4.out.free 1
              have f2 := Z4.out.free 2
              have f3 := Z4.out.free 3
              have f4 := Z4.out.free 4
              have f5 := Z4.out.free 5
              simp only [show (0 : Fin 6).val = 0 from rfl, show (1 : Fin 6).val = 1 from rfl, show (2 : Fin 6).val = 2 from rfl, show (3 : Fin 6).val = 3 from rfl, show (4 : Fin 6).val = 4 from rfl, show (5 : Fin 6).val = 5 from rfl] at p0 p1 p2 p3 p4 p5
              go_wp2_with fail
              have P6 := put6_blk zeroC Z4.out
              have L6 := put6_bel (b := w.heap.size) zeroC G4.out (Nat.le_refl _)
              clear p0 p1 p2 p3 p4 p5 f0 f1 f2 f3 f4 f5
              change bodyPost _ _ _ _ _ (put6 w4 w.heap.size zeroC)
              generalize put6 w4 w.heap.size zeroC = w6 at *
              have q0 := ccell P6 0
              have q1 := ccell P6 1
              have q2 := ccell P6 2
              have q3 := ccell P6 3
              have q4 := ccell P6 4
              have q5 := ccell P6 5
              simp only [show (0 : Fin 6).val = 0 from rfl, show (1 : Fin 6).val = 1 from rfl, show (2 : Fin 6).val = 2 from rfl, show (3 : Fin 6).val = 3 from rfl, show (4 : Fin 6).val = 4 from rfl, show (5 : Fin 6).val = 5 from rfl] at q0 q1 q2 q3 q4 q5
              exact bodyPost_ret (v := .tuple #[.agg (ccells zeroC), .int .i64 31]) (by simp [results, Tryd.results9, go_sem, q0, q1, q2, q3, q4, q5, ccells]) rfl ⟨by rw [HE.out.1, HE.out.2], L6⟩
        · have c1 := row_cell ZS.out 5 (by omega)
          have c0 := row_cell ZS.out 4 (by omega)
          have cn := ZN.out.cell (i := 2) (v := .string ⟨#[114, 101, 111, 114, 100, 101, 114]⟩) rfl
          have HNu := Lib.hid (ref_Number (ws.getD 5 []) (getD_le ws 300 5 HLW.out) wr)
          have HRL : Hid (refL ws 3 = (numR (ws.getD 5 [])).bind (fun n => if ws.getD 4 [] = [114, 101, 111, 114, 100, 101, 114] then some (l ++ [n]) else none)) := by
            show refL ws (2 + 1) = _
            rw [refL, HLL.out]; rfl
          generalize ws.getD 5 [] = x1 at *
          generalize ws.getD 4 [] = x0 at *
          go_wp2_with fail
          refine HNu.out.mono ?_
          rintro e w3 ⟨rfl, rfl⟩
          clear HNu
          cases hnr : numR x1 with
          | none =>
            have hv := num_no hnr
            rw [hv.1, hv.2]
            rw [hnr] at HRL
            have hE := ref_no (s := s) (by rw [HPR.out, if_pos h12, refL_none ws 3 HRL.out 3]; rfl)
            have HE := Lib.hid hE
            clear hE hv HRL hnr
            go_wp2_with fail
            go_quiet (fail)
            have Z4 := Lib.hid (ZB.out.drewN nq)
            have G4 := Lib.hid (bel_drewN ZG.out nq)
            have R4 := Lib.hid (row_drewN ZR.out nq)
            have S4 := Lib.hid (row_drewN ZS.out nq)
            have N4 := Lib.hid (ZN.out.drewN nq)
            clear c1 c0 cn ZB ZG ZR ZS ZN
            generalize wr.drewN nq = w4 at *
            have p0 := ccell Z4.out 0
            have p1 := ccell Z4.out 1
            have p2 := ccell Z4.out 2
            have p3 := ccell Z4.out 3
            have p4 := ccell Z4.out 4
            have p5 := ccell Z4.out 5
            have f0 := Z4.out.free 0
            have f1 := Z4.out.free 1
            have f2 := Z4.out.free 2
            have f3 := Z4.out.free 3
            have f4 := Z4.out.free 4
            have f5 := Z4.out.free 5
            simp only [show (0 : Fin 6).val = 0 from rfl, show (1 : Fin 6).val = 1 from rfl, show (2 : Fin 6).val = 2 from rfl, show (3 : Fin 6).val = 3 from rfl, show (4 : Fin 6).val = 4 from rfl, show (5 : Fin 6).val = 5 from rfl] at p0 p1 p2 p3 p4 p5
            go_wp2_with fail
            have P6 := put6_blk zeroC Z4.out
            have L6 := put6_bel (b := w.heap.size) zeroC G4.out (Nat.le_refl _)
            clear p0 p1 p2 p3 p4 p5 f0 f1 f2 f3 f4 f5
            change bodyPost _ _ _ _ _ (put6 w4 w.heap.size zeroC)
            generalize put6 w4 w.heap.size zeroC = w6 at *
            have q0 := ccell P6 0
            have q1 := ccell P6 1
            have q2 := ccell P6 2
            have q3 := ccell P6 3
            have q4 := ccell P6 4
            have q5 := ccell P6 5
            simp only [show (0 : Fin 6).val = 0 from rfl, show (1 : Fin 6).val = 1 from rfl, show (2 : Fin 6).val = 2 from rfl, show (3 : Fin 6).val = 3 from rfl, show (4 : Fin 6).val = 4 from rfl, show (5 : Fin 6).val = 5 from rfl] at q0 q1 q2 q3 q4 q5
            exact bodyPost_ret (v := .tuple #[.agg (ccells zeroC), .int .i64 31]) (by simp [results, Tryd.results9, go_sem, q0, q1, q2, q3, q4, q5, ccells]) rfl ⟨by rw [HE.out.1, HE.out.2], L6⟩
          | some n =>
            have hv := num_yes hnr
            have hn40 := (numR_some hnr).2
            rw [hv.1, hv.2]
            rw [hnr] at HRL
            have HN40 := Lib.hid hn40
            clear hv hnr hn40
            by_cases hx : x0 = [114, 101, 111, 114, 100, 101, 114]
            · have d5 : ((ba x0).toList == (⟨#[114, 101, 111, 114, 100, 101, 114]⟩ : ByteArray).toList) = true := by rw [hx]; exact beq_self_eq_true _
              have d6 : ((ba x0).toList == [114, 101, 111, 114, 100, 101, 114]) = true := by rw [ba_toList, hx]; exact beq_self_eq_true _
              have HR2 : Hid (refL ws 3 = some (l ++ [n])) := by
                show refL ws 3 = some (l ++ [n])
                rw [HRL.out, Option.bind_some, if_pos hx]
              clear HRL hx
              go_wp2_with fail
              go_quiet (fail)
              have Z4 := Lib.hid (ZB.out.drewN nq)
              have G4 := Lib.hid (bel_drewN ZG.out nq)
              have R4 := Lib.hid (row_drewN ZR.out nq)
              have S4 := Lib.hid (row_drewN ZS.out nq)
              have N4 := Lib.hid (ZN.out.drewN nq)
              clear c1 c0 cn ZB ZG ZR ZS ZN
              generalize wr.drewN nq = w4 at *
              have p0 := ccell Z4.out 0
              have p1 := ccell Z4.out 1
              have p2 := ccell Z4.out 2
              have p3 := ccell Z4.out 3
              have p4 := ccell Z4.out 4
              have p5 := ccell Z4.out 5
              have f0 := Z4.out.free 0
              have f1 := Z4.out.free 1
              have f2 := Z4.out.free 2
              have f3 := Z4.out.free 3
              have f4 := Z4.out.free 4
              have f5 := Z4.out.free 5
              simp only [show (0 : Fin 6).val = 0 from rfl, show (1 : Fin 6).val = 1 from rfl, show (2 : Fin 6).val = 2 from rfl, show (3 : Fin 6).val = 3 from rfl, show (4 : Fin 6).val = 4 from rfl, show (5 : Fin 6).val = 5 from rfl] at p0 p1 p2 p3 p4 p5
              clear p0 p1 p2 p3 p4 p5 f0 f1 f2 f3 f4 f5
              have hszw := G4.out.size
              go_wp2_with (first
                | (at_builtin; refine wpList_append_own _ rfl _ _ 49 rfl w.heap.size 22 i0 (.int .u64 0) 1 8 Tryd.underlying49 hi hz0 hz1 hz2 rfl (by decide) _ 2 (numRow l) rfl (R4.out.alloc _) ⟨w4.heap.size, 0, none⟩ 1 1 [.int .u64 (n : Int)] rfl rfl (cell_one_new _ _ _) (fun x hx => by simp at hx; subst hx; rfl) (by unfold maxLen; omega) (by omega) (by simp; omega) ?_; intro v5 w5 hown5 hgrow5 hnil5))
              have M5 := NoNum.grown R4.out hgrow5 G4.out.size
              have R5 := Lib.hid hown5
              have S5 := Lib.hid (M5.row S4.out (by decide))
              have N5 := Lib.hid (M5.blk N4.out (by decide))
              have Z5 := Lib.hid (M5.blk Z4.out (by decide))
              have G5 := Lib.hid (G4.out.trans M5.bel)
              clear M5 hown5 hgrow5 hnil5 R4 S4 N4 Z4 G4
              go_wp2_with fail
              go_roundw
              case rel => exact ⟨3, l ++ [n], by omega, rfl, HR2.out, by have := R5.out; simpa [numRow] using this, S5.out, N5.out, Z5.out, G5.out⟩
              case measure => simp [intOf]
            · have d5 : ((ba x0).toList == (⟨#[114, 101, 111, 114, 100, 101, 114]⟩ : ByteArray).toList) = false := ba_beq hx
              have d6 : ((ba x0).toList == [114, 101, 111, 114, 100, 101, 114]) = false := by rw [ba_toList]; simpa using hx
              have hE := ref_no (s := s) (by rw [HPR.out, if_pos h12, refL_none ws 3 (by rw [HRL.out, Option.bind_some, if_neg hx]) 3]; rfl)
              have HE := Lib.hid hE
              clear hE HRL hx
              go_wp2_with fail
              go_quiet (fail)
              have Z4 := Lib.hid (ZB.out.drewN nq)
              have G4 := Lib.hid (bel_drewN ZG.out nq)
              have R4 := Lib.hid (row_drewN ZR.out nq)
              have S4 := Lib.hid (row_drewN ZS.out nq)
              have N4 := Lib.hid (ZN.out.drewN nq)
              clear c1 c0 cn ZB ZG ZR ZS ZN
              generalize wr.drewN nq = w4 at *
              have p0 := ccell Z4.out 0
              have p1 := ccell Z4.out 1
              have p2 := ccell Z4.out 2
              have p3 := ccell Z4.out 3
              have p4 := ccell Z4.out 4
              have p5 := ccell Z4.out 5
              have f0 := Z4.out.free 0
              have f1 := Z4.out.free 1
              have f2 := Z4.out.free 2
              have f3 := Z4.out.free 3
              have f4 := Z4.out.free 4
              have f5 := Z4.out.free 5
              simp only [show (0 : Fin 6).val = 0 from rfl, show (1 : Fin 6).val = 1 from rfl, show (2 : Fin 6).val = 2 from rfl, show (3 : Fin 6).val = 3 from rfl, show (4 : Fin 6).val = 4 from rfl, show (5 : Fin 6).val = 5 from rfl] at p0 p1 p2 p3 p4 p5
              go_wp2_with fail
              have P6 := put6_blk zeroC Z4.out
              have L6 := put6_bel (b := w.heap.size) zeroC G4.out (Nat.le_refl _)
              clear p0 p1 p2 p3 p4 p5 f0 f1 f2 f3 f4 f5
              change bodyPost _ _ _ _ _ (put6 w4 w.heap.size zeroC)
              generalize put6 w4 w.heap.size zeroC = w6 at *
              have q0 := ccell P6 0
              have q1 := ccell P6 1
              have q2 := ccell P6 2
              have q3 := ccell P6 3
              have q4 := ccell P6 4
              have q5 := ccell P6 5
              simp only [show (0 : Fin 6).val = 0 from rfl, show (1 : Fin 6).val = 1 from rfl, show (2 : Fin 6).val = 2 from rfl, show (3 : Fin 6).val = 3 from rfl, show (4 : Fin 6).val = 4 from rfl, show (5 : Fin 6).val = 5 from rfl] at q0 q1 q2 q3 q4 q5
              exact bodyPost_ret (v := .tuple #[.agg (ccells zeroC), .int .i64 31]) (by simp [results, Tryd.results9, go_sem, q0, q1, q2, q3, q4, q5, ccells]) rfl ⟨by rw [HE.out.1, HE.out.2], L6⟩
        · have c1 := row_cell ZS.out 7 (by omega)
          have c0 := row_cell ZS.out 6 (by omega)
          have cn := ZN.out.cell (i := 3) (v := .string ⟨#[119, 105, 110, 100, 111, 119]⟩) rfl
          have HNu := Lib.hid (ref_Number (ws.getD 7 []) (getD_le ws 300 7 HLW.out) wr)
          have HRL : Hid (refL ws 4 = (numR (ws.getD 7 [])).bind (fun n => if ws.getD 6 [] = [119, 105, 110, 100, 111, 119] then some (l ++ [n]) else none)) := by
            show refL ws (3 + 1) = _
            rw [refL, HLL.out]; rfl
          generalize ws.getD 7 [] = x1 at *
          generalize ws.getD 6 [] = x0 at *
          go_wp2_with fail
          refine HNu.out.mono ?_
          rintro e w3 ⟨rfl, rfl⟩
          clear HNu
          cases hnr : numR x1 with
          | none =>
            have hv := num_no hnr
            rw [hv.1, hv.2]
            rw [hnr] at HRL
            have hE := ref_no (s := s) (by rw [HPR.out, if_pos h12, refL_none ws 4 HRL.out 2]; rfl)
            have HE := Lib.hid hE
            clear hE hv HRL hnr
            go_wp2_with fail
            go_quiet (fail)
            have Z4 := Lib.hid (ZB.out.drewN nq)
            have G4 := Lib.hid (bel_drewN ZG.out nq)
            have R4 := Lib.hid (row_drewN ZR.out nq)
            have S4 := Lib.hid (row_drewN ZS.out nq)
            have N4 := Lib.hid (ZN.out.drewN nq)
            clear c1 c0 cn ZB ZG ZR ZS ZN
            generalize wr.drewN nq = w4 at *
            have p0 := ccell Z4.out 0
            have p1 := ccell Z4.out 1
            have p2 := ccell Z4.out 2
            have p3 := ccell Z4.out 3
            have p4 := ccell Z4.out 4
            have p5 := ccell Z4.out 5
            have f0 := Z4.out.free 0
            have f1 := Z4.out.free 1
            have f2 := Z4.out.free 2
            have f3 := Z4.out.free 3
            have f4 := Z4.out.free 4
            have f5 := Z4.out.free 5
            simp only [show (0 : Fin 6).val = 0 from rfl, show (1 : Fin 6).val = 1 from rfl, show (2 : Fin 6).val = 2 from rfl, show (3 : Fin 6).val = 3 from rfl, show (4 : Fin 6).val = 4 from rfl, show (5 : Fin 6).val = 5 from rfl] at p0 p1 p2 p3 p4 p5
            go_wp2_with fail
            have P6 := put6_blk zeroC Z4.out
            have L6 := put6_bel (b := w.heap.size) zeroC G4.out (Nat.le_refl _)
            clear p0 p1 p2 p3 p4 p5 f0 f1 f2 f3 f4 f5
            change bodyPost _ _ _ _ _ (put6 w4 w.heap.size zeroC)
            generalize put6 w4 w.heap.size zeroC = w6 at *
            have q0 := ccell P6 0
            have q1 := ccell P6 1
            have q2 := ccell P6 2
            have q3 := ccell P6 3
            have q4 := ccell P6 4
            have q5 := ccell P6 5
            simp only [show (0 : Fin 6).val = 0 from rfl, show (1 : Fin 6).val = 1 from rfl, show (2 : Fin 6).val = 2 from rfl, show (3 : Fin 6).val = 3 from rfl, show (4 : Fin 6).val = 4 from rfl, show (5 : Fin 6).val = 5 from rfl] at q0 q1 q2 q3 q4 q5
            exact bodyPost_ret (v := .tuple #[.agg (ccells zeroC), .int .i64 31]) (by simp [results, Tryd.results9, go_sem, q0, q1, q2, q3, q4, q5, ccells]) rfl ⟨by rw [HE.out.1, HE.out.2], L6⟩
          | some n =>
            have hv := num_yes hnr
            have hn40 := (numR_some hnr).2
            rw [hv.1, hv.2]
            rw [hnr] at HRL
            have HN40 := Lib.hid hn40
            clear hv hnr hn40
            by_cases hx : x0 = [119, 105, 110, 100, 111, 119]
            · have d5 : ((ba x0).toList == (⟨#[119, 105, 110, 100, 111, 119]⟩ : ByteArray).toList) = true := by rw [hx]; exact beq_self_eq_true _
              have d6 : ((ba x0).toList == [119, 105, 110, 100, 111, 119]) = true := by rw [ba_toList, hx]; exact beq_self_eq_true _
              have HR2 : Hid (refL ws 4 = some (l ++ [n])) := by
                show refL ws 4 = some (l ++ [n])
                rw [HRL.out, Option.bind_some, if_pos hx]
              clear HRL hx
              go_wp2_with fail
              go_quiet (fail)
              have Z4 := Lib.hid (ZB.out.drewN nq)
              have G4 := Lib.hid (bel_drewN ZG.out nq)
              have R4 := Lib.hid (row_drewN ZR.out nq)
              have S4 := Lib.hid (row_drewN ZS.out nq)
              have N4 := Lib.hid (ZN.out.drewN nq)
              clear c1 c0 cn ZB ZG ZR ZS ZN
              generalize wr.drewN nq = w4 at *
              have p0 := ccell Z4.out 0
              have p1 := ccell Z4.out 1
              have p2 := ccell Z4.out 2
              have p3 := ccell Z4.out 3
              have p4 := ccell Z4.out 4
              have p5 := ccell Z4.out 5
              have f0 := Z4.out.free 0
              have f1 := Z4.out.free 1
              have f2 := Z4.out.free 2
              have f3 := Z4.out.free 3
              have f4 := Z4.out.free 4
              have f5 := Z4.out.free 5
              simp only [show (0 : Fin 6).val = 0 from rfl, show (1 : Fin 6).val = 1 from rfl, show (2 : Fin 6).val = 2 from rfl, show (3 : Fin 6).val = 3 from rfl, show (4 : Fin 6).val = 4 from rfl, show (5 : Fin 6).val = 5 from rfl] at p0 p1 p2 p3 p4 p5
              clear p0 p1 p2 p3 p4 p5 f0 f1 f2 f3 f4 f5
              have hszw := G4.out.size
              go_wp2_with (first
                | (at_builtin; refine wpList_append_own _ rfl _ _ 49 rfl w.heap.size 22 i0 (.int .u64 0) 1 8 Tryd.underlying49 hi hz0 hz1 hz2 rfl (by decide) _ 3 (numRow l) rfl (R4.out.alloc _) ⟨w4.heap.size, 0, none⟩ 1 1 [.int .u64 (n : Int)] rfl rfl (cell_one_new _ _ _) (fun x hx => by simp at hx; subst hx; rfl) (by unfold maxLen; omega) (by omega) (by simp; omega) ?_; intro v5 w5 hown5 hgrow5 hnil5))
              have M5 := NoNum.grown R4.out hgrow5 G4.out.size
              have R5 := Lib.hid hown5
              have S5 := Lib.hid (M5.row S4.out (by decide))
              have N5 := Lib.hid (M5.blk N4.out (by decide))
              have Z5 := Lib.hid (M5.blk Z4.out (by decide))
              have G5 := Lib.hid (G4.out.trans M5.bel)
              clear M5 hown5 hgrow5 hnil5 R4 S4 N4 Z4 G4
              go_wp2_with fail
              go_roundw
              case rel => exact ⟨4, l ++ [n], by omega, rfl, HR2.out, by have := R5.out; simpa [numRow] using this, S5.out, N5.out, Z5.out, G5.out⟩
              case measure => simp [intOf]
            · have d5 : ((ba x0).toList == (⟨#[119, 105, 110, 100, 111, 119]⟩ : ByteArray).toList) = false := ba_beq hx
              have d6 : ((ba x0).toList == [119, 105, 110, 100, 111, 119]) = false := by rw [ba_toList]; simpa using hx
              have hE := ref_no (s := s) (by rw [HPR.out, if_pos h12, refL_none ws 4 (by rw [HRL.out, Option.bind_some, if_neg hx]) 2]; rfl)
              have HE := Lib.hid hE
              clear hE HRL hx
              go_wp2_with fail
              go_quiet (fail)
              have Z4 := Lib.hid (ZB.out.drewN nq)
              have G4 := Lib.hid (bel_drewN ZG.out nq)
              have R4 := Lib.hid (row_drewN ZR.out nq)
              have S4 := Lib.hid (row_drewN ZS.out nq)
              have N4 := Lib.hid (ZN.out.drewN nq)
              clear c1 c0 cn ZB ZG ZR ZS ZN
              generalize wr.drewN nq = w4 at *
              have p0 := ccell Z4.out 0
              have p1 := ccell Z4.out 1
              have p2 := ccell Z4.out 2
              have p3 := ccell Z4.out 3
              have p4 := ccell Z4.out 4
              have p5 := ccell Z4.out 5
              have f0 := Z4.out.free 0
              have f1 := Z4.out.free 1
              have f2 := Z4.out.free 2
              have f3 := Z4.out.free 3
              have f4 := Z4.out.free 4
              have f5 := Z4.out.free 5
              simp only [show (0 : Fin 6).val = 0 from rfl, show (1 : Fin 6).val = 1 from rfl, show (2 : Fin 6).val = 2 from rfl, show (3 : Fin 6).val = 3 from rfl, show (4 : Fin 6).val = 4 from rfl, show (5 : Fin 6).val = 5 from rfl] at p0 p1 p2 p3 p4 p5
              go_wp2_with fail
              have P6 := put6_blk zeroC Z4.out
              have L6 := put6_bel (b := w.heap.size) zeroC G4.out (Nat.le_refl _)
              clear p0 p1 p2 p3 p4 p5 f0 f1 f2 f3 f4 f5
              change bodyPost _ _ _ _ _ (put6 w4 w.heap.size zeroC)
              generalize put6 w4 w.heap.size zeroC = w6 at *
              have q0 := ccell P6 0
              have q1 := ccell P6 1
              have q2 := ccell P6 2
              have q3 := ccell P6 3
              have q4 := ccell P6 4
              have q5 := ccell P6 5
              simp only [show (0 : Fin 6).val = 0 from rfl, show (1 : Fin 6).val = 1 from rfl, show (2 : Fin 6).val = 2 from rfl, show (3 : Fin 6).val = 3 from rfl, show (4 : Fin 6).val = 4 from rfl, show (5 : Fin 6).val = 5 from rfl] at q0 q1 q2 q3 q4 q5
              exact bodyPost_ret (v := .tuple #[.agg (ccells zeroC), .int .i64 31]) (by simp [results, Tryd.results9, go_sem, q0, q1, q2, q3, q4, q5, ccells]) rfl ⟨by rw [HE.out.1, HE.out.2], L6⟩
        · have c1 := row_cell ZS.out 9 (by omega)
          have c0 := row_cell ZS.out 8 (by omega)
          have cn := ZN.out.cell (i := 4) (v := .string ⟨#[112, 114, 111, 98, 101]⟩) rfl
          have HNu := Lib.hid (ref_Number (ws.getD 9 []) (getD_le ws 300 9 HLW.out) wr)
          have HRL : Hid (refL ws 5 = (numR (ws.getD 9 [])).bind (fun n => if ws.getD 8 [] = [112, 114, 111, 98, 101] then some (l ++ [n]) else none)) := by
            show refL ws (4 + 1) = _
            rw [refL, HLL.out]; rfl
          generalize ws.getD 9 [] = x1 at *
          generalize ws.getD 8 [] = x0 at *
          go_wp2_with fail
          refine HNu.out.mono ?_
          rintro e w3 ⟨rfl, rfl⟩
          clear HNu
          cases hnr : numR x1 with
          | none =>
            have hv := num_no hnr
            rw [hv.1, hv.2]
            rw [hnr] at HRL
            have hE := ref_no (s := s) (by rw [HPR.out, if_pos h12, refL_none ws 5 HRL.out 1]; rfl)
            have HE := Lib.hid hE
            clear hE hv HRL hnr
            go_wp2_with fail
            go_quiet (fail)
            have Z4 := Lib.hid (ZB.out.drewN nq)
            have G4 := Lib.hid (bel_drewN ZG.out nq)
            have R4 := Lib.hid (row_drewN ZR.out nq)
            have S4 := Lib.hid (row_drewN ZS.out nq)
            have N4 := Lib.hid (ZN.out.drewN nq)
            clear c1 c0 cn ZB ZG ZR ZS ZN
            generalize wr.drewN nq = w4 at *
            have p0 := ccell Z4.out 0
            have p1 := ccell Z4.out 1
            have p2 := ccell Z4.out 2
            have p3 := ccell Z4.out 3
            have p4 := ccell Z4.out 4
            have p5 := ccell Z4.out 5
            have f0 := Z4.out.free 0
            have f1 := Z4.out.free 1
            have f2 := Z4.out.free 2
            have f3 := Z4.out.free 3
            have f4 := Z4.out.free 4
            have f5 := Z4.out.free 5
            simp only [show (0 : Fin 6).val = 0 from rfl, show (1 : Fin 6).val = 1 from rfl, show (2 : Fin 6).val = 2 from rfl, show (3 : Fin 6).val = 3 from rfl, show (4 : Fin 6).val = 4 from rfl, show (5 : Fin 6).val = 5 from rfl] at p0 p1 p2 p3 p4 p5
            go_wp2_with fail
            have P6 := put6_blk zeroC Z4.out
            have L6 := put6_bel (b := w.heap.size) zeroC G4.out (Nat.le_refl _)
            clear p0 p1 p2 p3 p4 p5 f0 f1 f2 f3 f4 f5
            change bodyPost _ _ _ _ _ (put6 w4 w.heap.size zeroC)
            generalize put6 w4 w.heap.size zeroC = w6 at *
            have q0 := ccell P6 0
            have q1 := ccell P6 1
            have q2 := ccell P6 2
            have q3 := ccell P6 3
            have q4 := ccell P6 4
            have q5 := ccell P6 5
            simp only [show (0 : Fin 6).val = 0 from rfl, show (1 : Fin 6).val = 1 from rfl, show (2 : Fin 6).val = 2 from rfl, show (3 : Fin 6).val = 3 from rfl, show (4 : Fin 6).val = 4 from rfl, show (5 : Fin 6).val = 5 from rfl] at q0 q1 q2 q3 q4 q5
            exact bodyPost_ret (v := .tuple #[.agg (ccells zeroC), .int .i64 31]) (by simp [results, Tryd.results9, go_sem, q0, q1, q2, q3, q4, q5, ccells]) rfl ⟨by rw [HE.out.1, HE.out.2], L6⟩
          | some n =>
            have hv := num_yes hnr
            have hn40 := (numR_some hnr).2
            rw [hv.1, hv.2]
            rw [hnr] at HRL
            have HN40 := Lib.hid hn40
            clear hv hnr hn40
            by_cases hx : x0 = [112, 114, 111, 98, 101]
            · have d5 : ((ba x0).toList == (⟨#[112, 114, 111, 98, 101]⟩ : ByteArray).toList) = true := by rw [hx]; exact beq_self_eq_true _
              have d6 : ((ba x0).toList == [112, 114, 111, 98, 101]) = true := by rw [ba_toList, hx]; exact beq_self_eq_true _
              have HR2 : Hid (refL ws 5 = some (l ++ [n])) := by
                show refL ws 5 = some (l ++ [n])
                rw [HRL.out, Option.bind_some, if_pos hx]
              clear HRL hx
              go_wp2_with fail
              go_quiet (fail)
              have Z4 := Lib.hid (ZB.out.drewN nq)
              have G4 := Lib.hid (bel_drewN ZG.out nq)
              have R4 := Lib.hid (row_drewN ZR.out nq)
              have S4 := Lib.hid (row_drewN ZS.out nq)
              have N4 := Lib.hid (ZN.out.drewN nq)
              clear c1 c0 cn ZB ZG ZR ZS ZN
              generalize wr.drewN nq = w4 at *
              have p0 := ccell Z4.out 0
              have p1 := ccell Z4.out 1
              have p2 := ccell Z4.out 2
              have p3 := ccell Z4.out 3
              have p4 := ccell Z4.out 4
              have p5 := ccell Z4.out 5
              have f0 := Z4.out.free 0
              have f1 := Z4.out.free 1
              have f2 := Z4.out.free 2
              have f3 := Z4.out.free 3
              have f4 := Z4.out.free 4
              have f5 := Z4.out.free 5
              simp only [show (0 : Fin 6).val = 0 from rfl, show (1 : Fin 6).val = 1 from rfl, show (2 : Fin 6).val = 2 from rfl, show (3 : Fin 6).val = 3 from rfl, show (4 : Fin 6).val = 4 from rfl, show (5 : Fin 6).val = 5 from rfl] at p0 p1 p2 p3 p4 p5
              clear p0 p1 p2 p3 p4 p5 f0 f1 f2 f3 f4 f5
              have hszw := G4.out.size
              go_wp2_with (first
                | (at_builtin; refine wpList_append_own _ rfl _ _ 49 rfl w.heap.size 22 i0 (.int .u64 0) 1 8 Tryd.underlying49 hi hz0 hz1 hz2 rfl (by decide) _ 4 (numRow l) rfl (R4.out.alloc _) ⟨w4.heap.size, 0, none⟩ 1 1 [.int .u64 (n : Int)] rfl rfl (cell_one_new _ _ _) (fun x hx => by simp at hx; subst hx; rfl) (by unfold maxLen; omega) (by omega) (by simp; omega) ?_; intro v5 w5 hown5 hgrow5 hnil5))
              have M5 := NoNum.grown R4.out hgrow5 G4.out.size
              have R5 := Lib.hid hown5
              have S5 := Lib.hid (M5.row S4.out (by decide))
              have N5 := Lib.hid (M5.blk N4.out (by decide))
              have Z5 := Lib.hid (M5.blk Z4.out (by decide))
              have G5 := Lib.hid (G4.out.trans M5.bel)
              clear M5 hown5 hgrow5 hnil5 R4 S4 N4 Z4 G4
              go_wp2_with fail
              go_roundw
              case rel => exact ⟨5, l ++ [n], by omega, rfl, HR2.out, by have := R5.out; simpa [numRow] using this, S5.out, N5.out, Z5.out, G5.out⟩
              case measure => simp [intOf]
            · have d5 : ((ba x0).toList == (⟨#[112, 114, 111, 98, 101]⟩ : ByteArray).toList) = false := ba_beq hx
              have d6 : ((ba x0).toList == [112, 114, 111, 98, 101]) = false := by rw [ba_toList]; simpa using hx
              have hE := ref_no (s := s) (by rw [HPR.out, if_pos h12, refL_none ws 5 (by rw [HRL.out, Option.bind_some, if_neg hx]) 1]; rfl)
              have HE := Lib.hid hE
              clear hE HRL hx
              go_wp2_with fail
              go_quiet (fail)
              have Z4 := Lib.hid (ZB.out.drewN nq)
              have G4 := Lib.hid (bel_drewN ZG.out nq)
              have R4 := Lib.hid (row_drewN ZR.out nq)
              have S4 := Lib.hid (row_drewN ZS.out nq)
              have N4 := Lib.hid (ZN.out.drewN nq)
              clear c1 c0 cn ZB ZG ZR ZS ZN
              generalize wr.drewN nq = w4 at *
              have p0 := ccell Z4.out 0
              have p1 := ccell Z4.out 1
              have p2 := ccell Z4.out 2
              have p3 := ccell Z4.out 3
              have p4 := ccell Z4.out 4
              have p5 := ccell Z4.out 5
              have f0 := Z4.out.free 0
              have f1 := Z4.out.free 1
              have f2 := Z4.out.free 2
              have f3 := Z4.out.free 3
              have f4 := Z4.out.free 4
              have f5 := Z4.out.free 5
              simp only [show (0 : Fin 6).val = 0 from rfl, show (1 : Fin 6).val = 1 from rfl, show (2 : Fin 6).val = 2 from rfl, show (3 : Fin 6).val = 3 from rfl, show (4 : Fin 6).val = 4 from rfl, show (5 : Fin 6).val = 5 from rfl] at p0 p1 p2 p3 p4 p5
              go_wp2_with fail
              have P6 := put6_blk zeroC Z4.out
              have L6 := put6_bel (b := w.heap.size) zeroC G4.out (Nat.le_refl _)
              clear p0 p1 p2 p3 p4 p5 f0 f1 f2 f3 f4 f5
              change bodyPost _ _ _ _ _ (put6 w4 w.heap.size zeroC)
              generalize put6 w4 w.heap.size zeroC = w6 at *
              have q0 := ccell P6 0
              have q1 := ccell P6 1
              have q2 := ccell P6 2
              have q3 := ccell P6 3
              have q4 := ccell P6 4
              have q5 := ccell P6 5
              simp only [show (0 : Fin 6).val = 0 from rfl, show (1 : Fin 6).val = 1 from rfl, show (2 : Fin 6).val = 2 from rfl, show (3 : Fin 6).val = 3 from rfl, show (4 : Fin 6).val = 4 from rfl, show (5 : Fin 6).val = 5 from rfl] at q0 q1 q2 q3 q4 q5
              exact bodyPost_ret (v := .tuple #[.agg (ccells zeroC), .int .i64 31]) (by simp [results, Tryd.results9, go_sem, q0, q1, q2, q3, q4, q5, ccells]) rfl ⟨by rw [HE.out.1, HE.out.2], L6⟩
        · have c1 := row_cell ZS.out 11 (by omega)
          have c0 := row_cell ZS.out 10 (by omega)
          have cn := ZN.out.cell (i := 5) (v := .string ⟨#[108, 111, 115, 115]⟩) rfl
          have HNu := Lib.hid (ref_Number (ws.getD 11 []) (getD_le ws 300 11 HLW.out) wr)
          have HRL : Hid (refL ws 6 = (numR (ws.getD 11 [])).bind (fun n => if ws.getD 10 [] = [108, 111, 115, 115] then some (l ++ [n]) else none)) := by
            show refL ws (5 + 1) = _
            rw [refL, HLL.out]; rfl
          generalize ws.getD 11 [] = x1 at *
          generalize ws.getD 10 [] = x0 at *
          go_wp2_with fail
          refine HNu.out.mono ?_
          rintro e w3 ⟨rfl, rfl⟩
          clear HNu
          cases hnr : numR x1 with
          | none =>
            have hv := num_no hnr
            rw [hv.1, hv.2]
            rw [hnr] at HRL
            have hE := ref_no (s := s) (by rw [HPR.out, if_pos h12, refL_none ws 6 HRL.out 0]; rfl)
            have HE := Lib.hid hE
            clear hE hv HRL hnr
            go_wp2_with fail
            go_quiet (fail)
            have Z4 := Lib.hid (ZB.out.drewN nq)
            have G4 := Lib.hid (bel_drewN ZG.out nq)
            have R4 := Lib.hid (row_drewN ZR.out nq)
            have S4 := Lib.hid (row_drewN ZS.out nq)
            have N4 := Lib.hid (ZN.out.drewN nq)
            clear c1 c0 cn ZB ZG ZR ZS ZN
            generalize wr.drewN nq = w4 at *
            have p0 := ccell Z4.out 0
            have p1 := ccell Z4.out 1
            have p2 := ccell Z4.out 2
            have p3 := ccell Z4.out 3
            have p4 := ccell Z4.out 4
            have p5 := ccell Z4.out 5
            have f0 := Z4.out.free 0
            have f1 := Z4.out.free 1
            have f2 := Z4.out.free 2
            have f3 := Z4.out.free 3
            have f4 := Z4.out.free 4
            have f5 := Z4.out.free 5
            simp only [show (0 : Fin 6).val = 0 from rfl, show (1 : Fin 6).val = 1 from rfl, show (2 : Fin 6).val = 2 from rfl, show (3 : Fin 6).val = 3 from rfl, show (4 : Fin 6).val = 4 from rfl, show (5 : Fin 6).val = 5 from rfl] at p0 p1 p2 p3 p4 p5
            go_wp2_with fail
            have P6 := put6_blk zeroC Z4.out
            have L6 := put6_bel (b := w.heap.size) zeroC G4.out (Nat.le_refl _)
            clear p0 p1 p2 p3 p4 p5 f0 f1 f2 f3 f4 f5
            change bodyPost _ _ _ _ _ (put6 w4 w.heap.size zeroC)
            generalize put6 w4 w.heap.size zeroC = w6 at *
            have q0 := ccell P6 0
            have q1 := ccell P6 1
            have q2 := ccell P6 2
            have q3 := ccell P6 3
            have q4 := ccell P6 4
            have q5 := ccell P6 5
            simp only [show (0 : Fin 6).val = 0 from rfl, show (1 : Fin 6).val = 1 from rfl, show (2 : Fin 6).val = 2 from rfl, show (3 : Fin 6).val = 3 from rfl, show (4 : Fin 6).val = 4 from rfl, show (5 : Fin 6).val = 5 from rfl] at q0 q1 q2 q3 q4 q5
            exact bodyPost_ret (v := .tuple #[.agg (ccells zeroC), .int .i64 31]) (by simp [results, Tryd.results9, go_sem, q0, q1, q2, q3, q4, q5, ccells]) rfl ⟨by rw [HE.out.1, HE.out.2], L6⟩
          | some n =>
            have hv := num_yes hnr
            have hn40 := (numR_some hnr).2
            rw [hv.1, hv.2]
            rw [hnr] at HRL
            have HN40 := Lib.hid hn40
            clear hv hnr hn40
            by_cases hx : x0 = [108, 111, 115, 115]
            · have d5 : ((ba x0).toList == (⟨#[108, 111, 115, 115]⟩ : ByteArray).toList) = true := by rw [hx]; exact beq_self_eq_true _
              have d6 : ((ba x0).toList == [108, 111, 115, 115]) = true := by rw [ba_toList, hx]; exact beq_self_eq_true _
              have HR2 : Hid (refL ws 6 = some (l ++ [n])) := by
                show refL ws 6 = some (l ++ [n])
                rw [HRL.out, Option.bind_some, if_pos hx]
              clear HRL hx
              go_wp2_with fail
              go_quiet (fail)
              have Z4 := Lib.hid (ZB.out.drewN nq)
              have G4 := Lib.hid (bel_drewN ZG.out nq)
              have R4 := Lib.hid (row_drewN ZR.out nq)
              have S4 := Lib.hid (row_drewN ZS.out nq)
              have N4 := Lib.hid (ZN.out.drewN nq)
              clear c1 c0 cn ZB ZG ZR ZS ZN
              generalize wr.drewN nq = w4 at *
              have p0 := ccell Z4.out 0
              have p1 := ccell Z4.out 1
              have p2 := ccell Z4.out 2
              have p3 := ccell Z4.out 3
              have p4 := ccell Z4.out 4
              have p5 := ccell Z4.out 5
              have f0 := Z4.out.free 0
              have f1 := Z4.out.free 1
              have f2 := Z4.out.free 2
              have f3 := Z4.out.free 3
              have f4 := Z4.out.free 4
              have f5 := Z4.out.free 5
              simp only [show (0 : Fin 6).val = 0 from rfl, show (1 : Fin 6).val = 1 from rfl, show (2 : Fin 6).val = 2 from rfl, show (3 : Fin 6).val = 3 from rfl, show (4 : Fin 6).val = 4 from rfl, show (5 : Fin 6).val = 5 from rfl] at p0 p1 p2 p3 p4 p5
              clear p0 p1 p2 p3 p4 p5 f0 f1 f2 f3 f4 f5
              have hszw := G4.out.size
              go_wp2_with (first
                | (at_builtin; refine wpList_append_own _ rfl _ _ 49 rfl w.heap.size 22 i0 (.int .u64 0) 1 8 Tryd.underlying49 hi hz0 hz1 hz2 rfl (by decide) _ 5 (numRow l) rfl (R4.out.alloc _) ⟨w4.heap.size, 0, none⟩ 1 1 [.int .u64 (n : Int)] rfl rfl (cell_one_new _ _ _) (fun x hx => by simp at hx; subst hx; rfl) (by unfold maxLen; omega) (by omega) (by simp; omega) ?_; intro v5 w5 hown5 hgrow5 hnil5))
              have M5 := NoNum.grown R4.out hgrow5 G4.out.size
              have R5 := Lib.hid hown5
              have S5 := Lib.hid (M5.row S4.out (by decide))
              have N5 := Lib.hid (M5.blk N4.out (by decide))
              have Z5 := Lib.hid (M5.blk Z4.out (by decide))
              have G5 := Lib.hid (G4.out.trans M5.bel)
              clear M5 hown5 hgrow5 hnil5 R4 S4 N4 Z4 G4
              go_wp2_with fail
              go_roundw
              case rel => exact ⟨6, l ++ [n], by omega, rfl, HR2.out, by have := R5.out; simpa [numRow] using this, S5.out, N5.out, Z5.out, G5.out⟩
              case measure => simp [intOf]
            · have d5 : ((ba x0).toList == (⟨#[108, 111, 115, 115]⟩ : ByteArray).toList) = false := ba_beq hx
              have d6 : ((ba x0).toList == [108, 111, 115, 115]) = false := by rw [ba_toList]; simpa using hx
              have hE := ref_no (s := s) (by rw [HPR.out, if_pos h12, refL_none ws 6 (by rw [HRL.out, Option.bind_some, if_neg hx]) 0]; rfl)
              have HE := Lib.hid hE
              clear hE HRL hx
              go_wp2_with fail
              go_quiet (fail)
              have Z4 := Lib.hid (ZB.out.drewN nq)
              have G4 := Lib.hid (bel_drewN ZG.out nq)
              have R4 := Lib.hid (row_drewN ZR.out nq)
              have S4 := Lib.hid (row_drewN ZS.out nq)
              have N4 := Lib.hid (ZN.out.drewN nq)
              clear c1 c0 cn ZB ZG ZR ZS ZN
              generalize wr.drewN nq = w4 at *
              have p0 := ccell Z4.out 0
              have p1 := ccell Z4.out 1
              have p2 := ccell Z4.out 2
              have p3 := ccell Z4.out 3
              have p4 := ccell Z4.out 4
              have p5 := ccell Z4.out 5
              have f0 := Z4.out.free 0
              have f1 := Z4.out.free 1
              have f2 := Z4.out.free 2
              have f3 := Z4.out.free 3
              have f4 := Z4.out.free 4
              have f5 := Z4.out.free 5
              simp only [show (0 : Fin 6).val = 0 from rfl, show (1 : Fin 6).val = 1 from rfl, show (2 : Fin 6).val = 2 from rfl, show (3 : Fin 6).val = 3 from rfl, show (4 : Fin 6).val = 4 from rfl, show (5 : Fin 6).val = 5 from rfl] at p0 p1 p2 p3 p4 p5
              go_wp2_with fail
              have P6 := put6_blk zeroC Z4.out
              have L6 := put6_bel (b := w.heap.size) zeroC G4.out (Nat.le_refl _)
              clear p0 p1 p2 p3 p4 p5 f0 f1 f2 f3 f4 f5
              change bodyPost _ _ _ _ _ (put6 w4 w.heap.size zeroC)
              generalize put6 w4 w.heap.size zeroC = w6 at *
              have q0 := ccell P6 0
              have q1 := ccell P6 1
              have q2 := ccell P6 2
              have q3 := ccell P6 3
              have q4 := ccell P6 4
              have q5 := ccell P6 5
              simp only [show (0 : Fin 6).val = 0 from rfl, show (1 : Fin 6).val = 1 from rfl, show (2 : Fin 6).val = 2 from rfl, show (3 : Fin 6).val = 3 from rfl, show (4 : Fin 6).val = 4 from rfl, show (5 : Fin 6).val = 5 from rfl] at q0 q1 q2 q3 q4 q5
              exact bodyPost_ret (v := .tuple #[.agg (ccells zeroC), .int .i64 31]) (by simp [results, Tryd.results9, go_sem, q0, q1, q2, q3, q4, q5, ccells]) rfl ⟨by rw [HE.out.1, HE.out.2], L6⟩
      · obtain rfl : k = 6 := by omega
        clear hk hlt
        have hl6 := refL_len ws 6 l HLL.out
        have HLE := Lib.hid (refL_le ws 6 l HLL.out)
        obtain ⟨c, rfl, hof⟩ : ∃ c : Setup, l = [c 0, c 1, c 2, c 3, c 4, c 5] ∧ ofL l = c := by
          match l, hl6 with
          | [n0, n1, n2, n3, n4, n5], _ => exact ⟨ofL [n0, n1, n2, n3, n4, n5], rfl, rfl⟩
        have HPC : Hid (parseR s = if rightC c = true then some c else none) := by
          show parseR s = _
          rw [HPR.out, if_pos h12, HLL.out, Option.bind_some, hof]
        clear hof HLL HLE HPR h12 HLW
        clear hl6
        obtain ⟨g2, cap2, rfl⟩ := ownsRow_succ ZR.out
        have s0 : wr.cell? ⟨g2, 0, none⟩ = some (.int .u64 (c 0 : Int)) := ZR.out.cells (g := g2) rfl 0 _ rfl
        have W0 : wr.drew.cell? ⟨g2, 0, none⟩ = some (.int .u64 (c 0 : Int)) := ZR.out.cells (g := g2) rfl 0 _ rfl
        have s1 : wr.cell? ⟨g2, 1, none⟩ = some (.int .u64 (c 1 : Int)) := ZR.out.cells (g := g2) rfl 1 _ rfl
        have W1 : wr.drew.cell? ⟨g2, 1, none⟩ = some (.int .u64 (c 1 : Int)) := ZR.out.cells (g := g2) rfl 1 _ rfl
        have s2 : wr.cell? ⟨g2, 2, none⟩ = some (.int .u64 (c 2 : Int)) := ZR.out.cells (g := g2) rfl 2 _ rfl
        have W2 : wr.drew.cell? ⟨g2, 2, none⟩ = some (.int .u64 (c 2 : Int)) := ZR.out.cells (g := g2) rfl 2 _ rfl
        have s3 : wr.cell? ⟨g2, 3, none⟩ = some (.int .u64 (c 3 : Int)) := ZR.out.cells (g := g2) rfl 3 _ rfl
        have W3 : wr.drew.cell? ⟨g2, 3, none⟩ = some (.int .u64 (c 3 : Int)) := ZR.out.cells (g := g2) rfl 3 _ rfl
        have s4 : wr.cell? ⟨g2, 4, none⟩ = some (.int .u64 (c 4 : Int)) := ZR.out.cells (g := g2) rfl 4 _ rfl
        have W4 : wr.drew.cell? ⟨g2, 4, none⟩ = some (.int .u64 (c 4 : Int)) := ZR.out.cells (g := g2) rfl 4 _ rfl
        have s5 : wr.cell? ⟨g2, 5, none⟩ = some (.int .u64 (c 5 : Int)) := ZR.out.cells (g := g2) rfl 5 _ rfl
        have W5 : wr.drew.cell? ⟨g2, 5, none⟩ = some (.int .u64 (c 5 : Int)) := ZR.out.cells (g := g2) rfl 5 _ rfl
        have hg2 : g2 < wr.drew.heap.size := row_lt ZR.out
        have B4 := Lib.hid (ZB.out.drew)
        have G4 := Lib.hid (bel_to ZG.out (bel_drew' wr) ZG.out.size)
        clear ZS ZN ZB ZG ZR
        go_wp2_with fail
        have hne : g2 ≠ wr.drew.heap.size := by omega
        have q := And.intro W0 (And.intro W1 (And.intro W2 (And.intro W3 (And.intro W4 W5))))
        go_region_held3 (fun w' => w'.cell? ⟨g2, 0, none⟩ = some (.int .u64 (c 0 : Int)) ∧ w'.cell? ⟨g2, 1, none⟩ = some (.int .u64 (c 1 : Int)) ∧ w'.cell? ⟨g2, 2, none⟩ = some (.int .u64 (c 2 : Int)) ∧ w'.cell? ⟨g2, 3, none⟩ = some (.int .u64 (c 3 : Int)) ∧ w'.cell? ⟨g2, 4, none⟩ = some (.int .u64 (c 4 : Int)) ∧ w'.cell? ⟨g2, 5, none⟩ = some (.int .u64 (c 5 : Int)))
          (first | exact q | assumption | exact ⟨cell_al s0 _, cell_al s1 _, cell_al s2 _, cell_al s3 _, cell_al s4 _, cell_al s5 _⟩)
          (fail)
        rename_i hHx
        clear hHx q hne hg2 W0 W1 W2 W3 W4 W5 s0 s1 s2 s3 s4 s5
        have C5 := Lib.hid (show Blk (wr.alloc (.cells (ccells c) 24)).drew wr.heap.size 24 (ccells c) from Blk.new wr 24 (ccells c))
        have B5 := Lib.hid (show Blk (wr.alloc (.cells (ccells c) 24)).drew w.heap.size 24 (ccells zeroC) from B4.out.alloc _)
        have G5 := Lib.hid (show Below w.heap.size w (wr.alloc (.cells (ccells c) 24)).drew from G4.out.alloc G4.out.size _)
        have HRi := Lib.hid (ref_Right c (wr.alloc (.cells (ccells c) 24)).drew)
        clear B4 G4
        simp only [ccells] at C5 B5 G5 HRi
        generalize hbr : wr.heap.size = br at *
        generalize (wr.alloc (.cells #[.int .u64 (c 0 : Int), .int .u64 (c 1 : Int), .int .u64 (c 2 : Int), .int .u64 (c 3 : Int), .int .u64 (c 4 : Int), .int .u64 (c 5 : Int)] 24)).drew = w4 at *
        have c0 := ccell C5.out 0
        have c1 := ccell C5.out 1
        have c2 := ccell C5.out 2
        have c3 := ccell C5.out 3
        have c4 := ccell C5.out 4
        have c5 := ccell C5.out 5
        simp only [show (0 : Fin 6).val = 0 from rfl, show (1 : Fin 6).val = 1 from rfl, show (2 : Fin 6).val = 2 from rfl, show (3 : Fin 6).val = 3 from rfl, show (4 : Fin 6).val = 4 from rfl, show (5 : Fin 6).val = 5 from rfl] at c0 c1 c2 c3 c4 c5
        go_wp2_with fail
        refine HRi.out.mono ?_
        rintro e w5 ⟨rfl, hb5⟩
        clear c0 c1 c2 c3 c4 c5 HRi
        have C6 := Lib.hid (C5.out.keep hb5)
        have Z4 := Lib.hid (B5.out.keep hb5)
        have G4 := Lib.hid (bel_to G5.out hb5 G5.out.size)
        clear C5 B5 G5 hb5
        cases hrc : rightC c with
        | true =>
          have HE := Lib.hid (ref_yes (s := s) (by rw [HPC.out, if_pos hrc]))
          have p0 := ccell Z4.out 0
          have p1 := ccell Z4.out 1
          have p2 := ccell Z4.out 2
          have p3 := ccell Z4.out 3
          have p4 := ccell Z4.out 4
          have p5 := ccell Z4.out 5
          have f0 := Z4.out.free 0
          have f1 := Z4.out.free 1
          have f2 := Z4.out.free 2
          have f3 := Z4.out.free 3
          have f4 := Z4.out.free 4
          have f5 := Z4.out.free 5
          simp only [show (0 : Fin 6).val = 0 from rfl, show (1 : Fin 6).val = 1 from rfl, show (2 : Fin 6).val = 2 from rfl, show (3 : Fin 6).val = 3 from rfl, show (4 : Fin 6).val = 4 from rfl, show (5 : Fin 6).val = 5 from rfl] at p0 p1 p2 p3 p4 p5
          have r0 := ccell C6.out 0
          have r1 := ccell C6.out 1
          have r2 := ccell C6.out 2
          have r3 := ccell C6.out 3
          have r4 := ccell C6.out 4
          have r5 := ccell C6.out 5
          simp only [show (0 : Fin 6).val = 0 from rfl, show (1 : Fin 6).val = 1 from rfl, show (2 : Fin 6).val = 2 from rfl, show (3 : Fin 6).val = 3 from rfl, show (4 : Fin 6).val = 4 from rfl, show (5 : Fin 6).val = 5 from rfl] at r0 r1 r2 r3 r4 r5
          go_wp2_with fail
          have P6 := put6_blk c Z4.out
          have L6 := put6_bel (b := w.heap.size) c G4.out (Nat.le_refl _)
          clear p0 p1 p2 p3 p4 p5 f0 f1 f2 f3 f4 f5 r0 r1 r2 r3 r4 r5
          change bodyPost _ _ _ _ _ (put6 w5 w.heap.size c)
          generalize put6 w5 w.heap.size c = w6 at *
          have q0 := ccell P6 0
          have q1 := ccell P6 1
          have q2 := ccell P6 2
          have q3 := ccell P6 3
          have q4 := ccell P6 4
          have q5 := ccell P6 5
          simp only [show (0 : Fin 6).val = 0 from rfl, show (1 : Fin 6).val = 1 from rfl, show (2 : Fin 6).val = 2 from rfl, show (3 : Fin 6).val = 3 from rfl, show (4 : Fin 6).val = 4 from rfl, show (5 : Fin 6).val = 5 from rfl] at q0 q1 q2 q3 q4 q5
          exact bodyPost_ret (v := .tuple #[.agg (ccells c), .int .i64 0]) (by simp [results, Tryd.results9, go_sem, q0, q1, q2, q3, q4, q5, ccells]) rfl ⟨by rw [HE.out.1, HE.out.2], L6⟩
        | false =>
          have HE := Lib.hid (ref_no (s := s) (by rw [HPC.out, hrc]; rfl))
          have p0 := ccell Z4.out 0
          have p1 := ccell Z4.out 1
          have p2 := ccell Z4.out 2
          have p3 := ccell Z4.out 3
          have p4 := ccell Z4.out 4
          have p5 := ccell Z4.out 5
          have f0 := Z4.out.free 0
          have f1 := Z4.out.free 1
          have f2 := Z4.out.free 2
          have f3 := Z4.out.free 3
          have f4 := Z4.out.free 4
          have f5 := Z4.out.free 5
          simp only [show (0 : Fin 6).val = 0 from rfl, show (1 : Fin 6).val = 1 from rfl, show (2 : Fin 6).val = 2 from rfl, show (3 : Fin 6).val = 3 from rfl, show (4 : Fin 6).val = 4 from rfl, show (5 : Fin 6).val = 5 from rfl] at p0 p1 p2 p3 p4 p5
          go_wp2_with fail
          have P6 := put6_blk zeroC Z4.out
          have L6 := put6_bel (b := w.heap.size) zeroC G4.out (Nat.le_refl _)
          clear p0 p1 p2 p3 p4 p5 f0 f1 f2 f3 f4 f5
          change bodyPost _ _ _ _ _ (put6 w5 w.heap.size zeroC)
          generalize put6 w5 w.heap.size zeroC = w6 at *
          have q0 := ccell P6 0
          have q1 := ccell P6 1
          have q2 := ccell P6 2
          have q3 := ccell P6 3
          have q4 := ccell P6 4
          have q5 := ccell P6 5
          simp only [show (0 : Fin 6).val = 0 from rfl, show (1 : Fin 6).val = 1 from rfl, show (2 : Fin 6).val = 2 from rfl, show (3 : Fin 6).val = 3 from rfl, show (4 : Fin 6).val = 4 from rfl, show (5 : Fin 6).val = 5 from rfl] at q0 q1 q2 q3 q4 q5
          exact bodyPost_ret (v := .tuple #[.agg (ccells zeroC), .int .i64 31]) (by simp [results, Tryd.results9, go_sem, q0, q1, q2, q3, q4, q5, ccells]) rfl ⟨by rw [HE.out.1, HE.out.2], L6⟩
  · have d1 : ((ws.length : Int) == 12) = false := beq_eq_false_iff_ne.2 (by omega)
    have d2 : ((ws.length : Int) != 12) = true := by simp [bne, d1]
    have hE := ref_no (s := s) (by rw [HPR.out, if_neg h12])
    have HE := Lib.hid hE
    clear hE HPR h12 R2 N2
    have p0 := ccell B1.out 0
    have p1 := ccell B1.out 1
    have p2 := ccell B1.out 2
    have p3 := ccell B1.out 3
    have p4 := ccell B1.out 4
    have p5 := ccell B1.out 5
    have f0 := B1.out.free 0
    have f1 := B1.out.free 1
    have f2 := B1.out.free 2
    have f3 := B1.out.free 3
    have f4 := B1.out.free 4
    have f5 := B1.out.free 5
    simp only [show (0 : Fin 6).val = 0 from rfl, show (1 : Fin 6).val = 1 from rfl, show (2 : Fin 6).val = 2 from rfl, show (3 : Fin 6).val = 3 from rfl, show (4 : Fin 6).val = 4 from rfl, show (5 : Fin 6).val = 5 from rfl] at p0 p1 p2 p3 p4 p5
    go_wp2_with fail
    rw [show (#[.string ⟨#[109, 115, 115]⟩, .string ⟨#[105, 110, 105, 116]⟩, .string ⟨#[114, 101, 111, 114, 100, 101, 114]⟩, .string ⟨#[119, 105, 110, 100, 111, 119]⟩, .string ⟨#[112, 114, 111, 98, 101]⟩, .string ⟨#[108, 111, 115, 115]⟩] : Array Value) = nameCells from rfl]
    have P6 := (put6_blk zeroC B1.out).alloc (.cells nameCells 9)
    have L5 := put6_bel (b := w.heap.size) zeroC G1.out (Nat.le_refl _)
    have L6 := L5.alloc L5.size (.cells nameCells 9)
    clear p0 p1 p2 p3 p4 p5 f0 f1 f2 f3 f4 f5
    change bodyPost _ _ _ _ _ ((put6 w1 w.heap.size zeroC).alloc (.cells nameCells 9))
    generalize (put6 w1 w.heap.size zeroC).alloc (.cells nameCells 9) = w6 at *
    have q0 := ccell P6 0
    have q1 := ccell P6 1
    have q2 := ccell P6 2
    have q3 := ccell P6 3
    have q4 := ccell P6 4
    have q5 := ccell P6 5
    simp only [show (0 : Fin 6).val = 0 from rfl, show (1 : Fin 6).val = 1 from rfl, show (2 : Fin 6).val = 2 from rfl, show (3 : Fin 6).val = 3 from rfl, show (4 : Fin 6).val = 4 from rfl, show (5 : Fin 6).val = 5 from rfl] at q0 q1 q2 q3 q4 q5
    exact bodyPost_ret (v := .tuple #[.agg (ccells zeroC), .int .i64 31]) (by simp [results, Tryd.results9, go_sem, q0, q1, q2, q3, q4, q5, ccells]) rfl ⟨by rw [HE.out.1, HE.out.2], L6⟩
end Go.Proofs.YtmdfikpngbbdmaaDoor
