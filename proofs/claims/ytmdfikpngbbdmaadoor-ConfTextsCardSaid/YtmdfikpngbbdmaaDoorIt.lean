/- The iterator over a setup's six fields, over this translation. -/
import Derived.RangeFuncNested
import Derived.RangeFuncBound
import Derived.RangeFuncCalls
import Derived.RangeFuncLeaves
import Derived.Shelf.Abstract
import Derived.Shelf.RegionOpen
import Derived.WalkKit
import Derived.OwnWalkIn
import Derived.TacticsInMore
import Derived.LoopNIn
import Derived.LoopIn
import Derived.Outline
import Derived.Lib.Hide
import Derived.Deep.RegionHeld3
import Derived.Test.YtmdfikpngbbdmaaDoorProg
import Derived.Test.YtmdfikpngbbdmaaDoorBlk
import Derived.Test.YtmdfikpngbbdmaaDoorCf
set_option linter.unusedVariables false
namespace Go.Proofs.YtmdfikpngbbdmaaDoor
open Go.RowKit Go.Shelf Cf
attribute [local go_sem] Oper.semAt_some

/-- What a round keeps: the blocks of fields. -/
structure Kf (W W' : World) : Prop where
  size : W.heap.size ≤ W'.heap.size
  same : ∀ k cs, Blk W k 43 cs → Blk W' k 43 cs
theorem Kf.refl (W : World) : Kf W W := ⟨Nat.le_refl _, fun _ _ h => h⟩
theorem Kf.trans {A B C : World} (h : Kf A B) (k : Kf B C) : Kf A C := ⟨Nat.le_trans h.size k.size, fun i cs hi => k.same i cs (h.same i cs hi)⟩
theorem Kf.below {W W' : World} (h : Below W.heap.size W W') : Kf W W' := ⟨h.size, fun k cs hk => hk.keep h⟩
theorem Kf.alloc (W : World) (o : Obj) : Kf W (W.alloc o) := ⟨by simp, fun k cs hk => hk.alloc o⟩
theorem Kf.grown {W W' : World} {row : Option Nat} (hg : W.grownBy W' row) (hne : ∀ r, row = some r → ∀ cs, ¬ Blk W r 43 cs) : Kf W W' :=
  ⟨hg.size, fun k cs hk => hk.grown hg (fun e => hne k e.symm cs hk)⟩
theorem Kf.set {W : World} {b : Nat} (i : Nat) (u : Value) (hne : ∀ cs, ¬ Blk W b 43 cs) : Kf W (W.setCell ⟨b, i, none⟩ u) :=
  ⟨by simp [World.setCell], fun k cs hk => hk.set_other i u (fun e => hne cs (e ▸ hk))⟩
theorem not_fld {W : World} {b : Nat} {T : TypeId} {cs : Array Value} (h : Blk W b T cs) (hT : T ≠ 43) : ∀ cs', ¬ Blk W b 43 cs' := by
  intro cs' h'
  unfold Blk at h h'
  rw [h] at h'
  simp at h'
  exact hT h'.2
theorem Kf.putObj {w : World} (W : World) (l : Nat) (o o' : Obj) (_ : w.heap.size ≤ l) (h : W.heap[l]? = some o) (ho : o.isCells = false) (_ : o.isWalk = false) : Kf W (W.putObj l o') :=
  Kf.grown (grownBy_putObj' W l o') (fun r e cs hb => by cases e; unfold Blk at hb; rw [h] at hb; cases hb; cases ho)

def wordB (k : Fin 6) : ByteArray := ⟨(word k).toArray⟩
def fcells (bc : Nat) (k : Fin 6) : Array Value := #[.string (wordB k), .pointer (some ⟨bc, k.val, none⟩), .int .u64 (least k : Int), .int .u64 (most k : Int)]
def ftab (bc : Nat) : Array Value := #[.string ⟨#[109, 115, 115]⟩, .pointer (some ⟨bc, 0, none⟩), .int .u64 1, .int .u64 65535, .string ⟨#[105, 110, 105, 116]⟩, .pointer (some ⟨bc, 1, none⟩), .int .u64 4, .int .u64 1000, .string ⟨#[114, 101, 111, 114, 100, 101, 114]⟩, .pointer (some ⟨bc, 2, none⟩), .int .u64 1, .int .u64 100, .string ⟨#[119, 105, 110, 100, 111, 119]⟩, .pointer (some ⟨bc, 3, none⟩), .int .u64 1, .int .u64 1099511627776, .string ⟨#[112, 114, 111, 98, 101]⟩, .pointer (some ⟨bc, 4, none⟩), .int .u64 1, .int .u64 1099511627776, .string ⟨#[108, 111, 115, 115]⟩, .pointer (some ⟨bc, 5, none⟩), .int .u64 0, .int .u64 1000]
theorem fc_0 (bc : Nat) : fcells bc 0 = #[.string ⟨#[109, 115, 115]⟩, .pointer (some ⟨bc, 0, none⟩), .int .u64 1, .int .u64 65535] := by
  have hw : word 0 = [109, 115, 115] := rfl
  have hl : least 0 = 1 := rfl
  have hm : most 0 = 65535 := rfl
  simp [fcells, wordB, hw, hl, hm]
theorem fc_1 (bc : Nat) : fcells bc 1 = #[.string ⟨#[105, 110, 105, 116]⟩, .pointer (some ⟨bc, 1, none⟩), .int .u64 4, .int .u64 1000] := by
  have hw : word 1 = [105, 110, 105, 116] := rfl
  have hl : least 1 = 4 := rfl
  have hm : most 1 = 1000 := rfl
  simp [fcells, wordB, hw, hl, hm]
theorem fc_2 (bc : Nat) : fcells bc 2 = #[.string ⟨#[114, 101, 111, 114, 100, 101, 114]⟩, .pointer (some ⟨bc, 2, none⟩), .int .u64 1, .int .u64 100] := by
  have hw : word 2 = [114, 101, 111, 114, 100, 101, 114] := rfl
  have hl : least 2 = 1 := rfl
  have hm : most 2 = 100 := rfl
  simp [fcells, wordB, hw, hl, hm]
theorem fc_3 (bc : Nat) : fcells bc 3 = #[.string ⟨#[119, 105, 110, 100, 111, 119]⟩, .pointer (some ⟨bc, 3, none⟩), .int .u64 1, .int .u64 1099511627776] := by
  have hw : word 3 = [119, 105, 110, 100, 111, 119] := rfl
  have hl : least 3 = 1 := rfl
  have hm : most 3 = 1099511627776 := rfl
  simp [fcells, wordB, hw, hl, hm]
theorem fc_4 (bc : Nat) : fcells bc 4 = #[.string ⟨#[112, 114, 111, 98, 101]⟩, .pointer (some ⟨bc, 4, none⟩), .int .u64 1, .int .u64 1099511627776] := by
  have hw : word 4 = [112, 114, 111, 98, 101] := rfl
  have hl : least 4 = 1 := rfl
  have hm : most 4 = 1099511627776 := rfl
  simp [fcells, wordB, hw, hl, hm]
theorem fc_5 (bc : Nat) : fcells bc 5 = #[.string ⟨#[108, 111, 115, 115]⟩, .pointer (some ⟨bc, 5, none⟩), .int .u64 0, .int .u64 1000] := by
  have hw : word 5 = [108, 111, 115, 115] := rfl
  have hl : least 5 = 0 := rfl
  have hm : most 5 = 1000 := rfl
  simp [fcells, wordB, hw, hl, hm]
theorem abides_alloc {β : Type} {B : Nat} {J : β → World → Prop} (h : AbidesFrom B J) {s : β} {W : World} (o : Obj) (hs : J s W) : J s (W.alloc o) :=
  h s W _ none hs (World.grownBy_alloc W o none) (fun r e => by cases e)
theorem abides_drew {β : Type} {B : Nat} {J : β → World → Prop} (h : AbidesFrom B J) {s : β} {W : World} (hs : J s W) : J s W.drew :=
  h s W _ none hs (gr_drew (gr_refl W none)) (fun r e => by cases e)

theorem all6_prefix (k : Nat) : all6.take k <+: all6 := List.take_prefix k all6
theorem all6_take_succ (k : Nat) (h : k < 6) : all6.take (k + 1) = all6.take k ++ [(⟨k, h⟩ : Fin 6)] := by
  match k, h with
  | 0, _ => rfl
  | 1, _ => rfl
  | 2, _ => rfl
  | 3, _ => rfl
  | 4, _ => rfl
  | 5, _ => rfl

/-- What the iterator wants of a round. -/
def Rounds (n l bc : Nat) (J Jx : List (Fin 6) → World → Prop) : Prop :=
  ∀ pre x W1, J pre W1 → pre.length < 6 → YieldAt Fence.wide (n - 1) Tryd.prog l #[.agg (fcells bc x)] W1 fun e W' =>
      (e = .returned (.bool true) ∧ J (pre ++ [x]) W' ∧ Kf W1 W') ∨ (e = .returned (.bool false) ∧ Jx (pre ++ [x]) W')
/-- The loop's relation. -/
def FRel (bT bc : Nat) (J : List (Fin 6) → World → Prop) (i : Value) (wr : World) : Prop :=
  ∃ k : Nat, k ≤ 6 ∧ i = .int .i64 k ∧ J (all6.take k) wr ∧ Blk wr bT 43 (ftab bc)

set_option maxRecDepth 100000 in
set_option maxHeartbeats 2000000 in
theorem fields1_in (n l Bc bc : Nat) (hn : 1 ≤ n) (J Jx : List (Fin 6) → World → Prop) (W : World) (hB : Boxed W Bc 40 (.pointer (some ⟨bc, 0, none⟩)))
    (hJ : AbidesFrom W.heap.size J) (hY : Rounds n l bc J Jx) (h0 : J [] W) :
    CallsIn Fence.wide n Tryd.prog 24 #[.func (.yield l) #[] #[], .pointer (some ⟨Bc, 0, none⟩)] W fun e W' => (∃ v, e = .returned v) ∧ ((∃ xs, xs = all6 ∧ J xs W') ∨ (∃ pre, pre <+: all6 ∧ Jx pre W')) := by
  have hc := hB.cell
  have hlt := hB.lt
  have HB := Lib.hid hB
  have HJ := Lib.hid hJ
  have HY := Lib.hid hY
  have H0 := Lib.hid h0
  clear hB hJ hY h0
  refine callsIn_of_wp Tryd.func24 rfl trivial ?_ rfl
  simp only [Tryd.ntmps24, List.size_toArray, List.length_cons, List.length_nil, Nat.reduceAdd, Nat.reduceSub, Array.replicate_succ, Array.replicate_zero, List.push_toArray, List.append_toArray, List.nil_append, List.cons_append]
  gi_wp2
  refine wpIn_wide.2 ?_
  go_region_held3 (fun w' => w'.cell? ⟨Bc, 0, none⟩ = some (.pointer (some ⟨bc, 0, none⟩))) (first | go_keep) (fail)
  have HT := Lib.hid ((Blk.new W 43 (ftab bc)).drew)
  have H1 := Lib.hid (abides_drew HJ.out (abides_alloc HJ.out (.cells (ftab bc) 43) H0.out))
  have hft : ftab bc = #[.string ⟨#[109, 115, 115]⟩, .pointer (some ⟨bc, 0, none⟩), .int .u64 1, .int .u64 65535, .string ⟨#[105, 110, 105, 116]⟩, .pointer (some ⟨bc, 1, none⟩), .int .u64 4, .int .u64 1000, .string ⟨#[114, 101, 111, 114, 100, 101, 114]⟩, .pointer (some ⟨bc, 2, none⟩), .int .u64 1, .int .u64 100, .string ⟨#[119, 105, 110, 100, 111, 119]⟩, .pointer (some ⟨bc, 3, none⟩), .int .u64 1, .int .u64 1099511627776, .string ⟨#[112, 114, 111, 98, 101]⟩, .pointer (some ⟨bc, 4, none⟩), .int .u64 1, .int .u64 1099511627776, .string ⟨#[108, 111, 115, 115]⟩, .pointer (some ⟨bc, 5, none⟩), .int .u64 0, .int .u64 1000] := rfl
  rw [← hft]
  clear hft
  generalize (W.alloc (.cells (ftab bc) 43)).drew = w2 at *
  generalize W.heap.size = bT at *
  clear HB H0 hc hlt
  gi_wp2
  gi_loopw [31] (FRel bT bc J) (fun i _ => 6 - (intOf i).toNat)
  case atStart => exact ⟨0, by omega, rfl, H1.out, HT.out⟩
  case round =>
    obtain ⟨k, hk, rfl, hJk, hT⟩ := hrel
    have HJk := Lib.hid hJk
    have HTk := Lib.hid hT
    clear hJk hT HT H1
    by_cases hlt : k < 6
    · have H : k = 0 ∨ k = 1 ∨ k = 2 ∨ k = 3 ∨ k = 4 ∨ k = 5 := by omega
      clear hk hlt
      rcases H with rfl | rfl | rfl | rfl | rfl | rfl
      · have c0 := HTk.out.cell (i := 0) (v := .string ⟨#[109, 115, 115]⟩) rfl
        have c1 := HTk.out.cell (i := 1) (v := .pointer (some ⟨bc, 0, none⟩)) rfl
        have c2 := HTk.out.cell (i := 2) (v := .int .u64 1) rfl
        have c3 := HTk.out.cell (i := 3) (v := .int .u64 65535) rfl
        obtain ⟨fn, tmps, assign, body, hy, hR⟩ := HY.out (all6.take 0) 0 (wr.alloc (.cells (fcells bc 0) 43)) (abides_alloc HJ.out _ HJk.out) (by decide)
        rw [fc_0] at hy hR
        gi_wp2
        refine hR.mono ?_
        rintro e W3 (⟨rfl, hJ3, hk3⟩ | ⟨rfl, hJx3⟩)
        · have HJ3 := Lib.hid hJ3
          have HT3 := Lib.hid (hk3.same _ _ (HTk.out.alloc _))
          clear hJ3 hk3 hR hy HY
          gi_wp2
          go_roundw
          case rel => exact ⟨1, by omega, rfl, HJ3.out, HT3.out⟩
          case measure => simp [intOf]
        · have HJ3 := Lib.hid hJx3
          clear hJx3 hR hy HY
          gi_wp2
          refine bodyPost_ret (results_none rfl _ _ _) rfl ?_
          exact ⟨⟨_, rfl⟩, .inr ⟨_, all6_prefix 1, HJ3.out⟩⟩
      · have c0 := HTk.out.cell (i := 4) (v := .string ⟨#[105, 110, 105, 116]⟩) rfl
        have c1 := HTk.out.cell (i := 5) (v := .pointer (some ⟨bc, 1, none⟩)) rfl
        have c2 := HTk.out.cell (i := 6) (v := .int .u64 4) rfl
        have c3 := HTk.out.cell (i := 7) (v := .int .u64 1000) rfl
        obtain ⟨fn, tmps, assign, body, hy, hR⟩ := HY.out (all6.take 1) 1 (wr.alloc (.cells (fcells bc 1) 43)) (abides_alloc HJ.out _ HJk.out) (by decide)
        rw [fc_1] at hy hR
        gi_wp2
        refine hR.mono ?_
        rintro e W3 (⟨rfl, hJ3, hk3⟩ | ⟨rfl, hJx3⟩)
        · have HJ3 := Lib.hid hJ3
          have HT3 := Lib.hid (hk3.same _ _ (HTk.out.alloc _))
          clear hJ3 hk3 hR hy HY
          gi_wp2
          go_roundw
          case rel => exact ⟨2, by omega, rfl, HJ3.out, HT3.out⟩
          case measure => simp [intOf]
        · have HJ3 := Lib.hid hJx3
          clear hJx3 hR hy HY
          gi_wp2
          refine bodyPost_ret (results_none rfl _ _ _) rfl ?_
          exact ⟨⟨_, rfl⟩, .inr ⟨_, all6_prefix 2, HJ3.out⟩⟩
      · have c0 := HTk.out.cell (i := 8) (v := .string ⟨#[114, 101, 111, 114, 100, 101, 114]⟩) rfl
        have c1 := HTk.out.cell (i := 9) (v := .pointer (some ⟨bc, 2, none⟩)) rfl
        have c2 := HTk.out.cell (i := 10) (v := .int .u64 1) rfl
        have c3 := HTk.out.cell (i := 11) (v := .int .u64 100) rfl
        obtain ⟨fn, tmps, assign, body, hy, hR⟩ := HY.out (all6.take 2) 2 (wr.alloc (.cells (fcells bc 2) 43)) (abides_alloc HJ.out _ HJk.out) (by decide)
        rw [fc_2] at hy hR
        gi_wp2
        refine hR.mono ?_
        rintro e W3 (⟨rfl, hJ3, hk3⟩ | ⟨rfl, hJx3⟩)
        · have HJ3 := Lib.hid hJ3
          have HT3 := Lib.hid (hk3.same _ _ (HTk.out.alloc _))
          clear hJ3 hk3 hR hy HY
          gi_wp2
          go_roundw
          case rel => exact ⟨3, by omega, rfl, HJ3.out, HT3.out⟩
          case measure => simp [intOf]
        · have HJ3 := Lib.hid hJx3
          clear hJx3 hR hy HY
          gi_wp2
          refine bodyPost_ret (results_none rfl _ _ _) rfl ?_
          exact ⟨⟨_, rfl⟩, .inr ⟨_, all6_prefix 3, HJ3.out⟩⟩
      · have c0 := HTk.out.cell (i := 12) (v := .string ⟨#[119, 105, 110, 100, 111, 119]⟩) rfl
        have c1 := HTk.out.cell (i := 13) (v := .pointer (some ⟨bc, 3, none⟩)) rfl
        have c2 := HTk.out.cell (i := 14) (v := .int .u64 1) rfl
        have c3 := HTk.out.cell (i := 15) (v := .int .u64 1099511627776) rfl
        obtain ⟨fn, tmps, assign, body, hy, hR⟩ := HY.out (all6.take 3) 3 (wr.alloc (.cells (fcells bc 3) 43)) (abides_alloc HJ.out _ HJk.out) (by decide)
        rw [fc_3] at hy hR
        gi_wp2
        refine hR.mono ?_
        rintro e W3 (⟨rfl, hJ3, hk3⟩ | ⟨rfl, hJx3⟩)
        · have HJ3 := Lib.hid hJ3
          have HT3 := Lib.hid (hk3.same _ _ (HTk.out.alloc _))
          clear hJ3 hk3 hR hy HY
          gi_wp2
          go_roundw
          case rel => exact ⟨4, by omega, rfl, HJ3.out, HT3.out⟩
          case measure => simp [intOf]
        · have HJ3 := Lib.hid hJx3
          clear hJx3 hR hy HY
          gi_wp2
          refine bodyPost_ret (results_none rfl _ _ _) rfl ?_
          exact ⟨⟨_, rfl⟩, .inr ⟨_, all6_prefix 4, HJ3.out⟩⟩
      · have c0 := HTk.out.cell (i := 16) (v := .string ⟨#[112, 114, 111, 98, 101]⟩) rfl
        have c1 := HTk.out.cell (i := 17) (v := .pointer (some ⟨bc, 4, none⟩)) rfl
        have c2 := HTk.out.cell (i := 18) (v := .int .u64 1) rfl
        have c3 := HTk.out.cell (i := 19) (v := .int .u64 1099511627776) rfl
        obtain ⟨fn, tmps, assign, body, hy, hR⟩ := HY.out (all6.take 4) 4 (wr.alloc (.cells (fcells bc 4) 43)) (abides_alloc HJ.out _ HJk.out) (by decide)
        rw [fc_4] at hy hR
        gi_wp2
        refine hR.mono ?_
        rintro e W3 (⟨rfl, hJ3, hk3⟩ | ⟨rfl, hJx3⟩)
        · have HJ3 := Lib.hid hJ3
          have HT3 := Lib.hid (hk3.same _ _ (HTk.out.alloc _))
          clear hJ3 hk3 hR hy HY
          gi_wp2
          go_roundw
          case rel => exact ⟨5, by omega, rfl, HJ3.out, HT3.out⟩
          case measure => simp [intOf]
        · have HJ3 := Lib.hid hJx3
          clear hJx3 hR hy HY
          gi_wp2
          refine bodyPost_ret (results_none rfl _ _ _) rfl ?_
          exact ⟨⟨_, rfl⟩, .inr ⟨_, all6_prefix 5, HJ3.out⟩⟩
      · have c0 := HTk.out.cell (i := 20) (v := .string ⟨#[108, 111, 115, 115]⟩) rfl
        have c1 := HTk.out.cell (i := 21) (v := .pointer (some ⟨bc, 5, none⟩)) rfl
        have c2 := HTk.out.cell (i := 22) (v := .int .u64 0) rfl
        have c3 := HTk.out.cell (i := 23) (v := .int .u64 1000) rfl
        obtain ⟨fn, tmps, assign, body, hy, hR⟩ := HY.out (all6.take 5) 5 (wr.alloc (.cells (fcells bc 5) 43)) (abides_alloc HJ.out _ HJk.out) (by decide)
        rw [fc_5] at hy hR
        gi_wp2
        refine hR.mono ?_
        rintro e W3 (⟨rfl, hJ3, hk3⟩ | ⟨rfl, hJx3⟩)
        · have HJ3 := Lib.hid hJ3
          have HT3 := Lib.hid (hk3.same _ _ (HTk.out.alloc _))
          clear hJ3 hk3 hR hy HY
          gi_wp2
          go_roundw
          case rel => exact ⟨6, by omega, rfl, HJ3.out, HT3.out⟩
          case measure => simp [intOf]
        · have HJ3 := Lib.hid hJx3
          clear hJx3 hR hy HY
          gi_wp2
          refine bodyPost_ret (results_none rfl _ _ _) rfl ?_
          exact ⟨⟨_, rfl⟩, .inr ⟨_, all6_prefix 6, HJ3.out⟩⟩
    · have hk6 : k = 6 := by omega
      subst hk6
      gi_wp2
      go_end0
      exact ⟨⟨_, rfl⟩, .inl ⟨all6, rfl, HJk.out⟩⟩

theorem fields_stops (n Bc bc : Nat) (hn : 1 ≤ n) (w : World) (hB : Boxed w Bc 40 (.pointer (some ⟨bc, 0, none⟩))) :
    SeqStopsK Fence.wide n Tryd.prog 24 #[.pointer (some ⟨Bc, 0, none⟩)] (fun k : Fin 6 => #[Value.agg (fcells bc k)]) Kf (fun xs => xs = all6) (fun pre => pre <+: all6) 6 w := fun l J Jx W hW hJ _ hY h0 =>
  fields1_in n l Bc bc hn J Jx W (Blk.keep hB hW) hJ hY h0

set_option maxHeartbeats 1000000 in
theorem fields_in (n bc : Nat) (w : World) :
    CallsIn Fence.wide n Tryd.prog 14 #[.pointer (some ⟨bc, 0, none⟩)] w fun e w' => e = .returned (.func (.func 24) #[] #[.pointer (some ⟨w.heap.size, 0, none⟩)]) ∧ w' = w.alloc (.cells #[.pointer (some ⟨bc, 0, none⟩)] 40) := by
  refine callsIn_of_wp Tryd.func14 rfl trivial ?_ rfl
  simp only [Tryd.ntmps14, List.size_toArray, List.length_cons, List.length_nil, Nat.reduceAdd, Nat.reduceSub, Array.replicate_succ, Array.replicate_zero, List.push_toArray, List.append_toArray, List.nil_append, List.cons_append]
  gi_wp2
  go_ret
  exact ⟨rfl, rfl⟩
end Go.Proofs.YtmdfikpngbbdmaaDoor
