/- One act on a row, and on the document's row: both answer one, and have the same items then. -/
import Derived.Test.YtfdekmccmdekkaaLaw04a
set_option linter.unusedVariables false
namespace Go.Proofs.Ytfdekmccmdekkaa
open Go.RowKit

def RS.step (s : RS) (k x : Nat) : RS := if k % 4 = 0 then s.push x else if s.cnt = 0 then s else if k % 4 = 1 then s.shift else if k % 4 = 2 then s.pop else s

theorem RS.step_ok {s : RS} (h : s.ok) (hc : s.cnt ≤ 1000) (k x : Nat) : (s.step k x).ok := by
  unfold RS.step; split
  · exact RS.push_ok h hc x
  · split
    · exact h
    · split
      · exact RS.shift_ok h (by omega)
      · split
        · exact RS.pop_ok h (by omega)
        · exact h
theorem RS.step_cnt {s : RS} (k x : Nat) : (s.step k x).cnt ≤ s.cnt + 1 := by
  unfold RS.step; split
  · exact Nat.le_refl _
  · split
    · omega
    · split
      · rw [RS.shift_cnt]; omega
      · split
        · rw [RS.pop_cnt]; omega
        · omega
theorem RS.items_front {s : RS} (h : 0 < s.cnt) : s.items = s.get 0 :: s.items.drop 1 := by
  have e := RS.item_at h
  have hl : 0 < s.items.length := by rw [RS.len_items]; exact h
  rcases hs : s.items with _ | ⟨a, r⟩
  · rw [hs] at hl; simp at hl
  · rw [hs] at e; simp at e; simp [e]
theorem RS.items_back {s : RS} (h : 0 < s.cnt) : s.items = s.items.take (s.cnt - 1) ++ [s.get (s.cnt - 1)] := by
  have e := RS.item_at (s := s) (i := s.cnt - 1) (by omega)
  conv => lhs; rw [← List.take_of_length_le (l := s.items) (i := s.cnt - 1 + 1) (by rw [RS.len_items]; omega), List.take_add_one, e]
  rfl

structure Mv4 (w w' : World) (b g m v : Nat) : Prop where
  os : w'.os = w.os
  tape : w'.tape = w.tape
  output : w'.output = w.output
  size : w.heap.size ≤ w'.heap.size
  block : ∀ k, k < w.heap.size → k ≠ b → k ≠ g → k ≠ m → k ≠ v → w'.heap[k]? = w.heap[k]?

theorem Mv4.refl (w : World) (b g m v : Nat) : Mv4 w w b g m v := ⟨rfl, rfl, rfl, Nat.le_refl _, fun _ _ _ _ _ _ => rfl⟩
theorem Mv4.ring {a w w' : World} {b g m v g' : Nat} (h : Mv4 a w b g m v) (k : Mv w w' b g') (hg : g' = g ∨ a.heap.size ≤ g') : Mv4 a w' b g m v :=
  ⟨k.os.trans h.os, k.tape.trans h.tape, k.output.trans h.output, Nat.le_trans h.size k.size, fun i hi ib ig im iv => (k.block i (Nat.lt_of_lt_of_le hi h.size) ib (by omega)).trans (h.block i hi ib ig im iv)⟩
theorem Mv4.row {a w w' : World} {b g m v v' : Nat} (h : Mv4 a w b g m v) (k : Mv w w' m v') (hv : v' = v ∨ a.heap.size ≤ v') : Mv4 a w' b g m v :=
  ⟨k.os.trans h.os, k.tape.trans h.tape, k.output.trans h.output, Nat.le_trans h.size k.size, fun i hi ib ig im iv => (k.block i (Nat.lt_of_lt_of_le hi h.size) im (by omega)).trans (h.block i hi ib ig im iv)⟩
theorem Mv4.alloc {a w : World} {b g m v : Nat} (h : Mv4 a w b g m v) (o : Obj) : Mv4 a (w.alloc o) b g m v := h.ring ((Mv.refl w b g).alloc o) (.inl rfl)

theorem RingAt.mv {w w' : World} {b g c d : Nat} {s : RS} (h : RingAt w b g s) (k : Mv w w' c d) (h1 : b ≠ c) (h2 : b ≠ d) (h3 : g ≠ c) (h4 : g ≠ d) : RingAt w' b g s := ⟨h.head.mv k h1 h2, h.body.mv k h3 h4⟩
theorem RowAt.mv {w w' : World} {m v cap c d : Nat} {l : List Nat} (h : RowAt w m v cap l) (k : Mv w w' c d) (h1 : m ≠ c) (h2 : m ≠ d) (h3 : v ≠ c) (h4 : v ≠ d) : RowAt w' m v cap l := ⟨h.head.mv k h1 h2, row_blk h.own (k.block v h.lt h3 h4)⟩
theorem RingAt.alloc {w : World} {b g : Nat} {s : RS} (h : RingAt w b g s) (o : Obj) : RingAt (w.alloc o) b g s := ⟨h.head.alloc o, h.body.alloc o⟩
theorem RowAt.alloc {w : World} {m v cap : Nat} {l : List Nat} (h : RowAt w m v cap l) (o : Obj) : RowAt (w.alloc o) m v cap l := ⟨h.head.alloc o, h.own.alloc o⟩
theorem Blk.ne {w : World} {b c : Nat} {T U : TypeId} {x y : Array Value} (h : Blk w b T x) (k : Blk w c U y) (hT : T ≠ U) : b ≠ c := by
  rintro rfl
  unfold Blk at h k; rw [h] at k; injection k with k; injection k with _ k; exact hT k

/-- The blocks of a row, and of the document's, are apart. -/
structure Apart (b g m v : Nat) : Prop where
  bg : b ≠ g
  bm : b ≠ m
  bv : b ≠ v
  gm : g ≠ m
  gv : g ≠ v
  mv : m ≠ v

theorem apart_of {w : World} {b g m v cap : Nat} {s : RS} {l : List Nat} (h : RingAt w b g s) (k : RowAt w m v cap l) (hgv : g ≠ v) : Apart b g m v := by
  obtain ⟨_, cur, hv, _⟩ := row_inv k.own
  exact ⟨h.ne, h.head.ne k.head (by decide), h.head.ne hv (by decide), h.body.ne k.head (by decide), hgv, k.ne⟩

structure Both (w : World) (b g m v : Nat) (s : RS) (w' : World) : Prop where
  at_ : ∃ g' v' cap', RingAt w' b g' s ∧ RowAt w' m v' cap' s.items ∧ g' ≠ v' ∧ (g' = g ∨ w.heap.size ≤ g') ∧ (v' = v ∨ w.heap.size ≤ v')
  mv : Mv4 w w' b g m v

structure ActPost (w : World) (b g m v : Nat) (s : RS) (e : Ending) (w' : World) : Prop where
  e : e = .returned (.bool true)
  both : Both w b g m v s w'

def actArgs (b m kd x : Nat) (i : Int) : Array Value := #[.pointer (some ⟨b, 0, none⟩), .pointer (some ⟨m, 0, none⟩), .agg #[.int .u8 (kd : Int), .int .u64 (x : Int), .int .i64 i]]
def actBox (kd x : Nat) (i : Int) : Array Value := #[.int .u8 (kd : Int), .int .u64 (x : Int), .int .i64 i]

set_option maxHeartbeats 1000000 in
theorem act_push (b g m v cap kd x : Nat) (i : Int) (s : RS) (w : World) (hr : RingAt w b g s) (ho : s.ok) (hw : RowAt w m v cap s.items) (hgv : g ≠ v) (hc : s.cnt ≤ 1000) (hk : kd % 4 = 0) (hkd : kd ≤ 255) :
    Calls Try.prog 7 (actArgs b m kd x i) w (ActPost w b g m v (s.push x)) := by
  have HA := Lib.hid (apart_of hr hw hgv)
  have hbl := hr.head.lt
  have hgl := hr.body.lt
  have hml := hw.head.lt
  have hvl := hw.lt
  have HR := Lib.hid (hr.alloc (.cells (actBox kd x i) 33))
  have HW := Lib.hid (hw.alloc (.cells (actBox kd x i) 33))
  have HX := Lib.hid (Blk.new w 33 (actBox kd x i))
  have HM := Lib.hid ((Mv4.refl w b g m v).alloc (.cells (actBox kd x i) 33))
  have HO := Lib.hid ho
  have hq : (kd : Int) % 4 = 0 := by omega
  have HS : Hid (w.heap.size < (w.alloc (.cells (actBox kd x i) 33)).heap.size) := Lib.hid (by simp)
  clear hr hw ho hgv hk
  unfold actArgs
  unfold actBox at HR HW HX HM HS
  go_enter Try.func7, Try.ntmps7
  go_wp2_with fail
  generalize w.alloc (.cells #[.int .u8 (kd : Int), .int .u64 (x : Int), .int .i64 i] 33) = w0 at *
  refine (ring_Push b g x s w0 HR.out HO.out hc).mono ?_
  rintro e w1 ⟨rfl, ⟨g1, hr1, hg1⟩, hmv⟩
  have a := HA.out
  have HR1 := Lib.hid hr1
  have HW1 := Lib.hid (HW.out.mv hmv (Ne.symm a.bm) (Ne.symm a.gm) (Ne.symm a.bv) (Ne.symm a.gv))
  have HX1 := Lib.hid (HX.out.mv hmv (by omega) (by omega))
  have HM1 := Lib.hid (HM.out.ring hmv (.inl rfl))
  have HG1 := Lib.hid hg1
  have HV0 := Lib.hid (Nat.lt_of_lt_of_le HS.out hmv.size)
  have HV1 := Lib.hid hmv.size
  clear hr1 hg1 hmv a
  have c1 := HX1.out.cell (i := 1) (v := .int .u64 (x : Int)) rfl
  go_wp2_with fail
  refine (ref_Push m v cap x s.items w1 HW1.out (by rw [RS.len_items]; exact hc)).mono ?_
  rintro e w2 ⟨rfl, ⟨v2, cap2, hw2, hv2⟩, hmv⟩
  have HW2 : Hid (RowAt w2 m v2 cap2 (s.push x).items) := Lib.hid (by rw [RS.push_items HO.out]; exact hw2)
  have HG2 := Lib.hid hv2
  have HM2 := Lib.hid (HM1.out.row hmv (.inl rfl))
  have HR2 : Hid (RingAt w2 b g1 (s.push x)) := Lib.hid (by
    have a := HA.out
    have q := HG1.out
    have := HS.out
    refine HR1.out.mv hmv a.bm a.bv (by have := a.gm; omega) (by have := a.gv; omega))
  have HL := Lib.hid HR1.out.body.lt
  clear hw2 hv2 hmv c1
  go_wp2_with fail
  go_ret
  refine ⟨rfl, ⟨g1, v2, cap2, HR2.out, HW2.out, ?_, ?_, ?_⟩, HM2.out⟩
  · have a := HA.out.gv
    have := HG1.out; have := HG2.out; have := HS.out; have := HL.out; have := HV0.out; have := HV1.out
    omega
  · have := HG1.out; have := HS.out; omega
  · have := HG2.out; have := HV0.out; omega

set_option maxHeartbeats 1000000 in
theorem act_shift (b g m v cap kd x : Nat) (i : Int) (s : RS) (w : World) (hr : RingAt w b g s) (ho : s.ok) (hw : RowAt w m v cap s.items) (hgv : g ≠ v) (hc : s.cnt ≤ 1000) (hk : kd % 4 = 1) (hkd : kd ≤ 255) (hz : 0 < s.cnt) :
    Calls Try.prog 7 (actArgs b m kd x i) w (ActPost w b g m v s.shift) := by
  have HA := Lib.hid (apart_of hr hw hgv)
  have hbl := hr.head.lt
  have hgl := hr.body.lt
  have hml := hw.head.lt
  have hvl := hw.lt
  have HR := Lib.hid (hr.alloc (.cells (actBox kd x i) 33))
  have HW := Lib.hid (hw.alloc (.cells (actBox kd x i) 33))
  have HX := Lib.hid (Blk.new w 33 (actBox kd x i))
  have HM := Lib.hid ((Mv4.refl w b g m v).alloc (.cells (actBox kd x i) 33))
  have HO := Lib.hid ho
  have hq : (kd : Int) % 4 = 1 := by omega
  have HS : Hid (w.heap.size < (w.alloc (.cells (actBox kd x i) 33)).heap.size) := Lib.hid (by simp)
  clear hr hw ho hgv hk
  unfold actArgs
  unfold actBox at HR HW HX HM HS
  go_enter Try.func7, Try.ntmps7
  go_wp2_with fail
  generalize w.alloc (.cells #[.int .u8 (kd : Int), .int .u64 (x : Int), .int .i64 i] 33) = w0 at *
  refine (ring_Shift b g s w0 HR.out HO.out hz).mono ?_
  rintro e w1 ⟨rfl, ⟨g1, hr1, hg1⟩, hmv⟩
  have a := HA.out
  have HR1 := Lib.hid hr1
  have HW1 := Lib.hid (HW.out.mv hmv (Ne.symm a.bm) (Ne.symm a.gm) (Ne.symm a.bv) (Ne.symm a.gv))
  have HM1 := Lib.hid (HM.out.ring hmv (.inl rfl))
  have HG1 := Lib.hid hg1
  have HV0 := Lib.hid (Nat.lt_of_lt_of_le HS.out hmv.size)
  have HV1 := Lib.hid hmv.size
  have HE := Lib.hid (RS.items_front hz)
  have HE2 := Lib.hid (RS.shift_items HO.out hz)
  have HLn : Hid ((s.items.drop 1).length ≤ 1000) := Lib.hid (by have := RS.len_items s; simp; omega)
  clear hr1 hg1 hmv a
  generalize s.get 0 = y at *
  unfold got
  go_wp2_with fail
  refine (ref_Shift m v cap y (s.items.drop 1) w1 (by rw [← HE.out]; exact HW1.out) HLn.out).mono ?_
  rintro e w2 ⟨rfl, ⟨v2, cap2, hw2, hv2⟩, hmv⟩
  have HW2 : Hid (RowAt w2 m v2 cap2 s.shift.items) := Lib.hid (by rw [HE2.out]; exact hw2)
  have HG2 := Lib.hid hv2
  have HM2 := Lib.hid (HM1.out.row hmv (.inl rfl))
  have HR2 : Hid (RingAt w2 b g1 s.shift) := Lib.hid (by
    have a := HA.out
    have q := HG1.out
    have := HS.out
    refine HR1.out.mv hmv a.bm a.bv (by have := a.gm; omega) (by have := a.gv; omega))
  have HL := Lib.hid HR1.out.body.lt
  clear hw2 hv2 hmv
  unfold got
  go_wp2_with fail
  go_ret
  refine ⟨rfl, ⟨g1, v2, cap2, HR2.out, HW2.out, ?_, ?_, ?_⟩, HM2.out⟩
  · have a := HA.out.gv
    have := HG1.out; have := HG2.out; have := HS.out; have := HL.out; have := HV0.out; have := HV1.out
    omega
  · have := HG1.out; have := HS.out; omega
  · have := HG2.out; have := HV0.out; omega

set_option maxHeartbeats 1000000 in
theorem act_pop (b g m v cap kd x : Nat) (i : Int) (s : RS) (w : World) (hr : RingAt w b g s) (ho : s.ok) (hw : RowAt w m v cap s.items) (hgv : g ≠ v) (hc : s.cnt ≤ 1000) (hk : kd % 4 = 2) (hkd : kd ≤ 255) (hz : 0 < s.cnt) :
    Calls Try.prog 7 (actArgs b m kd x i) w (ActPost w b g m v s.pop) := by
  have HA := Lib.hid (apart_of hr hw hgv)
  have hbl := hr.head.lt
  have hgl := hr.body.lt
  have hml := hw.head.lt
  have hvl := hw.lt
  have HR := Lib.hid (hr.alloc (.cells (actBox kd x i) 33))
  have HW := Lib.hid (hw.alloc (.cells (actBox kd x i) 33))
  have HX := Lib.hid (Blk.new w 33 (actBox kd x i))
  have HM := Lib.hid ((Mv4.refl w b g m v).alloc (.cells (actBox kd x i) 33))
  have HO := Lib.hid ho
  have hq : (kd : Int) % 4 = 2 := by omega
  have HS : Hid (w.heap.size < (w.alloc (.cells (actBox kd x i) 33)).heap.size) := Lib.hid (by simp)
  clear hr hw ho hgv hk
  unfold actArgs
  unfold actBox at HR HW HX HM HS
  go_enter Try.func7, Try.ntmps7
  go_wp2_with fail
  generalize w.alloc (.cells #[.int .u8 (kd : Int), .int .u64 (x : Int), .int .i64 i] 33) = w0 at *
  refine (ring_Pop b g s w0 HR.out HO.out hz).mono ?_
  rintro e w1 ⟨rfl, ⟨g1, hr1, hg1⟩, hmv⟩
  have a := HA.out
  have HR1 := Lib.hid hr1
  have HW1 := Lib.hid (HW.out.mv hmv (Ne.symm a.bm) (Ne.symm a.gm) (Ne.symm a.bv) (Ne.symm a.gv))
  have HM1 := Lib.hid (HM.out.ring hmv (.inl rfl))
  have HG1 := Lib.hid hg1
  have HV0 := Lib.hid (Nat.lt_of_lt_of_le HS.out hmv.size)
  have HV1 := Lib.hid hmv.size
  have HE := Lib.hid (RS.items_back hz)
  have HE2 := Lib.hid (RS.pop_items HO.out hz)
  have HLn : Hid ((s.items.take (s.cnt - 1)).length ≤ 1000) := Lib.hid (by have := RS.len_items s; simp; omega)
  clear hr1 hg1 hmv a
  generalize s.get (s.cnt - 1) = y at *
  unfold got
  go_wp2_with fail
  refine (ref_Pop m v cap y (s.items.take (s.cnt - 1)) w1 (by rw [← HE.out]; exact HW1.out) HLn.out).mono ?_
  rintro e w2 ⟨rfl, ⟨v2, cap2, hw2, hv2⟩, hmv⟩
  have HW2 : Hid (RowAt w2 m v2 cap2 s.pop.items) := Lib.hid (by rw [HE2.out]; exact hw2)
  have HG2 := Lib.hid hv2
  have HM2 := Lib.hid (HM1.out.row hmv (.inl rfl))
  have HR2 : Hid (RingAt w2 b g1 s.pop) := Lib.hid (by
    have a := HA.out
    have q := HG1.out
    have := HS.out
    refine HR1.out.mv hmv a.bm a.bv (by have := a.gm; omega) (by have := a.gv; omega))
  have HL := Lib.hid HR1.out.body.lt
  clear hw2 hv2 hmv
  unfold got
  go_wp2_with fail
  go_ret
  refine ⟨rfl, ⟨g1, v2, cap2, HR2.out, HW2.out, ?_, ?_, ?_⟩, HM2.out⟩
  · have a := HA.out.gv
    have := HG1.out; have := HG2.out; have := HS.out; have := HL.out; have := HV0.out; have := HV1.out
    omega
  · have := HG1.out; have := HS.out; omega
  · have := HG2.out; have := HV0.out; omega

set_option maxHeartbeats 1000000 in
theorem act_shift0 (b g m v cap kd x : Nat) (i : Int) (s : RS) (w : World) (hr : RingAt w b g s) (ho : s.ok) (hw : RowAt w m v cap s.items) (hgv : g ≠ v) (hk : kd % 4 = 1) (hkd : kd ≤ 255) (hz : s.cnt = 0) :
    Calls Try.prog 7 (actArgs b m kd x i) w (ActPost w b g m v s) := by
  have HZ := Lib.hid hz
  clear hz
  have HA := Lib.hid (apart_of hr hw hgv)
  have hbl := hr.head.lt
  have hgl := hr.body.lt
  have hml := hw.head.lt
  have hvl := hw.lt
  have HR := Lib.hid (hr.alloc (.cells (actBox kd x i) 33))
  have HW := Lib.hid (hw.alloc (.cells (actBox kd x i) 33))
  have HX := Lib.hid (Blk.new w 33 (actBox kd x i))
  have HM := Lib.hid ((Mv4.refl w b g m v).alloc (.cells (actBox kd x i) 33))
  have HO := Lib.hid ho
  have hq : (kd : Int) % 4 = 1 := by omega
  have HS : Hid (w.heap.size < (w.alloc (.cells (actBox kd x i) 33)).heap.size) := Lib.hid (by simp)
  clear hr hw ho hgv hk
  unfold actArgs
  unfold actBox at HR HW HX HM HS
  go_enter Try.func7, Try.ntmps7
  go_wp2_with fail
  generalize w.alloc (.cells #[.int .u8 (kd : Int), .int .u64 (x : Int), .int .i64 i] 33) = w0 at *
  refine (ring_Shift_none b g s w0 HR.out HZ.out).mono ?_
  rintro e w1 ⟨rfl, ⟨g1, hr1, hg1⟩, hmv⟩
  have a := HA.out
  have HR1 := Lib.hid hr1
  have HW1 := Lib.hid (HW.out.mv hmv (Ne.symm a.bm) (Ne.symm a.gm) (Ne.symm a.bv) (Ne.symm a.gv))
  have HM1 := Lib.hid (HM.out.ring hmv (.inl rfl))
  have HG1 := Lib.hid hg1
  have HE : Hid (s.items = []) := Lib.hid (List.eq_nil_of_length_eq_zero (by rw [RS.len_items]; exact HZ.out))
  clear hr1 hg1 hmv a
  unfold got
  go_wp2_with fail
  refine (ref_Shift_none m v cap w1 (by rw [← HE.out]; exact HW1.out)).mono ?_
  rintro e w2 ⟨rfl, rfl⟩
  unfold got
  go_wp2_with fail
  go_ret
  refine ⟨rfl, ⟨g1, v, cap, HR1.out, HW1.out, ?_, ?_, .inl rfl⟩, HM1.out⟩
  · have a := HA.out.gv
    have := HG1.out; have := HS.out
    omega
  · have := HG1.out; have := HS.out; omega

set_option maxHeartbeats 1000000 in
theorem act_pop0 (b g m v cap kd x : Nat) (i : Int) (s : RS) (w : World) (hr : RingAt w b g s) (ho : s.ok) (hw : RowAt w m v cap s.items) (hgv : g ≠ v) (hk : kd % 4 = 2) (hkd : kd ≤ 255) (hz : s.cnt = 0) :
    Calls Try.prog 7 (actArgs b m kd x i) w (ActPost w b g m v s) := by
  have HZ := Lib.hid hz
  clear hz
  have HA := Lib.hid (apart_of hr hw hgv)
  have hbl := hr.head.lt
  have hgl := hr.body.lt
  have hml := hw.head.lt
  have hvl := hw.lt
  have HR := Lib.hid (hr.alloc (.cells (actBox kd x i) 33))
  have HW := Lib.hid (hw.alloc (.cells (actBox kd x i) 33))
  have HX := Lib.hid (Blk.new w 33 (actBox kd x i))
  have HM := Lib.hid ((Mv4.refl w b g m v).alloc (.cells (actBox kd x i) 33))
  have HO := Lib.hid ho
  have hq : (kd : Int) % 4 = 2 := by omega
  have HS : Hid (w.heap.size < (w.alloc (.cells (actBox kd x i) 33)).heap.size) := Lib.hid (by simp)
  clear hr hw ho hgv hk
  unfold actArgs
  unfold actBox at HR HW HX HM HS
  go_enter Try.func7, Try.ntmps7
  go_wp2_with fail
  generalize w.alloc (.cells #[.int .u8 (kd : Int), .int .u64 (x : Int), .int .i64 i] 33) = w0 at *
  refine (ring_Pop_none b g s w0 HR.out HZ.out).mono ?_
  rintro e w1 ⟨rfl, ⟨g1, hr1, hg1⟩, hmv⟩
  have a := HA.out
  have HR1 := Lib.hid hr1
  have HW1 := Lib.hid (HW.out.mv hmv (Ne.symm a.bm) (Ne.symm a.gm) (Ne.symm a.bv) (Ne.symm a.gv))
  have HM1 := Lib.hid (HM.out.ring hmv (.inl rfl))
  have HG1 := Lib.hid hg1
  have HE : Hid (s.items = []) := Lib.hid (List.eq_nil_of_length_eq_zero (by rw [RS.len_items]; exact HZ.out))
  clear hr1 hg1 hmv a
  unfold got
  go_wp2_with fail
  refine (ref_Pop_none m v cap w1 (by rw [← HE.out]; exact HW1.out)).mono ?_
  rintro e w2 ⟨rfl, rfl⟩
  unfold got
  go_wp2_with fail
  go_ret
  refine ⟨rfl, ⟨g1, v, cap, HR1.out, HW1.out, ?_, ?_, .inl rfl⟩, HM1.out⟩
  · have a := HA.out.gv
    have := HG1.out; have := HS.out
    omega
  · have := HG1.out; have := HS.out; omega

set_option maxHeartbeats 1000000 in
theorem act_at_out (b g m v cap kd x : Nat) (i : Int) (s : RS) (w : World) (hr : RingAt w b g s) (ho : s.ok) (hw : RowAt w m v cap s.items) (hgv : g ≠ v) (hc : s.cnt ≤ 1000) (hk : kd % 4 = 3) (hkd : kd ≤ 255) (hz : i < 0 ∨ (s.cnt : Int) ≤ i) :
    Calls Try.prog 7 (actArgs b m kd x i) w (ActPost w b g m v s) := by
  have HZ := Lib.hid hz
  clear hz
  have HA := Lib.hid (apart_of hr hw hgv)
  have hbl := hr.head.lt
  have hgl := hr.body.lt
  have hml := hw.head.lt
  have hvl := hw.lt
  have HR := Lib.hid (hr.alloc (.cells (actBox kd x i) 33))
  have HW := Lib.hid (hw.alloc (.cells (actBox kd x i) 33))
  have HX := Lib.hid (Blk.new w 33 (actBox kd x i))
  have HM := Lib.hid ((Mv4.refl w b g m v).alloc (.cells (actBox kd x i) 33))
  have HO := Lib.hid ho
  have hq : (kd : Int) % 4 = 3 := by omega
  have HS : Hid (w.heap.size < (w.alloc (.cells (actBox kd x i) 33)).heap.size) := Lib.hid (by simp)
  clear hr hw ho hgv hk
  unfold actArgs
  unfold actBox at HR HW HX HM HS
  go_enter Try.func7, Try.ntmps7
  go_wp2_with fail
  generalize w.alloc (.cells #[.int .u8 (kd : Int), .int .u64 (x : Int), .int .i64 i] 33) = w0 at *
  refine (ring_At_out b g i s w0 HR.out HZ.out).mono ?_
  rintro e w1 ⟨rfl, hd⟩
  have HD := Lib.hid hd
  have HR1 := Lib.hid (hd.ring HR.out)
  have HM1 := Lib.hid (HM.out.ring ((Mv.refl w0 b g).drawn hd) (.inl rfl))
  have HW1 := Lib.hid (HW.out.mv (w' := w1) ((Mv.refl w0 b b).drawn hd) (Ne.symm HA.out.bm) (Ne.symm HA.out.bm) (Ne.symm HA.out.bv) (Ne.symm HA.out.bv))
  have HX1 := Lib.hid (hd.blk HX.out)
  have c2 := HX1.out.cell (i := 2) (v := .int .i64 i) rfl
  clear hd
  unfold got
  go_wp2_with fail
  refine (ref_At_out m v cap i s.items w1 HW1.out (by rw [RS.len_items]; exact HZ.out)).mono ?_
  rintro e w2 ⟨rfl, rfl⟩
  unfold got
  go_wp2_with fail
  go_ret
  exact ⟨rfl, ⟨g, v, cap, HR1.out, HW1.out, HA.out.gv, .inl rfl, .inl rfl⟩, HM1.out⟩

set_option maxHeartbeats 1000000 in
theorem act_at_in (b g m v cap kd x : Nat) (i : Int) (s : RS) (w : World) (hr : RingAt w b g s) (ho : s.ok) (hw : RowAt w m v cap s.items) (hgv : g ≠ v) (hc : s.cnt ≤ 1000) (hk : kd % 4 = 3) (hkd : kd ≤ 255) (hz : 0 ≤ i ∧ i < (s.cnt : Int)) :
    Calls Try.prog 7 (actArgs b m kd x i) w (ActPost w b g m v s) := by
  have HZ := Lib.hid hz
  clear hz
  have HA := Lib.hid (apart_of hr hw hgv)
  have hbl := hr.head.lt
  have hgl := hr.body.lt
  have hml := hw.head.lt
  have hvl := hw.lt
  have HR := Lib.hid (hr.alloc (.cells (actBox kd x i) 33))
  have HW := Lib.hid (hw.alloc (.cells (actBox kd x i) 33))
  have HX := Lib.hid (Blk.new w 33 (actBox kd x i))
  have HM := Lib.hid ((Mv4.refl w b g m v).alloc (.cells (actBox kd x i) 33))
  have HO := Lib.hid ho
  have hq : (kd : Int) % 4 = 3 := by omega
  have HS : Hid (w.heap.size < (w.alloc (.cells (actBox kd x i) 33)).heap.size) := Lib.hid (by simp)
  clear hr hw ho hgv hk
  unfold actArgs
  unfold actBox at HR HW HX HM HS
  go_enter Try.func7, Try.ntmps7
  go_wp2_with fail
  generalize w.alloc (.cells #[.int .u8 (kd : Int), .int .u64 (x : Int), .int .i64 i] 33) = w0 at *
  obtain ⟨j, rfl⟩ : ∃ j : Nat, i = (j : Int) := ⟨i.toNat, by have := HZ.out; omega⟩
  have hj : j < s.cnt := by have := HZ.out; omega
  have HC1 := Lib.hid (ring_At b g j s w0 HR.out HO.out hj)
  have HE : Hid (s.items.getD j 0 = s.get j) := Lib.hid (by rw [List.getD_eq_getElem?_getD, RS.item_at hj]; rfl)
  refine (HC1.out).mono ?_
  rintro e w1 ⟨rfl, hd⟩
  have HD := Lib.hid hd
  have HR1 := Lib.hid (hd.ring HR.out)
  have HM1 := Lib.hid (HM.out.ring ((Mv.refl w0 b g).drawn hd) (.inl rfl))
  have HW1 := Lib.hid (HW.out.mv (w' := w1) ((Mv.refl w0 b b).drawn hd) (Ne.symm HA.out.bm) (Ne.symm HA.out.bm) (Ne.symm HA.out.bv) (Ne.symm HA.out.bv))
  have HX1 := Lib.hid (hd.blk HX.out)
  have c2 := HX1.out.cell (i := 2) (v := .int .i64 (j : Int)) rfl
  clear hd
  unfold got
  go_wp2_with fail
  have HC2 := Lib.hid (ref_At m v cap j s.items w1 HW1.out (by rw [RS.len_items]; exact hj) (by rw [RS.len_items]; exact hc))
  rw [HE.out] at HC2
  generalize s.get j = y at *
  refine (HC2.out).mono ?_
  rintro e w2 ⟨rfl, rfl⟩
  unfold got
  go_wp2_with fail
  go_ret
  exact ⟨rfl, ⟨g, v, cap, HR1.out, HW1.out, HA.out.gv, .inl rfl, .inl rfl⟩, HM1.out⟩

theorem act_any (b g m v cap kd x : Nat) (i : Int) (s : RS) (w : World) (hr : RingAt w b g s) (ho : s.ok) (hw : RowAt w m v cap s.items) (hgv : g ≠ v) (hc : s.cnt ≤ 1000) (hkd : kd ≤ 255) :
    Calls Try.prog 7 (actArgs b m kd x i) w (ActPost w b g m v (s.step kd x)) := by
  unfold RS.step
  by_cases k0 : kd % 4 = 0
  · rw [if_pos k0]; exact act_push b g m v cap kd x i s w hr ho hw hgv hc k0 hkd
  · rw [if_neg k0]
    by_cases z : s.cnt = 0
    · rw [if_pos z]
      by_cases k1 : kd % 4 = 1
      · exact act_shift0 b g m v cap kd x i s w hr ho hw hgv k1 hkd z
      · by_cases k2 : kd % 4 = 2
        · exact act_pop0 b g m v cap kd x i s w hr ho hw hgv k2 hkd z
        · exact act_at_out b g m v cap kd x i s w hr ho hw hgv hc (by omega) hkd (by omega)
    · rw [if_neg z]
      by_cases k1 : kd % 4 = 1
      · rw [if_pos k1]; exact act_shift b g m v cap kd x i s w hr ho hw hgv hc k1 hkd (by omega)
      · rw [if_neg k1]
        by_cases k2 : kd % 4 = 2
        · rw [if_pos k2]; exact act_pop b g m v cap kd x i s w hr ho hw hgv hc k2 hkd (by omega)
        · rw [if_neg k2]
          by_cases q : i < 0 ∨ (s.cnt : Int) ≤ i
          · exact act_at_out b g m v cap kd x i s w hr ho hw hgv hc (by omega) hkd q
          · exact act_at_in b g m v cap kd x i s w hr ho hw hgv hc (by omega) hkd (by omega)
end Go.Proofs.Ytfdekmccmdekkaa
