/- Contracts of package queue over this translation: a queue is five cells (its ring, bytes, room, how many were dropped, their bytes), and a ring of packets. -/
import Derived.Test.YteolchbeiidapaaQpg
import Derived.Test.YteolchbeiidapaaNb
import Derived.Deep.DeepCutAuto
import Derived.Deep.RegionHeld3
set_option linter.unusedVariables false
namespace Go.Proofs.Yteolchbeiidapaa
open Go.RowKit

/-- A queue: packets, their bytes, room, how many were dropped, their bytes. -/
structure QK where
  l : List Pk
  n : Nat
  room : Nat
  dr : Nat
  lost : Nat
namespace QK
def start (r : Nat) : QK := ⟨[], 0, r, 0, 0⟩
structure ok (s : QK) : Prop where
  n : s.n ≤ 18446744073709551615
  room : s.room ≤ 18446744073709551615
  dr : s.dr ≤ 18446744073709551615
  lost : s.lost ≤ 18446744073709551615
  sz : ∀ x ∈ s.l, x.size ≤ 18446744073709551615
def pushQ (s : QK) (p : Pk) : QK := ⟨s.l ++ [p], s.n, s.room, s.dr, s.lost⟩
def addQ (s : QK) (p : Pk) : QK := ⟨s.l ++ [p], Pl.addS s.n p.size, s.room, s.dr, s.lost⟩
def dropQ (s : QK) (p : Pk) : QK := ⟨s.l, s.n, s.room, Pl.addS s.dr 1, Pl.addS s.lost p.size⟩
def putB (s : QK) (p : Pk) : Bool := decide (p.size ≤ Pl.subS s.room s.n)
def putQ (s : QK) (p : Pk) : QK := if p.size ≤ Pl.subS s.room s.n then s.addQ p else s.dropQ p
def popQ (s : QK) : QK := ⟨s.l.drop 1, s.n, s.room, s.dr, s.lost⟩
def headQ (s : QK) : Pk := s.l.getD 0 Itm.z
def someQ (s : QK) : Bool := !s.l.isEmpty
def shiftQ (s : QK) : QK := ⟨s.l.drop 1, Pl.subS s.n s.headQ.size, s.room, s.dr, s.lost⟩
def cells (s : QK) (rb : Nat) : Array Value := #[.pointer (some ⟨rb, 0, none⟩), .int .u64 (s.n : Int), .int .u64 (s.room : Int), .int .u64 (s.dr : Int), .int .u64 (s.lost : Int)]
theorem start_ok {r : Nat} (h : r ≤ 18446744073709551615) : (start r).ok := ⟨Nat.zero_le _, h, Nat.zero_le _, Nat.zero_le _, fun x hx => by cases hx⟩
theorem add_ok {s : QK} (h : s.ok) {p : Pk} (hp : p.size ≤ 18446744073709551615) : (s.addQ p).ok := ⟨Pl.addS_le _ _, h.room, h.dr, h.lost, fun x hx => by
  rcases List.mem_append.1 hx with c | c
  · exact h.sz x c
  · rw [List.mem_singleton.1 c]; exact hp⟩
theorem drop_ok {s : QK} (h : s.ok) (p : Pk) : (s.dropQ p).ok := ⟨h.n, h.room, Pl.addS_le _ _, Pl.addS_le _ _, h.sz⟩
theorem put_ok {s : QK} (h : s.ok) {p : Pk} (hp : p.size ≤ 18446744073709551615) : (s.putQ p).ok := by
  unfold putQ; split
  · exact add_ok h hp
  · exact drop_ok h p
theorem head_ok {s : QK} (h : s.ok) : s.headQ.size ≤ 18446744073709551615 := by
  unfold headQ
  cases e : s.l with
  | nil => exact Nat.zero_le _
  | cons x r => exact h.sz x (by rw [e]; simp)
theorem shift_ok {s : QK} (h : s.ok) : s.shiftQ.ok := ⟨Nat.le_trans (Pl.subS_le _ _) h.n, h.room, h.dr, h.lost, fun x hx => h.sz x (List.mem_of_mem_drop hx)⟩
theorem put_len (s : QK) (p : Pk) : (s.putQ p).l.length ≤ s.l.length + 1 := by
  unfold putQ; split
  · simp [addQ]
  · exact Nat.le_succ _
end QK

/-- A queue in memory: its head at block b, its ring at rb, that one's places at g. -/
structure QAt (w : World) (b rb g : Nat) (s : QK) : Prop where
  head : Blk w b 52 (s.cells rb)
  row : PkRow w rb g s.l
theorem QAt.keep {w w' : World} {b rb g : Nat} {s : QK} (h : QAt w b rb g s) (k : Below w.heap.size w w') : QAt w' b rb g s := ⟨h.head.keep k, h.row.keep k⟩
theorem QAt.ne {w : World} {b rb g : Nat} {s : QK} (h : QAt w b rb g s) : b ≠ rb ∧ b ≠ g ∧ rb ≠ g := by
  obtain ⟨cs, h1⟩ := h.row.head
  obtain ⟨ds, h2⟩ := h.row.body
  exact ⟨h.head.ty h1 (by decide), h.head.ty h2 (by decide), h.row.ne⟩
theorem QAt.lt {w : World} {b rb g : Nat} {s : QK} (h : QAt w b rb g s) : b < w.heap.size ∧ rb < w.heap.size ∧ g < w.heap.size := ⟨h.head.lt, h.row.lt⟩
theorem QAt.fr {w w' : World} {b rb g : Nat} {s : QK} {L : List Nat} (h : QAt w b rb g s) (k : Fr w w' L) (h1 : b ∉ L) (h2 : rb ∉ L) (h3 : g ∉ L) : QAt w' b rb g s := ⟨h.head.fr k h1, h.row.fr k h2 h3⟩

/-- What a call of a queue's leaves: its answer, the queue, all other blocks as they were. -/
structure QPost (W : World) (b rb g0 : Nat) (r : Value) (s : QK) (e : Ending) (w : World) : Prop where
  e : e = .returned r
  at_ : ∃ g, QAt w b rb g s ∧ (g = g0 ∨ W.heap.size ≤ g)
  fr : Fr W w [b, rb, g0]

/-- What holds while a queue is changed: the queue, a packet's box beside it. -/
structure QM (W : World) (b rb g0 z : Nat) (cs : List Value) (s : QK) (w : World) : Prop where
  at_ : ∃ g, QAt w b rb g s ∧ (g = g0 ∨ W.heap.size ≤ g) ∧ g ≠ z
  fr : Fr W w [b, rb, g0]
  box : Blk w z 36 cs.toArray
  lo : W.heap.size ≤ z
  gz : b < z ∧ rb < z ∧ g0 < z
theorem QM.to {W w w' : World} {b rb g0 z : Nat} {cs : List Value} {s : QK} (h : QM W b rb g0 z cs s w) (k : Below w.heap.size w w') : QM W b rb g0 z cs s w' :=
  ⟨by obtain ⟨g, h1, h2⟩ := h.at_; exact ⟨g, h1.keep k, h2⟩, h.fr.below k, h.box.keep k, h.lo, h.gz⟩
theorem QM.drew {W w : World} {b rb g0 z : Nat} {cs : List Value} {s : QK} (h : QM W b rb g0 z cs s w) : QM W b rb g0 z cs s w.drew := h.to ((Drawn.drew w).below _)
theorem QM.set {W w : World} {b rb g0 z : Nat} {cs : List Value} {s s' : QK} (h : QM W b rb g0 z cs s w) (i : Nat) (u : Value) (he : (s.cells rb).setIfInBounds i u = s'.cells rb) (hl : s.l = s'.l) : QM W b rb g0 z cs s' (w.setCell ⟨b, i, none⟩ u) := by
  obtain ⟨g, h1, h2⟩ := h.at_
  have n := h1.ne
  exact ⟨⟨g, ⟨he ▸ h1.head.set i u, hl ▸ h1.row.set_other (Ne.symm n.1) (Ne.symm n.2.1)⟩, h2⟩, h.fr.set (.inl (by simp)) i u, h.box.set_other i u (by have := h.gz; omega), h.lo, h.gz⟩
theorem QM.head {W w : World} {b rb g0 z : Nat} {cs : List Value} {s : QK} (h : QM W b rb g0 z cs s w) : Blk w b 52 (s.cells rb) := by obtain ⟨g, h1, _⟩ := h.at_; exact h1.head
theorem QM.post {W w : World} {b rb g0 z : Nat} {cs : List Value} {s : QK} {v : Value} (h : QM W b rb g0 z cs s w) : QPost W b rb g0 v s (.returned v) w :=
  ⟨rfl, by obtain ⟨g, h1, h2⟩ := h.at_; exact ⟨g, h1, h2.1⟩, h.fr⟩
theorem QM.start {W : World} {b rb g : Nat} {s : QK} (h : QAt W b rb g s) (cs : List Value) : QM W b rb g W.heap.size cs s (W.alloc (.cells cs.toArray 36)) :=
  ⟨⟨g, h.keep (al_be _ _), .inl rfl, by have := h.lt; omega⟩, (Fr.refl _ _).alloc _, Blk.new _ _ _, Nat.le_refl _, h.lt⟩
/-- A call of the ring's. -/
theorem QM.ring {W w w' : World} {b rb g0 z g : Nat} {cs : List Value} {s : QK} {l : List Pk} {v e : Ending} (h : QM W b rb g0 z cs s w) (h1 : QAt w b rb g s) (h2 : (g = g0 ∨ W.heap.size ≤ g) ∧ g ≠ z) (k : PkRPost w rb g v l e w') : QM W b rb g0 z cs ⟨l, s.n, s.room, s.dr, s.lost⟩ w' := by
  obtain ⟨g', k1, k2⟩ := k.at_
  have n := h1.ne
  have lt := h1.lt
  have zl := h.box.lt
  have gz := h.gz
  refine ⟨⟨g', ⟨h1.head.fr k.mv (by simp [n.1, n.2.1]), k1⟩, by have := h.fr.size; rcases k2 with c | c; exact c ▸ h2; omega⟩, h.fr.trans k.mv (fun x hx => ?_), h.box.fr k.mv (by simp; omega), h.lo, gz⟩
  have lo := h.lo
  simp at hx ⊢
  omega
/-- A call of the queue's. -/
theorem QM.call {W w w' : World} {b rb g0 z g : Nat} {cs : List Value} {s s' : QK} {v : Value} {e : Ending} (h : QM W b rb g0 z cs s w) (h1 : QAt w b rb g s) (h2 : (g = g0 ∨ W.heap.size ≤ g) ∧ g ≠ z) (k : QPost w b rb g v s' e w') : QM W b rb g0 z cs s' w' := by
  obtain ⟨g', k1, k2⟩ := k.at_
  have zl := h.box.lt
  have gz := h.gz
  refine ⟨⟨g', k1, by have := h.fr.size; rcases k2 with c | c; exact c ▸ h2; omega⟩, h.fr.trans k.fr (fun x hx => ?_), h.box.fr k.fr (by simp; omega), h.lo, gz⟩
  have lo := h.lo
  simp at hx ⊢
  omega
/-- A box that is written whole. -/
theorem QM.boxed {W w w' : World} {b rb g0 z : Nat} {cs ds : List Value} {s : QK} (h : QM W b rb g0 z cs s w) (hl : ds.length = cs.length) : QM W b rb g0 z ds s (w.setCells z 0 ds) := by
  obtain ⟨g, h1, h2⟩ := h.at_
  have zl := h.box.lt
  have gz := h.gz
  have gn := h2.2
  have f : Fr w (w.setCells z 0 ds) [z] := Fr.sets (.inl (by simp)) ds 0 w (Fr.refl _ _)
  refine ⟨⟨g, h1.fr f (by simp; omega) (by simp; omega) (by simp; omega), h2⟩, h.fr.trans f (fun x hx => ?_), h.box.whole ds (by simpa using hl), h.lo, gz⟩
  have lo := h.lo
  simp at hx ⊢
  omega
/-- The cells that stay while bytes, or what was dropped, is counted. -/
def QSo (W : World) (b rb g0 z : Nat) (cs : List Value) (s : QK) (w : World) : Prop := ∃ n d k, QM W b rb g0 z cs ⟨s.l, n, s.room, d, k⟩ w
theorem qso {W w : World} {b rb g0 z n d k r : Nat} {cs : List Value} {s : QK} {l : List Pk} (h : Hid (QM W b rb g0 z cs ⟨s.l, n, s.room, d, k⟩ w)) : Hid (QSo W b rb g0 z cs s w) := Lib.hid ⟨n, d, k, h.out⟩
theorem qso_box {W : World} {b rb g0 z i : Nat} {cs : List Value} {s : QK} {v : Value} (hv : cs[i]? = some v) : ∀ w, Hid (QSo W b rb g0 z cs s w) → w.cell? ⟨z, i, none⟩ = some v := fun w h => by
  obtain ⟨n, d, k, h1⟩ := h.out
  exact h1.box.cell (by simpa using hv)
theorem qm_r {W : World} {b rb g0 z : Nat} {cs : List Value} {s : QK} : (∀ w, Hid (QM W b rb g0 z cs s w) → w.cell? ⟨b, 0, none⟩ = some (.pointer (some ⟨rb, 0, none⟩))) ∧ (∀ w, Hid (QM W b rb g0 z cs s w) → w.cell? ⟨b, 1, none⟩ = some (.int .u64 (s.n : Int))) ∧ (∀ w, Hid (QM W b rb g0 z cs s w) → w.cell? ⟨b, 2, none⟩ = some (.int .u64 (s.room : Int))) ∧ (∀ w, Hid (QM W b rb g0 z cs s w) → w.rangeAt z 0 cs) :=
  ⟨fun w h => h.out.head.cell rfl, fun w h => h.out.head.cell rfl, fun w h => h.out.head.cell rfl, fun w h => h.out.box.range0⟩

theorem wq_push (b rb g0 : Nat) (p : Pk) (s : QK) (W : World) (cs : List Value) (hc : Itm.cs p = cs) (hk : s.l.length ≤ 1000) : ∀ w, QM W b rb g0 W.heap.size cs s w →
    Calls Try.prog 28 #[.pointer (some ⟨rb, 0, none⟩), .agg cs.toArray] w fun e w' => e = .returned (.tuple #[]) ∧ Hid (QM W b rb g0 W.heap.size cs (s.pushQ p) w') := fun w h => by
  obtain ⟨g, h1, h2⟩ := h.at_
  have := pk_push rb g p s.l w h1.row hk
  subst hc
  exact this.mono fun e w' k => ⟨k.e, Lib.hid (h.ring h1 h2 k)⟩

theorem qx_r {W : World} {b rb g0 z : Nat} {cs : List Value} : (∀ w, Hid (∃ s, QM W b rb g0 z cs s w) → w.cell? ⟨b, 0, none⟩ = some (.pointer (some ⟨rb, 0, none⟩))) ∧ (∀ w, Hid (∃ s, QM W b rb g0 z cs s w) → w.rangeAt z 0 cs) :=
  ⟨fun w h => by obtain ⟨s, k⟩ := h.out; exact k.head.cell rfl, fun w h => by obtain ⟨s, k⟩ := h.out; exact k.box.range0⟩
theorem qx_of {W w : World} {b rb g0 z : Nat} {cs : List Value} {s : QK} (h : Hid (QM W b rb g0 z cs s w)) : Hid (∃ s, QM W b rb g0 z cs s w) := Lib.hid ⟨s, h.out⟩

set_option maxHeartbeats 1000000 in
theorem wq_add (b rb g0 : Nat) (p : Pk) (s : QK) (W : World) (h : QAt W b rb g0 s) (ho : s.ok) (hp : p.size ≤ 18446744073709551615) (hk : s.l.length ≤ 1000) :
    Calls Try.prog 21 #[.pointer (some ⟨b, 0, none⟩), p.agg] W (QPost W b rb g0 (.tuple #[]) (s.addQ p)) := by
  have HC := Lib.hid (wq_push b rb g0 p s W _ rfl hk)
  have K0 := Lib.hid (QM.start h (Itm.cs p))
  have hA := Lib.hid (add_any s.n p.size ho.n hp)
  have hx : (Itm.cs p)[1]? = some (.int .u64 (p.size : Int)) := rfl
  unfold Pk.agg
  go_enter Try.func21, Try.ntmps21
  go_wp2_with fail
  have hu := Try.underlying36
  have hi := pk_inf p
  change Code.wp _ _ _ _ (W.alloc (.cells (Itm.cs p).toArray 36))
  generalize hcs : Itm.cs p = cs at *
  generalize W.alloc (.cells cs.toArray 36) = w1 at *
  have K1 := Lib.hid K0.out.drew
  obtain ⟨r0, r1⟩ := qx_r (W := W) (b := b) (rb := rb) (g0 := g0) (z := W.heap.size) (cs := cs)
  refine wp_region_held_drew (S := (fun w' => Hid (∃ s, QM W b rb g0 W.heap.size cs s w'))) (by kernel_rfl) (qx_of K1) (fun hHeld => ?_)
  simp only [List.size_toArray, List.length_cons, List.length_nil, Nat.reduceAdd, Array.replicate_succ, Array.replicate_zero, List.push_toArray, List.nil_append, List.cons_append]
  refine' wpAnyH_take (i := 4) (oi := ⟨some 8, _, _, _, _, _⟩) (v := _) rfl (by kernel_rfl) (by kernel_rfl) (by kernel_rfl) (fun _ _ _ h => h) (yieldsIf_load_mid (by rfl) _ _ rfl _ _ rfl _ _ ?hS1 hu rfl hi) (by assumption) ?r1
  case hS1 => intro w hSw; exact r1 _ hSw
  simp only [Act.put, List.setIfInBounds_toArray, List.set_cons_zero, List.set_cons_succ]
  refine wpAnyH_take (i := 0) (oi := ⟨some 4, _, _, _, _, _⟩) (v := ?v2) rfl (by kernel_rfl) (by kernel_rfl) (by kernel_rfl) (fun _ _ _ h => h) (Or.inl ⟨by rfl, ?y2⟩) (by assumption) ?r2
  case y2 => intro w hSw; clear hSw; go_simp; (try with_reducible rfl)
  simp only [Act.put, List.setIfInBounds_toArray, List.set_cons_zero, List.set_cons_succ]
  refine wpAnyH_take (i := 1) (oi := ⟨some 5, _, _, _, _, _⟩) (v := ?v3) rfl (by kernel_rfl) (by kernel_rfl) (by kernel_rfl) (fun _ _ _ h => h) (Or.inl ⟨by rfl, ?y3⟩) (by assumption) ?r3
  case y3 => intro w hSw; clear hSw; go_simp; (try with_reducible rfl)
  simp only [Act.put, List.setIfInBounds_toArray, List.set_cons_zero, List.set_cons_succ]
  refine wpAnyH_take (i := 2) (oi := ⟨some 6, _, _, _, _, _⟩) (v := ?v4) rfl (by kernel_rfl) (by kernel_rfl) (by kernel_rfl) (fun _ _ _ h => h) (Or.inl ⟨by rfl, ?y4⟩) (by assumption) ?r4
  case y4 => intro w hSw; clear hSw; go_simp; (try with_reducible rfl)
  simp only [Act.put, List.setIfInBounds_toArray, List.set_cons_zero, List.set_cons_succ]
  refine wpAnyH_take (i := 3) (oi := ⟨some 7, _, _, _, _, _⟩) (v := ?v5) rfl (by kernel_rfl) (by kernel_rfl) (by kernel_rfl) (fun _ _ _ h => h) (Or.inl ⟨by rfl, ?y5⟩) (by assumption) ?r5
  case y5 => intro w hSw; skip; go_simp; (try with_reducible rfl)
  simp only [Act.put, List.setIfInBounds_toArray, List.set_cons_zero, List.set_cons_succ]
  refine wpAnyH_ready (rs := [5]) (by kernel_rfl) (by simp) ?_
  refine AllReadyH.cons (o := ⟨some 9, _, _, _, _, _⟩) rfl (fun K hK => ?_) AllReadyH.nil
  go_simp
  refine (HC.out _ (Hid.out (by assumption))).mono ?_
  rintro e w2 ⟨rfl, K2⟩
  go_wp2_with fail
  refine hK.out _ _ (qx_of K2) (fun hHeld => ?_)
  clear hK
  try simp only [List.setIfInBounds_toArray, List.set_cons_zero, List.set_cons_succ]
  refine wpAnyH_done (by kernel_rfl) ?_ _
  skip
  clear hHeld r0 r1 K1 HC
  have R1 := qso_box (W := W) (b := b) (rb := rb) (g0 := g0) (z := W.heap.size) (s := s.pushQ p) hx
  have EQ : Hid (s.addQ p = ⟨(s.pushQ p).l, Pl.addS s.n p.size, (s.pushQ p).room, (s.pushQ p).dr, (s.pushQ p).lost⟩) := Lib.hid rfl
  have M0 : Hid (QM W b rb g0 W.heap.size cs ⟨(s.pushQ p).l, s.n, (s.pushQ p).room, (s.pushQ p).dr, (s.pushQ p).lost⟩ w2) := K2
  clear K2 hcs K0 h ho
  generalize Pl.addS s.n p.size = y at *
  generalize p.size = x at *
  generalize s.n = n at *
  generalize s.pushQ p = s at *
  go_wp2_with fail
  have M1 := Lib.hid M0.out.drew
  refine wp_region_held_drew (S := (fun w' => Hid (QSo W b rb g0 W.heap.size cs s w'))) (by kernel_rfl) (qso (s := s) (l := []) (r := 0) M1) (fun hHeld => ?_)
  generalize w2.drew = wd at *
  simp only [List.size_toArray, List.length_cons, List.length_nil, Nat.reduceAdd, Array.replicate_succ, Array.replicate_zero, List.push_toArray, List.nil_append, List.cons_append]
  refine wpAnyH_take (i := 0) (oi := ⟨some 10, _, _, _, _, _⟩) (v := ?v6) rfl (by kernel_rfl) (by kernel_rfl) (by kernel_rfl) (fun _ _ _ h => h) (Or.inl ⟨by rfl, ?y6⟩) (by assumption) ?r6
  case y6 => intro w hSw; clear hSw; go_simp; (try with_reducible rfl)
  simp only [Act.put, List.setIfInBounds_toArray, List.set_cons_zero, List.set_cons_succ]
  refine wpAnyH_take (i := 1) (oi := ⟨some 11, _, _, _, _, _⟩) (v := ?v7) rfl (by kernel_rfl) (by kernel_rfl) (by kernel_rfl) (fun _ _ _ h => h) (Or.inl ⟨by rfl, ?y7⟩) (by assumption) ?r7
  case y7 => intro w hSw; clear hSw; go_simp; (try with_reducible rfl)
  simp only [Act.put, List.setIfInBounds_toArray, List.set_cons_zero, List.set_cons_succ]
  refine wpAnyH_take (i := 2) (oi := ⟨some 12, _, _, _, _, _⟩) (v := ?v8) rfl (by kernel_rfl) (by kernel_rfl) (by kernel_rfl) (fun _ _ _ h => h) (Or.inl ⟨by rfl, ?y8⟩) (by assumption) ?r8
  case y8 => intro w hSw; clear hSw; go_simp; (try with_reducible rfl)
  simp only [Act.put, List.setIfInBounds_toArray, List.set_cons_zero, List.set_cons_succ]
  refine wpAnyH_take (i := 3) (oi := ⟨some 13, _, _, _, _, _⟩) (v := ?v9) rfl (by kernel_rfl) (by kernel_rfl) (by kernel_rfl) (fun _ _ _ h => h) (Or.inl ⟨by rfl, ?y9⟩) (by assumption) ?r9
  case y9 => intro w hSw; clear hSw; go_simp; (try with_reducible rfl)
  simp only [Act.put, List.setIfInBounds_toArray, List.set_cons_zero, List.set_cons_succ]
  refine wpAnyH_take (i := 5) (oi := ⟨some 15, _, _, _, _, _⟩) (v := ?v10) rfl (by kernel_rfl) (by kernel_rfl) (by kernel_rfl) (fun _ _ _ h => h) (Or.inl ⟨by rfl, ?y10⟩) (by assumption) ?r10
  case y10 => intro w hSw; clear hSw; go_simp; (try with_reducible rfl)
  simp only [Act.put, List.setIfInBounds_toArray, List.set_cons_zero, List.set_cons_succ]
  refine wpAnyH_take (i := 6) (oi := ⟨some 16, _, _, _, _, _⟩) (v := ?v11) rfl (by kernel_rfl) (by kernel_rfl) (by kernel_rfl) (fun _ _ _ h => h) (Or.inl ⟨by rfl, ?y11⟩) (by assumption) ?r11
  case y11 => intro w hSw; skip; go_simp; (try with_reducible rfl)
  simp only [Act.put, List.setIfInBounds_toArray, List.set_cons_zero, List.set_cons_succ]
  refine wpAnyH_ready (rs := [4]) (by kernel_rfl) (by simp) ?_
  refine AllReadyH.cons (o := ⟨some 14, _, _, _, _, _⟩) rfl (fun K hK => ?_) AllReadyH.nil
  have c3 := (Hid.out (by assumption) : QM W b rb g0 W.heap.size cs ⟨s.l, n, s.room, s.dr, s.lost⟩ _).head.cell (i := 1) (v := .int .u64 (n : Int)) rfl
  go_simp
  refine hK.out _ _ hHeld (fun hHeld => ?_)
  clear hK
  try simp only [List.setIfInBounds_toArray, List.set_cons_zero, List.set_cons_succ]
  refine wpAnyH_ready (rs := [7]) (by kernel_rfl) (by simp) ?_
  refine AllReadyH.cons (o := ⟨some 17, _, _, _, _, _⟩) rfl (fun K hK => ?_) AllReadyH.nil
  have M3 := Lib.hid ((Hid.out (by assumption) : QM W b rb g0 W.heap.size cs ⟨s.l, n, s.room, s.dr, s.lost⟩ _).to (al_be _ (.cells #[.int .u64 (n : Int), .int .u64 (x : Int)] 22)))
  go_simp
  refine hK.out _ _ (qso (s := s) (l := []) (r := 0) M3) (fun hHeld => ?_)
  clear hK
  try simp only [List.setIfInBounds_toArray, List.set_cons_zero, List.set_cons_succ]
  refine wpAnyH_ready (rs := [8]) (by kernel_rfl) (by simp) ?_
  refine AllReadyH.cons (o := ⟨some 18, _, _, _, _, _⟩) rfl (fun K hK => ?_) AllReadyH.nil
  go_simp
  refine (hA.out _ _ (nc2 _ _ _ _).1 (nc2 _ _ _ _).2).mono ?_
  rintro e w4 ⟨rfl, hb⟩
  have M4 := Lib.hid ((Hid.out (by assumption) : QM W b rb g0 W.heap.size cs ⟨s.l, n, s.room, s.dr, s.lost⟩ _).to hb)
  go_wp2_with fail
  refine hK.out _ _ (qso (s := s) (l := []) (r := 0) M4) (fun hHeld => ?_)
  clear hK
  try simp only [List.setIfInBounds_toArray, List.set_cons_zero, List.set_cons_succ]
  refine wpAnyH_take (i := 9) (oi := ⟨some 19, _, _, _, _, _⟩) (v := ?v12) rfl (by kernel_rfl) (by kernel_rfl) (by kernel_rfl) (fun _ _ _ h => h) (Or.inl ⟨by rfl, ?y12⟩) (by assumption) ?r12
  case y12 => intro w hSw; clear hSw; go_simp; (try with_reducible rfl)
  simp only [Act.put, List.setIfInBounds_toArray, List.set_cons_zero, List.set_cons_succ]
  refine wpAnyH_take (i := 10) (oi := ⟨some 20, _, _, _, _, _⟩) (v := ?v13) rfl (by kernel_rfl) (by kernel_rfl) (by kernel_rfl) (fun _ _ _ h => h) (Or.inl ⟨by rfl, ?y13⟩) (by assumption) ?r13
  case y13 => intro w hSw; clear hSw; go_simp; (try with_reducible rfl)
  simp only [Act.put, List.setIfInBounds_toArray, List.set_cons_zero, List.set_cons_succ]
  refine wpAnyH_ready (rs := [11]) (by kernel_rfl) (by simp) ?_
  refine AllReadyH.cons (o := ⟨none, _, _, _, _, _⟩) rfl (fun K hK => ?_) AllReadyH.nil
  have y3 := (Hid.out (by assumption) : QM W b rb g0 W.heap.size cs ⟨s.l, n, s.room, s.dr, s.lost⟩ _).head.free 1
  have c3 := (Hid.out (by assumption) : QM W b rb g0 W.heap.size cs ⟨s.l, n, s.room, s.dr, s.lost⟩ _).head.cell (i := 1) (v := .int .u64 (n : Int)) rfl
  have M6 := Lib.hid ((Hid.out (by assumption) : QM W b rb g0 W.heap.size cs ⟨s.l, n, s.room, s.dr, s.lost⟩ _).set (s' := ⟨s.l, y, s.room, s.dr, s.lost⟩) 1 (.int .u64 (y : Int)) rfl rfl)
  go_simp
  refine hK.out _ _ (qso (s := s) (l := []) (r := 0) M6) (fun hHeld => ?_)
  clear hK
  try simp only [List.setIfInBounds_toArray, List.set_cons_zero, List.set_cons_succ]
  refine wpAnyH_done (by kernel_rfl) ?_ _
  go_end0
  rw [EQ.out]
  exact M6.out.post

set_option maxHeartbeats 1000000 in
theorem wq_drop (b rb g0 : Nat) (p : Pk) (s : QK) (W : World) (h : QAt W b rb g0 s) (ho : s.ok) (hp : p.size ≤ 18446744073709551615) :
    Calls Try.prog 20 #[.pointer (some ⟨b, 0, none⟩), p.agg] W (QPost W b rb g0 (.tuple #[]) (s.dropQ p)) := by
  have K0 := Lib.hid (QM.start h (Itm.cs p))
  have hA := Lib.hid (add_any s.dr 1 ho.dr (by omega))
  have hB := Lib.hid (add_any s.lost p.size ho.lost hp)
  have hx : (Itm.cs p)[1]? = some (.int .u64 (p.size : Int)) := rfl
  have EQ : Hid (s.dropQ p = ⟨s.l, s.n, s.room, Pl.addS s.dr 1, Pl.addS s.lost p.size⟩) := Lib.hid rfl
  unfold Pk.agg
  go_enter Try.func20, Try.ntmps20
  go_upto_region 1 with fail
  change Code.wp _ _ _ _ (W.alloc (.cells (Itm.cs p).toArray 36))
  generalize hcs : Itm.cs p = cs at *
  generalize W.alloc (.cells cs.toArray 36) = w0 at *
  have h3 := K0.out.head.cell (i := 3) (v := .int .u64 (s.dr : Int)) rfl
  go_wp2_with fail
  have K1 := Lib.hid (K0.out.to (al_be _ (.cells #[.int .u64 (s.dr : Int), .int .u64 1] 22)))
  refine (hA.out _ _ (new_cell (c := #[.int .u64 (s.dr : Int), .int .u64 1]) rfl rfl) (new_cell (c := #[.int .u64 (s.dr : Int), .int .u64 1]) rfl rfl)).mono ?_
  rintro e w1 ⟨rfl, hb⟩
  have K2 := Lib.hid (K1.out.to hb)
  have y3 := K2.out.head.free 3
  have c3 := K2.out.head.cell (i := 3) (v := .int .u64 (s.dr : Int)) rfl
  have M0 := Lib.hid (K2.out.set (s' := ⟨s.l, s.n, s.room, Pl.addS s.dr 1, s.lost⟩) 3 (.int .u64 ((Pl.addS s.dr 1 : Nat) : Int)) rfl rfl)
  have R1 := qso_box (W := W) (b := b) (rb := rb) (g0 := g0) (z := W.heap.size) (s := s) hx
  clear hb K1 K2 hcs K0 h ho h3
  generalize Pl.addS s.dr 1 = q at *
  generalize Pl.addS s.lost p.size = y at *
  generalize p.size = x at *
  generalize s.lost = n at *
  go_wp2_with fail
  generalize (w1.setCell ⟨b, 3, none⟩ (.int .u64 (q : Int))) = w2 at *
  have M1 := Lib.hid M0.out.drew
  refine wp_region_held_drew (S := (fun w' => Hid (QSo W b rb g0 W.heap.size cs s w'))) (by kernel_rfl) (qso (s := s) (l := []) (r := 0) M1) (fun hHeld => ?_)
  generalize w2.drew = wd at *
  simp only [List.size_toArray, List.length_cons, List.length_nil, Nat.reduceAdd, Array.replicate_succ, Array.replicate_zero, List.push_toArray, List.nil_append, List.cons_append]
  refine wpAnyH_take (i := 0) (oi := ⟨some 13, _, _, _, _, _⟩) (v := ?v14) rfl (by kernel_rfl) (by kernel_rfl) (by kernel_rfl) (fun _ _ _ h => h) (Or.inl ⟨by rfl, ?y14⟩) (by assumption) ?r14
  case y14 => intro w hSw; clear hSw; go_simp; (try with_reducible rfl)
  simp only [Act.put, List.setIfInBounds_toArray, List.set_cons_zero, List.set_cons_succ]
  refine wpAnyH_take (i := 1) (oi := ⟨some 14, _, _, _, _, _⟩) (v := ?v15) rfl (by kernel_rfl) (by kernel_rfl) (by kernel_rfl) (fun _ _ _ h => h) (Or.inl ⟨by rfl, ?y15⟩) (by assumption) ?r15
  case y15 => intro w hSw; clear hSw; go_simp; (try with_reducible rfl)
  simp only [Act.put, List.setIfInBounds_toArray, List.set_cons_zero, List.set_cons_succ]
  refine wpAnyH_take (i := 2) (oi := ⟨some 15, _, _, _, _, _⟩) (v := ?v16) rfl (by kernel_rfl) (by kernel_rfl) (by kernel_rfl) (fun _ _ _ h => h) (Or.inl ⟨by rfl, ?y16⟩) (by assumption) ?r16
  case y16 => intro w hSw; clear hSw; go_simp; (try with_reducible rfl)
  simp only [Act.put, List.setIfInBounds_toArray, List.set_cons_zero, List.set_cons_succ]
  refine wpAnyH_take (i := 3) (oi := ⟨some 16, _, _, _, _, _⟩) (v := ?v17) rfl (by kernel_rfl) (by kernel_rfl) (by kernel_rfl) (fun _ _ _ h => h) (Or.inl ⟨by rfl, ?y17⟩) (by assumption) ?r17
  case y17 => intro w hSw; clear hSw; go_simp; (try with_reducible rfl)
  simp only [Act.put, List.setIfInBounds_toArray, List.set_cons_zero, List.set_cons_succ]
  refine wpAnyH_take (i := 5) (oi := ⟨some 18, _, _, _, _, _⟩) (v := ?v18) rfl (by kernel_rfl) (by kernel_rfl) (by kernel_rfl) (fun _ _ _ h => h) (Or.inl ⟨by rfl, ?y18⟩) (by assumption) ?r18
  case y18 => intro w hSw; clear hSw; go_simp; (try with_reducible rfl)
  simp only [Act.put, List.setIfInBounds_toArray, List.set_cons_zero, List.set_cons_succ]
  refine wpAnyH_take (i := 6) (oi := ⟨some 19, _, _, _, _, _⟩) (v := ?v19) rfl (by kernel_rfl) (by kernel_rfl) (by kernel_rfl) (fun _ _ _ h => h) (Or.inl ⟨by rfl, ?y19⟩) (by assumption) ?r19
  case y19 => intro w hSw; skip; go_simp; (try with_reducible rfl)
  simp only [Act.put, List.setIfInBounds_toArray, List.set_cons_zero, List.set_cons_succ]
  refine wpAnyH_ready (rs := [4]) (by kernel_rfl) (by simp) ?_
  refine AllReadyH.cons (o := ⟨some 17, _, _, _, _, _⟩) rfl (fun K hK => ?_) AllReadyH.nil
  have c3 := (Hid.out (by assumption) : QM W b rb g0 W.heap.size cs ⟨s.l, s.n, s.room, q, n⟩ _).head.cell (i := 4) (v := .int .u64 (n : Int)) rfl
  go_simp
  refine hK.out _ _ hHeld (fun hHeld => ?_)
  clear hK
  try simp only [List.setIfInBounds_toArray, List.set_cons_zero, List.set_cons_succ]
  refine wpAnyH_ready (rs := [7]) (by kernel_rfl) (by simp) ?_
  refine AllReadyH.cons (o := ⟨some 20, _, _, _, _, _⟩) rfl (fun K hK => ?_) AllReadyH.nil
  have M3 := Lib.hid ((Hid.out (by assumption) : QM W b rb g0 W.heap.size cs ⟨s.l, s.n, s.room, q, n⟩ _).to (al_be _ (.cells #[.int .u64 (n : Int), .int .u64 (x : Int)] 22)))
  go_simp
  refine hK.out _ _ (qso (s := s) (l := []) (r := 0) M3) (fun hHeld => ?_)
  clear hK
  try simp only [List.setIfInBounds_toArray, List.set_cons_zero, List.set_cons_succ]
  refine wpAnyH_ready (rs := [8]) (by kernel_rfl) (by simp) ?_
  refine AllReadyH.cons (o := ⟨some 21, _, _, _, _, _⟩) rfl (fun K hK => ?_) AllReadyH.nil
  go_simp
  refine (hB.out _ _ (nc2 _ _ _ _).1 (nc2 _ _ _ _).2).mono ?_
  rintro e w4 ⟨rfl, hb⟩
  have M4 := Lib.hid ((Hid.out (by assumption) : QM W b rb g0 W.heap.size cs ⟨s.l, s.n, s.room, q, n⟩ _).to hb)
  go_wp2_with fail
  refine hK.out _ _ (qso (s := s) (l := []) (r := 0) M4) (fun hHeld => ?_)
  clear hK
  try simp only [List.setIfInBounds_toArray, List.set_cons_zero, List.set_cons_succ]
  refine wpAnyH_take (i := 9) (oi := ⟨some 22, _, _, _, _, _⟩) (v := ?v20) rfl (by kernel_rfl) (by kernel_rfl) (by kernel_rfl) (fun _ _ _ h => h) (Or.inl ⟨by rfl, ?y20⟩) (by assumption) ?r20
  case y20 => intro w hSw; clear hSw; go_simp; (try with_reducible rfl)
  simp only [Act.put, List.setIfInBounds_toArray, List.set_cons_zero, List.set_cons_succ]
  refine wpAnyH_take (i := 10) (oi := ⟨some 23, _, _, _, _, _⟩) (v := ?v21) rfl (by kernel_rfl) (by kernel_rfl) (by kernel_rfl) (fun _ _ _ h => h) (Or.inl ⟨by rfl, ?y21⟩) (by assumption) ?r21
  case y21 => intro w hSw; clear hSw; go_simp; (try with_reducible rfl)
  simp only [Act.put, List.setIfInBounds_toArray, List.set_cons_zero, List.set_cons_succ]
  refine wpAnyH_ready (rs := [11]) (by kernel_rfl) (by simp) ?_
  refine AllReadyH.cons (o := ⟨none, _, _, _, _, _⟩) rfl (fun K hK => ?_) AllReadyH.nil
  have y3 := (Hid.out (by assumption) : QM W b rb g0 W.heap.size cs ⟨s.l, s.n, s.room, q, n⟩ _).head.free 4
  have c3 := (Hid.out (by assumption) : QM W b rb g0 W.heap.size cs ⟨s.l, s.n, s.room, q, n⟩ _).head.cell (i := 4) (v := .int .u64 (n : Int)) rfl
  have M6 := Lib.hid ((Hid.out (by assumption) : QM W b rb g0 W.heap.size cs ⟨s.l, s.n, s.room, q, n⟩ _).set (s' := ⟨s.l, s.n, s.room, q, y⟩) 4 (.int .u64 (y : Int)) rfl rfl)
  go_simp
  refine hK.out _ _ (qso (s := s) (l := []) (r := 0) M6) (fun hHeld => ?_)
  clear hK
  try simp only [List.setIfInBounds_toArray, List.set_cons_zero, List.set_cons_succ]
  refine wpAnyH_done (by kernel_rfl) ?_ _
  go_end0
  rw [EQ.out]
  exact M6.out.post

theorem wq_room (b rb g : Nat) (s : QK) (w : World) (h : QAt w b rb g s) :
    Calls Try.prog 14 #[.pointer (some ⟨b, 0, none⟩)] w fun e w' => e = .returned (.int .u64 (s.n : Int)) ∧ w = w' := by
  have h1 := h.head.cell (i := 1) (v := .int .u64 (s.n : Int)) rfl
  clear h
  go_enter Try.func14, Try.ntmps14
  go_wp2
  go_ret
  exact ⟨rfl, rfl⟩
theorem wq_Dropped (b rb g : Nat) (s : QK) (w : World) (h : QAt w b rb g s) :
    Calls Try.prog 11 #[.pointer (some ⟨b, 0, none⟩)] w fun e w' => e = .returned (.tuple #[.int .u64 (s.dr : Int), .int .u64 (s.lost : Int)]) ∧ Drawn w w' := by
  have h3 := h.head.cell (i := 3) (v := .int .u64 (s.dr : Int)) rfl
  have h4 := h.head.cell (i := 4) (v := .int .u64 (s.lost : Int)) rfl
  clear h
  go_enter Try.func11, Try.ntmps11
  go_wp2_with fail
  go_quiet (fail)
  go_wp2_with fail
  go_ret2
  exact ⟨rfl, nq, rfl⟩
theorem wq_All (b rb g : Nat) (s : QK) (w : World) (h : QAt w b rb g s) :
    Calls Try.prog 12 #[.pointer (some ⟨b, 0, none⟩)] w (PkLayPost w s.l) := by
  have h0 := h.head.cell (i := 0) (v := .pointer (some ⟨rb, 0, none⟩)) rfl
  have HA := Lib.hid (pk_all rb g s.l w h.row)
  clear h
  go_enter Try.func12, Try.ntmps12
  go_wp2_with fail
  refine HA.out.mono ?_
  rintro e w1 ⟨rfl, hb, hbel⟩
  go_wp2_with fail
  go_ret
  exact ⟨rfl, hb, hbel⟩

end Go.Proofs.Yteolchbeiidapaa
