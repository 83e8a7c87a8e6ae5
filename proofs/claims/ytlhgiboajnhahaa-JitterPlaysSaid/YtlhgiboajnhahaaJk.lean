/- Contracts of package jitter over this translation: a box is four cells (its delay, jitter, ring, and when the last one was due), and a ring of parcels. Put, Next, Len, New. -/
import Derived.Test.YtlhgiboajnhahaaJug
import Derived.Test.YtlhgiboajnhahaaNba
import Derived.Deep.DeepCutAuto
import Derived.Deep.RegionHeld3
set_option linter.unusedVariables false
namespace Go.Proofs.Ytlhgiboajnhahaa
open Go.RowKit

/-- A box: its delay, jitter, parcels, and when the last one was due. -/
structure BxS where
  delay : Nat
  jit : Nat
  l : List Jp
  last : Nat
def isDue (now : Nat) (x : Jp) : Bool := decide (x.due ≤ now)
namespace BxS
def start (d j : Nat) : BxS := ⟨d, j, [], 0⟩
structure ok (s : BxS) : Prop where
  delay : s.delay ≤ 18446744073709551615
  jit : s.jit ≤ 18446744073709551615
  last : s.last ≤ 18446744073709551615
  due : ∀ x ∈ s.l, x.due ≤ 18446744073709551615
def ownT (s : BxS) (now ch : Nat) : Nat := Pl.addS (Pl.addS now s.delay) (min ch s.jit)
def dueB (s : BxS) (now ch : Nat) : Nat := max s.last (s.ownT now ch)
def putB (s : BxS) (p : Pk) (now ch : Nat) : BxS := ⟨s.delay, s.jit, s.l ++ [⟨p, s.dueB now ch⟩], s.dueB now ch⟩
def told (s : BxS) (now : Nat) : List Pk := (s.l.takeWhile (isDue now)).map Jp.p
def outB (s : BxS) (now : Nat) : BxS := ⟨s.delay, s.jit, s.l.dropWhile (isDue now), s.last⟩
def pks (s : BxS) : List Pk := s.l.map Jp.p
def nextT (s : BxS) : Nat := (s.l.getD 0 Itm.z).due
def someB (s : BxS) : Bool := !s.l.isEmpty
def cells (s : BxS) (rb : Nat) : Array Value := #[.int .u64 (s.delay : Int), .int .u64 (s.jit : Int), .pointer (some ⟨rb, 0, none⟩), .int .u64 (s.last : Int)]
theorem ownT_le (s : BxS) (now ch : Nat) : s.ownT now ch ≤ 18446744073709551615 := Pl.addS_le _ _
theorem dueB_le {s : BxS} (h : s.ok) (now ch : Nat) : s.dueB now ch ≤ 18446744073709551615 := by
  have := h.last
  have := s.ownT_le now ch
  unfold dueB; omega
theorem start_ok {d j : Nat} (h : d ≤ 18446744073709551615) (k : j ≤ 18446744073709551615) : (start d j).ok := ⟨h, k, Nat.zero_le _, fun x hx => by cases hx⟩
theorem put_ok {s : BxS} (h : s.ok) (p : Pk) (now ch : Nat) : (s.putB p now ch).ok := ⟨h.delay, h.jit, dueB_le h now ch, fun x hx => by
  rcases List.mem_append.1 hx with c | c
  · exact h.due x c
  · rw [List.mem_singleton.1 c]; exact dueB_le h now ch⟩
theorem out_ok {s : BxS} (h : s.ok) (now : Nat) : (s.outB now).ok := ⟨h.delay, h.jit, h.last, fun x hx => h.due x ((List.dropWhile_sublist _).subset hx)⟩
theorem put_len (s : BxS) (p : Pk) (now ch : Nat) : (s.putB p now ch).l.length = s.l.length + 1 := by simp [putB]
theorem out_len (s : BxS) (now : Nat) : (s.outB now).l.length ≤ s.l.length := (List.dropWhile_sublist _).length_le
theorem told_len (s : BxS) (now : Nat) : (s.told now).length ≤ s.l.length := by unfold told; rw [List.length_map]; exact (List.takeWhile_sublist _).length_le
end BxS

/-- A box in memory: its head at block b, its ring at rb, that one's places at g. -/
structure BxAt (w : World) (b rb g : Nat) (s : BxS) : Prop where
  head : Blk w b 55 (s.cells rb)
  row : JpRow w rb g s.l
theorem BxAt.keep {w w' : World} {b rb g : Nat} {s : BxS} (h : BxAt w b rb g s) (k : Below w.heap.size w w') : BxAt w' b rb g s := ⟨h.head.keep k, h.row.keep k⟩
theorem BxAt.ne {w : World} {b rb g : Nat} {s : BxS} (h : BxAt w b rb g s) : b ≠ rb ∧ b ≠ g ∧ rb ≠ g := by
  obtain ⟨cs, h1⟩ := h.row.head
  obtain ⟨ds, h2⟩ := h.row.body
  exact ⟨h.head.ty h1 (by decide), h.head.ty h2 (by decide), h.row.ne⟩
theorem BxAt.lt {w : World} {b rb g : Nat} {s : BxS} (h : BxAt w b rb g s) : b < w.heap.size ∧ rb < w.heap.size ∧ g < w.heap.size := ⟨h.head.lt, h.row.lt⟩
theorem BxAt.fr {w w' : World} {b rb g : Nat} {s : BxS} {L : List Nat} (h : BxAt w b rb g s) (k : Fr w w' L) (h1 : b ∉ L) (h2 : rb ∉ L) (h3 : g ∉ L) : BxAt w' b rb g s := ⟨h.head.fr k h1, h.row.fr k h2 h3⟩

/-- What a call of a box's leaves: its answer, the box, all other blocks as they were. -/
structure BxPost (W : World) (b rb g0 : Nat) (r : Value) (s : BxS) (e : Ending) (w : World) : Prop where
  e : e = .returned r
  at_ : ∃ g, BxAt w b rb g s ∧ (g = g0 ∨ W.heap.size ≤ g)
  fr : Fr W w [b, rb, g0]

/-- What holds while a box is changed: the box, a packet beside it. -/
structure BxM (W : World) (b rb g0 z : Nat) (cs : List Value) (s : BxS) (w : World) : Prop where
  at_ : ∃ g, BxAt w b rb g s ∧ (g = g0 ∨ W.heap.size ≤ g)
  fr : Fr W w [b, rb, g0]
  box : Blk w z 39 cs.toArray
  lo : W.heap.size ≤ z
  gz : b < z ∧ rb < z ∧ g0 < z
theorem BxM.to {W w w' : World} {b rb g0 z : Nat} {cs : List Value} {s : BxS} (h : BxM W b rb g0 z cs s w) (k : Below w.heap.size w w') : BxM W b rb g0 z cs s w' :=
  ⟨by obtain ⟨g, h1, h2⟩ := h.at_; exact ⟨g, h1.keep k, h2⟩, h.fr.below k, h.box.keep k, h.lo, h.gz⟩
theorem BxM.drew {W w : World} {b rb g0 z : Nat} {cs : List Value} {s : BxS} (h : BxM W b rb g0 z cs s w) : BxM W b rb g0 z cs s w.drew := h.to ((Drawn.drew w).below _)
theorem BxM.set {W w : World} {b rb g0 z : Nat} {cs : List Value} {s s' : BxS} (h : BxM W b rb g0 z cs s w) (i : Nat) (u : Value) (he : (s.cells rb).setIfInBounds i u = s'.cells rb) (hl : s.l = s'.l) : BxM W b rb g0 z cs s' (w.setCell ⟨b, i, none⟩ u) := by
  obtain ⟨g, h1, h2⟩ := h.at_
  have n := h1.ne
  exact ⟨⟨g, ⟨he ▸ h1.head.set i u, hl ▸ h1.row.set_other (Ne.symm n.1) (Ne.symm n.2.1)⟩, h2⟩, h.fr.set (.inl (by simp)) i u, h.box.set_other i u (by have := h.gz; omega), h.lo, h.gz⟩
theorem BxM.head {W w : World} {b rb g0 z : Nat} {cs : List Value} {s : BxS} (h : BxM W b rb g0 z cs s w) : Blk w b 55 (s.cells rb) := by obtain ⟨g, h1, _⟩ := h.at_; exact h1.head
theorem BxM.post {W w : World} {b rb g0 z : Nat} {cs : List Value} {s : BxS} {v : Value} (h : BxM W b rb g0 z cs s w) : BxPost W b rb g0 v s (.returned v) w :=
  ⟨rfl, by obtain ⟨g, h1, h2⟩ := h.at_; exact ⟨g, h1, h2⟩, h.fr⟩
theorem BxM.start {W : World} {b rb g : Nat} {s : BxS} (h : BxAt W b rb g s) (cs : List Value) : BxM W b rb g W.heap.size cs s (W.alloc (.cells cs.toArray 39)) :=
  ⟨⟨g, h.keep (al_be _ _), .inl rfl⟩, (Fr.refl _ _).alloc _, Blk.new _ _ _, Nat.le_refl _, h.lt⟩
/-- A call of the ring's. -/
theorem BxM.ring {W w w' : World} {b rb g0 z g : Nat} {cs : List Value} {s : BxS} {l : List Jp} {v e : Ending} (h : BxM W b rb g0 z cs s w) (h1 : BxAt w b rb g s) (h2 : g = g0 ∨ W.heap.size ≤ g) (k : JpRPost w rb g v l e w') : BxM W b rb g0 z cs ⟨s.delay, s.jit, l, s.last⟩ w' := by
  obtain ⟨g', k1, k2⟩ := k.at_
  have n := h1.ne
  have lt := h1.lt
  have zl := h.box.lt
  have gz := h.gz
  obtain ⟨ds, hd⟩ := h1.row.body
  have nz : z ≠ g := h.box.ty hd (by decide)
  refine ⟨⟨g', ⟨h1.head.fr k.mv (by simp [n.1, n.2.1]), k1⟩, by have := h.fr.size; rcases k2 with c | c; exact c ▸ h2; omega⟩, h.fr.trans k.mv (fun x hx => ?_), h.box.fr k.mv (by simp; omega), h.lo, gz⟩
  simp at hx ⊢
  omega
theorem bm_r {W : World} {b rb g0 z : Nat} {cs : List Value} {s : BxS} : (∀ w, Hid (BxM W b rb g0 z cs s w) → w.cell? ⟨b, 0, none⟩ = some (.int .u64 (s.delay : Int))) ∧ (∀ w, Hid (BxM W b rb g0 z cs s w) → w.cell? ⟨b, 1, none⟩ = some (.int .u64 (s.jit : Int))) ∧ (∀ w, Hid (BxM W b rb g0 z cs s w) → w.cell? ⟨b, 2, none⟩ = some (.pointer (some ⟨rb, 0, none⟩))) ∧ (∀ w, Hid (BxM W b rb g0 z cs s w) → w.cell? ⟨b, 3, none⟩ = some (.int .u64 (s.last : Int))) :=
  ⟨fun w h => h.out.head.cell rfl, fun w h => h.out.head.cell rfl, fun w h => h.out.head.cell rfl, fun w h => h.out.head.cell rfl⟩
theorem bm_z {W : World} {b rb g0 z i : Nat} {cs : List Value} {s : BxS} {v : Value} (hv : cs[i]? = some v) : ∀ w, Hid (BxM W b rb g0 z cs s w) → w.cell? ⟨z, i, none⟩ = some v := fun w h => h.out.box.cell (by simpa using hv)
theorem bm_l {W : World} {b rb g0 z d j t : Nat} {cs : List Value} : (∀ w, Hid (∃ l, BxM W b rb g0 z cs ⟨d, j, l, t⟩ w) → w.cell? ⟨b, 2, none⟩ = some (.pointer (some ⟨rb, 0, none⟩))) ∧ (∀ w, Hid (∃ l, BxM W b rb g0 z cs ⟨d, j, l, t⟩ w) → w.cell? ⟨b, 3, none⟩ = some (.int .u64 (t : Int))) :=
  ⟨fun w h => by obtain ⟨l, k⟩ := h.out; exact k.head.cell rfl, fun w h => by obtain ⟨l, k⟩ := h.out; exact k.head.cell rfl⟩
theorem bm_zl {W : World} {b rb g0 z i d j t : Nat} {cs : List Value} {v : Value} (hv : cs[i]? = some v) : ∀ w, Hid (∃ l, BxM W b rb g0 z cs ⟨d, j, l, t⟩ w) → w.cell? ⟨z, i, none⟩ = some v := fun w h => by
  obtain ⟨l, k⟩ := h.out
  exact k.box.cell (by simpa using hv)

/-- fix.Add of three numbers, wherever they lie. -/
theorem add3_any (x y z : Nat) (hx : x ≤ 18446744073709551615) (hy : y ≤ 18446744073709551615) (hz : z ≤ 18446744073709551615) (b : Nat) (W : World) (h0 : W.cell? ⟨b, 0, none⟩ = some (.int .u64 (x : Int))) (h1 : W.cell? ⟨b, 1, none⟩ = some (.int .u64 (y : Int))) (h2 : W.cell? ⟨b, 2, none⟩ = some (.int .u64 (z : Int))) :
    Calls Try.prog 19 #[.slice (some ⟨b, 0, none⟩) 3 3] W fun e W' => e = .returned (.int .u64 ((Pl.addS (Pl.addS x y) z : Nat) : Int)) ∧ Below W.heap.size W W' := by
  have := fix_Add b 0 3 [x, y, z] W (by simp) (by simp; omega) (fun i hi => by
    match i, hi with
    | 0, _ => exact h0
    | 1, _ => exact h1
    | 2, _ => exact h2)
  have e : Pl.sumS [x, y, z] = Pl.addS (Pl.addS x y) z := by simp [Pl.sumS, Pl.addS]; omega
  rw [e] at this
  exact this.mono fun e w' q => ⟨q.1, q.2 ▸ Below.refl _ _⟩
theorem nc3 (W : World) (x y z : Nat) (T : TypeId) : (W.alloc (.cells #[.int .u64 (x : Int), .int .u64 (y : Int), .int .u64 (z : Int)] T)).cell? ⟨W.heap.size, 0, none⟩ = some (.int .u64 (x : Int)) ∧ (W.alloc (.cells #[.int .u64 (x : Int), .int .u64 (y : Int), .int .u64 (z : Int)] T)).cell? ⟨W.heap.size, 1, none⟩ = some (.int .u64 (y : Int)) ∧ (W.alloc (.cells #[.int .u64 (x : Int), .int .u64 (y : Int), .int .u64 (z : Int)] T)).cell? ⟨W.heap.size, 2, none⟩ = some (.int .u64 (z : Int)) := ⟨new_cell rfl rfl, new_cell rfl rfl, new_cell rfl rfl⟩
theorem nc3' (W : World) (x y z : Nat) (T : TypeId) : (W.alloc (.cells #[.int .u64 (x : Int), .int .u64 (y : Int), .int .u64 (z : Int)] T)).drew.cell? ⟨W.heap.size, 0, none⟩ = some (.int .u64 (x : Int)) ∧ (W.alloc (.cells #[.int .u64 (x : Int), .int .u64 (y : Int), .int .u64 (z : Int)] T)).drew.cell? ⟨W.heap.size, 1, none⟩ = some (.int .u64 (y : Int)) ∧ (W.alloc (.cells #[.int .u64 (x : Int), .int .u64 (y : Int), .int .u64 (z : Int)] T)).drew.cell? ⟨W.heap.size, 2, none⟩ = some (.int .u64 (z : Int)) := nc3 W x y z T
theorem bx_push (b rb g0 z t : Nat) (p : Pk) (s : BxS) (W : World) (cs : List Value) (hk : s.l.length ≤ 1000) : ∀ w, BxM W b rb g0 z cs s w →
    Calls Try.prog 20 #[.pointer (some ⟨rb, 0, none⟩), (Jp.mk p t).agg] w fun e w' => e = .returned (.tuple #[]) ∧ Hid (BxM W b rb g0 z cs ⟨s.delay, s.jit, s.l ++ [⟨p, t⟩], s.last⟩ w') := fun w h => by
  obtain ⟨g, h1, h2⟩ := h.at_
  have := jp_push rb g ⟨p, t⟩ s.l w h1.row hk
  exact this.mono fun e w' k => ⟨k.e, Lib.hid (h.ring h1 h2 k)⟩

set_option maxHeartbeats 1000000 in
theorem bx_Put (b rb g0 : Nat) (p : Pk) (now ch : Nat) (s : BxS) (W : World) (h : BxAt W b rb g0 s) (ho : s.ok) (hn : now ≤ 18446744073709551615) (hc : ch ≤ 18446744073709551615) (hk : s.l.length ≤ 1000) :
    Calls Try.prog 11 #[.pointer (some ⟨b, 0, none⟩), p.agg, .int .u64 (now : Int), .int .u64 (ch : Int)] W (BxPost W b rb g0 (.int .u64 ((s.dueB now ch : Nat) : Int)) (s.putB p now ch)) := by
  have K0 := Lib.hid (BxM.start h (Itm.cs p))
  have hA := Lib.hid (add3_any now s.delay (min ch s.jit) hn ho.delay (by omega))
  have hC := Lib.hid (bx_push b rb g0 W.heap.size (s.dueB now ch) p ⟨s.delay, s.jit, s.l, s.dueB now ch⟩ W (Itm.cs p) hk)
  have hmin : (if s.jit < ch then (s.jit : Int) else (ch : Int)) = ((min ch s.jit : Nat) : Int) := by split <;> omega
  have hmx : Hid ((if s.last < s.ownT now ch then ((s.ownT now ch : Nat) : Int) else (s.last : Int)) = ((s.dueB now ch : Nat) : Int)) := Lib.hid (by unfold BxS.dueB; split <;> omega)
  have ES : Hid (BxM W b rb g0 W.heap.size (Itm.cs p) ⟨s.delay, s.jit, s.l ++ [⟨p, s.dueB now ch⟩], s.dueB now ch⟩ = BxM W b rb g0 W.heap.size (Itm.cs p) (s.putB p now ch)) := Lib.hid rfl
  have HE : Hid (s.ownT now ch = Pl.addS (Pl.addS now s.delay) (min ch s.jit)) := Lib.hid rfl
  have hz := Lib.hid (fun i v (hv : (Itm.cs p)[i]? = some v) => bm_zl (W := W) (b := b) (rb := rb) (g0 := g0) (z := W.heap.size) (d := s.delay) (j := s.jit) (t := s.dueB now ch) hv)
  have z0 := hz.out 0 _ rfl
  have z1 := hz.out 1 _ rfl
  have z2 := hz.out 2 _ rfl
  have z3 := hz.out 3 _ rfl
  have z4 := hz.out 4 _ rfl
  have z5 := hz.out 5 _ rfl
  have z6 := hz.out 6 _ rfl
  clear hz h ho hn hc hk
  obtain ⟨q0, q1, _, q3⟩ := bm_r (W := W) (b := b) (rb := rb) (g0 := g0) (z := W.heap.size) (cs := Itm.cs p) (s := s)
  unfold Pk.agg
  go_enter Try.func11, Try.ntmps11
  go_upto_region 3 with fail
  change Code.wp _ _ _ _ (W.alloc (.cells (Itm.cs p).toArray 39))
  have M0 := Lib.hid K0.out.drew
  clear K0
  generalize W.alloc (.cells (Itm.cs p).toArray 39) = w0 at *
  generalize min ch s.jit = m at *
  rw [← HE.out] at hA
  go_wp2_with fail
  go_region_held3 (fun w' => Hid (BxM W b rb g0 W.heap.size (Itm.cs p) s w'))
    (first | exact M0 | exact M2 | exact Lib.hid ((Hid.out (by assumption) : BxM W b rb g0 W.heap.size (Itm.cs p) s _).to (al_be _ _)) | assumption)
    (first | (go_at_call 19; (first | refine (hA.out _ _ (nc3 _ _ _ _ _).1 (nc3 _ _ _ _ _).2.1 (nc3 _ _ _ _ _).2.2).mono ?_ | refine (hA.out _ _ (nc3' _ _ _ _ _).1 (nc3' _ _ _ _ _).2.1 (nc3' _ _ _ _ _).2.2).mono ?_); rintro e w' ⟨rfl, hb⟩; have M2 := Lib.hid ((Hid.out (by assumption) : BxM W b rb g0 W.heap.size (Itm.cs p) s _).to hb)))
  all_goals
    have M3 := ‹Hid (BxM W b rb g0 W.heap.size (Itm.cs p) s w')›
    have c3 := M3.out.head.cell (i := 3) (v := .int .u64 (s.last : Int)) rfl
    have y3 := M3.out.head.free 3
    have e4 := hmx.out
    have M4 := Lib.hid (M3.out.set (s' := ⟨s.delay, s.jit, s.l, s.dueB now ch⟩) 3 (.int .u64 ((s.dueB now ch : Nat) : Int)) rfl rfl)
    clear q0 q1 q3 hA M0 M2 M3 hb hmx HE hmin
    generalize hD : s.dueB now ch = D at *
    clear hD
    generalize hT : s.ownT now ch = T at *
    clear hT
    go_wp2_with fail
    clear c3 y3 e4
    generalize (w'.setCell ⟨b, 3, none⟩ (.int .u64 (D : Int))) = w3 at *
    have M5 := Lib.hid M4.out.drew
    obtain ⟨q2, q3⟩ := bm_l (W := W) (b := b) (rb := rb) (g0 := g0) (z := W.heap.size) (cs := Itm.cs p) (d := s.delay) (j := s.jit) (t := D)
    go_region_held3 (fun w' => Hid (∃ l, BxM W b rb g0 W.heap.size (Itm.cs p) ⟨s.delay, s.jit, l, D⟩ w'))
      (first | exact Lib.hid ⟨_, K2.out⟩ | exact Lib.hid ⟨_, M5.out⟩ | assumption)
      (first | (go_at_call 20; (refine (hC.out _ M5.out).mono ?_); rintro e w2 ⟨rfl, K2⟩))
    all_goals
      have f3 := K2.out.head.cell (i := 3) (v := .int .u64 (D : Int)) rfl
      clear hC z0 z1 z2 z3 z4 z5 z6 q2 q3
      go_wp2_with fail
      go_ret
      rw [ES.out] at K2
      exact K2.out.post

theorem jp_first (rb g : Nat) (l : List Jp) (w : World) (h : JpRow w rb g l) :
    Calls Try.prog 22 #[.pointer (some ⟨rb, 0, none⟩), .int .i64 0] w fun e w' => e = jpgot (l.getD 0 Itm.z) (!l.isEmpty) ∧ Below w.heap.size w w' := by
  cases l with
  | nil => exact jp_at_out rb g 0 [] w h (.inr (by simp))
  | cons x r => exact jp_at rb g 0 (x :: r) w h (by simp)
set_option maxHeartbeats 1000000 in
theorem bx_Next (b rb g : Nat) (s : BxS) (w : World) (h : BxAt w b rb g s) :
    Calls Try.prog 13 #[.pointer (some ⟨b, 0, none⟩)] w fun e w' => e = .returned (.tuple #[.int .u64 (s.nextT : Int), .bool s.someB]) ∧ Below w.heap.size w w' := by
  have c2 := h.head.cell (i := 2) (v := .pointer (some ⟨rb, 0, none⟩)) rfl
  have HA := Lib.hid (jp_first rb g s.l w h.row)
  have E1 : Hid (s.nextT = (s.l.getD 0 Itm.z).due) := Lib.hid rfl
  have E2 : Hid (s.someB = !s.l.isEmpty) := Lib.hid rfl
  clear h
  generalize s.l.getD 0 Itm.z = x at *
  rw [← E2.out] at HA
  generalize s.someB = q at *
  rw [E1.out]
  clear E1 E2
  go_enter Try.func13, Try.ntmps13
  go_wp2_with fail
  refine HA.out.mono ?_
  rintro e w1 ⟨rfl, hb⟩
  have HB := Lib.hid hb
  clear hb HA c2
  unfold jpgot Jp.agg
  go_wp2_with fail
  go_ret2
  exact ⟨rfl, bel_to HB.out (al_be _ _) HB.out.size⟩
theorem bx_Len (b rb g : Nat) (s : BxS) (w : World) (h : BxAt w b rb g s) :
    Calls Try.prog 16 #[.pointer (some ⟨b, 0, none⟩)] w fun e w' => e = .returned (.int .i64 (s.l.length : Int)) ∧ w = w' := by
  have c2 := h.head.cell (i := 2) (v := .pointer (some ⟨rb, 0, none⟩)) rfl
  have HA := Lib.hid (jp_len rb g s.l w h.row)
  clear h
  go_enter Try.func16, Try.ntmps16
  go_wp2_with fail
  refine HA.out.mono ?_
  rintro e w1 ⟨rfl, rfl⟩
  go_wp2_with fail
  go_ret
  exact ⟨rfl, rfl⟩
/-- What New makes. -/
structure BxMade (w : World) (d j : Nat) (e : Ending) (w' : World) : Prop where
  at_ : ∃ b rb g, e = .returned (.pointer (some ⟨b, 0, none⟩)) ∧ BxAt w' b rb g (BxS.start d j) ∧ w.heap.size ≤ b ∧ w.heap.size ≤ rb ∧ w.heap.size ≤ g
  bel : Below w.heap.size w w'
theorem bx_New (d j : Nat) (w : World) : Calls Try.prog 7 #[.int .u64 (d : Int), .int .u64 (j : Int)] w (BxMade w d j) := by
  have HN := Lib.hid (jp_new none 0 [] w (Its.none _ _) (by simp))
  go_enter Try.func7, Try.ntmps7
  go_wp2_with fail
  refine HN.out.mono ?_
  rintro e w1 ⟨⟨b, g, rfl, hr, hb, hg⟩, hbel⟩
  have HR := Lib.hid hr
  have HW := Lib.hid hbel
  clear hr hbel HN
  go_wp2_with fail
  go_ret
  exact ⟨⟨_, b, g, rfl, ⟨Blk.new _ _ _, HR.out.alloc _⟩, HW.out.size, hb, hg⟩, HW.out.trans ((al_be _ _).mono HW.out.size)⟩

end Go.Proofs.Ytlhgiboajnhahaa
