/- What is due in a box, told by a range over a function that takes it away, over this translation. -/
import Derived.RangeFuncNested
import Derived.RangeFuncBound
import Derived.RangeFuncCalls
import Derived.RangeFuncLeaves
import Derived.Shelf.Abstract
import Derived.Shelf.RegionOpen
import Derived.WalkKit
import Derived.OwnWalkIn
import Derived.TacticsInMore
import Derived.LoopNIn
import Derived.LoopIn
import Derived.Test.YtlhgiboajnhahaaJl
import Derived.Test.YtlhgiboajnhahaaLr2
set_option linter.unusedVariables false
namespace Go.Proofs.Ytlhgiboajnhahaa
open Go.RowKit Go.Shelf
attribute [local go_sem] Oper.semAt_some

/-- What the iterator does between two rounds: it changes the ring, and its places, alone. -/
def StJ (rb g0 n0 : Nat) (A B : World) : Prop := ∃ L, Fr A B L ∧ ∀ x ∈ L, (x = rb ∨ x = g0 ∨ n0 ≤ x) ∧ ((∃ cs, Blk A x 67 cs) ∨ ∃ cs, Blk A x 53 cs)
/-- What a round keeps: all blocks that are neither packets nor a list of them. -/
def KrJ (A B : World) : Prop := ∀ k T cs, T ≠ 39 → T ≠ 33 → Blk A k T cs → Blk B k T cs
theorem StJ.below {rb g0 n0 : Nat} {A B : World} (h : Below A.heap.size A B) : StJ rb g0 n0 A B := ⟨[], Fr.of_below h [], fun x hx => by cases hx⟩
theorem StJ.row {b rb g0 n0 g : Nat} {A B : World} {s : BxS} {l : List Jp} {v e : Ending} (h : BxAt A b rb g s) (hg : g = g0 ∨ n0 ≤ g) (k : JpRPost A rb g v l e B) : StJ rb g0 n0 A B := by
  refine ⟨[rb, g], k.mv, fun x hx => ?_⟩
  obtain ⟨c1, h1⟩ := h.row.head
  obtain ⟨c2, h2⟩ := h.row.body
  simp at hx
  rcases hx with rfl | rfl
  · exact ⟨.inl rfl, .inl ⟨_, h1⟩⟩
  · exact ⟨.inr hg, .inr ⟨_, h2⟩⟩
theorem StJ.blk {rb g0 n0 : Nat} {A B : World} (h : StJ rb g0 n0 A B) {k : Nat} {T : TypeId} {cs : Array Value} (hb : Blk A k T cs) (h1 : T ≠ 67) (h2 : T ≠ 53) : Blk B k T cs := by
  obtain ⟨L, f, hL⟩ := h
  refine hb.fr f (fun hm => ?_)
  rcases (hL k hm).2 with ⟨ds, hd⟩ | ⟨ds, hd⟩
  · exact hb.ty hd h1 rfl
  · exact hb.ty hd h2 rfl
theorem StJ.other {rb g0 n0 : Nat} {A B : World} (h : StJ rb g0 n0 A B) (k : Nat) (ob : Obj) (hk : A.heap[k]? = some ob) (ho : ob.isCells = false) : B.heap[k]? = some ob := by
  obtain ⟨L, f, hL⟩ := h
  refine (f.block k (Array.getElem?_eq_some_iff.1 hk).1 (fun hm => ?_)).trans hk
  rcases (hL k hm).2 with ⟨ds, hd⟩ | ⟨ds, hd⟩ <;>
  · unfold Blk at hd
    rw [hk] at hd; cases hd; cases ho
theorem KrJ.trans {A B C : World} (h : KrJ A B) (k : KrJ B C) : KrJ A C := fun x T cs h1 h2 hb => k x T cs h1 h2 (h x T cs h1 h2 hb)
theorem KrJ.put {A : World} {l : Nat} {ob : Obj} (o' : Obj) (hk : A.heap[l]? = some ob) (ho : ob.isCells = false) : KrJ A (A.putObj l o') := fun x T cs _ _ hb => by
  unfold Blk at hb ⊢
  refine (World.putObj_heap_other (fun e => ?_)).trans hb
  subst e
  rw [hk] at hb; cases hb; cases ho
theorem KrJ.below {A B : World} (h : Below A.heap.size A B) : KrJ A B := fun x T cs _ _ hb => hb.keep h
theorem BxAt.kr {A B : World} {b rb g : Nat} {s : BxS} (h : BxAt A b rb g s) (k : KrJ A B) : BxAt B b rb g s := by
  obtain ⟨h1, q, h2, h3, h4⟩ := h
  exact ⟨k _ _ _ (by decide) (by decide) h1, q, h2, h3, k _ _ _ (by decide) (by decide) h4.head, k _ _ _ (by decide) (by decide) h4.body⟩
/-- How many parcels a ring has, read off memory. -/
def rowM (w : World) (rb : Nat) : Nat := (intOf ((w.cell? ⟨rb, 2, none⟩).getD undef)).toNat
theorem rowM_eq {w : World} {rb g : Nat} {l : List Jp} (h : JpRow w rb g l) : rowM w rb = l.length := by
  obtain ⟨q, h1, rfl, h3⟩ := h
  unfold rowM
  rw [h3.head.cell (i := 2) (v := .int .i64 (q.cnt : Int)) rfl, QS.len_items]
  simp [intOf]

/-- What the iterator's loop keeps. -/
structure DuI (b rb g0 n0 bb bn now : Nat) (s : BxS) (J : List Pk → World → Prop) (pre rest : List Jp) (w : World) : Prop where
  e : s.l = pre ++ rest
  due : ∀ y ∈ pre, isDue now y = true
  at_ : ∃ g, BxAt w b rb g ⟨s.delay, s.jit, rest, s.last⟩ ∧ (g = g0 ∨ n0 ≤ g)
  bb : Blk w bb 25 #[.pointer (some ⟨b, 0, none⟩)]
  bn : Blk w bn 22 #[.int .u64 (now : Int)]
  sz : n0 ≤ w.heap.size
  j : J (pre.map Jp.p) w
theorem DuI.to {b rb g0 n0 bb bn now : Nat} {s : BxS} {J : List Pk → World → Prop} {pre rest : List Jp} {w w' : World} (hJ : ∀ pre A B, J pre A → StJ rb g0 n0 A B → J pre B) (h : DuI b rb g0 n0 bb bn now s J pre rest w) (k : Below w.heap.size w w') : DuI b rb g0 n0 bb bn now s J pre rest w' :=
  ⟨h.e, h.due, by obtain ⟨g, h1, h2⟩ := h.at_; exact ⟨g, h1.keep k, h2⟩, h.bb.keep k, h.bn.keep k, Nat.le_trans h.sz k.size, hJ _ _ _ h.j (StJ.below k)⟩
/-- Behind a Shift, ahead of the round. -/
structure DuS (b rb g0 n0 bb bn now : Nat) (s : BxS) (J : List Pk → World → Prop) (pre : List Jp) (x : Jp) (rest : List Jp) (w : World) : Prop where
  e : s.l = pre ++ x :: rest
  due : ∀ y ∈ pre, isDue now y = true
  x : isDue now x = true
  at_ : ∃ g, BxAt w b rb g ⟨s.delay, s.jit, rest, s.last⟩ ∧ (g = g0 ∨ n0 ≤ g)
  bb : Blk w bb 25 #[.pointer (some ⟨b, 0, none⟩)]
  bn : Blk w bn 22 #[.int .u64 (now : Int)]
  sz : n0 ≤ w.heap.size
  j : J (pre.map Jp.p) w
theorem DuS.alloc {b rb g0 n0 bb bn now : Nat} {s : BxS} {J : List Pk → World → Prop} {pre rest : List Jp} {x : Jp} {w : World} (hJ : ∀ pre A B, J pre A → StJ rb g0 n0 A B → J pre B) (h : DuS b rb g0 n0 bb bn now s J pre x rest w) (ob : Obj) : DuS b rb g0 n0 bb bn now s J pre x rest (w.alloc ob) :=
  ⟨h.e, h.due, h.x, by obtain ⟨g, h1, h2⟩ := h.at_; exact ⟨g, h1.keep (al_be _ _), h2⟩, h.bb.alloc _, h.bn.alloc _, Nat.le_trans h.sz (by simp), hJ _ _ _ h.j (StJ.below (al_be _ _))⟩
theorem DuI.shift {b rb g0 n0 bb bn now g : Nat} {s : BxS} {J : List Pk → World → Prop} {pre rest : List Jp} {x : Jp} {w w' : World} {v e : Ending} (hJ : ∀ pre A B, J pre A → StJ rb g0 n0 A B → J pre B) (h : DuI b rb g0 n0 bb bn now s J pre (x :: rest) w) (hx : isDue now x = true)
    (h1 : BxAt w b rb g ⟨s.delay, s.jit, x :: rest, s.last⟩) (h2 : g = g0 ∨ n0 ≤ g) (k : JpRPost w rb g v rest e w') : DuS b rb g0 n0 bb bn now s J pre x rest w' := by
  have st := StJ.row h1 h2 k
  obtain ⟨g', k1, k2⟩ := k.at_
  have n := h1.ne
  have sz := h.sz
  exact ⟨h.e, h.due, hx, ⟨g', ⟨h1.head.fr k.mv (by simp [n.1, n.2.1]), k1⟩, by rcases k2 with c | c; exact c ▸ h2; omega⟩, st.blk h.bb (by decide) (by decide), st.blk h.bn (by decide) (by decide), Nat.le_trans sz k.mv.size, hJ _ _ _ h.j st⟩
theorem DuS.round {b rb g0 n0 bb bn now : Nat} {s : BxS} {J : List Pk → World → Prop} {pre rest : List Jp} {x : Jp} {w w' : World} (h : DuS b rb g0 n0 bb bn now s J pre x rest w) (hs : w.heap.size ≤ w'.heap.size) (k : KrJ w w') (hj : J (pre.map Jp.p ++ [x.p]) w') : DuI b rb g0 n0 bb bn now s J (pre ++ [x]) rest w' :=
  ⟨by rw [h.e]; simp, fun y hy => by rcases List.mem_append.1 hy with c | c; exact h.due y c; rw [List.mem_singleton.1 c]; exact h.x, by obtain ⟨g, h1, h2⟩ := h.at_; exact ⟨g, h1.kr k, h2⟩, k _ _ _ (by decide) (by decide) h.bb, k _ _ _ (by decide) (by decide) h.bn, Nat.le_trans h.sz hs, by rw [List.map_append]; exact hj⟩
theorem DuI.next {b rb g0 n0 bb bn now : Nat} {s : BxS} {J : List Pk → World → Prop} {pre rest : List Jp} {w : World} (h : DuI b rb g0 n0 bb bn now s J pre rest w) :
    Calls Try.prog 13 #[.pointer (some ⟨b, 0, none⟩)] w fun e w' => e = .returned (.tuple #[.int .u64 ((rest.getD 0 Itm.z).due : Int), .bool (!rest.isEmpty)]) ∧ Below w.heap.size w w' := by
  obtain ⟨g, h1, _⟩ := h.at_
  exact bx_Next b rb g _ w h1

set_option maxRecDepth 100000 in
set_option maxHeartbeats 2000000 in
theorem due1 (n l b rb g0 n0 bb bn now : Nat) (s : BxS) (hn : 1 ≤ n) (J : List Pk → World → Prop) (W : World) (hJ : ∀ pre A B, J pre A → StJ rb g0 n0 A B → J pre B)
    (hY : ∀ pre x A, J pre A → pre.length < s.l.length → YieldAt Fence.wide (n - 1) Try.prog l #[Pk.agg x] A fun e B => e = .returned (.bool true) ∧ J (pre ++ [x]) B ∧ A.heap.size ≤ B.heap.size ∧ KrJ A B)
    (h0 : DuI b rb g0 n0 bb bn now s J [] s.l W) :
    CallsIn Fence.wide n Try.prog 25 #[.func (.yield l) #[] #[], .pointer (some ⟨bb, 0, none⟩), .pointer (some ⟨bn, 0, none⟩)] W fun e W' => (∃ v, e = .returned v) ∧ ∃ pre rest, DuI b rb g0 n0 bb bn now s J pre rest W' ∧ ∀ y t, rest = y :: t → isDue now y = false := by
  have HJ := Lib.hid hJ
  have HY := Lib.hid hY
  have H0 := Lib.hid h0
  have l0 := h0.bb.cell (i := 0) rfl
  have HNx := Lib.hid h0.next
  clear hJ hY h0
  refine callsIn_of_wp Try.func25 rfl trivial ?_ rfl
  simp only [Try.ntmps25, List.size_toArray, List.length_cons, List.length_nil, Nat.reduceAdd, Nat.reduceSub, Array.replicate_succ, Array.replicate_zero, List.push_toArray, List.append_toArray, List.nil_append, List.cons_append]
  gi_wp2_with (refine ⟨trivial, ?_⟩; gi_at_call 13; refine (callsIn_wide.2 HNx.out).mono ?_; rintro e w1 ⟨rfl, hb1⟩)
  have H1 := Lib.hid (H0.out.to HJ.out hb1)
  clear hb1 l0 HNx H0
  gi_loopw [4, 5] (fun a q wr => ∃ pre rest, a = .int .u64 ((List.getD rest 0 Itm.z : Jp).due : Int) ∧ q = .bool (!rest.isEmpty) ∧ DuI b rb g0 n0 bb bn now s J pre rest wr) (fun _ _ wr => rowM wr rb)
  case atStart => exact ⟨[], s.l, rfl, rfl, H1.out⟩
  case round =>
    obtain ⟨pre, rest, rfl, rfl, hI⟩ := hrel
    have HI := Lib.hid hI
    have n0' := hI.bn.cell (i := 0) (v := .int .u64 (now : Int)) rfl
    clear hI H1
    cases rest with
    | nil =>
      gi_wp2
      go_end0
      exact ⟨⟨_, rfl⟩, _, _, HI.out, fun y t e => by cases e⟩
    | cons x rest =>
      have ed : (List.getD (x :: rest) 0 Itm.z : Jp).due = x.due := rfl
      have ee : (!(x :: rest).isEmpty) = true := rfl
      rw [ed, ee]
      cases hd : isDue now x
      · have d1 : decide (x.due ≤ now) = false := hd
        gi_wp2
        go_end0
        exact ⟨⟨_, rfl⟩, _, _, HI.out, fun y t e => by cases e; exact hd⟩
      · have d1 : decide (x.due ≤ now) = true := hd
        obtain ⟨g, hg1, hg2⟩ := HI.out.at_
        have c2 := hg1.head.cell (i := 2) (v := .pointer (some ⟨rb, 0, none⟩)) rfl
        have b0 := HI.out.bb.cell (i := 0) rfl
        have HSh := Lib.hid (jp_shift rb g x rest wr hg1.row)
        have HG1 := Lib.hid hg1
        have HG2 := Lib.hid hg2
        clear hg1 hg2 hd
        gi_wp2_with (refine ⟨trivial, ?_⟩; gi_at_call 26; refine (callsIn_wide.2 HSh.out).mono ?_; rintro e w2 hp; have HS := Lib.hid ((HI.out.shift HJ.out d1 HG1.out HG2.out hp).alloc HJ.out (.cells #[.int .u64 (x.p.n : Int), .int .u64 (x.p.size : Int), .int .u64 (x.p.sent : Int), .int .u64 (x.p.first : Int), .int .u64 (x.p.deliv : Int), .int .u64 (x.p.at_ : Int), .bool x.p.lim, .int .u64 (x.due : Int)] 53)); obtain rfl := hp.e; clear hp; unfold jpgot Jp.agg; obtain ⟨fn, tmps, assign, body, hy, hRd⟩ := HY.out _ x.p _ HS.out.j (by have := HS.out.e; rw [this]; simp); unfold Pk.agg at hy)
        refine hRd.mono ?_
        rintro e W3 ⟨rfl, hj3, hs3, hk3⟩
        have HI3 := Lib.hid (HS.out.round hs3 hk3 hj3)
        have hb3 := HI3.out.bb.cell (i := 0) (v := .pointer (some ⟨b, 0, none⟩)) rfl
        have HNx := Lib.hid HI3.out.next
        have HM : Hid (rowM wr rb = rest.length + 1) := Lib.hid (by rw [rowM_eq HG1.out.row]; rfl)
        clear hj3 hs3 hk3 HS hRd hy HSh n0' b0 c2 d1 HG1 HG2 HI
        gi_wp2_with (refine ⟨trivial, ?_⟩; gi_at_call 13; refine (callsIn_wide.2 HNx.out).mono ?_; rintro e w4 ⟨rfl, hb4⟩; have HI4 := Lib.hid (HI3.out.to HJ.out hb4); clear hb4)
        go_roundw
        case rel => exact ⟨_, rest, rfl, rfl, HI4.out⟩
        case measure =>
          obtain ⟨g', hg', _⟩ := HI4.out.at_
          rw [HM.out, rowM_eq hg'.row]; exact Nat.lt_succ_self _

end Go.Proofs.Ytlhgiboajnhahaa
