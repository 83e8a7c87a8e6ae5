/- What LedgerOnce's loops keep, over this translation. -/
import Derived.Test.YtfpopbhbhdhdnaaOh
set_option linter.unusedVariables false
namespace Go.Proofs.Ytfpopbhbhdhdnaa
open Go.RowKit

/-- Packets that go, those that stay, and which have gone. -/
structure Split (D R : List Pk) (G : List Bool) : Prop where
  d : D.Pairwise fun x y => x.n ≠ y.n
  dr : ∀ x ∈ D, ∀ y ∈ R, x.n ≠ y.n
  r : R.Pairwise fun x y => x.n < y.n
  gd : ∀ x ∈ D, G[x.n]? = some false
  gr : ∀ y ∈ R, G[y.n]? = some false
theorem Split.of {P : List Pk} {G : List Bool} (h : P.Pairwise fun x y => x.n < y.n) (hg : ∀ p ∈ P, G[p.n]? = some false) (f : Pk → Bool) : Split (P.filter f) (P.filter fun p => !f p) G := by
  refine ⟨(h.sublist List.filter_sublist).imp fun {x y} k => by omega, fun x hx y hy e => ?_, h.sublist List.filter_sublist, fun x hx => hg x (List.mem_filter.1 hx).1, fun x hx => hg x (List.mem_filter.1 hx).1⟩
  obtain ⟨hx1, hx2⟩ := List.mem_filter.1 hx
  obtain ⟨hy1, hy2⟩ := List.mem_filter.1 hy
  obtain rfl : x = y := by
    obtain ⟨i, hi, rfl⟩ := List.mem_iff_getElem.1 hx1
    obtain ⟨j, hj, rfl⟩ := List.mem_iff_getElem.1 hy1
    rcases Nat.lt_trichotomy i j with c | c | c
    · have := List.pairwise_iff_getElem.1 h i j hi hj c; omega
    · subst c; rfl
    · have := List.pairwise_iff_getElem.1 h j i hj hi c; omega
  simp [hx2] at hy2
theorem Split.step {x : Pk} {D R : List Pk} {G : List Bool} (h : Split (x :: D) R G) : Split D R (G.set x.n true) := by
  have hd := List.pairwise_cons.1 h.d
  refine ⟨hd.2, fun y hy => h.dr y (List.mem_cons_of_mem _ hy), h.r, fun y hy => ?_, fun y hy => ?_⟩
  · rw [List.getElem?_set_ne (hd.1 y hy)]; exact h.gd y (List.mem_cons_of_mem _ hy)
  · rw [List.getElem?_set_ne (h.dr x List.mem_cons_self y hy)]; exact h.gr y hy
theorem outP_rise {s : LS} (h : s.ok) : (outP s.ks).Pairwise fun x y => x.n < y.n := by
  unfold outP
  rw [List.pairwise_map]
  exact h.rise.sublist (outK_sub s.ks)
theorem filter_len (P : List Pk) (f : Pk → Bool) : (P.filter f).length + (P.filter fun p => !f p).length = P.length := by
  induction P with
  | nil => rfl
  | cons x t ih => cases hf : f x <;> simp [hf] <;> omega

/-- A row of truth values of the call's own. -/
abbrev GR (w : World) (B : Nat) (v : Value) (G : List Bool) : Prop := w.ownsRow B 4 1 v G.length (G.map Value.bool)
theorem GR.form {w : World} {B : Nat} {v : Value} {G : List Bool} (h : GR w B v G) (hp : 0 < G.length) : ∃ g cap cs, v = .slice (some ⟨g, 0, none⟩) G.length cap ∧ B ≤ g ∧ Blk w g 4 cs := by
  rcases h.2 with ⟨_, e⟩ | ⟨g, cap, cur, e, hb, hg, _⟩
  · omega
  · exact ⟨g, cap, cur, e, hb, hg⟩
theorem GR.form0 {w : World} {B : Nat} {v : Value} {G : List Bool} (h : GR w B v G) : ∃ p cap, v = .slice p G.length cap := by
  rcases h.2 with ⟨e, k⟩ | ⟨g, cap, cur, e, hb, hg, _⟩
  · exact ⟨none, 0, by rw [e, k]⟩
  · exact ⟨_, cap, e⟩
theorem GR.cell {w : World} {B g n cap : Nat} {G : List Bool} (h : GR w B (.slice (some ⟨g, 0, none⟩) n cap) G) {j : Nat} {c : Bool} (hj : G[j]? = some c) : w.cell? ⟨g, j, none⟩ = some (.bool c) := by
  have := h.cells (g := g) rfl j (.bool c) (by rw [List.getElem?_map, hj]; rfl)
  rwa [Go.WideShapes.add_plain, Nat.zero_add] at this
theorem GR.set {w : World} {B g cap : Nat} {G : List Bool} (h : GR w B (.slice (some ⟨g, 0, none⟩) G.length cap) G) (j : Nat) : GR (w.setCell ⟨g, j, none⟩ (.bool true)) B (.slice (some ⟨g, 0, none⟩) G.length cap) (G.set j true) := by
  rcases h.2 with ⟨e, _⟩ | ⟨g', cap', cur, e, hb, hg, h1, h2, h3, h4⟩
  · cases e
  · injection e with e1 e2 e3
    injection e1 with e1
    injection e1 with e1
    subst e1 e3
    refine ⟨by simp, .inr ⟨g, cap, cur.setIfInBounds j (.bool true), by rw [List.length_set], hb, Blk.set hg j _, by simpa using h1, h2, by simpa using h3, ?_⟩⟩
    rw [List.length_set, Array.toList_setIfInBounds, List.take_set, h4, List.map_set]

/-- What is kept: a ledger with those out, the row of those that have gone. -/
structure OnceI (W : World) (b : Nat) (P : List Pk) (G : List Bool) (v : Value) (nx : Nat) (wr : World) : Prop where
  led : ∃ rb g s, LAt wr b rb g s ∧ s.ok ∧ outP s.ks = P ∧ s.next = nx ∧ ∀ x ∈ blocksL b rb g s, W.heap.size ≤ x
  gone : GR wr W.heap.size v G
  bel : Below W.heap.size W wr
theorem below_fr {W w w' : World} {L : List Nat} (h : Below W.heap.size W w) (k : Fr w w' L) (hL : ∀ x ∈ L, W.heap.size ≤ x) : Below W.heap.size W w' :=
  h.trans ⟨k.os, k.tape, k.output, k.size, fun x hx => k.block x (Nat.lt_of_lt_of_le hx h.size) (fun hm => by have := hL x hm; omega)⟩
theorem OnceI.keep {W : World} {b : Nat} {P : List Pk} {G : List Bool} {v : Value} {nx : Nat} {w w' : World} (h : OnceI W b P G v nx w) (k : Below w.heap.size w w') : OnceI W b P G v nx w' := by
  obtain ⟨rb, g, s, h1, h2, h3, h4, h5⟩ := h.led
  exact ⟨⟨rb, g, s, h1.keep k, h2, h3, h4, h5⟩, own_same h.gone (fun x cs _ _ hb => k.block x hb.lt), bel_to h.bel k h.bel.size⟩
theorem OnceI.end {W : World} {b rb g : Nat} {s : LS} {P P' : List Pk} {G : List Bool} {v : Value} {nx nx' : Nat} {w w' : World} (h : OnceI W b P G v nx w) (hl : LAt w b rb g s) (h5 : ∀ x ∈ blocksL b rb g s, W.heap.size ≤ x) (k : LedEnd w b rb g s (fun s' => outP s'.ks = P' ∧ s'.next = nx') w') : OnceI W b P' G v nx' w' := by
  obtain ⟨⟨rb', g', s', k1, k2, ⟨k3, k4⟩, k5⟩, k6⟩ := k
  have hsz := h.bel.size
  refine ⟨⟨rb', g', s', k1, k2, k3, k4, fun x hx => ?_⟩, own_same h.gone (fun x cs _ _ hb => k6.block x hb.lt (hl.off hb (by decide) (by decide) (by decide) (by decide))), below_fr h.bel k6 h5⟩
  rcases k5 x hx with c | c
  · exact h5 x c
  · omega
theorem OnceI.store {W : World} {b : Nat} {P : List Pk} {G : List Bool} {nx g cap : Nat} {w : World} (h : OnceI W b P G (.slice (some ⟨g, 0, none⟩) G.length cap) nx w) (j : Nat) (hp : 0 < G.length) :
    OnceI W b P (G.set j true) (.slice (some ⟨g, 0, none⟩) G.length cap) nx (w.setCell ⟨g, j, none⟩ (.bool true)) ∧ ∀ v l, PR w v l → PR (w.setCell ⟨g, j, none⟩ (.bool true)) v l := by
  obtain ⟨g', cap', cs, e, hb, hbk⟩ := h.gone.form hp
  injection e with e1 e2 e3
  injection e1 with e1
  injection e1 with e1
  subst e1
  obtain ⟨rb, g2, s, h1, h2, h3, h4, h5⟩ := h.led
  have hne := h1.off hbk (by decide) (by decide) (by decide) (by decide)
  refine ⟨⟨⟨rb, g2, s, h1.keepX fun x T cs hx _ => Below.heap_setCell _ _ _ _ (fun (e : x = g) => hne (e ▸ hx)), h2, h3, h4, h5⟩, ?_, ?_⟩, fun v l hv => hv.same fun k cs _ hk => Below.heap_setCell _ _ _ _ (hk.ty hbk (by decide))⟩
  · have := h.gone.set j
    unfold GR at this ⊢
    exact this
  · exact below_fr h.bel (((Fr.refl w [g]).set (c := g) (.inl (by simp)) j (.bool true))) (fun x hx => by simp at hx; omega)
/-- What a taking leaves. -/
def Took (W : World) (b : Nat) (P : List Pk) (G : List Bool) (v7 : Value) (nx : Nat) (v : Value) (w' : World) : Prop := ∃ f : Pk → Bool, PR w' v (P.filter f) ∧ OnceI W b (P.filter fun p => !f p) G v7 nx w'

theorem LedEnd.imp {w w' : World} {b rb g : Nat} {s : LS} {P P' : LS → Prop} (h : LedEnd w b rb g s P w') (k : ∀ s', P s' → P' s') : LedEnd w b rb g s P' w' := by
  obtain ⟨⟨rb', g', s', k1, k2, k3, k5⟩, k6⟩ := h
  exact ⟨⟨rb', g', s', k1, k2, k _ k3, k5⟩, k6⟩
theorem ack_once {W w : World} {b : Nat} {P : List Pk} {G : List Bool} {v7 : Value} {nx : Nat} (h : OnceI W b P G v7 nx w) (p : Option Addr) (c : Nat) (l : List Rn) (hl : Its w p l) (hm : l.length ≤ 1000) (hu : ∀ r ∈ l, r.u64) :
    Calls Try.prog 9 #[.pointer (some ⟨b, 0, none⟩), .slice p l.length c] w fun e w' => ∃ v x, e = .returned (.tuple #[v, x]) ∧ Took W b P G v7 nx v w' := by
  obtain ⟨rb, g, s, h1, h2, rfl, rfl, h5⟩ := h.led
  cases ho : l.all okB
  · refine (ack_wrong b p c l w hl hm ho).mono ?_
    rintro e w' ⟨rfl, k⟩
    refine ⟨_, _, rfl, fun _ => false, ?_, ?_⟩
    · have e0 : (outP s.ks).filter (fun _ => false) = [] := List.filter_eq_nil_iff.2 (fun x _ => by simp)
      rw [e0]; exact PR.nil w'
    · have e0 : (outP s.ks).filter (fun _ => !false) = outP s.ks := List.filter_eq_self.2 (fun x _ => rfl)
      rw [e0]; exact h.keep k
  · refine (ack_any b rb g p c l s w h1 h2 hl hm ho hu).mono ?_
    rintro e w' ⟨Q, _, ⟨v, rfl, k1, k2⟩, k3⟩
    exact ⟨_, _, rfl, inQp Q, k1, h.end h1 h5 (k3.imp fun s' k => ⟨k.1, k.2.2.1⟩)⟩
theorem lost_once {W w : World} {b : Nat} {P : List Pk} {G : List Bool} {v7 : Value} {nx : Nat} (h : OnceI W b P G v7 nx w) (now delay limit : Nat) (hdl : delay ≤ 18446744073709551615) (hlm : limit ≤ 18446744073709551615) :
    Calls Try.prog 10 #[.pointer (some ⟨b, 0, none⟩), .int .u64 (now : Int), .int .u64 (delay : Int), .int .u64 (limit : Int)] w fun e w' => ∃ v, e = .returned v ∧ Took W b P G v7 nx v w' := by
  obtain ⟨rb, g, s, h1, h2, rfl, rfl, h5⟩ := h.led
  refine (lost_any b rb g now delay limit s w h1 h2 hdl hlm).mono ?_
  rintro e w' ⟨⟨v, rfl, k1, k2⟩, k3⟩
  exact ⟨_, rfl, lostB s now delay limit, k1, h.end h1 h5 (k3.imp fun s' k => ⟨k.1, k.2.2.1⟩)⟩
theorem outP_push (s : LS) (kb : Nat) (p : Pk) (m : Bool) : outP (s.push kb p m).ks = outP s.ks ++ [p] := by
  unfold outP
  show (outK (s.ks ++ [_])).map Kp.p = _
  rw [outK_push, List.map_append]
  rfl
theorem send_once {W w : World} {b : Nat} {P : List Pk} {G : List Bool} {v7 : Value} {nx : Nat} (h : OnceI W b P G v7 nx w) (size sent deliv : Nat) (hx : nx ≤ 499) (h1 : size ≤ 18446744073709551615) (h2 : sent ≤ 18446744073709551615) (h3 : deliv ≤ 18446744073709551615) :
    Calls Try.prog 8 #[.pointer (some ⟨b, 0, none⟩), .int .u64 (size : Int), .agg #[.int .u64 (sent : Int), .int .u64 0, .int .u64 (deliv : Int), .int .u64 0, .bool false]] w fun e w' => e = .returned (.int .u64 (nx : Int)) ∧ OnceI W b (P ++ [⟨nx, size, sent, 0, deliv, 0, false⟩]) G v7 (nx + 1) w' := by
  obtain ⟨rb, g, s, k1, k2, rfl, rfl, k5⟩ := h.led
  have hp : (⟨s.next, size, sent, 0, deliv, 0, false⟩ : Pk).ok := ⟨by show s.next ≤ 100000; omega, h1, h2, by show 0 ≤ _; omega, h3, by show 0 ≤ _; omega⟩
  refine (send_any b rb g s w k1 k2 ⟨s.next, size, sent, 0, deliv, 0, false⟩ hp rfl hx).mono ?_
  rintro e w' ⟨rfl, ⟨g', kb, m1, m2, m3, m4⟩, m5⟩
  have hsz := h.bel.size
  refine ⟨rfl, h.end k1 k5 ⟨⟨rb, g', _, m1, LS.push_ok k2 hp rfl hx m2, ⟨outP_push _ _ _ _, rfl⟩, fun x hx => ?_⟩, m5⟩⟩
  simp only [blocksL, LS.push, List.map_append, List.mem_cons, List.mem_append, List.map_cons, List.map_nil, List.not_mem_nil, or_false] at hx ⊢
  rcases hx with rfl | rfl | rfl | hx | rfl
  · simp
  · simp
  · rcases m3 with rfl | m3
    · simp
    · exact .inr m3
  · exact .inl (.inr (.inr (.inr hx)))
  · exact .inr m4
theorem OnceI.new {W w : World} {reorder : Nat} (hr : reorder ≤ 18446744073709551615) {b rb g : Nat} (hl : LAt w b rb g (LS.empty reorder)) (hb : ∀ x ∈ blocksL b rb g (LS.empty reorder), W.heap.size ≤ x) (hw : Below W.heap.size W w) : OnceI W b [] [] (.slice none 0 0) 0 w :=
  ⟨⟨rb, g, _, hl, LS.empty_ok hr, rfl, rfl, hb⟩, World.ownsRow_nil _ _ _ _, hw⟩
/-- The row of those that have gone grows. -/
theorem OnceI.more {W w w' : World} {b : Nat} {P : List Pk} {G : List Bool} {v v' : Value} {nx : Nat} {o : Obj} (h : OnceI W b P G v nx w) (hg : (w.alloc o).grownBy w' v.ownBlock) (ho : w'.ownsRow W.heap.size 4 1 v' (G.length + 1) (G.map Value.bool ++ [.bool false])) : OnceI W b P (G ++ [false]) v' nx w' := by
  have ha := h.keep (w' := w.alloc o) ((Below.refl _ _).alloc (Nat.le_refl _) _)
  obtain ⟨rb, g, s, h1, h2, h3, h4, h5⟩ := ha.led
  have hv : ∀ k, v.ownBlock = some k → W.heap.size ≤ k ∧ k ∉ blocksL b rb g s := fun k e => by
    obtain ⟨hk, cs, hc⟩ := own_ge ha.gone e
    exact ⟨hk, h1.off hc (by decide) (by decide) (by decide) (by decide)⟩
  refine ⟨⟨rb, g, s, h1.keepX fun x T cs hx hb => hg.block x hb.lt (fun e => (hv x e.symm).2 hx), h2, h3, h4, h5⟩, ?_, ha.bel.grown hg ha.bel.size (fun k e => (hv k e).1)⟩
  unfold GR
  rw [List.length_append, List.map_append]
  exact ho
end Go.Proofs.Ytfpopbhbhdhdnaa
