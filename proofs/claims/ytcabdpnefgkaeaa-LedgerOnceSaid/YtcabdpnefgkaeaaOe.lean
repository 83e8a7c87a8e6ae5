/- What loops that take packets away keep, over this translation. -/
import Derived.Test.YtcabdpnefgkaeaaOb
import Derived.Laws.EntriesVeiled
set_option linter.unusedVariables false
namespace Go.Proofs.Ytcabdpnefgkaeaa
open Go.RowKit Go.Shelf

/-- Types of boxes that no round writes. -/
def boxT (T : TypeId) : Prop := T ≠ 61 ∧ T ≠ 66 ∧ T ≠ 29 ∧ T ≠ 41
/-- What boxes hold stays where their blocks stay. -/
def BoxK (Bx : World → Prop) : Prop := ∀ W W', Bx W → (∀ x T cs, Blk W x T cs → boxT T → W'.heap[x]? = W.heap[x]?) → Bx W'

structure TkS (w : World) (b rb g n4 : Nat) (B0 : List Nat) (s : LS) (l : List Pk) (Bx : World → Prop) (W : World) : Prop where
  led : LAt W b rb g s
  box : Bx W
  out : ∃ v, Blk W n4 29 #[v] ∧ PR W v l ∧ ∀ k, v.ownBlock = some k → w.heap.size ≤ k
  fr : Fr w W B0

theorem TkS.keepX {w : World} {b rb g n4 : Nat} {B0 : List Nat} {s : LS} {l : List Pk} {Bx : World → Prop} {W W' : World} (h : TkS w b rb g n4 B0 s l Bx W) (hB : BoxK Bx) (k : ∀ x T cs, Blk W x T cs → W'.heap[x]? = W.heap[x]?) (hf : Fr w W' B0) : TkS w b rb g n4 B0 s l Bx W' := by
  obtain ⟨v, h1, h2, h3⟩ := h.out
  exact ⟨h.led.keepX fun x T cs _ hb => k x T cs hb, hB W W' h.box fun x T cs hb _ => k x T cs hb, ⟨v, by unfold Blk; rw [k _ _ _ h1]; exact h1, h2.same fun g cs _ hb => k g _ cs hb, h3⟩, hf⟩
theorem TkS.below {w : World} {b rb g n4 : Nat} {B0 : List Nat} {s : LS} {l : List Pk} {Bx : World → Prop} {W W' : World} (h : TkS w b rb g n4 B0 s l Bx W) (hB : BoxK Bx) (k : Below W.heap.size W W') : TkS w b rb g n4 B0 s l Bx W' :=
  h.keepX hB (fun x T cs hb => k.block x hb.lt) (h.fr.below k)
theorem fr_grown {w X Y : World} {row : Option Nat} {B0 : List Nat} {B : Nat} (h : Fr w X B0) (hg : X.grownBy Y row) (hr : ∀ r, row = some r → B ≤ r) (hB : w.heap.size ≤ B) : Fr w Y B0 :=
  ⟨hg.os.trans h.os, hg.tape.trans h.tape, hg.output.trans h.output, Nat.le_trans h.size hg.size, fun k hk hl => (hg.block k (Nat.lt_of_lt_of_le hk h.size) (fun e => by have := hr k e.symm; omega)).trans (h.block k hk hl)⟩
theorem TkS.grown {w : World} {b rb g n4 : Nat} {B0 : List Nat} {s : LS} {l : List Pk} {Bx : World → Prop} {W W' : World} {row : Option Nat} {B : Nat} (h : TkS w b rb g n4 B0 s l Bx W) (hB : BoxK Bx) (hb : w.heap.size ≤ B)
    (hg : W.grownBy W' row) (hr : ∀ r, row = some r → B ≤ r ∧ ∃ o : Obj, W.heap[r]? = some o ∧ o.isCells = false) : TkS w b rb g n4 B0 s l Bx W' :=
  h.keepX hB (kept_grown hg (fun r e => (hr r e).2)) (fr_grown h.fr hg (fun r e => (hr r e).1) hb)
theorem tks_own {α : Type} {w : World} {b rb g n4 : Nat} {B0 : List Nat} {s : List α → LS} {l : List α → List Pk} {Bx : World → Prop} {B : Nat} (hB : BoxK Bx) (hb : w.heap.size ≤ B) : OwnFrom B (fun pre W => TkS w b rb g n4 B0 (s pre) (l pre) Bx W) :=
  fun pre X Y row hs hg hr => hs.grown hB hb hg hr
/-- A packet more is taken. -/
theorem TkS.take {w : World} {b rb g n4 : Nat} {B0 : List Nat} {s : LS} {l : List Pk} {Bx : World → Prop} {W W' : World} {x : Kp} {v : Value} {e : Ending} (h : TkS w b rb g n4 B0 s l Bx W) (hB : BoxK Bx) (hx : x ∈ s.ks) (hv1 : Blk W n4 29 #[v]) (hv2 : PR W v l) (hv3 : ∀ k, v.ownBlock = some k → w.heap.size ≤ k)
    (hn4 : w.heap.size ≤ n4) (hb0 : b ∈ B0 ∨ w.heap.size ≤ b) (hxb : x.b ∈ B0 ∨ w.heap.size ≤ x.b) (hp : TakePost W b rb g n4 x s v l e W') : TkS w b rb g n4 B0 (s.take [x.b]) (l ++ [x.p]) Bx W' ∧ ∀ B, KeepsFrom B W W' := by
  have hL : ∀ y ∈ b :: x.b :: n4 :: v.ownBlock.toList, ∃ T cs, Blk W y T cs ∧ ¬ boxT T := fun y hy => by
    simp only [List.mem_cons] at hy
    rcases hy with rfl | rfl | rfl | hy
    · exact ⟨_, _, h.led.head, fun k => k.1 rfl⟩
    · exact ⟨_, _, h.led.kept x hx, fun k => k.2.1 rfl⟩
    · exact ⟨_, _, hv1, fun k => k.2.2.1 rfl⟩
    · obtain ⟨cs, hc⟩ := hv2.blk (opt_mem hy)
      exact ⟨_, cs, hc, fun k => k.2.2.2 rfl⟩
  refine ⟨⟨hp.led, hB W W' h.box fun z T cs hz hT => hp.fr.block z hz.lt (fun hm => ?_), ?_, h.fr.trans hp.fr (fun y hy => ?_)⟩, fun B => kf_of_fr hp.fr (fun y hy => by obtain ⟨T, cs, hc, _⟩ := hL y hy; exact .inr ⟨T, cs, hc⟩)⟩
  · obtain ⟨T', cs', h1, h2⟩ := hL z hm
    by_cases c : T = T'
    · subst c; exact h2 hT
    · exact hz.ty h1 c rfl
  · obtain ⟨v', h1, h2, h3⟩ := hp.out
    refine ⟨v', h1, h2, fun k e => ?_⟩
    rcases h3 k e with c | c
    · exact hv3 k c
    · have := h.fr.size; omega
  · simp only [List.mem_cons] at hy
    rcases hy with rfl | rfl | rfl | hy
    · exact hb0
    · exact hxb
    · exact .inr hn4
    · exact .inr (hv3 _ (opt_mem hy))

/-- The boxes of Lost: where the ledger, the time, the two delays, the packets' list, and what takes, lie. -/
structure LBox (b now delay limit n0 n1 n2 n3 n4 n5 n6 n7 n8 n9 : Nat) (W : World) : Prop where
  q0 : Blk W n0 26 #[.pointer (some ⟨b, 0, none⟩)]
  q1 : Blk W n1 22 #[.int .u64 (now : Int)]
  q2 : Blk W n2 22 #[.int .u64 (delay : Int)]
  q3 : Blk W n3 22 #[.int .u64 (limit : Int)]
  q5 : Blk W n5 26 #[.pointer (some ⟨b, 0, none⟩)]
  q6 : Blk W n6 74 #[.pointer (some ⟨n4, 0, none⟩)]
  q7 : Blk W n7 67 #[.func (.func 50) #[] #[.pointer (some ⟨n5, 0, none⟩), .pointer (some ⟨n6, 0, none⟩)]]
  q8 : Blk W n8 26 #[.pointer (some ⟨b, 0, none⟩)]
  q9 : Blk W n9 56 #[.int .u64 0, .int .u64 18446744073709551615]
theorem LBox.k (b now delay limit n0 n1 n2 n3 n4 n5 n6 n7 n8 n9 : Nat) : BoxK (LBox b now delay limit n0 n1 n2 n3 n4 n5 n6 n7 n8 n9) := fun W W' h k => by
  have mv : ∀ {x T cs}, Blk W x T cs → boxT T → Blk W' x T cs := fun {x T cs} hb hT => by unfold Blk; rw [k x T cs hb hT]; exact hb
  exact ⟨mv h.q0 (by unfold boxT; decide), mv h.q1 (by unfold boxT; decide), mv h.q2 (by unfold boxT; decide), mv h.q3 (by unfold boxT; decide), mv h.q5 (by unfold boxT; decide), mv h.q6 (by unfold boxT; decide), mv h.q7 (by unfold boxT; decide), mv h.q8 (by unfold boxT; decide), mv h.q9 (by unfold boxT; decide)⟩

/-- Whether a packet that is out is lost. -/
def lostB (s : LS) (now delay limit : Nat) (p : Pk) : Bool := overB s p || (decide (p.n < s.top) && Go.Proofs.Ytcabdpnefgkaeaa.passB p.sent delay now) || Go.Proofs.Ytcabdpnefgkaeaa.passB p.sent limit now
theorem addS_mono {a b c : Nat} (h : a ≤ b) : Pl.addS a c ≤ Pl.addS b c := by unfold Pl.addS; omega
theorem lost_after {s : LS} {now delay limit : Nat} {p q : Pk} (hn : p.n ≤ q.n) (hs : p.sent ≤ q.sent) (h : lostB s now delay limit p = false) : lostB s now delay limit q = false := by
  unfold lostB overB passB at *
  have e1 := addS_mono (c := s.reorder) hn
  have e2 := addS_mono (c := delay) hs
  have e3 := addS_mono (c := limit) hs
  rw [Bool.or_eq_false_iff, Bool.or_eq_false_iff, Bool.and_eq_false_iff, Bool.and_eq_false_iff] at h ⊢
  simp only [decide_eq_false_iff_not] at h ⊢
  obtain ⟨⟨h1, h2⟩, h3⟩ := h
  refine ⟨⟨?_, ?_⟩, by omega⟩
  · rcases h1 with h1 | h1
    · exact .inl h1
    · right; omega
  · rcases h2 with h2 | h2
    · left; omega
    · right; omega
/-- Those behind one that is not lost, if none was sent ahead of another, are not lost. -/
theorem lost_rest {s : LS} (hs : s.ok) (hm : s.mixed = false) {now delay limit : Nat} {Y pre : List Kp} {x : Kp} (hY : Y.Sublist s.ks) (hp : pre ++ [x] <+: Y) (hx : lostB s now delay limit x.p = false) :
    Y.filter (fun k => lostB s now delay limit k.p) = pre.filter (fun k => lostB s now delay limit k.p) := by
  obtain ⟨t, rfl⟩ := hp
  have h1 := hs.rise.sublist hY
  have h2 := (hs.mono hm).sublist hY
  rw [List.append_assoc, List.pairwise_append] at h1 h2
  have h3 := List.pairwise_cons.1 h1.2.1
  have h4 := List.pairwise_cons.1 h2.2.1
  rw [List.append_assoc, List.filter_append]
  have e : ([x] ++ t).filter (fun k => lostB s now delay limit k.p) = [] := by
    rw [List.filter_eq_nil_iff]
    intro k hk
    rcases List.mem_cons.1 hk with rfl | hk
    · rw [hx]; decide
    · have := lost_after (Nat.le_of_lt (h3.1 k hk)) (h4.1 k hk) hx
      rw [this]; decide
  rw [e, List.append_nil]
end Go.Proofs.Ytcabdpnefgkaeaa
