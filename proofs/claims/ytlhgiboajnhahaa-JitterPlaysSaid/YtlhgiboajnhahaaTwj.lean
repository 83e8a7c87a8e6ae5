/- The code's box and the document's side by side, over this translation. -/
import Derived.Test.YtlhgiboajnhahaaLaw20a
import Derived.Test.YtlhgiboajnhahaaRefK
import Derived.Test.YtlhgiboajnhahaaSme
set_option linter.unusedVariables false
namespace Go.Proofs.Ytlhgiboajnhahaa
open Go.RowKit

/-- The code's box and the document's. -/
structure TwP (W : World) (b m : Nat) (s1 s2 : BxS) (w : World) : Prop where
  q : ∃ rb g v ds, BxAt w b rb g s1 ∧ W.heap.size ≤ rb ∧ W.heap.size ≤ g ∧ Blk w m 30 ds ∧ JCells ds 0 s2 v ∧ SOwn 47 W.heap.size w v s2.l
  lo : W.heap.size ≤ b ∧ W.heap.size ≤ m
  bel : Below W.heap.size W w
theorem TwP.to {W w w' : World} {b m : Nat} {s1 s2 : BxS} (h : TwP W b m s1 s2 w) (k : Below w.heap.size w w') : TwP W b m s1 s2 w' := by
  obtain ⟨rb, g, v, ds, h1, h2, h3, h4, h5, h6⟩ := h.q
  exact ⟨⟨rb, g, v, ds, h1.keep k, h2, h3, h4.keep k, h5, h6.keep k⟩, h.lo, bel_to h.bel k h.bel.size⟩
/-- What a call on the code's box leaves of the document's, and of a slice of packets, and of a packet. -/
theorem TwP.cc {W w w' : World} {b m rb g : Nat} {s1 s2 s' : BxS} {v : Value} {ds : Array Value} (h : TwP W b m s1 s2 w) (h1 : BxAt w b rb g s1) (h2 : W.heap.size ≤ rb) (h3 : W.heap.size ≤ g) (h4 : Blk w m 30 ds) (h5 : JCells ds 0 s2 v) (h6 : SOwn 47 W.heap.size w v s2.l)
    (hat : ∃ g', BxAt w' b rb g' s' ∧ (g' = g ∨ w.heap.size ≤ g')) (fr : Fr w w' [b, rb, g]) : TwP W b m s' s2 w' := by
  obtain ⟨g', k1, k2⟩ := hat
  have lo := h.lo
  have sz := h.bel.size
  obtain ⟨c1, r1⟩ := h1.row.head
  obtain ⟨c2, r2⟩ := h1.row.body
  exact ⟨⟨rb, g', v, ds, k1, h2, by omega, h4.fr fr (by simp; exact ⟨h4.ty h1.head (by decide), h4.ty r1 (by decide), h4.ty r2 (by decide)⟩), h5, h6.blk (fun x es _ hx => hx.fr fr (by simp; exact ⟨hx.ty h1.head (by decide), hx.ty r1 (by decide), hx.ty r2 (by decide)⟩))⟩, lo, bel_fr h.bel fr sz (fun x hx => by simp at hx; omega)⟩
theorem code_tp {w w' : World} {b rb g : Nat} {s : BxS} (h1 : BxAt w b rb g s) (fr : Fr w w' [b, rb, g]) {z : Nat} {cs : Array Value} (hz : Blk w z 39 cs) : Blk w' z 39 cs := by
  obtain ⟨c1, r1⟩ := h1.row.head
  obtain ⟨c2, r2⟩ := h1.row.body
  exact hz.fr fr (by simp; exact ⟨hz.ty h1.head (by decide), hz.ty r1 (by decide), hz.ty r2 (by decide)⟩)
theorem doc_fr {w w' : World} {m B x : Nat} {U : TypeId} {l : List Jp} {v : Value} {ds es : Array Value} (h4 : Blk w m 30 ds) (h6 : SOwn 47 B w v l) (fr : Fr w w' [m, sb v m]) (hx : Blk w x U es) (n1 : U ≠ 30) (n2 : U ≠ 47) : Blk w' x U es := by
  refine hx.fr fr (fun hm => ?_)
  simp at hm
  rcases hm with rfl | rfl
  · exact hx.ty h4 n1 rfl
  · rcases h6.at_ (m := m) with e | ⟨cur, e⟩
    · rw [e] at hx; exact hx.ty h4 n1 rfl
    · exact hx.ty e n2 rfl
theorem TwP.mm {W w w' : World} {b m rb g : Nat} {s1 s2 s' : BxS} {v : Value} {ds : Array Value} (h : TwP W b m s1 s2 w) (h1 : BxAt w b rb g s1) (h2 : W.heap.size ≤ rb) (h3 : W.heap.size ≤ g) (h4 : Blk w m 30 ds) (h6 : SOwn 47 W.heap.size w v s2.l)
    (hat : ∃ v' cs', Blk w' m 30 cs' ∧ JCells cs' 0 s' v' ∧ cs'.size = ds.size ∧ (∀ i, i < 0 ∨ 0 + 4 ≤ i → cs'[i]? = ds[i]?) ∧ SOwn 47 W.heap.size w' v' s'.l ∧ (sb v' m = sb v m ∨ w.heap.size ≤ sb v' m)) (fr : Fr w w' [m, sb v m]) : TwP W b m s1 s' w' := by
  obtain ⟨v', ds', k1, k2, _, _, k5, _⟩ := hat
  have lo := h.lo
  have sz := h.bel.size
  have hb := h6.base (m := m) lo.2
  obtain ⟨a1, qs, a2, a3, a4⟩ := h1
  exact ⟨⟨rb, g, v', ds', ⟨doc_fr h4 h6 fr a1 (by decide) (by decide), qs, a2, a3, doc_fr h4 h6 fr a4.head (by decide) (by decide), doc_fr h4 h6 fr a4.body (by decide) (by decide)⟩, h2, h3, k1, k2, k5⟩, lo, bel_fr h.bel fr sz (fun x hx => by simp at hx; omega)⟩

/-- What stays while both are changed: a packet. -/
def TwX (W : World) (b m z : Nat) (cs : Array Value) (w : World) : Prop := ∃ s1 s2, TwP W b m s1 s2 w ∧ Blk w z 39 cs
theorem twx_box {W : World} {b m z i : Nat} {cs : Array Value} {u : Value} (hv : cs[i]? = some u) : ∀ w, Hid (TwX W b m z cs w) → w.cell? ⟨z, i, none⟩ = some u := fun w h => by
  obtain ⟨s1, s2, h1, h2⟩ := h.out
  exact h2.cell hv
theorem twx_in {W : World} {b m z x i : Nat} {cs : Array Value} {u : Value} (hx : x < W.heap.size) (hv : W.cell? ⟨x, i, none⟩ = some u) : ∀ w, Hid (TwX W b m z cs w) → w.cell? ⟨x, i, none⟩ = some u := fun w h => by
  obtain ⟨s1, s2, h1, h2⟩ := h.out
  exact (h1.bel.cell (p := ⟨x, _, none⟩) hx).trans hv
theorem tp_Put (W : World) (b m z : Nat) (cs : Array Value) (s : BxS) (p : Pk) (now ch : Nat) (ho : s.ok) (hn : now ≤ 18446744073709551615) (hc : ch ≤ 18446744073709551615) (hk : s.l.length ≤ 1000) (s2 : BxS) (w : World) (h : TwP W b m s s2 w) (hz : Blk w z 39 cs) :
    Calls Try.prog 11 #[.pointer (some ⟨b, 0, none⟩), p.agg, .int .u64 (now : Int), .int .u64 (ch : Int)] w fun e w' => e = .returned (.int .u64 ((s.dueB now ch : Nat) : Int)) ∧ Hid (TwP W b m (s.putB p now ch) s2 w' ∧ Blk w' z 39 cs) ∧ Hid (TwX W b m z cs w') := by
  obtain ⟨rb, g, v, ds, h1, h2, h3, h4, h5, h6⟩ := h.q
  refine (bx_Put b rb g p now ch s w h1 ho hn hc hk).mono fun e w' k => ?_
  have a := h.cc h1 h2 h3 h4 h5 h6 k.at_ k.fr
  have c := code_tp h1 k.fr hz
  exact ⟨k.e, Lib.hid ⟨a, c⟩, Lib.hid ⟨_, _, a, c⟩⟩
theorem tp_PutD (W : World) (b m z : Nat) (cs : Array Value) (s : BxS) (p : Pk) (now ch : Nat) (ho : s.ok) (hn : now ≤ 18446744073709551615) (hc : ch ≤ 18446744073709551615) (hk : s.l.length ≤ 1000) (s1 : BxS) (w : World) (h : TwP W b m s1 s w) (hz : Blk w z 39 cs) :
    Calls Try.prog 12 #[.pointer (some ⟨m, 0, none⟩), p.agg, .int .u64 (now : Int), .int .u64 (ch : Int)] w fun e w' => e = .returned (.int .u64 ((s.dueB now ch : Nat) : Int)) ∧ Hid (TwP W b m s1 (s.putB p now ch) w' ∧ Blk w' z 39 cs) ∧ Hid (TwX W b m z cs w') := by
  obtain ⟨rb, g, v, ds, h1, h2, h3, h4, h5, h6⟩ := h.q
  refine (rj_Put m 0 W.heap.size 30 ds v p now ch s w (by decide) h.bel.size h4 h5 h6 ho hk hn hc).mono fun e w' k => ?_
  have a := h.mm h1 h2 h3 h4 h6 k.at_ k.fr
  have c := doc_fr h4 h6 k.fr hz (by decide) (by decide)
  exact ⟨k.e, Lib.hid ⟨a, c⟩, Lib.hid ⟨_, _, a, c⟩⟩
theorem tp_Out (W : World) (b m now : Nat) (s s2 : BxS) (hk : s.l.length ≤ 1000) (w : World) (h : TwP W b m s s2 w) :
    Calls Try.prog 8 #[.pointer (some ⟨b, 0, none⟩), .int .u64 (now : Int)] w fun e w' => ∃ ao cap, e = .returned (.slice ao (s.told now).length cap) ∧ Hid (TwP W b m (s.outB now) s2 w') ∧ Hid (SOwn 39 W.heap.size w' (.slice ao (s.told now).length cap) (s.told now)) := by
  obtain ⟨rb, g, v, ds, h1, h2, h3, h4, h5, h6⟩ := h.q
  refine (bx_Out b rb g now s w h1 (by omega)).mono fun e w' k => ?_
  obtain ⟨ov, he, ho⟩ := k.e
  have ho := SOwn.weak h.bel.size ho
  obtain ⟨ao, cap, rfl, _⟩ := ho.form
  exact ⟨ao, cap, he, Lib.hid (h.cc h1 h2 h3 h4 h5 h6 k.at_ k.fr), Lib.hid ho⟩
theorem tp_OutD (W : World) (b m now : Nat) (s s1 : BxS) (xv : Value) (tl : List Pk) (hk : s.l.length ≤ 1000) (w : World) (h : TwP W b m s1 s w) (hx : SOwn 39 W.heap.size w xv tl) :
    Calls Try.prog 10 #[.pointer (some ⟨m, 0, none⟩), .int .u64 (now : Int)] w fun e w' => ∃ ao cap, e = .returned (.slice ao (s.told now).length cap) ∧ Hid (TwP W b m s1 (s.outB now) w') ∧ Hid (Its w' ao (s.told now)) ∧ Hid (SOwn 39 W.heap.size w' xv tl) := by
  obtain ⟨rb, g, v, ds, h1, h2, h3, h4, h5, h6⟩ := h.q
  refine (rj_Out m 0 W.heap.size 30 ds v now s w (by decide) (by decide) h.bel.size h4 h5 h6 hk).mono fun e w' k => ?_
  obtain ⟨ov, he, ho⟩ := k.e
  obtain ⟨ao, cap, rfl, _, _, hi, _⟩ := ho.form
  exact ⟨ao, cap, he, Lib.hid (h.mm h1 h2 h3 h4 h6 k.at_ k.fr), Lib.hid hi, Lib.hid (hx.blk (fun x es _ hb => doc_fr h4 h6 k.fr hb (by decide) (by decide)))⟩
theorem tp_Next (W : World) (b m : Nat) (s s2 : BxS) (w : World) (h : TwP W b m s s2 w) :
    Calls Try.prog 13 #[.pointer (some ⟨b, 0, none⟩)] w fun e w' => e = .returned (.tuple #[.int .u64 (s.nextT : Int), .bool s.someB]) ∧ Below w.heap.size w w' := by
  obtain ⟨rb, g, v, ds, h1, _⟩ := h.q
  exact bx_Next b rb g s w h1
theorem tp_All (W : World) (b m : Nat) (s s2 : BxS) (hk : s.l.length ≤ 1000) (w : World) (h : TwP W b m s s2 w) :
    Calls Try.prog 14 #[.pointer (some ⟨b, 0, none⟩)] w fun e w' => ∃ ao cap, e = .returned (.slice ao s.pks.length cap) ∧ Hid (Its w' ao s.pks) ∧ Below w.heap.size w w' := by
  obtain ⟨rb, g, v, ds, h1, _⟩ := h.q
  refine (bx_All b rb g s w h1 (by omega)).mono fun e w' k => ?_
  obtain ⟨ov, he, ho⟩ := k.at_
  obtain ⟨ao, cap, rfl, _, _, hi, _⟩ := ho.form
  exact ⟨ao, cap, he, Lib.hid hi, k.bel⟩
theorem tp_all (W : World) (b m : Nat) (s s1 : BxS) (hk : s.l.length ≤ 1000) (w : World) (h : TwP W b m s1 s w) :
    Calls Try.prog 15 #[.pointer (some ⟨m, 0, none⟩)] w fun e w' => ∃ ao cap, e = .returned (.slice ao s.pks.length cap) ∧ Hid (Its w' ao s.pks) ∧ Below w.heap.size w w' := by
  obtain ⟨rb, g, v, ds, h1, h2, h3, h4, h5, h6⟩ := h.q
  refine (rj_all m 0 W.heap.size 30 ds v s w h4 h5 h6 (by omega)).mono fun e w' k => ?_
  obtain ⟨ov, he, ho⟩ := k.at_
  obtain ⟨ao, cap, rfl, _, _, hi, _⟩ := ho.form
  exact ⟨ao, cap, he, Lib.hid hi, k.bel⟩
theorem tp_Len (W : World) (b m : Nat) (s s2 : BxS) (w : World) (h : TwP W b m s s2 w) :
    Calls Try.prog 16 #[.pointer (some ⟨b, 0, none⟩)] w fun e w' => e = .returned (.int .i64 (s.l.length : Int)) ∧ w = w' := by
  obtain ⟨rb, g, v, ds, h1, _⟩ := h.q
  exact bx_Len b rb g s w h1
/-- The document's slice, and its first parcel's time. -/
theorem tp_doc {W w : World} {b m : Nat} {s1 s2 : BxS} (h : TwP W b m s1 s2 w) : ∃ ao cap, w.cell? ⟨m, 2, none⟩ = some (.slice ao s2.l.length cap) ∧ ∀ x t, s2.l = x :: t → ∃ g, ao = some ⟨g, 0, none⟩ ∧ w.cell? ⟨g, 7, none⟩ = some (.int .u64 (x.due : Int)) := by
  obtain ⟨rb, g, v, ds, h1, h2, h3, h4, h5, h6⟩ := h.q
  obtain ⟨ao, cap, rfl, _, _, hi, hg⟩ := h6.form
  refine ⟨ao, cap, h4.cell h5.v, fun x t e => ?_⟩
  obtain ⟨g, rfl, _⟩ := hg (by rw [e]; simp)
  have := (its_jp hi 0 (by rw [e]; simp) x (by rw [e]; rfl)).2.2.2.2.2.2.2
  exact ⟨g, rfl, by simpa using this⟩
/-- Both boxes as they are made. -/
theorem tp_start {W w : World} {b rb g d j : Nat} (h : BxAt w b rb g (BxS.start d j)) (h1 : W.heap.size ≤ b) (h2 : W.heap.size ≤ rb) (h3 : W.heap.size ≤ g) (hb : Below W.heap.size W w) :
    TwP W b w.heap.size (BxS.start d j) (BxS.start d j) (w.alloc (.cells #[.int .u64 (d : Int), .int .u64 (j : Int), .slice none 0 0, .int .u64 0] 30)) := by
  have k := al_be w (.cells #[.int .u64 (d : Int), .int .u64 (j : Int), .slice none 0 0, .int .u64 0] 30)
  exact ⟨⟨rb, g, .slice none 0 0, _, h.keep k, h2, h3, Blk.new _ _ _, ⟨rfl, rfl, rfl, rfl⟩, SOwn.nil _ _ _⟩, ⟨h1, hb.size⟩, bel_to hb k hb.size⟩

end Go.Proofs.Ytlhgiboajnhahaa
