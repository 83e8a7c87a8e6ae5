/- No box; a box of the call's own, over this translation. -/
import Derived.Test.YtlhgiboajnhahaaJn
set_option linter.unusedVariables false
namespace Go.Proofs.Ytlhgiboajnhahaa
open Go.RowKit Go.Shelf
attribute [local go_sem] Oper.semAt_some

theorem bn_Next (w : World) : Calls Try.prog 13 #[.pointer none] w fun e w' => e = .returned (.tuple #[.int .u64 0, .bool false]) ∧ w = w' := by
  go_enter Try.func13, Try.ntmps13
  go_wp2
  go_ret2
  exact ⟨rfl, rfl⟩
theorem bn_Len (w : World) : Calls Try.prog 16 #[.pointer none] w fun e w' => e = .returned (.int .i64 0) ∧ w = w' := by
  go_enter Try.func16, Try.ntmps16
  go_wp2
  go_ret
  exact ⟨rfl, rfl⟩
theorem bn_All (w : World) : Calls Try.prog 14 #[.pointer none] w fun e w' => e = .returned (.slice none 0 0) ∧ w = w' := by
  go_enter Try.func14, Try.ntmps14
  go_wp2
  go_ret
  exact ⟨rfl, rfl⟩
theorem bn_Put (w : World) (cs : Array Value) (now ch : Nat) : Calls Try.prog 11 #[.pointer none, .agg cs, .int .u64 (now : Int), .int .u64 (ch : Int)] w fun e w' => e = .returned (.int .u64 0) ∧ Below w.heap.size w w' := by
  go_enter Try.func11, Try.ntmps11
  go_wp2
  go_ret
  exact ⟨rfl, al_be _ _⟩
theorem due1n (n l bb bn : Nat) (hn : 1 ≤ n) (J : List Pk → World → Prop) (W : World) (hb : Blk W bb 25 #[.pointer none]) (h0 : J [] W) :
    CallsIn Fence.wide n Try.prog 25 #[.func (.yield l) #[] #[], .pointer (some ⟨bb, 0, none⟩), .pointer (some ⟨bn, 0, none⟩)] W fun e W' => (∃ v, e = .returned v) ∧ J [] W' := by
  have H0 := Lib.hid h0
  have l0 := hb.cell (i := 0) (v := .pointer none) rfl
  clear h0 hb
  refine callsIn_of_wp Try.func25 rfl trivial ?_ rfl
  simp only [Try.ntmps25, List.size_toArray, List.length_cons, List.length_nil, Nat.reduceAdd, Nat.reduceSub, Array.replicate_succ, Array.replicate_zero, List.push_toArray, List.append_toArray, List.nil_append, List.cons_append]
  gi_wp2_with (refine ⟨trivial, ?_⟩; gi_at_call 13; refine (callsIn_wide.2 (bn_Next _)).mono ?_; rintro e w1 ⟨rfl, rfl⟩)
  gi_loopw [4, 5] (fun a q wr => a = .int .u64 0 ∧ q = .bool false ∧ J [] wr) (fun _ _ wr => 0)
  case atStart => exact ⟨rfl, rfl, H0.out⟩
  case round =>
    obtain ⟨rfl, rfl, hI⟩ := hrel
    have HI := Lib.hid hI
    clear hI H0 l0
    gi_wp2
    go_end0
    exact ⟨⟨_, rfl⟩, HI.out⟩
theorem due_seqn (n bb bn : Nat) (hn : 1 ≤ n) :
    Seq2 n Try.prog 25 #[.pointer (some ⟨bb, 0, none⟩), .pointer (some ⟨bn, 0, none⟩)] (fun x : Pk => #[x.agg]) (fun pre _ => False) (fun A B => Below A.heap.size A B) (fun _ _ => True) (fun W => Blk W bb 25 #[.pointer none]) (fun xs _ => xs = []) := fun l J W hJ hY hR h0 =>
  (due1n n l bb bn hn J W hR h0).mono fun e W' h => ⟨h.1, _, rfl, h.2⟩
set_option maxRecDepth 100000 in
set_option maxHeartbeats 2000000 in
theorem bn_Out (now : Nat) (W : World) : Calls Try.prog 8 #[.pointer none, .int .u64 (now : Int)] W fun e w' => e = .returned (.slice none 0 0) ∧ Below W.heap.size W w' := by
  have HB0 : Hid (Blk (((W.alloc (.cells #[.slice none 0 0] 33)).alloc (.cells #[.pointer none] 25)).alloc (.cells #[.int .u64 (now : Int)] 22)) W.heap.size 33 #[.slice none 0 0]) := Lib.hid (((Blk.new _ _ _).alloc _).alloc _)
  have HB1 : Hid (Blk (((W.alloc (.cells #[.slice none 0 0] 33)).alloc (.cells #[.pointer none] 25)).alloc (.cells #[.int .u64 (now : Int)] 22)) (W.heap.size + 1) 25 #[.pointer none]) := Lib.hid ((Blk.new1 _ _ _ _).alloc _)
  have HBe : Hid (Below W.heap.size W (((W.alloc (.cells #[.slice none 0 0] 33)).alloc (.cells #[.pointer none] 25)).alloc (.cells #[.int .u64 (now : Int)] 22))) := Lib.hid ((((Below.refl _ _).alloc (Nat.le_refl _) _).alloc (by simp) _).alloc (by simp; omega) _)
  have HSeq := Lib.hid (due_seqn 5 (W.heap.size + 1) (W.heap.size + 1 + 1) (by omega))
  refine (callsIn_wide (n := 6)).1 ?_
  refine callsIn_of_wp_marks Try.func8 rfl trivial ?_ rfl
  simp only [Try.ntmps8, List.size_toArray, List.length_cons, List.length_nil, Nat.reduceAdd, Nat.reduceSub, Array.replicate_succ, Array.replicate_zero, List.push_toArray, List.append_toArray, List.nil_append, List.cons_append]
  gi_wp2_with (refine ⟨trivial, ?_⟩; gi_at_call 18; refine (callsIn_wide.2 (due_any _ _ _)).mono ?_; rintro e w' ⟨rfl, rfl⟩)
  generalize (((W.alloc (.cells #[.slice none 0 0] 33)).alloc (.cells #[.pointer none] 25)).alloc (.cells #[.int .u64 (now : Int)] 22)) = w2 at *
  have put : ∀ (pre : List Pk) (A : World) (l : Nat) (ob o' : Obj), (pre = [] ∧ Blk A W.heap.size 33 #[.slice none 0 0] ∧ Below W.heap.size W A) → w2.heap.size ≤ l → A.heap[l]? = some ob → ob.isCells = false → (pre = [] ∧ Blk (A.putObj l o') W.heap.size 33 #[.slice none 0 0] ∧ Below W.heap.size W (A.putObj l o')) := fun pre A l ob o' h hl hk ho => by
    obtain ⟨h1, h2, h3⟩ := h
    refine ⟨h1, h2.fr (fr_put o') (fun hm => ?_), bel_fr h3 (fr_put o') h3.size (fun x hx => ?_)⟩
    · simp at hm; subst hm
      unfold Blk at h2; rw [hk] at h2; cases h2; cases ho
    · simp at hx; subst hx; exact Nat.le_trans HBe.out.size hl
  refine wp_range2 (gf := 25) (lb := #[.pointer (some ⟨W.heap.size + 1, 0, none⟩), .pointer (some ⟨W.heap.size + 1 + 1, 0, none⟩)]) rfl (enters_of Try.func25 (by kernel_rfl) rfl) HSeq.out (fun _ => rfl)
    (fun A B h k ob hk ho => (h.block k (Array.getElem?_eq_some_iff.1 hk).1).trans hk) (fun A B C h k => trivial) (fun A l ob o' hk ho => trivial)
    (fun ob o' => (HB1.out.alloc _).alloc _) (fun xs A l ob o' h hk ho => h) (fun pre A => pre = [] ∧ Blk A W.heap.size 33 #[.slice none 0 0] ∧ Below W.heap.size W A) (fun pre A B h k => ⟨h.1, h.2.1.keep k, bel_to h.2.2 k h.2.2.size⟩)
    (fun ob o' => ⟨rfl, (HB0.out.alloc _).alloc _, bel_to (bel_to HBe.out (al_be _ _) HBe.out.size) (al_be _ _) (Nat.le_trans HBe.out.size (by simp))⟩) put
    (fun x a' A => True) (fun x a' A l ob o' h hk ho => trivial) ?assign (fun l pre x a' A hA hx hok => absurd hok (by simp)) ?done
  case assign =>
    intro l pre x A K hA hK
    have hK := Lib.hid hK
    have HA := Lib.hid hA
    clear hA HB0 HB1 HSeq put
    unfold Pk.agg
    gi_wp2
    exact hK.out _ _ ((KeepsOthers.alloc _ _).from _) trivial ⟨HA.out.1, HA.out.2.1.alloc _, bel_to HA.out.2.2 (al_be _ _) HA.out.2.2.size⟩ trivial
  case done =>
    rintro D xs A hD hDl rfl hA hK
    have HP := Lib.hid (put _ _ _ _ (.deferred none) hA hD hK rfl)
    have c0 := hA.2.1.cell (i := 0) (v := .slice none 0 0) rfl
    have HK := Lib.hid hK
    clear put hA hD hDl hK HB0 HB1 HBe HSeq
    gi_wp2
    refine ⟨by simp, .inl ⟨_, _, rfl, run_takeDeferred HK.out, ?_⟩⟩
    refine ⟨.slice none 0 0, ?_, rfl, HP.out.2.2⟩
    simp [results, Try.f8]

/-- A box of the call's own. -/
structure OwnBx (W : World) (b : Nat) (s : BxS) (w : World) : Prop where
  at_ : ∃ rb g, BxAt w b rb g s ∧ W.heap.size ≤ rb ∧ W.heap.size ≤ g
  lo : W.heap.size ≤ b
  bel : Below W.heap.size W w
theorem OwnBx.to {W w w' : World} {b : Nat} {s : BxS} (h : OwnBx W b s w) (k : Below w.heap.size w w') : OwnBx W b s w' :=
  ⟨by obtain ⟨rb, g, h1, h2⟩ := h.at_; exact ⟨rb, g, h1.keep k, h2⟩, h.lo, bel_to h.bel k h.bel.size⟩
theorem own_New (d j : Nat) (W : World) : Calls Try.prog 7 #[.int .u64 (d : Int), .int .u64 (j : Int)] W fun e w' => ∃ b, e = .returned (.pointer (some ⟨b, 0, none⟩)) ∧ Hid (OwnBx W b (BxS.start d j) w') :=
  (bx_New d j W).mono fun e w' k => by
    obtain ⟨⟨b, rb, g, he, h1, h2, h3, h4⟩, hb⟩ := k
    exact ⟨b, he, Lib.hid ⟨⟨rb, g, h1, h3, h4⟩, h2, hb⟩⟩
theorem own_Put (W : World) (b : Nat) (s s' : BxS) (p : Pk) (now ch t : Nat) (hs : s.putB p now ch = s') (ht : s.dueB now ch = t) (ho : s.ok) (hn : now ≤ 18446744073709551615) (hc : ch ≤ 18446744073709551615) (hk : s.l.length ≤ 1000) (w : World) (h : OwnBx W b s w) :
    Calls Try.prog 11 #[.pointer (some ⟨b, 0, none⟩), p.agg, .int .u64 (now : Int), .int .u64 (ch : Int)] w fun e w' => e = .returned (.int .u64 (t : Int)) ∧ Hid (OwnBx W b s' w') := by
  obtain ⟨rb, g, h1, h2, h3⟩ := h.at_
  subst hs ht
  refine (bx_Put b rb g p now ch s w h1 ho hn hc hk).mono fun e w' k => ⟨k.e, Lib.hid ?_⟩
  obtain ⟨g', k1, k2⟩ := k.at_
  have sz := h.bel.size
  have lo := h.lo
  exact ⟨⟨rb, g', k1, h2, by omega⟩, lo, bel_fr h.bel k.fr sz (fun x hx => by simp at hx; omega)⟩
theorem own_Out (W : World) (b : Nat) (s s' : BxS) (now : Nat) (l : List Pk) (hs : s.outB now = s') (hl : s.told now = l) (hm : s.l.length ≤ 5000) (w : World) (h : OwnBx W b s w) :
    Calls Try.prog 8 #[.pointer (some ⟨b, 0, none⟩), .int .u64 (now : Int)] w fun e w' => ∃ ao cap, e = .returned (.slice ao l.length cap) ∧ l.length ≤ cap ∧ Hid (Its w' ao l) ∧ Hid (OwnBx W b s' w') := by
  obtain ⟨rb, g, h1, h2, h3⟩ := h.at_
  subst hs hl
  refine (bx_Out b rb g now s w h1 hm).mono fun e w' k => ?_
  obtain ⟨v, he, hv⟩ := k.e
  obtain ⟨ao, cap, rfl, hc, _, hi, _⟩ := hv.form
  obtain ⟨g', k1, k2⟩ := k.at_
  have sz := h.bel.size
  have lo := h.lo
  exact ⟨ao, cap, he, hc, Lib.hid hi, Lib.hid ⟨⟨rb, g', k1, h2, by omega⟩, lo, bel_fr h.bel k.fr sz (fun x hx => by simp at hx; omega)⟩⟩
theorem own_Next (W : World) (b : Nat) (s : BxS) (t : Nat) (q : Bool) (ht : s.nextT = t) (hq : s.someB = q) (w : World) (h : OwnBx W b s w) :
    Calls Try.prog 13 #[.pointer (some ⟨b, 0, none⟩)] w fun e w' => e = .returned (.tuple #[.int .u64 (t : Int), .bool q]) ∧ Below w.heap.size w w' := by
  obtain ⟨rb, g, h1, h2, h3⟩ := h.at_
  subst ht hq
  exact bx_Next b rb g s w h1
theorem own_Len (W : World) (b : Nat) (s : BxS) (n : Nat) (hn : s.l.length = n) (w : World) (h : OwnBx W b s w) :
    Calls Try.prog 16 #[.pointer (some ⟨b, 0, none⟩)] w fun e w' => e = .returned (.int .i64 (n : Int)) ∧ w = w' := by
  obtain ⟨rb, g, h1, h2, h3⟩ := h.at_
  subst hn
  exact bx_Len b rb g s w h1
theorem own_All (W : World) (b : Nat) (s : BxS) (l : List Pk) (hl : s.pks = l) (hm : s.l.length ≤ 5000) (w : World) (h : OwnBx W b s w) :
    Calls Try.prog 14 #[.pointer (some ⟨b, 0, none⟩)] w fun e w' => ∃ ao cap, e = .returned (.slice ao l.length cap) ∧ l.length ≤ cap ∧ Hid (Its w' ao l) ∧ Below w.heap.size w w' := by
  obtain ⟨rb, g, h1, h2, h3⟩ := h.at_
  subst hl
  refine (bx_All b rb g s w h1 hm).mono fun e w' k => ?_
  obtain ⟨v, he, hv⟩ := k.at_
  obtain ⟨ao, cap, rfl, hc, _, hi, _⟩ := hv.form
  exact ⟨ao, cap, he, hc, Lib.hid hi, k.bel⟩

end Go.Proofs.Ytlhgiboajnhahaa
