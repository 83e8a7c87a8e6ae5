/- What ranges over a ledger's packets that are out, and writes memory of its own, over this translation: slices.Collect. -/
import Derived.Test.YtfpopbhbhdhdnaaLv
import Derived.Test.YtfpopbhbhdhdnaaRo
import Derived.RangeFuncBox
import Derived.RangeFuncLeaves
set_option linter.unusedVariables false
namespace Go.Proofs.Ytfpopbhbhdhdnaa
open Go.RowKit Go.Shelf
attribute [local go_sem] Oper.semAt_some

theorem kept_grown {W W' : World} {row : Option Nat} (hg : W.grownBy W' row) (hr : ∀ r, row = some r → ∃ o : Obj, W.heap[r]? = some o ∧ o.isCells = false) : ∀ x T cs, Blk W x T cs → W'.heap[x]? = W.heap[x]? := fun x T cs hx =>
  hg.block x hx.lt (fun e => by
    obtain ⟨o, ho, hc⟩ := hr x e.symm
    unfold Blk at hx
    rw [hx] at ho; cases ho; cases hc)
theorem kf_of_fr {B : Nat} {W W' : World} {L : List Nat} (h : Fr W W' L) (hL : ∀ x ∈ L, W.heap.size ≤ x ∨ ∃ T cs, Blk W x T cs) : KeepsFrom B W W' := ⟨h.size, fun k o _ hk ho => by
  have hlt := (Array.getElem?_eq_some_iff.1 hk).1
  refine (h.block k hlt (fun hm => ?_)).trans hk
  rcases hL k hm with c | ⟨T, cs, hb⟩
  · omega
  · unfold Blk at hb
    rw [hb] at hk; cases hk; cases ho⟩
theorem kf_drawn {B : Nat} {W W' : World} (h : Drawn W W') : KeepsFrom B W W' := kf_of_fr (Fr.of_below (h.below _) []) (fun x hx => by cases hx)

/-- The blocks that the iterator reads. -/
def blocksR (ks : List Kp) (b rb g bl br : Nat) : List Nat := bl :: br :: b :: rb :: g :: ks.map Kp.b
theorem RdR.keepX {ks : List Kp} {b rb g bl br fr to : Nat} {pre : List Kp} {W W' : World} (h : RdR ks b rb g bl br fr to pre W) (k : ∀ x T cs, x ∈ blocksR ks b rb g bl br → Blk W x T cs → W'.heap[x]? = W.heap[x]?) : RdR ks b rb g bl br fr to pre W' := by
  have mv : ∀ {x T cs}, x ∈ blocksR ks b rb g bl br → Blk W x T cs → Blk W' x T cs := fun {x T cs} hx hb => by unfold Blk; rw [k x T cs hx hb]; exact hb
  have mk : ∀ x ∈ ks, x.b ∈ blocksR ks b rb g bl br := fun x hx => by unfold blocksR; exact List.mem_cons_of_mem _ (List.mem_cons_of_mem _ (List.mem_cons_of_mem _ (List.mem_cons_of_mem _ (List.mem_cons_of_mem _ (List.mem_map_of_mem hx)))))
  obtain ⟨cs, h1, h2⟩ := h.rd.head
  refine ⟨mv (by simp [blocksR]) h.hl, mv (by simp [blocksR]) h.hr, ⟨⟨cs, mv (by simp [blocksR]) h1, h2⟩, h.rd.row.blk2 fun x T cs hx hb => k x T cs (by rcases hx with rfl | rfl <;> simp [blocksR]) hb, fun x hx => ?_⟩, fun x hx hp => mv (mk x hx) (h.gone x hx hp)⟩
  obtain ⟨gn, hg⟩ := h.rd.kept x hx
  exact ⟨gn, mv (mk x hx) hg⟩
theorem RdR.below {ks : List Kp} {b rb g bl br fr to : Nat} {pre : List Kp} {W W' : World} (h : RdR ks b rb g bl br fr to pre W) (k : Below W.heap.size W W') : RdR ks b rb g bl br fr to pre W' := h.keepX fun x T cs _ hb => k.block x hb.lt
theorem RdR.fr {ks : List Kp} {b rb g bl br fr to : Nat} {pre : List Kp} {W W' : World} {L : List Nat} (h : RdR ks b rb g bl br fr to pre W) (k : Fr W W' L) (hd : ∀ x ∈ blocksR ks b rb g bl br, x ∉ L) : RdR ks b rb g bl br fr to pre W' := h.keepX fun x T cs hx hb => k.block x hb.lt (hd x hx)
theorem RdR.more {ks : List Kp} {b rb g bl br fr to : Nat} {pre : List Kp} {W : World} (h : RdR ks b rb g bl br fr to pre W) (x : Kp) : RdR ks b rb g bl br fr to (pre ++ [x]) W := ⟨h.hl, h.hr, h.rd, fun k hk hp => h.gone k hk (fun hm => hp (by rw [List.map_append]; exact List.mem_append_left _ hm))⟩
theorem RdR.lt {ks : List Kp} {b rb g bl br fr to : Nat} {pre : List Kp} {W : World} (h : RdR ks b rb g bl br fr to pre W) : ∀ x ∈ blocksR ks b rb g bl br, x < W.heap.size := by
  intro x hx
  simp only [blocksR, List.mem_cons, List.mem_map] at hx
  obtain ⟨cs, h1, _⟩ := h.rd.head
  rcases hx with rfl | rfl | rfl | rfl | rfl | ⟨k, hk, rfl⟩
  · exact h.hl.lt
  · exact h.hr.lt
  · exact h1.lt
  · exact h.rd.row.lt.1
  · exact h.rd.row.lt.2
  · obtain ⟨gn, hg⟩ := h.rd.kept k hk; exact hg.lt
theorem LAt.rdr {w : World} {b rb g bl br fr to : Nat} {s : LS} (h : LAt w b rb g s) (hl : Blk w bl 26 #[.pointer (some ⟨b, 0, none⟩)]) (hr : Blk w br 56 #[.int .u64 (fr : Int), .int .u64 (to : Int)]) : RdR s.ks b rb g bl br fr to [] w :=
  ⟨hl, hr, h.rd, fun k hk _ => h.kept k hk⟩

theorem kp1_info : (Try.prog.info? 59).map (fun i => (i.zero, i.size, i.bytes)) = some (some (.pointer none), 1, 8) := by kernel_rfl
/-- A slice of pointers of the call's own. -/
def QR (w : World) (v : Value) (l : List Nat) : Prop := w.ownsRow 0 59 1 v l.length (l.map pv)
theorem QR.nil (w : World) : QR w (.slice none 0 0) [] := World.ownsRow_nil w 0 _ 1
theorem QR.same {w w' : World} {v : Value} {l : List Nat} (h : QR w v l) (hk : ∀ g cs, v.ownBlock = some g → Blk w g 59 cs → w'.heap[g]? = w.heap[g]?) : QR w' v l := by
  refine ⟨h.1, ?_⟩
  rcases h.2 with c | ⟨g, cap, cur, e, hb, hg, k⟩
  · exact .inl c
  · exact .inr ⟨g, cap, cur, e, hb, by rw [hk g cur (by rw [e]; rfl) hg]; exact hg, k⟩
theorem QR.form {w : World} {v : Value} {l : List Nat} (h : QR w v l) : ∃ p c, v = .slice p l.length c := by
  rcases h.2 with ⟨e, k⟩ | ⟨g, cap, cur, e, _⟩
  · exact ⟨none, 0, by rw [e, k]⟩
  · exact ⟨_, cap, e⟩
theorem QR.blk {w : World} {v : Value} {l : List Nat} (h : QR w v l) {g : Nat} (e : v.ownBlock = some g) : ∃ cs, Blk w g 59 cs := by
  rcases h.2 with ⟨rfl, _⟩ | ⟨g', cap, cur, rfl, _, hg, _⟩
  · cases e
  · simp [Value.ownBlock] at e; subst e; exact ⟨_, hg⟩
theorem QR.nums {w : World} {l : List Nat} {p : Option Addr} {n cap : Nat} (h : QR w (.slice p n cap) l) : PNums w p l := by
  intro hp
  rcases h.2 with ⟨e, k⟩ | ⟨g, c, cur, e, _, hb, _, _, h3, h4⟩
  · omega
  · injection e with e1 e2 e3
    subst e1
    refine ⟨g, 0, rfl, Blk.lt hb, fun i hi => ?_⟩
    rw [Nat.zero_add]
    refine Blk.cell hb ?_
    have e' : (l.map pv)[i]? = some (pv (l.getD i 0)) := by simp [List.getD_eq_getElem?_getD, hi]
    rw [← h4, List.getElem?_take_of_lt (by omega)] at e'
    simpa using e'

/-- What the loop keeps. -/
structure AsI (ks : List Kp) (b rb g bl br fr to : Nat) (w : World) (pre : List Kp) (W : World) : Prop where
  rd : RdR ks b rb g bl br fr to pre W
  box : ∃ v, Blk W w.heap.size 84 #[v] ∧ W.ownsRow w.heap.size 59 1 v (itemsK pre).length ((itemsK pre).map pv)
theorem own_same {T : TypeId} {w w' : World} {v : Value} {n k B : Nat} {xs : List Value} (h : w.ownsRow B T k v n xs) (hk : ∀ g cs, v.ownBlock = some g → B ≤ g → Blk w g T cs → w'.heap[g]? = w.heap[g]?) : w'.ownsRow B T k v n xs := by
  refine ⟨h.1, ?_⟩
  rcases h.2 with c | ⟨g, cap, cur, e, hb, hg, k⟩
  · exact .inl c
  · exact .inr ⟨g, cap, cur, e, hb, by rw [hk g cur (by rw [e]; rfl) hb hg]; exact hg, k⟩
theorem own_ge {T : TypeId} {w : World} {v : Value} {n k B : Nat} {xs : List Value} (h : w.ownsRow B T k v n xs) {g : Nat} (e : v.ownBlock = some g) : B ≤ g ∧ ∃ cs, Blk w g T cs := by
  rcases h.2 with ⟨rfl, _⟩ | ⟨g', cap, cur, rfl, hb, hg, _⟩
  · cases e
  · simp [Value.ownBlock] at e; subst e; exact ⟨hb, _, hg⟩
theorem own_zero {T : TypeId} {w : World} {v : Value} {n k B : Nat} {xs : List Value} (h : w.ownsRow B T k v n xs) : w.ownsRow 0 T k v n xs := by
  refine ⟨h.1, ?_⟩
  rcases h.2 with c | ⟨g, cap, cur, e, hb, r⟩
  · exact .inl c
  · exact .inr ⟨g, cap, cur, e, Nat.zero_le _, r⟩
theorem AsI.keepX {ks : List Kp} {b rb g bl br fr to : Nat} {w : World} {pre : List Kp} {W W' : World} (h : AsI ks b rb g bl br fr to w pre W) (k : ∀ x T cs, Blk W x T cs → W'.heap[x]? = W.heap[x]?) : AsI ks b rb g bl br fr to w pre W' := by
  obtain ⟨v, h1, h2⟩ := h.box
  exact ⟨h.rd.keepX fun x T cs _ hb => k x T cs hb, v, by unfold Blk; rw [k _ _ _ h1]; exact h1, own_same h2 fun g cs _ _ hb => k g _ cs hb⟩
theorem asi_own (ks : List Kp) (b rb g bl br fr to : Nat) (w : World) (B : Nat) (hB : w.heap.size ≤ B) : OwnFrom B (fun pre W => AsI ks b rb g bl br fr to w pre W ∧ Below w.heap.size w W) :=
  fun pre X Y row hs hg hr => ⟨hs.1.keepX (kept_grown hg (fun r e => (hr r e).2)), hs.2.grown hg hs.2.size (fun k e => Nat.le_trans hB (hr k e).1)⟩
/-- What a round leaves. -/
theorem as_round {ks : List Kp} {b rb g bl br fr to : Nat} {w W w1 : World} {pre : List Kp} {x : Kp} {v : Value} {o : Obj} {g' cap n : Nat} (hlt : ∀ y ∈ blocksR ks b rb g bl br, y < w.heap.size) (h : AsI ks b rb g bl br fr to w pre W) (hB : Below w.heap.size w W)
    (hb : Blk W w.heap.size 84 #[v]) (hv : W.ownsRow w.heap.size 59 1 v (itemsK pre).length ((itemsK pre).map pv)) (hn : n = (itemsK pre).length + 1)
    (hown : w1.ownsRow w.heap.size 59 1 (.slice (some ⟨g', 0, none⟩) n cap) ((itemsK pre).length + 1) ((itemsK pre).map pv ++ [.pointer (some ⟨x.b, 0, none⟩)])) (hg : (W.alloc o).grownBy w1 v.ownBlock) (B : Nat) :
    KeepsFrom B W (w1.setCell ⟨w.heap.size, 0, none⟩ (.slice (some ⟨g', 0, none⟩) n cap)) ∧ AsI ks b rb g bl br fr to w (pre ++ [x]) (w1.setCell ⟨w.heap.size, 0, none⟩ (.slice (some ⟨g', 0, none⟩) n cap)) ∧ Below w.heap.size w (w1.setCell ⟨w.heap.size, 0, none⟩ (.slice (some ⟨g', 0, none⟩) n cap)) := by
  subst hn
  have f1 : Fr W w1 v.ownBlock.toList := ((Fr.refl W v.ownBlock.toList).alloc o).trans (l' := v.ownBlock.toList) ⟨hg.os, hg.tape, hg.output, hg.size, fun k hk hl => hg.block k hk (fun e => hl (by rw [← e]; simp))⟩ (fun y hy => .inl hy)
  have vb : ∀ k ∈ v.ownBlock.toList, w.heap.size ≤ k ∧ k ≠ w.heap.size ∧ ∃ cs, Blk W k 59 cs := fun k hk => by
    have e : v.ownBlock = some k := by
      cases h : v.ownBlock with
      | none => rw [h] at hk; cases hk
      | some z => rw [h] at hk; simp at hk; rw [hk]
    obtain ⟨h1, cs, h2⟩ := own_ge hv e
    exact ⟨h1, h2.ty hb (by decide), cs, h2⟩
  have f2 : Fr W (w1.setCell ⟨w.heap.size, 0, none⟩ (.slice (some ⟨g', 0, none⟩) ((itemsK pre).length + 1) cap)) (w.heap.size :: v.ownBlock.toList) := (f1.mono (fun y hy => .inl (List.mem_cons_of_mem _ hy))).set (.inl List.mem_cons_self) 0 _
  have hb1 : Blk w1 w.heap.size 84 #[v] := (hb.alloc o).grown hg (fun e => (vb _ (by rw [← e]; simp)).2.1 rfl)
  have e1 : itemsK (pre ++ [x]) = itemsK pre ++ [x.b + 1] := by simp [itemsK]
  refine ⟨kf_of_fr f2 (fun y hy => ?_), ⟨(h.rd.fr f2 (fun y hy hm => ?_)).more x, _, hb1.set 0 _, ?_⟩, bel_fr hB f2 hB.size (fun y hy => ?_)⟩
  · rcases List.mem_cons.1 hy with rfl | hy
    · exact .inr ⟨_, _, hb⟩
    · obtain ⟨_, _, cs, hc⟩ := vb y hy; exact .inr ⟨_, cs, hc⟩
  · have := hlt y hy
    rcases List.mem_cons.1 hm with rfl | hm
    · omega
    · have := (vb y hm).1; omega
  · rw [e1, List.length_append, List.map_append]
    refine own_same hown fun k cs e _ hk => Below.heap_setCell _ _ _ _ ?_
    show k ≠ w.heap.size
    exact hk.ty hb1 (by decide)
  · rcases List.mem_cons.1 hy with rfl | hy
    · exact Nat.le_refl _
    · exact (vb y hy).1

set_option maxRecDepth 100000 in
set_option maxHeartbeats 2000000 in
theorem appendseq_any (b rb g bl br fr to : Nat) (ks : List Kp) (w : World) (hR : RdR ks b rb g bl br fr to [] w) (hnd : (ks.map Kp.b).Nodup) (hri : ks.Pairwise fun x y => x.p.n < y.p.n) (hlen : ks.length ≤ 500) :
    Calls Try.prog 78 #[.slice none 0 0, .func (.func 52) #[] #[.pointer (some ⟨bl, 0, none⟩), .pointer (some ⟨br, 0, none⟩)]] w
      fun e w' => ∃ v, e = .returned v ∧ QR w' v (itemsK (yK ks fr to)) ∧ (∀ k, v.ownBlock = some k → w.heap.size ≤ k) ∧ Below w.heap.size w w' := by
  have hB0 : Below w.heap.size w (w.alloc (.cells #[.slice none 0 0] 84)) := (Below.refl _ _).alloc (Nat.le_refl _) _
  have HLt := Lib.hid hR.lt
  have hI0 : AsI ks b rb g bl br fr to w [] (w.alloc (.cells #[.slice none 0 0] 84)) := ⟨hR.below ((Below.refl _ _).alloc (Nat.le_refl _) _), _, Blk.new _ _ _, World.ownsRow_nil _ _ _ _⟩
  have HYl : Hid ((yK ks fr to).length ≤ 500) := Lib.hid (Nat.le_trans (List.length_filter_le _ _) hlen)
  obtain ⟨i0, hi, hz0, hz1, hz2⟩ := info_parts kp1_info
  have HI := Lib.hid hi
  have HZ0 := Lib.hid hz0
  have HZ1 := Lib.hid hz1
  have HZ2 := Lib.hid hz2
  have HS := Lib.hid (between_seq 5 b rb g bl br fr to ks (by omega) hnd hri hlen)
  clear hi hz0 hz1 hz2 hR hnd hri hlen
  refine (callsIn_wide (n := 6)).1 ?_
  refine callsIn_of_wp_marks Try.func78 rfl trivial ?_ rfl
  simp only [Try.ntmps78, List.size_toArray, List.length_cons, List.length_nil, Nat.reduceAdd, Nat.reduceSub, Array.replicate_succ, Array.replicate_zero, List.push_toArray, List.append_toArray, List.nil_append, List.cons_append]
  gi_wp2
  refine wp_range1 (gf := 52) (lb := #[.pointer (some ⟨bl, 0, none⟩), .pointer (some ⟨br, 0, none⟩)]) rfl (enters_of Try.func52 (by kernel_rfl) rfl) HS.out (fun _ => rfl)
    (fun pre W => AsI ks b rb g bl br fr to w pre W ∧ Below w.heap.size w W) (fun _ _ _ => False) (asi_own ks b rb g bl br fr to w _ (by simp)) (fun _ => ownFrom_pure _ _) (fun pre A h => h.1.rd) ⟨hI0, hB0⟩
    (fun x => { tmps := #[.slice none 0 0, .func (.func 52) #[] #[.pointer (some ⟨bl, 0, none⟩), .pointer (some ⟨br, 0, none⟩)], .pointer (some ⟨w.heap.size, 0, none⟩), undef, .slice none 0 0, .pointer (some ⟨x.b, 0, none⟩), .func (.func 52) #[] #[.pointer (some ⟨bl, 0, none⟩), .pointer (some ⟨br, 0, none⟩)], .pointer (some ⟨x.b, 0, none⟩), undef, undef, undef, undef, undef], defers := [] })
    ?assign ?body ?done (fun D c pre W _ _ _ h _ => h.elim)
  case assign =>
    intro l x W K hK
    gi_wp2
    exact hK
  case body =>
    rintro l pre x W ⟨hI, hB⟩ hok
    obtain ⟨v, hb, hv⟩ := hI.box
    have c0 := hb.cell (i := 0) rfl
    have f0 := hb.free 0
    have HIx := Lib.hid hI
    have HB := Lib.hid hB
    have Hb := Lib.hid hb
    have HV := Lib.hid hv
    have hpl : pre.length + 1 ≤ 500 := by
      have := hok.length_le
      rw [List.length_append] at this
      exact Nat.le_trans this HYl.out
    have hil : (itemsK pre).length ≤ 500 := by rw [itemsK_len]; omega
    clear hI hB hb hv hok hI0 hB0
    gi_wp2_with (gi_at_builtin; refine wpListIn_append_own _ rfl _ _ 84 rfl w.heap.size 59 i0 (.pointer none) 1 8 Try.underlying84 HI.out HZ0.out HZ1.out HZ2.out rfl (by decide) v _ _ rfl (HV.out.alloc _) ⟨W.heap.size, 0, none⟩ 1 1 [.pointer (some ⟨x.b, 0, none⟩)] rfl rfl (cell_one_new _ _ _) (by simp [Value.oneCell']) (by unfold maxLen; omega) (by omega) (by have := HB.out.size; simp; omega) ?_; intro v' w1 hown' hgrow _; obtain ⟨g', cap', rfl⟩ := ownsRow_succ hown'; have HOw := Lib.hid hown'; have HGr := Lib.hid hgrow; have u0 : w1.cell? ⟨w.heap.size, 0, none⟩ = some v := ((Hb.out.alloc _).grown hgrow (fun e => (own_ge HV.out e.symm).2.elim fun cs hc => hc.ty Hb.out (by decide) rfl)).cell (i := 0) rfl; have u1 := ((Hb.out.alloc _).grown hgrow (fun e => (own_ge HV.out e.symm).2.elim fun cs hc => hc.ty Hb.out (by decide) rfl)).free 0; clear hown' hgrow)
    exact as_round HLt.out HIx.out HB.out Hb.out HV.out rfl HOw.out HGr.out _
  case done =>
    rintro D xs W hD hDl rfl ⟨hI, hB⟩ hK
    have hP := (asi_own ks b rb g bl br fr to w w.heap.size (Nat.le_refl _)).putObj (.deferred none) ⟨hI, hB⟩ (Nat.le_trans (by simp) hD) hK rfl
    obtain ⟨v, hb, hv⟩ := hI.box
    have c0 := hb.cell (i := 0) rfl
    have hv2 := ownsRow_putObj hv (.deferred none) hK rfl
    have HV := Lib.hid hv
    have HV2 := Lib.hid hv2
    have HP := Lib.hid hP.2
    have HK := Lib.hid hK
    clear hI hB hb hv hv2 hP hI0 hB0 hD hDl hK
    gi_wp2
    refine ⟨by simp, .inl ⟨_, _, rfl, run_takeDeferred HK.out, ?_⟩⟩
    refine ⟨v, ?_, v, rfl, own_zero HV2.out, fun k e => (own_ge HV2.out e).1, HP.out⟩
    simp [results, Try.f78]

theorem collect_any (b rb g bl br fr to : Nat) (ks : List Kp) (w : World) (hR : RdR ks b rb g bl br fr to [] w) (hnd : (ks.map Kp.b).Nodup) (hri : ks.Pairwise fun x y => x.p.n < y.p.n) (hlen : ks.length ≤ 500) :
    Calls Try.prog 55 #[.func (.func 52) #[] #[.pointer (some ⟨bl, 0, none⟩), .pointer (some ⟨br, 0, none⟩)]] w
      fun e w' => ∃ v, e = .returned v ∧ QR w' v (itemsK (yK ks fr to)) ∧ (∀ k, v.ownBlock = some k → w.heap.size ≤ k) ∧ Below w.heap.size w w' := by
  have HA := Lib.hid (appendseq_any b rb g bl br fr to ks w hR hnd hri hlen)
  clear hR hnd hri hlen
  go_enter Try.func55, Try.ntmps55
  go_wp2_with fail
  refine (HA.out).mono ?_
  rintro e w' ⟨v, rfl, h1, h2, h3⟩
  have H1 := Lib.hid h1
  have H2 := Lib.hid h2
  have H3 := Lib.hid h3
  clear h1 h2 h3 HA
  go_wp2_with fail
  go_ret
  exact ⟨v, rfl, H1.out, H2.out, H3.out⟩
end Go.Proofs.Ytfpopbhbhdhdnaa
