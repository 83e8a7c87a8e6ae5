/- seqs.blocks over this translation, of however many ranges. -/
import Derived.Test.YtfpopbhbhdhdnaaUa
import Derived.Test.YtfpopbhbhdhdnaaOa
import Derived.Deep.AppendLies
set_option linter.unusedVariables false
namespace Go.Proofs.Ytfpopbhbhdhdnaa
open Go.RowKit Go.Shelf
attribute [local go_sem] Oper.semAt_some

theorem sl_info : (Try.prog.info? 30).map (fun i => (i.zero, i.size, i.bytes)) = some (some (.slice none 0 0), 1, 24) := by kernel_rfl
/-- What blocks hands back: a new row of blocks, which have these ranges. -/
structure BlkPost (w : World) (L : List Rn) (e : Ending) (w' : World) : Prop where
  at_ : ∃ v P, e = .returned v ∧ w'.ownsRow w.heap.size 30 1 v P.length (pvals P) ∧ Parts w' P ∧ pall P = L ∧ P.length ≤ 1000 ∧ 0 < P.length
  bel : Below w.heap.size w w'
theorem blocks_few (v : Value) (p : Option Addr) (cap : Nat) (L : List Rn) (w : World) (h : RR w (.slice p L.length cap) L) (hp : 0 < L.length) (hl : L.length ≤ 64) :
    Calls Try.prog 48 #[.slice p L.length cap] w (BlkPost w L) := by
  have HH := Lib.hid h
  clear h
  go_enter Try.func48, Try.ntmps48
  go_wp2
  go_ret
  refine ⟨⟨_, [(.slice p L.length cap, L)], rfl, ⟨rfl, .inr ⟨w.heap.size, 1, _, rfl, Nat.le_refl _, Blk.new _ _ _, Nat.le_refl _, by unfold maxLen; omega, rfl, rfl⟩⟩, ?_, by simp [pall], by simp, by simp⟩, (Below.refl _ _).alloc (Nat.le_refl _) _⟩
  intro x hx
  simp at hx
  subst hx
  exact ⟨HH.out.keep ((Below.refl _ _).alloc (Nat.le_refl _) _), hp⟩

/-- What the loop of blocks keeps. -/
structure BlI (g off cap bs bn n0 nv B3 : Nat) (l : List Rn) (w : World) (pre : List Nat) (W : World) : Prop where
  ch : ChR g off cap bs bn l W
  its : Its W (some ⟨g, off, none⟩) l
  box : ∃ v P, Blk W B3 89 #[v] ∧ W.ownsRow nv 30 1 v pre.length (pvals P) ∧ P.length = pre.length ∧ Parts W P ∧ pall P = pre.flatMap (chk l)
  bel : Below n0 w W
/-- A slice that reads as ranges, in a block that is known. -/
def ItsB (W : World) (g off : Nat) (l : List Rn) : Prop := Its W (some ⟨g, off, none⟩) l ∧ ∃ cs, Blk W g 56 cs
theorem its_same {W W' : World} {g off : Nat} {l : List Rn} (h : Its W (some ⟨g, off, none⟩) l) (hs : W.heap.size ≤ W'.heap.size) (hk : W'.heap[g]? = W.heap[g]?) : Its W' (some ⟨g, off, none⟩) l := by
  intro hp
  obtain ⟨b, o, e, hb, hc⟩ := h hp
  injection e with e; injection e with e1 e2
  subst e1 e2
  exact ⟨_, _, rfl, Nat.lt_of_lt_of_le hb hs, fun i j hi hj => (World.cell?_of_block (a := ⟨g, _, none⟩) hk).trans (hc i j hi hj)⟩
theorem bli_own (g off cap bs bn n0 nv B3 B : Nat) (l : List Rn) (w : World) (hB : n0 ≤ B) (hn : n0 ≤ w.heap.size) (hg : g < B) : OwnFrom B (BlI g off cap bs bn n0 nv B3 l w) := fun pre X Y row hs hgr hr => by
  have k := kept_grown hgr (fun r e => (hr r e).2)
  have mv : ∀ {x T cs}, Blk X x T cs → Blk Y x T cs := fun {x T cs} hb => by unfold Blk; rw [k x T cs hb]; exact hb
  obtain ⟨v, P, h1, h2, h3, h4, h5⟩ := hs.box
  refine ⟨⟨mv hs.ch.s, mv hs.ch.n⟩, ?_, ⟨v, P, mv h1, own_same h2 fun g cs _ _ hb => k g _ cs hb, h3, h4.same fun g cs hb => k g _ cs hb, h5⟩, hs.bel.grown hgr (Nat.le_trans hn hs.bel.size) (fun k e => Nat.le_trans hB (hr k e).1)⟩
  by_cases hp : 0 < l.length
  · obtain ⟨b, o, e, hb, _⟩ := hs.its hp
    injection e with e; injection e with e1 e2
    subst e1
    exact its_same hs.its hgr.size (hgr.block g hb (fun e => by have := (hr g e.symm).1; omega))
  · exact fun h => absurd h hp
theorem chk_its {W : World} {g off : Nat} {l : List Rn} {k : Nat} (h : Its W (some ⟨g, off, none⟩) l) (hk : 32 * k < l.length) : Its W (some ⟨g, off + 32 * k * 2, none⟩) (chk l k) := by
  intro hp
  obtain ⟨b, o, e, hb, hc⟩ := h (by omega)
  injection e with e; injection e with e1 e2
  subst e1 e2
  refine ⟨g, off + 32 * k * 2, rfl, hb, fun i j hi hj => ?_⟩
  have hlen : (chk l k).length = min 32 (l.length - 32 * k) := by unfold chk; rw [List.length_take, List.length_drop]
  have k2 : Itm.k Rn = 2 := rfl
  have := hc (32 * k + i) j (by omega) hj
  rw [k2] at this ⊢
  rw [show off + 32 * k * 2 + (i * 2 + j) = off + ((32 * k + i) * 2 + j) by omega, this]
  have e : (chk l k).getD i Itm.z = l.getD (32 * k + i) Itm.z := by
    unfold chk
    rw [List.getD_eq_getElem?_getD, List.getD_eq_getElem?_getD, List.getElem?_take_of_lt (by omega), List.getElem?_drop]
  rw [e]
theorem chk_all (l : List Rn) : (List.range (chN l.length)).flatMap (chk l) = l := by
  have key : ∀ k, (List.range k).flatMap (chk l) = l.take (32 * k) := by
    intro k
    induction k with
    | zero => simp
    | succ k ih =>
      rw [List.range_succ, List.flatMap_append, ih]
      simp only [List.flatMap_cons, List.flatMap_nil, List.append_nil]
      unfold chk
      rw [show 32 * (k + 1) = 32 * k + 32 by omega, List.take_add]
  rw [key, List.take_of_length_le (by unfold chN; omega)]
/-- What a round that appends a block leaves. -/
theorem bl_round {g off cap bs bn n0 nv B3 : Nat} {l : List Rn} {w W W5 w1 : World} {pre : List Nat} {x : Nat} {v rv : Value} {P : List (Value × List Rn)} {o : Obj} {g' c' n : Nat} (h : BlI g off cap bs bn n0 nv B3 l w pre W) (hnw : n0 ≤ w.heap.size) (hB3 : n0 ≤ B3) (hgt : ∃ cs, Blk W g 56 cs) (hbs : bs < nv) (hnv : n0 ≤ nv)
    (h5 : Below W.heap.size W W5) (hr5 : RR W5 rv (chk l x)) (hx : 0 < (chk l x).length)
    (hb : Blk W B3 89 #[v]) (hv : W.ownsRow nv 30 1 v pre.length (pvals P)) (hPl : P.length = pre.length) (hP : Parts W P) (hPa : pall P = pre.flatMap (chk l)) (hn : n = pre.length + 1)
    (hown : w1.ownsRow nv 30 1 (.slice (some ⟨g', 0, none⟩) n c') (pre.length + 1) (pvals P ++ [rv])) (hg : (W5.alloc o).grownBy w1 v.ownBlock) (B : Nat) :
    KeepsFrom B W (w1.setCell ⟨B3, 0, none⟩ (.slice (some ⟨g', 0, none⟩) n c')) ∧ BlI g off cap bs bn n0 nv B3 l w (pre ++ [x]) (w1.setCell ⟨B3, 0, none⟩ (.slice (some ⟨g', 0, none⟩) n c')) := by
  subst hn
  have vb : ∀ k ∈ v.ownBlock.toList, nv ≤ k ∧ ∃ cs, Blk W k 30 cs := fun k hk => own_ge hv (opt_mem hk)
  have f1 : Fr W w1 v.ownBlock.toList := ((Fr.of_below h5 v.ownBlock.toList).alloc o).trans (l' := v.ownBlock.toList) ⟨hg.os, hg.tape, hg.output, hg.size, fun k hk hl => hg.block k hk (fun e => hl (by rw [← e]; simp))⟩ (fun y hy => .inl hy)
  have f2 : Fr W (w1.setCell ⟨B3, 0, none⟩ (.slice (some ⟨g', 0, none⟩) (pre.length + 1) c')) (B3 :: v.ownBlock.toList) := (f1.mono (fun y hy => .inl (List.mem_cons_of_mem _ hy))).set (.inl List.mem_cons_self) 0 _
  have off' : ∀ {y T cs}, Blk W y T cs → T ≠ 89 → T ≠ 30 → y ∉ (B3 :: v.ownBlock.toList) := fun {y T cs} hy t1 t2 hm => by
    rcases List.mem_cons.1 hm with rfl | hm
    · exact hy.ty hb t1 rfl
    · obtain ⟨_, cs', hc⟩ := vb y hm; exact hy.ty hc t2 rfl
  have hb1 : Blk w1 B3 89 #[v] := ((hb.keep h5).alloc o).grown hg (fun e => by obtain ⟨_, cs, hc⟩ := vb B3 (by rw [← e]; simp); exact hc.ty hb (by decide) rfl)
  obtain ⟨gcs, hgcs⟩ := hgt
  refine ⟨kf_of_fr f2 (fun y hy => ?_), ⟨⟨?_, ?_⟩, ?_, ⟨_, P ++ [(rv, chk l x)], hb1.set 0 _, ?_, by simp [hPl], ?_, ?_⟩, bel_fr h.bel f2 (Nat.le_trans hnw h.bel.size) (fun y hy => ?_)⟩⟩
  · rcases List.mem_cons.1 hy with rfl | hy
    · exact .inr ⟨_, _, hb⟩
    · obtain ⟨_, cs, hc⟩ := vb y hy; exact .inr ⟨_, cs, hc⟩
  · exact h.ch.s.fr f2 (fun hm => (List.mem_cons.1 hm).elim (fun e => h.ch.s.ty hb (by decide) e) (fun hm => by have := (vb _ hm).1; omega))
  · exact h.ch.n.fr f2 (off' h.ch.n (by decide) (by decide))
  · exact its_same h.its f2.size (f2.block g hgcs.lt (off' hgcs (by decide) (by decide)))
  · rw [List.length_append, show pvals (P ++ [(rv, chk l x)]) = pvals P ++ [rv] by simp [pvals]]
    refine own_same hown fun k cs e _ hk => Below.heap_setCell _ _ _ _ ?_
    show k ≠ B3
    exact hk.ty hb1 (by decide)
  · intro y hy
    rcases List.mem_append.1 hy with hy | hy
    · obtain ⟨q1, q2⟩ := hP y hy
      exact ⟨q1.same fun k cs _ hk => f2.block k hk.lt (off' hk (by decide) (by decide)), q2⟩
    · simp at hy
      subst hy
      refine ⟨?_, hx⟩
      have r1 : RR w1 rv (chk l x) := hr5.same fun k cs _ hk => by
        have := (hk.alloc o).grown hg (fun e => by
          obtain ⟨_, cs', hc⟩ := vb k (by rw [← e]; simp)
          exact hk.ty (hc.keep h5) (by decide) rfl)
        unfold Blk at this hk
        rw [this, hk]
      exact r1.same fun k cs _ hk => Below.heap_setCell _ _ _ _ (by show k ≠ B3; exact hk.ty hb1 (by decide))
  · have : pall (P ++ [(rv, chk l x)]) = pall P ++ chk l x := by simp [pall]
    rw [this, hPa, List.flatMap_append]; simp
  · rcases List.mem_cons.1 hy with rfl | hy
    · exact hB3
    · exact Nat.le_trans hnv (vb y hy).1
theorem chunk_mk (p : Option Addr) (n c : Nat) (w : World) :
    Calls Try.prog 72 #[.slice p n c, .int .i64 32] w fun e w' => e = .returned (.func (.func 94) #[] #[.pointer (some ⟨w.heap.size, 0, none⟩), .pointer (some ⟨w.heap.size + 1, 0, none⟩)]) ∧ w' = (w.alloc (.cells #[.slice p n c] 30)).alloc (.cells #[.int .i64 32] 3) := by
  go_enter Try.func72, Try.ntmps72
  go_wp2
  go_ret
  exact ⟨rfl, rfl⟩
theorem own_base {T : TypeId} {w : World} {v : Value} {n k B B' : Nat} {xs : List Value} (h : w.ownsRow B T k v n xs) (hB : B' ≤ B) : w.ownsRow B' T k v n xs := by
  refine ⟨h.1, ?_⟩
  rcases h.2 with c | ⟨g, cap, cur, e, hb, r⟩
  · exact .inl c
  · exact .inr ⟨g, cap, cur, e, Nat.le_trans hB hb, r⟩

set_option maxRecDepth 100000 in
set_option maxHeartbeats 2000000 in
theorem blocks_many (p : Option Addr) (cap : Nat) (L : List Rn) (w : World) (h : RR w (.slice p L.length cap) L) (hl : 64 < L.length) (hm : L.length ≤ 1000) :
    Calls Try.prog 48 #[.slice p L.length cap] w (BlkPost w L) := by
  obtain ⟨g, cap0, e, hg⟩ := h.form1 (by omega)
  injection e with e1 _ e3
  subst e1 e3
  obtain ⟨_, cur, hcur, hcc, hcm, _⟩ := h.inv
  have hcm' : cap ≤ 9223372036854775807 := by unfold maxLen at hcm; omega
  obtain ⟨i0, hi, hz0, hz1, hz2⟩ := info_parts sl_info
  have HI := Lib.hid hi
  have HZ0 := Lib.hid hz0
  have HZ1 := Lib.hid hz1
  have HZ2 := Lib.hid hz2
  have HIt := Lib.hid h.its
  have HCu := Lib.hid hcur
  have d64 : decide ((L.length : Int) ≤ 64) = false := decide_eq_false (by omega)
  have HSeq := Lib.hid (fun bs bn => chunk_seq 5 g 0 cap bs bn L (by omega) hcc hcm' hm)
  have HC := Lib.hid (chunk_mk (some ⟨g, 0, none⟩) L.length cap (w.alloc (.cells #[.slice none 0 0] 89)))
  have hL1 : chN L.length ≤ 1000 := by unfold chN; omega
  have hL0 : 0 < chN L.length := by unfold chN; omega
  have HL1 := Lib.hid hL1
  have HL0 := Lib.hid hL0
  have hgl := hg
  clear hi hz0 hz1 hz2 h hcur hcm hcc hcm' hL1 hL0
  refine (callsIn_wide (n := 6)).1 ?_
  refine callsIn_of_wp_marks Try.func48 rfl trivial ?_ rfl
  simp only [Try.ntmps48, List.size_toArray, List.length_cons, List.length_nil, Nat.reduceAdd, Nat.reduceSub, Array.replicate_succ, Array.replicate_zero, List.push_toArray, List.append_toArray, List.nil_append, List.cons_append]
  gi_wp2_with fail
  refine ⟨trivial, ?_⟩
  refine (callsIn_wide.2 HC.out).mono ?_
  rintro e w2 ⟨rfl, rfl⟩
  have s1 : (w.alloc (.cells #[.slice none 0 0] 89)).heap.size = w.heap.size + 1 := by simp
  rw [s1]
  have hB2 : Below w.heap.size w (((w.alloc (.cells #[.slice none 0 0] 89)).alloc (.cells #[.slice (some ⟨g, 0, none⟩) L.length cap] 30)).alloc (.cells #[.int .i64 32] 3)) := (((Below.refl _ _).alloc (Nat.le_refl _) _).alloc (by simp) _).alloc (by simp; omega) _
  have s2 : (((w.alloc (.cells #[.slice none 0 0] 89)).alloc (.cells #[.slice (some ⟨g, 0, none⟩) L.length cap] 30)).alloc (.cells #[.int .i64 32] 3)).heap.size = w.heap.size + 3 := by simp
  have hI0 : BlI g 0 cap (w.heap.size + 1) (w.heap.size + 1 + 1) w.heap.size (w.heap.size + 3) w.heap.size L w [] (((w.alloc (.cells #[.slice none 0 0] 89)).alloc (.cells #[.slice (some ⟨g, 0, none⟩) L.length cap] 30)).alloc (.cells #[.int .i64 32] 3)) := by
    refine ⟨⟨?_, ?_⟩, HIt.out.keep hB2, ⟨_, [], ((Blk.new _ _ _).alloc _).alloc _, World.ownsRow_nil _ _ _ _, rfl, (fun x hx => by cases hx), rfl⟩, hB2⟩
    · have := (Blk.new (w.alloc (.cells #[.slice none 0 0] 89)) 30 #[.slice (some ⟨g, 0, none⟩) L.length cap]).alloc (.cells #[.int .i64 32] 3)
      rw [s1] at this
      exact this
    · have := Blk.new ((w.alloc (.cells #[.slice none 0 0] 89)).alloc (.cells #[.slice (some ⟨g, 0, none⟩) L.length cap] 30)) 3 #[.int .i64 32]
      simpa using this
  have HCu2 := Lib.hid (HCu.out.keep hB2)
  have HI0 := Lib.hid hI0
  have HS2 := Lib.hid s2
  have HB2 := Lib.hid hB2
  clear hI0 s1 s2 hB2 HC
  generalize (((w.alloc (.cells #[.slice none 0 0] 89)).alloc (.cells #[.slice (some ⟨g, 0, none⟩) L.length cap] 30)).alloc (.cells #[.int .i64 32] 3)) = w3 at *
  generalize hn0 : w.heap.size = n0 at *
  have HN0 := Lib.hid hn0
  clear hn0
  gi_wp2_with fail
  refine wp_range1 (gf := 94) (lb := #[.pointer (some ⟨n0 + 1, 0, none⟩), .pointer (some ⟨n0 + 1 + 1, 0, none⟩)]) rfl (enters_of Try.func94 (by kernel_rfl) rfl) (HSeq.out (n0 + 1) (n0 + 1 + 1)) (fun _ => rfl)
    (BlI g 0 cap (n0 + 1) (n0 + 1 + 1) n0 (n0 + 3) n0 L w) (fun _ _ _ => False) (bli_own _ _ _ _ _ _ _ _ _ _ _ (by rw [HS2.out]; omega) (by rw [HN0.out]; exact Nat.le_refl _) (by rw [HS2.out]; omega)) (fun _ => ownFrom_pure _ _) (fun pre A h => h.ch) HI0.out
    (fun x => { tmps := #[.slice (some ⟨g, 0, none⟩) L.length cap, undef, .slice none 0 0, .pointer (some ⟨n0, 0, none⟩), .slice (some ⟨g, 32 * x * 2, none⟩) (chk L x).length (chk L x).length, .slice (some ⟨g, 0, none⟩) L.length cap, .int .i64 (L.length : Int), .bool false, undef, undef, .slice (some ⟨g, 0, none⟩) L.length cap, .func (.func 94) #[] #[.pointer (some ⟨n0 + 1, 0, none⟩), .pointer (some ⟨n0 + 1 + 1, 0, none⟩)], .slice (some ⟨g, 32 * x * 2, none⟩) (chk L x).length (chk L x).length, undef, undef, undef, undef, undef, undef], defers := [] })
    ?assign ?body ?done (fun D c pre W _ _ _ h _ => h.elim)
  case assign =>
    intro l x W K hK
    gi_wp2
    exact hK
  case body =>
    rintro l pre x W hI hok
    obtain ⟨v, P, hb, hv, hPl, hP, hPa⟩ := hI.box
    have hx32 : 32 * x < L.length := by
      have := hok.mem (List.mem_append_right _ List.mem_cons_self)
      have := List.mem_range.1 this
      unfold chN at this
      omega
    have hcl : (chk L x).length = min 32 (L.length - 32 * x) := by unfold chk; rw [List.length_take, List.length_drop]
    have hpl : pre.length + 1 ≤ 1000 := by
      have h1 := hok.length_le
      rw [List.length_append, List.length_range] at h1
      have := HL1.out
      have h3 : [x].length = 1 := rfl
      omega
    have HCl : Hid (Calls Try.prog 73 #[.slice (some ⟨g, 32 * x * 2, none⟩) (chk L x).length (chk L x).length] W.drew (NewRow W.drew (chk L x))) := Lib.hid (by
      have h1 := (chk_its hI.its hx32).keep ((Drawn.drew W).below _)
      rw [Nat.zero_add] at h1
      exact clone_any _ _ _ _ h1 (by omega) (by omega))
    have hgt : ∃ cs, Blk W g 56 cs := ⟨cur, HCu.out.below (by have := hI.bel; rw [← HN0.out] at this; exact this) (by rw [HN0.out]; omega)⟩
    obtain ⟨p0, c0, rfl⟩ : ∃ p c, v = .slice p pre.length c := by
      rcases hv.2 with ⟨e, k⟩ | ⟨g, cap, cur, e, _⟩
      · exact ⟨none, 0, by rw [e, k]⟩
      · exact ⟨_, cap, e⟩
    have HGt := Lib.hid hgt
    have HIx := Lib.hid hI
    have Hb := Lib.hid hb
    have HV := Lib.hid hv
    have HPl := Lib.hid hPl
    have HP := Lib.hid hP
    have HPa := Lib.hid hPa
    have HX0 : Hid (0 < (chk L x).length) := Lib.hid (by omega)
    have e0 : W.drew.cell? ⟨n0, 0, none⟩ = some (.slice p0 pre.length c0) := hb.drew.cell (i := 0) rfl
    have HNa : Hid (some n0 ≠ (Value.slice p0 pre.length c0).ownBlock) := Lib.hid (fun e => by obtain ⟨_, cs, hc⟩ := own_ge hv e.symm; exact hc.ty hb (by decide) rfl)
    clear hI hb hv hPl hP hPa hok hgt hx32 hcl HI0 HSeq
    gi_wp2
    refine region_held_round (S := fun _ => True) (by rintro ⟨_, _, h⟩; exact h) (by kernel_rfl) (by kernel_rfl) trivial (fun hHeld => ?_)
    simp only [List.size_toArray, List.length_cons, List.length_nil, Nat.reduceAdd, Array.replicate_succ, Array.replicate_zero, List.push_toArray, List.nil_append, List.cons_append]
    refine wpAnyH_take (i := 1) (oi := ⟨some 14, _, _, _, _, _⟩) (v := ?v1) rfl (by kernel_rfl) (by kernel_rfl) (by kernel_rfl) (fun _ _ _ h => h) (Or.inl ⟨by rfl, ?y1⟩) (by assumption) ?r1
    case y1 => intro w hSw; clear hSw; go_simp; (try with_reducible rfl)
    simp only [Act.put, List.setIfInBounds_toArray, List.set_cons_zero, List.set_cons_succ]
    refine wpAnyH_ready (rs := [0, 2]) (by kernel_rfl) (by simp) ?_
    refine AllReadyH.cons (o := ⟨some 13, _, _, _, _, _⟩) rfl (fun K hK => ?_) ?_
    · go_simp
      refine hK.out _ _ hHeld (fun hHeld => ?_)
      clear hK
      try simp only [List.setIfInBounds_toArray, List.set_cons_zero]
      refine wpAnyH_ready (rs := [2]) (by kernel_rfl) (by simp) ?_
      refine AllReadyH.cons (o := ⟨some 15, _, _, _, _, _⟩) rfl (fun K hK => ?_) AllReadyH.nil
      go_simp
      refine (HCl.out).mono ?_
      rintro e W5 ⟨rv, rfl, k1, k2, k3⟩
      obtain ⟨g2, c2, rfl, _⟩ := k1.form1 HX0.out
      have HB5 := Lib.hid (((Drawn.drew W).below W.heap.size).trans (k2.mono (Nat.le_refl _)))
      have HR5 := Lib.hid k1
      clear k1 k2 k3
      have e5 : W5.cell? ⟨n0, 0, none⟩ = some (.slice p0 pre.length c0) := (Hb.out.keep HB5.out).cell (i := 0) rfl
      have e6 : (W5.alloc (.cells #[(.slice (some ⟨g2, 0, none⟩) (chk L x).length c2)] 30)).cell? ⟨n0, 0, none⟩ = some (.slice p0 pre.length c0) := cell_al e5 _
      have HE6 := Lib.hid e6
      have HFa : Hid ((W5.alloc (.cells #[(.slice (some ⟨g2, 0, none⟩) (chk L x).length c2)] 30)).frozen? ⟨n0, 0, none⟩ = false) := Lib.hid (((Hb.out.keep HB5.out).alloc _).free 0)
      have HOw : Hid ((W5.alloc (.cells #[(.slice (some ⟨g2, 0, none⟩) (chk L x).length c2)] 30)).drew.ownsRow (n0 + 3) 30 1 (.slice p0 pre.length c0) pre.length (pvals P)) := Lib.hid (own_same HV.out fun k cs _ _ hk => (Below.heap_alloc _ _ _ (Nat.lt_of_lt_of_le hk.lt HB5.out.size)).trans (HB5.out.block k hk.lt))
      have HNw : Hid (Blk (W5.alloc (.cells #[(.slice (some ⟨g2, 0, none⟩) (chk L x).length c2)] 30)).drew W5.heap.size 30 #[(.slice (some ⟨g2, 0, none⟩) (chk L x).length c2)]) := Lib.hid (Blk.new _ _ _).drew
      have HBs : Hid (n0 + 3 ≤ W5.heap.size) := Lib.hid (by have h1 := HIx.out.ch.n.lt; have h2 := HB5.out.size; have h3 := HIx.out.ch.s.lt; omega)
      dsimp only
      refine hK.out _ _ hHeld (fun hHeld => ?_)
      clear hK
      try simp only [List.setIfInBounds_toArray, List.set_cons_zero, List.set_cons_succ]
      refine wpAnyH_ready (rs := [3]) (by kernel_rfl) (by simp) ?_
      refine AllReadyH.cons (o := ⟨some 16, _, _, _, _, _⟩) rfl (fun K hK => ?_) AllReadyH.nil
      go_simp
      refine hK.out _ _ hHeld (fun hHeld => ?_)
      clear hK
      try simp only [List.setIfInBounds_toArray, List.set_cons_zero, List.set_cons_succ]
      refine wpAnyH_ready (rs := [4]) (by kernel_rfl) (by simp) ?_
      refine AllReadyH.cons (o := ⟨some 17, _, _, _, _, _⟩) rfl (fun K hK => ?_) AllReadyH.nil
      ((refine step_append_lies _ (by rfl) _ _ _ (by rfl) (n0 + 3) 30 i0 (.slice none 0 0) 1 24 Try.underlying89 HI.out HZ0.out HZ1.out HZ2.out rfl (by decide) _ pre.length (pvals P) (by rfl) HOw.out ⟨W5.heap.size, 0, none⟩ 1 1 [(.slice (some ⟨g2, 0, none⟩) (chk L x).length c2)] (by rfl) (by rfl) (World.news_of_block HNw.out) (by simp [Value.oneCell']) (by decide) (by unfold maxLen; omega) (by omega) (Nat.le_trans HBs.out (by simp)) (W5.heap.size + 1) (by simp) ?_); intro g5 cap5 w7 hown hgrow hat hltg)
      have HOn := Lib.hid hown
      have HGr := Lib.hid hgrow
      clear hown hgrow hat
      have u1 := (HGr.out.cell_far ⟨n0, 0, none⟩ (World.block_lt_of_cell? _ _ HE6.out) HNa.out).trans HE6.out
      have u2 := (HGr.out.frozen_far ⟨n0, 0, none⟩ (World.block_lt_of_cell? _ _ HE6.out) HNa.out).trans HFa.out
      refine hK.out _ _ hHeld (fun hHeld => ?_)
      clear hK
      try simp only [List.setIfInBounds_toArray, List.set_cons_zero, List.set_cons_succ]
      refine wpAnyH_ready (rs := [5]) (by kernel_rfl) (by simp) ?_
      refine AllReadyH.cons (o := ⟨none, _, _, _, _, _⟩) rfl (fun K hK => ?_) AllReadyH.nil
      go_simp
      refine hK.out _ _ hHeld (fun hHeld => ?_)
      clear hK
      try simp only [List.setIfInBounds_toArray, List.set_cons_zero, List.set_cons_succ]
      refine wpAnyH_done (by kernel_rfl) ?_ _
      exact bl_round HIx.out (by rw [HN0.out]; exact Nat.le_refl _) (Nat.le_refl _) HGt.out (by omega) (by omega) HB5.out HR5.out HX0.out Hb.out HV.out HPl.out HP.out HPa.out rfl HOn.out HGr.out _
    refine AllReadyH.cons (o := ⟨some 15, _, _, _, _, _⟩) rfl (fun K hK => ?_) AllReadyH.nil
    go_simp
    refine (HCl.out).mono ?_
    rintro e W5 ⟨rv, rfl, k1, k2, k3⟩
    obtain ⟨g2, c2, rfl, _⟩ := k1.form1 HX0.out
    have HB5 := Lib.hid (((Drawn.drew W).below W.heap.size).trans (k2.mono (Nat.le_refl _)))
    have HR5 := Lib.hid k1
    clear k1 k2 k3
    have e5 : W5.cell? ⟨n0, 0, none⟩ = some (.slice p0 pre.length c0) := (Hb.out.keep HB5.out).cell (i := 0) rfl
    have e6 : (W5.alloc (.cells #[(.slice (some ⟨g2, 0, none⟩) (chk L x).length c2)] 30)).cell? ⟨n0, 0, none⟩ = some (.slice p0 pre.length c0) := cell_al e5 _
    have HE6 := Lib.hid e6
    have HFa : Hid ((W5.alloc (.cells #[(.slice (some ⟨g2, 0, none⟩) (chk L x).length c2)] 30)).frozen? ⟨n0, 0, none⟩ = false) := Lib.hid (((Hb.out.keep HB5.out).alloc _).free 0)
    have HOw : Hid ((W5.alloc (.cells #[(.slice (some ⟨g2, 0, none⟩) (chk L x).length c2)] 30)).drew.ownsRow (n0 + 3) 30 1 (.slice p0 pre.length c0) pre.length (pvals P)) := Lib.hid (own_same HV.out fun k cs _ _ hk => (Below.heap_alloc _ _ _ (Nat.lt_of_lt_of_le hk.lt HB5.out.size)).trans (HB5.out.block k hk.lt))
    have HNw : Hid (Blk (W5.alloc (.cells #[(.slice (some ⟨g2, 0, none⟩) (chk L x).length c2)] 30)).drew W5.heap.size 30 #[(.slice (some ⟨g2, 0, none⟩) (chk L x).length c2)]) := Lib.hid (Blk.new _ _ _).drew
    have HBs : Hid (n0 + 3 ≤ W5.heap.size) := Lib.hid (by have h1 := HIx.out.ch.n.lt; have h2 := HB5.out.size; have h3 := HIx.out.ch.s.lt; omega)
    dsimp only
    refine hK.out _ _ hHeld (fun hHeld => ?_)
    clear hK
    try simp only [List.setIfInBounds_toArray, List.set_cons_zero, List.set_cons_succ]
    refine wpAnyH_ready (rs := [0, 3]) (by kernel_rfl) (by simp) ?_
    refine AllReadyH.cons (o := ⟨some 13, _, _, _, _, _⟩) rfl (fun K hK => ?_) ?_
    · go_simp
      refine hK.out _ _ hHeld (fun hHeld => ?_)
      clear hK
      try simp only [List.setIfInBounds_toArray, List.set_cons_zero]
      refine wpAnyH_ready (rs := [3]) (by kernel_rfl) (by simp) ?_
      refine AllReadyH.cons (o := ⟨some 16, _, _, _, _, _⟩) rfl (fun K hK => ?_) AllReadyH.nil
      go_simp
      refine hK.out _ _ hHeld (fun hHeld => ?_)
      clear hK
      try simp only [List.setIfInBounds_toArray, List.set_cons_zero, List.set_cons_succ]
      refine wpAnyH_ready (rs := [4]) (by kernel_rfl) (by simp) ?_
      refine AllReadyH.cons (o := ⟨some 17, _, _, _, _, _⟩) rfl (fun K hK => ?_) AllReadyH.nil
      ((refine step_append_lies _ (by rfl) _ _ _ (by rfl) (n0 + 3) 30 i0 (.slice none 0 0) 1 24 Try.underlying89 HI.out HZ0.out HZ1.out HZ2.out rfl (by decide) _ pre.length (pvals P) (by rfl) HOw.out ⟨W5.heap.size, 0, none⟩ 1 1 [(.slice (some ⟨g2, 0, none⟩) (chk L x).length c2)] (by rfl) (by rfl) (World.news_of_block HNw.out) (by simp [Value.oneCell']) (by decide) (by unfold maxLen; omega) (by omega) (Nat.le_trans HBs.out (by simp)) (W5.heap.size + 1) (by simp) ?_); intro g5 cap5 w7 hown hgrow hat hltg)
      have HOn := Lib.hid hown
      have HGr := Lib.hid hgrow
      clear hown hgrow hat
      have u1 := (HGr.out.cell_far ⟨n0, 0, none⟩ (World.block_lt_of_cell? _ _ HE6.out) HNa.out).trans HE6.out
      have u2 := (HGr.out.frozen_far ⟨n0, 0, none⟩ (World.block_lt_of_cell? _ _ HE6.out) HNa.out).trans HFa.out
      refine hK.out _ _ hHeld (fun hHeld => ?_)
      clear hK
      try simp only [List.setIfInBounds_toArray, List.set_cons_zero, List.set_cons_succ]
      refine wpAnyH_ready (rs := [5]) (by kernel_rfl) (by simp) ?_
      refine AllReadyH.cons (o := ⟨none, _, _, _, _, _⟩) rfl (fun K hK => ?_) AllReadyH.nil
      go_simp
      refine hK.out _ _ hHeld (fun hHeld => ?_)
      clear hK
      try simp only [List.setIfInBounds_toArray, List.set_cons_zero, List.set_cons_succ]
      refine wpAnyH_done (by kernel_rfl) ?_ _
      exact bl_round HIx.out (by rw [HN0.out]; exact Nat.le_refl _) (Nat.le_refl _) HGt.out (by omega) (by omega) HB5.out HR5.out HX0.out Hb.out HV.out HPl.out HP.out HPa.out rfl HOn.out HGr.out _
    refine AllReadyH.cons (o := ⟨some 16, _, _, _, _, _⟩) rfl (fun K hK => ?_) AllReadyH.nil
    go_simp
    refine hK.out _ _ hHeld (fun hHeld => ?_)
    clear hK
    try simp only [List.setIfInBounds_toArray, List.set_cons_zero, List.set_cons_succ]
    refine wpAnyH_ready (rs := [0]) (by kernel_rfl) (by simp) ?_
    refine AllReadyH.cons (o := ⟨some 13, _, _, _, _, _⟩) rfl (fun K hK => ?_) AllReadyH.nil
    go_simp
    refine hK.out _ _ hHeld (fun hHeld => ?_)
    clear hK
    try simp only [List.setIfInBounds_toArray, List.set_cons_zero]
    refine wpAnyH_ready (rs := [4]) (by kernel_rfl) (by simp) ?_
    refine AllReadyH.cons (o := ⟨some 17, _, _, _, _, _⟩) rfl (fun K hK => ?_) AllReadyH.nil
    ((refine step_append_lies _ (by rfl) _ _ _ (by rfl) (n0 + 3) 30 i0 (.slice none 0 0) 1 24 Try.underlying89 HI.out HZ0.out HZ1.out HZ2.out rfl (by decide) _ pre.length (pvals P) (by rfl) HOw.out ⟨W5.heap.size, 0, none⟩ 1 1 [(.slice (some ⟨g2, 0, none⟩) (chk L x).length c2)] (by rfl) (by rfl) (World.news_of_block HNw.out) (by simp [Value.oneCell']) (by decide) (by unfold maxLen; omega) (by omega) (Nat.le_trans HBs.out (by simp)) (W5.heap.size + 1) (by simp) ?_); intro g5 cap5 w7 hown hgrow hat hltg)
    have HOn := Lib.hid hown
    have HGr := Lib.hid hgrow
    clear hown hgrow hat
    have u1 := (HGr.out.cell_far ⟨n0, 0, none⟩ (World.block_lt_of_cell? _ _ HE6.out) HNa.out).trans HE6.out
    have u2 := (HGr.out.frozen_far ⟨n0, 0, none⟩ (World.block_lt_of_cell? _ _ HE6.out) HNa.out).trans HFa.out
    refine hK.out _ _ hHeld (fun hHeld => ?_)
    clear hK
    try simp only [List.setIfInBounds_toArray, List.set_cons_zero, List.set_cons_succ]
    refine wpAnyH_ready (rs := [5]) (by kernel_rfl) (by simp) ?_
    refine AllReadyH.cons (o := ⟨none, _, _, _, _, _⟩) rfl (fun K hK => ?_) AllReadyH.nil
    go_simp
    refine hK.out _ _ hHeld (fun hHeld => ?_)
    clear hK
    try simp only [List.setIfInBounds_toArray, List.set_cons_zero, List.set_cons_succ]
    refine wpAnyH_done (by kernel_rfl) ?_ _
    exact bl_round HIx.out (by rw [HN0.out]; exact Nat.le_refl _) (Nat.le_refl _) HGt.out (by omega) (by omega) HB5.out HR5.out HX0.out Hb.out HV.out HPl.out HP.out HPa.out rfl HOn.out HGr.out _
  case done =>
    rintro D xs W hD hDl rfl hI hK
    have hP := (bli_own g 0 cap (n0 + 1) (n0 + 1 + 1) n0 (n0 + 3) n0 w3.heap.size L w (by rw [HS2.out]; omega) (by rw [HN0.out]; exact Nat.le_refl _) (by rw [HS2.out]; omega)).putObj (.deferred none) hI hD hK rfl
    obtain ⟨v, P, hb, hv, hPl, hPp, hPa⟩ := hI.box
    have c0 := hb.cell (i := 0) rfl
    have hv2 := ownsRow_putObj hv (.deferred none) hK rfl
    have hk := kept_grown (grownBy_putObj' W D (.deferred none)) (fun r e => by cases e; exact ⟨_, hK, rfl⟩)
    have HP2 := Lib.hid (hPp.same fun g cs hb => hk g _ cs hb)
    have HV2 := Lib.hid hv2
    have HP := Lib.hid hP.bel
    have HK := Lib.hid hK
    have HPl := Lib.hid hPl
    have HPa := Lib.hid hPa
    clear hI hb hv hv2 hP hD hDl hK HI0 HSeq hPl hPp hPa hk
    gi_wp2
    refine ⟨by simp, .inl ⟨_, _, rfl, run_takeDeferred HK.out, ?_⟩⟩
    have hlr : P.length = chN L.length := by rw [HPl.out, List.length_range]
    refine ⟨v, ?_, ⟨v, P, rfl, by rw [HN0.out, HPl.out]; exact own_base HV2.out (by omega), HP2.out, by rw [HPa.out]; exact chk_all L, by rw [hlr]; exact HL1.out, by rw [hlr]; exact HL0.out⟩, by rw [HN0.out]; exact HP.out⟩
    simp [results, Try.f48]
theorem blocks_all (p : Option Addr) (cap : Nat) (L : List Rn) (w : World) (h : RR w (.slice p L.length cap) L) (hp : 0 < L.length) (hm : L.length ≤ 1000) :
    Calls Try.prog 48 #[.slice p L.length cap] w (BlkPost w L) := by
  by_cases c : L.length ≤ 64
  · exact blocks_few (.slice p L.length cap) p cap L w h hp c
  · exact blocks_many p cap L w h (by omega) hm
end Go.Proofs.Ytfpopbhbhdhdnaa
