/- Clone over this translation. -/
import Derived.Test.YtfpopbhbhdhdnaaOf
set_option linter.unusedVariables false
namespace Go.Proofs.Ytfpopbhbhdhdnaa
open Go.RowKit Go.Shelf
attribute [local go_sem] Oper.semAt_some

/-- What Clone leaves. -/
structure ClonePost (w : World) (s : LS) (e : Ending) (w' : World) : Prop where
  at_ : ∃ nb rb g ks, e = .returned (.pointer (some ⟨nb, 0, none⟩)) ∧ LAt w' nb rb g { s with ks := ks } ∧ ({ s with ks := ks } : LS).ok ∧ outP ks = outP s.ks ∧ ∀ x ∈ blocksL nb rb g { s with ks := ks }, w.heap.size ≤ x
  bel : Below w.heap.size w w'
/-- The loop's state: so many were copied. -/
structure CkI (ks : List Kp) (b rb g bl br n0 nb nrb : Nat) (cells : Array Value) (w : World) (pre : List Kp) (W : World) : Prop where
  rd : RdR ks b rb g bl br 0 18446744073709551615 pre W
  hd : Blk W nb 61 cells
  cp : ∃ g' C, KRow W nrb g' (itemsK C) ∧ C.map Kp.p = pre.map Kp.p ∧ (∀ k ∈ C, k.gone = false ∧ Blk W k.b 66 (Kp.cells k.p false) ∧ n0 ≤ k.b) ∧ (C.map Kp.b).Nodup ∧ n0 ≤ g'
  bel : Below w.heap.size w W
theorem CkI.keepX {ks : List Kp} {b rb g bl br n0 nb nrb : Nat} {cells : Array Value} {w : World} {pre : List Kp} {W W' : World} (h : CkI ks b rb g bl br n0 nb nrb cells w pre W) (k : ∀ x T cs, Blk W x T cs → W'.heap[x]? = W.heap[x]?) (hb : Below w.heap.size w W') : CkI ks b rb g bl br n0 nb nrb cells w pre W' := by
  obtain ⟨g', C, h1, h2, h3, h4, h5⟩ := h.cp
  exact ⟨h.rd.keepX fun x T cs _ hb => k x T cs hb, by unfold Blk; rw [k _ _ _ h.hd]; exact h.hd, ⟨g', C, h1.blk2 fun x T cs _ hb => k x T cs hb, h2, fun y hy => ⟨(h3 y hy).1, by unfold Blk; rw [k _ _ _ (h3 y hy).2.1]; exact (h3 y hy).2.1, (h3 y hy).2.2⟩, h4, h5⟩, hb⟩
theorem CkI.below {ks : List Kp} {b rb g bl br n0 nb nrb : Nat} {cells : Array Value} {w : World} {pre : List Kp} {W W' : World} (h : CkI ks b rb g bl br n0 nb nrb cells w pre W) (k : Below W.heap.size W W') : CkI ks b rb g bl br n0 nb nrb cells w pre W' :=
  h.keepX (fun x T cs hb => k.block x hb.lt) (bel_to h.bel k h.bel.size)
theorem ck_own {ks : List Kp} {b rb g bl br n0 nb nrb : Nat} {cells : Array Value} {w : World} {B : Nat} (hB : w.heap.size ≤ B) : OwnFrom B (CkI ks b rb g bl br n0 nb nrb cells w) :=
  fun pre X Y row h hg hr => h.keepX (kept_grown hg (fun r e => (hr r e).2)) (h.bel.grown hg h.bel.size (fun k e => Nat.le_trans hB (hr k e).1))
/-- What a round leaves. -/
theorem ck_round {ks : List Kp} {b rb g bl br n0 nb nrb g' : Nat} {cells : Array Value} {w W w4 : World} {pre C : List Kp} {x : Kp} (hn0 : w.heap.size = n0) (hlt : b < n0 ∧ rb < n0 ∧ g < n0) (hnr : n0 ≤ nrb) (h : CkI ks b rb g bl br n0 nb nrb cells w pre W) 
    (h1 : KRow W nrb g' (itemsK C)) (h2 : C.map Kp.p = pre.map Kp.p) (h3 : ∀ k ∈ C, k.gone = false ∧ Blk W k.b 66 (Kp.cells k.p false) ∧ n0 ≤ k.b) (h4 : (C.map Kp.b).Nodup) (h5 : n0 ≤ g')
    (hp : KRPost (W.drew.alloc (.cells (Kp.cells x.p false) 66)) nrb g' (.returned (.tuple #[])) (itemsK C ++ [W.heap.size + 1]) (.returned (.tuple #[])) w4) (B : Nat) :
    KeepsFrom B W w4 ∧ CkI ks b rb g bl br n0 nb nrb cells w (pre ++ [x]) w4 := by
  obtain ⟨_, ⟨g2, k1, k2⟩, k3⟩ := hp
  have hsz : n0 ≤ W.heap.size := by rw [← hn0]; exact h.bel.size
  have f1 : Fr W w4 [nrb, g'] := (((Fr.refl W [nrb, g']).drawn (Drawn.drew _)).alloc _).trans k3 (fun y hy => .inl hy)
  obtain ⟨c1, hc1⟩ := h1.head
  obtain ⟨c2, hc2⟩ := h1.body
  obtain ⟨c0, hh, _⟩ := h.rd.rd.head
  obtain ⟨c3, hr1⟩ := h.rd.rd.row.head
  obtain ⟨c4, hr2⟩ := h.rd.rd.row.body
  have off : ∀ {z T cs}, Blk W z T cs → T ≠ 86 → T ≠ 59 → z ∉ [nrb, g'] := fun {z T cs} hz e1 e2 hm => by
    simp at hm
    rcases hm with rfl | rfl
    · exact hz.ty hc1 e1 rfl
    · exact hz.ty hc2 e2 rfl
  have rdb : ∀ y ∈ blocksR ks b rb g bl br, y ∉ [nrb, g'] := fun y hy hm => by
    simp only [blocksR, List.mem_cons, List.mem_map] at hy
    rcases hy with rfl | rfl | rfl | rfl | rfl | ⟨k, hk, rfl⟩
    · exact off h.rd.hl (by decide) (by decide) hm
    · exact off h.rd.hr (by decide) (by decide) hm
    · exact off hh (by decide) (by decide) hm
    · simp at hm
      rcases hm with e | e
      · omega
      · subst e; exact hr1.ty hc2 (by decide) rfl
    · simp at hm
      rcases hm with e | e
      · subst e; exact hr2.ty hc1 (by decide) rfl
      · omega
    · obtain ⟨gn, hg⟩ := h.rd.rd.kept k hk
      exact off hg (by decide) (by decide) hm
  have hnew : Blk w4 W.heap.size 66 (Kp.cells x.p false) := by
    have h0 : Blk (W.drew.alloc (.cells (Kp.cells x.p false) 66)) W.heap.size 66 (Kp.cells x.p false) := Blk.new W.drew _ _
    refine h0.fr k3 (fun hm => ?_)
    have l1 := hc1.lt
    have l2 := hc2.lt
    simp at hm
    omega
  refine ⟨kf_of_fr f1 (fun y hy => ?_), ⟨(h.rd.fr f1 rdb).more x, h.hd.fr f1 (off h.hd (by decide) (by decide)), ⟨g2, C ++ [⟨W.heap.size, x.p, false⟩], ?_, ?_, fun k hk => ?_, ?_, ?_⟩, ?_⟩⟩
  · simp at hy
    rcases hy with rfl | rfl
    · exact .inr ⟨_, _, hc1⟩
    · exact .inr ⟨_, _, hc2⟩
  · have e : itemsK (C ++ [(⟨W.heap.size, x.p, false⟩ : Kp)]) = itemsK C ++ [W.heap.size + 1] := by unfold itemsK; rw [List.map_append]; rfl
    rw [e]; exact k1
  · rw [List.map_append, List.map_append, h2]; rfl
  · rcases List.mem_append.1 hk with hk | hk
    · obtain ⟨a1, a2, a3⟩ := h3 k hk
      exact ⟨a1, a2.fr f1 (off a2 (by decide) (by decide)), a3⟩
    · simp at hk
      subst hk
      exact ⟨rfl, hnew, hsz⟩
  · rw [List.map_append, List.nodup_append]
    refine ⟨h4, by simp, fun a ha c hc => ?_⟩
    obtain ⟨k, hk, rfl⟩ := List.mem_map.1 ha
    have := (h3 k hk).2.1.lt
    simp at hc
    omega
  · rcases k2 with rfl | k2
    · exact h5
    · simp at k2; omega
  · exact h.bel.trans ⟨f1.os, f1.tape, f1.output, f1.size, fun k hk => f1.block k (Nat.lt_of_lt_of_le hk h.bel.size) (by simp; omega)⟩
theorem ck_end {b rb g bl br n0 nb nrb D : Nat} {s : LS} {w W : World} (hn0 : w.heap.size = n0) (hs : s.ok) (hnb : n0 ≤ nb) (hnr : n0 ≤ nrb) (h : CkI s.ks b rb g bl br n0 nb nrb (lcells nrb s) w (yK s.ks 0 18446744073709551615) W) (hD : n0 ≤ D) (hK : W.heap[D]? = some (.deferred (some []))) :
    ClonePost w s (.returned (.pointer (some ⟨nb, 0, none⟩))) (W.putObj D (.deferred none)) := by
  have h2 : CkI s.ks b rb g bl br n0 nb nrb (lcells nrb s) w (yK s.ks 0 18446744073709551615) (W.putObj D (.deferred none)) := (ck_own (Nat.le_of_eq hn0)).putObj (.deferred none) h hD hK rfl
  obtain ⟨g', C, k1, k2, k3, k4, k5⟩ := h2.cp
  rw [yK_all hs.pk] at k2
  have eo : outK C = C := List.filter_eq_self.2 fun k hk => by rw [(k3 k hk).1]; rfl
  have ep : outP C = outP s.ks := by unfold outP; rw [eo]; exact k2
  have el : (outK C).length = (outK s.ks).length := by
    have := congrArg List.length ep
    unfold outP at this
    rwa [List.length_map, List.length_map] at this
  have et : tot C = tot s.ks := by unfold tot; rw [ep]
  have hsub : (C.map Kp.p).Sublist (s.ks.map Kp.p) := by rw [k2]; exact (outK_sub s.ks).map Kp.p
  have mem : ∀ k ∈ C, ∃ y ∈ s.ks, y.p = k.p := fun k hk => by
    obtain ⟨y, hy, e⟩ := List.mem_map.1 (hsub.mem (List.mem_map_of_mem hk))
    exact ⟨y, hy, e⟩
  have pw : ∀ {r : Pk → Pk → Prop}, (s.ks.Pairwise fun x y => r x.p y.p) → C.Pairwise fun x y => r x.p y.p := fun {r} hr => by
    have h1 : (s.ks.map Kp.p).Pairwise r := List.pairwise_map.2 hr
    exact List.pairwise_map.1 (h1.sublist hsub)
  refine ⟨⟨nb, nrb, g', C, rfl, ⟨?_, k1, fun k hk => ?_⟩, ⟨k4, pw (r := fun x y => x.n < y.n) hs.rise, fun k hk => ?_, fun k hk => ?_, fun hm => pw (r := fun x y => x.sent ≤ y.sent) (hs.mono hm), hs.next, hs.reorder, hs.top, hs.un⟩, ep, fun x hx => ?_⟩, h2.bel⟩
  · have : lcells nrb { s with ks := C } = lcells nrb s := by unfold lcells; rw [show ({ s with ks := C } : LS).ks = C from rfl, el, et]
    rw [this]; exact h2.hd
  · obtain ⟨a1, a2, _⟩ := k3 k hk
    rw [a1]; exact a2
  · obtain ⟨y, hy, e⟩ := mem k hk
    rw [← e]; exact hs.lt y hy
  · obtain ⟨y, hy, e⟩ := mem k hk
    rw [← e]; exact hs.pk y hy
  · simp only [blocksL, List.mem_cons, List.mem_map] at hx
    rcases hx with rfl | rfl | rfl | ⟨k, hk, rfl⟩
    · omega
    · omega
    · omega
    · have := (k3 k hk).2.2; omega

set_option maxRecDepth 100000 in
set_option maxHeartbeats 4000000 in
theorem lclone_any (b rb g : Nat) (s : LS) (w : World) (h : LAt w b rb g s) (hs : s.ok) :
    Calls Try.prog 13 #[.pointer (some ⟨b, 0, none⟩)] w (ClonePost w s) := by
  have HH := Lib.hid h
  have HS := Lib.hid hs
  have HLt : Hid (b < w.heap.size ∧ rb < w.heap.size ∧ g < w.heap.size) := Lib.hid ⟨h.lt b (by simp [blocksL]), h.lt rb (by simp [blocksL]), h.lt g (by simp [blocksL])⟩
  obtain ⟨o, ho⟩ : ∃ o, (outK s.ks).length = o := ⟨_, rfl⟩
  obtain ⟨hi, hhi⟩ : ∃ hi, tot s.ks / M64 = hi := ⟨_, rfl⟩
  obtain ⟨lo, hlo⟩ : ∃ lo, tot s.ks % M64 = lo := ⟨_, rfl⟩
  have HLc : Hid (∀ r, lcells r s = #[.pointer (some ⟨r, 0, none⟩), .int .i64 (o : Int), .int .u64 (hi : Int), .int .u64 (lo : Int), .bool s.mixed, .int .u64 (s.reorder : Int), .int .u64 (s.next : Int), .int .u64 (s.top : Int), .bool s.topped]) := Lib.hid (fun r => by unfold lcells; rw [ho, hhi, hlo])
  have hd := h.head
  rw [HLc.out] at hd
  have c0 := hd.cell (i := 0) rfl
  have c1 := hd.cell (i := 1) rfl
  have c2 := hd.cell (i := 2) rfl
  have c3 := hd.cell (i := 3) rfl
  have c4 := hd.cell (i := 4) rfl
  have c5 := hd.cell (i := 5) rfl
  have c6 := hd.cell (i := 6) rfl
  have c7 := hd.cell (i := 7) rfl
  have c8 := hd.cell (i := 8) rfl
  have HN : Hid (∀ W, Calls Try.prog 19 #[.slice none 0 0] W (KMade W [])) := Lib.hid (fun W => k_new none 0 [] W (fun h => absurd h (by simp)) (by simp))
  clear h hs hd ho hhi hlo
  refine (callsIn_wide (n := 6)).1 ?_
  refine callsIn_of_wp_marks Try.func13 rfl trivial ?_ rfl
  simp only [Try.ntmps13, List.size_toArray, List.length_cons, List.length_nil, Nat.reduceAdd, Nat.reduceSub, Array.replicate_succ, Array.replicate_zero, List.push_toArray, List.append_toArray, List.nil_append, List.cons_append]
  gi_wp2_with fail
  have HB1 : Hid (Below w.heap.size w (w.alloc (.cells #[.pointer (some ⟨rb, 0, none⟩), .int .i64 (o : Int), .int .u64 (hi : Int), .int .u64 (lo : Int), .bool s.mixed, .int .u64 (s.reorder : Int), .int .u64 (s.next : Int), .int .u64 (s.top : Int), .bool s.topped] 61))) := Lib.hid ((Below.refl _ _).alloc (Nat.le_refl _) _)
  have P1 : Hid (Blk (w.alloc (.cells #[.pointer (some ⟨rb, 0, none⟩), .int .i64 (o : Int), .int .u64 (hi : Int), .int .u64 (lo : Int), .bool s.mixed, .int .u64 (s.reorder : Int), .int .u64 (s.next : Int), .int .u64 (s.top : Int), .bool s.topped] 61)) w.heap.size 61 (lcells rb s)) := Lib.hid (by rw [HLc.out]; exact Blk.new _ _ _)
  have hs1 : (w.alloc (.cells #[.pointer (some ⟨rb, 0, none⟩), .int .i64 (o : Int), .int .u64 (hi : Int), .int .u64 (lo : Int), .bool s.mixed, .int .u64 (s.reorder : Int), .int .u64 (s.next : Int), .int .u64 (s.top : Int), .bool s.topped] 61)).heap.size = w.heap.size + 1 := by simp
  have HS1 := Lib.hid hs1
  clear hs1 c0 c1 c2 c3 c4 c5 c6 c7 c8
  generalize (w.alloc (.cells #[.pointer (some ⟨rb, 0, none⟩), .int .i64 (o : Int), .int .u64 (hi : Int), .int .u64 (lo : Int), .bool s.mixed, .int .u64 (s.reorder : Int), .int .u64 (s.next : Int), .int .u64 (s.top : Int), .bool s.topped] 61)) = w1 at *
  generalize hn0 : w.heap.size = n0 at *
  have HN0 := Lib.hid hn0
  clear hn0
  refine ⟨trivial, ?_⟩
  refine (callsIn_wide.2 (HN.out w1)).mono ?_
  rintro e w2 ⟨⟨nrb, gk, rfl, hk, hx1, hx2⟩, hw2⟩
  have HB2 : Hid (Below n0 w w2) := Lib.hid (HB1.out.trans (hw2.mono (by rw [HS1.out]; omega)))
  have P2 := Lib.hid (P1.out.keep hw2)
  have HK2 := Lib.hid hk
  have HX1 : Hid (n0 ≤ nrb ∧ n0 ≤ gk) := Lib.hid (by have := HS1.out; omega)
  clear hk hx1 hx2 hw2 P1 HB1 HN HS1
  have s0 : w2.cell? ⟨n0, 0, none⟩ = some (.pointer (some ⟨rb, 0, none⟩)) := P2.out.cell (i := 0) rfl
  have s1 := P2.out.free 0
  gi_wp2_with fail
  have P3 : Hid (Blk (w2.setCell ⟨n0, 0, none⟩ (.pointer (some ⟨nrb, 0, none⟩))) n0 61 (lcells nrb s)) := Lib.hid (by
    have := P2.out.set 0 (.pointer (some ⟨nrb, 0, none⟩))
    rw [HLc.out] at this ⊢
    exact this)
  have F3 : Fr w2 (w2.setCell ⟨n0, 0, none⟩ (.pointer (some ⟨nrb, 0, none⟩))) [n0] := (Fr.refl _ _).set (c := n0) (.inl (by simp)) 0 _
  have HB3 : Hid (Below n0 w (w2.setCell ⟨n0, 0, none⟩ (.pointer (some ⟨nrb, 0, none⟩)))) := Lib.hid (HB2.out.trans ⟨F3.os, F3.tape, F3.output, F3.size, fun k hk => F3.block k (by have := HB2.out.size; rw [HN0.out] at this; omega) (by simp; omega)⟩)
  have HK3 : Hid (KRow (w2.setCell ⟨n0, 0, none⟩ (.pointer (some ⟨nrb, 0, none⟩))) nrb gk []) := Lib.hid (by
    obtain ⟨c1, hc1⟩ := HK2.out.head
    obtain ⟨c2, hc2⟩ := HK2.out.body
    exact HK2.out.fr F3 (by simpa using hc1.ty P2.out (by decide)) (by simpa using hc2.ty P2.out (by decide)))
  clear s0 s1 P2 HK2 HB2 F3
  generalize (w2.setCell ⟨n0, 0, none⟩ (.pointer (some ⟨nrb, 0, none⟩))) = w3 at *
  have HAl := Lib.hid (all_any b w3)
  unfold bfn at HAl
  refine ⟨trivial, ?_⟩
  refine (callsIn_wide.2 HAl.out).mono ?_
  rintro e w4 ⟨rfl, rfl⟩
  have bb := bw1_below w3 b 0 18446744073709551615
  have HB4 : Hid (Below w.heap.size w (bw1 w3 b 0 18446744073709551615)) := Lib.hid (by rw [HN0.out]; exact HB3.out.trans (bb.mono (by have := HB3.out.size; rw [HN0.out] at this; exact this)))
  have hI0 : CkI s.ks b rb g w3.heap.size (w3.heap.size + 1) n0 n0 nrb (lcells nrb s) w [] (bw1 w3 b 0 18446744073709551615) :=
    ⟨(HH.out.keep HB4.out).rdr (bw1_l _ _ _ _) (bw1_r _ _ _ _), P3.out.keep bb, ⟨gk, [], HK3.out.blk2 (fun x T cs _ hb => bb.block x hb.lt), rfl, (fun k h => by cases h), List.nodup_nil, HX1.out.2⟩, HB4.out⟩
  have HI0 := Lib.hid hI0
  clear hI0 P3 HK3 bb HAl HB3 HH
  generalize bw1 w3 b 0 18446744073709551615 = w5 at *
  generalize w3.heap.size + 1 = nr at *
  generalize w3.heap.size = nl at *
  gi_wp2_with fail
  have HSeq := Lib.hid (between_seq 5 b rb g nl nr 0 18446744073709551615 s.ks (by omega) HS.out.nodup HS.out.rise (Nat.le_trans (LS.len_le HS.out) HS.out.next))
  have HYl : Hid ((yK s.ks 0 18446744073709551615).length ≤ 500) := Lib.hid (Nat.le_trans (List.length_filter_le _ _) (Nat.le_trans (LS.len_le HS.out) HS.out.next))
  refine wp_range1 (gf := 52) (lb := #[.pointer (some ⟨nl, 0, none⟩), .pointer (some ⟨nr, 0, none⟩)]) rfl (enters_of Try.func52 (by kernel_rfl) rfl) HSeq.out (fun _ => rfl)
    (CkI s.ks b rb g nl nr n0 n0 nrb (lcells nrb s) w)
    (fun c pre W => False)
    (ck_own HB4.out.size) (fun c => ownFrom_pure _ _) (fun pre A h => h.rd) HI0.out
    (fun x => { tmps := #[.pointer (some ⟨b, 0, none⟩), undef, .pointer none, .pointer (some ⟨n0, 0, none⟩), .pointer (some ⟨x.b, 0, none⟩), .pointer (some ⟨b, 0, none⟩), .bool false, .pointer (some ⟨b, 0, none⟩), .pointer (some ⟨b, 0, none⟩), .agg #[.pointer (some ⟨rb, 0, none⟩), .int .i64 (o : Int), .int .u64 (hi : Int), .int .u64 (lo : Int), .bool s.mixed, .int .u64 (s.reorder : Int), .int .u64 (s.next : Int), .int .u64 (s.top : Int), .bool s.topped], .pointer (some ⟨nrb, 0, none⟩), .pointer (some ⟨n0, 0, none⟩), .pointer (some ⟨b, 0, none⟩), .func (.func 52) #[] #[.pointer (some ⟨nl, 0, none⟩), .pointer (some ⟨nr, 0, none⟩)], .pointer (some ⟨x.b, 0, none⟩), undef, undef, undef, undef, undef, undef, undef, undef, undef], defers := [] })
    ?assign ?body ?done ?stop
  case assign =>
    intro l x W K hK
    gi_wp2
    exact hK
  case body =>
    rintro l2 pre x W hI hok
    obtain ⟨gn, hxk⟩ := hI.rd.rd.kept x (List.mem_filter.1 (hok.mem (List.mem_append_right _ List.mem_cons_self))).1
    obtain ⟨g', C, k1, k2, k3, k4, k5⟩ := hI.cp
    have HI := Lib.hid hI
    have HX := Lib.hid hxk
    have HK1 := Lib.hid k1
    have HK2 := Lib.hid k2
    have HK3 := Lib.hid k3
    have HK4 := Lib.hid k4
    have HK5 := Lib.hid k5
    have HCl : Hid ((itemsK C).length ≤ 1000) := Lib.hid (by
      have h1 := hok.length_le
      have h2 := HYl.out
      have h3 := congrArg List.length k2
      rw [List.length_map, List.length_map] at h3
      rw [List.length_append] at h1
      unfold itemsK
      rw [List.length_map]
      omega)
    have HHd := Lib.hid hI.hd
    have HPu : Hid (Calls Try.prog 22 #[.pointer (some ⟨nrb, 0, none⟩), .pointer (some ⟨W.heap.size, 0, none⟩)] (W.drew.alloc (.cells (Kp.cells x.p false) 66)) (KRPost (W.drew.alloc (.cells (Kp.cells x.p false) 66)) nrb g' (.returned (.tuple #[])) (itemsK C ++ [W.heap.size + 1]))) := Lib.hid (k_push nrb g' (W.heap.size + 1) (itemsK C) _ ((k1.blk2 (fun x T cs _ hb => ((Drawn.drew W).below W.heap.size).block x hb.lt)).blk2 (fun x T cs _ hb => Below.heap_alloc _ _ _ hb.lt)) HCl.out)
    have HSp : Hid (∀ w4, KRPost (W.drew.alloc (.cells (Kp.cells x.p false) 66)) nrb g' (.returned (.tuple #[])) (itemsK C ++ [W.heap.size + 1]) (.returned (.tuple #[])) w4 → Blk w4 n0 61 (lcells nrb s) ∧ Blk w4 x.b 66 (Kp.cells x.p gn)) := Lib.hid (fun w4 hp => by
      obtain ⟨c1, hc1⟩ := k1.head
      obtain ⟨c2, hc2⟩ := k1.body
      have off : ∀ {z T cs}, Blk W z T cs → T ≠ 86 → T ≠ 59 → z ∉ [nrb, g'] := fun {z T cs} hz e1 e2 hm => by
        simp at hm
        rcases hm with rfl | rfl
        · exact hz.ty hc1 e1 rfl
        · exact hz.ty hc2 e2 rfl
      exact ⟨((hI.hd.drew).alloc _).fr hp.mv (off hI.hd (by decide) (by decide)), ((hxk.drew).alloc _).fr hp.mv (off hxk (by decide) (by decide))⟩)
    clear hI hok hxk k1 k2 k3 k4 k5 HSeq HYl HI0 HCl
    gi_wp2_with fail
    refine region_held_round (S := fun w' => Blk w' n0 61 (lcells nrb s) ∧ Blk w' x.b 66 (Kp.cells x.p gn)) (by rintro ⟨_, _, h⟩; exact h) (by kernel_rfl) (by kernel_rfl) ⟨HHd.out.drew, HX.out.drew⟩ (fun hHeld => ?_)
    simp only [List.size_toArray, List.length_cons, List.length_nil, Nat.reduceAdd, Array.replicate_succ, Array.replicate_zero, List.push_toArray, List.nil_append, List.cons_append]
    refine wpAnyH_take (i := 0) (oi := ⟨some 15, _, _, _, _, _⟩) (v := ?v1) rfl (by kernel_rfl) (by kernel_rfl) (by kernel_rfl) (fun _ _ _ h => h) (Or.inl ⟨by rfl, ?y1⟩) (by assumption) ?r1
    case y1 => intro w hSw; clear hSw; go_simp; (try with_reducible rfl)
    simp only [Act.put, List.setIfInBounds_toArray, List.set_cons_zero, List.set_cons_succ]
    refine wpAnyH_take (i := 1) (oi := ⟨some 16, _, _, _, _, _⟩) (v := ?v2) rfl (by kernel_rfl) (by kernel_rfl) (by kernel_rfl) (fun _ _ _ h => h) (Or.inl ⟨by rfl, ?y2⟩) (by assumption) ?r2
    case y2 => intro w hSw; obtain ⟨s0, s1⟩ := hSw; (have s2 : w.cell? ⟨n0, 0, none⟩ = some (.pointer (some ⟨nrb, 0, none⟩)) := s0.cell (i := 0) rfl); obtain ⟨q0, q1, q2, q3, q4, q5, q6, q7⟩ := kcell s1; go_simp; (try with_reducible rfl)
    simp only [Act.put, List.setIfInBounds_toArray, List.set_cons_zero, List.set_cons_succ]
    refine wpAnyH_take (i := 2) (oi := ⟨some 17, _, _, _, _, _⟩) (v := ?v3) rfl (by kernel_rfl) (by kernel_rfl) (by kernel_rfl) (fun _ _ _ h => h) (Or.inl ⟨by rfl, ?y3⟩) (by assumption) ?r3
    case y3 => intro w hSw; clear hSw; go_simp; (try with_reducible rfl)
    simp only [Act.put, List.setIfInBounds_toArray, List.set_cons_zero, List.set_cons_succ]
    refine wpAnyH_take (i := 3) (oi := ⟨some 18, _, _, _, _, _⟩) (v := ?v4) rfl (by kernel_rfl) (by kernel_rfl) (by kernel_rfl) (fun _ _ _ h => h) (Or.inl ⟨by rfl, ?y4⟩) (by assumption) ?r4
    case y4 => intro w hSw; clear hSw; go_simp; (try with_reducible rfl)
    simp only [Act.put, List.setIfInBounds_toArray, List.set_cons_zero, List.set_cons_succ]
    refine wpAnyH_take (i := 4) (oi := ⟨some 19, _, _, _, _, _⟩) (v := ?v5) rfl (by kernel_rfl) (by kernel_rfl) (by kernel_rfl) (fun _ _ _ h => h) (Or.inl ⟨by rfl, ?y5⟩) (by assumption) ?r5
    case y5 => intro w hSw; clear hSw; go_simp; (try with_reducible rfl)
    simp only [Act.put, List.setIfInBounds_toArray, List.set_cons_zero, List.set_cons_succ]
    refine wpAnyH_take (i := 5) (oi := ⟨some 20, _, _, _, _, _⟩) (v := ?v6) rfl (by kernel_rfl) (by kernel_rfl) (by kernel_rfl) (fun _ _ _ h => h) (Or.inl ⟨by rfl, ?y6⟩) (by assumption) ?r6
    case y6 => intro w hSw; obtain ⟨s0, s1⟩ := hSw; (have s2 : w.cell? ⟨n0, 0, none⟩ = some (.pointer (some ⟨nrb, 0, none⟩)) := s0.cell (i := 0) rfl); obtain ⟨q0, q1, q2, q3, q4, q5, q6, q7⟩ := kcell s1; go_simp; (try with_reducible rfl)
    simp only [Act.put, List.setIfInBounds_toArray, List.set_cons_zero, List.set_cons_succ]
    refine wpAnyH_ready (rs := [6]) (by kernel_rfl) (by simp) ?_
    refine AllReadyH.cons (o := ⟨some 21, _, _, _, _, _⟩) rfl (fun K hK => ?_) AllReadyH.nil
    go_simp
    refine hK.out _ _ hHeld (fun hHeld => ?_)
    clear hK
    try simp only [List.setIfInBounds_toArray, List.set_cons_zero, List.set_cons_succ]
    refine wpAnyH_ready (rs := [7]) (by kernel_rfl) (by simp) ?_
    refine AllReadyH.cons (o := ⟨some 22, _, _, _, _, _⟩) rfl (fun K hK => ?_) AllReadyH.nil
    go_simp
    refine hK.out _ _ ⟨hHeld.1.alloc _, hHeld.2.alloc _⟩ (fun hHeld => ?_)
    clear hK
    try simp only [List.setIfInBounds_toArray, List.set_cons_zero, List.set_cons_succ]
    refine wpAnyH_ready (rs := [8]) (by kernel_rfl) (by simp) ?_
    refine AllReadyH.cons (o := ⟨some 23, _, _, _, _, _⟩) rfl (fun K hK => ?_) AllReadyH.nil
    go_simp
    refine (HPu.out).mono ?_
    intro e w4 hp
    obtain rfl := hp.e
    have HPo := Lib.hid hp
    clear hp
    dsimp only
    refine hK.out _ _ (HSp.out _ HPo.out) (fun hHeld => ?_)
    clear hK
    try simp only [List.setIfInBounds_toArray, List.set_cons_zero, List.set_cons_succ]
    refine wpAnyH_done (by kernel_rfl) ?_ _
    gi_wp2
    exact ck_round HN0.out HLt.out HX1.out.1 HI.out HK1.out HK2.out HK3.out HK4.out HK5.out HPo.out _
  case done =>
    rintro D xs W hD hDl rfl hI hK
    have HK := Lib.hid hK
    have HE := Lib.hid (ck_end HN0.out HS.out (Nat.le_refl _) HX1.out.1 hI (by have := HB4.out.size; rw [HN0.out] at this; omega) hK)
    clear hI hK HI0 HSeq HYl
    gi_wp2
    refine ⟨by simp, .inl ⟨_, _, rfl, run_takeDeferred HK.out, ?_⟩⟩
    refine ⟨.pointer (some ⟨n0, 0, none⟩), ?_, HE.out⟩
    simp [results, Try.f13]
  case stop =>
    rintro D c pre W hD hDl hpre hF hK
    exact hF.elim
end Go.Proofs.Ytfpopbhbhdhdnaa
