/- Ack over this translation. -/
import Derived.Test.YtfpopbhbhdhdnaaOg
set_option linter.unusedVariables false
namespace Go.Proofs.Ytfpopbhbhdhdnaa
open Go.RowKit Go.Shelf
attribute [local go_sem] Oper.semAt_some

theorem fput_all (b : Nat) (l : List Rn) (p : Option Addr) (c : Nat) (w : World) (hb : Blk w b 91 #[.slice none 0 0]) (hl : Its w p l) (hm : l.length ≤ 1000) (ho : l.all okB = true) (hu : ∀ r ∈ l, r.u64) :
    Calls Try.prog 25 #[.pointer (some ⟨b, 0, none⟩), .slice p l.length c] w (PutNew w b l) := by
  by_cases hp : 0 < l.length
  · exact fput_ok b l p c w hb hl hp hm ho hu
  · obtain rfl : l = [] := List.eq_nil_of_length_eq_zero (by omega)
    refine (fput_nil b p c w).mono ?_
    rintro e w' ⟨rfl, k⟩
    exact ⟨rfl, ⟨_, [], hb.below k hb.lt, .inl ⟨rfl, rfl⟩, ⟨⟨List.Pairwise.nil, fun r h => by cases h⟩, fun n => by simp [inR_nil], by simp⟩, by simp⟩, Fr.of_below k _⟩
/-- What Ack leaves. -/
structure AckPost (w : World) (b rb g : Nat) (s : LS) (Q : List Rn) (e : Ending) (w' : World) : Prop where
  e : ∃ v, e = .returned (.tuple #[v, .int .i64 0]) ∧ PR w' v ((outP s.ks).filter (inQp Q)) ∧ ∀ k, v.ownBlock = some k → w.heap.size ≤ k
  led : LedEnd w b rb g s (fun s' => outP s'.ks = (outP s.ks).filter (fun p => !inQp Q p) ∧ s'.reorder = s.reorder ∧ s'.next = s.next ∧ s'.top = ((outP s.ks).filter (inQp Q)).foldl (fun t p => max t p.n) s.top ∧ s'.topped = (s.topped || !((outP s.ks).filter (inQp Q)).isEmpty)) w'
theorem AckPost.mark {w W : World} {b rb g D : Nat} {s : LS} {Q : List Rn} {e : Ending} (h : AckPost w b rb g s Q e W) (hD : w.heap.size ≤ D) (hK : W.heap[D]? = some (.deferred (some []))) : AckPost w b rb g s Q e (W.putObj D (.deferred none)) := by
  have hg := grownBy_putObj' W D (.deferred none)
  have hk := kept_grown hg (fun r e => by cases e; exact ⟨_, hK, rfl⟩)
  obtain ⟨v, h1, h2, h3⟩ := h.e
  obtain ⟨⟨rb', g', s', k1, k2, k3, k4⟩, k5⟩ := h.led
  exact ⟨⟨v, h1, h2.same (fun k cs _ hb => hk k _ cs hb), h3⟩, ⟨⟨rb', g', s', k1.keepX (fun x T cs _ hb => hk x T cs hb), k2, k3, k4⟩, fr_grown k5 hg (fun r e => by cases e; exact hD) (Nat.le_refl _)⟩⟩
theorem RR.form0 {w : World} {v : Value} {l : List Rn} (h : RR w v l) : ∃ p c, v = .slice p l.length c := by
  rcases h.form with ⟨e, k⟩ | ⟨g, cap, e, _⟩
  · exact ⟨none, 0, by rw [e, k]; rfl⟩
  · exact ⟨_, cap, e⟩
theorem marks_own {α : Type} {B B0 : Nat} {DS : List Nat} (h : ∀ D ∈ DS, D < B) : OwnFrom B (fun (_ : List α) W => Marks B0 DS W) := fun pre X Y row hm hg hr => ⟨hm.nodup, fun D hD => ⟨(hm.at_ D hD).1, (hg.block D (hm.lt D hD) (fun e => by have := (hr D e.symm).1; have := h D hD; omega)).trans (hm.at_ D hD).2⟩⟩
/-- A round's end. -/
theorem ack_round {w W8 W9 : World} {b rb g n8 : Nat} {B0 DS : List Nat} {s : LS} {A : List Kp} {x : Kp} {Bx : World → Prop} (hB : BoxK Bx) (hb : b ∈ B0) (h : TkS w b rb g n8 B0 ((s.ack A).take [x.b]) (A.map Kp.p ++ [x.p]) Bx W9) (hk : ∀ B, KeepsFrom B W8 W9) (hm : Marks w.heap.size DS W8) (B : Nat) :
    KeepsFrom B W8 ((W9.drew.setCell ⟨b, 7, none⟩ (.int .u64 (max ((s.ack A).top : Int) (x.p.n : Int)))).setCell ⟨b, 8, none⟩ (.bool true)) ∧
      TkS w b rb g n8 B0 (s.ack (A ++ [x])) ((A ++ [x]).map Kp.p) Bx ((W9.drew.setCell ⟨b, 7, none⟩ (.int .u64 (max ((s.ack A).top : Int) (x.p.n : Int)))).setCell ⟨b, 8, none⟩ (.bool true)) ∧
      Marks w.heap.size DS ((W9.drew.setCell ⟨b, 7, none⟩ (.int .u64 (max ((s.ack A).top : Int) (x.p.n : Int)))).setCell ⟨b, 8, none⟩ (.bool true)) := by
  have hd := (Drawn.drew W9).below W9.heap.size
  obtain ⟨h1, h2⟩ := (h.below hB hd).topW hB hb (max (s.ack A).top x.p.n)
  rw [LS.ack_snoc] at h1
  unfold topW at h1 h2
  have em : ((max (s.ack A).top x.p.n : Nat) : Int) = max ((s.ack A).top : Int) (x.p.n : Int) := by omega
  rw [em] at h1 h2
  have kk : ∀ B, KeepsFrom B W8 ((W9.drew.setCell ⟨b, 7, none⟩ (.int .u64 (max ((s.ack A).top : Int) (x.p.n : Int)))).setCell ⟨b, 8, none⟩ (.bool true)) := fun B => (hk B).trans ((kf_of_fr (Fr.of_below hd []) (fun y hy => by cases hy)).trans (h2 B))
  refine ⟨kk B, ?_, hm.keep (kk _)⟩
  rw [List.map_append]
  exact h1
theorem LS.ack_ks2 (s : LS) (A pre : List Kp) : (s.ack (A ++ pre)).ks = markK (pre.map Kp.b) (s.ack A).ks := by rw [LS.ack_ks, LS.ack_ks, List.map_append, markK_append]
theorem AK_zero (s : LS) (Q : List Rn) : AK s (Q.take 0) = [] := by
  unfold AK inQp
  simp
theorem ack_map {s : LS} {Q : List Rn} : (AK s Q).map Kp.p = (outP s.ks).filter (inQp Q) := outP_filter s (inQp Q)
theorem ack_top {A : List Kp} : ∀ t : Nat, A.foldl (fun t k => max t k.p.n) t = (A.map Kp.p).foldl (fun t p => max t p.n) t := by
  induction A with
  | nil => intro t; rfl
  | cons x r ih => intro t; exact ih _
/-- What the loop leaves, behind narrow. -/
theorem ack_end {w W W2 : World} {b rb g n4 : Nat} {s : LS} {Bx : World → Prop} {v : Value} {Q : List Rn} (hs : s.ok)
    (h : TkS w b rb g n4 (blocksL b rb g s) (s.ack (AK s Q)) ((AK s Q).map Kp.p) Bx W) (hv2 : PR W v ((AK s Q).map Kp.p)) (hv3 : ∀ k, v.ownBlock = some k → w.heap.size ≤ k)
    (hn : NarPost W b rb g (s.ack (AK s Q)) (.returned (.tuple #[])) W2) : AckPost w b rb g s Q (.returned (.tuple #[v, .int .i64 0])) W2 := by
  obtain ⟨rb', g', ks', n1, n2, n3, n4'⟩ := hn.led
  have eb : blocksL b rb g (s.ack (AK s Q)) = blocksL b rb g s := by unfold blocksL; rw [LS.ack_ks, markK_b]
  rw [eb] at n4'
  have hok := LS.sub_ok (LS.ack_ok hs (AK_sub s Q)) n2
  have hfr : Fr w W2 (blocksL b rb g s) := h.fr.trans hn.fr (fun x hx => .inl (by rw [eb] at hx; exact hx))
  have e1 : outP ks' = (outP s.ks).filter (fun p => !inQp Q p) := by
    unfold outP
    rw [n3]
    exact outP_take hs (inQp Q)
  have v2 : PR W2 v ((AK s Q).map Kp.p) := hv2.fr hn.fr (fun k e => by
    obtain ⟨cs, hc⟩ := hv2.blk e
    exact h.led.off hc (by decide) (by decide) (by decide) (by decide))
  have hsz := h.fr.size
  rw [ack_map] at v2
  refine ⟨⟨v, rfl, v2, hv3⟩, ⟨⟨rb', g', (s.ack (AK s Q)).with_ ks', n1, hok, ⟨e1, rfl, rfl, ?_, ?_⟩, fun x hx => ?_⟩, hfr⟩⟩
  · show (AK s Q).foldl (fun t k => max t k.p.n) s.top = _
    rw [ack_top, ack_map]
  · show (s.topped || !(AK s Q).isEmpty) = _
    rw [← ack_map, List.isEmpty_map]
  rcases n4' x hx with c | c
  · exact .inl c
  · right; omega
theorem AK_prefix {s : LS} {Q : List Rn} {k fr to : Nat} {pre : List Kp} {x : Kp} (h : pre ++ [x] <+: yK (s.ack (AK s (Q.take k))).ks fr to) (hs : s.ok) : ∀ y ∈ AK s (Q.take k) ++ (pre ++ [x]), y ∈ s.ks := by
  intro y hy
  rcases List.mem_append.1 hy with hy | hy
  · exact AK_sub s _ y hy
  · have hm := List.mem_filter.1 (h.mem hy)
    obtain ⟨z, hz, e1, e2, e3⟩ := markK_mem hm.1
    have hg : y.gone = false := by have := hm.2; simp [inK] at this; exact this.2
    rw [hg] at e3
    have hzg : z.gone = false := by
      cases hc : z.gone
      · rfl
      · rw [hc] at e3; simp at e3
    have : z = y := by cases z; cases y; simp_all
    exact this ▸ hz

set_option maxRecDepth 100000 in
set_option maxHeartbeats 4000000 in
theorem ack_any (b rb g : Nat) (p : Option Addr) (c : Nat) (l : List Rn) (s : LS) (w : World) (h : LAt w b rb g s) (hs : s.ok) (hl : Its w p l) (hm : l.length ≤ 1000) (ho : l.all okB = true) (hu : ∀ r ∈ l, r.u64) :
    Calls Try.prog 9 #[.pointer (some ⟨b, 0, none⟩), .slice p l.length c] w fun e w' => ∃ Q, Puts [] l Q ∧ AckPost w b rb g s Q e w' := by
  have HH := Lib.hid h
  have HS := Lib.hid hs
  have HI := Lib.hid hl
  have HN : Hid (∀ W, Calls Try.prog 24 #[] W fun e w' => e = .returned (.pointer (some ⟨W.heap.size, 0, none⟩)) ∧ Blk w' W.heap.size 91 #[.slice none 0 0] ∧ Below W.heap.size W w') := Lib.hid fset_New
  have HPt := Lib.hid (fun bb W (k1 : Blk W bb 91 #[.slice none 0 0]) (k2 : Its W p l) => fput_all bb l p c W k1 k2 hm ho hu)
  have HM := Lib.hid hm
  clear h hs hl ho hu hm
  generalize hll : l.length = ll at *
  have HLL := Lib.hid hll
  clear hll
  refine (callsIn_wide (n := 6)).1 ?_
  refine callsIn_of_wp_marks Try.func9 rfl trivial ?_ rfl
  simp only [Try.ntmps9, List.size_toArray, List.length_cons, List.length_nil, Nat.reduceAdd, Nat.reduceSub, Array.replicate_succ, Array.replicate_zero, List.push_toArray, List.append_toArray, List.nil_append, List.cons_append]
  gi_wp2_with fail
  have HB1 : Hid (Below w.heap.size w (w.alloc (.cells #[.pointer (some ⟨b, 0, none⟩)] 26))) := Lib.hid ((Below.refl _ _).alloc (Nat.le_refl _) _)
  have Q0 : Hid (Blk (w.alloc (.cells #[.pointer (some ⟨b, 0, none⟩)] 26)) w.heap.size 26 #[.pointer (some ⟨b, 0, none⟩)]) := Lib.hid (Blk.new _ _ _)
  generalize (w.alloc (.cells #[.pointer (some ⟨b, 0, none⟩)] 26)) = w1 at *
  generalize hn0 : w.heap.size = n0 at Q0 ⊢
  have HN0 := Lib.hid hn0
  clear hn0
  refine ⟨trivial, ?_⟩
  refine (callsIn_wide.2 (HN.out w1)).mono ?_
  rintro e w2 ⟨rfl, hb, hbe⟩
  have HB2 := Lib.hid (bel_to HB1.out hbe HB1.out.size)
  have P0 := Lib.hid (Q0.out.keep hbe)
  have PS := Lib.hid hb
  have HSz : Hid (w.heap.size ≤ w1.heap.size) := Lib.hid HB1.out.size
  clear hb hbe Q0 HB1 HN
  generalize w1.heap.size = ns at *
  gi_wp2_with fail
  refine ⟨trivial, ?_⟩
  refine (callsIn_wide.2 (HPt.out ns w2 PS.out (HI.out.keep HB2.out))).mono ?_
  rintro e w3 ⟨rfl, ⟨vs, Q, hb3, hs3, hpu, hle⟩, hfr⟩
  have R0 := Lib.hid (P0.out.fr hfr (by simpa using P0.out.ty PS.out (by decide)))
  have HB3 : Hid (Below w.heap.size w w3) := Lib.hid (HB2.out.trans ⟨hfr.os, hfr.tape, hfr.output, hfr.size, fun k hk => hfr.block k (Nat.lt_of_lt_of_le hk HB2.out.size) (by simp; have := HSz.out; omega)⟩)
  have HPu := Lib.hid hpu
  have HQl : Hid (Q.length ≤ 1000) := Lib.hid (by have := HLL.out; have := HM.out; omega)
  have HAl := Lib.hid (fun W (k : Below w3.heap.size w3 W) => fset_All ns vs Q W (hb3.keep k) (by
    rcases hs3 with ⟨e1, e2⟩ | ⟨P, h1, h2, h3, h4, h5⟩
    · exact .inl ⟨e1, e2⟩
    · exact .inr ⟨P, own1_keep h1 (fun g cs _ hb => k.block g hb.lt), h2.keep k, h3, h4, h5⟩) HQl.out)
  clear hb3 hs3 hpu hle hfr P0 PS HB2 HPt HI HM HLL
  have c0 := (R0.out.alloc (.cells #[.slice none 0 0] 29)).cell (i := 0) rfl
  gi_wp2_with fail
  have f2 : Below w3.heap.size w3 (w3.alloc (.cells #[.slice none 0 0] 29)) := (Below.refl _ _).alloc (Nat.le_refl _) _
  have S0 := Lib.hid (R0.out.keep f2)
  have S8 : Hid (Blk (w3.alloc (.cells #[.slice none 0 0] 29)) w3.heap.size 29 #[.slice none 0 0]) := Lib.hid (Blk.new _ _ _)
  have BA : Hid (Below w3.heap.size w3 (w3.alloc (.cells #[.slice none 0 0] 29))) := Lib.hid f2
  have hn8 : w.heap.size ≤ w3.heap.size := HB3.out.size
  generalize (w3.alloc (.cells #[.slice none 0 0] 29)) = w4 at *
  generalize hz3 : w3.heap.size = n8 at S8 hn8 ⊢
  clear f2 c0 R0
  have HTk := Lib.hid (taker_any b n8 w4)
  unfold tfn at HTk
  refine ⟨trivial, ?_⟩
  refine (callsIn_wide.2 HTk.out).mono ?_
  rintro e w5 ⟨rfl, rfl⟩
  have bt1 := tw1_below w4 b n8
  have BB := Lib.hid (BA.out.trans (bt1.mono BA.out.size))
  have T0 := Lib.hid (S0.out.keep bt1)
  have T8 := Lib.hid (S8.out.keep bt1)
  have T5 := Lib.hid (tw1_l w4 b n8)
  have T6 := Lib.hid (tw1_t w4 b n8)
  generalize tw1 w4 b n8 = w5 at *
  generalize w4.heap.size + 1 = n6 at *
  generalize w4.heap.size = n5 at *
  clear BA S0 S8 HTk bt1
  gi_wp2_with fail
  have f3 : Below w5.heap.size w5 (w5.alloc (.cells #[.func (.func 50) #[] #[.pointer (some ⟨n5, 0, none⟩), .pointer (some ⟨n6, 0, none⟩)]] 67)) := (Below.refl _ _).alloc (Nat.le_refl _) _
  have BC := Lib.hid (BB.out.trans (f3.mono BB.out.size))
  have U0 := Lib.hid (T0.out.keep f3)
  have U8 := Lib.hid (T8.out.keep f3)
  have U5 := Lib.hid (T5.out.keep f3)
  have U6 := Lib.hid (T6.out.keep f3)
  have U9 : Hid (Blk (w5.alloc (.cells #[.func (.func 50) #[] #[.pointer (some ⟨n5, 0, none⟩), .pointer (some ⟨n6, 0, none⟩)]] 67)) w5.heap.size 67 #[.func (.func 50) #[] #[.pointer (some ⟨n5, 0, none⟩), .pointer (some ⟨n6, 0, none⟩)]]) := Lib.hid (Blk.new _ _ _)
  generalize (w5.alloc (.cells #[.func (.func 50) #[] #[.pointer (some ⟨n5, 0, none⟩), .pointer (some ⟨n6, 0, none⟩)]] 67)) = w6 at *
  generalize w5.heap.size = n9 at *
  clear BB T0 T5 T6 T8 f3
  have HAm := Lib.hid (HAl.out w6 BC.out)
  refine ⟨trivial, ?_⟩
  refine (callsIn_wide.2 HAm.out).mono ?_
  rintro e w7 ⟨v7, rfl, k1, k2, k3⟩
  have HB7 : Hid (Below w.heap.size w w7) := Lib.hid ((HB3.out.trans (BC.out.mono HB3.out.size)).trans (k2.mono (HB3.out.trans (BC.out.mono HB3.out.size)).size))
  have hI0 : TkS w b rb g n8 (blocksL b rb g s) (s.ack (AK s (Q.take 0))) ((AK s (Q.take 0)).map Kp.p) (ABox b n0 n5 n6 n8 n9 v7 Q) w7 := by
    rw [AK_zero]
    refine ⟨?_, ⟨U0.out.keep k2, U5.out.keep k2, U6.out.keep k2, U9.out.keep k2, k1⟩, ⟨_, U8.out.keep k2, PR.nil _, fun k e => by cases e⟩, Fr.of_below HB7.out _⟩
    rw [LS.ack_nil]
    exact HH.out.keep HB7.out
  obtain ⟨p7, c7, rfl⟩ := k1.form0
  have HI0 := Lib.hid hI0
  clear hI0 HAm HAl U0 U5 U6 U8 U9 BC HB3 k1 k2 k3 HH hz3
  gi_wp2_with fail
  refine wpIn_loop (fun a W => ∃ (k : Nat) (u11 u28 u29 u30 u31 u32 u33 u54 : Value) (DS : List Nat), k ≤ Q.length ∧ a = { tmps := #[.pointer (some ⟨b, 0, none⟩), .slice p ll c, .pointer (some ⟨n0, 0, none⟩), undef, .slice none 0 0, .int .i64 0, .pointer (some ⟨ns, 0, none⟩), .int .i64 0, .pointer (some ⟨n8, 0, none⟩), .pointer (some ⟨n9, 0, none⟩), undef, u11, undef, .pointer (some ⟨b, 0, none⟩), .bool false, .pointer (some ⟨ns, 0, none⟩), .pointer (some ⟨ns, 0, none⟩), .slice p ll c, .int .i64 0, .int .i64 0, .bool false, undef, .pointer (some ⟨b, 0, none⟩), .func (.func 50) #[] #[.pointer (some ⟨n5, 0, none⟩), .pointer (some ⟨n6, 0, none⟩)], .pointer (some ⟨ns, 0, none⟩), .slice p7 Q.length c7, .int .i64 (Q.length : Int), .int .i64 (k : Int), u28, u29, u30, u31, u32, u33, undef, undef, undef, undef, undef, undef, undef, undef, undef, undef, undef, undef, undef, undef, undef, undef, undef, undef, undef, undef, u54, undef, undef, undef], defers := DS.map mk1 } ∧ TkS w b rb g n8 (blocksL b rb g s) (s.ack (AK s (Q.take k))) ((AK s (Q.take k)).map Kp.p) (ABox b n0 n5 n6 n8 n9 (.slice p7 Q.length c7) Q) W ∧ Marks w.heap.size DS W)
    (fun a _ => Q.length - (intOf (a.tmps.getD 27 undef)).toNat) ?start ?round
  case start => exact ⟨0, undef, undef, undef, undef, undef, undef, undef, undef, [], Nat.zero_le _, rfl, HI0.out, Marks.nil _ _⟩
  case round =>
    rintro a W ⟨k, u11, u28, u29, u30, u31, u32, u33, u54, DS, hk, rfl, hI, hM⟩
    have HI := Lib.hid hI
    have HMk := Lib.hid hM
    have c0 := hI.box.q0
    clear HI0
    by_cases hlt : k < Q.length
    · have hp : 0 < Q.length := by omega
      obtain ⟨ad, rfl, _⟩ := hI.box.rr.its.cells hp
      obtain ⟨g7, off7, rfl, hg7, hc7⟩ := its_two hI.box.rr.its hp
      obtain ⟨d0, d1⟩ := hc7 k hlt
      have i0 : (0 : Int) ≤ (k : Int) := by omega
      have i1 : (k : Int) < (Q.length : Int) := by omega
      have HAs := Lib.hid (AK_step HS.out HPu.out.canon hlt)
      have HSA : Hid ((s.ack (AK s (Q.take k))).ok) := Lib.hid (LS.ack_ok HS.out (AK_sub s _))
      have HLen := Lib.hid HQl.out
      clear hI hM hc7
      generalize Q.getD k Itm.z = r at *
      have q0 := (c0.alloc (.cells #[.int .u64 (r.a : Int), .int .u64 (r.b : Int)] 56)).cell (i := 0) rfl
      gi_wp2_with fail
      have HBt := Lib.hid (between_any b r.a r.b (W.alloc (.cells #[.int .u64 (r.a : Int), .int .u64 (r.b : Int)] 56)))
      unfold bfn at HBt
      refine ⟨trivial, ?_⟩
      refine (callsIn_wide.2 HBt.out).mono ?_
      rintro e w0 ⟨rfl, rfl⟩
      have f2 : Below W.heap.size W (W.alloc (.cells #[.int .u64 (r.a : Int), .int .u64 (r.b : Int)] 56)) := (Below.refl _ _).alloc (Nat.le_refl _) _
      have bb := bw1_below (W.alloc (.cells #[.int .u64 (r.a : Int), .int .u64 (r.b : Int)] 56)) b r.a r.b
      have hI4 : TkS w b rb g n8 (blocksL b rb g s) (s.ack (AK s (Q.take k) ++ [])) ((AK s (Q.take k) ++ []).map Kp.p) (RBox b n0 n5 n6 n8 n9 (.slice (some ⟨g7, off7, none⟩) Q.length c7) Q (W.alloc (.cells #[.int .u64 (r.a : Int), .int .u64 (r.b : Int)] 56)).heap.size ((W.alloc (.cells #[.int .u64 (r.a : Int), .int .u64 (r.b : Int)] 56)).heap.size + 1) r.a r.b) (bw1 (W.alloc (.cells #[.int .u64 (r.a : Int), .int .u64 (r.b : Int)] 56)) b r.a r.b) := by
        have h1 := (HI.out.below (ABox.k _ _ _ _ _ _ _ _) f2).below (ABox.k _ _ _ _ _ _ _ _) bb
        rw [List.append_nil]
        exact h1.unbox ⟨h1.box, bw1_l _ _ _ _, bw1_r _ _ _ _⟩
      have HI4 := Lib.hid hI4
      have HM4 := Lib.hid ((HMk.out.below f2).below bb)
      have HSz4 : Hid (w.heap.size ≤ (bw1 (W.alloc (.cells #[.int .u64 (r.a : Int), .int .u64 (r.b : Int)] 56)) b r.a r.b).heap.size) := Lib.hid (hI4.fr.size)
      clear hI4 HI HMk HBt f2 bb c0 d0 d1 q0
      generalize bw1 (W.alloc (.cells #[.int .u64 (r.a : Int), .int .u64 (r.b : Int)] 56)) b r.a r.b = W5 at *
      generalize (W.alloc (.cells #[.int .u64 (r.a : Int), .int .u64 (r.b : Int)] 56)).heap.size + 1 = nr at *
      generalize (W.alloc (.cells #[.int .u64 (r.a : Int), .int .u64 (r.b : Int)] 56)).heap.size = nl at *
      generalize W.heap.size = n11 at *
      gi_wp2_with fail
      have HSeq := Lib.hid (between_seq 5 b rb g nl nr r.a r.b (s.ack (AK s (Q.take k))).ks (by omega) HSA.out.nodup HSA.out.rise (Nat.le_trans (LS.len_le HSA.out) HSA.out.next))
      have HYl : Hid ((AK s (Q.take k) ++ yK (s.ack (AK s (Q.take k))).ks r.a r.b).length ≤ 500) := Lib.hid (by
        rw [← HAs.out]
        exact Nat.le_trans (List.length_filter_le _ _) (LS.out_le HS.out))
      generalize hA : AK s (Q.take k) = A at *
      have HA := Lib.hid hA
      clear hA
      refine wp_range1 (gf := 52) (lb := #[.pointer (some ⟨nl, 0, none⟩), .pointer (some ⟨nr, 0, none⟩)]) rfl (enters_of Try.func52 (by kernel_rfl) rfl) HSeq.out (fun _ => rfl)
        (fun pre W => TkS w b rb g n8 (blocksL b rb g s) (s.ack (A ++ pre)) ((A ++ pre).map Kp.p) (RBox b n0 n5 n6 n8 n9 (.slice (some ⟨g7, off7, none⟩) Q.length c7) Q nl nr r.a r.b) W ∧ Marks w.heap.size DS W)
        (fun c pre W => False)
        (OwnFrom.and (tks_own (RBox.k _ _ _ _ _ _ _ _ _ _ _ _) HSz4.out) (marks_own HM4.out.lt)) (fun c => ownFrom_pure _ _) (fun pre A h => take_rdr2 h.1.led (LS.ack_ks2 _ _ _) (fun t ht => ht) h.1.box.ql h.1.box.qr) ⟨HI4.out, HM4.out⟩
        (fun x => { tmps := #[.pointer (some ⟨b, 0, none⟩), .slice p ll c, .pointer (some ⟨n0, 0, none⟩), undef, .slice none 0 0, .int .i64 0, .pointer (some ⟨ns, 0, none⟩), .int .i64 0, .pointer (some ⟨n8, 0, none⟩), .pointer (some ⟨n9, 0, none⟩), undef, .pointer (some ⟨n11, 0, none⟩), .pointer (some ⟨x.b, 0, none⟩), .pointer (some ⟨b, 0, none⟩), .bool false, .pointer (some ⟨ns, 0, none⟩), .pointer (some ⟨ns, 0, none⟩), .slice p ll c, .int .i64 0, .int .i64 0, .bool false, undef, .pointer (some ⟨b, 0, none⟩), .func (.func 50) #[] #[.pointer (some ⟨n5, 0, none⟩), .pointer (some ⟨n6, 0, none⟩)], .pointer (some ⟨ns, 0, none⟩), .slice (some ⟨g7, off7, none⟩) Q.length c7, .int .i64 (Q.length : Int), .int .i64 (k : Int), .bool true, .pointer (some ⟨g7, off7 + k * 2, none⟩), .agg #[.int .u64 (r.a : Int), .int .u64 (r.b : Int)], .pointer (some ⟨b, 0, none⟩), .agg #[.int .u64 (r.a : Int), .int .u64 (r.b : Int)], .func (.func 52) #[] #[.pointer (some ⟨nl, 0, none⟩), .pointer (some ⟨nr, 0, none⟩)], .pointer (some ⟨x.b, 0, none⟩), undef, undef, undef, undef, undef, undef, undef, undef, undef, undef, undef, undef, undef, undef, undef, undef, undef, undef, undef, u54, undef, undef, undef], defers := [] })
        ?assign ?body ?done ?stop
      case assign =>
        intro l x W K hK
        gi_wp2
        exact hK
      case body =>
        rintro l2 pre x W8 ⟨hI, hM8⟩ hok
        have HM8 := Lib.hid hM8
        clear hM8
        obtain ⟨hxm, hxg, hxn, hxt⟩ := next_in HSA.out (T := pre.map Kp.b) hok (fun t ht => ht)
        have hin : ∀ y ∈ A ++ (pre ++ [x]), y ∈ s.ks := by
          have := AK_prefix (k := k) (Q := Q) (by rw [HA.out]; exact hok) HS.out
          rwa [HA.out] at this
        have hS2 : (s.ack (A ++ pre)).ok := LS.ack_ok HS.out (fun y hy => hin y (by simp only [List.mem_append] at hy ⊢; rcases hy with h | h <;> simp [h]))
        have hxt' : x ∈ (s.ack (A ++ pre)).ks := by rw [LS.ack_ks2]; exact hxt
        have hpl : ((A ++ pre).map Kp.p).length ≤ 1000 := by
          have h1 := hok.length_le
          have h2 := HYl.out
          rw [List.length_append] at h1 h2
          rw [List.length_map, List.length_append]
          omega
        have q9 := hI.box.bx.q9.cell (i := 0) rfl
        obtain ⟨v, hv1, hv2, hv3⟩ := hI.out
        have HI8 := Lib.hid hI
        have HV1 := Lib.hid hv1
        have HV2 := Lib.hid hv2
        have HV3 := Lib.hid hv3
        have HXt := Lib.hid hxt'
        have HXs : Hid (x ∈ s.ks) := Lib.hid (hin x (by simp))
        have HTK := Lib.hid (take_any b rb g n5 n6 n8 x _ v _ W8 hI.led hS2 hxt' hxg hI.box.bx.q5 hI.box.bx.q6 hv1 hv2 hpl)
        clear hI hok hxm hxn hxt hxt' hin hS2 hpl hv1 hv2 hv3 HI4 HM4 HSeq HYl HAs hxg
        gi_wp2_with fail
        refine ⟨trivial, ?_⟩
        refine (CallsIn.inRound l2 (callsIn_wide.2 HTK.out)).mono ?_
        intro e W9 hp
        obtain rfl := hp.e
        have RES := Lib.hid (HI8.out.take (RBox.k _ _ _ _ _ _ _ _ _ _ _ _) HXt.out HV1.out HV2.out HV3.out hn8 (.inl (by simp [blocksL])) (.inl (by simp only [blocksL, List.mem_cons]; exact .inr (.inr (.inr (List.mem_map_of_mem HXs.out))))) hp)
        have HKp : Hid (∃ gn, Blk W9 x.b 66 (Kp.cells x.p gn)) := Lib.hid ⟨x.gone || decide (x.b ∈ [x.b]), RES.out.1.led.kept ⟨x.b, x.p, x.gone || decide (x.b ∈ [x.b])⟩ (markK_of (B := [x.b]) HXt.out)⟩
        obtain ⟨gn, hkp⟩ := HKp.out
        have HK9 := Lib.hid hkp
        have HL9 := Lib.hid (RES.out.1.led.head)
        have H09 := Lib.hid (RES.out.1.box.bx.q0)
        clear hp HTK q9 HKp hkp HV1 HV2 HV3
        have HNb : Hid (x.b ≠ b) := Lib.hid (HK9.out.ty HL9.out (by decide))
        have HN0b : Hid (n0 ≠ b) := Lib.hid (H09.out.ty HL9.out (by decide))
        have t7 : W9.drew.cell? ⟨b, 7, none⟩ = some (.int .u64 ((s.ack (A ++ pre)).top : Int)) := HL9.out.drew.cell (i := 7) rfl
        have f7 := HL9.out.drew.free 7
        gi_wp2_with fail
        refine region_held_round (S := fun w' => Blk w' n0 26 #[.pointer (some ⟨b, 0, none⟩)] ∧ Blk w' x.b 66 (Kp.cells x.p gn)) (by rintro ⟨_, _, h⟩; exact h) (by kernel_rfl) (by kernel_rfl) ⟨H09.out.drew, HK9.out.drew⟩ (fun hHeld => ?_)
        simp only [List.size_toArray, List.length_cons, List.length_nil, Nat.reduceAdd, Array.replicate_succ, Array.replicate_zero, List.push_toArray, List.nil_append, List.cons_append]
        refine wpAnyH_take (i := 0) (oi := ⟨some 38, _, _, _, _, _⟩) (v := ?v1) rfl (by kernel_rfl) (by kernel_rfl) (by kernel_rfl) (fun _ _ _ h => h) (Or.inl ⟨by rfl, ?y1⟩) (by assumption) ?r1
        case y1 => intro w hSw; obtain ⟨s0, s1⟩ := hSw; have s2 := s0.cell (i := 0) rfl; obtain ⟨s3, _⟩ := kcell s1; go_simp; (try with_reducible rfl)
        simp only [Act.put, List.setIfInBounds_toArray, List.set_cons_zero, List.set_cons_succ]
        refine wpAnyH_take (i := 1) (oi := ⟨some 39, _, _, _, _, _⟩) (v := ?v2) rfl (by kernel_rfl) (by kernel_rfl) (by kernel_rfl) (fun _ _ _ h => h) (Or.inl ⟨by rfl, ?y2⟩) (by assumption) ?r2
        case y2 => intro w hSw; obtain ⟨s0, s1⟩ := hSw; have s2 := s0.cell (i := 0) rfl; obtain ⟨s3, _⟩ := kcell s1; go_simp; (try with_reducible rfl)
        simp only [Act.put, List.setIfInBounds_toArray, List.set_cons_zero, List.set_cons_succ]
        refine wpAnyH_take (i := 2) (oi := ⟨some 40, _, _, _, _, _⟩) (v := ?v3) rfl (by kernel_rfl) (by kernel_rfl) (by kernel_rfl) (fun _ _ _ h => h) (Or.inl ⟨by rfl, ?y3⟩) (by assumption) ?r3
        case y3 => intro w hSw; obtain ⟨s0, s1⟩ := hSw; have s2 := s0.cell (i := 0) rfl; obtain ⟨s3, _⟩ := kcell s1; go_simp; (try with_reducible rfl)
        simp only [Act.put, List.setIfInBounds_toArray, List.set_cons_zero, List.set_cons_succ]
        refine wpAnyH_take (i := 3) (oi := ⟨some 41, _, _, _, _, _⟩) (v := ?v4) rfl (by kernel_rfl) (by kernel_rfl) (by kernel_rfl) (fun _ _ _ h => h) (Or.inl ⟨by rfl, ?y4⟩) (by assumption) ?r4
        case y4 => intro w hSw; clear hSw; go_simp; (try with_reducible rfl)
        simp only [Act.put, List.setIfInBounds_toArray, List.set_cons_zero, List.set_cons_succ]
        refine wpAnyH_take (i := 4) (oi := ⟨some 42, _, _, _, _, _⟩) (v := ?v5) rfl (by kernel_rfl) (by kernel_rfl) (by kernel_rfl) (fun _ _ _ h => h) (Or.inl ⟨by rfl, ?y5⟩) (by assumption) ?r5
        case y5 => intro w hSw; clear hSw; go_simp; (try with_reducible rfl)
        simp only [Act.put, List.setIfInBounds_toArray, List.set_cons_zero, List.set_cons_succ]
        refine wpAnyH_take (i := 6) (oi := ⟨some 44, _, _, _, _, _⟩) (v := ?v6) rfl (by kernel_rfl) (by kernel_rfl) (by kernel_rfl) (fun _ _ _ h => h) (Or.inl ⟨by rfl, ?y6⟩) (by assumption) ?r6
        case y6 => intro w hSw; clear hSw; go_simp; (try with_reducible rfl)
        simp only [Act.put, List.setIfInBounds_toArray, List.set_cons_zero, List.set_cons_succ]
        refine wpAnyH_take (i := 7) (oi := ⟨some 45, _, _, _, _, _⟩) (v := ?v7) rfl (by kernel_rfl) (by kernel_rfl) (by kernel_rfl) (fun _ _ _ h => h) (Or.inl ⟨by rfl, ?y7⟩) (by assumption) ?r7
        case y7 => intro w hSw; clear hSw; go_simp; (try with_reducible rfl)
        simp only [Act.put, List.setIfInBounds_toArray, List.set_cons_zero, List.set_cons_succ]
        refine wpAnyH_take (i := 8) (oi := ⟨some 46, _, _, _, _, _⟩) (v := ?v8) rfl (by kernel_rfl) (by kernel_rfl) (by kernel_rfl) (fun _ _ _ h => h) (Or.inl ⟨by rfl, ?y8⟩) (by assumption) ?r8
        case y8 => intro w hSw; clear hSw; go_simp; (try with_reducible rfl)
        simp only [Act.put, List.setIfInBounds_toArray, List.set_cons_zero, List.set_cons_succ]
        refine wpAnyH_take (i := 9) (oi := ⟨some 47, _, _, _, _, _⟩) (v := ?v9) rfl (by kernel_rfl) (by kernel_rfl) (by kernel_rfl) (fun _ _ _ h => h) (Or.inl ⟨by rfl, ?y9⟩) (by assumption) ?r9
        case y9 => intro w hSw; clear hSw; go_simp; (try with_reducible rfl)
        simp only [Act.put, List.setIfInBounds_toArray, List.set_cons_zero, List.set_cons_succ]
        refine wpAnyH_take (i := 10) (oi := ⟨some 48, _, _, _, _, _⟩) (v := ?v10) rfl (by kernel_rfl) (by kernel_rfl) (by kernel_rfl) (fun _ _ _ h => h) (Or.inl ⟨by rfl, ?y10⟩) (by assumption) ?r10
        case y10 => intro w hSw; obtain ⟨s0, s1⟩ := hSw; have s2 := s0.cell (i := 0) rfl; obtain ⟨s3, _⟩ := kcell s1; go_simp; (try with_reducible rfl)
        simp only [Act.put, List.setIfInBounds_toArray, List.set_cons_zero, List.set_cons_succ]
        refine wpAnyH_ready (rs := [5]) (by kernel_rfl) (by simp) ?_
        refine AllReadyH.cons (o := ⟨some 43, _, _, _, _, _⟩) rfl (fun K hK => ?_) AllReadyH.nil
        go_simp
        refine hK.out _ _ hHeld (fun hHeld => ?_)
        clear hK
        try simp only [List.setIfInBounds_toArray, List.set_cons_zero, List.set_cons_succ]
        refine wpAnyH_ready (rs := [11]) (by kernel_rfl) (by simp) ?_
        refine AllReadyH.cons (o := ⟨some 49, _, _, _, _, _⟩) rfl (fun K hK => ?_) AllReadyH.nil
        go_simp
        refine hK.out _ _ hHeld (fun hHeld => ?_)
        clear hK
        try simp only [List.setIfInBounds_toArray, List.set_cons_zero, List.set_cons_succ]
        refine wpAnyH_take (i := 12) (oi := ⟨some 50, _, _, _, _, _⟩) (v := ?v11) rfl (by kernel_rfl) (by kernel_rfl) (by kernel_rfl) (fun _ _ _ h => h) (Or.inl ⟨by rfl, ?y11⟩) (by assumption) ?r11
        case y11 => intro w hSw; clear hSw; go_simp; (try with_reducible rfl)
        simp only [Act.put, List.setIfInBounds_toArray, List.set_cons_zero, List.set_cons_succ]
        refine wpAnyH_take (i := 13) (oi := ⟨some 51, _, _, _, _, _⟩) (v := ?v12) rfl (by kernel_rfl) (by kernel_rfl) (by kernel_rfl) (fun _ _ _ h => h) (Or.inl ⟨by rfl, ?y12⟩) (by assumption) ?r12
        case y12 => intro w hSw; clear hSw; go_simp; (try with_reducible rfl)
        simp only [Act.put, List.setIfInBounds_toArray, List.set_cons_zero, List.set_cons_succ]
        refine wpAnyH_ready (rs := [14]) (by kernel_rfl) (by simp) ?_
        refine AllReadyH.cons (o := ⟨none, _, _, _, _, _⟩) rfl (fun K hK => ?_) AllReadyH.nil
        go_simp
        refine hK.out _ _ ⟨hHeld.1.set_other 7 _ HN0b.out, hHeld.2.set_other 7 _ HNb.out⟩ (fun hHeld => ?_)
        clear hK
        try simp only [List.setIfInBounds_toArray, List.set_cons_zero, List.set_cons_succ]
        refine wpAnyH_take (i := 15) (oi := ⟨some 52, _, _, _, _, _⟩) (v := ?v13) rfl (by kernel_rfl) (by kernel_rfl) (by kernel_rfl) (fun _ _ _ h => h) (Or.inl ⟨by rfl, ?y13⟩) (by assumption) ?r13
        case y13 => intro w hSw; clear hSw; go_simp; (try with_reducible rfl)
        simp only [Act.put, List.setIfInBounds_toArray, List.set_cons_zero, List.set_cons_succ]
        refine wpAnyH_take (i := 16) (oi := ⟨some 53, _, _, _, _, _⟩) (v := ?v14) rfl (by kernel_rfl) (by kernel_rfl) (by kernel_rfl) (fun _ _ _ h => h) (Or.inl ⟨by rfl, ?y14⟩) (by assumption) ?r14
        case y14 => intro w hSw; clear hSw; go_simp; (try with_reducible rfl)
        simp only [Act.put, List.setIfInBounds_toArray, List.set_cons_zero, List.set_cons_succ]
        refine wpAnyH_ready (rs := [17]) (by kernel_rfl) (by simp) ?_
        refine AllReadyH.cons (o := ⟨none, _, _, _, _, _⟩) rfl (fun K hK => ?_) AllReadyH.nil
        have HL10 := (HL9.out.set 7 (.int .u64 (max ((s.ack (A ++ pre)).top : Int) (x.p.n : Int)))).drew
        have t8 := HL10.cell (i := 8) rfl
        have f8 := HL10.free 8
        go_simp
        refine hK.out _ _ ⟨hHeld.1.set_other 8 _ HN0b.out, hHeld.2.set_other 8 _ HNb.out⟩ (fun hHeld => ?_)
        clear hK
        try simp only [List.setIfInBounds_toArray, List.set_cons_zero, List.set_cons_succ]
        refine wpAnyH_done (by kernel_rfl) ?_ _
        gi_wp2
        show KeepsFrom _ _ _ ∧ TkS w b rb g n8 (blocksL b rb g s) (s.ack (A ++ (pre ++ [x]))) ((A ++ (pre ++ [x])).map Kp.p) _ _ ∧ Marks _ _ _
        rw [← List.append_assoc]
        exact ack_round (RBox.k _ _ _ _ _ _ _ _ _ _ _ _) (by simp [blocksL]) RES.out.1 RES.out.2 HM8.out _
      case done =>
        rintro D xs W' hD hDl rfl ⟨hI, hM'⟩ hK
        have HI' := Lib.hid (hI.unbox hI.box.bx)
        have HM' := Lib.hid (hM'.cons (fun hm => by have := HM4.out.lt D hm; omega) (by have := HSz4.out; omega) hK)
        clear hI hM' hK HI4 HSeq HYl
        gi_wp2
        have e1 : wrap64 ((k : Int) + 1) = ((k + 1 : Nat) : Int) := by
          have := HLen.out
          unfold wrap64
          omega
        rw [e1]
        refine ⟨⟨k + 1, .pointer (some ⟨n11, 0, none⟩), .bool true, .pointer (some ⟨g7, off7 + k * 2, none⟩), .agg #[.int .u64 (r.a : Int), .int .u64 (r.b : Int)], .pointer (some ⟨b, 0, none⟩), .agg #[.int .u64 (r.a : Int), .int .u64 (r.b : Int)], .func (.func 52) #[] #[.pointer (some ⟨nl, 0, none⟩), .pointer (some ⟨nr, 0, none⟩)], .int .i64 ((k + 1 : Nat) : Int), D :: DS, hlt, rfl, by rw [HAs.out]; exact HI'.out, HM'.out⟩, ?_⟩
        simp [intOf]
        omega
      case stop =>
        rintro D c pre W hD hDl hpre hF hK
        exact hF.elim
    · obtain rfl : k = Q.length := by omega
      obtain ⟨v, hv1, hv2, hv3⟩ := hI.out
      rw [List.take_length] at hI hv2
      have HI := Lib.hid hI
      have HV1 := Lib.hid hv1
      have HV2 := Lib.hid hv2
      have HV3 := Lib.hid hv3
      have q0 := c0.cell (i := 0) rfl
      have HNr := Lib.hid (narrow_any b rb g _ W hI.led (LS.ack_ok HS.out (AK_sub s Q)))
      clear hI hv1 hv2 hv3 hM c0
      gi_wp2_with fail
      refine ⟨trivial, ?_⟩
      refine (callsIn_wide.2 HNr.out).mono ?_
      intro e W2 hn
      obtain rfl := hn.e
      have HM2 := Lib.hid (HMk.out.keep (kf_of_fr hn.fr (fun y hy => .inr (HI.out.led.cells y hy))))
      have c4 := (HV1.out.fr hn.fr (HI.out.led.off HV1.out (by decide) (by decide) (by decide) (by decide))).cell (i := 0) rfl
      have HE := Lib.hid (ack_end HS.out HI.out HV2.out HV3.out hn)
      clear hn q0 HNr
      gi_wp2
      refine leaves_marks (B := w.heap.size) (AckPost w b rb g s Q (.returned (.tuple #[v, .int .i64 0]))) (fun W D h h1 h2 => h.mark h1 h2) (fun W h => ?_) DS W2 HM2.out HE.out
      refine ⟨.tuple #[v, .int .i64 0], ?_, Q, HPu.out, h⟩
      simp [results, Try.f9]

set_option maxRecDepth 100000 in
set_option maxHeartbeats 2000000 in
theorem ack_wrong (b : Nat) (p : Option Addr) (c : Nat) (l : List Rn) (w : World) (hl : Its w p l) (hm : l.length ≤ 1000) (ho : l.all okB = false) :
    Calls Try.prog 9 #[.pointer (some ⟨b, 0, none⟩), .slice p l.length c] w fun e w' => e = .returned (.tuple #[.slice none 0 0, .int .i64 1]) ∧ Below w.heap.size w w' := by
  have hp : 0 < l.length := by
    cases l with
    | nil => simp at ho
    | cons x r => simp
  have HI := Lib.hid hl
  have HN : Hid (∀ W, Calls Try.prog 24 #[] W fun e w' => e = .returned (.pointer (some ⟨W.heap.size, 0, none⟩)) ∧ Blk w' W.heap.size 91 #[.slice none 0 0] ∧ Below W.heap.size W w') := Lib.hid fset_New
  have HPt := Lib.hid (fun bb W (k2 : Its W p l) => fput_wrong bb l p c W k2 hp hm ho)
  clear hl hm ho hp
  generalize hll : l.length = ll at *
  clear hll
  refine (callsIn_wide (n := 6)).1 ?_
  refine callsIn_of_wp_marks Try.func9 rfl trivial ?_ rfl
  simp only [Try.ntmps9, List.size_toArray, List.length_cons, List.length_nil, Nat.reduceAdd, Nat.reduceSub, Array.replicate_succ, Array.replicate_zero, List.push_toArray, List.append_toArray, List.nil_append, List.cons_append]
  gi_wp2_with fail
  have HB1 : Hid (Below w.heap.size w (w.alloc (.cells #[.pointer (some ⟨b, 0, none⟩)] 26))) := Lib.hid ((Below.refl _ _).alloc (Nat.le_refl _) _)
  generalize (w.alloc (.cells #[.pointer (some ⟨b, 0, none⟩)] 26)) = w1 at *
  refine ⟨trivial, ?_⟩
  refine (callsIn_wide.2 (HN.out w1)).mono ?_
  rintro e w2 ⟨rfl, hb, hbe⟩
  have HB2 := Lib.hid (bel_to HB1.out hbe HB1.out.size)
  clear hb hbe HB1 HN
  generalize w1.heap.size = ns at *
  gi_wp2_with fail
  refine ⟨trivial, ?_⟩
  refine (callsIn_wide.2 (HPt.out ns w2 (HI.out.keep HB2.out))).mono ?_
  rintro e w3 ⟨rfl, hb3⟩
  have HB3 := Lib.hid (bel_to HB2.out hb3 HB2.out.size)
  clear hb3 HB2 HPt HI
  gi_wp2
  refine ⟨.tuple #[.slice none 0 0, .int .i64 1], ?_, rfl, HB3.out⟩
  simp [results, Try.f9]
end Go.Proofs.Ytfpopbhbhdhdnaa
