/- Contracts of the document's own cycle filter (goitref06) over this translation: all numbers, cycle by cycle. -/
import Derived.Test.YtkinoblikilagaaNo
set_option linter.unusedVariables false
namespace Go.Proofs.Ytkinoblikilagaa
open Go.RowKit

/-- A slice of numbers of the call's own (nil, or in a block of numbers). -/
def RowN (w : World) (p : Option Addr) (c : Nat) (l : List Nat) : Prop :=
  (p = none → l.length = 0 ∧ c = 0) ∧ (0 < l.length → ∃ b cs, p = some ⟨b, 0, none⟩ ∧ Blk w b 31 cs ∧ ∀ i, i < l.length → cs[i]? = some (ncell (l.getD i 0)))
theorem RowN.keep {w w' : World} {p : Option Addr} {c : Nat} {l : List Nat} (h : RowN w p c l) (k : KeepT 31 w w') : RowN w' p c l :=
  ⟨h.1, fun hp => by obtain ⟨b, cs, e, hb, hc⟩ := h.2 hp; exact ⟨b, cs, e, k b cs hb, hc⟩⟩
theorem RowN.nums {w : World} {p : Option Addr} {c : Nat} {l : List Nat} (h : RowN w p c l) : Nums w p l :=
  fun hp => by obtain ⟨b, cs, e, hb, hc⟩ := h.2 hp; exact ⟨b, 0, e, hb.lt, fun i hi => hb.cell (by rw [Nat.zero_add]; exact hc i hi)⟩
theorem RowN.nil (w : World) : RowN w none 0 [] := ⟨fun _ => ⟨rfl, rfl⟩, fun h => absurd h (by simp)⟩
theorem RowN.of_own {w : World} {B g n cap : Nat} {l : List Nat} (h : w.ownsRow B 31 1 (.slice (some ⟨g, 0, none⟩) n cap) n (l.map ncell)) : RowN w (some ⟨g, 0, none⟩) cap l := by
  refine ⟨fun e => (by cases e), fun hp => ?_⟩
  obtain ⟨h0, _, cur, h1, _, _, _, h5⟩ := row_inv h
  have h0' : l.length = n := by simpa using h0
  refine ⟨g, cur, rfl, h1, fun i hi => ?_⟩
  rw [row_at h5 (by omega)]
  simp [List.getD_eq_getElem?_getD, hi]

/-- What the places of the document's cycles hold. -/
def Rows6 (w : World) (L : List (List Nat)) (arr : Array Value) : Prop :=
  ∀ i, i < L.length → ∃ p c, arr[i]? = some (.slice p (L.getD i []).length c) ∧ RowN w p c (L.getD i [])
theorem Rows6.keep {w w' : World} {L : List (List Nat)} {arr : Array Value} (h : Rows6 w L arr) (k : KeepT 31 w w') : Rows6 w' L arr :=
  fun i hi => by obtain ⟨p, c, e, r⟩ := h i hi; exact ⟨p, c, e, r.keep k⟩

/-- The document's cycle filter in memory. -/
structure DcAt (w : World) (B m g cap : Nat) (L : List (List Nat)) : Prop where
  head : Blk w m 39 #[.slice (some ⟨g, 0, none⟩) L.length cap]
  bm : B ≤ m
  bg : B ≤ g
  body : ∃ arr, Blk w g 28 arr ∧ arr.size = cap ∧ L.length ≤ cap ∧ cap ≤ maxLen ∧ Rows6 w L arr
theorem DcAt.keep {w w' : World} {B m g cap : Nat} {L : List (List Nat)} (h : DcAt w B m g cap L) (k : Below w.heap.size w w') : DcAt w' B m g cap L := by
  obtain ⟨arr, h1, h2, h3, h4, h5⟩ := h.body
  exact ⟨h.head.keep k, h.bm, h.bg, arr, h1.keep k, h2, h3, h4, h5.keep (.below k)⟩
theorem DcAt.grown {w w' : World} {B m g cap b : Nat} {L : List (List Nat)} {U : TypeId} {cs : Array Value} (h : DcAt w B m g cap L) (k : w.grownBy w' (some b)) (hb : Blk w b U cs) (h1 : 39 ≠ U) (h2 : 28 ≠ U) (h3 : 31 ≠ U) : DcAt w' B m g cap L := by
  obtain ⟨arr, q1, q2, q3, q4, q5⟩ := h.body
  exact ⟨KeepT.grown k hb h1 _ _ h.head, h.bm, h.bg, arr, KeepT.grown k hb h2 _ _ q1, q2, q3, q4, q5.keep (.grown k hb h3)⟩

/-- The greatest number of the last two cycles. -/
def bestL (L : List (List Nat)) : Nat := mxs 0 (L.drop (L.length - 2)).flatten

theorem dc_New (w : World) : Calls Try.prog 7 #[] w fun e w' => ∃ m g, e = .returned (.pointer (some ⟨m, 0, none⟩)) ∧ DcAt w' w.heap.size m g 1 [[]] ∧ Below w.heap.size w w' := by
  have H1 : Hid (Blk (w.alloc (.cells #[.slice none 0 0] 28)) w.heap.size 28 #[.slice none 0 0]) := Lib.hid (Blk.new _ _ _)
  go_enter Try.func7, Try.ntmps7
  go_wp2
  go_ret
  refine ⟨w.heap.size + 1, w.heap.size, rfl, ⟨Blk.new1 _ _ _ _, by omega, Nat.le_refl _, #[.slice none 0 0], H1.out.alloc _, rfl, Nat.le_refl _, by unfold maxLen; omega, fun i hi => ?_⟩, ((Below.refl _ _).alloc (Nat.le_refl _) _).alloc (by simp) _⟩
  obtain rfl : i = 0 := by simpa using hi
  exact ⟨none, 0, rfl, RowN.nil _⟩

set_option maxHeartbeats 1000000 in
theorem dc_Put (B m g cap c : Nat) (K : List (List Nat)) (cur : List Nat) (p : Option Addr) (l : List Nat) (w : World) (h : DcAt w B m g cap (K ++ [cur])) (hp : p = none → l.length = 0 ∧ c = 0) (hl : Nums w p l)
    (hn : K.length ≤ 1000) (hc : cur.length ≤ 1000) (hm : l.length ≤ 1000) (hB : B ≤ w.heap.size) :
    Calls Try.prog 9 #[.pointer (some ⟨m, 0, none⟩), .slice p l.length c] w fun e w' => e = .returned (.tuple #[]) ∧ DcAt w' B m g cap (K ++ [cur ++ l]) ∧ Fr w w' [g] := by
  have HH := Lib.hid h
  obtain ⟨arr, b1, b2, b3, b4, b5⟩ := h.body
  obtain ⟨q, cq, e1, r1⟩ := b5 K.length (by simp)
  have eK : (K ++ [cur]).getD K.length [] = cur := by simp [List.getD_eq_getElem?_getD]
  rw [eK] at e1 r1
  have h0 := h.head.cell (i := 0) (v := .slice (some ⟨g, 0, none⟩) (K.length + 1) cap) (by simp)
  have g0 := b1.cell (i := K.length) e1
  have gf := b1.free K.length
  have HR := Lib.hid r1
  have HE1 := Lib.hid e1
  have HS := Lib.hid (And.intro b2 (And.intro b3 b4))
  have HL := Lib.hid hl
  have HP := Lib.hid hp
  have i0 : (0 : Int) ≤ (K.length : Int) := by omega
  have HB1 := Lib.hid b1
  have HB5 := Lib.hid b5
  have hml := h.head.lt
  have hgl := b1.lt
  clear h b1 b5 e1 r1 hp hl b3 b2 b4
  go_enter Try.func9, Try.ntmps9
  go_wp2_with (first
    | (at_builtin; refine wpList_append_nums rfl (.tmp 12) (.tmp 19) rfl B w.heap.size 0 0 [] rfl (row_empty w hB) q cur.length cq cur rfl (fun e => HR.out.1 e) rfl (HR.out.nums.keep ((Below.refl _ _).alloc (Nat.le_refl _) _)) (by omega) (by simp; omega) ?_; intro g1 c1 w1 hown hgr hat; simp only [Nat.zero_add, List.nil_append] at hown; have R1 := Lib.hid hown; have E1 : Hid (Below w.heap.size w w1) := Lib.hid (bel_gr ((Below.refl _ _).alloc (Nat.le_refl _) _) hgr (by simp) (Nat.le_refl _)); have A1 : Hid (w.heap.size ≤ g1) := Lib.hid (by simp at hat; omega); clear hown hgr hat)
    | (at_builtin; refine wpList_append_nums rfl (.tmp 21) (.tmp 22) rfl B g1 cur.length c1 cur rfl R1.out p l.length c l rfl HP.out rfl (HL.out.keep E1.out) (by omega) (by have := E1.out.size; omega) ?_; intro g2 c2 w2 hown hgr hat; have R2 := Lib.hid hown; have E2 : Hid (Below w.heap.size w w2) := Lib.hid (bel_gr E1.out hgr E1.out.size A1.out); have d0 := (HH.out.head.keep E2.out).cell (i := 0) (v := .slice (some ⟨g, 0, none⟩) (K.length + 1) cap) (by simp); have d1 := (HB1.out.keep E2.out).free K.length; have d2 := (HB1.out.keep E2.out).cell HE1.out; clear hown hgr hat))
  go_end0
  have e2 : ∀ i, (K ++ [cur ++ l]).getD i [] = if i = K.length then cur ++ l else (K ++ [cur]).getD i [] := by
    intro i
    simp only [List.getD_eq_getElem?_getD, List.getElem?_append]
    by_cases c1 : i < K.length
    · rw [if_pos c1, if_neg (by omega), if_pos c1]
    · rw [if_neg c1, if_neg c1]
      by_cases c2 : i = K.length
      · simp [c2]
      · rw [if_neg c2]
        have : 0 < i - K.length := by omega
        rw [List.getElem?_eq_none (by simp; omega), List.getElem?_eq_none (by simp; omega)]
  have hb2 := HB1.out.keep E2.out
  refine ⟨rfl, ⟨?_, HH.out.bm, HH.out.bg, arr.setIfInBounds K.length (.slice (some ⟨g2, 0, none⟩) (cur.length + l.length) c2), hb2.set _ _, by simp [HS.out.1], by simpa using HS.out.2.1, HS.out.2.2, fun i hi => ?_⟩, (Fr.of_below E2.out _).set (by simp) _ _⟩
  · have := (HH.out.head.keep E2.out).set_other K.length (.slice (some ⟨g2, 0, none⟩) (cur.length + l.length) c2) ((HH.out.head.keep E2.out).ty hb2 (by decide))
    simpa using this
  · rw [e2]
    have hk : KeepT 31 w2 (w2.setCell ⟨g, K.length, none⟩ (.slice (some ⟨g2, 0, none⟩) (cur.length + l.length) c2)) := KeepT.set hb2 (by decide) _ _
    by_cases c3 : i = K.length
    · subst c3
      rw [if_pos rfl]
      exact ⟨some ⟨g2, 0, none⟩, c2, by rw [Array.getElem?_setIfInBounds_self_of_lt (by have := HS.out.1; have := HS.out.2.1; simp at this; omega), List.length_append], (RowN.of_own R2.out).keep hk⟩
    · rw [if_neg c3, Array.getElem?_setIfInBounds_ne (by omega)]
      obtain ⟨p', c', e', r'⟩ := HB5.out i (by simpa using hi)
      exact ⟨p', c', e', (r'.keep (.below E2.out)).keep hk⟩

theorem sl_info : (Try.prog.info? 28).map (fun i => (i.zero, i.size, i.bytes)) = some (some (.slice none 0 0), 1, 24) := by kernel_rfl

set_option maxHeartbeats 1000000 in
theorem dc_Next (B m g cap : Nat) (L : List (List Nat)) (w : World) (h : DcAt w B m g cap L) (hn : L.length ≤ 1000) (hB : B ≤ w.heap.size) :
    Calls Try.prog 13 #[.pointer (some ⟨m, 0, none⟩)] w fun e w' => e = .returned (.tuple #[]) ∧ (∃ g' cap', DcAt w' B m g' cap' (L ++ [[]])) ∧ Fr w w' [m, g] := by
  obtain ⟨i0, hi, hz0, hz1, hz2⟩ := info_parts sl_info
  have HI := Lib.hid hi
  have HZ0 := Lib.hid hz0
  have HZ1 := Lib.hid hz1
  have HZ2 := Lib.hid hz2
  clear hi hz0 hz1 hz2
  have HH := Lib.hid h
  obtain ⟨arr, b1, b2, b3, b4, b5⟩ := h.body
  have h0 := h.head.cell (i := 0) (v := .slice (some ⟨g, 0, none⟩) L.length cap) rfl
  have HO : Hid ((w.alloc (.cells #[.slice none 0 0] 28)).ownsRow B 28 1 (.slice (some ⟨g, 0, none⟩) L.length cap) L.length (arr.toList.take L.length)) := Lib.hid (row_mk (by simp; omega) h.bg (b1.alloc _) b3 b4 b2 rfl)
  have HX : Hid (Blk (w.alloc (.cells #[.slice none 0 0] 28)) w.heap.size 28 #[.slice none 0 0]) := Lib.hid (Blk.new _ _ _)
  have HB1 := Lib.hid (b1.alloc (.cells #[.slice none 0 0] 28))
  have HB5 := Lib.hid b5
  have HS := Lib.hid (And.intro b2 (And.intro b3 b4))
  have hml := h.head.lt
  have hgl := b1.lt
  have hmg := h.head.ty b1 (by decide)
  clear h b1 b2 b3 b4 b5
  go_enter Try.func13, Try.ntmps13
  go_wp2_with (at_builtin; refine wpList_append_own_at _ rfl (.tmp 6) (.tmp 7) 22 rfl B 28 i0 (.slice none 0 0) 1 24 Try.underlying22 HI.out HZ0.out HZ1.out HZ2.out rfl (by decide) (.slice (some ⟨g, 0, none⟩) L.length cap) L.length _ rfl HO.out ⟨w.heap.size, 0, none⟩ 1 1 [.slice none 0 0] rfl rfl (cell_one_new _ _ _) (by intro u hu; simp at hu; subst hu; rfl) (by unfold maxLen; omega) (by omega) (by simp; omega) ?_; intro v' w1 hown hgr hnil hat; have HW := Lib.hid hown; have HG := Lib.hid hgr; have HAT := Lib.hid hat; have HF := Lib.hid (row_form hown (fun e => by have := hnil.1 e; simp at this)); clear hown hgr hnil hat; obtain ⟨g', cap', rfl⟩ := HF.out; have HH1 := Lib.hid ((HH.out.head.alloc (.cells #[.slice none 0 0] 28)).grown HG.out (by intro e; simp [Value.ownBlock] at e; exact hmg e)); have d0 := HH1.out.cell (i := 0) (v := .slice (some ⟨g, 0, none⟩) L.length cap) rfl; have d1 := HH1.out.free 0)
  go_end0
  obtain ⟨q1, q2, arr', q3, q4, q5, q6, q7⟩ := row_inv HW.out
  have hgw : w.grownBy w1 (some g) := gr_trans (gr_alloc (gr_refl _ _) _) HG.out
  have hk1 : KeepT 31 w w1 := (KeepT.alloc _ _ _).trans (KeepT.grown HG.out HB1.out (by decide))
  have hk : KeepT 31 w1 (w1.setCell ⟨m, 0, none⟩ (.slice (some ⟨g', 0, none⟩) (L.length + 1) cap')) := KeepT.set HH1.out (by decide) _ _
  refine ⟨rfl, ⟨g', cap', ?_, HH.out.bm, q2, arr', q3.set_other _ _ (q3.ty HH1.out (by decide)), q6, by simpa using q4, q5, fun i hi => ?_⟩, ?_⟩
  · have := HH1.out.set 0 (.slice (some ⟨g', 0, none⟩) (L.length + 1) cap')
    simpa using this
  · have hi' : i < L.length + 1 := by simpa using hi
    rw [row_at q7 hi']
    by_cases c : i < L.length
    · obtain ⟨p, cc, e, r⟩ := HB5.out i c
      have e3 : (L ++ [[]]).getD i [] = L.getD i [] := by simp [List.getD_eq_getElem?_getD, List.getElem?_append, c]
      rw [e3, List.getElem?_append_left (by simp; have := HS.out; omega), List.getElem?_take_of_lt c]
      exact ⟨p, cc, by simpa using e, (r.keep hk1).keep hk⟩
    · obtain rfl : i = L.length := by omega
      have e3 : (L ++ [[]]).getD L.length [] = [] := by simp [List.getD_eq_getElem?_getD]
      rw [e3]
      refine ⟨none, 0, ?_, RowN.nil _⟩
      have hlen : (arr.toList.take L.length).length = L.length := by simp; have := HS.out; omega
      rw [List.getElem?_append_right (by omega), hlen]
      simp
  · have f1 : Fr w w1 [m, g] := ⟨hgw.os, hgw.tape, hgw.output, hgw.size, fun k hk hl => hgw.block k hk (by intro e; injection e with e; simp at hl; exact hl.2 e)⟩
    exact f1.set (by simp) _ _
end Go.Proofs.Ytkinoblikilagaa
