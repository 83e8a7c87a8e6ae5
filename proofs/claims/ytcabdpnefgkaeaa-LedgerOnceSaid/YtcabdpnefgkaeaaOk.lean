/- The live question of goitlaw08, over this translation. -/
import Derived.Test.YtcabdpnefgkaeaaIn08
set_option linter.unusedVariables false
namespace Go.Proofs.Ytcabdpnefgkaeaa
open Go.RowKit

theorem pr_cell {w : World} {p : Option Addr} {n c : Nat} {l : List Pk} (h : PR w (.slice p n c) l) (hp : 0 < l.length) : ∃ b off, p = some ⟨b, off, none⟩ ∧ b < w.heap.size ∧ (∃ cs, Blk w b 41 cs) ∧ ∀ k, k < l.length → w.cell? ⟨b, off + k * 7, none⟩ = some (.int .u64 ((l.getD k Itm.z).n : Int)) := by
  obtain ⟨p', c', e⟩ := h.form
  injection e with e1 e2 e3
  subst e1 e2 e3
  obtain ⟨b, off, rfl, hb, hc⟩ := h.its hp
  refine ⟨b, off, rfl, hb, h.blk rfl, fun k hk => ?_⟩
  have k7 : Itm.k Pk = 7 := rfl
  have := hc k 0 hk (by rw [k7]; omega)
  exact this
theorem inQp_iff {Q : List Rn} {p : Pk} : inQp Q p = true ↔ InR Q p.n := by
  unfold inQp InR
  rw [List.any_eq_true]
  constructor
  · rintro ⟨r, hr, h⟩
    exact ⟨r, hr, by simpa using h⟩
  · rintro ⟨r, hr, h⟩
    exact ⟨r, hr, by simpa using h⟩

def pk8 (i : Nat) : Pk := ⟨i, 100, 10 * i, 0, 0, 0, false⟩
def pks (k : Nat) : List Pk := (List.range k).map pk8
structure Al (w : World) (b : Nat) (P : List Pk) (nx top : Nat) (tp : Bool) (wr : World) : Prop where
  led : ∃ rb g s, LAt wr b rb g s ∧ s.ok ∧ outP s.ks = P ∧ s.next = nx ∧ s.reorder = 2 ∧ s.top = top ∧ s.topped = tp ∧ ∀ x ∈ blocksL b rb g s, w.heap.size ≤ x
  bel : Below w.heap.size w wr
theorem Al.keep {w wr w' : World} {b : Nat} {P : List Pk} {nx top : Nat} {tp : Bool} (h : Al w b P nx top tp wr) (k : Below wr.heap.size wr w') : Al w b P nx top tp w' := by
  obtain ⟨rb, g, s, h1, h2⟩ := h.led
  exact ⟨⟨rb, g, s, h1.keep k, h2⟩, bel_to h.bel k h.bel.size⟩
theorem al_send {w wr : World} {b k : Nat} (h : Al w b (pks k) k 0 false wr) (hk : k ≤ 3) :
    Calls Try.prog 8 #[.pointer (some ⟨b, 0, none⟩), .int .u64 100, .agg #[.int .u64 ((10 * k : Nat) : Int), .int .u64 0, .int .u64 0, .int .u64 0, .bool false]] wr fun e w' => e = .returned (.int .u64 (k : Int)) ∧ Al w b (pks (k + 1)) (k + 1) 0 false w' := by
  obtain ⟨rb, g, s, h1, h2, h3, h4, h5, h6, h7, h8⟩ := h.led
  have hp : (pk8 k).ok := ⟨by show k ≤ 100000; omega, by show 100 ≤ _; omega, by show 10 * k ≤ _; omega, by show 0 ≤ _; omega, by show 0 ≤ _; omega, by show 0 ≤ _; omega⟩
  refine (send_any b rb g s wr h1 h2 (pk8 k) hp h4.symm (by omega)).mono ?_
  rintro e w' ⟨rfl, ⟨g', kb, m1, m2, m3, m4⟩, m5⟩
  have hsz := h.bel.size
  refine ⟨by rw [h4], ⟨⟨rb, g', _, m1, LS.push_ok h2 hp h4.symm (by omega) m2, ?_, by show s.next + 1 = _; omega, h5, h6, h7, fun x hx => ?_⟩, below_fr h.bel m5 h8⟩⟩
  · rw [outP_push, h3]
    unfold pks
    rw [List.range_succ, List.map_append]
    rfl
  · have hx8 : ∀ y, y = b ∨ y = rb ∨ y = g ∨ y ∈ s.ks.map Kp.b → w.heap.size ≤ y := fun y hy => h8 y (by simpa [blocksL] using hy)
    simp only [blocksL, LS.push, List.map_append, List.mem_cons, List.mem_append, List.map_cons, List.map_nil, List.not_mem_nil, or_false] at hx
    rcases hx with rfl | rfl | rfl | hx | rfl
    · exact hx8 _ (.inl rfl)
    · exact hx8 _ (.inr (.inl rfl))
    · rcases m3 with rfl | m3
      · exact hx8 _ (.inr (.inr (.inl rfl)))
      · omega
    · exact hx8 _ (.inr (.inr (.inr hx)))
    · omega
theorem al_end {w wr w' : World} {b rb g : Nat} {s : LS} {P' : List Pk} {nx' top' : Nat} {tp' : Bool} {P : List Pk} {nx top : Nat} {tp : Bool} (h : Al w b P nx top tp wr) (h8 : ∀ x ∈ blocksL b rb g s, w.heap.size ≤ x) (k : LedEnd wr b rb g s (fun s' => outP s'.ks = P' ∧ s'.next = nx' ∧ s'.reorder = 2 ∧ s'.top = top' ∧ s'.topped = tp') w') : Al w b P' nx' top' tp' w' := by
  obtain ⟨⟨rb', g', s', k1, k2, ⟨k3, k4, k5, k6, k7⟩, k8⟩, k9⟩ := k
  have hsz := h.bel.size
  refine ⟨⟨rb', g', s', k1, k2, k3, k4, k5, k6, k7, fun x hx => ?_⟩, below_fr h.bel k9 h8⟩
  rcases k8 x hx with c | c
  · exact h8 x c
  · omega
theorem al_ack {w wr : World} {b c : Nat} {p : Option Addr} (h : Al w b (pks 4) 4 0 false wr) (hl : Its wr p ([⟨3, 9⟩] : List Rn)) :
    Calls Try.prog 9 #[.pointer (some ⟨b, 0, none⟩), .slice p 1 c] wr fun e w' => ∃ v, e = .returned (.tuple #[v, .int .i64 0]) ∧ PR w' v [pk8 3] ∧ Al w b [pk8 0, pk8 1, pk8 2] 4 3 true w' := by
  obtain ⟨rb, g, s, h1, h2, h3, h4, h5, h6, h7, h8⟩ := h.led
  refine (ack_any b rb g p c [⟨3, 9⟩] s wr h1 h2 hl (by simp) (by decide) (fun r hr => by
    simp only [List.mem_cons, List.not_mem_nil, or_false] at hr
    subst hr
    exact (⟨by decide, by decide⟩ : Rn.u64 ⟨3, 9⟩))).mono ?_
  rintro e w' ⟨Q, hQ, ⟨v, rfl, k1, k2⟩, k3⟩
  have q : ∀ i, inQp Q (pk8 i) = decide (3 ≤ i ∧ i ≤ 9) := fun i => by
    rw [Bool.eq_iff_iff, inQp_iff, hQ.mem, decide_eq_true_eq]
    constructor
    · rintro (c | ⟨r, hr, c⟩)
      · exact absurd c (inR_nil _)
      · simp at hr; subst hr; exact c
    · intro c
      exact .inr ⟨_, List.mem_cons_self, c⟩
  have e4 : pks 4 = [pk8 0, pk8 1, pk8 2, pk8 3] := rfl
  have f1 : (outP s.ks).filter (inQp Q) = [pk8 3] := by
    rw [h3, e4]
    simp [q]
  have f2 : (outP s.ks).filter (fun x => !inQp Q x) = [pk8 0, pk8 1, pk8 2] := by
    rw [h3, e4]
    simp [q]
  rw [f1] at k1 k3
  rw [f2] at k3
  refine ⟨v, rfl, k1, al_end h h8 (k3.imp fun s' k => ⟨k.1, by rw [k.2.2.1, h4], by rw [k.2.1, h5], by rw [k.2.2.2.1, h6]; rfl, by rw [k.2.2.2.2]; simp⟩)⟩
theorem al_lost {w wr : World} {b : Nat} (h : Al w b [pk8 0, pk8 1, pk8 2] 4 3 true wr) :
    Calls Try.prog 10 #[.pointer (some ⟨b, 0, none⟩), .int .u64 25, .int .u64 15, .int .u64 1000] wr fun e w' => ∃ v, e = .returned v ∧ PR w' v [pk8 0, pk8 1] ∧ Al w b [pk8 2] 4 3 true w' ∧ ∀ v' l, PR wr v' l → PR w' v' l := by
  obtain ⟨rb, g, s, h1, h2, h3, h4, h5, h6, h7, h8⟩ := h.led
  refine (lost_any b rb g 25 15 1000 s wr h1 h2 (by omega) (by omega)).mono ?_
  rintro e w' ⟨⟨v, rfl, k1, k2⟩, k3⟩
  have q0 : lostB s 25 15 1000 (pk8 0) = true := by unfold lostB overB passB; rw [h5, h6, h7]; decide
  have q1 : lostB s 25 15 1000 (pk8 1) = true := by unfold lostB overB passB; rw [h5, h6, h7]; decide
  have q2 : lostB s 25 15 1000 (pk8 2) = false := by unfold lostB overB passB; rw [h5, h6, h7]; decide
  have f1 : (outP s.ks).filter (lostB s 25 15 1000) = [pk8 0, pk8 1] := by
    rw [h3]
    simp [q0, q1, q2]
  have f2 : (outP s.ks).filter (fun x => !lostB s 25 15 1000 x) = [pk8 2] := by
    rw [h3]
    simp [q0, q1, q2]
  rw [f1] at k1
  rw [f2] at k3
  refine ⟨v, rfl, k1, al_end h h8 (k3.imp fun s' k => ⟨k.1, by rw [k.2.2.1, h4], by rw [k.2.1, h5], by rw [k.2.2.2.1, h6], by rw [k.2.2.2.2, h7]⟩), fun v' l hv => ?_⟩
  exact hv.fr k3.fr (fun k e => by
    obtain ⟨cs, hc⟩ := hv.blk e
    exact h1.off hc (by decide) (by decide) (by decide) (by decide))
theorem al_infl {w wr : World} {b : Nat} (h : Al w b [pk8 2] 4 3 true wr) :
    Calls Try.prog 17 #[.pointer (some ⟨b, 0, none⟩)] wr fun e w' => e = .returned (.int .u64 100) ∧ w' = wr := by
  obtain ⟨rb, g, s, h1, h2, h3, h4, h5, h6, h7, h8⟩ := h.led
  refine (inflight_any b rb g s wr h1).mono ?_
  rintro e w' ⟨rfl, rfl⟩
  have : tot s.ks = 100 := by unfold tot; rw [h3]; rfl
  rw [this]
  exact ⟨rfl, rfl⟩
theorem al_top {w wr : World} {b : Nat} (h : Al w b [pk8 2] 4 3 true wr) :
    Calls Try.prog 16 #[.pointer (some ⟨b, 0, none⟩)] wr fun e w' => e = .returned (.tuple #[.int .u64 3, .bool true]) ∧ Drawn wr w' := by
  obtain ⟨rb, g, s, h1, h2, h3, h4, h5, h6, h7, h8⟩ := h.led
  refine (top_any b rb g s wr h1).mono ?_
  rintro e w' ⟨rfl, k⟩
  rw [h6, h7]
  exact ⟨rfl, k⟩
theorem al_next {w wr : World} {b : Nat} (h : Al w b [pk8 2] 4 3 true wr) :
    Calls Try.prog 18 #[.pointer (some ⟨b, 0, none⟩)] wr fun e w' => e = .returned (.int .u64 4) ∧ w' = wr := by
  obtain ⟨rb, g, s, h1, h2, h3, h4, h5, h6, h7, h8⟩ := h.led
  refine (next_any b rb g s wr h1).mono ?_
  rintro e w' ⟨rfl, rfl⟩
  rw [h4]
  exact ⟨rfl, rfl⟩

set_option maxHeartbeats 2000000 in
theorem alive08 (w : World) : Calls Try.prog 6 #[] w fun e w' => e = .returned (.bool true) ∧ Below w.heap.size w w' := by
  have HN := Lib.hid (new_any 2 w)
  have HN' : Hid (Calls Try.prog 7 #[.int .u64 2] w (NewL w (LS.empty 2))) := Lib.hid HN.out
  clear HN
  go_enter Try.func6, Try.ntmps6
  go_wp2_with fail
  refine (HN'.out).mono ?_
  rintro e w1 ⟨⟨b, rb, g, rfl, hl, hx⟩, hw⟩
  have H0 : Hid (Al w b (pks 0) 0 0 false w1) := Lib.hid ⟨⟨rb, g, _, hl, LS.empty_ok (by omega), rfl, rfl, rfl, rfl, rfl, hx⟩, hw⟩
  clear hl hx hw HN'
  go_wp2
  go_loopw [2] (fun i wr => ∃ k : Nat, i = .int .u64 (k : Int) ∧ k ≤ 4 ∧ Al w b (pks k) k 0 false wr) (fun i _ => 4 - (intOf i).toNat)
  case atStart => exact ⟨0, rfl, by omega, H0.out⟩
  case round =>
    obtain ⟨k, rfl, hk, hA⟩ := hrel
    clear H0
    by_cases hlt : k < 4
    · have HA : Hid (Calls Try.prog 8 #[.pointer (some ⟨b, 0, none⟩), .int .u64 100, .agg #[.int .u64 (10 * (k : Int)), .int .u64 0, .int .u64 0, .int .u64 0, .bool false]] wr fun e w' => e = .returned (.int .u64 (k : Int)) ∧ Al w b (pks (k + 1)) (k + 1) 0 false w') := Lib.hid (by
        have e : ((10 * k : Nat) : Int) = 10 * (k : Int) := by omega
        rw [← e]
        exact al_send hA (by omega))
      clear hA
      have hd : decide ((k : Int) < 4) = true := by simp; omega
      go_wp2_with fail
      refine (HA.out).mono ?_
      rintro e w2 ⟨rfl, h2⟩
      have H2 := Lib.hid h2
      clear h2 HA
      go_wp2
      go_roundw
      case rel => exact ⟨k + 1, by go_num, by omega, H2.out⟩
      case measure => simp [intOf]; omega
    · obtain rfl : k = 4 := by omega
      have HA := Lib.hid hA
      clear hA
      have HK : Hid (Calls Try.prog 9 #[.pointer (some ⟨b, 0, none⟩), .slice (some ⟨wr.heap.size, 0, none⟩) 1 1] (wr.alloc (.cells #[.int .u64 3, .int .u64 9] 56)) fun e w' => ∃ v, e = .returned (.tuple #[v, .int .i64 0]) ∧ PR w' v [pk8 3] ∧ Al w b [pk8 0, pk8 1, pk8 2] 4 3 true w') := Lib.hid (al_ack (HA.out.keep ((Below.refl _ _).alloc (Nat.le_refl _) _)) (fun _ => ⟨_, 0, rfl, by simp, fun i j hi hj => by
        have hb := Blk.new wr 56 #[.int .u64 3, .int .u64 9]
        have hi' : i = 0 := by simpa using hi
        subst hi'
        have k2 : Itm.k Rn = 2 := rfl
        rw [k2] at hj
        have hj' : j = 0 ∨ j = 1 := by omega
        rcases hj' with rfl | rfl
        · exact hb.cell (i := 0) rfl
        · exact hb.cell (i := 1) rfl⟩))
      go_wp2_with fail
      refine (HK.out).mono ?_
      rintro e w2 ⟨va, rfl, ha, h2⟩
      obtain ⟨pa, ca, rfl⟩ := ha.form
      have HL := Lib.hid (al_lost h2)
      have HPa := Lib.hid ha
      clear ha h2 HK HA
      go_wp2_with fail
      refine (HL.out).mono ?_
      rintro e w3 ⟨vb, rfl, hb, h3, hk3⟩
      obtain ⟨pb, cb, rfl⟩ := hb.form
      have HPa3 := Lib.hid (hk3 _ _ HPa.out)
      have HPb := Lib.hid hb
      have H3 := Lib.hid h3
      have HI := Lib.hid (al_infl h3)
      have HT := Lib.hid (al_top h3)
      clear HL HPa hb h3 hk3
      go_wp2_with fail
      refine (HI.out).mono ?_
      rintro e w4 ⟨rfl, rfl⟩
      clear HI
      go_wp2_with fail
      refine (HT.out).mono ?_
      rintro e w5 ⟨rfl, hd⟩
      obtain ⟨ba, oa, rfl, la, _, ca5⟩ := pr_cell (HPa3.out.drawn hd) (by simp)
      obtain ⟨bb, ob, rfl, lb, _, cb5⟩ := pr_cell (HPb.out.drawn hd) (by simp)
      have a0 : w5.cell? ⟨ba, oa, none⟩ = some (.int .u64 3) := ca5 0 (by simp)
      have b1 : w5.cell? ⟨bb, ob + 7, none⟩ = some (.int .u64 1) := cb5 1 (by simp)
      have HX := Lib.hid (al_next (H3.out.keep (hd.below _)))
      have H5 := Lib.hid (H3.out.keep (hd.below _)).bel
      clear HT HPa3 HPb H3 hd ca5 cb5
      go_wp2_with (go_at_call 18; refine (HX.out).mono ?_; rintro e w6 ⟨rfl, rfl⟩)
      go_ret
      exact ⟨rfl, H5.out⟩
end Go.Proofs.Ytcabdpnefgkaeaa
