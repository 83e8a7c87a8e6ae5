/- slices.Grow, slices.ContainsFunc, slices.Concat of ranges, over this translation. -/
import Derived.Test.YtfpopbhbhdhdnaaSp
import Derived.Test.YtfpopbhbhdhdnaaSga
set_option linter.unusedVariables false
namespace Go.Proofs.Ytfpopbhbhdhdnaa
open Go.RowKit

theorem grow_any (n : Nat) (w : World) (hn : n ≤ 1000) : Calls Try.prog 64 #[.slice none 0 0, .int .i64 (n : Int)] w fun e w' => ∃ v, e = .returned v ∧ RR w' v [] ∧ Below w.heap.size w w' ∧ ∀ g, v.ownBlock = some g → w.heap.size ≤ g := by
  obtain ⟨i0, hi, hz0, hz1, hz2⟩ := info_parts rn_info
  by_cases h0 : n = 0
  · subst h0
    refine (Any8.slices_Grow_room Try.growR none 0 0 0 w (Nat.le_refl _) (by omega) (by omega) (Nat.le_refl _)).mono ?_
    rintro e w' ⟨rfl, rfl⟩
    exact ⟨_, rfl, RR.nil _, Below.refl _ _, fun g h => by cases h⟩
  · refine (Any8.slices_Grow_grow Try.growR i0 (.agg #[.int .u64 0, .int .u64 0]) hi hz0 (by omega) none 0 0 n [] w (Nat.le_refl _) (by omega) (by rw [hz2]; omega) (by omega) (by simp) (fun _ => rfl) (fun a h => by cases h)).mono ?_
    rintro e w' ⟨rfl, rfl⟩
    have hge := grownCap_ge w (0 + n) 0 56
    have hm : grownCap w (0 + n) 0 56 ≤ maxLen := grownCap_le_maxLen _ _ _ _ (by unfold maxLen; omega)
    have e25 : Try.growR_ren.t 25 = 56 := rfl
    rw [e25]
    generalize grownCap w (0 + n) 0 56 = c at hge hm ⊢
    refine ⟨_, rfl, RR.mk (cur := _) rfl (Blk.new _ _ _) (Nat.zero_le _) hm ?_ rfl, ?_, fun g h => ?_⟩
    · simp [Builtin.zeroCells, Value.cells]; omega
    · exact (Below.refl w.heap.size w).drew.alloc (Nat.le_refl _) _
    · simp [Value.ownBlock] at h; omega

theorem any_not (l : List Rn) : l.any (fun x => !okB x) = !(l.all okB) := by
  induction l with
  | nil => rfl
  | cons x t ih => rw [List.any_cons, List.all_cons, ih, Bool.not_and]
theorem contains_any (l : List Rn) (b off cap : Nat) (w : World) (h : Its w (some ⟨b, off, none⟩) l) (hp : 0 < l.length) (hb : l.length ≤ 1000) :
    Calls Try.prog 41 #[.slice (some ⟨b, off, none⟩) l.length cap, .func (.func 42) #[] #[]] w fun e w' => e = .returned (.bool (!(l.all okB))) ∧ Below w.heap.size w w' := by
  obtain ⟨b', off', e, hlt, hc⟩ := its_two h hp
  injection e with e1 e2
  subst e1 e2
  have eg : ∀ args w, (callFunc 42 args).run Try.prog w = .ok (.enter 42 args) w := enters_of Try.func42 (by kernel_rfl) rfl
  have hcon := AnyQ.slices_ContainsFunc Try.containsR 2 Try.isAgg56 Try.sizeOf56 (Itm.cs (α := Rn)) (fun x => Itm.len x) (fun x => !okB x) 42 #[] eg b off l.length cap l w
    (fun W x hb => (wrong_any x W).mono fun e w' ⟨he, hw⟩ => ⟨he, bel_to hb hw hb.size⟩) (Nat.le_refl _) (by omega) hlt (fun j hj i v hi => by
      have h1 := hc j hj
      rw [show l[j]! = l.getD j Itm.z by simp [List.getD_eq_getElem?_getD, hj]] at hi
      generalize l.getD j Itm.z = y at hi h1
      match i, hi with
      | 0, hi => simp [Itm.cs] at hi; rw [← hi]; exact h1.1
      | 1, hi => simp [Itm.cs] at hi; rw [← hi]; exact h1.2
      | i + 2, hi => simp [Itm.cs] at hi)
  change Calls Try.prog 41 _ _ _ at hcon
  refine hcon.mono fun e w' ⟨he, hw⟩ => ⟨?_, hw⟩
  rw [he, List.take_length]
  rw [any_not]

/-- What Concat hands back: a new row. -/
def NewRow (w : World) (l : List Rn) (e : Ending) (w' : World) : Prop := ∃ v, e = .returned v ∧ RR w' v l ∧ Below w.heap.size w w' ∧ ∀ g, v.ownBlock = some g → w.heap.size ≤ g

set_option maxHeartbeats 400000 in
theorem concat_none (p : Option Addr) (cap : Nat) (w : World) :
    Calls Try.prog 44 #[.slice p 0 cap] w (NewRow w []) := by
  have hg := (grow_any 0 w (by decide))
  go_enter Try.func44, Try.ntmps44
  go_wp2
  go_loop [3, 11] (fun s i => s = .int .i64 0 ∧ i = .int .i64 0) (fun _ _ => 0)
  case atStart => exact ⟨rfl, rfl⟩
  case round =>
    obtain ⟨rfl, rfl⟩ := hrel
    go_wp2_with fail
    refine hg.mono ?_
    rintro e w' ⟨v, rfl, h1, h2, h3⟩
    have H1 := Lib.hid h1
    have H2 := Lib.hid h2
    have H3 := Lib.hid h3
    clear h1 h2 h3 hg
    go_wp2
    go_loop [6, 27] (fun s i => s = v ∧ i = .int .i64 0) (fun _ _ => 0)
    case atStart => exact ⟨rfl, rfl⟩
    case round =>
      obtain ⟨rfl, rfl⟩ := hrel
      go_wp2
      go_ret
      exact ⟨_, rfl, H1.out, H2.out, H3.out⟩
set_option maxHeartbeats 400000 in
theorem concat_one (b off : Nat) (cap : Nat) (p : Option Addr) (c : Nat) (l : List Rn) (w : World) (hb : b < w.heap.size) (hc : w.cell? ⟨b, off, none⟩ = some (.slice p l.length c)) (hl : Its w p l) (hp : 0 < l.length) (hm : l.length ≤ 1000) :
    Calls Try.prog 44 #[.slice (some ⟨b, off, none⟩) 1 cap] w (NewRow w l) := by
  have hg := Lib.hid (grow_any l.length w hm)
  have HL := Lib.hid hl
  have HB := Lib.hid hb
  have HC := Lib.hid hc
  clear hl hb
  go_enter Try.func44, Try.ntmps44
  go_wp2
  go_loop [3, 11] (fun s i => (s = .int .i64 0 ∧ i = .int .i64 0) ∨ (s = .int .i64 (l.length : Int) ∧ i = .int .i64 1)) (fun _ i => 1 - (intOf i).toNat)
  case atStart => exact .inl ⟨rfl, rfl⟩
  case round =>
    rcases hrel with ⟨rfl, rfl⟩ | ⟨rfl, rfl⟩
    · go_wp2
      go_round
      case rel => exact .inr ⟨by first | rfl | simp, rfl⟩
      case measure => simp [intOf]
    · clear hc
      go_wp2_with fail
      refine (hg.out).mono ?_
      rintro e w' ⟨v, rfl, h1, h2, h3⟩
      have H1 := Lib.hid h1
      have H2 := Lib.hid h2
      have H3 := Lib.hid h3
      have hc1 := Lib.hid ((h2.cell (p := ⟨b, off, none⟩) HB.out).trans HC.out)
      have HL1 := Lib.hid (HL.out.keep h2)
      clear h1 h2 h3 hg
      go_wp2
      go_loopw [6, 27] (fun s i wr => (v = s ∧ i = .int .i64 0 ∧ w' = wr) ∨ (i = .int .i64 1 ∧ RR wr s l ∧ Below w.heap.size w wr ∧ ∀ g, s.ownBlock = some g → w.heap.size ≤ g)) (fun _ i _ => 1 - (intOf i).toNat)
      case atStart => exact .inl ⟨rfl, rfl, rfl⟩
      case round =>
        rcases hrel with ⟨rfl, rfl, rfl⟩ | ⟨rfl, h1, h2, h3⟩
        · have hc := hc1.out
          go_wp2_with (at_builtin; (refine wpList_append_rr rfl _ _ rfl v [] rfl H1.out p l.length c l rfl rfl hp HL1.out (by simp; omega) ?_); intro g' cap' w2 hR hgr hat)
          have hR' : Hid (RR w2 (.slice (some ⟨g', 0, none⟩) l.length cap') l) := Lib.hid (by simpa using hR)
          have HG := Lib.hid hgr
          have HA := Lib.hid hat
          clear hR hgr hat
          go_wp2
          go_roundw
          case rel =>
            refine .inr ⟨rfl, by simpa using hR'.out, ?_, ?_⟩
            · refine H2.out.grown HG.out H2.out.size (fun k e => H3.out k e)
            · intro g e
              simp [Value.ownBlock] at e
              subst e
              rcases HA.out with k | k
              · exact H3.out _ k.symm
              · rw [k]; exact H2.out.size
          case measure => simp [intOf]
        · have H4 := Lib.hid h1
          have H5 := Lib.hid h2
          have H6 := Lib.hid h3
          clear h1 h2 h3
          go_wp2
          go_ret
          exact ⟨_, rfl, H4.out, H5.out, H6.out⟩
end Go.Proofs.Ytfpopbhbhdhdnaa
