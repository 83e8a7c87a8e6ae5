/- Where a number's range is, in a block, over this translation. -/
import Derived.Test.YtgjlbilbjgolpaaTb
set_option linter.unusedVariables false
namespace Go.Proofs.Ytgjlbilbjgolpaa
open Go.RowKit

/-- How many ranges end below m: these are the first ones. -/
structure PlaceAt (L : List Rn) (m i : Nat) : Prop where
  le : i ≤ L.length
  lo : ∀ t, t < i → (L.getD t Itm.z).b < m
  hi : ∀ t, i ≤ t → t < L.length → m ≤ (L.getD t Itm.z).b
theorem Canon.rise {L : List Rn} (h : Canon L) {s t : Nat} (hst : s < t) (ht : t < L.length) : (L.getD s Itm.z).b < (L.getD t Itm.z).b := by
  have h1 := List.pairwise_iff_getElem.1 h.apart s t (by omega) ht hst
  have h2 := (h.ok L[t] (List.getElem_mem ht)).le
  have e1 : L.getD s Itm.z = L[s] := by simp [List.getD_eq_getElem?_getD, show s < L.length by omega]
  have e2 : L.getD t Itm.z = L[t] := by simp [List.getD_eq_getElem?_getD, ht]
  rw [e1, e2]
  omega
def Srch (L : List Rn) (m : Nat) (i j : Nat) : Prop := i ≤ j ∧ j ≤ L.length ∧ (∀ t, t < i → (L.getD t Itm.z).b < m) ∧ (∀ t, j ≤ t → t < L.length → m ≤ (L.getD t Itm.z).b)
def SrchRel (L : List Rn) (m : Nat) (w : World) (u v : Value) (wr : World) : Prop := ∃ i j : Nat, u = .int .i64 (i : Int) ∧ v = .int .i64 (j : Int) ∧ Srch L m i j ∧ Below w.heap.size w wr
theorem srch_lo {L : List Rn} {m i j h : Nat} {r : Rn} {w w' : World} (hC : Canon L) (hr : L.getD h Itm.z = r) (hb : r.b < m) (s1 : i ≤ j) (s2 : j ≤ L.length) (s3 : ∀ t, t < i → (L.getD t Itm.z).b < m) (s4 : ∀ t, j ≤ t → t < L.length → m ≤ (L.getD t Itm.z).b) (hh : (i + j) / 2 = h) (hlt : i < j) (hB : Below w.heap.size w w') :
    SrchRel L m w (.int .i64 (((i : Int) + (j : Int)) / 2 + 1)) (.int .i64 (j : Int)) w' := by
  refine ⟨h + 1, j, by congr 1; omega, rfl, ⟨by omega, s2, fun t ht => ?_, s4⟩, hB⟩
  by_cases c : t = h
  · subst c; rw [hr]; exact hb
  · have := hC.rise (s := t) (t := h) (by omega) (by omega)
    rw [hr] at this; omega
theorem srch_hi {L : List Rn} {m i j h : Nat} {r : Rn} {w w' : World} (hC : Canon L) (hr : L.getD h Itm.z = r) (hb : ¬ r.b < m) (s1 : i ≤ j) (s2 : j ≤ L.length) (s3 : ∀ t, t < i → (L.getD t Itm.z).b < m) (s4 : ∀ t, j ≤ t → t < L.length → m ≤ (L.getD t Itm.z).b) (hh : (i + j) / 2 = h) (hlt : i < j) (hB : Below w.heap.size w w') :
    SrchRel L m w (.int .i64 (i : Int)) (.int .i64 (((i : Int) + (j : Int)) / 2)) w' := by
  refine ⟨i, h, rfl, by congr 1; omega, ⟨by omega, by omega, s3, fun t ht hl => ?_⟩, hB⟩
  by_cases c : t = h
  · subst c; rw [hr]; omega
  · have := hC.rise (s := h) (t := t) (by omega) hl
    rw [hr] at this; omega
def FoundIn (L : List Rn) (m : Nat) (w : World) (e : Ending) (w' : World) : Prop := ∃ i f, PlaceAt L m i ∧ e = .returned (.tuple #[.int .i64 (i : Int), .bool f]) ∧ Below w.heap.size w w'

set_option maxHeartbeats 1000000 in
theorem bs41_any (p : Option Addr) (cap m : Nat) (L : List Rn) (w : World) (hl : Its w p L) (hm : L.length ≤ 1000) (hC : Canon L) :
    Calls Try.prog 41 #[.slice p L.length cap, .int .u64 (m : Int), .func (.func 40) #[] #[]] w (FoundIn L m w) := by
  have eg : ∀ args w, (callFunc 40 args).run Try.prog w = .ok (.enter 40 args) w := enters_of Try.func40 (by kernel_rfl) rfl
  have HL := Lib.hid hl
  have HC := Lib.hid hC
  clear hl hC
  go_enter Try.func41, Try.ntmps41
  go_wp2
  go_loopw [9, 10] (fun u v wr => SrchRel L m w u v wr) (fun u v _ => (intOf v).toNat - (intOf u).toNat)
  case atStart => exact ⟨0, L.length, rfl, rfl, ⟨Nat.zero_le _, Nat.le_refl _, fun t h => absurd h (by omega), fun t h k => by omega⟩, Below.refl _ _⟩
  case round =>
    obtain ⟨i, j, rfl, rfl, ⟨s1, s2, s3, s4⟩, hB⟩ := hrel
    have H3 := Lib.hid s3
    have H4 := Lib.hid s4
    have HB := Lib.hid hB
    clear s3 s4 hB
    by_cases hlt : i < j
    · obtain ⟨ad, rfl, _⟩ := HL.out.cells (by omega)
      obtain ⟨b, off, rfl, hb, hc⟩ := its_two HL.out (by omega)
      obtain ⟨h, hh⟩ : ∃ h, (i + j) / 2 = h := ⟨_, rfl⟩
      obtain ⟨c0, c1⟩ := hc h (by omega)
      have d0 := (HB.out.cell (p := ⟨b, _, none⟩) hb).trans c0
      have d1 := (HB.out.cell (p := ⟨b, _, none⟩) hb).trans c1
      clear hc c0 c1
      obtain ⟨r, hr⟩ : ∃ r, L.getD h Itm.z = r := ⟨_, rfl⟩
      rw [hr] at d0 d1
      have HR := Lib.hid hr
      clear hr
      have hen := ends_any r m wr
      have hneg := cmpN_neg r.b m
      unfold Rn.agg at hen
      obtain ⟨x, hx⟩ : ∃ x, cmpN r.b m = x := ⟨_, rfl⟩
      rw [hx] at hen hneg
      have HN := Lib.hid hen
      clear hen hx
      have HH := Lib.hid hh
      by_cases hbm : r.b < m
      all_goals
        have hng : decide (x < 0) = decide (r.b < m) := by simp [hneg]
        first | rw [decide_eq_true hbm] at hng | rw [decide_eq_false hbm] at hng
        clear hneg
        go_wp2_with fail
        refine (HN.out).mono ?_
        rintro e w1 ⟨rfl, hw⟩
        have B1 := Lib.hid (bel_to HB.out hw HB.out.size)
        clear hw
        go_wp2
        go_roundw
        case rel => first | exact srch_lo HC.out HR.out hbm s1 s2 H3.out H4.out HH.out hlt B1.out | exact srch_hi HC.out HR.out hbm s1 s2 H3.out H4.out HH.out hlt B1.out
        case measure => simp [intOf]; omega
    · obtain rfl : i = j := by omega
      have HP : Hid (PlaceAt L m i) := Lib.hid ⟨s2, H3.out, H4.out⟩
      by_cases hil : i < L.length
      · obtain ⟨ad, rfl, _⟩ := HL.out.cells (by omega)
        obtain ⟨b, off, rfl, hb, hc⟩ := its_two HL.out (by omega)
        obtain ⟨c0, c1⟩ := hc i hil
        have d0 := (HB.out.cell (p := ⟨b, _, none⟩) hb).trans c0
        have d1 := (HB.out.cell (p := ⟨b, _, none⟩) hb).trans c1
        clear hc c0 c1
        generalize L.getD i Itm.z = r at *
        have hen := ends_any r m wr
        unfold Rn.agg at hen
        generalize cmpN r.b m = x at *
        have HN := Lib.hid hen
        clear hen
        have i0 : (0 : Int) ≤ (i : Int) := by omega
        have i1 : (i : Int) < (L.length : Int) := by omega
        go_wp2_with fail
        refine (HN.out).mono ?_
        rintro e w1 ⟨rfl, hw⟩
        have B1 := Lib.hid (bel_to HB.out hw HB.out.size)
        clear hw
        go_wp2
        go_ret2
        exact ⟨i, _, HP.out, rfl, B1.out⟩
      · have hd : decide ((i : Int) < (L.length : Int)) = false := by simp; omega
        go_wp2
        go_ret2
        exact ⟨i, _, HP.out, rfl, HB.out⟩
end Go.Proofs.Ytgjlbilbjgolpaa
