/- place and around over this translation. -/
import Derived.Test.YtgjlbilbjgolpaaTc
set_option linter.unusedVariables false
namespace Go.Proofs.Ytgjlbilbjgolpaa
open Go.RowKit

def PlacePost (L : List Rn) (m : Nat) (w : World) (e : Ending) (w' : World) : Prop := ∃ i, PlaceAt L m i ∧ e = .returned (.int .i64 (i : Int)) ∧ Below w.heap.size w w'
theorem place_any (p : Option Addr) (cap m : Nat) (L : List Rn) (w : World) (hl : Its w p L) (hm : L.length ≤ 1000) (hC : Canon L) :
    Calls Try.prog 26 #[.slice p L.length cap, .int .u64 (m : Int)] w (PlacePost L m w) := by
  have hb := Lib.hid (bs41_any p cap m L w hl hm hC)
  clear hl hC
  go_enter Try.func26, Try.ntmps26
  go_wp2_with fail
  refine (hb.out).mono ?_
  rintro e w1 ⟨i, f, hp, rfl, hw⟩
  have HW := Lib.hid hw
  have HP := Lib.hid hp
  clear hw hp
  go_wp2
  go_ret
  exact ⟨i, HP.out, rfl, HW.out⟩

/-- The range that has a number, or none. -/
def AroundPost (L : List Rn) (n : Nat) (w : World) (e : Ending) (w' : World) : Prop :=
  ∃ (r : Rn) (f : Bool), e = .returned (.tuple #[r.agg, .bool f]) ∧ Below w.heap.size w w' ∧ (f = true → r ∈ L ∧ r.a ≤ n ∧ n ≤ r.b) ∧ (f = false → ¬ InR L n)

theorem lastB_at {L : List Rn} (hp : 0 < L.length) : lastB L = (L.getD (L.length - 1) Itm.z).b := rfl
theorem place_lt {L : List Rn} {n i : Nat} (hp : 0 < L.length) (h : PlaceAt L n i) (hb : blockN L n = 0) : i < L.length := by
  rcases Nat.lt_or_ge i L.length with c | c
  · exact c
  · have := h.lo (L.length - 1) (by omega)
    rw [← lastB_at hp] at this
    unfold blockN at hb
    rw [if_pos ⟨hp, this⟩] at hb
    omega
theorem none_of_last {L : List Rn} (hC : Canon L) {n : Nat} (hb : blockN L n = 1) : ¬ InR L n := by
  rintro ⟨r, hr, h1, h2⟩
  unfold blockN at hb
  split at hb
  · rename_i c
    obtain ⟨t, ht, e⟩ := List.mem_iff_getElem.1 hr
    have e' : L.getD t Itm.z = r := by simp [List.getD_eq_getElem?_getD, ht, e]
    have c2 := c.2
    rw [lastB_at c.1] at c2
    by_cases q : t = L.length - 1
    · subst q; rw [e'] at c2; omega
    · have := hC.rise (s := t) (t := L.length - 1) (by omega) (by omega)
      rw [e'] at this; omega
  · omega
theorem place_mem {L : List Rn} {n i : Nat} (h : PlaceAt L n i) (hi : i < L.length) : L.getD i Itm.z ∈ L ∧ n ≤ (L.getD i Itm.z).b := ⟨by simp [List.getD_eq_getElem?_getD, hi], h.hi i (Nat.le_refl _) hi⟩
theorem place_none {L : List Rn} {n i : Nat} (hC : Canon L) (h : PlaceAt L n i) (hi : i < L.length) (ha : n < (L.getD i Itm.z).a) : ¬ InR L n := by
  rintro ⟨r, hr, h1, h2⟩
  obtain ⟨t, ht, e⟩ := List.mem_iff_getElem.1 hr
  have e' : L.getD t Itm.z = r := by simp [List.getD_eq_getElem?_getD, ht, e]
  rcases Nat.lt_trichotomy t i with c | c | c
  · have := h.lo t c; rw [e'] at this; omega
  · subst c; rw [e'] at ha; omega
  · have q := List.pairwise_iff_getElem.1 hC.apart i t hi ht c
    have e2 : L.getD i Itm.z = L[i] := by simp [List.getD_eq_getElem?_getD, hi]
    rw [e2] at ha
    have := (hC.ok L[i] (List.getElem_mem hi)).le
    rw [e] at q; omega

theorem row_cells {w : World} {L : List Rn} {rg n rc : Nat} (h : RR w (.slice (some ⟨rg, 0, none⟩) n rc) L) (hp : 0 < L.length) : rg < w.heap.size ∧ ∀ i, i < L.length → w.cell? ⟨rg, i * 2, none⟩ = some (.int .u64 ((L.getD i Itm.z).a : Int)) ∧ w.cell? ⟨rg, i * 2 + 1, none⟩ = some (.int .u64 ((L.getD i Itm.z).b : Int)) := by
  obtain ⟨b9, o9, e9, hb9, hc9⟩ := its_two h.its hp
  injection e9 with e91 e92
  subst e91
  subst e92
  refine ⟨hb9, fun i hi => ?_⟩
  have := hc9 i hi
  rw [Nat.zero_add] at this
  exact this

set_option maxHeartbeats 4000000 in
theorem around_any (b : Nat) (X : List Nat) (L : List Rn) (n : Nat) (w : World) (h : SetAt w b X L) (hm : L.length ≤ 1000) (hC : Canon L) :
    Calls Try.prog 22 #[.pointer (some ⟨b, 0, none⟩), .int .u64 (n : Int)] w (AroundPost L n w) := by
  have hbl := fun W (k : Below w.heap.size w W) => block_any b X L n W (h.keep k) hm
  have HBl := Lib.hid hbl
  have HC := Lib.hid hC
  have HA : Hid (Below w.heap.size w (w.alloc (.cells #[.int .u64 0, .int .u64 0] 31))) := Lib.hid ((Below.refl _ _).alloc (Nat.le_refl _) _)
  obtain ⟨v, hb, hx, hv, hr⟩ := h
  have HB := Lib.hid hb
  have hlt := hb.lt
  have HZ : Hid (Blk (w.alloc (.cells #[.int .u64 0, .int .u64 0] 31)) w.heap.size 31 #[.int .u64 0, .int .u64 0]) := Lib.hid (Blk.new _ _ _)
  clear hbl hb hC
  rcases hr with ⟨rfl, p, cap, rfl, ho⟩ | ⟨hp, g, cap, rg, rc, rfl, ho, hr, hxr⟩
  · have HE : Hid (¬ InR [] n) := Lib.hid (inR_nil n)
    clear ho hv
    go_enter Try.func22, Try.ntmps22
    have C1 := Lib.hid (HBl.out _ HA.out)
    go_wp2_with fail
    have hq : blockN [] n = 0 := rfl
    rw [hq] at C1
    clear hq
    refine (C1.out).mono ?_
    rintro e w1 ⟨rfl, hw⟩
    have B1 := Lib.hid (HA.out.trans (hw.mono HA.out.size))
    have Z1 := Lib.hid (HZ.out.keep hw)
    clear hw C1
    have c0 := (HB.out.below B1.out HB.out.lt).cell (i := 0) (v := .slice p 0 cap) rfl
    have z0 := Z1.out.cell (i := 0) (v := .int .u64 0) rfl
    have z1 := Z1.out.cell (i := 1) (v := .int .u64 0) rfl
    have y0 := Z1.out.free 0
    have y1 := Z1.out.free 1
    go_wp2
    have F1 := (Z1.out.set 0 (.int .u64 0)).set 1 (.int .u64 0)
    have F2 := (B1.out.setCell (p := ⟨w.heap.size, 0, none⟩) (Nat.le_refl _) (.int .u64 0)).setCell (p := ⟨w.heap.size, 1, none⟩) (Nat.le_refl _) (.int .u64 0)
    exact bodyPost_ret (results_cell_tmp rfl _ _ w.heap.size 31 _ _ rfl F1 Try.underlying31 rfl (by kernel_rfl)) rfl ⟨⟨0, 0⟩, false, rfl, F2, (fun h => by cases h), fun _ => HE.out⟩
  · have hcell := RR.cell1 ho
    have HG := Lib.hid hcell
    have hgl := World.block_lt_of_cell? _ _ hcell
    have HPl := fun W (k : Below w.heap.size w W) => place_any (some ⟨rg, 0, none⟩) rc n L W (hr.its.keep k) hm HC.out
    have HP := Lib.hid HPl
    have hrow := row_cells hr hp
    have hrgl := hrow.1
    have HRow := Lib.hid hrow.2
    clear hrow
    clear HPl hcell ho hr hv
    go_enter Try.func22, Try.ntmps22
    have c1 := HBl.out _ HA.out
    rcases blockN_01 L n with hq | hq
    all_goals
      rw [hq] at c1
      have HQ := Lib.hid hq
      clear hq
      have C1 := Lib.hid c1
      clear c1
      go_wp2_with fail
      refine (C1.out).mono ?_
      rintro e w1 ⟨rfl, hw⟩
      have B1 := Lib.hid (HA.out.trans (hw.mono HA.out.size))
      have Z1 := Lib.hid (HZ.out.keep hw)
      clear hw C1
      have c0 := (HB.out.below B1.out HB.out.lt).cell (i := 0) (v := .slice (some ⟨g, 0, none⟩) 1 cap) rfl
      have z0 := Z1.out.cell (i := 0) (v := .int .u64 0) rfl
      have z1 := Z1.out.cell (i := 1) (v := .int .u64 0) rfl
      have y0 := Z1.out.free 0
      have y1 := Z1.out.free 1
    · have g0 := (B1.out.cell (p := ⟨g, 0, none⟩) hgl).trans HG.out
      have P2 := Lib.hid (HP.out w1.drew (B1.out.trans ((Drawn.drew w1).below _)))
      have hs1 : w.heap.size ≠ b := by omega
      have hs2 : w.heap.size ≠ g := by have : g < w.heap.size := hgl; omega
      go_wp2_with fail
      have c0' : w1.drew.cell? ⟨b, 0, none⟩ = some (.slice (some ⟨g, 0, none⟩) 1 cap) := c0
      have g0' : w1.drew.cell? ⟨g, 0, none⟩ = some (.slice (some ⟨rg, 0, none⟩) L.length rc) := g0
      go_region_with
        (first | (go_at_call 26; ((with_reducible refine (P2.out).mono ?_); rintro e w3 ⟨i, hpi, rfl, hw3⟩); have hil := place_lt hp hpi HQ.out; have hpi' := hpi; have B3 : Hid (Below w.heap.size w w3) := Lib.hid ((B1.out.trans ((Drawn.drew w1).below _)).trans (hw3.mono B1.out.size)); have Z3 := Lib.hid ((Z1.out.drew).keep hw3); clear hpi hw3; have c3 := (HB.out.below B3.out HB.out.lt).cell (i := 0) (v := .slice (some ⟨g, 0, none⟩) 1 cap) rfl; have g3 := (B3.out.cell (p := ⟨g, 0, none⟩) hgl).trans HG.out; have q0 := (B3.out.cell (p := ⟨rg, i * 2, none⟩) hrgl).trans (HRow.out i hil).1; have q1 := (B3.out.cell (p := ⟨rg, i * 2 + 1, none⟩) hrgl).trans (HRow.out i hil).2; have pm := place_mem hpi' hil; have pn := fun h => place_none HC.out hpi' hil h; generalize L.getD i Itm.z = r at pm pn q0 q1; have PM := Lib.hid pm; have PN := Lib.hid pn; clear pm pn hpi'; have i0 : (0 : Int) ≤ (i : Int) := (by omega); have i1 : (i : Int) < (L.length : Int) := (by omega); have x0 := Z3.out.cell (i := 0) (v := .int .u64 0) rfl; have x1 := Z3.out.cell (i := 1) (v := .int .u64 0) rfl; have v0 := Z3.out.free 0; have v1 := Z3.out.free 1))
      all_goals
        have F1 := Lib.hid ((Z3.out.set 0 (.int .u64 (r.a : Int))).set 1 (.int .u64 (r.b : Int)))
        have F2 := Lib.hid ((B3.out.setCell (p := ⟨w.heap.size, 0, none⟩) (Nat.le_refl _) (.int .u64 (r.a : Int))).setCell (p := ⟨w.heap.size, 1, none⟩) (Nat.le_refl _) (.int .u64 (r.b : Int)))
        clear q0 q1 x0 x1 v0 v1 c3 g3 c0' g0' c0 g0 z0 z1 y0 y1 i0 i1 hil
        generalize ((w3.setCell ⟨w.heap.size, 0, none⟩ (.int .u64 (r.a : Int))).setCell ⟨w.heap.size, 1, none⟩ (.int .u64 (r.b : Int))) = w4 at *
        have m0 := F1.out.cell (i := 0) (v := .int .u64 (r.a : Int)) rfl
        have m1 := F1.out.cell (i := 1) (v := .int .u64 (r.b : Int)) rfl
        have n0 := F1.out.free 0
        have n1 := F1.out.free 1
        have F3 := Lib.hid ((F1.out.set 0 (.int .u64 (r.a : Int))).set 1 (.int .u64 (r.b : Int)))
        have F4 := Lib.hid ((F2.out.setCell (p := ⟨w.heap.size, 0, none⟩) (Nat.le_refl _) (.int .u64 (r.a : Int))).setCell (p := ⟨w.heap.size, 1, none⟩) (Nat.le_refl _) (.int .u64 (r.b : Int)))
        by_cases hrn : r.a ≤ n
        · have hd : decide ((r.a : Nat) ≤ n) = true := by simp; exact hrn
          have HRn := Lib.hid hrn
          clear hrn
          go_wp2
          exact bodyPost_ret (results_cell_tmp rfl _ _ w.heap.size 31 _ _ rfl F3.out Try.underlying31 rfl (by kernel_rfl)) rfl ⟨r, true, rfl, F4.out, (fun _ => ⟨PM.out.1, HRn.out, PM.out.2⟩), fun h => by cases h⟩
        · have hd : decide ((r.a : Nat) ≤ n) = false := by simp; omega
          have HRn := Lib.hid hrn
          clear hrn
          go_wp2
          exact bodyPost_ret (results_cell_tmp rfl _ _ w.heap.size 31 _ _ rfl F3.out Try.underlying31 rfl (by kernel_rfl)) rfl ⟨r, false, rfl, F4.out, (fun h => by cases h), fun _ => PN.out (by have := HRn.out; omega)⟩
    · go_wp2
      have F1 := (Z1.out.set 0 (.int .u64 0)).set 1 (.int .u64 0)
      have F2 := (B1.out.setCell (p := ⟨w.heap.size, 0, none⟩) (Nat.le_refl _) (.int .u64 0)).setCell (p := ⟨w.heap.size, 1, none⟩) (Nat.le_refl _) (.int .u64 0)
      exact bodyPost_ret (results_cell_tmp rfl _ _ w.heap.size 31 _ _ rfl F1 Try.underlying31 rfl (by kernel_rfl)) rfl ⟨⟨0, 0⟩, false, rfl, F2, (fun h => by cases h), fun _ => none_of_last HC.out HQ.out⟩
end Go.Proofs.Ytgjlbilbjgolpaa
