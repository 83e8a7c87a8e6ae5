/- block and near over this translation. -/
import Derived.Test.YtfpopbhbhdhdnaaSs
set_option linter.unusedVariables false
namespace Go.Proofs.Ytfpopbhbhdhdnaa
open Go.RowKit

theorem blockN_01 (L : List Rn) (n : Nat) : blockN L n = 0 ∨ blockN L n = 1 := by unfold blockN; split <;> simp
def cntN (L : List Rn) : Nat := if L = [] then 0 else 1

theorem block_any (b : Nat) (X : List Nat) (L : List Rn) (n : Nat) (w : World) (h : SetAt w b X L) (hm : L.length ≤ 1000) :
    Calls Try.prog 63 #[.pointer (some ⟨b, 0, none⟩), .int .u64 (n : Int)] w fun e w' => e = .returned (.int .i64 (blockN L n : Int)) ∧ Below w.heap.size w w' := by
  obtain ⟨v, hb, hx, hv, hr⟩ := h
  have hcell := hb.cell (i := 0) rfl
  have HX := Lib.hid hb
  clear hb
  rcases hr with ⟨rfl, p, cap, rfl, ho⟩ | ⟨hp, g, cap, rg, rc, rfl, ho, hrr, hxr⟩
  · have hs := fun W => bs38_none p cap n W
    have e0 : blockN [] n = 0 := by simp [blockN]
    rw [e0]
    clear e0 ho
    have HS := Lib.hid hs
    clear hs
    go_enter Try.func63, Try.ntmps63
    go_wp2_with fail
    refine (HS.out _).mono ?_
    rintro e w' ⟨f, rfl, hw⟩
    have HW := Lib.hid hw
    clear hw
    go_wp2
    go_ret
    exact ⟨rfl, HW.out⟩
  · have hc : w.cell? ⟨g, 0, none⟩ = some (.slice (some ⟨rg, 0, none⟩) L.length rc) := by simpa [Addr.add] using ho.cells (g := g) rfl 0 _ rfl
    have hs := bs38_one g 0 cap _ rc L n w (World.block_lt_of_cell? _ _ hc) hc hrr.its hp hm
    generalize blockN L n = k at *
    have HS := Lib.hid hs
    clear hs ho hrr hc
    go_enter Try.func63, Try.ntmps63
    go_wp2_with fail
    refine (HS.out).mono ?_
    rintro e w' ⟨f, rfl, hw⟩
    have HW := Lib.hid hw
    clear hw
    go_wp2
    go_ret
    exact ⟨rfl, HW.out⟩

/-- From where, up to where: all blocks that there are. -/
theorem set_cnt {w : World} {b : Nat} {X : List Nat} {L : List Rn} (h : SetAt w b X L) : ∃ p cap, w.cell? ⟨b, 0, none⟩ = some (.slice p (cntN L) cap) := by
  obtain ⟨v, hb, _, _, hr⟩ := h
  rcases hr with ⟨rfl, p, cap, rfl, _⟩ | ⟨hp, g, cap, rg, rc, rfl, _⟩
  · exact ⟨p, cap, hb.cell (i := 0) rfl⟩
  · refine ⟨some ⟨g, 0, none⟩, cap, ?_⟩
    have : cntN L = 1 := by unfold cntN; rw [if_neg (by rintro rfl; simp at hp)]
    rw [this]
    exact hb.cell (i := 0) rfl

def NearRel (w : World) (k n : Nat) (x y : Nat) (wr : World) : Prop := k ≤ n ∧ x ≤ 18446744073709551615 ∧ y ≤ 18446744073709551615 ∧ Below w.heap.size w wr

set_option maxHeartbeats 2000000 in
theorem near_any (b : Nat) (X : List Nat) (L : List Rn) (l : List Rn) (p : Option Addr) (c : Nat) (w : World) (h : SetAt w b X L) (hm : L.length ≤ 1000) (hl : Its w p l) (hp : 0 < l.length) (hk : l.length ≤ 1000) (hu : ∀ r ∈ l, r.u64) :
    Calls Try.prog 43 #[.pointer (some ⟨b, 0, none⟩), .slice p l.length c] w fun e w' => e = .returned (.tuple #[.int .i64 0, .int .i64 (cntN L : Int)]) ∧ Below w.heap.size w w' := by
  obtain ⟨ad, rfl, _⟩ := hl.cells hp
  obtain ⟨g, off, rfl, hg, hc⟩ := its_two hl hp
  have hu' : ∀ i, i < l.length → (l.getD i Itm.z).u64 := fun i hi => hu _ (by simp [List.getD_eq_getElem?_getD, hi])
  have HU := Lib.hid hu'
  have HS := Lib.hid h
  have HC := Lib.hid hc
  have HG := Lib.hid hg
  obtain ⟨c0, c1⟩ := hc 0 hp
  have U0 := Lib.hid (hu' 0 hp)
  clear hu hu' h hl hc
  generalize l.getD 0 Itm.z = r0 at *
  have z1 : g < w.heap.size := hg
  have e0 : off + 0 * 2 = off := by omega
  have e1 : off + 0 * 2 + 1 = off + 1 := by omega
  rw [e0] at c0 c1
  clear e0 e1 hg
  obtain ⟨N, hN⟩ : ∃ N, cntN L = N := ⟨_, rfl⟩
  have h01 : N = 0 ∨ N = 1 := by rw [← hN]; unfold cntN; split <;> simp
  rw [hN]
  have HN := Lib.hid hN
  clear hN
  go_enter Try.func43, Try.ntmps43
  go_wp2
  go_quiet (fail)
  go_wp2
  go_loopw [6, 7, 21] (fun x y i wr => ∃ k a b : Nat, i = .int .i64 (k : Int) ∧ x = .int .u64 (a : Int) ∧ y = .int .u64 (b : Int) ∧ NearRel w k l.length a b wr) (fun _ _ i _ => l.length - (intOf i).toNat)
  case atStart => exact ⟨0, _, _, rfl, rfl, rfl, Nat.zero_le _, U0.out.1, U0.out.2, (Drawn.below ⟨_, rfl⟩ _)⟩
  case round =>
    obtain ⟨k, x, y, rfl, rfl, rfl, hkn, hx, hy, hB⟩ := hrel
    have HB := Lib.hid hB
    have HX := Lib.hid hx
    have HY := Lib.hid hy
    clear hB c0 c1 hx hy
    by_cases hlt : k < l.length
    · obtain ⟨d0, d1⟩ := HC.out k hlt
      have c0 := (HB.out.cell (p := ⟨g, off + k * 2, none⟩) HG.out).trans d0
      have c1 := (HB.out.cell (p := ⟨g, off + k * 2 + 1, none⟩) HG.out).trans d1
      have U1 := Lib.hid (HU.out k hlt)
      clear d0 d1
      generalize l.getD k Itm.z = r at *
      have i0 : (0 : Int) ≤ (k : Int) := by omega
      have i1 : (k : Int) < (l.length : Int) := by omega
      go_wp2
      go_quiet (fail)
      go_wp2
      go_roundw
      case rel => exact ⟨k + 1, min x r.a, max y r.b, by go_num, by congr 1; omega, by congr 1; omega, by omega, by have := HX.out; omega, by have := HY.out; have := U1.out.2; omega, HB.out.trans (((Below.refl _ _).alloc (Nat.le_refl _) _).mono HB.out.size |>.trans (Drawn.below ⟨_, rfl⟩ _))⟩
      case measure => simp [intOf]; omega
    · obtain rfl : k = l.length := by omega
      have hbk := fun m W (h : Below w.heap.size w W) => block_any b X L m W (HS.out.keep h) hm
      have HK := Lib.hid hbk
      clear hbk
      have hx0 := HX.out
      go_wp2_with fail
      have e : ((x : Int) - min (x : Int) 1) = ((x - min x 1 : Nat) : Int) := by omega
      rw [e]
      clear e
      generalize x - min x 1 = m
      refine (HK.out m wr HB.out).mono ?_
      rintro e w1 ⟨rfl, hw1⟩
      have B1 := Lib.hid (HB.out.trans (hw1.mono HB.out.size))
      clear hw1
      have q1 := HK.out y w1 B1.out
      rcases blockN_01 L m with k1 | k1
      all_goals
        rw [k1]
        clear k1
        rcases blockN_01 L y with k2 | k2
        all_goals
          rw [k2] at q1
          clear k2
          have Q1 := Lib.hid q1
          clear q1
          go_wp2_with fail
          refine (Q1.out).mono ?_
          rintro e w2 ⟨rfl, hw2⟩
          have B2 := Lib.hid (B1.out.trans (hw2.mono B1.out.size))
          clear hw2
          obtain ⟨p, cap, hcnt⟩ := set_cnt (HS.out.keep B2.out)
          rw [HN.out] at hcnt
          rcases h01 with rfl | rfl
          all_goals
            go_wp2
            go_ret2
            exact ⟨rfl, B2.out⟩
end Go.Proofs.Ytfpopbhbhdhdnaa
