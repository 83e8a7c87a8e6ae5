/- Cut of a set of two ranges, over this translation. -/
import Derived.Test.YtgjlbilbjgolpaaTf
set_option linter.unusedVariables false
namespace Go.Proofs.Ytgjlbilbjgolpaa
open Go.RowKit

theorem delete_none (g cap : Nat) (w : World) (hc1 : 1 ≤ cap) (hc2 : cap ≤ 9223372036854775807) :
    Calls Try.prog 23 #[.slice (some ⟨g, 0, none⟩) 1 cap, .int .i64 0, .int .i64 0] w fun e w' => e = .returned (.slice (some ⟨g, 0, none⟩) 1 cap) ∧ w = w' := by
  go_enter Try.func23, Try.ntmps23
  go_wp2
  go_ret
  exact ⟨rfl, rfl⟩

theorem place_two {x y : Rn} {n i : Nat} (h : PlaceAt [x, y] n i) (h1 : x.b < n) (h2 : n ≤ y.b) : i = 1 := by
  have a := h.le
  rcases Nat.lt_trichotomy i 1 with c | c | c
  · have := h.hi 0 (by omega) (by simp)
    simp at this; omega
  · exact c
  · have := h.lo 1 (by omega)
    simp at this; omega

theorem set_take1 {cur : Array Value} (v : Value) (h : 0 < cur.size) : (cur.setIfInBounds 0 v).toList.take (1 * 1) = [v] := by
  obtain ⟨l⟩ := cur
  cases l with
  | nil => simp at h
  | cons a t => simp
theorem set_take2 {cur : Array Value} (a b : Nat) (h : cur[1]? = some (.int .u64 (b : Int))) : (cur.setIfInBounds 0 (.int .u64 (a : Int))).toList.take (1 * 2) = rcs [⟨a, b⟩] := by
  obtain ⟨l⟩ := cur
  match l, h with
  | [], h => simp at h
  | [_], h => simp at h
  | x :: y :: t, h => simp at h; subst h; rfl

set_option maxHeartbeats 4000000 in
theorem cut_two (b : Nat) (X : List Nat) (x y : Rn) (n : Nat) (w : World) (h : SetAt w b X [x, y]) (hC : Canon [x, y]) (h1 : x.b < n) (h2 : n ≤ y.b) :
    Calls Try.prog 11 #[.pointer (some ⟨b, 0, none⟩), .int .u64 (n : Int)] w fun e w' => e = .returned (.tuple #[]) ∧ SetAt w' b X [⟨max y.a n, y.b⟩] ∧ Fr w w' X := by
  have hbl := fun W (k : Below w.heap.size w W) => block_any b X [x, y] n W (h.keep k) (by simp)
  have hq : blockN [x, y] n = 0 := by
    unfold blockN
    rw [if_neg]
    rintro ⟨_, k⟩
    have e : lastB [x, y] = y.b := rfl
    rw [e] at k; omega
  simp only [hq] at hbl
  have HBl := Lib.hid hbl
  obtain ⟨v, hb, hx, hv, hr⟩ := h
  rcases hr with ⟨hz, _⟩ | ⟨hp, g, cap, rg, rc, rfl, ho, hr, hxr⟩
  · cases hz
  obtain ⟨cur, hg, k1, k2, k3⟩ : ∃ cur, Blk w g 22 cur ∧ 1 ≤ cap ∧ cap ≤ 9223372036854775807 ∧ cur.size = cap * 1 := by
    rcases ho.2 with ⟨e, _⟩ | ⟨g', cap', cur, e, _, hg, h1, h2, h3, h4⟩
    · cases e
    · injection e with e e2 e3; injection e with e; injection e with e; subst e; subst e3
      exact ⟨cur, hg, h1, h2, h3⟩
  have hg0 := RR.cell1 ho
  have HG := Lib.hid hg
  have HB := Lib.hid hb
  have HO := Lib.hid ho
  have HR := Lib.hid hr
  have HG0 := Lib.hid hg0
  have hrb : ∃ cs, Blk w rg 31 cs := hr.blk
  obtain ⟨crg, hcrg⟩ := hrb
  have hgb : g ≠ b := hg.ty hb (by decide)
  have hrgb : rg ≠ b := hcrg.ty hb (by decide)
  have hrgg : rg ≠ g := hcrg.ty hg (by decide)
  have hgX : g ∈ X := hv g rfl
  have hdel := fun W => delete_none g cap W k1 k2
  have HDel := Lib.hid hdel
  have h0 := hb.cell (i := 0) (v := .slice (some ⟨g, 0, none⟩) 1 cap) rfl
  have h0' : w.drew.cell? ⟨b, 0, none⟩ = some (.slice (some ⟨g, 0, none⟩) 1 cap) := h0
  have C1 := Lib.hid (HBl.out w.drew ((Drawn.drew w).below _))
  clear hb ho hr hg hg0 hbl hdel
  go_enter Try.func11, Try.ntmps11
  go_wp2_with fail
  go_region_with (first
    | (go_at_call 24; ((with_reducible refine (C1.out).mono ?_); rintro e w1 ⟨rfl, hw⟩); have B1 : Hid (Below w.heap.size w w1) := Lib.hid (((Drawn.drew w).below _).trans hw); clear hw; have h1' := (HB.out.below B1.out HB.out.lt).cell (i := 0) (v := .slice (some ⟨g, 0, none⟩) 1 cap) rfl; have f1' := (HB.out.below B1.out HB.out.lt).free 0)
    | (go_at_call 23; ((with_reducible refine (HDel.out _).mono ?_); rintro e w2 ⟨rfl, rfl⟩)))
  all_goals
    have K2 := Lib.hid ((HB.out.below B1.out HB.out.lt).set 0 (.slice (some ⟨g, 0, none⟩) 1 cap))
    have G2 := Lib.hid ((HG.out.below B1.out HG.out.lt).set_other 0 (.slice (some ⟨g, 0, none⟩) 1 cap) hgb)
    have R2 : Hid (RR (w1.setCell ⟨b, 0, none⟩ (.slice (some ⟨g, 0, none⟩) 1 cap)) (.slice (some ⟨rg, 0, none⟩) 2 rc) [x, y]) := Lib.hid ((HR.out.keep B1.out).same fun k cs e hk => Below.heap_setCell _ _ _ _ (by simp [Value.ownBlock] at e; subst e; exact hrgb))
    have F2 : Hid (Fr w (w1.setCell ⟨b, 0, none⟩ (.slice (some ⟨g, 0, none⟩) 1 cap)) X) := Lib.hid ((Fr.of_below B1.out X).set (.inl hx) _ _)
    have Q2 : Hid (w.heap.size ≤ (w1.setCell ⟨b, 0, none⟩ (.slice (some ⟨g, 0, none⟩) 1 cap)).heap.size) := Lib.hid F2.out.size
    clear h1' f1' h0 h0' C1
    generalize (w1.setCell ⟨b, 0, none⟩ (.slice (some ⟨g, 0, none⟩) 1 cap)) = w2 at *
    have c0 := K2.out.cell (i := 0) (v := .slice (some ⟨g, 0, none⟩) 1 cap) rfl
    have hc0 : cur[0]? = some (.slice (some ⟨rg, 0, none⟩) 2 rc) := by
      have := HG.out
      have h9 := HG0.out
      unfold Blk at this
      simp [World.cell?, this] at h9
      exact h9
    have c1 := G2.out.cell hc0
    have P2 := Lib.hid (place_any (some ⟨rg, 0, none⟩) rc n [x, y] w2 R2.out.its (by simp) hC)
    go_wp2_with fail
    refine (P2.out).mono ?_
    rintro e w3 ⟨i, hpi, rfl, hw3⟩
    obtain rfl := place_two hpi h1 h2
    have K3 := Lib.hid (K2.out.keep hw3)
    have G3 := Lib.hid (G2.out.keep hw3)
    have R3 := Lib.hid (R2.out.keep hw3)
    have F3 := Lib.hid (F2.out.below hw3)
    clear hpi hw3 c0 c1 P2 K2 G2 R2 F2
    have D3 := Lib.hid (delete_two rg rc x y w3 R3.out)
    go_wp2_with fail
    refine (D3.out).mono ?_
    rintro e w4 ⟨rfl, hr4, hf4⟩
    have K4 := Lib.hid (K3.out.fr hf4 (by simp; exact Ne.symm hrgb))
    have G4 := Lib.hid (G3.out.fr hf4 (by simp; exact Ne.symm hrgg))
    have R4 := Lib.hid hr4
    have F4 := Lib.hid (F3.out.trans hf4 (by intro z hz; simp at hz; subst hz; exact .inl hxr))
    obtain ⟨cr, hb4, j1, j2, j3, j4⟩ : ∃ cr, Blk w4 rg 31 cr ∧ 1 ≤ rc ∧ rc ≤ maxLen ∧ cr.size = rc * 2 ∧ cr.toList.take 2 = rcs [y] := by
      obtain ⟨_, cr, a1, a2, a3, a4, a5⟩ := hr4.inv
      exact ⟨cr, a1, a2, a3, a4, a5⟩
    have e0 : cr[0]? = some (.int .u64 (y.a : Int)) := by
      have : (rcs [y])[0]? = some (.int .u64 (y.a : Int)) := rfl
      rw [← j4, List.getElem?_take_of_lt (by omega)] at this
      simpa using this
    have e1 : cr[1]? = some (.int .u64 (y.b : Int)) := by
      have : (rcs [y])[1]? = some (.int .u64 (y.b : Int)) := rfl
      rw [← j4, List.getElem?_take_of_lt (by omega)] at this
      simpa using this
    have m0 := hb4.cell e0
    have m1 := hb4.free 0
    have HB4 := Lib.hid hb4
    clear hr4 hf4 hb4 K3 G3 R3 F3 D3
    have m2 := K4.out.cell (i := 0) (v := .slice (some ⟨g, 0, none⟩) 1 cap) rfl
    have m3 := G4.out.cell hc0
    have m4 := G4.out.free 0
    have em : (max (y.a : Int) (n : Int)) = ((max y.a n : Nat) : Int) := by omega
    have F5 := Lib.hid ((F4.out.set (c := rg) (.inl hxr) 0 (.int .u64 ((max y.a n : Nat) : Int))).set (c := g) (.inl hgX) 0 (.slice (some ⟨rg, 0, none⟩) 1 rc))
    have hgs : g < w4.heap.size := G4.out.lt
    have EM := Lib.hid em
    have N1 := Lib.hid ((HB4.out.set 0 (.int .u64 ((max y.a n : Nat) : Int))).set_other (c := g) 0 (.slice (some ⟨rg, 0, none⟩) 1 rc) hrgg)
    have N2 := Lib.hid ((G4.out.set_other (c := rg) 0 (.int .u64 ((max y.a n : Nat) : Int)) (Ne.symm hrgg)).set 0 (.slice (some ⟨rg, 0, none⟩) 1 rc))
    have N3 := Lib.hid ((K4.out.set_other (c := rg) 0 (.int .u64 ((max y.a n : Nat) : Int)) (Ne.symm hrgb)).set_other (c := g) 0 (.slice (some ⟨rg, 0, none⟩) 1 rc) (Ne.symm hgb))
    clear em
    go_wp2
    go_end0
    rw [EM.out]
    refine ⟨rfl, ⟨_, N3.out, hx, hv, .inr ⟨by simp, g, cap, rg, rc, rfl, ?_, ?_, hxr⟩⟩, F5.out⟩
    · exact ⟨rfl, .inr ⟨g, cap, _, rfl, Nat.zero_le _, N2.out, k1, k2, by simpa using k3, set_take1 _ (by omega)⟩⟩
    · exact RR.mk rfl N1.out j1 j2 (by simpa using j3) (set_take2 _ _ e1)
end Go.Proofs.Ytgjlbilbjgolpaa
