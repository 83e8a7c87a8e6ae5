/- CyclePlays over this translation: the cycle filter answers as the document's does, cycle by cycle. -/
import Derived.Test.YtkinoblikilagaaLaw06b
import Derived.Test.YtkinoblikilagaaDb
import Derived.Deep.Matrix
set_option linter.unusedVariables false
namespace Go.Proofs.Ytkinoblikilagaa
open Go.ChangeShapes Go.WideShapes Go.ChangeAt Go.RowKit

/-- Rows of numbers that came in. -/
def InRows (w : World) (v : Option Addr) (len : Nat) (L : List (List Nat)) : Prop :=
  L.length = len ∧ len ≤ 9223372036854775807 ∧ (0 < len → ∃ b off, v = some ⟨b, off, none⟩ ∧ b < w.heap.size ∧
    ∀ i, i < len → ∃ p c, w.cell? ⟨b, off + i, none⟩ = some (.slice p (L.getD i []).length c) ∧ (L.getD i []).length ≤ 9223372036854775807 ∧ (p = none → (L.getD i []).length = 0 ∧ c = 0) ∧ Nums w p (L.getD i []))

theorem in_rows {H : Type} {enc : TypeId × Value → H} {w : World} {fuel : Nat} {held : Bool} {v : Option Addr} {len cap : Nat} {x : DataW H × List MemPlace}
    (h : DataW.trod enc Try.prog w 0 (fun _ => true) held fuel 22 [.slice v len cap] = some x) : ∃ L, InRows w v len L := by
  have ce : Try.prog.cellsOf 28 = 1 := by kernel_rfl
  have cq : Try.prog.cellsOf 31 = 1 := by kernel_rfl
  rcases Go.Deep.open_int_rows Try.underlying22 Try.underlying28 Try.underlying31 ce cq h with ⟨hcs, _⟩ | ⟨a, len', cap', A, Ln, C, Z, hcs, _, hl, hm, _, hrow⟩
  · simp only [List.cons.injEq, Value.slice.injEq, and_true] at hcs
    obtain ⟨rfl, rfl, rfl⟩ := hcs
    exact ⟨[], rfl, by omega, fun h => absurd h (by omega)⟩
  · simp only [List.cons.injEq, Value.slice.injEq, and_true] at hcs
    obtain ⟨rfl, rfl, rfl⟩ := hcs
    unfold maxLen at hm
    refine ⟨(List.range len).map fun r => ((Z r).take (Ln r)).map Int.toNat, by simp, by omega, fun hpos => ?_⟩
    obtain ⟨b, off, spot⟩ := a
    have h0 := (hrow 0 (by omega)).1
    have hs : spot = none := by simpa [Addr.add] using World.cell?_spot h0
    subst hs
    refine ⟨b, off, rfl, by have := World.block_lt_of_cell? _ _ h0; simpa [Addr.add] using this, fun i hi => ?_⟩
    obtain ⟨r1, r2, r3, r4, r5, r6, r7⟩ := hrow i (by omega)
    rw [Go.WideShapes.add_plain] at r1
    have e : ((List.range len).map fun r => ((Z r).take (Ln r)).map Int.toNat).getD i [] = ((Z i).take (Ln i)).map Int.toNat := by simp [List.getD_eq_getElem?_getD, hi]
    rw [e]
    unfold maxLen at r3
    have hlen : (((Z i).take (Ln i)).map Int.toNat).length = Ln i := by simp; omega
    rw [hlen]
    refine ⟨A i, C i, r1, by omega, fun hn => ⟨by have := r6 hn; omega, r6 hn⟩, fun hp => ?_⟩
    rw [hlen] at hp ⊢
    have hA : ∃ a', A i = some a' := by
      rcases hA : A i with _ | a'
      · have := r6 hA; omega
      · exact ⟨a', rfl⟩
    obtain ⟨a', hA⟩ := hA
    obtain ⟨_, hc⟩ := r7 a' hA
    obtain ⟨b', off', spot'⟩ := a'
    have k0 := hc 0 (by omega)
    have hs : spot' = none := by simpa [Addr.add] using World.cell?_spot k0
    subst hs
    refine ⟨b', off', hA, by have := World.block_lt_of_cell? _ _ k0; simpa [Addr.add] using this, fun j hj => ?_⟩
    have h1 := hc j (by omega)
    rw [Go.WideShapes.add_plain] at h1
    have hiz : j < (Z i).length := by omega
    have hb := (bounds_u64 (r5 _ (List.getElem_mem hiz))).1
    rw [h1]
    have e1 : (Z i).getD j 0 = (Z i)[j] := by simp [List.getD_eq_getElem?_getD, hiz]
    have e2 : (((Z i).take (Ln i)).map Int.toNat).getD j 0 = (Z i)[j].toNat := by simp [List.getD_eq_getElem?_getD, hiz, hj]
    rw [e1, e2, ncell, Int.toNat_of_nonneg hb]

/-- The cycle filter that has all numbers of cycles K, and cur. -/
def cyOf (K : List (List Nat)) (cur : List Nat) : CY := ⟨mxs 0 (K.getLastD []), mxs 0 cur, K.length⟩
theorem cyOf_best (K : List (List Nat)) (cur : List Nat) : (cyOf K cur).best = bestL (K ++ [cur]) := by
  unfold bestL cyOf CY.best
  rcases List.eq_nil_or_concat K with rfl | ⟨K', p, rfl⟩
  · simp [mxs]
  · have e : ((K'.concat p ++ [cur]).drop ((K'.concat p ++ [cur]).length - 2)) = [p, cur] := by
      rw [List.concat_eq_append, List.append_assoc]
      rw [List.drop_append_of_le_length (by simp)]
      simp
    rw [e]
    simp only [List.flatten_cons, List.flatten_nil, List.append_nil, mxs_app]
    rw [mxs_eq (mxs 0 p) cur]
    simp [List.getLastD_eq_getLast?]
theorem cyOf_put (K : List (List Nat)) (l : List Nat) : (cyOf K []).put l = cyOf K l := rfl
theorem cyOf_next (K : List (List Nat)) (cur : List Nat) (h : K.length ≤ 1000) : (cyOf K cur).next = cyOf (K ++ [cur]) [] := by
  unfold CY.next cyOf
  have : (K.length + 1) % 18446744073709551616 = K.length + 1 := by omega
  simp [this, mxs, List.getLastD_eq_getLast?]

/-- A cycle filter, and the document's, side by side. -/
def PairC (W w : World) (a m : Nat) (K : List (List Nat)) (cur : List Nat) : Prop :=
  CyAt w a (cyOf K cur) ∧ W.heap.size ≤ a ∧ (∃ g cap, DcAt w W.heap.size m g cap (K ++ [cur])) ∧ Below W.heap.size W w
theorem PairC.keep {W w w' : World} {a m : Nat} {K : List (List Nat)} {cur : List Nat} (h : PairC W w a m K cur) (k : Below w.heap.size w w') : PairC W w' a m K cur := by
  obtain ⟨h1, h2, ⟨g, cap, h3⟩, h4⟩ := h
  exact ⟨Blk.keep h1 k, h2, ⟨g, cap, h3.keep k⟩, bel_to h4 k h4.size⟩
theorem pair_cBest {W w : World} {a m : Nat} {K : List (List Nat)} {cur : List Nat} (h : PairC W w a m K cur) :
    Calls Try.prog 10 #[.pointer (some ⟨a, 0, none⟩)] w fun e w' => e = .returned (.int .u64 ((bestL (K ++ [cur]) : Nat) : Int)) ∧ PairC W w' a m K cur := by
  rw [← cyOf_best]
  exact (cy_Best a _ w h.1).mono fun e w' ⟨p, q⟩ => ⟨p, h.keep q⟩
theorem pair_cCount {W w : World} {a m : Nat} {K : List (List Nat)} {cur : List Nat} (h : PairC W w a m K cur) :
    Calls Try.prog 14 #[.pointer (some ⟨a, 0, none⟩)] w fun e w' => e = .returned (.int .u64 ((K.length : Nat) : Int)) ∧ w = w' :=
  cy_Count a _ w h.1
theorem pair_dBest {W w : World} {a m : Nat} {K : List (List Nat)} {cur : List Nat} (h : PairC W w a m K cur) (hn : K.length ≤ 500) (hr : ∀ l ∈ K ++ [cur], l.length ≤ 1000) :
    Calls Try.prog 11 #[.pointer (some ⟨m, 0, none⟩)] w fun e w' => e = .returned (.int .u64 ((bestL (K ++ [cur]) : Nat) : Int)) ∧ w = w' := by
  obtain ⟨h1, h2, ⟨g, cap, h3⟩, h4⟩ := h
  exact dc_Best _ m g cap _ w h3 (by simp; omega) hr (by simp)
theorem pair_cPut {W w : World} {a m c : Nat} {K : List (List Nat)} {p : Option Addr} {l : List Nat} (h : PairC W w a m K []) (hl : Nums W p l) (hm : l.length ≤ 1000) :
    Calls Try.prog 8 #[.pointer (some ⟨a, 0, none⟩), .slice p l.length c] w fun e w' => e = .returned (.tuple #[]) ∧ CyAt w' a (cyOf K l) ∧ W.heap.size ≤ a ∧ (∃ g cap, DcAt w' W.heap.size m g cap (K ++ [[]])) ∧ Below W.heap.size W w' := by
  obtain ⟨h1, h2, ⟨g, cap, h3⟩, h4⟩ := h
  refine (cy_Put a _ p c l w h1 (hl.keep h4) (fun hp x e => ?_) hm).mono fun e w' ⟨q1, q2, q3⟩ => ⟨q1, q2, h2, ⟨g, cap, h3.grown q3 h1 (by decide) (by decide) (by decide)⟩, bel_gr h4 q3 h4.size h2⟩
  obtain ⟨b, off, e', hb, _⟩ := hl hp
  rw [e'] at e; injection e with e; subst e
  show b ≠ a
  omega
theorem pair_dPut {W w : World} {a m c : Nat} {K : List (List Nat)} {p : Option Addr} {l : List Nat} (h1 : CyAt w a (cyOf K l)) (h2 : W.heap.size ≤ a) (h3 : ∃ g cap, DcAt w W.heap.size m g cap (K ++ [[]])) (h4 : Below W.heap.size W w)
    (hl : Nums W p l) (hp : p = none → l.length = 0 ∧ c = 0) (hm : l.length ≤ 1000) (hn : K.length ≤ 500) :
    Calls Try.prog 9 #[.pointer (some ⟨m, 0, none⟩), .slice p l.length c] w fun e w' => e = .returned (.tuple #[]) ∧ PairC W w' a m K l := by
  obtain ⟨g, cap, h3⟩ := h3
  obtain ⟨arr, hg, _⟩ := h3.body
  refine (dc_Put W.heap.size m g cap c K [] p l w h3 hp (hl.keep h4) (by omega) (by simp) hm h4.size).mono fun e w' ⟨q1, q2, q3⟩ => ⟨q1, Blk.fr h1 q3 (by simp; exact Blk.ty h1 hg (by decide)), h2, ⟨g, cap, q2⟩, bel_fr h4 q3 h4.size (by intro x hx; simp at hx; subst hx; exact h3.bg)⟩
theorem pair_cNext {W w : World} {a m : Nat} {K : List (List Nat)} {cur : List Nat} (h : PairC W w a m K cur) (hn : K.length ≤ 500) :
    Calls Try.prog 12 #[.pointer (some ⟨a, 0, none⟩)] w fun e w' => e = .returned (.tuple #[]) ∧ CyAt w' a (cyOf (K ++ [cur]) []) ∧ W.heap.size ≤ a ∧ (∃ g cap, DcAt w' W.heap.size m g cap (K ++ [cur])) ∧ Below W.heap.size W w' := by
  obtain ⟨h1, h2, ⟨g, cap, h3⟩, h4⟩ := h
  exact (cy_Next a _ w h1).mono fun e w' ⟨q1, q2, q3⟩ => ⟨q1, by rw [← cyOf_next _ _ (by omega)]; exact q2, h2, ⟨g, cap, h3.grown q3 h1 (by decide) (by decide) (by decide)⟩, bel_gr h4 q3 h4.size h2⟩
theorem pair_dNext {W w : World} {a m : Nat} {K : List (List Nat)} {cur : List Nat} (h1 : CyAt w a (cyOf (K ++ [cur]) [])) (h2 : W.heap.size ≤ a) (h3 : ∃ g cap, DcAt w W.heap.size m g cap (K ++ [cur])) (h4 : Below W.heap.size W w) (hn : K.length ≤ 500) :
    Calls Try.prog 13 #[.pointer (some ⟨m, 0, none⟩)] w fun e w' => e = .returned (.tuple #[]) ∧ PairC W w' a m (K ++ [cur]) [] := by
  obtain ⟨g, cap, h3⟩ := h3
  obtain ⟨arr, hg, _⟩ := h3.body
  exact (dc_Next W.heap.size m g cap _ w h3 (by simp; omega) h4.size).mono fun e w' ⟨q1, ⟨g', cap', q2⟩, q3⟩ => ⟨q1, Blk.fr h1 q3 (by simp; exact ⟨Blk.ty h1 h3.head (by decide), Blk.ty h1 hg (by decide)⟩), h2, ⟨g', cap', q2⟩, bel_fr h4 q3 h4.size (by intro x hx; simp at hx; rcases hx with rfl | rfl; exact h3.bm; exact h3.bg)⟩
end Go.Proofs.Ytkinoblikilagaa
