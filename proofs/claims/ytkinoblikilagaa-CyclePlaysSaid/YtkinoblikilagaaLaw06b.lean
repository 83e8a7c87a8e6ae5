/- CycleOrder over this translation. -/
import Derived.Test.YtkinoblikilagaaLaw06a
import Derived.Deep.SlicePairs
import Derived.ProofKit
import Derived.OpenShut
set_option linter.unusedVariables false
namespace Go.Proofs.Ytkinoblikilagaa
open Go.ChangeShapes Go.WideShapes Go.ChangeAt Go.RowKit

/-- A slice of numbers that came in. -/
def InNums (w : World) (v : Option Addr) (len : Nat) (l : List Nat) : Prop :=
  l.length = len ∧ len ≤ 9223372036854775807 ∧ Nums w v l

theorem in_nums {H : Type} {enc : TypeId × Value → H} {w : World} {fuel : Nat} {spare : Nat → Bool} {held : Bool} {v : Option Addr} {len cap : Nat} {x : DataW H × List MemPlace}
    (h : DataW.trod enc Try.prog w 0 spare held fuel 28 [.slice v len cap] = some x) : ∃ l, InNums w v len l := by
  rcases open_ints Try.underlying28 Try.underlying31 (by kernel_rfl) h with ⟨hcs, _⟩ | ⟨x, l, c, zs, hcs, _, hl, hm, hz, _, hcell, hwz⟩
  · simp only [List.cons.injEq, Value.slice.injEq, and_true] at hcs
    obtain ⟨rfl, rfl, rfl⟩ := hcs
    exact ⟨[], rfl, by omega, fun h => absurd h (by simp)⟩
  · simp only [List.cons.injEq, Value.slice.injEq, and_true] at hcs
    obtain ⟨rfl, rfl, rfl⟩ := hcs
    have hz' : len ≤ zs.length := by rw [hz]; split <;> omega
    unfold maxLen at hm
    refine ⟨(zs.take len).map Int.toNat, by simp; omega, by omega, fun hp => ?_⟩
    have hlen : ((zs.take len).map Int.toNat).length = len := by simp; omega
    rw [hlen] at hp ⊢
    obtain ⟨b, off, spot⟩ := x
    have h0 := hcell 0 (by omega)
    have hs : spot = none := by simpa [Addr.add] using World.cell?_spot h0
    subst hs
    refine ⟨b, off, rfl, by have := World.block_lt_of_cell? _ _ h0; simpa [Addr.add] using this, fun i hi => ?_⟩
    have h1 := hcell i (by omega)
    rw [Go.WideShapes.add_plain] at h1
    have hiz : i < zs.length := by omega
    have hb := (bounds_u64 (hwz _ (List.getElem_mem hiz))).1
    rw [h1]
    have e1 : zs.getD i 0 = zs[i] := by simp [List.getD_eq_getElem?_getD, hiz]
    have e2 : ((zs.take len).map Int.toNat).getD i 0 = zs[i].toNat := by simp [List.getD_eq_getElem?_getD, hiz, hi]
    rw [e1, e2, ncell, Int.toNat_of_nonneg hb]

/-- Three cycle filters of the call's own. -/
def Tri (W w : World) (a b c : Nat) (A B C : CY) : Prop := CyAt w a A ∧ CyAt w b B ∧ CyAt w c C ∧ Below W.heap.size W w
theorem Tri.keep {W w w' : World} {a b c : Nat} {A B C : CY} (h : Tri W w a b c A B C) (k : Below w.heap.size w w') : Tri W w' a b c A B C := ⟨Blk.keep h.1 k, Blk.keep h.2.1 k, Blk.keep h.2.2.1 k, bel_to h.2.2.2 k h.2.2.2.size⟩
theorem tri_bestA {m : Nat} {W w : World} {a b c : Nat} {A B C : CY} (h : Tri W w a b c A B C) (e : A.best = m) :
    Calls Try.prog 10 #[.pointer (some ⟨a, 0, none⟩)] w fun e w' => e = .returned (.int .u64 (m : Int)) ∧ Tri W w' a b c A B C := by
  subst e; exact (cy_Best a A w h.1).mono fun e w' ⟨p, q⟩ => ⟨p, h.keep q⟩
theorem tri_bestB {m : Nat} {W w : World} {a b c : Nat} {A B C : CY} (h : Tri W w a b c A B C) (e : B.best = m) :
    Calls Try.prog 10 #[.pointer (some ⟨b, 0, none⟩)] w fun e w' => e = .returned (.int .u64 (m : Int)) ∧ Tri W w' a b c A B C := by
  subst e; exact (cy_Best b B w h.2.1).mono fun e w' ⟨p, q⟩ => ⟨p, h.keep q⟩
theorem tri_bestC {m : Nat} {W w : World} {a b c : Nat} {A B C : CY} (h : Tri W w a b c A B C) (e : C.best = m) :
    Calls Try.prog 10 #[.pointer (some ⟨c, 0, none⟩)] w fun e w' => e = .returned (.int .u64 (m : Int)) ∧ Tri W w' a b c A B C := by
  subst e; exact (cy_Best c C w h.2.2.1).mono fun e w' ⟨p, q⟩ => ⟨p, h.keep q⟩
theorem tri_nextA {W w : World} {a b c : Nat} {A B C : CY} (h : Tri W w a b c A B C) (ha : W.heap.size ≤ a) (hab : a < b) (hbc : b < c) :
    Calls Try.prog 12 #[.pointer (some ⟨a, 0, none⟩)] w fun e w' => e = .returned (.tuple #[]) ∧ Tri W w' a b c A.next B C :=
  (cy_Next a A w h.1).mono fun e w' ⟨p, q, g⟩ => ⟨p, q, Blk.grown h.2.1 g (by intro e; injection e with e; omega), Blk.grown h.2.2.1 g (by intro e; injection e with e; omega), bel_gr h.2.2.2 g h.2.2.2.size ha⟩
theorem tri_nextB {W w : World} {a b c : Nat} {A B C : CY} (h : Tri W w a b c A B C) (ha : W.heap.size ≤ a) (hab : a < b) (hbc : b < c) :
    Calls Try.prog 12 #[.pointer (some ⟨b, 0, none⟩)] w fun e w' => e = .returned (.tuple #[]) ∧ Tri W w' a b c A B.next C :=
  (cy_Next b B w h.2.1).mono fun e w' ⟨p, q, g⟩ => ⟨p, Blk.grown h.1 g (by intro e; injection e with e; omega), q, Blk.grown h.2.2.1 g (by intro e; injection e with e; omega), bel_gr h.2.2.2 g h.2.2.2.size (by omega)⟩

def OrdRel (W : World) (a b c : Nat) (l : List Nat) (k : Nat) (wr : World) : Prop :=
  CyAt wr a ⟨0, mxs 0 l, 0⟩ ∧ CyAt wr b ⟨0, mxs 0 (l.take k), 0⟩ ∧ CyAt wr c ⟨0, mxs 0 (l.reverse.take k), 0⟩ ∧ Below W.heap.size W wr

set_option maxHeartbeats 2000000 in
set_option maxRecDepth 100000 in
theorem CycleOrder_walk (v : Option Addr) (len cap : Nat) (l : List Nat) (W : World) (hin : InNums W v len l) :
    Calls Try.prog 4 #[.slice v len cap] W fun e w' => e = .returned (.bool true) ∧ Below W.heap.size W w' := by
  obtain ⟨rfl, hmax, hl⟩ := hin
  have HL := Lib.hid hl
  clear hl
  by_cases hlong : 100 < l.length
  · have hd : decide ((100 : Int) < (l.length : Int)) = true := by simp; omega
    clear hlong hmax
    go_enter Try.func4, Try.ntmps4
    go_wp2_with fail
    refine (alive06 W).mono ?_
    rintro e w' ⟨rfl, hb⟩
    have HB := Lib.hid hb
    clear hb
    go_wp2_with fail
    go_ret
    exact ⟨rfl, HB.out⟩
  · have hd : decide ((100 : Int) < (l.length : Int)) = false := by simp; omega
    have hn : l.length ≤ 100 := by omega
    clear hlong
    go_enter Try.func4, Try.ntmps4
    go_wp2_with fail
    refine (cy_New W).mono ?_
    rintro e w1 ⟨rfl, a1, b1⟩
    have A1 := Lib.hid a1
    have B1 := Lib.hid b1
    clear a1 b1
    go_wp2_with fail
    refine (cy_New w1).mono ?_
    rintro e w2 ⟨rfl, a2, b2⟩
    have A2 : Hid (CyAt w2 W.heap.size ⟨0, 0, 0⟩) := Lib.hid (Blk.keep A1.out b2)
    have A2b := Lib.hid a2
    have B2 := Lib.hid (bel_to B1.out b2 B1.out.size)
    have L1 : W.heap.size < w1.heap.size := Blk.lt A1.out
    clear a2 b2 A1
    go_wp2_with fail
    refine (cy_New w2).mono ?_
    rintro e w3 ⟨rfl, a3, b3⟩
    have A3 : Hid (CyAt w3 W.heap.size ⟨0, 0, 0⟩) := Lib.hid (Blk.keep A2.out b3)
    have A3b : Hid (CyAt w3 w1.heap.size ⟨0, 0, 0⟩) := Lib.hid (Blk.keep A2b.out b3)
    have A3c := Lib.hid a3
    have B3 := Lib.hid (bel_to B2.out b3 B2.out.size)
    have L2 : w1.heap.size < w2.heap.size := Blk.lt A2b.out
    clear a3 b3 A2 A2b B1 B2
    have HL3 := Lib.hid (HL.out.keep B3.out)
    have HV : Hid (0 < l.length → ∀ a, v = some a → a.block < W.heap.size) := Lib.hid (fun hp a e => by obtain ⟨_, _, e2, h, _⟩ := HL.out hp; rw [e2] at e; injection e with e; subst e; exact h)
    obtain ⟨a, ha⟩ : ∃ a, W.heap.size = a := ⟨_, rfl⟩
    obtain ⟨b, hb⟩ : ∃ b, w1.heap.size = b := ⟨_, rfl⟩
    obtain ⟨c, hc⟩ : ∃ c, w2.heap.size = c := ⟨_, rfl⟩
    have HA := Lib.hid ha
    have HAb := Lib.hid hb
    have HAc := Lib.hid hc
    have D3 : Hid (CyAt w3 a ⟨0, 0, 0⟩) := Lib.hid (by rw [← ha]; exact A3.out)
    have D3b : Hid (CyAt w3 b ⟨0, 0, 0⟩) := Lib.hid (by rw [← hb]; exact A3b.out)
    have D3c : Hid (CyAt w3 c ⟨0, 0, 0⟩) := Lib.hid (by rw [← hc]; exact A3c.out)
    have L3 : a < b := by omega
    have L4 : b < c := by omega
    have C4 := Lib.hid (cy_Put a ⟨0, 0, 0⟩ v cap l w3 D3.out HL3.out (fun hp x e => by have := HV.out hp x e; omega) (by omega))
    rw [ha, hb, hc]
    clear ha hb hc A3 A3b A3c L1 L2
    go_wp2_with fail
    refine (C4.out).mono ?_
    rintro e w4 ⟨rfl, a4, g4⟩
    have HB4 : Hid (Below W.heap.size W w4) := Lib.hid (bel_gr B3.out g4 B3.out.size (by rw [HA.out]; exact Nat.le_refl _))
    have HR : Hid (OrdRel W a b c l 0 w4) := Lib.hid ⟨a4, Blk.grown D3b.out g4 (by intro e; injection e with e; omega), Blk.grown D3c.out g4 (by intro e; injection e with e; omega), HB4.out⟩
    clear a4 g4 D3 D3b D3c B3 C4 HL3 HB4
    go_wp2_with fail
    go_loopw [6] (fun i wr => ∃ k : Nat, i = .int .i64 (k : Int) ∧ k ≤ l.length ∧ OrdRel W a b c l k wr) (fun i _ => l.length - (intOf i).toNat)
    case atStart => exact ⟨0, rfl, Nat.zero_le _, HR.out⟩
    case round =>
      obtain ⟨k, rfl, hk, ra, rb, rc, hB⟩ := hrel
      have RA := Lib.hid ra
      have RB := Lib.hid rb
      have RC := Lib.hid rc
      have G := Lib.hid hB
      clear ra rb rc hB HR
      by_cases hlt : k < l.length
      · obtain ⟨ad, o, rfl, hbl, hcl⟩ := HL.out (by omega)
        have HX1 := Lib.hid (hcl k hlt)
        have HX2 := Lib.hid (hcl (l.length - 1 - k) (by omega))
        have x1 := (G.out.cell (p := ⟨ad, o + k, none⟩) hbl).trans HX1.out
        clear hcl
        unfold ncell at x1
        have HE1 : Hid (mxs 0 (l.take (k + 1)) = max (mxs 0 (l.take k)) (l.getD k 0)) := Lib.hid (mxs_take 0 hlt)
        have HE2 : Hid (mxs 0 (l.reverse.take (k + 1)) = max (mxs 0 (l.reverse.take k)) (l.getD (l.length - 1 - k) 0)) := Lib.hid (by
          rw [mxs_take 0 (by simpa using hlt)]
          congr 1
          simp [List.getD_eq_getElem?_getD, List.getElem?_reverse hlt])
        generalize l.getD k 0 = x at *
        have i0 : (0 : Int) ≤ (k : Int) := by omega
        have i1 : (k : Int) < (l.length : Int) := by omega
        have P1 : Hid (CyAt (wr.alloc (.cells #[.int .u64 (x : Int)] 31)) b ⟨0, mxs 0 (l.take k), 0⟩) := Lib.hid (Blk.alloc RB.out _)
        have X1 : Hid (Blk (wr.alloc (.cells #[.int .u64 (x : Int)] 31)) wr.heap.size 31 (pcells [x])) := Lib.hid (Blk.new _ _ _)
        have C1 := Lib.hid (cy_Put b ⟨0, mxs 0 (l.take k), 0⟩ (some ⟨wr.heap.size, 0, none⟩) 1 [x] _ P1.out (Nums.of_blk X1.out) (fun _ y e => by injection e with e; subst e; exact X1.out.ty P1.out (by decide)) (by simp))
        have RA1 := Lib.hid (Blk.alloc RA.out (.cells #[.int .u64 (x : Int)] 31))
        have RC1 := Lib.hid (Blk.alloc RC.out (.cells #[.int .u64 (x : Int)] 31))
        have G1 := Lib.hid (G.out.alloc G.out.size (.cells #[.int .u64 (x : Int)] 31))
        go_wp2_with fail
        refine (C1.out).mono ?_
        rintro e w5 ⟨rfl, q, g⟩
        have RA2 : Hid (CyAt w5 a ⟨0, mxs 0 l, 0⟩) := Lib.hid (Blk.grown RA1.out g (by intro e; injection e with e; omega))
        have RC2 : Hid (CyAt w5 c ⟨0, mxs 0 (l.reverse.take k), 0⟩) := Lib.hid (Blk.grown RC1.out g (by intro e; injection e with e; omega))
        have RB2 : Hid (CyAt w5 b ⟨0, mxs 0 (l.take (k + 1)), 0⟩) := Lib.hid (by rw [HE1.out]; exact q)
        have G2 := Lib.hid (bel_gr G1.out g (by simp; have := G.out.size; omega) (by rw [HA.out]; omega))
        clear q g C1 RA1 RC1 G1 X1 P1 RA RB RC G x1 HX1 HE1
        have x2 := (G2.out.cell (p := ⟨ad, o + (l.length - 1 - k), none⟩) hbl).trans HX2.out
        unfold ncell at x2
        generalize l.getD (l.length - 1 - k) 0 = y at *
        have j0 : (l.length : Int) - 1 - (k : Int) = ((l.length - 1 - k : Nat) : Int) := by omega
        have j1 : IntKind.i64.wrap ((l.length : Int) - 1) = ((l.length - 1 : Nat) : Int) := by simp [IntKind.wrap, IntKind.signed, IntKind.bits]; omega
        have P2 : Hid (CyAt (w5.alloc (.cells #[.int .u64 (y : Int)] 31)) c ⟨0, mxs 0 (l.reverse.take k), 0⟩) := Lib.hid (Blk.alloc RC2.out _)
        have X2 : Hid (Blk (w5.alloc (.cells #[.int .u64 (y : Int)] 31)) w5.heap.size 31 (pcells [y])) := Lib.hid (Blk.new _ _ _)
        have C2 := Lib.hid (cy_Put c ⟨0, mxs 0 (l.reverse.take k), 0⟩ (some ⟨w5.heap.size, 0, none⟩) 1 [y] _ P2.out (Nums.of_blk X2.out) (fun _ y e => by injection e with e; subst e; exact X2.out.ty P2.out (by decide)) (by simp))
        have RA3 := Lib.hid (Blk.alloc RA2.out (.cells #[.int .u64 (y : Int)] 31))
        have RB3 := Lib.hid (Blk.alloc RB2.out (.cells #[.int .u64 (y : Int)] 31))
        have G3 := Lib.hid (G2.out.alloc G2.out.size (.cells #[.int .u64 (y : Int)] 31))
        go_wp2_with fail
        refine (C2.out).mono ?_
        rintro e w6 ⟨rfl, q, g⟩
        have RR : Hid (OrdRel W a b c l (k + 1) w6) := Lib.hid ⟨Blk.grown RA3.out g (by intro e; injection e with e; omega), Blk.grown RB3.out g (by intro e; injection e with e; omega), by rw [HE2.out]; exact q, bel_gr G3.out g (by simp; have := G2.out.size; omega) (by rw [HA.out]; omega)⟩
        clear q g C2 RA3 RB3 G3 X2 P2 RA2 RB2 RC2 G2 x2 HX2 HE2 j0 j1
        go_wp2_with fail
        go_roundw
        case rel => exact ⟨k + 1, by go_num, by omega, RR.out⟩
        case measure => simp [intOf]; omega
      · obtain rfl : k = l.length := by omega
        obtain ⟨m, hm⟩ : ∃ m, mxs 0 l = m := ⟨_, rfl⟩
        have HT : Hid (Tri W wr a b c ⟨0, m, 0⟩ ⟨0, m, 0⟩ ⟨0, m, 0⟩) := Lib.hid (by
          have h1 := RA.out
          have h2 := RB.out
          have h3 := RC.out
          rw [List.take_length] at h2
          rw [List.take_of_length_le (by simp), mxs_rev] at h3
          rw [hm] at h1 h2 h3
          exact ⟨h1, h2, h3, G.out⟩)
        have hW : W.heap.size ≤ a := by rw [HA.out]; exact Nat.le_refl _
        clear RA RB RC G HL HV hm hlt
        have e0 : (⟨0, m, 0⟩ : CY).best = m := by simp [CY.best]
        have e1 : (⟨m, 0, 1⟩ : CY).best = m := by simp [CY.best]
        have E0 := Lib.hid e0
        have E1 := Lib.hid e1
        clear e0 e1
        have CC := Lib.hid (tri_bestA HT.out E0.out)
        go_wp2_with fail
        refine (CC.out).mono ?_
        rintro e v1 ⟨rfl, ht⟩
        have T1 := Lib.hid ht
        clear ht HT CC
        have CC := Lib.hid (tri_bestB T1.out E0.out)
        go_wp2_with fail
        refine (CC.out).mono ?_
        rintro e v2 ⟨rfl, ht⟩
        have T2 := Lib.hid ht
        clear ht T1 CC
        have CC := Lib.hid (tri_bestB T2.out E0.out)
        go_wp2_with fail
        refine (CC.out).mono ?_
        rintro e v3 ⟨rfl, ht⟩
        have T3 := Lib.hid ht
        clear ht T2 CC
        have CC := Lib.hid (tri_bestC T3.out E0.out)
        go_wp2_with fail
        refine (CC.out).mono ?_
        rintro e v4 ⟨rfl, ht⟩
        have T4 := Lib.hid ht
        clear ht T3 CC
        have CC := Lib.hid (tri_nextA T4.out hW L3 L4)
        go_wp2_with fail
        refine (CC.out).mono ?_
        rintro e v5 ⟨rfl, ht⟩
        have T5 := Lib.hid ht
        clear ht T4 CC
        have CC := Lib.hid (tri_nextB T5.out hW L3 L4)
        go_wp2_with fail
        refine (CC.out).mono ?_
        rintro e v6 ⟨rfl, ht⟩
        have T6 := Lib.hid ht
        clear ht T5 CC
        have CC := Lib.hid (tri_bestA T6.out E1.out)
        go_wp2_with fail
        refine (CC.out).mono ?_
        rintro e v7 ⟨rfl, ht⟩
        have T7 := Lib.hid ht
        clear ht T6 CC
        have CC := Lib.hid (tri_bestC T7.out E0.out)
        go_wp2_with fail
        refine (CC.out).mono ?_
        rintro e v8 ⟨rfl, ht⟩
        have T8 := Lib.hid ht
        clear ht T7 CC
        have CC := Lib.hid (tri_bestB T8.out E1.out)
        go_wp2_with fail
        refine (CC.out).mono ?_
        rintro e v9 ⟨rfl, ht⟩
        have T9 := Lib.hid ht
        clear ht T8 CC
        have CC := Lib.hid (tri_bestC T9.out E0.out)
        go_wp2_with fail
        refine (CC.out).mono ?_
        rintro e v10 ⟨rfl, ht⟩
        have T10 := Lib.hid ht
        clear ht T9 CC
        have CC := Lib.hid (tri_nextA T10.out hW L3 L4)
        go_wp2_with fail
        refine (CC.out).mono ?_
        rintro e v11 ⟨rfl, ht⟩
        have T11 := Lib.hid ht
        clear ht T10 CC
        go_wp2_with fail
        refine (alive06 _).mono ?_
        rintro e v12 ⟨rfl, hb⟩
        have T12 := Lib.hid (T11.out.keep hb)
        clear hb T11
        have CC := Lib.hid (tri_bestA (m := 0) T12.out rfl)
        go_wp2_with fail
        refine (CC.out).mono ?_
        rintro e v13 ⟨rfl, ht⟩
        have T13 := Lib.hid ht
        clear ht T12 CC
        go_wp2_with fail
        go_ret
        exact ⟨rfl, T13.out.2.2.2⟩
end Go.Proofs.Ytkinoblikilagaa
