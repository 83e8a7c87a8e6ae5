/- Put and All of a set that is new, over this translation: of many ranges. -/
import Derived.Test.YtfpopbhbhdhdnaaUc
import Derived.Test.YtfpopbhbhdhdnaaSu
import Derived.Test.YtfpopbhbhdhdnaaSt
import Derived.Deep.RegionWith
set_option linter.unusedVariables false
namespace Go.Proofs.Ytfpopbhbhdhdnaa
open Go.RowKit

theorem fset_New (w : World) : Calls Try.prog 24 #[] w fun e w' => e = .returned (.pointer (some ⟨w.heap.size, 0, none⟩)) ∧ Blk w' w.heap.size 91 #[.slice none 0 0] ∧ Below w.heap.size w w' := by
  go_enter Try.func24, Try.ntmps24
  go_wp2
  go_ret
  exact ⟨rfl, Blk.new _ _ _, (Below.refl _ _).alloc (Nat.le_refl _) _⟩

/-- A set of ranges L, its rows in blocks. -/
def SetBlocks (w : World) (v : Value) (L : List Rn) : Prop :=
  (v = .slice none 0 0 ∧ L = []) ∨ ∃ P, w.ownsRow 0 30 1 v P.length (pvals P) ∧ Parts w P ∧ pall P = L ∧ P.length ≤ 1000 ∧ 0 < P.length
structure PutNew (w : World) (b : Nat) (l : List Rn) (e : Ending) (w' : World) : Prop where
  ret : e = .returned (.int .i64 0)
  set : ∃ v L, Blk w' b 91 #[v] ∧ SetBlocks w' v L ∧ Puts [] l L ∧ L.length ≤ l.length
  fr : Fr w w' [b]

theorem contains_nil (p : Option Addr) (cap : Nat) (w : World) :
    Calls Try.prog 41 #[.slice p 0 cap, .func (.func 42) #[] #[]] w fun e w' => e = .returned (.bool false) ∧ Below w.heap.size w w' := by
  have HI : Hid (Calls Try.prog 62 #[.slice p 0 cap, .func (.func 42) #[] #[]] w fun e w' => e = .returned (.int .i64 (-1)) ∧ Below w.heap.size w w') := Lib.hid (by
    go_enter Try.func62, Try.ntmps62
    go_wp2
    go_loop [8] (fun i => i = .int .i64 0) (fun _ => 0)
    case atStart => exact rfl
    case round =>
      obtain rfl := hrel
      go_wp2
      go_ret
      exact ⟨rfl, Below.refl _ _⟩)
  go_enter Try.func41, Try.ntmps41
  go_wp2_with fail
  refine (HI.out).mono ?_
  rintro e w' ⟨rfl, hw⟩
  have HW := Lib.hid hw
  clear hw
  go_wp2
  go_ret
  exact ⟨rfl, HW.out⟩

set_option maxHeartbeats 1000000 in
theorem fput_wrong (b : Nat) (l : List Rn) (p : Option Addr) (c : Nat) (w : World) (hl : Its w p l) (hp : 0 < l.length) (hk : l.length ≤ 1000) (ho : l.all okB = false) :
    Calls Try.prog 25 #[.pointer (some ⟨b, 0, none⟩), .slice p l.length c] w fun e w' => e = .returned (.int .i64 1) ∧ Below w.heap.size w w' := by
  obtain ⟨ad, rfl, _⟩ := hl.cells hp
  obtain ⟨g, off, rfl, hg, _⟩ := its_two hl hp
  have hc := contains_any l g off c w hl hp hk
  rw [ho] at hc
  have HC := Lib.hid hc
  clear hc hl
  go_enter Try.func25, Try.ntmps25
  go_wp2_with fail
  refine (HC.out).mono ?_
  rintro e w' ⟨rfl, hw⟩
  have HW := Lib.hid hw
  clear hw
  go_wp2
  go_ret
  exact ⟨rfl, HW.out⟩

theorem fput_nil (b : Nat) (p : Option Addr) (c : Nat) (w : World) :
    Calls Try.prog 25 #[.pointer (some ⟨b, 0, none⟩), .slice p 0 c] w fun e w' => e = .returned (.int .i64 0) ∧ Below w.heap.size w w' := by
  have HC := Lib.hid (contains_nil p c w)
  go_enter Try.func25, Try.ntmps25
  go_wp2_with fail
  refine (HC.out).mono ?_
  rintro e w' ⟨rfl, hw⟩
  have HW := Lib.hid hw
  clear hw
  go_wp2
  go_ret
  exact ⟨rfl, HW.out⟩

theorem fput_end {w W w8 : World} {b : Nat} {l D : List Rn} {v : Value} {P : List (Value × List Rn)} {B8 : Nat} (hb : Blk w b 91 #[.slice none 0 0]) (hB : Below w.heap.size w W)
    (hP : Parts W P) (ha : pall P = tog D) (hp1 : P.length ≤ 1000) (hp0 : 0 < P.length) (hPu : Puts [] l (tog D)) (hl : (tog D).length ≤ l.length)
    (ho : w8.ownsRow B8 30 1 v P.length (pvals P)) (hW : Below W.heap.size W w8) (hB8 : w.heap.size ≤ B8) :
    PutNew w b l (.returned (.int .i64 0)) (w8.setCell ⟨b, 0, none⟩ v) := by
  have h8 := hB.trans (hW.mono hB.size)
  have hb8 := hb.below h8 hb.lt
  refine ⟨rfl, ⟨v, tog D, hb8.set 0 _, .inr ⟨P, ?_, ?_, ha, hp1, hp0⟩, hPu, hl⟩, ⟨h8.os, h8.tape, h8.output, ?_, fun k hk hkX => ?_⟩⟩
  · refine own1_keep (own_base ho (Nat.zero_le _)) fun k cs e hk => Below.heap_setCell _ _ _ _ ?_
    exact Blk.ty (T := 30) hk hb8 (by decide)
  · refine (hP.keep hW).same fun k cs hk => Below.heap_setCell _ _ _ _ ?_
    exact Blk.ty (T := 56) hk hb8 (by decide)
  · have := h8.size; simp [World.setCell]; omega
  · rw [Below.heap_setCell _ _ _ _ (by simpa using hkX), h8.block k hk]

set_option maxHeartbeats 4000000 in
theorem fput_ok (b : Nat) (l : List Rn) (p : Option Addr) (c : Nat) (w : World) (hb : Blk w b 91 #[.slice none 0 0]) (hl : Its w p l) (hp : 0 < l.length) (hm : l.length ≤ 1000) (ho : l.all okB = true) (hu : ∀ r ∈ l, r.u64) :
    Calls Try.prog 25 #[.pointer (some ⟨b, 0, none⟩), .slice p l.length c] w (PutNew w b l) := by
  obtain ⟨ad, rfl, _⟩ := hl.cells hp
  obtain ⟨g, off, rfl, hg, _⟩ := its_two hl hp
  have hok : ∀ r ∈ l, r.ok := fun r hr => (okB_iff (hu r hr)).1 (List.all_eq_true.1 ho r hr)
  have hc := contains_any l g off c w hl hp (by omega)
  rw [ho] at hc
  have hc' : Calls Try.prog 41 #[.slice (some ⟨g, off, none⟩) l.length c, .func (.func 42) #[] #[]] w fun e w' => e = .returned (.bool false) ∧ Below w.heap.size w w' := hc
  have HC := Lib.hid hc'
  have hset : SetAt w b [b] [] := ⟨_, hb, List.mem_cons_self, (fun g h => by cases h), .inl ⟨rfl, none, 0, rfl, World.ownsRow_nil _ _ _ _⟩⟩
  have hnr := fun W (k : Below w.heap.size w W) => near_any b [b] [] l (some ⟨g, off, none⟩) c W (hset.keep k) (by simp) (hl.keep k) hp (by omega) hu
  have HNr : Hid (∀ W, Below w.heap.size w W → Calls Try.prog 43 #[.pointer (some ⟨b, 0, none⟩), .slice (some ⟨g, off, none⟩) l.length c] W fun e w' => e = .returned (.tuple #[.int .i64 0, .int .i64 0]) ∧ Below W.heap.size W w') := Lib.hid hnr
  have hd0 : ((l.length : Int) == 0) = false := beq_eq_false_iff_ne.2 (by omega)
  have HB := Lib.hid hb
  have HI := Lib.hid hl
  have HOk := Lib.hid hok
  clear hb hc hc' hnr hl hok hu ho hset
  go_enter Try.func25, Try.ntmps25
  go_wp2_with fail
  refine (HC.out).mono ?_
  rintro e w1 ⟨rfl, k1⟩
  have B1 := Lib.hid k1
  clear k1
  have C2 := Lib.hid (HNr.out w1 B1.out)
  go_wp2_with fail
  refine (C2.out).mono ?_
  rintro e w2 ⟨rfl, k2⟩
  have B2 := Lib.hid (B1.out.trans (k2.mono B1.out.size))
  clear k2 C2
  have h0 := (HB.out.below B2.out HB.out.lt).cell (i := 0) (v := .slice none 0 0) rfl
  have C3 := Lib.hid (concat_none none 0 w2)
  go_wp2_with fail
  refine (C3.out).mono ?_
  rintro e w3 ⟨u3, rfl, k1, k2, k3⟩
  have R3 := Lib.hid k1
  have B3 := Lib.hid (B2.out.trans (k2.mono B2.out.size))
  have O3 := Lib.hid (fun g e => Nat.le_trans B2.out.size (k3 g e))
  clear k1 k2 k3 C3 h0
  have I3 := Lib.hid (HI.out.keep B3.out)
  go_wp2_with (at_builtin; (refine wpList_append_rr rfl _ _ rfl u3 [] rfl R3.out (some ⟨g, off, none⟩) l.length c l rfl rfl hp I3.out (by simp; omega) ?_); intro g4 cap4 w4 hR hgr hat; simp only [List.length_nil, Nat.zero_add, List.nil_append] at hR ⊢; have R4 := Lib.hid hR; have G4 := Lib.hid hgr; have A4 := Lib.hid hat; clear hR hgr hat)
  have B4 := Lib.hid (B3.out.grown G4.out B3.out.size (fun k e => O3.out k e))
  have O4 : Hid (w.heap.size ≤ g4) := Lib.hid (by
    rcases A4.out with k | k
    · exact O3.out _ k.symm
    · rw [k]; exact B3.out.size)
  have HS := Lib.hid (sort_any g4 cap4 l w4 R4.out (by omega))
  refine (HS.out).mono ?_
  rintro e w5 ⟨rfl, D, hperm, hrise, hrr, hfr⟩
  have R5 := Lib.hid hrr
  have B5 := Lib.hid (B4.out.trans ⟨hfr.os, hfr.tape, hfr.output, hfr.size, fun k hk => hfr.block k (Nat.lt_of_lt_of_le hk B4.out.size) (by have := O4.out; simp; omega)⟩)
  have hDl : D.length = l.length := hperm.length_eq
  have HPu := Lib.hid (puts_of (l := []) (p := l) (by simpa using hperm) hrise ⟨List.Pairwise.nil, fun r h => by cases h⟩ HOk.out)
  have HPos : Hid (0 < (tog D).length) := Lib.hid (tog_pos (by omega))
  have htl := tog_len D
  have hDok : ∀ r ∈ D, r.ok := fun r hr => HOk.out r (hperm.mem_iff.1 hr)
  have B6 : Hid (Below w.heap.size w w5.drew) := Lib.hid (B5.out.trans ((Drawn.drew w5).below _))
  have hcap : l.length ≤ cap4 ∧ cap4 ≤ 9223372036854775807 := by
    obtain ⟨_, cur, _, k1, k2, _⟩ := hrr.inv
    exact ⟨by omega, k2⟩
  have ht := together_any D ⟨g4, 0, none⟩ cap4 w5.drew (R5.out.drew.its) (by omega) hcap.2 (by omega) hDok
  rw [hDl] at ht
  have HT := Lib.hid ht
  clear ht hcap hDok hperm hrise hrr hfr HS R3 G4 A4 B3 B4 O3 I3
  have HTl : Hid ((tog D).length ≤ l.length) := Lib.hid (by omega)
  have h0 := (HB.out.below B6.out HB.out.lt).cell (i := 0) (v := .slice none 0 0) rfl
  clear htl hDl
  go_wp2_with fail
  go_region_with (first
    | (go_at_call 49; ((with_reducible refine (HT.out).mono ?_); rintro e w6 ⟨u6, rfl, k1, k2, k3⟩); obtain ⟨g6, c6, e6, _⟩ := k1.form1 HPos.out; subst e6; have R6 := Lib.hid k1; have B7 := Lib.hid (B6.out.trans (k2.mono B6.out.size)); clear k1 k2 k3; have HBl := Lib.hid (blocks_all (some ⟨g6, 0, none⟩) c6 (tog D) w6 R6.out HPos.out (by have := HTl.out; omega)); have h1 := (HB.out.below B7.out HB.out.lt).cell (i := 0) (v := .slice none 0 0) rfl)
    | (go_at_call 48; ((with_reducible refine (HBl.out).mono ?_); rintro e w7 ⟨⟨v7, P, rfl, k1, k2, k3, k4, k5⟩, k6⟩; have O7 := Lib.hid k1; have P7 := Lib.hid k2; have A7 := Lib.hid k3; have B8 := Lib.hid (B7.out.trans (k6.mono B7.out.size)); have HRp := Lib.hid (replace_new v7 P.length (pvals P) _ w7 O7.out k5 k4 (pvals_one P7.out)); have N7 := Lib.hid k4; have Z7 := Lib.hid k5; clear k1 k2 k3 k4 k5 k6); have h2 := (HB.out.below B8.out HB.out.lt).cell (i := 0) (v := .slice none 0 0) rfl)
    | (go_at_call 47; ((with_reducible refine (HRp.out).mono ?_); rintro e w8 ⟨⟨v8, rfl, k1⟩, k2⟩); obtain ⟨g8, c8, rfl⟩ := ins_form Z7.out (by rw [Nat.zero_add]; exact k1); have R8 := Lib.hid k1; have G8 := Lib.hid k2; clear k1 k2; have K8 := Lib.hid (HB.out.below (B8.out.trans (G8.out.mono B8.out.size)) HB.out.lt); have h8 := K8.out.cell (i := 0) (v := .slice none 0 0) rfl; have f8 := K8.out.free 0))
  all_goals
    have PE : Hid (PutNew w b l (.returned (.int .i64 0)) (w8.setCell ⟨b, 0, none⟩ (.slice (some ⟨g8, 0, none⟩) P.length c8))) := Lib.hid (fput_end (W := w7) (D := D) (P := P) HB.out B8.out P7.out A7.out N7.out Z7.out HPu.out HTl.out R8.out G8.out B8.out.size)
    clear h8 f8 h1 h2
    go_wp2
    go_ret
    exact PE.out

theorem fset_All (b : Nat) (v : Value) (L : List Rn) (w : World) (hb : Blk w b 91 #[v]) (h : SetBlocks w v L) (hm : L.length ≤ 1000) :
    Calls Try.prog 27 #[.pointer (some ⟨b, 0, none⟩)] w (NewRow w L) := by
  have hcon : Calls Try.prog 44 #[v] w (NewRow w L) := by
    rcases h with ⟨rfl, rfl⟩ | ⟨P, h1, h2, rfl, h4, h5⟩
    · exact concat_none none 0 w
    · exact concat_all v P 0 w h1 h2 h5 h4 hm
  have HC := Lib.hid hcon
  have h0 := hb.cell (i := 0) rfl
  clear hb h hcon
  go_enter Try.func27, Try.ntmps27
  go_wp2_with fail
  refine (HC.out).mono ?_
  rintro e w' ⟨u, rfl, k1, k2, k3⟩
  have H1 := Lib.hid k1
  have H2 := Lib.hid k2
  have H3 := Lib.hid k3
  clear k1 k2 k3
  go_wp2
  go_ret
  exact ⟨u, rfl, H1.out, H2.out, H3.out⟩
end Go.Proofs.Ytfpopbhbhdhdnaa
