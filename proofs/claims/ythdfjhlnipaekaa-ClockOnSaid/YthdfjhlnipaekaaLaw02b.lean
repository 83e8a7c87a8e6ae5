/- ClockPlays over this translation: the clock answers as the document's clock does, act by act. -/
import Derived.Test.YthdfjhlnipaekaaLaw02a
import Derived.Deep.DeepCutAuto
import Derived.Deep.LoopGhost
set_option linter.unusedVariables false
namespace Go.Proofs.Ythdfjhlnipaekaa
open Go.RowKit Pl

/-- The acts that came in: what kind, and a number. -/
def Acts (w : World) (b off : Nat) (l : List (Bool × Nat)) : Prop :=
  ∀ i, i < l.length → w.cell? ⟨b, off + i * 2, none⟩ = some (.bool (l.getD i (false, 0)).1) ∧ w.cell? ⟨b, off + i * 2 + 1, none⟩ = some (.int .u64 ((l.getD i (false, 0)).2 : Int)) ∧ (l.getD i (false, 0)).2 ≤ 18446744073709551615

theorem ClockPlays_long (v : Option Addr) (n cap : Nat) (w : World) (h : 200 < n) (hn : n ≤ 9223372036854775807) :
    Calls Try.prog 3 #[.slice v n cap] w fun e w' => e = .returned (.bool true) ∧ Below w.heap.size w w' := by
  have HA := Lib.hid (alive02 w)
  have hc : decide (200 < (n : Int)) = true := by simp; omega
  go_enter Try.func3, Try.ntmps3
  go_wp2_with (go_at_call 5; refine (HA.out).mono ?_; rintro e w' ⟨rfl, hb⟩)
  go_ret
  exact ⟨rfl, hb⟩

/-- What holds of the two clocks at each round's head. -/
def PlayRel (w : World) (n k : Nat) (s : CS) (wr : World) : Prop :=
  k ≤ n ∧ s.ok ∧ Blk wr w.heap.size 39 s.cells ∧ Blk wr (w.heap.size + 1) 29 s.cells ∧ Below w.heap.size w wr

theorem play_keep {c m : Nat} {s : CS} {B : Nat} {w a b : World} (k : Below a.heap.size a b)
    (h : a.cell? ⟨m, 0, none⟩ = some (.int .u64 (s.t : Int)) ∧ a.cell? ⟨m, 1, none⟩ = some (.int .u64 (s.n : Int)) ∧ a.cell? ⟨m, 2, none⟩ = some (.bool s.p) ∧ Hid (Blk a c 39 s.cells) ∧ Hid (Blk a m 29 s.cells) ∧ Hid (Below B w a) ∧ Hid (B ≤ a.heap.size)) :
    b.cell? ⟨m, 0, none⟩ = some (.int .u64 (s.t : Int)) ∧ b.cell? ⟨m, 1, none⟩ = some (.int .u64 (s.n : Int)) ∧ b.cell? ⟨m, 2, none⟩ = some (.bool s.p) ∧ Hid (Blk b c 39 s.cells) ∧ Hid (Blk b m 29 s.cells) ∧ Hid (Below B w b) ∧ Hid (B ≤ b.heap.size) := by
  obtain ⟨h0, h1, h2, hc, hm, hw, hB⟩ := h
  have hm' := hm.out.keep k
  exact ⟨hm'.cell rfl, hm'.cell rfl, hm'.cell rfl, Lib.hid (hc.out.keep k), Lib.hid hm', Lib.hid (bel_to hw.out k hB.out), Lib.hid (Nat.le_trans hB.out k.size)⟩

set_option maxHeartbeats 2000000 in
theorem ClockPlays_short (b off cap : Nat) (l : List (Bool × Nat)) (w : World) (hn : l.length ≤ 200) (hb : 0 < l.length → b < w.heap.size) (hl : Acts w b off l) (v : Option Addr) (hv : 0 < l.length → v = some ⟨b, off, none⟩) :
    Calls Try.prog 3 #[.slice v l.length cap] w fun e w' => e = .returned (.bool true) ∧ Below w.heap.size w w' := by
  have HL := Lib.hid hl
  have HB := Lib.hid hb
  have HV := Lib.hid hv
  clear hl hb hv
  have HA := Lib.hid alive02
  have hc : decide (200 < l.length) = false := by simpa using hn
  go_enter Try.func3, Try.ntmps3
  go_wp2_with (go_at_call 6; refine (clock_New _).mono ?_; rintro e w0 ⟨rfl, rfl⟩)
  go_loopw [5] (fun i wr => ∃ (k : Nat) (s : CS), i = .int .i64 (k : Int) ∧ PlayRel w l.length k s wr) (fun i _ => l.length - (intOf i).toNat)
  case atStart =>
    exact ⟨0, CS.zero, rfl, Nat.zero_le _, ⟨by decide, by decide⟩, (Blk.new _ _ _).alloc _, Blk.new1 _ _ _ _, ((Below.refl _ _).alloc (Nat.le_refl _) _).alloc (by simp) _⟩
  case round =>
    obtain ⟨k, s, rfl, hk, hs, hb1, hb2, hbel⟩ := hrel
    have HS := Lib.hid hs
    have B1 := Lib.hid hb1
    have B2 := Lib.hid hb2
    have G := Lib.hid hbel
    clear hs hb1 hb2 hbel
    by_cases hlt : k < l.length
    · obtain ⟨hc0, hc1, hx⟩ := HL.out k hlt
      have hbl := HB.out (by omega)
      obtain rfl := HV.out (by omega)
      rw [← G.out.cell (p := ⟨b, off + k * 2, none⟩) hbl] at hc0
      rw [← G.out.cell (p := ⟨b, off + k * 2 + 1, none⟩) hbl] at hc1
      generalize (l.getD k (false, 0)).2 = x at *
      generalize (l.getD k (false, 0)).1 = c at *
      cases c with
      | true =>
        go_wp2_with fail
        refine (clock_Count _ x s _ B1.out hx (Nat.le_trans HS.out.2 (by decide))).mono ?_
        rintro e w1 ⟨rfl, b1, g1⟩
        have C1 := Lib.hid b1
        have C2 := Lib.hid (B2.out.grown g1 (by simp))
        have G1 := Lib.hid (bel_gr G.out g1 G.out.size (Nat.le_refl _))
        have d1 := g1.cell hc1 (by simp; omega)
        clear b1 g1 hc0 hc1
        go_wp2_with fail
        refine (ref_Count _ x s _ C2.out hx HS.out.2).mono ?_
        rintro e w2 ⟨rfl, b2, g2⟩
        have D1 := Lib.hid (C1.out.grown g2 (by simp))
        have D2 := Lib.hid b2
        have G2 := Lib.hid (bel_gr G1.out g2 G1.out.size (Nat.le_succ _))
        have HO := Lib.hid (CS.count_ok HS.out x)
        clear b2 g2 d1 B1 B2 C1 C2 G G1
        generalize s.countE x = r at *
        generalize s.countS x = s' at *
        go_wp2_with fail
        have e0 := D2.out.drew.cell (i := 0) (v := .int .u64 s'.t) rfl
        have e1 := D2.out.drew.cell (i := 1) (v := .int .u64 s'.n) rfl
        have e2 := D2.out.drew.cell (i := 2) (v := .bool s'.p) rfl
        have F1 := Lib.hid D1.out.drew
        have F2 := Lib.hid D2.out.drew
        have F3 := Lib.hid G2.out.drew
        have F4 := Lib.hid G2.out.drew.size
        go_region_held3 (fun w' => w'.cell? ⟨w.heap.size + 1, 0, none⟩ = some (.int .u64 (s'.t : Int)) ∧ w'.cell? ⟨w.heap.size + 1, 1, none⟩ = some (.int .u64 (s'.n : Int)) ∧ w'.cell? ⟨w.heap.size + 1, 2, none⟩ = some (.bool s'.p) ∧ Hid (Blk w' w.heap.size 39 s'.cells) ∧ Hid (Blk w' (w.heap.size + 1) 29 s'.cells) ∧ Hid (Below w.heap.size w w') ∧ Hid (w.heap.size ≤ w'.heap.size))
          (first | exact ⟨e0, e1, e2, F1, F2, F3, F4⟩ | exact play_keep hb ⟨by assumption, by assumption, by assumption, by assumption, by assumption, by assumption, by assumption⟩)
          (first | (go_at_call 11; go_split_ands; refine (clock_Time _ s' _ (Hid.out (by assumption))).mono ?_; rintro e w' ⟨rfl, hb⟩) | (go_at_call 12; go_split_ands; refine (clock_Bytes _ s' _ (Hid.out (by assumption))).mono ?_; rintro e w' ⟨rfl, hb⟩) | (go_at_call 13; go_split_ands; refine (clock_Past _ s' _ (Hid.out (by assumption))).mono ?_; rintro e w' ⟨rfl, hb⟩))
        go_split_ands
        have E1 := Lib.hid (‹Hid (Blk w' w.heap.size 39 s'.cells)›).out
        have E2 := Lib.hid (‹Hid (Blk w' (w.heap.size + 1) 29 s'.cells)›).out
        have E3 := Lib.hid (‹Hid (Below w.heap.size w w')›).out
        clear e0 e1 e2
        go_wp2_with fail
        go_roundw
        case rel => exact ⟨k + 1, s', by go_num, by omega, HO.out, E1.out, E2.out, E3.out⟩
        case measure => simp [intOf]; omega
      | false =>
        go_wp2_with fail
        refine (clock_To _ x s _ B1.out).mono ?_
        rintro e w1 ⟨rfl, b1, g1⟩
        have C1 := Lib.hid b1
        have C2 := Lib.hid (B2.out.grown g1 (by simp))
        have G1 := Lib.hid (bel_gr G.out g1 G.out.size (Nat.le_refl _))
        have d1 := g1.cell hc1 (by simp; omega)
        clear b1 g1 hc0 hc1
        go_wp2_with fail
        refine (ref_To _ x s _ C2.out).mono ?_
        rintro e w2 ⟨rfl, b2, g2⟩
        have D1 := Lib.hid (C1.out.grown g2 (by simp))
        have D2 := Lib.hid b2
        have G2 := Lib.hid (bel_gr G1.out g2 G1.out.size (Nat.le_succ _))
        have HO := Lib.hid (CS.to_ok HS.out x)
        clear b2 g2 d1 B1 B2 C1 C2 G G1
        generalize s.toE x = r at *
        generalize s.toS x = s' at *
        go_wp2_with fail
        have e0 := D2.out.drew.cell (i := 0) (v := .int .u64 s'.t) rfl
        have e1 := D2.out.drew.cell (i := 1) (v := .int .u64 s'.n) rfl
        have e2 := D2.out.drew.cell (i := 2) (v := .bool s'.p) rfl
        have F1 := Lib.hid D1.out.drew
        have F2 := Lib.hid D2.out.drew
        have F3 := Lib.hid G2.out.drew
        have F4 := Lib.hid G2.out.drew.size
        go_region_held3 (fun w' => w'.cell? ⟨w.heap.size + 1, 0, none⟩ = some (.int .u64 (s'.t : Int)) ∧ w'.cell? ⟨w.heap.size + 1, 1, none⟩ = some (.int .u64 (s'.n : Int)) ∧ w'.cell? ⟨w.heap.size + 1, 2, none⟩ = some (.bool s'.p) ∧ Hid (Blk w' w.heap.size 39 s'.cells) ∧ Hid (Blk w' (w.heap.size + 1) 29 s'.cells) ∧ Hid (Below w.heap.size w w') ∧ Hid (w.heap.size ≤ w'.heap.size))
          (first | exact ⟨e0, e1, e2, F1, F2, F3, F4⟩ | exact play_keep hb ⟨by assumption, by assumption, by assumption, by assumption, by assumption, by assumption, by assumption⟩)
          (first | (go_at_call 11; go_split_ands; refine (clock_Time _ s' _ (Hid.out (by assumption))).mono ?_; rintro e w' ⟨rfl, hb⟩) | (go_at_call 12; go_split_ands; refine (clock_Bytes _ s' _ (Hid.out (by assumption))).mono ?_; rintro e w' ⟨rfl, hb⟩) | (go_at_call 13; go_split_ands; refine (clock_Past _ s' _ (Hid.out (by assumption))).mono ?_; rintro e w' ⟨rfl, hb⟩))
        go_split_ands
        have E1 := Lib.hid (‹Hid (Blk w' w.heap.size 39 s'.cells)›).out
        have E2 := Lib.hid (‹Hid (Blk w' (w.heap.size + 1) 29 s'.cells)›).out
        have E3 := Lib.hid (‹Hid (Below w.heap.size w w')›).out
        clear e0 e1 e2
        go_wp2_with fail
        go_roundw
        case rel => exact ⟨k + 1, s', by go_num, by omega, HO.out, E1.out, E2.out, E3.out⟩
        case measure => simp [intOf]; omega
    · go_wp2_with (go_at_call 5; refine (HA.out _).mono ?_; rintro e w' ⟨rfl, hb⟩)
      go_ret
      exact ⟨rfl, bel_to G.out hb G.out.size⟩
end Go.Proofs.Ythdfjhlnipaekaa
