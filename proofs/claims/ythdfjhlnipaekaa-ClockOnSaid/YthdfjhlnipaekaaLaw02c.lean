/- ClockOn over this translation: time, and bytes, do not fall, nor exceed the horizon; what is past stays so. -/
import Derived.Test.YthdfjhlnipaekaaIn02
set_option linter.unusedVariables false
namespace Go.Proofs.Ythdfjhlnipaekaa
open Go.RowKit Pl

theorem ClockOn_long (v : Option Addr) (n cap : Nat) (w : World) (h : 200 < n) (hn : n ≤ 9223372036854775807) :
    Calls Try.prog 4 #[.slice v n cap] w fun e w' => e = .returned (.bool true) ∧ Below w.heap.size w w' := by
  have HA := Lib.hid (alive02 w)
  have hc : decide (200 < (n : Int)) = true := by simp; omega
  go_enter Try.func4, Try.ntmps4
  go_wp2_with (go_at_call 5; refine (HA.out).mono ?_; rintro e w' ⟨rfl, hb⟩)
  go_ret
  exact ⟨rfl, hb⟩

/-- The law's own clock, and what was there before. -/
def OnS (w : World) (s : CS) (wr : World) : Prop := Blk wr w.heap.size 39 s.cells ∧ Below w.heap.size w wr

theorem OnS.keep {w a b : World} {s : CS} (h : OnS w s a) (k : Below a.heap.size a b) : OnS w s b := ⟨h.1.keep k, bel_to h.2 k h.2.size⟩
theorem OnS.gr {w a b : World} {s s' : CS} (h : OnS w s a) (hb : Blk b w.heap.size 39 s'.cells) (k : a.grownBy b (some w.heap.size)) : OnS w s' b := ⟨hb, bel_gr h.2 k h.2.size (Nat.le_refl _)⟩

theorem on_Time {w a : World} {s : CS} (h : Hid (OnS w s a)) : Calls Try.prog 11 #[.pointer (some ⟨w.heap.size, 0, none⟩)] a fun e w' => e = .returned (.int .u64 (s.t : Int)) ∧ Hid (OnS w s w') :=
  (clock_Time _ s _ h.out.1).mono fun _ _ k => ⟨k.1, Lib.hid (h.out.keep k.2)⟩
theorem on_Bytes {w a : World} {s : CS} (h : Hid (OnS w s a)) : Calls Try.prog 12 #[.pointer (some ⟨w.heap.size, 0, none⟩)] a fun e w' => e = .returned (.int .u64 (s.n : Int)) ∧ Hid (OnS w s w') :=
  (clock_Bytes _ s _ h.out.1).mono fun _ _ k => ⟨k.1, Lib.hid (h.out.keep k.2)⟩
theorem on_Past {w a : World} {s : CS} (h : Hid (OnS w s a)) : Calls Try.prog 13 #[.pointer (some ⟨w.heap.size, 0, none⟩)] a fun e w' => e = .returned (.bool s.p) ∧ Hid (OnS w s w') :=
  (clock_Past _ s _ h.out.1).mono fun _ _ k => ⟨k.1, Lib.hid (h.out.keep k.2)⟩

/-- How a clock goes on. -/
structure CS.On (s s' : CS) : Prop where
  t : s.t ≤ s'.t
  n : s.n ≤ s'.n
  p : s.p = true → s' = s

theorem CS.to_on (s : CS) (x : Nat) : s.On (s.toS x) := by
  unfold CS.toS
  split
  · exact ⟨Nat.le_refl _, Nat.le_refl _, fun _ => rfl⟩
  · next h => split
              · exact ⟨Nat.le_refl _, Nat.le_refl _, fun _ => rfl⟩
              · split
                · exact ⟨Nat.le_refl _, Nat.le_refl _, fun k => absurd k h⟩
                · exact ⟨by dsimp; omega, Nat.le_refl _, fun k => absurd k h⟩
theorem CS.count_on (s : CS) (x : Nat) : s.On (s.countS x) := by
  unfold CS.countS
  split
  · exact ⟨Nat.le_refl _, Nat.le_refl _, fun _ => rfl⟩
  · next h => split
              · exact ⟨Nat.le_refl _, Nat.le_refl _, fun k => absurd k h⟩
              · exact ⟨Nat.le_refl _, by dsimp; omega, fun k => absurd k h⟩

def OnRel (w : World) (n k : Nat) (s : CS) (wr : World) : Prop := k ≤ n ∧ s.ok ∧ Hid (OnS w s wr)

set_option maxHeartbeats 2000000 in
set_option maxRecDepth 100000 in
theorem ClockOn_short (b off cap : Nat) (l : List (Bool × Nat)) (w : World) (hn : l.length ≤ 200) (hb : 0 < l.length → b < w.heap.size) (hl : Acts w b off l) (v : Option Addr) (hv : 0 < l.length → v = some ⟨b, off, none⟩) :
    Calls Try.prog 4 #[.slice v l.length cap] w fun e w' => e = .returned (.bool true) ∧ Below w.heap.size w w' := by
  have HL := Lib.hid hl
  have HB := Lib.hid hb
  have HV := Lib.hid hv
  clear hl hb hv
  have HA := Lib.hid alive02
  have hc : decide (200 < l.length) = false := by simpa using hn
  go_enter Try.func4, Try.ntmps4
  go_wp2_with (go_at_call 6; refine (clock_New _).mono ?_; rintro e w0 ⟨rfl, rfl⟩)
  go_loopw [4] (fun i wr => ∃ (k : Nat) (s : CS), i = .int .i64 (k : Int) ∧ OnRel w l.length k s wr) (fun i _ => l.length - (intOf i).toNat)
  case atStart =>
    exact ⟨0, CS.zero, rfl, Nat.zero_le _, ⟨by decide, by decide⟩, Lib.hid ⟨Blk.new _ _ _, (Below.refl _ _).alloc (Nat.le_refl _) _⟩⟩
  case round =>
    obtain ⟨k, s, rfl, hk, hs, H0⟩ := hrel
    have HS := Lib.hid hs
    clear hs
    by_cases hlt : k < l.length
    · obtain ⟨hc0, hc1, hx⟩ := HL.out k hlt
      have hbl := HB.out (by omega)
      obtain rfl := HV.out (by omega)
      generalize (l.getD k (false, 0)).2 = x at *
      generalize (l.getD k (false, 0)).1 = c at *
      have K0 := Lib.hid hc0
      have K1 := Lib.hid hc1
      clear hc0 hc1
      cases c with
      | true =>
        go_wp2_with (first | (go_at_call 11; refine (on_Time (by assumption)).mono ?_; rintro e w1 ⟨rfl, H1⟩) | (go_at_call 12; refine (on_Bytes (by assumption)).mono ?_; rintro e w2 ⟨rfl, H2⟩) | (go_at_call 13; refine (on_Past (by assumption)).mono ?_; rintro e w3 ⟨rfl, H3⟩; have d0 := (H3.out.2.cell (p := ⟨b, off + k * 2, none⟩) hbl).trans K0.out; have d1 := (H3.out.2.cell (p := ⟨b, off + k * 2 + 1, none⟩) hbl).trans K1.out))
        refine (clock_Count _ x s _ H3.out.1 hx (Nat.le_trans HS.out.2 (by decide))).mono ?_
        rintro e w4 ⟨rfl, b4, g4⟩
        have J0 := Lib.hid (H3.out.gr b4 g4)
        have HO := Lib.hid (CS.count_ok HS.out x)
        obtain ⟨o1, o2, o3⟩ := CS.count_on s x
        clear b4 g4 d0 d1 K0 K1 H0 H1 H2 H3
        generalize s.countS x = s' at *
        have l1 := HO.out.1
        have l2 := HO.out.2
        have m0 : decide (s'.t < s.t) = false := by simpa using o1
        have m1 : decide (s'.n < s.n) = false := by simpa using o2
        have m2 : decide ((4398046511104 : Int) < (s'.t : Int)) = false := by simp; omega
        have m3 : decide ((72057594037927936 : Int) < (s'.n : Int)) = false := by simp; omega
        have l3 := HS.out.1
        have l4 := HS.out.2
        have m4 : decide ((4398046511104 : Int) < (s.t : Int)) = false := by simp; omega
        have m5 : decide ((72057594037927936 : Int) < (s.n : Int)) = false := by simp; omega
        clear l1 l2 l3 l4
        cases hp : s.p with
        | true =>
          obtain rfl := o3 hp
          clear o1 o2 o3
          go_wp2_with (first | (go_at_call 11; refine (on_Time (by assumption)).mono ?_; rintro e w1 ⟨rfl, H1⟩) | (go_at_call 12; refine (on_Bytes (by assumption)).mono ?_; rintro e w2 ⟨rfl, H2⟩) | (go_at_call 13; refine (on_Past (by assumption)).mono ?_; rintro e w3 ⟨rfl, H3⟩))
          all_goals (refine ⟨⟨k + 1, s', by go_num, by omega, HO.out, by assumption⟩, by simp [intOf]; omega⟩)
        | false =>
          clear o3
          rw [hp] at *
          go_wp2_with (first | (go_at_call 11; refine (on_Time (by assumption)).mono ?_; rintro e w1 ⟨rfl, H1⟩) | (go_at_call 12; refine (on_Bytes (by assumption)).mono ?_; rintro e w2 ⟨rfl, H2⟩) | (go_at_call 13; refine (on_Past (by assumption)).mono ?_; rintro e w3 ⟨rfl, H3⟩))
          all_goals (refine ⟨⟨k + 1, s', by go_num, by omega, HO.out, by assumption⟩, by simp [intOf]; omega⟩)
      | false =>
        go_wp2_with (first | (go_at_call 11; refine (on_Time (by assumption)).mono ?_; rintro e w1 ⟨rfl, H1⟩) | (go_at_call 12; refine (on_Bytes (by assumption)).mono ?_; rintro e w2 ⟨rfl, H2⟩) | (go_at_call 13; refine (on_Past (by assumption)).mono ?_; rintro e w3 ⟨rfl, H3⟩; have d0 := (H3.out.2.cell (p := ⟨b, off + k * 2, none⟩) hbl).trans K0.out; have d1 := (H3.out.2.cell (p := ⟨b, off + k * 2 + 1, none⟩) hbl).trans K1.out))
        refine (clock_To _ x s _ H3.out.1).mono ?_
        rintro e w4 ⟨rfl, b4, g4⟩
        have J0 := Lib.hid (H3.out.gr b4 g4)
        have HO := Lib.hid (CS.to_ok HS.out x)
        obtain ⟨o1, o2, o3⟩ := CS.to_on s x
        clear b4 g4 d0 d1 K0 K1 H0 H1 H2 H3
        generalize s.toS x = s' at *
        have l1 := HO.out.1
        have l2 := HO.out.2
        have m0 : decide (s'.t < s.t) = false := by simpa using o1
        have m1 : decide (s'.n < s.n) = false := by simpa using o2
        have m2 : decide ((4398046511104 : Int) < (s'.t : Int)) = false := by simp; omega
        have m3 : decide ((72057594037927936 : Int) < (s'.n : Int)) = false := by simp; omega
        have l3 := HS.out.1
        have l4 := HS.out.2
        have m4 : decide ((4398046511104 : Int) < (s.t : Int)) = false := by simp; omega
        have m5 : decide ((72057594037927936 : Int) < (s.n : Int)) = false := by simp; omega
        clear l1 l2 l3 l4
        cases hp : s.p with
        | true =>
          obtain rfl := o3 hp
          clear o1 o2 o3
          go_wp2_with (first | (go_at_call 11; refine (on_Time (by assumption)).mono ?_; rintro e w1 ⟨rfl, H1⟩) | (go_at_call 12; refine (on_Bytes (by assumption)).mono ?_; rintro e w2 ⟨rfl, H2⟩) | (go_at_call 13; refine (on_Past (by assumption)).mono ?_; rintro e w3 ⟨rfl, H3⟩))
          all_goals (refine ⟨⟨k + 1, s', by go_num, by omega, HO.out, by assumption⟩, by simp [intOf]; omega⟩)
        | false =>
          clear o3
          rw [hp] at *
          go_wp2_with (first | (go_at_call 11; refine (on_Time (by assumption)).mono ?_; rintro e w1 ⟨rfl, H1⟩) | (go_at_call 12; refine (on_Bytes (by assumption)).mono ?_; rintro e w2 ⟨rfl, H2⟩) | (go_at_call 13; refine (on_Past (by assumption)).mono ?_; rintro e w3 ⟨rfl, H3⟩))
          all_goals (refine ⟨⟨k + 1, s', by go_num, by omega, HO.out, by assumption⟩, by simp [intOf]; omega⟩)
    · go_wp2_with (first | (go_at_call 5; refine (HA.out _).mono ?_; rintro e w1 ⟨rfl, h1⟩) | (go_at_call 9; refine (clock_To_nil _ _).mono ?_; rintro e w' ⟨rfl, rfl⟩) | (go_at_call 7; refine (clock_Count_nil _ _).mono ?_; rintro e w' ⟨rfl, rfl⟩) | (go_at_call 11; refine (clock_Time_nil _).mono ?_; rintro e w2 ⟨rfl, h2⟩) | (go_at_call 12; refine (clock_Bytes_nil _).mono ?_; rintro e w3 ⟨rfl, h3⟩) | (go_at_call 13; refine (clock_Past_nil _).mono ?_; rintro e w4 ⟨rfl, h4⟩))
      go_ret
      exact ⟨rfl, ((((H0.out.keep h1).keep h2).keep h3).keep h4).2⟩

theorem ClockOn_walk (v : Option Addr) (len cap : Nat) (l : List (Bool × Nat)) (b off : Nat) (w : World) (h : InActs w v len l b off) :
    Calls Try.prog 4 #[.slice v len cap] w fun e w' => e = .returned (.bool true) ∧ Below w.heap.size w w' := by
  obtain ⟨rfl, hm, hv, ha⟩ := h
  by_cases c : 200 < l.length
  · exact ClockOn_long v _ cap w c hm
  · exact ClockOn_short b off cap l w (by omega) (fun h => (hv h).2) ha v (fun h => (hv h).1)
end Go.Proofs.Ythdfjhlnipaekaa
