/- The document's numbers of figures, over this translation. -/
import Derived.Test.YtmdfikpngbbdmaaDoorRw
set_option linter.unusedVariables false
namespace Go.Proofs.YtmdfikpngbbdmaaDoor
open Go.RowKit Go.Shelf Cf

def numV (s : List UInt8) : Nat := (numR s).getD 0
def numOk (s : List UInt8) : Bool := (numR s).isSome
theorem num_yes {s : List UInt8} {n : Nat} (h : numR s = some n) : numV s = n ∧ numOk s = true := by unfold numV numOk; rw [h]; exact ⟨rfl, rfl⟩
theorem num_no {s : List UInt8} (h : numR s = none) : numV s = 0 ∧ numOk s = false := by unfold numV numOk; rw [h]; exact ⟨rfl, rfl⟩
theorem loop_none {s : List UInt8} {k : Nat} (h : numLoop (s.take k) = none) : numLoop s = none := by
  have := numLoop_none (s.take k) (s.drop k) h
  rwa [List.take_append_drop] at this

theorem bad_yes {s : List UInt8} (hl : 1 < s.length) (hb : s[0]? = some 48) : badHead s = true := by
  cases s with
  | nil => cases hb
  | cons x l =>
    have : x = 48 := by simpa using hb
    subst this
    have hl' : 0 < l.length := by simpa using hl
    simp [badHead]
    exact hl'
theorem bad_no {s : List UInt8} {b0 : UInt8} (hb : s[0]? = some b0) (h : ¬ (1 < s.length ∧ b0 = 48)) : badHead s = false := by
  cases s with
  | nil => cases hb
  | cons x l =>
    have e : x = b0 := by simpa using hb
    subst e
    unfold badHead
    by_cases h1 : 1 < (x :: l).length
    · have h2 : ¬ x = 48 := fun e => h ⟨h1, e⟩
      simp [h2]
    · have : decide (1 < (x :: l).length) = false := by simpa using h1
      rw [this]; rfl

/-- The loop's relation of Number. -/
def NR (w : World) (s : List UInt8) (n i : Value) (wr : World) : Prop :=
  ∃ (k a : Nat), k ≤ s.length ∧ i = .int .i64 k ∧ n = .int .u64 (a : Int) ∧ numLoop (s.take k) = some a ∧ a ≤ 1099511627776 ∧ w = wr

set_option maxRecDepth 100000 in
set_option maxHeartbeats 1000000 in
theorem ref_Number (s : List UInt8) (hs : s.length ≤ 300) (w : World) :
    Calls Tryd.prog 21 #[.string (ba s), .int .u64 1099511627776] w fun e w' => e = .returned (.tuple #[.int .u64 (numV s : Int), .bool (numOk s)]) ∧ w = w' := by
  have hsz := ba_size s
  have htl := ba_toList s
  by_cases h0 : s = []
  · subst h0
    have e := num_no (s := []) rfl
    rw [e.1, e.2]
    clear e hsz hs
    go_enter Tryd.func21, Tryd.ntmps21
    go_wp2_with fail
    go_ret2
    exact ⟨rfl, rfl⟩
  · have hpos : 0 < s.length := List.length_pos_iff.2 h0
    have dE : (s == []) = false := by simpa using h0
    have hk0 : 0 < (ba s).size := by omega
    obtain ⟨b0, hb0⟩ : ∃ b, s[0]? = some b := ⟨_, List.getElem?_eq_getElem hpos⟩
    have hg0 : (ba s)[0] = b0 := ba_get hb0 hk0
    by_cases hbad : 1 < s.length ∧ b0 = 48
    · have e := num_no (s := s) (by unfold numR; rw [if_pos (bad_yes hbad.1 (by rw [hb0, hbad.2]))])
      rw [e.1, e.2]
      have d1 : decide ((1 : Int) < (s.length : Int)) = true := by simp; omega
      have d2 : (((ba s)[0].toNat : Int) == 48) = true := by rw [hg0, hbad.2]; rfl
      clear e hg0 hb0 hbad h0
      go_enter Tryd.func21, Tryd.ntmps21
      go_wp2_with fail
      go_ret2
      exact ⟨rfl, rfl⟩
    · have HB : Hid (numR s = numLoop s) := by
        show numR s = numLoop s
        unfold numR; rw [bad_no hb0 hbad]; rfl
      have hcase : decide ((1 : Int) < (s.length : Int)) = false ∨ (decide ((1 : Int) < (s.length : Int)) = true ∧ (((ba s)[0].toNat : Int) == 48) = false) := by
        by_cases h1 : 1 < s.length
        · refine .inr ⟨by simp; omega, ?_⟩
          rw [hg0]
          refine beq_eq_false_iff_ne.2 (fun h => hbad ⟨h1, ?_⟩)
          apply UInt8.toNat_inj.1
          have h48 : (48 : UInt8).toNat = 48 := rfl
          omega
        · exact .inl (by simp; omega)
      have HS := Lib.hid hs
      clear hg0 hb0 hbad h0
      rcases hcase with d1 | ⟨d1, d2⟩
      all_goals
        go_enter Tryd.func21, Tryd.ntmps21
        go_wp2_with fail
        go_loopw [6, 7] (NR w s) (fun _ i _ => s.length - (intOf i).toNat)
        case atStart => exact ⟨0, 0, by omega, rfl, rfl, rfl, by omega, rfl⟩
        case round =>
          obtain ⟨k, a, hk, rfl, rfl, hL, ha, rfl⟩ := hrel
          have HL := Lib.hid hL
          have HA := Lib.hid ha
          clear hL ha d1
          by_cases hlt : k < s.length
          · obtain ⟨b, hbs⟩ : ∃ b, s[k]? = some b := ⟨_, List.getElem?_eq_getElem hlt⟩
            have hk2 : k < (ba s).size := by omega
            have hbk : (ba s)[k] = b := ba_get hbs hk2
            have HN : Hid (numLoop (s.take (k + 1)) = numStep a b) := by
              show numLoop (s.take (k + 1)) = numStep a b
              rw [List.take_add_one, hbs, Option.toList_some, numLoop_snoc, HL.out]; rfl
            unfold numStep at HN
            have hX : (ba s)[k].toNat = b.toNat := by rw [hbk]
            clear hbk hbs HL
            generalize b.toNat = x at *
            by_cases hlo : x < 48
            · have d3 : decide ((x : Int) < 48) = true := by simp; omega
              have e := num_no (s := s) (by rw [HB.out]; exact loop_none (k := k + 1) (by rw [HN.out, if_pos (.inl hlo)]))
              have HE := Lib.hid e
              clear e HN HA HB
              go_wp2_with fail
              go_ret2
              exact ⟨by rw [HE.out.1, HE.out.2]; rfl, rfl⟩
            · have d3 : decide ((x : Int) < 48) = false := by simp; omega
              by_cases hhi : 57 < x
              · have d4 : decide ((57 : Int) < (x : Int)) = true := by simp; omega
                have e := num_no (s := s) (by rw [HB.out]; exact loop_none (k := k + 1) (by rw [HN.out, if_pos (.inr hhi)]))
                have HE := Lib.hid e
                clear e HN HA HB
                go_wp2_with fail
                go_ret2
                exact ⟨by rw [HE.out.1, HE.out.2]; rfl, rfl⟩
              · have d4 : decide ((57 : Int) < (x : Int)) = false := by simp; omega
                rw [if_neg (by omega)] at HN
                have w8 : IntKind.u8.wrap ((x : Int) - 48) = ((x - 48 : Nat) : Int) := by rw [IntKind.wrap_u8]; omega
                have hq : x - 48 ≤ 9 := by omega
                clear d3 d4
                have d3 : decide ((x : Int) < 48) = false := by simp; omega
                have d4 : decide ((57 : Int) < (x : Int)) = false := by simp; omega
                generalize x - 48 = q at *
                have d6 : decide ((1099511627776 : Int) < (q : Int)) = false := by simp; omega
                by_cases hov : (1099511627776 - q) / 10 < a
                · have d5 : decide ((1099511627776 - (q : Int)) / 10 < (a : Int)) = true := by simp; omega
                  have e := num_no (s := s) (by rw [HB.out]; exact loop_none (k := k + 1) (by rw [HN.out, if_pos hov]))
                  have HE := Lib.hid e
                  clear e HN HA HB hov
                  go_wp2_with fail
                  go_ret2
                  exact ⟨by rw [HE.out.1, HE.out.2]; rfl, rfl⟩
                · have d5 : decide ((1099511627776 - (q : Int)) / 10 < (a : Int)) = false := by simp; omega
                  have hle : a ≤ 109951162777 := by omega
                  rw [if_neg hov] at HN
                  have HV := Lib.hid hov
                  clear hov
                  go_wp2_with fail
                  go_roundw
                  case rel => exact ⟨k + 1, 10 * a + q, by omega, by go_num, by go_num, HN.out, by have := HV.out; omega, rfl⟩
                  case measure => simp [intOf]; omega
          · have hkk : k = s.length := by omega
            subst hkk
            have hL := HL.out
            rw [List.take_of_length_le (Nat.le_refl _)] at hL
            have e := num_yes (s := s) (by rw [HB.out]; exact hL)
            have HE := Lib.hid e
            clear e hL HL HA HB
            go_wp2_with fail
            go_ret2
            exact ⟨by rw [HE.out.1, HE.out.2]; rfl, rfl⟩
end Go.Proofs.YtmdfikpngbbdmaaDoor
