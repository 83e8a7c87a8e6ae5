/- 1 texts put together: what each one says stands ahead of it. -/
import Derived.Test.YtpkbjfhicocogaaGreatDoorKPlays36
import Derived.Test.YtpkbjfhicocogaaGreatDoorKPlays37
import Derived.Test.YtpkbjfhicocogaaGreatDoorKPlays38
import Derived.Test.YtpkbjfhicocogaaGreatDoorKPlays35
import Derived.Test.YtpkbjfhicocogaaGreatDoorKPlays04
import Derived.Test.YtpkbjfhicocogaaGreatDoorKPlays32
/- The document's engine over this translation: On, New. -/
set_option linter.unusedVariables false
namespace Go.Proofs.YtpkbjfhicocogaaGreatDoor
open Go.RowKit Cf

theorem rz_On {B k j : Nat} {Q : QP} {s : ES} (x : EvS) (hx : x.ok) (W : World) (h : RefAt W B Q s k) (ho : s.ok j) (hj : j ≤ 890) (hk : k ≤ 880) (hr : rightC s.c = true) :
    Calls Tryz.prog 9 #[.pointer (some ⟨Q.m, 0, none⟩), x.val] W (RPost B Q (.returned (.tuple #[])) (s.on x) (k + 3) W) := by
  have o4 := ES.e4_ok ho hx (by omega)
  have o5 := ES.e5_ok ho hx (by omega)
  have o6 := ES.e6_ok ho hx (by omega)
  have o7 := ES.e7_ok ho hx (by omega)
  have r4 : rightC (s.e4 x).c = true := by rw [ES.e4_c]; exact hr
  have r5 : rightC (s.e5 x).c = true := by rw [ES.e5_c]; exact hr
  have r7 : rightC (s.e7 x).c = true := by rw [ES.e7_c]; exact hr
  have HRe := fun w h => rz_read (B := B) (k := k) (Q := Q) (s := s) x hx w h ho (by omega) (by omega)
  have HHo := fun w h => rz_holds (B := B) (k := k + 2) (Q := Q) (s := s.e4 x) w h o4 (by omega) r4
  have HPl := fun w => rb_Pull (s.e4 x).bs x.fl (s.e4 x).holds w hx.fl (ES.holds_le _)
  have HLo := fun w => rb_Lose (s.e4 x).bs x.sd x.sr (s.e4 x).cwnd w o4.bs hx.sd hx.sr o4.cwnd
  have HTu := fun ov lo w h => rz_turn (B := B) (k := k + 2) (Q := Q) (s := s.e5 x) x hx ov lo w h o5 (by omega) r5
  have HPs := fun w => rb_Push (s.e6 x).bs x.ac w o6.bs hx.ac
  have HWi := fun w h => rz_window (B := B) (k := k + 3) (Q := Q) (s := s.e7 x) x hx w h o7 (by omega) r7
  have e6 : ∀ ov lo, s.eo x = ov → s.el x = lo → (s.e5 x).turn x.now (nextS (s.e5 x).st ((s.e5 x).sig x ov lo)) = s.e6 x := fun ov lo a b => by unfold ES.e6; rw [a, b]
  have h6 := e6 _ _ rfl rfl
  have hs : { s.e7 x with cwnd := (s.e7 x).open x.ac } = s.on x := rfl
  rw [hs] at HWi
  cases hl : s.el x with
  | false =>
    have e5 : s.e5 x = s.e4 x := by unfold ES.e5; rw [hl]; rfl
    rw [hl] at HRe h6
    have zz : (((s.e6 x).st == 5) = true ∧ s.e7 x = { s.e6 x with bs := (s.e6 x).bs.push x.ac }) ∨ (((s.e6 x).st == 5) = false ∧ s.e7 x = s.e6 x) := by
      rcases bool_st (s.e6 x).st 5 with ⟨a, b⟩ | ⟨a, b⟩
      · exact Or.inl ⟨a, by unfold ES.e7; rw [if_pos ⟨b, hl⟩]; rfl⟩
      · exact Or.inr ⟨a, by unfold ES.e7; rw [if_neg (fun q => b q.1)]⟩
    exact rz_On_f (hol := 0) (s5 := s) (bs5 := BS.none) x W h HRe (fun w h => h6 ▸ HTu _ _ w (e5 ▸ h)) HPs HWi zz
  | true =>
    have e5 : s.e5 x = (s.e4 x).yield x := by unfold ES.e5; rw [if_pos hl]
    rw [hl] at HRe h6
    have zz : (((s.e6 x).st == 5) = true ∧ s.e7 x = s.e6 x) ∨ (((s.e6 x).st == 5) = false ∧ s.e7 x = s.e6 x) := by
      have : s.e7 x = s.e6 x := by unfold ES.e7; rw [if_neg (fun q => by rw [hl] at q; exact absurd q.2 (by simp))]
      rcases bool_st (s.e6 x).st 5 with ⟨a, b⟩ | ⟨a, b⟩
      · exact Or.inl ⟨a, this⟩
      · exact Or.inr ⟨a, this⟩
    by_cases c : (s.e4 x).st = 0 ∨ (s.e4 x).st = 5
    · have hst : ((s.e4 x).st == 0) = true ∨ (((s.e4 x).st == 0) = false ∧ ((s.e4 x).st == 5) = true) := by
        by_cases c0 : (s.e4 x).st = 0
        · exact Or.inl (beq_iff_eq.2 c0)
        · exact Or.inr ⟨beq_eq_false_iff_ne.2 c0, beq_iff_eq.2 (by omega)⟩
      have h5 : s.e5 x = { s.e4 x with bs := (s.e4 x).bs.pull x.fl (s.e4 x).holds } := by rw [e5]; unfold ES.yield; rw [if_pos c]
      exact rz_On_p (bs7 := (s.e6 x).bs.push x.ac) x W h hst HRe HHo HPl h5 (fun w h => h6 ▸ HTu _ _ w h) HPs HWi zz
    · have hst : ((s.e4 x).st == 0) = false ∧ ((s.e4 x).st == 5) = false := ⟨beq_eq_false_iff_ne.2 (fun e => c (Or.inl e)), beq_eq_false_iff_ne.2 (fun e => c (Or.inr e))⟩
      have h5 : s.e5 x = { s.e4 x with bs := (s.e4 x).bs.lose x.sd x.sr (s.e4 x).cwnd } := by rw [e5]; unfold ES.yield; rw [if_neg c]
      exact rz_On_l (hol := 0) (bs7 := (s.e6 x).bs.push x.ac) x W h hst HRe HLo h5 (fun w h => h6 ▸ HTu _ _ w h) HPs HWi zz
end Go.Proofs.YtpkbjfhicocogaaGreatDoor
