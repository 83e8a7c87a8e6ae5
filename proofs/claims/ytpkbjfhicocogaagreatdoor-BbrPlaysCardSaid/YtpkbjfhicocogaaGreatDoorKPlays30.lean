/- 1 texts put together: what each one says stands ahead of it. -/
import Derived.Test.YtpkbjfhicocogaaGreatDoorKPlays29
import Derived.Test.YtpkbjfhicocogaaGreatDoorKPlays23
/- Contracts of package bbr over this translation: turn and yield, whole. -/
set_option linter.unusedVariables false
namespace Go.Proofs.YtpkbjfhicocogaaGreatDoor
open Go.RowKit Cf

theorem en_turn {B k : Nat} {P : EP} {s : ES} (now : Nat) (t : Int) (W : World) (h : EngAt W B P s) (ho : s.ok k) :
    Calls Tryz.prog 39 #[.pointer (some ⟨P.b, 0, none⟩), .int .u64 (now : Int), .int .i64 t] W (EPost B P (.returned (.tuple #[])) (s.turn now t) W) := by
  unfold ES.turn
  by_cases hn : t = s.st
  · rw [if_pos hn]; exact en_turn_same now t W h hn
  · rw [if_neg hn]
    unfold ES.side
    by_cases h6 : s.st = 6
    · rw [if_pos h6]; exact en_turn_ended now t W h ho hn h6
    · rw [if_neg h6]
      by_cases t6 : t = 6
      · rw [if_pos t6]; exact en_turn_kept now t W h ho hn h6 t6
      · rw [if_neg t6]
        by_cases t4 : t = 4
        · rw [if_pos t4]; exact en_turn_short now t W h ho hn h6 t4
        · rw [if_neg t4]
          by_cases h5 : s.st = 5 ∧ t = 2
          · rw [if_pos h5]; exact en_turn_next now t W h ho h5.1 h5.2
          · rw [if_neg h5]; exact en_turn_none now t W h ho hn h6 t6 t4 h5

theorem en_yield {B k : Nat} {P : EP} {s : ES} (x : EvS) (hx : x.ok) (W : World) (h : EngAt W B P s) (ho : s.ok k) :
    Calls Tryz.prog 38 #[.pointer (some ⟨P.b, 0, none⟩), x.val] W (EPost B P (.returned (.tuple #[])) (s.yield x) W) := by
  unfold ES.yield
  by_cases h0 : s.st = 0
  · rw [if_pos (Or.inl h0)]; exact en_yield0 x hx W h ho h0
  · by_cases h5 : s.st = 5
    · rw [if_pos (Or.inr h5)]; exact en_yield5 x hx W h ho h5
    · rw [if_neg (by simp [h0, h5])]; exact en_yieldn x hx W h ho h0 h5
end Go.Proofs.YtpkbjfhicocogaaGreatDoor
