/- The document's Same of two slices that read alike, over this translation. -/
import Derived.Test.YtgjlbilbjgolpaaTa
import Derived.Laws.StructEq
set_option linter.unusedVariables false
namespace Go.Proofs.Ytgjlbilbjgolpaa
open Go.RowKit

theorem neq_self (a b : Nat) (w : World) : Sem.run Try.prog (binOp .neq 31 (.agg #[.int .u64 (a : Int), .int .u64 (b : Int)]) (.agg #[.int .u64 (a : Int), .int .u64 (b : Int)])) w = .ok (.bool false) w := by
  have u := Try.underlying29
  have ag := Try.isAgg29
  have z := Try.sizeOf29
  have hS : Try.prog.underlying 31 = some (.struct (Try.prog.fieldsOf 31)) := by kernel_rfl
  have hp : Try.prog.stoodInHeld 31 = false := by kernel_rfl
  rw [run_neq_struct, show (10000 : Nat) = 9999 + 1 from rfl, run_equalIn_agg w 9999 31 _ _ hS hp]
  simp only [Program.fieldsOf, Try.underlying31]
  go_simp

set_option maxHeartbeats 1000000 in
theorem same_eq (l : List Rn) (p q : Option Addr) (c d : Nat) (w : World) (hl : Its w p l) (hk : Its w q l) (hm : l.length ≤ 9223372036854775807) :
    Calls Try.prog 9 #[.slice p l.length c, .slice q l.length d] w fun e w' => e = .returned (.bool true) ∧ Drawn w w' := by
  have HL := Lib.hid hl
  have HK := Lib.hid hk
  clear hl hk
  have hne := neq_self
  go_enter Try.func9, Try.ntmps9
  go_wp2
  go_loopw [5] (fun i wr => ∃ k : Nat, i = .int .i64 (k : Int) ∧ k ≤ l.length ∧ Drawn w wr) (fun i _ => l.length - (intOf i).toNat)
  case atStart => exact ⟨0, rfl, Nat.zero_le _, Drawn.refl _⟩
  case round =>
    obtain ⟨k, rfl, hk, hd⟩ := hrel
    have HD := Lib.hid hd
    clear hd
    by_cases hlt : k < l.length
    · obtain ⟨ad, rfl, _⟩ := HL.out.cells (by omega)
      obtain ⟨b, off, rfl, hb, hc⟩ := its_two HL.out (by omega)
      obtain ⟨ad2, rfl, _⟩ := HK.out.cells (by omega)
      obtain ⟨b2, off2, rfl, hb2, hc2⟩ := its_two HK.out (by omega)
      obtain ⟨c0, c1⟩ := hc k hlt
      obtain ⟨c2, c3⟩ := hc2 k hlt
      have d0 := (HD.out.cell _).trans c0
      have d1 := (HD.out.cell _).trans c1
      have d2 := (HD.out.cell _).trans c2
      have d3 := (HD.out.cell _).trans c3
      clear hc c0 c1 hc2 c2 c3
      generalize l.getD k Itm.z = r at *
      have i0 : (0 : Int) ≤ (k : Int) := by omega
      have i1 : (k : Int) < (l.length : Int) := by omega
      have hn := fun w => hne r.a r.b w
      clear hne
      go_wp2
      go_quiet (fail)
      go_wp2
      go_roundw
      case rel => exact ⟨k + 1, by go_num, by omega, HD.out.more ⟨_, rfl⟩⟩
      case measure => simp [intOf]; omega
    · obtain rfl : k = l.length := by omega
      clear hne
      go_wp2
      go_ret
      exact ⟨rfl, HD.out⟩
end Go.Proofs.Ytgjlbilbjgolpaa
