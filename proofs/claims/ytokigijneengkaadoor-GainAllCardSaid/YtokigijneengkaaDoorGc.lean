/- Contracts of package gain over this translation: Pace, Window. -/
import Derived.Test.YtokigijneengkaaDoorGb
import Derived.Test.YtokigijneengkaaDoorFixS
import Derived.Test.YtokigijneengkaaDoorFixB
set_option linter.unusedVariables false
namespace Go.Proofs.YtokigijneengkaaDoor
open Go.RowKit Go.Maps Pl

def paceG (k x : Nat) : Nat := shareS x (rateG k) 100
def windowG (k x : Nat) : Nat := overS x (flightG k) 100
theorem paceG_none (x : Nat) : paceG 7 x = 0 := by unfold paceG shareS rateG; simp
theorem windowG_none (x : Nat) : windowG 7 x = 0 := by unfold windowG overS flightG; simp

theorem gains_f0 (a b : Int) (w : World) : (Instr.field 37 (.agg #[.int .u64 a, .int .u64 b]) 0).run Tryd.prog w = .ok (.int .u64 a) w := by kernel_rfl
theorem gains_f1 (a b : Int) (w : World) : (Instr.field 37 (.agg #[.int .u64 a, .int .u64 b]) 1).run Tryd.prog w = .ok (.int .u64 b) w := by kernel_rfl

theorem ga_Pace (s : Int) (x : Nat) (hx : x ≤ 18446744073709551615) (w : World) (hg : Gl w) :
    Calls Tryd.prog 11 #[.int .i64 s, .int .u64 (x : Int)] w fun e w' => e = .returned (.int .u64 (paceG (stG s) x : Int)) ∧ Below w.heap.size w w' := by
  have HO := Lib.hid (ga_of s w hg)
  have hf := gains_f0
  have ha := rateG_le (stG s)
  have HS := Lib.hid (fun w => share_b x (rateG (stG s)) 100 w hx (by omega) (by omega))
  have HE : Hid (paceG (stG s) x = shareS x (rateG (stG s)) 100) := Lib.hid rfl
  generalize rateG (stG s) = a at *
  generalize flightG (stG s) = b at *
  generalize paceG (stG s) x = p at *
  generalize shareS x a 100 = q at *
  clear hg ha hx
  go_enter Tryd.func11, Tryd.ntmps11
  go_wp2_with (first
    | (go_at_call 18; refine (HO.out).mono ?_; rintro e w' ⟨rfl, hb⟩; have HB := Lib.hid hb; clear hb)
    | (go_at_call 21; refine (HS.out _).mono ?_; rintro e w2 ⟨rfl, hb⟩; have HB2 := Lib.hid hb; clear hb))
  go_ret
  exact ⟨ret_u64 (by rw [HE.out]), bnext HB.out HB2.out⟩

theorem ga_Window (s : Int) (x : Nat) (hx : x ≤ 18446744073709551615) (w : World) (hg : Gl w) :
    Calls Tryd.prog 13 #[.int .i64 s, .int .u64 (x : Int)] w fun e w' => e = .returned (.int .u64 (windowG (stG s) x : Int)) ∧ Below w.heap.size w w' := by
  have HO := Lib.hid (ga_of s w hg)
  have hf := gains_f1
  have ha := flightG_le (stG s)
  have HS := Lib.hid (fun w => fix_Over_pl x (flightG (stG s)) 100 w hx (by omega) (by omega))
  have HE : Hid (windowG (stG s) x = overS x (flightG (stG s)) 100) := Lib.hid rfl
  generalize flightG (stG s) = b at *
  generalize rateG (stG s) = a at *
  generalize windowG (stG s) x = p at *
  generalize overS x b 100 = q at *
  clear hg ha hx
  go_enter Tryd.func13, Tryd.ntmps13
  go_wp2_with (first
    | (go_at_call 18; refine (HO.out).mono ?_; rintro e w' ⟨rfl, hb⟩; have HB := Lib.hid hb; clear hb)
    | (go_at_call 24; refine (HS.out _).mono ?_; rintro e w2 ⟨rfl, hb⟩; have HB2 := Lib.hid hb; clear hb))
  go_ret
  exact ⟨ret_u64 (by rw [HE.out]), bnext HB.out HB2.out⟩
end Go.Proofs.YtokigijneengkaaDoor
