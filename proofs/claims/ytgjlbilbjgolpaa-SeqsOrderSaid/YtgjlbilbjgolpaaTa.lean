/- The document's Right and Same over this translation. -/
import Derived.Test.YtgjlbilbjgolpaaSz
set_option linter.unusedVariables false
namespace Go.Proofs.Ytgjlbilbjgolpaa
open Go.RowKit

theorem all_take {l : List Rn} {k : Nat} (h : k < l.length) : (l.take (k + 1)).all okB = ((l.take k).all okB && okB (l.getD k Itm.z)) := by
  rw [List.take_succ_eq_append_getElem h, List.all_append]
  simp [List.getD_eq_getElem?_getD, h]
theorem all_hit {l : List Rn} {k : Nat} (h : k < l.length) (hb : okB (l.getD k Itm.z) = false) : l.all okB = false := by
  rw [List.all_eq_false]
  exact ⟨l.getD k Itm.z, by simp [List.getD_eq_getElem?_getD, h], by rw [hb]; decide⟩

set_option maxHeartbeats 1000000 in
theorem right_any (l : List Rn) (p : Option Addr) (c : Nat) (w : World) (hl : Its w p l) (hm : l.length ≤ 9223372036854775807) (hu : ∀ r ∈ l, r.u64) :
    Calls Try.prog 4 #[.slice p l.length c] w fun e w' => e = .returned (.bool (l.all okB)) ∧ Drawn w w' := by
  have HL := Lib.hid hl
  have hu' : ∀ i, i < l.length → (l.getD i Itm.z).u64 := fun i hi => hu _ (by simp [List.getD_eq_getElem?_getD, hi])
  have HU := Lib.hid hu'
  clear hl hu hu'
  generalize hres : l.all okB = res
  have HRes := Lib.hid hres
  clear hres
  go_enter Try.func4, Try.ntmps4
  go_wp2
  go_loopw [3] (fun i wr => ∃ k : Nat, i = .int .i64 (k : Int) ∧ k ≤ l.length ∧ (l.take k).all okB = true ∧ Drawn w wr) (fun i _ => l.length - (intOf i).toNat)
  case atStart => exact ⟨0, rfl, Nat.zero_le _, rfl, Drawn.refl _⟩
  case round =>
    obtain ⟨k, rfl, hk, ha, hd⟩ := hrel
    have HA := Lib.hid ha
    have HD := Lib.hid hd
    clear ha hd
    by_cases hlt : k < l.length
    · obtain ⟨ad, rfl, _⟩ := HL.out.cells (by omega)
      obtain ⟨b, off, rfl, hb, hc⟩ := its_two HL.out (by omega)
      obtain ⟨c0, c1⟩ := hc k hlt
      have d0 := (HD.out.cell _).trans c0
      have d1 := (HD.out.cell _).trans c1
      have HT := Lib.hid (all_take hlt)
      have HH : Hid (okB (l.getD k Itm.z) = false → res = false) := Lib.hid (fun h => by rw [← HRes.out]; exact all_hit hlt h)
      have hou := HU.out k hlt
      have HOu : Hid (okB (l.getD k Itm.z) = !(decide ((l.getD k Itm.z).b < (l.getD k Itm.z).a) || decide ((l.getD k Itm.z).b = 18446744073709551615))) := Lib.hid rfl
      clear hc c0 c1
      generalize l.getD k Itm.z = r at *
      have i0 : (0 : Int) ≤ (k : Int) := by omega
      have i1 : (k : Int) < (l.length : Int) := by omega
      have hu1 := hou.2
      clear hou
      by_cases h1 : r.b < r.a
      · have e : Hid (res = false) := Lib.hid (HH.out (by rw [HOu.out]; simp [h1]))
        have e' := e.out
        subst e'
        go_wp2
        go_quiet (fail)
        go_wp2
        go_ret
        exact ⟨rfl, HD.out.more ⟨_, rfl⟩⟩
      · by_cases h2 : r.b = 18446744073709551615
        · have e : Hid (res = false) := Lib.hid (HH.out (by rw [HOu.out]; simp [h2]))
          have e' := e.out
          subst e'
          have h2' : ((r.b : Int) == 18446744073709551615) = true := by simp; omega
          have h1' : decide ((r.b : Int) < (r.a : Int)) = false := by simp; omega
          clear h2
          go_wp2
          go_quiet (fail)
          go_wp2
          go_ret
          exact ⟨rfl, HD.out.more ⟨_, rfl⟩⟩
        · have e : Hid (okB r = true) := Lib.hid (by rw [HOu.out]; simp [h1, h2])
          have h2' : ¬ ((r.b : Int) = 18446744073709551615) := by omega
          clear h2 hu1
          go_wp2
          go_quiet (fail)
          go_wp2
          go_roundw
          case rel => exact ⟨k + 1, by go_num, by omega, by rw [HT.out, HA.out, e.out]; rfl, HD.out.more ⟨_, rfl⟩⟩
          case measure => simp [intOf]; omega
    · obtain rfl : k = l.length := by omega
      have e : Hid (res = true) := Lib.hid (by rw [← HRes.out, ← HA.out, List.take_length])
      have e' := e.out
      subst e'
      go_wp2
      go_ret
      exact ⟨rfl, HD.out⟩
end Go.Proofs.Ytgjlbilbjgolpaa
