/- blocks, Insert, Replace over this translation, for a set of one block at most. -/
import Derived.Test.YtgjlbilbjgolpaaSv
set_option linter.unusedVariables false
namespace Go.Proofs.Ytgjlbilbjgolpaa
open Go.RowKit

theorem sl_info : (Try.prog.info? 22).map (fun i => (i.zero, i.size, i.bytes)) = some (some (.slice none 0 0), 1, 24) := by kernel_rfl

theorem blocks_any (n cap : Nat) (p : Option Addr) (w : World) (h : n ≤ 64) :
    Calls Try.prog 20 #[.slice p n cap] w fun e w' => e = .returned (.slice (some ⟨w.heap.size, 0, none⟩) 1 1) ∧ w' = w.alloc (.cells #[.slice p n cap] 22) := by
  go_enter Try.func20, Try.ntmps20
  go_wp2
  go_ret
  exact ⟨rfl, rfl⟩

theorem row_one {T : TypeId} {w : World} {v rv : Value} (h : w.ownsRow 0 T 1 v (0 + 1) ([] ++ [rv])) : ∃ g c, v = .slice (some ⟨g, 0, none⟩) 1 c := by
  rcases h.2 with ⟨_, e⟩ | ⟨g, cap, cur, e, _⟩
  · simp at e
  · exact ⟨g, cap, e⟩
/-- What Insert and Replace leave: a row of one block. -/
def OneRow (w : World) (v0 rv : Value) (e : Ending) (w' : World) : Prop :=
  ∃ g cap, e = .returned (.slice (some ⟨g, 0, none⟩) 1 cap) ∧ w'.ownsRow 0 22 1 (.slice (some ⟨g, 0, none⟩) 1 cap) 1 [rv] ∧ w.grownBy w' v0.ownBlock ∧ (some g = v0.ownBlock ∨ g = w.heap.size)

theorem insert_any (p : Option Addr) (cap b : Nat) (rv : Value) (w : World) (ho : w.ownsRow 0 22 1 (.slice p 0 cap) 0 []) (hb : w.cell? ⟨b, 0, none⟩ = some rv) (h1 : rv.oneCell' = true) :
    Calls Try.prog 32 #[.slice p 0 cap, .int .i64 0, .slice (some ⟨b, 0, none⟩) 1 1] w (OneRow w (.slice p 0 cap) rv) := by
  obtain ⟨i0, hi, hz0, hz1, hz2⟩ := info_parts sl_info
  have HO := Lib.hid ho
  have HC : Hid (∀ j u, [rv][j]? = some u → w.cell? ((⟨b, 0, none⟩ : Addr).add j) = some u) := Lib.hid (fun j u hu => by
    match j, hu with
    | 0, hu => simp at hu; subst hu; simpa [Addr.add] using hb)
  clear ho hb
  go_enter Try.func32, Try.ntmps32
  go_wp2_with (at_builtin; (refine wpList_append_own_at _ rfl _ _ 38 rfl 0 22 i0 (.slice none 0 0) 1 24 Try.underlying38 hi hz0 hz1 hz2 rfl (by decide) (.slice p 0 cap) 0 [] rfl HO.out ⟨b, 0, none⟩ 1 1 [rv] rfl rfl HC.out (fun u hu => by simp at hu; subst hu; exact h1) (by unfold maxLen; omega) (by omega) (Nat.zero_le _) ?_); intro v' w2 hown hgr hnil hat)
  obtain ⟨g, c, rfl⟩ : ∃ g c, v' = .slice (some ⟨g, 0, none⟩) 1 c := row_one hown
  have H1 := Lib.hid hown
  have H2 := Lib.hid hgr
  have H3 := Lib.hid hat
  clear hown hgr hnil hat
  go_ret
  exact ⟨g, c, rfl, H1.out, H2.out, by simpa [Value.ownBlock] using H3.out⟩

set_option maxRecDepth 100000 in
theorem replace_none (p : Option Addr) (cap b : Nat) (rv : Value) (w : World) (ho : w.ownsRow 0 22 1 (.slice p 0 cap) 0 []) (hb : w.cell? ⟨b, 0, none⟩ = some rv) (h1 : rv.oneCell' = true) :
    Calls Try.prog 19 #[.slice p 0 cap, .int .i64 0, .int .i64 0, .slice (some ⟨b, 0, none⟩) 1 1] w (OneRow w (.slice p 0 cap) rv) := by
  have hi := insert_any p cap b rv w ho hb h1
  have HI := Lib.hid hi
  clear hi ho hb
  go_enter Try.func19, Try.ntmps19
  go_wp2_with fail
  refine (HI.out).mono ?_
  rintro e w' ⟨g, c, rfl, k1, k2, k3⟩
  have H1 := Lib.hid k1
  have H2 := Lib.hid k2
  have H3 := Lib.hid k3
  clear k1 k2 k3
  go_wp2
  go_ret
  exact ⟨g, c, rfl, H1.out, H2.out, H3.out⟩

set_option maxRecDepth 100000 in
theorem replace_one (g cap b : Nat) (r0 rv : Value) (w : World) (ho : w.ownsRow 0 22 1 (.slice (some ⟨g, 0, none⟩) 1 cap) 1 [r0]) (hb : w.cell? ⟨b, 0, none⟩ = some rv) (h1 : rv.oneCell' = true) :
    Calls Try.prog 19 #[.slice (some ⟨g, 0, none⟩) 1 cap, .int .i64 0, .int .i64 1, .slice (some ⟨b, 0, none⟩) 1 1] w (OneRow w (.slice (some ⟨g, 0, none⟩) 1 cap) rv) := by
  obtain ⟨i0, hi, hz0, hz1, hz2⟩ := info_parts sl_info
  obtain ⟨cur, k1, k2, k3, k4⟩ : ∃ cur, Blk w g 22 cur ∧ 1 ≤ cap ∧ cap ≤ maxLen ∧ cur.size = cap * 1 := by
    rcases ho.2 with ⟨e, _⟩ | ⟨g', cap', cur, e, _, hg, h1, h2, h3, h4⟩
    · cases e
    · injection e with e e2 e3; injection e with e; injection e with e; subst e; subst e3
      exact ⟨cur, hg, h1, h2, h3⟩
  have HO : Hid (w.ownsRow 0 22 1 (.slice (some ⟨g, 0, none⟩) 0 cap) 0 []) := Lib.hid ⟨rfl, .inr ⟨g, cap, cur, rfl, Nat.zero_le _, k1, Nat.zero_le _, k3, k4, by simp⟩⟩
  have HC : Hid (∀ j u, [rv][j]? = some u → w.cell? ((⟨b, 0, none⟩ : Addr).add j) = some u) := Lib.hid (fun j u hu => by
    match j, hu with
    | 0, hu => simp at hu; subst hu; simpa [Addr.add] using hb)
  unfold maxLen at k3
  clear ho hb k1 k4
  go_enter Try.func19, Try.ntmps19
  go_wp2_with (at_builtin; (refine wpList_append_own_at _ rfl _ _ 38 rfl 0 22 i0 (.slice none 0 0) 1 24 Try.underlying38 hi hz0 hz1 hz2 rfl (by decide) (.slice (some ⟨g, 0, none⟩) 0 cap) 0 [] rfl HO.out ⟨b, 0, none⟩ 1 1 [rv] rfl rfl HC.out (fun u hu => by simp at hu; subst hu; exact h1) (by unfold maxLen; omega) (by omega) (Nat.zero_le _) ?_); intro v' w2 hown hgr hnil hat; obtain ⟨g', c, rfl⟩ : ∃ g' c, v' = .slice (some ⟨g', 0, none⟩) 1 c := row_one hown; have H1 := Lib.hid hown; have H2 := Lib.hid hgr; have H3 := Lib.hid hat; clear hown hgr hnil hat)
  go_ret
  exact ⟨g', c, rfl, H1.out, H2.out, by simpa [Value.ownBlock] using H3.out⟩
end Go.Proofs.Ytgjlbilbjgolpaa
