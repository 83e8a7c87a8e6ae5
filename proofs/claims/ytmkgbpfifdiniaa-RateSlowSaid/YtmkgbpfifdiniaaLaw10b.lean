/- RateSlow over this translation: no faster. -/
import Derived.Test.YtmkgbpfifdiniaaLaw10a
set_option linter.unusedVariables false
namespace Go.Proofs.Ytmkgbpfifdiniaa
open Go.RowKit Pl

/-- What the law asks of a sample. -/
structure Slow (now : Nat) (x : Smp) (s : RaS) : Prop where
  d : x.deliv ≤ s.n
  t : x.rtt ≤ now
  r : x.rate < 18446744073709551615 → shareS x.rate x.interval 1000000 ≤ x.deliv
  d' : x.deliv ≤ 18446744073709551615
  i' : x.interval ≤ 18446744073709551615
  r' : x.rate ≤ 18446744073709551615
theorem slow_ack {s : RaS} (hs : s.ok) {now : Nat} (hn : now ≤ 18446744073709551615) {q : Pk} {l : List Pk} (hu : ∀ x ∈ q :: l, x.u64) : Slow now (s.ackT now q l) (s.ack now q l) := by
  have ht := newestS_ok (l := l) (hu q List.mem_cons_self).st (fun x hx => hu x (List.mem_cons_of_mem _ hx))
  have hle : sumP s.n (q :: l) ≤ 18446744073709551615 := sumP_le hs.n
  refine ⟨subS_le _ _, subS_le _ _, fun h => share_back _ _ h, ?_, ivS_le hn ht, perS_le _ _⟩
  show subS _ _ ≤ _
  have := subS_le (sumP s.n (q :: l)) (newestS q.st l).deliv
  omega
theorem slow_zero (now : Nat) (s : RaS) : Slow now Smp.zero s := ⟨Nat.zero_le _, Nat.zero_le _, fun _ => by decide, by decide, by decide, by decide⟩

theorem its_own {W a : World} {s : RaS} {p : Option Addr} {l : List Pk} (h : Its W p l) (ha : OwnR W s a) : Its a p l := by
  intro hp
  obtain ⟨b, off, e, hb, hc⟩ := h hp
  exact ⟨b, off, e, Nat.lt_of_lt_of_le hb ha.2.size, fun i j hi hj => (ha.2.cell (p := ⟨b, _, none⟩) hb).trans (hc i j hi hj)⟩
/-- Whatever is acknowledged. -/
theorem any_Ack {W : World} {s : RaS} (hs : s.ok) (now c : Nat) (p : Option Addr) (l : List Pk) (hn : now ≤ 18446744073709551615) (hl : InPks W p l.length c l) :
    ∃ (x : Smp) (s2 : RaS) (f : Bool), Slow now x s2 ∧ s2.ok ∧ ∀ a, OwnR W s a → Calls Try.prog 9 #[.pointer (some ⟨W.heap.size, 0, none⟩), .int .u64 (now : Int), .slice p l.length c] a fun e w' => e = .returned (.tuple #[.agg x.cells, .bool f]) ∧ OwnR W s2 w' ∧ a.grownBy w' (some W.heap.size) := by
  obtain ⟨_, h1, h2, h3, h4⟩ := hl
  cases l with
  | nil => exact ⟨Smp.zero, s, false, slow_zero _ _, hs, fun a ha => (ra_Ack_none _ c p (.int .u64 (now : Int)) a).mono fun _ _ k => ⟨k.1, ha.keep k.2, gr_below k.2 _⟩⟩
  | cons q l =>
    refine ⟨s.ackT now q l, s.ack now q l, true, slow_ack hs hn h4, RaS.ack_ok hs hn h4, fun a ha => ?_⟩
    rw [List.length_cons] at h1 ⊢
    exact own_Ack ha hs now c p q l hn (its_own h3 ha) h4 (fun x e => by
      obtain ⟨b, off, e', hb, _⟩ := h3 (by simp)
      rw [e] at e'; injection e' with e'; subst e'
      show b ≠ _
      omega) h1 h2
end Go.Proofs.Ytmkgbpfifdiniaa
