/- A filter, and the document's, side by side, over this translation: they are the same. -/
import Derived.Test.YthhiljaceobnmaaMg
set_option linter.unusedVariables false
namespace Go.Proofs.Ythhiljaceobnmaa
open Go.RowKit Pl

set_option maxHeartbeats 1000000 in
theorem law_same {w : World} {a m b g B : Nat} {v : Value} {f : FS} {A : List Rd} (h1 : FlAt w a b g f) (h2 : MAt w B m v f.win f.least f.t A) (hi : Inv f A) (ho : f.ok) (hn : A.length ≤ 1000) :
    Calls Try.prog 13 #[.pointer (some ⟨a, 0, none⟩), .pointer (some ⟨m, 0, none⟩)] w fun e w' => e = .returned (.bool true) ∧ Below w.heap.size w w' := by
  have H1 := Lib.hid h1
  have H2 := Lib.hid h2
  have HB := Lib.hid (fl_Best a b g f w h1)
  have HM : Hid (∀ w', Below w.heap.size w w' → Calls Try.prog 22 #[.pointer (some ⟨m, 0, none⟩)] w' fun e w'' => e = .returned (bestV f) ∧ Below w'.heap.size w' w'') := Lib.hid (fun w' k => me_Best B m v f A w' (h2.keep k) hi ho hn)
  clear h1 h2 hi ho
  unfold bestV at HB HM
  generalize f.best.x = X at *
  generalize f.best.t = T at *
  generalize f.some = o at *
  go_enter Try.func13, Try.ntmps13
  go_wp2_with fail
  refine (HB.out).mono ?_
  rintro e w1 ⟨rfl, hb⟩
  have HB1 := Lib.hid hb
  clear hb HB
  go_wp2_with fail
  refine (HM.out w1 HB1.out).mono ?_
  rintro e w2 ⟨rfl, hb⟩
  have HB2 := Lib.hid (bel_to HB1.out hb HB1.out.size)
  clear hb HM HB1
  have HT : Hid (∀ n, Calls Try.prog 10 #[.pointer (some ⟨a, 0, none⟩)] (w2.drewN n) fun e w' => e = .returned (.int .u64 (f.t : Int)) ∧ w' = w2.drewN n) := Lib.hid (fun n => (fl_Time a b g f (w2.drewN n) ((H1.out.keep HB2.out).keep ((show Drawn w2 (w2.drewN n) from ⟨n, rfl⟩).below _))).mono fun _ _ ⟨p, q⟩ => ⟨p, q.symm⟩)
  have m2 := (H2.out.keep HB2.out).head.cell (i := 2) (v := .int .u64 (f.t : Int)) rfl
  generalize f.t = ft at *
  go_wp2_with fail
  go_quiet (first | (go_at_call 10; exact Calls.quiet_of_same (HT.out _)))
  have HD : Hid (Drawn w2 (w2.drewN nq)) := Lib.hid ⟨nq, rfl⟩
  go_wp2_with fail
  go_ret
  exact ⟨by simp, HB2.out.trans (HD.out.below _)⟩

theorem FS.act_win (f : FS) (p : Bool) (t x : Nat) : (f.act p t x).win = f.win := by cases p; exact FS.to_win f t; exact FS.put_win f t x
theorem FS.act_least (f : FS) (p : Bool) (t x : Nat) : (f.act p t x).least = f.least := by cases p; exact FS.to_least f t; exact FS.put_least f t x
theorem FS.act_t (f : FS) (p : Bool) (t x : Nat) : (f.act p t x).t = nowOf f.t t := by
  unfold nowOf
  cases p
  · show (f.to t).t = _
    unfold FS.to; split <;> rfl
  · show (f.put t x).t = _
    unfold FS.put; split <;> rfl
theorem FS.act_ok {f : FS} (h : f.ok) {t : Nat} (p : Bool) (x : Nat) (ht : t ≤ 18446744073709551615) (hn : f.l.length ≤ 999) : (f.act p t x).ok := by
  cases p; exact FS.to_ok h ht; exact FS.put_ok h ht hn
theorem FS.act_len (f : FS) (p : Bool) (t x : Nat) : (f.act p t x).l.length ≤ f.l.length + 1 := by
  cases p
  · have := FS.to_len f t; show (f.to t).l.length ≤ _; omega
  · exact FS.put_len f t x
theorem act_inv {f : FS} {A : List Rd} (h : Inv f A) (p : Bool) (t x : Nat) (ht : t ≤ 18446744073709551615) : Inv (f.act p t x) (actAll A f.t p t x) := by
  cases p
  · exact h.to t
  · show Inv (f.put t x) (putAll A f.t t x)
    unfold putAll
    by_cases c : t < f.t
    · rw [if_pos c]
      have e : f.put t x = f := if_pos c
      rw [e]; exact h
    · rw [if_neg c]; exact h.put t x ht c
theorem actAll_len (A : List Rd) (now : Nat) (p : Bool) (t x : Nat) : (actAll A now p t x).length ≤ A.length + 1 := by
  cases p
  · show A.length ≤ _; omega
  · show (putAll A now t x).length ≤ _
    unfold putAll; split <;> simp

/-- A filter, and the document's, after at most k acts. -/
def PairRel (W : World) (a m win : Nat) (s : Bool) (k : Nat) (w : World) : Prop :=
  ∃ (f : FS) (A : List Rd), PairSt W w a m f f.win f.least f.t A ∧ Inv f A ∧ f.ok ∧ f.l.length ≤ k ∧ A.length ≤ k ∧ f.win = win ∧ f.least = s
theorem PairRel.bel {W w : World} {a m win k : Nat} {s : Bool} (h : PairRel W a m win s k w) : Below W.heap.size W w := by
  obtain ⟨f, A, ⟨_, _, _, _, _, _, _, _, _, k⟩, _⟩ := h; exact k
theorem PairRel.keep {W w w' : World} {a m win k : Nat} {s : Bool} (h : PairRel W a m win s k w) (hk : Below w.heap.size w w') : PairRel W a m win s k w' := by
  obtain ⟨f, A, h1, h2⟩ := h
  exact ⟨f, A, h1.keep hk, h2⟩

theorem rel_act {W w : World} {a m win k t x : Nat} {s p : Bool} (h : PairRel W a m win s k w) (ht : t ≤ 18446744073709551615) (hk : k ≤ 900) :
    Calls Try.prog 11 #[.pointer (some ⟨a, 0, none⟩), .pointer (some ⟨m, 0, none⟩), .agg #[.bool p, .int .u64 (t : Int), .int .u64 (x : Int)]] w fun e w' => e = .returned (.bool true) ∧ PairRel W a m win s (k + 1) w' := by
  obtain ⟨f, A, h1, h2, h3, h4, h5, h6, h7⟩ := h
  refine (pair_act (p := p) (t := t) (x := x) h1 h3 ht (by omega)).mono fun e w' q => ⟨q.1, f.act p t x, actAll A f.t p t x, ?_, act_inv h2 p t x ht, FS.act_ok h3 p x ht (by omega), by have := FS.act_len f p t x; omega, by have := actAll_len A f.t p t x; omega, by rw [FS.act_win]; exact h6, by rw [FS.act_least]; exact h7⟩
  rw [FS.act_win, FS.act_least, FS.act_t]
  exact q.2
theorem rel_same {W w : World} {a m win k : Nat} {s : Bool} (h : PairRel W a m win s k w) (hk : k ≤ 900) :
    Calls Try.prog 13 #[.pointer (some ⟨a, 0, none⟩), .pointer (some ⟨m, 0, none⟩)] w fun e w' => e = .returned (.bool true) ∧ Below w.heap.size w w' := by
  obtain ⟨f, A, ⟨b, g, v, q1, q2, _⟩, h2, h3, h4, h5, h6, h7⟩ := h
  exact law_same q1 q2 h2 h3 (by omega)
end Go.Proofs.Ythhiljaceobnmaa
