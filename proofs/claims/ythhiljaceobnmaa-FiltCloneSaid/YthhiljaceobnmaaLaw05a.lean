/- The live question of layer 5 over this translation. -/
import Derived.Test.YthhiljaceobnmaaFg
set_option linter.unusedVariables false
namespace Go.Proofs.Ythhiljaceobnmaa
open Go.RowKit Pl

theorem al1 : (⟨10, 0, true, []⟩ : FS).put 1 5 = ⟨10, 1, true, [⟨1, 5⟩]⟩ := by rfl
theorem al2 : (⟨10, 1, true, [⟨1, 5⟩]⟩ : FS).put 4 7 = ⟨10, 4, true, [⟨1, 5⟩, ⟨4, 7⟩]⟩ := by rfl
theorem al3 : (⟨10, 4, true, [⟨1, 5⟩, ⟨4, 7⟩]⟩ : FS).to 12 = ⟨10, 12, true, [⟨4, 7⟩]⟩ := by rfl

/-- A call of a method keeps what the call owns. -/
theorem bel_fp {B : Nat} {W w w' : World} {a b g : Nat} {v : Ending} {f : FS} {e : Ending} (h : Below B W w) (k : FPost w a b g v f e w') (hB : B ≤ w.heap.size) (ha : B ≤ a) (hb : B ≤ b) (hg : B ≤ g) : Below B W w' :=
  bel_fr h k.fr hB (by intro y hy; simp at hy; omega)

/-- A filter of the call's own. -/
def Own (W w : World) (a : Nat) (f : FS) : Prop := ∃ b g, FlAt w a b g f ∧ W.heap.size ≤ a ∧ W.heap.size ≤ b ∧ W.heap.size ≤ g ∧ Below W.heap.size W w
theorem Own.post {W w w' : World} {a b g : Nat} {v : Ending} {f' : FS} {e : Ending} (k : FPost w a b g v f' e w') (ha : W.heap.size ≤ a) (hb : W.heap.size ≤ b) (hg : W.heap.size ≤ g) (h : Below W.heap.size W w) : Own W w' a f' := by
  obtain ⟨g', h1, h2⟩ := k.at_
  have := h.size
  exact ⟨b, g', h1, ha, hb, by omega, bel_fp h k h.size ha hb hg⟩
theorem own_Put {W w : World} {a t x : Nat} {f : FS} (h : Own W w a f) (ho : f.ok) (ht : t ≤ 18446744073709551615) :
    Calls Try.prog 8 #[.pointer (some ⟨a, 0, none⟩), .int .u64 (t : Int), .int .u64 (x : Int)] w fun e w' => e = .returned (.int .i64 (f.err t)) ∧ Own W w' a (f.put t x) := by
  obtain ⟨b, g, h1, h2, h3, h4, h5⟩ := h
  exact (fl_Put a b g t x f w h1 ho ht).mono fun e w' k => ⟨k.e, Own.post k h2 h3 h4 h5⟩
theorem own_To {W w : World} {a t : Nat} {f : FS} (h : Own W w a f) (ho : f.ok) (ht : t ≤ 18446744073709551615) :
    Calls Try.prog 7 #[.pointer (some ⟨a, 0, none⟩), .int .u64 (t : Int)] w fun e w' => e = .returned (.int .i64 (f.err t)) ∧ Own W w' a (f.to t) := by
  obtain ⟨b, g, h1, h2, h3, h4, h5⟩ := h
  exact (fl_To a b g t f w h1 ho ht).mono fun e w' k => ⟨k.e, Own.post k h2 h3 h4 h5⟩
theorem own_Best {W w : World} {a : Nat} {f : FS} (h : Own W w a f) :
    Calls Try.prog 9 #[.pointer (some ⟨a, 0, none⟩)] w fun e w' => e = .returned (bestV f) ∧ Own W w' a f := by
  obtain ⟨b, g, h1, h2, h3, h4, h5⟩ := h
  exact (fl_Best a b g f w h1).mono fun e w' k => ⟨k.1, b, g, h1.keep k.2, h2, h3, h4, bel_to h5 k.2 h5.size⟩

theorem ok1 : (⟨10, 0, true, []⟩ : FS).ok := ⟨by decide, by decide, by simp, by simp⟩
theorem ok2 : (⟨10, 1, true, [⟨1, 5⟩]⟩ : FS).ok := ⟨by decide, by decide, by simp, by simp⟩
theorem ok3 : (⟨10, 4, true, [⟨1, 5⟩, ⟨4, 7⟩]⟩ : FS).ok := ⟨by decide, by decide, by simp, by simp⟩
theorem ok4 : (⟨10, 12, true, [⟨4, 7⟩]⟩ : FS).ok := ⟨by decide, by decide, by simp, by simp⟩

set_option maxHeartbeats 1000000 in
set_option maxRecDepth 100000 in
theorem alive05 (w : World) : Calls Try.prog 5 #[] w fun e w' => e = .returned (.bool true) ∧ Below w.heap.size w w' := by
  go_enter Try.func5, Try.ntmps5
  go_wp2_with fail
  refine (fl_Least 10 w).mono ?_
  rintro e w1 ⟨⟨a, b, g, rfl, hr, ha, hb, hg⟩, hbel⟩
  have H1 : Hid (Own w w1 a ⟨10, 0, true, []⟩) := Lib.hid ⟨b, g, hr, ha, hb, hg, hbel⟩
  clear hr hbel hb hg
  go_wp2_with fail
  have C2 : Hid (Calls Try.prog 8 #[.pointer (some ⟨a, 0, none⟩), .int .u64 1, .int .u64 5] w1 fun e w' => e = .returned (.int .i64 0) ∧ Own w w' a ⟨10, 1, true, [⟨1, 5⟩]⟩) := Lib.hid (own_Put (t := 1) (x := 5) H1.out ok1 (by decide))
  refine (C2.out).mono ?_
  rintro e w2 ⟨rfl, h2⟩
  have H2 := Lib.hid h2
  clear h2 H1 C2
  go_wp2_with fail
  have C3 : Hid (Calls Try.prog 8 #[.pointer (some ⟨a, 0, none⟩), .int .u64 4, .int .u64 7] w2 fun e w' => e = .returned (.int .i64 0) ∧ Own w w' a ⟨10, 4, true, [⟨1, 5⟩, ⟨4, 7⟩]⟩) := Lib.hid (own_Put (t := 4) (x := 7) H2.out ok2 (by decide))
  refine (C3.out).mono ?_
  rintro e w3 ⟨rfl, h3⟩
  have H3 := Lib.hid h3
  clear h3 H2 C3
  go_wp2_with fail
  have C4 : Hid (Calls Try.prog 9 #[.pointer (some ⟨a, 0, none⟩)] w3 fun e w' => e = .returned (.tuple #[.int .u64 5, .int .u64 1, .bool true]) ∧ Own w w' a ⟨10, 4, true, [⟨1, 5⟩, ⟨4, 7⟩]⟩) := Lib.hid (own_Best H3.out)
  refine (C4.out).mono ?_
  rintro e w4 ⟨rfl, h4⟩
  have H4 := Lib.hid h4
  clear h4 H3 C4
  go_wp2_with fail
  have C5 : Hid (Calls Try.prog 7 #[.pointer (some ⟨a, 0, none⟩), .int .u64 12] w4 fun e w' => e = .returned (.int .i64 0) ∧ Own w w' a ⟨10, 12, true, [⟨4, 7⟩]⟩) := Lib.hid (own_To (t := 12) H4.out ok3 (by decide))
  refine (C5.out).mono ?_
  rintro e w5 ⟨rfl, h5⟩
  have H5 := Lib.hid h5
  clear h5 H4 C5
  go_wp2_with fail
  have C6 : Hid (Calls Try.prog 9 #[.pointer (some ⟨a, 0, none⟩)] w5 fun e w' => e = .returned (.tuple #[.int .u64 7, .int .u64 4, .bool true]) ∧ Own w w' a ⟨10, 12, true, [⟨4, 7⟩]⟩) := Lib.hid (own_Best H5.out)
  refine (C6.out).mono ?_
  rintro e w6 ⟨rfl, h6⟩
  have H6 := Lib.hid h6
  clear h6 H5 C6
  go_wp2_with fail
  have C7 : Hid (Calls Try.prog 7 #[.pointer (some ⟨a, 0, none⟩), .int .u64 11] w6 fun e w' => e = .returned (.int .i64 2) ∧ Own w w' a ⟨10, 12, true, [⟨4, 7⟩]⟩) := Lib.hid (own_To (t := 11) H6.out ok4 (by decide))
  refine (C7.out).mono ?_
  rintro e w7 ⟨rfl, h7⟩
  have H7 := Lib.hid h7
  clear h7 H6 C7
  go_wp2_with fail
  go_ret
  exact ⟨rfl, by obtain ⟨_, _, _, _, _, _, k⟩ := H7.out; exact k⟩
end Go.Proofs.Ythhiljaceobnmaa
