/- No queue; a queue of the call's own; the live question of layer 19 is answered as it is fixed. -/
import Derived.Test.YteolchbeiidapaaWs
set_option linter.unusedVariables false
namespace Go.Proofs.Yteolchbeiidapaa
open Go.RowKit

theorem wn_Head (W : World) : Calls Try.prog 16 #[.pointer none] W fun e w' => e = pkgot Itm.z false ∧ Below W.heap.size W w' := by
  have F1 := Blk.new W 36 #[.int .u64 0, .int .u64 0, .int .u64 0, .int .u64 0, .int .u64 0, .int .u64 0, .bool false]
  have HW := al_be W (.cells #[.int .u64 0, .int .u64 0, .int .u64 0, .int .u64 0, .int .u64 0, .int .u64 0, .bool false] 36)
  go_enter Try.func16, Try.ntmps16
  go_wp2_with fail
  exact bodyPost_ret (results_cell_tmp rfl _ _ W.heap.size 36 _ _ rfl F1 Try.underlying36 rfl (by kernel_rfl)) rfl ⟨rfl, HW⟩
theorem wn_Shift (W : World) : Calls Try.prog 7 #[.pointer none] W fun e w' => e = pkgot Itm.z false ∧ Below W.heap.size W w' := by
  have F1 := Blk.new W 36 #[.int .u64 0, .int .u64 0, .int .u64 0, .int .u64 0, .int .u64 0, .int .u64 0, .bool false]
  have HW := al_be W (.cells #[.int .u64 0, .int .u64 0, .int .u64 0, .int .u64 0, .int .u64 0, .int .u64 0, .bool false] 36)
  go_enter Try.func7, Try.ntmps7
  go_wp2_with fail
  exact bodyPost_ret (results_cell_tmp rfl _ _ W.heap.size 36 _ _ rfl F1 Try.underlying36 rfl (by kernel_rfl)) rfl ⟨rfl, HW⟩
theorem wn_Bytes (w : World) : Calls Try.prog 14 #[.pointer none] w fun e w' => e = .returned (.int .u64 0) ∧ w = w' := by
  go_enter Try.func14, Try.ntmps14
  go_wp2
  go_ret
  exact ⟨rfl, rfl⟩
theorem wn_All (w : World) : Calls Try.prog 12 #[.pointer none] w fun e w' => e = .returned (.slice none 0 0) ∧ w = w' := by
  go_enter Try.func12, Try.ntmps12
  go_wp2
  go_ret
  exact ⟨rfl, rfl⟩
theorem wn_Dropped (w : World) : Calls Try.prog 11 #[.pointer none] w fun e w' => e = .returned (.tuple #[.int .u64 0, .int .u64 0]) ∧ w = w' := by
  go_enter Try.func11, Try.ntmps11
  go_wp2
  go_ret2
  exact ⟨rfl, rfl⟩
theorem wn_Put (w : World) (cs : Array Value) : Calls Try.prog 9 #[.pointer none, .agg cs] w fun e w' => e = .returned (.bool false) ∧ Below w.heap.size w w' := by
  go_enter Try.func9, Try.ntmps9
  go_wp2
  go_ret
  exact ⟨rfl, al_be _ _⟩

/-- A queue of the call's own. -/
structure OwnQ (W : World) (b : Nat) (s : QK) (w : World) : Prop where
  at_ : ∃ rb g, QAt w b rb g s ∧ W.heap.size ≤ rb ∧ W.heap.size ≤ g
  lo : W.heap.size ≤ b
  bel : Below W.heap.size W w
theorem OwnQ.to {W w w' : World} {b : Nat} {s : QK} (h : OwnQ W b s w) (k : Below w.heap.size w w') : OwnQ W b s w' :=
  ⟨by obtain ⟨rb, g, h1, h2⟩ := h.at_; exact ⟨rb, g, h1.keep k, h2⟩, h.lo, bel_to h.bel k h.bel.size⟩
theorem OwnQ.post {W w w' : World} {b rb g : Nat} {s s' : QK} {r : Value} {e : Ending} (h : OwnQ W b s w) (h1 : QAt w b rb g s) (h2 : W.heap.size ≤ rb) (h3 : W.heap.size ≤ g) (k : QPost w b rb g r s' e w') : OwnQ W b s' w' := by
  obtain ⟨g', k1, k2⟩ := k.at_
  have sz := h.bel.size
  have lo := h.lo
  exact ⟨⟨rb, g', k1, h2, by omega⟩, lo, bel_fr h.bel k.fr sz (fun x hx => by simp at hx; omega)⟩
theorem own_New (r : Nat) (W : World) : Calls Try.prog 6 #[.int .u64 (r : Int)] W fun e w' => ∃ b, e = .returned (.pointer (some ⟨b, 0, none⟩)) ∧ Hid (OwnQ W b (QK.start r) w') :=
  (wq_New r W).mono fun e w' k => by
    obtain ⟨⟨b, rb, g, he, h1, h2, h3, h4⟩, hb⟩ := k
    exact ⟨b, he, Lib.hid ⟨⟨rb, g, h1, h3, h4⟩, h2, hb⟩⟩
theorem own_Put (W : World) (b : Nat) (s s' : QK) (p : Pk) (q : Bool) (hs : s.putQ p = s') (hq : s.putB p = q) (ho : s.ok) (hp : p.size ≤ 18446744073709551615) (hk : s.l.length ≤ 1000) (w : World) (h : OwnQ W b s w) :
    Calls Try.prog 9 #[.pointer (some ⟨b, 0, none⟩), p.agg] w fun e w' => e = .returned (.bool q) ∧ Hid (OwnQ W b s' w') := by
  obtain ⟨rb, g, h1, h2, h3⟩ := h.at_
  subst hs hq
  exact (wq_Put b rb g p s w h1 ho hp hk).mono fun e w' k => ⟨k.e, Lib.hid (h.post h1 h2 h3 k)⟩
theorem own_Shift (W : World) (b : Nat) (s s' : QK) (x : Pk) (q : Bool) (hs : s.shiftQ = s') (hx : s.headQ = x) (hq : s.someQ = q) (ho : s.ok) (w : World) (h : OwnQ W b s w) :
    Calls Try.prog 7 #[.pointer (some ⟨b, 0, none⟩)] w fun e w' => e = .returned (.tuple #[x.agg, .bool q]) ∧ Hid (OwnQ W b s' w') := by
  obtain ⟨rb, g, h1, h2, h3⟩ := h.at_
  subst hs hx hq
  exact (wq_Shift b rb g s w h1 ho).mono fun e w' k => ⟨k.e, Lib.hid (h.post h1 h2 h3 k)⟩
theorem own_Head (W : World) (b : Nat) (s : QK) (x : Pk) (q : Bool) (hx : s.headQ = x) (hq : s.someQ = q) (w : World) (h : OwnQ W b s w) :
    Calls Try.prog 16 #[.pointer (some ⟨b, 0, none⟩)] w fun e w' => e = .returned (.tuple #[x.agg, .bool q]) ∧ Below w.heap.size w w' := by
  obtain ⟨rb, g, h1, h2, h3⟩ := h.at_
  subst hx hq
  exact wq_Head b rb g s w h1
theorem own_Bytes (W : World) (b : Nat) (s : QK) (w : World) (h : OwnQ W b s w) :
    Calls Try.prog 14 #[.pointer (some ⟨b, 0, none⟩)] w fun e w' => e = .returned (.int .u64 (s.n : Int)) ∧ w = w' := by
  obtain ⟨rb, g, h1, h2, h3⟩ := h.at_
  exact wq_room b rb g s w h1
theorem own_Dropped (W : World) (b : Nat) (s : QK) (w : World) (h : OwnQ W b s w) :
    Calls Try.prog 11 #[.pointer (some ⟨b, 0, none⟩)] w fun e w' => e = .returned (.tuple #[.int .u64 (s.dr : Int), .int .u64 (s.lost : Int)]) ∧ Drawn w w' := by
  obtain ⟨rb, g, h1, h2, h3⟩ := h.at_
  exact wq_Dropped b rb g s w h1

set_option maxHeartbeats 1000000 in
theorem alive19 (W : World) : Calls Try.prog 5 #[] W fun e w' => e = .returned (.bool true) ∧ Below W.heap.size W w' := by
  have o0 : QK.ok (QK.start 10) := QK.start_ok (by omega)
  have o1 : QK.ok (⟨[⟨1, 6, 0, 0, 0, 0, false⟩], 6, 10, 0, 0⟩ : QK) := QK.put_ok o0 (p := ⟨1, 6, 0, 0, 0, 0, false⟩) (by decide)
  have o2 : QK.ok (⟨[⟨1, 6, 0, 0, 0, 0, false⟩], 6, 10, 1, 5⟩ : QK) := QK.put_ok o1 (p := ⟨2, 5, 0, 0, 0, 0, false⟩) (by decide)
  have o3 : QK.ok (⟨[⟨1, 6, 0, 0, 0, 0, false⟩, ⟨3, 4, 0, 0, 0, 0, false⟩], 10, 10, 1, 5⟩ : QK) := QK.put_ok o2 (p := ⟨3, 4, 0, 0, 0, 0, false⟩) (by decide)
  have c1 := Lib.hid (fun b => own_Put W b (QK.start 10) (⟨[⟨1, 6, 0, 0, 0, 0, false⟩], 6, 10, 0, 0⟩ : QK) ⟨1, 6, 0, 0, 0, 0, false⟩ true rfl rfl o0 (by decide) (by decide))
  have c2 := Lib.hid (fun b => own_Put W b (⟨[⟨1, 6, 0, 0, 0, 0, false⟩], 6, 10, 0, 0⟩ : QK) (⟨[⟨1, 6, 0, 0, 0, 0, false⟩], 6, 10, 1, 5⟩ : QK) ⟨2, 5, 0, 0, 0, 0, false⟩ false rfl rfl o1 (by decide) (by decide))
  have c3 := Lib.hid (fun b => own_Put W b (⟨[⟨1, 6, 0, 0, 0, 0, false⟩], 6, 10, 1, 5⟩ : QK) (⟨[⟨1, 6, 0, 0, 0, 0, false⟩, ⟨3, 4, 0, 0, 0, 0, false⟩], 10, 10, 1, 5⟩ : QK) ⟨3, 4, 0, 0, 0, 0, false⟩ true rfl rfl o2 (by decide) (by decide))
  have c4 := Lib.hid (fun b => own_Shift W b (⟨[⟨1, 6, 0, 0, 0, 0, false⟩, ⟨3, 4, 0, 0, 0, 0, false⟩], 10, 10, 1, 5⟩ : QK) (⟨[⟨3, 4, 0, 0, 0, 0, false⟩], 4, 10, 1, 5⟩ : QK) ⟨1, 6, 0, 0, 0, 0, false⟩ true rfl rfl rfl o3)
  have c5 := Lib.hid (fun b => own_Head W b (⟨[⟨3, 4, 0, 0, 0, 0, false⟩], 4, 10, 1, 5⟩ : QK) ⟨3, 4, 0, 0, 0, 0, false⟩ true rfl rfl)
  have c6 := Lib.hid (fun b => own_Dropped W b (⟨[⟨3, 4, 0, 0, 0, 0, false⟩], 4, 10, 1, 5⟩ : QK))
  have c7 := Lib.hid (fun b => own_Bytes W b (⟨[⟨3, 4, 0, 0, 0, 0, false⟩], 4, 10, 1, 5⟩ : QK))
  clear o0 o1 o2 o3
  go_enter Try.func5, Try.ntmps5
  go_wp2_with fail
  refine (own_New 10 W).mono ?_
  rintro e w0 ⟨b, rfl, h0⟩
  generalize QK.start 10 = s0 at *
  generalize (⟨[⟨1, 6, 0, 0, 0, 0, false⟩], 6, 10, 0, 0⟩ : QK) = s1 at *
  generalize (⟨[⟨1, 6, 0, 0, 0, 0, false⟩], 6, 10, 1, 5⟩ : QK) = s2 at *
  generalize (⟨[⟨1, 6, 0, 0, 0, 0, false⟩, ⟨3, 4, 0, 0, 0, 0, false⟩], 10, 10, 1, 5⟩ : QK) = s3 at *
  go_wp2_with fail
  refine (c1.out b _ h0.out).mono ?_
  rintro e w1 ⟨rfl, h1⟩
  go_wp2_with fail
  refine (c2.out b _ h1.out).mono ?_
  rintro e w2 ⟨rfl, h2⟩
  go_wp2_with fail
  refine (c3.out b _ h2.out).mono ?_
  rintro e w3 ⟨rfl, h3⟩
  go_wp2_with fail
  refine (c4.out b _ h3.out).mono ?_
  rintro e w4 ⟨rfl, h4⟩
  clear h0 h1 h2 h3 c1 c2 c3 c4
  unfold Pk.agg
  go_wp2_with fail
  have h5 := Lib.hid (h4.out.to (al_be w4 (.cells #[.int .u64 1, .int .u64 6, .int .u64 0, .int .u64 0, .int .u64 0, .int .u64 0, .bool false] 36)))
  have B5 := Lib.hid (Blk.new w4 36 #[.int .u64 1, .int .u64 6, .int .u64 0, .int .u64 0, .int .u64 0, .int .u64 0, .bool false])
  clear h4
  generalize (w4.alloc (.cells #[.int .u64 1, .int .u64 6, .int .u64 0, .int .u64 0, .int .u64 0, .int .u64 0, .bool false] 36)) = w5 at *
  generalize w4.heap.size = n5 at *
  refine (c5.out b _ h5.out).mono ?_
  rintro e w6 ⟨rfl, hb⟩
  have h6 := Lib.hid (h5.out.to hb)
  have B6 := Lib.hid (B5.out.keep hb)
  clear h5 B5 hb
  unfold Pk.agg
  go_wp2_with fail
  have h7 := Lib.hid (h6.out.to (al_be w6 (.cells #[.int .u64 3, .int .u64 4, .int .u64 0, .int .u64 0, .int .u64 0, .int .u64 0, .bool false] 36)))
  have B7 := Lib.hid (B6.out.keep (al_be w6 (.cells #[.int .u64 3, .int .u64 4, .int .u64 0, .int .u64 0, .int .u64 0, .int .u64 0, .bool false] 36)))
  have D7 := Lib.hid (Blk.new w6 36 #[.int .u64 3, .int .u64 4, .int .u64 0, .int .u64 0, .int .u64 0, .int .u64 0, .bool false])
  clear h6 B6
  generalize (w6.alloc (.cells #[.int .u64 3, .int .u64 4, .int .u64 0, .int .u64 0, .int .u64 0, .int .u64 0, .bool false] 36)) = w7 at *
  generalize w6.heap.size = n7 at *
  refine (c6.out b _ h7.out).mono ?_
  rintro e w8 ⟨rfl, hd⟩
  have h8 := Lib.hid (h7.out.to (hd.below _))
  have x5 := (hd.blk B7.out).cell (i := 0) (v := .int .u64 1) rfl
  have x7 := (hd.blk D7.out).cell (i := 0) (v := .int .u64 3) rfl
  clear h7 B7 D7 hd
  go_wp2_with (go_at_call 14; (refine (c7.out b _ h8.out).mono ?_); rintro e w' ⟨rfl, rfl⟩)
  go_ret
  exact ⟨rfl, h8.out.bel⟩

end Go.Proofs.Yteolchbeiidapaa
