/- The live question of layer 20 is answered as it is fixed. -/
import Derived.Test.YtlhgiboajnhahaaJo
set_option linter.unusedVariables false
namespace Go.Proofs.Ytlhgiboajnhahaa
open Go.RowKit

set_option maxHeartbeats 1000000 in
theorem alive20 (W : World) : Calls Try.prog 6 #[] W fun e w' => e = .returned (.bool true) ∧ Below W.heap.size W w' := by
  have o0 : BxS.ok (BxS.start 100 10) := BxS.start_ok (by omega) (by omega)
  have o1 : BxS.ok (⟨100, 10, [⟨⟨1, 0, 0, 0, 0, 0, false⟩, 115⟩], 115⟩ : BxS) := BxS.put_ok o0 ⟨1, 0, 0, 0, 0, 0, false⟩ 5 50
  have c1 := Lib.hid (fun b => own_Put W b (BxS.start 100 10) (⟨100, 10, [⟨⟨1, 0, 0, 0, 0, 0, false⟩, 115⟩], 115⟩ : BxS) ⟨1, 0, 0, 0, 0, 0, false⟩ 5 50 115 rfl rfl o0 (by omega) (by omega) (by decide))
  have c2 := Lib.hid (fun b => own_Put W b (⟨100, 10, [⟨⟨1, 0, 0, 0, 0, 0, false⟩, 115⟩], 115⟩ : BxS) (⟨100, 10, [⟨⟨1, 0, 0, 0, 0, 0, false⟩, 115⟩, ⟨⟨2, 0, 0, 0, 0, 0, false⟩, 115⟩], 115⟩ : BxS) ⟨2, 0, 0, 0, 0, 0, false⟩ 7 0 115 rfl rfl o1 (by omega) (by omega) (by decide))
  have c3 := Lib.hid (fun b => own_Out W b (⟨100, 10, [⟨⟨1, 0, 0, 0, 0, 0, false⟩, 115⟩, ⟨⟨2, 0, 0, 0, 0, 0, false⟩, 115⟩], 115⟩ : BxS) (⟨100, 10, [⟨⟨1, 0, 0, 0, 0, 0, false⟩, 115⟩, ⟨⟨2, 0, 0, 0, 0, 0, false⟩, 115⟩], 115⟩ : BxS) 114 [] rfl rfl (by decide))
  have c4 := Lib.hid (fun b => own_Out W b (⟨100, 10, [⟨⟨1, 0, 0, 0, 0, 0, false⟩, 115⟩, ⟨⟨2, 0, 0, 0, 0, 0, false⟩, 115⟩], 115⟩ : BxS) (⟨100, 10, [], 115⟩ : BxS) 115 [⟨1, 0, 0, 0, 0, 0, false⟩, ⟨2, 0, 0, 0, 0, 0, false⟩] rfl rfl (by decide))
  have c5 := Lib.hid (fun b => own_Next W b (⟨100, 10, [], 115⟩ : BxS) 0 false rfl rfl)
  have c6 := Lib.hid (fun b => own_Len W b (⟨100, 10, [], 115⟩ : BxS) 0 rfl)
  clear o0 o1
  go_enter Try.func6, Try.ntmps6
  go_wp2_with fail
  refine (own_New 100 10 W).mono ?_
  rintro e w0 ⟨b, rfl, h0⟩
  generalize BxS.start 100 10 = s0 at *
  generalize (⟨100, 10, [⟨⟨1, 0, 0, 0, 0, 0, false⟩, 115⟩], 115⟩ : BxS) = s1 at *
  generalize (⟨100, 10, [⟨⟨1, 0, 0, 0, 0, 0, false⟩, 115⟩, ⟨⟨2, 0, 0, 0, 0, 0, false⟩, 115⟩], 115⟩ : BxS) = s2 at *
  generalize (⟨100, 10, [], 115⟩ : BxS) = s3 at *
  go_wp2_with fail
  refine (c1.out b _ h0.out).mono ?_
  rintro e w1 ⟨rfl, h1⟩
  go_wp2_with fail
  refine (c2.out b _ h1.out).mono ?_
  rintro e w2 ⟨rfl, h2⟩
  go_wp2_with fail
  refine (c3.out b _ h2.out).mono ?_
  rintro e w3 ⟨ao, cap, rfl, _, _, h3⟩
  go_wp2_with fail
  refine (c4.out b _ h3.out).mono ?_
  rintro e w4 ⟨ap, cp, rfl, _, hi4, h4⟩
  clear h0 h1 h2 h3 c1 c2 c3 c4
  go_wp2_with fail
  refine (c5.out b _ h4.out).mono ?_
  rintro e w5 ⟨rfl, hb⟩
  have h5 := Lib.hid (h4.out.to hb)
  have hi5 := hi4.out.keep hb
  obtain ⟨g, off, rfl, _, hc⟩ := hi5 (by simp)
  have q7 : w5.cell? ⟨g, off + 7, none⟩ = some (.int .u64 2) := hc 1 0 (by simp) (by decide)
  clear hb hi5 hc h4 c5 hi4
  go_wp2_with (go_at_call 16; (refine (c6.out b _ h5.out).mono ?_); rintro e w' ⟨rfl, rfl⟩)
  go_ret
  exact ⟨rfl, h5.out.bel⟩

end Go.Proofs.Ytlhgiboajnhahaa
