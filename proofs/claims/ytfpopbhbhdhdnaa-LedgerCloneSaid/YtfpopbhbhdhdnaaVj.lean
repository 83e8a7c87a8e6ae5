/- act of goitlaw08, over this translation. -/
import Derived.Test.YtfpopbhbhdhdnaaVi
import Derived.Deep.RegionWith
set_option linter.unusedVariables false
namespace Go.Proofs.Ytfpopbhbhdhdnaa
open Go.RowKit

structure AcOk (q : Ac) : Prop where
  b0 : q.kind ≤ 255
  b1 : q.size ≤ 18446744073709551615
  b2 : q.at_ ≤ 18446744073709551615
  b3 : q.r.length ≤ 1000 ∧ ∀ r ∈ q.r, r.u64
  b4 : q.delay ≤ 18446744073709551615
  b5 : q.limit ≤ 18446744073709551615
theorem few_sel {r : RS8} (hr : r.ok) (f : Pk → Bool) : ((sel r.A r.O).filter f).length ≤ 1000 := by
  refine Nat.le_trans (List.length_filter_le _ _) ?_
  unfold sel
  rw [List.length_map]
  refine Nat.le_trans (List.length_filter_le _ _) ?_
  rw [List.length_zip]
  have := hr.few
  omega
/-- What an act leaves. -/
structure ActPost (w : World) (B b mb : Nat) (r : RS8) (e : Ending) (w' : World) : Prop where
  e : e = .returned (.bool true)
  at_ : ∃ r', Pair B b mb r' w' ∧ r'.A.length ≤ r.A.length + 1
  bel : Below B w w'
theorem ab_kb {w w' : World} {z : Nat} {T : TypeId} {cs : Array Value} (h : Blk w z T cs) (k : KB w w') (hT : T = 32 ∨ T = 35) : Blk w' z T cs := by
  unfold Blk; rw [k z T cs h hT]; exact h

set_option maxRecDepth 100000 in
set_option maxHeartbeats 4000000 in
theorem act_any (B b mb : Nat) (r : RS8) (w : World) (h : Pair B b mb r w) (hw : B ≤ w.heap.size) (hx : r.A.length ≤ 499) (q : Ac) (hq : AcOk q) (hI : ∀ W', Below B w W' → Its W' q.p q.r) :
    Calls Try.prog 12 #[.pointer (some ⟨b, 0, none⟩), .pointer (some ⟨mb, 0, none⟩), .agg #[.int .u8 (q.kind : Int), .int .u64 (q.size : Int), .int .u64 (q.at_ : Int), .slice q.p q.r.length q.c, .int .u64 (q.delay : Int), .int .u64 (q.limit : Int)]] w (ActPost w B b mb r) := by
  have HP := Lib.hid (h.keep ((Below.refl _ _).alloc (Nat.le_refl _) (.cells #[.int .u8 (q.kind : Int), .int .u64 (q.size : Int), .int .u64 (q.at_ : Int), .slice q.p q.r.length q.c, .int .u64 (q.delay : Int), .int .u64 (q.limit : Int)] 32)))
  have HB1 : Hid (Below B w (w.alloc (.cells #[.int .u8 (q.kind : Int), .int .u64 (q.size : Int), .int .u64 (q.at_ : Int), .slice q.p q.r.length q.c, .int .u64 (q.delay : Int), .int .u64 (q.limit : Int)] 32))) := Lib.hid ((Below.refl _ _).alloc hw _)
  have HS1 : Hid (B ≤ (w.alloc (.cells #[.int .u8 (q.kind : Int), .int .u64 (q.size : Int), .int .u64 (q.at_ : Int), .slice q.p q.r.length q.c, .int .u64 (q.delay : Int), .int .u64 (q.limit : Int)] 32)).heap.size) := Lib.hid (by rw [World.size_alloc]; omega)
  have HA1 := Lib.hid (Blk.new w 32 #[.int .u8 (q.kind : Int), .int .u64 (q.size : Int), .int .u64 (q.at_ : Int), .slice q.p q.r.length q.c, .int .u64 (q.delay : Int), .int .u64 (q.limit : Int)])
  have HQ := Lib.hid hq
  have HI := Lib.hid hI
  have k0 := HA1.out.cell (i := 0) (v := .int .u8 (q.kind : Int)) rfl
  clear h hq hI
  go_enter Try.func12, Try.ntmps12
  have hkd : q.kind % 3 = 0 ∨ q.kind % 3 = 1 ∨ q.kind % 3 = 2 := by omega
  rcases hkd with hkd | hkd | hkd
  · have d0 : ((q.kind : Int) % 3 == 0) = true := by rw [show ((q.kind : Int) % 3) = ((q.kind % 3 : Nat) : Int) by omega, hkd]; rfl
    have k2 := HA1.out.cell (i := 2) (v := .int .u64 (q.at_ : Int)) rfl
    have k4 := HA1.out.cell (i := 4) (v := .int .u64 (q.delay : Int)) rfl
    go_wp2_with fail
    generalize hw1 : (w.alloc (.cells #[.int .u8 (q.kind : Int), .int .u64 (q.size : Int), .int .u64 (q.at_ : Int), .slice q.p q.r.length q.c, .int .u64 (q.delay : Int), .int .u64 (q.limit : Int)] 32)) = w1 at *
    have hsz1 : w1.heap.size = w.heap.size + 1 := by rw [← hw1, World.size_alloc]
    clear hw1
    have b1 : Below w1.heap.size w1 (w1.alloc (.cells #[.int .u64 (q.at_ : Int), .int .u64 0, .int .u64 (q.delay : Int), .int .u64 0, .bool false] 35)) := (Below.refl _ _).alloc (Nat.le_refl _) _
    have HA2 := Lib.hid (HA1.out.keep b1)
    have HT2 : Hid (Blk (w1.alloc (.cells #[.int .u64 (q.at_ : Int), .int .u64 0, .int .u64 (q.delay : Int), .int .u64 0, .bool false] 35)) (w.heap.size + 1) 35 #[.int .u64 (q.at_ : Int), .int .u64 0, .int .u64 (q.delay : Int), .int .u64 0, .bool false]) := Lib.hid (by rw [← hsz1]; exact Blk.new w1 35 #[.int .u64 (q.at_ : Int), .int .u64 0, .int .u64 (q.delay : Int), .int .u64 0, .bool false])
    have HP2 := Lib.hid (HP.out.keep b1)
    have HB2 : Hid (Below B w (w1.alloc (.cells #[.int .u64 (q.at_ : Int), .int .u64 0, .int .u64 (q.delay : Int), .int .u64 0, .bool false] 35))) := Lib.hid (bel_to HB1.out b1 HS1.out)
    have HS2 : Hid (B ≤ (w1.alloc (.cells #[.int .u64 (q.at_ : Int), .int .u64 0, .int .u64 (q.delay : Int), .int .u64 0, .bool false] 35)).heap.size) := Lib.hid (Nat.le_trans HS1.out b1.size)
    generalize (w1.alloc (.cells #[.int .u64 (q.at_ : Int), .int .u64 0, .int .u64 (q.delay : Int), .int .u64 0, .bool false] 35)) = w2 at *
    clear hsz1 b1 k0 k2 k4 HA1 HP HB1 HS1
    have hp : (⟨r.A.length, q.size, q.at_, 0, q.delay, 0, false⟩ : Pk).ok := ⟨by show r.A.length ≤ 100000; omega, HQ.out.b1, HQ.out.b2, by show 0 ≤ _; omega, HQ.out.b4, by show 0 ≤ _; omega⟩
    have HPk := Lib.hid hp
    have hd := (Drawn.drew w2).below w2.heap.size
    have HL : Hid (Calls Try.prog 8 #[.pointer (some ⟨b, 0, none⟩), .int .u64 (q.size : Int), .agg #[.int .u64 (q.at_ : Int), .int .u64 0, .int .u64 (q.delay : Int), .int .u64 0, .bool false]] w2.drew fun e w' => e = .returned (.int .u64 (r.A.length : Int)) ∧ LedP B b (sel r.A r.O ++ [⟨r.A.length, q.size, q.at_, 0, q.delay, 0, false⟩]) (r.A.length + 1) r.top r.some r.reorder w' ∧ RefP B mb r w' ∧ Below B w2.drew w' ∧ KB w2.drew w') := Lib.hid (pair_send1 (HP2.out.keep hd) (Nat.le_trans HS2.out hd.size) hx ⟨r.A.length, q.size, q.at_, 0, q.delay, 0, false⟩ hp rfl)
    clear hp hd
    have k1 := HA2.out.drew.cell (i := 1) (v := .int .u64 (q.size : Int)) rfl
    have t0 := HT2.out.drew.cell (i := 0) (v := .int .u64 (q.at_ : Int)) rfl
    have t1 := HT2.out.drew.cell (i := 1) (v := .int .u64 0) rfl
    have t2 := HT2.out.drew.cell (i := 2) (v := .int .u64 (q.delay : Int)) rfl
    have t3 := HT2.out.drew.cell (i := 3) (v := .int .u64 0) rfl
    have t4 := HT2.out.drew.cell (i := 4) (v := .bool false) rfl
    go_region_with (first
      | (go_at_call 8; (refine (HL.out).mono ?_); rintro e w3 ⟨rfl, h1, h2, h3, h4⟩; have HA3 := Lib.hid (ab_kb HA2.out.drew h4 (.inl rfl)); have HT3 := Lib.hid (ab_kb HT2.out.drew h4 (.inr rfl)); have HB3 : Hid (Below B w w3) := Lib.hid ((HB2.out.trans ((Drawn.drew w2).below B)).trans h3); have HS3 : Hid (B ≤ w3.heap.size) := Lib.hid (Nat.le_trans HS2.out h3.size); have HL3 : Hid (Calls Try.prog 33 #[.pointer (some ⟨mb, 0, none⟩), .int .u64 (q.size : Int), .agg #[.int .u64 (q.at_ : Int), .int .u64 0, .int .u64 (q.delay : Int), .int .u64 0, .bool false]] w3 fun e w' => e = .returned (.int .u64 (r.A.length : Int)) ∧ Pair B b mb { r with A := r.A ++ [⟨r.A.length, q.size, q.at_, 0, q.delay, 0, false⟩], O := r.O ++ [true] } w' ∧ Below B w3 w' ∧ KB w3 w') := Lib.hid (pair_send2 h1 h2 HP2.out.ok HS3.out hx HPk.out rfl); clear h1 h2 h3 h4 k1 t0 t1 t2 t3 t4; have k1 := HA3.out.cell (i := 1) (v := .int .u64 (q.size : Int)) rfl; have t0 := HT3.out.cell (i := 0) (v := .int .u64 (q.at_ : Int)) rfl; have t1 := HT3.out.cell (i := 1) (v := .int .u64 0) rfl; have t2 := HT3.out.cell (i := 2) (v := .int .u64 (q.delay : Int)) rfl; have t3 := HT3.out.cell (i := 3) (v := .int .u64 0) rfl; have t4 := HT3.out.cell (i := 4) (v := .bool false) rfl)
      | (go_at_call 33; (refine (HL3.out).mono ?_); rintro e w4 ⟨rfl, h1, h2, h3⟩; have HP4 := Lib.hid h1; have HB4 : Hid (Below B w w4) := Lib.hid (HB3.out.trans h2); clear h1 h2 h3))
    all_goals
      clear k1 t0 t1 t2 t3 t4
      go_wp2
      go_ret
      exact ⟨by first | rfl | simp, ⟨_, HP4.out, by show (r.A ++ [_]).length ≤ _; simp⟩, HB4.out⟩
  · have d0 : ((q.kind : Int) % 3 == 0) = false := by rw [show ((q.kind : Int) % 3) = ((q.kind % 3 : Nat) : Int) by omega, hkd]; rfl
    have d1 : ((q.kind : Int) % 3 == 1) = true := by rw [show ((q.kind : Int) % 3) = ((q.kind % 3 : Nat) : Int) by omega, hkd]; rfl
    have k3 := HA1.out.cell (i := 3) (v := .slice q.p q.r.length q.c) rfl
    by_cases ho : q.r.all okB = true
    · have HL := Lib.hid (pair_ack1 HP.out HS1.out q.p q.c q.r (HI.out _ HB1.out) HQ.out.b3.1 ho HQ.out.b3.2)
      go_wp2_with fail
      generalize (w.alloc (.cells #[.int .u8 (q.kind : Int), .int .u64 (q.size : Int), .int .u64 (q.at_ : Int), .slice q.p q.r.length q.c, .int .u64 (q.delay : Int), .int .u64 (q.limit : Int)] 32)) = w1 at *
      refine (HL.out).mono ?_
      rintro e w2 ⟨v, rfl, h1, h2, h3, h4, h5⟩
      obtain ⟨p1, c1, rfl⟩ := h1.form
      have HA2 := Lib.hid (ab_kb HA1.out h5 (.inl rfl))
      have HB2 := Lib.hid (HB1.out.trans h4)
      have HS2 : Hid (B ≤ w2.heap.size) := Lib.hid (Nat.le_trans HS1.out h4.size)
      have HL2 := Lib.hid (pair_ack2 q.p q.c q.r h2 h3 HP.out.ok HS2.out (fun W' k => HI.out W' (HB2.out.trans k)) HQ.out.b3.1 HQ.out.b3.2 ho)
      have HR1 := Lib.hid h1
      clear h1 h2 h3 h4 h5 k0 k3 HL HA1 HB1 HS1 ho
      have k3 := HA2.out.cell (i := 3) (v := .slice q.p q.r.length q.c) rfl
      go_wp2_with fail
      refine (HL2.out).mono ?_
      rintro e w3 ⟨v2, r', rfl, m1, m2, m3, m4, m5, m6, m7⟩
      obtain ⟨p2, c2, rfl⟩ := m1.form
      have HM3 := Lib.hid m3
      have HM6 := Lib.hid m6
      have HB3 := Lib.hid (HB2.out.trans m4)
      have HSm := Lib.hid (Same_any _ p1 p2 c1 c2 w3 ((m2 _ _ HR1.out).its) m1.its (few_sel HP.out.ok _))
      have HS3 : Hid (B ≤ w3.heap.size) := Lib.hid (Nat.le_trans HS2.out m4.size)
      clear m1 m2 m3 m4 m5 m6 m7 k3 HL2 HR1
      generalize ((sel r.A r.O).filter (fun p => hasB q.r p.n)).length = fl at *
      go_wp2_with fail
      refine (HSm.out).mono ?_
      rintro e w4 ⟨rfl, hd⟩
      have HD := Lib.hid hd
      clear hd HSm
      go_wp2
      go_ret
      exact ⟨rfl, ⟨r', HM3.out.keep (HD.out.below _), by rw [HM6.out]; omega⟩, HB3.out.trans (HD.out.below _)⟩
    · have ho' : q.r.all okB = false := by simpa using ho
      have HL := Lib.hid (ack_wrong b q.p q.c q.r _ (HI.out _ HB1.out) HQ.out.b3.1 ho')
      go_wp2_with fail
      generalize (w.alloc (.cells #[.int .u8 (q.kind : Int), .int .u64 (q.size : Int), .int .u64 (q.at_ : Int), .slice q.p q.r.length q.c, .int .u64 (q.delay : Int), .int .u64 (q.limit : Int)] 32)) = w1 at *
      refine (HL.out).mono ?_
      rintro e w2 ⟨rfl, h4⟩
      have HA2 := Lib.hid (HA1.out.keep h4)
      have HB2 : Hid (Below B w w2) := Lib.hid (bel_to HB1.out h4 HS1.out)
      have HP2 := Lib.hid (HP.out.keep h4)
      have HL2 := Lib.hid (rAck_wrong mb q.p q.c q.r w2 (HI.out w2 HB2.out) HQ.out.b3.1 HQ.out.b3.2 ho')
      clear h4 k0 k3 HL HA1 HB1 HS1 ho ho' HP
      have k3 := HA2.out.cell (i := 3) (v := .slice q.p q.r.length q.c) rfl
      go_wp2_with fail
      refine (HL2.out).mono ?_
      rintro e w3 ⟨rfl, hd3⟩
      have HP3 := Lib.hid (HP2.out.keep (hd3.below _))
      have HB3 : Hid (Below B w w3) := Lib.hid (HB2.out.trans (hd3.below _))
      have HSm : Hid (Calls Try.prog 35 #[.slice none 0 0, .slice none 0 0] w3 fun e w' => e = .returned (.bool true) ∧ Drawn w3 w') := Lib.hid (Same_any [] none none 0 0 w3 (Its.none _ _) (Its.none _ _) (by simp))
      clear hd3 k3 HL2 HP2 HB2
      go_wp2_with fail
      refine (HSm.out).mono ?_
      rintro e w4 ⟨rfl, hd⟩
      have HD := Lib.hid hd
      clear hd HSm
      go_wp2
      go_ret
      exact ⟨rfl, ⟨r, HP3.out.keep (HD.out.below _), by omega⟩, HB3.out.trans (HD.out.below _)⟩
  · have d0 : ((q.kind : Int) % 3 == 0) = false := by rw [show ((q.kind : Int) % 3) = ((q.kind % 3 : Nat) : Int) by omega, hkd]; rfl
    have d1 : ((q.kind : Int) % 3 == 1) = false := by rw [show ((q.kind : Int) % 3) = ((q.kind % 3 : Nat) : Int) by omega, hkd]; rfl
    have k2 := HA1.out.cell (i := 2) (v := .int .u64 (q.at_ : Int)) rfl
    have k4 := HA1.out.cell (i := 4) (v := .int .u64 (q.delay : Int)) rfl
    have k5 := HA1.out.cell (i := 5) (v := .int .u64 (q.limit : Int)) rfl
    have HL := Lib.hid (pair_lost1 HP.out HS1.out q.at_ q.delay q.limit HQ.out.b4 HQ.out.b5)
    go_wp2_with fail
    generalize (w.alloc (.cells #[.int .u8 (q.kind : Int), .int .u64 (q.size : Int), .int .u64 (q.at_ : Int), .slice q.p q.r.length q.c, .int .u64 (q.delay : Int), .int .u64 (q.limit : Int)] 32)) = w1 at *
    refine (HL.out).mono ?_
    rintro e w2 ⟨v, rfl, h1, h2, h3, h4, h5⟩
    obtain ⟨p1, c1, rfl⟩ := h1.form
    have HA2 := Lib.hid (ab_kb HA1.out h5 (.inl rfl))
    have HB2 := Lib.hid (HB1.out.trans h4)
    have HS2 : Hid (B ≤ w2.heap.size) := Lib.hid (Nat.le_trans HS1.out h4.size)
    have HL2 := Lib.hid (pair_lost2 q.at_ q.delay q.limit HQ.out.b4 HQ.out.b5 h2 h3 HP.out.ok HS2.out)
    have HR1 := Lib.hid h1
    clear h1 h2 h3 h4 h5 k0 k2 k4 k5 HL HA1 HB1 HS1
    have k2 := HA2.out.cell (i := 2) (v := .int .u64 (q.at_ : Int)) rfl
    have k4 := HA2.out.cell (i := 4) (v := .int .u64 (q.delay : Int)) rfl
    have k5 := HA2.out.cell (i := 5) (v := .int .u64 (q.limit : Int)) rfl
    go_wp2_with fail
    refine (HL2.out).mono ?_
    rintro e w3 ⟨v2, r', rfl, m1, m2, m3, m4, m5, m6, m7⟩
    obtain ⟨p2, c2, rfl⟩ := m1.form
    have HM3 := Lib.hid m3
    have HM6 := Lib.hid m6
    have HB3 := Lib.hid (HB2.out.trans m4)
    have HSm := Lib.hid (Same_any _ p1 p2 c1 c2 w3 ((m2 _ _ HR1.out).its) m1.its (few_sel HP.out.ok _))
    have HS3 : Hid (B ≤ w3.heap.size) := Lib.hid (Nat.le_trans HS2.out m4.size)
    clear m1 m2 m3 m4 m5 m6 m7 k2 k4 k5 HL2 HR1
    generalize ((sel r.A r.O).filter (lostR r q.at_ q.delay q.limit)).length = fl at *
    go_wp2_with fail
    refine (HSm.out).mono ?_
    rintro e w4 ⟨rfl, hd⟩
    have HD := Lib.hid hd
    clear hd HSm
    go_wp2
    go_ret
    exact ⟨rfl, ⟨r', HM3.out.keep (HD.out.below _), by rw [HM6.out]; omega⟩, HB3.out.trans (HD.out.below _)⟩
end Go.Proofs.Ytfpopbhbhdhdnaa
