/- SeqsOrder over this translation: ranges that are put. -/
import Derived.Test.YtgjlbilbjgolpaaLaw07b
set_option linter.unusedVariables false
namespace Go.Proofs.Ytgjlbilbjgolpaa
open Go.RowKit

theorem RR.value {w : World} {v : Value} {l : List Rn} (h : RR w v l) : ∃ p c, v = .slice p l.length c := by
  rcases h.form with ⟨e, rfl⟩ | ⟨g, cap, e, _⟩
  · exact ⟨none, 0, e⟩
  · exact ⟨_, cap, e⟩

set_option maxHeartbeats 4000000 in
set_option maxRecDepth 100000 in
theorem law_long (f : Nat) (v : Option Addr) (cap : Nat) (l : List Rn) (W : World) (hf : f ≤ 255) (hI : Its W v l) (hu : ∀ r ∈ l, r.u64) (ho : l.all okB = true) (hm : l.length ≤ 60) (hp : 0 < l.length) :
    Calls Try.prog 3 #[.slice v l.length cap, .int .u8 (f : Int)] W fun e w' => e = .returned (.bool true) ∧ Below W.heap.size W w' := by
  have hr := right_any l v cap W hI (by omega) hu
  rw [ho] at hr
  have HRt := Lib.hid hr
  have HI := Lib.hid hI
  have HU := Lib.hid hu
  have HO := Lib.hid ho
  obtain ⟨ad, rfl, _⟩ := hI.cells hp
  obtain ⟨g, off, rfl, hg, hc⟩ := its_two hI hp
  have HC := Lib.hid hc
  clear hr hI hu ho hc
  have hd6 : decide ((60 : Int) < (l.length : Int)) = false := by simp; omega
  have hd0 : ((l.length : Int) == 0) = false := beq_eq_false_iff_ne.2 (by omega)
  go_enter Try.func3, Try.ntmps3
  go_wp2_with fail
  refine (HRt.out).mono ?_
  rintro e w0 ⟨rfl, d0⟩
  have B0 := Lib.hid (d0.below W.heap.size)
  clear d0 HRt
  go_wp2_with fail
  refine (own_New B0.out).mono ?_
  rintro e w1 ⟨rfl, o1, k1⟩
  obtain ⟨a, ha⟩ : ∃ a, w0.heap.size = a := ⟨_, rfl⟩
  rw [ha] at o1 ⊢
  have O1 := Lib.hid o1
  clear o1 k1 ha
  go_wp2_with fail
  refine (own_New O1.out.bel).mono ?_
  rintro e w2 ⟨rfl, o2, k2⟩
  have A2 := Lib.hid (O1.out.keep k2)
  have D2 : Hid (∀ x ∈ [a], x ∉ [w1.heap.size]) := Lib.hid (fun x hx hx' => by have := O1.out.hi x hx; simp at hx'; omega)
  obtain ⟨b, hb⟩ : ∃ b, w1.heap.size = b := ⟨_, rfl⟩
  rw [hb] at o2 D2 ⊢
  have O2 := Lib.hid o2
  clear o2 k2 hb
  have I2 := Lib.hid (HI.out.keep (A2.out.bel.mono (Nat.le_refl _)))
  have C2 := Lib.hid (own_Put (some ⟨g, off, none⟩) cap l.length A2.out I2.out rfl hp (by simp; omega) HO.out HU.out)
  go_wp2_with fail
  refine (C2.out).mono ?_
  rintro e w3 ⟨rfl, Xa, A, oa, pa, fa, xa⟩
  have hq := apart_put O2.out oa fa xa (fun x hx hx' => D2.out x hx' hx)
  have HRel : Hid (OrdRel W l A (f + l.length - 1) a b 0 w3) := Lib.hid ⟨Xa, [b], [], oa, hq.1, (fun x hx hx' => hq.2 x hx' hx), Nat.zero_le _, Nat.le_refl _, fun n => ⟨fun h => absurd h (inR_nil n), fun ⟨i, hi, _⟩ => by omega⟩⟩
  have HP := Lib.hid pa
  clear oa pa fa xa hq O1 O2 A2 D2 I2 C2 B0
  go_wp2_with fail
  go_loopw [9] (fun i wr => ∃ k : Nat, i = .int .i64 (k : Int) ∧ OrdRel W l A (f + l.length - 1) a b k wr) (fun i _ => l.length - (intOf i).toNat)
  case atStart => exact ⟨0, rfl, HRel.out⟩
  case round =>
    clear HRel
    obtain ⟨k, rfl, Xa, Xb, B, oa, ob, hd, hk, hlen, hin⟩ := hrel
    have OA := Lib.hid oa
    have OB := Lib.hid ob
    have HD := Lib.hid hd
    have HIn := Lib.hid hin
    clear oa ob hd hin
    by_cases hlt : k < l.length
    · have hj : (f + l.length - 1 - k) % l.length < l.length := Nat.mod_lt _ hp
      obtain ⟨c0, c1⟩ := HC.out _ hj
      have d0 := (OA.out.bel.cell (p := ⟨g, _, none⟩) hg).trans c0
      have d1 := (OA.out.bel.cell (p := ⟨g, _, none⟩) hg).trans c1
      clear c0 c1
      have HSp : Hid (spun l (f + l.length - 1) k = l.getD ((f + l.length - 1 - k) % l.length) Itm.z) := Lib.hid rfl
      have hmem : l.getD ((f + l.length - 1 - k) % l.length) Itm.z ∈ l := by simp [List.getD_eq_getElem?_getD, hj]
      have HMem := Lib.hid hmem
      clear hmem
      generalize l.getD ((f + l.length - 1 - k) % l.length) Itm.z = r at *
      have e1 : (((f + l.length - 1 - k) % l.length : Nat) : Int) = ((f : Int) + (l.length : Int) - 1 - (k : Int)) % (l.length : Int) := by
        rw [Int.natCast_emod]; congr 1; omega
      have i0 : (0 : Int) ≤ ((f : Int) + (l.length : Int) - 1 - (k : Int)) % (l.length : Int) := by rw [← e1]; omega
      have i1 : ((f : Int) + (l.length : Int) - 1 - (k : Int)) % (l.length : Int) < (l.length : Int) := by rw [← e1]; omega
      have E1 := Lib.hid e1
      clear e1
      have OB1 := Lib.hid (OB.out.alloc (.cells #[.int .u64 (r.a : Int), .int .u64 (r.b : Int)] 31))
      have OA1 := Lib.hid (OA.out.alloc (.cells #[.int .u64 (r.a : Int), .int .u64 (r.b : Int)] 31))
      have I1 : Hid (Its (wr.alloc (.cells #[.int .u64 (r.a : Int), .int .u64 (r.b : Int)] 31)) (some ⟨wr.heap.size, 0, none⟩) [r]) := Lib.hid (Its.of_blk (Blk.new _ _ _))
      have hor : okB r = true := List.all_eq_true.1 HO.out r HMem.out
      have CP := Lib.hid (own_Put (some ⟨wr.heap.size, 0, none⟩) 1 1 OB1.out I1.out rfl Nat.one_pos (by simp; omega) (by simp [hor]) (by intro q hq; simp at hq; subst hq; exact HU.out _ HMem.out))
      clear hor
      go_wp2_with fail
      refine (CP.out).mono ?_
      rintro e w5 ⟨rfl, Xb', B', ob, pb, fb, xb⟩
      have hq := apart_put OA1.out ob fb xb HD.out
      have HRel : Hid (OrdRel W l A (f + l.length - 1) a b (k + 1) w5) := Lib.hid ⟨Xa, Xb', B', hq.1, ob, hq.2, by omega, by have := pb.len; simp at this; omega, fun n => by
        rw [pb.mem, some1_succ, HIn.out, HSp.out, inR_cons]
        exact ⟨fun h => h.elim .inl (fun h => h.elim .inr (fun h => absurd h (inR_nil n))), fun h => h.elim .inl (fun h => .inr (.inl h))⟩⟩
      clear hq ob pb fb xb d0 d1 i0 i1 hj
      go_wp2
      go_roundw
      case rel => exact ⟨k + 1, by go_num, HRel.out⟩
      case measure => simp [intOf]; omega
    · obtain rfl : k = l.length := by omega
      have HE : Hid (A = B) := Lib.hid (canon_one OA.out.canon OB.out.canon fun n => by
        rw [HP.out.mem, HIn.out, some1_all (by omega)]
        exact ⟨fun h => h.elim (fun h => absurd h (inR_nil n)) id, .inr⟩)
      have hAB := HE.out
      subst hAB
      have C1 := Lib.hid (set_All a Xa A wr OA.out.at_ (by omega))
      go_wp2_with fail
      refine (C1.out).mono ?_
      rintro e w5 ⟨va, rfl, ra, ka, _⟩
      have RA := Lib.hid ra
      have OB5 := Lib.hid (OB.out.keep ka)
      clear ra ka C1
      have C2 := Lib.hid (set_All b Xb A w5 OB5.out.at_ (by omega))
      go_wp2_with fail
      refine (C2.out).mono ?_
      rintro e w6 ⟨vb, rfl, rb, kb, _⟩
      have RA6 := Lib.hid (RA.out.keep kb)
      have RB6 := Lib.hid rb
      have B6 := Lib.hid (OB5.out.bel.trans (kb.mono OB5.out.bel.size))
      clear rb kb C2 RA
      go_wp2_with fail
      refine (alive07 w6).mono ?_
      rintro e w7 ⟨rfl, k7⟩
      have RA7 := Lib.hid (RA6.out.keep k7)
      have RB7 := Lib.hid (RB6.out.keep k7)
      have B7 := Lib.hid (B6.out.trans (k7.mono B6.out.size))
      clear k7 RA6 RB6 B6
      obtain ⟨pa, ca, ea⟩ := RA7.out.value
      obtain ⟨pb, cb, eb⟩ := RB7.out.value
      subst ea
      subst eb
      have C3 := Lib.hid (same_eq A pa pb ca cb w7 RA7.out.its RB7.out.its (by omega))
      go_wp2_with fail
      refine (C3.out).mono ?_
      rintro e w8 ⟨rfl, d8⟩
      have B8 := Lib.hid (B7.out.trans (d8.below _))
      clear d8
      go_wp2
      go_ret
      exact ⟨rfl, B8.out⟩

theorem SeqsOrder_walk (v : Option Addr) (len cap : Nat) (f : Nat) (l : List Rn) (W : World) (hf : f ≤ 255) (h : InRngs W v len l) :
    Calls Try.prog 3 #[.slice v len cap, .int .u8 (f : Int)] W fun e w' => e = .returned (.bool true) ∧ Below W.heap.size W w' := by
  obtain ⟨rfl, hm, hI, hu⟩ := h
  by_cases c : l.all okB = true ∧ l.length ≤ 60 ∧ 0 < l.length
  · exact law_long f v cap l W hf hI hu c.1 c.2.1 c.2.2
  · refine law_short f v cap l W hI hm hu ?_
    cases ho : l.all okB with
    | false => exact .inl rfl
    | true =>
      rcases Nat.lt_or_ge 60 l.length with k | k
      · exact .inr (.inl k)
      · exact .inr (.inr (Nat.eq_zero_of_not_pos (fun hp => c ⟨ho, k, hp⟩)))
end Go.Proofs.Ytgjlbilbjgolpaa
