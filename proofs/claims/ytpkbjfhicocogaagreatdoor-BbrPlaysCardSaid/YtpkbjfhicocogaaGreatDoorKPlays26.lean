/- 5 texts put together: what each one says stands ahead of it. -/
import Derived.Test.YtpkbjfhicocogaaGreatDoorKPlays23
import Derived.Test.YtpkbjfhicocogaaGreatDoorKPlays25
import Derived.Test.YtpkbjfhicocogaaGreatDoorKPlays20
import Derived.Test.YtpkbjfhicocogaaGreatDoorKPlays13
import Derived.Test.YtpkbjfhicocogaaGreatDoorKPlays10
import Derived.Test.YtpkbjfhicocogaaGreatDoorKPlays16
import Derived.Test.YtpkbjfhicocogaaGreatDoorKPlays22
/- Contracts of package bbr over this translation: measure. -/
set_option linter.unusedVariables false
namespace Go.Proofs.YtpkbjfhicocogaaGreatDoor
open Go.RowKit Cf

def EvS.smp (x : EvS) : Array Value := #[.int .u64 (x.sd : Int), .int .u64 (x.si : Int), .int .u64 (x.sr : Int), .int .u64 (x.rt : Int), .bool x.sl]
/-- What holds while an event is measured. -/
structure MeaI (W : World) (B : Nat) (P : EP) (s : ES) (x : EvS) (w : World) : Prop where
  m : MutI W B P s x w
  sm : Blk w (W.heap.size + 1) 37 x.smp
theorem MeaI.to {W w w' : World} {B : Nat} {P : EP} {s : ES} {x : EvS} (h : MeaI W B P s x w) (k : Below w.heap.size w w') : MeaI W B P s x w' := ⟨h.m.to k, h.sm.keep k⟩
theorem MeaI.drew {W w : World} {B : Nat} {P : EP} {s : ES} {x : EvS} (h : MeaI W B P s x w) : MeaI W B P s x w.drew := h.to ((Drawn.drew w).below _)
theorem MeaI.cat {W w w' : World} {B : Nat} {P : EP} {s s' : ES} {x : EvS} (h : MeaI W B P s x w) (k : MutN w B P s' w') : MeaI W B P s' x w' := ⟨MutN.mi h.m k, k.kt _ (by decide) _ _ h.sm⟩
theorem MeaI.start {W : World} {B : Nat} {P : EP} {s : ES} (h : EngAt W B P s) (x : EvS) : MeaI W B P s x ((W.alloc (.cells x.cells 39)).alloc (.cells x.smp 37)) :=
  ⟨(MutI.start h x).to (al_be _ _), Blk.new1 W _ _ _⟩
/-- The same, whatever the engine holds. -/
def MeaX (W : World) (B : Nat) (P : EP) (x : EvS) (w : World) : Prop := ∃ s, MeaI W B P s x w
theorem mx_of {W w : World} {B : Nat} {P : EP} {s : ES} {x : EvS} (h : Hid (MeaI W B P s x w)) : Hid (MeaX W B P x w) := Lib.hid ⟨s, h.out⟩
theorem mx_k {W w w' : World} {B : Nat} {P : EP} {x : EvS} (h : Hid (MeaX W B P x w)) (k : Below w.heap.size w w') : Hid (MeaX W B P x w') := by
  obtain ⟨s, q⟩ := h.out
  exact Lib.hid ⟨s, q.to k⟩
theorem mx_ev {W : World} {B : Nat} {P : EP} {x : EvS} {i : Nat} {v : Value} (hv : x.cells[i]? = some v) : ∀ w, Hid (MeaX W B P x w) → w.cell? ⟨W.heap.size, i, none⟩ = some v := fun w q => by
  obtain ⟨s, h⟩ := q.out
  exact h.m.ev.cell hv
theorem mx_s {W : World} {B : Nat} {P : EP} {x : EvS} {i : Nat} {v : Value} (hv : x.smp[i]? = some v) : ∀ w, Hid (MeaX W B P x w) → w.cell? ⟨W.heap.size + 1, i, none⟩ = some v := fun w q => by
  obtain ⟨s, h⟩ := q.out
  exact h.sm.cell hv
theorem mx_p {W : World} {B : Nat} {P : EP} {x : EvS} {i : Nat} {v : Value} (hv : ∀ s, (ecells P s)[i]? = some v) : ∀ w, Hid (MeaX W B P x w) → w.cell? ⟨P.b, i, none⟩ = some v := fun w q => by
  obtain ⟨s, h⟩ := q.out
  exact h.m.at_.e.cell (hv s)
theorem mi_s {W : World} {B : Nat} {P : EP} {s : ES} {x : EvS} {i : Nat} {v : Value} (hv : x.smp[i]? = some v) : ∀ w, Hid (MeaI W B P s x w) → w.cell? ⟨W.heap.size + 1, i, none⟩ = some v := fun w q => q.out.sm.cell hv
theorem mi_p {W : World} {B : Nat} {P : EP} {s : ES} {x : EvS} {i : Nat} {v : Value} (hv : (ecells P s)[i]? = some v) : ∀ w, Hid (MeaI W B P s x w) → w.cell? ⟨P.b, i, none⟩ = some v := fun w q => q.out.m.at_.e.cell hv
theorem mi_k {W w w' : World} {B : Nat} {P : EP} {s : ES} {x : EvS} (h : Hid (MeaI W B P s x w)) (k : Below w.heap.size w w') : Hid (MeaI W B P s x w') := Lib.hid (h.out.to k)
/-- cycle's Put of one number, wherever it lies. -/
theorem put_any (y : CY) (p x b : Nat) (W : World) (hy : CyAt W p y) (h : W.cell? ⟨b, 0, none⟩ = some (.int .u64 (x : Int))) (hne : b ≠ p) :
    Calls Tryz.prog 70 #[.pointer (some ⟨p, 0, none⟩), .slice (some ⟨b, 0, none⟩) 1 1] W fun e w' => e = .returned (.tuple #[]) ∧ CyAt w' p (y.put [x]) ∧ W.grownBy w' (some p) :=
  cy_Put p y (some ⟨b, 0, none⟩) 1 [x] W hy (fun _ => ⟨b, 0, rfl, World.block_lt_of_cell? W _ h, fun i hi => by
    match i, hi with
    | 0, _ => exact h⟩) (fun _ a ha => by cases ha; exact hne) (by simp)
theorem nc1g (W : World) (b x : Nat) (T : TypeId) (hb : b = W.heap.size) : (W.alloc (.cells #[.int .u64 (x : Int)] T)).cell? ⟨b, 0, none⟩ = some (.int .u64 (x : Int)) := by subst hb; exact new_cell rfl rfl

set_option maxHeartbeats 1000000 in
theorem en_measure_n {B k : Nat} {P : EP} {s : ES} {now sd si sr rt dl ac lo fl : Nat} {sl : Bool} (hx : EvS.ok ⟨now, sd, si, sr, rt, sl, false, dl, ac, lo, fl⟩) (W : World) (h : EngAt W B P s) (ho : s.ok k) :
    Calls Tryz.prog 34 #[.pointer (some ⟨P.b, 0, none⟩), EvS.val ⟨now, sd, si, sr, rt, sl, false, dl, ac, lo, fl⟩] W (EPost B P (.returned (.bool false)) { s with f := s.f.to now } W) := by
  have M0 := Lib.hid (MutI.start h ⟨now, sd, si, sr, rt, sl, false, dl, ac, lo, fl⟩)
  obtain ⟨g, hg, hf⟩ := M0.out.drew.at_.f
  have HT := Lib.hid (fl_To P.a P.r g now s.f _ hf ho.f hx.now)
  have HF := Lib.hid hf
  have M1 := Lib.hid M0.out.drew
  have c10 := M1.out.at_.e.cell (i := 10) (v := .pointer (some ⟨P.a, 0, none⟩)) rfl
  have e0 := M1.out.ev.cell (i := 0) (v := .int .u64 (now : Int)) rfl
  clear h ho hx hf
  unfold EvS.val
  simp only [EvS.cells] at M0 M1 HT HF c10 e0 ⊢
  go_enter Tryz.func34, Tryz.ntmps34
  go_wp2_with fail
  generalize W.alloc (.cells #[.int .u64 (now : Int), .int .u64 (sd : Int), .int .u64 (si : Int), .int .u64 (sr : Int), .int .u64 (rt : Int), .bool sl, .bool false, .int .u64 (dl : Int), .int .u64 (ac : Int), .int .u64 (lo : Int), .int .u64 (fl : Int)] 39) = w0 at *
  go_region_with (first
    | (go_at_call 68; (refine HT.out.mono ?_); rintro e w1 hp; obtain rfl := hp.e; have M2 := Lib.hid (MutN.mi M1.out (MutN.fl M1.out.at_ hg HF.out hp)); clear hp))
  all_goals
    clear M0 M1 c10 e0 HT
    go_wp2_with fail
    go_ret
    exact ⟨rfl, M2.out.at_, M2.out.bel, M2.out.kt⟩

set_option maxHeartbeats 2000000 in
theorem en_measure_f {B k : Nat} {P : EP} {s : ES} {now sd si sr rt dl ac lo fl : Nat} (hx : EvS.ok ⟨now, sd, si, sr, rt, false, true, dl, ac, lo, fl⟩) (W : World) (h : EngAt W B P s) (ho : s.ok k) (hk : k ≤ 900)  :
    Calls Tryz.prog 34 #[.pointer (some ⟨P.b, 0, none⟩), EvS.val ⟨now, sd, si, sr, rt, false, true, dl, ac, lo, fl⟩] W (EPost B P (.returned (.bool (s.n.ackB (Pl.subS dl sd)))) { s with f := s.f.put now rt, y := s.y.put [sr], n := s.n.ackS (Pl.subS dl sd) dl } W) := by

  have M0 := Lib.hid (MeaI.start h ⟨now, sd, si, sr, rt, false, true, dl, ac, lo, fl⟩)
  have M1 := Lib.hid M0.out.drew
  obtain ⟨g, hg, hf⟩ := M1.out.m.at_.f
  have HP := Lib.hid (fl_Put P.a P.r g now rt s.f _ hf ho.f hx.now)
  have HF := Lib.hid hf
  have HB := Lib.hid (fun w h => cy_Best P.y s.y w h)
  have HC := Lib.hid (fun b w => put_any s.y P.y sr b w)
  have HS := Lib.hid (fun b w hw => sub_any dl sd b hx.dl hx.sd w hw)
  have HA := Lib.hid (fun w h => ct_Ack P.n (Pl.subS dl sd) dl s.n w h (Nat.lt_of_le_of_lt ho.nn (by omega)))
  have p10 := mx_p (W := W) (B := B) (P := P) (x := ⟨now, sd, si, sr, rt, false, true, dl, ac, lo, fl⟩) (i := 10) (v := .pointer (some ⟨P.a, 0, none⟩)) (fun _ => rfl)
  have p11 := mx_p (W := W) (B := B) (P := P) (x := ⟨now, sd, si, sr, rt, false, true, dl, ac, lo, fl⟩) (i := 11) (v := .pointer (some ⟨P.y, 0, none⟩)) (fun _ => rfl)
  have p12 := mx_p (W := W) (B := B) (P := P) (x := ⟨now, sd, si, sr, rt, false, true, dl, ac, lo, fl⟩) (i := 12) (v := .pointer (some ⟨P.n, 0, none⟩)) (fun _ => rfl)
  have v0 := mx_ev (W := W) (B := B) (P := P) (x := ⟨now, sd, si, sr, rt, false, true, dl, ac, lo, fl⟩) (i := 0) (v := .int .u64 (now : Int)) rfl
  have v7 := mx_ev (W := W) (B := B) (P := P) (x := ⟨now, sd, si, sr, rt, false, true, dl, ac, lo, fl⟩) (i := 7) (v := .int .u64 (dl : Int)) rfl
  have q0 := mx_s (W := W) (B := B) (P := P) (x := ⟨now, sd, si, sr, rt, false, true, dl, ac, lo, fl⟩) (i := 0) (v := .int .u64 (sd : Int)) rfl
  have q2 := mx_s (W := W) (B := B) (P := P) (x := ⟨now, sd, si, sr, rt, false, true, dl, ac, lo, fl⟩) (i := 2) (v := .int .u64 (sr : Int)) rfl
  have q3 := mx_s (W := W) (B := B) (P := P) (x := ⟨now, sd, si, sr, rt, false, true, dl, ac, lo, fl⟩) (i := 3) (v := .int .u64 (rt : Int)) rfl
  have q4 := mx_s (W := W) (B := B) (P := P) (x := ⟨now, sd, si, sr, rt, false, true, dl, ac, lo, fl⟩) (i := 4) (v := .bool false) rfl
  clear h ho hx hf hk
  unfold EvS.val
  generalize hX : (EvS.mk now sd si sr rt false true dl ac lo fl) = X at *
  have HE : Hid (X.cells = #[.int .u64 (now : Int), .int .u64 (sd : Int), .int .u64 (si : Int), .int .u64 (sr : Int), .int .u64 (rt : Int), .bool false, .bool true, .int .u64 (dl : Int), .int .u64 (ac : Int), .int .u64 (lo : Int), .int .u64 (fl : Int)]) := Lib.hid (by rw [← hX]; rfl)
  have HSm : Hid (X.smp = #[.int .u64 (sd : Int), .int .u64 (si : Int), .int .u64 (sr : Int), .int .u64 (rt : Int), .bool false]) := Lib.hid (by rw [← hX]; rfl)
  clear hX
  rw [HE.out] at M0 M1 HP HF ⊢
  rw [HSm.out] at M0 M1 HP HF
  go_enter Tryz.func34, Tryz.ntmps34
  go_wp2_with fail
  generalize ((W.alloc (.cells #[.int .u64 (now : Int), .int .u64 (sd : Int), .int .u64 (si : Int), .int .u64 (sr : Int), .int .u64 (rt : Int), .bool false, .bool true, .int .u64 (dl : Int), .int .u64 (ac : Int), .int .u64 (lo : Int), .int .u64 (fl : Int)] 39)).alloc (.cells #[.int .u64 (sd : Int), .int .u64 (si : Int), .int .u64 (sr : Int), .int .u64 (rt : Int), .bool false] 37)) = w0 at *
  have X1 := mx_of M1
  go_region_held3 (fun w' => Hid (MeaX W B P X w'))
    (first | with_reducible exact X1 | with_reducible exact X2)
    (first
      | (go_at_call 69; (with_reducible refine HP.out.mono ?_); rintro e w1 hp; obtain rfl := hp.e; have M2 := Lib.hid (M1.out.cat (MutN.fl M1.out.m.at_ hg HF.out hp)); have X2 := mx_of M2; clear hp))
  clear HP HF M0 M1 X1
  go_wp2_with fail
  have M3 := Lib.hid M2.out.drew
  clear X2
  have b4 := q4 _ (mx_of M2)
  go_region
  have M4 := M3
  clear M2 HB b4
  go_wp2_with fail
  have M5 := Lib.hid M4.out.drew
  have X5 := mx_of M5
  go_region_held3 (fun w' => Hid (MeaX W B P X w'))
    (first | with_reducible exact X5 | with_reducible exact mx_k X5 (al_be _ _) | with_reducible exact mx_k (by assumption) (al_be _ _) | with_reducible exact mx_k (by assumption) (al_dr _ _) | with_reducible exact X6 | with_reducible exact mx_of (Lib.hid (M4.out.to (al_dr _ _))))
    (first
      | (go_at_call 70; (refine (HC.out _ _ (by first | exact (M4.out.to (al_dr _ _)).m.at_.y | exact (M5.out.to (al_be _ _)).m.at_.y) (by first | exact cell_dr (nc1g _ _ _ _ (by simp)) | exact nc1g _ _ _ _ (by simp)) (Nat.ne_of_gt (Blk.lt M4.out.m.at_.y))).mono ?_); rintro e w3 ⟨rfl, hy, hgr⟩; have M6 : Hid (MeaI W B P { s with f := s.f.put now rt, y := s.y.put [sr] } X w3) := (by first | exact Lib.hid ((M4.out.to (al_dr _ _)).cat (MutN.cy (M4.out.to (al_dr _ _)).m.at_ hy hgr)) | exact Lib.hid ((M5.out.to (al_be _ _)).cat (MutN.cy (M5.out.to (al_be _ _)).m.at_ hy hgr))); have X6 := mx_of M6; clear hy hgr))
  clear M4 M5 X5 X6
  go_wp2_with fail
  have M7 := Lib.hid M6.out.drew
  have X7 := mx_of M7
  go_region_held3 (fun w' => Hid (MeaX W B P X w'))
    (first | with_reducible exact X7 | with_reducible exact mx_k X7 (al_be _ _) | with_reducible assumption | with_reducible exact mx_k (by assumption) (al_be _ _) | with_reducible exact mx_k (by assumption) (al_dr _ _) | with_reducible exact X8 | with_reducible exact mx_of (Lib.hid (M6.out.to (al_dr _ _))))
    (first
      | (go_at_call 72; (refine (HS.out _ _ (by first | exact cell_dr (nc1g _ _ _ _ (by simp)) | exact nc1g _ _ _ _ (by simp))).mono ?_); rintro e w4 ⟨rfl, rfl⟩)
      | (go_at_call 71; (refine (HA.out _ (by first | exact (M6.out.to (al_dr _ _)).m.at_.n | exact (M7.out.to (al_be _ _)).m.at_.n)).mono ?_); rintro e w5 hp; obtain rfl := hp.e; have M8 : Hid (MeaI W B P { s with f := s.f.put now rt, y := s.y.put [sr], n := s.n.ackS (Pl.subS dl sd) dl } X w5) := (by first | exact Lib.hid ((M6.out.to (al_dr _ _)).cat (MutN.ct (M6.out.to (al_dr _ _)).m.at_ hp.blk hp.gr)) | exact Lib.hid ((M7.out.to (al_be _ _)).cat (MutN.ct (M7.out.to (al_be _ _)).m.at_ hp.blk hp.gr))); have X8 := mx_of M8; clear hp))
  go_wp2_with fail
  go_ret
  exact ⟨rfl, M8.out.m.at_, M8.out.m.bel, M8.out.m.kt⟩

set_option maxHeartbeats 2000000 in
theorem en_measure_y {B k : Nat} {P : EP} {s : ES} {now sd si sr rt dl ac lo fl : Nat} (hx : EvS.ok ⟨now, sd, si, sr, rt, true, true, dl, ac, lo, fl⟩) (W : World) (h : EngAt W B P s) (ho : s.ok k) (hk : k ≤ 900) (hb : s.y.best ≤ sr) :
    Calls Tryz.prog 34 #[.pointer (some ⟨P.b, 0, none⟩), EvS.val ⟨now, sd, si, sr, rt, true, true, dl, ac, lo, fl⟩] W (EPost B P (.returned (.bool (s.n.ackB (Pl.subS dl sd)))) { s with f := s.f.put now rt, y := s.y.put [sr], n := s.n.ackS (Pl.subS dl sd) dl } W) := by
  have d0 : decide ((s.y.best : Int) ≤ (sr : Int)) = true := decide_eq_true (by omega)
  have d1 : decide (s.y.best ≤ sr) = true := decide_eq_true hb
  clear hb
  have M0 := Lib.hid (MeaI.start h ⟨now, sd, si, sr, rt, true, true, dl, ac, lo, fl⟩)
  have M1 := Lib.hid M0.out.drew
  obtain ⟨g, hg, hf⟩ := M1.out.m.at_.f
  have HP := Lib.hid (fl_Put P.a P.r g now rt s.f _ hf ho.f hx.now)
  have HF := Lib.hid hf
  have HB := Lib.hid (fun w h => cy_Best P.y s.y w h)
  have HC := Lib.hid (fun b w => put_any s.y P.y sr b w)
  have HS := Lib.hid (fun b w hw => sub_any dl sd b hx.dl hx.sd w hw)
  have HA := Lib.hid (fun w h => ct_Ack P.n (Pl.subS dl sd) dl s.n w h (Nat.lt_of_le_of_lt ho.nn (by omega)))
  have p10 := mx_p (W := W) (B := B) (P := P) (x := ⟨now, sd, si, sr, rt, true, true, dl, ac, lo, fl⟩) (i := 10) (v := .pointer (some ⟨P.a, 0, none⟩)) (fun _ => rfl)
  have p11 := mx_p (W := W) (B := B) (P := P) (x := ⟨now, sd, si, sr, rt, true, true, dl, ac, lo, fl⟩) (i := 11) (v := .pointer (some ⟨P.y, 0, none⟩)) (fun _ => rfl)
  have p12 := mx_p (W := W) (B := B) (P := P) (x := ⟨now, sd, si, sr, rt, true, true, dl, ac, lo, fl⟩) (i := 12) (v := .pointer (some ⟨P.n, 0, none⟩)) (fun _ => rfl)
  have v0 := mx_ev (W := W) (B := B) (P := P) (x := ⟨now, sd, si, sr, rt, true, true, dl, ac, lo, fl⟩) (i := 0) (v := .int .u64 (now : Int)) rfl
  have v7 := mx_ev (W := W) (B := B) (P := P) (x := ⟨now, sd, si, sr, rt, true, true, dl, ac, lo, fl⟩) (i := 7) (v := .int .u64 (dl : Int)) rfl
  have q0 := mx_s (W := W) (B := B) (P := P) (x := ⟨now, sd, si, sr, rt, true, true, dl, ac, lo, fl⟩) (i := 0) (v := .int .u64 (sd : Int)) rfl
  have q2 := mx_s (W := W) (B := B) (P := P) (x := ⟨now, sd, si, sr, rt, true, true, dl, ac, lo, fl⟩) (i := 2) (v := .int .u64 (sr : Int)) rfl
  have q3 := mx_s (W := W) (B := B) (P := P) (x := ⟨now, sd, si, sr, rt, true, true, dl, ac, lo, fl⟩) (i := 3) (v := .int .u64 (rt : Int)) rfl
  have q4 := mx_s (W := W) (B := B) (P := P) (x := ⟨now, sd, si, sr, rt, true, true, dl, ac, lo, fl⟩) (i := 4) (v := .bool true) rfl
  clear h ho hx hf hk
  unfold EvS.val
  generalize hX : (EvS.mk now sd si sr rt true true dl ac lo fl) = X at *
  have HE : Hid (X.cells = #[.int .u64 (now : Int), .int .u64 (sd : Int), .int .u64 (si : Int), .int .u64 (sr : Int), .int .u64 (rt : Int), .bool true, .bool true, .int .u64 (dl : Int), .int .u64 (ac : Int), .int .u64 (lo : Int), .int .u64 (fl : Int)]) := Lib.hid (by rw [← hX]; rfl)
  have HSm : Hid (X.smp = #[.int .u64 (sd : Int), .int .u64 (si : Int), .int .u64 (sr : Int), .int .u64 (rt : Int), .bool true]) := Lib.hid (by rw [← hX]; rfl)
  clear hX
  rw [HE.out] at M0 M1 HP HF ⊢
  rw [HSm.out] at M0 M1 HP HF
  go_enter Tryz.func34, Tryz.ntmps34
  go_wp2_with fail
  generalize ((W.alloc (.cells #[.int .u64 (now : Int), .int .u64 (sd : Int), .int .u64 (si : Int), .int .u64 (sr : Int), .int .u64 (rt : Int), .bool true, .bool true, .int .u64 (dl : Int), .int .u64 (ac : Int), .int .u64 (lo : Int), .int .u64 (fl : Int)] 39)).alloc (.cells #[.int .u64 (sd : Int), .int .u64 (si : Int), .int .u64 (sr : Int), .int .u64 (rt : Int), .bool true] 37)) = w0 at *
  have X1 := mx_of M1
  go_region_held3 (fun w' => Hid (MeaX W B P X w'))
    (first | with_reducible exact X1 | with_reducible exact X2)
    (first
      | (go_at_call 69; (with_reducible refine HP.out.mono ?_); rintro e w1 hp; obtain rfl := hp.e; have M2 := Lib.hid (M1.out.cat (MutN.fl M1.out.m.at_ hg HF.out hp)); have X2 := mx_of M2; clear hp))
  clear HP HF M0 M1 X1
  go_wp2_with fail
  have M3 := Lib.hid M2.out.drew
  clear X2
  have X3 := mx_of M3
  have i11 := mi_p (W := W) (B := B) (P := P) (s := { s with f := s.f.put now rt }) (x := X) (i := 11) (v := .pointer (some ⟨P.y, 0, none⟩)) rfl
  have i2 := fun w (q : Hid (MeaI W B P { s with f := s.f.put now rt } X w)) => q2 w (mx_of q)
  have i4 := fun w (q : Hid (MeaI W B P { s with f := s.f.put now rt } X w)) => q4 w (mx_of q)
  go_region_held3 (fun w' => Hid (MeaI W B P { s with f := s.f.put now rt } X w'))
    (first | with_reducible exact mi_k (by assumption) hb | with_reducible exact M3)
    (first
      | (go_at_call 37; (with_reducible refine (HB.out _ M3.out.m.at_.y).mono ?_); rintro e w2 ⟨rfl, hb⟩))
  have M4 : Hid (MeaI W B P { s with f := s.f.put now rt } X w2) := Lib.hid (M3.out.to hb)
  clear i11 i2 i4 X3 hb
  clear M2 M3 HB
  go_wp2_with fail
  have M5 := Lib.hid M4.out.drew
  have X5 := mx_of M5
  go_region_held3 (fun w' => Hid (MeaX W B P X w'))
    (first | with_reducible exact X5 | with_reducible exact mx_k X5 (al_be _ _) | with_reducible exact mx_k (by assumption) (al_be _ _) | with_reducible exact mx_k (by assumption) (al_dr _ _) | with_reducible exact X6 | with_reducible exact mx_of (Lib.hid (M4.out.to (al_dr _ _))))
    (first
      | (go_at_call 70; (refine (HC.out _ _ (by first | exact (M4.out.to (al_dr _ _)).m.at_.y | exact (M5.out.to (al_be _ _)).m.at_.y) (by first | exact cell_dr (nc1g _ _ _ _ (by simp)) | exact nc1g _ _ _ _ (by simp)) (Nat.ne_of_gt (Blk.lt M4.out.m.at_.y))).mono ?_); rintro e w3 ⟨rfl, hy, hgr⟩; have M6 : Hid (MeaI W B P { s with f := s.f.put now rt, y := s.y.put [sr] } X w3) := (by first | exact Lib.hid ((M4.out.to (al_dr _ _)).cat (MutN.cy (M4.out.to (al_dr _ _)).m.at_ hy hgr)) | exact Lib.hid ((M5.out.to (al_be _ _)).cat (MutN.cy (M5.out.to (al_be _ _)).m.at_ hy hgr))); have X6 := mx_of M6; clear hy hgr))
  clear M4 M5 X5 X6
  go_wp2_with fail
  have M7 := Lib.hid M6.out.drew
  have X7 := mx_of M7
  go_region_held3 (fun w' => Hid (MeaX W B P X w'))
    (first | with_reducible exact X7 | with_reducible exact mx_k X7 (al_be _ _) | with_reducible assumption | with_reducible exact mx_k (by assumption) (al_be _ _) | with_reducible exact mx_k (by assumption) (al_dr _ _) | with_reducible exact X8 | with_reducible exact mx_of (Lib.hid (M6.out.to (al_dr _ _))))
    (first
      | (go_at_call 72; (refine (HS.out _ _ (by first | exact cell_dr (nc1g _ _ _ _ (by simp)) | exact nc1g _ _ _ _ (by simp))).mono ?_); rintro e w4 ⟨rfl, rfl⟩)
      | (go_at_call 71; (refine (HA.out _ (by first | exact (M6.out.to (al_dr _ _)).m.at_.n | exact (M7.out.to (al_be _ _)).m.at_.n)).mono ?_); rintro e w5 hp; obtain rfl := hp.e; have M8 : Hid (MeaI W B P { s with f := s.f.put now rt, y := s.y.put [sr], n := s.n.ackS (Pl.subS dl sd) dl } X w5) := (by first | exact Lib.hid ((M6.out.to (al_dr _ _)).cat (MutN.ct (M6.out.to (al_dr _ _)).m.at_ hp.blk hp.gr)) | exact Lib.hid ((M7.out.to (al_be _ _)).cat (MutN.ct (M7.out.to (al_be _ _)).m.at_ hp.blk hp.gr))); have X8 := mx_of M8; clear hp))
  go_wp2_with fail
  go_ret
  exact ⟨rfl, M8.out.m.at_, M8.out.m.bel, M8.out.m.kt⟩

set_option maxHeartbeats 2000000 in
theorem en_measure_x {B k : Nat} {P : EP} {s : ES} {now sd si sr rt dl ac lo fl : Nat} (hx : EvS.ok ⟨now, sd, si, sr, rt, true, true, dl, ac, lo, fl⟩) (W : World) (h : EngAt W B P s) (ho : s.ok k) (hk : k ≤ 900) (hb : ¬ s.y.best ≤ sr) :
    Calls Tryz.prog 34 #[.pointer (some ⟨P.b, 0, none⟩), EvS.val ⟨now, sd, si, sr, rt, true, true, dl, ac, lo, fl⟩] W (EPost B P (.returned (.bool (s.n.ackB (Pl.subS dl sd)))) { s with f := s.f.put now rt, y := s.y, n := s.n.ackS (Pl.subS dl sd) dl } W) := by
  have d0 : decide ((s.y.best : Int) ≤ (sr : Int)) = false := decide_eq_false (by omega)
  have d1 : decide (s.y.best ≤ sr) = false := decide_eq_false hb
  clear hb
  have M0 := Lib.hid (MeaI.start h ⟨now, sd, si, sr, rt, true, true, dl, ac, lo, fl⟩)
  have M1 := Lib.hid M0.out.drew
  obtain ⟨g, hg, hf⟩ := M1.out.m.at_.f
  have HP := Lib.hid (fl_Put P.a P.r g now rt s.f _ hf ho.f hx.now)
  have HF := Lib.hid hf
  have HB := Lib.hid (fun w h => cy_Best P.y s.y w h)
  have HC := Lib.hid (fun b w => put_any s.y P.y sr b w)
  have HS := Lib.hid (fun b w hw => sub_any dl sd b hx.dl hx.sd w hw)
  have HA := Lib.hid (fun w h => ct_Ack P.n (Pl.subS dl sd) dl s.n w h (Nat.lt_of_le_of_lt ho.nn (by omega)))
  have p10 := mx_p (W := W) (B := B) (P := P) (x := ⟨now, sd, si, sr, rt, true, true, dl, ac, lo, fl⟩) (i := 10) (v := .pointer (some ⟨P.a, 0, none⟩)) (fun _ => rfl)
  have p11 := mx_p (W := W) (B := B) (P := P) (x := ⟨now, sd, si, sr, rt, true, true, dl, ac, lo, fl⟩) (i := 11) (v := .pointer (some ⟨P.y, 0, none⟩)) (fun _ => rfl)
  have p12 := mx_p (W := W) (B := B) (P := P) (x := ⟨now, sd, si, sr, rt, true, true, dl, ac, lo, fl⟩) (i := 12) (v := .pointer (some ⟨P.n, 0, none⟩)) (fun _ => rfl)
  have v0 := mx_ev (W := W) (B := B) (P := P) (x := ⟨now, sd, si, sr, rt, true, true, dl, ac, lo, fl⟩) (i := 0) (v := .int .u64 (now : Int)) rfl
  have v7 := mx_ev (W := W) (B := B) (P := P) (x := ⟨now, sd, si, sr, rt, true, true, dl, ac, lo, fl⟩) (i := 7) (v := .int .u64 (dl : Int)) rfl
  have q0 := mx_s (W := W) (B := B) (P := P) (x := ⟨now, sd, si, sr, rt, true, true, dl, ac, lo, fl⟩) (i := 0) (v := .int .u64 (sd : Int)) rfl
  have q2 := mx_s (W := W) (B := B) (P := P) (x := ⟨now, sd, si, sr, rt, true, true, dl, ac, lo, fl⟩) (i := 2) (v := .int .u64 (sr : Int)) rfl
  have q3 := mx_s (W := W) (B := B) (P := P) (x := ⟨now, sd, si, sr, rt, true, true, dl, ac, lo, fl⟩) (i := 3) (v := .int .u64 (rt : Int)) rfl
  have q4 := mx_s (W := W) (B := B) (P := P) (x := ⟨now, sd, si, sr, rt, true, true, dl, ac, lo, fl⟩) (i := 4) (v := .bool true) rfl
  clear h ho hx hf hk
  unfold EvS.val
  generalize hX : (EvS.mk now sd si sr rt true true dl ac lo fl) = X at *
  have HE : Hid (X.cells = #[.int .u64 (now : Int), .int .u64 (sd : Int), .int .u64 (si : Int), .int .u64 (sr : Int), .int .u64 (rt : Int), .bool true, .bool true, .int .u64 (dl : Int), .int .u64 (ac : Int), .int .u64 (lo : Int), .int .u64 (fl : Int)]) := Lib.hid (by rw [← hX]; rfl)
  have HSm : Hid (X.smp = #[.int .u64 (sd : Int), .int .u64 (si : Int), .int .u64 (sr : Int), .int .u64 (rt : Int), .bool true]) := Lib.hid (by rw [← hX]; rfl)
  clear hX
  rw [HE.out] at M0 M1 HP HF ⊢
  rw [HSm.out] at M0 M1 HP HF
  go_enter Tryz.func34, Tryz.ntmps34
  go_wp2_with fail
  generalize ((W.alloc (.cells #[.int .u64 (now : Int), .int .u64 (sd : Int), .int .u64 (si : Int), .int .u64 (sr : Int), .int .u64 (rt : Int), .bool true, .bool true, .int .u64 (dl : Int), .int .u64 (ac : Int), .int .u64 (lo : Int), .int .u64 (fl : Int)] 39)).alloc (.cells #[.int .u64 (sd : Int), .int .u64 (si : Int), .int .u64 (sr : Int), .int .u64 (rt : Int), .bool true] 37)) = w0 at *
  have X1 := mx_of M1
  go_region_held3 (fun w' => Hid (MeaX W B P X w'))
    (first | with_reducible exact X1 | with_reducible exact X2)
    (first
      | (go_at_call 69; (with_reducible refine HP.out.mono ?_); rintro e w1 hp; obtain rfl := hp.e; have M2 := Lib.hid (M1.out.cat (MutN.fl M1.out.m.at_ hg HF.out hp)); have X2 := mx_of M2; clear hp))
  clear HP HF M0 M1 X1
  go_wp2_with fail
  have M3 := Lib.hid M2.out.drew
  clear X2
  have X3 := mx_of M3
  have i11 := mi_p (W := W) (B := B) (P := P) (s := { s with f := s.f.put now rt }) (x := X) (i := 11) (v := .pointer (some ⟨P.y, 0, none⟩)) rfl
  have i2 := fun w (q : Hid (MeaI W B P { s with f := s.f.put now rt } X w)) => q2 w (mx_of q)
  have i4 := fun w (q : Hid (MeaI W B P { s with f := s.f.put now rt } X w)) => q4 w (mx_of q)
  go_region_held3 (fun w' => Hid (MeaI W B P { s with f := s.f.put now rt } X w'))
    (first | with_reducible exact mi_k (by assumption) hb | with_reducible exact M3)
    (first
      | (go_at_call 37; (with_reducible refine (HB.out _ M3.out.m.at_.y).mono ?_); rintro e w2 ⟨rfl, hb⟩))
  have M4 : Hid (MeaI W B P { s with f := s.f.put now rt } X w2) := Lib.hid (M3.out.to hb)
  clear i11 i2 i4 X3 hb
  clear M2 M3 HB
  go_wp2_with fail
  have M7 := Lib.hid M4.out.drew
  have X7 := mx_of M7
  go_region_held3 (fun w' => Hid (MeaX W B P X w'))
    (first | with_reducible exact X7 | with_reducible exact mx_k X7 (al_be _ _) | with_reducible assumption | with_reducible exact mx_k (by assumption) (al_be _ _) | with_reducible exact mx_k (by assumption) (al_dr _ _) | with_reducible exact X8 | with_reducible exact mx_of (Lib.hid (M4.out.to (al_dr _ _))))
    (first
      | (go_at_call 72; (refine (HS.out _ _ (by first | exact cell_dr (nc1g _ _ _ _ (by simp)) | exact nc1g _ _ _ _ (by simp))).mono ?_); rintro e w4 ⟨rfl, rfl⟩)
      | (go_at_call 71; (refine (HA.out _ (by first | exact (M4.out.to (al_dr _ _)).m.at_.n | exact (M7.out.to (al_be _ _)).m.at_.n)).mono ?_); rintro e w5 hp; obtain rfl := hp.e; have M8 : Hid (MeaI W B P { s with f := s.f.put now rt, y := s.y, n := s.n.ackS (Pl.subS dl sd) dl } X w5) := (by first | exact Lib.hid ((M4.out.to (al_dr _ _)).cat (MutN.ct (M4.out.to (al_dr _ _)).m.at_ hp.blk hp.gr)) | exact Lib.hid ((M7.out.to (al_be _ _)).cat (MutN.ct (M7.out.to (al_be _ _)).m.at_ hp.blk hp.gr))); have X8 := mx_of M8; clear hp))
  go_wp2_with fail
  go_ret
  exact ⟨rfl, M8.out.m.at_, M8.out.m.bel, M8.out.m.kt⟩

theorem en_measure {B k : Nat} {P : EP} {s : ES} (x : EvS) (hx : x.ok) (W : World) (h : EngAt W B P s) (ho : s.ok k) (hk : k ≤ 900) :
    Calls Tryz.prog 34 #[.pointer (some ⟨P.b, 0, none⟩), x.val] W (EPost B P (.returned (.bool (s.over x))) (s.mea x) W) := by
  obtain ⟨now, sd, si, sr, rt, sl, sm, dl, ac, lo, fl⟩ := x
  cases sm with
  | false =>
    have := en_measure_n hx W h ho
    simpa [ES.over, ES.mea] using this
  | true =>
    cases sl with
    | false =>
      have := en_measure_f hx W h ho hk
      simpa [ES.over, ES.mea, ES.rput] using this
    | true =>
      by_cases hb : s.y.best ≤ sr
      · have := en_measure_y hx W h ho hk hb
        simpa [ES.over, ES.mea, ES.rput, hb] using this
      · have := en_measure_x hx W h ho hk hb
        simpa [ES.over, ES.mea, ES.rput, hb] using this
end Go.Proofs.YtpkbjfhicocogaaGreatDoor

/- Plain facts on engines: what an event leaves of a setup; that an engine is never stuck, and grows. -/
set_option linter.unusedVariables false
namespace Go.Proofs.YtpkbjfhicocogaaGreatDoor
open Go.RowKit Cf

theorem ES.mea_c (s : ES) (x : EvS) : (s.mea x).c = s.c := by unfold ES.mea; split <;> rfl
theorem ES.e3_c (s : ES) (x : EvS) : (s.e3 x).c = s.c := by
  unfold ES.e3; split
  · exact ES.mea_c _ x
  · exact ES.mea_c _ x
theorem ES.e4_c (s : ES) (x : EvS) : (s.e4 x).c = s.c := by
  unfold ES.e4; split
  · exact ES.e3_c s x
  · exact ES.e3_c s x
theorem ES.e5_c (s : ES) (x : EvS) : (s.e5 x).c = s.c := by
  unfold ES.e5; split
  · exact ES.e4_c s x
  · exact ES.e4_c s x
theorem ES.side_c (s : ES) (n : Nat) (t : Int) : (s.side n t).c = s.c := by
  unfold ES.side; split
  · rfl
  · split
    · rfl
    · split
      · rfl
      · split <;> rfl
theorem ES.turn_c (s : ES) (n : Nat) (t : Int) : (s.turn n t).c = s.c := by
  unfold ES.turn; split
  · rfl
  · exact ES.side_c s n t
theorem ES.e6_c (s : ES) (x : EvS) : (s.e6 x).c = s.c := (ES.turn_c _ _ _).trans (ES.e5_c s x)
theorem ES.e7_c (s : ES) (x : EvS) : (s.e7 x).c = s.c := by
  unfold ES.e7; split
  · exact ES.e6_c s x
  · exact ES.e6_c s x
theorem ES.on_c (s : ES) (x : EvS) : (s.on x).c = s.c := ES.e7_c s x

theorem right_mss {c : Setup} (h : rightC c = true) : 1 ≤ c 0 ∧ c 0 ≤ 65535 ∧ 4 ≤ c 1 ∧ c 1 ≤ 1000 := by
  have h0 : fits c 0 = true := by
    unfold rightC at h
    exact List.all_eq_true.1 h 0 (by decide)
  have h1 : fits c 1 = true := by
    unfold rightC at h
    exact List.all_eq_true.1 h 1 (by decide)
  unfold fits at h0 h1
  have a0 := of_decide_eq_true h0
  have a1 := of_decide_eq_true h1
  have b0 : least 0 = 1 ∧ most 0 = 65535 ∧ least 1 = 4 ∧ most 1 = 1000 := by decide
  omega
theorem leastC_eq {c : Setup} (h : rightC c = true) : leastC c = 4 * c 0 := by
  have := right_mss h
  unfold leastC Pl.mulS; omega
theorem firstC_eq {c : Setup} (h : rightC c = true) : firstC c = c 1 * c 0 ∧ 4 * c 0 ≤ c 1 * c 0 ∧ c 1 * c 0 ≤ 65535000 := by
  have h1 := right_mss h
  have h2 : 4 * c 0 ≤ c 1 * c 0 := Nat.mul_le_mul_right _ h1.2.2.1
  have h3 : c 1 * c 0 ≤ 1000 * 65535 := Nat.mul_le_mul h1.2.2.2 h1.2.1
  unfold firstC Pl.mulS
  omega

/-- What BbrStuck asks. -/
structure Free (m : Nat) (s : ES) : Prop where
  cl : m * 4 ≤ s.cwnd
  pl : m * 4 ≤ s.pace
  ql : m * 2 ≤ s.quant
  qm : s.quant ≤ m * 64
  pm : s.pace ≤ 1099511627776
  cm : s.cwnd ≤ 72057594037927936
  st : 0 ≤ s.st ∧ s.st ≤ 6
theorem on_free {s : ES} {k : Nat} (ho : s.ok k) (hr : rightC s.c = true) {x : EvS} (hx : x.ok) (hk : k ≤ 900) : Free (s.c 0) (s.on x) := by
  have o1 := ES.on_ok ho hx hk
  have hc := ES.on_c s x
  have hm := right_mss hr
  have hl := leastC_eq hr
  have hcw : (s.on x).cwnd = min (max ((s.e7 x).o3 x.ac) (leastC (s.e7 x).c)) 72057594037927936 := rfl
  rw [ES.e7_c, hl] at hcw
  generalize s.on x = t at *
  have hp : t.pace = min (max (paceG (stG t.st) (t.bs.limit t.rate)) (leastC t.c)) 1099511627776 := rfl
  rw [hc, hl] at hp
  have hq : t.quant = min (max (t.pace / 1000) (Pl.mulS 2 (t.c 0))) (Pl.mulS 64 (t.c 0)) := rfl
  rw [hc] at hq
  unfold Pl.mulS at hq
  exact ⟨by omega, by omega, by omega, by omega, by omega, by omega, o1.st⟩

/-- An engine that grows: nothing but times and acknowledged bytes came. -/
structure Grow (c : Setup) (s : ES) : Prop where
  c : s.c = c
  st : s.st = 0
  p : s.p = Pi.zero
  bs : s.bs = BS.none
  f : s.f.l = []
  y : s.y = ⟨0, 0, 0⟩
  lo : s.lost = 0
  cl : 4 * s.c 0 ≤ s.cwnd
theorem Grow.new {c : Setup} (h : rightC c = true) : Grow c (ES.new c) := by
  have := firstC_eq h
  exact ⟨rfl, rfl, rfl, rfl, rfl, rfl, rfl, by show 4 * c 0 ≤ firstC c; omega⟩
theorem Grow.pace {c : Setup} {s t : ES} (h : Grow c s) (k : Grow c t) : s.pace = t.pace := by
  have e : ∀ u, Grow c u → u.pace = min (max (paceG (stG 0) (BS.none.limit (Pl.shareS (firstC c) 1000000 1000))) (leastC c)) 1099511627776 := fun u q => by
    have q1 : u.trip = 1000 := by unfold ES.trip FS.some; rw [q.f]; rfl
    have q2 : u.rate = Pl.shareS (firstC c) 1000000 1000 := by unfold ES.rate; rw [q.y, q1, q.c]; rfl
    unfold ES.pace; rw [q.st, q.bs, q2, q.c]
  rw [e s h, e t k]
/-- An event that is no sample of anything. -/
def evG (i a : Nat) : EvS := ⟨i, 0, 0, 0, 0, false, false, 0, a, 0, 0⟩
theorem evG_ok {i a : Nat} (hi : i ≤ 18446744073709551615) (ha : a ≤ 18446744073709551615) : (evG i a).ok := ⟨hi, Nat.zero_le _, Nat.zero_le _, Nat.zero_le _, Nat.zero_le _, Nat.zero_le _, ha, Nat.zero_le _, Nat.zero_le _⟩
theorem grow_on {c : Setup} {s : ES} (hr : rightC c = true) (h : Grow c s) {i a : Nat} (ha : a ≤ 72057594037927936) (hw : s.cwnd ≤ 72057594037927936) :
    Grow c (s.on (evG i a)) ∧ (s.on (evG i a)).cwnd = min (s.cwnd + a) 72057594037927936 := by
  have q3 : s.e3 (evG i a) = { s with acked := Pl.addS s.acked a, lost := Pl.addS s.lost 0, f := s.f.to i } := by
    unfold ES.e3 ES.over ES.mea evG; rfl
  have q4 : s.e4 (evG i a) = s.e3 (evG i a) := by unfold ES.e4; rfl
  have ql : s.el (evG i a) = false := by unfold ES.el ES.eo ES.over; rfl
  have q5 : s.e5 (evG i a) = s.e3 (evG i a) := by unfold ES.e5; rw [ql, q4]; rfl
  have qf : (s.f.to i).l = [] := by
    unfold FS.to; split
    · exact h.f
    · show s.f.l.dropWhile _ = []
      rw [h.f]; rfl
  have qn : nextS 0 ((s.e5 (evG i a)).sig (evG i a) (s.eo (evG i a)) (s.el (evG i a))) = 0 := by
    have f1 : ((s.e5 (evG i a)).sig (evG i a) (s.eo (evG i a)) (s.el (evG i a))).full = false := by
      rw [q5, q3]; show s.p.full = false; rw [h.p]; rfl
    have f2 : ((s.e5 (evG i a)).sig (evG i a) (s.eo (evG i a)) (s.el (evG i a))).lossy = false := ql
    have f3 : ((s.e5 (evG i a)).sig (evG i a) (s.eo (evG i a)) (s.el (evG i a))).stale = false := by
      rw [q5, q3]; show ((s.f.to i).some && _) = false; unfold FS.some; rw [qf]; rfl
    generalize (s.e5 (evG i a)).sig (evG i a) (s.eo (evG i a)) (s.el (evG i a)) = g at *
    unfold nextS
    simp [f1, f2, f3, rightI]
  have q6 : s.e6 (evG i a) = s.e3 (evG i a) := by
    unfold ES.e6 ES.turn
    have hs : (s.e5 (evG i a)).st = 0 := by rw [q5, q3]; exact h.st
    rw [hs, qn, if_pos rfl, q5]
  have q7 : s.e7 (evG i a) = s.e3 (evG i a) := by
    unfold ES.e7
    rw [if_neg, q6]
    intro q
    rw [q6, q3] at q
    have := q.1
    have h2 : s.st = 5 := this
    rw [h.st] at h2
    exact absurd h2 (by decide)
  have hc := h.cl
  rw [h.c] at hc
  have hle := leastC_eq hr
  have ho : (s.on (evG i a)).cwnd = min (s.cwnd + a) 72057594037927936 := by
    show (s.e7 (evG i a)).open a = _
    rw [q7, q3]
    unfold ES.open ES.o3 ES.o2 ES.o1
    have e1 : ¬ ({ s with acked := Pl.addS s.acked a, lost := Pl.addS s.lost 0, f := s.f.to i : ES }.st ≠ 0 ∨ { s with acked := Pl.addS s.acked a, lost := Pl.addS s.lost 0, f := s.f.to i : ES }.p.full = true) := by
      show ¬ (s.st ≠ 0 ∨ s.p.full = true)
      rw [h.st, h.p]; decide
    have e2 : ¬ ({ s with acked := Pl.addS s.acked a, lost := Pl.addS s.lost 0, f := s.f.to i : ES }.st = 2 ∨ { s with acked := Pl.addS s.acked a, lost := Pl.addS s.lost 0, f := s.f.to i : ES }.st = 3) := by
      show ¬ (s.st = 2 ∨ s.st = 3)
      rw [h.st]; decide
    have e3 : ¬ ({ s with acked := Pl.addS s.acked a, lost := Pl.addS s.lost 0, f := s.f.to i : ES }.st = 6) := by
      show ¬ (s.st = 6)
      rw [h.st]; decide
    rw [if_neg e1, if_neg e2, if_neg e3]
    show min (max (s.bs.cap [Pl.addS s.cwnd a]) (leastC s.c)) 72057594037927936 = _
    rw [h.bs, h.c, hle]
    show min (max (min (min 18446744073709551615 18446744073709551615) (Pl.addS s.cwnd a)) (4 * c 0)) 72057594037927936 = _
    unfold Pl.addS
    omega
  refine ⟨?_, ho⟩
  have hm := right_mss hr
  refine ⟨(ES.on_c s _).trans h.c, ?_, ?_, ?_, ?_, ?_, ?_, by rw [ho, ES.on_c, h.c]; omega⟩
  · show (s.e7 (evG i a)).st = 0; rw [q7, q3]; exact h.st
  · show (s.e7 (evG i a)).p = Pi.zero; rw [q7, q3]; exact h.p
  · show (s.e7 (evG i a)).bs = BS.none; rw [q7, q3]; exact h.bs
  · show (s.e7 (evG i a)).f.l = []; rw [q7, q3]; exact qf
  · show (s.e7 (evG i a)).y = ⟨0, 0, 0⟩; rw [q7, q3]; exact h.y
  · show (s.e7 (evG i a)).lost = 0; rw [q7, q3]; show Pl.addS s.lost 0 = 0; rw [h.lo]; rfl

def evA : EvS := ⟨50000, 15000, 50000, 300000, 50000, false, true, 15000, 15000, 0, 0⟩
theorem evA_ok : evA.ok := ⟨by decide, by decide, by decide, by decide, by decide, by decide, by decide, by decide, by decide⟩
theorem defC_le : ∀ i, defC i ≤ 18446744073709551615 := by decide
theorem defC_right : rightC defC = true := by decide
theorem alive_math : ((ES.new defC).on evA).st = 0 ∧ ((ES.new defC).on evA).cwnd = 30000 ∧ ((ES.new defC).on evA).rate = 300000 ∧ ((ES.new defC).on evA).trip = 50000 ∧ ((ES.new defC).on evA).pace = 831000 ∧ ((ES.new defC).on evA).quant = 3000 := by decide +kernel
end Go.Proofs.YtpkbjfhicocogaaGreatDoor

/- The document's engine in memory; what an engine's calls leave of it, and it of an engine. -/
set_option linter.unusedVariables false
namespace Go.Proofs.YtpkbjfhicocogaaGreatDoor
open Go.RowKit Cf

/-- Where the document's engine lies, and its cycle. -/
structure QP where
  m : Nat
  y : Nat
def rcells (Q : QP) (s : ES) (v : Value) : Array Value := #[.int .u64 (s.c 0 : Int), .int .u64 (s.c 1 : Int), .int .u64 (s.c 2 : Int), .int .u64 (s.c 3 : Int), .int .u64 (s.c 4 : Int), .int .u64 (s.c 5 : Int), .int .i64 s.st, .int .u64 (s.began : Int), .int .u64 (s.rounds : Int), .int .u64 (s.f.win : Int), .bool s.f.least, .int .u64 (s.f.t : Int), v, .pointer (some ⟨Q.y, 0, none⟩), .int .u64 (s.n.mark : Int), .int .u64 (s.n.n : Int), .int .u64 (s.p.best : Int), .int .i64 (s.p.n : Int), .int .u64 (s.bs.hi : Int), .int .u64 (s.bs.lo : Int), .int .u64 (s.bs.bw : Int), .int .u64 (s.acked : Int), .int .u64 (s.lost : Int), .int .u64 (s.cwnd : Int), .int .u64 (s.kept : Int), .int .u64 (s.ended : Int)]
def Eof (Q : QP) (s : ES) (v : Value) : Nat → Value := fun i => (rcells Q s v).getD i undef
theorem rc_fE (Q : QP) (s : ES) (v : Value) : rcells Q s v = fE (Eof Q s v) s.f.win s.f.least s.f.t v := rfl
theorem rc_ct (Q : QP) (s : ES) (v : Value) : rcells Q s v = s.n.ecells (Eof Q s v) := rfl
theorem rc_pi (Q : QP) (s : ES) (v : Value) : rcells Q s v = s.p.ecells (Eof Q s v) := rfl
def rtypes : List TypeId := [74, 153, 119, 135, 22]
/-- All blocks of other types are as they were. -/
def KQ (w w' : World) : Prop := ∀ T, T ∉ rtypes → ∀ b cs, Blk w b T cs → Blk w' b T cs
theorem KQ.refl (w : World) : KQ w w := fun _ _ _ _ h => h
theorem KQ.trans {a b c : World} (h : KQ a b) (k : KQ b c) : KQ a c := fun T hT x cs q => k T hT x cs (h T hT x cs q)
theorem KQ.below {w w' : World} (h : Below w.heap.size w w') : KQ w w' := fun _ _ _ _ q => q.keep h
theorem KQ.fr {w w' : World} {L : List Nat} (h : Fr w w' L) (hL : ∀ x ∈ L, ∃ T cs, T ∈ rtypes ∧ Blk w x T cs) : KQ w w' := fun T hT b cs q => q.fr h (fun hb => by
  obtain ⟨U, ds, hU, k⟩ := hL b hb
  exact hT ((show U = T from Classical.not_not.1 (fun hne => (k.ty q hne) rfl)) ▸ hU))
theorem KQ.set {w w0 : World} {b : Nat} {U : TypeId} {ds : Array Value} (k0 : KQ w0 w) (k : Blk w b U ds) (hU : U ∈ rtypes) (i : Nat) (u : Value) : KQ w0 (w.setCell ⟨b, i, none⟩ u) :=
  k0.trans (KQ.fr ((Fr.refl w [b]).set (by simp) i u) (fun x hx => by
    obtain rfl : x = b := by simpa using hx
    exact ⟨U, ds, hU, k⟩))

structure RefX (w : World) (B : Nat) (Q : QP) (s : ES) (k : Nat) (v : Value) (A : List Rd) (K : List (List Nat)) (cur : List Nat) (g cap : Nat) : Prop where
  head : Blk w Q.m 74 (rcells Q s v)
  row : RL w B v A
  inv : Inv s.f A
  ls : s.f.least = true
  an : A.length ≤ k
  cy : DcAt w B Q.y g cap (K ++ [cur])
  yo : s.y = cyOf K cur
  kn : K.length ≤ k
  rn : ∀ l ∈ K ++ [cur], l.length ≤ k
  own : B ≤ Q.m
/-- The document's engine in memory: all of it at B and behind it; so many events came. -/
structure RefAt (w : World) (B : Nat) (Q : QP) (s : ES) (k : Nat) : Prop where
  x : ∃ v A K cur g cap, RefX w B Q s k v A K cur g cap
theorem RefAt.keep {w w' : World} {B k : Nat} {Q : QP} {s : ES} (h : RefAt w B Q s k) (q : Below w.heap.size w w') : RefAt w' B Q s k := by
  obtain ⟨v, A, K, cur, g, cap, h⟩ := h.x
  exact ⟨v, A, K, cur, g, cap, h.head.keep q, h.row.keep q, h.inv, h.ls, h.an, h.cy.keep q, h.yo, h.kn, h.rn, h.own⟩
theorem RefAt.size {w : World} {B k : Nat} {Q : QP} {s : ES} (h : RefAt w B Q s k) : B ≤ w.heap.size := by
  obtain ⟨v, A, K, cur, g, cap, h⟩ := h.x
  exact Nat.le_trans h.own (Nat.le_of_lt h.head.lt)
theorem RefAt.more {w : World} {B k j : Nat} {Q : QP} {s : ES} (h : RefAt w B Q s k) (hj : k ≤ j) : RefAt w B Q s j := by
  obtain ⟨v, A, K, cur, g, cap, h⟩ := h.x
  exact ⟨v, A, K, cur, g, cap, h.head, h.row, h.inv, h.ls, Nat.le_trans h.an hj, h.cy, h.yo, Nat.le_trans h.kn hj, fun l hl => Nat.le_trans (h.rn l hl) hj, h.own⟩
theorem RefAt.cell {w : World} {B k : Nat} {Q : QP} {s : ES} (h : RefAt w B Q s k) {i : Nat} {u : Value} (hu : ∀ v, (rcells Q s v)[i]? = some u) : w.cell? ⟨Q.m, i, none⟩ = some u := by
  obtain ⟨v, A, K, cur, g, cap, h⟩ := h.x
  exact h.head.cell (hu v)
theorem RefAt.free {w : World} {B k : Nat} {Q : QP} {s : ES} (h : RefAt w B Q s k) (i : Nat) : w.frozen? ⟨Q.m, i, none⟩ = false := by
  obtain ⟨v, A, K, cur, g, cap, h⟩ := h.x
  exact h.head.free i
/-- What an engine's calls leave of the document's. -/
theorem RefAt.kt {w w' : World} {B k : Nat} {Q : QP} {s : ES} (h : RefAt w B Q s k) (q : KT w w') : RefAt w' B Q s k := by
  obtain ⟨v, A, K, cur, g, cap, h⟩ := h.x
  refine ⟨v, A, K, cur, g, cap, q _ (by decide) _ _ h.head, h.row.same (fun g cs _ hb => ?_), h.inv, h.ls, h.an, ?_, h.yo, h.kn, h.rn, h.own⟩
  · have := q _ (by decide) _ _ hb
    unfold Blk at this hb
    rw [this, hb]
  · obtain ⟨arr, h1, h2, h3, h4, h5⟩ := h.cy.body
    exact ⟨q _ (by decide) _ _ h.cy.head, h.cy.bm, h.cy.bg, arr, q _ (by decide) _ _ h1, h2, h3, h4, h5.keep (fun b cs hb => q _ (by decide) _ _ hb)⟩
/-- What the document's engine's calls leave of an engine. -/
theorem EngAt.kq {w w' : World} {B : Nat} {P : EP} {s : ES} (h : EngAt w B P s) (q : KQ w w') (b : Below B w w') : EngAt w' B P s := by
  obtain ⟨g, hg, hf⟩ := h.f
  obtain ⟨qs, h1, h2, h3⟩ := hf.row
  exact ⟨q _ (by decide) _ _ h.e, q _ (by decide) _ _ h.p, ⟨g, hg, q _ (by decide) _ _ hf.head, qs, h1, h2, q _ (by decide) _ _ h3.head, q _ (by decide) _ _ h3.body⟩, q _ (by decide) _ _ h.y, q _ (by decide) _ _ h.n, h.gl.below (B := B) b h.lo, h.lo, h.own⟩

/-- A store into the document's engine, but into its readings, and its cycle. -/
theorem RefAt.set {w : World} {B k : Nat} {Q : QP} {s s' : ES} (h : RefAt w B Q s k) (i : Nat) (u : Value) (he : ∀ v, (rcells Q s v).setIfInBounds i u = rcells Q s' v) (hf : s'.f = s.f) (hy : s'.y = s.y) :
    RefAt (w.setCell ⟨Q.m, i, none⟩ u) B Q s' k := by
  obtain ⟨v, A, K, cur, g, cap, h⟩ := h.x
  obtain ⟨arr, h1, h2, h3, h4, h5⟩ := h.cy.body
  exact ⟨v, A, K, cur, g, cap, he v ▸ h.head.set i u, h.row.set_other (h.row.ne h.head (by decide)), hf ▸ h.inv, hf ▸ h.ls, h.an,
    ⟨h.cy.head.set_other i u (h.cy.head.ty h.head (by decide)), h.cy.bm, h.cy.bg, arr, h1.set_other i u (h1.ty h.head (by decide)), h2, h3, h4, h5.keep (KeepT.set h.head (by decide) i u)⟩, hy ▸ h.yo, h.kn, h.rn, h.own⟩

/-- What holds while a call reads the document's engine. -/
structure RefI (W : World) (B : Nat) (Q : QP) (s : ES) (k : Nat) (w : World) : Prop where
  at_ : RefAt w B Q s k
  bel : Below W.heap.size W w
theorem RefI.to {W w w' : World} {B k : Nat} {Q : QP} {s : ES} (h : RefI W B Q s k w) (q : Below w.heap.size w w') : RefI W B Q s k w' := ⟨h.at_.keep q, bel_to h.bel q h.bel.size⟩
theorem RefI.drew {W w : World} {B k : Nat} {Q : QP} {s : ES} (h : RefI W B Q s k w) : RefI W B Q s k w.drew := h.to ((Drawn.drew w).below _)
theorem RefI.start {W : World} {B k : Nat} {Q : QP} {s : ES} (h : RefAt W B Q s k) : RefI W B Q s k W := ⟨h, Below.refl _ _⟩
theorem rk {W w w' : World} {B k : Nat} {Q : QP} {s : ES} (h : Hid (RefI W B Q s k w)) (q : Below w.heap.size w w') : Hid (RefI W B Q s k w') := Lib.hid (h.out.to q)
theorem rr {W : World} {B k : Nat} {Q : QP} {s : ES} {i : Nat} {u : Value} (hu : ∀ v, (rcells Q s v)[i]? = some u) : ∀ w, Hid (RefI W B Q s k w) → w.cell? ⟨Q.m, i, none⟩ = some u := fun w q => q.out.at_.cell hu

/-- What a call leaves that changes the document's engine. -/
structure RPost (B : Nat) (Q : QP) (v : Ending) (s' : ES) (k : Nat) (W : World) (e : Ending) (w : World) : Prop where
  e : e = v
  at_ : RefAt w B Q s' k
  bel : Below B W w
  kq : KQ W w
/-- What holds while the document's engine is changed by an event. -/
structure RMut (W : World) (B : Nat) (Q : QP) (s : ES) (k : Nat) (x : EvS) (w : World) : Prop where
  at_ : RefAt w B Q s k
  bel : Below B W w
  kq : KQ W w
  ev : Blk w W.heap.size 41 x.cells
theorem RMut.to {W w w' : World} {B k : Nat} {Q : QP} {s : ES} {x : EvS} (h : RMut W B Q s k x w) (q : Below w.heap.size w w') : RMut W B Q s k x w' :=
  ⟨h.at_.keep q, bel_to h.bel q h.at_.size, h.kq.trans (KQ.below q), h.ev.keep q⟩
theorem RMut.drew {W w : World} {B k : Nat} {Q : QP} {s : ES} {x : EvS} (h : RMut W B Q s k x w) : RMut W B Q s k x w.drew := h.to ((Drawn.drew w).below _)
theorem RMut.start {W : World} {B k : Nat} {Q : QP} {s : ES} (h : RefAt W B Q s k) (x : EvS) : RMut W B Q s k x (W.alloc (.cells x.cells 41)) :=
  ⟨h.keep ((Below.refl _ _).alloc (Nat.le_refl _) _), (Below.refl _ _).alloc h.size _, KQ.below ((Below.refl _ _).alloc (Nat.le_refl _) _), Blk.new W _ _⟩
theorem RMut.set {W w : World} {B k : Nat} {Q : QP} {s s' : ES} {x : EvS} (h : RMut W B Q s k x w) (i : Nat) (u : Value) (he : ∀ v, (rcells Q s v).setIfInBounds i u = rcells Q s' v) (hf : s'.f = s.f) (hy : s'.y = s.y) :
    RMut W B Q s' k x (w.setCell ⟨Q.m, i, none⟩ u) := by
  have a := h.at_.set i u he hf hy
  obtain ⟨v, A, K, cur, g, cap, q⟩ := h.at_.x
  exact ⟨a, h.bel.setCell (p := ⟨Q.m, i, none⟩) q.own u, h.kq.set q.head (by decide) i u, h.ev.set_other i u (h.ev.ty q.head (by decide))⟩
theorem RMut.step {W w w' : World} {B k j : Nat} {Q : QP} {s s' : ES} {x : EvS} {v e : Ending} (h : RMut W B Q s k x w) (q : RPost B Q v s' j w e w') : RMut W B Q s' j x w' :=
  ⟨q.at_, h.bel.trans q.bel, h.kq.trans q.kq, q.kq _ (by decide) _ _ h.ev⟩
theorem RMut.post {W w : World} {B k : Nat} {Q : QP} {s : ES} {x : EvS} {v : Ending} (h : RMut W B Q s k x w) : RPost B Q v s k W v w := ⟨rfl, h.at_, h.bel, h.kq⟩
theorem rm_ev {W : World} {B k : Nat} {Q : QP} {s : ES} {x : EvS} {i : Nat} {u : Value} (hu : x.cells[i]? = some u) : ∀ w, Hid (RMut W B Q s k x w) → w.cell? ⟨W.heap.size, i, none⟩ = some u := fun w q => q.out.ev.cell hu
theorem rm_e {W : World} {B k : Nat} {Q : QP} {s : ES} {x : EvS} {i : Nat} {u : Value} (hu : ∀ v, (rcells Q s v)[i]? = some u) : ∀ w, Hid (RMut W B Q s k x w) → w.cell? ⟨Q.m, i, none⟩ = some u := fun w q => q.out.at_.cell hu
theorem rm_f {W : World} {B k : Nat} {Q : QP} {s : ES} {x : EvS} (i : Nat) : ∀ w, Hid (RMut W B Q s k x w) → w.frozen? ⟨Q.m, i, none⟩ = false := fun w q => q.out.at_.free i
/-- The same, whatever the engine holds. -/
def RMX (W : World) (B : Nat) (Q : QP) (x : EvS) (w : World) : Prop := ∃ s k, RMut W B Q s k x w
theorem rx_of {W w : World} {B k : Nat} {Q : QP} {s : ES} {x : EvS} (h : Hid (RMut W B Q s k x w)) : Hid (RMX W B Q x w) := Lib.hid ⟨s, k, h.out⟩
theorem rx_k {W w w' : World} {B : Nat} {Q : QP} {x : EvS} (h : Hid (RMX W B Q x w)) (q : Below w.heap.size w w') : Hid (RMX W B Q x w') := by
  obtain ⟨s, k, h⟩ := h.out
  exact Lib.hid ⟨s, k, h.to q⟩
theorem rx_ev {W : World} {B : Nat} {Q : QP} {x : EvS} {i : Nat} {u : Value} (hu : x.cells[i]? = some u) : ∀ w, Hid (RMX W B Q x w) → w.cell? ⟨W.heap.size, i, none⟩ = some u := fun w q => by
  obtain ⟨s, k, h⟩ := q.out
  exact h.ev.cell hu
theorem rx_y {W : World} {B : Nat} {Q : QP} {x : EvS} : ∀ w, Hid (RMX W B Q x w) → w.cell? ⟨Q.m, 13, none⟩ = some (.pointer (some ⟨Q.y, 0, none⟩)) := fun w q => by
  obtain ⟨s, k, h⟩ := q.out
  exact h.at_.cell (fun _ => rfl)
end Go.Proofs.YtpkbjfhicocogaaGreatDoor

/- Small contracts of the documents, and what only reads the document's engine, over this translation. -/
set_option linter.unusedVariables false
namespace Go.Proofs.YtpkbjfhicocogaaGreatDoor
open Go.RowKit Cf

theorem rs_Sub (a b : Nat) (w : World) (ha : a ≤ 18446744073709551615) : Calls Tryz.prog 96 #[.int .u64 (a : Int), .int .u64 (b : Int)] w fun e w' => e = .returned (.int .u64 ((Pl.subS a b : Nat) : Int)) ∧ w = w' := by
  unfold Pl.subS
  by_cases c : a < b
  · have d : decide (a < b) = true := decide_eq_true c
    have e : a - b = 0 := by omega
    rw [e]
    clear c ha
    go_enter Tryz.func96, Tryz.ntmps96
    go_wp2
    go_ret
    exact ⟨rfl, rfl⟩
  · have d : decide (a < b) = false := decide_eq_false c
    have e : IntKind.u64.wrap ((a : Int) - (b : Int)) = ((a - b : Nat) : Int) := by rw [IntKind.wrap_u64]; omega
    clear c ha
    go_enter Tryz.func96, Tryz.ntmps96
    go_wp2
    go_ret
    exact ⟨rfl, rfl⟩
theorem rs_Clamp (a lo hi : Nat) (w : World) : Calls Tryz.prog 62 #[.int .u64 (a : Int), .int .u64 (lo : Int), .int .u64 (hi : Int)] w fun e w' => e = .returned (.int .u64 ((min (max a lo) hi : Nat) : Int)) ∧ w = w' := by
  have h1 : max (a : Int) (lo : Int) = ((max a lo : Nat) : Int) := by omega
  have h2 : min ((max a lo : Nat) : Int) (hi : Int) = ((min (max a lo) hi : Nat) : Int) := by omega
  generalize min (max a lo) hi = z at *
  generalize max a lo = m at *
  go_enter Tryz.func62, Tryz.ntmps62
  go_wp2
  go_ret
  exact ⟨rfl, rfl⟩
theorem rs_Flight (r t : Nat) (w : World) (hr : r ≤ 18446744073709551615) (ht : t ≤ 18446744073709551615) :
    Calls Tryz.prog 100 #[.int .u64 (r : Int), .int .u64 (t : Int)] w fun e w' => e = .returned (.int .u64 ((Pl.overS r t 1000000 : Nat) : Int)) ∧ w = w' := by
  have HO := Lib.hid (fun w => ref_Over r t 1000000 w hr ht (by omega))
  generalize Pl.overS r t 1000000 = q at *
  clear hr ht
  go_enter Tryz.func100, Tryz.ntmps100
  go_wp2_with fail
  refine (HO.out _).mono ?_
  rintro e w1 ⟨rfl, rfl⟩
  go_wp2_with fail
  go_ret
  exact ⟨rfl, rfl⟩
theorem rs_Quantum (c : Setup) (r : Nat) (w : World) (hc : c 0 ≤ 18446744073709551615) (hr : r ≤ 18446744073709551615) :
    Calls Tryz.prog 63 #[.agg (ccells c), .int .u64 (r : Int)] w fun e w' => e = .returned (.int .u64 ((quantumC (c 0) r : Nat) : Int)) ∧ Below w.heap.size w w' := by
  have H2 : Hid (∀ W, Calls Tryz.prog 98 #[.int .u64 2, .int .u64 (c 0 : Int)] W fun e w' => e = .returned (.int .u64 ((Pl.mulS 2 (c 0) : Nat) : Int)) ∧ w' = W) := Lib.hid fun W => (ref_Mul 2 (c 0) W (by decide) hc).mono fun _ _ h => ⟨h.1, h.2.symm⟩
  have H64 : Hid (∀ W, Calls Tryz.prog 98 #[.int .u64 64, .int .u64 (c 0 : Int)] W fun e w' => e = .returned (.int .u64 ((Pl.mulS 64 (c 0) : Nat) : Int)) ∧ w' = W) := Lib.hid fun W => (ref_Mul 64 (c 0) W (by decide) hc).mono fun _ _ h => ⟨h.1, h.2.symm⟩
  have HC : Hid (∀ W, Calls Tryz.prog 62 #[.int .u64 ((r / 1000 : Nat) : Int), .int .u64 ((Pl.mulS 2 (c 0) : Nat) : Int), .int .u64 ((Pl.mulS 64 (c 0) : Nat) : Int)] W fun e w' => e = .returned (.int .u64 ((quantumC (c 0) r : Nat) : Int)) ∧ w' = W) := Lib.hid fun W => (rs_Clamp (r / 1000) (Pl.mulS 2 (c 0)) (Pl.mulS 64 (c 0)) W).mono fun _ _ h => ⟨h.1, h.2.symm⟩
  have hd : IntKind.u64.wrap ((r : Int) / 1000) = ((r / 1000 : Nat) : Int) := by rw [IntKind.wrap_u64]; omega
  have N0 := Lib.hid (Blk.new w 24 (ccells c))
  have c0 := N0.out.cell (i := 0) (v := .int .u64 (c 0 : Int)) rfl
  have B0 := Lib.hid (al_be w (.cells (ccells c) 24))
  clear hc hr
  generalize quantumC (c 0) r = q at *
  generalize Pl.mulS 2 (c 0) = m2 at *
  generalize Pl.mulS 64 (c 0) = m64 at *
  generalize r / 1000 = r1 at *
  have HX : Hid (ccells c = #[.int .u64 (c 0 : Int), .int .u64 (c 1 : Int), .int .u64 (c 2 : Int), .int .u64 (c 3 : Int), .int .u64 (c 4 : Int), .int .u64 (c 5 : Int)]) := Lib.hid rfl
  rw [HX.out] at N0 c0 B0 ⊢
  go_enter Tryz.func63, Tryz.ntmps63
  go_wp2_with fail
  generalize w.alloc (.cells #[.int .u64 (c 0 : Int), .int .u64 (c 1 : Int), .int .u64 (c 2 : Int), .int .u64 (c 3 : Int), .int .u64 (c 4 : Int), .int .u64 (c 5 : Int)] 24) = w0 at *
  go_quiet (first | (go_at_call 98; with_reducible exact Calls.quiet_of_same (H2.out _)) | (go_at_call 98; with_reducible exact Calls.quiet_of_same (H64.out _)) | (go_at_call 62; with_reducible exact Calls.quiet_of_same (HC.out _)))
  go_wp2_with fail
  go_ret
  exact ⟨rfl, B0.out.trans (Drawn.below ⟨nq, rfl⟩ _)⟩

theorem rz_trip {B k j : Nat} {Q : QP} {s : ES} (w : World) (h : RefAt w B Q s k) (ho : s.ok j) (hk : k ≤ 900) :
    Calls Tryz.prog 64 #[.pointer (some ⟨Q.m, 9, none⟩)] w fun e w' => e = .returned (bestV s.f) ∧ Below w.heap.size w w' := by
  obtain ⟨v, A, K, cur, g, cap, h⟩ := h.x
  exact me_Best_least (E := Eof Q s v) B Q.m v s.f A w ⟨rc_fE Q s v ▸ h.head, h.row⟩ h.inv ho.f (Nat.le_trans h.an (by omega)) h.ls
theorem rz_cycle {B k : Nat} {Q : QP} {s : ES} (w : World) (h : RefAt w B Q s k) (hk : k ≤ 900) :
    Calls Tryz.prog 65 #[.pointer (some ⟨Q.y, 0, none⟩)] w fun e w' => e = .returned (.int .u64 (s.y.best : Int)) ∧ w = w' := by
  obtain ⟨v, A, K, cur, g, cap, h⟩ := h.x
  have := dc_Best B Q.y g cap (K ++ [cur]) w h.cy (by have := h.kn; simp; omega) (fun l hl => Nat.le_trans (h.rn l hl) (by omega)) (by simp)
  rw [← cyOf_best, ← h.yo] at this
  exact this

theorem rz_Least {B k j : Nat} {Q : QP} {s : ES} (w : World) (h : RefAt w B Q s k) (ho : s.ok j) (hk : k ≤ 900) :
    Calls Tryz.prog 29 #[.pointer (some ⟨Q.m, 0, none⟩)] w fun e w' => e = .returned (.int .u64 (s.trip : Int)) ∧ Below w.heap.size w w' := by
  have HB := Lib.hid (rz_trip w h ho hk)
  unfold ES.trip
  unfold bestV at HB
  clear h ho
  generalize s.f.best = x at *
  generalize s.f.some = q at *
  cases q with
  | true =>
    go_enter Tryz.func29, Tryz.ntmps29
    go_wp2_with fail
    refine (HB.out).mono ?_
    rintro e w1 ⟨rfl, h1⟩
    go_wp2_with fail
    go_ret
    exact ⟨rfl, h1⟩
  | false =>
    go_enter Tryz.func29, Tryz.ntmps29
    go_wp2_with fail
    refine (HB.out).mono ?_
    rintro e w1 ⟨rfl, h1⟩
    go_wp2_with fail
    go_ret
    exact ⟨rfl, h1⟩

set_option maxHeartbeats 1000000 in
theorem rz_Best {B k j : Nat} {Q : QP} {s : ES} (W : World) (h : RefAt W B Q s k) (ho : s.ok j) (hk : k ≤ 900) (hr : rightC s.c = true) :
    Calls Tryz.prog 30 #[.pointer (some ⟨Q.m, 0, none⟩)] W fun e w' => e = .returned (.int .u64 (s.rate : Int)) ∧ Below W.heap.size W w' := by
  have HY := Lib.hid (rz_cycle W h hk)
  have HL := Lib.hid (fun w h => rz_Least (B := B) (k := k) (Q := Q) (s := s) w h ho hk)
  have hfc := firstC_eq hr
  have HS : Hid (∀ w, Calls Tryz.prog 66 #[.int .u64 (firstC s.c : Int), .int .u64 1000000, .int .u64 (s.trip : Int)] w fun e w' => e = .returned (.int .u64 ((Pl.shareS (firstC s.c) 1000000 s.trip : Nat) : Int)) ∧ w = w') := Lib.hid (fun w => ref_Share (firstC s.c) 1000000 s.trip w (firstC_le _) (by omega) (ES.trip_le ho))
  have hm : IntKind.u64.wrap ((s.c 1 : Int) * (s.c 0 : Int)) = (firstC s.c : Int) := by rw [IntKind.wrap_u64, hfc.1, ← Int.natCast_mul]; omega
  have I0 := Lib.hid (RefI.start h)
  have c13 := h.cell (i := 13) (u := .pointer (some ⟨Q.y, 0, none⟩)) (fun _ => rfl)
  have q0 := rr (W := W) (B := B) (k := k) (Q := Q) (s := s) (i := 0) (u := .int .u64 (s.c 0 : Int)) (fun _ => rfl)
  have q1 := rr (W := W) (B := B) (k := k) (Q := Q) (s := s) (i := 1) (u := .int .u64 (s.c 1 : Int)) (fun _ => rfl)
  unfold ES.rate
  clear h ho hr hfc
  generalize Pl.shareS (firstC s.c) 1000000 s.trip = q at *
  generalize firstC s.c = f at *
  generalize s.trip = tr at *
  by_cases hy : s.y.best = 0
  · rw [if_pos hy]
    rw [hy] at HY
    clear hy
    go_enter Tryz.func30, Tryz.ntmps30
    go_wp2_with fail
    refine (HY.out).mono ?_
    rintro e w1 ⟨rfl, rfl⟩
    go_wp2_with fail
    have I1 := Lib.hid I0.out.drew
    go_region_held3 (fun w' => Hid (RefI W B Q s k w'))
      (first | with_reducible exact I1 | with_reducible exact rk (by assumption) hb | with_reducible assumption)
      (first
        | (go_at_call 29; (with_reducible refine (HL.out _ (Hid.out (by assumption) : RefI W B Q s k _).at_).mono ?_); rintro e w' ⟨rfl, hb⟩)
        | (go_at_call 66; (with_reducible refine (HS.out _).mono ?_); rintro e w' ⟨rfl, rfl⟩))
    have hq := (Hid.out (by assumption) : RefI W B Q s k _).bel
    go_wp2
    go_ret
    exact ⟨rfl, hq⟩
  · rw [if_neg hy]
    have d0 : decide ((0 : Int) < (s.y.best : Int)) = true := decide_eq_true (by omega)
    have d1 : decide (0 < s.y.best) = true := decide_eq_true (by omega)
    generalize s.y.best = x at *
    clear hy
    go_enter Tryz.func30, Tryz.ntmps30
    go_wp2_with fail
    refine (HY.out).mono ?_
    rintro e w1 ⟨rfl, rfl⟩
    go_wp2_with fail
    go_ret
    exact ⟨rfl, I0.out.bel⟩

theorem rz_holds {B k j : Nat} {Q : QP} {s : ES} (W : World) (h : RefAt W B Q s k) (ho : s.ok j) (hk : k ≤ 900) (hr : rightC s.c = true) :
    Calls Tryz.prog 46 #[.pointer (some ⟨Q.m, 0, none⟩)] W fun e w' => e = .returned (.int .u64 (s.holds : Int)) ∧ Below W.heap.size W w' := by
  have HB := Lib.hid (fun w h => rz_Best (B := B) (k := k) (Q := Q) (s := s) w h ho hk hr)
  have HL := Lib.hid (fun w h => rz_Least (B := B) (k := k) (Q := Q) (s := s) w h ho hk)
  have HF := Lib.hid (fun w => rs_Flight s.rate s.trip w (ES.rate_le ho) (ES.trip_le ho))
  have I0 := Lib.hid (RefI.start h)
  unfold ES.holds
  clear h ho hr
  generalize Pl.overS s.rate s.trip 1000000 = q at *
  generalize s.rate = ra at *
  generalize s.trip = tr at *
  go_enter Tryz.func46, Tryz.ntmps46
  go_wp2_with fail
  refine (HB.out _ I0.out.at_).mono ?_
  rintro e w1 ⟨rfl, h1⟩
  have I1 := Lib.hid (I0.out.to h1)
  clear h1 I0 HB
  go_wp2_with fail
  refine (HL.out _ I1.out.at_).mono ?_
  rintro e w2 ⟨rfl, h1⟩
  have I2 := Lib.hid (I1.out.to h1)
  clear h1 I1 HL
  go_wp2_with fail
  refine (HF.out _).mono ?_
  rintro e w3 ⟨rfl, rfl⟩
  go_wp2_with fail
  go_ret
  exact ⟨rfl, I2.out.bel⟩

set_option maxHeartbeats 1000000 in
theorem rz_uses {B k j : Nat} {Q : QP} {s : ES} (W : World) (h : RefAt W B Q s k) (ho : s.ok j) (hk : k ≤ 900) (hr : rightC s.c = true) :
    Calls Tryz.prog 107 #[.pointer (some ⟨Q.m, 0, none⟩)] W fun e w' => e = .returned (.int .u64 (s.uses : Int)) ∧ Below W.heap.size W w' := by
  have HB := Lib.hid (fun w h => rz_Best (B := B) (k := k) (Q := Q) (s := s) w h ho hk hr)
  have HL := Lib.hid (fun w h => rz_Least (B := B) (k := k) (Q := Q) (s := s) w h ho hk)
  have HF := Lib.hid (fun w => rs_Flight (s.bs.limit s.rate) s.trip w (ES.limit_le ho) (ES.trip_le ho))
  have hm : min (s.rate : Int) (s.bs.bw : Int) = ((s.bs.limit s.rate : Nat) : Int) := by unfold BS.limit; omega
  have I1 := Lib.hid (RefI.start h).drew
  have q20 := rr (W := W) (B := B) (k := k) (Q := Q) (s := s) (i := 20) (u := .int .u64 (s.bs.bw : Int)) (fun _ => rfl)
  unfold ES.uses
  clear h ho hr
  generalize Pl.overS (s.bs.limit s.rate) s.trip 1000000 = q at *
  generalize s.bs.limit s.rate = li at *
  generalize s.rate = ra at *
  generalize s.trip = tr at *
  go_enter Tryz.func107, Tryz.ntmps107
  go_wp2_with fail
  go_region_held3 (fun w' => Hid (RefI W B Q s k w'))
    (first | with_reducible exact I1 | with_reducible exact rk (by assumption) hb | with_reducible assumption)
    (first
      | (go_at_call 30; (with_reducible refine (HB.out _ (Hid.out (by assumption) : RefI W B Q s k _).at_).mono ?_); rintro e w' ⟨rfl, hb⟩)
      | (go_at_call 29; (with_reducible refine (HL.out _ (Hid.out (by assumption) : RefI W B Q s k _).at_).mono ?_); rintro e w' ⟨rfl, hb⟩)
      | (go_at_call 100; (with_reducible refine (HF.out _).mono ?_); rintro e w' ⟨rfl, rfl⟩))
  all_goals
    have hq := (Hid.out (by assumption) : RefI W B Q s k _).bel
    go_wp2
    go_ret
    exact ⟨rfl, hq⟩

set_option maxHeartbeats 1000000 in
theorem rz_Pace {B k j : Nat} {Q : QP} {s : ES} (W : World) (h : RefAt W B Q s k) (ho : s.ok j) (hk : k ≤ 900) (hr : rightC s.c = true) :
    Calls Tryz.prog 27 #[.pointer (some ⟨Q.m, 0, none⟩)] W fun e w' => e = .returned (.int .u64 (s.pace : Int)) ∧ Below W.heap.size W w' := by
  have HB := Lib.hid (fun w h => rz_Best (B := B) (k := k) (Q := Q) (s := s) w h ho hk hr)
  have HL := Lib.hid (fun w h => rz_Least (B := B) (k := k) (Q := Q) (s := s) w h ho hk)
  have HG := Lib.hid (fun w => rg_Pace s.st (s.bs.limit s.rate) (ES.limit_le ho) w)
  have hle := leastC_eq hr
  have HC : Hid (∀ w, Calls Tryz.prog 62 #[.int .u64 ((paceG (stG s.st) (s.bs.limit s.rate) : Nat) : Int), .int .u64 (leastC s.c : Int), .int .u64 1099511627776] w fun e w' => e = .returned (.int .u64 (s.pace : Int)) ∧ w = w') := Lib.hid (fun w => rs_Clamp (paceG (stG s.st) (s.bs.limit s.rate)) (leastC s.c) 1099511627776 w)
  have hm : min (s.rate : Int) (s.bs.bw : Int) = ((s.bs.limit s.rate : Nat) : Int) := by unfold BS.limit; omega
  have hr' := right_mss hr
  have hmul : IntKind.u64.wrap (4 * (s.c 0 : Int)) = (leastC s.c : Int) := by rw [IntKind.wrap_u64, hle]; omega
  have I1 := Lib.hid (RefI.start h).drew
  have q6 := rr (W := W) (B := B) (k := k) (Q := Q) (s := s) (i := 6) (u := .int .i64 s.st) (fun _ => rfl)
  have q20 := rr (W := W) (B := B) (k := k) (Q := Q) (s := s) (i := 20) (u := .int .u64 (s.bs.bw : Int)) (fun _ => rfl)
  have q0 := rr (W := W) (B := B) (k := k) (Q := Q) (s := s) (i := 0) (u := .int .u64 (s.c 0 : Int)) (fun _ => rfl)
  clear h ho hr hle hr'
  generalize paceG (stG s.st) (s.bs.limit s.rate) = pa at *
  generalize s.bs.limit s.rate = li at *
  generalize s.rate = ra at *
  generalize leastC s.c = le at *
  generalize s.pace = q at *
  go_enter Tryz.func27, Tryz.ntmps27
  go_wp2_with fail
  go_region_held3 (fun w' => Hid (RefI W B Q s k w'))
    (first | with_reducible exact I1 | with_reducible exact rk (by assumption) hb | with_reducible assumption)
    (first
      | (go_at_call 30; (with_reducible refine (HB.out _ (Hid.out (by assumption) : RefI W B Q s k _).at_).mono ?_); rintro e w' ⟨rfl, hb⟩)
      | (go_at_call 61; (with_reducible refine (HG.out _).mono ?_); rintro e w' ⟨rfl, hb⟩))
  have I2 : Hid (RefI W B Q s k w') := by assumption
  go_wp2_with fail
  refine (HC.out _).mono ?_
  rintro e w3 ⟨rfl, rfl⟩
  go_wp2_with fail
  go_ret
  exact ⟨rfl, I2.out.bel⟩

set_option maxHeartbeats 1000000 in
theorem rz_Quantum {B k j : Nat} {Q : QP} {s : ES} (W : World) (h : RefAt W B Q s k) (ho : s.ok j) (hk : k ≤ 900) (hr : rightC s.c = true) :
    Calls Tryz.prog 28 #[.pointer (some ⟨Q.m, 0, none⟩)] W fun e w' => e = .returned (.int .u64 (s.quant : Int)) ∧ Below W.heap.size W w' := by
  have HP := Lib.hid (fun w h => rz_Pace (B := B) (k := k) (Q := Q) (s := s) w h ho hk hr)
  have HQ := Lib.hid (fun w => rs_Quantum s.c s.pace w (ho.c 0) (Nat.le_trans (ES.pace_le s) (by omega)))
  have I1 := Lib.hid (RefI.start h).drew
  have q0 := rr (W := W) (B := B) (k := k) (Q := Q) (s := s) (i := 0) (u := .int .u64 (s.c 0 : Int)) (fun _ => rfl)
  have q1 := rr (W := W) (B := B) (k := k) (Q := Q) (s := s) (i := 1) (u := .int .u64 (s.c 1 : Int)) (fun _ => rfl)
  have q2 := rr (W := W) (B := B) (k := k) (Q := Q) (s := s) (i := 2) (u := .int .u64 (s.c 2 : Int)) (fun _ => rfl)
  have q3 := rr (W := W) (B := B) (k := k) (Q := Q) (s := s) (i := 3) (u := .int .u64 (s.c 3 : Int)) (fun _ => rfl)
  have q4 := rr (W := W) (B := B) (k := k) (Q := Q) (s := s) (i := 4) (u := .int .u64 (s.c 4 : Int)) (fun _ => rfl)
  have q5 := rr (W := W) (B := B) (k := k) (Q := Q) (s := s) (i := 5) (u := .int .u64 (s.c 5 : Int)) (fun _ => rfl)
  unfold ES.quant
  clear h ho hr
  generalize quantumC (s.c 0) s.pace = q at *
  generalize s.pace = pa at *
  simp only [ccells] at HQ
  go_enter Tryz.func28, Tryz.ntmps28
  go_wp2_with fail
  go_region_held3 (fun w' => Hid (RefI W B Q s k w'))
    (first | with_reducible exact I1 | with_reducible exact rk (by assumption) hb | with_reducible assumption)
    (first
      | (go_at_call 27; (with_reducible refine (HP.out _ (Hid.out (by assumption) : RefI W B Q s k _).at_).mono ?_); rintro e w' ⟨rfl, hb⟩)
      | (go_at_call 63; (with_reducible refine (HQ.out _).mono ?_); rintro e w' ⟨rfl, hb⟩))
  have hq := (Hid.out (by assumption) : RefI W B Q s k w').bel
  go_wp2
  go_ret
  exact ⟨rfl, hq⟩

set_option maxHeartbeats 1000000 in
theorem rz_stale (now : Nat) (hn : now ≤ 18446744073709551615) {B k j : Nat} {Q : QP} {s : ES} (W : World) (h : RefAt W B Q s k) (ho : s.ok j) (hk : k ≤ 900) (hr : rightC s.c = true) :
    Calls Tryz.prog 102 #[.pointer (some ⟨Q.m, 0, none⟩), .int .u64 (now : Int)] W fun e w' => e = .returned (.bool (s.stale now)) ∧ Below W.heap.size W w' := by
  have HB := Lib.hid (rz_trip W h ho hk)
  have bt := FS.best_t ho.f
  have be := ho.ended
  have bc := ho.c 3
  have HS := Lib.hid (fun w => rs_Sub now (max s.f.best.t s.ended) w hn)
  have I0 := Lib.hid (RefI.start h)
  have hm : max (s.f.best.t : Int) (s.ended : Int) = ((max s.f.best.t s.ended : Nat) : Int) := by omega
  have hq : IntKind.u64.wrap ((s.c 3 : Int) / 2) = ((s.c 3 / 2 : Nat) : Int) := by rw [IntKind.wrap_u64]; omega
  have q25 := rr (W := W) (B := B) (k := k) (Q := Q) (s := s) (i := 25) (u := .int .u64 (s.ended : Int)) (fun _ => rfl)
  have q3 := rr (W := W) (B := B) (k := k) (Q := Q) (s := s) (i := 3) (u := .int .u64 (s.c 3 : Int)) (fun _ => rfl)
  unfold ES.stale
  unfold bestV at HB
  clear h ho bt be bc hn hr
  generalize Pl.subS now (max s.f.best.t s.ended) = q at *
  generalize max s.f.best.t s.ended = m at *
  generalize s.f.best = x at *
  generalize s.f.some = o at *
  cases o with
  | false =>
    go_enter Tryz.func102, Tryz.ntmps102
    go_wp2_with fail
    refine (HB.out).mono ?_
    rintro e w1 ⟨rfl, h1⟩
    have I1 := Lib.hid (I0.out.to h1)
    clear h1 I0 HB
    go_wp2_with fail
    go_region
    go_wp2
    go_ret
    exact ⟨rfl, I1.out.drew.bel⟩
  | true =>
    have hd : decide (s.c 3 / 2 < q) = decide (s.c 3 / 2 < q) := rfl
    have hd2 : decide ((s.c 3 : Int) / 2 < (q : Int)) = decide (s.c 3 / 2 < q) := decide_eq_decide.2 (by omega)
    go_enter Tryz.func102, Tryz.ntmps102
    go_wp2_with fail
    refine (HB.out).mono ?_
    rintro e w1 ⟨rfl, h1⟩
    have I1 := Lib.hid (I0.out.to h1).drew
    clear h1 I0 HB hd
    go_wp2_with fail
    go_region_held3 (fun w' => Hid (RefI W B Q s k w'))
      (first | with_reducible exact I1 | with_reducible exact rk (by assumption) hb | with_reducible assumption)
      (first
        | (go_at_call 96; (with_reducible refine (HS.out _).mono ?_); rintro e w' ⟨rfl, rfl⟩))
    have HD := Lib.hid hd2
    clear hd2 hq hm
    have hz := (Hid.out (by assumption) : RefI W B Q s k _).bel
    go_wp2
    go_ret
    exact ⟨by first | rfl | (rw [HD.out]; rfl) | simp [HD.out], hz⟩
end Go.Proofs.YtpkbjfhicocogaaGreatDoor

/- The document's engine over this translation: what its filter's, cycle's, counter's, and pipe's calls leave of it. -/
set_option linter.unusedVariables false
namespace Go.Proofs.YtpkbjfhicocogaaGreatDoor
open Go.RowKit Cf

theorem FS.put_now (f : FS) (t x : Nat) : (f.put t x).t = nowOf f.t t := by unfold FS.put nowOf; split <;> rfl
theorem FS.to_now (f : FS) (t : Nat) : (f.to t).t = nowOf f.t t := by unfold FS.to nowOf; split <;> rfl
theorem inv_put {f : FS} {A : List Rd} (h : Inv f A) (t x : Nat) (ht : t ≤ 18446744073709551615) : Inv (f.put t x) (putAll A f.t t x) := by
  unfold putAll
  by_cases c : t < f.t
  · rw [if_pos c, FS.put, if_pos c]; exact h
  · rw [if_neg c]; exact h.put t x ht c
theorem rc_put {n : Nat} (Q : QP) (s : ES) (v v' : Value) (f : FS) (hw : f.win = s.f.win) (hl : f.least = s.f.least) (ht : f.t = n) : fE (Eof Q s v) s.f.win s.f.least n v' = rcells Q { s with f := f } v' := by
  rw [← hw, ← hl, ← ht]; rfl

theorem rz_To {B k : Nat} {Q : QP} {s : ES} (t : Nat) (w : World) (h : RefAt w B Q s k) :
    Calls Tryz.prog 93 #[.pointer (some ⟨Q.m, 9, none⟩), .int .u64 (t : Int)] w (RPost B Q (.returned (.int .i64 (if t < s.f.t then 2 else 0))) { s with f := s.f.to t } k w) := by
  obtain ⟨v, A, K, cur, g, cap, h⟩ := h.x
  have hB : B ≤ w.heap.size := Nat.le_trans h.own (Nat.le_of_lt h.head.lt)
  obtain ⟨arr, c1, c2, c3, c4, c5⟩ := h.cy.body
  refine (me_To (E := Eof Q s v) B Q.m s.f.win s.f.t t s.f.least v A w ⟨rc_fE Q s v ▸ h.head, h.row⟩).mono ?_
  rintro e w' ⟨rfl, hm, hf⟩
  have kt : KeepT 22 w w' := fun b cs hb => hb.fr hf (by simpa using hb.ty h.head (by decide))
  refine ⟨rfl, ⟨v, A, K, cur, g, cap, ?_, hm.row, h.inv.to t, (FS.to_least _ _).trans h.ls, h.an, ⟨h.cy.head.fr hf (by simpa using h.cy.head.ty h.head (by decide)), h.cy.bm, h.cy.bg, arr, c1.fr hf (by simpa using c1.ty h.head (by decide)), c2, c3, c4, c5.keep kt⟩, h.yo, h.kn, h.rn, h.own⟩, bel_fr (Below.refl _ _) hf hB (by simpa using h.own), KQ.fr hf (fun x hx => ?_)⟩
  · exact rc_put Q s v v (s.f.to t) (FS.to_win _ _) (FS.to_least _ _) (FS.to_now _ _) ▸ hm.head
  · obtain rfl : x = Q.m := by simpa using hx
    exact ⟨_, _, by decide, h.head⟩

theorem rz_FPut {B k : Nat} {Q : QP} {s : ES} (t y : Nat) (w : World) (h : RefAt w B Q s k) (hk : k ≤ 900) (ht : t ≤ 18446744073709551615) :
    Calls Tryz.prog 94 #[.pointer (some ⟨Q.m, 9, none⟩), .int .u64 (t : Int), .int .u64 (y : Int)] w (RPost B Q (.returned (.int .i64 (if t < s.f.t then 2 else 0))) { s with f := s.f.put t y } (k + 1) w) := by
  obtain ⟨v, A, K, cur, g, cap, h⟩ := h.x
  have hB : B ≤ w.heap.size := Nat.le_trans h.own (Nat.le_of_lt h.head.lt)
  obtain ⟨arr, c1, c2, c3, c4, c5⟩ := h.cy.body
  have hv : ∀ x, v.ownBlock = some x → ∃ cs, Blk w x 153 cs ∧ B ≤ x := by
    intro x hx
    rcases h.row.2 with ⟨rfl, _⟩ | ⟨g', cap', rfl, _⟩
    · simp [Value.ownBlock] at hx
    · simp [Value.ownBlock] at hx
      subst hx
      obtain ⟨cs, hb, hBg⟩ := RL.blk h.row
      exact ⟨cs, hb, hBg⟩
  have far : ∀ b T cs, Blk w b T cs → T ≠ 74 → T ≠ 153 → b ∉ mblocks Q.m v := by
    intro b T cs hb h1 h2 hm
    rcases List.mem_cons.1 hm with rfl | hm
    · exact hb.ty h.head h1 rfl
    · obtain ⟨ds, hd, _⟩ := hv b (by simpa using hm)
      exact hb.ty hd h2 rfl
  refine (me_Put (E := Eof Q s v) B Q.m s.f.win s.f.t t y s.f.least v A w ⟨rc_fE Q s v ▸ h.head, h.row⟩ hB (Nat.le_trans h.an (by omega))).mono ?_
  rintro e w' ⟨rfl, ⟨v', hm⟩, hf⟩
  have kt : KeepT 22 w w' := fun b cs hb => hb.fr hf (far b _ cs hb (by decide) (by decide))
  refine ⟨rfl, ⟨v', putAll A s.f.t t y, K, cur, g, cap, ?_, hm.row, inv_put h.inv t y ht, (FS.put_least _ _ _).trans h.ls, ?_, ⟨h.cy.head.fr hf (far _ _ _ h.cy.head (by decide) (by decide)), h.cy.bm, h.cy.bg, arr, c1.fr hf (far _ _ _ c1 (by decide) (by decide)), c2, c3, c4, c5.keep kt⟩, h.yo, Nat.le_succ_of_le h.kn, fun l hl => Nat.le_succ_of_le (h.rn l hl), h.own⟩, bel_fr (Below.refl _ _) hf hB ?_, KQ.fr hf (fun x hx => ?_)⟩
  · exact rc_put Q s v v' (s.f.put t y) (FS.put_win _ _ _) (FS.put_least _ _ _) (FS.put_now _ _ _) ▸ hm.head
  · have := h.an
    unfold putAll; split
    · omega
    · simp; omega
  · intro x hx
    rcases List.mem_cons.1 hx with rfl | hx
    · exact h.own
    · obtain ⟨ds, _, hd⟩ := hv x (by simpa using hx)
      exact hd
  · rcases List.mem_cons.1 hx with rfl | hx
    · exact ⟨_, _, by decide, h.head⟩
    · obtain ⟨ds, hd, _⟩ := hv x (by simpa using hx)
      exact ⟨_, _, by decide, hd⟩

theorem rz_CNext {B k : Nat} {Q : QP} {s : ES} (w : World) (h : RefAt w B Q s k) (hk : k ≤ 900) :
    Calls Tryz.prog 105 #[.pointer (some ⟨Q.y, 0, none⟩)] w (RPost B Q (.returned (.tuple #[])) { s with y := s.y.next } (k + 1) w) := by
  have hB := h.size
  obtain ⟨v, A, K, cur, g, cap, h⟩ := h.x
  obtain ⟨arr, c1, c2, c3, c4, c5⟩ := h.cy.body
  have hk1 := h.kn
  refine (dc_Next B Q.y g cap (K ++ [cur]) w h.cy (by simp; omega) hB).mono ?_
  rintro e w' ⟨rfl, ⟨g', cap', hd⟩, hf⟩
  have far : ∀ b T cs, Blk w b T cs → T ≠ 119 → T ≠ 135 → b ∉ [Q.y, g] := by
    intro b T cs hb h1 h2
    simpa using ⟨hb.ty h.cy.head h1, hb.ty c1 h2⟩
  refine ⟨rfl, ⟨v, A, K ++ [cur], [], g', cap', h.head.fr hf (far _ _ _ h.head (by decide) (by decide)), h.row.fr hf (fun x hx => ?_), h.inv, h.ls, Nat.le_succ_of_le h.an, hd, ?_, by simp; omega, fun l hl => ?_, h.own⟩, bel_fr (Below.refl _ _) hf hB ?_, KQ.fr hf (fun x hx => ?_)⟩
  · rcases h.row.2 with ⟨rfl, _⟩ | ⟨g', cap', rfl, _⟩
    · simp [Value.ownBlock] at hx
    · simp [Value.ownBlock] at hx
      subst hx
      obtain ⟨cs, hb, _⟩ := RL.blk h.row
      exact far _ _ _ hb (by decide) (by decide)
  · show s.y.next = _
    rw [h.yo]; exact cyOf_next K cur (by omega)
  · rcases List.mem_append.1 hl with hl | hl
    · exact Nat.le_succ_of_le (h.rn l hl)
    · rw [List.mem_singleton.1 hl]; exact Nat.zero_le _
  · intro x hx
    simp only [List.mem_cons, List.not_mem_nil, or_false] at hx
    rcases hx with rfl | rfl
    · exact h.cy.bm
    · exact h.cy.bg
  · simp only [List.mem_cons, List.not_mem_nil, or_false] at hx
    rcases hx with rfl | rfl
    · exact ⟨_, _, by decide, h.cy.head⟩
    · exact ⟨_, _, by decide, c1⟩

theorem rz_CPut {B k : Nat} {Q : QP} {s : ES} (y b : Nat) (w : World) (h : RefAt w B Q s k) (hk : k ≤ 900) (hc : w.cell? ⟨b, 0, none⟩ = some (.int .u64 (y : Int))) :
    Calls Tryz.prog 97 #[.pointer (some ⟨Q.y, 0, none⟩), .slice (some ⟨b, 0, none⟩) 1 1] w (RPost B Q (.returned (.tuple #[])) { s with y := s.y.put [y] } (k + 1) w) := by
  have hB := h.size
  obtain ⟨v, A, K, cur, g, cap, h⟩ := h.x
  obtain ⟨arr, c1, c2, c3, c4, c5⟩ := h.cy.body
  have hk1 := h.kn
  have hcu : cur.length ≤ k := h.rn cur (by simp)
  have HP := dc_Put B Q.y g cap 1 K cur (some ⟨b, 0, none⟩) [y] w h.cy (fun e => by cases e) (fun _ => ⟨b, 0, rfl, World.block_lt_of_cell? w _ hc, fun i hi => by
    match i, hi with
    | 0, _ => exact hc⟩) (by omega) (by omega) (by simp) hB
  refine HP.mono ?_
  rintro e w' ⟨rfl, hd, hf⟩
  have far : ∀ b T cs, Blk w b T cs → T ≠ 135 → b ∉ [g] := by
    intro b T cs hb h2
    simpa using hb.ty c1 h2
  refine ⟨rfl, ⟨v, A, K, cur ++ [y], g, cap, h.head.fr hf (far _ _ _ h.head (by decide)), h.row.fr hf (fun x hx => ?_), h.inv, h.ls, Nat.le_succ_of_le h.an, hd, ?_, by omega, fun l hl => ?_, h.own⟩, bel_fr (Below.refl _ _) hf hB (by simpa using h.cy.bg), KQ.fr hf (fun x hx => ?_)⟩
  · rcases h.row.2 with ⟨rfl, _⟩ | ⟨g', cap', rfl, _⟩
    · simp [Value.ownBlock] at hx
    · simp [Value.ownBlock] at hx
      subst hx
      obtain ⟨cs, hb, _⟩ := RL.blk h.row
      exact far _ _ _ hb (by decide)
  · show s.y.put [y] = _
    rw [h.yo]; exact cyOf_more K cur [y]
  · rcases List.mem_append.1 hl with hl | hl
    · exact Nat.le_succ_of_le (h.rn l (List.mem_append_left _ hl))
    · rw [List.mem_singleton.1 hl]; simp; omega
  · obtain rfl : x = g := by simpa using hx
    exact ⟨_, _, by decide, c1⟩

theorem rz_one {B k : Nat} {Q : QP} {s s' : ES} {w w' : World} (h : RefAt w B Q s k) (hf : s'.f = s.f) (hy : s'.y = s.y) (hb : ∀ v, Blk w Q.m 74 (rcells Q s v) → Blk w' Q.m 74 (rcells Q s' v)) (hg : w.grownBy w' (some Q.m)) :
    RefAt w' B Q s' k ∧ Below B w w' ∧ KQ w w' := by
  have hB := h.size
  obtain ⟨v, A, K, cur, g, cap, h⟩ := h.x
  obtain ⟨arr, c1, c2, c3, c4, c5⟩ := h.cy.body
  have k2 : Fr w w' [Q.m] := ⟨hg.os, hg.tape, hg.output, hg.size, fun k hk hl => hg.block k hk (by simpa using hl)⟩
  have kt : KeepT 22 w w' := fun b cs hb => hb.fr k2 (by simpa using hb.ty h.head (by decide))
  refine ⟨⟨v, A, K, cur, g, cap, hb v h.head, h.row.fr k2 (fun x hx => ?_), hf ▸ h.inv, hf ▸ h.ls, h.an, ⟨h.cy.head.fr k2 (by simpa using h.cy.head.ty h.head (by decide)), h.cy.bm, h.cy.bg, arr, c1.fr k2 (by simpa using c1.ty h.head (by decide)), c2, c3, c4, c5.keep kt⟩, hy ▸ h.yo, h.kn, h.rn, h.own⟩, bel_fr (Below.refl _ _) k2 hB (by simpa using h.own), KQ.fr k2 (fun x hx => ?_)⟩
  · rcases h.row.2 with ⟨rfl, _⟩ | ⟨g', cap', rfl, _⟩
    · simp [Value.ownBlock] at hx
    · simp [Value.ownBlock] at hx
      subst hx
      obtain ⟨cs, hb, _⟩ := RL.blk h.row
      simpa using hb.ty h.head (by decide)
  · obtain rfl : x = Q.m := by simpa using hx
    exact ⟨_, _, by decide, h.head⟩
theorem rz_Ack {B k : Nat} {Q : QP} {s : ES} (x d : Nat) (w : World) (h : RefAt w B Q s k) (hn : s.n.n < 18446744073709551615) :
    Calls Tryz.prog 95 #[.pointer (some ⟨Q.m, 14, none⟩), .int .u64 (x : Int), .int .u64 (d : Int)] w (RPost B Q (.returned (.bool (s.n.ackB x))) { s with n := s.n.ackS x d } k w) := by
  have h0 := h
  obtain ⟨v, A, K, cur, g, cap, h⟩ := h.x
  refine (rct_Ack (E := Eof Q s v) Q.m x d s.n w (rc_ct Q s v ▸ h.head) hn).mono ?_
  rintro e w' ⟨rfl, hb, hg⟩
  have hb' : ∀ v', Blk w Q.m 74 (rcells Q s v') → Blk w' Q.m 74 (rcells Q { s with n := s.n.ackS x d } v') := fun v' hv' => by
    have e1 : rcells Q s v' = rcells Q s v := by
      have := hv'.symm.trans h.head
      unfold Blk at hv'
      simp only [Option.some.injEq, Obj.cells.injEq, and_true] at this
      exact this
    have e2 : v' = v := by
      have := congrArg (fun a : Array Value => a[12]?) e1
      simpa [rcells] using this
    rw [e2]; exact hb
  obtain ⟨a, b, c⟩ := rz_one (s' := { s with n := s.n.ackS x d }) h0 rfl rfl hb' hg
  exact ⟨rfl, a, b, c⟩
theorem rz_PPut {B k : Nat} {Q : QP} {s : ES} (x : Nat) (r l : Bool) (w : World) (h : RefAt w B Q s k) (hs : s.p.ok) (hx : x ≤ 18446744073709551615) :
    Calls Tryz.prog 99 #[.pointer (some ⟨Q.m, 16, none⟩), .int .u64 (x : Int), .bool r, .bool l] w (RPost B Q (.returned (.tuple #[])) { s with p := s.p.put x r l } k w) := by
  have h0 := h
  obtain ⟨v, A, K, cur, g, cap, h⟩ := h.x
  refine (rpi_Put (E := Eof Q s v) Q.m x r l s.p w (rc_pi Q s v ▸ h.head) hs hx).mono ?_
  rintro e w' ⟨rfl, hb, hg⟩
  have hb' : ∀ v', Blk w Q.m 74 (rcells Q s v') → Blk w' Q.m 74 (rcells Q { s with p := s.p.put x r l } v') := fun v' hv' => by
    have e1 : rcells Q s v' = rcells Q s v := by
      have := hv'.symm.trans h.head
      simp only [Option.some.injEq, Obj.cells.injEq, and_true] at this
      exact this
    have e2 : v' = v := by
      have := congrArg (fun a : Array Value => a[12]?) e1
      simpa [rcells] using this
    rw [e2]; exact hb
  obtain ⟨a, b, c⟩ := rz_one (s' := { s with p := s.p.put x r l }) h0 rfl rfl hb' hg
  exact ⟨rfl, a, b, c⟩
end Go.Proofs.YtpkbjfhicocogaaGreatDoor
