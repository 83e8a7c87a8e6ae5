/- 1 texts put together: what each one says stands ahead of it. -/
import Derived.Test.YtpkbjfhicocogaaGreatDoorKPlays26
/- The document's engine over this translation: step 7. -/
set_option linter.unusedVariables false
namespace Go.Proofs.YtpkbjfhicocogaaGreatDoor
open Go.RowKit Cf

theorem rcap_any (bs : BS) (x b : Nat) (W : World) (h : W.cell? ⟨b, 0, none⟩ = some (.int .u64 (x : Int))) :
    Calls Tryz.prog 108 #[.agg bs.cells, .slice (some ⟨b, 0, none⟩) 1 1] W fun e w' => e = .returned (.int .u64 ((bs.cap [x] : Nat) : Int)) ∧ Below W.heap.size W w' :=
  rb_Cap bs (some ⟨b, 0, none⟩) 1 [x] W (by simp) (fun _ => ⟨b, 0, rfl, World.block_lt_of_cell? W _ h, row1 h⟩)
theorem nc1z (W : World) (b x : Nat) (T : TypeId) (hb : b = W.heap.size) : (W.alloc (.cells #[.int .u64 (x : Int)] T)).cell? ⟨b, 0, none⟩ = some (.int .u64 (x : Int)) := by subst hb; exact new_cell rfl rfl
theorem rmk {W w w' : World} {B k : Nat} {Q : QP} {s : ES} {x : EvS} (h : Hid (RMut W B Q s k x w)) (q : Below w.heap.size w w') : Hid (RMut W B Q s k x w') := Lib.hid (h.out.to q)

set_option maxHeartbeats 2000000 in
theorem rz_win0 {B k j : Nat} {Q : QP} {s : ES} (x : EvS) (hx : x.ok) (W : World) (h : RefAt W B Q s k) (ho : s.ok j) (hk : k ≤ 900) (hr : rightC s.c = true) (hs : s.st = 0) (hf : s.p.full = false)
    {a wi q ad le rm c2 z : Nat} (ha : a = Pl.addS s.cwnd x.ac) (hwi : wi = windowG (stG s.st) s.uses) (hq : q = s.quant) (had : ad = Pl.addS wi q) (hle : le = leastC s.c) (hrm : rm = s.bs.room) (hc2 : c2 = s.bs.cap [a]) (hz : z = min (max (c2) le) 72057594037927936) :
    Calls Tryz.prog 50 #[.pointer (some ⟨Q.m, 0, none⟩), x.val] W (RPost B Q (.returned (.tuple #[])) { s with cwnd := z } k W) := by
  have HA := Lib.hid (fun w => ref_Add s.cwnd x.ac w ho.cwnd hx.ac)
  have HU := Lib.hid (fun w h => rz_uses (B := B) (k := k) (Q := Q) (s := s) w h ho hk hr)
  have HW := Lib.hid (fun w => rg_Window s.st s.uses (ES.uses_le s) w)
  have HQ := Lib.hid (fun w h => rz_Quantum (B := B) (k := k) (Q := Q) (s := s) w h ho hk hr)
  have HD := Lib.hid (fun w => ref_Add wi q w (by rw [hwi]; exact windowG_le _ _) (by rw [hq]; exact ES.quant_le s))
  have HC := Lib.hid (fun b w h => rcap_any s.bs (a) b w h)
  have HR := Lib.hid (fun w => rb_Room s.bs w ho.bs)
  have HL : Hid (∀ w, Calls Tryz.prog 62 #[.int .u64 (((c2) : Nat) : Int), .int .u64 (le : Int), .int .u64 72057594037927936] w fun e w' => e = .returned (.int .u64 (z : Int)) ∧ w = w') := Lib.hid (fun w => hz ▸ rs_Clamp (c2) le 72057594037927936 w)
  have hmul : IntKind.u64.wrap (4 * (s.c 0 : Int)) = (le : Int) := by have := leastC_eq hr; have := right_mss hr; rw [IntKind.wrap_u64]; omega
  have hm1 : min (a : Int) (ad : Int) = ((min a ad : Nat) : Int) := by omega
  have hm2 : min (c2 : Int) (rm : Int) = ((min c2 rm : Nat) : Int) := by omega
  have hm3 : min (c2 : Int) (wi : Int) = ((min c2 wi : Nat) : Int) := by omega
  have hfu : decide ((3 : Int) ≤ (s.p.n : Int)) = s.p.full := by unfold Pi.full; exact decide_eq_decide.2 (by omega)
  have z0 : (s.st == 0) = true := beq_iff_eq.2 hs
  have z2 : (s.st == 2) = false := beq_eq_false_iff_ne.2 (by omega)
  have z3 : (s.st == 3) = false := beq_eq_false_iff_ne.2 (by omega)
  have z6 : (s.st == 6) = false := beq_eq_false_iff_ne.2 (by omega)
  have zn : (s.st != 0) = false := by simp [bne, z0]
  rw [hf] at hfu
  have M0 := Lib.hid (RMut.start h x)
  have q0 := rm_e (W := W) (B := B) (k := k) (Q := Q) (s := s) (x := x) (i := 0) (u := .int .u64 (s.c 0 : Int)) (fun _ => rfl)
  have q6 := rm_e (W := W) (B := B) (k := k) (Q := Q) (s := s) (x := x) (i := 6) (u := .int .i64 s.st) (fun _ => rfl)
  have q17 := rm_e (W := W) (B := B) (k := k) (Q := Q) (s := s) (x := x) (i := 17) (u := .int .i64 (s.p.n : Int)) (fun _ => rfl)
  have q18 := rm_e (W := W) (B := B) (k := k) (Q := Q) (s := s) (x := x) (i := 18) (u := .int .u64 (s.bs.hi : Int)) (fun _ => rfl)
  have q19 := rm_e (W := W) (B := B) (k := k) (Q := Q) (s := s) (x := x) (i := 19) (u := .int .u64 (s.bs.lo : Int)) (fun _ => rfl)
  have q20 := rm_e (W := W) (B := B) (k := k) (Q := Q) (s := s) (x := x) (i := 20) (u := .int .u64 (s.bs.bw : Int)) (fun _ => rfl)
  have q23 := rm_e (W := W) (B := B) (k := k) (Q := Q) (s := s) (x := x) (i := 23) (u := .int .u64 (s.cwnd : Int)) (fun _ => rfl)
  have v8 := rm_ev (W := W) (B := B) (k := k) (Q := Q) (s := s) (x := x) (i := 8) (u := .int .u64 (x.ac : Int)) rfl
  have f23 := rm_f (W := W) (B := B) (k := k) (Q := Q) (s := s) (x := x) 23
  rw [← ha] at HA
  rw [← hwi] at HW
  rw [← hq] at HQ
  rw [← had] at HD
  rw [← hc2] at HC
  rw [← hrm] at HR
  clear h ho hx ha hwi hq had hle hrm hc2 hz hr hs hf
  unfold EvS.val
  have HE : Hid (x.cells = #[.int .u64 (x.now : Int), .int .u64 (x.sd : Int), .int .u64 (x.si : Int), .int .u64 (x.sr : Int), .int .u64 (x.rt : Int), .bool x.sl, .bool x.sm, .int .u64 (x.dl : Int), .int .u64 (x.ac : Int), .int .u64 (x.lo : Int), .int .u64 (x.fl : Int)]) := Lib.hid rfl
  rw [HE.out] at M0 ⊢
  generalize s.uses = us at *
  generalize hoo : (a) = o1 at *
  generalize hvv : (c2) = v3 at *
  generalize s.p.full = fu at *
  simp only [BS.cells] at HC HR
  go_enter Tryz.func50, Tryz.ntmps50
  go_wp2_with fail
  generalize W.alloc (.cells #[.int .u64 (x.now : Int), .int .u64 (x.sd : Int), .int .u64 (x.si : Int), .int .u64 (x.sr : Int), .int .u64 (x.rt : Int), .bool x.sl, .bool x.sm, .int .u64 (x.dl : Int), .int .u64 (x.ac : Int), .int .u64 (x.lo : Int), .int .u64 (x.fl : Int)] 41) = w0 at *
  have M1 := Lib.hid M0.out.drew
  go_region_held3 (fun w' => Hid (RMut W B Q s k x w'))
    (first | with_reducible exact M1 | with_reducible assumption)
    (first
      | (go_at_call 92; (with_reducible refine (HA.out _).mono ?_); rintro e w' ⟨rfl, rfl⟩))
  go_wp2_with fail
  have M2 := Lib.hid M1.out.drew
  go_region_held3 (fun w' => Hid (RMut W B Q s k x w'))
    (first | with_reducible exact rmk (by assumption) hb | with_reducible exact M2)
    (first
      | (go_at_call 107; (with_reducible refine (HU.out _ (Hid.out (by assumption) : RMut W B Q s k x _).at_).mono ?_); rintro e w' ⟨rfl, hb⟩)
      | (go_at_call 106; (with_reducible refine (HW.out _).mono ?_); rintro e w' ⟨rfl, hb⟩))
  have M3 : Hid (RMut W B Q s k x w') := by assumption
  clear hb M0 M1 M2
  go_wp2_with fail
  refine (HC.out _ _ (by first | exact nc1z _ _ _ _ (by simp) | (rw [hoo]; exact nc1z _ _ _ _ (by simp)))).mono ?_
  rintro e w13 ⟨rfl, hb⟩
  have M4 := Lib.hid ((M3.out.to (al_be _ _)).to hb)
  clear hb
  go_wp2_with fail
  refine (HL.out _).mono ?_
  rintro e w14 ⟨rfl, rfl⟩
  have MZ := Lib.hid (M4.out.set (s' := { s with cwnd := z }) 23 (.int .u64 (z : Int)) (fun _ => rfl) rfl rfl)
  go_wp2_with fail
  go_end0
  exact MZ.out.post

set_option maxHeartbeats 2000000 in
theorem rz_win0f {B k j : Nat} {Q : QP} {s : ES} (x : EvS) (hx : x.ok) (W : World) (h : RefAt W B Q s k) (ho : s.ok j) (hk : k ≤ 900) (hr : rightC s.c = true) (hs : s.st = 0) (hf : s.p.full = true)
    {a wi q ad le rm c2 z : Nat} (ha : a = Pl.addS s.cwnd x.ac) (hwi : wi = windowG (stG s.st) s.uses) (hq : q = s.quant) (had : ad = Pl.addS wi q) (hle : le = leastC s.c) (hrm : rm = s.bs.room) (hc2 : c2 = s.bs.cap [min a ad]) (hz : z = min (max (c2) le) 72057594037927936) :
    Calls Tryz.prog 50 #[.pointer (some ⟨Q.m, 0, none⟩), x.val] W (RPost B Q (.returned (.tuple #[])) { s with cwnd := z } k W) := by
  have HA := Lib.hid (fun w => ref_Add s.cwnd x.ac w ho.cwnd hx.ac)
  have HU := Lib.hid (fun w h => rz_uses (B := B) (k := k) (Q := Q) (s := s) w h ho hk hr)
  have HW := Lib.hid (fun w => rg_Window s.st s.uses (ES.uses_le s) w)
  have HQ := Lib.hid (fun w h => rz_Quantum (B := B) (k := k) (Q := Q) (s := s) w h ho hk hr)
  have HD := Lib.hid (fun w => ref_Add wi q w (by rw [hwi]; exact windowG_le _ _) (by rw [hq]; exact ES.quant_le s))
  have HC := Lib.hid (fun b w h => rcap_any s.bs (min a ad) b w h)
  have HR := Lib.hid (fun w => rb_Room s.bs w ho.bs)
  have HL : Hid (∀ w, Calls Tryz.prog 62 #[.int .u64 (((c2) : Nat) : Int), .int .u64 (le : Int), .int .u64 72057594037927936] w fun e w' => e = .returned (.int .u64 (z : Int)) ∧ w = w') := Lib.hid (fun w => hz ▸ rs_Clamp (c2) le 72057594037927936 w)
  have hmul : IntKind.u64.wrap (4 * (s.c 0 : Int)) = (le : Int) := by have := leastC_eq hr; have := right_mss hr; rw [IntKind.wrap_u64]; omega
  have hm1 : min (a : Int) (ad : Int) = ((min a ad : Nat) : Int) := by omega
  have hm2 : min (c2 : Int) (rm : Int) = ((min c2 rm : Nat) : Int) := by omega
  have hm3 : min (c2 : Int) (wi : Int) = ((min c2 wi : Nat) : Int) := by omega
  have hfu : decide ((3 : Int) ≤ (s.p.n : Int)) = s.p.full := by unfold Pi.full; exact decide_eq_decide.2 (by omega)
  have z0 : (s.st == 0) = true := beq_iff_eq.2 hs
  have z2 : (s.st == 2) = false := beq_eq_false_iff_ne.2 (by omega)
  have z3 : (s.st == 3) = false := beq_eq_false_iff_ne.2 (by omega)
  have z6 : (s.st == 6) = false := beq_eq_false_iff_ne.2 (by omega)
  have zn : (s.st != 0) = false := by simp [bne, z0]
  rw [hf] at hfu
  have M0 := Lib.hid (RMut.start h x)
  have q0 := rm_e (W := W) (B := B) (k := k) (Q := Q) (s := s) (x := x) (i := 0) (u := .int .u64 (s.c 0 : Int)) (fun _ => rfl)
  have q6 := rm_e (W := W) (B := B) (k := k) (Q := Q) (s := s) (x := x) (i := 6) (u := .int .i64 s.st) (fun _ => rfl)
  have q17 := rm_e (W := W) (B := B) (k := k) (Q := Q) (s := s) (x := x) (i := 17) (u := .int .i64 (s.p.n : Int)) (fun _ => rfl)
  have q18 := rm_e (W := W) (B := B) (k := k) (Q := Q) (s := s) (x := x) (i := 18) (u := .int .u64 (s.bs.hi : Int)) (fun _ => rfl)
  have q19 := rm_e (W := W) (B := B) (k := k) (Q := Q) (s := s) (x := x) (i := 19) (u := .int .u64 (s.bs.lo : Int)) (fun _ => rfl)
  have q20 := rm_e (W := W) (B := B) (k := k) (Q := Q) (s := s) (x := x) (i := 20) (u := .int .u64 (s.bs.bw : Int)) (fun _ => rfl)
  have q23 := rm_e (W := W) (B := B) (k := k) (Q := Q) (s := s) (x := x) (i := 23) (u := .int .u64 (s.cwnd : Int)) (fun _ => rfl)
  have v8 := rm_ev (W := W) (B := B) (k := k) (Q := Q) (s := s) (x := x) (i := 8) (u := .int .u64 (x.ac : Int)) rfl
  have f23 := rm_f (W := W) (B := B) (k := k) (Q := Q) (s := s) (x := x) 23
  rw [← ha] at HA
  rw [← hwi] at HW
  rw [← hq] at HQ
  rw [← had] at HD
  rw [← hc2] at HC
  rw [← hrm] at HR
  clear h ho hx ha hwi hq had hle hrm hc2 hz hr hs hf
  unfold EvS.val
  have HE : Hid (x.cells = #[.int .u64 (x.now : Int), .int .u64 (x.sd : Int), .int .u64 (x.si : Int), .int .u64 (x.sr : Int), .int .u64 (x.rt : Int), .bool x.sl, .bool x.sm, .int .u64 (x.dl : Int), .int .u64 (x.ac : Int), .int .u64 (x.lo : Int), .int .u64 (x.fl : Int)]) := Lib.hid rfl
  rw [HE.out] at M0 ⊢
  generalize s.uses = us at *
  generalize hoo : (min a ad) = o1 at *
  generalize hvv : (c2) = v3 at *
  generalize s.p.full = fu at *
  simp only [BS.cells] at HC HR
  go_enter Tryz.func50, Tryz.ntmps50
  go_wp2_with fail
  generalize W.alloc (.cells #[.int .u64 (x.now : Int), .int .u64 (x.sd : Int), .int .u64 (x.si : Int), .int .u64 (x.sr : Int), .int .u64 (x.rt : Int), .bool x.sl, .bool x.sm, .int .u64 (x.dl : Int), .int .u64 (x.ac : Int), .int .u64 (x.lo : Int), .int .u64 (x.fl : Int)] 41) = w0 at *
  have M1 := Lib.hid M0.out.drew
  go_region_held3 (fun w' => Hid (RMut W B Q s k x w'))
    (first | with_reducible exact M1 | with_reducible assumption)
    (first
      | (go_at_call 92; (with_reducible refine (HA.out _).mono ?_); rintro e w' ⟨rfl, rfl⟩))
  go_wp2_with fail
  have M2 := Lib.hid M1.out.drew
  go_region_held3 (fun w' => Hid (RMut W B Q s k x w'))
    (first | with_reducible exact rmk (by assumption) hb | with_reducible exact M2)
    (first
      | (go_at_call 107; (with_reducible refine (HU.out _ (Hid.out (by assumption) : RMut W B Q s k x _).at_).mono ?_); rintro e w' ⟨rfl, hb⟩)
      | (go_at_call 106; (with_reducible refine (HW.out _).mono ?_); rintro e w' ⟨rfl, hb⟩))
  have M3 : Hid (RMut W B Q s k x w') := by assumption
  clear hb M0 M1 M2
  go_wp2_with fail
  refine (HQ.out _ M3.out.at_).mono ?_
  rintro e w13 ⟨rfl, hb⟩
  have M4 := Lib.hid (M3.out.to hb)
  clear hb
  go_wp2_with fail
  refine (HD.out _).mono ?_
  rintro e w14 ⟨rfl, rfl⟩
  go_wp2_with fail
  refine (HC.out _ _ (by first | exact nc1z _ _ _ _ (by simp) | (rw [hoo]; exact nc1z _ _ _ _ (by simp)))).mono ?_
  rintro e w14 ⟨rfl, hb⟩
  have M5 := Lib.hid ((M4.out.to (al_be _ _)).to hb)
  clear hb
  go_wp2_with fail
  refine (HL.out _).mono ?_
  rintro e w15 ⟨rfl, rfl⟩
  have MZ := Lib.hid (M5.out.set (s' := { s with cwnd := z }) 23 (.int .u64 (z : Int)) (fun _ => rfl) rfl rfl)
  go_wp2_with fail
  go_end0
  exact MZ.out.post

set_option maxHeartbeats 2000000 in
theorem rz_win2 {B k j : Nat} {Q : QP} {s : ES} (x : EvS) (hx : x.ok) (W : World) (h : RefAt W B Q s k) (ho : s.ok j) (hk : k ≤ 900) (hr : rightC s.c = true) (hs : s.st = 2)
    {a wi q ad le rm c2 z : Nat} (ha : a = Pl.addS s.cwnd x.ac) (hwi : wi = windowG (stG s.st) s.uses) (hq : q = s.quant) (had : ad = Pl.addS wi q) (hle : le = leastC s.c) (hrm : rm = s.bs.room) (hc2 : c2 = s.bs.cap [min a ad]) (hz : z = min (max (min c2 rm) le) 72057594037927936) :
    Calls Tryz.prog 50 #[.pointer (some ⟨Q.m, 0, none⟩), x.val] W (RPost B Q (.returned (.tuple #[])) { s with cwnd := z } k W) := by
  have HA := Lib.hid (fun w => ref_Add s.cwnd x.ac w ho.cwnd hx.ac)
  have HU := Lib.hid (fun w h => rz_uses (B := B) (k := k) (Q := Q) (s := s) w h ho hk hr)
  have HW := Lib.hid (fun w => rg_Window s.st s.uses (ES.uses_le s) w)
  have HQ := Lib.hid (fun w h => rz_Quantum (B := B) (k := k) (Q := Q) (s := s) w h ho hk hr)
  have HD := Lib.hid (fun w => ref_Add wi q w (by rw [hwi]; exact windowG_le _ _) (by rw [hq]; exact ES.quant_le s))
  have HC := Lib.hid (fun b w h => rcap_any s.bs (min a ad) b w h)
  have HR := Lib.hid (fun w => rb_Room s.bs w ho.bs)
  have HL : Hid (∀ w, Calls Tryz.prog 62 #[.int .u64 (((min c2 rm) : Nat) : Int), .int .u64 (le : Int), .int .u64 72057594037927936] w fun e w' => e = .returned (.int .u64 (z : Int)) ∧ w = w') := Lib.hid (fun w => hz ▸ rs_Clamp (min c2 rm) le 72057594037927936 w)
  have hmul : IntKind.u64.wrap (4 * (s.c 0 : Int)) = (le : Int) := by have := leastC_eq hr; have := right_mss hr; rw [IntKind.wrap_u64]; omega
  have hm1 : min (a : Int) (ad : Int) = ((min a ad : Nat) : Int) := by omega
  have hm2 : min (c2 : Int) (rm : Int) = ((min c2 rm : Nat) : Int) := by omega
  have hm3 : min (c2 : Int) (wi : Int) = ((min c2 wi : Nat) : Int) := by omega
  have hfu : decide ((3 : Int) ≤ (s.p.n : Int)) = s.p.full := by unfold Pi.full; exact decide_eq_decide.2 (by omega)
  have z0 : (s.st == 0) = false := beq_eq_false_iff_ne.2 (by omega)
  have z2 : (s.st == 2) = true := beq_iff_eq.2 hs
  have z3 : (s.st == 3) = false := beq_eq_false_iff_ne.2 (by omega)
  have z6 : (s.st == 6) = false := beq_eq_false_iff_ne.2 (by omega)
  have zn : (s.st != 0) = true := by simp [bne, z0]
  have M0 := Lib.hid (RMut.start h x)
  have q0 := rm_e (W := W) (B := B) (k := k) (Q := Q) (s := s) (x := x) (i := 0) (u := .int .u64 (s.c 0 : Int)) (fun _ => rfl)
  have q6 := rm_e (W := W) (B := B) (k := k) (Q := Q) (s := s) (x := x) (i := 6) (u := .int .i64 s.st) (fun _ => rfl)
  have q17 := rm_e (W := W) (B := B) (k := k) (Q := Q) (s := s) (x := x) (i := 17) (u := .int .i64 (s.p.n : Int)) (fun _ => rfl)
  have q18 := rm_e (W := W) (B := B) (k := k) (Q := Q) (s := s) (x := x) (i := 18) (u := .int .u64 (s.bs.hi : Int)) (fun _ => rfl)
  have q19 := rm_e (W := W) (B := B) (k := k) (Q := Q) (s := s) (x := x) (i := 19) (u := .int .u64 (s.bs.lo : Int)) (fun _ => rfl)
  have q20 := rm_e (W := W) (B := B) (k := k) (Q := Q) (s := s) (x := x) (i := 20) (u := .int .u64 (s.bs.bw : Int)) (fun _ => rfl)
  have q23 := rm_e (W := W) (B := B) (k := k) (Q := Q) (s := s) (x := x) (i := 23) (u := .int .u64 (s.cwnd : Int)) (fun _ => rfl)
  have v8 := rm_ev (W := W) (B := B) (k := k) (Q := Q) (s := s) (x := x) (i := 8) (u := .int .u64 (x.ac : Int)) rfl
  have f23 := rm_f (W := W) (B := B) (k := k) (Q := Q) (s := s) (x := x) 23
  rw [← ha] at HA
  rw [← hwi] at HW
  rw [← hq] at HQ
  rw [← had] at HD
  rw [← hc2] at HC
  rw [← hrm] at HR
  clear h ho hx ha hwi hq had hle hrm hc2 hz hr hs
  unfold EvS.val
  have HE : Hid (x.cells = #[.int .u64 (x.now : Int), .int .u64 (x.sd : Int), .int .u64 (x.si : Int), .int .u64 (x.sr : Int), .int .u64 (x.rt : Int), .bool x.sl, .bool x.sm, .int .u64 (x.dl : Int), .int .u64 (x.ac : Int), .int .u64 (x.lo : Int), .int .u64 (x.fl : Int)]) := Lib.hid rfl
  rw [HE.out] at M0 ⊢
  generalize s.uses = us at *
  generalize hoo : (min a ad) = o1 at *
  generalize hvv : (min c2 rm) = v3 at *
  generalize s.p.full = fu at *
  simp only [BS.cells] at HC HR
  go_enter Tryz.func50, Tryz.ntmps50
  go_wp2_with fail
  generalize W.alloc (.cells #[.int .u64 (x.now : Int), .int .u64 (x.sd : Int), .int .u64 (x.si : Int), .int .u64 (x.sr : Int), .int .u64 (x.rt : Int), .bool x.sl, .bool x.sm, .int .u64 (x.dl : Int), .int .u64 (x.ac : Int), .int .u64 (x.lo : Int), .int .u64 (x.fl : Int)] 41) = w0 at *
  have M1 := Lib.hid M0.out.drew
  go_region_held3 (fun w' => Hid (RMut W B Q s k x w'))
    (first | with_reducible exact M1 | with_reducible assumption)
    (first
      | (go_at_call 92; (with_reducible refine (HA.out _).mono ?_); rintro e w' ⟨rfl, rfl⟩))
  go_wp2_with fail
  have M2 := Lib.hid M1.out.drew
  go_region_held3 (fun w' => Hid (RMut W B Q s k x w'))
    (first | with_reducible exact rmk (by assumption) hb | with_reducible exact M2)
    (first
      | (go_at_call 107; (with_reducible refine (HU.out _ (Hid.out (by assumption) : RMut W B Q s k x _).at_).mono ?_); rintro e w' ⟨rfl, hb⟩)
      | (go_at_call 106; (with_reducible refine (HW.out _).mono ?_); rintro e w' ⟨rfl, hb⟩))
  have M3 : Hid (RMut W B Q s k x w') := by assumption
  clear hb M0 M1 M2
  go_wp2_with fail
  refine (HQ.out _ M3.out.at_).mono ?_
  rintro e w13 ⟨rfl, hb⟩
  have M4 := Lib.hid (M3.out.to hb)
  clear hb
  go_wp2_with fail
  refine (HD.out _).mono ?_
  rintro e w14 ⟨rfl, rfl⟩
  go_wp2_with fail
  refine (HC.out _ _ (by first | exact nc1z _ _ _ _ (by simp) | (rw [hoo]; exact nc1z _ _ _ _ (by simp)))).mono ?_
  rintro e w14 ⟨rfl, hb⟩
  have M5 := Lib.hid ((M4.out.to (al_be _ _)).to hb)
  clear hb
  go_wp2_with fail
  refine (HR.out _).mono ?_
  rintro e w15 ⟨rfl, hb⟩
  have M6 := Lib.hid (M5.out.to hb)
  clear hb
  go_wp2_with fail
  refine (HL.out _).mono ?_
  rintro e w16 ⟨rfl, rfl⟩
  have MZ := Lib.hid (M6.out.set (s' := { s with cwnd := z }) 23 (.int .u64 (z : Int)) (fun _ => rfl) rfl rfl)
  go_wp2_with fail
  go_end0
  exact MZ.out.post

set_option maxHeartbeats 2000000 in
theorem rz_win3 {B k j : Nat} {Q : QP} {s : ES} (x : EvS) (hx : x.ok) (W : World) (h : RefAt W B Q s k) (ho : s.ok j) (hk : k ≤ 900) (hr : rightC s.c = true) (hs : s.st = 3)
    {a wi q ad le rm c2 z : Nat} (ha : a = Pl.addS s.cwnd x.ac) (hwi : wi = windowG (stG s.st) s.uses) (hq : q = s.quant) (had : ad = Pl.addS wi q) (hle : le = leastC s.c) (hrm : rm = s.bs.room) (hc2 : c2 = s.bs.cap [min a ad]) (hz : z = min (max (min c2 rm) le) 72057594037927936) :
    Calls Tryz.prog 50 #[.pointer (some ⟨Q.m, 0, none⟩), x.val] W (RPost B Q (.returned (.tuple #[])) { s with cwnd := z } k W) := by
  have HA := Lib.hid (fun w => ref_Add s.cwnd x.ac w ho.cwnd hx.ac)
  have HU := Lib.hid (fun w h => rz_uses (B := B) (k := k) (Q := Q) (s := s) w h ho hk hr)
  have HW := Lib.hid (fun w => rg_Window s.st s.uses (ES.uses_le s) w)
  have HQ := Lib.hid (fun w h => rz_Quantum (B := B) (k := k) (Q := Q) (s := s) w h ho hk hr)
  have HD := Lib.hid (fun w => ref_Add wi q w (by rw [hwi]; exact windowG_le _ _) (by rw [hq]; exact ES.quant_le s))
  have HC := Lib.hid (fun b w h => rcap_any s.bs (min a ad) b w h)
  have HR := Lib.hid (fun w => rb_Room s.bs w ho.bs)
  have HL : Hid (∀ w, Calls Tryz.prog 62 #[.int .u64 (((min c2 rm) : Nat) : Int), .int .u64 (le : Int), .int .u64 72057594037927936] w fun e w' => e = .returned (.int .u64 (z : Int)) ∧ w = w') := Lib.hid (fun w => hz ▸ rs_Clamp (min c2 rm) le 72057594037927936 w)
  have hmul : IntKind.u64.wrap (4 * (s.c 0 : Int)) = (le : Int) := by have := leastC_eq hr; have := right_mss hr; rw [IntKind.wrap_u64]; omega
  have hm1 : min (a : Int) (ad : Int) = ((min a ad : Nat) : Int) := by omega
  have hm2 : min (c2 : Int) (rm : Int) = ((min c2 rm : Nat) : Int) := by omega
  have hm3 : min (c2 : Int) (wi : Int) = ((min c2 wi : Nat) : Int) := by omega
  have hfu : decide ((3 : Int) ≤ (s.p.n : Int)) = s.p.full := by unfold Pi.full; exact decide_eq_decide.2 (by omega)
  have z0 : (s.st == 0) = false := beq_eq_false_iff_ne.2 (by omega)
  have z2 : (s.st == 2) = false := beq_eq_false_iff_ne.2 (by omega)
  have z3 : (s.st == 3) = true := beq_iff_eq.2 hs
  have z6 : (s.st == 6) = false := beq_eq_false_iff_ne.2 (by omega)
  have zn : (s.st != 0) = true := by simp [bne, z0]
  have M0 := Lib.hid (RMut.start h x)
  have q0 := rm_e (W := W) (B := B) (k := k) (Q := Q) (s := s) (x := x) (i := 0) (u := .int .u64 (s.c 0 : Int)) (fun _ => rfl)
  have q6 := rm_e (W := W) (B := B) (k := k) (Q := Q) (s := s) (x := x) (i := 6) (u := .int .i64 s.st) (fun _ => rfl)
  have q17 := rm_e (W := W) (B := B) (k := k) (Q := Q) (s := s) (x := x) (i := 17) (u := .int .i64 (s.p.n : Int)) (fun _ => rfl)
  have q18 := rm_e (W := W) (B := B) (k := k) (Q := Q) (s := s) (x := x) (i := 18) (u := .int .u64 (s.bs.hi : Int)) (fun _ => rfl)
  have q19 := rm_e (W := W) (B := B) (k := k) (Q := Q) (s := s) (x := x) (i := 19) (u := .int .u64 (s.bs.lo : Int)) (fun _ => rfl)
  have q20 := rm_e (W := W) (B := B) (k := k) (Q := Q) (s := s) (x := x) (i := 20) (u := .int .u64 (s.bs.bw : Int)) (fun _ => rfl)
  have q23 := rm_e (W := W) (B := B) (k := k) (Q := Q) (s := s) (x := x) (i := 23) (u := .int .u64 (s.cwnd : Int)) (fun _ => rfl)
  have v8 := rm_ev (W := W) (B := B) (k := k) (Q := Q) (s := s) (x := x) (i := 8) (u := .int .u64 (x.ac : Int)) rfl
  have f23 := rm_f (W := W) (B := B) (k := k) (Q := Q) (s := s) (x := x) 23
  rw [← ha] at HA
  rw [← hwi] at HW
  rw [← hq] at HQ
  rw [← had] at HD
  rw [← hc2] at HC
  rw [← hrm] at HR
  clear h ho hx ha hwi hq had hle hrm hc2 hz hr hs
  unfold EvS.val
  have HE : Hid (x.cells = #[.int .u64 (x.now : Int), .int .u64 (x.sd : Int), .int .u64 (x.si : Int), .int .u64 (x.sr : Int), .int .u64 (x.rt : Int), .bool x.sl, .bool x.sm, .int .u64 (x.dl : Int), .int .u64 (x.ac : Int), .int .u64 (x.lo : Int), .int .u64 (x.fl : Int)]) := Lib.hid rfl
  rw [HE.out] at M0 ⊢
  generalize s.uses = us at *
  generalize hoo : (min a ad) = o1 at *
  generalize hvv : (min c2 rm) = v3 at *
  generalize s.p.full = fu at *
  simp only [BS.cells] at HC HR
  go_enter Tryz.func50, Tryz.ntmps50
  go_wp2_with fail
  generalize W.alloc (.cells #[.int .u64 (x.now : Int), .int .u64 (x.sd : Int), .int .u64 (x.si : Int), .int .u64 (x.sr : Int), .int .u64 (x.rt : Int), .bool x.sl, .bool x.sm, .int .u64 (x.dl : Int), .int .u64 (x.ac : Int), .int .u64 (x.lo : Int), .int .u64 (x.fl : Int)] 41) = w0 at *
  have M1 := Lib.hid M0.out.drew
  go_region_held3 (fun w' => Hid (RMut W B Q s k x w'))
    (first | with_reducible exact M1 | with_reducible assumption)
    (first
      | (go_at_call 92; (with_reducible refine (HA.out _).mono ?_); rintro e w' ⟨rfl, rfl⟩))
  go_wp2_with fail
  have M2 := Lib.hid M1.out.drew
  go_region_held3 (fun w' => Hid (RMut W B Q s k x w'))
    (first | with_reducible exact rmk (by assumption) hb | with_reducible exact M2)
    (first
      | (go_at_call 107; (with_reducible refine (HU.out _ (Hid.out (by assumption) : RMut W B Q s k x _).at_).mono ?_); rintro e w' ⟨rfl, hb⟩)
      | (go_at_call 106; (with_reducible refine (HW.out _).mono ?_); rintro e w' ⟨rfl, hb⟩))
  have M3 : Hid (RMut W B Q s k x w') := by assumption
  clear hb M0 M1 M2
  go_wp2_with fail
  refine (HQ.out _ M3.out.at_).mono ?_
  rintro e w13 ⟨rfl, hb⟩
  have M4 := Lib.hid (M3.out.to hb)
  clear hb
  go_wp2_with fail
  refine (HD.out _).mono ?_
  rintro e w14 ⟨rfl, rfl⟩
  go_wp2_with fail
  refine (HC.out _ _ (by first | exact nc1z _ _ _ _ (by simp) | (rw [hoo]; exact nc1z _ _ _ _ (by simp)))).mono ?_
  rintro e w14 ⟨rfl, hb⟩
  have M5 := Lib.hid ((M4.out.to (al_be _ _)).to hb)
  clear hb
  go_wp2_with fail
  refine (HR.out _).mono ?_
  rintro e w15 ⟨rfl, hb⟩
  have M6 := Lib.hid (M5.out.to hb)
  clear hb
  go_wp2_with fail
  refine (HL.out _).mono ?_
  rintro e w16 ⟨rfl, rfl⟩
  have MZ := Lib.hid (M6.out.set (s' := { s with cwnd := z }) 23 (.int .u64 (z : Int)) (fun _ => rfl) rfl rfl)
  go_wp2_with fail
  go_end0
  exact MZ.out.post

set_option maxHeartbeats 2000000 in
theorem rz_win6 {B k j : Nat} {Q : QP} {s : ES} (x : EvS) (hx : x.ok) (W : World) (h : RefAt W B Q s k) (ho : s.ok j) (hk : k ≤ 900) (hr : rightC s.c = true) (hs : s.st = 6)
    {a wi q ad le rm c2 z : Nat} (ha : a = Pl.addS s.cwnd x.ac) (hwi : wi = windowG (stG s.st) s.uses) (hq : q = s.quant) (had : ad = Pl.addS wi q) (hle : le = leastC s.c) (hrm : rm = s.bs.room) (hc2 : c2 = s.bs.cap [min a ad]) (hz : z = min (max (min c2 wi) le) 72057594037927936) :
    Calls Tryz.prog 50 #[.pointer (some ⟨Q.m, 0, none⟩), x.val] W (RPost B Q (.returned (.tuple #[])) { s with cwnd := z } k W) := by
  have HA := Lib.hid (fun w => ref_Add s.cwnd x.ac w ho.cwnd hx.ac)
  have HU := Lib.hid (fun w h => rz_uses (B := B) (k := k) (Q := Q) (s := s) w h ho hk hr)
  have HW := Lib.hid (fun w => rg_Window s.st s.uses (ES.uses_le s) w)
  have HQ := Lib.hid (fun w h => rz_Quantum (B := B) (k := k) (Q := Q) (s := s) w h ho hk hr)
  have HD := Lib.hid (fun w => ref_Add wi q w (by rw [hwi]; exact windowG_le _ _) (by rw [hq]; exact ES.quant_le s))
  have HC := Lib.hid (fun b w h => rcap_any s.bs (min a ad) b w h)
  have HR := Lib.hid (fun w => rb_Room s.bs w ho.bs)
  have HL : Hid (∀ w, Calls Tryz.prog 62 #[.int .u64 (((min c2 wi) : Nat) : Int), .int .u64 (le : Int), .int .u64 72057594037927936] w fun e w' => e = .returned (.int .u64 (z : Int)) ∧ w = w') := Lib.hid (fun w => hz ▸ rs_Clamp (min c2 wi) le 72057594037927936 w)
  have hmul : IntKind.u64.wrap (4 * (s.c 0 : Int)) = (le : Int) := by have := leastC_eq hr; have := right_mss hr; rw [IntKind.wrap_u64]; omega
  have hm1 : min (a : Int) (ad : Int) = ((min a ad : Nat) : Int) := by omega
  have hm2 : min (c2 : Int) (rm : Int) = ((min c2 rm : Nat) : Int) := by omega
  have hm3 : min (c2 : Int) (wi : Int) = ((min c2 wi : Nat) : Int) := by omega
  have hfu : decide ((3 : Int) ≤ (s.p.n : Int)) = s.p.full := by unfold Pi.full; exact decide_eq_decide.2 (by omega)
  have z0 : (s.st == 0) = false := beq_eq_false_iff_ne.2 (by omega)
  have z2 : (s.st == 2) = false := beq_eq_false_iff_ne.2 (by omega)
  have z3 : (s.st == 3) = false := beq_eq_false_iff_ne.2 (by omega)
  have z6 : (s.st == 6) = true := beq_iff_eq.2 hs
  have zn : (s.st != 0) = true := by simp [bne, z0]
  have M0 := Lib.hid (RMut.start h x)
  have q0 := rm_e (W := W) (B := B) (k := k) (Q := Q) (s := s) (x := x) (i := 0) (u := .int .u64 (s.c 0 : Int)) (fun _ => rfl)
  have q6 := rm_e (W := W) (B := B) (k := k) (Q := Q) (s := s) (x := x) (i := 6) (u := .int .i64 s.st) (fun _ => rfl)
  have q17 := rm_e (W := W) (B := B) (k := k) (Q := Q) (s := s) (x := x) (i := 17) (u := .int .i64 (s.p.n : Int)) (fun _ => rfl)
  have q18 := rm_e (W := W) (B := B) (k := k) (Q := Q) (s := s) (x := x) (i := 18) (u := .int .u64 (s.bs.hi : Int)) (fun _ => rfl)
  have q19 := rm_e (W := W) (B := B) (k := k) (Q := Q) (s := s) (x := x) (i := 19) (u := .int .u64 (s.bs.lo : Int)) (fun _ => rfl)
  have q20 := rm_e (W := W) (B := B) (k := k) (Q := Q) (s := s) (x := x) (i := 20) (u := .int .u64 (s.bs.bw : Int)) (fun _ => rfl)
  have q23 := rm_e (W := W) (B := B) (k := k) (Q := Q) (s := s) (x := x) (i := 23) (u := .int .u64 (s.cwnd : Int)) (fun _ => rfl)
  have v8 := rm_ev (W := W) (B := B) (k := k) (Q := Q) (s := s) (x := x) (i := 8) (u := .int .u64 (x.ac : Int)) rfl
  have f23 := rm_f (W := W) (B := B) (k := k) (Q := Q) (s := s) (x := x) 23
  rw [← ha] at HA
  rw [← hwi] at HW
  rw [← hq] at HQ
  rw [← had] at HD
  rw [← hc2] at HC
  rw [← hrm] at HR
  clear h ho hx ha hwi hq had hle hrm hc2 hz hr hs
  unfold EvS.val
  have HE : Hid (x.cells = #[.int .u64 (x.now : Int), .int .u64 (x.sd : Int), .int .u64 (x.si : Int), .int .u64 (x.sr : Int), .int .u64 (x.rt : Int), .bool x.sl, .bool x.sm, .int .u64 (x.dl : Int), .int .u64 (x.ac : Int), .int .u64 (x.lo : Int), .int .u64 (x.fl : Int)]) := Lib.hid rfl
  rw [HE.out] at M0 ⊢
  generalize s.uses = us at *
  generalize hoo : (min a ad) = o1 at *
  generalize hvv : (min c2 wi) = v3 at *
  generalize s.p.full = fu at *
  simp only [BS.cells] at HC HR
  go_enter Tryz.func50, Tryz.ntmps50
  go_wp2_with fail
  generalize W.alloc (.cells #[.int .u64 (x.now : Int), .int .u64 (x.sd : Int), .int .u64 (x.si : Int), .int .u64 (x.sr : Int), .int .u64 (x.rt : Int), .bool x.sl, .bool x.sm, .int .u64 (x.dl : Int), .int .u64 (x.ac : Int), .int .u64 (x.lo : Int), .int .u64 (x.fl : Int)] 41) = w0 at *
  have M1 := Lib.hid M0.out.drew
  go_region_held3 (fun w' => Hid (RMut W B Q s k x w'))
    (first | with_reducible exact M1 | with_reducible assumption)
    (first
      | (go_at_call 92; (with_reducible refine (HA.out _).mono ?_); rintro e w' ⟨rfl, rfl⟩))
  go_wp2_with fail
  have M2 := Lib.hid M1.out.drew
  go_region_held3 (fun w' => Hid (RMut W B Q s k x w'))
    (first | with_reducible exact rmk (by assumption) hb | with_reducible exact M2)
    (first
      | (go_at_call 107; (with_reducible refine (HU.out _ (Hid.out (by assumption) : RMut W B Q s k x _).at_).mono ?_); rintro e w' ⟨rfl, hb⟩)
      | (go_at_call 106; (with_reducible refine (HW.out _).mono ?_); rintro e w' ⟨rfl, hb⟩))
  have M3 : Hid (RMut W B Q s k x w') := by assumption
  clear hb M0 M1 M2
  go_wp2_with fail
  refine (HQ.out _ M3.out.at_).mono ?_
  rintro e w13 ⟨rfl, hb⟩
  have M4 := Lib.hid (M3.out.to hb)
  clear hb
  go_wp2_with fail
  refine (HD.out _).mono ?_
  rintro e w14 ⟨rfl, rfl⟩
  go_wp2_with fail
  refine (HC.out _ _ (by first | exact nc1z _ _ _ _ (by simp) | (rw [hoo]; exact nc1z _ _ _ _ (by simp)))).mono ?_
  rintro e w14 ⟨rfl, hb⟩
  have M5 := Lib.hid ((M4.out.to (al_be _ _)).to hb)
  clear hb
  go_wp2_with fail
  refine (HL.out _).mono ?_
  rintro e w15 ⟨rfl, rfl⟩
  have MZ := Lib.hid (M5.out.set (s' := { s with cwnd := z }) 23 (.int .u64 (z : Int)) (fun _ => rfl) rfl rfl)
  go_wp2_with fail
  go_end0
  exact MZ.out.post

set_option maxHeartbeats 2000000 in
theorem rz_winn {B k j : Nat} {Q : QP} {s : ES} (x : EvS) (hx : x.ok) (W : World) (h : RefAt W B Q s k) (ho : s.ok j) (hk : k ≤ 900) (hr : rightC s.c = true) (h0 : s.st ≠ 0) (h2 : s.st ≠ 2) (h3 : s.st ≠ 3) (h6 : s.st ≠ 6)
    {a wi q ad le rm c2 z : Nat} (ha : a = Pl.addS s.cwnd x.ac) (hwi : wi = windowG (stG s.st) s.uses) (hq : q = s.quant) (had : ad = Pl.addS wi q) (hle : le = leastC s.c) (hrm : rm = s.bs.room) (hc2 : c2 = s.bs.cap [min a ad]) (hz : z = min (max (c2) le) 72057594037927936) :
    Calls Tryz.prog 50 #[.pointer (some ⟨Q.m, 0, none⟩), x.val] W (RPost B Q (.returned (.tuple #[])) { s with cwnd := z } k W) := by
  have HA := Lib.hid (fun w => ref_Add s.cwnd x.ac w ho.cwnd hx.ac)
  have HU := Lib.hid (fun w h => rz_uses (B := B) (k := k) (Q := Q) (s := s) w h ho hk hr)
  have HW := Lib.hid (fun w => rg_Window s.st s.uses (ES.uses_le s) w)
  have HQ := Lib.hid (fun w h => rz_Quantum (B := B) (k := k) (Q := Q) (s := s) w h ho hk hr)
  have HD := Lib.hid (fun w => ref_Add wi q w (by rw [hwi]; exact windowG_le _ _) (by rw [hq]; exact ES.quant_le s))
  have HC := Lib.hid (fun b w h => rcap_any s.bs (min a ad) b w h)
  have HR := Lib.hid (fun w => rb_Room s.bs w ho.bs)
  have HL : Hid (∀ w, Calls Tryz.prog 62 #[.int .u64 (((c2) : Nat) : Int), .int .u64 (le : Int), .int .u64 72057594037927936] w fun e w' => e = .returned (.int .u64 (z : Int)) ∧ w = w') := Lib.hid (fun w => hz ▸ rs_Clamp (c2) le 72057594037927936 w)
  have hmul : IntKind.u64.wrap (4 * (s.c 0 : Int)) = (le : Int) := by have := leastC_eq hr; have := right_mss hr; rw [IntKind.wrap_u64]; omega
  have hm1 : min (a : Int) (ad : Int) = ((min a ad : Nat) : Int) := by omega
  have hm2 : min (c2 : Int) (rm : Int) = ((min c2 rm : Nat) : Int) := by omega
  have hm3 : min (c2 : Int) (wi : Int) = ((min c2 wi : Nat) : Int) := by omega
  have hfu : decide ((3 : Int) ≤ (s.p.n : Int)) = s.p.full := by unfold Pi.full; exact decide_eq_decide.2 (by omega)
  have z0 : (s.st == 0) = false := beq_eq_false_iff_ne.2 (h0)
  have z2 : (s.st == 2) = false := beq_eq_false_iff_ne.2 (h2)
  have z3 : (s.st == 3) = false := beq_eq_false_iff_ne.2 (h3)
  have z6 : (s.st == 6) = false := beq_eq_false_iff_ne.2 (h6)
  have zn : (s.st != 0) = true := by simp [bne, z0]
  have M0 := Lib.hid (RMut.start h x)
  have q0 := rm_e (W := W) (B := B) (k := k) (Q := Q) (s := s) (x := x) (i := 0) (u := .int .u64 (s.c 0 : Int)) (fun _ => rfl)
  have q6 := rm_e (W := W) (B := B) (k := k) (Q := Q) (s := s) (x := x) (i := 6) (u := .int .i64 s.st) (fun _ => rfl)
  have q17 := rm_e (W := W) (B := B) (k := k) (Q := Q) (s := s) (x := x) (i := 17) (u := .int .i64 (s.p.n : Int)) (fun _ => rfl)
  have q18 := rm_e (W := W) (B := B) (k := k) (Q := Q) (s := s) (x := x) (i := 18) (u := .int .u64 (s.bs.hi : Int)) (fun _ => rfl)
  have q19 := rm_e (W := W) (B := B) (k := k) (Q := Q) (s := s) (x := x) (i := 19) (u := .int .u64 (s.bs.lo : Int)) (fun _ => rfl)
  have q20 := rm_e (W := W) (B := B) (k := k) (Q := Q) (s := s) (x := x) (i := 20) (u := .int .u64 (s.bs.bw : Int)) (fun _ => rfl)
  have q23 := rm_e (W := W) (B := B) (k := k) (Q := Q) (s := s) (x := x) (i := 23) (u := .int .u64 (s.cwnd : Int)) (fun _ => rfl)
  have v8 := rm_ev (W := W) (B := B) (k := k) (Q := Q) (s := s) (x := x) (i := 8) (u := .int .u64 (x.ac : Int)) rfl
  have f23 := rm_f (W := W) (B := B) (k := k) (Q := Q) (s := s) (x := x) 23
  rw [← ha] at HA
  rw [← hwi] at HW
  rw [← hq] at HQ
  rw [← had] at HD
  rw [← hc2] at HC
  rw [← hrm] at HR
  clear h ho hx ha hwi hq had hle hrm hc2 hz hr h0 h2 h3 h6
  unfold EvS.val
  have HE : Hid (x.cells = #[.int .u64 (x.now : Int), .int .u64 (x.sd : Int), .int .u64 (x.si : Int), .int .u64 (x.sr : Int), .int .u64 (x.rt : Int), .bool x.sl, .bool x.sm, .int .u64 (x.dl : Int), .int .u64 (x.ac : Int), .int .u64 (x.lo : Int), .int .u64 (x.fl : Int)]) := Lib.hid rfl
  rw [HE.out] at M0 ⊢
  generalize s.uses = us at *
  generalize hoo : (min a ad) = o1 at *
  generalize hvv : (c2) = v3 at *
  generalize s.p.full = fu at *
  simp only [BS.cells] at HC HR
  go_enter Tryz.func50, Tryz.ntmps50
  go_wp2_with fail
  generalize W.alloc (.cells #[.int .u64 (x.now : Int), .int .u64 (x.sd : Int), .int .u64 (x.si : Int), .int .u64 (x.sr : Int), .int .u64 (x.rt : Int), .bool x.sl, .bool x.sm, .int .u64 (x.dl : Int), .int .u64 (x.ac : Int), .int .u64 (x.lo : Int), .int .u64 (x.fl : Int)] 41) = w0 at *
  have M1 := Lib.hid M0.out.drew
  go_region_held3 (fun w' => Hid (RMut W B Q s k x w'))
    (first | with_reducible exact M1 | with_reducible assumption)
    (first
      | (go_at_call 92; (with_reducible refine (HA.out _).mono ?_); rintro e w' ⟨rfl, rfl⟩))
  go_wp2_with fail
  have M2 := Lib.hid M1.out.drew
  go_region_held3 (fun w' => Hid (RMut W B Q s k x w'))
    (first | with_reducible exact rmk (by assumption) hb | with_reducible exact M2)
    (first
      | (go_at_call 107; (with_reducible refine (HU.out _ (Hid.out (by assumption) : RMut W B Q s k x _).at_).mono ?_); rintro e w' ⟨rfl, hb⟩)
      | (go_at_call 106; (with_reducible refine (HW.out _).mono ?_); rintro e w' ⟨rfl, hb⟩))
  have M3 : Hid (RMut W B Q s k x w') := by assumption
  clear hb M0 M1 M2
  go_wp2_with fail
  refine (HQ.out _ M3.out.at_).mono ?_
  rintro e w13 ⟨rfl, hb⟩
  have M4 := Lib.hid (M3.out.to hb)
  clear hb
  go_wp2_with fail
  refine (HD.out _).mono ?_
  rintro e w14 ⟨rfl, rfl⟩
  go_wp2_with fail
  refine (HC.out _ _ (by first | exact nc1z _ _ _ _ (by simp) | (rw [hoo]; exact nc1z _ _ _ _ (by simp)))).mono ?_
  rintro e w14 ⟨rfl, hb⟩
  have M5 := Lib.hid ((M4.out.to (al_be _ _)).to hb)
  clear hb
  go_wp2_with fail
  refine (HL.out _).mono ?_
  rintro e w15 ⟨rfl, rfl⟩
  have MZ := Lib.hid (M5.out.set (s' := { s with cwnd := z }) 23 (.int .u64 (z : Int)) (fun _ => rfl) rfl rfl)
  go_wp2_with fail
  go_end0
  exact MZ.out.post

theorem rz_window {B k j : Nat} {Q : QP} {s : ES} (x : EvS) (hx : x.ok) (W : World) (h : RefAt W B Q s k) (ho : s.ok j) (hk : k ≤ 900) (hr : rightC s.c = true) :
    Calls Tryz.prog 50 #[.pointer (some ⟨Q.m, 0, none⟩), x.val] W (RPost B Q (.returned (.tuple #[])) { s with cwnd := s.open x.ac } k W) := by
  by_cases h0 : s.st = 0
  · cases hf : s.p.full with
    | false => exact rz_win0 x hx W h ho hk hr h0 hf rfl rfl rfl rfl rfl rfl rfl (by simp [ES.open, ES.o3, ES.o2, ES.o1, h0, hf])
    | true => exact rz_win0f x hx W h ho hk hr h0 hf rfl rfl rfl rfl rfl rfl rfl (by simp [ES.open, ES.o3, ES.o2, ES.o1, h0, hf])
  · by_cases h2 : s.st = 2
    · exact rz_win2 x hx W h ho hk hr h2 rfl rfl rfl rfl rfl rfl rfl (by simp [ES.open, ES.o3, ES.o2, ES.o1, h2])
    · by_cases h3 : s.st = 3
      · exact rz_win3 x hx W h ho hk hr h3 rfl rfl rfl rfl rfl rfl rfl (by simp [ES.open, ES.o3, ES.o2, ES.o1, h3])
      · by_cases h6 : s.st = 6
        · exact rz_win6 x hx W h ho hk hr h6 rfl rfl rfl rfl rfl rfl rfl (by simp [ES.open, ES.o3, ES.o2, ES.o1, h6])
        · exact rz_winn x hx W h ho hk hr h0 h2 h3 h6 rfl rfl rfl rfl rfl rfl rfl (by simp [ES.open, ES.o3, ES.o2, ES.o1, h0, h2, h3, h6])
end Go.Proofs.YtpkbjfhicocogaaGreatDoor
