/- 1 texts put together: what each one says stands ahead of it. -/
import Derived.Test.YtpkbjfhicocogaaGreatDoorKPlays34
import Derived.Test.YtpkbjfhicocogaaGreatDoorKPlays35
import Derived.Test.YtpkbjfhicocogaaGreatDoorKPlays04
import Derived.Test.YtpkbjfhicocogaaGreatDoorKPlays32
/- The document's engine over this translation: On, lossy elsewhere. -/
set_option linter.unusedVariables false
namespace Go.Proofs.YtpkbjfhicocogaaGreatDoor
open Go.RowKit Cf

set_option maxHeartbeats 4000000 in
set_option maxRecDepth 100000 in
theorem rz_On_l {B k hol : Nat} {Q : QP} {s s4 s5 s6 s7 s8 : ES} {bs5 bs7 : BS} {ov : Bool} (x : EvS) (W : World) (h : RefAt W B Q s k) (hst : (s4.st == 0) = false ∧ (s4.st == 5) = false)
    (HRe : ∀ w, RefAt w B Q s k → Calls Tryz.prog 44 #[.pointer (some ⟨Q.m, 0, none⟩), x.val] w (RPost B Q (.returned (.tuple #[.bool ov, .bool true])) s4 (k + 2) w))
    (HPu : ∀ w, Calls Tryz.prog 47 #[.agg #[.int .u64 (s4.bs.hi : Int), .int .u64 (s4.bs.lo : Int), .int .u64 (s4.bs.bw : Int)], .int .u64 (x.sd : Int), .int .u64 (x.sr : Int), .int .u64 (s4.cwnd : Int)] w fun e w' => e = .returned (.agg #[.int .u64 (bs5.hi : Int), .int .u64 (bs5.lo : Int), .int .u64 (bs5.bw : Int)]) ∧ Below w.heap.size w w')
    (h5 : s5 = { s4 with bs := bs5 })
    (HTu : ∀ w, RefAt w B Q s5 (k + 2) → Calls Tryz.prog 48 #[.pointer (some ⟨Q.m, 0, none⟩), x.val, .bool ov, .bool true] w (RPost B Q (.returned (.tuple #[])) s6 (k + 3) w))
    (HPs : ∀ w, Calls Tryz.prog 49 #[.agg #[.int .u64 (s6.bs.hi : Int), .int .u64 (s6.bs.lo : Int), .int .u64 (s6.bs.bw : Int)], .int .u64 (x.ac : Int)] w fun e w' => e = .returned (.agg #[.int .u64 (bs7.hi : Int), .int .u64 (bs7.lo : Int), .int .u64 (bs7.bw : Int)]) ∧ Below w.heap.size w w')
    (HWi : ∀ w, RefAt w B Q s7 (k + 3) → Calls Tryz.prog 50 #[.pointer (some ⟨Q.m, 0, none⟩), x.val] w (RPost B Q (.returned (.tuple #[])) s8 (k + 3) w))
    (zz : ((s6.st == 5) = true ∧ s7 = s6) ∨ ((s6.st == 5) = false ∧ s7 = s6))
    : Calls Tryz.prog 9 #[.pointer (some ⟨Q.m, 0, none⟩), x.val] W (RPost B Q (.returned (.tuple #[])) s8 (k + 3) W) := by
  have M0 := Lib.hid (RMut.start h x)
  have HRe := Lib.hid HRe
  have HPu := Lib.hid HPu
  have HTu := Lib.hid HTu
  have HPs := Lib.hid HPs
  have HWi := Lib.hid HWi
  have z0 : (s4.st == 0) = false := hst.1
  have z5 : (s4.st == 5) = false := hst.2
  have v0 := rx_ev (W := W) (B := B) (Q := Q) (x := x) (i := 0) (u := .int .u64 (x.now : Int)) rfl
  have v1 := rx_ev (W := W) (B := B) (Q := Q) (x := x) (i := 1) (u := .int .u64 (x.sd : Int)) rfl
  have v2 := rx_ev (W := W) (B := B) (Q := Q) (x := x) (i := 2) (u := .int .u64 (x.si : Int)) rfl
  have v3 := rx_ev (W := W) (B := B) (Q := Q) (x := x) (i := 3) (u := .int .u64 (x.sr : Int)) rfl
  have v4 := rx_ev (W := W) (B := B) (Q := Q) (x := x) (i := 4) (u := .int .u64 (x.rt : Int)) rfl
  have v5 := rx_ev (W := W) (B := B) (Q := Q) (x := x) (i := 5) (u := .bool x.sl) rfl
  have v6 := rx_ev (W := W) (B := B) (Q := Q) (x := x) (i := 6) (u := .bool x.sm) rfl
  have v7 := rx_ev (W := W) (B := B) (Q := Q) (x := x) (i := 7) (u := .int .u64 (x.dl : Int)) rfl
  have v8 := rx_ev (W := W) (B := B) (Q := Q) (x := x) (i := 8) (u := .int .u64 (x.ac : Int)) rfl
  have v9 := rx_ev (W := W) (B := B) (Q := Q) (x := x) (i := 9) (u := .int .u64 (x.lo : Int)) rfl
  have v10 := rx_ev (W := W) (B := B) (Q := Q) (x := x) (i := 10) (u := .int .u64 (x.fl : Int)) rfl
  have r6 := rm_e (W := W) (B := B) (k := k + 2) (Q := Q) (s := s4) (x := x) (i := 6) (u := .int .i64 s4.st) (fun _ => rfl)
  have r18 := rm_e (W := W) (B := B) (k := k + 2) (Q := Q) (s := s4) (x := x) (i := 18) (u := .int .u64 (s4.bs.hi : Int)) (fun _ => rfl)
  have f18 := rm_f (W := W) (B := B) (k := k + 2) (Q := Q) (s := s4) (x := x) 18
  have r19 := rm_e (W := W) (B := B) (k := k + 2) (Q := Q) (s := s4) (x := x) (i := 19) (u := .int .u64 (s4.bs.lo : Int)) (fun _ => rfl)
  have f19 := rm_f (W := W) (B := B) (k := k + 2) (Q := Q) (s := s4) (x := x) 19
  have r20 := rm_e (W := W) (B := B) (k := k + 2) (Q := Q) (s := s4) (x := x) (i := 20) (u := .int .u64 (s4.bs.bw : Int)) (fun _ => rfl)
  have f20 := rm_f (W := W) (B := B) (k := k + 2) (Q := Q) (s := s4) (x := x) 20
  have r23 := rm_e (W := W) (B := B) (k := k + 2) (Q := Q) (s := s4) (x := x) (i := 23) (u := .int .u64 (s4.cwnd : Int)) (fun _ => rfl)
  clear h hst
  unfold EvS.val at *
  have HE : Hid (x.cells = #[.int .u64 (x.now : Int), .int .u64 (x.sd : Int), .int .u64 (x.si : Int), .int .u64 (x.sr : Int), .int .u64 (x.rt : Int), .bool x.sl, .bool x.sm, .int .u64 (x.dl : Int), .int .u64 (x.ac : Int), .int .u64 (x.lo : Int), .int .u64 (x.fl : Int)]) := Lib.hid rfl
  rw [HE.out] at M0 HRe HTu HWi ⊢
  go_enter Tryz.func9, Tryz.ntmps9
  go_wp2_with fail
  generalize W.alloc (.cells #[.int .u64 (x.now : Int), .int .u64 (x.sd : Int), .int .u64 (x.si : Int), .int .u64 (x.sr : Int), .int .u64 (x.rt : Int), .bool x.sl, .bool x.sm, .int .u64 (x.dl : Int), .int .u64 (x.ac : Int), .int .u64 (x.lo : Int), .int .u64 (x.fl : Int)] 41) = w0 at *
  refine (HRe.out _ M0.out.at_).mono ?_
  rintro e w1 hp
  obtain rfl := hp.e
  have M1 := Lib.hid (M0.out.step hp)
  have X1 := rx_of M1
  clear hp M0 HRe
  go_wp2_with fail
  have M2 := Lib.hid M1.out.drew
  go_region_with (first
    | (go_at_call 47; (refine (HPu.out _).mono ?_); rintro e w3 ⟨rfl, hb⟩; have M4 := Lib.hid (M2.out.to hb); clear hb))
  all_goals
    have M5 := Lib.hid (((M4.out.set (s' := { s4 with bs := ⟨bs5.hi, s4.bs.lo, s4.bs.bw⟩ }) 18 (.int .u64 (bs5.hi : Int)) (fun _ => rfl) rfl rfl).set (s' := { s4 with bs := ⟨bs5.hi, bs5.lo, s4.bs.bw⟩ }) 19 (.int .u64 (bs5.lo : Int)) (fun _ => rfl) rfl rfl).set (s' := { s4 with bs := bs5 }) 20 (.int .u64 (bs5.bw : Int)) (fun _ => rfl) rfl rfl)
    rw [← h5] at M5
    clear M1 M2 M4 X1
    have X5 := rx_of M5
    go_wp2_with fail
    refine (HTu.out _ M5.out.at_).mono ?_
    rintro e w6 hp
    obtain rfl := hp.e
    have M6 := Lib.hid (M5.out.step hp)
    have X6 := rx_of M6
    clear hp M5
    have c6 := M6.out.at_.cell (i := 6) (u := .int .i64 s6.st) (fun _ => rfl)
    rcases zz with ⟨z6, hz⟩ | ⟨z6, hz⟩
    · subst hz
      go_wp2_with fail
      refine (HWi.out _ M6.out.at_).mono ?_
      rintro e w9 hp
      obtain rfl := hp.e
      have M9 := Lib.hid (M6.out.step hp)
      go_wp2_with fail
      go_end0
      exact M9.out.post
    · subst hz
      go_wp2_with fail
      refine (HWi.out _ M6.out.at_).mono ?_
      rintro e w9 hp
      obtain rfl := hp.e
      have M9 := Lib.hid (M6.out.step hp)
      go_wp2_with fail
      go_end0
      exact M9.out.post

end Go.Proofs.YtpkbjfhicocogaaGreatDoor
