/- 1 texts put together: what each one says stands ahead of it. -/
import Derived.Test.YtpkbjfhicocogaaGreatDoorKPlays34
import Derived.Test.YtpkbjfhicocogaaGreatDoorKPlays35
import Derived.Test.YtpkbjfhicocogaaGreatDoorKPlays04
import Derived.Test.YtpkbjfhicocogaaGreatDoorKPlays32
/- The document's engine over this translation: On, not lossy. -/
set_option linter.unusedVariables false
namespace Go.Proofs.YtpkbjfhicocogaaGreatDoor
open Go.RowKit Cf

set_option maxHeartbeats 4000000 in
set_option maxRecDepth 100000 in
theorem rz_On_f {B k hol : Nat} {Q : QP} {s s4 s5 s6 s7 s8 : ES} {bs5 bs7 : BS} {ov : Bool} (x : EvS) (W : World) (h : RefAt W B Q s k) 
    (HRe : ∀ w, RefAt w B Q s k → Calls Tryz.prog 44 #[.pointer (some ⟨Q.m, 0, none⟩), x.val] w (RPost B Q (.returned (.tuple #[.bool ov, .bool false])) s4 (k + 2) w))
    (HTu : ∀ w, RefAt w B Q s4 (k + 2) → Calls Tryz.prog 48 #[.pointer (some ⟨Q.m, 0, none⟩), x.val, .bool ov, .bool false] w (RPost B Q (.returned (.tuple #[])) s6 (k + 3) w))
    (HPs : ∀ w, Calls Tryz.prog 49 #[.agg #[.int .u64 (s6.bs.hi : Int), .int .u64 (s6.bs.lo : Int), .int .u64 (s6.bs.bw : Int)], .int .u64 (x.ac : Int)] w fun e w' => e = .returned (.agg #[.int .u64 (bs7.hi : Int), .int .u64 (bs7.lo : Int), .int .u64 (bs7.bw : Int)]) ∧ Below w.heap.size w w')
    (HWi : ∀ w, RefAt w B Q s7 (k + 3) → Calls Tryz.prog 50 #[.pointer (some ⟨Q.m, 0, none⟩), x.val] w (RPost B Q (.returned (.tuple #[])) s8 (k + 3) w))
    (zz : ((s6.st == 5) = true ∧ s7 = { s6 with bs := bs7 }) ∨ ((s6.st == 5) = false ∧ s7 = s6))
    : Calls Tryz.prog 9 #[.pointer (some ⟨Q.m, 0, none⟩), x.val] W (RPost B Q (.returned (.tuple #[])) s8 (k + 3) W) := by
  have M0 := Lib.hid (RMut.start h x)
  have HRe := Lib.hid HRe
  have HTu := Lib.hid HTu
  have HPs := Lib.hid HPs
  have HWi := Lib.hid HWi
  have v0 := rx_ev (W := W) (B := B) (Q := Q) (x := x) (i := 0) (u := .int .u64 (x.now : Int)) rfl
  have v1 := rx_ev (W := W) (B := B) (Q := Q) (x := x) (i := 1) (u := .int .u64 (x.sd : Int)) rfl
  have v2 := rx_ev (W := W) (B := B) (Q := Q) (x := x) (i := 2) (u := .int .u64 (x.si : Int)) rfl
  have v3 := rx_ev (W := W) (B := B) (Q := Q) (x := x) (i := 3) (u := .int .u64 (x.sr : Int)) rfl
  have v4 := rx_ev (W := W) (B := B) (Q := Q) (x := x) (i := 4) (u := .int .u64 (x.rt : Int)) rfl
  have v5 := rx_ev (W := W) (B := B) (Q := Q) (x := x) (i := 5) (u := .bool x.sl) rfl
  have v6 := rx_ev (W := W) (B := B) (Q := Q) (x := x) (i := 6) (u := .bool x.sm) rfl
  have v7 := rx_ev (W := W) (B := B) (Q := Q) (x := x) (i := 7) (u := .int .u64 (x.dl : Int)) rfl
  have v8 := rx_ev (W := W) (B := B) (Q := Q) (x := x) (i := 8) (u := .int .u64 (x.ac : Int)) rfl
  have v9 := rx_ev (W := W) (B := B) (Q := Q) (x := x) (i := 9) (u := .int .u64 (x.lo : Int)) rfl
  have v10 := rx_ev (W := W) (B := B) (Q := Q) (x := x) (i := 10) (u := .int .u64 (x.fl : Int)) rfl
  have r6 := rm_e (W := W) (B := B) (k := k + 2) (Q := Q) (s := s4) (x := x) (i := 6) (u := .int .i64 s4.st) (fun _ => rfl)
  have r18 := rm_e (W := W) (B := B) (k := k + 2) (Q := Q) (s := s4) (x := x) (i := 18) (u := .int .u64 (s4.bs.hi : Int)) (fun _ => rfl)
  have f18 := rm_f (W := W) (B := B) (k := k + 2) (Q := Q) (s := s4) (x := x) 18
  have r19 := rm_e (W := W) (B := B) (k := k + 2) (Q := Q) (s := s4) (x := x) (i := 19) (u := .int .u64 (s4.bs.lo : Int)) (fun _ => rfl)
  have f19 := rm_f (W := W) (B := B) (k := k + 2) (Q := Q) (s := s4) (x := x) 19
  have r20 := rm_e (W := W) (B := B) (k := k + 2) (Q := Q) (s := s4) (x := x) (i := 20) (u := .int .u64 (s4.bs.bw : Int)) (fun _ => rfl)
  have f20 := rm_f (W := W) (B := B) (k := k + 2) (Q := Q) (s := s4) (x := x) 20
  have r23 := rm_e (W := W) (B := B) (k := k + 2) (Q := Q) (s := s4) (x := x) (i := 23) (u := .int .u64 (s4.cwnd : Int)) (fun _ => rfl)
  clear h
  unfold EvS.val at *
  have HE : Hid (x.cells = #[.int .u64 (x.now : Int), .int .u64 (x.sd : Int), .int .u64 (x.si : Int), .int .u64 (x.sr : Int), .int .u64 (x.rt : Int), .bool x.sl, .bool x.sm, .int .u64 (x.dl : Int), .int .u64 (x.ac : Int), .int .u64 (x.lo : Int), .int .u64 (x.fl : Int)]) := Lib.hid rfl
  rw [HE.out] at M0 HRe HTu HWi ⊢
  go_enter Tryz.func9, Tryz.ntmps9
  go_wp2_with fail
  generalize W.alloc (.cells #[.int .u64 (x.now : Int), .int .u64 (x.sd : Int), .int .u64 (x.si : Int), .int .u64 (x.sr : Int), .int .u64 (x.rt : Int), .bool x.sl, .bool x.sm, .int .u64 (x.dl : Int), .int .u64 (x.ac : Int), .int .u64 (x.lo : Int), .int .u64 (x.fl : Int)] 41) = w0 at *
  refine (HRe.out _ M0.out.at_).mono ?_
  rintro e w1 hp
  obtain rfl := hp.e
  have M1 := Lib.hid (M0.out.step hp)
  have X1 := rx_of M1
  clear hp M0 HRe
  go_wp2_with fail
  refine (HTu.out _ M1.out.at_).mono ?_
  rintro e w6 hp
  obtain rfl := hp.e
  have M6 := Lib.hid (M1.out.step hp)
  have X6 := rx_of M6
  clear hp M1
  have c6 := M6.out.at_.cell (i := 6) (u := .int .i64 s6.st) (fun _ => rfl)
  rcases zz with ⟨z6, hz⟩ | ⟨z6, hz⟩
  · go_wp2_with fail
    have M7 := Lib.hid M6.out.drew
    have p18 := rm_e (W := W) (B := B) (k := k + 3) (Q := Q) (s := s6) (x := x) (i := 18) (u := .int .u64 (s6.bs.hi : Int)) (fun _ => rfl)
    have p19 := rm_e (W := W) (B := B) (k := k + 3) (Q := Q) (s := s6) (x := x) (i := 19) (u := .int .u64 (s6.bs.lo : Int)) (fun _ => rfl)
    have p20 := rm_e (W := W) (B := B) (k := k + 3) (Q := Q) (s := s6) (x := x) (i := 20) (u := .int .u64 (s6.bs.bw : Int)) (fun _ => rfl)
    have g18 := rm_f (W := W) (B := B) (k := k + 3) (Q := Q) (s := s6) (x := x) 18
    have g19 := rm_f (W := W) (B := B) (k := k + 3) (Q := Q) (s := s6) (x := x) 19
    have g20 := rm_f (W := W) (B := B) (k := k + 3) (Q := Q) (s := s6) (x := x) 20
    have X7 := rx_of M7
    go_region_with (first
      | (go_at_call 49; (refine (HPs.out _).mono ?_); rintro e w7 ⟨rfl, hb⟩; have M8 := Lib.hid (M7.out.to hb); clear hb))
    all_goals
      have M10 := Lib.hid (((M8.out.set (s' := { s6 with bs := ⟨bs7.hi, s6.bs.lo, s6.bs.bw⟩ }) 18 (.int .u64 (bs7.hi : Int)) (fun _ => rfl) rfl rfl).set (s' := { s6 with bs := ⟨bs7.hi, bs7.lo, s6.bs.bw⟩ }) 19 (.int .u64 (bs7.lo : Int)) (fun _ => rfl) rfl rfl).set (s' := { s6 with bs := bs7 }) 20 (.int .u64 (bs7.bw : Int)) (fun _ => rfl) rfl rfl)
      rw [← hz] at M10
      clear M6 M7 M8 X6 X7
      have X10 := rx_of M10
      go_wp2_with fail
      refine (HWi.out _ M10.out.at_).mono ?_
      rintro e w9 hp
      obtain rfl := hp.e
      have M9 := Lib.hid (M10.out.step hp)
      go_wp2_with fail
      go_end0
      exact M9.out.post
  · subst hz
    go_wp2_with fail
    refine (HWi.out _ M6.out.at_).mono ?_
    rintro e w9 hp
    obtain rfl := hp.e
    have M9 := Lib.hid (M6.out.step hp)
    go_wp2_with fail
    go_end0
    exact M9.out.post

end Go.Proofs.YtpkbjfhicocogaaGreatDoor
