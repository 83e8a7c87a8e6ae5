/- 1 texts put together: what each one says stands ahead of it. -/
import Derived.Test.YtpkbjfhicocogaaGreatDoorKPlays23
/- Contracts of package bbr over this translation: yield. -/
set_option linter.unusedVariables false
namespace Go.Proofs.YtpkbjfhicocogaaGreatDoor
open Go.RowKit Cf

theorem mi_ev {W : World} {B : Nat} {P : EP} {s : ES} {x : EvS} {i : Nat} {v : Value} (hv : x.cells[i]? = some v) : ∀ w, Hid (MutI W B P s x w) → w.cell? ⟨W.heap.size, i, none⟩ = some v := fun w q => q.out.ev.cell hv
theorem mi_e {W : World} {B : Nat} {P : EP} {s : ES} {x : EvS} {i : Nat} {v : Value} (hv : (ecells P s)[i]? = some v) : ∀ w, Hid (MutI W B P s x w) → w.cell? ⟨P.b, i, none⟩ = some v := fun w q => q.out.at_.e.cell hv
theorem mi_f {W : World} {B : Nat} {P : EP} {s : ES} {x : EvS} (i : Nat) : ∀ w, Hid (MutI W B P s x w) → w.frozen? ⟨P.b, i, none⟩ = false := fun w q => q.out.at_.e.free i
theorem mn_e {W : World} {B : Nat} {P : EP} {s : ES} {i : Nat} {v : Value} (hv : (ecells P s)[i]? = some v) : ∀ w, Hid (MutN W B P s w) → w.cell? ⟨P.b, i, none⟩ = some v := fun w q => q.out.at_.e.cell hv
theorem mn_f {W : World} {B : Nat} {P : EP} {s : ES} (i : Nat) : ∀ w, Hid (MutN W B P s w) → w.frozen? ⟨P.b, i, none⟩ = false := fun w q => q.out.at_.e.free i

set_option maxHeartbeats 2000000 in
theorem en_yield0 {B k : Nat} {P : EP} {s : ES} (x : EvS) (hx : x.ok) (W : World) (h : EngAt W B P s) (ho : s.ok k) (hs : s.st = 0) :
    Calls Tryz.prog 38 #[.pointer (some ⟨P.b, 0, none⟩), x.val] W (EPost B P (.returned (.tuple #[])) { s with bs := s.bs.pull x.fl s.holds } W) := by
  have z0 : (s.st == 0) = true := by rw [hs]; rfl
  have HH := Lib.hid (fun w h => en_holds (B := B) (P := P) (s := s) w h ho)
  have HP := Lib.hid (fun w => bd_Pull s.bs x.fl s.holds w hx.fl (ES.holds_le s))
  have M0 := Lib.hid (MutI.start h x)
  have r13 := mi_e (W := W) (B := B) (P := P) (s := s) (x := x) (i := 13) (v := .int .i64 s.st) rfl
  have r7 := mi_e (W := W) (B := B) (P := P) (s := s) (x := x) (i := 7) (v := .int .u64 (s.bs.hi : Int)) rfl
  have r8 := mi_e (W := W) (B := B) (P := P) (s := s) (x := x) (i := 8) (v := .int .u64 (s.bs.lo : Int)) rfl
  have r9 := mi_e (W := W) (B := B) (P := P) (s := s) (x := x) (i := 9) (v := .int .u64 (s.bs.bw : Int)) rfl
  have f7 := mi_f (W := W) (B := B) (P := P) (s := s) (x := x) 7
  have f8 := mi_f (W := W) (B := B) (P := P) (s := s) (x := x) 8
  have f9 := mi_f (W := W) (B := B) (P := P) (s := s) (x := x) 9
  have v10 := mi_ev (W := W) (B := B) (P := P) (s := s) (x := x) (i := 10) (v := .int .u64 (x.fl : Int)) rfl
  unfold EvS.val
  clear h ho hx
  have HE : Hid (x.cells = #[.int .u64 (x.now : Int), .int .u64 (x.sd : Int), .int .u64 (x.si : Int), .int .u64 (x.sr : Int), .int .u64 (x.rt : Int), .bool x.sl, .bool x.sm, .int .u64 (x.dl : Int), .int .u64 (x.ac : Int), .int .u64 (x.lo : Int), .int .u64 (x.fl : Int)]) := Lib.hid rfl
  rw [HE.out] at M0 ⊢
  simp only [BS.cells] at HP
  generalize s.holds = hol at *
  go_enter Tryz.func38, Tryz.ntmps38
  go_wp2_with fail
  generalize W.alloc (.cells #[.int .u64 (x.now : Int), .int .u64 (x.sd : Int), .int .u64 (x.si : Int), .int .u64 (x.sr : Int), .int .u64 (x.rt : Int), .bool x.sl, .bool x.sm, .int .u64 (x.dl : Int), .int .u64 (x.ac : Int), .int .u64 (x.lo : Int), .int .u64 (x.fl : Int)] 39) = w0 at *
  have M1 := Lib.hid M0.out.drew
  go_region_with (first
    | (go_at_call 77; (refine (HH.out _ M1.out.at_).mono ?_); rintro e w1 ⟨rfl, hb⟩; have M2 := Lib.hid (M1.out.to hb); clear hb)
    | (go_at_call 76; (refine (HP.out _).mono ?_); rintro e w2 ⟨rfl, hb⟩; have M3 := Lib.hid (M2.out.to hb); clear hb))
  all_goals
    have M4 := Lib.hid (((M3.out.set (s' := { s with bs := ⟨(s.bs.pull x.fl hol).hi, s.bs.lo, s.bs.bw⟩ }) 7 (.int .u64 ((s.bs.pull x.fl hol).hi : Int)) rfl rfl rfl rfl rfl).set (s' := { s with bs := ⟨(s.bs.pull x.fl hol).hi, (s.bs.pull x.fl hol).lo, s.bs.bw⟩ }) 8 (.int .u64 ((s.bs.pull x.fl hol).lo : Int)) rfl rfl rfl rfl rfl).set (s' := { s with bs := s.bs.pull x.fl hol }) 9 (.int .u64 ((s.bs.pull x.fl hol).bw : Int)) rfl rfl rfl rfl rfl)
    clear M0 M1 M3
    go_wp2_with fail
    go_end0
    exact M4.out.post

set_option maxHeartbeats 2000000 in
theorem en_yield5 {B k : Nat} {P : EP} {s : ES} (x : EvS) (hx : x.ok) (W : World) (h : EngAt W B P s) (ho : s.ok k) (hs : s.st = 5) :
    Calls Tryz.prog 38 #[.pointer (some ⟨P.b, 0, none⟩), x.val] W (EPost B P (.returned (.tuple #[])) { s with bs := s.bs.pull x.fl s.holds } W) := by
  have z0 : (s.st == 0) = false := beq_eq_false_iff_ne.2 (by omega)
  have z5 : (s.st == 5) = true := by rw [hs]; rfl
  have HH := Lib.hid (fun w h => en_holds (B := B) (P := P) (s := s) w h ho)
  have HP := Lib.hid (fun w => bd_Pull s.bs x.fl s.holds w hx.fl (ES.holds_le s))
  have M0 := Lib.hid (MutI.start h x)
  have r13 := mi_e (W := W) (B := B) (P := P) (s := s) (x := x) (i := 13) (v := .int .i64 s.st) rfl
  have r7 := mi_e (W := W) (B := B) (P := P) (s := s) (x := x) (i := 7) (v := .int .u64 (s.bs.hi : Int)) rfl
  have r8 := mi_e (W := W) (B := B) (P := P) (s := s) (x := x) (i := 8) (v := .int .u64 (s.bs.lo : Int)) rfl
  have r9 := mi_e (W := W) (B := B) (P := P) (s := s) (x := x) (i := 9) (v := .int .u64 (s.bs.bw : Int)) rfl
  have f7 := mi_f (W := W) (B := B) (P := P) (s := s) (x := x) 7
  have f8 := mi_f (W := W) (B := B) (P := P) (s := s) (x := x) 8
  have f9 := mi_f (W := W) (B := B) (P := P) (s := s) (x := x) 9
  have v10 := mi_ev (W := W) (B := B) (P := P) (s := s) (x := x) (i := 10) (v := .int .u64 (x.fl : Int)) rfl
  unfold EvS.val
  clear h ho hx
  have HE : Hid (x.cells = #[.int .u64 (x.now : Int), .int .u64 (x.sd : Int), .int .u64 (x.si : Int), .int .u64 (x.sr : Int), .int .u64 (x.rt : Int), .bool x.sl, .bool x.sm, .int .u64 (x.dl : Int), .int .u64 (x.ac : Int), .int .u64 (x.lo : Int), .int .u64 (x.fl : Int)]) := Lib.hid rfl
  rw [HE.out] at M0 ⊢
  simp only [BS.cells] at HP
  generalize s.holds = hol at *
  go_enter Tryz.func38, Tryz.ntmps38
  go_wp2_with fail
  generalize W.alloc (.cells #[.int .u64 (x.now : Int), .int .u64 (x.sd : Int), .int .u64 (x.si : Int), .int .u64 (x.sr : Int), .int .u64 (x.rt : Int), .bool x.sl, .bool x.sm, .int .u64 (x.dl : Int), .int .u64 (x.ac : Int), .int .u64 (x.lo : Int), .int .u64 (x.fl : Int)] 39) = w0 at *
  have M1 := Lib.hid M0.out.drew
  go_region_with (first
    | (go_at_call 77; (refine (HH.out _ M1.out.at_).mono ?_); rintro e w1 ⟨rfl, hb⟩; have M2 := Lib.hid (M1.out.to hb); clear hb)
    | (go_at_call 76; (refine (HP.out _).mono ?_); rintro e w2 ⟨rfl, hb⟩; have M3 := Lib.hid (M2.out.to hb); clear hb))
  all_goals
    have M4 := Lib.hid (((M3.out.set (s' := { s with bs := ⟨(s.bs.pull x.fl hol).hi, s.bs.lo, s.bs.bw⟩ }) 7 (.int .u64 ((s.bs.pull x.fl hol).hi : Int)) rfl rfl rfl rfl rfl).set (s' := { s with bs := ⟨(s.bs.pull x.fl hol).hi, (s.bs.pull x.fl hol).lo, s.bs.bw⟩ }) 8 (.int .u64 ((s.bs.pull x.fl hol).lo : Int)) rfl rfl rfl rfl rfl).set (s' := { s with bs := s.bs.pull x.fl hol }) 9 (.int .u64 ((s.bs.pull x.fl hol).bw : Int)) rfl rfl rfl rfl rfl)
    clear M0 M1 M3
    go_wp2_with fail
    go_end0
    exact M4.out.post

set_option maxHeartbeats 2000000 in
theorem en_yieldn {B k : Nat} {P : EP} {s : ES} (x : EvS) (hx : x.ok) (W : World) (h : EngAt W B P s) (ho : s.ok k) (h0 : s.st ≠ 0) (h5 : s.st ≠ 5) :
    Calls Tryz.prog 38 #[.pointer (some ⟨P.b, 0, none⟩), x.val] W (EPost B P (.returned (.tuple #[])) { s with bs := s.bs.lose x.sd x.sr s.cwnd } W) := by
  have z0 : (s.st == 0) = false := beq_eq_false_iff_ne.2 (by omega)
  have z5 : (s.st == 5) = false := beq_eq_false_iff_ne.2 (by omega)
  have HP := Lib.hid (fun w => bd_Lose s.bs x.sd x.sr s.cwnd w ho.bs hx.sd hx.sr ho.cwnd)
  have M0 := Lib.hid (MutI.start h x)
  have r13 := mi_e (W := W) (B := B) (P := P) (s := s) (x := x) (i := 13) (v := .int .i64 s.st) rfl
  have r7 := mi_e (W := W) (B := B) (P := P) (s := s) (x := x) (i := 7) (v := .int .u64 (s.bs.hi : Int)) rfl
  have r8 := mi_e (W := W) (B := B) (P := P) (s := s) (x := x) (i := 8) (v := .int .u64 (s.bs.lo : Int)) rfl
  have r9 := mi_e (W := W) (B := B) (P := P) (s := s) (x := x) (i := 9) (v := .int .u64 (s.bs.bw : Int)) rfl
  have r18 := mi_e (W := W) (B := B) (P := P) (s := s) (x := x) (i := 18) (v := .int .u64 (s.cwnd : Int)) rfl
  have f7 := mi_f (W := W) (B := B) (P := P) (s := s) (x := x) 7
  have f8 := mi_f (W := W) (B := B) (P := P) (s := s) (x := x) 8
  have f9 := mi_f (W := W) (B := B) (P := P) (s := s) (x := x) 9
  have v1 := mi_ev (W := W) (B := B) (P := P) (s := s) (x := x) (i := 1) (v := .int .u64 (x.sd : Int)) rfl
  have v3 := mi_ev (W := W) (B := B) (P := P) (s := s) (x := x) (i := 3) (v := .int .u64 (x.sr : Int)) rfl
  unfold EvS.val
  clear h ho hx
  have HE : Hid (x.cells = #[.int .u64 (x.now : Int), .int .u64 (x.sd : Int), .int .u64 (x.si : Int), .int .u64 (x.sr : Int), .int .u64 (x.rt : Int), .bool x.sl, .bool x.sm, .int .u64 (x.dl : Int), .int .u64 (x.ac : Int), .int .u64 (x.lo : Int), .int .u64 (x.fl : Int)]) := Lib.hid rfl
  rw [HE.out] at M0 ⊢
  simp only [BS.cells] at HP
  go_enter Tryz.func38, Tryz.ntmps38
  go_wp2_with fail
  generalize W.alloc (.cells #[.int .u64 (x.now : Int), .int .u64 (x.sd : Int), .int .u64 (x.si : Int), .int .u64 (x.sr : Int), .int .u64 (x.rt : Int), .bool x.sl, .bool x.sm, .int .u64 (x.dl : Int), .int .u64 (x.ac : Int), .int .u64 (x.lo : Int), .int .u64 (x.fl : Int)] 39) = w0 at *
  have M1 := Lib.hid M0.out.drew
  go_region_with (first
    | (go_at_call 78; (refine (HP.out _).mono ?_); rintro e w2 ⟨rfl, hb⟩; have M3 := Lib.hid (M1.out.to hb); clear hb))
  all_goals
    have M4 := Lib.hid (((M3.out.set (s' := { s with bs := ⟨(s.bs.lose x.sd x.sr s.cwnd).hi, s.bs.lo, s.bs.bw⟩ }) 7 (.int .u64 ((s.bs.lose x.sd x.sr s.cwnd).hi : Int)) rfl rfl rfl rfl rfl).set (s' := { s with bs := ⟨(s.bs.lose x.sd x.sr s.cwnd).hi, (s.bs.lose x.sd x.sr s.cwnd).lo, s.bs.bw⟩ }) 8 (.int .u64 ((s.bs.lose x.sd x.sr s.cwnd).lo : Int)) rfl rfl rfl rfl rfl).set (s' := { s with bs := s.bs.lose x.sd x.sr s.cwnd }) 9 (.int .u64 ((s.bs.lose x.sd x.sr s.cwnd).bw : Int)) rfl rfl rfl rfl rfl)
    clear M0 M1 M3
    go_wp2_with fail
    go_end0
    exact M4.out.post

end Go.Proofs.YtpkbjfhicocogaaGreatDoor
