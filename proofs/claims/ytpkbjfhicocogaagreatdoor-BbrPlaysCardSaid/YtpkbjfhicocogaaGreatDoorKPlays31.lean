/- 1 texts put together: what each one says stands ahead of it. -/
import Derived.Test.YtpkbjfhicocogaaGreatDoorKPlays28
import Derived.Test.YtpkbjfhicocogaaGreatDoorKPlays30
import Derived.Test.YtpkbjfhicocogaaGreatDoorKPlays23
import Derived.Test.YtpkbjfhicocogaaGreatDoorKPlays26
/- Contracts of package bbr over this translation: On. -/
set_option linter.unusedVariables false
namespace Go.Proofs.YtpkbjfhicocogaaGreatDoor
open Go.RowKit Cf

/-- What holds while an event is told, whatever the engine holds. -/
def MutX (W : World) (B : Nat) (P : EP) (x : EvS) (w : World) : Prop := ∃ s, MutI W B P s x w
theorem mu_of {W w : World} {B : Nat} {P : EP} {s : ES} {x : EvS} (h : Hid (MutI W B P s x w)) : Hid (MutX W B P x w) := Lib.hid ⟨s, h.out⟩
theorem mu_ev {W : World} {B : Nat} {P : EP} {x : EvS} {i : Nat} {v : Value} (hv : x.cells[i]? = some v) : ∀ w, Hid (MutX W B P x w) → w.cell? ⟨W.heap.size, i, none⟩ = some v := fun w q => by
  obtain ⟨s, h⟩ := q.out
  exact h.ev.cell hv
theorem mu_p {W : World} {B : Nat} {P : EP} {x : EvS} {i : Nat} {v : Value} (hv : ∀ s, (ecells P s)[i]? = some v) : ∀ w, Hid (MutX W B P x w) → w.cell? ⟨P.b, i, none⟩ = some v := fun w q => by
  obtain ⟨s, h⟩ := q.out
  exact h.at_.e.cell (hv s)
theorem mu_e {W : World} {B : Nat} {P : EP} {s : ES} {x : EvS} {i : Nat} {v : Value} (hv : (ecells P s)[i]? = some v) : ∀ w, Hid (MutI W B P s x w) → w.cell? ⟨P.b, i, none⟩ = some v := fun w q => q.out.at_.e.cell hv
theorem mu_f {W : World} {B : Nat} {P : EP} {s : ES} {x : EvS} (i : Nat) : ∀ w, Hid (MutI W B P s x w) → w.frozen? ⟨P.b, i, none⟩ = false := fun w q => q.out.at_.e.free i

set_option maxHeartbeats 4000000 in
set_option maxRecDepth 100000 in
theorem en_On_ff {B : Nat} {P : EP} {s s1 s2 s3 s4 s5 s6 s7 : ES} {now sd si sr rt dl ac lo fl best op : Nat} {sl : Bool} {sg : Array Value} {t : Int} {bs7 : BS} (W : World) (h : EngAt W B P s)
    (HCo : ∀ w, EngAt w B P s → Calls Tryz.prog 33 #[.pointer (some ⟨P.b, 0, none⟩), EvS.val ⟨now, sd, si, sr, rt, sl, false, dl, ac, lo, fl⟩] w (EPost B P (.returned (.tuple #[])) s1 w))
    (HMe : ∀ w, EngAt w B P s1 → Calls Tryz.prog 34 #[.pointer (some ⟨P.b, 0, none⟩), EvS.val ⟨now, sd, si, sr, rt, sl, false, dl, ac, lo, fl⟩] w (EPost B P (.returned (.bool false)) s2 w))
    (HSi : ∀ w, EngAt w B P s2 → Calls Tryz.prog 41 #[.pointer (some ⟨P.b, 0, none⟩), EvS.val ⟨now, sd, si, sr, rt, sl, false, dl, ac, lo, fl⟩, .bool false, .bool false] w fun e w' => e = .returned (.agg sg) ∧ Below w.heap.size w w')
    (HNe : ∀ w, Calls Tryz.prog 40 #[.int .i64 s2.st, .agg sg] w fun e w' => e = .returned (.int .i64 t) ∧ Below w.heap.size w w')
    (HTu : ∀ w, EngAt w B P s2 → Calls Tryz.prog 39 #[.pointer (some ⟨P.b, 0, none⟩), .int .u64 (now : Int), .int .i64 t] w (EPost B P (.returned (.tuple #[])) s6 w))
    (HPs : ∀ w, Calls Tryz.prog 42 #[.agg #[.int .u64 (s6.bs.hi : Int), .int .u64 (s6.bs.lo : Int), .int .u64 (s6.bs.bw : Int)], .int .u64 (ac : Int)] w fun e w' => e = .returned (.agg #[.int .u64 (bs7.hi : Int), .int .u64 (bs7.lo : Int), .int .u64 (bs7.bw : Int)]) ∧ Below w.heap.size w w')
    (HOp : ∀ w, EngAt w B P s7 → Calls Tryz.prog 43 #[.pointer (some ⟨P.b, 0, none⟩), .int .u64 (ac : Int)] w fun e w' => e = .returned (.int .u64 (op : Int)) ∧ Below w.heap.size w w')
    (zz : ((s6.st == 5) = true ∧ s7 = { s6 with bs := bs7 }) ∨ ((s6.st == 5) = false ∧ s7 = s6))
    : Calls Tryz.prog 8 #[.pointer (some ⟨P.b, 0, none⟩), EvS.val ⟨now, sd, si, sr, rt, sl, false, dl, ac, lo, fl⟩] W (EPost B P (.returned (.tuple #[])) { s7 with cwnd := op } W) := by
  have M0 := Lib.hid (MutI.start h ⟨now, sd, si, sr, rt, sl, false, dl, ac, lo, fl⟩)
  have HCo := Lib.hid HCo
  have HMe := Lib.hid HMe
  have HSi := Lib.hid HSi
  have HNe := Lib.hid HNe
  have HTu := Lib.hid HTu
  have HPs := Lib.hid HPs
  have HOp := Lib.hid HOp
  have v0 := mu_ev (W := W) (B := B) (P := P) (x := ⟨now, sd, si, sr, rt, sl, false, dl, ac, lo, fl⟩) (i := 0) (v := .int .u64 (now : Int)) rfl
  have v1 := mu_ev (W := W) (B := B) (P := P) (x := ⟨now, sd, si, sr, rt, sl, false, dl, ac, lo, fl⟩) (i := 1) (v := .int .u64 (sd : Int)) rfl
  have v2 := mu_ev (W := W) (B := B) (P := P) (x := ⟨now, sd, si, sr, rt, sl, false, dl, ac, lo, fl⟩) (i := 2) (v := .int .u64 (si : Int)) rfl
  have v3 := mu_ev (W := W) (B := B) (P := P) (x := ⟨now, sd, si, sr, rt, sl, false, dl, ac, lo, fl⟩) (i := 3) (v := .int .u64 (sr : Int)) rfl
  have v4 := mu_ev (W := W) (B := B) (P := P) (x := ⟨now, sd, si, sr, rt, sl, false, dl, ac, lo, fl⟩) (i := 4) (v := .int .u64 (rt : Int)) rfl
  have v5 := mu_ev (W := W) (B := B) (P := P) (x := ⟨now, sd, si, sr, rt, sl, false, dl, ac, lo, fl⟩) (i := 5) (v := .bool sl) rfl
  have v6 := mu_ev (W := W) (B := B) (P := P) (x := ⟨now, sd, si, sr, rt, sl, false, dl, ac, lo, fl⟩) (i := 6) (v := .bool false) rfl
  have v7 := mu_ev (W := W) (B := B) (P := P) (x := ⟨now, sd, si, sr, rt, sl, false, dl, ac, lo, fl⟩) (i := 7) (v := .int .u64 (dl : Int)) rfl
  have v8 := mu_ev (W := W) (B := B) (P := P) (x := ⟨now, sd, si, sr, rt, sl, false, dl, ac, lo, fl⟩) (i := 8) (v := .int .u64 (ac : Int)) rfl
  have v9 := mu_ev (W := W) (B := B) (P := P) (x := ⟨now, sd, si, sr, rt, sl, false, dl, ac, lo, fl⟩) (i := 9) (v := .int .u64 (lo : Int)) rfl
  have v10 := mu_ev (W := W) (B := B) (P := P) (x := ⟨now, sd, si, sr, rt, sl, false, dl, ac, lo, fl⟩) (i := 10) (v := .int .u64 (fl : Int)) rfl
  have p6 := mu_p (W := W) (B := B) (P := P) (x := ⟨now, sd, si, sr, rt, sl, false, dl, ac, lo, fl⟩) (i := 6) (v := .pointer (some ⟨P.p, 0, none⟩)) (fun _ => rfl)
  have p11 := mu_p (W := W) (B := B) (P := P) (x := ⟨now, sd, si, sr, rt, sl, false, dl, ac, lo, fl⟩) (i := 11) (v := .pointer (some ⟨P.y, 0, none⟩)) (fun _ => rfl)
  clear h
  unfold EvS.val at HCo HMe HSi ⊢
  generalize hX : (EvS.mk now sd si sr rt sl false dl ac lo fl) = X at *
  have HE : Hid (X.cells = #[.int .u64 (now : Int), .int .u64 (sd : Int), .int .u64 (si : Int), .int .u64 (sr : Int), .int .u64 (rt : Int), .bool sl, .bool false, .int .u64 (dl : Int), .int .u64 (ac : Int), .int .u64 (lo : Int), .int .u64 (fl : Int)]) := Lib.hid (by rw [← hX]; rfl)
  clear hX
  rw [HE.out] at M0 HCo HMe HSi ⊢
  go_enter Tryz.func8, Tryz.ntmps8
  go_wp2_with fail
  generalize W.alloc (.cells #[.int .u64 (now : Int), .int .u64 (sd : Int), .int .u64 (si : Int), .int .u64 (sr : Int), .int .u64 (rt : Int), .bool sl, .bool false, .int .u64 (dl : Int), .int .u64 (ac : Int), .int .u64 (lo : Int), .int .u64 (fl : Int)] 39) = w0 at *
  refine (HCo.out _ M0.out.at_).mono ?_
  rintro e w1 h1
  obtain rfl := h1.e
  have M1 := Lib.hid (M0.out.step h1)
  have X1 := mu_of M1
  clear h1 M0 HCo
  go_wp2_with fail
  refine (HMe.out _ M1.out.at_).mono ?_
  rintro e w2 h1
  obtain rfl := h1.e
  have M2 := Lib.hid (M1.out.step h1)
  have X2 := mu_of M2
  clear h1 M1 X1 HMe
  go_wp2_with fail
  have M8 := Lib.hid M2.out.drew
  have X8 := mu_of M8
  have r13 := mu_e (W := W) (B := B) (P := P) (s := s2) (x := X) (i := 13) (v := .int .i64 s2.st) rfl
  clear M2 X2
  refine wp_region_held_drew (S := (fun w' => Hid (MutX W B P X w'))) (by kernel_rfl) X8 (fun hHeld => ?_)
  simp only [List.size_toArray, List.length_cons, List.length_nil, Nat.reduceAdd, Array.replicate_succ, Array.replicate_zero, List.push_toArray, List.nil_append, List.cons_append]
  refine wpAnyH_take (i := 0) (oi := ⟨some 39, _, _, _, _, _⟩) (v := ?v1) rfl (by kernel_rfl) (by kernel_rfl) (by kernel_rfl) (fun _ _ _ h => h) (Or.inl ⟨by rfl, ?y1⟩) (by assumption) ?r1
  case y1 => intro w hSw; clear hSw; go_simp; (try with_reducible rfl)
  simp only [Act.put, List.setIfInBounds_toArray, List.set_cons_zero, List.set_cons_succ]
  refine wpAnyH_take (i := 1) (oi := ⟨some 40, _, _, _, _, _⟩) (v := ?v2) rfl (by kernel_rfl) (by kernel_rfl) (by kernel_rfl) (fun _ _ _ h => h) (Or.inl ⟨by rfl, ?y2⟩) (by assumption) ?r2
  case y2 => intro w hSw; clear hSw; go_simp; (try with_reducible rfl)
  simp only [Act.put, List.setIfInBounds_toArray, List.set_cons_zero, List.set_cons_succ]
  refine wpAnyH_take (i := 2) (oi := ⟨some 41, _, _, _, _, _⟩) (v := ?v3) rfl (by kernel_rfl) (by kernel_rfl) (by kernel_rfl) (fun _ _ _ h => h) (Or.inl ⟨by rfl, ?y3⟩) (by assumption) ?r3
  case y3 => intro w hSw; skip; go_simp; (try with_reducible rfl)
  simp only [Act.put, List.setIfInBounds_toArray, List.set_cons_zero, List.set_cons_succ]
  refine wpAnyH_take (i := 3) (oi := ⟨some 42, _, _, _, _, _⟩) (v := ?v4) rfl (by kernel_rfl) (by kernel_rfl) (by kernel_rfl) (fun _ _ _ h => h) (Or.inl ⟨by rfl, ?y4⟩) (by assumption) ?r4
  case y4 => intro w hSw; clear hSw; go_simp; (try with_reducible rfl)
  simp only [Act.put, List.setIfInBounds_toArray, List.set_cons_zero, List.set_cons_succ]
  refine wpAnyH_take (i := 4) (oi := ⟨some 43, _, _, _, _, _⟩) (v := ?v5) rfl (by kernel_rfl) (by kernel_rfl) (by kernel_rfl) (fun _ _ _ h => h) (Or.inl ⟨by rfl, ?y5⟩) (by assumption) ?r5
  case y5 => intro w hSw; clear hSw; go_simp; (try with_reducible rfl)
  simp only [Act.put, List.setIfInBounds_toArray, List.set_cons_zero, List.set_cons_succ]
  refine wpAnyH_take (i := 5) (oi := ⟨some 44, _, _, _, _, _⟩) (v := ?v6) rfl (by kernel_rfl) (by kernel_rfl) (by kernel_rfl) (fun _ _ _ h => h) (Or.inl ⟨by rfl, ?y6⟩) (by assumption) ?r6
  case y6 => intro w hSw; clear hSw; go_simp; (try with_reducible rfl)
  simp only [Act.put, List.setIfInBounds_toArray, List.set_cons_zero, List.set_cons_succ]
  refine wpAnyH_take (i := 7) (oi := ⟨some 46, _, _, _, _, _⟩) (v := ?v7) rfl (by kernel_rfl) (by kernel_rfl) (by kernel_rfl) (fun _ _ _ h => h) (Or.inl ⟨by rfl, ?y7⟩) (by assumption) ?r7
  case y7 => intro w hSw; clear hSw; go_simp; (try with_reducible rfl)
  simp only [Act.put, List.setIfInBounds_toArray, List.set_cons_zero, List.set_cons_succ]
  refine wpAnyH_take (i := 8) (oi := ⟨some 47, _, _, _, _, _⟩) (v := ?v8) rfl (by kernel_rfl) (by kernel_rfl) (by kernel_rfl) (fun _ _ _ h => h) (Or.inl ⟨by rfl, ?y8⟩) (by assumption) ?r8
  case y8 => intro w hSw; skip; go_simp; (try with_reducible rfl)
  simp only [Act.put, List.setIfInBounds_toArray, List.set_cons_zero, List.set_cons_succ]
  refine wpAnyH_take (i := 9) (oi := ⟨some 48, _, _, _, _, _⟩) (v := ?v9) rfl (by kernel_rfl) (by kernel_rfl) (by kernel_rfl) (fun _ _ _ h => h) (Or.inl ⟨by rfl, ?y9⟩) (by assumption) ?r9
  case y9 => intro w hSw; clear hSw; go_simp; (try with_reducible rfl)
  simp only [Act.put, List.setIfInBounds_toArray, List.set_cons_zero, List.set_cons_succ]
  refine wpAnyH_take (i := 10) (oi := ⟨some 49, _, _, _, _, _⟩) (v := ?v10) rfl (by kernel_rfl) (by kernel_rfl) (by kernel_rfl) (fun _ _ _ h => h) (Or.inl ⟨by rfl, ?y10⟩) (by assumption) ?r10
  case y10 => intro w hSw; clear hSw; go_simp; (try with_reducible rfl)
  simp only [Act.put, List.setIfInBounds_toArray, List.set_cons_zero, List.set_cons_succ]
  refine wpAnyH_ready (rs := [6, 11]) (by kernel_rfl) (by simp) ?_
  refine AllReadyH.cons (o := ⟨some 45, _, _, _, _, _⟩) rfl (fun K hK => ?_) ?_
  · go_simp
    refine hK.out _ _ hHeld (fun hHeld => ?_)
    clear hK
    try simp only [List.setIfInBounds_toArray, List.set_cons_zero, List.set_cons_succ]
    refine wpAnyH_ready (rs := [11]) (by kernel_rfl) (by simp) ?_
    refine AllReadyH.cons (o := ⟨some 50, _, _, _, _, _⟩) rfl (fun K hK => ?_) AllReadyH.nil
    go_simp
    refine (HSi.out _ (Hid.out (by assumption) : MutI W B P s2 X _).at_).mono ?_
    rintro e w7 ⟨rfl, hb⟩
    have M9 := Lib.hid ((Hid.out (by assumption) : MutI W B P s2 X _).to hb)
    go_wp2_with fail
    refine hK.out _ _ (mu_of M9) (fun hHeld => ?_)
    clear hK
    try simp only [List.setIfInBounds_toArray, List.set_cons_zero, List.set_cons_succ]
    refine wpAnyH_ready (rs := [12]) (by kernel_rfl) (by simp) ?_
    refine AllReadyH.cons (o := ⟨some 51, _, _, _, _, _⟩) rfl (fun K hK => ?_) AllReadyH.nil
    go_simp
    refine (HNe.out _).mono ?_
    rintro e w8 ⟨rfl, hb⟩
    have M10 := Lib.hid ((Hid.out (by assumption) : MutI W B P s2 X _).to hb)
    go_wp2_with fail
    refine hK.out _ _ (mu_of M10) (fun hHeld => ?_)
    clear hK
    try simp only [List.setIfInBounds_toArray, List.set_cons_zero, List.set_cons_succ]
    refine wpAnyH_ready (rs := [13]) (by kernel_rfl) (by simp) ?_
    refine AllReadyH.cons (o := ⟨some 52, _, _, _, _, _⟩) rfl (fun K hK => ?_) AllReadyH.nil
    go_simp
    refine (HTu.out _ (Hid.out (by assumption) : MutI W B P s2 X _).at_).mono ?_
    rintro e w9 h1
    obtain rfl := h1.e
    have M11 := Lib.hid ((Hid.out (by assumption) : MutI W B P s2 X _).step h1)
    go_wp2_with fail
    refine hK.out _ _ (mu_of M11) (fun hHeld => ?_)
    clear hK
    try simp only [List.setIfInBounds_toArray, List.set_cons_zero, List.set_cons_succ]
    refine wpAnyH_done (by kernel_rfl) ?_ _
    have X11 := mu_of M11
    have c13 := M11.out.at_.e.cell (i := 13) (v := .int .i64 s6.st) rfl
    rcases zz with ⟨z5, hz⟩ | ⟨z5, hz⟩
    · subst hz
      have v7a := M11.out.drew.at_.e.cell (i := 7) (v := .int .u64 (s6.bs.hi : Int)) rfl
      go_wp2_with fail
      have M12 := Lib.hid M11.out.drew
      have X12 := mu_of M12
      have r7 := mu_e (W := W) (B := B) (P := P) (s := s6) (x := X) (i := 7) (v := .int .u64 (s6.bs.hi : Int)) rfl
      have r8 := mu_e (W := W) (B := B) (P := P) (s := s6) (x := X) (i := 8) (v := .int .u64 (s6.bs.lo : Int)) rfl
      have r9 := mu_e (W := W) (B := B) (P := P) (s := s6) (x := X) (i := 9) (v := .int .u64 (s6.bs.bw : Int)) rfl
      have f7 := mu_f (W := W) (B := B) (P := P) (s := s6) (x := X) 7
      have f8 := mu_f (W := W) (B := B) (P := P) (s := s6) (x := X) 8
      have f9 := mu_f (W := W) (B := B) (P := P) (s := s6) (x := X) 9
      go_region_with (first
        | (go_at_call 42; (refine (HPs.out _).mono ?_); rintro e w10 ⟨rfl, hb⟩; have M13 := Lib.hid (M12.out.to hb); clear hb))
      all_goals
        have M16 := Lib.hid (((M13.out.set (s' := { s6 with bs := ⟨bs7.hi, s6.bs.lo, s6.bs.bw⟩ }) 7 (.int .u64 (bs7.hi : Int)) rfl rfl rfl rfl rfl).set (s' := { s6 with bs := ⟨bs7.hi, bs7.lo, s6.bs.bw⟩ }) 8 (.int .u64 (bs7.lo : Int)) rfl rfl rfl rfl rfl).set (s' := { s6 with bs := bs7 }) 9 (.int .u64 (bs7.bw : Int)) rfl rfl rfl rfl rfl)
        have X16 := mu_of M16
        go_wp2_with fail
        refine (HOp.out _ M16.out.at_).mono ?_
        rintro e w12 ⟨rfl, hb⟩
        have M14 := Lib.hid (M16.out.to hb)
        have c18 := M14.out.at_.e.cell (i := 18) (v := .int .u64 (s6.cwnd : Int)) rfl
        have y18 := M14.out.at_.e.free 18
        have M15 := Lib.hid (M14.out.set (s' := { s6 with bs := bs7, cwnd := op }) 18 (.int .u64 (op : Int)) rfl rfl rfl rfl rfl)
        clear hb
        go_wp2_with fail
        go_end0
        exact M15.out.post
    · subst hz
      go_wp2_with fail
      refine (HOp.out _ M11.out.at_).mono ?_
      rintro e w12 ⟨rfl, hb⟩
      have M14 := Lib.hid (M11.out.to hb)
      have c18 := M14.out.at_.e.cell (i := 18) (v := .int .u64 (s7.cwnd : Int)) rfl
      have y18 := M14.out.at_.e.free 18
      have M15 := Lib.hid (M14.out.set (s' := { s7 with cwnd := op }) 18 (.int .u64 (op : Int)) rfl rfl rfl rfl rfl)
      clear hb
      go_wp2_with fail
      go_end0
      exact M15.out.post
  refine AllReadyH.cons (o := ⟨some 50, _, _, _, _, _⟩) rfl (fun K hK => ?_) AllReadyH.nil
  go_simp
  refine (HSi.out _ (Hid.out (by assumption) : MutI W B P s2 X _).at_).mono ?_
  rintro e w7 ⟨rfl, hb⟩
  have M9 := Lib.hid ((Hid.out (by assumption) : MutI W B P s2 X _).to hb)
  go_wp2_with fail
  refine hK.out _ _ (mu_of M9) (fun hHeld => ?_)
  clear hK
  try simp only [List.setIfInBounds_toArray, List.set_cons_zero, List.set_cons_succ]
  refine wpAnyH_ready (rs := [6]) (by kernel_rfl) (by simp) ?_
  refine AllReadyH.cons (o := ⟨some 45, _, _, _, _, _⟩) rfl (fun K hK => ?_) AllReadyH.nil
  go_simp
  refine hK.out _ _ hHeld (fun hHeld => ?_)
  clear hK
  try simp only [List.setIfInBounds_toArray, List.set_cons_zero, List.set_cons_succ]
  refine wpAnyH_ready (rs := [12]) (by kernel_rfl) (by simp) ?_
  refine AllReadyH.cons (o := ⟨some 51, _, _, _, _, _⟩) rfl (fun K hK => ?_) AllReadyH.nil
  go_simp
  refine (HNe.out _).mono ?_
  rintro e w8 ⟨rfl, hb⟩
  have M10 := Lib.hid ((Hid.out (by assumption) : MutI W B P s2 X _).to hb)
  go_wp2_with fail
  refine hK.out _ _ (mu_of M10) (fun hHeld => ?_)
  clear hK
  try simp only [List.setIfInBounds_toArray, List.set_cons_zero, List.set_cons_succ]
  refine wpAnyH_ready (rs := [13]) (by kernel_rfl) (by simp) ?_
  refine AllReadyH.cons (o := ⟨some 52, _, _, _, _, _⟩) rfl (fun K hK => ?_) AllReadyH.nil
  go_simp
  refine (HTu.out _ (Hid.out (by assumption) : MutI W B P s2 X _).at_).mono ?_
  rintro e w9 h1
  obtain rfl := h1.e
  have M11 := Lib.hid ((Hid.out (by assumption) : MutI W B P s2 X _).step h1)
  go_wp2_with fail
  refine hK.out _ _ (mu_of M11) (fun hHeld => ?_)
  clear hK
  try simp only [List.setIfInBounds_toArray, List.set_cons_zero, List.set_cons_succ]
  refine wpAnyH_done (by kernel_rfl) ?_ _
  have X11 := mu_of M11
  have c13 := M11.out.at_.e.cell (i := 13) (v := .int .i64 s6.st) rfl
  rcases zz with ⟨z5, hz⟩ | ⟨z5, hz⟩
  · subst hz
    have v7a := M11.out.drew.at_.e.cell (i := 7) (v := .int .u64 (s6.bs.hi : Int)) rfl
    go_wp2_with fail
    have M12 := Lib.hid M11.out.drew
    have X12 := mu_of M12
    have r7 := mu_e (W := W) (B := B) (P := P) (s := s6) (x := X) (i := 7) (v := .int .u64 (s6.bs.hi : Int)) rfl
    have r8 := mu_e (W := W) (B := B) (P := P) (s := s6) (x := X) (i := 8) (v := .int .u64 (s6.bs.lo : Int)) rfl
    have r9 := mu_e (W := W) (B := B) (P := P) (s := s6) (x := X) (i := 9) (v := .int .u64 (s6.bs.bw : Int)) rfl
    have f7 := mu_f (W := W) (B := B) (P := P) (s := s6) (x := X) 7
    have f8 := mu_f (W := W) (B := B) (P := P) (s := s6) (x := X) 8
    have f9 := mu_f (W := W) (B := B) (P := P) (s := s6) (x := X) 9
    go_region_with (first
      | (go_at_call 42; (refine (HPs.out _).mono ?_); rintro e w10 ⟨rfl, hb⟩; have M13 := Lib.hid (M12.out.to hb); clear hb))
    all_goals
      have M16 := Lib.hid (((M13.out.set (s' := { s6 with bs := ⟨bs7.hi, s6.bs.lo, s6.bs.bw⟩ }) 7 (.int .u64 (bs7.hi : Int)) rfl rfl rfl rfl rfl).set (s' := { s6 with bs := ⟨bs7.hi, bs7.lo, s6.bs.bw⟩ }) 8 (.int .u64 (bs7.lo : Int)) rfl rfl rfl rfl rfl).set (s' := { s6 with bs := bs7 }) 9 (.int .u64 (bs7.bw : Int)) rfl rfl rfl rfl rfl)
      have X16 := mu_of M16
      go_wp2_with fail
      refine (HOp.out _ M16.out.at_).mono ?_
      rintro e w12 ⟨rfl, hb⟩
      have M14 := Lib.hid (M16.out.to hb)
      have c18 := M14.out.at_.e.cell (i := 18) (v := .int .u64 (s6.cwnd : Int)) rfl
      have y18 := M14.out.at_.e.free 18
      have M15 := Lib.hid (M14.out.set (s' := { s6 with bs := bs7, cwnd := op }) 18 (.int .u64 (op : Int)) rfl rfl rfl rfl rfl)
      clear hb
      go_wp2_with fail
      go_end0
      exact M15.out.post
  · subst hz
    go_wp2_with fail
    refine (HOp.out _ M11.out.at_).mono ?_
    rintro e w12 ⟨rfl, hb⟩
    have M14 := Lib.hid (M11.out.to hb)
    have c18 := M14.out.at_.e.cell (i := 18) (v := .int .u64 (s7.cwnd : Int)) rfl
    have y18 := M14.out.at_.e.free 18
    have M15 := Lib.hid (M14.out.set (s' := { s7 with cwnd := op }) 18 (.int .u64 (op : Int)) rfl rfl rfl rfl rfl)
    clear hb
    go_wp2_with fail
    go_end0
    exact M15.out.post

set_option maxHeartbeats 4000000 in
set_option maxRecDepth 100000 in
theorem en_On_tf {B : Nat} {P : EP} {s s1 s2 s3 s4 s5 s6 s7 : ES} {now sd si sr rt dl ac lo fl best op : Nat} {sl : Bool} {sg : Array Value} {t : Int} {bs7 : BS} (W : World) (h : EngAt W B P s)
    (HCo : ∀ w, EngAt w B P s → Calls Tryz.prog 33 #[.pointer (some ⟨P.b, 0, none⟩), EvS.val ⟨now, sd, si, sr, rt, sl, true, dl, ac, lo, fl⟩] w (EPost B P (.returned (.tuple #[])) s1 w))
    (HMe : ∀ w, EngAt w B P s1 → Calls Tryz.prog 34 #[.pointer (some ⟨P.b, 0, none⟩), EvS.val ⟨now, sd, si, sr, rt, sl, true, dl, ac, lo, fl⟩] w (EPost B P (.returned (.bool false)) s2 w))
    (HBe : ∀ w, EngAt w B P s2 → Calls Tryz.prog 37 #[.pointer (some ⟨P.y, 0, none⟩)] w fun e w' => e = .returned (.int .u64 (best : Int)) ∧ Below w.heap.size w w')
    (HPu : ∀ w, EngAt w B P s2 → Calls Tryz.prog 36 #[.pointer (some ⟨P.p, 0, none⟩), .int .u64 (best : Int), .bool false, .bool sl] w fun e w' => e = (.returned (.tuple #[])) ∧ MutN w B P s4 w')
    (HSi : ∀ w, EngAt w B P s4 → Calls Tryz.prog 41 #[.pointer (some ⟨P.b, 0, none⟩), EvS.val ⟨now, sd, si, sr, rt, sl, true, dl, ac, lo, fl⟩, .bool false, .bool false] w fun e w' => e = .returned (.agg sg) ∧ Below w.heap.size w w')
    (HNe : ∀ w, Calls Tryz.prog 40 #[.int .i64 s4.st, .agg sg] w fun e w' => e = .returned (.int .i64 t) ∧ Below w.heap.size w w')
    (HTu : ∀ w, EngAt w B P s4 → Calls Tryz.prog 39 #[.pointer (some ⟨P.b, 0, none⟩), .int .u64 (now : Int), .int .i64 t] w (EPost B P (.returned (.tuple #[])) s6 w))
    (HPs : ∀ w, Calls Tryz.prog 42 #[.agg #[.int .u64 (s6.bs.hi : Int), .int .u64 (s6.bs.lo : Int), .int .u64 (s6.bs.bw : Int)], .int .u64 (ac : Int)] w fun e w' => e = .returned (.agg #[.int .u64 (bs7.hi : Int), .int .u64 (bs7.lo : Int), .int .u64 (bs7.bw : Int)]) ∧ Below w.heap.size w w')
    (HOp : ∀ w, EngAt w B P s7 → Calls Tryz.prog 43 #[.pointer (some ⟨P.b, 0, none⟩), .int .u64 (ac : Int)] w fun e w' => e = .returned (.int .u64 (op : Int)) ∧ Below w.heap.size w w')
    (zz : ((s6.st == 5) = true ∧ s7 = { s6 with bs := bs7 }) ∨ ((s6.st == 5) = false ∧ s7 = s6))
    : Calls Tryz.prog 8 #[.pointer (some ⟨P.b, 0, none⟩), EvS.val ⟨now, sd, si, sr, rt, sl, true, dl, ac, lo, fl⟩] W (EPost B P (.returned (.tuple #[])) { s7 with cwnd := op } W) := by
  have M0 := Lib.hid (MutI.start h ⟨now, sd, si, sr, rt, sl, true, dl, ac, lo, fl⟩)
  have HCo := Lib.hid HCo
  have HMe := Lib.hid HMe
  have HBe := Lib.hid HBe
  have HPu := Lib.hid HPu
  have HSi := Lib.hid HSi
  have HNe := Lib.hid HNe
  have HTu := Lib.hid HTu
  have HPs := Lib.hid HPs
  have HOp := Lib.hid HOp
  have v0 := mu_ev (W := W) (B := B) (P := P) (x := ⟨now, sd, si, sr, rt, sl, true, dl, ac, lo, fl⟩) (i := 0) (v := .int .u64 (now : Int)) rfl
  have v1 := mu_ev (W := W) (B := B) (P := P) (x := ⟨now, sd, si, sr, rt, sl, true, dl, ac, lo, fl⟩) (i := 1) (v := .int .u64 (sd : Int)) rfl
  have v2 := mu_ev (W := W) (B := B) (P := P) (x := ⟨now, sd, si, sr, rt, sl, true, dl, ac, lo, fl⟩) (i := 2) (v := .int .u64 (si : Int)) rfl
  have v3 := mu_ev (W := W) (B := B) (P := P) (x := ⟨now, sd, si, sr, rt, sl, true, dl, ac, lo, fl⟩) (i := 3) (v := .int .u64 (sr : Int)) rfl
  have v4 := mu_ev (W := W) (B := B) (P := P) (x := ⟨now, sd, si, sr, rt, sl, true, dl, ac, lo, fl⟩) (i := 4) (v := .int .u64 (rt : Int)) rfl
  have v5 := mu_ev (W := W) (B := B) (P := P) (x := ⟨now, sd, si, sr, rt, sl, true, dl, ac, lo, fl⟩) (i := 5) (v := .bool sl) rfl
  have v6 := mu_ev (W := W) (B := B) (P := P) (x := ⟨now, sd, si, sr, rt, sl, true, dl, ac, lo, fl⟩) (i := 6) (v := .bool true) rfl
  have v7 := mu_ev (W := W) (B := B) (P := P) (x := ⟨now, sd, si, sr, rt, sl, true, dl, ac, lo, fl⟩) (i := 7) (v := .int .u64 (dl : Int)) rfl
  have v8 := mu_ev (W := W) (B := B) (P := P) (x := ⟨now, sd, si, sr, rt, sl, true, dl, ac, lo, fl⟩) (i := 8) (v := .int .u64 (ac : Int)) rfl
  have v9 := mu_ev (W := W) (B := B) (P := P) (x := ⟨now, sd, si, sr, rt, sl, true, dl, ac, lo, fl⟩) (i := 9) (v := .int .u64 (lo : Int)) rfl
  have v10 := mu_ev (W := W) (B := B) (P := P) (x := ⟨now, sd, si, sr, rt, sl, true, dl, ac, lo, fl⟩) (i := 10) (v := .int .u64 (fl : Int)) rfl
  have p6 := mu_p (W := W) (B := B) (P := P) (x := ⟨now, sd, si, sr, rt, sl, true, dl, ac, lo, fl⟩) (i := 6) (v := .pointer (some ⟨P.p, 0, none⟩)) (fun _ => rfl)
  have p11 := mu_p (W := W) (B := B) (P := P) (x := ⟨now, sd, si, sr, rt, sl, true, dl, ac, lo, fl⟩) (i := 11) (v := .pointer (some ⟨P.y, 0, none⟩)) (fun _ => rfl)
  clear h
  unfold EvS.val at HCo HMe HSi ⊢
  generalize hX : (EvS.mk now sd si sr rt sl true dl ac lo fl) = X at *
  have HE : Hid (X.cells = #[.int .u64 (now : Int), .int .u64 (sd : Int), .int .u64 (si : Int), .int .u64 (sr : Int), .int .u64 (rt : Int), .bool sl, .bool true, .int .u64 (dl : Int), .int .u64 (ac : Int), .int .u64 (lo : Int), .int .u64 (fl : Int)]) := Lib.hid (by rw [← hX]; rfl)
  clear hX
  rw [HE.out] at M0 HCo HMe HSi ⊢
  go_enter Tryz.func8, Tryz.ntmps8
  go_wp2_with fail
  generalize W.alloc (.cells #[.int .u64 (now : Int), .int .u64 (sd : Int), .int .u64 (si : Int), .int .u64 (sr : Int), .int .u64 (rt : Int), .bool sl, .bool true, .int .u64 (dl : Int), .int .u64 (ac : Int), .int .u64 (lo : Int), .int .u64 (fl : Int)] 39) = w0 at *
  refine (HCo.out _ M0.out.at_).mono ?_
  rintro e w1 h1
  obtain rfl := h1.e
  have M1 := Lib.hid (M0.out.step h1)
  have X1 := mu_of M1
  clear h1 M0 HCo
  go_wp2_with fail
  refine (HMe.out _ M1.out.at_).mono ?_
  rintro e w2 h1
  obtain rfl := h1.e
  have M2 := Lib.hid (M1.out.step h1)
  have X2 := mu_of M2
  clear h1 M1 X1 HMe
  go_wp2_with fail
  have M4 := Lib.hid M2.out.drew
  have X4 := mu_of M4
  go_region_held3 (fun w' => Hid (MutX W B P X w'))
    (first | with_reducible exact X4 | with_reducible exact X5 | with_reducible exact X6)
    (first
      | (go_at_call 37; (with_reducible refine (HBe.out _ M4.out.at_).mono ?_); rintro e w4 ⟨rfl, hb⟩; have M5 := Lib.hid (M4.out.to hb); have X5 := mu_of M5; clear hb)
      | (go_at_call 36; (with_reducible refine (HPu.out _ M5.out.at_).mono ?_); rintro e w5 ⟨rfl, hn⟩; have M6 := Lib.hid (MutN.mi M5.out hn); have X6 := mu_of M6; clear hn))
  clear M2 X2 M4 X4 M5 X5 HBe HPu
  go_wp2_with fail
  have M8 := Lib.hid M6.out.drew
  have X8 := mu_of M8
  have r13 := mu_e (W := W) (B := B) (P := P) (s := s4) (x := X) (i := 13) (v := .int .i64 s4.st) rfl
  clear M6 X6
  refine wp_region_held_drew (S := (fun w' => Hid (MutX W B P X w'))) (by kernel_rfl) X8 (fun hHeld => ?_)
  simp only [List.size_toArray, List.length_cons, List.length_nil, Nat.reduceAdd, Array.replicate_succ, Array.replicate_zero, List.push_toArray, List.nil_append, List.cons_append]
  refine wpAnyH_take (i := 0) (oi := ⟨some 39, _, _, _, _, _⟩) (v := ?v11) rfl (by kernel_rfl) (by kernel_rfl) (by kernel_rfl) (fun _ _ _ h => h) (Or.inl ⟨by rfl, ?y11⟩) (by assumption) ?r11
  case y11 => intro w hSw; clear hSw; go_simp; (try with_reducible rfl)
  simp only [Act.put, List.setIfInBounds_toArray, List.set_cons_zero, List.set_cons_succ]
  refine wpAnyH_take (i := 1) (oi := ⟨some 40, _, _, _, _, _⟩) (v := ?v12) rfl (by kernel_rfl) (by kernel_rfl) (by kernel_rfl) (fun _ _ _ h => h) (Or.inl ⟨by rfl, ?y12⟩) (by assumption) ?r12
  case y12 => intro w hSw; clear hSw; go_simp; (try with_reducible rfl)
  simp only [Act.put, List.setIfInBounds_toArray, List.set_cons_zero, List.set_cons_succ]
  refine wpAnyH_take (i := 2) (oi := ⟨some 41, _, _, _, _, _⟩) (v := ?v13) rfl (by kernel_rfl) (by kernel_rfl) (by kernel_rfl) (fun _ _ _ h => h) (Or.inl ⟨by rfl, ?y13⟩) (by assumption) ?r13
  case y13 => intro w hSw; skip; go_simp; (try with_reducible rfl)
  simp only [Act.put, List.setIfInBounds_toArray, List.set_cons_zero, List.set_cons_succ]
  refine wpAnyH_take (i := 3) (oi := ⟨some 42, _, _, _, _, _⟩) (v := ?v14) rfl (by kernel_rfl) (by kernel_rfl) (by kernel_rfl) (fun _ _ _ h => h) (Or.inl ⟨by rfl, ?y14⟩) (by assumption) ?r14
  case y14 => intro w hSw; clear hSw; go_simp; (try with_reducible rfl)
  simp only [Act.put, List.setIfInBounds_toArray, List.set_cons_zero, List.set_cons_succ]
  refine wpAnyH_take (i := 4) (oi := ⟨some 43, _, _, _, _, _⟩) (v := ?v15) rfl (by kernel_rfl) (by kernel_rfl) (by kernel_rfl) (fun _ _ _ h => h) (Or.inl ⟨by rfl, ?y15⟩) (by assumption) ?r15
  case y15 => intro w hSw; clear hSw; go_simp; (try with_reducible rfl)
  simp only [Act.put, List.setIfInBounds_toArray, List.set_cons_zero, List.set_cons_succ]
  refine wpAnyH_take (i := 5) (oi := ⟨some 44, _, _, _, _, _⟩) (v := ?v16) rfl (by kernel_rfl) (by kernel_rfl) (by kernel_rfl) (fun _ _ _ h => h) (Or.inl ⟨by rfl, ?y16⟩) (by assumption) ?r16
  case y16 => intro w hSw; clear hSw; go_simp; (try with_reducible rfl)
  simp only [Act.put, List.setIfInBounds_toArray, List.set_cons_zero, List.set_cons_succ]
  refine wpAnyH_take (i := 7) (oi := ⟨some 46, _, _, _, _, _⟩) (v := ?v17) rfl (by kernel_rfl) (by kernel_rfl) (by kernel_rfl) (fun _ _ _ h => h) (Or.inl ⟨by rfl, ?y17⟩) (by assumption) ?r17
  case y17 => intro w hSw; clear hSw; go_simp; (try with_reducible rfl)
  simp only [Act.put, List.setIfInBounds_toArray, List.set_cons_zero, List.set_cons_succ]
  refine wpAnyH_take (i := 8) (oi := ⟨some 47, _, _, _, _, _⟩) (v := ?v18) rfl (by kernel_rfl) (by kernel_rfl) (by kernel_rfl) (fun _ _ _ h => h) (Or.inl ⟨by rfl, ?y18⟩) (by assumption) ?r18
  case y18 => intro w hSw; skip; go_simp; (try with_reducible rfl)
  simp only [Act.put, List.setIfInBounds_toArray, List.set_cons_zero, List.set_cons_succ]
  refine wpAnyH_take (i := 9) (oi := ⟨some 48, _, _, _, _, _⟩) (v := ?v19) rfl (by kernel_rfl) (by kernel_rfl) (by kernel_rfl) (fun _ _ _ h => h) (Or.inl ⟨by rfl, ?y19⟩) (by assumption) ?r19
  case y19 => intro w hSw; clear hSw; go_simp; (try with_reducible rfl)
  simp only [Act.put, List.setIfInBounds_toArray, List.set_cons_zero, List.set_cons_succ]
  refine wpAnyH_take (i := 10) (oi := ⟨some 49, _, _, _, _, _⟩) (v := ?v20) rfl (by kernel_rfl) (by kernel_rfl) (by kernel_rfl) (fun _ _ _ h => h) (Or.inl ⟨by rfl, ?y20⟩) (by assumption) ?r20
  case y20 => intro w hSw; clear hSw; go_simp; (try with_reducible rfl)
  simp only [Act.put, List.setIfInBounds_toArray, List.set_cons_zero, List.set_cons_succ]
  refine wpAnyH_ready (rs := [6, 11]) (by kernel_rfl) (by simp) ?_
  refine AllReadyH.cons (o := ⟨some 45, _, _, _, _, _⟩) rfl (fun K hK => ?_) ?_
  · go_simp
    refine hK.out _ _ hHeld (fun hHeld => ?_)
    clear hK
    try simp only [List.setIfInBounds_toArray, List.set_cons_zero, List.set_cons_succ]
    refine wpAnyH_ready (rs := [11]) (by kernel_rfl) (by simp) ?_
    refine AllReadyH.cons (o := ⟨some 50, _, _, _, _, _⟩) rfl (fun K hK => ?_) AllReadyH.nil
    go_simp
    refine (HSi.out _ (Hid.out (by assumption) : MutI W B P s4 X _).at_).mono ?_
    rintro e w7 ⟨rfl, hb⟩
    have M9 := Lib.hid ((Hid.out (by assumption) : MutI W B P s4 X _).to hb)
    go_wp2_with fail
    refine hK.out _ _ (mu_of M9) (fun hHeld => ?_)
    clear hK
    try simp only [List.setIfInBounds_toArray, List.set_cons_zero, List.set_cons_succ]
    refine wpAnyH_ready (rs := [12]) (by kernel_rfl) (by simp) ?_
    refine AllReadyH.cons (o := ⟨some 51, _, _, _, _, _⟩) rfl (fun K hK => ?_) AllReadyH.nil
    go_simp
    refine (HNe.out _).mono ?_
    rintro e w8 ⟨rfl, hb⟩
    have M10 := Lib.hid ((Hid.out (by assumption) : MutI W B P s4 X _).to hb)
    go_wp2_with fail
    refine hK.out _ _ (mu_of M10) (fun hHeld => ?_)
    clear hK
    try simp only [List.setIfInBounds_toArray, List.set_cons_zero, List.set_cons_succ]
    refine wpAnyH_ready (rs := [13]) (by kernel_rfl) (by simp) ?_
    refine AllReadyH.cons (o := ⟨some 52, _, _, _, _, _⟩) rfl (fun K hK => ?_) AllReadyH.nil
    go_simp
    refine (HTu.out _ (Hid.out (by assumption) : MutI W B P s4 X _).at_).mono ?_
    rintro e w9 h1
    obtain rfl := h1.e
    have M11 := Lib.hid ((Hid.out (by assumption) : MutI W B P s4 X _).step h1)
    go_wp2_with fail
    refine hK.out _ _ (mu_of M11) (fun hHeld => ?_)
    clear hK
    try simp only [List.setIfInBounds_toArray, List.set_cons_zero, List.set_cons_succ]
    refine wpAnyH_done (by kernel_rfl) ?_ _
    have X11 := mu_of M11
    have c13 := M11.out.at_.e.cell (i := 13) (v := .int .i64 s6.st) rfl
    rcases zz with ⟨z5, hz⟩ | ⟨z5, hz⟩
    · subst hz
      have v7a := M11.out.drew.at_.e.cell (i := 7) (v := .int .u64 (s6.bs.hi : Int)) rfl
      go_wp2_with fail
      have M12 := Lib.hid M11.out.drew
      have X12 := mu_of M12
      have r7 := mu_e (W := W) (B := B) (P := P) (s := s6) (x := X) (i := 7) (v := .int .u64 (s6.bs.hi : Int)) rfl
      have r8 := mu_e (W := W) (B := B) (P := P) (s := s6) (x := X) (i := 8) (v := .int .u64 (s6.bs.lo : Int)) rfl
      have r9 := mu_e (W := W) (B := B) (P := P) (s := s6) (x := X) (i := 9) (v := .int .u64 (s6.bs.bw : Int)) rfl
      have f7 := mu_f (W := W) (B := B) (P := P) (s := s6) (x := X) 7
      have f8 := mu_f (W := W) (B := B) (P := P) (s := s6) (x := X) 8
      have f9 := mu_f (W := W) (B := B) (P := P) (s := s6) (x := X) 9
      go_region_with (first
        | (go_at_call 42; (refine (HPs.out _).mono ?_); rintro e w10 ⟨rfl, hb⟩; have M13 := Lib.hid (M12.out.to hb); clear hb))
      all_goals
        have M16 := Lib.hid (((M13.out.set (s' := { s6 with bs := ⟨bs7.hi, s6.bs.lo, s6.bs.bw⟩ }) 7 (.int .u64 (bs7.hi : Int)) rfl rfl rfl rfl rfl).set (s' := { s6 with bs := ⟨bs7.hi, bs7.lo, s6.bs.bw⟩ }) 8 (.int .u64 (bs7.lo : Int)) rfl rfl rfl rfl rfl).set (s' := { s6 with bs := bs7 }) 9 (.int .u64 (bs7.bw : Int)) rfl rfl rfl rfl rfl)
        have X16 := mu_of M16
        go_wp2_with fail
        refine (HOp.out _ M16.out.at_).mono ?_
        rintro e w12 ⟨rfl, hb⟩
        have M14 := Lib.hid (M16.out.to hb)
        have c18 := M14.out.at_.e.cell (i := 18) (v := .int .u64 (s6.cwnd : Int)) rfl
        have y18 := M14.out.at_.e.free 18
        have M15 := Lib.hid (M14.out.set (s' := { s6 with bs := bs7, cwnd := op }) 18 (.int .u64 (op : Int)) rfl rfl rfl rfl rfl)
        clear hb
        go_wp2_with fail
        go_end0
        exact M15.out.post
    · subst hz
      go_wp2_with fail
      refine (HOp.out _ M11.out.at_).mono ?_
      rintro e w12 ⟨rfl, hb⟩
      have M14 := Lib.hid (M11.out.to hb)
      have c18 := M14.out.at_.e.cell (i := 18) (v := .int .u64 (s7.cwnd : Int)) rfl
      have y18 := M14.out.at_.e.free 18
      have M15 := Lib.hid (M14.out.set (s' := { s7 with cwnd := op }) 18 (.int .u64 (op : Int)) rfl rfl rfl rfl rfl)
      clear hb
      go_wp2_with fail
      go_end0
      exact M15.out.post
  refine AllReadyH.cons (o := ⟨some 50, _, _, _, _, _⟩) rfl (fun K hK => ?_) AllReadyH.nil
  go_simp
  refine (HSi.out _ (Hid.out (by assumption) : MutI W B P s4 X _).at_).mono ?_
  rintro e w7 ⟨rfl, hb⟩
  have M9 := Lib.hid ((Hid.out (by assumption) : MutI W B P s4 X _).to hb)
  go_wp2_with fail
  refine hK.out _ _ (mu_of M9) (fun hHeld => ?_)
  clear hK
  try simp only [List.setIfInBounds_toArray, List.set_cons_zero, List.set_cons_succ]
  refine wpAnyH_ready (rs := [6]) (by kernel_rfl) (by simp) ?_
  refine AllReadyH.cons (o := ⟨some 45, _, _, _, _, _⟩) rfl (fun K hK => ?_) AllReadyH.nil
  go_simp
  refine hK.out _ _ hHeld (fun hHeld => ?_)
  clear hK
  try simp only [List.setIfInBounds_toArray, List.set_cons_zero, List.set_cons_succ]
  refine wpAnyH_ready (rs := [12]) (by kernel_rfl) (by simp) ?_
  refine AllReadyH.cons (o := ⟨some 51, _, _, _, _, _⟩) rfl (fun K hK => ?_) AllReadyH.nil
  go_simp
  refine (HNe.out _).mono ?_
  rintro e w8 ⟨rfl, hb⟩
  have M10 := Lib.hid ((Hid.out (by assumption) : MutI W B P s4 X _).to hb)
  go_wp2_with fail
  refine hK.out _ _ (mu_of M10) (fun hHeld => ?_)
  clear hK
  try simp only [List.setIfInBounds_toArray, List.set_cons_zero, List.set_cons_succ]
  refine wpAnyH_ready (rs := [13]) (by kernel_rfl) (by simp) ?_
  refine AllReadyH.cons (o := ⟨some 52, _, _, _, _, _⟩) rfl (fun K hK => ?_) AllReadyH.nil
  go_simp
  refine (HTu.out _ (Hid.out (by assumption) : MutI W B P s4 X _).at_).mono ?_
  rintro e w9 h1
  obtain rfl := h1.e
  have M11 := Lib.hid ((Hid.out (by assumption) : MutI W B P s4 X _).step h1)
  go_wp2_with fail
  refine hK.out _ _ (mu_of M11) (fun hHeld => ?_)
  clear hK
  try simp only [List.setIfInBounds_toArray, List.set_cons_zero, List.set_cons_succ]
  refine wpAnyH_done (by kernel_rfl) ?_ _
  have X11 := mu_of M11
  have c13 := M11.out.at_.e.cell (i := 13) (v := .int .i64 s6.st) rfl
  rcases zz with ⟨z5, hz⟩ | ⟨z5, hz⟩
  · subst hz
    have v7a := M11.out.drew.at_.e.cell (i := 7) (v := .int .u64 (s6.bs.hi : Int)) rfl
    go_wp2_with fail
    have M12 := Lib.hid M11.out.drew
    have X12 := mu_of M12
    have r7 := mu_e (W := W) (B := B) (P := P) (s := s6) (x := X) (i := 7) (v := .int .u64 (s6.bs.hi : Int)) rfl
    have r8 := mu_e (W := W) (B := B) (P := P) (s := s6) (x := X) (i := 8) (v := .int .u64 (s6.bs.lo : Int)) rfl
    have r9 := mu_e (W := W) (B := B) (P := P) (s := s6) (x := X) (i := 9) (v := .int .u64 (s6.bs.bw : Int)) rfl
    have f7 := mu_f (W := W) (B := B) (P := P) (s := s6) (x := X) 7
    have f8 := mu_f (W := W) (B := B) (P := P) (s := s6) (x := X) 8
    have f9 := mu_f (W := W) (B := B) (P := P) (s := s6) (x := X) 9
    go_region_with (first
      | (go_at_call 42; (refine (HPs.out _).mono ?_); rintro e w10 ⟨rfl, hb⟩; have M13 := Lib.hid (M12.out.to hb); clear hb))
    all_goals
      have M16 := Lib.hid (((M13.out.set (s' := { s6 with bs := ⟨bs7.hi, s6.bs.lo, s6.bs.bw⟩ }) 7 (.int .u64 (bs7.hi : Int)) rfl rfl rfl rfl rfl).set (s' := { s6 with bs := ⟨bs7.hi, bs7.lo, s6.bs.bw⟩ }) 8 (.int .u64 (bs7.lo : Int)) rfl rfl rfl rfl rfl).set (s' := { s6 with bs := bs7 }) 9 (.int .u64 (bs7.bw : Int)) rfl rfl rfl rfl rfl)
      have X16 := mu_of M16
      go_wp2_with fail
      refine (HOp.out _ M16.out.at_).mono ?_
      rintro e w12 ⟨rfl, hb⟩
      have M14 := Lib.hid (M16.out.to hb)
      have c18 := M14.out.at_.e.cell (i := 18) (v := .int .u64 (s6.cwnd : Int)) rfl
      have y18 := M14.out.at_.e.free 18
      have M15 := Lib.hid (M14.out.set (s' := { s6 with bs := bs7, cwnd := op }) 18 (.int .u64 (op : Int)) rfl rfl rfl rfl rfl)
      clear hb
      go_wp2_with fail
      go_end0
      exact M15.out.post
  · subst hz
    go_wp2_with fail
    refine (HOp.out _ M11.out.at_).mono ?_
    rintro e w12 ⟨rfl, hb⟩
    have M14 := Lib.hid (M11.out.to hb)
    have c18 := M14.out.at_.e.cell (i := 18) (v := .int .u64 (s7.cwnd : Int)) rfl
    have y18 := M14.out.at_.e.free 18
    have M15 := Lib.hid (M14.out.set (s' := { s7 with cwnd := op }) 18 (.int .u64 (op : Int)) rfl rfl rfl rfl rfl)
    clear hb
    go_wp2_with fail
    go_end0
    exact M15.out.post

set_option maxHeartbeats 4000000 in
set_option maxRecDepth 100000 in
theorem en_On_tt {B : Nat} {P : EP} {s s1 s2 s3 s4 s5 s6 s7 : ES} {now sd si sr rt dl ac lo fl best op : Nat} {sl : Bool} {sg : Array Value} {t : Int} {bs7 : BS} (W : World) (h : EngAt W B P s)
    (HCo : ∀ w, EngAt w B P s → Calls Tryz.prog 33 #[.pointer (some ⟨P.b, 0, none⟩), EvS.val ⟨now, sd, si, sr, rt, sl, true, dl, ac, lo, fl⟩] w (EPost B P (.returned (.tuple #[])) s1 w))
    (HMe : ∀ w, EngAt w B P s1 → Calls Tryz.prog 34 #[.pointer (some ⟨P.b, 0, none⟩), EvS.val ⟨now, sd, si, sr, rt, sl, true, dl, ac, lo, fl⟩] w (EPost B P (.returned (.bool true)) s2 w))
    (HSe : ∀ w, EngAt w B P s2 → Calls Tryz.prog 35 #[.pointer (some ⟨P.b, 0, none⟩)] w (EPost B P (.returned (.bool false)) s3 w))
    (HBe : ∀ w, EngAt w B P s3 → Calls Tryz.prog 37 #[.pointer (some ⟨P.y, 0, none⟩)] w fun e w' => e = .returned (.int .u64 (best : Int)) ∧ Below w.heap.size w w')
    (HPu : ∀ w, EngAt w B P s3 → Calls Tryz.prog 36 #[.pointer (some ⟨P.p, 0, none⟩), .int .u64 (best : Int), .bool true, .bool sl] w fun e w' => e = (.returned (.tuple #[])) ∧ MutN w B P s4 w')
    (HSi : ∀ w, EngAt w B P s4 → Calls Tryz.prog 41 #[.pointer (some ⟨P.b, 0, none⟩), EvS.val ⟨now, sd, si, sr, rt, sl, true, dl, ac, lo, fl⟩, .bool true, .bool false] w fun e w' => e = .returned (.agg sg) ∧ Below w.heap.size w w')
    (HNe : ∀ w, Calls Tryz.prog 40 #[.int .i64 s4.st, .agg sg] w fun e w' => e = .returned (.int .i64 t) ∧ Below w.heap.size w w')
    (HTu : ∀ w, EngAt w B P s4 → Calls Tryz.prog 39 #[.pointer (some ⟨P.b, 0, none⟩), .int .u64 (now : Int), .int .i64 t] w (EPost B P (.returned (.tuple #[])) s6 w))
    (HPs : ∀ w, Calls Tryz.prog 42 #[.agg #[.int .u64 (s6.bs.hi : Int), .int .u64 (s6.bs.lo : Int), .int .u64 (s6.bs.bw : Int)], .int .u64 (ac : Int)] w fun e w' => e = .returned (.agg #[.int .u64 (bs7.hi : Int), .int .u64 (bs7.lo : Int), .int .u64 (bs7.bw : Int)]) ∧ Below w.heap.size w w')
    (HOp : ∀ w, EngAt w B P s7 → Calls Tryz.prog 43 #[.pointer (some ⟨P.b, 0, none⟩), .int .u64 (ac : Int)] w fun e w' => e = .returned (.int .u64 (op : Int)) ∧ Below w.heap.size w w')
    (zz : ((s6.st == 5) = true ∧ s7 = { s6 with bs := bs7 }) ∨ ((s6.st == 5) = false ∧ s7 = s6))
    : Calls Tryz.prog 8 #[.pointer (some ⟨P.b, 0, none⟩), EvS.val ⟨now, sd, si, sr, rt, sl, true, dl, ac, lo, fl⟩] W (EPost B P (.returned (.tuple #[])) { s7 with cwnd := op } W) := by
  have M0 := Lib.hid (MutI.start h ⟨now, sd, si, sr, rt, sl, true, dl, ac, lo, fl⟩)
  have HCo := Lib.hid HCo
  have HMe := Lib.hid HMe
  have HSe := Lib.hid HSe
  have HBe := Lib.hid HBe
  have HPu := Lib.hid HPu
  have HSi := Lib.hid HSi
  have HNe := Lib.hid HNe
  have HTu := Lib.hid HTu
  have HPs := Lib.hid HPs
  have HOp := Lib.hid HOp
  have v0 := mu_ev (W := W) (B := B) (P := P) (x := ⟨now, sd, si, sr, rt, sl, true, dl, ac, lo, fl⟩) (i := 0) (v := .int .u64 (now : Int)) rfl
  have v1 := mu_ev (W := W) (B := B) (P := P) (x := ⟨now, sd, si, sr, rt, sl, true, dl, ac, lo, fl⟩) (i := 1) (v := .int .u64 (sd : Int)) rfl
  have v2 := mu_ev (W := W) (B := B) (P := P) (x := ⟨now, sd, si, sr, rt, sl, true, dl, ac, lo, fl⟩) (i := 2) (v := .int .u64 (si : Int)) rfl
  have v3 := mu_ev (W := W) (B := B) (P := P) (x := ⟨now, sd, si, sr, rt, sl, true, dl, ac, lo, fl⟩) (i := 3) (v := .int .u64 (sr : Int)) rfl
  have v4 := mu_ev (W := W) (B := B) (P := P) (x := ⟨now, sd, si, sr, rt, sl, true, dl, ac, lo, fl⟩) (i := 4) (v := .int .u64 (rt : Int)) rfl
  have v5 := mu_ev (W := W) (B := B) (P := P) (x := ⟨now, sd, si, sr, rt, sl, true, dl, ac, lo, fl⟩) (i := 5) (v := .bool sl) rfl
  have v6 := mu_ev (W := W) (B := B) (P := P) (x := ⟨now, sd, si, sr, rt, sl, true, dl, ac, lo, fl⟩) (i := 6) (v := .bool true) rfl
  have v7 := mu_ev (W := W) (B := B) (P := P) (x := ⟨now, sd, si, sr, rt, sl, true, dl, ac, lo, fl⟩) (i := 7) (v := .int .u64 (dl : Int)) rfl
  have v8 := mu_ev (W := W) (B := B) (P := P) (x := ⟨now, sd, si, sr, rt, sl, true, dl, ac, lo, fl⟩) (i := 8) (v := .int .u64 (ac : Int)) rfl
  have v9 := mu_ev (W := W) (B := B) (P := P) (x := ⟨now, sd, si, sr, rt, sl, true, dl, ac, lo, fl⟩) (i := 9) (v := .int .u64 (lo : Int)) rfl
  have v10 := mu_ev (W := W) (B := B) (P := P) (x := ⟨now, sd, si, sr, rt, sl, true, dl, ac, lo, fl⟩) (i := 10) (v := .int .u64 (fl : Int)) rfl
  have p6 := mu_p (W := W) (B := B) (P := P) (x := ⟨now, sd, si, sr, rt, sl, true, dl, ac, lo, fl⟩) (i := 6) (v := .pointer (some ⟨P.p, 0, none⟩)) (fun _ => rfl)
  have p11 := mu_p (W := W) (B := B) (P := P) (x := ⟨now, sd, si, sr, rt, sl, true, dl, ac, lo, fl⟩) (i := 11) (v := .pointer (some ⟨P.y, 0, none⟩)) (fun _ => rfl)
  clear h
  unfold EvS.val at HCo HMe HSi ⊢
  generalize hX : (EvS.mk now sd si sr rt sl true dl ac lo fl) = X at *
  have HE : Hid (X.cells = #[.int .u64 (now : Int), .int .u64 (sd : Int), .int .u64 (si : Int), .int .u64 (sr : Int), .int .u64 (rt : Int), .bool sl, .bool true, .int .u64 (dl : Int), .int .u64 (ac : Int), .int .u64 (lo : Int), .int .u64 (fl : Int)]) := Lib.hid (by rw [← hX]; rfl)
  clear hX
  rw [HE.out] at M0 HCo HMe HSi ⊢
  go_enter Tryz.func8, Tryz.ntmps8
  go_wp2_with fail
  generalize W.alloc (.cells #[.int .u64 (now : Int), .int .u64 (sd : Int), .int .u64 (si : Int), .int .u64 (sr : Int), .int .u64 (rt : Int), .bool sl, .bool true, .int .u64 (dl : Int), .int .u64 (ac : Int), .int .u64 (lo : Int), .int .u64 (fl : Int)] 39) = w0 at *
  refine (HCo.out _ M0.out.at_).mono ?_
  rintro e w1 h1
  obtain rfl := h1.e
  have M1 := Lib.hid (M0.out.step h1)
  have X1 := mu_of M1
  clear h1 M0 HCo
  go_wp2_with fail
  refine (HMe.out _ M1.out.at_).mono ?_
  rintro e w2 h1
  obtain rfl := h1.e
  have M2 := Lib.hid (M1.out.step h1)
  have X2 := mu_of M2
  clear h1 M1 X1 HMe
  go_wp2_with fail
  refine (HSe.out _ M2.out.at_).mono ?_
  rintro e w3 h1
  obtain rfl := h1.e
  have M3 := Lib.hid (M2.out.step h1)
  have X3 := mu_of M3
  clear h1 M2 X2 HSe
  go_wp2_with fail
  have M4 := Lib.hid M3.out.drew
  have X4 := mu_of M4
  go_region_held3 (fun w' => Hid (MutX W B P X w'))
    (first | with_reducible exact X4 | with_reducible exact X5 | with_reducible exact X6)
    (first
      | (go_at_call 37; (with_reducible refine (HBe.out _ M4.out.at_).mono ?_); rintro e w4 ⟨rfl, hb⟩; have M5 := Lib.hid (M4.out.to hb); have X5 := mu_of M5; clear hb)
      | (go_at_call 36; (with_reducible refine (HPu.out _ M5.out.at_).mono ?_); rintro e w5 ⟨rfl, hn⟩; have M6 := Lib.hid (MutN.mi M5.out hn); have X6 := mu_of M6; clear hn))
  clear M3 X3 M4 X4 M5 X5 HBe HPu
  go_wp2_with fail
  have M8 := Lib.hid M6.out.drew
  have X8 := mu_of M8
  have r13 := mu_e (W := W) (B := B) (P := P) (s := s4) (x := X) (i := 13) (v := .int .i64 s4.st) rfl
  clear M6 X6
  refine wp_region_held_drew (S := (fun w' => Hid (MutX W B P X w'))) (by kernel_rfl) X8 (fun hHeld => ?_)
  simp only [List.size_toArray, List.length_cons, List.length_nil, Nat.reduceAdd, Array.replicate_succ, Array.replicate_zero, List.push_toArray, List.nil_append, List.cons_append]
  refine wpAnyH_take (i := 0) (oi := ⟨some 39, _, _, _, _, _⟩) (v := ?v21) rfl (by kernel_rfl) (by kernel_rfl) (by kernel_rfl) (fun _ _ _ h => h) (Or.inl ⟨by rfl, ?y21⟩) (by assumption) ?r21
  case y21 => intro w hSw; clear hSw; go_simp; (try with_reducible rfl)
  simp only [Act.put, List.setIfInBounds_toArray, List.set_cons_zero, List.set_cons_succ]
  refine wpAnyH_take (i := 1) (oi := ⟨some 40, _, _, _, _, _⟩) (v := ?v22) rfl (by kernel_rfl) (by kernel_rfl) (by kernel_rfl) (fun _ _ _ h => h) (Or.inl ⟨by rfl, ?y22⟩) (by assumption) ?r22
  case y22 => intro w hSw; clear hSw; go_simp; (try with_reducible rfl)
  simp only [Act.put, List.setIfInBounds_toArray, List.set_cons_zero, List.set_cons_succ]
  refine wpAnyH_take (i := 2) (oi := ⟨some 41, _, _, _, _, _⟩) (v := ?v23) rfl (by kernel_rfl) (by kernel_rfl) (by kernel_rfl) (fun _ _ _ h => h) (Or.inl ⟨by rfl, ?y23⟩) (by assumption) ?r23
  case y23 => intro w hSw; skip; go_simp; (try with_reducible rfl)
  simp only [Act.put, List.setIfInBounds_toArray, List.set_cons_zero, List.set_cons_succ]
  refine wpAnyH_take (i := 3) (oi := ⟨some 42, _, _, _, _, _⟩) (v := ?v24) rfl (by kernel_rfl) (by kernel_rfl) (by kernel_rfl) (fun _ _ _ h => h) (Or.inl ⟨by rfl, ?y24⟩) (by assumption) ?r24
  case y24 => intro w hSw; clear hSw; go_simp; (try with_reducible rfl)
  simp only [Act.put, List.setIfInBounds_toArray, List.set_cons_zero, List.set_cons_succ]
  refine wpAnyH_take (i := 4) (oi := ⟨some 43, _, _, _, _, _⟩) (v := ?v25) rfl (by kernel_rfl) (by kernel_rfl) (by kernel_rfl) (fun _ _ _ h => h) (Or.inl ⟨by rfl, ?y25⟩) (by assumption) ?r25
  case y25 => intro w hSw; clear hSw; go_simp; (try with_reducible rfl)
  simp only [Act.put, List.setIfInBounds_toArray, List.set_cons_zero, List.set_cons_succ]
  refine wpAnyH_take (i := 5) (oi := ⟨some 44, _, _, _, _, _⟩) (v := ?v26) rfl (by kernel_rfl) (by kernel_rfl) (by kernel_rfl) (fun _ _ _ h => h) (Or.inl ⟨by rfl, ?y26⟩) (by assumption) ?r26
  case y26 => intro w hSw; clear hSw; go_simp; (try with_reducible rfl)
  simp only [Act.put, List.setIfInBounds_toArray, List.set_cons_zero, List.set_cons_succ]
  refine wpAnyH_take (i := 7) (oi := ⟨some 46, _, _, _, _, _⟩) (v := ?v27) rfl (by kernel_rfl) (by kernel_rfl) (by kernel_rfl) (fun _ _ _ h => h) (Or.inl ⟨by rfl, ?y27⟩) (by assumption) ?r27
  case y27 => intro w hSw; clear hSw; go_simp; (try with_reducible rfl)
  simp only [Act.put, List.setIfInBounds_toArray, List.set_cons_zero, List.set_cons_succ]
  refine wpAnyH_take (i := 8) (oi := ⟨some 47, _, _, _, _, _⟩) (v := ?v28) rfl (by kernel_rfl) (by kernel_rfl) (by kernel_rfl) (fun _ _ _ h => h) (Or.inl ⟨by rfl, ?y28⟩) (by assumption) ?r28
  case y28 => intro w hSw; skip; go_simp; (try with_reducible rfl)
  simp only [Act.put, List.setIfInBounds_toArray, List.set_cons_zero, List.set_cons_succ]
  refine wpAnyH_take (i := 9) (oi := ⟨some 48, _, _, _, _, _⟩) (v := ?v29) rfl (by kernel_rfl) (by kernel_rfl) (by kernel_rfl) (fun _ _ _ h => h) (Or.inl ⟨by rfl, ?y29⟩) (by assumption) ?r29
  case y29 => intro w hSw; clear hSw; go_simp; (try with_reducible rfl)
  simp only [Act.put, List.setIfInBounds_toArray, List.set_cons_zero, List.set_cons_succ]
  refine wpAnyH_take (i := 10) (oi := ⟨some 49, _, _, _, _, _⟩) (v := ?v30) rfl (by kernel_rfl) (by kernel_rfl) (by kernel_rfl) (fun _ _ _ h => h) (Or.inl ⟨by rfl, ?y30⟩) (by assumption) ?r30
  case y30 => intro w hSw; clear hSw; go_simp; (try with_reducible rfl)
  simp only [Act.put, List.setIfInBounds_toArray, List.set_cons_zero, List.set_cons_succ]
  refine wpAnyH_ready (rs := [6, 11]) (by kernel_rfl) (by simp) ?_
  refine AllReadyH.cons (o := ⟨some 45, _, _, _, _, _⟩) rfl (fun K hK => ?_) ?_
  · go_simp
    refine hK.out _ _ hHeld (fun hHeld => ?_)
    clear hK
    try simp only [List.setIfInBounds_toArray, List.set_cons_zero, List.set_cons_succ]
    refine wpAnyH_ready (rs := [11]) (by kernel_rfl) (by simp) ?_
    refine AllReadyH.cons (o := ⟨some 50, _, _, _, _, _⟩) rfl (fun K hK => ?_) AllReadyH.nil
    go_simp
    refine (HSi.out _ (Hid.out (by assumption) : MutI W B P s4 X _).at_).mono ?_
    rintro e w7 ⟨rfl, hb⟩
    have M9 := Lib.hid ((Hid.out (by assumption) : MutI W B P s4 X _).to hb)
    go_wp2_with fail
    refine hK.out _ _ (mu_of M9) (fun hHeld => ?_)
    clear hK
    try simp only [List.setIfInBounds_toArray, List.set_cons_zero, List.set_cons_succ]
    refine wpAnyH_ready (rs := [12]) (by kernel_rfl) (by simp) ?_
    refine AllReadyH.cons (o := ⟨some 51, _, _, _, _, _⟩) rfl (fun K hK => ?_) AllReadyH.nil
    go_simp
    refine (HNe.out _).mono ?_
    rintro e w8 ⟨rfl, hb⟩
    have M10 := Lib.hid ((Hid.out (by assumption) : MutI W B P s4 X _).to hb)
    go_wp2_with fail
    refine hK.out _ _ (mu_of M10) (fun hHeld => ?_)
    clear hK
    try simp only [List.setIfInBounds_toArray, List.set_cons_zero, List.set_cons_succ]
    refine wpAnyH_ready (rs := [13]) (by kernel_rfl) (by simp) ?_
    refine AllReadyH.cons (o := ⟨some 52, _, _, _, _, _⟩) rfl (fun K hK => ?_) AllReadyH.nil
    go_simp
    refine (HTu.out _ (Hid.out (by assumption) : MutI W B P s4 X _).at_).mono ?_
    rintro e w9 h1
    obtain rfl := h1.e
    have M11 := Lib.hid ((Hid.out (by assumption) : MutI W B P s4 X _).step h1)
    go_wp2_with fail
    refine hK.out _ _ (mu_of M11) (fun hHeld => ?_)
    clear hK
    try simp only [List.setIfInBounds_toArray, List.set_cons_zero, List.set_cons_succ]
    refine wpAnyH_done (by kernel_rfl) ?_ _
    have X11 := mu_of M11
    have c13 := M11.out.at_.e.cell (i := 13) (v := .int .i64 s6.st) rfl
    rcases zz with ⟨z5, hz⟩ | ⟨z5, hz⟩
    · subst hz
      have v7a := M11.out.drew.at_.e.cell (i := 7) (v := .int .u64 (s6.bs.hi : Int)) rfl
      go_wp2_with fail
      have M12 := Lib.hid M11.out.drew
      have X12 := mu_of M12
      have r7 := mu_e (W := W) (B := B) (P := P) (s := s6) (x := X) (i := 7) (v := .int .u64 (s6.bs.hi : Int)) rfl
      have r8 := mu_e (W := W) (B := B) (P := P) (s := s6) (x := X) (i := 8) (v := .int .u64 (s6.bs.lo : Int)) rfl
      have r9 := mu_e (W := W) (B := B) (P := P) (s := s6) (x := X) (i := 9) (v := .int .u64 (s6.bs.bw : Int)) rfl
      have f7 := mu_f (W := W) (B := B) (P := P) (s := s6) (x := X) 7
      have f8 := mu_f (W := W) (B := B) (P := P) (s := s6) (x := X) 8
      have f9 := mu_f (W := W) (B := B) (P := P) (s := s6) (x := X) 9
      go_region_with (first
        | (go_at_call 42; (refine (HPs.out _).mono ?_); rintro e w10 ⟨rfl, hb⟩; have M13 := Lib.hid (M12.out.to hb); clear hb))
      all_goals
        have M16 := Lib.hid (((M13.out.set (s' := { s6 with bs := ⟨bs7.hi, s6.bs.lo, s6.bs.bw⟩ }) 7 (.int .u64 (bs7.hi : Int)) rfl rfl rfl rfl rfl).set (s' := { s6 with bs := ⟨bs7.hi, bs7.lo, s6.bs.bw⟩ }) 8 (.int .u64 (bs7.lo : Int)) rfl rfl rfl rfl rfl).set (s' := { s6 with bs := bs7 }) 9 (.int .u64 (bs7.bw : Int)) rfl rfl rfl rfl rfl)
        have X16 := mu_of M16
        go_wp2_with fail
        refine (HOp.out _ M16.out.at_).mono ?_
        rintro e w12 ⟨rfl, hb⟩
        have M14 := Lib.hid (M16.out.to hb)
        have c18 := M14.out.at_.e.cell (i := 18) (v := .int .u64 (s6.cwnd : Int)) rfl
        have y18 := M14.out.at_.e.free 18
        have M15 := Lib.hid (M14.out.set (s' := { s6 with bs := bs7, cwnd := op }) 18 (.int .u64 (op : Int)) rfl rfl rfl rfl rfl)
        clear hb
        go_wp2_with fail
        go_end0
        exact M15.out.post
    · subst hz
      go_wp2_with fail
      refine (HOp.out _ M11.out.at_).mono ?_
      rintro e w12 ⟨rfl, hb⟩
      have M14 := Lib.hid (M11.out.to hb)
      have c18 := M14.out.at_.e.cell (i := 18) (v := .int .u64 (s7.cwnd : Int)) rfl
      have y18 := M14.out.at_.e.free 18
      have M15 := Lib.hid (M14.out.set (s' := { s7 with cwnd := op }) 18 (.int .u64 (op : Int)) rfl rfl rfl rfl rfl)
      clear hb
      go_wp2_with fail
      go_end0
      exact M15.out.post
  refine AllReadyH.cons (o := ⟨some 50, _, _, _, _, _⟩) rfl (fun K hK => ?_) AllReadyH.nil
  go_simp
  refine (HSi.out _ (Hid.out (by assumption) : MutI W B P s4 X _).at_).mono ?_
  rintro e w7 ⟨rfl, hb⟩
  have M9 := Lib.hid ((Hid.out (by assumption) : MutI W B P s4 X _).to hb)
  go_wp2_with fail
  refine hK.out _ _ (mu_of M9) (fun hHeld => ?_)
  clear hK
  try simp only [List.setIfInBounds_toArray, List.set_cons_zero, List.set_cons_succ]
  refine wpAnyH_ready (rs := [6]) (by kernel_rfl) (by simp) ?_
  refine AllReadyH.cons (o := ⟨some 45, _, _, _, _, _⟩) rfl (fun K hK => ?_) AllReadyH.nil
  go_simp
  refine hK.out _ _ hHeld (fun hHeld => ?_)
  clear hK
  try simp only [List.setIfInBounds_toArray, List.set_cons_zero, List.set_cons_succ]
  refine wpAnyH_ready (rs := [12]) (by kernel_rfl) (by simp) ?_
  refine AllReadyH.cons (o := ⟨some 51, _, _, _, _, _⟩) rfl (fun K hK => ?_) AllReadyH.nil
  go_simp
  refine (HNe.out _).mono ?_
  rintro e w8 ⟨rfl, hb⟩
  have M10 := Lib.hid ((Hid.out (by assumption) : MutI W B P s4 X _).to hb)
  go_wp2_with fail
  refine hK.out _ _ (mu_of M10) (fun hHeld => ?_)
  clear hK
  try simp only [List.setIfInBounds_toArray, List.set_cons_zero, List.set_cons_succ]
  refine wpAnyH_ready (rs := [13]) (by kernel_rfl) (by simp) ?_
  refine AllReadyH.cons (o := ⟨some 52, _, _, _, _, _⟩) rfl (fun K hK => ?_) AllReadyH.nil
  go_simp
  refine (HTu.out _ (Hid.out (by assumption) : MutI W B P s4 X _).at_).mono ?_
  rintro e w9 h1
  obtain rfl := h1.e
  have M11 := Lib.hid ((Hid.out (by assumption) : MutI W B P s4 X _).step h1)
  go_wp2_with fail
  refine hK.out _ _ (mu_of M11) (fun hHeld => ?_)
  clear hK
  try simp only [List.setIfInBounds_toArray, List.set_cons_zero, List.set_cons_succ]
  refine wpAnyH_done (by kernel_rfl) ?_ _
  have X11 := mu_of M11
  have c13 := M11.out.at_.e.cell (i := 13) (v := .int .i64 s6.st) rfl
  rcases zz with ⟨z5, hz⟩ | ⟨z5, hz⟩
  · subst hz
    have v7a := M11.out.drew.at_.e.cell (i := 7) (v := .int .u64 (s6.bs.hi : Int)) rfl
    go_wp2_with fail
    have M12 := Lib.hid M11.out.drew
    have X12 := mu_of M12
    have r7 := mu_e (W := W) (B := B) (P := P) (s := s6) (x := X) (i := 7) (v := .int .u64 (s6.bs.hi : Int)) rfl
    have r8 := mu_e (W := W) (B := B) (P := P) (s := s6) (x := X) (i := 8) (v := .int .u64 (s6.bs.lo : Int)) rfl
    have r9 := mu_e (W := W) (B := B) (P := P) (s := s6) (x := X) (i := 9) (v := .int .u64 (s6.bs.bw : Int)) rfl
    have f7 := mu_f (W := W) (B := B) (P := P) (s := s6) (x := X) 7
    have f8 := mu_f (W := W) (B := B) (P := P) (s := s6) (x := X) 8
    have f9 := mu_f (W := W) (B := B) (P := P) (s := s6) (x := X) 9
    go_region_with (first
      | (go_at_call 42; (refine (HPs.out _).mono ?_); rintro e w10 ⟨rfl, hb⟩; have M13 := Lib.hid (M12.out.to hb); clear hb))
    all_goals
      have M16 := Lib.hid (((M13.out.set (s' := { s6 with bs := ⟨bs7.hi, s6.bs.lo, s6.bs.bw⟩ }) 7 (.int .u64 (bs7.hi : Int)) rfl rfl rfl rfl rfl).set (s' := { s6 with bs := ⟨bs7.hi, bs7.lo, s6.bs.bw⟩ }) 8 (.int .u64 (bs7.lo : Int)) rfl rfl rfl rfl rfl).set (s' := { s6 with bs := bs7 }) 9 (.int .u64 (bs7.bw : Int)) rfl rfl rfl rfl rfl)
      have X16 := mu_of M16
      go_wp2_with fail
      refine (HOp.out _ M16.out.at_).mono ?_
      rintro e w12 ⟨rfl, hb⟩
      have M14 := Lib.hid (M16.out.to hb)
      have c18 := M14.out.at_.e.cell (i := 18) (v := .int .u64 (s6.cwnd : Int)) rfl
      have y18 := M14.out.at_.e.free 18
      have M15 := Lib.hid (M14.out.set (s' := { s6 with bs := bs7, cwnd := op }) 18 (.int .u64 (op : Int)) rfl rfl rfl rfl rfl)
      clear hb
      go_wp2_with fail
      go_end0
      exact M15.out.post
  · subst hz
    go_wp2_with fail
    refine (HOp.out _ M11.out.at_).mono ?_
    rintro e w12 ⟨rfl, hb⟩
    have M14 := Lib.hid (M11.out.to hb)
    have c18 := M14.out.at_.e.cell (i := 18) (v := .int .u64 (s7.cwnd : Int)) rfl
    have y18 := M14.out.at_.e.free 18
    have M15 := Lib.hid (M14.out.set (s' := { s7 with cwnd := op }) 18 (.int .u64 (op : Int)) rfl rfl rfl rfl rfl)
    clear hb
    go_wp2_with fail
    go_end0
    exact M15.out.post

set_option maxHeartbeats 4000000 in
set_option maxRecDepth 100000 in
theorem en_On_ttt {B : Nat} {P : EP} {s s1 s2 s3 s4 s5 s6 s7 : ES} {now sd si sr rt dl ac lo fl best op : Nat} {sl : Bool} {sg : Array Value} {t : Int} {bs7 : BS} (W : World) (h : EngAt W B P s)
    (HCo : ∀ w, EngAt w B P s → Calls Tryz.prog 33 #[.pointer (some ⟨P.b, 0, none⟩), EvS.val ⟨now, sd, si, sr, rt, sl, true, dl, ac, lo, fl⟩] w (EPost B P (.returned (.tuple #[])) s1 w))
    (HMe : ∀ w, EngAt w B P s1 → Calls Tryz.prog 34 #[.pointer (some ⟨P.b, 0, none⟩), EvS.val ⟨now, sd, si, sr, rt, sl, true, dl, ac, lo, fl⟩] w (EPost B P (.returned (.bool true)) s2 w))
    (HSe : ∀ w, EngAt w B P s2 → Calls Tryz.prog 35 #[.pointer (some ⟨P.b, 0, none⟩)] w (EPost B P (.returned (.bool true)) s3 w))
    (HBe : ∀ w, EngAt w B P s3 → Calls Tryz.prog 37 #[.pointer (some ⟨P.y, 0, none⟩)] w fun e w' => e = .returned (.int .u64 (best : Int)) ∧ Below w.heap.size w w')
    (HPu : ∀ w, EngAt w B P s3 → Calls Tryz.prog 36 #[.pointer (some ⟨P.p, 0, none⟩), .int .u64 (best : Int), .bool true, .bool sl] w fun e w' => e = (.returned (.tuple #[])) ∧ MutN w B P s4 w')
    (HYi : ∀ w, EngAt w B P s4 → Calls Tryz.prog 38 #[.pointer (some ⟨P.b, 0, none⟩), EvS.val ⟨now, sd, si, sr, rt, sl, true, dl, ac, lo, fl⟩] w (EPost B P (.returned (.tuple #[])) s5 w))
    (HSi : ∀ w, EngAt w B P s5 → Calls Tryz.prog 41 #[.pointer (some ⟨P.b, 0, none⟩), EvS.val ⟨now, sd, si, sr, rt, sl, true, dl, ac, lo, fl⟩, .bool true, .bool true] w fun e w' => e = .returned (.agg sg) ∧ Below w.heap.size w w')
    (HNe : ∀ w, Calls Tryz.prog 40 #[.int .i64 s5.st, .agg sg] w fun e w' => e = .returned (.int .i64 t) ∧ Below w.heap.size w w')
    (HTu : ∀ w, EngAt w B P s5 → Calls Tryz.prog 39 #[.pointer (some ⟨P.b, 0, none⟩), .int .u64 (now : Int), .int .i64 t] w (EPost B P (.returned (.tuple #[])) s6 w))
    (HPs : ∀ w, Calls Tryz.prog 42 #[.agg #[.int .u64 (s6.bs.hi : Int), .int .u64 (s6.bs.lo : Int), .int .u64 (s6.bs.bw : Int)], .int .u64 (ac : Int)] w fun e w' => e = .returned (.agg #[.int .u64 (bs7.hi : Int), .int .u64 (bs7.lo : Int), .int .u64 (bs7.bw : Int)]) ∧ Below w.heap.size w w')
    (HOp : ∀ w, EngAt w B P s7 → Calls Tryz.prog 43 #[.pointer (some ⟨P.b, 0, none⟩), .int .u64 (ac : Int)] w fun e w' => e = .returned (.int .u64 (op : Int)) ∧ Below w.heap.size w w')
    (zz : ((s6.st == 5) = true ∧ s7 = s6) ∨ ((s6.st == 5) = false ∧ s7 = s6))
    : Calls Tryz.prog 8 #[.pointer (some ⟨P.b, 0, none⟩), EvS.val ⟨now, sd, si, sr, rt, sl, true, dl, ac, lo, fl⟩] W (EPost B P (.returned (.tuple #[])) { s7 with cwnd := op } W) := by
  have M0 := Lib.hid (MutI.start h ⟨now, sd, si, sr, rt, sl, true, dl, ac, lo, fl⟩)
  have HCo := Lib.hid HCo
  have HMe := Lib.hid HMe
  have HSe := Lib.hid HSe
  have HBe := Lib.hid HBe
  have HPu := Lib.hid HPu
  have HYi := Lib.hid HYi
  have HSi := Lib.hid HSi
  have HNe := Lib.hid HNe
  have HTu := Lib.hid HTu
  have HPs := Lib.hid HPs
  have HOp := Lib.hid HOp
  have v0 := mu_ev (W := W) (B := B) (P := P) (x := ⟨now, sd, si, sr, rt, sl, true, dl, ac, lo, fl⟩) (i := 0) (v := .int .u64 (now : Int)) rfl
  have v1 := mu_ev (W := W) (B := B) (P := P) (x := ⟨now, sd, si, sr, rt, sl, true, dl, ac, lo, fl⟩) (i := 1) (v := .int .u64 (sd : Int)) rfl
  have v2 := mu_ev (W := W) (B := B) (P := P) (x := ⟨now, sd, si, sr, rt, sl, true, dl, ac, lo, fl⟩) (i := 2) (v := .int .u64 (si : Int)) rfl
  have v3 := mu_ev (W := W) (B := B) (P := P) (x := ⟨now, sd, si, sr, rt, sl, true, dl, ac, lo, fl⟩) (i := 3) (v := .int .u64 (sr : Int)) rfl
  have v4 := mu_ev (W := W) (B := B) (P := P) (x := ⟨now, sd, si, sr, rt, sl, true, dl, ac, lo, fl⟩) (i := 4) (v := .int .u64 (rt : Int)) rfl
  have v5 := mu_ev (W := W) (B := B) (P := P) (x := ⟨now, sd, si, sr, rt, sl, true, dl, ac, lo, fl⟩) (i := 5) (v := .bool sl) rfl
  have v6 := mu_ev (W := W) (B := B) (P := P) (x := ⟨now, sd, si, sr, rt, sl, true, dl, ac, lo, fl⟩) (i := 6) (v := .bool true) rfl
  have v7 := mu_ev (W := W) (B := B) (P := P) (x := ⟨now, sd, si, sr, rt, sl, true, dl, ac, lo, fl⟩) (i := 7) (v := .int .u64 (dl : Int)) rfl
  have v8 := mu_ev (W := W) (B := B) (P := P) (x := ⟨now, sd, si, sr, rt, sl, true, dl, ac, lo, fl⟩) (i := 8) (v := .int .u64 (ac : Int)) rfl
  have v9 := mu_ev (W := W) (B := B) (P := P) (x := ⟨now, sd, si, sr, rt, sl, true, dl, ac, lo, fl⟩) (i := 9) (v := .int .u64 (lo : Int)) rfl
  have v10 := mu_ev (W := W) (B := B) (P := P) (x := ⟨now, sd, si, sr, rt, sl, true, dl, ac, lo, fl⟩) (i := 10) (v := .int .u64 (fl : Int)) rfl
  have p6 := mu_p (W := W) (B := B) (P := P) (x := ⟨now, sd, si, sr, rt, sl, true, dl, ac, lo, fl⟩) (i := 6) (v := .pointer (some ⟨P.p, 0, none⟩)) (fun _ => rfl)
  have p11 := mu_p (W := W) (B := B) (P := P) (x := ⟨now, sd, si, sr, rt, sl, true, dl, ac, lo, fl⟩) (i := 11) (v := .pointer (some ⟨P.y, 0, none⟩)) (fun _ => rfl)
  clear h
  unfold EvS.val at HCo HMe HSi HYi ⊢
  generalize hX : (EvS.mk now sd si sr rt sl true dl ac lo fl) = X at *
  have HE : Hid (X.cells = #[.int .u64 (now : Int), .int .u64 (sd : Int), .int .u64 (si : Int), .int .u64 (sr : Int), .int .u64 (rt : Int), .bool sl, .bool true, .int .u64 (dl : Int), .int .u64 (ac : Int), .int .u64 (lo : Int), .int .u64 (fl : Int)]) := Lib.hid (by rw [← hX]; rfl)
  clear hX
  rw [HE.out] at M0 HCo HMe HSi HYi ⊢
  go_enter Tryz.func8, Tryz.ntmps8
  go_wp2_with fail
  generalize W.alloc (.cells #[.int .u64 (now : Int), .int .u64 (sd : Int), .int .u64 (si : Int), .int .u64 (sr : Int), .int .u64 (rt : Int), .bool sl, .bool true, .int .u64 (dl : Int), .int .u64 (ac : Int), .int .u64 (lo : Int), .int .u64 (fl : Int)] 39) = w0 at *
  refine (HCo.out _ M0.out.at_).mono ?_
  rintro e w1 h1
  obtain rfl := h1.e
  have M1 := Lib.hid (M0.out.step h1)
  have X1 := mu_of M1
  clear h1 M0 HCo
  go_wp2_with fail
  refine (HMe.out _ M1.out.at_).mono ?_
  rintro e w2 h1
  obtain rfl := h1.e
  have M2 := Lib.hid (M1.out.step h1)
  have X2 := mu_of M2
  clear h1 M1 X1 HMe
  go_wp2_with fail
  refine (HSe.out _ M2.out.at_).mono ?_
  rintro e w3 h1
  obtain rfl := h1.e
  have M3 := Lib.hid (M2.out.step h1)
  have X3 := mu_of M3
  clear h1 M2 X2 HSe
  go_wp2_with fail
  have M4 := Lib.hid M3.out.drew
  have X4 := mu_of M4
  go_region_held3 (fun w' => Hid (MutX W B P X w'))
    (first | with_reducible exact X4 | with_reducible exact X5 | with_reducible exact X6)
    (first
      | (go_at_call 37; (with_reducible refine (HBe.out _ M4.out.at_).mono ?_); rintro e w4 ⟨rfl, hb⟩; have M5 := Lib.hid (M4.out.to hb); have X5 := mu_of M5; clear hb)
      | (go_at_call 36; (with_reducible refine (HPu.out _ M5.out.at_).mono ?_); rintro e w5 ⟨rfl, hn⟩; have M6 := Lib.hid (MutN.mi M5.out hn); have X6 := mu_of M6; clear hn))
  clear M3 X3 M4 X4 M5 X5 HBe HPu
  go_wp2_with fail
  refine (HYi.out _ M6.out.at_).mono ?_
  rintro e w6 h1
  obtain rfl := h1.e
  have M7 := Lib.hid (M6.out.step h1)
  have X7 := mu_of M7
  clear h1 M6 X6 HYi
  go_wp2_with fail
  have M8 := Lib.hid M7.out.drew
  have X8 := mu_of M8
  have r13 := mu_e (W := W) (B := B) (P := P) (s := s5) (x := X) (i := 13) (v := .int .i64 s5.st) rfl
  clear M7 X7
  refine wp_region_held_drew (S := (fun w' => Hid (MutX W B P X w'))) (by kernel_rfl) X8 (fun hHeld => ?_)
  simp only [List.size_toArray, List.length_cons, List.length_nil, Nat.reduceAdd, Array.replicate_succ, Array.replicate_zero, List.push_toArray, List.nil_append, List.cons_append]
  refine wpAnyH_take (i := 0) (oi := ⟨some 39, _, _, _, _, _⟩) (v := ?v31) rfl (by kernel_rfl) (by kernel_rfl) (by kernel_rfl) (fun _ _ _ h => h) (Or.inl ⟨by rfl, ?y31⟩) (by assumption) ?r31
  case y31 => intro w hSw; clear hSw; go_simp; (try with_reducible rfl)
  simp only [Act.put, List.setIfInBounds_toArray, List.set_cons_zero, List.set_cons_succ]
  refine wpAnyH_take (i := 1) (oi := ⟨some 40, _, _, _, _, _⟩) (v := ?v32) rfl (by kernel_rfl) (by kernel_rfl) (by kernel_rfl) (fun _ _ _ h => h) (Or.inl ⟨by rfl, ?y32⟩) (by assumption) ?r32
  case y32 => intro w hSw; clear hSw; go_simp; (try with_reducible rfl)
  simp only [Act.put, List.setIfInBounds_toArray, List.set_cons_zero, List.set_cons_succ]
  refine wpAnyH_take (i := 2) (oi := ⟨some 41, _, _, _, _, _⟩) (v := ?v33) rfl (by kernel_rfl) (by kernel_rfl) (by kernel_rfl) (fun _ _ _ h => h) (Or.inl ⟨by rfl, ?y33⟩) (by assumption) ?r33
  case y33 => intro w hSw; skip; go_simp; (try with_reducible rfl)
  simp only [Act.put, List.setIfInBounds_toArray, List.set_cons_zero, List.set_cons_succ]
  refine wpAnyH_take (i := 3) (oi := ⟨some 42, _, _, _, _, _⟩) (v := ?v34) rfl (by kernel_rfl) (by kernel_rfl) (by kernel_rfl) (fun _ _ _ h => h) (Or.inl ⟨by rfl, ?y34⟩) (by assumption) ?r34
  case y34 => intro w hSw; clear hSw; go_simp; (try with_reducible rfl)
  simp only [Act.put, List.setIfInBounds_toArray, List.set_cons_zero, List.set_cons_succ]
  refine wpAnyH_take (i := 4) (oi := ⟨some 43, _, _, _, _, _⟩) (v := ?v35) rfl (by kernel_rfl) (by kernel_rfl) (by kernel_rfl) (fun _ _ _ h => h) (Or.inl ⟨by rfl, ?y35⟩) (by assumption) ?r35
  case y35 => intro w hSw; clear hSw; go_simp; (try with_reducible rfl)
  simp only [Act.put, List.setIfInBounds_toArray, List.set_cons_zero, List.set_cons_succ]
  refine wpAnyH_take (i := 5) (oi := ⟨some 44, _, _, _, _, _⟩) (v := ?v36) rfl (by kernel_rfl) (by kernel_rfl) (by kernel_rfl) (fun _ _ _ h => h) (Or.inl ⟨by rfl, ?y36⟩) (by assumption) ?r36
  case y36 => intro w hSw; clear hSw; go_simp; (try with_reducible rfl)
  simp only [Act.put, List.setIfInBounds_toArray, List.set_cons_zero, List.set_cons_succ]
  refine wpAnyH_take (i := 7) (oi := ⟨some 46, _, _, _, _, _⟩) (v := ?v37) rfl (by kernel_rfl) (by kernel_rfl) (by kernel_rfl) (fun _ _ _ h => h) (Or.inl ⟨by rfl, ?y37⟩) (by assumption) ?r37
  case y37 => intro w hSw; clear hSw; go_simp; (try with_reducible rfl)
  simp only [Act.put, List.setIfInBounds_toArray, List.set_cons_zero, List.set_cons_succ]
  refine wpAnyH_take (i := 8) (oi := ⟨some 47, _, _, _, _, _⟩) (v := ?v38) rfl (by kernel_rfl) (by kernel_rfl) (by kernel_rfl) (fun _ _ _ h => h) (Or.inl ⟨by rfl, ?y38⟩) (by assumption) ?r38
  case y38 => intro w hSw; skip; go_simp; (try with_reducible rfl)
  simp only [Act.put, List.setIfInBounds_toArray, List.set_cons_zero, List.set_cons_succ]
  refine wpAnyH_take (i := 9) (oi := ⟨some 48, _, _, _, _, _⟩) (v := ?v39) rfl (by kernel_rfl) (by kernel_rfl) (by kernel_rfl) (fun _ _ _ h => h) (Or.inl ⟨by rfl, ?y39⟩) (by assumption) ?r39
  case y39 => intro w hSw; clear hSw; go_simp; (try with_reducible rfl)
  simp only [Act.put, List.setIfInBounds_toArray, List.set_cons_zero, List.set_cons_succ]
  refine wpAnyH_take (i := 10) (oi := ⟨some 49, _, _, _, _, _⟩) (v := ?v40) rfl (by kernel_rfl) (by kernel_rfl) (by kernel_rfl) (fun _ _ _ h => h) (Or.inl ⟨by rfl, ?y40⟩) (by assumption) ?r40
  case y40 => intro w hSw; clear hSw; go_simp; (try with_reducible rfl)
  simp only [Act.put, List.setIfInBounds_toArray, List.set_cons_zero, List.set_cons_succ]
  refine wpAnyH_ready (rs := [6, 11]) (by kernel_rfl) (by simp) ?_
  refine AllReadyH.cons (o := ⟨some 45, _, _, _, _, _⟩) rfl (fun K hK => ?_) ?_
  · go_simp
    refine hK.out _ _ hHeld (fun hHeld => ?_)
    clear hK
    try simp only [List.setIfInBounds_toArray, List.set_cons_zero, List.set_cons_succ]
    refine wpAnyH_ready (rs := [11]) (by kernel_rfl) (by simp) ?_
    refine AllReadyH.cons (o := ⟨some 50, _, _, _, _, _⟩) rfl (fun K hK => ?_) AllReadyH.nil
    go_simp
    refine (HSi.out _ (Hid.out (by assumption) : MutI W B P s5 X _).at_).mono ?_
    rintro e w7 ⟨rfl, hb⟩
    have M9 := Lib.hid ((Hid.out (by assumption) : MutI W B P s5 X _).to hb)
    go_wp2_with fail
    refine hK.out _ _ (mu_of M9) (fun hHeld => ?_)
    clear hK
    try simp only [List.setIfInBounds_toArray, List.set_cons_zero, List.set_cons_succ]
    refine wpAnyH_ready (rs := [12]) (by kernel_rfl) (by simp) ?_
    refine AllReadyH.cons (o := ⟨some 51, _, _, _, _, _⟩) rfl (fun K hK => ?_) AllReadyH.nil
    go_simp
    refine (HNe.out _).mono ?_
    rintro e w8 ⟨rfl, hb⟩
    have M10 := Lib.hid ((Hid.out (by assumption) : MutI W B P s5 X _).to hb)
    go_wp2_with fail
    refine hK.out _ _ (mu_of M10) (fun hHeld => ?_)
    clear hK
    try simp only [List.setIfInBounds_toArray, List.set_cons_zero, List.set_cons_succ]
    refine wpAnyH_ready (rs := [13]) (by kernel_rfl) (by simp) ?_
    refine AllReadyH.cons (o := ⟨some 52, _, _, _, _, _⟩) rfl (fun K hK => ?_) AllReadyH.nil
    go_simp
    refine (HTu.out _ (Hid.out (by assumption) : MutI W B P s5 X _).at_).mono ?_
    rintro e w9 h1
    obtain rfl := h1.e
    have M11 := Lib.hid ((Hid.out (by assumption) : MutI W B P s5 X _).step h1)
    go_wp2_with fail
    refine hK.out _ _ (mu_of M11) (fun hHeld => ?_)
    clear hK
    try simp only [List.setIfInBounds_toArray, List.set_cons_zero, List.set_cons_succ]
    refine wpAnyH_done (by kernel_rfl) ?_ _
    have X11 := mu_of M11
    have c13 := M11.out.at_.e.cell (i := 13) (v := .int .i64 s6.st) rfl
    rcases zz with ⟨z5, hz⟩ | ⟨z5, hz⟩
    · subst hz
      go_wp2_with fail
      refine (HOp.out _ M11.out.at_).mono ?_
      rintro e w12 ⟨rfl, hb⟩
      have M14 := Lib.hid (M11.out.to hb)
      have c18 := M14.out.at_.e.cell (i := 18) (v := .int .u64 (s7.cwnd : Int)) rfl
      have y18 := M14.out.at_.e.free 18
      have M15 := Lib.hid (M14.out.set (s' := { s7 with cwnd := op }) 18 (.int .u64 (op : Int)) rfl rfl rfl rfl rfl)
      clear hb
      go_wp2_with fail
      go_end0
      exact M15.out.post
    · subst hz
      go_wp2_with fail
      refine (HOp.out _ M11.out.at_).mono ?_
      rintro e w12 ⟨rfl, hb⟩
      have M14 := Lib.hid (M11.out.to hb)
      have c18 := M14.out.at_.e.cell (i := 18) (v := .int .u64 (s7.cwnd : Int)) rfl
      have y18 := M14.out.at_.e.free 18
      have M15 := Lib.hid (M14.out.set (s' := { s7 with cwnd := op }) 18 (.int .u64 (op : Int)) rfl rfl rfl rfl rfl)
      clear hb
      go_wp2_with fail
      go_end0
      exact M15.out.post
  refine AllReadyH.cons (o := ⟨some 50, _, _, _, _, _⟩) rfl (fun K hK => ?_) AllReadyH.nil
  go_simp
  refine (HSi.out _ (Hid.out (by assumption) : MutI W B P s5 X _).at_).mono ?_
  rintro e w7 ⟨rfl, hb⟩
  have M9 := Lib.hid ((Hid.out (by assumption) : MutI W B P s5 X _).to hb)
  go_wp2_with fail
  refine hK.out _ _ (mu_of M9) (fun hHeld => ?_)
  clear hK
  try simp only [List.setIfInBounds_toArray, List.set_cons_zero, List.set_cons_succ]
  refine wpAnyH_ready (rs := [6]) (by kernel_rfl) (by simp) ?_
  refine AllReadyH.cons (o := ⟨some 45, _, _, _, _, _⟩) rfl (fun K hK => ?_) AllReadyH.nil
  go_simp
  refine hK.out _ _ hHeld (fun hHeld => ?_)
  clear hK
  try simp only [List.setIfInBounds_toArray, List.set_cons_zero, List.set_cons_succ]
  refine wpAnyH_ready (rs := [12]) (by kernel_rfl) (by simp) ?_
  refine AllReadyH.cons (o := ⟨some 51, _, _, _, _, _⟩) rfl (fun K hK => ?_) AllReadyH.nil
  go_simp
  refine (HNe.out _).mono ?_
  rintro e w8 ⟨rfl, hb⟩
  have M10 := Lib.hid ((Hid.out (by assumption) : MutI W B P s5 X _).to hb)
  go_wp2_with fail
  refine hK.out _ _ (mu_of M10) (fun hHeld => ?_)
  clear hK
  try simp only [List.setIfInBounds_toArray, List.set_cons_zero, List.set_cons_succ]
  refine wpAnyH_ready (rs := [13]) (by kernel_rfl) (by simp) ?_
  refine AllReadyH.cons (o := ⟨some 52, _, _, _, _, _⟩) rfl (fun K hK => ?_) AllReadyH.nil
  go_simp
  refine (HTu.out _ (Hid.out (by assumption) : MutI W B P s5 X _).at_).mono ?_
  rintro e w9 h1
  obtain rfl := h1.e
  have M11 := Lib.hid ((Hid.out (by assumption) : MutI W B P s5 X _).step h1)
  go_wp2_with fail
  refine hK.out _ _ (mu_of M11) (fun hHeld => ?_)
  clear hK
  try simp only [List.setIfInBounds_toArray, List.set_cons_zero, List.set_cons_succ]
  refine wpAnyH_done (by kernel_rfl) ?_ _
  have X11 := mu_of M11
  have c13 := M11.out.at_.e.cell (i := 13) (v := .int .i64 s6.st) rfl
  rcases zz with ⟨z5, hz⟩ | ⟨z5, hz⟩
  · subst hz
    go_wp2_with fail
    refine (HOp.out _ M11.out.at_).mono ?_
    rintro e w12 ⟨rfl, hb⟩
    have M14 := Lib.hid (M11.out.to hb)
    have c18 := M14.out.at_.e.cell (i := 18) (v := .int .u64 (s7.cwnd : Int)) rfl
    have y18 := M14.out.at_.e.free 18
    have M15 := Lib.hid (M14.out.set (s' := { s7 with cwnd := op }) 18 (.int .u64 (op : Int)) rfl rfl rfl rfl rfl)
    clear hb
    go_wp2_with fail
    go_end0
    exact M15.out.post
  · subst hz
    go_wp2_with fail
    refine (HOp.out _ M11.out.at_).mono ?_
    rintro e w12 ⟨rfl, hb⟩
    have M14 := Lib.hid (M11.out.to hb)
    have c18 := M14.out.at_.e.cell (i := 18) (v := .int .u64 (s7.cwnd : Int)) rfl
    have y18 := M14.out.at_.e.free 18
    have M15 := Lib.hid (M14.out.set (s' := { s7 with cwnd := op }) 18 (.int .u64 (op : Int)) rfl rfl rfl rfl rfl)
    clear hb
    go_wp2_with fail
    go_end0
    exact M15.out.post

end Go.Proofs.YtpkbjfhicocogaaGreatDoor
