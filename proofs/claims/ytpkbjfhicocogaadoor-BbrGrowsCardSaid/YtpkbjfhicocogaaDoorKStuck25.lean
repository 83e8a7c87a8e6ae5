/- 4 texts put together: what each one says stands ahead of it. -/
import Derived.Test.YtpkbjfhicocogaaDoorKStuck23
import Derived.Test.YtpkbjfhicocogaaDoorKStuck24
/- Contracts of package bbr over this translation: On. -/
set_option linter.unusedVariables false
namespace Go.Proofs.YtpkbjfhicocogaaDoor
open Go.RowKit Cf

/-- What holds while an event is told, whatever the engine holds. -/
def MutX (W : World) (B : Nat) (P : EP) (x : EvS) (w : World) : Prop := ∃ s, MutI W B P s x w
theorem mu_of {W w : World} {B : Nat} {P : EP} {s : ES} {x : EvS} (h : Hid (MutI W B P s x w)) : Hid (MutX W B P x w) := Lib.hid ⟨s, h.out⟩
theorem mu_ev {W : World} {B : Nat} {P : EP} {x : EvS} {i : Nat} {v : Value} (hv : x.cells[i]? = some v) : ∀ w, Hid (MutX W B P x w) → w.cell? ⟨W.heap.size, i, none⟩ = some v := fun w q => by
  obtain ⟨s, h⟩ := q.out
  exact h.ev.cell hv
theorem mu_p {W : World} {B : Nat} {P : EP} {x : EvS} {i : Nat} {v : Value} (hv : ∀ s, (ecells P s)[i]? = some v) : ∀ w, Hid (MutX W B P x w) → w.cell? ⟨P.b, i, none⟩ = some v := fun w q => by
  obtain ⟨s, h⟩ := q.out
  exact h.at_.e.cell (hv s)
theorem mu_e {W : World} {B : Nat} {P : EP} {s : ES} {x : EvS} {i : Nat} {v : Value} (hv : (ecells P s)[i]? = some v) : ∀ w, Hid (MutI W B P s x w) → w.cell? ⟨P.b, i, none⟩ = some v := fun w q => q.out.at_.e.cell hv
theorem mu_f {W : World} {B : Nat} {P : EP} {s : ES} {x : EvS} (i : Nat) : ∀ w, Hid (MutI W B P s x w) → w.frozen? ⟨P.b, i, none⟩ = false := fun w q => q.out.at_.e.free i

set_option maxHeartbeats 4000000 in
set_option maxRecDepth 100000 in
theorem en_On_ff {B : Nat} {P : EP} {s s1 s2 s3 s4 s5 s6 s7 : ES} {now sd si sr rt dl ac lo fl best op : Nat} {sl : Bool} {sg : Array Value} {t : Int} {bs7 : BS} (W : World) (h : EngAt W B P s)
    (HCo : ∀ w, EngAt w B P s → Calls Tryd.prog 25 #[.pointer (some ⟨P.b, 0, none⟩), EvS.val ⟨now, sd, si, sr, rt, sl, false, dl, ac, lo, fl⟩] w (EPost B P (.returned (.tuple #[])) s1 w))
    (HMe : ∀ w, EngAt w B P s1 → Calls Tryd.prog 26 #[.pointer (some ⟨P.b, 0, none⟩), EvS.val ⟨now, sd, si, sr, rt, sl, false, dl, ac, lo, fl⟩] w (EPost B P (.returned (.bool false)) s2 w))
    (HSi : ∀ w, EngAt w B P s2 → Calls Tryd.prog 33 #[.pointer (some ⟨P.b, 0, none⟩), EvS.val ⟨now, sd, si, sr, rt, sl, false, dl, ac, lo, fl⟩, .bool false, .bool false] w fun e w' => e = .returned (.agg sg) ∧ Below w.heap.size w w')
    (HNe : ∀ w, Calls Tryd.prog 32 #[.int .i64 s2.st, .agg sg] w fun e w' => e = .returned (.int .i64 t) ∧ Below w.heap.size w w')
    (HTu : ∀ w, EngAt w B P s2 → Calls Tryd.prog 31 #[.pointer (some ⟨P.b, 0, none⟩), .int .u64 (now : Int), .int .i64 t] w (EPost B P (.returned (.tuple #[])) s6 w))
    (HPs : ∀ w, Calls Tryd.prog 34 #[.agg #[.int .u64 (s6.bs.hi : Int), .int .u64 (s6.bs.lo : Int), .int .u64 (s6.bs.bw : Int)], .int .u64 (ac : Int)] w fun e w' => e = .returned (.agg #[.int .u64 (bs7.hi : Int), .int .u64 (bs7.lo : Int), .int .u64 (bs7.bw : Int)]) ∧ Below w.heap.size w w')
    (HOp : ∀ w, EngAt w B P s7 → Calls Tryd.prog 35 #[.pointer (some ⟨P.b, 0, none⟩), .int .u64 (ac : Int)] w fun e w' => e = .returned (.int .u64 (op : Int)) ∧ Below w.heap.size w w')
    (zz : ((s6.st == 5) = true ∧ s7 = { s6 with bs := bs7 }) ∨ ((s6.st == 5) = false ∧ s7 = s6))
    : Calls Tryd.prog 8 #[.pointer (some ⟨P.b, 0, none⟩), EvS.val ⟨now, sd, si, sr, rt, sl, false, dl, ac, lo, fl⟩] W (EPost B P (.returned (.tuple #[])) { s7 with cwnd := op } W) := by
  have M0 := Lib.hid (MutI.start h ⟨now, sd, si, sr, rt, sl, false, dl, ac, lo, fl⟩)
  have HCo := Lib.hid HCo
  have HMe := Lib.hid HMe
  have HSi := Lib.hid HSi
  have HNe := Lib.hid HNe
  have HTu := Lib.hid HTu
  have HPs := Lib.hid HPs
  have HOp := Lib.hid HOp
  have v0 := mu_ev (W := W) (B := B) (P := P) (x := ⟨now, sd, si, sr, rt, sl, false, dl, ac, lo, fl⟩) (i := 0) (v := .int .u64 (now : Int)) rfl
  have v1 := mu_ev (W := W) (B := B) (P := P) (x := ⟨now, sd, si, sr, rt, sl, false, dl, ac, lo, fl⟩) (i := 1) (v := .int .u64 (sd : Int)) rfl
  have v2 := mu_ev (W := W) (B := B) (P := P) (x := ⟨now, sd, si, sr, rt, sl, false, dl, ac, lo, fl⟩) (i := 2) (v := .int .u64 (si : Int)) rfl
  have v3 := mu_ev (W := W) (B := B) (P := P) (x := ⟨now, sd, si, sr, rt, sl, false, dl, ac, lo, fl⟩) (i := 3) (v := .int .u64 (sr : Int)) rfl
  have v4 := mu_ev (W := W) (B := B) (P := P) (x := ⟨now, sd, si, sr, rt, sl, false, dl, ac, lo, fl⟩) (i := 4) (v := .int .u64 (rt : Int)) rfl
  have v5 := mu_ev (W := W) (B := B) (P := P) (x := ⟨now, sd, si, sr, rt, sl, false, dl, ac, lo, fl⟩) (i := 5) (v := .bool sl) rfl
  have v6 := mu_ev (W := W) (B := B) (P := P) (x := ⟨now, sd, si, sr, rt, sl, false, dl, ac, lo, fl⟩) (i := 6) (v := .bool false) rfl
  have v7 := mu_ev (W := W) (B := B) (P := P) (x := ⟨now, sd, si, sr, rt, sl, false, dl, ac, lo, fl⟩) (i := 7) (v := .int .u64 (dl : Int)) rfl
  have v8 := mu_ev (W := W) (B := B) (P := P) (x := ⟨now, sd, si, sr, rt, sl, false, dl, ac, lo, fl⟩) (i := 8) (v := .int .u64 (ac : Int)) rfl
  have v9 := mu_ev (W := W) (B := B) (P := P) (x := ⟨now, sd, si, sr, rt, sl, false, dl, ac, lo, fl⟩) (i := 9) (v := .int .u64 (lo : Int)) rfl
  have v10 := mu_ev (W := W) (B := B) (P := P) (x := ⟨now, sd, si, sr, rt, sl, false, dl, ac, lo, fl⟩) (i := 10) (v := .int .u64 (fl : Int)) rfl
  have p6 := mu_p (W := W) (B := B) (P := P) (x := ⟨now, sd, si, sr, rt, sl, false, dl, ac, lo, fl⟩) (i := 6) (v := .pointer (some ⟨P.p, 0, none⟩)) (fun _ => rfl)
  have p11 := mu_p (W := W) (B := B) (P := P) (x := ⟨now, sd, si, sr, rt, sl, false, dl, ac, lo, fl⟩) (i := 11) (v := .pointer (some ⟨P.y, 0, none⟩)) (fun _ => rfl)
  clear h
  unfold EvS.val at HCo HMe HSi ⊢
  generalize hX : (EvS.mk now sd si sr rt sl false dl ac lo fl) = X at *
  have HE : Hid (X.cells = #[.int .u64 (now : Int), .int .u64 (sd : Int), .int .u64 (si : Int), .int .u64 (sr : Int), .int .u64 (rt : Int), .bool sl, .bool false, .int .u64 (dl : Int), .int .u64 (ac : Int), .int .u64 (lo : Int), .int .u64 (fl : Int)]) := Lib.hid (by rw [← hX]; rfl)
  clear hX
  rw [HE.out] at M0 HCo HMe HSi ⊢
  go_enter Tryd.func8, Tryd.ntmps8
  go_wp2_with fail
  generalize W.alloc (.cells #[.int .u64 (now : Int), .int .u64 (sd : Int), .int .u64 (si : Int), .int .u64 (sr : Int), .int .u64 (rt : Int), .bool sl, .bool false, .int .u64 (dl : Int), .int .u64 (ac : Int), .int .u64 (lo : Int), .int .u64 (fl : Int)] 36) = w0 at *
  refine (HCo.out _ M0.out.at_).mono ?_
  rintro e w1 h1
  obtain rfl := h1.e
  have M1 := Lib.hid (M0.out.step h1)
  have X1 := mu_of M1
  clear h1 M0 HCo
  go_wp2_with fail
  refine (HMe.out _ M1.out.at_).mono ?_
  rintro e w2 h1
  obtain rfl := h1.e
  have M2 := Lib.hid (M1.out.step h1)
  have X2 := mu_of M2
  clear h1 M1 X1 HMe
  go_wp2_with fail
  have M8 := Lib.hid M2.out.drew
  have X8 := mu_of M8
  have r13 := mu_e (W := W) (B := B) (P := P) (s := s2) (x := X) (i := 13) (v := .int .i64 s2.st) rfl
  clear M2 X2
  refine wp_region_held_drew (S := (fun w' => Hid (MutX W B P X w'))) (by kernel_rfl) X8 (fun hHeld => ?_)
  simp only [List.size_toArray, List.length_cons, List.length_nil, Nat.reduceAdd, Array.replicate_succ, Array.replicate_zero, List.push_toArray, List.nil_append, List.cons_append]
  refine wpAnyH_take (i := 0) (oi := ⟨some 39, _, _, _, _, _⟩) (v := ?v1) rfl (by kernel_rfl) (by kernel_rfl) (by kernel_rfl) (fun _ _ _ h => h) (Or.inl ⟨by rfl, ?y1⟩) (by assumption) ?r1
  case y1 => intro w hSw; clear hSw; go_simp; (try with_reducible rfl)
  simp only [Act.put, List.setIfInBounds_toArray, List.set_cons_zero, List.set_cons_succ]
  refine wpAnyH_take (i := 1) (oi := ⟨some 40, _, _, _, _, _⟩) (v := ?v2) rfl (by kernel_rfl) (by kernel_rfl) (by kernel_rfl) (fun _ _ _ h => h) (Or.inl ⟨by rfl, ?y2⟩) (by assumption) ?r2
  case y2 => intro w hSw; clear hSw; go_simp; (try with_reducible rfl)
  simp only [Act.put, List.setIfInBounds_toArray, List.set_cons_zero, List.set_cons_succ]
  refine wpAnyH_take (i := 2) (oi := ⟨some 41, _, _, _, _, _⟩) (v := ?v3) rfl (by kernel_rfl) (by kernel_rfl) (by kernel_rfl) (fun _ _ _ h => h) (Or.inl ⟨by rfl, ?y3⟩) (by assumption) ?r3
  case y3 => intro w hSw; skip; go_simp; (try with_reducible rfl)
  simp only [Act.put, List.setIfInBounds_toArray, List.set_cons_zero, List.set_cons_succ]
  refine wpAnyH_take (i := 3) (oi := ⟨some 42, _, _, _, _, _⟩) (v := ?v4) rfl (by kernel_rfl) (by kernel_rfl) (by kernel_rfl) (fun _ _ _ h => h) (Or.inl ⟨by rfl, ?y4⟩) (by assumption) ?r4
  case y4 => intro w hSw; clear hSw; go_simp; (try with_reducible rfl)
  simp only [Act.put, List.setIfInBounds_toArray, List.set_cons_zero, List.set_cons_succ]
  refine wpAnyH_take (i := 4) (oi := ⟨some 43, _, _, _, _, _⟩) (v := ?v5) rfl (by kernel_rfl) (by kernel_rfl) (by kernel_rfl) (fun _ _ _ h => h) (Or.inl ⟨by rfl, ?y5⟩) (by assumption) ?r5
  case y5 => intro w hSw; clear hSw; go_simp; (try with_reducible rfl)
  simp only [Act.put, List.setIfInBounds_toArray, List.set_cons_zero, List.set_cons_succ]
  refine wpAnyH_take (i := 5) (oi := ⟨some 44, _, _, _, _, _⟩) (v := ?v6) rfl (by kernel_rfl) (by kernel_rfl) (by kernel_rfl) (fun _ _ _ h => h) (Or.inl ⟨by rfl, ?y6⟩) (by assumption) ?r6
  case y6 => intro w hSw; clear hSw; go_simp; (try with_reducible rfl)
  simp only [Act.put, List.setIfInBounds_toArray, List.set_cons_zero, List.set_cons_succ]
  refine wpAnyH_take (i := 7) (oi := ⟨some 46, _, _, _, _, _⟩) (v := ?v7) rfl (by kernel_rfl) (by kernel_rfl) (by kernel_rfl) (fun _ _ _ h => h) (Or.inl ⟨by rfl, ?y7⟩) (by assumption) ?r7
  case y7 => intro w hSw; clear hSw; go_simp; (try with_reducible rfl)
  simp only [Act.put, List.setIfInBounds_toArray, List.set_cons_zero, List.set_cons_succ]
  refine wpAnyH_take (i := 8) (oi := ⟨some 47, _, _, _, _, _⟩) (v := ?v8) rfl (by kernel_rfl) (by kernel_rfl) (by kernel_rfl) (fun _ _ _ h => h) (Or.inl ⟨by rfl, ?y8⟩) (by assumption) ?r8
  case y8 => intro w hSw; skip; go_simp; (try with_reducible rfl)
  simp only [Act.put, List.setIfInBounds_toArray, List.set_cons_zero, List.set_cons_succ]
  refine wpAnyH_take (i := 9) (oi := ⟨some 48, _, _, _, _, _⟩) (v := ?v9) rfl (by kernel_rfl) (by kernel_rfl) (by kernel_rfl) (fun _ _ _ h => h) (Or.inl ⟨by rfl, ?y9⟩) (by assumption) ?r9
  case y9 => intro w hSw; clear hSw; go_simp; (try with_reducible rfl)
  simp only [Act.put, List.setIfInBounds_toArray, List.set_cons_zero, List.set_cons_succ]
  refine wpAnyH_take (i := 10) (oi := ⟨some 49, _, _, _, _, _⟩) (v := ?v10) rfl (by kernel_rfl) (by kernel_rfl) (by kernel_rfl) (fun _ _ _ h => h) (Or.inl ⟨by rfl, ?y10⟩) (by assumption) ?r10
  case y10 => intro w hSw; clear hSw; go_simp; (try with_reducible rfl)
  simp only [Act.put, List.setIfInBounds_toArray, List.set_cons_zero, List.set_cons_succ]
  refine wpAnyH_ready (rs := [6, 11]) (by kernel_rfl) (by simp) ?_
  refine AllReadyH.cons (o := ⟨some 45, _, _, _, _, _⟩) rfl (fun K hK => ?_) ?_
  · go_simp
    refine hK.out _ _ hHeld (fun hHeld => ?_)
    clear hK
    try simp only [List.setIfInBounds_toArray, List.set_cons_zero, List.set_cons_succ]
    refine wpAnyH_ready (rs := [11]) (by kernel_rfl) (by simp) ?_
    refine AllReadyH.cons (o := ⟨some 50, _, _, _, _, _⟩) rfl (fun K hK => ?_) AllReadyH.nil
    go_simp
    refine (HSi.out _ (Hid.out (by assumption) : MutI W B P s2 X _).at_).mono ?_
    rintro e w7 ⟨rfl, hb⟩
    have M9 := Lib.hid ((Hid.out (by assumption) : MutI W B P s2 X _).to hb)
    go_wp2_with fail
    refine hK.out _ _ (mu_of M9) (fun hHeld => ?_)
    clear hK
    try simp only [List.setIfInBounds_toArray, List.set_cons_zero, List.set_cons_succ]
    refine wpAnyH_ready (rs := [12]) (by kernel_rfl) (by simp) ?_
    refine AllReadyH.cons (o := ⟨some 51, _, _, _, _, _⟩) rfl (fun K hK => ?_) AllReadyH.nil
    go_simp
    refine (HNe.out _).mono ?_
    rintro e w8 ⟨rfl, hb⟩
    have M10 := Lib.hid ((Hid.out (by assumption) : MutI W B P s2 X _).to hb)
    go_wp2_with fail
    refine hK.out _ _ (mu_of M10) (fun hHeld => ?_)
    clear hK
    try simp only [List.setIfInBounds_toArray, List.set_cons_zero, List.set_cons_succ]
    refine wpAnyH_ready (rs := [13]) (by kernel_rfl) (by simp) ?_
    refine AllReadyH.cons (o := ⟨some 52, _, _, _, _, _⟩) rfl (fun K hK => ?_) AllReadyH.nil
    go_simp
    refine (HTu.out _ (Hid.out (by assumption) : MutI W B P s2 X _).at_).mono ?_
    rintro e w9 h1
    obtain rfl := h1.e
    have M11 := Lib.hid ((Hid.out (by assumption) : MutI W B P s2 X _).step h1)
    go_wp2_with fail
    refine hK.out _ _ (mu_of M11) (fun hHeld => ?_)
    clear hK
    try simp only [List.setIfInBounds_toArray, List.set_cons_zero, List.set_cons_succ]
    refine wpAnyH_done (by kernel_rfl) ?_ _
    have X11 := mu_of M11
    have c13 := M11.out.at_.e.cell (i := 13) (v := .int .i64 s6.st) rfl
    rcases zz with ⟨z5, hz⟩ | ⟨z5, hz⟩
    · subst hz
      have v7a := M11.out.drew.at_.e.cell (i := 7) (v := .int .u64 (s6.bs.hi : Int)) rfl
      go_wp2_with fail
      have M12 := Lib.hid M11.out.drew
      have X12 := mu_of M12
      have r7 := mu_e (W := W) (B := B) (P := P) (s := s6) (x := X) (i := 7) (v := .int .u64 (s6.bs.hi : Int)) rfl
      have r8 := mu_e (W := W) (B := B) (P := P) (s := s6) (x := X) (i := 8) (v := .int .u64 (s6.bs.lo : Int)) rfl
      have r9 := mu_e (W := W) (B := B) (P := P) (s := s6) (x := X) (i := 9) (v := .int .u64 (s6.bs.bw : Int)) rfl
      have f7 := mu_f (W := W) (B := B) (P := P) (s := s6) (x := X) 7
      have f8 := mu_f (W := W) (B := B) (P := P) (s := s6) (x := X) 8
      have f9 := mu_f (W := W) (B := B) (P := P) (s := s6) (x := X) 9
      go_region_with (first
        | (go_at_call 34; (refine (HPs.out _).mono ?_); rintro e w10 ⟨rfl, hb⟩; have M13 := Lib.hid (M12.out.to hb); clear hb))
      all_goals
        have M16 := Lib.hid (((M13.out.set (s' := { s6 with bs := ⟨bs7.hi, s6.bs.lo, s6.bs.bw⟩ }) 7 (.int .u64 (bs7.hi : Int)) rfl rfl rfl rfl rfl).set (s' := { s6 with bs := ⟨bs7.hi, bs7.lo, s6.bs.bw⟩ }) 8 (.int .u64 (bs7.lo : Int)) rfl rfl rfl rfl rfl).set (s' := { s6 with bs := bs7 }) 9 (.int .u64 (bs7.bw : Int)) rfl rfl rfl rfl rfl)
        have X16 := mu_of M16
        go_wp2_with fail
        refine (HOp.out _ M16.out.at_).mono ?_
        rintro e w12 ⟨rfl, hb⟩
        have M14 := Lib.hid (M16.out.to hb)
        have c18 := M14.out.at_.e.cell (i := 18) (v := .int .u64 (s6.cwnd : Int)) rfl
        have y18 := M14.out.at_.e.free 18
        have M15 := Lib.hid (M14.out.set (s' := { s6 with bs := bs7, cwnd := op }) 18 (.int .u64 (op : Int)) rfl rfl rfl rfl rfl)
        clear hb
        go_wp2_with fail
        go_end0
        exact M15.out.post
    · subst hz
      go_wp2_with fail
      refine (HOp.out _ M11.out.at_).mono ?_
      rintro e w12 ⟨rfl, hb⟩
      have M14 := Lib.hid (M11.out.to hb)
      have c18 := M14.out.at_.e.cell (i := 18) (v := .int .u64 (s7.cwnd : Int)) rfl
      have y18 := M14.out.at_.e.free 18
      have M15 := Lib.hid (M14.out.set (s' := { s7 with cwnd := op }) 18 (.int .u64 (op : Int)) rfl rfl rfl rfl rfl)
      clear hb
      go_wp2_with fail
      go_end0
      exact M15.out.post
  refine AllReadyH.cons (o := ⟨some 50, _, _, _, _, _⟩) rfl (fun K hK => ?_) AllReadyH.nil
  go_simp
  refine (HSi.out _ (Hid.out (by assumption) : MutI W B P s2 X _).at_).mono ?_
  rintro e w7 ⟨rfl, hb⟩
  have M9 := Lib.hid ((Hid.out (by assumption) : MutI W B P s2 X _).to hb)
  go_wp2_with fail
  refine hK.out _ _ (mu_of M9) (fun hHeld => ?_)
  clear hK
  try simp only [List.setIfInBounds_toArray, List.set_cons_zero, List.set_cons_succ]
  refine wpAnyH_ready (rs := [6]) (by kernel_rfl) (by simp) ?_
  refine AllReadyH.cons (o := ⟨some 45, _, _, _, _, _⟩) rfl (fun K hK => ?_) AllReadyH.nil
  go_simp
  refine hK.out _ _ hHeld (fun hHeld => ?_)
  clear hK
  try simp only [List.setIfInBounds_toArray, List.set_cons_zero, List.set_cons_succ]
  refine wpAnyH_ready (rs := [12]) (by kernel_rfl) (by simp) ?_
  refine AllReadyH.cons (o := ⟨some 51, _, _, _, _, _⟩) rfl (fun K hK => ?_) AllReadyH.nil
  go_simp
  refine (HNe.out _).mono ?_
  rintro e w8 ⟨rfl, hb⟩
  have M10 := Lib.hid ((Hid.out (by assumption) : MutI W B P s2 X _).to hb)
  go_wp2_with fail
  refine hK.out _ _ (mu_of M10) (fun hHeld => ?_)
  clear hK
  try simp only [List.setIfInBounds_toArray, List.set_cons_zero, List.set_cons_succ]
  refine wpAnyH_ready (rs := [13]) (by kernel_rfl) (by simp) ?_
  refine AllReadyH.cons (o := ⟨some 52, _, _, _, _, _⟩) rfl (fun K hK => ?_) AllReadyH.nil
  go_simp
  refine (HTu.out _ (Hid.out (by assumption) : MutI W B P s2 X _).at_).mono ?_
  rintro e w9 h1
  obtain rfl := h1.e
  have M11 := Lib.hid ((Hid.out (by assumption) : MutI W B P s2 X _).step h1)
  go_wp2_with fail
  refine hK.out _ _ (mu_of M11) (fun hHeld => ?_)
  clear hK
  try simp only [List.setIfInBounds_toArray, List.set_cons_zero, List.set_cons_succ]
  refine wpAnyH_done (by kernel_rfl) ?_ _
  have X11 := mu_of M11
  have c13 := M11.out.at_.e.cell (i := 13) (v := .int .i64 s6.st) rfl
  rcases zz with ⟨z5, hz⟩ | ⟨z5, hz⟩
  · subst hz
    have v7a := M11.out.drew.at_.e.cell (i := 7) (v := .int .u64 (s6.bs.hi : Int)) rfl
    go_wp2_with fail
    have M12 := Lib.hid M11.out.drew
    have X12 := mu_of M12
    have r7 := mu_e (W := W) (B := B) (P := P) (s := s6) (x := X) (i := 7) (v := .int .u64 (s6.bs.hi : Int)) rfl
    have r8 := mu_e (W := W) (B := B) (P := P) (s := s6) (x := X) (i := 8) (v := .int .u64 (s6.bs.lo : Int)) rfl
    have r9 := mu_e (W := W) (B := B) (P := P) (s := s6) (x := X) (i := 9) (v := .int .u64 (s6.bs.bw : Int)) rfl
    have f7 := mu_f (W := W) (B := B) (P := P) (s := s6) (x := X) 7
    have f8 := mu_f (W := W) (B := B) (P := P) (s := s6) (x := X) 8
    have f9 := mu_f (W := W) (B := B) (P := P) (s := s6) (x := X) 9
    go_region_with (first
      | (go_at_call 34; (refine (HPs.out _).mono ?_); rintro e w10 ⟨rfl, hb⟩; have M13 := Lib.hid (M12.out.to hb); clear hb))
    all_goals
      have M16 := Lib.hid (((M13.out.set (s' := { s6 with bs := ⟨bs7.hi, s6.bs.lo, s6.bs.bw⟩ }) 7 (.int .u64 (bs7.hi : Int)) rfl rfl rfl rfl rfl).set (s' := { s6 with bs := ⟨bs7.hi, bs7.lo, s6.bs.bw⟩ }) 8 (.int .u64 (bs7.lo : Int)) rfl rfl rfl rfl rfl).set (s' := { s6 with bs := bs7 }) 9 (.int .u64 (bs7.bw : Int)) rfl rfl rfl rfl rfl)
      have X16 := mu_of M16
      go_wp2_with fail
      refine (HOp.out _ M16.out.at_).mono ?_
      rintro e w12 ⟨rfl, hb⟩
      have M14 := Lib.hid (M16.out.to hb)
      have c18 := M14.out.at_.e.cell (i := 18) (v := .int .u64 (s6.cwnd : Int)) rfl
      have y18 := M14.out.at_.e.free 18
      have M15 := Lib.hid (M14.out.set (s' := { s6 with bs := bs7, cwnd := op }) 18 (.int .u64 (op : Int)) rfl rfl rfl rfl rfl)
      clear hb
      go_wp2_with fail
      go_end0
      exact M15.out.post
  · subst hz
    go_wp2_with fail
    refine (HOp.out _ M11.out.at_).mono ?_
    rintro e w12 ⟨rfl, hb⟩
    have M14 := Lib.hid (M11.out.to hb)
    have c18 := M14.out.at_.e.cell (i := 18) (v := .int .u64 (s7.cwnd : Int)) rfl
    have y18 := M14.out.at_.e.free 18
    have M15 := Lib.hid (M14.out.set (s' := { s7 with cwnd := op }) 18 (.int .u64 (op : Int)) rfl rfl rfl rfl rfl)
    clear hb
    go_wp2_with fail
    go_end0
    exact M15.out.post

set_option maxHeartbeats 4000000 in
set_option maxRecDepth 100000 in
theorem en_On_tf {B : Nat} {P : EP} {s s1 s2 s3 s4 s5 s6 s7 : ES} {now sd si sr rt dl ac lo fl best op : Nat} {sl : Bool} {sg : Array Value} {t : Int} {bs7 : BS} (W : World) (h : EngAt W B P s)
    (HCo : ∀ w, EngAt w B P s → Calls Tryd.prog 25 #[.pointer (some ⟨P.b, 0, none⟩), EvS.val ⟨now, sd, si, sr, rt, sl, true, dl, ac, lo, fl⟩] w (EPost B P (.returned (.tuple #[])) s1 w))
    (HMe : ∀ w, EngAt w B P s1 → Calls Tryd.prog 26 #[.pointer (some ⟨P.b, 0, none⟩), EvS.val ⟨now, sd, si, sr, rt, sl, true, dl, ac, lo, fl⟩] w (EPost B P (.returned (.bool false)) s2 w))
    (HBe : ∀ w, EngAt w B P s2 → Calls Tryd.prog 29 #[.pointer (some ⟨P.y, 0, none⟩)] w fun e w' => e = .returned (.int .u64 (best : Int)) ∧ Below w.heap.size w w')
    (HPu : ∀ w, EngAt w B P s2 → Calls Tryd.prog 28 #[.pointer (some ⟨P.p, 0, none⟩), .int .u64 (best : Int), .bool false, .bool sl] w fun e w' => e = (.returned (.tuple #[])) ∧ MutN w B P s4 w')
    (HSi : ∀ w, EngAt w B P s4 → Calls Tryd.prog 33 #[.pointer (some ⟨P.b, 0, none⟩), EvS.val ⟨now, sd, si, sr, rt, sl, true, dl, ac, lo, fl⟩, .bool false, .bool false] w fun e w' => e = .returned (.agg sg) ∧ Below w.heap.size w w')
    (HNe : ∀ w, Calls Tryd.prog 32 #[.int .i64 s4.st, .agg sg] w fun e w' => e = .returned (.int .i64 t) ∧ Below w.heap.size w w')
    (HTu : ∀ w, EngAt w B P s4 → Calls Tryd.prog 31 #[.pointer (some ⟨P.b, 0, none⟩), .int .u64 (now : Int), .int .i64 t] w (EPost B P (.returned (.tuple #[])) s6 w))
    (HPs : ∀ w, Calls Tryd.prog 34 #[.agg #[.int .u64 (s6.bs.hi : Int), .int .u64 (s6.bs.lo : Int), .int .u64 (s6.bs.bw : Int)], .int .u64 (ac : Int)] w fun e w' => e = .returned (.agg #[.int .u64 (bs7.hi : Int), .int .u64 (bs7.lo : Int), .int .u64 (bs7.bw : Int)]) ∧ Below w.heap.size w w')
    (HOp : ∀ w, EngAt w B P s7 → Calls Tryd.prog 35 #[.pointer (some ⟨P.b, 0, none⟩), .int .u64 (ac : Int)] w fun e w' => e = .returned (.int .u64 (op : Int)) ∧ Below w.heap.size w w')
    (zz : ((s6.st == 5) = true ∧ s7 = { s6 with bs := bs7 }) ∨ ((s6.st == 5) = false ∧ s7 = s6))
    : Calls Tryd.prog 8 #[.pointer (some ⟨P.b, 0, none⟩), EvS.val ⟨now, sd, si, sr, rt, sl, true, dl, ac, lo, fl⟩] W (EPost B P (.returned (.tuple #[])) { s7 with cwnd := op } W) := by
  have M0 := Lib.hid (MutI.start h ⟨now, sd, si, sr, rt, sl, true, dl, ac, lo, fl⟩)
  have HCo := Lib.hid HCo
  have HMe := Lib.hid HMe
  have HBe := Lib.hid HBe
  have HPu := Lib.hid HPu
  have HSi := Lib.hid HSi
  have HNe := Lib.hid HNe
  have HTu := Lib.hid HTu
  have HPs := Lib.hid HPs
  have HOp := Lib.hid HOp
  have v0 := mu_ev (W := W) (B := B) (P := P) (x := ⟨now, sd, si, sr, rt, sl, true, dl, ac, lo, fl⟩) (i := 0) (v := .int .u64 (now : Int)) rfl
  have v1 := mu_ev (W := W) (B := B) (P := P) (x := ⟨now, sd, si, sr, rt, sl, true, dl, ac, lo, fl⟩) (i := 1) (v := .int .u64 (sd : Int)) rfl
  have v2 := mu_ev (W := W) (B := B) (P := P) (x := ⟨now, sd, si, sr, rt, sl, true, dl, ac, lo, fl⟩) (i := 2) (v := .int .u64 (si : Int)) rfl
  have v3 := mu_ev (W := W) (B := B) (P := P) (x := ⟨now, sd, si, sr, rt, sl, true, dl, ac, lo, fl⟩) (i := 3) (v := .int .u64 (sr : Int)) rfl
  have v4 := mu_ev (W := W) (B := B) (P := P) (x := ⟨now, sd, si, sr, rt, sl, true, dl, ac, lo, fl⟩) (i := 4) (v := .int .u64 (rt : Int)) rfl
  have v5 := mu_ev (W := W) (B := B) (P := P) (x := ⟨now, sd, si, sr, rt, sl, true, dl, ac, lo, fl⟩) (i := 5) (v := .bool sl) rfl
  have v6 := mu_ev (W := W) (B := B) (P := P) (x := ⟨now, sd, si, sr, rt, sl, true, dl, ac, lo, fl⟩) (i := 6) (v := .bool true) rfl
  have v7 := mu_ev (W := W) (B := B) (P := P) (x := ⟨now, sd, si, sr, rt, sl, true, dl, ac, lo, fl⟩) (i := 7) (v := .int .u64 (dl : Int)) rfl
  have v8 := mu_ev (W := W) (B := B) (P := P) (x := ⟨now, sd, si, sr, rt, sl, true, dl, ac, lo, fl⟩) (i := 8) (v := .int .u64 (ac : Int)) rfl
  have v9 := mu_ev (W := W) (B := B) (P := P) (x := ⟨now, sd, si, sr, rt, sl, true, dl, ac, lo, fl⟩) (i := 9) (v := .int .u64 (lo : Int)) rfl
  have v10 := mu_ev (W := W) (B := B) (P := P) (x := ⟨now, sd, si, sr, rt, sl, true, dl, ac, lo, fl⟩) (i := 10) (v := .int .u64 (fl : Int)) rfl
  have p6 := mu_p (W := W) (B := B) (P := P) (x := ⟨now, sd, si, sr, rt, sl, true, dl, ac, lo, fl⟩) (i := 6) (v := .pointer (some ⟨P.p, 0, none⟩)) (fun _ => rfl)
  have p11 := mu_p (W := W) (B := B) (P := P) (x := ⟨now, sd, si, sr, rt, sl, true, dl, ac, lo, fl⟩) (i := 11) (v := .pointer (some ⟨P.y, 0, none⟩)) (fun _ => rfl)
  clear h
  unfold EvS.val at HCo HMe HSi ⊢
  generalize hX : (EvS.mk now sd si sr rt sl true dl ac lo fl) = X at *
  have HE : Hid (X.cells = #[.int .u64 (now : Int), .int .u64 (sd : Int), .int .u64 (si : Int), .int .u64 (sr : Int), .int .u64 (rt : Int), .bool sl, .bool true, .int .u64 (dl : Int), .int .u64 (ac : Int), .int .u64 (lo : Int), .int .u64 (fl : Int)]) := Lib.hid (by rw [← hX]; rfl)
  clear hX
  rw [HE.out] at M0 HCo HMe HSi ⊢
  go_enter Tryd.func8, Tryd.ntmps8
  go_wp2_with fail
  generalize W.alloc (.cells #[.int .u64 (now : Int), .int .u64 (sd : Int), .int .u64 (si : Int), .int .u64 (sr : Int), .int .u64 (rt : Int), .bool sl, .bool true, .int .u64 (dl : Int), .int .u64 (ac : Int), .int .u64 (lo : Int), .int .u64 (fl : Int)] 36) = w0 at *
  refine (HCo.out _ M0.out.at_).mono ?_
  rintro e w1 h1
  obtain rfl := h1.e
  have M1 := Lib.hid (M0.out.step h1)
  have X1 := mu_of M1
  clear h1 M0 HCo
  go_wp2_with fail
  refine (HMe.out _ M1.out.at_).mono ?_
  rintro e w2 h1
  obtain rfl := h1.e
  have M2 := Lib.hid (M1.out.step h1)
  have X2 := mu_of M2
  clear h1 M1 X1 HMe
  go_wp2_with fail
  have M4 := Lib.hid M2.out.drew
  have X4 := mu_of M4
  go_region_held3 (fun w' => Hid (MutX W B P X w'))
    (first | with_reducible exact X4 | with_reducible exact X5 | with_reducible exact X6)
    (first
      | (go_at_call 29; (with_reducible refine (HBe.out _ M4.out.at_).mono ?_); rintro e w4 ⟨rfl, hb⟩; have M5 := Lib.hid (M4.out.to hb); have X5 := mu_of M5; clear hb)
      | (go_at_call 28; (with_reducible refine (HPu.out _ M5.out.at_).mono ?_); rintro e w5 ⟨rfl, hn⟩; have M6 := Lib.hid (MutN.mi M5.out hn); have X6 := mu_of M6; clear hn))
  clear M2 X2 M4 X4 M5 X5 HBe HPu
  go_wp2_with fail
  have M8 := Lib.hid M6.out.drew
  have X8 := mu_of M8
  have r13 := mu_e (W := W) (B := B) (P := P) (s := s4) (x := X) (i := 13) (v := .int .i64 s4.st) rfl
  clear M6 X6
  refine wp_region_held_drew (S := (fun w' => Hid (MutX W B P X w'))) (by kernel_rfl) X8 (fun hHeld => ?_)
  simp only [List.size_toArray, List.length_cons, List.length_nil, Nat.reduceAdd, Array.replicate_succ, Array.replicate_zero, List.push_toArray, List.nil_append, List.cons_append]
  refine wpAnyH_take (i := 0) (oi := ⟨some 39, _, _, _, _, _⟩) (v := ?v11) rfl (by kernel_rfl) (by kernel_rfl) (by kernel_rfl) (fun _ _ _ h => h) (Or.inl ⟨by rfl, ?y11⟩) (by assumption) ?r11
  case y11 => intro w hSw; clear hSw; go_simp; (try with_reducible rfl)
  simp only [Act.put, List.setIfInBounds_toArray, List.set_cons_zero, List.set_cons_succ]
  refine wpAnyH_take (i := 1) (oi := ⟨some 40, _, _, _, _, _⟩) (v := ?v12) rfl (by kernel_rfl) (by kernel_rfl) (by kernel_rfl) (fun _ _ _ h => h) (Or.inl ⟨by rfl, ?y12⟩) (by assumption) ?r12
  case y12 => intro w hSw; clear hSw; go_simp; (try with_reducible rfl)
  simp only [Act.put, List.setIfInBounds_toArray, List.set_cons_zero, List.set_cons_succ]
  refine wpAnyH_take (i := 2) (oi := ⟨some 41, _, _, _, _, _⟩) (v := ?v13) rfl (by kernel_rfl) (by kernel_rfl) (by kernel_rfl) (fun _ _ _ h => h) (Or.inl ⟨by rfl, ?y13⟩) (by assumption) ?r13
  case y13 => intro w hSw; skip; go_simp; (try with_reducible rfl)
  simp only [Act.put, List.setIfInBounds_toArray, List.set_cons_zero, List.set_cons_succ]
  refine wpAnyH_take (i := 3) (oi := ⟨some 42, _, _, _, _, _⟩) (v := ?v14) rfl (by kernel_rfl) (by kernel_rfl) (by kernel_rfl) (fun _ _ _ h => h) (Or.inl ⟨by rfl, ?y14⟩) (by assumption) ?r14
  case y14 => intro w hSw; clear hSw; go_simp; (try with_reducible rfl)
  simp only [Act.put, List.setIfInBounds_toArray, List.set_cons_zero, List.set_cons_succ]
  refine wpAnyH_take (i := 4) (oi := ⟨some 43, _, _, _, _, _⟩) (v := ?v15) rfl (by kernel_rfl) (by kernel_rfl) (by kernel_rfl) (fun _ _ _ h => h) (Or.inl ⟨by rfl, ?y15⟩) (by assumption) ?r15
  case y15 => intro w hSw; clear hSw; go_simp; (try with_reducible rfl)
  simp only [Act.put, List.setIfInBounds_toArray, List.set_cons_zero, List.set_cons_succ]
  refine wpAnyH_take (i := 5) (oi := ⟨some 44, _, _, _, _, _⟩) (v := ?v16) rfl (by kernel_rfl) (by kernel_rfl) (by kernel_rfl) (fun _ _ _ h => h) (Or.inl ⟨by rfl, ?y16⟩) (by assumption) ?r16
  case y16 => intro w hSw; clear hSw; go_simp; (try with_reducible rfl)
  simp only [Act.put, List.setIfInBounds_toArray, List.set_cons_zero, List.set_cons_succ]
  refine wpAnyH_take (i := 7) (oi := ⟨some 46, _, _, _, _, _⟩) (v := ?v17) rfl (by kernel_rfl) (by kernel_rfl) (by kernel_rfl) (fun _ _ _ h => h) (Or.inl ⟨by rfl, ?y17⟩) (by assumption) ?r17
  case y17 => intro w hSw; clear hSw; go_simp; (try with_reducible rfl)
  simp only [Act.put, List.setIfInBounds_toArray, List.set_cons_zero, List.set_cons_succ]
  refine wpAnyH_take (i := 8) (oi := ⟨some 47, _, _, _, _, _⟩) (v := ?v18) rfl (by kernel_rfl) (by kernel_rfl) (by kernel_rfl) (fun _ _ _ h => h) (Or.inl ⟨by rfl, ?y18⟩) (by assumption) ?r18
  case y18 => intro w hSw; skip; go_simp; (try with_reducible rfl)
  simp only [Act.put, List.setIfInBounds_toArray, List.set_cons_zero, List.set_cons_succ]
  refine wpAnyH_take (i := 9) (oi := ⟨some 48, _, _, _, _, _⟩) (v := ?v19) rfl (by kernel_rfl) (by kernel_rfl) (by kernel_rfl) (fun _ _ _ h => h) (Or.inl ⟨by rfl, ?y19⟩) (by assumption) ?r19
  case y19 => intro w hSw; clear hSw; go_simp; (try with_reducible rfl)
  simp only [Act.put, List.setIfInBounds_toArray, List.set_cons_zero, List.set_cons_succ]
  refine wpAnyH_take (i := 10) (oi := ⟨some 49, _, _, _, _, _⟩) (v := ?v20) rfl (by kernel_rfl) (by kernel_rfl) (by kernel_rfl) (fun _ _ _ h => h) (Or.inl ⟨by rfl, ?y20⟩) (by assumption) ?r20
  case y20 => intro w hSw; clear hSw; go_simp; (try with_reducible rfl)
  simp only [Act.put, List.setIfInBounds_toArray, List.set_cons_zero, List.set_cons_succ]
  refine wpAnyH_ready (rs := [6, 11]) (by kernel_rfl) (by simp) ?_
  refine AllReadyH.cons (o := ⟨some 45, _, _, _, _, _⟩) rfl (fun K hK => ?_) ?_
  · go_simp
    refine hK.out _ _ hHeld (fun hHeld => ?_)
    clear hK
    try simp only [List.setIfInBounds_toArray, List.set_cons_zero, List.set_cons_succ]
    refine wpAnyH_ready (rs := [11]) (by kernel_rfl) (by simp) ?_
    refine AllReadyH.cons (o := ⟨some 50, _, _, _, _, _⟩) rfl (fun K hK => ?_) AllReadyH.nil
    go_simp
    refine (HSi.out _ (Hid.out (by assumption) : MutI W B P s4 X _).at_).mono ?_
    rintro e w7 ⟨rfl, hb⟩
    have M9 := Lib.hid ((Hid.out (by assumption) : MutI W B P s4 X _).to hb)
    go_wp2_with fail
    refine hK.out _ _ (mu_of M9) (fun hHeld => ?_)
    clear hK
    try simp only [List.setIfInBounds_toArray, List.set_cons_zero, List.set_cons_succ]
    refine wpAnyH_ready (rs := [12]) (by kernel_rfl) (by simp) ?_
    refine AllReadyH.cons (o := ⟨some 51, _, _, _, _, _⟩) rfl (fun K hK => ?_) AllReadyH.nil
    go_simp
    refine (HNe.out _).mono ?_
    rintro e w8 ⟨rfl, hb⟩
    have M10 := Lib.hid ((Hid.out (by assumption) : MutI W B P s4 X _).to hb)
    go_wp2_with fail
    refine hK.out _ _ (mu_of M10) (fun hHeld => ?_)
    clear hK
    try simp only [List.setIfInBounds_toArray, List.set_cons_zero, List.set_cons_succ]
    refine wpAnyH_ready (rs := [13]) (by kernel_rfl) (by simp) ?_
    refine AllReadyH.cons (o := ⟨some 52, _, _, _, _, _⟩) rfl (fun K hK => ?_) AllReadyH.nil
    go_simp
    refine (HTu.out _ (Hid.out (by assumption) : MutI W B P s4 X _).at_).mono ?_
    rintro e w9 h1
    obtain rfl := h1.e
    have M11 := Lib.hid ((Hid.out (by assumption) : MutI W B P s4 X _).step h1)
    go_wp2_with fail
    refine hK.out _ _ (mu_of M11) (fun hHeld => ?_)
    clear hK
    try simp only [List.setIfInBounds_toArray, List.set_cons_zero, List.set_cons_succ]
    refine wpAnyH_done (by kernel_rfl) ?_ _
    have X11 := mu_of M11
    have c13 := M11.out.at_.e.cell (i := 13) (v := .int .i64 s6.st) rfl
    rcases zz with ⟨z5, hz⟩ | ⟨z5, hz⟩
    · subst hz
      have v7a := M11.out.drew.at_.e.cell (i := 7) (v := .int .u64 (s6.bs.hi : Int)) rfl
      go_wp2_with fail
      have M12 := Lib.hid M11.out.drew
      have X12 := mu_of M12
      have r7 := mu_e (W := W) (B := B) (P := P) (s := s6) (x := X) (i := 7) (v := .int .u64 (s6.bs.hi : Int)) rfl
      have r8 := mu_e (W := W) (B := B) (P := P) (s := s6) (x := X) (i := 8) (v := .int .u64 (s6.bs.lo : Int)) rfl
      have r9 := mu_e (W := W) (B := B) (P := P) (s := s6) (x := X) (i := 9) (v := .int .u64 (s6.bs.bw : Int)) rfl
      have f7 := mu_f (W := W) (B := B) (P := P) (s := s6) (x := X) 7
      have f8 := mu_f (W := W) (B := B) (P := P) (s := s6) (x := X) 8
      have f9 := mu_f (W := W) (B := B) (P := P) (s := s6) (x := X) 9
      go_region_with (first
        | (go_at_call 34; (refine (HPs.out _).mono ?_); rintro e w10 ⟨rfl, hb⟩; have M13 := Lib.hid (M12.out.to hb); clear hb))
      all_goals
        have M16 := Lib.hid (((M13.out.set (s' := { s6 with bs := ⟨bs7.hi, s6.bs.lo, s6.bs.bw⟩ }) 7 (.int .u64 (bs7.hi : Int)) rfl rfl rfl rfl rfl).set (s' := { s6 with bs := ⟨bs7.hi, bs7.lo, s6.bs.bw⟩ }) 8 (.int .u64 (bs7.lo : Int)) rfl rfl rfl rfl rfl).set (s' := { s6 with bs := bs7 }) 9 (.int .u64 (bs7.bw : Int)) rfl rfl rfl rfl rfl)
        have X16 := mu_of M16
        go_wp2_with fail
        refine (HOp.out _ M16.out.at_).mono ?_
        rintro e w12 ⟨rfl, hb⟩
        have M14 := Lib.hid (M16.out.to hb)
        have c18 := M14.out.at_.e.cell (i := 18) (v := .int .u64 (s6.cwnd : Int)) rfl
        have y18 := M14.out.at_.e.free 18
        have M15 := Lib.hid (M14.out.set (s' := { s6 with bs := bs7, cwnd := op }) 18 (.int .u64 (op : Int)) rfl rfl rfl rfl rfl)
        clear hb
        go_wp2_with fail
        go_end0
        exact M15.out.post
    · subst hz
      go_wp2_with fail
      refine (HOp.out _ M11.out.at_).mono ?_
      rintro e w12 ⟨rfl, hb⟩
      have M14 := Lib.hid (M11.out.to hb)
      have c18 := M14.out.at_.e.cell (i := 18) (v := .int .u64 (s7.cwnd : Int)) rfl
      have y18 := M14.out.at_.e.free 18
      have M15 := Lib.hid (M14.out.set (s' := { s7 with cwnd := op }) 18 (.int .u64 (op : Int)) rfl rfl rfl rfl rfl)
      clear hb
      go_wp2_with fail
      go_end0
      exact M15.out.post
  refine AllReadyH.cons (o := ⟨some 50, _, _, _, _, _⟩) rfl (fun K hK => ?_) AllReadyH.nil
  go_simp
  refine (HSi.out _ (Hid.out (by assumption) : MutI W B P s4 X _).at_).mono ?_
  rintro e w7 ⟨rfl, hb⟩
  have M9 := Lib.hid ((Hid.out (by assumption) : MutI W B P s4 X _).to hb)
  go_wp2_with fail
  refine hK.out _ _ (mu_of M9) (fun hHeld => ?_)
  clear hK
  try simp only [List.setIfInBounds_toArray, List.set_cons_zero, List.set_cons_succ]
  refine wpAnyH_ready (rs := [6]) (by kernel_rfl) (by simp) ?_
  refine AllReadyH.cons (o := ⟨some 45, _, _, _, _, _⟩) rfl (fun K hK => ?_) AllReadyH.nil
  go_simp
  refine hK.out _ _ hHeld (fun hHeld => ?_)
  clear hK
  try simp only [List.setIfInBounds_toArray, List.set_cons_zero, List.set_cons_succ]
  refine wpAnyH_ready (rs := [12]) (by kernel_rfl) (by simp) ?_
  refine AllReadyH.cons (o := ⟨some 51, _, _, _, _, _⟩) rfl (fun K hK => ?_) AllReadyH.nil
  go_simp
  refine (HNe.out _).mono ?_
  rintro e w8 ⟨rfl, hb⟩
  have M10 := Lib.hid ((Hid.out (by assumption) : MutI W B P s4 X _).to hb)
  go_wp2_with fail
  refine hK.out _ _ (mu_of M10) (fun hHeld => ?_)
  clear hK
  try simp only [List.setIfInBounds_toArray, List.set_cons_zero, List.set_cons_succ]
  refine wpAnyH_ready (rs := [13]) (by kernel_rfl) (by simp) ?_
  refine AllReadyH.cons (o := ⟨some 52, _, _, _, _, _⟩) rfl (fun K hK => ?_) AllReadyH.nil
  go_simp
  refine (HTu.out _ (Hid.out (by assumption) : MutI W B P s4 X _).at_).mono ?_
  rintro e w9 h1
  obtain rfl := h1.e
  have M11 := Lib.hid ((Hid.out (by assumption) : MutI W B P s4 X _).step h1)
  go_wp2_with fail
  refine hK.out _ _ (mu_of M11) (fun hHeld => ?_)
  clear hK
  try simp only [List.setIfInBounds_toArray, List.set_cons_zero, List.set_cons_succ]
  refine wpAnyH_done (by kernel_rfl) ?_ _
  have X11 := mu_of M11
  have c13 := M11.out.at_.e.cell (i := 13) (v := .int .i64 s6.st) rfl
  rcases zz with ⟨z5, hz⟩ | ⟨z5, hz⟩
  · subst hz
    have v7a := M11.out.drew.at_.e.cell (i := 7) (v := .int .u64 (s6.bs.hi : Int)) rfl
    go_wp2_with fail
    have M12 := Lib.hid M11.out.drew
    have X12 := mu_of M12
    have r7 := mu_e (W := W) (B := B) (P := P) (s := s6) (x := X) (i := 7) (v := .int .u64 (s6.bs.hi : Int)) rfl
    have r8 := mu_e (W := W) (B := B) (P := P) (s := s6) (x := X) (i := 8) (v := .int .u64 (s6.bs.lo : Int)) rfl
    have r9 := mu_e (W := W) (B := B) (P := P) (s := s6) (x := X) (i := 9) (v := .int .u64 (s6.bs.bw : Int)) rfl
    have f7 := mu_f (W := W) (B := B) (P := P) (s := s6) (x := X) 7
    have f8 := mu_f (W := W) (B := B) (P := P) (s := s6) (x := X) 8
    have f9 := mu_f (W := W) (B := B) (P := P) (s := s6) (x := X) 9
    go_region_with (first
      | (go_at_call 34; (refine (HPs.out _).mono ?_); rintro e w10 ⟨rfl, hb⟩; have M13 := Lib.hid (M12.out.to hb); clear hb))
    all_goals
      have M16 := Lib.hid (((M13.out.set (s' := { s6 with bs := ⟨bs7.hi, s6.bs.lo, s6.bs.bw⟩ }) 7 (.int .u64 (bs7.hi : Int)) rfl rfl rfl rfl rfl).set (s' := { s6 with bs := ⟨bs7.hi, bs7.lo, s6.bs.bw⟩ }) 8 (.int .u64 (bs7.lo : Int)) rfl rfl rfl rfl rfl).set (s' := { s6 with bs := bs7 }) 9 (.int .u64 (bs7.bw : Int)) rfl rfl rfl rfl rfl)
      have X16 := mu_of M16
      go_wp2_with fail
      refine (HOp.out _ M16.out.at_).mono ?_
      rintro e w12 ⟨rfl, hb⟩
      have M14 := Lib.hid (M16.out.to hb)
      have c18 := M14.out.at_.e.cell (i := 18) (v := .int .u64 (s6.cwnd : Int)) rfl
      have y18 := M14.out.at_.e.free 18
      have M15 := Lib.hid (M14.out.set (s' := { s6 with bs := bs7, cwnd := op }) 18 (.int .u64 (op : Int)) rfl rfl rfl rfl rfl)
      clear hb
      go_wp2_with fail
      go_end0
      exact M15.out.post
  · subst hz
    go_wp2_with fail
    refine (HOp.out _ M11.out.at_).mono ?_
    rintro e w12 ⟨rfl, hb⟩
    have M14 := Lib.hid (M11.out.to hb)
    have c18 := M14.out.at_.e.cell (i := 18) (v := .int .u64 (s7.cwnd : Int)) rfl
    have y18 := M14.out.at_.e.free 18
    have M15 := Lib.hid (M14.out.set (s' := { s7 with cwnd := op }) 18 (.int .u64 (op : Int)) rfl rfl rfl rfl rfl)
    clear hb
    go_wp2_with fail
    go_end0
    exact M15.out.post

set_option maxHeartbeats 4000000 in
set_option maxRecDepth 100000 in
theorem en_On_tt {B : Nat} {P : EP} {s s1 s2 s3 s4 s5 s6 s7 : ES} {now sd si sr rt dl ac lo fl best op : Nat} {sl : Bool} {sg : Array Value} {t : Int} {bs7 : BS} (W : World) (h : EngAt W B P s)
    (HCo : ∀ w, EngAt w B P s → Calls Tryd.prog 25 #[.pointer (some ⟨P.b, 0, none⟩), EvS.val ⟨now, sd, si, sr, rt, sl, true, dl, ac, lo, fl⟩] w (EPost B P (.returned (.tuple #[])) s1 w))
    (HMe : ∀ w, EngAt w B P s1 → Calls Tryd.prog 26 #[.pointer (some ⟨P.b, 0, none⟩), EvS.val ⟨now, sd, si, sr, rt, sl, true, dl, ac, lo, fl⟩] w (EPost B P (.returned (.bool true)) s2 w))
    (HSe : ∀ w, EngAt w B P s2 → Calls Tryd.prog 27 #[.pointer (some ⟨P.b, 0, none⟩)] w (EPost B P (.returned (.bool false)) s3 w))
    (HBe : ∀ w, EngAt w B P s3 → Calls Tryd.prog 29 #[.pointer (some ⟨P.y, 0, none⟩)] w fun e w' => e = .returned (.int .u64 (best : Int)) ∧ Below w.heap.size w w')
    (HPu : ∀ w, EngAt w B P s3 → Calls Tryd.prog 28 #[.pointer (some ⟨P.p, 0, none⟩), .int .u64 (best : Int), .bool true, .bool sl] w fun e w' => e = (.returned (.tuple #[])) ∧ MutN w B P s4 w')
    (HSi : ∀ w, EngAt w B P s4 → Calls Tryd.prog 33 #[.pointer (some ⟨P.b, 0, none⟩), EvS.val ⟨now, sd, si, sr, rt, sl, true, dl, ac, lo, fl⟩, .bool true, .bool false] w fun e w' => e = .returned (.agg sg) ∧ Below w.heap.size w w')
    (HNe : ∀ w, Calls Tryd.prog 32 #[.int .i64 s4.st, .agg sg] w fun e w' => e = .returned (.int .i64 t) ∧ Below w.heap.size w w')
    (HTu : ∀ w, EngAt w B P s4 → Calls Tryd.prog 31 #[.pointer (some ⟨P.b, 0, none⟩), .int .u64 (now : Int), .int .i64 t] w (EPost B P (.returned (.tuple #[])) s6 w))
    (HPs : ∀ w, Calls Tryd.prog 34 #[.agg #[.int .u64 (s6.bs.hi : Int), .int .u64 (s6.bs.lo : Int), .int .u64 (s6.bs.bw : Int)], .int .u64 (ac : Int)] w fun e w' => e = .returned (.agg #[.int .u64 (bs7.hi : Int), .int .u64 (bs7.lo : Int), .int .u64 (bs7.bw : Int)]) ∧ Below w.heap.size w w')
    (HOp : ∀ w, EngAt w B P s7 → Calls Tryd.prog 35 #[.pointer (some ⟨P.b, 0, none⟩), .int .u64 (ac : Int)] w fun e w' => e = .returned (.int .u64 (op : Int)) ∧ Below w.heap.size w w')
    (zz : ((s6.st == 5) = true ∧ s7 = { s6 with bs := bs7 }) ∨ ((s6.st == 5) = false ∧ s7 = s6))
    : Calls Tryd.prog 8 #[.pointer (some ⟨P.b, 0, none⟩), EvS.val ⟨now, sd, si, sr, rt, sl, true, dl, ac, lo, fl⟩] W (EPost B P (.returned (.tuple #[])) { s7 with cwnd := op } W) := by
  have M0 := Lib.hid (MutI.start h ⟨now, sd, si, sr, rt, sl, true, dl, ac, lo, fl⟩)
  have HCo := Lib.hid HCo
  have HMe := Lib.hid HMe
  have HSe := Lib.hid HSe
  have HBe := Lib.hid HBe
  have HPu := Lib.hid HPu
  have HSi := Lib.hid HSi
  have HNe := Lib.hid HNe
  have HTu := Lib.hid HTu
  have HPs := Lib.hid HPs
  have HOp := Lib.hid HOp
  have v0 := mu_ev (W := W) (B := B) (P := P) (x := ⟨now, sd, si, sr, rt, sl, true, dl, ac, lo, fl⟩) (i := 0) (v := .int .u64 (now : Int)) rfl
  have v1 := mu_ev (W := W) (B := B) (P := P) (x := ⟨now, sd, si, sr, rt, sl, true, dl, ac, lo, fl⟩) (i := 1) (v := .int .u64 (sd : Int)) rfl
  have v2 := mu_ev (W := W) (B := B) (P := P) (x := ⟨now, sd, si, sr, rt, sl, true, dl, ac, lo, fl⟩) (i := 2) (v := .int .u64 (si : Int)) rfl
  have v3 := mu_ev (W := W) (B := B) (P := P) (x := ⟨now, sd, si, sr, rt, sl, true, dl, ac, lo, fl⟩) (i := 3) (v := .int .u64 (sr : Int)) rfl
  have v4 := mu_ev (W := W) (B := B) (P := P) (x := ⟨now, sd, si, sr, rt, sl, true, dl, ac, lo, fl⟩) (i := 4) (v := .int .u64 (rt : Int)) rfl
  have v5 := mu_ev (W := W) (B := B) (P := P) (x := ⟨now, sd, si, sr, rt, sl, true, dl, ac, lo, fl⟩) (i := 5) (v := .bool sl) rfl
  have v6 := mu_ev (W := W) (B := B) (P := P) (x := ⟨now, sd, si, sr, rt, sl, true, dl, ac, lo, fl⟩) (i := 6) (v := .bool true) rfl
  have v7 := mu_ev (W := W) (B := B) (P := P) (x := ⟨now, sd, si, sr, rt, sl, true, dl, ac, lo, fl⟩) (i := 7) (v := .int .u64 (dl : Int)) rfl
  have v8 := mu_ev (W := W) (B := B) (P := P) (x := ⟨now, sd, si, sr, rt, sl, true, dl, ac, lo, fl⟩) (i := 8) (v := .int .u64 (ac : Int)) rfl
  have v9 := mu_ev (W := W) (B := B) (P := P) (x := ⟨now, sd, si, sr, rt, sl, true, dl, ac, lo, fl⟩) (i := 9) (v := .int .u64 (lo : Int)) rfl
  have v10 := mu_ev (W := W) (B := B) (P := P) (x := ⟨now, sd, si, sr, rt, sl, true, dl, ac, lo, fl⟩) (i := 10) (v := .int .u64 (fl : Int)) rfl
  have p6 := mu_p (W := W) (B := B) (P := P) (x := ⟨now, sd, si, sr, rt, sl, true, dl, ac, lo, fl⟩) (i := 6) (v := .pointer (some ⟨P.p, 0, none⟩)) (fun _ => rfl)
  have p11 := mu_p (W := W) (B := B) (P := P) (x := ⟨now, sd, si, sr, rt, sl, true, dl, ac, lo, fl⟩) (i := 11) (v := .pointer (some ⟨P.y, 0, none⟩)) (fun _ => rfl)
  clear h
  unfold EvS.val at HCo HMe HSi ⊢
  generalize hX : (EvS.mk now sd si sr rt sl true dl ac lo fl) = X at *
  have HE : Hid (X.cells = #[.int .u64 (now : Int), .int .u64 (sd : Int), .int .u64 (si : Int), .int .u64 (sr : Int), .int .u64 (rt : Int), .bool sl, .bool true, .int .u64 (dl : Int), .int .u64 (ac : Int), .int .u64 (lo : Int), .int .u64 (fl : Int)]) := Lib.hid (by rw [← hX]; rfl)
  clear hX
  rw [HE.out] at M0 HCo HMe HSi ⊢
  go_enter Tryd.func8, Tryd.ntmps8
  go_wp2_with fail
  generalize W.alloc (.cells #[.int .u64 (now : Int), .int .u64 (sd : Int), .int .u64 (si : Int), .int .u64 (sr : Int), .int .u64 (rt : Int), .bool sl, .bool true, .int .u64 (dl : Int), .int .u64 (ac : Int), .int .u64 (lo : Int), .int .u64 (fl : Int)] 36) = w0 at *
  refine (HCo.out _ M0.out.at_).mono ?_
  rintro e w1 h1
  obtain rfl := h1.e
  have M1 := Lib.hid (M0.out.step h1)
  have X1 := mu_of M1
  clear h1 M0 HCo
  go_wp2_with fail
  refine (HMe.out _ M1.out.at_).mono ?_
  rintro e w2 h1
  obtain rfl := h1.e
  have M2 := Lib.hid (M1.out.step h1)
  have X2 := mu_of M2
  clear h1 M1 X1 HMe
  go_wp2_with fail
  refine (HSe.out _ M2.out.at_).mono ?_
  rintro e w3 h1
  obtain rfl := h1.e
  have M3 := Lib.hid (M2.out.step h1)
  have X3 := mu_of M3
  clear h1 M2 X2 HSe
  go_wp2_with fail
  have M4 := Lib.hid M3.out.drew
  have X4 := mu_of M4
  go_region_held3 (fun w' => Hid (MutX W B P X w'))
    (first | with_reducible exact X4 | with_reducible exact X5 | with_reducible exact X6)
    (first
      | (go_at_call 29; (with_reducible refine (HBe.out _ M4.out.at_).mono ?_); rintro e w4 ⟨rfl, hb⟩; have M5 := Lib.hid (M4.out.to hb); have X5 := mu_of M5; clear hb)
      | (go_at_call 28; (with_reducible refine (HPu.out _ M5.out.at_).mono ?_); rintro e w5 ⟨rfl, hn⟩; have M6 := Lib.hid (MutN.mi M5.out hn); have X6 := mu_of M6; clear hn))
  clear M3 X3 M4 X4 M5 X5 HBe HPu
  go_wp2_with fail
  have M8 := Lib.hid M6.out.drew
  have X8 := mu_of M8
  have r13 := mu_e (W := W) (B := B) (P := P) (s := s4) (x := X) (i := 13) (v := .int .i64 s4.st) rfl
  clear M6 X6
  refine wp_region_held_drew (S := (fun w' => Hid (MutX W B P X w'))) (by kernel_rfl) X8 (fun hHeld => ?_)
  simp only [List.size_toArray, List.length_cons, List.length_nil, Nat.reduceAdd, Array.replicate_succ, Array.replicate_zero, List.push_toArray, List.nil_append, List.cons_append]
  refine wpAnyH_take (i := 0) (oi := ⟨some 39, _, _, _, _, _⟩) (v := ?v21) rfl (by kernel_rfl) (by kernel_rfl) (by kernel_rfl) (fun _ _ _ h => h) (Or.inl ⟨by rfl, ?y21⟩) (by assumption) ?r21
  case y21 => intro w hSw; clear hSw; go_simp; (try with_reducible rfl)
  simp only [Act.put, List.setIfInBounds_toArray, List.set_cons_zero, List.set_cons_succ]
  refine wpAnyH_take (i := 1) (oi := ⟨some 40, _, _, _, _, _⟩) (v := ?v22) rfl (by kernel_rfl) (by kernel_rfl) (by kernel_rfl) (fun _ _ _ h => h) (Or.inl ⟨by rfl, ?y22⟩) (by assumption) ?r22
  case y22 => intro w hSw; clear hSw; go_simp; (try with_reducible rfl)
  simp only [Act.put, List.setIfInBounds_toArray, List.set_cons_zero, List.set_cons_succ]
  refine wpAnyH_take (i := 2) (oi := ⟨some 41, _, _, _, _, _⟩) (v := ?v23) rfl (by kernel_rfl) (by kernel_rfl) (by kernel_rfl) (fun _ _ _ h => h) (Or.inl ⟨by rfl, ?y23⟩) (by assumption) ?r23
  case y23 => intro w hSw; skip; go_simp; (try with_reducible rfl)
  simp only [Act.put, List.setIfInBounds_toArray, List.set_cons_zero, List.set_cons_succ]
  refine wpAnyH_take (i := 3) (oi := ⟨some 42, _, _, _, _, _⟩) (v := ?v24) rfl (by kernel_rfl) (by kernel_rfl) (by kernel_rfl) (fun _ _ _ h => h) (Or.inl ⟨by rfl, ?y24⟩) (by assumption) ?r24
  case y24 => intro w hSw; clear hSw; go_simp; (try with_reducible rfl)
  simp only [Act.put, List.setIfInBounds_toArray, List.set_cons_zero, List.set_cons_succ]
  refine wpAnyH_take (i := 4) (oi := ⟨some 43, _, _, _, _, _⟩) (v := ?v25) rfl (by kernel_rfl) (by kernel_rfl) (by kernel_rfl) (fun _ _ _ h => h) (Or.inl ⟨by rfl, ?y25⟩) (by assumption) ?r25
  case y25 => intro w hSw; clear hSw; go_simp; (try with_reducible rfl)
  simp only [Act.put, List.setIfInBounds_toArray, List.set_cons_zero, List.set_cons_succ]
  refine wpAnyH_take (i := 5) (oi := ⟨some 44, _, _, _, _, _⟩) (v := ?v26) rfl (by kernel_rfl) (by kernel_rfl) (by kernel_rfl) (fun _ _ _ h => h) (Or.inl ⟨by rfl, ?y26⟩) (by assumption) ?r26
  case y26 => intro w hSw; clear hSw; go_simp; (try with_reducible rfl)
  simp only [Act.put, List.setIfInBounds_toArray, List.set_cons_zero, List.set_cons_succ]
  refine wpAnyH_take (i := 7) (oi := ⟨some 46, _, _, _, _, _⟩) (v := ?v27) rfl (by kernel_rfl) (by kernel_rfl) (by kernel_rfl) (fun _ _ _ h => h) (Or.inl ⟨by rfl, ?y27⟩) (by assumption) ?r27
  case y27 => intro w hSw; clear hSw; go_simp; (try with_reducible rfl)
  simp only [Act.put, List.setIfInBounds_toArray, List.set_cons_zero, List.set_cons_succ]
  refine wpAnyH_take (i := 8) (oi := ⟨some 47, _, _, _, _, _⟩) (v := ?v28) rfl (by kernel_rfl) (by kernel_rfl) (by kernel_rfl) (fun _ _ _ h => h) (Or.inl ⟨by rfl, ?y28⟩) (by assumption) ?r28
  case y28 => intro w hSw; skip; go_simp; (try with_reducible rfl)
  simp only [Act.put, List.setIfInBounds_toArray, List.set_cons_zero, List.set_cons_succ]
  refine wpAnyH_take (i := 9) (oi := ⟨some 48, _, _, _, _, _⟩) (v := ?v29) rfl (by kernel_rfl) (by kernel_rfl) (by kernel_rfl) (fun _ _ _ h => h) (Or.inl ⟨by rfl, ?y29⟩) (by assumption) ?r29
  case y29 => intro w hSw; clear hSw; go_simp; (try with_reducible rfl)
  simp only [Act.put, List.setIfInBounds_toArray, List.set_cons_zero, List.set_cons_succ]
  refine wpAnyH_take (i := 10) (oi := ⟨some 49, _, _, _, _, _⟩) (v := ?v30) rfl (by kernel_rfl) (by kernel_rfl) (by kernel_rfl) (fun _ _ _ h => h) (Or.inl ⟨by rfl, ?y30⟩) (by assumption) ?r30
  case y30 => intro w hSw; clear hSw; go_simp; (try with_reducible rfl)
  simp only [Act.put, List.setIfInBounds_toArray, List.set_cons_zero, List.set_cons_succ]
  refine wpAnyH_ready (rs := [6, 11]) (by kernel_rfl) (by simp) ?_
  refine AllReadyH.cons (o := ⟨some 45, _, _, _, _, _⟩) rfl (fun K hK => ?_) ?_
  · go_simp
    refine hK.out _ _ hHeld (fun hHeld => ?_)
    clear hK
    try simp only [List.setIfInBounds_toArray, List.set_cons_zero, List.set_cons_succ]
    refine wpAnyH_ready (rs := [11]) (by kernel_rfl) (by simp) ?_
    refine AllReadyH.cons (o := ⟨some 50, _, _, _, _, _⟩) rfl (fun K hK => ?_) AllReadyH.nil
    go_simp
    refine (HSi.out _ (Hid.out (by assumption) : MutI W B P s4 X _).at_).mono ?_
    rintro e w7 ⟨rfl, hb⟩
    have M9 := Lib.hid ((Hid.out (by assumption) : MutI W B P s4 X _).to hb)
    go_wp2_with fail
    refine hK.out _ _ (mu_of M9) (fun hHeld => ?_)
    clear hK
    try simp only [List.setIfInBounds_toArray, List.set_cons_zero, List.set_cons_succ]
    refine wpAnyH_ready (rs := [12]) (by kernel_rfl) (by simp) ?_
    refine AllReadyH.cons (o := ⟨some 51, _, _, _, _, _⟩) rfl (fun K hK => ?_) AllReadyH.nil
    go_simp
    refine (HNe.out _).mono ?_
    rintro e w8 ⟨rfl, hb⟩
    have M10 := Lib.hid ((Hid.out (by assumption) : MutI W B P s4 X _).to hb)
    go_wp2_with fail
    refine hK.out _ _ (mu_of M10) (fun hHeld => ?_)
    clear hK
    try simp only [List.setIfInBounds_toArray, List.set_cons_zero, List.set_cons_succ]
    refine wpAnyH_ready (rs := [13]) (by kernel_rfl) (by simp) ?_
    refine AllReadyH.cons (o := ⟨some 52, _, _, _, _, _⟩) rfl (fun K hK => ?_) AllReadyH.nil
    go_simp
    refine (HTu.out _ (Hid.out (by assumption) : MutI W B P s4 X _).at_).mono ?_
    rintro e w9 h1
    obtain rfl := h1.e
    have M11 := Lib.hid ((Hid.out (by assumption) : MutI W B P s4 X _).step h1)
    go_wp2_with fail
    refine hK.out _ _ (mu_of M11) (fun hHeld => ?_)
    clear hK
    try simp only [List.setIfInBounds_toArray, List.set_cons_zero, List.set_cons_succ]
    refine wpAnyH_done (by kernel_rfl) ?_ _
    have X11 := mu_of M11
    have c13 := M11.out.at_.e.cell (i := 13) (v := .int .i64 s6.st) rfl
    rcases zz with ⟨z5, hz⟩ | ⟨z5, hz⟩
    · subst hz
      have v7a := M11.out.drew.at_.e.cell (i := 7) (v := .int .u64 (s6.bs.hi : Int)) rfl
      go_wp2_with fail
      have M12 := Lib.hid M11.out.drew
      have X12 := mu_of M12
      have r7 := mu_e (W := W) (B := B) (P := P) (s := s6) (x := X) (i := 7) (v := .int .u64 (s6.bs.hi : Int)) rfl
      have r8 := mu_e (W := W) (B := B) (P := P) (s := s6) (x := X) (i := 8) (v := .int .u64 (s6.bs.lo : Int)) rfl
      have r9 := mu_e (W := W) (B := B) (P := P) (s := s6) (x := X) (i := 9) (v := .int .u64 (s6.bs.bw : Int)) rfl
      have f7 := mu_f (W := W) (B := B) (P := P) (s := s6) (x := X) 7
      have f8 := mu_f (W := W) (B := B) (P := P) (s := s6) (x := X) 8
      have f9 := mu_f (W := W) (B := B) (P := P) (s := s6) (x := X) 9
      go_region_with (first
        | (go_at_call 34; (refine (HPs.out _).mono ?_); rintro e w10 ⟨rfl, hb⟩; have M13 := Lib.hid (M12.out.to hb); clear hb))
      all_goals
        have M16 := Lib.hid (((M13.out.set (s' := { s6 with bs := ⟨bs7.hi, s6.bs.lo, s6.bs.bw⟩ }) 7 (.int .u64 (bs7.hi : Int)) rfl rfl rfl rfl rfl).set (s' := { s6 with bs := ⟨bs7.hi, bs7.lo, s6.bs.bw⟩ }) 8 (.int .u64 (bs7.lo : Int)) rfl rfl rfl rfl rfl).set (s' := { s6 with bs := bs7 }) 9 (.int .u64 (bs7.bw : Int)) rfl rfl rfl rfl rfl)
        have X16 := mu_of M16
        go_wp2_with fail
        refine (HOp.out _ M16.out.at_).mono ?_
        rintro e w12 ⟨rfl, hb⟩
        have M14 := Lib.hid (M16.out.to hb)
        have c18 := M14.out.at_.e.cell (i := 18) (v := .int .u64 (s6.cwnd : Int)) rfl
        have y18 := M14.out.at_.e.free 18
        have M15 := Lib.hid (M14.out.set (s' := { s6 with bs := bs7, cwnd := op }) 18 (.int .u64 (op : Int)) rfl rfl rfl rfl rfl)
        clear hb
        go_wp2_with fail
        go_end0
        exact M15.out.post
    · subst hz
      go_wp2_with fail
      refine (HOp.out _ M11.out.at_).mono ?_
      rintro e w12 ⟨rfl, hb⟩
      have M14 := Lib.hid (M11.out.to hb)
      have c18 := M14.out.at_.e.cell (i := 18) (v := .int .u64 (s7.cwnd : Int)) rfl
      have y18 := M14.out.at_.e.free 18
      have M15 := Lib.hid (M14.out.set (s' := { s7 with cwnd := op }) 18 (.int .u64 (op : Int)) rfl rfl rfl rfl rfl)
      clear hb
      go_wp2_with fail
      go_end0
      exact M15.out.post
  refine AllReadyH.cons (o := ⟨some 50, _, _, _, _, _⟩) rfl (fun K hK => ?_) AllReadyH.nil
  go_simp
  refine (HSi.out _ (Hid.out (by assumption) : MutI W B P s4 X _).at_).mono ?_
  rintro e w7 ⟨rfl, hb⟩
  have M9 := Lib.hid ((Hid.out (by assumption) : MutI W B P s4 X _).to hb)
  go_wp2_with fail
  refine hK.out _ _ (mu_of M9) (fun hHeld => ?_)
  clear hK
  try simp only [List.setIfInBounds_toArray, List.set_cons_zero, List.set_cons_succ]
  refine wpAnyH_ready (rs := [6]) (by kernel_rfl) (by simp) ?_
  refine AllReadyH.cons (o := ⟨some 45, _, _, _, _, _⟩) rfl (fun K hK => ?_) AllReadyH.nil
  go_simp
  refine hK.out _ _ hHeld (fun hHeld => ?_)
  clear hK
  try simp only [List.setIfInBounds_toArray, List.set_cons_zero, List.set_cons_succ]
  refine wpAnyH_ready (rs := [12]) (by kernel_rfl) (by simp) ?_
  refine AllReadyH.cons (o := ⟨some 51, _, _, _, _, _⟩) rfl (fun K hK => ?_) AllReadyH.nil
  go_simp
  refine (HNe.out _).mono ?_
  rintro e w8 ⟨rfl, hb⟩
  have M10 := Lib.hid ((Hid.out (by assumption) : MutI W B P s4 X _).to hb)
  go_wp2_with fail
  refine hK.out _ _ (mu_of M10) (fun hHeld => ?_)
  clear hK
  try simp only [List.setIfInBounds_toArray, List.set_cons_zero, List.set_cons_succ]
  refine wpAnyH_ready (rs := [13]) (by kernel_rfl) (by simp) ?_
  refine AllReadyH.cons (o := ⟨some 52, _, _, _, _, _⟩) rfl (fun K hK => ?_) AllReadyH.nil
  go_simp
  refine (HTu.out _ (Hid.out (by assumption) : MutI W B P s4 X _).at_).mono ?_
  rintro e w9 h1
  obtain rfl := h1.e
  have M11 := Lib.hid ((Hid.out (by assumption) : MutI W B P s4 X _).step h1)
  go_wp2_with fail
  refine hK.out _ _ (mu_of M11) (fun hHeld => ?_)
  clear hK
  try simp only [List.setIfInBounds_toArray, List.set_cons_zero, List.set_cons_succ]
  refine wpAnyH_done (by kernel_rfl) ?_ _
  have X11 := mu_of M11
  have c13 := M11.out.at_.e.cell (i := 13) (v := .int .i64 s6.st) rfl
  rcases zz with ⟨z5, hz⟩ | ⟨z5, hz⟩
  · subst hz
    have v7a := M11.out.drew.at_.e.cell (i := 7) (v := .int .u64 (s6.bs.hi : Int)) rfl
    go_wp2_with fail
    have M12 := Lib.hid M11.out.drew
    have X12 := mu_of M12
    have r7 := mu_e (W := W) (B := B) (P := P) (s := s6) (x := X) (i := 7) (v := .int .u64 (s6.bs.hi : Int)) rfl
    have r8 := mu_e (W := W) (B := B) (P := P) (s := s6) (x := X) (i := 8) (v := .int .u64 (s6.bs.lo : Int)) rfl
    have r9 := mu_e (W := W) (B := B) (P := P) (s := s6) (x := X) (i := 9) (v := .int .u64 (s6.bs.bw : Int)) rfl
    have f7 := mu_f (W := W) (B := B) (P := P) (s := s6) (x := X) 7
    have f8 := mu_f (W := W) (B := B) (P := P) (s := s6) (x := X) 8
    have f9 := mu_f (W := W) (B := B) (P := P) (s := s6) (x := X) 9
    go_region_with (first
      | (go_at_call 34; (refine (HPs.out _).mono ?_); rintro e w10 ⟨rfl, hb⟩; have M13 := Lib.hid (M12.out.to hb); clear hb))
    all_goals
      have M16 := Lib.hid (((M13.out.set (s' := { s6 with bs := ⟨bs7.hi, s6.bs.lo, s6.bs.bw⟩ }) 7 (.int .u64 (bs7.hi : Int)) rfl rfl rfl rfl rfl).set (s' := { s6 with bs := ⟨bs7.hi, bs7.lo, s6.bs.bw⟩ }) 8 (.int .u64 (bs7.lo : Int)) rfl rfl rfl rfl rfl).set (s' := { s6 with bs := bs7 }) 9 (.int .u64 (bs7.bw : Int)) rfl rfl rfl rfl rfl)
      have X16 := mu_of M16
      go_wp2_with fail
      refine (HOp.out _ M16.out.at_).mono ?_
      rintro e w12 ⟨rfl, hb⟩
      have M14 := Lib.hid (M16.out.to hb)
      have c18 := M14.out.at_.e.cell (i := 18) (v := .int .u64 (s6.cwnd : Int)) rfl
      have y18 := M14.out.at_.e.free 18
      have M15 := Lib.hid (M14.out.set (s' := { s6 with bs := bs7, cwnd := op }) 18 (.int .u64 (op : Int)) rfl rfl rfl rfl rfl)
      clear hb
      go_wp2_with fail
      go_end0
      exact M15.out.post
  · subst hz
    go_wp2_with fail
    refine (HOp.out _ M11.out.at_).mono ?_
    rintro e w12 ⟨rfl, hb⟩
    have M14 := Lib.hid (M11.out.to hb)
    have c18 := M14.out.at_.e.cell (i := 18) (v := .int .u64 (s7.cwnd : Int)) rfl
    have y18 := M14.out.at_.e.free 18
    have M15 := Lib.hid (M14.out.set (s' := { s7 with cwnd := op }) 18 (.int .u64 (op : Int)) rfl rfl rfl rfl rfl)
    clear hb
    go_wp2_with fail
    go_end0
    exact M15.out.post

set_option maxHeartbeats 4000000 in
set_option maxRecDepth 100000 in
theorem en_On_ttt {B : Nat} {P : EP} {s s1 s2 s3 s4 s5 s6 s7 : ES} {now sd si sr rt dl ac lo fl best op : Nat} {sl : Bool} {sg : Array Value} {t : Int} {bs7 : BS} (W : World) (h : EngAt W B P s)
    (HCo : ∀ w, EngAt w B P s → Calls Tryd.prog 25 #[.pointer (some ⟨P.b, 0, none⟩), EvS.val ⟨now, sd, si, sr, rt, sl, true, dl, ac, lo, fl⟩] w (EPost B P (.returned (.tuple #[])) s1 w))
    (HMe : ∀ w, EngAt w B P s1 → Calls Tryd.prog 26 #[.pointer (some ⟨P.b, 0, none⟩), EvS.val ⟨now, sd, si, sr, rt, sl, true, dl, ac, lo, fl⟩] w (EPost B P (.returned (.bool true)) s2 w))
    (HSe : ∀ w, EngAt w B P s2 → Calls Tryd.prog 27 #[.pointer (some ⟨P.b, 0, none⟩)] w (EPost B P (.returned (.bool true)) s3 w))
    (HBe : ∀ w, EngAt w B P s3 → Calls Tryd.prog 29 #[.pointer (some ⟨P.y, 0, none⟩)] w fun e w' => e = .returned (.int .u64 (best : Int)) ∧ Below w.heap.size w w')
    (HPu : ∀ w, EngAt w B P s3 → Calls Tryd.prog 28 #[.pointer (some ⟨P.p, 0, none⟩), .int .u64 (best : Int), .bool true, .bool sl] w fun e w' => e = (.returned (.tuple #[])) ∧ MutN w B P s4 w')
    (HYi : ∀ w, EngAt w B P s4 → Calls Tryd.prog 30 #[.pointer (some ⟨P.b, 0, none⟩), EvS.val ⟨now, sd, si, sr, rt, sl, true, dl, ac, lo, fl⟩] w (EPost B P (.returned (.tuple #[])) s5 w))
    (HSi : ∀ w, EngAt w B P s5 → Calls Tryd.prog 33 #[.pointer (some ⟨P.b, 0, none⟩), EvS.val ⟨now, sd, si, sr, rt, sl, true, dl, ac, lo, fl⟩, .bool true, .bool true] w fun e w' => e = .returned (.agg sg) ∧ Below w.heap.size w w')
    (HNe : ∀ w, Calls Tryd.prog 32 #[.int .i64 s5.st, .agg sg] w fun e w' => e = .returned (.int .i64 t) ∧ Below w.heap.size w w')
    (HTu : ∀ w, EngAt w B P s5 → Calls Tryd.prog 31 #[.pointer (some ⟨P.b, 0, none⟩), .int .u64 (now : Int), .int .i64 t] w (EPost B P (.returned (.tuple #[])) s6 w))
    (HPs : ∀ w, Calls Tryd.prog 34 #[.agg #[.int .u64 (s6.bs.hi : Int), .int .u64 (s6.bs.lo : Int), .int .u64 (s6.bs.bw : Int)], .int .u64 (ac : Int)] w fun e w' => e = .returned (.agg #[.int .u64 (bs7.hi : Int), .int .u64 (bs7.lo : Int), .int .u64 (bs7.bw : Int)]) ∧ Below w.heap.size w w')
    (HOp : ∀ w, EngAt w B P s7 → Calls Tryd.prog 35 #[.pointer (some ⟨P.b, 0, none⟩), .int .u64 (ac : Int)] w fun e w' => e = .returned (.int .u64 (op : Int)) ∧ Below w.heap.size w w')
    (zz : ((s6.st == 5) = true ∧ s7 = s6) ∨ ((s6.st == 5) = false ∧ s7 = s6))
    : Calls Tryd.prog 8 #[.pointer (some ⟨P.b, 0, none⟩), EvS.val ⟨now, sd, si, sr, rt, sl, true, dl, ac, lo, fl⟩] W (EPost B P (.returned (.tuple #[])) { s7 with cwnd := op } W) := by
  have M0 := Lib.hid (MutI.start h ⟨now, sd, si, sr, rt, sl, true, dl, ac, lo, fl⟩)
  have HCo := Lib.hid HCo
  have HMe := Lib.hid HMe
  have HSe := Lib.hid HSe
  have HBe := Lib.hid HBe
  have HPu := Lib.hid HPu
  have HYi := Lib.hid HYi
  have HSi := Lib.hid HSi
  have HNe := Lib.hid HNe
  have HTu := Lib.hid HTu
  have HPs := Lib.hid HPs
  have HOp := Lib.hid HOp
  have v0 := mu_ev (W := W) (B := B) (P := P) (x := ⟨now, sd, si, sr, rt, sl, true, dl, ac, lo, fl⟩) (i := 0) (v := .int .u64 (now : Int)) rfl
  have v1 := mu_ev (W := W) (B := B) (P := P) (x := ⟨now, sd, si, sr, rt, sl, true, dl, ac, lo, fl⟩) (i := 1) (v := .int .u64 (sd : Int)) rfl
  have v2 := mu_ev (W := W) (B := B) (P := P) (x := ⟨now, sd, si, sr, rt, sl, true, dl, ac, lo, fl⟩) (i := 2) (v := .int .u64 (si : Int)) rfl
  have v3 := mu_ev (W := W) (B := B) (P := P) (x := ⟨now, sd, si, sr, rt, sl, true, dl, ac, lo, fl⟩) (i := 3) (v := .int .u64 (sr : Int)) rfl
  have v4 := mu_ev (W := W) (B := B) (P := P) (x := ⟨now, sd, si, sr, rt, sl, true, dl, ac, lo, fl⟩) (i := 4) (v := .int .u64 (rt : Int)) rfl
  have v5 := mu_ev (W := W) (B := B) (P := P) (x := ⟨now, sd, si, sr, rt, sl, true, dl, ac, lo, fl⟩) (i := 5) (v := .bool sl) rfl
  have v6 := mu_ev (W := W) (B := B) (P := P) (x := ⟨now, sd, si, sr, rt, sl, true, dl, ac, lo, fl⟩) (i := 6) (v := .bool true) rfl
  have v7 := mu_ev (W := W) (B := B) (P := P) (x := ⟨now, sd, si, sr, rt, sl, true, dl, ac, lo, fl⟩) (i := 7) (v := .int .u64 (dl : Int)) rfl
  have v8 := mu_ev (W := W) (B := B) (P := P) (x := ⟨now, sd, si, sr, rt, sl, true, dl, ac, lo, fl⟩) (i := 8) (v := .int .u64 (ac : Int)) rfl
  have v9 := mu_ev (W := W) (B := B) (P := P) (x := ⟨now, sd, si, sr, rt, sl, true, dl, ac, lo, fl⟩) (i := 9) (v := .int .u64 (lo : Int)) rfl
  have v10 := mu_ev (W := W) (B := B) (P := P) (x := ⟨now, sd, si, sr, rt, sl, true, dl, ac, lo, fl⟩) (i := 10) (v := .int .u64 (fl : Int)) rfl
  have p6 := mu_p (W := W) (B := B) (P := P) (x := ⟨now, sd, si, sr, rt, sl, true, dl, ac, lo, fl⟩) (i := 6) (v := .pointer (some ⟨P.p, 0, none⟩)) (fun _ => rfl)
  have p11 := mu_p (W := W) (B := B) (P := P) (x := ⟨now, sd, si, sr, rt, sl, true, dl, ac, lo, fl⟩) (i := 11) (v := .pointer (some ⟨P.y, 0, none⟩)) (fun _ => rfl)
  clear h
  unfold EvS.val at HCo HMe HSi HYi ⊢
  generalize hX : (EvS.mk now sd si sr rt sl true dl ac lo fl) = X at *
  have HE : Hid (X.cells = #[.int .u64 (now : Int), .int .u64 (sd : Int), .int .u64 (si : Int), .int .u64 (sr : Int), .int .u64 (rt : Int), .bool sl, .bool true, .int .u64 (dl : Int), .int .u64 (ac : Int), .int .u64 (lo : Int), .int .u64 (fl : Int)]) := Lib.hid (by rw [← hX]; rfl)
  clear hX
  rw [HE.out] at M0 HCo HMe HSi HYi ⊢
  go_enter Tryd.func8, Tryd.ntmps8
  go_wp2_with fail
  generalize W.alloc (.cells #[.int .u64 (now : Int), .int .u64 (sd : Int), .int .u64 (si : Int), .int .u64 (sr : Int), .int .u64 (rt : Int), .bool sl, .bool true, .int .u64 (dl : Int), .int .u64 (ac : Int), .int .u64 (lo : Int), .int .u64 (fl : Int)] 36) = w0 at *
  refine (HCo.out _ M0.out.at_).mono ?_
  rintro e w1 h1
  obtain rfl := h1.e
  have M1 := Lib.hid (M0.out.step h1)
  have X1 := mu_of M1
  clear h1 M0 HCo
  go_wp2_with fail
  refine (HMe.out _ M1.out.at_).mono ?_
  rintro e w2 h1
  obtain rfl := h1.e
  have M2 := Lib.hid (M1.out.step h1)
  have X2 := mu_of M2
  clear h1 M1 X1 HMe
  go_wp2_with fail
  refine (HSe.out _ M2.out.at_).mono ?_
  rintro e w3 h1
  obtain rfl := h1.e
  have M3 := Lib.hid (M2.out.step h1)
  have X3 := mu_of M3
  clear h1 M2 X2 HSe
  go_wp2_with fail
  have M4 := Lib.hid M3.out.drew
  have X4 := mu_of M4
  go_region_held3 (fun w' => Hid (MutX W B P X w'))
    (first | with_reducible exact X4 | with_reducible exact X5 | with_reducible exact X6)
    (first
      | (go_at_call 29; (with_reducible refine (HBe.out _ M4.out.at_).mono ?_); rintro e w4 ⟨rfl, hb⟩; have M5 := Lib.hid (M4.out.to hb); have X5 := mu_of M5; clear hb)
      | (go_at_call 28; (with_reducible refine (HPu.out _ M5.out.at_).mono ?_); rintro e w5 ⟨rfl, hn⟩; have M6 := Lib.hid (MutN.mi M5.out hn); have X6 := mu_of M6; clear hn))
  clear M3 X3 M4 X4 M5 X5 HBe HPu
  go_wp2_with fail
  refine (HYi.out _ M6.out.at_).mono ?_
  rintro e w6 h1
  obtain rfl := h1.e
  have M7 := Lib.hid (M6.out.step h1)
  have X7 := mu_of M7
  clear h1 M6 X6 HYi
  go_wp2_with fail
  have M8 := Lib.hid M7.out.drew
  have X8 := mu_of M8
  have r13 := mu_e (W := W) (B := B) (P := P) (s := s5) (x := X) (i := 13) (v := .int .i64 s5.st) rfl
  clear M7 X7
  refine wp_region_held_drew (S := (fun w' => Hid (MutX W B P X w'))) (by kernel_rfl) X8 (fun hHeld => ?_)
  simp only [List.size_toArray, List.length_cons, List.length_nil, Nat.reduceAdd, Array.replicate_succ, Array.replicate_zero, List.push_toArray, List.nil_append, List.cons_append]
  refine wpAnyH_take (i := 0) (oi := ⟨some 39, _, _, _, _, _⟩) (v := ?v31) rfl (by kernel_rfl) (by kernel_rfl) (by kernel_rfl) (fun _ _ _ h => h) (Or.inl ⟨by rfl, ?y31⟩) (by assumption) ?r31
  case y31 => intro w hSw; clear hSw; go_simp; (try with_reducible rfl)
  simp only [Act.put, List.setIfInBounds_toArray, List.set_cons_zero, List.set_cons_succ]
  refine wpAnyH_take (i := 1) (oi := ⟨some 40, _, _, _, _, _⟩) (v := ?v32) rfl (by kernel_rfl) (by kernel_rfl) (by kernel_rfl) (fun _ _ _ h => h) (Or.inl ⟨by rfl, ?y32⟩) (by assumption) ?r32
  case y32 => intro w hSw; clear hSw; go_simp; (try with_reducible rfl)
  simp only [Act.put, List.setIfInBounds_toArray, List.set_cons_zero, List.set_cons_succ]
  refine wpAnyH_take (i := 2) (oi := ⟨some 41, _, _, _, _, _⟩) (v := ?v33) rfl (by kernel_rfl) (by kernel_rfl) (by kernel_rfl) (fun _ _ _ h => h) (Or.inl ⟨by rfl, ?y33⟩) (by assumption) ?r33
  case y33 => intro w hSw; skip; go_simp; (try with_reducible rfl)
  simp only [Act.put, List.setIfInBounds_toArray, List.set_cons_zero, List.set_cons_succ]
  refine wpAnyH_take (i := 3) (oi := ⟨some 42, _, _, _, _, _⟩) (v := ?v34) rfl (by kernel_rfl) (by kernel_rfl) (by kernel_rfl) (fun _ _ _ h => h) (Or.inl ⟨by rfl, ?y34⟩) (by assumption) ?r34
  case y34 => intro w hSw; clear hSw; go_simp; (try with_reducible rfl)
  simp only [Act.put, List.setIfInBounds_toArray, List.set_cons_zero, List.set_cons_succ]
  refine wpAnyH_take (i := 4) (oi := ⟨some 43, _, _, _, _, _⟩) (v := ?v35) rfl (by kernel_rfl) (by kernel_rfl) (by kernel_rfl) (fun _ _ _ h => h) (Or.inl ⟨by rfl, ?y35⟩) (by assumption) ?r35
  case y35 => intro w hSw; clear hSw; go_simp; (try with_reducible rfl)
  simp only [Act.put, List.setIfInBounds_toArray, List.set_cons_zero, List.set_cons_succ]
  refine wpAnyH_take (i := 5) (oi := ⟨some 44, _, _, _, _, _⟩) (v := ?v36) rfl (by kernel_rfl) (by kernel_rfl) (by kernel_rfl) (fun _ _ _ h => h) (Or.inl ⟨by rfl, ?y36⟩) (by assumption) ?r36
  case y36 => intro w hSw; clear hSw; go_simp; (try with_reducible rfl)
  simp only [Act.put, List.setIfInBounds_toArray, List.set_cons_zero, List.set_cons_succ]
  refine wpAnyH_take (i := 7) (oi := ⟨some 46, _, _, _, _, _⟩) (v := ?v37) rfl (by kernel_rfl) (by kernel_rfl) (by kernel_rfl) (fun _ _ _ h => h) (Or.inl ⟨by rfl, ?y37⟩) (by assumption) ?r37
  case y37 => intro w hSw; clear hSw; go_simp; (try with_reducible rfl)
  simp only [Act.put, List.setIfInBounds_toArray, List.set_cons_zero, List.set_cons_succ]
  refine wpAnyH_take (i := 8) (oi := ⟨some 47, _, _, _, _, _⟩) (v := ?v38) rfl (by kernel_rfl) (by kernel_rfl) (by kernel_rfl) (fun _ _ _ h => h) (Or.inl ⟨by rfl, ?y38⟩) (by assumption) ?r38
  case y38 => intro w hSw; skip; go_simp; (try with_reducible rfl)
  simp only [Act.put, List.setIfInBounds_toArray, List.set_cons_zero, List.set_cons_succ]
  refine wpAnyH_take (i := 9) (oi := ⟨some 48, _, _, _, _, _⟩) (v := ?v39) rfl (by kernel_rfl) (by kernel_rfl) (by kernel_rfl) (fun _ _ _ h => h) (Or.inl ⟨by rfl, ?y39⟩) (by assumption) ?r39
  case y39 => intro w hSw; clear hSw; go_simp; (try with_reducible rfl)
  simp only [Act.put, List.setIfInBounds_toArray, List.set_cons_zero, List.set_cons_succ]
  refine wpAnyH_take (i := 10) (oi := ⟨some 49, _, _, _, _, _⟩) (v := ?v40) rfl (by kernel_rfl) (by kernel_rfl) (by kernel_rfl) (fun _ _ _ h => h) (Or.inl ⟨by rfl, ?y40⟩) (by assumption) ?r40
  case y40 => intro w hSw; clear hSw; go_simp; (try with_reducible rfl)
  simp only [Act.put, List.setIfInBounds_toArray, List.set_cons_zero, List.set_cons_succ]
  refine wpAnyH_ready (rs := [6, 11]) (by kernel_rfl) (by simp) ?_
  refine AllReadyH.cons (o := ⟨some 45, _, _, _, _, _⟩) rfl (fun K hK => ?_) ?_
  · go_simp
    refine hK.out _ _ hHeld (fun hHeld => ?_)
    clear hK
    try simp only [List.setIfInBounds_toArray, List.set_cons_zero, List.set_cons_succ]
    refine wpAnyH_ready (rs := [11]) (by kernel_rfl) (by simp) ?_
    refine AllReadyH.cons (o := ⟨some 50, _, _, _, _, _⟩) rfl (fun K hK => ?_) AllReadyH.nil
    go_simp
    refine (HSi.out _ (Hid.out (by assumption) : MutI W B P s5 X _).at_).mono ?_
    rintro e w7 ⟨rfl, hb⟩
    have M9 := Lib.hid ((Hid.out (by assumption) : MutI W B P s5 X _).to hb)
    go_wp2_with fail
    refine hK.out _ _ (mu_of M9) (fun hHeld => ?_)
    clear hK
    try simp only [List.setIfInBounds_toArray, List.set_cons_zero, List.set_cons_succ]
    refine wpAnyH_ready (rs := [12]) (by kernel_rfl) (by simp) ?_
    refine AllReadyH.cons (o := ⟨some 51, _, _, _, _, _⟩) rfl (fun K hK => ?_) AllReadyH.nil
    go_simp
    refine (HNe.out _).mono ?_
    rintro e w8 ⟨rfl, hb⟩
    have M10 := Lib.hid ((Hid.out (by assumption) : MutI W B P s5 X _).to hb)
    go_wp2_with fail
    refine hK.out _ _ (mu_of M10) (fun hHeld => ?_)
    clear hK
    try simp only [List.setIfInBounds_toArray, List.set_cons_zero, List.set_cons_succ]
    refine wpAnyH_ready (rs := [13]) (by kernel_rfl) (by simp) ?_
    refine AllReadyH.cons (o := ⟨some 52, _, _, _, _, _⟩) rfl (fun K hK => ?_) AllReadyH.nil
    go_simp
    refine (HTu.out _ (Hid.out (by assumption) : MutI W B P s5 X _).at_).mono ?_
    rintro e w9 h1
    obtain rfl := h1.e
    have M11 := Lib.hid ((Hid.out (by assumption) : MutI W B P s5 X _).step h1)
    go_wp2_with fail
    refine hK.out _ _ (mu_of M11) (fun hHeld => ?_)
    clear hK
    try simp only [List.setIfInBounds_toArray, List.set_cons_zero, List.set_cons_succ]
    refine wpAnyH_done (by kernel_rfl) ?_ _
    have X11 := mu_of M11
    have c13 := M11.out.at_.e.cell (i := 13) (v := .int .i64 s6.st) rfl
    rcases zz with ⟨z5, hz⟩ | ⟨z5, hz⟩
    · subst hz
      go_wp2_with fail
      refine (HOp.out _ M11.out.at_).mono ?_
      rintro e w12 ⟨rfl, hb⟩
      have M14 := Lib.hid (M11.out.to hb)
      have c18 := M14.out.at_.e.cell (i := 18) (v := .int .u64 (s7.cwnd : Int)) rfl
      have y18 := M14.out.at_.e.free 18
      have M15 := Lib.hid (M14.out.set (s' := { s7 with cwnd := op }) 18 (.int .u64 (op : Int)) rfl rfl rfl rfl rfl)
      clear hb
      go_wp2_with fail
      go_end0
      exact M15.out.post
    · subst hz
      go_wp2_with fail
      refine (HOp.out _ M11.out.at_).mono ?_
      rintro e w12 ⟨rfl, hb⟩
      have M14 := Lib.hid (M11.out.to hb)
      have c18 := M14.out.at_.e.cell (i := 18) (v := .int .u64 (s7.cwnd : Int)) rfl
      have y18 := M14.out.at_.e.free 18
      have M15 := Lib.hid (M14.out.set (s' := { s7 with cwnd := op }) 18 (.int .u64 (op : Int)) rfl rfl rfl rfl rfl)
      clear hb
      go_wp2_with fail
      go_end0
      exact M15.out.post
  refine AllReadyH.cons (o := ⟨some 50, _, _, _, _, _⟩) rfl (fun K hK => ?_) AllReadyH.nil
  go_simp
  refine (HSi.out _ (Hid.out (by assumption) : MutI W B P s5 X _).at_).mono ?_
  rintro e w7 ⟨rfl, hb⟩
  have M9 := Lib.hid ((Hid.out (by assumption) : MutI W B P s5 X _).to hb)
  go_wp2_with fail
  refine hK.out _ _ (mu_of M9) (fun hHeld => ?_)
  clear hK
  try simp only [List.setIfInBounds_toArray, List.set_cons_zero, List.set_cons_succ]
  refine wpAnyH_ready (rs := [6]) (by kernel_rfl) (by simp) ?_
  refine AllReadyH.cons (o := ⟨some 45, _, _, _, _, _⟩) rfl (fun K hK => ?_) AllReadyH.nil
  go_simp
  refine hK.out _ _ hHeld (fun hHeld => ?_)
  clear hK
  try simp only [List.setIfInBounds_toArray, List.set_cons_zero, List.set_cons_succ]
  refine wpAnyH_ready (rs := [12]) (by kernel_rfl) (by simp) ?_
  refine AllReadyH.cons (o := ⟨some 51, _, _, _, _, _⟩) rfl (fun K hK => ?_) AllReadyH.nil
  go_simp
  refine (HNe.out _).mono ?_
  rintro e w8 ⟨rfl, hb⟩
  have M10 := Lib.hid ((Hid.out (by assumption) : MutI W B P s5 X _).to hb)
  go_wp2_with fail
  refine hK.out _ _ (mu_of M10) (fun hHeld => ?_)
  clear hK
  try simp only [List.setIfInBounds_toArray, List.set_cons_zero, List.set_cons_succ]
  refine wpAnyH_ready (rs := [13]) (by kernel_rfl) (by simp) ?_
  refine AllReadyH.cons (o := ⟨some 52, _, _, _, _, _⟩) rfl (fun K hK => ?_) AllReadyH.nil
  go_simp
  refine (HTu.out _ (Hid.out (by assumption) : MutI W B P s5 X _).at_).mono ?_
  rintro e w9 h1
  obtain rfl := h1.e
  have M11 := Lib.hid ((Hid.out (by assumption) : MutI W B P s5 X _).step h1)
  go_wp2_with fail
  refine hK.out _ _ (mu_of M11) (fun hHeld => ?_)
  clear hK
  try simp only [List.setIfInBounds_toArray, List.set_cons_zero, List.set_cons_succ]
  refine wpAnyH_done (by kernel_rfl) ?_ _
  have X11 := mu_of M11
  have c13 := M11.out.at_.e.cell (i := 13) (v := .int .i64 s6.st) rfl
  rcases zz with ⟨z5, hz⟩ | ⟨z5, hz⟩
  · subst hz
    go_wp2_with fail
    refine (HOp.out _ M11.out.at_).mono ?_
    rintro e w12 ⟨rfl, hb⟩
    have M14 := Lib.hid (M11.out.to hb)
    have c18 := M14.out.at_.e.cell (i := 18) (v := .int .u64 (s7.cwnd : Int)) rfl
    have y18 := M14.out.at_.e.free 18
    have M15 := Lib.hid (M14.out.set (s' := { s7 with cwnd := op }) 18 (.int .u64 (op : Int)) rfl rfl rfl rfl rfl)
    clear hb
    go_wp2_with fail
    go_end0
    exact M15.out.post
  · subst hz
    go_wp2_with fail
    refine (HOp.out _ M11.out.at_).mono ?_
    rintro e w12 ⟨rfl, hb⟩
    have M14 := Lib.hid (M11.out.to hb)
    have c18 := M14.out.at_.e.cell (i := 18) (v := .int .u64 (s7.cwnd : Int)) rfl
    have y18 := M14.out.at_.e.free 18
    have M15 := Lib.hid (M14.out.set (s' := { s7 with cwnd := op }) 18 (.int .u64 (op : Int)) rfl rfl rfl rfl rfl)
    clear hb
    go_wp2_with fail
    go_end0
    exact M15.out.post

end Go.Proofs.YtpkbjfhicocogaaDoor

/- Contracts of package bbr over this translation: On, whole; New; Limits; no engine. -/
set_option linter.unusedVariables false
namespace Go.Proofs.YtpkbjfhicocogaaDoor
open Go.RowKit Cf

theorem bool_st (n : Int) (a : Int) : ((n == a) = true ∧ n = a) ∨ ((n == a) = false ∧ n ≠ a) := by
  by_cases h : n = a
  · exact Or.inl ⟨beq_iff_eq.2 h, h⟩
  · exact Or.inr ⟨beq_eq_false_iff_ne.2 h, h⟩

theorem en_On {B k : Nat} {P : EP} {s : ES} (x : EvS) (hx : x.ok) (W : World) (h : EngAt W B P s) (ho : s.ok k) (hk : k ≤ 900) :
    Calls Tryd.prog 8 #[.pointer (some ⟨P.b, 0, none⟩), x.val] W (EPost B P (.returned (.tuple #[])) (s.on x) W) := by
  have o1 := ES.count_ok ho x
  have o2 := ES.mea_ok o1 hx hk
  have o3 := ES.e3_ok ho hx hk
  have o4 := ES.e4_ok ho hx hk
  have o5 := ES.e5_ok ho hx hk
  have o6 := ES.e6_ok ho hx hk
  have o7 := ES.e7_ok ho hx hk
  have HCo := fun w h => en_count (B := B) (P := P) (s := s) x hx w h ho
  have HMe := fun w h => en_measure (B := B) (P := P) x hx w h o1 hk
  have HSe := fun w h => en_settle (B := B) (P := P) (s := (s.count x).mea x) w h o2
  have HBe := fun w (h : EngAt w B P (s.e3 x)) => cy_Best P.y (s.e3 x).y w h.y
  have HPu : ∀ ov sl w, EngAt w B P (s.e3 x) → Calls Tryd.prog 28 #[.pointer (some ⟨P.p, 0, none⟩), .int .u64 ((s.e3 x).y.best : Int), .bool ov, .bool sl] w fun e w' => e = .returned (.tuple #[]) ∧ MutN w B P ((s.e3 x).pput ov sl) w' := fun ov sl w h =>
    (pi_Put P.p (s.e3 x).y.best ov sl (s.e3 x).p w h.p o3.p (CY.best_le o3.ya o3.yt)).mono fun e w' q => ⟨q.1, MutN.pi h q.2.1 q.2.2⟩
  have HYi := fun w h => en_yield (B := B) (P := P) (s := s.e4 x) x hx w h o4
  have HSi := fun ov lo w h => en_signal (B := B) (P := P) (s := s.e5 x) x hx ov lo w h o5
  have HNe := fun ov lo w => mo_Next (s.e5 x).st ((s.e5 x).sig x ov lo) (ES.sig_ok o5 hx ov lo) w
  have HTu := fun t w h => en_turn (B := B) (P := P) (s := s.e5 x) x.now t w h o5
  have HPs := fun w => bd_Push (s.e6 x).bs x.ac w o6.bs hx.ac
  have HOp := fun w h => en_open (B := B) (P := P) (s := s.e7 x) x.ac hx.ac w h o7
  have e7 : s.el x = false → (((s.e6 x).st == 5) = true ∧ s.e7 x = { s.e6 x with bs := (s.e6 x).bs.push x.ac }) ∨ (((s.e6 x).st == 5) = false ∧ s.e7 x = s.e6 x) := fun hl => by
    rcases bool_st (s.e6 x).st 5 with ⟨a, b⟩ | ⟨a, b⟩
    · exact Or.inl ⟨a, by unfold ES.e7; rw [if_pos ⟨b, hl⟩]; rfl⟩
    · exact Or.inr ⟨a, by unfold ES.e7; rw [if_neg (fun q => b q.1)]⟩
  have e7' : s.el x = true → (((s.e6 x).st == 5) = true ∧ s.e7 x = s.e6 x) ∨ (((s.e6 x).st == 5) = false ∧ s.e7 x = s.e6 x) := fun hl => by
    have : s.e7 x = s.e6 x := by unfold ES.e7; rw [if_neg (fun q => by rw [hl] at q; exact absurd q.2 (by simp))]
    rcases bool_st (s.e6 x).st 5 with ⟨a, b⟩ | ⟨a, b⟩
    · exact Or.inl ⟨a, this⟩
    · exact Or.inr ⟨a, this⟩
  have e3n : s.eo x = false → (s.count x).mea x = s.e3 x := fun q => by
    have q' : (s.count x).over x = false := q
    unfold ES.e3; rw [q']; rfl
  have e3y : s.eo x = true → ((s.count x).mea x).settle = s.e3 x := fun q => by
    have q' : (s.count x).over x = true := q
    unfold ES.e3; rw [if_pos q']
  have e4n : x.sm = false → s.e3 x = s.e4 x := fun q => by unfold ES.e4; rw [q]; rfl
  have e4y : x.sm = true → (s.e3 x).pput (s.eo x) x.sl = s.e4 x := fun q => by unfold ES.e4; rw [if_pos q]
  have e5n : s.el x = false → s.e4 x = s.e5 x := fun q => by unfold ES.e5; rw [q]; rfl
  have e5y : s.el x = true → (s.e4 x).yield x = s.e5 x := fun q => by unfold ES.e5; rw [if_pos q]
  have e6 : ∀ ov lo, s.eo x = ov → s.el x = lo → (s.e5 x).turn x.now (nextS (s.e5 x).st ((s.e5 x).sig x ov lo)) = s.e6 x := fun ov lo a b => by unfold ES.e6; rw [a, b]
  have hel : s.el x = (s.eo x && ((s.count x).mea x).lossy) := rfl
  have hov : s.eo x = (x.sm && (s.count x).n.ackB (Pl.subS x.dl x.sd)) := rfl
  have hme : (s.count x).over x = s.eo x := rfl
  rw [hme] at HMe
  clear hme
  show Calls Tryd.prog 8 #[.pointer (some ⟨P.b, 0, none⟩), x.val] W (EPost B P (.returned (.tuple #[])) { s.e7 x with cwnd := (s.e7 x).open x.ac } W)
  generalize heo : s.eo x = ov at *
  generalize hlo : s.el x = lo at *
  generalize hll : ((s.count x).mea x).lossy = ll at *
  clear heo hlo hll o1 o2 o3 o4 o5 o6 o7
  generalize (s.count x).mea x = s2 at *
  generalize s.count x = s1 at *
  generalize s.e3 x = s3 at *
  generalize s.e4 x = s4 at *
  generalize s.e5 x = s5 at *
  generalize s.e6 x = s6 at *
  generalize s.e7 x = s7 at *
  obtain ⟨now, sd, si, sr, rt, sl, sm, dl, ac, lo', fl⟩ := x
  cases sm with
  | false =>
    obtain rfl : ov = false := hov
    obtain rfl : lo = false := by rw [hel]; rfl
    obtain rfl := e3n rfl
    obtain rfl := e4n rfl
    obtain rfl := e5n rfl
    have q6 := e6 false false rfl rfl
    exact en_On_ff (best := 0) (s3 := s2) (s4 := s2) (s5 := s2) W h HCo HMe (HSi false false) (HNe false false) (fun w h => q6 ▸ HTu _ w h) HPs HOp (e7 rfl)
  | true =>
    cases ov with
    | false =>
      obtain rfl : lo = false := by rw [hel]; rfl
      obtain rfl := e3n rfl
      obtain rfl := e4y rfl
      obtain rfl := e5n rfl
      have q6 := e6 false false rfl rfl
      exact en_On_tf (s3 := s2) (s5 := s2) W h HCo HMe HBe (HPu false sl) (HSi false false) (HNe false false) (fun w h => q6 ▸ HTu _ w h) HPs HOp (e7 rfl)
    | true =>
      obtain rfl : lo = ll := by rw [hel]; rfl
      obtain rfl := e3y rfl
      obtain rfl := e4y rfl
      cases lo with
      | false =>
        obtain rfl := e5n rfl
        have q6 := e6 true false rfl rfl
        exact en_On_tt (s5 := s2) W h HCo HMe HSe HBe (HPu true sl) (HSi true false) (HNe true false) (fun w h => q6 ▸ HTu _ w h) HPs HOp (e7 rfl)
      | true =>
        obtain rfl := e5y rfl
        have q6 := e6 true true rfl rfl
        exact en_On_ttt (bs7 := s6.bs.push ac) W h HCo HMe HSe HBe (HPu true sl) HYi (HSi true true) (HNe true true) (fun w h => q6 ▸ HTu _ w h) HPs HOp (e7' rfl)

theorem en_Limits {B : Nat} {P : EP} {s : ES} (w : World) (h : EngAt w B P s) :
    Calls Tryd.prog 15 #[.pointer (some ⟨P.b, 0, none⟩)] w fun e w' => e = .returned (.agg s.bs.cells) ∧ Below w.heap.size w w' := by
  have A0 := Lib.hid (h.e.alloc (.cells #[.int .u64 0, .int .u64 0, .int .u64 0] 41))
  have c7 := A0.out.cell (i := 7) (v := .int .u64 (s.bs.hi : Int)) rfl
  have c8 := A0.out.cell (i := 8) (v := .int .u64 (s.bs.lo : Int)) rfl
  have c9 := A0.out.cell (i := 9) (v := .int .u64 (s.bs.bw : Int)) rfl
  clear h
  go_enter Tryd.func15, Tryd.ntmps15
  go_wp2
  exact bodyPost_ret (results_cell rfl _ _ w.heap.size 41 _ _ rfl (Blk.new w _ _) Tryd.underlying41 rfl (by kernel_rfl)) rfl ⟨rfl, al_be _ _⟩

theorem en_On_nil (w : World) : Calls Tryd.prog 8 #[.pointer none, .agg #[.int .u64 0, .int .u64 0, .int .u64 0, .int .u64 0, .int .u64 0, .bool false, .bool false, .int .u64 0, .int .u64 0, .int .u64 0, .int .u64 0]] w fun e w' => e = .returned (.tuple #[]) ∧ Below w.heap.size w w' := by
  go_enter Tryd.func8, Tryd.ntmps8
  go_wp2
  exact bodyPost_ret (v := .tuple #[]) (by simp [results, Tryd.results8, go_sem]) rfl ⟨rfl, al_be _ _⟩
theorem en_Limits_nil (w : World) : Calls Tryd.prog 15 #[.pointer none] w fun e w' => e = .returned (.agg #[.int .u64 0, .int .u64 0, .int .u64 0]) ∧ Below w.heap.size w w' := by
  go_enter Tryd.func15, Tryd.ntmps15
  go_wp2
  exact bodyPost_ret (results_cell rfl _ _ w.heap.size 41 _ _ rfl (Blk.new w _ _) Tryd.underlying41 rfl (by kernel_rfl)) rfl ⟨rfl, al_be _ _⟩

theorem en_State_nil (w : World) : Calls Tryd.prog 12 #[.pointer none] w fun e w' => e = .returned (.int .i64 0) ∧ Below w.heap.size w w' := by
  go_enter Tryd.func12, Tryd.ntmps12
  go_wp2
  go_ret
  exact ⟨rfl, Below.refl _ _⟩
theorem en_Cwnd_nil (w : World) : Calls Tryd.prog 9 #[.pointer none] w fun e w' => e = .returned (.int .u64 0) ∧ Below w.heap.size w w' := by
  go_enter Tryd.func9, Tryd.ntmps9
  go_wp2
  go_ret
  exact ⟨rfl, Below.refl _ _⟩
theorem en_Pace_nil (w : World) : Calls Tryd.prog 10 #[.pointer none] w fun e w' => e = .returned (.int .u64 0) ∧ Below w.heap.size w w' := by
  go_enter Tryd.func10, Tryd.ntmps10
  go_wp2
  go_ret
  exact ⟨rfl, Below.refl _ _⟩
theorem en_Quantum_nil (w : World) : Calls Tryd.prog 11 #[.pointer none] w fun e w' => e = .returned (.int .u64 0) ∧ Below w.heap.size w w' := by
  go_enter Tryd.func11, Tryd.ntmps11
  go_wp2
  go_ret
  exact ⟨rfl, Below.refl _ _⟩
theorem en_Least_nil (w : World) : Calls Tryd.prog 13 #[.pointer none] w fun e w' => e = .returned (.int .u64 0) ∧ Below w.heap.size w w' := by
  go_enter Tryd.func13, Tryd.ntmps13
  go_wp2
  go_ret
  exact ⟨rfl, Below.refl _ _⟩
theorem en_Best_nil (w : World) : Calls Tryd.prog 14 #[.pointer none] w fun e w' => e = .returned (.int .u64 0) ∧ Below w.heap.size w w' := by
  go_enter Tryd.func14, Tryd.ntmps14
  go_wp2
  go_ret
  exact ⟨rfl, Below.refl _ _⟩

/-- A new engine, at W's end and behind it. -/
structure NewPost (W : World) (c : Setup) (e : Ending) (w : World) : Prop where
  at_ : ∃ P : EP, e = .returned (.tuple #[.pointer (some ⟨P.b, 0, none⟩), .int .i64 0]) ∧ EngAt w W.heap.size P (ES.new c)
  bel : Below W.heap.size W w
structure NewI (W : World) (c : Setup) (w : World) : Prop where
  b : Blk w W.heap.size 24 (ccells c)
  bel : Below W.heap.size W w
theorem ni_k {W w w' : World} {c : Setup} (h : Hid (NewI W c w)) (k : Below w.heap.size w w') : Hid (NewI W c w') := Lib.hid ⟨h.out.b.keep k, bel_to h.out.bel k h.out.bel.size⟩
theorem ni_r {W : World} {c : Setup} {i : Nat} {v : Value} (hv : (ccells c)[i]? = some v) : ∀ w, Hid (NewI W c w) → w.cell? ⟨W.heap.size, i, none⟩ = some v := fun w q => q.out.b.cell hv
theorem Gl.lt {w : World} (h : Gl w) : 0 < w.heap.size := World.block_lt_of_cell? w _ (h 0 (by omega)).1
theorem FlAt.below {w w' : World} {a b g : Nat} {f : FS} (h : FlAt w a b g f) (k : Below w.heap.size w w') : FlAt w' a b g f := h.keep k

set_option maxHeartbeats 2000000 in
theorem en_New_ok (c : Setup) (hc : ∀ i, c i ≤ 18446744073709551615) (hr : rightC c = true) (W : World) (hg : Gl W) :
    Calls Tryd.prog 7 #[.agg (ccells c)] W (NewPost W c) := by
  have HR := Lib.hid (fun w => conf_Right c hc w)
  have HE := Lib.hid (fun w => pi_Empty w)
  have HN := Lib.hid (fun w => bd_None w)
  have HL := Lib.hid (fun w => fl_Least (c 3) w)
  have HY := Lib.hid (fun w => cy_New w)
  have HC := Lib.hid (fun w => ct_New w)
  have HF := Lib.hid (fun w => conf_First c w hc)
  have HG := Lib.hid hg
  have N0 : Hid (NewI W c (W.alloc (.cells (ccells c) 24))) := Lib.hid ⟨Blk.new W _ _, al_be _ _⟩
  rw [hr] at HR

  have r0 := ni_r (W := W) (c := c) (i := 0) (v := .int .u64 (c 0 : Int)) rfl
  have r1 := ni_r (W := W) (c := c) (i := 1) (v := .int .u64 (c 1 : Int)) rfl
  have r2 := ni_r (W := W) (c := c) (i := 2) (v := .int .u64 (c 2 : Int)) rfl
  have r3 := ni_r (W := W) (c := c) (i := 3) (v := .int .u64 (c 3 : Int)) rfl
  have r4 := ni_r (W := W) (c := c) (i := 4) (v := .int .u64 (c 4 : Int)) rfl
  have r5 := ni_r (W := W) (c := c) (i := 5) (v := .int .u64 (c 5 : Int)) rfl
  clear hg hr hc
  have HX : Hid (ccells c = #[.int .u64 (c 0 : Int), .int .u64 (c 1 : Int), .int .u64 (c 2 : Int), .int .u64 (c 3 : Int), .int .u64 (c 4 : Int), .int .u64 (c 5 : Int)]) := Lib.hid rfl
  generalize hq : firstC c = fc at *
  rw [HX.out] at N0 HR HF ⊢
  simp only [BS.cells] at HN
  go_enter Tryd.func7, Tryd.ntmps7
  go_wp2_with fail
  refine (HR.out _).mono ?_
  rintro e w1 ⟨rfl, hb⟩
  have N1 := ni_k N0 hb
  clear N0 hb HR
  go_wp2_with fail
  have N2 := ni_k N1 ((Drawn.drew w1).below _)
  go_region_held3 (fun w' => Hid (NewI W c w'))
    (first | with_reducible exact N2 | with_reducible exact N3 | with_reducible exact N4 | with_reducible exact N5 | with_reducible exact N6 | with_reducible exact N7 | with_reducible exact N8 | exact ni_k N8 (al_be _ _))
    (first
      | (go_at_call 19; (with_reducible refine (HE.out _).mono ?_); rintro e w2 ⟨rfl, hb⟩; have N3 : Hid (NewI W c w2) := (by subst hb; exact ni_k N2 (al_be _ _)); have P3 : Hid (Blk w2 w1.heap.size 81 Pi.zero.cells) := (by subst hb; exact Lib.hid (Blk.new _ _ _)); have Z3 : Hid (w2.heap.size = w1.heap.size + 1) := (by subst hb; exact Lib.hid (by simp)); clear hb)
      | (go_at_call 20; (with_reducible refine (HN.out _).mono ?_); rintro e w3 ⟨rfl, hb⟩; have N4 := ni_k N3 hb; have P4 := Lib.hid (P3.out.keep hb); clear hb)
      | (go_at_call 21; (with_reducible refine (HL.out _).mono ?_); rintro e w4 hp; obtain ⟨fa, fb, fg, rfl, hfl, hsa, hsb, hsg⟩ := hp.at_; have N5 := ni_k N4 hp.bel; have P5 := Lib.hid (P4.out.keep hp.bel); have F5 := Lib.hid hfl; have A5 := Lib.hid (show W.heap.size ≤ fa ∧ W.heap.size ≤ fb ∧ W.heap.size ≤ fg from ⟨Nat.le_trans N4.out.bel.size hsa, Nat.le_trans N4.out.bel.size hsb, Nat.le_trans N4.out.bel.size hsg⟩); clear hp hfl hsa hsb hsg)
      | (go_at_call 22; (with_reducible refine (HY.out _).mono ?_); rintro e w5 ⟨rfl, hy, hb⟩; have N6 := ni_k N5 hb; have P6 := Lib.hid (P5.out.keep hb); have F6 := Lib.hid (F5.out.keep hb); have Y6 := Lib.hid hy; clear hb hy)
      | (go_at_call 23; (with_reducible refine (HC.out _).mono ?_); rintro e w6 ⟨rfl, hb⟩; have K6 : Hid (Below w5.heap.size w5 w6) := (by subst hb; exact Lib.hid (al_be _ _)); have C7 : Hid (Blk w6 w5.heap.size 92 Ct.zero.cells) := (by subst hb; exact Lib.hid (Blk.new _ _ _)); have N7 := ni_k N6 K6.out; have P7 := Lib.hid (P6.out.keep K6.out); have F7 := Lib.hid (F6.out.keep K6.out); have Y7 := Lib.hid (Blk.keep Y6.out K6.out); clear hb)
      | (go_at_call 24; (with_reducible refine (HF.out _).mono ?_); rintro e w7 ⟨rfl, hb⟩; have N8 := ni_k N7 hb; have P8 := Lib.hid (P7.out.keep hb); have F8 := Lib.hid (F7.out.keep hb); have Y8 := Lib.hid (Blk.keep Y7.out hb); have C8 := Lib.hid (C7.out.keep hb); clear hb))
  have sz := N8.out.bel.size
  have s1 := N1.out.bel.size
  have s5 := N5.out.bel.size
  have s4 := N4.out.bel.size
  have s6 := N6.out.bel.size
  have EA : EngAt (w7.alloc (.cells (ecells ⟨w7.heap.size, w1.heap.size, fa, fb, w4.heap.size, w5.heap.size⟩ (ES.new c)) 58)) W.heap.size ⟨w7.heap.size, w1.heap.size, fa, fb, w4.heap.size, w5.heap.size⟩ (ES.new c) :=
    ⟨Blk.new _ _ _, P8.out.keep (al_be _ _), ⟨fg, A5.out.2.2, F8.out.keep (al_be _ _)⟩, Blk.keep Y8.out (al_be _ _), C8.out.keep (al_be _ _),
      Gl.below (B := W.heap.size) HG.out (bel_to N8.out.bel (al_be _ _) sz) HG.out.lt, HG.out.lt, ⟨sz, s1, A5.out.1, A5.out.2.1, s5, s6⟩⟩
  have EB := bel_to N8.out.bel (al_be w7 (.cells (ecells ⟨w7.heap.size, w1.heap.size, fa, fb, w4.heap.size, w5.heap.size⟩ (ES.new c)) 58)) sz
  subst hq
  clear N1 N2 N3 N4 N5 N6 N7 N8 P3 P4 P5 P6 P7 P8 F5 F6 F7 F8 Y6 Y7 Y8 C7 C8 K6 A5 Z3 HE HN HL HY HC HF
  go_wp2_with fail
  go_ret2
  exact ⟨⟨_, rfl, EA⟩, EB⟩

theorem en_New_no (c : Setup) (hc : ∀ i, c i ≤ 18446744073709551615) (hr : rightC c = false) (W : World) :
    Calls Tryd.prog 7 #[.agg (ccells c)] W fun e w' => e = .returned (.tuple #[.pointer none, .int .i64 1]) ∧ Below W.heap.size W w' := by
  have HR := Lib.hid (fun w => conf_Right c hc w)
  have N0 : Hid (NewI W c (W.alloc (.cells (ccells c) 24))) := Lib.hid ⟨Blk.new W _ _, al_be _ _⟩
  rw [hr] at HR
  clear hr hc
  have HX : Hid (ccells c = #[.int .u64 (c 0 : Int), .int .u64 (c 1 : Int), .int .u64 (c 2 : Int), .int .u64 (c 3 : Int), .int .u64 (c 4 : Int), .int .u64 (c 5 : Int)]) := Lib.hid rfl
  rw [HX.out] at N0 HR ⊢
  go_enter Tryd.func7, Tryd.ntmps7
  go_wp2_with fail
  refine (HR.out _).mono ?_
  rintro e w1 ⟨rfl, hb⟩
  have N1 := ni_k N0 hb
  clear N0 hb HR
  go_wp2_with fail
  go_ret2
  exact ⟨rfl, N1.out.bel⟩
end Go.Proofs.YtpkbjfhicocogaaDoor

/- Plain facts on engines: what an event leaves of a setup; that an engine is never stuck, and grows. -/
set_option linter.unusedVariables false
namespace Go.Proofs.YtpkbjfhicocogaaDoor
open Go.RowKit Cf

theorem ES.mea_c (s : ES) (x : EvS) : (s.mea x).c = s.c := by unfold ES.mea; split <;> rfl
theorem ES.e3_c (s : ES) (x : EvS) : (s.e3 x).c = s.c := by
  unfold ES.e3; split
  · exact ES.mea_c _ x
  · exact ES.mea_c _ x
theorem ES.e4_c (s : ES) (x : EvS) : (s.e4 x).c = s.c := by
  unfold ES.e4; split
  · exact ES.e3_c s x
  · exact ES.e3_c s x
theorem ES.e5_c (s : ES) (x : EvS) : (s.e5 x).c = s.c := by
  unfold ES.e5; split
  · exact ES.e4_c s x
  · exact ES.e4_c s x
theorem ES.side_c (s : ES) (n : Nat) (t : Int) : (s.side n t).c = s.c := by
  unfold ES.side; split
  · rfl
  · split
    · rfl
    · split
      · rfl
      · split <;> rfl
theorem ES.turn_c (s : ES) (n : Nat) (t : Int) : (s.turn n t).c = s.c := by
  unfold ES.turn; split
  · rfl
  · exact ES.side_c s n t
theorem ES.e6_c (s : ES) (x : EvS) : (s.e6 x).c = s.c := (ES.turn_c _ _ _).trans (ES.e5_c s x)
theorem ES.e7_c (s : ES) (x : EvS) : (s.e7 x).c = s.c := by
  unfold ES.e7; split
  · exact ES.e6_c s x
  · exact ES.e6_c s x
theorem ES.on_c (s : ES) (x : EvS) : (s.on x).c = s.c := ES.e7_c s x

theorem right_mss {c : Setup} (h : rightC c = true) : 1 ≤ c 0 ∧ c 0 ≤ 65535 ∧ 4 ≤ c 1 ∧ c 1 ≤ 1000 := by
  have h0 : fits c 0 = true := by
    unfold rightC at h
    exact List.all_eq_true.1 h 0 (by decide)
  have h1 : fits c 1 = true := by
    unfold rightC at h
    exact List.all_eq_true.1 h 1 (by decide)
  unfold fits at h0 h1
  have a0 := of_decide_eq_true h0
  have a1 := of_decide_eq_true h1
  have b0 : least 0 = 1 ∧ most 0 = 65535 ∧ least 1 = 4 ∧ most 1 = 1000 := by decide
  omega
theorem leastC_eq {c : Setup} (h : rightC c = true) : leastC c = 4 * c 0 := by
  have := right_mss h
  unfold leastC Pl.mulS; omega
theorem firstC_eq {c : Setup} (h : rightC c = true) : firstC c = c 1 * c 0 ∧ 4 * c 0 ≤ c 1 * c 0 ∧ c 1 * c 0 ≤ 65535000 := by
  have h1 := right_mss h
  have h2 : 4 * c 0 ≤ c 1 * c 0 := Nat.mul_le_mul_right _ h1.2.2.1
  have h3 : c 1 * c 0 ≤ 1000 * 65535 := Nat.mul_le_mul h1.2.2.2 h1.2.1
  unfold firstC Pl.mulS
  omega

/-- What BbrStuck asks. -/
structure Free (m : Nat) (s : ES) : Prop where
  cl : m * 4 ≤ s.cwnd
  pl : m * 4 ≤ s.pace
  ql : m * 2 ≤ s.quant
  qm : s.quant ≤ m * 64
  pm : s.pace ≤ 1099511627776
  cm : s.cwnd ≤ 72057594037927936
  st : 0 ≤ s.st ∧ s.st ≤ 6
theorem on_free {s : ES} {k : Nat} (ho : s.ok k) (hr : rightC s.c = true) {x : EvS} (hx : x.ok) (hk : k ≤ 900) : Free (s.c 0) (s.on x) := by
  have o1 := ES.on_ok ho hx hk
  have hc := ES.on_c s x
  have hm := right_mss hr
  have hl := leastC_eq hr
  have hcw : (s.on x).cwnd = min (max ((s.e7 x).o3 x.ac) (leastC (s.e7 x).c)) 72057594037927936 := rfl
  rw [ES.e7_c, hl] at hcw
  generalize s.on x = t at *
  have hp : t.pace = min (max (paceG (stG t.st) (t.bs.limit t.rate)) (leastC t.c)) 1099511627776 := rfl
  rw [hc, hl] at hp
  have hq : t.quant = min (max (t.pace / 1000) (Pl.mulS 2 (t.c 0))) (Pl.mulS 64 (t.c 0)) := rfl
  rw [hc] at hq
  unfold Pl.mulS at hq
  exact ⟨by omega, by omega, by omega, by omega, by omega, by omega, o1.st⟩

/-- An engine that grows: nothing but times and acknowledged bytes came. -/
structure Grow (c : Setup) (s : ES) : Prop where
  c : s.c = c
  st : s.st = 0
  p : s.p = Pi.zero
  bs : s.bs = BS.none
  f : s.f.l = []
  y : s.y = ⟨0, 0, 0⟩
  lo : s.lost = 0
  cl : 4 * s.c 0 ≤ s.cwnd
theorem Grow.new {c : Setup} (h : rightC c = true) : Grow c (ES.new c) := by
  have := firstC_eq h
  exact ⟨rfl, rfl, rfl, rfl, rfl, rfl, rfl, by show 4 * c 0 ≤ firstC c; omega⟩
theorem Grow.pace {c : Setup} {s t : ES} (h : Grow c s) (k : Grow c t) : s.pace = t.pace := by
  have e : ∀ u, Grow c u → u.pace = min (max (paceG (stG 0) (BS.none.limit (Pl.shareS (firstC c) 1000000 1000))) (leastC c)) 1099511627776 := fun u q => by
    have q1 : u.trip = 1000 := by unfold ES.trip FS.some; rw [q.f]; rfl
    have q2 : u.rate = Pl.shareS (firstC c) 1000000 1000 := by unfold ES.rate; rw [q.y, q1, q.c]; rfl
    unfold ES.pace; rw [q.st, q.bs, q2, q.c]
  rw [e s h, e t k]
/-- An event that is no sample of anything. -/
def evG (i a : Nat) : EvS := ⟨i, 0, 0, 0, 0, false, false, 0, a, 0, 0⟩
theorem evG_ok {i a : Nat} (hi : i ≤ 18446744073709551615) (ha : a ≤ 18446744073709551615) : (evG i a).ok := ⟨hi, Nat.zero_le _, Nat.zero_le _, Nat.zero_le _, Nat.zero_le _, Nat.zero_le _, ha, Nat.zero_le _, Nat.zero_le _⟩
theorem grow_on {c : Setup} {s : ES} (hr : rightC c = true) (h : Grow c s) {i a : Nat} (ha : a ≤ 72057594037927936) (hw : s.cwnd ≤ 72057594037927936) :
    Grow c (s.on (evG i a)) ∧ (s.on (evG i a)).cwnd = min (s.cwnd + a) 72057594037927936 := by
  have q3 : s.e3 (evG i a) = { s with acked := Pl.addS s.acked a, lost := Pl.addS s.lost 0, f := s.f.to i } := by
    unfold ES.e3 ES.over ES.mea evG; rfl
  have q4 : s.e4 (evG i a) = s.e3 (evG i a) := by unfold ES.e4; rfl
  have ql : s.el (evG i a) = false := by unfold ES.el ES.eo ES.over; rfl
  have q5 : s.e5 (evG i a) = s.e3 (evG i a) := by unfold ES.e5; rw [ql, q4]; rfl
  have qf : (s.f.to i).l = [] := by
    unfold FS.to; split
    · exact h.f
    · show s.f.l.dropWhile _ = []
      rw [h.f]; rfl
  have qn : nextS 0 ((s.e5 (evG i a)).sig (evG i a) (s.eo (evG i a)) (s.el (evG i a))) = 0 := by
    have f1 : ((s.e5 (evG i a)).sig (evG i a) (s.eo (evG i a)) (s.el (evG i a))).full = false := by
      rw [q5, q3]; show s.p.full = false; rw [h.p]; rfl
    have f2 : ((s.e5 (evG i a)).sig (evG i a) (s.eo (evG i a)) (s.el (evG i a))).lossy = false := ql
    have f3 : ((s.e5 (evG i a)).sig (evG i a) (s.eo (evG i a)) (s.el (evG i a))).stale = false := by
      rw [q5, q3]; show ((s.f.to i).some && _) = false; unfold FS.some; rw [qf]; rfl
    generalize (s.e5 (evG i a)).sig (evG i a) (s.eo (evG i a)) (s.el (evG i a)) = g at *
    unfold nextS
    simp [f1, f2, f3, rightI]
  have q6 : s.e6 (evG i a) = s.e3 (evG i a) := by
    unfold ES.e6 ES.turn
    have hs : (s.e5 (evG i a)).st = 0 := by rw [q5, q3]; exact h.st
    rw [hs, qn, if_pos rfl, q5]
  have q7 : s.e7 (evG i a) = s.e3 (evG i a) := by
    unfold ES.e7
    rw [if_neg, q6]
    intro q
    rw [q6, q3] at q
    have := q.1
    have h2 : s.st = 5 := this
    rw [h.st] at h2
    exact absurd h2 (by decide)
  have hc := h.cl
  rw [h.c] at hc
  have hle := leastC_eq hr
  have ho : (s.on (evG i a)).cwnd = min (s.cwnd + a) 72057594037927936 := by
    show (s.e7 (evG i a)).open a = _
    rw [q7, q3]
    unfold ES.open ES.o3 ES.o2 ES.o1
    have e1 : ¬ ({ s with acked := Pl.addS s.acked a, lost := Pl.addS s.lost 0, f := s.f.to i : ES }.st ≠ 0 ∨ { s with acked := Pl.addS s.acked a, lost := Pl.addS s.lost 0, f := s.f.to i : ES }.p.full = true) := by
      show ¬ (s.st ≠ 0 ∨ s.p.full = true)
      rw [h.st, h.p]; decide
    have e2 : ¬ ({ s with acked := Pl.addS s.acked a, lost := Pl.addS s.lost 0, f := s.f.to i : ES }.st = 2 ∨ { s with acked := Pl.addS s.acked a, lost := Pl.addS s.lost 0, f := s.f.to i : ES }.st = 3) := by
      show ¬ (s.st = 2 ∨ s.st = 3)
      rw [h.st]; decide
    have e3 : ¬ ({ s with acked := Pl.addS s.acked a, lost := Pl.addS s.lost 0, f := s.f.to i : ES }.st = 6) := by
      show ¬ (s.st = 6)
      rw [h.st]; decide
    rw [if_neg e1, if_neg e2, if_neg e3]
    show min (max (s.bs.cap [Pl.addS s.cwnd a]) (leastC s.c)) 72057594037927936 = _
    rw [h.bs, h.c, hle]
    show min (max (min (min 18446744073709551615 18446744073709551615) (Pl.addS s.cwnd a)) (4 * c 0)) 72057594037927936 = _
    unfold Pl.addS
    omega
  refine ⟨?_, ho⟩
  have hm := right_mss hr
  refine ⟨(ES.on_c s _).trans h.c, ?_, ?_, ?_, ?_, ?_, ?_, by rw [ho, ES.on_c, h.c]; omega⟩
  · show (s.e7 (evG i a)).st = 0; rw [q7, q3]; exact h.st
  · show (s.e7 (evG i a)).p = Pi.zero; rw [q7, q3]; exact h.p
  · show (s.e7 (evG i a)).bs = BS.none; rw [q7, q3]; exact h.bs
  · show (s.e7 (evG i a)).f.l = []; rw [q7, q3]; exact qf
  · show (s.e7 (evG i a)).y = ⟨0, 0, 0⟩; rw [q7, q3]; exact h.y
  · show (s.e7 (evG i a)).lost = 0; rw [q7, q3]; show Pl.addS s.lost 0 = 0; rw [h.lo]; rfl

def evA : EvS := ⟨50000, 15000, 50000, 300000, 50000, false, true, 15000, 15000, 0, 0⟩
theorem evA_ok : evA.ok := ⟨by decide, by decide, by decide, by decide, by decide, by decide, by decide, by decide, by decide⟩
theorem defC_le : ∀ i, defC i ≤ 18446744073709551615 := by decide
theorem defC_right : rightC defC = true := by decide
theorem alive_math : ((ES.new defC).on evA).st = 0 ∧ ((ES.new defC).on evA).cwnd = 30000 ∧ ((ES.new defC).on evA).rate = 300000 ∧ ((ES.new defC).on evA).trip = 50000 ∧ ((ES.new defC).on evA).pace = 831000 ∧ ((ES.new defC).on evA).quant = 3000 := by decide +kernel
end Go.Proofs.YtpkbjfhicocogaaDoor

/- The live question of layer 15 is answered as it is fixed, over this translation. -/
set_option linter.unusedVariables false
namespace Go.Proofs.YtpkbjfhicocogaaDoor
open Go.RowKit Cf

set_option maxHeartbeats 2000000 in
theorem alive15 (W : World) (hg : Gl W) : Calls Tryd.prog 6 #[] W fun e w' => e = .returned (.bool true) ∧ Below W.heap.size W w' := by
  have HD := Lib.hid (conf_Default W)
  have HN := Lib.hid (fun w hg => en_New_ok defC defC_le defC_right w hg)
  have HG := Lib.hid hg
  have HO := Lib.hid (fun B P w h => en_On (B := B) (k := 0) (P := P) (s := ES.new defC) evA evA_ok w h (ES.new_ok defC_le) (by omega))
  have ok1 := ES.on_ok (ES.new_ok defC_le) evA_ok (Nat.zero_le _)
  have hm := alive_math
  generalize (ES.new defC).on evA = s at *
  have HSt := Lib.hid (fun B P w h => en_State (B := B) (P := P) (s := s) w h)
  have HCw := Lib.hid (fun B P w h => en_Cwnd (B := B) (P := P) (s := s) w h)
  have HBe := Lib.hid (fun B P w h => en_Best (B := B) (P := P) (s := s) w h ok1)
  have HLe := Lib.hid (fun B P w h => en_Least (B := B) (P := P) (s := s) w h)
  have HPa := Lib.hid (fun B P w h => en_Pace (B := B) (P := P) (s := s) w h ok1)
  have HQu := Lib.hid (fun B P w h => en_Quantum (B := B) (P := P) (s := s) w h ok1)
  rw [hm.1] at HSt
  rw [hm.2.1] at HCw
  rw [hm.2.2.1] at HBe
  rw [hm.2.2.2.1] at HLe
  rw [hm.2.2.2.2.1] at HPa
  rw [hm.2.2.2.2.2] at HQu
  clear hm ok1 hg
  rw [show evA.val = .agg #[.int .u64 50000, .int .u64 15000, .int .u64 50000, .int .u64 300000, .int .u64 50000, .bool false, .bool true, .int .u64 15000, .int .u64 15000, .int .u64 0, .int .u64 0] from rfl] at HO
  go_enter Tryd.func6, Tryd.ntmps6
  go_wp2_with fail
  refine (HD.out).mono ?_
  rintro e w0 ⟨rfl, hb⟩
  have G0 := Lib.hid (HG.out.keep hb)
  have B0 := Lib.hid hb
  clear hb HD HG
  go_wp2_with fail
  refine (HN.out _ G0.out).mono ?_
  rintro e w1 hp
  obtain ⟨P, rfl, hE⟩ := hp.at_
  have E1 := Lib.hid hE
  have B1 := Lib.hid (bel_to B0.out hp.bel B0.out.size)
  have HZ : Hid (W.heap.size ≤ w0.heap.size) := Lib.hid B0.out.size
  have B0' := Lib.hid hp.bel
  clear hp hE G0 HN
  go_wp2_with fail
  refine (HO.out _ _ _ E1.out).mono ?_
  rintro e w2 h1
  obtain rfl := h1.e
  have E2 := Lib.hid h1.at_
  have B2 := Lib.hid (B1.out.trans (h1.bel.mono HZ.out))
  clear h1 E1 B1 B0 B0' HO HZ
  go_wp2_with fail
  refine (HSt.out _ _ _ E2.out).mono ?_
  rintro e w3 ⟨rfl, hb⟩
  have E3 := Lib.hid (E2.out.keep hb)
  have B3 := Lib.hid (bel_to B2.out hb B2.out.size)
  clear hb E2 B2 HSt
  go_wp2_with fail
  refine (HCw.out _ _ _ E3.out).mono ?_
  rintro e w4 ⟨rfl, hb⟩
  have E4 := Lib.hid (E3.out.keep hb)
  have B4 := Lib.hid (bel_to B3.out hb B3.out.size)
  clear hb E3 B3 HCw
  go_wp2_with fail
  refine (HBe.out _ _ _ E4.out).mono ?_
  rintro e w5 ⟨rfl, hb⟩
  have E5 := Lib.hid (E4.out.keep hb)
  have B5 := Lib.hid (bel_to B4.out hb B4.out.size)
  clear hb E4 B4 HBe
  go_wp2_with fail
  refine (HLe.out _ _ _ E5.out).mono ?_
  rintro e w6 ⟨rfl, hb⟩
  have E6 := Lib.hid (E5.out.keep hb)
  have B6 := Lib.hid (bel_to B5.out hb B5.out.size)
  clear hb E5 B5 HLe
  go_wp2_with fail
  refine (HPa.out _ _ _ E6.out).mono ?_
  rintro e w7 ⟨rfl, hb⟩
  have E7 := Lib.hid (E6.out.keep hb)
  have B7 := Lib.hid (bel_to B6.out hb B6.out.size)
  clear hb E6 B6 HPa
  go_wp2_with fail
  refine (HQu.out _ _ _ E7.out).mono ?_
  rintro e w8 ⟨rfl, hb⟩
  have E8 := Lib.hid (E7.out.keep hb)
  have B8 := Lib.hid (bel_to B7.out hb B7.out.size)
  clear hb E7 B7 HQu
  go_wp2_with fail
  go_ret
  exact ⟨rfl, B8.out⟩
end Go.Proofs.YtpkbjfhicocogaaDoor
