/- 1 texts put together: what each one says stands ahead of it. -/
import Derived.Test.YtpkbjfhicocogaaGreatDoorKPlays26
import Derived.Test.YtpkbjfhicocogaaGreatDoorKPlays27
/- The document's engine over this translation: steps 1 to 3. -/
set_option linter.unusedVariables false
namespace Go.Proofs.YtpkbjfhicocogaaGreatDoor
open Go.RowKit Cf

theorem dropWhile_twice (p : Rd → Bool) : ∀ l : List Rd, (l.dropWhile p).dropWhile p = l.dropWhile p
  | [] => rfl
  | a :: l => by
    by_cases h : p a = true
    · rw [List.dropWhile_cons_of_pos h]; exact dropWhile_twice p l
    · rw [List.dropWhile_cons_of_neg h, List.dropWhile_cons_of_neg h]
theorem FS.put_to (f : FS) (t x : Nat) : (f.to t).put t x = f.put t x := by
  by_cases c : t < f.t
  · rw [show f.to t = f from if_pos c]
  · have e : f.to t = ⟨f.win, t, f.least, f.l.dropWhile fun r => !cnts f.win t r⟩ := FS.to_t f t c
    rw [FS.put_t f t x c]
    rw [FS.put_t (f.to t) t x (by rw [e]; exact Nat.lt_irrefl t)]
    rw [FS.to_t (f.to t) t (by rw [e]; exact Nat.lt_irrefl t), e]
    simp only [dropWhile_twice]
theorem rz_To' {B k : Nat} {Q : QP} {s : ES} (t : Nat) (w : World) (h : RefAt w B Q s k) :
    Calls Tryz.prog 93 #[.pointer (some ⟨Q.m, 9, none⟩), .int .u64 (t : Int)] w (fun e w' => ∃ er : Int, RPost B Q (.returned (.int .i64 er)) { s with f := s.f.to t } k w e w') := (rz_To t w h).mono fun _ _ q => ⟨_, q⟩
theorem rz_FPut' {B k : Nat} {Q : QP} {s : ES} (t y : Nat) (w : World) (h : RefAt w B Q s k) (hk : k ≤ 900) (ht : t ≤ 18446744073709551615) :
    Calls Tryz.prog 94 #[.pointer (some ⟨Q.m, 9, none⟩), .int .u64 (t : Int), .int .u64 (y : Int)] w (fun e w' => ∃ er : Int, RPost B Q (.returned (.int .i64 er)) { s with f := s.f.put t y } (k + 1) w e w') := (rz_FPut t y w h hk ht).mono fun _ _ q => ⟨_, q⟩
theorem nc1r (W : World) (b x : Nat) (T : TypeId) (hb : b = W.heap.size) : (W.alloc (.cells #[.int .u64 (x : Int)] T)).cell? ⟨b, 0, none⟩ = some (.int .u64 (x : Int)) := by subst hb; exact new_cell rfl rfl

set_option maxHeartbeats 4000000 in
set_option maxRecDepth 100000 in
theorem rz_read_n {B k j : Nat} {Q : QP} {s : ES} {now sd si sr rt dl ac lo fl : Nat} {ll : Bool} {sl : Bool} (hx : EvS.ok ⟨now, sd, si, sr, rt, sl, false, dl, ac, lo, fl⟩) (W : World) (h : RefAt W B Q s k) (ho : s.ok j) (hj : j ≤ 900) (hk : k ≤ 890) 
    (hll : decide (Pl.mulS (s.c 5) (Pl.addS (Pl.addS s.acked ac) (Pl.addS s.lost lo)) < Pl.mulS (Pl.addS s.lost lo) 1000) = ll) :
    Calls Tryz.prog 44 #[.pointer (some ⟨Q.m, 0, none⟩), EvS.val ⟨now, sd, si, sr, rt, sl, false, dl, ac, lo, fl⟩] W (RPost B Q (.returned (.tuple #[.bool false, .bool false])) { s with acked := Pl.addS s.acked ac, lost := Pl.addS s.lost lo, f := s.f.to now } k W) := by
  have M0 := Lib.hid (RMut.start h ⟨now, sd, si, sr, rt, sl, false, dl, ac, lo, fl⟩)
  have HA := Lib.hid (fun w => ref_Add s.acked ac w ho.acked hx.ac)
  have HB := Lib.hid (fun w => ref_Add s.lost lo w ho.lost hx.lo)
  have HT := Lib.hid (fun w h => rz_To' (B := B) (k := k) (Q := Q) (s := { s with acked := Pl.addS s.acked ac, lost := Pl.addS s.lost lo }) now w h)
  have v0 := rx_ev (W := W) (B := B) (Q := Q) (x := ⟨now, sd, si, sr, rt, sl, false, dl, ac, lo, fl⟩) (i := 0) (u := .int .u64 (now : Int)) rfl
  have v1 := rx_ev (W := W) (B := B) (Q := Q) (x := ⟨now, sd, si, sr, rt, sl, false, dl, ac, lo, fl⟩) (i := 1) (u := .int .u64 (sd : Int)) rfl
  have v2 := rx_ev (W := W) (B := B) (Q := Q) (x := ⟨now, sd, si, sr, rt, sl, false, dl, ac, lo, fl⟩) (i := 2) (u := .int .u64 (si : Int)) rfl
  have v3 := rx_ev (W := W) (B := B) (Q := Q) (x := ⟨now, sd, si, sr, rt, sl, false, dl, ac, lo, fl⟩) (i := 3) (u := .int .u64 (sr : Int)) rfl
  have v4 := rx_ev (W := W) (B := B) (Q := Q) (x := ⟨now, sd, si, sr, rt, sl, false, dl, ac, lo, fl⟩) (i := 4) (u := .int .u64 (rt : Int)) rfl
  have v5 := rx_ev (W := W) (B := B) (Q := Q) (x := ⟨now, sd, si, sr, rt, sl, false, dl, ac, lo, fl⟩) (i := 5) (u := .bool sl) rfl
  have v6 := rx_ev (W := W) (B := B) (Q := Q) (x := ⟨now, sd, si, sr, rt, sl, false, dl, ac, lo, fl⟩) (i := 6) (u := .bool false) rfl
  have v7 := rx_ev (W := W) (B := B) (Q := Q) (x := ⟨now, sd, si, sr, rt, sl, false, dl, ac, lo, fl⟩) (i := 7) (u := .int .u64 (dl : Int)) rfl
  have v8 := rx_ev (W := W) (B := B) (Q := Q) (x := ⟨now, sd, si, sr, rt, sl, false, dl, ac, lo, fl⟩) (i := 8) (u := .int .u64 (ac : Int)) rfl
  have v9 := rx_ev (W := W) (B := B) (Q := Q) (x := ⟨now, sd, si, sr, rt, sl, false, dl, ac, lo, fl⟩) (i := 9) (u := .int .u64 (lo : Int)) rfl
  have v10 := rx_ev (W := W) (B := B) (Q := Q) (x := ⟨now, sd, si, sr, rt, sl, false, dl, ac, lo, fl⟩) (i := 10) (u := .int .u64 (fl : Int)) rfl
  have vy := rx_y (W := W) (B := B) (Q := Q) (x := ⟨now, sd, si, sr, rt, sl, false, dl, ac, lo, fl⟩)
  have q21 := rm_e (W := W) (B := B) (k := k) (Q := Q) (s := s) (x := ⟨now, sd, si, sr, rt, sl, false, dl, ac, lo, fl⟩) (i := 21) (u := .int .u64 (s.acked : Int)) (fun _ => rfl)
  have f21 := rm_f (W := W) (B := B) (k := k) (Q := Q) (s := s) (x := ⟨now, sd, si, sr, rt, sl, false, dl, ac, lo, fl⟩) 21
  have q22 := rm_e (W := W) (B := B) (k := k) (Q := Q) (s := { s with acked := Pl.addS s.acked ac }) (x := ⟨now, sd, si, sr, rt, sl, false, dl, ac, lo, fl⟩) (i := 22) (u := .int .u64 (s.lost : Int)) (fun _ => rfl)
  have f22 := rm_f (W := W) (B := B) (k := k) (Q := Q) (s := { s with acked := Pl.addS s.acked ac }) (x := ⟨now, sd, si, sr, rt, sl, false, dl, ac, lo, fl⟩) 22
  clear h ho hx hk hj
  unfold EvS.val
  generalize hX : (EvS.mk now sd si sr rt sl false dl ac lo fl) = X at *
  have HE : Hid (X.cells = #[.int .u64 (now : Int), .int .u64 (sd : Int), .int .u64 (si : Int), .int .u64 (sr : Int), .int .u64 (rt : Int), .bool sl, .bool false, .int .u64 (dl : Int), .int .u64 (ac : Int), .int .u64 (lo : Int), .int .u64 (fl : Int)]) := Lib.hid (by rw [← hX]; rfl)
  clear hX
  rw [HE.out] at M0 ⊢
  go_enter Tryz.func44, Tryz.ntmps44
  go_wp2_with fail
  generalize W.alloc (.cells #[.int .u64 (now : Int), .int .u64 (sd : Int), .int .u64 (si : Int), .int .u64 (sr : Int), .int .u64 (rt : Int), .bool sl, .bool false, .int .u64 (dl : Int), .int .u64 (ac : Int), .int .u64 (lo : Int), .int .u64 (fl : Int)] 41) = w0 at *
  have M0d := Lib.hid M0.out.drew
  have X_ := rx_of M0d
  have Y_ := Lib.hid (M0d.out.set (s' := { s with acked := Pl.addS s.acked ac }) 21 (.int .u64 ((Pl.addS s.acked ac : Nat) : Int)) (fun _ => rfl) rfl rfl)
  have Z_ := rx_of Y_
  refine wp_region_held_drew (S := (fun w' => Hid (RMX W B Q X w'))) (by kernel_rfl) X_ (fun hHeld => ?_)
  simp only [List.size_toArray, List.length_cons, List.length_nil, Nat.reduceAdd, Array.replicate_succ, Array.replicate_zero, List.push_toArray, List.nil_append, List.cons_append]
  refine wpAnyH_take (i := 0) (oi := ⟨some 8, _, _, _, _, _⟩) (v := ?v1) rfl (by kernel_rfl) (by kernel_rfl) (by kernel_rfl) (fun _ _ _ h => h) (Or.inl ⟨by rfl, ?y1⟩) (by assumption) ?r1
  case y1 => intro w hSw; clear hSw; go_simp; (try with_reducible rfl)
  simp only [Act.put, List.setIfInBounds_toArray, List.set_cons_zero, List.set_cons_succ]
  refine wpAnyH_take (i := 1) (oi := ⟨some 9, _, _, _, _, _⟩) (v := ?v2) rfl (by kernel_rfl) (by kernel_rfl) (by kernel_rfl) (fun _ _ _ h => h) (Or.inl ⟨by rfl, ?y2⟩) (by assumption) ?r2
  case y2 => intro w hSw; clear hSw; go_simp; (try with_reducible rfl)
  simp only [Act.put, List.setIfInBounds_toArray, List.set_cons_zero, List.set_cons_succ]
  refine wpAnyH_take (i := 2) (oi := ⟨some 10, _, _, _, _, _⟩) (v := ?v3) rfl (by kernel_rfl) (by kernel_rfl) (by kernel_rfl) (fun _ _ _ h => h) (Or.inl ⟨by rfl, ?y3⟩) (by assumption) ?r3
  case y3 => intro w hSw; clear hSw; go_simp; (try with_reducible rfl)
  simp only [Act.put, List.setIfInBounds_toArray, List.set_cons_zero, List.set_cons_succ]
  refine wpAnyH_take (i := 3) (oi := ⟨some 11, _, _, _, _, _⟩) (v := ?v4) rfl (by kernel_rfl) (by kernel_rfl) (by kernel_rfl) (fun _ _ _ h => h) (Or.inl ⟨by rfl, ?y4⟩) (by assumption) ?r4
  case y4 => intro w hSw; clear hSw; go_simp; (try with_reducible rfl)
  simp only [Act.put, List.setIfInBounds_toArray, List.set_cons_zero, List.set_cons_succ]
  refine wpAnyH_take (i := 5) (oi := ⟨some 13, _, _, _, _, _⟩) (v := ?v5) rfl (by kernel_rfl) (by kernel_rfl) (by kernel_rfl) (fun _ _ _ h => h) (Or.inl ⟨by rfl, ?y5⟩) (by assumption) ?r5
  case y5 => intro w hSw; clear hSw; go_simp; (try with_reducible rfl)
  simp only [Act.put, List.setIfInBounds_toArray, List.set_cons_zero, List.set_cons_succ]
  refine wpAnyH_take (i := 6) (oi := ⟨some 14, _, _, _, _, _⟩) (v := ?v6) rfl (by kernel_rfl) (by kernel_rfl) (by kernel_rfl) (fun _ _ _ h => h) (Or.inl ⟨by rfl, ?y6⟩) (by assumption) ?r6
  case y6 => intro w hSw; skip; go_simp; (try with_reducible rfl)
  simp only [Act.put, List.setIfInBounds_toArray, List.set_cons_zero, List.set_cons_succ]
  refine wpAnyH_ready (rs := [4]) (by kernel_rfl) (by simp) ?_
  refine AllReadyH.cons (o := ⟨some 12, _, _, _, _, _⟩) rfl (fun K hK => ?_) AllReadyH.nil
  go_simp
  refine hK.out _ _ hHeld (fun hHeld => ?_)
  clear hK
  try simp only [List.setIfInBounds_toArray, List.set_cons_zero, List.set_cons_succ]
  refine wpAnyH_ready (rs := [7]) (by kernel_rfl) (by simp) ?_
  refine AllReadyH.cons (o := ⟨some 15, _, _, _, _, _⟩) rfl (fun K hK => ?_) AllReadyH.nil
  go_simp
  refine (HA.out _).mono ?_
  rintro e w_ ⟨rfl, rfl⟩
  go_wp2_with fail
  refine hK.out _ _ hHeld (fun hHeld => ?_)
  clear hK
  try simp only [List.setIfInBounds_toArray, List.set_cons_zero, List.set_cons_succ]
  refine wpAnyH_take (i := 8) (oi := ⟨some 16, _, _, _, _, _⟩) (v := ?v7) rfl (by kernel_rfl) (by kernel_rfl) (by kernel_rfl) (fun _ _ _ h => h) (Or.inl ⟨by rfl, ?y7⟩) (by assumption) ?r7
  case y7 => intro w hSw; clear hSw; go_simp; (try with_reducible rfl)
  simp only [Act.put, List.setIfInBounds_toArray, List.set_cons_zero, List.set_cons_succ]
  refine wpAnyH_take (i := 9) (oi := ⟨some 17, _, _, _, _, _⟩) (v := ?v8) rfl (by kernel_rfl) (by kernel_rfl) (by kernel_rfl) (fun _ _ _ h => h) (Or.inl ⟨by rfl, ?y8⟩) (by assumption) ?r8
  case y8 => intro w hSw; clear hSw; go_simp; (try with_reducible rfl)
  simp only [Act.put, List.setIfInBounds_toArray, List.set_cons_zero, List.set_cons_succ]
  refine wpAnyH_ready (rs := [10]) (by kernel_rfl) (by simp) ?_
  refine AllReadyH.cons (o := ⟨none, _, _, _, _, _⟩) rfl (fun K hK => ?_) AllReadyH.nil
  go_simp
  refine hK.out _ _ Z_ (fun hHeld => ?_)
  clear hK
  try simp only [List.setIfInBounds_toArray, List.set_cons_zero, List.set_cons_succ]
  refine wpAnyH_done (by kernel_rfl) ?_ _
  have M1 : Hid (RMut W B Q { s with acked := Pl.addS s.acked ac } k X ((w0.setCell ⟨Q.m, 21, none⟩ (.int .u64 ((Pl.addS s.acked ac : Nat) : Int))).drew)) := Y_
  clear M0 M0d X_ Y_ Z_
  try clear hHeld
  generalize (w0.setCell ⟨Q.m, 21, none⟩ (.int .u64 ((Pl.addS s.acked ac : Nat) : Int))).drew = w1 at *
  go_wp2_with fail
  have M1d := Lib.hid M1.out.drew
  have X_ := rx_of M1d
  have Y_ := Lib.hid (M1d.out.set (s' := { s with acked := Pl.addS s.acked ac, lost := Pl.addS s.lost lo }) 22 (.int .u64 ((Pl.addS s.lost lo : Nat) : Int)) (fun _ => rfl) rfl rfl)
  have Z_ := rx_of Y_
  refine wp_region_held_drew (S := (fun w' => Hid (RMX W B Q X w'))) (by kernel_rfl) X_ (fun hHeld => ?_)
  simp only [List.size_toArray, List.length_cons, List.length_nil, Nat.reduceAdd, Array.replicate_succ, Array.replicate_zero, List.push_toArray, List.nil_append, List.cons_append]
  refine wpAnyH_take (i := 0) (oi := ⟨some 18, _, _, _, _, _⟩) (v := ?v9) rfl (by kernel_rfl) (by kernel_rfl) (by kernel_rfl) (fun _ _ _ h => h) (Or.inl ⟨by rfl, ?y9⟩) (by assumption) ?r9
  case y9 => intro w hSw; clear hSw; go_simp; (try with_reducible rfl)
  simp only [Act.put, List.setIfInBounds_toArray, List.set_cons_zero, List.set_cons_succ]
  refine wpAnyH_take (i := 1) (oi := ⟨some 19, _, _, _, _, _⟩) (v := ?v10) rfl (by kernel_rfl) (by kernel_rfl) (by kernel_rfl) (fun _ _ _ h => h) (Or.inl ⟨by rfl, ?y10⟩) (by assumption) ?r10
  case y10 => intro w hSw; clear hSw; go_simp; (try with_reducible rfl)
  simp only [Act.put, List.setIfInBounds_toArray, List.set_cons_zero, List.set_cons_succ]
  refine wpAnyH_take (i := 2) (oi := ⟨some 20, _, _, _, _, _⟩) (v := ?v11) rfl (by kernel_rfl) (by kernel_rfl) (by kernel_rfl) (fun _ _ _ h => h) (Or.inl ⟨by rfl, ?y11⟩) (by assumption) ?r11
  case y11 => intro w hSw; clear hSw; go_simp; (try with_reducible rfl)
  simp only [Act.put, List.setIfInBounds_toArray, List.set_cons_zero, List.set_cons_succ]
  refine wpAnyH_take (i := 3) (oi := ⟨some 21, _, _, _, _, _⟩) (v := ?v12) rfl (by kernel_rfl) (by kernel_rfl) (by kernel_rfl) (fun _ _ _ h => h) (Or.inl ⟨by rfl, ?y12⟩) (by assumption) ?r12
  case y12 => intro w hSw; clear hSw; go_simp; (try with_reducible rfl)
  simp only [Act.put, List.setIfInBounds_toArray, List.set_cons_zero, List.set_cons_succ]
  refine wpAnyH_take (i := 5) (oi := ⟨some 23, _, _, _, _, _⟩) (v := ?v13) rfl (by kernel_rfl) (by kernel_rfl) (by kernel_rfl) (fun _ _ _ h => h) (Or.inl ⟨by rfl, ?y13⟩) (by assumption) ?r13
  case y13 => intro w hSw; clear hSw; go_simp; (try with_reducible rfl)
  simp only [Act.put, List.setIfInBounds_toArray, List.set_cons_zero, List.set_cons_succ]
  refine wpAnyH_take (i := 6) (oi := ⟨some 24, _, _, _, _, _⟩) (v := ?v14) rfl (by kernel_rfl) (by kernel_rfl) (by kernel_rfl) (fun _ _ _ h => h) (Or.inl ⟨by rfl, ?y14⟩) (by assumption) ?r14
  case y14 => intro w hSw; skip; go_simp; (try with_reducible rfl)
  simp only [Act.put, List.setIfInBounds_toArray, List.set_cons_zero, List.set_cons_succ]
  refine wpAnyH_ready (rs := [4]) (by kernel_rfl) (by simp) ?_
  refine AllReadyH.cons (o := ⟨some 22, _, _, _, _, _⟩) rfl (fun K hK => ?_) AllReadyH.nil
  go_simp
  refine hK.out _ _ hHeld (fun hHeld => ?_)
  clear hK
  try simp only [List.setIfInBounds_toArray, List.set_cons_zero, List.set_cons_succ]
  refine wpAnyH_ready (rs := [7]) (by kernel_rfl) (by simp) ?_
  refine AllReadyH.cons (o := ⟨some 25, _, _, _, _, _⟩) rfl (fun K hK => ?_) AllReadyH.nil
  go_simp
  refine (HB.out _).mono ?_
  rintro e w_ ⟨rfl, rfl⟩
  go_wp2_with fail
  refine hK.out _ _ hHeld (fun hHeld => ?_)
  clear hK
  try simp only [List.setIfInBounds_toArray, List.set_cons_zero, List.set_cons_succ]
  refine wpAnyH_take (i := 8) (oi := ⟨some 26, _, _, _, _, _⟩) (v := ?v15) rfl (by kernel_rfl) (by kernel_rfl) (by kernel_rfl) (fun _ _ _ h => h) (Or.inl ⟨by rfl, ?y15⟩) (by assumption) ?r15
  case y15 => intro w hSw; clear hSw; go_simp; (try with_reducible rfl)
  simp only [Act.put, List.setIfInBounds_toArray, List.set_cons_zero, List.set_cons_succ]
  refine wpAnyH_take (i := 9) (oi := ⟨some 27, _, _, _, _, _⟩) (v := ?v16) rfl (by kernel_rfl) (by kernel_rfl) (by kernel_rfl) (fun _ _ _ h => h) (Or.inl ⟨by rfl, ?y16⟩) (by assumption) ?r16
  case y16 => intro w hSw; clear hSw; go_simp; (try with_reducible rfl)
  simp only [Act.put, List.setIfInBounds_toArray, List.set_cons_zero, List.set_cons_succ]
  refine wpAnyH_ready (rs := [10]) (by kernel_rfl) (by simp) ?_
  refine AllReadyH.cons (o := ⟨none, _, _, _, _, _⟩) rfl (fun K hK => ?_) AllReadyH.nil
  go_simp
  refine hK.out _ _ Z_ (fun hHeld => ?_)
  clear hK
  try simp only [List.setIfInBounds_toArray, List.set_cons_zero, List.set_cons_succ]
  refine wpAnyH_done (by kernel_rfl) ?_ _
  have M2 : Hid (RMut W B Q { s with acked := Pl.addS s.acked ac, lost := Pl.addS s.lost lo } k X ((w1.setCell ⟨Q.m, 22, none⟩ (.int .u64 ((Pl.addS s.lost lo : Nat) : Int))).drew)) := Y_
  clear M1 M1d X_ Y_ Z_
  try clear hHeld
  generalize (w1.setCell ⟨Q.m, 22, none⟩ (.int .u64 ((Pl.addS s.lost lo : Nat) : Int))).drew = w2 at *
  go_wp2_with fail
  have M2d := Lib.hid M2.out.drew
  have X_ := rx_of M2d
  go_region_held3 (fun w' => Hid (RMX W B Q X w'))
    (first | with_reducible exact X_ | with_reducible exact Z_)
    (first
      | (go_at_call 93; (with_reducible refine (HT.out _ M2d.out.at_).mono ?_); rintro e w3 ⟨er, hp⟩; obtain rfl := hp.e; have M3 := Lib.hid (M2d.out.step hp); have Z_ := rx_of M3; clear hp))
  clear M2 M2d X_ Z_ HT
  have V_ := rx_of M3
  go_wp2_with fail
  go_wp2_with fail
  go_ret2
  exact M3.out.post

set_option maxHeartbeats 4000000 in
set_option maxRecDepth 100000 in
theorem rz_read_ff {B k j : Nat} {Q : QP} {s : ES} {now sd si sr rt dl ac lo fl : Nat} {ll : Bool} (hx : EvS.ok ⟨now, sd, si, sr, rt, false, true, dl, ac, lo, fl⟩) (W : World) (h : RefAt W B Q s k) (ho : s.ok j) (hj : j ≤ 900) (hk : k ≤ 890) (hov : s.n.ackB (Pl.subS dl sd) = false)
    (hll : decide (Pl.mulS (s.c 5) (Pl.addS (Pl.addS s.acked ac) (Pl.addS s.lost lo)) < Pl.mulS (Pl.addS s.lost lo) 1000) = ll) :
    Calls Tryz.prog 44 #[.pointer (some ⟨Q.m, 0, none⟩), EvS.val ⟨now, sd, si, sr, rt, false, true, dl, ac, lo, fl⟩] W (RPost B Q (.returned (.tuple #[.bool false, .bool false])) { s with acked := Pl.addS s.acked ac, lost := Pl.addS s.lost lo, f := s.f.put now rt, n := s.n.ackS (Pl.subS dl sd) dl, y := s.y.put [sr], p := s.p.put (s.y.put [sr]).best false false } (k + 1 + 1) W) := by
  have M0 := Lib.hid (RMut.start h ⟨now, sd, si, sr, rt, false, true, dl, ac, lo, fl⟩)
  have HA := Lib.hid (fun w => ref_Add s.acked ac w ho.acked hx.ac)
  have HB := Lib.hid (fun w => ref_Add s.lost lo w ho.lost hx.lo)
  have HT := Lib.hid (fun w h => rz_To' (B := B) (k := k) (Q := Q) (s := { s with acked := Pl.addS s.acked ac, lost := Pl.addS s.lost lo }) now w h)
  have HP := Lib.hid (fun w h => rz_FPut' (B := B) (k := k) (Q := Q) (s := { s with acked := Pl.addS s.acked ac, lost := Pl.addS s.lost lo, f := s.f.to now }) now rt w h (by omega) hx.now)
  have HFe : Hid ((s.f.to now).put now rt = s.f.put now rt) := Lib.hid (FS.put_to _ _ _)
  rw [show ({ s with acked := Pl.addS s.acked ac, lost := Pl.addS s.lost lo, f := s.f.to now } : ES).f.put now rt = s.f.put now rt from FS.put_to _ _ _] at HP
  have HS := Lib.hid (fun w => rs_Sub dl sd w hx.dl)
  have HC := Lib.hid (fun w h => rz_Ack (B := B) (k := k + 1) (Q := Q) (s := { s with acked := Pl.addS s.acked ac, lost := Pl.addS s.lost lo, f := s.f.put now rt }) (Pl.subS dl sd) dl w h (Nat.lt_of_le_of_lt ho.nn (by omega)))
  have HY := Lib.hid (fun w h => rz_cycle (B := B) (k := k + 1) (Q := Q) (s := { s with acked := Pl.addS s.acked ac, lost := Pl.addS s.lost lo, f := s.f.put now rt, n := s.n.ackS (Pl.subS dl sd) dl }) w h (by omega))
  have hrd : s.n.ackB (Pl.subS dl sd) = false := hov
  rw [show ({ s with acked := Pl.addS s.acked ac, lost := Pl.addS s.lost lo, f := s.f.put now rt } : ES).n.ackB (Pl.subS dl sd) = false from hov] at HC
  have HU := Lib.hid (fun b w h hc => rz_CPut (B := B) (k := k + 1) (Q := Q) (s := { s with acked := Pl.addS s.acked ac, lost := Pl.addS s.lost lo, f := s.f.put now rt, n := s.n.ackS (Pl.subS dl sd) dl }) sr b w h (by omega) hc)
  have HY2 := Lib.hid (fun w h => rz_cycle (B := B) (k := k + 1 + 1) (Q := Q) (s := { s with acked := Pl.addS s.acked ac, lost := Pl.addS s.lost lo, f := s.f.put now rt, n := s.n.ackS (Pl.subS dl sd) dl, y := s.y.put [sr] }) w h (by omega))
  have hyb : (s.y.put [sr]).best ≤ 18446744073709551615 := CY.best_le ho.ya (mxs_lt ho.yt (by simp; exact hx.sr))
  have HW := Lib.hid (fun w h => rz_PPut (B := B) (k := k + 1 + 1) (Q := Q) (s := { s with acked := Pl.addS s.acked ac, lost := Pl.addS s.lost lo, f := s.f.put now rt, n := s.n.ackS (Pl.subS dl sd) dl, y := s.y.put [sr] }) (s.y.put [sr]).best false false w h ho.p hyb)
  have v0 := rx_ev (W := W) (B := B) (Q := Q) (x := ⟨now, sd, si, sr, rt, false, true, dl, ac, lo, fl⟩) (i := 0) (u := .int .u64 (now : Int)) rfl
  have v1 := rx_ev (W := W) (B := B) (Q := Q) (x := ⟨now, sd, si, sr, rt, false, true, dl, ac, lo, fl⟩) (i := 1) (u := .int .u64 (sd : Int)) rfl
  have v2 := rx_ev (W := W) (B := B) (Q := Q) (x := ⟨now, sd, si, sr, rt, false, true, dl, ac, lo, fl⟩) (i := 2) (u := .int .u64 (si : Int)) rfl
  have v3 := rx_ev (W := W) (B := B) (Q := Q) (x := ⟨now, sd, si, sr, rt, false, true, dl, ac, lo, fl⟩) (i := 3) (u := .int .u64 (sr : Int)) rfl
  have v4 := rx_ev (W := W) (B := B) (Q := Q) (x := ⟨now, sd, si, sr, rt, false, true, dl, ac, lo, fl⟩) (i := 4) (u := .int .u64 (rt : Int)) rfl
  have v5 := rx_ev (W := W) (B := B) (Q := Q) (x := ⟨now, sd, si, sr, rt, false, true, dl, ac, lo, fl⟩) (i := 5) (u := .bool false) rfl
  have v6 := rx_ev (W := W) (B := B) (Q := Q) (x := ⟨now, sd, si, sr, rt, false, true, dl, ac, lo, fl⟩) (i := 6) (u := .bool true) rfl
  have v7 := rx_ev (W := W) (B := B) (Q := Q) (x := ⟨now, sd, si, sr, rt, false, true, dl, ac, lo, fl⟩) (i := 7) (u := .int .u64 (dl : Int)) rfl
  have v8 := rx_ev (W := W) (B := B) (Q := Q) (x := ⟨now, sd, si, sr, rt, false, true, dl, ac, lo, fl⟩) (i := 8) (u := .int .u64 (ac : Int)) rfl
  have v9 := rx_ev (W := W) (B := B) (Q := Q) (x := ⟨now, sd, si, sr, rt, false, true, dl, ac, lo, fl⟩) (i := 9) (u := .int .u64 (lo : Int)) rfl
  have v10 := rx_ev (W := W) (B := B) (Q := Q) (x := ⟨now, sd, si, sr, rt, false, true, dl, ac, lo, fl⟩) (i := 10) (u := .int .u64 (fl : Int)) rfl
  have vy := rx_y (W := W) (B := B) (Q := Q) (x := ⟨now, sd, si, sr, rt, false, true, dl, ac, lo, fl⟩)
  have q21 := rm_e (W := W) (B := B) (k := k) (Q := Q) (s := s) (x := ⟨now, sd, si, sr, rt, false, true, dl, ac, lo, fl⟩) (i := 21) (u := .int .u64 (s.acked : Int)) (fun _ => rfl)
  have f21 := rm_f (W := W) (B := B) (k := k) (Q := Q) (s := s) (x := ⟨now, sd, si, sr, rt, false, true, dl, ac, lo, fl⟩) 21
  have q22 := rm_e (W := W) (B := B) (k := k) (Q := Q) (s := { s with acked := Pl.addS s.acked ac }) (x := ⟨now, sd, si, sr, rt, false, true, dl, ac, lo, fl⟩) (i := 22) (u := .int .u64 (s.lost : Int)) (fun _ => rfl)
  have f22 := rm_f (W := W) (B := B) (k := k) (Q := Q) (s := { s with acked := Pl.addS s.acked ac }) (x := ⟨now, sd, si, sr, rt, false, true, dl, ac, lo, fl⟩) 22
  clear h ho hx hk hj hov hrd hyb
  unfold EvS.val
  generalize hX : (EvS.mk now sd si sr rt false true dl ac lo fl) = X at *
  have HE : Hid (X.cells = #[.int .u64 (now : Int), .int .u64 (sd : Int), .int .u64 (si : Int), .int .u64 (sr : Int), .int .u64 (rt : Int), .bool false, .bool true, .int .u64 (dl : Int), .int .u64 (ac : Int), .int .u64 (lo : Int), .int .u64 (fl : Int)]) := Lib.hid (by rw [← hX]; rfl)
  clear hX
  rw [HE.out] at M0 ⊢
  go_enter Tryz.func44, Tryz.ntmps44
  go_wp2_with fail
  generalize W.alloc (.cells #[.int .u64 (now : Int), .int .u64 (sd : Int), .int .u64 (si : Int), .int .u64 (sr : Int), .int .u64 (rt : Int), .bool false, .bool true, .int .u64 (dl : Int), .int .u64 (ac : Int), .int .u64 (lo : Int), .int .u64 (fl : Int)] 41) = w0 at *
  have M0d := Lib.hid M0.out.drew
  have X_ := rx_of M0d
  have Y_ := Lib.hid (M0d.out.set (s' := { s with acked := Pl.addS s.acked ac }) 21 (.int .u64 ((Pl.addS s.acked ac : Nat) : Int)) (fun _ => rfl) rfl rfl)
  have Z_ := rx_of Y_
  refine wp_region_held_drew (S := (fun w' => Hid (RMX W B Q X w'))) (by kernel_rfl) X_ (fun hHeld => ?_)
  simp only [List.size_toArray, List.length_cons, List.length_nil, Nat.reduceAdd, Array.replicate_succ, Array.replicate_zero, List.push_toArray, List.nil_append, List.cons_append]
  refine wpAnyH_take (i := 0) (oi := ⟨some 8, _, _, _, _, _⟩) (v := ?v17) rfl (by kernel_rfl) (by kernel_rfl) (by kernel_rfl) (fun _ _ _ h => h) (Or.inl ⟨by rfl, ?y17⟩) (by assumption) ?r17
  case y17 => intro w hSw; clear hSw; go_simp; (try with_reducible rfl)
  simp only [Act.put, List.setIfInBounds_toArray, List.set_cons_zero, List.set_cons_succ]
  refine wpAnyH_take (i := 1) (oi := ⟨some 9, _, _, _, _, _⟩) (v := ?v18) rfl (by kernel_rfl) (by kernel_rfl) (by kernel_rfl) (fun _ _ _ h => h) (Or.inl ⟨by rfl, ?y18⟩) (by assumption) ?r18
  case y18 => intro w hSw; clear hSw; go_simp; (try with_reducible rfl)
  simp only [Act.put, List.setIfInBounds_toArray, List.set_cons_zero, List.set_cons_succ]
  refine wpAnyH_take (i := 2) (oi := ⟨some 10, _, _, _, _, _⟩) (v := ?v19) rfl (by kernel_rfl) (by kernel_rfl) (by kernel_rfl) (fun _ _ _ h => h) (Or.inl ⟨by rfl, ?y19⟩) (by assumption) ?r19
  case y19 => intro w hSw; clear hSw; go_simp; (try with_reducible rfl)
  simp only [Act.put, List.setIfInBounds_toArray, List.set_cons_zero, List.set_cons_succ]
  refine wpAnyH_take (i := 3) (oi := ⟨some 11, _, _, _, _, _⟩) (v := ?v20) rfl (by kernel_rfl) (by kernel_rfl) (by kernel_rfl) (fun _ _ _ h => h) (Or.inl ⟨by rfl, ?y20⟩) (by assumption) ?r20
  case y20 => intro w hSw; clear hSw; go_simp; (try with_reducible rfl)
  simp only [Act.put, List.setIfInBounds_toArray, List.set_cons_zero, List.set_cons_succ]
  refine wpAnyH_take (i := 5) (oi := ⟨some 13, _, _, _, _, _⟩) (v := ?v21) rfl (by kernel_rfl) (by kernel_rfl) (by kernel_rfl) (fun _ _ _ h => h) (Or.inl ⟨by rfl, ?y21⟩) (by assumption) ?r21
  case y21 => intro w hSw; clear hSw; go_simp; (try with_reducible rfl)
  simp only [Act.put, List.setIfInBounds_toArray, List.set_cons_zero, List.set_cons_succ]
  refine wpAnyH_take (i := 6) (oi := ⟨some 14, _, _, _, _, _⟩) (v := ?v22) rfl (by kernel_rfl) (by kernel_rfl) (by kernel_rfl) (fun _ _ _ h => h) (Or.inl ⟨by rfl, ?y22⟩) (by assumption) ?r22
  case y22 => intro w hSw; skip; go_simp; (try with_reducible rfl)
  simp only [Act.put, List.setIfInBounds_toArray, List.set_cons_zero, List.set_cons_succ]
  refine wpAnyH_ready (rs := [4]) (by kernel_rfl) (by simp) ?_
  refine AllReadyH.cons (o := ⟨some 12, _, _, _, _, _⟩) rfl (fun K hK => ?_) AllReadyH.nil
  go_simp
  refine hK.out _ _ hHeld (fun hHeld => ?_)
  clear hK
  try simp only [List.setIfInBounds_toArray, List.set_cons_zero, List.set_cons_succ]
  refine wpAnyH_ready (rs := [7]) (by kernel_rfl) (by simp) ?_
  refine AllReadyH.cons (o := ⟨some 15, _, _, _, _, _⟩) rfl (fun K hK => ?_) AllReadyH.nil
  go_simp
  refine (HA.out _).mono ?_
  rintro e w_ ⟨rfl, rfl⟩
  go_wp2_with fail
  refine hK.out _ _ hHeld (fun hHeld => ?_)
  clear hK
  try simp only [List.setIfInBounds_toArray, List.set_cons_zero, List.set_cons_succ]
  refine wpAnyH_take (i := 8) (oi := ⟨some 16, _, _, _, _, _⟩) (v := ?v23) rfl (by kernel_rfl) (by kernel_rfl) (by kernel_rfl) (fun _ _ _ h => h) (Or.inl ⟨by rfl, ?y23⟩) (by assumption) ?r23
  case y23 => intro w hSw; clear hSw; go_simp; (try with_reducible rfl)
  simp only [Act.put, List.setIfInBounds_toArray, List.set_cons_zero, List.set_cons_succ]
  refine wpAnyH_take (i := 9) (oi := ⟨some 17, _, _, _, _, _⟩) (v := ?v24) rfl (by kernel_rfl) (by kernel_rfl) (by kernel_rfl) (fun _ _ _ h => h) (Or.inl ⟨by rfl, ?y24⟩) (by assumption) ?r24
  case y24 => intro w hSw; clear hSw; go_simp; (try with_reducible rfl)
  simp only [Act.put, List.setIfInBounds_toArray, List.set_cons_zero, List.set_cons_succ]
  refine wpAnyH_ready (rs := [10]) (by kernel_rfl) (by simp) ?_
  refine AllReadyH.cons (o := ⟨none, _, _, _, _, _⟩) rfl (fun K hK => ?_) AllReadyH.nil
  go_simp
  refine hK.out _ _ Z_ (fun hHeld => ?_)
  clear hK
  try simp only [List.setIfInBounds_toArray, List.set_cons_zero, List.set_cons_succ]
  refine wpAnyH_done (by kernel_rfl) ?_ _
  have M1 : Hid (RMut W B Q { s with acked := Pl.addS s.acked ac } k X ((w0.setCell ⟨Q.m, 21, none⟩ (.int .u64 ((Pl.addS s.acked ac : Nat) : Int))).drew)) := Y_
  clear M0 M0d X_ Y_ Z_
  try clear hHeld
  generalize (w0.setCell ⟨Q.m, 21, none⟩ (.int .u64 ((Pl.addS s.acked ac : Nat) : Int))).drew = w1 at *
  go_wp2_with fail
  have M1d := Lib.hid M1.out.drew
  have X_ := rx_of M1d
  have Y_ := Lib.hid (M1d.out.set (s' := { s with acked := Pl.addS s.acked ac, lost := Pl.addS s.lost lo }) 22 (.int .u64 ((Pl.addS s.lost lo : Nat) : Int)) (fun _ => rfl) rfl rfl)
  have Z_ := rx_of Y_
  refine wp_region_held_drew (S := (fun w' => Hid (RMX W B Q X w'))) (by kernel_rfl) X_ (fun hHeld => ?_)
  simp only [List.size_toArray, List.length_cons, List.length_nil, Nat.reduceAdd, Array.replicate_succ, Array.replicate_zero, List.push_toArray, List.nil_append, List.cons_append]
  refine wpAnyH_take (i := 0) (oi := ⟨some 18, _, _, _, _, _⟩) (v := ?v25) rfl (by kernel_rfl) (by kernel_rfl) (by kernel_rfl) (fun _ _ _ h => h) (Or.inl ⟨by rfl, ?y25⟩) (by assumption) ?r25
  case y25 => intro w hSw; clear hSw; go_simp; (try with_reducible rfl)
  simp only [Act.put, List.setIfInBounds_toArray, List.set_cons_zero, List.set_cons_succ]
  refine wpAnyH_take (i := 1) (oi := ⟨some 19, _, _, _, _, _⟩) (v := ?v26) rfl (by kernel_rfl) (by kernel_rfl) (by kernel_rfl) (fun _ _ _ h => h) (Or.inl ⟨by rfl, ?y26⟩) (by assumption) ?r26
  case y26 => intro w hSw; clear hSw; go_simp; (try with_reducible rfl)
  simp only [Act.put, List.setIfInBounds_toArray, List.set_cons_zero, List.set_cons_succ]
  refine wpAnyH_take (i := 2) (oi := ⟨some 20, _, _, _, _, _⟩) (v := ?v27) rfl (by kernel_rfl) (by kernel_rfl) (by kernel_rfl) (fun _ _ _ h => h) (Or.inl ⟨by rfl, ?y27⟩) (by assumption) ?r27
  case y27 => intro w hSw; clear hSw; go_simp; (try with_reducible rfl)
  simp only [Act.put, List.setIfInBounds_toArray, List.set_cons_zero, List.set_cons_succ]
  refine wpAnyH_take (i := 3) (oi := ⟨some 21, _, _, _, _, _⟩) (v := ?v28) rfl (by kernel_rfl) (by kernel_rfl) (by kernel_rfl) (fun _ _ _ h => h) (Or.inl ⟨by rfl, ?y28⟩) (by assumption) ?r28
  case y28 => intro w hSw; clear hSw; go_simp; (try with_reducible rfl)
  simp only [Act.put, List.setIfInBounds_toArray, List.set_cons_zero, List.set_cons_succ]
  refine wpAnyH_take (i := 5) (oi := ⟨some 23, _, _, _, _, _⟩) (v := ?v29) rfl (by kernel_rfl) (by kernel_rfl) (by kernel_rfl) (fun _ _ _ h => h) (Or.inl ⟨by rfl, ?y29⟩) (by assumption) ?r29
  case y29 => intro w hSw; clear hSw; go_simp; (try with_reducible rfl)
  simp only [Act.put, List.setIfInBounds_toArray, List.set_cons_zero, List.set_cons_succ]
  refine wpAnyH_take (i := 6) (oi := ⟨some 24, _, _, _, _, _⟩) (v := ?v30) rfl (by kernel_rfl) (by kernel_rfl) (by kernel_rfl) (fun _ _ _ h => h) (Or.inl ⟨by rfl, ?y30⟩) (by assumption) ?r30
  case y30 => intro w hSw; skip; go_simp; (try with_reducible rfl)
  simp only [Act.put, List.setIfInBounds_toArray, List.set_cons_zero, List.set_cons_succ]
  refine wpAnyH_ready (rs := [4]) (by kernel_rfl) (by simp) ?_
  refine AllReadyH.cons (o := ⟨some 22, _, _, _, _, _⟩) rfl (fun K hK => ?_) AllReadyH.nil
  go_simp
  refine hK.out _ _ hHeld (fun hHeld => ?_)
  clear hK
  try simp only [List.setIfInBounds_toArray, List.set_cons_zero, List.set_cons_succ]
  refine wpAnyH_ready (rs := [7]) (by kernel_rfl) (by simp) ?_
  refine AllReadyH.cons (o := ⟨some 25, _, _, _, _, _⟩) rfl (fun K hK => ?_) AllReadyH.nil
  go_simp
  refine (HB.out _).mono ?_
  rintro e w_ ⟨rfl, rfl⟩
  go_wp2_with fail
  refine hK.out _ _ hHeld (fun hHeld => ?_)
  clear hK
  try simp only [List.setIfInBounds_toArray, List.set_cons_zero, List.set_cons_succ]
  refine wpAnyH_take (i := 8) (oi := ⟨some 26, _, _, _, _, _⟩) (v := ?v31) rfl (by kernel_rfl) (by kernel_rfl) (by kernel_rfl) (fun _ _ _ h => h) (Or.inl ⟨by rfl, ?y31⟩) (by assumption) ?r31
  case y31 => intro w hSw; clear hSw; go_simp; (try with_reducible rfl)
  simp only [Act.put, List.setIfInBounds_toArray, List.set_cons_zero, List.set_cons_succ]
  refine wpAnyH_take (i := 9) (oi := ⟨some 27, _, _, _, _, _⟩) (v := ?v32) rfl (by kernel_rfl) (by kernel_rfl) (by kernel_rfl) (fun _ _ _ h => h) (Or.inl ⟨by rfl, ?y32⟩) (by assumption) ?r32
  case y32 => intro w hSw; clear hSw; go_simp; (try with_reducible rfl)
  simp only [Act.put, List.setIfInBounds_toArray, List.set_cons_zero, List.set_cons_succ]
  refine wpAnyH_ready (rs := [10]) (by kernel_rfl) (by simp) ?_
  refine AllReadyH.cons (o := ⟨none, _, _, _, _, _⟩) rfl (fun K hK => ?_) AllReadyH.nil
  go_simp
  refine hK.out _ _ Z_ (fun hHeld => ?_)
  clear hK
  try simp only [List.setIfInBounds_toArray, List.set_cons_zero, List.set_cons_succ]
  refine wpAnyH_done (by kernel_rfl) ?_ _
  have M2 : Hid (RMut W B Q { s with acked := Pl.addS s.acked ac, lost := Pl.addS s.lost lo } k X ((w1.setCell ⟨Q.m, 22, none⟩ (.int .u64 ((Pl.addS s.lost lo : Nat) : Int))).drew)) := Y_
  clear M1 M1d X_ Y_ Z_
  try clear hHeld
  generalize (w1.setCell ⟨Q.m, 22, none⟩ (.int .u64 ((Pl.addS s.lost lo : Nat) : Int))).drew = w2 at *
  go_wp2_with fail
  have M2d := Lib.hid M2.out.drew
  have X_ := rx_of M2d
  go_region_held3 (fun w' => Hid (RMX W B Q X w'))
    (first | with_reducible exact X_ | with_reducible exact Z_)
    (first
      | (go_at_call 93; (with_reducible refine (HT.out _ M2d.out.at_).mono ?_); rintro e w3 ⟨er, hp⟩; obtain rfl := hp.e; have M3 := Lib.hid (M2d.out.step hp); have Z_ := rx_of M3; clear hp))
  clear M2 M2d X_ Z_ HT
  have V_ := rx_of M3
  go_wp2_with fail
  have M3d := Lib.hid M3.out.drew
  have X_ := rx_of M3d
  go_region_held3 (fun w' => Hid (RMX W B Q X w'))
    (first | with_reducible exact X_ | with_reducible exact Z_)
    (first
      | (go_at_call 94; (with_reducible refine (HP.out _ M3d.out.at_).mono ?_); rintro e w4 ⟨er, hp⟩; obtain rfl := hp.e; have M4 := Lib.hid (M3d.out.step hp); have Z_ := rx_of M4; clear hp))
  clear M3 M3d X_ Z_ HP
  have V_ := rx_of M4
  go_wp2_with fail
  have M4d := Lib.hid M4.out.drew
  have X_ := rx_of M4d
  go_region_held3 (fun w' => Hid (RMX W B Q X w'))
    (first | with_reducible exact X_ | with_reducible exact Z_ | with_reducible assumption)
    (first
      | (go_at_call 96; (with_reducible refine (HS.out _).mono ?_); rintro e w' ⟨rfl, rfl⟩)
      | (go_at_call 95; (with_reducible refine (HC.out _ M4d.out.at_).mono ?_); rintro e w5 hp; obtain rfl := hp.e; have M5 := Lib.hid (M4d.out.step hp); have Z_ := rx_of M5; clear hp))
  clear M4 M4d X_ Z_ HC HS V_
  have V_ := rx_of M5
  go_wp2_with fail
  have M6 := Lib.hid M5.out.drew
  have X_ := rx_of M6
  have b5 := v5 _ X_
  go_region
  clear M5 V_ HY
  generalize w5.drew = w6 at *
  go_wp2_with fail
  have M7 := Lib.hid M6.out.drew
  have X7 := rx_of M7
  go_region_held3 (fun w' => Hid (RMX W B Q X w'))
    (first | with_reducible exact X7 | with_reducible exact rx_k X7 (al_be _ _) | with_reducible exact Z_ | with_reducible exact rx_of (Lib.hid (M6.out.to (al_dr _ _))))
    (first
      | (go_at_call 97; (refine (HU.out _ _ (by first | exact (M6.out.to (al_dr _ _)).at_ | exact (M7.out.to (al_be _ _)).at_) (by first | exact cell_dr (nc1r _ _ _ _ (by simp)) | exact nc1r _ _ _ _ (by simp))).mono ?_); rintro e w8 hp; obtain rfl := hp.e; have M8 : Hid (RMut W B Q { s with acked := Pl.addS s.acked ac, lost := Pl.addS s.lost lo, f := s.f.put now rt, n := s.n.ackS (Pl.subS dl sd) dl, y := s.y.put [sr] } (k + 1 + 1) X w8) := (by first | exact Lib.hid ((M6.out.to (al_dr _ _)).step hp) | exact Lib.hid ((M7.out.to (al_be _ _)).step hp)); have Z_ := rx_of M8; clear hp))
  clear M6 M7 X7 Z_ X_ HU
  have V_ := rx_of M8
  go_wp2_with fail
  have M12 := Lib.hid M8.out.drew
  have X12 := rx_of M12
  go_region_held3 (fun w' => Hid (RMX W B Q X w'))
    (first | with_reducible exact X12 | with_reducible assumption | with_reducible exact Z_)
    (first
      | (go_at_call 65; (with_reducible refine (HY2.out _ M12.out.at_).mono ?_); rintro e w' ⟨rfl, rfl⟩)
      | (go_at_call 99; (with_reducible refine (HW.out _ M12.out.at_).mono ?_); rintro e w13 hp; obtain rfl := hp.e; have M13 := Lib.hid (M12.out.step hp); have Z_ := rx_of M13; clear hp))
  go_wp2_with fail
  go_ret2
  exact M13.out.post

set_option maxHeartbeats 4000000 in
set_option maxRecDepth 100000 in
theorem rz_read_yf {B k j : Nat} {Q : QP} {s : ES} {now sd si sr rt dl ac lo fl : Nat} {ll : Bool} (hx : EvS.ok ⟨now, sd, si, sr, rt, true, true, dl, ac, lo, fl⟩) (W : World) (h : RefAt W B Q s k) (ho : s.ok j) (hj : j ≤ 900) (hk : k ≤ 890) (hov : s.n.ackB (Pl.subS dl sd) = false) (hb : s.y.best ≤ sr)
    (hll : decide (Pl.mulS (s.c 5) (Pl.addS (Pl.addS s.acked ac) (Pl.addS s.lost lo)) < Pl.mulS (Pl.addS s.lost lo) 1000) = ll) :
    Calls Tryz.prog 44 #[.pointer (some ⟨Q.m, 0, none⟩), EvS.val ⟨now, sd, si, sr, rt, true, true, dl, ac, lo, fl⟩] W (RPost B Q (.returned (.tuple #[.bool false, .bool false])) { s with acked := Pl.addS s.acked ac, lost := Pl.addS s.lost lo, f := s.f.put now rt, n := s.n.ackS (Pl.subS dl sd) dl, y := s.y.put [sr], p := s.p.put (s.y.put [sr]).best false true } (k + 1 + 1) W) := by
  have M0 := Lib.hid (RMut.start h ⟨now, sd, si, sr, rt, true, true, dl, ac, lo, fl⟩)
  have HA := Lib.hid (fun w => ref_Add s.acked ac w ho.acked hx.ac)
  have HB := Lib.hid (fun w => ref_Add s.lost lo w ho.lost hx.lo)
  have HT := Lib.hid (fun w h => rz_To' (B := B) (k := k) (Q := Q) (s := { s with acked := Pl.addS s.acked ac, lost := Pl.addS s.lost lo }) now w h)
  have HP := Lib.hid (fun w h => rz_FPut' (B := B) (k := k) (Q := Q) (s := { s with acked := Pl.addS s.acked ac, lost := Pl.addS s.lost lo, f := s.f.to now }) now rt w h (by omega) hx.now)
  have HFe : Hid ((s.f.to now).put now rt = s.f.put now rt) := Lib.hid (FS.put_to _ _ _)
  rw [show ({ s with acked := Pl.addS s.acked ac, lost := Pl.addS s.lost lo, f := s.f.to now } : ES).f.put now rt = s.f.put now rt from FS.put_to _ _ _] at HP
  have HS := Lib.hid (fun w => rs_Sub dl sd w hx.dl)
  have HC := Lib.hid (fun w h => rz_Ack (B := B) (k := k + 1) (Q := Q) (s := { s with acked := Pl.addS s.acked ac, lost := Pl.addS s.lost lo, f := s.f.put now rt }) (Pl.subS dl sd) dl w h (Nat.lt_of_le_of_lt ho.nn (by omega)))
  have HY := Lib.hid (fun w h => rz_cycle (B := B) (k := k + 1) (Q := Q) (s := { s with acked := Pl.addS s.acked ac, lost := Pl.addS s.lost lo, f := s.f.put now rt, n := s.n.ackS (Pl.subS dl sd) dl }) w h (by omega))
  have hrd : s.n.ackB (Pl.subS dl sd) = false := hov
  rw [show ({ s with acked := Pl.addS s.acked ac, lost := Pl.addS s.lost lo, f := s.f.put now rt } : ES).n.ackB (Pl.subS dl sd) = false from hov] at HC
  have HU := Lib.hid (fun b w h hc => rz_CPut (B := B) (k := k + 1) (Q := Q) (s := { s with acked := Pl.addS s.acked ac, lost := Pl.addS s.lost lo, f := s.f.put now rt, n := s.n.ackS (Pl.subS dl sd) dl }) sr b w h (by omega) hc)
  have HY2 := Lib.hid (fun w h => rz_cycle (B := B) (k := k + 1 + 1) (Q := Q) (s := { s with acked := Pl.addS s.acked ac, lost := Pl.addS s.lost lo, f := s.f.put now rt, n := s.n.ackS (Pl.subS dl sd) dl, y := s.y.put [sr] }) w h (by omega))
  have hyb : (s.y.put [sr]).best ≤ 18446744073709551615 := CY.best_le ho.ya (mxs_lt ho.yt (by simp; exact hx.sr))
  have HW := Lib.hid (fun w h => rz_PPut (B := B) (k := k + 1 + 1) (Q := Q) (s := { s with acked := Pl.addS s.acked ac, lost := Pl.addS s.lost lo, f := s.f.put now rt, n := s.n.ackS (Pl.subS dl sd) dl, y := s.y.put [sr] }) (s.y.put [sr]).best false true w h ho.p hyb)
  have v0 := rx_ev (W := W) (B := B) (Q := Q) (x := ⟨now, sd, si, sr, rt, true, true, dl, ac, lo, fl⟩) (i := 0) (u := .int .u64 (now : Int)) rfl
  have v1 := rx_ev (W := W) (B := B) (Q := Q) (x := ⟨now, sd, si, sr, rt, true, true, dl, ac, lo, fl⟩) (i := 1) (u := .int .u64 (sd : Int)) rfl
  have v2 := rx_ev (W := W) (B := B) (Q := Q) (x := ⟨now, sd, si, sr, rt, true, true, dl, ac, lo, fl⟩) (i := 2) (u := .int .u64 (si : Int)) rfl
  have v3 := rx_ev (W := W) (B := B) (Q := Q) (x := ⟨now, sd, si, sr, rt, true, true, dl, ac, lo, fl⟩) (i := 3) (u := .int .u64 (sr : Int)) rfl
  have v4 := rx_ev (W := W) (B := B) (Q := Q) (x := ⟨now, sd, si, sr, rt, true, true, dl, ac, lo, fl⟩) (i := 4) (u := .int .u64 (rt : Int)) rfl
  have v5 := rx_ev (W := W) (B := B) (Q := Q) (x := ⟨now, sd, si, sr, rt, true, true, dl, ac, lo, fl⟩) (i := 5) (u := .bool true) rfl
  have v6 := rx_ev (W := W) (B := B) (Q := Q) (x := ⟨now, sd, si, sr, rt, true, true, dl, ac, lo, fl⟩) (i := 6) (u := .bool true) rfl
  have v7 := rx_ev (W := W) (B := B) (Q := Q) (x := ⟨now, sd, si, sr, rt, true, true, dl, ac, lo, fl⟩) (i := 7) (u := .int .u64 (dl : Int)) rfl
  have v8 := rx_ev (W := W) (B := B) (Q := Q) (x := ⟨now, sd, si, sr, rt, true, true, dl, ac, lo, fl⟩) (i := 8) (u := .int .u64 (ac : Int)) rfl
  have v9 := rx_ev (W := W) (B := B) (Q := Q) (x := ⟨now, sd, si, sr, rt, true, true, dl, ac, lo, fl⟩) (i := 9) (u := .int .u64 (lo : Int)) rfl
  have v10 := rx_ev (W := W) (B := B) (Q := Q) (x := ⟨now, sd, si, sr, rt, true, true, dl, ac, lo, fl⟩) (i := 10) (u := .int .u64 (fl : Int)) rfl
  have vy := rx_y (W := W) (B := B) (Q := Q) (x := ⟨now, sd, si, sr, rt, true, true, dl, ac, lo, fl⟩)
  have q21 := rm_e (W := W) (B := B) (k := k) (Q := Q) (s := s) (x := ⟨now, sd, si, sr, rt, true, true, dl, ac, lo, fl⟩) (i := 21) (u := .int .u64 (s.acked : Int)) (fun _ => rfl)
  have f21 := rm_f (W := W) (B := B) (k := k) (Q := Q) (s := s) (x := ⟨now, sd, si, sr, rt, true, true, dl, ac, lo, fl⟩) 21
  have q22 := rm_e (W := W) (B := B) (k := k) (Q := Q) (s := { s with acked := Pl.addS s.acked ac }) (x := ⟨now, sd, si, sr, rt, true, true, dl, ac, lo, fl⟩) (i := 22) (u := .int .u64 (s.lost : Int)) (fun _ => rfl)
  have f22 := rm_f (W := W) (B := B) (k := k) (Q := Q) (s := { s with acked := Pl.addS s.acked ac }) (x := ⟨now, sd, si, sr, rt, true, true, dl, ac, lo, fl⟩) 22
  have d0 : decide ((s.y.best : Int) ≤ (sr : Int)) = true := decide_eq_true (by omega)
  have d1 : decide (s.y.best ≤ sr) = true := decide_eq_true hb
  clear hb
  clear h ho hx hk hj hov hrd hyb
  unfold EvS.val
  generalize hX : (EvS.mk now sd si sr rt true true dl ac lo fl) = X at *
  have HE : Hid (X.cells = #[.int .u64 (now : Int), .int .u64 (sd : Int), .int .u64 (si : Int), .int .u64 (sr : Int), .int .u64 (rt : Int), .bool true, .bool true, .int .u64 (dl : Int), .int .u64 (ac : Int), .int .u64 (lo : Int), .int .u64 (fl : Int)]) := Lib.hid (by rw [← hX]; rfl)
  clear hX
  rw [HE.out] at M0 ⊢
  go_enter Tryz.func44, Tryz.ntmps44
  go_wp2_with fail
  generalize W.alloc (.cells #[.int .u64 (now : Int), .int .u64 (sd : Int), .int .u64 (si : Int), .int .u64 (sr : Int), .int .u64 (rt : Int), .bool true, .bool true, .int .u64 (dl : Int), .int .u64 (ac : Int), .int .u64 (lo : Int), .int .u64 (fl : Int)] 41) = w0 at *
  have M0d := Lib.hid M0.out.drew
  have X_ := rx_of M0d
  have Y_ := Lib.hid (M0d.out.set (s' := { s with acked := Pl.addS s.acked ac }) 21 (.int .u64 ((Pl.addS s.acked ac : Nat) : Int)) (fun _ => rfl) rfl rfl)
  have Z_ := rx_of Y_
  refine wp_region_held_drew (S := (fun w' => Hid (RMX W B Q X w'))) (by kernel_rfl) X_ (fun hHeld => ?_)
  simp only [List.size_toArray, List.length_cons, List.length_nil, Nat.reduceAdd, Array.replicate_succ, Array.replicate_zero, List.push_toArray, List.nil_append, List.cons_append]
  refine wpAnyH_take (i := 0) (oi := ⟨some 8, _, _, _, _, _⟩) (v := ?v33) rfl (by kernel_rfl) (by kernel_rfl) (by kernel_rfl) (fun _ _ _ h => h) (Or.inl ⟨by rfl, ?y33⟩) (by assumption) ?r33
  case y33 => intro w hSw; clear hSw; go_simp; (try with_reducible rfl)
  simp only [Act.put, List.setIfInBounds_toArray, List.set_cons_zero, List.set_cons_succ]
  refine wpAnyH_take (i := 1) (oi := ⟨some 9, _, _, _, _, _⟩) (v := ?v34) rfl (by kernel_rfl) (by kernel_rfl) (by kernel_rfl) (fun _ _ _ h => h) (Or.inl ⟨by rfl, ?y34⟩) (by assumption) ?r34
  case y34 => intro w hSw; clear hSw; go_simp; (try with_reducible rfl)
  simp only [Act.put, List.setIfInBounds_toArray, List.set_cons_zero, List.set_cons_succ]
  refine wpAnyH_take (i := 2) (oi := ⟨some 10, _, _, _, _, _⟩) (v := ?v35) rfl (by kernel_rfl) (by kernel_rfl) (by kernel_rfl) (fun _ _ _ h => h) (Or.inl ⟨by rfl, ?y35⟩) (by assumption) ?r35
  case y35 => intro w hSw; clear hSw; go_simp; (try with_reducible rfl)
  simp only [Act.put, List.setIfInBounds_toArray, List.set_cons_zero, List.set_cons_succ]
  refine wpAnyH_take (i := 3) (oi := ⟨some 11, _, _, _, _, _⟩) (v := ?v36) rfl (by kernel_rfl) (by kernel_rfl) (by kernel_rfl) (fun _ _ _ h => h) (Or.inl ⟨by rfl, ?y36⟩) (by assumption) ?r36
  case y36 => intro w hSw; clear hSw; go_simp; (try with_reducible rfl)
  simp only [Act.put, List.setIfInBounds_toArray, List.set_cons_zero, List.set_cons_succ]
  refine wpAnyH_take (i := 5) (oi := ⟨some 13, _, _, _, _, _⟩) (v := ?v37) rfl (by kernel_rfl) (by kernel_rfl) (by kernel_rfl) (fun _ _ _ h => h) (Or.inl ⟨by rfl, ?y37⟩) (by assumption) ?r37
  case y37 => intro w hSw; clear hSw; go_simp; (try with_reducible rfl)
  simp only [Act.put, List.setIfInBounds_toArray, List.set_cons_zero, List.set_cons_succ]
  refine wpAnyH_take (i := 6) (oi := ⟨some 14, _, _, _, _, _⟩) (v := ?v38) rfl (by kernel_rfl) (by kernel_rfl) (by kernel_rfl) (fun _ _ _ h => h) (Or.inl ⟨by rfl, ?y38⟩) (by assumption) ?r38
  case y38 => intro w hSw; skip; go_simp; (try with_reducible rfl)
  simp only [Act.put, List.setIfInBounds_toArray, List.set_cons_zero, List.set_cons_succ]
  refine wpAnyH_ready (rs := [4]) (by kernel_rfl) (by simp) ?_
  refine AllReadyH.cons (o := ⟨some 12, _, _, _, _, _⟩) rfl (fun K hK => ?_) AllReadyH.nil
  go_simp
  refine hK.out _ _ hHeld (fun hHeld => ?_)
  clear hK
  try simp only [List.setIfInBounds_toArray, List.set_cons_zero, List.set_cons_succ]
  refine wpAnyH_ready (rs := [7]) (by kernel_rfl) (by simp) ?_
  refine AllReadyH.cons (o := ⟨some 15, _, _, _, _, _⟩) rfl (fun K hK => ?_) AllReadyH.nil
  go_simp
  refine (HA.out _).mono ?_
  rintro e w_ ⟨rfl, rfl⟩
  go_wp2_with fail
  refine hK.out _ _ hHeld (fun hHeld => ?_)
  clear hK
  try simp only [List.setIfInBounds_toArray, List.set_cons_zero, List.set_cons_succ]
  refine wpAnyH_take (i := 8) (oi := ⟨some 16, _, _, _, _, _⟩) (v := ?v39) rfl (by kernel_rfl) (by kernel_rfl) (by kernel_rfl) (fun _ _ _ h => h) (Or.inl ⟨by rfl, ?y39⟩) (by assumption) ?r39
  case y39 => intro w hSw; clear hSw; go_simp; (try with_reducible rfl)
  simp only [Act.put, List.setIfInBounds_toArray, List.set_cons_zero, List.set_cons_succ]
  refine wpAnyH_take (i := 9) (oi := ⟨some 17, _, _, _, _, _⟩) (v := ?v40) rfl (by kernel_rfl) (by kernel_rfl) (by kernel_rfl) (fun _ _ _ h => h) (Or.inl ⟨by rfl, ?y40⟩) (by assumption) ?r40
  case y40 => intro w hSw; clear hSw; go_simp; (try with_reducible rfl)
  simp only [Act.put, List.setIfInBounds_toArray, List.set_cons_zero, List.set_cons_succ]
  refine wpAnyH_ready (rs := [10]) (by kernel_rfl) (by simp) ?_
  refine AllReadyH.cons (o := ⟨none, _, _, _, _, _⟩) rfl (fun K hK => ?_) AllReadyH.nil
  go_simp
  refine hK.out _ _ Z_ (fun hHeld => ?_)
  clear hK
  try simp only [List.setIfInBounds_toArray, List.set_cons_zero, List.set_cons_succ]
  refine wpAnyH_done (by kernel_rfl) ?_ _
  have M1 : Hid (RMut W B Q { s with acked := Pl.addS s.acked ac } k X ((w0.setCell ⟨Q.m, 21, none⟩ (.int .u64 ((Pl.addS s.acked ac : Nat) : Int))).drew)) := Y_
  clear M0 M0d X_ Y_ Z_
  try clear hHeld
  generalize (w0.setCell ⟨Q.m, 21, none⟩ (.int .u64 ((Pl.addS s.acked ac : Nat) : Int))).drew = w1 at *
  go_wp2_with fail
  have M1d := Lib.hid M1.out.drew
  have X_ := rx_of M1d
  have Y_ := Lib.hid (M1d.out.set (s' := { s with acked := Pl.addS s.acked ac, lost := Pl.addS s.lost lo }) 22 (.int .u64 ((Pl.addS s.lost lo : Nat) : Int)) (fun _ => rfl) rfl rfl)
  have Z_ := rx_of Y_
  refine wp_region_held_drew (S := (fun w' => Hid (RMX W B Q X w'))) (by kernel_rfl) X_ (fun hHeld => ?_)
  simp only [List.size_toArray, List.length_cons, List.length_nil, Nat.reduceAdd, Array.replicate_succ, Array.replicate_zero, List.push_toArray, List.nil_append, List.cons_append]
  refine wpAnyH_take (i := 0) (oi := ⟨some 18, _, _, _, _, _⟩) (v := ?v41) rfl (by kernel_rfl) (by kernel_rfl) (by kernel_rfl) (fun _ _ _ h => h) (Or.inl ⟨by rfl, ?y41⟩) (by assumption) ?r41
  case y41 => intro w hSw; clear hSw; go_simp; (try with_reducible rfl)
  simp only [Act.put, List.setIfInBounds_toArray, List.set_cons_zero, List.set_cons_succ]
  refine wpAnyH_take (i := 1) (oi := ⟨some 19, _, _, _, _, _⟩) (v := ?v42) rfl (by kernel_rfl) (by kernel_rfl) (by kernel_rfl) (fun _ _ _ h => h) (Or.inl ⟨by rfl, ?y42⟩) (by assumption) ?r42
  case y42 => intro w hSw; clear hSw; go_simp; (try with_reducible rfl)
  simp only [Act.put, List.setIfInBounds_toArray, List.set_cons_zero, List.set_cons_succ]
  refine wpAnyH_take (i := 2) (oi := ⟨some 20, _, _, _, _, _⟩) (v := ?v43) rfl (by kernel_rfl) (by kernel_rfl) (by kernel_rfl) (fun _ _ _ h => h) (Or.inl ⟨by rfl, ?y43⟩) (by assumption) ?r43
  case y43 => intro w hSw; clear hSw; go_simp; (try with_reducible rfl)
  simp only [Act.put, List.setIfInBounds_toArray, List.set_cons_zero, List.set_cons_succ]
  refine wpAnyH_take (i := 3) (oi := ⟨some 21, _, _, _, _, _⟩) (v := ?v44) rfl (by kernel_rfl) (by kernel_rfl) (by kernel_rfl) (fun _ _ _ h => h) (Or.inl ⟨by rfl, ?y44⟩) (by assumption) ?r44
  case y44 => intro w hSw; clear hSw; go_simp; (try with_reducible rfl)
  simp only [Act.put, List.setIfInBounds_toArray, List.set_cons_zero, List.set_cons_succ]
  refine wpAnyH_take (i := 5) (oi := ⟨some 23, _, _, _, _, _⟩) (v := ?v45) rfl (by kernel_rfl) (by kernel_rfl) (by kernel_rfl) (fun _ _ _ h => h) (Or.inl ⟨by rfl, ?y45⟩) (by assumption) ?r45
  case y45 => intro w hSw; clear hSw; go_simp; (try with_reducible rfl)
  simp only [Act.put, List.setIfInBounds_toArray, List.set_cons_zero, List.set_cons_succ]
  refine wpAnyH_take (i := 6) (oi := ⟨some 24, _, _, _, _, _⟩) (v := ?v46) rfl (by kernel_rfl) (by kernel_rfl) (by kernel_rfl) (fun _ _ _ h => h) (Or.inl ⟨by rfl, ?y46⟩) (by assumption) ?r46
  case y46 => intro w hSw; skip; go_simp; (try with_reducible rfl)
  simp only [Act.put, List.setIfInBounds_toArray, List.set_cons_zero, List.set_cons_succ]
  refine wpAnyH_ready (rs := [4]) (by kernel_rfl) (by simp) ?_
  refine AllReadyH.cons (o := ⟨some 22, _, _, _, _, _⟩) rfl (fun K hK => ?_) AllReadyH.nil
  go_simp
  refine hK.out _ _ hHeld (fun hHeld => ?_)
  clear hK
  try simp only [List.setIfInBounds_toArray, List.set_cons_zero, List.set_cons_succ]
  refine wpAnyH_ready (rs := [7]) (by kernel_rfl) (by simp) ?_
  refine AllReadyH.cons (o := ⟨some 25, _, _, _, _, _⟩) rfl (fun K hK => ?_) AllReadyH.nil
  go_simp
  refine (HB.out _).mono ?_
  rintro e w_ ⟨rfl, rfl⟩
  go_wp2_with fail
  refine hK.out _ _ hHeld (fun hHeld => ?_)
  clear hK
  try simp only [List.setIfInBounds_toArray, List.set_cons_zero, List.set_cons_succ]
  refine wpAnyH_take (i := 8) (oi := ⟨some 26, _, _, _, _, _⟩) (v := ?v47) rfl (by kernel_rfl) (by kernel_rfl) (by kernel_rfl) (fun _ _ _ h => h) (Or.inl ⟨by rfl, ?y47⟩) (by assumption) ?r47
  case y47 => intro w hSw; clear hSw; go_simp; (try with_reducible rfl)
  simp only [Act.put, List.setIfInBounds_toArray, List.set_cons_zero, List.set_cons_succ]
  refine wpAnyH_take (i := 9) (oi := ⟨some 27, _, _, _, _, _⟩) (v := ?v48) rfl (by kernel_rfl) (by kernel_rfl) (by kernel_rfl) (fun _ _ _ h => h) (Or.inl ⟨by rfl, ?y48⟩) (by assumption) ?r48
  case y48 => intro w hSw; clear hSw; go_simp; (try with_reducible rfl)
  simp only [Act.put, List.setIfInBounds_toArray, List.set_cons_zero, List.set_cons_succ]
  refine wpAnyH_ready (rs := [10]) (by kernel_rfl) (by simp) ?_
  refine AllReadyH.cons (o := ⟨none, _, _, _, _, _⟩) rfl (fun K hK => ?_) AllReadyH.nil
  go_simp
  refine hK.out _ _ Z_ (fun hHeld => ?_)
  clear hK
  try simp only [List.setIfInBounds_toArray, List.set_cons_zero, List.set_cons_succ]
  refine wpAnyH_done (by kernel_rfl) ?_ _
  have M2 : Hid (RMut W B Q { s with acked := Pl.addS s.acked ac, lost := Pl.addS s.lost lo } k X ((w1.setCell ⟨Q.m, 22, none⟩ (.int .u64 ((Pl.addS s.lost lo : Nat) : Int))).drew)) := Y_
  clear M1 M1d X_ Y_ Z_
  try clear hHeld
  generalize (w1.setCell ⟨Q.m, 22, none⟩ (.int .u64 ((Pl.addS s.lost lo : Nat) : Int))).drew = w2 at *
  go_wp2_with fail
  have M2d := Lib.hid M2.out.drew
  have X_ := rx_of M2d
  go_region_held3 (fun w' => Hid (RMX W B Q X w'))
    (first | with_reducible exact X_ | with_reducible exact Z_)
    (first
      | (go_at_call 93; (with_reducible refine (HT.out _ M2d.out.at_).mono ?_); rintro e w3 ⟨er, hp⟩; obtain rfl := hp.e; have M3 := Lib.hid (M2d.out.step hp); have Z_ := rx_of M3; clear hp))
  clear M2 M2d X_ Z_ HT
  have V_ := rx_of M3
  go_wp2_with fail
  have M3d := Lib.hid M3.out.drew
  have X_ := rx_of M3d
  go_region_held3 (fun w' => Hid (RMX W B Q X w'))
    (first | with_reducible exact X_ | with_reducible exact Z_)
    (first
      | (go_at_call 94; (with_reducible refine (HP.out _ M3d.out.at_).mono ?_); rintro e w4 ⟨er, hp⟩; obtain rfl := hp.e; have M4 := Lib.hid (M3d.out.step hp); have Z_ := rx_of M4; clear hp))
  clear M3 M3d X_ Z_ HP
  have V_ := rx_of M4
  go_wp2_with fail
  have M4d := Lib.hid M4.out.drew
  have X_ := rx_of M4d
  go_region_held3 (fun w' => Hid (RMX W B Q X w'))
    (first | with_reducible exact X_ | with_reducible exact Z_ | with_reducible assumption)
    (first
      | (go_at_call 96; (with_reducible refine (HS.out _).mono ?_); rintro e w' ⟨rfl, rfl⟩)
      | (go_at_call 95; (with_reducible refine (HC.out _ M4d.out.at_).mono ?_); rintro e w5 hp; obtain rfl := hp.e; have M5 := Lib.hid (M4d.out.step hp); have Z_ := rx_of M5; clear hp))
  clear M4 M4d X_ Z_ HC HS V_
  have V_ := rx_of M5
  go_wp2_with fail
  have M6 := Lib.hid M5.out.drew
  have X_ := rx_of M6
  go_region_held3 (fun w' => Hid (RMX W B Q X w'))
    (first | with_reducible exact X_ | with_reducible assumption)
    (first
      | (go_at_call 65; (with_reducible refine (HY.out _ M6.out.at_).mono ?_); rintro e w' ⟨rfl, rfl⟩))
  clear M5 V_ HY
  generalize w5.drew = w6 at *
  go_wp2_with fail
  have M7 := Lib.hid M6.out.drew
  have X7 := rx_of M7
  go_region_held3 (fun w' => Hid (RMX W B Q X w'))
    (first | with_reducible exact X7 | with_reducible exact rx_k X7 (al_be _ _) | with_reducible exact Z_ | with_reducible exact rx_of (Lib.hid (M6.out.to (al_dr _ _))))
    (first
      | (go_at_call 97; (refine (HU.out _ _ (by first | exact (M6.out.to (al_dr _ _)).at_ | exact (M7.out.to (al_be _ _)).at_) (by first | exact cell_dr (nc1r _ _ _ _ (by simp)) | exact nc1r _ _ _ _ (by simp))).mono ?_); rintro e w8 hp; obtain rfl := hp.e; have M8 : Hid (RMut W B Q { s with acked := Pl.addS s.acked ac, lost := Pl.addS s.lost lo, f := s.f.put now rt, n := s.n.ackS (Pl.subS dl sd) dl, y := s.y.put [sr] } (k + 1 + 1) X w8) := (by first | exact Lib.hid ((M6.out.to (al_dr _ _)).step hp) | exact Lib.hid ((M7.out.to (al_be _ _)).step hp)); have Z_ := rx_of M8; clear hp))
  clear M6 M7 X7 Z_ X_ HU
  have V_ := rx_of M8
  go_wp2_with fail
  have M12 := Lib.hid M8.out.drew
  have X12 := rx_of M12
  go_region_held3 (fun w' => Hid (RMX W B Q X w'))
    (first | with_reducible exact X12 | with_reducible assumption | with_reducible exact Z_)
    (first
      | (go_at_call 65; (with_reducible refine (HY2.out _ M12.out.at_).mono ?_); rintro e w' ⟨rfl, rfl⟩)
      | (go_at_call 99; (with_reducible refine (HW.out _ M12.out.at_).mono ?_); rintro e w13 hp; obtain rfl := hp.e; have M13 := Lib.hid (M12.out.step hp); have Z_ := rx_of M13; clear hp))
  go_wp2_with fail
  go_ret2
  exact M13.out.post

set_option maxHeartbeats 4000000 in
set_option maxRecDepth 100000 in
theorem rz_read_xf {B k j : Nat} {Q : QP} {s : ES} {now sd si sr rt dl ac lo fl : Nat} {ll : Bool} (hx : EvS.ok ⟨now, sd, si, sr, rt, true, true, dl, ac, lo, fl⟩) (W : World) (h : RefAt W B Q s k) (ho : s.ok j) (hj : j ≤ 900) (hk : k ≤ 890) (hov : s.n.ackB (Pl.subS dl sd) = false) (hb : ¬ s.y.best ≤ sr)
    (hll : decide (Pl.mulS (s.c 5) (Pl.addS (Pl.addS s.acked ac) (Pl.addS s.lost lo)) < Pl.mulS (Pl.addS s.lost lo) 1000) = ll) :
    Calls Tryz.prog 44 #[.pointer (some ⟨Q.m, 0, none⟩), EvS.val ⟨now, sd, si, sr, rt, true, true, dl, ac, lo, fl⟩] W (RPost B Q (.returned (.tuple #[.bool false, .bool false])) { s with acked := Pl.addS s.acked ac, lost := Pl.addS s.lost lo, f := s.f.put now rt, n := s.n.ackS (Pl.subS dl sd) dl, p := s.p.put (s.y).best false true } (k + 1) W) := by
  have M0 := Lib.hid (RMut.start h ⟨now, sd, si, sr, rt, true, true, dl, ac, lo, fl⟩)
  have HA := Lib.hid (fun w => ref_Add s.acked ac w ho.acked hx.ac)
  have HB := Lib.hid (fun w => ref_Add s.lost lo w ho.lost hx.lo)
  have HT := Lib.hid (fun w h => rz_To' (B := B) (k := k) (Q := Q) (s := { s with acked := Pl.addS s.acked ac, lost := Pl.addS s.lost lo }) now w h)
  have HP := Lib.hid (fun w h => rz_FPut' (B := B) (k := k) (Q := Q) (s := { s with acked := Pl.addS s.acked ac, lost := Pl.addS s.lost lo, f := s.f.to now }) now rt w h (by omega) hx.now)
  have HFe : Hid ((s.f.to now).put now rt = s.f.put now rt) := Lib.hid (FS.put_to _ _ _)
  rw [show ({ s with acked := Pl.addS s.acked ac, lost := Pl.addS s.lost lo, f := s.f.to now } : ES).f.put now rt = s.f.put now rt from FS.put_to _ _ _] at HP
  have HS := Lib.hid (fun w => rs_Sub dl sd w hx.dl)
  have HC := Lib.hid (fun w h => rz_Ack (B := B) (k := k + 1) (Q := Q) (s := { s with acked := Pl.addS s.acked ac, lost := Pl.addS s.lost lo, f := s.f.put now rt }) (Pl.subS dl sd) dl w h (Nat.lt_of_le_of_lt ho.nn (by omega)))
  have HY := Lib.hid (fun w h => rz_cycle (B := B) (k := k + 1) (Q := Q) (s := { s with acked := Pl.addS s.acked ac, lost := Pl.addS s.lost lo, f := s.f.put now rt, n := s.n.ackS (Pl.subS dl sd) dl }) w h (by omega))
  have hrd : s.n.ackB (Pl.subS dl sd) = false := hov
  rw [show ({ s with acked := Pl.addS s.acked ac, lost := Pl.addS s.lost lo, f := s.f.put now rt } : ES).n.ackB (Pl.subS dl sd) = false from hov] at HC
  have HY2 := Lib.hid (fun w h => rz_cycle (B := B) (k := k + 1) (Q := Q) (s := { s with acked := Pl.addS s.acked ac, lost := Pl.addS s.lost lo, f := s.f.put now rt, n := s.n.ackS (Pl.subS dl sd) dl }) w h (by omega))
  have hyb : (s.y).best ≤ 18446744073709551615 := CY.best_le ho.ya ho.yt
  have HW := Lib.hid (fun w h => rz_PPut (B := B) (k := k + 1) (Q := Q) (s := { s with acked := Pl.addS s.acked ac, lost := Pl.addS s.lost lo, f := s.f.put now rt, n := s.n.ackS (Pl.subS dl sd) dl }) (s.y).best false true w h ho.p hyb)
  have v0 := rx_ev (W := W) (B := B) (Q := Q) (x := ⟨now, sd, si, sr, rt, true, true, dl, ac, lo, fl⟩) (i := 0) (u := .int .u64 (now : Int)) rfl
  have v1 := rx_ev (W := W) (B := B) (Q := Q) (x := ⟨now, sd, si, sr, rt, true, true, dl, ac, lo, fl⟩) (i := 1) (u := .int .u64 (sd : Int)) rfl
  have v2 := rx_ev (W := W) (B := B) (Q := Q) (x := ⟨now, sd, si, sr, rt, true, true, dl, ac, lo, fl⟩) (i := 2) (u := .int .u64 (si : Int)) rfl
  have v3 := rx_ev (W := W) (B := B) (Q := Q) (x := ⟨now, sd, si, sr, rt, true, true, dl, ac, lo, fl⟩) (i := 3) (u := .int .u64 (sr : Int)) rfl
  have v4 := rx_ev (W := W) (B := B) (Q := Q) (x := ⟨now, sd, si, sr, rt, true, true, dl, ac, lo, fl⟩) (i := 4) (u := .int .u64 (rt : Int)) rfl
  have v5 := rx_ev (W := W) (B := B) (Q := Q) (x := ⟨now, sd, si, sr, rt, true, true, dl, ac, lo, fl⟩) (i := 5) (u := .bool true) rfl
  have v6 := rx_ev (W := W) (B := B) (Q := Q) (x := ⟨now, sd, si, sr, rt, true, true, dl, ac, lo, fl⟩) (i := 6) (u := .bool true) rfl
  have v7 := rx_ev (W := W) (B := B) (Q := Q) (x := ⟨now, sd, si, sr, rt, true, true, dl, ac, lo, fl⟩) (i := 7) (u := .int .u64 (dl : Int)) rfl
  have v8 := rx_ev (W := W) (B := B) (Q := Q) (x := ⟨now, sd, si, sr, rt, true, true, dl, ac, lo, fl⟩) (i := 8) (u := .int .u64 (ac : Int)) rfl
  have v9 := rx_ev (W := W) (B := B) (Q := Q) (x := ⟨now, sd, si, sr, rt, true, true, dl, ac, lo, fl⟩) (i := 9) (u := .int .u64 (lo : Int)) rfl
  have v10 := rx_ev (W := W) (B := B) (Q := Q) (x := ⟨now, sd, si, sr, rt, true, true, dl, ac, lo, fl⟩) (i := 10) (u := .int .u64 (fl : Int)) rfl
  have vy := rx_y (W := W) (B := B) (Q := Q) (x := ⟨now, sd, si, sr, rt, true, true, dl, ac, lo, fl⟩)
  have q21 := rm_e (W := W) (B := B) (k := k) (Q := Q) (s := s) (x := ⟨now, sd, si, sr, rt, true, true, dl, ac, lo, fl⟩) (i := 21) (u := .int .u64 (s.acked : Int)) (fun _ => rfl)
  have f21 := rm_f (W := W) (B := B) (k := k) (Q := Q) (s := s) (x := ⟨now, sd, si, sr, rt, true, true, dl, ac, lo, fl⟩) 21
  have q22 := rm_e (W := W) (B := B) (k := k) (Q := Q) (s := { s with acked := Pl.addS s.acked ac }) (x := ⟨now, sd, si, sr, rt, true, true, dl, ac, lo, fl⟩) (i := 22) (u := .int .u64 (s.lost : Int)) (fun _ => rfl)
  have f22 := rm_f (W := W) (B := B) (k := k) (Q := Q) (s := { s with acked := Pl.addS s.acked ac }) (x := ⟨now, sd, si, sr, rt, true, true, dl, ac, lo, fl⟩) 22
  have d0 : decide ((s.y.best : Int) ≤ (sr : Int)) = false := decide_eq_false (by omega)
  have d1 : decide (s.y.best ≤ sr) = false := decide_eq_false hb
  clear hb
  clear h ho hx hk hj hov hrd hyb
  unfold EvS.val
  generalize hX : (EvS.mk now sd si sr rt true true dl ac lo fl) = X at *
  have HE : Hid (X.cells = #[.int .u64 (now : Int), .int .u64 (sd : Int), .int .u64 (si : Int), .int .u64 (sr : Int), .int .u64 (rt : Int), .bool true, .bool true, .int .u64 (dl : Int), .int .u64 (ac : Int), .int .u64 (lo : Int), .int .u64 (fl : Int)]) := Lib.hid (by rw [← hX]; rfl)
  clear hX
  rw [HE.out] at M0 ⊢
  go_enter Tryz.func44, Tryz.ntmps44
  go_wp2_with fail
  generalize W.alloc (.cells #[.int .u64 (now : Int), .int .u64 (sd : Int), .int .u64 (si : Int), .int .u64 (sr : Int), .int .u64 (rt : Int), .bool true, .bool true, .int .u64 (dl : Int), .int .u64 (ac : Int), .int .u64 (lo : Int), .int .u64 (fl : Int)] 41) = w0 at *
  have M0d := Lib.hid M0.out.drew
  have X_ := rx_of M0d
  have Y_ := Lib.hid (M0d.out.set (s' := { s with acked := Pl.addS s.acked ac }) 21 (.int .u64 ((Pl.addS s.acked ac : Nat) : Int)) (fun _ => rfl) rfl rfl)
  have Z_ := rx_of Y_
  refine wp_region_held_drew (S := (fun w' => Hid (RMX W B Q X w'))) (by kernel_rfl) X_ (fun hHeld => ?_)
  simp only [List.size_toArray, List.length_cons, List.length_nil, Nat.reduceAdd, Array.replicate_succ, Array.replicate_zero, List.push_toArray, List.nil_append, List.cons_append]
  refine wpAnyH_take (i := 0) (oi := ⟨some 8, _, _, _, _, _⟩) (v := ?v49) rfl (by kernel_rfl) (by kernel_rfl) (by kernel_rfl) (fun _ _ _ h => h) (Or.inl ⟨by rfl, ?y49⟩) (by assumption) ?r49
  case y49 => intro w hSw; clear hSw; go_simp; (try with_reducible rfl)
  simp only [Act.put, List.setIfInBounds_toArray, List.set_cons_zero, List.set_cons_succ]
  refine wpAnyH_take (i := 1) (oi := ⟨some 9, _, _, _, _, _⟩) (v := ?v50) rfl (by kernel_rfl) (by kernel_rfl) (by kernel_rfl) (fun _ _ _ h => h) (Or.inl ⟨by rfl, ?y50⟩) (by assumption) ?r50
  case y50 => intro w hSw; clear hSw; go_simp; (try with_reducible rfl)
  simp only [Act.put, List.setIfInBounds_toArray, List.set_cons_zero, List.set_cons_succ]
  refine wpAnyH_take (i := 2) (oi := ⟨some 10, _, _, _, _, _⟩) (v := ?v51) rfl (by kernel_rfl) (by kernel_rfl) (by kernel_rfl) (fun _ _ _ h => h) (Or.inl ⟨by rfl, ?y51⟩) (by assumption) ?r51
  case y51 => intro w hSw; clear hSw; go_simp; (try with_reducible rfl)
  simp only [Act.put, List.setIfInBounds_toArray, List.set_cons_zero, List.set_cons_succ]
  refine wpAnyH_take (i := 3) (oi := ⟨some 11, _, _, _, _, _⟩) (v := ?v52) rfl (by kernel_rfl) (by kernel_rfl) (by kernel_rfl) (fun _ _ _ h => h) (Or.inl ⟨by rfl, ?y52⟩) (by assumption) ?r52
  case y52 => intro w hSw; clear hSw; go_simp; (try with_reducible rfl)
  simp only [Act.put, List.setIfInBounds_toArray, List.set_cons_zero, List.set_cons_succ]
  refine wpAnyH_take (i := 5) (oi := ⟨some 13, _, _, _, _, _⟩) (v := ?v53) rfl (by kernel_rfl) (by kernel_rfl) (by kernel_rfl) (fun _ _ _ h => h) (Or.inl ⟨by rfl, ?y53⟩) (by assumption) ?r53
  case y53 => intro w hSw; clear hSw; go_simp; (try with_reducible rfl)
  simp only [Act.put, List.setIfInBounds_toArray, List.set_cons_zero, List.set_cons_succ]
  refine wpAnyH_take (i := 6) (oi := ⟨some 14, _, _, _, _, _⟩) (v := ?v54) rfl (by kernel_rfl) (by kernel_rfl) (by kernel_rfl) (fun _ _ _ h => h) (Or.inl ⟨by rfl, ?y54⟩) (by assumption) ?r54
  case y54 => intro w hSw; skip; go_simp; (try with_reducible rfl)
  simp only [Act.put, List.setIfInBounds_toArray, List.set_cons_zero, List.set_cons_succ]
  refine wpAnyH_ready (rs := [4]) (by kernel_rfl) (by simp) ?_
  refine AllReadyH.cons (o := ⟨some 12, _, _, _, _, _⟩) rfl (fun K hK => ?_) AllReadyH.nil
  go_simp
  refine hK.out _ _ hHeld (fun hHeld => ?_)
  clear hK
  try simp only [List.setIfInBounds_toArray, List.set_cons_zero, List.set_cons_succ]
  refine wpAnyH_ready (rs := [7]) (by kernel_rfl) (by simp) ?_
  refine AllReadyH.cons (o := ⟨some 15, _, _, _, _, _⟩) rfl (fun K hK => ?_) AllReadyH.nil
  go_simp
  refine (HA.out _).mono ?_
  rintro e w_ ⟨rfl, rfl⟩
  go_wp2_with fail
  refine hK.out _ _ hHeld (fun hHeld => ?_)
  clear hK
  try simp only [List.setIfInBounds_toArray, List.set_cons_zero, List.set_cons_succ]
  refine wpAnyH_take (i := 8) (oi := ⟨some 16, _, _, _, _, _⟩) (v := ?v55) rfl (by kernel_rfl) (by kernel_rfl) (by kernel_rfl) (fun _ _ _ h => h) (Or.inl ⟨by rfl, ?y55⟩) (by assumption) ?r55
  case y55 => intro w hSw; clear hSw; go_simp; (try with_reducible rfl)
  simp only [Act.put, List.setIfInBounds_toArray, List.set_cons_zero, List.set_cons_succ]
  refine wpAnyH_take (i := 9) (oi := ⟨some 17, _, _, _, _, _⟩) (v := ?v56) rfl (by kernel_rfl) (by kernel_rfl) (by kernel_rfl) (fun _ _ _ h => h) (Or.inl ⟨by rfl, ?y56⟩) (by assumption) ?r56
  case y56 => intro w hSw; clear hSw; go_simp; (try with_reducible rfl)
  simp only [Act.put, List.setIfInBounds_toArray, List.set_cons_zero, List.set_cons_succ]
  refine wpAnyH_ready (rs := [10]) (by kernel_rfl) (by simp) ?_
  refine AllReadyH.cons (o := ⟨none, _, _, _, _, _⟩) rfl (fun K hK => ?_) AllReadyH.nil
  go_simp
  refine hK.out _ _ Z_ (fun hHeld => ?_)
  clear hK
  try simp only [List.setIfInBounds_toArray, List.set_cons_zero, List.set_cons_succ]
  refine wpAnyH_done (by kernel_rfl) ?_ _
  have M1 : Hid (RMut W B Q { s with acked := Pl.addS s.acked ac } k X ((w0.setCell ⟨Q.m, 21, none⟩ (.int .u64 ((Pl.addS s.acked ac : Nat) : Int))).drew)) := Y_
  clear M0 M0d X_ Y_ Z_
  try clear hHeld
  generalize (w0.setCell ⟨Q.m, 21, none⟩ (.int .u64 ((Pl.addS s.acked ac : Nat) : Int))).drew = w1 at *
  go_wp2_with fail
  have M1d := Lib.hid M1.out.drew
  have X_ := rx_of M1d
  have Y_ := Lib.hid (M1d.out.set (s' := { s with acked := Pl.addS s.acked ac, lost := Pl.addS s.lost lo }) 22 (.int .u64 ((Pl.addS s.lost lo : Nat) : Int)) (fun _ => rfl) rfl rfl)
  have Z_ := rx_of Y_
  refine wp_region_held_drew (S := (fun w' => Hid (RMX W B Q X w'))) (by kernel_rfl) X_ (fun hHeld => ?_)
  simp only [List.size_toArray, List.length_cons, List.length_nil, Nat.reduceAdd, Array.replicate_succ, Array.replicate_zero, List.push_toArray, List.nil_append, List.cons_append]
  refine wpAnyH_take (i := 0) (oi := ⟨some 18, _, _, _, _, _⟩) (v := ?v57) rfl (by kernel_rfl) (by kernel_rfl) (by kernel_rfl) (fun _ _ _ h => h) (Or.inl ⟨by rfl, ?y57⟩) (by assumption) ?r57
  case y57 => intro w hSw; clear hSw; go_simp; (try with_reducible rfl)
  simp only [Act.put, List.setIfInBounds_toArray, List.set_cons_zero, List.set_cons_succ]
  refine wpAnyH_take (i := 1) (oi := ⟨some 19, _, _, _, _, _⟩) (v := ?v58) rfl (by kernel_rfl) (by kernel_rfl) (by kernel_rfl) (fun _ _ _ h => h) (Or.inl ⟨by rfl, ?y58⟩) (by assumption) ?r58
  case y58 => intro w hSw; clear hSw; go_simp; (try with_reducible rfl)
  simp only [Act.put, List.setIfInBounds_toArray, List.set_cons_zero, List.set_cons_succ]
  refine wpAnyH_take (i := 2) (oi := ⟨some 20, _, _, _, _, _⟩) (v := ?v59) rfl (by kernel_rfl) (by kernel_rfl) (by kernel_rfl) (fun _ _ _ h => h) (Or.inl ⟨by rfl, ?y59⟩) (by assumption) ?r59
  case y59 => intro w hSw; clear hSw; go_simp; (try with_reducible rfl)
  simp only [Act.put, List.setIfInBounds_toArray, List.set_cons_zero, List.set_cons_succ]
  refine wpAnyH_take (i := 3) (oi := ⟨some 21, _, _, _, _, _⟩) (v := ?v60) rfl (by kernel_rfl) (by kernel_rfl) (by kernel_rfl) (fun _ _ _ h => h) (Or.inl ⟨by rfl, ?y60⟩) (by assumption) ?r60
  case y60 => intro w hSw; clear hSw; go_simp; (try with_reducible rfl)
  simp only [Act.put, List.setIfInBounds_toArray, List.set_cons_zero, List.set_cons_succ]
  refine wpAnyH_take (i := 5) (oi := ⟨some 23, _, _, _, _, _⟩) (v := ?v61) rfl (by kernel_rfl) (by kernel_rfl) (by kernel_rfl) (fun _ _ _ h => h) (Or.inl ⟨by rfl, ?y61⟩) (by assumption) ?r61
  case y61 => intro w hSw; clear hSw; go_simp; (try with_reducible rfl)
  simp only [Act.put, List.setIfInBounds_toArray, List.set_cons_zero, List.set_cons_succ]
  refine wpAnyH_take (i := 6) (oi := ⟨some 24, _, _, _, _, _⟩) (v := ?v62) rfl (by kernel_rfl) (by kernel_rfl) (by kernel_rfl) (fun _ _ _ h => h) (Or.inl ⟨by rfl, ?y62⟩) (by assumption) ?r62
  case y62 => intro w hSw; skip; go_simp; (try with_reducible rfl)
  simp only [Act.put, List.setIfInBounds_toArray, List.set_cons_zero, List.set_cons_succ]
  refine wpAnyH_ready (rs := [4]) (by kernel_rfl) (by simp) ?_
  refine AllReadyH.cons (o := ⟨some 22, _, _, _, _, _⟩) rfl (fun K hK => ?_) AllReadyH.nil
  go_simp
  refine hK.out _ _ hHeld (fun hHeld => ?_)
  clear hK
  try simp only [List.setIfInBounds_toArray, List.set_cons_zero, List.set_cons_succ]
  refine wpAnyH_ready (rs := [7]) (by kernel_rfl) (by simp) ?_
  refine AllReadyH.cons (o := ⟨some 25, _, _, _, _, _⟩) rfl (fun K hK => ?_) AllReadyH.nil
  go_simp
  refine (HB.out _).mono ?_
  rintro e w_ ⟨rfl, rfl⟩
  go_wp2_with fail
  refine hK.out _ _ hHeld (fun hHeld => ?_)
  clear hK
  try simp only [List.setIfInBounds_toArray, List.set_cons_zero, List.set_cons_succ]
  refine wpAnyH_take (i := 8) (oi := ⟨some 26, _, _, _, _, _⟩) (v := ?v63) rfl (by kernel_rfl) (by kernel_rfl) (by kernel_rfl) (fun _ _ _ h => h) (Or.inl ⟨by rfl, ?y63⟩) (by assumption) ?r63
  case y63 => intro w hSw; clear hSw; go_simp; (try with_reducible rfl)
  simp only [Act.put, List.setIfInBounds_toArray, List.set_cons_zero, List.set_cons_succ]
  refine wpAnyH_take (i := 9) (oi := ⟨some 27, _, _, _, _, _⟩) (v := ?v64) rfl (by kernel_rfl) (by kernel_rfl) (by kernel_rfl) (fun _ _ _ h => h) (Or.inl ⟨by rfl, ?y64⟩) (by assumption) ?r64
  case y64 => intro w hSw; clear hSw; go_simp; (try with_reducible rfl)
  simp only [Act.put, List.setIfInBounds_toArray, List.set_cons_zero, List.set_cons_succ]
  refine wpAnyH_ready (rs := [10]) (by kernel_rfl) (by simp) ?_
  refine AllReadyH.cons (o := ⟨none, _, _, _, _, _⟩) rfl (fun K hK => ?_) AllReadyH.nil
  go_simp
  refine hK.out _ _ Z_ (fun hHeld => ?_)
  clear hK
  try simp only [List.setIfInBounds_toArray, List.set_cons_zero, List.set_cons_succ]
  refine wpAnyH_done (by kernel_rfl) ?_ _
  have M2 : Hid (RMut W B Q { s with acked := Pl.addS s.acked ac, lost := Pl.addS s.lost lo } k X ((w1.setCell ⟨Q.m, 22, none⟩ (.int .u64 ((Pl.addS s.lost lo : Nat) : Int))).drew)) := Y_
  clear M1 M1d X_ Y_ Z_
  try clear hHeld
  generalize (w1.setCell ⟨Q.m, 22, none⟩ (.int .u64 ((Pl.addS s.lost lo : Nat) : Int))).drew = w2 at *
  go_wp2_with fail
  have M2d := Lib.hid M2.out.drew
  have X_ := rx_of M2d
  go_region_held3 (fun w' => Hid (RMX W B Q X w'))
    (first | with_reducible exact X_ | with_reducible exact Z_)
    (first
      | (go_at_call 93; (with_reducible refine (HT.out _ M2d.out.at_).mono ?_); rintro e w3 ⟨er, hp⟩; obtain rfl := hp.e; have M3 := Lib.hid (M2d.out.step hp); have Z_ := rx_of M3; clear hp))
  clear M2 M2d X_ Z_ HT
  have V_ := rx_of M3
  go_wp2_with fail
  have M3d := Lib.hid M3.out.drew
  have X_ := rx_of M3d
  go_region_held3 (fun w' => Hid (RMX W B Q X w'))
    (first | with_reducible exact X_ | with_reducible exact Z_)
    (first
      | (go_at_call 94; (with_reducible refine (HP.out _ M3d.out.at_).mono ?_); rintro e w4 ⟨er, hp⟩; obtain rfl := hp.e; have M4 := Lib.hid (M3d.out.step hp); have Z_ := rx_of M4; clear hp))
  clear M3 M3d X_ Z_ HP
  have V_ := rx_of M4
  go_wp2_with fail
  have M4d := Lib.hid M4.out.drew
  have X_ := rx_of M4d
  go_region_held3 (fun w' => Hid (RMX W B Q X w'))
    (first | with_reducible exact X_ | with_reducible exact Z_ | with_reducible assumption)
    (first
      | (go_at_call 96; (with_reducible refine (HS.out _).mono ?_); rintro e w' ⟨rfl, rfl⟩)
      | (go_at_call 95; (with_reducible refine (HC.out _ M4d.out.at_).mono ?_); rintro e w5 hp; obtain rfl := hp.e; have M5 := Lib.hid (M4d.out.step hp); have Z_ := rx_of M5; clear hp))
  clear M4 M4d X_ Z_ HC HS V_
  have V_ := rx_of M5
  go_wp2_with fail
  have M6 := Lib.hid M5.out.drew
  have X_ := rx_of M6
  go_region_held3 (fun w' => Hid (RMX W B Q X w'))
    (first | with_reducible exact X_ | with_reducible assumption)
    (first
      | (go_at_call 65; (with_reducible refine (HY.out _ M6.out.at_).mono ?_); rintro e w' ⟨rfl, rfl⟩))
  clear M5 V_ HY
  generalize w5.drew = w6 at *
  go_wp2_with fail
  have M12 := Lib.hid M6.out.drew
  have X12 := rx_of M12
  go_region_held3 (fun w' => Hid (RMX W B Q X w'))
    (first | with_reducible exact X12 | with_reducible assumption | with_reducible exact Z_)
    (first
      | (go_at_call 65; (with_reducible refine (HY2.out _ M12.out.at_).mono ?_); rintro e w' ⟨rfl, rfl⟩)
      | (go_at_call 99; (with_reducible refine (HW.out _ M12.out.at_).mono ?_); rintro e w13 hp; obtain rfl := hp.e; have M13 := Lib.hid (M12.out.step hp); have Z_ := rx_of M13; clear hp))
  go_wp2_with fail
  go_ret2
  exact M13.out.post

set_option maxHeartbeats 4000000 in
set_option maxRecDepth 100000 in
theorem rz_read_ft {B k j : Nat} {Q : QP} {s : ES} {now sd si sr rt dl ac lo fl : Nat} {ll : Bool} (hx : EvS.ok ⟨now, sd, si, sr, rt, false, true, dl, ac, lo, fl⟩) (W : World) (h : RefAt W B Q s k) (ho : s.ok j) (hj : j ≤ 900) (hk : k ≤ 890) (hov : s.n.ackB (Pl.subS dl sd) = true)
    (hll : decide (Pl.mulS (s.c 5) (Pl.addS (Pl.addS s.acked ac) (Pl.addS s.lost lo)) < Pl.mulS (Pl.addS s.lost lo) 1000) = ll) :
    Calls Tryz.prog 44 #[.pointer (some ⟨Q.m, 0, none⟩), EvS.val ⟨now, sd, si, sr, rt, false, true, dl, ac, lo, fl⟩] W (RPost B Q (.returned (.tuple #[.bool true, .bool ll])) { s with acked := 0, lost := 0, f := s.f.put now rt, n := s.n.ackS (Pl.subS dl sd) dl, y := s.y.put [sr], rounds := Pl.addS s.rounds 1, p := s.p.put (s.y.put [sr]).best true false } (k + 1 + 1) W) := by
  have M0 := Lib.hid (RMut.start h ⟨now, sd, si, sr, rt, false, true, dl, ac, lo, fl⟩)
  have HA := Lib.hid (fun w => ref_Add s.acked ac w ho.acked hx.ac)
  have HB := Lib.hid (fun w => ref_Add s.lost lo w ho.lost hx.lo)
  have HT := Lib.hid (fun w h => rz_To' (B := B) (k := k) (Q := Q) (s := { s with acked := Pl.addS s.acked ac, lost := Pl.addS s.lost lo }) now w h)
  have HP := Lib.hid (fun w h => rz_FPut' (B := B) (k := k) (Q := Q) (s := { s with acked := Pl.addS s.acked ac, lost := Pl.addS s.lost lo, f := s.f.to now }) now rt w h (by omega) hx.now)
  have HFe : Hid ((s.f.to now).put now rt = s.f.put now rt) := Lib.hid (FS.put_to _ _ _)
  rw [show ({ s with acked := Pl.addS s.acked ac, lost := Pl.addS s.lost lo, f := s.f.to now } : ES).f.put now rt = s.f.put now rt from FS.put_to _ _ _] at HP
  have HS := Lib.hid (fun w => rs_Sub dl sd w hx.dl)
  have HC := Lib.hid (fun w h => rz_Ack (B := B) (k := k + 1) (Q := Q) (s := { s with acked := Pl.addS s.acked ac, lost := Pl.addS s.lost lo, f := s.f.put now rt }) (Pl.subS dl sd) dl w h (Nat.lt_of_le_of_lt ho.nn (by omega)))
  have HY := Lib.hid (fun w h => rz_cycle (B := B) (k := k + 1) (Q := Q) (s := { s with acked := Pl.addS s.acked ac, lost := Pl.addS s.lost lo, f := s.f.put now rt, n := s.n.ackS (Pl.subS dl sd) dl }) w h (by omega))
  have hrd : s.n.ackB (Pl.subS dl sd) = true := hov
  rw [show ({ s with acked := Pl.addS s.acked ac, lost := Pl.addS s.lost lo, f := s.f.put now rt } : ES).n.ackB (Pl.subS dl sd) = true from hov] at HC
  have HU := Lib.hid (fun b w h hc => rz_CPut (B := B) (k := k + 1) (Q := Q) (s := { s with acked := Pl.addS s.acked ac, lost := Pl.addS s.lost lo, f := s.f.put now rt, n := s.n.ackS (Pl.subS dl sd) dl }) sr b w h (by omega) hc)
  have HM1 : Hid (∀ w, Calls Tryz.prog 98 #[.int .u64 ((Pl.addS s.lost lo : Nat) : Int), .int .u64 1000] w fun e w' => e = .returned (.int .u64 ((Pl.mulS (Pl.addS s.lost lo) 1000 : Nat) : Int)) ∧ w = w') := Lib.hid (fun w => ref_Mul (Pl.addS s.lost lo) 1000 w (Pl.addS_le _ _) (by omega))
  have HM2 := Lib.hid (fun w => ref_Add (Pl.addS s.acked ac) (Pl.addS s.lost lo) w (Pl.addS_le _ _) (Pl.addS_le _ _))
  have HM3 := Lib.hid (fun w => ref_Mul (s.c 5) (Pl.addS (Pl.addS s.acked ac) (Pl.addS s.lost lo)) w (ho.c 5) (Pl.addS_le _ _))
  have HR : Hid (∀ w, Calls Tryz.prog 92 #[.int .u64 (s.rounds : Int), .int .u64 1] w fun e w' => e = .returned (.int .u64 ((Pl.addS s.rounds 1 : Nat) : Int)) ∧ w = w') := Lib.hid (fun w => ref_Add s.rounds 1 w ho.rounds (by omega))
  have HY2 := Lib.hid (fun w h => rz_cycle (B := B) (k := k + 1 + 1) (Q := Q) (s := { s with acked := 0, lost := 0, f := s.f.put now rt, n := s.n.ackS (Pl.subS dl sd) dl, y := s.y.put [sr], rounds := Pl.addS s.rounds 1 }) w h (by omega))
  have hyb : (s.y.put [sr]).best ≤ 18446744073709551615 := CY.best_le ho.ya (mxs_lt ho.yt (by simp; exact hx.sr))
  have HW := Lib.hid (fun w h => rz_PPut (B := B) (k := k + 1 + 1) (Q := Q) (s := { s with acked := 0, lost := 0, f := s.f.put now rt, n := s.n.ackS (Pl.subS dl sd) dl, y := s.y.put [sr], rounds := Pl.addS s.rounds 1 }) (s.y.put [sr]).best true false w h ho.p hyb)
  have v0 := rx_ev (W := W) (B := B) (Q := Q) (x := ⟨now, sd, si, sr, rt, false, true, dl, ac, lo, fl⟩) (i := 0) (u := .int .u64 (now : Int)) rfl
  have v1 := rx_ev (W := W) (B := B) (Q := Q) (x := ⟨now, sd, si, sr, rt, false, true, dl, ac, lo, fl⟩) (i := 1) (u := .int .u64 (sd : Int)) rfl
  have v2 := rx_ev (W := W) (B := B) (Q := Q) (x := ⟨now, sd, si, sr, rt, false, true, dl, ac, lo, fl⟩) (i := 2) (u := .int .u64 (si : Int)) rfl
  have v3 := rx_ev (W := W) (B := B) (Q := Q) (x := ⟨now, sd, si, sr, rt, false, true, dl, ac, lo, fl⟩) (i := 3) (u := .int .u64 (sr : Int)) rfl
  have v4 := rx_ev (W := W) (B := B) (Q := Q) (x := ⟨now, sd, si, sr, rt, false, true, dl, ac, lo, fl⟩) (i := 4) (u := .int .u64 (rt : Int)) rfl
  have v5 := rx_ev (W := W) (B := B) (Q := Q) (x := ⟨now, sd, si, sr, rt, false, true, dl, ac, lo, fl⟩) (i := 5) (u := .bool false) rfl
  have v6 := rx_ev (W := W) (B := B) (Q := Q) (x := ⟨now, sd, si, sr, rt, false, true, dl, ac, lo, fl⟩) (i := 6) (u := .bool true) rfl
  have v7 := rx_ev (W := W) (B := B) (Q := Q) (x := ⟨now, sd, si, sr, rt, false, true, dl, ac, lo, fl⟩) (i := 7) (u := .int .u64 (dl : Int)) rfl
  have v8 := rx_ev (W := W) (B := B) (Q := Q) (x := ⟨now, sd, si, sr, rt, false, true, dl, ac, lo, fl⟩) (i := 8) (u := .int .u64 (ac : Int)) rfl
  have v9 := rx_ev (W := W) (B := B) (Q := Q) (x := ⟨now, sd, si, sr, rt, false, true, dl, ac, lo, fl⟩) (i := 9) (u := .int .u64 (lo : Int)) rfl
  have v10 := rx_ev (W := W) (B := B) (Q := Q) (x := ⟨now, sd, si, sr, rt, false, true, dl, ac, lo, fl⟩) (i := 10) (u := .int .u64 (fl : Int)) rfl
  have vy := rx_y (W := W) (B := B) (Q := Q) (x := ⟨now, sd, si, sr, rt, false, true, dl, ac, lo, fl⟩)
  have q21 := rm_e (W := W) (B := B) (k := k) (Q := Q) (s := s) (x := ⟨now, sd, si, sr, rt, false, true, dl, ac, lo, fl⟩) (i := 21) (u := .int .u64 (s.acked : Int)) (fun _ => rfl)
  have f21 := rm_f (W := W) (B := B) (k := k) (Q := Q) (s := s) (x := ⟨now, sd, si, sr, rt, false, true, dl, ac, lo, fl⟩) 21
  have q22 := rm_e (W := W) (B := B) (k := k) (Q := Q) (s := { s with acked := Pl.addS s.acked ac }) (x := ⟨now, sd, si, sr, rt, false, true, dl, ac, lo, fl⟩) (i := 22) (u := .int .u64 (s.lost : Int)) (fun _ => rfl)
  have f22 := rm_f (W := W) (B := B) (k := k) (Q := Q) (s := { s with acked := Pl.addS s.acked ac }) (x := ⟨now, sd, si, sr, rt, false, true, dl, ac, lo, fl⟩) 22
  clear h ho hx hk hj hov hrd hyb
  unfold EvS.val
  generalize hX : (EvS.mk now sd si sr rt false true dl ac lo fl) = X at *
  have HE : Hid (X.cells = #[.int .u64 (now : Int), .int .u64 (sd : Int), .int .u64 (si : Int), .int .u64 (sr : Int), .int .u64 (rt : Int), .bool false, .bool true, .int .u64 (dl : Int), .int .u64 (ac : Int), .int .u64 (lo : Int), .int .u64 (fl : Int)]) := Lib.hid (by rw [← hX]; rfl)
  clear hX
  rw [HE.out] at M0 ⊢
  go_enter Tryz.func44, Tryz.ntmps44
  go_wp2_with fail
  generalize W.alloc (.cells #[.int .u64 (now : Int), .int .u64 (sd : Int), .int .u64 (si : Int), .int .u64 (sr : Int), .int .u64 (rt : Int), .bool false, .bool true, .int .u64 (dl : Int), .int .u64 (ac : Int), .int .u64 (lo : Int), .int .u64 (fl : Int)] 41) = w0 at *
  have M0d := Lib.hid M0.out.drew
  have X_ := rx_of M0d
  have Y_ := Lib.hid (M0d.out.set (s' := { s with acked := Pl.addS s.acked ac }) 21 (.int .u64 ((Pl.addS s.acked ac : Nat) : Int)) (fun _ => rfl) rfl rfl)
  have Z_ := rx_of Y_
  refine wp_region_held_drew (S := (fun w' => Hid (RMX W B Q X w'))) (by kernel_rfl) X_ (fun hHeld => ?_)
  simp only [List.size_toArray, List.length_cons, List.length_nil, Nat.reduceAdd, Array.replicate_succ, Array.replicate_zero, List.push_toArray, List.nil_append, List.cons_append]
  refine wpAnyH_take (i := 0) (oi := ⟨some 8, _, _, _, _, _⟩) (v := ?v65) rfl (by kernel_rfl) (by kernel_rfl) (by kernel_rfl) (fun _ _ _ h => h) (Or.inl ⟨by rfl, ?y65⟩) (by assumption) ?r65
  case y65 => intro w hSw; clear hSw; go_simp; (try with_reducible rfl)
  simp only [Act.put, List.setIfInBounds_toArray, List.set_cons_zero, List.set_cons_succ]
  refine wpAnyH_take (i := 1) (oi := ⟨some 9, _, _, _, _, _⟩) (v := ?v66) rfl (by kernel_rfl) (by kernel_rfl) (by kernel_rfl) (fun _ _ _ h => h) (Or.inl ⟨by rfl, ?y66⟩) (by assumption) ?r66
  case y66 => intro w hSw; clear hSw; go_simp; (try with_reducible rfl)
  simp only [Act.put, List.setIfInBounds_toArray, List.set_cons_zero, List.set_cons_succ]
  refine wpAnyH_take (i := 2) (oi := ⟨some 10, _, _, _, _, _⟩) (v := ?v67) rfl (by kernel_rfl) (by kernel_rfl) (by kernel_rfl) (fun _ _ _ h => h) (Or.inl ⟨by rfl, ?y67⟩) (by assumption) ?r67
  case y67 => intro w hSw; clear hSw; go_simp; (try with_reducible rfl)
  simp only [Act.put, List.setIfInBounds_toArray, List.set_cons_zero, List.set_cons_succ]
  refine wpAnyH_take (i := 3) (oi := ⟨some 11, _, _, _, _, _⟩) (v := ?v68) rfl (by kernel_rfl) (by kernel_rfl) (by kernel_rfl) (fun _ _ _ h => h) (Or.inl ⟨by rfl, ?y68⟩) (by assumption) ?r68
  case y68 => intro w hSw; clear hSw; go_simp; (try with_reducible rfl)
  simp only [Act.put, List.setIfInBounds_toArray, List.set_cons_zero, List.set_cons_succ]
  refine wpAnyH_take (i := 5) (oi := ⟨some 13, _, _, _, _, _⟩) (v := ?v69) rfl (by kernel_rfl) (by kernel_rfl) (by kernel_rfl) (fun _ _ _ h => h) (Or.inl ⟨by rfl, ?y69⟩) (by assumption) ?r69
  case y69 => intro w hSw; clear hSw; go_simp; (try with_reducible rfl)
  simp only [Act.put, List.setIfInBounds_toArray, List.set_cons_zero, List.set_cons_succ]
  refine wpAnyH_take (i := 6) (oi := ⟨some 14, _, _, _, _, _⟩) (v := ?v70) rfl (by kernel_rfl) (by kernel_rfl) (by kernel_rfl) (fun _ _ _ h => h) (Or.inl ⟨by rfl, ?y70⟩) (by assumption) ?r70
  case y70 => intro w hSw; skip; go_simp; (try with_reducible rfl)
  simp only [Act.put, List.setIfInBounds_toArray, List.set_cons_zero, List.set_cons_succ]
  refine wpAnyH_ready (rs := [4]) (by kernel_rfl) (by simp) ?_
  refine AllReadyH.cons (o := ⟨some 12, _, _, _, _, _⟩) rfl (fun K hK => ?_) AllReadyH.nil
  go_simp
  refine hK.out _ _ hHeld (fun hHeld => ?_)
  clear hK
  try simp only [List.setIfInBounds_toArray, List.set_cons_zero, List.set_cons_succ]
  refine wpAnyH_ready (rs := [7]) (by kernel_rfl) (by simp) ?_
  refine AllReadyH.cons (o := ⟨some 15, _, _, _, _, _⟩) rfl (fun K hK => ?_) AllReadyH.nil
  go_simp
  refine (HA.out _).mono ?_
  rintro e w_ ⟨rfl, rfl⟩
  go_wp2_with fail
  refine hK.out _ _ hHeld (fun hHeld => ?_)
  clear hK
  try simp only [List.setIfInBounds_toArray, List.set_cons_zero, List.set_cons_succ]
  refine wpAnyH_take (i := 8) (oi := ⟨some 16, _, _, _, _, _⟩) (v := ?v71) rfl (by kernel_rfl) (by kernel_rfl) (by kernel_rfl) (fun _ _ _ h => h) (Or.inl ⟨by rfl, ?y71⟩) (by assumption) ?r71
  case y71 => intro w hSw; clear hSw; go_simp; (try with_reducible rfl)
  simp only [Act.put, List.setIfInBounds_toArray, List.set_cons_zero, List.set_cons_succ]
  refine wpAnyH_take (i := 9) (oi := ⟨some 17, _, _, _, _, _⟩) (v := ?v72) rfl (by kernel_rfl) (by kernel_rfl) (by kernel_rfl) (fun _ _ _ h => h) (Or.inl ⟨by rfl, ?y72⟩) (by assumption) ?r72
  case y72 => intro w hSw; clear hSw; go_simp; (try with_reducible rfl)
  simp only [Act.put, List.setIfInBounds_toArray, List.set_cons_zero, List.set_cons_succ]
  refine wpAnyH_ready (rs := [10]) (by kernel_rfl) (by simp) ?_
  refine AllReadyH.cons (o := ⟨none, _, _, _, _, _⟩) rfl (fun K hK => ?_) AllReadyH.nil
  go_simp
  refine hK.out _ _ Z_ (fun hHeld => ?_)
  clear hK
  try simp only [List.setIfInBounds_toArray, List.set_cons_zero, List.set_cons_succ]
  refine wpAnyH_done (by kernel_rfl) ?_ _
  have M1 : Hid (RMut W B Q { s with acked := Pl.addS s.acked ac } k X ((w0.setCell ⟨Q.m, 21, none⟩ (.int .u64 ((Pl.addS s.acked ac : Nat) : Int))).drew)) := Y_
  clear M0 M0d X_ Y_ Z_
  try clear hHeld
  generalize (w0.setCell ⟨Q.m, 21, none⟩ (.int .u64 ((Pl.addS s.acked ac : Nat) : Int))).drew = w1 at *
  go_wp2_with fail
  have M1d := Lib.hid M1.out.drew
  have X_ := rx_of M1d
  have Y_ := Lib.hid (M1d.out.set (s' := { s with acked := Pl.addS s.acked ac, lost := Pl.addS s.lost lo }) 22 (.int .u64 ((Pl.addS s.lost lo : Nat) : Int)) (fun _ => rfl) rfl rfl)
  have Z_ := rx_of Y_
  refine wp_region_held_drew (S := (fun w' => Hid (RMX W B Q X w'))) (by kernel_rfl) X_ (fun hHeld => ?_)
  simp only [List.size_toArray, List.length_cons, List.length_nil, Nat.reduceAdd, Array.replicate_succ, Array.replicate_zero, List.push_toArray, List.nil_append, List.cons_append]
  refine wpAnyH_take (i := 0) (oi := ⟨some 18, _, _, _, _, _⟩) (v := ?v73) rfl (by kernel_rfl) (by kernel_rfl) (by kernel_rfl) (fun _ _ _ h => h) (Or.inl ⟨by rfl, ?y73⟩) (by assumption) ?r73
  case y73 => intro w hSw; clear hSw; go_simp; (try with_reducible rfl)
  simp only [Act.put, List.setIfInBounds_toArray, List.set_cons_zero, List.set_cons_succ]
  refine wpAnyH_take (i := 1) (oi := ⟨some 19, _, _, _, _, _⟩) (v := ?v74) rfl (by kernel_rfl) (by kernel_rfl) (by kernel_rfl) (fun _ _ _ h => h) (Or.inl ⟨by rfl, ?y74⟩) (by assumption) ?r74
  case y74 => intro w hSw; clear hSw; go_simp; (try with_reducible rfl)
  simp only [Act.put, List.setIfInBounds_toArray, List.set_cons_zero, List.set_cons_succ]
  refine wpAnyH_take (i := 2) (oi := ⟨some 20, _, _, _, _, _⟩) (v := ?v75) rfl (by kernel_rfl) (by kernel_rfl) (by kernel_rfl) (fun _ _ _ h => h) (Or.inl ⟨by rfl, ?y75⟩) (by assumption) ?r75
  case y75 => intro w hSw; clear hSw; go_simp; (try with_reducible rfl)
  simp only [Act.put, List.setIfInBounds_toArray, List.set_cons_zero, List.set_cons_succ]
  refine wpAnyH_take (i := 3) (oi := ⟨some 21, _, _, _, _, _⟩) (v := ?v76) rfl (by kernel_rfl) (by kernel_rfl) (by kernel_rfl) (fun _ _ _ h => h) (Or.inl ⟨by rfl, ?y76⟩) (by assumption) ?r76
  case y76 => intro w hSw; clear hSw; go_simp; (try with_reducible rfl)
  simp only [Act.put, List.setIfInBounds_toArray, List.set_cons_zero, List.set_cons_succ]
  refine wpAnyH_take (i := 5) (oi := ⟨some 23, _, _, _, _, _⟩) (v := ?v77) rfl (by kernel_rfl) (by kernel_rfl) (by kernel_rfl) (fun _ _ _ h => h) (Or.inl ⟨by rfl, ?y77⟩) (by assumption) ?r77
  case y77 => intro w hSw; clear hSw; go_simp; (try with_reducible rfl)
  simp only [Act.put, List.setIfInBounds_toArray, List.set_cons_zero, List.set_cons_succ]
  refine wpAnyH_take (i := 6) (oi := ⟨some 24, _, _, _, _, _⟩) (v := ?v78) rfl (by kernel_rfl) (by kernel_rfl) (by kernel_rfl) (fun _ _ _ h => h) (Or.inl ⟨by rfl, ?y78⟩) (by assumption) ?r78
  case y78 => intro w hSw; skip; go_simp; (try with_reducible rfl)
  simp only [Act.put, List.setIfInBounds_toArray, List.set_cons_zero, List.set_cons_succ]
  refine wpAnyH_ready (rs := [4]) (by kernel_rfl) (by simp) ?_
  refine AllReadyH.cons (o := ⟨some 22, _, _, _, _, _⟩) rfl (fun K hK => ?_) AllReadyH.nil
  go_simp
  refine hK.out _ _ hHeld (fun hHeld => ?_)
  clear hK
  try simp only [List.setIfInBounds_toArray, List.set_cons_zero, List.set_cons_succ]
  refine wpAnyH_ready (rs := [7]) (by kernel_rfl) (by simp) ?_
  refine AllReadyH.cons (o := ⟨some 25, _, _, _, _, _⟩) rfl (fun K hK => ?_) AllReadyH.nil
  go_simp
  refine (HB.out _).mono ?_
  rintro e w_ ⟨rfl, rfl⟩
  go_wp2_with fail
  refine hK.out _ _ hHeld (fun hHeld => ?_)
  clear hK
  try simp only [List.setIfInBounds_toArray, List.set_cons_zero, List.set_cons_succ]
  refine wpAnyH_take (i := 8) (oi := ⟨some 26, _, _, _, _, _⟩) (v := ?v79) rfl (by kernel_rfl) (by kernel_rfl) (by kernel_rfl) (fun _ _ _ h => h) (Or.inl ⟨by rfl, ?y79⟩) (by assumption) ?r79
  case y79 => intro w hSw; clear hSw; go_simp; (try with_reducible rfl)
  simp only [Act.put, List.setIfInBounds_toArray, List.set_cons_zero, List.set_cons_succ]
  refine wpAnyH_take (i := 9) (oi := ⟨some 27, _, _, _, _, _⟩) (v := ?v80) rfl (by kernel_rfl) (by kernel_rfl) (by kernel_rfl) (fun _ _ _ h => h) (Or.inl ⟨by rfl, ?y80⟩) (by assumption) ?r80
  case y80 => intro w hSw; clear hSw; go_simp; (try with_reducible rfl)
  simp only [Act.put, List.setIfInBounds_toArray, List.set_cons_zero, List.set_cons_succ]
  refine wpAnyH_ready (rs := [10]) (by kernel_rfl) (by simp) ?_
  refine AllReadyH.cons (o := ⟨none, _, _, _, _, _⟩) rfl (fun K hK => ?_) AllReadyH.nil
  go_simp
  refine hK.out _ _ Z_ (fun hHeld => ?_)
  clear hK
  try simp only [List.setIfInBounds_toArray, List.set_cons_zero, List.set_cons_succ]
  refine wpAnyH_done (by kernel_rfl) ?_ _
  have M2 : Hid (RMut W B Q { s with acked := Pl.addS s.acked ac, lost := Pl.addS s.lost lo } k X ((w1.setCell ⟨Q.m, 22, none⟩ (.int .u64 ((Pl.addS s.lost lo : Nat) : Int))).drew)) := Y_
  clear M1 M1d X_ Y_ Z_
  try clear hHeld
  generalize (w1.setCell ⟨Q.m, 22, none⟩ (.int .u64 ((Pl.addS s.lost lo : Nat) : Int))).drew = w2 at *
  go_wp2_with fail
  have M2d := Lib.hid M2.out.drew
  have X_ := rx_of M2d
  go_region_held3 (fun w' => Hid (RMX W B Q X w'))
    (first | with_reducible exact X_ | with_reducible exact Z_)
    (first
      | (go_at_call 93; (with_reducible refine (HT.out _ M2d.out.at_).mono ?_); rintro e w3 ⟨er, hp⟩; obtain rfl := hp.e; have M3 := Lib.hid (M2d.out.step hp); have Z_ := rx_of M3; clear hp))
  clear M2 M2d X_ Z_ HT
  have V_ := rx_of M3
  go_wp2_with fail
  have M3d := Lib.hid M3.out.drew
  have X_ := rx_of M3d
  go_region_held3 (fun w' => Hid (RMX W B Q X w'))
    (first | with_reducible exact X_ | with_reducible exact Z_)
    (first
      | (go_at_call 94; (with_reducible refine (HP.out _ M3d.out.at_).mono ?_); rintro e w4 ⟨er, hp⟩; obtain rfl := hp.e; have M4 := Lib.hid (M3d.out.step hp); have Z_ := rx_of M4; clear hp))
  clear M3 M3d X_ Z_ HP
  have V_ := rx_of M4
  go_wp2_with fail
  have M4d := Lib.hid M4.out.drew
  have X_ := rx_of M4d
  go_region_held3 (fun w' => Hid (RMX W B Q X w'))
    (first | with_reducible exact X_ | with_reducible exact Z_ | with_reducible assumption)
    (first
      | (go_at_call 96; (with_reducible refine (HS.out _).mono ?_); rintro e w' ⟨rfl, rfl⟩)
      | (go_at_call 95; (with_reducible refine (HC.out _ M4d.out.at_).mono ?_); rintro e w5 hp; obtain rfl := hp.e; have M5 := Lib.hid (M4d.out.step hp); have Z_ := rx_of M5; clear hp))
  clear M4 M4d X_ Z_ HC HS V_
  have V_ := rx_of M5
  go_wp2_with fail
  have M6 := Lib.hid M5.out.drew
  have X_ := rx_of M6
  have b5 := v5 _ X_
  go_region
  clear M5 V_ HY
  generalize w5.drew = w6 at *
  go_wp2_with fail
  have M7 := Lib.hid M6.out.drew
  have X7 := rx_of M7
  go_region_held3 (fun w' => Hid (RMX W B Q X w'))
    (first | with_reducible exact X7 | with_reducible exact rx_k X7 (al_be _ _) | with_reducible exact Z_ | with_reducible exact rx_of (Lib.hid (M6.out.to (al_dr _ _))))
    (first
      | (go_at_call 97; (refine (HU.out _ _ (by first | exact (M6.out.to (al_dr _ _)).at_ | exact (M7.out.to (al_be _ _)).at_) (by first | exact cell_dr (nc1r _ _ _ _ (by simp)) | exact nc1r _ _ _ _ (by simp))).mono ?_); rintro e w8 hp; obtain rfl := hp.e; have M8 : Hid (RMut W B Q { s with acked := Pl.addS s.acked ac, lost := Pl.addS s.lost lo, f := s.f.put now rt, n := s.n.ackS (Pl.subS dl sd) dl, y := s.y.put [sr] } (k + 1 + 1) X w8) := (by first | exact Lib.hid ((M6.out.to (al_dr _ _)).step hp) | exact Lib.hid ((M7.out.to (al_be _ _)).step hp)); have Z_ := rx_of M8; clear hp))
  clear M6 M7 X7 Z_ X_ HU
  have V_ := rx_of M8
  go_wp2_with fail
  have r21 := rm_e (W := W) (B := B) (k := k + 1 + 1) (Q := Q) (s := { s with acked := Pl.addS s.acked ac, lost := Pl.addS s.lost lo, f := s.f.put now rt, n := s.n.ackS (Pl.subS dl sd) dl, y := s.y.put [sr] }) (x := X) (i := 21) (u := .int .u64 ((Pl.addS s.acked ac : Nat) : Int)) (fun _ => rfl)
  have r22 := rm_e (W := W) (B := B) (k := k + 1 + 1) (Q := Q) (s := { s with acked := Pl.addS s.acked ac, lost := Pl.addS s.lost lo, f := s.f.put now rt, n := s.n.ackS (Pl.subS dl sd) dl, y := s.y.put [sr] }) (x := X) (i := 22) (u := .int .u64 ((Pl.addS s.lost lo : Nat) : Int)) (fun _ => rfl)
  have r5 := rm_e (W := W) (B := B) (k := k + 1 + 1) (Q := Q) (s := { s with acked := Pl.addS s.acked ac, lost := Pl.addS s.lost lo, f := s.f.put now rt, n := s.n.ackS (Pl.subS dl sd) dl, y := s.y.put [sr] }) (x := X) (i := 5) (u := .int .u64 (s.c 5 : Int)) (fun _ => rfl)
  have M9 := Lib.hid M8.out.drew
  have hd2 : decide (((Pl.mulS (s.c 5) (Pl.addS (Pl.addS s.acked ac) (Pl.addS s.lost lo)) : Nat) : Int) < ((Pl.mulS (Pl.addS s.lost lo) 1000 : Nat) : Int)) = ll := by rw [← hll]; exact decide_eq_decide.2 (by omega)
  generalize Pl.mulS (s.c 5) (Pl.addS (Pl.addS s.acked ac) (Pl.addS s.lost lo)) = m2 at *
  generalize Pl.mulS (Pl.addS s.lost lo) 1000 = m1 at *
  go_region_held3 (fun w' => Hid (RMut W B Q { s with acked := Pl.addS s.acked ac, lost := Pl.addS s.lost lo, f := s.f.put now rt, n := s.n.ackS (Pl.subS dl sd) dl, y := s.y.put [sr] } (k + 1 + 1) X w'))
    (first | with_reducible exact M9 | with_reducible assumption)
    (first
      | (go_at_call 98; (with_reducible refine (HM1.out _).mono ?_); rintro e w' ⟨rfl, rfl⟩)
      | (go_at_call 92; (with_reducible refine (HM2.out _).mono ?_); rintro e w' ⟨rfl, rfl⟩)
      | (go_at_call 98; (with_reducible refine (HM3.out _).mono ?_); rintro e w' ⟨rfl, rfl⟩))
  generalize w8.drew = w9 at *
  clear M8 HM1 HM2 HM3
  have g21 := M9.out.at_.cell (i := 21) (u := .int .u64 ((Pl.addS s.acked ac : Nat) : Int)) (fun _ => rfl)
  have g22 := M9.out.at_.cell (i := 22) (u := .int .u64 ((Pl.addS s.lost lo : Nat) : Int)) (fun _ => rfl)
  have g8 := M9.out.at_.cell (i := 8) (u := .int .u64 (s.rounds : Int)) (fun _ => rfl)
  have f21 := M9.out.at_.free 21
  have f22 := M9.out.at_.free 22
  have f8 := M9.out.at_.free 8
  have M10 := Lib.hid ((M9.out.set (s' := { s with acked := 0, lost := Pl.addS s.lost lo, f := s.f.put now rt, n := s.n.ackS (Pl.subS dl sd) dl, y := s.y.put [sr] }) 21 (.int .u64 0) (fun _ => rfl) rfl rfl).set (s' := { s with acked := 0, lost := 0, f := s.f.put now rt, n := s.n.ackS (Pl.subS dl sd) dl, y := s.y.put [sr] }) 22 (.int .u64 0) (fun _ => rfl) rfl rfl)
  have M11 := Lib.hid (M10.out.set (s' := { s with acked := 0, lost := 0, f := s.f.put now rt, n := s.n.ackS (Pl.subS dl sd) dl, y := s.y.put [sr], rounds := Pl.addS s.rounds 1 }) 8 (.int .u64 ((Pl.addS s.rounds 1 : Nat) : Int)) (fun _ => rfl) rfl rfl)
  have X_ := rx_of M11
  have b6 := v6 _ X_
  go_wp2_with fail
  refine (HR.out _).mono ?_
  rintro e w' ⟨rfl, rfl⟩
  go_wp2_with fail
  clear g21 g22 g8 f21 f22 f8 M9 M10 b6
  generalize ((w9.setCell ⟨Q.m, 21, none⟩ (.int .u64 0)).setCell ⟨Q.m, 22, none⟩ (.int .u64 0)).setCell ⟨Q.m, 8, none⟩ (.int .u64 ((Pl.addS s.rounds 1 : Nat) : Int)) = w10 at *
  have M12 := Lib.hid M11.out.drew
  have X12 := rx_of M12
  go_region_held3 (fun w' => Hid (RMX W B Q X w'))
    (first | with_reducible exact X12 | with_reducible assumption | with_reducible exact Z_)
    (first
      | (go_at_call 65; (with_reducible refine (HY2.out _ M12.out.at_).mono ?_); rintro e w' ⟨rfl, rfl⟩)
      | (go_at_call 99; (with_reducible refine (HW.out _ M12.out.at_).mono ?_); rintro e w13 hp; obtain rfl := hp.e; have M13 := Lib.hid (M12.out.step hp); have Z_ := rx_of M13; clear hp))
  go_wp2_with fail
  go_ret2
  exact M13.out.post

set_option maxHeartbeats 4000000 in
set_option maxRecDepth 100000 in
theorem rz_read_yt {B k j : Nat} {Q : QP} {s : ES} {now sd si sr rt dl ac lo fl : Nat} {ll : Bool} (hx : EvS.ok ⟨now, sd, si, sr, rt, true, true, dl, ac, lo, fl⟩) (W : World) (h : RefAt W B Q s k) (ho : s.ok j) (hj : j ≤ 900) (hk : k ≤ 890) (hov : s.n.ackB (Pl.subS dl sd) = true) (hb : s.y.best ≤ sr)
    (hll : decide (Pl.mulS (s.c 5) (Pl.addS (Pl.addS s.acked ac) (Pl.addS s.lost lo)) < Pl.mulS (Pl.addS s.lost lo) 1000) = ll) :
    Calls Tryz.prog 44 #[.pointer (some ⟨Q.m, 0, none⟩), EvS.val ⟨now, sd, si, sr, rt, true, true, dl, ac, lo, fl⟩] W (RPost B Q (.returned (.tuple #[.bool true, .bool ll])) { s with acked := 0, lost := 0, f := s.f.put now rt, n := s.n.ackS (Pl.subS dl sd) dl, y := s.y.put [sr], rounds := Pl.addS s.rounds 1, p := s.p.put (s.y.put [sr]).best true true } (k + 1 + 1) W) := by
  have M0 := Lib.hid (RMut.start h ⟨now, sd, si, sr, rt, true, true, dl, ac, lo, fl⟩)
  have HA := Lib.hid (fun w => ref_Add s.acked ac w ho.acked hx.ac)
  have HB := Lib.hid (fun w => ref_Add s.lost lo w ho.lost hx.lo)
  have HT := Lib.hid (fun w h => rz_To' (B := B) (k := k) (Q := Q) (s := { s with acked := Pl.addS s.acked ac, lost := Pl.addS s.lost lo }) now w h)
  have HP := Lib.hid (fun w h => rz_FPut' (B := B) (k := k) (Q := Q) (s := { s with acked := Pl.addS s.acked ac, lost := Pl.addS s.lost lo, f := s.f.to now }) now rt w h (by omega) hx.now)
  have HFe : Hid ((s.f.to now).put now rt = s.f.put now rt) := Lib.hid (FS.put_to _ _ _)
  rw [show ({ s with acked := Pl.addS s.acked ac, lost := Pl.addS s.lost lo, f := s.f.to now } : ES).f.put now rt = s.f.put now rt from FS.put_to _ _ _] at HP
  have HS := Lib.hid (fun w => rs_Sub dl sd w hx.dl)
  have HC := Lib.hid (fun w h => rz_Ack (B := B) (k := k + 1) (Q := Q) (s := { s with acked := Pl.addS s.acked ac, lost := Pl.addS s.lost lo, f := s.f.put now rt }) (Pl.subS dl sd) dl w h (Nat.lt_of_le_of_lt ho.nn (by omega)))
  have HY := Lib.hid (fun w h => rz_cycle (B := B) (k := k + 1) (Q := Q) (s := { s with acked := Pl.addS s.acked ac, lost := Pl.addS s.lost lo, f := s.f.put now rt, n := s.n.ackS (Pl.subS dl sd) dl }) w h (by omega))
  have hrd : s.n.ackB (Pl.subS dl sd) = true := hov
  rw [show ({ s with acked := Pl.addS s.acked ac, lost := Pl.addS s.lost lo, f := s.f.put now rt } : ES).n.ackB (Pl.subS dl sd) = true from hov] at HC
  have HU := Lib.hid (fun b w h hc => rz_CPut (B := B) (k := k + 1) (Q := Q) (s := { s with acked := Pl.addS s.acked ac, lost := Pl.addS s.lost lo, f := s.f.put now rt, n := s.n.ackS (Pl.subS dl sd) dl }) sr b w h (by omega) hc)
  have HM1 : Hid (∀ w, Calls Tryz.prog 98 #[.int .u64 ((Pl.addS s.lost lo : Nat) : Int), .int .u64 1000] w fun e w' => e = .returned (.int .u64 ((Pl.mulS (Pl.addS s.lost lo) 1000 : Nat) : Int)) ∧ w = w') := Lib.hid (fun w => ref_Mul (Pl.addS s.lost lo) 1000 w (Pl.addS_le _ _) (by omega))
  have HM2 := Lib.hid (fun w => ref_Add (Pl.addS s.acked ac) (Pl.addS s.lost lo) w (Pl.addS_le _ _) (Pl.addS_le _ _))
  have HM3 := Lib.hid (fun w => ref_Mul (s.c 5) (Pl.addS (Pl.addS s.acked ac) (Pl.addS s.lost lo)) w (ho.c 5) (Pl.addS_le _ _))
  have HR : Hid (∀ w, Calls Tryz.prog 92 #[.int .u64 (s.rounds : Int), .int .u64 1] w fun e w' => e = .returned (.int .u64 ((Pl.addS s.rounds 1 : Nat) : Int)) ∧ w = w') := Lib.hid (fun w => ref_Add s.rounds 1 w ho.rounds (by omega))
  have HY2 := Lib.hid (fun w h => rz_cycle (B := B) (k := k + 1 + 1) (Q := Q) (s := { s with acked := 0, lost := 0, f := s.f.put now rt, n := s.n.ackS (Pl.subS dl sd) dl, y := s.y.put [sr], rounds := Pl.addS s.rounds 1 }) w h (by omega))
  have hyb : (s.y.put [sr]).best ≤ 18446744073709551615 := CY.best_le ho.ya (mxs_lt ho.yt (by simp; exact hx.sr))
  have HW := Lib.hid (fun w h => rz_PPut (B := B) (k := k + 1 + 1) (Q := Q) (s := { s with acked := 0, lost := 0, f := s.f.put now rt, n := s.n.ackS (Pl.subS dl sd) dl, y := s.y.put [sr], rounds := Pl.addS s.rounds 1 }) (s.y.put [sr]).best true true w h ho.p hyb)
  have v0 := rx_ev (W := W) (B := B) (Q := Q) (x := ⟨now, sd, si, sr, rt, true, true, dl, ac, lo, fl⟩) (i := 0) (u := .int .u64 (now : Int)) rfl
  have v1 := rx_ev (W := W) (B := B) (Q := Q) (x := ⟨now, sd, si, sr, rt, true, true, dl, ac, lo, fl⟩) (i := 1) (u := .int .u64 (sd : Int)) rfl
  have v2 := rx_ev (W := W) (B := B) (Q := Q) (x := ⟨now, sd, si, sr, rt, true, true, dl, ac, lo, fl⟩) (i := 2) (u := .int .u64 (si : Int)) rfl
  have v3 := rx_ev (W := W) (B := B) (Q := Q) (x := ⟨now, sd, si, sr, rt, true, true, dl, ac, lo, fl⟩) (i := 3) (u := .int .u64 (sr : Int)) rfl
  have v4 := rx_ev (W := W) (B := B) (Q := Q) (x := ⟨now, sd, si, sr, rt, true, true, dl, ac, lo, fl⟩) (i := 4) (u := .int .u64 (rt : Int)) rfl
  have v5 := rx_ev (W := W) (B := B) (Q := Q) (x := ⟨now, sd, si, sr, rt, true, true, dl, ac, lo, fl⟩) (i := 5) (u := .bool true) rfl
  have v6 := rx_ev (W := W) (B := B) (Q := Q) (x := ⟨now, sd, si, sr, rt, true, true, dl, ac, lo, fl⟩) (i := 6) (u := .bool true) rfl
  have v7 := rx_ev (W := W) (B := B) (Q := Q) (x := ⟨now, sd, si, sr, rt, true, true, dl, ac, lo, fl⟩) (i := 7) (u := .int .u64 (dl : Int)) rfl
  have v8 := rx_ev (W := W) (B := B) (Q := Q) (x := ⟨now, sd, si, sr, rt, true, true, dl, ac, lo, fl⟩) (i := 8) (u := .int .u64 (ac : Int)) rfl
  have v9 := rx_ev (W := W) (B := B) (Q := Q) (x := ⟨now, sd, si, sr, rt, true, true, dl, ac, lo, fl⟩) (i := 9) (u := .int .u64 (lo : Int)) rfl
  have v10 := rx_ev (W := W) (B := B) (Q := Q) (x := ⟨now, sd, si, sr, rt, true, true, dl, ac, lo, fl⟩) (i := 10) (u := .int .u64 (fl : Int)) rfl
  have vy := rx_y (W := W) (B := B) (Q := Q) (x := ⟨now, sd, si, sr, rt, true, true, dl, ac, lo, fl⟩)
  have q21 := rm_e (W := W) (B := B) (k := k) (Q := Q) (s := s) (x := ⟨now, sd, si, sr, rt, true, true, dl, ac, lo, fl⟩) (i := 21) (u := .int .u64 (s.acked : Int)) (fun _ => rfl)
  have f21 := rm_f (W := W) (B := B) (k := k) (Q := Q) (s := s) (x := ⟨now, sd, si, sr, rt, true, true, dl, ac, lo, fl⟩) 21
  have q22 := rm_e (W := W) (B := B) (k := k) (Q := Q) (s := { s with acked := Pl.addS s.acked ac }) (x := ⟨now, sd, si, sr, rt, true, true, dl, ac, lo, fl⟩) (i := 22) (u := .int .u64 (s.lost : Int)) (fun _ => rfl)
  have f22 := rm_f (W := W) (B := B) (k := k) (Q := Q) (s := { s with acked := Pl.addS s.acked ac }) (x := ⟨now, sd, si, sr, rt, true, true, dl, ac, lo, fl⟩) 22
  have d0 : decide ((s.y.best : Int) ≤ (sr : Int)) = true := decide_eq_true (by omega)
  have d1 : decide (s.y.best ≤ sr) = true := decide_eq_true hb
  clear hb
  clear h ho hx hk hj hov hrd hyb
  unfold EvS.val
  generalize hX : (EvS.mk now sd si sr rt true true dl ac lo fl) = X at *
  have HE : Hid (X.cells = #[.int .u64 (now : Int), .int .u64 (sd : Int), .int .u64 (si : Int), .int .u64 (sr : Int), .int .u64 (rt : Int), .bool true, .bool true, .int .u64 (dl : Int), .int .u64 (ac : Int), .int .u64 (lo : Int), .int .u64 (fl : Int)]) := Lib.hid (by rw [← hX]; rfl)
  clear hX
  rw [HE.out] at M0 ⊢
  go_enter Tryz.func44, Tryz.ntmps44
  go_wp2_with fail
  generalize W.alloc (.cells #[.int .u64 (now : Int), .int .u64 (sd : Int), .int .u64 (si : Int), .int .u64 (sr : Int), .int .u64 (rt : Int), .bool true, .bool true, .int .u64 (dl : Int), .int .u64 (ac : Int), .int .u64 (lo : Int), .int .u64 (fl : Int)] 41) = w0 at *
  have M0d := Lib.hid M0.out.drew
  have X_ := rx_of M0d
  have Y_ := Lib.hid (M0d.out.set (s' := { s with acked := Pl.addS s.acked ac }) 21 (.int .u64 ((Pl.addS s.acked ac : Nat) : Int)) (fun _ => rfl) rfl rfl)
  have Z_ := rx_of Y_
  refine wp_region_held_drew (S := (fun w' => Hid (RMX W B Q X w'))) (by kernel_rfl) X_ (fun hHeld => ?_)
  simp only [List.size_toArray, List.length_cons, List.length_nil, Nat.reduceAdd, Array.replicate_succ, Array.replicate_zero, List.push_toArray, List.nil_append, List.cons_append]
  refine wpAnyH_take (i := 0) (oi := ⟨some 8, _, _, _, _, _⟩) (v := ?v81) rfl (by kernel_rfl) (by kernel_rfl) (by kernel_rfl) (fun _ _ _ h => h) (Or.inl ⟨by rfl, ?y81⟩) (by assumption) ?r81
  case y81 => intro w hSw; clear hSw; go_simp; (try with_reducible rfl)
  simp only [Act.put, List.setIfInBounds_toArray, List.set_cons_zero, List.set_cons_succ]
  refine wpAnyH_take (i := 1) (oi := ⟨some 9, _, _, _, _, _⟩) (v := ?v82) rfl (by kernel_rfl) (by kernel_rfl) (by kernel_rfl) (fun _ _ _ h => h) (Or.inl ⟨by rfl, ?y82⟩) (by assumption) ?r82
  case y82 => intro w hSw; clear hSw; go_simp; (try with_reducible rfl)
  simp only [Act.put, List.setIfInBounds_toArray, List.set_cons_zero, List.set_cons_succ]
  refine wpAnyH_take (i := 2) (oi := ⟨some 10, _, _, _, _, _⟩) (v := ?v83) rfl (by kernel_rfl) (by kernel_rfl) (by kernel_rfl) (fun _ _ _ h => h) (Or.inl ⟨by rfl, ?y83⟩) (by assumption) ?r83
  case y83 => intro w hSw; clear hSw; go_simp; (try with_reducible rfl)
  simp only [Act.put, List.setIfInBounds_toArray, List.set_cons_zero, List.set_cons_succ]
  refine wpAnyH_take (i := 3) (oi := ⟨some 11, _, _, _, _, _⟩) (v := ?v84) rfl (by kernel_rfl) (by kernel_rfl) (by kernel_rfl) (fun _ _ _ h => h) (Or.inl ⟨by rfl, ?y84⟩) (by assumption) ?r84
  case y84 => intro w hSw; clear hSw; go_simp; (try with_reducible rfl)
  simp only [Act.put, List.setIfInBounds_toArray, List.set_cons_zero, List.set_cons_succ]
  refine wpAnyH_take (i := 5) (oi := ⟨some 13, _, _, _, _, _⟩) (v := ?v85) rfl (by kernel_rfl) (by kernel_rfl) (by kernel_rfl) (fun _ _ _ h => h) (Or.inl ⟨by rfl, ?y85⟩) (by assumption) ?r85
  case y85 => intro w hSw; clear hSw; go_simp; (try with_reducible rfl)
  simp only [Act.put, List.setIfInBounds_toArray, List.set_cons_zero, List.set_cons_succ]
  refine wpAnyH_take (i := 6) (oi := ⟨some 14, _, _, _, _, _⟩) (v := ?v86) rfl (by kernel_rfl) (by kernel_rfl) (by kernel_rfl) (fun _ _ _ h => h) (Or.inl ⟨by rfl, ?y86⟩) (by assumption) ?r86
  case y86 => intro w hSw; skip; go_simp; (try with_reducible rfl)
  simp only [Act.put, List.setIfInBounds_toArray, List.set_cons_zero, List.set_cons_succ]
  refine wpAnyH_ready (rs := [4]) (by kernel_rfl) (by simp) ?_
  refine AllReadyH.cons (o := ⟨some 12, _, _, _, _, _⟩) rfl (fun K hK => ?_) AllReadyH.nil
  go_simp
  refine hK.out _ _ hHeld (fun hHeld => ?_)
  clear hK
  try simp only [List.setIfInBounds_toArray, List.set_cons_zero, List.set_cons_succ]
  refine wpAnyH_ready (rs := [7]) (by kernel_rfl) (by simp) ?_
  refine AllReadyH.cons (o := ⟨some 15, _, _, _, _, _⟩) rfl (fun K hK => ?_) AllReadyH.nil
  go_simp
  refine (HA.out _).mono ?_
  rintro e w_ ⟨rfl, rfl⟩
  go_wp2_with fail
  refine hK.out _ _ hHeld (fun hHeld => ?_)
  clear hK
  try simp only [List.setIfInBounds_toArray, List.set_cons_zero, List.set_cons_succ]
  refine wpAnyH_take (i := 8) (oi := ⟨some 16, _, _, _, _, _⟩) (v := ?v87) rfl (by kernel_rfl) (by kernel_rfl) (by kernel_rfl) (fun _ _ _ h => h) (Or.inl ⟨by rfl, ?y87⟩) (by assumption) ?r87
  case y87 => intro w hSw; clear hSw; go_simp; (try with_reducible rfl)
  simp only [Act.put, List.setIfInBounds_toArray, List.set_cons_zero, List.set_cons_succ]
  refine wpAnyH_take (i := 9) (oi := ⟨some 17, _, _, _, _, _⟩) (v := ?v88) rfl (by kernel_rfl) (by kernel_rfl) (by kernel_rfl) (fun _ _ _ h => h) (Or.inl ⟨by rfl, ?y88⟩) (by assumption) ?r88
  case y88 => intro w hSw; clear hSw; go_simp; (try with_reducible rfl)
  simp only [Act.put, List.setIfInBounds_toArray, List.set_cons_zero, List.set_cons_succ]
  refine wpAnyH_ready (rs := [10]) (by kernel_rfl) (by simp) ?_
  refine AllReadyH.cons (o := ⟨none, _, _, _, _, _⟩) rfl (fun K hK => ?_) AllReadyH.nil
  go_simp
  refine hK.out _ _ Z_ (fun hHeld => ?_)
  clear hK
  try simp only [List.setIfInBounds_toArray, List.set_cons_zero, List.set_cons_succ]
  refine wpAnyH_done (by kernel_rfl) ?_ _
  have M1 : Hid (RMut W B Q { s with acked := Pl.addS s.acked ac } k X ((w0.setCell ⟨Q.m, 21, none⟩ (.int .u64 ((Pl.addS s.acked ac : Nat) : Int))).drew)) := Y_
  clear M0 M0d X_ Y_ Z_
  try clear hHeld
  generalize (w0.setCell ⟨Q.m, 21, none⟩ (.int .u64 ((Pl.addS s.acked ac : Nat) : Int))).drew = w1 at *
  go_wp2_with fail
  have M1d := Lib.hid M1.out.drew
  have X_ := rx_of M1d
  have Y_ := Lib.hid (M1d.out.set (s' := { s with acked := Pl.addS s.acked ac, lost := Pl.addS s.lost lo }) 22 (.int .u64 ((Pl.addS s.lost lo : Nat) : Int)) (fun _ => rfl) rfl rfl)
  have Z_ := rx_of Y_
  refine wp_region_held_drew (S := (fun w' => Hid (RMX W B Q X w'))) (by kernel_rfl) X_ (fun hHeld => ?_)
  simp only [List.size_toArray, List.length_cons, List.length_nil, Nat.reduceAdd, Array.replicate_succ, Array.replicate_zero, List.push_toArray, List.nil_append, List.cons_append]
  refine wpAnyH_take (i := 0) (oi := ⟨some 18, _, _, _, _, _⟩) (v := ?v89) rfl (by kernel_rfl) (by kernel_rfl) (by kernel_rfl) (fun _ _ _ h => h) (Or.inl ⟨by rfl, ?y89⟩) (by assumption) ?r89
  case y89 => intro w hSw; clear hSw; go_simp; (try with_reducible rfl)
  simp only [Act.put, List.setIfInBounds_toArray, List.set_cons_zero, List.set_cons_succ]
  refine wpAnyH_take (i := 1) (oi := ⟨some 19, _, _, _, _, _⟩) (v := ?v90) rfl (by kernel_rfl) (by kernel_rfl) (by kernel_rfl) (fun _ _ _ h => h) (Or.inl ⟨by rfl, ?y90⟩) (by assumption) ?r90
  case y90 => intro w hSw; clear hSw; go_simp; (try with_reducible rfl)
  simp only [Act.put, List.setIfInBounds_toArray, List.set_cons_zero, List.set_cons_succ]
  refine wpAnyH_take (i := 2) (oi := ⟨some 20, _, _, _, _, _⟩) (v := ?v91) rfl (by kernel_rfl) (by kernel_rfl) (by kernel_rfl) (fun _ _ _ h => h) (Or.inl ⟨by rfl, ?y91⟩) (by assumption) ?r91
  case y91 => intro w hSw; clear hSw; go_simp; (try with_reducible rfl)
  simp only [Act.put, List.setIfInBounds_toArray, List.set_cons_zero, List.set_cons_succ]
  refine wpAnyH_take (i := 3) (oi := ⟨some 21, _, _, _, _, _⟩) (v := ?v92) rfl (by kernel_rfl) (by kernel_rfl) (by kernel_rfl) (fun _ _ _ h => h) (Or.inl ⟨by rfl, ?y92⟩) (by assumption) ?r92
  case y92 => intro w hSw; clear hSw; go_simp; (try with_reducible rfl)
  simp only [Act.put, List.setIfInBounds_toArray, List.set_cons_zero, List.set_cons_succ]
  refine wpAnyH_take (i := 5) (oi := ⟨some 23, _, _, _, _, _⟩) (v := ?v93) rfl (by kernel_rfl) (by kernel_rfl) (by kernel_rfl) (fun _ _ _ h => h) (Or.inl ⟨by rfl, ?y93⟩) (by assumption) ?r93
  case y93 => intro w hSw; clear hSw; go_simp; (try with_reducible rfl)
  simp only [Act.put, List.setIfInBounds_toArray, List.set_cons_zero, List.set_cons_succ]
  refine wpAnyH_take (i := 6) (oi := ⟨some 24, _, _, _, _, _⟩) (v := ?v94) rfl (by kernel_rfl) (by kernel_rfl) (by kernel_rfl) (fun _ _ _ h => h) (Or.inl ⟨by rfl, ?y94⟩) (by assumption) ?r94
  case y94 => intro w hSw; skip; go_simp; (try with_reducible rfl)
  simp only [Act.put, List.setIfInBounds_toArray, List.set_cons_zero, List.set_cons_succ]
  refine wpAnyH_ready (rs := [4]) (by kernel_rfl) (by simp) ?_
  refine AllReadyH.cons (o := ⟨some 22, _, _, _, _, _⟩) rfl (fun K hK => ?_) AllReadyH.nil
  go_simp
  refine hK.out _ _ hHeld (fun hHeld => ?_)
  clear hK
  try simp only [List.setIfInBounds_toArray, List.set_cons_zero, List.set_cons_succ]
  refine wpAnyH_ready (rs := [7]) (by kernel_rfl) (by simp) ?_
  refine AllReadyH.cons (o := ⟨some 25, _, _, _, _, _⟩) rfl (fun K hK => ?_) AllReadyH.nil
  go_simp
  refine (HB.out _).mono ?_
  rintro e w_ ⟨rfl, rfl⟩
  go_wp2_with fail
  refine hK.out _ _ hHeld (fun hHeld => ?_)
  clear hK
  try simp only [List.setIfInBounds_toArray, List.set_cons_zero, List.set_cons_succ]
  refine wpAnyH_take (i := 8) (oi := ⟨some 26, _, _, _, _, _⟩) (v := ?v95) rfl (by kernel_rfl) (by kernel_rfl) (by kernel_rfl) (fun _ _ _ h => h) (Or.inl ⟨by rfl, ?y95⟩) (by assumption) ?r95
  case y95 => intro w hSw; clear hSw; go_simp; (try with_reducible rfl)
  simp only [Act.put, List.setIfInBounds_toArray, List.set_cons_zero, List.set_cons_succ]
  refine wpAnyH_take (i := 9) (oi := ⟨some 27, _, _, _, _, _⟩) (v := ?v96) rfl (by kernel_rfl) (by kernel_rfl) (by kernel_rfl) (fun _ _ _ h => h) (Or.inl ⟨by rfl, ?y96⟩) (by assumption) ?r96
  case y96 => intro w hSw; clear hSw; go_simp; (try with_reducible rfl)
  simp only [Act.put, List.setIfInBounds_toArray, List.set_cons_zero, List.set_cons_succ]
  refine wpAnyH_ready (rs := [10]) (by kernel_rfl) (by simp) ?_
  refine AllReadyH.cons (o := ⟨none, _, _, _, _, _⟩) rfl (fun K hK => ?_) AllReadyH.nil
  go_simp
  refine hK.out _ _ Z_ (fun hHeld => ?_)
  clear hK
  try simp only [List.setIfInBounds_toArray, List.set_cons_zero, List.set_cons_succ]
  refine wpAnyH_done (by kernel_rfl) ?_ _
  have M2 : Hid (RMut W B Q { s with acked := Pl.addS s.acked ac, lost := Pl.addS s.lost lo } k X ((w1.setCell ⟨Q.m, 22, none⟩ (.int .u64 ((Pl.addS s.lost lo : Nat) : Int))).drew)) := Y_
  clear M1 M1d X_ Y_ Z_
  try clear hHeld
  generalize (w1.setCell ⟨Q.m, 22, none⟩ (.int .u64 ((Pl.addS s.lost lo : Nat) : Int))).drew = w2 at *
  go_wp2_with fail
  have M2d := Lib.hid M2.out.drew
  have X_ := rx_of M2d
  go_region_held3 (fun w' => Hid (RMX W B Q X w'))
    (first | with_reducible exact X_ | with_reducible exact Z_)
    (first
      | (go_at_call 93; (with_reducible refine (HT.out _ M2d.out.at_).mono ?_); rintro e w3 ⟨er, hp⟩; obtain rfl := hp.e; have M3 := Lib.hid (M2d.out.step hp); have Z_ := rx_of M3; clear hp))
  clear M2 M2d X_ Z_ HT
  have V_ := rx_of M3
  go_wp2_with fail
  have M3d := Lib.hid M3.out.drew
  have X_ := rx_of M3d
  go_region_held3 (fun w' => Hid (RMX W B Q X w'))
    (first | with_reducible exact X_ | with_reducible exact Z_)
    (first
      | (go_at_call 94; (with_reducible refine (HP.out _ M3d.out.at_).mono ?_); rintro e w4 ⟨er, hp⟩; obtain rfl := hp.e; have M4 := Lib.hid (M3d.out.step hp); have Z_ := rx_of M4; clear hp))
  clear M3 M3d X_ Z_ HP
  have V_ := rx_of M4
  go_wp2_with fail
  have M4d := Lib.hid M4.out.drew
  have X_ := rx_of M4d
  go_region_held3 (fun w' => Hid (RMX W B Q X w'))
    (first | with_reducible exact X_ | with_reducible exact Z_ | with_reducible assumption)
    (first
      | (go_at_call 96; (with_reducible refine (HS.out _).mono ?_); rintro e w' ⟨rfl, rfl⟩)
      | (go_at_call 95; (with_reducible refine (HC.out _ M4d.out.at_).mono ?_); rintro e w5 hp; obtain rfl := hp.e; have M5 := Lib.hid (M4d.out.step hp); have Z_ := rx_of M5; clear hp))
  clear M4 M4d X_ Z_ HC HS V_
  have V_ := rx_of M5
  go_wp2_with fail
  have M6 := Lib.hid M5.out.drew
  have X_ := rx_of M6
  go_region_held3 (fun w' => Hid (RMX W B Q X w'))
    (first | with_reducible exact X_ | with_reducible assumption)
    (first
      | (go_at_call 65; (with_reducible refine (HY.out _ M6.out.at_).mono ?_); rintro e w' ⟨rfl, rfl⟩))
  clear M5 V_ HY
  generalize w5.drew = w6 at *
  go_wp2_with fail
  have M7 := Lib.hid M6.out.drew
  have X7 := rx_of M7
  go_region_held3 (fun w' => Hid (RMX W B Q X w'))
    (first | with_reducible exact X7 | with_reducible exact rx_k X7 (al_be _ _) | with_reducible exact Z_ | with_reducible exact rx_of (Lib.hid (M6.out.to (al_dr _ _))))
    (first
      | (go_at_call 97; (refine (HU.out _ _ (by first | exact (M6.out.to (al_dr _ _)).at_ | exact (M7.out.to (al_be _ _)).at_) (by first | exact cell_dr (nc1r _ _ _ _ (by simp)) | exact nc1r _ _ _ _ (by simp))).mono ?_); rintro e w8 hp; obtain rfl := hp.e; have M8 : Hid (RMut W B Q { s with acked := Pl.addS s.acked ac, lost := Pl.addS s.lost lo, f := s.f.put now rt, n := s.n.ackS (Pl.subS dl sd) dl, y := s.y.put [sr] } (k + 1 + 1) X w8) := (by first | exact Lib.hid ((M6.out.to (al_dr _ _)).step hp) | exact Lib.hid ((M7.out.to (al_be _ _)).step hp)); have Z_ := rx_of M8; clear hp))
  clear M6 M7 X7 Z_ X_ HU
  have V_ := rx_of M8
  go_wp2_with fail
  have r21 := rm_e (W := W) (B := B) (k := k + 1 + 1) (Q := Q) (s := { s with acked := Pl.addS s.acked ac, lost := Pl.addS s.lost lo, f := s.f.put now rt, n := s.n.ackS (Pl.subS dl sd) dl, y := s.y.put [sr] }) (x := X) (i := 21) (u := .int .u64 ((Pl.addS s.acked ac : Nat) : Int)) (fun _ => rfl)
  have r22 := rm_e (W := W) (B := B) (k := k + 1 + 1) (Q := Q) (s := { s with acked := Pl.addS s.acked ac, lost := Pl.addS s.lost lo, f := s.f.put now rt, n := s.n.ackS (Pl.subS dl sd) dl, y := s.y.put [sr] }) (x := X) (i := 22) (u := .int .u64 ((Pl.addS s.lost lo : Nat) : Int)) (fun _ => rfl)
  have r5 := rm_e (W := W) (B := B) (k := k + 1 + 1) (Q := Q) (s := { s with acked := Pl.addS s.acked ac, lost := Pl.addS s.lost lo, f := s.f.put now rt, n := s.n.ackS (Pl.subS dl sd) dl, y := s.y.put [sr] }) (x := X) (i := 5) (u := .int .u64 (s.c 5 : Int)) (fun _ => rfl)
  have M9 := Lib.hid M8.out.drew
  have hd2 : decide (((Pl.mulS (s.c 5) (Pl.addS (Pl.addS s.acked ac) (Pl.addS s.lost lo)) : Nat) : Int) < ((Pl.mulS (Pl.addS s.lost lo) 1000 : Nat) : Int)) = ll := by rw [← hll]; exact decide_eq_decide.2 (by omega)
  generalize Pl.mulS (s.c 5) (Pl.addS (Pl.addS s.acked ac) (Pl.addS s.lost lo)) = m2 at *
  generalize Pl.mulS (Pl.addS s.lost lo) 1000 = m1 at *
  go_region_held3 (fun w' => Hid (RMut W B Q { s with acked := Pl.addS s.acked ac, lost := Pl.addS s.lost lo, f := s.f.put now rt, n := s.n.ackS (Pl.subS dl sd) dl, y := s.y.put [sr] } (k + 1 + 1) X w'))
    (first | with_reducible exact M9 | with_reducible assumption)
    (first
      | (go_at_call 98; (with_reducible refine (HM1.out _).mono ?_); rintro e w' ⟨rfl, rfl⟩)
      | (go_at_call 92; (with_reducible refine (HM2.out _).mono ?_); rintro e w' ⟨rfl, rfl⟩)
      | (go_at_call 98; (with_reducible refine (HM3.out _).mono ?_); rintro e w' ⟨rfl, rfl⟩))
  generalize w8.drew = w9 at *
  clear M8 HM1 HM2 HM3
  have g21 := M9.out.at_.cell (i := 21) (u := .int .u64 ((Pl.addS s.acked ac : Nat) : Int)) (fun _ => rfl)
  have g22 := M9.out.at_.cell (i := 22) (u := .int .u64 ((Pl.addS s.lost lo : Nat) : Int)) (fun _ => rfl)
  have g8 := M9.out.at_.cell (i := 8) (u := .int .u64 (s.rounds : Int)) (fun _ => rfl)
  have f21 := M9.out.at_.free 21
  have f22 := M9.out.at_.free 22
  have f8 := M9.out.at_.free 8
  have M10 := Lib.hid ((M9.out.set (s' := { s with acked := 0, lost := Pl.addS s.lost lo, f := s.f.put now rt, n := s.n.ackS (Pl.subS dl sd) dl, y := s.y.put [sr] }) 21 (.int .u64 0) (fun _ => rfl) rfl rfl).set (s' := { s with acked := 0, lost := 0, f := s.f.put now rt, n := s.n.ackS (Pl.subS dl sd) dl, y := s.y.put [sr] }) 22 (.int .u64 0) (fun _ => rfl) rfl rfl)
  have M11 := Lib.hid (M10.out.set (s' := { s with acked := 0, lost := 0, f := s.f.put now rt, n := s.n.ackS (Pl.subS dl sd) dl, y := s.y.put [sr], rounds := Pl.addS s.rounds 1 }) 8 (.int .u64 ((Pl.addS s.rounds 1 : Nat) : Int)) (fun _ => rfl) rfl rfl)
  have X_ := rx_of M11
  have b6 := v6 _ X_
  go_wp2_with fail
  refine (HR.out _).mono ?_
  rintro e w' ⟨rfl, rfl⟩
  go_wp2_with fail
  clear g21 g22 g8 f21 f22 f8 M9 M10 b6
  generalize ((w9.setCell ⟨Q.m, 21, none⟩ (.int .u64 0)).setCell ⟨Q.m, 22, none⟩ (.int .u64 0)).setCell ⟨Q.m, 8, none⟩ (.int .u64 ((Pl.addS s.rounds 1 : Nat) : Int)) = w10 at *
  have M12 := Lib.hid M11.out.drew
  have X12 := rx_of M12
  go_region_held3 (fun w' => Hid (RMX W B Q X w'))
    (first | with_reducible exact X12 | with_reducible assumption | with_reducible exact Z_)
    (first
      | (go_at_call 65; (with_reducible refine (HY2.out _ M12.out.at_).mono ?_); rintro e w' ⟨rfl, rfl⟩)
      | (go_at_call 99; (with_reducible refine (HW.out _ M12.out.at_).mono ?_); rintro e w13 hp; obtain rfl := hp.e; have M13 := Lib.hid (M12.out.step hp); have Z_ := rx_of M13; clear hp))
  go_wp2_with fail
  go_ret2
  exact M13.out.post

set_option maxHeartbeats 4000000 in
set_option maxRecDepth 100000 in
theorem rz_read_xt {B k j : Nat} {Q : QP} {s : ES} {now sd si sr rt dl ac lo fl : Nat} {ll : Bool} (hx : EvS.ok ⟨now, sd, si, sr, rt, true, true, dl, ac, lo, fl⟩) (W : World) (h : RefAt W B Q s k) (ho : s.ok j) (hj : j ≤ 900) (hk : k ≤ 890) (hov : s.n.ackB (Pl.subS dl sd) = true) (hb : ¬ s.y.best ≤ sr)
    (hll : decide (Pl.mulS (s.c 5) (Pl.addS (Pl.addS s.acked ac) (Pl.addS s.lost lo)) < Pl.mulS (Pl.addS s.lost lo) 1000) = ll) :
    Calls Tryz.prog 44 #[.pointer (some ⟨Q.m, 0, none⟩), EvS.val ⟨now, sd, si, sr, rt, true, true, dl, ac, lo, fl⟩] W (RPost B Q (.returned (.tuple #[.bool true, .bool ll])) { s with acked := 0, lost := 0, f := s.f.put now rt, n := s.n.ackS (Pl.subS dl sd) dl, rounds := Pl.addS s.rounds 1, p := s.p.put (s.y).best true true } (k + 1) W) := by
  have M0 := Lib.hid (RMut.start h ⟨now, sd, si, sr, rt, true, true, dl, ac, lo, fl⟩)
  have HA := Lib.hid (fun w => ref_Add s.acked ac w ho.acked hx.ac)
  have HB := Lib.hid (fun w => ref_Add s.lost lo w ho.lost hx.lo)
  have HT := Lib.hid (fun w h => rz_To' (B := B) (k := k) (Q := Q) (s := { s with acked := Pl.addS s.acked ac, lost := Pl.addS s.lost lo }) now w h)
  have HP := Lib.hid (fun w h => rz_FPut' (B := B) (k := k) (Q := Q) (s := { s with acked := Pl.addS s.acked ac, lost := Pl.addS s.lost lo, f := s.f.to now }) now rt w h (by omega) hx.now)
  have HFe : Hid ((s.f.to now).put now rt = s.f.put now rt) := Lib.hid (FS.put_to _ _ _)
  rw [show ({ s with acked := Pl.addS s.acked ac, lost := Pl.addS s.lost lo, f := s.f.to now } : ES).f.put now rt = s.f.put now rt from FS.put_to _ _ _] at HP
  have HS := Lib.hid (fun w => rs_Sub dl sd w hx.dl)
  have HC := Lib.hid (fun w h => rz_Ack (B := B) (k := k + 1) (Q := Q) (s := { s with acked := Pl.addS s.acked ac, lost := Pl.addS s.lost lo, f := s.f.put now rt }) (Pl.subS dl sd) dl w h (Nat.lt_of_le_of_lt ho.nn (by omega)))
  have HY := Lib.hid (fun w h => rz_cycle (B := B) (k := k + 1) (Q := Q) (s := { s with acked := Pl.addS s.acked ac, lost := Pl.addS s.lost lo, f := s.f.put now rt, n := s.n.ackS (Pl.subS dl sd) dl }) w h (by omega))
  have hrd : s.n.ackB (Pl.subS dl sd) = true := hov
  rw [show ({ s with acked := Pl.addS s.acked ac, lost := Pl.addS s.lost lo, f := s.f.put now rt } : ES).n.ackB (Pl.subS dl sd) = true from hov] at HC
  have HM1 : Hid (∀ w, Calls Tryz.prog 98 #[.int .u64 ((Pl.addS s.lost lo : Nat) : Int), .int .u64 1000] w fun e w' => e = .returned (.int .u64 ((Pl.mulS (Pl.addS s.lost lo) 1000 : Nat) : Int)) ∧ w = w') := Lib.hid (fun w => ref_Mul (Pl.addS s.lost lo) 1000 w (Pl.addS_le _ _) (by omega))
  have HM2 := Lib.hid (fun w => ref_Add (Pl.addS s.acked ac) (Pl.addS s.lost lo) w (Pl.addS_le _ _) (Pl.addS_le _ _))
  have HM3 := Lib.hid (fun w => ref_Mul (s.c 5) (Pl.addS (Pl.addS s.acked ac) (Pl.addS s.lost lo)) w (ho.c 5) (Pl.addS_le _ _))
  have HR : Hid (∀ w, Calls Tryz.prog 92 #[.int .u64 (s.rounds : Int), .int .u64 1] w fun e w' => e = .returned (.int .u64 ((Pl.addS s.rounds 1 : Nat) : Int)) ∧ w = w') := Lib.hid (fun w => ref_Add s.rounds 1 w ho.rounds (by omega))
  have HY2 := Lib.hid (fun w h => rz_cycle (B := B) (k := k + 1) (Q := Q) (s := { s with acked := 0, lost := 0, f := s.f.put now rt, n := s.n.ackS (Pl.subS dl sd) dl, rounds := Pl.addS s.rounds 1 }) w h (by omega))
  have hyb : (s.y).best ≤ 18446744073709551615 := CY.best_le ho.ya ho.yt
  have HW := Lib.hid (fun w h => rz_PPut (B := B) (k := k + 1) (Q := Q) (s := { s with acked := 0, lost := 0, f := s.f.put now rt, n := s.n.ackS (Pl.subS dl sd) dl, rounds := Pl.addS s.rounds 1 }) (s.y).best true true w h ho.p hyb)
  have v0 := rx_ev (W := W) (B := B) (Q := Q) (x := ⟨now, sd, si, sr, rt, true, true, dl, ac, lo, fl⟩) (i := 0) (u := .int .u64 (now : Int)) rfl
  have v1 := rx_ev (W := W) (B := B) (Q := Q) (x := ⟨now, sd, si, sr, rt, true, true, dl, ac, lo, fl⟩) (i := 1) (u := .int .u64 (sd : Int)) rfl
  have v2 := rx_ev (W := W) (B := B) (Q := Q) (x := ⟨now, sd, si, sr, rt, true, true, dl, ac, lo, fl⟩) (i := 2) (u := .int .u64 (si : Int)) rfl
  have v3 := rx_ev (W := W) (B := B) (Q := Q) (x := ⟨now, sd, si, sr, rt, true, true, dl, ac, lo, fl⟩) (i := 3) (u := .int .u64 (sr : Int)) rfl
  have v4 := rx_ev (W := W) (B := B) (Q := Q) (x := ⟨now, sd, si, sr, rt, true, true, dl, ac, lo, fl⟩) (i := 4) (u := .int .u64 (rt : Int)) rfl
  have v5 := rx_ev (W := W) (B := B) (Q := Q) (x := ⟨now, sd, si, sr, rt, true, true, dl, ac, lo, fl⟩) (i := 5) (u := .bool true) rfl
  have v6 := rx_ev (W := W) (B := B) (Q := Q) (x := ⟨now, sd, si, sr, rt, true, true, dl, ac, lo, fl⟩) (i := 6) (u := .bool true) rfl
  have v7 := rx_ev (W := W) (B := B) (Q := Q) (x := ⟨now, sd, si, sr, rt, true, true, dl, ac, lo, fl⟩) (i := 7) (u := .int .u64 (dl : Int)) rfl
  have v8 := rx_ev (W := W) (B := B) (Q := Q) (x := ⟨now, sd, si, sr, rt, true, true, dl, ac, lo, fl⟩) (i := 8) (u := .int .u64 (ac : Int)) rfl
  have v9 := rx_ev (W := W) (B := B) (Q := Q) (x := ⟨now, sd, si, sr, rt, true, true, dl, ac, lo, fl⟩) (i := 9) (u := .int .u64 (lo : Int)) rfl
  have v10 := rx_ev (W := W) (B := B) (Q := Q) (x := ⟨now, sd, si, sr, rt, true, true, dl, ac, lo, fl⟩) (i := 10) (u := .int .u64 (fl : Int)) rfl
  have vy := rx_y (W := W) (B := B) (Q := Q) (x := ⟨now, sd, si, sr, rt, true, true, dl, ac, lo, fl⟩)
  have q21 := rm_e (W := W) (B := B) (k := k) (Q := Q) (s := s) (x := ⟨now, sd, si, sr, rt, true, true, dl, ac, lo, fl⟩) (i := 21) (u := .int .u64 (s.acked : Int)) (fun _ => rfl)
  have f21 := rm_f (W := W) (B := B) (k := k) (Q := Q) (s := s) (x := ⟨now, sd, si, sr, rt, true, true, dl, ac, lo, fl⟩) 21
  have q22 := rm_e (W := W) (B := B) (k := k) (Q := Q) (s := { s with acked := Pl.addS s.acked ac }) (x := ⟨now, sd, si, sr, rt, true, true, dl, ac, lo, fl⟩) (i := 22) (u := .int .u64 (s.lost : Int)) (fun _ => rfl)
  have f22 := rm_f (W := W) (B := B) (k := k) (Q := Q) (s := { s with acked := Pl.addS s.acked ac }) (x := ⟨now, sd, si, sr, rt, true, true, dl, ac, lo, fl⟩) 22
  have d0 : decide ((s.y.best : Int) ≤ (sr : Int)) = false := decide_eq_false (by omega)
  have d1 : decide (s.y.best ≤ sr) = false := decide_eq_false hb
  clear hb
  clear h ho hx hk hj hov hrd hyb
  unfold EvS.val
  generalize hX : (EvS.mk now sd si sr rt true true dl ac lo fl) = X at *
  have HE : Hid (X.cells = #[.int .u64 (now : Int), .int .u64 (sd : Int), .int .u64 (si : Int), .int .u64 (sr : Int), .int .u64 (rt : Int), .bool true, .bool true, .int .u64 (dl : Int), .int .u64 (ac : Int), .int .u64 (lo : Int), .int .u64 (fl : Int)]) := Lib.hid (by rw [← hX]; rfl)
  clear hX
  rw [HE.out] at M0 ⊢
  go_enter Tryz.func44, Tryz.ntmps44
  go_wp2_with fail
  generalize W.alloc (.cells #[.int .u64 (now : Int), .int .u64 (sd : Int), .int .u64 (si : Int), .int .u64 (sr : Int), .int .u64 (rt : Int), .bool true, .bool true, .int .u64 (dl : Int), .int .u64 (ac : Int), .int .u64 (lo : Int), .int .u64 (fl : Int)] 41) = w0 at *
  have M0d := Lib.hid M0.out.drew
  have X_ := rx_of M0d
  have Y_ := Lib.hid (M0d.out.set (s' := { s with acked := Pl.addS s.acked ac }) 21 (.int .u64 ((Pl.addS s.acked ac : Nat) : Int)) (fun _ => rfl) rfl rfl)
  have Z_ := rx_of Y_
  refine wp_region_held_drew (S := (fun w' => Hid (RMX W B Q X w'))) (by kernel_rfl) X_ (fun hHeld => ?_)
  simp only [List.size_toArray, List.length_cons, List.length_nil, Nat.reduceAdd, Array.replicate_succ, Array.replicate_zero, List.push_toArray, List.nil_append, List.cons_append]
  refine wpAnyH_take (i := 0) (oi := ⟨some 8, _, _, _, _, _⟩) (v := ?v97) rfl (by kernel_rfl) (by kernel_rfl) (by kernel_rfl) (fun _ _ _ h => h) (Or.inl ⟨by rfl, ?y97⟩) (by assumption) ?r97
  case y97 => intro w hSw; clear hSw; go_simp; (try with_reducible rfl)
  simp only [Act.put, List.setIfInBounds_toArray, List.set_cons_zero, List.set_cons_succ]
  refine wpAnyH_take (i := 1) (oi := ⟨some 9, _, _, _, _, _⟩) (v := ?v98) rfl (by kernel_rfl) (by kernel_rfl) (by kernel_rfl) (fun _ _ _ h => h) (Or.inl ⟨by rfl, ?y98⟩) (by assumption) ?r98
  case y98 => intro w hSw; clear hSw; go_simp; (try with_reducible rfl)
  simp only [Act.put, List.setIfInBounds_toArray, List.set_cons_zero, List.set_cons_succ]
  refine wpAnyH_take (i := 2) (oi := ⟨some 10, _, _, _, _, _⟩) (v := ?v99) rfl (by kernel_rfl) (by kernel_rfl) (by kernel_rfl) (fun _ _ _ h => h) (Or.inl ⟨by rfl, ?y99⟩) (by assumption) ?r99
  case y99 => intro w hSw; clear hSw; go_simp; (try with_reducible rfl)
  simp only [Act.put, List.setIfInBounds_toArray, List.set_cons_zero, List.set_cons_succ]
  refine wpAnyH_take (i := 3) (oi := ⟨some 11, _, _, _, _, _⟩) (v := ?v100) rfl (by kernel_rfl) (by kernel_rfl) (by kernel_rfl) (fun _ _ _ h => h) (Or.inl ⟨by rfl, ?y100⟩) (by assumption) ?r100
  case y100 => intro w hSw; clear hSw; go_simp; (try with_reducible rfl)
  simp only [Act.put, List.setIfInBounds_toArray, List.set_cons_zero, List.set_cons_succ]
  refine wpAnyH_take (i := 5) (oi := ⟨some 13, _, _, _, _, _⟩) (v := ?v101) rfl (by kernel_rfl) (by kernel_rfl) (by kernel_rfl) (fun _ _ _ h => h) (Or.inl ⟨by rfl, ?y101⟩) (by assumption) ?r101
  case y101 => intro w hSw; clear hSw; go_simp; (try with_reducible rfl)
  simp only [Act.put, List.setIfInBounds_toArray, List.set_cons_zero, List.set_cons_succ]
  refine wpAnyH_take (i := 6) (oi := ⟨some 14, _, _, _, _, _⟩) (v := ?v102) rfl (by kernel_rfl) (by kernel_rfl) (by kernel_rfl) (fun _ _ _ h => h) (Or.inl ⟨by rfl, ?y102⟩) (by assumption) ?r102
  case y102 => intro w hSw; skip; go_simp; (try with_reducible rfl)
  simp only [Act.put, List.setIfInBounds_toArray, List.set_cons_zero, List.set_cons_succ]
  refine wpAnyH_ready (rs := [4]) (by kernel_rfl) (by simp) ?_
  refine AllReadyH.cons (o := ⟨some 12, _, _, _, _, _⟩) rfl (fun K hK => ?_) AllReadyH.nil
  go_simp
  refine hK.out _ _ hHeld (fun hHeld => ?_)
  clear hK
  try simp only [List.setIfInBounds_toArray, List.set_cons_zero, List.set_cons_succ]
  refine wpAnyH_ready (rs := [7]) (by kernel_rfl) (by simp) ?_
  refine AllReadyH.cons (o := ⟨some 15, _, _, _, _, _⟩) rfl (fun K hK => ?_) AllReadyH.nil
  go_simp
  refine (HA.out _).mono ?_
  rintro e w_ ⟨rfl, rfl⟩
  go_wp2_with fail
  refine hK.out _ _ hHeld (fun hHeld => ?_)
  clear hK
  try simp only [List.setIfInBounds_toArray, List.set_cons_zero, List.set_cons_succ]
  refine wpAnyH_take (i := 8) (oi := ⟨some 16, _, _, _, _, _⟩) (v := ?v103) rfl (by kernel_rfl) (by kernel_rfl) (by kernel_rfl) (fun _ _ _ h => h) (Or.inl ⟨by rfl, ?y103⟩) (by assumption) ?r103
  case y103 => intro w hSw; clear hSw; go_simp; (try with_reducible rfl)
  simp only [Act.put, List.setIfInBounds_toArray, List.set_cons_zero, List.set_cons_succ]
  refine wpAnyH_take (i := 9) (oi := ⟨some 17, _, _, _, _, _⟩) (v := ?v104) rfl (by kernel_rfl) (by kernel_rfl) (by kernel_rfl) (fun _ _ _ h => h) (Or.inl ⟨by rfl, ?y104⟩) (by assumption) ?r104
  case y104 => intro w hSw; clear hSw; go_simp; (try with_reducible rfl)
  simp only [Act.put, List.setIfInBounds_toArray, List.set_cons_zero, List.set_cons_succ]
  refine wpAnyH_ready (rs := [10]) (by kernel_rfl) (by simp) ?_
  refine AllReadyH.cons (o := ⟨none, _, _, _, _, _⟩) rfl (fun K hK => ?_) AllReadyH.nil
  go_simp
  refine hK.out _ _ Z_ (fun hHeld => ?_)
  clear hK
  try simp only [List.setIfInBounds_toArray, List.set_cons_zero, List.set_cons_succ]
  refine wpAnyH_done (by kernel_rfl) ?_ _
  have M1 : Hid (RMut W B Q { s with acked := Pl.addS s.acked ac } k X ((w0.setCell ⟨Q.m, 21, none⟩ (.int .u64 ((Pl.addS s.acked ac : Nat) : Int))).drew)) := Y_
  clear M0 M0d X_ Y_ Z_
  try clear hHeld
  generalize (w0.setCell ⟨Q.m, 21, none⟩ (.int .u64 ((Pl.addS s.acked ac : Nat) : Int))).drew = w1 at *
  go_wp2_with fail
  have M1d := Lib.hid M1.out.drew
  have X_ := rx_of M1d
  have Y_ := Lib.hid (M1d.out.set (s' := { s with acked := Pl.addS s.acked ac, lost := Pl.addS s.lost lo }) 22 (.int .u64 ((Pl.addS s.lost lo : Nat) : Int)) (fun _ => rfl) rfl rfl)
  have Z_ := rx_of Y_
  refine wp_region_held_drew (S := (fun w' => Hid (RMX W B Q X w'))) (by kernel_rfl) X_ (fun hHeld => ?_)
  simp only [List.size_toArray, List.length_cons, List.length_nil, Nat.reduceAdd, Array.replicate_succ, Array.replicate_zero, List.push_toArray, List.nil_append, List.cons_append]
  refine wpAnyH_take (i := 0) (oi := ⟨some 18, _, _, _, _, _⟩) (v := ?v105) rfl (by kernel_rfl) (by kernel_rfl) (by kernel_rfl) (fun _ _ _ h => h) (Or.inl ⟨by rfl, ?y105⟩) (by assumption) ?r105
  case y105 => intro w hSw; clear hSw; go_simp; (try with_reducible rfl)
  simp only [Act.put, List.setIfInBounds_toArray, List.set_cons_zero, List.set_cons_succ]
  refine wpAnyH_take (i := 1) (oi := ⟨some 19, _, _, _, _, _⟩) (v := ?v106) rfl (by kernel_rfl) (by kernel_rfl) (by kernel_rfl) (fun _ _ _ h => h) (Or.inl ⟨by rfl, ?y106⟩) (by assumption) ?r106
  case y106 => intro w hSw; clear hSw; go_simp; (try with_reducible rfl)
  simp only [Act.put, List.setIfInBounds_toArray, List.set_cons_zero, List.set_cons_succ]
  refine wpAnyH_take (i := 2) (oi := ⟨some 20, _, _, _, _, _⟩) (v := ?v107) rfl (by kernel_rfl) (by kernel_rfl) (by kernel_rfl) (fun _ _ _ h => h) (Or.inl ⟨by rfl, ?y107⟩) (by assumption) ?r107
  case y107 => intro w hSw; clear hSw; go_simp; (try with_reducible rfl)
  simp only [Act.put, List.setIfInBounds_toArray, List.set_cons_zero, List.set_cons_succ]
  refine wpAnyH_take (i := 3) (oi := ⟨some 21, _, _, _, _, _⟩) (v := ?v108) rfl (by kernel_rfl) (by kernel_rfl) (by kernel_rfl) (fun _ _ _ h => h) (Or.inl ⟨by rfl, ?y108⟩) (by assumption) ?r108
  case y108 => intro w hSw; clear hSw; go_simp; (try with_reducible rfl)
  simp only [Act.put, List.setIfInBounds_toArray, List.set_cons_zero, List.set_cons_succ]
  refine wpAnyH_take (i := 5) (oi := ⟨some 23, _, _, _, _, _⟩) (v := ?v109) rfl (by kernel_rfl) (by kernel_rfl) (by kernel_rfl) (fun _ _ _ h => h) (Or.inl ⟨by rfl, ?y109⟩) (by assumption) ?r109
  case y109 => intro w hSw; clear hSw; go_simp; (try with_reducible rfl)
  simp only [Act.put, List.setIfInBounds_toArray, List.set_cons_zero, List.set_cons_succ]
  refine wpAnyH_take (i := 6) (oi := ⟨some 24, _, _, _, _, _⟩) (v := ?v110) rfl (by kernel_rfl) (by kernel_rfl) (by kernel_rfl) (fun _ _ _ h => h) (Or.inl ⟨by rfl, ?y110⟩) (by assumption) ?r110
  case y110 => intro w hSw; skip; go_simp; (try with_reducible rfl)
  simp only [Act.put, List.setIfInBounds_toArray, List.set_cons_zero, List.set_cons_succ]
  refine wpAnyH_ready (rs := [4]) (by kernel_rfl) (by simp) ?_
  refine AllReadyH.cons (o := ⟨some 22, _, _, _, _, _⟩) rfl (fun K hK => ?_) AllReadyH.nil
  go_simp
  refine hK.out _ _ hHeld (fun hHeld => ?_)
  clear hK
  try simp only [List.setIfInBounds_toArray, List.set_cons_zero, List.set_cons_succ]
  refine wpAnyH_ready (rs := [7]) (by kernel_rfl) (by simp) ?_
  refine AllReadyH.cons (o := ⟨some 25, _, _, _, _, _⟩) rfl (fun K hK => ?_) AllReadyH.nil
  go_simp
  refine (HB.out _).mono ?_
  rintro e w_ ⟨rfl, rfl⟩
  go_wp2_with fail
  refine hK.out _ _ hHeld (fun hHeld => ?_)
  clear hK
  try simp only [List.setIfInBounds_toArray, List.set_cons_zero, List.set_cons_succ]
  refine wpAnyH_take (i := 8) (oi := ⟨some 26, _, _, _, _, _⟩) (v := ?v111) rfl (by kernel_rfl) (by kernel_rfl) (by kernel_rfl) (fun _ _ _ h => h) (Or.inl ⟨by rfl, ?y111⟩) (by assumption) ?r111
  case y111 => intro w hSw; clear hSw; go_simp; (try with_reducible rfl)
  simp only [Act.put, List.setIfInBounds_toArray, List.set_cons_zero, List.set_cons_succ]
  refine wpAnyH_take (i := 9) (oi := ⟨some 27, _, _, _, _, _⟩) (v := ?v112) rfl (by kernel_rfl) (by kernel_rfl) (by kernel_rfl) (fun _ _ _ h => h) (Or.inl ⟨by rfl, ?y112⟩) (by assumption) ?r112
  case y112 => intro w hSw; clear hSw; go_simp; (try with_reducible rfl)
  simp only [Act.put, List.setIfInBounds_toArray, List.set_cons_zero, List.set_cons_succ]
  refine wpAnyH_ready (rs := [10]) (by kernel_rfl) (by simp) ?_
  refine AllReadyH.cons (o := ⟨none, _, _, _, _, _⟩) rfl (fun K hK => ?_) AllReadyH.nil
  go_simp
  refine hK.out _ _ Z_ (fun hHeld => ?_)
  clear hK
  try simp only [List.setIfInBounds_toArray, List.set_cons_zero, List.set_cons_succ]
  refine wpAnyH_done (by kernel_rfl) ?_ _
  have M2 : Hid (RMut W B Q { s with acked := Pl.addS s.acked ac, lost := Pl.addS s.lost lo } k X ((w1.setCell ⟨Q.m, 22, none⟩ (.int .u64 ((Pl.addS s.lost lo : Nat) : Int))).drew)) := Y_
  clear M1 M1d X_ Y_ Z_
  try clear hHeld
  generalize (w1.setCell ⟨Q.m, 22, none⟩ (.int .u64 ((Pl.addS s.lost lo : Nat) : Int))).drew = w2 at *
  go_wp2_with fail
  have M2d := Lib.hid M2.out.drew
  have X_ := rx_of M2d
  go_region_held3 (fun w' => Hid (RMX W B Q X w'))
    (first | with_reducible exact X_ | with_reducible exact Z_)
    (first
      | (go_at_call 93; (with_reducible refine (HT.out _ M2d.out.at_).mono ?_); rintro e w3 ⟨er, hp⟩; obtain rfl := hp.e; have M3 := Lib.hid (M2d.out.step hp); have Z_ := rx_of M3; clear hp))
  clear M2 M2d X_ Z_ HT
  have V_ := rx_of M3
  go_wp2_with fail
  have M3d := Lib.hid M3.out.drew
  have X_ := rx_of M3d
  go_region_held3 (fun w' => Hid (RMX W B Q X w'))
    (first | with_reducible exact X_ | with_reducible exact Z_)
    (first
      | (go_at_call 94; (with_reducible refine (HP.out _ M3d.out.at_).mono ?_); rintro e w4 ⟨er, hp⟩; obtain rfl := hp.e; have M4 := Lib.hid (M3d.out.step hp); have Z_ := rx_of M4; clear hp))
  clear M3 M3d X_ Z_ HP
  have V_ := rx_of M4
  go_wp2_with fail
  have M4d := Lib.hid M4.out.drew
  have X_ := rx_of M4d
  go_region_held3 (fun w' => Hid (RMX W B Q X w'))
    (first | with_reducible exact X_ | with_reducible exact Z_ | with_reducible assumption)
    (first
      | (go_at_call 96; (with_reducible refine (HS.out _).mono ?_); rintro e w' ⟨rfl, rfl⟩)
      | (go_at_call 95; (with_reducible refine (HC.out _ M4d.out.at_).mono ?_); rintro e w5 hp; obtain rfl := hp.e; have M5 := Lib.hid (M4d.out.step hp); have Z_ := rx_of M5; clear hp))
  clear M4 M4d X_ Z_ HC HS V_
  have V_ := rx_of M5
  go_wp2_with fail
  have M6 := Lib.hid M5.out.drew
  have X_ := rx_of M6
  go_region_held3 (fun w' => Hid (RMX W B Q X w'))
    (first | with_reducible exact X_ | with_reducible assumption)
    (first
      | (go_at_call 65; (with_reducible refine (HY.out _ M6.out.at_).mono ?_); rintro e w' ⟨rfl, rfl⟩))
  clear M5 V_ HY
  generalize w5.drew = w6 at *
  go_wp2_with fail
  have r21 := rm_e (W := W) (B := B) (k := k + 1) (Q := Q) (s := { s with acked := Pl.addS s.acked ac, lost := Pl.addS s.lost lo, f := s.f.put now rt, n := s.n.ackS (Pl.subS dl sd) dl }) (x := X) (i := 21) (u := .int .u64 ((Pl.addS s.acked ac : Nat) : Int)) (fun _ => rfl)
  have r22 := rm_e (W := W) (B := B) (k := k + 1) (Q := Q) (s := { s with acked := Pl.addS s.acked ac, lost := Pl.addS s.lost lo, f := s.f.put now rt, n := s.n.ackS (Pl.subS dl sd) dl }) (x := X) (i := 22) (u := .int .u64 ((Pl.addS s.lost lo : Nat) : Int)) (fun _ => rfl)
  have r5 := rm_e (W := W) (B := B) (k := k + 1) (Q := Q) (s := { s with acked := Pl.addS s.acked ac, lost := Pl.addS s.lost lo, f := s.f.put now rt, n := s.n.ackS (Pl.subS dl sd) dl }) (x := X) (i := 5) (u := .int .u64 (s.c 5 : Int)) (fun _ => rfl)
  have M9 := Lib.hid M6.out.drew
  have hd2 : decide (((Pl.mulS (s.c 5) (Pl.addS (Pl.addS s.acked ac) (Pl.addS s.lost lo)) : Nat) : Int) < ((Pl.mulS (Pl.addS s.lost lo) 1000 : Nat) : Int)) = ll := by rw [← hll]; exact decide_eq_decide.2 (by omega)
  generalize Pl.mulS (s.c 5) (Pl.addS (Pl.addS s.acked ac) (Pl.addS s.lost lo)) = m2 at *
  generalize Pl.mulS (Pl.addS s.lost lo) 1000 = m1 at *
  go_region_held3 (fun w' => Hid (RMut W B Q { s with acked := Pl.addS s.acked ac, lost := Pl.addS s.lost lo, f := s.f.put now rt, n := s.n.ackS (Pl.subS dl sd) dl } (k + 1) X w'))
    (first | with_reducible exact M9 | with_reducible assumption)
    (first
      | (go_at_call 98; (with_reducible refine (HM1.out _).mono ?_); rintro e w' ⟨rfl, rfl⟩)
      | (go_at_call 92; (with_reducible refine (HM2.out _).mono ?_); rintro e w' ⟨rfl, rfl⟩)
      | (go_at_call 98; (with_reducible refine (HM3.out _).mono ?_); rintro e w' ⟨rfl, rfl⟩))
  generalize w6.drew = w9 at *
  clear M6 HM1 HM2 HM3
  have g21 := M9.out.at_.cell (i := 21) (u := .int .u64 ((Pl.addS s.acked ac : Nat) : Int)) (fun _ => rfl)
  have g22 := M9.out.at_.cell (i := 22) (u := .int .u64 ((Pl.addS s.lost lo : Nat) : Int)) (fun _ => rfl)
  have g8 := M9.out.at_.cell (i := 8) (u := .int .u64 (s.rounds : Int)) (fun _ => rfl)
  have f21 := M9.out.at_.free 21
  have f22 := M9.out.at_.free 22
  have f8 := M9.out.at_.free 8
  have M10 := Lib.hid ((M9.out.set (s' := { s with acked := 0, lost := Pl.addS s.lost lo, f := s.f.put now rt, n := s.n.ackS (Pl.subS dl sd) dl }) 21 (.int .u64 0) (fun _ => rfl) rfl rfl).set (s' := { s with acked := 0, lost := 0, f := s.f.put now rt, n := s.n.ackS (Pl.subS dl sd) dl }) 22 (.int .u64 0) (fun _ => rfl) rfl rfl)
  have M11 := Lib.hid (M10.out.set (s' := { s with acked := 0, lost := 0, f := s.f.put now rt, n := s.n.ackS (Pl.subS dl sd) dl, rounds := Pl.addS s.rounds 1 }) 8 (.int .u64 ((Pl.addS s.rounds 1 : Nat) : Int)) (fun _ => rfl) rfl rfl)
  have X_ := rx_of M11
  have b6 := v6 _ X_
  go_wp2_with fail
  refine (HR.out _).mono ?_
  rintro e w' ⟨rfl, rfl⟩
  go_wp2_with fail
  clear g21 g22 g8 f21 f22 f8 M9 M10 b6
  generalize ((w9.setCell ⟨Q.m, 21, none⟩ (.int .u64 0)).setCell ⟨Q.m, 22, none⟩ (.int .u64 0)).setCell ⟨Q.m, 8, none⟩ (.int .u64 ((Pl.addS s.rounds 1 : Nat) : Int)) = w10 at *
  have M12 := Lib.hid M11.out.drew
  have X12 := rx_of M12
  go_region_held3 (fun w' => Hid (RMX W B Q X w'))
    (first | with_reducible exact X12 | with_reducible assumption | with_reducible exact Z_)
    (first
      | (go_at_call 65; (with_reducible refine (HY2.out _ M12.out.at_).mono ?_); rintro e w' ⟨rfl, rfl⟩)
      | (go_at_call 99; (with_reducible refine (HW.out _ M12.out.at_).mono ?_); rintro e w13 hp; obtain rfl := hp.e; have M13 := Lib.hid (M12.out.step hp); have Z_ := rx_of M13; clear hp))
  go_wp2_with fail
  go_ret2
  exact M13.out.post

theorem rz_read {B k j : Nat} {Q : QP} {s : ES} (x : EvS) (hx : x.ok) (W : World) (h : RefAt W B Q s k) (ho : s.ok j) (hj : j ≤ 900) (hk : k ≤ 890) :
    Calls Tryz.prog 44 #[.pointer (some ⟨Q.m, 0, none⟩), x.val] W (RPost B Q (.returned (.tuple #[.bool (s.eo x), .bool (s.el x)])) (s.e4 x) (k + 2) W) := by
  have up : ∀ {w v e s'} (i : Nat), i ≤ k + 2 → RPost B Q v s' i W e w → RPost B Q v s' (k + 2) W e w := fun i hi q => ⟨q.e, q.at_.more hi, q.bel, q.kq⟩
  obtain ⟨now, sd, si, sr, rt, sl, sm, dl, ac, lo, fl⟩ := x
  cases sm with
  | false =>
    exact (rz_read_n hx W h ho hj hk rfl).mono fun e w q => up k (by omega) q
  | true =>
    have e0 : s.eo ⟨now, sd, si, sr, rt, sl, true, dl, ac, lo, fl⟩ = s.n.ackB (Pl.subS dl sd) := rfl
    cases hov : s.n.ackB (Pl.subS dl sd) with
    | false =>
      rw [hov] at e0
      have e1 : s.el ⟨now, sd, si, sr, rt, sl, true, dl, ac, lo, fl⟩ = false := by unfold ES.el; rw [e0]; rfl
      rw [e0, e1]
      cases sl with
      | false => exact (rz_read_ff hx W h ho hj hk hov rfl).mono fun e w q => up (k + 1 + 1) (by omega) (by simpa [ES.e4, ES.e3, ES.eo, ES.over, ES.count, ES.mea, ES.rput, ES.pput, hov] using q)
      | true =>
        by_cases hb : s.y.best ≤ sr
        · exact (rz_read_yf hx W h ho hj hk hov hb rfl).mono fun e w q => up (k + 1 + 1) (by omega) (by simpa [ES.e4, ES.e3, ES.eo, ES.over, ES.count, ES.mea, ES.rput, ES.pput, hov, hb] using q)
        · exact (rz_read_xf hx W h ho hj hk hov hb rfl).mono fun e w q => up (k + 1) (by omega) (by simpa [ES.e4, ES.e3, ES.eo, ES.over, ES.count, ES.mea, ES.rput, ES.pput, hov, hb] using q)
    | true =>
      rw [hov] at e0
      cases sl with
      | false => exact (rz_read_ft hx W h ho hj hk hov rfl).mono fun e w q => up (k + 1 + 1) (by omega) (by simpa [ES.e4, ES.e3, ES.eo, ES.el, ES.lossy, ES.settle, ES.over, ES.count, ES.mea, ES.rput, ES.pput, hov] using q)
      | true =>
        by_cases hb : s.y.best ≤ sr
        · exact (rz_read_yt hx W h ho hj hk hov hb rfl).mono fun e w q => up (k + 1 + 1) (by omega) (by simpa [ES.e4, ES.e3, ES.eo, ES.el, ES.lossy, ES.settle, ES.over, ES.count, ES.mea, ES.rput, ES.pput, hov, hb] using q)
        · exact (rz_read_xt hx W h ho hj hk hov hb rfl).mono fun e w q => up (k + 1) (by omega) (by simpa [ES.e4, ES.e3, ES.eo, ES.el, ES.lossy, ES.settle, ES.over, ES.count, ES.mea, ES.rput, ES.pput, hov, hb] using q)
end Go.Proofs.YtpkbjfhicocogaaGreatDoor
