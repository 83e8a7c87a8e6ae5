/- Contracts of package ring over this translation, for rows of goit/jitter.parcel: narrow, At. -/
import Derived.Test.YtlhgiboajnhahaaJub
set_option linter.unusedVariables false
namespace Go.Proofs.Ytlhgiboajnhahaa
open Go.RowKit

set_option maxHeartbeats 400000 in
theorem jp_narrow (b g : Nat) (s : QS Jp) (w : World) (h : JpAt w b g s) (ho : s.ok) :
    Calls Try.prog 32 #[.pointer (some ⟨b, 0, none⟩)] w (JpPost w b g (.returned (.tuple #[])) s.narrow) := by
  have HH := Lib.hid h
  have HO := Lib.hid ho
  have c0 := h.head.cell (i := 0) (v := .slice (some ⟨g, 0, none⟩) s.pl.length s.pl.length) rfl
  have c2 := h.head.cell (i := 2) (v := .int .i64 (s.cnt : Int)) rfl
  have hm := ho.m
  have hc := ho.c
  clear h ho
  by_cases a : 0 < s.cnt
  · by_cases d : s.cnt ≤ s.pl.length / 4
    · have HE : Hid (s.narrow = s.move (s.pl.length / 2)) := Lib.hid (if_pos ⟨a, d⟩)
      have d1 : decide ((s.cnt : Int) ≤ (s.pl.length : Int) / 4) = true := by simp; omega
      go_enter Try.func32, Try.ntmps32
      go_wp2_with fail
      go_quiet (fail)
      have HD : Hid (Drawn w (w.drewN nq)) := Lib.hid ⟨nq, rfl⟩
      have e0 := (HD.out.cell _).trans c0
      generalize w.drewN nq = w1 at *
      go_wp2_with fail
      have e : ((s.pl.length : Int) / 2) = ((s.pl.length / 2 : Nat) : Int) := by omega
      rw [e]
      clear e
      refine (jp_move b g (s.pl.length / 2) s w1 (JpAt.drawn HD.out HH.out) HO.out (by omega) (by omega)).mono ?_
      rintro e w2 ⟨rfl, hat, hmv⟩
      have HA := Lib.hid hat
      have HM := Lib.hid hmv
      clear hat hmv
      go_wp2_with fail
      go_end0
      obtain ⟨g', h1, h2⟩ := HA.out
      rw [HE.out]
      exact ⟨rfl, ⟨g', h1, by rw [HD.out.heap] at h2; exact h2⟩, ((Mv.refl w b g).drawn HD.out).trans HM.out (.inl rfl)⟩
    · have HE : Hid (s.narrow = s) := Lib.hid (if_neg (fun k => d k.2))
      have d1 : decide ((s.cnt : Int) ≤ (s.pl.length : Int) / 4) = false := by simp; omega
      go_enter Try.func32, Try.ntmps32
      go_wp2_with fail
      go_quiet (fail)
      have HD : Hid (Drawn w (w.drewN nq)) := Lib.hid ⟨nq, rfl⟩
      go_wp2_with fail
      go_end0
      rw [HE.out]
      exact ⟨rfl, ⟨g, JpAt.drawn HD.out HH.out, .inl rfl⟩, (Mv.refl w b g).drawn HD.out⟩
  · have HE : Hid (s.narrow = s) := Lib.hid (if_neg (fun k => a k.1))
    have d0 : decide ((0 : Int) < (s.cnt : Int)) = false := by simp; omega
    have d1 : decide (0 < s.cnt) = false := by simp; omega
    go_enter Try.func32, Try.ntmps32
    go_wp2_with fail
    go_quiet (fail)
    have HD : Hid (Drawn w (w.drewN nq)) := Lib.hid ⟨nq, rfl⟩
    go_wp2_with fail
    go_end0
    rw [HE.out]
    exact ⟨rfl, ⟨g, JpAt.drawn HD.out HH.out, .inl rfl⟩, (Mv.refl w b g).drawn HD.out⟩

/-- The answer (x, ok) of a call. -/
def jpgot (x : Jp) (ok : Bool) : Ending := .returned (.tuple #[x.agg, .bool ok])

set_option maxHeartbeats 1000000 in
theorem jp_At (b g i : Nat) (s : QS Jp) (w : World) (h : JpAt w b g s) (ho : s.ok) (hi : i < s.cnt) :
    Calls Try.prog 22 #[.pointer (some ⟨b, 0, none⟩), .int .i64 (i : Int)] w fun e w' => e = jpgot (s.get i) true ∧ Below w.heap.size w w' := by
  have HO := Lib.hid ho
  have HB := Lib.hid (show Blk (w.alloc (.cells #[.int .u64 0, .int .u64 0, .int .u64 0, .int .u64 0, .int .u64 0, .int .u64 0, .bool false, .int .u64 0] 53)) w.heap.size 53 #[.int .u64 0, .int .u64 0, .int .u64 0, .int .u64 0, .int .u64 0, .int .u64 0, .bool false, .int .u64 0] from Blk.new _ _ _)
  have HH := Lib.hid (h.alloc (.cells #[.int .u64 0, .int .u64 0, .int .u64 0, .int .u64 0, .int .u64 0, .int .u64 0, .bool false, .int .u64 0] 53))
  have HW : Hid (Below w.heap.size w (w.alloc (.cells #[.int .u64 0, .int .u64 0, .int .u64 0, .int .u64 0, .int .u64 0, .int .u64 0, .bool false, .int .u64 0] 53))) := Lib.hid ((Below.refl _ _).alloc (Nat.le_refl _) _)
  have HZ : Hid (g ≠ w.heap.size) := Lib.hid h.body.old
  have HZ2 : Hid (b ≠ w.heap.size) := Lib.hid h.head.old
  have hp : 0 < s.pl.length := by have := ho.c; omega
  have hpl := QS.pos_lt hp i
  have hc := ho.c
  have hm := ho.m
  have a0 := HH.out.head.drew.cell (i := 0) (v := .slice (some ⟨g, 0, none⟩) s.pl.length s.pl.length) rfl
  have r0 : (w.alloc (.cells #[.int .u64 0, .int .u64 0, .int .u64 0, .int .u64 0, .int .u64 0, .int .u64 0, .bool false, .int .u64 0] 53)).drew.rangeAt g (s.pos i * 8) (Itm.cs (s.get i)) := HH.out.body.drew.range (k := 8) rfl hpl
  have t0 : (w.alloc (.cells #[.int .u64 0, .int .u64 0, .int .u64 0, .int .u64 0, .int .u64 0, .int .u64 0, .bool false, .int .u64 0] 53)).drew.there w.heap.size 0 8 := HB.out.drew.there (by decide)
  have HP := Lib.hid (fun (w : World) h => jp_place b g i s w h HO.out hp (by omega))
  have HL := Lib.hid (jp_Len b g s (w.alloc (.cells #[.int .u64 0, .int .u64 0, .int .u64 0, .int .u64 0, .int .u64 0, .int .u64 0, .bool false, .int .u64 0] 53)) HH.out)
  have HX : Hid (jpgot (s.get i) true = .returned (.tuple #[.agg (Itm.cs (s.get i)).toArray, .bool true])) := Lib.hid rfl
  have i3 : (0 : Int) ≤ ((s.pos i : Nat) : Int) := by omega
  have i4 : ((s.pos i : Nat) : Int) < (s.pl.length : Int) := by omega
  have d0 : decide ((i : Int) < 0) = false := by simp
  have d1 : decide (s.cnt ≤ i) = false := by simp; omega
  have hu := Try.underlying53
  have hl : (Itm.cs (s.get i)).length = 8 := Itm.len _
  have h1 : ∀ v ∈ Itm.cs (s.get i), v.oneCell' = true := Itm.one _
  clear h ho hi
  have hi := jp_inf (s.get i)
  generalize jpgot (s.get i) true = ans at *
  generalize Itm.cs (s.get i) = xc at *
  generalize s.pos i = p at *
  go_enter Try.func22, Try.ntmps22
  go_wp2_with (go_at_call 24; refine (HL.out).mono ?_; rintro e w' ⟨rfl, rfl⟩)
  generalize (w.alloc (.cells #[.int .u64 0, .int .u64 0, .int .u64 0, .int .u64 0, .int .u64 0, .int .u64 0, .bool false, .int .u64 0] 53)) = wa at *
  refine wp_region_held_drew (S := (fun w' => w'.cell? ⟨b, 0, none⟩ = some (.slice (some ⟨g, 0, none⟩) s.pl.length s.pl.length) ∧ w'.rangeAt g (p * 8) xc ∧ w'.there w.heap.size 0 8)) (by kernel_rfl) ⟨a0, r0, t0⟩ (fun hHeld => ?_)
  simp only [List.size_toArray, List.length_cons, List.length_nil, Nat.reduceAdd, Array.replicate_succ, Array.replicate_zero, List.push_toArray, List.nil_append, List.cons_append]
  refine wpAnyH_take (i := 0) (oi := ⟨some 15, _, _, _, _, _⟩) (v := ?v20) rfl (by kernel_rfl) (by kernel_rfl) (by kernel_rfl) (fun _ _ _ h => h) (Or.inl ⟨by rfl, ?y20⟩) (by assumption) ?r20
  case y20 => intro w hSw; clear hSw; go_simp; (try with_reducible rfl)
  simp only [Act.put, List.setIfInBounds_toArray, List.set_cons_zero, List.set_cons_succ]
  refine wpAnyH_take (i := 1) (oi := ⟨some 16, _, _, _, _, _⟩) (v := ?v21) rfl (by kernel_rfl) (by kernel_rfl) (by kernel_rfl) (fun _ _ _ h => h) (Or.inl ⟨by rfl, ?y21⟩) (by assumption) ?r21
  case y21 => intro w hSw; clear hSw; go_simp; (try with_reducible rfl)
  simp only [Act.put, List.setIfInBounds_toArray, List.set_cons_zero, List.set_cons_succ]
  refine wpAnyH_take (i := 2) (oi := ⟨some 17, _, _, _, _, _⟩) (v := ?v22) rfl (by kernel_rfl) (by kernel_rfl) (by kernel_rfl) (fun _ _ _ h => h) (Or.inl ⟨by rfl, ?y22⟩) (by assumption) ?r22
  case y22 => intro w hSw; clear hSw; go_simp; (try with_reducible rfl)
  simp only [Act.put, List.setIfInBounds_toArray, List.set_cons_zero, List.set_cons_succ]
  refine wpAnyH_take (i := 3) (oi := ⟨some 18, _, _, _, _, _⟩) (v := ?v23) rfl (by kernel_rfl) (by kernel_rfl) (by kernel_rfl) (fun _ _ _ h => h) (Or.inl ⟨by rfl, ?y23⟩) (by assumption) ?r23
  case y23 => intro w hSw; obtain ⟨s0, s1, s2⟩ := hSw; go_simp; (try with_reducible rfl)
  simp only [Act.put, List.setIfInBounds_toArray, List.set_cons_zero, List.set_cons_succ]
  refine wpAnyH_take (i := 4) (oi := ⟨some 19, _, _, _, _, _⟩) (v := ?v24) rfl (by kernel_rfl) (by kernel_rfl) (by kernel_rfl) (fun _ _ _ h => h) (Or.inl ⟨by rfl, ?y24⟩) (by assumption) ?r24
  case y24 => intro w hSw; clear hSw; go_simp; (try with_reducible rfl)
  simp only [Act.put, List.setIfInBounds_toArray, List.set_cons_zero, List.set_cons_succ]
  refine wpAnyH_take (i := 5) (oi := ⟨some 20, _, _, _, _, _⟩) (v := ?v25) rfl (by kernel_rfl) (by kernel_rfl) (by kernel_rfl) (fun _ _ _ h => h) (Or.inl ⟨by rfl, ?y25⟩) (by assumption) ?r25
  case y25 => intro w hSw; clear hSw; go_simp; (try with_reducible rfl)
  simp only [Act.put, List.setIfInBounds_toArray, List.set_cons_zero, List.set_cons_succ]
  refine wpAnyH_ready (rs := [6]) (by kernel_rfl) (by simp) ?_
  refine AllReadyH.cons (o := ⟨some 21, _, _, _, _, _⟩) rfl (fun K hK => ?_) AllReadyH.nil
  go_simp
  refine (HP.out _ (JpAt.drawn (Drawn.drew wa) HH.out)).mono ?_
  rintro e w' ⟨rfl, hd⟩
  have HD := Lib.hid hd
  clear hd
  have b0 := (HD.out.cell _).trans a0
  have r1 := dr_range HD.out r0
  have t1 := dr_there HD.out t0
  go_wp2_with fail
  refine hK.out _ _ ⟨b0, r1, t1⟩ (fun hHeld => ?_)
  clear hK
  try simp only [List.setIfInBounds_toArray, List.set_cons_zero, List.set_cons_succ]
  refine wpAnyH_take (i := 7) (oi := ⟨some 22, _, _, _, _, _⟩) (v := ?v26) rfl (by kernel_rfl) (by kernel_rfl) (by kernel_rfl) (fun _ _ _ h => h) (Or.inl ⟨by rfl, ?y26⟩) (by assumption) ?r26
  case y26 => intro w hSw; clear hSw; go_simp; (try with_reducible rfl)
  simp only [Act.put, List.setIfInBounds_toArray, List.set_cons_zero, List.set_cons_succ]
  refine' wpAnyH_take (i := 8) (oi := ⟨some 23, _, _, _, _, _⟩) (v := _) rfl (by kernel_rfl) (by kernel_rfl) (by kernel_rfl) (fun _ _ _ h => h) (yieldsIf_load_mid (by rfl) _ _ rfl _ _ rfl _ _ ?hS27 hu rfl hi) (by assumption) ?r27
  case hS27 => intro w hSw; exact hSw.2.1
  simp only [Act.put, List.setIfInBounds_toArray, List.set_cons_zero, List.set_cons_succ]
  refine wpAnyH_ready (rs := [9]) (by kernel_rfl) (by simp) ?_
  refine AllReadyH.cons (o := ⟨none, _, _, _, _, _⟩) rfl (fun K hK => ?_) AllReadyH.nil
  rw [if_pos (by rfl)]
  refine wp_store_mid _ _ _ rfl _ _ (List.toArray _) rfl rfl (by have e := hl; rw [← List.size_toArray] at e; rw [e]; exact t1) (by rw [List.size_toArray]; exact hi) (all_oneCell_toArray h1) ?_
  dsimp only
  refine hK.out _ _ ⟨cell_sets b0 HZ2.out, World.rangeAt_setCells_apart r1 _ _ _ (.inl HZ.out), World.there_setCells t1 _ _ _⟩ (fun hHeld => ?_)
  clear hK
  try simp only [List.setIfInBounds_toArray, List.set_cons_zero, List.set_cons_succ]
  refine wpAnyH_take (i := 10) (oi := ⟨some 5, _, _, _, _, _⟩) (v := ?v28) rfl (by kernel_rfl) (by kernel_rfl) (by kernel_rfl) (fun _ _ _ h => h) (Or.inl ⟨by rfl, ?y28⟩) (by assumption) ?r28
  case y28 => intro w hSw; clear hSw; go_simp; (try with_reducible rfl)
  simp only [Act.put, List.setIfInBounds_toArray, List.set_cons_zero, List.set_cons_succ]
  refine wpAnyH_done (by kernel_rfl) ?_ _
  have hD : Drawn wa w' := (Drawn.drew wa).more HD.out
  have F1 : Blk (w'.setCells w.heap.size 0 xc) w.heap.size 53 xc.toArray := Blk.whole xc (hD.blk HB.out) hl
  have F2 : Below w.heap.size w (w'.setCells w.heap.size 0 xc) := Below.sets (Nat.le_refl _) xc 0 w' (HW.out.trans (hD.below _))
  go_wp2_with fail
  rw [HX.out]
  exact bodyPost_ret (results_cell_tmp rfl _ _ w.heap.size 53 _ _ rfl F1 Try.underlying53 rfl (by rw [List.size_toArray]; exact hi)) rfl ⟨rfl, F2⟩

theorem jp_At_out (b g : Nat) (i : Int) (s : QS Jp) (w : World) (h : JpAt w b g s) (hi : i < 0 ∨ (s.cnt : Int) ≤ i) :
    Calls Try.prog 22 #[.pointer (some ⟨b, 0, none⟩), .int .i64 i] w fun e w' => e = jpgot Itm.z false ∧ Below w.heap.size w w' := by
  have HH := Lib.hid (h.alloc (.cells #[.int .u64 0, .int .u64 0, .int .u64 0, .int .u64 0, .int .u64 0, .int .u64 0, .bool false, .int .u64 0] 53))
  have HL := Lib.hid (jp_Len b g s (w.alloc (.cells #[.int .u64 0, .int .u64 0, .int .u64 0, .int .u64 0, .int .u64 0, .int .u64 0, .bool false, .int .u64 0] 53)) HH.out)
  have HB := Lib.hid (show Blk (w.alloc (.cells #[.int .u64 0, .int .u64 0, .int .u64 0, .int .u64 0, .int .u64 0, .int .u64 0, .bool false, .int .u64 0] 53)) w.heap.size 53 #[.int .u64 0, .int .u64 0, .int .u64 0, .int .u64 0, .int .u64 0, .int .u64 0, .bool false, .int .u64 0] from Blk.new _ _ _)
  have HW : Hid (Below w.heap.size w (w.alloc (.cells #[.int .u64 0, .int .u64 0, .int .u64 0, .int .u64 0, .int .u64 0, .int .u64 0, .bool false, .int .u64 0] 53))) := Lib.hid ((Below.refl _ _).alloc (Nat.le_refl _) _)
  clear h
  by_cases c : i < 0
  · have d0 : decide (i < 0) = true := by simpa using c
    go_enter Try.func22, Try.ntmps22
    go_wp2_with (go_at_call 24; refine (HL.out).mono ?_; rintro e w' ⟨rfl, rfl⟩)
    exact bodyPost_ret (results_cell_tmp rfl _ _ w.heap.size 53 _ _ rfl HB.out Try.underlying53 rfl (by kernel_rfl)) rfl ⟨rfl, HW.out⟩
  · have d0 : decide (i < 0) = false := by simpa using c
    have hj : (s.cnt : Int) ≤ i := by omega
    have d1 : decide ((s.cnt : Int) ≤ i) = true := by simpa using hj
    clear hi
    go_enter Try.func22, Try.ntmps22
    go_wp2_with (go_at_call 24; refine (HL.out).mono ?_; rintro e w' ⟨rfl, rfl⟩)
    exact bodyPost_ret (results_cell_tmp rfl _ _ w.heap.size 53 _ _ rfl HB.out Try.underlying53 rfl (by kernel_rfl)) rfl ⟨rfl, HW.out⟩

theorem jp_all (b g : Nat) (l : List Jp) (w : World) (h : ∃ q : QS Jp, q.ok ∧ q.items = l ∧ JpAt w b g q) :
    Calls Try.prog 23 #[.pointer (some ⟨b, 0, none⟩)] w (JpLayPost w l) := by
  obtain ⟨s, ho, rfl, h⟩ := h
  have HL := Lib.hid (jp_lay b g s.cnt s w h ho (Nat.le_refl _) (Nat.le_trans ho.c ho.m))
  have HE : Hid (s.lay s.cnt = s.items) := Lib.hid (by simp [QS.lay])
  have c2 := h.head.cell (i := 2) (v := .int .i64 (s.cnt : Int)) rfl
  rw [HE.out] at HL
  generalize s.items = l at *
  clear h ho HE
  go_enter Try.func23, Try.ntmps23
  go_wp2_with fail
  refine HL.out.mono ?_
  rintro e w1 ⟨rfl, hb, hbel⟩
  go_wp2_with fail
  go_ret
  exact ⟨rfl, hb, hbel⟩
end Go.Proofs.Ytlhgiboajnhahaa
