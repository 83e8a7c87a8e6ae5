/- conf.guess over this translation: the only setup whose text a string may be. -/
import Derived.Test.YtmdfikpngbbdmaaDoorRt
import Derived.Test.YtmdfikpngbbdmaaDoorLb
set_option linter.unusedVariables false
namespace Go.Proofs.YtmdfikpngbbdmaaDoor
open Go.RowKit Go.Shelf Cf
attribute [local go_sem] Oper.semAt_some

def ba (l : List UInt8) : ByteArray := ⟨l.toArray⟩
theorem ba_list (l : List UInt8) : (ba l).data.toList = l := by simp [ba]
theorem ba_size (l : List UInt8) : (ba l).size = l.length := by show (ba l).data.size = _; simp [ba]
theorem ba_data (s : ByteArray) : ba s.data.toList = s := by cases s; simp [ba]

def cutA (l : List UInt8) : List UInt8 := (Lib.cut l [32]).1
def cutB (l : List UInt8) : List UInt8 := (Lib.cut l [32]).2.1
def cutC (l : List UInt8) : Bool := (Lib.cut l [32]).2.2
theorem cutA_len (l : List UInt8) : (cutA l).length ≤ l.length := (cut_len l).1
theorem cutB_len (l : List UInt8) : (cutB l).length ≤ l.length := (cut_len l).2
theorem Cut_ba (l : List UInt8) (hl : l.length ≤ 4294967280) (w : World) (hg : Gl w) :
    Calls Tryd.prog 30 #[.string (ba l), .string ⟨#[32]⟩] w fun e w' => e = .returned (.tuple #[.string (ba (cutA l)), .string (ba (cutB l)), .bool (cutC l)]) ∧ Below w.heap.size w w' := by
  have h := Cut (ba l) (by rw [ba_size]; exact hl) w hg
  rw [ba_list] at h
  exact h
theorem ParseUint_ba (l : List UInt8) (hl : l.length ≤ 4294967280) (w : World) (hg : Gl w) :
    Calls Tryd.prog 31 #[.string (ba l), .int .i64 10, .int .i64 64] w fun e w' => ∃ ev, e = .returned (.tuple #[.int .u64 (numOf l : Int), ev]) ∧ (ev = .nilIface ∨ ∃ t p, ev = .iface t p) ∧ Below w.heap.size w w' := by
  have h := ParseUint (ba l) (by rw [ba_size]; exact hl) w hg
  unfold PuPost at h
  rw [ba_list] at h
  exact h

theorem ccells_set (c : Setup) (x : Fin 6) (n : Nat) : (ccells c).setIfInBounds x.val (.int .u64 (n : Int)) = ccells (upd c x n) :=
  fin6 (fun x => (ccells c).setIfInBounds x.val (.int .u64 (n : Int)) = ccells (upd c x n)) rfl rfl rfl rfl rfl rfl x
theorem kf_of_below {B : Nat} {W W' : World} (hb : Below W.heap.size W W') : KeepsFrom B W W' :=
  ⟨hb.size, fun k o _ hk _ => (hb.block k (Array.getElem?_eq_some_iff.1 hk).1).trans hk⟩

/-- A setup, put into six cells. -/
def put6 (W : World) (b : Nat) (c : Setup) : World :=
  (((((W.setCell ⟨b, 0, none⟩ (.int .u64 (c 0 : Int))).setCell ⟨b, 1, none⟩ (.int .u64 (c 1 : Int))).setCell ⟨b, 2, none⟩ (.int .u64 (c 2 : Int))).setCell ⟨b, 3, none⟩ (.int .u64 (c 3 : Int))).setCell ⟨b, 4, none⟩ (.int .u64 (c 4 : Int))).setCell ⟨b, 5, none⟩ (.int .u64 (c 5 : Int))
theorem put6_blk {W : World} {b : Nat} {T : TypeId} {d : Setup} (c : Setup) (h : Blk W b T (ccells d)) : Blk (put6 W b c) b T (ccells c) :=
  (((((h.set 0 (.int .u64 (c 0 : Int))).set 1 (.int .u64 (c 1 : Int))).set 2 (.int .u64 (c 2 : Int))).set 3 (.int .u64 (c 3 : Int))).set 4 (.int .u64 (c 4 : Int))).set 5 (.int .u64 (c 5 : Int))
theorem put6_ko (W : World) (b : Nat) (c : Setup) : KeepsOthers W (put6 W b c) :=
  (((((KeepsOthers.setCell _ _ _).trans (KeepsOthers.setCell _ _ _)).trans (KeepsOthers.setCell _ _ _)).trans (KeepsOthers.setCell _ _ _)).trans (KeepsOthers.setCell _ _ _)).trans (KeepsOthers.setCell _ _ _)
theorem put6_bel {B : Nat} {A W : World} {b : Nat} (c : Setup) (h : Below B A W) (hb : B ≤ b) : Below B A (put6 W b c) :=
  (((((h.setCell (p := ⟨b, 0, none⟩) hb _).setCell (p := ⟨b, 1, none⟩) hb _).setCell (p := ⟨b, 2, none⟩) hb _).setCell (p := ⟨b, 3, none⟩) hb _).setCell (p := ⟨b, 4, none⟩) hb _).setCell (p := ⟨b, 5, none⟩) hb _
theorem bel_drew (W : World) : Below W.heap.size W W.drew := ⟨rfl, rfl, rfl, Nat.le_refl _, fun _ _ => rfl⟩

/-- What holds in a round of guess: s is the first box, then the result, then the setup. -/
structure GSt (w W0 : World) (B s Bx : Nat) (x : Fin 6) (cur : List UInt8) (c : Setup) (w' : World) : Prop where
  bs : Boxed w' s 9 (.string (ba cur))
  br : Blk w' (s + 1) 24 (ccells fun _ => 0)
  bc : Blk w' (s + 1 + 1) 24 (ccells c)
  bx : Blk w' Bx 43 (fcells (s + 1 + 1) x)
  bel : Below s w w'
  kf : Kf W0 w'
  ko : KeepsFrom B W0 w'
variable {w W0 w1 w2 : World} {B s Bx : Nat} {x : Fin 6} {cur : List UInt8} {c : Setup}
theorem GSt.keep (h : GSt w W0 B s Bx x cur c w1) (hb : Below w1.heap.size w1 w2) : GSt w W0 B s Bx x cur c w2 :=
  ⟨Blk.keep h.bs hb, h.br.keep hb, h.bc.keep hb, h.bx.keep hb, bel_to h.bel hb (Nat.le_of_lt h.bs.lt), h.kf.trans (Kf.below hb), h.ko.trans (kf_of_below hb)⟩
theorem blk_ne {w : World} {a b : Nat} {S T : TypeId} {cs ds : Array Value} (h : Blk w a S cs) (k : Blk w b T ds) (hT : S ≠ T) : a ≠ b := by
  intro e; subst e; unfold Blk at h k; rw [h] at k; simp at k; exact hT k.2
theorem GSt.setS (h : GSt w W0 B s Bx x cur c w1) (cur' : List UInt8) : GSt w W0 B s Bx x cur' c (w1.setCell ⟨s, 0, none⟩ (.string (ba cur'))) :=
  ⟨h.bs.set _, h.br.set_other _ _ (by omega), h.bc.set_other _ _ (by omega), h.bx.set_other _ _ (blk_ne h.bx h.bs (by decide)), h.bel.setCell (p := ⟨s, 0, none⟩) (Nat.le_refl _) _, h.kf.trans (Kf.set _ _ (not_fld h.bs (by decide))), h.ko.trans ((KeepsOthers.setCell _ _ _).from _)⟩
theorem GSt.setC (h : GSt w W0 B s Bx x cur c w1) (n : Nat) : GSt w W0 B s Bx x cur (upd c x n) (w1.setCell ⟨s + 1 + 1, x.val, none⟩ (.int .u64 (n : Int))) :=
  ⟨Blk.set_other h.bs _ _ (by omega), h.br.set_other _ _ (by omega), by have := h.bc.set x.val (.int .u64 (n : Int)); rwa [ccells_set] at this, h.bx.set_other _ _ (blk_ne h.bx h.bc (by decide)), h.bel.setCell (p := ⟨s + 1 + 1, x.val, none⟩) (by show s ≤ s + 1 + 1; omega) _, h.kf.trans (Kf.set _ _ (not_fld h.bc (by decide))), h.ko.trans ((KeepsOthers.setCell _ _ _).from _)⟩

set_option maxRecDepth 100000 in
set_option maxHeartbeats 2000000 in
theorem conf_guess (s0 : List UInt8) (hs0 : s0.length ≤ 4294967280) (w : World) (hg : Gl w) :
    Calls Tryd.prog 19 #[.string (ba s0)] w fun e w' => e = .returned (.agg (ccells (guessC s0))) ∧ Below w.heap.size w w' := by
  refine (callsIn_wide (n := 6)).1 ?_
  refine callsIn_of_wp_marks Tryd.func19 rfl trivial ?_ rfl
  simp only [Tryd.ntmps19, List.size_toArray, List.length_cons, List.length_nil, Nat.reduceAdd, Nat.reduceSub, Array.replicate_succ, Array.replicate_zero, List.push_toArray, List.append_toArray, List.nil_append, List.cons_append]
  have HG := Lib.hid hg
  have HS0 := Lib.hid hs0
  clear hg hs0
  gi_wp2_with (refine ⟨trivial, ?_⟩; gi_at_call 14; refine (fields_in _ _ _).mono ?_; rintro e w' ⟨rfl, rfl⟩)
  have bS := (((Boxed.new w 9 (.string (ba s0))).alloc (.cells (ccells fun _ => 0) 24)).alloc (.cells (ccells fun _ => 0) 24)).alloc (.cells #[.pointer (some ⟨w.heap.size + 1 + 1, 0, none⟩)] 40)
  have bR := ((Blk.new (w.alloc (.cells #[.string (ba s0)] 9)) 24 (ccells fun _ => 0)).alloc (.cells (ccells fun _ => 0) 24)).alloc (.cells #[.pointer (some ⟨w.heap.size + 1 + 1, 0, none⟩)] 40)
  have bC := (Blk.new ((w.alloc (.cells #[.string (ba s0)] 9)).alloc (.cells (ccells fun _ => 0) 24)) 24 (ccells fun _ => 0)).alloc (.cells #[.pointer (some ⟨w.heap.size + 1 + 1, 0, none⟩)] 40)
  have bF := Boxed.new (((w.alloc (.cells #[.string (ba s0)] 9)).alloc (.cells (ccells fun _ => 0) 24)).alloc (.cells (ccells fun _ => 0) 24)) 40 (.pointer (some ⟨w.heap.size + 1 + 1, 0, none⟩))
  have hB0 : Below w.heap.size w ((((w.alloc (.cells #[.string (ba s0)] 9)).alloc (.cells (ccells fun _ => 0) 24)).alloc (.cells (ccells fun _ => 0) 24)).alloc (.cells #[.pointer (some ⟨w.heap.size + 1 + 1, 0, none⟩)] 40)) := ((((Below.refl _ w).alloc (Nat.le_refl _) _).alloc (by simp) _).alloc (by simp; omega) _).alloc (by simp; omega) _
  simp only [World.size_alloc] at bS bR bC bF
  have hcc : (ccells fun _ => 0) = #[.int .u64 0, .int .u64 0, .int .u64 0, .int .u64 0, .int .u64 0, .int .u64 0] := rfl
  rw [hcc] at bS bR bC bF hB0
  refine wpIn_rangeFunc_ownH rfl (by omega) (gf := 24) (lb := #[.pointer (some ⟨w.heap.size + 1 + 1 + 1, 0, none⟩)]) rfl trivial (enters_of Tryd.func24 (by kernel_rfl) rfl)
    (fields_stops 5 (w.heap.size + 1 + 1 + 1) (w.heap.size + 1 + 1) (by omega) _ bF) Kf.trans Kf.putObj (Below.refl _ _) (fun _ => rfl)
    (fun pre W => ((Boxed W w.heap.size 9 (.string (ba (gfold s0 pre).1)) ∧ Blk W (w.heap.size + 1) 24 (ccells fun _ => 0)) ∧ Blk W (w.heap.size + 1 + 1) 24 (ccells (gfold s0 pre).2)) ∧ Below w.heap.size w W)
    (fun _ _ _ => False)
    (OwnFrom.and (OwnFrom.and (OwnFrom.and (Own.from (boxed_own _ _ (fun pre => Value.string (ba (gfold s0 pre).1))) _) (Own.from (blk_own _ _ (fun _ => ccells fun _ => 0)) _)) (Own.from (blk_own _ _ (fun pre => ccells (gfold s0 pre).2)) _)) (ownFrom_below (Nat.le_refl _) (by simp; omega)))
    (fun _ _ _ _ _ hs _ _ => hs)
    ⟨⟨⟨bS, bR⟩, bC⟩, hB0⟩
    (fun x a' W => ∃ Bx, Blk W Bx 43 (fcells (w.heap.size + 1 + 1) x) ∧ a' = { tmps := #[.string (ba s0), .pointer (some ⟨w.heap.size, 0, none⟩), .pointer (some ⟨w.heap.size + 1, 0, none⟩), .pointer (some ⟨w.heap.size + 1 + 1, 0, none⟩), .pointer (some ⟨Bx, 0, none⟩), undef, .func (.func 24) #[] #[.pointer (some ⟨w.heap.size + 1 + 1 + 1, 0, none⟩)], .agg (fcells (w.heap.size + 1 + 1) x), undef, undef, undef, undef, undef, undef, undef, undef, undef, undef, undef, undef, undef, undef, undef, undef, undef, undef, undef, undef, undef], defers := [] })
    (fun x a' _ X Y row hs hg hr => by obtain ⟨Bx, h2, h3⟩ := hs; exact ⟨Bx, blk_own Bx 43 (fun (_ : Unit) => fcells (w.heap.size + 1 + 1) x) () X Y row h2 hg (fun r e => (hr r e).2), h3⟩)
    ?assign ?body ?done ?stop
  case assign =>
    rintro l pre x W K ⟨⟨⟨h1, h2⟩, h3⟩, h4⟩ hK
    have H1 := Lib.hid h1
    have H2 := Lib.hid h2
    have H3 := Lib.hid h3
    have H4 := Lib.hid h4
    clear h1 h2 h3 h4
    simp only [fcells] at hK ⊢
    gi_wp2
    exact hK _ _ ((KeepsOthers.alloc _ _).from _) (Kf.alloc _ _) ⟨⟨⟨H1.out.alloc _, H2.out.alloc _⟩, H3.out.alloc _⟩, H4.out.alloc H4.out.size _⟩ ⟨W.heap.size, Blk.new W _ _, rfl⟩
  case body =>
    rintro l pre x a' W hl ⟨r, hr⟩ ⟨⟨⟨h1, h2⟩, h3⟩, h4⟩ ⟨Bx, hX, rfl⟩ hlt
    have G0 := Lib.hid (GSt.mk (B := ((((w.alloc (.cells #[.string (ba s0)] 9)).alloc (.cells #[.int .u64 0, .int .u64 0, .int .u64 0, .int .u64 0, .int .u64 0, .int .u64 0] 24)).alloc (.cells #[.int .u64 0, .int .u64 0, .int .u64 0, .int .u64 0, .int .u64 0, .int .u64 0] 24)).alloc (.cells #[.pointer (some ⟨w.heap.size + 1 + 1, 0, none⟩)] 40)).heap.size) h1 h2 h3 hX h4 (Kf.refl W) (KeepsFrom.refl _ W))
    have HL := Lib.hid (gfold_len s0 pre)
    have HN := Lib.hid (gfold_snoc s0 pre x)
    clear h1 h2 h3 h4 hX hr hl hlt bC bR bF bS hB0
    simp only [fcells]
    generalize gfold s0 pre = g at *
    obtain ⟨cur, c⟩ := g
    dsimp only at G0 HL
    have HL1 := Lib.hid (Nat.le_trans (cutB_len cur) HL.out)
    have HL2 := Lib.hid (Nat.le_trans (cutA_len (cutB cur)) HL1.out)
    have c0 := G0.out.bs.cell
    have z0 := G0.out.bs.frozen
    gi_wp2_with fail
    refine ⟨trivial, ?_⟩
    refine (CallsIn.inRound l (callsIn_wide.2 (Cut_ba cur (Nat.le_trans HL.out HS0.out) _ (HG.out.keep G0.out.bel)))).mono ?_
    rintro e W1 ⟨rfl, hb1⟩
    have G1 := Lib.hid (G0.out.keep hb1)
    clear c0 z0 hb1 G0
    have c0 := G1.out.bs.cell
    have z0 := G1.out.bs.frozen
    have G2 := Lib.hid (G1.out.setS (cutB cur))
    gi_wp2_with fail
    refine ⟨trivial, ?_⟩
    refine (CallsIn.inRound l (callsIn_wide.2 (Cut_ba (cutB cur) (Nat.le_trans HL1.out HS0.out) _ (HG.out.keep G2.out.bel)))).mono ?_
    rintro e W2 ⟨rfl, hb1⟩
    have G3 := Lib.hid (G2.out.keep hb1)
    clear c0 z0 hb1 G2 G1
    have c0 := G3.out.bs.cell
    have z0 := G3.out.bs.frozen
    have G4 := Lib.hid (G3.out.setS (cutB (cutB cur)))
    gi_wp2_with fail
    clear c0 z0 G3
    generalize W2.setCell ⟨w.heap.size, 0, none⟩ (.string (ba (cutB (cutB cur)))) = W3 at *
    have hb1 := G4.out.bx.cell (i := 1) (v := .pointer (some ⟨w.heap.size + 1 + 1, x.val, none⟩)) rfl
    refine region_held_round (S := fun w' => w'.cell? ⟨Bx, 1, none⟩ = some (.pointer (some ⟨w.heap.size + 1 + 1, x.val, none⟩))) (by rintro ⟨_, _, h⟩; exact h) (by kernel_rfl) (by kernel_rfl) hb1 (fun hHeld => ?_)
    simp only [List.size_toArray, List.length_cons, List.length_nil, Nat.reduceAdd, Array.replicate_succ, Array.replicate_zero, List.push_toArray, List.nil_append, List.cons_append]
    refine wpAnyH_take (i := 0) (oi := ⟨some 21, _, _, _, _, _⟩) (v := ?v0) rfl (by kernel_rfl) (by kernel_rfl) (by kernel_rfl) (fun _ _ _ h => h) (Or.inl ⟨by rfl, ?y0⟩) (by assumption) ?r0
    case y0 => intro w hSw; (try dsimp only at hSw); go_simp; (try with_reducible rfl)
    simp only [Act.put, List.setIfInBounds_toArray, List.set_cons_zero, List.set_cons_succ]
    refine wpAnyH_take (i := 1) (oi := ⟨some 22, _, _, _, _, _⟩) (v := ?v1) rfl (by kernel_rfl) (by kernel_rfl) (by kernel_rfl) (fun _ _ _ h => h) (Or.inl ⟨by rfl, ?y1⟩) (by assumption) ?r1
    case y1 => intro w hSw; (try dsimp only at hSw); go_simp; (try with_reducible rfl)
    simp only [Act.put, List.setIfInBounds_toArray, List.set_cons_zero, List.set_cons_succ]
    refine wpAnyH_take (i := 2) (oi := ⟨some 23, _, _, _, _, _⟩) (v := ?v2) rfl (by kernel_rfl) (by kernel_rfl) (by kernel_rfl) (fun _ _ _ h => h) (Or.inl ⟨by rfl, ?y2⟩) (by assumption) ?r2
    case y2 => intro w hSw; (try dsimp only at hSw); go_simp; (try with_reducible rfl)
    simp only [Act.put, List.setIfInBounds_toArray, List.set_cons_zero, List.set_cons_succ]
    refine wpAnyH_ready (rs := [3]) (by kernel_rfl) (by simp) ?_
    refine AllReadyH.cons (o := ⟨some 24, _, _, _, _, _⟩) rfl (fun K hK => ?_) AllReadyH.nil
    go_simp
    have G5 := Lib.hid (G4.out.keep (bel_drew W3))
    clear G4 hb1 hHeld
    generalize W3.drew = W4 at *
    refine (ParseUint_ba (cutA (cutB cur)) (Nat.le_trans HL2.out HS0.out) _ (HG.out.keep G5.out.bel)).mono ?_
    rintro e W5 ⟨ev, rfl, hev, hb5⟩
    have G6 := Lib.hid (G5.out.keep hb5)
    clear hb5 G5
    have hb1 := G6.out.bx.cell (i := 1) (v := .pointer (some ⟨w.heap.size + 1 + 1, x.val, none⟩)) rfl
    have d1 := ccell G6.out.bc x
    have d2 := G6.out.bc.free x.val
    dsimp only
    refine hK.out _ _ hb1 (fun hHeld => ?_)
    clear hK
    simp only [List.setIfInBounds_toArray, List.set_cons_zero, List.set_cons_succ]
    generalize hnn : numOf (cutA (cutB cur)) = nn at *
    have HNN := Lib.hid hnn
    clear hnn
    refine wpAnyH_take (i := 4) (oi := ⟨some 20, _, _, _, _, _⟩) (v := ?v4) rfl (by kernel_rfl) (by kernel_rfl) (by kernel_rfl) (fun _ _ _ h => h) (Or.inl ⟨by rfl, ?y4⟩) (by assumption) ?r4
    case y4 => intro w hSw; (try dsimp only at hSw); go_simp; (try with_reducible rfl)
    simp only [Act.put, List.setIfInBounds_toArray, List.set_cons_zero, List.set_cons_succ]
    refine wpAnyH_take (i := 5) (oi := ⟨some 25, _, _, _, _, _⟩) (v := ?v5) rfl (by kernel_rfl) (by kernel_rfl) (by kernel_rfl) (fun _ _ _ h => h) (Or.inl ⟨by rfl, ?y5⟩) (by assumption) ?r5
    case y5 => intro w hSw; (try dsimp only at hSw); go_simp; (try with_reducible rfl)
    simp only [Act.put, List.setIfInBounds_toArray, List.set_cons_zero, List.set_cons_succ]
    refine wpAnyH_take (i := 6) (oi := ⟨some 26, _, _, _, _, _⟩) (v := ?v6) rfl (by kernel_rfl) (by kernel_rfl) (by kernel_rfl) (fun _ _ _ h => h) (Or.inl ⟨by rfl, ?y6⟩) (by assumption) ?r6
    case y6 => intro w hSw; (try dsimp only at hSw); go_simp; (try with_reducible rfl)
    simp only [Act.put, List.setIfInBounds_toArray, List.set_cons_zero, List.set_cons_succ]
    refine wpAnyH_take (i := 7) (oi := ⟨some 27, _, _, _, _, _⟩) (v := ?v7) rfl (by kernel_rfl) (by kernel_rfl) (by kernel_rfl) (fun _ _ _ h => h) (Or.inl ⟨by rfl, ?y7⟩) (by assumption) ?r7
    case y7 => intro w hSw; (try dsimp only at hSw); go_simp; (try with_reducible rfl)
    simp only [Act.put, List.setIfInBounds_toArray, List.set_cons_zero, List.set_cons_succ]
    refine wpAnyH_ready (rs := [8]) (by kernel_rfl) (by simp) ?_
    refine AllReadyH.cons (o := ⟨none, _, _, _, _, _⟩) rfl (fun K hK => ?_) AllReadyH.nil
    go_simp
    have G7 := Lib.hid (G6.out.setC nn)
    refine hK.out _ _ (G7.out.bx.cell (i := 1) (v := .pointer (some ⟨w.heap.size + 1 + 1, x.val, none⟩)) rfl) (fun hHeld => ?_)
    refine wpAnyH_done (by kernel_rfl) ?_ _
    have e1 : (gfold s0 (pre ++ [x])).1 = cutB (cutB cur) := by rw [HN.out]; rfl
    have e2 : (gfold s0 (pre ++ [x])).2 = upd c x nn := by rw [HN.out, ← HNN.out]; rfl
    refine ⟨G7.out.ko, G7.out.kf, ⟨⟨?_, G7.out.br⟩, ?_⟩, G7.out.bel⟩
    · rw [e1]; exact G7.out.bs
    · rw [e2]; exact G7.out.bc
  case done =>
    rintro D xs W hD rfl ⟨⟨⟨h1, h2⟩, h3⟩, h4⟩ hK
    have e : (gfold s0 all6).2 = guessC s0 := rfl
    rw [e] at h3
    clear e
    generalize hgc : guessC s0 = c at *
    have HGC := Lib.hid hgc
    clear hgc
    have q0 := ccell h3 0
    have q1 := ccell h3 1
    have q2 := ccell h3 2
    have q3 := ccell h3 3
    have q4 := ccell h3 4
    have q5 := ccell h3 5
    have p0 := ccell h2 0
    have p1 := ccell h2 1
    have p2 := ccell h2 2
    have p3 := ccell h2 3
    have p4 := ccell h2 4
    have p5 := ccell h2 5
    have f0 := h2.free 0
    have f1 := h2.free 1
    have f2 := h2.free 2
    have f3 := h2.free 3
    have f4 := h2.free 4
    have f5 := h2.free 5
    simp only [show (0 : Fin 6).val = 0 from rfl, show (1 : Fin 6).val = 1 from rfl, show (2 : Fin 6).val = 2 from rfl, show (3 : Fin 6).val = 3 from rfl, show (4 : Fin 6).val = 4 from rfl, show (5 : Fin 6).val = 5 from rfl] at q0 q1 q2 q3 q4 q5 p0 p1 p2 p3 p4 p5
    have H2 := Lib.hid h2
    have H4 := Lib.hid h4
    have HK := Lib.hid hK
    have HD := Lib.hid hD
    clear h1 h2 h3 h4 hK hD bC bR bF bS hB0 HG HS0
    gi_wp2
    have B6 := put6_blk c H2.out
    have L6 := put6_bel (b := w.heap.size + 1) c H4.out (Nat.le_succ _)
    have K6 := (put6_ko W (w.heap.size + 1) c).same D _ HK.out rfl
    change bodyPostM _ _ _ _ _ _ _ (put6 W (w.heap.size + 1) c)
    generalize put6 W (w.heap.size + 1) c = W6 at *
    clear q0 q1 q2 q3 q4 q5 p0 p1 p2 p3 p4 p5 f0 f1 f2 f3 f4 f5 H2 H4 HK
    refine ⟨by simp, .inl ⟨_, _, rfl, run_takeDeferred K6, ?_⟩⟩
    have B7 : Blk (W6.putObj D (.deferred none)) (w.heap.size + 1) 24 (ccells c) := blk_own (w.heap.size + 1) 24 (fun (_ : Unit) => ccells c) () _ _ _ B6 (grownBy_putObj' _ D (.deferred none)) (fun r e => by cases e; exact ⟨_, K6, rfl⟩)
    have L7 := L6.trans (belowK_b (w := w) (Nat.le_refl _) W6 D _ (.deferred none) (by have := HD.out; simp at this; omega) K6 rfl rfl)
    generalize W6.putObj D (.deferred none) = W7 at *
    have q0 := ccell B7 0
    have q1 := ccell B7 1
    have q2 := ccell B7 2
    have q3 := ccell B7 3
    have q4 := ccell B7 4
    have q5 := ccell B7 5
    simp only [show (0 : Fin 6).val = 0 from rfl, show (1 : Fin 6).val = 1 from rfl, show (2 : Fin 6).val = 2 from rfl, show (3 : Fin 6).val = 3 from rfl, show (4 : Fin 6).val = 4 from rfl, show (5 : Fin 6).val = 5 from rfl] at q0 q1 q2 q3 q4 q5
    refine ⟨.agg (ccells c), ?_, by rw [HGC.out], L7⟩
    simp [results, Tryd.f19, go_sem, q0, q1, q2, q3, q4, q5, ccells]
  case stop =>
    rintro D c pre W _ _ h _
    exact h.elim
end Go.Proofs.YtmdfikpngbbdmaaDoor
