/- The document's own ledger: Ack, over this translation.
   The document's own ledger: Send, over this translation.
   The document's own ledger: Copy, over this translation.
   A ledger and the document's own, side by side, over this translation.
   same of goitlaw08, over this translation. -/
import Derived.Test.YtfpopbhbhdhdnaaVa
import Derived.BigRegion
import Derived.Deep.RegionLaw
import Derived.Deep.AppendLies
set_option linter.unusedVariables false
namespace Go.Proofs.Ytfpopbhbhdhdnaa
open Go.RowKit

theorem RAt.drawn {w w' : World} {B b : Nat} {r : RS8} {vL vO : Value} (h : RAt w B b r vL vO) (k : Drawn w w') : RAt w' B b r vL vO := h.keep (k.below _)
/-- The top is another. -/
theorem RAt.topped {w : World} {B b : Nat} {r : RS8} {vL vO : Value} (h : RAt w B b r vL vO) (t : Nat) : RAt (((w.setCell ⟨b, 3, none⟩ (.int .u64 (t : Int))).setCell ⟨b, 4, none⟩ (.bool true))) B b { r with top := t, some := true } vL vO ∧ Fr w ((w.setCell ⟨b, 3, none⟩ (.int .u64 (t : Int))).setCell ⟨b, 4, none⟩ (.bool true)) [b] := by
  have ho : ∀ {z T cs}, Blk w z T cs → T ≠ 46 → ((w.setCell ⟨b, 3, none⟩ (.int .u64 (t : Int))).setCell ⟨b, 4, none⟩ (.bool true)).heap[z]? = w.heap[z]? := fun {z T cs} hz hT => by
    rw [Below.heap_setCell _ _ _ _ (hz.ty h.head hT), Below.heap_setCell _ _ _ _ (hz.ty h.head hT)]
  exact ⟨⟨(h.head.set 3 _).set 4 _, own_same h.L fun z cs _ _ hz => ho hz (by decide), own_same h.O fun z cs _ _ hz => ho hz (by decide), h.lo⟩, ((Fr.refl w [b]).set (c := b) (.inl (by simp)) 3 _).set (c := b) (.inl (by simp)) 4 _⟩
theorem RAt.num {w : World} {B b gL oL nL cL : Nat} {r : RS8} {vO : Value} (h : RAt w B b r (.slice (some ⟨gL, oL, none⟩) nL cL) vO) {k : Nat} (hk : k < r.A.length) : w.cell? ⟨gL, oL + k * 7, none⟩ = some (.int .u64 ((r.A.getD k Itm.z).n : Int)) := by
  obtain ⟨b', off', e, _, _, hc⟩ := pr_cell h.pr (by omega)
  injection e with e
  injection e with e1 e2
  subst e1 e2
  exact hc k hk
def topOf (t : Nat) (out : List Pk) : Nat := out.foldl (fun t p => max t p.n) t
theorem topOf_le {out : List Pk} : ∀ {t m : Nat}, t ≤ m → (∀ p ∈ out, p.n ≤ m) → topOf t out ≤ m := by
  induction out with
  | nil => intro t m h _; exact h
  | cons x r ih =>
    intro t m h hA
    exact ih (Nat.max_le.2 ⟨h, hA x List.mem_cons_self⟩) fun k hk => hA k (List.mem_cons_of_mem _ hk)
theorem topOf_snoc (t : Nat) (out : List Pk) (x : Pk) : topOf t (out ++ [x]) = max (topOf t out) x.n := by simp [topOf, List.foldl_append]

set_option maxRecDepth 100000 in
set_option maxHeartbeats 4000000 in
theorem rAck_any (B b : Nat) (r : RS8) (vL vO : Value) (w : World) (h : RAt w B b r vL vO) (hr : r.ok) (hBw : B ≤ w.heap.size) (lp : Option Addr) (lc : Nat) (l : List Rn) (hI : ∀ W', Below B w W' → Its W' lp l) (hm : l.length ≤ 1000) (hu : ∀ q ∈ l, q.u64) (hok : l.all okB = true) :
    Calls Try.prog 34 #[.pointer (some ⟨b, 0, none⟩), .slice lp l.length lc] w (RTook w B b r (fun p => hasB l p.n) vL vO (fun v e => e = .returned (.tuple #[v, .int .i64 0])) (topOf r.top ((sel r.A r.O).filter (fun p => hasB l p.n))) (r.some || !((sel r.A r.O).filter (fun p => hasB l p.n)).isEmpty)) := by
  obtain ⟨pL, cL, pO, cO, rfl, rfl⟩ := h.form
  have HH := Lib.hid h
  have HR := Lib.hid hr
  have hf := hr.few
  have hln := hr.len
  obtain ⟨i0, hi, hz0, hz1, hz2⟩ := info_parts pk_info
  have HI := Lib.hid hi
  have HZ0 := Lib.hid hz0
  have HZ1 := Lib.hid hz1
  have HZ2 := Lib.hid hz2
  have HIt := Lib.hid hI
  have HRt := Lib.hid (right_any l lp lc w (hI w (Below.refl _ _)) (by omega) hu)
  rw [hok] at HRt
  clear h hr hi hz0 hz1 hz2 hI hu hok
  go_enter Try.func34, Try.ntmps34
  go_wp2_with fail
  refine (HRt.out).mono ?_
  rintro e w1 ⟨rfl, hd1⟩
  have HD1 := Lib.hid hd1
  clear hd1 HRt
  go_wp2
  go_loopw [7, 8] (fun v i wr => ∃ (k : Nat) (O : List Bool) (out : List Pk), i = .int .i64 (k : Int) ∧ k ≤ r.A.length ∧ Stk ((fun p : Pk => hasB l p.n)) r k O out ∧ RAt wr B b { r with O := O, top := topOf r.top out, some := r.some || !out.isEmpty } (.slice pL r.A.length cL) (.slice pO r.O.length cO) ∧ wr.ownsRow w.heap.size 41 7 v out.length (pcs out) ∧ Below B w wr ∧ w.heap.size ≤ wr.heap.size ∧ KeepQ w wr) (fun _ i _ => r.A.length - (intOf i).toNat)
  case atStart => exact ⟨0, r.O, [], rfl, Nat.zero_le _, Stk.zero _ _, by have := HH.out.drawn HD1.out; simpa [topOf] using this, World.ownsRow_nil _ _ _ _, (HD1.out.below _), (HD1.out.below w.heap.size).size, (KeepQ.refl w).below (HD1.out.below _)⟩
  case round =>
    obtain ⟨k, O, out, rfl, hk, hS, h2, hv, hb, hsz, hkr⟩ := hrel
    have HKr := Lib.hid hkr
    clear hkr
    have hit := HIt.out wr hb
    have c1 : wr.cell? ⟨b, 1, none⟩ = some (.slice pL r.A.length cL) := h2.head.cell (i := 1) rfl
    have HS := Lib.hid hS
    have HV := Lib.hid hv
    have HB := Lib.hid hb
    have HSz := Lib.hid hsz
    have H2 := Lib.hid h2
    by_cases hlt : k < r.A.length
    · obtain ⟨ho, hol⟩ := hS.at_ HR.out hlt
      have hr2 : ({ r with O := O, top := topOf r.top out, some := r.some || !out.isEmpty } : RS8).ok := ⟨by show O.length = r.A.length; omega, HR.out.pk, HR.out.num, HR.out.few, HR.out.reorder, topOf_le HR.out.top (by rw [hS.out]; exact fun p hp => (HR.out.pk p (List.mem_of_mem_take (sel_mem (List.mem_filter.1 hp).1))).n)⟩
      obtain ⟨gL, oL, gO, rfl, rfl, co, hc⟩ := h2.at_ hr2 hlt
      obtain ⟨x, hx⟩ : ∃ x, x = r.A.getD k Itm.z := ⟨_, rfl⟩
      obtain ⟨a0, a1, a2, a3, a4, a5, a6⟩ := hc x hx
      have hxk : x.ok := HR.out.pk x (by rw [hx]; simp [List.getD_eq_getElem?_getD, hlt])
      have HLo := Lib.hid (has_any l lp lc x.n wr hit hm)
      have HC : Hid (wr.cell? ⟨b, 2, none⟩ = some (.slice (some ⟨gO, 0, none⟩) r.O.length cO) ∧ wr.cell? ⟨gO, k, none⟩ = some (.bool (r.O.getD k false))) := Lib.hid ⟨h2.head.cell (i := 2) rfl, by rw [← ho]; exact co⟩
      have HCa := Lib.hid (And.intro a0 (And.intro a1 (And.intro a2 (And.intro a3 (And.intro a4 (And.intro a5 a6))))))
      have HX := Lib.hid hx
      have HOl : Hid (O.length = r.O.length) := Lib.hid hol
      have HOut : Hid (out.length ≤ 500) := Lib.hid (by
        rw [hS.out]
        refine Nat.le_trans (List.length_filter_le _ _) ?_
        unfold sel
        rw [List.length_map]
        refine Nat.le_trans (List.length_filter_le _ _) ?_
        rw [List.length_zip, List.length_take]
        omega)
      have i0' : (0 : Int) ≤ (k : Int) := by omega
      have i1 : (k : Int) < (r.A.length : Int) := by omega
      have i2 : (k : Int) < (r.O.length : Int) := by omega
      clear ho hol hr2 co hc hx hxk hS h2 hv hb hsz hit
      go_wp2_with fail
      refine (HLo.out).mono ?_
      rintro e w4 ⟨rfl, hw4⟩
      have hb4 : Below wr.heap.size wr w4 := by rw [hw4]; exact Below.refl _ _
      clear hw4
      have K : ∀ p v, wr.cell? p = some v → w4.cell? p = some v := fun p v h => (hb4.cell (World.block_lt_of_cell? _ _ h)).trans h
      have c2 := K _ _ HC.out.1
      have co := K _ _ HC.out.2
      have c1' := K _ _ c1
      obtain ⟨y0, y1, y2, y3, y4, y5, y6⟩ := HCa.out
      have HCb := Lib.hid (And.intro (K _ _ y0) (And.intro (K _ _ y1) (And.intro (K _ _ y2) (And.intro (K _ _ y3) (And.intro (K _ _ y4) (And.intro (K _ _ y5) (K _ _ y6)))))))
      have H4 := Lib.hid (H2.out.keep hb4)
      have HV4 : Hid (w4.ownsRow w.heap.size 41 7 u7 out.length (pcs out)) := Lib.hid (own_same HV.out fun z cs _ _ hz => hb4.block z hz.lt)
      have HB4 : Hid (Below B w w4) := Lib.hid (HB.out.trans (hb4.mono (by have := HSz.out; omega)))
      have HS4 : Hid (w.heap.size ≤ w4.heap.size) := Lib.hid (Nat.le_trans HSz.out hb4.size)
      have HK4 : Hid (KeepQ w w4) := Lib.hid (HKr.out.below hb4)
      clear K y0 y1 y2 y3 y4 y5 y6 hb4 HLo HC HCa H2 HV HB HSz a0 a1 a2 a3 a4 a5 a6 c1
      cases hg : hasB l x.n
      · have HSt : Hid (Stk ((fun p : Pk => hasB l p.n)) r (k + 1) O out) := Lib.hid (HS.out.stay HR.out hlt (by rw [← HX.out]; show (_ && hasB l x.n) = false; rw [hg]; simp))
        clear hg HS HX
        cases ho : r.O.getD k false
        all_goals
          rw [ho] at co
          clear ho
          go_wp2
          go_roundw
          case rel => exact ⟨k + 1, O, out, by go_num, by omega, HSt.out, H4.out, HV4.out, HB4.out, HS4.out, HK4.out⟩
          case measure => simp [intOf]; omega
      · cases ho : r.O.getD k false
        · have HSt : Hid (Stk ((fun p : Pk => hasB l p.n)) r (k + 1) O out) := Lib.hid (HS.out.stay HR.out hlt (by rw [ho]; simp))
          rw [ho] at co
          clear hg ho HS HX
          go_wp2
          go_roundw
          case rel => exact ⟨k + 1, O, out, by go_num, by omega, HSt.out, H4.out, HV4.out, HB4.out, HS4.out, HK4.out⟩
          case measure => simp [intOf]; omega
        · have HSt : Hid (Stk ((fun p : Pk => hasB l p.n)) r (k + 1) (O.set k false) (out ++ [x])) := Lib.hid (by
            have := HS.out.hit HR.out hlt ho (by rw [← HX.out]; exact hg)
            rwa [← HX.out] at this)
          rw [ho] at co
          clear hg ho HS
          obtain ⟨hh1, hh2, hh3, ⟨gcs, hh4⟩, hh5⟩ := H4.out.hit (by show 0 < O.length; rw [HOl.out]; omega) k
          have f1 := hh5 k
          have HV5 : Hid ((w4.setCell ⟨gO, k, none⟩ (.bool false)).ownsRow w.heap.size 41 7 u7 out.length (pcs out)) := Lib.hid (PR.hit HV4.out hh4)
          have H5 := Lib.hid hh1
          have HK5 : Hid (KeepQ w (w4.setCell ⟨gO, k, none⟩ (.bool false))) := Lib.hid (HK4.out.set hh4 (.inr rfl))
          have hne : ∀ z, z ≠ gO → ∀ j, (w4.setCell ⟨gO, k, none⟩ (.bool false)).cell? ⟨z, j, none⟩ = w4.cell? ⟨z, j, none⟩ := fun z hz j => by
            unfold World.cell?
            rw [Below.heap_setCell _ _ _ _ hz]
          have hgL : gL ≠ gO := by
            obtain ⟨_, cs, hcs⟩ := own_ge H4.out.L (g := gL) rfl
            exact hcs.ty hh4 (by decide)
          have hbO : b ≠ gO := H4.out.head.ty hh4 (by decide)
          obtain ⟨z0, z1, z2, z3, z4, z5, z6⟩ := HCb.out
          have y0 := (hne gL hgL _).trans z0
          have y1 := (hne gL hgL _).trans z1
          have y2 := (hne gL hgL _).trans z2
          have y3 := (hne gL hgL _).trans z3
          have y4 := (hne gL hgL _).trans z4
          have y5 := (hne gL hgL _).trans z5
          have y6 := (hne gL hgL _).trans z6
          have d1 := (hne b hbO _).trans c1'
          have HB5 : Hid (Below B w (w4.setCell ⟨gO, k, none⟩ (.bool false))) := Lib.hid (HB4.out.trans ⟨hh2.os, hh2.tape, hh2.output, hh2.size, fun z hz => hh2.block z (by have := HS4.out; omega) (by simp; omega)⟩)
          have HS5 : Hid (w.heap.size ≤ (w4.setCell ⟨gO, k, none⟩ (.bool false)).heap.size) := Lib.hid (Nat.le_trans HS4.out hh2.size)
          clear z0 z1 z2 z3 z4 z5 z6 hne hgL hbO hh1 hh2 hh3 hh4 hh5 HCb HB4 HS4 HV4
          obtain ⟨p3, c3, rfl⟩ := PR.form (own_zero HV5.out : PR _ u7 _)
          have HVa : Hid (((w4.setCell ⟨gO, k, none⟩ (.bool false)).alloc (.cells #[.int .u64 (x.n : Int), .int .u64 (x.size : Int), .int .u64 (x.sent : Int), .int .u64 (x.first : Int), .int .u64 (x.deliv : Int), .int .u64 (x.at_ : Int), .bool x.lim] 41)).ownsRow w.heap.size 41 7 (.slice p3 out.length c3) out.length (pcs out)) := Lib.hid (own_same HV5.out fun z cs _ _ hb => Below.heap_alloc _ _ _ hb.lt)
          have HNw : Hid (∀ j u, ([.int .u64 (x.n : Int), .int .u64 (x.size : Int), .int .u64 (x.sent : Int), .int .u64 (x.first : Int), .int .u64 (x.deliv : Int), .int .u64 (x.at_ : Int), .bool x.lim] : List Value)[j]? = some u → ((w4.setCell ⟨gO, k, none⟩ (.bool false)).alloc (.cells #[.int .u64 (x.n : Int), .int .u64 (x.size : Int), .int .u64 (x.sent : Int), .int .u64 (x.first : Int), .int .u64 (x.deliv : Int), .int .u64 (x.at_ : Int), .bool x.lim] 41)).cell? ((⟨w4.heap.size, 0, none⟩ : Addr).add j) = some u) := Lib.hid (fun j u hu => by
            have es : (w4.setCell ⟨gO, k, none⟩ (.bool false)).heap.size = w4.heap.size := by simp [World.setCell]
            have hbk := Blk.new (w4.setCell ⟨gO, k, none⟩ (.bool false)) 41 #[.int .u64 (x.n : Int), .int .u64 (x.size : Int), .int .u64 (x.sent : Int), .int .u64 (x.first : Int), .int .u64 (x.deliv : Int), .int .u64 (x.at_ : Int), .bool x.lim]
            rw [es] at hbk
            rw [Go.WideShapes.add_plain, Nat.zero_add]
            exact hbk.cell (by simpa using hu))
          have HS6 : Hid (w.heap.size ≤ ((w4.setCell ⟨gO, k, none⟩ (.bool false)).alloc (.cells #[.int .u64 (x.n : Int), .int .u64 (x.size : Int), .int .u64 (x.sent : Int), .int .u64 (x.first : Int), .int .u64 (x.deliv : Int), .int .u64 (x.at_ : Int), .bool x.lim] 41)).heap.size) := Lib.hid (by have := HS5.out; rw [World.size_alloc]; omega)
          have HGL : Hid (gL < w.heap.size) := Lib.hid (HH.out.L.lt gL rfl).2
          have HOne : Hid (∀ u ∈ ([.int .u64 (x.n : Int), .int .u64 (x.size : Int), .int .u64 (x.sent : Int), .int .u64 (x.first : Int), .int .u64 (x.deliv : Int), .int .u64 (x.at_ : Int), .bool x.lim] : List Value), u.oneCell' = true) := Lib.hid (Itm.one x)
          go_wp2_with (at_builtin; (refine wpList_append_own_at _ rfl _ _ 29 rfl w.heap.size 41 i0 (.agg #[.int .u64 0, .int .u64 0, .int .u64 0, .int .u64 0, .int .u64 0, .int .u64 0, .bool false]) 7 56 Try.underlying29 HI.out HZ0.out HZ1.out HZ2.out rfl (by decide) (.slice p3 out.length c3) out.length (pcs out) rfl HVa.out ⟨w4.heap.size, 0, none⟩ 1 1 [.int .u64 (x.n : Int), .int .u64 (x.size : Int), .int .u64 (x.sent : Int), .int .u64 (x.first : Int), .int .u64 (x.deliv : Int), .int .u64 (x.at_ : Int), .bool x.lim] rfl rfl HNw.out HOne.out (by unfold maxLen; have := HOut.out; omega) (by have := HOut.out; omega) HS6.out ?_); intro v' w5 hown hgr hnil hat; have H6 := Lib.hid hown; have G6 := Lib.hid hgr; clear hown hgr hnil hat)
          have H7 : RAt w5 B b { r with O := O.set k false, top := topOf r.top out, some := r.some || !out.isEmpty } (.slice (some ⟨gL, oL, none⟩) r.A.length cL) (.slice (some ⟨gO, 0, none⟩) r.O.length cO) := (H5.out.keep ((Below.refl _ _).alloc (Nat.le_refl _) _)).grown G6.out (fun z e => by
            obtain ⟨hz, cs', hc'⟩ := own_ge HVa.out e
            exact ⟨hz, cs', hc', by have := HGL.out; intro e2; simp [Value.ownBlock] at e2; omega⟩)
          have HB7 : Hid (Below B w w5) := Lib.hid ((HB5.out.alloc (by have := HS5.out; omega) _).grown G6.out (by have := HS6.out; omega) (fun z e => by have := (own_ge HVa.out e).1; omega))
          have HS7 : Hid (w.heap.size ≤ w5.heap.size) := Lib.hid (Nat.le_trans HS6.out G6.out.size)
          have HK7 : Hid (KeepQ w w5) := Lib.hid ((HK5.out.below ((Below.refl _ _).alloc (Nat.le_refl _) _)).grown G6.out (fun z e => (own_ge HVa.out e).1))
          have h8 := H7.drawn (Drawn.drew w5)
          have t3 : w5.drew.cell? ⟨b, 3, none⟩ = some (.int .u64 ((topOf r.top out : Nat) : Int)) := h8.head.cell (i := 3) rfl
          have g3 := h8.head.free 3
          have t1 : w5.drew.cell? ⟨b, 1, none⟩ = some (.slice (some ⟨gL, oL, none⟩) r.A.length cL) := h8.head.cell (i := 1) rfl
          have x0 := h8.num hlt
          rw [← HX.out] at x0
          have t4 : (w5.setCell ⟨b, 3, none⟩ (.int .u64 (max ((topOf r.top out : Nat) : Int) (x.n : Int)))).drew.cell? ⟨b, 4, none⟩ = some (.bool (r.some || !out.isEmpty)) := (h8.head.set 3 _).cell (i := 4) rfl
          have g4 : (w5.setCell ⟨b, 3, none⟩ (.int .u64 (max ((topOf r.top out : Nat) : Int) (x.n : Int)))).drew.frozen? ⟨b, 4, none⟩ = false := (h8.head.set 3 (.int .u64 (max ((topOf r.top out : Nat) : Int) (x.n : Int)))).free 4
          have HTn : Hid (topOf r.top (out ++ [x]) = max (topOf r.top out) x.n) := Lib.hid (topOf_snoc _ _ _)
          have H8 := Lib.hid h8
          clear h8 H7 y0 y1 y2 y3 y4 y5 y6 d1 f1 H5 HV5 HVa HNw HOne HS6 HGL G6 HB5 HS5
          generalize topOf r.top out = tp at *
          have H9 := (H8.out.topped (max tp x.n)).1
          have F9 := (H8.out.topped (max tp x.n)).2
          have em : ((max tp x.n : Nat) : Int) = max (tp : Int) (x.n : Int) := by omega
          rw [em] at H9 F9
          have e9 : ∀ z T cs, T ≠ 46 → Blk w5 z T cs → ((w5.drew.setCell ⟨b, 3, none⟩ (.int .u64 (max (tp : Int) (x.n : Int)))).setCell ⟨b, 4, none⟩ (.bool true)).heap[z]? = w5.heap[z]? := fun z T cs hT hz => F9.block z hz.lt (by simpa using hz.ty H8.out.head hT)
          have HP9 := Lib.hid (own_same H6.out (w' := (w5.drew.setCell ⟨b, 3, none⟩ (.int .u64 (max (tp : Int) (x.n : Int)))).setCell ⟨b, 4, none⟩ (.bool true)) fun z cs _ _ hz => e9 z _ cs (by decide) hz)
          have HB9 : Hid (Below B w ((w5.drew.setCell ⟨b, 3, none⟩ (.int .u64 (max (tp : Int) (x.n : Int)))).setCell ⟨b, 4, none⟩ (.bool true))) := Lib.hid (HB7.out.trans (((Drawn.drew w5).below B).trans ⟨F9.os, F9.tape, F9.output, F9.size, fun z hz => F9.block z (by have := HS7.out; simp; omega) (by have := H8.out.lo; simp; omega)⟩))
          have HS9 : Hid (w.heap.size ≤ ((w5.drew.setCell ⟨b, 3, none⟩ (.int .u64 (max (tp : Int) (x.n : Int)))).setCell ⟨b, 4, none⟩ (.bool true)).heap.size) := Lib.hid (Nat.le_trans HS7.out F9.size)
          have HK9 : Hid (KeepQ w ((w5.drew.setCell ⟨b, 3, none⟩ (.int .u64 (max (tp : Int) (x.n : Int)))).setCell ⟨b, 4, none⟩ (.bool true))) := Lib.hid (((HK7.out.below ((Drawn.drew w5).below _)).set H8.out.head (.inl rfl)).set (H8.out.head.set 3 _) (.inl rfl))
          have H9' := Lib.hid H9
          have HE9 : Hid ((r.some || !(out ++ [x]).isEmpty) = true) := Lib.hid (by simp)
          clear H9 F9 em e9 H8 HB7 HS7
          go_wp2_with fail
          go_region
          go_wp2
          go_roundw
          case rel =>
            refine ⟨k + 1, O.set k false, out ++ [x], by go_num, by omega, HSt.out, by rw [HTn.out, HE9.out]; exact H9'.out, ?_, HB9.out, HS9.out, HK9.out⟩
            rw [List.length_append]
            have e : pcs (out ++ [x]) = pcs out ++ Itm.cs x := by unfold pcs; rw [List.flatMap_append]; simp
            rw [e]
            exact HP9.out
          case measure => simp [intOf]; omega
    · obtain rfl : k = r.A.length := by omega
      obtain ⟨e1, e2, e3⟩ := hS.done HR.out
      subst e2
      have HV2 := Lib.hid hv
      have HE := Lib.hid (Exists.intro (p := fun O' => RAt wr B b { r with O := O', top := topOf r.top ((sel r.A r.O).filter (fun p => hasB l p.n)), some := r.some || !((sel r.A r.O).filter (fun p => hasB l p.n)).isEmpty } (.slice pL r.A.length cL) (.slice pO r.O.length cO) ∧ sel r.A O' = (sel r.A r.O).filter (fun p => !hasB l p.n) ∧ O'.length = r.A.length) O ⟨h2, e1, e3⟩)
      clear e1 e3 hS h2 hv hb hsz HS HV H2 hit
      go_wp2
      go_ret2
      exact ⟨⟨_, rfl, own_zero HV2.out, fun g e => (own_ge HV2.out e).1⟩, HE.out, HB.out, HKr.out⟩
end Go.Proofs.Ytfpopbhbhdhdnaa

namespace Go.Proofs.Ytfpopbhbhdhdnaa
open Go.RowKit

theorem vbool_info : (Try.prog.info? 4).map (fun i => (i.zero, i.size, i.bytes)) = some (some (.bool false), 1, 1) := by kernel_rfl
/-- What Send leaves. -/
structure RSend (w : World) (B b : Nat) (r : RS8) (p : Pk) (e : Ending) (w' : World) : Prop where
  e : e = .returned (.int .u64 (r.A.length : Int))
  at_ : ∃ vL vO, RAt w' B b { r with A := r.A ++ [p], O := r.O ++ [true] } vL vO
  bel : Below B w w'
  kr : KeepR w w'
theorem RAt.app1 {w w5 : World} {B b g cap : Nat} {r : RS8} {vL vO : Value} {p : Pk} {o : Obj} (h : RAt w B b r vL vO) (hBw : B ≤ w.heap.size) (hg : ((w.alloc o).drew).grownBy w5 vL.ownBlock) (hw : w5.ownsRow B 41 7 (.slice (some ⟨g, 0, none⟩) (r.A.length + 1) cap) (r.A.length + 1) (pcs r.A ++ Itm.cs p)) :
    RAt (w5.setCell ⟨b, 1, none⟩ (.slice (some ⟨g, 0, none⟩) (r.A.length + 1) cap)) B b { r with A := r.A ++ [p] } (.slice (some ⟨g, 0, none⟩) (r.A.length + 1) cap) vO ∧ Below B w (w5.setCell ⟨b, 1, none⟩ (.slice (some ⟨g, 0, none⟩) (r.A.length + 1) cap)) ∧ KeepR w (w5.setCell ⟨b, 1, none⟩ (.slice (some ⟨g, 0, none⟩) (r.A.length + 1) cap)) := by
  have h1 := (h.keep ((Below.refl _ _).alloc (Nat.le_refl _) o)).drawn (Drawn.drew _)
  have hv : ∀ z, vL.ownBlock = some z → B ≤ z ∧ ∃ cs, Blk ((w.alloc o).drew) z 41 cs := fun z e => own_ge h1.L e
  have hd5 : Blk w5 b 46 (rcells r vL vO) := h1.head.grown hg (fun e => by obtain ⟨_, cs, hc⟩ := hv b e.symm; exact h1.head.ty hc (by decide) rfl)
  have hO5 : w5.ownsRow B 4 1 vO r.O.length (r.O.map Value.bool) := own_same h1.O fun z cs e _ hb => hg.block z hb.lt (fun e2 => by obtain ⟨_, cs', hc⟩ := hv z e2.symm; exact hb.ty hc (by decide) rfl)
  refine ⟨⟨hd5.set 1 _, ?_, own_same hO5 fun z cs _ _ hb => Below.heap_setCell _ _ _ _ (hb.ty hd5 (by decide)), h.lo⟩, ?_, ((KeepR.of_below (((Below.refl _ _).alloc (Nat.le_refl _) o).trans ((Drawn.drew _).below _))).trans (KeepR.grown hg (fun z e => by obtain ⟨_, cs, hc⟩ := hv z e; exact ⟨_, cs, hc, .inr (.inl rfl)⟩))).trans (KeepR.set hd5 (.inl rfl))⟩
  · have e : pcs (r.A ++ [p]) = pcs r.A ++ Itm.cs p := by unfold pcs; rw [List.flatMap_append]; simp
    show World.ownsRow _ B _ 7 _ (r.A ++ [p]).length (pcs (r.A ++ [p]))
    rw [e, List.length_append]
    exact own_same hw fun z cs _ _ hb => Below.heap_setCell _ _ _ _ (hb.ty hd5 (by decide))
  · have b1 : Below B w ((w.alloc o).drew) := ((Below.refl B w).alloc hBw o).trans ((Drawn.drew _).below _)
    have b2 : Below B w w5 := b1.grown hg (by have := b1.size; omega) (fun z e => (hv z e).1)
    have f := (Fr.refl w5 [b]).set (c := b) (.inl (by simp)) 1 (.slice (some ⟨g, 0, none⟩) (r.A.length + 1) cap)
    exact b2.trans ⟨f.os, f.tape, f.output, f.size, fun z hz => f.block z (by have := b2.size; omega) (by have := h.lo; simp; omega)⟩

theorem own_form {T : TypeId} {w : World} {B k n : Nat} {v : Value} {xs : List Value} (h : w.ownsRow B T k v n xs) (hp : 0 < n) : ∃ g c, v = .slice (some ⟨g, 0, none⟩) n c := by
  rcases h.2 with ⟨_, e⟩ | ⟨g', cap', cur, e, _⟩
  · omega
  · exact ⟨g', cap', e⟩
theorem RAt.app2 {w w5 : World} {B b : Nat} {r : RS8} {vL vO v' : Value} {o : Obj} (h : RAt w B b r vL vO) (hBw : B ≤ w.heap.size) (hg : (w.alloc o).grownBy w5 vO.ownBlock) (hw : w5.ownsRow B 4 1 v' (r.O.length + 1) (r.O.map Value.bool ++ [.bool true])) :
    RAt (w5.setCell ⟨b, 2, none⟩ v') B b { r with O := r.O ++ [true] } vL v' ∧ Below B w (w5.setCell ⟨b, 2, none⟩ v') ∧ w5.cell? ⟨b, 2, none⟩ = some vO ∧ w5.frozen? ⟨b, 2, none⟩ = false ∧ KeepR w (w5.setCell ⟨b, 2, none⟩ v') := by
  have h1 := h.keep ((Below.refl _ _).alloc (Nat.le_refl _) o)
  have hv : ∀ z, vO.ownBlock = some z → B ≤ z ∧ ∃ cs, Blk (w.alloc o) z 4 cs := fun z e => own_ge h1.O e
  have hd5 : Blk w5 b 46 (rcells r vL vO) := h1.head.grown hg (fun e => by obtain ⟨_, cs, hc⟩ := hv b e.symm; exact h1.head.ty hc (by decide) rfl)
  have hL5 : w5.ownsRow B 41 7 vL r.A.length (pcs r.A) := own_same h1.L fun z cs e _ hb => hg.block z hb.lt (fun e2 => by obtain ⟨_, cs', hc⟩ := hv z e2.symm; exact hb.ty hc (by decide) rfl)
  refine ⟨⟨hd5.set 2 _, own_same hL5 fun z cs _ _ hb => Below.heap_setCell _ _ _ _ (hb.ty hd5 (by decide)), ?_, h.lo⟩, ?_, hd5.cell (i := 2) rfl, hd5.free 2, ((KeepR.of_below ((Below.refl _ _).alloc (Nat.le_refl _) o)).trans (KeepR.grown hg (fun z e => by obtain ⟨_, cs, hc⟩ := hv z e; exact ⟨_, cs, hc, .inr (.inr rfl)⟩))).trans (KeepR.set hd5 (.inl rfl))⟩
  · show World.ownsRow _ B _ 1 _ (r.O ++ [true]).length ((r.O ++ [true]).map Value.bool)
    rw [List.length_append, List.map_append]
    exact own_same hw fun z cs _ _ hb => Below.heap_setCell _ _ _ _ (hb.ty hd5 (by decide))
  · have b1 : Below B w (w.alloc o) := (Below.refl B w).alloc hBw o
    have b2 : Below B w w5 := b1.grown hg (by have := b1.size; omega) (fun z e => (hv z e).1)
    have f := (Fr.refl w5 [b]).set (c := b) (.inl (by simp)) 2 v'
    exact b2.trans ⟨f.os, f.tape, f.output, f.size, fun z hz => f.block z (by have := b2.size; omega) (by have := h.lo; simp; omega)⟩

set_option maxRecDepth 100000 in
set_option maxHeartbeats 4000000 in
theorem rSend_any (B b : Nat) (r : RS8) (vL vO : Value) (w : World) (h : RAt w B b r vL vO) (hr : r.ok) (hBw : B ≤ w.heap.size) (p : Pk) (hp : p.ok) (hpn : p.n = r.A.length) :
    Calls Try.prog 33 #[.pointer (some ⟨b, 0, none⟩), .int .u64 (p.size : Int), .agg #[.int .u64 (p.sent : Int), .int .u64 (p.first : Int), .int .u64 (p.deliv : Int), .int .u64 (p.at_ : Int), .bool p.lim]] w (RSend w B b r p) := by
  obtain ⟨pL, cL, pO, cO, rfl, rfl⟩ := h.form
  have h1 := h.keep ((Below.refl _ _).alloc (Nat.le_refl _) (.cells #[.int .u64 (p.sent : Int), .int .u64 (p.first : Int), .int .u64 (p.deliv : Int), .int .u64 (p.at_ : Int), .bool p.lim] 35))
  have HH := Lib.hid h1
  have HR := Lib.hid hr
  have hf := hr.few
  have hol : r.O.length ≤ 500 := by have := hr.len; omega
  have HPn := Lib.hid hpn
  have ST0 := Lib.hid (Blk.new w 35 #[.int .u64 (p.sent : Int), .int .u64 (p.first : Int), .int .u64 (p.deliv : Int), .int .u64 (p.at_ : Int), .bool p.lim])
  have HB1 : Hid (Below B w (w.alloc (.cells #[.int .u64 (p.sent : Int), .int .u64 (p.first : Int), .int .u64 (p.deliv : Int), .int .u64 (p.at_ : Int), .bool p.lim] 35))) := Lib.hid ((Below.refl _ _).alloc hBw _)
  have HKw : Hid (KeepR w (w.alloc (.cells #[.int .u64 (p.sent : Int), .int .u64 (p.first : Int), .int .u64 (p.deliv : Int), .int .u64 (p.at_ : Int), .bool p.lim] 35))) := Lib.hid (KeepR.of_below ((Below.refl _ _).alloc (Nat.le_refl _) _))
  have HS1 : Hid (B ≤ (w.alloc (.cells #[.int .u64 (p.sent : Int), .int .u64 (p.first : Int), .int .u64 (p.deliv : Int), .int .u64 (p.at_ : Int), .bool p.lim] 35)).heap.size) := Lib.hid (by rw [World.size_alloc]; omega)
  have hwr : IntKind.u64.wrap (r.A.length : Int) = (r.A.length : Int) := IntWalk.u64_in _ (by omega)
  obtain ⟨i0, hi, hz0, hz1, hz2⟩ := info_parts pk_info
  have HI := Lib.hid hi
  have HZ0 := Lib.hid hz0
  have HZ1 := Lib.hid hz1
  have HZ2 := Lib.hid hz2
  obtain ⟨i1, hj, hy0, hy1, hy2⟩ := info_parts vbool_info
  have HJ := Lib.hid hj
  have HY0 := Lib.hid hy0
  have HY1 := Lib.hid hy1
  have HY2 := Lib.hid hy2
  have c1 : (w.alloc (.cells #[.int .u64 (p.sent : Int), .int .u64 (p.first : Int), .int .u64 (p.deliv : Int), .int .u64 (p.at_ : Int), .bool p.lim] 35)).cell? ⟨b, 1, none⟩ = some (.slice pL r.A.length cL) := h1.head.cell (i := 1) rfl
  clear h h1 hr hp hpn hi hz0 hz1 hz2 hj hy0 hy1 hy2
  go_enter Try.func33, Try.ntmps33
  go_wp2_with fail
  generalize hw1 : (w.alloc (.cells #[.int .u64 (p.sent : Int), .int .u64 (p.first : Int), .int .u64 (p.deliv : Int), .int .u64 (p.at_ : Int), .bool p.lim] 35)) = w1 at *
  clear hw1 c1
  have a0 : w1.drew.cell? ⟨b, 1, none⟩ = some (.slice pL r.A.length cL) := HH.out.head.drew.cell (i := 1) rfl
  have q0 := ST0.out.drew.cell (i := 0) (v := .int .u64 (p.sent : Int)) rfl
  have q1 := ST0.out.drew.cell (i := 1) (v := .int .u64 (p.first : Int)) rfl
  have q2 := ST0.out.drew.cell (i := 2) (v := .int .u64 (p.deliv : Int)) rfl
  have q3 := ST0.out.drew.cell (i := 3) (v := .int .u64 (p.at_ : Int)) rfl
  have q4 := ST0.out.drew.cell (i := 4) (v := .bool p.lim) rfl
  have a1 : (w1.alloc (.cells #[.int .u64 (r.A.length : Int), .int .u64 (p.size : Int), .int .u64 (p.sent : Int), .int .u64 (p.first : Int), .int .u64 (p.deliv : Int), .int .u64 (p.at_ : Int), .bool p.lim] 41)).cell? ⟨b, 1, none⟩ = some (.slice pL r.A.length cL) := cell_al (w := w1) a0 _
  have HA1 := Lib.hid a1
  have HFa : Hid ((w1.alloc (.cells #[.int .u64 (r.A.length : Int), .int .u64 (p.size : Int), .int .u64 (p.sent : Int), .int .u64 (p.first : Int), .int .u64 (p.deliv : Int), .int .u64 (p.at_ : Int), .bool p.lim] 41)).frozen? ⟨b, 1, none⟩ = false) := Lib.hid ((HH.out.head.alloc _).free 1)
  have HOw : Hid ((w1.alloc (.cells #[.int .u64 (r.A.length : Int), .int .u64 (p.size : Int), .int .u64 (p.sent : Int), .int .u64 (p.first : Int), .int .u64 (p.deliv : Int), .int .u64 (p.at_ : Int), .bool p.lim] 41)).drew.ownsRow B 41 7 (.slice pL r.A.length cL) r.A.length (pcs r.A)) := Lib.hid (own_same HH.out.L fun z cs _ _ hz => Below.heap_alloc _ _ _ hz.lt)
  have HNw : Hid (Blk (w1.alloc (.cells #[.int .u64 (r.A.length : Int), .int .u64 (p.size : Int), .int .u64 (p.sent : Int), .int .u64 (p.first : Int), .int .u64 (p.deliv : Int), .int .u64 (p.at_ : Int), .bool p.lim] 41)).drew w1.heap.size 41 #[.int .u64 (r.A.length : Int), .int .u64 (p.size : Int), .int .u64 (p.sent : Int), .int .u64 (p.first : Int), .int .u64 (p.deliv : Int), .int .u64 (p.at_ : Int), .bool p.lim]) := Lib.hid (Blk.new _ _ _).drew
  have HOne : Hid (∀ u ∈ ([.int .u64 (r.A.length : Int), .int .u64 (p.size : Int), .int .u64 (p.sent : Int), .int .u64 (p.first : Int), .int .u64 (p.deliv : Int), .int .u64 (p.at_ : Int), .bool p.lim] : List Value), u.oneCell' = true) := Lib.hid (by rw [← HPn.out]; exact Itm.one p)
  have HNa : Hid (some b ≠ (Value.slice pL r.A.length cL).ownBlock) := Lib.hid (fun e => by obtain ⟨_, cs, hc⟩ := own_ge HH.out.L e.symm; exact HH.out.head.ty hc (by decide) rfl)
  have HS2 : Hid (B ≤ (w1.alloc (.cells #[.int .u64 (r.A.length : Int), .int .u64 (p.size : Int), .int .u64 (p.sent : Int), .int .u64 (p.first : Int), .int .u64 (p.deliv : Int), .int .u64 (p.at_ : Int), .bool p.lim] 41)).drew.heap.size) := Lib.hid (by have := HS1.out; simp; omega)
  go_region_law ((refine step_append_lies _ (by rfl) _ _ _ (by rfl) B 41 i0 (.agg #[.int .u64 0, .int .u64 0, .int .u64 0, .int .u64 0, .int .u64 0, .int .u64 0, .bool false]) 7 56 Try.underlying29 HI.out HZ0.out HZ1.out HZ2.out rfl (by decide) _ r.A.length (pcs r.A) (by rfl) HOw.out ⟨w1.heap.size, 0, none⟩ 1 1 [.int .u64 (r.A.length : Int), .int .u64 (p.size : Int), .int .u64 (p.sent : Int), .int .u64 (p.first : Int), .int .u64 (p.deliv : Int), .int .u64 (p.at_ : Int), .bool p.lim] (by rfl) (by rfl) (World.news_of_block HNw.out) HOne.out (by decide) (by unfold maxLen; omega) (by omega) HS2.out (w1.heap.size + 1) (by simp) ?_; intro g0 cap w5 hown hgrow hat hltg; have HOn := Lib.hid hown; have HGr := Lib.hid hgrow; clear hown hgrow hat; have u1 := (HGr.out.cell_far ⟨b, 1, none⟩ (World.block_lt_of_cell? _ _ HA1.out) HNa.out).trans HA1.out; have u2 := (HGr.out.frozen_far ⟨b, 1, none⟩ (World.block_lt_of_cell? _ _ HA1.out) HNa.out).trans HFa.out))
  all_goals
    have ecs : ([.int .u64 (r.A.length : Int), .int .u64 (p.size : Int), .int .u64 (p.sent : Int), .int .u64 (p.first : Int), .int .u64 (p.deliv : Int), .int .u64 (p.at_ : Int), .bool p.lim] : List Value) = Itm.cs p := by rw [← HPn.out]; rfl
    have hap := HH.out.app1 (p := p) HS1.out HGr.out (by have := HOn.out; rw [ecs] at this; exact this)
    clear ecs
    have H6 := Lib.hid hap.1
    have B6 : Hid (Below B w (w5.setCell ⟨b, 1, none⟩ (.slice (some ⟨g0, 0, none⟩) (r.A.length + 1) cap))) := Lib.hid (HB1.out.trans hap.2.1)
    have S6 : Hid (B ≤ (w5.setCell ⟨b, 1, none⟩ (.slice (some ⟨g0, 0, none⟩) (r.A.length + 1) cap)).heap.size) := Lib.hid (Nat.le_trans HS1.out hap.2.1.size)
    have K6 : Hid (KeepR w (w5.setCell ⟨b, 1, none⟩ (.slice (some ⟨g0, 0, none⟩) (r.A.length + 1) cap))) := Lib.hid (HKw.out.trans hap.2.2)
    clear hap u1 u2 HOn HGr HA1 HFa HOw HNw HOne HNa HS2 HH HB1 HS1 ST0 a0 a1 q0 q1 q2 q3 q4
    generalize (w5.setCell ⟨b, 1, none⟩ (.slice (some ⟨g0, 0, none⟩) (r.A.length + 1) cap)) = w6 at *
    have c2 : w6.cell? ⟨b, 2, none⟩ = some (.slice pO r.O.length cO) := H6.out.head.cell (i := 2) rfl
    have HOa : Hid ((w6.alloc (.cells #[.bool true] 4)).ownsRow B 4 1 (.slice pO r.O.length cO) r.O.length (r.O.map Value.bool)) := Lib.hid (own_same H6.out.O fun z cs _ _ hb => Below.heap_alloc _ _ _ hb.lt)
    have HNw : Hid (∀ j u, [Value.bool true][j]? = some u → (w6.alloc (.cells #[.bool true] 4)).cell? ((⟨w6.heap.size, 0, none⟩ : Addr).add j) = some u) := Lib.hid (fun j u hu => by
      match j, hu with
      | 0, hu => simp at hu; subst hu; simp [Addr.add])
    go_wp2_with (at_builtin; (refine wpList_append_own_at _ rfl _ _ 28 rfl B 4 i1 (.bool false) 1 1 Try.underlying28 HJ.out HY0.out HY1.out HY2.out rfl (by decide) (.slice pO r.O.length cO) r.O.length (r.O.map Value.bool) rfl HOa.out ⟨w6.heap.size, 0, none⟩ 1 1 [.bool true] rfl rfl HNw.out (fun u hu => by simp at hu; subst hu; rfl) (by unfold maxLen; omega) (by omega) (by have := S6.out; simp; omega) ?_); intro v' w7 hown hgr hnil hat; obtain ⟨gz, cz, rfl⟩ := own_form hown (by omega); have H7 := Lib.hid (H6.out.app2 S6.out hgr hown); have e1 := H7.out.2.2.1; have e2 := H7.out.2.2.2.1; clear hown hgr hnil hat)
    go_ret
    exact ⟨rfl, ⟨_, _, H7.out.1⟩, B6.out.trans H7.out.2.1, K6.out.trans H7.out.2.2.2.2⟩
end Go.Proofs.Ytfpopbhbhdhdnaa

namespace Go.Proofs.Ytfpopbhbhdhdnaa
open Go.RowKit

theorem RAt.put1 {w : World} {B b : Nat} {r : RS8} {vL vO v : Value} {A : List Pk} (hd : Blk w b 46 (rcells r vL vO)) (hO : w.ownsRow B 4 1 vO r.O.length (r.O.map Value.bool)) (hL : w.ownsRow B 41 7 v A.length (pcs A)) (hb : B ≤ b) : RAt (w.setCell ⟨b, 1, none⟩ v) B b { r with A := A } v vO :=
  ⟨hd.set 1 _, own_same hL fun z cs _ _ hz => Below.heap_setCell _ _ _ _ (hz.ty hd (by decide)), own_same hO fun z cs _ _ hz => Below.heap_setCell _ _ _ _ (hz.ty hd (by decide)), hb⟩
theorem RAt.put2 {w : World} {B b : Nat} {r : RS8} {vL vO v : Value} {O : List Bool} (hd : Blk w b 46 (rcells r vL vO)) (hL : w.ownsRow B 41 7 vL r.A.length (pcs r.A)) (hO : w.ownsRow B 4 1 v O.length (O.map Value.bool)) (hb : B ≤ b) : RAt (w.setCell ⟨b, 2, none⟩ v) B b { r with O := O } vL v :=
  ⟨hd.set 2 _, own_same hL fun z cs _ _ hz => Below.heap_setCell _ _ _ _ (hz.ty hd (by decide)), own_same hO fun z cs _ _ hz => Below.heap_setCell _ _ _ _ (hz.ty hd (by decide)), hb⟩
/-- What Copy leaves. -/
structure RCopy (w : World) (r : RS8) (e : Ending) (w' : World) : Prop where
  at_ : ∃ nb vL vO, e = .returned (.pointer (some ⟨nb, 0, none⟩)) ∧ RAt w' w.heap.size nb r vL vO ∧ (r.A = [] → vL = .slice none 0 0 ∧ vO = .slice none 0 0)
  bel : Below w.heap.size w w'

set_option maxRecDepth 100000 in
set_option maxHeartbeats 4000000 in
theorem rcopy_none (B b : Nat) (r : RS8) (w : World) (h : RAt w B b r (.slice none 0 0) (.slice none 0 0)) (hA : r.A = []) (hO : r.O = []) :
    Calls Try.prog 14 #[.pointer (some ⟨b, 0, none⟩)] w (RCopy w r) := by
  have a0 : w.drew.cell? ⟨b, 0, none⟩ = some (.int .u64 (r.reorder : Int)) := h.head.drew.cell (i := 0) rfl
  have a3 : w.drew.cell? ⟨b, 3, none⟩ = some (.int .u64 (r.top : Int)) := h.head.drew.cell (i := 3) rfl
  have a4 : w.drew.cell? ⟨b, 4, none⟩ = some (.bool r.some) := h.head.drew.cell (i := 4) rfl
  have HH := Lib.hid h
  have H0 := Lib.hid h
  have HA := Lib.hid (And.intro hA hO)
  clear h hA hO
  go_enter Try.func14, Try.ntmps14
  go_wp2_with fail
  go_region
  have HB1 : Hid (Below w.heap.size w (w.alloc (.cells #[.int .u64 (r.reorder : Int), .slice none 0 0, .slice none 0 0, .int .u64 (r.top : Int), .bool r.some] 46)).drew) := Lib.hid (((Below.refl _ _).alloc (Nat.le_refl _) _).trans ((Drawn.drew _).below _))
  have N1 : Hid (RAt (w.alloc (.cells #[.int .u64 (r.reorder : Int), .slice none 0 0, .slice none 0 0, .int .u64 (r.top : Int), .bool r.some] 46)).drew w.heap.size w.heap.size { r with A := [], O := [] } (.slice none 0 0) (.slice none 0 0)) := Lib.hid ⟨(Blk.new w _ _).drew, World.ownsRow_nil _ _ _ _, World.ownsRow_nil _ _ _ _, Nat.le_refl _⟩
  have S1 : Hid (w.heap.size ≤ (w.alloc (.cells #[.int .u64 (r.reorder : Int), .slice none 0 0, .slice none 0 0, .int .u64 (r.top : Int), .bool r.some] 46)).drew.heap.size) := Lib.hid HB1.out.size
  have H1 := Lib.hid (HH.out.keep HB1.out)
  clear a0 a3 a4 HH
  generalize (w.alloc (.cells #[.int .u64 (r.reorder : Int), .slice none 0 0, .slice none 0 0, .int .u64 (r.top : Int), .bool r.some] 46)).drew = w1 at *
  generalize hnb : w.heap.size = nb at *
  have HNb := Lib.hid hnb
  clear hnb
  have n1 : w1.drew.cell? ⟨nb, 1, none⟩ = some (.slice none 0 0) := N1.out.head.drew.cell (i := 1) rfl
  have g1 := N1.out.head.drew.free 1
  have c1 : w1.drew.cell? ⟨b, 1, none⟩ = some (.slice none 0 0) := H1.out.head.drew.cell (i := 1) rfl
  go_wp2_with fail
  go_region
  have N2 : Hid (RAt (w1.setCell ⟨nb, 1, none⟩ (.slice none 0 0)).drew nb nb { r with A := [], O := [] } (.slice none 0 0) (.slice none 0 0)) := Lib.hid (by
    have := (RAt.put1 (A := []) N1.out.head N1.out.O (World.ownsRow_nil _ _ _ _) (Nat.le_refl _)).drawn (Drawn.drew _)
    exact this)
  have F2 := (Fr.refl w1 [nb]).set (c := nb) (.inl (by simp)) 1 (.slice none 0 0)
  have HB2 : Hid (Below nb w (w1.setCell ⟨nb, 1, none⟩ (.slice none 0 0)).drew) := Lib.hid ((HB1.out.trans ⟨F2.os, F2.tape, F2.output, F2.size, fun z hz => F2.block z (by have := S1.out; omega) (by simp; omega)⟩).trans ((Drawn.drew _).below _))
  have S2 : Hid (nb ≤ (w1.setCell ⟨nb, 1, none⟩ (.slice none 0 0)).drew.heap.size) := Lib.hid (Nat.le_trans S1.out F2.size)
  have H2 := Lib.hid (H0.out.keep (by rw [HNb.out]; exact HB2.out))
  clear F2 n1 g1 c1 N1 H1 HB1 S1
  generalize (w1.setCell ⟨nb, 1, none⟩ (.slice none 0 0)).drew = w2 at *
  have n2 : w2.drew.cell? ⟨nb, 2, none⟩ = some (.slice none 0 0) := N2.out.head.drew.cell (i := 2) rfl
  have g2 := N2.out.head.drew.free 2
  have c2 : w2.drew.cell? ⟨b, 2, none⟩ = some (.slice none 0 0) := H2.out.head.drew.cell (i := 2) rfl
  go_wp2_with fail
  go_region
  have N3 : Hid (RAt (w2.setCell ⟨nb, 2, none⟩ (.slice none 0 0)).drew nb nb { r with A := [], O := [] } (.slice none 0 0) (.slice none 0 0)) := Lib.hid (by
    have := (RAt.put2 (O := []) N2.out.head N2.out.L (World.ownsRow_nil _ _ _ _) (Nat.le_refl _)).drawn (Drawn.drew _)
    exact this)
  have F3 := (Fr.refl w2 [nb]).set (c := nb) (.inl (by simp)) 2 (.slice none 0 0)
  have HB3 : Hid (Below nb w (w2.setCell ⟨nb, 2, none⟩ (.slice none 0 0)).drew) := Lib.hid ((HB2.out.trans ⟨F3.os, F3.tape, F3.output, F3.size, fun z hz => F3.block z (by have := S2.out; omega) (by simp; omega)⟩).trans ((Drawn.drew _).below _))
  clear F3 n2 g2 c2
  go_wp2
  go_ret
  refine ⟨⟨nb, _, _, rfl, ?_, fun _ => ⟨rfl, rfl⟩⟩, by rw [HNb.out]; exact HB3.out⟩
  rw [HNb.out]
  have e : ({ r with A := [], O := [] } : RS8) = r := by
    obtain ⟨e1, e2⟩ := HA.out
    cases r
    simp at e1 e2
    subst e1 e2
    rfl
  have := N3.out
  rw [e] at this
  exact this

set_option maxRecDepth 100000 in
set_option maxHeartbeats 4000000 in
theorem rcopy_some (B b : Nat) (r : RS8) (vL vO : Value) (w : World) (h : RAt w B b r vL vO) (hr : r.ok) (hp : 0 < r.A.length) :
    Calls Try.prog 14 #[.pointer (some ⟨b, 0, none⟩)] w (RCopy w r) := by
  obtain ⟨pL, cL, pO, cO, rfl, rfl⟩ := h.form
  have hf := hr.few
  have hol : r.O.length ≤ 500 := by have := hr.len; omega
  have hop : 0 < r.O.length := by have := hr.len; omega
  obtain ⟨gL, kL, eL⟩ := own_form h.L hp
  obtain ⟨gO, kO, eO⟩ := own_form h.O hop
  injection eL with e1 e2 e3
  injection eO with e4 e5 e6
  subst e1 e3 e4 e6
  have a0 : w.drew.cell? ⟨b, 0, none⟩ = some (.int .u64 (r.reorder : Int)) := h.head.drew.cell (i := 0) rfl
  have a3 : w.drew.cell? ⟨b, 3, none⟩ = some (.int .u64 (r.top : Int)) := h.head.drew.cell (i := 3) rfl
  have a4 : w.drew.cell? ⟨b, 4, none⟩ = some (.bool r.some) := h.head.drew.cell (i := 4) rfl
  have HH := Lib.hid h
  have H0 := Lib.hid h
  obtain ⟨i0, hi, hz0, hz1, hz2⟩ := info_parts pk_info
  have HI := Lib.hid hi
  have HZ0 := Lib.hid hz0
  have HZ1 := Lib.hid hz1
  have HZ2 := Lib.hid hz2
  obtain ⟨i1, hj, hy0, hy1, hy2⟩ := info_parts vbool_info
  have HJ := Lib.hid hj
  have HY0 := Lib.hid hy0
  have HY1 := Lib.hid hy1
  have HY2 := Lib.hid hy2
  clear h hr hi hz0 hz1 hz2 hj hy0 hy1 hy2
  go_enter Try.func14, Try.ntmps14
  go_wp2_with fail
  go_region
  have HB1 : Hid (Below w.heap.size w (w.alloc (.cells #[.int .u64 (r.reorder : Int), .slice none 0 0, .slice none 0 0, .int .u64 (r.top : Int), .bool r.some] 46)).drew) := Lib.hid (((Below.refl _ _).alloc (Nat.le_refl _) _).trans ((Drawn.drew _).below _))
  have N1 : Hid (RAt (w.alloc (.cells #[.int .u64 (r.reorder : Int), .slice none 0 0, .slice none 0 0, .int .u64 (r.top : Int), .bool r.some] 46)).drew w.heap.size w.heap.size { r with A := [], O := [] } (.slice none 0 0) (.slice none 0 0)) := Lib.hid ⟨(Blk.new w _ _).drew, World.ownsRow_nil _ _ _ _, World.ownsRow_nil _ _ _ _, Nat.le_refl _⟩
  have S1 : Hid (w.heap.size ≤ (w.alloc (.cells #[.int .u64 (r.reorder : Int), .slice none 0 0, .slice none 0 0, .int .u64 (r.top : Int), .bool r.some] 46)).drew.heap.size) := Lib.hid HB1.out.size
  have H1 := Lib.hid (HH.out.keep HB1.out)
  clear a0 a3 a4 HH
  generalize (w.alloc (.cells #[.int .u64 (r.reorder : Int), .slice none 0 0, .slice none 0 0, .int .u64 (r.top : Int), .bool r.some] 46)).drew = w1 at *
  generalize hnb : w.heap.size = nb at *
  have HNb := Lib.hid hnb
  clear hnb
  have n1 : w1.drew.cell? ⟨nb, 1, none⟩ = some (.slice none 0 0) := N1.out.head.drew.cell (i := 1) rfl
  have g1 := N1.out.head.drew.free 1
  have c1 : w1.drew.cell? ⟨b, 1, none⟩ = some (.slice (some ⟨gL, 0, none⟩) r.A.length cL) := H1.out.head.drew.cell (i := 1) rfl
  have HNL : Hid (∀ j u, (pcs r.A)[j]? = some u → w1.drew.cell? ((⟨gL, 0, none⟩ : Addr).add j) = some u) := Lib.hid (fun j u hu => H1.out.L.cells (g := gL) rfl j u hu)
  have HOne : Hid (∀ u ∈ pcs r.A, u.oneCell' = true) := Lib.hid (fun u hu => by
    obtain ⟨x, _, hx⟩ := List.mem_flatMap.1 hu
    exact Itm.one x u hx)
  have HLl : Hid ((pcs r.A).length = r.A.length * 7) := Lib.hid H1.out.L.1
  have HNl : Hid (w1.drew.ownsRow nb 41 7 (.slice none 0 0) 0 []) := Lib.hid (World.ownsRow_nil _ _ _ _)
  have HC1 := Lib.hid n1
  have HG1 := Lib.hid g1
  have S1d : Hid (nb ≤ w1.drew.heap.size) := Lib.hid S1.out
  go_wp2_with fail
  go_region_law ((refine step_append_lies _ (by rfl) _ _ _ (by rfl) nb 41 i0 (.agg #[.int .u64 0, .int .u64 0, .int .u64 0, .int .u64 0, .int .u64 0, .int .u64 0, .bool false]) 7 56 Try.underlying29 HI.out HZ0.out HZ1.out HZ2.out rfl (by decide) _ 0 [] (by rfl) HNl.out ⟨gL, 0, none⟩ r.A.length cL (pcs r.A) (by rfl) HLl.out HNL.out HOne.out hp (by unfold maxLen; omega) (by omega) S1d.out w1.heap.size (by simp) ?_; intro g0 cap w5 hown hgrow hat hltg; have HOn := Lib.hid hown; have HGr := Lib.hid hgrow; clear hown hgrow hat; have u1 := (HGr.out.cell_far ⟨nb, 1, none⟩ (World.block_lt_of_cell? _ _ HC1.out) (fun e => by cases e)).trans HC1.out; have u2 := (HGr.out.frozen_far ⟨nb, 1, none⟩ (World.block_lt_of_cell? _ _ HC1.out) (fun e => by cases e)).trans HG1.out))
  all_goals
    have hd5 := N1.out.head.drew.grown HGr.out (fun e => by cases e)
    have hL5 : w5.ownsRow nb 41 7 (.slice (some ⟨g0, 0, none⟩) r.A.length cap) r.A.length (pcs r.A) := by have := HOn.out; simpa using this
    have N2 := Lib.hid (RAt.put1 (A := r.A) hd5 (World.ownsRow_nil _ _ _ _) hL5 (Nat.le_refl _))
    have hb5 : Below nb w w5 := (HB1.out.trans ((Drawn.drew _).below _)).grown HGr.out (by have := S1d.out; exact this) (fun z e => by cases e)
    have F2 := (Fr.refl w5 [nb]).set (c := nb) (.inl (by simp)) 1 (.slice (some ⟨g0, 0, none⟩) r.A.length cap)
    have hs5 : nb ≤ w5.heap.size := Nat.le_trans S1d.out HGr.out.size
    have HB2 : Hid (Below nb w (w5.setCell ⟨nb, 1, none⟩ (.slice (some ⟨g0, 0, none⟩) r.A.length cap))) := Lib.hid (hb5.trans ⟨F2.os, F2.tape, F2.output, F2.size, fun z hz => F2.block z (by omega) (by simp; omega)⟩)
    have S2 : Hid (nb ≤ (w5.setCell ⟨nb, 1, none⟩ (.slice (some ⟨g0, 0, none⟩) r.A.length cap)).heap.size) := Lib.hid (Nat.le_trans hs5 F2.size)
    have H2 := Lib.hid (H0.out.keep (by rw [HNb.out]; exact HB2.out))
    clear hd5 hL5 hb5 F2 hs5 u1 u2 HOn HGr n1 g1 c1 N1 H1 HB1 S1 S1d HNL HOne HLl HNl HC1 HG1
    generalize (w5.setCell ⟨nb, 1, none⟩ (.slice (some ⟨g0, 0, none⟩) r.A.length cap)) = w2 at *
    have n2 : w2.drew.cell? ⟨nb, 2, none⟩ = some (.slice none 0 0) := N2.out.head.drew.cell (i := 2) rfl
    have g2 := N2.out.head.drew.free 2
    have c2 : w2.drew.cell? ⟨b, 2, none⟩ = some (.slice (some ⟨gO, 0, none⟩) r.O.length cO) := H2.out.head.drew.cell (i := 2) rfl
    have HNO : Hid (∀ j u, (r.O.map Value.bool)[j]? = some u → w2.drew.cell? ((⟨gO, 0, none⟩ : Addr).add j) = some u) := Lib.hid (fun j u hu => H2.out.O.cells (g := gO) rfl j u hu)
    have HOn1 : Hid (∀ u ∈ r.O.map Value.bool, u.oneCell' = true) := Lib.hid (fun u hu => by
      obtain ⟨x, _, rfl⟩ := List.mem_map.1 hu
      rfl)
    have HOl : Hid ((r.O.map Value.bool).length = r.O.length * 1) := Lib.hid (by simp)
    have HNn : Hid (w2.drew.ownsRow nb 4 1 (.slice none 0 0) 0 []) := Lib.hid (World.ownsRow_nil _ _ _ _)
    have HC2 := Lib.hid n2
    have HG2 := Lib.hid g2
    have S2d : Hid (nb ≤ w2.drew.heap.size) := Lib.hid S2.out
    go_wp2_with fail
    go_region_law ((refine step_append_lies _ (by rfl) _ _ _ (by rfl) nb 4 i1 (.bool false) 1 1 Try.underlying28 HJ.out HY0.out HY1.out HY2.out rfl (by decide) _ 0 [] (by rfl) HNn.out ⟨gO, 0, none⟩ r.O.length cO (r.O.map Value.bool) (by rfl) HOl.out HNO.out HOn1.out hop (by unfold maxLen; omega) (by omega) S2d.out w2.heap.size (by simp) ?_; intro g6 cap6 w6 hown hgrow hat hltg; have HOn := Lib.hid hown; have HGr := Lib.hid hgrow; clear hown hgrow hat; have u1 := (HGr.out.cell_far ⟨nb, 2, none⟩ (World.block_lt_of_cell? _ _ HC2.out) (fun e => by cases e)).trans HC2.out; have u2 := (HGr.out.frozen_far ⟨nb, 2, none⟩ (World.block_lt_of_cell? _ _ HC2.out) (fun e => by cases e)).trans HG2.out))
    all_goals
      have hd6 := N2.out.head.drew.grown HGr.out (fun e => by cases e)
      have hL6 : w6.ownsRow nb 41 7 (.slice (some ⟨g0, 0, none⟩) r.A.length cap) r.A.length (pcs r.A) := own_same N2.out.L fun z cs _ _ hz => HGr.out.block z hz.lt (fun e => by cases e)
      have hO6 : w6.ownsRow nb 4 1 (.slice (some ⟨g6, 0, none⟩) r.O.length cap6) r.O.length (r.O.map Value.bool) := by have := HOn.out; simpa using this
      have N3 := Lib.hid (RAt.put2 (r := { r with O := [] }) (O := r.O) hd6 hL6 hO6 (Nat.le_refl _))
      have hb6 : Below nb w w6 := (HB2.out.trans ((Drawn.drew _).below _)).grown HGr.out (by have := S2d.out; exact this) (fun z e => by cases e)
      have F3 := (Fr.refl w6 [nb]).set (c := nb) (.inl (by simp)) 2 (.slice (some ⟨g6, 0, none⟩) r.O.length cap6)
      have hs6 : nb ≤ w6.heap.size := Nat.le_trans S2d.out HGr.out.size
      have HB3 : Hid (Below nb w (w6.setCell ⟨nb, 2, none⟩ (.slice (some ⟨g6, 0, none⟩) r.O.length cap6))) := Lib.hid (hb6.trans ⟨F3.os, F3.tape, F3.output, F3.size, fun z hz => F3.block z (by omega) (by simp; omega)⟩)
      clear hd6 hL6 hO6 hb6 F3 hs6 u1 u2 HOn HGr n2 g2 c2
      go_wp2
      go_ret
      exact ⟨⟨nb, _, _, rfl, by rw [HNb.out]; exact N3.out, fun e => by rw [e] at hp; simp at hp⟩, by rw [HNb.out]; exact HB3.out⟩
theorem rcopy_any (B b : Nat) (r : RS8) (vL vO : Value) (w : World) (h : RAt w B b r vL vO) (hr : r.ok) (hn : r.A = [] → vL = .slice none 0 0 ∧ vO = .slice none 0 0) :
    Calls Try.prog 14 #[.pointer (some ⟨b, 0, none⟩)] w (RCopy w r) := by
  by_cases c : 0 < r.A.length
  · exact rcopy_some B b r vL vO w h hr c
  · have hA : r.A = [] := List.eq_nil_of_length_eq_zero (by omega)
    have hO : r.O = [] := List.eq_nil_of_length_eq_zero (by have := hr.len; omega)
    obtain ⟨rfl, rfl⟩ := hn hA
    exact rcopy_none B b r w h hA hO
end Go.Proofs.Ytfpopbhbhdhdnaa

namespace Go.Proofs.Ytfpopbhbhdhdnaa
open Go.RowKit

def LedP (B b : Nat) (P : List Pk) (nx top : Nat) (tp : Bool) (ro : Nat) (w : World) : Prop := ∃ rb g s, LAt w b rb g s ∧ s.ok ∧ outP s.ks = P ∧ s.next = nx ∧ s.top = top ∧ s.topped = tp ∧ s.reorder = ro ∧ ∀ x ∈ blocksL b rb g s, B ≤ x
def RefP (B mb : Nat) (r : RS8) (w : World) : Prop := ∃ vL vO, RAt w B mb r vL vO ∧ (r.A = [] → vL = .slice none 0 0 ∧ vO = .slice none 0 0)
structure Pair (B b mb : Nat) (r : RS8) (w : World) : Prop where
  led : LedP B b (sel r.A r.O) r.A.length r.top r.some r.reorder w
  ref : RefP B mb r w
  ok : r.ok

theorem LedP.keep {B b : Nat} {P : List Pk} {nx top : Nat} {tp : Bool} {ro : Nat} {w w' : World} (h : LedP B b P nx top tp ro w) (k : Below w.heap.size w w') : LedP B b P nx top tp ro w' := by
  obtain ⟨rb, g, s, h1, h2⟩ := h
  exact ⟨rb, g, s, h1.keep k, h2⟩
theorem RefP.keep {B mb : Nat} {r : RS8} {w w' : World} (h : RefP B mb r w) (k : Below w.heap.size w w') : RefP B mb r w' := by
  obtain ⟨vL, vO, h1, h2⟩ := h
  exact ⟨vL, vO, h1.keep k, h2⟩
theorem Pair.keep {B b mb : Nat} {r : RS8} {w w' : World} (h : Pair B b mb r w) (k : Below w.heap.size w w') : Pair B b mb r w' := ⟨h.led.keep k, h.ref.keep k, h.ok⟩
theorem LAt.kr {w w' : World} {b rb g : Nat} {s : LS} (h : LAt w b rb g s) (k : KeepR w w') : LAt w' b rb g s := by
  obtain ⟨c1, hc1⟩ := h.row.head
  obtain ⟨c2, hc2⟩ := h.row.body
  refine ⟨by unfold Blk; rw [k _ _ _ h.head (by decide) (by decide) (by decide)]; exact h.head, h.row.blk2 fun x T cs hx hb => ?_, fun x hx => ?_⟩
  · rcases hx with rfl | rfl
    · exact k _ _ _ hc1 (by decide) (by decide) (by decide)
    · exact k _ _ _ hc2 (by decide) (by decide) (by decide)
  · have := h.kept x hx
    unfold Blk
    rw [k _ _ _ this (by decide) (by decide) (by decide)]
    exact this
theorem LedP.kr {B b : Nat} {P : List Pk} {nx top : Nat} {tp : Bool} {ro : Nat} {w w' : World} (h : LedP B b P nx top tp ro w) (k : KeepR w w') : LedP B b P nx top tp ro w' := by
  obtain ⟨rb, g, s, h1, h2⟩ := h
  exact ⟨rb, g, s, h1.kr k, h2⟩
/-- What a method of the ledger leaves of the document's own. -/
theorem RAt.led {w w' : World} {B mb b rb g : Nat} {s : LS} {r : RS8} {vL vO : Value} (h : RAt w B mb r vL vO) (hl : LAt w b rb g s) (k : Fr w w' (blocksL b rb g s)) : RAt w' B mb r vL vO := by
  have ho : ∀ {z T cs}, Blk w z T cs → T ≠ 61 → T ≠ 86 → T ≠ 59 → T ≠ 66 → w'.heap[z]? = w.heap[z]? := fun {z T cs} hz e1 e2 e3 e4 => k.block z hz.lt (hl.off hz e1 e2 e3 e4)
  exact ⟨by unfold Blk; rw [ho h.head (by decide) (by decide) (by decide) (by decide)]; exact h.head, own_same h.L fun z cs _ _ hz => ho hz (by decide) (by decide) (by decide) (by decide), own_same h.O fun z cs _ _ hz => ho hz (by decide) (by decide) (by decide) (by decide), h.lo⟩
theorem RefP.led {w w' : World} {B mb b rb g : Nat} {s : LS} {r : RS8} (h : RefP B mb r w) (hl : LAt w b rb g s) (k : Fr w w' (blocksL b rb g s)) : RefP B mb r w' := by
  obtain ⟨vL, vO, h1, h2⟩ := h
  exact ⟨vL, vO, h1.led hl k, h2⟩
theorem fr_belowB {B : Nat} {w w' : World} {L : List Nat} (k : Fr w w' L) (hw : B ≤ w.heap.size) (hL : ∀ x ∈ L, B ≤ x) : Below B w w' := ⟨k.os, k.tape, k.output, k.size, fun z hz => k.block z (by omega) (fun hm => by have := hL z hm; omega)⟩
theorem LedP.end {w w' : World} {B b rb g : Nat} {s : LS} {P' : List Pk} {nx' top' : Nat} {tp' : Bool} {ro' : Nat} (h5 : ∀ x ∈ blocksL b rb g s, B ≤ x) (hw : B ≤ w.heap.size) (k : LedEnd w b rb g s (fun s' => outP s'.ks = P' ∧ s'.next = nx' ∧ s'.top = top' ∧ s'.topped = tp' ∧ s'.reorder = ro') w') : LedP B b P' nx' top' tp' ro' w' ∧ Below B w w' := by
  obtain ⟨⟨rb', g', s', k1, k2, ⟨k3, k4, k5, k6, k7⟩, k8⟩, k9⟩ := k
  refine ⟨⟨rb', g', s', k1, k2, k3, k4, k5, k6, k7, fun x hx => ?_⟩, fr_belowB k9 hw h5⟩
  rcases k8 x hx with c | c
  · exact h5 x c
  · omega

/-- The boxes of acts and of stamps are as they were. -/
def KB (w w' : World) : Prop := ∀ z T cs, Blk w z T cs → (T = 32 ∨ T = 35) → w'.heap[z]? = w.heap[z]?
theorem KB.led {w w' : World} {b rb g : Nat} {s : LS} (hl : LAt w b rb g s) (k : Fr w w' (blocksL b rb g s)) : KB w w' := fun z T cs hz hT => k.block z hz.lt (by
  rcases hT with rfl | rfl
  · exact hl.off hz (by decide) (by decide) (by decide) (by decide)
  · exact hl.off hz (by decide) (by decide) (by decide) (by decide))
theorem KB.kr {w w' : World} (k : KeepR w w') : KB w w' := fun z T cs hz hT => by
  rcases hT with rfl | rfl
  · exact k _ _ _ hz (by decide) (by decide) (by decide)
  · exact k _ _ _ hz (by decide) (by decide) (by decide)
/-- Send, twice. -/
theorem pair_send1 {B b mb : Nat} {r : RS8} {w : World} (h : Pair B b mb r w) (hw : B ≤ w.heap.size) (hx : r.A.length ≤ 499) (p : Pk) (hp : p.ok) (hpn : p.n = r.A.length) :
    Calls Try.prog 8 #[.pointer (some ⟨b, 0, none⟩), .int .u64 (p.size : Int), .agg #[.int .u64 (p.sent : Int), .int .u64 (p.first : Int), .int .u64 (p.deliv : Int), .int .u64 (p.at_ : Int), .bool p.lim]] w fun e w' => e = .returned (.int .u64 (r.A.length : Int)) ∧ LedP B b (sel r.A r.O ++ [p]) (r.A.length + 1) r.top r.some r.reorder w' ∧ RefP B mb r w' ∧ Below B w w' ∧ KB w w' := by
  obtain ⟨rb, g, s, k1, k2, k3, k4, k5, k6, k7, k8⟩ := h.led
  refine (send_any b rb g s w k1 k2 p hp (by rw [hpn, k4]) (by omega)).mono ?_
  rintro e w' ⟨rfl, ⟨g', kb, m1, m2, m3, m4⟩, m5⟩
  obtain ⟨a1, a2⟩ := LedP.end (P' := sel r.A r.O ++ [p]) (nx' := r.A.length + 1) (top' := r.top) (tp' := r.some) (ro' := r.reorder) k8 hw ⟨⟨rb, g', _, m1, LS.push_ok k2 hp (by rw [hpn, k4]) (by omega) m2, ⟨by rw [outP_push, k3], by show s.next + 1 = _; rw [k4], k5, k6, k7⟩, fun x hx => by
    simp only [blocksL, LS.push, List.map_append, List.mem_cons, List.mem_append, List.map_cons, List.map_nil, List.not_mem_nil, or_false] at hx ⊢
    rcases hx with rfl | rfl | rfl | hx | rfl
    · simp
    · simp
    · rcases m3 with rfl | m3
      · simp
      · exact .inr m3
    · exact .inl (.inr (.inr (.inr hx)))
    · exact .inr m4⟩, m5⟩
  exact ⟨by rw [k4], a1, h.ref.led k1 m5, a2, KB.led k1 m5⟩
theorem sel_snoc {A : List Pk} {O : List Bool} (h : O.length = A.length) (p : Pk) : sel (A ++ [p]) (O ++ [true]) = sel A O ++ [p] := by
  unfold sel
  rw [List.zip_append h.symm, List.filter_append, List.map_append]
  rfl
theorem RS8.snoc_ok {r : RS8} (h : r.ok) {p : Pk} (hp : p.ok) (hpn : p.n = r.A.length) (hx : r.A.length ≤ 499) : ({ r with A := r.A ++ [p], O := r.O ++ [true] } : RS8).ok := by
  refine ⟨by have := h.len; show (r.O ++ [true]).length = (r.A ++ [p]).length; simp; omega, fun q hq => ?_, fun i hi => ?_, by show (r.A ++ [p]).length ≤ 500; simp; omega, h.reorder, h.top⟩
  · rcases List.mem_append.1 hq with hq | hq
    · exact h.pk q hq
    · simp at hq; subst hq; exact hp
  · have hi' : i < (r.A ++ [p]).length := hi
    rw [List.length_append] at hi'
    simp at hi'
    show ((r.A ++ [p]).getD i Itm.z).n = i
    by_cases c : i < r.A.length
    · have := h.num i c
      rw [List.getD_eq_getElem?_getD] at this ⊢
      rw [List.getElem?_append_left c]
      exact this
    · obtain rfl : i = r.A.length := by omega
      rw [List.getD_eq_getElem?_getD, List.getElem?_append_right (Nat.le_refl _), Nat.sub_self]
      exact hpn
theorem pair_send2 {B b mb : Nat} {r : RS8} {w : World} {p : Pk} (hl : LedP B b (sel r.A r.O ++ [p]) (r.A.length + 1) r.top r.some r.reorder w) (hm : RefP B mb r w) (hr : r.ok) (hw : B ≤ w.heap.size) (hx : r.A.length ≤ 499) (hp : p.ok) (hpn : p.n = r.A.length) :
    Calls Try.prog 33 #[.pointer (some ⟨mb, 0, none⟩), .int .u64 (p.size : Int), .agg #[.int .u64 (p.sent : Int), .int .u64 (p.first : Int), .int .u64 (p.deliv : Int), .int .u64 (p.at_ : Int), .bool p.lim]] w fun e w' => e = .returned (.int .u64 (r.A.length : Int)) ∧ Pair B b mb { r with A := r.A ++ [p], O := r.O ++ [true] } w' ∧ Below B w w' ∧ KB w w' := by
  obtain ⟨vL, vO, h1, h2⟩ := hm
  refine (rSend_any B mb r vL vO w h1 hr hw p hp hpn).mono ?_
  rintro e w' ⟨rfl, ⟨vL', vO', k1⟩, k2, k3⟩
  refine ⟨rfl, ⟨?_, ⟨vL', vO', k1, fun e => absurd e (by simp)⟩, RS8.snoc_ok hr hp hpn hx⟩, k2, KB.kr k3⟩
  have := hl.kr k3
  show LedP B b (sel (r.A ++ [p]) (r.O ++ [true])) (r.A ++ [p]).length r.top r.some r.reorder w'
  rw [sel_snoc hr.len, List.length_append]
  exact this

theorem hasB_iff {l : List Rn} {n : Nat} : hasB l n = true ↔ InR l n := by
  unfold hasB InR
  rw [List.any_eq_true]
  constructor
  · rintro ⟨r, hr, h⟩
    exact ⟨r, hr, by simpa using h⟩
  · rintro ⟨r, hr, h⟩
    exact ⟨r, hr, by simpa using h⟩
theorem has_puts {l Q : List Rn} (h : Puts [] l Q) : inQp Q = fun p => hasB l p.n := by
  funext p
  rw [Bool.eq_iff_iff, inQp_iff, h.mem, hasB_iff]
  constructor
  · rintro (c | c)
    · exact absurd c (inR_nil _)
    · exact c
  · exact .inr
/-- Ack, twice. -/
theorem pair_ack1 {B b mb : Nat} {r : RS8} {w : World} (h : Pair B b mb r w) (hw : B ≤ w.heap.size) (lp : Option Addr) (lc : Nat) (l : List Rn) (hl : Its w lp l) (hm : l.length ≤ 1000) (ho : l.all okB = true) (hu : ∀ q ∈ l, q.u64) :
    Calls Try.prog 9 #[.pointer (some ⟨b, 0, none⟩), .slice lp l.length lc] w fun e w' => ∃ v, e = .returned (.tuple #[v, .int .i64 0]) ∧ PR w' v ((sel r.A r.O).filter fun p => hasB l p.n) ∧ LedP B b ((sel r.A r.O).filter fun p => !hasB l p.n) r.A.length (topOf r.top ((sel r.A r.O).filter fun p => hasB l p.n)) (r.some || !((sel r.A r.O).filter fun p => hasB l p.n).isEmpty) r.reorder w' ∧ RefP B mb r w' ∧ Below B w w' ∧ KB w w' := by
  obtain ⟨rb, g, s, k1, k2, k3, k4, k5, k6, k7, k8⟩ := h.led
  refine (ack_any b rb g lp lc l s w k1 k2 hl hm ho hu).mono ?_
  rintro e w' ⟨Q, hQ, ⟨v, rfl, m1, m2⟩, m3⟩
  have hq := has_puts hQ
  rw [hq, k3] at m1 m3
  obtain ⟨a1, a2⟩ := LedP.end k8 hw (m3.imp fun s' (k : _ ∧ _ ∧ _ ∧ _ ∧ _) => (⟨k.1, by rw [k.2.2.1, k4], by rw [k.2.2.2.1, k5]; rfl, by rw [k.2.2.2.2, k6], by rw [k.2.1, k7]⟩ : outP s'.ks = (sel r.A r.O).filter (fun p => !hasB l p.n) ∧ s'.next = r.A.length ∧ s'.top = topOf r.top ((sel r.A r.O).filter fun p => hasB l p.n) ∧ s'.topped = (r.some || !((sel r.A r.O).filter fun p => hasB l p.n).isEmpty) ∧ s'.reorder = r.reorder))
  exact ⟨v, rfl, m1, a1, h.ref.led k1 m3.fr, a2, KB.led k1 m3.fr⟩
theorem RTook.pair {B b mb : Nat} {r : RS8} {w w' : World} {f : Pk → Bool} {vL vO : Value} {R : Value → Ending → Prop} {top : Nat} {sm : Bool} {e : Ending} (h : RTook w B mb r f vL vO R top sm e w') (hn : r.A = [] → vL = .slice none 0 0 ∧ vO = .slice none 0 0) (hr : r.ok) (ht : top ≤ 100000) (hl : LedP B b ((sel r.A r.O).filter fun p => !f p) r.A.length top sm r.reorder w) :
    ∃ v r', R v e ∧ PR w' v ((sel r.A r.O).filter f) ∧ (∀ v l, PR w v l → PR w' v l) ∧ Pair B b mb r' w' ∧ Below B w w' ∧ KB w w' ∧ r'.A = r.A ∧ r'.reorder = r.reorder := by
  obtain ⟨⟨v, h1, h2, h3⟩, ⟨O, h4, h5, h6⟩, h7, h8⟩ := h
  refine ⟨v, { r with O := O, top := top, some := sm }, h1, h2, fun v l hv => hv.same fun k cs _ hk => h8.2 k _ cs hk (by decide) (by decide), ⟨?_, ⟨vL, vO, h4, hn⟩, ⟨h6, hr.pk, hr.num, hr.few, hr.reorder, ht⟩⟩, h7, KB.kr h8.kr, rfl, rfl⟩
  show LedP B b (sel r.A O) r.A.length top sm r.reorder w'
  rw [h5]
  exact hl.kr h8.kr
theorem top_few {r : RS8} (hr : r.ok) (f : Pk → Bool) : topOf r.top ((sel r.A r.O).filter f) ≤ 100000 := topOf_le hr.top fun p hp => (hr.pk p (sel_mem (List.mem_filter.1 hp).1)).n
theorem pair_ack2 {B b mb : Nat} {r : RS8} {w : World} (lp : Option Addr) (lc : Nat) (l : List Rn) (hl : LedP B b ((sel r.A r.O).filter fun p => !hasB l p.n) r.A.length (topOf r.top ((sel r.A r.O).filter fun p => hasB l p.n)) (r.some || !((sel r.A r.O).filter fun p => hasB l p.n).isEmpty) r.reorder w) (hm : RefP B mb r w) (hr : r.ok) (hw : B ≤ w.heap.size) (hI : ∀ W', Below B w W' → Its W' lp l) (hlm : l.length ≤ 1000) (hu : ∀ q ∈ l, q.u64) (ho : l.all okB = true) :
    Calls Try.prog 34 #[.pointer (some ⟨mb, 0, none⟩), .slice lp l.length lc] w fun e w' => ∃ v r', e = .returned (.tuple #[v, .int .i64 0]) ∧ PR w' v ((sel r.A r.O).filter fun p => hasB l p.n) ∧ (∀ v l, PR w v l → PR w' v l) ∧ Pair B b mb r' w' ∧ Below B w w' ∧ KB w w' ∧ r'.A = r.A ∧ r'.reorder = r.reorder := by
  obtain ⟨vL, vO, h1, h2⟩ := hm
  exact (rAck_any B mb r vL vO w h1 hr hw lp lc l hI hlm hu ho).mono fun e w' k => k.pair h2 hr (top_few hr _) hl
/-- Lost, twice. -/
theorem pair_lost1 {B b mb : Nat} {r : RS8} {w : World} (h : Pair B b mb r w) (hw : B ≤ w.heap.size) (now delay limit : Nat) (hdl : delay ≤ 18446744073709551615) (hlm : limit ≤ 18446744073709551615) :
    Calls Try.prog 10 #[.pointer (some ⟨b, 0, none⟩), .int .u64 (now : Int), .int .u64 (delay : Int), .int .u64 (limit : Int)] w fun e w' => ∃ v, e = .returned v ∧ PR w' v ((sel r.A r.O).filter (lostR r now delay limit)) ∧ LedP B b ((sel r.A r.O).filter fun p => !lostR r now delay limit p) r.A.length r.top r.some r.reorder w' ∧ RefP B mb r w' ∧ Below B w w' ∧ KB w w' := by
  obtain ⟨rb, g, s, k1, k2, k3, k4, k5, k6, k7, k8⟩ := h.led
  refine (lost_any b rb g now delay limit s w k1 k2 hdl hlm).mono ?_
  rintro e w' ⟨⟨v, rfl, m1, m2⟩, m3⟩
  have hq : lostB s now delay limit = lostR r now delay limit := by
    funext p
    exact (lostR_eq k6 k5 k7 k2 now delay limit p).symm
  rw [hq, k3] at m1 m3
  obtain ⟨a1, a2⟩ := LedP.end k8 hw (m3.imp fun s' (k : _ ∧ _ ∧ _ ∧ _ ∧ _) => (⟨k.1, by rw [k.2.2.1, k4], by rw [k.2.2.2.1, k5], by rw [k.2.2.2.2, k6], by rw [k.2.1, k7]⟩ : outP s'.ks = (sel r.A r.O).filter (fun p => !lostR r now delay limit p) ∧ s'.next = r.A.length ∧ s'.top = r.top ∧ s'.topped = r.some ∧ s'.reorder = r.reorder))
  exact ⟨v, rfl, m1, a1, h.ref.led k1 m3.fr, a2, KB.led k1 m3.fr⟩
theorem pair_lost2 {B b mb : Nat} {r : RS8} {w : World} (now delay limit : Nat) (hdl : delay ≤ 18446744073709551615) (hlm : limit ≤ 18446744073709551615) (hl : LedP B b ((sel r.A r.O).filter fun p => !lostR r now delay limit p) r.A.length r.top r.some r.reorder w) (hm : RefP B mb r w) (hr : r.ok) (hw : B ≤ w.heap.size) :
    Calls Try.prog 36 #[.pointer (some ⟨mb, 0, none⟩), .int .u64 (now : Int), .int .u64 (delay : Int), .int .u64 (limit : Int)] w fun e w' => ∃ v r', e = .returned v ∧ PR w' v ((sel r.A r.O).filter (lostR r now delay limit)) ∧ (∀ v l, PR w v l → PR w' v l) ∧ Pair B b mb r' w' ∧ Below B w w' ∧ KB w w' ∧ r'.A = r.A ∧ r'.reorder = r.reorder := by
  obtain ⟨vL, vO, h1, h2⟩ := hm
  exact (rLost_any B mb r vL vO w h1 hr hw now delay limit hdl hlm).mono fun e w' k => k.pair h2 hr hr.top hl
theorem rAck_wrong (mb : Nat) (lp : Option Addr) (lc : Nat) (l : List Rn) (w : World) (hl : Its w lp l) (hm : l.length ≤ 1000) (hu : ∀ q ∈ l, q.u64) (ho : l.all okB = false) :
    Calls Try.prog 34 #[.pointer (some ⟨mb, 0, none⟩), .slice lp l.length lc] w fun e w' => e = .returned (.tuple #[.slice none 0 0, .int .i64 1]) ∧ Drawn w w' := by
  have HR := Lib.hid (right_any l lp lc w hl (by omega) hu)
  rw [ho] at HR
  clear hl hu ho
  go_enter Try.func34, Try.ntmps34
  go_wp2_with fail
  refine (HR.out).mono ?_
  rintro e w1 ⟨rfl, hd⟩
  have HD := Lib.hid hd
  clear hd
  go_wp2
  go_ret2
  exact ⟨rfl, HD.out⟩
end Go.Proofs.Ytfpopbhbhdhdnaa

namespace Go.Proofs.Ytfpopbhbhdhdnaa
open Go.RowKit

theorem pair_top {B b mb : Nat} {r : RS8} {w : World} (h : Pair B b mb r w) :
    Calls Try.prog 16 #[.pointer (some ⟨b, 0, none⟩)] w fun e w' => e = .returned (.tuple #[.int .u64 (r.top : Int), .bool r.some]) ∧ Drawn w w' := by
  obtain ⟨rb, g, s, k1, k2, k3, k4, k5, k6, k7, k8⟩ := h.led
  refine (top_any b rb g s w k1).mono ?_
  rintro e w' ⟨rfl, k⟩
  rw [k5, k6]
  exact ⟨rfl, k⟩
theorem pair_out {B b mb : Nat} {r : RS8} {w : World} (h : Pair B b mb r w) :
    Calls Try.prog 11 #[.pointer (some ⟨b, 0, none⟩)] w fun e w' => ∃ v, e = .returned v ∧ PR w' v (sel r.A r.O) ∧ Below w.heap.size w w' := by
  obtain ⟨rb, g, s, k1, k2, k3, k4, k5, k6, k7, k8⟩ := h.led
  refine (out_any b rb g s w k1 k2).mono ?_
  rintro e w' ⟨v, rfl, m1, m2, m3⟩
  rw [k3] at m1
  exact ⟨v, rfl, m1, m3⟩
theorem pair_infl {B b mb : Nat} {r : RS8} {w : World} (h : Pair B b mb r w) :
    Calls Try.prog 17 #[.pointer (some ⟨b, 0, none⟩)] w fun e w' => e = .returned (.int .u64 ((infl (totP (sel r.A r.O)) : Nat) : Int)) ∧ w' = w := by
  obtain ⟨rb, g, s, k1, k2, k3, k4, k5, k6, k7, k8⟩ := h.led
  refine (inflight_any b rb g s w k1).mono ?_
  rintro e w' ⟨rfl, rfl⟩
  unfold tot
  rw [k3]
  exact ⟨rfl, rfl⟩
theorem pair_next {B b mb : Nat} {r : RS8} {w : World} (h : Pair B b mb r w) :
    Calls Try.prog 18 #[.pointer (some ⟨b, 0, none⟩)] w fun e w' => e = .returned (.int .u64 (r.A.length : Int)) ∧ w' = w := by
  obtain ⟨rb, g, s, k1, k2, k3, k4, k5, k6, k7, k8⟩ := h.led
  refine (next_any b rb g s w k1).mono ?_
  rintro e w' ⟨rfl, rfl⟩
  rw [k4]
  exact ⟨rfl, rfl⟩
set_option maxRecDepth 100000 in
set_option maxHeartbeats 4000000 in
theorem same_any (B b mb : Nat) (r : RS8) (w : World) (h : Pair B b mb r w) :
    Calls Try.prog 15 #[.pointer (some ⟨b, 0, none⟩), .pointer (some ⟨mb, 0, none⟩)] w fun e w' => e = .returned (.bool true) ∧ Below w.heap.size w w' := by
  have HT := Lib.hid (pair_top h)
  have HP := Lib.hid h
  clear h
  go_enter Try.func15, Try.ntmps15
  go_wp2_with fail
  refine (HT.out).mono ?_
  rintro e w1 ⟨rfl, hd⟩
  have HP1 := Lib.hid (HP.out.keep (hd.below _))
  have HB1 := Lib.hid (hd.below w.heap.size)
  have HO := Lib.hid (pair_out HP1.out)
  clear hd HT HP
  go_wp2_with fail
  refine (HO.out).mono ?_
  rintro e w2 ⟨v, rfl, h1, h2⟩
  obtain ⟨p1, c1, rfl⟩ := h1.form
  have HR1 := Lib.hid h1
  have HP2 := Lib.hid (HP1.out.keep h2)
  have HB2 := Lib.hid (bel_to HB1.out h2 HB1.out.size)
  obtain ⟨vL, vO, hra, _⟩ := HP2.out.ref
  have HA := Lib.hid (rall_any B mb r vL vO w2 hra HP2.out.ok)
  clear h1 h2 HO HP1 HB1 hra
  go_wp2_with fail
  refine (HA.out).mono ?_
  rintro e w3 ⟨v2, rfl, h1, _, h2⟩
  obtain ⟨p2, c2, rfl⟩ := h1.form
  have HP3 := Lib.hid (HP2.out.keep h2)
  have HB3 := Lib.hid (bel_to HB2.out h2 HB2.out.size)
  have hf : (sel r.A r.O).length ≤ 1000 := by
    unfold sel
    rw [List.length_map]
    refine Nat.le_trans (List.length_filter_le _ _) ?_
    rw [List.length_zip]
    have := HP2.out.ok.few
    omega
  have HSm := Lib.hid (Same_any _ p1 p2 c1 c2 w3 ((HR1.out.keep h2).its) h1.its hf)
  clear h1 h2 HA HP2 HB2 HR1
  generalize hsl : (sel r.A r.O).length = sl at *
  clear hsl
  go_wp2_with fail
  refine (HSm.out).mono ?_
  rintro e w4 ⟨rfl, hd⟩
  have HP4 := Lib.hid (HP3.out.keep (hd.below _))
  have HB4 := Lib.hid (HB3.out.trans (hd.below _))
  clear hd HSm HP3 HB3
  obtain ⟨vL, vO, hra, _⟩ := HP4.out.ref
  have HRa := Lib.hid hra
  obtain ⟨pL, cL, pO, cO, rfl, rfl⟩ := hra.form
  have HI1 := Lib.hid (fun m => pair_infl (w := w4.drewN m) (HP4.out.keep (Drawn.below ⟨m, rfl⟩ _)))
  have HI2 := Lib.hid (fun m => rinfl_any B mb r _ _ (w4.drewN m) (HRa.out.keep (Drawn.below ⟨m, rfl⟩ _)) HP4.out.ok)
  have HN := Lib.hid (fun m => pair_next (w := w4.drewN m) (HP4.out.keep (Drawn.below ⟨m, rfl⟩ _)))
  have n1 : w4.cell? ⟨mb, 1, none⟩ = some (.slice pL r.A.length cL) := HRa.out.head.cell (i := 1) rfl
  have n3 : w4.cell? ⟨mb, 3, none⟩ = some (.int .u64 (r.top : Int)) := HRa.out.head.cell (i := 3) rfl
  have n4 : w4.cell? ⟨mb, 4, none⟩ = some (.bool r.some) := HRa.out.head.cell (i := 4) rfl
  have hwr : IntKind.u64.wrap (r.A.length : Int) = (r.A.length : Int) := IntWalk.u64_in _ (by have := HP4.out.ok.few; omega)
  clear hra HRa HP4
  generalize infl (totP (sel r.A r.O)) = ti at *
  go_wp2_with fail
  go_quiet (first | (go_at_call 17; exact Calls.quiet_of_same (HI1.out _)) | (go_at_call 38; exact Calls.quiet_of_same (HI2.out _)) | (go_at_call 18; exact Calls.quiet_of_same (HN.out _)))
  go_wp2
  go_ret
  exact ⟨by first | rfl | simp, HB4.out.trans (Drawn.below ⟨nq, rfl⟩ _)⟩
end Go.Proofs.Ytfpopbhbhdhdnaa
