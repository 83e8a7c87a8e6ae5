/- Contracts of package ring over this translation, for rows of goit/filt.reading: empty, lay, move. -/
import Derived.Test.YthhiljaceobnmaaQra
set_option linter.unusedVariables false
namespace Go.Proofs.Ythhiljaceobnmaa
open Go.RowKit

set_option maxHeartbeats 400000 in
theorem rd_empty (b g i : Nat) (s : QS Rd) (w : World) (h : RdAt w b g s) (ho : s.ok) (hp : 0 < s.pl.length) (hi : i ≤ 100000) :
    Calls Try.prog 34 #[.pointer (some ⟨b, 0, none⟩), .int .i64 (i : Int)] w (RdEPost w b g (s.put i Itm.z)) := by
  have HN := Lib.hid h.ne
  have HO := Lib.hid ho
  have HB := Lib.hid (show Blk (w.alloc (.cells #[.int .u64 0, .int .u64 0] 52)) w.heap.size 52 #[.int .u64 0, .int .u64 0] from Blk.new _ _ _)
  have HH := Lib.hid (h.alloc (.cells #[.int .u64 0, .int .u64 0] 52))
  have HW : Hid (Mv w (w.alloc (.cells #[.int .u64 0, .int .u64 0] 52)) b g) := Lib.hid ((Mv.refl w b g).alloc _)
  have HZ : Hid (w.heap.size ≠ g) := Lib.hid (Ne.symm h.body.old)
  have hpl := QS.pos_lt hp i
  have HP := Lib.hid (rd_place b g i s)
  have i3 : (0 : Int) ≤ ((s.pos i : Nat) : Int) := by omega
  have i4 : ((s.pos i : Nat) : Int) < (s.pl.length : Int) := by omega
  have HS : Hid ((s.put i Itm.z).pl = s.pl.set (s.pos i) Itm.z) := Lib.hid rfl
  clear h ho
  have a0 := HH.out.head.drew.cell (i := 0) (v := .slice (some ⟨g, 0, none⟩) s.pl.length s.pl.length) rfl
  have r0 := HB.out.drew.cell (i := 0) (v := .int .u64 0) rfl
  have r1 := HB.out.drew.cell (i := 1) (v := .int .u64 0) rfl
  generalize s.pos i = p at *
  obtain ⟨y0, hy0⟩ : ∃ v, (icells s.pl)[p * 2]? = some v := ⟨_, Array.getElem?_eq_getElem (by rw [icells_size]; show _ < s.pl.length * 2; omega)⟩
  have c0 := HH.out.body.drew.cell hy0
  have f0 := HH.out.body.drew.free (p * 2)
  obtain ⟨y1, hy1⟩ : ∃ v, (icells s.pl)[p * 2 + 1]? = some v := ⟨_, Array.getElem?_eq_getElem (by rw [icells_size]; show _ < s.pl.length * 2; omega)⟩
  have c1 := HH.out.body.drew.cell hy1
  have f1 := HH.out.body.drew.free (p * 2 + 1)
  go_enter Try.func34, Try.ntmps34
  go_wp2_with fail
  generalize (w.alloc (.cells #[.int .u64 0, .int .u64 0] 52)) = wa at *
  go_region_held3 (fun w' => w'.cell? ⟨b, 0, none⟩ = some (.slice (some ⟨g, 0, none⟩) s.pl.length s.pl.length) ∧ w'.cell? ⟨w.heap.size, 0, none⟩ = some (.int .u64 0) ∧ w'.cell? ⟨w.heap.size, 1, none⟩ = some (.int .u64 0))
    (first | exact ⟨a0, r0, r1⟩ | exact ⟨b0, q0, q1⟩ | exact ⟨(far (far b0 HN.out) HN.out), (far (far q0 HZ.out) HZ.out), (far (far q1 HZ.out) HZ.out)⟩)
    (first | (go_at_call 31; refine (HP.out _ (RdAt.drawn (Drawn.drew wa) HH.out) HO.out hp (by omega)).mono ?_; rintro e w' ⟨rfl, hd⟩; have HD := Lib.hid hd; clear hd; have b0 := (HD.out.cell _).trans a0; have q0 := (HD.out.cell _).trans r0; have q1 := (HD.out.cell _).trans r1; have d0 := (HD.out.cell _).trans c0; have d1 := (HD.out.cell _).trans c1; have h0 := (HD.out.frozen _).trans f0; have h1 := (HD.out.frozen _).trans f1))
  go_end0
  have hD : Drawn wa w' := (Drawn.drew wa).more HD.out
  have hpl' : p < s.pl.length := hpl
  refine ⟨rfl, ⟨?_, ?_⟩, Mv.sets (.inr (.inl rfl)) (Itm.cs (Itm.z (α := Rd))) (p * 2) w' (HW.out.drawn hD)⟩
  · have := Blk.sets_other HN.out (Itm.cs (Itm.z (α := Rd))) (p * 2) w' (hD.blk HH.out.head)
    have e : rdCells (s.put i Itm.z) g = rdCells s g := by simp [rdCells, QS.put]
    rw [e]; exact this
  · have := Blk.sets (Itm.cs (Itm.z (α := Rd))) (p * Itm.k Rd) w' _ (hD.blk HH.out.body)
    rw [putA_item s.pl p Itm.z hpl', ← HS.out] at this
    exact this

/-- What holds at the head of each round of lay. -/
def RdLayRel (w : World) (s : QS Rd) (n k : Nat) (wr : World) : Prop :=
  k ≤ s.cnt ∧ Blk wr w.heap.size 52 (icells (s.items.take k ++ List.replicate (n - k) Itm.z)) ∧ Below w.heap.size w wr

structure RdLayPost (w : World) (l : List Rd) (e : Ending) (w' : World) : Prop where
  e : e = .returned (.slice (some ⟨w.heap.size, 0, none⟩) l.length l.length)
  blk : Blk w' w.heap.size 52 (icells l)
  bel : Below w.heap.size w w'

set_option maxHeartbeats 1000000 in
theorem rd_lay (b g n : Nat) (s : QS Rd) (w : World) (h : RdAt w b g s) (ho : s.ok) (hn : s.cnt ≤ n) (hm : n ≤ 100000) :
    Calls Try.prog 41 #[.pointer (some ⟨b, 0, none⟩), .int .i64 (n : Int)] w (RdLayPost w (s.lay n)) := by
  have HH := Lib.hid h
  have HO := Lib.hid ho
  have hbl := h.head.lt
  have hgl := h.body.lt
  have hmk := rd_mk n hm
  have h2 := (h.head.alloc (.cells (icells (List.replicate n (Itm.z (α := Rd)))) 52)).cell (i := 2) (v := .int .i64 (s.cnt : Int)) rfl
  clear h ho
  go_enter Try.func41, Try.ntmps41
  go_wp2_with fail
  go_loopw [13] (fun i wr => ∃ k : Nat, i = .int .i64 (k : Int) ∧ RdLayRel w s n k wr) (fun i _ => s.cnt - (intOf i).toNat)
  case atStart =>
    exact ⟨0, rfl, Nat.zero_le _, by simpa using Blk.new _ _ _, (Below.refl _ _).alloc (Nat.le_refl _) _⟩
  case round =>
    obtain ⟨k, rfl, hk, hb1, hbel⟩ := hrel
    have HB := Lib.hid hb1
    have HW := Lib.hid hbel
    have HR := Lib.hid (HH.out.below hbel hbl hgl)
    clear hb1 hbel h2 hmk
    by_cases hlt : k < s.cnt
    · have hp : 0 < s.pl.length := by have := HO.out.c; omega
      have hpl := QS.pos_lt hp k
      have a0 := HR.out.head.drew.cell (i := 0) (v := .slice (some ⟨g, 0, none⟩) s.pl.length s.pl.length) rfl
      have x0 := HR.out.body.drew.cell (i := s.pos k * 2) (v := .int .u64 ((s.get k).t : Int)) (icells_at (α := Rd) 0 hpl (by decide))
      have x1 := HR.out.body.drew.cell (i := s.pos k * 2 + 1) (v := .int .u64 ((s.get k).x : Int)) (icells_at (α := Rd) 1 hpl (by decide))
      have HP := Lib.hid (rd_place b g k s)
      have hlen : (s.items.take k ++ List.replicate (n - k) Itm.z).length = n := by simp [QS.len_items]; omega
      have HL := Lib.hid (lay_put hlt hn)
      have i0 : (0 : Int) ≤ (k : Int) := by omega
      have i1 : (k : Int) < (n : Int) := by omega
      have i2 : k < n := by omega
      have i3 : (0 : Int) ≤ ((s.pos k : Nat) : Int) := by omega
      have i4 : ((s.pos k : Nat) : Int) < (s.pl.length : Int) := by omega
      generalize (s.items.take k ++ List.replicate (n - k) Itm.z) = cur at *
      obtain ⟨y0, hy0⟩ : ∃ v, (icells cur)[k * 2]? = some v := ⟨_, Array.getElem?_eq_getElem (by rw [icells_size]; show _ < cur.length * 2; omega)⟩
      have c0 := HB.out.drew.cell hy0
      have f0 := HB.out.drew.free (k * 2)
      obtain ⟨y1, hy1⟩ : ∃ v, (icells cur)[k * 2 + 1]? = some v := ⟨_, Array.getElem?_eq_getElem (by rw [icells_size]; show _ < cur.length * 2; omega)⟩
      have c1 := HB.out.drew.cell hy1
      have f1 := HB.out.drew.free (k * 2 + 1)
      generalize s.pos k = p at *
      generalize s.get k = x at *
      go_wp2_with fail
      go_region_held3 (fun w' => w'.cell? ⟨b, 0, none⟩ = some (.slice (some ⟨g, 0, none⟩) s.pl.length s.pl.length) ∧ w'.cell? ⟨g, p * 2, none⟩ = some (.int .u64 (x.t : Int)) ∧ w'.cell? ⟨g, p * 2 + 1, none⟩ = some (.int .u64 (x.x : Int)))
        (first | exact ⟨a0, x0, x1⟩ | exact ⟨b0, q0, q1⟩ | exact ⟨(far (far b0 (by dsimp; omega)) (by dsimp; omega)), (far (far q0 (by dsimp; omega)) (by dsimp; omega)), (far (far q1 (by dsimp; omega)) (by dsimp; omega))⟩)
        (first | (go_at_call 31; refine (HP.out _ (RdAt.drawn (Drawn.drew wr) HR.out) HO.out hp (by omega)).mono ?_; rintro e w' ⟨rfl, hd⟩; have HD := Lib.hid hd; clear hd; have b0 := (HD.out.cell _).trans a0; have q0 := (HD.out.cell _).trans x0; have q1 := (HD.out.cell _).trans x1; have d0 := (HD.out.cell _).trans c0; have d1 := (HD.out.cell _).trans c1; have h0 := (HD.out.frozen _).trans f0; have h1 := (HD.out.frozen _).trans f1))
      have hD : Drawn wr w' := (Drawn.drew wr).more HD.out
      have F1 : Hid (Blk ((w'.setCell ⟨w.heap.size, k * 2, none⟩ (.int .u64 (x.t : Int))).setCell ⟨w.heap.size, k * 2 + 1, none⟩ (.int .u64 (x.x : Int))) w.heap.size 52 (icells (cur.set k x))) := Lib.hid (by
        have := Blk.sets (Itm.cs x) (k * Itm.k Rd) w' _ (hD.blk HB.out)
        rw [putA_item cur k x (by omega)] at this
        exact this)
      have F2 : Hid (Below w.heap.size w ((w'.setCell ⟨w.heap.size, k * 2, none⟩ (.int .u64 (x.t : Int))).setCell ⟨w.heap.size, k * 2 + 1, none⟩ (.int .u64 (x.x : Int)))) := Lib.hid (Below.sets (Nat.le_refl _) (Itm.cs x) (k * 2) w' (HW.out.trans (hD.below _)))
      rw [HL.out] at F1
      generalize ((w'.setCell ⟨w.heap.size, k * 2, none⟩ (.int .u64 (x.t : Int))).setCell ⟨w.heap.size, k * 2 + 1, none⟩ (.int .u64 (x.x : Int))) = w2 at *
      clear a0 b0 x0 q0 c0 d0 f0 h0 hy0 x1 q1 c1 d1 f1 h1 hy1 hD HD HP HL hlen
      go_wp2_with fail
      go_roundw
      case rel => exact ⟨k + 1, by go_num, by omega, F1.out, F2.out⟩
      case measure => simp [intOf]; omega
    · obtain rfl : k = s.cnt := by omega
      have HL : Hid (s.lay n = s.items.take s.cnt ++ List.replicate (n - s.cnt) Itm.z) := Lib.hid (by rw [List.take_of_length_le (by rw [QS.len_items]; exact Nat.le_refl _)]; rfl)
      have HN := Lib.hid (QS.len_lay hn)
      go_wp2_with fail
      go_ret
      exact ⟨by rw [HN.out]; rfl, by rw [HL.out]; exact HB.out, HW.out⟩

set_option maxHeartbeats 400000 in
theorem rd_move (b g n : Nat) (s : QS Rd) (w : World) (h : RdAt w b g s) (ho : s.ok) (hn : s.cnt ≤ n) (hm : n ≤ 100000) :
    Calls Try.prog 38 #[.pointer (some ⟨b, 0, none⟩), .int .i64 (n : Int)] w (RdPost w b g (.returned (.tuple #[])) (s.move n)) := by
  have HH := Lib.hid h
  have HN := Lib.hid h.ne
  have HL := Lib.hid (rd_lay b g n s w h ho hn hm)
  have HE := Lib.hid (QS.len_lay hn)
  have hbl := h.head.lt
  clear h ho
  go_enter Try.func38, Try.ntmps38
  go_wp2_with fail
  refine (HL.out).mono ?_
  rintro e w1 ⟨rfl, hb, hbel⟩
  have HB := Lib.hid hb
  have HW := Lib.hid hbel
  have H1 := Lib.hid (HH.out.head.keep hbel)
  have c0 := H1.out.cell (i := 0) (v := .slice (some ⟨g, 0, none⟩) s.pl.length s.pl.length) rfl
  have c1 := H1.out.cell (i := 1) (v := .int .i64 (s.first : Int)) rfl
  have f0 := H1.out.free 0
  have f1 := H1.out.free 1
  clear hb hbel
  rw [HE.out]
  go_wp2_with fail
  go_end0
  refine ⟨rfl, ⟨w.heap.size, ⟨?_, ?_⟩, .inr (Nat.le_refl _)⟩, ((Mv.of_below HW.out b g).set (.inl rfl) _ _).set (.inl rfl) _ _⟩
  · have := (H1.out.set 0 (.slice (some ⟨w.heap.size, 0, none⟩) n n)).set 1 (.int .i64 0)
    simpa [rdCells, QS.move, HE.out] using this
  · exact (HB.out.set_other _ _ (by omega)).set_other _ _ (by omega)
end Go.Proofs.Ythhiljaceobnmaa
