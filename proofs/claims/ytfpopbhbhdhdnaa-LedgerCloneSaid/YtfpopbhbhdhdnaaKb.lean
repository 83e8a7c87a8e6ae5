/- Contracts of package ring over this translation: a row is a block of three cells (its places, where its items begin, how many), and a block of places. -/
import Derived.Test.YtfpopbhbhdhdnaaKa
import Derived.Test.YtfpopbhbhdhdnaaProg
import Derived.Deep.QuietTactic
import Derived.BigQuiet
import Derived.StillTailTactics
import Derived.Deep.RegionHeld3
import Derived.Deep.LoopGhost
import Derived.Lib.Hide
set_option linter.unusedVariables false
namespace Go.Proofs.Ytfpopbhbhdhdnaa
open Go.RowKit

def RS.cells (s : RS) (g : Nat) : Array Value := #[.slice (some ⟨g, 0, none⟩) s.pl.length s.pl.length, .int .i64 (s.first : Int), .int .i64 (s.cnt : Int)]

/-- A row in memory: its head at block b, its places at block g. -/
structure KRingAt (w : World) (b g : Nat) (s : RS) : Prop where
  head : Blk w b 86 (s.cells g)
  body : Blk w g 59 (kcells s.pl)

theorem KRingAt.below {w w' : World} {b g B : Nat} {s : RS} (h : KRingAt w b g s) (k : Below B w w') (hb : b < B) (hg : g < B) : KRingAt w' b g s := ⟨h.head.below k hb, h.body.below k hg⟩
theorem KRingAt.keep {w w' : World} {b g : Nat} {s : RS} (h : KRingAt w b g s) (k : Below w.heap.size w w') : KRingAt w' b g s := ⟨h.head.keep k, h.body.keep k⟩
theorem KRingAt.drewN {w : World} {b g : Nat} {s : RS} (h : KRingAt w b g s) (n : Nat) : KRingAt (w.drewN n) b g s := ⟨h.head, h.body⟩

theorem Drawn.ring {a b : World} (h : Drawn a b) {x g : Nat} {s : RS} (k : KRingAt a x g s) : KRingAt b x g s := ⟨h.blk k.head, h.blk k.body⟩

set_option maxHeartbeats 400000 in
theorem kring_place (b g i : Nat) (s : RS) (w : World) (h : KRingAt w b g s) (ho : s.ok) (hp : 0 < s.pl.length) (hi : i ≤ 100000) :
    Calls Try.prog 39 #[.pointer (some ⟨b, 0, none⟩), .int .i64 (i : Int)] w fun e w' => e = .returned (.int .i64 ((s.pos i : Nat) : Int)) ∧ Drawn w w' := by
  have h0 := h.head.cell (i := 0) (v := .slice (some ⟨g, 0, none⟩) s.pl.length s.pl.length) rfl
  have h1 := h.head.cell (i := 1) (v := .int .i64 (s.first : Int)) rfl
  have hf := ho.f
  have hm := ho.m
  have hn : (s.pl.length == 0) = false := beq_false_of_ne (by omega)
  have HE : Hid (((s.pos i : Nat) : Int) = ((s.first : Int) + (i : Int)) % (s.pl.length : Int)) := Lib.hid (by simp [RS.pos])
  generalize s.pos i = p at *
  clear h ho
  generalize s.pl.length = n at *
  generalize s.first = f at *
  go_enter Try.func39, Try.ntmps39
  go_wp2_with fail
  go_quiet (fail)
  go_wp2_with fail
  go_ret
  exact ⟨by rw [HE.out]; rfl, nq, rfl⟩

theorem kp_info : (Try.prog.info? 59).map (fun i => (i.zero, i.size, i.bytes)) = some (some (.pointer none), 1, 8) := by kernel_rfl

theorem kmade (n : Nat) : madeCells (Value.cells (.pointer none)) n = kcells (List.replicate n 0) := by
  apply Array.ext
  · simp [size_madeCells, kcells]
  · intro i h1 h2
    simp [madeCells, kcells, pv, Value.cells, Nat.mod_one, pa]

theorem krun_mk (n : Nat) (hn : n ≤ 100000) (w : World) : (Instr.makeSlice 84 (.int .i64 (n : Int)) (.int .i64 (n : Int))).run Try.prog w = .ok (.slice (some ⟨w.heap.size, 0, none⟩) n n) (w.alloc (.cells (kcells (List.replicate n 0)) 59)) := by
  obtain ⟨i0, hi, hz0, hz1, hz2⟩ := info_parts kp_info
  have := run_make (P := Try.prog) w 84 59 i0 _ Try.underlying84 hi hz0 .i64 .i64 n n (by omega) (by omega) (by rw [hz2]; omega) (by omega)
  rw [this, hz1]
  simp only [Int.toNat_natCast, Nat.mul_one, kmade]

/-- What holds at the head of each round of lay. -/
def KLayRel (w : World) (s : RS) (n k : Nat) (wr : World) : Prop :=
  k ≤ s.cnt ∧ Blk wr w.heap.size 59 (kcells (s.items.take k ++ List.replicate (n - k) 0)) ∧ Below w.heap.size w wr

theorem klay_put {s : RS} {n k : Nat} (hk : k < s.cnt) (hn : s.cnt ≤ n) : (s.items.take k ++ List.replicate (n - k) 0).set k (s.get k) = s.items.take (k + 1) ++ List.replicate (n - (k + 1)) 0 := by
  have e : s.items[k]? = some (s.get k) := RS.item_at hk
  rw [List.take_add_one, e, List.set_append_right _ _ (by simp [RS.len_items]; omega), show n - k = (n - (k + 1)) + 1 by omega, List.replicate_succ]
  have : k - (List.take k s.items).length = 0 := by simp [RS.len_items]; omega
  rw [this]
  simp

structure KLayPost (w : World) (l : List Nat) (e : Ending) (w' : World) : Prop where
  e : e = .returned (.slice (some ⟨w.heap.size, 0, none⟩) l.length l.length)
  blk : Blk w' w.heap.size 59 (kcells l)
  bel : Below w.heap.size w w'

/-- Two cells of other blocks behind a store. -/
theorem two_far {w : World} {L k : Nat} {u v1 v2 : Value} {p q : Addr} (h1 : w.cell? p = some v1) (h2 : w.cell? q = some v2) (n1 : p.block ≠ L) (n2 : q.block ≠ L) :
    (w.setCell ⟨L, k, none⟩ u).cell? p = some v1 ∧ (w.setCell ⟨L, k, none⟩ u).cell? q = some v2 := by
  rw [World.cell?_setCell_other _ _ _ _ (by intro e; exact n1 (by rw [← e])), World.cell?_setCell_other _ _ _ _ (by intro e; exact n2 (by rw [← e]))]
  exact ⟨h1, h2⟩

set_option maxHeartbeats 1000000 in
theorem kring_lay (b g n : Nat) (s : RS) (w : World) (h : KRingAt w b g s) (ho : s.ok) (hn : s.cnt ≤ n) (hm : n ≤ 100000) :
    Calls Try.prog 61 #[.pointer (some ⟨b, 0, none⟩), .int .i64 (n : Int)] w (KLayPost w (s.lay n)) := by
  have HH := Lib.hid h
  have HO := Lib.hid ho
  have hbl := h.head.lt
  have hgl := h.body.lt
  have hmk := krun_mk n hm
  have h2 := (h.head.alloc (.cells (kcells (List.replicate n 0)) 59)).cell (i := 2) (v := .int .i64 (s.cnt : Int)) rfl
  clear h ho
  go_enter Try.func61, Try.ntmps61
  go_wp2_with fail
  go_loopw [13] (fun i wr => ∃ k : Nat, i = .int .i64 (k : Int) ∧ KLayRel w s n k wr) (fun i _ => s.cnt - (intOf i).toNat)
  case atStart =>
    exact ⟨0, rfl, Nat.zero_le _, by simpa using Blk.new _ _ _, (Below.refl _ _).alloc (Nat.le_refl _) _⟩
  case round =>
    obtain ⟨k, rfl, hk, hb1, hbel⟩ := hrel
    have HB := Lib.hid hb1
    have HW := Lib.hid hbel
    have HR := Lib.hid (HH.out.below hbel hbl hgl)
    clear hb1 hbel h2 hmk
    by_cases hlt : k < s.cnt
    · have hp : 0 < s.pl.length := by have := HO.out.c; omega
      have hpl := RS.pos_lt hp k
      have c0 := HR.out.head.drew.cell (i := 0) (v := .slice (some ⟨g, 0, none⟩) s.pl.length s.pl.length) rfl
      have c1 := HR.out.body.drew.cell (i := s.pos k) (v := .pointer (pa (s.get k))) (kcells_at hpl)
      have HP := Lib.hid (kring_place b g k s)
      have hlen : (s.items.take k ++ List.replicate (n - k) 0).length = n := by simp [RS.len_items]; omega
      have c2 := HB.out.drew.cell (i := k) (kcells_at (by rw [hlen]; omega))
      have c3 := HB.out.drew.free k
      have HL := Lib.hid (klay_put hlt hn)
      have i0 : (0 : Int) ≤ (k : Int) := by omega
      have i1 : (k : Int) < (n : Int) := by omega
      have i2 : k < n := by omega
      have i3 : (0 : Int) ≤ ((s.pos k : Nat) : Int) := by omega
      have i4 : ((s.pos k : Nat) : Int) < (s.pl.length : Int) := by omega
      clear hlen
      generalize (s.items.take k ++ List.replicate (n - k) 0) = cur at *
      generalize cur.getD k 0 = y at *
      generalize s.pos k = p at *
      generalize s.get k = x at *
      go_wp2_with fail
      go_region_held3 (fun w' => w'.cell? ⟨b, 0, none⟩ = some (.slice (some ⟨g, 0, none⟩) s.pl.length s.pl.length) ∧ w'.cell? ⟨g, p, none⟩ = some (.pointer (pa (x))))
        (first | exact ⟨c0, c1⟩ | exact ⟨e0, e1⟩ | exact two_far e0 e1 (by dsimp; omega) (by dsimp; omega))
        (first | (go_at_call 39; go_split_ands; refine (HP.out _ ((Drawn.drew wr).ring HR.out) HO.out hp (by omega)).mono ?_; rintro e w' ⟨rfl, hd⟩; have HD := Lib.hid hd; clear hd; have e0 := (HD.out.cell _).trans c0; have e1 := (HD.out.cell _).trans c1; have e2 := (HD.out.cell _).trans c2; have e3 := (HD.out.frozen _).trans c3))
      have hD : Drawn wr w' := (Drawn.drew wr).more HD.out
      have F1 := Lib.hid ((hD.blk HB.out).set k (.pointer (pa (x))))
      have F2 := Lib.hid ((HW.out.trans (hD.below _)).setCell (p := ⟨w.heap.size, k, none⟩) (Nat.le_refl _) (.pointer (pa (x))))
      rw [kcells_set, HL.out] at F1
      generalize (w'.setCell ⟨w.heap.size, k, none⟩ (.pointer (pa (x)))) = w2 at *
      clear e0 e1 e2 e3 c0 c1 c2 c3 hD HD HP HL
      go_wp2_with fail
      go_roundw
      case rel => exact ⟨k + 1, by go_num, by omega, F1.out, F2.out⟩
      case measure => simp [intOf]; omega
    · obtain rfl : k = s.cnt := by omega
      have HL : Hid (s.lay n = s.items.take s.cnt ++ List.replicate (n - s.cnt) 0) := Lib.hid (by rw [List.take_of_length_le (by rw [RS.len_items]; exact Nat.le_refl _)]; rfl)
      have HN := Lib.hid (RS.len_lay hn)
      go_wp2_with fail
      go_ret
      exact ⟨by rw [HN.out]; rfl, by rw [HL.out]; exact HB.out, HW.out⟩
end Go.Proofs.Ytfpopbhbhdhdnaa
