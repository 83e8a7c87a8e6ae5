/- Contracts of package ring over this translation, for rows of goit/api.Packet: a row is a block of three cells (its places, where its items begin, how many), and a block of places, of 7 cells each. -/
import Derived.Test.YteolchbeiidapaaPk
import Derived.Test.YteolchbeiidapaaProg
import Derived.Deep.QuietTactic
import Derived.BigQuiet
import Derived.StillTailTactics
import Derived.Deep.RegionHeld3
import Derived.Deep.LoopGhost
import Derived.Lib.Hide
set_option linter.unusedVariables false
namespace Go.Proofs.Yteolchbeiidapaa
open Go.RowKit
def Pk.agg (r : Pk) : Value := .agg #[.int .u64 (r.n : Int), .int .u64 (r.size : Int), .int .u64 (r.sent : Int), .int .u64 (r.first : Int), .int .u64 (r.deliv : Int), .int .u64 (r.at_ : Int), .bool r.lim]

def pkCells (s : QS Pk) (g : Nat) : Array Value := #[.slice (some ⟨g, 0, none⟩) s.pl.length s.pl.length, .int .i64 (s.first : Int), .int .i64 (s.cnt : Int)]

/-- A row in memory: its head at block b, its places at block g. -/
structure PkAt (w : World) (b g : Nat) (s : QS Pk) : Prop where
  head : Blk w b 57 (pkCells s g)
  body : Blk w g 36 (icells s.pl)

theorem PkAt.below {w w' : World} {b g B : Nat} {s : QS Pk} (h : PkAt w b g s) (k : Below B w w') (hb : b < B) (hg : g < B) : PkAt w' b g s := ⟨h.head.below k hb, h.body.below k hg⟩
theorem PkAt.keep {w w' : World} {b g : Nat} {s : QS Pk} (h : PkAt w b g s) (k : Below w.heap.size w w') : PkAt w' b g s := ⟨h.head.keep k, h.body.keep k⟩
theorem PkAt.alloc {w : World} {b g : Nat} {s : QS Pk} (h : PkAt w b g s) (o : Obj) : PkAt (w.alloc o) b g s := ⟨h.head.alloc o, h.body.alloc o⟩
theorem PkAt.drawn {a b : World} (h : Drawn a b) {x g : Nat} {s : QS Pk} (k : PkAt a x g s) : PkAt b x g s := ⟨h.blk k.head, h.blk k.body⟩
theorem PkAt.ne {w : World} {b g : Nat} {s : QS Pk} (h : PkAt w b g s) : b ≠ g := h.head.ty h.body (by decide)
theorem PkAt.mv {w w' : World} {b g c d : Nat} {s : QS Pk} (h : PkAt w b g s) (k : Mv w w' c d) (h1 : b ≠ c) (h2 : b ≠ d) (h3 : g ≠ c) (h4 : g ≠ d) : PkAt w' b g s := ⟨h.head.mv k h1 h2, h.body.mv k h3 h4⟩

/-- What a method leaves: its answer, the row, all other blocks as they were. -/
structure PkPost (w : World) (b g : Nat) (v : Ending) (s : QS Pk) (e : Ending) (w' : World) : Prop where
  e : e = v
  at_ : ∃ g', PkAt w' b g' s ∧ (g' = g ∨ w.heap.size ≤ g')
  mv : Mv w w' b g
structure PkEPost (w : World) (b g : Nat) (s : QS Pk) (e : Ending) (w' : World) : Prop where
  e : e = .returned (.tuple #[])
  at_ : PkAt w' b g s
  mv : Mv w w' b g

theorem pk_info : (Try.prog.info? 36).map (fun i => (i.zero, i.size, i.bytes)) = some (some (.agg #[.int .u64 0, .int .u64 0, .int .u64 0, .int .u64 0, .int .u64 0, .int .u64 0, .bool false]), 7, 56) := by kernel_rfl

theorem pk_mk (n : Nat) (hn : n ≤ 100000) (w : World) : (Instr.makeSlice 28 (.int .i64 (n : Int)) (.int .i64 (n : Int))).run Try.prog w = .ok (.slice (some ⟨w.heap.size, 0, none⟩) n n) (w.alloc (.cells (icells (List.replicate n (Itm.z (α := Pk)))) 36)) := by
  obtain ⟨i0, hi, hz0, hz1, hz2⟩ := info_parts pk_info
  have := run_make (P := Try.prog) w 28 36 i0 _ Try.underlying28 hi hz0 .i64 .i64 n n (by omega) (by omega) (by rw [hz2]; omega) (by omega)
  rw [this, hz1]
  have e := madeCells_items (α := Pk) (Value.agg #[.int .u64 0, .int .u64 0, .int .u64 0, .int .u64 0, .int .u64 0, .int .u64 0, .bool false]).cells rfl n
  have k : Itm.k Pk = 7 := rfl
  rw [k] at e
  simp only [Int.toNat_natCast, e]

set_option maxHeartbeats 400000 in
theorem pk_place (b g i : Nat) (s : QS Pk) (w : World) (h : PkAt w b g s) (ho : s.ok) (hp : 0 < s.pl.length) (hi : i ≤ 100000) :
    Calls Try.prog 32 #[.pointer (some ⟨b, 0, none⟩), .int .i64 (i : Int)] w fun e w' => e = .returned (.int .i64 ((s.pos i : Nat) : Int)) ∧ Drawn w w' := by
  have h0 := h.head.cell (i := 0) (v := .slice (some ⟨g, 0, none⟩) s.pl.length s.pl.length) rfl
  have h1 := h.head.cell (i := 1) (v := .int .i64 (s.first : Int)) rfl
  have hf := ho.f
  have hm := ho.m
  have hn : (s.pl.length == 0) = false := beq_false_of_ne (by omega)
  have HE : Hid (((s.pos i : Nat) : Int) = ((s.first : Int) + (i : Int)) % (s.pl.length : Int)) := Lib.hid (by simp [QS.pos])
  generalize s.pos i = p at *
  clear h ho
  generalize s.pl.length = n at *
  generalize s.first = f at *
  go_enter Try.func32, Try.ntmps32
  go_wp2_with fail
  go_quiet (fail)
  go_wp2_with fail
  go_ret
  exact ⟨by rw [HE.out]; rfl, nq, rfl⟩

set_option maxHeartbeats 400000 in
theorem pk_Len (b g : Nat) (s : QS Pk) (w : World) (h : PkAt w b g s) :
    Calls Try.prog 36 #[.pointer (some ⟨b, 0, none⟩)] w fun e w' => e = .returned (.int .i64 (s.cnt : Int)) ∧ w = w' := by
  have c2 := h.head.cell (i := 2) (v := .int .i64 (s.cnt : Int)) rfl
  clear h
  go_enter Try.func36, Try.ntmps36
  go_wp2
  go_ret
  exact ⟨rfl, rfl⟩

theorem pk_Len_nil (w : World) :
    Calls Try.prog 36 #[.pointer none] w fun e w' => e = .returned (.int .i64 0) ∧ w = w' := by
  go_enter Try.func36, Try.ntmps36
  go_wp2
  go_ret
  exact ⟨rfl, rfl⟩
end Go.Proofs.Yteolchbeiidapaa
