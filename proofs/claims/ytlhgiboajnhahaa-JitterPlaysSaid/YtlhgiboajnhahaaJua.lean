/- Contracts of package ring over this translation, for rows of goit/jitter.parcel: a row is a block of three cells (its places, where its items begin, how many), and a block of places, of 8 cells each. -/
import Derived.Test.YtlhgiboajnhahaaJp
import Derived.Test.YtlhgiboajnhahaaProg
import Derived.Deep.QuietTactic
import Derived.BigQuiet
import Derived.StillTailTactics
import Derived.Deep.RegionHeld3
import Derived.Deep.LoopGhost
import Derived.Lib.Hide
set_option linter.unusedVariables false
namespace Go.Proofs.Ytlhgiboajnhahaa
open Go.RowKit
def Jp.agg (r : Jp) : Value := .agg #[.int .u64 (r.p.n : Int), .int .u64 (r.p.size : Int), .int .u64 (r.p.sent : Int), .int .u64 (r.p.first : Int), .int .u64 (r.p.deliv : Int), .int .u64 (r.p.at_ : Int), .bool r.p.lim, .int .u64 (r.due : Int)]

def jpCells (s : QS Jp) (g : Nat) : Array Value := #[.slice (some ⟨g, 0, none⟩) s.pl.length s.pl.length, .int .i64 (s.first : Int), .int .i64 (s.cnt : Int)]

/-- A row in memory: its head at block b, its places at block g. -/
structure JpAt (w : World) (b g : Nat) (s : QS Jp) : Prop where
  head : Blk w b 67 (jpCells s g)
  body : Blk w g 53 (icells s.pl)

theorem JpAt.below {w w' : World} {b g B : Nat} {s : QS Jp} (h : JpAt w b g s) (k : Below B w w') (hb : b < B) (hg : g < B) : JpAt w' b g s := ⟨h.head.below k hb, h.body.below k hg⟩
theorem JpAt.keep {w w' : World} {b g : Nat} {s : QS Jp} (h : JpAt w b g s) (k : Below w.heap.size w w') : JpAt w' b g s := ⟨h.head.keep k, h.body.keep k⟩
theorem JpAt.alloc {w : World} {b g : Nat} {s : QS Jp} (h : JpAt w b g s) (o : Obj) : JpAt (w.alloc o) b g s := ⟨h.head.alloc o, h.body.alloc o⟩
theorem JpAt.drawn {a b : World} (h : Drawn a b) {x g : Nat} {s : QS Jp} (k : JpAt a x g s) : JpAt b x g s := ⟨h.blk k.head, h.blk k.body⟩
theorem JpAt.ne {w : World} {b g : Nat} {s : QS Jp} (h : JpAt w b g s) : b ≠ g := h.head.ty h.body (by decide)
theorem JpAt.mv {w w' : World} {b g c d : Nat} {s : QS Jp} (h : JpAt w b g s) (k : Mv w w' c d) (h1 : b ≠ c) (h2 : b ≠ d) (h3 : g ≠ c) (h4 : g ≠ d) : JpAt w' b g s := ⟨h.head.mv k h1 h2, h.body.mv k h3 h4⟩

/-- What a method leaves: its answer, the row, all other blocks as they were. -/
structure JpPost (w : World) (b g : Nat) (v : Ending) (s : QS Jp) (e : Ending) (w' : World) : Prop where
  e : e = v
  at_ : ∃ g', JpAt w' b g' s ∧ (g' = g ∨ w.heap.size ≤ g')
  mv : Mv w w' b g
structure JpEPost (w : World) (b g : Nat) (s : QS Jp) (e : Ending) (w' : World) : Prop where
  e : e = .returned (.tuple #[])
  at_ : JpAt w' b g s
  mv : Mv w w' b g

theorem jp_info : (Try.prog.info? 53).map (fun i => (i.zero, i.size, i.bytes)) = some (some (.agg #[.int .u64 0, .int .u64 0, .int .u64 0, .int .u64 0, .int .u64 0, .int .u64 0, .bool false, .int .u64 0]), 8, 64) := by kernel_rfl

theorem jp_mk (n : Nat) (hn : n ≤ 100000) (w : World) : (Instr.makeSlice 64 (.int .i64 (n : Int)) (.int .i64 (n : Int))).run Try.prog w = .ok (.slice (some ⟨w.heap.size, 0, none⟩) n n) (w.alloc (.cells (icells (List.replicate n (Itm.z (α := Jp)))) 53)) := by
  obtain ⟨i0, hi, hz0, hz1, hz2⟩ := info_parts jp_info
  have := run_make (P := Try.prog) w 64 53 i0 _ Try.underlying64 hi hz0 .i64 .i64 n n (by omega) (by omega) (by rw [hz2]; omega) (by omega)
  rw [this, hz1]
  have e := madeCells_items (α := Jp) (Value.agg #[.int .u64 0, .int .u64 0, .int .u64 0, .int .u64 0, .int .u64 0, .int .u64 0, .bool false, .int .u64 0]).cells rfl n
  have k : Itm.k Jp = 8 := rfl
  rw [k] at e
  simp only [Int.toNat_natCast, e]

set_option maxHeartbeats 400000 in
theorem jp_place (b g i : Nat) (s : QS Jp) (w : World) (h : JpAt w b g s) (ho : s.ok) (hp : 0 < s.pl.length) (hi : i ≤ 100000) :
    Calls Try.prog 29 #[.pointer (some ⟨b, 0, none⟩), .int .i64 (i : Int)] w fun e w' => e = .returned (.int .i64 ((s.pos i : Nat) : Int)) ∧ Drawn w w' := by
  have h0 := h.head.cell (i := 0) (v := .slice (some ⟨g, 0, none⟩) s.pl.length s.pl.length) rfl
  have h1 := h.head.cell (i := 1) (v := .int .i64 (s.first : Int)) rfl
  have hf := ho.f
  have hm := ho.m
  have hn : (s.pl.length == 0) = false := beq_false_of_ne (by omega)
  have HE : Hid (((s.pos i : Nat) : Int) = ((s.first : Int) + (i : Int)) % (s.pl.length : Int)) := Lib.hid (by simp [QS.pos])
  generalize s.pos i = p at *
  clear h ho
  generalize s.pl.length = n at *
  generalize s.first = f at *
  go_enter Try.func29, Try.ntmps29
  go_wp2_with fail
  go_quiet (fail)
  go_wp2_with fail
  go_ret
  exact ⟨by rw [HE.out]; rfl, nq, rfl⟩

set_option maxHeartbeats 400000 in
theorem jp_Len (b g : Nat) (s : QS Jp) (w : World) (h : JpAt w b g s) :
    Calls Try.prog 24 #[.pointer (some ⟨b, 0, none⟩)] w fun e w' => e = .returned (.int .i64 (s.cnt : Int)) ∧ w = w' := by
  have c2 := h.head.cell (i := 2) (v := .int .i64 (s.cnt : Int)) rfl
  clear h
  go_enter Try.func24, Try.ntmps24
  go_wp2
  go_ret
  exact ⟨rfl, rfl⟩

theorem jp_Len_nil (w : World) :
    Calls Try.prog 24 #[.pointer none] w fun e w' => e = .returned (.int .i64 0) ∧ w = w' := by
  go_enter Try.func24, Try.ntmps24
  go_wp2
  go_ret
  exact ⟨rfl, rfl⟩
end Go.Proofs.Ytlhgiboajnhahaa
