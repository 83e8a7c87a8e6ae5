/- A ledger in memory over this translation; rows of packets of the call's own; differences with a borrow. -/
import Derived.Test.YtfpopbhbhdhdnaaKg
import Derived.Test.YtfpopbhbhdhdnaaLc
import Derived.Test.YtfpopbhbhdhdnaaAdd
import Derived.Maps.AppendAt
import Derived.OwnWalk
set_option linter.unusedVariables false
namespace Go.Proofs.Ytfpopbhbhdhdnaa
open Go.RowKit

def lcells (rb : Nat) (s : LS) : Array Value :=
  #[.pointer (some ⟨rb, 0, none⟩), .int .i64 ((outK s.ks).length : Int), .int .u64 ((tot s.ks / M64 : Nat) : Int), .int .u64 ((tot s.ks % M64 : Nat) : Int), .bool s.mixed, .int .u64 (s.reorder : Int), .int .u64 (s.next : Int), .int .u64 (s.top : Int), .bool s.topped]
def itemsK (ks : List Kp) : List Nat := ks.map fun k => k.b + 1

/-- A ledger in memory: its head at block b, its row at block rb, the row's places at block g, its packets each at a block of its own. -/
structure LAt (w : World) (b rb g : Nat) (s : LS) : Prop where
  head : Blk w b 61 (lcells rb s)
  row : KRow w rb g (itemsK s.ks)
  kept : ∀ k ∈ s.ks, Blk w k.b 66 (Kp.cells k.p k.gone)
/-- The blocks that a ledger lies in. -/
def blocksL (b rb g : Nat) (s : LS) : List Nat := b :: rb :: g :: s.ks.map Kp.b

theorem LAt.keepX {w w' : World} {b rb g : Nat} {s : LS} (h : LAt w b rb g s) (k : ∀ x T cs, x ∈ blocksL b rb g s → Blk w x T cs → w'.heap[x]? = w.heap[x]?) : LAt w' b rb g s := by
  refine ⟨?_, h.row.blk2 fun x T cs hx hb => k x T cs (by rcases hx with rfl | rfl <;> simp [blocksL]) hb, fun x hx => ?_⟩
  · unfold Blk; rw [k b _ _ (by simp [blocksL]) h.head]; exact h.head
  · unfold Blk; rw [k x.b _ _ (by unfold blocksL; exact List.mem_cons_of_mem _ (List.mem_cons_of_mem _ (List.mem_cons_of_mem _ (List.mem_map_of_mem hx)))) (h.kept x hx)]; exact h.kept x hx
theorem LAt.keep {w w' : World} {b rb g : Nat} {s : LS} (h : LAt w b rb g s) (k : Below w.heap.size w w') : LAt w' b rb g s := h.keepX fun x T cs _ hb => k.block x hb.lt
theorem LAt.drawn {w w' : World} {b rb g : Nat} {s : LS} (h : LAt w b rb g s) (k : Drawn w w') : LAt w' b rb g s := h.keep (k.below _)
theorem LAt.alloc {w : World} {b rb g : Nat} {s : LS} (h : LAt w b rb g s) (o : Obj) : LAt (w.alloc o) b rb g s := h.keep ((Below.refl _ _).alloc (Nat.le_refl _) _)
theorem LAt.fr {w w' : World} {b rb g : Nat} {s : LS} {L : List Nat} (h : LAt w b rb g s) (k : Fr w w' L) (hd : ∀ x ∈ blocksL b rb g s, x ∉ L) : LAt w' b rb g s := h.keepX fun x T cs hx hb => k.block x hb.lt (hd x hx)
theorem LAt.lt {w : World} {b rb g : Nat} {s : LS} (h : LAt w b rb g s) : ∀ x ∈ blocksL b rb g s, x < w.heap.size := by
  intro x hx
  simp only [blocksL, List.mem_cons, List.mem_map] at hx
  rcases hx with rfl | rfl | rfl | ⟨k, hk, rfl⟩
  · exact h.head.lt
  · exact h.row.lt.1
  · exact h.row.lt.2
  · exact (h.kept k hk).lt

theorem pk_info : (Try.prog.info? 41).map (fun i => (i.zero, i.size, i.bytes)) = some (some (.agg #[.int .u64 0, .int .u64 0, .int .u64 0, .int .u64 0, .int .u64 0, .int .u64 0, .bool false]), 7, 56) := by kernel_rfl
abbrev pcs (l : List Pk) : List Value := l.flatMap (Itm.cs (α := Pk))
/-- A slice of packets of the call's own: nil, or a row that it made. -/
def PR (w : World) (v : Value) (l : List Pk) : Prop := w.ownsRow 0 41 7 v l.length (pcs l)

theorem PR.nil (w : World) : PR w (.slice none 0 0) [] := World.ownsRow_nil w 0 _ 7
theorem PR.same {w w' : World} {v : Value} {l : List Pk} (h : PR w v l) (hk : ∀ g cs, v.ownBlock = some g → Blk w g 41 cs → w'.heap[g]? = w.heap[g]?) : PR w' v l := by
  refine ⟨h.1, ?_⟩
  rcases h.2 with c | ⟨g, cap, cur, e, hb, hg, k⟩
  · exact .inl c
  · exact .inr ⟨g, cap, cur, e, hb, by rw [hk g cur (by rw [e]; rfl) hg]; exact hg, k⟩
theorem PR.keep {w w' : World} {v : Value} {l : List Pk} (h : PR w v l) (k : Below w.heap.size w w') : PR w' v l := h.same fun g cs _ hb => k.block g hb.lt
theorem PR.drawn {w w' : World} {v : Value} {l : List Pk} (h : PR w v l) (k : Drawn w w') : PR w' v l := h.keep (k.below _)
theorem PR.fr {w w' : World} {v : Value} {l : List Pk} {L : List Nat} (h : PR w v l) (k : Fr w w' L) (hl : ∀ g, v.ownBlock = some g → g ∉ L) : PR w' v l := h.same fun g cs e hb => k.block g hb.lt (hl g e)
theorem PR.blk {w : World} {v : Value} {l : List Pk} (h : PR w v l) {g : Nat} (e : v.ownBlock = some g) : ∃ cs, Blk w g 41 cs := by
  rcases h.2 with ⟨rfl, _⟩ | ⟨g', cap, cur, rfl, _, hg, _⟩
  · cases e
  · simp [Value.ownBlock] at e; subst e; exact ⟨_, hg⟩
theorem PR.form {w : World} {v : Value} {l : List Pk} (h : PR w v l) : ∃ p c, v = .slice p l.length c := by
  rcases h.2 with ⟨e, k⟩ | ⟨g, cap, cur, e, _⟩
  · exact ⟨none, 0, by rw [e, k]⟩
  · exact ⟨_, cap, e⟩
theorem PR.its {w : World} {l : List Pk} {p : Option Addr} {n cap : Nat} (h : PR w (.slice p n cap) l) : Its w p l := by
  intro hp
  rcases h.2 with ⟨e, k⟩ | ⟨g, c, cur, e, _, hb, _, _, h3, h4⟩
  · omega
  · injection e with e1 e2 e3
    subst e1
    refine ⟨g, 0, rfl, Blk.lt hb, fun i j hi hj => ?_⟩
    have k2 : Itm.k Pk = 7 := rfl
    rw [k2] at hj ⊢
    have e := iget (α := Pk) l i j (by rw [k2]; exact hj)
    rw [k2] at e
    have hj' : j < (Itm.cs (l.getD i Itm.z)).length := by rw [Itm.len]; exact hj
    have e' : (pcs l)[i * 7 + j]? = (Itm.cs (l.getD i Itm.z))[j]? := by rw [e]; simp [List.getD_eq_getElem?_getD, hi]
    rw [List.getElem?_eq_getElem hj'] at e' ⊢
    rw [Nat.zero_add]
    refine Blk.cell hb ?_
    rw [← h4, List.getElem?_take_of_lt (by omega)] at e'
    simpa using e'
theorem PR.app {w : World} {l m : List Pk} {n : Nat} {v : Value} (hn : n = l.length + m.length) (h : w.ownsRow 0 41 7 v n (pcs l ++ pcs m)) : PR w v (l ++ m) := by
  subst hn
  unfold PR pcs
  rw [List.flatMap_append, List.length_append]
  exact h

theorem sub64_no (x y : Nat) (h : y ≤ x) (hx : x ≤ 18446744073709551615) (w : World) :
    (callFunc 51 #[.int .u64 x, .int .u64 y, .int .u64 0]).run Try.prog w = .ok (.value (.tuple #[.int .u64 ((x - y : Nat) : Int), .int .u64 0])) w := by
  have h0 := run_sub64 (P := Try.prog) x y 0 (by omega) w
  rw [run_callFunc_extern Try.func51 (by kernel_rfl) (by kernel_rfl) (by kernel_rfl) (e := sub64Entry) (by kernel_rfl)]
  rw [show (x + 18446744073709551616 - y - 0) % 18446744073709551616 = x - y by omega, if_neg (by omega)] at h0
  exact (congrArg (fun r => Result.andThen r fun v w' => .ok (Next.value v) w') h0)
theorem sub64_yes (x y : Nat) (h : x < y) (hx : x ≤ 18446744073709551615) (w : World) :
    (callFunc 51 #[.int .u64 x, .int .u64 y, .int .u64 0]).run Try.prog w = .ok (.value (.tuple #[.int .u64 (((x + 18446744073709551616 - y - 0) % 18446744073709551616 : Nat) : Int), .int .u64 1])) w := by
  have h0 := run_sub64 (P := Try.prog) x y 0 (by omega) w
  rw [run_callFunc_extern Try.func51 (by kernel_rfl) (by kernel_rfl) (by kernel_rfl) (e := sub64Entry) (by kernel_rfl)]
  rw [if_pos (by omega)] at h0
  exact (congrArg (fun r => Result.andThen r fun v w' => .ok (Next.value v) w') h0)
/-- A difference, and what it borrows: of a sum's parts. -/
theorem sub64_tot (T c : Nat) (hc : c < M64) : ∃ br : Nat, br ≤ 1 ∧ (T + c) / M64 = T / M64 + br ∧ ∀ w : World,
    (callFunc 51 #[.int .u64 (((T + c) % M64 : Nat) : Int), .int .u64 (c : Int), .int .u64 0]).run Try.prog w = .ok (.value (.tuple #[.int .u64 ((T % M64 : Nat) : Int), .int .u64 (br : Int)])) w := by
  have h := sub_parts T c hc
  have hl := Nat.mod_lt (T + c) M64_pos
  have hl2 := Nat.mod_lt T M64_pos
  have hM := M64_eq
  split at h
  · rename_i k
    refine ⟨1, Nat.le_refl _, h.1, fun w => ?_⟩
    rw [sub64_yes _ _ k (by omega), ← h.2]
    have : ((T + c) % M64 + 18446744073709551616 - c - 0) % 18446744073709551616 = (T + c) % M64 + M64 - c := by
      clear h hl2
      generalize (T + c) % M64 = r at *
      rw [Nat.sub_zero, Nat.mod_eq_of_lt (by omega)]; omega
    rw [this]; rfl
  · rename_i k
    refine ⟨0, Nat.zero_le _, h.1, fun w => ?_⟩
    rw [sub64_no _ _ (by omega) (by omega), h.2]; rfl
theorem add64_tot (T c : Nat) (hc : c < M64) : ∃ cr : Nat, cr ≤ 1 ∧ (T + c) / M64 = T / M64 + cr ∧ ∀ w : World,
    (callFunc 23 #[.int .u64 ((T % M64 : Nat) : Int), .int .u64 (c : Int), .int .u64 0]).run Try.prog w = .ok (.value (.tuple #[.int .u64 (((T + c) % M64 : Nat) : Int), .int .u64 (cr : Int)])) w := by
  obtain ⟨h1, h2⟩ := add_parts T c hc
  have hl := Nat.mod_lt (T + c) M64_pos
  have hl2 := Nat.mod_lt T M64_pos
  have hM := M64_eq
  by_cases k : M64 ≤ T % M64 + c
  · rw [if_pos k] at h1 h2
    refine ⟨1, Nat.le_refl _, h1, fun w => ?_⟩
    rw [add64_yes _ _ (by omega) (by omega) (by omega) (by omega) (by omega)]
    have : (((T % M64 : Nat) : Int) + (c : Int) + 0) % 18446744073709551616 = (((T + c) % M64 : Nat) : Int) := by
      rw [h2]; omega
    rw [this]; rfl
  · rw [if_neg k] at h1 h2
    refine ⟨0, Nat.zero_le _, h1, fun w => ?_⟩
    rw [add64_no _ _ (by omega) (by omega) (by omega)]
    have : (((T % M64 : Nat) : Int) + (c : Int)) = (((T + c) % M64 : Nat) : Int) := by
      rw [h2]; omega
    rw [this]; rfl
end Go.Proofs.Ytfpopbhbhdhdnaa
