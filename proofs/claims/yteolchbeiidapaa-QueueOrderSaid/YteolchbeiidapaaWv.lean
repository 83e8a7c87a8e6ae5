/- A slice of numbers of the call's own that is taken from at its head, and appended to, over this translation. -/
import Derived.Test.YteolchbeiidapaaBlk
import Derived.Test.YteolchbeiidapaaProg
import Derived.ArgAppend
set_option linter.unusedVariables false
namespace Go.Proofs.Yteolchbeiidapaa
open Go.RowKit

/-- Blocks of another type than numbers, and all below, are as they were. -/
def Keep64 (B : Nat) (w w' : World) : Prop := Below B w w' ∧ ∀ T b cs, T ≠ 22 → Blk w b T cs → Blk w' b T cs
/-- A slice of numbers of the call's own. -/
structure Win (B : Nat) (w : World) (ao : Option Addr) (cap : Nat) (l : List Nat) : Prop where
  le : l.length ≤ cap
  max : cap ≤ maxLen
  no : ao = none → cap = 0
  at_ : ∀ a, ao = some a → ∃ g off cur, a = ⟨g, off, none⟩ ∧ B ≤ g ∧ Blk w g 22 cur ∧ off + cap ≤ cur.size ∧ ∀ i, i < l.length → cur[off + i]? = some (.int .u64 (l.getD i 0 : Int))
theorem Win.nil (B : Nat) (w : World) : Win B w none 0 [] := ⟨Nat.le_refl _, by decide, fun _ => rfl, fun a h => by cases h⟩
theorem Win.keep {B : Nat} {w w' : World} {ao : Option Addr} {cap : Nat} {l : List Nat} (h : Win B w ao cap l) (k : Below w.heap.size w w') : Win B w' ao cap l :=
  ⟨h.le, h.max, h.no, fun a e => by obtain ⟨g, off, cur, h1, h2, h3, h4, h5⟩ := h.at_ a e; exact ⟨g, off, cur, h1, h2, h3.keep k, h4, h5⟩⟩
theorem Win.other {B : Nat} {w w' : World} {ao : Option Addr} {cap : Nat} {l : List Nat} (h : Win B w ao cap l) (k : ∀ b cs, Blk w b 22 cs → Blk w' b 22 cs) : Win B w' ao cap l :=
  ⟨h.le, h.max, h.no, fun a e => by obtain ⟨g, off, cur, h1, h2, h3, h4, h5⟩ := h.at_ a e; exact ⟨g, off, cur, h1, h2, k _ _ h3, h4, h5⟩⟩
theorem Win.tail0 {B : Nat} {w : World} {a : Addr} {x : Nat} {l : List Nat} (h : Win B w (some a) 1 (x :: l)) : Win B w (some a) 0 [] := by
  refine ⟨Nat.le_refl _, by decide, (fun e => by cases e), fun c e => ?_⟩
  obtain ⟨g, off, cur, h1, h2, h3, h4, h5⟩ := h.at_ c e
  exact ⟨g, off, cur, h1, h2, h3, by omega, fun i hi => absurd hi (by simp)⟩
theorem Win.tail {B : Nat} {w : World} {g off cap x : Nat} {l : List Nat} (h : Win B w (some ⟨g, off, none⟩) cap (x :: l)) : Win B w (some ⟨g, off + 1, none⟩) (cap - 1) l := by
  have hle := h.le
  have hm := h.max
  rw [List.length_cons] at hle
  refine ⟨by omega, by omega, (fun e => by cases e), fun c e => ?_⟩
  obtain ⟨g', off', cur, h1, h2, h3, h4, h5⟩ := h.at_ _ rfl
  injection h1 with e1 e2
  subst e1 e2
  injection e with e
  refine ⟨g, off + 1, cur, e.symm, h2, h3, by omega, fun i hi => ?_⟩
  have := h5 (i + 1) (by simp; exact hi)
  rw [show off + (i + 1) = off + 1 + i by omega] at this
  simpa using this
theorem Win.cons {B : Nat} {w : World} {ao : Option Addr} {cap x : Nat} {l : List Nat} (h : Win B w ao cap (x :: l)) : ∃ g off, ao = some ⟨g, off, none⟩ ∧ w.cell? ⟨g, off, none⟩ = some (.int .u64 (x : Int)) ∧ 0 < cap := by
  have hle := h.le
  rw [List.length_cons] at hle
  cases ao with
  | none => have := h.no rfl; omega
  | some a =>
    obtain ⟨g, off, cur, h1, h2, h3, h4, h5⟩ := h.at_ a rfl
    have := h5 0 (by simp)
    exact ⟨g, off, by rw [h1], h3.cell (by simpa using this), by omega⟩

theorem u64_info : (Try.prog.info? 22).map (fun i => (i.zero, i.size, i.bytes)) = some (some (.int .u64 0), 1, 8) := by kernel_rfl

/-- append of a number. -/
theorem wpList_append_win {w : World} {ops : Array Oper} {rest : List Oper} {o : Oper} {a : Act} {Q : Exit → Act → World → Prop} (hgd : o.guard = none) (s x : Operand)
    (ho : o.op = .call { callee := .builtin .append, args := #[s, x], argTypes := #[46, 46] }) (B cap n c : Nat) (ao : Option Addr) (l : List Nat) (len : Nat) (hlen : l.length = len)
    (hs : a.eval s = .slice ao len cap) (hw : Win B w ao cap l) (ad : Addr) (hx : a.eval x = .slice (some ad) 1 c) (hc : w.cell? ad = some (.int .u64 (n : Int))) (hB : B ≤ w.heap.size) (hl : l.length ≤ 100000)
    (h : ∀ ao' cap' w', Win B w' ao' cap' (l ++ [n]) → Keep64 B w w' → wpList Try.prog ops Q rest (a.put o.dst (.slice ao' (len + 1) cap')) w') : wpList Try.prog ops Q (o :: rest) a w := by
  subst hlen
  obtain ⟨i0, hi, hz0, hz1, hz2⟩ := info_parts u64_info
  have hnews : ∀ j u, [(.int .u64 (n : Int) : Value)][j]? = some u → w.cell? (ad.add j) = some u := fun j u hj => by
    match j, hj with
    | 0, hj =>
      simp at hj
      subst hj
      have : ad.add 0 = ad := by simp [Addr.add]
      rw [this]; exact hc
  have h1 : ∀ u ∈ [(.int .u64 (n : Int) : Value)], u.oneCell' = true := fun u hu => by rw [List.mem_singleton.1 hu]; rfl
  by_cases hr : l.length + 1 ≤ cap
  · cases ao with
    | none => have := hw.no rfl; omega
    | some b =>
      obtain ⟨g, off, cur, rfl, hg, hb, hsz, hcur⟩ := hw.at_ b rfl
      have hin : off + l.length < cur.size := by omega
      have hrun := run_append_room_cells (P := Try.prog) w 46 o.type 22 i0 Try.underlying46 hi g off l.length cap ad 1 c [.int .u64 (n : Int)] (by rw [hz1]; rfl) hnews h1 hr
        (fun j hj => by
          have e : j = 0 := by simp at hj; omega
          subst e
          rw [hz1, Nat.mul_one, Nat.add_zero, hb.cell (Array.getElem?_eq_getElem hin)]; rfl) (fun j hj => hb.free _)
      rw [hz1, Nat.mul_one] at hrun
      refine wpList_plain hgd fun K hK => ?_
      unfold Oper.wp execOp
      simp only [ho, resolve, invoke, builtin, Sem.run_bind, Sem.run_pure, Result.andThen_ok, List.map_toArray, List.map_cons, List.map_nil, hs, hx, hrun]
      refine hK _ _ (h (some ⟨g, off, none⟩) cap _ ⟨by simp; omega, hw.max, (fun e => by cases e), fun a' e => ?_⟩ ⟨?_, fun T b cs hT hk => ?_⟩)
      · injection e with e
        refine ⟨g, off, cur.setIfInBounds (off + l.length) (.int .u64 (n : Int)), e.symm, hg, hb.set _ _, by simpa using hsz, fun i hi' => ?_⟩
        rw [List.length_append, List.length_singleton] at hi'
        by_cases c : i < l.length
        · rw [Array.getElem?_setIfInBounds_ne (by omega), hcur i c]
          simp [List.getD_eq_getElem?_getD, List.getElem?_append_left c]
        · obtain rfl : i = l.length := by omega
          rw [Array.getElem?_setIfInBounds_self_of_lt hin]
          simp [List.getD_eq_getElem?_getD]
      · exact (Below.refl _ _).setCell (p := ⟨g, off + l.length, none⟩) hg _
      · exact hk.set_other _ _ (by
          rintro rfl
          unfold Blk at hk hb
          rw [hb] at hk
          injection hk with hk; injection hk with _ hk _; exact hT hk.symm)
  · refine wpList_append_grows w hgd s x 46 ho 22 i0 (.int .u64 0) 1 8 Try.underlying46 hi hz0 hz1 hz2 rfl (by decide) ao l.length cap (l.map (fun (k : Nat) => (.int .u64 (k : Int) : Value))) hs
      (fun e => by have := hw.no e; have := hw.le; omega) (by simp) (fun b e j u hj => ?_) ad 1 c [.int .u64 (n : Int)] hx rfl hnews h1 (by omega) (by unfold maxLen; omega) (by omega) (fun v' w' hown hgr => ?_)
    · obtain ⟨g, off, cur, rfl, hg, hb, hsz, hcur⟩ := hw.at_ b e
      rw [Go.WideShapes.add_plain]
      obtain ⟨hj1, hj2⟩ := List.getElem?_eq_some_iff.1 hj
      rw [List.length_map] at hj1
      have := hcur j hj1
      refine hb.cell (this.trans ?_)
      rw [← hj2]
      simp [List.getD_eq_getElem?_getD, hj1]
    · obtain ⟨hlen, hv⟩ := hown
      rcases hv with ⟨_, e⟩ | ⟨g, cap', cur, rfl, hbg, hgb, hncap, hmax, hcs, htake⟩
      · omega
      · refine h (some ⟨g, 0, none⟩) cap' w' ⟨by simpa using hncap, hmax, (fun e => by cases e), fun a' e => ?_⟩ ⟨?_, fun T b cs hT hk => hk.grown hgr (by simp)⟩
        · injection e with e
          refine ⟨g, 0, cur, e.symm, Nat.le_trans hB hbg, hgb, by omega, fun i hi' => ?_⟩
          have e2 : (cur.toList.take ((l.length + 1) * 1))[i]? = ((l.map (fun (k : Nat) => (.int .u64 (k : Int) : Value))) ++ [.int .u64 (n : Int)])[i]? := by rw [htake]
          rw [List.length_append, List.length_singleton] at hi'
          rw [List.getElem?_take_of_lt (by omega), Array.getElem?_toList] at e2
          rw [Nat.zero_add, e2]
          have e3 : (l.map (fun (k : Nat) => (.int .u64 (k : Int) : Value))) ++ [.int .u64 (n : Int)] = (l ++ [n]).map (fun (k : Nat) => (.int .u64 (k : Int) : Value)) := by simp
          rw [e3, List.getElem?_map, List.getD_eq_getElem?_getD, List.getElem?_eq_getElem (by simpa using hi')]
          rfl
        · exact ⟨hgr.os, hgr.tape, hgr.output, hgr.size, fun k hk => hgr.block k (by omega) (by simp)⟩
end Go.Proofs.Yteolchbeiidapaa
