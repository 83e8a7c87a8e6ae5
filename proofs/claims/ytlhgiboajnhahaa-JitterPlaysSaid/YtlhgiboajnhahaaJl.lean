/- Contracts of package jitter over this translation: All. -/
import Derived.Test.YtlhgiboajnhahaaJk
import Derived.Test.YtlhgiboajnhahaaSow
import Derived.Deep.AppendLies
set_option linter.unusedVariables false
namespace Go.Proofs.Ytlhgiboajnhahaa
open Go.RowKit

theorem jpk_info : (Try.prog.info? 39).map (fun i => (i.zero, i.size, i.bytes)) = some (some (.agg #[.int .u64 0, .int .u64 0, .int .u64 0, .int .u64 0, .int .u64 0, .int .u64 0, .bool false]), 7, 56) := by kernel_rfl
/-- What lists packets leaves. -/
structure PksPost (w : World) (l : List Pk) (e : Ending) (w' : World) : Prop where
  at_ : ∃ v, e = .returned v ∧ SOwn 39 w.heap.size w' v l
  bel : Below w.heap.size w w'
/-- All eight cells of a parcel of a row. -/
theorem jp_cells {w : World} {g : Nat} {T : TypeId} {l : List Jp} (h : Blk w g T (icells l)) (k : Nat) (hk : k < l.length) (x : Jp) (hx : x = l.getD k Itm.z) :
    w.cell? ⟨g, k * 8, none⟩ = some (.int .u64 (x.p.n : Int)) ∧ w.cell? ⟨g, k * 8 + 1, none⟩ = some (.int .u64 (x.p.size : Int)) ∧ w.cell? ⟨g, k * 8 + 2, none⟩ = some (.int .u64 (x.p.sent : Int)) ∧ w.cell? ⟨g, k * 8 + 3, none⟩ = some (.int .u64 (x.p.first : Int)) ∧ w.cell? ⟨g, k * 8 + 4, none⟩ = some (.int .u64 (x.p.deliv : Int)) ∧ w.cell? ⟨g, k * 8 + 5, none⟩ = some (.int .u64 (x.p.at_ : Int)) ∧ w.cell? ⟨g, k * 8 + 6, none⟩ = some (.bool x.p.lim) ∧ w.cell? ⟨g, k * 8 + 7, none⟩ = some (.int .u64 (x.due : Int)) := by
  have k8 : Itm.k Jp = 8 := rfl
  subst hx
  have f : ∀ j v, (Itm.cs (l.getD k Itm.z))[j]? = some v → w.cell? ⟨g, k * 8 + j, none⟩ = some v := fun j v hv => h.cell ((icells_at j hk (by
    have := (List.getElem?_eq_some_iff.1 hv).1
    rwa [Itm.len] at this)).trans hv)
  exact ⟨f 0 _ rfl, f 1 _ rfl, f 2 _ rfl, f 3 _ rfl, f 4 _ rfl, f 5 _ rfl, f 6 _ rfl, f 7 _ rfl⟩
theorem pks_take (l : List Jp) (k : Nat) (h : k < l.length) : (l.take (k + 1)).map Jp.p = (l.take k).map Jp.p ++ [(l.getD k Itm.z).p] := by
  rw [List.take_succ_eq_append_getElem h, List.map_append, List.getD_eq_getElem?_getD, List.getElem?_eq_getElem h]; rfl

theorem due_split {f : Jp → Bool} {pre rest : List Jp} (h1 : ∀ y ∈ pre, f y = true) (h2 : ∀ y t, rest = y :: t → f y = false) : (pre ++ rest).takeWhile f = pre ∧ (pre ++ rest).dropWhile f = rest := by
  induction pre with
  | nil =>
    cases rest with
    | nil => exact ⟨rfl, rfl⟩
    | cons y t => have := h2 y t rfl; simp [this]
  | cons y t ih =>
    have := h1 y (by simp)
    obtain ⟨a, b⟩ := ih (fun z hz => h1 z (by simp [hz]))
    simp [this]
    exact ⟨a, b⟩

set_option maxHeartbeats 1000000 in
theorem bx_All (b rb g : Nat) (s : BxS) (W : World) (h : BxAt W b rb g s) (hm : s.l.length ≤ 5000) :
    Calls Try.prog 14 #[.pointer (some ⟨b, 0, none⟩)] W (PksPost W s.pks) := by
  have c2 := h.head.cell (i := 2) (v := .pointer (some ⟨rb, 0, none⟩)) rfl
  have HA := Lib.hid (jp_all rb g s.l W h.row)
  have HE : Hid (s.pks = s.l.map Jp.p) := Lib.hid rfl
  obtain ⟨i0, hi0, hz0, hz1, hz2⟩ := info_parts jpk_info
  have HI := Lib.hid hi0
  have HZ0 := Lib.hid hz0
  have HZ1 := Lib.hid hz1
  have HZ2 := Lib.hid hz2
  clear h hi0 hz0 hz1 hz2
  generalize s.pks = pk at *
  generalize s.l = l at *
  go_enter Try.func14, Try.ntmps14
  go_wp2_with fail
  refine HA.out.mono ?_
  rintro e w1 ⟨rfl, hb, hbel⟩
  have HB := Lib.hid hb
  have HW := Lib.hid hbel
  clear hb hbel HA c2
  go_wp2_with fail
  go_loopw [14, 3] (fun i v wr => ∃ k : Nat, i = .int .i64 (k : Int) ∧ k ≤ l.length ∧ SOwn 39 W.heap.size wr v ((l.take k).map Jp.p) ∧ Below W.heap.size W wr ∧ Blk wr W.heap.size 53 (icells l)) (fun i _ _ => l.length - (intOf i).toNat)
  case atStart => exact ⟨0, rfl, Nat.zero_le _, SOwn.nil _ _ _, HW.out, HB.out⟩
  case round =>
    obtain ⟨k, rfl, hk, ho, hbe, hbl⟩ := hrel
    by_cases hlt : k < l.length
    · obtain ⟨x, hx⟩ : ∃ x, x = l.getD k Itm.z := ⟨_, rfl⟩
      obtain ⟨a0, a1, a2, a3, a4, a5, a6, a7⟩ := jp_cells hbl k hlt x hx
      have HT : Hid ((l.take (k + 1)).map Jp.p = (l.take k).map Jp.p ++ [x.p]) := Lib.hid (by rw [hx]; exact pks_take l k hlt)
      have HLn : Hid (((l.take k).map Jp.p).length = k) := Lib.hid (by simp; omega)
      have HO := Lib.hid ho
      have HBe := Lib.hid hbe
      have HBl := Lib.hid hbl
      have HOne := Lib.hid (Itm.one x.p)
      clear ho hbe hbl hx HB HW
      generalize (l.take k).map Jp.p = pre at *
      obtain ⟨ao, cap, hv, hc1, hc2, _, _⟩ := HO.out.form
      subst hv
      have HO2 := Lib.hid ((HO.out.keep (al_be wr (.cells #[.int .u64 (x.p.n : Int), .int .u64 (x.p.size : Int), .int .u64 (x.p.sent : Int), .int .u64 (x.p.first : Int), .int .u64 (x.p.deliv : Int), .int .u64 (x.p.at_ : Int), .bool x.p.lim, .int .u64 (x.due : Int)] 53))).keep (al_be (wr.alloc (.cells #[.int .u64 (x.p.n : Int), .int .u64 (x.p.size : Int), .int .u64 (x.p.sent : Int), .int .u64 (x.p.first : Int), .int .u64 (x.p.deliv : Int), .int .u64 (x.p.at_ : Int), .bool x.p.lim, .int .u64 (x.due : Int)] 53)) (.cells #[.int .u64 (x.p.n : Int), .int .u64 (x.p.size : Int), .int .u64 (x.p.sent : Int), .int .u64 (x.p.first : Int), .int .u64 (x.p.deliv : Int), .int .u64 (x.p.at_ : Int), .bool x.p.lim] 39)))
      have HNw := Lib.hid (World.news_of_block (Blk.new1 wr (.cells #[.int .u64 (x.p.n : Int), .int .u64 (x.p.size : Int), .int .u64 (x.p.sent : Int), .int .u64 (x.p.first : Int), .int .u64 (x.p.deliv : Int), .int .u64 (x.p.at_ : Int), .bool x.p.lim, .int .u64 (x.due : Int)] 53) 39 #[.int .u64 (x.p.n : Int), .int .u64 (x.p.size : Int), .int .u64 (x.p.sent : Int), .int .u64 (x.p.first : Int), .int .u64 (x.p.deliv : Int), .int .u64 (x.p.at_ : Int), .bool x.p.lim]))
      have HBe2 := Lib.hid ((HBe.out.alloc HBe.out.size (.cells #[.int .u64 (x.p.n : Int), .int .u64 (x.p.size : Int), .int .u64 (x.p.sent : Int), .int .u64 (x.p.first : Int), .int .u64 (x.p.deliv : Int), .int .u64 (x.p.at_ : Int), .bool x.p.lim, .int .u64 (x.due : Int)] 53)))
      have hsz : W.heap.size ≤ ((wr.alloc (.cells #[.int .u64 (x.p.n : Int), .int .u64 (x.p.size : Int), .int .u64 (x.p.sent : Int), .int .u64 (x.p.first : Int), .int .u64 (x.p.deliv : Int), .int .u64 (x.p.at_ : Int), .bool x.p.lim, .int .u64 (x.due : Int)] 53)).alloc (.cells #[.int .u64 (x.p.n : Int), .int .u64 (x.p.size : Int), .int .u64 (x.p.sent : Int), .int .u64 (x.p.first : Int), .int .u64 (x.p.deliv : Int), .int .u64 (x.p.at_ : Int), .bool x.p.lim] 39)).heap.size := by have := HBe.out.size; simp; omega
      have hpl : pre.length ≤ 5000 := by rw [HLn.out]; omega
      go_wp2_with (at_builtin; refine wpList_append_own_at _ rfl (.tmp 18) (.tmp 21) 33 rfl W.heap.size 39 i0 (.agg #[.int .u64 0, .int .u64 0, .int .u64 0, .int .u64 0, .int .u64 0, .int .u64 0, .bool false]) 7 56 Try.underlying33 HI.out HZ0.out HZ1.out HZ2.out rfl (by decide) (.slice ao pre.length cap) pre.length (pre.flatMap Itm.cs) rfl HO2.out ⟨wr.heap.size + 1, 0, none⟩ 1 1 (Itm.cs x.p) rfl rfl HNw.out HOne.out (by unfold maxLen; omega) (by omega) hsz ?_; intro v' w5 hown hgr hnil hat; have HW := Lib.hid hown; have HG := Lib.hid hgr; clear hown hgr hnil hat)
      have HS : Hid (SOwn 39 W.heap.size w5 v' (pre ++ [x.p])) := Lib.hid (SOwn.snoc HW.out)
      have HB5 := Lib.hid (bel_app HBe2.out (Nat.le_trans HBe.out.size (by simp)) (HO.out.keep (al_be wr (.cells #[.int .u64 (x.p.n : Int), .int .u64 (x.p.size : Int), .int .u64 (x.p.sent : Int), .int .u64 (x.p.first : Int), .int .u64 (x.p.deliv : Int), .int .u64 (x.p.at_ : Int), .bool x.p.lim, .int .u64 (x.due : Int)] 53))) (.cells #[.int .u64 (x.p.n : Int), .int .u64 (x.p.size : Int), .int .u64 (x.p.sent : Int), .int .u64 (x.p.first : Int), .int .u64 (x.p.deliv : Int), .int .u64 (x.p.at_ : Int), .bool x.p.lim] 39) HG.out)
      have HL5 : Hid (Blk w5 W.heap.size 53 (icells l)) := Lib.hid (((HBl.out.alloc (.cells #[.int .u64 (x.p.n : Int), .int .u64 (x.p.size : Int), .int .u64 (x.p.sent : Int), .int .u64 (x.p.first : Int), .int .u64 (x.p.deliv : Int), .int .u64 (x.p.at_ : Int), .bool x.p.lim, .int .u64 (x.due : Int)] 53)).alloc (.cells #[.int .u64 (x.p.n : Int), .int .u64 (x.p.size : Int), .int .u64 (x.p.sent : Int), .int .u64 (x.p.first : Int), .int .u64 (x.p.deliv : Int), .int .u64 (x.p.at_ : Int), .bool x.p.lim] 39)).grown HG.out (fun e => by
        obtain ⟨_, cs, hcs⟩ := HO.out.own _ e.symm
        exact HBl.out.ty hcs (by decide) rfl))
      clear HW HG HO HO2 HNw HBe HBe2 HBl
      go_wp2_with fail
      go_roundw
      case rel => exact ⟨k + 1, by go_num, by omega, by rw [HT.out]; exact HS.out, HB5.out, HL5.out⟩
      case measure => simp [intOf]; omega
    · obtain rfl : k = l.length := by omega
      have HT : Hid ((l.take l.length).map Jp.p = pk) := Lib.hid (by rw [List.take_length]; exact HE.out.symm)
      have HO := Lib.hid ho
      have HBe := Lib.hid hbe
      clear ho hbe hbl HB HW
      go_wp2_with fail
      go_ret
      exact ⟨⟨_, rfl, HT.out ▸ HO.out⟩, HBe.out⟩

end Go.Proofs.Ytlhgiboajnhahaa
