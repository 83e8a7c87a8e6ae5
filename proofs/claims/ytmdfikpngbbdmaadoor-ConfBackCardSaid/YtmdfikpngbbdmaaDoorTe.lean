/- conf.tell over this translation: words, and one more, with a number's figures behind it. -/
import Derived.Test.YtmdfikpngbbdmaaDoorGu
import Derived.Laws.AppendOwn
import Derived.OwnWalk
import Derived.Maps.AppendAt
set_option linter.unusedVariables false
namespace Go.Proofs.YtmdfikpngbbdmaaDoor
open Go.RowKit Go.Shelf Cf

theorem var_low {P : Program} {n : String} {g B : Nat} {w w' : World} (hg : P.globalNamed n = some g) (hb : Below B w w') (hlt : g < B) : w'.var? P n = w.var? P n := by
  unfold World.var?
  rw [hg]
  simp [hb.block g hlt]
theorem Gl.low {w w' : World} {B : Nat} (h : Gl w) (hb : Below B w w') (hB : 6 ≤ B) : Gl w' where
  tab := by obtain ⟨t, fr, e⟩ := h.tab; exact ⟨t, fr, (hb.block _ (by omega)).trans e⟩
  es := by rw [var_low gl_g2 hb (by omega)]; exact h.es
  er := by rw [var_low gl_g3 hb (by omega)]; exact h.er
  ml := by obtain ⟨m, e⟩ := h.ml; exact ⟨m, (hb.cell (p := ⟨3, 0, none⟩) (by show 3 < B; omega)).trans e⟩
theorem Gl.six {w : World} (h : Gl w) : 6 ≤ w.heap.size := by
  obtain ⟨tp, p, e⟩ := h.er
  unfold World.var? at e
  rw [gl_g3] at e
  simp only [Option.bind_some] at e
  have : (5 : Nat) < w.heap.size := by
    rcases Nat.lt_or_ge 5 w.heap.size with h' | h'
    · exact h'
    · rw [Array.getElem?_eq_none h'] at e; simp at e
  omega

/-- No block changes but rows of texts at n0 or above. -/
structure NoStr (n0 : Nat) (w w' : World) : Prop where
  size : w.heap.size ≤ w'.heap.size
  others : ∀ (k : Nat) (o : Obj), w.heap[k]? = some o → (∀ cs fr, o ≠ Obj.cells cs 9 fr) → w'.heap[k]? = some o
  bel : Below n0 w w'
theorem NoStr.refl (n0 : Nat) (w : World) : NoStr n0 w w := ⟨Nat.le_refl _, fun _ _ h _ => h, Below.refl _ _⟩
theorem NoStr.trans {n0 : Nat} {a b c : World} (h : NoStr n0 a b) (k : NoStr n0 b c) : NoStr n0 a c :=
  ⟨Nat.le_trans h.size k.size, fun i o hi ho => k.others i o (h.others i o hi ho) ho, h.bel.trans k.bel⟩
theorem NoStr.below {n0 : Nat} {w w' : World} (h : Below w.heap.size w w') (hn : n0 ≤ w.heap.size) : NoStr n0 w w' :=
  ⟨h.size, fun k o hk _ => (h.block k (Array.getElem?_eq_some_iff.1 hk).1).trans hk, h.mono hn⟩
theorem NoStr.grown {n0 : Nat} {w w' : World} {v : Value} {k : Nat} {xs : List Value} (hr : w.ownsRow n0 9 1 v k xs) (hg : w.grownBy w' v.ownBlock) (hn : n0 ≤ w.heap.size) : NoStr n0 w w' := by
  refine ⟨hg.size, fun j o hj ho => ?_, ?_⟩
  · refine (hg.block j (Array.getElem?_eq_some_iff.1 hj).1 (fun e => ?_)).trans hj
    rcases hr.2 with ⟨rfl, _⟩ | ⟨g, cap, cur, rfl, _, hgb, _⟩
    · simp [Value.ownBlock] at e
    · obtain rfl : j = g := by simpa [Value.ownBlock] using e
      rw [hj] at hgb
      exact ho _ _ (Option.some.inj hgb)
  · refine (Below.refl n0 w).grown hg hn (fun j e => ?_)
    rcases hr.2 with ⟨rfl, _⟩ | ⟨g, cap, cur, rfl, hb, _, _⟩
    · simp [Value.ownBlock] at e
    · obtain rfl : g = j := by simpa [Value.ownBlock] using e
      exact hb
theorem NoStr.blk {n0 : Nat} {w w' : World} {b : Nat} {T : TypeId} {cs : Array Value} (h : NoStr n0 w w') (hb : Blk w b T cs) (hT : T ≠ 9) : Blk w' b T cs :=
  h.others b _ hb (fun cs' fr e => by cases e; exact hT rfl)
theorem NoStr.kf {n0 : Nat} {w w' : World} (h : NoStr n0 w w') : Kf w w' := ⟨h.size, fun k cs hk => h.blk hk (by decide)⟩
theorem NoStr.ko {n0 B : Nat} {w w' : World} (h : NoStr n0 w w') : KeepsFrom B w w' := ⟨h.size, fun k o _ hk ho => h.others k o hk (fun cs fr e => by subst e; cases ho)⟩
theorem NoStr.alloc {n0 : Nat} {w w1 : World} (h : NoStr n0 w w1) (o : Obj) (hn : n0 ≤ w1.heap.size) : NoStr n0 w (w1.alloc o) := h.trans (NoStr.below ((Below.refl _ _).alloc (Nat.le_refl _) _) hn)

theorem row_keep {n0 : Nat} {w w' : World} {v : Value} {k : Nat} {xs : List Value} (hr : w.ownsRow n0 9 1 v k xs) (hb : Below w.heap.size w w') : w'.ownsRow n0 9 1 v k xs :=
  hr.kept (gr_below hb none) (by cases hv : v.ownBlock <;> simp)
theorem info_str : (Tryd.prog.info? 9).map (fun i => (i.zero, i.size, i.bytes)) = some (some (.string ByteArray.empty), 1, 16) := by kernel_rfl

/-- The loop's relation of tell. -/
def TR (w : World) (n0 k : Nat) (ws : List Value) (x : Value) (n bn : Nat) (v i : Value) (wr : World) : Prop :=
  ((i = .int .i64 0 ∧ wr.ownsRow n0 9 1 v (k + 1) (ws ++ [x])) ∨ (i = .int .i64 1 ∧ wr.ownsRow n0 9 1 v (k + 1 + 1) (ws ++ [x] ++ [.string (ba (Lib.decDigits n))]))) ∧ NoStr n0 w wr ∧ Blk wr bn 22 #[.int .u64 (n : Int)]

def TPost (w : World) (n0 k : Nat) (ws : List Value) (x : Value) (n : Nat) (e : Ending) (w' : World) : Prop :=
  ∃ v, e = .returned v ∧ w'.ownsRow n0 9 1 v (k + 1 + 1) (ws ++ [x] ++ [.string (ba (Lib.decDigits n))]) ∧ NoStr n0 w w'

set_option maxRecDepth 100000 in
set_option maxHeartbeats 1000000 in
theorem conf_tell (n0 k : Nat) (v : Value) (ws : List Value) (word : ByteArray) (n bn : Nat) (w : World) (hn : n ≤ 18446744073709551615) (hk : k ≤ 100) (h6 : 6 ≤ n0) (hg : Gl w)
    (hrow : w.ownsRow n0 9 1 v k ws) (hb : Blk w bn 22 #[.int .u64 (n : Int)]) (hn0 : n0 ≤ w.heap.size) :
    Calls Tryd.prog 15 #[v, .string word, .slice (some ⟨bn, 0, none⟩) 1 1] w (TPost w n0 k ws (.string word) n) := by
  obtain ⟨i0, hi, hz0, hz1, hz2⟩ := info_parts info_str
  have HG := Lib.hid hg
  have HB := Lib.hid hb
  have HR := Lib.hid hrow
  have HM : Hid (k + 1 ≤ maxLen) := by show k + 1 ≤ maxLen; unfold maxLen; omega
  have HM2 : Hid (k + 1 + 1 ≤ maxLen) := by show k + 1 + 1 ≤ maxLen; unfold maxLen; omega
  clear hg hb hrow
  go_enter Tryd.func15, Tryd.ntmps15
  go_wp2_with (first
    | (at_builtin; refine wpList_append_own _ rfl _ _ 36 rfl n0 9 i0 (.string ByteArray.empty) 1 16 Tryd.underlying36 hi hz0 hz1 hz2 rfl (by decide) v k ws rfl (HR.out.alloc _) ⟨w.heap.size, 0, none⟩ 1 1 [.string word] rfl rfl (cell_one_new _ _ _) (fun x hx => by simp at hx; subst hx; rfl) HM.out (by omega) (by simp; omega) ?_; intro v1 w1 hown1 hgrow1 hnil1))
  have N1 := Lib.hid (((NoStr.refl n0 w).alloc (.cells #[.string word] 9) hn0).trans (NoStr.grown (HR.out.alloc _) hgrow1 (by simp; omega)))
  have B1 := Lib.hid (N1.out.blk HB.out (by decide))
  have R1 := Lib.hid hown1
  clear hgrow1 hnil1 hown1 HR
  go_loopw [0, 15] (TR w n0 k ws (.string word) n bn) (fun _ i _ => 1 - (intOf i).toNat)
  case atStart => exact ⟨.inl ⟨rfl, R1.out⟩, N1.out, B1.out⟩
  case round =>
    obtain ⟨h1, h2, h3⟩ := hrel
    clear N1 B1 R1
    have N2 := Lib.hid h2
    have B2 := Lib.hid h3
    clear h2 h3
    rcases h1 with ⟨rfl, h1⟩ | ⟨rfl, h1⟩
    · have R2 := Lib.hid h1
      have c0 := B2.out.cell (i := 0) (v := .int .u64 (n : Int)) rfl
      clear h1
      go_wp2_with fail
      refine (FormatUint n hn _ (HG.out.low N2.out.bel h6)).mono ?_
      rintro e w3 ⟨rfl, hb3⟩
      have hsz := N2.out.size
      have N3 := Lib.hid (N2.out.trans (NoStr.below hb3 (by omega)))
      have hsz3 := N3.out.size
      have R3 := Lib.hid (row_keep R2.out hb3)
      have B3 := Lib.hid (B2.out.keep hb3)
      clear hb3 R2 B2 N2 c0
      rw [show (⟨(Lib.decDigits n).toArray⟩ : ByteArray) = ba (Lib.decDigits n) from rfl]
      go_wp2_with (first
        | (at_builtin; refine wpList_append_own _ rfl _ _ 36 rfl n0 9 i0 (.string ByteArray.empty) 1 16 Tryd.underlying36 hi hz0 hz1 hz2 rfl (by decide) _ (k + 1) (ws ++ [.string word]) rfl (R3.out.alloc _) ⟨w3.heap.size, 0, none⟩ 1 1 [.string (ba (Lib.decDigits n))] rfl rfl (cell_one_new _ _ _) (fun x hx => by simp at hx; subst hx; rfl) HM2.out (by omega) (by simp; omega) ?_; intro v4 w4 hown4 hgrow4 hnil4))
      have N4 := Lib.hid ((N3.out.alloc (.cells #[.string (ba (Lib.decDigits n))] 9) (by omega)).trans (NoStr.grown (R3.out.alloc _) hgrow4 (by simp; omega)))
      have B4 := Lib.hid (N4.out.blk HB.out (by decide))
      have R4 := Lib.hid hown4
      clear hgrow4 hnil4 hown4 R3 B3 N3
      go_wp2
      go_roundw
      case rel => exact ⟨.inr ⟨rfl, R4.out⟩, N4.out, B4.out⟩
      case measure => simp [intOf]
    · have R2 := Lib.hid h1
      clear h1
      go_wp2
      go_ret
      exact ⟨_, rfl, R2.out, N2.out⟩
end Go.Proofs.YtmdfikpngbbdmaaDoor
