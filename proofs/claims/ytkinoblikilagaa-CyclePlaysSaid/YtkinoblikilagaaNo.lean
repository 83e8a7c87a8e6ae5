/- Rows of numbers of the call's own, and what is appended to them, over this translation. -/
import Derived.Test.YtkinoblikilagaaNm
import Derived.OwnWalk
set_option linter.unusedVariables false
namespace Go.Proofs.Ytkinoblikilagaa
open Go.RowKit

theorem u64_info : (Try.prog.info? 31).map (fun i => (i.zero, i.size, i.bytes)) = some (some (.int .u64 0), 1, 8) := by kernel_rfl

/-- All blocks of a type are as they were. -/
def KeepT (T : TypeId) (w w' : World) : Prop := ∀ b cs, Blk w b T cs → Blk w' b T cs
theorem KeepT.refl (T : TypeId) (w : World) : KeepT T w w := fun _ _ h => h
theorem KeepT.trans {T : TypeId} {a b c : World} (h : KeepT T a b) (k : KeepT T b c) : KeepT T a c := fun x cs q => k x cs (h x cs q)
theorem KeepT.below {T : TypeId} {w w' : World} (h : Below w.heap.size w w') : KeepT T w w' := fun _ _ q => q.keep h
theorem KeepT.grown {T U : TypeId} {w w' : World} {b : Nat} {ds : Array Value} (h : w.grownBy w' (some b)) (k : Blk w b U ds) (hne : T ≠ U) : KeepT T w w' :=
  fun x cs q => q.grown h (by intro e; injection e with e; subst e; exact (q.ty k hne) rfl)
theorem KeepT.set {T U : TypeId} {w : World} {b : Nat} {ds : Array Value} (k : Blk w b U ds) (hne : T ≠ U) (i : Nat) (u : Value) : KeepT T w (w.setCell ⟨b, i, none⟩ u) :=
  fun x cs q => q.set_other i u (q.ty k hne)
theorem KeepT.alloc (T : TypeId) (w : World) (o : Obj) : KeepT T w (w.alloc o) := fun _ _ q => q.alloc o

theorem row_inv {T : TypeId} {B : Nat} {w : World} {v n cap : Nat} {xs : List Value} (h : w.ownsRow B T 1 (.slice (some ⟨v, 0, none⟩) n cap) n xs) :
    xs.length = n ∧ B ≤ v ∧ ∃ cur, Blk w v T cur ∧ n ≤ cap ∧ cap ≤ maxLen ∧ cur.size = cap ∧ cur.toList.take n = xs := by
  rcases h with ⟨h1, ⟨h2, _⟩ | ⟨g, cap', cur, e, hb, hg, h3, h4, h5, h6⟩⟩
  · cases h2
  · injection e with e1 e2 e3
    injection e1 with e1
    injection e1 with e1
    subst e1; subst e3
    exact ⟨by omega, hb, cur, hg, h3, h4, by omega, by rw [Nat.mul_one] at h6; exact h6⟩
theorem row_mk {T : TypeId} {B : Nat} {w : World} {v n cap : Nat} {xs : List Value} {cur : Array Value} (h0 : xs.length = n) (hb : B ≤ v) (h1 : Blk w v T cur) (h2 : n ≤ cap) (h3 : cap ≤ maxLen) (h4 : cur.size = cap) (h5 : cur.toList.take n = xs) :
    w.ownsRow B T 1 (.slice (some ⟨v, 0, none⟩) n cap) n xs :=
  ⟨by omega, .inr ⟨v, cap, cur, rfl, hb, h1, h2, h3, by omega, by rw [Nat.mul_one]; exact h5⟩⟩
theorem row_form {T : TypeId} {B : Nat} {w : World} {v : Value} {n : Nat} {xs : List Value} (h : w.ownsRow B T 1 v n xs) (hv : v ≠ .slice none 0 0) : ∃ g cap, v = .slice (some ⟨g, 0, none⟩) n cap := by
  rcases h with ⟨_, ⟨e, _⟩ | ⟨g, cap, cur, e, _⟩⟩
  · exact absurd e hv
  · exact ⟨g, cap, e⟩
theorem row_at {xs : List Value} {cur : Array Value} {n i : Nat} (h : cur.toList.take n = xs) (hi : i < n) : cur[i]? = xs[i]? := by
  rw [← h, List.getElem?_take_of_lt hi]; simp
/-- A row that is new, without places. -/
theorem row_empty {T : TypeId} {B : Nat} (w : World) (hB : B ≤ w.heap.size) : (w.alloc (.cells #[] T)).ownsRow B T 1 (.slice (some ⟨w.heap.size, 0, none⟩) 0 0) 0 [] :=
  row_mk rfl hB (Blk.new _ _ _) (Nat.le_refl _) (Nat.zero_le _) rfl rfl
/-- A row of numbers, read as a slice. -/
theorem row_nums {T : TypeId} {B : Nat} {w : World} {v n cap : Nat} {l : List Nat} (h : w.ownsRow B T 1 (.slice (some ⟨v, 0, none⟩) n cap) n (l.map ncell)) : l.length = n ∧ Nums w (some ⟨v, 0, none⟩) l := by
  obtain ⟨h0, _, cur, h1, _, _, _, h5⟩ := row_inv h
  have h0' : l.length = n := by simpa using h0
  refine ⟨h0', fun _ => ⟨v, 0, rfl, h1.lt, fun i hi => h1.cell ?_⟩⟩
  rw [Nat.zero_add, row_at h5 (by omega)]
  simp [List.getD_eq_getElem?_getD, hi]

/-- append of numbers, which may be nil, onto a row of the call's own that is not. -/
theorem wpList_append_nums {w : World} {ops : Array Oper} {rest : List Oper} {o : Oper} {a : Act} {Q : Exit → Act → World → Prop} (hgd : o.guard = none) (s x : Operand)
    (ho : o.op = .call { callee := .builtin .append, args := #[s, x], argTypes := #[28, 28] }) (B g n cap : Nat) (xs : List Nat)
    (hs : a.eval s = .slice (some ⟨g, 0, none⟩) n cap) (hown : w.ownsRow B 31 1 (.slice (some ⟨g, 0, none⟩) n cap) n (xs.map ncell))
    (p : Option Addr) (m c : Nat) (l : List Nat) (hx : a.eval x = .slice p m c) (hp : p = none → m = 0 ∧ c = 0) (hl : l.length = m) (hN : Nums w p l) (hb : n + m ≤ 1000000) (hB : B ≤ w.heap.size)
    (h : ∀ g' cap' w', w'.ownsRow B 31 1 (.slice (some ⟨g', 0, none⟩) (n + m) cap') (n + m) ((xs ++ l).map ncell) → w.grownBy w' (some g) → (g' = g ∨ g' = w.heap.size) → wpList Try.prog ops Q rest (a.put o.dst (.slice (some ⟨g', 0, none⟩) (n + m) cap')) w') :
    wpList Try.prog ops Q (o :: rest) a w := by
  obtain ⟨i0, hi, hz0, hz1, hz2⟩ := info_parts u64_info
  rcases hpp : p with _ | ad
  · subst hpp
    obtain ⟨rfl, rfl⟩ := hp rfl
    have hl0 : l = [] := List.eq_nil_of_length_eq_zero hl
    subst hl0
    refine wpList_append_own_none hgd s x 28 ho B 31 i0 1 Try.underlying28 hi _ n _ hs hown hx ?_
    have := h g cap w (by simpa using hown) (gr_refl _ _) (.inl rfl)
    simpa using this
  · subst hpp
    refine wpList_append_own_at _ hgd s x 28 ho B 31 i0 (.int .u64 0) 1 8 Try.underlying28 hi hz0 hz1 hz2 rfl (by decide) _ n _ hs hown ad m c (l.map ncell) hx (by simp [hl]) ?_ (one_nums l) (by unfold maxLen; omega) (by omega) hB ?_
    · intro j u hu
      have hpos : 0 < (l.map ncell).length := by
        rcases Nat.eq_zero_or_pos (l.map ncell).length with e | e
        · rw [List.eq_nil_of_length_eq_zero e] at hu; simp at hu
        · exact e
      obtain ⟨ad', e, hc⟩ := hN.cells hpos
      injection e with e; subst e
      exact hc j u hu
    · intro v' w' hown' hgr hnil hat
      obtain ⟨g', cap', rfl⟩ := row_form hown' (fun e => by have := hnil.1 e; simp at this)
      refine h g' cap' w' (by rw [List.map_append]; exact hown') hgr ?_
      simp [Value.ownBlock] at hat
      exact hat
end Go.Proofs.Ytkinoblikilagaa
