/- 6 texts put together: what each one says stands ahead of it. -/
import Derived.Test.YtpkbjfhicocogaaGreatDoorKPlays15
import Derived.Test.YtpkbjfhicocogaaGreatDoorProg
import Derived.BigQuiet
import Derived.StillTailTactics
import Derived.Deep.RegionHeld3
import Derived.Deep.LoopGhost
import Derived.Laws.AppendOwnNone
import Derived.Maps.AppendAt
import Derived.Deep.AppendLies
import Derived.OwnWalk
/- Slices of numbers in memory, read as lists; the greatest of a list (no function of the program here). -/
set_option linter.unusedVariables false
namespace Go.Proofs.YtpkbjfhicocogaaGreatDoor
open Go.RowKit

def ncell (n : Nat) : Value := .int .u64 (n : Int)
def pcells (l : List Nat) : Array Value := (l.map ncell).toArray
theorem pcells_at {l : List Nat} {i : Nat} (h : i < l.length) : (pcells l)[i]? = some (.int .u64 ((l.getD i 0 : Nat) : Int)) := by
  simp [pcells, ncell, List.getD_eq_getElem?_getD, h]

/-- A slice of numbers: where it begins, and what it reads as. -/
def Nums (w : World) (v : Option Addr) (l : List Nat) : Prop :=
  0 < l.length → ∃ b off, v = some ⟨b, off, none⟩ ∧ b < w.heap.size ∧ ∀ i, i < l.length → w.cell? ⟨b, off + i, none⟩ = some (ncell (l.getD i 0))

theorem Nums.keep {w w' : World} {v : Option Addr} {l : List Nat} (h : Nums w v l) (k : Below w.heap.size w w') : Nums w' v l := by
  intro hp
  obtain ⟨b, off, e, hb, hc⟩ := h hp
  exact ⟨b, off, e, Nat.lt_of_lt_of_le hb k.size, fun i hi => (k.cell (p := ⟨b, off + i, none⟩) hb).trans (hc i hi)⟩
theorem Nums.below {B : Nat} {w w' : World} {v : Option Addr} {l : List Nat} (h : Nums w v l) (k : Below B w w') (hB : ∀ a, v = some a → a.block < B) : Nums w' v l := by
  intro hp
  obtain ⟨b, off, e, hb, hc⟩ := h hp
  have hlt : b < B := hB _ e
  exact ⟨b, off, e, Nat.lt_of_lt_of_le hb k.size, fun i hi => (k.cell (p := ⟨b, off + i, none⟩) hlt).trans (hc i hi)⟩
protected theorem Nums.none (w : World) (v : Option Addr) : Nums w v [] := fun h => absurd h (by simp)
theorem Nums.of_blk {w : World} {g : Nat} {T : TypeId} {l : List Nat} (h : Blk w g T (pcells l)) : Nums w (some ⟨g, 0, none⟩) l := by
  intro _
  refine ⟨g, 0, rfl, h.lt, fun i hi => h.cell ?_⟩
  rw [Nat.zero_add]; exact pcells_at hi
theorem map_at {l : List Nat} {j : Nat} {u : Value} (h : (l.map ncell)[j]? = some u) : j < l.length ∧ u = ncell (l.getD j 0) := by
  have hj : j < l.length := by
    rcases Nat.lt_or_ge j l.length with c | c
    · exact c
    · rw [List.getElem?_eq_none (by simpa using c)] at h; cases h
  refine ⟨hj, ?_⟩
  simp [hj] at h
  simp [List.getD_eq_getElem?_getD, hj, h]
theorem Nums.cells {w : World} {v : Option Addr} {l : List Nat} (h : Nums w v l) (hp : 0 < (l.map ncell).length) : ∃ ad, v = some ad ∧ ∀ j u, (l.map ncell)[j]? = some u → w.cell? (ad.add j) = some u := by
  obtain ⟨b, off, rfl, _, hc⟩ := h (by simpa using hp)
  refine ⟨_, rfl, fun j u hu => ?_⟩
  obtain ⟨hj, rfl⟩ := map_at hu
  rw [Go.WideShapes.add_plain]
  exact hc j hj
theorem one_nums (l : List Nat) : ∀ v ∈ l.map ncell, v.oneCell' = true := by
  intro v hv
  obtain ⟨n, _, rfl⟩ := List.mem_map.1 hv
  rfl

/-- The greatest of x, and of a list. -/
def mxs (x : Nat) (l : List Nat) : Nat := l.foldl max x
theorem mxs_nil (x : Nat) : mxs x [] = x := rfl
theorem mxs_app (x : Nat) (l r : List Nat) : mxs x (l ++ r) = mxs (mxs x l) r := by simp [mxs]
theorem mxs_ge (x : Nat) (l : List Nat) : x ≤ mxs x l := by
  induction l generalizing x with
  | nil => exact Nat.le_refl _
  | cons a r ih => have := ih (max x a); simp only [mxs, List.foldl_cons] at *; omega
theorem mxs_max (x y : Nat) (l : List Nat) : mxs (max x y) l = max x (mxs y l) := by
  induction l generalizing x y with
  | nil => rfl
  | cons a r ih => simp only [mxs, List.foldl_cons] at *; rw [Nat.max_assoc, ih]
theorem mxs_eq (x : Nat) (l : List Nat) : mxs x l = max x (mxs 0 l) := by
  have := mxs_max x 0 l; rwa [Nat.max_eq_left (Nat.zero_le _)] at this
theorem mxs_take (x : Nat) {l : List Nat} {k : Nat} (h : k < l.length) : mxs x (l.take (k + 1)) = max (mxs x (l.take k)) (l.getD k 0) := by
  rw [List.take_succ_eq_append_getElem h, mxs_app]
  simp [mxs, List.getD_eq_getElem?_getD, h]
theorem mxs_rev (x : Nat) (l : List Nat) : mxs x l.reverse = mxs x l := by
  induction l generalizing x with
  | nil => rfl
  | cons a r ih =>
    rw [List.reverse_cons, mxs_app, ih]
    simp only [mxs, List.foldl_cons, List.foldl_nil]
    have e1 := mxs_max a x r
    have e2 : max x a = max a x := Nat.max_comm _ _
    simp only [mxs] at e1
    rw [e2, e1, Nat.max_comm]
theorem mxs_lt {x B : Nat} {l : List Nat} (hx : x ≤ B) (h : ∀ a ∈ l, a ≤ B) : mxs x l ≤ B := by
  induction l generalizing x with
  | nil => exact hx
  | cons a r ih =>
    have h1 : a ≤ B := h a (by simp)
    simp only [mxs, List.foldl_cons] at *
    exact ih (by omega) (fun y hy => h y (by simp [hy]))

/-- What the builtin max answers. -/
theorem max_if (x y : Nat) : (if (x : Int) < (y : Int) then (y : Int) else (x : Int)) = ((max x y : Nat) : Int) := by
  split <;> omega
end Go.Proofs.YtpkbjfhicocogaaGreatDoor

/- Contracts of package cycle over this translation: a cycle filter is a block of three cells (the greatest number of the cycle ahead, and of this one; how many have begun). -/
set_option linter.unusedVariables false
namespace Go.Proofs.YtpkbjfhicocogaaGreatDoor
open Go.RowKit

structure CY where
  a : Nat
  t : Nat
  n : Nat
def CY.cells (s : CY) : Array Value := #[.int .u64 (s.a : Int), .int .u64 (s.t : Int), .int .u64 (s.n : Int)]
def CY.best (s : CY) : Nat := max s.a s.t
def CY.next (s : CY) : CY := ⟨s.t, 0, (s.n + 1) % 18446744073709551616⟩
def CY.put (s : CY) (l : List Nat) : CY := ⟨s.a, mxs s.t l, s.n⟩
def CyAt (w : World) (b : Nat) (s : CY) : Prop := Blk w b 113 s.cells

theorem cy_New (w : World) : Calls Tryz.prog 22 #[] w fun e w' => e = .returned (.pointer (some ⟨w.heap.size, 0, none⟩)) ∧ CyAt w' w.heap.size ⟨0, 0, 0⟩ ∧ Below w.heap.size w w' := by
  go_enter Tryz.func22, Tryz.ntmps22
  go_wp2
  go_ret
  exact ⟨rfl, Blk.new _ _ _, (Below.refl _ _).alloc (Nat.le_refl _) _⟩

theorem cy_Put_nil (v : Value) (w : World) : Calls Tryz.prog 70 #[.pointer none, v] w fun e w' => e = .returned (.tuple #[]) ∧ w = w' := by
  go_enter Tryz.func70, Tryz.ntmps70
  go_wp2
  exact bodyPost_ret (v := .tuple #[]) (by simp [results, Tryz.results70, go_sem]) rfl ⟨rfl, rfl⟩
theorem cy_Next_nil (w : World) : Calls Tryz.prog 80 #[.pointer none] w fun e w' => e = .returned (.tuple #[]) ∧ w = w' := by
  go_enter Tryz.func80, Tryz.ntmps80
  go_wp2
  exact bodyPost_ret (v := .tuple #[]) (by simp [results, Tryz.results80, go_sem]) rfl ⟨rfl, rfl⟩
theorem cy_Best_nil (w : World) : Calls Tryz.prog 37 #[.pointer none] w fun e w' => e = .returned (.int .u64 0) ∧ w = w' := by
  go_enter Tryz.func37, Tryz.ntmps37
  go_wp2
  go_ret
  exact ⟨rfl, rfl⟩
theorem cy_Count_nil (w : World) : Calls Tryz.prog 88 #[.pointer none] w fun e w' => e = .returned (.int .u64 0) ∧ w = w' := by
  go_enter Tryz.func88, Tryz.ntmps88
  go_wp2
  go_ret
  exact ⟨rfl, rfl⟩
theorem cy_Count (b : Nat) (s : CY) (w : World) (h : CyAt w b s) : Calls Tryz.prog 88 #[.pointer (some ⟨b, 0, none⟩)] w fun e w' => e = .returned (.int .u64 (s.n : Int)) ∧ w = w' := by
  have h2 := Blk.cell h (i := 2) (v := .int .u64 (s.n : Int)) rfl
  clear h
  go_enter Tryz.func88, Tryz.ntmps88
  go_wp2
  go_ret
  exact ⟨rfl, rfl⟩


/-- What '==' says of two arrays. -/
theorem eq_two (a b c d : Int) (w : World) : (Op.equalIn 10000 111 (.agg #[.int .u64 a, .int .u64 b]) (.agg #[.int .u64 c, .int .u64 d])).run Tryz.prog w = .ok (a == c && b == d) w := by
  have u3 := Tryz.underlying22
  have a3 := Tryz.isAgg22
  have z3 := Tryz.sizeOf22
  rw [show (10000 : Nat) = 9999 + 1 from rfl, Op.equalIn]
  simp only [Sem.run_bind, run_underlying Tryz.underlying111, Result.andThen_ok]
  simp only [Std.Legacy.Range.forIn_eq_forIn_range', Std.Legacy.Range.size, Nat.sub_zero, Nat.add_sub_cancel, Nat.div_one, List.range'_succ, List.range'_zero, List.forIn_cons, List.forIn_nil]
  go_simp
  by_cases h1 : a = c <;> by_cases h2 : b = d <;> simp [h1, h2]

theorem cy_Best (b : Nat) (s : CY) (w : World) (h : CyAt w b s) : Calls Tryz.prog 37 #[.pointer (some ⟨b, 0, none⟩)] w fun e w' => e = .returned (.int .u64 (s.best : Int)) ∧ Below w.heap.size w w' := by
  have h0 := Blk.cell h (i := 0) (v := .int .u64 (s.a : Int)) rfl
  have h1 := Blk.cell h (i := 1) (v := .int .u64 (s.t : Int)) rfl
  have HE := Lib.hid (max_if s.a s.t)
  unfold CY.best
  clear h
  obtain ⟨r, hr⟩ : ∃ r : Bool, ((s.a : Int) == 0 && (s.t : Int) == 0) = r := ⟨_, rfl⟩
  have heq : ∀ w, (Op.equalIn 10000 111 (.agg #[.int .u64 (s.a : Int), .int .u64 (s.t : Int)]) (.agg #[.int .u64 0, .int .u64 0])).run Tryz.prog w = .ok r w := fun w => by rw [eq_two, hr]
  have HR := Lib.hid hr
  clear hr
  rcases r
  · go_enter Tryz.func37, Tryz.ntmps37
    go_wp2
    go_region
    go_wp2
    all_goals
      go_ret
      exact ⟨ret_u64 (by omega), (Drawn.drew _).below _⟩
  · go_enter Tryz.func37, Tryz.ntmps37
    go_wp2
    go_ret
    have := HR.out
    simp at this
    exact ⟨ret_u64 (by rw [this.1, this.2]; rfl), Below.refl _ _⟩
theorem cy_Next (b : Nat) (s : CY) (w : World) (h : CyAt w b s) : Calls Tryz.prog 80 #[.pointer (some ⟨b, 0, none⟩)] w fun e w' => e = .returned (.tuple #[]) ∧ CyAt w' b s.next ∧ w.grownBy w' (some b) := by
  have h0 := Blk.cell h (i := 0) (v := .int .u64 (s.a : Int)) rfl
  have h1 := Blk.cell h (i := 1) (v := .int .u64 (s.t : Int)) rfl
  have h2 := Blk.cell h (i := 2) (v := .int .u64 (s.n : Int)) rfl
  have f0 := Blk.free h 0
  have f1 := Blk.free h 1
  have f2 := Blk.free h 2
  have HH := Lib.hid h
  clear h
  go_enter Tryz.func80, Tryz.ntmps80
  go_wp2
  go_end0
  refine ⟨rfl, ?_, gr_set (gr_set (gr_set (gr_refl _ _) _ _) _ _) _ _⟩
  have := ((Blk.set HH.out 0 (.int .u64 (s.t : Int))).set 1 (.int .u64 0)).set 2 (.int .u64 (IntKind.u64.wrap ((s.n : Int) + 1)))
  have e : IntKind.u64.wrap ((s.n : Int) + 1) = (((s.n + 1) % 18446744073709551616 : Nat) : Int) := by
    simp [IntKind.wrap, IntKind.signed, IntKind.bits]
  unfold CyAt
  simpa [CY.cells, CY.next, e] using this

def PutRel (w : World) (b : Nat) (s : CY) (l : List Nat) (k : Nat) (wr : World) : Prop := k ≤ l.length ∧ CyAt wr b (s.put (l.take k)) ∧ w.grownBy wr (some b)

set_option maxHeartbeats 400000 in
theorem cy_Put (b : Nat) (s : CY) (v : Option Addr) (cap : Nat) (l : List Nat) (w : World) (h : CyAt w b s) (hl : Nums w v l) (hv : 0 < l.length → ∀ a, v = some a → a.block ≠ b) (hn : l.length ≤ 1000) :
    Calls Tryz.prog 70 #[.pointer (some ⟨b, 0, none⟩), .slice v l.length cap] w fun e w' => e = .returned (.tuple #[]) ∧ CyAt w' b (s.put l) ∧ w.grownBy w' (some b) := by
  have HH := Lib.hid h
  have HN := Lib.hid hl
  have HV := Lib.hid hv
  clear h hl hv
  go_enter Tryz.func70, Tryz.ntmps70
  go_wp2_with fail
  go_loopw [10] (fun i wr => ∃ k : Nat, i = .int .i64 (k : Int) ∧ PutRel w b s l k wr) (fun i _ => l.length - (intOf i).toNat)
  case atStart => exact ⟨0, rfl, Nat.zero_le _, HH.out, gr_refl _ _⟩
  case round =>
    obtain ⟨k, rfl, hk, hc, hg⟩ := hrel
    have HC := Lib.hid hc
    have HG := Lib.hid hg
    clear hc hg
    by_cases hlt : k < l.length
    · obtain ⟨ad, o, rfl, hb, hcl⟩ := HN.out (by omega)
      have hx := (World.grownBy.cell_far HG.out ⟨ad, o + k, none⟩ hb (by have := HV.out (by omega) _ rfl; intro e; injection e with e; exact this e)).trans (hcl k hlt)
      have h0 := Blk.cell HC.out (i := 0) (v := .int .u64 (s.a : Int)) rfl
      have h1 := Blk.cell HC.out (i := 1) (v := .int .u64 ((mxs s.t (l.take k) : Nat) : Int)) rfl
      have f1 := Blk.free HC.out 1
      have i0 : (0 : Int) ≤ (k : Int) := by omega
      have i1 : (k : Int) < (l.length : Int) := by omega
      have HM := Lib.hid (mxs_take s.t hlt)
      unfold ncell at hx
      generalize l.getD k 0 = x at *
      obtain ⟨m, hm⟩ : ∃ m, mxs s.t (l.take k) = m := ⟨_, rfl⟩
      have HMM := Lib.hid hm
      rw [hm] at h1 HM
      clear hm hcl
      have HE := Lib.hid (max_if m x)
      go_wp2_with fail
      go_region
      have HC2 : Hid (CyAt _ b (s.put (l.take (k + 1)))) := Lib.hid (Blk.set HC.out 1 (.int .u64 ((mxs s.t (l.take (k + 1)) : Nat) : Int)))
      have HG2 := Lib.hid (gr_drew (gr_set HG.out 1 (.int .u64 ((mxs s.t (l.take (k + 1)) : Nat) : Int))))
      have HI : Hid ((if m < x then (x : Int) else (m : Int)) = ((mxs s.t (l.take (k + 1)) : Nat) : Int)) := Lib.hid (by rw [HM.out]; split <;> omega)
      go_wp2_with fail
      rw [HI.out]
      go_roundw
      case rel => exact ⟨k + 1, by go_num, by omega, HC2.out, HG2.out⟩
      case measure => simp [intOf]; omega
    · obtain rfl : k = l.length := by omega
      go_wp2_with fail
      go_end0
      exact ⟨rfl, by have := HC.out; rwa [List.take_length] at this, HG.out⟩
end Go.Proofs.YtpkbjfhicocogaaGreatDoor

/- Rows of numbers of the call's own, and what is appended to them, over this translation. -/
set_option linter.unusedVariables false
namespace Go.Proofs.YtpkbjfhicocogaaGreatDoor
open Go.RowKit

theorem u64_info : (Tryz.prog.info? 22).map (fun i => (i.zero, i.size, i.bytes)) = some (some (.int .u64 0), 1, 8) := by kernel_rfl

/-- All blocks of a type are as they were. -/
def KeepT (T : TypeId) (w w' : World) : Prop := ∀ b cs, Blk w b T cs → Blk w' b T cs
theorem KeepT.refl (T : TypeId) (w : World) : KeepT T w w := fun _ _ h => h
theorem KeepT.trans {T : TypeId} {a b c : World} (h : KeepT T a b) (k : KeepT T b c) : KeepT T a c := fun x cs q => k x cs (h x cs q)
theorem KeepT.below {T : TypeId} {w w' : World} (h : Below w.heap.size w w') : KeepT T w w' := fun _ _ q => q.keep h
theorem KeepT.grown {T U : TypeId} {w w' : World} {b : Nat} {ds : Array Value} (h : w.grownBy w' (some b)) (k : Blk w b U ds) (hne : T ≠ U) : KeepT T w w' :=
  fun x cs q => q.grown h (by intro e; injection e with e; subst e; exact (q.ty k hne) rfl)
theorem KeepT.set {T U : TypeId} {w : World} {b : Nat} {ds : Array Value} (k : Blk w b U ds) (hne : T ≠ U) (i : Nat) (u : Value) : KeepT T w (w.setCell ⟨b, i, none⟩ u) :=
  fun x cs q => q.set_other i u (q.ty k hne)
theorem KeepT.alloc (T : TypeId) (w : World) (o : Obj) : KeepT T w (w.alloc o) := fun _ _ q => q.alloc o

theorem row_inv {T : TypeId} {B : Nat} {w : World} {v n cap : Nat} {xs : List Value} (h : w.ownsRow B T 1 (.slice (some ⟨v, 0, none⟩) n cap) n xs) :
    xs.length = n ∧ B ≤ v ∧ ∃ cur, Blk w v T cur ∧ n ≤ cap ∧ cap ≤ maxLen ∧ cur.size = cap ∧ cur.toList.take n = xs := by
  rcases h with ⟨h1, ⟨h2, _⟩ | ⟨g, cap', cur, e, hb, hg, h3, h4, h5, h6⟩⟩
  · cases h2
  · injection e with e1 e2 e3
    injection e1 with e1
    injection e1 with e1
    subst e1; subst e3
    exact ⟨by omega, hb, cur, hg, h3, h4, by omega, by rw [Nat.mul_one] at h6; exact h6⟩
theorem row_mk {T : TypeId} {B : Nat} {w : World} {v n cap : Nat} {xs : List Value} {cur : Array Value} (h0 : xs.length = n) (hb : B ≤ v) (h1 : Blk w v T cur) (h2 : n ≤ cap) (h3 : cap ≤ maxLen) (h4 : cur.size = cap) (h5 : cur.toList.take n = xs) :
    w.ownsRow B T 1 (.slice (some ⟨v, 0, none⟩) n cap) n xs :=
  ⟨by omega, .inr ⟨v, cap, cur, rfl, hb, h1, h2, h3, by omega, by rw [Nat.mul_one]; exact h5⟩⟩
theorem row_form {T : TypeId} {B : Nat} {w : World} {v : Value} {n : Nat} {xs : List Value} (h : w.ownsRow B T 1 v n xs) (hv : v ≠ .slice none 0 0) : ∃ g cap, v = .slice (some ⟨g, 0, none⟩) n cap := by
  rcases h with ⟨_, ⟨e, _⟩ | ⟨g, cap, cur, e, _⟩⟩
  · exact absurd e hv
  · exact ⟨g, cap, e⟩
theorem row_at {xs : List Value} {cur : Array Value} {n i : Nat} (h : cur.toList.take n = xs) (hi : i < n) : cur[i]? = xs[i]? := by
  rw [← h, List.getElem?_take_of_lt hi]; simp
/-- A row that is new, without places. -/
theorem row_empty {T : TypeId} {B : Nat} (w : World) (hB : B ≤ w.heap.size) : (w.alloc (.cells #[] T)).ownsRow B T 1 (.slice (some ⟨w.heap.size, 0, none⟩) 0 0) 0 [] :=
  row_mk rfl hB (Blk.new _ _ _) (Nat.le_refl _) (Nat.zero_le _) rfl rfl
/-- A row of numbers, read as a slice. -/
theorem row_nums {T : TypeId} {B : Nat} {w : World} {v n cap : Nat} {l : List Nat} (h : w.ownsRow B T 1 (.slice (some ⟨v, 0, none⟩) n cap) n (l.map ncell)) : l.length = n ∧ Nums w (some ⟨v, 0, none⟩) l := by
  obtain ⟨h0, _, cur, h1, _, _, _, h5⟩ := row_inv h
  have h0' : l.length = n := by simpa using h0
  refine ⟨h0', fun _ => ⟨v, 0, rfl, h1.lt, fun i hi => h1.cell ?_⟩⟩
  rw [Nat.zero_add, row_at h5 (by omega)]
  simp [List.getD_eq_getElem?_getD, hi]

set_option maxRecDepth 100000 in
/-- append of numbers, which may be nil, onto a row of the call's own that is not. -/
theorem wpList_append_nums {w : World} {ops : Array Oper} {rest : List Oper} {o : Oper} {a : Act} {Q : Exit → Act → World → Prop} (hgd : o.guard = none) (s x : Operand)
    (ho : o.op = .call { callee := .builtin .append, args := #[s, x], argTypes := #[135, 135] }) (B g n cap : Nat) (xs : List Nat)
    (hs : a.eval s = .slice (some ⟨g, 0, none⟩) n cap) (hown : w.ownsRow B 22 1 (.slice (some ⟨g, 0, none⟩) n cap) n (xs.map ncell))
    (p : Option Addr) (m c : Nat) (l : List Nat) (hx : a.eval x = .slice p m c) (hp : p = none → m = 0 ∧ c = 0) (hl : l.length = m) (hN : Nums w p l) (hb : n + m ≤ 1000000) (hB : B ≤ w.heap.size)
    (h : ∀ g' cap' w', w'.ownsRow B 22 1 (.slice (some ⟨g', 0, none⟩) (n + m) cap') (n + m) ((xs ++ l).map ncell) → w.grownBy w' (some g) → (g' = g ∨ g' = w.heap.size) → wpList Tryz.prog ops Q rest (a.put o.dst (.slice (some ⟨g', 0, none⟩) (n + m) cap')) w') :
    wpList Tryz.prog ops Q (o :: rest) a w := by
  obtain ⟨i0, hi, hz0, hz1, hz2⟩ := info_parts u64_info
  rcases hpp : p with _ | ad
  · subst hpp
    obtain ⟨rfl, rfl⟩ := hp rfl
    have hl0 : l = [] := List.eq_nil_of_length_eq_zero hl
    subst hl0
    refine wpList_append_own_none hgd s x 135 ho B 22 i0 1 Tryz.underlying135 hi _ n _ hs hown hx ?_
    have := h g cap w (by simpa using hown) (gr_refl _ _) (.inl rfl)
    simpa using this
  · subst hpp
    refine wpList_append_own_at _ hgd s x 135 ho B 22 i0 (.int .u64 0) 1 8 Tryz.underlying135 hi hz0 hz1 hz2 rfl (by decide) _ n _ hs hown ad m c (l.map ncell) hx (by simp [hl]) ?_ (one_nums l) (by unfold maxLen; omega) (by omega) hB ?_
    · intro j u hu
      have hpos : 0 < (l.map ncell).length := by
        rcases Nat.eq_zero_or_pos (l.map ncell).length with e | e
        · rw [List.eq_nil_of_length_eq_zero e] at hu; simp at hu
        · exact e
      obtain ⟨ad', e, hc⟩ := hN.cells hpos
      injection e with e; subst e
      exact hc j u hu
    · intro v' w' hown' hgr hnil hat
      obtain ⟨g', cap', rfl⟩ := row_form hown' (fun e => by have := hnil.1 e; simp at this)
      refine h g' cap' w' (by rw [List.map_append]; exact hown') hgr ?_
      simp [Value.ownBlock] at hat
      exact hat
end Go.Proofs.YtpkbjfhicocogaaGreatDoor

/- Contracts of the document's own cycle filter (goitref06) over this translation: all numbers, cycle by cycle. -/
set_option linter.unusedVariables false
namespace Go.Proofs.YtpkbjfhicocogaaGreatDoor
open Go.RowKit

/-- A slice of numbers of the call's own (nil, or in a block of numbers). -/
def RowN (w : World) (p : Option Addr) (c : Nat) (l : List Nat) : Prop :=
  (p = none → l.length = 0 ∧ c = 0) ∧ (0 < l.length → ∃ b cs, p = some ⟨b, 0, none⟩ ∧ Blk w b 22 cs ∧ ∀ i, i < l.length → cs[i]? = some (ncell (l.getD i 0)))
theorem RowN.keep {w w' : World} {p : Option Addr} {c : Nat} {l : List Nat} (h : RowN w p c l) (k : KeepT 22 w w') : RowN w' p c l :=
  ⟨h.1, fun hp => by obtain ⟨b, cs, e, hb, hc⟩ := h.2 hp; exact ⟨b, cs, e, k b cs hb, hc⟩⟩
theorem RowN.nums {w : World} {p : Option Addr} {c : Nat} {l : List Nat} (h : RowN w p c l) : Nums w p l :=
  fun hp => by obtain ⟨b, cs, e, hb, hc⟩ := h.2 hp; exact ⟨b, 0, e, hb.lt, fun i hi => hb.cell (by rw [Nat.zero_add]; exact hc i hi)⟩
theorem RowN.nil (w : World) : RowN w none 0 [] := ⟨fun _ => ⟨rfl, rfl⟩, fun h => absurd h (by simp)⟩
theorem RowN.of_own {w : World} {B g n cap : Nat} {l : List Nat} (h : w.ownsRow B 22 1 (.slice (some ⟨g, 0, none⟩) n cap) n (l.map ncell)) : RowN w (some ⟨g, 0, none⟩) cap l := by
  refine ⟨fun e => (by cases e), fun hp => ?_⟩
  obtain ⟨h0, _, cur, h1, _, _, _, h5⟩ := row_inv h
  have h0' : l.length = n := by simpa using h0
  refine ⟨g, cur, rfl, h1, fun i hi => ?_⟩
  rw [row_at h5 (by omega)]
  simp [List.getD_eq_getElem?_getD, hi]

/-- What the places of the document's cycles hold. -/
def Rows6 (w : World) (L : List (List Nat)) (arr : Array Value) : Prop :=
  ∀ i, i < L.length → ∃ p c, arr[i]? = some (.slice p (L.getD i []).length c) ∧ RowN w p c (L.getD i [])
theorem Rows6.keep {w w' : World} {L : List (List Nat)} {arr : Array Value} (h : Rows6 w L arr) (k : KeepT 22 w w') : Rows6 w' L arr :=
  fun i hi => by obtain ⟨p, c, e, r⟩ := h i hi; exact ⟨p, c, e, r.keep k⟩

/-- The document's cycle filter in memory. -/
structure DcAt (w : World) (B m g cap : Nat) (L : List (List Nat)) : Prop where
  head : Blk w m 119 #[.slice (some ⟨g, 0, none⟩) L.length cap]
  bm : B ≤ m
  bg : B ≤ g
  body : ∃ arr, Blk w g 135 arr ∧ arr.size = cap ∧ L.length ≤ cap ∧ cap ≤ maxLen ∧ Rows6 w L arr
theorem DcAt.keep {w w' : World} {B m g cap : Nat} {L : List (List Nat)} (h : DcAt w B m g cap L) (k : Below w.heap.size w w') : DcAt w' B m g cap L := by
  obtain ⟨arr, h1, h2, h3, h4, h5⟩ := h.body
  exact ⟨h.head.keep k, h.bm, h.bg, arr, h1.keep k, h2, h3, h4, h5.keep (.below k)⟩
theorem DcAt.grown {w w' : World} {B m g cap b : Nat} {L : List (List Nat)} {U : TypeId} {cs : Array Value} (h : DcAt w B m g cap L) (k : w.grownBy w' (some b)) (hb : Blk w b U cs) (h1 : 119 ≠ U) (h2 : 135 ≠ U) (h3 : 22 ≠ U) : DcAt w' B m g cap L := by
  obtain ⟨arr, q1, q2, q3, q4, q5⟩ := h.body
  exact ⟨KeepT.grown k hb h1 _ _ h.head, h.bm, h.bg, arr, KeepT.grown k hb h2 _ _ q1, q2, q3, q4, q5.keep (.grown k hb h3)⟩

/-- The greatest number of the last two cycles. -/
def bestL (L : List (List Nat)) : Nat := mxs 0 (L.drop (L.length - 2)).flatten

theorem dc_New (w : World) : Calls Tryz.prog 26 #[] w fun e w' => ∃ m g, e = .returned (.pointer (some ⟨m, 0, none⟩)) ∧ DcAt w' w.heap.size m g 1 [[]] ∧ Below w.heap.size w w' := by
  have H1 : Hid (Blk (w.alloc (.cells #[.slice none 0 0] 135)) w.heap.size 135 #[.slice none 0 0]) := Lib.hid (Blk.new _ _ _)
  go_enter Tryz.func26, Tryz.ntmps26
  go_wp2
  go_ret
  refine ⟨w.heap.size + 1, w.heap.size, rfl, ⟨Blk.new1 _ _ _ _, by omega, Nat.le_refl _, #[.slice none 0 0], H1.out.alloc _, rfl, Nat.le_refl _, by unfold maxLen; omega, fun i hi => ?_⟩, ((Below.refl _ _).alloc (Nat.le_refl _) _).alloc (by simp) _⟩
  obtain rfl : i = 0 := by simpa using hi
  exact ⟨none, 0, rfl, RowN.nil _⟩

set_option maxHeartbeats 1000000 in
theorem dc_Put (B m g cap c : Nat) (K : List (List Nat)) (cur : List Nat) (p : Option Addr) (l : List Nat) (w : World) (h : DcAt w B m g cap (K ++ [cur])) (hp : p = none → l.length = 0 ∧ c = 0) (hl : Nums w p l)
    (hn : K.length ≤ 1000) (hc : cur.length ≤ 1000) (hm : l.length ≤ 1000) (hB : B ≤ w.heap.size) :
    Calls Tryz.prog 97 #[.pointer (some ⟨m, 0, none⟩), .slice p l.length c] w fun e w' => e = .returned (.tuple #[]) ∧ DcAt w' B m g cap (K ++ [cur ++ l]) ∧ Fr w w' [g] := by
  have HH := Lib.hid h
  obtain ⟨arr, b1, b2, b3, b4, b5⟩ := h.body
  obtain ⟨q, cq, e1, r1⟩ := b5 K.length (by simp)
  have eK : (K ++ [cur]).getD K.length [] = cur := by simp [List.getD_eq_getElem?_getD]
  rw [eK] at e1 r1
  have h0 := h.head.cell (i := 0) (v := .slice (some ⟨g, 0, none⟩) (K.length + 1) cap) (by simp)
  have g0 := b1.cell (i := K.length) e1
  have gf := b1.free K.length
  have HR := Lib.hid r1
  have HE1 := Lib.hid e1
  have HS := Lib.hid (And.intro b2 (And.intro b3 b4))
  have HL := Lib.hid hl
  have HP := Lib.hid hp
  have i0 : (0 : Int) ≤ (K.length : Int) := by omega
  have HB1 := Lib.hid b1
  have HB5 := Lib.hid b5
  have hml := h.head.lt
  have hgl := b1.lt
  clear h b1 b5 e1 r1 hp hl b3 b2 b4
  go_enter Tryz.func97, Tryz.ntmps97
  go_wp2_with (first
    | (at_builtin; refine wpList_append_nums rfl (.tmp 12) (.tmp 19) rfl B w.heap.size 0 0 [] rfl (row_empty w hB) q cur.length cq cur rfl (fun e => HR.out.1 e) rfl (HR.out.nums.keep ((Below.refl _ _).alloc (Nat.le_refl _) _)) (by omega) (by simp; omega) ?_; intro g1 c1 w1 hown hgr hat; simp only [Nat.zero_add, List.nil_append] at hown; have R1 := Lib.hid hown; have E1 : Hid (Below w.heap.size w w1) := Lib.hid (bel_gr ((Below.refl _ _).alloc (Nat.le_refl _) _) hgr (by simp) (Nat.le_refl _)); have A1 : Hid (w.heap.size ≤ g1) := Lib.hid (by simp at hat; omega); clear hown hgr hat)
    | (at_builtin; refine wpList_append_nums rfl (.tmp 21) (.tmp 22) rfl B g1 cur.length c1 cur rfl R1.out p l.length c l rfl HP.out rfl (HL.out.keep E1.out) (by omega) (by have := E1.out.size; omega) ?_; intro g2 c2 w2 hown hgr hat; have R2 := Lib.hid hown; have E2 : Hid (Below w.heap.size w w2) := Lib.hid (bel_gr E1.out hgr E1.out.size A1.out); have d0 := (HH.out.head.keep E2.out).cell (i := 0) (v := .slice (some ⟨g, 0, none⟩) (K.length + 1) cap) (by simp); have d1 := (HB1.out.keep E2.out).free K.length; have d2 := (HB1.out.keep E2.out).cell HE1.out; clear hown hgr hat))
  go_end0
  have e2 : ∀ i, (K ++ [cur ++ l]).getD i [] = if i = K.length then cur ++ l else (K ++ [cur]).getD i [] := by
    intro i
    simp only [List.getD_eq_getElem?_getD, List.getElem?_append]
    by_cases c1 : i < K.length
    · rw [if_pos c1, if_neg (by omega), if_pos c1]
    · rw [if_neg c1, if_neg c1]
      by_cases c2 : i = K.length
      · simp [c2]
      · rw [if_neg c2]
        have : 0 < i - K.length := by omega
        rw [List.getElem?_eq_none (by simp; omega), List.getElem?_eq_none (by simp; omega)]
  have hb2 := HB1.out.keep E2.out
  refine ⟨rfl, ⟨?_, HH.out.bm, HH.out.bg, arr.setIfInBounds K.length (.slice (some ⟨g2, 0, none⟩) (cur.length + l.length) c2), hb2.set _ _, by simp [HS.out.1], by simpa using HS.out.2.1, HS.out.2.2, fun i hi => ?_⟩, (Fr.of_below E2.out _).set (by simp) _ _⟩
  · have := (HH.out.head.keep E2.out).set_other K.length (.slice (some ⟨g2, 0, none⟩) (cur.length + l.length) c2) ((HH.out.head.keep E2.out).ty hb2 (by decide))
    simpa using this
  · rw [e2]
    have hk : KeepT 22 w2 (w2.setCell ⟨g, K.length, none⟩ (.slice (some ⟨g2, 0, none⟩) (cur.length + l.length) c2)) := KeepT.set hb2 (by decide) _ _
    by_cases c3 : i = K.length
    · subst c3
      rw [if_pos rfl]
      exact ⟨some ⟨g2, 0, none⟩, c2, by rw [Array.getElem?_setIfInBounds_self_of_lt (by have := HS.out.1; have := HS.out.2.1; simp at this; omega), List.length_append], (RowN.of_own R2.out).keep hk⟩
    · rw [if_neg c3, Array.getElem?_setIfInBounds_ne (by omega)]
      obtain ⟨p', c', e', r'⟩ := HB5.out i (by simpa using hi)
      exact ⟨p', c', e', (r'.keep (.below E2.out)).keep hk⟩

theorem sl_info : (Tryz.prog.info? 135).map (fun i => (i.zero, i.size, i.bytes)) = some (some (.slice none 0 0), 1, 24) := by kernel_rfl

set_option maxHeartbeats 1000000 in
theorem dc_Next (B m g cap : Nat) (L : List (List Nat)) (w : World) (h : DcAt w B m g cap L) (hn : L.length ≤ 1000) (hB : B ≤ w.heap.size) :
    Calls Tryz.prog 105 #[.pointer (some ⟨m, 0, none⟩)] w fun e w' => e = .returned (.tuple #[]) ∧ (∃ g' cap', DcAt w' B m g' cap' (L ++ [[]])) ∧ Fr w w' [m, g] := by
  obtain ⟨i0, hi, hz0, hz1, hz2⟩ := info_parts sl_info
  have HI := Lib.hid hi
  have HZ0 := Lib.hid hz0
  have HZ1 := Lib.hid hz1
  have HZ2 := Lib.hid hz2
  clear hi hz0 hz1 hz2
  have HH := Lib.hid h
  obtain ⟨arr, b1, b2, b3, b4, b5⟩ := h.body
  have h0 := h.head.cell (i := 0) (v := .slice (some ⟨g, 0, none⟩) L.length cap) rfl
  have HO : Hid ((w.alloc (.cells #[.slice none 0 0] 135)).ownsRow B 135 1 (.slice (some ⟨g, 0, none⟩) L.length cap) L.length (arr.toList.take L.length)) := Lib.hid (row_mk (by simp; omega) h.bg (b1.alloc _) b3 b4 b2 rfl)
  have HX : Hid (Blk (w.alloc (.cells #[.slice none 0 0] 135)) w.heap.size 135 #[.slice none 0 0]) := Lib.hid (Blk.new _ _ _)
  have HB1 := Lib.hid (b1.alloc (.cells #[.slice none 0 0] 135))
  have HB5 := Lib.hid b5
  have HS := Lib.hid (And.intro b2 (And.intro b3 b4))
  have hml := h.head.lt
  have hgl := b1.lt
  have hmg := h.head.ty b1 (by decide)
  clear h b1 b2 b3 b4 b5
  go_enter Tryz.func105, Tryz.ntmps105
  go_wp2_with (at_builtin; refine wpList_append_own_at _ rfl (.tmp 6) (.tmp 7) 117 rfl B 135 i0 (.slice none 0 0) 1 24 Tryz.underlying117 HI.out HZ0.out HZ1.out HZ2.out rfl (by decide) (.slice (some ⟨g, 0, none⟩) L.length cap) L.length _ rfl HO.out ⟨w.heap.size, 0, none⟩ 1 1 [.slice none 0 0] rfl rfl (cell_one_new _ _ _) (by intro u hu; simp at hu; subst hu; rfl) (by unfold maxLen; omega) (by omega) (by simp; omega) ?_; intro v' w1 hown hgr hnil hat; have HW := Lib.hid hown; have HG := Lib.hid hgr; have HAT := Lib.hid hat; have HF := Lib.hid (row_form hown (fun e => by have := hnil.1 e; simp at this)); clear hown hgr hnil hat; obtain ⟨g', cap', rfl⟩ := HF.out; have HH1 := Lib.hid ((HH.out.head.alloc (.cells #[.slice none 0 0] 135)).grown HG.out (by intro e; simp [Value.ownBlock] at e; exact hmg e)); have d0 := HH1.out.cell (i := 0) (v := .slice (some ⟨g, 0, none⟩) L.length cap) rfl; have d1 := HH1.out.free 0)
  go_end0
  obtain ⟨q1, q2, arr', q3, q4, q5, q6, q7⟩ := row_inv HW.out
  have hgw : w.grownBy w1 (some g) := gr_trans (gr_alloc (gr_refl _ _) _) HG.out
  have hk1 : KeepT 22 w w1 := (KeepT.alloc _ _ _).trans (KeepT.grown HG.out HB1.out (by decide))
  have hk : KeepT 22 w1 (w1.setCell ⟨m, 0, none⟩ (.slice (some ⟨g', 0, none⟩) (L.length + 1) cap')) := KeepT.set HH1.out (by decide) _ _
  refine ⟨rfl, ⟨g', cap', ?_, HH.out.bm, q2, arr', q3.set_other _ _ (q3.ty HH1.out (by decide)), q6, by simpa using q4, q5, fun i hi => ?_⟩, ?_⟩
  · have := HH1.out.set 0 (.slice (some ⟨g', 0, none⟩) (L.length + 1) cap')
    simpa using this
  · have hi' : i < L.length + 1 := by simpa using hi
    rw [row_at q7 hi']
    by_cases c : i < L.length
    · obtain ⟨p, cc, e, r⟩ := HB5.out i c
      have e3 : (L ++ [[]]).getD i [] = L.getD i [] := by simp [List.getD_eq_getElem?_getD, List.getElem?_append, c]
      rw [e3, List.getElem?_append_left (by simp; have := HS.out; omega), List.getElem?_take_of_lt c]
      exact ⟨p, cc, by simpa using e, (r.keep hk1).keep hk⟩
    · obtain rfl : i = L.length := by omega
      have e3 : (L ++ [[]]).getD L.length [] = [] := by simp [List.getD_eq_getElem?_getD]
      rw [e3]
      refine ⟨none, 0, ?_, RowN.nil _⟩
      have hlen : (arr.toList.take L.length).length = L.length := by simp; have := HS.out; omega
      rw [List.getElem?_append_right (by omega), hlen]
      simp
  · have f1 : Fr w w1 [m, g] := ⟨hgw.os, hgw.tape, hgw.output, hgw.size, fun k hk hl => hgw.block k hk (by intro e; injection e with e; simp at hl; exact hl.2 e)⟩
    exact f1.set (by simp) _ _
end Go.Proofs.YtpkbjfhicocogaaGreatDoor

/- Contracts of the document's own cycle filter (goitref06) over this translation: Best. -/
set_option linter.unusedVariables false
namespace Go.Proofs.YtpkbjfhicocogaaGreatDoor
open Go.RowKit

theorem Rows6.row {w : World} {L : List (List Nat)} {arr : Array Value} (h : Rows6 w L arr) {i : Nat} (hi : i < L.length) : ∃ p c, arr[i]? = some (.slice p (L.getD i []).length c) ∧ RowN w p c (L.getD i []) := h i hi

/-- How far Best has come. -/
def bestTo (L : List (List Nat)) (i : Nat) : Nat := mxs 0 ((L.take i).drop (L.length - 2)).flatten
theorem bestTo_start (L : List (List Nat)) : bestTo L (L.length - 2) = 0 := by
  unfold bestTo
  rw [List.drop_of_length_le (by simp)]
  rfl
theorem bestTo_next (L : List (List Nat)) {i : Nat} (h0 : L.length - 2 ≤ i) (h : i < L.length) : bestTo L (i + 1) = mxs (bestTo L i) (L.getD i []) := by
  unfold bestTo
  rw [List.take_succ_eq_append_getElem h, List.drop_append_of_le_length (by simp; omega), List.flatten_append, mxs_app]
  simp [List.getD_eq_getElem?_getD, h]
theorem bestTo_end (L : List (List Nat)) : bestTo L L.length = bestL L := by
  unfold bestTo bestL; rw [List.take_length]

set_option maxHeartbeats 2000000 in
theorem dc_Best (B m g cap : Nat) (L : List (List Nat)) (w : World) (h : DcAt w B m g cap L) (hn : L.length ≤ 1000) (hr : ∀ l ∈ L, l.length ≤ 1000) (hp : 0 < L.length) :
    Calls Tryz.prog 65 #[.pointer (some ⟨m, 0, none⟩)] w fun e w' => e = .returned (.int .u64 ((bestL L : Nat) : Int)) ∧ w = w' := by
  obtain ⟨arr, b1, b2, b3, b4, b5⟩ := h.body
  have h0 := h.head.cell (i := 0) (v := .slice (some ⟨g, 0, none⟩) L.length cap) rfl
  have HB1 := Lib.hid b1
  have HB5 := Lib.hid b5
  have HRL := Lib.hid hr
  clear h b1 b2 b3 b4 b5 hr
  obtain ⟨s0, hs0⟩ : ∃ s0 : Nat, s0 = L.length - 2 := ⟨_, rfl⟩
  have HS := Lib.hid hs0
  have e0 : (if (L.length : Int) - 2 < 0 then (0 : Int) else (L.length : Int) - 2) = (s0 : Int) := by split <;> omega
  clear hs0
  go_enter Tryz.func65, Tryz.ntmps65
  go_wp2_with fail
  go_loopw [3, 4] (fun bv iv wr => ∃ i : Nat, iv = .int .i64 (i : Int) ∧ bv = .int .u64 ((bestTo L i : Nat) : Int) ∧ L.length - 2 ≤ i ∧ i ≤ L.length ∧ wr = w) (fun _ iv _ => L.length - (intOf iv).toNat)
  case atStart => exact ⟨s0, rfl, by rw [HS.out, bestTo_start]; rfl, by rw [HS.out]; exact Nat.le_refl _, by rw [HS.out]; omega, rfl⟩
  case round =>
    obtain ⟨i, rfl, rfl, hi0, hi, rfl⟩ := hrel
    by_cases hlt : i < L.length
    · obtain ⟨p, c, e1, r1⟩ := HB5.out.row hlt
      have HR1 := Lib.hid r1
      have g0 := HB1.out.cell (i := i) e1
      have HN := Lib.hid (bestTo_next L hi0 hlt)
      have hrl : (L.getD i []).length ≤ 1000 := HRL.out _ (by simp [List.getD_eq_getElem?_getD, hlt])
      clear e1 r1
      generalize L.getD i [] = row at *
      obtain ⟨b0, hb0⟩ : ∃ b0, bestTo L i = b0 := ⟨_, rfl⟩
      rw [hb0] at HN ⊢
      clear hb0
      have j0 : (0 : Int) ≤ (i : Int) := by omega
      have j1 : (i : Int) < (L.length : Int) := by omega
      go_wp2_with fail
      go_loopw [3, 5] (fun bv kv wq => ∃ k : Nat, kv = .int .i64 (k : Int) ∧ bv = .int .u64 ((mxs b0 (row.take k) : Nat) : Int) ∧ k ≤ row.length ∧ wq = wr) (fun _ kv _ => row.length - (intOf kv).toNat)
      case atStart => exact ⟨0, rfl, rfl, Nat.zero_le _, rfl⟩
      case round =>
        obtain ⟨k, rfl, rfl, hk, rfl⟩ := hrel
        by_cases hkl : k < row.length
        · obtain ⟨gb, cs, rfl, hblk, hcs⟩ := HR1.out.2 (by omega)
          have x0 := hblk.cell (hcs k hkl)
          unfold ncell at x0
          have HM := Lib.hid (mxs_take b0 hkl)
          clear hcs hblk
          generalize row.getD k 0 = x at *
          obtain ⟨z, hz⟩ : ∃ z, mxs b0 (row.take k) = z := ⟨_, rfl⟩
          rw [hz] at HM ⊢
          clear hz
          have HI : Hid ((if z < x then (x : Int) else (z : Int)) = ((mxs b0 (row.take (k + 1)) : Nat) : Int)) := Lib.hid (by rw [HM.out]; split <;> omega)
          have k0 : (0 : Int) ≤ (k : Int) := by omega
          have k1 : (k : Int) < (row.length : Int) := by omega
          go_wp2_with fail
          rw [HI.out]
          go_roundw
          case rel => exact ⟨k + 1, by go_num, rfl, by omega, trivial⟩
          case measure => simp [intOf]; omega
        · obtain rfl : k = row.length := by omega
          rw [List.take_length, ← HN.out]
          go_wp2_with fail
          go_roundw
          case rel => exact ⟨i + 1, by go_num, rfl, by omega, by omega, trivial⟩
          case measure => simp [intOf]; omega
    · obtain rfl : i = L.length := by omega
      go_wp2_with fail
      go_ret
      first | exact ⟨rfl, rfl⟩ | exact ⟨by rw [bestTo_end]; rfl, rfl⟩ | trace_state
end Go.Proofs.YtpkbjfhicocogaaGreatDoor

/- A cycle filter that has all numbers of its cycles. -/
set_option linter.unusedVariables false
namespace Go.Proofs.YtpkbjfhicocogaaGreatDoor
open Go.RowKit

/-- The cycle filter that has all numbers of cycles K, and cur. -/
def cyOf (K : List (List Nat)) (cur : List Nat) : CY := ⟨mxs 0 (K.getLastD []), mxs 0 cur, K.length⟩
theorem cyOf_best (K : List (List Nat)) (cur : List Nat) : (cyOf K cur).best = bestL (K ++ [cur]) := by
  unfold bestL cyOf CY.best
  rcases List.eq_nil_or_concat K with rfl | ⟨K', p, rfl⟩
  · simp [mxs]
  · have e : ((K'.concat p ++ [cur]).drop ((K'.concat p ++ [cur]).length - 2)) = [p, cur] := by
      rw [List.concat_eq_append, List.append_assoc]
      rw [List.drop_append_of_le_length (by simp)]
      simp
    rw [e]
    simp only [List.flatten_cons, List.flatten_nil, List.append_nil, mxs_app]
    rw [mxs_eq (mxs 0 p) cur]
    simp [List.getLastD_eq_getLast?]
theorem cyOf_put (K : List (List Nat)) (l : List Nat) : (cyOf K []).put l = cyOf K l := rfl
theorem cyOf_more (K : List (List Nat)) (cur l : List Nat) : (cyOf K cur).put l = cyOf K (cur ++ l) := by
  unfold CY.put cyOf
  simp [mxs_app]
theorem cyOf_next (K : List (List Nat)) (cur : List Nat) (h : K.length ≤ 1000) : (cyOf K cur).next = cyOf (K ++ [cur]) [] := by
  unfold CY.next cyOf
  have : (K.length + 1) % 18446744073709551616 = K.length + 1 := by omega
  simp [this, mxs, List.getLastD_eq_getLast?]

end Go.Proofs.YtpkbjfhicocogaaGreatDoor
