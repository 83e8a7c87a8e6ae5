/- The map of arrows that package mode makes, and what follows, over this translation. -/
import Derived.Test.YtkgdfbiokgggmaaMoa
import Derived.Test.YtkgdfbiokgggmaaOrd
import Derived.Maps.OwnSet
import Derived.DeepKeys4
import Derived.WalkLawsBesides
import Derived.BigRegion
set_option linter.unusedVariables false
namespace Go.Proofs.Ytkgdfbiokgggmaa
open Go.RowKit Go.Maps Pl

theorem laidOutA : laidOutB Try.prog = true := by kernel_rfl
theorem rowA : (42 : TypeId) < Try.prog.types.size := of_decide_eq_true (by kernel_rfl)
theorem deepA : Try.prog.keyTypeAt (Try.prog.types.size + 1) 42 = true := by kernel_rfl
theorem wideA : (match Try.prog.underlying 42 with | some (.array _ _) | some (.struct _) => true | _ => false) = true := by kernel_rfl
theorem lawA : Keyed Try.prog 42 := Keyed.of_law (deep_law_laid laidOutA (m := 3) (by omega) rowA (by kernel_rfl) wideA)
/-- A key, as memory holds it, and as it is read. -/
def arV (a b : Int) : Value := .agg #[.int .i64 a, .int .i64 b]
def kl (a b : Int) : Lit := .string (keyBytes [.int .i64 a, .int .i64 b])
theorem wf_i64 {a : Int} (h0 : -9223372036854775808 ≤ a) (h1 : a ≤ 9223372036854775807) : (Lit.int .i64 a).wf = true := by
  have e1 : IntKind.i64.min = -9223372036854775808 := by decide
  have e2 : IntKind.i64.max = 9223372036854775807 := by decide
  show (decide (IntKind.i64.min ≤ a) && decide (a ≤ IntKind.i64.max)) = true
  rw [e1, e2, decide_eq_true h0, decide_eq_true h1]
  rfl
theorem key_two {P : Program} {k e : TypeId} {f0 f1 : Field} (hu : P.underlying k = some (.struct #[f0, f1])) (hi : P.underlying e = some (.int .i64)) (t0 : f0.type = e) (t1 : f1.type = e) (o0 : f0.offset = 0) (o1 : f1.offset = 1)
    (n0 : (f0.name != "_") = true) (n1 : (f1.name != "_") = true) (hk : P.keyType k = true) (hc : P.cellsOf k = 2) (hs : P.cellsOf e = 1) (hr : k < P.types.size) {a b : Int} (ha : (Lit.int .i64 a).wf = true) (hb : (Lit.int .i64 b).wf = true) :
    keyOf P k (.agg #[.int .i64 a, .int .i64 b]) = some (.string (keyBytes [.int .i64 a, .int .i64 b])) := by
  have hn : ∃ n, P.types.size = n + 1 := ⟨P.types.size - 1, (Nat.sub_add_cancel (Nat.lt_of_le_of_lt (Nat.zero_le _) hr)).symm⟩
  obtain ⟨n, hn⟩ := hn
  unfold keyOf
  simp [hu, hk, Value.formed, hc, hn, Program.keyLits, Value.cells, hs, hi, ha, hb, t0, t1, o0, o1]
  exact ⟨by simpa using n0, by simpa using n1⟩
theorem keyA {a b : Int} (ha : (Lit.int .i64 a).wf = true) (hb : (Lit.int .i64 b).wf = true) : keyOf Try.prog 42 (arV a b) = some (kl a b) :=
  key_two Try.underlying42 Try.underlying22 rfl rfl rfl rfl (by decide) (by decide) deepA (by kernel_rfl) (by kernel_rfl) rowA ha hb
theorem kl_same {a b s t : Int} (ha : (Lit.int .i64 a).wf = true) (hb : (Lit.int .i64 b).wf = true) (hs : (Lit.int .i64 s).wf = true) (ht : (Lit.int .i64 t).wf = true) : (kl a b).sameKey (kl s t) = decide ((s, t) = (a, b)) := by
  by_cases c : (s, t) = (a, b)
  · rw [decide_eq_true c]
    cases c
    exact WideAt.sameKey_self (lawA.key (keyA ha hb))
  · rw [decide_eq_false c]
    cases e : (kl a b).sameKey (kl s t)
    · rfl
    · have k := WideAt.sameKey_eq e
      have h := lawA.inj (keyA ha hb) (k ▸ keyA hs ht)
      unfold arV at h
      simp only [Value.agg.injEq, Array.mk.injEq, List.cons.injEq, Value.int.injEq, true_and, and_true] at h
      exact absurd (by rw [h.1, h.2]) c
theorem wf_ar : ∀ p ∈ arrowsL, (Lit.int .i64 p.1).wf = true ∧ (Lit.int .i64 p.2).wf = true := by decide
theorem any_ar {s t : Int} (hs : (Lit.int .i64 s).wf = true) (ht : (Lit.int .i64 t).wf = true) : ∀ l : List (Int × Int), (∀ p ∈ l, (Lit.int .i64 p.1).wf = true ∧ (Lit.int .i64 p.2).wf = true) →
    (l.map (fun p => kl p.1 p.2)).any (fun x => x.sameKey (kl s t)) = decide ((s, t) ∈ l)
  | [], _ => by simp
  | (a, b) :: r, h => by
    have h0 := h (a, b) (by simp)
    have h1 := any_ar hs ht r (fun p hp => h p (by simp [hp]))
    rw [List.map_cons, List.any_cons, h1, kl_same h0.1 h0.2 hs ht]
    simp only [List.mem_cons, Bool.decide_or]
/-- How an element reads: all are one. -/
def elA (v : Value) : Option (DataW Unit × List MemPlace) := match v with | .agg ⟨[]⟩ => some (.nil, []) | _ => none
theorem elA_is {v : Value} {x : DataW Unit × List MemPlace} (h : elA v = some x) : v = .agg #[] := by
  unfold elA at h
  split at h
  · rfl
  · cases h
/-- A set of arrows as a datum. -/
def dA (l : List (Int × Int)) : DataW Unit := setOf .nil (l.map fun p => kl p.1 p.2)
theorem dA_put (l : List (Int × Int)) (p : Int × Int) : (dA l).put (kl p.1 p.2) .nil = dA (l ++ [p]) := by
  unfold dA setOf
  rw [List.map_append, List.foldl_append]
  rfl
theorem has_A {s t : Int} (hs : (Lit.int .i64 s).wf = true) (ht : (Lit.int .i64 t).wf = true) (l : List (Int × Int)) (hl : ∀ p, p ∈ l ↔ p ∈ arrowsL) : Maps.has (dA l) (kl s t) = decide ((s, t) ∈ arrowsL) := by
  have wl : ∀ p ∈ l, (Lit.int .i64 p.1).wf = true ∧ (Lit.int .i64 p.2).wf = true := fun p hp => wf_ar p ((hl p).1 hp)
  unfold dA
  rw [has_setOf, any_ar hs ht _ wl]
  · exact decide_eq_decide.2 (hl _)
  · intro x hx
    obtain ⟨p, hp, rfl⟩ := List.mem_map.1 hx
    exact lawA.key (keyA (wl p hp).1 (wl p hp).2)
theorem zeroA (w : World) : (zeroValue 37).run Try.prog w = .ok (.agg #[]) w := by kernel_rfl
/-- The operations that put an arrow in, and which. -/
def insA : List Nat := [3, 6, 9, 12, 15, 18, 21, 24, 27, 30, 33, 36, 39, 42, 45]
def arA (i : Nat) : Int × Int := arrowsL.getD ((i - 3) / 3) (0, 0)
theorem arA_mem : ∀ i ∈ insA, arA i ∈ arrowsL := by decide
theorem mem_arA : ∀ p ∈ arrowsL, ∃ i ∈ insA, arA i = p := by decide
/-- What holds while the arrows in 'rem' are still to be put in. -/
structure ArI (W : World) (rem : List Nat) (w : World) : Prop where
  own : ∃ l : List (Int × Int), w.ownsMap Try.prog 42 elA W.heap.size l.length (dA l) ∧ l.length + rem.length = 15 ∧ ∀ p, p ∈ l ↔ ∃ i ∈ insA, i ∉ rem ∧ arA i = p
  bel : Below W.heap.size W w
  lt : W.heap.size < w.heap.size
theorem ArI.start (W : World) : ArI W insA (W.alloc (.map #[] 0)) where
  own := ⟨[], World.ownsMap_made W Try.prog 42 elA, rfl, fun p => ⟨fun h => (by cases h), fun ⟨i, h1, h2, _⟩ => absurd h1 h2⟩⟩
  bel := (Below.refl _ _).alloc (Nat.le_refl _) _
  lt := by simp
theorem ArI.put {W w : World} {rem : List Nat} (h : ArI W rem w) {i : Nat} (hi : i ∈ insA) (hr : i ∈ rem) (hn : rem.Nodup) (hj : ∀ j ∈ rem, j ∈ insA) :
    ∃ w', (Instr.mapUpdate 39 (.map (some W.heap.size)) (arV (arA i).1 (arA i).2) (.agg #[])).run Try.prog w = .ok () w' ∧ ArI W (rem.erase i) w' := by
  obtain ⟨⟨l, o, hl, hm⟩, b, lt⟩ := h
  have wf := wf_ar _ (arA_mem i hi)
  have hpos : 0 < rem.length := List.length_pos_of_mem hr
  obtain ⟨w', r, o', g⟩ := o.update (t := 39) (val := .agg #[]) lawA Try.underlying39 (by unfold maxLen; omega) (keyA wf.1 wf.2) (d := .nil) (ps := []) rfl
  rw [dA_put] at o'
  refine ⟨w', r, ⟨⟨l ++ [arA i], by rw [List.length_append]; exact o', by rw [List.length_append, List.length_erase_of_mem hr]; simp; omega, fun p => ?_⟩, bel_gr b g (by omega) (Nat.le_refl _), Nat.lt_of_lt_of_le lt g.size⟩⟩
  rw [List.mem_append, List.mem_singleton, hm]
  constructor
  · rintro (⟨j, h1, h2, h3⟩ | rfl)
    · exact ⟨j, h1, fun h => h2 (List.mem_of_mem_erase h), h3⟩
    · exact ⟨i, hi, fun h => (hn.mem_erase_iff.1 h).1 rfl, rfl⟩
  · rintro ⟨j, h1, h2, h3⟩
    by_cases c : j = i
    · subst c; exact Or.inr h3.symm
    · exact Or.inl ⟨j, h1, fun h => h2 (hn.mem_erase_iff.2 ⟨c, h⟩), h3⟩
/-- Block b is the map of the arrows. -/
def MapA (w : World) (b : Nat) : Prop := ∃ l : List (Int × Int), w.ownsMap Try.prog 42 elA b l.length (dA l) ∧ ∀ p, p ∈ l ↔ p ∈ arrowsL
theorem ArI.done {W w : World} (h : ArI W [] w) : MapA w W.heap.size := by
  obtain ⟨⟨l, o, _, hm⟩, _, _⟩ := h
  refine ⟨l, o, fun p => ?_⟩
  rw [hm]
  constructor
  · rintro ⟨i, h1, _, rfl⟩; exact arA_mem i h1
  · intro hp
    obtain ⟨i, h1, rfl⟩ := mem_arA p hp
    exact ⟨i, h1, by simp, rfl⟩

set_option maxRecDepth 100000 in
set_option maxHeartbeats 4000000 in
theorem mo_arrows (w : World) : Calls Try.prog 19 #[] w fun e w' => e = .returned (.map (some w.heap.size)) ∧ MapA w' w.heap.size ∧ Below w.heap.size w w' := by
  go_enter Try.func19, Try.ntmps19
  go_wp2_with fail
  refine wp_region_any (by kernel_rfl) ?_
  have hsz : w.drew.heap.size = w.heap.size := rfl
  change wpAny _ _ _ _ _ _ _ (World.drew w)
  generalize hW : World.drew w = W

  refine wpAny_take (i := 1) (v := .agg #[.int .i64 0, .int .i64 1]) rfl (by kernel_rfl) (by kernel_rfl) (by kernel_rfl) (fun _ _ _ h => h) (Or.inl ⟨by kernel_rfl, fun W => by kernel_rfl⟩) ?_
  refine wpAny_take (i := 2) (v := .agg #[]) rfl (by kernel_rfl) (by kernel_rfl) (by kernel_rfl) (fun _ _ _ h => h) (Or.inl ⟨by kernel_rfl, fun W => by kernel_rfl⟩) ?_
  refine wpAny_take (i := 4) (v := .agg #[.int .i64 0, .int .i64 6]) rfl (by kernel_rfl) (by kernel_rfl) (by kernel_rfl) (fun _ _ _ h => h) (Or.inl ⟨by kernel_rfl, fun W => by kernel_rfl⟩) ?_
  refine wpAny_take (i := 5) (v := .agg #[]) rfl (by kernel_rfl) (by kernel_rfl) (by kernel_rfl) (fun _ _ _ h => h) (Or.inl ⟨by kernel_rfl, fun W => by kernel_rfl⟩) ?_
  refine wpAny_take (i := 7) (v := .agg #[.int .i64 1, .int .i64 2]) rfl (by kernel_rfl) (by kernel_rfl) (by kernel_rfl) (fun _ _ _ h => h) (Or.inl ⟨by kernel_rfl, fun W => by kernel_rfl⟩) ?_
  refine wpAny_take (i := 8) (v := .agg #[]) rfl (by kernel_rfl) (by kernel_rfl) (by kernel_rfl) (fun _ _ _ h => h) (Or.inl ⟨by kernel_rfl, fun W => by kernel_rfl⟩) ?_
  refine wpAny_take (i := 10) (v := .agg #[.int .i64 1, .int .i64 6]) rfl (by kernel_rfl) (by kernel_rfl) (by kernel_rfl) (fun _ _ _ h => h) (Or.inl ⟨by kernel_rfl, fun W => by kernel_rfl⟩) ?_
  refine wpAny_take (i := 11) (v := .agg #[]) rfl (by kernel_rfl) (by kernel_rfl) (by kernel_rfl) (fun _ _ _ h => h) (Or.inl ⟨by kernel_rfl, fun W => by kernel_rfl⟩) ?_
  refine wpAny_take (i := 13) (v := .agg #[.int .i64 2, .int .i64 3]) rfl (by kernel_rfl) (by kernel_rfl) (by kernel_rfl) (fun _ _ _ h => h) (Or.inl ⟨by kernel_rfl, fun W => by kernel_rfl⟩) ?_
  refine wpAny_take (i := 14) (v := .agg #[]) rfl (by kernel_rfl) (by kernel_rfl) (by kernel_rfl) (fun _ _ _ h => h) (Or.inl ⟨by kernel_rfl, fun W => by kernel_rfl⟩) ?_
  refine wpAny_take (i := 16) (v := .agg #[.int .i64 2, .int .i64 4]) rfl (by kernel_rfl) (by kernel_rfl) (by kernel_rfl) (fun _ _ _ h => h) (Or.inl ⟨by kernel_rfl, fun W => by kernel_rfl⟩) ?_
  refine wpAny_take (i := 17) (v := .agg #[]) rfl (by kernel_rfl) (by kernel_rfl) (by kernel_rfl) (fun _ _ _ h => h) (Or.inl ⟨by kernel_rfl, fun W => by kernel_rfl⟩) ?_
  refine wpAny_take (i := 19) (v := .agg #[.int .i64 2, .int .i64 6]) rfl (by kernel_rfl) (by kernel_rfl) (by kernel_rfl) (fun _ _ _ h => h) (Or.inl ⟨by kernel_rfl, fun W => by kernel_rfl⟩) ?_
  refine wpAny_take (i := 20) (v := .agg #[]) rfl (by kernel_rfl) (by kernel_rfl) (by kernel_rfl) (fun _ _ _ h => h) (Or.inl ⟨by kernel_rfl, fun W => by kernel_rfl⟩) ?_
  refine wpAny_take (i := 22) (v := .agg #[.int .i64 3, .int .i64 4]) rfl (by kernel_rfl) (by kernel_rfl) (by kernel_rfl) (fun _ _ _ h => h) (Or.inl ⟨by kernel_rfl, fun W => by kernel_rfl⟩) ?_
  refine wpAny_take (i := 23) (v := .agg #[]) rfl (by kernel_rfl) (by kernel_rfl) (by kernel_rfl) (fun _ _ _ h => h) (Or.inl ⟨by kernel_rfl, fun W => by kernel_rfl⟩) ?_
  refine wpAny_take (i := 25) (v := .agg #[.int .i64 3, .int .i64 6]) rfl (by kernel_rfl) (by kernel_rfl) (by kernel_rfl) (fun _ _ _ h => h) (Or.inl ⟨by kernel_rfl, fun W => by kernel_rfl⟩) ?_
  refine wpAny_take (i := 26) (v := .agg #[]) rfl (by kernel_rfl) (by kernel_rfl) (by kernel_rfl) (fun _ _ _ h => h) (Or.inl ⟨by kernel_rfl, fun W => by kernel_rfl⟩) ?_
  refine wpAny_take (i := 28) (v := .agg #[.int .i64 4, .int .i64 5]) rfl (by kernel_rfl) (by kernel_rfl) (by kernel_rfl) (fun _ _ _ h => h) (Or.inl ⟨by kernel_rfl, fun W => by kernel_rfl⟩) ?_
  refine wpAny_take (i := 29) (v := .agg #[]) rfl (by kernel_rfl) (by kernel_rfl) (by kernel_rfl) (fun _ _ _ h => h) (Or.inl ⟨by kernel_rfl, fun W => by kernel_rfl⟩) ?_
  refine wpAny_take (i := 31) (v := .agg #[.int .i64 4, .int .i64 6]) rfl (by kernel_rfl) (by kernel_rfl) (by kernel_rfl) (fun _ _ _ h => h) (Or.inl ⟨by kernel_rfl, fun W => by kernel_rfl⟩) ?_
  refine wpAny_take (i := 32) (v := .agg #[]) rfl (by kernel_rfl) (by kernel_rfl) (by kernel_rfl) (fun _ _ _ h => h) (Or.inl ⟨by kernel_rfl, fun W => by kernel_rfl⟩) ?_
  refine wpAny_take (i := 34) (v := .agg #[.int .i64 5, .int .i64 2]) rfl (by kernel_rfl) (by kernel_rfl) (by kernel_rfl) (fun _ _ _ h => h) (Or.inl ⟨by kernel_rfl, fun W => by kernel_rfl⟩) ?_
  refine wpAny_take (i := 35) (v := .agg #[]) rfl (by kernel_rfl) (by kernel_rfl) (by kernel_rfl) (fun _ _ _ h => h) (Or.inl ⟨by kernel_rfl, fun W => by kernel_rfl⟩) ?_
  refine wpAny_take (i := 37) (v := .agg #[.int .i64 5, .int .i64 6]) rfl (by kernel_rfl) (by kernel_rfl) (by kernel_rfl) (fun _ _ _ h => h) (Or.inl ⟨by kernel_rfl, fun W => by kernel_rfl⟩) ?_
  refine wpAny_take (i := 38) (v := .agg #[]) rfl (by kernel_rfl) (by kernel_rfl) (by kernel_rfl) (fun _ _ _ h => h) (Or.inl ⟨by kernel_rfl, fun W => by kernel_rfl⟩) ?_
  refine wpAny_take (i := 40) (v := .agg #[.int .i64 6, .int .i64 3]) rfl (by kernel_rfl) (by kernel_rfl) (by kernel_rfl) (fun _ _ _ h => h) (Or.inl ⟨by kernel_rfl, fun W => by kernel_rfl⟩) ?_
  refine wpAny_take (i := 41) (v := .agg #[]) rfl (by kernel_rfl) (by kernel_rfl) (by kernel_rfl) (fun _ _ _ h => h) (Or.inl ⟨by kernel_rfl, fun W => by kernel_rfl⟩) ?_
  refine wpAny_take (i := 43) (v := .agg #[.int .i64 6, .int .i64 0]) rfl (by kernel_rfl) (by kernel_rfl) (by kernel_rfl) (fun _ _ _ h => h) (Or.inl ⟨by kernel_rfl, fun W => by kernel_rfl⟩) ?_
  refine wpAny_take (i := 44) (v := .agg #[]) rfl (by kernel_rfl) (by kernel_rfl) (by kernel_rfl) (fun _ _ _ h => h) (Or.inl ⟨by kernel_rfl, fun W => by kernel_rfl⟩) ?_
  change wpAny _ _ _ _ 18 (Lr 48 (0 :: insA) [46, 47]) (⟨#[.map none, undef, .agg #[.int .i64 0, .int .i64 1], .agg #[], .agg #[.int .i64 0, .int .i64 6], .agg #[], .agg #[.int .i64 1, .int .i64 2], .agg #[], .agg #[.int .i64 1, .int .i64 6], .agg #[], .agg #[.int .i64 2, .int .i64 3], .agg #[], .agg #[.int .i64 2, .int .i64 4], .agg #[], .agg #[.int .i64 2, .int .i64 6], .agg #[], .agg #[.int .i64 3, .int .i64 4], .agg #[], .agg #[.int .i64 3, .int .i64 6], .agg #[], .agg #[.int .i64 4, .int .i64 5], .agg #[], .agg #[.int .i64 4, .int .i64 6], .agg #[], .agg #[.int .i64 5, .int .i64 2], .agg #[], .agg #[.int .i64 5, .int .i64 6], .agg #[], .agg #[.int .i64 6, .int .i64 3], .agg #[], .agg #[.int .i64 6, .int .i64 0], .agg #[], undef], []⟩ : Act) W
  refine wpAny_all (rs := [0]) (by kernel_rfl) (by simp) ?_
  intro i hi
  obtain rfl := List.mem_singleton.1 hi
  refine wpOp_step rfl ?_
  intro K' hK
  rw [if_pos (by kernel_rfl)]
  unfold Oper.wp
  simp only [execOp, Oper.upon]
  refine hK _ _ ?_
  clear hK
  change wpAny _ _ _ _ 17 (Lr 48 insA [46, 47]) (⟨#[.map none, .map (some W.heap.size), .agg #[.int .i64 0, .int .i64 1], .agg #[], .agg #[.int .i64 0, .int .i64 6], .agg #[], .agg #[.int .i64 1, .int .i64 2], .agg #[], .agg #[.int .i64 1, .int .i64 6], .agg #[], .agg #[.int .i64 2, .int .i64 3], .agg #[], .agg #[.int .i64 2, .int .i64 4], .agg #[], .agg #[.int .i64 2, .int .i64 6], .agg #[], .agg #[.int .i64 3, .int .i64 4], .agg #[], .agg #[.int .i64 3, .int .i64 6], .agg #[], .agg #[.int .i64 4, .int .i64 5], .agg #[], .agg #[.int .i64 4, .int .i64 6], .agg #[], .agg #[.int .i64 5, .int .i64 2], .agg #[], .agg #[.int .i64 5, .int .i64 6], .agg #[], .agg #[.int .i64 6, .int .i64 3], .agg #[], .agg #[.int .i64 6, .int .i64 0], .agg #[], undef], []⟩ : Act) (W.alloc (.map #[] 0))
  refine any_order (n := 48) (f := 2) (J := insA) (late := [46, 47]) (fun rem w => ArI W rem w) (by decide) (early_of (by kernel_rfl)) (late_of (by kernel_rfl)) ?_ ?_ 15 insA _ rfl (by decide) (fun _ h => h) (ArI.start W)
  · intro rem i w2 K hi hr hn hs hI hK
    obtain ⟨w3, r3, h3⟩ := hI.put hi hr hn hs
    have hk := hK w3 h3
    clear hK hI h3 hs hn hr
    unfold insA at hi
    simp only [List.mem_cons, List.not_mem_nil, or_false] at hi
    rcases hi with rfl | rfl | rfl | rfl | rfl | rfl | rfl | rfl | rfl | rfl | rfl | rfl | rfl | rfl | rfl
    all_goals exact wpOp_insert rfl rfl rfl rfl r3 hk
  · intro w2 hI
    have HE := Lib.hid (And.intro hI.done (((Drawn.drew w).below w.heap.size).trans (hW ▸ hI.bel)))
    have hz : W.heap.size = w.heap.size := by rw [← hW]; rfl
    rw [hz] at HE ⊢
    clear hI hz hW
    refine wpAny_take (i := 46) (v := .map (some w.heap.size)) rfl (by kernel_rfl) (by kernel_rfl) (by kernel_rfl) (fun _ _ _ h => h) (Or.inl ⟨by kernel_rfl, fun W => by kernel_rfl⟩) ?_
    refine wpAny_take (i := 47) (v := .map (some w.heap.size)) rfl (by kernel_rfl) (by kernel_rfl) (by kernel_rfl) (fun _ _ _ h => h) (Or.inl ⟨by kernel_rfl, fun W => by kernel_rfl⟩) ?_
    refine wpAny_done (by kernel_rfl) ?_ _
    go_wp2
    go_ret
    exact ⟨rfl, HE.out⟩

theorem mo_Follows (s t : Int) (w : World) (hs : (Lit.int .i64 s).wf = true) (ht : (Lit.int .i64 t).wf = true) : Calls Try.prog 12 #[.int .i64 s, .int .i64 t] w fun e w' => e = .returned (.bool (followsS s t)) ∧ Below w.heap.size w w' := by
  by_cases c : s = t
  · subst c
    have e : followsS s s = rightI s := if_pos rfl
    rw [e]
    have HR := Lib.hid (fun w => mo_right s w)
    have HB := Lib.hid (Below.refl w.heap.size w)
    have t0 : (s == s) = true := beq_self_eq_true s
    generalize rightI s = b at *
    clear hs ht e
    go_enter Try.func12, Try.ntmps12
    go_wp2_with fail
    refine (HR.out _).mono ?_
    rintro e w' ⟨rfl, rfl⟩
    go_wp2_with fail
    go_ret
    exact ⟨rfl, HB.out⟩
  · have e : followsS s t = decide ((s, t) ∈ arrowsL) := if_neg c
    rw [e]
    have t0 : (s == t) = false := beq_eq_false_iff_ne.2 c
    have HH := Lib.hid (fun l hl => has_A hs ht l hl)
    clear e c
    generalize decide ((s, t) ∈ arrowsL) = b at *
    go_enter Try.func12, Try.ntmps12
    go_wp2_with fail
    refine (mo_arrows _).mono ?_
    rintro e w1 ⟨rfl, ⟨l, o, hl⟩, hb⟩
    obtain ⟨v, ps, r, hv⟩ := o.look_ok (t := 39) lawA Try.underlying39 (zeroA w1) (zd := .nil) (zp := []) rfl (keyA hs ht)
    obtain rfl := elA_is hv
    rw [HH.out l hl] at r
    unfold arV at r
    have HB := Lib.hid hb
    have hz := hb.size
    clear hb hv o hl hs ht HH
    go_wp2_with fail
    go_ret
    exact ⟨rfl, HB.out.alloc hz _⟩
end Go.Proofs.Ytkgdfbiokgggmaa
