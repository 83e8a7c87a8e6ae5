/- 1 texts put together: what each one says stands ahead of it. -/
import Derived.Lib.ItoaNum
import Derived.Lib.IndexMore
import Derived.Lib.ParseIntBCases
import Derived.Lib.Join
/- Plain facts on setups and their texts (no program here): six numbers, their words, the text, what a text is read as. -/
set_option linter.unusedVariables false
namespace Go.Proofs.YtpkbjfhicocogaaGreatDoor.Cf
open Go.Lib

abbrev Setup := Fin 6 → Nat

def names : List (List UInt8) := [[109, 115, 115], [105, 110, 105, 116], [114, 101, 111, 114, 100, 101, 114], [119, 105, 110, 100, 111, 119], [112, 114, 111, 98, 101], [108, 111, 115, 115]]
def leasts : List Nat := [1, 4, 1, 1, 1, 0]
def mosts : List Nat := [65535, 1000, 100, 1099511627776, 1099511627776, 1000]
def word (k : Fin 6) : List UInt8 := names.getD k.val []
def least (k : Fin 6) : Nat := leasts.getD k.val 0
def most (k : Fin 6) : Nat := mosts.getD k.val 0
def fits (c : Setup) (k : Fin 6) : Bool := decide (least k ≤ c k ∧ c k ≤ most k)
def all6 : List (Fin 6) := [0, 1, 2, 3, 4, 5]
def rightC (c : Setup) : Bool := all6.all (fits c)
def pair (c : Setup) (k : Fin 6) : List (List UInt8) := [word k, decDigits (c k)]
def wordsC (c : Setup) (l : List (Fin 6)) : List (List UInt8) := l.flatMap (pair c)
def textC (c : Setup) : List UInt8 := join (wordsC c all6) [32]

theorem most_le (k : Fin 6) : most k ≤ 1099511627776 := by revert k; decide
theorem right_iff (c : Setup) : rightC c = true ↔ ∀ k, least k ≤ c k ∧ c k ≤ most k := by
  unfold rightC
  rw [List.all_eq_true]
  constructor
  · intro h k
    have := h k (by revert k; decide)
    simpa [fits] using this
  · intro h k _
    simpa [fits] using h k
theorem right_le {c : Setup} (h : rightC c = true) (k : Fin 6) : c k ≤ 1099511627776 := Nat.le_trans ((right_iff c).1 h k).2 (most_le k)

/-! ### figures -/
def isDig (b : UInt8) : Prop := 48 ≤ b.toNat ∧ b.toNat ≤ 57
theorem dig_of (d : Nat) (h : d < 10) : (UInt8.ofNat (48 + d)).toNat = 48 + d := by
  rw [UInt8.toNat_ofNat']; omega
theorem dec_dig (n : Nat) : ∀ b ∈ decDigits n, isDig b := by
  induction n using Nat.strongRecOn with
  | _ n ih =>
    intro b hb
    rw [decDigits] at hb
    split at hb
    · rename_i h
      have hb' : b = UInt8.ofNat (48 + n) := List.mem_singleton.1 hb
      rw [hb']; unfold isDig; rw [dig_of n h]; omega
    · rename_i h
      rcases List.mem_append.1 hb with hb | hb
      · exact ih (n / 10) (by omega) b hb
      · have hb' : b = UInt8.ofNat (48 + n % 10) := List.mem_singleton.1 hb
        rw [hb']; unfold isDig; rw [dig_of (n % 10) (by omega)]; omega
theorem dec_ne (n : Nat) : decDigits n ≠ [] := by
  rw [decDigits]; split <;> simp
theorem dec_small {n : Nat} (h : n < 10) : decDigits n = [UInt8.ofNat (48 + n)] := decDigits_one h
theorem dec_big {n : Nat} (h : ¬ n < 10) : decDigits n = decDigits (n / 10) ++ [UInt8.ofNat (48 + n % 10)] := by
  rw [decDigits, dif_neg h]
theorem dig_ne {b : UInt8} (h : isDig b) : b ≠ 32 := by
  intro e; subst e; unfold isDig at h; simp at h
theorem dec_blank (n : Nat) : (32 : UInt8) ∉ decDigits n := fun h => dig_ne (dec_dig n _ h) rfl
theorem word_blank (k : Fin 6) : (32 : UInt8) ∉ word k := by revert k; decide
theorem dec_len_le {n : Nat} : n ≤ 99999999999999999999 → (decDigits n).length ≤ 20 := by
  intro h
  have H : ∀ j n : Nat, n < 10 ^ (j + 1) → (decDigits n).length ≤ j + 1 := by
    intro j
    induction j with
    | zero => intro n hn; rw [dec_small (by omega)]; simp
    | succ j ih =>
      intro n hn
      by_cases h10 : n < 10
      · rw [dec_small h10]; simp
      · rw [dec_big h10]
        have := ih (n / 10) (by rw [Nat.pow_succ] at hn; omega)
        simp; omega
  exact H 19 n (by omega)

/-! ### ParseUint of figures -/
def pNext (M : Nat) (r : List UInt8) : NumEnd Nat → NumEnd Nat
  | .ok a => parseUintM M a r
  | e => e
theorem pM_app (M : Nat) : ∀ (l : List UInt8) (acc : Nat) (r : List UInt8), parseUintM M acc (l ++ r) = pNext M r (parseUintM M acc l)
  | [], acc, r => rfl
  | c :: l, acc, r => by
    simp only [List.cons_append, parseUintM]
    split
    · split
      · rfl
      · split
        · rfl
        · exact pM_app M l _ r
    · rfl
theorem pM_dec (n : Nat) (h : n ≤ 18446744073709551615) : parseUintM 18446744073709551615 0 (decDigits n) = .ok n := by
  induction n using Nat.strongRecOn with
  | _ n ih =>
    by_cases h10 : n < 10
    · rw [dec_small h10]
      simp only [parseUintM]
      rw [dig_of n h10, if_pos (by omega), if_neg (by omega), if_neg (by omega)]
      congr 1; omega
    · rw [dec_big h10, pM_app, ih (n / 10) (by omega) (by omega)]
      simp only [pNext, parseUintM]
      rw [dig_of (n % 10) (by omega), if_pos (by omega), if_neg (by omega), if_neg (by omega)]
      congr 1; omega
theorem pB_dec (n : Nat) (h : n ≤ 18446744073709551615) : parseUintB 64 (decDigits n) = .ok n := by
  unfold parseUintB
  rw [if_neg (dec_ne n)]
  exact pM_dec n h
/-- What ParseUint's first answer is. -/
def numOf (l : List UInt8) : Nat := match parseUintB 64 l with
  | .ok u => u
  | .range => 18446744073709551615
  | _ => 0
theorem numOf_le (l : List UInt8) : numOf l ≤ 18446744073709551615 := by
  unfold numOf
  split
  · rename_i u hu; exact parseUintB_le hu
  · omega
  · omega
theorem numOf_dec (n : Nat) (h : n ≤ 18446744073709551615) : numOf (decDigits n) = n := by
  unfold numOf; rw [pB_dec n h]

/-! ### Cut at a blank -/
theorem index_no (a : List UInt8) (h : (32 : UInt8) ∉ a) : index a [32] = -1 := by
  induction a with
  | nil => rfl
  | cons x a ih =>
    have hx : ¬ x = 32 := fun e => h (by rw [e]; simp)
    have ha : (32 : UInt8) ∉ a := fun e => h (by simp [e])
    unfold index
    rw [ih ha]
    simp [List.isPrefixOf, Ne.symm hx]
theorem index_at (a b : List UInt8) (h : (32 : UInt8) ∉ a) : index (a ++ 32 :: b) [32] = a.length := by
  induction a with
  | nil => unfold index; simp [List.isPrefixOf]
  | cons x a ih =>
    have hx : ¬ x = 32 := fun e => h (by rw [e]; simp)
    have ha : (32 : UInt8) ∉ a := fun e => h (by simp [e])
    rw [List.cons_append, index, ih ha]
    have : ¬ ((a.length : Int) == -1) = true := by simp
    simp [List.isPrefixOf, Ne.symm hx, this]
theorem cut_no (a : List UInt8) (h : (32 : UInt8) ∉ a) : cut a [32] = (a, [], false) := by
  unfold cut; rw [index_no a h, if_neg (by omega)]
theorem cut_at (a b : List UInt8) (h : (32 : UInt8) ∉ a) : cut (a ++ 32 :: b) [32] = (a, b, true) := by
  unfold cut; rw [index_at a b h, if_pos (by omega)]
  simp

/-! ### guess -/
def upd (c : Setup) (k : Fin 6) (n : Nat) : Setup := fun j => if j = k then n else c j
def rest1 (s : List UInt8) : List UInt8 := (cut s [32]).2.1
def figs (s : List UInt8) : List UInt8 := (cut (rest1 s) [32]).1
def rest2 (s : List UInt8) : List UInt8 := (cut (rest1 s) [32]).2.1
def gstep (g : List UInt8 × Setup) (k : Fin 6) : List UInt8 × Setup := (rest2 g.1, upd g.2 k (numOf (figs g.1)))
def gfold (s : List UInt8) (pre : List (Fin 6)) : List UInt8 × Setup := pre.foldl gstep (s, fun _ => 0)
def guessC (s : List UInt8) : Setup := (gfold s all6).2
theorem gfold_snoc (s : List UInt8) (pre : List (Fin 6)) (k : Fin 6) : gfold s (pre ++ [k]) = gstep (gfold s pre) k := by
  unfold gfold; rw [List.foldl_append]; rfl
theorem gfold_le (s : List UInt8) (pre : List (Fin 6)) : ∀ k, (gfold s pre).2 k ≤ 18446744073709551615 := by
  have H : ∀ (pre : List (Fin 6)) (g : List UInt8 × Setup), (∀ k, g.2 k ≤ 18446744073709551615) → ∀ k, (pre.foldl gstep g).2 k ≤ 18446744073709551615 := by
    intro pre
    induction pre with
    | nil => intro g hg; exact hg
    | cons x pre ih =>
      intro g hg
      apply ih
      intro k
      unfold gstep upd
      dsimp
      split
      · exact numOf_le _
      · exact hg k
  exact H pre _ (fun _ => by dsimp; omega)
theorem cut_len (s : List UInt8) : (cut s [32]).1.length ≤ s.length ∧ (cut s [32]).2.1.length ≤ s.length := by
  unfold cut; split <;> simp <;> omega
theorem gfold_len (s : List UInt8) (pre : List (Fin 6)) : (gfold s pre).1.length ≤ s.length := by
  have H : ∀ (pre : List (Fin 6)) (g : List UInt8 × Setup), (pre.foldl gstep g).1.length ≤ g.1.length := by
    intro pre
    induction pre with
    | nil => intro g; exact Nat.le_refl _
    | cons x pre ih =>
      intro g
      refine Nat.le_trans (ih _) ?_
      unfold gstep rest2 rest1
      dsimp
      exact Nat.le_trans (cut_len _).2 (cut_len _).2
  exact H pre _
theorem gstep_text (a d r : List UInt8) (c : Setup) (k : Fin 6) (ha : (32 : UInt8) ∉ a) (hd : (32 : UInt8) ∉ d) :
    gstep (a ++ 32 :: (d ++ 32 :: r), c) k = (r, upd c k (numOf d)) := by
  unfold gstep rest2 figs rest1
  dsimp
  rw [cut_at a _ ha]
  dsimp
  rw [cut_at d _ hd]
theorem gstep_last (a d : List UInt8) (c : Setup) (k : Fin 6) (ha : (32 : UInt8) ∉ a) (hd : (32 : UInt8) ∉ d) :
    gstep (a ++ 32 :: d, c) k = ([], upd c k (numOf d)) := by
  unfold gstep rest2 figs rest1
  dsimp
  rw [cut_at a _ ha]
  dsimp
  rw [cut_no d hd]
theorem text_eq (c : Setup) : textC c = word 0 ++ 32 :: (decDigits (c 0) ++ 32 :: (word 1 ++ 32 :: (decDigits (c 1) ++ 32 :: (word 2 ++ 32 :: (decDigits (c 2) ++ 32 :: (word 3 ++ 32 :: (decDigits (c 3) ++ 32 :: (word 4 ++ 32 :: (decDigits (c 4) ++ 32 :: (word 5 ++ 32 :: decDigits (c 5))))))))))) := by
  unfold textC wordsC all6 pair
  simp [join_cons, joinTail]
theorem fin6 (P : Fin 6 → Prop) (h0 : P 0) (h1 : P 1) (h2 : P 2) (h3 : P 3) (h4 : P 4) (h5 : P 5) (k : Fin 6) : P k := by
  match k with
  | 0 => exact h0
  | 1 => exact h1
  | 2 => exact h2
  | 3 => exact h3
  | 4 => exact h4
  | 5 => exact h5
theorem guess_text (c : Setup) (h : ∀ k, c k ≤ 18446744073709551615) : guessC (textC c) = c := by
  unfold guessC gfold all6
  simp only [List.foldl_cons, List.foldl_nil]
  rw [text_eq, gstep_text _ _ _ _ _ (word_blank 0) (dec_blank _), gstep_text _ _ _ _ _ (word_blank 1) (dec_blank _), gstep_text _ _ _ _ _ (word_blank 2) (dec_blank _), gstep_text _ _ _ _ _ (word_blank 3) (dec_blank _), gstep_text _ _ _ _ _ (word_blank 4) (dec_blank _), gstep_last _ _ _ _ (word_blank 5) (dec_blank _)]
  rw [numOf_dec _ (h 0), numOf_dec _ (h 1), numOf_dec _ (h 2), numOf_dec _ (h 3), numOf_dec _ (h 4), numOf_dec _ (h 5)]
  funext k
  exact fin6 (fun k => (upd (upd (upd (upd (upd (upd (fun _ => 0) 0 (c 0)) 1 (c 1)) 2 (c 2)) 3 (c 3)) 4 (c 4)) 5 (c 5)) k = c k) rfl rfl rfl rfl rfl rfl k

/-! ### Parse, as the program does it -/
def parseC (s : List UInt8) : Option Setup := if rightC (guessC s) = true ∧ textC (guessC s) = s then some (guessC s) else none
theorem parse_iff (s : List UInt8) (c : Setup) : parseC s = some c ↔ rightC c = true ∧ textC c = s := by
  unfold parseC
  constructor
  · intro h
    split at h
    · rename_i hh
      simp at h; subst h; exact hh
    · simp at h
  · rintro ⟨h1, rfl⟩
    rw [guess_text c (fun k => Nat.le_trans (right_le h1 k) (by omega)), if_pos ⟨h1, rfl⟩]

/-! ### The document's words -/
theorem snocInd {α : Type} {P : List α → Prop} (h0 : P []) (h1 : ∀ l b, P l → P (l ++ [b])) (l : List α) : P l := by
  have H : ∀ r : List α, P r.reverse := by
    intro r
    induction r with
    | nil => exact h0
    | cons x r ih => rw [List.reverse_cons]; exact h1 _ _ ih
  have := H l.reverse
  rwa [List.reverse_reverse] at this
def wstep (g : List (List UInt8) × List UInt8) (b : UInt8) : List (List UInt8) × List UInt8 := if b = 32 then (g.1 ++ [g.2], []) else (g.1, g.2 ++ [b])
def wfold (s : List UInt8) : List (List UInt8) × List UInt8 := s.foldl wstep ([], [])
def wordsR (s : List UInt8) : List (List UInt8) := (wfold s).1 ++ [(wfold s).2]
theorem wfold_snoc (s : List UInt8) (b : UInt8) : wfold (s ++ [b]) = wstep (wfold s) b := by
  unfold wfold; rw [List.foldl_append]; rfl
theorem join_snoc (l : List (List UInt8)) (x : List UInt8) (h : l ≠ []) : join (l ++ [x]) [32] = join l [32] ++ 32 :: x := by
  cases l with
  | nil => exact absurd rfl h
  | cons y l => rw [List.cons_append, join_cons, join_cons]; simp [joinTail]
theorem join_snoc_app (l : List (List UInt8)) (x y : List UInt8) : join (l ++ [x ++ y]) [32] = join (l ++ [x]) [32] ++ y := by
  by_cases h : l = []
  · subst h; simp [join_one]
  · rw [join_snoc l _ h, join_snoc l _ h]; simp
theorem join_words (s : List UInt8) : join (wordsR s) [32] = s := by
  refine snocInd (P := fun s => join (wordsR s) [32] = s) rfl ?_ s
  intro s b ih
  unfold wordsR at *
  rw [wfold_snoc]
  unfold wstep
  split
  · rename_i hb
    dsimp
    rw [join_snoc _ _ (by simp), ih, hb]
  · dsimp
    rw [join_snoc_app, ih]
theorem wfold_nb (a : List UInt8) (h : (32 : UInt8) ∉ a) (g : List (List UInt8) × List UInt8) : a.foldl wstep g = (g.1, g.2 ++ a) := by
  induction a generalizing g with
  | nil => simp
  | cons x a ih =>
    have hx : ¬ x = 32 := fun e => h (by rw [e]; simp)
    have ha : (32 : UInt8) ∉ a := fun e => h (by simp [e])
    rw [List.foldl_cons, ih ha]
    unfold wstep
    rw [if_neg hx]
    simp
theorem wfold_join (l : List (List UInt8)) (x : List UInt8) (hl : ∀ y ∈ l, (32 : UInt8) ∉ y) (hx : (32 : UInt8) ∉ x) (g : List (List UInt8)) :
    (join (x :: l) [32]).foldl wstep (g, []) = (g ++ (x :: l).dropLast, (x :: l).getLast (by simp)) := by
  induction l generalizing x g with
  | nil => rw [join_one, wfold_nb x hx]; simp
  | cons y l ih =>
    have e : join (x :: y :: l) [32] = x ++ (32 :: join (y :: l) [32]) := by
      rw [join_cons, join_cons]; simp [joinTail]
    rw [e, List.foldl_append, wfold_nb x hx, List.foldl_cons]
    have := ih y (fun z hz => hl z (by simp [hz])) (hl y (by simp)) (g ++ [x])
    simp only [wstep, if_true, List.nil_append]
    rw [this]
    simp
theorem words_join (l : List (List UInt8)) (h0 : l ≠ []) (hl : ∀ y ∈ l, (32 : UInt8) ∉ y) : wordsR (join l [32]) = l := by
  cases l with
  | nil => exact absurd rfl h0
  | cons x l =>
    unfold wordsR wfold
    rw [wfold_join l x (fun y hy => hl y (by simp [hy])) (hl x (by simp)) []]
    simp [List.dropLast_concat_getLast]

/-! ### The document's numbers, at most 2^40 -/
def numStep (acc : Nat) (b : UInt8) : Option Nat :=
  if b.toNat < 48 ∨ 57 < b.toNat then none
  else if (1099511627776 - (b.toNat - 48)) / 10 < acc then none else some (10 * acc + (b.toNat - 48))
def numLoop (s : List UInt8) : Option Nat := s.foldl (fun o b => o.bind (fun a => numStep a b)) (some 0)
def badHead (s : List UInt8) : Bool := s.isEmpty || (decide (1 < s.length) && (s.headD 0 == 48))
def numR (s : List UInt8) : Option Nat := if badHead s = true then none else numLoop s
theorem numLoop_snoc (s : List UInt8) (b : UInt8) : numLoop (s ++ [b]) = (numLoop s).bind (fun a => numStep a b) := by
  unfold numLoop; rw [List.foldl_append]; rfl
theorem numLoop_none (s t : List UInt8) (h : numLoop s = none) : numLoop (s ++ t) = none := by
  refine snocInd (P := fun t => numLoop (s ++ t) = none) (by simpa using h) ?_ t
  intro t b ih
  rw [← List.append_assoc, numLoop_snoc, ih]; rfl
theorem numStep_dig (a d : Nat) (hd : d < 10) (h : 10 * a + d ≤ 1099511627776) : numStep a (UInt8.ofNat (48 + d)) = some (10 * a + d) := by
  unfold numStep
  rw [dig_of d hd, if_neg (by omega), if_neg (by omega)]
  congr 1; omega
theorem numLoop_dec (n : Nat) (h : n ≤ 1099511627776) : numLoop (decDigits n) = some n := by
  induction n using Nat.strongRecOn with
  | _ n ih =>
    by_cases h10 : n < 10
    · rw [dec_small h10]
      show (some 0).bind (fun a => numStep a (UInt8.ofNat (48 + n))) = some n
      show numStep 0 _ = _
      rw [numStep_dig 0 n h10 (by omega)]; simp
    · rw [dec_big h10, numLoop_snoc, ih (n / 10) (by omega) (by omega)]
      show numStep (n / 10) _ = _
      rw [numStep_dig _ _ (by omega) (by omega)]
      congr 1; omega
theorem dec_head (n : Nat) (h : 0 < n) : (decDigits n).headD 0 ≠ 48 := by
  induction n using Nat.strongRecOn with
  | _ n ih =>
    by_cases h10 : n < 10
    · rw [dec_small h10]
      intro e
      have e' : UInt8.ofNat (48 + n) = 48 := e
      have := congrArg UInt8.toNat e'
      rw [dig_of n h10] at this
      simp at this; omega
    · rw [dec_big h10]
      have := ih (n / 10) (by omega) (by omega)
      have hne := dec_ne (n / 10)
      cases hd : decDigits (n / 10) with
      | nil => exact absurd hd hne
      | cons x l => rw [hd] at this; simpa using this
theorem dec_good (n : Nat) : badHead (decDigits n) = false := by
  unfold badHead
  have h1 := dec_ne n
  by_cases h : n < 10
  · rw [dec_small h]; simp
  · have h2 := dec_head n (by omega)
    have h3 : (decDigits n).isEmpty = false := by cases hd : decDigits n with
      | nil => exact absurd hd h1
      | cons x l => rfl
    have h4 : ((decDigits n).headD 0 == 48) = false := by simpa using h2
    rw [h3, h4]; simp
theorem numR_dec (n : Nat) (h : n ≤ 1099511627776) : numR (decDigits n) = some n := by
  unfold numR; rw [dec_good]; simpa using numLoop_dec n h
theorem numStep_some {a n : Nat} {b : UInt8} (h : numStep a b = some n) : ∃ d, d < 10 ∧ b = UInt8.ofNat (48 + d) ∧ n = 10 * a + d ∧ n ≤ 1099511627776 := by
  unfold numStep at h
  split at h
  · simp at h
  · split at h
    · simp at h
    · rename_i h1 h2
      simp at h
      refine ⟨b.toNat - 48, by omega, ?_, h.symm, by omega⟩
      apply UInt8.toNat_inj.1
      rw [dig_of _ (by omega)]; omega
theorem numLoop_some (s : List UInt8) : ∀ n, numLoop s = some n → s ≠ [] → badHead s = false → s = decDigits n ∧ n ≤ 1099511627776 := by
  refine snocInd (P := fun s => ∀ n, numLoop s = some n → s ≠ [] → badHead s = false → s = decDigits n ∧ n ≤ 1099511627776) (fun n _ h => absurd rfl h) ?_ s
  intro s b ih
  intro n h _ hb
  rw [numLoop_snoc] at h
  cases hs : numLoop s with
  | none => rw [hs] at h; simp at h
  | some a =>
    rw [hs] at h
    have h' : numStep a b = some n := h
    obtain ⟨d, hd, rfl, rfl, hle⟩ := numStep_some h'
    refine ⟨?_, hle⟩
    by_cases hne : s = []
    · subst hne
      have : a = 0 := by simpa [numLoop] using hs.symm
      subst this
      rw [show 10 * 0 + d = d by omega, dec_small hd]; rfl
    · obtain ⟨x, l, rfl⟩ : ∃ x l, s = x :: l := by cases s with
        | nil => exact absurd rfl hne
        | cons x l => exact ⟨x, l, rfl⟩
      have hx : ¬ x = 48 := by
        intro e; subst e
        simp [badHead] at hb
      obtain ⟨e, hle'⟩ := ih a hs (by simp) (by simp [badHead, hx])
      have ha : 0 < a := by
        rcases Nat.eq_zero_or_pos a with h0 | h0
        · subst h0
          rw [dec_small (by omega)] at e
          simp at e
          exact absurd e.1 hx
        · exact h0
      rw [dec_big (by omega), e, show (10 * a + d) / 10 = a by omega, show (10 * a + d) % 10 = d by omega]
theorem numR_some {s : List UInt8} {n : Nat} (h : numR s = some n) : s = decDigits n ∧ n ≤ 1099511627776 := by
  unfold numR at h
  split at h
  · simp at h
  · rename_i hb
    have hb' : badHead s = false := by simpa using hb
    refine numLoop_some s n h ?_ hb'
    intro e; subst e; simp [badHead] at hb'

/-! ### Parse, as the document does it -/
def refL (ws : List (List UInt8)) : Nat → Option (List Nat)
  | 0 => some []
  | k + 1 => (refL ws k).bind (fun l => (numR (ws.getD (2 * k + 1) [])).bind (fun n => if ws.getD (2 * k) [] = names.getD k [] then some (l ++ [n]) else none))
def ofL (l : List Nat) : Setup := fun k => l.getD k.val 0
def parseR (s : List UInt8) : Option Setup :=
  if (wordsR s).length = 12 then (refL (wordsR s) 6).bind (fun l => if rightC (ofL l) = true then some (ofL l) else none) else none
theorem refL_len (ws : List (List UInt8)) : ∀ k l, refL ws k = some l → l.length = k := by
  intro k
  induction k with
  | zero => intro l h; simp [refL] at h; subst h; rfl
  | succ k ih =>
    intro l h
    rw [refL] at h
    cases hk : refL ws k with
    | none => rw [hk] at h; simp at h
    | some l' =>
      rw [hk] at h
      cases hn : numR (ws.getD (2 * k + 1) []) with
      | none => rw [hn] at h; simp at h
      | some n =>
        rw [hn] at h
        simp only [Option.bind_some] at h
        split at h
        · simp at h; subst h; simp [ih l' hk]
        · simp at h
theorem refL_le (ws : List (List UInt8)) : ∀ k l, refL ws k = some l → ∀ n ∈ l, n ≤ 1099511627776 := by
  intro k
  induction k with
  | zero => intro l h; simp [refL] at h; subst h; simp
  | succ k ih =>
    intro l h
    rw [refL] at h
    cases hk : refL ws k with
    | none => rw [hk] at h; simp at h
    | some l' =>
      rw [hk] at h
      cases hn : numR (ws.getD (2 * k + 1) []) with
      | none => rw [hn] at h; simp at h
      | some n =>
        rw [hn] at h
        simp only [Option.bind_some] at h
        split at h
        · simp at h; subst h
          intro m hm
          simp at hm
          rcases hm with hm | hm
          · exact ih l' hk m hm
          · subst hm; exact (numR_some hn).2
        · simp at h
theorem refL_none (ws : List (List UInt8)) (k : Nat) (h : refL ws k = none) : ∀ j, refL ws (k + j) = none := by
  intro j
  induction j with
  | zero => exact h
  | succ j ih => show (refL ws (k + j)).bind _ = none; rw [ih]; rfl
theorem refL_words (c : Setup) (h : ∀ k, c k ≤ 1099511627776) : refL (wordsC c all6) 6 = some [c 0, c 1, c 2, c 3, c 4, c 5] := by
  have e3 : names[(3 : Fin 6).val]?.getD [] = names[3]?.getD [] := rfl
  have e4 : names[(4 : Fin 6).val]?.getD [] = names[4]?.getD [] := rfl
  have e5 : names[(5 : Fin 6).val]?.getD [] = names[5]?.getD [] := rfl
  simp [refL, wordsC, all6, pair, numR_dec _ (h 0), numR_dec _ (h 1), numR_dec _ (h 2), numR_dec _ (h 3), numR_dec _ (h 4), numR_dec _ (h 5), word, e3, e4, e5]
theorem ofL_six (c : Setup) : ofL [c 0, c 1, c 2, c 3, c 4, c 5] = c := by
  funext k
  exact fin6 (fun k => ofL [c 0, c 1, c 2, c 3, c 4, c 5] k = c k) rfl rfl rfl rfl rfl rfl k
theorem refL_succ {ws : List (List UInt8)} {k : Nat} {l : List Nat} (h : refL ws (k + 1) = some l) :
    ∃ l' n, refL ws k = some l' ∧ ws.getD (2 * k + 1) [] = decDigits n ∧ ws.getD (2 * k) [] = names.getD k [] ∧ l = l' ++ [n] := by
  rw [refL] at h
  cases hk : refL ws k with
  | none => rw [hk] at h; simp at h
  | some l' =>
    rw [hk] at h
    cases hn : numR (ws.getD (2 * k + 1) []) with
    | none => rw [hn] at h; simp at h
    | some n =>
      rw [hn] at h
      simp only [Option.bind_some] at h
      split at h
      · rename_i hw
        simp at h; exact ⟨l', n, rfl, (numR_some hn).1, hw, h.symm⟩
      · simp at h
theorem parseR_iff (s : List UInt8) (c : Setup) : parseR s = some c ↔ rightC c = true ∧ textC c = s := by
  constructor
  · intro h
    unfold parseR at h
    split at h
    · rename_i h12
      cases h6 : refL (wordsR s) 6 with
      | none => rw [h6] at h; simp at h
      | some l =>
        rw [h6] at h
        simp only [Option.bind_some] at h
        split at h
        · rename_i hr
          simp at h
          subst h
          refine ⟨hr, ?_⟩
          obtain ⟨l5, n5, h5, d5, w5, rfl⟩ := refL_succ h6
          obtain ⟨l4, n4, h4, d4, w4, rfl⟩ := refL_succ h5
          obtain ⟨l3, n3, h3, d3, w3, rfl⟩ := refL_succ h4
          obtain ⟨l2, n2, h2, d2, w2, rfl⟩ := refL_succ h3
          obtain ⟨l1, n1, h1, d1, w1, rfl⟩ := refL_succ h2
          obtain ⟨l0, n0, h0, d0, w0, rfl⟩ := refL_succ h1
          have : l0 = [] := by simpa [refL] using h0
          subst this
          conv => rhs; rw [← join_words s]
          unfold textC
          congr 1
          generalize wordsR s = ws at *
          match ws, h12 with
          | [a0, b0, a1, b1, a2, b2, a3, b3, a4, b4, a5, b5], _ =>
            simp [List.getD] at d0 w0 d1 w1 d2 w2 d3 w3 d4 w4 d5 w5
            subst d0 w0 d1 w1 d2 w2 d3 w3 d4 w4 d5 w5
            rfl
        · simp at h
    · simp at h
  · rintro ⟨h1, rfl⟩
    unfold parseR
    have e : wordsR (textC c) = wordsC c all6 := by
      apply words_join
      · simp [wordsC, all6, pair]
      · intro y hy
        simp only [wordsC, List.mem_flatMap, pair] at hy
        obtain ⟨k, _, hy⟩ := hy
        simp at hy
        rcases hy with rfl | rfl
        · exact word_blank k
        · exact dec_blank _
    rw [e, if_pos (by simp [wordsC, all6, pair]), refL_words c (right_le h1)]
    simp only [Option.bind_some]
    rw [ofL_six, if_pos h1]
theorem parse_eq (s : List UInt8) : parseC s = parseR s := by
  cases h : parseC s with
  | some c => exact ((parseR_iff s c).2 ((parse_iff s c).1 h)).symm
  | none =>
    cases h' : parseR s with
    | none => rfl
    | some c =>
      have := (parse_iff s c).2 ((parseR_iff s c).1 h')
      rw [h] at this; simp at this
/-- A setup's text ends in a figure, so with a blank more it is none's. -/
theorem parse_blank (s : List UInt8) : parseC (s ++ [32]) = none := by
  cases h : parseC (s ++ [32]) with
  | none => rfl
  | some c =>
    exfalso
    obtain ⟨_, ht⟩ := (parse_iff _ c).1 h
    rw [text_eq] at ht
    have hl := congrArg List.getLast? ht
    have hd : ∃ b, (decDigits (c 5)).getLast? = some b ∧ b ∈ decDigits (c 5) := by
      cases hg : (decDigits (c 5)).getLast? with
      | none => simp [dec_ne] at hg
      | some b => exact ⟨b, rfl, List.mem_of_getLast? hg⟩
    obtain ⟨b, hb, hm⟩ := hd
    have hdn := dec_ne (c 5)
    simp [List.getLast?_append, List.getLast?_cons, hb] at hl
    subst hl
    exact dec_blank _ hm
theorem text_len (c : Setup) (h : ∀ k, c k ≤ 18446744073709551615) : (textC c).length ≤ 300 := by
  rw [text_eq]
  have l0 := dec_len_le (n := c 0) (by have := h 0; omega)
  have l1 := dec_len_le (n := c 1) (by have := h 1; omega)
  have l2 := dec_len_le (n := c 2) (by have := h 2; omega)
  have l3 := dec_len_le (n := c 3) (by have := h 3; omega)
  have l4 := dec_len_le (n := c 4) (by have := h 4; omega)
  have l5 := dec_len_le (n := c 5) (by have := h 5; omega)
  have w0 : (word 0).length = 3 := rfl
  have w1 : (word 1).length = 4 := rfl
  have w2 : (word 2).length = 7 := rfl
  have w3 : (word 3).length = 6 := rfl
  have w4 : (word 4).length = 5 := rfl
  have w5 : (word 5).length = 4 := rfl
  simp [w0, w1, w2, w3, w4, w5]
  omega
end Go.Proofs.YtpkbjfhicocogaaGreatDoor.Cf
