/- Rows of rows of ranges; slices.Clone of ranges; slices.Chunk of ranges, over this translation. -/
import Derived.Test.YtfpopbhbhdhdnaaSv
import Derived.Test.YtfpopbhbhdhdnaaLr
import Derived.Test.YtfpopbhbhdhdnaaLx
import Derived.Lib.SliceRun
set_option linter.unusedVariables false
namespace Go.Proofs.Ytfpopbhbhdhdnaa
open Go.RowKit Go.Shelf
attribute [local go_sem] Oper.semAt_some

/-- Blocks of ranges: each a value, and what it reads as. -/
def Parts (w : World) (P : List (Value × List Rn)) : Prop := ∀ x ∈ P, RR w x.1 x.2 ∧ 0 < x.2.length
def pvals (P : List (Value × List Rn)) : List Value := P.map (·.1)
def pall (P : List (Value × List Rn)) : List Rn := P.flatMap (·.2)
theorem Parts.same {w w' : World} {P : List (Value × List Rn)} (h : Parts w P) (hk : ∀ g cs, Blk w g 56 cs → w'.heap[g]? = w.heap[g]?) : Parts w' P := fun x hx => ⟨(h x hx).1.same fun g cs _ hb => hk g cs hb, (h x hx).2⟩
theorem Parts.keep {w w' : World} {P : List (Value × List Rn)} (h : Parts w P) (k : Below w.heap.size w w') : Parts w' P := h.same fun g cs hb => k.block g hb.lt
theorem pvals_one {P : List (Value × List Rn)} {w : World} (h : Parts w P) : ∀ u ∈ pvals P, u.oneCell' = true := by
  intro u hu
  obtain ⟨x, hx, rfl⟩ := List.mem_map.1 hu
  rcases (h x hx).1.form with ⟨e, _⟩ | ⟨g, c, e, _⟩ <;> rw [e] <;> rfl

set_option maxRecDepth 100000 in
theorem clone_any (p : Option Addr) (c : Nat) (l : List Rn) (w : World) (h : Its w p l) (hp : 0 < l.length) (hm : l.length ≤ 1000) :
    Calls Try.prog 73 #[.slice p l.length c] w (NewRow w l) := by
  obtain ⟨ad, rfl, _⟩ := h.cells hp
  have hE : Hid (RR (w.alloc (.cells #[] 56)) (.slice (some ⟨w.heap.size, 0, none⟩) 0 0) []) := Lib.hid (RR.mk rfl (Blk.new _ _ _) (Nat.le_refl _) (Nat.zero_le _) rfl rfl)
  have hI : Hid (Its (w.alloc (.cells #[] 56)) (some ad) l) := Lib.hid (h.keep ((Below.refl _ _).alloc (Nat.le_refl _) _))
  clear h
  have hq : ∀ w : World, (binOp .eql 30 (.slice (some ad) l.length c) (.slice none 0 0)).run Try.prog w = .ok (.bool false) w := fun w => Lib.run_eql_slice_nil (P := Try.prog) w 30 56 (some ad) l.length c 0 0 Try.underlying30
  go_enter Try.func73, Try.ntmps73
  go_wp2_with (at_builtin; (refine wpList_append_rr rfl _ _ rfl (.slice (some ⟨w.heap.size, 0, none⟩) 0 0) [] rfl hE.out (some ad) l.length c l rfl rfl hp hI.out (by simp; omega) ?_); intro g' cap' w2 hR hgr hat)
  have HR := Lib.hid hR
  have HG := Lib.hid hgr
  have HA := Lib.hid hat
  clear hR hgr hat
  go_wp2
  go_ret
  refine ⟨_, rfl, by simpa using HR.out, ?_, fun k e => ?_⟩
  · have b0 : Below w.heap.size w (w.alloc (.cells #[] 56)) := (Below.refl _ _).alloc (Nat.le_refl _) _
    exact b0.grown HG.out b0.size (fun k e => by simp [Value.ownBlock] at e; omega)
  · simp [Value.ownBlock] at e
    subst e
    rcases HA.out with k | k
    · simp [Value.ownBlock] at k; omega
    · rw [k]; simp

/-- Chunks of 32. -/
def chk (l : List Rn) (k : Nat) : List Rn := (l.drop (32 * k)).take 32
def chN (n : Nat) : Nat := (n + 31) / 32
structure ChR (g off cap bs bn : Nat) (l : List Rn) (W : World) : Prop where
  s : Blk W bs 30 #[.slice (some ⟨g, off, none⟩) l.length cap]
  n : Blk W bn 3 #[.int .i64 32]

set_option maxRecDepth 100000 in
set_option maxHeartbeats 2000000 in
theorem chunk1 (n l0 g off cap bs bn : Nat) (l : List Rn) (hn : 1 ≤ n) (hc : l.length ≤ cap) (hcm : cap ≤ 9223372036854775807) (hlen : l.length ≤ 1000) (J Jx : List Nat → World → Prop) (W : World)
    (hJ : ∀ pre A B, J pre A → Below A.heap.size A B → J pre B) (hR : ∀ pre A, J pre A → ChR g off cap bs bn l A)
    (hY : ∀ pre x A, J pre A → pre ++ [x] <+: List.range (chN l.length) → YieldAt Fence.wide (n - 1) Try.prog l0 #[.slice (some ⟨g, off + 32 * x * 2, none⟩) (chk l x).length (chk l x).length] A fun e B => (e = .returned (.bool true) ∧ J (pre ++ [x]) B) ∨ (e = .returned (.bool false) ∧ Jx (pre ++ [x]) B))
    (h0 : J [] W) :
    CallsIn Fence.wide n Try.prog 94 #[.func (.yield l0) #[] #[], .pointer (some ⟨bs, 0, none⟩), .pointer (some ⟨bn, 0, none⟩)] W fun e W' => (∃ v, e = .returned v) ∧ ((∃ xs, xs = List.range (chN l.length) ∧ J xs W') ∨ (∃ pre, pre <+: List.range (chN l.length) ∧ Jx pre W')) := by
  have H0 := Lib.hid h0
  have HJ := Lib.hid hJ
  have HR := Lib.hid hR
  have HY := Lib.hid hY
  clear h0 hJ hR hY
  refine callsIn_of_wp Try.func94 rfl trivial ?_ rfl
  simp only [Try.ntmps94, List.size_toArray, List.length_cons, List.length_nil, Nat.reduceAdd, Nat.reduceSub, Array.replicate_succ, Array.replicate_zero, List.push_toArray, List.append_toArray, List.nil_append, List.cons_append]
  gi_wp2
  gi_loopw [4] (fun iv wr => ∃ k i : Nat, Hid (i = 32 * k) ∧ k ≤ chN l.length ∧ iv = .int .i64 (i : Int) ∧ J (List.range k) wr) (fun i _ => l.length - (intOf i).toNat)
  case atStart => exact ⟨0, 0, Lib.hid rfl, Nat.zero_le _, rfl, H0.out⟩
  case round =>
    obtain ⟨k, i, HIk, hk, rfl, hJk⟩ := hrel
    have HJk := Lib.hid hJk
    have R := HR.out _ _ hJk
    have s0 := R.s.cell (i := 0) (v := .slice (some ⟨g, off, none⟩) l.length cap) rfl
    have n0 := R.n.cell (i := 0) (v := .int .i64 32) rfl
    clear R hJk H0
    by_cases hlt : i < l.length
    · have hk1 : k < chN l.length := by have := HIk.out; unfold chN; omega
      have hcl : Hid ((chk l k).length = min 32 (l.length - i)) := Lib.hid (by unfold chk; rw [List.length_take, List.length_drop, HIk.out])
      have HPre : Hid (List.range k ++ [k] <+: List.range (chN l.length)) := Lib.hid (by
        rw [← List.range_succ]
        have := range_split (k + 1) (chN l.length) (by omega)
        rw [this]; exact List.prefix_append _ _)
      have hle : i ≤ l.length := by omega
      have hic : i ≤ cap := by omega
      gi_wp2
      refine wpIn_wide.2 ?_
      go_quiet (fail)
      have HJ2 := Lib.hid (HJ.out _ _ _ HJk.out (Drawn.below ⟨nq, rfl⟩ wr.heap.size))
      have em : min 32 ((l.length - i : Nat) : Int) = ((min 32 (l.length - i) : Nat) : Int) := by omega
      rw [em]
      have he1 : min 32 (l.length - i) ≤ 32 := by omega
      have he2 : 1 ≤ min 32 (l.length - i) := by omega
      have he3 : i + min 32 (l.length - i) ≤ l.length := by omega
      have he4 : i + min 32 (l.length - i) ≤ cap := by omega
      clear em
      generalize min 32 (l.length - i) = e at *
      have s0 : (wr.drewN nq).cell? ⟨bs, 0, none⟩ = some (.slice (some ⟨g, off, none⟩) l.length cap) := s0
      have n0 : (wr.drewN nq).cell? ⟨bn, 0, none⟩ = some (.int .i64 32) := n0
      generalize wr.drewN nq = w2 at *
      have HYk := HY.out _ k w2 HJ2.out HPre.out
      rw [hcl.out, ← HIk.out] at HYk
      obtain ⟨fn, tmps, assign, body, hy, hRd⟩ := HYk
      gi_wp2
      refine hRd.mono ?_
      have ers : List.range k ++ [k] = List.range (k + 1) := (List.range_succ).symm
      rw [ers]
      have HPre2 : Hid (List.range (k + 1) <+: List.range (chN l.length)) := Lib.hid (by rw [← ers]; exact HPre.out)
      rintro e3 W3 (⟨rfl, hJ3⟩ | ⟨rfl, hJx3⟩)
      · have HJ3 := Lib.hid hJ3
        have n0 := (HR.out _ _ hJ3).n.cell (i := 0) (v := .int .i64 32) rfl
        clear hJ3 hy hRd HY s0 ers
        gi_wp2
        go_roundw
        case rel => exact ⟨k + 1, i + 32, Lib.hid (by have := HIk.out; omega), hk1, by go_num, HJ3.out⟩
        case measure => simp [intOf]; omega
      · have HJ3 := Lib.hid hJx3
        clear hJx3 hy hRd HY s0 n0 ers
        gi_wp2
        refine bodyPost_ret (results_none rfl _ _ _) rfl ?_
        exact ⟨⟨_, rfl⟩, .inr ⟨_, HPre2.out, HJ3.out⟩⟩
    · have hk1 : k = chN l.length := by have := HIk.out; unfold chN at *; omega
      have HJ2 := Lib.hid HJk.out
      rw [hk1] at HJ2
      clear hk1
      gi_wp2
      go_end0
      exact ⟨⟨_, rfl⟩, .inl ⟨_, rfl, HJ2.out⟩⟩
theorem chunk_seq (n g off cap bs bn : Nat) (l : List Rn) (hn : 1 ≤ n) (hc : l.length ≤ cap) (hcm : cap ≤ 9223372036854775807) (hlen : l.length ≤ 1000) :
    Seq1 n Try.prog 94 #[.pointer (some ⟨bs, 0, none⟩), .pointer (some ⟨bn, 0, none⟩)] (fun k : Nat => #[.slice (some ⟨g, off + 32 * k * 2, none⟩) (chk l k).length (chk l k).length]) (fun pre x => pre ++ [x] <+: List.range (chN l.length)) (fun xs => xs = List.range (chN l.length)) (fun pre => pre <+: List.range (chN l.length)) (fun _ W => ChR g off cap bs bn l W) :=
  fun l0 J Jx W hJ _ hR hY h0 => chunk1 n l0 g off cap bs bn l hn hc hcm hlen J Jx W hJ hR hY h0
end Go.Proofs.Ytfpopbhbhdhdnaa
