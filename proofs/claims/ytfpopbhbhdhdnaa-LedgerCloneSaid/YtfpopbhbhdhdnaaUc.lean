/- slices.Insert and Replace onto nothing, slices.Concat of blocks, over this translation. -/
import Derived.Test.YtfpopbhbhdhdnaaUb
set_option linter.unusedVariables false
namespace Go.Proofs.Ytfpopbhbhdhdnaa
open Go.RowKit

structure InsPost (w : World) (n : Nat) (vals : List Value) (e : Ending) (w' : World) : Prop where
  at_ : ∃ v, e = .returned v ∧ w'.ownsRow w.heap.size 30 1 v n vals
  bel : Below w.heap.size w w'
theorem ins_form {B n : Nat} {v : Value} {w : World} {xs : List Value} (hp : 0 < n) (h : w.ownsRow B 30 1 v (0 + n) xs) : ∃ g c, v = .slice (some ⟨g, 0, none⟩) n c := by
  rcases h.2 with ⟨_, e⟩ | ⟨g', cap', cur, e, _⟩
  · omega
  · exact ⟨g', cap', by rw [e, Nat.zero_add]⟩
theorem insert_new (v : Value) (n : Nat) (vals : List Value) (B : Nat) (w : World) (h : w.ownsRow B 30 1 v n vals) (hp : 0 < n) (hn : n ≤ 1000) (h1 : ∀ u ∈ vals, u.oneCell' = true) :
    Calls Try.prog 68 #[.slice none 0 0, .int .i64 0, v] w (InsPost w n vals) := by
  obtain ⟨g, cap, rfl⟩ : ∃ g cap, v = .slice (some ⟨g, 0, none⟩) n cap := by
    rcases h.2 with ⟨_, e⟩ | ⟨g, cap, cur, e, _⟩
    · omega
    · exact ⟨g, cap, e⟩
  obtain ⟨i0, hi, hz0, hz1, hz2⟩ := info_parts sl_info
  have HO : Hid (w.ownsRow w.heap.size 30 1 (.slice none 0 0) 0 []) := Lib.hid (World.ownsRow_nil _ _ _ _)
  have HC : Hid (∀ j u, vals[j]? = some u → w.cell? ((⟨g, 0, none⟩ : Addr).add j) = some u) := Lib.hid (fun j u hu => h.cells (g := g) rfl j u hu)
  have HL : Hid (vals.length = n * 1) := Lib.hid h.1
  have H1 := Lib.hid h1
  have d0 : ((n : Int) == 0) = false := beq_eq_false_iff_ne.2 (by omega)
  clear h h1
  go_enter Try.func68, Try.ntmps68
  go_wp2_with (at_builtin; (refine wpList_append_own_at _ rfl _ _ 89 rfl w.heap.size 30 i0 (.slice none 0 0) 1 24 Try.underlying89 hi hz0 hz1 hz2 rfl (by decide) (.slice none 0 0) 0 [] rfl HO.out ⟨g, 0, none⟩ n cap vals rfl HL.out HC.out H1.out (by unfold maxLen; omega) (by omega) (Nat.le_refl _) ?_); intro v' w2 hown hgr hnil hat; obtain ⟨g', c', rfl⟩ := ins_form hp hown; have K1 := Lib.hid hown; have K2 := Lib.hid hgr; clear hown hgr hnil hat)
  go_ret
  exact ⟨⟨_, rfl, by simpa using K1.out⟩, (Below.refl w.heap.size w).grown K2.out (Nat.le_refl _) (fun k e => by cases e)⟩

set_option maxRecDepth 100000 in
theorem replace_new (v : Value) (n : Nat) (vals : List Value) (B : Nat) (w : World) (h : w.ownsRow B 30 1 v n vals) (hp : 0 < n) (hn : n ≤ 1000) (h1 : ∀ u ∈ vals, u.oneCell' = true) :
    Calls Try.prog 47 #[.slice none 0 0, .int .i64 0, .int .i64 0, v] w (InsPost w n vals) := by
  have HI := Lib.hid (insert_new v n vals B w h hp hn h1)
  clear h h1
  go_enter Try.func47, Try.ntmps47
  go_wp2_with fail
  refine (HI.out).mono ?_
  rintro e w' ⟨⟨u, rfl, k1⟩, k2⟩
  have H1 := Lib.hid k1
  have H2 := Lib.hid k2
  clear k1 k2
  go_wp2
  go_ret
  exact ⟨⟨_, rfl, H1.out⟩, H2.out⟩

theorem pall_take {P : List (Value × List Rn)} {k : Nat} (h : k < P.length) : pall (P.take (k + 1)) = pall (P.take k) ++ (P.getD k (.slice none 0 0, [])).2 := by
  rw [List.take_succ_eq_append_getElem h]
  have e : P.getD k (.slice none 0 0, []) = P[k] := by rw [List.getD_eq_getElem?_getD, List.getElem?_eq_getElem h]; rfl
  rw [e]
  unfold pall
  rw [List.flatMap_append]
  simp only [List.flatMap_cons, List.flatMap_nil, List.append_nil]
theorem pall_take_le (P : List (Value × List Rn)) (k : Nat) : (pall (P.take k)).length ≤ (pall P).length := by
  have : pall P = pall (P.take k) ++ pall (P.drop k) := by unfold pall; rw [← List.flatMap_append, List.take_append_drop]
  rw [this]; simp
theorem Parts.at_ {w : World} {P : List (Value × List Rn)} (h : Parts w P) {k : Nat} (hk : k < P.length) : ∃ p c, (P.getD k (.slice none 0 0, [])).1 = .slice p (P.getD k (.slice none 0 0, [])).2.length c ∧ RR w (.slice p (P.getD k (.slice none 0 0, [])).2.length c) (P.getD k (.slice none 0 0, [])).2 ∧ 0 < (P.getD k (.slice none 0 0, [])).2.length ∧ (pvals P)[k]? = some (.slice p (P.getD k (.slice none 0 0, [])).2.length c) := by
  have e : P.getD k (.slice none 0 0, []) = P[k] := by rw [List.getD_eq_getElem?_getD, List.getElem?_eq_getElem hk]; rfl
  obtain ⟨h1, h2⟩ := h P[k] (List.getElem_mem hk)
  rw [e]
  obtain ⟨g, c, e1, _⟩ := h1.form1 h2
  refine ⟨_, _, e1, by rw [← e1]; exact h1, h2, ?_⟩
  simp [pvals, hk, e1]

set_option maxHeartbeats 1000000 in
theorem concat_all (v : Value) (P : List (Value × List Rn)) (B : Nat) (w : World) (h : w.ownsRow B 30 1 v P.length (pvals P)) (hP : Parts w P) (hp : 0 < P.length) (hm : P.length ≤ 1000) (hl : (pall P).length ≤ 1000) :
    Calls Try.prog 44 #[v] w (NewRow w (pall P)) := by
  obtain ⟨g, cap, rfl⟩ : ∃ g cap, v = .slice (some ⟨g, 0, none⟩) P.length cap := by
    rcases h.2 with ⟨_, e⟩ | ⟨g, cap, cur, e, _⟩
    · omega
    · exact ⟨g, cap, e⟩
  have HC : Hid (∀ j u, (pvals P)[j]? = some u → w.cell? ⟨g, j, none⟩ = some u) := Lib.hid (fun j u hu => by
    have := h.cells (g := g) rfl j u hu
    rwa [Go.WideShapes.add_plain, Nat.zero_add] at this)
  have hgl : g < w.heap.size := (h.lt g rfl).2
  have HP := Lib.hid hP
  have HG := Lib.hid (grow_any (pall P).length w hl)
  have HLe := Lib.hid (pall_take_le P)
  have HTk := Lib.hid (fun k (hk : k < P.length) => pall_take hk)
  clear h hP
  go_enter Try.func44, Try.ntmps44
  go_wp2
  go_loop [3, 11] (fun s i => ∃ k t : Nat, Hid (t = (pall (P.take k)).length) ∧ k ≤ P.length ∧ s = .int .i64 (t : Int) ∧ i = .int .i64 (k : Int)) (fun _ i => P.length - (intOf i).toNat)
  case atStart => exact ⟨0, 0, Lib.hid rfl, Nat.zero_le _, rfl, rfl⟩
  case round =>
    obtain ⟨k, t, HT, hk, rfl, rfl⟩ := hrel
    have ht : t ≤ 1000 := by have := HLe.out k; have := HT.out; omega
    by_cases hlt : k < P.length
    · obtain ⟨p, c, e1, hr, h0, hv⟩ := HP.out.at_ hlt
      have hc := HC.out k _ hv
      have hT2 : Hid (t + (P.getD k (.slice none 0 0, [])).2.length = (pall (P.take (k + 1))).length) := Lib.hid (by rw [HTk.out k hlt, List.length_append, HT.out])
      have ht2 : t + (P.getD k (.slice none 0 0, [])).2.length ≤ 1000 := by have := HLe.out (k + 1); have := hT2.out; omega
      clear e1 hr h0 hv
      generalize (P.getD k (.slice none 0 0, [])).2.length = m at *
      go_wp2
      go_round
      case rel => exact ⟨k + 1, t + m, hT2, by omega, by go_num, by go_num⟩
      case measure => simp [intOf]; omega
    · obtain rfl : k = P.length := by omega
      have hT3 : Hid (t = (pall P).length) := Lib.hid (by rw [HT.out, List.take_length])
      have HG2 : Hid (Calls Try.prog 64 #[.slice none 0 0, .int .i64 (t : Int)] w fun e w' => ∃ v, e = .returned v ∧ RR w' v [] ∧ Below w.heap.size w w' ∧ ∀ g, v.ownBlock = some g → w.heap.size ≤ g) := Lib.hid (by rw [hT3.out]; exact HG.out)
      clear HG HT hT3
      go_wp2_with fail
      refine (HG2.out).mono ?_
      rintro e w' ⟨v, rfl, h1, h2, h3⟩
      have H1 := Lib.hid h1
      have H2 := Lib.hid h2
      have H3 := Lib.hid h3
      clear h1 h2 h3 HG2
      go_wp2
      go_loopw [6, 27] (fun s i wr => ∃ k : Nat, k ≤ P.length ∧ i = .int .i64 (k : Int) ∧ RR wr s (pall (P.take k)) ∧ Below w.heap.size w wr ∧ ∀ g, s.ownBlock = some g → w.heap.size ≤ g) (fun _ i _ => P.length - (intOf i).toNat)
      case atStart => exact ⟨0, Nat.zero_le _, rfl, H1.out, H2.out, H3.out⟩
      case round =>
        obtain ⟨k, hk, rfl, h1, h2, h3⟩ := hrel
        clear H1 H2 H3
        have H1 := Lib.hid h1
        have H2 := Lib.hid h2
        have H3 := Lib.hid h3
        clear h1 h2 h3
        by_cases hlt : k < P.length
        · obtain ⟨p, c, e1, hr, h0, hv⟩ := HP.out.at_ hlt
          have hc := (H2.out.cell (p := ⟨g, k, none⟩) hgl).trans (HC.out k _ hv)
          have HI := Lib.hid ((hr.its).keep H2.out)
          have HB : Hid ((pall (P.take k)).length + (P.getD k (.slice none 0 0, [])).2.length ≤ 1000000) := Lib.hid (by have := HLe.out (k + 1); rw [HTk.out k hlt, List.length_append] at this; omega)
          have HE := Lib.hid (HTk.out k hlt)
          clear e1 hr hv
          generalize (P.getD k (.slice none 0 0, [])).2 = r at *
          go_wp2_with (at_builtin; (refine wpList_append_rr rfl _ _ rfl _ (pall (P.take k)) rfl H1.out p r.length c r rfl rfl h0 HI.out HB.out ?_); intro g' cap' w2 hR hgr hat)
          have HR := Lib.hid hR
          have HGr := Lib.hid hgr
          have HA := Lib.hid hat
          clear hR hgr hat
          go_wp2
          go_roundw
          case rel =>
            refine ⟨k + 1, by omega, by go_num, by rw [HE.out]; exact HR.out, H2.out.grown HGr.out H2.out.size (fun k e => H3.out k e), ?_⟩
            intro g e
            simp [Value.ownBlock] at e
            subst e
            rcases HA.out with k | k
            · exact H3.out _ k.symm
            · rw [k]; exact H2.out.size
          case measure => simp [intOf]; omega
        · obtain rfl : k = P.length := by omega
          rw [List.take_length] at H1
          go_wp2
          go_ret
          exact ⟨_, rfl, H1.out, H2.out, H3.out⟩
end Go.Proofs.Ytfpopbhbhdhdnaa
