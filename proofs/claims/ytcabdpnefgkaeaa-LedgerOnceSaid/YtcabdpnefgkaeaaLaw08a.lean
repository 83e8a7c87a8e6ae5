/- LedgerOnce over this translation. -/
import Derived.Test.YtcabdpnefgkaeaaOk
set_option linter.unusedVariables false
namespace Go.Proofs.Ytcabdpnefgkaeaa
open Go.RowKit

theorem bool_info : (Try.prog.info? 4).map (fun i => (i.zero, i.size, i.bytes)) = some (some (.bool false), 1, 1) := by kernel_rfl

theorem once_short (reorder : Nat) (v : Option Addr) (c b off : Nat) (l : List Ac) (W : World) (h : InActs W v l b off) (hf : fitsB l = false) :
    Calls Try.prog 3 #[.int .u64 (reorder : Int), .slice v l.length c] W fun e w' => e = .returned (.bool true) ∧ Below W.heap.size W w' := by
  have HF := Lib.hid (fits_any l v c b off W h)
  rw [hf] at HF
  have HA := Lib.hid (alive08 W)
  clear h hf
  go_enter Try.func3, Try.ntmps3
  go_wp2_with fail
  refine (HF.out).mono ?_
  rintro e w1 ⟨rfl, rfl⟩
  go_wp2_with fail
  refine (HA.out).mono ?_
  rintro e w2 ⟨rfl, b2⟩
  have B2 := Lib.hid b2
  clear b2 HA HF
  go_wp2
  go_ret
  exact ⟨rfl, B2.out⟩

/-- Between acts: what is out is known, and none of it has gone. -/
structure Fine (P : List Pk) (G : List Bool) (n : Nat) : Prop where
  r : P.Pairwise fun x y => x.n < y.n
  g : ∀ p ∈ P, G[p.n]? = some false
  c : P.length + n = G.length
theorem Fine.push {P : List Pk} {G : List Bool} {n : Nat} (h : Fine P G n) (p : Pk) (hp : p.n = G.length) : Fine (P ++ [p]) (G ++ [false]) n := by
  refine ⟨?_, fun q hq => ?_, by have := h.c; simp; omega⟩
  · rw [List.pairwise_append]
    refine ⟨h.r, List.pairwise_singleton _ _, fun x hx y hy => ?_⟩
    simp at hy
    subst hy
    have := (List.getElem?_eq_some_iff.1 (h.g x hx)).1
    omega
  · rcases List.mem_append.1 hq with hq | hq
    · have h1 := h.g q hq
      have := (List.getElem?_eq_some_iff.1 h1).1
      rw [List.getElem?_append_left this]
      exact h1
    · simp at hq
      subst hq
      rw [hp, List.getElem?_append_right (Nat.le_refl _), Nat.sub_self]
      rfl
/-- While packets go, one by one. -/
structure Mid (W : World) (b : Nat) (D R : List Pk) (v10 : Value) (nx : Nat) (v7 : Value) (gl n k : Nat) (wr : World) : Prop where
  ex : ∃ G, G.length = gl ∧ OnceI W b R G v7 nx wr ∧ Split (D.drop k) R G
  pr : PR wr v10 D
  c : R.length + (D.length - k) + n = gl
  k : k ≤ D.length
theorem Mid.of {W : World} {b : Nat} {P : List Pk} {G : List Bool} {v7 v10 : Value} {nx n : Nat} {w' : World} (h : Took W b P G v7 nx v10 w') (hf : Fine P G n) : ∃ D R, Mid W b D R v10 nx v7 G.length n 0 w' ∧ D.length ≤ P.length := by
  obtain ⟨f, h1, h2⟩ := h
  have hl := filter_len P f
  exact ⟨_, _, ⟨⟨G, rfl, h2, Split.of hf.r hf.g f⟩, h1, by have := hf.c; omega, Nat.zero_le _⟩, by omega⟩
theorem Mid.fine {W : World} {b : Nat} {D R : List Pk} {v10 : Value} {nx : Nat} {v7 : Value} {gl n : Nat} {wr : World} (h : Mid W b D R v10 nx v7 gl n D.length wr) : ∃ G, G.length = gl ∧ OnceI W b R G v7 nx wr ∧ Fine R G n := by
  obtain ⟨G, h1, h2, h3⟩ := h.ex
  exact ⟨G, h1, h2, h3.r, h3.gr, by have := h.c; omega⟩
theorem Mid.step {W : World} {b : Nat} {D R : List Pk} {v10 : Value} {nx g cap gl n k : Nat} {wr : World} (h : Mid W b D R v10 nx (.slice (some ⟨g, 0, none⟩) gl cap) gl n k wr) (hk : k < D.length) :
    Mid W b D R v10 nx (.slice (some ⟨g, 0, none⟩) gl cap) gl (n + 1) (k + 1) (wr.setCell ⟨g, (D.getD k Itm.z).n, none⟩ (.bool true)) := by
  obtain ⟨G, rfl, h2, h3⟩ := h.ex
  have e : D.getD k Itm.z = D[k] := by rw [List.getD_eq_getElem?_getD, List.getElem?_eq_getElem hk]; rfl
  rw [List.drop_eq_getElem_cons hk] at h3
  rw [e]
  have hx := h3.gd _ List.mem_cons_self
  have hlt := (List.getElem?_eq_some_iff.1 hx).1
  obtain ⟨k1, k2⟩ := h2.store (D[k]).n (by omega)
  exact ⟨⟨G.set (D[k]).n true, by simp, k1, h3.step⟩, k2 _ _ h.pr, by have := h.c; omega, hk⟩
/-- What the next one reads. -/
theorem Mid.at_ {W : World} {b : Nat} {D R : List Pk} {p10 : Option Addr} {n10 c10 : Nat} {nx gl n k : Nat} {v7 : Value} {wr : World} (h : Mid W b D R (.slice p10 n10 c10) nx v7 gl n k wr) (hk : k < D.length) :
    ∃ ba oa g cap, p10 = some ⟨ba, oa, none⟩ ∧ v7 = .slice (some ⟨g, 0, none⟩) gl cap ∧ wr.cell? ⟨ba, oa + k * 7, none⟩ = some (.int .u64 ((D.getD k Itm.z).n : Int)) ∧ (D.getD k Itm.z).n < gl ∧ wr.cell? ⟨g, (D.getD k Itm.z).n, none⟩ = some (.bool false) ∧ (∀ j, wr.frozen? ⟨g, j, none⟩ = false) := by
  obtain ⟨G, rfl, h2, h3⟩ := h.ex
  have e : D.getD k Itm.z = D[k] := by rw [List.getD_eq_getElem?_getD, List.getElem?_eq_getElem hk]; rfl
  rw [List.drop_eq_getElem_cons hk, ← e] at h3
  have hx := h3.gd _ List.mem_cons_self
  have hlt := (List.getElem?_eq_some_iff.1 hx).1
  obtain ⟨g, cap, cs, rfl, _, hb⟩ := h2.gone.form (by omega)
  obtain ⟨ba, oa, rfl, _, _, hc⟩ := pr_cell h.pr (by omega)
  exact ⟨ba, oa, g, cap, rfl, rfl, hc k hk, hlt, h2.gone.cell hx, fun j => hb.free j⟩
theorem OnceI.out {W : World} {b : Nat} {P : List Pk} {G : List Bool} {v7 : Value} {nx : Nat} {w : World} (h : OnceI W b P G v7 nx w) :
    Calls Try.prog 11 #[.pointer (some ⟨b, 0, none⟩)] w fun e w' => ∃ v, e = .returned v ∧ PR w' v P ∧ OnceI W b P G v7 nx w' := by
  obtain ⟨rb, g, s, h1, h2, rfl, rfl, h5⟩ := h.led
  refine (out_any b rb g s w h1 h2).mono ?_
  rintro e w' ⟨v, rfl, k1, k2, k3⟩
  exact ⟨v, rfl, k1, h.keep k3⟩

set_option maxRecDepth 100000 in
set_option maxHeartbeats 8000000 in
theorem LedgerOnce_walk (reorder : Nat) (hr : reorder ≤ 18446744073709551615) (v : Option Addr) (c b0 off : Nat) (l : List Ac) (W : World) (h : InActs W v l b0 off) :
    Calls Try.prog 3 #[.int .u64 (reorder : Int), .slice v l.length c] W fun e w' => e = .returned (.bool true) ∧ Below W.heap.size W w' := by
  by_cases hf : fitsB l = true
  case neg => exact once_short reorder v c b0 off l W h (by simpa using hf)
  have HF := Lib.hid (fits_any l v c b0 off W h)
  rw [hf] at HF
  have HN := Lib.hid (new_any reorder W)
  have HR := Lib.hid hr
  have HL : Hid (l.length ≤ 100 ∧ ∀ i, i < l.length → (l.getD i default).r.length ≤ 100) := Lib.hid (by
    unfold fitsB at hf
    rw [Bool.and_eq_true, decide_eq_true_eq, List.all_eq_true] at hf
    refine ⟨hf.1, fun i hi => ?_⟩
    have := hf.2 (l.getD i default) (by simp [List.getD_eq_getElem?_getD, hi])
    simpa using this)
  have HI := Lib.hid h
  obtain ⟨i0b, hi, hz0, hz1, hz2⟩ := info_parts bool_info
  have HIf := Lib.hid hi
  have HZ0 := Lib.hid hz0
  have HZ1 := Lib.hid hz1
  have HZ2 := Lib.hid hz2
  clear h hf hr hi hz0 hz1 hz2
  go_enter Try.func3, Try.ntmps3
  go_wp2_with fail
  refine (HF.out).mono ?_
  rintro e w1 ⟨rfl, rfl⟩
  clear HF
  go_wp2_with fail
  refine (HN.out).mono ?_
  rintro e w2 ⟨⟨b, rb, g, rfl, hl, hx⟩, hw⟩
  have H0 := Lib.hid (OnceI.new HR.out hl hx hw)
  clear hl hx hw HN
  go_wp2
  go_loopw [7, 8, 9] (fun g n i wr => ∃ (k m : Nat) (P : List Pk) (G : List Bool), i = .int .i64 (k : Int) ∧ n = .int .i64 (m : Int) ∧ k ≤ l.length ∧ G.length ≤ k ∧ OnceI w1 b P G g G.length wr ∧ Fine P G m) (fun _ _ i _ => l.length - (intOf i).toNat)
  case atStart => exact ⟨0, 0, [], [], rfl, rfl, Nat.zero_le _, Nat.le_refl _, H0.out, ⟨List.Pairwise.nil, (fun p h => by cases h), rfl⟩⟩
  case round =>
    obtain ⟨k, m, P, G, rfl, rfl, hk, hg, hO, hFi⟩ := hrel
    have HO := Lib.hid hO
    have HFi := Lib.hid hFi
    clear H0 hO hFi
    by_cases hlt : k < l.length
    · obtain ⟨rfl, hb0⟩ := HI.out.2.1 (by omega)
      have A := (HI.out.2.2 k hlt).keep hb0 HO.out.bel
      have hrl := HL.out.2 k hlt
      have hln := HL.out.1
      have i0 : (0 : Int) ≤ (k : Int) := by omega
      have i1 : (k : Int) < (l.length : Int) := by omega
      generalize l.getD k default = q at *
      have HA := Lib.hid A
      have k0 := A.k0
      clear A
      have hkd : q.kind % 3 = 0 ∨ q.kind % 3 = 1 ∨ q.kind % 3 = 2 := by omega
      rcases hkd with hkd | hkd | hkd
      · have d0 : ((q.kind : Int) % 3 == 0) = true := by rw [show ((q.kind : Int) % 3) = ((q.kind % 3 : Nat) : Int) by omega, hkd]; rfl
        have hd := (Drawn.drew wr).below wr.heap.size
        have A2 := HA.out.keep (Nat.lt_of_lt_of_le hb0 HO.out.bel.size) hd
        have k1 := A2.k1
        have k2 := A2.k2
        have HS := Lib.hid (send_once (HO.out.keep hd) q.size q.at_ 0 (by omega) A2.b1 A2.b2 (by omega))
        have HS' : Hid (Calls Try.prog 8 #[.pointer (some ⟨b, 0, none⟩), .int .u64 (q.size : Int), .agg #[.int .u64 (q.at_ : Int), .int .u64 0, .int .u64 0, .int .u64 0, .bool false]] wr.drew fun e w' => e = .returned (.int .u64 (G.length : Int)) ∧ OnceI w1 b (P ++ [⟨G.length, q.size, q.at_, 0, 0, 0, false⟩]) G u7 (G.length + 1) w') := Lib.hid HS.out
        clear A2 hd HS
        have HAl := Lib.hid (alive08)
        clear HAl HA
        go_wp2_with fail
        go_region_with (go_at_call 8; (refine (HS'.out).mono ?_); rintro e w3 ⟨rfl, hO3⟩; have HO3 := Lib.hid hO3; clear hO3)
        all_goals
          have HGo : Hid (w3.ownsRow w1.heap.size 4 1 u7 G.length (G.map Value.bool)) := Lib.hid HO3.out.gone
          have HBs : Hid (w1.heap.size ≤ w3.heap.size) := Lib.hid HO3.out.bel.size
          obtain ⟨p7, c7, rfl⟩ := HO3.out.gone.form0
          have HGa : Hid ((w3.alloc (.cells #[.bool false] 4)).ownsRow w1.heap.size 4 1 (.slice p7 G.length c7) G.length (G.map Value.bool)) := Lib.hid (own_same HGo.out fun x cs _ _ hb => Below.heap_alloc _ _ _ hb.lt)
          have HNw : Hid (∀ j u, [Value.bool false][j]? = some u → (w3.alloc (.cells #[.bool false] 4)).cell? ((⟨w3.heap.size, 0, none⟩ : Addr).add j) = some u) := Lib.hid (fun j u hu => by
            match j, hu with
            | 0, hu => simp at hu; subst hu; simp [Addr.add])
          go_wp2_with (at_builtin; (refine wpList_append_own_at _ rfl _ _ 28 rfl w1.heap.size 4 i0b (.bool false) 1 1 Try.underlying28 HIf.out HZ0.out HZ1.out HZ2.out rfl (by decide) (.slice p7 G.length c7) G.length (G.map Value.bool) rfl HGa.out ⟨w3.heap.size, 0, none⟩ 1 1 [.bool false] rfl rfl HNw.out (fun u hu => by simp at hu; subst hu; rfl) (by unfold maxLen; omega) (by omega) (by have := HBs.out; simp; omega) ?_); intro v' w5 hown hgr hnil hat; have H5 : Hid (OnceI w1 b (P ++ [⟨G.length, q.size, q.at_, 0, 0, 0, false⟩]) (G ++ [false]) v' (G.length + 1) w5) := Lib.hid (HO3.out.more hgr hown); clear hown hgr hnil hat)
          have HF5 := Lib.hid (HFi.out.push ⟨G.length, q.size, q.at_, 0, 0, 0, false⟩ rfl)
          clear HO HFi HS' HGo HGa HNw HBs HO3 k1 k2
          go_loopw [8, 11] (fun n i wr => n = .int .i64 (m : Int) ∧ i = .int .i64 0 ∧ OnceI w1 b (P ++ [⟨G.length, q.size, q.at_, 0, 0, 0, false⟩]) (G ++ [false]) v' (G.length + 1) wr) (fun _ _ _ => 0)
          case atStart => exact ⟨rfl, rfl, H5.out⟩
          case round =>
            obtain ⟨rfl, rfl, hO5⟩ := hrel
            have HO5 := Lib.hid hO5
            clear hO5 H5
            go_wp2
            go_roundw
            case rel => exact ⟨k + 1, m, _, G ++ [false], by go_num, rfl, by omega, by simp; omega, by rw [List.length_append]; exact HO5.out, HF5.out⟩
            case measure => simp [intOf]; omega
      · have d0 : ((q.kind : Int) % 3 == 0) = false := by rw [show ((q.kind : Int) % 3) = ((q.kind % 3 : Nat) : Int) by omega, hkd]; rfl
        have d1 : ((q.kind : Int) % 3 == 1) = true := by rw [show ((q.kind : Int) % 3) = ((q.kind % 3 : Nat) : Int) by omega, hkd]; rfl
        have k3 := HA.out.k3
        have HS := Lib.hid (ack_once HO.out q.p q.c q.r HA.out.b3.2.1 (by omega) HA.out.b3.2.2)
        go_wp2_with fail
        refine (HS.out).mono ?_
        rintro e w3 ⟨v10, x10, rfl, hT⟩
        obtain ⟨D, R, hM, hDl⟩ := Mid.of hT HFi.out
        obtain ⟨p10, c10, rfl⟩ := hM.pr.form
        have HM0 := Lib.hid hM
        have hPl : P.length ≤ 101 := by have := HFi.out.c; omega
        obtain ⟨nx, hnx⟩ : ∃ nx, nx = G.length := ⟨_, rfl⟩
        rw [← hnx] at HM0
        obtain ⟨gl, hgl⟩ : ∃ gl, gl = nx := ⟨_, rfl⟩
        have HNx : Hid (nx = gl) := Lib.hid hgl.symm
        have HM0 : Hid (Mid w1 b D R (.slice p10 D.length c10) nx u7 gl m 0 w3) := Lib.hid (by rw [hgl]; exact HM0.out)
        have hgk : gl ≤ k + 1 := by omega
        have hg1 : gl ≤ 101 := by omega
        generalize u7 = v7 at *
        clear hM hT HS HA HO HFi k0 k3 hgl hnx hg
        go_wp2
        go_loopw [8, 11] (fun n i wr => ∃ (m2 j : Nat), n = .int .i64 (m2 : Int) ∧ i = .int .i64 (j : Int) ∧ Mid w1 b D R (.slice p10 D.length c10) nx v7 gl m2 j wr) (fun _ i _ => D.length - (intOf i).toNat)
        case atStart => exact ⟨m, 0, rfl, rfl, HM0.out⟩
        case round =>
          obtain ⟨m2, j, rfl, rfl, hM⟩ := hrel
          have hjk := hM.k
          have hMc := hM.c
          clear HM0
          by_cases hj : j < D.length
          · obtain ⟨ba, oa, g7, cap7, rfl, rfl, a0, hlt2, a1, hfr⟩ := hM.at_ hj
            have HS := Lib.hid (hM.step hj)
            have f1 := hfr (D.getD j Itm.z).n
            clear hM hfr
            generalize (D.getD j Itm.z).n = x at *
            have j0 : (0 : Int) ≤ (j : Int) := by omega
            have j1 : (j : Int) < (D.length : Int) := by omega
            have x0 : (0 : Int) ≤ (x : Int) := by omega
            have x1 : (x : Int) < (gl : Int) := by omega
            have hd : decide ((gl : Int) ≤ (x : Int)) = false := by simp; omega
            have hwr : IntKind.u64.wrap (gl : Int) = (gl : Int) := IntWalk.u64_in _ (by omega)
            go_wp2
            go_roundw
            case rel => exact ⟨m2 + 1, j + 1, by go_num, by go_num, HS.out⟩
            case measure => simp [intOf]; omega
          · obtain rfl : j = D.length := by omega
            obtain ⟨G2, hG2, hO2, hF2⟩ := hM.fine
            have HO2 := Lib.hid hO2
            have HF2 := Lib.hid hF2
            clear hM hO2 hF2
            go_wp2
            go_roundw
            case rel => exact ⟨k + 1, m2, R, G2, by go_num, rfl, by omega, by omega, by rw [hG2, ← HNx.out]; exact HO2.out, HF2.out⟩
            case measure => simp [intOf]; omega
      · have d0 : ((q.kind : Int) % 3 == 0) = false := by rw [show ((q.kind : Int) % 3) = ((q.kind % 3 : Nat) : Int) by omega, hkd]; rfl
        have d1 : ((q.kind : Int) % 3 == 1) = false := by rw [show ((q.kind : Int) % 3) = ((q.kind % 3 : Nat) : Int) by omega, hkd]; rfl
        have hd := (Drawn.drew wr).below wr.heap.size
        have A2 := HA.out.keep (Nat.lt_of_lt_of_le hb0 HO.out.bel.size) hd
        have k2 := A2.k2
        have k4 := A2.k4
        have k5 := A2.k5
        have HS := Lib.hid (lost_once (HO.out.keep hd) q.at_ q.delay q.limit A2.b4 A2.b5)
        clear A2 hd
        have hgk : G.length ≤ k + 1 := by omega
        have hPl : P.length ≤ 101 := by have := HFi.out.c; omega
        clear HA
        go_wp2_with fail
        go_region_with (go_at_call 10; (refine (HS.out).mono ?_); rintro e w3 ⟨v10, rfl, hT⟩; obtain ⟨D, R, hM, hDl⟩ := Mid.of hT HFi.out; obtain ⟨p10, c10, rfl⟩ := hM.pr.form; have HM0 := Lib.hid hM; clear hM hT)
        all_goals
          obtain ⟨nx, hnx⟩ : ∃ nx, nx = G.length := ⟨_, rfl⟩
          rw [← hnx] at HM0
          obtain ⟨gl, hgl⟩ : ∃ gl, gl = nx := ⟨_, rfl⟩
          have HNx : Hid (nx = gl) := Lib.hid hgl.symm
          have HM0 : Hid (Mid w1 b D R (.slice p10 D.length c10) nx u7 gl m 0 w3) := Lib.hid (by rw [hgl]; exact HM0.out)
          have hgk : gl ≤ k + 1 := by omega
          have hg1 : gl ≤ 101 := by omega
          generalize u7 = v7 at *
          clear HS HO HFi k0 k2 k4 k5 hgl hnx hg
          go_wp2
          go_loopw [8, 11] (fun n i wr => ∃ (m2 j : Nat), n = .int .i64 (m2 : Int) ∧ i = .int .i64 (j : Int) ∧ Mid w1 b D R (.slice p10 D.length c10) nx v7 gl m2 j wr) (fun _ i _ => D.length - (intOf i).toNat)
          case atStart => exact ⟨m, 0, rfl, rfl, HM0.out⟩
          case round =>
            obtain ⟨m2, j, rfl, rfl, hM⟩ := hrel
            have hjk := hM.k
            have hMc := hM.c
            clear HM0
            by_cases hj : j < D.length
            · obtain ⟨ba, oa, g7, cap7, rfl, rfl, a0, hlt2, a1, hfr⟩ := hM.at_ hj
              have HS := Lib.hid (hM.step hj)
              have f1 := hfr (D.getD j Itm.z).n
              clear hM hfr
              generalize (D.getD j Itm.z).n = x at *
              have j0 : (0 : Int) ≤ (j : Int) := by omega
              have j1 : (j : Int) < (D.length : Int) := by omega
              have x0 : (0 : Int) ≤ (x : Int) := by omega
              have x1 : (x : Int) < (gl : Int) := by omega
              have hd : decide ((gl : Int) ≤ (x : Int)) = false := by simp; omega
              have hwr : IntKind.u64.wrap (gl : Int) = (gl : Int) := IntWalk.u64_in _ (by omega)
              go_wp2
              go_roundw
              case rel => exact ⟨m2 + 1, j + 1, by go_num, by go_num, HS.out⟩
              case measure => simp [intOf]; omega
            · obtain rfl : j = D.length := by omega
              obtain ⟨G2, hG2, hO2, hF2⟩ := hM.fine
              have HO2 := Lib.hid hO2
              have HF2 := Lib.hid hF2
              clear hM hO2 hF2
              go_wp2
              go_roundw
              case rel => exact ⟨k + 1, m2, R, G2, by go_num, rfl, by omega, by omega, by rw [hG2, ← HNx.out]; exact HO2.out, HF2.out⟩
              case measure => simp [intOf]; omega
    · obtain rfl : k = l.length := by omega
      have HU := Lib.hid HO.out.out
      have HFi2 := Lib.hid HFi.out
      have hPl : P.length ≤ 101 := by have := HFi.out.c; have := HL.out.1; omega
      have hml : m ≤ 101 := by have := HFi.out.c; have := HL.out.1; omega
      have hgl : G.length ≤ 101 := by have := HL.out.1; omega
      have HAv := Lib.hid alive08
      clear HO HFi HI HL
      go_wp2_with fail
      refine (HU.out).mono ?_
      rintro e w3 ⟨v12, rfl, hp, hO3⟩
      obtain ⟨p12, c12, rfl⟩ := hp.form
      have HP := Lib.hid hp
      have HO3 := Lib.hid hO3
      clear hp hO3 HU
      go_wp2
      go_loop [13] (fun i => ∃ j : Nat, i = .int .i64 (j : Int) ∧ j ≤ P.length) (fun i => P.length - (intOf i).toNat)
      case atStart => exact ⟨0, rfl, Nat.zero_le _⟩
      case round =>
        obtain ⟨j, rfl, hjk⟩ := hrel
        by_cases hj : j < P.length
        · obtain ⟨ba, oa, rfl, _, _, hc⟩ := pr_cell HP.out (by omega)
          have a0 := hc j hj
          have hx := HFi2.out.g (P.getD j Itm.z) (by simp [List.getD_eq_getElem?_getD, hj])
          have hlt2 := (List.getElem?_eq_some_iff.1 hx).1
          obtain ⟨g7, cap7, cs, rfl, _, _⟩ := HO3.out.gone.form (by omega)
          have a1 := HO3.out.gone.cell hx
          clear hc hx
          generalize (P.getD j Itm.z).n = x at *
          obtain ⟨gl, hgl2⟩ : ∃ gl, gl = G.length := ⟨_, rfl⟩
          have j0 : (0 : Int) ≤ (j : Int) := by omega
          have j1 : (j : Int) < (P.length : Int) := by omega
          have x0 : (0 : Int) ≤ (x : Int) := by omega
          have x1 : (x : Int) < (G.length : Int) := by omega
          have hd : decide ((G.length : Int) ≤ (x : Int)) = false := by simp; omega
          have hwr : IntKind.u64.wrap (G.length : Int) = (G.length : Int) := IntWalk.u64_in _ (by omega)
          clear hgl2
          go_wp2
          go_round
          case rel => exact ⟨j + 1, by go_num, by omega⟩
          case measure => simp [intOf]; omega
        · obtain rfl : j = P.length := by omega
          have HAw := Lib.hid (HAv.out w3)
          obtain ⟨p7, c7, rfl⟩ := HO3.out.gone.form0
          have hcc := HFi2.out.c
          have hwr : IntKind.i64.wrap ((P.length : Int) + (m : Int)) = (G.length : Int) := by rw [IntWalk.i64_in _ (by omega)]; omega
          clear HP HAv
          go_wp2_with (go_at_call 6; (refine (HAw.out).mono ?_); rintro e w4 ⟨rfl, hb4⟩; have HB4 := Lib.hid (bel_to HO3.out.bel hb4 HO3.out.bel.size); clear hb4)
          go_ret
          exact ⟨by first | rfl | (simp; omega), HB4.out⟩
end Go.Proofs.Ytcabdpnefgkaeaa
