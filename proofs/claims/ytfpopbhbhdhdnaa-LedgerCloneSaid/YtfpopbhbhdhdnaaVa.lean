/- The document's own ledger: what it calls, over this translation.
   The document's own ledger in memory; lost, All, InFlight, over this translation.
   The document's own ledger: InFlight, lost, over this translation.
   The document's own ledger: Ack and Lost leave a plain state, over this translation.
   The document's own ledger: Lost, over this translation. -/
import Derived.Test.YtfpopbhbhdhdnaaOk
import Derived.Test.YtfpopbhbhdhdnaaOn
set_option linter.unusedVariables false
namespace Go.Proofs.Ytfpopbhbhdhdnaa
open Go.RowKit Pl

theorem ref_Add (a b : Nat) (w : World) (ha : a ≤ 18446744073709551615) (hb : b ≤ 18446744073709551615) :
    Calls Try.prog 60 #[.int .u64 (a : Int), .int .u64 (b : Int)] w fun e w' => e = .returned (.int .u64 ((addS a b : Nat) : Int)) ∧ w = w' := by
  by_cases h : 18446744073709551615 < a + b
  · have t : decide ((18446744073709551615 : Int) - (b : Int) < (a : Int)) = true := decide_eq_true (by omega)
    have HE : Hid (addS a b = 18446744073709551615) := Lib.hid (by unfold addS; omega)
    clear h
    go_enter Try.func60, Try.ntmps60
    go_wp2
    go_ret
    exact ⟨ret_u64 (by rw [HE.out]; rfl), rfl⟩
  · have t : decide ((18446744073709551615 : Int) - (b : Int) < (a : Int)) = false := decide_eq_false (by omega)
    have HE : Hid (addS a b = a + b) := Lib.hid (by unfold addS; omega)
    have h' : a + b ≤ 18446744073709551615 := by omega
    clear h
    go_enter Try.func60, Try.ntmps60
    go_wp2
    go_ret
    exact ⟨ret_u64 (by rw [HE.out]; simp), rfl⟩


theorem all_take {l : List Rn} {k : Nat} (h : k < l.length) : (l.take (k + 1)).all okB = ((l.take k).all okB && okB (l.getD k Itm.z)) := by
  rw [List.take_succ_eq_append_getElem h, List.all_append]
  simp [List.getD_eq_getElem?_getD, h]
theorem all_hit {l : List Rn} {k : Nat} (h : k < l.length) (hb : okB (l.getD k Itm.z) = false) : l.all okB = false := by
  rw [List.all_eq_false]
  exact ⟨l.getD k Itm.z, by simp [List.getD_eq_getElem?_getD, h], by rw [hb]; decide⟩

set_option maxHeartbeats 1000000 in
theorem right_any (l : List Rn) (p : Option Addr) (c : Nat) (w : World) (hl : Its w p l) (hm : l.length ≤ 9223372036854775807) (hu : ∀ r ∈ l, r.u64) :
    Calls Try.prog 57 #[.slice p l.length c] w fun e w' => e = .returned (.bool (l.all okB)) ∧ Drawn w w' := by
  have HL := Lib.hid hl
  have hu' : ∀ i, i < l.length → (l.getD i Itm.z).u64 := fun i hi => hu _ (by simp [List.getD_eq_getElem?_getD, hi])
  have HU := Lib.hid hu'
  clear hl hu hu'
  generalize hres : l.all okB = res
  have HRes := Lib.hid hres
  clear hres
  go_enter Try.func57, Try.ntmps57
  go_wp2
  go_loopw [3] (fun i wr => ∃ k : Nat, i = .int .i64 (k : Int) ∧ k ≤ l.length ∧ (l.take k).all okB = true ∧ Drawn w wr) (fun i _ => l.length - (intOf i).toNat)
  case atStart => exact ⟨0, rfl, Nat.zero_le _, rfl, Drawn.refl _⟩
  case round =>
    obtain ⟨k, rfl, hk, ha, hd⟩ := hrel
    have HA := Lib.hid ha
    have HD := Lib.hid hd
    clear ha hd
    by_cases hlt : k < l.length
    · obtain ⟨ad, rfl, _⟩ := HL.out.cells (by omega)
      obtain ⟨b, off, rfl, hb, hc⟩ := its_two HL.out (by omega)
      obtain ⟨c0, c1⟩ := hc k hlt
      have d0 := (HD.out.cell _).trans c0
      have d1 := (HD.out.cell _).trans c1
      have HT := Lib.hid (all_take hlt)
      have HH : Hid (okB (l.getD k Itm.z) = false → res = false) := Lib.hid (fun h => by rw [← HRes.out]; exact all_hit hlt h)
      have hou := HU.out k hlt
      have HOu : Hid (okB (l.getD k Itm.z) = !(decide ((l.getD k Itm.z).b < (l.getD k Itm.z).a) || decide ((l.getD k Itm.z).b = 18446744073709551615))) := Lib.hid rfl
      clear hc c0 c1
      generalize l.getD k Itm.z = r at *
      have i0 : (0 : Int) ≤ (k : Int) := by omega
      have i1 : (k : Int) < (l.length : Int) := by omega
      have hu1 := hou.2
      clear hou
      by_cases h1 : r.b < r.a
      · have e : Hid (res = false) := Lib.hid (HH.out (by rw [HOu.out]; simp [h1]))
        have e' := e.out
        subst e'
        go_wp2
        go_quiet (fail)
        go_wp2
        go_ret
        exact ⟨rfl, HD.out.more ⟨_, rfl⟩⟩
      · by_cases h2 : r.b = 18446744073709551615
        · have e : Hid (res = false) := Lib.hid (HH.out (by rw [HOu.out]; simp [h2]))
          have e' := e.out
          subst e'
          have h2' : ((r.b : Int) == 18446744073709551615) = true := by simp; omega
          have h1' : decide ((r.b : Int) < (r.a : Int)) = false := by simp; omega
          clear h2
          go_wp2
          go_quiet (fail)
          go_wp2
          go_ret
          exact ⟨rfl, HD.out.more ⟨_, rfl⟩⟩
        · have e : Hid (okB r = true) := Lib.hid (by rw [HOu.out]; simp [h1, h2])
          have h2' : ¬ ((r.b : Int) = 18446744073709551615) := by omega
          clear h2 hu1
          go_wp2
          go_quiet (fail)
          go_wp2
          go_roundw
          case rel => exact ⟨k + 1, by go_num, by omega, by rw [HT.out, HA.out, e.out]; rfl, HD.out.more ⟨_, rfl⟩⟩
          case measure => simp [intOf]; omega
    · obtain rfl : k = l.length := by omega
      have e : Hid (res = true) := Lib.hid (by rw [← HRes.out, ← HA.out, List.take_length])
      have e' := e.out
      subst e'
      go_wp2
      go_ret
      exact ⟨rfl, HD.out⟩

def hasB (l : List Rn) (n : Nat) : Bool := l.any fun r => decide (r.a ≤ n) && decide (n ≤ r.b)
set_option maxHeartbeats 1000000 in
theorem has_any (l : List Rn) (p : Option Addr) (c n : Nat) (w : World) (hl : Its w p l) (hm : l.length ≤ 1000) :
    Calls Try.prog 58 #[.slice p l.length c, .int .u64 (n : Int)] w fun e w' => e = .returned (.bool (hasB l n)) ∧ w' = w := by
  have HI := Lib.hid hl
  clear hl
  go_enter Try.func58, Try.ntmps58
  go_wp2
  go_loop [5] (fun i => ∃ k : Nat, i = .int .i64 (k : Int) ∧ k ≤ l.length ∧ hasB (l.take k) n = false) (fun i => l.length - (intOf i).toNat)
  case atStart => exact ⟨0, rfl, Nat.zero_le _, rfl⟩
  case round =>
    obtain ⟨k, rfl, hk, hn⟩ := hrel
    by_cases hlt : k < l.length
    · obtain ⟨ad, rfl, _⟩ := HI.out.cells (by omega)
      obtain ⟨g, off, rfl, _, hc⟩ := its_two HI.out (by omega)
      obtain ⟨c0, c1⟩ := hc k hlt
      have i0 : (0 : Int) ≤ (k : Int) := by omega
      have i1 : (k : Int) < (l.length : Int) := by omega
      have HS : Hid (hasB (l.take (k + 1)) n = (decide ((l.getD k Itm.z).a ≤ n) && decide (n ≤ (l.getD k Itm.z).b))) := Lib.hid (by
        have e : l.getD k Itm.z = l[k] := by rw [List.getD_eq_getElem?_getD, List.getElem?_eq_getElem hlt]; rfl
        unfold hasB at hn ⊢
        rw [List.take_succ_eq_append_getElem hlt, List.any_append, hn, e]
        simp)
      have HW : Hid (hasB (l.take (k + 1)) n = true → hasB l n = true) := Lib.hid (fun h => by
        unfold hasB at h ⊢
        rw [List.any_eq_true] at h ⊢
        obtain ⟨x, hx, h⟩ := h
        exact ⟨x, List.mem_of_mem_take hx, h⟩)
      clear hc hn
      generalize l.getD k Itm.z = r at *
      by_cases h1 : r.a ≤ n
      · have d1 : decide ((r.a : Int) ≤ (n : Int)) = true := by simp; exact h1
        by_cases h2 : n ≤ r.b
        · have d2 : decide ((n : Int) ≤ (r.b : Int)) = true := by simp; exact h2
          have HE : Hid (hasB l n = true) := Lib.hid (HW.out (by rw [HS.out]; simp [h1, h2]))
          go_wp2
          go_ret
          exact ⟨by rw [HE.out]; rfl, rfl⟩
        · have d2 : decide ((n : Int) ≤ (r.b : Int)) = false := by simp; omega
          have HE : Hid (hasB (l.take (k + 1)) n = false) := Lib.hid (by rw [HS.out]; simp [h2])
          go_wp2
          go_round
          case rel => exact ⟨k + 1, by go_num, by omega, HE.out⟩
          case measure => simp [intOf]; omega
      · have d1 : decide ((r.a : Int) ≤ (n : Int)) = false := by simp; omega
        have HE : Hid (hasB (l.take (k + 1)) n = false) := Lib.hid (by rw [HS.out]; simp [h1])
        go_wp2
        go_round
        case rel => exact ⟨k + 1, by go_num, by omega, HE.out⟩
        case measure => simp [intOf]; omega
    · obtain rfl : k = l.length := by omega
      have HE : Hid (hasB l n = false) := Lib.hid (by rw [List.take_length] at hn; exact hn)
      clear hn
      go_wp2
      go_ret
      exact ⟨by rw [HE.out]; rfl, rfl⟩

/-- All seven cells of a packet of a row. -/
theorem its_pk {w : World} {ad : Addr} {l : List Pk} (h : Its w (some ad) l) (hp : 0 < l.length) : ∃ b off, ad = ⟨b, off, none⟩ ∧ b < w.heap.size ∧ ∀ k, k < l.length → ∀ x, x = l.getD k Itm.z →
    w.cell? ⟨b, off + k * 7, none⟩ = some (.int .u64 (x.n : Int)) ∧ w.cell? ⟨b, off + k * 7 + 1, none⟩ = some (.int .u64 (x.size : Int)) ∧ w.cell? ⟨b, off + k * 7 + 2, none⟩ = some (.int .u64 (x.sent : Int)) ∧ w.cell? ⟨b, off + k * 7 + 3, none⟩ = some (.int .u64 (x.first : Int)) ∧ w.cell? ⟨b, off + k * 7 + 4, none⟩ = some (.int .u64 (x.deliv : Int)) ∧ w.cell? ⟨b, off + k * 7 + 5, none⟩ = some (.int .u64 (x.at_ : Int)) ∧ w.cell? ⟨b, off + k * 7 + 6, none⟩ = some (.bool x.lim) := by
  obtain ⟨b, off, e, hb, hc⟩ := h hp
  injection e with e
  refine ⟨b, off, e, hb, fun k hk x hx => ?_⟩
  have k7 : Itm.k Pk = 7 := rfl
  subst hx
  exact ⟨hc k 0 hk (by rw [k7]; omega), hc k 1 hk (by rw [k7]; omega), hc k 2 hk (by rw [k7]; omega), hc k 3 hk (by rw [k7]; omega), hc k 4 hk (by rw [k7]; omega), hc k 5 hk (by rw [k7]; omega), hc k 6 hk (by rw [k7]; omega)⟩
set_option maxHeartbeats 1000000 in
theorem Same_any (l : List Pk) (p q : Option Addr) (c d : Nat) (w : World) (hl : Its w p l) (hq : Its w q l) (hm : l.length ≤ 1000) :
    Calls Try.prog 35 #[.slice p l.length c, .slice q l.length d] w fun e w' => e = .returned (.bool true) ∧ Drawn w w' := by
  have HI := Lib.hid hl
  have HJ := Lib.hid hq
  clear hl hq
  go_enter Try.func35, Try.ntmps35
  go_wp2
  go_loopw [5] (fun i wr => ∃ k : Nat, i = .int .i64 (k : Int) ∧ k ≤ l.length ∧ Drawn w wr) (fun i _ => l.length - (intOf i).toNat)
  case atStart => exact ⟨0, rfl, Nat.zero_le _, Drawn.refl w⟩
  case round =>
    obtain ⟨k, rfl, hk, hd⟩ := hrel
    by_cases hlt : k < l.length
    · obtain ⟨ad, rfl, _⟩ := HI.out.cells (by omega)
      obtain ⟨ae, rfl, _⟩ := HJ.out.cells (by omega)
      obtain ⟨g, off, rfl, _, hc⟩ := its_pk (HI.out.keep (hd.below _)) (by omega)
      obtain ⟨g2, off2, rfl, _, hc2⟩ := its_pk (HJ.out.keep (hd.below _)) (by omega)
      obtain ⟨x, hx⟩ : ∃ x, x = l.getD k Itm.z := ⟨_, rfl⟩
      obtain ⟨a0, a1, a2, a3, a4, a5, a6⟩ := hc k hlt x hx
      obtain ⟨b0, b1, b2, b3, b4, b5, b6⟩ := hc2 k hlt x hx
      have i0 : (0 : Int) ≤ (k : Int) := by omega
      have i1 : (k : Int) < (l.length : Int) := by omega
      have HD := Lib.hid hd
      clear hc hc2 hx hd
      go_wp2
      go_quiet (fail)
      go_wp2
      go_roundw
      case rel => exact ⟨k + 1, by go_num, by omega, HD.out.more ⟨nq, rfl⟩⟩
      case measure => simp [intOf]; omega
    · obtain rfl : k = l.length := by omega
      have HD := Lib.hid hd
      clear hd
      go_wp2
      go_ret
      exact ⟨rfl, HD.out⟩
end Go.Proofs.Ytfpopbhbhdhdnaa

namespace Go.Proofs.Ytfpopbhbhdhdnaa
open Go.RowKit

structure RS8 where
  A : List Pk
  O : List Bool
  reorder : Nat
  top : Nat
  some : Bool
structure RS8.ok (r : RS8) : Prop where
  len : r.O.length = r.A.length
  pk : ∀ p ∈ r.A, p.ok
  num : ∀ i, i < r.A.length → (r.A.getD i Itm.z).n = i
  few : r.A.length ≤ 500
  reorder : r.reorder ≤ 18446744073709551615
  top : r.top ≤ 100000
/-- Those of whom a flag is set. -/
def sel (A : List Pk) (O : List Bool) : List Pk := ((A.zip O).filter (fun x => x.2)).map (·.1)
theorem zip_take {α β : Type} (k : Nat) : ∀ (A : List α) (B : List β), (A.zip B).take k = (A.take k).zip (B.take k) := by
  induction k with
  | zero => intro A B; simp
  | succ k ih =>
    intro A B
    cases A with
    | nil => simp
    | cons a A =>
      cases B with
      | nil => simp
      | cons b B => simp [ih]
theorem sel_take {A : List Pk} {O : List Bool} (h : O.length = A.length) {k : Nat} (hk : k < A.length) : sel (A.take (k + 1)) (O.take (k + 1)) = sel (A.take k) (O.take k) ++ (if O.getD k false then [A.getD k Itm.z] else []) := by
  unfold sel
  rw [← zip_take, ← zip_take, List.take_succ_eq_append_getElem (by rw [List.length_zip, h, Nat.min_self]; exact hk), List.filter_append, List.map_append]
  congr 1
  have e1 : O.getD k false = O[k] := by rw [List.getD_eq_getElem?_getD, List.getElem?_eq_getElem (by omega)]; rfl
  have e2 : A.getD k Itm.z = A[k] := by rw [List.getD_eq_getElem?_getD, List.getElem?_eq_getElem hk]; rfl
  rw [e1, e2, List.getElem_zip]
  cases O[k] <;> rfl
def rcells (r : RS8) (vL vO : Value) : Array Value := #[.int .u64 (r.reorder : Int), vL, vO, .int .u64 (r.top : Int), .bool r.some]
/-- A ledger of the document's in memory: at block b; its rows are its own, made after B. -/
structure RAt (w : World) (B b : Nat) (r : RS8) (vL vO : Value) : Prop where
  head : Blk w b 46 (rcells r vL vO)
  L : w.ownsRow B 41 7 vL r.A.length (pcs r.A)
  O : w.ownsRow B 4 1 vO r.O.length (r.O.map Value.bool)
  lo : B ≤ b
theorem RAt.keepX {w w' : World} {B b : Nat} {r : RS8} {vL vO : Value} (h : RAt w B b r vL vO) (k : ∀ x T cs, B ≤ x → Blk w x T cs → w'.heap[x]? = w.heap[x]?) : RAt w' B b r vL vO :=
  ⟨by unfold Blk; rw [k _ _ _ h.lo h.head]; exact h.head, own_same h.L fun g cs _ hB hb => k g _ cs hB hb, own_same h.O fun g cs _ hB hb => k g _ cs hB hb, h.lo⟩
theorem RAt.keep {w w' : World} {B b : Nat} {r : RS8} {vL vO : Value} (h : RAt w B b r vL vO) (k : Below w.heap.size w w') : RAt w' B b r vL vO := h.keepX fun x T cs _ hb => k.block x hb.lt
theorem RAt.pr {w : World} {B b : Nat} {r : RS8} {vL vO : Value} (h : RAt w B b r vL vO) : PR w vL r.A := own_zero h.L
theorem RAt.form {w : World} {B b : Nat} {r : RS8} {vL vO : Value} (h : RAt w B b r vL vO) : ∃ pL cL pO cO, vL = .slice pL r.A.length cL ∧ vO = .slice pO r.O.length cO := by
  obtain ⟨p, c, e⟩ := h.pr.form
  obtain ⟨q, d, e2⟩ := GR.form0 h.O
  exact ⟨p, c, q, d, e, e2⟩
/-- What lies at a place. -/
theorem RAt.at_ {w : World} {B b : Nat} {r : RS8} {pL pO : Option Addr} {nL cL nO cO : Nat} (h : RAt w B b r (.slice pL nL cL) (.slice pO nO cO)) (hr : r.ok) {k : Nat} (hk : k < r.A.length) :
    ∃ gL oL gO, pL = some ⟨gL, oL, none⟩ ∧ pO = some ⟨gO, 0, none⟩ ∧ w.cell? ⟨gO, k, none⟩ = some (.bool (r.O.getD k false)) ∧ ∀ x, x = r.A.getD k Itm.z →
    w.cell? ⟨gL, oL + k * 7, none⟩ = some (.int .u64 (x.n : Int)) ∧ w.cell? ⟨gL, oL + k * 7 + 1, none⟩ = some (.int .u64 (x.size : Int)) ∧ w.cell? ⟨gL, oL + k * 7 + 2, none⟩ = some (.int .u64 (x.sent : Int)) ∧ w.cell? ⟨gL, oL + k * 7 + 3, none⟩ = some (.int .u64 (x.first : Int)) ∧ w.cell? ⟨gL, oL + k * 7 + 4, none⟩ = some (.int .u64 (x.deliv : Int)) ∧ w.cell? ⟨gL, oL + k * 7 + 5, none⟩ = some (.int .u64 (x.at_ : Int)) ∧ w.cell? ⟨gL, oL + k * 7 + 6, none⟩ = some (.bool x.lim) := by
  obtain ⟨p, c, e⟩ := h.pr.form
  injection e with e1 e2 e3
  subst e1 e2 e3
  obtain ⟨ad, rfl, _⟩ := h.pr.its.cells (by omega)
  obtain ⟨gL, oL, rfl, _, hc⟩ := its_pk h.pr.its (by omega)
  have hl := hr.len
  obtain ⟨gO, cap, cs, e, _, _⟩ := GR.form (B := B) (G := r.O) h.O (by omega)
  injection e with e1 e2 e3
  subst e1 e2 e3
  have hx : r.O[k]? = some (r.O.getD k false) := by rw [List.getD_eq_getElem?_getD, List.getElem?_eq_getElem (by omega)]; rfl
  exact ⟨gL, oL, gO, rfl, rfl, GR.cell (G := r.O) h.O hx, fun x hx => hc k hk x hx⟩

set_option maxRecDepth 100000 in
set_option maxHeartbeats 2000000 in
theorem rall_any (B b : Nat) (r : RS8) (vL vO : Value) (w : World) (h : RAt w B b r vL vO) (hr : r.ok) :
    Calls Try.prog 37 #[.pointer (some ⟨b, 0, none⟩)] w fun e w' => ∃ v, e = .returned v ∧ PR w' v (sel r.A r.O) ∧ (∀ k, v.ownBlock = some k → w.heap.size ≤ k) ∧ Below w.heap.size w w' := by
  obtain ⟨pL, cL, pO, cO, rfl, rfl⟩ := h.form
  have HH := Lib.hid h
  have HR := Lib.hid hr
  have hf := hr.few
  have hln := hr.len
  have HPi := Lib.hid pk_info
  obtain ⟨i0, hi, hz0, hz1, hz2⟩ := info_parts pk_info
  have HI := Lib.hid hi
  have HZ0 := Lib.hid hz0
  have HZ1 := Lib.hid hz1
  have HZ2 := Lib.hid hz2
  clear h hr hi hz0 hz1 hz2 HPi
  go_enter Try.func37, Try.ntmps37
  go_wp2
  go_loopw [3, 4] (fun v i wr => ∃ k : Nat, i = .int .i64 (k : Int) ∧ k ≤ r.A.length ∧ Below w.heap.size w wr ∧ wr.ownsRow w.heap.size 41 7 v (sel (r.A.take k) (r.O.take k)).length (pcs (sel (r.A.take k) (r.O.take k)))) (fun _ i _ => r.A.length - (intOf i).toNat)
  case atStart => exact ⟨0, rfl, Nat.zero_le _, Below.refl _ _, World.ownsRow_nil _ _ _ _⟩
  case round =>
    obtain ⟨k, rfl, hk, hb, hv⟩ := hrel
    have HB := Lib.hid hb
    have HV := Lib.hid hv
    have h2 : RAt wr B b r (.slice pL r.A.length cL) (.slice pO r.O.length cO) := HH.out.keep hb
    have c1 : wr.cell? ⟨b, 1, none⟩ = some (.slice pL r.A.length cL) := h2.head.cell (i := 1) rfl
    have c2 : wr.cell? ⟨b, 2, none⟩ = some (.slice pO r.O.length cO) := h2.head.cell (i := 2) rfl
    clear hb hv
    by_cases hlt : k < r.A.length
    · obtain ⟨gL, oL, gO, rfl, rfl, co, hc⟩ := h2.at_ HR.out hlt
      obtain ⟨x, hx⟩ : ∃ x, x = r.A.getD k Itm.z := ⟨_, rfl⟩
      obtain ⟨a0, a1, a2, a3, a4, a5, a6⟩ := hc x hx
      have HS := Lib.hid (sel_take HR.out.len hlt)
      have HL : Hid ((sel (r.A.take k) (r.O.take k)).length ≤ 500) := Lib.hid (by
        unfold sel
        rw [List.length_map]
        refine Nat.le_trans (List.length_filter_le _ _) ?_
        rw [List.length_zip, List.length_take]
        omega)
      rw [← hx] at HS
      have i0' : (0 : Int) ≤ (k : Int) := by omega
      have i1 : (k : Int) < (r.A.length : Int) := by omega
      have i2 : (k : Int) < (r.O.length : Int) := by omega
      clear hc hx h2 HH HR
      cases ho : r.O.getD k false
      · rw [ho] at co HS
        have HS2 : Hid (sel (r.A.take (k + 1)) (r.O.take (k + 1)) = sel (r.A.take k) (r.O.take k)) := Lib.hid (by rw [HS.out]; simp)
        clear ho HS
        go_wp2
        go_roundw
        case rel => exact ⟨k + 1, by go_num, by omega, HB.out, by rw [HS2.out]; exact HV.out⟩
        case measure => simp [intOf]; omega
      · rw [ho] at co HS
        have HS2 : Hid (sel (r.A.take (k + 1)) (r.O.take (k + 1)) = sel (r.A.take k) (r.O.take k) ++ [x]) := Lib.hid (by rw [HS.out]; simp)
        clear ho HS
        obtain ⟨p3, c3, rfl⟩ := PR.form (own_zero HV.out : PR wr u3 _)
        have HVa : Hid ((wr.alloc (.cells #[.int .u64 (x.n : Int), .int .u64 (x.size : Int), .int .u64 (x.sent : Int), .int .u64 (x.first : Int), .int .u64 (x.deliv : Int), .int .u64 (x.at_ : Int), .bool x.lim] 41)).ownsRow w.heap.size 41 7 (.slice p3 (sel (r.A.take k) (r.O.take k)).length c3) (sel (r.A.take k) (r.O.take k)).length (pcs (sel (r.A.take k) (r.O.take k)))) := Lib.hid (own_same HV.out fun z cs _ _ hb => Below.heap_alloc _ _ _ hb.lt)
        have HNw : Hid (∀ j u, ([.int .u64 (x.n : Int), .int .u64 (x.size : Int), .int .u64 (x.sent : Int), .int .u64 (x.first : Int), .int .u64 (x.deliv : Int), .int .u64 (x.at_ : Int), .bool x.lim] : List Value)[j]? = some u → (wr.alloc (.cells #[.int .u64 (x.n : Int), .int .u64 (x.size : Int), .int .u64 (x.sent : Int), .int .u64 (x.first : Int), .int .u64 (x.deliv : Int), .int .u64 (x.at_ : Int), .bool x.lim] 41)).cell? ((⟨wr.heap.size, 0, none⟩ : Addr).add j) = some u) := Lib.hid (fun j u hu => by
          have hbk := Blk.new wr 41 #[.int .u64 (x.n : Int), .int .u64 (x.size : Int), .int .u64 (x.sent : Int), .int .u64 (x.first : Int), .int .u64 (x.deliv : Int), .int .u64 (x.at_ : Int), .bool x.lim]
          rw [Go.WideShapes.add_plain, Nat.zero_add]
          exact hbk.cell (by simpa using hu))
        have HBs := Lib.hid HB.out.size
        have HOne : Hid (∀ u ∈ ([.int .u64 (x.n : Int), .int .u64 (x.size : Int), .int .u64 (x.sent : Int), .int .u64 (x.first : Int), .int .u64 (x.deliv : Int), .int .u64 (x.at_ : Int), .bool x.lim] : List Value), u.oneCell' = true) := Lib.hid (Itm.one x)
        generalize hsl : sel (r.A.take k) (r.O.take k) = sl at *
        have HSl := Lib.hid hsl
        clear hsl
        go_wp2_with (at_builtin; (refine wpList_append_own_at _ rfl _ _ 29 rfl w.heap.size 41 i0 (.agg #[.int .u64 0, .int .u64 0, .int .u64 0, .int .u64 0, .int .u64 0, .int .u64 0, .bool false]) 7 56 Try.underlying29 HI.out HZ0.out HZ1.out HZ2.out rfl (by decide) (.slice p3 sl.length c3) sl.length (pcs sl) rfl HVa.out ⟨wr.heap.size, 0, none⟩ 1 1 [.int .u64 (x.n : Int), .int .u64 (x.size : Int), .int .u64 (x.sent : Int), .int .u64 (x.first : Int), .int .u64 (x.deliv : Int), .int .u64 (x.at_ : Int), .bool x.lim] rfl rfl HNw.out HOne.out (by unfold maxLen; have := HL.out; omega) (by have := HL.out; omega) (by have := HBs.out; simp; omega) ?_); intro v' w5 hown hgr hnil hat; have H5 := Lib.hid hown; have G5 := Lib.hid hgr; clear hown hgr hnil hat)
        go_wp2
        go_roundw
        case rel =>
          refine ⟨k + 1, by go_num, by omega, (HB.out.alloc HB.out.size _).grown G5.out (HB.out.alloc HB.out.size _).size (fun g e => (own_ge HVa.out e).1), ?_⟩
          rw [HS2.out, List.length_append]
          have e : pcs (sl ++ [x]) = pcs sl ++ Itm.cs x := by unfold pcs; rw [List.flatMap_append]; simp
          rw [e]
          exact H5.out
        case measure => simp [intOf]; omega
    · obtain rfl : k = r.A.length := by omega
      have HV2 : Hid (wr.ownsRow w.heap.size 41 7 u3 (sel r.A r.O).length (pcs (sel r.A r.O))) := Lib.hid (by
        have := HV.out
        rw [List.take_length, List.take_of_length_le (by omega)] at this
        exact this)
      clear HV h2
      go_wp2
      go_ret
      exact ⟨_, rfl, own_zero HV2.out, fun g e => (own_ge HV2.out e).1, HB.out⟩
end Go.Proofs.Ytfpopbhbhdhdnaa

namespace Go.Proofs.Ytfpopbhbhdhdnaa
open Go.RowKit

theorem infl_add (T c : Nat) (hc : c ≤ 18446744073709551615) : Pl.addS (infl T) c = infl (T + c) := by
  unfold Pl.addS infl
  rw [M64_eq]
  split <;> split <;> omega
theorem infl_le (T : Nat) : infl T ≤ 18446744073709551615 := by
  unfold infl
  rw [M64_eq]
  split <;> omega
set_option maxHeartbeats 2000000 in
theorem rinfl_any (B b : Nat) (r : RS8) (vL vO : Value) (w : World) (h : RAt w B b r vL vO) (hr : r.ok) :
    Calls Try.prog 38 #[.pointer (some ⟨b, 0, none⟩)] w fun e w' => e = .returned (.int .u64 ((infl (totP (sel r.A r.O)) : Nat) : Int)) ∧ w' = w := by
  obtain ⟨pL, cL, pO, cO, rfl, rfl⟩ := h.form
  have HH := Lib.hid h
  have HR := Lib.hid hr
  have hln := hr.len
  have c1 : w.cell? ⟨b, 1, none⟩ = some (.slice pL r.A.length cL) := h.head.cell (i := 1) rfl
  have c2 : w.cell? ⟨b, 2, none⟩ = some (.slice pO r.O.length cO) := h.head.cell (i := 2) rfl
  have hf := hr.few
  clear h hr
  go_enter Try.func38, Try.ntmps38
  go_wp2
  go_loop [3, 4] (fun v i => ∃ k t : Nat, i = .int .i64 (k : Int) ∧ k ≤ r.A.length ∧ v = .int .u64 (t : Int) ∧ Hid (t = infl (totP (sel (r.A.take k) (r.O.take k))))) (fun _ i => r.A.length - (intOf i).toNat)
  case atStart => exact ⟨0, 0, rfl, Nat.zero_le _, rfl, Lib.hid rfl⟩
  case round =>
    obtain ⟨k, t, rfl, hk, rfl, HT⟩ := hrel
    by_cases hlt : k < r.A.length
    · obtain ⟨gL, oL, gO, rfl, rfl, co, hc⟩ := HH.out.at_ HR.out hlt
      obtain ⟨x, hx⟩ : ∃ x, x = r.A.getD k Itm.z := ⟨_, rfl⟩
      obtain ⟨a0, a1, _⟩ := hc x hx
      have HS := Lib.hid (sel_take HR.out.len hlt)
      rw [← hx] at HS
      have hxs : x.size ≤ 18446744073709551615 := (HR.out.pk x (by rw [hx]; simp [List.getD_eq_getElem?_getD, hlt])).size
      have i0' : (0 : Int) ≤ (k : Int) := by omega
      have i1 : (k : Int) < (r.A.length : Int) := by omega
      have i2 : (k : Int) < (r.O.length : Int) := by omega
      clear hc hx
      cases ho : r.O.getD k false
      · rw [ho] at co HS
        have HS2 : Hid (t = infl (totP (sel (r.A.take (k + 1)) (r.O.take (k + 1))))) := Lib.hid (by rw [HS.out, HT.out]; simp)
        clear ho HS HT
        go_wp2
        go_round
        case rel => exact ⟨k + 1, t, by go_num, by omega, rfl, HS2⟩
        case measure => simp [intOf]; omega
      · rw [ho] at co HS
        have HS2 : Hid (Pl.addS t x.size = infl (totP (sel (r.A.take (k + 1)) (r.O.take (k + 1))))) := Lib.hid (by
          rw [HS.out, HT.out, infl_add _ _ hxs]
          simp [totP_append, totP_cons, totP_nil])
        have HA := Lib.hid (ref_Add t x.size w (by rw [HT.out]; exact infl_le _) hxs)
        clear ho HS HT
        generalize Pl.addS t x.size = t2 at *
        go_wp2_with (go_at_call 60; (refine (HA.out).mono ?_); rintro e w2 ⟨rfl, rfl⟩)
        go_round
        case rel => exact ⟨k + 1, t2, by go_num, by omega, rfl, HS2⟩
        case measure => simp [intOf]; omega
    · obtain rfl : k = r.A.length := by omega
      have HT2 : Hid (t = infl (totP (sel r.A r.O))) := Lib.hid (by
        have := HT.out
        rwa [List.take_length, List.take_of_length_le (by omega)] at this)
      clear HT
      go_wp2
      go_ret
      exact ⟨by rw [← HT2.out]; rfl, rfl⟩

/-- Whether a packet that is out is lost, as the document says. -/
def lostR (r : RS8) (now delay limit : Nat) (p : Pk) : Bool := decide (Pl.addS p.sent limit ≤ now) || (r.some && (decide (Pl.addS p.n r.reorder ≤ r.top) || (decide (p.n < r.top) && decide (Pl.addS p.sent delay ≤ now))))
theorem lostR_eq {r : RS8} {s : LS} (h1 : s.topped = r.some) (h2 : s.top = r.top) (h3 : s.reorder = r.reorder) (h4 : s.ok) (now delay limit : Nat) (p : Pk) : lostR r now delay limit p = lostB s now delay limit p := by
  unfold lostR lostB overB passB
  rw [h1, h2, h3]
  cases hs : r.some
  · have := h4.un (by rw [h1, hs])
    rw [h2] at this
    simp [this]
  · simp [Bool.or_comm, Bool.or_assoc]
set_option maxRecDepth 100000 in
set_option maxHeartbeats 4000000 in
theorem rlost_any (B b : Nat) (r : RS8) (vL vO : Value) (w : World) (h : RAt w B b r vL vO) (hr : r.ok) (p : Pk) (hp : p.ok) (now delay limit : Nat) (hdl : delay ≤ 18446744073709551615) (hlm : limit ≤ 18446744073709551615) :
    Calls Try.prog 59 #[.pointer (some ⟨b, 0, none⟩), .agg #[.int .u64 (p.n : Int), .int .u64 (p.size : Int), .int .u64 (p.sent : Int), .int .u64 (p.first : Int), .int .u64 (p.deliv : Int), .int .u64 (p.at_ : Int), .bool p.lim], .int .u64 (now : Int), .int .u64 (delay : Int), .int .u64 (limit : Int)] w fun e w' => e = .returned (.bool (lostR r now delay limit p)) ∧ Below w.heap.size w w' := by
  have HH := Lib.hid (h.keep ((Below.refl w.heap.size w).alloc (Nat.le_refl _) (.cells #[.int .u64 (p.n : Int), .int .u64 (p.size : Int), .int .u64 (p.sent : Int), .int .u64 (p.first : Int), .int .u64 (p.deliv : Int), .int .u64 (p.at_ : Int), .bool p.lim] 41)))
  have HB : Hid (Below w.heap.size w (w.alloc (.cells #[.int .u64 (p.n : Int), .int .u64 (p.size : Int), .int .u64 (p.sent : Int), .int .u64 (p.first : Int), .int .u64 (p.deliv : Int), .int .u64 (p.at_ : Int), .bool p.lim] 41))) := Lib.hid ((Below.refl _ _).alloc (Nat.le_refl _) _)
  have HN : Hid (Blk (w.alloc (.cells #[.int .u64 (p.n : Int), .int .u64 (p.size : Int), .int .u64 (p.sent : Int), .int .u64 (p.first : Int), .int .u64 (p.deliv : Int), .int .u64 (p.at_ : Int), .bool p.lim] 41)) w.heap.size 41 #[.int .u64 (p.n : Int), .int .u64 (p.size : Int), .int .u64 (p.sent : Int), .int .u64 (p.first : Int), .int .u64 (p.deliv : Int), .int .u64 (p.at_ : Int), .bool p.lim]) := Lib.hid (Blk.new _ _ _)
  have A1 := Lib.hid (fun W => ref_Add p.sent limit W hp.sent hlm)
  have A2 := Lib.hid (fun W => (ref_Add p.n r.reorder W (by have := hp.n; omega) hr.reorder).mono fun e w' k => (⟨k.1, k.2.symm⟩ : e = _ ∧ w' = W))
  have A3 := Lib.hid (fun W => (ref_Add p.sent delay W hp.sent hdl).mono fun e w' k => (⟨k.1, k.2.symm⟩ : e = _ ∧ w' = W))
  have HE : Hid (lostR r now delay limit p = (decide (Pl.addS p.sent limit ≤ now) || (r.some && (decide (Pl.addS p.n r.reorder ≤ r.top) || (decide (p.n < r.top) && decide (Pl.addS p.sent delay ≤ now)))))) := Lib.hid rfl
  clear h hr hp hdl hlm
  generalize Pl.addS p.sent limit = x1 at *
  generalize Pl.addS p.n r.reorder = x2 at *
  generalize Pl.addS p.sent delay = x3 at *
  generalize lostR r now delay limit p = ans at *
  go_enter Try.func59, Try.ntmps59
  go_wp2_with fail
  generalize (w.alloc (.cells #[.int .u64 (p.n : Int), .int .u64 (p.size : Int), .int .u64 (p.sent : Int), .int .u64 (p.first : Int), .int .u64 (p.deliv : Int), .int .u64 (p.at_ : Int), .bool p.lim] 41)) = w1 at *
  refine (A1.out w1).mono ?_
  rintro e w2 ⟨rfl, rfl⟩
  clear A1
  by_cases h1 : x1 ≤ now
  · have d1 : decide (x1 ≤ now) = true := by simpa using h1
    have HE1 : Hid (ans = true) := Lib.hid (by rw [HE.out]; simp [h1])
    clear HE
    go_wp2
    go_ret
    exact ⟨by rw [HE1.out]; rfl, HB.out⟩
  · have d1 : decide (x1 ≤ now) = false := by simpa using h1
    have c4 : w1.cell? ⟨b, 4, none⟩ = some (.bool r.some) := HH.out.head.cell (i := 4) rfl
    have c3 : w1.cell? ⟨b, 3, none⟩ = some (.int .u64 (r.top : Int)) := HH.out.head.cell (i := 3) rfl
    have c0 : w1.cell? ⟨b, 0, none⟩ = some (.int .u64 (r.reorder : Int)) := HH.out.head.cell (i := 0) rfl
    have q0 : w1.cell? ⟨w.heap.size, 0, none⟩ = some (.int .u64 (p.n : Int)) := HN.out.cell (i := 0) rfl
    have q2 : w1.cell? ⟨w.heap.size, 2, none⟩ = some (.int .u64 (p.sent : Int)) := HN.out.cell (i := 2) rfl
    have e1 : decide (x1 ≤ now) = false := by simpa using h1
    have HE1 : Hid (ans = (r.some && (decide (x2 ≤ r.top) || (decide (p.n < r.top) && decide (x3 ≤ now))))) := Lib.hid (by rw [HE.out, e1]; simp)
    clear HE e1 h1 HH HN
    cases hs : r.some
    · rw [hs] at c4 HE1
      have HE2 : Hid (ans = false) := Lib.hid (by rw [HE1.out]; simp)
      clear HE1 hs
      go_wp2
      go_ret
      exact ⟨by rw [HE2.out]; rfl, HB.out⟩
    · rw [hs] at c4 HE1
      clear hs
      by_cases h2 : x2 ≤ r.top
      · have d2 : decide (x2 ≤ r.top) = true := by simpa using h2
        have HE2 : Hid (ans = true) := Lib.hid (by rw [HE1.out]; simp [h2])
        clear HE1 h2
        go_wp2
        go_quiet (first | (go_at_call 60; exact Calls.quiet_of_same (A2.out _)))
        go_wp2
        go_ret
        exact ⟨by rw [HE2.out]; rfl, HB.out.trans (Drawn.below ⟨nq, rfl⟩ _)⟩
      · have d2 : decide (x2 ≤ r.top) = false := by simpa using h2
        have e2 : decide (x2 ≤ r.top) = false := by simpa using h2
        have HE2 : Hid (ans = (decide (p.n < r.top) && decide (x3 ≤ now))) := Lib.hid (by rw [HE1.out, e2]; simp)
        clear HE1 h2 e2
        by_cases h3 : p.n < r.top
        · have d3 : decide (p.n < r.top) = true := by simpa using h3
          have HE3 : Hid (ans = decide (x3 ≤ now)) := Lib.hid (by rw [HE2.out]; simp [h3])
          clear HE2 h3
          go_wp2
          go_quiet (first | (go_at_call 60; with_reducible exact Calls.quiet_of_same (A2.out _)) | (go_at_call 60; with_reducible exact Calls.quiet_of_same (A3.out _)))
          go_wp2
          go_ret
          exact ⟨by rw [HE3.out]; rfl, HB.out.trans (Drawn.below ⟨nq, rfl⟩ _)⟩
        · have d3 : decide (p.n < r.top) = false := by simpa using h3
          have HE3 : Hid (ans = false) := Lib.hid (by rw [HE2.out]; simp [h3])
          clear HE2 h3
          go_wp2
          go_quiet (first | (go_at_call 60; exact Calls.quiet_of_same (A2.out _)))
          go_wp2
          go_ret
          exact ⟨by rw [HE3.out]; rfl, HB.out.trans (Drawn.below ⟨nq, rfl⟩ _)⟩
end Go.Proofs.Ytfpopbhbhdhdnaa

namespace Go.Proofs.Ytfpopbhbhdhdnaa
open Go.RowKit

/-- The flags, with those of the first k that f tells struck. -/
def strike (f : Pk → Bool) (A : List Pk) (O : List Bool) : List Bool := (A.zip O).map fun x => x.2 && !f x.1
theorem strike_len (f : Pk → Bool) {A : List Pk} {O : List Bool} (h : O.length = A.length) : (strike f A O).length = O.length := by
  unfold strike; rw [List.length_map, List.length_zip, h, Nat.min_self]
theorem sel_strike (f : Pk → Bool) (A : List Pk) (O : List Bool) : sel A (strike f A O) = (sel A O).filter fun p => !f p := by
  unfold sel strike
  induction A generalizing O with
  | nil => rfl
  | cons a A ih =>
    cases O with
    | nil => simp
    | cons o O =>
      have := ih O
      cases o <;> cases hf : f a <;> simp_all
theorem sel_mem {A : List Pk} {O : List Bool} {p : Pk} (h : p ∈ sel A O) : p ∈ A := by
  unfold sel at h
  obtain ⟨x, hx, rfl⟩ := List.mem_map.1 h
  exact (List.of_mem_zip (List.mem_filter.1 hx).1).1
/-- What one of these methods leaves, k packets having been gone through. -/
structure Stk (f : Pk → Bool) (r : RS8) (k : Nat) (O : List Bool) (out : List Pk) : Prop where
  O : O = strike f (r.A.take k) (r.O.take k) ++ r.O.drop k
  out : out = (sel (r.A.take k) (r.O.take k)).filter f
theorem strike_take (f : Pk → Bool) {A : List Pk} {O : List Bool} (h : O.length = A.length) {k : Nat} (hk : k < A.length) :
    strike f (A.take (k + 1)) (O.take (k + 1)) = strike f (A.take k) (O.take k) ++ [O.getD k false && !f (A.getD k Itm.z)] := by
  unfold strike
  rw [← zip_take, ← zip_take, List.take_succ_eq_append_getElem (by rw [List.length_zip, h, Nat.min_self]; exact hk), List.map_append]
  congr 1
  have e1 : O.getD k false = O[k] := by rw [List.getD_eq_getElem?_getD, List.getElem?_eq_getElem (by omega)]; rfl
  have e2 : A.getD k Itm.z = A[k] := by rw [List.getD_eq_getElem?_getD, List.getElem?_eq_getElem hk]; rfl
  rw [e1, e2]
  simp
theorem Stk.zero (f : Pk → Bool) (r : RS8) : Stk f r 0 r.O [] := ⟨by simp [strike], by simp [sel]⟩
theorem Stk.at_ {f : Pk → Bool} {r : RS8} {k : Nat} {O : List Bool} {out : List Pk} (h : Stk f r k O out) (hr : r.ok) (hk : k < r.A.length) : O.getD k false = r.O.getD k false ∧ O.length = r.O.length := by
  have hl := hr.len
  have h1 : (strike f (r.A.take k) (r.O.take k)).length = k := by rw [strike_len f (by rw [List.length_take, List.length_take, hl])]; rw [List.length_take]; omega
  constructor
  · rw [h.O, List.getD_eq_getElem?_getD, List.getElem?_append_right (by omega), h1, Nat.sub_self, List.getElem?_drop, List.getD_eq_getElem?_getD, Nat.add_zero]
  · rw [h.O, List.length_append, h1, List.length_drop]; omega
/-- One that stays as it is: it was not out, or is not told. -/
theorem Stk.stay {f : Pk → Bool} {r : RS8} {k : Nat} {O : List Bool} {out : List Pk} (h : Stk f r k O out) (hr : r.ok) (hk : k < r.A.length) (hx : (r.O.getD k false && f (r.A.getD k Itm.z)) = false) : Stk f r (k + 1) O out := by
  have hl := hr.len
  have hd : r.O.drop k = r.O.getD k false :: r.O.drop (k + 1) := by
    rw [List.drop_eq_getElem_cons (by omega), List.getD_eq_getElem?_getD, List.getElem?_eq_getElem (by omega)]; rfl
  refine ⟨?_, ?_⟩
  · rw [h.O, strike_take f hl hk, hd, List.append_assoc]
    congr 1
    cases ho : r.O.getD k false <;> cases hf : f (r.A.getD k Itm.z) <;> simp_all
  · rw [h.out, sel_take hl hk, List.filter_append]
    cases ho : r.O.getD k false <;> cases hf : f (r.A.getD k Itm.z) <;> simp_all
theorem Stk.hit {f : Pk → Bool} {r : RS8} {k : Nat} {O : List Bool} {out : List Pk} (h : Stk f r k O out) (hr : r.ok) (hk : k < r.A.length) (ho : r.O.getD k false = true) (hf : f (r.A.getD k Itm.z) = true) : Stk f r (k + 1) (O.set k false) (out ++ [r.A.getD k Itm.z]) := by
  have hl := hr.len
  have h1 : (strike f (r.A.take k) (r.O.take k)).length = k := by rw [strike_len f (by rw [List.length_take, List.length_take, hl])]; rw [List.length_take]; omega
  have hd : r.O.drop k = r.O.getD k false :: r.O.drop (k + 1) := by
    rw [List.drop_eq_getElem_cons (by omega), List.getD_eq_getElem?_getD, List.getElem?_eq_getElem (by omega)]; rfl
  refine ⟨?_, ?_⟩
  · rw [h.O, strike_take f hl hk, hd, List.set_append_right _ _ (by omega), h1, Nat.sub_self, List.set_cons_zero, List.append_assoc, ho, hf]
    rfl
  · rw [h.out, sel_take hl hk, List.filter_append, ho]
    simp only [if_true]
    rw [List.filter_cons, if_pos hf, List.filter_nil]
theorem Stk.done {f : Pk → Bool} {r : RS8} {O : List Bool} {out : List Pk} (h : Stk f r r.A.length O out) (hr : r.ok) : sel r.A O = (sel r.A r.O).filter (fun p => !f p) ∧ out = (sel r.A r.O).filter f ∧ O.length = r.A.length := by
  have hl := hr.len
  have h1 := h.O
  have h2 := h.out
  rw [List.take_length, List.take_of_length_le (by omega)] at h1 h2
  rw [List.drop_eq_nil_of_le (by omega), List.append_nil] at h1
  refine ⟨by rw [h1, sel_strike], h2, by rw [h1, strike_len f hl, hl]⟩

/-- A flag is struck in memory. -/
theorem GR.setB {w : World} {B g cap : Nat} {G : List Bool} (h : GR w B (.slice (some ⟨g, 0, none⟩) G.length cap) G) (j : Nat) (c : Bool) : GR (w.setCell ⟨g, j, none⟩ (.bool c)) B (.slice (some ⟨g, 0, none⟩) G.length cap) (G.set j c) := by
  rcases h.2 with ⟨e, _⟩ | ⟨g', cap', cur, e, hb, hg, h1, h2, h3, h4⟩
  · cases e
  · injection e with e1 e2 e3
    injection e1 with e1
    injection e1 with e1
    subst e1 e3
    refine ⟨by simp, .inr ⟨g, cap, cur.setIfInBounds j (.bool c), by rw [List.length_set], hb, Blk.set hg j _, by simpa using h1, h2, by simpa using h3, ?_⟩⟩
    rw [List.length_set, Array.toList_setIfInBounds, List.take_set, h4, List.map_set]
end Go.Proofs.Ytfpopbhbhdhdnaa

namespace Go.Proofs.Ytfpopbhbhdhdnaa
open Go.RowKit

/-- All blocks but those of the document's own types are as they were. -/
def KeepR (w w' : World) : Prop := ∀ z T cs, Blk w z T cs → T ≠ 46 → T ≠ 41 → T ≠ 4 → w'.heap[z]? = w.heap[z]?
theorem KeepR.refl (w : World) : KeepR w w := fun z T cs _ _ _ _ => rfl
theorem KeepR.trans {a b c : World} (h : KeepR a b) (k : KeepR b c) : KeepR a c := fun z T cs hz h1 h2 h3 => by
  have e := h z T cs hz h1 h2 h3
  exact (k z T cs (by unfold Blk; rw [e]; exact hz) h1 h2 h3).trans e
theorem KeepR.of_below {a b : World} (h : Below a.heap.size a b) : KeepR a b := fun z T cs hz _ _ _ => h.block z hz.lt
theorem KeepR.set {a : World} {g j : Nat} {v : Value} {T0 : TypeId} {cs0 : Array Value} (h : Blk a g T0 cs0) (hT : T0 = 46 ∨ T0 = 41 ∨ T0 = 4) : KeepR a (a.setCell ⟨g, j, none⟩ v) := fun z T cs hz h1 h2 h3 => by
  refine Below.heap_setCell _ _ _ _ (hz.ty h ?_)
  rcases hT with rfl | rfl | rfl
  · exact h1
  · exact h2
  · exact h3
theorem KeepR.grown {a b : World} {row : Option Nat} (hg : a.grownBy b row) (h : ∀ z, row = some z → ∃ T0 cs0, Blk a z T0 cs0 ∧ (T0 = 46 ∨ T0 = 41 ∨ T0 = 4)) : KeepR a b := fun z T cs hz h1 h2 h3 => by
  refine hg.block z hz.lt (fun e => ?_)
  obtain ⟨T0, cs0, hb, hT⟩ := h z e.symm
  rcases hT with rfl | rfl | rfl
  · exact hz.ty hb h1 rfl
  · exact hz.ty hb h2 rfl
  · exact hz.ty hb h3 rfl
/-- The same of those that were there at first, rows of packets with them. -/
def KeepQ (w w' : World) : Prop := w.heap.size ≤ w'.heap.size ∧ ∀ z T cs, Blk w z T cs → T ≠ 46 → T ≠ 4 → w'.heap[z]? = w.heap[z]?
theorem KeepQ.refl (w : World) : KeepQ w w := ⟨Nat.le_refl _, fun z T cs _ _ _ => rfl⟩
theorem KeepQ.kr {a b : World} (h : KeepQ a b) : KeepR a b := fun z T cs hz h1 _ h3 => h.2 z T cs hz h1 h3
theorem KeepQ.below {w a b : World} (h : KeepQ w a) (k : Below a.heap.size a b) : KeepQ w b := ⟨Nat.le_trans h.1 k.size, fun z T cs hz h1 h2 => (k.block z (Nat.lt_of_lt_of_le hz.lt h.1)).trans (h.2 z T cs hz h1 h2)⟩
theorem KeepQ.set {w a : World} {g j : Nat} {v : Value} {T0 : TypeId} {cs0 : Array Value} (h : KeepQ w a) (hb : Blk a g T0 cs0) (hT : T0 = 46 ∨ T0 = 4) : KeepQ w (a.setCell ⟨g, j, none⟩ v) := ⟨by have := h.1; simp [World.setCell]; omega, fun z T cs hz h1 h2 => by
  have e := h.2 z T cs hz h1 h2
  have hz' : Blk a z T cs := by unfold Blk; rw [e]; exact hz
  refine (Below.heap_setCell _ _ _ _ (hz'.ty hb ?_)).trans e
  rcases hT with rfl | rfl
  · exact h1
  · exact h2⟩
theorem KeepQ.grown {w a b : World} {row : Option Nat} (h : KeepQ w a) (hg : a.grownBy b row) (hr : ∀ z, row = some z → w.heap.size ≤ z) : KeepQ w b := ⟨Nat.le_trans h.1 hg.size, fun z T cs hz h1 h2 => (hg.block z (Nat.lt_of_lt_of_le hz.lt h.1) (fun e => by have := hr z e.symm; have := hz.lt; omega)).trans (h.2 z T cs hz h1 h2)⟩
theorem RAt.hit {w : World} {B b g nO cO : Nat} {r : RS8} {vL : Value} (h : RAt w B b r vL (.slice (some ⟨g, 0, none⟩) nO cO)) (hp : 0 < r.O.length) (k : Nat) :
    RAt (w.setCell ⟨g, k, none⟩ (.bool false)) B b { r with O := r.O.set k false } vL (.slice (some ⟨g, 0, none⟩) nO cO) ∧ Fr w (w.setCell ⟨g, k, none⟩ (.bool false)) [g] ∧ B ≤ g ∧ (∃ cs, Blk w g 4 cs) ∧ (∀ j, w.frozen? ⟨g, j, none⟩ = false) := by
  obtain ⟨g', cap, cs, e, hB, hb⟩ := GR.form (G := r.O) h.O hp
  injection e with e1 e2 e3
  injection e1 with e1
  injection e1 with e1
  subst e1 e2 e3
  have ho : ∀ {z T cs}, Blk w z T cs → T ≠ 4 → (w.setCell ⟨g, k, none⟩ (.bool false)).heap[z]? = w.heap[z]? := fun {z T cs} hz hT => Below.heap_setCell _ _ _ _ (hz.ty hb hT)
  refine ⟨⟨?_, own_same h.L fun z cs _ _ hz => ho hz (by decide), ?_, h.lo⟩, (Fr.refl w [g]).set (c := g) (.inl (by simp)) k _, hB, ⟨_, hb⟩, fun j => hb.free j⟩
  · unfold Blk
    rw [ho h.head (by decide)]
    exact h.head
  · have := GR.setB (G := r.O) h.O k false
    unfold GR at this
    exact this
theorem PR.hit {w : World} {g k : Nat} {cs : Array Value} {c : Bool} {n B : Nat} {v : Value} {xs : List Value} (h : w.ownsRow B 41 7 v n xs) (hb : Blk w g 4 cs) : (w.setCell ⟨g, k, none⟩ (.bool c)).ownsRow B 41 7 v n xs :=
  own_same h fun z cs _ _ hz => Below.heap_setCell _ _ _ _ (hz.ty hb (by decide))
theorem RAt.grown {W W' : World} {B b : Nat} {r : RS8} {vL vO : Value} {row : Option Nat} {B1 : Nat} (h : RAt W B b r vL vO) (hg : W.grownBy W' row) (hrow : ∀ z, row = some z → B1 ≤ z ∧ ∃ cs, Blk W z 41 cs ∧ vL.ownBlock ≠ some z) : RAt W' B b r vL vO := by
  refine ⟨h.head.grown hg (fun e => ?_), own_same h.L fun g cs e _ hb => hg.block g hb.lt (fun e2 => ?_), own_same h.O fun g cs e _ hb => hg.block g hb.lt (fun e2 => ?_), h.lo⟩
  · obtain ⟨_, cs, hc, _⟩ := hrow b e.symm
    exact h.head.ty hc (by decide) rfl
  · obtain ⟨_, cs, hc, hn⟩ := hrow g e2.symm
    exact hn e
  · obtain ⟨_, cs, hc, _⟩ := hrow g e2.symm
    exact hb.ty hc (by decide) rfl
/-- What Ack, Lost leave. -/
structure RTook (w : World) (B b : Nat) (r : RS8) (f : Pk → Bool) (vL vO : Value) (R : Value → Ending → Prop) (top : Nat) (sm : Bool) (e : Ending) (w' : World) : Prop where
  e : ∃ v, R v e ∧ PR w' v ((sel r.A r.O).filter f) ∧ ∀ k, v.ownBlock = some k → w.heap.size ≤ k
  at_ : ∃ O, RAt w' B b { r with O := O, top := top, some := sm } vL vO ∧ sel r.A O = (sel r.A r.O).filter (fun p => !f p) ∧ O.length = r.A.length
  bel : Below B w w'
  kr : KeepQ w w'

set_option maxRecDepth 100000 in
set_option maxHeartbeats 4000000 in
theorem rLost_any (B b : Nat) (r : RS8) (vL vO : Value) (w : World) (h : RAt w B b r vL vO) (hr : r.ok) (hBw : B ≤ w.heap.size) (now delay limit : Nat) (hdl : delay ≤ 18446744073709551615) (hlm : limit ≤ 18446744073709551615) :
    Calls Try.prog 36 #[.pointer (some ⟨b, 0, none⟩), .int .u64 (now : Int), .int .u64 (delay : Int), .int .u64 (limit : Int)] w (RTook w B b r (lostR r now delay limit) vL vO (fun v e => e = .returned v) r.top r.some) := by
  obtain ⟨pL, cL, pO, cO, rfl, rfl⟩ := h.form
  have HH := Lib.hid h
  have HR := Lib.hid hr
  have hf := hr.few
  have hln := hr.len
  obtain ⟨i0, hi, hz0, hz1, hz2⟩ := info_parts pk_info
  have HI := Lib.hid hi
  have HZ0 := Lib.hid hz0
  have HZ1 := Lib.hid hz1
  have HZ2 := Lib.hid hz2
  clear h hr hi hz0 hz1 hz2
  go_enter Try.func36, Try.ntmps36
  go_wp2
  go_loopw [9, 10] (fun v i wr => ∃ (k : Nat) (O : List Bool) (out : List Pk), i = .int .i64 (k : Int) ∧ k ≤ r.A.length ∧ Stk (lostR r now delay limit) r k O out ∧ RAt wr B b { r with O := O } (.slice pL r.A.length cL) (.slice pO r.O.length cO) ∧ wr.ownsRow w.heap.size 41 7 v out.length (pcs out) ∧ Below B w wr ∧ w.heap.size ≤ wr.heap.size ∧ KeepQ w wr) (fun _ i _ => r.A.length - (intOf i).toNat)
  case atStart => exact ⟨0, r.O, [], rfl, Nat.zero_le _, Stk.zero _ _, HH.out, World.ownsRow_nil _ _ _ _, Below.refl _ _, Nat.le_refl _, KeepQ.refl _⟩
  case round =>
    obtain ⟨k, O, out, rfl, hk, hS, h2, hv, hb, hsz, hkr⟩ := hrel
    have HKr := Lib.hid hkr
    clear hkr
    have c1 : wr.cell? ⟨b, 1, none⟩ = some (.slice pL r.A.length cL) := h2.head.cell (i := 1) rfl
    have HS := Lib.hid hS
    have HV := Lib.hid hv
    have HB := Lib.hid hb
    have HSz := Lib.hid hsz
    have H2 := Lib.hid h2
    by_cases hlt : k < r.A.length
    · obtain ⟨ho, hol⟩ := hS.at_ HR.out hlt
      have hr2 : ({ r with O := O } : RS8).ok := ⟨by show O.length = r.A.length; omega, HR.out.pk, HR.out.num, HR.out.few, HR.out.reorder, HR.out.top⟩
      obtain ⟨gL, oL, gO, rfl, rfl, co, hc⟩ := h2.at_ hr2 hlt
      obtain ⟨x, hx⟩ : ∃ x, x = r.A.getD k Itm.z := ⟨_, rfl⟩
      obtain ⟨a0, a1, a2, a3, a4, a5, a6⟩ := hc x hx
      have hxk : x.ok := HR.out.pk x (by rw [hx]; simp [List.getD_eq_getElem?_getD, hlt])
      have HLo := Lib.hid (rlost_any B b _ _ _ wr h2 hr2 x hxk now delay limit hdl hlm)
      have HC : Hid (wr.cell? ⟨b, 2, none⟩ = some (.slice (some ⟨gO, 0, none⟩) r.O.length cO) ∧ wr.cell? ⟨gO, k, none⟩ = some (.bool (r.O.getD k false))) := Lib.hid ⟨h2.head.cell (i := 2) rfl, by rw [← ho]; exact co⟩
      have HCa := Lib.hid (And.intro a0 (And.intro a1 (And.intro a2 (And.intro a3 (And.intro a4 (And.intro a5 a6))))))
      have HX := Lib.hid hx
      have HOl : Hid (O.length = r.O.length) := Lib.hid hol
      have HOut : Hid (out.length ≤ 500) := Lib.hid (by
        rw [hS.out]
        refine Nat.le_trans (List.length_filter_le _ _) ?_
        unfold sel
        rw [List.length_map]
        refine Nat.le_trans (List.length_filter_le _ _) ?_
        rw [List.length_zip, List.length_take]
        omega)
      have i0' : (0 : Int) ≤ (k : Int) := by omega
      have i1 : (k : Int) < (r.A.length : Int) := by omega
      have i2 : (k : Int) < (r.O.length : Int) := by omega
      clear ho hol hr2 co hc hx hxk hS h2 hv hb hsz
      go_wp2_with fail
      refine (HLo.out).mono ?_
      rintro e w4 ⟨rfl, hb4⟩
      have K : ∀ p v, wr.cell? p = some v → w4.cell? p = some v := fun p v h => (hb4.cell (World.block_lt_of_cell? _ _ h)).trans h
      have c2 := K _ _ HC.out.1
      have co := K _ _ HC.out.2
      have c1' := K _ _ c1
      obtain ⟨y0, y1, y2, y3, y4, y5, y6⟩ := HCa.out
      have HCb := Lib.hid (And.intro (K _ _ y0) (And.intro (K _ _ y1) (And.intro (K _ _ y2) (And.intro (K _ _ y3) (And.intro (K _ _ y4) (And.intro (K _ _ y5) (K _ _ y6)))))))
      have H4 := Lib.hid (H2.out.keep hb4)
      have HV4 : Hid (w4.ownsRow w.heap.size 41 7 u9 out.length (pcs out)) := Lib.hid (own_same HV.out fun z cs _ _ hz => hb4.block z hz.lt)
      have HB4 : Hid (Below B w w4) := Lib.hid (HB.out.trans (hb4.mono (by have := HSz.out; omega)))
      have HS4 : Hid (w.heap.size ≤ w4.heap.size) := Lib.hid (Nat.le_trans HSz.out hb4.size)
      have HK4 : Hid (KeepQ w w4) := Lib.hid (HKr.out.below hb4)
      clear K y0 y1 y2 y3 y4 y5 y6 hb4 HLo HC HCa H2 HV HB HSz a0 a1 a2 a3 a4 a5 a6 c1
      have eg : lostR { r with O := O } now delay limit x = lostR r now delay limit x := rfl
      rw [eg]
      cases hg : lostR r now delay limit x
      · have HSt : Hid (Stk (lostR r now delay limit) r (k + 1) O out) := Lib.hid (HS.out.stay HR.out hlt (by rw [← HX.out, hg]; simp))
        clear hg eg HS HX
        cases ho : r.O.getD k false
        all_goals
          rw [ho] at co
          clear ho
          go_wp2
          go_roundw
          case rel => exact ⟨k + 1, O, out, by go_num, by omega, HSt.out, H4.out, HV4.out, HB4.out, HS4.out, HK4.out⟩
          case measure => simp [intOf]; omega
      · cases ho : r.O.getD k false
        · have HSt : Hid (Stk (lostR r now delay limit) r (k + 1) O out) := Lib.hid (HS.out.stay HR.out hlt (by rw [ho]; simp))
          rw [ho] at co
          clear hg ho eg HS HX
          go_wp2
          go_roundw
          case rel => exact ⟨k + 1, O, out, by go_num, by omega, HSt.out, H4.out, HV4.out, HB4.out, HS4.out, HK4.out⟩
          case measure => simp [intOf]; omega
        · have HSt : Hid (Stk (lostR r now delay limit) r (k + 1) (O.set k false) (out ++ [x])) := Lib.hid (by
            have := HS.out.hit HR.out hlt ho (by rw [← HX.out]; exact hg)
            rwa [← HX.out] at this)
          rw [ho] at co
          clear hg ho eg HS HX
          obtain ⟨hh1, hh2, hh3, ⟨gcs, hh4⟩, hh5⟩ := H4.out.hit (by show 0 < O.length; rw [HOl.out]; omega) k
          have f1 := hh5 k
          have HV5 : Hid ((w4.setCell ⟨gO, k, none⟩ (.bool false)).ownsRow w.heap.size 41 7 u9 out.length (pcs out)) := Lib.hid (PR.hit HV4.out hh4)
          have H5 := Lib.hid hh1
          have HK5 : Hid (KeepQ w (w4.setCell ⟨gO, k, none⟩ (.bool false))) := Lib.hid (HK4.out.set hh4 (.inr rfl))
          have hne : ∀ z, z ≠ gO → ∀ j, (w4.setCell ⟨gO, k, none⟩ (.bool false)).cell? ⟨z, j, none⟩ = w4.cell? ⟨z, j, none⟩ := fun z hz j => by
            unfold World.cell?
            rw [Below.heap_setCell _ _ _ _ hz]
          have hgL : gL ≠ gO := by
            obtain ⟨_, cs, hcs⟩ := own_ge H4.out.L (g := gL) rfl
            exact hcs.ty hh4 (by decide)
          have hbO : b ≠ gO := H4.out.head.ty hh4 (by decide)
          obtain ⟨z0, z1, z2, z3, z4, z5, z6⟩ := HCb.out
          have y0 := (hne gL hgL _).trans z0
          have y1 := (hne gL hgL _).trans z1
          have y2 := (hne gL hgL _).trans z2
          have y3 := (hne gL hgL _).trans z3
          have y4 := (hne gL hgL _).trans z4
          have y5 := (hne gL hgL _).trans z5
          have y6 := (hne gL hgL _).trans z6
          have d1 := (hne b hbO _).trans c1'
          have HB5 : Hid (Below B w (w4.setCell ⟨gO, k, none⟩ (.bool false))) := Lib.hid (HB4.out.trans ⟨hh2.os, hh2.tape, hh2.output, hh2.size, fun z hz => hh2.block z (by have := HS4.out; omega) (by simp; omega)⟩)
          have HS5 : Hid (w.heap.size ≤ (w4.setCell ⟨gO, k, none⟩ (.bool false)).heap.size) := Lib.hid (Nat.le_trans HS4.out hh2.size)
          clear z0 z1 z2 z3 z4 z5 z6 hne hgL hbO hh1 hh2 hh3 hh4 hh5 HCb HB4 HS4 HV4
          obtain ⟨p3, c3, rfl⟩ := PR.form (own_zero HV5.out : PR _ u9 _)
          have HVa : Hid (((w4.setCell ⟨gO, k, none⟩ (.bool false)).alloc (.cells #[.int .u64 (x.n : Int), .int .u64 (x.size : Int), .int .u64 (x.sent : Int), .int .u64 (x.first : Int), .int .u64 (x.deliv : Int), .int .u64 (x.at_ : Int), .bool x.lim] 41)).ownsRow w.heap.size 41 7 (.slice p3 out.length c3) out.length (pcs out)) := Lib.hid (own_same HV5.out fun z cs _ _ hb => Below.heap_alloc _ _ _ hb.lt)
          have HNw : Hid (∀ j u, ([.int .u64 (x.n : Int), .int .u64 (x.size : Int), .int .u64 (x.sent : Int), .int .u64 (x.first : Int), .int .u64 (x.deliv : Int), .int .u64 (x.at_ : Int), .bool x.lim] : List Value)[j]? = some u → ((w4.setCell ⟨gO, k, none⟩ (.bool false)).alloc (.cells #[.int .u64 (x.n : Int), .int .u64 (x.size : Int), .int .u64 (x.sent : Int), .int .u64 (x.first : Int), .int .u64 (x.deliv : Int), .int .u64 (x.at_ : Int), .bool x.lim] 41)).cell? ((⟨w4.heap.size, 0, none⟩ : Addr).add j) = some u) := Lib.hid (fun j u hu => by
            have es : (w4.setCell ⟨gO, k, none⟩ (.bool false)).heap.size = w4.heap.size := by simp [World.setCell]
            have hbk := Blk.new (w4.setCell ⟨gO, k, none⟩ (.bool false)) 41 #[.int .u64 (x.n : Int), .int .u64 (x.size : Int), .int .u64 (x.sent : Int), .int .u64 (x.first : Int), .int .u64 (x.deliv : Int), .int .u64 (x.at_ : Int), .bool x.lim]
            rw [es] at hbk
            rw [Go.WideShapes.add_plain, Nat.zero_add]
            exact hbk.cell (by simpa using hu))
          have HS6 : Hid (w.heap.size ≤ ((w4.setCell ⟨gO, k, none⟩ (.bool false)).alloc (.cells #[.int .u64 (x.n : Int), .int .u64 (x.size : Int), .int .u64 (x.sent : Int), .int .u64 (x.first : Int), .int .u64 (x.deliv : Int), .int .u64 (x.at_ : Int), .bool x.lim] 41)).heap.size) := Lib.hid (by have := HS5.out; rw [World.size_alloc]; omega)
          have HGL : Hid (gL < w.heap.size) := Lib.hid (HH.out.L.lt gL rfl).2
          have HOne : Hid (∀ u ∈ ([.int .u64 (x.n : Int), .int .u64 (x.size : Int), .int .u64 (x.sent : Int), .int .u64 (x.first : Int), .int .u64 (x.deliv : Int), .int .u64 (x.at_ : Int), .bool x.lim] : List Value), u.oneCell' = true) := Lib.hid (Itm.one x)
          go_wp2_with (at_builtin; (refine wpList_append_own_at _ rfl _ _ 29 rfl w.heap.size 41 i0 (.agg #[.int .u64 0, .int .u64 0, .int .u64 0, .int .u64 0, .int .u64 0, .int .u64 0, .bool false]) 7 56 Try.underlying29 HI.out HZ0.out HZ1.out HZ2.out rfl (by decide) (.slice p3 out.length c3) out.length (pcs out) rfl HVa.out ⟨w4.heap.size, 0, none⟩ 1 1 [.int .u64 (x.n : Int), .int .u64 (x.size : Int), .int .u64 (x.sent : Int), .int .u64 (x.first : Int), .int .u64 (x.deliv : Int), .int .u64 (x.at_ : Int), .bool x.lim] rfl rfl HNw.out HOne.out (by unfold maxLen; have := HOut.out; omega) (by have := HOut.out; omega) HS6.out ?_); intro v' w5 hown hgr hnil hat; have H6 := Lib.hid hown; have G6 := Lib.hid hgr; clear hown hgr hnil hat)
          go_wp2
          go_roundw
          case rel =>
            have H7 : RAt w5 B b { r with O := O.set k false } (.slice (some ⟨gL, oL, none⟩) r.A.length cL) (.slice (some ⟨gO, 0, none⟩) r.O.length cO) := (H5.out.keep ((Below.refl _ _).alloc (Nat.le_refl _) _)).grown G6.out (fun z e => by
              obtain ⟨hz, cs', hc'⟩ := own_ge HVa.out e
              exact ⟨hz, cs', hc', by have := HGL.out; intro e2; simp [Value.ownBlock] at e2; omega⟩)
            refine ⟨k + 1, O.set k false, out ++ [x], by go_num, by omega, HSt.out, H7, ?_, (HB5.out.alloc (by have := HS5.out; omega) _).grown G6.out (by have := HS6.out; omega) (fun z e => by have := (own_ge HVa.out e).1; omega), Nat.le_trans HS6.out G6.out.size, ((HK5.out.below ((Below.refl _ _).alloc (Nat.le_refl _) _)).grown G6.out (fun z e => (own_ge HVa.out e).1))⟩
            rw [List.length_append]
            have e : pcs (out ++ [x]) = pcs out ++ Itm.cs x := by unfold pcs; rw [List.flatMap_append]; simp
            rw [e]
            exact H6.out
          case measure => simp [intOf]; omega
    · obtain rfl : k = r.A.length := by omega
      obtain ⟨e1, e2, e3⟩ := hS.done HR.out
      rw [e2] at hv
      have HV2 := Lib.hid hv
      have HE : Hid (∃ O', RAt wr B b { r with O := O', top := r.top, some := r.some } (.slice pL r.A.length cL) (.slice pO r.O.length cO) ∧ sel r.A O' = (sel r.A r.O).filter (fun p => !lostR r now delay limit p) ∧ O'.length = r.A.length) := Lib.hid ⟨O, h2, e1, e3⟩
      clear e1 e2 e3 hS h2 hv hb hsz HS HV H2
      go_wp2
      go_ret
      exact ⟨⟨_, rfl, own_zero HV2.out, fun g e => (own_ge HV2.out e).1⟩, HE.out, HB.out, HKr.out⟩
end Go.Proofs.Ytfpopbhbhdhdnaa
