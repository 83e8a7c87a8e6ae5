/- The document's queue (goitref18.Queue), at any offset of a block, over this translation. -/
import Derived.Test.YteolchbeiidapaaWq
import Derived.Test.YteolchbeiidapaaSme
import Derived.Test.YteolchbeiidapaaR1d
import Derived.Deep.AppendLies
set_option linter.unusedVariables false
namespace Go.Proofs.Yteolchbeiidapaa
open Go.RowKit

/-- The document's bytes. -/
def sumQ (l : List Pk) : Nat := l.foldl (fun a p => Pl.addS a p.size) 0
theorem sumQ_snoc (l : List Pk) (p : Pk) : sumQ (l ++ [p]) = Pl.addS (sumQ l) p.size := by simp [sumQ, List.foldl_append]
theorem sumQ_le (l : List Pk) : sumQ l ≤ 18446744073709551615 := by
  rcases List.eq_nil_or_concat l with rfl | ⟨l', x, rfl⟩
  · exact Nat.zero_le _
  · rw [List.concat_eq_append, sumQ_snoc]; exact Pl.addS_le _ _
/-- Where the document's queue lies: its room, packets, how many were dropped, their bytes. -/
structure RCells (cs : Array Value) (o : Nat) (s : QK) (v : Value) : Prop where
  r : cs[o]? = some (.int .u64 (s.room : Int))
  v : cs[o + 1]? = some v
  d : cs[o + 2]? = some (.int .u64 (s.dr : Int))
  g : cs[o + 3]? = some (.int .u64 (s.lost : Int))
theorem RCells.setv {cs : Array Value} {o : Nat} {s : QK} {v : Value} (h : RCells cs o s v) (v' : Value) (l : List Pk) (n : Nat) : RCells (cs.setIfInBounds (o + 1) v') o ⟨l, n, s.room, s.dr, s.lost⟩ v' := by
  have hv := (Array.getElem?_eq_some_iff.1 h.v).1
  exact ⟨by rw [Array.getElem?_setIfInBounds_ne (by omega)]; exact h.r, Array.getElem?_setIfInBounds_self_of_lt hv, by rw [Array.getElem?_setIfInBounds_ne (by omega)]; exact h.d, by rw [Array.getElem?_setIfInBounds_ne (by omega)]; exact h.g⟩
theorem RCells.setd {cs : Array Value} {o : Nat} {s : QK} {v : Value} (h : RCells cs o s v) (d : Nat) : RCells (cs.setIfInBounds (o + 2) (.int .u64 (d : Int))) o ⟨s.l, s.n, s.room, d, s.lost⟩ v := by
  have hv := (Array.getElem?_eq_some_iff.1 h.d).1
  exact ⟨by rw [Array.getElem?_setIfInBounds_ne (by omega)]; exact h.r, by rw [Array.getElem?_setIfInBounds_ne (by omega)]; exact h.v, Array.getElem?_setIfInBounds_self_of_lt hv, by rw [Array.getElem?_setIfInBounds_ne (by omega)]; exact h.g⟩
theorem RCells.setg {cs : Array Value} {o : Nat} {s : QK} {v : Value} (h : RCells cs o s v) (g : Nat) : RCells (cs.setIfInBounds (o + 3) (.int .u64 (g : Int))) o ⟨s.l, s.n, s.room, s.dr, g⟩ v := by
  have hv := (Array.getElem?_eq_some_iff.1 h.g).1
  exact ⟨by rw [Array.getElem?_setIfInBounds_ne (by omega)]; exact h.r, by rw [Array.getElem?_setIfInBounds_ne (by omega)]; exact h.v, by rw [Array.getElem?_setIfInBounds_ne (by omega)]; exact h.d, Array.getElem?_setIfInBounds_self_of_lt hv⟩
theorem RCells.of {cs : Array Value} {o : Nat} {s s' : QK} {v : Value} (h : RCells cs o s v) (h1 : s.room = s'.room) (h2 : s.dr = s'.dr) (h3 : s.lost = s'.lost) : RCells cs o s' v := ⟨h1 ▸ h.r, h.v, h2 ▸ h.d, h3 ▸ h.g⟩

/-- The document's packets: a slice of the call's own. -/
def ROwn (B : Nat) (w : World) (v : Value) (l : List Pk) : Prop := w.ownsRow B 36 7 v l.length (l.flatMap Itm.cs)
/-- The block of a slice; where it has none, another's. -/
def vb (v : Value) (m : Nat) : Nat := v.ownBlock.getD m
theorem ROwn.nil (B : Nat) (w : World) : ROwn B w (.slice none 0 0) [] := World.ownsRow_nil _ _ _ _
theorem ROwn.form {B : Nat} {w : World} {v : Value} {l : List Pk} (h : ROwn B w v l) : ∃ ao cap, v = .slice ao l.length cap ∧ l.length ≤ cap ∧ cap ≤ maxLen ∧ Its w ao l ∧ (0 < l.length → ∃ g, ao = some ⟨g, 0, none⟩ ∧ vb v 0 = g) := by
  obtain ⟨hl, h⟩ := h
  rcases h with ⟨rfl, hn⟩ | ⟨g, cap, cur, rfl, hb, hg, hnc, hmax, hcs, htake⟩
  · rw [hn]
    have : l = [] := List.eq_nil_of_length_eq_zero hn
    subst this
    exact ⟨none, 0, rfl, Nat.le_refl _, by decide, Its.none _ _, fun h => absurd h (by simp)⟩
  · refine ⟨some ⟨g, 0, none⟩, cap, rfl, hnc, hmax, fun hp => ⟨g, 0, rfl, lt_of_block hg, fun i j hi hj => ?_⟩, fun _ => ⟨g, rfl, rfl⟩⟩
    have k7 : Itm.k Pk = 7 := rfl
    rw [k7] at hj ⊢
    have hlt : i * 7 + j < l.length * 7 := by omega
    have e : (cur.toList.take (l.length * 7))[i * 7 + j]? = (l.flatMap (Itm.cs (α := Pk)))[i * 7 + j]? := by rw [htake]
    rw [List.getElem?_take_of_lt hlt, Array.getElem?_toList] at e
    have e2 := iget l i j (by rw [k7]; exact hj)
    rw [k7] at e2
    have hx : l[i]? = some (l.getD i Itm.z) := by rw [List.getD_eq_getElem?_getD, List.getElem?_eq_getElem hi]; rfl
    rw [hx] at e2
    rw [Nat.zero_add, ← show (l.flatMap (Itm.cs (α := Pk)))[i * 7 + j]? = (Itm.cs (l.getD i Itm.z))[j]? from e2, ← e]
    have hcur : i * 7 + j < cur.size := by rw [hcs]; have := Nat.mul_le_mul_right 7 hnc; omega
    rw [Array.getElem?_eq_getElem hcur]
    exact (show Blk w g 36 cur from hg).cell (Array.getElem?_eq_getElem hcur)
theorem ROwn.blk {B : Nat} {w w' : World} {v : Value} {l : List Pk} (h : ROwn B w v l) (hk : ∀ g cs, v.ownBlock = some g → Blk w g 36 cs → Blk w' g 36 cs) : ROwn B w' v l := by
  obtain ⟨hl, h⟩ := h
  refine ⟨hl, ?_⟩
  rcases h with ⟨rfl, hn⟩ | ⟨g, cap, cur, rfl, hb, hg, hr⟩
  · exact .inl ⟨rfl, hn⟩
  · exact .inr ⟨g, cap, cur, rfl, hb, hk g cur rfl hg, hr⟩
theorem ROwn.keep {B : Nat} {w w' : World} {v : Value} {l : List Pk} (h : ROwn B w v l) (k : Below w.heap.size w w') : ROwn B w' v l := h.blk (fun _ _ _ hb => hb.keep k)
theorem ROwn.fr {B m : Nat} {w w' : World} {v : Value} {l : List Pk} {L : List Nat} (h : ROwn B w v l) (k : Fr w w' L) (hn : vb v m ∉ L) : ROwn B w' v l :=
  h.blk (fun g cs hg hb => hb.fr k (by have : vb v m = g := by unfold vb; rw [hg]; rfl
                                       rw [← this]; exact hn))
theorem ROwn.lt {B m : Nat} {w : World} {v : Value} {l : List Pk} (h : ROwn B w v l) (hm : m < w.heap.size) : vb v m < w.heap.size := by
  obtain ⟨hl, h⟩ := h
  rcases h with ⟨rfl, hn⟩ | ⟨g, cap, cur, rfl, hb, hg, hr⟩
  · exact hm
  · exact lt_of_block hg
theorem ROwn.base {B m : Nat} {w : World} {v : Value} {l : List Pk} (h : ROwn B w v l) (hm : B ≤ m) : B ≤ vb v m := by
  obtain ⟨hl, h⟩ := h
  rcases h with ⟨rfl, hn⟩ | ⟨g, cap, cur, rfl, hb, hg, hr⟩
  · exact hm
  · exact hb
theorem fr_gr {w w' : World} {row : Option Nat} {L : List Nat} (h : w.grownBy w' row) (hr : ∀ b, row = some b → b ∈ L) : Fr w w' L :=
  ⟨h.os, h.tape, h.output, h.size, fun k hk hn => h.block k hk (fun e => hn (hr k e.symm))⟩

/-- What a call of the document's queue leaves. -/
structure RQPost (W : World) (m o B : Nat) (T : TypeId) (cs : Array Value) (v : Value) (r : Value) (s : QK) (e : Ending) (w : World) : Prop where
  e : e = .returned r
  at_ : ∃ v' cs', Blk w m T cs' ∧ RCells cs' o s v' ∧ cs'.size = cs.size ∧ (∀ i, i < o ∨ o + 4 ≤ i → cs'[i]? = cs[i]?) ∧ ROwn B w v' s.l ∧ (vb v' m = vb v m ∨ W.heap.size ≤ vb v' m)
  fr : Fr W w [m, vb v m]
/-- What holds while the document's queue is changed, a packet's box beside it. -/
structure RM (W : World) (m o B z : Nat) (T : TypeId) (cs : Array Value) (v : Value) (c : List Value) (s : QK) (v' : Value) (w : World) : Prop where
  at_ : ∃ cs', Blk w m T cs' ∧ RCells cs' o s v' ∧ cs'.size = cs.size ∧ (∀ i, i < o ∨ o + 4 ≤ i → cs'[i]? = cs[i]?)
  own : ROwn B w v' s.l
  new : vb v' m = vb v m ∨ W.heap.size ≤ vb v' m
  ne : vb v' m ≠ z
  fr : Fr W w [m, vb v m]
  box : Blk w z 36 c.toArray
  lo : W.heap.size ≤ z
  mz : m < W.heap.size
theorem RM.post {W w : World} {m o B z : Nat} {T : TypeId} {cs : Array Value} {v v' r : Value} {c : List Value} {s : QK} (h : RM W m o B z T cs v c s v' w) : RQPost W m o B T cs v r s (.returned r) w :=
  ⟨rfl, by obtain ⟨cs', h1, h2, h3, h4⟩ := h.at_; exact ⟨v', cs', h1, h2, h3, h4, h.own, h.new⟩, h.fr⟩
theorem RM.to {W w w' : World} {m o B z : Nat} {T : TypeId} {cs : Array Value} {v v' : Value} {c : List Value} {s : QK} (h : RM W m o B z T cs v c s v' w) (k : Below w.heap.size w w') : RM W m o B z T cs v c s v' w' :=
  ⟨by obtain ⟨cs', h1, h2⟩ := h.at_; exact ⟨cs', h1.keep k, h2⟩, h.own.keep k, h.new, h.ne, h.fr.below k, h.box.keep k, h.lo, h.mz⟩
theorem RM.start {W : World} {m o B : Nat} {T : TypeId} {cs : Array Value} {v : Value} {s : QK} (h : Blk W m T cs) (hk : RCells cs o s v) (ho : ROwn B W v s.l) (c : List Value) : RM W m o B W.heap.size T cs v c s v (W.alloc (.cells c.toArray 36)) :=
  ⟨⟨cs, h.keep (al_be _ _), hk, rfl, fun _ _ => rfl⟩, ho.keep (al_be _ _), .inl rfl, Nat.ne_of_lt (ho.lt h.lt), (Fr.refl _ _).alloc _, Blk.new _ _ _, Nat.le_refl _, h.lt⟩
theorem RM.cells {W w : World} {m o B z : Nat} {T : TypeId} {cs : Array Value} {v v' : Value} {c : List Value} {s : QK} (h : RM W m o B z T cs v c s v' w) : w.cell? ⟨m, o, none⟩ = some (.int .u64 (s.room : Int)) ∧ w.cell? ⟨m, o + 1, none⟩ = some v' ∧ w.cell? ⟨m, o + 2, none⟩ = some (.int .u64 (s.dr : Int)) ∧ w.cell? ⟨m, o + 3, none⟩ = some (.int .u64 (s.lost : Int)) ∧ ∀ i, w.frozen? ⟨m, i, none⟩ = false := by
  obtain ⟨cs', h1, h2, _⟩ := h.at_
  exact ⟨h1.cell h2.r, h1.cell h2.v, h1.cell h2.d, h1.cell h2.g, fun i => h1.free i⟩
theorem RM.mne {W w : World} {m o B z : Nat} {T : TypeId} {cs : Array Value} {v v' : Value} {c : List Value} {s : QK} (h : RM W m o B z T cs v c s v' w) (hT : T ≠ 36) : ∀ g ds, Blk w g 36 ds → g ≠ m := fun g ds hb => by
  obtain ⟨cs', h1, _⟩ := h.at_
  exact hb.ty h1 (Ne.symm hT)
theorem RM.seti {W w : World} {m o B z i : Nat} {T : TypeId} {cs : Array Value} {v v' : Value} {c : List Value} {s s' : QK} {u : Value} (hT : T ≠ 36) (h : RM W m o B z T cs v c s v' w) (hi : o ≤ i ∧ i < o + 4) (hl : s.l = s'.l) (hc : ∀ cs', RCells cs' o s v' → RCells (cs'.setIfInBounds i u) o s' v') : RM W m o B z T cs v c s' v' (w.setCell ⟨m, i, none⟩ u) := by
  have hm := h.mne hT
  obtain ⟨cs', h1, h2, h3, h4⟩ := h.at_
  exact ⟨⟨_, h1.set i u, hc _ h2, by simpa using h3, fun j hj => by rw [Array.getElem?_setIfInBounds_ne (by omega)]; exact h4 j hj⟩, hl ▸ h.own.blk (fun g ds _ hb => hb.set_other _ _ (hm g ds hb)), h.new, h.ne, h.fr.set (.inl (by simp)) _ _, h.box.set_other _ _ (hm _ _ h.box), h.lo, h.mz⟩
theorem RM.setd {W w : World} {m o B z : Nat} {T : TypeId} {cs : Array Value} {v v' : Value} {c : List Value} {s : QK} (hT : T ≠ 36) (h : RM W m o B z T cs v c s v' w) (d : Nat) : RM W m o B z T cs v c ⟨s.l, s.n, s.room, d, s.lost⟩ v' (w.setCell ⟨m, o + 2, none⟩ (.int .u64 (d : Int))) :=
  h.seti hT (by omega) rfl (fun cs' k => k.setd d)
theorem RM.setg {W w : World} {m o B z : Nat} {T : TypeId} {cs : Array Value} {v v' : Value} {c : List Value} {s : QK} (hT : T ≠ 36) (h : RM W m o B z T cs v c s v' w) (d : Nat) : RM W m o B z T cs v c ⟨s.l, s.n, s.room, s.dr, d⟩ v' (w.setCell ⟨m, o + 3, none⟩ (.int .u64 (d : Int))) :=
  h.seti hT (by omega) rfl (fun cs' k => k.setg d)

theorem rq_Bytes (m o B : Nat) (T : TypeId) (cs : Array Value) (v : Value) (s : QK) (w : World) (h : Blk w m T cs) (hk : RCells cs o s v) (ho : ROwn B w v s.l) (hf : s.l.length ≤ 1000) (hz : ∀ x ∈ s.l, x.size ≤ 18446744073709551615) :
    Calls Try.prog 15 #[.pointer (some ⟨m, o, none⟩)] w fun e w' => e = .returned (.int .u64 ((sumQ s.l : Nat) : Int)) ∧ w = w' := by
  obtain ⟨ao, cap, rfl, hc1, hc2, hi, hg⟩ := ho.form
  have c1 := h.cell hk.v
  have HI := Lib.hid hi
  have HZ := Lib.hid hz
  clear h hk ho hi hg hz
  generalize s.l = l at *
  go_enter Try.func15, Try.ntmps15
  go_wp2
  go_loop [4, 3] (fun i u => ∃ k : Nat, i = .int .i64 (k : Int) ∧ u = .int .u64 ((sumQ (l.take k) : Nat) : Int) ∧ k ≤ l.length) (fun i _ => l.length - (intOf i).toNat)
  case atStart => exact ⟨0, rfl, rfl, Nat.zero_le _⟩
  case round =>
    obtain ⟨k, rfl, rfl, hk⟩ := hrel
    by_cases hlt : k < l.length
    · obtain ⟨ad, rfl, _⟩ := HI.out.cells (by omega)
      obtain ⟨g, off, rfl, _, hc⟩ := its_pk HI.out (by omega)
      obtain ⟨x, hx⟩ : ∃ x, x = l.getD k Itm.z := ⟨_, rfl⟩
      have a1 := (hc k hlt x hx).2.1
      have hxl : x ∈ l := by rw [hx, List.getD_eq_getElem?_getD, List.getElem?_eq_getElem hlt]; exact List.getElem_mem hlt
      have HS : Hid (sumQ (l.take (k + 1)) = Pl.addS (sumQ (l.take k)) x.size) := Lib.hid (by
        rw [List.take_succ_eq_append_getElem hlt, sumQ_snoc, hx, List.getD_eq_getElem?_getD, List.getElem?_eq_getElem hlt]; rfl)
      have HA := Lib.hid (fun w => ref_Add (sumQ (l.take k)) x.size w (sumQ_le _) (HZ.out x hxl))
      have i0 : (0 : Int) ≤ (k : Int) := by omega
      have i1 : (k : Int) < (l.length : Int) := by omega
      clear hc hx hxl
      rw [← HS.out] at HA
      generalize sumQ (l.take k) = y at *
      generalize hy2 : sumQ (l.take (k + 1)) = y2 at *
      go_wp2_with fail
      refine (HA.out _).mono ?_
      rintro e w' ⟨rfl, rfl⟩
      go_wp2_with fail
      go_round
      case rel => exact ⟨k + 1, by go_num, by rw [hy2], by omega⟩
      case measure => simp [intOf]; omega
    · obtain rfl : k = l.length := by omega
      have e : Hid (sumQ (l.take l.length) = sumQ l) := Lib.hid (by rw [List.take_length])
      rw [e.out]
      go_wp2
      go_ret
      exact ⟨rfl, rfl⟩

end Go.Proofs.Yteolchbeiidapaa
