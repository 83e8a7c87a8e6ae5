/- 1 texts put together: what each one says stands ahead of it. -/
import Derived.Test.YtpkbjfhicocogaaGreatDoorKPlays24
import Derived.Test.YtpkbjfhicocogaaGreatDoorKPlays10
import Derived.BigRegion
/- Contracts of the document's own filter (goitref05), within the document's engine, over this translation. -/
set_option linter.unusedVariables false
namespace Go.Proofs.YtpkbjfhicocogaaGreatDoor
open Go.RowKit Pl

/-- The cells of the document's engine, with those of its filter among them. -/
def fE (E : Nat → Value) (win : Nat) (s : Bool) (now : Nat) (v : Value) : Array Value := #[E 0, E 1, E 2, E 3, E 4, E 5, E 6, E 7, E 8, .int .u64 (win : Int), .bool s, .int .u64 (now : Int), v, E 13, E 14, E 15, E 16, E 17, E 18, E 19, E 20, E 21, E 22, E 23, E 24, E 25]

/-- The document's filter in memory: itself at block m, its readings a row that the call owns from block B on. -/
structure MAt (E : Nat → Value) (w : World) (B m : Nat) (v : Value) (win : Nat) (s : Bool) (now : Nat) (A : List Rd) : Prop where
  head : Blk w m 74 (fE E win s now v)
  row : RL w B v A
theorem MAt.keep {E : Nat → Value} {w w' : World} {B m : Nat} {v : Value} {win now : Nat} {s : Bool} {A : List Rd} (h : MAt E w B m v win s now A) (k : Below w.heap.size w w') : MAt E w' B m v win s now A := ⟨h.head.keep k, h.row.keep k⟩
theorem RL.ne {w : World} {B m : Nat} {v : Value} {A : List Rd} {T : TypeId} {cs : Array Value} (h : RL w B v A) (k : Blk w m T cs) (hT : T ≠ 153) : v.ownBlock ≠ some m := by
  intro e
  rcases h.2 with ⟨rfl, _⟩ | ⟨g, cap, rfl, _⟩
  · simp [Value.ownBlock] at e
  · simp [Value.ownBlock] at e
    subst e
    obtain ⟨cs', hb, _⟩ := RL.blk h
    exact (k.ty hb hT) rfl
theorem RL.set_other {w : World} {B m i : Nat} {v u : Value} {A : List Rd} (h : RL w B v A) (k : v.ownBlock ≠ some m) : RL (w.setCell ⟨m, i, none⟩ u) B v A :=
  h.same fun g cs e _ => Below.heap_setCell _ _ _ _ (by rintro rfl; exact k e)

set_option maxHeartbeats 400000 in
theorem me_Counts {E : Nat → Value} (B m win now : Nat) (s : Bool) (v : Value) (A : List Rd) (r : Rd) (w : World) (h : MAt E w B m v win s now A) (hw : win ≤ 18446744073709551615) (hr : r.t ≤ 18446744073709551615) :
    Calls Tryz.prog 115 #[.pointer (some ⟨m, 9, none⟩), r.agg] w fun e w' => e = .returned (.bool (cnts win now r)) ∧ Below w.heap.size w w' := by
  unfold Rd.agg
  have HX := Lib.hid (Blk.new w 153 #[.int .u64 (r.t : Int), .int .u64 (r.x : Int)])
  have HH := Lib.hid (h.head.alloc (.cells #[.int .u64 (r.t : Int), .int .u64 (r.x : Int)] 153))
  have HW : Hid (Below w.heap.size w (w.alloc (.cells #[.int .u64 (r.t : Int), .int .u64 (r.x : Int)] 153))) := Lib.hid ((Below.refl _ _).alloc (Nat.le_refl _) _)
  have r0 := HX.out.drew.cell (i := 0) (v := .int .u64 (r.t : Int)) rfl
  have a0 := HH.out.drew.cell (i := 9) (v := .int .u64 (win : Int)) rfl
  have a2 := HH.out.drew.cell (i := 11) (v := .int .u64 (now : Int)) rfl
  have HA := Lib.hid (fun w => ref_Add r.t win w hr hw)
  clear h
  go_enter Tryz.func115, Tryz.ntmps115
  go_wp2_with fail
  generalize (w.alloc (.cells #[.int .u64 (r.t : Int), .int .u64 (r.x : Int)] 153)) = wa at *
  go_region_held3 (fun w' => w'.cell? ⟨w.heap.size, 0, none⟩ = some (.int .u64 (r.t : Int)) ∧ w'.cell? ⟨m, 9, none⟩ = some (.int .u64 (win : Int)) ∧ w'.cell? ⟨m, 11, none⟩ = some (.int .u64 (now : Int)))
    (first | exact ⟨r0, a0, a2⟩)
    (first | (go_at_call 92; refine (HA.out _).mono ?_; rintro e w' ⟨rfl, rfl⟩))
  go_wp2_with fail
  go_ret
  exact ⟨rfl, HW.out.trans (((Drawn.drew wa).below _))⟩

/-- How far the answer of the document's Best has come. -/
def RB (f : FS) (A : List Rd) (k : Nat) (best : Rd) (some : Bool) : Prop :=
  (some = false ∧ cting f (A.take k) = [] ∧ best = ⟨0, 0⟩) ∨ (some = true ∧ IsBest f.least (cting f (A.take k)) best)
theorem cting_more (f : FS) (A : List Rd) {k : Nat} (h : k < A.length) : cting f (A.take (k + 1)) = cting f (A.take k) ++ (if cnts f.win f.t (A.getD k Itm.z) then [A.getD k Itm.z] else []) := by
  unfold cting
  rw [List.take_succ_eq_append_getElem h, List.filter_append]
  have e : A.getD k Itm.z = A[k] := by simp [List.getD_eq_getElem?_getD, h]
  rw [e]
  congr 1
  simp [List.filter_cons]
theorem RB.skip {f : FS} {A : List Rd} {k : Nat} {best : Rd} {o : Bool} (h : RB f A k best o) (hk : k < A.length) (hc : cnts f.win f.t (A.getD k Itm.z) = false) : RB f A (k + 1) best o := by
  have e : cting f (A.take (k + 1)) = cting f (A.take k) := by rw [cting_more f A hk, if_neg (by rw [hc]; simp), List.append_nil]
  unfold RB at *; rw [e]; exact h
theorem take_le {A : List Rd} (hs : A.Pairwise fun a b => a.t ≤ b.t) {k : Nat} (hk : k < A.length) : ∀ a ∈ A.take k, a.t ≤ (A.getD k Itm.z).t := by
  intro a ha
  have e : A = A.take k ++ A[k] :: A.drop (k + 1) := by
    rw [← List.drop_eq_getElem_cons hk, List.take_append_drop]
  have e2 : A.getD k Itm.z = A[k] := by simp [List.getD_eq_getElem?_getD, hk]
  rw [e2]
  rw [e] at hs
  exact (List.pairwise_append.1 hs).2.2 a ha _ List.mem_cons_self
theorem RB.take {f : FS} {A : List Rd} {k : Nat} {best : Rd} {o : Bool} (h : RB f A k best o) (hs : A.Pairwise fun a b => a.t ≤ b.t) (hk : k < A.length) (hc : cnts f.win f.t (A.getD k Itm.z) = true) (hb : o = true → bt f.least (A.getD k Itm.z) best = true) : RB f A (k + 1) (A.getD k Itm.z) true := by
  refine .inr ⟨rfl, ?_⟩
  rw [cting_more f A hk, if_pos hc]
  have hle := take_le hs hk
  generalize A.getD k Itm.z = r at *
  have hin : ∀ a ∈ cting f (A.take k), bt f.least r a = true ∧ a.t ≤ r.t := by
    intro a ha
    refine ⟨?_, hle a (List.mem_filter.1 ha).1⟩
    rcases h with ⟨_, e, _⟩ | ⟨e, hB⟩
    · rw [e] at ha; simp at ha
    · exact bt_trans (hb e) (hB.good a ha)
  refine ⟨by simp, fun a ha => ?_, fun a ha _ => ?_⟩
  · rcases List.mem_append.1 ha with ha | ha
    · exact (hin a ha).1
    · rw [List.mem_singleton.1 ha]; exact bt_refl _ _
  · rcases List.mem_append.1 ha with ha | ha
    · exact (hin a ha).2
    · rw [List.mem_singleton.1 ha]; exact Nat.le_refl _
theorem RB.leave {f : FS} {A : List Rd} {k : Nat} {best : Rd} (h : RB f A k best true) (hk : k < A.length) (hc : cnts f.win f.t (A.getD k Itm.z) = true) (hb : ¬ bt f.least (A.getD k Itm.z) best = true) : RB f A (k + 1) best true := by
  rcases h with ⟨e, _⟩ | ⟨_, hB⟩
  · cases e
  · refine .inr ⟨rfl, ?_⟩
    rw [cting_more f A hk, if_pos hc]
    generalize A.getD k Itm.z = r at *
    refine ⟨List.mem_append_left _ hB.mem, fun a ha => ?_, fun a ha e => ?_⟩
    · rcases List.mem_append.1 ha with ha | ha
      · exact hB.good a ha
      · rw [List.mem_singleton.1 ha]; exact bt_total hb
    · rcases List.mem_append.1 ha with ha | ha
      · exact hB.last a ha e
      · rw [List.mem_singleton.1 ha] at e; exact absurd (bt_of_eq e) hb
theorem RB.fin {f : FS} {A : List Rd} {best : Rd} {o : Bool} (h : RB f A A.length best o) (hi : Inv f A) : best = f.best ∧ o = f.some := by
  unfold RB at h
  rw [List.take_length] at h
  rcases hs : f.some
  · obtain ⟨h1, h2⟩ := hi.none hs
    rcases h with ⟨e, _, e2⟩ | ⟨e, hB⟩
    · exact ⟨by rw [h2, e2], e⟩
    · have := hB.mem; rw [h1] at this; simp at this
  · have hB := hi.best hs
    rcases h with ⟨e, e1, e2⟩ | ⟨e, hB2⟩
    · have := hB.mem; rw [e1] at this; simp at this
    · exact ⟨hB2.uniq hB, e⟩
/-- The time behind To, and Put. -/
def nowOf (now t : Nat) : Nat := if t < now then now else t
/-- The blocks of the document's filter. -/
def mblocks (m : Nat) (v : Value) : List Nat := m :: v.ownBlock.toList

structure MPost (E : Nat → Value) (w : World) (B m : Nat) (v : Value) (r : Ending) (win : Nat) (s : Bool) (now : Nat) (A : List Rd) (e : Ending) (w' : World) : Prop where
  e : e = r
  at_ : ∃ v', MAt E w' B m v' win s now A
  fr : Fr w w' (mblocks m v)

set_option maxHeartbeats 400000 in
theorem me_To {E : Nat → Value} (B m win now t : Nat) (s : Bool) (v : Value) (A : List Rd) (w : World) (h : MAt E w B m v win s now A) :
    Calls Tryz.prog 93 #[.pointer (some ⟨m, 9, none⟩), .int .u64 (t : Int)] w fun e w' => e = .returned (.int .i64 (if t < now then 2 else 0)) ∧ MAt E w' B m v win s (nowOf now t) A ∧ Fr w w' [m] := by
  have HH := Lib.hid h
  have a2 := h.head.cell (i := 11) (v := .int .u64 (now : Int)) rfl
  have f2 := h.head.free 11
  have HV := Lib.hid (h.row.ne h.head (by decide))
  clear h
  by_cases c : t < now
  · have d : decide (t < now) = true := by simpa using c
    have HE : Hid (nowOf now t = now) := Lib.hid (if_pos c)
    rw [if_pos c]
    clear c
    go_enter Tryz.func93, Tryz.ntmps93
    go_wp2_with fail
    go_ret
    rw [HE.out]
    exact ⟨rfl, HH.out, Fr.refl _ _⟩
  · have d : decide (t < now) = false := by simpa using c
    have HE : Hid (nowOf now t = t) := Lib.hid (if_neg c)
    rw [if_neg c]
    clear c
    go_enter Tryz.func93, Tryz.ntmps93
    go_wp2_with fail
    go_ret
    rw [HE.out]
    refine ⟨rfl, ⟨?_, HH.out.row.set_other HV.out⟩, (Fr.refl _ _).set (by simp) _ _⟩
    exact HH.out.head.set 11 (.int .u64 (t : Int))

/-- All readings behind Put. -/
def putAll (A : List Rd) (now t x : Nat) : List Rd := if t < now then A else A ++ [⟨t, x⟩]

set_option maxHeartbeats 1000000 in
theorem me_Put {E : Nat → Value} (B m win now t x : Nat) (s : Bool) (v : Value) (A : List Rd) (w : World) (h : MAt E w B m v win s now A) (hB : B ≤ w.heap.size) (hn : A.length ≤ 1000) :
    Calls Tryz.prog 94 #[.pointer (some ⟨m, 9, none⟩), .int .u64 (t : Int), .int .u64 (x : Int)] w (MPost E w B m v (.returned (.int .i64 (if t < now then 2 else 0))) win s (nowOf now t) (putAll A now t x)) := by
  obtain ⟨i0, hi, hz0, hz1, hz2⟩ := info_parts re_info
  have HI := Lib.hid hi
  have HZ0 := Lib.hid hz0
  have HZ1 := Lib.hid hz1
  have HZ2 := Lib.hid hz2
  clear hi hz0 hz1 hz2
  have HT := Lib.hid (me_To B m win now t s v A w h)
  clear h
  by_cases c : t < now
  · have HE : Hid (putAll A now t x = A) := Lib.hid (if_pos c)
    rw [if_pos c] at HT ⊢
    clear c
    go_enter Tryz.func94, Tryz.ntmps94
    go_wp2_with fail
    refine (HT.out).mono ?_
    rintro e w2 ⟨rfl, hm, hf⟩
    have HM := Lib.hid hm
    have HF := Lib.hid hf
    clear hm hf HT
    go_wp2_with fail
    go_ret
    rw [HE.out]
    exact ⟨rfl, ⟨v, HM.out⟩, HF.out.mono (by intro y hy; simp at hy; left; simp [mblocks, hy])⟩
  · have HE : Hid (putAll A now t x = A ++ [⟨t, x⟩]) := Lib.hid (if_neg c)
    rw [if_neg c] at HT ⊢
    clear c
    go_enter Tryz.func94, Tryz.ntmps94
    go_wp2_with fail
    refine (HT.out).mono ?_
    rintro e w2 ⟨rfl, hm, hf⟩
    have HM := Lib.hid hm
    have HF := Lib.hid hf
    have m3 := hm.head.cell (i := 12) (v := v) rfl
    have HOw := Lib.hid ((hm.row.keep ((Below.refl _ _).alloc (Nat.le_refl _) (.cells #[.int .u64 (t : Int), .int .u64 (x : Int)] 153))).own)
    have HNw := Lib.hid (Blk.new w2 153 #[.int .u64 (t : Int), .int .u64 (x : Int)])
    have HV := Lib.hid (hm.row.ne hm.head (by decide))
    have hB2 : B ≤ w2.heap.size := Nat.le_trans hB hf.size
    clear hm hf HT
    go_wp2_with (at_builtin; go_loud (refine wpList_append_lies _ rfl (.tmp 17) (.tmp 21) 65 (by rfl) B 153 i0 (.agg #[.int .u64 0, .int .u64 0]) 2 16 Tryz.underlying65 HI.out HZ0.out HZ1.out HZ2.out rfl (by decide) v A.length (A.flatMap (Itm.cs (α := Rd))) (by rfl) HOw.out ⟨w2.heap.size, 0, none⟩ 1 1 [.int .u64 (t : Int), .int .u64 (x : Int)] (by rfl) (by rfl) (World.news_of_block HNw.out) (Itm.one (⟨t, x⟩ : Rd)) (by decide) (by unfold maxLen; omega) (by omega) (by simp; omega) (w2.heap.size + 1) (by simp) ?_; intro g0 cap w5 hown hgrow hat hltg; have HOn := Lib.hid hown; have HGr := Lib.hid hgrow; have HAt := Lib.hid hat; clear hown hgrow hat; have HH5 := Lib.hid ((HM.out.head.alloc (.cells #[.int .u64 (t : Int), .int .u64 (x : Int)] 153)).grown HGr.out (fun e => HV.out e.symm)); have d0 := HH5.out.cell (i := 12) (v := v) rfl; have d1 := HH5.out.free 12))
    go_ret
    rw [HE.out]
    have hmg : m ≠ g0 := by
      rcases HAt.out with k | k
      · intro e; subst e; exact HV.out k
      · have := HM.out.head.lt; omega
    refine ⟨rfl, ⟨.slice (some ⟨g0, 0, none⟩) (A.length + 1) cap, ?_, ?_⟩, ?_⟩
    · exact HH5.out.set 12 (.slice (some ⟨g0, 0, none⟩) (A.length + 1) cap)
    · exact (RL.mk ⟨t, x⟩ rfl HOn.out).set_other (by simp [Value.ownBlock]; omega)
    · have h1 : Fr w (w2.alloc (.cells #[.int .u64 (t : Int), .int .u64 (x : Int)] 153)) (mblocks m v) := (HF.out.mono (by intro y hy; simp at hy; left; simp [mblocks, hy])).alloc _
      have h2 : Fr (w2.alloc (.cells #[.int .u64 (t : Int), .int .u64 (x : Int)] 153)) w5 (mblocks m v) := ⟨HGr.out.os, HGr.out.tape, HGr.out.output, HGr.out.size, fun k hk hl => HGr.out.block k hk (fun e => hl (by simp [mblocks, ← e]))⟩
      exact (h1.trans h2 (fun y hy => .inl hy)).set (by simp [mblocks]) _ _

set_option maxHeartbeats 2000000 in
theorem me_Best_least {E : Nat → Value} (B m : Nat) (v : Value) (f : FS) (A : List Rd) (w : World) (h : MAt E w B m v f.win f.least f.t A) (hi : Inv f A) (ho : f.ok) (hn : A.length ≤ 1000) (hl : f.least = true) :
    Calls Tryz.prog 64 #[.pointer (some ⟨m, 9, none⟩)] w fun e w' => e = .returned (bestV f) ∧ Below w.heap.size w w' := by
  have hst := hi.sorted
  have hpast := hi.past
  have hft := ho.t
  have HIv := Lib.hid hi
  have hmz0 : m ≠ w.heap.size := h.head.old
  have hvz0 : v.ownBlock ≠ some w.heap.size := by
    intro e
    rcases h.row.2 with ⟨rfl, _⟩ | ⟨g, cap, rfl, _⟩
    · simp [Value.ownBlock] at e
    · simp [Value.ownBlock] at e
      obtain ⟨cs, hb, _⟩ := RL.blk h.row
      have := hb.lt
      omega
  have hmz := hmz0
  have HM0 := Lib.hid (h.keep ((Below.refl _ _).alloc (Nat.le_refl _) (.cells #[.int .u64 0, .int .u64 0] 153)))
  have HW0 : Hid (Below w.heap.size w (w.alloc (.cells #[.int .u64 0, .int .u64 0] 153))) := Lib.hid ((Below.refl _ _).alloc (Nat.le_refl _) _)
  have HZ0 := Lib.hid (Blk.new w 153 #[.int .u64 0, .int .u64 0])
  have HWn := ho.win
  obtain ⟨p8, c8, hv⟩ := h.row.len_val
  subst hv
  clear h ho hi hmz0
  unfold bestV
  go_enter Tryz.func64, Tryz.ntmps64
  go_wp2_with fail
  go_loopw [6, 7] (fun so i wr => ∃ (k : Nat) (bst : Rd) (o : Bool), so = .bool o ∧ i = .int .i64 (k : Int) ∧ k ≤ A.length ∧ RB f A k bst o ∧ Blk wr w.heap.size 153 (Itm.cs bst).toArray ∧ MAt E wr B m (.slice p8 A.length c8) f.win f.least f.t A ∧ Below w.heap.size w wr) (fun _ i _ => A.length - (intOf i).toNat)
  case atStart => exact ⟨0, ⟨0, 0⟩, false, rfl, rfl, Nat.zero_le _, .inl ⟨rfl, by simp [cting], rfl⟩, HZ0.out, HM0.out, HW0.out⟩
  case round =>
    obtain ⟨k, bst, o, rfl, rfl, hk, hrb, hz, hm, hb⟩ := hrel
    have HRB := Lib.hid hrb
    have HZ := Lib.hid hz
    have HM := Lib.hid hm
    have HW := Lib.hid hb
    clear hrb hz hm hb HM0 HZ0
    have m3 := HM.out.head.cell (i := 12) (v := .slice p8 A.length c8) rfl
    by_cases hlt : k < A.length
    · obtain ⟨g8, c9, hp8⟩ := HM.out.row.form (by omega)
      injection hp8 with hp8 _ hc9
      subst hp8
      subst hc9
      have hvz : (Value.slice (some ⟨g8, 0, none⟩) A.length c8).ownBlock ≠ some w.heap.size := hvz0
      obtain ⟨z0, z1⟩ := RL.cells HM.out.row hlt
      have hmem : A.getD k Itm.z ∈ A := by simp [List.getD_eq_getElem?_getD, hlt]
      have hrt : (A.getD k Itm.z).t ≤ f.t := hpast _ hmem
      obtain ⟨r, hr⟩ : ∃ r, r = A.getD k Itm.z := ⟨_, rfl⟩
      have HrE := Lib.hid hr
      rw [← hr] at z0 z1 hrt
      clear hr hmem
      have HC := Lib.hid (me_Counts B m f.win f.t f.least _ A r wr HM.out HWn (by omega))
      unfold Rd.agg at HC
      have i0 : (0 : Int) ≤ (k : Int) := by omega
      have i1 : (k : Int) < (A.length : Int) := by omega
      go_wp2_with fail
      refine (HC.out).mono ?_
      rintro e w2 ⟨rfl, hb⟩
      have HZ2 := Lib.hid (HZ.out.keep hb)
      have HM2 := Lib.hid (HM.out.keep hb)
      have HW2 := Lib.hid (bel_to HW.out hb HW.out.size)
      clear hb HC z0 z1 m3 HZ HM HW
      by_cases hc : cnts f.win f.t r = true
      · have hcc : cnts f.win f.t (A.getD k Itm.z) = true := by rw [← HrE.out]; exact hc
        rw [hc]
        clear hc
        have m3 := HM2.out.head.cell (i := 12) (v := .slice (some ⟨g8, 0, none⟩) A.length c8) rfl
        obtain ⟨z0, z1⟩ := RL.cells HM2.out.row hlt
        rw [← HrE.out] at z0 z1
        rcases o
        · have HRB2 := Lib.hid (RB.take HRB.out hst hlt hcc (fun e => by cases e))
          have m1 : w2.cell? ⟨m, 10, none⟩ = some (.bool true) := by have := HM2.out.head.cell (i := 10) (v := .bool f.least) rfl; rw [hl] at this; exact this
          have p1 := HZ2.out.cell (i := 1) (v := .int .u64 (bst.x : Int)) rfl
          go_wp2_with fail
          go_quiet (fail)
          have HD : Hid (Drawn w2 (w2.drewN nq)) := Lib.hid ⟨nq, rfl⟩
          have HZ3 := Lib.hid (HD.out.blk HZ2.out)
          have HM3 := Lib.hid (HM2.out.keep (HD.out.below _))
          have HW3 := Lib.hid (HW2.out.trans (HD.out.below _))
          generalize w2.drewN nq = w3 at *
          clear m1 p1
          have p0 := HZ3.out.cell (i := 0) (v := .int .u64 (bst.t : Int)) rfl
          have p1 := HZ3.out.cell (i := 1) (v := .int .u64 (bst.x : Int)) rfl
          have k0 := HZ3.out.free 0
          have k1 := HZ3.out.free 1
          have m3 := HM3.out.head.cell (i := 12) (v := .slice (some ⟨g8, 0, none⟩) A.length c8) rfl
          obtain ⟨z0, z1⟩ := RL.cells HM3.out.row hlt
          rw [← HrE.out] at z0 z1
          go_wp2_with fail
          have HZ4 : Hid (Blk ((w3.setCell ⟨w.heap.size, 0, none⟩ (.int .u64 (r.t : Int))).setCell ⟨w.heap.size, 1, none⟩ (.int .u64 (r.x : Int))) w.heap.size 153 (Itm.cs r).toArray) := Lib.hid (Blk.whole (Itm.cs r) HZ3.out rfl)
          have HM4 : Hid (MAt E ((w3.setCell ⟨w.heap.size, 0, none⟩ (.int .u64 (r.t : Int))).setCell ⟨w.heap.size, 1, none⟩ (.int .u64 (r.x : Int))) B m (.slice (some ⟨g8, 0, none⟩) A.length c8) f.win f.least f.t A) := Lib.hid ⟨(HM3.out.head.set_other _ _ hmz).set_other _ _ hmz, (HM3.out.row.set_other hvz).set_other hvz⟩
          have HW4 : Hid (Below w.heap.size w ((w3.setCell ⟨w.heap.size, 0, none⟩ (.int .u64 (r.t : Int))).setCell ⟨w.heap.size, 1, none⟩ (.int .u64 (r.x : Int)))) := Lib.hid ((HW3.out.setCell (p := ⟨w.heap.size, 0, none⟩) (Nat.le_refl _) _).setCell (p := ⟨w.heap.size, 1, none⟩) (Nat.le_refl _) _)
          rw [HrE.out] at HZ4 HM4 HW4
          go_roundw
          case rel => exact ⟨k + 1, A.getD k Itm.z, true, rfl, by go_num, by omega, HRB2.out, by rw [← HrE.out]; rw [← HrE.out] at HZ4; exact HZ4.out, by rw [← HrE.out] at HM4; exact HM4.out, by rw [← HrE.out] at HW4; exact HW4.out⟩
          case measure => simp [intOf]; omega
        · skip
          by_cases e1 : r.x = bst.x
          · have u1 : (((r.x : Nat) : Int) == (bst.x : Int)) = true := by simp [e1]
            have HRB2 := Lib.hid (RB.take HRB.out hst hlt hcc (fun _ => by rw [← HrE.out]; exact bt_of_eq e1))
            clear e1
            have m1 : w2.cell? ⟨m, 10, none⟩ = some (.bool true) := by have := HM2.out.head.cell (i := 10) (v := .bool f.least) rfl; rw [hl] at this; exact this
            have p1 := HZ2.out.cell (i := 1) (v := .int .u64 (bst.x : Int)) rfl
            go_wp2_with fail
            go_quiet (fail)
            have HD : Hid (Drawn w2 (w2.drewN nq)) := Lib.hid ⟨nq, rfl⟩
            have HZ3 := Lib.hid (HD.out.blk HZ2.out)
            have HM3 := Lib.hid (HM2.out.keep (HD.out.below _))
            have HW3 := Lib.hid (HW2.out.trans (HD.out.below _))
            generalize w2.drewN nq = w3 at *
            clear m1 p1
            have p0 := HZ3.out.cell (i := 0) (v := .int .u64 (bst.t : Int)) rfl
            have p1 := HZ3.out.cell (i := 1) (v := .int .u64 (bst.x : Int)) rfl
            have k0 := HZ3.out.free 0
            have k1 := HZ3.out.free 1
            have m3 := HM3.out.head.cell (i := 12) (v := .slice (some ⟨g8, 0, none⟩) A.length c8) rfl
            obtain ⟨z0, z1⟩ := RL.cells HM3.out.row hlt
            rw [← HrE.out] at z0 z1
            go_wp2_with fail
            have HZ4 : Hid (Blk ((w3.setCell ⟨w.heap.size, 0, none⟩ (.int .u64 (r.t : Int))).setCell ⟨w.heap.size, 1, none⟩ (.int .u64 (r.x : Int))) w.heap.size 153 (Itm.cs r).toArray) := Lib.hid (Blk.whole (Itm.cs r) HZ3.out rfl)
            have HM4 : Hid (MAt E ((w3.setCell ⟨w.heap.size, 0, none⟩ (.int .u64 (r.t : Int))).setCell ⟨w.heap.size, 1, none⟩ (.int .u64 (r.x : Int))) B m (.slice (some ⟨g8, 0, none⟩) A.length c8) f.win f.least f.t A) := Lib.hid ⟨(HM3.out.head.set_other _ _ hmz).set_other _ _ hmz, (HM3.out.row.set_other hvz).set_other hvz⟩
            have HW4 : Hid (Below w.heap.size w ((w3.setCell ⟨w.heap.size, 0, none⟩ (.int .u64 (r.t : Int))).setCell ⟨w.heap.size, 1, none⟩ (.int .u64 (r.x : Int)))) := Lib.hid ((HW3.out.setCell (p := ⟨w.heap.size, 0, none⟩) (Nat.le_refl _) _).setCell (p := ⟨w.heap.size, 1, none⟩) (Nat.le_refl _) _)
            rw [HrE.out] at HZ4 HM4 HW4
            go_roundw
            case rel => exact ⟨k + 1, A.getD k Itm.z, true, rfl, by go_num, by omega, HRB2.out, by rw [← HrE.out]; rw [← HrE.out] at HZ4; exact HZ4.out, by rw [← HrE.out] at HM4; exact HM4.out, by rw [← HrE.out] at HW4; exact HW4.out⟩
            case measure => simp [intOf]; omega
          · have u1 : (((r.x : Nat) : Int) == (bst.x : Int)) = false := by simp; omega
            by_cases e2 : r.x < bst.x
            · have u2 : decide (r.x < bst.x) = true := by simpa using e2
              have HRB2 := Lib.hid (RB.take HRB.out hst hlt hcc (fun _ => by rw [← HrE.out, hl]; unfold bt; simp; omega))
              clear e1 e2
              have m1 : w2.cell? ⟨m, 10, none⟩ = some (.bool true) := by have := HM2.out.head.cell (i := 10) (v := .bool f.least) rfl; rw [hl] at this; exact this
              have p1 := HZ2.out.cell (i := 1) (v := .int .u64 (bst.x : Int)) rfl
              go_wp2_with fail
              go_quiet (fail)
              have HD : Hid (Drawn w2 (w2.drewN nq)) := Lib.hid ⟨nq, rfl⟩
              have HZ3 := Lib.hid (HD.out.blk HZ2.out)
              have HM3 := Lib.hid (HM2.out.keep (HD.out.below _))
              have HW3 := Lib.hid (HW2.out.trans (HD.out.below _))
              generalize w2.drewN nq = w3 at *
              clear m1 p1
              have p0 := HZ3.out.cell (i := 0) (v := .int .u64 (bst.t : Int)) rfl
              have p1 := HZ3.out.cell (i := 1) (v := .int .u64 (bst.x : Int)) rfl
              have k0 := HZ3.out.free 0
              have k1 := HZ3.out.free 1
              have m3 := HM3.out.head.cell (i := 12) (v := .slice (some ⟨g8, 0, none⟩) A.length c8) rfl
              obtain ⟨z0, z1⟩ := RL.cells HM3.out.row hlt
              rw [← HrE.out] at z0 z1
              go_wp2_with fail
              have HZ4 : Hid (Blk ((w3.setCell ⟨w.heap.size, 0, none⟩ (.int .u64 (r.t : Int))).setCell ⟨w.heap.size, 1, none⟩ (.int .u64 (r.x : Int))) w.heap.size 153 (Itm.cs r).toArray) := Lib.hid (Blk.whole (Itm.cs r) HZ3.out rfl)
              have HM4 : Hid (MAt E ((w3.setCell ⟨w.heap.size, 0, none⟩ (.int .u64 (r.t : Int))).setCell ⟨w.heap.size, 1, none⟩ (.int .u64 (r.x : Int))) B m (.slice (some ⟨g8, 0, none⟩) A.length c8) f.win f.least f.t A) := Lib.hid ⟨(HM3.out.head.set_other _ _ hmz).set_other _ _ hmz, (HM3.out.row.set_other hvz).set_other hvz⟩
              have HW4 : Hid (Below w.heap.size w ((w3.setCell ⟨w.heap.size, 0, none⟩ (.int .u64 (r.t : Int))).setCell ⟨w.heap.size, 1, none⟩ (.int .u64 (r.x : Int)))) := Lib.hid ((HW3.out.setCell (p := ⟨w.heap.size, 0, none⟩) (Nat.le_refl _) _).setCell (p := ⟨w.heap.size, 1, none⟩) (Nat.le_refl _) _)
              rw [HrE.out] at HZ4 HM4 HW4
              go_roundw
              case rel => exact ⟨k + 1, A.getD k Itm.z, true, rfl, by go_num, by omega, HRB2.out, by rw [← HrE.out]; rw [← HrE.out] at HZ4; exact HZ4.out, by rw [← HrE.out] at HM4; exact HM4.out, by rw [← HrE.out] at HW4; exact HW4.out⟩
              case measure => simp [intOf]; omega
            · have u2 : decide (r.x < bst.x) = false := by simpa using e2
              have HRB2 := Lib.hid (RB.leave HRB.out hlt hcc (by rw [← HrE.out, hl]; unfold bt; simp; omega))
              clear e1 e2
              have m1 : w2.cell? ⟨m, 10, none⟩ = some (.bool true) := by have := HM2.out.head.cell (i := 10) (v := .bool f.least) rfl; rw [hl] at this; exact this
              have p1 := HZ2.out.cell (i := 1) (v := .int .u64 (bst.x : Int)) rfl
              go_wp2_with fail
              go_quiet (fail)
              have HD : Hid (Drawn w2 (w2.drewN nq)) := Lib.hid ⟨nq, rfl⟩
              have HZ3 := Lib.hid (HD.out.blk HZ2.out)
              have HM3 := Lib.hid (HM2.out.keep (HD.out.below _))
              have HW3 := Lib.hid (HW2.out.trans (HD.out.below _))
              generalize w2.drewN nq = w3 at *
              clear m1 p1
              go_wp2_with fail
              go_roundw
              case rel => exact ⟨k + 1, bst, true, rfl, by go_num, by omega, HRB2.out, HZ3.out, HM3.out, HW3.out⟩
              case measure => simp [intOf]; omega
      · have HRB2 := Lib.hid (RB.skip HRB.out hlt (by rw [← HrE.out]; exact eq_false_of_ne_true hc))
        rw [eq_false_of_ne_true hc]
        clear hc
        go_wp2_with fail
        go_roundw
        case rel => exact ⟨k + 1, bst, o, rfl, by go_num, by omega, HRB2.out, HZ2.out, HM2.out, HW2.out⟩
        case measure => simp [intOf]; omega
    · obtain rfl : k = A.length := by omega
      have HFin := Lib.hid (RB.fin HRB.out HIv.out)
      have p0 := HZ.out.cell (i := 0) (v := .int .u64 (bst.t : Int)) rfl
      have p1 := HZ.out.cell (i := 1) (v := .int .u64 (bst.x : Int)) rfl
      go_wp2_with fail
      go_quiet (fail)
      have HD : Hid (Drawn wr (wr.drewN nq)) := Lib.hid ⟨nq, rfl⟩
      go_wp2_with fail
      go_ret3
      exact ⟨by rw [← HFin.out.1, ← HFin.out.2]; rfl, HW.out.trans (HD.out.below _)⟩

end Go.Proofs.YtpkbjfhicocogaaGreatDoor
