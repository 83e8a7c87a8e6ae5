/- Contracts of the document's own filter (goitref05) over this translation: To, Put, Best. -/
import Derived.Test.YthhiljaceobnmaaMe
set_option linter.unusedVariables false
namespace Go.Proofs.Ythhiljaceobnmaa
open Go.RowKit Pl

/-- The time behind To, and Put. -/
def nowOf (now t : Nat) : Nat := if t < now then now else t
/-- The blocks of the document's filter. -/
def mblocks (m : Nat) (v : Value) : List Nat := m :: v.ownBlock.toList

structure MPost (w : World) (B m : Nat) (v : Value) (r : Ending) (win : Nat) (s : Bool) (now : Nat) (A : List Rd) (e : Ending) (w' : World) : Prop where
  e : e = r
  at_ : ∃ v', MAt w' B m v' win s now A
  fr : Fr w w' (mblocks m v)

set_option maxHeartbeats 400000 in
theorem me_To (B m win now t : Nat) (s : Bool) (v : Value) (A : List Rd) (w : World) (h : MAt w B m v win s now A) :
    Calls Try.prog 20 #[.pointer (some ⟨m, 0, none⟩), .int .u64 (t : Int)] w fun e w' => e = .returned (.int .i64 (if t < now then 2 else 0)) ∧ MAt w' B m v win s (nowOf now t) A ∧ Fr w w' [m] := by
  have HH := Lib.hid h
  have a2 := h.head.cell (i := 2) (v := .int .u64 (now : Int)) rfl
  have f2 := h.head.free 2
  have HV := Lib.hid (h.row.ne h.head (by decide))
  clear h
  by_cases c : t < now
  · have d : decide (t < now) = true := by simpa using c
    have HE : Hid (nowOf now t = now) := Lib.hid (if_pos c)
    rw [if_pos c]
    clear c
    go_enter Try.func20, Try.ntmps20
    go_wp2_with fail
    go_ret
    rw [HE.out]
    exact ⟨rfl, HH.out, Fr.refl _ _⟩
  · have d : decide (t < now) = false := by simpa using c
    have HE : Hid (nowOf now t = t) := Lib.hid (if_neg c)
    rw [if_neg c]
    clear c
    go_enter Try.func20, Try.ntmps20
    go_wp2_with fail
    go_ret
    rw [HE.out]
    refine ⟨rfl, ⟨?_, HH.out.row.set_other HV.out⟩, (Fr.refl _ _).set (by simp) _ _⟩
    have := HH.out.head.set 2 (.int .u64 (t : Int))
    simpa using this

/-- All readings behind Put. -/
def putAll (A : List Rd) (now t x : Nat) : List Rd := if t < now then A else A ++ [⟨t, x⟩]

set_option maxHeartbeats 1000000 in
theorem me_Put (B m win now t x : Nat) (s : Bool) (v : Value) (A : List Rd) (w : World) (h : MAt w B m v win s now A) (hB : B ≤ w.heap.size) (hn : A.length ≤ 1000) :
    Calls Try.prog 19 #[.pointer (some ⟨m, 0, none⟩), .int .u64 (t : Int), .int .u64 (x : Int)] w (MPost w B m v (.returned (.int .i64 (if t < now then 2 else 0))) win s (nowOf now t) (putAll A now t x)) := by
  obtain ⟨i0, hi, hz0, hz1, hz2⟩ := info_parts re_info
  have HI := Lib.hid hi
  have HZ0 := Lib.hid hz0
  have HZ1 := Lib.hid hz1
  have HZ2 := Lib.hid hz2
  clear hi hz0 hz1 hz2
  have HT := Lib.hid (me_To B m win now t s v A w h)
  clear h
  by_cases c : t < now
  · have HE : Hid (putAll A now t x = A) := Lib.hid (if_pos c)
    rw [if_pos c] at HT ⊢
    clear c
    go_enter Try.func19, Try.ntmps19
    go_wp2_with fail
    refine (HT.out).mono ?_
    rintro e w2 ⟨rfl, hm, hf⟩
    have HM := Lib.hid hm
    have HF := Lib.hid hf
    clear hm hf HT
    go_wp2_with fail
    go_ret
    rw [HE.out]
    exact ⟨rfl, ⟨v, HM.out⟩, HF.out.mono (by intro y hy; simp at hy; left; simp [mblocks, hy])⟩
  · have HE : Hid (putAll A now t x = A ++ [⟨t, x⟩]) := Lib.hid (if_neg c)
    rw [if_neg c] at HT ⊢
    clear c
    go_enter Try.func19, Try.ntmps19
    go_wp2_with fail
    refine (HT.out).mono ?_
    rintro e w2 ⟨rfl, hm, hf⟩
    have HM := Lib.hid hm
    have HF := Lib.hid hf
    have m3 := hm.head.cell (i := 3) (v := v) rfl
    have HOw := Lib.hid ((hm.row.keep ((Below.refl _ _).alloc (Nat.le_refl _) (.cells #[.int .u64 (t : Int), .int .u64 (x : Int)] 34))).own)
    have HNw := Lib.hid (Blk.new w2 34 #[.int .u64 (t : Int), .int .u64 (x : Int)])
    have HV := Lib.hid (hm.row.ne hm.head (by decide))
    have hB2 : B ≤ w2.heap.size := Nat.le_trans hB hf.size
    clear hm hf HT
    go_wp2_with (at_builtin; go_loud (refine wpList_append_lies _ rfl (.tmp 17) (.tmp 21) 27 (by rfl) B 34 i0 (.agg #[.int .u64 0, .int .u64 0]) 2 16 Try.underlying27 HI.out HZ0.out HZ1.out HZ2.out rfl (by decide) v A.length (A.flatMap (Itm.cs (α := Rd))) (by rfl) HOw.out ⟨w2.heap.size, 0, none⟩ 1 1 [.int .u64 (t : Int), .int .u64 (x : Int)] (by rfl) (by rfl) (World.news_of_block HNw.out) (Itm.one (⟨t, x⟩ : Rd)) (by decide) (by unfold maxLen; omega) (by omega) (by simp; omega) (w2.heap.size + 1) (by simp) ?_; intro g0 cap w5 hown hgrow hat hltg; have HOn := Lib.hid hown; have HGr := Lib.hid hgrow; have HAt := Lib.hid hat; clear hown hgrow hat; have HH5 := Lib.hid ((HM.out.head.alloc (.cells #[.int .u64 (t : Int), .int .u64 (x : Int)] 34)).grown HGr.out (fun e => HV.out e.symm)); have d0 := HH5.out.cell (i := 3) (v := v) rfl; have d1 := HH5.out.free 3))
    go_ret
    rw [HE.out]
    have hmg : m ≠ g0 := by
      rcases HAt.out with k | k
      · intro e; subst e; exact HV.out k
      · have := HM.out.head.lt; omega
    refine ⟨rfl, ⟨.slice (some ⟨g0, 0, none⟩) (A.length + 1) cap, ?_, ?_⟩, ?_⟩
    · have := HH5.out.set 3 (.slice (some ⟨g0, 0, none⟩) (A.length + 1) cap)
      simpa using this
    · exact (RL.mk ⟨t, x⟩ rfl HOn.out).set_other (by simp [Value.ownBlock]; omega)
    · have h1 : Fr w (w2.alloc (.cells #[.int .u64 (t : Int), .int .u64 (x : Int)] 34)) (mblocks m v) := (HF.out.mono (by intro y hy; simp at hy; left; simp [mblocks, hy])).alloc _
      have h2 : Fr (w2.alloc (.cells #[.int .u64 (t : Int), .int .u64 (x : Int)] 34)) w5 (mblocks m v) := ⟨HGr.out.os, HGr.out.tape, HGr.out.output, HGr.out.size, fun k hk hl => HGr.out.block k hk (fun e => hl (by simp [mblocks, ← e]))⟩
      exact (h1.trans h2 (fun y hy => .inl hy)).set (by simp [mblocks]) _ _

set_option maxHeartbeats 2000000 in
theorem me_Best_least (B m : Nat) (v : Value) (f : FS) (A : List Rd) (w : World) (h : MAt w B m v f.win f.least f.t A) (hi : Inv f A) (ho : f.ok) (hn : A.length ≤ 1000) (hl : f.least = true) :
    Calls Try.prog 22 #[.pointer (some ⟨m, 0, none⟩)] w fun e w' => e = .returned (bestV f) ∧ Below w.heap.size w w' := by
  have hst := hi.sorted
  have hpast := hi.past
  have hft := ho.t
  have HIv := Lib.hid hi
  have hmz0 : m ≠ w.heap.size := h.head.old
  have hvz0 : v.ownBlock ≠ some w.heap.size := by
    intro e
    rcases h.row.2 with ⟨rfl, _⟩ | ⟨g, cap, rfl, _⟩
    · simp [Value.ownBlock] at e
    · simp [Value.ownBlock] at e
      obtain ⟨cs, hb, _⟩ := RL.blk h.row
      have := hb.lt
      omega
  have hmz := hmz0
  have HM0 := Lib.hid (h.keep ((Below.refl _ _).alloc (Nat.le_refl _) (.cells #[.int .u64 0, .int .u64 0] 34)))
  have HW0 : Hid (Below w.heap.size w (w.alloc (.cells #[.int .u64 0, .int .u64 0] 34))) := Lib.hid ((Below.refl _ _).alloc (Nat.le_refl _) _)
  have HZ0 := Lib.hid (Blk.new w 34 #[.int .u64 0, .int .u64 0])
  have HWn := ho.win
  obtain ⟨p8, c8, hv⟩ := h.row.len_val
  subst hv
  clear h ho hi hmz0
  unfold bestV
  go_enter Try.func22, Try.ntmps22
  go_wp2_with fail
  go_loopw [6, 7] (fun so i wr => ∃ (k : Nat) (bst : Rd) (o : Bool), so = .bool o ∧ i = .int .i64 (k : Int) ∧ k ≤ A.length ∧ RB f A k bst o ∧ Blk wr w.heap.size 34 (Itm.cs bst).toArray ∧ MAt wr B m (.slice p8 A.length c8) f.win f.least f.t A ∧ Below w.heap.size w wr) (fun _ i _ => A.length - (intOf i).toNat)
  case atStart => exact ⟨0, ⟨0, 0⟩, false, rfl, rfl, Nat.zero_le _, .inl ⟨rfl, by simp [cting], rfl⟩, HZ0.out, HM0.out, HW0.out⟩
  case round =>
    obtain ⟨k, bst, o, rfl, rfl, hk, hrb, hz, hm, hb⟩ := hrel
    have HRB := Lib.hid hrb
    have HZ := Lib.hid hz
    have HM := Lib.hid hm
    have HW := Lib.hid hb
    clear hrb hz hm hb HM0 HZ0
    have m3 := HM.out.head.cell (i := 3) (v := .slice p8 A.length c8) rfl
    by_cases hlt : k < A.length
    · obtain ⟨g8, c9, hp8⟩ := HM.out.row.form (by omega)
      injection hp8 with hp8 _ hc9
      subst hp8
      subst hc9
      have hvz : (Value.slice (some ⟨g8, 0, none⟩) A.length c8).ownBlock ≠ some w.heap.size := hvz0
      obtain ⟨z0, z1⟩ := RL.cells HM.out.row hlt
      have hmem : A.getD k Itm.z ∈ A := by simp [List.getD_eq_getElem?_getD, hlt]
      have hrt : (A.getD k Itm.z).t ≤ f.t := hpast _ hmem
      obtain ⟨r, hr⟩ : ∃ r, r = A.getD k Itm.z := ⟨_, rfl⟩
      have HrE := Lib.hid hr
      rw [← hr] at z0 z1 hrt
      clear hr hmem
      have HC := Lib.hid (me_Counts B m f.win f.t f.least _ A r wr HM.out HWn (by omega))
      unfold Rd.agg at HC
      have i0 : (0 : Int) ≤ (k : Int) := by omega
      have i1 : (k : Int) < (A.length : Int) := by omega
      go_wp2_with fail
      refine (HC.out).mono ?_
      rintro e w2 ⟨rfl, hb⟩
      have HZ2 := Lib.hid (HZ.out.keep hb)
      have HM2 := Lib.hid (HM.out.keep hb)
      have HW2 := Lib.hid (bel_to HW.out hb HW.out.size)
      clear hb HC z0 z1 m3 HZ HM HW
      by_cases hc : cnts f.win f.t r = true
      · have hcc : cnts f.win f.t (A.getD k Itm.z) = true := by rw [← HrE.out]; exact hc
        rw [hc]
        clear hc
        have m3 := HM2.out.head.cell (i := 3) (v := .slice (some ⟨g8, 0, none⟩) A.length c8) rfl
        obtain ⟨z0, z1⟩ := RL.cells HM2.out.row hlt
        rw [← HrE.out] at z0 z1
        rcases o
        · have HRB2 := Lib.hid (RB.take HRB.out hst hlt hcc (fun e => by cases e))
          have m1 : w2.cell? ⟨m, 1, none⟩ = some (.bool true) := by have := HM2.out.head.cell (i := 1) (v := .bool f.least) rfl; rw [hl] at this; exact this
          have p1 := HZ2.out.cell (i := 1) (v := .int .u64 (bst.x : Int)) rfl
          go_wp2_with fail
          go_quiet (fail)
          have HD : Hid (Drawn w2 (w2.drewN nq)) := Lib.hid ⟨nq, rfl⟩
          have HZ3 := Lib.hid (HD.out.blk HZ2.out)
          have HM3 := Lib.hid (HM2.out.keep (HD.out.below _))
          have HW3 := Lib.hid (HW2.out.trans (HD.out.below _))
          generalize w2.drewN nq = w3 at *
          clear m1 p1
          have p0 := HZ3.out.cell (i := 0) (v := .int .u64 (bst.t : Int)) rfl
          have p1 := HZ3.out.cell (i := 1) (v := .int .u64 (bst.x : Int)) rfl
          have k0 := HZ3.out.free 0
          have k1 := HZ3.out.free 1
          have m3 := HM3.out.head.cell (i := 3) (v := .slice (some ⟨g8, 0, none⟩) A.length c8) rfl
          obtain ⟨z0, z1⟩ := RL.cells HM3.out.row hlt
          rw [← HrE.out] at z0 z1
          go_wp2_with fail
          have HZ4 : Hid (Blk ((w3.setCell ⟨w.heap.size, 0, none⟩ (.int .u64 (r.t : Int))).setCell ⟨w.heap.size, 1, none⟩ (.int .u64 (r.x : Int))) w.heap.size 34 (Itm.cs r).toArray) := Lib.hid (Blk.whole (Itm.cs r) HZ3.out rfl)
          have HM4 : Hid (MAt ((w3.setCell ⟨w.heap.size, 0, none⟩ (.int .u64 (r.t : Int))).setCell ⟨w.heap.size, 1, none⟩ (.int .u64 (r.x : Int))) B m (.slice (some ⟨g8, 0, none⟩) A.length c8) f.win f.least f.t A) := Lib.hid ⟨(HM3.out.head.set_other _ _ hmz).set_other _ _ hmz, (HM3.out.row.set_other hvz).set_other hvz⟩
          have HW4 : Hid (Below w.heap.size w ((w3.setCell ⟨w.heap.size, 0, none⟩ (.int .u64 (r.t : Int))).setCell ⟨w.heap.size, 1, none⟩ (.int .u64 (r.x : Int)))) := Lib.hid ((HW3.out.setCell (p := ⟨w.heap.size, 0, none⟩) (Nat.le_refl _) _).setCell (p := ⟨w.heap.size, 1, none⟩) (Nat.le_refl _) _)
          rw [HrE.out] at HZ4 HM4 HW4
          go_roundw
          case rel => exact ⟨k + 1, A.getD k Itm.z, true, rfl, by go_num, by omega, HRB2.out, by rw [← HrE.out]; rw [← HrE.out] at HZ4; exact HZ4.out, by rw [← HrE.out] at HM4; exact HM4.out, by rw [← HrE.out] at HW4; exact HW4.out⟩
          case measure => simp [intOf]; omega
        · skip
          by_cases e1 : r.x = bst.x
          · have u1 : (((r.x : Nat) : Int) == (bst.x : Int)) = true := by simp [e1]
            have HRB2 := Lib.hid (RB.take HRB.out hst hlt hcc (fun _ => by rw [← HrE.out]; exact bt_of_eq e1))
            clear e1
            have m1 : w2.cell? ⟨m, 1, none⟩ = some (.bool true) := by have := HM2.out.head.cell (i := 1) (v := .bool f.least) rfl; rw [hl] at this; exact this
            have p1 := HZ2.out.cell (i := 1) (v := .int .u64 (bst.x : Int)) rfl
            go_wp2_with fail
            go_quiet (fail)
            have HD : Hid (Drawn w2 (w2.drewN nq)) := Lib.hid ⟨nq, rfl⟩
            have HZ3 := Lib.hid (HD.out.blk HZ2.out)
            have HM3 := Lib.hid (HM2.out.keep (HD.out.below _))
            have HW3 := Lib.hid (HW2.out.trans (HD.out.below _))
            generalize w2.drewN nq = w3 at *
            clear m1 p1
            have p0 := HZ3.out.cell (i := 0) (v := .int .u64 (bst.t : Int)) rfl
            have p1 := HZ3.out.cell (i := 1) (v := .int .u64 (bst.x : Int)) rfl
            have k0 := HZ3.out.free 0
            have k1 := HZ3.out.free 1
            have m3 := HM3.out.head.cell (i := 3) (v := .slice (some ⟨g8, 0, none⟩) A.length c8) rfl
            obtain ⟨z0, z1⟩ := RL.cells HM3.out.row hlt
            rw [← HrE.out] at z0 z1
            go_wp2_with fail
            have HZ4 : Hid (Blk ((w3.setCell ⟨w.heap.size, 0, none⟩ (.int .u64 (r.t : Int))).setCell ⟨w.heap.size, 1, none⟩ (.int .u64 (r.x : Int))) w.heap.size 34 (Itm.cs r).toArray) := Lib.hid (Blk.whole (Itm.cs r) HZ3.out rfl)
            have HM4 : Hid (MAt ((w3.setCell ⟨w.heap.size, 0, none⟩ (.int .u64 (r.t : Int))).setCell ⟨w.heap.size, 1, none⟩ (.int .u64 (r.x : Int))) B m (.slice (some ⟨g8, 0, none⟩) A.length c8) f.win f.least f.t A) := Lib.hid ⟨(HM3.out.head.set_other _ _ hmz).set_other _ _ hmz, (HM3.out.row.set_other hvz).set_other hvz⟩
            have HW4 : Hid (Below w.heap.size w ((w3.setCell ⟨w.heap.size, 0, none⟩ (.int .u64 (r.t : Int))).setCell ⟨w.heap.size, 1, none⟩ (.int .u64 (r.x : Int)))) := Lib.hid ((HW3.out.setCell (p := ⟨w.heap.size, 0, none⟩) (Nat.le_refl _) _).setCell (p := ⟨w.heap.size, 1, none⟩) (Nat.le_refl _) _)
            rw [HrE.out] at HZ4 HM4 HW4
            go_roundw
            case rel => exact ⟨k + 1, A.getD k Itm.z, true, rfl, by go_num, by omega, HRB2.out, by rw [← HrE.out]; rw [← HrE.out] at HZ4; exact HZ4.out, by rw [← HrE.out] at HM4; exact HM4.out, by rw [← HrE.out] at HW4; exact HW4.out⟩
            case measure => simp [intOf]; omega
          · have u1 : (((r.x : Nat) : Int) == (bst.x : Int)) = false := by simp; omega
            by_cases e2 : r.x < bst.x
            · have u2 : decide (r.x < bst.x) = true := by simpa using e2
              have HRB2 := Lib.hid (RB.take HRB.out hst hlt hcc (fun _ => by rw [← HrE.out, hl]; unfold bt; simp; omega))
              clear e1 e2
              have m1 : w2.cell? ⟨m, 1, none⟩ = some (.bool true) := by have := HM2.out.head.cell (i := 1) (v := .bool f.least) rfl; rw [hl] at this; exact this
              have p1 := HZ2.out.cell (i := 1) (v := .int .u64 (bst.x : Int)) rfl
              go_wp2_with fail
              go_quiet (fail)
              have HD : Hid (Drawn w2 (w2.drewN nq)) := Lib.hid ⟨nq, rfl⟩
              have HZ3 := Lib.hid (HD.out.blk HZ2.out)
              have HM3 := Lib.hid (HM2.out.keep (HD.out.below _))
              have HW3 := Lib.hid (HW2.out.trans (HD.out.below _))
              generalize w2.drewN nq = w3 at *
              clear m1 p1
              have p0 := HZ3.out.cell (i := 0) (v := .int .u64 (bst.t : Int)) rfl
              have p1 := HZ3.out.cell (i := 1) (v := .int .u64 (bst.x : Int)) rfl
              have k0 := HZ3.out.free 0
              have k1 := HZ3.out.free 1
              have m3 := HM3.out.head.cell (i := 3) (v := .slice (some ⟨g8, 0, none⟩) A.length c8) rfl
              obtain ⟨z0, z1⟩ := RL.cells HM3.out.row hlt
              rw [← HrE.out] at z0 z1
              go_wp2_with fail
              have HZ4 : Hid (Blk ((w3.setCell ⟨w.heap.size, 0, none⟩ (.int .u64 (r.t : Int))).setCell ⟨w.heap.size, 1, none⟩ (.int .u64 (r.x : Int))) w.heap.size 34 (Itm.cs r).toArray) := Lib.hid (Blk.whole (Itm.cs r) HZ3.out rfl)
              have HM4 : Hid (MAt ((w3.setCell ⟨w.heap.size, 0, none⟩ (.int .u64 (r.t : Int))).setCell ⟨w.heap.size, 1, none⟩ (.int .u64 (r.x : Int))) B m (.slice (some ⟨g8, 0, none⟩) A.length c8) f.win f.least f.t A) := Lib.hid ⟨(HM3.out.head.set_other _ _ hmz).set_other _ _ hmz, (HM3.out.row.set_other hvz).set_other hvz⟩
              have HW4 : Hid (Below w.heap.size w ((w3.setCell ⟨w.heap.size, 0, none⟩ (.int .u64 (r.t : Int))).setCell ⟨w.heap.size, 1, none⟩ (.int .u64 (r.x : Int)))) := Lib.hid ((HW3.out.setCell (p := ⟨w.heap.size, 0, none⟩) (Nat.le_refl _) _).setCell (p := ⟨w.heap.size, 1, none⟩) (Nat.le_refl _) _)
              rw [HrE.out] at HZ4 HM4 HW4
              go_roundw
              case rel => exact ⟨k + 1, A.getD k Itm.z, true, rfl, by go_num, by omega, HRB2.out, by rw [← HrE.out]; rw [← HrE.out] at HZ4; exact HZ4.out, by rw [← HrE.out] at HM4; exact HM4.out, by rw [← HrE.out] at HW4; exact HW4.out⟩
              case measure => simp [intOf]; omega
            · have u2 : decide (r.x < bst.x) = false := by simpa using e2
              have HRB2 := Lib.hid (RB.leave HRB.out hlt hcc (by rw [← HrE.out, hl]; unfold bt; simp; omega))
              clear e1 e2
              have m1 : w2.cell? ⟨m, 1, none⟩ = some (.bool true) := by have := HM2.out.head.cell (i := 1) (v := .bool f.least) rfl; rw [hl] at this; exact this
              have p1 := HZ2.out.cell (i := 1) (v := .int .u64 (bst.x : Int)) rfl
              go_wp2_with fail
              go_quiet (fail)
              have HD : Hid (Drawn w2 (w2.drewN nq)) := Lib.hid ⟨nq, rfl⟩
              have HZ3 := Lib.hid (HD.out.blk HZ2.out)
              have HM3 := Lib.hid (HM2.out.keep (HD.out.below _))
              have HW3 := Lib.hid (HW2.out.trans (HD.out.below _))
              generalize w2.drewN nq = w3 at *
              clear m1 p1
              go_wp2_with fail
              go_roundw
              case rel => exact ⟨k + 1, bst, true, rfl, by go_num, by omega, HRB2.out, HZ3.out, HM3.out, HW3.out⟩
              case measure => simp [intOf]; omega
      · have HRB2 := Lib.hid (RB.skip HRB.out hlt (by rw [← HrE.out]; exact eq_false_of_ne_true hc))
        rw [eq_false_of_ne_true hc]
        clear hc
        go_wp2_with fail
        go_roundw
        case rel => exact ⟨k + 1, bst, o, rfl, by go_num, by omega, HRB2.out, HZ2.out, HM2.out, HW2.out⟩
        case measure => simp [intOf]; omega
    · obtain rfl : k = A.length := by omega
      have HFin := Lib.hid (RB.fin HRB.out HIv.out)
      have p0 := HZ.out.cell (i := 0) (v := .int .u64 (bst.t : Int)) rfl
      have p1 := HZ.out.cell (i := 1) (v := .int .u64 (bst.x : Int)) rfl
      go_wp2_with fail
      go_quiet (fail)
      have HD : Hid (Drawn wr (wr.drewN nq)) := Lib.hid ⟨nq, rfl⟩
      go_wp2_with fail
      go_ret3
      exact ⟨by rw [← HFin.out.1, ← HFin.out.2]; rfl, HW.out.trans (HD.out.below _)⟩

set_option maxHeartbeats 2000000 in
theorem me_Best_most (B m : Nat) (v : Value) (f : FS) (A : List Rd) (w : World) (h : MAt w B m v f.win f.least f.t A) (hi : Inv f A) (ho : f.ok) (hn : A.length ≤ 1000) (hl : f.least = false) :
    Calls Try.prog 22 #[.pointer (some ⟨m, 0, none⟩)] w fun e w' => e = .returned (bestV f) ∧ Below w.heap.size w w' := by
  have hst := hi.sorted
  have hpast := hi.past
  have hft := ho.t
  have HIv := Lib.hid hi
  have hmz0 : m ≠ w.heap.size := h.head.old
  have hvz0 : v.ownBlock ≠ some w.heap.size := by
    intro e
    rcases h.row.2 with ⟨rfl, _⟩ | ⟨g, cap, rfl, _⟩
    · simp [Value.ownBlock] at e
    · simp [Value.ownBlock] at e
      obtain ⟨cs, hb, _⟩ := RL.blk h.row
      have := hb.lt
      omega
  have hmz := hmz0
  have HM0 := Lib.hid (h.keep ((Below.refl _ _).alloc (Nat.le_refl _) (.cells #[.int .u64 0, .int .u64 0] 34)))
  have HW0 : Hid (Below w.heap.size w (w.alloc (.cells #[.int .u64 0, .int .u64 0] 34))) := Lib.hid ((Below.refl _ _).alloc (Nat.le_refl _) _)
  have HZ0 := Lib.hid (Blk.new w 34 #[.int .u64 0, .int .u64 0])
  have HWn := ho.win
  obtain ⟨p8, c8, hv⟩ := h.row.len_val
  subst hv
  clear h ho hi hmz0
  unfold bestV
  go_enter Try.func22, Try.ntmps22
  go_wp2_with fail
  go_loopw [6, 7] (fun so i wr => ∃ (k : Nat) (bst : Rd) (o : Bool), so = .bool o ∧ i = .int .i64 (k : Int) ∧ k ≤ A.length ∧ RB f A k bst o ∧ Blk wr w.heap.size 34 (Itm.cs bst).toArray ∧ MAt wr B m (.slice p8 A.length c8) f.win f.least f.t A ∧ Below w.heap.size w wr) (fun _ i _ => A.length - (intOf i).toNat)
  case atStart => exact ⟨0, ⟨0, 0⟩, false, rfl, rfl, Nat.zero_le _, .inl ⟨rfl, by simp [cting], rfl⟩, HZ0.out, HM0.out, HW0.out⟩
  case round =>
    obtain ⟨k, bst, o, rfl, rfl, hk, hrb, hz, hm, hb⟩ := hrel
    have HRB := Lib.hid hrb
    have HZ := Lib.hid hz
    have HM := Lib.hid hm
    have HW := Lib.hid hb
    clear hrb hz hm hb HM0 HZ0
    have m3 := HM.out.head.cell (i := 3) (v := .slice p8 A.length c8) rfl
    by_cases hlt : k < A.length
    · obtain ⟨g8, c9, hp8⟩ := HM.out.row.form (by omega)
      injection hp8 with hp8 _ hc9
      subst hp8
      subst hc9
      have hvz : (Value.slice (some ⟨g8, 0, none⟩) A.length c8).ownBlock ≠ some w.heap.size := hvz0
      obtain ⟨z0, z1⟩ := RL.cells HM.out.row hlt
      have hmem : A.getD k Itm.z ∈ A := by simp [List.getD_eq_getElem?_getD, hlt]
      have hrt : (A.getD k Itm.z).t ≤ f.t := hpast _ hmem
      obtain ⟨r, hr⟩ : ∃ r, r = A.getD k Itm.z := ⟨_, rfl⟩
      have HrE := Lib.hid hr
      rw [← hr] at z0 z1 hrt
      clear hr hmem
      have HC := Lib.hid (me_Counts B m f.win f.t f.least _ A r wr HM.out HWn (by omega))
      unfold Rd.agg at HC
      have i0 : (0 : Int) ≤ (k : Int) := by omega
      have i1 : (k : Int) < (A.length : Int) := by omega
      go_wp2_with fail
      refine (HC.out).mono ?_
      rintro e w2 ⟨rfl, hb⟩
      have HZ2 := Lib.hid (HZ.out.keep hb)
      have HM2 := Lib.hid (HM.out.keep hb)
      have HW2 := Lib.hid (bel_to HW.out hb HW.out.size)
      clear hb HC z0 z1 m3 HZ HM HW
      by_cases hc : cnts f.win f.t r = true
      · have hcc : cnts f.win f.t (A.getD k Itm.z) = true := by rw [← HrE.out]; exact hc
        rw [hc]
        clear hc
        have m3 := HM2.out.head.cell (i := 3) (v := .slice (some ⟨g8, 0, none⟩) A.length c8) rfl
        obtain ⟨z0, z1⟩ := RL.cells HM2.out.row hlt
        rw [← HrE.out] at z0 z1
        rcases o
        · have HRB2 := Lib.hid (RB.take HRB.out hst hlt hcc (fun e => by cases e))
          have m1 : w2.cell? ⟨m, 1, none⟩ = some (.bool false) := by have := HM2.out.head.cell (i := 1) (v := .bool f.least) rfl; rw [hl] at this; exact this
          have p1 := HZ2.out.cell (i := 1) (v := .int .u64 (bst.x : Int)) rfl
          go_wp2_with fail
          go_quiet (fail)
          have HD : Hid (Drawn w2 (w2.drewN nq)) := Lib.hid ⟨nq, rfl⟩
          have HZ3 := Lib.hid (HD.out.blk HZ2.out)
          have HM3 := Lib.hid (HM2.out.keep (HD.out.below _))
          have HW3 := Lib.hid (HW2.out.trans (HD.out.below _))
          generalize w2.drewN nq = w3 at *
          clear m1 p1
          have p0 := HZ3.out.cell (i := 0) (v := .int .u64 (bst.t : Int)) rfl
          have p1 := HZ3.out.cell (i := 1) (v := .int .u64 (bst.x : Int)) rfl
          have k0 := HZ3.out.free 0
          have k1 := HZ3.out.free 1
          have m3 := HM3.out.head.cell (i := 3) (v := .slice (some ⟨g8, 0, none⟩) A.length c8) rfl
          obtain ⟨z0, z1⟩ := RL.cells HM3.out.row hlt
          rw [← HrE.out] at z0 z1
          go_wp2_with fail
          have HZ4 : Hid (Blk ((w3.setCell ⟨w.heap.size, 0, none⟩ (.int .u64 (r.t : Int))).setCell ⟨w.heap.size, 1, none⟩ (.int .u64 (r.x : Int))) w.heap.size 34 (Itm.cs r).toArray) := Lib.hid (Blk.whole (Itm.cs r) HZ3.out rfl)
          have HM4 : Hid (MAt ((w3.setCell ⟨w.heap.size, 0, none⟩ (.int .u64 (r.t : Int))).setCell ⟨w.heap.size, 1, none⟩ (.int .u64 (r.x : Int))) B m (.slice (some ⟨g8, 0, none⟩) A.length c8) f.win f.least f.t A) := Lib.hid ⟨(HM3.out.head.set_other _ _ hmz).set_other _ _ hmz, (HM3.out.row.set_other hvz).set_other hvz⟩
          have HW4 : Hid (Below w.heap.size w ((w3.setCell ⟨w.heap.size, 0, none⟩ (.int .u64 (r.t : Int))).setCell ⟨w.heap.size, 1, none⟩ (.int .u64 (r.x : Int)))) := Lib.hid ((HW3.out.setCell (p := ⟨w.heap.size, 0, none⟩) (Nat.le_refl _) _).setCell (p := ⟨w.heap.size, 1, none⟩) (Nat.le_refl _) _)
          rw [HrE.out] at HZ4 HM4 HW4
          go_roundw
          case rel => exact ⟨k + 1, A.getD k Itm.z, true, rfl, by go_num, by omega, HRB2.out, by rw [← HrE.out]; rw [← HrE.out] at HZ4; exact HZ4.out, by rw [← HrE.out] at HM4; exact HM4.out, by rw [← HrE.out] at HW4; exact HW4.out⟩
          case measure => simp [intOf]; omega
        · skip
          by_cases e1 : r.x = bst.x
          · have u1 : (((r.x : Nat) : Int) == (bst.x : Int)) = true := by simp [e1]
            have HRB2 := Lib.hid (RB.take HRB.out hst hlt hcc (fun _ => by rw [← HrE.out]; exact bt_of_eq e1))
            clear e1
            have m1 : w2.cell? ⟨m, 1, none⟩ = some (.bool false) := by have := HM2.out.head.cell (i := 1) (v := .bool f.least) rfl; rw [hl] at this; exact this
            have p1 := HZ2.out.cell (i := 1) (v := .int .u64 (bst.x : Int)) rfl
            go_wp2_with fail
            go_quiet (fail)
            have HD : Hid (Drawn w2 (w2.drewN nq)) := Lib.hid ⟨nq, rfl⟩
            have HZ3 := Lib.hid (HD.out.blk HZ2.out)
            have HM3 := Lib.hid (HM2.out.keep (HD.out.below _))
            have HW3 := Lib.hid (HW2.out.trans (HD.out.below _))
            generalize w2.drewN nq = w3 at *
            clear m1 p1
            have p0 := HZ3.out.cell (i := 0) (v := .int .u64 (bst.t : Int)) rfl
            have p1 := HZ3.out.cell (i := 1) (v := .int .u64 (bst.x : Int)) rfl
            have k0 := HZ3.out.free 0
            have k1 := HZ3.out.free 1
            have m3 := HM3.out.head.cell (i := 3) (v := .slice (some ⟨g8, 0, none⟩) A.length c8) rfl
            obtain ⟨z0, z1⟩ := RL.cells HM3.out.row hlt
            rw [← HrE.out] at z0 z1
            go_wp2_with fail
            have HZ4 : Hid (Blk ((w3.setCell ⟨w.heap.size, 0, none⟩ (.int .u64 (r.t : Int))).setCell ⟨w.heap.size, 1, none⟩ (.int .u64 (r.x : Int))) w.heap.size 34 (Itm.cs r).toArray) := Lib.hid (Blk.whole (Itm.cs r) HZ3.out rfl)
            have HM4 : Hid (MAt ((w3.setCell ⟨w.heap.size, 0, none⟩ (.int .u64 (r.t : Int))).setCell ⟨w.heap.size, 1, none⟩ (.int .u64 (r.x : Int))) B m (.slice (some ⟨g8, 0, none⟩) A.length c8) f.win f.least f.t A) := Lib.hid ⟨(HM3.out.head.set_other _ _ hmz).set_other _ _ hmz, (HM3.out.row.set_other hvz).set_other hvz⟩
            have HW4 : Hid (Below w.heap.size w ((w3.setCell ⟨w.heap.size, 0, none⟩ (.int .u64 (r.t : Int))).setCell ⟨w.heap.size, 1, none⟩ (.int .u64 (r.x : Int)))) := Lib.hid ((HW3.out.setCell (p := ⟨w.heap.size, 0, none⟩) (Nat.le_refl _) _).setCell (p := ⟨w.heap.size, 1, none⟩) (Nat.le_refl _) _)
            rw [HrE.out] at HZ4 HM4 HW4
            go_roundw
            case rel => exact ⟨k + 1, A.getD k Itm.z, true, rfl, by go_num, by omega, HRB2.out, by rw [← HrE.out]; rw [← HrE.out] at HZ4; exact HZ4.out, by rw [← HrE.out] at HM4; exact HM4.out, by rw [← HrE.out] at HW4; exact HW4.out⟩
            case measure => simp [intOf]; omega
          · have u1 : (((r.x : Nat) : Int) == (bst.x : Int)) = false := by simp; omega
            by_cases e2 : r.x < bst.x
            · have u2 : decide (r.x < bst.x) = true := by simpa using e2
              have HRB2 := Lib.hid (RB.leave HRB.out hlt hcc (by rw [← HrE.out, hl]; unfold bt; simp; omega))
              clear e1 e2
              have m1 : w2.cell? ⟨m, 1, none⟩ = some (.bool false) := by have := HM2.out.head.cell (i := 1) (v := .bool f.least) rfl; rw [hl] at this; exact this
              have p1 := HZ2.out.cell (i := 1) (v := .int .u64 (bst.x : Int)) rfl
              go_wp2_with fail
              go_quiet (fail)
              have HD : Hid (Drawn w2 (w2.drewN nq)) := Lib.hid ⟨nq, rfl⟩
              have HZ3 := Lib.hid (HD.out.blk HZ2.out)
              have HM3 := Lib.hid (HM2.out.keep (HD.out.below _))
              have HW3 := Lib.hid (HW2.out.trans (HD.out.below _))
              generalize w2.drewN nq = w3 at *
              clear m1 p1
              go_wp2_with fail
              go_roundw
              case rel => exact ⟨k + 1, bst, true, rfl, by go_num, by omega, HRB2.out, HZ3.out, HM3.out, HW3.out⟩
              case measure => simp [intOf]; omega
            · have u2 : decide (r.x < bst.x) = false := by simpa using e2
              have HRB2 := Lib.hid (RB.take HRB.out hst hlt hcc (fun _ => by rw [← HrE.out, hl]; unfold bt; simp; omega))
              clear e1 e2
              have m1 : w2.cell? ⟨m, 1, none⟩ = some (.bool false) := by have := HM2.out.head.cell (i := 1) (v := .bool f.least) rfl; rw [hl] at this; exact this
              have p1 := HZ2.out.cell (i := 1) (v := .int .u64 (bst.x : Int)) rfl
              go_wp2_with fail
              go_quiet (fail)
              have HD : Hid (Drawn w2 (w2.drewN nq)) := Lib.hid ⟨nq, rfl⟩
              have HZ3 := Lib.hid (HD.out.blk HZ2.out)
              have HM3 := Lib.hid (HM2.out.keep (HD.out.below _))
              have HW3 := Lib.hid (HW2.out.trans (HD.out.below _))
              generalize w2.drewN nq = w3 at *
              clear m1 p1
              have p0 := HZ3.out.cell (i := 0) (v := .int .u64 (bst.t : Int)) rfl
              have p1 := HZ3.out.cell (i := 1) (v := .int .u64 (bst.x : Int)) rfl
              have k0 := HZ3.out.free 0
              have k1 := HZ3.out.free 1
              have m3 := HM3.out.head.cell (i := 3) (v := .slice (some ⟨g8, 0, none⟩) A.length c8) rfl
              obtain ⟨z0, z1⟩ := RL.cells HM3.out.row hlt
              rw [← HrE.out] at z0 z1
              go_wp2_with fail
              have HZ4 : Hid (Blk ((w3.setCell ⟨w.heap.size, 0, none⟩ (.int .u64 (r.t : Int))).setCell ⟨w.heap.size, 1, none⟩ (.int .u64 (r.x : Int))) w.heap.size 34 (Itm.cs r).toArray) := Lib.hid (Blk.whole (Itm.cs r) HZ3.out rfl)
              have HM4 : Hid (MAt ((w3.setCell ⟨w.heap.size, 0, none⟩ (.int .u64 (r.t : Int))).setCell ⟨w.heap.size, 1, none⟩ (.int .u64 (r.x : Int))) B m (.slice (some ⟨g8, 0, none⟩) A.length c8) f.win f.least f.t A) := Lib.hid ⟨(HM3.out.head.set_other _ _ hmz).set_other _ _ hmz, (HM3.out.row.set_other hvz).set_other hvz⟩
              have HW4 : Hid (Below w.heap.size w ((w3.setCell ⟨w.heap.size, 0, none⟩ (.int .u64 (r.t : Int))).setCell ⟨w.heap.size, 1, none⟩ (.int .u64 (r.x : Int)))) := Lib.hid ((HW3.out.setCell (p := ⟨w.heap.size, 0, none⟩) (Nat.le_refl _) _).setCell (p := ⟨w.heap.size, 1, none⟩) (Nat.le_refl _) _)
              rw [HrE.out] at HZ4 HM4 HW4
              go_roundw
              case rel => exact ⟨k + 1, A.getD k Itm.z, true, rfl, by go_num, by omega, HRB2.out, by rw [← HrE.out]; rw [← HrE.out] at HZ4; exact HZ4.out, by rw [← HrE.out] at HM4; exact HM4.out, by rw [← HrE.out] at HW4; exact HW4.out⟩
              case measure => simp [intOf]; omega
      · have HRB2 := Lib.hid (RB.skip HRB.out hlt (by rw [← HrE.out]; exact eq_false_of_ne_true hc))
        rw [eq_false_of_ne_true hc]
        clear hc
        go_wp2_with fail
        go_roundw
        case rel => exact ⟨k + 1, bst, o, rfl, by go_num, by omega, HRB2.out, HZ2.out, HM2.out, HW2.out⟩
        case measure => simp [intOf]; omega
    · obtain rfl : k = A.length := by omega
      have HFin := Lib.hid (RB.fin HRB.out HIv.out)
      have p0 := HZ.out.cell (i := 0) (v := .int .u64 (bst.t : Int)) rfl
      have p1 := HZ.out.cell (i := 1) (v := .int .u64 (bst.x : Int)) rfl
      go_wp2_with fail
      go_quiet (fail)
      have HD : Hid (Drawn wr (wr.drewN nq)) := Lib.hid ⟨nq, rfl⟩
      go_wp2_with fail
      go_ret3
      exact ⟨by rw [← HFin.out.1, ← HFin.out.2]; rfl, HW.out.trans (HD.out.below _)⟩

theorem me_Best (B m : Nat) (v : Value) (f : FS) (A : List Rd) (w : World) (h : MAt w B m v f.win f.least f.t A) (hi : Inv f A) (ho : f.ok) (hn : A.length ≤ 1000) :
    Calls Try.prog 22 #[.pointer (some ⟨m, 0, none⟩)] w fun e w' => e = .returned (bestV f) ∧ Below w.heap.size w w' := by
  rcases hl : f.least
  · exact me_Best_most B m v f A w h hi ho hn hl
  · exact me_Best_least B m v f A w h hi ho hn hl
end Go.Proofs.Ythhiljaceobnmaa
