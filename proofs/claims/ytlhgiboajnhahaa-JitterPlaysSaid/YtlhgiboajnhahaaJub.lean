/- Contracts of package ring over this translation, for rows of goit/jitter.parcel: empty, lay, move. -/
import Derived.Test.YtlhgiboajnhahaaJua
import Derived.Test.YtlhgiboajnhahaaRm
set_option linter.unusedVariables false
namespace Go.Proofs.Ytlhgiboajnhahaa
open Go.RowKit

theorem jp_inf (x : Jp) : (Try.prog.info? 53).map (·.size) = some (Itm.cs x).length := by rw [Itm.len]; kernel_rfl

set_option maxHeartbeats 400000 in
theorem jp_empty (b g i : Nat) (s : QS Jp) (w : World) (h : JpAt w b g s) (ho : s.ok) (hp : 0 < s.pl.length) (hi : i ≤ 100000) :
    Calls Try.prog 31 #[.pointer (some ⟨b, 0, none⟩), .int .i64 (i : Int)] w (JpEPost w b g (s.put i Itm.z)) := by
  have HN := Lib.hid h.ne
  have HO := Lib.hid ho
  have HB := Lib.hid (show Blk (w.alloc (.cells #[.int .u64 0, .int .u64 0, .int .u64 0, .int .u64 0, .int .u64 0, .int .u64 0, .bool false, .int .u64 0] 53)) w.heap.size 53 (Itm.cs (Itm.z (α := Jp))).toArray from Blk.new _ _ _)
  have HH := Lib.hid (h.alloc (.cells #[.int .u64 0, .int .u64 0, .int .u64 0, .int .u64 0, .int .u64 0, .int .u64 0, .bool false, .int .u64 0] 53))
  have HW : Hid (Mv w (w.alloc (.cells #[.int .u64 0, .int .u64 0, .int .u64 0, .int .u64 0, .int .u64 0, .int .u64 0, .bool false, .int .u64 0] 53)) b g) := Lib.hid ((Mv.refl w b g).alloc _)
  have HZ : Hid (w.heap.size ≠ g) := Lib.hid (Ne.symm h.body.old)
  have hpl := QS.pos_lt hp i
  have HP := Lib.hid (fun (w : World) h => jp_place b g i s w h ho hp hi)
  have i3 : (0 : Int) ≤ ((s.pos i : Nat) : Int) := by omega
  have i4 : ((s.pos i : Nat) : Int) < (s.pl.length : Int) := by omega
  have HS : Hid ((s.put i Itm.z).pl = s.pl.set (s.pos i) Itm.z) := Lib.hid rfl
  have hu := Try.underlying53
  have hl : (Itm.cs (Itm.z (α := Jp))).length = 8 := Itm.len _
  have h1 : ∀ v ∈ Itm.cs (Itm.z (α := Jp)), v.oneCell' = true := Itm.one _
  have a0 := HH.out.head.drew.cell (i := 0) (v := .slice (some ⟨g, 0, none⟩) s.pl.length s.pl.length) rfl
  have r0 := HB.out.drew.range0
  have t0 := HH.out.body.drew.therei (k := 8) rfl hpl
  clear h ho hi
  have hi := jp_inf Itm.z
  generalize s.pos i = p at *
  generalize hzc : Itm.cs (Itm.z (α := Jp)) = zc at *
  have HC := Lib.hid hzc
  clear hzc
  go_enter Try.func31, Try.ntmps31
  go_wp2_with fail
  generalize (w.alloc (.cells #[.int .u64 0, .int .u64 0, .int .u64 0, .int .u64 0, .int .u64 0, .int .u64 0, .bool false, .int .u64 0] 53)) = wa at *
  have HK : Hid (w.heap.size = w.heap.size) := Lib.hid rfl
  refine wp_region_held_drew (S := (fun w' => w'.cell? ⟨b, 0, none⟩ = some (.slice (some ⟨g, 0, none⟩) s.pl.length s.pl.length) ∧ w'.rangeAt w.heap.size 0 zc ∧ w'.there g (p * 8) 8)) (by kernel_rfl) ⟨a0, r0, t0⟩ (fun hHeld => ?_)
  simp only [List.size_toArray, List.length_cons, List.length_nil, Nat.reduceAdd, Array.replicate_succ, Array.replicate_zero, List.push_toArray, List.nil_append, List.cons_append]
  refine' wpAnyH_take (i := 7) (oi := ⟨some 12, _, _, _, _, _⟩) (v := _) rfl (by kernel_rfl) (by kernel_rfl) (by kernel_rfl) (fun _ _ _ h => h) (yieldsIf_load_mid (by rfl) _ _ rfl _ _ rfl _ _ ?hS1 hu rfl hi) (by assumption) ?r1
  case hS1 => intro w hSw; exact hSw.2.1
  simp only [Act.put, List.setIfInBounds_toArray, List.set_cons_zero, List.set_cons_succ]
  refine wpAnyH_take (i := 0) (oi := ⟨some 5, _, _, _, _, _⟩) (v := ?v2) rfl (by kernel_rfl) (by kernel_rfl) (by kernel_rfl) (fun _ _ _ h => h) (Or.inl ⟨by rfl, ?y2⟩) (by assumption) ?r2
  case y2 => intro w hSw; clear hSw; go_simp; (try with_reducible rfl)
  simp only [Act.put, List.setIfInBounds_toArray, List.set_cons_zero, List.set_cons_succ]
  refine wpAnyH_take (i := 1) (oi := ⟨some 6, _, _, _, _, _⟩) (v := ?v3) rfl (by kernel_rfl) (by kernel_rfl) (by kernel_rfl) (fun _ _ _ h => h) (Or.inl ⟨by rfl, ?y3⟩) (by assumption) ?r3
  case y3 => intro w hSw; clear hSw; go_simp; (try with_reducible rfl)
  simp only [Act.put, List.setIfInBounds_toArray, List.set_cons_zero, List.set_cons_succ]
  refine wpAnyH_take (i := 2) (oi := ⟨some 7, _, _, _, _, _⟩) (v := ?v4) rfl (by kernel_rfl) (by kernel_rfl) (by kernel_rfl) (fun _ _ _ h => h) (Or.inl ⟨by rfl, ?y4⟩) (by assumption) ?r4
  case y4 => intro w hSw; clear hSw; go_simp; (try with_reducible rfl)
  simp only [Act.put, List.setIfInBounds_toArray, List.set_cons_zero, List.set_cons_succ]
  refine wpAnyH_take (i := 3) (oi := ⟨some 8, _, _, _, _, _⟩) (v := ?v5) rfl (by kernel_rfl) (by kernel_rfl) (by kernel_rfl) (fun _ _ _ h => h) (Or.inl ⟨by rfl, ?y5⟩) (by assumption) ?r5
  case y5 => intro w hSw; obtain ⟨s0, s1, s2⟩ := hSw; go_simp; (try with_reducible rfl)
  simp only [Act.put, List.setIfInBounds_toArray, List.set_cons_zero, List.set_cons_succ]
  refine wpAnyH_take (i := 4) (oi := ⟨some 9, _, _, _, _, _⟩) (v := ?v6) rfl (by kernel_rfl) (by kernel_rfl) (by kernel_rfl) (fun _ _ _ h => h) (Or.inl ⟨by rfl, ?y6⟩) (by assumption) ?r6
  case y6 => intro w hSw; clear hSw; go_simp; (try with_reducible rfl)
  simp only [Act.put, List.setIfInBounds_toArray, List.set_cons_zero, List.set_cons_succ]
  refine wpAnyH_take (i := 5) (oi := ⟨some 10, _, _, _, _, _⟩) (v := ?v7) rfl (by kernel_rfl) (by kernel_rfl) (by kernel_rfl) (fun _ _ _ h => h) (Or.inl ⟨by rfl, ?y7⟩) (by assumption) ?r7
  case y7 => intro w hSw; clear hSw; go_simp; (try with_reducible rfl)
  simp only [Act.put, List.setIfInBounds_toArray, List.set_cons_zero, List.set_cons_succ]
  refine wpAnyH_ready (rs := [6]) (by kernel_rfl) (by simp) ?_
  refine AllReadyH.cons (o := ⟨some 11, _, _, _, _, _⟩) rfl (fun K hK => ?_) AllReadyH.nil
  go_simp
  refine (HP.out _ (JpAt.drawn (Drawn.drew wa) HH.out)).mono ?_
  rintro e w' ⟨rfl, hd⟩
  have HD := Lib.hid hd
  clear hd
  have b0 := (HD.out.cell _).trans a0
  have r1 := dr_range HD.out r0
  have t1 := dr_there HD.out t0
  go_wp2_with fail
  refine hK.out _ _ ⟨b0, r1, t1⟩ (fun hHeld => ?_)
  clear hK
  try simp only [List.setIfInBounds_toArray, List.set_cons_zero, List.set_cons_succ]
  refine wpAnyH_take (i := 8) (oi := ⟨some 13, _, _, _, _, _⟩) (v := ?v8) rfl (by kernel_rfl) (by kernel_rfl) (by kernel_rfl) (fun _ _ _ h => h) (Or.inl ⟨by rfl, ?y8⟩) (by assumption) ?r8
  case y8 => intro w hSw; clear hSw; go_simp; (try with_reducible rfl)
  simp only [Act.put, List.setIfInBounds_toArray, List.set_cons_zero, List.set_cons_succ]
  refine wpAnyH_ready (rs := [9]) (by kernel_rfl) (by simp) ?_
  refine AllReadyH.cons (o := ⟨none, _, _, _, _, _⟩) rfl (fun K hK => ?_) AllReadyH.nil
  rw [if_pos (by rfl)]
  refine wp_store_mid _ _ _ rfl _ _ (List.toArray _) rfl rfl (by have e := hl; rw [← List.size_toArray] at e; rw [e]; exact t1) (by rw [List.size_toArray]; exact hi) (all_oneCell_toArray h1) ?_
  dsimp only
  refine hK.out _ _ ⟨cell_sets b0 HN.out, World.rangeAt_setCells_apart r1 g _ _ (.inl HZ.out), World.there_setCells t1 _ _ _⟩ (fun hHeld => ?_)
  clear hK
  try simp only [List.setIfInBounds_toArray, List.set_cons_zero, List.set_cons_succ]
  refine wpAnyH_done (by kernel_rfl) ?_ _
  go_end0
  have hD : Drawn wa w' := (Drawn.drew wa).more HD.out
  have hpl' : p < s.pl.length := hpl
  refine ⟨rfl, ⟨?_, ?_⟩, Mv.sets (.inr (.inl rfl)) zc (p * 8) w' (HW.out.drawn hD)⟩
  · have := Blk.sets_other HN.out zc (p * 8) w' (hD.blk HH.out.head)
    have e : jpCells (s.put i Itm.z) g = jpCells s g := by simp [jpCells, QS.put]
    rw [e]; exact this
  · have := Blk.sets zc (p * 8) w' _ (hD.blk HH.out.body)
    have e := putA_item s.pl p (Itm.z (α := Jp)) hpl'
    rw [HC.out] at e
    rw [show p * 8 = p * Itm.k Jp from rfl, e, ← HS.out] at this
    exact this

/-- What holds at the head of each round of lay. -/
def JpLayRel (w : World) (s : QS Jp) (n k : Nat) (wr : World) : Prop :=
  k ≤ s.cnt ∧ Blk wr w.heap.size 53 (icells (s.items.take k ++ List.replicate (n - k) Itm.z)) ∧ Below w.heap.size w wr

structure JpLayPost (w : World) (l : List Jp) (e : Ending) (w' : World) : Prop where
  e : e = .returned (.slice (some ⟨w.heap.size, 0, none⟩) l.length l.length)
  blk : Blk w' w.heap.size 53 (icells l)
  bel : Below w.heap.size w w'

set_option maxHeartbeats 1000000 in
theorem jp_lay (b g n : Nat) (s : QS Jp) (w : World) (h : JpAt w b g s) (ho : s.ok) (hn : s.cnt ≤ n) (hm : n ≤ 100000) :
    Calls Try.prog 30 #[.pointer (some ⟨b, 0, none⟩), .int .i64 (n : Int)] w (JpLayPost w (s.lay n)) := by
  have HH := Lib.hid h
  have HO := Lib.hid ho
  have hbl := h.head.lt
  have hgl := h.body.lt
  have hmk := jp_mk n hm
  have h2 := (h.head.alloc (.cells (icells (List.replicate n (Itm.z (α := Jp)))) 53)).cell (i := 2) (v := .int .i64 (s.cnt : Int)) rfl
  have hu := Try.underlying53
  clear h ho
  go_enter Try.func30, Try.ntmps30
  go_wp2_with fail
  go_loopw [13] (fun i wr => ∃ k : Nat, i = .int .i64 (k : Int) ∧ JpLayRel w s n k wr) (fun i _ => s.cnt - (intOf i).toNat)
  case atStart =>
    exact ⟨0, rfl, Nat.zero_le _, by simpa using Blk.new _ _ _, (Below.refl _ _).alloc (Nat.le_refl _) _⟩
  case round =>
    obtain ⟨k, rfl, hk, hb1, hbel⟩ := hrel
    have HB := Lib.hid hb1
    have HW := Lib.hid hbel
    have HR := Lib.hid (HH.out.below hbel hbl hgl)
    clear hb1 hbel h2 hmk
    by_cases hlt : k < s.cnt
    · have hp : 0 < s.pl.length := by have := HO.out.c; omega
      have hpl := QS.pos_lt hp k
      have a0 := HR.out.head.drew.cell (i := 0) (v := .slice (some ⟨g, 0, none⟩) s.pl.length s.pl.length) rfl
      have r0 : wr.drew.rangeAt g (s.pos k * 8) (Itm.cs (s.get k)) := HR.out.body.drew.range (k := 8) rfl hpl
      have HP := Lib.hid (fun (w : World) h => jp_place b g k s w h HO.out hp (by omega))
      have hlen : (s.items.take k ++ List.replicate (n - k) Itm.z).length = n := by simp [QS.len_items]; omega
      have t0 := HB.out.drew.therei (k := 8) (i := k) rfl (by rw [hlen]; omega)
      have HL := Lib.hid (lay_put hlt hn)
      have i0 : (0 : Int) ≤ (k : Int) := by omega
      have i1 : (k : Int) < (n : Int) := by omega
      have i2 : k < n := by omega
      have i3 : (0 : Int) ≤ ((s.pos k : Nat) : Int) := by omega
      have i4 : ((s.pos k : Nat) : Int) < (s.pl.length : Int) := by omega
      have hl : (Itm.cs (s.get k)).length = 8 := Itm.len _
      have h1 : ∀ v ∈ Itm.cs (s.get k), v.oneCell' = true := Itm.one _
      have hi := jp_inf (s.get k)
      generalize (s.items.take k ++ List.replicate (n - k) Itm.z) = cur at *
      generalize s.pos k = p at *
      generalize s.get k = x at *
      generalize hxc : Itm.cs x = xc at *
      have HC := Lib.hid hxc
      clear hxc
      go_wp2_with fail
      refine wp_region_held_drew (S := (fun w' => w'.cell? ⟨b, 0, none⟩ = some (.slice (some ⟨g, 0, none⟩) s.pl.length s.pl.length) ∧ w'.rangeAt g (p * 8) xc ∧ w'.there w.heap.size (k * 8) 8)) (by kernel_rfl) ⟨a0, r0, t0⟩ (fun hHeld => ?_)
      simp only [List.size_toArray, List.length_cons, List.length_nil, Nat.reduceAdd, Array.replicate_succ, Array.replicate_zero, List.push_toArray, List.nil_append, List.cons_append]
      refine wpAnyH_take (i := 0) (oi := ⟨some 16, _, _, _, _, _⟩) (v := ?v9) rfl (by kernel_rfl) (by kernel_rfl) (by kernel_rfl) (fun _ _ _ h => h) (Or.inl ⟨by rfl, ?y9⟩) (by assumption) ?r9
      case y9 => intro w hSw; clear hSw; go_simp; (try with_reducible rfl)
      simp only [Act.put, List.setIfInBounds_toArray, List.set_cons_zero, List.set_cons_succ]
      refine wpAnyH_take (i := 1) (oi := ⟨some 17, _, _, _, _, _⟩) (v := ?v10) rfl (by kernel_rfl) (by kernel_rfl) (by kernel_rfl) (fun _ _ _ h => h) (Or.inl ⟨by rfl, ?y10⟩) (by assumption) ?r10
      case y10 => intro w hSw; clear hSw; go_simp; (try with_reducible rfl)
      simp only [Act.put, List.setIfInBounds_toArray, List.set_cons_zero, List.set_cons_succ]
      refine wpAnyH_take (i := 2) (oi := ⟨some 18, _, _, _, _, _⟩) (v := ?v11) rfl (by kernel_rfl) (by kernel_rfl) (by kernel_rfl) (fun _ _ _ h => h) (Or.inl ⟨by rfl, ?y11⟩) (by assumption) ?r11
      case y11 => intro w hSw; clear hSw; go_simp; (try with_reducible rfl)
      simp only [Act.put, List.setIfInBounds_toArray, List.set_cons_zero, List.set_cons_succ]
      refine wpAnyH_take (i := 3) (oi := ⟨some 19, _, _, _, _, _⟩) (v := ?v12) rfl (by kernel_rfl) (by kernel_rfl) (by kernel_rfl) (fun _ _ _ h => h) (Or.inl ⟨by rfl, ?y12⟩) (by assumption) ?r12
      case y12 => intro w hSw; clear hSw; go_simp; (try with_reducible rfl)
      simp only [Act.put, List.setIfInBounds_toArray, List.set_cons_zero, List.set_cons_succ]
      refine wpAnyH_take (i := 4) (oi := ⟨some 20, _, _, _, _, _⟩) (v := ?v13) rfl (by kernel_rfl) (by kernel_rfl) (by kernel_rfl) (fun _ _ _ h => h) (Or.inl ⟨by rfl, ?y13⟩) (by assumption) ?r13
      case y13 => intro w hSw; clear hSw; go_simp; (try with_reducible rfl)
      simp only [Act.put, List.setIfInBounds_toArray, List.set_cons_zero, List.set_cons_succ]
      refine wpAnyH_take (i := 5) (oi := ⟨some 21, _, _, _, _, _⟩) (v := ?v14) rfl (by kernel_rfl) (by kernel_rfl) (by kernel_rfl) (fun _ _ _ h => h) (Or.inl ⟨by rfl, ?y14⟩) (by assumption) ?r14
      case y14 => intro w hSw; obtain ⟨s0, s1, s2⟩ := hSw; go_simp; (try with_reducible rfl)
      simp only [Act.put, List.setIfInBounds_toArray, List.set_cons_zero, List.set_cons_succ]
      refine wpAnyH_take (i := 6) (oi := ⟨some 22, _, _, _, _, _⟩) (v := ?v15) rfl (by kernel_rfl) (by kernel_rfl) (by kernel_rfl) (fun _ _ _ h => h) (Or.inl ⟨by rfl, ?y15⟩) (by assumption) ?r15
      case y15 => intro w hSw; clear hSw; go_simp; (try with_reducible rfl)
      simp only [Act.put, List.setIfInBounds_toArray, List.set_cons_zero, List.set_cons_succ]
      refine wpAnyH_take (i := 7) (oi := ⟨some 23, _, _, _, _, _⟩) (v := ?v16) rfl (by kernel_rfl) (by kernel_rfl) (by kernel_rfl) (fun _ _ _ h => h) (Or.inl ⟨by rfl, ?y16⟩) (by assumption) ?r16
      case y16 => intro w hSw; clear hSw; go_simp; (try with_reducible rfl)
      simp only [Act.put, List.setIfInBounds_toArray, List.set_cons_zero, List.set_cons_succ]
      refine wpAnyH_ready (rs := [8]) (by kernel_rfl) (by simp) ?_
      refine AllReadyH.cons (o := ⟨some 24, _, _, _, _, _⟩) rfl (fun K hK => ?_) AllReadyH.nil
      go_simp
      refine (HP.out _ (JpAt.drawn (Drawn.drew wr) HR.out)).mono ?_
      rintro e w' ⟨rfl, hd⟩
      have HD := Lib.hid hd
      clear hd
      have b0 := (HD.out.cell _).trans a0
      have r1 := dr_range HD.out r0
      have t1 := dr_there HD.out t0
      go_wp2_with fail
      refine hK.out _ _ ⟨b0, r1, t1⟩ (fun hHeld => ?_)
      clear hK
      try simp only [List.setIfInBounds_toArray, List.set_cons_zero, List.set_cons_succ]
      refine wpAnyH_take (i := 9) (oi := ⟨some 25, _, _, _, _, _⟩) (v := ?v17) rfl (by kernel_rfl) (by kernel_rfl) (by kernel_rfl) (fun _ _ _ h => h) (Or.inl ⟨by rfl, ?y17⟩) (by assumption) ?r17
      case y17 => intro w hSw; clear hSw; go_simp; (try with_reducible rfl)
      simp only [Act.put, List.setIfInBounds_toArray, List.set_cons_zero, List.set_cons_succ]
      refine' wpAnyH_take (i := 10) (oi := ⟨some 26, _, _, _, _, _⟩) (v := _) rfl (by kernel_rfl) (by kernel_rfl) (by kernel_rfl) (fun _ _ _ h => h) (yieldsIf_load_mid (by rfl) _ _ rfl _ _ rfl _ _ ?hS18 hu rfl hi) (by assumption) ?r18
      case hS18 => intro w hSw; exact hSw.2.1
      simp only [Act.put, List.setIfInBounds_toArray, List.set_cons_zero, List.set_cons_succ]
      refine wpAnyH_take (i := 11) (oi := ⟨some 27, _, _, _, _, _⟩) (v := ?v19) rfl (by kernel_rfl) (by kernel_rfl) (by kernel_rfl) (fun _ _ _ h => h) (Or.inl ⟨by rfl, ?y19⟩) (by assumption) ?r19
      case y19 => intro w hSw; clear hSw; go_simp; (try with_reducible rfl)
      simp only [Act.put, List.setIfInBounds_toArray, List.set_cons_zero, List.set_cons_succ]
      refine wpAnyH_ready (rs := [12]) (by kernel_rfl) (by simp) ?_
      refine AllReadyH.cons (o := ⟨none, _, _, _, _, _⟩) rfl (fun K hK => ?_) AllReadyH.nil
      rw [if_pos (by rfl)]
      refine wp_store_mid _ _ _ rfl _ _ (List.toArray _) rfl rfl (by have e := hl; rw [← List.size_toArray] at e; rw [e]; exact t1) (by rw [List.size_toArray]; exact hi) (all_oneCell_toArray h1) ?_
      dsimp only
      refine hK.out _ _ ⟨cell_sets b0 (by dsimp; omega), World.rangeAt_setCells_apart r1 _ _ _ (.inl (by omega)), World.there_setCells t1 _ _ _⟩ (fun hHeld => ?_)
      clear hK
      try simp only [List.setIfInBounds_toArray, List.set_cons_zero, List.set_cons_succ]
      refine wpAnyH_done (by kernel_rfl) ?_ _
      have hD : Drawn wr w' := (Drawn.drew wr).more HD.out
      have F1 : Hid (Blk (w'.setCells w.heap.size (k * 8) xc) w.heap.size 53 (icells (cur.set k x))) := Lib.hid (by
        have := Blk.sets xc (k * Itm.k Jp) w' _ (hD.blk HB.out)
        have e := putA_item cur k x (by omega)
        rw [HC.out] at e
        rw [e] at this
        exact this)
      have F2 : Hid (Below w.heap.size w (w'.setCells w.heap.size (k * 8) xc)) := Lib.hid (Below.sets (Nat.le_refl _) xc (k * 8) w' (HW.out.trans (hD.below _)))
      rw [HL.out] at F1
      generalize (w'.setCells w.heap.size (k * 8) xc) = w2 at *
      clear a0 b0 r0 r1 t0 t1 hHeld hD HD HP HL hlen hi hl h1
      go_wp2_with fail
      go_roundw
      case rel => exact ⟨k + 1, by go_num, by omega, F1.out, F2.out⟩
      case measure => simp [intOf]; omega
    · obtain rfl : k = s.cnt := by omega
      have HL : Hid (s.lay n = s.items.take s.cnt ++ List.replicate (n - s.cnt) Itm.z) := Lib.hid (by rw [List.take_of_length_le (by rw [QS.len_items]; exact Nat.le_refl _)]; rfl)
      have HN := Lib.hid (QS.len_lay hn)
      go_wp2_with fail
      go_ret
      exact ⟨by rw [HN.out]; rfl, by rw [HL.out]; exact HB.out, HW.out⟩

set_option maxHeartbeats 400000 in
theorem jp_move (b g n : Nat) (s : QS Jp) (w : World) (h : JpAt w b g s) (ho : s.ok) (hn : s.cnt ≤ n) (hm : n ≤ 100000) :
    Calls Try.prog 28 #[.pointer (some ⟨b, 0, none⟩), .int .i64 (n : Int)] w (JpPost w b g (.returned (.tuple #[])) (s.move n)) := by
  have HH := Lib.hid h
  have HN := Lib.hid h.ne
  have HL := Lib.hid (jp_lay b g n s w h ho hn hm)
  have HE := Lib.hid (QS.len_lay hn)
  have hbl := h.head.lt
  clear h ho
  go_enter Try.func28, Try.ntmps28
  go_wp2_with fail
  refine (HL.out).mono ?_
  rintro e w1 ⟨rfl, hb, hbel⟩
  have HB := Lib.hid hb
  have HW := Lib.hid hbel
  have H1 := Lib.hid (HH.out.head.keep hbel)
  have c0 := H1.out.cell (i := 0) (v := .slice (some ⟨g, 0, none⟩) s.pl.length s.pl.length) rfl
  have c1 := H1.out.cell (i := 1) (v := .int .i64 (s.first : Int)) rfl
  have f0 := H1.out.free 0
  have f1 := H1.out.free 1
  clear hb hbel
  rw [HE.out]
  go_wp2_with fail
  go_end0
  refine ⟨rfl, ⟨w.heap.size, ⟨?_, ?_⟩, .inr (Nat.le_refl _)⟩, ((Mv.of_below HW.out b g).set (.inl rfl) _ _).set (.inl rfl) _ _⟩
  · have := (H1.out.set 0 (.slice (some ⟨w.heap.size, 0, none⟩) n n)).set 1 (.int .i64 0)
    simpa [jpCells, QS.move, HE.out] using this
  · exact (HB.out.set_other _ _ (by omega)).set_other _ _ (by omega)
end Go.Proofs.Ytlhgiboajnhahaa
