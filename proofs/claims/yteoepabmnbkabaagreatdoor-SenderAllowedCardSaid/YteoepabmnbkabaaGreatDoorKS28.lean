/- 2 texts put together: what each one says stands ahead of it. -/
import Derived.Test.YteoepabmnbkabaaGreatDoorKS01
import Derived.Test.YteoepabmnbkabaaGreatDoorKS04
import Derived.Test.YteoepabmnbkabaaGreatDoorKS14
import Derived.Test.YteoepabmnbkabaaGreatDoorKS13
import Derived.Deep.RegionHeld3
import Derived.Deep.RegionWith
set_option linter.unusedVariables false
namespace Go.Proofs.YteoepabmnbkabaaGreatDoor
open Go.RowKit
def PS.cells (s:PS):Array Value:=#[.int .u64 (s.r:Int),.int .u64 (s.q:Int),.int .u64 (s.t:Int),.int .u64 (s.s:Int)]
theorem pc_New (w:World):Calls Tryz.prog 33 #[] w fun e w'=>e=.returned (.pointer (some ⟨w.heap.size,0,none⟩))∧w.alloc (.cells PS.zero.cells 150)=w':=by
 go_enter Tryz.func33,Tryz.ntmps33
 go_wp2
 go_ret
 exact ⟨rfl,rfl⟩
theorem pc_credit (x:Nat) (w:World) (hx:x≤18446744073709551615):
  Calls Tryz.prog 115 #[.int .u64 (x:Int)] w fun e w'=>e=.returned (.int .u64 ((Pl.mulS x 1000000:Nat):Int))∧w=w':=by
 have HM:Hid (∀w,Calls Tryz.prog 165 #[.int .u64 (x:Int),.int .u64 1000000] w fun e w'=>e=.returned (.int .u64 ((Pl.mulS x 1000000:Nat):Int))∧w=w'):=Lib.hid (fun w=>fix_Mul_n x 1000000 w hx (by omega))
 generalize Pl.mulS x 1000000=m at *
 go_enter Tryz.func115,Tryz.ntmps115
 go_wp2_with (go_at_call 165;refine (HM.out _).mono ?_;rintro e w' ⟨rfl,rfl⟩)
 go_ret
 exact ⟨rfl,rfl⟩
theorem pc_earned (r q l:Nat) (w:World) (hr:r≤18446744073709551615) (hl:l≤18446744073709551615):
  Calls Tryz.prog 108 #[.agg #[.int .u64 (r:Int),.int .u64 (q:Int)],.int .u64 (l:Int)] w fun e w'=>e=.returned (.int .u64 ((Pl.mulS r l:Nat):Int))∧Below w.heap.size w w':=by
 have HM:=Lib.hid (fun w=>fix_Mul_n r l w hr hl)
 generalize Pl.mulS r l=m at *
 go_enter Tryz.func108,Tryz.ntmps108
 go_wp2_with (go_at_call 165;refine (HM.out _).mono ?_;rintro e w' ⟨rfl,rfl⟩)
 go_ret
 exact ⟨rfl,al_be _ _⟩
theorem pc_most (r q:Nat) (w:World) (hq:q≤18446744073709551615):
  Calls Tryz.prog 109 #[.agg #[.int .u64 (r:Int),.int .u64 (q:Int)]] w fun e w'=>e=.returned (.int .u64 ((Pl.mulS q 1000000:Nat):Int))∧Below w.heap.size w w':=by
 have HM:=Lib.hid (fun w=>pc_credit q w hq)
 generalize Pl.mulS q 1000000=m at *
 go_enter Tryz.func109,Tryz.ntmps109
 go_wp2_with (go_at_call 115;refine (HM.out _).mono ?_;rintro e w' ⟨rfl,rfl⟩)
 go_ret
 exact ⟨rfl,al_be _ _⟩
def waitT (r l:Nat):Nat:=if l=0 then 0 else if r=0 then 0 else Pl.overS l 1 r
def waitB (r l:Nat):Bool:=if l=0 then true else if r=0 then false else true
theorem waitT_le (r l:Nat):waitT r l≤18446744073709551615:=by
 unfold waitT
 split
 ·omega
 ·split
  ·omega
  ·exact Pl.overS_le _ _ _
theorem pc_wait (r q l:Nat) (w:World) (hr:r≤18446744073709551615) (hl:l≤18446744073709551615):
  Calls Tryz.prog 113 #[.agg #[.int .u64 (r:Int),.int .u64 (q:Int)],.int .u64 (l:Int)] w fun e w'=>e=.returned (.tuple #[.int .u64 ((waitT r l:Nat):Int),.bool (waitB r l)])∧Below w.heap.size w w':=by
 by_cases c:l=0
 ·have hT:Hid (waitT r l=0):=Lib.hid (by unfold waitT;rw [if_pos c])
  have hB:Hid (waitB r l=true):=Lib.hid (by unfold waitB;rw [if_pos c])
  rw [hT.out,hB.out]
  subst c
  go_enter Tryz.func113,Tryz.ntmps113
  go_wp2
  go_ret2
  exact ⟨rfl,al_be _ _⟩
 ·have t:((l:Int) == 0)=false:=beq_eq_false_iff_ne.2 (by omega)
  by_cases d:r=0
  ·have hT:Hid (waitT r l=0):=Lib.hid (by unfold waitT;rw [if_neg c,if_pos d])
   have hB:Hid (waitB r l=false):=Lib.hid (by unfold waitB;rw [if_neg c,if_pos d])
   rw [hT.out,hB.out]
   clear hT hB
   subst d
   clear c
   go_enter Tryz.func113,Tryz.ntmps113
   go_wp2
   go_ret2
   exact ⟨rfl,al_be _ _⟩
  ·have u:((r:Int) == 0)=false:=beq_eq_false_iff_ne.2 (by omega)
   have HO:Hid (∀w,Calls Tryz.prog 170 #[.int .u64 (l:Int),.int .u64 1,.int .u64 (r:Int)] w fun e w'=>e=.returned (.int .u64 ((Pl.overS l 1 r:Nat):Int))∧Below w.heap.size w w'):=Lib.hid (fun w=>fix_Over_pl l 1 r w hl (by omega) hr)
   have hT:Hid (waitT r l=Pl.overS l 1 r):=Lib.hid (by unfold waitT;rw [if_neg c,if_neg d])
   have hB:Hid (waitB r l=true):=Lib.hid (by unfold waitB;rw [if_neg c,if_neg d])
   rw [hT.out,hB.out]
   clear hT hB c d
   generalize Pl.overS l 1 r=m at *
   go_enter Tryz.func113,Tryz.ntmps113
   go_wp2_with (go_at_call 170;refine (HO.out _).mono ?_;rintro e w' ⟨rfl,hb⟩)
   go_ret2
   exact ⟨rfl,(al_be _ _).trans (hb.mono (by simp))⟩
structure PPost (w:World) (b:Nat) (r:Value) (s:PS) (e:Ending) (w':World):Prop where
 e:e=.returned r
 blk:Blk w' b 150 s.cells
 gr:w.grownBy w' (some b)
structure PMut (W:World) (b:Nat) (s:PS) (w:World):Prop where
 blk:Blk w b 150 s.cells
 gr:W.grownBy w (some b)
theorem PMut.start {W:World} {b:Nat} {s:PS} (h:Blk W b 150 s.cells):PMut W b s W:=⟨h,gr_refl _ _⟩
theorem PMut.drew {W w:World} {b:Nat} {s:PS} (h:PMut W b s w):PMut W b s w.drew:=⟨h.blk.drew,gr_drew h.gr⟩
theorem PMut.to {W w w':World} {b:Nat} {s:PS} (h:PMut W b s w) (k:Below w.heap.size w w'):PMut W b s w':=⟨h.blk.keep k,gr_trans h.gr (gr_below k _)⟩
theorem PMut.al {W w w':World} {b:Nat} {s:PS} {o:Obj} (h:PMut W b s w) (k:Below (w.alloc o).heap.size (w.alloc o) w'):PMut W b s w':=(h.to (al_be _ _)).to k
theorem PMut.ald {W w w':World} {b:Nat} {s:PS} {o:Obj} (h:PMut W b s w) (k:Below (w.alloc o).drew.heap.size (w.alloc o).drew w'):PMut W b s w':=(h.to (al_dr _ _)).to k
theorem PMut.set {W w:World} {b:Nat} {s s':PS} (h:PMut W b s w) (i:Nat) (u:Value) (he:s.cells.setIfInBounds i u=s'.cells):PMut W b s' (w.setCell ⟨b,i,none⟩ u):=
 ⟨he▸h.blk.set i u,gr_set h.gr i u⟩
theorem PMut.post {W w:World} {b:Nat} {s:PS} {v:Value} (h:PMut W b s w):PPost W b v s (.returned v) w:=⟨rfl,h.blk,h.gr⟩
def PSome (W:World) (b r q t:Nat) (w:World):Prop:=∃z,PMut W b ⟨r,q,t,z⟩ w
theorem ps_of {W w:World} {b r q t z:Nat} (h:Hid (PMut W b ⟨r,q,t,z⟩ w)):Hid (PSome W b r q t w):=Lib.hid ⟨z,h.out⟩
theorem ps_r {W:World} {b r q t:Nat}:(∀w,Hid (PSome W b r q t w)→w.cell? ⟨b,0,none⟩=some (.int .u64 (r:Int)))∧(∀w,Hid (PSome W b r q t w)→w.cell? ⟨b,1,none⟩=some (.int .u64 (q:Int)))∧(∀w,Hid (PSome W b r q t w)→w.cell? ⟨b,2,none⟩=some (.int .u64 (t:Int))):=
 ⟨fun w h=>by obtain ⟨z,k⟩:=h.out;exact k.blk.cell rfl,fun w h=>by obtain ⟨z,k⟩:=h.out;exact k.blk.cell rfl,fun w h=>by obtain ⟨z,k⟩:=h.out;exact k.blk.cell rfl⟩
structure PM2 (W:World) (b:Nat) (s:PS) (a x y:Nat) (w:World):Prop where
 m:PMut W b s w
 c0:w.cell? ⟨a,0,none⟩=some (.int .u64 (x:Int))
 c1:w.cell? ⟨a,1,none⟩=some (.int .u64 (y:Int))
theorem PM2.to {W w w':World} {b a x y:Nat} {s:PS} (h:PM2 W b s a x y w) (k:Below w.heap.size w w'):PM2 W b s a x y w':=⟨h.m.to k,bel_cell k h.c0,bel_cell k h.c1⟩
theorem PMut.al2 {W w:World} {b:Nat} {s:PS} (h:PMut W b s w) (x y:Nat) (T:TypeId):PM2 W b s w.heap.size x y (w.alloc (.cells #[.int .u64 (x:Int),.int .u64 (y:Int)] T)):=⟨h.to (al_be _ _),(nc2 _ _ _ _).1,(nc2 _ _ _ _).2⟩
theorem pn_k {W w w':World} {b:Nat} {s:PS} (h:Hid (Blk w b 150 s.cells∧Below W.heap.size W w)) (k:Below w.heap.size w w'):Hid (Blk w' b 150 s.cells∧Below W.heap.size W w'):=Lib.hid ⟨h.out.1.keep k,bel_to h.out.2 k h.out.2.size⟩
theorem pn_r {W:World} {b:Nat} {s:PS}:(∀w,Hid (Blk w b 150 s.cells∧Below W.heap.size W w)→w.cell? ⟨b,0,none⟩=some (.int .u64 (s.r:Int)))∧(∀w,Hid (Blk w b 150 s.cells∧Below W.heap.size W w)→w.cell? ⟨b,1,none⟩=some (.int .u64 (s.q:Int)))∧(∀w,Hid (Blk w b 150 s.cells∧Below W.heap.size W w)→w.cell? ⟨b,3,none⟩=some (.int .u64 (s.s:Int))):=
 ⟨fun w h=>h.out.1.cell rfl,fun w h=>h.out.1.cell rfl,fun w h=>h.out.1.cell rfl⟩
set_option maxHeartbeats 1000000 in
theorem pc_Tick_no (b now r q:Nat) (s:PS) (W:World) (h:Blk W b 150 s.cells) (c:now < s.t):
  Calls Tryz.prog 50 #[.pointer (some ⟨b,0,none⟩),.int .u64 (now:Int),.int .u64 (r:Int),.int .u64 (q:Int)] W (PPost W b (.int .i64 2) s):=by
 have h2:=h.cell (i:=2) (v:=.int .u64 s.t) rfl
 have HM:=Lib.hid (PMut.start h)
 have d:decide (now < s.t)=true:=decide_eq_true c
 clear h
 go_enter Tryz.func50,Tryz.ntmps50
 go_wp2
 go_ret
 exact HM.out.post
set_option maxHeartbeats 2000000 in
theorem pc_Tick_yes (b now r q:Nat) (s:PS) (W:World) (h:Blk W b 150 s.cells) (ho:s.ok) (hn:now≤18446744073709551615) (hr:r≤18446744073709551615) (hq:q≤18446744073709551615) (c:¬ now < s.t):
  Calls Tryz.prog 50 #[.pointer (some ⟨b,0,none⟩),.int .u64 (now:Int),.int .u64 (r:Int),.int .u64 (q:Int)] W (PPost W b (.int .i64 0) (s.tickS now r q)):=by
 have h2:=h.cell (i:=2) (v:=.int .u64 s.t) rfl
 have h0:=h.cell (i:=0) (v:=.int .u64 s.r) rfl
 have h1:=h.cell (i:=1) (v:=.int .u64 s.q) rfl
 have f0:=h.free 0
 have f1:=h.free 1
 have d:decide (now < s.t)=false:=decide_eq_false c
 have hw:(now:Int) - (s.t:Int)=((now - s.t:Nat):Int):=by omega
 have hww:IntKind.u64.wrap ((now - s.t:Nat):Int)=((now - s.t:Nat):Int):=by rw [IntKind.wrap_u64];omega
 have hE:=Lib.hid (fun w=>pc_earned r q (now - s.t) w hr (by omega))
 have hM:=Lib.hid (fun w=>pc_most r q w hq)
 have hA:=Lib.hid (add_any s.s (Pl.mulS r (now - s.t)) ho.2.2.2 (Pl.mulS_le _ _))
 have hm:min ((Pl.addS s.s (Pl.mulS r (now - s.t)):Nat):Int) ((Pl.mulS q 1000000:Nat):Int)=((min (Pl.addS s.s (Pl.mulS r (now - s.t))) (Pl.mulS q 1000000):Nat):Int):=by omega
 have HT:Hid (s.tickS now r q=⟨r,q,now,min (Pl.addS s.s (Pl.mulS r (now - s.t))) (Pl.mulS q 1000000)⟩):=Lib.hid (by unfold PS.tickS;rw [if_neg c])
 have M0:=Lib.hid ((((PMut.start h).set (s':=⟨r,s.q,s.t,s.s⟩) 0 (.int .u64 r) rfl).set (s':=⟨r,q,s.t,s.s⟩) 1 (.int .u64 q) rfl))
 rw [HT.out]
 generalize min (Pl.addS s.s (Pl.mulS r (now - s.t))) (Pl.mulS q 1000000)=z at *
 generalize Pl.addS s.s (Pl.mulS r (now - s.t))=y at *
 generalize Pl.mulS r (now - s.t)=x at *
 generalize Pl.mulS q 1000000=m at *
 generalize hl:now - s.t=l at *
 clear h ho hn hr hq c HT hl
 go_enter Tryz.func50,Tryz.ntmps50
 go_wp2_with fail
 generalize (W.setCell ⟨b,0,none⟩ (.int .u64 (r:Int))).setCell ⟨b,1,none⟩ (.int .u64 (q:Int))=w0 at *
 have M1:=Lib.hid M0.out.drew
 obtain ⟨r0,r1,r2⟩:=ps_r (W:=W) (b:=b) (r:=r) (q:=q) (t:=s.t)
 clear h0 h1 h2 f0 f1 M0
 refine wp_region_held_drew (S:=(fun w'=>Hid (PSome W b r q s.t w'))) (by kernel_rfl) (ps_of M1) (fun hHeld=>?_)
 simp only [List.size_toArray,List.length_cons,List.length_nil,Nat.reduceAdd,Array.replicate_succ,Array.replicate_zero,List.push_toArray,List.nil_append,List.cons_append]
 refine wpAnyH_take (i:=0) (oi:=⟨some 25,_,_,_,_,_⟩) (v:=?v1) rfl (by kernel_rfl) (by kernel_rfl) (by kernel_rfl) (fun _ _ _ h=>h) (Or.inl ⟨by rfl,?y1⟩) (by assumption) ?r1
 case y1=>intro w hSw;clear hSw;go_simp;(try with_reducible rfl)
 simp only [Act.put,List.setIfInBounds_toArray,List.set_cons_zero,List.set_cons_succ]
 refine wpAnyH_take (i:=1) (oi:=⟨some 26,_,_,_,_,_⟩) (v:=?v2) rfl (by kernel_rfl) (by kernel_rfl) (by kernel_rfl) (fun _ _ _ h=>h) (Or.inl ⟨by rfl,?y2⟩) (by assumption) ?r2
 case y2=>intro w hSw;clear hSw;go_simp;(try with_reducible rfl)
 simp only [Act.put,List.setIfInBounds_toArray,List.set_cons_zero,List.set_cons_succ]
 refine wpAnyH_take (i:=2) (oi:=⟨some 27,_,_,_,_,_⟩) (v:=?v3) rfl (by kernel_rfl) (by kernel_rfl) (by kernel_rfl) (fun _ _ _ h=>h) (Or.inl ⟨by rfl,?y3⟩) (by assumption) ?r3
 case y3=>intro w hSw;clear hSw;go_simp;(try with_reducible rfl)
 simp only [Act.put,List.setIfInBounds_toArray,List.set_cons_zero,List.set_cons_succ]
 refine wpAnyH_take (i:=3) (oi:=⟨some 28,_,_,_,_,_⟩) (v:=?v4) rfl (by kernel_rfl) (by kernel_rfl) (by kernel_rfl) (fun _ _ _ h=>h) (Or.inl ⟨by rfl,?y4⟩) (by assumption) ?r4
 case y4=>intro w hSw;clear hSw;go_simp;(try with_reducible rfl)
 simp only [Act.put,List.setIfInBounds_toArray,List.set_cons_zero,List.set_cons_succ]
 refine wpAnyH_take (i:=5) (oi:=⟨some 30,_,_,_,_,_⟩) (v:=?v5) rfl (by kernel_rfl) (by kernel_rfl) (by kernel_rfl) (fun _ _ _ h=>h) (Or.inl ⟨by rfl,?y5⟩) (by assumption) ?r5
 case y5=>intro w hSw;clear hSw;go_simp;(try with_reducible rfl)
 simp only [Act.put,List.setIfInBounds_toArray,List.set_cons_zero,List.set_cons_succ]
 refine wpAnyH_take (i:=6) (oi:=⟨some 31,_,_,_,_,_⟩) (v:=?v6) rfl (by kernel_rfl) (by kernel_rfl) (by kernel_rfl) (fun _ _ _ h=>h) (Or.inl ⟨by rfl,?y6⟩) (by assumption) ?r6
 case y6=>intro w hSw;clear hSw;go_simp;(try with_reducible rfl)
 simp only [Act.put,List.setIfInBounds_toArray,List.set_cons_zero,List.set_cons_succ]
 refine wpAnyH_take (i:=7) (oi:=⟨some 32,_,_,_,_,_⟩) (v:=?v7) rfl (by kernel_rfl) (by kernel_rfl) (by kernel_rfl) (fun _ _ _ h=>h) (Or.inl ⟨by rfl,?y7⟩) (by assumption) ?r7
 case y7=>intro w hSw;clear hSw;go_simp;(try with_reducible rfl)
 simp only [Act.put,List.setIfInBounds_toArray,List.set_cons_zero,List.set_cons_succ]
 refine wpAnyH_take (i:=8) (oi:=⟨some 33,_,_,_,_,_⟩) (v:=?v8) rfl (by kernel_rfl) (by kernel_rfl) (by kernel_rfl) (fun _ _ _ h=>h) (Or.inl ⟨by rfl,?y8⟩) (by assumption) ?r8
 case y8=>intro w hSw;skip;go_simp;(try with_reducible rfl)
 simp only [Act.put,List.setIfInBounds_toArray,List.set_cons_zero,List.set_cons_succ]
 refine wpAnyH_take (i:=9) (oi:=⟨some 34,_,_,_,_,_⟩) (v:=?v9) rfl (by kernel_rfl) (by kernel_rfl) (by kernel_rfl) (fun _ _ _ h=>h) (Or.inl ⟨by rfl,?y9⟩) (by assumption) ?r9
 case y9=>intro w hSw;clear hSw;go_simp;(try with_reducible rfl)
 simp only [Act.put,List.setIfInBounds_toArray,List.set_cons_zero,List.set_cons_succ]
 refine wpAnyH_take (i:=10) (oi:=⟨some 35,_,_,_,_,_⟩) (v:=?v10) rfl (by kernel_rfl) (by kernel_rfl) (by kernel_rfl) (fun _ _ _ h=>h) (Or.inl ⟨by rfl,?y10⟩) (by assumption) ?r10
 case y10=>intro w hSw;clear hSw;go_simp;(try with_reducible rfl)
 simp only [Act.put,List.setIfInBounds_toArray,List.set_cons_zero,List.set_cons_succ]
 refine wpAnyH_take (i:=11) (oi:=⟨some 36,_,_,_,_,_⟩) (v:=?v11) rfl (by kernel_rfl) (by kernel_rfl) (by kernel_rfl) (fun _ _ _ h=>h) (Or.inl ⟨by rfl,?y11⟩) (by assumption) ?r11
 case y11=>intro w hSw;clear hSw;go_simp;(try with_reducible rfl)
 simp only [Act.put,List.setIfInBounds_toArray,List.set_cons_zero,List.set_cons_succ]
 refine wpAnyH_take (i:=12) (oi:=⟨some 37,_,_,_,_,_⟩) (v:=?v12) rfl (by kernel_rfl) (by kernel_rfl) (by kernel_rfl) (fun _ _ _ h=>h) (Or.inl ⟨by rfl,?y12⟩) (by assumption) ?r12
 case y12=>intro w hSw;clear hSw;go_simp;(try with_reducible rfl)
 simp only [Act.put,List.setIfInBounds_toArray,List.set_cons_zero,List.set_cons_succ]
 refine wpAnyH_take (i:=13) (oi:=⟨some 38,_,_,_,_,_⟩) (v:=?v13) rfl (by kernel_rfl) (by kernel_rfl) (by kernel_rfl) (fun _ _ _ h=>h) (Or.inl ⟨by rfl,?y13⟩) (by assumption) ?r13
 case y13=>intro w hSw;skip;go_simp;(try with_reducible rfl)
 simp only [Act.put,List.setIfInBounds_toArray,List.set_cons_zero,List.set_cons_succ]
 refine wpAnyH_take (i:=14) (oi:=⟨some 39,_,_,_,_,_⟩) (v:=?v14) rfl (by kernel_rfl) (by kernel_rfl) (by kernel_rfl) (fun _ _ _ h=>h) (Or.inl ⟨by rfl,?y14⟩) (by assumption) ?r14
 case y14=>intro w hSw;clear hSw;go_simp;(try with_reducible rfl)
 simp only [Act.put,List.setIfInBounds_toArray,List.set_cons_zero,List.set_cons_succ]
 refine wpAnyH_take (i:=18) (oi:=⟨some 43,_,_,_,_,_⟩) (v:=?v15) rfl (by kernel_rfl) (by kernel_rfl) (by kernel_rfl) (fun _ _ _ h=>h) (Or.inl ⟨by rfl,?y15⟩) (by assumption) ?r15
 case y15=>intro w hSw;clear hSw;go_simp;(try with_reducible rfl)
 simp only [Act.put,List.setIfInBounds_toArray,List.set_cons_zero,List.set_cons_succ]
 refine wpAnyH_take (i:=19) (oi:=⟨some 44,_,_,_,_,_⟩) (v:=?v16) rfl (by kernel_rfl) (by kernel_rfl) (by kernel_rfl) (fun _ _ _ h=>h) (Or.inl ⟨by rfl,?y16⟩) (by assumption) ?r16
 case y16=>intro w hSw;clear hSw;go_simp;(try with_reducible rfl)
 simp only [Act.put,List.setIfInBounds_toArray,List.set_cons_zero,List.set_cons_succ]
 refine wpAnyH_take (i:=20) (oi:=⟨some 45,_,_,_,_,_⟩) (v:=?v17) rfl (by kernel_rfl) (by kernel_rfl) (by kernel_rfl) (fun _ _ _ h=>h) (Or.inl ⟨by rfl,?y17⟩) (by assumption) ?r17
 case y17=>intro w hSw;clear hSw;go_simp;(try with_reducible rfl)
 simp only [Act.put,List.setIfInBounds_toArray,List.set_cons_zero,List.set_cons_succ]
 refine wpAnyH_take (i:=21) (oi:=⟨some 46,_,_,_,_,_⟩) (v:=?v18) rfl (by kernel_rfl) (by kernel_rfl) (by kernel_rfl) (fun _ _ _ h=>h) (Or.inl ⟨by rfl,?y18⟩) (by assumption) ?r18
 case y18=>intro w hSw;skip;go_simp;(try with_reducible rfl)
 simp only [Act.put,List.setIfInBounds_toArray,List.set_cons_zero,List.set_cons_succ]
 refine wpAnyH_ready (rs:=[4,15]) (by kernel_rfl) (by simp) ?_
 refine AllReadyH.cons (o:=⟨some 29,_,_,_,_,_⟩) rfl (fun K hK=>?_) ?_
 ·have c3:=(Hid.out (by assumption):PMut W b ⟨r,q,s.t,s.s⟩ _).blk.cell (i:=3) (v:=.int .u64 s.s) rfl
  go_simp
  refine hK.out _ _ hHeld (fun hHeld=>?_)
  clear hK
  try simp only [List.setIfInBounds_toArray,List.set_cons_zero,List.set_cons_succ]
  refine wpAnyH_ready (rs:=[15]) (by kernel_rfl) (by simp) ?_
  refine AllReadyH.cons (o:=⟨some 40,_,_,_,_,_⟩) rfl (fun K hK=>?_) AllReadyH.nil
  go_simp
  refine (hE.out _).mono ?_
  rintro e w2 ⟨rfl,hb⟩
  have M2:=Lib.hid ((Hid.out (by assumption):PMut W b ⟨r,q,s.t,s.s⟩ _).to hb)
  go_wp2_with fail
  refine hK.out _ _ (ps_of M2) (fun hHeld=>?_)
  clear hK
  try simp only [List.setIfInBounds_toArray,List.set_cons_zero,List.set_cons_succ]
  refine wpAnyH_ready (rs:=[16]) (by kernel_rfl) (by simp) ?_
  refine AllReadyH.cons (o:=⟨some 41,_,_,_,_,_⟩) rfl (fun K hK=>?_) AllReadyH.nil
  have Z1:=Lib.hid ((Hid.out (by assumption):PMut W b ⟨r,q,s.t,s.s⟩ _).al2 s.s x 22)
  have M3:=Lib.hid Z1.out.m
  go_simp
  refine hK.out _ _ (ps_of M3) (fun hHeld=>?_)
  clear hK
  try simp only [List.setIfInBounds_toArray,List.set_cons_zero,List.set_cons_succ]
  refine wpAnyH_ready (rs:=[17]) (by kernel_rfl) (by simp) ?_
  refine AllReadyH.cons (o:=⟨some 42,_,_,_,_,_⟩) rfl (fun K hK=>?_) AllReadyH.nil
  go_simp
  refine (hA.out _ _ (Hid.out (by assumption):PM2 W b ⟨r,q,s.t,s.s⟩ _ s.s x _).c0 (Hid.out (by assumption):PM2 W b ⟨r,q,s.t,s.s⟩ _ s.s x _).c1).mono ?_
  rintro e w4 ⟨rfl,hb⟩
  have M4:=Lib.hid ((Hid.out (by assumption):PMut W b ⟨r,q,s.t,s.s⟩ _).to hb)
  go_wp2_with fail
  refine hK.out _ _ (ps_of M4) (fun hHeld=>?_)
  clear hK
  try simp only [List.setIfInBounds_toArray,List.set_cons_zero,List.set_cons_succ]
  refine wpAnyH_ready (rs:=[22]) (by kernel_rfl) (by simp) ?_
  refine AllReadyH.cons (o:=⟨some 47,_,_,_,_,_⟩) rfl (fun K hK=>?_) AllReadyH.nil
  go_simp
  refine (hM.out _).mono ?_
  rintro e w5 ⟨rfl,hb⟩
  have M5:=Lib.hid ((Hid.out (by assumption):PMut W b ⟨r,q,s.t,s.s⟩ _).to hb)
  (first | have Z2:=Lib.hid ((Hid.out (by assumption):PM2 W b ⟨r,q,s.t,s.s⟩ _ s.s x _).to hb) | skip)
  go_wp2_with fail
  refine hK.out _ _ (ps_of M5) (fun hHeld=>?_)
  clear hK
  try simp only [List.setIfInBounds_toArray,List.set_cons_zero,List.set_cons_succ]
  refine wpAnyH_take (i:=23) (oi:=⟨some 48,_,_,_,_,_⟩) (v:=?v19) rfl (by kernel_rfl) (by kernel_rfl) (by kernel_rfl) (fun _ _ _ h=>h) (Or.inl ⟨by rfl,?y19⟩) (by assumption) ?r19
  case y19=>intro w hSw;skip;go_simp;(try with_reducible rfl)
  simp only [Act.put,List.setIfInBounds_toArray,List.set_cons_zero,List.set_cons_succ]
  refine wpAnyH_take (i:=24) (oi:=⟨some 49,_,_,_,_,_⟩) (v:=?v20) rfl (by kernel_rfl) (by kernel_rfl) (by kernel_rfl) (fun _ _ _ h=>h) (Or.inl ⟨by rfl,?y20⟩) (by assumption) ?r20
  case y20=>intro w hSw;clear hSw;go_simp;(try with_reducible rfl)
  simp only [Act.put,List.setIfInBounds_toArray,List.set_cons_zero,List.set_cons_succ]
  refine wpAnyH_take (i:=25) (oi:=⟨some 50,_,_,_,_,_⟩) (v:=?v21) rfl (by kernel_rfl) (by kernel_rfl) (by kernel_rfl) (fun _ _ _ h=>h) (Or.inl ⟨by rfl,?y21⟩) (by assumption) ?r21
  case y21=>intro w hSw;clear hSw;go_simp;(try with_reducible rfl)
  simp only [Act.put,List.setIfInBounds_toArray,List.set_cons_zero,List.set_cons_succ]
  refine wpAnyH_ready (rs:=[26]) (by kernel_rfl) (by simp) ?_
  refine AllReadyH.cons (o:=⟨none,_,_,_,_,_⟩) rfl (fun K hK=>?_) AllReadyH.nil
  have y3:=(Hid.out (by assumption):PMut W b ⟨r,q,s.t,s.s⟩ _).blk.free 3
  have c3:=(Hid.out (by assumption):PMut W b ⟨r,q,s.t,s.s⟩ _).blk.cell (i:=3) (v:=.int .u64 s.s) rfl
  have M6:=Lib.hid ((Hid.out (by assumption):PMut W b ⟨r,q,s.t,s.s⟩ _).set (s':=⟨r,q,s.t,z⟩) 3 (.int .u64 (z:Int)) rfl)
  go_simp
  refine hK.out _ _ (ps_of M6) (fun hHeld=>?_)
  clear hK
  try simp only [List.setIfInBounds_toArray,List.set_cons_zero,List.set_cons_succ]
  refine wpAnyH_done (by kernel_rfl) ?_ _
  have y2:=M6.out.blk.free 2
  have M7:=Lib.hid (M6.out.set (s':=⟨r,q,now,z⟩) 2 (.int .u64 (now:Int)) rfl)
  go_wp2_with fail
  go_ret
  exact M7.out.post
 refine AllReadyH.cons (o:=⟨some 40,_,_,_,_,_⟩) rfl (fun K hK=>?_) AllReadyH.nil
 go_simp
 refine (hE.out _).mono ?_
 rintro e w2 ⟨rfl,hb⟩
 have M2:=Lib.hid ((Hid.out (by assumption):PMut W b ⟨r,q,s.t,s.s⟩ _).to hb)
 go_wp2_with fail
 refine hK.out _ _ (ps_of M2) (fun hHeld=>?_)
 clear hK
 try simp only [List.setIfInBounds_toArray,List.set_cons_zero,List.set_cons_succ]
 refine wpAnyH_ready (rs:=[4]) (by kernel_rfl) (by simp) ?_
 refine AllReadyH.cons (o:=⟨some 29,_,_,_,_,_⟩) rfl (fun K hK=>?_) AllReadyH.nil
 have c3:=(Hid.out (by assumption):PMut W b ⟨r,q,s.t,s.s⟩ _).blk.cell (i:=3) (v:=.int .u64 s.s) rfl
 go_simp
 refine hK.out _ _ hHeld (fun hHeld=>?_)
 clear hK
 try simp only [List.setIfInBounds_toArray,List.set_cons_zero,List.set_cons_succ]
 refine wpAnyH_ready (rs:=[16]) (by kernel_rfl) (by simp) ?_
 refine AllReadyH.cons (o:=⟨some 41,_,_,_,_,_⟩) rfl (fun K hK=>?_) AllReadyH.nil
 have Z1:=Lib.hid ((Hid.out (by assumption):PMut W b ⟨r,q,s.t,s.s⟩ _).al2 s.s x 22)
 have M3:=Lib.hid Z1.out.m
 go_simp
 refine hK.out _ _ (ps_of M3) (fun hHeld=>?_)
 clear hK
 try simp only [List.setIfInBounds_toArray,List.set_cons_zero,List.set_cons_succ]
 refine wpAnyH_ready (rs:=[17]) (by kernel_rfl) (by simp) ?_
 refine AllReadyH.cons (o:=⟨some 42,_,_,_,_,_⟩) rfl (fun K hK=>?_) AllReadyH.nil
 go_simp
 refine (hA.out _ _ (Hid.out (by assumption):PM2 W b ⟨r,q,s.t,s.s⟩ _ s.s x _).c0 (Hid.out (by assumption):PM2 W b ⟨r,q,s.t,s.s⟩ _ s.s x _).c1).mono ?_
 rintro e w4 ⟨rfl,hb⟩
 have M4:=Lib.hid ((Hid.out (by assumption):PMut W b ⟨r,q,s.t,s.s⟩ _).to hb)
 go_wp2_with fail
 refine hK.out _ _ (ps_of M4) (fun hHeld=>?_)
 clear hK
 try simp only [List.setIfInBounds_toArray,List.set_cons_zero,List.set_cons_succ]
 refine wpAnyH_ready (rs:=[22]) (by kernel_rfl) (by simp) ?_
 refine AllReadyH.cons (o:=⟨some 47,_,_,_,_,_⟩) rfl (fun K hK=>?_) AllReadyH.nil
 go_simp
 refine (hM.out _).mono ?_
 rintro e w5 ⟨rfl,hb⟩
 have M5:=Lib.hid ((Hid.out (by assumption):PMut W b ⟨r,q,s.t,s.s⟩ _).to hb)
 (first | have Z2:=Lib.hid ((Hid.out (by assumption):PM2 W b ⟨r,q,s.t,s.s⟩ _ s.s x _).to hb) | skip)
 go_wp2_with fail
 refine hK.out _ _ (ps_of M5) (fun hHeld=>?_)
 clear hK
 try simp only [List.setIfInBounds_toArray,List.set_cons_zero,List.set_cons_succ]
 refine wpAnyH_take (i:=23) (oi:=⟨some 48,_,_,_,_,_⟩) (v:=?v22) rfl (by kernel_rfl) (by kernel_rfl) (by kernel_rfl) (fun _ _ _ h=>h) (Or.inl ⟨by rfl,?y22⟩) (by assumption) ?r22
 case y22=>intro w hSw;skip;go_simp;(try with_reducible rfl)
 simp only [Act.put,List.setIfInBounds_toArray,List.set_cons_zero,List.set_cons_succ]
 refine wpAnyH_take (i:=24) (oi:=⟨some 49,_,_,_,_,_⟩) (v:=?v23) rfl (by kernel_rfl) (by kernel_rfl) (by kernel_rfl) (fun _ _ _ h=>h) (Or.inl ⟨by rfl,?y23⟩) (by assumption) ?r23
 case y23=>intro w hSw;clear hSw;go_simp;(try with_reducible rfl)
 simp only [Act.put,List.setIfInBounds_toArray,List.set_cons_zero,List.set_cons_succ]
 refine wpAnyH_take (i:=25) (oi:=⟨some 50,_,_,_,_,_⟩) (v:=?v24) rfl (by kernel_rfl) (by kernel_rfl) (by kernel_rfl) (fun _ _ _ h=>h) (Or.inl ⟨by rfl,?y24⟩) (by assumption) ?r24
 case y24=>intro w hSw;clear hSw;go_simp;(try with_reducible rfl)
 simp only [Act.put,List.setIfInBounds_toArray,List.set_cons_zero,List.set_cons_succ]
 refine wpAnyH_ready (rs:=[26]) (by kernel_rfl) (by simp) ?_
 refine AllReadyH.cons (o:=⟨none,_,_,_,_,_⟩) rfl (fun K hK=>?_) AllReadyH.nil
 have y3:=(Hid.out (by assumption):PMut W b ⟨r,q,s.t,s.s⟩ _).blk.free 3
 have c3:=(Hid.out (by assumption):PMut W b ⟨r,q,s.t,s.s⟩ _).blk.cell (i:=3) (v:=.int .u64 s.s) rfl
 have M6:=Lib.hid ((Hid.out (by assumption):PMut W b ⟨r,q,s.t,s.s⟩ _).set (s':=⟨r,q,s.t,z⟩) 3 (.int .u64 (z:Int)) rfl)
 go_simp
 refine hK.out _ _ (ps_of M6) (fun hHeld=>?_)
 clear hK
 try simp only [List.setIfInBounds_toArray,List.set_cons_zero,List.set_cons_succ]
 refine wpAnyH_done (by kernel_rfl) ?_ _
 have y2:=M6.out.blk.free 2
 have M7:=Lib.hid (M6.out.set (s':=⟨r,q,now,z⟩) 2 (.int .u64 (now:Int)) rfl)
 go_wp2_with fail
 go_ret
 exact M7.out.post
theorem pc_Tick (b now r q:Nat) (s:PS) (W:World) (h:Blk W b 150 s.cells) (ho:s.ok) (hn:now≤18446744073709551615) (hr:r≤18446744073709551615) (hq:q≤18446744073709551615):
  Calls Tryz.prog 50 #[.pointer (some ⟨b,0,none⟩),.int .u64 (now:Int),.int .u64 (r:Int),.int .u64 (q:Int)] W (PPost W b (.int .i64 (s.tickE now)) (s.tickS now r q)):=by
 unfold PS.tickE
 by_cases c:now < s.t
 ·have e:s.tickS now r q=s:=by unfold PS.tickS;rw [if_pos c]
  rw [if_pos c,e]
  exact pc_Tick_no b now r q s W h c
 ·rw [if_neg c]
  exact pc_Tick_yes b now r q s W h ho hn hr hq c
set_option maxHeartbeats 1000000 in
theorem pc_Take (b x:Nat) (s:PS) (W:World) (h:Blk W b 150 s.cells) (ho:s.ok) (hx:x≤18446744073709551615):
  Calls Tryz.prog 110 #[.pointer (some ⟨b,0,none⟩),.int .u64 (x:Int)] W (PPost W b (.bool (s.takeB x)) (s.takeS x)):=by
 have HC:=Lib.hid (fun w=>pc_credit x w hx)
 have M0:=Lib.hid (PMut.start h).drew
 unfold PS.takeB PS.takeS
 have hs:=ho.2.2.2
 clear h ho hx
 by_cases c:Pl.mulS x 1000000≤s.s
 ·rw [decide_eq_true c,if_pos c]
  have d:decide (s.s < Pl.mulS x 1000000)=false:=decide_eq_false (by omega)
  have e:IntKind.u64.wrap ((s.s - Pl.mulS x 1000000:Nat):Int)=((s.s - Pl.mulS x 1000000:Nat):Int):=by rw [IntKind.wrap_u64];omega
  have e':(s.s:Int) - ((Pl.mulS x 1000000:Nat):Int)=((s.s - Pl.mulS x 1000000:Nat):Int):=by omega
  generalize s.s - Pl.mulS x 1000000=z at *
  generalize Pl.mulS x 1000000=m at *
  clear c hs
  go_enter Tryz.func110,Tryz.ntmps110
  go_wp2_with fail
  have c3:=M0.out.blk.cell (i:=3) (v:=.int .u64 (s.s:Int)) rfl
  go_region_held3 (fun w'=>w'.cell? ⟨b,3,none⟩=some (.int .u64 (s.s:Int))∧Hid (PMut W b s w'))
   (first | exact ⟨c3,M0⟩ | assumption | exact ⟨by assumption,by assumption⟩)
   (first
    | (go_at_call 115;go_split_ands;(refine (HC.out _).mono ?_);rintro e w' ⟨rfl,rfl⟩))
  all_goals
   go_split_ands
   have M1:=(‹Hid (PMut W b s _)›)
   clear c3 M0
   go_wp2_with fail
   have M2:=Lib.hid M1.out.drew
   have c3:=M2.out.blk.cell (i:=3) (v:=.int .u64 (s.s:Int)) rfl
   have y3:=M2.out.blk.free 3
   have M3:=Lib.hid (M2.out.set (s':=⟨s.r,s.q,s.t,z⟩) 3 (.int .u64 (z:Int)) rfl)
   go_region_with (first
    | (go_at_call 115;(refine (HC.out _).mono ?_);rintro e w' ⟨rfl,rfl⟩))
   all_goals
    go_wp2_with fail
    go_ret
    exact M3.out.post
 ·rw [decide_eq_false c,if_neg c]
  have d:decide (s.s < Pl.mulS x 1000000)=true:=decide_eq_true (by omega)
  generalize Pl.mulS x 1000000=m at *
  clear c hs
  go_enter Tryz.func110,Tryz.ntmps110
  go_wp2_with fail
  have c3:=M0.out.blk.cell (i:=3) (v:=.int .u64 (s.s:Int)) rfl
  go_region_held3 (fun w'=>w'.cell? ⟨b,3,none⟩=some (.int .u64 (s.s:Int))∧Hid (PMut W b s w'))
   (first | exact ⟨c3,M0⟩ | assumption | exact ⟨by assumption,by assumption⟩)
   (first
    | (go_at_call 115;go_split_ands;(refine (HC.out _).mono ?_);rintro e w' ⟨rfl,rfl⟩))
  all_goals
   go_split_ands
   have M1:=(‹Hid (PMut W b s _)›)
   go_wp2_with fail
   go_ret
   exact M1.out.post
theorem PS.next_wait (s:PS) (x:Nat) (ho:s.ok):(s.q < x→s.nextB x=false∧s.nextT x=0)∧(¬ s.q < x→s.nextB x=waitB s.r (s.lack x)∧s.nextT x=if waitB s.r (s.lack x)=true then Pl.addS s.t (waitT s.r (s.lack x)) else 0):=by
 unfold PS.nextB PS.nextT waitB waitT
 refine ⟨fun c=>⟨by rw [if_pos c],by rw [if_pos c]⟩,fun c=>?_⟩
 rw [if_neg c,if_neg c]
 refine ⟨rfl,?_⟩
 split
 ·simp only [if_true]
  have:=ho.2.2.1
  unfold Pl.addS
  omega
 ·split <;> simp
set_option maxHeartbeats 1000000 in
theorem pc_Next (b x:Nat) (s:PS) (W:World) (h:Blk W b 150 s.cells) (ho:s.ok) (hx:x≤18446744073709551615):
  Calls Tryz.prog 54 #[.pointer (some ⟨b,0,none⟩),.int .u64 (x:Int)] W fun e w'=>e=.returned (.tuple #[.int .u64 (s.nextT x:Int),.bool (s.nextB x)])∧Below W.heap.size W w':=by
 obtain ⟨n1,n2⟩:=s.next_wait x ho
 have h1:=h.cell (i:=1) (v:=.int .u64 (s.q:Int)) rfl
 by_cases c:s.q < x
 ·obtain ⟨e1,e2⟩:=n1 c
  have E1:=Lib.hid e1
  have E2:=Lib.hid e2
  have d:decide (s.q < x)=true:=decide_eq_true c
  rw [E1.out,E2.out]
  clear n1 n2 e1 e2 c h ho
  go_enter Tryz.func54,Tryz.ntmps54
  go_wp2
  go_ret2
  exact ⟨rfl,Below.refl _ _⟩
 ·obtain ⟨e1,e2⟩:=n2 c
  have E1:=Lib.hid e1
  have E2:=Lib.hid e2
  have d:decide (s.q < x)=false:=decide_eq_false c
  have HC:=Lib.hid (fun w=>pc_credit x w hx)
  have HL:Hid (∀b w,w.cell? ⟨b,0,none⟩=some (.int .u64 (s.s:Int))→Calls Tryz.prog 114 #[.int .u64 ((Pl.mulS x 1000000:Nat):Int),.slice (some ⟨b,0,none⟩) 1 1] w fun e w'=>e=.returned (.int .u64 ((s.lack x:Nat):Int))∧w=w'):=Lib.hid (fun b w hw=>sub_any (Pl.mulS x 1000000) s.s b (Pl.mulS_le _ _) ho.2.2.2 w hw)
  have hl:s.lack x≤18446744073709551615:=Nat.le_trans (Nat.sub_le _ _) (Pl.mulS_le _ _)
  have HW:=Lib.hid (fun w=>pc_wait s.r s.q (s.lack x) w ho.1 hl)
  have HA:=Lib.hid (add_any s.t (waitT s.r (s.lack x)) ho.2.2.1 (waitT_le _ _))
  have M0:=Lib.hid (PMut.start h)
  have I0:Hid (Blk W b 150 s.cells∧Below W.heap.size W W):=Lib.hid ⟨h,Below.refl _ _⟩
  rw [E1.out,E2.out]
  clear n1 n2 e1 e2 c h ho hl hx E1 E2 M0
  generalize Pl.addS s.t (waitT s.r (s.lack x))=n at *
  generalize waitT s.r (s.lack x)=t at *
  generalize waitB s.r (s.lack x)=o at *
  generalize s.lack x=l at *
  generalize Pl.mulS x 1000000=m at *
  go_enter Tryz.func54,Tryz.ntmps54
  go_wp2_with fail
  obtain ⟨r0,r1,r3⟩:=pn_r (W:=W) (b:=b) (s:=s)
  have I1:=pn_k I0 ((Drawn.drew W).below _)
  clear I0
  go_region_held3 (fun w'=>Hid (Blk w' b 150 s.cells∧Below W.heap.size W w'))
   (first | exact I1 | assumption | exact pn_k (by assumption) hb | exact pn_k (by assumption) (al_be _ _))
   (first
    | (go_at_call 115;(refine (HC.out _).mono ?_);rintro e w' ⟨rfl,rfl⟩)
    | (go_at_call 114;(refine (HL.out _ _ (by first | exact new_cell rfl rfl | exact cell_dr (new_cell rfl rfl))).mono ?_);rintro e w' ⟨rfl,rfl⟩)
    | (go_at_call 113;(refine (HW.out _).mono ?_);rintro e w' ⟨rfl,hb⟩))
  all_goals
   have I2:=(‹Hid (Blk _ b 150 s.cells∧Below W.heap.size W _)›)
   have c2:=I2.out.1.cell (i:=2) (v:=.int .u64 (s.t:Int)) rfl
   have l2:=I2.out.1.lt
   clear r0 r1 r3 I1 h1
   cases o with
   | false=>
     go_wp2_with fail
     go_ret2
     exact ⟨rfl,I2.out.2⟩
   | true=>
     go_wp2_with (go_at_call 57;(refine (HA.out _ _ (nc2 _ _ _ _).1 (nc2 _ _ _ _).2).mono ?_);rintro e w' ⟨rfl,hb⟩)
     go_ret2
     exact ⟨rfl,bel_to I2.out.2 ((al_be _ _).trans (hb.mono (by simp))) I2.out.2.size⟩
end Go.Proofs.YteoepabmnbkabaaGreatDoor

set_option linter.unusedVariables false
namespace Go.Proofs.YteoepabmnbkabaaGreatDoor
open Go.RowKit
def TS.rd (s:TS):Array Value:=#[.int .u64 (s.la:Int),.int .u64 (s.sm:Int),.int .u64 (s.sp:Int),.bool s.so]
def TS.cells (s:TS):Array Value:=#[.int .u64 (s.la:Int),.int .u64 (s.sm:Int),.int .u64 (s.sp:Int),.bool s.so,.int .i64 (s.n:Int)]
theorem tr_New (w:World):Calls Tryz.prog 31 #[] w fun e w'=>e=.returned (.pointer (some ⟨w.heap.size,0,none⟩))∧w.alloc (.cells TS.zero.cells 144)=w':=by
 go_enter Tryz.func31,Tryz.ntmps31
 go_wp2
 go_ret
 exact ⟨rfl,rfl⟩
structure WiI (W:World) (r x:Array Value) (w:World):Prop where
 p:Blk w W.heap.size 142 r
 z:Blk w (W.heap.size + 1) 142 #[.int .u64 0,.int .u64 0,.int .u64 0,.bool false]
 n:Blk w (W.heap.size + 1 + 1) 142 x
 bel:Below W.heap.size W w
theorem WiI.start (W:World) (r x:Array Value):WiI W r x (((W.alloc (.cells r 142)).alloc (.cells #[.int .u64 0,.int .u64 0,.int .u64 0,.bool false] 142)).alloc (.cells x 142)):=
 ⟨((Blk.new _ _ _).alloc _).alloc _,(Blk.new1 _ _ _ _).alloc _,by have:=Blk.new ((W.alloc (.cells r 142)).alloc (.cells #[.int .u64 0,.int .u64 0,.int .u64 0,.bool false] 142)) 142 x;simpa using this,(((Below.refl _ _).alloc (Nat.le_refl _) _).alloc (by simp) _).alloc (by simp;omega) _⟩
theorem WiI.to {W w w':World} {r x:Array Value} (h:WiI W r x w) (k:Below w.heap.size w w'):WiI W r x w':=⟨h.p.keep k,h.z.keep k,h.n.keep k,bel_to h.bel k h.bel.size⟩
theorem WiI.al {W w w':World} {r x:Array Value} {o:Obj} (h:WiI W r x w) (k:Below (w.alloc o).heap.size (w.alloc o) w'):WiI W r x w':=(h.to (al_be _ _)).to k
theorem WiI.set {W w:World} {r x x':Array Value} (h:WiI W r x w) (i:Nat) (u:Value) (he:x.setIfInBounds i u=x'):WiI W r x' (w.setCell ⟨W.heap.size + 1 + 1,i,none⟩ u):=
 ⟨h.p.set_other i u (by omega),h.z.set_other i u (by omega),he▸h.n.set i u,h.bel.setCell (p:=⟨W.heap.size + 1 + 1,i,none⟩) (by simp;omega) u⟩
set_option maxHeartbeats 1000000 in
theorem tr_with_no (la sm sp x:Nat) (W:World) (hx:x≤18446744073709551615):
  Calls Tryz.prog 132 #[.agg #[.int .u64 (la:Int),.int .u64 (sm:Int),.int .u64 (sp:Int),.bool false],.int .u64 (x:Int)] W fun e w'=>e=.returned (.agg #[.int .u64 (x:Int),.int .u64 (x:Int),.int .u64 ((x / 2:Nat):Int),.bool true])∧Below W.heap.size W w':=by
 have hq:IntKind.u64.wrap ((x:Int) / 2)=((x / 2:Nat):Int):=by rw [IntKind.wrap_u64];omega
 have I0:=Lib.hid (WiI.start W #[.int .u64 (la:Int),.int .u64 (sm:Int),.int .u64 (sp:Int),.bool false] #[.int .u64 (x:Int),.int .u64 (x:Int),.int .u64 ((x / 2:Nat):Int),.bool true])
 generalize x / 2=h at *
 clear hx
 go_enter Tryz.func132,Tryz.ntmps132
 go_wp2
 exact bodyPost_ret (results_cell rfl _ _ (W.heap.size + 1) 142 _ _ rfl ((Blk.new1 W _ _ _).alloc _) Tryz.underlying142 rfl (by kernel_rfl)) rfl ⟨rfl,(((Below.refl _ _).alloc (Nat.le_refl _) _).alloc (by simp) _).alloc (by simp;omega) _⟩
set_option maxHeartbeats 1000000 in
theorem tr_with_yes (la sm sp x:Nat) (W:World) (hsm:sm≤18446744073709551615) (hsp:sp≤18446744073709551615) (hx:x≤18446744073709551615):
  Calls Tryz.prog 132 #[.agg #[.int .u64 (la:Int),.int .u64 (sm:Int),.int .u64 (sp:Int),.bool true],.int .u64 (x:Int)] W fun e w'=>e=.returned (.agg #[.int .u64 (x:Int),.int .u64 ((Pl.addS (Pl.mulS 7 sm) x / 8:Nat):Int),.int .u64 ((Pl.addS (Pl.mulS 3 sp) (TS.far sm x) / 4:Nat):Int),.bool true])∧Below W.heap.size W w':=by
 have hq:IntKind.u64.wrap ((x:Int) / 2)=((x / 2:Nat):Int):=by rw [IntKind.wrap_u64];omega
 have I0:=Lib.hid (WiI.start W #[.int .u64 (la:Int),.int .u64 (sm:Int),.int .u64 (sp:Int),.bool true] #[.int .u64 (x:Int),.int .u64 (x:Int),.int .u64 ((x / 2:Nat):Int),.bool true])
 have hd:max (sm:Int) (x:Int) - min (sm:Int) (x:Int)=((TS.far sm x:Nat):Int):=by unfold TS.far;omega
 have hfar:TS.far sm x≤18446744073709551615:=by unfold TS.far;omega
 have hdw:IntKind.u64.wrap ((TS.far sm x:Nat):Int)=((TS.far sm x:Nat):Int):=by rw [IntKind.wrap_u64];omega
 have HM3:Hid (∀w,Calls Tryz.prog 165 #[.int .u64 3,.int .u64 (sp:Int)] w fun e w'=>e=.returned (.int .u64 ((Pl.mulS 3 sp:Nat):Int))∧w=w'):=Lib.hid (fun w=>fix_Mul_n 3 sp w (by omega) hsp)
 have HM7:Hid (∀w,Calls Tryz.prog 165 #[.int .u64 7,.int .u64 (sm:Int)] w fun e w'=>e=.returned (.int .u64 ((Pl.mulS 7 sm:Nat):Int))∧w=w'):=Lib.hid (fun w=>fix_Mul_n 7 sm w (by omega) hsm)
 have HA3:=Lib.hid (add_any (Pl.mulS 3 sp) (TS.far sm x) (Pl.mulS_le _ _) hfar)
 have HA7:=Lib.hid (add_any (Pl.mulS 7 sm) x (Pl.mulS_le _ _) hx)
 have hq4:IntKind.u64.wrap (((Pl.addS (Pl.mulS 3 sp) (TS.far sm x):Nat):Int) / 4)=((Pl.addS (Pl.mulS 3 sp) (TS.far sm x) / 4:Nat):Int):=by have:=Pl.addS_le (Pl.mulS 3 sp) (TS.far sm x);rw [IntKind.wrap_u64];omega
 have hq8:IntKind.u64.wrap (((Pl.addS (Pl.mulS 7 sm) x:Nat):Int) / 8)=((Pl.addS (Pl.mulS 7 sm) x / 8:Nat):Int):=by have:=Pl.addS_le (Pl.mulS 7 sm) x;rw [IntKind.wrap_u64];omega
 generalize Pl.addS (Pl.mulS 3 sp) (TS.far sm x) / 4=sp' at *
 generalize Pl.addS (Pl.mulS 3 sp) (TS.far sm x)=a3 at *
 generalize Pl.addS (Pl.mulS 7 sm) x / 8=sm' at *
 generalize Pl.addS (Pl.mulS 7 sm) x=a7 at *
 generalize Pl.mulS 3 sp=m3 at *
 generalize Pl.mulS 7 sm=m7 at *
 generalize TS.far sm x=d at *
 generalize x / 2=h at *
 clear hx hsm hsp hfar
 go_enter Tryz.func132,Tryz.ntmps132
 go_wp2_with fail
 generalize ((W.alloc (.cells #[.int .u64 (la:Int),.int .u64 (sm:Int),.int .u64 (sp:Int),.bool true] 142)).alloc (.cells #[.int .u64 0,.int .u64 0,.int .u64 0,.bool false] 142)).alloc (.cells #[.int .u64 (x:Int),.int .u64 (x:Int),.int .u64 (h:Int),.bool true] 142)=w0 at *
 refine (HM3.out _).mono ?_
 rintro e w1 ⟨rfl,rfl⟩
 go_wp2_with fail
 refine (HA3.out _ _ (nc2 _ _ _ _).1 (nc2 _ _ _ _).2).mono ?_
 rintro e w1 ⟨rfl,hb⟩
 have I1:=Lib.hid (I0.out.al hb)
 have y2:=I1.out.n.free 2
 have d2:=I1.out.n.cell (i:=2) (v:=.int .u64 (h:Int)) rfl
 have p1:=I1.out.p.cell (i:=1) (v:=.int .u64 (sm:Int)) rfl
 have I2:=Lib.hid (I1.out.set (x':=#[.int .u64 (x:Int),.int .u64 (x:Int),.int .u64 (sp':Int),.bool true]) 2 (.int .u64 (sp':Int)) rfl)
 clear hb I0 I1
 go_wp2_with fail
 generalize w1.setCell ⟨W.heap.size + 1 + 1,2,none⟩ (.int .u64 (sp':Int))=w2 at *
 clear y2 d2 p1
 refine (HM7.out _).mono ?_
 rintro e w3 ⟨rfl,rfl⟩
 go_wp2_with fail
 refine (HA7.out _ _ (nc2 _ _ _ _).1 (nc2 _ _ _ _).2).mono ?_
 rintro e w3 ⟨rfl,hb⟩
 have I3:=Lib.hid (I2.out.al hb)
 have y1:=I3.out.n.free 1
 have e0:=I3.out.n.cell (i:=0) (v:=.int .u64 (x:Int)) rfl
 have e1:=I3.out.n.cell (i:=1) (v:=.int .u64 (x:Int)) rfl
 have e2:=I3.out.n.cell (i:=2) (v:=.int .u64 (sp':Int)) rfl
 have e3:=I3.out.n.cell (i:=3) (v:=.bool true) rfl
 have I4:=Lib.hid (I3.out.set (x':=#[.int .u64 (x:Int),.int .u64 (sm':Int),.int .u64 (sp':Int),.bool true]) 1 (.int .u64 (sm':Int)) rfl)
 have z0:=I4.out.z.cell (i:=0) (v:=.int .u64 0) rfl
 have z1:=I4.out.z.cell (i:=1) (v:=.int .u64 0) rfl
 have z2:=I4.out.z.cell (i:=2) (v:=.int .u64 0) rfl
 have z3:=I4.out.z.cell (i:=3) (v:=.bool false) rfl
 have zf0:=I4.out.z.free 0
 have zf1:=I4.out.z.free 1
 have zf2:=I4.out.z.free 2
 have zf3:=I4.out.z.free 3
 clear hb I2
 go_wp2_with fail
 exact bodyPost_ret (results_cell rfl _ _ (W.heap.size + 1) 142 _ _ rfl ((((I4.out.z.set 0 (.int .u64 (x:Int))).set 1 (.int .u64 (sm':Int))).set 2 (.int .u64 (sp':Int))).set 3 (.bool true)) Tryz.underlying142 rfl (by kernel_rfl)) rfl
  ⟨rfl,(((I4.out.bel.setCell (p:=⟨W.heap.size + 1,0,none⟩) (by simp) _).setCell (p:=⟨W.heap.size + 1,1,none⟩) (by simp) _).setCell (p:=⟨W.heap.size + 1,2,none⟩) (by simp) _).setCell (p:=⟨W.heap.size + 1,3,none⟩) (by simp) _⟩
theorem tr_with (s:TS) (x:Nat) (W:World) (h:s.ok) (hx:x≤18446744073709551615):
  Calls Tryz.prog 132 #[.agg s.rd,.int .u64 (x:Int)] W fun e w'=>e=.returned (.agg (s.put x).rd)∧Below W.heap.size W w':=by
 obtain ⟨la,sm,sp,so,n⟩:=s
 cases so with
 | false=>exact tr_with_no la sm sp x W hx
 | true=>exact tr_with_yes la sm sp x W h.2.1 h.2.2.1 hx
theorem tr_limit (s:TS) (W:World) (h:s.ok):
  Calls Tryz.prog 171 #[.agg s.rd] W fun e w'=>e=.returned (.int .u64 (s.lim0:Int))∧Below W.heap.size W w':=by
 obtain ⟨la,sm,sp,so,n⟩:=s
 unfold TS.lim0 TS.rd
 dsimp only
 cases so with
 | false=>
   rw [if_neg (by decide)]
   go_enter Tryz.func171,Tryz.ntmps171
   go_wp2
   go_ret
   exact ⟨rfl,al_be _ _⟩
 | true=>
   rw [if_pos rfl]
   have hsm:=h.2.1
   have HM:Hid (∀w,Calls Tryz.prog 165 #[.int .u64 4,.int .u64 (sp:Int)] w fun e w'=>e=.returned (.int .u64 ((Pl.mulS 4 sp:Nat):Int))∧w=w'):=Lib.hid (fun w=>fix_Mul_n 4 sp w (by omega) h.2.2.1)
   have hle:=Pl.mulS_le 4 sp
   have h1:max ((Pl.mulS 4 sp:Nat):Int) 1000=((max (Pl.mulS 4 sp) 1000:Nat):Int):=by omega
   have HA:=Lib.hid (add_any sm (max (Pl.mulS 4 sp) 1000) hsm (by omega))
   have h2:max ((Pl.addS sm (max (Pl.mulS 4 sp) 1000):Nat):Int) 10000=((max (Pl.addS sm (max (Pl.mulS 4 sp) 1000)) 10000:Nat):Int):=by omega
   generalize max (Pl.addS sm (max (Pl.mulS 4 sp) 1000)) 10000=z at *
   generalize Pl.addS sm (max (Pl.mulS 4 sp) 1000)=y at *
   generalize max (Pl.mulS 4 sp) 1000=k at *
   generalize Pl.mulS 4 sp=m at *
   clear h hle hsm
   have I0:=Lib.hid (al_be W (.cells #[.int .u64 (la:Int),.int .u64 (sm:Int),.int .u64 (sp:Int),.bool true] 142))
   go_enter Tryz.func171,Tryz.ntmps171
   go_wp2_with fail
   refine (HM.out _).mono ?_
   rintro e w1 ⟨rfl,rfl⟩
   generalize hw0:W.alloc (.cells #[.int .u64 (la:Int),.int .u64 (sm:Int),.int .u64 (sp:Int),.bool true] 142)=w0 at *
   have c1:w0.cell? ⟨W.heap.size,1,none⟩=some (.int .u64 (sm:Int)):=by rw [← hw0];exact new_cell rfl rfl
   clear hw0
   go_wp2_with fail
   refine (HA.out _ _ (nc2 _ _ _ _).1 (nc2 _ _ _ _).2).mono ?_
   rintro e w1 ⟨rfl,hb⟩
   have I1:=Lib.hid (bel_to (bel_to I0.out (al_be _ _) I0.out.size) hb (Nat.le_trans I0.out.size (al_be w0 _).size))
   clear hb
   go_wp2_with fail
   go_ret
   exact ⟨rfl,I1.out⟩
structure TPost (w:World) (b:Nat) (r:Value) (s:TS) (e:Ending) (w':World):Prop where
 e:e=.returned r
 blk:Blk w' b 144 s.cells
 gr:w.grownBy w' (some b)
set_option maxHeartbeats 1000000 in
theorem tr_Put (b x:Nat) (s:TS) (W:World) (h:Blk W b 144 s.cells) (ho:s.ok) (hx:x≤18446744073709551615):
  Calls Tryz.prog 62 #[.pointer (some ⟨b,0,none⟩),.int .u64 (x:Int)] W (TPost W b (.tuple #[]) (s.put x)):=by
 have HW:=Lib.hid (fun w=>tr_with s x w ho hx)
 have h0:=h.cell (i:=0) (v:=.int .u64 (s.la:Int)) rfl
 have h1:=h.cell (i:=1) (v:=.int .u64 (s.sm:Int)) rfl
 have h2:=h.cell (i:=2) (v:=.int .u64 (s.sp:Int)) rfl
 have h3:=h.cell (i:=3) (v:=.bool s.so) rfl
 have HH:=Lib.hid h
 have HN:Hid ((s.put x).n=0):=Lib.hid (by unfold TS.put;split <;> rfl)
 unfold TS.rd at HW
 generalize s.put x=s' at *
 clear h ho hx
 go_enter Tryz.func62,Tryz.ntmps62
 go_wp2_with fail
 refine (HW.out _).mono ?_
 rintro e w1 ⟨rfl,hb⟩
 have B1:=HH.out.keep hb
 have HB:=Lib.hid B1
 have HG:=Lib.hid (gr_below hb (some b))
 have c0:=B1.cell (i:=0) (v:=.int .u64 (s.la:Int)) rfl
 have c1:=B1.cell (i:=1) (v:=.int .u64 (s.sm:Int)) rfl
 have c2:=B1.cell (i:=2) (v:=.int .u64 (s.sp:Int)) rfl
 have c3:=B1.cell (i:=3) (v:=.bool s.so) rfl
 have c4:=B1.cell (i:=4) (v:=.int .i64 (s.n:Int)) rfl
 have f0:=B1.free 0
 have f1:=B1.free 1
 have f2:=B1.free 2
 have f3:=B1.free 3
 have f4:=B1.free 4
 clear hb h0 h1 h2 h3 B1
 go_wp2_with fail
 refine bodyPost_ret (v:=.tuple #[]) (by simp [results,Tryz.results62,go_sem]) rfl ⟨rfl,?_,gr_set (gr_set (gr_set (gr_set (gr_set HG.out _ _) _ _) _ _) _ _) _ _⟩
 unfold TS.cells
 rw [HN.out]
 simpa [TS.cells] using ((((HB.out.set 0 (.int .u64 (s'.la:Int))).set 1 (.int .u64 (s'.sm:Int))).set 2 (.int .u64 (s'.sp:Int))).set 3 (.bool s'.so)).set 4 (.int .i64 0)
theorem tr_Double (b:Nat) (s:TS) (W:World) (h:Blk W b 144 s.cells) (ho:s.ok):
  Calls Tryz.prog 105 #[.pointer (some ⟨b,0,none⟩)] W (TPost W b (.tuple #[]) s.dbl):=by
 have h4:=h.cell (i:=4) (v:=.int .i64 (s.n:Int)) rfl
 have f4:=h.free 4
 have hn:=ho.2.2.2
 have hw:IntKind.i64.wrap ((s.n:Int) + 1)=(s.n:Int) + 1:=by rw [IntKind.wrap_i64];omega
 have hm:min ((s.n:Int) + 1) 6=((min (s.n + 1) 6:Nat):Int):=by omega
 have HH:=Lib.hid h
 unfold TS.dbl
 generalize min (s.n + 1) 6=k at *
 clear h ho hn
 go_enter Tryz.func105,Tryz.ntmps105
 go_wp2
 refine bodyPost_ret (v:=.tuple #[]) (by simp [results,Tryz.results105,go_sem]) rfl ⟨rfl,?_,gr_set (gr_refl _ _) _ _⟩
 simpa [TS.cells] using HH.out.set 4 (.int .i64 (k:Int))
theorem tr_Delay (b:Nat) (s:TS) (W:World) (h:Blk W b 144 s.cells) (ho:s.ok):
  Calls Tryz.prog 103 #[.pointer (some ⟨b,0,none⟩)] W fun e w'=>e=.returned (.int .u64 (s.del:Int))∧Below W.heap.size W w':=by
 have h0:=h.cell (i:=0) (v:=.int .u64 (s.la:Int)) rfl
 have h1:=h.cell (i:=1) (v:=.int .u64 (s.sm:Int)) rfl
 have hla:=ho.1
 have hsm:=ho.2.1
 have HO:Hid (∀w,Calls Tryz.prog 170 #[.int .u64 9,.int .u64 ((max s.sm s.la:Nat):Int),.int .u64 8] w fun e w'=>e=.returned (.int .u64 ((Pl.overS 9 (max s.sm s.la) 8:Nat):Int))∧Below w.heap.size w w'):=Lib.hid (fun w=>fix_Over_pl 9 (max s.sm s.la) 8 w (by omega) (by omega) (by omega))
 have hm:max (s.sm:Int) (s.la:Int)=((max s.sm s.la:Nat):Int):=by omega
 have hz:max ((Pl.overS 9 (max s.sm s.la) 8:Nat):Int) 1000=((max (Pl.overS 9 (max s.sm s.la) 8) 1000:Nat):Int):=by omega
 unfold TS.del
 clear hla hsm ho
 generalize max (Pl.overS 9 (max s.sm s.la) 8) 1000=z at *
 generalize Pl.overS 9 (max s.sm s.la) 8=y at *
 generalize max s.sm s.la=m at *
 have HH:=Lib.hid h
 clear h
 go_enter Tryz.func103,Tryz.ntmps103
 go_wp2_with fail
 have c0:W.drew.cell? ⟨b,0,none⟩=some (.int .u64 (s.la:Int)):=h0
 have c1:W.drew.cell? ⟨b,1,none⟩=some (.int .u64 (s.sm:Int)):=h1
 go_region_held3 (fun w'=>w'.cell? ⟨b,0,none⟩=some (.int .u64 (s.la:Int))∧w'.cell? ⟨b,1,none⟩=some (.int .u64 (s.sm:Int))∧Hid (Below W.heap.size W w'))
  (first | exact ⟨c0,c1,Lib.hid ((Drawn.drew _).below _)⟩ | exact ⟨bel_cell hb (by assumption),bel_cell hb (by assumption),Lib.hid (bel_to (Hid.out (by assumption)) hb (Hid.out (by assumption):Below W.heap.size W _).size)⟩)
  (first | (go_at_call 170;go_split_ands;(refine (HO.out _).mono ?_);rintro e w' ⟨rfl,hb⟩))
 all_goals
  go_split_ands
  have G:=(‹Hid (Below W.heap.size W _)›)
  go_wp2_with fail
  go_ret
  exact ⟨rfl,G.out⟩
set_option maxHeartbeats 1000000 in
theorem tr_Limit (b:Nat) (s:TS) (W:World) (h:Blk W b 144 s.cells) (ho:s.ok):
  Calls Tryz.prog 104 #[.pointer (some ⟨b,0,none⟩)] W fun e w'=>e=.returned (.int .u64 (s.lim:Int))∧Below W.heap.size W w':=by
 have h0:=h.cell (i:=0) (v:=.int .u64 (s.la:Int)) rfl
 have h1:=h.cell (i:=1) (v:=.int .u64 (s.sm:Int)) rfl
 have h2:=h.cell (i:=2) (v:=.int .u64 (s.sp:Int)) rfl
 have h3:=h.cell (i:=3) (v:=.bool s.so) rfl
 have h4:=h.cell (i:=4) (v:=.int .i64 (s.n:Int)) rfl
 have hp:2 ^ s.n≤64:=Nat.le_trans (Nat.pow_le_pow_right (by omega) ho.2.2.2) (by decide)
 have HL:=Lib.hid (fun w=>tr_limit s w ho)
 have HM:=Lib.hid (fun w=>fix_Mul_n s.lim0 (2 ^ s.n) w s.lim0_le (by omega))
 have hpw:(2:Int) ^ s.n=((2 ^ s.n:Nat):Int):=by rw [Int.natCast_pow];rfl
 have hkey:∀p:Nat,p≤64→IntKind.u64.wrap (p:Int)=(p:Int):=fun p hp=>by rw [IntKind.wrap_u64];omega
 have hww:=hkey _ hp
 clear hkey
 have hn6:(s.n:Int)≤64:=by have:=ho.2.2.2;omega
 unfold TS.lim
 unfold TS.rd at HL
 generalize Pl.mulS s.lim0 (2 ^ s.n)=z at *
 generalize s.lim0=y at *
 generalize 2 ^ s.n=p at *
 have HH:=Lib.hid h
 clear h ho hp
 go_enter Tryz.func104,Tryz.ntmps104
 go_wp2_with fail
 have c0:W.drew.cell? ⟨b,0,none⟩=some (.int .u64 (s.la:Int)):=h0
 have c1:W.drew.cell? ⟨b,1,none⟩=some (.int .u64 (s.sm:Int)):=h1
 have c2:W.drew.cell? ⟨b,2,none⟩=some (.int .u64 (s.sp:Int)):=h2
 have c3:W.drew.cell? ⟨b,3,none⟩=some (.bool s.so):=h3
 have c4:W.drew.cell? ⟨b,4,none⟩=some (.int .i64 (s.n:Int)):=h4
 go_region_held3 (fun w'=>w'.cell? ⟨b,0,none⟩=some (.int .u64 (s.la:Int))∧w'.cell? ⟨b,1,none⟩=some (.int .u64 (s.sm:Int))∧w'.cell? ⟨b,2,none⟩=some (.int .u64 (s.sp:Int))∧w'.cell? ⟨b,3,none⟩=some (.bool s.so)∧w'.cell? ⟨b,4,none⟩=some (.int .i64 (s.n:Int))∧Hid (Below W.heap.size W w'))
  (first | exact ⟨c0,c1,c2,c3,c4,Lib.hid ((Drawn.drew _).below _)⟩ | exact ⟨bel_cell hb (by assumption),bel_cell hb (by assumption),bel_cell hb (by assumption),bel_cell hb (by assumption),bel_cell hb (by assumption),Lib.hid (bel_to (Hid.out (by assumption)) hb (Hid.out (by assumption):Below W.heap.size W _).size)⟩ | assumption)
  (first
   | (go_at_call 171;go_split_ands;(refine (HL.out _).mono ?_);rintro e w' ⟨rfl,hb⟩)
   | (go_at_call 165;go_split_ands;(refine (HM.out _).mono ?_);rintro e w' ⟨rfl,rfl⟩))
 all_goals
  go_split_ands
  have G:=(‹Hid (Below W.heap.size W _)›)
  go_wp2_with fail
  go_ret
  exact ⟨rfl,G.out⟩
end Go.Proofs.YteoepabmnbkabaaGreatDoor
