/- 5 texts put together: what each one says stands ahead of it. -/
import Derived.Test.YtaffjfajjpgjpaaKLinkPlays11
set_option linter.unusedVariables false
namespace Go.Proofs.Ytaffjfajjpgjpaa
open Go.RowKit
set_option maxRecDepth 100000 in
set_option maxHeartbeats 400000 in
theorem jp_narrow (b g:Nat) (s:QS Jp) (w:World) (h:JpAt w b g s) (ho:s.ok):
  Calls Try.prog 89 #[.pointer (some ⟨b,0,none⟩)] w (JpPost w b g (.returned (.tuple #[])) s.narrow):=by
 have HH:=Lib.hid h
 have HO:=Lib.hid ho
 have c0:=h.head.cell (i:=0) (v:=.slice (some ⟨g,0,none⟩) s.pl.length s.pl.length) rfl
 have c2:=h.head.cell (i:=2) (v:=.int .i64 (s.cnt:Int)) rfl
 have hm:=ho.m
 have hc:=ho.c
 clear h ho
 by_cases a:0 < s.cnt
 ·by_cases d:s.cnt≤s.pl.length / 4
  ·have HE:Hid (s.narrow=s.move (s.pl.length / 2)):=Lib.hid (if_pos ⟨a,d⟩)
   have d1:decide ((s.cnt:Int)≤(s.pl.length:Int) / 4)=true:=by simp;omega
   go_enter Try.func89,Try.ntmps89
   go_wp2_with fail
   go_quiet (fail)
   have HD:Hid (Drawn w (w.drewN nq)):=Lib.hid ⟨nq,rfl⟩
   have e0:=(HD.out.cell _).trans c0
   generalize w.drewN nq=w1 at *
   go_wp2_with fail
   have e:((s.pl.length:Int) / 2)=((s.pl.length / 2:Nat):Int):=by omega
   rw [e]
   clear e
   refine (jp_move b g (s.pl.length / 2) s w1 (JpAt.drawn HD.out HH.out) HO.out (by omega) (by omega)).mono ?_
   rintro e w2 ⟨rfl,hat,hmv⟩
   have HA:=Lib.hid hat
   have HM:=Lib.hid hmv
   clear hat hmv
   go_wp2_with fail
   go_end0
   obtain ⟨g',h1,h2⟩:=HA.out
   rw [HE.out]
   exact ⟨rfl,⟨g',h1,by rw [HD.out.heap] at h2;exact h2⟩,((Mv.refl w b g).drawn HD.out).trans HM.out (.inl rfl)⟩
  ·have HE:Hid (s.narrow=s):=Lib.hid (if_neg (fun k=>d k.2))
   have d1:decide ((s.cnt:Int)≤(s.pl.length:Int) / 4)=false:=by simp;omega
   go_enter Try.func89,Try.ntmps89
   go_wp2_with fail
   go_quiet (fail)
   have HD:Hid (Drawn w (w.drewN nq)):=Lib.hid ⟨nq,rfl⟩
   go_wp2_with fail
   go_end0
   rw [HE.out]
   exact ⟨rfl,⟨g,JpAt.drawn HD.out HH.out,.inl rfl⟩,(Mv.refl w b g).drawn HD.out⟩
 ·have HE:Hid (s.narrow=s):=Lib.hid (if_neg (fun k=>a k.1))
  have d0:decide ((0:Int) < (s.cnt:Int))=false:=by simp;omega
  have d1:decide (0 < s.cnt)=false:=by simp;omega
  go_enter Try.func89,Try.ntmps89
  go_wp2_with fail
  go_quiet (fail)
  have HD:Hid (Drawn w (w.drewN nq)):=Lib.hid ⟨nq,rfl⟩
  go_wp2_with fail
  go_end0
  rw [HE.out]
  exact ⟨rfl,⟨g,JpAt.drawn HD.out HH.out,.inl rfl⟩,(Mv.refl w b g).drawn HD.out⟩
def jpgot (x:Jp) (ok:Bool):Ending:=.returned (.tuple #[x.agg,.bool ok])
set_option maxRecDepth 100000 in
set_option maxHeartbeats 1000000 in
theorem jp_At (b g i:Nat) (s:QS Jp) (w:World) (h:JpAt w b g s) (ho:s.ok) (hi:i < s.cnt):
  Calls Try.prog 64 #[.pointer (some ⟨b,0,none⟩),.int .i64 (i:Int)] w fun e w'=>e=jpgot (s.get i) true∧Below w.heap.size w w':=by
 have HO:=Lib.hid ho
 have HB:=Lib.hid (show Blk (w.alloc (.cells #[.int .u64 0,.int .u64 0,.int .u64 0,.int .u64 0,.int .u64 0,.int .u64 0,.bool false,.int .u64 0] 110)) w.heap.size 110 #[.int .u64 0,.int .u64 0,.int .u64 0,.int .u64 0,.int .u64 0,.int .u64 0,.bool false,.int .u64 0] from Blk.new _ _ _)
 have HH:=Lib.hid (h.alloc (.cells #[.int .u64 0,.int .u64 0,.int .u64 0,.int .u64 0,.int .u64 0,.int .u64 0,.bool false,.int .u64 0] 110))
 have HW:Hid (Below w.heap.size w (w.alloc (.cells #[.int .u64 0,.int .u64 0,.int .u64 0,.int .u64 0,.int .u64 0,.int .u64 0,.bool false,.int .u64 0] 110))):=Lib.hid ((Below.refl _ _).alloc (Nat.le_refl _) _)
 have HZ:Hid (g≠w.heap.size):=Lib.hid h.body.old
 have HZ2:Hid (b≠w.heap.size):=Lib.hid h.head.old
 have hp:0 < s.pl.length:=by have:=ho.c;omega
 have hpl:=QS.pos_lt hp i
 have hc:=ho.c
 have hm:=ho.m
 have a0:=HH.out.head.drew.cell (i:=0) (v:=.slice (some ⟨g,0,none⟩) s.pl.length s.pl.length) rfl
 have r0:(w.alloc (.cells #[.int .u64 0,.int .u64 0,.int .u64 0,.int .u64 0,.int .u64 0,.int .u64 0,.bool false,.int .u64 0] 110)).drew.rangeAt g (s.pos i * 8) (Itm.cs (s.get i)):=HH.out.body.drew.range (k:=8) rfl hpl
 have t0:(w.alloc (.cells #[.int .u64 0,.int .u64 0,.int .u64 0,.int .u64 0,.int .u64 0,.int .u64 0,.bool false,.int .u64 0] 110)).drew.there w.heap.size 0 8:=HB.out.drew.there (by decide)
 have HP:=Lib.hid (fun (w:World) h=>jp_place b g i s w h HO.out hp (by omega))
 have HL:=Lib.hid (jp_Len b g s (w.alloc (.cells #[.int .u64 0,.int .u64 0,.int .u64 0,.int .u64 0,.int .u64 0,.int .u64 0,.bool false,.int .u64 0] 110)) HH.out)
 have HX:Hid (jpgot (s.get i) true=.returned (.tuple #[.agg (Itm.cs (s.get i)).toArray,.bool true])):=Lib.hid rfl
 have i3:(0:Int)≤((s.pos i:Nat):Int):=by omega
 have i4:((s.pos i:Nat):Int) < (s.pl.length:Int):=by omega
 have d0:decide ((i:Int) < 0)=false:=by simp
 have d1:decide (s.cnt≤i)=false:=by simp;omega
 have hu:=Try.underlying110
 have hl:(Itm.cs (s.get i)).length=8:=Itm.len _
 have h1:∀v∈Itm.cs (s.get i),v.oneCell'=true:=Itm.one _
 clear h ho hi
 have hi:=jp_inf (s.get i)
 generalize jpgot (s.get i) true=ans at *
 generalize Itm.cs (s.get i)=xc at *
 generalize s.pos i=p at *
 go_enter Try.func64,Try.ntmps64
 go_wp2_with (go_at_call 75;refine (HL.out).mono ?_;rintro e w' ⟨rfl,rfl⟩)
 generalize (w.alloc (.cells #[.int .u64 0,.int .u64 0,.int .u64 0,.int .u64 0,.int .u64 0,.int .u64 0,.bool false,.int .u64 0] 110))=wa at *
 refine wp_region_held_drew (S:=(fun w'=>w'.cell? ⟨b,0,none⟩=some (.slice (some ⟨g,0,none⟩) s.pl.length s.pl.length)∧w'.rangeAt g (p * 8) xc∧w'.there w.heap.size 0 8)) (by kernel_rfl) ⟨a0,r0,t0⟩ (fun hHeld=>?_)
 simp only [List.size_toArray,List.length_cons,List.length_nil,Nat.reduceAdd,Array.replicate_succ,Array.replicate_zero,List.push_toArray,List.nil_append,List.cons_append]
 refine wpAnyH_take (i:=0) (oi:=⟨some 15,_,_,_,_,_⟩) (v:=?v20) rfl (by kernel_rfl) (by kernel_rfl) (by kernel_rfl) (fun _ _ _ h=>h) (Or.inl ⟨by rfl,?y20⟩) (by assumption) ?r20
 case y20=>intro w hSw;clear hSw;go_simp;(try with_reducible rfl)
 simp only [Act.put,List.setIfInBounds_toArray,List.set_cons_zero,List.set_cons_succ]
 refine wpAnyH_take (i:=1) (oi:=⟨some 16,_,_,_,_,_⟩) (v:=?v21) rfl (by kernel_rfl) (by kernel_rfl) (by kernel_rfl) (fun _ _ _ h=>h) (Or.inl ⟨by rfl,?y21⟩) (by assumption) ?r21
 case y21=>intro w hSw;clear hSw;go_simp;(try with_reducible rfl)
 simp only [Act.put,List.setIfInBounds_toArray,List.set_cons_zero,List.set_cons_succ]
 refine wpAnyH_take (i:=2) (oi:=⟨some 17,_,_,_,_,_⟩) (v:=?v22) rfl (by kernel_rfl) (by kernel_rfl) (by kernel_rfl) (fun _ _ _ h=>h) (Or.inl ⟨by rfl,?y22⟩) (by assumption) ?r22
 case y22=>intro w hSw;clear hSw;go_simp;(try with_reducible rfl)
 simp only [Act.put,List.setIfInBounds_toArray,List.set_cons_zero,List.set_cons_succ]
 refine wpAnyH_take (i:=3) (oi:=⟨some 18,_,_,_,_,_⟩) (v:=?v23) rfl (by kernel_rfl) (by kernel_rfl) (by kernel_rfl) (fun _ _ _ h=>h) (Or.inl ⟨by rfl,?y23⟩) (by assumption) ?r23
 case y23=>intro w hSw;obtain ⟨s0,s1,s2⟩:=hSw;go_simp;(try with_reducible rfl)
 simp only [Act.put,List.setIfInBounds_toArray,List.set_cons_zero,List.set_cons_succ]
 refine wpAnyH_take (i:=4) (oi:=⟨some 19,_,_,_,_,_⟩) (v:=?v24) rfl (by kernel_rfl) (by kernel_rfl) (by kernel_rfl) (fun _ _ _ h=>h) (Or.inl ⟨by rfl,?y24⟩) (by assumption) ?r24
 case y24=>intro w hSw;clear hSw;go_simp;(try with_reducible rfl)
 simp only [Act.put,List.setIfInBounds_toArray,List.set_cons_zero,List.set_cons_succ]
 refine wpAnyH_take (i:=5) (oi:=⟨some 20,_,_,_,_,_⟩) (v:=?v25) rfl (by kernel_rfl) (by kernel_rfl) (by kernel_rfl) (fun _ _ _ h=>h) (Or.inl ⟨by rfl,?y25⟩) (by assumption) ?r25
 case y25=>intro w hSw;clear hSw;go_simp;(try with_reducible rfl)
 simp only [Act.put,List.setIfInBounds_toArray,List.set_cons_zero,List.set_cons_succ]
 refine wpAnyH_ready (rs:=[6]) (by kernel_rfl) (by simp) ?_
 refine AllReadyH.cons (o:=⟨some 21,_,_,_,_,_⟩) rfl (fun K hK=>?_) AllReadyH.nil
 go_simp
 refine (HP.out _ (JpAt.drawn (Drawn.drew wa) HH.out)).mono ?_
 rintro e w' ⟨rfl,hd⟩
 have HD:=Lib.hid hd
 clear hd
 have b0:=(HD.out.cell _).trans a0
 have r1:=dr_range HD.out r0
 have t1:=dr_there HD.out t0
 go_wp2_with fail
 refine hK.out _ _ ⟨b0,r1,t1⟩ (fun hHeld=>?_)
 clear hK
 try simp only [List.setIfInBounds_toArray,List.set_cons_zero,List.set_cons_succ]
 refine wpAnyH_take (i:=7) (oi:=⟨some 22,_,_,_,_,_⟩) (v:=?v26) rfl (by kernel_rfl) (by kernel_rfl) (by kernel_rfl) (fun _ _ _ h=>h) (Or.inl ⟨by rfl,?y26⟩) (by assumption) ?r26
 case y26=>intro w hSw;clear hSw;go_simp;(try with_reducible rfl)
 simp only [Act.put,List.setIfInBounds_toArray,List.set_cons_zero,List.set_cons_succ]
 refine' wpAnyH_take (i:=8) (oi:=⟨some 23,_,_,_,_,_⟩) (v:=_) rfl (by kernel_rfl) (by kernel_rfl) (by kernel_rfl) (fun _ _ _ h=>h) (yieldsIf_load_mid (by rfl) _ _ rfl _ _ rfl _ _ ?hS27 hu rfl hi) (by assumption) ?r27
 case hS27=>intro w hSw;exact hSw.2.1
 simp only [Act.put,List.setIfInBounds_toArray,List.set_cons_zero,List.set_cons_succ]
 refine wpAnyH_ready (rs:=[9]) (by kernel_rfl) (by simp) ?_
 refine AllReadyH.cons (o:=⟨none,_,_,_,_,_⟩) rfl (fun K hK=>?_) AllReadyH.nil
 rw [if_pos (by rfl)]
 refine wp_store_mid _ _ _ rfl _ _ (List.toArray _) rfl rfl (by have e:=hl;rw [← List.size_toArray] at e;rw [e];exact t1) (by rw [List.size_toArray];exact hi) (all_oneCell_toArray h1) ?_
 dsimp only
 refine hK.out _ _ ⟨cell_sets b0 HZ2.out,World.rangeAt_setCells_apart r1 _ _ _ (.inl HZ.out),World.there_setCells t1 _ _ _⟩ (fun hHeld=>?_)
 clear hK
 try simp only [List.setIfInBounds_toArray,List.set_cons_zero,List.set_cons_succ]
 refine wpAnyH_take (i:=10) (oi:=⟨some 5,_,_,_,_,_⟩) (v:=?v28) rfl (by kernel_rfl) (by kernel_rfl) (by kernel_rfl) (fun _ _ _ h=>h) (Or.inl ⟨by rfl,?y28⟩) (by assumption) ?r28
 case y28=>intro w hSw;clear hSw;go_simp;(try with_reducible rfl)
 simp only [Act.put,List.setIfInBounds_toArray,List.set_cons_zero,List.set_cons_succ]
 refine wpAnyH_done (by kernel_rfl) ?_ _
 have hD:Drawn wa w':=(Drawn.drew wa).more HD.out
 have F1:Blk (w'.setCells w.heap.size 0 xc) w.heap.size 110 xc.toArray:=Blk.whole xc (hD.blk HB.out) hl
 have F2:Below w.heap.size w (w'.setCells w.heap.size 0 xc):=Below.sets (Nat.le_refl _) xc 0 w' (HW.out.trans (hD.below _))
 go_wp2_with fail
 rw [HX.out]
 exact bodyPost_ret (results_cell_tmp rfl _ _ w.heap.size 110 _ _ rfl F1 Try.underlying110 rfl (by rw [List.size_toArray];exact hi)) rfl ⟨rfl,F2⟩
set_option maxRecDepth 100000 in
theorem jp_At_out (b g:Nat) (i:Int) (s:QS Jp) (w:World) (h:JpAt w b g s) (hi:i < 0∨(s.cnt:Int)≤i):
  Calls Try.prog 64 #[.pointer (some ⟨b,0,none⟩),.int .i64 i] w fun e w'=>e=jpgot Itm.z false∧Below w.heap.size w w':=by
 have HH:=Lib.hid (h.alloc (.cells #[.int .u64 0,.int .u64 0,.int .u64 0,.int .u64 0,.int .u64 0,.int .u64 0,.bool false,.int .u64 0] 110))
 have HL:=Lib.hid (jp_Len b g s (w.alloc (.cells #[.int .u64 0,.int .u64 0,.int .u64 0,.int .u64 0,.int .u64 0,.int .u64 0,.bool false,.int .u64 0] 110)) HH.out)
 have HB:=Lib.hid (show Blk (w.alloc (.cells #[.int .u64 0,.int .u64 0,.int .u64 0,.int .u64 0,.int .u64 0,.int .u64 0,.bool false,.int .u64 0] 110)) w.heap.size 110 #[.int .u64 0,.int .u64 0,.int .u64 0,.int .u64 0,.int .u64 0,.int .u64 0,.bool false,.int .u64 0] from Blk.new _ _ _)
 have HW:Hid (Below w.heap.size w (w.alloc (.cells #[.int .u64 0,.int .u64 0,.int .u64 0,.int .u64 0,.int .u64 0,.int .u64 0,.bool false,.int .u64 0] 110))):=Lib.hid ((Below.refl _ _).alloc (Nat.le_refl _) _)
 clear h
 by_cases c:i < 0
 ·have d0:decide (i < 0)=true:=by simpa using c
  go_enter Try.func64,Try.ntmps64
  go_wp2_with (go_at_call 75;refine (HL.out).mono ?_;rintro e w' ⟨rfl,rfl⟩)
  exact bodyPost_ret (results_cell_tmp rfl _ _ w.heap.size 110 _ _ rfl HB.out Try.underlying110 rfl (by kernel_rfl)) rfl ⟨rfl,HW.out⟩
 ·have d0:decide (i < 0)=false:=by simpa using c
  have hj:(s.cnt:Int)≤i:=by omega
  have d1:decide ((s.cnt:Int)≤i)=true:=by simpa using hj
  clear hi
  go_enter Try.func64,Try.ntmps64
  go_wp2_with (go_at_call 75;refine (HL.out).mono ?_;rintro e w' ⟨rfl,rfl⟩)
  exact bodyPost_ret (results_cell_tmp rfl _ _ w.heap.size 110 _ _ rfl HB.out Try.underlying110 rfl (by kernel_rfl)) rfl ⟨rfl,HW.out⟩
end Go.Proofs.Ytaffjfajjpgjpaa

set_option linter.unusedVariables false
namespace Go.Proofs.Ytaffjfajjpgjpaa
open Go.RowKit
set_option maxRecDepth 100000 in
set_option maxHeartbeats 2000000 in
theorem jp_Push (b g:Nat) (x:Jp) (s:QS Jp) (w:World) (h:JpAt w b g s) (ho:s.ok) (hk:s.cnt≤5000):
  Calls Try.prog 70 #[.pointer (some ⟨b,0,none⟩),x.agg] w (JpPost w b g (.returned (.tuple #[])) (s.push x)):=by
 unfold Jp.agg
 have HO:=Lib.hid ho
 have HH:=Lib.hid (h.alloc (.cells #[.int .u64 (x.p.n:Int),.int .u64 (x.p.size:Int),.int .u64 (x.p.sent:Int),.int .u64 (x.p.first:Int),.int .u64 (x.p.deliv:Int),.int .u64 (x.p.at_:Int),.bool x.p.lim,.int .u64 (x.due:Int)] 110))
 have HX:=Lib.hid (show Blk (w.alloc (.cells #[.int .u64 (x.p.n:Int),.int .u64 (x.p.size:Int),.int .u64 (x.p.sent:Int),.int .u64 (x.p.first:Int),.int .u64 (x.p.deliv:Int),.int .u64 (x.p.at_:Int),.bool x.p.lim,.int .u64 (x.due:Int)] 110)) w.heap.size 110 (Itm.cs x).toArray from Blk.new _ _ _)
 have HM:Hid (Mv w (w.alloc (.cells #[.int .u64 (x.p.n:Int),.int .u64 (x.p.size:Int),.int .u64 (x.p.sent:Int),.int .u64 (x.p.first:Int),.int .u64 (x.p.deliv:Int),.int .u64 (x.p.at_:Int),.bool x.p.lim,.int .u64 (x.due:Int)] 110)) b g):=Lib.hid ((Mv.refl w b g).alloc _)
 have HS1:Hid ((w.alloc (.cells #[.int .u64 (x.p.n:Int),.int .u64 (x.p.size:Int),.int .u64 (x.p.sent:Int),.int .u64 (x.p.first:Int),.int .u64 (x.p.deliv:Int),.int .u64 (x.p.at_:Int),.bool x.p.lim,.int .u64 (x.due:Int)] 110)).heap.size=w.heap.size + 1):=Lib.hid (by simp)
 have b0:=HH.out.head.cell (i:=0) (v:=.slice (some ⟨g,0,none⟩) s.pl.length s.pl.length) rfl
 have b2:=HH.out.head.cell (i:=2) (v:=.int .i64 (s.cnt:Int)) rfl
 have hm:=ho.m
 have hc:=ho.c
 have HZb:Hid (w.heap.size≠b):=Lib.hid (Ne.symm h.head.old)
 have HZg:Hid (w.heap.size≠g):=Lib.hid (Ne.symm h.body.old)
 clear h ho
 have hu:=Try.underlying110
 have hl:(Itm.cs x).length=8:=Itm.len _
 have h1:∀v∈Itm.cs x,v.oneCell'=true:=Itm.one _
 have hi:=jp_inf x
 generalize hxc:Itm.cs x=xc at *
 have HC:=Lib.hid hxc
 clear hxc
 by_cases a:s.cnt=s.pl.length
 ·by_cases z0:1≤s.cnt
  ·have HE:Hid (s.wide=s.move (2 * s.cnt)):=Lib.hid (by unfold QS.wide;rw [if_pos a];congr 1;omega)
   have z1:(1:Int) < 2 * (s.cnt:Int):=by omega
   have d1:(s.cnt == s.pl.length)=true:=by simpa using a
   have HA:=Lib.hid a
   clear a
   go_enter Try.func70,Try.ntmps70
   go_wp2_with fail
   generalize (w.alloc (.cells #[.int .u64 (x.p.n:Int),.int .u64 (x.p.size:Int),.int .u64 (x.p.sent:Int),.int .u64 (x.p.first:Int),.int .u64 (x.p.deliv:Int),.int .u64 (x.p.at_:Int),.bool x.p.lim,.int .u64 (x.due:Int)] 110))=w0 at *
   go_quiet (fail)
   have HD:Hid (Drawn w0 (w0.drewN nq)):=Lib.hid ⟨nq,rfl⟩
   have q2:=(HD.out.cell _).trans b2
   generalize w0.drewN nq=w1 at *
   go_wp2_with fail
   have HC:Hid (Calls Try.prog 78 #[.pointer (some ⟨b,0,none⟩),.int .i64 (2 * (s.cnt:Int))] w1 (JpPost w1 b g (.returned (.tuple #[])) (s.move (2 * s.cnt)))):=Lib.hid (by have:=jp_move b g (2 * s.cnt) s w1 (JpAt.drawn HD.out HH.out) HO.out (by omega) (by omega);simpa using this)
   refine (HC.out).mono ?_
   rintro e w2 ⟨rfl,hat,hmv⟩
   obtain ⟨g2,hg2,hgq⟩:=hat
   rw [← HE.out] at hg2
   have HG:=Lib.hid hg2
   have HX2:=Lib.hid ((HD.out.blk HX.out).mv hmv HZb.out HZg.out)
   have HM2:=Lib.hid ((HM.out.drawn HD.out).trans hmv (.inl rfl))
   have HQ:Hid (g2=g∨w.heap.size < g2):=Lib.hid (by have:=HS1.out;rw [HD.out.heap] at hgq;omega)
   have HZ:Hid (w.heap.size≠g2):=Lib.hid (by have:=HQ.out;have:=HZg.out;omega)
   clear hg2 hgq hmv q2 HE b0 b2 HD HC z1 HX
   have HX:=HX2
   clear HX2
   replace HQ:Hid (g2=g∨w.heap.size≤g2):=Lib.hid (by have:=HQ.out;omega)
   have HO2:=Lib.hid (QS.wide_ok HO.out hk)
   have HC2:=Lib.hid (QS.wide_cnt s)
   have HR2:=Lib.hid (QS.wide_room HO.out)
   have HPU:Hid (s.push x=⟨s.wide.pl.set (s.wide.pos s.cnt) x,s.wide.first,s.cnt + 1⟩):=Lib.hid rfl
   generalize s.wide=t at *
   generalize s.push x=u at *
   obtain ⟨t1,t2,t3⟩:=t
   obtain rfl:t3=s.cnt:=HC2.out
   have hr:s.cnt < t1.length:=HR2.out
   have hpl:=QS.pos_lt (s:=⟨t1,t2,s.cnt⟩) (by show 0 < t1.length;omega) s.cnt
   have a0:=HG.out.head.drew.cell (i:=0) (v:=.slice (some ⟨g2,0,none⟩) t1.length t1.length) rfl
   have a2:=HG.out.head.drew.cell (i:=2) (v:=.int .i64 (s.cnt:Int)) rfl
   have r0:=HX.out.drew.range0
   have t0:w2.drew.there g2 (QS.pos ⟨t1,t2,s.cnt⟩ s.cnt * 8) 8:=HG.out.body.drew.therei (k:=8) rfl hpl
   have HN2:=Lib.hid HG.out.ne
   have HP:=Lib.hid (fun (w:World) h=>jp_place b g2 s.cnt ⟨t1,t2,s.cnt⟩ w h HO2.out (by show 0 < t1.length;omega) (by omega))
   have i3:(0:Int)≤((QS.pos ⟨t1,t2,s.cnt⟩ s.cnt:Nat):Int):=by omega
   have i4:((QS.pos ⟨t1,t2,s.cnt⟩ s.cnt:Nat):Int) < (t1.length:Int):=by exact_mod_cast hpl
   have i5:QS.pos ⟨t1,t2,s.cnt⟩ s.cnt < t1.length:=hpl
   clear hpl
   generalize QS.pos ⟨t1,t2,s.cnt⟩ s.cnt=p at *
   go_wp2_with fail
   refine wp_region_held_drew (S:=(fun w'=>w'.cell? ⟨b,0,none⟩=some (.slice (some ⟨g2,0,none⟩) t1.length t1.length)∧w'.cell? ⟨b,2,none⟩=some (.int .i64 (s.cnt:Int))∧w'.rangeAt w.heap.size 0 xc∧w'.there g2 (p * 8) 8)) (by kernel_rfl) ⟨a0,a2,r0,t0⟩ (fun hHeld=>?_)
   simp only [List.size_toArray,List.length_cons,List.length_nil,Nat.reduceAdd,Array.replicate_succ,Array.replicate_zero,List.push_toArray,List.nil_append,List.cons_append]
   refine' wpAnyH_take (i:=10) (oi:=⟨some 34,_,_,_,_,_⟩) (v:=_) rfl (by kernel_rfl) (by kernel_rfl) (by kernel_rfl) (fun _ _ _ h=>h) (yieldsIf_load_mid (by rfl) _ _ rfl _ _ rfl _ _ ?hS29 hu rfl hi) (by assumption) ?r29
   case hS29=>intro w hSw;exact hSw.2.2.1
   simp only [Act.put,List.setIfInBounds_toArray,List.set_cons_zero,List.set_cons_succ]
   refine wpAnyH_take (i:=0) (oi:=⟨some 24,_,_,_,_,_⟩) (v:=?v30) rfl (by kernel_rfl) (by kernel_rfl) (by kernel_rfl) (fun _ _ _ h=>h) (Or.inl ⟨by rfl,?y30⟩) (by assumption) ?r30
   case y30=>intro w hSw;clear hSw;go_simp;(try with_reducible rfl)
   simp only [Act.put,List.setIfInBounds_toArray,List.set_cons_zero,List.set_cons_succ]
   refine wpAnyH_take (i:=1) (oi:=⟨some 25,_,_,_,_,_⟩) (v:=?v31) rfl (by kernel_rfl) (by kernel_rfl) (by kernel_rfl) (fun _ _ _ h=>h) (Or.inl ⟨by rfl,?y31⟩) (by assumption) ?r31
   case y31=>intro w hSw;clear hSw;go_simp;(try with_reducible rfl)
   simp only [Act.put,List.setIfInBounds_toArray,List.set_cons_zero,List.set_cons_succ]
   refine wpAnyH_take (i:=2) (oi:=⟨some 26,_,_,_,_,_⟩) (v:=?v32) rfl (by kernel_rfl) (by kernel_rfl) (by kernel_rfl) (fun _ _ _ h=>h) (Or.inl ⟨by rfl,?y32⟩) (by assumption) ?r32
   case y32=>intro w hSw;clear hSw;go_simp;(try with_reducible rfl)
   simp only [Act.put,List.setIfInBounds_toArray,List.set_cons_zero,List.set_cons_succ]
   refine wpAnyH_take (i:=3) (oi:=⟨some 27,_,_,_,_,_⟩) (v:=?v33) rfl (by kernel_rfl) (by kernel_rfl) (by kernel_rfl) (fun _ _ _ h=>h) (Or.inl ⟨by rfl,?y33⟩) (by assumption) ?r33
   case y33=>intro w hSw;obtain ⟨s0,s1,s2,s3⟩:=hSw;go_simp;(try with_reducible rfl)
   simp only [Act.put,List.setIfInBounds_toArray,List.set_cons_zero,List.set_cons_succ]
   refine wpAnyH_take (i:=4) (oi:=⟨some 28,_,_,_,_,_⟩) (v:=?v34) rfl (by kernel_rfl) (by kernel_rfl) (by kernel_rfl) (fun _ _ _ h=>h) (Or.inl ⟨by rfl,?y34⟩) (by assumption) ?r34
   case y34=>intro w hSw;clear hSw;go_simp;(try with_reducible rfl)
   simp only [Act.put,List.setIfInBounds_toArray,List.set_cons_zero,List.set_cons_succ]
   refine wpAnyH_take (i:=5) (oi:=⟨some 29,_,_,_,_,_⟩) (v:=?v35) rfl (by kernel_rfl) (by kernel_rfl) (by kernel_rfl) (fun _ _ _ h=>h) (Or.inl ⟨by rfl,?y35⟩) (by assumption) ?r35
   case y35=>intro w hSw;clear hSw;go_simp;(try with_reducible rfl)
   simp only [Act.put,List.setIfInBounds_toArray,List.set_cons_zero,List.set_cons_succ]
   refine wpAnyH_take (i:=6) (oi:=⟨some 30,_,_,_,_,_⟩) (v:=?v36) rfl (by kernel_rfl) (by kernel_rfl) (by kernel_rfl) (fun _ _ _ h=>h) (Or.inl ⟨by rfl,?y36⟩) (by assumption) ?r36
   case y36=>intro w hSw;clear hSw;go_simp;(try with_reducible rfl)
   simp only [Act.put,List.setIfInBounds_toArray,List.set_cons_zero,List.set_cons_succ]
   refine wpAnyH_take (i:=7) (oi:=⟨some 31,_,_,_,_,_⟩) (v:=?v37) rfl (by kernel_rfl) (by kernel_rfl) (by kernel_rfl) (fun _ _ _ h=>h) (Or.inl ⟨by rfl,?y37⟩) (by assumption) ?r37
   case y37=>intro w hSw;clear hSw;go_simp;(try with_reducible rfl)
   simp only [Act.put,List.setIfInBounds_toArray,List.set_cons_zero,List.set_cons_succ]
   refine wpAnyH_take (i:=8) (oi:=⟨some 32,_,_,_,_,_⟩) (v:=?v38) rfl (by kernel_rfl) (by kernel_rfl) (by kernel_rfl) (fun _ _ _ h=>h) (Or.inl ⟨by rfl,?y38⟩) (by assumption) ?r38
   case y38=>intro w hSw;obtain ⟨s0,s1,s2,s3⟩:=hSw;go_simp;(try with_reducible rfl)
   simp only [Act.put,List.setIfInBounds_toArray,List.set_cons_zero,List.set_cons_succ]
   refine wpAnyH_ready (rs:=[9]) (by kernel_rfl) (by simp) ?_
   refine AllReadyH.cons (o:=⟨some 33,_,_,_,_,_⟩) rfl (fun K hK=>?_) AllReadyH.nil
   go_simp
   refine (HP.out _ (JpAt.drawn (Drawn.drew w2) HG.out)).mono ?_
   rintro e w' ⟨rfl,hd⟩
   have HD:=Lib.hid hd
   clear hd
   have b0:=(HD.out.cell _).trans a0
   have b2:=(HD.out.cell _).trans a2
   have r1:=dr_range HD.out r0
   have t1_:=dr_there HD.out t0
   go_wp2_with fail
   refine hK.out _ _ ⟨b0,b2,r1,t1_⟩ (fun hHeld=>?_)
   clear hK
   try simp only [List.setIfInBounds_toArray,List.set_cons_zero,List.set_cons_succ]
   refine wpAnyH_take (i:=11) (oi:=⟨some 35,_,_,_,_,_⟩) (v:=?v39) rfl (by kernel_rfl) (by kernel_rfl) (by kernel_rfl) (fun _ _ _ h=>h) (Or.inl ⟨by rfl,?y39⟩) (by assumption) ?r39
   case y39=>intro w hSw;clear hSw;go_simp;(try with_reducible rfl)
   simp only [Act.put,List.setIfInBounds_toArray,List.set_cons_zero,List.set_cons_succ]
   refine wpAnyH_ready (rs:=[12]) (by kernel_rfl) (by simp) ?_
   refine AllReadyH.cons (o:=⟨none,_,_,_,_,_⟩) rfl (fun K hK=>?_) AllReadyH.nil
   rw [if_pos (by rfl)]
   refine wp_store_mid _ _ _ rfl _ _ (List.toArray _) rfl rfl (by have e:=hl;rw [← List.size_toArray] at e;rw [e];exact t1_) (by rw [List.size_toArray];exact hi) (all_oneCell_toArray h1) ?_
   dsimp only
   refine hK.out _ _ ⟨cell_sets b0 HN2.out,cell_sets b2 HN2.out,World.rangeAt_setCells_apart r1 _ _ _ (.inl HZ.out),World.there_setCells t1_ _ _ _⟩ (fun hHeld=>?_)
   clear hK
   try simp only [List.setIfInBounds_toArray,List.set_cons_zero,List.set_cons_succ]
   refine wpAnyH_done (by kernel_rfl) ?_ _
   have hD:Drawn w2 w':=(Drawn.drew w2).more HD.out
   have F1:Hid (Blk (w'.setCells g2 (p * 8) xc) g2 110 (icells (t1.set p x))):=Lib.hid (by
    have:=Blk.sets xc (p * Itm.k Jp) w' _ (hD.blk HG.out.body)
    have e:=putA_item t1 p x i5
    rw [HC.out] at e
    rw [e] at this
    exact this)
   have F2:Hid (Blk (w'.setCells g2 (p * 8) xc) b 126 (jpCells ⟨t1,t2,s.cnt⟩ g2)):=Lib.hid (Blk.sets_other HN2.out xc (p * 8) w' (hD.blk HG.out.head))
   have F3:Hid (Mv w (w'.setCells g2 (p * 8) xc) b g):=Lib.hid (Mv.sets (by have:=HQ.out;omega) xc (p * 8) w' (HM2.out.drawn hD))
   generalize (w'.setCells g2 (p * 8) xc)=w3 at *
   clear a0 a2 b0 b2 r0 r1 t0 t1_ hHeld hD HD HP i3 i4 i5
   have m2:=F2.out.cell (i:=2) (v:=.int .i64 (s.cnt:Int)) rfl
   have n2:=F2.out.free 2
   go_wp2_with fail
   go_end0
   refine ⟨rfl,⟨g2,⟨?_,?_⟩,HQ.out⟩,F3.out.set (.inl rfl) _ _⟩
   ·have:=F2.out.set 2 (.int .i64 ((s.cnt:Int) + 1))
    rw [HPU.out]
    simpa [jpCells] using this
   ·rw [HPU.out]
    exact F1.out.set_other _ _ (Ne.symm HN2.out)
  ·have HE:Hid (s.wide=s.move 1):=Lib.hid (by unfold QS.wide;rw [if_pos a];congr 1;omega)
   have z1:2 * (s.cnt:Int)≤1:=by omega
   have d1:(s.cnt == s.pl.length)=true:=by simpa using a
   have HA:=Lib.hid a
   clear a
   go_enter Try.func70,Try.ntmps70
   go_wp2_with fail
   generalize (w.alloc (.cells #[.int .u64 (x.p.n:Int),.int .u64 (x.p.size:Int),.int .u64 (x.p.sent:Int),.int .u64 (x.p.first:Int),.int .u64 (x.p.deliv:Int),.int .u64 (x.p.at_:Int),.bool x.p.lim,.int .u64 (x.due:Int)] 110))=w0 at *
   go_quiet (fail)
   have HD:Hid (Drawn w0 (w0.drewN nq)):=Lib.hid ⟨nq,rfl⟩
   have q2:=(HD.out.cell _).trans b2
   generalize w0.drewN nq=w1 at *
   go_wp2_with fail
   have HC:Hid (Calls Try.prog 78 #[.pointer (some ⟨b,0,none⟩),.int .i64 1] w1 (JpPost w1 b g (.returned (.tuple #[])) (s.move 1))):=Lib.hid (by have:=jp_move b g 1 s w1 (JpAt.drawn HD.out HH.out) HO.out (by omega) (by omega);simpa using this)
   refine (HC.out).mono ?_
   rintro e w2 ⟨rfl,hat,hmv⟩
   obtain ⟨g2,hg2,hgq⟩:=hat
   rw [← HE.out] at hg2
   have HG:=Lib.hid hg2
   have HX2:=Lib.hid ((HD.out.blk HX.out).mv hmv HZb.out HZg.out)
   have HM2:=Lib.hid ((HM.out.drawn HD.out).trans hmv (.inl rfl))
   have HQ:Hid (g2=g∨w.heap.size < g2):=Lib.hid (by have:=HS1.out;rw [HD.out.heap] at hgq;omega)
   have HZ:Hid (w.heap.size≠g2):=Lib.hid (by have:=HQ.out;have:=HZg.out;omega)
   clear hg2 hgq hmv q2 HE b0 b2 HD HC z1 HX
   have HX:=HX2
   clear HX2
   replace HQ:Hid (g2=g∨w.heap.size≤g2):=Lib.hid (by have:=HQ.out;omega)
   have HO2:=Lib.hid (QS.wide_ok HO.out hk)
   have HC2:=Lib.hid (QS.wide_cnt s)
   have HR2:=Lib.hid (QS.wide_room HO.out)
   have HPU:Hid (s.push x=⟨s.wide.pl.set (s.wide.pos s.cnt) x,s.wide.first,s.cnt + 1⟩):=Lib.hid rfl
   generalize s.wide=t at *
   generalize s.push x=u at *
   obtain ⟨t1,t2,t3⟩:=t
   obtain rfl:t3=s.cnt:=HC2.out
   have hr:s.cnt < t1.length:=HR2.out
   have hpl:=QS.pos_lt (s:=⟨t1,t2,s.cnt⟩) (by show 0 < t1.length;omega) s.cnt
   have a0:=HG.out.head.drew.cell (i:=0) (v:=.slice (some ⟨g2,0,none⟩) t1.length t1.length) rfl
   have a2:=HG.out.head.drew.cell (i:=2) (v:=.int .i64 (s.cnt:Int)) rfl
   have r0:=HX.out.drew.range0
   have t0:w2.drew.there g2 (QS.pos ⟨t1,t2,s.cnt⟩ s.cnt * 8) 8:=HG.out.body.drew.therei (k:=8) rfl hpl
   have HN2:=Lib.hid HG.out.ne
   have HP:=Lib.hid (fun (w:World) h=>jp_place b g2 s.cnt ⟨t1,t2,s.cnt⟩ w h HO2.out (by show 0 < t1.length;omega) (by omega))
   have i3:(0:Int)≤((QS.pos ⟨t1,t2,s.cnt⟩ s.cnt:Nat):Int):=by omega
   have i4:((QS.pos ⟨t1,t2,s.cnt⟩ s.cnt:Nat):Int) < (t1.length:Int):=by exact_mod_cast hpl
   have i5:QS.pos ⟨t1,t2,s.cnt⟩ s.cnt < t1.length:=hpl
   clear hpl
   generalize QS.pos ⟨t1,t2,s.cnt⟩ s.cnt=p at *
   go_wp2_with fail
   refine wp_region_held_drew (S:=(fun w'=>w'.cell? ⟨b,0,none⟩=some (.slice (some ⟨g2,0,none⟩) t1.length t1.length)∧w'.cell? ⟨b,2,none⟩=some (.int .i64 (s.cnt:Int))∧w'.rangeAt w.heap.size 0 xc∧w'.there g2 (p * 8) 8)) (by kernel_rfl) ⟨a0,a2,r0,t0⟩ (fun hHeld=>?_)
   simp only [List.size_toArray,List.length_cons,List.length_nil,Nat.reduceAdd,Array.replicate_succ,Array.replicate_zero,List.push_toArray,List.nil_append,List.cons_append]
   refine' wpAnyH_take (i:=10) (oi:=⟨some 34,_,_,_,_,_⟩) (v:=_) rfl (by kernel_rfl) (by kernel_rfl) (by kernel_rfl) (fun _ _ _ h=>h) (yieldsIf_load_mid (by rfl) _ _ rfl _ _ rfl _ _ ?hS40 hu rfl hi) (by assumption) ?r40
   case hS40=>intro w hSw;exact hSw.2.2.1
   simp only [Act.put,List.setIfInBounds_toArray,List.set_cons_zero,List.set_cons_succ]
   refine wpAnyH_take (i:=0) (oi:=⟨some 24,_,_,_,_,_⟩) (v:=?v41) rfl (by kernel_rfl) (by kernel_rfl) (by kernel_rfl) (fun _ _ _ h=>h) (Or.inl ⟨by rfl,?y41⟩) (by assumption) ?r41
   case y41=>intro w hSw;clear hSw;go_simp;(try with_reducible rfl)
   simp only [Act.put,List.setIfInBounds_toArray,List.set_cons_zero,List.set_cons_succ]
   refine wpAnyH_take (i:=1) (oi:=⟨some 25,_,_,_,_,_⟩) (v:=?v42) rfl (by kernel_rfl) (by kernel_rfl) (by kernel_rfl) (fun _ _ _ h=>h) (Or.inl ⟨by rfl,?y42⟩) (by assumption) ?r42
   case y42=>intro w hSw;clear hSw;go_simp;(try with_reducible rfl)
   simp only [Act.put,List.setIfInBounds_toArray,List.set_cons_zero,List.set_cons_succ]
   refine wpAnyH_take (i:=2) (oi:=⟨some 26,_,_,_,_,_⟩) (v:=?v43) rfl (by kernel_rfl) (by kernel_rfl) (by kernel_rfl) (fun _ _ _ h=>h) (Or.inl ⟨by rfl,?y43⟩) (by assumption) ?r43
   case y43=>intro w hSw;clear hSw;go_simp;(try with_reducible rfl)
   simp only [Act.put,List.setIfInBounds_toArray,List.set_cons_zero,List.set_cons_succ]
   refine wpAnyH_take (i:=3) (oi:=⟨some 27,_,_,_,_,_⟩) (v:=?v44) rfl (by kernel_rfl) (by kernel_rfl) (by kernel_rfl) (fun _ _ _ h=>h) (Or.inl ⟨by rfl,?y44⟩) (by assumption) ?r44
   case y44=>intro w hSw;obtain ⟨s0,s1,s2,s3⟩:=hSw;go_simp;(try with_reducible rfl)
   simp only [Act.put,List.setIfInBounds_toArray,List.set_cons_zero,List.set_cons_succ]
   refine wpAnyH_take (i:=4) (oi:=⟨some 28,_,_,_,_,_⟩) (v:=?v45) rfl (by kernel_rfl) (by kernel_rfl) (by kernel_rfl) (fun _ _ _ h=>h) (Or.inl ⟨by rfl,?y45⟩) (by assumption) ?r45
   case y45=>intro w hSw;clear hSw;go_simp;(try with_reducible rfl)
   simp only [Act.put,List.setIfInBounds_toArray,List.set_cons_zero,List.set_cons_succ]
   refine wpAnyH_take (i:=5) (oi:=⟨some 29,_,_,_,_,_⟩) (v:=?v46) rfl (by kernel_rfl) (by kernel_rfl) (by kernel_rfl) (fun _ _ _ h=>h) (Or.inl ⟨by rfl,?y46⟩) (by assumption) ?r46
   case y46=>intro w hSw;clear hSw;go_simp;(try with_reducible rfl)
   simp only [Act.put,List.setIfInBounds_toArray,List.set_cons_zero,List.set_cons_succ]
   refine wpAnyH_take (i:=6) (oi:=⟨some 30,_,_,_,_,_⟩) (v:=?v47) rfl (by kernel_rfl) (by kernel_rfl) (by kernel_rfl) (fun _ _ _ h=>h) (Or.inl ⟨by rfl,?y47⟩) (by assumption) ?r47
   case y47=>intro w hSw;clear hSw;go_simp;(try with_reducible rfl)
   simp only [Act.put,List.setIfInBounds_toArray,List.set_cons_zero,List.set_cons_succ]
   refine wpAnyH_take (i:=7) (oi:=⟨some 31,_,_,_,_,_⟩) (v:=?v48) rfl (by kernel_rfl) (by kernel_rfl) (by kernel_rfl) (fun _ _ _ h=>h) (Or.inl ⟨by rfl,?y48⟩) (by assumption) ?r48
   case y48=>intro w hSw;clear hSw;go_simp;(try with_reducible rfl)
   simp only [Act.put,List.setIfInBounds_toArray,List.set_cons_zero,List.set_cons_succ]
   refine wpAnyH_take (i:=8) (oi:=⟨some 32,_,_,_,_,_⟩) (v:=?v49) rfl (by kernel_rfl) (by kernel_rfl) (by kernel_rfl) (fun _ _ _ h=>h) (Or.inl ⟨by rfl,?y49⟩) (by assumption) ?r49
   case y49=>intro w hSw;obtain ⟨s0,s1,s2,s3⟩:=hSw;go_simp;(try with_reducible rfl)
   simp only [Act.put,List.setIfInBounds_toArray,List.set_cons_zero,List.set_cons_succ]
   refine wpAnyH_ready (rs:=[9]) (by kernel_rfl) (by simp) ?_
   refine AllReadyH.cons (o:=⟨some 33,_,_,_,_,_⟩) rfl (fun K hK=>?_) AllReadyH.nil
   go_simp
   refine (HP.out _ (JpAt.drawn (Drawn.drew w2) HG.out)).mono ?_
   rintro e w' ⟨rfl,hd⟩
   have HD:=Lib.hid hd
   clear hd
   have b0:=(HD.out.cell _).trans a0
   have b2:=(HD.out.cell _).trans a2
   have r1:=dr_range HD.out r0
   have t1_:=dr_there HD.out t0
   go_wp2_with fail
   refine hK.out _ _ ⟨b0,b2,r1,t1_⟩ (fun hHeld=>?_)
   clear hK
   try simp only [List.setIfInBounds_toArray,List.set_cons_zero,List.set_cons_succ]
   refine wpAnyH_take (i:=11) (oi:=⟨some 35,_,_,_,_,_⟩) (v:=?v50) rfl (by kernel_rfl) (by kernel_rfl) (by kernel_rfl) (fun _ _ _ h=>h) (Or.inl ⟨by rfl,?y50⟩) (by assumption) ?r50
   case y50=>intro w hSw;clear hSw;go_simp;(try with_reducible rfl)
   simp only [Act.put,List.setIfInBounds_toArray,List.set_cons_zero,List.set_cons_succ]
   refine wpAnyH_ready (rs:=[12]) (by kernel_rfl) (by simp) ?_
   refine AllReadyH.cons (o:=⟨none,_,_,_,_,_⟩) rfl (fun K hK=>?_) AllReadyH.nil
   rw [if_pos (by rfl)]
   refine wp_store_mid _ _ _ rfl _ _ (List.toArray _) rfl rfl (by have e:=hl;rw [← List.size_toArray] at e;rw [e];exact t1_) (by rw [List.size_toArray];exact hi) (all_oneCell_toArray h1) ?_
   dsimp only
   refine hK.out _ _ ⟨cell_sets b0 HN2.out,cell_sets b2 HN2.out,World.rangeAt_setCells_apart r1 _ _ _ (.inl HZ.out),World.there_setCells t1_ _ _ _⟩ (fun hHeld=>?_)
   clear hK
   try simp only [List.setIfInBounds_toArray,List.set_cons_zero,List.set_cons_succ]
   refine wpAnyH_done (by kernel_rfl) ?_ _
   have hD:Drawn w2 w':=(Drawn.drew w2).more HD.out
   have F1:Hid (Blk (w'.setCells g2 (p * 8) xc) g2 110 (icells (t1.set p x))):=Lib.hid (by
    have:=Blk.sets xc (p * Itm.k Jp) w' _ (hD.blk HG.out.body)
    have e:=putA_item t1 p x i5
    rw [HC.out] at e
    rw [e] at this
    exact this)
   have F2:Hid (Blk (w'.setCells g2 (p * 8) xc) b 126 (jpCells ⟨t1,t2,s.cnt⟩ g2)):=Lib.hid (Blk.sets_other HN2.out xc (p * 8) w' (hD.blk HG.out.head))
   have F3:Hid (Mv w (w'.setCells g2 (p * 8) xc) b g):=Lib.hid (Mv.sets (by have:=HQ.out;omega) xc (p * 8) w' (HM2.out.drawn hD))
   generalize (w'.setCells g2 (p * 8) xc)=w3 at *
   clear a0 a2 b0 b2 r0 r1 t0 t1_ hHeld hD HD HP i3 i4 i5
   have m2:=F2.out.cell (i:=2) (v:=.int .i64 (s.cnt:Int)) rfl
   have n2:=F2.out.free 2
   go_wp2_with fail
   go_end0
   refine ⟨rfl,⟨g2,⟨?_,?_⟩,HQ.out⟩,F3.out.set (.inl rfl) _ _⟩
   ·have:=F2.out.set 2 (.int .i64 ((s.cnt:Int) + 1))
    rw [HPU.out]
    simpa [jpCells] using this
   ·rw [HPU.out]
    exact F1.out.set_other _ _ (Ne.symm HN2.out)
 ·have HE:Hid (s.wide=s):=Lib.hid (if_neg a)
  have d1:(s.cnt == s.pl.length)=false:=by simpa using a
  have HA:=Lib.hid a
  clear a
  go_enter Try.func70,Try.ntmps70
  go_wp2_with fail
  generalize (w.alloc (.cells #[.int .u64 (x.p.n:Int),.int .u64 (x.p.size:Int),.int .u64 (x.p.sent:Int),.int .u64 (x.p.first:Int),.int .u64 (x.p.deliv:Int),.int .u64 (x.p.at_:Int),.bool x.p.lim,.int .u64 (x.due:Int)] 110))=w0 at *
  go_quiet (fail)
  have HD:Hid (Drawn w0 (w0.drewN nq)):=Lib.hid ⟨nq,rfl⟩
  have q2:=(HD.out.cell _).trans b2
  have HG:Hid (JpAt (w0.drewN nq) b g s.wide):=Lib.hid (by rw [HE.out];exact JpAt.drawn HD.out HH.out)
  have HM2:=Lib.hid (HM.out.drawn HD.out)
  have HX2:=Lib.hid (HD.out.blk HX.out)
  obtain ⟨g2,hg2⟩:∃g2,g2=g:=⟨_,rfl⟩
  have HQ:Hid (g2=g∨w.heap.size≤g2):=Lib.hid (.inl hg2)
  have HZ:Hid (w.heap.size≠g2):=Lib.hid (by have:=HZg.out;omega)
  rw [← hg2] at HG
  generalize w0.drewN nq=w2 at *
  clear hg2 HE b0 b2 HD q2 HX
  have HX:=HX2
  clear HX2
  have HO2:=Lib.hid (QS.wide_ok HO.out hk)
  have HC2:=Lib.hid (QS.wide_cnt s)
  have HR2:=Lib.hid (QS.wide_room HO.out)
  have HPU:Hid (s.push x=⟨s.wide.pl.set (s.wide.pos s.cnt) x,s.wide.first,s.cnt + 1⟩):=Lib.hid rfl
  generalize s.wide=t at *
  generalize s.push x=u at *
  obtain ⟨t1,t2,t3⟩:=t
  obtain rfl:t3=s.cnt:=HC2.out
  have hr:s.cnt < t1.length:=HR2.out
  have hpl:=QS.pos_lt (s:=⟨t1,t2,s.cnt⟩) (by show 0 < t1.length;omega) s.cnt
  have a0:=HG.out.head.drew.cell (i:=0) (v:=.slice (some ⟨g2,0,none⟩) t1.length t1.length) rfl
  have a2:=HG.out.head.drew.cell (i:=2) (v:=.int .i64 (s.cnt:Int)) rfl
  have r0:=HX.out.drew.range0
  have t0:w2.drew.there g2 (QS.pos ⟨t1,t2,s.cnt⟩ s.cnt * 8) 8:=HG.out.body.drew.therei (k:=8) rfl hpl
  have HN2:=Lib.hid HG.out.ne
  have HP:=Lib.hid (fun (w:World) h=>jp_place b g2 s.cnt ⟨t1,t2,s.cnt⟩ w h HO2.out (by show 0 < t1.length;omega) (by omega))
  have i3:(0:Int)≤((QS.pos ⟨t1,t2,s.cnt⟩ s.cnt:Nat):Int):=by omega
  have i4:((QS.pos ⟨t1,t2,s.cnt⟩ s.cnt:Nat):Int) < (t1.length:Int):=by exact_mod_cast hpl
  have i5:QS.pos ⟨t1,t2,s.cnt⟩ s.cnt < t1.length:=hpl
  clear hpl
  generalize QS.pos ⟨t1,t2,s.cnt⟩ s.cnt=p at *
  go_wp2_with fail
  refine wp_region_held_drew (S:=(fun w'=>w'.cell? ⟨b,0,none⟩=some (.slice (some ⟨g2,0,none⟩) t1.length t1.length)∧w'.cell? ⟨b,2,none⟩=some (.int .i64 (s.cnt:Int))∧w'.rangeAt w.heap.size 0 xc∧w'.there g2 (p * 8) 8)) (by kernel_rfl) ⟨a0,a2,r0,t0⟩ (fun hHeld=>?_)
  simp only [List.size_toArray,List.length_cons,List.length_nil,Nat.reduceAdd,Array.replicate_succ,Array.replicate_zero,List.push_toArray,List.nil_append,List.cons_append]
  refine' wpAnyH_take (i:=10) (oi:=⟨some 34,_,_,_,_,_⟩) (v:=_) rfl (by kernel_rfl) (by kernel_rfl) (by kernel_rfl) (fun _ _ _ h=>h) (yieldsIf_load_mid (by rfl) _ _ rfl _ _ rfl _ _ ?hS51 hu rfl hi) (by assumption) ?r51
  case hS51=>intro w hSw;exact hSw.2.2.1
  simp only [Act.put,List.setIfInBounds_toArray,List.set_cons_zero,List.set_cons_succ]
  refine wpAnyH_take (i:=0) (oi:=⟨some 24,_,_,_,_,_⟩) (v:=?v52) rfl (by kernel_rfl) (by kernel_rfl) (by kernel_rfl) (fun _ _ _ h=>h) (Or.inl ⟨by rfl,?y52⟩) (by assumption) ?r52
  case y52=>intro w hSw;clear hSw;go_simp;(try with_reducible rfl)
  simp only [Act.put,List.setIfInBounds_toArray,List.set_cons_zero,List.set_cons_succ]
  refine wpAnyH_take (i:=1) (oi:=⟨some 25,_,_,_,_,_⟩) (v:=?v53) rfl (by kernel_rfl) (by kernel_rfl) (by kernel_rfl) (fun _ _ _ h=>h) (Or.inl ⟨by rfl,?y53⟩) (by assumption) ?r53
  case y53=>intro w hSw;clear hSw;go_simp;(try with_reducible rfl)
  simp only [Act.put,List.setIfInBounds_toArray,List.set_cons_zero,List.set_cons_succ]
  refine wpAnyH_take (i:=2) (oi:=⟨some 26,_,_,_,_,_⟩) (v:=?v54) rfl (by kernel_rfl) (by kernel_rfl) (by kernel_rfl) (fun _ _ _ h=>h) (Or.inl ⟨by rfl,?y54⟩) (by assumption) ?r54
  case y54=>intro w hSw;clear hSw;go_simp;(try with_reducible rfl)
  simp only [Act.put,List.setIfInBounds_toArray,List.set_cons_zero,List.set_cons_succ]
  refine wpAnyH_take (i:=3) (oi:=⟨some 27,_,_,_,_,_⟩) (v:=?v55) rfl (by kernel_rfl) (by kernel_rfl) (by kernel_rfl) (fun _ _ _ h=>h) (Or.inl ⟨by rfl,?y55⟩) (by assumption) ?r55
  case y55=>intro w hSw;obtain ⟨s0,s1,s2,s3⟩:=hSw;go_simp;(try with_reducible rfl)
  simp only [Act.put,List.setIfInBounds_toArray,List.set_cons_zero,List.set_cons_succ]
  refine wpAnyH_take (i:=4) (oi:=⟨some 28,_,_,_,_,_⟩) (v:=?v56) rfl (by kernel_rfl) (by kernel_rfl) (by kernel_rfl) (fun _ _ _ h=>h) (Or.inl ⟨by rfl,?y56⟩) (by assumption) ?r56
  case y56=>intro w hSw;clear hSw;go_simp;(try with_reducible rfl)
  simp only [Act.put,List.setIfInBounds_toArray,List.set_cons_zero,List.set_cons_succ]
  refine wpAnyH_take (i:=5) (oi:=⟨some 29,_,_,_,_,_⟩) (v:=?v57) rfl (by kernel_rfl) (by kernel_rfl) (by kernel_rfl) (fun _ _ _ h=>h) (Or.inl ⟨by rfl,?y57⟩) (by assumption) ?r57
  case y57=>intro w hSw;clear hSw;go_simp;(try with_reducible rfl)
  simp only [Act.put,List.setIfInBounds_toArray,List.set_cons_zero,List.set_cons_succ]
  refine wpAnyH_take (i:=6) (oi:=⟨some 30,_,_,_,_,_⟩) (v:=?v58) rfl (by kernel_rfl) (by kernel_rfl) (by kernel_rfl) (fun _ _ _ h=>h) (Or.inl ⟨by rfl,?y58⟩) (by assumption) ?r58
  case y58=>intro w hSw;clear hSw;go_simp;(try with_reducible rfl)
  simp only [Act.put,List.setIfInBounds_toArray,List.set_cons_zero,List.set_cons_succ]
  refine wpAnyH_take (i:=7) (oi:=⟨some 31,_,_,_,_,_⟩) (v:=?v59) rfl (by kernel_rfl) (by kernel_rfl) (by kernel_rfl) (fun _ _ _ h=>h) (Or.inl ⟨by rfl,?y59⟩) (by assumption) ?r59
  case y59=>intro w hSw;clear hSw;go_simp;(try with_reducible rfl)
  simp only [Act.put,List.setIfInBounds_toArray,List.set_cons_zero,List.set_cons_succ]
  refine wpAnyH_take (i:=8) (oi:=⟨some 32,_,_,_,_,_⟩) (v:=?v60) rfl (by kernel_rfl) (by kernel_rfl) (by kernel_rfl) (fun _ _ _ h=>h) (Or.inl ⟨by rfl,?y60⟩) (by assumption) ?r60
  case y60=>intro w hSw;obtain ⟨s0,s1,s2,s3⟩:=hSw;go_simp;(try with_reducible rfl)
  simp only [Act.put,List.setIfInBounds_toArray,List.set_cons_zero,List.set_cons_succ]
  refine wpAnyH_ready (rs:=[9]) (by kernel_rfl) (by simp) ?_
  refine AllReadyH.cons (o:=⟨some 33,_,_,_,_,_⟩) rfl (fun K hK=>?_) AllReadyH.nil
  go_simp
  refine (HP.out _ (JpAt.drawn (Drawn.drew w2) HG.out)).mono ?_
  rintro e w' ⟨rfl,hd⟩
  have HD:=Lib.hid hd
  clear hd
  have b0:=(HD.out.cell _).trans a0
  have b2:=(HD.out.cell _).trans a2
  have r1:=dr_range HD.out r0
  have t1_:=dr_there HD.out t0
  go_wp2_with fail
  refine hK.out _ _ ⟨b0,b2,r1,t1_⟩ (fun hHeld=>?_)
  clear hK
  try simp only [List.setIfInBounds_toArray,List.set_cons_zero,List.set_cons_succ]
  refine wpAnyH_take (i:=11) (oi:=⟨some 35,_,_,_,_,_⟩) (v:=?v61) rfl (by kernel_rfl) (by kernel_rfl) (by kernel_rfl) (fun _ _ _ h=>h) (Or.inl ⟨by rfl,?y61⟩) (by assumption) ?r61
  case y61=>intro w hSw;clear hSw;go_simp;(try with_reducible rfl)
  simp only [Act.put,List.setIfInBounds_toArray,List.set_cons_zero,List.set_cons_succ]
  refine wpAnyH_ready (rs:=[12]) (by kernel_rfl) (by simp) ?_
  refine AllReadyH.cons (o:=⟨none,_,_,_,_,_⟩) rfl (fun K hK=>?_) AllReadyH.nil
  rw [if_pos (by rfl)]
  refine wp_store_mid _ _ _ rfl _ _ (List.toArray _) rfl rfl (by have e:=hl;rw [← List.size_toArray] at e;rw [e];exact t1_) (by rw [List.size_toArray];exact hi) (all_oneCell_toArray h1) ?_
  dsimp only
  refine hK.out _ _ ⟨cell_sets b0 HN2.out,cell_sets b2 HN2.out,World.rangeAt_setCells_apart r1 _ _ _ (.inl HZ.out),World.there_setCells t1_ _ _ _⟩ (fun hHeld=>?_)
  clear hK
  try simp only [List.setIfInBounds_toArray,List.set_cons_zero,List.set_cons_succ]
  refine wpAnyH_done (by kernel_rfl) ?_ _
  have hD:Drawn w2 w':=(Drawn.drew w2).more HD.out
  have F1:Hid (Blk (w'.setCells g2 (p * 8) xc) g2 110 (icells (t1.set p x))):=Lib.hid (by
   have:=Blk.sets xc (p * Itm.k Jp) w' _ (hD.blk HG.out.body)
   have e:=putA_item t1 p x i5
   rw [HC.out] at e
   rw [e] at this
   exact this)
  have F2:Hid (Blk (w'.setCells g2 (p * 8) xc) b 126 (jpCells ⟨t1,t2,s.cnt⟩ g2)):=Lib.hid (Blk.sets_other HN2.out xc (p * 8) w' (hD.blk HG.out.head))
  have F3:Hid (Mv w (w'.setCells g2 (p * 8) xc) b g):=Lib.hid (Mv.sets (by have:=HQ.out;omega) xc (p * 8) w' (HM2.out.drawn hD))
  generalize (w'.setCells g2 (p * 8) xc)=w3 at *
  clear a0 a2 b0 b2 r0 r1 t0 t1_ hHeld hD HD HP i3 i4 i5
  have m2:=F2.out.cell (i:=2) (v:=.int .i64 (s.cnt:Int)) rfl
  have n2:=F2.out.free 2
  go_wp2_with fail
  go_end0
  refine ⟨rfl,⟨g2,⟨?_,?_⟩,HQ.out⟩,F3.out.set (.inl rfl) _ _⟩
  ·have:=F2.out.set 2 (.int .i64 ((s.cnt:Int) + 1))
   rw [HPU.out]
   simpa [jpCells] using this
  ·rw [HPU.out]
   exact F1.out.set_other _ _ (Ne.symm HN2.out)
end Go.Proofs.Ytaffjfajjpgjpaa

set_option linter.unusedVariables false
namespace Go.Proofs.Ytaffjfajjpgjpaa
open Go.RowKit
set_option maxRecDepth 100000 in
set_option maxHeartbeats 1000000 in
theorem jp_Shift (b g:Nat) (s:QS Jp) (w:World) (h:JpAt w b g s) (ho:s.ok) (hc:0 < s.cnt):
  Calls Try.prog 82 #[.pointer (some ⟨b,0,none⟩)] w (JpPost w b g (jpgot (s.get 0) true) s.shift):=by
 have HO:=Lib.hid ho
 have HH:=Lib.hid (h.alloc (.cells #[.int .u64 0,.int .u64 0,.int .u64 0,.int .u64 0,.int .u64 0,.int .u64 0,.bool false,.int .u64 0] 110))
 have HB:=Lib.hid (show Blk (w.alloc (.cells #[.int .u64 0,.int .u64 0,.int .u64 0,.int .u64 0,.int .u64 0,.int .u64 0,.bool false,.int .u64 0] 110)) w.heap.size 110 #[.int .u64 0,.int .u64 0,.int .u64 0,.int .u64 0,.int .u64 0,.int .u64 0,.bool false,.int .u64 0] from Blk.new _ _ _)
 have HM:Hid (Mv w (w.alloc (.cells #[.int .u64 0,.int .u64 0,.int .u64 0,.int .u64 0,.int .u64 0,.int .u64 0,.bool false,.int .u64 0] 110)) b g):=Lib.hid ((Mv.refl w b g).alloc _)
 have HS1:Hid ((w.alloc (.cells #[.int .u64 0,.int .u64 0,.int .u64 0,.int .u64 0,.int .u64 0,.int .u64 0,.bool false,.int .u64 0] 110)).heap.size=w.heap.size + 1):=Lib.hid (by simp)
 have HZb:Hid (w.heap.size≠b):=Lib.hid (Ne.symm h.head.old)
 have HZg:Hid (w.heap.size≠g):=Lib.hid (Ne.symm h.body.old)
 have hp:0 < s.pl.length:=by have:=ho.c;omega
 have HA:Hid (Calls Try.prog 64 #[.pointer (some ⟨b,0,none⟩),.int .i64 0] (w.alloc (.cells #[.int .u64 0,.int .u64 0,.int .u64 0,.int .u64 0,.int .u64 0,.int .u64 0,.bool false,.int .u64 0] 110)) fun e w'=>e=jpgot (s.get 0) true∧Below (w.alloc (.cells #[.int .u64 0,.int .u64 0,.int .u64 0,.int .u64 0,.int .u64 0,.int .u64 0,.bool false,.int .u64 0] 110)).heap.size (w.alloc (.cells #[.int .u64 0,.int .u64 0,.int .u64 0,.int .u64 0,.int .u64 0,.int .u64 0,.bool false,.int .u64 0] 110)) w'):=Lib.hid (jp_At b g 0 s _ HH.out ho hc)
 have hcl:s.cnt≤100000:=Nat.le_trans ho.c ho.m
 clear h ho
 generalize s.get 0=x at *
 go_enter Try.func82,Try.ntmps82
 go_wp2_with fail
 refine (HA.out).mono ?_
 rintro e w1 ⟨rfl,hbel⟩
 have HR1:=Lib.hid (HH.out.keep hbel)
 have HB1:=Lib.hid (HB.out.keep hbel)
 have HM1:=Lib.hid (HM.out.below hbel)
 have HS2:Hid (w.heap.size + 1≤w1.heap.size):=Lib.hid (by have:=hbel.size;have:=HS1.out;omega)
 clear hbel HA HH HB HM
 unfold jpgot Jp.agg
 go_wp2_with fail
 have HX:Hid (Blk (w1.alloc (.cells #[.int .u64 (x.p.n:Int),.int .u64 (x.p.size:Int),.int .u64 (x.p.sent:Int),.int .u64 (x.p.first:Int),.int .u64 (x.p.deliv:Int),.int .u64 (x.p.at_:Int),.bool x.p.lim,.int .u64 (x.due:Int)] 110)) w1.heap.size 110 #[.int .u64 (x.p.n:Int),.int .u64 (x.p.size:Int),.int .u64 (x.p.sent:Int),.int .u64 (x.p.first:Int),.int .u64 (x.p.deliv:Int),.int .u64 (x.p.at_:Int),.bool x.p.lim,.int .u64 (x.due:Int)]):=Lib.hid (Blk.new _ _ _)
 have HR2:=Lib.hid (HR1.out.alloc (.cells #[.int .u64 (x.p.n:Int),.int .u64 (x.p.size:Int),.int .u64 (x.p.sent:Int),.int .u64 (x.p.first:Int),.int .u64 (x.p.deliv:Int),.int .u64 (x.p.at_:Int),.bool x.p.lim,.int .u64 (x.due:Int)] 110))
 have HB2:=Lib.hid (HB1.out.alloc (.cells #[.int .u64 (x.p.n:Int),.int .u64 (x.p.size:Int),.int .u64 (x.p.sent:Int),.int .u64 (x.p.first:Int),.int .u64 (x.p.deliv:Int),.int .u64 (x.p.at_:Int),.bool x.p.lim,.int .u64 (x.due:Int)] 110))
 have HM2:=Lib.hid (HM1.out.alloc (.cells #[.int .u64 (x.p.n:Int),.int .u64 (x.p.size:Int),.int .u64 (x.p.sent:Int),.int .u64 (x.p.first:Int),.int .u64 (x.p.deliv:Int),.int .u64 (x.p.at_:Int),.bool x.p.lim,.int .u64 (x.due:Int)] 110))
 have HXb:Hid (w1.heap.size≠b):=Lib.hid (Ne.symm HR1.out.head.old)
 have HXg:Hid (w1.heap.size≠g):=Lib.hid (Ne.symm HR1.out.body.old)
 have HXz:Hid (w1.heap.size≠w.heap.size):=Lib.hid (by have:=HS2.out;omega)
 generalize (w1.alloc (.cells #[.int .u64 (x.p.n:Int),.int .u64 (x.p.size:Int),.int .u64 (x.p.sent:Int),.int .u64 (x.p.first:Int),.int .u64 (x.p.deliv:Int),.int .u64 (x.p.at_:Int),.bool x.p.lim,.int .u64 (x.due:Int)] 110))=wa at *
 generalize w1.heap.size=q at *
 have HC:Hid (Calls Try.prog 88 #[.pointer (some ⟨b,0,none⟩),.int .i64 0] wa (JpEPost wa b g (s.put 0 Itm.z))):=Lib.hid (jp_empty b g 0 s wa HR2.out HO.out hp (by omega))
 refine (HC.out).mono ?_
 rintro e w2 ⟨rfl,hat,hmv⟩
 have HR3:=Lib.hid hat
 have HM3:=Lib.hid (HM2.out.trans hmv (.inl rfl))
 have HB3:=Lib.hid (HB2.out.mv hmv HZb.out HZg.out)
 have HX3:=Lib.hid (HX.out.mv hmv HXb.out HXg.out)
 clear hat hmv HC HR2 HM2 HB2 HX
 go_wp2_with fail
 have HC:Hid (Calls Try.prog 76 #[.pointer (some ⟨b,0,none⟩),.int .i64 1] w2 fun e w'=>e=.returned (.int .i64 ((s.pos 1:Nat):Int))∧Drawn w2 w'):=Lib.hid (by
  have:=jp_place b g 1 (s.put 0 Itm.z) w2 HR3.out (QS.put_ok HO.out 0 Itm.z) (by rw [QS.put_len];exact hp) (by omega)
  rw [QS.put_pos] at this
  exact this)
 refine (HC.out).mono ?_
 rintro e w3 ⟨rfl,hd⟩
 have HR4:=Lib.hid (JpAt.drawn hd HR3.out)
 have HM4:=Lib.hid (HM3.out.drawn hd)
 have HB4:=Lib.hid (hd.blk HB3.out)
 have HX4:=Lib.hid (hd.blk HX3.out)
 clear hd HC HR3 HM3 HB3 HX3
 have c1:=HR4.out.head.cell (i:=1) (v:=.int .i64 (s.first:Int)) rfl
 have c2:=HR4.out.head.cell (i:=2) (v:=.int .i64 (s.cnt:Int)) rfl
 have f1:=HR4.out.head.free 1
 have f2:=HR4.out.head.free 2
 go_wp2_with fail
 have HR5:Hid (JpAt ((w3.setCell ⟨b,1,none⟩ (.int .i64 ((s.pos 1:Nat):Int))).setCell ⟨b,2,none⟩ (.int .i64 ((s.cnt:Int) - 1))) b g s.shift0):=Lib.hid ⟨by
   have:=(HR4.out.head.set 1 (.int .i64 ((s.pos 1:Nat):Int))).set 2 (.int .i64 ((s.cnt:Int) - 1))
   have e:((s.cnt - 1:Nat):Int)=(s.cnt:Int) - 1:=by omega
   simpa [jpCells,QS.shift0,e,QS.put] using this,
  (HR4.out.body.set_other _ _ (Ne.symm HR4.out.ne)).set_other _ _ (Ne.symm HR4.out.ne)⟩
 have HM5:=Lib.hid ((HM4.out.set (c:=b) (.inl rfl) 1 (.int .i64 ((s.pos 1:Nat):Int))).set (c:=b) (.inl rfl) 2 (.int .i64 ((s.cnt:Int) - 1)))
 have HB5:=Lib.hid ((HB4.out.set_other 1 (.int .i64 ((s.pos 1:Nat):Int)) HZb.out).set_other 2 (.int .i64 ((s.cnt:Int) - 1)) HZb.out)
 have HX5:=Lib.hid ((HX4.out.set_other 1 (.int .i64 ((s.pos 1:Nat):Int)) HXb.out).set_other 2 (.int .i64 ((s.cnt:Int) - 1)) HXb.out)
 generalize ((w3.setCell ⟨b,1,none⟩ (.int .i64 ((s.pos 1:Nat):Int))).setCell ⟨b,2,none⟩ (.int .i64 ((s.cnt:Int) - 1)))=w4 at *
 clear c1 c2 f1 f2 HR4 HM4 HB4 HX4
 refine (jp_narrow b g s.shift0 w4 HR5.out (QS.shift0_ok HO.out hc)).mono ?_
 rintro e w5 ⟨rfl,hat,hmv⟩
 obtain ⟨g',hg',hgq⟩:=hat
 have HR6:=Lib.hid hg'
 have HG6:Hid (g'=g∨w.heap.size < g'):=Lib.hid (by have:=HM5.out.size;have:=HB5.out.lt;omega)
 have HM6:=Lib.hid (HM5.out.trans hmv (.inl rfl))
 have HB6:=Lib.hid (HB5.out.mv hmv HZb.out HZg.out)
 have HX6:=Lib.hid (HX5.out.mv hmv HXb.out HXg.out)
 clear hg' hgq hmv HR5 HM5 HB5 HX5
 have x0:=HX6.out.cell (i:=0) (v:=.int .u64 (x.p.n:Int)) rfl
 have x1:=HX6.out.cell (i:=1) (v:=.int .u64 (x.p.size:Int)) rfl
 have x2:=HX6.out.cell (i:=2) (v:=.int .u64 (x.p.sent:Int)) rfl
 have x3:=HX6.out.cell (i:=3) (v:=.int .u64 (x.p.first:Int)) rfl
 have x4:=HX6.out.cell (i:=4) (v:=.int .u64 (x.p.deliv:Int)) rfl
 have x5:=HX6.out.cell (i:=5) (v:=.int .u64 (x.p.at_:Int)) rfl
 have x6:=HX6.out.cell (i:=6) (v:=.bool x.p.lim) rfl
 have x7:=HX6.out.cell (i:=7) (v:=.int .u64 (x.due:Int)) rfl
 have r0:=HB6.out.cell (i:=0) (v:=.int .u64 0) rfl
 have fr0:=HB6.out.free 0
 have r1:=HB6.out.cell (i:=1) (v:=.int .u64 0) rfl
 have fr1:=HB6.out.free 1
 have r2:=HB6.out.cell (i:=2) (v:=.int .u64 0) rfl
 have fr2:=HB6.out.free 2
 have r3:=HB6.out.cell (i:=3) (v:=.int .u64 0) rfl
 have fr3:=HB6.out.free 3
 have r4:=HB6.out.cell (i:=4) (v:=.int .u64 0) rfl
 have fr4:=HB6.out.free 4
 have r5:=HB6.out.cell (i:=5) (v:=.int .u64 0) rfl
 have fr5:=HB6.out.free 5
 have r6:=HB6.out.cell (i:=6) (v:=.bool false) rfl
 have fr6:=HB6.out.free 6
 have r7:=HB6.out.cell (i:=7) (v:=.int .u64 0) rfl
 have fr7:=HB6.out.free 7
 go_wp2_with fail
 have F1:=Blk.whole (Itm.cs x) HB6.out rfl
 refine bodyPost_ret (results_cell_tmp rfl _ _ w.heap.size 110 _ _ rfl F1 Try.underlying110 rfl (by kernel_rfl)) rfl ⟨rfl,⟨g',⟨?_,?_⟩,?_⟩,?_⟩
 ·exact Blk.sets_other (Ne.symm HZb.out) (Itm.cs x) 0 w5 HR6.out.head
 ·exact Blk.sets_other (by have:=HG6.out;have:=HZg.out;omega) (Itm.cs x) 0 w5 HR6.out.body
 ·have:=HG6.out;omega
 ·exact Mv.sets (.inr (.inr (Nat.le_refl _))) (Itm.cs x) 0 w5 HM6.out
end Go.Proofs.Ytaffjfajjpgjpaa

set_option linter.unusedVariables false
namespace Go.Proofs.Ytaffjfajjpgjpaa
open Go.RowKit
structure JpNew (w:World) (s:QS Jp) (e:Ending) (w':World):Prop where
 at_:∃b g,e=.returned (.pointer (some ⟨b,0,none⟩))∧JpAt w' b g s∧w.heap.size≤b∧w.heap.size≤g
 bel:Below w.heap.size w w'
set_option maxRecDepth 100000 in
set_option maxHeartbeats 1000000 in
theorem jp_New (v:Option Addr) (cap:Nat) (l:List Jp) (w:World) (h:Its w v l) (hn:l.length≤100000):
  Calls Try.prog 43 #[.slice v l.length cap] w (JpNew w ⟨l,0,l.length⟩):=by
 have HH:=Lib.hid h
 have hmk:=jp_mk l.length hn
 have hsz:(Try.prog.info? 110).map (·.size)=some 8:=by kernel_rfl
 clear h
 have HB:Hid (Below w.heap.size w (w.alloc (.cells (icells (List.replicate l.length (Itm.z (α:=Jp)))) 110))):=Lib.hid ((Below.refl _ _).alloc (Nat.le_refl _) _)
 have HBk:Hid (Blk (w.alloc (.cells (icells (List.replicate l.length (Itm.z (α:=Jp)))) 110)) w.heap.size 110 (icells (List.replicate l.length (Itm.z (α:=Jp))))):=Lib.hid (Blk.new _ _ _)
 have HNc:=Lib.hid (HH.out.keep HB.out)
 have HC1:Hid ((l.flatMap (Itm.cs (α:=Jp))).length=l.length * 8):=Lib.hid (icells_len l)
 have HC2:Hid ((icells (List.replicate l.length (Itm.z (α:=Jp)))).size=l.length * 8):=Lib.hid (by rw [icells_size,List.length_replicate];rfl)
 go_enter Try.func43,Try.ntmps43
 go_wp2_with ((refine wpList_copy_items rfl (.tmp 7) (.tmp 8) 124 124 rfl 110 Try.underlying124 8 (by decide) hsz l.length v l.length cap w.heap.size rfl rfl (icells (List.replicate l.length (Itm.z (α:=Jp)))) 110 HBk.out (l.flatMap (Itm.cs (α:=Jp))) HC1.out HC2.out (fun hp=>(HNc.out).cells hp) (one_items l) w.heap.size w HB.out (Nat.le_refl _) ?_);intro w2 h2 hb2)
 have HW:=Lib.hid hb2
 have H2:Hid (Blk w2 w.heap.size 110 (icells l)):=h2
 clear h2 hb2 hmk
 go_wp2_with fail
 go_ret
 refine ⟨⟨w2.heap.size,w.heap.size,rfl,⟨?_,?_⟩,HW.out.size,Nat.le_refl _⟩,HW.out.alloc HW.out.size _⟩
 ·exact Blk.new _ _ _
 ·exact H2.out.alloc _
end Go.Proofs.Ytaffjfajjpgjpaa

set_option linter.unusedVariables false
namespace Go.Proofs.Ytaffjfajjpgjpaa
open Go.RowKit
def JpRow (w:World) (b g:Nat) (l:List Jp):Prop:=∃q:QS Jp,q.ok∧q.items=l∧JpAt w b g q
set_option maxRecDepth 100000 in
theorem JpRow.keep {w w':World} {b g:Nat} {l:List Jp} (h:JpRow w b g l) (k:Below w.heap.size w w'):JpRow w' b g l:=by obtain ⟨q,h1,h2,h3⟩:=h;exact ⟨q,h1,h2,h3.keep k⟩
set_option maxRecDepth 100000 in
theorem JpRow.drawn {w w':World} {b g:Nat} {l:List Jp} (h:JpRow w b g l) (k:Drawn w w'):JpRow w' b g l:=h.keep (k.below _)
set_option maxRecDepth 100000 in
theorem JpRow.alloc {w:World} {b g:Nat} {l:List Jp} (h:JpRow w b g l) (o:Obj):JpRow (w.alloc o) b g l:=h.keep ((Below.refl _ _).alloc (Nat.le_refl _) _)
set_option maxRecDepth 100000 in
theorem JpRow.fr {w w':World} {b g:Nat} {l:List Jp} {L:List Nat} (h:JpRow w b g l) (k:Fr w w' L) (h1:b ∉ L) (h2:g ∉ L):JpRow w' b g l:=by obtain ⟨q,a,c,d⟩:=h;exact ⟨q,a,c,⟨d.head.fr k h1,d.body.fr k h2⟩⟩
set_option maxRecDepth 100000 in
theorem JpRow.set_other {w:World} {b g c i:Nat} {u:Value} {l:List Jp} (h:JpRow w b g l) (h1:b≠c) (h2:g≠c):JpRow (w.setCell ⟨c,i,none⟩ u) b g l:=by obtain ⟨q,a,d,e⟩:=h;exact ⟨q,a,d,⟨e.head.set_other i u h1,e.body.set_other i u h2⟩⟩
set_option maxRecDepth 100000 in
theorem JpRow.ne {w:World} {b g:Nat} {l:List Jp} (h:JpRow w b g l):b≠g:=by obtain ⟨q,_,_,h3⟩:=h;exact h3.ne
set_option maxRecDepth 100000 in
theorem JpRow.lt {w:World} {b g:Nat} {l:List Jp} (h:JpRow w b g l):b < w.heap.size∧g < w.heap.size:=by obtain ⟨q,_,_,h3⟩:=h;exact ⟨h3.head.lt,h3.body.lt⟩
set_option maxRecDepth 100000 in
theorem JpRow.len {w:World} {b g:Nat} {l:List Jp} (h:JpRow w b g l):l.length≤100000:=by obtain ⟨q,h1,h2,h3⟩:=h;rw [← h2,QS.len_items];exact Nat.le_trans h1.c h1.m
set_option maxRecDepth 100000 in
theorem JpRow.head {w:World} {b g:Nat} {l:List Jp} (h:JpRow w b g l):∃cs,Blk w b 126 cs:=by obtain ⟨q,_,_,h3⟩:=h;exact ⟨_,h3.head⟩
set_option maxRecDepth 100000 in
theorem JpRow.body {w:World} {b g:Nat} {l:List Jp} (h:JpRow w b g l):∃cs,Blk w g 110 cs:=by obtain ⟨q,_,_,h3⟩:=h;exact ⟨_,h3.body⟩
structure JpRPost (w:World) (b g:Nat) (v:Ending) (l:List Jp) (e:Ending) (w':World):Prop where
 e:e=v
 at_:∃g',JpRow w' b g' l∧(g'=g∨w.heap.size≤g')
 mv:Fr w w' [b,g]
set_option maxRecDepth 100000 in
theorem JpPost.row {w w':World} {b g:Nat} {v:Ending} {s:QS Jp} {l:List Jp} {e:Ending} (h:JpPost w b g v s e w') (ho:s.ok) (hl:s.items=l):JpRPost w b g v l e w':=by
 obtain ⟨h1,⟨g',h2,h3⟩,h4⟩:=h
 exact ⟨h1,⟨g',⟨s,ho,hl,h2⟩,h3⟩,Fr.of_mv h4⟩
set_option maxRecDepth 100000 in
theorem jp_at (b g i:Nat) (l:List Jp) (w:World) (h:JpRow w b g l) (hi:i < l.length):
  Calls Try.prog 64 #[.pointer (some ⟨b,0,none⟩),.int .i64 (i:Int)] w fun e w'=>e=jpgot (l.getD i Itm.z) true∧Below w.heap.size w w':=by
 obtain ⟨q,h1,rfl,h3⟩:=h
 rw [QS.len_items] at hi
 rw [QS.get_item hi]
 exact jp_At b g i q w h3 h1 hi
set_option maxRecDepth 100000 in
theorem jp_at_out (b g:Nat) (i:Int) (l:List Jp) (w:World) (h:JpRow w b g l) (hi:i < 0∨(l.length:Int)≤i):
  Calls Try.prog 64 #[.pointer (some ⟨b,0,none⟩),.int .i64 i] w fun e w'=>e=jpgot Itm.z false∧Below w.heap.size w w':=by
 obtain ⟨q,h1,rfl,h3⟩:=h
 rw [QS.len_items] at hi
 exact jp_At_out b g i q w h3 hi
set_option maxRecDepth 100000 in
theorem jp_push (b g:Nat) (x:Jp) (l:List Jp) (w:World) (h:JpRow w b g l) (hl:l.length≤5000):
  Calls Try.prog 70 #[.pointer (some ⟨b,0,none⟩),x.agg] w (JpRPost w b g (.returned (.tuple #[])) (l ++ [x])):=by
 obtain ⟨q,h1,rfl,h3⟩:=h
 rw [QS.len_items] at hl
 exact (jp_Push b g x q w h3 h1 hl).mono fun e w' hp=>hp.row (QS.push_ok h1 hl x) (QS.push_items h1 x)
set_option maxRecDepth 100000 in
theorem jp_shift (b g:Nat) (x:Jp) (l:List Jp) (w:World) (h:JpRow w b g (x :: l)):
  Calls Try.prog 82 #[.pointer (some ⟨b,0,none⟩)] w (JpRPost w b g (jpgot x true) l):=by
 obtain ⟨q,h1,h2,h3⟩:=h
 have hc:0 < q.cnt:=by rw [← QS.len_items,h2];simp
 have e:q.get 0=x:=by rw [← QS.get_item hc,h2];rfl
 have:=(jp_Shift b g q w h3 h1 hc).mono fun e w' hp=>hp.row (QS.shift_ok h1 hc) (QS.shift_items h1 hc)
 rw [e,h2] at this
 exact this
structure JpMade (w:World) (l:List Jp) (e:Ending) (w':World):Prop where
 at_:∃b g,e=.returned (.pointer (some ⟨b,0,none⟩))∧JpRow w' b g l∧w.heap.size≤b∧w.heap.size≤g
 bel:Below w.heap.size w w'
set_option maxRecDepth 100000 in
theorem jp_new (v:Option Addr) (cap:Nat) (l:List Jp) (w:World) (h:Its w v l) (hn:l.length≤100000):
  Calls Try.prog 43 #[.slice v l.length cap] w (JpMade w l):=
 (jp_New v cap l w h hn).mono fun e w' hp=>by
  obtain ⟨⟨b,g,h1,h2,h3,h4⟩,h5⟩:=hp
  exact ⟨⟨b,g,h1,⟨_,QS.new_ok hn,QS.new_items l,h2⟩,h3,h4⟩,h5⟩
end Go.Proofs.Ytaffjfajjpgjpaa
