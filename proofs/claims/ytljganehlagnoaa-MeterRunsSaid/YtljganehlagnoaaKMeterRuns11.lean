/- 3 texts put together: what each one says stands ahead of it. -/
import Derived.Test.YtljganehlagnoaaKMeterRuns08
import Derived.Test.YtljganehlagnoaaKMeterRuns10
import Derived.Test.YtljganehlagnoaaKMeterRuns05
set_option linter.unusedVariables false
namespace Go.Proofs.Ytljganehlagnoaa
open Go.RowKit
end Go.Proofs.Ytljganehlagnoaa

set_option linter.unusedVariables false
namespace Go.Proofs.Ytljganehlagnoaa
open Go.RowKit
set_option maxRecDepth 100000 in
set_option maxHeartbeats 2000000 in
theorem dr_Run (room:Nat) (l:List Tn) (ao:Option Addr) (cap:Nat) (W:World) (hi:Its W ao l) (hl:l.length≤200) (hb:∀t∈l,t.le 18446744073709551615):
  Calls Try.prog 9 #[.int .u64 (room:Int),.slice ao l.length cap] W fun e w'=>∃v,e=.returned (.tuple #[v,.int .i64 (runE room l)])∧SOwn 55 W.heap.size w' v (runR room l)∧Below W.heap.size W w':=by
 have dl:decide ((65536:Int) < (l.length:Int))=false:=decide_eq_false (by omega)
 by_cases hr:room≤72057594037927936
 case neg=>
  have HE:Hid (runR room l=[]∧runE room l=1):=Lib.hid (by unfold runR runE;rw [fitR_room hr];exact ⟨rfl,rfl⟩)
  have dr:decide ((72057594037927936:Int) < (room:Int))=true:=decide_eq_true (by omega)
  clear hr
  go_enter Try.func9,Try.ntmps9
  go_wp2_with fail
  go_ret2
  exact ⟨.slice none 0 0,by rw [HE.out.2];rfl,by rw [HE.out.1];exact SOwn.nil _ _ _,Below.refl _ _⟩
 have dr:decide ((72057594037927936:Int) < (room:Int))=false:=decide_eq_false (by omega)
 have HN:Hid (RunI 55 W W.heap.size room l 0 (.slice none 0 0) (W.alloc (.cells #[.int .u64 0,.int .u64 0,.int .u64 0,.int .u64 0,.int .u64 0] 55))):=Lib.hid ⟨SOwn.nil _ _ _,Blk.new W _ _,(fun g e=>by cases e),al_be _ _,Nat.le_refl _,(fun t ht=>by simp at ht)⟩
 have HI:=Lib.hid hi
 have HB:=Lib.hid hb
 have HRm:=Lib.hid hr
 obtain ⟨i0,hi0,hz0,hz1,hz2⟩:=info_parts drow_info
 have HIi:=Lib.hid hi0
 have HZ0:=Lib.hid hz0
 have HZ1:=Lib.hid hz1
 have HZ2:=Lib.hid hz2
 clear hi hb hr hi0 hz0 hz1 hz2
 go_enter Try.func9,Try.ntmps9
 go_wp2_with fail
 go_loopw [10,6,8,9] (fun i v qv tv wr=>∃k:Nat,i=.int .i64 (k:Int)∧k≤l.length∧qv=.int .u64 (((lastR room Rw.z (l.take k)).q:Nat):Int)∧tv=.int .u64 (((lastR room Rw.z (l.take k)).t:Nat):Int)∧Hid (RunI 55 W W.heap.size room l k v wr)) (fun i _ _ _ _=>l.length - (intOf i).toNat)
 case atStart=>exact ⟨0,rfl,Nat.zero_le _,rfl,rfl,HN⟩
 case round=>
  obtain ⟨k,rfl,hk,rfl,rfl,H⟩:=hrel
  clear HN
  by_cases hlt:k < l.length
  ·obtain ⟨b,off,rfl,hbl,hc⟩:=its_tn HI.out (by omega)
   obtain ⟨x,hx⟩:∃x,x=l.getD k Itm.z:=⟨_,rfl⟩
   obtain ⟨c0,c1,c2⟩:=hc k hlt x hx
   have a0:∀w,Hid (RunI 55 W W.heap.size room l k u6 w)→w.cell? ⟨b,off + k * 3,none⟩=some (.int .u64 (x.g:Int)):=fun w h=>(h.out.bel.cell (p:=⟨b,_,none⟩) hbl).trans c0
   have a1:∀w,Hid (RunI 55 W W.heap.size room l k u6 w)→w.cell? ⟨b,off + k * 3 + 1,none⟩=some (.int .u64 (x.c:Int)):=fun w h=>(h.out.bel.cell (p:=⟨b,_,none⟩) hbl).trans c1
   have a2:∀w,Hid (RunI 55 W W.heap.size room l k u6 w)→w.cell? ⟨b,off + k * 3 + 2,none⟩=some (.int .u64 (x.w:Int)):=fun w h=>(h.out.bel.cell (p:=⟨b,_,none⟩) hbl).trans c2
   have b0:=a0 _ H
   have b1:=a1 _ H
   have b2:=a2 _ H
   have HX:=Lib.hid hx
   have HL:=Lib.hid hlt
   have i0':(0:Int)≤(k:Int):=by omega
   have i1:(k:Int) < (l.length:Int):=by omega
   clear hc hx c0 c1 c2 hbl
   by_cases h0:1099511627776 < x.g
   ·have HNf:Hid (x.fit=false):=Lib.hid (by unfold Tn.fit;rw [decide_eq_false (by omega)];rfl)
    have d0:decide ((1099511627776:Int) < (x.g:Int))=true:=decide_eq_true (by omega)
    clear h0 a0 a1 a2
    have HE:Hid (runR room l=[]∧runE room l=1):=Lib.hid (by unfold runR runE;rw [fitR_not (mem_getD HL.out HX.out) HNf.out];exact ⟨rfl,rfl⟩)
    go_wp2_with fail
    go_ret2
    exact ⟨.slice none 0 0,by rw [HE.out.2];rfl,by rw [HE.out.1];exact SOwn.nil _ _ _,H.out.bel⟩
   have d0:decide ((1099511627776:Int) < (x.g:Int))=false:=decide_eq_false (by omega)
   by_cases h1:1099511627776 < x.c
   ·have HNf:Hid (x.fit=false):=Lib.hid (by unfold Tn.fit;rw [decide_eq_false (show ¬ x.c≤1099511627776 by omega),Bool.and_false];rfl)
    have d1:decide ((1099511627776:Int) < (x.c:Int))=true:=decide_eq_true (by omega)
    clear h0 h1 a0 a1 a2
    have HE:Hid (runR room l=[]∧runE room l=1):=Lib.hid (by unfold runR runE;rw [fitR_not (mem_getD HL.out HX.out) HNf.out];exact ⟨rfl,rfl⟩)
    go_wp2_with fail
    go_ret2
    exact ⟨.slice none 0 0,by rw [HE.out.2];rfl,by rw [HE.out.1];exact SOwn.nil _ _ _,H.out.bel⟩
   have d1:decide ((1099511627776:Int) < (x.c:Int))=false:=decide_eq_false (by omega)
   by_cases h2:1099511627776 < x.w
   ·have HNf:Hid (x.fit=false):=Lib.hid (by unfold Tn.fit;rw [decide_eq_false (show ¬ x.w≤1099511627776 by omega),Bool.and_false])
    have d2:decide ((1099511627776:Int) < (x.w:Int))=true:=decide_eq_true (by omega)
    clear h0 h1 h2 a0 a1 a2
    have HE:Hid (runR room l=[]∧runE room l=1):=Lib.hid (by unfold runR runE;rw [fitR_not (mem_getD HL.out HX.out) HNf.out];exact ⟨rfl,rfl⟩)
    go_wp2_with fail
    go_ret2
    exact ⟨.slice none 0 0,by rw [HE.out.2];rfl,by rw [HE.out.1];exact SOwn.nil _ _ _,H.out.bel⟩
   have d2:decide ((1099511627776:Int) < (x.w:Int))=false:=decide_eq_false (by omega)
   have HXm:Hid (x.le 1099511627776):=Lib.hid ⟨by omega,by omega,by omega⟩
   have HFt:=Lib.hid ((Tn.fit_iff x).2 HXm.out)
   have HOk:=Lib.hid (lastR_ok room (l.take k) _ (Rw.z_ok room))
   have HLe:=Lib.hid (row_le (room:=room) (show k≤200 by omega) H.out.fit)
   obtain ⟨q0,q1,q2,q3,q4⟩:(∀w,Hid (RunI 55 W W.heap.size room l k u6 w)→w.cell? ⟨W.heap.size,0,none⟩=some (.int .u64 (((lastR room Rw.z (l.take k)).g:Nat):Int)))∧(∀w,Hid (RunI 55 W W.heap.size room l k u6 w)→w.cell? ⟨W.heap.size,1,none⟩=some (.int .u64 (((lastR room Rw.z (l.take k)).c:Nat):Int)))∧(∀w,Hid (RunI 55 W W.heap.size room l k u6 w)→w.cell? ⟨W.heap.size,2,none⟩=some (.int .u64 (((lastR room Rw.z (l.take k)).d:Nat):Int)))∧(∀w,Hid (RunI 55 W W.heap.size room l k u6 w)→w.cell? ⟨W.heap.size,3,none⟩=some (.int .u64 (((lastR room Rw.z (l.take k)).s:Nat):Int)))∧(∀w,Hid (RunI 55 W W.heap.size room l k u6 w)→w.cell? ⟨W.heap.size,4,none⟩=some (.int .u64 (((lastR room Rw.z (l.take k)).w:Nat):Int))):=
    ⟨fun w h=>h.out.at_.cell rfl,fun w h=>h.out.at_.cell rfl,fun w h=>h.out.at_.cell rfl,fun w h=>h.out.at_.cell rfl,fun w h=>h.out.at_.cell rfl⟩
   generalize hr0:lastR room Rw.z (l.take k)=r0 at *
   obtain ⟨e0,e1,e2,e3,e4⟩:=Rw.behind_mk room r0 x
   obtain ⟨kp,hkp⟩:∃n,n=keptR room r0 x:=⟨_,rfl⟩
   obtain ⟨sv,hsv⟩:∃n,n=servR room r0 x:=⟨_,rfl⟩
   obtain ⟨wv,hwv⟩:∃n,n=wastR room r0 x:=⟨_,rfl⟩
   have hk':kp=min x.c (room - r0.q):=hkp
   have hs':sv=min (r0.q + kp) (r0.t + x.g):=by rw [hsv,hkp];rfl
   have hw':wv=if r0.q + kp - sv=0 then min x.w (r0.t + x.g - sv) else 0:=by rw [hwv,hkp,hsv];rfl
   have HQ2:=Lib.hid (HOk.out.behind x)
   rw [← hkp] at e2
   rw [← hsv] at e3
   rw [← hwv] at e4
   clear hkp hsv hwv
   have HQl:Hid (r0.q≤room∧r0.q≤1125899906842624∧r0.t≤1125899906842624):=Lib.hid (by
    have:=HOk.out.q2;have:=HOk.out.q1
    have h2:=HLe.out
    unfold Rw.le at h2
    unfold Rw.q Rw.t;omega)
   obtain ⟨t1,ht1⟩:∃n,n=r0.t + x.g:=⟨_,rfl⟩
   obtain ⟨rq,hrq⟩:∃n,n=room - r0.q:=⟨_,rfl⟩
   obtain ⟨q1',hq1⟩:∃n,n=r0.q + kp:=⟨_,rfl⟩
   obtain ⟨q2',hq2⟩:∃n,n=q1' - sv:=⟨_,rfl⟩
   obtain ⟨t2',ht2⟩:∃n,n=t1 - sv:=⟨_,rfl⟩
   obtain ⟨t3',ht3⟩:∃n,n=t2' - wv:=⟨_,rfl⟩
   obtain ⟨m1,hm1⟩:∃n,n=r0.d + x.c:=⟨_,rfl⟩
   have hQl:=HQl.out
   have hXm:=HXm.out
   have hLe:=HLe.out
   unfold Rw.le at hLe
   unfold Tn.le at hXm
   have hq2':=HQ2.out
   generalize hr1:Rw.behind room r0 x=r1 at *
   have HQ3:Hid (r1.q=q2'∧r1.t=t3'):=Lib.hid (by
    have k1:=hq2'.q1;have k2:=hq2'.t1
    have o1:=HOk.out.q1;have o2:=HOk.out.t1
    have f1:r0.q=r0.c - r0.d - r0.s:=rfl
    have f2:r0.t=r0.g - r0.s - r0.w:=rfl
    unfold Rw.q Rw.t at *
    rw [e0,e1,e2,e3,e4] at *
    split at hw' <;> omega)
   have HWv:Hid ((q2'=0→wv=min x.w t2')∧(q2'≠0→wv=0)):=Lib.hid ⟨fun h=>by rw [if_pos (by omega)] at hw';omega,fun h=>by rw [if_neg (by omega)] at hw';exact hw'⟩
   have f1:(r0.t:Int) + (x.g:Int)=(t1:Int):=by omega
   have f2:IntKind.u64.wrap (t1:Int)=(t1:Int):=by rw [IntKind.wrap_u64];omega
   have f3:(room:Int) - (r0.q:Int)=(rq:Int):=by omega
   have HRm2:=HRm.out
   have f4:IntKind.u64.wrap (rq:Int)=(rq:Int):=by rw [IntKind.wrap_u64];omega
   have f5:(if rq < x.c then (rq:Int) else (x.c:Int))=(kp:Int):=by split <;> omega
   have f6:(r0.q:Int) + (kp:Int)=(q1':Int):=by omega
   have f7:IntKind.u64.wrap (q1':Int)=(q1':Int):=by rw [IntKind.wrap_u64];omega
   have f8:(if t1 < q1' then (t1:Int) else (q1':Int))=(sv:Int):=by split <;> omega
   have f9:(q1':Int) - (sv:Int)=(q2':Int):=by omega
   have f10:IntKind.u64.wrap (q2':Int)=(q2':Int):=by rw [IntKind.wrap_u64];omega
   have f11:(t1:Int) - (sv:Int)=(t2':Int):=by omega
   have f12:IntKind.u64.wrap (t2':Int)=(t2':Int):=by rw [IntKind.wrap_u64];omega
   have hwl:wv≤t2':=by split at hw' <;> omega
   have f13:(t2':Int) - (wv:Int)=(t3':Int):=by omega
   have f14:IntKind.u64.wrap (t3':Int)=(t3':Int):=by rw [IntKind.wrap_u64];omega
   have f15:(r0.g:Int) + (x.g:Int)=(r1.g:Int):=by omega
   have f16:IntKind.u64.wrap (r1.g:Int)=(r1.g:Int):=by rw [IntKind.wrap_u64];omega
   have f17:(r0.c:Int) + (x.c:Int)=(r1.c:Int):=by omega
   have f18:IntKind.u64.wrap (r1.c:Int)=(r1.c:Int):=by rw [IntKind.wrap_u64];omega
   have f19:(r0.d:Int) + (x.c:Int)=(m1:Int):=by omega
   have f20:IntKind.u64.wrap (m1:Int)=(m1:Int):=by rw [IntKind.wrap_u64];omega
   have f21:(m1:Int) - (kp:Int)=(r1.d:Int):=by omega
   have f22:IntKind.u64.wrap (r1.d:Int)=(r1.d:Int):=by rw [IntKind.wrap_u64];omega
   have f23:(r0.s:Int) + (sv:Int)=(r1.s:Int):=by omega
   have f24:IntKind.u64.wrap (r1.s:Int)=(r1.s:Int):=by rw [IntKind.wrap_u64];omega
   have f25:(r0.w:Int) + (wv:Int)=(r1.w:Int):=by omega
   have f26:IntKind.u64.wrap (r1.w:Int)=(r1.w:Int):=by rw [IntKind.wrap_u64];omega
   have HG:Hid (r1=Rw.behind room (lastR room Rw.z (l.take k)) x):=Lib.hid (by rw [hr0,hr1])
   have M0:Hid (RunI 55 W W.heap.size room l k u6 wr.drew):=Lib.hid (H.out.to ((Drawn.drew _).below _))
   clear e0 e1 e2 e3 e4 hk' hs' hw' ht1 hrq hq1 hq2 ht2 ht3 hm1 hQl hXm hLe hq2' HRm2 hwl h0 h1 h2
   by_cases hz:q2'=0
   ·have f27:(if t2' < x.w then (t2':Int) else (x.w:Int))=(wv:Int):=by have:=HWv.out.1 hz;split <;> omega
    have dz:((q2':Int) == 0)=true:=by rw [hz];rfl
    clear hz HWv
    go_wp2_with fail
    refine wp_region_chain (S:=(fun w'=>Hid (RunI 55 W W.heap.size room l k u6 w'))) 35 (by kernel_rfl) (by kernel_rfl) (by kernel_rfl) M0 ?_
    generalize wr.drew=wd at *
    simp only [List.size_toArray,List.length_cons,List.length_nil,Nat.reduceAdd,Array.replicate_succ,Array.replicate_zero,List.push_toArray,List.nil_append,List.cons_append]
    refine Chain.take (i:=0) (oi:=⟨some 90,_,_,_,_,_⟩) (v:=?v1) rfl (by kernel_rfl) (by kernel_rfl) (Or.inl ⟨by rfl,?y1⟩) ?rest1
    case y1=>intro w hSw;clear hSw;go_simp;(try with_reducible rfl)
    simp only [Act.put,List.setIfInBounds_toArray,List.set_cons_zero,List.set_cons_succ]
    refine Chain.take (i:=1) (oi:=⟨some 91,_,_,_,_,_⟩) (v:=?v2) rfl (by kernel_rfl) (by kernel_rfl) (Or.inl ⟨by rfl,?y2⟩) ?rest2
    case y2=>intro w hSw;go_simp;(try with_reducible rfl)
    simp only [Act.put,List.setIfInBounds_toArray,List.set_cons_zero,List.set_cons_succ]
    refine Chain.take (i:=2) (oi:=⟨some 92,_,_,_,_,_⟩) (v:=?v3) rfl (by kernel_rfl) (by kernel_rfl) (Or.inl ⟨by rfl,?y3⟩) ?rest3
    case y3=>intro w hSw;clear hSw;go_simp;(try with_reducible rfl)
    simp only [Act.put,List.setIfInBounds_toArray,List.set_cons_zero,List.set_cons_succ]
    refine Chain.take (i:=3) (oi:=⟨some 93,_,_,_,_,_⟩) (v:=?v4) rfl (by kernel_rfl) (by kernel_rfl) (Or.inl ⟨by rfl,?y4⟩) ?rest4
    case y4=>intro w hSw;clear hSw;go_simp;(try with_reducible rfl)
    simp only [Act.put,List.setIfInBounds_toArray,List.set_cons_zero,List.set_cons_succ]
    refine Chain.take (i:=4) (oi:=⟨some 94,_,_,_,_,_⟩) (v:=?v5) rfl (by kernel_rfl) (by kernel_rfl) (Or.inl ⟨by rfl,?y5⟩) ?rest5
    case y5=>intro w hSw;clear hSw;go_simp;(try with_reducible rfl)
    simp only [Act.put,List.setIfInBounds_toArray,List.set_cons_zero,List.set_cons_succ]
    refine Chain.take (i:=5) (oi:=⟨some 95,_,_,_,_,_⟩) (v:=?v6) rfl (by kernel_rfl) (by kernel_rfl) (Or.inl ⟨by rfl,?y6⟩) ?rest6
    case y6=>intro w hSw;clear hSw;go_simp;(try with_reducible rfl)
    simp only [Act.put,List.setIfInBounds_toArray,List.set_cons_zero,List.set_cons_succ]
    refine Chain.take (i:=6) (oi:=⟨some 96,_,_,_,_,_⟩) (v:=?v7) rfl (by kernel_rfl) (by kernel_rfl) (Or.inl ⟨by rfl,?y7⟩) ?rest7
    case y7=>intro w hSw;go_simp;(try with_reducible rfl)
    simp only [Act.put,List.setIfInBounds_toArray,List.set_cons_zero,List.set_cons_succ]
    refine Chain.take (i:=7) (oi:=⟨some 97,_,_,_,_,_⟩) (v:=?v8) rfl (by kernel_rfl) (by kernel_rfl) (Or.inl ⟨by rfl,?y8⟩) ?rest8
    case y8=>intro w hSw;clear hSw;go_simp;(try with_reducible rfl)
    simp only [Act.put,List.setIfInBounds_toArray,List.set_cons_zero,List.set_cons_succ]
    refine Chain.take (i:=8) (oi:=⟨some 98,_,_,_,_,_⟩) (v:=?v9) rfl (by kernel_rfl) (by kernel_rfl) (Or.inl ⟨by rfl,?y9⟩) ?rest9
    case y9=>intro w hSw;clear hSw;go_simp;(try with_reducible rfl)
    simp only [Act.put,List.setIfInBounds_toArray,List.set_cons_zero,List.set_cons_succ]
    refine Chain.take (i:=9) (oi:=⟨some 99,_,_,_,_,_⟩) (v:=?v10) rfl (by kernel_rfl) (by kernel_rfl) (Or.inl ⟨by rfl,?y10⟩) ?rest10
    case y10=>intro w hSw;go_simp;(try with_reducible rfl)
    simp only [Act.put,List.setIfInBounds_toArray,List.set_cons_zero,List.set_cons_succ]
    refine Chain.take (i:=10) (oi:=⟨some 100,_,_,_,_,_⟩) (v:=?v11) rfl (by kernel_rfl) (by kernel_rfl) (Or.inl ⟨by rfl,?y11⟩) ?rest11
    case y11=>intro w hSw;clear hSw;go_simp;(try with_reducible rfl)
    simp only [Act.put,List.setIfInBounds_toArray,List.set_cons_zero,List.set_cons_succ]
    refine Chain.take (i:=11) (oi:=⟨some 101,_,_,_,_,_⟩) (v:=?v12) rfl (by kernel_rfl) (by kernel_rfl) (Or.inl ⟨by rfl,?y12⟩) ?rest12
    case y12=>intro w hSw;clear hSw;go_simp;(try with_reducible rfl)
    simp only [Act.put,List.setIfInBounds_toArray,List.set_cons_zero,List.set_cons_succ]
    refine Chain.take (i:=12) (oi:=⟨some 102,_,_,_,_,_⟩) (v:=?v13) rfl (by kernel_rfl) (by kernel_rfl) (Or.inl ⟨by rfl,?y13⟩) ?rest13
    case y13=>intro w hSw;clear hSw;go_simp;(try with_reducible rfl)
    simp only [Act.put,List.setIfInBounds_toArray,List.set_cons_zero,List.set_cons_succ]
    refine Chain.take (i:=13) (oi:=⟨some 103,_,_,_,_,_⟩) (v:=?v14) rfl (by kernel_rfl) (by kernel_rfl) (Or.inl ⟨by rfl,?y14⟩) ?rest14
    case y14=>intro w hSw;clear hSw;go_simp;(try with_reducible rfl)
    simp only [Act.put,List.setIfInBounds_toArray,List.set_cons_zero,List.set_cons_succ]
    refine Chain.take (i:=14) (oi:=⟨some 104,_,_,_,_,_⟩) (v:=?v15) rfl (by kernel_rfl) (by kernel_rfl) (Or.inl ⟨by rfl,?y15⟩) ?rest15
    case y15=>intro w hSw;go_simp;(try with_reducible rfl)
    simp only [Act.put,List.setIfInBounds_toArray,List.set_cons_zero,List.set_cons_succ]
    refine Chain.take (i:=15) (oi:=⟨some 105,_,_,_,_,_⟩) (v:=?v16) rfl (by kernel_rfl) (by kernel_rfl) (Or.inl ⟨by rfl,?y16⟩) ?rest16
    case y16=>intro w hSw;clear hSw;go_simp;(try with_reducible rfl)
    simp only [Act.put,List.setIfInBounds_toArray,List.set_cons_zero,List.set_cons_succ]
    refine Chain.take (i:=16) (oi:=⟨some 106,_,_,_,_,_⟩) (v:=?v17) rfl (by kernel_rfl) (by kernel_rfl) (Or.inl ⟨by rfl,?y17⟩) ?rest17
    case y17=>intro w hSw;clear hSw;go_simp;(try with_reducible rfl)
    simp only [Act.put,List.setIfInBounds_toArray,List.set_cons_zero,List.set_cons_succ]
    refine Chain.take (i:=17) (oi:=⟨some 107,_,_,_,_,_⟩) (v:=?v18) rfl (by kernel_rfl) (by kernel_rfl) (Or.inl ⟨by rfl,?y18⟩) ?rest18
    case y18=>intro w hSw;go_simp;(try with_reducible rfl)
    simp only [Act.put,List.setIfInBounds_toArray,List.set_cons_zero,List.set_cons_succ]
    refine Chain.take (i:=18) (oi:=⟨some 108,_,_,_,_,_⟩) (v:=?v19) rfl (by kernel_rfl) (by kernel_rfl) (Or.inl ⟨by rfl,?y19⟩) ?rest19
    case y19=>intro w hSw;clear hSw;go_simp;(try with_reducible rfl)
    simp only [Act.put,List.setIfInBounds_toArray,List.set_cons_zero,List.set_cons_succ]
    refine Chain.take (i:=19) (oi:=⟨some 109,_,_,_,_,_⟩) (v:=?v20) rfl (by kernel_rfl) (by kernel_rfl) (Or.inl ⟨by rfl,?y20⟩) ?rest20
    case y20=>intro w hSw;clear hSw;go_simp;(try with_reducible rfl)
    simp only [Act.put,List.setIfInBounds_toArray,List.set_cons_zero,List.set_cons_succ]
    refine Chain.take (i:=20) (oi:=⟨some 110,_,_,_,_,_⟩) (v:=?v21) rfl (by kernel_rfl) (by kernel_rfl) (Or.inl ⟨by rfl,?y21⟩) ?rest21
    case y21=>intro w hSw;clear hSw;go_simp;(try with_reducible rfl)
    simp only [Act.put,List.setIfInBounds_toArray,List.set_cons_zero,List.set_cons_succ]
    refine Chain.take (i:=21) (oi:=⟨some 111,_,_,_,_,_⟩) (v:=?v22) rfl (by kernel_rfl) (by kernel_rfl) (Or.inl ⟨by rfl,?y22⟩) ?rest22
    case y22=>intro w hSw;clear hSw;go_simp;(try with_reducible rfl)
    simp only [Act.put,List.setIfInBounds_toArray,List.set_cons_zero,List.set_cons_succ]
    refine Chain.take (i:=22) (oi:=⟨some 112,_,_,_,_,_⟩) (v:=?v23) rfl (by kernel_rfl) (by kernel_rfl) (Or.inl ⟨by rfl,?y23⟩) ?rest23
    case y23=>intro w hSw;go_simp;(try with_reducible rfl)
    simp only [Act.put,List.setIfInBounds_toArray,List.set_cons_zero,List.set_cons_succ]
    refine Chain.take (i:=23) (oi:=⟨some 113,_,_,_,_,_⟩) (v:=?v24) rfl (by kernel_rfl) (by kernel_rfl) (Or.inl ⟨by rfl,?y24⟩) ?rest24
    case y24=>intro w hSw;clear hSw;go_simp;(try with_reducible rfl)
    simp only [Act.put,List.setIfInBounds_toArray,List.set_cons_zero,List.set_cons_succ]
    refine Chain.take (i:=24) (oi:=⟨some 114,_,_,_,_,_⟩) (v:=?v25) rfl (by kernel_rfl) (by kernel_rfl) (Or.inl ⟨by rfl,?y25⟩) ?rest25
    case y25=>intro w hSw;clear hSw;go_simp;(try with_reducible rfl)
    simp only [Act.put,List.setIfInBounds_toArray,List.set_cons_zero,List.set_cons_succ]
    refine Chain.take (i:=25) (oi:=⟨some 115,_,_,_,_,_⟩) (v:=?v26) rfl (by kernel_rfl) (by kernel_rfl) (Or.inl ⟨by rfl,?y26⟩) ?rest26
    case y26=>intro w hSw;clear hSw;go_simp;(try with_reducible rfl)
    simp only [Act.put,List.setIfInBounds_toArray,List.set_cons_zero,List.set_cons_succ]
    refine Chain.take (i:=26) (oi:=⟨some 116,_,_,_,_,_⟩) (v:=?v27) rfl (by kernel_rfl) (by kernel_rfl) (Or.inl ⟨by rfl,?y27⟩) ?rest27
    case y27=>intro w hSw;clear hSw;go_simp;(try with_reducible rfl)
    simp only [Act.put,List.setIfInBounds_toArray,List.set_cons_zero,List.set_cons_succ]
    refine Chain.take (i:=27) (oi:=⟨some 117,_,_,_,_,_⟩) (v:=?v28) rfl (by kernel_rfl) (by kernel_rfl) (Or.inl ⟨by rfl,?y28⟩) ?rest28
    case y28=>intro w hSw;go_simp;(try with_reducible rfl)
    simp only [Act.put,List.setIfInBounds_toArray,List.set_cons_zero,List.set_cons_succ]
    refine Chain.take (i:=28) (oi:=⟨some 118,_,_,_,_,_⟩) (v:=?v29) rfl (by kernel_rfl) (by kernel_rfl) (Or.inl ⟨by rfl,?y29⟩) ?rest29
    case y29=>intro w hSw;clear hSw;go_simp;(try with_reducible rfl)
    simp only [Act.put,List.setIfInBounds_toArray,List.set_cons_zero,List.set_cons_succ]
    refine Chain.take (i:=29) (oi:=⟨some 119,_,_,_,_,_⟩) (v:=?v30) rfl (by kernel_rfl) (by kernel_rfl) (Or.inl ⟨by rfl,?y30⟩) ?rest30
    case y30=>intro w hSw;clear hSw;go_simp;(try with_reducible rfl)
    simp only [Act.put,List.setIfInBounds_toArray,List.set_cons_zero,List.set_cons_succ]
    refine Chain.take (i:=30) (oi:=⟨some 120,_,_,_,_,_⟩) (v:=?v31) rfl (by kernel_rfl) (by kernel_rfl) (Or.inl ⟨by rfl,?y31⟩) ?rest31
    case y31=>intro w hSw;clear hSw;go_simp;(try with_reducible rfl)
    simp only [Act.put,List.setIfInBounds_toArray,List.set_cons_zero,List.set_cons_succ]
    refine Chain.take (i:=31) (oi:=⟨some 121,_,_,_,_,_⟩) (v:=?v32) rfl (by kernel_rfl) (by kernel_rfl) (Or.inl ⟨by rfl,?y32⟩) ?rest32
    case y32=>intro w hSw;go_simp;(try with_reducible rfl)
    simp only [Act.put,List.setIfInBounds_toArray,List.set_cons_zero,List.set_cons_succ]
    refine Chain.take (i:=32) (oi:=⟨some 122,_,_,_,_,_⟩) (v:=?v33) rfl (by kernel_rfl) (by kernel_rfl) (Or.inl ⟨by rfl,?y33⟩) ?rest33
    case y33=>intro w hSw;clear hSw;go_simp;(try with_reducible rfl)
    simp only [Act.put,List.setIfInBounds_toArray,List.set_cons_zero,List.set_cons_succ]
    refine Chain.take (i:=33) (oi:=⟨some 123,_,_,_,_,_⟩) (v:=?v34) rfl (by kernel_rfl) (by kernel_rfl) (Or.inl ⟨by rfl,?y34⟩) ?rest34
    case y34=>intro w hSw;clear hSw;go_simp;(try with_reducible rfl)
    simp only [Act.put,List.setIfInBounds_toArray,List.set_cons_zero,List.set_cons_succ]
    refine Chain.take (i:=34) (oi:=⟨some 124,_,_,_,_,_⟩) (v:=?v35) rfl (by kernel_rfl) (by kernel_rfl) (Or.inl ⟨by rfl,?y35⟩) ?rest35
    case y35=>intro w hSw;clear hSw;go_simp;(try with_reducible rfl)
    simp only [Act.put,List.setIfInBounds_toArray,List.set_cons_zero,List.set_cons_succ]
    refine Chain.last (by kernel_rfl) (fun w hSw=>?_)
    refine wpAnyH_ready (rs:=[35]) (by kernel_rfl) (by simp) ?_
    refine AllReadyH.cons (o:=⟨none,_,_,_,_,_⟩) rfl (fun K hK=>?_) AllReadyH.nil
    have g0:=hSw.out.at_.free 0
    have g1:=hSw.out.at_.free 1
    have g2:=hSw.out.at_.free 2
    have g3:=hSw.out.at_.free 3
    have g4:=hSw.out.at_.free 4
    have p0:=q0 _ hSw
    have p1:=q1 _ hSw
    have p2:=q2 _ hSw
    have p3:=q3 _ hSw
    have p4:=q4 _ hSw
    generalize w=w2 at *
    have HS:=Lib.hid (hSw.out.set x)
    rw [hr0,hr1] at HS
    have HJ2:Hid (RunJ 55 W W.heap.size room l k x u6 ((((((w2).setCell ⟨W.heap.size,0,none⟩ (.int .u64 (r1.g:Int))).setCell ⟨W.heap.size,1,none⟩ (.int .u64 (r1.c:Int))).setCell ⟨W.heap.size,2,none⟩ (.int .u64 (r1.d:Int))).setCell ⟨W.heap.size,3,none⟩ (.int .u64 (r1.s:Int))).setCell ⟨W.heap.size,4,none⟩ (.int .u64 (r1.w:Int)))):=HS
    clear HS hSw a0 a1 a2 q0 q1 q2 q3 q4
    go_simp
    refine hK.out _ _ trivial (fun _=>?_)
    clear hK
    try simp only [List.setIfInBounds_toArray,List.set_cons_zero,List.set_cons_succ]
    refine wpAnyH_done (by kernel_rfl) ?_ _
    skip
    clear f1 f2 f3 f4 f5 f6 f7 f8 f9 f10 f11 f12 f13 f14 f15 f16 f17 f18 f19 f20 f21 f22 f23 f24 f25 f26 f27 dz b0 b1 b2
    generalize (((((w2).setCell ⟨W.heap.size,0,none⟩ (.int .u64 (r1.g:Int))).setCell ⟨W.heap.size,1,none⟩ (.int .u64 (r1.c:Int))).setCell ⟨W.heap.size,2,none⟩ (.int .u64 (r1.d:Int))).setCell ⟨W.heap.size,3,none⟩ (.int .u64 (r1.s:Int))).setCell ⟨W.heap.size,4,none⟩ (.int .u64 (r1.w:Int))=w4 at *
    have hj0:=HJ2.out.at_
    rw [← HG.out] at hj0
    have q0:=hj0.cell (i:=0) (v:=.int .u64 (r1.g:Int)) rfl
    have q1:=hj0.cell (i:=1) (v:=.int .u64 (r1.c:Int)) rfl
    have q2:=hj0.cell (i:=2) (v:=.int .u64 (r1.d:Int)) rfl
    have q3:=hj0.cell (i:=3) (v:=.int .u64 (r1.s:Int)) rfl
    have q4:=hj0.cell (i:=4) (v:=.int .u64 (r1.w:Int)) rfl
    have HLn:Hid ((curve room Rw.z (l.take k)).length=k):=Lib.hid (by rw [curve_len,List.length_take];omega)
    obtain ⟨ap,cp,hv,hp1,hp2,_,_⟩:=HJ2.out.own.form
    rw [HLn.out] at hv hp1
    have HO2:Hid ((w4.alloc (.cells #[.int .u64 (r1.g:Int),.int .u64 (r1.c:Int),.int .u64 (r1.d:Int),.int .u64 (r1.s:Int),.int .u64 (r1.w:Int)] 55)).ownsRow W.heap.size 55 5 (.slice ap k cp) k ((curve room Rw.z (l.take k)).flatMap Itm.cs)):=Lib.hid (by
     have:=HJ2.out.own.keep (al_be w4 (.cells #[.int .u64 (r1.g:Int),.int .u64 (r1.c:Int),.int .u64 (r1.d:Int),.int .u64 (r1.s:Int),.int .u64 (r1.w:Int)] 55))
     unfold SOwn at this
     rw [HLn.out,hv] at this
     exact this)
    have HNw:=Lib.hid (World.news_of_block (Blk.new w4 55 #[.int .u64 (r1.g:Int),.int .u64 (r1.c:Int),.int .u64 (r1.d:Int),.int .u64 (r1.s:Int),.int .u64 (r1.w:Int)]))
    have HOne:=Lib.hid (Itm.one r1)
    have hsz:W.heap.size≤(w4.alloc (.cells #[.int .u64 (r1.g:Int),.int .u64 (r1.c:Int),.int .u64 (r1.d:Int),.int .u64 (r1.s:Int),.int .u64 (r1.w:Int)] 55)).heap.size:=by have:=HJ2.out.bel.size;simp;omega
    have HNx:=Lib.hid (fun (v':Value) (w5:World) h1 h2 h3=>RunJ.next (v':=v') (w5:=w5) (ob:=.cells #[.int .u64 (r1.g:Int),.int .u64 (r1.c:Int),.int .u64 (r1.d:Int),.int .u64 (r1.s:Int),.int .u64 (r1.w:Int)] 55) HJ2.out HL.out HX.out HFt.out H.out.fit h1 h2 h3)
    rw [← HG.out,hv] at HNx
    have HQn:Hid ((lastR room Rw.z (l.take (k + 1))).q=q2'∧(lastR room Rw.z (l.take (k + 1))).t=t3'):=Lib.hid (by
     rw [take_snoc' l k HL.out x HX.out,lastR_snoc,← HG.out];exact HQ3.out)
    subst hv
    clear hj0 HJ2 H p0 p1 p2 p3 p4 g0 g1 g2 g3 g4
    go_wp2_with (at_builtin;refine wpList_append_own_at _ rfl (.tmp 125) (.tmp 127) 29 rfl W.heap.size 55 _ (.agg #[.int .u64 0,.int .u64 0,.int .u64 0,.int .u64 0,.int .u64 0]) 5 40 Try.underlying29 HIi.out HZ0.out HZ1.out HZ2.out rfl (by decide) (.slice ap k cp) k ((curve room Rw.z (l.take k)).flatMap Itm.cs) rfl HO2.out ⟨w4.heap.size,0,none⟩ 1 1 (Itm.cs r1) rfl rfl HNw.out HOne.out (by unfold maxLen;omega) (by omega) hsz ?_;intro v' w5 hown hgr hnil hat;have HN5:=Lib.hid (HNx.out v' w5 hown hgr hat);clear hown hgr hnil hat)
    clear HO2 HNw HOne hsz HNx
    go_wp2_with fail
    go_roundw
    case rel=>exact ⟨k + 1,by go_num,by omega,by rw [HQn.out.1],by rw [HQn.out.2],HN5⟩
    case measure=>simp [intOf];omega
   ·have hw0:=HWv.out.2 hz
    subst hw0
    have dz:((q2':Int) == 0)=false:=by simp;omega
    have f13':(t2':Int)=(t3':Int):=by omega
    have f25':(r0.w:Int)=(r1.w:Int):=by omega
    clear hz HWv
    go_wp2_with fail
    refine wp_region_chain (S:=(fun w'=>Hid (RunI 55 W W.heap.size room l k u6 w'))) 35 (by kernel_rfl) (by kernel_rfl) (by kernel_rfl) M0 ?_
    generalize wr.drew=wd at *
    simp only [List.size_toArray,List.length_cons,List.length_nil,Nat.reduceAdd,Array.replicate_succ,Array.replicate_zero,List.push_toArray,List.nil_append,List.cons_append]
    refine Chain.take (i:=0) (oi:=⟨some 90,_,_,_,_,_⟩) (v:=?v36) rfl (by kernel_rfl) (by kernel_rfl) (Or.inl ⟨by rfl,?y36⟩) ?rest36
    case y36=>intro w hSw;clear hSw;go_simp;(try with_reducible rfl)
    simp only [Act.put,List.setIfInBounds_toArray,List.set_cons_zero,List.set_cons_succ]
    refine Chain.take (i:=1) (oi:=⟨some 91,_,_,_,_,_⟩) (v:=?v37) rfl (by kernel_rfl) (by kernel_rfl) (Or.inl ⟨by rfl,?y37⟩) ?rest37
    case y37=>intro w hSw;go_simp;(try with_reducible rfl)
    simp only [Act.put,List.setIfInBounds_toArray,List.set_cons_zero,List.set_cons_succ]
    refine Chain.take (i:=2) (oi:=⟨some 92,_,_,_,_,_⟩) (v:=?v38) rfl (by kernel_rfl) (by kernel_rfl) (Or.inl ⟨by rfl,?y38⟩) ?rest38
    case y38=>intro w hSw;clear hSw;go_simp;(try with_reducible rfl)
    simp only [Act.put,List.setIfInBounds_toArray,List.set_cons_zero,List.set_cons_succ]
    refine Chain.take (i:=3) (oi:=⟨some 93,_,_,_,_,_⟩) (v:=?v39) rfl (by kernel_rfl) (by kernel_rfl) (Or.inl ⟨by rfl,?y39⟩) ?rest39
    case y39=>intro w hSw;clear hSw;go_simp;(try with_reducible rfl)
    simp only [Act.put,List.setIfInBounds_toArray,List.set_cons_zero,List.set_cons_succ]
    refine Chain.take (i:=4) (oi:=⟨some 94,_,_,_,_,_⟩) (v:=?v40) rfl (by kernel_rfl) (by kernel_rfl) (Or.inl ⟨by rfl,?y40⟩) ?rest40
    case y40=>intro w hSw;clear hSw;go_simp;(try with_reducible rfl)
    simp only [Act.put,List.setIfInBounds_toArray,List.set_cons_zero,List.set_cons_succ]
    refine Chain.take (i:=5) (oi:=⟨some 95,_,_,_,_,_⟩) (v:=?v41) rfl (by kernel_rfl) (by kernel_rfl) (Or.inl ⟨by rfl,?y41⟩) ?rest41
    case y41=>intro w hSw;clear hSw;go_simp;(try with_reducible rfl)
    simp only [Act.put,List.setIfInBounds_toArray,List.set_cons_zero,List.set_cons_succ]
    refine Chain.take (i:=6) (oi:=⟨some 96,_,_,_,_,_⟩) (v:=?v42) rfl (by kernel_rfl) (by kernel_rfl) (Or.inl ⟨by rfl,?y42⟩) ?rest42
    case y42=>intro w hSw;go_simp;(try with_reducible rfl)
    simp only [Act.put,List.setIfInBounds_toArray,List.set_cons_zero,List.set_cons_succ]
    refine Chain.take (i:=7) (oi:=⟨some 97,_,_,_,_,_⟩) (v:=?v43) rfl (by kernel_rfl) (by kernel_rfl) (Or.inl ⟨by rfl,?y43⟩) ?rest43
    case y43=>intro w hSw;clear hSw;go_simp;(try with_reducible rfl)
    simp only [Act.put,List.setIfInBounds_toArray,List.set_cons_zero,List.set_cons_succ]
    refine Chain.take (i:=8) (oi:=⟨some 98,_,_,_,_,_⟩) (v:=?v44) rfl (by kernel_rfl) (by kernel_rfl) (Or.inl ⟨by rfl,?y44⟩) ?rest44
    case y44=>intro w hSw;clear hSw;go_simp;(try with_reducible rfl)
    simp only [Act.put,List.setIfInBounds_toArray,List.set_cons_zero,List.set_cons_succ]
    refine Chain.take (i:=9) (oi:=⟨some 99,_,_,_,_,_⟩) (v:=?v45) rfl (by kernel_rfl) (by kernel_rfl) (Or.inl ⟨by rfl,?y45⟩) ?rest45
    case y45=>intro w hSw;go_simp;(try with_reducible rfl)
    simp only [Act.put,List.setIfInBounds_toArray,List.set_cons_zero,List.set_cons_succ]
    refine Chain.take (i:=10) (oi:=⟨some 100,_,_,_,_,_⟩) (v:=?v46) rfl (by kernel_rfl) (by kernel_rfl) (Or.inl ⟨by rfl,?y46⟩) ?rest46
    case y46=>intro w hSw;clear hSw;go_simp;(try with_reducible rfl)
    simp only [Act.put,List.setIfInBounds_toArray,List.set_cons_zero,List.set_cons_succ]
    refine Chain.take (i:=11) (oi:=⟨some 101,_,_,_,_,_⟩) (v:=?v47) rfl (by kernel_rfl) (by kernel_rfl) (Or.inl ⟨by rfl,?y47⟩) ?rest47
    case y47=>intro w hSw;clear hSw;go_simp;(try with_reducible rfl)
    simp only [Act.put,List.setIfInBounds_toArray,List.set_cons_zero,List.set_cons_succ]
    refine Chain.take (i:=12) (oi:=⟨some 102,_,_,_,_,_⟩) (v:=?v48) rfl (by kernel_rfl) (by kernel_rfl) (Or.inl ⟨by rfl,?y48⟩) ?rest48
    case y48=>intro w hSw;clear hSw;go_simp;(try with_reducible rfl)
    simp only [Act.put,List.setIfInBounds_toArray,List.set_cons_zero,List.set_cons_succ]
    refine Chain.take (i:=13) (oi:=⟨some 103,_,_,_,_,_⟩) (v:=?v49) rfl (by kernel_rfl) (by kernel_rfl) (Or.inl ⟨by rfl,?y49⟩) ?rest49
    case y49=>intro w hSw;clear hSw;go_simp;(try with_reducible rfl)
    simp only [Act.put,List.setIfInBounds_toArray,List.set_cons_zero,List.set_cons_succ]
    refine Chain.take (i:=14) (oi:=⟨some 104,_,_,_,_,_⟩) (v:=?v50) rfl (by kernel_rfl) (by kernel_rfl) (Or.inl ⟨by rfl,?y50⟩) ?rest50
    case y50=>intro w hSw;go_simp;(try with_reducible rfl)
    simp only [Act.put,List.setIfInBounds_toArray,List.set_cons_zero,List.set_cons_succ]
    refine Chain.take (i:=15) (oi:=⟨some 105,_,_,_,_,_⟩) (v:=?v51) rfl (by kernel_rfl) (by kernel_rfl) (Or.inl ⟨by rfl,?y51⟩) ?rest51
    case y51=>intro w hSw;clear hSw;go_simp;(try with_reducible rfl)
    simp only [Act.put,List.setIfInBounds_toArray,List.set_cons_zero,List.set_cons_succ]
    refine Chain.take (i:=16) (oi:=⟨some 106,_,_,_,_,_⟩) (v:=?v52) rfl (by kernel_rfl) (by kernel_rfl) (Or.inl ⟨by rfl,?y52⟩) ?rest52
    case y52=>intro w hSw;clear hSw;go_simp;(try with_reducible rfl)
    simp only [Act.put,List.setIfInBounds_toArray,List.set_cons_zero,List.set_cons_succ]
    refine Chain.take (i:=17) (oi:=⟨some 107,_,_,_,_,_⟩) (v:=?v53) rfl (by kernel_rfl) (by kernel_rfl) (Or.inl ⟨by rfl,?y53⟩) ?rest53
    case y53=>intro w hSw;go_simp;(try with_reducible rfl)
    simp only [Act.put,List.setIfInBounds_toArray,List.set_cons_zero,List.set_cons_succ]
    refine Chain.take (i:=18) (oi:=⟨some 108,_,_,_,_,_⟩) (v:=?v54) rfl (by kernel_rfl) (by kernel_rfl) (Or.inl ⟨by rfl,?y54⟩) ?rest54
    case y54=>intro w hSw;clear hSw;go_simp;(try with_reducible rfl)
    simp only [Act.put,List.setIfInBounds_toArray,List.set_cons_zero,List.set_cons_succ]
    refine Chain.take (i:=19) (oi:=⟨some 109,_,_,_,_,_⟩) (v:=?v55) rfl (by kernel_rfl) (by kernel_rfl) (Or.inl ⟨by rfl,?y55⟩) ?rest55
    case y55=>intro w hSw;clear hSw;go_simp;(try with_reducible rfl)
    simp only [Act.put,List.setIfInBounds_toArray,List.set_cons_zero,List.set_cons_succ]
    refine Chain.take (i:=20) (oi:=⟨some 110,_,_,_,_,_⟩) (v:=?v56) rfl (by kernel_rfl) (by kernel_rfl) (Or.inl ⟨by rfl,?y56⟩) ?rest56
    case y56=>intro w hSw;clear hSw;go_simp;(try with_reducible rfl)
    simp only [Act.put,List.setIfInBounds_toArray,List.set_cons_zero,List.set_cons_succ]
    refine Chain.take (i:=21) (oi:=⟨some 111,_,_,_,_,_⟩) (v:=?v57) rfl (by kernel_rfl) (by kernel_rfl) (Or.inl ⟨by rfl,?y57⟩) ?rest57
    case y57=>intro w hSw;clear hSw;go_simp;(try with_reducible rfl)
    simp only [Act.put,List.setIfInBounds_toArray,List.set_cons_zero,List.set_cons_succ]
    refine Chain.take (i:=22) (oi:=⟨some 112,_,_,_,_,_⟩) (v:=?v58) rfl (by kernel_rfl) (by kernel_rfl) (Or.inl ⟨by rfl,?y58⟩) ?rest58
    case y58=>intro w hSw;go_simp;(try with_reducible rfl)
    simp only [Act.put,List.setIfInBounds_toArray,List.set_cons_zero,List.set_cons_succ]
    refine Chain.take (i:=23) (oi:=⟨some 113,_,_,_,_,_⟩) (v:=?v59) rfl (by kernel_rfl) (by kernel_rfl) (Or.inl ⟨by rfl,?y59⟩) ?rest59
    case y59=>intro w hSw;clear hSw;go_simp;(try with_reducible rfl)
    simp only [Act.put,List.setIfInBounds_toArray,List.set_cons_zero,List.set_cons_succ]
    refine Chain.take (i:=24) (oi:=⟨some 114,_,_,_,_,_⟩) (v:=?v60) rfl (by kernel_rfl) (by kernel_rfl) (Or.inl ⟨by rfl,?y60⟩) ?rest60
    case y60=>intro w hSw;clear hSw;go_simp;(try with_reducible rfl)
    simp only [Act.put,List.setIfInBounds_toArray,List.set_cons_zero,List.set_cons_succ]
    refine Chain.take (i:=25) (oi:=⟨some 115,_,_,_,_,_⟩) (v:=?v61) rfl (by kernel_rfl) (by kernel_rfl) (Or.inl ⟨by rfl,?y61⟩) ?rest61
    case y61=>intro w hSw;clear hSw;go_simp;(try with_reducible rfl)
    simp only [Act.put,List.setIfInBounds_toArray,List.set_cons_zero,List.set_cons_succ]
    refine Chain.take (i:=26) (oi:=⟨some 116,_,_,_,_,_⟩) (v:=?v62) rfl (by kernel_rfl) (by kernel_rfl) (Or.inl ⟨by rfl,?y62⟩) ?rest62
    case y62=>intro w hSw;clear hSw;go_simp;(try with_reducible rfl)
    simp only [Act.put,List.setIfInBounds_toArray,List.set_cons_zero,List.set_cons_succ]
    refine Chain.take (i:=27) (oi:=⟨some 117,_,_,_,_,_⟩) (v:=?v63) rfl (by kernel_rfl) (by kernel_rfl) (Or.inl ⟨by rfl,?y63⟩) ?rest63
    case y63=>intro w hSw;go_simp;(try with_reducible rfl)
    simp only [Act.put,List.setIfInBounds_toArray,List.set_cons_zero,List.set_cons_succ]
    refine Chain.take (i:=28) (oi:=⟨some 118,_,_,_,_,_⟩) (v:=?v64) rfl (by kernel_rfl) (by kernel_rfl) (Or.inl ⟨by rfl,?y64⟩) ?rest64
    case y64=>intro w hSw;clear hSw;go_simp;(try with_reducible rfl)
    simp only [Act.put,List.setIfInBounds_toArray,List.set_cons_zero,List.set_cons_succ]
    refine Chain.take (i:=29) (oi:=⟨some 119,_,_,_,_,_⟩) (v:=?v65) rfl (by kernel_rfl) (by kernel_rfl) (Or.inl ⟨by rfl,?y65⟩) ?rest65
    case y65=>intro w hSw;clear hSw;go_simp;(try with_reducible rfl)
    simp only [Act.put,List.setIfInBounds_toArray,List.set_cons_zero,List.set_cons_succ]
    refine Chain.take (i:=30) (oi:=⟨some 120,_,_,_,_,_⟩) (v:=?v66) rfl (by kernel_rfl) (by kernel_rfl) (Or.inl ⟨by rfl,?y66⟩) ?rest66
    case y66=>intro w hSw;clear hSw;go_simp;(try with_reducible rfl)
    simp only [Act.put,List.setIfInBounds_toArray,List.set_cons_zero,List.set_cons_succ]
    refine Chain.take (i:=31) (oi:=⟨some 121,_,_,_,_,_⟩) (v:=?v67) rfl (by kernel_rfl) (by kernel_rfl) (Or.inl ⟨by rfl,?y67⟩) ?rest67
    case y67=>intro w hSw;go_simp;(try with_reducible rfl)
    simp only [Act.put,List.setIfInBounds_toArray,List.set_cons_zero,List.set_cons_succ]
    refine Chain.take (i:=32) (oi:=⟨some 122,_,_,_,_,_⟩) (v:=?v68) rfl (by kernel_rfl) (by kernel_rfl) (Or.inl ⟨by rfl,?y68⟩) ?rest68
    case y68=>intro w hSw;clear hSw;go_simp;(try with_reducible rfl)
    simp only [Act.put,List.setIfInBounds_toArray,List.set_cons_zero,List.set_cons_succ]
    refine Chain.take (i:=33) (oi:=⟨some 123,_,_,_,_,_⟩) (v:=?v69) rfl (by kernel_rfl) (by kernel_rfl) (Or.inl ⟨by rfl,?y69⟩) ?rest69
    case y69=>intro w hSw;clear hSw;go_simp;(try with_reducible rfl)
    simp only [Act.put,List.setIfInBounds_toArray,List.set_cons_zero,List.set_cons_succ]
    refine Chain.take (i:=34) (oi:=⟨some 124,_,_,_,_,_⟩) (v:=?v70) rfl (by kernel_rfl) (by kernel_rfl) (Or.inl ⟨by rfl,?y70⟩) ?rest70
    case y70=>intro w hSw;clear hSw;go_simp;(try with_reducible rfl)
    simp only [Act.put,List.setIfInBounds_toArray,List.set_cons_zero,List.set_cons_succ]
    refine Chain.last (by kernel_rfl) (fun w hSw=>?_)
    refine wpAnyH_ready (rs:=[35]) (by kernel_rfl) (by simp) ?_
    refine AllReadyH.cons (o:=⟨none,_,_,_,_,_⟩) rfl (fun K hK=>?_) AllReadyH.nil
    have g0:=hSw.out.at_.free 0
    have g1:=hSw.out.at_.free 1
    have g2:=hSw.out.at_.free 2
    have g3:=hSw.out.at_.free 3
    have g4:=hSw.out.at_.free 4
    have p0:=q0 _ hSw
    have p1:=q1 _ hSw
    have p2:=q2 _ hSw
    have p3:=q3 _ hSw
    have p4:=q4 _ hSw
    generalize w=w2 at *
    have HS:=Lib.hid (hSw.out.set x)
    rw [hr0,hr1] at HS
    have HJ2:Hid (RunJ 55 W W.heap.size room l k x u6 ((((((w2).setCell ⟨W.heap.size,0,none⟩ (.int .u64 (r1.g:Int))).setCell ⟨W.heap.size,1,none⟩ (.int .u64 (r1.c:Int))).setCell ⟨W.heap.size,2,none⟩ (.int .u64 (r1.d:Int))).setCell ⟨W.heap.size,3,none⟩ (.int .u64 (r1.s:Int))).setCell ⟨W.heap.size,4,none⟩ (.int .u64 (r1.w:Int)))):=HS
    clear HS hSw a0 a1 a2 q0 q1 q2 q3 q4
    go_simp
    refine hK.out _ _ trivial (fun _=>?_)
    clear hK
    try simp only [List.setIfInBounds_toArray,List.set_cons_zero,List.set_cons_succ]
    refine wpAnyH_done (by kernel_rfl) ?_ _
    skip
    clear f1 f2 f3 f4 f5 f6 f7 f8 f9 f10 f11 f12 f13 f14 f15 f16 f17 f18 f19 f20 f21 f22 f23 f24 f25 f26 f13' f25' dz b0 b1 b2
    generalize (((((w2).setCell ⟨W.heap.size,0,none⟩ (.int .u64 (r1.g:Int))).setCell ⟨W.heap.size,1,none⟩ (.int .u64 (r1.c:Int))).setCell ⟨W.heap.size,2,none⟩ (.int .u64 (r1.d:Int))).setCell ⟨W.heap.size,3,none⟩ (.int .u64 (r1.s:Int))).setCell ⟨W.heap.size,4,none⟩ (.int .u64 (r1.w:Int))=w4 at *
    have hj0:=HJ2.out.at_
    rw [← HG.out] at hj0
    have q0:=hj0.cell (i:=0) (v:=.int .u64 (r1.g:Int)) rfl
    have q1:=hj0.cell (i:=1) (v:=.int .u64 (r1.c:Int)) rfl
    have q2:=hj0.cell (i:=2) (v:=.int .u64 (r1.d:Int)) rfl
    have q3:=hj0.cell (i:=3) (v:=.int .u64 (r1.s:Int)) rfl
    have q4:=hj0.cell (i:=4) (v:=.int .u64 (r1.w:Int)) rfl
    have HLn:Hid ((curve room Rw.z (l.take k)).length=k):=Lib.hid (by rw [curve_len,List.length_take];omega)
    obtain ⟨ap,cp,hv,hp1,hp2,_,_⟩:=HJ2.out.own.form
    rw [HLn.out] at hv hp1
    have HO2:Hid ((w4.alloc (.cells #[.int .u64 (r1.g:Int),.int .u64 (r1.c:Int),.int .u64 (r1.d:Int),.int .u64 (r1.s:Int),.int .u64 (r1.w:Int)] 55)).ownsRow W.heap.size 55 5 (.slice ap k cp) k ((curve room Rw.z (l.take k)).flatMap Itm.cs)):=Lib.hid (by
     have:=HJ2.out.own.keep (al_be w4 (.cells #[.int .u64 (r1.g:Int),.int .u64 (r1.c:Int),.int .u64 (r1.d:Int),.int .u64 (r1.s:Int),.int .u64 (r1.w:Int)] 55))
     unfold SOwn at this
     rw [HLn.out,hv] at this
     exact this)
    have HNw:=Lib.hid (World.news_of_block (Blk.new w4 55 #[.int .u64 (r1.g:Int),.int .u64 (r1.c:Int),.int .u64 (r1.d:Int),.int .u64 (r1.s:Int),.int .u64 (r1.w:Int)]))
    have HOne:=Lib.hid (Itm.one r1)
    have hsz:W.heap.size≤(w4.alloc (.cells #[.int .u64 (r1.g:Int),.int .u64 (r1.c:Int),.int .u64 (r1.d:Int),.int .u64 (r1.s:Int),.int .u64 (r1.w:Int)] 55)).heap.size:=by have:=HJ2.out.bel.size;simp;omega
    have HNx:=Lib.hid (fun (v':Value) (w5:World) h1 h2 h3=>RunJ.next (v':=v') (w5:=w5) (ob:=.cells #[.int .u64 (r1.g:Int),.int .u64 (r1.c:Int),.int .u64 (r1.d:Int),.int .u64 (r1.s:Int),.int .u64 (r1.w:Int)] 55) HJ2.out HL.out HX.out HFt.out H.out.fit h1 h2 h3)
    rw [← HG.out,hv] at HNx
    have HQn:Hid ((lastR room Rw.z (l.take (k + 1))).q=q2'∧(lastR room Rw.z (l.take (k + 1))).t=t3'):=Lib.hid (by
     rw [take_snoc' l k HL.out x HX.out,lastR_snoc,← HG.out];exact HQ3.out)
    subst hv
    clear hj0 HJ2 H p0 p1 p2 p3 p4 g0 g1 g2 g3 g4
    go_wp2_with (at_builtin;refine wpList_append_own_at _ rfl (.tmp 125) (.tmp 127) 29 rfl W.heap.size 55 _ (.agg #[.int .u64 0,.int .u64 0,.int .u64 0,.int .u64 0,.int .u64 0]) 5 40 Try.underlying29 HIi.out HZ0.out HZ1.out HZ2.out rfl (by decide) (.slice ap k cp) k ((curve room Rw.z (l.take k)).flatMap Itm.cs) rfl HO2.out ⟨w4.heap.size,0,none⟩ 1 1 (Itm.cs r1) rfl rfl HNw.out HOne.out (by unfold maxLen;omega) (by omega) hsz ?_;intro v' w5 hown hgr hnil hat;have HN5:=Lib.hid (HNx.out v' w5 hown hgr hat);clear hown hgr hnil hat)
    clear HO2 HNw HOne hsz HNx
    go_wp2_with fail
    go_roundw
    case rel=>exact ⟨k + 1,by go_num,by omega,by rw [HQn.out.1],by rw [HQn.out.2],HN5⟩
    case measure=>simp [intOf];omega
  ·obtain rfl:k=l.length:=by omega
   have HE:Hid (runR room l=curve room Rw.z l∧runE room l=0):=Lib.hid (by
    have:=fitR_all (l:=l) HRm.out (by have:=H.out.fit;rwa [List.take_length] at this)
    unfold runR runE;rw [this];exact ⟨rfl,rfl⟩)
   have hO:=H.out.own
   rw [List.take_length] at hO
   have HO:=Lib.hid hO
   clear hO
   go_wp2_with fail
   go_ret2
   exact ⟨u6,by rw [HE.out.2];rfl,by rw [HE.out.1];exact HO.out,H.out.bel⟩
end Go.Proofs.Ytljganehlagnoaa

set_option linter.unusedVariables false
namespace Go.Proofs.Ytljganehlagnoaa
open Go.RowKit
theorem own_its {α:Type} [Itm α] {T:TypeId} {B:Nat} {w:World} {v:Value} {l:List α} (h:SOwn T B w v l):∃ao cap,v=.slice ao l.length cap∧Its w ao l:=by
 obtain ⟨ao,cap,e,_,_,hi,_⟩:=h.form
 exact ⟨ao,cap,e,hi⟩
set_option maxRecDepth 100000 in
set_option maxHeartbeats 2000000 in
theorem MeterRuns_walk (room:Nat) (ao:Option Addr) (len cap:Nat) (l:List Tn) (W:World) (hr:room≤18446744073709551615) (hin:InT W ao len l):
  Calls Try.prog 3 #[.int .u64 (room:Int),.slice ao len cap] W fun e w'=>e=.returned (.bool true)∧Below W.heap.size W w':=by
 obtain ⟨rfl,hi,hb⟩:=hin
 by_cases hl:l.length≤200
 case neg=>
  have d0:decide ((200:Int) < (l.length:Int))=true:=decide_eq_true (by omega)
  go_enter Try.func3,Try.ntmps3
  go_wp2_with fail
  refine (alive22 _).mono ?_
  rintro e w9 ⟨rfl,hb⟩
  have B9:=Lib.hid hb
  clear hb
  go_wp2_with fail
  go_ret
  exact ⟨rfl,B9.out⟩
 have d0:decide ((200:Int) < (l.length:Int))=false:=decide_eq_false (by omega)
 have HI:=Lib.hid hi
 have HR:=Lib.hid (mt_Run room l ao cap W hi hl hb)
 have HD:=Lib.hid (fun ao cap w hi=>dr_Run room l ao cap w hi hl hb)
 have HT:=Lib.hid (fun w hi=>lw_turns l ao cap w hi hl)
 have HS:=Lib.hid (fun ao cap w hi=>lw_rows (runR room l) ao cap w hi (Nat.le_trans run_len hl))
 have HQ:=Lib.hid (fun p q c d w hi hj=>lw_same (runR room l) p q c d w hi hj (Nat.le_trans run_len hl))
 clear hi hb
 generalize runE room l=er at *
 go_enter Try.func3,Try.ntmps3
 go_wp2_with fail
 refine HR.out.mono ?_
 rintro e w1 ⟨v1,rfl,ho1,hb1⟩
 have B1:=Lib.hid hb1
 have O1:=Lib.hid ho1
 clear HR ho1
 go_wp2_with fail
 refine (HT.out _ (HI.out.keep hb1)).mono ?_
 rintro e w2 ⟨v2,rfl,ho2,hb2⟩
 have B2:=Lib.hid (bel_to B1.out hb2 B1.out.size)
 have O1b:=Lib.hid (O1.out.keep hb2)
 obtain ⟨p2,c2,rfl,hi2⟩:=own_its ho2
 clear hb1 hb2 B1 O1 HT ho2
 go_wp2_with fail
 refine (HD.out _ _ _ hi2).mono ?_
 rintro e w3 ⟨v3,rfl,ho3,hb3⟩
 have B3:=Lib.hid (bel_to B2.out hb3 B2.out.size)
 obtain ⟨p1,c1,rfl,hi1⟩:=own_its (O1b.out.keep hb3)
 have O3:=Lib.hid ho3
 clear hi2 hb3 B2 O1b HD ho3
 go_wp2_with fail
 refine (HS.out _ _ _ hi1).mono ?_
 rintro e w4 ⟨v4,rfl,ho4,hb4⟩
 have B4:=Lib.hid (bel_to B3.out hb4 B3.out.size)
 obtain ⟨p3,c3,rfl,hi3⟩:=own_its (O3.out.keep hb4)
 obtain ⟨p4,c4,rfl,hi4⟩:=own_its ho4
 clear hi1 hb4 B3 O3 HS ho4
 go_wp2_with fail
 refine (HQ.out _ _ _ _ _ hi4 hi3).mono ?_
 rintro e w5 ⟨rfl,hd⟩
 have B5:=Lib.hid (B4.out.trans (hd.below _))
 clear hi3 hi4 hd B4 HQ
 go_wp2_with fail
 refine (alive22 _).mono ?_
 rintro e w9 ⟨rfl,hb⟩
 have B9:=Lib.hid (bel_to B5.out hb B5.out.size)
 clear hb
 go_wp2_with fail
 go_ret
 exact ⟨rfl,B9.out⟩
end Go.Proofs.Ytljganehlagnoaa
