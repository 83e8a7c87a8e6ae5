/- 3 texts put together: what each one says stands ahead of it. -/
import Derived.Test.YtaffjfajjpgjpaaKLinkPlays19
import Derived.Test.YtaffjfajjpgjpaaKLinkPlays21
set_option linter.unusedVariables false
namespace Go.Proofs.Ytaffjfajjpgjpaa
open Go.RowKit
structure LOut (W:World) (p:PL) (l:List Pk) (s:LS) (e:Ending) (w:World):Prop where
 e:∃v,e=.returned v∧SOwn 65 W.heap.size w v l
 li:LI W p s w
structure LY (W:World) (p:PL) (z:Nat) (cs:Array Value) (v:Value) (l:List Pk) (s:LS) (w:World):Prop where
 x:LX W p z 65 cs s w
 own:SOwn 65 W.heap.size w v l
theorem LY.to {W w w':World} {p:PL} {z:Nat} {cs:Array Value} {v:Value} {l:List Pk} {s:LS} (h:LY W p z cs v l s w) (k:Below w.heap.size w w'):LY W p z cs v l s w':=⟨h.x.to k,h.own.keep k⟩
theorem LY.set2 {W w:World} {p:PL} {z:Nat} {cs:Array Value} {v:Value} {l:List Pk} {s s':LS} (h:LY W p z cs v l s w) (i j:Nat) (u u':Value) (he:((s.cells p).setIfInBounds i u).setIfInBounds j u'=s'.cells p) (h3:s.k=s'.k∧s.q=s'.q∧s.j=s'.j):LY W p z cs v l s' ((w.setCell ⟨p.b,i,none⟩ u).setCell ⟨p.b,j,none⟩ u'):=by
 refine ⟨h.x.set2 i j u u' he h3,?_⟩
 obtain ⟨g,m,h1,_⟩:=h.x.at_
 exact h.own.blk (fun b ds _ hb=>(hb.set_other i u (hb.ty h1.head (by decide))).set_other j u' (hb.ty h1.head (by decide)))
theorem ly_more (W:World) (p:PL) (z:Nat) (cs:Array Value) (v:Value) (l:List Pk) (s:LS) (c0 n:Nat) (hc:c0≤1267650600228229401496703205376) (hn:n≤18446744073709551615):∀w,Hid (LY W p z cs v l s w)→
  Calls Try.prog 30 #[.agg #[.int .u64 (LS.hi c0:Int),.int .u64 (LS.lo c0:Int)],.int .u64 (n:Int)] w fun e w'=>e=.returned (.agg #[.int .u64 (LS.hi (c0 + n):Int),.int .u64 (LS.lo (c0 + n):Int)])∧Hid (LY W p z cs v l s w'):=
 fun w h=>(lk_more c0 n w hc hn).mono fun e w' q=>⟨q.1,Lib.hid (h.out.to q.2)⟩
theorem li_ptr {W:World} {p:PL} {s:LS}:(∀w,Hid (LI W p s w)→w.cell? ⟨p.b,4,none⟩=some (.pointer (some ⟨p.kb,0,none⟩)))∧(∀w,Hid (LI W p s w)→w.cell? ⟨p.b,5,none⟩=some (.pointer (some ⟨p.qb,0,none⟩)))∧(∀w,Hid (LI W p s w)→w.cell? ⟨p.b,6,none⟩=some (.pointer (some ⟨p.jb,0,none⟩)))∧(∀w,Hid (LI W p s w)→w.cell? ⟨p.b,7,none⟩=some (.int .u64 (s.t:Int))):=
 ⟨fun w h=>h.out.kp.1,fun w h=>h.out.kp.2.1,fun w h=>h.out.kp.2.2,fun w h=>h.out.cell (fun _=>rfl)⟩
theorem li_Out (W:World) (p:PL) (s:LS) (hm:s.j.l.length≤5000) (w:World) (h:LI W p s w):
  Calls Try.prog 51 #[.pointer (some ⟨p.jb,0,none⟩),.int .u64 (s.t:Int)] w fun e w'=>∃v,e=.returned v∧Hid (SOwn 65 W.heap.size w' v s.out)∧Hid (LI W p (s.withJ (s.j.outB s.t)) w'):=by
 obtain ⟨g,i,h1,h2⟩:=h.at_
 refine (bx_Out p.jb p.jr i s.t s.j w h1.j hm).mono fun e w' k=>?_
 obtain ⟨v,he,hv⟩:=k.e
 exact ⟨v,he,Lib.hid (hv.weak h.fr.size),Lib.hid (h.j h1 h2 k.at_ k.fr)⟩
theorem deliver_with (s:LS):s.deliver=(s.withJ (s.j.outB s.t)).withD (s.deliv + totP s.out):=rfl
theorem with_d (s:LS) (a b:Nat):(s.withD a).withD b=s.withD b:=rfl
theorem tot_snoc (l:List Pk) (x:Pk):totP (l ++ [x])=totP l + x.size:=by rw [totP_app,totP_cons,totP_nil];omega
set_option maxRecDepth 100000 in
set_option maxHeartbeats 1000000 in
theorem lk_deliver (p:PL) (s:LS) (N:Nat) (W:World) (h:LkAt W p s) (ho:s.ok N) (hN:N≤5000):
  Calls Try.prog 28 #[.pointer (some ⟨p.b,0,none⟩)] W (LOut W p s.out s.deliver):=by
 have M0:=Lib.hid (LI.start h).drew
 have HO:=Lib.hid (li_Out W p s (by have:=ho.n;omega))
 have HZ:=Lib.hid (LS.out_size ho)
 have HD:Hid (s.deliv≤1267650600228229401496703205376 - 18446744073709551615 * 5000):=Lib.hid (by have:=ho.c1;have:=ho.c2;have:=ho.came;omega)
 have HLn:Hid (s.out.length≤5000):=Lib.hid (by have:=ho.n;have:=BxS.told_len s.j s.t;show (s.j.told s.t).length≤5000;omega)
 have HE:=Lib.hid (deliver_with s)
 obtain ⟨_,_,r6,r7⟩:=li_ptr (W:=W) (p:=p) (s:=s)
 clear h ho hN
 go_enter Try.func28,Try.ntmps28
 go_wp2_with fail
 refine wp_region_chain (S:=(fun w'=>Hid (LI W p s w'))) 8 (by kernel_rfl) (by kernel_rfl) (by kernel_rfl) M0 ?_
 generalize W.drew=wd at *
 simp only [List.size_toArray,List.length_cons,List.length_nil,Nat.reduceAdd,Array.replicate_succ,Array.replicate_zero,List.push_toArray,List.nil_append,List.cons_append]
 refine Chain.take (i:=0) (oi:=⟨some 6,_,_,_,_,_⟩) (v:=?v1) rfl (by kernel_rfl) (by kernel_rfl) (Or.inl ⟨by rfl,?y1⟩) ?rest1
 case y1=>intro w hSw;clear hSw;go_simp;(try with_reducible rfl)
 simp only [Act.put,List.setIfInBounds_toArray,List.set_cons_zero,List.set_cons_succ]
 refine Chain.take (i:=1) (oi:=⟨some 7,_,_,_,_,_⟩) (v:=?v2) rfl (by kernel_rfl) (by kernel_rfl) (Or.inl ⟨by rfl,?y2⟩) ?rest2
 case y2=>intro w hSw;clear hSw;go_simp;(try with_reducible rfl)
 simp only [Act.put,List.setIfInBounds_toArray,List.set_cons_zero,List.set_cons_succ]
 refine Chain.take (i:=2) (oi:=⟨some 8,_,_,_,_,_⟩) (v:=?v3) rfl (by kernel_rfl) (by kernel_rfl) (Or.inl ⟨by rfl,?y3⟩) ?rest3
 case y3=>intro w hSw;clear hSw;go_simp;(try with_reducible rfl)
 simp only [Act.put,List.setIfInBounds_toArray,List.set_cons_zero,List.set_cons_succ]
 refine Chain.take (i:=3) (oi:=⟨some 9,_,_,_,_,_⟩) (v:=?v4) rfl (by kernel_rfl) (by kernel_rfl) (Or.inl ⟨by rfl,?y4⟩) ?rest4
 case y4=>intro w hSw;go_simp;(try with_reducible rfl)
 simp only [Act.put,List.setIfInBounds_toArray,List.set_cons_zero,List.set_cons_succ]
 refine Chain.take (i:=4) (oi:=⟨some 10,_,_,_,_,_⟩) (v:=?v5) rfl (by kernel_rfl) (by kernel_rfl) (Or.inl ⟨by rfl,?y5⟩) ?rest5
 case y5=>intro w hSw;clear hSw;go_simp;(try with_reducible rfl)
 simp only [Act.put,List.setIfInBounds_toArray,List.set_cons_zero,List.set_cons_succ]
 refine Chain.take (i:=5) (oi:=⟨some 11,_,_,_,_,_⟩) (v:=?v6) rfl (by kernel_rfl) (by kernel_rfl) (Or.inl ⟨by rfl,?y6⟩) ?rest6
 case y6=>intro w hSw;clear hSw;go_simp;(try with_reducible rfl)
 simp only [Act.put,List.setIfInBounds_toArray,List.set_cons_zero,List.set_cons_succ]
 refine Chain.take (i:=6) (oi:=⟨some 12,_,_,_,_,_⟩) (v:=?v7) rfl (by kernel_rfl) (by kernel_rfl) (Or.inl ⟨by rfl,?y7⟩) ?rest7
 case y7=>intro w hSw;clear hSw;go_simp;(try with_reducible rfl)
 simp only [Act.put,List.setIfInBounds_toArray,List.set_cons_zero,List.set_cons_succ]
 refine Chain.take (i:=7) (oi:=⟨some 13,_,_,_,_,_⟩) (v:=?v8) rfl (by kernel_rfl) (by kernel_rfl) (Or.inl ⟨by rfl,?y8⟩) ?rest8
 case y8=>intro w hSw;go_simp;(try with_reducible rfl)
 simp only [Act.put,List.setIfInBounds_toArray,List.set_cons_zero,List.set_cons_succ]
 refine Chain.last (by kernel_rfl) (fun w hSw=>?_)
 refine wpAnyH_ready (rs:=[8]) (by kernel_rfl) (by simp) ?_
 refine AllReadyH.cons (o:=⟨some 14,_,_,_,_,_⟩) rfl (fun K hK=>?_) AllReadyH.nil
 go_simp
 refine (HO.out _ hSw.out).mono ?_
 rintro e w1 ⟨v,rfl,V1,M1⟩
 clear hSw M0 HO r6 r7
 go_wp2_with fail
 refine hK.out _ _ trivial (fun _=>?_)
 clear hK
 try simp only [List.setIfInBounds_toArray,List.set_cons_zero,List.set_cons_succ]
 refine wpAnyH_take (i:=9) (oi:=⟨some 3,_,_,_,_,_⟩) (v:=?v9) rfl (by kernel_rfl) (by kernel_rfl) (by kernel_rfl) (fun _ _ _ h=>h) (Or.inl ⟨by rfl,?y9⟩) trivial ?rest9
 case y9=>intro w hSw;clear hSw;go_simp;(try with_reducible rfl)
 simp only [Act.put,List.setIfInBounds_toArray,List.set_cons_zero,List.set_cons_succ]
 refine wpAnyH_done (by kernel_rfl) ?_ _
 skip
 generalize s.out=l at *
 obtain ⟨ao,cap,rfl,hc1,hc2,_,_⟩:=V1.out.form
 have HB:Hid (LI W p ((s.withJ (s.j.outB s.t)).withD s.deliv) w1):=M1
 have EW:=Lib.hid (fun a b=>with_d (s.withJ (s.j.outB s.t)) a b)
 have ED:Hid (((s.withJ (s.j.outB s.t)).withD (s.deliv + totP l))=s.deliver):=Lib.hid HE.out.symm
 clear M1 HE
 generalize s.withJ (s.j.outB s.t)=s2 at *
 generalize s.deliv=d0 at *
 go_wp2_with fail
 go_loopw [17] (fun i wr=>∃k:Nat,i=.int .i64 (k:Int)∧k≤l.length∧Hid (LI W p (s2.withD (d0 + totP (l.take k))) wr)∧Hid (SOwn 65 W.heap.size wr (.slice ao l.length cap) l)) (fun i _=>l.length - (intOf i).toNat)
 case atStart=>exact ⟨0,rfl,Nat.zero_le _,HB,V1⟩
 case round=>
  obtain ⟨k,rfl,hk,HL,HV⟩:=hrel
  obtain ⟨ao',cap',hv',_,_,hit,_⟩:=HV.out.form
  cases hv'
  by_cases hlt:k < l.length
  ·obtain ⟨ad,rfl,_⟩:=hit.cells (by omega)
   obtain ⟨g,off,rfl,_,hc⟩:=its_pk hit (by omega)
   obtain ⟨x,hx⟩:∃x,x=l.getD k Itm.z:=⟨_,rfl⟩
   obtain ⟨a0,a1,a2,a3,a4,a5,a6⟩:=hc k hlt x hx
   have HT:Hid (totP (l.take (k + 1))=totP (l.take k) + x.size):=Lib.hid (by rw [take_snoc l k hlt x hx];exact tot_snoc _ _)
   have hxm:x∈l:=by rw [hx];simp [hlt]
   have hxs:=Lib.hid (HZ.out x hxm)
   have htk:totP (l.take k)≤18446744073709551615 * 5000:=by
    have h1:=totP_le (l:=l.take k) (fun y hy=>HZ.out y (List.mem_of_mem_take hy))
    have h2:(l.take k).length≤5000:=by rw [List.length_take];have:=HLn.out;omega
    omega
   have hd0:=HD.out
   have hk5:k < 5000:=by have:=HLn.out;omega
   have HC0:Hid (d0 + totP (l.take k)≤1267650600228229401496703205376):=Lib.hid (by omega)
   have HT2:Hid (d0 + totP (l.take (k + 1))=d0 + totP (l.take k) + x.size):=Lib.hid (by rw [HT.out];omega)
   have i0:(0:Int)≤(k:Int):=by omega
   have i1:(k:Int) < (l.length:Int):=by omega
   clear hc hx hxm HT HZ HB V1 hit htk hd0
   generalize d0 + totP (l.take k)=c0 at *
   obtain ⟨s1,hs1⟩:∃s1,s1=s2.withD c0:=⟨_,rfl⟩
   have Es1:Hid (∀c,s1.withD c=s2.withD c):=Lib.hid (fun c=>by rw [hs1];rfl)
   have hc0:s1.deliv=c0:=by rw [hs1];rfl
   rw [← hs1] at HL
   have HB:Hid (LY W p wr.heap.size #[.int .u64 (x.n:Int),.int .u64 (x.size:Int),.int .u64 (x.sent:Int),.int .u64 (x.first:Int),.int .u64 (x.deliv:Int),.int .u64 (x.at_:Int),.bool x.lim] (.slice (some ⟨g,off,none⟩) l.length cap) l s1 (wr.alloc (.cells #[.int .u64 (x.n:Int),.int .u64 (x.size:Int),.int .u64 (x.sent:Int),.int .u64 (x.first:Int),.int .u64 (x.deliv:Int),.int .u64 (x.at_:Int),.bool x.lim] 65))):=Lib.hid ⟨HL.out.box _ _,HV.out.keep (al_be _ _)⟩
   clear HL HV hs1
   go_upto_region 5 with fail
   clear a0 a1 a2 a3 a4 a5 a6
   generalize wr.alloc (.cells #[.int .u64 (x.n:Int),.int .u64 (x.size:Int),.int .u64 (x.sent:Int),.int .u64 (x.first:Int),.int .u64 (x.deliv:Int),.int .u64 (x.at_:Int),.bool x.lim] 65)=w1 at *
   generalize wr.heap.size=z at *
   obtain ⟨v,hv⟩:∃v,v=Value.slice (some ⟨g,off,none⟩) l.length cap:=⟨_,rfl⟩
   have HM:=Lib.hid (ly_more W p z #[.int .u64 (x.n:Int),.int .u64 (x.size:Int),.int .u64 (x.sent:Int),.int .u64 (x.first:Int),.int .u64 (x.deliv:Int),.int .u64 (x.at_:Int),.bool x.lim] v l s1 c0 x.size HC0.out hxs.out)
   have HCs:Hid (∀(c:Nat) (p:PL),((s1.cells p).setIfInBounds 12 (.int .u64 (LS.hi c:Int))).setIfInBounds 13 (.int .u64 (LS.lo c:Int))=(s1.withD c).cells p):=Lib.hid (fun c p=>set_deliv s1 c p)
   obtain ⟨rh',rl'⟩:=lx_deliv (W:=W) (p:=p) (z:=z) (cs:=#[.int .u64 (x.n:Int),.int .u64 (x.size:Int),.int .u64 (x.sent:Int),.int .u64 (x.first:Int),.int .u64 (x.deliv:Int),.int .u64 (x.at_:Int),.bool x.lim]) (s:=s1)
   have rh:∀w,Hid (LY W p z #[.int .u64 (x.n:Int),.int .u64 (x.size:Int),.int .u64 (x.sent:Int),.int .u64 (x.first:Int),.int .u64 (x.deliv:Int),.int .u64 (x.at_:Int),.bool x.lim] v l s1 w)→w.cell? ⟨p.b,12,none⟩=some (.int .u64 (LS.hi c0:Int)):=fun w h=>by rw [← hc0];exact rh' w (Lib.hid h.out.x)
   have rl:∀w,Hid (LY W p z #[.int .u64 (x.n:Int),.int .u64 (x.size:Int),.int .u64 (x.sent:Int),.int .u64 (x.first:Int),.int .u64 (x.deliv:Int),.int .u64 (x.at_:Int),.bool x.lim] v l s1 w)→w.cell? ⟨p.b,13,none⟩=some (.int .u64 (LS.lo c0:Int)):=fun w h=>by rw [← hc0];exact rl' w (Lib.hid h.out.x)
   have rz:∀w,Hid (LY W p z #[.int .u64 (x.n:Int),.int .u64 (x.size:Int),.int .u64 (x.sent:Int),.int .u64 (x.first:Int),.int .u64 (x.deliv:Int),.int .u64 (x.at_:Int),.bool x.lim] v l s1 w)→w.cell? ⟨z,1,none⟩=some (.int .u64 (x.size:Int)):=fun w h=>lx_size (s:=s1) x w (Lib.hid h.out.x)
   have M0:Hid (LY W p z #[.int .u64 (x.n:Int),.int .u64 (x.size:Int),.int .u64 (x.sent:Int),.int .u64 (x.first:Int),.int .u64 (x.deliv:Int),.int .u64 (x.at_:Int),.bool x.lim] v l s1 w1.drew):=Lib.hid (by rw [hv];exact HB.out.to ((Drawn.drew _).below _))
   have HVv:=Lib.hid hv
   clear HB hc0 rh' rl' hv
   go_wp2_with fail
   refine wp_region_chain (S:=(fun w'=>Hid (LY W p z #[.int .u64 (x.n:Int),.int .u64 (x.size:Int),.int .u64 (x.sent:Int),.int .u64 (x.first:Int),.int .u64 (x.deliv:Int),.int .u64 (x.at_:Int),.bool x.lim] v l s1 w'))) 10 (by kernel_rfl) (by kernel_rfl) (by kernel_rfl) M0 ?_
   simp only [List.size_toArray,List.length_cons,List.length_nil,Nat.reduceAdd,Array.replicate_succ,Array.replicate_zero,List.push_toArray,List.nil_append,List.cons_append]
   refine Chain.take (i:=0) (oi:=⟨some 21,_,_,_,_,_⟩) (v:=?v10) rfl (by kernel_rfl) (by kernel_rfl) (Or.inl ⟨by rfl,?y10⟩) ?rest10
   case y10=>intro w hSw;clear hSw;go_simp;(try with_reducible rfl)
   simp only [Act.put,List.setIfInBounds_toArray,List.set_cons_zero,List.set_cons_succ]
   refine Chain.take (i:=1) (oi:=⟨some 22,_,_,_,_,_⟩) (v:=?v11) rfl (by kernel_rfl) (by kernel_rfl) (Or.inl ⟨by rfl,?y11⟩) ?rest11
   case y11=>intro w hSw;clear hSw;go_simp;(try with_reducible rfl)
   simp only [Act.put,List.setIfInBounds_toArray,List.set_cons_zero,List.set_cons_succ]
   refine Chain.take (i:=2) (oi:=⟨some 23,_,_,_,_,_⟩) (v:=?v12) rfl (by kernel_rfl) (by kernel_rfl) (Or.inl ⟨by rfl,?y12⟩) ?rest12
   case y12=>intro w hSw;clear hSw;go_simp;(try with_reducible rfl)
   simp only [Act.put,List.setIfInBounds_toArray,List.set_cons_zero,List.set_cons_succ]
   refine Chain.take (i:=3) (oi:=⟨some 24,_,_,_,_,_⟩) (v:=?v13) rfl (by kernel_rfl) (by kernel_rfl) (Or.inl ⟨by rfl,?y13⟩) ?rest13
   case y13=>intro w hSw;clear hSw;go_simp;(try with_reducible rfl)
   simp only [Act.put,List.setIfInBounds_toArray,List.set_cons_zero,List.set_cons_succ]
   refine Chain.take (i:=4) (oi:=⟨some 25,_,_,_,_,_⟩) (v:=?v14) rfl (by kernel_rfl) (by kernel_rfl) (Or.inl ⟨by rfl,?y14⟩) ?rest14
   case y14=>intro w hSw;go_simp;(try with_reducible rfl)
   simp only [Act.put,List.setIfInBounds_toArray,List.set_cons_zero,List.set_cons_succ]
   refine Chain.take (i:=5) (oi:=⟨some 26,_,_,_,_,_⟩) (v:=?v15) rfl (by kernel_rfl) (by kernel_rfl) (Or.inl ⟨by rfl,?y15⟩) ?rest15
   case y15=>intro w hSw;clear hSw;go_simp;(try with_reducible rfl)
   simp only [Act.put,List.setIfInBounds_toArray,List.set_cons_zero,List.set_cons_succ]
   refine Chain.take (i:=6) (oi:=⟨some 27,_,_,_,_,_⟩) (v:=?v16) rfl (by kernel_rfl) (by kernel_rfl) (Or.inl ⟨by rfl,?y16⟩) ?rest16
   case y16=>intro w hSw;go_simp;(try with_reducible rfl)
   simp only [Act.put,List.setIfInBounds_toArray,List.set_cons_zero,List.set_cons_succ]
   refine' Chain.call (i:=7) (oi:=⟨some 28,_,_,_,_,_⟩) _ _ rfl (by kernel_rfl) (by kernel_rfl) (by rfl) ?he17 (fun w hS=>HM.out w hS) ?rest17
   case he17=>intro w;go_simp
   simp only [Act.put,List.setIfInBounds_toArray,List.set_cons_zero,List.set_cons_succ]
   refine Chain.take (i:=8) (oi:=⟨some 29,_,_,_,_,_⟩) (v:=?v18) rfl (by kernel_rfl) (by kernel_rfl) (Or.inl ⟨by rfl,?y18⟩) ?rest18
   case y18=>intro w hSw;clear hSw;go_simp;(try with_reducible rfl)
   simp only [Act.put,List.setIfInBounds_toArray,List.set_cons_zero,List.set_cons_succ]
   refine Chain.take (i:=9) (oi:=⟨some 30,_,_,_,_,_⟩) (v:=?v19) rfl (by kernel_rfl) (by kernel_rfl) (Or.inl ⟨by rfl,?y19⟩) ?rest19
   case y19=>intro w hSw;clear hSw;go_simp;(try with_reducible rfl)
   simp only [Act.put,List.setIfInBounds_toArray,List.set_cons_zero,List.set_cons_succ]
   refine Chain.last (by kernel_rfl) (fun w hSw=>?_)
   refine wpAnyH_ready (rs:=[10]) (by kernel_rfl) (by simp) ?_
   refine AllReadyH.cons (o:=⟨none,_,_,_,_,_⟩) rfl (fun K hK=>?_) AllReadyH.nil
   have g0:=hSw.out.x.li.free 12
   have g1:=hSw.out.x.li.free 13
   have g2:=rh _ hSw
   have g3:=rl _ hSw
   have M2:=Lib.hid (hSw.out.set2 (s':=(s1).withD (c0 + x.size)) 12 13 (.int .u64 (LS.hi (c0 + x.size):Int)) (.int .u64 (LS.lo (c0 + x.size):Int)) (HCs.out _ _) ⟨rfl,rfl,rfl⟩)
   clear hSw rh rl rz
   go_simp
   refine hK.out _ _ trivial (fun _=>?_)
   clear hK
   try simp only [List.setIfInBounds_toArray,List.set_cons_zero,List.set_cons_succ]
   refine wpAnyH_done (by kernel_rfl) ?_ _
   skip
   clear HM HCs g0 g1 g2 g3 M0
   rw [Es1.out] at M2
   generalize (w.setCell ⟨p.b,12,none⟩ (.int .u64 (LS.hi (c0 + x.size):Int))).setCell ⟨p.b,13,none⟩ (.int .u64 (LS.lo (c0 + x.size):Int))=w2 at *
   go_wp2_with fail
   go_roundw
   case rel=>exact ⟨k + 1,by go_num,by omega,by rw [HT2.out];exact Lib.hid M2.out.x.li,Lib.hid (HVv.out▸M2.out.own)⟩
   case measure=>simp [intOf];omega
  ·obtain rfl:k=l.length:=by omega
   rw [List.take_length] at *
   go_wp2_with fail
   go_ret
   exact ⟨⟨_,rfl,HV.out⟩,ED.out▸HL.out⟩
end Go.Proofs.Ytaffjfajjpgjpaa

set_option linter.unusedVariables false
namespace Go.Proofs.Ytaffjfajjpgjpaa
open Go.RowKit
def Nus (w:World) (v:Option Addr) (l:List Nat):Prop:=0 < l.length→∃b off,v=some ⟨b,off,none⟩∧b < w.heap.size∧∀i,i < l.length→w.cell? ⟨b,off + i,none⟩=some (.int .u64 ((l.getD i 0:Nat):Int))
theorem Nus.nil (w:World) (v:Option Addr):Nus w v []:=fun h=>absurd h (by simp)
theorem Nus.keep {w w':World} {v:Option Addr} {l:List Nat} (h:Nus w v l) (k:Below w.heap.size w w'):Nus w' v l:=by
 intro hp
 obtain ⟨b,off,e,hb,hc⟩:=h hp
 exact ⟨b,off,e,Nat.lt_of_lt_of_le hb k.size,fun i hi=>(k.cell (p:=⟨b,off + i,none⟩) hb).trans (hc i hi)⟩
theorem Nus.frl {w w':World} {v:Option Addr} {l:List Nat} {X:List Nat} (h:Nus w v l) (k:Fr w w' X) (ha:0 < l.length→Apart v X):Nus w' v l:=by
 intro hp
 obtain ⟨b,off,e,hb,hc⟩:=h hp
 refine ⟨b,off,e,Nat.lt_of_lt_of_le hb k.size,fun i hi=>?_⟩
 rw [← hc i hi]
 have:=k.block b hb (ha hp _ e)
 simp [World.cell?,this]
theorem with_all (s:LS) (k':KB) (q':QK) (j':BxS) (n:Nat):(⟨s.rate,s.delay,s.jit,s.buf,k',q',j',s.t,s.came,n,s.deliv⟩:LS)=(((s.withK k').withQ q').withJ j').withS n:=by
 simp only [LS.withK,LS.withQ,LS.withJ,LS.withS]
theorem serve1_def (s:LS) (c:Nat):s.serve1 c=⟨s.rate,s.delay,s.jit,s.buf,s.k.takeS s.q.headQ.size,s.q.shiftQ,s.j.putB s.q.headQ s.t c,s.t,s.came,s.served + s.q.headQ.size,s.deliv⟩:=rfl
theorem serve1_with (s:LS) (c:Nat):s.serve1 c=(((s.withK (s.k.takeS s.q.headQ.size)).withQ s.q.shiftQ).withJ (s.j.putB s.q.headQ s.t c)).withS (s.served + s.q.headQ.size):=
 (serve1_def s c).trans (with_all s _ _ _ _)
theorem take_no {k:KB} {x:Nat} (h:k.takeB x=false):k.takeS x=k:=by
 unfold KB.takeB at h
 unfold KB.takeS
 generalize Pl.mulS x 1000000=m at *
 unfold KB.spendB at h
 unfold KB.spendS
 rw [if_neg (by simpa using h)]
theorem with_k (s:LS):s.withK s.k=s:=rfl
theorem li_Head (W:World) (p:PL) (s:LS) (w:World) (h:LI W p s w):
  Calls Try.prog 26 #[.pointer (some ⟨p.qb,0,none⟩)] w fun e w'=>e=pkgot s.q.headQ s.q.someQ∧Below w.heap.size w w':=by
 obtain ⟨g,i,h1,h2⟩:=h.at_
 exact wq_Head p.qb p.qr g s.q w h1.q
theorem lx_Take (W:World) (p:PL) (z:Nat) (cs:Array Value) (s:LS) (x:Nat) (ho:s.k.ok) (hx:x≤18446744073709551615) (w:World) (h:LX W p z 65 cs s w):
  Calls Try.prog 46 #[.pointer (some ⟨p.kb,0,none⟩),.int .u64 (x:Int)] w fun e w'=>e=.returned (.bool (s.k.takeB x))∧Hid (LX W p z 65 cs (s.withK (s.k.takeS x)) w'):=by
 obtain ⟨g,i,h1,h2,h3⟩:=h.ex
 exact (bk_Take p.kb x s.k w h1.k ho hx).mono fun e w' k=>⟨k.e,Lib.hid (h.k k)⟩
theorem lx_Shift (W:World) (p:PL) (z:Nat) (cs:Array Value) (s:LS) (ho:s.q.ok) (w:World) (h:LX W p z 65 cs s w):
  Calls Try.prog 47 #[.pointer (some ⟨p.qb,0,none⟩)] w fun e w'=>e=.returned (.tuple #[s.q.headQ.agg,.bool s.q.someQ])∧Hid (LX W p z 65 cs (s.withQ s.q.shiftQ) w'):=by
 obtain ⟨g,i,h1,h2,h3⟩:=h.ex
 exact (wq_Shift p.qb p.qr g s.q w h1.q ho).mono fun e w' k=>⟨k.e,Lib.hid (h.q h1 h2 h3 k)⟩
theorem lx_Put (W:World) (p:PL) (z:Nat) (cs:Array Value) (s:LS) (x:Pk) (c:Nat) (ho:s.j.ok) (ht:s.t≤18446744073709551615) (hc:c≤18446744073709551615) (hm:s.j.l.length≤5000) (w:World) (h:LX W p z 65 cs s w):
  Calls Try.prog 48 #[.pointer (some ⟨p.jb,0,none⟩),.agg #[.int .u64 (x.n:Int),.int .u64 (x.size:Int),.int .u64 (x.sent:Int),.int .u64 (x.first:Int),.int .u64 (x.deliv:Int),.int .u64 (x.at_:Int),.bool x.lim],.int .u64 (s.t:Int),.int .u64 (c:Int)] w fun e w'=>e=.returned (.int .u64 ((s.j.dueB s.t c:Nat):Int))∧Hid (LX W p z 65 cs (s.withJ (s.j.putB x s.t c)) w'):=by
 obtain ⟨g,i,h1,h2,h3⟩:=h.ex
 exact (bx_Put p.jb p.jr i x s.t c s.j w h1.j ho ht hc hm).mono fun e w' k=>⟨k.e,Lib.hid (h.j h1 h2 h3 k.at_ k.fr)⟩
theorem lx_ptr {W:World} {p:PL} {z:Nat} {cs:Array Value} {s:LS}:(∀w,Hid (LX W p z 65 cs s w)→w.cell? ⟨p.b,4,none⟩=some (.pointer (some ⟨p.kb,0,none⟩)))∧(∀w,Hid (LX W p z 65 cs s w)→w.cell? ⟨p.b,5,none⟩=some (.pointer (some ⟨p.qb,0,none⟩)))∧(∀w,Hid (LX W p z 65 cs s w)→w.cell? ⟨p.b,6,none⟩=some (.pointer (some ⟨p.jb,0,none⟩)))∧(∀w,Hid (LX W p z 65 cs s w)→w.cell? ⟨p.b,7,none⟩=some (.int .u64 (s.t:Int))):=
 ⟨fun w h=>h.out.li.kp.1,fun w h=>h.out.li.kp.2.1,fun w h=>h.out.li.kp.2.2,fun w h=>h.out.li.cell (fun _=>rfl)⟩
def rowQ (w:World) (rb:Nat):Nat:=(intOf ((w.cell? ⟨rb,2,none⟩).getD undef)).toNat
theorem rowQ_eq {w:World} {rb g:Nat} {l:List Pk} (h:PkRow w rb g l):rowQ w rb=l.length:=by
 obtain ⟨q,h1,h2,h3⟩:=h
 have:=h3.head.cell (i:=2) (v:=.int .i64 (q.cnt:Int)) rfl
 unfold rowQ
 rw [this,← h2,QS.len_items]
 rfl
theorem LI.rowQ {W w:World} {p:PL} {s:LS} (h:LI W p s w):rowQ w p.qr=s.q.l.length:=by
 obtain ⟨g,i,h1,_⟩:=h.at_
 exact rowQ_eq h1.q.row
structure SvI (W:World) (p:PL) (s:LS) (cs:List Nat) (ao:Option Addr) (cap z:Nat) (s1:LS) (c1:List Nat) (w:World):Prop where
 x:LX W p z 65 (s1.q.headQ.cs).toArray s1 w
 e:s1.serve c1=s.serve cs
 nus:Nus W ao c1
 ap:0 < c1.length→Apart ao p.l
 mx:∀c∈c1,c≤18446744073709551615
 ok:s1.ok 5000
 cap:c1.length≤cap
theorem getD_max {l:List Nat} (h:∀c∈l,c≤18446744073709551615):l.getD 0 0≤18446744073709551615:=by
 cases l with
 | nil=>exact Nat.zero_le _
 | cons c t=>exact h c (by simp)
theorem drop_max {l:List Nat} (h:∀c∈l,c≤18446744073709551615):∀c∈l.drop 1,c≤18446744073709551615:=fun c hc=>h c (List.mem_of_mem_drop hc)
theorem Nus.drop {w:World} {b off:Nat} {l:List Nat} (h:Nus w (some ⟨b,off,none⟩) l):Nus w (some ⟨b,off + 1,none⟩) (l.drop 1):=by
 intro hp
 rw [List.length_drop] at hp
 obtain ⟨b',off',e,hb,hc⟩:=h (by omega)
 injection e with e
 injection e with e1 e2
 subst e1 e2
 refine ⟨b,off + 1,rfl,hb,fun i hi=>?_⟩
 rw [List.length_drop] at hi
 have:=hc (i + 1) (by omega)
 rw [show off + 1 + i=off + (i + 1) by omega,this]
 simp
set_option maxRecDepth 100000 in
set_option maxHeartbeats 2000000 in
theorem lk_serve (p:PL) (s:LS) (cs:List Nat) (ao:Option Addr) (cap:Nat) (W:World) (h:LkAt W p s) (ho:s.ok 5000) (hi:Nus W ao cs) (ha:0 < cs.length→Apart ao p.l) (hm:∀c∈cs,c≤18446744073709551615) (hcap:cs.length≤cap) (hcl:cap≤9223372036854775807):
  Calls Try.prog 25 #[.pointer (some ⟨p.b,0,none⟩),.slice ao cs.length cap] W (LPost W p (.tuple #[]) (s.serve cs)):=by
 have H0:=Lib.hid (LI.start h)
 have HI:=Lib.hid hi
 have HH:=Lib.hid (fun (s:LS) w h=>li_Head W p s w h)
 have c5:=(LI.start h).kp.2.1
 have HO:=Lib.hid ho
 have HM:=Lib.hid hm
 clear h ho hi hm
 go_enter Try.func25,Try.ntmps25
 go_wp2_with fail
 refine (HH.out s _ H0.out).mono ?_
 rintro e w1 ⟨rfl,hb⟩
 have H1:=Lib.hid (H0.out.to hb)
 clear hb c5 H0
 have HB:Hid (LX W p w1.heap.size 65 (s.q.headQ.cs).toArray s (w1.alloc (.cells (s.q.headQ.cs).toArray 65))):=Lib.hid (H1.out.box _ _)
 have HE:Hid (s.q.headQ.agg=.agg (s.q.headQ.cs).toArray):=Lib.hid rfl
 clear H1
 unfold pkgot Pk.agg
 generalize hx:s.q.headQ=x at *
 have HX:=Lib.hid hx
 clear hx
 generalize hq:s.q.someQ=q at *
 have HQ:=Lib.hid hq
 clear hq
 go_wp2_with fail
 go_loopw [1,4,5,6] (fun a b c d wr=>∃s1 c1 ao1 cap1 z,a=.slice ao1 c1.length cap1∧cap1≤cap∧b=.pointer (some ⟨z,0,none⟩)∧c=.bool s1.q.someQ∧Hid (SvI W p s cs ao1 cap1 z s1 c1 wr)) (fun _ _ _ _ wr=>rowQ wr p.qr)
 case atStart=>exact ⟨s,cs,ao,cap,w1.heap.size,rfl,Nat.le_refl _,rfl,by rw [HQ.out],Lib.hid ⟨by rw [HX.out];exact HB.out,rfl,HI.out,ha,HM.out,HO.out,hcap⟩⟩
 case round=>
  clear HB HI HE HX HQ HO HM ha hcap
  obtain ⟨s1,c1,ao1,cap1,z,rfl,hcap1,rfl,rfl,HS⟩:=hrel
  have HX:=Lib.hid HS.out.x
  have HE:=Lib.hid HS.out.e
  have HOk:=Lib.hid HS.out.ok
  have HN:=Lib.hid HS.out.nus
  have HA:=Lib.hid HS.out.ap
  have HMx:=Lib.hid HS.out.mx
  have HCp:=HS.out.cap
  have HRow:=Lib.hid HS.out.x.li.rowQ
  clear HS
  cases hq:s1.q.someQ with
  | false=>
    have EE:Hid (s1=s.serve cs):=Lib.hid (by rw [← HE.out];exact (LS.serve_no (by unfold LS.may;rw [hq];exact Bool.false_and _) c1).symm)
    have M0:Hid (LX W p z 65 (s1.q.headQ.cs).toArray s1 wr.drew):=Lib.hid HX.out.drew
    clear HX HE HOk HN HA HMx HCp hq HRow HH
    go_wp2_with fail
    refine wp_region_chain (S:=(fun w'=>Hid (LX W p z 65 (s1.q.headQ.cs).toArray s1 w'))) 9 (by kernel_rfl) (by kernel_rfl) (by kernel_rfl) M0 ?_
    generalize wr.drew=wd at *
    simp only [List.size_toArray,List.length_cons,List.length_nil,Nat.reduceAdd,Array.replicate_succ,Array.replicate_zero,List.push_toArray,List.nil_append,List.cons_append]
    refine Chain.take (i:=0) (oi:=⟨some 15,_,_,_,_,_⟩) (v:=?v1) rfl (by kernel_rfl) (by kernel_rfl) (Or.inl ⟨by rfl,?y1⟩) ?rest1
    case y1=>intro w hSw;clear hSw;go_simp;(try with_reducible rfl)
    simp only [Act.put,List.setIfInBounds_toArray,List.set_cons_zero,List.set_cons_succ]
    refine Chain.take (i:=1) (oi:=⟨some 16,_,_,_,_,_⟩) (v:=?v2) rfl (by kernel_rfl) (by kernel_rfl) (Or.inl ⟨by rfl,?y2⟩) ?rest2
    case y2=>intro w hSw;clear hSw;go_simp;(try with_reducible rfl)
    simp only [Act.put,List.setIfInBounds_toArray,List.set_cons_zero,List.set_cons_succ]
    refine Chain.take (i:=2) (oi:=⟨some 17,_,_,_,_,_⟩) (v:=undef) rfl (by kernel_rfl) (by kernel_rfl) (Or.inr ⟨by rfl,rfl⟩) ?_
    simp only [Act.put,List.setIfInBounds_toArray,List.set_cons_zero,List.set_cons_succ]
    refine Chain.take (i:=3) (oi:=⟨some 18,_,_,_,_,_⟩) (v:=undef) rfl (by kernel_rfl) (by kernel_rfl) (Or.inr ⟨by rfl,rfl⟩) ?_
    simp only [Act.put,List.setIfInBounds_toArray,List.set_cons_zero,List.set_cons_succ]
    refine Chain.take (i:=4) (oi:=⟨some 19,_,_,_,_,_⟩) (v:=undef) rfl (by kernel_rfl) (by kernel_rfl) (Or.inr ⟨by rfl,rfl⟩) ?_
    simp only [Act.put,List.setIfInBounds_toArray,List.set_cons_zero,List.set_cons_succ]
    refine Chain.take (i:=5) (oi:=⟨some 20,_,_,_,_,_⟩) (v:=undef) rfl (by kernel_rfl) (by kernel_rfl) (Or.inr ⟨by rfl,rfl⟩) ?_
    simp only [Act.put,List.setIfInBounds_toArray,List.set_cons_zero,List.set_cons_succ]
    refine Chain.take (i:=6) (oi:=⟨some 21,_,_,_,_,_⟩) (v:=undef) rfl (by kernel_rfl) (by kernel_rfl) (Or.inr ⟨by rfl,rfl⟩) ?_
    simp only [Act.put,List.setIfInBounds_toArray,List.set_cons_zero,List.set_cons_succ]
    refine Chain.take (i:=7) (oi:=⟨some 22,_,_,_,_,_⟩) (v:=undef) rfl (by kernel_rfl) (by kernel_rfl) (Or.inr ⟨by rfl,rfl⟩) ?_
    simp only [Act.put,List.setIfInBounds_toArray,List.set_cons_zero,List.set_cons_succ]
    refine Chain.take (i:=8) (oi:=⟨some 23,_,_,_,_,_⟩) (v:=undef) rfl (by kernel_rfl) (by kernel_rfl) (Or.inr ⟨by rfl,rfl⟩) ?_
    simp only [Act.put,List.setIfInBounds_toArray,List.set_cons_zero,List.set_cons_succ]
    refine Chain.last (by kernel_rfl) (fun w hSw=>?_)
    refine wpAnyH_ready (rs:=[9]) (by kernel_rfl) (by simp) ?_
    refine AllReadyH.cons (o:=⟨some 24,_,_,_,_,_⟩) rfl (fun K hK=>?_) AllReadyH.nil
    have M1:=hSw
    go_simp
    refine hK.out _ _ trivial (fun _=>?_)
    clear hK
    try simp only [List.setIfInBounds_toArray,List.set_cons_zero,List.set_cons_succ]
    refine wpAnyH_done (by kernel_rfl) ?_ _
    skip
    go_wp2_with fail
    go_end0
    rw [← EE.out]
    exact ⟨rfl,M1.out.li⟩
  | true=>
    obtain ⟨x,hx⟩:∃x,x=s1.q.headQ:=⟨_,rfl⟩
    have HXx:=Lib.hid hx
    have hxz:x.size≤18446744073709551615:=by rw [hx];exact QK.head_ok HOk.out.q.ok
    have M0:Hid (LX W p z 65 #[.int .u64 (x.n:Int),.int .u64 (x.size:Int),.int .u64 (x.sent:Int),.int .u64 (x.first:Int),.int .u64 (x.deliv:Int),.int .u64 (x.at_:Int),.bool x.lim] s1 wr.drew):=Lib.hid (by have:=HX.out.drew;rw [← hx] at this;exact this)
    have HT:=Lib.hid (lx_Take W p z #[.int .u64 (x.n:Int),.int .u64 (x.size:Int),.int .u64 (x.sent:Int),.int .u64 (x.first:Int),.int .u64 (x.deliv:Int),.int .u64 (x.at_:Int),.bool x.lim] s1 x.size HOk.out.k hxz)
    obtain ⟨r4,_,_,_⟩:=lx_ptr (W:=W) (p:=p) (z:=z) (cs:=#[.int .u64 (x.n:Int),.int .u64 (x.size:Int),.int .u64 (x.sent:Int),.int .u64 (x.first:Int),.int .u64 (x.deliv:Int),.int .u64 (x.at_:Int),.bool x.lim]) (s:=s1)
    have rz:=lx_size (W:=W) (p:=p) (z:=z) (s:=s1) x
    have HMy:Hid (s1.may=s1.k.takeB x.size):=Lib.hid (by unfold LS.may;rw [hq,← hx];exact Bool.true_and _)
    have HQ:=Lib.hid hq
    have HXz:=Lib.hid hxz
    obtain ⟨k1,hk1⟩:∃k1,k1=s1.k.takeS x.size:=⟨_,rfl⟩
    obtain ⟨tb,htb⟩:∃tb,tb=s1.k.takeB x.size:=⟨_,rfl⟩
    rw [← hk1,← htb] at HT
    rw [← htb] at HMy
    have HK1:=Lib.hid hk1
    have HTb:=Lib.hid htb
    clear HX hx hq hxz hk1 htb
    go_wp2_with fail
    refine wp_region_chain (S:=(fun w'=>Hid (LX W p z 65 #[.int .u64 (x.n:Int),.int .u64 (x.size:Int),.int .u64 (x.sent:Int),.int .u64 (x.first:Int),.int .u64 (x.deliv:Int),.int .u64 (x.at_:Int),.bool x.lim] s1 w'))) 8 (by kernel_rfl) (by kernel_rfl) (by kernel_rfl) M0 ?_
    generalize wr.drew=wd at *
    simp only [List.size_toArray,List.length_cons,List.length_nil,Nat.reduceAdd,Array.replicate_succ,Array.replicate_zero,List.push_toArray,List.nil_append,List.cons_append]
    refine Chain.take (i:=0) (oi:=⟨some 15,_,_,_,_,_⟩) (v:=?v10) rfl (by kernel_rfl) (by kernel_rfl) (Or.inl ⟨by rfl,?y10⟩) ?rest10
    case y10=>intro w hSw;clear hSw;go_simp;(try with_reducible rfl)
    simp only [Act.put,List.setIfInBounds_toArray,List.set_cons_zero,List.set_cons_succ]
    refine Chain.take (i:=1) (oi:=⟨some 16,_,_,_,_,_⟩) (v:=?v11) rfl (by kernel_rfl) (by kernel_rfl) (Or.inl ⟨by rfl,?y11⟩) ?rest11
    case y11=>intro w hSw;clear hSw;go_simp;(try with_reducible rfl)
    simp only [Act.put,List.setIfInBounds_toArray,List.set_cons_zero,List.set_cons_succ]
    refine Chain.take (i:=2) (oi:=⟨some 17,_,_,_,_,_⟩) (v:=?v12) rfl (by kernel_rfl) (by kernel_rfl) (Or.inl ⟨by rfl,?y12⟩) ?rest12
    case y12=>intro w hSw;clear hSw;go_simp;(try with_reducible rfl)
    simp only [Act.put,List.setIfInBounds_toArray,List.set_cons_zero,List.set_cons_succ]
    refine Chain.take (i:=3) (oi:=⟨some 18,_,_,_,_,_⟩) (v:=?v13) rfl (by kernel_rfl) (by kernel_rfl) (Or.inl ⟨by rfl,?y13⟩) ?rest13
    case y13=>intro w hSw;clear hSw;go_simp;(try with_reducible rfl)
    simp only [Act.put,List.setIfInBounds_toArray,List.set_cons_zero,List.set_cons_succ]
    refine Chain.take (i:=4) (oi:=⟨some 19,_,_,_,_,_⟩) (v:=?v14) rfl (by kernel_rfl) (by kernel_rfl) (Or.inl ⟨by rfl,?y14⟩) ?rest14
    case y14=>intro w hSw;clear hSw;go_simp;(try with_reducible rfl)
    simp only [Act.put,List.setIfInBounds_toArray,List.set_cons_zero,List.set_cons_succ]
    refine Chain.take (i:=5) (oi:=⟨some 20,_,_,_,_,_⟩) (v:=?v15) rfl (by kernel_rfl) (by kernel_rfl) (Or.inl ⟨by rfl,?y15⟩) ?rest15
    case y15=>intro w hSw;go_simp;(try with_reducible rfl)
    simp only [Act.put,List.setIfInBounds_toArray,List.set_cons_zero,List.set_cons_succ]
    refine Chain.take (i:=6) (oi:=⟨some 21,_,_,_,_,_⟩) (v:=?v16) rfl (by kernel_rfl) (by kernel_rfl) (Or.inl ⟨by rfl,?y16⟩) ?rest16
    case y16=>intro w hSw;clear hSw;go_simp;(try with_reducible rfl)
    simp only [Act.put,List.setIfInBounds_toArray,List.set_cons_zero,List.set_cons_succ]
    refine Chain.take (i:=7) (oi:=⟨some 22,_,_,_,_,_⟩) (v:=?v17) rfl (by kernel_rfl) (by kernel_rfl) (Or.inl ⟨by rfl,?y17⟩) ?rest17
    case y17=>intro w hSw;go_simp;(try with_reducible rfl)
    simp only [Act.put,List.setIfInBounds_toArray,List.set_cons_zero,List.set_cons_succ]
    refine Chain.last (by kernel_rfl) (fun w hSw=>?_)
    refine wpAnyH_ready (rs:=[8]) (by kernel_rfl) (by simp) ?_
    refine AllReadyH.cons (o:=⟨some 23,_,_,_,_,_⟩) rfl (fun K hK=>?_) AllReadyH.nil
    go_simp
    refine (HT.out _ hSw.out).mono ?_
    rintro e w1 ⟨rfl,M1⟩
    clear hSw M0 HT r4 rz
    go_wp2_with fail
    refine hK.out _ _ trivial (fun _=>?_)
    clear hK
    try simp only [List.setIfInBounds_toArray,List.set_cons_zero,List.set_cons_succ]
    refine wpAnyH_take (i:=9) (oi:=⟨some 24,_,_,_,_,_⟩) (v:=?v18) rfl (by kernel_rfl) (by kernel_rfl) (by kernel_rfl) (fun _ _ _ h=>h) (Or.inl ⟨by rfl,?y18⟩) trivial ?rest18
    case y18=>intro w hSw;clear hSw;go_simp;(try with_reducible rfl)
    simp only [Act.put,List.setIfInBounds_toArray,List.set_cons_zero,List.set_cons_succ]
    refine wpAnyH_done (by kernel_rfl) ?_ _
    skip
    cases hb:tb with
    | false=>
      have EE:Hid (s1=s.serve cs):=Lib.hid (by rw [← HE.out];exact (LS.serve_no (by rw [HMy.out,hb]) c1).symm)
      have EK:Hid (k1=s1.k):=Lib.hid (by rw [HK1.out];exact take_no (by rw [← HTb.out];exact hb))
      rw [EK.out,with_k] at M1
      clear EK HK1 HTb HE HOk HN HA HMx HCp HRow HH HMy
      subst hb
      go_wp2_with fail
      go_end0
      rw [← EE.out]
      exact ⟨rfl,M1.out.li⟩
    | true=>
      have HY:Hid (s1.may=true):=Lib.hid (by rw [HMy.out,hb])
      subst hb
      clear HMy HTb
      obtain ⟨c,hc⟩:∃c,c=c1.getD 0 0:=⟨_,rfl⟩
      have HCm:Hid (c≤18446744073709551615):=Lib.hid (by rw [hc];exact getD_max HMx.out)
      have HC:=Lib.hid hc
      have HEs:Hid ((s1.serve1 c).serve (c1.drop 1)=s.serve cs):=Lib.hid (by rw [hc,← HE.out];exact (LS.serve_yes HY.out c1).symm)
      have HEw:Hid (s1.serve1 c=(((s1.withK k1).withQ s1.q.shiftQ).withJ (s1.j.putB x s1.t c)).withS (s1.served + x.size)):=Lib.hid (by rw [serve1_with,← HXx.out,← HK1.out])
      have HOk2:=Lib.hid (HOk.out.serve1 HY.out c)
      have HLe:=Lib.hid (LS.serve1_len HY.out c)
      have r5:=lx_ptr (W:=W) (p:=p) (z:=z) (cs:=#[.int .u64 (x.n:Int),.int .u64 (x.size:Int),.int .u64 (x.sent:Int),.int .u64 (x.first:Int),.int .u64 (x.deliv:Int),.int .u64 (x.at_:Int),.bool x.lim]) (s:=s1.withK k1)
      have c5:=r5.2.1 _ M1
      have HSh:=Lib.hid (lx_Shift W p z #[.int .u64 (x.n:Int),.int .u64 (x.size:Int),.int .u64 (x.sent:Int),.int .u64 (x.first:Int),.int .u64 (x.deliv:Int),.int .u64 (x.at_:Int),.bool x.lim] (s1.withK k1) HOk.out.q.ok)
      have HNw:=Lib.hid (HN.out.frl M1.out.fr HA.out)
      clear HE HY r5
      by_cases h0:c1.length=0
      ·obtain rfl:=List.eq_nil_of_length_eq_zero h0
       have hc0:c=0:=HC.out
       have HA2:Hid (0 < (([]:List Nat).drop 1).length→Apart ao1 p.l):=Lib.hid (fun h=>absurd h (by simp))
       have HN2:Hid (Nus W ao1 (([]:List Nat).drop 1)):=Lib.hid (Nus.nil _ _)
       have HC2:(([]:List Nat).drop 1).length≤cap1:=HCp
       have HC3:=hcap1
       clear HN HNw HC hc h0 HCp HA
       subst hc0
       go_wp2_with fail
       refine (HSh.out _ M1.out).mono ?_
       rintro e w3 ⟨rfl,M3a⟩
       have M3b:Hid (LX W p z 65 #[.int .u64 (x.n:Int),.int .u64 (x.size:Int),.int .u64 (x.sent:Int),.int .u64 (x.first:Int),.int .u64 (x.deliv:Int),.int .u64 (x.at_:Int),.bool x.lim] ((s1.withK k1).withQ s1.q.shiftQ) w3):=M3a
       obtain ⟨s3,hs3⟩:∃s3,s3=(s1.withK k1).withQ s1.q.shiftQ:=⟨_,rfl⟩
       have Ej:Hid (s3.j=s1.j∧s3.t=s1.t∧s3.served=s1.served):=Lib.hid (by rw [hs3];exact ⟨rfl,rfl,rfl⟩)
       have EW:Hid (∀j n,(s3.withJ j).withS n=(((s1.withK k1).withQ s1.q.shiftQ).withJ j).withS n):=Lib.hid (fun j n=>by rw [hs3])
       rw [← hs3] at M3b
       have HP:=Lib.hid (lx_Put W p z #[.int .u64 (x.n:Int),.int .u64 (x.size:Int),.int .u64 (x.sent:Int),.int .u64 (x.first:Int),.int .u64 (x.deliv:Int),.int .u64 (x.at_:Int),.bool x.lim] s3 x 0 (by rw [Ej.out.1];exact HOk.out.j) (by rw [Ej.out.2.1];exact HOk.out.t) HCm.out (by rw [Ej.out.1];have:=HOk.out.n;omega))
       have EF:Hid (s1.serve1 0=(s3.withJ (s3.j.putB x s3.t 0)).withS (s3.served + x.size)):=Lib.hid (by rw [HEw.out,EW.out,Ej.out.1,Ej.out.2.1,Ej.out.2.2])
       have HSb:Hid (s3.served≤1267650600228229401496703205376):=Lib.hid (by rw [Ej.out.2.2];have:=HOk.out.c1;have:=HOk.out.came;omega)
       obtain ⟨_,_,r6,r7⟩:=lx_ptr (W:=W) (p:=p) (z:=z) (cs:=#[.int .u64 (x.n:Int),.int .u64 (x.size:Int),.int .u64 (x.sent:Int),.int .u64 (x.first:Int),.int .u64 (x.deliv:Int),.int .u64 (x.at_:Int),.bool x.lim]) (s:=s3)
       obtain ⟨z0,z1,z2,z3,z4,z5,z6⟩:=lx_pk (W:=W) (p:=p) (z:=z) (s:=s3) x
       have M3:=Lib.hid M3b.out.drew
       clear M3a M3b hs3 EW Ej HEw HOk HSh c5 M1 HCm
       unfold Pk.agg
       go_wp2_with fail
       refine wp_region_chain (S:=(fun w'=>Hid (LX W p z 65 #[.int .u64 (x.n:Int),.int .u64 (x.size:Int),.int .u64 (x.sent:Int),.int .u64 (x.first:Int),.int .u64 (x.deliv:Int),.int .u64 (x.at_:Int),.bool x.lim] s3 w'))) 10 (by kernel_rfl) (by kernel_rfl) (by kernel_rfl) M3 ?_
       generalize w3.drew=wd at *
       simp only [List.size_toArray,List.length_cons,List.length_nil,Nat.reduceAdd,Array.replicate_succ,Array.replicate_zero,List.push_toArray,List.nil_append,List.cons_append]
       refine Chain.take (i:=0) (oi:=⟨some 46,_,_,_,_,_⟩) (v:=?v19) rfl (by kernel_rfl) (by kernel_rfl) (Or.inl ⟨by rfl,?y19⟩) ?rest19
       case y19=>intro w hSw;clear hSw;go_simp;(try with_reducible rfl)
       simp only [Act.put,List.setIfInBounds_toArray,List.set_cons_zero,List.set_cons_succ]
       refine Chain.take (i:=1) (oi:=⟨some 47,_,_,_,_,_⟩) (v:=?v20) rfl (by kernel_rfl) (by kernel_rfl) (Or.inl ⟨by rfl,?y20⟩) ?rest20
       case y20=>intro w hSw;clear hSw;go_simp;(try with_reducible rfl)
       simp only [Act.put,List.setIfInBounds_toArray,List.set_cons_zero,List.set_cons_succ]
       refine Chain.take (i:=2) (oi:=⟨some 48,_,_,_,_,_⟩) (v:=?v21) rfl (by kernel_rfl) (by kernel_rfl) (Or.inl ⟨by rfl,?y21⟩) ?rest21
       case y21=>intro w hSw;clear hSw;go_simp;(try with_reducible rfl)
       simp only [Act.put,List.setIfInBounds_toArray,List.set_cons_zero,List.set_cons_succ]
       refine Chain.take (i:=3) (oi:=⟨some 49,_,_,_,_,_⟩) (v:=?v22) rfl (by kernel_rfl) (by kernel_rfl) (Or.inl ⟨by rfl,?y22⟩) ?rest22
       case y22=>intro w hSw;go_simp;(try with_reducible rfl)
       simp only [Act.put,List.setIfInBounds_toArray,List.set_cons_zero,List.set_cons_succ]
       refine Chain.take (i:=4) (oi:=⟨some 50,_,_,_,_,_⟩) (v:=?v23) rfl (by kernel_rfl) (by kernel_rfl) (Or.inl ⟨by rfl,?y23⟩) ?rest23
       case y23=>intro w hSw;go_simp;(try with_reducible rfl)
       simp only [Act.put,List.setIfInBounds_toArray,List.set_cons_zero,List.set_cons_succ]
       refine Chain.take (i:=5) (oi:=⟨some 51,_,_,_,_,_⟩) (v:=?v24) rfl (by kernel_rfl) (by kernel_rfl) (Or.inl ⟨by rfl,?y24⟩) ?rest24
       case y24=>intro w hSw;clear hSw;go_simp;(try with_reducible rfl)
       simp only [Act.put,List.setIfInBounds_toArray,List.set_cons_zero,List.set_cons_succ]
       refine Chain.take (i:=6) (oi:=⟨some 52,_,_,_,_,_⟩) (v:=?v25) rfl (by kernel_rfl) (by kernel_rfl) (Or.inl ⟨by rfl,?y25⟩) ?rest25
       case y25=>intro w hSw;clear hSw;go_simp;(try with_reducible rfl)
       simp only [Act.put,List.setIfInBounds_toArray,List.set_cons_zero,List.set_cons_succ]
       refine Chain.take (i:=7) (oi:=⟨some 53,_,_,_,_,_⟩) (v:=?v26) rfl (by kernel_rfl) (by kernel_rfl) (Or.inl ⟨by rfl,?y26⟩) ?rest26
       case y26=>intro w hSw;clear hSw;go_simp;(try with_reducible rfl)
       simp only [Act.put,List.setIfInBounds_toArray,List.set_cons_zero,List.set_cons_succ]
       refine Chain.take (i:=8) (oi:=⟨some 54,_,_,_,_,_⟩) (v:=?v27) rfl (by kernel_rfl) (by kernel_rfl) (Or.inl ⟨by rfl,?y27⟩) ?rest27
       case y27=>intro w hSw;go_simp;(try with_reducible rfl)
       simp only [Act.put,List.setIfInBounds_toArray,List.set_cons_zero,List.set_cons_succ]
       refine Chain.take (i:=9) (oi:=⟨some 55,_,_,_,_,_⟩) (v:=?v28) rfl (by kernel_rfl) (by kernel_rfl) (Or.inl ⟨by rfl,?y28⟩) ?rest28
       case y28=>intro w hSw;clear hSw;go_simp;(try with_reducible rfl)
       simp only [Act.put,List.setIfInBounds_toArray,List.set_cons_zero,List.set_cons_succ]
       refine Chain.last (by kernel_rfl) (fun w hSw=>?_)
       refine wpAnyH_ready (rs:=[10]) (by kernel_rfl) (by simp) ?_
       refine AllReadyH.cons (o:=⟨some 56,_,_,_,_,_⟩) rfl (fun K hK=>?_) AllReadyH.nil
       go_simp
       refine (HP.out _ hSw.out).mono ?_
       rintro e w4 ⟨rfl,M4⟩
       clear hSw M3 HP r6 r7 z0 z1 z2 z3 z4 z5 z6
       go_wp2_with fail
       refine hK.out _ _ trivial (fun _=>?_)
       clear hK
       try simp only [List.setIfInBounds_toArray,List.set_cons_zero,List.set_cons_succ]
       refine wpAnyH_done (by kernel_rfl) ?_ _
       skip
       obtain ⟨s4,hs4⟩:∃s4,s4=s3.withJ (s3.j.putB x s3.t 0):=⟨_,rfl⟩
       have E4:s4.served=s3.served:=by rw [hs4];rfl
       rw [← hs4,← E4] at EF
       rw [← hs4] at M4
       rw [← E4] at HSb
       obtain ⟨c0,hc0'⟩:∃c0,c0=s4.served:=⟨_,rfl⟩
       rw [← hc0'] at EF HSb
       obtain ⟨rh,rl⟩:=lx_served (W:=W) (p:=p) (z:=z) (cs:=#[.int .u64 (x.n:Int),.int .u64 (x.size:Int),.int .u64 (x.sent:Int),.int .u64 (x.first:Int),.int .u64 (x.deliv:Int),.int .u64 (x.at_:Int),.bool x.lim]) (s:=s4)
       rw [← hc0'] at rh rl
       clear E4 hs4 hc0'
       have rz:=lx_size (W:=W) (p:=p) (z:=z) (s:=s4) x
       have HM:=Lib.hid (lx_more W p z #[.int .u64 (x.n:Int),.int .u64 (x.size:Int),.int .u64 (x.sent:Int),.int .u64 (x.first:Int),.int .u64 (x.deliv:Int),.int .u64 (x.at_:Int),.bool x.lim] s4 c0 x.size HSb.out HXz.out)
       have HCs:Hid (∀(c:Nat) (p:PL),((s4.cells p).setIfInBounds 10 (.int .u64 (LS.hi c:Int))).setIfInBounds 11 (.int .u64 (LS.lo c:Int))=(s4.withS c).cells p):=Lib.hid (fun c p=>set_served s4 c p)
       have M0:=Lib.hid M4.out.drew
       clear M4
       go_wp2_with fail
       refine wp_region_chain (S:=(fun w'=>Hid (LX W p z 65 #[.int .u64 (x.n:Int),.int .u64 (x.size:Int),.int .u64 (x.sent:Int),.int .u64 (x.first:Int),.int .u64 (x.deliv:Int),.int .u64 (x.at_:Int),.bool x.lim] (s4) w'))) 10 (by kernel_rfl) (by kernel_rfl) (by kernel_rfl) M0 ?_
       simp only [List.size_toArray,List.length_cons,List.length_nil,Nat.reduceAdd,Array.replicate_succ,Array.replicate_zero,List.push_toArray,List.nil_append,List.cons_append]
       refine Chain.take (i:=0) (oi:=⟨some 57,_,_,_,_,_⟩) (v:=?v29) rfl (by kernel_rfl) (by kernel_rfl) (Or.inl ⟨by rfl,?y29⟩) ?rest29
       case y29=>intro w hSw;clear hSw;go_simp;(try with_reducible rfl)
       simp only [Act.put,List.setIfInBounds_toArray,List.set_cons_zero,List.set_cons_succ]
       refine Chain.take (i:=1) (oi:=⟨some 58,_,_,_,_,_⟩) (v:=?v30) rfl (by kernel_rfl) (by kernel_rfl) (Or.inl ⟨by rfl,?y30⟩) ?rest30
       case y30=>intro w hSw;clear hSw;go_simp;(try with_reducible rfl)
       simp only [Act.put,List.setIfInBounds_toArray,List.set_cons_zero,List.set_cons_succ]
       refine Chain.take (i:=2) (oi:=⟨some 59,_,_,_,_,_⟩) (v:=?v31) rfl (by kernel_rfl) (by kernel_rfl) (Or.inl ⟨by rfl,?y31⟩) ?rest31
       case y31=>intro w hSw;clear hSw;go_simp;(try with_reducible rfl)
       simp only [Act.put,List.setIfInBounds_toArray,List.set_cons_zero,List.set_cons_succ]
       refine Chain.take (i:=3) (oi:=⟨some 60,_,_,_,_,_⟩) (v:=?v32) rfl (by kernel_rfl) (by kernel_rfl) (Or.inl ⟨by rfl,?y32⟩) ?rest32
       case y32=>intro w hSw;clear hSw;go_simp;(try with_reducible rfl)
       simp only [Act.put,List.setIfInBounds_toArray,List.set_cons_zero,List.set_cons_succ]
       refine Chain.take (i:=4) (oi:=⟨some 61,_,_,_,_,_⟩) (v:=?v33) rfl (by kernel_rfl) (by kernel_rfl) (Or.inl ⟨by rfl,?y33⟩) ?rest33
       case y33=>intro w hSw;go_simp;(try with_reducible rfl)
       simp only [Act.put,List.setIfInBounds_toArray,List.set_cons_zero,List.set_cons_succ]
       refine Chain.take (i:=5) (oi:=⟨some 62,_,_,_,_,_⟩) (v:=?v34) rfl (by kernel_rfl) (by kernel_rfl) (Or.inl ⟨by rfl,?y34⟩) ?rest34
       case y34=>intro w hSw;clear hSw;go_simp;(try with_reducible rfl)
       simp only [Act.put,List.setIfInBounds_toArray,List.set_cons_zero,List.set_cons_succ]
       refine Chain.take (i:=6) (oi:=⟨some 63,_,_,_,_,_⟩) (v:=?v35) rfl (by kernel_rfl) (by kernel_rfl) (Or.inl ⟨by rfl,?y35⟩) ?rest35
       case y35=>intro w hSw;go_simp;(try with_reducible rfl)
       simp only [Act.put,List.setIfInBounds_toArray,List.set_cons_zero,List.set_cons_succ]
       refine' Chain.call (i:=7) (oi:=⟨some 64,_,_,_,_,_⟩) _ _ rfl (by kernel_rfl) (by kernel_rfl) (by rfl) ?he36 (fun w hS=>HM.out w hS) ?rest36
       case he36=>intro w;go_simp
       simp only [Act.put,List.setIfInBounds_toArray,List.set_cons_zero,List.set_cons_succ]
       refine Chain.take (i:=8) (oi:=⟨some 65,_,_,_,_,_⟩) (v:=?v37) rfl (by kernel_rfl) (by kernel_rfl) (Or.inl ⟨by rfl,?y37⟩) ?rest37
       case y37=>intro w hSw;clear hSw;go_simp;(try with_reducible rfl)
       simp only [Act.put,List.setIfInBounds_toArray,List.set_cons_zero,List.set_cons_succ]
       refine Chain.take (i:=9) (oi:=⟨some 66,_,_,_,_,_⟩) (v:=?v38) rfl (by kernel_rfl) (by kernel_rfl) (Or.inl ⟨by rfl,?y38⟩) ?rest38
       case y38=>intro w hSw;clear hSw;go_simp;(try with_reducible rfl)
       simp only [Act.put,List.setIfInBounds_toArray,List.set_cons_zero,List.set_cons_succ]
       refine Chain.last (by kernel_rfl) (fun w hSw=>?_)
       refine wpAnyH_ready (rs:=[10]) (by kernel_rfl) (by simp) ?_
       refine AllReadyH.cons (o:=⟨none,_,_,_,_,_⟩) rfl (fun K hK=>?_) AllReadyH.nil
       have g0:=hSw.out.li.free 10
       have g1:=hSw.out.li.free 11
       have g2:=rh _ hSw
       have g3:=rl _ hSw
       have M2:=Lib.hid (hSw.out.set2 (s':=(s4).withS (c0 + x.size)) 10 11 (.int .u64 (LS.hi (c0 + x.size):Int)) (.int .u64 (LS.lo (c0 + x.size):Int)) (HCs.out _ _) ⟨rfl,rfl,rfl⟩)
       clear hSw rh rl rz
       go_simp
       refine hK.out _ _ trivial (fun _=>?_)
       clear hK
       try simp only [List.setIfInBounds_toArray,List.set_cons_zero,List.set_cons_succ]
       refine wpAnyH_done (by kernel_rfl) ?_ _
       skip
       clear HM HCs g0 g1 g2 g3 M0 HSb
       rw [← EF.out] at M2
       generalize (w.setCell ⟨p.b,10,none⟩ (.int .u64 (LS.hi (c0 + x.size):Int))).setCell ⟨p.b,11,none⟩ (.int .u64 (LS.lo (c0 + x.size):Int))=w5 at *
       generalize s1.serve1 0=s5 at *
       have M6:Hid (LX W p w5.heap.size 65 #[.int .u64 (x.n:Int),.int .u64 (x.size:Int),.int .u64 (x.sent:Int),.int .u64 (x.first:Int),.int .u64 (x.deliv:Int),.int .u64 (x.at_:Int),.bool x.lim] s5 (w5.alloc (.cells #[.int .u64 (x.n:Int),.int .u64 (x.size:Int),.int .u64 (x.sent:Int),.int .u64 (x.first:Int),.int .u64 (x.deliv:Int),.int .u64 (x.at_:Int),.bool x.lim] 65))):=Lib.hid (M2.out.li.box _ _)
       have z0:=M2.out.box.cell (i:=0) (v:=.int .u64 (x.n:Int)) rfl
       have z1:=M2.out.box.cell (i:=1) (v:=.int .u64 (x.size:Int)) rfl
       have z2:=M2.out.box.cell (i:=2) (v:=.int .u64 (x.sent:Int)) rfl
       have z3:=M2.out.box.cell (i:=3) (v:=.int .u64 (x.first:Int)) rfl
       have z4:=M2.out.box.cell (i:=4) (v:=.int .u64 (x.deliv:Int)) rfl
       have z5:=M2.out.box.cell (i:=5) (v:=.int .u64 (x.at_:Int)) rfl
       have z6:=M2.out.box.cell (i:=6) (v:=.bool x.lim) rfl
       have c5:=M6.out.li.kp.2.1
       clear EF M2
       go_wp2_with fail
       refine (HH.out s5 _ M6.out.li).mono ?_
       rintro e w6 ⟨rfl,hb⟩
       have M7:=Lib.hid (M6.out.to hb)
       clear hb M6 z0 z1 z2 z3 z4 z5 z6 c5
       generalize w5.heap.size=z' at *
       have z0:=M7.out.box.cell (i:=0) (v:=.int .u64 (x.n:Int)) rfl
       have fz0:=M7.out.box.free 0
       have z1:=M7.out.box.cell (i:=1) (v:=.int .u64 (x.size:Int)) rfl
       have fz1:=M7.out.box.free 1
       have z2:=M7.out.box.cell (i:=2) (v:=.int .u64 (x.sent:Int)) rfl
       have fz2:=M7.out.box.free 2
       have z3:=M7.out.box.cell (i:=3) (v:=.int .u64 (x.first:Int)) rfl
       have fz3:=M7.out.box.free 3
       have z4:=M7.out.box.cell (i:=4) (v:=.int .u64 (x.deliv:Int)) rfl
       have fz4:=M7.out.box.free 4
       have z5:=M7.out.box.cell (i:=5) (v:=.int .u64 (x.at_:Int)) rfl
       have fz5:=M7.out.box.free 5
       have z6:=M7.out.box.cell (i:=6) (v:=.bool x.lim) rfl
       have fz6:=M7.out.box.free 6
       unfold pkgot Pk.agg
       generalize hy:s5.q.headQ=y at *
       have HY:=Lib.hid hy
       clear hy
       generalize hq:s5.q.someQ=q2 at *
       have HQ2:=Lib.hid hq
       clear hq
       go_wp2_with fail
       have M8:=Lib.hid (M7.out.boxed (Itm.cs y) rfl)
       go_roundw
       case rel=>exact ⟨s5,_,_,_,z',rfl,HC3,rfl,by rw [HQ2.out],Lib.hid ⟨by rw [HY.out];exact M8.out,HEs.out,HN2.out,HA2.out,(drop_max HMx.out),HOk2.out,HC2⟩⟩
       case measure=>
        have h1:=M8.out.li.rowQ
        have h2:=HRow.out
        have h3:=HLe.out
        refine Nat.lt_of_le_of_lt (Nat.le_of_eq h1) ?_
        omega
      ·obtain ⟨b,off,rfl,_,hcl0⟩:=HNw.out (by omega)
       have hcell:=hcl0 0 (by omega)
       rw [Nat.add_zero,← hc] at hcell
       have HN3:=Lib.hid HN.out.drop
       have HMd:=Lib.hid (drop_max HMx.out)
       have HA3:Hid (0 < (c1.drop 1).length→Apart (some ⟨b,off + 1,none⟩) p.l):=Lib.hid (fun _ a ha=>by cases ha;exact HA.out (by omega) ⟨b,off,none⟩ rfl)
       have HNn:Hid ((c1.drop 1).length=c1.length - 1):=Lib.hid (List.length_drop ..)
       have HN1:Hid (c1.length=1→c1.drop 1=[]):=Lib.hid (fun h=>List.eq_nil_of_length_eq_zero (by rw [List.length_drop];omega))
       clear HN HNw HC hc hcl0
       generalize c1.drop 1=c2 at *
       generalize c1.length=n at *
       have d0:decide (0 < n)=true:=decide_eq_true (by omega)
       have i0:(0:Int) < (n:Int):=by omega
       have i1:(1:Int)≤(n:Int):=by omega
       have i2:(n:Int)≤(cap1:Int):=by omega
       by_cases hk1:cap1=1
       ·obtain rfl:n=1:=by omega
        subst hk1
        have ec:c2=[]:=HN1.out rfl
        subst ec
        have HA2:Hid (0 < ([]:List Nat).length→Apart (some ⟨b,off,none⟩) p.l):=Lib.hid (fun h=>absurd h (by simp))
        have HN2:Hid (Nus W (some ⟨b,off,none⟩) ([]:List Nat)):=Lib.hid (Nus.nil _ _)
        have HC2:([]:List Nat).length≤0:=Nat.le_refl _
        have HC3:0≤cap:=Nat.zero_le _
        clear HA HN3 HA3 HN1 HNn h0
        go_wp2_with fail
        go_quiet (fail)
        have M1':=Lib.hid (M1.out.to (Drawn.below ⟨nq,rfl⟩ _))
        clear M1 c5 hcell
        generalize w1.drewN nq=w1 at *
        have c5:=M1'.out.li.kp.2.1
        go_wp2_with fail
        refine (HSh.out _ M1'.out).mono ?_
        rintro e w3 ⟨rfl,M3a⟩
        have M3b:Hid (LX W p z 65 #[.int .u64 (x.n:Int),.int .u64 (x.size:Int),.int .u64 (x.sent:Int),.int .u64 (x.first:Int),.int .u64 (x.deliv:Int),.int .u64 (x.at_:Int),.bool x.lim] ((s1.withK k1).withQ s1.q.shiftQ) w3):=M3a
        obtain ⟨s3,hs3⟩:∃s3,s3=(s1.withK k1).withQ s1.q.shiftQ:=⟨_,rfl⟩
        have Ej:Hid (s3.j=s1.j∧s3.t=s1.t∧s3.served=s1.served):=Lib.hid (by rw [hs3];exact ⟨rfl,rfl,rfl⟩)
        have EW:Hid (∀j n,(s3.withJ j).withS n=(((s1.withK k1).withQ s1.q.shiftQ).withJ j).withS n):=Lib.hid (fun j n=>by rw [hs3])
        rw [← hs3] at M3b
        have HP:=Lib.hid (lx_Put W p z #[.int .u64 (x.n:Int),.int .u64 (x.size:Int),.int .u64 (x.sent:Int),.int .u64 (x.first:Int),.int .u64 (x.deliv:Int),.int .u64 (x.at_:Int),.bool x.lim] s3 x c (by rw [Ej.out.1];exact HOk.out.j) (by rw [Ej.out.2.1];exact HOk.out.t) HCm.out (by rw [Ej.out.1];have:=HOk.out.n;omega))
        have EF:Hid (s1.serve1 c=(s3.withJ (s3.j.putB x s3.t c)).withS (s3.served + x.size)):=Lib.hid (by rw [HEw.out,EW.out,Ej.out.1,Ej.out.2.1,Ej.out.2.2])
        have HSb:Hid (s3.served≤1267650600228229401496703205376):=Lib.hid (by rw [Ej.out.2.2];have:=HOk.out.c1;have:=HOk.out.came;omega)
        obtain ⟨_,_,r6,r7⟩:=lx_ptr (W:=W) (p:=p) (z:=z) (cs:=#[.int .u64 (x.n:Int),.int .u64 (x.size:Int),.int .u64 (x.sent:Int),.int .u64 (x.first:Int),.int .u64 (x.deliv:Int),.int .u64 (x.at_:Int),.bool x.lim]) (s:=s3)
        obtain ⟨z0,z1,z2,z3,z4,z5,z6⟩:=lx_pk (W:=W) (p:=p) (z:=z) (s:=s3) x
        have M3:=Lib.hid M3b.out.drew
        clear M3a M3b hs3 EW Ej HEw HOk HSh c5 M1' HCm
        unfold Pk.agg
        go_wp2_with fail
        refine wp_region_chain (S:=(fun w'=>Hid (LX W p z 65 #[.int .u64 (x.n:Int),.int .u64 (x.size:Int),.int .u64 (x.sent:Int),.int .u64 (x.first:Int),.int .u64 (x.deliv:Int),.int .u64 (x.at_:Int),.bool x.lim] s3 w'))) 10 (by kernel_rfl) (by kernel_rfl) (by kernel_rfl) M3 ?_
        generalize w3.drew=wd at *
        simp only [List.size_toArray,List.length_cons,List.length_nil,Nat.reduceAdd,Array.replicate_succ,Array.replicate_zero,List.push_toArray,List.nil_append,List.cons_append]
        refine Chain.take (i:=0) (oi:=⟨some 46,_,_,_,_,_⟩) (v:=?v19a) rfl (by kernel_rfl) (by kernel_rfl) (Or.inl ⟨by rfl,?y19a⟩) ?rest19a
        case y19a=>intro w hSw;clear hSw;go_simp;(try with_reducible rfl)
        simp only [Act.put,List.setIfInBounds_toArray,List.set_cons_zero,List.set_cons_succ]
        refine Chain.take (i:=1) (oi:=⟨some 47,_,_,_,_,_⟩) (v:=?v20a) rfl (by kernel_rfl) (by kernel_rfl) (Or.inl ⟨by rfl,?y20a⟩) ?rest20a
        case y20a=>intro w hSw;clear hSw;go_simp;(try with_reducible rfl)
        simp only [Act.put,List.setIfInBounds_toArray,List.set_cons_zero,List.set_cons_succ]
        refine Chain.take (i:=2) (oi:=⟨some 48,_,_,_,_,_⟩) (v:=?v21a) rfl (by kernel_rfl) (by kernel_rfl) (Or.inl ⟨by rfl,?y21a⟩) ?rest21a
        case y21a=>intro w hSw;clear hSw;go_simp;(try with_reducible rfl)
        simp only [Act.put,List.setIfInBounds_toArray,List.set_cons_zero,List.set_cons_succ]
        refine Chain.take (i:=3) (oi:=⟨some 49,_,_,_,_,_⟩) (v:=?v22a) rfl (by kernel_rfl) (by kernel_rfl) (Or.inl ⟨by rfl,?y22a⟩) ?rest22a
        case y22a=>intro w hSw;go_simp;(try with_reducible rfl)
        simp only [Act.put,List.setIfInBounds_toArray,List.set_cons_zero,List.set_cons_succ]
        refine Chain.take (i:=4) (oi:=⟨some 50,_,_,_,_,_⟩) (v:=?v23a) rfl (by kernel_rfl) (by kernel_rfl) (Or.inl ⟨by rfl,?y23a⟩) ?rest23a
        case y23a=>intro w hSw;go_simp;(try with_reducible rfl)
        simp only [Act.put,List.setIfInBounds_toArray,List.set_cons_zero,List.set_cons_succ]
        refine Chain.take (i:=5) (oi:=⟨some 51,_,_,_,_,_⟩) (v:=?v24a) rfl (by kernel_rfl) (by kernel_rfl) (Or.inl ⟨by rfl,?y24a⟩) ?rest24a
        case y24a=>intro w hSw;clear hSw;go_simp;(try with_reducible rfl)
        simp only [Act.put,List.setIfInBounds_toArray,List.set_cons_zero,List.set_cons_succ]
        refine Chain.take (i:=6) (oi:=⟨some 52,_,_,_,_,_⟩) (v:=?v25a) rfl (by kernel_rfl) (by kernel_rfl) (Or.inl ⟨by rfl,?y25a⟩) ?rest25a
        case y25a=>intro w hSw;clear hSw;go_simp;(try with_reducible rfl)
        simp only [Act.put,List.setIfInBounds_toArray,List.set_cons_zero,List.set_cons_succ]
        refine Chain.take (i:=7) (oi:=⟨some 53,_,_,_,_,_⟩) (v:=?v26a) rfl (by kernel_rfl) (by kernel_rfl) (Or.inl ⟨by rfl,?y26a⟩) ?rest26a
        case y26a=>intro w hSw;clear hSw;go_simp;(try with_reducible rfl)
        simp only [Act.put,List.setIfInBounds_toArray,List.set_cons_zero,List.set_cons_succ]
        refine Chain.take (i:=8) (oi:=⟨some 54,_,_,_,_,_⟩) (v:=?v27a) rfl (by kernel_rfl) (by kernel_rfl) (Or.inl ⟨by rfl,?y27a⟩) ?rest27a
        case y27a=>intro w hSw;go_simp;(try with_reducible rfl)
        simp only [Act.put,List.setIfInBounds_toArray,List.set_cons_zero,List.set_cons_succ]
        refine Chain.take (i:=9) (oi:=⟨some 55,_,_,_,_,_⟩) (v:=?v28a) rfl (by kernel_rfl) (by kernel_rfl) (Or.inl ⟨by rfl,?y28a⟩) ?rest28a
        case y28a=>intro w hSw;clear hSw;go_simp;(try with_reducible rfl)
        simp only [Act.put,List.setIfInBounds_toArray,List.set_cons_zero,List.set_cons_succ]
        refine Chain.last (by kernel_rfl) (fun w hSw=>?_)
        refine wpAnyH_ready (rs:=[10]) (by kernel_rfl) (by simp) ?_
        refine AllReadyH.cons (o:=⟨some 56,_,_,_,_,_⟩) rfl (fun K hK=>?_) AllReadyH.nil
        go_simp
        refine (HP.out _ hSw.out).mono ?_
        rintro e w4 ⟨rfl,M4⟩
        clear hSw M3 HP r6 r7 z0 z1 z2 z3 z4 z5 z6
        go_wp2_with fail
        refine hK.out _ _ trivial (fun _=>?_)
        clear hK
        try simp only [List.setIfInBounds_toArray,List.set_cons_zero,List.set_cons_succ]
        refine wpAnyH_done (by kernel_rfl) ?_ _
        skip
        obtain ⟨s4,hs4⟩:∃s4,s4=s3.withJ (s3.j.putB x s3.t c):=⟨_,rfl⟩
        have E4:s4.served=s3.served:=by rw [hs4];rfl
        rw [← hs4,← E4] at EF
        rw [← hs4] at M4
        rw [← E4] at HSb
        obtain ⟨c0,hc0'⟩:∃c0,c0=s4.served:=⟨_,rfl⟩
        rw [← hc0'] at EF HSb
        obtain ⟨rh,rl⟩:=lx_served (W:=W) (p:=p) (z:=z) (cs:=#[.int .u64 (x.n:Int),.int .u64 (x.size:Int),.int .u64 (x.sent:Int),.int .u64 (x.first:Int),.int .u64 (x.deliv:Int),.int .u64 (x.at_:Int),.bool x.lim]) (s:=s4)
        rw [← hc0'] at rh rl
        clear E4 hs4 hc0'
        have rz:=lx_size (W:=W) (p:=p) (z:=z) (s:=s4) x
        have HM:=Lib.hid (lx_more W p z #[.int .u64 (x.n:Int),.int .u64 (x.size:Int),.int .u64 (x.sent:Int),.int .u64 (x.first:Int),.int .u64 (x.deliv:Int),.int .u64 (x.at_:Int),.bool x.lim] s4 c0 x.size HSb.out HXz.out)
        have HCs:Hid (∀(c:Nat) (p:PL),((s4.cells p).setIfInBounds 10 (.int .u64 (LS.hi c:Int))).setIfInBounds 11 (.int .u64 (LS.lo c:Int))=(s4.withS c).cells p):=Lib.hid (fun c p=>set_served s4 c p)
        have M0:=Lib.hid M4.out.drew
        clear M4
        go_wp2_with fail
        refine wp_region_chain (S:=(fun w'=>Hid (LX W p z 65 #[.int .u64 (x.n:Int),.int .u64 (x.size:Int),.int .u64 (x.sent:Int),.int .u64 (x.first:Int),.int .u64 (x.deliv:Int),.int .u64 (x.at_:Int),.bool x.lim] (s4) w'))) 10 (by kernel_rfl) (by kernel_rfl) (by kernel_rfl) M0 ?_
        simp only [List.size_toArray,List.length_cons,List.length_nil,Nat.reduceAdd,Array.replicate_succ,Array.replicate_zero,List.push_toArray,List.nil_append,List.cons_append]
        refine Chain.take (i:=0) (oi:=⟨some 57,_,_,_,_,_⟩) (v:=?v29a) rfl (by kernel_rfl) (by kernel_rfl) (Or.inl ⟨by rfl,?y29a⟩) ?rest29a
        case y29a=>intro w hSw;clear hSw;go_simp;(try with_reducible rfl)
        simp only [Act.put,List.setIfInBounds_toArray,List.set_cons_zero,List.set_cons_succ]
        refine Chain.take (i:=1) (oi:=⟨some 58,_,_,_,_,_⟩) (v:=?v30a) rfl (by kernel_rfl) (by kernel_rfl) (Or.inl ⟨by rfl,?y30a⟩) ?rest30a
        case y30a=>intro w hSw;clear hSw;go_simp;(try with_reducible rfl)
        simp only [Act.put,List.setIfInBounds_toArray,List.set_cons_zero,List.set_cons_succ]
        refine Chain.take (i:=2) (oi:=⟨some 59,_,_,_,_,_⟩) (v:=?v31a) rfl (by kernel_rfl) (by kernel_rfl) (Or.inl ⟨by rfl,?y31a⟩) ?rest31a
        case y31a=>intro w hSw;clear hSw;go_simp;(try with_reducible rfl)
        simp only [Act.put,List.setIfInBounds_toArray,List.set_cons_zero,List.set_cons_succ]
        refine Chain.take (i:=3) (oi:=⟨some 60,_,_,_,_,_⟩) (v:=?v32a) rfl (by kernel_rfl) (by kernel_rfl) (Or.inl ⟨by rfl,?y32a⟩) ?rest32a
        case y32a=>intro w hSw;clear hSw;go_simp;(try with_reducible rfl)
        simp only [Act.put,List.setIfInBounds_toArray,List.set_cons_zero,List.set_cons_succ]
        refine Chain.take (i:=4) (oi:=⟨some 61,_,_,_,_,_⟩) (v:=?v33a) rfl (by kernel_rfl) (by kernel_rfl) (Or.inl ⟨by rfl,?y33a⟩) ?rest33a
        case y33a=>intro w hSw;go_simp;(try with_reducible rfl)
        simp only [Act.put,List.setIfInBounds_toArray,List.set_cons_zero,List.set_cons_succ]
        refine Chain.take (i:=5) (oi:=⟨some 62,_,_,_,_,_⟩) (v:=?v34a) rfl (by kernel_rfl) (by kernel_rfl) (Or.inl ⟨by rfl,?y34a⟩) ?rest34a
        case y34a=>intro w hSw;clear hSw;go_simp;(try with_reducible rfl)
        simp only [Act.put,List.setIfInBounds_toArray,List.set_cons_zero,List.set_cons_succ]
        refine Chain.take (i:=6) (oi:=⟨some 63,_,_,_,_,_⟩) (v:=?v35a) rfl (by kernel_rfl) (by kernel_rfl) (Or.inl ⟨by rfl,?y35a⟩) ?rest35a
        case y35a=>intro w hSw;go_simp;(try with_reducible rfl)
        simp only [Act.put,List.setIfInBounds_toArray,List.set_cons_zero,List.set_cons_succ]
        refine' Chain.call (i:=7) (oi:=⟨some 64,_,_,_,_,_⟩) _ _ rfl (by kernel_rfl) (by kernel_rfl) (by rfl) ?he36a (fun w hS=>HM.out w hS) ?rest36a
        case he36a=>intro w;go_simp
        simp only [Act.put,List.setIfInBounds_toArray,List.set_cons_zero,List.set_cons_succ]
        refine Chain.take (i:=8) (oi:=⟨some 65,_,_,_,_,_⟩) (v:=?v37a) rfl (by kernel_rfl) (by kernel_rfl) (Or.inl ⟨by rfl,?y37a⟩) ?rest37a
        case y37a=>intro w hSw;clear hSw;go_simp;(try with_reducible rfl)
        simp only [Act.put,List.setIfInBounds_toArray,List.set_cons_zero,List.set_cons_succ]
        refine Chain.take (i:=9) (oi:=⟨some 66,_,_,_,_,_⟩) (v:=?v38a) rfl (by kernel_rfl) (by kernel_rfl) (Or.inl ⟨by rfl,?y38a⟩) ?rest38a
        case y38a=>intro w hSw;clear hSw;go_simp;(try with_reducible rfl)
        simp only [Act.put,List.setIfInBounds_toArray,List.set_cons_zero,List.set_cons_succ]
        refine Chain.last (by kernel_rfl) (fun w hSw=>?_)
        refine wpAnyH_ready (rs:=[10]) (by kernel_rfl) (by simp) ?_
        refine AllReadyH.cons (o:=⟨none,_,_,_,_,_⟩) rfl (fun K hK=>?_) AllReadyH.nil
        have g0:=hSw.out.li.free 10
        have g1:=hSw.out.li.free 11
        have g2:=rh _ hSw
        have g3:=rl _ hSw
        have M2:=Lib.hid (hSw.out.set2 (s':=(s4).withS (c0 + x.size)) 10 11 (.int .u64 (LS.hi (c0 + x.size):Int)) (.int .u64 (LS.lo (c0 + x.size):Int)) (HCs.out _ _) ⟨rfl,rfl,rfl⟩)
        clear hSw rh rl rz
        go_simp
        refine hK.out _ _ trivial (fun _=>?_)
        clear hK
        try simp only [List.setIfInBounds_toArray,List.set_cons_zero,List.set_cons_succ]
        refine wpAnyH_done (by kernel_rfl) ?_ _
        skip
        clear HM HCs g0 g1 g2 g3 M0 HSb
        rw [← EF.out] at M2
        generalize (w.setCell ⟨p.b,10,none⟩ (.int .u64 (LS.hi (c0 + x.size):Int))).setCell ⟨p.b,11,none⟩ (.int .u64 (LS.lo (c0 + x.size):Int))=w5 at *
        generalize s1.serve1 c=s5 at *
        have M6:Hid (LX W p w5.heap.size 65 #[.int .u64 (x.n:Int),.int .u64 (x.size:Int),.int .u64 (x.sent:Int),.int .u64 (x.first:Int),.int .u64 (x.deliv:Int),.int .u64 (x.at_:Int),.bool x.lim] s5 (w5.alloc (.cells #[.int .u64 (x.n:Int),.int .u64 (x.size:Int),.int .u64 (x.sent:Int),.int .u64 (x.first:Int),.int .u64 (x.deliv:Int),.int .u64 (x.at_:Int),.bool x.lim] 65))):=Lib.hid (M2.out.li.box _ _)
        have z0:=M2.out.box.cell (i:=0) (v:=.int .u64 (x.n:Int)) rfl
        have z1:=M2.out.box.cell (i:=1) (v:=.int .u64 (x.size:Int)) rfl
        have z2:=M2.out.box.cell (i:=2) (v:=.int .u64 (x.sent:Int)) rfl
        have z3:=M2.out.box.cell (i:=3) (v:=.int .u64 (x.first:Int)) rfl
        have z4:=M2.out.box.cell (i:=4) (v:=.int .u64 (x.deliv:Int)) rfl
        have z5:=M2.out.box.cell (i:=5) (v:=.int .u64 (x.at_:Int)) rfl
        have z6:=M2.out.box.cell (i:=6) (v:=.bool x.lim) rfl
        have c5:=M6.out.li.kp.2.1
        clear EF M2
        go_wp2_with fail
        refine (HH.out s5 _ M6.out.li).mono ?_
        rintro e w6 ⟨rfl,hb⟩
        have M7:=Lib.hid (M6.out.to hb)
        clear hb M6 z0 z1 z2 z3 z4 z5 z6 c5
        generalize w5.heap.size=z' at *
        have z0:=M7.out.box.cell (i:=0) (v:=.int .u64 (x.n:Int)) rfl
        have fz0:=M7.out.box.free 0
        have z1:=M7.out.box.cell (i:=1) (v:=.int .u64 (x.size:Int)) rfl
        have fz1:=M7.out.box.free 1
        have z2:=M7.out.box.cell (i:=2) (v:=.int .u64 (x.sent:Int)) rfl
        have fz2:=M7.out.box.free 2
        have z3:=M7.out.box.cell (i:=3) (v:=.int .u64 (x.first:Int)) rfl
        have fz3:=M7.out.box.free 3
        have z4:=M7.out.box.cell (i:=4) (v:=.int .u64 (x.deliv:Int)) rfl
        have fz4:=M7.out.box.free 4
        have z5:=M7.out.box.cell (i:=5) (v:=.int .u64 (x.at_:Int)) rfl
        have fz5:=M7.out.box.free 5
        have z6:=M7.out.box.cell (i:=6) (v:=.bool x.lim) rfl
        have fz6:=M7.out.box.free 6
        unfold pkgot Pk.agg
        generalize hy:s5.q.headQ=y at *
        have HY:=Lib.hid hy
        clear hy
        generalize hq:s5.q.someQ=q2 at *
        have HQ2:=Lib.hid hq
        clear hq
        go_wp2_with fail
        have M8:=Lib.hid (M7.out.boxed (Itm.cs y) rfl)
        go_roundw
        case rel=>exact ⟨s5,_,_,_,z',rfl,HC3,rfl,by rw [HQ2.out],Lib.hid ⟨by rw [HY.out];exact M8.out,HEs.out,HN2.out,HA2.out,HMd.out,HOk2.out,HC2⟩⟩
        case measure=>
         have h1:=M8.out.li.rowQ
         have h2:=HRow.out
         have h3:=HLe.out
         refine Nat.lt_of_le_of_lt (Nat.le_of_eq h1) ?_
         omega
       ·have HA2:=HA3
        have HN2:=HN3
        have HC2:c2.length≤cap1 - 1:=by rw [HNn.out];omega
        have HC3:cap1 - 1≤cap:=by omega
        have HV:Hid (((n:Int) - 1)=(c2.length:Int)∧((cap1:Int) - 1)=((cap1 - 1:Nat):Int)):=Lib.hid (by rw [HNn.out];omega)
        clear HA HN3 HA3 HN1 h0
        go_wp2_with fail
        go_quiet (fail)
        have M1':=Lib.hid (M1.out.to (Drawn.below ⟨nq,rfl⟩ _))
        clear M1 c5 hcell
        generalize w1.drewN nq=w1 at *
        have c5:=M1'.out.li.kp.2.1
        go_wp2_with fail
        refine (HSh.out _ M1'.out).mono ?_
        rintro e w3 ⟨rfl,M3a⟩
        have M3b:Hid (LX W p z 65 #[.int .u64 (x.n:Int),.int .u64 (x.size:Int),.int .u64 (x.sent:Int),.int .u64 (x.first:Int),.int .u64 (x.deliv:Int),.int .u64 (x.at_:Int),.bool x.lim] ((s1.withK k1).withQ s1.q.shiftQ) w3):=M3a
        obtain ⟨s3,hs3⟩:∃s3,s3=(s1.withK k1).withQ s1.q.shiftQ:=⟨_,rfl⟩
        have Ej:Hid (s3.j=s1.j∧s3.t=s1.t∧s3.served=s1.served):=Lib.hid (by rw [hs3];exact ⟨rfl,rfl,rfl⟩)
        have EW:Hid (∀j n,(s3.withJ j).withS n=(((s1.withK k1).withQ s1.q.shiftQ).withJ j).withS n):=Lib.hid (fun j n=>by rw [hs3])
        rw [← hs3] at M3b
        have HP:=Lib.hid (lx_Put W p z #[.int .u64 (x.n:Int),.int .u64 (x.size:Int),.int .u64 (x.sent:Int),.int .u64 (x.first:Int),.int .u64 (x.deliv:Int),.int .u64 (x.at_:Int),.bool x.lim] s3 x c (by rw [Ej.out.1];exact HOk.out.j) (by rw [Ej.out.2.1];exact HOk.out.t) HCm.out (by rw [Ej.out.1];have:=HOk.out.n;omega))
        have EF:Hid (s1.serve1 c=(s3.withJ (s3.j.putB x s3.t c)).withS (s3.served + x.size)):=Lib.hid (by rw [HEw.out,EW.out,Ej.out.1,Ej.out.2.1,Ej.out.2.2])
        have HSb:Hid (s3.served≤1267650600228229401496703205376):=Lib.hid (by rw [Ej.out.2.2];have:=HOk.out.c1;have:=HOk.out.came;omega)
        obtain ⟨_,_,r6,r7⟩:=lx_ptr (W:=W) (p:=p) (z:=z) (cs:=#[.int .u64 (x.n:Int),.int .u64 (x.size:Int),.int .u64 (x.sent:Int),.int .u64 (x.first:Int),.int .u64 (x.deliv:Int),.int .u64 (x.at_:Int),.bool x.lim]) (s:=s3)
        obtain ⟨z0,z1,z2,z3,z4,z5,z6⟩:=lx_pk (W:=W) (p:=p) (z:=z) (s:=s3) x
        have M3:=Lib.hid M3b.out.drew
        clear M3a M3b hs3 EW Ej HEw HOk HSh c5 M1' HCm
        unfold Pk.agg
        go_wp2_with fail
        refine wp_region_chain (S:=(fun w'=>Hid (LX W p z 65 #[.int .u64 (x.n:Int),.int .u64 (x.size:Int),.int .u64 (x.sent:Int),.int .u64 (x.first:Int),.int .u64 (x.deliv:Int),.int .u64 (x.at_:Int),.bool x.lim] s3 w'))) 10 (by kernel_rfl) (by kernel_rfl) (by kernel_rfl) M3 ?_
        generalize w3.drew=wd at *
        simp only [List.size_toArray,List.length_cons,List.length_nil,Nat.reduceAdd,Array.replicate_succ,Array.replicate_zero,List.push_toArray,List.nil_append,List.cons_append]
        refine Chain.take (i:=0) (oi:=⟨some 46,_,_,_,_,_⟩) (v:=?v19b) rfl (by kernel_rfl) (by kernel_rfl) (Or.inl ⟨by rfl,?y19b⟩) ?rest19b
        case y19b=>intro w hSw;clear hSw;go_simp;(try with_reducible rfl)
        simp only [Act.put,List.setIfInBounds_toArray,List.set_cons_zero,List.set_cons_succ]
        refine Chain.take (i:=1) (oi:=⟨some 47,_,_,_,_,_⟩) (v:=?v20b) rfl (by kernel_rfl) (by kernel_rfl) (Or.inl ⟨by rfl,?y20b⟩) ?rest20b
        case y20b=>intro w hSw;clear hSw;go_simp;(try with_reducible rfl)
        simp only [Act.put,List.setIfInBounds_toArray,List.set_cons_zero,List.set_cons_succ]
        refine Chain.take (i:=2) (oi:=⟨some 48,_,_,_,_,_⟩) (v:=?v21b) rfl (by kernel_rfl) (by kernel_rfl) (Or.inl ⟨by rfl,?y21b⟩) ?rest21b
        case y21b=>intro w hSw;clear hSw;go_simp;(try with_reducible rfl)
        simp only [Act.put,List.setIfInBounds_toArray,List.set_cons_zero,List.set_cons_succ]
        refine Chain.take (i:=3) (oi:=⟨some 49,_,_,_,_,_⟩) (v:=?v22b) rfl (by kernel_rfl) (by kernel_rfl) (Or.inl ⟨by rfl,?y22b⟩) ?rest22b
        case y22b=>intro w hSw;go_simp;(try with_reducible rfl)
        simp only [Act.put,List.setIfInBounds_toArray,List.set_cons_zero,List.set_cons_succ]
        refine Chain.take (i:=4) (oi:=⟨some 50,_,_,_,_,_⟩) (v:=?v23b) rfl (by kernel_rfl) (by kernel_rfl) (Or.inl ⟨by rfl,?y23b⟩) ?rest23b
        case y23b=>intro w hSw;go_simp;(try with_reducible rfl)
        simp only [Act.put,List.setIfInBounds_toArray,List.set_cons_zero,List.set_cons_succ]
        refine Chain.take (i:=5) (oi:=⟨some 51,_,_,_,_,_⟩) (v:=?v24b) rfl (by kernel_rfl) (by kernel_rfl) (Or.inl ⟨by rfl,?y24b⟩) ?rest24b
        case y24b=>intro w hSw;clear hSw;go_simp;(try with_reducible rfl)
        simp only [Act.put,List.setIfInBounds_toArray,List.set_cons_zero,List.set_cons_succ]
        refine Chain.take (i:=6) (oi:=⟨some 52,_,_,_,_,_⟩) (v:=?v25b) rfl (by kernel_rfl) (by kernel_rfl) (Or.inl ⟨by rfl,?y25b⟩) ?rest25b
        case y25b=>intro w hSw;clear hSw;go_simp;(try with_reducible rfl)
        simp only [Act.put,List.setIfInBounds_toArray,List.set_cons_zero,List.set_cons_succ]
        refine Chain.take (i:=7) (oi:=⟨some 53,_,_,_,_,_⟩) (v:=?v26b) rfl (by kernel_rfl) (by kernel_rfl) (Or.inl ⟨by rfl,?y26b⟩) ?rest26b
        case y26b=>intro w hSw;clear hSw;go_simp;(try with_reducible rfl)
        simp only [Act.put,List.setIfInBounds_toArray,List.set_cons_zero,List.set_cons_succ]
        refine Chain.take (i:=8) (oi:=⟨some 54,_,_,_,_,_⟩) (v:=?v27b) rfl (by kernel_rfl) (by kernel_rfl) (Or.inl ⟨by rfl,?y27b⟩) ?rest27b
        case y27b=>intro w hSw;go_simp;(try with_reducible rfl)
        simp only [Act.put,List.setIfInBounds_toArray,List.set_cons_zero,List.set_cons_succ]
        refine Chain.take (i:=9) (oi:=⟨some 55,_,_,_,_,_⟩) (v:=?v28b) rfl (by kernel_rfl) (by kernel_rfl) (Or.inl ⟨by rfl,?y28b⟩) ?rest28b
        case y28b=>intro w hSw;clear hSw;go_simp;(try with_reducible rfl)
        simp only [Act.put,List.setIfInBounds_toArray,List.set_cons_zero,List.set_cons_succ]
        refine Chain.last (by kernel_rfl) (fun w hSw=>?_)
        refine wpAnyH_ready (rs:=[10]) (by kernel_rfl) (by simp) ?_
        refine AllReadyH.cons (o:=⟨some 56,_,_,_,_,_⟩) rfl (fun K hK=>?_) AllReadyH.nil
        go_simp
        refine (HP.out _ hSw.out).mono ?_
        rintro e w4 ⟨rfl,M4⟩
        clear hSw M3 HP r6 r7 z0 z1 z2 z3 z4 z5 z6
        go_wp2_with fail
        refine hK.out _ _ trivial (fun _=>?_)
        clear hK
        try simp only [List.setIfInBounds_toArray,List.set_cons_zero,List.set_cons_succ]
        refine wpAnyH_done (by kernel_rfl) ?_ _
        skip
        obtain ⟨s4,hs4⟩:∃s4,s4=s3.withJ (s3.j.putB x s3.t c):=⟨_,rfl⟩
        have E4:s4.served=s3.served:=by rw [hs4];rfl
        rw [← hs4,← E4] at EF
        rw [← hs4] at M4
        rw [← E4] at HSb
        obtain ⟨c0,hc0'⟩:∃c0,c0=s4.served:=⟨_,rfl⟩
        rw [← hc0'] at EF HSb
        obtain ⟨rh,rl⟩:=lx_served (W:=W) (p:=p) (z:=z) (cs:=#[.int .u64 (x.n:Int),.int .u64 (x.size:Int),.int .u64 (x.sent:Int),.int .u64 (x.first:Int),.int .u64 (x.deliv:Int),.int .u64 (x.at_:Int),.bool x.lim]) (s:=s4)
        rw [← hc0'] at rh rl
        clear E4 hs4 hc0'
        have rz:=lx_size (W:=W) (p:=p) (z:=z) (s:=s4) x
        have HM:=Lib.hid (lx_more W p z #[.int .u64 (x.n:Int),.int .u64 (x.size:Int),.int .u64 (x.sent:Int),.int .u64 (x.first:Int),.int .u64 (x.deliv:Int),.int .u64 (x.at_:Int),.bool x.lim] s4 c0 x.size HSb.out HXz.out)
        have HCs:Hid (∀(c:Nat) (p:PL),((s4.cells p).setIfInBounds 10 (.int .u64 (LS.hi c:Int))).setIfInBounds 11 (.int .u64 (LS.lo c:Int))=(s4.withS c).cells p):=Lib.hid (fun c p=>set_served s4 c p)
        have M0:=Lib.hid M4.out.drew
        clear M4
        go_wp2_with fail
        refine wp_region_chain (S:=(fun w'=>Hid (LX W p z 65 #[.int .u64 (x.n:Int),.int .u64 (x.size:Int),.int .u64 (x.sent:Int),.int .u64 (x.first:Int),.int .u64 (x.deliv:Int),.int .u64 (x.at_:Int),.bool x.lim] (s4) w'))) 10 (by kernel_rfl) (by kernel_rfl) (by kernel_rfl) M0 ?_
        simp only [List.size_toArray,List.length_cons,List.length_nil,Nat.reduceAdd,Array.replicate_succ,Array.replicate_zero,List.push_toArray,List.nil_append,List.cons_append]
        refine Chain.take (i:=0) (oi:=⟨some 57,_,_,_,_,_⟩) (v:=?v29b) rfl (by kernel_rfl) (by kernel_rfl) (Or.inl ⟨by rfl,?y29b⟩) ?rest29b
        case y29b=>intro w hSw;clear hSw;go_simp;(try with_reducible rfl)
        simp only [Act.put,List.setIfInBounds_toArray,List.set_cons_zero,List.set_cons_succ]
        refine Chain.take (i:=1) (oi:=⟨some 58,_,_,_,_,_⟩) (v:=?v30b) rfl (by kernel_rfl) (by kernel_rfl) (Or.inl ⟨by rfl,?y30b⟩) ?rest30b
        case y30b=>intro w hSw;clear hSw;go_simp;(try with_reducible rfl)
        simp only [Act.put,List.setIfInBounds_toArray,List.set_cons_zero,List.set_cons_succ]
        refine Chain.take (i:=2) (oi:=⟨some 59,_,_,_,_,_⟩) (v:=?v31b) rfl (by kernel_rfl) (by kernel_rfl) (Or.inl ⟨by rfl,?y31b⟩) ?rest31b
        case y31b=>intro w hSw;clear hSw;go_simp;(try with_reducible rfl)
        simp only [Act.put,List.setIfInBounds_toArray,List.set_cons_zero,List.set_cons_succ]
        refine Chain.take (i:=3) (oi:=⟨some 60,_,_,_,_,_⟩) (v:=?v32b) rfl (by kernel_rfl) (by kernel_rfl) (Or.inl ⟨by rfl,?y32b⟩) ?rest32b
        case y32b=>intro w hSw;clear hSw;go_simp;(try with_reducible rfl)
        simp only [Act.put,List.setIfInBounds_toArray,List.set_cons_zero,List.set_cons_succ]
        refine Chain.take (i:=4) (oi:=⟨some 61,_,_,_,_,_⟩) (v:=?v33b) rfl (by kernel_rfl) (by kernel_rfl) (Or.inl ⟨by rfl,?y33b⟩) ?rest33b
        case y33b=>intro w hSw;go_simp;(try with_reducible rfl)
        simp only [Act.put,List.setIfInBounds_toArray,List.set_cons_zero,List.set_cons_succ]
        refine Chain.take (i:=5) (oi:=⟨some 62,_,_,_,_,_⟩) (v:=?v34b) rfl (by kernel_rfl) (by kernel_rfl) (Or.inl ⟨by rfl,?y34b⟩) ?rest34b
        case y34b=>intro w hSw;clear hSw;go_simp;(try with_reducible rfl)
        simp only [Act.put,List.setIfInBounds_toArray,List.set_cons_zero,List.set_cons_succ]
        refine Chain.take (i:=6) (oi:=⟨some 63,_,_,_,_,_⟩) (v:=?v35b) rfl (by kernel_rfl) (by kernel_rfl) (Or.inl ⟨by rfl,?y35b⟩) ?rest35b
        case y35b=>intro w hSw;go_simp;(try with_reducible rfl)
        simp only [Act.put,List.setIfInBounds_toArray,List.set_cons_zero,List.set_cons_succ]
        refine' Chain.call (i:=7) (oi:=⟨some 64,_,_,_,_,_⟩) _ _ rfl (by kernel_rfl) (by kernel_rfl) (by rfl) ?he36b (fun w hS=>HM.out w hS) ?rest36b
        case he36b=>intro w;go_simp
        simp only [Act.put,List.setIfInBounds_toArray,List.set_cons_zero,List.set_cons_succ]
        refine Chain.take (i:=8) (oi:=⟨some 65,_,_,_,_,_⟩) (v:=?v37b) rfl (by kernel_rfl) (by kernel_rfl) (Or.inl ⟨by rfl,?y37b⟩) ?rest37b
        case y37b=>intro w hSw;clear hSw;go_simp;(try with_reducible rfl)
        simp only [Act.put,List.setIfInBounds_toArray,List.set_cons_zero,List.set_cons_succ]
        refine Chain.take (i:=9) (oi:=⟨some 66,_,_,_,_,_⟩) (v:=?v38b) rfl (by kernel_rfl) (by kernel_rfl) (Or.inl ⟨by rfl,?y38b⟩) ?rest38b
        case y38b=>intro w hSw;clear hSw;go_simp;(try with_reducible rfl)
        simp only [Act.put,List.setIfInBounds_toArray,List.set_cons_zero,List.set_cons_succ]
        refine Chain.last (by kernel_rfl) (fun w hSw=>?_)
        refine wpAnyH_ready (rs:=[10]) (by kernel_rfl) (by simp) ?_
        refine AllReadyH.cons (o:=⟨none,_,_,_,_,_⟩) rfl (fun K hK=>?_) AllReadyH.nil
        have g0:=hSw.out.li.free 10
        have g1:=hSw.out.li.free 11
        have g2:=rh _ hSw
        have g3:=rl _ hSw
        have M2:=Lib.hid (hSw.out.set2 (s':=(s4).withS (c0 + x.size)) 10 11 (.int .u64 (LS.hi (c0 + x.size):Int)) (.int .u64 (LS.lo (c0 + x.size):Int)) (HCs.out _ _) ⟨rfl,rfl,rfl⟩)
        clear hSw rh rl rz
        go_simp
        refine hK.out _ _ trivial (fun _=>?_)
        clear hK
        try simp only [List.setIfInBounds_toArray,List.set_cons_zero,List.set_cons_succ]
        refine wpAnyH_done (by kernel_rfl) ?_ _
        skip
        clear HM HCs g0 g1 g2 g3 M0 HSb
        rw [← EF.out] at M2
        generalize (w.setCell ⟨p.b,10,none⟩ (.int .u64 (LS.hi (c0 + x.size):Int))).setCell ⟨p.b,11,none⟩ (.int .u64 (LS.lo (c0 + x.size):Int))=w5 at *
        generalize s1.serve1 c=s5 at *
        have M6:Hid (LX W p w5.heap.size 65 #[.int .u64 (x.n:Int),.int .u64 (x.size:Int),.int .u64 (x.sent:Int),.int .u64 (x.first:Int),.int .u64 (x.deliv:Int),.int .u64 (x.at_:Int),.bool x.lim] s5 (w5.alloc (.cells #[.int .u64 (x.n:Int),.int .u64 (x.size:Int),.int .u64 (x.sent:Int),.int .u64 (x.first:Int),.int .u64 (x.deliv:Int),.int .u64 (x.at_:Int),.bool x.lim] 65))):=Lib.hid (M2.out.li.box _ _)
        have z0:=M2.out.box.cell (i:=0) (v:=.int .u64 (x.n:Int)) rfl
        have z1:=M2.out.box.cell (i:=1) (v:=.int .u64 (x.size:Int)) rfl
        have z2:=M2.out.box.cell (i:=2) (v:=.int .u64 (x.sent:Int)) rfl
        have z3:=M2.out.box.cell (i:=3) (v:=.int .u64 (x.first:Int)) rfl
        have z4:=M2.out.box.cell (i:=4) (v:=.int .u64 (x.deliv:Int)) rfl
        have z5:=M2.out.box.cell (i:=5) (v:=.int .u64 (x.at_:Int)) rfl
        have z6:=M2.out.box.cell (i:=6) (v:=.bool x.lim) rfl
        have c5:=M6.out.li.kp.2.1
        clear EF M2
        go_wp2_with fail
        refine (HH.out s5 _ M6.out.li).mono ?_
        rintro e w6 ⟨rfl,hb⟩
        have M7:=Lib.hid (M6.out.to hb)
        clear hb M6 z0 z1 z2 z3 z4 z5 z6 c5
        generalize w5.heap.size=z' at *
        have z0:=M7.out.box.cell (i:=0) (v:=.int .u64 (x.n:Int)) rfl
        have fz0:=M7.out.box.free 0
        have z1:=M7.out.box.cell (i:=1) (v:=.int .u64 (x.size:Int)) rfl
        have fz1:=M7.out.box.free 1
        have z2:=M7.out.box.cell (i:=2) (v:=.int .u64 (x.sent:Int)) rfl
        have fz2:=M7.out.box.free 2
        have z3:=M7.out.box.cell (i:=3) (v:=.int .u64 (x.first:Int)) rfl
        have fz3:=M7.out.box.free 3
        have z4:=M7.out.box.cell (i:=4) (v:=.int .u64 (x.deliv:Int)) rfl
        have fz4:=M7.out.box.free 4
        have z5:=M7.out.box.cell (i:=5) (v:=.int .u64 (x.at_:Int)) rfl
        have fz5:=M7.out.box.free 5
        have z6:=M7.out.box.cell (i:=6) (v:=.bool x.lim) rfl
        have fz6:=M7.out.box.free 6
        unfold pkgot Pk.agg
        generalize hy:s5.q.headQ=y at *
        have HY:=Lib.hid hy
        clear hy
        generalize hq:s5.q.someQ=q2 at *
        have HQ2:=Lib.hid hq
        clear hq
        go_wp2_with fail
        have M8:=Lib.hid (M7.out.boxed (Itm.cs y) rfl)
        go_roundw
        case rel=>exact ⟨s5,_,_,_,z',(by rw [HNn.out]),HC3,rfl,by rw [HQ2.out],Lib.hid ⟨by rw [HY.out];exact M8.out,HEs.out,HN2.out,HA2.out,HMd.out,HOk2.out,HC2⟩⟩
        case measure=>
         have h1:=M8.out.li.rowQ
         have h2:=HRow.out
         have h3:=HLe.out
         refine Nat.lt_of_le_of_lt (Nat.le_of_eq h1) ?_
         omega
end Go.Proofs.Ytaffjfajjpgjpaa

set_option linter.unusedVariables false
namespace Go.Proofs.Ytaffjfajjpgjpaa
open Go.RowKit
theorem LI.call {W w w':World} {p:PL} {s s':LS} {r:Value} {e:Ending} (h:LI W p s w) {g i:Nat} (h1:LkAt w (p.at_ g i) s) (h2:(g=p.qg∨W.heap.size≤g)∧(i=p.jg∨W.heap.size≤i)) (k:LPost w (p.at_ g i) r s' e w'):LI W p s' w':=h.trans h1 h2 k.li
theorem LI.apart {W w:World} {p:PL} {s:LS} (h:LI W p s w) {ao:Option Addr} (ha:Apart ao p.l) (hb:∀a,ao=some a→a.block < W.heap.size) {g i:Nat} (h2:(g=p.qg∨W.heap.size≤g)∧(i=p.jg∨W.heap.size≤i)):Apart ao (p.at_ g i).l:=fun a e hm=>by
 have h3:=ha a e
 have h4:=hb a e
 simp only [PL.l,PL.at_,List.mem_cons,List.not_mem_nil,or_false,not_or] at h3 hm
 obtain ⟨a1,a2,a3,a4,a5,a6,a7,a8⟩:=h3
 rcases hm with c | c | c | c | c | c | c | c
 ·exact a1 c
 ·exact a2 c
 ·exact a3 c
 ·exact a4 c
 ·rcases h2.1 with d | d
  ·exact a5 (c.trans d)
  ·exact Nat.lt_irrefl _ (Nat.lt_of_lt_of_le (c▸h4) d)
 ·exact a6 c
 ·exact a7 c
 ·rcases h2.2 with d | d
  ·exact a8 (c.trans d)
  ·exact Nat.lt_irrefl _ (Nat.lt_of_lt_of_le (c▸h4) d)
theorem li_To (W:World) (p:PL) (s:LS) (now:Nat) (ho:s.k.ok) (hn:now≤18446744073709551615) (w:World) (h:LI W p s w):
  Calls Try.prog 24 #[.pointer (some ⟨p.kb,0,none⟩),.int .u64 (now:Int)] w fun e w'=>e=.returned (.tuple #[])∧Hid (LI W p (s.withK (s.k.toS now)) w'):=by
 obtain ⟨g,i,h1,h2⟩:=h.at_
 exact (bk_To p.kb now s.k w h1.k ho hn).mono fun e w' k=>⟨k.e,Lib.hid (h.k k)⟩
theorem li_Waste (W:World) (p:PL) (s:LS) (x:Nat) (ho:s.k.ok) (hx:x≤18446744073709551615) (w:World) (h:LI W p s w):
  Calls Try.prog 27 #[.pointer (some ⟨p.kb,0,none⟩),.int .u64 (x:Int)] w fun e w'=>e=.returned (.int .u64 (s.k.wasteN x:Int))∧Hid (LI W p (s.withK (s.k.wasteS x)) w'):=by
 obtain ⟨g,i,h1,h2⟩:=h.at_
 exact (bk_Waste p.kb x s.k w h1.k ho hx).mono fun e w' k=>⟨k.e,Lib.hid (h.k k)⟩
structure Away (W:World) (p:PL) (ao:Option Addr) (cs:List Nat) (cap:Nat):Prop where
 nus:Nus W ao cs
 ap:0 < cs.length→Apart ao p.l
 lt:0 < cs.length→∀a,ao=some a→a.block < W.heap.size
 mx:∀c∈cs,c≤18446744073709551615
 len:cs.length≤cap
 big:cap≤9223372036854775807
theorem li_serve (W:World) (p:PL) (s:LS) (cs:List Nat) (ao:Option Addr) (cap:Nat) (ho:s.ok 5000) (ha:Away W p ao cs cap) (w:World) (h:LI W p s w):
  Calls Try.prog 25 #[.pointer (some ⟨p.b,0,none⟩),.slice ao cs.length cap] w fun e w'=>e=.returned (.tuple #[])∧Hid (LI W p (s.serve cs) w'):=by
 obtain ⟨g,i,h1,h2⟩:=h.at_
 exact (lk_serve (p.at_ g i) s cs ao cap w h1 ho (ha.nus.frl h.fr ha.ap) (fun hp=>h.apart (ha.ap hp) (ha.lt hp) h2) ha.mx ha.len ha.big).mono fun e w' k=>⟨k.e,Lib.hid (h.call h1 h2 k)⟩
theorem li_deliver (W:World) (p:PL) (s:LS) (ho:s.ok 5000) (w:World) (h:LI W p s w):
  Calls Try.prog 28 #[.pointer (some ⟨p.b,0,none⟩)] w fun e w'=>∃v,e=.returned v∧Hid (SOwn 65 W.heap.size w' v s.out)∧Hid (LI W p s.deliver w'):=by
 obtain ⟨g,i,h1,h2⟩:=h.at_
 refine (lk_deliver (p.at_ g i) s 5000 w h1 ho (Nat.le_refl _)).mono fun e w' k=>?_
 obtain ⟨v,he,hv⟩:=k.e
 exact ⟨v,he,Lib.hid (hv.weak h.fr.size),Lib.hid (h.trans h1 h2 k.li)⟩
theorem wasteL_no {s:LS} (h:s.q.someQ=true) (x:Nat):s.wasteL x=s:=by unfold LS.wasteL;rw [if_pos h]
theorem wasteK_with (s:LS) (x:Nat):s.wasteK x=s.withK (s.k.wasteS x):=rfl
theorem wasteL_yes {s:LS} (h:s.q.someQ=false) (x:Nat):s.wasteL x=s.withK (s.k.wasteS x):=by unfold LS.wasteL;rw [if_neg (by simp [h])];exact wasteK_with s x
theorem toT_with (s:LS) (n:Nat):s.toT n=(s.withK (s.k.toS n)).withT n:=rfl
theorem set_t (s:LS) (t:Nat) (p:PL):(s.cells p).setIfInBounds 7 (.int .u64 (t:Int))=(s.withT t).cells p:=rfl
theorem lk_Tick_no (p:PL) (s:LS) (now waste:Nat) (v:Value) (W:World) (h:LkAt W p s) (hn:now < s.t):
  Calls Try.prog 11 #[.pointer (some ⟨p.b,0,none⟩),.int .u64 (now:Int),.int .u64 (waste:Int),v] W fun e w'=>e=.returned (.tuple #[.slice none 0 0,.int .i64 2])∧W=w':=by
 have c7:=h.head.cell (i:=7) (v:=.int .u64 (s.t:Int)) rfl
 have d:decide (now < s.t)=true:=decide_eq_true hn
 clear h hn
 go_enter Try.func11,Try.ntmps11
 go_wp2
 go_ret2
 exact ⟨rfl,rfl⟩
structure TOut (W:World) (p:PL) (l:List Pk) (s:LS) (e:Ending) (w:World):Prop where
 e:∃v,e=.returned (.tuple #[v,.int .i64 0])∧SOwn 65 W.heap.size w v l
 li:LI W p s w
set_option maxRecDepth 100000 in
set_option maxHeartbeats 1000000 in
theorem lk_Tick (p:PL) (s:LS) (now waste:Nat) (cs:List Nat) (ao:Option Addr) (cap:Nat) (W:World) (h:LkAt W p s) (ho:s.ok 5000) (hn:s.t≤now) (hm:now≤18446744073709551615) (hw:waste≤18446744073709551615) (ha:Away W p ao cs cap):
  Calls Try.prog 11 #[.pointer (some ⟨p.b,0,none⟩),.int .u64 (now:Int),.int .u64 (waste:Int),.slice ao cs.length cap] W (TOut W p (s.tickOut now waste cs) (s.tick now waste cs)):=by
 have c7:=h.head.cell (i:=7) (v:=.int .u64 (s.t:Int)) rfl
 have d:decide (now < s.t)=false:=decide_eq_false (by omega)
 have M0:=Lib.hid (LI.start h)
 have c4:=M0.out.kp.1
 have HT:=Lib.hid (li_To W p s now ho.k hm)
 have HO1:=Lib.hid (ho.toT hm)
 have HO2:=Lib.hid (HO1.out.serve cs)
 have HO3:=Lib.hid (HO2.out.waste waste)
 have HS:=Lib.hid (li_serve W p (s.toT now) cs ao cap HO1.out ha)
 have HH:=Lib.hid (li_Head W p ((s.toT now).serve cs))
 have HW:=Lib.hid (li_Waste W p ((s.toT now).serve cs) waste HO2.out.k hw)
 have HD:=Lib.hid (li_deliver W p (((s.toT now).serve cs).wasteL waste) HO3.out)
 have ET:Hid ((s.withK (s.k.toS now)).withT now=s.toT now):=Lib.hid (toT_with s now).symm
 have EL:Hid (s.tickOut now waste cs=(((s.toT now).serve cs).wasteL waste).out∧s.tick now waste cs=(((s.toT now).serve cs).wasteL waste).deliver):=Lib.hid ⟨rfl,rfl⟩
 have EN:=Lib.hid (fun h=>wasteL_no (s:=(s.toT now).serve cs) h waste)
 have EY:=Lib.hid (fun h=>wasteL_yes (s:=(s.toT now).serve cs) h waste)
 clear h ho hn hm hw ha HO1 HO2 HO3
 rw [EL.out.1,EL.out.2]
 clear EL
 go_enter Try.func11,Try.ntmps11
 go_wp2_with fail
 refine (HT.out _ M0.out).mono ?_
 rintro e w1 ⟨rfl,M1⟩
 clear M0 c4 c7 d HT
 generalize s.k.toS now=k1 at *
 have g7:=M1.out.cell (i:=7) (v:=.int .u64 (s.t:Int)) (fun _=>rfl)
 have f7:=M1.out.free 7
 have M2:Hid (LI W p (s.toT now) (w1.setCell ⟨p.b,7,none⟩ (.int .u64 (now:Int)))):=Lib.hid (ET.out▸M1.out.set 7 _ (set_t _ _ _) ⟨rfl,rfl,rfl⟩)
 clear M1 ET
 generalize s.toT now=s2 at *
 go_wp2_with fail
 refine (HS.out _ M2.out).mono ?_
 rintro e w3 ⟨rfl,M3⟩
 clear M2 g7 f7 HS
 generalize s2.serve cs=s3 at *
 have c5:=M3.out.kp.2.1
 go_wp2_with fail
 refine (HH.out _ M3.out).mono ?_
 rintro e w4 ⟨rfl,hb⟩
 have M4:=Lib.hid (M3.out.to hb)
 clear hb M3 c5 HH
 unfold pkgot Pk.agg
 generalize s3.q.headQ=x at *
 cases hq:s3.q.someQ with
 | true=>
   have M5:=Lib.hid (M4.out.al (.cells #[.int .u64 (x.n:Int),.int .u64 (x.size:Int),.int .u64 (x.sent:Int),.int .u64 (x.first:Int),.int .u64 (x.deliv:Int),.int .u64 (x.at_:Int),.bool x.lim] 65))
   have E3:=Lib.hid (EN.out hq)
   rw [E3.out] at HD
   clear M4 hq EN EY HW
   go_wp2_with fail
   refine (HD.out _ M5.out).mono ?_
   rintro e w6 ⟨v,rfl,V6,M6⟩
   go_wp2_with fail
   go_ret2
   exact ⟨⟨v,rfl,by rw [E3.out];exact V6.out⟩,by rw [E3.out];exact M6.out⟩
 | false=>
   have M5:=Lib.hid (M4.out.al (.cells #[.int .u64 (x.n:Int),.int .u64 (x.size:Int),.int .u64 (x.sent:Int),.int .u64 (x.first:Int),.int .u64 (x.deliv:Int),.int .u64 (x.at_:Int),.bool x.lim] 65))
   have c4:=M5.out.kp.1
   have E3:=Lib.hid (EY.out hq)
   rw [E3.out] at HD
   clear M4 hq EN EY
   go_wp2_with fail
   refine (HW.out _ M5.out).mono ?_
   rintro e w6 ⟨rfl,M6⟩
   clear M5 c4 HW
   generalize s3.withK (s3.k.wasteS waste)=s4 at *
   go_wp2_with fail
   refine (HD.out _ M6.out).mono ?_
   rintro e w7 ⟨v,rfl,V7,M7⟩
   go_wp2_with fail
   go_ret2
   exact ⟨⟨v,rfl,by rw [E3.out];exact V7.out⟩,by rw [E3.out];exact M7.out⟩
def rightP (r d j b:Nat):Bool:=decide (1≤r) && (decide (r≤1099511627776) && (decide (d≤4398046511104) && (decide (j≤4398046511104) && (decide (1≤b) && decide (b≤72057594037927936)))))
theorem lk_Right (r d j b:Nat) (W:World):Calls Try.prog 8 #[.agg #[.int .u64 (r:Int),.int .u64 (d:Int),.int .u64 (j:Int),.int .u64 (b:Int)]] W fun e w'=>e=.returned (.bool (rightP r d j b))∧Below W.heap.size W w':=by
 unfold rightP
 obtain ⟨q0,hq0⟩:∃q,q=decide (1≤r):=⟨_,rfl⟩
 have g0:decide ((1:Int)≤(r:Int))=q0:=by rw [hq0];apply decide_eq_decide.2;omega
 obtain ⟨q1,hq1⟩:∃q,q=decide (r≤1099511627776):=⟨_,rfl⟩
 have g1:decide ((r:Int)≤(1099511627776:Int))=q1:=by rw [hq1];apply decide_eq_decide.2;omega
 obtain ⟨q2,hq2⟩:∃q,q=decide (d≤4398046511104):=⟨_,rfl⟩
 have g2:decide ((d:Int)≤(4398046511104:Int))=q2:=by rw [hq2];apply decide_eq_decide.2;omega
 obtain ⟨q3,hq3⟩:∃q,q=decide (j≤4398046511104):=⟨_,rfl⟩
 have g3:decide ((j:Int)≤(4398046511104:Int))=q3:=by rw [hq3];apply decide_eq_decide.2;omega
 obtain ⟨q4,hq4⟩:∃q,q=decide (1≤b):=⟨_,rfl⟩
 have g4:decide ((1:Int)≤(b:Int))=q4:=by rw [hq4];apply decide_eq_decide.2;omega
 obtain ⟨q5,hq5⟩:∃q,q=decide (b≤72057594037927936):=⟨_,rfl⟩
 have g5:decide ((b:Int)≤(72057594037927936:Int))=q5:=by rw [hq5];apply decide_eq_decide.2;omega
 rw [← hq0,← hq1,← hq2,← hq3,← hq4,← hq5]
 replace hq0:=hq0.symm
 replace hq1:=hq1.symm
 replace hq2:=hq2.symm
 replace hq3:=hq3.symm
 replace hq4:=hq4.symm
 replace hq5:=hq5.symm
 cases q0 with
 | false=>
   go_enter Try.func8,Try.ntmps8
   go_wp2
   go_ret
   exact ⟨rfl,al_be _ _⟩
 | true=>
   cases q1 with
   | false=>
     go_enter Try.func8,Try.ntmps8
     go_wp2
     go_ret
     exact ⟨rfl,al_be _ _⟩
   | true=>
     cases q2 with
     | false=>
       go_enter Try.func8,Try.ntmps8
       go_wp2
       go_ret
       exact ⟨rfl,al_be _ _⟩
     | true=>
       cases q3 with
       | false=>
         go_enter Try.func8,Try.ntmps8
         go_wp2
         go_ret
         exact ⟨rfl,al_be _ _⟩
       | true=>
         cases q4 with
         | false=>
           go_enter Try.func8,Try.ntmps8
           go_wp2
           go_ret
           exact ⟨rfl,al_be _ _⟩
         | true=>
           cases q5 with
           | false=>
             go_enter Try.func8,Try.ntmps8
             go_wp2
             go_ret
             exact ⟨rfl,al_be _ _⟩
           | true=>
             go_enter Try.func8,Try.ntmps8
             go_wp2
             go_ret
             exact ⟨rfl,al_be _ _⟩
structure LMade (W:World) (s:LS) (e:Ending) (w:World):Prop where
 at_:∃p,e=.returned (.tuple #[.pointer (some ⟨p.b,0,none⟩),.int .i64 0])∧LkAt w p s∧∀x∈p.l,W.heap.size≤x
 bel:Below W.heap.size W w
structure NwI (W:World) (z:Nat) (cs:Array Value) (w:World):Prop where
 blk:Blk w z 24 cs
 bel:Below W.heap.size W w
theorem NwI.to {W w w':World} {z:Nat} {cs:Array Value} (h:NwI W z cs w) (k:Below w.heap.size w w'):NwI W z cs w':=⟨h.blk.keep k,bel_to h.bel k h.bel.size⟩
theorem nw_r {W:World} {z r d j b:Nat}:(∀w,Hid (NwI W z #[.int .u64 (r:Int),.int .u64 (d:Int),.int .u64 (j:Int),.int .u64 (b:Int)] w)→w.cell? ⟨z,0,none⟩=some (.int .u64 (r:Int)))∧(∀w,Hid (NwI W z #[.int .u64 (r:Int),.int .u64 (d:Int),.int .u64 (j:Int),.int .u64 (b:Int)] w)→w.cell? ⟨z,1,none⟩=some (.int .u64 (d:Int)))∧(∀w,Hid (NwI W z #[.int .u64 (r:Int),.int .u64 (d:Int),.int .u64 (j:Int),.int .u64 (b:Int)] w)→w.cell? ⟨z,2,none⟩=some (.int .u64 (j:Int)))∧(∀w,Hid (NwI W z #[.int .u64 (r:Int),.int .u64 (d:Int),.int .u64 (j:Int),.int .u64 (b:Int)] w)→w.cell? ⟨z,3,none⟩=some (.int .u64 (b:Int))):=
 ⟨fun w h=>h.out.blk.cell rfl,fun w h=>h.out.blk.cell rfl,fun w h=>h.out.blk.cell rfl,fun w h=>h.out.blk.cell rfl⟩
theorem start_cells (r d j b x kb qb qr qg jb jr jg:Nat):(LS.start r d j b).cells ⟨x,kb,qb,qr,qg,jb,jr,jg⟩=#[.int .u64 (r:Int),.int .u64 (d:Int),.int .u64 (j:Int),.int .u64 (b:Int),.pointer (some ⟨kb,0,none⟩),.pointer (some ⟨qb,0,none⟩),.pointer (some ⟨jb,0,none⟩),.int .u64 0,.int .u64 0,.int .u64 0,.int .u64 0,.int .u64 0,.int .u64 0,.int .u64 0]:=by simp [LS.cells,LS.start,LS.hi,LS.lo]
theorem kb_New (r:Nat) (W:World):Calls Try.prog 20 #[.int .u64 (r:Int)] W fun e w'=>∃kb,e=.returned (.pointer (some ⟨kb,0,none⟩))∧Blk w' kb 100 (KB.start r).cells∧W.heap.size≤kb∧Below W.heap.size W w':=
 (bk_New r W).mono fun e w' q=>⟨W.heap.size,q.1,q.2▸Blk.new _ _ _,Nat.le_refl _,q.2▸al_be _ _⟩
theorem lk_New_no (r d j b:Nat) (W:World) (h:rightP r d j b=false):Calls Try.prog 6 #[.agg #[.int .u64 (r:Int),.int .u64 (d:Int),.int .u64 (j:Int),.int .u64 (b:Int)]] W fun e w'=>e=.returned (.tuple #[.pointer none,.int .i64 1])∧Below W.heap.size W w':=by
 have HR:=Lib.hid (lk_Right r d j b)
 rw [h] at HR
 go_enter Try.func6,Try.ntmps6
 go_wp2_with fail
 refine (HR.out _).mono ?_
 rintro e w1 ⟨rfl,hb⟩
 have HB:Hid (Below W.heap.size W w1):=Lib.hid (bel_to (al_be _ _) hb (by simp))
 clear hb HR
 go_wp2_with fail
 go_ret2
 exact ⟨rfl,HB.out⟩
set_option maxRecDepth 100000 in
set_option maxHeartbeats 1000000 in
theorem lk_New (r d j b:Nat) (W:World) (h:rightP r d j b=true):Calls Try.prog 6 #[.agg #[.int .u64 (r:Int),.int .u64 (d:Int),.int .u64 (j:Int),.int .u64 (b:Int)]] W (LMade W (LS.start r d j b)):=by
 have HR:=Lib.hid (lk_Right r d j b)
 rw [h] at HR
 have HK:=Lib.hid (kb_New r)
 have HQ:=Lib.hid (wq_New b)
 have HJ:=Lib.hid (bx_New d j)
 have I0:Hid (NwI W W.heap.size #[.int .u64 (r:Int),.int .u64 (d:Int),.int .u64 (j:Int),.int .u64 (b:Int)] (W.alloc (.cells #[.int .u64 (r:Int),.int .u64 (d:Int),.int .u64 (j:Int),.int .u64 (b:Int)] 24))):=Lib.hid ⟨Blk.new _ _ _,al_be _ _⟩
 obtain ⟨r0,r1,r2,r3⟩:=nw_r (W:=W) (z:=W.heap.size) (r:=r) (d:=d) (j:=j) (b:=b)
 have c0:=r0 _ I0
 have c1:=r1 _ I0
 have c2:=r2 _ I0
 have c3:=r3 _ I0
 clear h
 go_enter Try.func6,Try.ntmps6
 go_wp2_with fail
 refine (HR.out _).mono ?_
 rintro e w0 ⟨rfl,hb⟩
 have M0:=Lib.hid ((I0.out.to hb).to ((Drawn.drew _).below _))
 clear hb HR I0 c0 c1 c2 c3
 go_wp2_with fail
 refine wp_region_held_drew (S:=(fun w'=>Hid (NwI W W.heap.size #[.int .u64 (r:Int),.int .u64 (d:Int),.int .u64 (j:Int),.int .u64 (b:Int)] w'))) (by kernel_rfl) M0 (fun hHeld=>?_)
 generalize w0.drew=wd at *
 simp only [List.size_toArray,List.length_cons,List.length_nil,Nat.reduceAdd,Array.replicate_succ,Array.replicate_zero,List.push_toArray,List.nil_append,List.cons_append]
 refine wpAnyH_take (i:=0) (oi:=⟨some 7,_,_,_,_,_⟩) (v:=?v1) rfl (by kernel_rfl) (by kernel_rfl) (by kernel_rfl) (fun _ _ _ h=>h) (Or.inl ⟨by rfl,?y1⟩) (by assumption) ?r1
 case y1=>intro w hSw;skip;go_simp;(try with_reducible rfl)
 simp only [Act.put,List.setIfInBounds_toArray,List.set_cons_zero,List.set_cons_succ]
 refine wpAnyH_take (i:=1) (oi:=⟨some 8,_,_,_,_,_⟩) (v:=?v2) rfl (by kernel_rfl) (by kernel_rfl) (by kernel_rfl) (fun _ _ _ h=>h) (Or.inl ⟨by rfl,?y2⟩) (by assumption) ?r2
 case y2=>intro w hSw;clear hSw;go_simp;(try with_reducible rfl)
 simp only [Act.put,List.setIfInBounds_toArray,List.set_cons_zero,List.set_cons_succ]
 refine wpAnyH_take (i:=2) (oi:=⟨some 9,_,_,_,_,_⟩) (v:=?v3) rfl (by kernel_rfl) (by kernel_rfl) (by kernel_rfl) (fun _ _ _ h=>h) (Or.inl ⟨by rfl,?y3⟩) (by assumption) ?r3
 case y3=>intro w hSw;skip;go_simp;(try with_reducible rfl)
 simp only [Act.put,List.setIfInBounds_toArray,List.set_cons_zero,List.set_cons_succ]
 refine wpAnyH_take (i:=4) (oi:=⟨some 11,_,_,_,_,_⟩) (v:=?v4) rfl (by kernel_rfl) (by kernel_rfl) (by kernel_rfl) (fun _ _ _ h=>h) (Or.inl ⟨by rfl,?y4⟩) (by assumption) ?r4
 case y4=>intro w hSw;clear hSw;go_simp;(try with_reducible rfl)
 simp only [Act.put,List.setIfInBounds_toArray,List.set_cons_zero,List.set_cons_succ]
 refine wpAnyH_take (i:=5) (oi:=⟨some 12,_,_,_,_,_⟩) (v:=?v5) rfl (by kernel_rfl) (by kernel_rfl) (by kernel_rfl) (fun _ _ _ h=>h) (Or.inl ⟨by rfl,?y5⟩) (by assumption) ?r5
 case y5=>intro w hSw;skip;go_simp;(try with_reducible rfl)
 simp only [Act.put,List.setIfInBounds_toArray,List.set_cons_zero,List.set_cons_succ]
 refine wpAnyH_take (i:=7) (oi:=⟨some 14,_,_,_,_,_⟩) (v:=?v6) rfl (by kernel_rfl) (by kernel_rfl) (by kernel_rfl) (fun _ _ _ h=>h) (Or.inl ⟨by rfl,?y6⟩) (by assumption) ?r6
 case y6=>intro w hSw;clear hSw;go_simp;(try with_reducible rfl)
 simp only [Act.put,List.setIfInBounds_toArray,List.set_cons_zero,List.set_cons_succ]
 refine wpAnyH_take (i:=8) (oi:=⟨some 15,_,_,_,_,_⟩) (v:=?v7) rfl (by kernel_rfl) (by kernel_rfl) (by kernel_rfl) (fun _ _ _ h=>h) (Or.inl ⟨by rfl,?y7⟩) (by assumption) ?r7
 case y7=>intro w hSw;skip;go_simp;(try with_reducible rfl)
 simp only [Act.put,List.setIfInBounds_toArray,List.set_cons_zero,List.set_cons_succ]
 refine wpAnyH_take (i:=9) (oi:=⟨some 16,_,_,_,_,_⟩) (v:=?v8) rfl (by kernel_rfl) (by kernel_rfl) (by kernel_rfl) (fun _ _ _ h=>h) (Or.inl ⟨by rfl,?y8⟩) (by assumption) ?r8
 case y8=>intro w hSw;clear hSw;go_simp;(try with_reducible rfl)
 simp only [Act.put,List.setIfInBounds_toArray,List.set_cons_zero,List.set_cons_succ]
 refine wpAnyH_take (i:=10) (oi:=⟨some 17,_,_,_,_,_⟩) (v:=?v9) rfl (by kernel_rfl) (by kernel_rfl) (by kernel_rfl) (fun _ _ _ h=>h) (Or.inl ⟨by rfl,?y9⟩) (by assumption) ?r9
 case y9=>intro w hSw;skip;go_simp;(try with_reducible rfl)
 simp only [Act.put,List.setIfInBounds_toArray,List.set_cons_zero,List.set_cons_succ]
 refine wpAnyH_ready (rs:=[3]) (by kernel_rfl) (by simp) ?_
 refine AllReadyH.cons (o:=⟨some 10,_,_,_,_,_⟩) rfl (fun K hK=>?_) AllReadyH.nil
 go_simp
 refine (HK.out _).mono ?_
 rintro e w1 ⟨kb,rfl,k1,k2,k3⟩
 have L1:=Lib.hid (Nat.le_trans (Hid.out (by assumption):NwI W W.heap.size #[.int .u64 (r:Int),.int .u64 (d:Int),.int .u64 (j:Int),.int .u64 (b:Int)] _).bel.size k2)
 have N1:=Lib.hid ((Hid.out (by assumption):NwI W W.heap.size #[.int .u64 (r:Int),.int .u64 (d:Int),.int .u64 (j:Int),.int .u64 (b:Int)] _).to k3)
 have B1:=Lib.hid k1
 clear k1 k2 k3
 go_wp2_with fail
 refine hK.out _ _ N1 (fun hHeld=>?_)
 clear hK
 try simp only [List.setIfInBounds_toArray,List.set_cons_zero,List.set_cons_succ]
 refine wpAnyH_ready (rs:=[6]) (by kernel_rfl) (by simp) ?_
 refine AllReadyH.cons (o:=⟨some 13,_,_,_,_,_⟩) rfl (fun K hK=>?_) AllReadyH.nil
 go_simp
 refine (HQ.out _).mono ?_
 rintro e w2 ⟨⟨qb,qr,qg,rfl,k1,k2,k3,k4⟩,k5⟩
 have sz:=(Hid.out (by assumption):NwI W W.heap.size #[.int .u64 (r:Int),.int .u64 (d:Int),.int .u64 (j:Int),.int .u64 (b:Int)] _).bel.size
 have N2:=Lib.hid ((Hid.out (by assumption):NwI W W.heap.size #[.int .u64 (r:Int),.int .u64 (d:Int),.int .u64 (j:Int),.int .u64 (b:Int)] _).to k5)
 have L2:=Lib.hid (And.intro (Nat.le_trans sz k2) (And.intro (Nat.le_trans sz k3) (Nat.le_trans sz k4)))
 have B2:=Lib.hid (B1.out.keep k5)
 have Q2:=Lib.hid k1
 clear k1 k2 k3 k4 k5 sz B1
 go_wp2_with fail
 refine hK.out _ _ N2 (fun hHeld=>?_)
 clear hK
 try simp only [List.setIfInBounds_toArray,List.set_cons_zero,List.set_cons_succ]
 refine wpAnyH_ready (rs:=[11]) (by kernel_rfl) (by simp) ?_
 refine AllReadyH.cons (o:=⟨some 18,_,_,_,_,_⟩) rfl (fun K hK=>?_) AllReadyH.nil
 go_simp
 refine (HJ.out _).mono ?_
 rintro e w3 ⟨⟨jb,jr,jg,rfl,k1,k2,k3,k4⟩,k5⟩
 have sz:=(Hid.out (by assumption):NwI W W.heap.size #[.int .u64 (r:Int),.int .u64 (d:Int),.int .u64 (j:Int),.int .u64 (b:Int)] _).bel.size
 have N3:=Lib.hid ((Hid.out (by assumption):NwI W W.heap.size #[.int .u64 (r:Int),.int .u64 (d:Int),.int .u64 (j:Int),.int .u64 (b:Int)] _).to k5)
 have L3:=Lib.hid (And.intro (Nat.le_trans sz k2) (And.intro (Nat.le_trans sz k3) (Nat.le_trans sz k4)))
 have B3:=Lib.hid (B2.out.keep k5)
 have Q3:=Lib.hid (Q2.out.keep k5)
 have J3:=Lib.hid k1
 clear k1 k2 k3 k4 k5 sz B2 Q2
 go_wp2_with fail
 refine hK.out _ _ N3 (fun hHeld=>?_)
 clear hK
 try simp only [List.setIfInBounds_toArray,List.set_cons_zero,List.set_cons_succ]
 refine wpAnyH_take (i:=12) (oi:=⟨some 19,_,_,_,_,_⟩) (v:=?v10) rfl (by kernel_rfl) (by kernel_rfl) (by kernel_rfl) (fun _ _ _ h=>h) (Or.inl ⟨by rfl,?y10⟩) (by assumption) ?r10
 case y10=>intro w hSw;clear hSw;go_simp;(try with_reducible rfl)
 simp only [Act.put,List.setIfInBounds_toArray,List.set_cons_zero,List.set_cons_succ]
 refine wpAnyH_ready (rs:=[13]) (by kernel_rfl) (by simp) ?_
 refine AllReadyH.cons (o:=⟨some 20,_,_,_,_,_⟩) rfl (fun K hK=>?_) AllReadyH.nil
 have N4:=Lib.hid ((Hid.out (by assumption):NwI W W.heap.size #[.int .u64 (r:Int),.int .u64 (d:Int),.int .u64 (j:Int),.int .u64 (b:Int)] _).to (al_be _ (.cells #[.int .u64 (r:Int),.int .u64 (d:Int),.int .u64 (j:Int),.int .u64 (b:Int),.pointer (some ⟨kb,0,none⟩),.pointer (some ⟨qb,0,none⟩),.pointer (some ⟨jb,0,none⟩),.int .u64 0,.int .u64 0,.int .u64 0,.int .u64 0,.int .u64 0,.int .u64 0,.int .u64 0] 80)))
 go_simp
 refine hK.out _ _ N4 (fun hHeld=>?_)
 clear hK
 try simp only [List.setIfInBounds_toArray,List.set_cons_zero,List.set_cons_succ]
 refine wpAnyH_take (i:=14) (oi:=⟨some 2,_,_,_,_,_⟩) (v:=?v11) rfl (by kernel_rfl) (by kernel_rfl) (by kernel_rfl) (fun _ _ _ h=>h) (Or.inl ⟨by rfl,?y11⟩) (by assumption) ?r11
 case y11=>intro w hSw;clear hSw;go_simp;(try with_reducible rfl)
 simp only [Act.put,List.setIfInBounds_toArray,List.set_cons_zero,List.set_cons_succ]
 refine wpAnyH_take (i:=15) (oi:=⟨some 3,_,_,_,_,_⟩) (v:=?v12) rfl (by kernel_rfl) (by kernel_rfl) (by kernel_rfl) (fun _ _ _ h=>h) (Or.inl ⟨by rfl,?y12⟩) (by assumption) ?r12
 case y12=>intro w hSw;clear hSw;go_simp;(try with_reducible rfl)
 simp only [Act.put,List.setIfInBounds_toArray,List.set_cons_zero,List.set_cons_succ]
 refine wpAnyH_done (by kernel_rfl) ?_ _
 clear hHeld
 go_wp2_with fail
 go_ret2
 have sz:=N3.out.bel.size
 refine ⟨⟨⟨w3.heap.size,kb,qb,qr,qg,jb,jr,jg⟩,rfl,⟨by rw [start_cells];exact Blk.new _ _ _,B3.out.keep (al_be _ _),Q3.out.keep (al_be _ _),J3.out.keep (al_be _ _)⟩,?_⟩,N4.out.bel⟩
 intro x hx
 have l1:=L1.out
 have l2:=L2.out
 have l3:=L3.out
 simp only [PL.l,List.mem_cons,List.not_mem_nil,or_false] at hx
 rcases hx with rfl | rfl | rfl | rfl | rfl | rfl | rfl | rfl
 exact sz
 exact l1
 exact l2.1
 exact l2.2.1
 exact l2.2.2
 exact l3.1
 exact l3.2.1
 exact l3.2.2
end Go.Proofs.Ytaffjfajjpgjpaa
