/- 2 texts put together: what each one says stands ahead of it. -/
import Derived.Test.YtljganehlagnoaaKMeterChecks11
import Derived.Test.YtljganehlagnoaaKMeterChecks12
set_option linter.unusedVariables false
namespace Go.Proofs.Ytljganehlagnoaa
open Go.RowKit
set_option maxRecDepth 100000 in
set_option maxHeartbeats 4000000 in
theorem dr_Turns (l:List Rw) (ao:Option Addr) (cap:Nat) (W:World) (hi:Its W ao l) (hl:l.length≤200) (hb:∀t∈l,t.le 18446744073709551615):
  Calls Try.prog 16 #[.slice ao l.length cap] W fun e w'=>∃v,e=.returned v∧SOwn 45 W.heap.size w' v (turnsR Rw.z l)∧Below W.heap.size W w':=by
 have HN:Hid (TuI W W.heap.size 55 45 l 0 (.slice none 0 0) (W.alloc (.cells #[.int .u64 0,.int .u64 0,.int .u64 0,.int .u64 0,.int .u64 0] 55))):=Lib.hid ⟨⟨Blk.new W _ _,al_be _ _,Nat.le_refl _⟩,SOwn.nil _ _ _⟩
 have HI:=Lib.hid hi
 have HB:=Lib.hid hb
 obtain ⟨i0,hi0,hz0,hz1,hz2⟩:=info_parts dturn_info
 have HIi:=Lib.hid hi0
 have HZ0:=Lib.hid hz0
 have HZ1:=Lib.hid hz1
 have HZ2:=Lib.hid hz2
 clear hi hb hi0 hz0 hz1 hz2
 go_enter Try.func16,Try.ntmps16
 go_wp2_with fail
 go_loopw [5,3] (fun i v wr=>∃k:Nat,i=.int .i64 (k:Int)∧k≤l.length∧Hid (TuI W W.heap.size 55 45 l k v wr)) (fun i _ _=>l.length - (intOf i).toNat)
 case atStart=>exact ⟨0,rfl,Nat.zero_le _,HN⟩
 case round=>
  obtain ⟨k,rfl,hk,H⟩:=hrel
  clear HN
  by_cases hlt:k < l.length
  ·obtain ⟨b,off,rfl,hbl,hc⟩:=its_rw HI.out (by omega)
   obtain ⟨x,hx⟩:∃x,x=l.getD k Itm.z:=⟨_,rfl⟩
   obtain ⟨c0,c1,c2,c3,c4⟩:=hc k hlt x hx
   have HX:=Lib.hid hx
   have HL:=Lib.hid hlt
   have i0':(0:Int)≤(k:Int):=by omega
   have i1:(k:Int) < (l.length:Int):=by omega
   have HXb:=HB.out x (mem_getD hlt hx)
   obtain ⟨ah,hah⟩:∃r,r=lastW Rw.z (l.take k):=⟨_,rfl⟩
   have HJ:=Lib.hid H.out.box
   rw [← hah] at HJ
   obtain ⟨g1,hg1⟩:∃n,n=x.g - ah.g:=⟨_,rfl⟩
   obtain ⟨c1',hc1⟩:∃n,n=x.c - ah.c:=⟨_,rfl⟩
   obtain ⟨w1',hw1⟩:∃n,n=x.w - ah.w:=⟨_,rfl⟩
   have HMg:=Lib.hid (fun w=>dr_Sub x.g ah.g w HXb.1)
   have HMc:=Lib.hid (fun w=>dr_Sub x.c ah.c w HXb.2.1)
   have HMw:=Lib.hid (fun w=>dr_Sub x.w ah.w w HXb.2.2.2.2)
   rw [← hg1] at HMg
   rw [← hc1] at HMc
   rw [← hw1] at HMw
   have HT:Hid (turnsR Rw.z (l.take (k + 1))=turnsR Rw.z (l.take k) ++ [⟨g1,c1',w1'⟩]):=Lib.hid (by rw [take_snoc' l k hlt x hx,turnsR_snoc,← hah,hg1,hc1,hw1];rfl)
   have HLn:Hid ((turnsR Rw.z (l.take k)).length=k):=Lib.hid (by rw [turnsR_len,List.length_take];omega)
   have HO:=Lib.hid H.out.own
   have a0:∀w,Hid (BoxR W W.heap.size 55 ah w)→w.cell? ⟨b,off + k * 5,none⟩=some (.int .u64 (x.g:Int)):=fun w h=>(h.out.bel.cell (p:=⟨b,_,none⟩) hbl).trans c0
   have a1:∀w,Hid (BoxR W W.heap.size 55 ah w)→w.cell? ⟨b,off + k * 5 + 1,none⟩=some (.int .u64 (x.c:Int)):=fun w h=>(h.out.bel.cell (p:=⟨b,_,none⟩) hbl).trans c1
   have a2:∀w,Hid (BoxR W W.heap.size 55 ah w)→w.cell? ⟨b,off + k * 5 + 2,none⟩=some (.int .u64 (x.d:Int)):=fun w h=>(h.out.bel.cell (p:=⟨b,_,none⟩) hbl).trans c2
   have a3:∀w,Hid (BoxR W W.heap.size 55 ah w)→w.cell? ⟨b,off + k * 5 + 3,none⟩=some (.int .u64 (x.s:Int)):=fun w h=>(h.out.bel.cell (p:=⟨b,_,none⟩) hbl).trans c3
   have a4:∀w,Hid (BoxR W W.heap.size 55 ah w)→w.cell? ⟨b,off + k * 5 + 4,none⟩=some (.int .u64 (x.w:Int)):=fun w h=>(h.out.bel.cell (p:=⟨b,_,none⟩) hbl).trans c4
   have q0:∀w,Hid (BoxR W W.heap.size 55 ah w)→w.cell? ⟨W.heap.size,0,none⟩=some (.int .u64 (ah.g:Int)):=fun w h=>h.out.b.cell rfl
   have q1:∀w,Hid (BoxR W W.heap.size 55 ah w)→w.cell? ⟨W.heap.size,1,none⟩=some (.int .u64 (ah.c:Int)):=fun w h=>h.out.b.cell rfl
   have q2:∀w,Hid (BoxR W W.heap.size 55 ah w)→w.cell? ⟨W.heap.size,2,none⟩=some (.int .u64 (ah.d:Int)):=fun w h=>h.out.b.cell rfl
   have q3:∀w,Hid (BoxR W W.heap.size 55 ah w)→w.cell? ⟨W.heap.size,3,none⟩=some (.int .u64 (ah.s:Int)):=fun w h=>h.out.b.cell rfl
   have q4:∀w,Hid (BoxR W W.heap.size 55 ah w)→w.cell? ⟨W.heap.size,4,none⟩=some (.int .u64 (ah.w:Int)):=fun w h=>h.out.b.cell rfl
   clear hc hx c0 c1 c2 c3 c4 hbl hah hg1 hc1 hw1 HXb H
   generalize turnsR Rw.z (l.take k)=pre at *
   obtain ⟨ap,cp,hv,hp1,hp2,_,_⟩:=HO.out.form
   rw [HLn.out] at hv hp1
   subst hv
   obtain ⟨w0,hw0⟩:∃w,wr.drew=w:=⟨_,rfl⟩
   have HOd:Hid (SOwn 45 W.heap.size w0 (.slice ap k cp) pre):=Lib.hid (by rw [← hw0];exact HO.out.keep ((Drawn.drew _).below _))
   have HO2:Hid ((w0.alloc (.cells #[.int .u64 (g1:Int),.int .u64 (c1':Int),.int .u64 (w1':Int)] 45)).ownsRow W.heap.size 45 3 (.slice ap k cp) k (pre.flatMap Itm.cs)):=Lib.hid (by
    have:=HOd.out.keep (al_be w0 (.cells #[.int .u64 (g1:Int),.int .u64 (c1':Int),.int .u64 (w1':Int)] 45))
    unfold SOwn at this
    rw [HLn.out] at this
    exact this)
   have HOne:=Lib.hid (Itm.one (⟨g1,c1',w1'⟩:Tn))
   have M0:Hid (BoxR W W.heap.size 55 ah w0):=Lib.hid (by rw [← hw0];exact HJ.out.to ((Drawn.drew _).below _))
   have M1:Hid (BoxR W W.heap.size 55 ah (w0.alloc (.cells #[.int .u64 (g1:Int),.int .u64 (c1':Int),.int .u64 (w1':Int)] 45))):=Lib.hid (M0.out.to (al_be _ _))
   have hsz:=M1.out.bel.size
   clear HJ HO
   go_wp2_with fail
   refine' wp_region_chain1 (S:=(fun w'=>Hid (BoxR W W.heap.size 55 ah w')∧w'=w0)) 26 0 (o:=⟨some 13,_,_,_,_,_⟩) (v:=?v8) 28 rfl (by kernel_rfl) (by kernel_rfl) (by kernel_rfl) rfl (by kernel_rfl) (by kernel_rfl) (fun _ _ _ h=>h) (Or.inl ⟨by rfl,?y8⟩) ⟨by rw [hw0];exact M0,hw0⟩ ?rest8
   case y8=>intro w;go_simp;(try with_reducible rfl)
   simp only [List.size_toArray,List.length_cons,List.length_nil,Nat.reduceAdd,Array.replicate_succ,Array.replicate_zero,List.push_toArray,List.nil_append,List.cons_append]
   simp only [Act.put,List.setIfInBounds_toArray,List.set_cons_zero,List.set_cons_succ]
   refine Chain.take (i:=1) (oi:=⟨some 14,_,_,_,_,_⟩) (v:=?v9) rfl (by kernel_rfl) (by kernel_rfl) (Or.inl ⟨by rfl,?y9⟩) ?rest9
   case y9=>intro w hSw;clear hSw;go_simp;(try with_reducible rfl)
   simp only [Act.put,List.setIfInBounds_toArray,List.set_cons_zero,List.set_cons_succ]
   refine Chain.take (i:=2) (oi:=⟨some 15,_,_,_,_,_⟩) (v:=?v10) rfl (by kernel_rfl) (by kernel_rfl) (Or.inl ⟨by rfl,?y10⟩) ?rest10
   case y10=>intro w hSw;clear hSw;go_simp;(try with_reducible rfl)
   simp only [Act.put,List.setIfInBounds_toArray,List.set_cons_zero,List.set_cons_succ]
   refine Chain.take (i:=3) (oi:=⟨some 16,_,_,_,_,_⟩) (v:=?v11) rfl (by kernel_rfl) (by kernel_rfl) (Or.inl ⟨by rfl,?y11⟩) ?rest11
   case y11=>intro w hSw;clear hSw;go_simp;(try with_reducible rfl)
   simp only [Act.put,List.setIfInBounds_toArray,List.set_cons_zero,List.set_cons_succ]
   refine Chain.take (i:=4) (oi:=⟨some 17,_,_,_,_,_⟩) (v:=?v12) rfl (by kernel_rfl) (by kernel_rfl) (Or.inl ⟨by rfl,?y12⟩) ?rest12
   case y12=>intro w hSw;clear hSw;go_simp;(try with_reducible rfl)
   simp only [Act.put,List.setIfInBounds_toArray,List.set_cons_zero,List.set_cons_succ]
   refine Chain.take (i:=5) (oi:=⟨some 18,_,_,_,_,_⟩) (v:=?v13) rfl (by kernel_rfl) (by kernel_rfl) (Or.inl ⟨by rfl,?y13⟩) ?rest13
   case y13=>intro w hSw;go_simp;(try with_reducible rfl)
   simp only [Act.put,List.setIfInBounds_toArray,List.set_cons_zero,List.set_cons_succ]
   refine Chain.take (i:=6) (oi:=⟨some 19,_,_,_,_,_⟩) (v:=?v14) rfl (by kernel_rfl) (by kernel_rfl) (Or.inl ⟨by rfl,?y14⟩) ?rest14
   case y14=>intro w hSw;clear hSw;go_simp;(try with_reducible rfl)
   simp only [Act.put,List.setIfInBounds_toArray,List.set_cons_zero,List.set_cons_succ]
   refine Chain.take (i:=7) (oi:=⟨some 20,_,_,_,_,_⟩) (v:=?v15) rfl (by kernel_rfl) (by kernel_rfl) (Or.inl ⟨by rfl,?y15⟩) ?rest15
   case y15=>intro w hSw;go_simp;(try with_reducible rfl)
   simp only [Act.put,List.setIfInBounds_toArray,List.set_cons_zero,List.set_cons_succ]
   refine' Chain.call (i:=8) (oi:=⟨some 21,_,_,_,_,_⟩) _ _ rfl (by kernel_rfl) (by kernel_rfl) (by rfl) ?he16 (fun w hS=>(HMg.out w).mono (fun e w' q=>⟨q.1,q.2▸hS⟩)) ?rest16
   case he16=>intro w;go_simp
   simp only [Act.put,List.setIfInBounds_toArray,List.set_cons_zero,List.set_cons_succ]
   refine Chain.take (i:=9) (oi:=⟨some 22,_,_,_,_,_⟩) (v:=?v17) rfl (by kernel_rfl) (by kernel_rfl) (Or.inl ⟨by rfl,?y17⟩) ?rest17
   case y17=>intro w hSw;clear hSw;go_simp;(try with_reducible rfl)
   simp only [Act.put,List.setIfInBounds_toArray,List.set_cons_zero,List.set_cons_succ]
   refine Chain.take (i:=10) (oi:=⟨some 23,_,_,_,_,_⟩) (v:=?v18) rfl (by kernel_rfl) (by kernel_rfl) (Or.inl ⟨by rfl,?y18⟩) ?rest18
   case y18=>intro w hSw;clear hSw;go_simp;(try with_reducible rfl)
   simp only [Act.put,List.setIfInBounds_toArray,List.set_cons_zero,List.set_cons_succ]
   refine Chain.take (i:=11) (oi:=⟨some 24,_,_,_,_,_⟩) (v:=?v19) rfl (by kernel_rfl) (by kernel_rfl) (Or.inl ⟨by rfl,?y19⟩) ?rest19
   case y19=>intro w hSw;clear hSw;go_simp;(try with_reducible rfl)
   simp only [Act.put,List.setIfInBounds_toArray,List.set_cons_zero,List.set_cons_succ]
   refine Chain.take (i:=12) (oi:=⟨some 25,_,_,_,_,_⟩) (v:=?v20) rfl (by kernel_rfl) (by kernel_rfl) (Or.inl ⟨by rfl,?y20⟩) ?rest20
   case y20=>intro w hSw;clear hSw;go_simp;(try with_reducible rfl)
   simp only [Act.put,List.setIfInBounds_toArray,List.set_cons_zero,List.set_cons_succ]
   refine Chain.take (i:=13) (oi:=⟨some 26,_,_,_,_,_⟩) (v:=?v21) rfl (by kernel_rfl) (by kernel_rfl) (Or.inl ⟨by rfl,?y21⟩) ?rest21
   case y21=>intro w hSw;go_simp;(try with_reducible rfl)
   simp only [Act.put,List.setIfInBounds_toArray,List.set_cons_zero,List.set_cons_succ]
   refine Chain.take (i:=14) (oi:=⟨some 27,_,_,_,_,_⟩) (v:=?v22) rfl (by kernel_rfl) (by kernel_rfl) (Or.inl ⟨by rfl,?y22⟩) ?rest22
   case y22=>intro w hSw;clear hSw;go_simp;(try with_reducible rfl)
   simp only [Act.put,List.setIfInBounds_toArray,List.set_cons_zero,List.set_cons_succ]
   refine Chain.take (i:=15) (oi:=⟨some 28,_,_,_,_,_⟩) (v:=?v23) rfl (by kernel_rfl) (by kernel_rfl) (Or.inl ⟨by rfl,?y23⟩) ?rest23
   case y23=>intro w hSw;go_simp;(try with_reducible rfl)
   simp only [Act.put,List.setIfInBounds_toArray,List.set_cons_zero,List.set_cons_succ]
   refine' Chain.call (i:=16) (oi:=⟨some 29,_,_,_,_,_⟩) _ _ rfl (by kernel_rfl) (by kernel_rfl) (by rfl) ?he24 (fun w hS=>(HMc.out w).mono (fun e w' q=>⟨q.1,q.2▸hS⟩)) ?rest24
   case he24=>intro w;go_simp
   simp only [Act.put,List.setIfInBounds_toArray,List.set_cons_zero,List.set_cons_succ]
   refine Chain.take (i:=17) (oi:=⟨some 30,_,_,_,_,_⟩) (v:=?v25) rfl (by kernel_rfl) (by kernel_rfl) (Or.inl ⟨by rfl,?y25⟩) ?rest25
   case y25=>intro w hSw;clear hSw;go_simp;(try with_reducible rfl)
   simp only [Act.put,List.setIfInBounds_toArray,List.set_cons_zero,List.set_cons_succ]
   refine Chain.take (i:=18) (oi:=⟨some 31,_,_,_,_,_⟩) (v:=?v26) rfl (by kernel_rfl) (by kernel_rfl) (Or.inl ⟨by rfl,?y26⟩) ?rest26
   case y26=>intro w hSw;clear hSw;go_simp;(try with_reducible rfl)
   simp only [Act.put,List.setIfInBounds_toArray,List.set_cons_zero,List.set_cons_succ]
   refine Chain.take (i:=19) (oi:=⟨some 32,_,_,_,_,_⟩) (v:=?v27) rfl (by kernel_rfl) (by kernel_rfl) (Or.inl ⟨by rfl,?y27⟩) ?rest27
   case y27=>intro w hSw;clear hSw;go_simp;(try with_reducible rfl)
   simp only [Act.put,List.setIfInBounds_toArray,List.set_cons_zero,List.set_cons_succ]
   refine Chain.take (i:=20) (oi:=⟨some 33,_,_,_,_,_⟩) (v:=?v28) rfl (by kernel_rfl) (by kernel_rfl) (Or.inl ⟨by rfl,?y28⟩) ?rest28
   case y28=>intro w hSw;clear hSw;go_simp;(try with_reducible rfl)
   simp only [Act.put,List.setIfInBounds_toArray,List.set_cons_zero,List.set_cons_succ]
   refine Chain.take (i:=21) (oi:=⟨some 34,_,_,_,_,_⟩) (v:=?v29) rfl (by kernel_rfl) (by kernel_rfl) (Or.inl ⟨by rfl,?y29⟩) ?rest29
   case y29=>intro w hSw;go_simp;(try with_reducible rfl)
   simp only [Act.put,List.setIfInBounds_toArray,List.set_cons_zero,List.set_cons_succ]
   refine Chain.take (i:=22) (oi:=⟨some 35,_,_,_,_,_⟩) (v:=?v30) rfl (by kernel_rfl) (by kernel_rfl) (Or.inl ⟨by rfl,?y30⟩) ?rest30
   case y30=>intro w hSw;clear hSw;go_simp;(try with_reducible rfl)
   simp only [Act.put,List.setIfInBounds_toArray,List.set_cons_zero,List.set_cons_succ]
   refine Chain.take (i:=23) (oi:=⟨some 36,_,_,_,_,_⟩) (v:=?v31) rfl (by kernel_rfl) (by kernel_rfl) (Or.inl ⟨by rfl,?y31⟩) ?rest31
   case y31=>intro w hSw;go_simp;(try with_reducible rfl)
   simp only [Act.put,List.setIfInBounds_toArray,List.set_cons_zero,List.set_cons_succ]
   refine' Chain.call (i:=24) (oi:=⟨some 37,_,_,_,_,_⟩) _ _ rfl (by kernel_rfl) (by kernel_rfl) (by rfl) ?he32 (fun w hS=>(HMw.out w).mono (fun e w' q=>⟨q.1,q.2▸hS⟩)) ?rest32
   case he32=>intro w;go_simp
   simp only [Act.put,List.setIfInBounds_toArray,List.set_cons_zero,List.set_cons_succ]
   refine Chain.take (i:=25) (oi:=⟨some 38,_,_,_,_,_⟩) (v:=?v33) rfl (by kernel_rfl) (by kernel_rfl) (Or.inl ⟨by rfl,?y33⟩) ?rest33
   case y33=>intro w hSw;clear hSw;go_simp;(try with_reducible rfl)
   simp only [Act.put,List.setIfInBounds_toArray,List.set_cons_zero,List.set_cons_succ]
   refine Chain.last (by kernel_rfl) (fun w hSw=>?_)
   refine wpAnyH_ready (rs:=[26]) (by kernel_rfl) (by simp) ?_
   refine AllReadyH.cons (o:=⟨some 39,_,_,_,_,_⟩) rfl (fun K hK=>?_) AllReadyH.nil
   obtain ⟨hSa,hww⟩:=hSw
   replace hww:=hww.symm
   subst hww
   clear hSa hw0
   go_simp
   refine hK.out _ _ trivial (fun _=>?_)
   clear hK
   try simp only [List.setIfInBounds_toArray,List.set_cons_zero,List.set_cons_succ]
   refine wpAnyH_ready (rs:=[27]) (by kernel_rfl) (by simp) ?_
   refine AllReadyH.cons (o:=⟨some 40,_,_,_,_,_⟩) rfl (fun K hK=>?_) AllReadyH.nil
   have HNw:=Lib.hid (World.news_of_block (Blk.new w0 45 #[.int .u64 (g1:Int),.int .u64 (c1':Int),.int .u64 (w1':Int)]))
   (refine step_append_lies _ (by rfl) _ _ _ (by rfl) W.heap.size 45 i0 (.agg #[.int .u64 0,.int .u64 0,.int .u64 0]) 3 24 Try.underlying32 HIi.out HZ0.out HZ1.out HZ2.out rfl (by decide) _ k (pre.flatMap Itm.cs) (by rfl) HO2.out ⟨w0.heap.size,0,none⟩ 1 1 [.int .u64 (g1:Int),.int .u64 (c1':Int),.int .u64 (w1':Int)] (by rfl) (by rfl) HNw.out HOne.out (by decide) (by unfold maxLen;omega) (by omega) hsz (w0.heap.size + 1) (by simp) ?_;intro g0 cap0 w5 hown hgrow hat hltg)
   have HS5:Hid (SOwn 45 W.heap.size w5 (.slice (some ⟨g0,0,none⟩) (k + 1) cap0) (pre ++ [⟨g1,c1',w1'⟩])):=Lib.hid (SOwn.snoc (x:=(⟨g1,c1',w1'⟩:Tn)) (by rw [HLn.out];exact hown))
   have M2:Hid (BoxR W W.heap.size 55 ah w5):=Lib.hid (M1.out.app (by decide) (HOd.out.keep (al_be _ _)) hgrow)
   clear hown hgrow hat hltg HNw
   refine hK.out _ _ trivial (fun _=>?_)
   clear hK
   try simp only [List.setIfInBounds_toArray,List.set_cons_zero,List.set_cons_succ]
   refine wpAnyH_take (i:=28) (oi:=⟨some 3,_,_,_,_,_⟩) (v:=?v35) rfl (by kernel_rfl) (by kernel_rfl) (by kernel_rfl) (fun _ _ _ h=>h) (Or.inl ⟨by rfl,?y35⟩) trivial ?rest35
   case y35=>intro w hSw;clear hSw;go_simp;(try with_reducible rfl)
   simp only [Act.put,List.setIfInBounds_toArray,List.set_cons_zero,List.set_cons_succ]
   refine wpAnyH_done (by kernel_rfl) ?_ _
   skip
   have HNx:Hid (TuI W W.heap.size 55 45 l (k + 1) (.slice (some ⟨g0,0,none⟩) (k + 1) cap0) ((((((w5).setCell ⟨W.heap.size,0,none⟩ (.int .u64 (x.g:Int))).setCell ⟨W.heap.size,1,none⟩ (.int .u64 (x.c:Int))).setCell ⟨W.heap.size,2,none⟩ (.int .u64 (x.d:Int))).setCell ⟨W.heap.size,3,none⟩ (.int .u64 (x.s:Int))).setCell ⟨W.heap.size,4,none⟩ (.int .u64 (x.w:Int)))):=Lib.hid (TuI.next (a:=ah) M2.out (by decide) (by rw [HT.out];exact HS5.out) HL.out HX.out)
   have y0:=M2.out.b.free 0
   have y1:=M2.out.b.free 1
   have y2:=M2.out.b.free 2
   have y3:=M2.out.b.free 3
   have y4:=M2.out.b.free 4
   replace a0:=a0 _ M2
   replace a1:=a1 _ M2
   replace a2:=a2 _ M2
   replace a3:=a3 _ M2
   replace a4:=a4 _ M2
   replace q0:=q0 _ M2
   replace q1:=q1 _ M2
   replace q2:=q2 _ M2
   replace q3:=q3 _ M2
   replace q4:=q4 _ M2
   clear HMg HMc HMw M0 M1 HO2 HOne hsz HOd HS5 M2
   go_wp2_with fail
   go_roundw
   case rel=>exact ⟨k + 1,by go_num,by omega,HNx⟩
   case measure=>simp [intOf];omega
  ·obtain rfl:k=l.length:=by omega
   have ho:=H.out.own
   rw [List.take_length] at ho
   have HO:=Lib.hid ho
   clear ho
   go_wp2_with fail
   go_ret
   exact ⟨u3,rfl,HO.out,H.out.box.bel⟩
end Go.Proofs.Ytljganehlagnoaa

set_option linter.unusedVariables false
namespace Go.Proofs.Ytljganehlagnoaa
open Go.RowKit
set_option maxRecDepth 100000 in
set_option maxHeartbeats 4000000 in
theorem MeterChecks_walk (room:Nat) (ao:Option Addr) (len cap:Nat) (l:List Rw) (W:World) (hr:room≤18446744073709551615) (hin:InR W ao len l):
  Calls Try.prog 4 #[.int .u64 (room:Int),.slice ao len cap] W fun e w'=>e=.returned (.bool true)∧Below W.heap.size W w':=by
 obtain ⟨rfl,hi,hb⟩:=hin
 by_cases hl:l.length≤200
 case neg=>
  have d0:decide ((200:Int) < (l.length:Int))=true:=decide_eq_true (by omega)
  go_enter Try.func4,Try.ntmps4
  go_wp2_with fail
  refine (alive22 _).mono ?_
  rintro e w9 ⟨rfl,hb⟩
  have B9:=Lib.hid hb
  clear hb
  go_wp2_with fail
  go_ret
  exact ⟨rfl,B9.out⟩
 have d0:decide ((200:Int) < (l.length:Int))=false:=decide_eq_false (by omega)
 have HI:=Lib.hid hi
 have HC:=Lib.hid (mt_Check room l ao cap W hi hl hb)
 have HD:=Lib.hid (fun ao cap w hi=>dr_Check room l ao cap w hi hl hb)
 have HS:=Lib.hid (fun w hi=>lw_rows l ao cap w hi hl)
 have HT:=Lib.hid (fun w hi=>mt_Turns l ao cap w hi hl hb)
 have HU:=Lib.hid (fun ao cap w hi=>dr_Turns l ao cap w hi hl hb)
 have HV:=Lib.hid (fun ao cap w hi=>lw_turns (turnsR Rw.z l) ao cap w hi (by rw [turnsR_len];exact hl))
 have HLn:Hid ((turnsR Rw.z l).length≤200):=Lib.hid (by rw [turnsR_len];exact hl)
 clear hi hb
 generalize chkR room l=ck at *
 generalize turnsR Rw.z l=tl at *
 go_enter Try.func4,Try.ntmps4
 go_wp2_with fail
 refine HC.out.mono ?_
 rintro e w1 ⟨rfl,hb1⟩
 have B1:=Lib.hid hb1
 have I1:=Lib.hid (HI.out.keep hb1)
 clear HC HI hb1
 go_wp2_with fail
 refine (HS.out _ I1.out).mono ?_
 rintro e w2 ⟨v2,rfl,ho2,hb2⟩
 have B2:=Lib.hid (bel_to B1.out hb2 B1.out.size)
 have I2:=Lib.hid (I1.out.keep hb2)
 obtain ⟨p2,c2,rfl,hi2⟩:=own_its ho2
 clear hb2 B1 I1 ho2
 go_wp2_with fail
 refine (HD.out _ _ _ hi2).mono ?_
 rintro e w3 ⟨rfl,hb3⟩
 have B3:=Lib.hid (bel_to B2.out hb3 B2.out.size)
 have I3:=Lib.hid (I2.out.keep hb3)
 clear hb3 B2 I2 HD hi2
 go_wp2_with fail
 refine (HT.out _ I3.out).mono ?_
 rintro e w4 ⟨v4,rfl,ho4,hb4⟩
 have B4:=Lib.hid (bel_to B3.out hb4 B3.out.size)
 have I4:=Lib.hid (I3.out.keep hb4)
 obtain ⟨p4,c4,rfl,hi4⟩:=own_its ho4
 clear hb4 B3 I3 HT ho4
 go_wp2_with fail
 refine (HV.out _ _ _ hi4).mono ?_
 rintro e w5 ⟨v5,rfl,ho5,hb5⟩
 have B5:=Lib.hid (bel_to B4.out hb5 B4.out.size)
 have I5:=Lib.hid (I4.out.keep hb5)
 have O5:=Lib.hid ho5
 clear hb5 B4 I4 HV hi4 ho5
 go_wp2_with fail
 refine (HS.out _ I5.out).mono ?_
 rintro e w6 ⟨v6,rfl,ho6,hb6⟩
 have B6:=Lib.hid (bel_to B5.out hb6 B5.out.size)
 have O6:=Lib.hid (O5.out.keep hb6)
 obtain ⟨p6,c6,rfl,hi6⟩:=own_its ho6
 clear hb6 B5 I5 HS ho6 O5
 go_wp2_with fail
 refine (HU.out _ _ _ hi6).mono ?_
 rintro e w7 ⟨v7,rfl,ho7,hb7⟩
 have B7:=Lib.hid (bel_to B6.out hb7 B6.out.size)
 obtain ⟨p5,c5,rfl,hi5⟩:=own_its (O6.out.keep hb7)
 obtain ⟨p7,c7,rfl,hi7⟩:=own_its ho7
 have I5:=Lib.hid hi5
 have I7:=Lib.hid hi7
 clear hb7 B6 HU hi6 ho7 O6 hi5 hi7
 go_wp2_with fail
 go_loopw [11] (fun i wr=>∃k:Nat,i=.int .i64 (k:Int)∧k≤tl.length∧Drawn w7 wr) (fun i _=>tl.length - (intOf i).toNat)
 case atStart=>exact ⟨0,rfl,Nat.zero_le _,Drawn.refl _⟩
 case round=>
  obtain ⟨k,rfl,hk,hd⟩:=hrel
  by_cases hlt:k < tl.length
  ·obtain ⟨g,off,rfl,_,hc⟩:=its_tn (I5.out.keep (hd.below _)) (by omega)
   obtain ⟨g2,off2,rfl,_,hc2⟩:=its_tn (I7.out.keep (hd.below _)) (by omega)
   obtain ⟨x,hx⟩:∃x,x=tl.getD k Itm.z:=⟨_,rfl⟩
   obtain ⟨a0,a1,a2⟩:=hc k hlt x hx
   obtain ⟨b0,b1,b2⟩:=hc2 k hlt x hx
   have i0:(0:Int)≤(k:Int):=by omega
   have i1:(k:Int) < (tl.length:Int):=by omega
   have HDr:=Lib.hid hd
   have hl2:=HLn.out
   clear hc hc2 hx hd
   go_wp2_with fail
   go_quiet (fail)
   go_wp2_with fail
   go_roundw
   case rel=>exact ⟨k + 1,by go_num,by omega,HDr.out.more ⟨nq,rfl⟩⟩
   case measure=>simp [intOf];omega
  ·obtain rfl:k=tl.length:=by omega
   have B8:=Lib.hid (B7.out.trans (hd.below _))
   clear hd
   go_wp2_with fail
   refine (alive22 _).mono ?_
   rintro e w9 ⟨rfl,hb⟩
   have B9:=Lib.hid (bel_to B8.out hb B8.out.size)
   clear hb
   go_wp2_with fail
   go_ret
   exact ⟨rfl,B9.out⟩
end Go.Proofs.Ytljganehlagnoaa
