/- 4 texts put together: what each one says stands ahead of it. -/
import Derived.Test.YtljganehlagnoaaKMeterMore08
import Derived.Test.YtljganehlagnoaaKMeterMore10
import Derived.Test.YtljganehlagnoaaKMeterMore05
set_option linter.unusedVariables false
namespace Go.Proofs.Ytljganehlagnoaa
open Go.RowKit
end Go.Proofs.Ytljganehlagnoaa

set_option linter.unusedVariables false
namespace Go.Proofs.Ytljganehlagnoaa
open Go.RowKit
end Go.Proofs.Ytljganehlagnoaa

set_option linter.unusedVariables false
namespace Go.Proofs.Ytljganehlagnoaa
open Go.RowKit
theorem own_its {α:Type} [Itm α] {T:TypeId} {B:Nat} {w:World} {v:Value} {l:List α} (h:SOwn T B w v l):∃ao cap,v=.slice ao l.length cap∧Its w ao l:=by
 obtain ⟨ao,cap,e,_,_,hi,_⟩:=h.form
 exact ⟨ao,cap,e,hi⟩
end Go.Proofs.Ytljganehlagnoaa

set_option linter.unusedVariables false
namespace Go.Proofs.Ytljganehlagnoaa
open Go.RowKit
structure BoxT (W:World) (z:Nat) (t:Tn) (w:World):Prop where
 b:Blk w z 49 t.cells
 bel:Below W.heap.size W w
 zb:W.heap.size≤z
theorem BoxT.to {W w w':World} {z:Nat} {t:Tn} (h:BoxT W z t w) (k:Below w.heap.size w w'):BoxT W z t w':=⟨h.b.keep k,bel_to h.bel k h.bel.size,h.zb⟩
theorem BoxT.setw {W w:World} {z:Nat} {t:Tn} (h:BoxT W z t w) (n:Nat):BoxT W z ⟨t.g,t.c,n⟩ (w.setCell ⟨z,2,none⟩ (.int .u64 (n:Int))):=⟨h.b.set 2 _,h.bel.setCell h.zb _,h.zb⟩
theorem own_set2 {B z:Nat} {w:World} {v:Value} {l:List Tn} {u:Value} (h:SOwn 49 B w v l) (hz:∀g,v.ownBlock=some g→g≠z):SOwn 49 B (w.setCell ⟨z,2,none⟩ u) v l:=
 h.blk (fun g cs hg hb=>hb.set_other 2 u (hz g hg))
set_option maxRecDepth 100000 in
set_option maxHeartbeats 4000000 in
theorem MeterMore_walk (room:Nat) (ao:Option Addr) (len cap:Nat) (bo:Option Addr) (blen bcap:Nat) (l:List Tn) (more:List Nat) (W:World) (hr:room≤18446744073709551615) (hin:InT W ao len l) (hix:InM W bo blen more):
  Calls Try.prog 6 #[.int .u64 (room:Int),.slice ao len cap,.slice bo blen bcap] W fun e w'=>e=.returned (.bool true)∧Below W.heap.size W w':=by
 obtain ⟨rfl,hi,hb⟩:=hin
 obtain ⟨rfl,hm63,hmi,hmb⟩:=hix
 by_cases hl:l.length≤200
 case neg=>
  have d0:decide ((200:Int) < (l.length:Int))=true:=decide_eq_true (by omega)
  go_enter Try.func6,Try.ntmps6
  go_wp2_with fail
  refine (alive22 _).mono ?_
  rintro e w9 ⟨rfl,hb⟩
  have B9:=Lib.hid hb
  clear hb
  go_wp2_with fail
  go_ret
  exact ⟨rfl,B9.out⟩
 have d0:decide ((200:Int) < (l.length:Int))=false:=decide_eq_false (by omega)
 have HI:=Lib.hid hi
 have HM:=Lib.hid hmi
 have HB:=Lib.hid hb
 have HMb:=Lib.hid hmb
 have HR:=Lib.hid (fun w hi=>mt_Run room l ao cap w hi hl hb)
 have HR2:=Lib.hid (fun ao cap w hi=>mt_Run room (moreT l more) ao cap w hi (by rw [moreT_len];exact hl) (more_le (by omega) l more hb))
 have HEq:Hid (runE room (moreT l more)=runE room l∧(runR room (moreT l more)).length=(runR room l).length):=Lib.hid (by
  unfold runE runR
  rw [more_fitR]
  refine ⟨rfl,?_⟩
  split
  ·rw [curve_len,curve_len,moreT_len]
  ·rfl)
 obtain ⟨i0,hi0,hz0,hz1,hz2⟩:=info_parts turn_info
 have HIi:=Lib.hid hi0
 have HZ0:=Lib.hid hz0
 have HZ1:=Lib.hid hz1
 have HZ2:=Lib.hid hz2
 clear hi hb hmi hmb hi0 hz0 hz1 hz2
 go_enter Try.func6,Try.ntmps6
 go_wp2_with fail
 go_loopw [8,7] (fun i v wr=>∃k:Nat,i=.int .i64 (k:Int)∧k≤l.length∧Hid (SOwn 49 W.heap.size wr v (moreT (l.take k) more)∧Below W.heap.size W wr)) (fun i _ _=>l.length - (intOf i).toNat)
 case atStart=>exact ⟨0,rfl,Nat.zero_le _,Lib.hid ⟨by simp only [List.take_zero,moreT];exact SOwn.nil _ _ _,Below.refl _ _⟩⟩
 case round=>
  obtain ⟨k,rfl,hk,H⟩:=hrel
  by_cases hlt:k < l.length
  ·obtain ⟨b,off,rfl,hbl,hc⟩:=its_tn HI.out (by omega)
   obtain ⟨x,hx⟩:∃x,x=l.getD k Itm.z:=⟨_,rfl⟩
   obtain ⟨c0,c1,c2⟩:=hc k hlt x hx
   have a0:=(H.out.2.cell (p:=⟨b,off + k * 3,none⟩) hbl).trans c0
   have a1:=(H.out.2.cell (p:=⟨b,off + k * 3 + 1,none⟩) hbl).trans c1
   have a2:=(H.out.2.cell (p:=⟨b,off + k * 3 + 2,none⟩) hbl).trans c2
   have i0':(0:Int)≤(k:Int):=by omega
   have i1:(k:Int) < (l.length:Int):=by omega
   have HT0:=Lib.hid (moreT_take l more k hlt x hx)
   have HLn:Hid ((moreT (l.take k) more).length=k):=Lib.hid (by rw [moreT_len,List.length_take];omega)
   have hsw:=H.out.2.size
   have HA:Hid (BoxT W wr.heap.size x (wr.alloc (.cells #[.int .u64 (x.g:Int),.int .u64 (x.c:Int),.int .u64 (x.w:Int)] 49))):=Lib.hid ⟨Blk.new wr 49 #[.int .u64 (x.g:Int),.int .u64 (x.c:Int),.int .u64 (x.w:Int)],H.out.2.alloc H.out.2.size _,hsw⟩
   have HO:=Lib.hid (H.out.1.keep (al_be wr (.cells #[.int .u64 (x.g:Int),.int .u64 (x.c:Int),.int .u64 (x.w:Int)] 49)))
   obtain ⟨ap,cp,hv,hp1,hp2,_,_⟩:=H.out.1.form
   rw [HLn.out] at hv hp1
   subst hv
   have HNe:Hid (∀g,(Value.slice ap k cp).ownBlock=some g→g≠wr.heap.size):=Lib.hid (fun g hg e=>by
    obtain ⟨_,cs,hb⟩:=H.out.1.own g hg
    have:=hb.lt
    omega)
   clear hc hx c0 c1 c2 hbl H
   go_upto_region 8 with fail
   generalize wr.alloc (.cells #[.int .u64 (x.g:Int),.int .u64 (x.c:Int),.int .u64 (x.w:Int)] 49)=wb at *
   clear a0 a1 a2
   by_cases hm:k < more.length
   ·have hcm:=HM.out (by omega)
    obtain ⟨b2,off2,e2,hb2,hc2⟩:=hcm
    obtain ⟨m,hmx⟩:∃m,m=more.getD k 0:=⟨_,rfl⟩
    have cm:=hc2 k hm
    rw [← hmx] at cm
    subst e2
    have HT:Hid (moreT (l.take (k + 1)) more=moreT (l.take k) more ++ [(⟨x.g,x.c,max x.w (min m 1099511627776)⟩:Tn)]):=Lib.hid (by rw [HT0.out];unfold oneT;rw [if_pos hm,← hmx];rfl)
    obtain ⟨mm,hmm⟩:∃n,n=min m 1099511627776:=⟨_,rfl⟩
    obtain ⟨nw,hnw⟩:∃n,n=max x.w mm:=⟨_,rfl⟩
    rw [← hmm,← hnw] at HT
    have f1:(if (1099511627776:Int) < (m:Int) then (1099511627776:Int) else (m:Int))=(mm:Int):=by split <;> omega
    have f3:(if (x.w:Int) < (mm:Int) then (mm:Int) else (x.w:Int))=(nw:Int):=by split <;> omega
    have f2:(if x.w < mm then (mm:Int) else (x.w:Int))=(nw:Int):=by split <;> omega
    have j1:(k:Int) < (more.length:Int):=by omega
    have s0:∀w,Hid (BoxT W wr.heap.size x w∧SOwn 49 W.heap.size w (.slice ap k cp) (moreT (l.take k) more))→w.cell? ⟨wr.heap.size,0,none⟩=some (.int .u64 (x.g:Int)):=fun w h=>h.out.1.b.cell rfl
    have s1:∀w,Hid (BoxT W wr.heap.size x w∧SOwn 49 W.heap.size w (.slice ap k cp) (moreT (l.take k) more))→w.cell? ⟨wr.heap.size,1,none⟩=some (.int .u64 (x.c:Int)):=fun w h=>h.out.1.b.cell rfl
    have s2:∀w,Hid (BoxT W wr.heap.size x w∧SOwn 49 W.heap.size w (.slice ap k cp) (moreT (l.take k) more))→w.cell? ⟨wr.heap.size,2,none⟩=some (.int .u64 (x.w:Int)):=fun w h=>h.out.1.b.cell rfl
    have r5:∀w,Hid (BoxT W wr.heap.size x w∧SOwn 49 W.heap.size w (.slice ap k cp) (moreT (l.take k) more))→w.cell? ⟨b2,off2 + k,none⟩=some (.int .u64 (m:Int)):=fun w h=>(h.out.1.bel.cell (p:=⟨b2,_,none⟩) hb2).trans cm
    have M0:Hid (BoxT W wr.heap.size x wb.drew∧SOwn 49 W.heap.size wb.drew (.slice ap k cp) (moreT (l.take k) more)):=Lib.hid ⟨HA.out.to ((Drawn.drew _).below _),HO.out.keep ((Drawn.drew _).below _)⟩
    have j0:(0:Int)≤(k:Int):=by omega
    clear hc2 cm hmx hmm hnw HA HO HT0
    go_wp2_with fail
    refine wp_region_chain (S:=(fun w'=>Hid (BoxT W wr.heap.size x w'∧SOwn 49 W.heap.size w' (.slice ap k cp) (moreT (l.take k) more)))) 9 (by kernel_rfl) (by kernel_rfl) (by kernel_rfl) M0 ?_
    generalize wb.drew=wd at *
    simp only [List.size_toArray,List.length_cons,List.length_nil,Nat.reduceAdd,Array.replicate_succ,Array.replicate_zero,List.push_toArray,List.nil_append,List.cons_append]
    refine Chain.take (i:=0) (oi:=⟨some 33,_,_,_,_,_⟩) (v:=?v1) rfl (by kernel_rfl) (by kernel_rfl) (Or.inl ⟨by rfl,?y1⟩) ?rest1
    case y1=>intro w hSw;clear hSw;go_simp;(try with_reducible rfl)
    simp only [Act.put,List.setIfInBounds_toArray,List.set_cons_zero,List.set_cons_succ]
    refine Chain.take (i:=1) (oi:=⟨some 34,_,_,_,_,_⟩) (v:=?v2) rfl (by kernel_rfl) (by kernel_rfl) (Or.inl ⟨by rfl,?y2⟩) ?rest2
    case y2=>intro w hSw;go_simp;(try with_reducible rfl)
    simp only [Act.put,List.setIfInBounds_toArray,List.set_cons_zero,List.set_cons_succ]
    refine Chain.take (i:=2) (oi:=⟨some 35,_,_,_,_,_⟩) (v:=?v3) rfl (by kernel_rfl) (by kernel_rfl) (Or.inl ⟨by rfl,?y3⟩) ?rest3
    case y3=>intro w hSw;clear hSw;go_simp;(try with_reducible rfl)
    simp only [Act.put,List.setIfInBounds_toArray,List.set_cons_zero,List.set_cons_succ]
    refine Chain.take (i:=3) (oi:=⟨some 36,_,_,_,_,_⟩) (v:=?v4) rfl (by kernel_rfl) (by kernel_rfl) (Or.inl ⟨by rfl,?y4⟩) ?rest4
    case y4=>intro w hSw;clear hSw;go_simp;(try with_reducible rfl)
    simp only [Act.put,List.setIfInBounds_toArray,List.set_cons_zero,List.set_cons_succ]
    refine Chain.take (i:=4) (oi:=⟨some 37,_,_,_,_,_⟩) (v:=?v5) rfl (by kernel_rfl) (by kernel_rfl) (Or.inl ⟨by rfl,?y5⟩) ?rest5
    case y5=>intro w hSw;clear hSw;go_simp;(try with_reducible rfl)
    simp only [Act.put,List.setIfInBounds_toArray,List.set_cons_zero,List.set_cons_succ]
    refine Chain.take (i:=5) (oi:=⟨some 38,_,_,_,_,_⟩) (v:=?v6) rfl (by kernel_rfl) (by kernel_rfl) (Or.inl ⟨by rfl,?y6⟩) ?rest6
    case y6=>intro w hSw;go_simp;(try with_reducible rfl)
    simp only [Act.put,List.setIfInBounds_toArray,List.set_cons_zero,List.set_cons_succ]
    refine Chain.take (i:=6) (oi:=⟨some 39,_,_,_,_,_⟩) (v:=?v7) rfl (by kernel_rfl) (by kernel_rfl) (Or.inl ⟨by rfl,?y7⟩) ?rest7
    case y7=>intro w hSw;clear hSw;go_simp;(try with_reducible rfl)
    simp only [Act.put,List.setIfInBounds_toArray,List.set_cons_zero,List.set_cons_succ]
    refine Chain.take (i:=7) (oi:=⟨some 40,_,_,_,_,_⟩) (v:=?v8) rfl (by kernel_rfl) (by kernel_rfl) (Or.inl ⟨by rfl,?y8⟩) ?rest8
    case y8=>intro w hSw;clear hSw;go_simp;(try with_reducible rfl)
    simp only [Act.put,List.setIfInBounds_toArray,List.set_cons_zero,List.set_cons_succ]
    refine Chain.take (i:=8) (oi:=⟨some 41,_,_,_,_,_⟩) (v:=?v9) rfl (by kernel_rfl) (by kernel_rfl) (Or.inl ⟨by rfl,?y9⟩) ?rest9
    case y9=>intro w hSw;clear hSw;go_simp;(try with_reducible rfl)
    simp only [Act.put,List.setIfInBounds_toArray,List.set_cons_zero,List.set_cons_succ]
    refine Chain.last (by kernel_rfl) (fun w hSw=>?_)
    refine wpAnyH_ready (rs:=[9]) (by kernel_rfl) (by simp) ?_
    refine AllReadyH.cons (o:=⟨none,_,_,_,_,_⟩) rfl (fun K hK=>?_) AllReadyH.nil
    have g2:=hSw.out.1.b.free 2
    have q2:=s2 _ hSw
    have M1:=Lib.hid (hSw.out.1.setw nw)
    have HOc:=Lib.hid (own_set2 (u:=.int .u64 (nw:Int)) hSw.out.2 HNe.out)
    clear hSw s0 s1 s2 r5
    go_simp
    refine hK.out _ _ trivial (fun _=>?_)
    clear hK
    try simp only [List.setIfInBounds_toArray,List.set_cons_zero,List.set_cons_succ]
    refine wpAnyH_done (by kernel_rfl) ?_ _
    skip
    clear M0
    generalize w.setCell ⟨wr.heap.size,2,none⟩ (.int .u64 (nw:Int))=wc at *
    obtain ⟨y,hy⟩:∃y:Tn,y=⟨x.g,x.c,nw⟩:=⟨_,rfl⟩
    rw [← hy] at M1 HT
    clear hy f1 f2 f3 g2
    have q0:=M1.out.b.cell (i:=0) (v:=.int .u64 (y.g:Int)) rfl
    have q1:=M1.out.b.cell (i:=1) (v:=.int .u64 (y.c:Int)) rfl
    have q2:=M1.out.b.cell (i:=2) (v:=.int .u64 (y.w:Int)) rfl
    have HO2:Hid ((wc.alloc (.cells #[.int .u64 (y.g:Int),.int .u64 (y.c:Int),.int .u64 (y.w:Int)] 49)).ownsRow W.heap.size 49 3 (.slice ap k cp) k ((moreT (l.take k) more).flatMap Itm.cs)):=Lib.hid (by
     have:=HOc.out.keep (al_be wc (.cells #[.int .u64 (y.g:Int),.int .u64 (y.c:Int),.int .u64 (y.w:Int)] 49))
     unfold SOwn at this
     rw [HLn.out] at this
     exact this)
    have HNw:=Lib.hid (World.news_of_block (Blk.new wc 49 #[.int .u64 (y.g:Int),.int .u64 (y.c:Int),.int .u64 (y.w:Int)]))
    have HOne:=Lib.hid (Itm.one y)
    have hsz:W.heap.size≤(wc.alloc (.cells #[.int .u64 (y.g:Int),.int .u64 (y.c:Int),.int .u64 (y.w:Int)] 49)).heap.size:=by have:=M1.out.bel.size;simp;omega
    have HBc:=Lib.hid M1.out.bel
    clear M1
    go_wp2_with (at_builtin;refine wpList_append_own_at _ rfl (.tmp 42) (.tmp 44) 23 rfl W.heap.size 49 _ (.agg #[.int .u64 0,.int .u64 0,.int .u64 0]) 3 24 Try.underlying23 HIi.out HZ0.out HZ1.out HZ2.out rfl (by decide) (.slice ap k cp) k ((moreT (l.take k) more).flatMap Itm.cs) rfl HO2.out ⟨wc.heap.size,0,none⟩ 1 1 (Itm.cs y) rfl rfl HNw.out HOne.out (by unfold maxLen;omega) (by omega) hsz ?_;intro v' w5 hown hgr hnil hat;have HS5:Hid (SOwn 49 W.heap.size w5 v' (moreT (l.take k) more ++ [y])):=Lib.hid (SOwn.snoc (by rw [HLn.out];exact hown));have HB5:=Lib.hid (bel_app HBc.out HBc.out.size HOc.out (.cells #[.int .u64 (y.g:Int),.int .u64 (y.c:Int),.int .u64 (y.w:Int)] 49) hgr);clear hown hgr hnil hat)
    clear HO2 HNw HOne hsz HOc HBc q0 q1 q2
    go_wp2_with fail
    go_roundw
    case rel=>exact ⟨k + 1,by go_num,by omega,by rw [HT.out];exact Lib.hid ⟨HS5.out,HB5.out⟩⟩
    case measure=>simp [intOf];omega
   ·have HT:Hid (moreT (l.take (k + 1)) more=moreT (l.take k) more ++ [x]):=Lib.hid (by rw [HT0.out];unfold oneT;rw [if_neg hm])
    have M1:=HA
    have HOc:=HO
    have j1:¬ (k:Int) < (more.length:Int):=by omega
    clear HA HO HT0
    generalize wb=wc at *
    have q0:=M1.out.b.cell (i:=0) (v:=.int .u64 (x.g:Int)) rfl
    have q1:=M1.out.b.cell (i:=1) (v:=.int .u64 (x.c:Int)) rfl
    have q2:=M1.out.b.cell (i:=2) (v:=.int .u64 (x.w:Int)) rfl
    have HO2:Hid ((wc.alloc (.cells #[.int .u64 (x.g:Int),.int .u64 (x.c:Int),.int .u64 (x.w:Int)] 49)).ownsRow W.heap.size 49 3 (.slice ap k cp) k ((moreT (l.take k) more).flatMap Itm.cs)):=Lib.hid (by
     have:=HOc.out.keep (al_be wc (.cells #[.int .u64 (x.g:Int),.int .u64 (x.c:Int),.int .u64 (x.w:Int)] 49))
     unfold SOwn at this
     rw [HLn.out] at this
     exact this)
    have HNw:=Lib.hid (World.news_of_block (Blk.new wc 49 #[.int .u64 (x.g:Int),.int .u64 (x.c:Int),.int .u64 (x.w:Int)]))
    have HOne:=Lib.hid (Itm.one x)
    have hsz:W.heap.size≤(wc.alloc (.cells #[.int .u64 (x.g:Int),.int .u64 (x.c:Int),.int .u64 (x.w:Int)] 49)).heap.size:=by have:=M1.out.bel.size;simp;omega
    have HBc:=Lib.hid M1.out.bel
    clear M1
    go_wp2_with (at_builtin;refine wpList_append_own_at _ rfl (.tmp 42) (.tmp 44) 23 rfl W.heap.size 49 _ (.agg #[.int .u64 0,.int .u64 0,.int .u64 0]) 3 24 Try.underlying23 HIi.out HZ0.out HZ1.out HZ2.out rfl (by decide) (.slice ap k cp) k ((moreT (l.take k) more).flatMap Itm.cs) rfl HO2.out ⟨wc.heap.size,0,none⟩ 1 1 (Itm.cs x) rfl rfl HNw.out HOne.out (by unfold maxLen;omega) (by omega) hsz ?_;intro v' w5 hown hgr hnil hat;have HS5:Hid (SOwn 49 W.heap.size w5 v' (moreT (l.take k) more ++ [x])):=Lib.hid (SOwn.snoc (by rw [HLn.out];exact hown));have HB5:=Lib.hid (bel_app HBc.out HBc.out.size HOc.out (.cells #[.int .u64 (x.g:Int),.int .u64 (x.c:Int),.int .u64 (x.w:Int)] 49) hgr);clear hown hgr hnil hat)
    clear HO2 HNw HOne hsz HOc HBc q0 q1 q2
    go_wp2_with fail
    go_roundw
    case rel=>exact ⟨k + 1,by go_num,by omega,by rw [HT.out];exact Lib.hid ⟨HS5.out,HB5.out⟩⟩
    case measure=>simp [intOf];omega
  ·obtain rfl:k=l.length:=by omega
   rw [List.take_length] at H
   have B0:=Lib.hid H.out.2
   have I0:=Lib.hid (HI.out.keep (H.out.2))
   obtain ⟨ap,cp,hv,hia⟩:=own_its H.out.1
   subst hv
   have IA:=Lib.hid hia
   have hll:(moreT l more).length=l.length:=moreT_len _ _
   clear hia H
   go_wp2_with fail
   have HMr:Hid (∀i,i < (runR room l).length→∀x y,x=(runR room l).getD i Itm.z→y=(runR room (moreT l more)).getD i Itm.z→y.s≤x.s∧x.d≤y.d∧x.c - x.d - x.s≤y.c - y.d - y.s∧x.d + x.s≤x.c∧y.d + y.s≤y.c):=Lib.hid (fun i hi x y hx hy=>more_rows hi hx hy)
   have HLx:=Lib.hid (run_le (room:=room) hl)
   have HLy:=Lib.hid (run_le (room:=room) (l:=moreT l more) (by rw [hll];exact hl))
   have HLn:Hid ((runR room l).length≤200):=Lib.hid (Nat.le_trans run_len hl)
   have hEq:=HEq.out
   have hR:=HR.out
   have hR2:=HR2.out
   rw [hEq.1,hll] at hR2
   have HRa:=Lib.hid hR
   have HRb:=Lib.hid hR2
   have HLq:=Lib.hid hEq.2
   rw [hll]
   clear hR hR2 hEq HEq HR HR2 hll
   generalize runE room l=er at *
   generalize runR room l=xs at *
   generalize runR room (moreT l more)=ys at *
   generalize moreT l more=ol at *
   refine (HRa.out _ I0.out).mono ?_
   rintro e w1 ⟨v1,rfl,ho1,hb1⟩
   have B1:=Lib.hid (bel_to B0.out hb1 B0.out.size)
   have IA1:=Lib.hid (IA.out.keep hb1)
   have O1:=Lib.hid ho1
   obtain ⟨p1,c1,rfl,_⟩:=own_its O1.out
   clear HRa hb1 ho1 IA I0 B0 HI
   go_wp2_with fail
   refine (HRb.out _ _ _ IA1.out).mono ?_
   rintro e w2 ⟨v2,rfl,ho2,hb2⟩
   have B2:=Lib.hid (bel_to B1.out hb2 B1.out.size)
   obtain ⟨q1,d1,e1,hix⟩:=own_its (O1.out.keep hb2)
   injection e1 with e1 _ e2
   subst e1 e2
   obtain ⟨p2,c2,rfl,hiy⟩:=own_its ho2
   have IX:=Lib.hid hix
   have IY:=Lib.hid hiy
   have hlq:=HLq.out
   have dq:((xs.length:Int) == (ys.length:Int))=true:=by rw [hlq];simp
   have dq2:((ys.length:Int) == (xs.length:Int))=true:=by rw [hlq];simp
   rw [hlq]
   clear HRb hb2 ho2 hix hiy O1 IA1 B1 hlq
   go_wp2_with fail
   go_loopw [14] (fun i wr=>∃k:Nat,i=.int .i64 (k:Int)∧k≤xs.length∧Drawn w2 wr) (fun i _=>xs.length - (intOf i).toNat)
   case atStart=>exact ⟨0,rfl,Nat.zero_le _,Drawn.refl _⟩
   case round=>
    obtain ⟨k,rfl,hk,hd⟩:=hrel
    by_cases hlt:k < xs.length
    ·obtain ⟨g,off,rfl,_,hc⟩:=its_rw (IX.out.keep (hd.below _)) (by omega)
     obtain ⟨g2,off2,rfl,_,hc2⟩:=its_rw (IY.out.keep (hd.below _)) (by rw [HLq.out];omega)
     obtain ⟨x,hx⟩:∃x,x=xs.getD k Itm.z:=⟨_,rfl⟩
     obtain ⟨y,hy⟩:∃y,y=ys.getD k Itm.z:=⟨_,rfl⟩
     obtain ⟨a0,a1,a2,a3,a4⟩:=hc k hlt x hx
     obtain ⟨b0,b1,b2,b3,b4⟩:=hc2 k (by rw [HLq.out];exact hlt) y hy
     obtain ⟨m1,m2,m3,m4,m5⟩:=HMr.out k hlt x y hx hy
     have lx:=(HLx.out x (mem_getD hlt hx)).2.1
     have ly:=(HLy.out y (mem_getD (by rw [HLq.out];exact hlt) hy)).2.1
     have i0:(0:Int)≤(k:Int):=by omega
     have i1:(k:Int) < (xs.length:Int):=by omega
     have hl2:=HLn.out
     have e0:decide (x.s < y.s)=false:=decide_eq_false (by omega)
     have e1:decide (y.d < x.d)=false:=decide_eq_false (by omega)
     obtain ⟨cx,hcx⟩:∃n,n=x.c - x.d:=⟨_,rfl⟩
     obtain ⟨cy,hcy⟩:∃n,n=y.c - y.d:=⟨_,rfl⟩
     obtain ⟨qx,hqx⟩:∃n,n=cx - x.s:=⟨_,rfl⟩
     obtain ⟨qy,hqy⟩:∃n,n=cy - y.s:=⟨_,rfl⟩
     have f0:(x.c:Int) - (x.d:Int)=(cx:Int):=by omega
     have f1:(y.c:Int) - (y.d:Int)=(cy:Int):=by omega
     have f2:(cx:Int) - (x.s:Int)=(qx:Int):=by omega
     have f3:(cy:Int) - (y.s:Int)=(qy:Int):=by omega
     have f4:IntKind.u64.wrap (cx:Int)=(cx:Int):=by rw [IntKind.wrap_u64];omega
     have f5:IntKind.u64.wrap (cy:Int)=(cy:Int):=by rw [IntKind.wrap_u64];omega
     have f6:IntKind.u64.wrap (qx:Int)=(qx:Int):=by rw [IntKind.wrap_u64];omega
     have f7:IntKind.u64.wrap (qy:Int)=(qy:Int):=by rw [IntKind.wrap_u64];omega
     have e2:decide (qy < qx)=false:=decide_eq_false (by omega)
     have HDr:=Lib.hid hd
     clear hc hc2 hx hy hd m1 m2 m3 m4 m5 lx ly hcx hcy hqx hqy
     go_wp2_with fail
     go_quiet (fail)
     go_wp2_with fail
     go_roundw
     case rel=>exact ⟨k + 1,by go_num,by omega,HDr.out.more ⟨nq,rfl⟩⟩
     case measure=>simp [intOf];omega
    ·obtain rfl:k=xs.length:=by omega
     have B8:=Lib.hid (B2.out.trans (hd.below _))
     clear hd
     go_wp2_with fail
     refine (alive22 _).mono ?_
     rintro e w9 ⟨rfl,hb⟩
     have B9:=Lib.hid (bel_to B8.out hb B8.out.size)
     clear hb
     go_wp2_with fail
     go_ret
     exact ⟨rfl,B9.out⟩
end Go.Proofs.Ytljganehlagnoaa
