/- Lemmas. -/
import Derived.Test.YtjhiooggnpbecaaGreatDoorK423
import Derived.Test.YtjhiooggnpbecaaGreatDoorK424
import Derived.Test.YtjhiooggnpbecaaGreatDoorK425
import Derived.Shelf.RegionOpen
import Derived.OwnWalkIn
import Derived.LoopNIn
import Derived.LoopIn
set_option linter.unusedVariables false
set_option maxHeartbeats 2000000
set_option maxRecDepth 100000
namespace Go.Proofs.YtjhiooggnpbecaaGreatDoor
open Tryz
open Go.RowKit Go.Shelf
variable {ks:List Kp} {j:Nat}
attribute [local go_sem] Oper.semAt_some
def inK (fr tO:Nat) (k:Kp):Bool:=decide (fr≤k.p.n) && decide (k.p.n≤tO) && !k.gone
def yK (ks:List Kp) (fr tO:Nat):List Kp:=ks.filter (inK fr tO)
structure RdR (ks:List Kp) (b rb g bl br fr tO:Nat) (pre:List Kp) (W:World):Prop where
 hl:Blk W bl 97 #[↑(π b)]
 hr:Blk W br 190 #[↑fr,↑tO]
 rd:LRd W b rb g ks
 gone:∀k∈ks,k.b ∉ pre.map Kp.b→Blk W k.b 208 (Kp.cells k.p k.gone)
theorem E7 (h:(ks.map Kp.b).Nodup) (hj:j < ks.length) (f:Kp→Bool):(kAt ks j).b ∉ (((ks.take j).filter f).map Kp.b):=by
 intro hm;obtain ⟨x,hx,e⟩:=List.mem_map.1 hm;have hx':=(List.mem_filter.1 hx).1;obtain ⟨i,hi,e2⟩:=List.mem_iff_getElem.1 hx';rw [List.length_take] at hi;rw [List.getElem_take] at e2;have h2:=List.pairwise_iff_getElem.1 h i j (by rw [List.length_map];omega) (by rw [List.length_map];omega) (by omega);rw [List.getElem_map,List.getElem_map] at h2;have e3:=gT hj;rw [List.getElem?_eq_getElem hj] at e3;injection e3 with e3
 rw [e3,e2] at h2;exact h2 e
theorem zY (hr:ks.Pairwise fun x y=>x.p.n < y.p.n) (fr tO:Nat):(ks.take (plc ks fr)).filter (inK fr tO)=[]:=by
 rw [List.filter_eq_nil_iff];intro k hk;obtain ⟨i,hi,e⟩:=List.mem_iff_getElem.1 hk;rw [List.length_take] at hi;rw [List.getElem_take] at e;have h1:=zV hr (n:=fr) (i:=i) (by omega);have e3:=gT (ks:=ks) (i:=i) (by omega);rw [List.getElem?_eq_getElem (by omega)] at e3;injection e3 with e3
 rw [e] at e3;rw [← e3] at h1;simp [inK];omega
theorem E8 (hr:ks.Pairwise fun x y=>x.p.n < y.p.n) {fr tO:Nat} (hj:j < ks.length) (h:tO < (kAt ks j).p.n):(ks.take j).filter (inK fr tO)=yK ks fr tO:=by
 unfold yK
 conv=>rhs;rw [← List.take_append_drop j ks,List.filter_append]
 have e:(ks.drop j).filter (inK fr tO)=[]:=by
  rw [List.filter_eq_nil_iff];intro k hk;obtain ⟨i,hi,e⟩:=List.mem_iff_getElem.1 hk;rw [List.length_drop] at hi;rw [List.getElem_drop] at e;have h1:=kD hr (i:=j) (j:=j + i) (by omega) (by omega);have e3:=gT (ks:=ks) (i:=j + i) (by omega);rw [List.getElem?_eq_getElem (by omega)] at e3;injection e3 with e3
  rw [e] at e3;rw [← e3] at h1;simp [inK];omega
 rw [e,List.append_nil]
theorem E9 (n l b rb g bl br fr tO:Nat) (ks:List Kp) (hn:1≤n) (hnd:(ks.map Kp.b).Nodup) (hri:ks.Pairwise fun x y=>x.p.n < y.p.n) (hlen:ks.length≤6000) (J Jx:List Kp→World→Prop) (W:World)
  (hJ:∀pre A B,J pre A→Below ↑A A B→J pre B) (hR:∀pre A,J pre A→RdR ks b rb g bl br fr tO pre A)
  (hY:∀pre x A,J pre A→pre ++ [x] <+:yK ks fr tO→YieldAt Fence.wide (n - 1) prog l #[↑(π x.b)] A fun e B=>(e=.returned (.bool true)∧J (pre ++ [x]) B)∨(e=.returned (.bool false)∧Jx (pre ++ [x]) B))
  (h0:J [] W):
  CallsIn Fence.wide n prog 160 #[.func (.yield l) #[] #[],↑(π bl),↑(π br)] W fun e W'=>(∃v,e=.returned v)∧((∃xs,xs=yK ks fr tO∧J xs W')∨(∃pre,pre <+:yK ks fr tO∧Jx pre W')):=by
 have R0:=hR _ _ h0;have l0:=R0.hl.cell (i:=0) rfl;have f0:=R0.hr.cell (i:=0) (v:=↑fr) rfl;have HP:=lh (zX b rb g fr ks W R0.rd hri hlen);have H0:=lh h0;have HJ:=lh hJ;have HR:=lh hR;have HY:=lh hY;have HNd:=lh hnd;have HRi:=lh hri;have HPl:=lh (E5 ks fr);have HSt:=lh (zY hri fr tO);have HAb:=lh (fun j=>zW (n:=fr) (i:=j) hri);clear h0 hJ hR hY hnd hri R0;generalize plc ks fr=j0 at *;refine callsIn_of_wp func160 rfl trivial ?_ rfl;simp only [ntmps160,List.size_toArray,List.length_cons,List.length_nil,Nat.reduceAdd,Nat.reduceSub,Array.replicate_succ,Array.replicate_zero,List.push_toArray,List.append_toArray,List.nil_append,List.cons_append]
 gi_wp2_with (refine ⟨trivial,?_⟩;gi_at_call 161;refine (callsIn_wide.2 HP.out).mono ?_;rintro e w1 ⟨rfl,hb⟩)
 have H1:=lh (HJ.out _ _ _ H0.out hb);clear hb l0 f0 HP H0
 gi_loopw [4] (fun i wr=>∃j:Nat,j0≤j∧j≤ks.length∧i=.int .i64 (j:Int)∧J ((ks.take j).filter (inK fr tO)) wr) (fun i _=>ks.length - (intOf i).toNat)
 case atStart=>exact ⟨j0,Nat.le_refl _,HPl.out,rfl,by rw [HSt.out];exact H1.out⟩
 case round=>
  obtain ⟨j,hj0,hj,rfl,hJj⟩:=hrel;have R:=HR.out _ _ hJj;have HJj:=lh hJj;have l0:=R.hl.cell (i:=0) rfl;have r0:=R.rd.cell0;have HL:=lh (l9 b rb g ks wr R.rd);by_cases hlt:j < ks.length
  ·have HA:=lh (vB b rb g j ks wr R.rd hlt)
   have HK:=lh (R.gone _ (qN hlt) (E7 HNd.out hlt (inK fr tO)));have HBr:=lh R.hr;have HF:=lh (uC (inK fr tO) hlt default);have HPre:=lh (rP (inK fr tO) ks (j + 1));have HOv:Hid (tO < (kAt ks j).p.n→(ks.take j).filter (inK fr tO)=yK ks fr tO):=lh (E8 HRi.out hlt);have HGe:=lh (HAb.out j hj0 hlt);have ek:ks.getD j default=kAt ks j:=rfl;rw [ek] at HF;have hlt':(j:Int) < (ks.length:Int):=by omega
   clear ek R hJj H1 HNd HRi HPl HSt HAb;generalize kAt ks j=k at *
   gi_wp2_with (first
    | (refine ⟨trivial,?_⟩;gi_at_call 162;refine (callsIn_wide.2 HL.out).mono ?_;rintro e w' ⟨rfl,rfl⟩)
    | (refine ⟨trivial,?_⟩;gi_at_call 163;refine (callsIn_wide.2 HA.out).mono ?_;rintro e w2 ⟨rfl,hd⟩))
   have HD:=lh hd;have k0:=(fH (hd.blk HK.out)).1;have k7:=(fH (hd.blk HK.out)).2.2.2.2.2.2.2;have t1:=(hd.blk HBr.out).cell (i:=1) (v:=↑tO) rfl;have HJ2:=lh (HJ.out _ _ _ HJj.out (hd.below _));clear hd l0 r0 HL HA HJj HK HBr;by_cases hov:tO < k.p.n
   ·have d1:decide (tO < k.p.n)=true:=by simpa using hov
    refine wpIn_wide.2 ?_;go_quiet (fail)
    have HJ3:=lh (HJ.out _ _ _ HJ2.out (aB.below ⟨nq,rfl⟩ _))
    gi_wp2
    refine bodyPost_ret (results_none rfl _ _ _) rfl ?_;exact ⟨⟨_,rfl⟩,.inl ⟨_,rfl,by rw [← HOv.out hov];exact HJ3.out⟩⟩
   ·have d1:decide (tO < k.p.n)=false:=by simpa using hov
    have hov':k.p.n≤tO:=by omega
    cases hg:k.gone
    ·have HF2:Hid ((ks.take (j + 1)).filter (inK fr tO)=(ks.take j).filter (inK fr tO) ++ [k]):=lh (by rw [HF.out,if_pos (by have:=HGe.out;simp [inK,hg];omega)])
     rw [hg] at k7;have HK0:=lh k0;have HK7:=lh k7;have HT1:=lh t1;clear k0 k7 t1;have k0:w2.drew.cell? ⟨k.b,0,none⟩=some ↑k.p.n:=HK0.out;have k7:w2.drew.cell? ⟨k.b,7,none⟩=some (.bool false):=HK7.out;have t1:w2.drew.cell? ⟨br,1,none⟩=some ↑tO:=HT1.out;obtain ⟨fn,tmps,assign,body,hy,hRd⟩:=HY.out _ k w2.drew (HJ.out _ _ _ HJ2.out ((aB.drew w2).below _)) (by rw [← HF2.out];exact HPre.out);refine nA 17 (by kernel_rfl) (by kernel_rfl) ?_;simp only [List.take_succ_cons,List.take_zero,List.drop_succ_cons,List.drop_zero];repeat still_step
     refine wpStill_nil ?_
     gi_wp2
     refine hRd.mono ?_;rintro e W3 (⟨rfl,hJ3⟩ | ⟨rfl,hJx3⟩)
     ·have HJ3:=lh hJ3
      clear hJ3 hy hRd HY
      gi_wp2
      go_roundw
      case rel=>exact ⟨j + 1,by omega,by omega,by go_num,by rw [HF2.out];exact HJ3.out⟩
      case measure=>simp [intOf];omega
     ·have HJ3:=lh hJx3
      clear hJx3 hy hRd HY
      gi_wp2
      refine bodyPost_ret (results_none rfl _ _ _) rfl ?_;exact ⟨⟨_,rfl⟩,.inr ⟨_,by rw [← HF2.out];exact HPre.out,HJ3.out⟩⟩
    ·have HF2:Hid ((ks.take (j + 1)).filter (inK fr tO)=(ks.take j).filter (inK fr tO)):=lh (by rw [HF.out,if_neg (by simp [inK,hg]),List.append_nil])
     rw [hg] at k7;refine wpIn_wide.2 ?_;go_quiet (fail)
     have HJ3:=lh (HJ.out _ _ _ HJ2.out (aB.below ⟨nq,rfl⟩ _))
     gi_wp2
     go_roundw
     case rel=>exact ⟨j + 1,by omega,by omega,by go_num,by rw [HF2.out];exact HJ3.out⟩
     case measure=>simp [intOf];omega
  ·obtain rfl:j=ks.length:=by omega
   have HE:Hid ((ks.take ks.length).filter (inK fr tO)=yK ks fr tO):=lh (by rw [List.take_length];rfl)
   gi_wp2_with (refine ⟨trivial,?_⟩;gi_at_call 162;refine (callsIn_wide.2 HL.out).mono ?_;rintro e w' ⟨rfl,rfl⟩)
   go_end0
   exact ⟨⟨_,rfl⟩,.inl ⟨_,HE.out,HJj.out⟩⟩
theorem iS (n b rb g bl br fr tO:Nat) (ks:List Kp) (hn:1≤n) (hnd:(ks.map Kp.b).Nodup) (hri:ks.Pairwise fun x y=>x.p.n < y.p.n) (hlen:ks.length≤6000):
  OW n prog 160 #[↑(π bl),↑(π br)] (fun x:Kp=>#[↑(π x.b)]) (fun pre x=>pre ++ [x] <+:yK ks fr tO) (fun xs=>xs=yK ks fr tO) (fun pre=>pre <+:yK ks fr tO) (RdR ks b rb g bl br fr tO):=
 fun l J Jx W hJ _ hR hY h0=>E9 n l b rb g bl br fr tO ks hn hnd hri hlen J Jx W hJ hR hY h0
def bw1 (w:World) (b fr tO:Nat):World:=(w.alloc (.cells #[↑(π b)] 97)).alloc (.cells #[↑fr,↑tO] 190)
def bfn (w:World):Value:=.func (.func 160) #[] #[↑(π w.heap.size),↑(π (w.heap.size + 1))]
theorem lT (b fr tO:Nat) (w:World):
  Calls prog 114 #[↑(π b),.agg #[↑fr,↑tO]] w fun e w'=>e=.returned (bfn w)∧w'=bw1 w b fr tO:=by
 go_enter func114,ntmps114;go_wp2;go_ret;exact ⟨rfl,rfl⟩
theorem qO (b:Nat) (w:World):
  Calls prog 166 #[↑(π b)] w fun e w'=>e=.returned (bfn w)∧w'=bw1 w b 0 18446744073709551615:=by
 have hb:=lT b 0 18446744073709551615 w;have HB:Hid (Calls prog 114 #[↑(π b),.agg #[↑ζ,.int .u64 18446744073709551615]] w fun e w'=>e=.returned (bfn w)∧w'=bw1 w b 0 18446744073709551615):=lh hb;clear hb;go_enter func166,ntmps166;go_wp2_with fail;refine (HB.out).mono ?_;rintro e w' ⟨rfl,rfl⟩;go_wp2;go_ret;exact ⟨rfl,rfl⟩
theorem fL (w:World) (b fr tO:Nat):Below ↑w w (bw1 w b fr tO):=((Below.refl _ _).alloc (Nat.le_refl _) _).alloc (by simp) _
theorem xE (w:World) (b fr tO:Nat):Blk (bw1 w b fr tO) w.heap.size 97 #[↑(π b)]:=(Blk.new _ _ _).alloc _
theorem xF (w:World) (b fr tO:Nat):Blk (bw1 w b fr tO) (w.heap.size + 1) 190 #[↑fr,↑tO]:=Blk.new1 _ _ _ _
theorem sQ (w:World) (b fr tO:Nat):(bw1 w b fr tO).heap.size=w.heap.size + 2:=by simp [bw1]
end Go.Proofs.YtjhiooggnpbecaaGreatDoor
