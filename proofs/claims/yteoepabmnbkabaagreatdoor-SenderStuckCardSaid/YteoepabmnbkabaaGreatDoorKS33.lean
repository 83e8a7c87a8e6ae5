/- 1 texts put together: what each one says stands ahead of it. -/
import Derived.Test.YteoepabmnbkabaaGreatDoorKS30
import Derived.Test.YteoepabmnbkabaaGreatDoorKS31
import Derived.Test.YteoepabmnbkabaaGreatDoorKS32
import Derived.Shelf.Abstract
import Derived.Shelf.RegionOpen
import Derived.OwnWalkIn
import Derived.TacticsInMore
import Derived.LoopNIn
import Derived.LoopIn
import Derived.Outline
set_option linter.unusedVariables false
namespace Go.Proofs.YteoepabmnbkabaaGreatDoor
open Go.RowKit Go.Shelf
attribute [local go_sem] Oper.semAt_some
def inK (fr to:Nat) (k:Kp):Bool:=decide (fr≤k.p.n) && decide (k.p.n≤to) && !k.gone
def yK (ks:List Kp) (fr to:Nat):List Kp:=ks.filter (inK fr to)
structure RdR (ks:List Kp) (b rb g bl br fr to:Nat) (pre:List Kp) (W:World):Prop where
 hl:Blk W bl 64 #[.pointer (some ⟨b,0,none⟩)]
 hr:Blk W br 59 #[.int .u64 (fr:Int),.int .u64 (to:Int)]
 rd:LRd W b rb g ks
 gone:∀k∈ks,k.b ∉ pre.map Kp.b→Blk W k.b 203 (Kp.cells k.p k.gone)
theorem take_not {ks:List Kp} (h:(ks.map Kp.b).Nodup) {j:Nat} (hj:j < ks.length) (f:Kp→Bool):(kAt ks j).b ∉ (((ks.take j).filter f).map Kp.b):=by
 intro hm
 obtain ⟨x,hx,e⟩:=List.mem_map.1 hm
 have hx':=(List.mem_filter.1 hx).1
 obtain ⟨i,hi,e2⟩:=List.mem_iff_getElem.1 hx'
 rw [List.length_take] at hi
 rw [List.getElem_take] at e2
 have h2:=List.pairwise_iff_getElem.1 h i j (by rw [List.length_map];omega) (by rw [List.length_map];omega) (by omega)
 rw [List.getElem_map,List.getElem_map] at h2
 have e3:=kAt_get hj
 rw [List.getElem?_eq_getElem hj] at e3
 injection e3 with e3
 rw [e3,e2] at h2
 exact h2 e
theorem start_nil {ks:List Kp} (hr:ks.Pairwise fun x y=>x.p.n < y.p.n) (fr to:Nat):(ks.take (plc ks fr)).filter (inK fr to)=[]:=by
 rw [List.filter_eq_nil_iff]
 intro k hk
 obtain ⟨i,hi,e⟩:=List.mem_iff_getElem.1 hk
 rw [List.length_take] at hi
 rw [List.getElem_take] at e
 have h1:=plc_below hr (n:=fr) (i:=i) (by omega)
 have e3:=kAt_get (ks:=ks) (i:=i) (by omega)
 rw [List.getElem?_eq_getElem (by omega)] at e3
 injection e3 with e3
 rw [e] at e3
 rw [← e3] at h1
 simp [inK];omega
theorem over_all {ks:List Kp} (hr:ks.Pairwise fun x y=>x.p.n < y.p.n) {fr to j:Nat} (hj:j < ks.length) (h:to < (kAt ks j).p.n):(ks.take j).filter (inK fr to)=yK ks fr to:=by
 unfold yK
 conv=>rhs;rw [← List.take_append_drop j ks,List.filter_append]
 have e:(ks.drop j).filter (inK fr to)=[]:=by
  rw [List.filter_eq_nil_iff]
  intro k hk
  obtain ⟨i,hi,e⟩:=List.mem_iff_getElem.1 hk
  rw [List.length_drop] at hi
  rw [List.getElem_drop] at e
  have h1:=kAt_rise hr (i:=j) (j:=j + i) (by omega) (by omega)
  have e3:=kAt_get (ks:=ks) (i:=j + i) (by omega)
  rw [List.getElem?_eq_getElem (by omega)] at e3
  injection e3 with e3
  rw [e] at e3
  rw [← e3] at h1
  simp [inK];omega
 rw [e,List.append_nil]
set_option maxRecDepth 100000 in
set_option maxHeartbeats 2000000 in
theorem between1 (n l b rb g bl br fr to:Nat) (ks:List Kp) (hn:1≤n) (hnd:(ks.map Kp.b).Nodup) (hri:ks.Pairwise fun x y=>x.p.n < y.p.n) (hlen:ks.length≤6000) (J Jx:List Kp→World→Prop) (W:World)
  (hJ:∀pre A B,J pre A→Below A.heap.size A B→J pre B) (hR:∀pre A,J pre A→RdR ks b rb g bl br fr to pre A)
  (hY:∀pre x A,J pre A→pre ++ [x] <+:yK ks fr to→YieldAt Fence.wide (n - 1) Tryz.prog l #[.pointer (some ⟨x.b,0,none⟩)] A fun e B=>(e=.returned (.bool true)∧J (pre ++ [x]) B)∨(e=.returned (.bool false)∧Jx (pre ++ [x]) B))
  (h0:J [] W):
  CallsIn Fence.wide n Tryz.prog 198 #[.func (.yield l) #[] #[],.pointer (some ⟨bl,0,none⟩),.pointer (some ⟨br,0,none⟩)] W fun e W'=>(∃v,e=.returned v)∧((∃xs,xs=yK ks fr to∧J xs W')∨(∃pre,pre <+:yK ks fr to∧Jx pre W')):=by
 have R0:=hR _ _ h0
 have l0:=R0.hl.cell (i:=0) rfl
 have f0:=R0.hr.cell (i:=0) (v:=.int .u64 (fr:Int)) rfl
 have HP:=Lib.hid (place_any b rb g fr ks W R0.rd hri hlen)
 have H0:=Lib.hid h0
 have HJ:=Lib.hid hJ
 have HR:=Lib.hid hR
 have HY:=Lib.hid hY
 have HNd:=Lib.hid hnd
 have HRi:=Lib.hid hri
 have HPl:=Lib.hid (plc_le ks fr)
 have HSt:=Lib.hid (start_nil hri fr to)
 have HAb:=Lib.hid (fun j=>plc_above (n:=fr) (i:=j) hri)
 clear h0 hJ hR hY hnd hri R0
 generalize plc ks fr=j0 at *
 refine callsIn_of_wp Tryz.func198 rfl trivial ?_ rfl
 simp only [Tryz.ntmps198,List.size_toArray,List.length_cons,List.length_nil,Nat.reduceAdd,Nat.reduceSub,Array.replicate_succ,Array.replicate_zero,List.push_toArray,List.append_toArray,List.nil_append,List.cons_append]
 gi_wp2_with (refine ⟨trivial,?_⟩;gi_at_call 199;refine (callsIn_wide.2 HP.out).mono ?_;rintro e w1 ⟨rfl,hb⟩)
 have H1:=Lib.hid (HJ.out _ _ _ H0.out hb)
 clear hb l0 f0 HP H0
 gi_loopw [4] (fun i wr=>∃j:Nat,j0≤j∧j≤ks.length∧i=.int .i64 (j:Int)∧J ((ks.take j).filter (inK fr to)) wr) (fun i _=>ks.length - (intOf i).toNat)
 case atStart=>exact ⟨j0,Nat.le_refl _,HPl.out,rfl,by rw [HSt.out];exact H1.out⟩
 case round=>
  obtain ⟨j,hj0,hj,rfl,hJj⟩:=hrel
  have R:=HR.out _ _ hJj
  have HJj:=Lib.hid hJj
  have l0:=R.hl.cell (i:=0) rfl
  have r0:=R.rd.cell0
  have HL:=Lib.hid (led_len b rb g ks wr R.rd)
  by_cases hlt:j < ks.length
  ·have HA:=Lib.hid (led_at b rb g j ks wr R.rd hlt)
   have HK:=Lib.hid (R.gone _ (kAt_mem hlt) (take_not HNd.out hlt (inK fr to)))
   have HBr:=Lib.hid R.hr
   have HF:=Lib.hid (pre_filter (inK fr to) hlt default)
   have HPre:=Lib.hid (pre_of_take (inK fr to) ks (j + 1))
   have HOv:Hid (to < (kAt ks j).p.n→(ks.take j).filter (inK fr to)=yK ks fr to):=Lib.hid (over_all HRi.out hlt)
   have HGe:=Lib.hid (HAb.out j hj0 hlt)
   have ek:ks.getD j default=kAt ks j:=rfl
   rw [ek] at HF
   have hlt':(j:Int) < (ks.length:Int):=by omega
   clear ek R hJj H1 HNd HRi HPl HSt HAb
   generalize kAt ks j=k at *
   gi_wp2_with (first
    | (refine ⟨trivial,?_⟩;gi_at_call 200;refine (callsIn_wide.2 HL.out).mono ?_;rintro e w' ⟨rfl,rfl⟩)
    | (refine ⟨trivial,?_⟩;gi_at_call 201;refine (callsIn_wide.2 HA.out).mono ?_;rintro e w2 ⟨rfl,hd⟩))
   have HD:=Lib.hid hd
   have k0:=(kcell (hd.blk HK.out)).1
   have k7:=(kcell (hd.blk HK.out)).2.2.2.2.2.2.2
   have t1:=(hd.blk HBr.out).cell (i:=1) (v:=.int .u64 (to:Int)) rfl
   have HJ2:=Lib.hid (HJ.out _ _ _ HJj.out (hd.below _))
   clear hd l0 r0 HL HA HJj HK HBr
   by_cases hov:to < k.p.n
   ·have d1:decide (to < k.p.n)=true:=by simpa using hov
    refine wpIn_wide.2 ?_
    go_quiet (fail)
    have HJ3:=Lib.hid (HJ.out _ _ _ HJ2.out (Drawn.below ⟨nq,rfl⟩ _))
    gi_wp2
    refine bodyPost_ret (results_none rfl _ _ _) rfl ?_
    exact ⟨⟨_,rfl⟩,.inl ⟨_,rfl,by rw [← HOv.out hov];exact HJ3.out⟩⟩
   ·have d1:decide (to < k.p.n)=false:=by simpa using hov
    have hov':k.p.n≤to:=by omega
    cases hg:k.gone
    ·have HF2:Hid ((ks.take (j + 1)).filter (inK fr to)=(ks.take j).filter (inK fr to) ++ [k]):=Lib.hid (by rw [HF.out,if_pos (by have:=HGe.out;simp [inK,hg];omega)])
     rw [hg] at k7
     have HK0:=Lib.hid k0
     have HK7:=Lib.hid k7
     have HT1:=Lib.hid t1
     clear k0 k7 t1
     have k0:w2.drew.cell? ⟨k.b,0,none⟩=some (.int .u64 (k.p.n:Int)):=HK0.out
     have k7:w2.drew.cell? ⟨k.b,7,none⟩=some (.bool false):=HK7.out
     have t1:w2.drew.cell? ⟨br,1,none⟩=some (.int .u64 (to:Int)):=HT1.out
     obtain ⟨fn,tmps,assign,body,hy,hRd⟩:=HY.out _ k w2.drew (HJ.out _ _ _ HJ2.out ((Drawn.drew w2).below _)) (by rw [← HF2.out];exact HPre.out)
     refine region_tail_in 17 (by kernel_rfl) (by kernel_rfl) ?_
     simp only [List.take_succ_cons,List.take_zero,List.drop_succ_cons,List.drop_zero]
     repeat still_step
     refine wpStill_nil ?_
     gi_wp2
     refine hRd.mono ?_
     rintro e W3 (⟨rfl,hJ3⟩ | ⟨rfl,hJx3⟩)
     ·have HJ3:=Lib.hid hJ3
      clear hJ3 hy hRd HY
      gi_wp2
      go_roundw
      case rel=>exact ⟨j + 1,by omega,by omega,by go_num,by rw [HF2.out];exact HJ3.out⟩
      case measure=>simp [intOf];omega
     ·have HJ3:=Lib.hid hJx3
      clear hJx3 hy hRd HY
      gi_wp2
      refine bodyPost_ret (results_none rfl _ _ _) rfl ?_
      exact ⟨⟨_,rfl⟩,.inr ⟨_,by rw [← HF2.out];exact HPre.out,HJ3.out⟩⟩
    ·have HF2:Hid ((ks.take (j + 1)).filter (inK fr to)=(ks.take j).filter (inK fr to)):=Lib.hid (by rw [HF.out,if_neg (by simp [inK,hg]),List.append_nil])
     rw [hg] at k7
     refine wpIn_wide.2 ?_
     go_quiet (fail)
     have HJ3:=Lib.hid (HJ.out _ _ _ HJ2.out (Drawn.below ⟨nq,rfl⟩ _))
     gi_wp2
     go_roundw
     case rel=>exact ⟨j + 1,by omega,by omega,by go_num,by rw [HF2.out];exact HJ3.out⟩
     case measure=>simp [intOf];omega
  ·obtain rfl:j=ks.length:=by omega
   have HE:Hid ((ks.take ks.length).filter (inK fr to)=yK ks fr to):=Lib.hid (by rw [List.take_length];rfl)
   gi_wp2_with (refine ⟨trivial,?_⟩;gi_at_call 200;refine (callsIn_wide.2 HL.out).mono ?_;rintro e w' ⟨rfl,rfl⟩)
   go_end0
   exact ⟨⟨_,rfl⟩,.inl ⟨_,HE.out,HJj.out⟩⟩
theorem between_seq (n b rb g bl br fr to:Nat) (ks:List Kp) (hn:1≤n) (hnd:(ks.map Kp.b).Nodup) (hri:ks.Pairwise fun x y=>x.p.n < y.p.n) (hlen:ks.length≤6000):
  Seq1 n Tryz.prog 198 #[.pointer (some ⟨bl,0,none⟩),.pointer (some ⟨br,0,none⟩)] (fun x:Kp=>#[.pointer (some ⟨x.b,0,none⟩)]) (fun pre x=>pre ++ [x] <+:yK ks fr to) (fun xs=>xs=yK ks fr to) (fun pre=>pre <+:yK ks fr to) (RdR ks b rb g bl br fr to):=
 fun l J Jx W hJ _ hR hY h0=>between1 n l b rb g bl br fr to ks hn hnd hri hlen J Jx W hJ hR hY h0
def bw1 (w:World) (b fr to:Nat):World:=(w.alloc (.cells #[.pointer (some ⟨b,0,none⟩)] 64)).alloc (.cells #[.int .u64 (fr:Int),.int .u64 (to:Int)] 59)
def bfn (w:World):Value:=.func (.func 198) #[] #[.pointer (some ⟨w.heap.size,0,none⟩),.pointer (some ⟨w.heap.size + 1,0,none⟩)]
theorem between_any (b fr to:Nat) (w:World):
  Calls Tryz.prog 128 #[.pointer (some ⟨b,0,none⟩),.agg #[.int .u64 (fr:Int),.int .u64 (to:Int)]] w fun e w'=>e=.returned (bfn w)∧w'=bw1 w b fr to:=by
 go_enter Tryz.func128,Tryz.ntmps128
 go_wp2
 go_ret
 exact ⟨rfl,rfl⟩
theorem all_any (b:Nat) (w:World):
  Calls Tryz.prog 167 #[.pointer (some ⟨b,0,none⟩)] w fun e w'=>e=.returned (bfn w)∧w'=bw1 w b 0 18446744073709551615:=by
 have hb:=between_any b 0 18446744073709551615 w
 have HB:Hid (Calls Tryz.prog 128 #[.pointer (some ⟨b,0,none⟩),.agg #[.int .u64 0,.int .u64 18446744073709551615]] w fun e w'=>e=.returned (bfn w)∧w'=bw1 w b 0 18446744073709551615):=Lib.hid hb
 clear hb
 go_enter Tryz.func167,Tryz.ntmps167
 go_wp2_with fail
 refine (HB.out).mono ?_
 rintro e w' ⟨rfl,rfl⟩
 go_wp2
 go_ret
 exact ⟨rfl,rfl⟩
theorem bw1_below (w:World) (b fr to:Nat):Below w.heap.size w (bw1 w b fr to):=((Below.refl _ _).alloc (Nat.le_refl _) _).alloc (by simp) _
theorem bw1_l (w:World) (b fr to:Nat):Blk (bw1 w b fr to) w.heap.size 64 #[.pointer (some ⟨b,0,none⟩)]:=(Blk.new _ _ _).alloc _
theorem bw1_r (w:World) (b fr to:Nat):Blk (bw1 w b fr to) (w.heap.size + 1) 59 #[.int .u64 (fr:Int),.int .u64 (to:Int)]:=Blk.new1 _ _ _ _
theorem bw1_size (w:World) (b fr to:Nat):(bw1 w b fr to).heap.size=w.heap.size + 2:=by simp [bw1]
end Go.Proofs.YteoepabmnbkabaaGreatDoor
