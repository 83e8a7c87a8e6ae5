/- 2 texts put together: what each one says stands ahead of it. -/
import Derived.Test.YteoepabmnbkabaaGreatDoorKS46
import Derived.Test.YteoepabmnbkabaaGreatDoorKS47
import Derived.Test.YteoepabmnbkabaaGreatDoorKS27
set_option linter.unusedVariables false
namespace Go.Proofs.YteoepabmnbkabaaGreatDoor
open Go.RowKit Cf
def fits17 (l:List Act17):Bool:=decide (l.length≤80) && l.all fun q=>decide (q.r.length≤80)
set_option maxHeartbeats 800000 in
theorem fits17_any (l:List Act17) (v:Option Addr) (c b off:Nat) (W:World) (h:InAct17 W v l b off):
  Calls Tryz.prog 7 #[.slice v l.length c] W fun e w'=>e=.returned (.bool (fits17 l))∧w'=W:=by
 obtain ⟨h1,h2,h3⟩:=h
 have H3:=Lib.hid h3
 have H2:=Lib.hid h2
 clear h3 h2
 go_enter Tryz.func7,Tryz.ntmps7
 go_wp2
 go_loop [3] (fun i=>∃k:Nat,i=.int .i64 (k:Int)∧k≤l.length∧k≤81∧∀j,j < k→(l.getD j default).r.length≤80) (fun i=>81 - (intOf i).toNat)
 case atStart=>exact ⟨0,rfl,Nat.zero_le _,by omega,fun j hj=>absurd hj (by omega)⟩
 case round=>
  obtain ⟨k,rfl,hk,hk1,hall⟩:=hrel
  have HA:=Lib.hid hall
  clear hall
  by_cases hlt:k < l.length
  ·by_cases hk2:k≤80
   ·obtain ⟨rfl,hb⟩:=H2.out (by omega)
    have A:=H3.out k hlt
    have a3:=A.k2
    have hr:=A.b2.1
    have i0:(0:Int)≤(k:Int):=by omega
    have i1:(k:Int) < (l.length:Int):=by omega
    have hd1:decide ((k:Int)≤80)=true:=by simp;omega
    clear A
    by_cases hl:(l.getD k default).r.length≤80
    ·have HL:=Lib.hid hl
     generalize hq:(l.getD k default).r.length=n at *
     have HQ:=Lib.hid hq
     clear hq
     have hd2:decide ((80:Int) < (n:Int))=false:=by simp;omega
     go_wp2
     go_round
     case rel=>exact ⟨k + 1,by go_num,by omega,by omega,fun j hj=>by
      by_cases e:j=k
      ·subst e;rw [HQ.out];exact hl
      ·exact HA.out j (by omega)⟩
     case measure=>simp [intOf];omega
    ·have HF:Hid (fits17 l=false):=Lib.hid (by
      unfold fits17
      rw [Bool.and_eq_false_iff]
      right
      rw [List.all_eq_false]
      refine ⟨l.getD k default,?_,by simpa using hl⟩
      simp [List.getD_eq_getElem?_getD,hlt])
     generalize (l.getD k default).r.length=n at *
     have hd2:decide ((80:Int) < (n:Int))=true:=by simp;omega
     go_wp2
     go_ret
     exact ⟨by rw [HF.out];rfl,rfl⟩
   ·have hd1:decide ((k:Int)≤80)=false:=by simp;omega
    have hd2:decide ((l.length:Int)≤80)=false:=by simp;omega
    have HF:Hid (fits17 l=false):=Lib.hid (by
     unfold fits17
     rw [Bool.and_eq_false_iff]
     left
     simp;omega)
    go_wp2
    go_ret
    exact ⟨by rw [HF.out];rfl,rfl⟩
  ·obtain rfl:k=l.length:=by omega
   have HF:Hid (fits17 l=decide ((l.length:Int)≤80)):=Lib.hid (by
    unfold fits17
    have e:l.all (fun q=>decide (q.r.length≤80))=true:=by
     rw [List.all_eq_true]
     intro q hq
     obtain ⟨i,hi,rfl⟩:=List.mem_iff_getElem.1 hq
     have:=HA.out i hi
     simp [List.getD_eq_getElem?_getD,hi] at this
     simpa using this
    rw [e,Bool.and_true]
    exact decide_eq_decide.2 (by omega))
   go_wp2
   go_ret
   exact ⟨by rw [HF.out];rfl,rfl⟩
def laterN (t n:Nat):Nat:=if 9223372036854775808 < n then n else t + n
theorem laterN_le {t n:Nat} (ht:t≤4398046511104) (hn:n≤18446744073709551615):laterN t n≤18446744073709551615:=by
 unfold laterN
 split <;> omega
theorem later17 (t n:Nat) (W:World) (ht:t≤4398046511104) (hn:n≤18446744073709551615):
  Calls Tryz.prog 37 #[.int .u64 (t:Int),.int .u64 (n:Int)] W fun e w'=>e=.returned (.int .u64 (laterN t n:Int))∧W=w':=by
 unfold laterN
 by_cases c:9223372036854775808 < n
 ·have d1:decide ((9223372036854775808:Int) < (n:Int))=true:=decide_eq_true (by omega)
  have d2:decide (9223372036854775808 < n)=true:=decide_eq_true c
  rw [if_pos c]
  clear c ht hn
  go_enter Tryz.func37,Tryz.ntmps37
  go_wp2_with fail
  go_ret
  exact ⟨rfl,rfl⟩
 ·have d1:decide ((9223372036854775808:Int) < (n:Int))=false:=decide_eq_false (by omega)
  have d2:decide (9223372036854775808 < n)=false:=decide_eq_false c
  have e1:(t:Int) + (n:Int)=((t + n:Nat):Int):=by omega
  have e2:IntKind.u64.wrap ((t + n:Nat):Int)=((t + n:Nat):Int):=by rw [IntKind.wrap_u64];omega
  rw [if_neg c]
  clear c ht hn
  generalize t + n=z at *
  go_enter Tryz.func37,Tryz.ntmps37
  go_wp2_with fail
  go_ret
  exact ⟨rfl,rfl⟩
namespace SN
def doNow (s:SN) (k n:Nat):Nat:=if k % 5=3 then (if s.nextB=true then s.nextT else laterN s.c.t n) else if k % 5=4 then n else laterN s.c.t n
def doS (s:SN) (k n:Nat) (r:List Rn):SN:=if k % 5=0 then s.writeS n else if k % 5=2 then s.ackS (laterN s.c.t n) (r.all okB) (fun p=>hasB r p.n) else s.tickS (s.doNow k n)
def doL (s:SN) (k n:Nat):List Pk:=if k % 5=0 then [] else if k % 5=2 then [] else s.tickL (s.doNow k n)
end SN
structure DoI (W:World) (B:Nat) (D:SD) (s:SN) (cs:Array Value) (w:World):Prop where
 i:SndI W B D s w
 a:Blk w W.heap.size 38 cs
theorem DoI.to {W w w':World} {B:Nat} {D:SD} {s:SN} {cs:Array Value} (h:DoI W B D s cs w) (k:Below w.heap.size w w'):DoI W B D s cs w':=⟨h.i.to k,h.a.keep k⟩
theorem DoI.over {W w w':World} {B:Nat} {D:SD} {s s':SN} {cs:Array Value} (h:DoI W B D s cs w) (k:SndI w B D s' w'):DoI W B D s' cs w':=⟨h.i.over k,k.kt _ (by decide) _ _ h.a⟩
def DoX (W:World) (B:Nat) (D:SD) (cs:Array Value) (w:World):Prop:=∃s,DoI W B D s cs w
theorem dx_of {W w:World} {B:Nat} {D:SD} {s:SN} {cs:Array Value} (h:Hid (DoI W B D s cs w)):Hid (DoX W B D cs w):=Lib.hid ⟨s,h.out⟩
theorem dx_v {W:World} {B:Nat} {D:SD} {cs:Array Value} {i:Nat} {v:Value} (hv:cs[i]? =some v):∀w,Hid (DoX W B D cs w)→w.cell? ⟨W.heap.size,i,none⟩=some v:=fun w q=>by
 obtain ⟨s,h⟩:=q.out
 exact h.a.cell hv
set_option maxRecDepth 100000 in
set_option maxHeartbeats 8000000 in
theorem do17 {B:Nat} {D:SD} {s:SN} {c:Setup} {k m d:Nat} (kd n:Nat) (rp:Option Addr) (rc:Nat) (r:List Rn) (W:World) (h:SndAt W B D s) (ho:s.ok c k m d) (hr:rightC c=true) (hk:k≤900) (hm:m≤5900) (hkd:kd≤255) (hn:n≤18446744073709551615) (hl:Its W rp r) (hlb:0 < r.length→∀a,rp=some a→a.block < B) (hll:r.length≤1000) (hu:∀x∈r,x.u64):
  Calls Tryz.prog 14 #[.pointer (some ⟨D.b,0,none⟩),.agg #[.int .u8 (kd:Int),.int .u64 (n:Int),.slice rp r.length rc]] W fun e w'=>∃v,e=.returned v∧PRow W.heap.size w' v (s.doL kd n)∧SndI W B D (s.doS kd n r) w':=by
 have HTi:=Lib.hid (fun w (q:SndAt w B D s)=>sn_Time w q)
 have HLa:=Lib.hid (fun w=>later17 s.c.t n w ho.cl.1 hn)
 have hla:=laterN_le (t:=s.c.t) (n:=n) ho.cl.1 hn
 have HTk:=Lib.hid (fun w (q:SndAt w B D s)=>sn_Tick (s.doNow kd n) w q ho hr hk hm)
 have HWr:=Lib.hid (fun w (q:SndAt w B D s)=>sn_Write n w q ho hn)
 have HAk:Hid (∀w,SndAt w B D s→Below B W w→Calls Tryz.prog 25 #[.pointer (some ⟨D.b,0,none⟩),.int .u64 (laterN s.c.t n:Int),.slice rp r.length rc] w (SPost B D (.returned (.int .i64 (s.ackE (laterN s.c.t n) (r.all okB)))) (s.ackS (laterN s.c.t n) (r.all okB) fun p=>hasB r p.n) w)):=Lib.hid (fun w q hb=>sn_Ack (laterN s.c.t n) rp rc r w q ho hr hk hm (fun w' hb' _=>(hl.below hb hlb).below hb' hlb) hll hu)
 have HNe:=Lib.hid (fun w (q:SndAt w B D s)=>sn_Next w q ho)
 have M0:Hid (DoI W B D s #[.int .u8 (kd:Int),.int .u64 (n:Int),.slice rp r.length rc] (W.alloc (.cells #[.int .u8 (kd:Int),.int .u64 (n:Int),.slice rp r.length rc] 38))):=Lib.hid ⟨(SndI.start h).to (al_be _ _),Blk.new _ _ _⟩
 have x0:=dx_v (W:=W) (B:=B) (D:=D) (cs:=#[.int .u8 (kd:Int),.int .u64 (n:Int),.slice rp r.length rc]) (i:=0) (v:=.int .u8 (kd:Int)) rfl
 have x1:=dx_v (W:=W) (B:=B) (D:=D) (cs:=#[.int .u8 (kd:Int),.int .u64 (n:Int),.slice rp r.length rc]) (i:=1) (v:=.int .u64 (n:Int)) rfl
 have hcs:kd % 5=0∨kd % 5=1∨kd % 5=2∨kd % 5=3∨kd % 5=4:=by omega
 clear h ho hr hk hm hl hlb hll hu hla hn
 unfold SN.doS SN.doL
 generalize hlt:laterN s.c.t n=lt at *
 have HLt:=Lib.hid hlt
 clear hlt
 rcases hcs with hc | hc | hc | hc | hc
 ·rw [if_pos hc,if_pos hc]
  have e0:Int.tmod (kd:Int) 5=0:=by rw [Int.tmod_eq_emod_of_nonneg (by omega)];omega
  have e1:(kd:Int) % 5=0:=by omega
  clear hc hkd HTk HAk HNe
  go_enter Tryz.func14,Tryz.ntmps14
  go_wp2_with fail
  generalize W.alloc (.cells #[.int .u8 (kd:Int),.int .u64 (n:Int),.slice rp r.length rc] 38)=w0 at *
  have M1:=Lib.hid (M0.out.to ((Drawn.drew w0).below _))
  go_region_held3 (fun w'=>Hid (DoX W B D #[.int .u8 (kd:Int),.int .u64 (n:Int),.slice rp r.length rc] w'))
   (first | with_reducible exact (dx_of M3) | with_reducible exact (dx_of M2) | with_reducible exact (dx_of M1))
   (first
    | (go_at_call 15;(with_reducible refine (HTi.out _ M1.out.i.at_).mono ?_);rintro e w1 ⟨rfl,hb⟩;have M2:=Lib.hid (M1.out.to hb);clear hb)
    | (go_at_call 37;(with_reducible refine (HLa.out _).mono ?_);rintro e w2 ⟨rfl,hb⟩;have M3:Hid (DoI W B D s #[.int .u8 (kd:Int),.int .u64 (n:Int),.slice rp r.length rc] w2):=(by subst hb;exact M2);clear hb))
  clear M0 M1 M2
  have a0:=M3.out.a.cell (i:=0) (v:=.int .u8 (kd:Int)) rfl
  have a1:=M3.out.a.cell (i:=1) (v:=.int .u64 (n:Int)) rfl
  have a2:=M3.out.a.cell (i:=2) (v:=.slice rp r.length rc) rfl
  go_wp2_with fail
  refine (HWr.out _ M3.out.i.at_).mono ?_
  rintro e w5 hp
  obtain rfl:=hp.e
  have M5:=Lib.hid (M3.out.over hp.i)
  clear hp
  go_wp2_with fail
  go_ret
  exact ⟨_,rfl,World.ownsRow_nil _ _ _ 7,M5.out.i⟩
 ·have HD:Hid (s.doNow kd n=lt):=Lib.hid (by unfold SN.doNow;rw [if_neg (by omega),if_neg (by omega),HLt.out])
  rw [if_neg (by omega),if_neg (by omega),if_neg (by omega),if_neg (by omega)]
  rw [HD.out] at HTk ⊢
  have e0:Int.tmod (kd:Int) 5=1:=by rw [Int.tmod_eq_emod_of_nonneg (by omega)];omega
  have e1:(kd:Int) % 5=1:=by omega
  clear hc hkd HAk HNe HWr HD
  go_enter Tryz.func14,Tryz.ntmps14
  go_wp2_with fail
  generalize W.alloc (.cells #[.int .u8 (kd:Int),.int .u64 (n:Int),.slice rp r.length rc] 38)=w0 at *
  have M1:=Lib.hid (M0.out.to ((Drawn.drew w0).below _))
  go_region_held3 (fun w'=>Hid (DoX W B D #[.int .u8 (kd:Int),.int .u64 (n:Int),.slice rp r.length rc] w'))
   (first | with_reducible exact (dx_of M3) | with_reducible exact (dx_of M2) | with_reducible exact (dx_of M1))
   (first
    | (go_at_call 15;(with_reducible refine (HTi.out _ M1.out.i.at_).mono ?_);rintro e w1 ⟨rfl,hb⟩;have M2:=Lib.hid (M1.out.to hb);clear hb)
    | (go_at_call 37;(with_reducible refine (HLa.out _).mono ?_);rintro e w2 ⟨rfl,hb⟩;have M3:Hid (DoI W B D s #[.int .u8 (kd:Int),.int .u64 (n:Int),.slice rp r.length rc] w2):=(by subst hb;exact M2);clear hb))
  clear M0 M1 M2
  have a0:=M3.out.a.cell (i:=0) (v:=.int .u8 (kd:Int)) rfl
  have a1:=M3.out.a.cell (i:=1) (v:=.int .u64 (n:Int)) rfl
  have a2:=M3.out.a.cell (i:=2) (v:=.slice rp r.length rc) rfl
  go_wp2_with fail
  refine (HTk.out _ M3.out.i.at_).mono ?_
  rintro e w5 ⟨v,rfl,hrow,hi⟩
  have M5:=Lib.hid (M3.out.over hi)
  have RW:=Lib.hid (PRow.mono hrow M3.out.i.bel.size)
  clear hi hrow
  go_wp2_with fail
  go_ret
  exact ⟨v,rfl,RW.out,M5.out.i⟩
 ·rw [if_neg (by omega),if_pos hc,if_neg (by omega),if_pos hc]
  have e0:Int.tmod (kd:Int) 5=2:=by rw [Int.tmod_eq_emod_of_nonneg (by omega)];omega
  have e1:(kd:Int) % 5=2:=by omega
  clear hc hkd HTk HNe HWr
  go_enter Tryz.func14,Tryz.ntmps14
  go_wp2_with fail
  generalize W.alloc (.cells #[.int .u8 (kd:Int),.int .u64 (n:Int),.slice rp r.length rc] 38)=w0 at *
  have M1:=Lib.hid (M0.out.to ((Drawn.drew w0).below _))
  go_region_held3 (fun w'=>Hid (DoX W B D #[.int .u8 (kd:Int),.int .u64 (n:Int),.slice rp r.length rc] w'))
   (first | with_reducible exact (dx_of M3) | with_reducible exact (dx_of M2) | with_reducible exact (dx_of M1))
   (first
    | (go_at_call 15;(with_reducible refine (HTi.out _ M1.out.i.at_).mono ?_);rintro e w1 ⟨rfl,hb⟩;have M2:=Lib.hid (M1.out.to hb);clear hb)
    | (go_at_call 37;(with_reducible refine (HLa.out _).mono ?_);rintro e w2 ⟨rfl,hb⟩;have M3:Hid (DoI W B D s #[.int .u8 (kd:Int),.int .u64 (n:Int),.slice rp r.length rc] w2):=(by subst hb;exact M2);clear hb))
  clear M0 M1 M2
  have a0:=M3.out.a.cell (i:=0) (v:=.int .u8 (kd:Int)) rfl
  have a1:=M3.out.a.cell (i:=1) (v:=.int .u64 (n:Int)) rfl
  have a2:=M3.out.a.cell (i:=2) (v:=.slice rp r.length rc) rfl
  go_wp2_with fail
  refine (HAk.out _ M3.out.i.at_ M3.out.i.bel).mono ?_
  rintro e w5 hp
  obtain rfl:=hp.e
  have M5:=Lib.hid (M3.out.over hp.i)
  clear hp
  go_wp2_with fail
  go_ret
  exact ⟨_,rfl,World.ownsRow_nil _ _ _ 7,M5.out.i⟩
 ·rw [if_neg (by omega),if_neg (by omega),if_neg (by omega),if_neg (by omega)]
  rcases hnb:s.nextB with _ | _
  ·rw [hnb] at HNe
   have HD:Hid (s.doNow kd n=lt):=Lib.hid (by unfold SN.doNow;rw [if_pos hc,hnb,HLt.out];rfl)
   rw [HD.out] at HTk ⊢
   have e0:Int.tmod (kd:Int) 5=3:=by rw [Int.tmod_eq_emod_of_nonneg (by omega)];omega
   have e1:(kd:Int) % 5=3:=by omega
   clear hc hkd HAk HWr HD hnb
   go_enter Tryz.func14,Tryz.ntmps14
   go_wp2_with fail
   generalize W.alloc (.cells #[.int .u8 (kd:Int),.int .u64 (n:Int),.slice rp r.length rc] 38)=w0 at *
   have M1:=Lib.hid (M0.out.to ((Drawn.drew w0).below _))
   go_region_held3 (fun w'=>Hid (DoX W B D #[.int .u8 (kd:Int),.int .u64 (n:Int),.slice rp r.length rc] w'))
    (first | with_reducible exact (dx_of M3) | with_reducible exact (dx_of M2) | with_reducible exact (dx_of M1))
    (first
     | (go_at_call 15;(with_reducible refine (HTi.out _ M1.out.i.at_).mono ?_);rintro e w1 ⟨rfl,hb⟩;have M2:=Lib.hid (M1.out.to hb);clear hb)
     | (go_at_call 37;(with_reducible refine (HLa.out _).mono ?_);rintro e w2 ⟨rfl,hb⟩;have M3:Hid (DoI W B D s #[.int .u8 (kd:Int),.int .u64 (n:Int),.slice rp r.length rc] w2):=(by subst hb;exact M2);clear hb))
   clear M0 M1 M2
   have a0:=M3.out.a.cell (i:=0) (v:=.int .u8 (kd:Int)) rfl
   have a1:=M3.out.a.cell (i:=1) (v:=.int .u64 (n:Int)) rfl
   have a2:=M3.out.a.cell (i:=2) (v:=.slice rp r.length rc) rfl
   go_wp2_with fail
   refine (HNe.out _ M3.out.i.at_).mono ?_
   rintro e w4 ⟨rfl,hb⟩
   have M4:=Lib.hid (M3.out.to hb)
   clear hb
   go_wp2_with fail
   refine (HTk.out _ M4.out.i.at_).mono ?_
   rintro e w5 ⟨v,rfl,hrow,hi⟩
   have M5:=Lib.hid (M4.out.over hi)
   have RW:=Lib.hid (PRow.mono hrow M4.out.i.bel.size)
   clear hi hrow
   go_wp2_with fail
   go_ret
   exact ⟨v,rfl,RW.out,M5.out.i⟩
  ·rw [hnb] at HNe
   have HD:Hid (s.doNow kd n=s.nextT):=Lib.hid (by unfold SN.doNow;rw [if_pos hc,hnb];rfl)
   rw [HD.out] at HTk ⊢
   have e0:Int.tmod (kd:Int) 5=3:=by rw [Int.tmod_eq_emod_of_nonneg (by omega)];omega
   have e1:(kd:Int) % 5=3:=by omega
   clear hc hkd HAk HWr HD hnb
   go_enter Tryz.func14,Tryz.ntmps14
   go_wp2_with fail
   generalize W.alloc (.cells #[.int .u8 (kd:Int),.int .u64 (n:Int),.slice rp r.length rc] 38)=w0 at *
   have M1:=Lib.hid (M0.out.to ((Drawn.drew w0).below _))
   go_region_held3 (fun w'=>Hid (DoX W B D #[.int .u8 (kd:Int),.int .u64 (n:Int),.slice rp r.length rc] w'))
    (first | with_reducible exact (dx_of M3) | with_reducible exact (dx_of M2) | with_reducible exact (dx_of M1))
    (first
     | (go_at_call 15;(with_reducible refine (HTi.out _ M1.out.i.at_).mono ?_);rintro e w1 ⟨rfl,hb⟩;have M2:=Lib.hid (M1.out.to hb);clear hb)
     | (go_at_call 37;(with_reducible refine (HLa.out _).mono ?_);rintro e w2 ⟨rfl,hb⟩;have M3:Hid (DoI W B D s #[.int .u8 (kd:Int),.int .u64 (n:Int),.slice rp r.length rc] w2):=(by subst hb;exact M2);clear hb))
   clear M0 M1 M2
   have a0:=M3.out.a.cell (i:=0) (v:=.int .u8 (kd:Int)) rfl
   have a1:=M3.out.a.cell (i:=1) (v:=.int .u64 (n:Int)) rfl
   have a2:=M3.out.a.cell (i:=2) (v:=.slice rp r.length rc) rfl
   go_wp2_with fail
   refine (HNe.out _ M3.out.i.at_).mono ?_
   rintro e w4 ⟨rfl,hb⟩
   have M4:=Lib.hid (M3.out.to hb)
   clear hb
   go_wp2_with fail
   refine (HTk.out _ M4.out.i.at_).mono ?_
   rintro e w5 ⟨v,rfl,hrow,hi⟩
   have M5:=Lib.hid (M4.out.over hi)
   have RW:=Lib.hid (PRow.mono hrow M4.out.i.bel.size)
   clear hi hrow
   go_wp2_with fail
   go_ret
   exact ⟨v,rfl,RW.out,M5.out.i⟩
 ·have HD:Hid (s.doNow kd n=n):=Lib.hid (by unfold SN.doNow;rw [if_neg (by omega),if_pos hc])
  rw [if_neg (by omega),if_neg (by omega),if_neg (by omega),if_neg (by omega)]
  rw [HD.out] at HTk ⊢
  have e0:Int.tmod (kd:Int) 5=4:=by rw [Int.tmod_eq_emod_of_nonneg (by omega)];omega
  have e1:(kd:Int) % 5=4:=by omega
  clear hc hkd HAk HNe HWr HD
  go_enter Tryz.func14,Tryz.ntmps14
  go_wp2_with fail
  generalize W.alloc (.cells #[.int .u8 (kd:Int),.int .u64 (n:Int),.slice rp r.length rc] 38)=w0 at *
  have M1:=Lib.hid (M0.out.to ((Drawn.drew w0).below _))
  go_region_held3 (fun w'=>Hid (DoX W B D #[.int .u8 (kd:Int),.int .u64 (n:Int),.slice rp r.length rc] w'))
   (first | with_reducible exact (dx_of M3) | with_reducible exact (dx_of M2) | with_reducible exact (dx_of M1))
   (first
    | (go_at_call 15;(with_reducible refine (HTi.out _ M1.out.i.at_).mono ?_);rintro e w1 ⟨rfl,hb⟩;have M2:=Lib.hid (M1.out.to hb);clear hb)
    | (go_at_call 37;(with_reducible refine (HLa.out _).mono ?_);rintro e w2 ⟨rfl,hb⟩;have M3:Hid (DoI W B D s #[.int .u8 (kd:Int),.int .u64 (n:Int),.slice rp r.length rc] w2):=(by subst hb;exact M2);clear hb))
  clear M0 M1 M2
  have a0:=M3.out.a.cell (i:=0) (v:=.int .u8 (kd:Int)) rfl
  have a1:=M3.out.a.cell (i:=1) (v:=.int .u64 (n:Int)) rfl
  have a2:=M3.out.a.cell (i:=2) (v:=.slice rp r.length rc) rfl
  go_wp2_with fail
  refine (HTk.out _ M3.out.i.at_).mono ?_
  rintro e w5 ⟨v,rfl,hrow,hi⟩
  have M5:=Lib.hid (M3.out.over hi)
  have RW:=Lib.hid (PRow.mono hrow M3.out.i.bel.size)
  clear hi hrow
  go_wp2_with fail
  go_ret
  exact ⟨v,rfl,RW.out,M5.out.i⟩
end Go.Proofs.YteoepabmnbkabaaGreatDoor

set_option linter.unusedVariables false
namespace Go.Proofs.YteoepabmnbkabaaGreatDoor
open Go.RowKit Cf
structure SN.Did (c:Setup) (k m d:Nat) (s:SN) (kd n a:Nat) (s':SN) (L:List Pk):Prop where
 ok:s'.ok c (k + 1) (m + 65) (d + a)
 len:L.length≤65
 next:s'.L.next=s.L.next + L.length
 size:∀p∈L,1≤p.size∧p.size≤c 0∧p.sent=s'.c.t
 num:∀i,i < L.length→(L.getD i Itm.z).n=s.L.next + i
 all:totS L≤s'.e.quant
 le:L≠[]→s'.L.fl≤s'.e.cwnd
 past:s.c.p=true→L=[]∧s'.L.fl + s'.w=s.L.fl + s.w∧s'.c.p=true
 k0:kd % 5=0→a=0∧(s'.c.n=s.c.n∨s'.c.n=s.c.n + n)
 k2:kd % 5=2→s'.c.n=s.c.n
 kk:kd % 5≠0→kd % 5≠2→a=0∧s'.c.n=s.c.n
theorem CS.to_past {s:CS} (h:s.p=true) (x:Nat):s.toS x=s:=by unfold CS.toS;rw [if_pos h]
theorem CS.to_n (s:CS) (x:Nat):(s.toS x).n=s.n:=by unfold CS.toS;split <;> (try split) <;> (try split) <;> rfl
theorem SN.tim_past {s:SN} (h:s.c.p=true) (x:Nat):s.tim x=s:=by unfold SN.tim;rw [CS.to_past h]
theorem SN.did_none {c:Setup} {k m d kd n a:Nat} {s s':SN} (h:s'.ok c (k + 1) (m + 65) (d + a)) (hn:s'.L.next=s.L.next) (hp:s.c.p=true→s'=s)
  (h0:kd % 5=0→a=0∧(s'.c.n=s.c.n∨s'.c.n=s.c.n + n)) (h2:kd % 5=2→s'.c.n=s.c.n) (hk:kd % 5≠0→kd % 5≠2→a=0∧s'.c.n=s.c.n):SN.Did c k m d s kd n a s' []:=
 ⟨h,by simp,by simp [hn],by simp,by simp,by rw [totS_nil];exact Nat.zero_le _,fun e=>absurd rfl e,fun e=>⟨rfl,by rw [hp e],by rw [hp e];exact e⟩,h0,h2,hk⟩
theorem SN.did_tick {c:Setup} {k m d kd n:Nat} {s:SN} (h:s.ok c k m d) (hr:rightC c=true) (hk:k≤900) (now:Nat) (h0:kd % 5≠0) (h2:kd % 5≠2):SN.Did c k m d s kd n 0 (s.tickS now) (s.tickL now):=by
 by_cases ht:s.c.toE now=0
 ·obtain ⟨T,O⟩:=SN.tick_yes h hr hk ht
  have hpf:=(CS.to_yes ht).2.2.2
  exact ⟨O,T.len,T.next,fun p hp=>by rw [T.ck];exact T.size p hp,T.num,T.all,T.le,fun e=>by rw [hpf] at e;exact absurd e (by decide),fun e=>absurd e h0,fun e=>absurd e h2,fun _ _=>⟨rfl,by rw [T.ck]⟩⟩
 ·obtain ⟨t1,t2⟩:=SN.tick_no ht
  rw [t1,t2]
  exact SN.did_none ((SN.to_ok h now).mono (Nat.le_succ _) (Nat.le_add_right _ _)) rfl (fun e=>SN.tim_past e now) (fun e=>absurd e h0) (fun e=>absurd e h2) (fun _ _=>⟨rfl,CS.to_n _ _⟩)
theorem CS.count_n (s:CS) (n:Nat):(s.countS n).n=s.n∨(s.countS n).n=s.n + n:=by
 unfold CS.countS
 split
 ·exact .inl rfl
 ·split
  ·exact .inl rfl
  ·exact .inr rfl
theorem SN.write_past {s:SN} (h:s.c.p=true) (n:Nat):s.writeS n=s:=by
 have e1:s.c.countS n=s.c:=by unfold CS.countS;rw [if_pos h]
 have e2:s.c.countE n=3:=by unfold CS.countE;rw [if_pos h]
 unfold SN.writeS
 rw [e1,e2,if_neg (by decide)]
theorem SN.did {c:Setup} {k m d:Nat} {s:SN} (h:s.ok c k m d) (hr:rightC c=true) (hk:k≤900) (hm:m≤5900) (kd n:Nat) (r:List Rn):∃a,SN.Did c k m d s kd n a (s.doS kd n r) (s.doL kd n):=by
 unfold SN.doS SN.doL
 by_cases h0:kd % 5=0
 ·rw [if_pos h0,if_pos h0]
  exact ⟨0,SN.did_none ((SN.write_ok h n).mono (Nat.le_succ _) (Nat.le_add_right _ _)) rfl (fun e=>SN.write_past e n) (fun _=>⟨rfl,CS.count_n _ _⟩) (fun e=>by omega) (fun e=>absurd h0 e)⟩
 ·rw [if_neg h0,if_neg h0]
  by_cases h2:kd % 5=2
  ·rw [if_pos h2,if_pos h2]
   by_cases hp:s.c.p=true
   ·have e:s.ackS (laterN s.c.t n) (r.all okB) (fun p=>hasB r p.n)=s:=by unfold SN.ackS;rw [if_pos hp]
    rw [e]
    exact ⟨0,SN.did_none (h.mono (Nat.le_succ _) (Nat.le_add_right _ _)) rfl (fun _=>rfl) (fun e=>absurd e h0) (fun _=>rfl) (fun _ e=>absurd h2 e)⟩
   ·obtain ⟨a,a1,a2,a3,a4⟩:=SN.ack_ok h hr hk (Nat.le_trans hm (by omega)) (laterN s.c.t n) (r.all okB) (fun p=>hasB r p.n)
    exact ⟨a,SN.did_none (a1.mono (Nat.le_refl _) (Nat.le_add_right _ _)) a4 (fun e=>absurd e hp) (fun e=>absurd e h0) (fun _=>a3) (fun _ e=>absurd h2 e)⟩
  ·rw [if_neg h2,if_neg h2]
   exact ⟨0,SN.did_tick h hr hk _ h0 h2⟩
theorem SN.Did.books {c:Setup} {k m d kd n a:Nat} {s s':SN} {L:List Pk} (h:SN.Did c k m d s kd n a s' L) (ho:s.ok c k m d):
  s.L.fl + s.w + d=s.c.n∧s'.L.fl + s'.w + (d + a)=s'.c.n∧s.c.n≤72057594037927936∧s'.c.n≤72057594037927936:=by
 have h1:=ho.sum
 have h2:=ho.fl
 have h3:=h.ok.sum
 have h4:=h.ok.fl
 have h5:=ho.cl.2
 have h6:=h.ok.cl.2
 omega
theorem InAct17.keep {W w:World} {v:Option Addr} {l:List Act17} {b off:Nat} (h:InAct17 W v l b off) (k:Below W.heap.size W w):InAct17 w v l b off:=
 ⟨h.1,fun p=>⟨(h.2.1 p).1,Nat.lt_of_lt_of_le (h.2.1 p).2 k.size⟩,fun i hi=>(h.2.2 i hi).keep (h.2.1 (by omega)).2 k⟩
theorem Its.lt {α:Type} [Itm α] {w:World} {v:Option Addr} {l:List α} (h:Its w v l) (hp:0 < l.length) (a:Addr) (e:v=some a):a.block < w.heap.size:=by
 obtain ⟨b,off,e',hb,_⟩:=h hp
 rw [e] at e'
 injection e' with e'
 rw [e']
 exact hb
theorem fits17_yes {l:List Act17} (h:fits17 l=true):l.length≤80∧∀k,k < l.length→(l.getD k default).r.length≤80:=by
 unfold fits17 at h
 simp only [Bool.and_eq_true,decide_eq_true_eq,List.all_eq_true] at h
 refine ⟨h.1,fun k hk=>?_⟩
 have e:l.getD k default=l[k]:=by simp [List.getD_eq_getElem?_getD,hk]
 rw [e]
 exact h.2 _ (List.getElem_mem hk)
end Go.Proofs.YteoepabmnbkabaaGreatDoor
