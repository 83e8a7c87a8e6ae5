/- Lemmas. -/
import Derived.Test.YtjhiooggnpbecaaGreatDoorK404
import Derived.Test.YtjhiooggnpbecaaGreatDoorK431
set_option linter.unusedVariables false
set_option maxHeartbeats 2000000
namespace Go.Proofs.YtjhiooggnpbecaaGreatDoor
open Tryz
open Go.RowKit
variable {X:List Nat} {L:List Rn} {b:Nat} {v:Value} {w w':World}
theorem sX (n:Nat) (w:World) (hn:n≤5500):Calls prog 149 #[.slice none 0 0,.int .i64 (n:Int)] w fun e w'=>∃v,e=.returned v∧RR w' v []∧Below ↑w w w'∧∀g,v.ownBlock=some g→↑w≤g:=by
 obtain ⟨i0,hi,hz0,hz1,hz2⟩:=info_parts wD;by_cases h0:n=0
 ·subst h0
  refine (Any8.slices_Grow_room Tryz.growR none 0 0 0 w (Nat.le_refl _) (by omega) (by omega) (Nat.le_refl _)).mono ?_;rintro e w' ⟨rfl,rfl⟩;exact ⟨_,rfl,RR.nil _,Below.refl _ _,fun g h=>by cases h⟩
 ·refine (Any8.slices_Grow_grow Tryz.growR i0 (.agg #[↑ζ,↑ζ]) hi hz0 (by omega) none 0 0 n [] w (Nat.le_refl _) (by omega) (by rw [hz2];omega) (by omega) (by simp) (fun _=>rfl) (fun a h=>by cases h)).mono ?_
  rintro e w' ⟨rfl,rfl⟩;have hge:=grownCap_ge w (0 + n) 0 190;have hm:grownCap w (0 + n) 0 190≤maxLen:=grownCap_le_maxLen _ _ _ _ (by unfold maxLen;omega);have e25:Tryz.growR_ren.t 25=190:=rfl;rw [e25];generalize grownCap w (0 + n) 0 190=c at hge hm ⊢;refine ⟨_,rfl,RR.mk (cur:=_) rfl (Blk.new _ _ _) (Nat.zero_le _) hm ?_ rfl,?_,fun g h=>?_⟩
  ·simp [Builtin.zeroCells,Value.cells];omega
  ·exact (Below.refl w.heap.size w).drew.alloc (Nat.le_refl _) _
  ·simp [Value.ownBlock] at h;omega
theorem KJ (l:List Rn):l.any (fun x=>!okB x)=!(l.all okB):=by
 induction l with
 | nil=>rfl
 | cons x t ih=>rw [List.any_cons,List.all_cons,ih,Bool.not_and]
theorem kH (l:List Rn) (b off cap:Nat) (w:World) (h:Its w (some ⟨b,off,none⟩) l) (hp:0 < l.length) (hb:l.length≤5500):
  Calls prog 103 #[.slice (some ⟨b,off,none⟩) l.length cap,.func (.func 104) #[] #[]] w fun e w'=>e=.returned (.bool (!(l.all okB)))∧Below ↑w w w':=by
 obtain ⟨b',off',e,hlt,hc⟩:=fU h hp;injection e with e1 e2
 subst e1 e2;have eg:∀args w,(callFunc 104 args).run prog w=.ok (.enter 104 args) w:=enters_of func104 (by kernel_rfl) rfl;have hcon:=AnyQ.slices_ContainsFunc Tryz.containsR 2 Tryz.isAgg190 Tryz.sizeOf190 (Itm.cs (α:=Rn)) (fun x=>Itm.len x) (fun x=>!okB x) 104 #[] eg b off l.length cap l w
  (fun W x hb=>(yD x W).mono fun e w' ⟨he,hw⟩=>⟨he,aD hb hw hb.size⟩) (Nat.le_refl _) (by omega) hlt (fun j hj i v hi=>by
   have h1:=hc j hj;rw [show l[j]! =l.getD j Itm.z by simp [List.getD_eq_getElem?_getD,hj]] at hi;generalize l.getD j Itm.z=y at hi h1
   match i,hi with
   | 0,hi=>simp [Itm.cs] at hi;rw [← hi];exact h1.1
   | 1,hi=>simp [Itm.cs] at hi;rw [← hi];exact h1.2
   | i + 2,hi=>simp [Itm.cs] at hi)
 change Calls prog 103 _ _ _ at hcon
 refine hcon.mono fun e w' ⟨he,hw⟩=>⟨?_,hw⟩;rw [he,List.take_length];rw [KJ]
def jW (w:World) (l:List Rn) (e:Ending) (w':World):Prop:=∃v,e=.returned v∧RR w' v l∧Below ↑w w w'∧∀g,v.ownBlock=some g→↑w≤g
theorem lV (p:Option Addr) (cap:Nat) (w:World):
  Calls prog 106 #[.slice p 0 cap] w (jW w []):=by
 have hg:=(sX 0 w (by decide));go_enter func106,ntmps106;go_wp2;go_loop [3,11] (fun s i=>s=.int .i64 0∧i=.int .i64 0) (fun _ _=>0)
 case atStart=>exact ⟨rfl,rfl⟩
 case round=>
  obtain ⟨rfl,rfl⟩:=hrel;go_wp2_with fail;refine hg.mono ?_;rintro e w' ⟨v,rfl,h1,h2,h3⟩;have H1:=lh h1;have H2:=lh h2;have H3:=lh h3;clear h1 h2 h3 hg;go_wp2;go_loop [6,27] (fun s i=>s=v∧i=.int .i64 0) (fun _ _=>0)
  case atStart=>exact ⟨rfl,rfl⟩
  case round=>
   obtain ⟨rfl,rfl⟩:=hrel;go_wp2;go_ret;exact ⟨_,rfl,H1.out,H2.out,H3.out⟩

def InX (v:Value) (X:List Nat):Prop:=∀g,v.ownBlock=some g→g∈X
def Rows (w:World) (v:Value) (L:List Rn) (X:List Nat):Prop:=
 (L=[]∧∃p cap,v=.slice p 0 cap∧w.ownsRow 0 62 1 v 0 [])∨
 (0 < L.length∧∃g cap rg rc,v=.slice (some ⟨g,0,none⟩) 1 cap∧w.ownsRow 0 62 1 (.slice (some ⟨g,0,none⟩) 1 cap) 1 [.slice (some ⟨rg,0,none⟩) L.length rc]∧RR w (.slice (some ⟨rg,0,none⟩) L.length rc) L∧rg∈X)
def eJ (w:World) (b:Nat) (X:List Nat) (L:List Rn):Prop:=∃v,Blk w b 187 #[v]∧b∈X∧InX v X∧Rows w v L X
theorem jF {T:TypeId} {n:Nat} {xs:List Value} {k:Nat} (h:w.ownsRow 0 T k v n xs) (hk:∀g cs,v.ownBlock=some g→Blk w g T cs→w'.heap[g]? =w.heap[g]?):w'.ownsRow 0 T k v n xs:=by
 refine ⟨h.1,?_⟩;rcases h.2 with c | ⟨g,cap,cur,e,hb,hg,k⟩
 ·exact .inl c
 ·exact .inr ⟨g,cap,cur,e,hb,by rw [hk g cur (by rw [e];rfl) hg];exact hg,k⟩
theorem Rows.keep (h:Rows w v L X) (k:∀x T cs,x∈X→Blk w x T cs→w'.heap[x]? =w.heap[x]?) (hX:InX v X):Rows w' v L X:=by
 rcases h with ⟨rfl,p,cap,e,ho⟩ | ⟨hp,g,cap,rg,rc,rfl,ho,hr,hx⟩
 ·exact .inl ⟨rfl,p,cap,e,jF ho fun g cs e hb=>k g _ cs (hX g e) hb⟩
 ·exact .inr ⟨hp,g,cap,rg,rc,rfl,jF ho fun g cs e hb=>k g _ cs (hX g e) hb,hr.same fun g cs e hb=>k g _ cs (by simp [Value.ownBlock] at e;subst e;exact hx) hb,hx⟩
theorem eJ.keepX (h:eJ w b X L) (k:∀x T cs,x∈X→Blk w x T cs→w'.heap[x]? =w.heap[x]?):eJ w' b X L:=by
 obtain ⟨v,hb,hx,hv,hr⟩:=h;exact ⟨v,by unfold Blk;rw [k b _ _ hx hb];exact hb,hx,hv,hr.keep k hv⟩
theorem eJ.keep (h:eJ w b X L) (k:Below ↑w w w'):eJ w' b X L:=h.keepX fun x T cs _ hb=>k.block x hb.lt
theorem eJ.drew {w:World} {b:Nat} {X:List Nat} {L:List Rn} (h:eJ w b X L):eJ w.drew b X L:=h
theorem eJ.fr {Y:List Nat} (h:eJ w b X L) (k:Fr w w' Y) (hd:∀x∈X,x ∉ Y):eJ w' b X L:=h.keepX fun x T cs hx hb=>k.block x hb.lt (hd x hx)
theorem eJ.lt {w:World} {b:Nat} {X:List Nat} {L:List Rn} (h:eJ w b X L):b < w.heap.size:=by obtain ⟨v,hb,_⟩:=h;exact hb.lt
def kI (L:List Rn):Nat:=(L.getD (L.length - 1) Itm.z).b
def gV (L:List Rn) (n:Nat):Nat:=if 0 < L.length∧kI L < n then 1 else 0
theorem AB (L:List Rn) (p:Option Addr) (n cap:Nat) (w:World) (h:Its w p L) (hp:0 < L.length) (hm:L.length≤5500):
  Calls prog 196 #[.slice p L.length cap,↑n] w fun e w'=>e=.returned (.int .i64 (gB (kI L) n))∧Below ↑w w w':=by
 obtain ⟨ad,rfl,_⟩:=h.cells hp;obtain ⟨b,off,rfl,hb,hc⟩:=fU h hp;obtain ⟨c0,c1⟩:=hc (L.length - 1) (by omega);clear hc h;have hen:=fun W=>BQ (L.getD (L.length - 1) Itm.z) n W;unfold kI;generalize L.getD (L.length - 1) Itm.z=r at *;obtain ⟨x,y⟩:=r;unfold Rn.agg at hen;dsimp only at hen c0 c1 ⊢
 generalize gB y n=c at hen ⊢;have e1:((L.length:Int) - 1)=((L.length - 1:Nat):Int):=by omega
 have e2:((L.length:Int) - 1).toNat=L.length - 1:=by omega
 have E1:=lh e1;clear e1;have hlt:(L.length - 1) < L.length:=by omega
 generalize hk:L.length - 1=k at *;have HK:=lh hk;clear hk;go_enter func196,ntmps196;go_wp2_with (go_at_call 197;refine (hen _).mono ?_;rintro e w' ⟨rfl,hw⟩)
 go_ret;exact ⟨rfl,hw⟩

def xK (i:Nat) (w:World) (e:Ending) (w':World):Prop:=∃f,e=.returned (.tuple #[.int .i64 (i:Int),.bool f])∧Below ↑w w w'
theorem AC (p:Option Addr) (cap n:Nat) (w:World):
  Calls prog 195 #[.slice p 0 cap,↑n,.func (.func 196) #[] #[]] w (xK 0 w):=by
 go_enter func195,ntmps195;go_wp2;go_loop [9,10] (fun i j=>i=.int .i64 0∧j=.int .i64 0) (fun _ _=>0)
 case atStart=>exact ⟨rfl,rfl⟩
 case round=>
  obtain ⟨rfl,rfl⟩:=hrel;go_wp2;go_ret2
  exact ⟨false,rfl,Below.refl _ _⟩
theorem FO (b off cap:Nat) (p:Option Addr) (c:Nat) (L:List Rn) (n:Nat) (w:World) (hb:b < w.heap.size) (hc:w.cell? ⟨b,off,none⟩=some (.slice p L.length c)) (hl:Its w p L) (hp:0 < L.length) (hm:L.length≤5500):
  Calls prog 195 #[.slice (some ⟨b,off,none⟩) 1 cap,↑n,.func (.func 196) #[] #[]] w (xK (gV L n) w):=by
 have HB:=lh hb;have HC:=lh hc;have HL:=lh hl;have eg:∀args w,(callFunc 196 args).run prog w=.ok (.enter 196 args) w:=enters_of func196 (by kernel_rfl) rfl;have hk:=fun W (h:Below ↑w w W)=>AB L p n c W (hl.keep h) hp hm;have HK:=lh hk;clear hk hb hl hc;unfold gV;have hcn:=rQ (kI L) n;have hci:=II (kI L) n;by_cases hlt:kI L < n
 all_goals
  have hneg:decide (gB (kI L) n < 0)=decide (kI L < n):=by simp [hcn]
  simp only [hp,hlt,and_true,and_false,ite_true,ite_false,decide_true,decide_false] at hneg ⊢;clear hcn;generalize hk':kI L=y at *;have HY:=lh hk';clear hk' hlt;generalize hx:gB y n=x at *;have HX:=lh hx;clear hx;go_enter func195,ntmps195;go_wp2
 ·go_loopw [9,10] (fun i j wr=>(i=.int .i64 0∧j=.int .i64 1∧w=wr)∨(i=.int .i64 1∧j=.int .i64 1∧Below ↑w w wr)) (fun i j _=>(intOf j).toNat - (intOf i).toNat)
  case atStart=>exact .inl ⟨rfl,rfl,rfl⟩
  case round=>
   rcases hrel with ⟨rfl,rfl,rfl⟩ | ⟨rfl,rfl,hB⟩
   ·have hc:=HC.out
    have hq:=HK.out w (Below.refl _ _);have HQ:=lh hq;clear hq;go_wp2_with fail;refine (HQ.out).mono ?_;rintro e w' ⟨rfl,hw⟩;have HW:=lh hw;clear hw hc;go_wp2;go_roundw
    case rel=>exact .inr ⟨rfl,rfl,HW.out⟩
    case measure=>simp [intOf]
   ·have HW:=lh hB
    clear hB;go_wp2;go_ret2
    exact ⟨_,rfl,HW.out⟩
 ·go_loopw [9,10] (fun i j wr=>(i=.int .i64 0∧j=.int .i64 1∧w=wr)∨(i=.int .i64 0∧j=.int .i64 0∧Below ↑w w wr)) (fun i j _=>(intOf j).toNat - (intOf i).toNat)
  case atStart=>exact .inl ⟨rfl,rfl,rfl⟩
  case round=>
   rcases hrel with ⟨rfl,rfl,rfl⟩ | ⟨rfl,rfl,hB⟩
   ·have hc:=HC.out
    have hq:=HK.out w (Below.refl _ _);have HQ:=lh hq;clear hq;go_wp2_with fail;refine (HQ.out).mono ?_;rintro e w' ⟨rfl,hw⟩;have HW:=lh hw;clear hw hc;go_wp2;go_roundw
    case rel=>exact .inr ⟨rfl,rfl,HW.out⟩
    case measure=>simp [intOf]
   ·have HW:=lh hB
    have hc:=(hB.cell (p:=⟨b,off,none⟩) HB.out).trans HC.out;have hq:=HK.out wr hB;have HQ:=lh hq;clear hB hq;go_wp2_with fail;refine (HQ.out).mono ?_;rintro e w' ⟨rfl,hw⟩;have HV:=lh (aD HW.out hw HW.out.size);clear hw hc;go_wp2;go_ret2
    exact ⟨_,rfl,HV.out⟩

theorem pB (L:List Rn) (n:Nat):gV L n=0∨gV L n=1:=by unfold gV;split <;> simp
def AD (L:List Rn):Nat:=if L=[] then 0 else 1
theorem AE (b:Nat) (X:List Nat) (L:List Rn) (n:Nat) (w:World) (h:eJ w b X L) (hm:L.length≤5500):
  Calls prog 148 #[↑(π b),↑n] w fun e w'=>e=.returned (.int .i64 (gV L n:Int))∧Below ↑w w w':=by
 obtain ⟨v,hb,hx,hv,hr⟩:=h;have hcell:=hb.cell (i:=0) rfl;have HX:=lh hb;clear hb;rcases hr with ⟨rfl,p,cap,rfl,ho⟩ | ⟨hp,g,cap,rg,rc,rfl,ho,hrr,hxr⟩
 ·have hs:=fun W=>AC p cap n W
  have e0:gV [] n=0:=by simp [gV]
  rw [e0];clear e0 ho;have HS:=lh hs;clear hs;go_enter func148,ntmps148;go_wp2_with fail;refine (HS.out _).mono ?_;rintro e w' ⟨f,rfl,hw⟩;have HW:=lh hw;clear hw;go_wp2;go_ret;exact ⟨rfl,HW.out⟩
 ·have hc:w.cell? ⟨g,0,none⟩=some (.slice (some ⟨rg,0,none⟩) L.length rc):=by simpa [Addr.add] using ho.cells (g:=g) rfl 0 _ rfl
  have hs:=FO g 0 cap _ rc L n w (World.block_lt_of_cell? _ _ hc) hc hrr.its hp hm;generalize gV L n=k at *;have HS:=lh hs;clear hs ho hrr hc;go_enter func148,ntmps148;go_wp2_with fail;refine (HS.out).mono ?_;rintro e w' ⟨f,rfl,hw⟩;have HW:=lh hw;clear hw;go_wp2;go_ret;exact ⟨rfl,HW.out⟩
theorem KK (h:eJ w b X L):∃p cap,w.cell? ⟨b,0,none⟩=some (.slice p (AD L) cap):=by
 obtain ⟨v,hb,_,_,hr⟩:=h;rcases hr with ⟨rfl,p,cap,rfl,_⟩ | ⟨hp,g,cap,rg,rc,rfl,_⟩
 ·exact ⟨p,cap,hb.cell (i:=0) rfl⟩
 ·refine ⟨some ⟨g,0,none⟩,cap,?_⟩
  have:AD L=1:=by unfold AD;rw [if_neg (by rintro rfl;simp at hp)]
  rw [this];exact hb.cell (i:=0) rfl
def KM (w:World) (k n:Nat) (x y:Nat) (wr:World):Prop:=k≤n∧x≤↑ω∧y≤↑ω∧Below ↑w w wr
theorem FP (b:Nat) (X:List Nat) (L:List Rn) (l:List Rn) (p:Option Addr) (c:Nat) (w:World) (h:eJ w b X L) (hm:L.length≤5500) (hl:Its w p l) (hp:0 < l.length) (hk:l.length≤5500) (hu:∀r∈l,r.u64):
  Calls prog 105 #[↑(π b),.slice p l.length c] w fun e w'=>e=.returned (.tuple #[.int .i64 0,.int .i64 (AD L:Int)])∧Below ↑w w w':=by
 obtain ⟨ad,rfl,_⟩:=hl.cells hp;obtain ⟨g,off,rfl,hg,hc⟩:=fU hl hp;have hu':∀i,i < l.length→(l.getD i Itm.z).u64:=fun i hi=>hu _ (by simp [List.getD_eq_getElem?_getD,hi]);have HU:=lh hu';have HS:=lh h;have HC:=lh hc;have HG:=lh hg;obtain ⟨c0,c1⟩:=hc 0 hp;have U0:=lh (hu' 0 hp);clear hu hu' h hl hc;generalize l.getD 0 Itm.z=r0 at *;have z1:g < w.heap.size:=hg;have e0:off + 0 * 2=off:=by omega
 have e1:off + 0 * 2 + 1=off + 1:=by omega
 rw [e0] at c0 c1;clear e0 e1 hg;obtain ⟨N,hN⟩:∃N,AD L=N:=⟨_,rfl⟩;have h01:N=0∨N=1:=by rw [← hN];unfold AD;split <;> simp
 rw [hN];have HN:=lh hN;clear hN;go_enter func105,ntmps105;go_wp2;go_quiet (fail)
 go_wp2;go_loopw [6,7,21] (fun x y i wr=>∃k a b:Nat,i=.int .i64 (k:Int)∧x=↑a∧y=↑b∧KM w k l.length a b wr) (fun _ _ i _=>l.length - (intOf i).toNat)
 case atStart=>exact ⟨0,_,_,rfl,rfl,rfl,Nat.zero_le _,U0.out.1,U0.out.2,(aB.below ⟨_,rfl⟩ _)⟩
 case round=>
  obtain ⟨k,x,y,rfl,rfl,rfl,hkn,hx,hy,hB⟩:=hrel;have HB:=lh hB;have HX:=lh hx;have HY:=lh hy;clear hB c0 c1 hx hy;by_cases hlt:k < l.length
  ·obtain ⟨d0,d1⟩:=HC.out k hlt
   have c0:=(HB.out.cell (p:=⟨g,off + k * 2,none⟩) HG.out).trans d0;have c1:=(HB.out.cell (p:=⟨g,off + k * 2 + 1,none⟩) HG.out).trans d1;have U1:=lh (HU.out k hlt);clear d0 d1;generalize l.getD k Itm.z=r at *;have i0:(0:Int)≤(k:Int):=by omega
   have i1:(k:Int) < (l.length:Int):=by omega
   go_wp2;go_quiet (fail)
   go_wp2;go_roundw
   case rel=>exact ⟨k + 1,min x r.a,max y r.b,by go_num,by congr 1;omega,by congr 1;omega,by omega,by have:=HX.out;omega,by have:=HY.out;have:=U1.out.2;omega,HB.out.trans (((Below.refl _ _).alloc (Nat.le_refl _) _).mono HB.out.size |>.trans (aB.below ⟨_,rfl⟩ _))⟩
   case measure=>simp [intOf];omega
  ·obtain rfl:k=l.length:=by omega
   have hbk:=fun m W (h:Below ↑w w W)=>AE b X L m W (HS.out.keep h) hm;have HK:=lh hbk;clear hbk;have hx0:=HX.out;go_wp2_with fail;have e:((x:Int) - min (x:Int) 1)=((x - min x 1:Nat):Int):=by omega
   rw [e];clear e;generalize x - min x 1=m;refine (HK.out m wr HB.out).mono ?_;rintro e w1 ⟨rfl,hw1⟩;have B1:=lh (HB.out.trans (hw1.mono HB.out.size));clear hw1;have q1:=HK.out y w1 B1.out;rcases pB L m with k1 | k1
   all_goals
    rw [k1];clear k1;rcases pB L y with k2 | k2
    all_goals
     rw [k2] at q1;clear k2;have Q1:=lh q1;clear q1;go_wp2_with fail;refine (Q1.out).mono ?_;rintro e w2 ⟨rfl,hw2⟩;have B2:=lh (B1.out.trans (hw2.mono B1.out.size));clear hw2;obtain ⟨p,cap,hcnt⟩:=KK (HS.out.keep B2.out);rw [HN.out] at hcnt;rcases h01 with rfl | rfl
     all_goals
      go_wp2;go_ret2
      exact ⟨rfl,B2.out⟩
end Go.Proofs.YtjhiooggnpbecaaGreatDoor
