/- Lemmas. -/
import Derived.Test.YtjhiooggnpbecaaGreatDoorK404
import Derived.Test.YtjhiooggnpbecaaGreatDoorK403
set_option linter.unusedVariables false
set_option maxHeartbeats 2000000
set_option maxRecDepth 100000
namespace Go.Proofs.YtjhiooggnpbecaaGreatDoor
open Tryz
open Go.RowKit
variable {b g:Nat} {a w w':World}
structure Rd where
 t:Nat
 x:Nat
instance:Itm Rd:=⟨⟨0,0⟩,2,fun r=>[↑r.t,↑r.x],by decide,fun _=>rfl,fun r v h=>by simp only [List.mem_cons,List.not_mem_nil,or_false] at h;rcases h with rfl | rfl <;> rfl⟩
def Rd.agg (r:Rd):Value:=.agg #[↑r.t,↑r.x]
def dI (s:QS Rd) (g:Nat):Array Value:=#[.slice (some ⟨g,0,none⟩) s.pl.length s.pl.length,.int .i64 (s.first:Int),.int .i64 (s.cnt:Int)]
structure cA (w:World) (b g:Nat) (s:QS Rd):Prop where
 head:Blk w b 307 (dI s g)
 body:Blk w g 247 (aJ s.pl)
theorem cA.below {w w':World} {b g B:Nat} {s:QS Rd} (h:cA w b g s) (k:Below B w w') (hb:b < B) (hg:g < B):cA w' b g s:=⟨h.head.below k hb,h.body.below k hg⟩
theorem cA.keep {w w':World} {b g:Nat} {s:QS Rd} (h:cA w b g s) (k:Below ↑w w w'):cA w' b g s:=⟨h.head.keep k,h.body.keep k⟩
theorem cA.alloc {w:World} {b g:Nat} {s:QS Rd} (h:cA w b g s) (o:Obj):cA (w.alloc o) b g s:=⟨h.head.alloc o,h.body.alloc o⟩
theorem cA.drawn {b:World} (h:aB a b) {x:Nat} {s:QS Rd} (k:cA a x g s):cA b x g s:=⟨h.blk k.head,h.blk k.body⟩
theorem cA.ne {s:QS Rd} (h:cA w b g s):b≠g:=h.head.ty h.body (by decide)
theorem cA.mv {w w':World} {b g c d:Nat} {s:QS Rd} (h:cA w b g s) (k:Mv w w' c d) (h1:b≠c) (h2:b≠d) (h3:g≠c) (h4:g≠d):cA w' b g s:=⟨h.head.mv k h1 h2,h.body.mv k h3 h4⟩
structure gP (w:World) (b g:Nat) (v:Ending) (s:QS Rd) (e:Ending) (w':World):Prop where
 e:e=v
 at_:∃g',cA w' b g' s∧(g'=g∨w.heap.size≤g')
 mv:Mv w w' b g
structure pN (w:World) (b g:Nat) (s:QS Rd) (e:Ending) (w':World):Prop where
 e:e=.returned (.tuple #[])
 at_:cA w' b g s
 mv:Mv w w' b g
theorem IK:(prog.info? 247).map (fun i=>(i.zero,i.size,i.bytes))=some (some (.agg #[↑ζ,↑ζ]),2,16):=by kernel_rfl
theorem ML (n:Nat) (hn:n≤100000) (w:World):(Instr.makeSlice 305 (.int .i64 (n:Int)) (.int .i64 (n:Int))).run prog w=.ok (.slice (some ⟨w.heap.size,0,none⟩) n n) (w.alloc (.cells (aJ (List.replicate n (Itm.z (α:=Rd)))) 247)):=by
 obtain ⟨i0,hi,hz0,hz1,hz2⟩:=info_parts IK;have:=run_make (P:=prog) w 305 247 i0 _ underlying305 hi hz0 .i64 .i64 n n (by omega) (by omega) (by rw [hz2];omega) (by omega);rw [this,hz1];have e:=fD (α:=Rd) (Value.agg #[↑ζ,↑ζ]).cells rfl n;have k:Itm.k Rd=2:=rfl;rw [k] at e;simp only [Int.toNat_natCast,e]
theorem fN (b g i:Nat) (s:QS Rd) (w:World) (h:cA w b g s) (ho:s.ok) (hp:0 < s.pl.length) (hi:i≤100000):
  Calls prog 251 #[↑(π b),.int .i64 (i:Int)] w fun e w'=>e=.returned (.int .i64 ((s.pos i:Nat):Int))∧aB w w':=by
 have h0:=h.head.cell (i:=0) (v:=.slice (some ⟨g,0,none⟩) s.pl.length s.pl.length) rfl;have h1:=h.head.cell (i:=1) (v:=.int .i64 (s.first:Int)) rfl;have hf:=ho.f;have hm:=ho.m;have hn:(s.pl.length == 0)=false:=beq_false_of_ne (by omega);have HE:Hid (((s.pos i:Nat):Int)=((s.first:Int) + (i:Int)) % (s.pl.length:Int)):=lh (by simp [QS.pos]);generalize s.pos i=p at *;clear h ho;generalize s.pl.length=n at *;generalize s.first=f at *;go_enter func251,ntmps251;go_wp2_with fail;go_quiet (fail)
 go_wp2_with fail;go_ret;exact ⟨by rw [HE.out];rfl,nq,rfl⟩
theorem pO (b g:Nat) (s:QS Rd) (w:World) (h:cA w b g s):
  Calls prog 250 #[↑(π b)] w fun e w'=>e=.returned (.int .i64 (s.cnt:Int))∧w=w':=by
 have c2:=h.head.cell (i:=2) (v:=.int .i64 (s.cnt:Int)) rfl;clear h;go_enter func250,ntmps250;go_wp2;go_ret;exact ⟨rfl,rfl⟩

theorem rR (b g i:Nat) (s:QS Rd) (w:World) (h:cA w b g s) (ho:s.ok) (hp:0 < s.pl.length) (hi:i≤100000):
  Calls prog 280 #[↑(π b),.int .i64 (i:Int)] w (pN w b g (s.put i Itm.z)):=by
 have HN:=lh h.ne;have HO:=lh ho;have HB:=lh (show Blk (w.alloc (.cells #[↑ζ,↑ζ] 247)) w.heap.size 247 #[↑ζ,↑ζ] from Blk.new _ _ _);have HH:=lh (h.alloc (.cells #[↑ζ,↑ζ] 247));have HW:Hid (Mv w (w.alloc (.cells #[↑ζ,↑ζ] 247)) b g):=lh ((Mv.refl w b g).alloc _);have HZ:Hid (w.heap.size≠g):=lh (Ne.symm h.body.old);have hpl:=QS.pos_lt hp i;have HP:=lh (fN b g i s);have i3:(0:Int)≤((s.pos i:Nat):Int):=by omega
 have i4:((s.pos i:Nat):Int) < (s.pl.length:Int):=by omega
 have HS:Hid ((s.put i Itm.z).pl=s.pl.set (s.pos i) Itm.z):=lh rfl;clear h ho;have a0:=HH.out.head.drew.cell (i:=0) (v:=.slice (some ⟨g,0,none⟩) s.pl.length s.pl.length) rfl;have r0:=HB.out.drew.cell (i:=0) (v:=↑ζ) rfl;have r1:=HB.out.drew.cell (i:=1) (v:=↑ζ) rfl;generalize s.pos i=p at *;obtain ⟨y0,hy0⟩:∃v,(aJ s.pl)[p * 2]? =some v:=⟨_,Array.getElem?_eq_getElem (by rw [aS];show _ < s.pl.length * 2;omega)⟩;have c0:=HH.out.body.drew.cell hy0;have f0:=HH.out.body.drew.free (p * 2);obtain ⟨y1,hy1⟩:∃v,(aJ s.pl)[p * 2 + 1]? =some v:=⟨_,Array.getElem?_eq_getElem (by rw [aS];show _ < s.pl.length * 2;omega)⟩;have c1:=HH.out.body.drew.cell hy1;have f1:=HH.out.body.drew.free (p * 2 + 1);go_enter func280,ntmps280;go_wp2_with fail;generalize (w.alloc (.cells #[↑ζ,↑ζ] 247))=wa at *;go_region_held3 (fun w'=>w'.cell? ⟨b,0,none⟩=some (.slice (some ⟨g,0,none⟩) s.pl.length s.pl.length)∧w'.cell? ⟨w.heap.size,0,none⟩=some ↑ζ∧w'.cell? ⟨w.heap.size,1,none⟩=some ↑ζ)
  (first | exact ⟨a0,r0,r1⟩ | exact ⟨b0,q0,q1⟩ | exact ⟨(far (far b0 HN.out) HN.out),(far (far q0 HZ.out) HZ.out),(far (far q1 HZ.out) HZ.out)⟩)
  (first | (go_at_call 251;refine (HP.out _ (cA.drawn (aB.drew wa) HH.out) HO.out hp (by omega)).mono ?_;rintro e w' ⟨rfl,hd⟩;have HD:=lh hd;clear hd;have b0:=(HD.out.cell _).trans a0;have q0:=(HD.out.cell _).trans r0;have q1:=(HD.out.cell _).trans r1;have d0:=(HD.out.cell _).trans c0;have d1:=(HD.out.cell _).trans c1;have h0:=(HD.out.frozen _).trans f0;have h1:=(HD.out.frozen _).trans f1))
 go_end0
 have hD:aB wa w':=(aB.drew wa).more HD.out;have hpl':p < s.pl.length:=hpl;refine ⟨rfl,⟨?_,?_⟩,Mv.sets (.inr (.inl rfl)) (Itm.cs (Itm.z (α:=Rd))) (p * 2) w' (HW.out.drawn hD)⟩
 ·have:=Blk.sets_other HN.out (Itm.cs (Itm.z (α:=Rd))) (p * 2) w' (hD.blk HH.out.head)
  have e:dI (s.put i Itm.z) g=dI s g:=by simp [dI,QS.put]
  rw [e];exact this
 ·have:=Blk.sets (Itm.cs (Itm.z (α:=Rd))) (p * Itm.k Rd) w' _ (hD.blk HH.out.body)
  rw [bN s.pl p Itm.z hpl',← HS.out] at this;exact this
def BR (w:World) (s:QS Rd) (n k:Nat) (wr:World):Prop:=
 k≤s.cnt∧Blk wr w.heap.size 247 (aJ (s.items.take k ++ List.replicate (n - k) Itm.z))∧Below ↑w w wr
structure yE (w:World) (l:List Rd) (e:Ending) (w':World):Prop where
 e:e=.returned (.slice (some ⟨w.heap.size,0,none⟩) l.length l.length)
 blk:Blk w' w.heap.size 247 (aJ l)
 bel:Below ↑w w w'
theorem ND (b g n:Nat) (s:QS Rd) (w:World) (h:cA w b g s) (ho:s.ok) (hn:s.cnt≤n) (hm:n≤100000):
  Calls prog 285 #[↑(π b),.int .i64 (n:Int)] w (yE w (s.lay n)):=by
 have HH:=lh h;have HO:=lh ho;have hbl:=h.head.lt;have hgl:=h.body.lt;have hmk:=ML n hm;have h2:=(h.head.alloc (.cells (aJ (List.replicate n (Itm.z (α:=Rd)))) 247)).cell (i:=2) (v:=.int .i64 (s.cnt:Int)) rfl;clear h ho;go_enter func285,ntmps285;go_wp2_with fail;go_loopw [13] (fun i wr=>∃k:Nat,i=.int .i64 (k:Int)∧BR w s n k wr) (fun i _=>s.cnt - (intOf i).toNat)
 case atStart=>
  exact ⟨0,rfl,Nat.zero_le _,by simpa using Blk.new _ _ _,(Below.refl _ _).alloc (Nat.le_refl _) _⟩
 case round=>
  obtain ⟨k,rfl,hk,hb1,hbel⟩:=hrel;have HB:=lh hb1;have HW:=lh hbel;have HR:=lh (HH.out.below hbel hbl hgl);clear hb1 hbel h2 hmk;by_cases hlt:k < s.cnt
  ·have hp:0 < s.pl.length:=by have:=HO.out.c;omega
   have hpl:=QS.pos_lt hp k;have a0:=HR.out.head.drew.cell (i:=0) (v:=.slice (some ⟨g,0,none⟩) s.pl.length s.pl.length) rfl;have x0:=HR.out.body.drew.cell (i:=s.pos k * 2) (v:=↑((s.get k).t)) (dH (α:=Rd) 0 hpl (by decide));have x1:=HR.out.body.drew.cell (i:=s.pos k * 2 + 1) (v:=↑((s.get k).x)) (dH (α:=Rd) 1 hpl (by decide));have HP:=lh (fN b g k s);have hlen:(s.items.take k ++ List.replicate (n - k) Itm.z).length=n:=by simp [QS.len_items];omega
   have HL:=lh (pI hlt hn);have i0:(0:Int)≤(k:Int):=by omega
   have i1:(k:Int) < (n:Int):=by omega
   have i2:k < n:=by omega
   have i3:(0:Int)≤((s.pos k:Nat):Int):=by omega
   have i4:((s.pos k:Nat):Int) < (s.pl.length:Int):=by omega
   generalize (s.items.take k ++ List.replicate (n - k) Itm.z)=cur at *;obtain ⟨y0,hy0⟩:∃v,(aJ cur)[k * 2]? =some v:=⟨_,Array.getElem?_eq_getElem (by rw [aS];show _ < cur.length * 2;omega)⟩;have c0:=HB.out.drew.cell hy0;have f0:=HB.out.drew.free (k * 2);obtain ⟨y1,hy1⟩:∃v,(aJ cur)[k * 2 + 1]? =some v:=⟨_,Array.getElem?_eq_getElem (by rw [aS];show _ < cur.length * 2;omega)⟩;have c1:=HB.out.drew.cell hy1;have f1:=HB.out.drew.free (k * 2 + 1);generalize s.pos k=p at *;generalize s.get k=x at *;go_wp2_with fail;go_region_held3 (fun w'=>w'.cell? ⟨b,0,none⟩=some (.slice (some ⟨g,0,none⟩) s.pl.length s.pl.length)∧w'.cell? ⟨g,p * 2,none⟩=some ↑x.t∧w'.cell? ⟨g,p * 2 + 1,none⟩=some ↑x.x)
    (first | exact ⟨a0,x0,x1⟩ | exact ⟨b0,q0,q1⟩ | exact ⟨(far (far b0 (by dsimp;omega)) (by dsimp;omega)),(far (far q0 (by dsimp;omega)) (by dsimp;omega)),(far (far q1 (by dsimp;omega)) (by dsimp;omega))⟩)
    (first | (go_at_call 251;refine (HP.out _ (cA.drawn (aB.drew wr) HR.out) HO.out hp (by omega)).mono ?_;rintro e w' ⟨rfl,hd⟩;have HD:=lh hd;clear hd;have b0:=(HD.out.cell _).trans a0;have q0:=(HD.out.cell _).trans x0;have q1:=(HD.out.cell _).trans x1;have d0:=(HD.out.cell _).trans c0;have d1:=(HD.out.cell _).trans c1;have h0:=(HD.out.frozen _).trans f0;have h1:=(HD.out.frozen _).trans f1))
   have hD:aB wr w':=(aB.drew wr).more HD.out;have F1:Hid (Blk ((w'.setCell ⟨w.heap.size,k * 2,none⟩ ↑x.t).setCell ⟨w.heap.size,k * 2 + 1,none⟩ ↑x.x) w.heap.size 247 (aJ (cur.set k x))):=lh (by
    have:=Blk.sets (Itm.cs x) (k * Itm.k Rd) w' _ (hD.blk HB.out);rw [bN cur k x (by omega)] at this;exact this)
   have F2:Hid (Below ↑w w ((w'.setCell ⟨w.heap.size,k * 2,none⟩ ↑x.t).setCell ⟨w.heap.size,k * 2 + 1,none⟩ ↑x.x)):=lh (Below.sets (Nat.le_refl _) (Itm.cs x) (k * 2) w' (HW.out.trans (hD.below _)));rw [HL.out] at F1;generalize ((w'.setCell ⟨w.heap.size,k * 2,none⟩ ↑x.t).setCell ⟨w.heap.size,k * 2 + 1,none⟩ ↑x.x)=w2 at *;clear a0 b0 x0 q0 c0 d0 f0 h0 hy0 x1 q1 c1 d1 f1 h1 hy1 hD HD HP HL hlen;go_wp2_with fail;go_roundw
   case rel=>exact ⟨k + 1,by go_num,by omega,F1.out,F2.out⟩
   case measure=>simp [intOf];omega
  ·obtain rfl:k=s.cnt:=by omega
   have HL:Hid (s.lay n=s.items.take s.cnt ++ List.replicate (n - s.cnt) Itm.z):=lh (by rw [List.take_of_length_le (by rw [QS.len_items];exact Nat.le_refl _)];rfl);have HN:=lh (QS.len_lay hn);go_wp2_with fail;go_ret;exact ⟨by rw [HN.out];rfl,by rw [HL.out];exact HB.out,HW.out⟩
theorem pP (b g n:Nat) (s:QS Rd) (w:World) (h:cA w b g s) (ho:s.ok) (hn:s.cnt≤n) (hm:n≤100000):
  Calls prog 284 #[↑(π b),.int .i64 (n:Int)] w (gP w b g (.returned (.tuple #[])) (s.move n)):=by
 have HH:=lh h;have HN:=lh h.ne;have HL:=lh (ND b g n s w h ho hn hm);have HE:=lh (QS.len_lay hn);have hbl:=h.head.lt;clear h ho;go_enter func284,ntmps284;go_wp2_with fail;refine (HL.out).mono ?_;rintro e w1 ⟨rfl,hb,hbel⟩;have HB:=lh hb;have HW:=lh hbel;have H1:=lh (HH.out.head.keep hbel);have c0:=H1.out.cell (i:=0) (v:=.slice (some ⟨g,0,none⟩) s.pl.length s.pl.length) rfl;have c1:=H1.out.cell (i:=1) (v:=.int .i64 (s.first:Int)) rfl;have f0:=H1.out.free 0;have f1:=H1.out.free 1;clear hb hbel;rw [HE.out];go_wp2_with fail;go_end0
 refine ⟨rfl,⟨w.heap.size,⟨?_,?_⟩,.inr (Nat.le_refl _)⟩,((Mv.of_below HW.out b g).set (.inl rfl) _ _).set (.inl rfl) _ _⟩
 ·have:=(H1.out.set 0 (.slice (some ⟨w.heap.size,0,none⟩) n n)).set 1 (.int .i64 0)
  simpa [dI,QS.move,HE.out] using this
 ·exact (HB.out.set_other _ _ (by omega)).set_other _ _ (by omega)

theorem oH (b g:Nat) (s:QS Rd) (w:World) (h:cA w b g s) (ho:s.ok):
  Calls prog 281 #[↑(π b)] w (gP w b g (.returned (.tuple #[])) s.narrow):=by
 have HH:=lh h;have HO:=lh ho;have c0:=h.head.cell (i:=0) (v:=.slice (some ⟨g,0,none⟩) s.pl.length s.pl.length) rfl;have c2:=h.head.cell (i:=2) (v:=.int .i64 (s.cnt:Int)) rfl;have hm:=ho.m;have hc:=ho.c;clear h ho;by_cases a:0 < s.cnt
 ·by_cases d:s.cnt≤s.pl.length / 4
  ·have HE:Hid (s.narrow=s.move (s.pl.length / 2)):=lh (if_pos ⟨a,d⟩)
   have d1:decide ((s.cnt:Int)≤(s.pl.length:Int) / 4)=true:=by simp;omega
   go_enter func281,ntmps281;go_wp2_with fail;go_quiet (fail)
   have HD:Hid (aB w (w.drewN nq)):=lh ⟨nq,rfl⟩;have e0:=(HD.out.cell _).trans c0;generalize w.drewN nq=w1 at *;go_wp2_with fail;have e:((s.pl.length:Int) / 2)=((s.pl.length / 2:Nat):Int):=by omega
   rw [e];clear e;refine (pP b g (s.pl.length / 2) s w1 (cA.drawn HD.out HH.out) HO.out (by omega) (by omega)).mono ?_;rintro e w2 ⟨rfl,hat,hmv⟩;have HA:=lh hat;have HM:=lh hmv;clear hat hmv;go_wp2_with fail;go_end0
   obtain ⟨g',h1,h2⟩:=HA.out;rw [HE.out];exact ⟨rfl,⟨g',h1,by rw [HD.out.heap] at h2;exact h2⟩,((Mv.refl w b g).drawn HD.out).trans HM.out (.inl rfl)⟩
  ·have HE:Hid (s.narrow=s):=lh (if_neg (fun k=>d k.2))
   have d1:decide ((s.cnt:Int)≤(s.pl.length:Int) / 4)=false:=by simp;omega
   go_enter func281,ntmps281;go_wp2_with fail;go_quiet (fail)
   have HD:Hid (aB w (w.drewN nq)):=lh ⟨nq,rfl⟩;go_wp2_with fail;go_end0
   rw [HE.out];exact ⟨rfl,⟨g,cA.drawn HD.out HH.out,.inl rfl⟩,(Mv.refl w b g).drawn HD.out⟩
 ·have HE:Hid (s.narrow=s):=lh (if_neg (fun k=>a k.1))
  have d0:decide ((0:Int) < (s.cnt:Int))=false:=by simp;omega
  have d1:decide (0 < s.cnt)=false:=by simp;omega
  go_enter func281,ntmps281;go_wp2_with fail;go_quiet (fail)
  have HD:Hid (aB w (w.drewN nq)):=lh ⟨nq,rfl⟩;go_wp2_with fail;go_end0
  rw [HE.out];exact ⟨rfl,⟨g,cA.drawn HD.out HH.out,.inl rfl⟩,(Mv.refl w b g).drawn HD.out⟩
def dB (x:Rd) (ok:Bool):Ending:=.returned (.tuple #[x.agg,.bool ok])
theorem BT (b g i:Nat) (s:QS Rd) (w:World) (h:cA w b g s) (ho:s.ok) (hi:i < s.cnt):
  Calls prog 193 #[↑(π b),.int .i64 (i:Int)] w fun e w'=>e=dB (s.get i) true∧Below ↑w w w':=by
 have HO:=lh ho;have HB:=lh (show Blk (w.alloc (.cells #[↑ζ,↑ζ] 247)) w.heap.size 247 #[↑ζ,↑ζ] from Blk.new _ _ _);have HH:=lh (h.alloc (.cells #[↑ζ,↑ζ] 247));have HW:Hid (Below ↑w w (w.alloc (.cells #[↑ζ,↑ζ] 247))):=lh ((Below.refl _ _).alloc (Nat.le_refl _) _);have HZ:Hid (g≠w.heap.size):=lh h.body.old;have HZ2:Hid (b≠w.heap.size):=lh h.head.old;have hp:0 < s.pl.length:=by have:=ho.c;omega
 have hpl:=QS.pos_lt hp i;have hc:=ho.c;have hm:=ho.m;have a0:=HH.out.head.drew.cell (i:=0) (v:=.slice (some ⟨g,0,none⟩) s.pl.length s.pl.length) rfl;have x0:=HH.out.body.drew.cell (i:=s.pos i * 2) (v:=↑((s.get i).t)) (dH (α:=Rd) 0 hpl (by decide));have x1:=HH.out.body.drew.cell (i:=s.pos i * 2 + 1) (v:=↑((s.get i).x)) (dH (α:=Rd) 1 hpl (by decide));have r0:=HB.out.drew.cell (i:=0) (v:=↑ζ) rfl;have r1:=HB.out.drew.cell (i:=1) (v:=↑ζ) rfl;have f0:=HB.out.free 0;have f1:=HB.out.free 1;have HP:=lh (fN b g i s);have HL:=lh (pO b g s (w.alloc (.cells #[↑ζ,↑ζ] 247)) HH.out);have i3:(0:Int)≤((s.pos i:Nat):Int):=by omega
 have i4:((s.pos i:Nat):Int) < (s.pl.length:Int):=by omega
 have d0:decide ((i:Int) < 0)=false:=by simp
 have d1:decide (s.cnt≤i)=false:=by simp;omega
 clear h ho;generalize s.get i=x at *;generalize s.pos i=p at *;go_enter func193,ntmps193;go_wp2_with (go_at_call 250;refine (HL.out).mono ?_;rintro e w' ⟨rfl,rfl⟩)
 generalize (w.alloc (.cells #[↑ζ,↑ζ] 247))=wa at *;go_region_held3 (fun w'=>w'.cell? ⟨b,0,none⟩=some (.slice (some ⟨g,0,none⟩) s.pl.length s.pl.length)∧w'.cell? ⟨g,p * 2,none⟩=some ↑x.t∧w'.cell? ⟨g,p * 2 + 1,none⟩=some ↑x.x)
  (first | exact ⟨a0,x0,x1⟩ | exact ⟨b0,q0,q1⟩ | exact ⟨(far (far b0 HZ2.out) HZ2.out),(far (far q0 HZ.out) HZ.out),(far (far q1 HZ.out) HZ.out)⟩)
  (first | (go_at_call 251;refine (HP.out _ (cA.drawn (aB.drew wa) HH.out) HO.out hp (by omega)).mono ?_;rintro e w' ⟨rfl,hd⟩;have HD:=lh hd;clear hd;have b0:=(HD.out.cell _).trans a0;have q0:=(HD.out.cell _).trans x0;have q1:=(HD.out.cell _).trans x1;have t0:=(HD.out.cell _).trans r0;have t1:=(HD.out.cell _).trans r1;have h0:=(HD.out.frozen _).trans f0;have h1:=(HD.out.frozen _).trans f1))
 have hD:aB wa w':=(aB.drew wa).more HD.out;have F1:Blk ((w'.setCell ⟨w.heap.size,0,none⟩ ↑x.t).setCell ⟨w.heap.size,1,none⟩ ↑x.x) w.heap.size 247 (Itm.cs x).toArray:=Blk.whole (Itm.cs x) (hD.blk HB.out) rfl;have F2:Below ↑w w ((w'.setCell ⟨w.heap.size,0,none⟩ ↑x.t).setCell ⟨w.heap.size,1,none⟩ ↑x.x):=Below.sets (Nat.le_refl _) (Itm.cs x) 0 w' (HW.out.trans (hD.below _));go_wp2_with fail;exact bodyPost_ret (aF rfl _ _ w.heap.size 247 _ _ rfl F1 underlying247 rfl (by kernel_rfl)) rfl ⟨rfl,F2⟩
theorem yF (b g:Nat) (i:Int) (s:QS Rd) (w:World) (h:cA w b g s) (hi:i < 0∨(s.cnt:Int)≤i):
  Calls prog 193 #[↑(π b),.int .i64 i] w fun e w'=>e=dB Itm.z false∧Below ↑w w w':=by
 have HH:=lh (h.alloc (.cells #[↑ζ,↑ζ] 247));have HL:=lh (pO b g s (w.alloc (.cells #[↑ζ,↑ζ] 247)) HH.out);have HB:=lh (show Blk (w.alloc (.cells #[↑ζ,↑ζ] 247)) w.heap.size 247 #[↑ζ,↑ζ] from Blk.new _ _ _);have HW:Hid (Below ↑w w (w.alloc (.cells #[↑ζ,↑ζ] 247))):=lh ((Below.refl _ _).alloc (Nat.le_refl _) _);clear h;by_cases c:i < 0
 ·have d0:decide (i < 0)=true:=by simpa using c
  go_enter func193,ntmps193;go_wp2_with (go_at_call 250;refine (HL.out).mono ?_;rintro e w' ⟨rfl,rfl⟩)
  exact bodyPost_ret (aF rfl _ _ w.heap.size 247 _ _ rfl HB.out underlying247 rfl (by kernel_rfl)) rfl ⟨rfl,HW.out⟩
 ·have d0:decide (i < 0)=false:=by simpa using c
  have hj:(s.cnt:Int)≤i:=by omega
  have d1:decide ((s.cnt:Int)≤i)=true:=by simpa using hj
  clear hi;go_enter func193,ntmps193;go_wp2_with (go_at_call 250;refine (HL.out).mono ?_;rintro e w' ⟨rfl,rfl⟩)
  exact bodyPost_ret (aF rfl _ _ w.heap.size 247 _ _ rfl HB.out underlying247 rfl (by kernel_rfl)) rfl ⟨rfl,HW.out⟩

theorem IL (b g:Nat) (x:Rd) (s:QS Rd) (w:World) (h:cA w b g s) (ho:s.ok) (hk:s.cnt≤1000):
  Calls prog 277 #[↑(π b),x.agg] w (gP w b g (.returned (.tuple #[])) (s.push x)):=by
 unfold Rd.agg;have HO:=lh ho;have HH:=lh (h.alloc (.cells #[↑x.t,↑x.x] 247));have HX:=lh (show Blk (w.alloc (.cells #[↑x.t,↑x.x] 247)) w.heap.size 247 #[↑x.t,↑x.x] from Blk.new _ _ _);have HM:Hid (Mv w (w.alloc (.cells #[↑x.t,↑x.x] 247)) b g):=lh ((Mv.refl w b g).alloc _);have HS1:Hid ((w.alloc (.cells #[↑x.t,↑x.x] 247)).heap.size=w.heap.size + 1):=lh (by simp);have b0:=HH.out.head.cell (i:=0) (v:=.slice (some ⟨g,0,none⟩) s.pl.length s.pl.length) rfl;have b2:=HH.out.head.cell (i:=2) (v:=.int .i64 (s.cnt:Int)) rfl;have hm:=ho.m;have hc:=ho.c;have HZb:Hid (w.heap.size≠b):=lh (Ne.symm h.head.old);have HZg:Hid (w.heap.size≠g):=lh (Ne.symm h.body.old);clear h ho;by_cases a:s.cnt=s.pl.length
 ·by_cases z0:1≤s.cnt
  ·have HE:Hid (s.wide=s.move (2 * s.cnt)):=lh (by unfold QS.wide;rw [if_pos a];congr 1;omega)
   have z1:(1:Int) < 2 * (s.cnt:Int):=by omega
   have d1:(s.cnt == s.pl.length)=true:=by simpa using a
   have HA:=lh a;clear a;go_enter func277,ntmps277;go_wp2_with fail;generalize (w.alloc (.cells #[↑x.t,↑x.x] 247))=w0 at *;go_quiet (fail)
   have HD:Hid (aB w0 (w0.drewN nq)):=lh ⟨nq,rfl⟩;have q2:=(HD.out.cell _).trans b2;generalize w0.drewN nq=w1 at *;go_wp2_with fail;have HC:Hid (Calls prog 284 #[↑(π b),.int .i64 (2 * (s.cnt:Int))] w1 (gP w1 b g (.returned (.tuple #[])) (s.move (2 * s.cnt)))):=lh (by have:=pP b g (2 * s.cnt) s w1 (cA.drawn HD.out HH.out) HO.out (by omega) (by omega);rw [show ((2 * s.cnt:Nat):Int)=2 * (s.cnt:Int) from by omega] at this;exact this);refine (HC.out).mono ?_;rintro e w2 ⟨rfl,hat,hmv⟩;obtain ⟨g2,hg2,hgq⟩:=hat;rw [← HE.out] at hg2;have HG:=lh hg2;have HX2:=lh ((HD.out.blk HX.out).mv hmv HZb.out HZg.out);have HM2:=lh ((HM.out.drawn HD.out).trans hmv (.inl rfl));have HQ:Hid (g2=g∨w.heap.size < g2):=lh (by have:=HS1.out;rw [HD.out.heap] at hgq;omega);have HZ:Hid (w.heap.size≠g2):=lh (by have:=HQ.out;have:=HZg.out;omega);clear hg2 hgq hmv q2 HE b0 b2 HD HC z1 HX;have HX:=HX2;clear HX2;replace HQ:Hid (g2=g∨w.heap.size≤g2):=lh (by have:=HQ.out;omega);have HO2:=lh (QS.wide_ok HO.out (Nat.le_trans hk (by decide)));have HC2:=lh (QS.wide_cnt s);have HR2:=lh (QS.wide_room HO.out);have HPU:Hid (s.push x=⟨s.wide.pl.set (s.wide.pos s.cnt) x,s.wide.first,s.cnt + 1⟩):=lh rfl;generalize s.wide=t at *;generalize s.push x=u at *;obtain ⟨t1,t2,t3⟩:=t;obtain rfl:t3=s.cnt:=HC2.out;have hr:s.cnt < t1.length:=HR2.out;have hpl:=QS.pos_lt (s:=⟨t1,t2,s.cnt⟩) (by show 0 < t1.length;omega) s.cnt;have a0:=HG.out.head.drew.cell (i:=0) (v:=.slice (some ⟨g2,0,none⟩) t1.length t1.length) rfl;have a2:=HG.out.head.drew.cell (i:=2) (v:=.int .i64 (s.cnt:Int)) rfl;have k2:=HG.out.head.drew.free 2;have x0:=HX.out.drew.cell (i:=0) (v:=↑x.t) rfl;have x1:=HX.out.drew.cell (i:=1) (v:=↑x.x) rfl;have HN2:=lh HG.out.ne;have HP:=lh (fN b g2 s.cnt ⟨t1,t2,s.cnt⟩);have i3:(0:Int)≤((QS.pos ⟨t1,t2,s.cnt⟩ s.cnt:Nat):Int):=by omega
   have i4:((QS.pos ⟨t1,t2,s.cnt⟩ s.cnt:Nat):Int) < (t1.length:Int):=by exact_mod_cast hpl
   have i5:QS.pos ⟨t1,t2,s.cnt⟩ s.cnt < t1.length:=hpl;clear hpl;generalize QS.pos ⟨t1,t2,s.cnt⟩ s.cnt=p at *;obtain ⟨y0,hy0⟩:∃v,(aJ t1)[p * 2]? =some v:=⟨_,Array.getElem?_eq_getElem (by rw [aS];show _ < t1.length * 2;omega)⟩;have c0:=HG.out.body.drew.cell hy0;have f0:=HG.out.body.drew.free (p * 2);obtain ⟨y1,hy1⟩:∃v,(aJ t1)[p * 2 + 1]? =some v:=⟨_,Array.getElem?_eq_getElem (by rw [aS];show _ < t1.length * 2;omega)⟩;have c1:=HG.out.body.drew.cell hy1;have f1:=HG.out.body.drew.free (p * 2 + 1);go_wp2_with fail;go_region_held3 (fun w'=>w'.cell? ⟨b,0,none⟩=some (.slice (some ⟨g2,0,none⟩) t1.length t1.length)∧w'.cell? ⟨b,2,none⟩=some (.int .i64 (s.cnt:Int))∧w'.cell? ⟨w.heap.size,0,none⟩=some ↑x.t∧w'.cell? ⟨w.heap.size,1,none⟩=some ↑x.x)
    (first | exact ⟨a0,a2,x0,x1⟩ | exact ⟨b0,b2,q0,q1⟩ | exact ⟨(far (far b0 HN2.out) HN2.out),(far (far b2 HN2.out) HN2.out),(far (far q0 HZ.out) HZ.out),(far (far q1 HZ.out) HZ.out)⟩)
    (first | (go_at_call 251;refine (HP.out _ (cA.drawn (aB.drew w2) HG.out) HO2.out (by show 0 < t1.length;omega) (by omega)).mono ?_;rintro e w' ⟨rfl,hd⟩;have HD:=lh hd;clear hd;have b0:=(HD.out.cell _).trans a0;have b2:=(HD.out.cell _).trans a2;have l2:=(HD.out.frozen _).trans k2;have q0:=(HD.out.cell _).trans x0;have q1:=(HD.out.cell _).trans x1;have d0:=(HD.out.cell _).trans c0;have d1:=(HD.out.cell _).trans c1;have h0:=(HD.out.frozen _).trans f0;have h1:=(HD.out.frozen _).trans f1))
   have hD:aB w2 w':=(aB.drew w2).more HD.out;have F1:Hid (Blk ((w'.setCell ⟨g2,p * 2,none⟩ ↑x.t).setCell ⟨g2,p * 2 + 1,none⟩ ↑x.x) g2 247 (aJ (t1.set p x))):=lh (by
    have:=Blk.sets (Itm.cs x) (p * Itm.k Rd) w' _ (hD.blk HG.out.body);rw [bN t1 p x i5] at this;exact this)
   have F2:Hid (Blk ((w'.setCell ⟨g2,p * 2,none⟩ ↑x.t).setCell ⟨g2,p * 2 + 1,none⟩ ↑x.x) b 307 (dI ⟨t1,t2,s.cnt⟩ g2)):=lh (Blk.sets_other HN2.out (Itm.cs x) (p * 2) w' (hD.blk HG.out.head));have F3:Hid (Mv w ((w'.setCell ⟨g2,p * 2,none⟩ ↑x.t).setCell ⟨g2,p * 2 + 1,none⟩ ↑x.x) b g):=lh (Mv.sets (by have:=HQ.out;omega) (Itm.cs x) (p * 2) w' (HM2.out.drawn hD));generalize ((w'.setCell ⟨g2,p * 2,none⟩ ↑x.t).setCell ⟨g2,p * 2 + 1,none⟩ ↑x.x)=w3 at *;clear a0 a2 k2 b0 b2 l2 x0 q0 c0 d0 f0 h0 hy0 x1 q1 c1 d1 f1 h1 hy1 hD HD HP i3 i4 i5;have m2:=F2.out.cell (i:=2) (v:=.int .i64 (s.cnt:Int)) rfl;have n2:=F2.out.free 2;go_wp2_with fail;go_end0
   refine ⟨rfl,⟨g2,⟨?_,?_⟩,HQ.out⟩,F3.out.set (.inl rfl) _ _⟩
   ·have:=F2.out.set 2 (.int .i64 ((s.cnt:Int) + 1))
    rw [HPU.out];simpa [dI] using this
   ·rw [HPU.out]
    exact F1.out.set_other _ _ (Ne.symm HN2.out)
  ·have HE:Hid (s.wide=s.move 1):=lh (by unfold QS.wide;rw [if_pos a];congr 1;omega)
   have z1:2 * (s.cnt:Int)≤1:=by omega
   have d1:(s.cnt == s.pl.length)=true:=by simpa using a
   have HA:=lh a;clear a;go_enter func277,ntmps277;go_wp2_with fail;generalize (w.alloc (.cells #[↑x.t,↑x.x] 247))=w0 at *;go_quiet (fail)
   have HD:Hid (aB w0 (w0.drewN nq)):=lh ⟨nq,rfl⟩;have q2:=(HD.out.cell _).trans b2;generalize w0.drewN nq=w1 at *;go_wp2_with fail;have HC:Hid (Calls prog 284 #[↑(π b),.int .i64 1] w1 (gP w1 b g (.returned (.tuple #[])) (s.move 1))):=lh (by have:=pP b g 1 s w1 (cA.drawn HD.out HH.out) HO.out (by omega) (by omega);exact this);refine (HC.out).mono ?_;rintro e w2 ⟨rfl,hat,hmv⟩;obtain ⟨g2,hg2,hgq⟩:=hat;rw [← HE.out] at hg2;have HG:=lh hg2;have HX2:=lh ((HD.out.blk HX.out).mv hmv HZb.out HZg.out);have HM2:=lh ((HM.out.drawn HD.out).trans hmv (.inl rfl));have HQ:Hid (g2=g∨w.heap.size < g2):=lh (by have:=HS1.out;rw [HD.out.heap] at hgq;omega);have HZ:Hid (w.heap.size≠g2):=lh (by have:=HQ.out;have:=HZg.out;omega);clear hg2 hgq hmv q2 HE b0 b2 HD HC z1 HX;have HX:=HX2;clear HX2;replace HQ:Hid (g2=g∨w.heap.size≤g2):=lh (by have:=HQ.out;omega);have HO2:=lh (QS.wide_ok HO.out (Nat.le_trans hk (by decide)));have HC2:=lh (QS.wide_cnt s);have HR2:=lh (QS.wide_room HO.out);have HPU:Hid (s.push x=⟨s.wide.pl.set (s.wide.pos s.cnt) x,s.wide.first,s.cnt + 1⟩):=lh rfl;generalize s.wide=t at *;generalize s.push x=u at *;obtain ⟨t1,t2,t3⟩:=t;obtain rfl:t3=s.cnt:=HC2.out;have hr:s.cnt < t1.length:=HR2.out;have hpl:=QS.pos_lt (s:=⟨t1,t2,s.cnt⟩) (by show 0 < t1.length;omega) s.cnt;have a0:=HG.out.head.drew.cell (i:=0) (v:=.slice (some ⟨g2,0,none⟩) t1.length t1.length) rfl;have a2:=HG.out.head.drew.cell (i:=2) (v:=.int .i64 (s.cnt:Int)) rfl;have k2:=HG.out.head.drew.free 2;have x0:=HX.out.drew.cell (i:=0) (v:=↑x.t) rfl;have x1:=HX.out.drew.cell (i:=1) (v:=↑x.x) rfl;have HN2:=lh HG.out.ne;have HP:=lh (fN b g2 s.cnt ⟨t1,t2,s.cnt⟩);have i3:(0:Int)≤((QS.pos ⟨t1,t2,s.cnt⟩ s.cnt:Nat):Int):=by omega
   have i4:((QS.pos ⟨t1,t2,s.cnt⟩ s.cnt:Nat):Int) < (t1.length:Int):=by exact_mod_cast hpl
   have i5:QS.pos ⟨t1,t2,s.cnt⟩ s.cnt < t1.length:=hpl;clear hpl;generalize QS.pos ⟨t1,t2,s.cnt⟩ s.cnt=p at *;obtain ⟨y0,hy0⟩:∃v,(aJ t1)[p * 2]? =some v:=⟨_,Array.getElem?_eq_getElem (by rw [aS];show _ < t1.length * 2;omega)⟩;have c0:=HG.out.body.drew.cell hy0;have f0:=HG.out.body.drew.free (p * 2);obtain ⟨y1,hy1⟩:∃v,(aJ t1)[p * 2 + 1]? =some v:=⟨_,Array.getElem?_eq_getElem (by rw [aS];show _ < t1.length * 2;omega)⟩;have c1:=HG.out.body.drew.cell hy1;have f1:=HG.out.body.drew.free (p * 2 + 1);go_wp2_with fail;go_region_held3 (fun w'=>w'.cell? ⟨b,0,none⟩=some (.slice (some ⟨g2,0,none⟩) t1.length t1.length)∧w'.cell? ⟨b,2,none⟩=some (.int .i64 (s.cnt:Int))∧w'.cell? ⟨w.heap.size,0,none⟩=some ↑x.t∧w'.cell? ⟨w.heap.size,1,none⟩=some ↑x.x)
    (first | exact ⟨a0,a2,x0,x1⟩ | exact ⟨b0,b2,q0,q1⟩ | exact ⟨(far (far b0 HN2.out) HN2.out),(far (far b2 HN2.out) HN2.out),(far (far q0 HZ.out) HZ.out),(far (far q1 HZ.out) HZ.out)⟩)
    (first | (go_at_call 251;refine (HP.out _ (cA.drawn (aB.drew w2) HG.out) HO2.out (by show 0 < t1.length;omega) (by omega)).mono ?_;rintro e w' ⟨rfl,hd⟩;have HD:=lh hd;clear hd;have b0:=(HD.out.cell _).trans a0;have b2:=(HD.out.cell _).trans a2;have l2:=(HD.out.frozen _).trans k2;have q0:=(HD.out.cell _).trans x0;have q1:=(HD.out.cell _).trans x1;have d0:=(HD.out.cell _).trans c0;have d1:=(HD.out.cell _).trans c1;have h0:=(HD.out.frozen _).trans f0;have h1:=(HD.out.frozen _).trans f1))
   have hD:aB w2 w':=(aB.drew w2).more HD.out;have F1:Hid (Blk ((w'.setCell ⟨g2,p * 2,none⟩ ↑x.t).setCell ⟨g2,p * 2 + 1,none⟩ ↑x.x) g2 247 (aJ (t1.set p x))):=lh (by
    have:=Blk.sets (Itm.cs x) (p * Itm.k Rd) w' _ (hD.blk HG.out.body);rw [bN t1 p x i5] at this;exact this)
   have F2:Hid (Blk ((w'.setCell ⟨g2,p * 2,none⟩ ↑x.t).setCell ⟨g2,p * 2 + 1,none⟩ ↑x.x) b 307 (dI ⟨t1,t2,s.cnt⟩ g2)):=lh (Blk.sets_other HN2.out (Itm.cs x) (p * 2) w' (hD.blk HG.out.head));have F3:Hid (Mv w ((w'.setCell ⟨g2,p * 2,none⟩ ↑x.t).setCell ⟨g2,p * 2 + 1,none⟩ ↑x.x) b g):=lh (Mv.sets (by have:=HQ.out;omega) (Itm.cs x) (p * 2) w' (HM2.out.drawn hD));generalize ((w'.setCell ⟨g2,p * 2,none⟩ ↑x.t).setCell ⟨g2,p * 2 + 1,none⟩ ↑x.x)=w3 at *;clear a0 a2 k2 b0 b2 l2 x0 q0 c0 d0 f0 h0 hy0 x1 q1 c1 d1 f1 h1 hy1 hD HD HP i3 i4 i5;have m2:=F2.out.cell (i:=2) (v:=.int .i64 (s.cnt:Int)) rfl;have n2:=F2.out.free 2;go_wp2_with fail;go_end0
   refine ⟨rfl,⟨g2,⟨?_,?_⟩,HQ.out⟩,F3.out.set (.inl rfl) _ _⟩
   ·have:=F2.out.set 2 (.int .i64 ((s.cnt:Int) + 1))
    rw [HPU.out];simpa [dI] using this
   ·rw [HPU.out]
    exact F1.out.set_other _ _ (Ne.symm HN2.out)
 ·have HE:Hid (s.wide=s):=lh (if_neg a)
  have d1:(s.cnt == s.pl.length)=false:=by simpa using a
  have HA:=lh a;clear a;go_enter func277,ntmps277;go_wp2_with fail;generalize (w.alloc (.cells #[↑x.t,↑x.x] 247))=w0 at *;go_quiet (fail)
  have HD:Hid (aB w0 (w0.drewN nq)):=lh ⟨nq,rfl⟩;have q2:=(HD.out.cell _).trans b2;have HG:Hid (cA (w0.drewN nq) b g s.wide):=lh (by rw [HE.out];exact cA.drawn HD.out HH.out);have HM2:=lh (HM.out.drawn HD.out);have HX2:=lh (HD.out.blk HX.out);obtain ⟨g2,hg2⟩:∃g2,g2=g:=⟨_,rfl⟩;have HQ:Hid (g2=g∨w.heap.size≤g2):=lh (.inl hg2);have HZ:Hid (w.heap.size≠g2):=lh (by have:=HZg.out;omega);rw [← hg2] at HG;generalize w0.drewN nq=w2 at *;clear hg2 HE b0 b2 HD q2 HX;have HX:=HX2;clear HX2;have HO2:=lh (QS.wide_ok HO.out (Nat.le_trans hk (by decide)));have HC2:=lh (QS.wide_cnt s);have HR2:=lh (QS.wide_room HO.out);have HPU:Hid (s.push x=⟨s.wide.pl.set (s.wide.pos s.cnt) x,s.wide.first,s.cnt + 1⟩):=lh rfl;generalize s.wide=t at *;generalize s.push x=u at *;obtain ⟨t1,t2,t3⟩:=t;obtain rfl:t3=s.cnt:=HC2.out;have hr:s.cnt < t1.length:=HR2.out;have hpl:=QS.pos_lt (s:=⟨t1,t2,s.cnt⟩) (by show 0 < t1.length;omega) s.cnt;have a0:=HG.out.head.drew.cell (i:=0) (v:=.slice (some ⟨g2,0,none⟩) t1.length t1.length) rfl;have a2:=HG.out.head.drew.cell (i:=2) (v:=.int .i64 (s.cnt:Int)) rfl;have k2:=HG.out.head.drew.free 2;have x0:=HX.out.drew.cell (i:=0) (v:=↑x.t) rfl;have x1:=HX.out.drew.cell (i:=1) (v:=↑x.x) rfl;have HN2:=lh HG.out.ne;have HP:=lh (fN b g2 s.cnt ⟨t1,t2,s.cnt⟩);have i3:(0:Int)≤((QS.pos ⟨t1,t2,s.cnt⟩ s.cnt:Nat):Int):=by omega
  have i4:((QS.pos ⟨t1,t2,s.cnt⟩ s.cnt:Nat):Int) < (t1.length:Int):=by exact_mod_cast hpl
  have i5:QS.pos ⟨t1,t2,s.cnt⟩ s.cnt < t1.length:=hpl;clear hpl;generalize QS.pos ⟨t1,t2,s.cnt⟩ s.cnt=p at *;obtain ⟨y0,hy0⟩:∃v,(aJ t1)[p * 2]? =some v:=⟨_,Array.getElem?_eq_getElem (by rw [aS];show _ < t1.length * 2;omega)⟩;have c0:=HG.out.body.drew.cell hy0;have f0:=HG.out.body.drew.free (p * 2);obtain ⟨y1,hy1⟩:∃v,(aJ t1)[p * 2 + 1]? =some v:=⟨_,Array.getElem?_eq_getElem (by rw [aS];show _ < t1.length * 2;omega)⟩;have c1:=HG.out.body.drew.cell hy1;have f1:=HG.out.body.drew.free (p * 2 + 1);go_wp2_with fail;go_region_held3 (fun w'=>w'.cell? ⟨b,0,none⟩=some (.slice (some ⟨g2,0,none⟩) t1.length t1.length)∧w'.cell? ⟨b,2,none⟩=some (.int .i64 (s.cnt:Int))∧w'.cell? ⟨w.heap.size,0,none⟩=some ↑x.t∧w'.cell? ⟨w.heap.size,1,none⟩=some ↑x.x)
   (first | exact ⟨a0,a2,x0,x1⟩ | exact ⟨b0,b2,q0,q1⟩ | exact ⟨(far (far b0 HN2.out) HN2.out),(far (far b2 HN2.out) HN2.out),(far (far q0 HZ.out) HZ.out),(far (far q1 HZ.out) HZ.out)⟩)
   (first | (go_at_call 251;refine (HP.out _ (cA.drawn (aB.drew w2) HG.out) HO2.out (by show 0 < t1.length;omega) (by omega)).mono ?_;rintro e w' ⟨rfl,hd⟩;have HD:=lh hd;clear hd;have b0:=(HD.out.cell _).trans a0;have b2:=(HD.out.cell _).trans a2;have l2:=(HD.out.frozen _).trans k2;have q0:=(HD.out.cell _).trans x0;have q1:=(HD.out.cell _).trans x1;have d0:=(HD.out.cell _).trans c0;have d1:=(HD.out.cell _).trans c1;have h0:=(HD.out.frozen _).trans f0;have h1:=(HD.out.frozen _).trans f1))
  have hD:aB w2 w':=(aB.drew w2).more HD.out;have F1:Hid (Blk ((w'.setCell ⟨g2,p * 2,none⟩ ↑x.t).setCell ⟨g2,p * 2 + 1,none⟩ ↑x.x) g2 247 (aJ (t1.set p x))):=lh (by
   have:=Blk.sets (Itm.cs x) (p * Itm.k Rd) w' _ (hD.blk HG.out.body);rw [bN t1 p x i5] at this;exact this)
  have F2:Hid (Blk ((w'.setCell ⟨g2,p * 2,none⟩ ↑x.t).setCell ⟨g2,p * 2 + 1,none⟩ ↑x.x) b 307 (dI ⟨t1,t2,s.cnt⟩ g2)):=lh (Blk.sets_other HN2.out (Itm.cs x) (p * 2) w' (hD.blk HG.out.head));have F3:Hid (Mv w ((w'.setCell ⟨g2,p * 2,none⟩ ↑x.t).setCell ⟨g2,p * 2 + 1,none⟩ ↑x.x) b g):=lh (Mv.sets (by have:=HQ.out;omega) (Itm.cs x) (p * 2) w' (HM2.out.drawn hD));generalize ((w'.setCell ⟨g2,p * 2,none⟩ ↑x.t).setCell ⟨g2,p * 2 + 1,none⟩ ↑x.x)=w3 at *;clear a0 a2 k2 b0 b2 l2 x0 q0 c0 d0 f0 h0 hy0 x1 q1 c1 d1 f1 h1 hy1 hD HD HP i3 i4 i5;have m2:=F2.out.cell (i:=2) (v:=.int .i64 (s.cnt:Int)) rfl;have n2:=F2.out.free 2;go_wp2_with fail;go_end0
  refine ⟨rfl,⟨g2,⟨?_,?_⟩,HQ.out⟩,F3.out.set (.inl rfl) _ _⟩
  ·have:=F2.out.set 2 (.int .i64 ((s.cnt:Int) + 1))
   rw [HPU.out];simpa [dI] using this
  ·rw [HPU.out]
   exact F1.out.set_other _ _ (Ne.symm HN2.out)

theorem mH:(∀(b g:Nat) (s:QS Rd) (w:World) (h:cA w b g s) (ho:s.ok) (hc:0 < s.cnt),Calls prog 273 #[↑(π b)] w (gP w b g (dB (s.get 0) true) s.shift))∧(∀(b g:Nat) (s:QS Rd) (w:World) (h:cA w b g s) (ho:s.ok) (hc:0 < s.cnt),Calls prog 276 #[↑(π b)] w (gP w b g (dB (s.get (s.cnt - 1)) true) s.pop)):=by
 refine ⟨?_,?_⟩
 have k0v:Hid True:=trivial;rotate_left;have k1v:Hid True:=trivial;rotate_left
 all_goals intro b g s w h ho hc
 all_goals
  have HO:=lh ho;have HH:=lh (h.alloc (.cells #[↑ζ,↑ζ] 247));have HB:=lh (show Blk (w.alloc (.cells #[↑ζ,↑ζ] 247)) w.heap.size 247 #[↑ζ,↑ζ] from Blk.new _ _ _);have HM:Hid (Mv w (w.alloc (.cells #[↑ζ,↑ζ] 247)) b g):=lh ((Mv.refl w b g).alloc _);have HS1:Hid ((w.alloc (.cells #[↑ζ,↑ζ] 247)).heap.size=w.heap.size + 1):=lh (by simp);have HZb:Hid (w.heap.size≠b):=lh (Ne.symm h.head.old);have HZg:Hid (w.heap.size≠g):=lh (Ne.symm h.body.old);have hp:0 < s.pl.length:=by have:=ho.c;omega
  first
  |revert k0v;intro k0v;have HA:Hid (Calls prog 193 #[↑(π b),.int .i64 0] (w.alloc (.cells #[↑ζ,↑ζ] 247)) fun e w'=>e=dB (s.get 0) true∧Below (w.alloc (.cells #[↑ζ,↑ζ] 247)).heap.size (w.alloc (.cells #[↑ζ,↑ζ] 247)) w'):=lh (BT b g 0 s _ HH.out ho hc);have hcl:s.cnt≤100000:=Nat.le_trans ho.c ho.m;clear h ho;generalize s.get 0=x at *;go_enter func273,ntmps273
  |have e:((s.cnt - 1:Nat):Int)=(s.cnt:Int) - 1:=by omega
   have HA:Hid (Calls prog 193 #[↑(π b),.int .i64 ((s.cnt:Int) - 1)] (w.alloc (.cells #[↑ζ,↑ζ] 247)) fun e w'=>e=dB (s.get (s.cnt - 1)) true∧Below (w.alloc (.cells #[↑ζ,↑ζ] 247)).heap.size (w.alloc (.cells #[↑ζ,↑ζ] 247)) w'):=lh (by rw [← e];exact BT b g (s.cnt - 1) s _ HH.out ho (by omega));have HLn:=lh (pO b g s (w.alloc (.cells #[↑ζ,↑ζ] 247)) HH.out);have hcl:s.cnt≤100000:=Nat.le_trans ho.c ho.m;have HE:=lh e;clear h ho e;generalize s.get (s.cnt - 1)=x at *;go_enter func276,ntmps276;go_wp2_with fail;refine (HLn.out).mono ?_;rintro e w' ⟨rfl,rfl⟩
  go_wp2_with fail;refine (HA.out).mono ?_;rintro e w1 ⟨rfl,hbel⟩;have HR1:=lh (HH.out.keep hbel);have HB1:=lh (HB.out.keep hbel);have HM1:=lh (HM.out.below hbel);have HS2:Hid (w.heap.size + 1≤↑w1):=lh (by have:=hbel.size;have:=HS1.out;omega);first
  |revert k0v;intro k0v;clear hbel HA HH HB HM;unfold dB Rd.agg;go_wp2_with fail
  |clear hbel HA HH HB HM HLn;unfold dB Rd.agg
  have HX:Hid (Blk (w1.alloc (.cells #[↑x.t,↑x.x] 247)) w1.heap.size 247 #[↑x.t,↑x.x]):=lh (Blk.new _ _ _);have HR2:=lh (HR1.out.alloc (.cells #[↑x.t,↑x.x] 247));have HB2:=lh (HB1.out.alloc (.cells #[↑x.t,↑x.x] 247));have HM2:=lh (HM1.out.alloc (.cells #[↑x.t,↑x.x] 247));have HXb:Hid (w1.heap.size≠b):=lh (Ne.symm HR1.out.head.old);have HXg:Hid (w1.heap.size≠g):=lh (Ne.symm HR1.out.body.old);have HXz:Hid (w1.heap.size≠w.heap.size):=lh (by have:=HS2.out;omega);first
  |revert k0v;intro k0v
  |have a2:=HR2.out.head.cell (i:=2) (v:=.int .i64 (s.cnt:Int)) rfl;go_wp2_with fail
  generalize (w1.alloc (.cells #[↑x.t,↑x.x] 247))=wa at *;generalize w1.heap.size=q at *;first
  |revert k0v;intro k0v;have HC:Hid (Calls prog 280 #[↑(π b),.int .i64 0] wa (pN wa b g (s.put 0 Itm.z))):=lh (rR b g 0 s wa HR2.out HO.out hp (by omega))
  |have HC:Hid (Calls prog 280 #[↑(π b),.int .i64 ((s.cnt:Int) - 1)] wa (pN wa b g (s.put (s.cnt - 1) Itm.z))):=lh (by rw [← HE.out];exact rR b g (s.cnt - 1) s wa HR2.out HO.out hp (by omega))
  refine (HC.out).mono ?_;rintro e w2 ⟨rfl,hat,hmv⟩;have HR3:=lh hat;first
  |revert k1v;intro k1v;have HM4:=lh (HM2.out.trans hmv (.inl rfl));have HB4:=lh (HB2.out.mv hmv HZb.out HZg.out);have HX4:=lh (HX.out.mv hmv HXb.out HXg.out);clear hat hmv HC HR2 HM2 HB2 HX a2;have c2:=HR3.out.head.cell (i:=2) (v:=.int .i64 (s.cnt:Int)) rfl;have f2:=HR3.out.head.free 2;go_wp2_with fail;have HR5:Hid (cA (w2.setCell ⟨b,2,none⟩ (.int .i64 ((s.cnt:Int) - 1))) b g s.pop0):=lh ⟨by
     have:=HR3.out.head.set 2 (.int .i64 ((s.cnt:Int) - 1));simpa [dI,QS.pop0,HE.out,QS.put] using this,
    HR3.out.body.set_other _ _ (Ne.symm HR3.out.ne)⟩
   have HM5:=lh (HM4.out.set (c:=b) (.inl rfl) 2 (.int .i64 ((s.cnt:Int) - 1)));have HB5:=lh (HB4.out.set_other 2 (.int .i64 ((s.cnt:Int) - 1)) HZb.out);have HX5:=lh (HX4.out.set_other 2 (.int .i64 ((s.cnt:Int) - 1)) HXb.out);generalize (w2.setCell ⟨b,2,none⟩ (.int .i64 ((s.cnt:Int) - 1)))=w4 at *;clear c2 f2 HR3 HM4 HB4 HX4;refine (oH b g s.pop0 w4 HR5.out (QS.pop0_ok HO.out hc)).mono ?_
  |have HM3:=lh (HM2.out.trans hmv (.inl rfl));have HB3:=lh (HB2.out.mv hmv HZb.out HZg.out);have HX3:=lh (HX.out.mv hmv HXb.out HXg.out);clear hat hmv HC HR2 HM2 HB2 HX;go_wp2_with fail;have HC:Hid (Calls prog 251 #[↑(π b),.int .i64 1] w2 fun e w'=>e=.returned (.int .i64 ((s.pos 1:Nat):Int))∧aB w2 w'):=lh (by
    have:=fN b g 1 (s.put 0 Itm.z) w2 HR3.out (QS.put_ok HO.out 0 Itm.z) (by rw [QS.put_len];exact hp) (by omega);rw [QS.put_pos] at this;exact this)
   refine (HC.out).mono ?_;rintro e w3 ⟨rfl,hd⟩;have HR4:=lh (cA.drawn hd HR3.out);have HM4:=lh (HM3.out.drawn hd);have HB4:=lh (hd.blk HB3.out);have HX4:=lh (hd.blk HX3.out);clear hd HC HR3 HM3 HB3 HX3;have c1:=HR4.out.head.cell (i:=1) (v:=.int .i64 (s.first:Int)) rfl;have c2:=HR4.out.head.cell (i:=2) (v:=.int .i64 (s.cnt:Int)) rfl;have f1:=HR4.out.head.free 1;have f2:=HR4.out.head.free 2;go_wp2_with fail;have HR5:Hid (cA ((w3.setCell ⟨b,1,none⟩ (.int .i64 ((s.pos 1:Nat):Int))).setCell ⟨b,2,none⟩ (.int .i64 ((s.cnt:Int) - 1))) b g s.shift0):=lh ⟨by
     have:=(HR4.out.head.set 1 (.int .i64 ((s.pos 1:Nat):Int))).set 2 (.int .i64 ((s.cnt:Int) - 1));have e:((s.cnt - 1:Nat):Int)=(s.cnt:Int) - 1:=by omega
     simpa [dI,QS.shift0,e,QS.put] using this,
    (HR4.out.body.set_other _ _ (Ne.symm HR4.out.ne)).set_other _ _ (Ne.symm HR4.out.ne)⟩
   have HM5:=lh ((HM4.out.set (c:=b) (.inl rfl) 1 (.int .i64 ((s.pos 1:Nat):Int))).set (c:=b) (.inl rfl) 2 (.int .i64 ((s.cnt:Int) - 1)));have HB5:=lh ((HB4.out.set_other 1 (.int .i64 ((s.pos 1:Nat):Int)) HZb.out).set_other 2 (.int .i64 ((s.cnt:Int) - 1)) HZb.out);have HX5:=lh ((HX4.out.set_other 1 (.int .i64 ((s.pos 1:Nat):Int)) HXb.out).set_other 2 (.int .i64 ((s.cnt:Int) - 1)) HXb.out);generalize ((w3.setCell ⟨b,1,none⟩ (.int .i64 ((s.pos 1:Nat):Int))).setCell ⟨b,2,none⟩ (.int .i64 ((s.cnt:Int) - 1)))=w4 at *;clear c1 c2 f1 f2 HR4 HM4 HB4 HX4;refine (oH b g s.shift0 w4 HR5.out (QS.shift0_ok HO.out hc)).mono ?_
  rintro e w5 ⟨rfl,hat,hmv⟩;obtain ⟨g',hg',hgq⟩:=hat;have HR6:=lh hg';have HG6:Hid (g'=g∨w.heap.size < g'):=lh (by have:=HM5.out.size;have:=HB5.out.lt;omega);have HM6:=lh (HM5.out.trans hmv (.inl rfl));have HB6:=lh (HB5.out.mv hmv HZb.out HZg.out);have HX6:=lh (HX5.out.mv hmv HXb.out HXg.out);clear hg' hgq hmv HR5 HM5 HB5 HX5;have x0:=HX6.out.cell (i:=0) (v:=↑x.t) rfl;have x1:=HX6.out.cell (i:=1) (v:=↑x.x) rfl;have r0:=HB6.out.cell (i:=0) (v:=↑ζ) rfl;have fr0:=HB6.out.free 0;have r1:=HB6.out.cell (i:=1) (v:=↑ζ) rfl;have fr1:=HB6.out.free 1;go_wp2_with fail;have F1:=Blk.whole (Itm.cs x) HB6.out rfl;refine bodyPost_ret (aF rfl _ _ w.heap.size 247 _ _ rfl F1 underlying247 rfl (by kernel_rfl)) rfl ⟨rfl,⟨g',⟨?_,?_⟩,?_⟩,?_⟩
  ·exact Blk.sets_other (Ne.symm HZb.out) (Itm.cs x) 0 w5 HR6.out.head
  ·exact Blk.sets_other (by have:=HG6.out;have:=HZg.out;omega) (Itm.cs x) 0 w5 HR6.out.body
  ·have:=HG6.out;omega
  ·exact Mv.sets (.inr (.inr (Nat.le_refl _))) (Itm.cs x) 0 w5 HM6.out
structure PN (w:World) (s:QS Rd) (e:Ending) (w':World):Prop where
 at_:∃b g,e=.returned ↑(π b)∧cA w' b g s∧↑w≤b∧↑w≤g
 bel:Below ↑w w w'
theorem NE (v:Option Addr) (cap:Nat) (l:List Rd) (w:World) (h:Its w v l) (hn:l.length≤100000):
  Calls prog 146 #[.slice v l.length cap] w (PN w ⟨l,0,l.length⟩):=by
 have HH:=lh h;have hmk:=ML l.length hn;have hsz:(prog.info? 247).map (·.size)=some 2:=by kernel_rfl
 clear h;have HB:Hid (Below ↑w w (w.alloc (.cells (aJ (List.replicate l.length (Itm.z (α:=Rd)))) 247))):=lh ((Below.refl _ _).alloc (Nat.le_refl _) _);have HBk:Hid (Blk (w.alloc (.cells (aJ (List.replicate l.length (Itm.z (α:=Rd)))) 247)) w.heap.size 247 (aJ (List.replicate l.length (Itm.z (α:=Rd))))):=lh (Blk.new _ _ _);have HNc:=lh (HH.out.keep HB.out);have HC1:Hid ((l.flatMap (Itm.cs (α:=Rd))).length=l.length * 2):=lh (cL l);have HC2:Hid ((aJ (List.replicate l.length (Itm.z (α:=Rd)))).size=l.length * 2):=lh (by rw [aS,List.length_replicate];rfl);go_enter func146,ntmps146;go_wp2_with ((refine eG rfl (.tmp 7) (.tmp 8) 305 305 rfl 247 underlying305 2 (by decide) hsz l.length v l.length cap w.heap.size rfl rfl (aJ (List.replicate l.length (Itm.z (α:=Rd)))) 247 HBk.out (l.flatMap (Itm.cs (α:=Rd))) HC1.out HC2.out (fun hp=>(HNc.out).cells hp) (kM l) w.heap.size w HB.out (Nat.le_refl _) ?_);intro w2 h2 hb2)
 have HW:=lh hb2;have H2:Hid (Blk w2 w.heap.size 247 (aJ l)):=h2;clear h2 hb2 hmk;go_wp2_with fail;go_ret;refine ⟨⟨w2.heap.size,w.heap.size,rfl,⟨?_,?_⟩,HW.out.size,Nat.le_refl _⟩,HW.out.alloc HW.out.size _⟩
 ·exact Blk.new _ _ _
 ·exact H2.out.alloc _

def bK (w:World) (b g:Nat) (l:List Rd):Prop:=∃q:QS Rd,q.ok∧q.items=l∧cA w b g q
theorem bK.keep {w w':World} {b g:Nat} {l:List Rd} (h:bK w b g l) (k:Below ↑w w w'):bK w' b g l:=by obtain ⟨q,h1,h2,h3⟩:=h;exact ⟨q,h1,h2,h3.keep k⟩
theorem bK.drawn {l:List Rd} (h:bK w b g l) (k:aB w w'):bK w' b g l:=h.keep (k.below _)
theorem bK.alloc {w:World} {b g:Nat} {l:List Rd} (h:bK w b g l) (o:Obj):bK (w.alloc o) b g l:=h.keep ((Below.refl _ _).alloc (Nat.le_refl _) _)
theorem bK.fr {w w':World} {b g:Nat} {l:List Rd} {L:List Nat} (h:bK w b g l) (k:Fr w w' L) (h1:b ∉ L) (h2:g ∉ L):bK w' b g l:=by obtain ⟨q,a,c,d⟩:=h;exact ⟨q,a,c,⟨d.head.fr k h1,d.body.fr k h2⟩⟩
theorem bK.set_other {w:World} {b g c i:Nat} {u:Value} {l:List Rd} (h:bK w b g l) (h1:b≠c) (h2:g≠c):bK (w.setCell ⟨c,i,none⟩ u) b g l:=by obtain ⟨q,a,d,e⟩:=h;exact ⟨q,a,d,⟨e.head.set_other i u h1,e.body.set_other i u h2⟩⟩
theorem bK.ne {w:World} {b g:Nat} {l:List Rd} (h:bK w b g l):b≠g:=by obtain ⟨q,_,_,h3⟩:=h;exact h3.ne
theorem bK.lt {w:World} {b g:Nat} {l:List Rd} (h:bK w b g l):b < w.heap.size∧g < w.heap.size:=by obtain ⟨q,_,_,h3⟩:=h;exact ⟨h3.head.lt,h3.body.lt⟩
theorem bK.len {l:List Rd} (h:bK w b g l):l.length≤100000:=by obtain ⟨q,h1,h2,h3⟩:=h;rw [← h2,QS.len_items];exact Nat.le_trans h1.c h1.m
theorem bK.head {w:World} {b g:Nat} {l:List Rd} (h:bK w b g l):∃cs,Blk w b 307 cs:=by obtain ⟨q,_,_,h3⟩:=h;exact ⟨_,h3.head⟩
theorem bK.body {w:World} {b g:Nat} {l:List Rd} (h:bK w b g l):∃cs,Blk w g 247 cs:=by obtain ⟨q,_,_,h3⟩:=h;exact ⟨_,h3.body⟩
structure l4 (w:World) (b g:Nat) (v:Ending) (l:List Rd) (e:Ending) (w':World):Prop where
 e:e=v
 at_:∃g',bK w' b g' l∧(g'=g∨w.heap.size≤g')
 mv:Fr w w' [b,g]
theorem gP.row {v:Ending} {s:QS Rd} {l:List Rd} {e:Ending} (h:gP w b g v s e w') (ho:s.ok) (hl:s.items=l):l4 w b g v l e w':=by
 obtain ⟨h1,⟨g',h2,h3⟩,h4⟩:=h;exact ⟨h1,⟨g',⟨s,ho,hl,h2⟩,h3⟩,Fr.of_mv h4⟩
theorem MM (b g i:Nat) (l:List Rd) (w:World) (h:bK w b g l) (hi:i < l.length):
  Calls prog 193 #[↑(π b),.int .i64 (i:Int)] w fun e w'=>e=dB (l.getD i Itm.z) true∧Below ↑w w w':=by
 obtain ⟨q,h1,rfl,h3⟩:=h;rw [QS.len_items] at hi;rw [QS.get_item hi];exact BT b g i q w h3 h1 hi
theorem oI (b g:Nat) (i:Int) (l:List Rd) (w:World) (h:bK w b g l) (hi:i < 0∨(l.length:Int)≤i):
  Calls prog 193 #[↑(π b),.int .i64 i] w fun e w'=>e=dB Itm.z false∧Below ↑w w w':=by
 obtain ⟨q,h1,rfl,h3⟩:=h;rw [QS.len_items] at hi;exact yF b g i q w h3 hi
theorem NF (b g:Nat) (l:List Rd) (w:World) (h:bK w b g l):
  Calls prog 250 #[↑(π b)] w fun e w'=>e=.returned (.int .i64 (l.length:Int))∧w=w':=by
 obtain ⟨q,h1,rfl,h3⟩:=h;rw [QS.len_items];exact pO b g q w h3
theorem wE (b g:Nat) (x:Rd) (l:List Rd) (w:World) (h:bK w b g l) (hl:l.length≤1000):
  Calls prog 277 #[↑(π b),x.agg] w (l4 w b g (.returned (.tuple #[])) (l ++ [x])):=by
 obtain ⟨q,h1,rfl,h3⟩:=h;rw [QS.len_items] at hl;exact (IL b g x q w h3 h1 hl).mono fun e w' hp=>hp.row (QS.push_ok h1 (Nat.le_trans hl (by decide)) x) (QS.push_items h1 x)
theorem BU (b g:Nat) (x:Rd) (l:List Rd) (w:World) (h:bK w b g (x :: l)):
  Calls prog 273 #[↑(π b)] w (l4 w b g (dB x true) l):=by
 obtain ⟨q,h1,h2,h3⟩:=h;have hc:0 < q.cnt:=by rw [← QS.len_items,h2];simp
 have e:q.get 0=x:=by rw [← QS.get_item hc,h2];rfl
 have:=(mH.1 b g q w h3 h1 hc).mono fun e w' hp=>hp.row (QS.shift_ok h1 hc) (QS.shift_items h1 hc);rw [e,h2] at this;exact this
theorem NG (b g:Nat) (x:Rd) (l:List Rd) (w:World) (h:bK w b g (l ++ [x])):
  Calls prog 276 #[↑(π b)] w (l4 w b g (dB x true) l):=by
 obtain ⟨q,h1,h2,h3⟩:=h;have hn:q.cnt=l.length + 1:=by rw [← QS.len_items,h2];simp
 have hc:0 < q.cnt:=by omega
 have e:q.get (q.cnt - 1)=x:=by rw [← QS.get_item (by omega),h2,hn];simp [List.getD_eq_getElem?_getD]
 have:=(mH.2 b g q w h3 h1 hc).mono fun e w' hp=>hp.row (QS.pop_ok h1 hc) (QS.pop_items h1 hc);rw [e,h2,hn] at this;simpa using this
structure BV (w:World) (l:List Rd) (e:Ending) (w':World):Prop where
 at_:∃b g,e=.returned ↑(π b)∧bK w' b g l∧↑w≤b∧↑w≤g
 bel:Below ↑w w w'
theorem NH (v:Option Addr) (cap:Nat) (l:List Rd) (w:World) (h:Its w v l) (hn:l.length≤100000):
  Calls prog 146 #[.slice v l.length cap] w (BV w l):=
 (NE v cap l w h hn).mono fun e w' hp=>by
  obtain ⟨⟨b,g,h1,h2,h3,h4⟩,h5⟩:=hp;exact ⟨⟨b,g,h1,⟨_,QS.new_ok hn,QS.new_items l,h2⟩,h3,h4⟩,h5⟩

def dR (s:QS Pk) (g:Nat):Array Value:=#[.slice (some ⟨g,0,none⟩) s.pl.length s.pl.length,.int .i64 (s.first:Int),.int .i64 (s.cnt:Int)]
structure cF (w:World) (b g:Nat) (s:QS Pk):Prop where
 head:Blk w b 296 (dR s g)
 body:Blk w g 73 (aJ s.pl)
theorem cF.below {w w':World} {b g B:Nat} {s:QS Pk} (h:cF w b g s) (k:Below B w w') (hb:b < B) (hg:g < B):cF w' b g s:=⟨h.head.below k hb,h.body.below k hg⟩
theorem cF.keep {w w':World} {b g:Nat} {s:QS Pk} (h:cF w b g s) (k:Below ↑w w w'):cF w' b g s:=⟨h.head.keep k,h.body.keep k⟩
theorem cF.alloc {w:World} {b g:Nat} {s:QS Pk} (h:cF w b g s) (o:Obj):cF (w.alloc o) b g s:=⟨h.head.alloc o,h.body.alloc o⟩
theorem cF.drawn {b:World} (h:aB a b) {x:Nat} {s:QS Pk} (k:cF a x g s):cF b x g s:=⟨h.blk k.head,h.blk k.body⟩
theorem cF.ne {s:QS Pk} (h:cF w b g s):b≠g:=h.head.ty h.body (by decide)
theorem cF.mv {w w':World} {b g c d:Nat} {s:QS Pk} (h:cF w b g s) (k:Mv w w' c d) (h1:b≠c) (h2:b≠d) (h3:g≠c) (h4:g≠d):cF w' b g s:=⟨h.head.mv k h1 h2,h.body.mv k h3 h4⟩
structure gQ (w:World) (b g:Nat) (v:Ending) (s:QS Pk) (e:Ending) (w':World):Prop where
 e:e=v
 at_:∃g',cF w' b g' s∧(g'=g∨w.heap.size≤g')
 mv:Mv w w' b g
structure wF (w:World) (b g:Nat) (s:QS Pk) (e:Ending) (w':World):Prop where
 e:e=.returned (.tuple #[])
 at_:cF w' b g s
 mv:Mv w w' b g
theorem NI:(prog.info? 73).map (fun i=>(i.zero,i.size,i.bytes))=some (some (.agg #[↑ζ,↑ζ,↑ζ,↑ζ,↑ζ,↑ζ,.bool false]),7,56):=by kernel_rfl
theorem MN (n:Nat) (hn:n≤100000) (w:World):(Instr.makeSlice 67 (.int .i64 (n:Int)) (.int .i64 (n:Int))).run prog w=.ok (.slice (some ⟨w.heap.size,0,none⟩) n n) (w.alloc (.cells (aJ (List.replicate n (Itm.z (α:=Pk)))) 73)):=by
 obtain ⟨i0,hi,hz0,hz1,hz2⟩:=info_parts NI;have:=run_make (P:=prog) w 67 73 i0 _ underlying67 hi hz0 .i64 .i64 n n (by omega) (by omega) (by rw [hz2];omega) (by omega);rw [this,hz1];have e:=fD (α:=Pk) (Value.agg #[↑ζ,↑ζ,↑ζ,↑ζ,↑ζ,↑ζ,.bool false]).cells rfl n;have k:Itm.k Pk=7:=rfl;rw [k] at e;simp only [Int.toNat_natCast,e]
theorem fO (b g i:Nat) (s:QS Pk) (w:World) (h:cF w b g s) (ho:s.ok) (hp:0 < s.pl.length) (hi:i≤100000):
  Calls prog 244 #[↑(π b),.int .i64 (i:Int)] w fun e w'=>e=.returned (.int .i64 ((s.pos i:Nat):Int))∧aB w w':=by
 have h0:=h.head.cell (i:=0) (v:=.slice (some ⟨g,0,none⟩) s.pl.length s.pl.length) rfl;have h1:=h.head.cell (i:=1) (v:=.int .i64 (s.first:Int)) rfl;have hf:=ho.f;have hm:=ho.m;have hn:(s.pl.length == 0)=false:=beq_false_of_ne (by omega);have HE:Hid (((s.pos i:Nat):Int)=((s.first:Int) + (i:Int)) % (s.pl.length:Int)):=lh (by simp [QS.pos]);generalize s.pos i=p at *;clear h ho;generalize s.pl.length=n at *;generalize s.first=f at *;go_enter func244,ntmps244;go_wp2_with fail;go_quiet (fail)
 go_wp2_with fail;go_ret;exact ⟨by rw [HE.out];rfl,nq,rfl⟩
theorem BX (b g:Nat) (s:QS Pk) (w:World) (h:cF w b g s):
  Calls prog 243 #[↑(π b)] w fun e w'=>e=.returned (.int .i64 (s.cnt:Int))∧w=w':=by
 have c2:=h.head.cell (i:=2) (v:=.int .i64 (s.cnt:Int)) rfl;clear h;go_enter func243,ntmps243;go_wp2;go_ret;exact ⟨rfl,rfl⟩

theorem kQ (x:Pk):(prog.info? 73).map (·.size)=some (Itm.cs x).length:=by rw [Itm.len];kernel_rfl
def BY (w:World) (s:QS Pk) (n k:Nat) (wr:World):Prop:=
 k≤s.cnt∧Blk wr w.heap.size 73 (aJ (s.items.take k ++ List.replicate (n - k) Itm.z))∧Below ↑w w wr
structure yG (w:World) (l:List Pk) (e:Ending) (w':World):Prop where
 e:e=.returned (.slice (some ⟨w.heap.size,0,none⟩) l.length l.length)
 blk:Blk w' w.heap.size 73 (aJ l)
 bel:Below ↑w w w'
theorem NJ (b g n:Nat) (s:QS Pk) (w:World) (h:cF w b g s) (ho:s.ok) (hn:s.cnt≤n) (hm:n≤100000):
  Calls prog 279 #[↑(π b),.int .i64 (n:Int)] w (yG w (s.lay n)):=by
 have HH:=lh h;have HO:=lh ho;have hbl:=h.head.lt;have hgl:=h.body.lt;have hmk:=MN n hm;have h2:=(h.head.alloc (.cells (aJ (List.replicate n (Itm.z (α:=Pk)))) 73)).cell (i:=2) (v:=.int .i64 (s.cnt:Int)) rfl;have hu:=underlying73;clear h ho;go_enter func279,ntmps279;go_wp2_with fail;go_loopw [13] (fun i wr=>∃k:Nat,i=.int .i64 (k:Int)∧BY w s n k wr) (fun i _=>s.cnt - (intOf i).toNat)
 case atStart=>
  exact ⟨0,rfl,Nat.zero_le _,by simpa using Blk.new _ _ _,(Below.refl _ _).alloc (Nat.le_refl _) _⟩
 case round=>
  obtain ⟨k,rfl,hk,hb1,hbel⟩:=hrel;have HB:=lh hb1;have HW:=lh hbel;have HR:=lh (HH.out.below hbel hbl hgl);clear hb1 hbel h2 hmk;by_cases hlt:k < s.cnt
  ·have hp:0 < s.pl.length:=by have:=HO.out.c;omega
   have hpl:=QS.pos_lt hp k;have a0:=HR.out.head.drew.cell (i:=0) (v:=.slice (some ⟨g,0,none⟩) s.pl.length s.pl.length) rfl;have r0:wr.drew.rangeAt g (s.pos k * 7) (Itm.cs (s.get k)):=HR.out.body.drew.range (k:=7) rfl hpl;have HP:=lh (fun (w:World) h=>fO b g k s w h HO.out hp (by omega));have hlen:(s.items.take k ++ List.replicate (n - k) Itm.z).length=n:=by simp [QS.len_items];omega
   have t0:=HB.out.drew.therei (k:=7) (i:=k) rfl (by rw [hlen];omega);have HL:=lh (pI hlt hn);have i0:(0:Int)≤(k:Int):=by omega
   have i1:(k:Int) < (n:Int):=by omega
   have i2:k < n:=by omega
   have i3:(0:Int)≤((s.pos k:Nat):Int):=by omega
   have i4:((s.pos k:Nat):Int) < (s.pl.length:Int):=by omega
   have hl:(Itm.cs (s.get k)).length=7:=Itm.len _;have h1:∀v∈Itm.cs (s.get k),v.oneCell'=true:=Itm.one _;have hi:=kQ (s.get k);generalize (s.items.take k ++ List.replicate (n - k) Itm.z)=cur at *;generalize s.pos k=p at *;generalize s.get k=x at *;generalize hxc:Itm.cs x=xc at *;have HC:=lh hxc;clear hxc;go_wp2_with fail;refine rhd (S:=(fun w'=>w'.cell? ⟨b,0,none⟩=some (.slice (some ⟨g,0,none⟩) s.pl.length s.pl.length)∧w'.rangeAt g (p * 7) xc∧w'.there w.heap.size (k * 7) 7)) ⟨a0,r0,t0⟩ (fun hHeld=>?_);refine tkc 0 ?_;refine tkc 1 ?_;refine tkc 2 ?_;refine tkc 3 ?_;refine tkc 4 ?_;refine wpAnyH_take (i:=5) (oi:=⟨some 21,_,_,_,_,_⟩) (v:=?v14) rfl (by kernel_rfl) (by kernel_rfl) (by kernel_rfl) (fun _ _ _ h=>h) (Or.inl ⟨by rfl,?y14⟩) (by assumption) ?r14
   case y14=>intro w hSw;obtain ⟨s0,s1,s2⟩:=hSw;go_simp;(try with_reducible rfl)
   simp only [Act.put,List.setIfInBounds_toArray,List.set_cons_zero,List.set_cons_succ];refine tkc 6 ?_;refine tkc 7 ?_;refine rdy [8] ?_;refine cns (fun K hK=>?_) .nil;go_simp;refine (HP.out _ (cF.drawn (aB.drew wr) HR.out)).mono ?_;rintro e w' ⟨rfl,hd⟩;have HD:=lh hd;clear hd;have b0:=(HD.out.cell _).trans a0;have r1:=dM HD.out r0;have t1:=dN HD.out t0;go_wp2_with fail;refine bck hK ⟨b0,r1,t1⟩ (fun hHeld=>?_);clear hK;refine tkc 9 ?_;refine' wpAnyH_take (i:=10) (oi:=⟨some 26,_,_,_,_,_⟩) (v:=_) rfl (by kernel_rfl) (by kernel_rfl) (by kernel_rfl) (fun _ _ _ h=>h) (yieldsIf_load_mid (by rfl) _ _ rfl _ _ rfl _ _ ?hS18 hu rfl hi) (by assumption) ?r18
   case hS18=>intro w hSw;exact hSw.2.1
   simp only [Act.put,List.setIfInBounds_toArray,List.set_cons_zero,List.set_cons_succ];refine tkc 11 ?_;refine rdy [12] ?_;refine cns (fun K hK=>?_) .nil;rw [if_pos (by rfl)];refine wp_store_mid _ _ _ rfl _ _ (List.toArray _) rfl rfl (by have e:=hl;rw [← List.size_toArray] at e;rw [e];exact t1) (by rw [List.size_toArray];exact hi) (all_oneCell_toArray h1) ?_;dsimp only
   refine bck hK ⟨bA b0 (by dsimp;omega),World.rangeAt_setCells_apart r1 _ _ _ (.inl (by omega)),World.there_setCells t1 _ _ _⟩ (fun hHeld=>?_);clear hK;refine wpAnyH_done (by kernel_rfl) ?_ _;have hD:aB wr w':=(aB.drew wr).more HD.out;have F1:Hid (Blk (w'.setCells w.heap.size (k * 7) xc) w.heap.size 73 (aJ (cur.set k x))):=lh (by
    have:=Blk.sets xc (k * Itm.k Pk) w' _ (hD.blk HB.out);have e:=bN cur k x (by omega);rw [HC.out] at e;rw [e] at this;exact this)
   have F2:Hid (Below ↑w w (w'.setCells w.heap.size (k * 7) xc)):=lh (Below.sets (Nat.le_refl _) xc (k * 7) w' (HW.out.trans (hD.below _)));rw [HL.out] at F1;generalize (w'.setCells w.heap.size (k * 7) xc)=w2 at *;clear a0 b0 r0 r1 t0 t1 hHeld hD HD HP HL hlen hi hl h1;go_wp2_with fail;go_roundw
   case rel=>exact ⟨k + 1,by go_num,by omega,F1.out,F2.out⟩
   case measure=>simp [intOf];omega
  ·obtain rfl:k=s.cnt:=by omega
   have HL:Hid (s.lay n=s.items.take s.cnt ++ List.replicate (n - s.cnt) Itm.z):=lh (by rw [List.take_of_length_le (by rw [QS.len_items];exact Nat.le_refl _)];rfl);have HN:=lh (QS.len_lay hn);go_wp2_with fail;go_ret;exact ⟨by rw [HN.out];rfl,by rw [HL.out];exact HB.out,HW.out⟩
theorem pQ (b g n:Nat) (s:QS Pk) (w:World) (h:cF w b g s) (ho:s.ok) (hn:s.cnt≤n) (hm:n≤100000):
  Calls prog 269 #[↑(π b),.int .i64 (n:Int)] w (gQ w b g (.returned (.tuple #[])) (s.move n)):=by
 have HH:=lh h;have HN:=lh h.ne;have HL:=lh (NJ b g n s w h ho hn hm);have HE:=lh (QS.len_lay hn);have hbl:=h.head.lt;clear h ho;go_enter func269,ntmps269;go_wp2_with fail;refine (HL.out).mono ?_;rintro e w1 ⟨rfl,hb,hbel⟩;have HB:=lh hb;have HW:=lh hbel;have H1:=lh (HH.out.head.keep hbel);have c0:=H1.out.cell (i:=0) (v:=.slice (some ⟨g,0,none⟩) s.pl.length s.pl.length) rfl;have c1:=H1.out.cell (i:=1) (v:=.int .i64 (s.first:Int)) rfl;have f0:=H1.out.free 0;have f1:=H1.out.free 1;clear hb hbel;rw [HE.out];go_wp2_with fail;go_end0
 refine ⟨rfl,⟨w.heap.size,⟨?_,?_⟩,.inr (Nat.le_refl _)⟩,((Mv.of_below HW.out b g).set (.inl rfl) _ _).set (.inl rfl) _ _⟩
 ·have:=(H1.out.set 0 (.slice (some ⟨w.heap.size,0,none⟩) n n)).set 1 (.int .i64 0)
  simpa [dR,QS.move,HE.out] using this
 ·exact (HB.out.set_other _ _ (by omega)).set_other _ _ (by omega)

theorem yH (b g:Nat) (s:QS Pk) (w:World) (h:cF w b g s) (ho:s.ok):
  Calls prog 264 #[↑(π b)] w (gQ w b g (.returned (.tuple #[])) s.narrow):=by
 have HH:=lh h;have HO:=lh ho;have c0:=h.head.cell (i:=0) (v:=.slice (some ⟨g,0,none⟩) s.pl.length s.pl.length) rfl;have c2:=h.head.cell (i:=2) (v:=.int .i64 (s.cnt:Int)) rfl;have hm:=ho.m;have hc:=ho.c;clear h ho;by_cases a:0 < s.cnt
 ·by_cases d:s.cnt≤s.pl.length / 4
  ·have HE:Hid (s.narrow=s.move (s.pl.length / 2)):=lh (if_pos ⟨a,d⟩)
   have d1:decide ((s.cnt:Int)≤(s.pl.length:Int) / 4)=true:=by simp;omega
   go_enter func264,ntmps264;go_wp2_with fail;go_quiet (fail)
   have HD:Hid (aB w (w.drewN nq)):=lh ⟨nq,rfl⟩;have e0:=(HD.out.cell _).trans c0;generalize w.drewN nq=w1 at *;go_wp2_with fail;have e:((s.pl.length:Int) / 2)=((s.pl.length / 2:Nat):Int):=by omega
   rw [e];clear e;refine (pQ b g (s.pl.length / 2) s w1 (cF.drawn HD.out HH.out) HO.out (by omega) (by omega)).mono ?_;rintro e w2 ⟨rfl,hat,hmv⟩;have HA:=lh hat;have HM:=lh hmv;clear hat hmv;go_wp2_with fail;go_end0
   obtain ⟨g',h1,h2⟩:=HA.out;rw [HE.out];exact ⟨rfl,⟨g',h1,by rw [HD.out.heap] at h2;exact h2⟩,((Mv.refl w b g).drawn HD.out).trans HM.out (.inl rfl)⟩
  ·have HE:Hid (s.narrow=s):=lh (if_neg (fun k=>d k.2))
   have d1:decide ((s.cnt:Int)≤(s.pl.length:Int) / 4)=false:=by simp;omega
   go_enter func264,ntmps264;go_wp2_with fail;go_quiet (fail)
   have HD:Hid (aB w (w.drewN nq)):=lh ⟨nq,rfl⟩;go_wp2_with fail;go_end0
   rw [HE.out];exact ⟨rfl,⟨g,cF.drawn HD.out HH.out,.inl rfl⟩,(Mv.refl w b g).drawn HD.out⟩
 ·have HE:Hid (s.narrow=s):=lh (if_neg (fun k=>a k.1))
  have d0:decide ((0:Int) < (s.cnt:Int))=false:=by simp;omega
  have d1:decide (0 < s.cnt)=false:=by simp;omega
  go_enter func264,ntmps264;go_wp2_with fail;go_quiet (fail)
  have HD:Hid (aB w (w.drewN nq)):=lh ⟨nq,rfl⟩;go_wp2_with fail;go_end0
  rw [HE.out];exact ⟨rfl,⟨g,cF.drawn HD.out HH.out,.inl rfl⟩,(Mv.refl w b g).drawn HD.out⟩
def cN (x:Pk) (ok:Bool):Ending:=.returned (.tuple #[x.agg,.bool ok])
theorem jM:(∀(b g i:Nat) (s:QS Pk) (w:World) (h:cF w b g s) (ho:s.ok) (hp:0 < s.pl.length) (hi:i≤100000),Calls prog 263 #[↑(π b),.int .i64 (i:Int)] w (wF w b g (s.put i Itm.z)))∧(∀(b g i:Nat) (s:QS Pk) (w:World) (h:cF w b g s) (ho:s.ok) (hi:i < s.cnt),Calls prog 188 #[↑(π b),.int .i64 (i:Int)] w fun e w'=>e=cN (s.get i) true∧Below ↑w w w'):=by
 refine ⟨?_,?_⟩
 have k0v:Hid True:=trivial;intro b g i s w h ho hp hi;rotate_left;have k1v:Hid True:=trivial;intro b g i s w h ho hi;rotate_left
 all_goals
  first
  |revert k0v;intro k0v;have HN:=lh h.ne;have HO:=lh ho;have HB:=lh (show Blk (w.alloc (.cells #[↑ζ,↑ζ,↑ζ,↑ζ,↑ζ,↑ζ,.bool false] 73)) w.heap.size 73 (Itm.cs (Itm.z (α:=Pk))).toArray from Blk.new _ _ _)
  |have HO:=lh ho;have HB:=lh (show Blk (w.alloc (.cells #[↑ζ,↑ζ,↑ζ,↑ζ,↑ζ,↑ζ,.bool false] 73)) w.heap.size 73 #[↑ζ,↑ζ,↑ζ,↑ζ,↑ζ,↑ζ,.bool false] from Blk.new _ _ _)
  have HH:=lh (h.alloc (.cells #[↑ζ,↑ζ,↑ζ,↑ζ,↑ζ,↑ζ,.bool false] 73));first
  |revert k0v;intro k0v;have HW:Hid (Mv w (w.alloc (.cells #[↑ζ,↑ζ,↑ζ,↑ζ,↑ζ,↑ζ,.bool false] 73)) b g):=lh ((Mv.refl w b g).alloc _);have HZ:Hid (w.heap.size≠g):=lh (Ne.symm h.body.old);have hpl:=QS.pos_lt hp i;have HP:=lh (fun (w:World) h=>fO b g i s w h ho hp hi)
  |have HW:Hid (Below ↑w w (w.alloc (.cells #[↑ζ,↑ζ,↑ζ,↑ζ,↑ζ,↑ζ,.bool false] 73))):=lh ((Below.refl _ _).alloc (Nat.le_refl _) _);have HZ:Hid (g≠w.heap.size):=lh h.body.old;have HZ2:Hid (b≠w.heap.size):=lh h.head.old;have hp:0 < s.pl.length:=by have:=ho.c;omega
   have hpl:=QS.pos_lt hp i;have hc:=ho.c;have hm:=ho.m;have a0:=HH.out.head.drew.cell (i:=0) (v:=.slice (some ⟨g,0,none⟩) s.pl.length s.pl.length) rfl;have r0:(w.alloc (.cells #[↑ζ,↑ζ,↑ζ,↑ζ,↑ζ,↑ζ,.bool false] 73)).drew.rangeAt g (s.pos i * 7) (Itm.cs (s.get i)):=HH.out.body.drew.range (k:=7) rfl hpl;have t0:(w.alloc (.cells #[↑ζ,↑ζ,↑ζ,↑ζ,↑ζ,↑ζ,.bool false] 73)).drew.there w.heap.size 0 7:=HB.out.drew.there (by decide);have HP:=lh (fun (w:World) h=>fO b g i s w h HO.out hp (by omega));have HL:=lh (BX b g s (w.alloc (.cells #[↑ζ,↑ζ,↑ζ,↑ζ,↑ζ,↑ζ,.bool false] 73)) HH.out);have HX:Hid (cN (s.get i) true=.returned (.tuple #[.agg (Itm.cs (s.get i)).toArray,.bool true])):=lh rfl
  have i3:(0:Int)≤((s.pos i:Nat):Int):=by omega
  have i4:((s.pos i:Nat):Int) < (s.pl.length:Int):=by omega
  first
  |revert k0v;intro k0v;have HS:Hid ((s.put i Itm.z).pl=s.pl.set (s.pos i) Itm.z):=lh rfl;have hu:=underlying73;have hl:(Itm.cs (Itm.z (α:=Pk))).length=7:=Itm.len _;have h1:∀v∈Itm.cs (Itm.z (α:=Pk)),v.oneCell'=true:=Itm.one _;have a0:=HH.out.head.drew.cell (i:=0) (v:=.slice (some ⟨g,0,none⟩) s.pl.length s.pl.length) rfl;have r0:=HB.out.drew.range0;have t0:=HH.out.body.drew.therei (k:=7) rfl hpl;clear h ho hi;have hi:=kQ Itm.z;generalize s.pos i=p at *;generalize hzc:Itm.cs (Itm.z (α:=Pk))=zc at *;have HC:=lh hzc;clear hzc;go_enter func263,ntmps263;go_wp2_with fail
  |have d0:decide ((i:Int) < 0)=false:=by simp
   have d1:decide (s.cnt≤i)=false:=by simp;omega
   have hu:=underlying73;have hl:(Itm.cs (s.get i)).length=7:=Itm.len _;have h1:∀v∈Itm.cs (s.get i),v.oneCell'=true:=Itm.one _;clear h ho hi;have hi:=kQ (s.get i);generalize cN (s.get i) true=ans at *;generalize Itm.cs (s.get i)=xc at *;generalize s.pos i=p at *;go_enter func188,ntmps188;go_wp2_with (go_at_call 243;refine (HL.out).mono ?_;rintro e w' ⟨rfl,rfl⟩)
  generalize (w.alloc (.cells #[↑ζ,↑ζ,↑ζ,↑ζ,↑ζ,↑ζ,.bool false] 73))=wa at *;first
  |revert k1v;intro k1v;refine rhd (S:=(fun w'=>w'.cell? ⟨b,0,none⟩=some (.slice (some ⟨g,0,none⟩) s.pl.length s.pl.length)∧w'.rangeAt g (p * 7) xc∧w'.there w.heap.size 0 7)) ⟨a0,r0,t0⟩ (fun hHeld=>?_);refine tkc 0 ?_;refine tkc 1 ?_;refine tkc 2 ?_;refine wpAnyH_take (i:=3) (oi:=⟨some 18,_,_,_,_,_⟩) (v:=?v23) rfl (by kernel_rfl) (by kernel_rfl) (by kernel_rfl) (fun _ _ _ h=>h) (Or.inl ⟨by rfl,?y23⟩) (by assumption) ?r23;case y23=>intro w hSw;obtain ⟨s0,s1,s2⟩:=hSw;go_simp;(try with_reducible rfl)
  |have HK:Hid (w.heap.size=w.heap.size):=lh rfl;refine rhd (S:=(fun w'=>w'.cell? ⟨b,0,none⟩=some (.slice (some ⟨g,0,none⟩) s.pl.length s.pl.length)∧w'.rangeAt w.heap.size 0 zc∧w'.there g (p * 7) 7)) ⟨a0,r0,t0⟩ (fun hHeld=>?_);refine' wpAnyH_take (i:=7) (oi:=⟨some 12,_,_,_,_,_⟩) (v:=_) rfl (by kernel_rfl) (by kernel_rfl) (by kernel_rfl) (fun _ _ _ h=>h) (yieldsIf_load_mid (by rfl) _ _ rfl _ _ rfl _ _ ?hS1 hu rfl hi) (by assumption) ?r1;case hS1=>intro w hSw;exact hSw.2.1
   simp only [Act.put,List.setIfInBounds_toArray,List.set_cons_zero,List.set_cons_succ];refine tkc 0 ?_;refine tkc 1 ?_;refine tkc 2 ?_;refine wpAnyH_take (i:=3) (oi:=⟨some 8,_,_,_,_,_⟩) (v:=?v5) rfl (by kernel_rfl) (by kernel_rfl) (by kernel_rfl) (fun _ _ _ h=>h) (Or.inl ⟨by rfl,?y5⟩) (by assumption) ?r5;case y5=>intro w hSw;obtain ⟨s0,s1,s2⟩:=hSw;go_simp;(try with_reducible rfl)
  simp only [Act.put,List.setIfInBounds_toArray,List.set_cons_zero,List.set_cons_succ];refine tkc 4 ?_;refine tkc 5 ?_;refine rdy [6] ?_;refine cns (fun K hK=>?_) .nil;go_simp;refine (HP.out _ (cF.drawn (aB.drew wa) HH.out)).mono ?_;rintro e w' ⟨rfl,hd⟩;have HD:=lh hd;clear hd;have b0:=(HD.out.cell _).trans a0;have r1:=dM HD.out r0;have t1:=dN HD.out t0;go_wp2_with fail;refine bck hK ⟨b0,r1,t1⟩ (fun hHeld=>?_);clear hK;first
  |revert k0v;intro k0v;refine tkc 8 ?_
  |refine tkc 7 ?_;refine' wpAnyH_take (i:=8) (oi:=⟨some 23,_,_,_,_,_⟩) (v:=_) rfl (by kernel_rfl) (by kernel_rfl) (by kernel_rfl) (fun _ _ _ h=>h) (yieldsIf_load_mid (by rfl) _ _ rfl _ _ rfl _ _ ?hS27 hu rfl hi) (by assumption) ?r27;case hS27=>intro w hSw;exact hSw.2.1
   simp only [Act.put,List.setIfInBounds_toArray,List.set_cons_zero,List.set_cons_succ]
  refine rdy [9] ?_;refine cns (fun K hK=>?_) .nil;rw [if_pos (by rfl)];refine wp_store_mid _ _ _ rfl _ _ (List.toArray _) rfl rfl (by have e:=hl;rw [← List.size_toArray] at e;rw [e];exact t1) (by rw [List.size_toArray];exact hi) (all_oneCell_toArray h1) ?_;dsimp only;first
  |revert k1v;intro k1v;refine bck hK ⟨bA b0 HZ2.out,World.rangeAt_setCells_apart r1 _ _ _ (.inl HZ.out),World.there_setCells t1 _ _ _⟩ (fun hHeld=>?_);clear hK;refine tkc 10 ?_;refine wpAnyH_done (by kernel_rfl) ?_ _;have hD:aB wa w':=(aB.drew wa).more HD.out;have F1:Blk (w'.setCells w.heap.size 0 xc) w.heap.size 73 xc.toArray:=Blk.whole xc (hD.blk HB.out) hl;have F2:Below ↑w w (w'.setCells w.heap.size 0 xc):=Below.sets (Nat.le_refl _) xc 0 w' (HW.out.trans (hD.below _));go_wp2_with fail;rw [HX.out];exact bodyPost_ret (aF rfl _ _ w.heap.size 73 _ _ rfl F1 underlying73 rfl (by rw [List.size_toArray];exact hi)) rfl ⟨rfl,F2⟩
  |refine bck hK ⟨bA b0 HN.out,World.rangeAt_setCells_apart r1 g _ _ (.inl HZ.out),World.there_setCells t1 _ _ _⟩ (fun hHeld=>?_);clear hK;refine wpAnyH_done (by kernel_rfl) ?_ _;go_end0;have hD:aB wa w':=(aB.drew wa).more HD.out;have hpl':p < s.pl.length:=hpl;refine ⟨rfl,⟨?_,?_⟩,Mv.sets (.inr (.inl rfl)) zc (p * 7) w' (HW.out.drawn hD)⟩
   ·have:=Blk.sets_other HN.out zc (p * 7) w' (hD.blk HH.out.head);have e:dR (s.put i Itm.z) g=dR s g:=by simp [dR,QS.put]
    rw [e];exact this
   ·have:=Blk.sets zc (p * 7) w' _ (hD.blk HH.out.body);have e:=bN s.pl p (Itm.z (α:=Pk)) hpl';rw [HC.out] at e;rw [show p * 7=p * Itm.k Pk from rfl,e,← HS.out] at this;exact this
theorem oJ (b g:Nat) (i:Int) (s:QS Pk) (w:World) (h:cF w b g s) (hi:i < 0∨(s.cnt:Int)≤i):
  Calls prog 188 #[↑(π b),.int .i64 i] w fun e w'=>e=cN Itm.z false∧Below ↑w w w':=by
 have HH:=lh (h.alloc (.cells #[↑ζ,↑ζ,↑ζ,↑ζ,↑ζ,↑ζ,.bool false] 73));have HL:=lh (BX b g s (w.alloc (.cells #[↑ζ,↑ζ,↑ζ,↑ζ,↑ζ,↑ζ,.bool false] 73)) HH.out);have HB:=lh (show Blk (w.alloc (.cells #[↑ζ,↑ζ,↑ζ,↑ζ,↑ζ,↑ζ,.bool false] 73)) w.heap.size 73 #[↑ζ,↑ζ,↑ζ,↑ζ,↑ζ,↑ζ,.bool false] from Blk.new _ _ _);have HW:Hid (Below ↑w w (w.alloc (.cells #[↑ζ,↑ζ,↑ζ,↑ζ,↑ζ,↑ζ,.bool false] 73))):=lh ((Below.refl _ _).alloc (Nat.le_refl _) _);clear h;by_cases c:i < 0
 ·have d0:decide (i < 0)=true:=by simpa using c
  go_enter func188,ntmps188;go_wp2_with (go_at_call 243;refine (HL.out).mono ?_;rintro e w' ⟨rfl,rfl⟩)
  exact bodyPost_ret (aF rfl _ _ w.heap.size 73 _ _ rfl HB.out underlying73 rfl (by kernel_rfl)) rfl ⟨rfl,HW.out⟩
 ·have d0:decide (i < 0)=false:=by simpa using c
  have hj:(s.cnt:Int)≤i:=by omega
  have d1:decide ((s.cnt:Int)≤i)=true:=by simpa using hj
  clear hi;go_enter func188,ntmps188;go_wp2_with (go_at_call 243;refine (HL.out).mono ?_;rintro e w' ⟨rfl,rfl⟩)
  exact bodyPost_ret (aF rfl _ _ w.heap.size 73 _ _ rfl HB.out underlying73 rfl (by kernel_rfl)) rfl ⟨rfl,HW.out⟩

theorem IM (b g:Nat) (x:Pk) (s:QS Pk) (w:World) (h:cF w b g s) (ho:s.ok) (hk:s.cnt≤5500):
  Calls prog 248 #[↑(π b),x.agg] w (gQ w b g (.returned (.tuple #[])) (s.push x)):=by
 unfold Pk.agg;have HO:=lh ho;have HH:=lh (h.alloc (.cells #[↑x.n,↑x.size,↑x.sent,↑x.first,↑x.deliv,↑x.at_,.bool x.lim] 73));have HX:=lh (show Blk (w.alloc (.cells #[↑x.n,↑x.size,↑x.sent,↑x.first,↑x.deliv,↑x.at_,.bool x.lim] 73)) w.heap.size 73 (Itm.cs x).toArray from Blk.new _ _ _);have HM:Hid (Mv w (w.alloc (.cells #[↑x.n,↑x.size,↑x.sent,↑x.first,↑x.deliv,↑x.at_,.bool x.lim] 73)) b g):=lh ((Mv.refl w b g).alloc _);have HS1:Hid ((w.alloc (.cells #[↑x.n,↑x.size,↑x.sent,↑x.first,↑x.deliv,↑x.at_,.bool x.lim] 73)).heap.size=w.heap.size + 1):=lh (by simp);have b0:=HH.out.head.cell (i:=0) (v:=.slice (some ⟨g,0,none⟩) s.pl.length s.pl.length) rfl;have b2:=HH.out.head.cell (i:=2) (v:=.int .i64 (s.cnt:Int)) rfl;have hm:=ho.m;have hc:=ho.c;have HZb:Hid (w.heap.size≠b):=lh (Ne.symm h.head.old);have HZg:Hid (w.heap.size≠g):=lh (Ne.symm h.body.old);clear h ho;have hu:=underlying73;have hl:(Itm.cs x).length=7:=Itm.len _;have h1:∀v∈Itm.cs x,v.oneCell'=true:=Itm.one _;have hi:=kQ x;generalize hxc:Itm.cs x=xc at *;have HC:=lh hxc;clear hxc;by_cases a:s.cnt=s.pl.length
 ·by_cases z0:1≤s.cnt
  ·have HE:Hid (s.wide=s.move (2 * s.cnt)):=lh (by unfold QS.wide;rw [if_pos a];congr 1;omega)
   have z1:(1:Int) < 2 * (s.cnt:Int):=by omega
   have d1:(s.cnt == s.pl.length)=true:=by simpa using a
   have HA:=lh a;clear a;go_enter func248,ntmps248;go_wp2_with fail;generalize (w.alloc (.cells #[↑x.n,↑x.size,↑x.sent,↑x.first,↑x.deliv,↑x.at_,.bool x.lim] 73))=w0 at *;go_quiet (fail)
   have HD:Hid (aB w0 (w0.drewN nq)):=lh ⟨nq,rfl⟩;have q2:=(HD.out.cell _).trans b2;generalize w0.drewN nq=w1 at *;go_wp2_with fail;have HC:Hid (Calls prog 269 #[↑(π b),.int .i64 (2 * (s.cnt:Int))] w1 (gQ w1 b g (.returned (.tuple #[])) (s.move (2 * s.cnt)))):=lh (by have:=pQ b g (2 * s.cnt) s w1 (cF.drawn HD.out HH.out) HO.out (by omega) (by omega);rw [show ((2 * s.cnt:Nat):Int)=2 * (s.cnt:Int) from by omega] at this;exact this);refine (HC.out).mono ?_;rintro e w2 ⟨rfl,hat,hmv⟩;obtain ⟨g2,hg2,hgq⟩:=hat;rw [← HE.out] at hg2;have HG:=lh hg2;have HX2:=lh ((HD.out.blk HX.out).mv hmv HZb.out HZg.out);have HM2:=lh ((HM.out.drawn HD.out).trans hmv (.inl rfl));have HQ:Hid (g2=g∨w.heap.size < g2):=lh (by have:=HS1.out;rw [HD.out.heap] at hgq;omega);have HZ:Hid (w.heap.size≠g2):=lh (by have:=HQ.out;have:=HZg.out;omega);clear hg2 hgq hmv q2 HE b0 b2 HD HC z1 HX;have HX:=HX2;clear HX2;replace HQ:Hid (g2=g∨w.heap.size≤g2):=lh (by have:=HQ.out;omega);have HO2:=lh (QS.wide_ok HO.out hk);have HC2:=lh (QS.wide_cnt s);have HR2:=lh (QS.wide_room HO.out);have HPU:Hid (s.push x=⟨s.wide.pl.set (s.wide.pos s.cnt) x,s.wide.first,s.cnt + 1⟩):=lh rfl;generalize s.wide=t at *;generalize s.push x=u at *;obtain ⟨t1,t2,t3⟩:=t;obtain rfl:t3=s.cnt:=HC2.out;have hr:s.cnt < t1.length:=HR2.out;have hpl:=QS.pos_lt (s:=⟨t1,t2,s.cnt⟩) (by show 0 < t1.length;omega) s.cnt;have a0:=HG.out.head.drew.cell (i:=0) (v:=.slice (some ⟨g2,0,none⟩) t1.length t1.length) rfl;have a2:=HG.out.head.drew.cell (i:=2) (v:=.int .i64 (s.cnt:Int)) rfl;have r0:=HX.out.drew.range0;have t0:w2.drew.there g2 (QS.pos ⟨t1,t2,s.cnt⟩ s.cnt * 7) 7:=HG.out.body.drew.therei (k:=7) rfl hpl;have HN2:=lh HG.out.ne;have HP:=lh (fun (w:World) h=>fO b g2 s.cnt ⟨t1,t2,s.cnt⟩ w h HO2.out (by show 0 < t1.length;omega) (by omega));have i3:(0:Int)≤((QS.pos ⟨t1,t2,s.cnt⟩ s.cnt:Nat):Int):=by omega
   have i4:((QS.pos ⟨t1,t2,s.cnt⟩ s.cnt:Nat):Int) < (t1.length:Int):=by exact_mod_cast hpl
   have i5:QS.pos ⟨t1,t2,s.cnt⟩ s.cnt < t1.length:=hpl;clear hpl;generalize QS.pos ⟨t1,t2,s.cnt⟩ s.cnt=p at *;go_wp2_with fail;refine rhd (S:=(fun w'=>w'.cell? ⟨b,0,none⟩=some (.slice (some ⟨g2,0,none⟩) t1.length t1.length)∧w'.cell? ⟨b,2,none⟩=some (.int .i64 (s.cnt:Int))∧w'.rangeAt w.heap.size 0 xc∧w'.there g2 (p * 7) 7)) ⟨a0,a2,r0,t0⟩ (fun hHeld=>?_);refine' wpAnyH_take (i:=10) (oi:=⟨some 34,_,_,_,_,_⟩) (v:=_) rfl (by kernel_rfl) (by kernel_rfl) (by kernel_rfl) (fun _ _ _ h=>h) (yieldsIf_load_mid (by rfl) _ _ rfl _ _ rfl _ _ ?hS29 hu rfl hi) (by assumption) ?r29
   case hS29=>intro w hSw;exact hSw.2.2.1
   simp only [Act.put,List.setIfInBounds_toArray,List.set_cons_zero,List.set_cons_succ];refine tkc 0 ?_;refine tkc 1 ?_;refine tkc 2 ?_;refine wpAnyH_take (i:=3) (oi:=⟨some 27,_,_,_,_,_⟩) (v:=?v33) rfl (by kernel_rfl) (by kernel_rfl) (by kernel_rfl) (fun _ _ _ h=>h) (Or.inl ⟨by rfl,?y33⟩) (by assumption) ?r33
   case y33=>intro w hSw;obtain ⟨s0,s1,s2,s3⟩:=hSw;go_simp;(try with_reducible rfl)
   simp only [Act.put,List.setIfInBounds_toArray,List.set_cons_zero,List.set_cons_succ];refine tkc 4 ?_;refine tkc 5 ?_;refine tkc 6 ?_;refine tkc 7 ?_;refine wpAnyH_take (i:=8) (oi:=⟨some 32,_,_,_,_,_⟩) (v:=?v38) rfl (by kernel_rfl) (by kernel_rfl) (by kernel_rfl) (fun _ _ _ h=>h) (Or.inl ⟨by rfl,?y38⟩) (by assumption) ?r38
   case y38=>intro w hSw;obtain ⟨s0,s1,s2,s3⟩:=hSw;go_simp;(try with_reducible rfl)
   simp only [Act.put,List.setIfInBounds_toArray,List.set_cons_zero,List.set_cons_succ];refine rdy [9] ?_;refine cns (fun K hK=>?_) .nil;go_simp;refine (HP.out _ (cF.drawn (aB.drew w2) HG.out)).mono ?_;rintro e w' ⟨rfl,hd⟩;have HD:=lh hd;clear hd;have b0:=(HD.out.cell _).trans a0;have b2:=(HD.out.cell _).trans a2;have r1:=dM HD.out r0;have t1_:=dN HD.out t0;go_wp2_with fail;refine bck hK ⟨b0,b2,r1,t1_⟩ (fun hHeld=>?_);clear hK;refine tkc 11 ?_;refine rdy [12] ?_;refine cns (fun K hK=>?_) .nil;rw [if_pos (by rfl)];refine wp_store_mid _ _ _ rfl _ _ (List.toArray _) rfl rfl (by have e:=hl;rw [← List.size_toArray] at e;rw [e];exact t1_) (by rw [List.size_toArray];exact hi) (all_oneCell_toArray h1) ?_;dsimp only
   refine bck hK ⟨bA b0 HN2.out,bA b2 HN2.out,World.rangeAt_setCells_apart r1 _ _ _ (.inl HZ.out),World.there_setCells t1_ _ _ _⟩ (fun hHeld=>?_);clear hK;refine wpAnyH_done (by kernel_rfl) ?_ _;have hD:aB w2 w':=(aB.drew w2).more HD.out;have F1:Hid (Blk (w'.setCells g2 (p * 7) xc) g2 73 (aJ (t1.set p x))):=lh (by
    have:=Blk.sets xc (p * Itm.k Pk) w' _ (hD.blk HG.out.body);have e:=bN t1 p x i5;rw [HC.out] at e;rw [e] at this;exact this)
   have F2:Hid (Blk (w'.setCells g2 (p * 7) xc) b 296 (dR ⟨t1,t2,s.cnt⟩ g2)):=lh (Blk.sets_other HN2.out xc (p * 7) w' (hD.blk HG.out.head));have F3:Hid (Mv w (w'.setCells g2 (p * 7) xc) b g):=lh (Mv.sets (by have:=HQ.out;omega) xc (p * 7) w' (HM2.out.drawn hD));generalize (w'.setCells g2 (p * 7) xc)=w3 at *;clear a0 a2 b0 b2 r0 r1 t0 t1_ hHeld hD HD HP i3 i4 i5;have m2:=F2.out.cell (i:=2) (v:=.int .i64 (s.cnt:Int)) rfl;have n2:=F2.out.free 2;go_wp2_with fail;go_end0
   refine ⟨rfl,⟨g2,⟨?_,?_⟩,HQ.out⟩,F3.out.set (.inl rfl) _ _⟩
   ·have:=F2.out.set 2 (.int .i64 ((s.cnt:Int) + 1))
    rw [HPU.out];simpa [dR] using this
   ·rw [HPU.out]
    exact F1.out.set_other _ _ (Ne.symm HN2.out)
  ·have HE:Hid (s.wide=s.move 1):=lh (by unfold QS.wide;rw [if_pos a];congr 1;omega)
   have z1:2 * (s.cnt:Int)≤1:=by omega
   have d1:(s.cnt == s.pl.length)=true:=by simpa using a
   have HA:=lh a;clear a;go_enter func248,ntmps248;go_wp2_with fail;generalize (w.alloc (.cells #[↑x.n,↑x.size,↑x.sent,↑x.first,↑x.deliv,↑x.at_,.bool x.lim] 73))=w0 at *;go_quiet (fail)
   have HD:Hid (aB w0 (w0.drewN nq)):=lh ⟨nq,rfl⟩;have q2:=(HD.out.cell _).trans b2;generalize w0.drewN nq=w1 at *;go_wp2_with fail;have HC:Hid (Calls prog 269 #[↑(π b),.int .i64 1] w1 (gQ w1 b g (.returned (.tuple #[])) (s.move 1))):=lh (by have:=pQ b g 1 s w1 (cF.drawn HD.out HH.out) HO.out (by omega) (by omega);exact this);refine (HC.out).mono ?_;rintro e w2 ⟨rfl,hat,hmv⟩;obtain ⟨g2,hg2,hgq⟩:=hat;rw [← HE.out] at hg2;have HG:=lh hg2;have HX2:=lh ((HD.out.blk HX.out).mv hmv HZb.out HZg.out);have HM2:=lh ((HM.out.drawn HD.out).trans hmv (.inl rfl));have HQ:Hid (g2=g∨w.heap.size < g2):=lh (by have:=HS1.out;rw [HD.out.heap] at hgq;omega);have HZ:Hid (w.heap.size≠g2):=lh (by have:=HQ.out;have:=HZg.out;omega);clear hg2 hgq hmv q2 HE b0 b2 HD HC z1 HX;have HX:=HX2;clear HX2;replace HQ:Hid (g2=g∨w.heap.size≤g2):=lh (by have:=HQ.out;omega);have HO2:=lh (QS.wide_ok HO.out hk);have HC2:=lh (QS.wide_cnt s);have HR2:=lh (QS.wide_room HO.out);have HPU:Hid (s.push x=⟨s.wide.pl.set (s.wide.pos s.cnt) x,s.wide.first,s.cnt + 1⟩):=lh rfl;generalize s.wide=t at *;generalize s.push x=u at *;obtain ⟨t1,t2,t3⟩:=t;obtain rfl:t3=s.cnt:=HC2.out;have hr:s.cnt < t1.length:=HR2.out;have hpl:=QS.pos_lt (s:=⟨t1,t2,s.cnt⟩) (by show 0 < t1.length;omega) s.cnt;have a0:=HG.out.head.drew.cell (i:=0) (v:=.slice (some ⟨g2,0,none⟩) t1.length t1.length) rfl;have a2:=HG.out.head.drew.cell (i:=2) (v:=.int .i64 (s.cnt:Int)) rfl;have r0:=HX.out.drew.range0;have t0:w2.drew.there g2 (QS.pos ⟨t1,t2,s.cnt⟩ s.cnt * 7) 7:=HG.out.body.drew.therei (k:=7) rfl hpl;have HN2:=lh HG.out.ne;have HP:=lh (fun (w:World) h=>fO b g2 s.cnt ⟨t1,t2,s.cnt⟩ w h HO2.out (by show 0 < t1.length;omega) (by omega));have i3:(0:Int)≤((QS.pos ⟨t1,t2,s.cnt⟩ s.cnt:Nat):Int):=by omega
   have i4:((QS.pos ⟨t1,t2,s.cnt⟩ s.cnt:Nat):Int) < (t1.length:Int):=by exact_mod_cast hpl
   have i5:QS.pos ⟨t1,t2,s.cnt⟩ s.cnt < t1.length:=hpl;clear hpl;generalize QS.pos ⟨t1,t2,s.cnt⟩ s.cnt=p at *;go_wp2_with fail;refine rhd (S:=(fun w'=>w'.cell? ⟨b,0,none⟩=some (.slice (some ⟨g2,0,none⟩) t1.length t1.length)∧w'.cell? ⟨b,2,none⟩=some (.int .i64 (s.cnt:Int))∧w'.rangeAt w.heap.size 0 xc∧w'.there g2 (p * 7) 7)) ⟨a0,a2,r0,t0⟩ (fun hHeld=>?_);refine' wpAnyH_take (i:=10) (oi:=⟨some 34,_,_,_,_,_⟩) (v:=_) rfl (by kernel_rfl) (by kernel_rfl) (by kernel_rfl) (fun _ _ _ h=>h) (yieldsIf_load_mid (by rfl) _ _ rfl _ _ rfl _ _ ?hS40 hu rfl hi) (by assumption) ?r40
   case hS40=>intro w hSw;exact hSw.2.2.1
   simp only [Act.put,List.setIfInBounds_toArray,List.set_cons_zero,List.set_cons_succ];refine tkc 0 ?_;refine tkc 1 ?_;refine tkc 2 ?_;refine wpAnyH_take (i:=3) (oi:=⟨some 27,_,_,_,_,_⟩) (v:=?v44) rfl (by kernel_rfl) (by kernel_rfl) (by kernel_rfl) (fun _ _ _ h=>h) (Or.inl ⟨by rfl,?y44⟩) (by assumption) ?r44
   case y44=>intro w hSw;obtain ⟨s0,s1,s2,s3⟩:=hSw;go_simp;(try with_reducible rfl)
   simp only [Act.put,List.setIfInBounds_toArray,List.set_cons_zero,List.set_cons_succ];refine tkc 4 ?_;refine tkc 5 ?_;refine tkc 6 ?_;refine tkc 7 ?_;refine wpAnyH_take (i:=8) (oi:=⟨some 32,_,_,_,_,_⟩) (v:=?v49) rfl (by kernel_rfl) (by kernel_rfl) (by kernel_rfl) (fun _ _ _ h=>h) (Or.inl ⟨by rfl,?y49⟩) (by assumption) ?r49
   case y49=>intro w hSw;obtain ⟨s0,s1,s2,s3⟩:=hSw;go_simp;(try with_reducible rfl)
   simp only [Act.put,List.setIfInBounds_toArray,List.set_cons_zero,List.set_cons_succ];refine rdy [9] ?_;refine cns (fun K hK=>?_) .nil;go_simp;refine (HP.out _ (cF.drawn (aB.drew w2) HG.out)).mono ?_;rintro e w' ⟨rfl,hd⟩;have HD:=lh hd;clear hd;have b0:=(HD.out.cell _).trans a0;have b2:=(HD.out.cell _).trans a2;have r1:=dM HD.out r0;have t1_:=dN HD.out t0;go_wp2_with fail;refine bck hK ⟨b0,b2,r1,t1_⟩ (fun hHeld=>?_);clear hK;refine tkc 11 ?_;refine rdy [12] ?_;refine cns (fun K hK=>?_) .nil;rw [if_pos (by rfl)];refine wp_store_mid _ _ _ rfl _ _ (List.toArray _) rfl rfl (by have e:=hl;rw [← List.size_toArray] at e;rw [e];exact t1_) (by rw [List.size_toArray];exact hi) (all_oneCell_toArray h1) ?_;dsimp only
   refine bck hK ⟨bA b0 HN2.out,bA b2 HN2.out,World.rangeAt_setCells_apart r1 _ _ _ (.inl HZ.out),World.there_setCells t1_ _ _ _⟩ (fun hHeld=>?_);clear hK;refine wpAnyH_done (by kernel_rfl) ?_ _;have hD:aB w2 w':=(aB.drew w2).more HD.out;have F1:Hid (Blk (w'.setCells g2 (p * 7) xc) g2 73 (aJ (t1.set p x))):=lh (by
    have:=Blk.sets xc (p * Itm.k Pk) w' _ (hD.blk HG.out.body);have e:=bN t1 p x i5;rw [HC.out] at e;rw [e] at this;exact this)
   have F2:Hid (Blk (w'.setCells g2 (p * 7) xc) b 296 (dR ⟨t1,t2,s.cnt⟩ g2)):=lh (Blk.sets_other HN2.out xc (p * 7) w' (hD.blk HG.out.head));have F3:Hid (Mv w (w'.setCells g2 (p * 7) xc) b g):=lh (Mv.sets (by have:=HQ.out;omega) xc (p * 7) w' (HM2.out.drawn hD));generalize (w'.setCells g2 (p * 7) xc)=w3 at *;clear a0 a2 b0 b2 r0 r1 t0 t1_ hHeld hD HD HP i3 i4 i5;have m2:=F2.out.cell (i:=2) (v:=.int .i64 (s.cnt:Int)) rfl;have n2:=F2.out.free 2;go_wp2_with fail;go_end0
   refine ⟨rfl,⟨g2,⟨?_,?_⟩,HQ.out⟩,F3.out.set (.inl rfl) _ _⟩
   ·have:=F2.out.set 2 (.int .i64 ((s.cnt:Int) + 1))
    rw [HPU.out];simpa [dR] using this
   ·rw [HPU.out]
    exact F1.out.set_other _ _ (Ne.symm HN2.out)
 ·have HE:Hid (s.wide=s):=lh (if_neg a)
  have d1:(s.cnt == s.pl.length)=false:=by simpa using a
  have HA:=lh a;clear a;go_enter func248,ntmps248;go_wp2_with fail;generalize (w.alloc (.cells #[↑x.n,↑x.size,↑x.sent,↑x.first,↑x.deliv,↑x.at_,.bool x.lim] 73))=w0 at *;go_quiet (fail)
  have HD:Hid (aB w0 (w0.drewN nq)):=lh ⟨nq,rfl⟩;have q2:=(HD.out.cell _).trans b2;have HG:Hid (cF (w0.drewN nq) b g s.wide):=lh (by rw [HE.out];exact cF.drawn HD.out HH.out);have HM2:=lh (HM.out.drawn HD.out);have HX2:=lh (HD.out.blk HX.out);obtain ⟨g2,hg2⟩:∃g2,g2=g:=⟨_,rfl⟩;have HQ:Hid (g2=g∨w.heap.size≤g2):=lh (.inl hg2);have HZ:Hid (w.heap.size≠g2):=lh (by have:=HZg.out;omega);rw [← hg2] at HG;generalize w0.drewN nq=w2 at *;clear hg2 HE b0 b2 HD q2 HX;have HX:=HX2;clear HX2;have HO2:=lh (QS.wide_ok HO.out hk);have HC2:=lh (QS.wide_cnt s);have HR2:=lh (QS.wide_room HO.out);have HPU:Hid (s.push x=⟨s.wide.pl.set (s.wide.pos s.cnt) x,s.wide.first,s.cnt + 1⟩):=lh rfl;generalize s.wide=t at *;generalize s.push x=u at *;obtain ⟨t1,t2,t3⟩:=t;obtain rfl:t3=s.cnt:=HC2.out;have hr:s.cnt < t1.length:=HR2.out;have hpl:=QS.pos_lt (s:=⟨t1,t2,s.cnt⟩) (by show 0 < t1.length;omega) s.cnt;have a0:=HG.out.head.drew.cell (i:=0) (v:=.slice (some ⟨g2,0,none⟩) t1.length t1.length) rfl;have a2:=HG.out.head.drew.cell (i:=2) (v:=.int .i64 (s.cnt:Int)) rfl;have r0:=HX.out.drew.range0;have t0:w2.drew.there g2 (QS.pos ⟨t1,t2,s.cnt⟩ s.cnt * 7) 7:=HG.out.body.drew.therei (k:=7) rfl hpl;have HN2:=lh HG.out.ne;have HP:=lh (fun (w:World) h=>fO b g2 s.cnt ⟨t1,t2,s.cnt⟩ w h HO2.out (by show 0 < t1.length;omega) (by omega));have i3:(0:Int)≤((QS.pos ⟨t1,t2,s.cnt⟩ s.cnt:Nat):Int):=by omega
  have i4:((QS.pos ⟨t1,t2,s.cnt⟩ s.cnt:Nat):Int) < (t1.length:Int):=by exact_mod_cast hpl
  have i5:QS.pos ⟨t1,t2,s.cnt⟩ s.cnt < t1.length:=hpl;clear hpl;generalize QS.pos ⟨t1,t2,s.cnt⟩ s.cnt=p at *;go_wp2_with fail;refine rhd (S:=(fun w'=>w'.cell? ⟨b,0,none⟩=some (.slice (some ⟨g2,0,none⟩) t1.length t1.length)∧w'.cell? ⟨b,2,none⟩=some (.int .i64 (s.cnt:Int))∧w'.rangeAt w.heap.size 0 xc∧w'.there g2 (p * 7) 7)) ⟨a0,a2,r0,t0⟩ (fun hHeld=>?_);refine' wpAnyH_take (i:=10) (oi:=⟨some 34,_,_,_,_,_⟩) (v:=_) rfl (by kernel_rfl) (by kernel_rfl) (by kernel_rfl) (fun _ _ _ h=>h) (yieldsIf_load_mid (by rfl) _ _ rfl _ _ rfl _ _ ?hS51 hu rfl hi) (by assumption) ?r51
  case hS51=>intro w hSw;exact hSw.2.2.1
  simp only [Act.put,List.setIfInBounds_toArray,List.set_cons_zero,List.set_cons_succ];refine tkc 0 ?_;refine tkc 1 ?_;refine tkc 2 ?_;refine wpAnyH_take (i:=3) (oi:=⟨some 27,_,_,_,_,_⟩) (v:=?v55) rfl (by kernel_rfl) (by kernel_rfl) (by kernel_rfl) (fun _ _ _ h=>h) (Or.inl ⟨by rfl,?y55⟩) (by assumption) ?r55
  case y55=>intro w hSw;obtain ⟨s0,s1,s2,s3⟩:=hSw;go_simp;(try with_reducible rfl)
  simp only [Act.put,List.setIfInBounds_toArray,List.set_cons_zero,List.set_cons_succ];refine tkc 4 ?_;refine tkc 5 ?_;refine tkc 6 ?_;refine tkc 7 ?_;refine wpAnyH_take (i:=8) (oi:=⟨some 32,_,_,_,_,_⟩) (v:=?v60) rfl (by kernel_rfl) (by kernel_rfl) (by kernel_rfl) (fun _ _ _ h=>h) (Or.inl ⟨by rfl,?y60⟩) (by assumption) ?r60
  case y60=>intro w hSw;obtain ⟨s0,s1,s2,s3⟩:=hSw;go_simp;(try with_reducible rfl)
  simp only [Act.put,List.setIfInBounds_toArray,List.set_cons_zero,List.set_cons_succ];refine rdy [9] ?_;refine cns (fun K hK=>?_) .nil;go_simp;refine (HP.out _ (cF.drawn (aB.drew w2) HG.out)).mono ?_;rintro e w' ⟨rfl,hd⟩;have HD:=lh hd;clear hd;have b0:=(HD.out.cell _).trans a0;have b2:=(HD.out.cell _).trans a2;have r1:=dM HD.out r0;have t1_:=dN HD.out t0;go_wp2_with fail;refine bck hK ⟨b0,b2,r1,t1_⟩ (fun hHeld=>?_);clear hK;refine tkc 11 ?_;refine rdy [12] ?_;refine cns (fun K hK=>?_) .nil;rw [if_pos (by rfl)];refine wp_store_mid _ _ _ rfl _ _ (List.toArray _) rfl rfl (by have e:=hl;rw [← List.size_toArray] at e;rw [e];exact t1_) (by rw [List.size_toArray];exact hi) (all_oneCell_toArray h1) ?_;dsimp only
  refine bck hK ⟨bA b0 HN2.out,bA b2 HN2.out,World.rangeAt_setCells_apart r1 _ _ _ (.inl HZ.out),World.there_setCells t1_ _ _ _⟩ (fun hHeld=>?_);clear hK;refine wpAnyH_done (by kernel_rfl) ?_ _;have hD:aB w2 w':=(aB.drew w2).more HD.out;have F1:Hid (Blk (w'.setCells g2 (p * 7) xc) g2 73 (aJ (t1.set p x))):=lh (by
   have:=Blk.sets xc (p * Itm.k Pk) w' _ (hD.blk HG.out.body);have e:=bN t1 p x i5;rw [HC.out] at e;rw [e] at this;exact this)
  have F2:Hid (Blk (w'.setCells g2 (p * 7) xc) b 296 (dR ⟨t1,t2,s.cnt⟩ g2)):=lh (Blk.sets_other HN2.out xc (p * 7) w' (hD.blk HG.out.head));have F3:Hid (Mv w (w'.setCells g2 (p * 7) xc) b g):=lh (Mv.sets (by have:=HQ.out;omega) xc (p * 7) w' (HM2.out.drawn hD));generalize (w'.setCells g2 (p * 7) xc)=w3 at *;clear a0 a2 b0 b2 r0 r1 t0 t1_ hHeld hD HD HP i3 i4 i5;have m2:=F2.out.cell (i:=2) (v:=.int .i64 (s.cnt:Int)) rfl;have n2:=F2.out.free 2;go_wp2_with fail;go_end0
  refine ⟨rfl,⟨g2,⟨?_,?_⟩,HQ.out⟩,F3.out.set (.inl rfl) _ _⟩
  ·have:=F2.out.set 2 (.int .i64 ((s.cnt:Int) + 1))
   rw [HPU.out];simpa [dR] using this
  ·rw [HPU.out]
   exact F1.out.set_other _ _ (Ne.symm HN2.out)

theorem mI:(∀(b g:Nat) (s:QS Pk) (w:World) (h:cF w b g s) (ho:s.ok) (hc:0 < s.cnt),Calls prog 240 #[↑(π b)] w (gQ w b g (cN (s.get 0) true) s.shift))∧(∀(b g:Nat) (s:QS Pk) (w:World) (h:cF w b g s) (hc:s.cnt=0),Calls prog 240 #[↑(π b)] w (gQ w b g (cN Itm.z false) s)):=by
 refine ⟨?_,?_⟩
 have k0v:Hid True:=trivial;intro b g s w h ho hc;rotate_left;have k1v:Hid True:=trivial;intro b g s w h hc;rotate_left
 all_goals
  first
  |revert k1v;intro k1v
  |have HO:=lh ho
  have HH:=lh (h.alloc (.cells #[↑ζ,↑ζ,↑ζ,↑ζ,↑ζ,↑ζ,.bool false] 73));have HB:=lh (show Blk (w.alloc (.cells #[↑ζ,↑ζ,↑ζ,↑ζ,↑ζ,↑ζ,.bool false] 73)) w.heap.size 73 #[↑ζ,↑ζ,↑ζ,↑ζ,↑ζ,↑ζ,.bool false] from Blk.new _ _ _);have HM:Hid (Mv w (w.alloc (.cells #[↑ζ,↑ζ,↑ζ,↑ζ,↑ζ,↑ζ,.bool false] 73)) b g):=lh ((Mv.refl w b g).alloc _);first
  |revert k1v;intro k1v;have HZb:Hid (b≠w.heap.size):=lh h.head.old;have HZg:Hid (g≠w.heap.size):=lh h.body.old;have HA:=lh (oJ b g 0 s (w.alloc (.cells #[↑ζ,↑ζ,↑ζ,↑ζ,↑ζ,↑ζ,.bool false] 73)) HH.out (.inr (by omega)));clear h hc
  |have HS1:Hid ((w.alloc (.cells #[↑ζ,↑ζ,↑ζ,↑ζ,↑ζ,↑ζ,.bool false] 73)).heap.size=w.heap.size + 1):=lh (by simp);have HZb:Hid (w.heap.size≠b):=lh (Ne.symm h.head.old);have HZg:Hid (w.heap.size≠g):=lh (Ne.symm h.body.old);have hp:0 < s.pl.length:=by have:=ho.c;omega
   have HA:Hid (Calls prog 188 #[↑(π b),.int .i64 0] (w.alloc (.cells #[↑ζ,↑ζ,↑ζ,↑ζ,↑ζ,↑ζ,.bool false] 73)) fun e w'=>e=cN (s.get 0) true∧Below (w.alloc (.cells #[↑ζ,↑ζ,↑ζ,↑ζ,↑ζ,↑ζ,.bool false] 73)).heap.size (w.alloc (.cells #[↑ζ,↑ζ,↑ζ,↑ζ,↑ζ,↑ζ,.bool false] 73)) w'):=lh (jM.2 b g 0 s _ HH.out ho hc);have hcl:s.cnt≤100000:=Nat.le_trans ho.c ho.m;clear h ho;generalize s.get 0=x at *
  go_enter func240,ntmps240;go_wp2_with fail;refine (HA.out).mono ?_;rintro e w1 ⟨rfl,hbel⟩;have HR1:=lh (HH.out.keep hbel);have HB1:=lh (HB.out.keep hbel);have HM1:=lh (HM.out.below hbel);first
  |revert k1v;intro k1v;clear hbel HA HH HB HM;have HX:Hid (Blk (w1.alloc (.cells #[↑ζ,↑ζ,↑ζ,↑ζ,↑ζ,↑ζ,.bool false] 73)) w1.heap.size 73 #[↑ζ,↑ζ,↑ζ,↑ζ,↑ζ,↑ζ,.bool false]):=lh (Blk.new _ _ _);have HR2:=lh (HR1.out.alloc (.cells #[↑ζ,↑ζ,↑ζ,↑ζ,↑ζ,↑ζ,.bool false] 73));have HB2:=lh (HB1.out.alloc (.cells #[↑ζ,↑ζ,↑ζ,↑ζ,↑ζ,↑ζ,.bool false] 73));have HM2:=lh (HM1.out.alloc (.cells #[↑ζ,↑ζ,↑ζ,↑ζ,↑ζ,↑ζ,.bool false] 73));have x0:=HX.out.cell (i:=0) (v:=↑ζ) rfl;have x1:=HX.out.cell (i:=1) (v:=↑ζ) rfl;have x2:=HX.out.cell (i:=2) (v:=↑ζ) rfl;have x3:=HX.out.cell (i:=3) (v:=↑ζ) rfl;have x4:=HX.out.cell (i:=4) (v:=↑ζ) rfl;have x5:=HX.out.cell (i:=5) (v:=↑ζ) rfl;have x6:=HX.out.cell (i:=6) (v:=.bool false) rfl;have r0:=HB2.out.cell (i:=0) (v:=↑ζ) rfl;have fr0:=HB2.out.free 0;have r1:=HB2.out.cell (i:=1) (v:=↑ζ) rfl;have fr1:=HB2.out.free 1;have r2:=HB2.out.cell (i:=2) (v:=↑ζ) rfl;have fr2:=HB2.out.free 2;have r3:=HB2.out.cell (i:=3) (v:=↑ζ) rfl;have fr3:=HB2.out.free 3;have r4:=HB2.out.cell (i:=4) (v:=↑ζ) rfl;have fr4:=HB2.out.free 4;have r5:=HB2.out.cell (i:=5) (v:=↑ζ) rfl;have fr5:=HB2.out.free 5;have r6:=HB2.out.cell (i:=6) (v:=.bool false) rfl;have fr6:=HB2.out.free 6;have HG:cN Itm.z false=.returned (.tuple #[.agg #[↑ζ,↑ζ,↑ζ,↑ζ,↑ζ,↑ζ,.bool false],.bool false]):=rfl;rw [HG];go_wp2_with fail;have F1:=Blk.whole (Itm.cs (Itm.z (α:=Pk))) HB2.out rfl;refine bodyPost_ret (aF rfl _ _ w.heap.size 73 _ _ rfl F1 underlying73 rfl (by kernel_rfl)) rfl ⟨rfl,⟨g,⟨?_,?_⟩,.inl rfl⟩,?_⟩
  |have HS2:Hid (w.heap.size + 1≤↑w1):=lh (by have:=hbel.size;have:=HS1.out;omega);clear hbel HA HH HB HM;unfold cN Pk.agg;go_wp2_with fail;have HX:Hid (Blk (w1.alloc (.cells #[↑x.n,↑x.size,↑x.sent,↑x.first,↑x.deliv,↑x.at_,.bool x.lim] 73)) w1.heap.size 73 #[↑x.n,↑x.size,↑x.sent,↑x.first,↑x.deliv,↑x.at_,.bool x.lim]):=lh (Blk.new _ _ _);have HR2:=lh (HR1.out.alloc (.cells #[↑x.n,↑x.size,↑x.sent,↑x.first,↑x.deliv,↑x.at_,.bool x.lim] 73));have HB2:=lh (HB1.out.alloc (.cells #[↑x.n,↑x.size,↑x.sent,↑x.first,↑x.deliv,↑x.at_,.bool x.lim] 73));have HM2:=lh (HM1.out.alloc (.cells #[↑x.n,↑x.size,↑x.sent,↑x.first,↑x.deliv,↑x.at_,.bool x.lim] 73));have HXb:Hid (w1.heap.size≠b):=lh (Ne.symm HR1.out.head.old);have HXg:Hid (w1.heap.size≠g):=lh (Ne.symm HR1.out.body.old);have HXz:Hid (w1.heap.size≠w.heap.size):=lh (by have:=HS2.out;omega);generalize (w1.alloc (.cells #[↑x.n,↑x.size,↑x.sent,↑x.first,↑x.deliv,↑x.at_,.bool x.lim] 73))=wa at *;generalize w1.heap.size=q at *;have HC:Hid (Calls prog 263 #[↑(π b),.int .i64 0] wa (wF wa b g (s.put 0 Itm.z))):=lh (jM.1 b g 0 s wa HR2.out HO.out hp (by omega));refine (HC.out).mono ?_;rintro e w2 ⟨rfl,hat,hmv⟩;have HR3:=lh hat;have HM3:=lh (HM2.out.trans hmv (.inl rfl));have HB3:=lh (HB2.out.mv hmv HZb.out HZg.out);have HX3:=lh (HX.out.mv hmv HXb.out HXg.out);clear hat hmv HC HR2 HM2 HB2 HX;go_wp2_with fail;have HC:Hid (Calls prog 244 #[↑(π b),.int .i64 1] w2 fun e w'=>e=.returned (.int .i64 ((s.pos 1:Nat):Int))∧aB w2 w'):=lh (by
    have:=fO b g 1 (s.put 0 Itm.z) w2 HR3.out (QS.put_ok HO.out 0 Itm.z) (by rw [QS.put_len];exact hp) (by omega);rw [QS.put_pos] at this;exact this)
   refine (HC.out).mono ?_;rintro e w3 ⟨rfl,hd⟩;have HR4:=lh (cF.drawn hd HR3.out);have HM4:=lh (HM3.out.drawn hd);have HB4:=lh (hd.blk HB3.out);have HX4:=lh (hd.blk HX3.out);clear hd HC HR3 HM3 HB3 HX3;have c1:=HR4.out.head.cell (i:=1) (v:=.int .i64 (s.first:Int)) rfl;have c2:=HR4.out.head.cell (i:=2) (v:=.int .i64 (s.cnt:Int)) rfl;have f1:=HR4.out.head.free 1;have f2:=HR4.out.head.free 2;go_wp2_with fail;have HR5:Hid (cF ((w3.setCell ⟨b,1,none⟩ (.int .i64 ((s.pos 1:Nat):Int))).setCell ⟨b,2,none⟩ (.int .i64 ((s.cnt:Int) - 1))) b g s.shift0):=lh ⟨by
     have:=(HR4.out.head.set 1 (.int .i64 ((s.pos 1:Nat):Int))).set 2 (.int .i64 ((s.cnt:Int) - 1));have e:((s.cnt - 1:Nat):Int)=(s.cnt:Int) - 1:=by omega
     simpa [dR,QS.shift0,e,QS.put] using this,
    (HR4.out.body.set_other _ _ (Ne.symm HR4.out.ne)).set_other _ _ (Ne.symm HR4.out.ne)⟩
   have HM5:=lh ((HM4.out.set (c:=b) (.inl rfl) 1 (.int .i64 ((s.pos 1:Nat):Int))).set (c:=b) (.inl rfl) 2 (.int .i64 ((s.cnt:Int) - 1)));have HB5:=lh ((HB4.out.set_other 1 (.int .i64 ((s.pos 1:Nat):Int)) HZb.out).set_other 2 (.int .i64 ((s.cnt:Int) - 1)) HZb.out);have HX5:=lh ((HX4.out.set_other 1 (.int .i64 ((s.pos 1:Nat):Int)) HXb.out).set_other 2 (.int .i64 ((s.cnt:Int) - 1)) HXb.out);generalize ((w3.setCell ⟨b,1,none⟩ (.int .i64 ((s.pos 1:Nat):Int))).setCell ⟨b,2,none⟩ (.int .i64 ((s.cnt:Int) - 1)))=w4 at *;clear c1 c2 f1 f2 HR4 HM4 HB4 HX4;refine (yH b g s.shift0 w4 HR5.out (QS.shift0_ok HO.out hc)).mono ?_;rintro e w5 ⟨rfl,hat,hmv⟩;obtain ⟨g',hg',hgq⟩:=hat;have HR6:=lh hg';have HG6:Hid (g'=g∨w.heap.size < g'):=lh (by have:=HM5.out.size;have:=HB5.out.lt;omega);have HM6:=lh (HM5.out.trans hmv (.inl rfl));have HB6:=lh (HB5.out.mv hmv HZb.out HZg.out);have HX6:=lh (HX5.out.mv hmv HXb.out HXg.out);clear hg' hgq hmv HR5 HM5 HB5 HX5;have x0:=HX6.out.cell (i:=0) (v:=↑x.n) rfl;have x1:=HX6.out.cell (i:=1) (v:=↑x.size) rfl;have x2:=HX6.out.cell (i:=2) (v:=↑x.sent) rfl;have x3:=HX6.out.cell (i:=3) (v:=↑x.first) rfl;have x4:=HX6.out.cell (i:=4) (v:=↑x.deliv) rfl;have x5:=HX6.out.cell (i:=5) (v:=↑x.at_) rfl;have x6:=HX6.out.cell (i:=6) (v:=.bool x.lim) rfl;have r0:=HB6.out.cell (i:=0) (v:=↑ζ) rfl;have fr0:=HB6.out.free 0;have r1:=HB6.out.cell (i:=1) (v:=↑ζ) rfl;have fr1:=HB6.out.free 1;have r2:=HB6.out.cell (i:=2) (v:=↑ζ) rfl;have fr2:=HB6.out.free 2;have r3:=HB6.out.cell (i:=3) (v:=↑ζ) rfl;have fr3:=HB6.out.free 3;have r4:=HB6.out.cell (i:=4) (v:=↑ζ) rfl;have fr4:=HB6.out.free 4;have r5:=HB6.out.cell (i:=5) (v:=↑ζ) rfl;have fr5:=HB6.out.free 5;have r6:=HB6.out.cell (i:=6) (v:=.bool false) rfl;have fr6:=HB6.out.free 6;go_wp2_with fail;have F1:=Blk.whole (Itm.cs x) HB6.out rfl;refine bodyPost_ret (aF rfl _ _ w.heap.size 73 _ _ rfl F1 underlying73 rfl (by kernel_rfl)) rfl ⟨rfl,⟨g',⟨?_,?_⟩,?_⟩,?_⟩
  ·first
   |revert k0v;intro k0v;exact Blk.sets_other (Ne.symm HZb.out) (Itm.cs x) 0 w5 HR6.out.head
   |exact Blk.sets_other HZb.out (Itm.cs (Itm.z (α:=Pk))) 0 _ HR2.out.head
  ·first
   |revert k0v;intro k0v;exact Blk.sets_other (by have:=HG6.out;have:=HZg.out;omega) (Itm.cs x) 0 w5 HR6.out.body
   |exact Blk.sets_other HZg.out (Itm.cs (Itm.z (α:=Pk))) 0 _ HR2.out.body
  first
  |revert k1v;intro k1v
  |·have:=HG6.out;omega
  ·first
   |revert k0v;intro k0v;exact Mv.sets (.inr (.inr (Nat.le_refl _))) (Itm.cs x) 0 w5 HM6.out
   |exact Mv.sets (.inr (.inr (Nat.le_refl _))) (Itm.cs (Itm.z (α:=Pk))) 0 _ HM2.out
structure PO (w:World) (s:QS Pk) (e:Ending) (w':World):Prop where
 at_:∃b g,e=.returned ↑(π b)∧cF w' b g s∧↑w≤b∧↑w≤g
 bel:Below ↑w w w'
theorem NK (v:Option Addr) (cap:Nat) (l:List Pk) (w:World) (h:Its w v l) (hn:l.length≤100000):
  Calls prog 139 #[.slice v l.length cap] w (PO w ⟨l,0,l.length⟩):=by
 have HH:=lh h;have hmk:=MN l.length hn;have hsz:(prog.info? 73).map (·.size)=some 7:=by kernel_rfl
 clear h;have HB:Hid (Below ↑w w (w.alloc (.cells (aJ (List.replicate l.length (Itm.z (α:=Pk)))) 73))):=lh ((Below.refl _ _).alloc (Nat.le_refl _) _);have HBk:Hid (Blk (w.alloc (.cells (aJ (List.replicate l.length (Itm.z (α:=Pk)))) 73)) w.heap.size 73 (aJ (List.replicate l.length (Itm.z (α:=Pk))))):=lh (Blk.new _ _ _);have HNc:=lh (HH.out.keep HB.out);have HC1:Hid ((l.flatMap (Itm.cs (α:=Pk))).length=l.length * 7):=lh (cL l);have HC2:Hid ((aJ (List.replicate l.length (Itm.z (α:=Pk)))).size=l.length * 7):=lh (by rw [aS,List.length_replicate];rfl);go_enter func139,ntmps139;go_wp2_with ((refine eG rfl (.tmp 7) (.tmp 8) 67 67 rfl 73 underlying67 7 (by decide) hsz l.length v l.length cap w.heap.size rfl rfl (aJ (List.replicate l.length (Itm.z (α:=Pk)))) 73 HBk.out (l.flatMap (Itm.cs (α:=Pk))) HC1.out HC2.out (fun hp=>(HNc.out).cells hp) (kM l) w.heap.size w HB.out (Nat.le_refl _) ?_);intro w2 h2 hb2)
 have HW:=lh hb2;have H2:Hid (Blk w2 w.heap.size 73 (aJ l)):=h2;clear h2 hb2 hmk;go_wp2_with fail;go_ret;refine ⟨⟨w2.heap.size,w.heap.size,rfl,⟨?_,?_⟩,HW.out.size,Nat.le_refl _⟩,HW.out.alloc HW.out.size _⟩
 ·exact Blk.new _ _ _
 ·exact H2.out.alloc _
end Go.Proofs.YtjhiooggnpbecaaGreatDoor
