/- 5 texts put together: what each one says stands ahead of it. -/
import Derived.Test.YteoepabmnbkabaaGreatDoorKS24
import Derived.Test.YteoepabmnbkabaaGreatDoorKS27
import Derived.Test.YteoepabmnbkabaaGreatDoorKS28
import Derived.Test.YteoepabmnbkabaaGreatDoorKS42
import Derived.Test.YteoepabmnbkabaaGreatDoorKS44
import Derived.Test.YteoepabmnbkabaaGreatDoorKS04
import Derived.Deep.DeepCutAuto
import Derived.Deep.CutRange
import Derived.Deep.RegionHeld3
import Derived.Maps.AppendAt
import Derived.Deep.AppendLies
set_option linter.unusedVariables false
namespace Go.Proofs.YteoepabmnbkabaaGreatDoor
open Go.RowKit Cf
theorem infl_sum (l:List Pk):infl (totP l)=sumP 0 l:=by
 have e:totP l=totS l:=rfl
 rw [sumP_tot l 0 (by omega),e]
 have:=M64_eq
 unfold infl
 split <;> omega
def KN (L:List TypeId) (w w':World):Prop:=∀T,T ∉ L→∀b cs,Blk w b T cs→Blk w' b T cs
theorem KN.refl (L:List TypeId) (w:World):KN L w w:=fun _ _ _ _ h=>h
theorem KN.trans {L:List TypeId} {a b c:World} (h:KN L a b) (k:KN L b c):KN L a c:=fun T hT x cs q=>k T hT x cs (h T hT x cs q)
theorem KN.below {w w':World} (L:List TypeId) (h:Below w.heap.size w w'):KN L w w':=fun _ _ _ _ q=>q.keep h
theorem KN.mono {L M:List TypeId} {w w':World} (h:KN L w w') (hs:∀T∈L,T∈M):KN M w w':=fun T hT=>h T fun q=>hT (hs T q)
theorem KN.gr {w w':World} {x:Nat} {U:TypeId} {ds:Array Value} (g:w.grownBy w' (some x)) (k:Blk w x U ds):KN [U] w w':=fun T hT z cs q=>
 q.grown g (by simp only [ne_eq,Option.some.injEq];exact q.ty k (by simpa using hT))
theorem KN.set {w:World} {x:Nat} {U:TypeId} {ds:Array Value} (k:Blk w x U ds) (i:Nat) (u:Value):KN [U] w (w.setCell ⟨x,i,none⟩ u):=fun T hT z cs q=>
 q.set_other i u (q.ty k (by simpa using hT))
def ltypes:List TypeId:=[140,231,138,203]
theorem KN.led {w w':World} (h:KL w w'):KN ltypes w w':=fun T hT z cs q=>h z T cs q (fun e=>hT (by rw [e];decide)) (fun e=>hT (by rw [e];decide)) (fun e=>hT (by rw [e];decide)) (fun e=>hT (by rw [e];decide))
def stypes:List TypeId:=73 :: 135 :: 144 :: 146 :: 150 :: (ltypes ++ etypes)
theorem LedAt.kn {L:List TypeId} {w w':World} {B b:Nat} {l:PL} (h:LedAt w B b l) (k:KN L w w') (hL:∀T∈ltypes,T ∉ L):LedAt w' B b l:=by
 obtain ⟨rb,g,s,h1,h2⟩:=h
 refine ⟨rb,g,s,h1.keepX (fun x T cs hx hb=>?_),h2⟩
 by_cases hT:T∈ltypes
 ·have q:=k T (hL T hT) x cs hb
  unfold Blk at q hb
  rw [q,hb]
 ·exact absurd hx (h1.off hb (fun e=>hT (by rw [e];decide)) (fun e=>hT (by rw [e];decide)) (fun e=>hT (by rw [e];decide)) (fun e=>hT (by rw [e];decide)))
theorem EngAt.kn {L:List TypeId} {w w':World} {B:Nat} {P:EP} {s:ES} (h:EngAt w B P s) (q:KN L w w') (hL:∀T∈etypes,T ∉ L) (b:Below B w w'):EngAt w' B P s:=by
 obtain ⟨g,hg,hf⟩:=h.f
 obtain ⟨qs,h1,h2,h3⟩:=hf.row
 exact ⟨q _ (hL _ (by decide)) _ _ h.e,q _ (hL _ (by decide)) _ _ h.p,⟨g,hg,q _ (hL _ (by decide)) _ _ hf.head,qs,h1,h2,q _ (hL _ (by decide)) _ _ h3.head,q _ (hL _ (by decide)) _ _ h3.body⟩,q _ (hL _ (by decide)) _ _ h.y,q _ (hL _ (by decide)) _ _ h.n,h.gl.below (B:=B) b h.lo,h.lo,h.own⟩
structure SD where
 b:Nat
 c:Nat
 l:Nat
 t:Nat
 a:Nat
 p:Nat
 e:EP
def scells (D:SD) (c:Setup) (n:Nat):Array Value:=#[.int .u64 (c 0:Int),.int .u64 (c 1:Int),.int .u64 (c 2:Int),.int .u64 (c 3:Int),.int .u64 (c 4:Int),.int .u64 (c 5:Int),.pointer (some ⟨D.c,0,none⟩),.pointer (some ⟨D.l,0,none⟩),.pointer (some ⟨D.t,0,none⟩),.pointer (some ⟨D.a,0,none⟩),.pointer (some ⟨D.e.b,0,none⟩),.pointer (some ⟨D.p,0,none⟩),.int .u64 (n:Int)]
structure SndAt (w:World) (B:Nat) (D:SD) (s:SN):Prop where
 b:Blk w D.b 73 (scells D s.e.c s.w)
 c:Blk w D.c 135 s.c.cells
 l:LedAt w B D.l s.L
 t:Blk w D.t 144 s.t.cells
 a:RaAt w D.a s.a
 e:EngAt w B D.e s.e
 p:Blk w D.p 150 s.p.cells
 own:B≤D.b∧B≤D.c∧B≤D.t∧B≤D.a∧B≤D.p
theorem SndAt.keep {w w':World} {B:Nat} {D:SD} {s:SN} (h:SndAt w B D s) (k:Below w.heap.size w w'):SndAt w' B D s:=
 ⟨h.b.keep k,h.c.keep k,h.l.keep k,h.t.keep k,Blk.keep h.a k,h.e.keep k,h.p.keep k,h.own⟩
theorem SndAt.size {w:World} {B:Nat} {D:SD} {s:SN} (h:SndAt w B D s):B≤w.heap.size:=Nat.le_trans h.own.1 (Nat.le_of_lt h.b.lt)
theorem SndAt.kn {L:List TypeId} {w w':World} {B:Nat} {D:SD} {s:SN} (h:SndAt w B D s) (n:KN L w w') (hL:∀T∈stypes,T ∉ L) (b:Below B w w'):SndAt w' B D s:=
 ⟨n _ (hL _ (by decide)) _ _ h.b,n _ (hL _ (by decide)) _ _ h.c,h.l.kn n (fun T hT=>hL T (by unfold stypes;simp [hT])),n _ (hL _ (by decide)) _ _ h.t,n _ (hL _ (by decide)) _ _ h.a,h.e.kn n (fun T hT=>hL T (by unfold stypes;simp [hT])) b,n _ (hL _ (by decide)) _ _ h.p,h.own⟩
def SndOut (w:World) (B:Nat) (D:SD) (s':SN) (w':World):Prop:=SndAt w' B D s'∧Below B w w'∧KN stypes w w'
theorem SndAt.cl {w w':World} {B:Nat} {D:SD} {s:SN} (h:SndAt w B D s) {x:CS} (k:Blk w' D.c 135 x.cells) (g:w.grownBy w' (some D.c)):SndOut w B D {s with c:=x} w':=by
 have n:=KN.gr g h.c
 have b:Below B w w':=bel_gr (Below.refl _ _) g h.size h.own.2.1
 exact ⟨⟨n _ (by decide) _ _ h.b,k,h.l.kn n (by decide),n _ (by decide) _ _ h.t,n _ (by decide) _ _ h.a,h.e.kn n (by decide) b,n _ (by decide) _ _ h.p,h.own⟩,b,n.mono (by decide)⟩
theorem SndAt.tr {w w':World} {B:Nat} {D:SD} {s:SN} (h:SndAt w B D s) {x:TS} (k:Blk w' D.t 144 x.cells) (g:w.grownBy w' (some D.t)):SndOut w B D {s with t:=x} w':=by
 have n:=KN.gr g h.t
 have b:Below B w w':=bel_gr (Below.refl _ _) g h.size h.own.2.2.1
 exact ⟨⟨n _ (by decide) _ _ h.b,n _ (by decide) _ _ h.c,h.l.kn n (by decide),k,n _ (by decide) _ _ h.a,h.e.kn n (by decide) b,n _ (by decide) _ _ h.p,h.own⟩,b,n.mono (by decide)⟩
theorem SndAt.ra {w w':World} {B:Nat} {D:SD} {s:SN} (h:SndAt w B D s) {x:RaS} (k:RaAt w' D.a x) (g:w.grownBy w' (some D.a)):SndOut w B D {s with a:=x} w':=by
 have n:=KN.gr g h.a
 have b:Below B w w':=bel_gr (Below.refl _ _) g h.size h.own.2.2.2.1
 exact ⟨⟨n _ (by decide) _ _ h.b,n _ (by decide) _ _ h.c,h.l.kn n (by decide),n _ (by decide) _ _ h.t,k,h.e.kn n (by decide) b,n _ (by decide) _ _ h.p,h.own⟩,b,n.mono (by decide)⟩
theorem SndAt.pc {w w':World} {B:Nat} {D:SD} {s:SN} (h:SndAt w B D s) {x:PS} (k:Blk w' D.p 150 x.cells) (g:w.grownBy w' (some D.p)):SndOut w B D {s with p:=x} w':=by
 have n:=KN.gr g h.p
 have b:Below B w w':=bel_gr (Below.refl _ _) g h.size h.own.2.2.2.2
 exact ⟨⟨n _ (by decide) _ _ h.b,n _ (by decide) _ _ h.c,h.l.kn n (by decide),n _ (by decide) _ _ h.t,n _ (by decide) _ _ h.a,h.e.kn n (by decide) b,k,h.own⟩,b,n.mono (by decide)⟩
theorem SndAt.led {w w':World} {B:Nat} {D:SD} {s:SN} (h:SndAt w B D s) {x:PL} (k:LedAt w' B D.l x) (b:Below B w w') (g:KL w w'):SndOut w B D {s with L:=x} w':=by
 have n:=KN.led g
 exact ⟨⟨n _ (by decide) _ _ h.b,n _ (by decide) _ _ h.c,k,n _ (by decide) _ _ h.t,n _ (by decide) _ _ h.a,h.e.kn n (by decide) b,n _ (by decide) _ _ h.p,h.own⟩,b,n.mono (by decide)⟩
theorem SndAt.en {w w':World} {B:Nat} {D:SD} {s:SN} (h:SndAt w B D s) {x:ES} {v e:Ending} (k:EPost B D.e v x w e w') (hc:x.c=s.e.c):SndOut w B D {s with e:=x} w':=by
 have n:KN etypes w w':=k.kt
 have hb:=n _ (by decide) _ _ h.b
 rw [← hc] at hb
 exact ⟨⟨hb,n _ (by decide) _ _ h.c,h.l.kn n (by decide),n _ (by decide) _ _ h.t,n _ (by decide) _ _ h.a,k.at_,n _ (by decide) _ _ h.p,h.own⟩,k.bel,n.mono (by decide)⟩
theorem SndAt.wt {w:World} {B:Nat} {D:SD} {s:SN} (h:SndAt w B D s) (x:Nat):SndOut w B D {s with w:=x} (w.setCell ⟨D.b,12,none⟩ (.int .u64 (x:Int))):=by
 have n:=KN.set h.b 12 (.int .u64 (x:Int))
 have b:Below B w (w.setCell ⟨D.b,12,none⟩ (.int .u64 (x:Int))):=(Below.refl _ _).setCell (p:=⟨D.b,12,none⟩) h.own.1 _
 exact ⟨⟨h.b.set 12 (.int .u64 (x:Int)),n _ (by decide) _ _ h.c,h.l.kn n (by decide),n _ (by decide) _ _ h.t,n _ (by decide) _ _ h.a,h.e.kn n (by decide) b,n _ (by decide) _ _ h.p,h.own⟩,b,n.mono (by decide)⟩
structure SndI (W:World) (B:Nat) (D:SD) (s:SN) (w:World):Prop where
 at_:SndAt w B D s
 bel:Below B W w
 kt:KN stypes W w
theorem SndI.start {W:World} {B:Nat} {D:SD} {s:SN} (h:SndAt W B D s):SndI W B D s W:=⟨h,Below.refl _ _,KN.refl _ _⟩
theorem SndI.to {W w w':World} {B:Nat} {D:SD} {s:SN} (h:SndI W B D s w) (k:Below w.heap.size w w'):SndI W B D s w':=⟨h.at_.keep k,bel_to h.bel k h.at_.size,h.kt.trans (KN.below _ k)⟩
theorem SndI.drew {W w:World} {B:Nat} {D:SD} {s:SN} (h:SndI W B D s w):SndI W B D s w.drew:=h.to ((Drawn.drew w).below _)
theorem SndI.step {W w w':World} {B:Nat} {D:SD} {s s':SN} (h:SndI W B D s w) (k:SndOut w B D s' w'):SndI W B D s' w':=⟨k.1,h.bel.trans k.2.1,h.kt.trans k.2.2⟩
structure SndR (W:World) (B:Nat) (D:SD) (s:SN) (w:World):Prop where
 at_:SndAt w B D s
 bel:Below W.heap.size W w
theorem SndR.start {W:World} {B:Nat} {D:SD} {s:SN} (h:SndAt W B D s):SndR W B D s W:=⟨h,Below.refl _ _⟩
theorem SndR.to {W w w':World} {B:Nat} {D:SD} {s:SN} (h:SndR W B D s w) (k:Below w.heap.size w w'):SndR W B D s w':=⟨h.at_.keep k,bel_to h.bel k h.bel.size⟩
theorem SndR.drew {W w:World} {B:Nat} {D:SD} {s:SN} (h:SndR W B D s w):SndR W B D s w.drew:=h.to ((Drawn.drew w).below _)
theorem sr_p {W:World} {B:Nat} {D:SD} {s:SN} {i:Nat} {v:Value} (hv:(scells D s.e.c s.w)[i]? =some v):∀w,Hid (SndR W B D s w)→w.cell? ⟨D.b,i,none⟩=some v:=fun w q=>q.out.at_.b.cell hv
structure SPost (B:Nat) (D:SD) (v:Ending) (s':SN) (W:World) (e:Ending) (w:World):Prop where
 e:e=v
 i:SndI W B D s' w
theorem SPost.step {W w w':World} {B:Nat} {D:SD} {s s':SN} {v e:Ending} (h:SndI W B D s w) (k:SPost B D v s' w e w'):SndI W B D s' w':=h.step ⟨k.i.at_,k.i.bel,k.i.kt⟩
def SndX (W:World) (B:Nat) (D:SD) (w:World):Prop:=∃s,SndI W B D s w
theorem sx_of {W w:World} {B:Nat} {D:SD} {s:SN} (h:Hid (SndI W B D s w)):Hid (SndX W B D w):=Lib.hid ⟨s,h.out⟩
theorem sx_p {W:World} {B:Nat} {D:SD} {i:Nat} {v:Value} (hv:∀c n,(scells D c n)[i]? =some v):∀w,Hid (SndX W B D w)→w.cell? ⟨D.b,i,none⟩=some v:=fun w q=>by
 obtain ⟨s,h⟩:=q.out
 exact h.at_.b.cell (hv _ _)
theorem sn_Time {B:Nat} {D:SD} {s:SN} (W:World) (h:SndAt W B D s):
  Calls Tryz.prog 15 #[.pointer (some ⟨D.b,0,none⟩)] W fun e w'=>e=.returned (.int .u64 (s.c.t:Int))∧Below W.heap.size W w':=by
 have HT:=Lib.hid (clock_Time D.c s.c W h.c)
 have p6:=h.b.cell (i:=6) (v:=.pointer (some ⟨D.c,0,none⟩)) rfl
 clear h
 go_enter Tryz.func15,Tryz.ntmps15
 go_wp2_with fail
 refine HT.out.mono ?_
 rintro e w' ⟨rfl,hb⟩
 go_wp2_with fail
 go_ret
 exact ⟨rfl,hb⟩
theorem sn_Past {B:Nat} {D:SD} {s:SN} (W:World) (h:SndAt W B D s):
  Calls Tryz.prog 23 #[.pointer (some ⟨D.b,0,none⟩)] W fun e w'=>e=.returned (.bool s.c.p)∧Below W.heap.size W w':=by
 have HT:=Lib.hid (clock_Past D.c s.c W h.c)
 have p6:=h.b.cell (i:=6) (v:=.pointer (some ⟨D.c,0,none⟩)) rfl
 clear h
 generalize s.c.p=q at *
 go_enter Tryz.func23,Tryz.ntmps23
 go_wp2_with fail
 refine HT.out.mono ?_
 rintro e w' ⟨rfl,hb⟩
 go_wp2_with fail
 go_ret
 exact ⟨rfl,hb⟩
theorem sn_InFlight {B:Nat} {D:SD} {s:SN} (W:World) (h:SndAt W B D s):
  Calls Tryz.prog 18 #[.pointer (some ⟨D.b,0,none⟩)] W fun e w'=>e=.returned (.int .u64 (s.L.fl:Int))∧Below W.heap.size W w':=by
 have HT:=Lib.hid (led_InFlight h.l)
 rw [infl_sum] at HT
 have p7:=h.b.cell (i:=7) (v:=.pointer (some ⟨D.l,0,none⟩)) rfl
 clear h
 unfold PL.fl
 generalize sumP 0 s.L.out=x at *
 go_enter Tryz.func18,Tryz.ntmps18
 go_wp2_with fail
 refine HT.out.mono ?_
 rintro e w' ⟨rfl,rfl⟩
 go_wp2_with fail
 go_ret
 exact ⟨rfl,Below.refl _ _⟩
theorem sn_Waiting {B:Nat} {D:SD} {s:SN} (W:World) (h:SndAt W B D s):
  Calls Tryz.prog 22 #[.pointer (some ⟨D.b,0,none⟩)] W fun e w'=>e=.returned (.int .u64 (s.w:Int))∧Below W.heap.size W w':=by
 have p:=h.b.cell (i:=12) (v:=.int .u64 (s.w:Int)) rfl
 clear h
 go_enter Tryz.func22,Tryz.ntmps22
 go_wp2
 go_ret
 exact ⟨rfl,Below.refl _ _⟩
theorem sn_Engine {B:Nat} {D:SD} {s:SN} (W:World) (h:SndAt W B D s):
  Calls Tryz.prog 16 #[.pointer (some ⟨D.b,0,none⟩)] W fun e w'=>e=.returned (.pointer (some ⟨D.e.b,0,none⟩))∧Below W.heap.size W w':=by
 have p:=h.b.cell (i:=10) (v:=.pointer (some ⟨D.e.b,0,none⟩)) rfl
 clear h
 go_enter Tryz.func16,Tryz.ntmps16
 go_wp2
 go_ret
 exact ⟨rfl,Below.refl _ _⟩
theorem sn_size {B:Nat} {D:SD} {s:SN} (W:World) (h:SndAt W B D s):
  Calls Tryz.prog 53 #[.pointer (some ⟨D.b,0,none⟩)] W fun e w'=>e=.returned (.int .u64 (s.size:Int))∧Below W.heap.size W w':=by
 have p0:=h.b.cell (i:=0) (v:=.int .u64 (s.e.c 0:Int)) rfl
 have p:=h.b.cell (i:=12) (v:=.int .u64 (s.w:Int)) rfl
 clear h
 unfold SN.size
 generalize s.e.c 0=x at *
 generalize s.w=y at *
 go_enter Tryz.func53,Tryz.ntmps53
 go_wp2_with fail
 go_quiet (fail)
 go_wp2_with fail
 go_ret
 exact ⟨ret_u64 (by omega),Drawn.below ⟨_,rfl⟩ _⟩
theorem sn_fits {B:Nat} {D:SD} {s:SN} (x:Nat) (W:World) (h:SndAt W B D s) (hx:x≤18446744073709551615):
  Calls Tryz.prog 52 #[.pointer (some ⟨D.b,0,none⟩),.int .u64 (x:Int)] W fun e w'=>e=.returned (.bool (decide (Pl.addS x s.L.fl≤s.e.cwnd)))∧Below W.heap.size W w':=by
 have HI:=Lib.hid (fun w h=>sn_InFlight (B:=B) (D:=D) (s:=s) w h)
 have HC:=Lib.hid (fun w h=>en_Cwnd (B:=B) (P:=D.e) (s:=s.e) w h)
 have HA:=Lib.hid (add_any x s.L.fl hx s.fl_le)
 have I0:=Lib.hid (SndR.start h).drew
 have r10:=sr_p (W:=W) (B:=B) (D:=D) (s:=s) (i:=10) (v:=.pointer (some ⟨D.e.b,0,none⟩)) rfl
 clear h
 generalize Pl.addS x s.L.fl=z at *
 generalize s.L.fl=f at *
 go_enter Tryz.func52,Tryz.ntmps52
 go_wp2_with fail
 go_region_held3 (fun w'=>Hid (SndR W B D s w'))
  (first | with_reducible exact I3 | with_reducible exact I2 | with_reducible exact I1 | with_reducible exact I0 | exact Lib.hid (I1.out.to (al_be _ _)))
  (first
   | (go_at_call 18;(with_reducible refine (HI.out _ I0.out.at_).mono ?_);rintro e w1 ⟨rfl,hb⟩;have I1:=Lib.hid (I0.out.to hb);have K1:=Lib.hid (nc2 w1 x f 22);have I1b:=Lib.hid (I1.out.to (al_be _ (.cells #[.int .u64 (x:Int),.int .u64 (f:Int)] 22)));clear hb)
   | (go_at_call 57;(with_reducible refine (HA.out _ _ K1.out.1 K1.out.2).mono ?_);rintro e w2 ⟨rfl,hb⟩;have I2:=Lib.hid (I1b.out.to hb);clear hb)
   | (go_at_call 19;(with_reducible refine (HC.out _ I2.out.at_.e).mono ?_);rintro e w3 ⟨rfl,hb⟩;have I3:=Lib.hid (I2.out.to hb);clear hb))
 go_wp2_with fail
 go_ret
 refine ⟨?_,I3.out.bel⟩
 congr 2
def BsRel (w:World) (l:List Pk) (k:Nat) (wr:World):Prop:=k≤l.length∧Below w.heap.size w wr
set_option maxHeartbeats 1000000 in
theorem sn_bytes (c:Nat) (p:Option Addr) (l:List Pk) (w:World) (hl:Its w p l) (hu:∀x∈l,x.size≤18446744073709551615) (hm:l.length≤9223372036854775807):
  Calls Tryz.prog 63 #[.slice p l.length c] w fun e w'=>e=.returned (.int .u64 ((sumP 0 l:Nat):Int))∧Below w.heap.size w w':=by
 have HL:=Lib.hid hl
 have HU:=Lib.hid hu
 clear hl hu
 go_enter Tryz.func63,Tryz.ntmps63
 go_wp2_with fail
 go_loopw [3,8] (fun t i wr=>∃k:Nat,i=.int .i64 (k:Int)∧t=.int .u64 ((sumP 0 (l.take k):Nat):Int)∧BsRel w l k wr) (fun _ i _=>l.length - (intOf i).toNat)
 case atStart=>exact ⟨0,rfl,rfl,Nat.zero_le _,Below.refl _ _⟩
 case round=>
  obtain ⟨k,rfl,rfl,hk,h2⟩:=hrel
  have HB:=Lib.hid h2
  clear h2
  by_cases hlt:k < l.length
  ·obtain ⟨pb,off,rfl,hb,hcs⟩:=HL.out (by omega)
   have H1:=pk_cells (k:=k) hcs hlt (o:=off + k * 7) (by omega)
   have d0:=(HB.out.cell (p:=⟨pb,off + k * 7 + 0,none⟩) hb).trans (H1 0 (by omega))
   have d1:=(HB.out.cell (p:=⟨pb,off + k * 7 + 1,none⟩) hb).trans (H1 1 (by omega))
   have d2:=(HB.out.cell (p:=⟨pb,off + k * 7 + 2,none⟩) hb).trans (H1 2 (by omega))
   have d3:=(HB.out.cell (p:=⟨pb,off + k * 7 + 3,none⟩) hb).trans (H1 3 (by omega))
   have d4:=(HB.out.cell (p:=⟨pb,off + k * 7 + 4,none⟩) hb).trans (H1 4 (by omega))
   have d5:=(HB.out.cell (p:=⟨pb,off + k * 7 + 5,none⟩) hb).trans (H1 5 (by omega))
   have d6:=(HB.out.cell (p:=⟨pb,off + k * 7 + 6,none⟩) hb).trans (H1 6 (by omega))
   clear H1 hcs
   have HX:Hid ((l.getD k Itm.z).size≤18446744073709551615):=Lib.hid (by
    have e:l.getD k Itm.z=l[k]:=by rw [List.getD_eq_getElem?_getD,List.getElem?_eq_getElem hlt];rfl
    rw [e];exact HU.out _ (List.getElem_mem hlt))
   have HT:=Lib.hid (sumP_take 0 (l:=l) (k:=k) hlt)
   have hle:sumP 0 (l.take k)≤18446744073709551615:=sumP_le (Nat.zero_le _)
   generalize l.getD k Itm.z=x at *
   generalize sumP 0 (l.take k)=m at *
   simp only [Pk.cs,List.getElem?_cons_succ,List.getElem?_cons_zero,Nat.add_zero] at d0 d1 d2 d3 d4 d5 d6
   have i0:(0:Int)≤(k:Int):=by omega
   have i1:(k:Int) < (l.length:Int):=by omega
   have HN:=Lib.hid (Blk.new wr 47 #[.int .u64 (x.n:Int),.int .u64 (x.size:Int),.int .u64 (x.sent:Int),.int .u64 (x.first:Int),.int .u64 (x.deliv:Int),.int .u64 (x.at_:Int),.bool x.lim])
   have HB2:=Lib.hid (bel_to HB.out (al_be wr (.cells #[.int .u64 (x.n:Int),.int .u64 (x.size:Int),.int .u64 (x.sent:Int),.int .u64 (x.first:Int),.int .u64 (x.deliv:Int),.int .u64 (x.at_:Int),.bool x.lim] 47)) HB.out.size)
   have HS:Hid (wr.heap.size + 1=(wr.alloc (.cells #[.int .u64 (x.n:Int),.int .u64 (x.size:Int),.int .u64 (x.sent:Int),.int .u64 (x.first:Int),.int .u64 (x.deliv:Int),.int .u64 (x.at_:Int),.bool x.lim] 47)).heap.size):=Lib.hid (by simp)
   go_wp2_with fail
   generalize (wr.alloc (.cells #[.int .u64 (x.n:Int),.int .u64 (x.size:Int),.int .u64 (x.sent:Int),.int .u64 (x.first:Int),.int .u64 (x.deliv:Int),.int .u64 (x.at_:Int),.bool x.lim] 47))=wa at *
   have e1:=HN.out.cell (i:=1) (v:=.int .u64 (x.size:Int)) rfl
   clear d0 d1 d2 d3 d4 d5 d6 HB HN
   have HA:=Lib.hid (add_any m x.size hle HX.out _ _ (nc2f wa (wr.heap.size + 1) m x.size 22 HS.out).1 (nc2f wa (wr.heap.size + 1) m x.size 22 HS.out).2)
   have HB3:=Lib.hid (bel_to HB2.out (al_be wa (.cells #[.int .u64 (m:Int),.int .u64 (x.size:Int)] 22)) HB2.out.size)
   generalize Pl.addS m x.size=m' at *
   have HLt:=Lib.hid (And.intro hlt hm)
   clear hle HX i0 i1 hlt hb hm hk
   refine HA.out.mono ?_
   rintro e w' ⟨rfl,hb⟩
   have HB4:=Lib.hid (bel_to HB3.out hb HB3.out.size)
   clear hb
   obtain ⟨hlt,hm⟩:=HLt.out
   go_wp2_with fail
   go_roundw
   case rel=>exact ⟨k + 1,by go_num,by rw [HT.out],by omega,HB4.out⟩
   case measure=>simp [intOf];omega
  ·obtain rfl:k=l.length:=by omega
   rw [List.take_length]
   go_wp2_with fail
   go_ret
   exact ⟨rfl,HB.out⟩
theorem PR.form2 {w:World} {v:Value} {l:List Pk} (h:PR w v l):∃p c,v=.slice p l.length c∧l.length≤c∧c≤9223372036854775807:=by
 rcases h.2 with ⟨e,k⟩ | ⟨g,cap,cur,e,_,_,h1,h2,_⟩
 ·exact ⟨none,0,by rw [e,k],by omega,by omega⟩
 ·exact ⟨_,cap,e,h1,by unfold maxLen at h2;omega⟩
theorem sn_bytes_row {v:Value} (l:List Pk) (w:World) (h:PR w v l) (hu:∀x∈l,x.size≤18446744073709551615):
  Calls Tryz.prog 63 #[v] w fun e w'=>e=.returned (.int .u64 ((sumP 0 l:Nat):Int))∧Below w.heap.size w w':=by
 obtain ⟨p,c,rfl,h1,h2⟩:=h.form2
 exact sn_bytes c p l w h.its hu (by omega)
end Go.Proofs.YteoepabmnbkabaaGreatDoor

set_option linter.unusedVariables false
namespace Go.Proofs.YteoepabmnbkabaaGreatDoor
open Go.RowKit Cf
theorem SN.ok.big {c:Setup} {k m d:Nat} {s:SN} (h:s.ok c k m d) {p:Pk} (hp:p∈s.L.out):p.size≤18446744073709551615:=by
 have h1:=(h.pk p hp).2.1
 have h2:=h.e.c 0
 rw [h.ec] at h2
 omega
def SN.lossL (s:SN):SN:={s with L:={s.L with out:=s.keptL}}
def SN.lossW (s:SN):SN:={s with L:={s.L with out:=s.keptL},w:=Pl.addS s.w (sumP 0 s.lostL)}
theorem SN.loss_yes {s:SN} (h:s.lostL≠[]∧s.keptL=[]):s.loss={s.lossW with t:=s.t.dbl}:=by
 unfold SN.loss SN.lossW;rw [if_pos h]
theorem SN.loss_no {s:SN} (h:¬ (s.lostL≠[]∧s.keptL=[])):s.loss=s.lossW:=by
 unfold SN.loss SN.lossW;rw [if_neg h]
theorem SN.lost_sum {c:Setup} {k m d:Nat} {s:SN} (h:s.ok c k m d):(s.lostL=[]∧sumP 0 s.lostL=0)∨(s.lostL≠[]∧0 < sumP 0 s.lostL):=by
 by_cases e:s.lostL=[]
 ·left;rw [e];exact ⟨rfl,rfl⟩
 ·right
  refine ⟨e,?_⟩
  have:=(SN.loss_w h).2.2
  have:=totS_pos (l:=s.lostL) (fun p hp=>(h.pk p ((List.mem_filter.1 hp).1)).1) e
  omega
theorem SN.kept_sum {c:Setup} {k m d:Nat} {s:SN} (h:s.ok c k m d):(s.keptL=[]∧s.lossW.L.fl=0)∨(s.keptL≠[]∧0 < s.lossW.L.fl):=by
 have hfl:s.lossW.L.fl=sumP 0 s.keptL:=rfl
 by_cases e:s.keptL=[]
 ·left;rw [hfl,e];exact ⟨rfl,rfl⟩
 ·right
  refine ⟨e,?_⟩
  have:=totS_pos (l:=s.keptL) (fun p hp=>(h.pk p ((List.mem_filter.1 hp).1)).1) e
  rw [hfl,sumP_tot _ _ (Nat.zero_le _)]
  omega
set_option maxHeartbeats 2000000 in
theorem sn_lose {B:Nat} {D:SD} {s:SN} {c:Setup} {k m d:Nat} (W:World) (h:SndAt W B D s) (ho:s.ok c k m d):
  Calls Tryz.prog 48 #[.pointer (some ⟨D.b,0,none⟩)] W (SPost B D (.returned (.int .u64 ((sumP 0 s.lostL:Nat):Int))) s.loss W):=by
 have HTi:=Lib.hid (fun w (q:SndAt w B D s)=>sn_Time w q)
 have HDe:=Lib.hid (fun w (q:SndAt w B D s)=>tr_Delay D.t s.t w q.t ho.t)
 have HLi:=Lib.hid (fun w (q:SndAt w B D s)=>tr_Limit D.t s.t w q.t ho.t)
 have HLo:Hid (∀w,SndAt w B D s→Calls Tryz.prog 102 #[.pointer (some ⟨D.l,0,none⟩),.int .u64 (s.c.t:Int),.int .u64 (s.t.del:Int),.int .u64 (s.t.lim:Int)] w fun e w'=>∃v,e=.returned v∧Hid (PR w' v s.lostL)∧Hid (SndOut w B D s.lossL w')):=Lib.hid (fun w q=>(led_Lost q.l s.c.t s.t.del s.t.lim (TS.del_le _) (TS.lim_le _)).mono (by rintro e w' ⟨v,rfl,h1,h2,h3,h4,h5⟩;exact ⟨v,rfl,Lib.hid h1,Lib.hid (q.led h3 h4 h5)⟩))
 have HBy:=Lib.hid (fun w v (q:PR w v s.lostL)=>sn_bytes_row s.lostL w q (fun x hx=>ho.big ((List.mem_filter.1 hx).1)))
 have HIn:=Lib.hid (fun w (q:SndAt w B D s.lossW)=>sn_InFlight w q)
 have HDo:=Lib.hid (fun w (q:SndAt w B D s.lossW)=>tr_Double D.t s.t w q.t ho.t)
 have HN:=Lib.hid (SN.lost_sum ho)
 have HK:=Lib.hid (SN.kept_sum ho)
 have hw1:s.w≤18446744073709551615:=by have:=ho.small;omega
 have hw2:sumP 0 s.lostL≤18446744073709551615:=sumP_le (Nat.zero_le _)
 have HA:=Lib.hid (add_any s.w (sumP 0 s.lostL) hw1 hw2)
 have HZ:Hid (s.lossW={s.lossL with w:=Pl.addS s.w (sumP 0 s.lostL)}):=Lib.hid rfl
 have M0:=Lib.hid (SndI.start h).drew
 have X0:=sx_of M0
 have p7:=sx_p (W:=W) (B:=B) (D:=D) (i:=7) (v:=.pointer (some ⟨D.l,0,none⟩)) (fun _ _=>rfl)
 have p8:=sx_p (W:=W) (B:=B) (D:=D) (i:=8) (v:=.pointer (some ⟨D.t,0,none⟩)) (fun _ _=>rfl)
 have HY:=Lib.hid (fun q=>SN.loss_yes (s:=s) q)
 have HX:=Lib.hid (fun q=>SN.loss_no (s:=s) q)
 clear h ho hw1 hw2
 generalize s.loss=sl at *
 generalize hz:Pl.addS s.w (sumP 0 s.lostL)=z at *
 generalize hn:sumP 0 s.lostL=n at *
 generalize hf:s.lossW.L.fl=f at *
 generalize hd:s.t.del=de at *
 generalize hl:s.t.lim=li at *
 clear hz hn hf hd hl
 go_enter Tryz.func48,Tryz.ntmps48
 go_wp2_with fail
 go_region_held3 (fun w'=>Hid (SndX W B D w'))
  (first | with_reducible exact X5 | with_reducible exact X4 | with_reducible exact X3 | with_reducible exact X2 | with_reducible exact X1 | with_reducible exact X0)
  (first
   | (go_at_call 15;(with_reducible refine (HTi.out _ M0.out.at_).mono ?_);rintro e w1 ⟨rfl,hb⟩;have M1:=Lib.hid (M0.out.to hb);have X1:=sx_of M1;clear hb)
   | (go_at_call 103;(with_reducible refine (HDe.out _ M1.out.at_).mono ?_);rintro e w2 ⟨rfl,hb⟩;have M2:=Lib.hid (M1.out.to hb);have X2:=sx_of M2;clear hb)
   | (go_at_call 104;(with_reducible refine (HLi.out _ M2.out.at_).mono ?_);rintro e w3 ⟨rfl,hb⟩;have M3:=Lib.hid (M2.out.to hb);have X3:=sx_of M3;clear hb)
   | (go_at_call 102;(with_reducible refine (HLo.out _ M3.out.at_).mono ?_);rintro e w4 ⟨v,rfl,hp,ha⟩;have M4:=Lib.hid (M3.out.step ha.out);have X4:=sx_of M4;clear ha)
   | (go_at_call 63;(with_reducible refine (HBy.out _ _ hp.out).mono ?_);rintro e w5 ⟨rfl,hb⟩;have M5:=Lib.hid (M4.out.to hb);have X5:=sx_of M5;clear hb hp))
 clear X0 X1 X2 X3 X4 X5 M0 M1 M2 M3 M4 HTi HDe HLi HLo HBy
 have c12:=M5.out.at_.b.cell (i:=12) (v:=.int .u64 (s.w:Int)) rfl
 have M6:=Lib.hid (M5.out.to (al_be _ (.cells #[.int .u64 (s.w:Int),.int .u64 (n:Int)] 22)))
 have K6:=Lib.hid (nc2 w5 s.w n 22)
 go_wp2_with fail
 refine (HA.out _ _ K6.out.1 K6.out.2).mono ?_
 rintro e w6 ⟨rfl,hb⟩
 have M7:=Lib.hid (M6.out.to hb)
 clear hb K6 M6 HA c12
 have c12:=M7.out.at_.b.cell (i:=12) (v:=.int .u64 (s.w:Int)) rfl
 have f12:=M7.out.at_.b.free 12
 have M8:=Lib.hid (M7.out.step (M7.out.at_.wt z))
 rw [← HZ.out] at M8
 have c7:=M8.out.at_.b.cell (i:=7) (v:=.pointer (some ⟨D.l,0,none⟩)) rfl
 have c8:=M8.out.at_.b.cell (i:=8) (v:=.pointer (some ⟨D.t,0,none⟩)) rfl
 clear M5 M7 HZ
 rcases HN.out with ⟨hL,hn⟩ | ⟨hL,hn⟩
 ·have d1:decide ((0:Int) < (n:Int))=false:=decide_eq_false (by omega)
  have d2:decide (0 < n)=false:=decide_eq_false (by omega)
  have HE:=Lib.hid (HX.out (fun q=>q.1 hL))
  clear hn hL HN HK HX HY c7 c8
  go_wp2_with fail
  go_ret
  exact ⟨rfl,by rw [HE.out];exact M8.out⟩
 ·have d1:decide ((0:Int) < (n:Int))=true:=decide_eq_true (by omega)
  have d2:decide (0 < n)=true:=decide_eq_true (by omega)
  clear hn
  rcases HK.out with ⟨hK,hf⟩ | ⟨hK,hf⟩
  ·have e1:((f:Int) == 0)=true:=by rw [hf];rfl
   have HE:=Lib.hid (HY.out ⟨hL,hK⟩)
   clear hf hK hL HN HK HX HY
   go_wp2_with fail
   refine (HIn.out _ M8.out.at_).mono ?_
   rintro e w9 ⟨rfl,hb⟩
   have M9:=Lib.hid (M8.out.to hb)
   clear hb M8 c7 c8 c12 f12
   have c8:=M9.out.at_.b.cell (i:=8) (v:=.pointer (some ⟨D.t,0,none⟩)) rfl
   go_wp2_with fail
   refine (HDo.out _ M9.out.at_).mono ?_
   rintro e w10 hp
   obtain rfl:=hp.e
   have M10:=Lib.hid (M9.out.step (M9.out.at_.tr hp.blk hp.gr))
   clear hp
   go_wp2_with fail
   go_ret
   exact ⟨rfl,by rw [HE.out];exact M10.out⟩
  ·have e1:((f:Int) == 0)=false:=beq_eq_false_iff_ne.2 (by omega)
   have HE:=Lib.hid (HX.out (fun q=>hK q.2))
   clear hf hK hL HN HK HX HY
   go_wp2_with fail
   refine (HIn.out _ M8.out.at_).mono ?_
   rintro e w9 ⟨rfl,hb⟩
   have M9:=Lib.hid (M8.out.to hb)
   clear hb M8 c7 c8 c12 f12
   go_wp2_with fail
   go_ret
   exact ⟨rfl,by rw [HE.out];exact M9.out⟩
end Go.Proofs.YteoepabmnbkabaaGreatDoor

set_option linter.unusedVariables false
namespace Go.Proofs.YteoepabmnbkabaaGreatDoor
open Go.RowKit Cf
structure TellI (W:World) (B:Nat) (D:SD) (s:SN) (cs:Array Value) (w:World):Prop where
 i:SndI W B D s w
 ev:Blk w W.heap.size 110 cs
 sz:B≤W.heap.size
theorem TellI.to {W w w':World} {B:Nat} {D:SD} {s:SN} {cs:Array Value} (h:TellI W B D s cs w) (k:Below w.heap.size w w'):TellI W B D s cs w':=⟨h.i.to k,h.ev.keep k,h.sz⟩
theorem TellI.start {W:World} {B:Nat} {D:SD} {s:SN} (h:SndAt W B D s) (cs:Array Value):TellI W B D s cs (W.alloc (.cells cs 110)):=⟨(SndI.start h).to (al_be _ _),Blk.new W _ _,h.size⟩
theorem TellI.set {W w:World} {B:Nat} {D:SD} {s:SN} {cs cs':Array Value} (h:TellI W B D s cs w) (i:Nat) (u:Value) (he:cs.setIfInBounds i u=cs'):TellI W B D s cs' (w.setCell ⟨W.heap.size,i,none⟩ u):=by
 have b:Below B w (w.setCell ⟨W.heap.size,i,none⟩ u):=(Below.refl _ _).setCell (p:=⟨W.heap.size,i,none⟩) h.sz _
 exact ⟨⟨h.i.at_.kn (KN.set h.ev i u) (by decide) b,h.i.bel.trans b,fun T hT z ds q=>(h.i.kt T hT z ds q).set_other i u (Nat.ne_of_lt q.lt)⟩,he▸h.ev.set i u,h.sz⟩
theorem TellI.en {W w w':World} {B:Nat} {D:SD} {s:SN} {cs:Array Value} (h:TellI W B D s cs w) {x:ES} {v e:Ending} (k:EPost B D.e v x w e w') (hc:x.c=s.e.c):TellI W B D {s with e:=x} cs w':=⟨h.i.step (h.i.at_.en k hc),k.kt _ (by decide) _ _ h.ev,h.sz⟩
def TellX (W:World) (B:Nat) (D:SD) (cs:Array Value) (w:World):Prop:=∃s,TellI W B D s cs w
theorem tx_of {W w:World} {B:Nat} {D:SD} {s:SN} {cs:Array Value} (h:Hid (TellI W B D s cs w)):Hid (TellX W B D cs w):=Lib.hid ⟨s,h.out⟩
theorem tx_v {W:World} {B:Nat} {D:SD} {cs:Array Value} {i:Nat} {v:Value} (hv:cs[i]? =some v):∀w,Hid (TellX W B D cs w)→w.cell? ⟨W.heap.size,i,none⟩=some v:=fun w q=>by
 obtain ⟨s,h⟩:=q.out
 exact h.ev.cell hv
theorem tx_p {W:World} {B:Nat} {D:SD} {cs:Array Value} {i:Nat} {v:Value} (hv:∀c n,(scells D c n)[i]? =some v):∀w,Hid (TellX W B D cs w)→w.cell? ⟨D.b,i,none⟩=some v:=fun w q=>by
 obtain ⟨s,h⟩:=q.out
 exact h.i.at_.b.cell (hv _ _)
set_option maxRecDepth 100000 in
set_option maxHeartbeats 4000000 in
theorem sn_tell {B:Nat} {D:SD} {s:SN} {k sd si sr rt ac lo:Nat} {sl sm:Bool} (W:World) (h:SndAt W B D s) (ho:s.e.ok k) (hk:k≤900) (hx:EvS.ok ⟨s.c.t,sd,si,sr,rt,sl,sm,s.a.n,ac,lo,s.L.fl⟩) (hc:(s.e.on ⟨s.c.t,sd,si,sr,rt,sl,sm,s.a.n,ac,lo,s.L.fl⟩).c=s.e.c):
  Calls Tryz.prog 49 #[.pointer (some ⟨D.b,0,none⟩),.agg #[.int .u64 0,.int .u64 (sd:Int),.int .u64 (si:Int),.int .u64 (sr:Int),.int .u64 (rt:Int),.bool sl,.bool sm,.int .u64 0,.int .u64 (ac:Int),.int .u64 (lo:Int),.int .u64 0]] W (SPost B D (.returned (.tuple #[])) {s with e:=s.e.on ⟨s.c.t,sd,si,sr,rt,sl,sm,s.a.n,ac,lo,s.L.fl⟩} W):=by
 have HTi:=Lib.hid (fun w (q:SndAt w B D s)=>sn_Time w q)
 have HDe:=Lib.hid (fun w (q:SndAt w B D s)=>ra_Delivered D.a s.a w q.a)
 have HIn:=Lib.hid (fun w (q:SndAt w B D s)=>sn_InFlight w q)
 have HOn:Hid (∀w,SndAt w B D s→Calls Tryz.prog 107 #[.pointer (some ⟨D.e.b,0,none⟩),.agg #[.int .u64 (s.c.t:Int),.int .u64 (sd:Int),.int .u64 (si:Int),.int .u64 (sr:Int),.int .u64 (rt:Int),.bool sl,.bool sm,.int .u64 (s.a.n:Int),.int .u64 (ac:Int),.int .u64 (lo:Int),.int .u64 (s.L.fl:Int)]] w (EPost B D.e (.returned (.tuple #[])) (s.e.on ⟨s.c.t,sd,si,sr,rt,sl,sm,s.a.n,ac,lo,s.L.fl⟩) w)):=Lib.hid (fun w q=>en_On ⟨s.c.t,sd,si,sr,rt,sl,sm,s.a.n,ac,lo,s.L.fl⟩ hx w q.e ho hk)
 have T0:=Lib.hid (TellI.start h #[.int .u64 0,.int .u64 (sd:Int),.int .u64 (si:Int),.int .u64 (sr:Int),.int .u64 (rt:Int),.bool sl,.bool sm,.int .u64 0,.int .u64 (ac:Int),.int .u64 (lo:Int),.int .u64 0])
 have p9:=sx_p (W:=W) (B:=B) (D:=D) (i:=9) (v:=.pointer (some ⟨D.a,0,none⟩)) (fun _ _=>rfl)
 clear h ho hk hx
 generalize s.e.on ⟨s.c.t,sd,si,sr,rt,sl,sm,s.a.n,ac,lo,s.L.fl⟩=e' at *
 go_enter Tryz.func49,Tryz.ntmps49
 go_wp2_with fail
 generalize W.alloc (.cells #[.int .u64 0,.int .u64 (sd:Int),.int .u64 (si:Int),.int .u64 (sr:Int),.int .u64 (rt:Int),.bool sl,.bool sm,.int .u64 0,.int .u64 (ac:Int),.int .u64 (lo:Int),.int .u64 0] 110)=w0 at *
 have T1:=Lib.hid (T0.out.to ((Drawn.drew w0).below _))
 clear T0
 refine wp_region_held_drew (S:=(fun w'=>Hid (SndX W B D w'))) (by kernel_rfl) (sx_of (Lib.hid T1.out.i)) (fun hHeld=>?_)
 simp only [List.size_toArray,List.length_cons,List.length_nil,Nat.reduceAdd,Array.replicate_succ,Array.replicate_zero,List.push_toArray,List.nil_append,List.cons_append]
 refine wpAnyH_take (i:=0) (oi:=⟨some 4,_,_,_,_,_⟩) (v:=?v6) rfl (by kernel_rfl) (by kernel_rfl) (by kernel_rfl) (fun _ _ _ h=>h) (Or.inl ⟨by rfl,?y6⟩) (by assumption) ?r6
 case y6=>intro w hSw;clear hSw;go_simp;(try with_reducible rfl)
 simp only [Act.put,List.setIfInBounds_toArray,List.set_cons_zero,List.set_cons_succ]
 refine wpAnyH_take (i:=2) (oi:=⟨some 6,_,_,_,_,_⟩) (v:=?v7) rfl (by kernel_rfl) (by kernel_rfl) (by kernel_rfl) (fun _ _ _ h=>h) (Or.inl ⟨by rfl,?y7⟩) (by assumption) ?r7
 case y7=>intro w hSw;clear hSw;go_simp;(try with_reducible rfl)
 simp only [Act.put,List.setIfInBounds_toArray,List.set_cons_zero,List.set_cons_succ]
 refine wpAnyH_take (i:=3) (oi:=⟨some 7,_,_,_,_,_⟩) (v:=?v8) rfl (by kernel_rfl) (by kernel_rfl) (by kernel_rfl) (fun _ _ _ h=>h) (Or.inl ⟨by rfl,?y8⟩) (by assumption) ?r8
 case y8=>intro w hSw;clear hSw;go_simp;(try with_reducible rfl)
 simp only [Act.put,List.setIfInBounds_toArray,List.set_cons_zero,List.set_cons_succ]
 refine wpAnyH_take (i:=4) (oi:=⟨some 8,_,_,_,_,_⟩) (v:=?v9) rfl (by kernel_rfl) (by kernel_rfl) (by kernel_rfl) (fun _ _ _ h=>h) (Or.inl ⟨by rfl,?y9⟩) (by assumption) ?r9
 case y9=>intro w hSw;clear hSw;go_simp;(try with_reducible rfl)
 simp only [Act.put,List.setIfInBounds_toArray,List.set_cons_zero,List.set_cons_succ]
 refine wpAnyH_take (i:=5) (oi:=⟨some 9,_,_,_,_,_⟩) (v:=?v10) rfl (by kernel_rfl) (by kernel_rfl) (by kernel_rfl) (fun _ _ _ h=>h) (Or.inl ⟨by rfl,?y10⟩) (by assumption) ?r10
 case y10=>intro w hSw;skip;go_simp;(try with_reducible rfl)
 simp only [Act.put,List.setIfInBounds_toArray,List.set_cons_zero,List.set_cons_succ]
 refine wpAnyH_take (i:=7) (oi:=⟨some 11,_,_,_,_,_⟩) (v:=?v11) rfl (by kernel_rfl) (by kernel_rfl) (by kernel_rfl) (fun _ _ _ h=>h) (Or.inl ⟨by rfl,?y11⟩) (by assumption) ?r11
 case y11=>intro w hSw;clear hSw;go_simp;(try with_reducible rfl)
 simp only [Act.put,List.setIfInBounds_toArray,List.set_cons_zero,List.set_cons_succ]
 refine wpAnyH_ready (rs:=[1]) (by kernel_rfl) (by simp) ?_
 refine AllReadyH.cons (o:=⟨some 5,_,_,_,_,_⟩) rfl (fun K hK=>?_) AllReadyH.nil
 go_simp
 refine (HTi.out _ T1.out.i.at_).mono ?_
 rintro e w1 ⟨rfl,hb⟩
 have T2:=Lib.hid (T1.out.to hb)
 clear hb
 go_wp2_with fail
 refine hK.out _ _ (sx_of (Lib.hid T2.out.i)) (fun hHeld=>?_)
 clear hK
 try simp only [List.setIfInBounds_toArray,List.set_cons_zero,List.set_cons_succ]
 refine wpAnyH_take (i:=9) (oi:=⟨some 13,_,_,_,_,_⟩) (v:=?v12) rfl (by kernel_rfl) (by kernel_rfl) (by kernel_rfl) (fun _ _ _ h=>h) (Or.inl ⟨by rfl,?y12⟩) (by assumption) ?r12
 case y12=>intro w hSw;clear hSw;go_simp;(try with_reducible rfl)
 simp only [Act.put,List.setIfInBounds_toArray,List.set_cons_zero,List.set_cons_succ]
 refine wpAnyH_ready (rs:=[6]) (by kernel_rfl) (by simp) ?_
 refine AllReadyH.cons (o:=⟨some 10,_,_,_,_,_⟩) rfl (fun K hK=>?_) AllReadyH.nil
 go_simp
 refine (HDe.out _ T2.out.i.at_).mono ?_
 rintro e w2 ⟨rfl,rfl⟩
 go_wp2_with fail
 refine hK.out _ _ (sx_of (Lib.hid T2.out.i)) (fun hHeld=>?_)
 clear hK
 try simp only [List.setIfInBounds_toArray,List.set_cons_zero,List.set_cons_succ]
 refine wpAnyH_ready (rs:=[8]) (by kernel_rfl) (by simp) ?_
 refine AllReadyH.cons (o:=⟨some 12,_,_,_,_,_⟩) rfl (fun K hK=>?_) AllReadyH.nil
 go_simp
 refine (HIn.out _ T2.out.i.at_).mono ?_
 rintro e w3 ⟨rfl,hb⟩
 have T3:=Lib.hid (T2.out.to hb)
 clear hb
 go_wp2_with fail
 refine hK.out _ _ (sx_of (Lib.hid T3.out.i)) (fun hHeld=>?_)
 clear hK
 try simp only [List.setIfInBounds_toArray,List.set_cons_zero,List.set_cons_succ]
 refine wpAnyH_ready (rs:=[10]) (by kernel_rfl) (by simp) ?_
 refine AllReadyH.cons (o:=⟨none,_,_,_,_,_⟩) rfl (fun K hK=>?_) AllReadyH.nil
 have c0:=T3.out.ev.cell (i:=0) (v:=.int .u64 0) rfl
 have y0:=T3.out.ev.free 0
 have T4:=Lib.hid (T3.out.set (cs':=#[.int .u64 (s.c.t:Int),.int .u64 (sd:Int),.int .u64 (si:Int),.int .u64 (sr:Int),.int .u64 (rt:Int),.bool sl,.bool sm,.int .u64 0,.int .u64 (ac:Int),.int .u64 (lo:Int),.int .u64 0]) 0 (.int .u64 (s.c.t:Int)) rfl)
 go_simp
 refine hK.out _ _ (sx_of (Lib.hid T4.out.i)) (fun hHeld=>?_)
 clear hK
 try simp only [List.setIfInBounds_toArray,List.set_cons_zero,List.set_cons_succ]
 refine wpAnyH_take (i:=11) (oi:=⟨some 14,_,_,_,_,_⟩) (v:=?v13) rfl (by kernel_rfl) (by kernel_rfl) (by kernel_rfl) (fun _ _ _ h=>h) (Or.inl ⟨by rfl,?y13⟩) (by assumption) ?r13
 case y13=>intro w hSw;clear hSw;go_simp;(try with_reducible rfl)
 simp only [Act.put,List.setIfInBounds_toArray,List.set_cons_zero,List.set_cons_succ]
 refine wpAnyH_ready (rs:=[12]) (by kernel_rfl) (by simp) ?_
 refine AllReadyH.cons (o:=⟨none,_,_,_,_,_⟩) rfl (fun K hK=>?_) AllReadyH.nil
 have c7:=T4.out.ev.cell (i:=7) (v:=.int .u64 0) rfl
 have y7:=T4.out.ev.free 7
 have T5:=Lib.hid (T4.out.set (cs':=#[.int .u64 (s.c.t:Int),.int .u64 (sd:Int),.int .u64 (si:Int),.int .u64 (sr:Int),.int .u64 (rt:Int),.bool sl,.bool sm,.int .u64 (s.a.n:Int),.int .u64 (ac:Int),.int .u64 (lo:Int),.int .u64 0]) 7 (.int .u64 (s.a.n:Int)) rfl)
 go_simp
 refine hK.out _ _ (sx_of (Lib.hid T5.out.i)) (fun hHeld=>?_)
 clear hK
 try simp only [List.setIfInBounds_toArray,List.set_cons_zero,List.set_cons_succ]
 refine wpAnyH_take (i:=13) (oi:=⟨some 15,_,_,_,_,_⟩) (v:=?v14) rfl (by kernel_rfl) (by kernel_rfl) (by kernel_rfl) (fun _ _ _ h=>h) (Or.inl ⟨by rfl,?y14⟩) (by assumption) ?r14
 case y14=>intro w hSw;clear hSw;go_simp;(try with_reducible rfl)
 simp only [Act.put,List.setIfInBounds_toArray,List.set_cons_zero,List.set_cons_succ]
 refine wpAnyH_ready (rs:=[14]) (by kernel_rfl) (by simp) ?_
 refine AllReadyH.cons (o:=⟨none,_,_,_,_,_⟩) rfl (fun K hK=>?_) AllReadyH.nil
 have c10:=T5.out.ev.cell (i:=10) (v:=.int .u64 0) rfl
 have y10:=T5.out.ev.free 10
 have T6:=Lib.hid (T5.out.set (cs':=#[.int .u64 (s.c.t:Int),.int .u64 (sd:Int),.int .u64 (si:Int),.int .u64 (sr:Int),.int .u64 (rt:Int),.bool sl,.bool sm,.int .u64 (s.a.n:Int),.int .u64 (ac:Int),.int .u64 (lo:Int),.int .u64 (s.L.fl:Int)]) 10 (.int .u64 (s.L.fl:Int)) rfl)
 go_simp
 refine hK.out _ _ (sx_of (Lib.hid T6.out.i)) (fun hHeld=>?_)
 clear hK
 try simp only [List.setIfInBounds_toArray,List.set_cons_zero,List.set_cons_succ]
 refine wpAnyH_done (by kernel_rfl) ?_ _
 go_wp2_with fail
 have T7:=Lib.hid (T6.out.to ((Drawn.drew _).below _))
 have v0:=tx_v (W:=W) (B:=B) (D:=D) (cs:=#[.int .u64 (s.c.t:Int),.int .u64 (sd:Int),.int .u64 (si:Int),.int .u64 (sr:Int),.int .u64 (rt:Int),.bool sl,.bool sm,.int .u64 (s.a.n:Int),.int .u64 (ac:Int),.int .u64 (lo:Int),.int .u64 (s.L.fl:Int)]) (i:=0) (v:=.int .u64 (s.c.t:Int)) rfl
 have v1:=tx_v (W:=W) (B:=B) (D:=D) (cs:=#[.int .u64 (s.c.t:Int),.int .u64 (sd:Int),.int .u64 (si:Int),.int .u64 (sr:Int),.int .u64 (rt:Int),.bool sl,.bool sm,.int .u64 (s.a.n:Int),.int .u64 (ac:Int),.int .u64 (lo:Int),.int .u64 (s.L.fl:Int)]) (i:=1) (v:=.int .u64 (sd:Int)) rfl
 have v2:=tx_v (W:=W) (B:=B) (D:=D) (cs:=#[.int .u64 (s.c.t:Int),.int .u64 (sd:Int),.int .u64 (si:Int),.int .u64 (sr:Int),.int .u64 (rt:Int),.bool sl,.bool sm,.int .u64 (s.a.n:Int),.int .u64 (ac:Int),.int .u64 (lo:Int),.int .u64 (s.L.fl:Int)]) (i:=2) (v:=.int .u64 (si:Int)) rfl
 have v3:=tx_v (W:=W) (B:=B) (D:=D) (cs:=#[.int .u64 (s.c.t:Int),.int .u64 (sd:Int),.int .u64 (si:Int),.int .u64 (sr:Int),.int .u64 (rt:Int),.bool sl,.bool sm,.int .u64 (s.a.n:Int),.int .u64 (ac:Int),.int .u64 (lo:Int),.int .u64 (s.L.fl:Int)]) (i:=3) (v:=.int .u64 (sr:Int)) rfl
 have v4:=tx_v (W:=W) (B:=B) (D:=D) (cs:=#[.int .u64 (s.c.t:Int),.int .u64 (sd:Int),.int .u64 (si:Int),.int .u64 (sr:Int),.int .u64 (rt:Int),.bool sl,.bool sm,.int .u64 (s.a.n:Int),.int .u64 (ac:Int),.int .u64 (lo:Int),.int .u64 (s.L.fl:Int)]) (i:=4) (v:=.int .u64 (rt:Int)) rfl
 have v5:=tx_v (W:=W) (B:=B) (D:=D) (cs:=#[.int .u64 (s.c.t:Int),.int .u64 (sd:Int),.int .u64 (si:Int),.int .u64 (sr:Int),.int .u64 (rt:Int),.bool sl,.bool sm,.int .u64 (s.a.n:Int),.int .u64 (ac:Int),.int .u64 (lo:Int),.int .u64 (s.L.fl:Int)]) (i:=5) (v:=.bool sl) rfl
 have v6:=tx_v (W:=W) (B:=B) (D:=D) (cs:=#[.int .u64 (s.c.t:Int),.int .u64 (sd:Int),.int .u64 (si:Int),.int .u64 (sr:Int),.int .u64 (rt:Int),.bool sl,.bool sm,.int .u64 (s.a.n:Int),.int .u64 (ac:Int),.int .u64 (lo:Int),.int .u64 (s.L.fl:Int)]) (i:=6) (v:=.bool sm) rfl
 have v7:=tx_v (W:=W) (B:=B) (D:=D) (cs:=#[.int .u64 (s.c.t:Int),.int .u64 (sd:Int),.int .u64 (si:Int),.int .u64 (sr:Int),.int .u64 (rt:Int),.bool sl,.bool sm,.int .u64 (s.a.n:Int),.int .u64 (ac:Int),.int .u64 (lo:Int),.int .u64 (s.L.fl:Int)]) (i:=7) (v:=.int .u64 (s.a.n:Int)) rfl
 have v8:=tx_v (W:=W) (B:=B) (D:=D) (cs:=#[.int .u64 (s.c.t:Int),.int .u64 (sd:Int),.int .u64 (si:Int),.int .u64 (sr:Int),.int .u64 (rt:Int),.bool sl,.bool sm,.int .u64 (s.a.n:Int),.int .u64 (ac:Int),.int .u64 (lo:Int),.int .u64 (s.L.fl:Int)]) (i:=8) (v:=.int .u64 (ac:Int)) rfl
 have v9:=tx_v (W:=W) (B:=B) (D:=D) (cs:=#[.int .u64 (s.c.t:Int),.int .u64 (sd:Int),.int .u64 (si:Int),.int .u64 (sr:Int),.int .u64 (rt:Int),.bool sl,.bool sm,.int .u64 (s.a.n:Int),.int .u64 (ac:Int),.int .u64 (lo:Int),.int .u64 (s.L.fl:Int)]) (i:=9) (v:=.int .u64 (lo:Int)) rfl
 have v10:=tx_v (W:=W) (B:=B) (D:=D) (cs:=#[.int .u64 (s.c.t:Int),.int .u64 (sd:Int),.int .u64 (si:Int),.int .u64 (sr:Int),.int .u64 (rt:Int),.bool sl,.bool sm,.int .u64 (s.a.n:Int),.int .u64 (ac:Int),.int .u64 (lo:Int),.int .u64 (s.L.fl:Int)]) (i:=10) (v:=.int .u64 (s.L.fl:Int)) rfl
 have p10:=tx_p (W:=W) (B:=B) (D:=D) (cs:=#[.int .u64 (s.c.t:Int),.int .u64 (sd:Int),.int .u64 (si:Int),.int .u64 (sr:Int),.int .u64 (rt:Int),.bool sl,.bool sm,.int .u64 (s.a.n:Int),.int .u64 (ac:Int),.int .u64 (lo:Int),.int .u64 (s.L.fl:Int)]) (i:=10) (v:=.pointer (some ⟨D.e.b,0,none⟩)) (fun _ _=>rfl)
 clear T1 T2 T3 T4 T5 T6 c0 c7 c10 y0 y7 y10
 refine wp_region_held_drew (S:=(fun w'=>Hid (TellX W B D #[.int .u64 (s.c.t:Int),.int .u64 (sd:Int),.int .u64 (si:Int),.int .u64 (sr:Int),.int .u64 (rt:Int),.bool sl,.bool sm,.int .u64 (s.a.n:Int),.int .u64 (ac:Int),.int .u64 (lo:Int),.int .u64 (s.L.fl:Int)] w'))) (by kernel_rfl) (tx_of T7) (fun hHeld=>?_)
 simp only [List.size_toArray,List.length_cons,List.length_nil,Nat.reduceAdd,Array.replicate_succ,Array.replicate_zero,List.push_toArray,List.nil_append,List.cons_append]
 refine wpAnyH_take (i:=0) (oi:=⟨some 16,_,_,_,_,_⟩) (v:=?v1) rfl (by kernel_rfl) (by kernel_rfl) (by kernel_rfl) (fun _ _ _ h=>h) (Or.inl ⟨by rfl,?y1⟩) (by assumption) ?r1
 case y1=>intro w hSw;clear hSw;go_simp;(try with_reducible rfl)
 simp only [Act.put,List.setIfInBounds_toArray,List.set_cons_zero,List.set_cons_succ]
 refine wpAnyH_take (i:=1) (oi:=⟨some 17,_,_,_,_,_⟩) (v:=?v2) rfl (by kernel_rfl) (by kernel_rfl) (by kernel_rfl) (fun _ _ _ h=>h) (Or.inl ⟨by rfl,?y2⟩) (by assumption) ?r2
 case y2=>intro w hSw;clear hSw;go_simp;(try with_reducible rfl)
 simp only [Act.put,List.setIfInBounds_toArray,List.set_cons_zero,List.set_cons_succ]
 refine wpAnyH_take (i:=2) (oi:=⟨some 18,_,_,_,_,_⟩) (v:=?v3) rfl (by kernel_rfl) (by kernel_rfl) (by kernel_rfl) (fun _ _ _ h=>h) (Or.inl ⟨by rfl,?y3⟩) (by assumption) ?r3
 case y3=>intro w hSw;clear hSw;go_simp;(try with_reducible rfl)
 simp only [Act.put,List.setIfInBounds_toArray,List.set_cons_zero,List.set_cons_succ]
 refine wpAnyH_take (i:=3) (oi:=⟨some 19,_,_,_,_,_⟩) (v:=?v4) rfl (by kernel_rfl) (by kernel_rfl) (by kernel_rfl) (fun _ _ _ h=>h) (Or.inl ⟨by rfl,?y4⟩) (by assumption) ?r4
 case y4=>intro w hSw;skip;go_simp;(try with_reducible rfl)
 simp only [Act.put,List.setIfInBounds_toArray,List.set_cons_zero,List.set_cons_succ]
 refine wpAnyH_take (i:=4) (oi:=⟨some 20,_,_,_,_,_⟩) (v:=?v5) rfl (by kernel_rfl) (by kernel_rfl) (by kernel_rfl) (fun _ _ _ h=>h) (Or.inl ⟨by rfl,?y5⟩) (by assumption) ?r5
 case y5=>intro w hSw;skip;go_simp;(try with_reducible rfl)
 simp only [Act.put,List.setIfInBounds_toArray,List.set_cons_zero,List.set_cons_succ]
 refine wpAnyH_ready (rs:=[5]) (by kernel_rfl) (by simp) ?_
 refine AllReadyH.cons (o:=⟨some 21,_,_,_,_,_⟩) rfl (fun K hK=>?_) AllReadyH.nil
 go_simp
 refine (HOn.out _ T7.out.i.at_).mono ?_
 rintro e w5 hp
 obtain rfl:=hp.e
 have T8:=Lib.hid (T7.out.en hp hc)
 clear hp
 go_wp2_with fail
 refine hK.out _ _ (tx_of T8) (fun hHeld=>?_)
 clear hK
 try simp only [List.setIfInBounds_toArray,List.set_cons_zero,List.set_cons_succ]
 refine wpAnyH_done (by kernel_rfl) ?_ _
 go_wp2_with fail
 go_end0
 exact ⟨rfl,T8.out.i⟩
end Go.Proofs.YteoepabmnbkabaaGreatDoor

set_option linter.unusedVariables false
namespace Go.Proofs.YteoepabmnbkabaaGreatDoor
open Go.RowKit Cf
theorem Blk.srow {w:World} {g:Nat} {T:TypeId} {old:Array Value} (h:Blk w g T old) (cs:Array Value):Blk (w.setRow g cs) g T cs:=setRow_heap w g old cs T (0,0) h
theorem Blk.srow_other {w:World} {b g:Nat} {T:TypeId} {cs:Array Value} (h:Blk w b T cs) (hne:b≠g) (ds:Array Value):Blk (w.setRow g ds) b T cs:=(setRow_other w g b ds hne).trans h
theorem SndI.row {W w:World} {B n:Nat} {D:SD} {s:SN} {T:TypeId} {old:Array Value} (h:SndI W B D s w) (hb:Blk w n T old) (hT:T ∉ stypes) (hB:B≤W.heap.size) (hn:W.heap.size≤n) (cs:Array Value):SndI W B D s (w.setRow n cs):=by
 have b:Below B w (w.setRow n cs):=below_setRow (Below.refl _ _) (Nat.le_trans hB hn) cs
 have k:KN [T] w (w.setRow n cs):=fun U hU z ds q=>q.srow_other (q.ty hb (by simpa using hU)) cs
 exact ⟨h.at_.kn k (fun U hU q=>hT ((by simpa using q:U=T)▸hU)) b,h.bel.trans b,fun U hU z ds q=>(h.kt U hU z ds q).srow_other (by have:=q.lt;omega) cs⟩
def SN.sub (s:SN) (x:Nat):SN:={s with w:=s.w - x}
def SN.stp (s:SN):SN:={s with a:=s.stamp}
def SN.pkx (s:SN) (x:Nat):Pk:=⟨s.L.next,x,s.c.t,s.stamp.first,s.stamp.n,s.stamp.last,decide (s.stamp.mark≠0)⟩
def SN.putS (s:SN) (x:Nat):SN:={s with w:=s.w - x,a:=s.stamp,L:={s.L with out:=s.L.out ++ [s.pkx x],next:=s.L.next + 1}}
structure PutI (W:World) (B:Nat) (D:SD) (s:SN) (w:World):Prop where
 i:SndI W B D s w
 r:∃ds,ds.size=7∧Blk w W.heap.size 47 ds
 sz:B≤W.heap.size
theorem PutI.to {W w w':World} {B:Nat} {D:SD} {s:SN} (h:PutI W B D s w) (k:Below w.heap.size w w'):PutI W B D s w':=⟨h.i.to k,by obtain ⟨d,e,q⟩:=h.r;exact ⟨d,e,q.keep k⟩,h.sz⟩
theorem PutI.step {W w w':World} {B:Nat} {D:SD} {s s':SN} (h:PutI W B D s w) (k:SndOut w B D s' w'):PutI W B D s' w':=⟨h.i.step k,by obtain ⟨d,e,q⟩:=h.r;exact ⟨d,e,k.2.2 _ (by decide) _ _ q⟩,h.sz⟩
def StpAt (W:World) (n:Nat) (cs:Array Value) (w:World):Prop:=Blk w n 45 cs∧W.heap.size < n
theorem StpAt.to {W w w':World} {n:Nat} {cs:Array Value} (h:StpAt W n cs w) (k:Below w.heap.size w w'):StpAt W n cs w':=⟨h.1.keep k,h.2⟩
theorem StpAt.step {W w w':World} {B n:Nat} {D:SD} {s':SN} {cs:Array Value} (h:StpAt W n cs w) (k:SndOut w B D s' w'):StpAt W n cs w':=⟨k.2.2 _ (by decide) _ _ h.1,h.2⟩
theorem PutI.new {W w:World} {B:Nat} {D:SD} {s:SN} (h:PutI W B D s w) (cs:Array Value):PutI W B D s (w.alloc (.cells cs 45))∧StpAt W w.heap.size cs (w.alloc (.cells cs 45)):=⟨h.to (al_be _ _),Blk.new _ _ _,by obtain ⟨d,e,q⟩:=h.r;exact q.lt⟩
theorem PutI.rowS {W w:World} {B n:Nat} {D:SD} {s:SN} {cs:Array Value} (h:PutI W B D s w) (a:StpAt W n cs w) (ds:Array Value):PutI W B D s (w.setRow n ds)∧StpAt W n ds (w.setRow n ds):=
 ⟨⟨h.i.row a.1 (by decide) h.sz (Nat.le_of_lt a.2) ds,by obtain ⟨d,e,q⟩:=h.r;exact ⟨d,e,q.srow_other (Nat.ne_of_lt a.2) ds⟩,h.sz⟩,a.1.srow ds,a.2⟩
theorem PutI.rowR {W w:World} {B n:Nat} {D:SD} {s:SN} {cs:Array Value} (h:PutI W B D s w) (a:StpAt W n cs w) (ds:Array Value) (hd:ds.size=7):PutI W B D s (w.setRow W.heap.size ds)∧StpAt W n cs (w.setRow W.heap.size ds)∧Blk (w.setRow W.heap.size ds) W.heap.size 47 ds:=by
 obtain ⟨d,e,q⟩:=h.r
 exact ⟨⟨h.i.row q (by decide) h.sz (Nat.le_refl _) ds,⟨ds,hd,q.srow ds⟩,h.sz⟩,⟨a.1.srow_other (Nat.ne_of_gt a.2) ds,a.2⟩,q.srow ds⟩
def PutX (W:World) (B:Nat) (D:SD) (n:Nat) (cs:Array Value) (w:World):Prop:=SndX W B D w∧StpAt W n cs w
theorem px_of {W w:World} {B n:Nat} {D:SD} {s:SN} {cs:Array Value} (h:Hid (PutI W B D s w)) (a:Hid (StpAt W n cs w)):Hid (PutX W B D n cs w):=Lib.hid ⟨⟨s,h.out.i⟩,a.out⟩
theorem px_v {W w0:World} {B n:Nat} {D:SD} {cs:Array Value} {i:Nat} {v:Value} (x:Hid (PutX W B D n cs w0)) (hv:cs[i]? =some v):∀w,Hid (PutX W B D n cs w)→w.cell? ⟨n,i,none⟩=some v:=fun w q=>q.out.2.1.cell hv
theorem px_p {W w0:World} {B n:Nat} {D:SD} {cs:Array Value} {i:Nat} {v:Value} (x:Hid (PutX W B D n cs w0)) (hv:∀c m,(scells D c m)[i]? =some v):∀w,Hid (PutX W B D n cs w)→w.cell? ⟨D.b,i,none⟩=some v:=fun w q=>by
 obtain ⟨s,h⟩:=q.out.1
 exact h.at_.b.cell (hv _ _)
set_option maxRecDepth 100000 in
set_option maxHeartbeats 8000000 in
theorem sn_put {B:Nat} {D:SD} {s:SN} (x:Nat) (W:World) (h:SndAt W B D s) (hx:x≤s.w) (hw:s.w≤18446744073709551615) (hn:s.L.next≤5999) (hp:(s.pkx x).ok):
  Calls Tryz.prog 111 #[.pointer (some ⟨D.b,0,none⟩),.int .u64 (x:Int)] W fun e w'=>e=.returned (.agg #[.int .u64 (s.L.next:Int),.int .u64 (x:Int),.int .u64 (s.c.t:Int),.int .u64 (s.stamp.first:Int),.int .u64 (s.stamp.n:Int),.int .u64 (s.stamp.last:Int),.bool (decide (s.stamp.mark≠0))])∧SndI W B D (s.putS x) w':=by
 have HTi:Hid (∀w,SndAt w B D (s.sub x)→Calls Tryz.prog 15 #[.pointer (some ⟨D.b,0,none⟩)] w fun e w'=>e=.returned (.int .u64 (s.c.t:Int))∧Below w.heap.size w w'):=Lib.hid (fun w q=>sn_Time (s:=s.sub x) w q)
 have HIn:Hid (∀w,SndAt w B D (s.sub x)→Calls Tryz.prog 18 #[.pointer (some ⟨D.b,0,none⟩)] w fun e w'=>e=.returned (.int .u64 (s.L.fl:Int))∧Below w.heap.size w w'):=Lib.hid (fun w q=>sn_InFlight (s:=s.sub x) w q)
 have HSt:Hid (∀w,SndAt w B D (s.sub x)→Calls Tryz.prog 182 #[.pointer (some ⟨D.a,0,none⟩),.int .u64 (s.c.t:Int),.int .u64 (s.L.fl:Int)] w fun e w'=>e=.returned (.agg #[.int .u64 (s.c.t:Int),.int .u64 (s.stamp.first:Int),.int .u64 (s.stamp.n:Int),.int .u64 (s.stamp.last:Int),.bool (decide (s.stamp.mark≠0))])∧Hid (SndOut w B D (s.sub x).stp w')):=Lib.hid (fun w q=>(ra_Stamp D.a s.c.t s.L.fl s.a w q.a).mono (by rintro e w' hh;exact ⟨hh.e,Lib.hid (q.ra hh.blk hh.gr)⟩))
 have HSe:Hid (∀w,SndAt w B D (s.sub x).stp→Calls Tryz.prog 183 #[.pointer (some ⟨D.l,0,none⟩),.int .u64 (x:Int),.agg #[.int .u64 (s.c.t:Int),.int .u64 (s.stamp.first:Int),.int .u64 (s.stamp.n:Int),.int .u64 (s.stamp.last:Int),.bool (decide (s.stamp.mark≠0))]] w fun e w'=>e=.returned (.int .u64 (s.L.next:Int))∧Hid (SndOut w B D (s.putS x) w')):=Lib.hid (fun w q=>(led_Send q.l hn (s.pkx x) hp rfl).mono (by rintro e w' ⟨h1,h2,h3,h4⟩;exact ⟨h1,Lib.hid (q.led h2 h3 h4)⟩))
 have M0:Hid (PutI W B D s (W.alloc (.cells #[.int .u64 0,.int .u64 0,.int .u64 0,.int .u64 0,.int .u64 0,.int .u64 0,.bool false] 47))):=Lib.hid ⟨(SndI.start h).to (al_be _ _),⟨_,rfl,Blk.new _ _ _⟩,h.size⟩
 have c12:=M0.out.i.at_.b.cell (i:=12) (v:=.int .u64 (s.w:Int)) rfl
 have y12:=M0.out.i.at_.b.free 12
 have Mw:Hid (PutI W B D (s.sub x) _):=Lib.hid (M0.out.step (M0.out.i.at_.wt (s.w - x)))
 have e1:(s.w:Int) - (x:Int)=((s.w - x:Nat):Int):=by omega
 have e2:IntKind.u64.wrap ((s.w - x:Nat):Int)=((s.w - x:Nat):Int):=by rw [IntKind.wrap_u64];omega
 have p9:=sx_p (W:=W) (B:=B) (D:=D) (i:=9) (v:=.pointer (some ⟨D.a,0,none⟩)) (fun _ _=>rfl)
 clear h hx hw hn hp M0
 generalize s.w - x=y at *
 generalize s.w=z at *
 generalize s.c.t=t at *
 generalize s.L.fl=fl at *
 generalize s.L.next=nx at *
 generalize s.stamp.first=a1 at *
 generalize s.stamp.n=a2 at *
 generalize s.stamp.last=a3 at *
 generalize decide (s.stamp.mark≠0)=a4 at *
 go_enter Tryz.func111,Tryz.ntmps111
 go_upto_region 2 with fail
 generalize (W.alloc (.cells #[.int .u64 0,.int .u64 0,.int .u64 0,.int .u64 0,.int .u64 0,.int .u64 0,.bool false] 47)).setCell ⟨D.b,12,none⟩ (.int .u64 (y:Int))=w0 at *
 have M0:=Lib.hid (Mw.out.to ((Drawn.drew w0).below _))
 have X0:=sx_of (Lib.hid M0.out.i)
 clear Mw c12 y12 e1 e2
 go_cut [5] from 14 to 23 (fun v wx=>∃n,v=.pointer (some ⟨n,0,none⟩)∧StpAt W n #[.int .u64 (t:Int),.int .u64 (a1:Int),.int .u64 (a2:Int),.int .u64 (a3:Int),.bool a4] wx∧PutI W B D (s.sub x).stp wx)
 case first=>
  refine wp_region_noPanic ?_
  refine wp_region_held_drew (S:=(fun w'=>Hid (SndX W B D w'))) (by kernel_rfl) X0 (fun hHeld=>?_)
  simp only [List.size_toArray,List.length_cons,List.length_nil,Nat.reduceAdd,Array.replicate_succ,Array.replicate_zero,List.push_toArray,List.nil_append,List.cons_append]
  refine wpAnyH_take (i:=0) (oi:=⟨some 14,_,_,_,_,_⟩) (v:=?v24) rfl (by kernel_rfl) (by kernel_rfl) (by kernel_rfl) (fun _ _ _ h=>h) (Or.inl ⟨by rfl,?y24⟩) (by assumption) ?r24
  case y24=>intro w hSw;clear hSw;go_simp;(try with_reducible rfl)
  simp only [Act.put,List.setIfInBounds_toArray,List.set_cons_zero,List.set_cons_succ]
  refine wpAnyH_take (i:=1) (oi:=⟨some 15,_,_,_,_,_⟩) (v:=?v25) rfl (by kernel_rfl) (by kernel_rfl) (by kernel_rfl) (fun _ _ _ h=>h) (Or.inl ⟨by rfl,?y25⟩) (by assumption) ?r25
  case y25=>intro w hSw;clear hSw;go_simp;(try with_reducible rfl)
  simp only [Act.put,List.setIfInBounds_toArray,List.set_cons_zero,List.set_cons_succ]
  refine wpAnyH_take (i:=2) (oi:=⟨some 16,_,_,_,_,_⟩) (v:=?v26) rfl (by kernel_rfl) (by kernel_rfl) (by kernel_rfl) (fun _ _ _ h=>h) (Or.inl ⟨by rfl,?y26⟩) (by assumption) ?r26
  case y26=>intro w hSw;clear hSw;go_simp;(try with_reducible rfl)
  simp only [Act.put,List.setIfInBounds_toArray,List.set_cons_zero,List.set_cons_succ]
  refine wpAnyH_take (i:=3) (oi:=⟨some 17,_,_,_,_,_⟩) (v:=?v27) rfl (by kernel_rfl) (by kernel_rfl) (by kernel_rfl) (fun _ _ _ h=>h) (Or.inl ⟨by rfl,?y27⟩) (by assumption) ?r27
  case y27=>intro w hSw;skip;go_simp;(try with_reducible rfl)
  simp only [Act.put,List.setIfInBounds_toArray,List.set_cons_zero,List.set_cons_succ]
  refine wpAnyH_take (i:=4) (oi:=⟨some 18,_,_,_,_,_⟩) (v:=?v28) rfl (by kernel_rfl) (by kernel_rfl) (by kernel_rfl) (fun _ _ _ h=>h) (Or.inl ⟨by rfl,?y28⟩) (by assumption) ?r28
  case y28=>intro w hSw;clear hSw;go_simp;(try with_reducible rfl)
  simp only [Act.put,List.setIfInBounds_toArray,List.set_cons_zero,List.set_cons_succ]
  refine wpAnyH_take (i:=6) (oi:=⟨some 20,_,_,_,_,_⟩) (v:=?v29) rfl (by kernel_rfl) (by kernel_rfl) (by kernel_rfl) (fun _ _ _ h=>h) (Or.inl ⟨by rfl,?y29⟩) (by assumption) ?r29
  case y29=>intro w hSw;clear hSw;go_simp;(try with_reducible rfl)
  simp only [Act.put,List.setIfInBounds_toArray,List.set_cons_zero,List.set_cons_succ]
  refine wpAnyH_ready (rs:=[5,9]) (by kernel_rfl) (by simp) ?_
  refine AllReadyH.cons (o:=⟨some 19,_,_,_,_,_⟩) rfl (fun K hK=>?_) ?_
  ·go_simp
   refine (HTi.out _ (Hid.out (by assumption):PutI W B D (s.sub x) _).i.at_).mono ?_
   rintro e w1 ⟨rfl,hb⟩
   have M1:=Lib.hid ((Hid.out (by assumption):PutI W B D (s.sub x) _).to hb)
   (try have A:=Lib.hid (A.out.to hb))
   clear hb
   go_wp2_with fail
   refine hK.out _ _ (sx_of (Lib.hid M1.out.i)) (fun hHeld=>?_)
   clear hK
   try simp only [List.setIfInBounds_toArray,List.set_cons_zero,List.set_cons_succ]
   refine wpAnyH_ready (rs:=[7,9]) (by kernel_rfl) (by simp) ?_
   refine AllReadyH.cons (o:=⟨some 21,_,_,_,_,_⟩) rfl (fun K hK=>?_) ?_
   ·go_simp
    refine (HIn.out _ (Hid.out (by assumption):PutI W B D (s.sub x) _).i.at_).mono ?_
    rintro e w2 ⟨rfl,hb⟩
    have M2:=Lib.hid ((Hid.out (by assumption):PutI W B D (s.sub x) _).to hb)
    (try have A:=Lib.hid (A.out.to hb))
    clear hb
    go_wp2_with fail
    refine hK.out _ _ (sx_of (Lib.hid M2.out.i)) (fun hHeld=>?_)
    clear hK
    try simp only [List.setIfInBounds_toArray,List.set_cons_zero,List.set_cons_succ]
    refine wpAnyH_ready (rs:=[8,9]) (by kernel_rfl) (by simp) ?_
    refine AllReadyH.cons (o:=⟨some 22,_,_,_,_,_⟩) rfl (fun K hK=>?_) ?_
    ·go_simp
     refine (HSt.out _ (Hid.out (by assumption):PutI W B D (s.sub x) _).i.at_).mono ?_
     rintro e w3 ⟨rfl,ha⟩
     have M3:=Lib.hid ((Hid.out (by assumption):PutI W B D (s.sub x) _).step ha.out)
     (try have A:=Lib.hid (A.out.step ha.out))
     clear ha
     go_wp2_with fail
     refine hK.out _ _ (sx_of (Lib.hid M3.out.i)) (fun hHeld=>?_)
     clear hK
     try simp only [List.setIfInBounds_toArray,List.set_cons_zero,List.set_cons_succ]
     refine wpAnyH_ready (rs:=[9]) (by kernel_rfl) (by simp) ?_
     refine AllReadyH.cons (o:=⟨some 5,_,_,_,_,_⟩) rfl (fun K hK=>?_) AllReadyH.nil
     (first | have Z:=Lib.hid ((Hid.out (by assumption):PutI W B D (s.sub x).stp _).new #[.int .u64 0,.int .u64 0,.int .u64 0,.int .u64 0,.bool false]) | have Z:=Lib.hid ((Hid.out (by assumption):PutI W B D (s.sub x) _).new #[.int .u64 0,.int .u64 0,.int .u64 0,.int .u64 0,.bool false]))
     have M4:=Lib.hid Z.out.1
     have A:=Lib.hid Z.out.2
     clear Z
     go_simp
     refine hK.out _ _ (sx_of (Lib.hid M4.out.i)) (fun hHeld=>?_)
     clear hK
     try simp only [List.setIfInBounds_toArray,List.set_cons_zero,List.set_cons_succ]
     refine wpAnyH_ready (rs:=[10]) (by kernel_rfl) (by simp) ?_
     refine AllReadyH.cons (o:=⟨none,_,_,_,_,_⟩) rfl (fun K hK=>?_) AllReadyH.nil
     rw [if_pos (by rfl)]
     refine wp_store_row _ _ _ rfl _ #[.int .u64 (t:Int),.int .u64 (a1:Int),.int .u64 (a2:Int),.int .u64 (a3:Int),.bool a4] rfl rfl _ _ A.out.1 (by kernel_rfl) rfl (by simp [Value.oneCell']) ?_
     have Z:=Lib.hid ((Hid.out (by assumption):PutI W B D (s.sub x).stp _).rowS A.out #[.int .u64 (t:Int),.int .u64 (a1:Int),.int .u64 (a2:Int),.int .u64 (a3:Int),.bool a4])
     have M5:=Lib.hid Z.out.1
     have A5:=Lib.hid Z.out.2
     clear Z
     refine hK.out _ _ (sx_of (Lib.hid M5.out.i)) (fun hHeld=>?_)
     clear hK
     try simp only [List.setIfInBounds_toArray,List.set_cons_zero,List.set_cons_succ]
     refine wpAnyH_done (by kernel_rfl) ?_ _
     refine NoPanic.normal ?_
     go_wp2_with fail
     go_meet
     exact ⟨_,rfl,A5.out,M5.out⟩
    refine AllReadyH.cons (o:=⟨some 5,_,_,_,_,_⟩) rfl (fun K hK=>?_) AllReadyH.nil
    (first | have Z:=Lib.hid ((Hid.out (by assumption):PutI W B D (s.sub x).stp _).new #[.int .u64 0,.int .u64 0,.int .u64 0,.int .u64 0,.bool false]) | have Z:=Lib.hid ((Hid.out (by assumption):PutI W B D (s.sub x) _).new #[.int .u64 0,.int .u64 0,.int .u64 0,.int .u64 0,.bool false]))
    have M4:=Lib.hid Z.out.1
    have A:=Lib.hid Z.out.2
    clear Z
    go_simp
    refine hK.out _ _ (sx_of (Lib.hid M4.out.i)) (fun hHeld=>?_)
    clear hK
    try simp only [List.setIfInBounds_toArray,List.set_cons_zero,List.set_cons_succ]
    refine wpAnyH_ready (rs:=[8]) (by kernel_rfl) (by simp) ?_
    refine AllReadyH.cons (o:=⟨some 22,_,_,_,_,_⟩) rfl (fun K hK=>?_) AllReadyH.nil
    go_simp
    refine (HSt.out _ (Hid.out (by assumption):PutI W B D (s.sub x) _).i.at_).mono ?_
    rintro e w3 ⟨rfl,ha⟩
    have M3:=Lib.hid ((Hid.out (by assumption):PutI W B D (s.sub x) _).step ha.out)
    (try have A:=Lib.hid (A.out.step ha.out))
    clear ha
    go_wp2_with fail
    refine hK.out _ _ (sx_of (Lib.hid M3.out.i)) (fun hHeld=>?_)
    clear hK
    try simp only [List.setIfInBounds_toArray,List.set_cons_zero,List.set_cons_succ]
    refine wpAnyH_ready (rs:=[10]) (by kernel_rfl) (by simp) ?_
    refine AllReadyH.cons (o:=⟨none,_,_,_,_,_⟩) rfl (fun K hK=>?_) AllReadyH.nil
    rw [if_pos (by rfl)]
    refine wp_store_row _ _ _ rfl _ #[.int .u64 (t:Int),.int .u64 (a1:Int),.int .u64 (a2:Int),.int .u64 (a3:Int),.bool a4] rfl rfl _ _ A.out.1 (by kernel_rfl) rfl (by simp [Value.oneCell']) ?_
    have Z:=Lib.hid ((Hid.out (by assumption):PutI W B D (s.sub x).stp _).rowS A.out #[.int .u64 (t:Int),.int .u64 (a1:Int),.int .u64 (a2:Int),.int .u64 (a3:Int),.bool a4])
    have M5:=Lib.hid Z.out.1
    have A5:=Lib.hid Z.out.2
    clear Z
    refine hK.out _ _ (sx_of (Lib.hid M5.out.i)) (fun hHeld=>?_)
    clear hK
    try simp only [List.setIfInBounds_toArray,List.set_cons_zero,List.set_cons_succ]
    refine wpAnyH_done (by kernel_rfl) ?_ _
    refine NoPanic.normal ?_
    go_wp2_with fail
    go_meet
    exact ⟨_,rfl,A5.out,M5.out⟩
   refine AllReadyH.cons (o:=⟨some 5,_,_,_,_,_⟩) rfl (fun K hK=>?_) AllReadyH.nil
   (first | have Z:=Lib.hid ((Hid.out (by assumption):PutI W B D (s.sub x).stp _).new #[.int .u64 0,.int .u64 0,.int .u64 0,.int .u64 0,.bool false]) | have Z:=Lib.hid ((Hid.out (by assumption):PutI W B D (s.sub x) _).new #[.int .u64 0,.int .u64 0,.int .u64 0,.int .u64 0,.bool false]))
   have M4:=Lib.hid Z.out.1
   have A:=Lib.hid Z.out.2
   clear Z
   go_simp
   refine hK.out _ _ (sx_of (Lib.hid M4.out.i)) (fun hHeld=>?_)
   clear hK
   try simp only [List.setIfInBounds_toArray,List.set_cons_zero,List.set_cons_succ]
   refine wpAnyH_ready (rs:=[7]) (by kernel_rfl) (by simp) ?_
   refine AllReadyH.cons (o:=⟨some 21,_,_,_,_,_⟩) rfl (fun K hK=>?_) AllReadyH.nil
   go_simp
   refine (HIn.out _ (Hid.out (by assumption):PutI W B D (s.sub x) _).i.at_).mono ?_
   rintro e w2 ⟨rfl,hb⟩
   have M2:=Lib.hid ((Hid.out (by assumption):PutI W B D (s.sub x) _).to hb)
   (try have A:=Lib.hid (A.out.to hb))
   clear hb
   go_wp2_with fail
   refine hK.out _ _ (sx_of (Lib.hid M2.out.i)) (fun hHeld=>?_)
   clear hK
   try simp only [List.setIfInBounds_toArray,List.set_cons_zero,List.set_cons_succ]
   refine wpAnyH_ready (rs:=[8]) (by kernel_rfl) (by simp) ?_
   refine AllReadyH.cons (o:=⟨some 22,_,_,_,_,_⟩) rfl (fun K hK=>?_) AllReadyH.nil
   go_simp
   refine (HSt.out _ (Hid.out (by assumption):PutI W B D (s.sub x) _).i.at_).mono ?_
   rintro e w3 ⟨rfl,ha⟩
   have M3:=Lib.hid ((Hid.out (by assumption):PutI W B D (s.sub x) _).step ha.out)
   (try have A:=Lib.hid (A.out.step ha.out))
   clear ha
   go_wp2_with fail
   refine hK.out _ _ (sx_of (Lib.hid M3.out.i)) (fun hHeld=>?_)
   clear hK
   try simp only [List.setIfInBounds_toArray,List.set_cons_zero,List.set_cons_succ]
   refine wpAnyH_ready (rs:=[10]) (by kernel_rfl) (by simp) ?_
   refine AllReadyH.cons (o:=⟨none,_,_,_,_,_⟩) rfl (fun K hK=>?_) AllReadyH.nil
   rw [if_pos (by rfl)]
   refine wp_store_row _ _ _ rfl _ #[.int .u64 (t:Int),.int .u64 (a1:Int),.int .u64 (a2:Int),.int .u64 (a3:Int),.bool a4] rfl rfl _ _ A.out.1 (by kernel_rfl) rfl (by simp [Value.oneCell']) ?_
   have Z:=Lib.hid ((Hid.out (by assumption):PutI W B D (s.sub x).stp _).rowS A.out #[.int .u64 (t:Int),.int .u64 (a1:Int),.int .u64 (a2:Int),.int .u64 (a3:Int),.bool a4])
   have M5:=Lib.hid Z.out.1
   have A5:=Lib.hid Z.out.2
   clear Z
   refine hK.out _ _ (sx_of (Lib.hid M5.out.i)) (fun hHeld=>?_)
   clear hK
   try simp only [List.setIfInBounds_toArray,List.set_cons_zero,List.set_cons_succ]
   refine wpAnyH_done (by kernel_rfl) ?_ _
   refine NoPanic.normal ?_
   go_wp2_with fail
   go_meet
   exact ⟨_,rfl,A5.out,M5.out⟩
  refine AllReadyH.cons (o:=⟨some 5,_,_,_,_,_⟩) rfl (fun K hK=>?_) AllReadyH.nil
  (first | have Z:=Lib.hid ((Hid.out (by assumption):PutI W B D (s.sub x).stp _).new #[.int .u64 0,.int .u64 0,.int .u64 0,.int .u64 0,.bool false]) | have Z:=Lib.hid ((Hid.out (by assumption):PutI W B D (s.sub x) _).new #[.int .u64 0,.int .u64 0,.int .u64 0,.int .u64 0,.bool false]))
  have M4:=Lib.hid Z.out.1
  have A:=Lib.hid Z.out.2
  clear Z
  go_simp
  refine hK.out _ _ (sx_of (Lib.hid M4.out.i)) (fun hHeld=>?_)
  clear hK
  try simp only [List.setIfInBounds_toArray,List.set_cons_zero,List.set_cons_succ]
  refine wpAnyH_ready (rs:=[5]) (by kernel_rfl) (by simp) ?_
  refine AllReadyH.cons (o:=⟨some 19,_,_,_,_,_⟩) rfl (fun K hK=>?_) AllReadyH.nil
  go_simp
  refine (HTi.out _ (Hid.out (by assumption):PutI W B D (s.sub x) _).i.at_).mono ?_
  rintro e w1 ⟨rfl,hb⟩
  have M1:=Lib.hid ((Hid.out (by assumption):PutI W B D (s.sub x) _).to hb)
  (try have A:=Lib.hid (A.out.to hb))
  clear hb
  go_wp2_with fail
  refine hK.out _ _ (sx_of (Lib.hid M1.out.i)) (fun hHeld=>?_)
  clear hK
  try simp only [List.setIfInBounds_toArray,List.set_cons_zero,List.set_cons_succ]
  refine wpAnyH_ready (rs:=[7]) (by kernel_rfl) (by simp) ?_
  refine AllReadyH.cons (o:=⟨some 21,_,_,_,_,_⟩) rfl (fun K hK=>?_) AllReadyH.nil
  go_simp
  refine (HIn.out _ (Hid.out (by assumption):PutI W B D (s.sub x) _).i.at_).mono ?_
  rintro e w2 ⟨rfl,hb⟩
  have M2:=Lib.hid ((Hid.out (by assumption):PutI W B D (s.sub x) _).to hb)
  (try have A:=Lib.hid (A.out.to hb))
  clear hb
  go_wp2_with fail
  refine hK.out _ _ (sx_of (Lib.hid M2.out.i)) (fun hHeld=>?_)
  clear hK
  try simp only [List.setIfInBounds_toArray,List.set_cons_zero,List.set_cons_succ]
  refine wpAnyH_ready (rs:=[8]) (by kernel_rfl) (by simp) ?_
  refine AllReadyH.cons (o:=⟨some 22,_,_,_,_,_⟩) rfl (fun K hK=>?_) AllReadyH.nil
  go_simp
  refine (HSt.out _ (Hid.out (by assumption):PutI W B D (s.sub x) _).i.at_).mono ?_
  rintro e w3 ⟨rfl,ha⟩
  have M3:=Lib.hid ((Hid.out (by assumption):PutI W B D (s.sub x) _).step ha.out)
  (try have A:=Lib.hid (A.out.step ha.out))
  clear ha
  go_wp2_with fail
  refine hK.out _ _ (sx_of (Lib.hid M3.out.i)) (fun hHeld=>?_)
  clear hK
  try simp only [List.setIfInBounds_toArray,List.set_cons_zero,List.set_cons_succ]
  refine wpAnyH_ready (rs:=[10]) (by kernel_rfl) (by simp) ?_
  refine AllReadyH.cons (o:=⟨none,_,_,_,_,_⟩) rfl (fun K hK=>?_) AllReadyH.nil
  rw [if_pos (by rfl)]
  refine wp_store_row _ _ _ rfl _ #[.int .u64 (t:Int),.int .u64 (a1:Int),.int .u64 (a2:Int),.int .u64 (a3:Int),.bool a4] rfl rfl _ _ A.out.1 (by kernel_rfl) rfl (by simp [Value.oneCell']) ?_
  have Z:=Lib.hid ((Hid.out (by assumption):PutI W B D (s.sub x).stp _).rowS A.out #[.int .u64 (t:Int),.int .u64 (a1:Int),.int .u64 (a2:Int),.int .u64 (a3:Int),.bool a4])
  have M5:=Lib.hid Z.out.1
  have A5:=Lib.hid Z.out.2
  clear Z
  refine hK.out _ _ (sx_of (Lib.hid M5.out.i)) (fun hHeld=>?_)
  clear hK
  try simp only [List.setIfInBounds_toArray,List.set_cons_zero,List.set_cons_succ]
  refine wpAnyH_done (by kernel_rfl) ?_ _
  refine NoPanic.normal ?_
  go_wp2_with fail
  go_meet
  exact ⟨_,rfl,A5.out,M5.out⟩
 case rest=>
  obtain ⟨n,rfl,hA,hM⟩:=hcut
  have A5:=Lib.hid hA
  have M5:=Lib.hid hM
  clear hA hM M0 X0 HTi HIn HSt
  go_wp2_with fail
  have M6:=Lib.hid (M5.out.to ((Drawn.drew _).below _))
  have A6:=Lib.hid (A5.out.to ((Drawn.drew _).below _))
  have X6:=px_of M6 A6
  have p7:=px_p X6 (i:=7) (v:=.pointer (some ⟨D.l,0,none⟩)) (fun _ _=>rfl)
  have v0:=px_v X6 (i:=0) (v:=.int .u64 (t:Int)) rfl
  have v1:=px_v X6 (i:=1) (v:=.int .u64 (a1:Int)) rfl
  have v2:=px_v X6 (i:=2) (v:=.int .u64 (a2:Int)) rfl
  have v3:=px_v X6 (i:=3) (v:=.int .u64 (a3:Int)) rfl
  have v4:=px_v X6 (i:=4) (v:=.bool a4) rfl
  clear M5 A5
  refine wp_region_noPanic ?_
  refine wp_region_held_drew (S:=(fun w'=>Hid (PutX W B D _ #[.int .u64 (t:Int),.int .u64 (a1:Int),.int .u64 (a2:Int),.int .u64 (a3:Int),.bool a4] w'))) (by kernel_rfl) X6 (fun hHeld=>?_)
  simp only [List.size_toArray,List.length_cons,List.length_nil,Nat.reduceAdd,Array.replicate_succ,Array.replicate_zero,List.push_toArray,List.nil_append,List.cons_append]
  refine wpAnyH_take (i:=0) (oi:=⟨some 23,_,_,_,_,_⟩) (v:=?v15) rfl (by kernel_rfl) (by kernel_rfl) (by kernel_rfl) (fun _ _ _ h=>h) (Or.inl ⟨by rfl,?y15⟩) (by assumption) ?r15
  case y15=>intro w hSw;clear hSw;go_simp;(try with_reducible rfl)
  simp only [Act.put,List.setIfInBounds_toArray,List.set_cons_zero,List.set_cons_succ]
  refine wpAnyH_take (i:=1) (oi:=⟨some 24,_,_,_,_,_⟩) (v:=?v16) rfl (by kernel_rfl) (by kernel_rfl) (by kernel_rfl) (fun _ _ _ h=>h) (Or.inl ⟨by rfl,?y16⟩) (by assumption) ?r16
  case y16=>intro w hSw;clear hSw;go_simp;(try with_reducible rfl)
  simp only [Act.put,List.setIfInBounds_toArray,List.set_cons_zero,List.set_cons_succ]
  refine wpAnyH_take (i:=2) (oi:=⟨some 25,_,_,_,_,_⟩) (v:=?v17) rfl (by kernel_rfl) (by kernel_rfl) (by kernel_rfl) (fun _ _ _ h=>h) (Or.inl ⟨by rfl,?y17⟩) (by assumption) ?r17
  case y17=>intro w hSw;clear hSw;go_simp;(try with_reducible rfl)
  simp only [Act.put,List.setIfInBounds_toArray,List.set_cons_zero,List.set_cons_succ]
  refine wpAnyH_take (i:=3) (oi:=⟨some 26,_,_,_,_,_⟩) (v:=?v18) rfl (by kernel_rfl) (by kernel_rfl) (by kernel_rfl) (fun _ _ _ h=>h) (Or.inl ⟨by rfl,?y18⟩) (by assumption) ?r18
  case y18=>intro w hSw;skip;go_simp;(try with_reducible rfl)
  simp only [Act.put,List.setIfInBounds_toArray,List.set_cons_zero,List.set_cons_succ]
  refine wpAnyH_take (i:=4) (oi:=⟨some 27,_,_,_,_,_⟩) (v:=?v19) rfl (by kernel_rfl) (by kernel_rfl) (by kernel_rfl) (fun _ _ _ h=>h) (Or.inl ⟨by rfl,?y19⟩) (by assumption) ?r19
  case y19=>intro w hSw;clear hSw;go_simp;(try with_reducible rfl)
  simp only [Act.put,List.setIfInBounds_toArray,List.set_cons_zero,List.set_cons_succ]
  refine wpAnyH_take (i:=5) (oi:=⟨some 28,_,_,_,_,_⟩) (v:=?v20) rfl (by kernel_rfl) (by kernel_rfl) (by kernel_rfl) (fun _ _ _ h=>h) (Or.inl ⟨by rfl,?y20⟩) (by assumption) ?r20
  case y20=>intro w hSw;skip;go_simp;(try with_reducible rfl)
  simp only [Act.put,List.setIfInBounds_toArray,List.set_cons_zero,List.set_cons_succ]
  refine wpAnyH_take (i:=7) (oi:=⟨some 30,_,_,_,_,_⟩) (v:=?v21) rfl (by kernel_rfl) (by kernel_rfl) (by kernel_rfl) (fun _ _ _ h=>h) (Or.inl ⟨by rfl,?y21⟩) (by assumption) ?r21
  case y21=>intro w hSw;clear hSw;go_simp;(try with_reducible rfl)
  simp only [Act.put,List.setIfInBounds_toArray,List.set_cons_zero,List.set_cons_succ]
  refine wpAnyH_take (i:=8) (oi:=⟨some 31,_,_,_,_,_⟩) (v:=?v22) rfl (by kernel_rfl) (by kernel_rfl) (by kernel_rfl) (fun _ _ _ h=>h) (Or.inl ⟨by rfl,?y22⟩) (by assumption) ?r22
  case y22=>intro w hSw;skip;go_simp;(try with_reducible rfl)
  simp only [Act.put,List.setIfInBounds_toArray,List.set_cons_zero,List.set_cons_succ]
  refine wpAnyH_ready (rs:=[6]) (by kernel_rfl) (by simp) ?_
  refine AllReadyH.cons (o:=⟨some 29,_,_,_,_,_⟩) rfl (fun K hK=>?_) AllReadyH.nil
  go_simp
  refine (HSe.out _ M6.out.i.at_).mono ?_
  rintro e w5 ⟨rfl,ha⟩
  have M7:=Lib.hid (M6.out.step ha.out)
  have A7:=Lib.hid (A6.out.step ha.out)
  clear ha
  go_wp2_with fail
  refine hK.out _ _ (px_of M7 A7) (fun hHeld=>?_)
  clear hK
  try simp only [List.setIfInBounds_toArray,List.set_cons_zero,List.set_cons_succ]
  refine wpAnyH_take (i:=9) (oi:=⟨some 32,_,_,_,_,_⟩) (v:=?v23) rfl (by kernel_rfl) (by kernel_rfl) (by kernel_rfl) (fun _ _ _ h=>h) (Or.inl ⟨by rfl,?y23⟩) (by assumption) ?r23
  case y23=>intro w hSw;clear hSw;go_simp;(try with_reducible rfl)
  simp only [Act.put,List.setIfInBounds_toArray,List.set_cons_zero,List.set_cons_succ]
  refine wpAnyH_ready (rs:=[10]) (by kernel_rfl) (by simp) ?_
  refine AllReadyH.cons (o:=⟨none,_,_,_,_,_⟩) rfl (fun K hK=>?_) AllReadyH.nil
  obtain ⟨ds,hds,hre⟩:=M7.out.r
  rw [if_pos (by rfl)]
  refine wp_store_row _ _ _ rfl _ #[.int .u64 (nx:Int),.int .u64 (x:Int),.int .u64 (t:Int),.int .u64 (a1:Int),.int .u64 (a2:Int),.int .u64 (a3:Int),.bool a4] rfl rfl _ _ hre (by kernel_rfl) hds (by simp [Value.oneCell']) ?_
  have Z:=Lib.hid (M7.out.rowR A7.out #[.int .u64 (nx:Int),.int .u64 (x:Int),.int .u64 (t:Int),.int .u64 (a1:Int),.int .u64 (a2:Int),.int .u64 (a3:Int),.bool a4] rfl)
  have M8:=Lib.hid Z.out.1
  have A8:=Lib.hid Z.out.2.1
  refine hK.out _ _ (px_of M8 A8) (fun hHeld=>?_)
  clear hK
  try simp only [List.setIfInBounds_toArray,List.set_cons_zero,List.set_cons_succ]
  refine wpAnyH_done (by kernel_rfl) ?_ _
  refine NoPanic.normal ?_
  have F1:=Lib.hid Z.out.2.2
  clear hre
  go_wp2_with fail
  exact bodyPost_ret (results_cell rfl _ _ W.heap.size 47 _ _ rfl F1.out Tryz.underlying47 rfl (by kernel_rfl)) rfl ⟨rfl,M8.out.i⟩
end Go.Proofs.YteoepabmnbkabaaGreatDoor

set_option linter.unusedVariables false
namespace Go.Proofs.YteoepabmnbkabaaGreatDoor
open Go.RowKit Cf
abbrev PRow (n:Nat) (w:World) (v:Value) (l:List Pk):Prop:=w.ownsRow n 47 7 v l.length (pcs l)
theorem PRow.kn {n:Nat} {w w':World} {v:Value} {l:List Pk} (h:PRow n w v l) (k:KN stypes w w'):PRow n w' v l:=by
 refine ⟨h.1,?_⟩
 rcases h.2 with c | ⟨g,cap,cur,e,h1,hb,h2⟩
 ·exact .inl c
 ·exact .inr ⟨g,cap,cur,e,h1,k _ (by decide) _ _ hb,h2⟩
theorem PRow.keep {n:Nat} {w w':World} {v:Value} {l:List Pk} (h:PRow n w v l) (k:Below w.heap.size w w'):PRow n w' v l:=h.kn (KN.below _ k)
theorem PRow.pr {n:Nat} {w:World} {v:Value} {l:List Pk} (h:PRow n w v l):PR w v l:=by
 refine ⟨h.1,?_⟩
 rcases h.2 with c | ⟨g,cap,cur,e,h1,h2⟩
 ·exact .inl c
 ·exact .inr ⟨g,cap,cur,e,Nat.zero_le _,h2⟩
theorem PRow.mono {n n':Nat} {w:World} {v:Value} {l:List Pk} (h:PRow n w v l) (hn:n'≤n):PRow n' w v l:=by
 refine ⟨h.1,?_⟩
 rcases h.2 with c | ⟨g,cap,cur,e,h1,h2⟩
 ·exact .inl c
 ·exact .inr ⟨g,cap,cur,e,Nat.le_trans hn h1,h2⟩
theorem SndI.app {W w w':World} {B:Nat} {D:SD} {s:SN} {v:Value} {l:List Pk} (h:SndI W B D s w) (hB:B≤W.heap.size) (hr:PRow W.heap.size w v l) (g:w.grownBy w' v.ownBlock):SndI W B D s w':=by
 have hl:=hr.lt
 have b:Below B w w':=(Below.refl _ _).grown g h.at_.size (fun k e=>Nat.le_trans hB (hl k e).1)
 have n:KN [47] w w':=fun T hT z cs q=>q.grown g (fun e=>by
  rcases hr.2 with ⟨rfl,_⟩ | ⟨g',cap,cur,rfl,_,hb,_⟩
  ·cases e
  ·simp only [Value.ownBlock,Option.some.injEq] at e
   exact q.ty hb (by simpa using hT) e)
 exact ⟨h.at_.kn n (by decide) b,h.bel.trans b,fun T hT z cs q=>(h.kt T hT z cs q).grown g (fun e=>by have:=(hl z e.symm).1;have:=q.lt;omega)⟩
theorem SndI.over {W w w':World} {B:Nat} {D:SD} {s s':SN} (h:SndI W B D s w) (k:SndI w B D s' w'):SndI W B D s' w':=h.step ⟨k.at_,k.bel,k.kt⟩
theorem PRow.app {n q:Nat} {w:World} {v:Value} {l:List Pk} {p:Pk} (hq:q=l.length + 1) (h:w.ownsRow n 47 7 v q (pcs l ++ Pk.cs p)):PRow n w v (l ++ [p]):=by
 subst hq
 unfold PRow pcs
 rw [List.flatMap_append,List.length_append,List.flatMap_singleton]
 exact h
def wOf (w:World) (b:Nat):Nat:=match w.cell? ⟨b,12,none⟩ with | some (.int _ n)=>n.toNat | _=>0
theorem wOf_eq {w:World} {B:Nat} {D:SD} {s:SN} (h:SndAt w B D s):wOf w D.b=s.w:=by
 unfold wOf
 rw [h.b.cell (i:=12) (v:=.int .u64 (s.w:Int)) rfl]
 simp
theorem SN.gos_not {s:SN} (h:s.goes=false) (k:Nat):SN.gos k s=(s,[]):=by
 cases k with
 | zero=>rfl
 | succ k=>rw [SN.gos,if_neg (by rw [h];decide)]
theorem SN.gos_yes {s:SN} (h:s.goes=true) (k:Nat):SN.gos (k + 1) s=((SN.gos k s.go1).1,s.pk :: (SN.gos k s.go1).2):=by rw [SN.gos,if_pos h]
def SendRel (W:World) (B:Nat) (D:SD) (s:SN) (c:Setup) (k d:Nat) (v:Value) (wr:World):Prop:=
 ∃(j m:Nat) (r:SN) (l:List Pk),SndI W B D r wr∧r.ok c k m d∧PRow W.heap.size wr v l∧s.run=((SN.gos j r).1,l ++ (SN.gos j r).2)∧r.w≤j∧r.L.next=s.L.next + l.length
def SndW (W:World) (B:Nat) (D:SD) (z:Nat) (w:World):Prop:=∃s,s.w=z∧SndI W B D s w
theorem sw_of {W w:World} {B:Nat} {D:SD} {s:SN} (h:Hid (SndI W B D s w)):Hid (SndW W B D s.w w):=Lib.hid ⟨s,rfl,h.out⟩
theorem sw_w {W:World} {B z:Nat} {D:SD}:∀w,Hid (SndW W B D z w)→w.cell? ⟨D.b,12,none⟩=some (.int .u64 (z:Int)):=fun w q=>by
 obtain ⟨s,rfl,h⟩:=q.out
 exact h.at_.b.cell rfl
theorem sw_p {W:World} {B z:Nat} {D:SD}:∀w,Hid (SndW W B D z w)→w.cell? ⟨D.b,11,none⟩=some (.pointer (some ⟨D.p,0,none⟩)):=fun w q=>by
 obtain ⟨s,_,h⟩:=q.out
 exact h.at_.b.cell rfl
theorem SN.take_same {s:SN} {x:Nat} (h:s.p.takeB x=false):{s with p:=s.p.takeS x}=s:=by
 have e:s.p.takeS x=s.p:=by
  unfold PS.takeB at h
  unfold PS.takeS
  rw [if_neg (of_decide_eq_false h)]
 rw [e]
def SN.taken (s:SN):SN:={s with p:=s.p.takeS s.size}
set_option maxRecDepth 100000 in
set_option maxHeartbeats 16000000 in
theorem sn_send {B:Nat} {D:SD} {s:SN} {c:Setup} {k m d:Nat} (W:World) (h:SndAt W B D s) (ho:s.ok c k m d) (hr:rightC c=true) (hn:s.L.next + s.run.2.length≤5999):
  Calls Tryz.prog 51 #[.pointer (some ⟨D.b,0,none⟩)] W fun e w'=>∃v,e=.returned v∧PRow W.heap.size w' v s.run.2∧SndI W B D s.run.1.rest w':=by
 obtain ⟨i0,hi,hz0,hz1,hz2⟩:=info_parts pk_info
 have HI:=Lib.hid hi
 have HZ0:=Lib.hid hz0
 have HZ1:=Lib.hid hz1
 have HZ2:=Lib.hid hz2
 clear hi hz0 hz1 hz2
 have HB:=Lib.hid h.size
 have HR0:=Lib.hid hr
 have HN:=Lib.hid hn
 have S0:Hid (SendRel W B D s c k d (.slice none 0 0) W):=Lib.hid ⟨s.w,m,s,[],SndI.start h,ho,World.ownsRow_nil W _ _ 7,rfl,Nat.le_refl _,rfl⟩
 clear h ho hr hn
 go_enter Tryz.func51,Tryz.ntmps51
 go_wp2_with fail
 go_loopw [3] (fun v wr=>SendRel W B D s c k d v wr) (fun _ wr=>wOf wr D.b)
 case atStart=>exact S0.out
 case round=>
  clear S0
  obtain ⟨j,m',r,l,hi,ho,hrow,hrun,hj,hnx⟩:=hrel
  obtain ⟨vp,vc,rfl⟩:=hrow.pr.form
  have I0:=Lib.hid hi
  have HO:=Lib.hid ho
  have HRow:=Lib.hid hrow
  have HRun:=Lib.hid hrun
  have HJ:=Lib.hid hj
  have HNx:=Lib.hid hnx
  have M0:=Lib.hid ((SndI.start hi.at_).to ((Drawn.drew _).below _))
  have X0:=sw_of M0
  have hsm:=ho.small
  have hw:r.w≤18446744073709551615:=by omega
  have hsz:r.size≤18446744073709551615:=by unfold SN.size;omega
  have HSz:=Lib.hid (fun w (q:SndAt w B D r)=>sn_size w q)
  have HFi:=Lib.hid (fun w (q:SndAt w B D r)=>sn_fits r.size w q hsz)
  have HTk:Hid (∀w,SndAt w B D r→Calls Tryz.prog 110 #[.pointer (some ⟨D.p,0,none⟩),.int .u64 (r.size:Int)] w fun e w'=>e=.returned (.bool (r.p.takeB r.size))∧Hid (SndOut w B D r.taken w')):=Lib.hid (fun w q=>(pc_Take D.p r.size r.p w q.p ho.pok hsz).mono (by rintro e w' hh;exact ⟨hh.e,Lib.hid (q.pc hh.blk hh.gr)⟩))
  have HIn:=Lib.hid (fun w (q:SndAt w B D r)=>sn_InFlight w q)
  have HLm:Hid (∀w,SndAt w B D r→Calls Tryz.prog 112 #[.pointer (some ⟨D.a,0,none⟩),.int .u64 (r.L.fl:Int)] w fun e w'=>e=.returned (.tuple #[])∧Hid (SndOut w B D {r with a:=r.a.limit r.L.fl} w')):=Lib.hid (fun w q=>(ra_Limit D.a r.L.fl r.a w q.a ho.a r.fl_le).mono (by rintro e w' ⟨h1,h2,h3⟩;exact ⟨h1,Lib.hid (q.ra h2 h3)⟩))
  have q12:=sw_w (W:=wr) (B:=B) (D:=D) (z:=r.w)
  have q11:=sw_p (W:=wr) (B:=B) (D:=D) (z:=r.w)
  clear hi ho hrow hrun hj hnx hsm hw
  obtain ⟨z,hz⟩:∃z,r.w=z:=⟨_,rfl⟩
  have HZ:=Lib.hid hz
  rw [hz] at q12 q11
  by_cases c0:r.w=0
  ·have d1:decide ((0:Int) < (z:Int))=false:=decide_eq_false (by omega)
   have d2:decide (0 < z)=false:=decide_eq_false (by omega)
   have hgo:r.goes=false:=by unfold SN.goes SN.fits;rw [hz,d2];rfl
   have HE:Hid (s.run=(r,l)):=Lib.hid (by rw [HRun.out,SN.gos_not hgo,List.append_nil])
   have HT:Hid (r.rest={r with a:=r.a.limit r.L.fl}):=Lib.hid (by unfold SN.rest;rw [if_pos c0])
   have e0:((z:Int) == 0)=true:=by rw [← hz,c0];rfl
   clear hgo c0 hz
   go_wp2_with fail
   refine wp_region_held_drew (S:=(fun w'=>Hid (SndW wr B D z w'))) (by kernel_rfl) (by rw [← HZ.out];exact X0) (fun hHeld=>?_)
   simp only [List.size_toArray,List.length_cons,List.length_nil,Nat.reduceAdd,Array.replicate_succ,Array.replicate_zero,List.push_toArray,List.nil_append,List.cons_append]
   refine wpAnyH_take (i:=0) (oi:=⟨some 4,_,_,_,_,_⟩) (v:=?v1) rfl (by kernel_rfl) (by kernel_rfl) (by kernel_rfl) (fun _ _ _ h=>h) (Or.inl ⟨by rfl,?y1⟩) (by assumption) ?r1
   case y1=>intro w hSw;clear hSw;go_simp;(try with_reducible rfl)
   simp only [Act.put,List.setIfInBounds_toArray,List.set_cons_zero,List.set_cons_succ]
   refine wpAnyH_take (i:=1) (oi:=⟨some 5,_,_,_,_,_⟩) (v:=?v2) rfl (by kernel_rfl) (by kernel_rfl) (by kernel_rfl) (fun _ _ _ h=>h) (Or.inl ⟨by rfl,?y2⟩) (by assumption) ?r2
   case y2=>intro w hSw;clear hSw;go_simp;(try with_reducible rfl)
   simp only [Act.put,List.setIfInBounds_toArray,List.set_cons_zero,List.set_cons_succ]
   refine wpAnyH_take (i:=2) (oi:=⟨some 6,_,_,_,_,_⟩) (v:=?v3) rfl (by kernel_rfl) (by kernel_rfl) (by kernel_rfl) (fun _ _ _ h=>h) (Or.inl ⟨by rfl,?y3⟩) (by assumption) ?r3
   case y3=>intro w hSw;clear hSw;go_simp;(try with_reducible rfl)
   simp only [Act.put,List.setIfInBounds_toArray,List.set_cons_zero,List.set_cons_succ]
   refine wpAnyH_take (i:=3) (oi:=⟨some 7,_,_,_,_,_⟩) (v:=?v4) rfl (by kernel_rfl) (by kernel_rfl) (by kernel_rfl) (fun _ _ _ h=>h) (Or.inl ⟨by rfl,?y4⟩) (by assumption) ?r4
   case y4=>intro w hSw;skip;go_simp;(try with_reducible rfl)
   simp only [Act.put,List.setIfInBounds_toArray,List.set_cons_zero,List.set_cons_succ]
   refine wpAnyH_take (i:=4) (oi:=⟨some 8,_,_,_,_,_⟩) (v:=?v5) rfl (by kernel_rfl) (by kernel_rfl) (by kernel_rfl) (fun _ _ _ h=>h) (Or.inl ⟨by rfl,?y5⟩) (by assumption) ?r5
   case y5=>intro w hSw;clear hSw;go_simp;(try with_reducible rfl)
   simp only [Act.put,List.setIfInBounds_toArray,List.set_cons_zero,List.set_cons_succ]
   refine wpAnyH_take (i:=5) (oi:=⟨some 9,_,_,_,_,_⟩) (v:=?v6) rfl (by kernel_rfl) (by kernel_rfl) (by kernel_rfl) (fun _ _ _ h=>h) (Or.inl ⟨by rfl,?y6⟩) (by assumption) ?r6
   case y6=>intro w hSw;clear hSw;go_simp;(try with_reducible rfl)
   simp only [Act.put,List.setIfInBounds_toArray,List.set_cons_zero,List.set_cons_succ]
   refine wpAnyH_take (i:=6) (oi:=⟨some 10,_,_,_,_,_⟩) (v:=undef) rfl (by kernel_rfl) (by kernel_rfl) (by kernel_rfl) (fun _ _ _ h=>h) (Or.inr ⟨by rfl,rfl⟩) (by assumption) ?_
   simp only [Act.put,List.setIfInBounds_toArray,List.set_cons_zero,List.set_cons_succ]
   refine wpAnyH_take (i:=7) (oi:=⟨some 11,_,_,_,_,_⟩) (v:=undef) rfl (by kernel_rfl) (by kernel_rfl) (by kernel_rfl) (fun _ _ _ h=>h) (Or.inr ⟨by rfl,rfl⟩) (by assumption) ?_
   simp only [Act.put,List.setIfInBounds_toArray,List.set_cons_zero,List.set_cons_succ]
   refine wpAnyH_take (i:=8) (oi:=⟨some 12,_,_,_,_,_⟩) (v:=undef) rfl (by kernel_rfl) (by kernel_rfl) (by kernel_rfl) (fun _ _ _ h=>h) (Or.inr ⟨by rfl,rfl⟩) (by assumption) ?_
   simp only [Act.put,List.setIfInBounds_toArray,List.set_cons_zero,List.set_cons_succ]
   refine wpAnyH_take (i:=9) (oi:=⟨some 13,_,_,_,_,_⟩) (v:=undef) rfl (by kernel_rfl) (by kernel_rfl) (by kernel_rfl) (fun _ _ _ h=>h) (Or.inr ⟨by rfl,rfl⟩) (by assumption) ?_
   simp only [Act.put,List.setIfInBounds_toArray,List.set_cons_zero,List.set_cons_succ]
   refine wpAnyH_take (i:=10) (oi:=⟨some 14,_,_,_,_,_⟩) (v:=?v11) rfl (by kernel_rfl) (by kernel_rfl) (by kernel_rfl) (fun _ _ _ h=>h) (Or.inl ⟨by rfl,?y11⟩) (by assumption) ?r11
   case y11=>intro w hSw;clear hSw;go_simp;(try with_reducible rfl)
   simp only [Act.put,List.setIfInBounds_toArray,List.set_cons_zero,List.set_cons_succ]
   refine wpAnyH_take (i:=11) (oi:=⟨some 15,_,_,_,_,_⟩) (v:=?v12) rfl (by kernel_rfl) (by kernel_rfl) (by kernel_rfl) (fun _ _ _ h=>h) (Or.inl ⟨by rfl,?y12⟩) (by assumption) ?r12
   case y12=>intro w hSw;clear hSw;go_simp;(try with_reducible rfl)
   simp only [Act.put,List.setIfInBounds_toArray,List.set_cons_zero,List.set_cons_succ]
   refine wpAnyH_take (i:=12) (oi:=⟨some 16,_,_,_,_,_⟩) (v:=undef) rfl (by kernel_rfl) (by kernel_rfl) (by kernel_rfl) (fun _ _ _ h=>h) (Or.inr ⟨by rfl,rfl⟩) (by assumption) ?_
   simp only [Act.put,List.setIfInBounds_toArray,List.set_cons_zero,List.set_cons_succ]
   refine wpAnyH_take (i:=13) (oi:=⟨some 17,_,_,_,_,_⟩) (v:=undef) rfl (by kernel_rfl) (by kernel_rfl) (by kernel_rfl) (fun _ _ _ h=>h) (Or.inr ⟨by rfl,rfl⟩) (by assumption) ?_
   simp only [Act.put,List.setIfInBounds_toArray,List.set_cons_zero,List.set_cons_succ]
   refine wpAnyH_take (i:=14) (oi:=⟨some 18,_,_,_,_,_⟩) (v:=undef) rfl (by kernel_rfl) (by kernel_rfl) (by kernel_rfl) (fun _ _ _ h=>h) (Or.inr ⟨by rfl,rfl⟩) (by assumption) ?_
   simp only [Act.put,List.setIfInBounds_toArray,List.set_cons_zero,List.set_cons_succ]
   refine wpAnyH_take (i:=15) (oi:=⟨some 19,_,_,_,_,_⟩) (v:=undef) rfl (by kernel_rfl) (by kernel_rfl) (by kernel_rfl) (fun _ _ _ h=>h) (Or.inr ⟨by rfl,rfl⟩) (by assumption) ?_
   simp only [Act.put,List.setIfInBounds_toArray,List.set_cons_zero,List.set_cons_succ]
   refine wpAnyH_take (i:=16) (oi:=⟨some 20,_,_,_,_,_⟩) (v:=undef) rfl (by kernel_rfl) (by kernel_rfl) (by kernel_rfl) (fun _ _ _ h=>h) (Or.inr ⟨by rfl,rfl⟩) (by assumption) ?_
   simp only [Act.put,List.setIfInBounds_toArray,List.set_cons_zero,List.set_cons_succ]
   refine wpAnyH_take (i:=17) (oi:=⟨some 21,_,_,_,_,_⟩) (v:=undef) rfl (by kernel_rfl) (by kernel_rfl) (by kernel_rfl) (fun _ _ _ h=>h) (Or.inr ⟨by rfl,rfl⟩) (by assumption) ?_
   simp only [Act.put,List.setIfInBounds_toArray,List.set_cons_zero,List.set_cons_succ]
   refine wpAnyH_take (i:=18) (oi:=⟨some 22,_,_,_,_,_⟩) (v:=undef) rfl (by kernel_rfl) (by kernel_rfl) (by kernel_rfl) (fun _ _ _ h=>h) (Or.inr ⟨by rfl,rfl⟩) (by assumption) ?_
   simp only [Act.put,List.setIfInBounds_toArray,List.set_cons_zero,List.set_cons_succ]
   refine wpAnyH_take (i:=19) (oi:=⟨some 23,_,_,_,_,_⟩) (v:=?v20) rfl (by kernel_rfl) (by kernel_rfl) (by kernel_rfl) (fun _ _ _ h=>h) (Or.inl ⟨by rfl,?y20⟩) (by assumption) ?r20
   case y20=>intro w hSw;clear hSw;go_simp;(try with_reducible rfl)
   simp only [Act.put,List.setIfInBounds_toArray,List.set_cons_zero,List.set_cons_succ]
   refine wpAnyH_done (by kernel_rfl) ?_ _
   have c12:=M0.out.at_.b.cell (i:=12) (v:=.int .u64 (z:Int)) (by rw [← HZ.out];rfl)
   go_wp2_with fail
   have Y0:=Lib.hid (M0.out.to ((Drawn.drew _).below _))
   have p9:=sx_p (W:=wr) (B:=B) (D:=D) (i:=9) (v:=.pointer (some ⟨D.a,0,none⟩)) (fun _ _=>rfl)
   go_region_held3 (fun w'=>Hid (SndX wr B D w'))
    (first | with_reducible exact (sx_of Y2) | with_reducible exact (sx_of Y1) | with_reducible exact (sx_of Y0))
    (first
     | (go_at_call 18;(with_reducible refine (HIn.out _ Y0.out.at_).mono ?_);rintro e w8 ⟨rfl,hb⟩;have Y1:=Lib.hid (Y0.out.to hb);clear hb)
     | (go_at_call 112;(with_reducible refine (HLm.out _ Y1.out.at_).mono ?_);rintro e w9 ⟨rfl,ha⟩;have Y2:=Lib.hid (Y1.out.step ha.out);clear ha))
   go_wp2_with fail
   go_ret
   exact ⟨_,rfl,by rw [HE.out];exact HRow.out.kn Y2.out.kt,by rw [HE.out,HT.out];exact I0.out.over Y2.out⟩
  ·have d1:decide ((0:Int) < (z:Int))=true:=decide_eq_true (by omega)
   have d2:decide (0 < z)=true:=decide_eq_true (by omega)
   have e0:((z:Int) == 0)=false:=beq_eq_false_iff_ne.2 (by omega)
   have HW:Hid (r.w≠0):=Lib.hid c0
   have HT:Hid (r.rest=r):=Lib.hid (by unfold SN.rest;rw [if_neg c0])
   have hf:r.fits=decide (Pl.addS r.size r.L.fl≤r.e.cwnd):=by
    unfold SN.fits
    rw [hz,d2,show Pl.addS r.L.fl r.size=Pl.addS r.size r.L.fl by unfold Pl.addS;rw [Nat.add_comm]]
    rfl
   rw [← hf] at HFi
   clear hf c0 hz
   rcases hfb:r.fits with _ | _
   ·rw [hfb] at HFi
    have hgo:r.goes=false:=by unfold SN.goes;rw [hfb];rfl
    have HE:Hid (s.run=(r,l)):=Lib.hid (by rw [HRun.out,SN.gos_not hgo,List.append_nil])
    clear hgo hfb HTk
    go_wp2_with fail
    refine wp_region_held_drew (S:=(fun w'=>Hid (SndW wr B D z w'))) (by kernel_rfl) (by rw [← HZ.out];exact X0) (fun hHeld=>?_)
    simp only [List.size_toArray,List.length_cons,List.length_nil,Nat.reduceAdd,Array.replicate_succ,Array.replicate_zero,List.push_toArray,List.nil_append,List.cons_append]
    refine wpAnyH_take (i:=0) (oi:=⟨some 4,_,_,_,_,_⟩) (v:=?v21) rfl (by kernel_rfl) (by kernel_rfl) (by kernel_rfl) (fun _ _ _ h=>h) (Or.inl ⟨by rfl,?y21⟩) (by assumption) ?r21
    case y21=>intro w hSw;clear hSw;go_simp;(try with_reducible rfl)
    simp only [Act.put,List.setIfInBounds_toArray,List.set_cons_zero,List.set_cons_succ]
    refine wpAnyH_take (i:=1) (oi:=⟨some 5,_,_,_,_,_⟩) (v:=?v22) rfl (by kernel_rfl) (by kernel_rfl) (by kernel_rfl) (fun _ _ _ h=>h) (Or.inl ⟨by rfl,?y22⟩) (by assumption) ?r22
    case y22=>intro w hSw;clear hSw;go_simp;(try with_reducible rfl)
    simp only [Act.put,List.setIfInBounds_toArray,List.set_cons_zero,List.set_cons_succ]
    refine wpAnyH_take (i:=2) (oi:=⟨some 6,_,_,_,_,_⟩) (v:=?v23) rfl (by kernel_rfl) (by kernel_rfl) (by kernel_rfl) (fun _ _ _ h=>h) (Or.inl ⟨by rfl,?y23⟩) (by assumption) ?r23
    case y23=>intro w hSw;clear hSw;go_simp;(try with_reducible rfl)
    simp only [Act.put,List.setIfInBounds_toArray,List.set_cons_zero,List.set_cons_succ]
    refine wpAnyH_take (i:=3) (oi:=⟨some 7,_,_,_,_,_⟩) (v:=?v24) rfl (by kernel_rfl) (by kernel_rfl) (by kernel_rfl) (fun _ _ _ h=>h) (Or.inl ⟨by rfl,?y24⟩) (by assumption) ?r24
    case y24=>intro w hSw;skip;go_simp;(try with_reducible rfl)
    simp only [Act.put,List.setIfInBounds_toArray,List.set_cons_zero,List.set_cons_succ]
    refine wpAnyH_take (i:=4) (oi:=⟨some 8,_,_,_,_,_⟩) (v:=?v25) rfl (by kernel_rfl) (by kernel_rfl) (by kernel_rfl) (fun _ _ _ h=>h) (Or.inl ⟨by rfl,?y25⟩) (by assumption) ?r25
    case y25=>intro w hSw;clear hSw;go_simp;(try with_reducible rfl)
    simp only [Act.put,List.setIfInBounds_toArray,List.set_cons_zero,List.set_cons_succ]
    refine wpAnyH_take (i:=5) (oi:=⟨some 9,_,_,_,_,_⟩) (v:=?v26) rfl (by kernel_rfl) (by kernel_rfl) (by kernel_rfl) (fun _ _ _ h=>h) (Or.inl ⟨by rfl,?y26⟩) (by assumption) ?r26
    case y26=>intro w hSw;clear hSw;go_simp;(try with_reducible rfl)
    simp only [Act.put,List.setIfInBounds_toArray,List.set_cons_zero,List.set_cons_succ]
    refine wpAnyH_take (i:=6) (oi:=⟨some 10,_,_,_,_,_⟩) (v:=?v27) rfl (by kernel_rfl) (by kernel_rfl) (by kernel_rfl) (fun _ _ _ h=>h) (Or.inl ⟨by rfl,?y27⟩) (by assumption) ?r27
    case y27=>intro w hSw;clear hSw;go_simp;(try with_reducible rfl)
    simp only [Act.put,List.setIfInBounds_toArray,List.set_cons_zero,List.set_cons_succ]
    refine wpAnyH_take (i:=7) (oi:=⟨some 11,_,_,_,_,_⟩) (v:=?v28) rfl (by kernel_rfl) (by kernel_rfl) (by kernel_rfl) (fun _ _ _ h=>h) (Or.inl ⟨by rfl,?y28⟩) (by assumption) ?r28
    case y28=>intro w hSw;clear hSw;go_simp;(try with_reducible rfl)
    simp only [Act.put,List.setIfInBounds_toArray,List.set_cons_zero,List.set_cons_succ]
    refine wpAnyH_ready (rs:=[8]) (by kernel_rfl) (by simp) ?_
    refine AllReadyH.cons (o:=⟨some 12,_,_,_,_,_⟩) rfl (fun K hK=>?_) AllReadyH.nil
    go_simp
    refine (HSz.out _ M0.out.at_).mono ?_
    rintro e w1 ⟨rfl,hb⟩
    have M1:=Lib.hid (M0.out.to hb)
    clear hb
    go_wp2_with fail
    refine hK.out _ _ (by rw [← HZ.out];exact sw_of M1) (fun hHeld=>?_)
    clear hK
    try simp only [List.setIfInBounds_toArray,List.set_cons_zero,List.set_cons_succ]
    refine wpAnyH_ready (rs:=[9]) (by kernel_rfl) (by simp) ?_
    refine AllReadyH.cons (o:=⟨some 13,_,_,_,_,_⟩) rfl (fun K hK=>?_) AllReadyH.nil
    go_simp
    refine (HFi.out _ M1.out.at_).mono ?_
    rintro e w2 ⟨rfl,hb⟩
    have M2:=Lib.hid (M1.out.to hb)
    clear hb
    go_wp2_with fail
    refine hK.out _ _ (by rw [← HZ.out];exact sw_of M2) (fun hHeld=>?_)
    clear hK
    try simp only [List.setIfInBounds_toArray,List.set_cons_zero,List.set_cons_succ]
    refine wpAnyH_take (i:=10) (oi:=⟨some 14,_,_,_,_,_⟩) (v:=?v29) rfl (by kernel_rfl) (by kernel_rfl) (by kernel_rfl) (fun _ _ _ h=>h) (Or.inl ⟨by rfl,?y29⟩) (by assumption) ?r29
    case y29=>intro w hSw;clear hSw;go_simp;(try with_reducible rfl)
    simp only [Act.put,List.setIfInBounds_toArray,List.set_cons_zero,List.set_cons_succ]
    refine wpAnyH_take (i:=11) (oi:=⟨some 15,_,_,_,_,_⟩) (v:=?v30) rfl (by kernel_rfl) (by kernel_rfl) (by kernel_rfl) (fun _ _ _ h=>h) (Or.inl ⟨by rfl,?y30⟩) (by assumption) ?r30
    case y30=>intro w hSw;clear hSw;go_simp;(try with_reducible rfl)
    simp only [Act.put,List.setIfInBounds_toArray,List.set_cons_zero,List.set_cons_succ]
    refine wpAnyH_take (i:=12) (oi:=⟨some 16,_,_,_,_,_⟩) (v:=undef) rfl (by kernel_rfl) (by kernel_rfl) (by kernel_rfl) (fun _ _ _ h=>h) (Or.inr ⟨by rfl,rfl⟩) (by assumption) ?_
    simp only [Act.put,List.setIfInBounds_toArray,List.set_cons_zero,List.set_cons_succ]
    refine wpAnyH_take (i:=13) (oi:=⟨some 17,_,_,_,_,_⟩) (v:=undef) rfl (by kernel_rfl) (by kernel_rfl) (by kernel_rfl) (fun _ _ _ h=>h) (Or.inr ⟨by rfl,rfl⟩) (by assumption) ?_
    simp only [Act.put,List.setIfInBounds_toArray,List.set_cons_zero,List.set_cons_succ]
    refine wpAnyH_take (i:=14) (oi:=⟨some 18,_,_,_,_,_⟩) (v:=undef) rfl (by kernel_rfl) (by kernel_rfl) (by kernel_rfl) (fun _ _ _ h=>h) (Or.inr ⟨by rfl,rfl⟩) (by assumption) ?_
    simp only [Act.put,List.setIfInBounds_toArray,List.set_cons_zero,List.set_cons_succ]
    refine wpAnyH_take (i:=15) (oi:=⟨some 19,_,_,_,_,_⟩) (v:=undef) rfl (by kernel_rfl) (by kernel_rfl) (by kernel_rfl) (fun _ _ _ h=>h) (Or.inr ⟨by rfl,rfl⟩) (by assumption) ?_
    simp only [Act.put,List.setIfInBounds_toArray,List.set_cons_zero,List.set_cons_succ]
    refine wpAnyH_take (i:=16) (oi:=⟨some 20,_,_,_,_,_⟩) (v:=undef) rfl (by kernel_rfl) (by kernel_rfl) (by kernel_rfl) (fun _ _ _ h=>h) (Or.inr ⟨by rfl,rfl⟩) (by assumption) ?_
    simp only [Act.put,List.setIfInBounds_toArray,List.set_cons_zero,List.set_cons_succ]
    refine wpAnyH_take (i:=17) (oi:=⟨some 21,_,_,_,_,_⟩) (v:=undef) rfl (by kernel_rfl) (by kernel_rfl) (by kernel_rfl) (fun _ _ _ h=>h) (Or.inr ⟨by rfl,rfl⟩) (by assumption) ?_
    simp only [Act.put,List.setIfInBounds_toArray,List.set_cons_zero,List.set_cons_succ]
    refine wpAnyH_take (i:=18) (oi:=⟨some 22,_,_,_,_,_⟩) (v:=undef) rfl (by kernel_rfl) (by kernel_rfl) (by kernel_rfl) (fun _ _ _ h=>h) (Or.inr ⟨by rfl,rfl⟩) (by assumption) ?_
    simp only [Act.put,List.setIfInBounds_toArray,List.set_cons_zero,List.set_cons_succ]
    refine wpAnyH_take (i:=19) (oi:=⟨some 23,_,_,_,_,_⟩) (v:=?v38) rfl (by kernel_rfl) (by kernel_rfl) (by kernel_rfl) (fun _ _ _ h=>h) (Or.inl ⟨by rfl,?y38⟩) (by assumption) ?r38
    case y38=>intro w hSw;clear hSw;go_simp;(try with_reducible rfl)
    simp only [Act.put,List.setIfInBounds_toArray,List.set_cons_zero,List.set_cons_succ]
    refine wpAnyH_done (by kernel_rfl) ?_ _
    have c12:=M2.out.at_.b.cell (i:=12) (v:=.int .u64 (z:Int)) (by rw [← HZ.out];rfl)
    go_wp2_with fail
    go_ret
    exact ⟨_,rfl,by rw [HE.out];exact HRow.out.kn M2.out.kt,by rw [HE.out,HT.out];exact I0.out.over M2.out⟩
   ·rw [hfb] at HFi
    obtain ⟨tb,htb⟩:∃tb,r.p.takeB r.size=tb:=⟨_,rfl⟩
    rw [htb] at HTk
    have HFb:=Lib.hid hfb
    have HTb:=Lib.hid htb
    clear hfb htb
    go_wp2_with fail
    refine wp_region_held_drew (S:=(fun w'=>Hid (SndW wr B D z w'))) (by kernel_rfl) (by rw [← HZ.out];exact X0) (fun hHeld=>?_)
    simp only [List.size_toArray,List.length_cons,List.length_nil,Nat.reduceAdd,Array.replicate_succ,Array.replicate_zero,List.push_toArray,List.nil_append,List.cons_append]
    refine wpAnyH_take (i:=0) (oi:=⟨some 4,_,_,_,_,_⟩) (v:=?v39) rfl (by kernel_rfl) (by kernel_rfl) (by kernel_rfl) (fun _ _ _ h=>h) (Or.inl ⟨by rfl,?y39⟩) (by assumption) ?r39
    case y39=>intro w hSw;clear hSw;go_simp;(try with_reducible rfl)
    simp only [Act.put,List.setIfInBounds_toArray,List.set_cons_zero,List.set_cons_succ]
    refine wpAnyH_take (i:=1) (oi:=⟨some 5,_,_,_,_,_⟩) (v:=?v40) rfl (by kernel_rfl) (by kernel_rfl) (by kernel_rfl) (fun _ _ _ h=>h) (Or.inl ⟨by rfl,?y40⟩) (by assumption) ?r40
    case y40=>intro w hSw;clear hSw;go_simp;(try with_reducible rfl)
    simp only [Act.put,List.setIfInBounds_toArray,List.set_cons_zero,List.set_cons_succ]
    refine wpAnyH_take (i:=2) (oi:=⟨some 6,_,_,_,_,_⟩) (v:=?v41) rfl (by kernel_rfl) (by kernel_rfl) (by kernel_rfl) (fun _ _ _ h=>h) (Or.inl ⟨by rfl,?y41⟩) (by assumption) ?r41
    case y41=>intro w hSw;clear hSw;go_simp;(try with_reducible rfl)
    simp only [Act.put,List.setIfInBounds_toArray,List.set_cons_zero,List.set_cons_succ]
    refine wpAnyH_take (i:=3) (oi:=⟨some 7,_,_,_,_,_⟩) (v:=?v42) rfl (by kernel_rfl) (by kernel_rfl) (by kernel_rfl) (fun _ _ _ h=>h) (Or.inl ⟨by rfl,?y42⟩) (by assumption) ?r42
    case y42=>intro w hSw;skip;go_simp;(try with_reducible rfl)
    simp only [Act.put,List.setIfInBounds_toArray,List.set_cons_zero,List.set_cons_succ]
    refine wpAnyH_take (i:=4) (oi:=⟨some 8,_,_,_,_,_⟩) (v:=?v43) rfl (by kernel_rfl) (by kernel_rfl) (by kernel_rfl) (fun _ _ _ h=>h) (Or.inl ⟨by rfl,?y43⟩) (by assumption) ?r43
    case y43=>intro w hSw;clear hSw;go_simp;(try with_reducible rfl)
    simp only [Act.put,List.setIfInBounds_toArray,List.set_cons_zero,List.set_cons_succ]
    refine wpAnyH_take (i:=5) (oi:=⟨some 9,_,_,_,_,_⟩) (v:=?v44) rfl (by kernel_rfl) (by kernel_rfl) (by kernel_rfl) (fun _ _ _ h=>h) (Or.inl ⟨by rfl,?y44⟩) (by assumption) ?r44
    case y44=>intro w hSw;clear hSw;go_simp;(try with_reducible rfl)
    simp only [Act.put,List.setIfInBounds_toArray,List.set_cons_zero,List.set_cons_succ]
    refine wpAnyH_take (i:=6) (oi:=⟨some 10,_,_,_,_,_⟩) (v:=?v45) rfl (by kernel_rfl) (by kernel_rfl) (by kernel_rfl) (fun _ _ _ h=>h) (Or.inl ⟨by rfl,?y45⟩) (by assumption) ?r45
    case y45=>intro w hSw;clear hSw;go_simp;(try with_reducible rfl)
    simp only [Act.put,List.setIfInBounds_toArray,List.set_cons_zero,List.set_cons_succ]
    refine wpAnyH_take (i:=7) (oi:=⟨some 11,_,_,_,_,_⟩) (v:=?v46) rfl (by kernel_rfl) (by kernel_rfl) (by kernel_rfl) (fun _ _ _ h=>h) (Or.inl ⟨by rfl,?y46⟩) (by assumption) ?r46
    case y46=>intro w hSw;clear hSw;go_simp;(try with_reducible rfl)
    simp only [Act.put,List.setIfInBounds_toArray,List.set_cons_zero,List.set_cons_succ]
    refine wpAnyH_ready (rs:=[8]) (by kernel_rfl) (by simp) ?_
    refine AllReadyH.cons (o:=⟨some 12,_,_,_,_,_⟩) rfl (fun K hK=>?_) AllReadyH.nil
    go_simp
    refine (HSz.out _ M0.out.at_).mono ?_
    rintro e w1 ⟨rfl,hb⟩
    have M1:=Lib.hid (M0.out.to hb)
    clear hb
    go_wp2_with fail
    refine hK.out _ _ (by rw [← HZ.out];exact sw_of M1) (fun hHeld=>?_)
    clear hK
    try simp only [List.setIfInBounds_toArray,List.set_cons_zero,List.set_cons_succ]
    refine wpAnyH_ready (rs:=[9]) (by kernel_rfl) (by simp) ?_
    refine AllReadyH.cons (o:=⟨some 13,_,_,_,_,_⟩) rfl (fun K hK=>?_) AllReadyH.nil
    go_simp
    refine (HFi.out _ M1.out.at_).mono ?_
    rintro e w2 ⟨rfl,hb⟩
    have M2:=Lib.hid (M1.out.to hb)
    clear hb
    go_wp2_with fail
    refine hK.out _ _ (by rw [← HZ.out];exact sw_of M2) (fun hHeld=>?_)
    clear hK
    try simp only [List.setIfInBounds_toArray,List.set_cons_zero,List.set_cons_succ]
    refine wpAnyH_take (i:=10) (oi:=⟨some 14,_,_,_,_,_⟩) (v:=?v47) rfl (by kernel_rfl) (by kernel_rfl) (by kernel_rfl) (fun _ _ _ h=>h) (Or.inl ⟨by rfl,?y47⟩) (by assumption) ?r47
    case y47=>intro w hSw;clear hSw;go_simp;(try with_reducible rfl)
    simp only [Act.put,List.setIfInBounds_toArray,List.set_cons_zero,List.set_cons_succ]
    refine wpAnyH_take (i:=11) (oi:=⟨some 15,_,_,_,_,_⟩) (v:=?v48) rfl (by kernel_rfl) (by kernel_rfl) (by kernel_rfl) (fun _ _ _ h=>h) (Or.inl ⟨by rfl,?y48⟩) (by assumption) ?r48
    case y48=>intro w hSw;clear hSw;go_simp;(try with_reducible rfl)
    simp only [Act.put,List.setIfInBounds_toArray,List.set_cons_zero,List.set_cons_succ]
    refine wpAnyH_take (i:=12) (oi:=⟨some 16,_,_,_,_,_⟩) (v:=?v49) rfl (by kernel_rfl) (by kernel_rfl) (by kernel_rfl) (fun _ _ _ h=>h) (Or.inl ⟨by rfl,?y49⟩) (by assumption) ?r49
    case y49=>intro w hSw;clear hSw;go_simp;(try with_reducible rfl)
    simp only [Act.put,List.setIfInBounds_toArray,List.set_cons_zero,List.set_cons_succ]
    refine wpAnyH_take (i:=13) (oi:=⟨some 17,_,_,_,_,_⟩) (v:=?v50) rfl (by kernel_rfl) (by kernel_rfl) (by kernel_rfl) (fun _ _ _ h=>h) (Or.inl ⟨by rfl,?y50⟩) (by assumption) ?r50
    case y50=>intro w hSw;clear hSw;go_simp;(try with_reducible rfl)
    simp only [Act.put,List.setIfInBounds_toArray,List.set_cons_zero,List.set_cons_succ]
    refine wpAnyH_take (i:=14) (oi:=⟨some 18,_,_,_,_,_⟩) (v:=?v51) rfl (by kernel_rfl) (by kernel_rfl) (by kernel_rfl) (fun _ _ _ h=>h) (Or.inl ⟨by rfl,?y51⟩) (by assumption) ?r51
    case y51=>intro w hSw;clear hSw;go_simp;(try with_reducible rfl)
    simp only [Act.put,List.setIfInBounds_toArray,List.set_cons_zero,List.set_cons_succ]
    refine wpAnyH_take (i:=15) (oi:=⟨some 19,_,_,_,_,_⟩) (v:=?v52) rfl (by kernel_rfl) (by kernel_rfl) (by kernel_rfl) (fun _ _ _ h=>h) (Or.inl ⟨by rfl,?y52⟩) (by assumption) ?r52
    case y52=>intro w hSw;skip;go_simp;(try with_reducible rfl)
    simp only [Act.put,List.setIfInBounds_toArray,List.set_cons_zero,List.set_cons_succ]
    refine wpAnyH_take (i:=16) (oi:=⟨some 20,_,_,_,_,_⟩) (v:=?v53) rfl (by kernel_rfl) (by kernel_rfl) (by kernel_rfl) (fun _ _ _ h=>h) (Or.inl ⟨by rfl,?y53⟩) (by assumption) ?r53
    case y53=>intro w hSw;clear hSw;go_simp;(try with_reducible rfl)
    simp only [Act.put,List.setIfInBounds_toArray,List.set_cons_zero,List.set_cons_succ]
    refine wpAnyH_ready (rs:=[17]) (by kernel_rfl) (by simp) ?_
    refine AllReadyH.cons (o:=⟨some 21,_,_,_,_,_⟩) rfl (fun K hK=>?_) AllReadyH.nil
    go_simp
    refine (HSz.out _ M2.out.at_).mono ?_
    rintro e w3 ⟨rfl,hb⟩
    have M3:=Lib.hid (M2.out.to hb)
    clear hb
    go_wp2_with fail
    refine hK.out _ _ (by rw [← HZ.out];exact sw_of M3) (fun hHeld=>?_)
    clear hK
    try simp only [List.setIfInBounds_toArray,List.set_cons_zero,List.set_cons_succ]
    refine wpAnyH_ready (rs:=[18]) (by kernel_rfl) (by simp) ?_
    refine AllReadyH.cons (o:=⟨some 22,_,_,_,_,_⟩) rfl (fun K hK=>?_) AllReadyH.nil
    go_simp
    refine (HTk.out _ M3.out.at_).mono ?_
    rintro e w4 ⟨rfl,ha⟩
    have M4:=Lib.hid (M3.out.step ha.out)
    have X4:Hid (SndW wr B D z w4):=(by rw [← HZ.out];exact sw_of (s:=r.taken) M4)
    clear ha
    go_wp2_with fail
    refine hK.out _ _ X4 (fun hHeld=>?_)
    clear hK
    try simp only [List.setIfInBounds_toArray,List.set_cons_zero,List.set_cons_succ]
    refine wpAnyH_take (i:=19) (oi:=⟨some 23,_,_,_,_,_⟩) (v:=?v54) rfl (by kernel_rfl) (by kernel_rfl) (by kernel_rfl) (fun _ _ _ h=>h) (Or.inl ⟨by rfl,?y54⟩) (by assumption) ?r54
    case y54=>intro w hSw;clear hSw;go_simp;(try with_reducible rfl)
    simp only [Act.put,List.setIfInBounds_toArray,List.set_cons_zero,List.set_cons_succ]
    refine wpAnyH_done (by kernel_rfl) ?_ _
    clear X0 X4 HSz HFi HTk
    cases tb
    ·have hgo:r.goes=false:=by unfold SN.goes;rw [HFb.out,HTb.out];rfl
     have HE:Hid (s.run=(r,l)):=Lib.hid (by rw [HRun.out,SN.gos_not hgo,List.append_nil])
     have HS:Hid (r.taken=r):=Lib.hid (SN.take_same HTb.out)
     clear hgo
     rw [HS.out] at M4
     have c12:=M4.out.at_.b.cell (i:=12) (v:=.int .u64 (z:Int)) (by rw [← HZ.out];rfl)
     go_wp2_with fail
     go_ret
     exact ⟨_,rfl,by rw [HE.out];exact HRow.out.kn M4.out.kt,by rw [HE.out,HT.out];exact I0.out.over M4.out⟩
    ·have hgo:r.goes=true:=by unfold SN.goes;rw [HFb.out,HTb.out];rfl
     have HG:=Lib.hid hgo
     have HP:=Lib.hid (SN.size_pos HO.out HR0.out HFb.out)
     have HO1:=Lib.hid (SN.go_ok HO.out HR0.out hgo).1
     obtain ⟨j',rfl⟩:∃j',j=j' + 1:=⟨j - 1,by have:=HJ.out;have:=HW.out;omega⟩
     have HRun1:Hid (s.run=((SN.gos j' r.go1).1,(l ++ [r.pk]) ++ (SN.gos j' r.go1).2)):=Lib.hid (by rw [HRun.out,SN.gos_yes hgo];simp)
     have HLen:Hid (l.length≤5999∧r.L.next≤5999):=Lib.hid (by
      have h1:=HN.out
      rw [HRun1.out] at h1
      have h2:=HNx.out
      simp only [List.length_append,List.length_cons,List.length_nil] at h1
      omega)
     have HPk:Hid ((r.taken.pkx r.size).ok):=Lib.hid (by
      have h1:=HO1.out.st r.pk (by show r.pk∈r.L.out ++ [r.pk];simp)
      have h2:=HLen.out.2
      exact ⟨show r.L.next≤100000 by omega,hsz,h1.sent,h1.first,h1.deliv,h1.at_⟩)
     have HPu:Hid (∀w,SndAt w B D r.taken→Calls Tryz.prog 111 #[.pointer (some ⟨D.b,0,none⟩),.int .u64 (r.size:Int)] w fun e w'=>e=.returned (.agg (#[.int .u64 (r.pk.n:Int),.int .u64 (r.pk.size:Int),.int .u64 (r.pk.sent:Int),.int .u64 (r.pk.first:Int),.int .u64 (r.pk.deliv:Int),.int .u64 (r.pk.at_:Int),.bool r.pk.lim]))∧Hid (SndOut w B D r.go1 w')):=Lib.hid (fun w q=>(sn_put r.size w q HP.out.2.2.1 (by have:=HO.out.small;show r.w≤_;omega) HLen.out.2 HPk.out).mono (by rintro e w' ⟨h1,h2⟩;exact ⟨h1,Lib.hid ⟨h2.at_,h2.bel,h2.kt⟩⟩))
     have HSz1:Hid (∀w,SndAt w B D r.taken→Calls Tryz.prog 53 #[.pointer (some ⟨D.b,0,none⟩)] w fun e w'=>e=.returned (.int .u64 (r.size:Int))∧Below w.heap.size w w'):=Lib.hid (fun w q=>sn_size (s:=r.taken) w q)
     clear hgo hsz
     go_wp2_with fail
     refine (HSz1.out _ M4.out.at_).mono ?_
     rintro e w5 ⟨rfl,hb⟩
     have M5:=Lib.hid (M4.out.to hb)
     clear hb
     go_wp2_with fail
     refine (HPu.out _ M5.out.at_).mono ?_
     rintro e w6 ⟨rfl,ha⟩
     have M6:=Lib.hid (M5.out.step ha.out)
     have R6:=Lib.hid (HRow.out.kn M6.out.kt)
     have HW6:=Lib.hid (I0.out.over M6.out)
     clear ha
     generalize hp:r.pk=p at *
     have HPe:=Lib.hid hp
     clear hp
     have R7:=Lib.hid (R6.out.keep (al_be w6 (.cells #[.int .u64 (p.n:Int),.int .u64 (p.size:Int),.int .u64 (p.sent:Int),.int .u64 (p.first:Int),.int .u64 (p.deliv:Int),.int .u64 (p.at_:Int),.bool p.lim] 47)))
     have M7:=Lib.hid (HW6.out.to (al_be w6 (.cells #[.int .u64 (p.n:Int),.int .u64 (p.size:Int),.int .u64 (p.sent:Int),.int .u64 (p.first:Int),.int .u64 (p.deliv:Int),.int .u64 (p.at_:Int),.bool p.lim] 47)))
     have HNw:=Lib.hid (Blk.new w6 47 #[.int .u64 (p.n:Int),.int .u64 (p.size:Int),.int .u64 (p.sent:Int),.int .u64 (p.first:Int),.int .u64 (p.deliv:Int),.int .u64 (p.at_:Int),.bool p.lim])
     have HOne:Hid (∀u∈[.int .u64 (p.n:Int),.int .u64 (p.size:Int),.int .u64 (p.sent:Int),.int .u64 (p.first:Int),.int .u64 (p.deliv:Int),.int .u64 (p.at_:Int),Value.bool p.lim],u.oneCell'=true):=Lib.hid (Itm.one p)
     have hl5:=HLen.out.1
     have HBs:Hid (W.heap.size≤(w6.alloc (.cells #[.int .u64 (p.n:Int),.int .u64 (p.size:Int),.int .u64 (p.sent:Int),.int .u64 (p.first:Int),.int .u64 (p.deliv:Int),.int .u64 (p.at_:Int),.bool p.lim] 47)).heap.size):=Lib.hid (by
      have h1:=I0.out.bel.size
      have h2:=M6.out.bel.size
      have h3:=(al_be w6 (.cells #[.int .u64 (p.n:Int),.int .u64 (p.size:Int),.int .u64 (p.sent:Int),.int .u64 (p.first:Int),.int .u64 (p.deliv:Int),.int .u64 (p.at_:Int),.bool p.lim] 47)).size
      omega)
     go_wp2_with (at_builtin;refine wpList_append_own_at _ rfl (.tmp 24) (.tmp 29) 42 rfl W.heap.size 47 i0 (.agg #[.int .u64 0,.int .u64 0,.int .u64 0,.int .u64 0,.int .u64 0,.int .u64 0,.bool false]) 7 56 Tryz.underlying42 HI.out HZ0.out HZ1.out HZ2.out rfl (by decide) (.slice vp l.length vc) l.length (pcs l) rfl R7.out ⟨w6.heap.size,0,none⟩ 1 1 [.int .u64 (p.n:Int),.int .u64 (p.size:Int),.int .u64 (p.sent:Int),.int .u64 (p.first:Int),.int .u64 (p.deliv:Int),.int .u64 (p.at_:Int),.bool p.lim] rfl (by rfl) (World.news_of_block HNw.out) HOne.out (by unfold maxLen;omega) (by omega) HBs.out ?_;intro v' w8 hown hgr hnil hat;have R8:Hid (PRow W.heap.size w8 v' (l ++ [p])):=Lib.hid (PRow.app rfl hown);have M8:=Lib.hid (M7.out.app HB.out R7.out hgr);clear hown hgr hnil hat)
     go_roundw
     case rel=>
      refine ⟨j',m' + 1,r.go1,l ++ [p],M8.out,HO1.out,R8.out,HRun1.out,?_,?_⟩
      ·have h1:=HP.out.1
       have h2:=HJ.out
       show r.w - r.size≤j'
       omega
      ·have h1:=HNx.out
       show r.L.next + 1=s.L.next + (l ++ [p]).length
       rw [List.length_append,List.length_singleton]
       omega
     case measure=>
      rw [wOf_eq M8.out.at_,wOf_eq I0.out.at_]
      have h1:=HP.out.1
      have h2:=HP.out.2.2.1
      show r.w - r.size < r.w
      omega
end Go.Proofs.YteoepabmnbkabaaGreatDoor
