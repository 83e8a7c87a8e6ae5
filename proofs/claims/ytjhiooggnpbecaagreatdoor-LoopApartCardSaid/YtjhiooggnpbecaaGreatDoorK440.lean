/- Lemmas. -/
import Derived.Test.YtjhiooggnpbecaaGreatDoorK435
import Derived.Test.YtjhiooggnpbecaaGreatDoorK439
set_option linter.unusedVariables false
set_option maxHeartbeats 8000000
set_option maxRecDepth 100000
namespace Go.Proofs.YtjhiooggnpbecaaGreatDoor
open Tryz
open Go.RowKit Cf
variable {ds old:Array Value} {d g m n:Nat} {B:Own} {T U:TypeId} {v:Value} {W w' w0:World}
structure StV where
 a:Nat
 w:Nat
 x:Nat
 p:Option Addr
 c:Nat
 cs:List Nat
instance:Inhabited StV:=⟨⟨0,0,0,none,0,[]⟩⟩
def StV.cells (t:StV):Array Value:=#[↑t.a,↑t.w,↑t.x,.slice t.p t.cs.length t.c]
structure StV.ok (t:StV):Prop where
 a:t.a≤↑ω
 w:t.w≤↑ω
 x:t.x≤↑ω
 cs:∀c∈t.cs,c≤↑ω
def hH (l:List Pk):List Rn:=l.map fun p=>⟨p.n,p.n⟩
theorem tH (l:List Pk):(hH l).length=l.length:=by simp [hH]
theorem LC {l:List Pk} (h:∀p∈l,p.n < 18446744073709551615):(hH l).all okB=true:=by
 rw [List.all_eq_true];intro r hr;obtain ⟨p,hp,rfl⟩:=List.mem_map.1 hr;have:=h p hp;unfold okB;simp only [Bool.not_eq_true',Bool.or_eq_false_iff,decide_eq_false_iff_not];omega
theorem GH {l:List Pk} (h:∀p∈l,p.n < 18446744073709551615):∀r∈hH l,r.u64:=by
 intro r hr;obtain ⟨p,hp,rfl⟩:=List.mem_map.1 hr;have:=h p hp;exact ⟨by show p.n≤_;omega,by show p.n≤_;omega⟩
structure LN where
 s:SN
 k:LKS
namespace LN
def now (x:LN) (t:StV):Nat:=Pl.addS x.k.t t.a
def out (x:LN) (t:StV):List Pk:=x.k.tickOut (x.now t) t.x t.cs
def k1 (x:LN) (t:StV):LKS:=x.k.tick (x.now t) t.x t.cs
def s1 (x:LN) (t:StV):SN:=x.s.writeS t.w
def ae (x:LN) (t:StV):Int:=if x.out t=[] then 0 else (x.s1 t).ackE (x.now t) true
def s2 (x:LN) (t:StV):SN:=if x.out t=[] then x.s1 t else (x.s1 t).ackS (x.now t) true fun p=>cE (hH (x.out t)) p.n
def gone (x:LN) (t:StV):List Pk:=(x.s2 t).tickL (x.now t)
def step (x:LN) (t:StV):LN:=if x.s.writeE t.w≠0 then ⟨x.s1 t,x.k⟩ else if x.ae t≠0 then ⟨x.s2 t,x.k1 t⟩ else ⟨(x.s2 t).tickS (x.now t),(x.k1 t).sends (x.gone t)⟩
def err (x:LN) (t:StV):Int:=if x.s.writeE t.w≠0 then x.s.writeE t.w else if x.ae t≠0 then x.ae t else (x.s2 t).tickE (x.now t)
def nd (x:LN) (t:StV):Nat:=if x.s.writeE t.w≠0 then 0 else (x.out t).length
def ns (x:LN) (t:StV):Nat:=if x.s.writeE t.w≠0 then 0 else if x.ae t≠0 then 0 else (x.gone t).length
def nk (x:LN) (t:StV):Nat:=if x.s.writeE t.w≠0 then 0 else if x.ae t≠0 then 0 else (x.k1 t).kept (x.gone t)
theorem now_le (x:LN) (t:StV):x.now t≤18446744073709551615:=by unfold now Pl.addS;omega
theorem now_ge {x:LN} {N:Nat} (h:x.k.ok N) (t:StV):x.k.t≤x.now t:=by have:=h.t;unfold now Pl.addS;omega
structure ok (c:Setup) (i d:Nat) (x:LN):Prop where
 s:x.s.ok c (2 * i) (65 * i) d
 k:x.k.ok (65 * i)
 num:∀p∈x.k.all,p.n < x.s.L.next
theorem sends_all:∀(l:List Pk) (k:LKS),∀p∈(k.sends l).all,p∈k.all∨p∈l
 | [],k=>fun p hp=>.inl hp
 | q :: l,k=>fun p hp=>by
   rcases sends_all l (k.send1 q) p hp with c | c
   ·unfold LKS.all at c ⊢
    rw [LKS.send1_j,LKS.send1_q] at c;rcases List.mem_append.1 c with d | d
    ·exact .inl (List.mem_append_left _ d)
    ·unfold QK.putQ at d
     split at d
     ·rcases List.mem_append.1 (show p∈k.q.l ++ [q] from d) with e | e
      ·exact .inl (List.mem_append_right _ e)
      ·rw [List.mem_singleton.1 e];exact .inr List.mem_cons_self
     ·exact .inl (List.mem_append_right _ d)
   ·exact .inr (List.mem_cons_of_mem _ c)
theorem all_tick (k:LKS) (now x:Nat) (cs:List Nat):k.all=k.tickOut now x cs ++ (k.tick now x cs).all:=by
 rw [← LKS.all_ahead k now x cs];exact LKS.all_deliver _
theorem tick_ok {c:Setup} {k:Nat} {s:SN} (h:s.ok c k m d) (hr:rightC c=true) (hk:k≤900) (now:Nat):(s.tickS now).ok c (k + 1) (m + 65) d∧(s.tickS now).L.next=s.L.next + (s.tickL now).length∧(s.tickL now).length≤65∧(∀p∈s.tickL now,1≤p.size∧p.size≤c 0∧p.n < s.L.next + (s.tickL now).length):=by
 by_cases e:s.c.toE now=0
 ·obtain ⟨T,O⟩:=SN.tick_yes h hr hk e
  refine ⟨O,T.next,T.len,fun p hp=>⟨(T.size p hp).1,(T.size p hp).2.1,?_⟩⟩;obtain ⟨i,hi,rfl⟩:=List.mem_iff_getElem.1 hp;have:=T.num i hi;rw [List.getD_eq_getElem?_getD,List.getElem?_eq_getElem hi] at this;have e2:(s.tickL now)[i].n=s.L.next + i:=this;omega
 ·obtain ⟨e1,e2⟩:=SN.tick_no e
  rw [e1,e2];refine ⟨(SN.to_ok h now).mono (Nat.le_succ _) (Nat.le_add_right _ _),rfl,Nat.zero_le _,fun p hp=>nomatch hp⟩
theorem s2_ok {c:Setup} {i:Nat} {x:LN} (h:x.ok c i d) (hr:rightC c=true) (hi:i < 80) (t:StV):∃a,(x.s2 t).ok c (2 * i + 1) (65 * i) (d + a)∧(x.s2 t).L.next=x.s.L.next:=by
 have h1:(x.s1 t).ok c (2 * i) (65 * i) d:=SN.write_ok h.s t.w;unfold s2;split
 ·exact ⟨0,h1.mono (Nat.le_succ _) (Nat.le_refl _),rfl⟩
 ·obtain ⟨a,o,_,_,e⟩:=SN.ack_ok h1 hr (by omega) (by omega) (x.now t) true fun p=>cE (hH (x.out t)) p.n
  exact ⟨a,o,e⟩
theorem out_num {c:Setup} {i:Nat} {x:LN} (h:x.ok c i d) (t:StV):∀p∈x.out t,p.n < x.s.L.next:=fun p hp=>h.num p (by rw [all_tick x.k (x.now t) t.x t.cs];exact List.mem_append_left _ hp)
theorem out_lt {c:Setup} {i:Nat} {x:LN} (h:x.ok c i d) (hi:i < 80) (t:StV):∀p∈x.out t,p.n < 18446744073709551615:=fun p hp=>by
 have:=out_num h t p hp;have:=h.s.few;omega
theorem k1_ok {c:Setup} {i:Nat} {x:LN} (h:x.ok c i d) (t:StV):(x.k1 t).ok (65 * i):=h.k.tick (x.now_le t) _ _
theorem gone_ok {c:Setup} {i:Nat} {x:LN} (h:x.ok c i d) (hr:rightC c=true) (hi:i < 80) (t:StV):(x.gone t).length≤65∧(∀p∈x.gone t,1≤p.size∧p.size≤c 0):=by
 obtain ⟨a,o,e⟩:=s2_ok h hr hi t;obtain ⟨_,_,h3,h4⟩:=tick_ok o hr (by omega) (x.now t);exact ⟨h3,fun p hp=>⟨(h4 p hp).1,(h4 p hp).2.1⟩⟩
theorem out_len {c:Setup} {i:Nat} {x:LN} (h:x.ok c i d) (t:StV):(x.out t).length≤65 * i:=by
 have h1:=h.k.n;have h2:x.k.all.length=x.k.j.l.length + x.k.q.l.length:=by unfold LKS.all BxS.pks;rw [List.length_append,List.length_map]
 have h3:=congrArg List.length (all_tick x.k (x.now t) t.x t.cs);rw [List.length_append] at h3;show (x.k.tickOut (x.now t) t.x t.cs).length≤_
 omega
theorem step_ok {c:Setup} {i:Nat} {x:LN} (h:x.ok c i d) (hr:rightC c=true) (hi:i < 80) (t:StV):∃a,(x.step t).ok c (i + 1) (d + a):=by
 have hm:=cJ hr;unfold step;split
 ·exact ⟨0,(SN.write_ok h.s t.w).mono (by omega) (by omega),h.k.more (by omega),h.num⟩
 ·obtain ⟨a,o,e⟩:=s2_ok h hr hi t
  have hk:=k1_ok h t;have hn:∀p∈(x.k1 t).all,p.n < x.s.L.next:=fun p hp=>h.num p (by rw [all_tick x.k (x.now t) t.x t.cs];exact List.mem_append_right _ hp);split
  ·exact ⟨a,o.mono (by omega) (by omega),hk.more (by omega),fun p hp=>by rw [show (LN.mk (x.s2 t) (x.k1 t)).s.L.next=x.s.L.next from e];exact hn p hp⟩
  ·obtain ⟨o2,e2,e3,e4⟩:=tick_ok o hr (by omega) (x.now t)
   refine ⟨a,o2.mono (by omega) (by omega),(hk.sends (l:=x.gone t) (fun p hp=>?_)).more (by have:(x.gone t).length≤65:=e3;omega),fun p hp=>?_⟩
   ·have:=(e4 p hp).2.1;omega
   ·show p.n < ((x.s2 t).tickS (x.now t)).L.next
    rcases sends_all _ _ p hp with q | q
    ·have:=hn p q;omega
    ·have:=(e4 p q).2.2;omega
end LN

theorem GI (l:List Pk):vC (kN l)=aT 0 l:=by
 have e:kN l=bB l:=rfl;rw [gK l 0 (by omega),e];have:=pL;unfold vC;split <;> omega
def KN (L:List TypeId) (w w':World):Prop:=∀T,T ∉ L→∀b cs,Blk w b T cs→Blk w' b T cs
theorem KN.refl (L:List TypeId) (w:World):KN L w w:=fun _ _ _ _ h=>h
theorem KN.trans {L:List TypeId} {a b c:World} (h:KN L a b) (k:KN L b c):KN L a c:=fun T hT x cs q=>k T hT x cs (h T hT x cs q)
theorem KN.below {w:World} (L:List TypeId) (h:Below ↑w w w'):KN L w w':=fun _ _ _ _ q=>q.keep h
theorem KN.mono {L M:List TypeId} {w:World} (h:KN L w w') (hs:∀T∈L,T∈M):KN M w w':=fun T hT=>h T fun q=>hT (hs T q)
theorem KN.gr {w:World} {x:Nat} (g:w.grownBy w' (some x)) (k:Blk w x U ds):KN [U] w w':=fun T hT z cs q=>
 q.grown g (by simp only [ne_eq,Option.some.injEq];exact q.ty k (by simpa using hT))
theorem KN.set {w:World} {x:Nat} (k:Blk w x U ds) (i:Nat) (u:Value):KN [U] w (w.setCell ⟨x,i,none⟩ u):=fun T hT z cs q=>
 q.set_other i u (q.ty k (by simpa using hT))
def rF:List TypeId:=[156,254,177,208]
theorem KN.led {w:World} (h:KL w w'):KN rF w w':=fun T hT z cs q=>h z T cs q (fun e=>hT (by rw [e];decide)) (fun e=>hT (by rw [e];decide)) (fun e=>hT (by rw [e];decide)) (fun e=>hT (by rw [e];decide))
def fE:List TypeId:=102 :: 175 :: 181 :: 183 :: 167 :: (rF ++ lE)
theorem cP.kn {L:List TypeId} {w:World} {b:Nat} {l:PL} (h:cP w B b l) (k:KN L w w') (hL:∀T∈rF,T ∉ L):cP w' B b l:=by
 obtain ⟨rb,g,s,h1,h2⟩:=h;refine ⟨rb,g,s,h1.keepX (fun x T cs hx hb=>?_),h2⟩;by_cases hT:T∈rF
 ·have q:=k T (hL T hT) x cs hb
  unfold Blk at q hb;rw [q,hb]
 ·exact absurd hx (h1.off hb (fun e=>hT (by rw [e];decide)) (fun e=>hT (by rw [e];decide)) (fun e=>hT (by rw [e];decide)) (fun e=>hT (by rw [e];decide)))
theorem aG.kn {L:List TypeId} {w:World} {P:EP} {s:ES} (h:aG w B P s) (q:KN L w w') (hL:∀T∈lE,T ∉ L) (b:aH B w w'):aG w' B P s:=by
 obtain ⟨g,hg,hf⟩:=h.f;obtain ⟨qs,h1,h2,h3⟩:=hf.row;exact ⟨q _ (hL _ (by decide)) _ _ h.e,q _ (hL _ (by decide)) _ _ h.p,⟨g,hg,q _ (hL _ (by decide)) _ _ hf.head,qs,h1,h2,q _ (hL _ (by decide)) _ _ h3.head,q _ (hL _ (by decide)) _ _ h3.body⟩,q _ (hL _ (by decide)) _ _ h.y,q _ (hL _ (by decide)) _ _ h.n,h.gl.below (B:=B) b h.lo,h.lo,h.own,h.up.mono b.size⟩
structure SD where
 b:Nat
 c:Nat
 l:Nat
 t:Nat
 a:Nat
 p:Nat
 e:EP
def iZ (D:SD) (c:Setup) (n:Nat):Array Value:=#[↑(c 0),↑(c 1),↑(c 2),↑(c 3),↑(c 4),↑(c 5),↑(π D.c),↑(π D.l),↑(π D.t),↑(π D.a),↑(π D.e.b),↑(π D.p),↑n]
structure aK (w:World) (B:Own) (D:SD) (s:SN):Prop where
 b:Blk w D.b 102 (iZ D s.e.c s.w)
 c:Blk w D.c 175 s.c.cells
 l:cP w B D.l s.L
 t:Blk w D.t 181 s.t.cells
 a:iE w D.a s.a
 e:aG w B D.e s.e
 p:Blk w D.p 167 s.p.cells
 own:B.o D.b∧B.o D.c∧B.o D.t∧B.o D.a∧B.o D.p
theorem aK.keep {w w':World} {B:Own} {D:SD} {s:SN} (h:aK w B D s) (k:Below ↑w w w'):aK w' B D s:=
 ⟨h.b.keep k,h.c.keep k,h.l.keep k,h.t.keep k,Blk.keep h.a k,h.e.keep k,h.p.keep k,h.own⟩
theorem aK.size {w:World} {B:Own} {D:SD} {s:SN} (h:aK w B D s):B.up w.heap.size:=h.e.up
theorem aK.kn {L:List TypeId} {w w':World} {B:Own} {D:SD} {s:SN} (h:aK w B D s) (n:KN L w w') (hL:∀T∈fE,T ∉ L) (b:aH B w w'):aK w' B D s:=
 ⟨n _ (hL _ (by decide)) _ _ h.b,n _ (hL _ (by decide)) _ _ h.c,h.l.kn n (fun T hT=>hL T (by unfold fE;simp [hT])),n _ (hL _ (by decide)) _ _ h.t,n _ (hL _ (by decide)) _ _ h.a,h.e.kn n (fun T hT=>hL T (by unfold fE;simp [hT])) b,n _ (hL _ (by decide)) _ _ h.p,h.own⟩
def bM (w:World) (B:Own) (D:SD) (s':SN) (w':World):Prop:=aK w' B D s'∧aH B w w'∧KN fE w w'
theorem aK.cl {w:World} {D:SD} {s:SN} (h:aK w B D s) {x:CS} (k:Blk w' D.c 175 x.cells) (g:w.grownBy w' (some D.c)):bM w B D {s with c:=x} w':=by
 have n:=KN.gr g h.c;have b:aH B w w':=(aH.refl _ _).gr g h.own.2.1;exact ⟨⟨n _ (by decide) _ _ h.b,k,h.l.kn n (by decide),n _ (by decide) _ _ h.t,n _ (by decide) _ _ h.a,h.e.kn n (by decide) b,n _ (by decide) _ _ h.p,h.own⟩,b,n.mono (by decide)⟩
theorem aK.tr {w:World} {D:SD} {s:SN} (h:aK w B D s) {x:TS} (k:Blk w' D.t 181 x.cells) (g:w.grownBy w' (some D.t)):bM w B D {s with t:=x} w':=by
 have n:=KN.gr g h.t;have b:aH B w w':=(aH.refl _ _).gr g h.own.2.2.1;exact ⟨⟨n _ (by decide) _ _ h.b,n _ (by decide) _ _ h.c,h.l.kn n (by decide),k,n _ (by decide) _ _ h.a,h.e.kn n (by decide) b,n _ (by decide) _ _ h.p,h.own⟩,b,n.mono (by decide)⟩
theorem aK.ra {w:World} {D:SD} {s:SN} (h:aK w B D s) {x:RaS} (k:iE w' D.a x) (g:w.grownBy w' (some D.a)):bM w B D {s with a:=x} w':=by
 have n:=KN.gr g h.a;have b:aH B w w':=(aH.refl _ _).gr g h.own.2.2.2.1;exact ⟨⟨n _ (by decide) _ _ h.b,n _ (by decide) _ _ h.c,h.l.kn n (by decide),n _ (by decide) _ _ h.t,k,h.e.kn n (by decide) b,n _ (by decide) _ _ h.p,h.own⟩,b,n.mono (by decide)⟩
theorem aK.pc {w:World} {D:SD} {s:SN} (h:aK w B D s) {x:PS} (k:Blk w' D.p 167 x.cells) (g:w.grownBy w' (some D.p)):bM w B D {s with p:=x} w':=by
 have n:=KN.gr g h.p;have b:aH B w w':=(aH.refl _ _).gr g h.own.2.2.2.2;exact ⟨⟨n _ (by decide) _ _ h.b,n _ (by decide) _ _ h.c,h.l.kn n (by decide),n _ (by decide) _ _ h.t,n _ (by decide) _ _ h.a,h.e.kn n (by decide) b,k,h.own⟩,b,n.mono (by decide)⟩
theorem aK.led {w w':World} {B:Own} {D:SD} {s:SN} (h:aK w B D s) {x:PL} (k:cP w' B D.l x) (b:aH B w w') (g:KL w w'):bM w B D {s with L:=x} w':=by
 have n:=KN.led g;exact ⟨⟨n _ (by decide) _ _ h.b,n _ (by decide) _ _ h.c,k,n _ (by decide) _ _ h.t,n _ (by decide) _ _ h.a,h.e.kn n (by decide) b,n _ (by decide) _ _ h.p,h.own⟩,b,n.mono (by decide)⟩
theorem aK.en {w:World} {D:SD} {s:SN} (h:aK w B D s) {x:ES} {v e:Ending} (k:aZ B D.e v x w e w') (hc:x.c=s.e.c):bM w B D {s with e:=x} w':=by
 have n:KN lE w w':=k.kt;have hb:=n _ (by decide) _ _ h.b;rw [← hc] at hb;exact ⟨⟨hb,n _ (by decide) _ _ h.c,h.l.kn n (by decide),n _ (by decide) _ _ h.t,n _ (by decide) _ _ h.a,k.at_,n _ (by decide) _ _ h.p,h.own⟩,k.bel,n.mono (by decide)⟩
theorem aK.wt {w:World} {D:SD} {s:SN} (h:aK w B D s) (x:Nat):bM w B D {s with w:=x} (w.setCell ⟨D.b,12,none⟩ ↑x):=by
 have n:=KN.set h.b 12 ↑x;have b:aH B w (w.setCell ⟨D.b,12,none⟩ ↑x):=(aH.refl _ _).setCell (p:=⟨D.b,12,none⟩) h.own.1 _;exact ⟨⟨h.b.set 12 ↑x,n _ (by decide) _ _ h.c,h.l.kn n (by decide),n _ (by decide) _ _ h.t,n _ (by decide) _ _ h.a,h.e.kn n (by decide) b,n _ (by decide) _ _ h.p,h.own⟩,b,n.mono (by decide)⟩
structure b8 (W:World) (B:Own) (D:SD) (s:SN) (w:World):Prop where
 at_:aK w B D s
 bel:aH B W w
 kt:KN fE W w
theorem b8.start {D:SD} {s:SN} (h:aK W B D s):b8 W B D s W:=⟨h,aH.refl _ _,KN.refl _ _⟩
theorem b8.to {W w w':World} {B:Own} {D:SD} {s:SN} (h:b8 W B D s w) (k:Below ↑w w w'):b8 W B D s w':=⟨h.at_.keep k,h.bel.to k,h.kt.trans (KN.below _ k)⟩
theorem b8.drew {W w:World} {B:Own} {D:SD} {s:SN} (h:b8 W B D s w):b8 W B D s w.drew:=h.to ((aB.drew w).below _)
theorem b8.step {W w w':World} {B:Own} {D:SD} {s s':SN} (h:b8 W B D s w) (k:bM w B D s' w'):b8 W B D s' w':=⟨k.1,h.bel.trans k.2.1,h.kt.trans k.2.2⟩
structure nG (W:World) (B:Own) (D:SD) (s:SN) (w:World):Prop where
 at_:aK w B D s
 bel:Below ↑W W w
theorem nG.start {D:SD} {s:SN} (h:aK W B D s):nG W B D s W:=⟨h,Below.refl _ _⟩
theorem nG.to {w:World} {D:SD} {s:SN} (h:nG W B D s w) (k:Below ↑w w w'):nG W B D s w':=⟨h.at_.keep k,aD h.bel k h.bel.size⟩
theorem nG.drew {W w:World} {B:Own} {D:SD} {s:SN} (h:nG W B D s w):nG W B D s w.drew:=h.to ((aB.drew w).below _)
theorem SG {D:SD} {s:SN} {i:Nat} (hv:(iZ D s.e.c s.w)[i]? =some v):∀w,Hid (nG W B D s w)→w.cell? ⟨D.b,i,none⟩=some v:=fun w q=>q.out.at_.b.cell hv
structure pD (B:Own) (D:SD) (v:Ending) (s':SN) (W:World) (e:Ending) (w:World):Prop where
 e:e=v
 i:b8 W B D s' w
theorem pD.step {W w w':World} {B:Own} {D:SD} {s s':SN} {v e:Ending} (h:b8 W B D s w) (k:pD B D v s' w e w'):b8 W B D s' w':=h.step ⟨k.i.at_,k.i.bel,k.i.kt⟩
def oB (W:World) (B:Own) (D:SD) (w:World):Prop:=∃s,b8 W B D s w
theorem bE {w:World} {D:SD} {s:SN} (h:Hid (b8 W B D s w)):Hid (oB W B D w):=lh ⟨s,h.out⟩
theorem rG {D:SD} {i:Nat} (hv:∀c n,(iZ D c n)[i]? =some v):∀w,Hid (oB W B D w)→w.cell? ⟨D.b,i,none⟩=some v:=fun w q=>by
 obtain ⟨s,h⟩:=q.out;exact h.at_.b.cell (hv _ _)
theorem jH {D:SD} {s:SN} (W:World) (h:aK W B D s):
  Calls prog 24 #[↑(π D.b)] W fun e w'=>e=.returned ↑s.c.t∧Below ↑W W w':=by
 have HT:=lh (tT D.c s.c W h.c);have p6:=h.b.cell (i:=6) (v:=↑(π D.c)) rfl;clear h;go_enter func24,ntmps24;go_wp2_with fail;refine HT.out.mono ?_;rintro e w' ⟨rfl,hb⟩;go_wp2_with fail;go_ret;exact ⟨rfl,hb⟩
theorem LE {D:SD} {s:SN} (W:World) (h:aK W B D s):
  Calls prog 22 #[↑(π D.b)] W fun e w'=>e=.returned (.bool s.c.p)∧Below ↑W W w':=by
 have HT:=lh (tU D.c s.c W h.c);have p6:=h.b.cell (i:=6) (v:=↑(π D.c)) rfl;clear h;generalize s.c.p=q at *;go_enter func22,ntmps22;go_wp2_with fail;refine HT.out.mono ?_;rintro e w' ⟨rfl,hb⟩;go_wp2_with fail;go_ret;exact ⟨rfl,hb⟩
theorem eC {D:SD} {s:SN} (W:World) (h:aK W B D s):
  Calls prog 19 #[↑(π D.b)] W fun e w'=>e=.returned ↑s.L.fl∧Below ↑W W w':=by
 have HT:=lh (rD h.l);rw [GI] at HT;have p7:=h.b.cell (i:=7) (v:=↑(π D.l)) rfl;clear h;unfold PL.fl;generalize aT 0 s.L.out=x at *;go_enter func19,ntmps19;go_wp2_with fail;refine HT.out.mono ?_;rintro e w' ⟨rfl,rfl⟩;go_wp2_with fail;go_ret;exact ⟨rfl,Below.refl _ _⟩
theorem vM {D:SD} {s:SN} (W:World) (h:aK W B D s):
  Calls prog 21 #[↑(π D.b)] W fun e w'=>e=.returned ↑s.w∧Below ↑W W w':=by
 have p:=h.b.cell (i:=12) (v:=↑s.w) rfl;clear h;go_enter func21,ntmps21;go_wp2;go_ret;exact ⟨rfl,Below.refl _ _⟩
theorem AV {D:SD} {s:SN} (W:World) (h:aK W B D s):
  Calls prog 17 #[↑(π D.b)] W fun e w'=>e=.returned ↑(π D.e.b)∧Below ↑W W w':=by
 have p:=h.b.cell (i:=10) (v:=↑(π D.e.b)) rfl;clear h;go_enter func17,ntmps17;go_wp2;go_ret;exact ⟨rfl,Below.refl _ _⟩
theorem xR {D:SD} {s:SN} (W:World) (h:aK W B D s):
  Calls prog 51 #[↑(π D.b)] W fun e w'=>e=.returned ↑s.size∧Below ↑W W w':=by
 have p0:=h.b.cell (i:=0) (v:=↑(s.e.c 0)) rfl;have p:=h.b.cell (i:=12) (v:=↑s.w) rfl;clear h;unfold SN.size;generalize s.e.c 0=x at *;generalize s.w=y at *;go_enter func51,ntmps51;go_wp2_with fail;go_quiet (fail)
 go_wp2_with fail;go_ret;exact ⟨bH (by omega),aB.below ⟨_,rfl⟩ _⟩
theorem LF {D:SD} {s:SN} (x:Nat) (W:World) (h:aK W B D s) (hx:x≤↑ω):
  Calls prog 50 #[↑(π D.b),↑x] W fun e w'=>e=.returned (.bool (decide (Pl.addS x s.L.fl≤s.e.cwnd)))∧Below ↑W W w':=by
 have HI:=lh (fun w h=>eC (B:=B) (D:=D) (s:=s) w h);have HC:=lh (fun w h=>wZ (B:=B) (P:=D.e) (s:=s.e) w h);have HA:=lh (bU x s.L.fl hx s.fl_le);have I0:=lh (nG.start h).drew;have r10:=SG (W:=W) (B:=B) (D:=D) (s:=s) (i:=10) (v:=↑(π D.e.b)) rfl;clear h;generalize Pl.addS x s.L.fl=z at *;generalize s.L.fl=f at *;go_enter func50,ntmps50;go_wp2_with fail;go_region_held3 (fun w'=>Hid (nG W B D s w'))
  (first | with_reducible exact I3 | with_reducible exact I2 | with_reducible exact I1 | with_reducible exact I0 | exact lh (I1.out.to (aC _ _)))
  (first
   | (go_at_call 19;(with_reducible refine (HI.out _ I0.out.at_).mono ?_);rintro e w1 ⟨rfl,hb⟩;have I1:=lh (I0.out.to hb);have K1:=lh (nc2 w1 x f 22);have I1b:=lh (I1.out.to (aC _ (.cells #[↑x,↑f] 22)));clear hb)
   | (go_at_call 60;(with_reducible refine (HA.out _ _ K1.out.1 K1.out.2).mono ?_);rintro e w2 ⟨rfl,hb⟩;have I2:=lh (I1b.out.to hb);clear hb)
   | (go_at_call 20;(with_reducible refine (HC.out _ I2.out.at_.e).mono ?_);rintro e w3 ⟨rfl,hb⟩;have I3:=lh (I2.out.to hb);clear hb))
 go_wp2_with fail;go_ret;refine ⟨?_,I3.out.bel⟩;congr 2
def QV (w:World) (l:List Pk) (k:Nat) (wr:World):Prop:=k≤l.length∧Below ↑w w wr
theorem GJ (c:Nat) (p:Option Addr) (l:List Pk) (w:World) (hl:Its w p l) (hu:∀x∈l,x.size≤↑ω) (hm:l.length≤9223372036854775807):
  Calls prog 68 #[.slice p l.length c] w fun e w'=>e=.returned ↑(aT 0 l:Nat)∧Below ↑w w w':=by
 have HL:=lh hl;have HU:=lh hu;clear hl hu;go_enter func68,ntmps68;go_wp2_with fail;go_loopw [3,8] (fun t i wr=>∃k:Nat,i=.int .i64 (k:Int)∧t=↑(aT 0 (l.take k):Nat)∧QV w l k wr) (fun _ i _=>l.length - (intOf i).toNat)
 case atStart=>exact ⟨0,rfl,rfl,Nat.zero_le _,Below.refl _ _⟩
 case round=>
  obtain ⟨k,rfl,rfl,hk,h2⟩:=hrel;have HB:=lh h2;clear h2;by_cases hlt:k < l.length
  ·obtain ⟨pb,off,rfl,hb,hcs⟩:=HL.out (by omega)
   have H1:=kC (k:=k) hcs hlt (o:=off + k * 7) (by omega);have d0:=(HB.out.cell (p:=⟨pb,off + k * 7 + 0,none⟩) hb).trans (H1 0 (by omega));have d1:=(HB.out.cell (p:=⟨pb,off + k * 7 + 1,none⟩) hb).trans (H1 1 (by omega));have d2:=(HB.out.cell (p:=⟨pb,off + k * 7 + 2,none⟩) hb).trans (H1 2 (by omega));have d3:=(HB.out.cell (p:=⟨pb,off + k * 7 + 3,none⟩) hb).trans (H1 3 (by omega));have d4:=(HB.out.cell (p:=⟨pb,off + k * 7 + 4,none⟩) hb).trans (H1 4 (by omega));have d5:=(HB.out.cell (p:=⟨pb,off + k * 7 + 5,none⟩) hb).trans (H1 5 (by omega));have d6:=(HB.out.cell (p:=⟨pb,off + k * 7 + 6,none⟩) hb).trans (H1 6 (by omega));clear H1 hcs;have HX:Hid ((l.getD k Itm.z).size≤↑ω):=lh (by
    have e:l.getD k Itm.z=l[k]:=by rw [List.getD_eq_getElem?_getD,List.getElem?_eq_getElem hlt];rfl
    rw [e];exact HU.out _ (List.getElem_mem hlt))
   have HT:=lh (oK 0 (l:=l) (k:=k) hlt);have hle:aT 0 (l.take k)≤18446744073709551615:=dJ (Nat.zero_le _);generalize l.getD k Itm.z=x at *;generalize aT 0 (l.take k)=m at *;simp only [Pk.cs,List.getElem?_cons_succ,List.getElem?_cons_zero,Nat.add_zero] at d0 d1 d2 d3 d4 d5 d6;have i0:(0:Int)≤(k:Int):=by omega
   have i1:(k:Int) < (l.length:Int):=by omega
   have HN:=lh (Blk.new wr 73 #[↑x.n,↑x.size,↑x.sent,↑x.first,↑x.deliv,↑x.at_,.bool x.lim]);have HB2:=lh (aD HB.out (aC wr (.cells #[↑x.n,↑x.size,↑x.sent,↑x.first,↑x.deliv,↑x.at_,.bool x.lim] 73)) HB.out.size);have HS:Hid (wr.heap.size + 1=(wr.alloc (.cells #[↑x.n,↑x.size,↑x.sent,↑x.first,↑x.deliv,↑x.at_,.bool x.lim] 73)).heap.size):=lh (by simp);go_wp2_with fail;generalize (wr.alloc (.cells #[↑x.n,↑x.size,↑x.sent,↑x.first,↑x.deliv,↑x.at_,.bool x.lim] 73))=wa at *;have e1:=HN.out.cell (i:=1) (v:=↑x.size) rfl;clear d0 d1 d2 d3 d4 d5 d6 HB HN;have HA:=lh (bU m x.size hle HX.out _ _ (nZ wa (wr.heap.size + 1) m x.size 22 HS.out).1 (nZ wa (wr.heap.size + 1) m x.size 22 HS.out).2);have HB3:=lh (aD HB2.out (aC wa (.cells #[↑m,↑x.size] 22)) HB2.out.size);generalize Pl.addS m x.size=m' at *;have HLt:=lh (And.intro hlt hm);clear hle HX i0 i1 hlt hb hm hk;refine HA.out.mono ?_;rintro e w' ⟨rfl,hb⟩;have HB4:=lh (aD HB3.out hb HB3.out.size);clear hb;obtain ⟨hlt,hm⟩:=HLt.out;go_wp2_with fail;go_roundw
   case rel=>exact ⟨k + 1,by go_num,by rw [HT.out],by omega,HB4.out⟩
   case measure=>simp [intOf];omega
  ·obtain rfl:k=l.length:=by omega
   rw [List.take_length];go_wp2_with fail;go_ret;exact ⟨rfl,HB.out⟩
theorem PR.form2 {w:World} {l:List Pk} (h:PR w v l):∃p c,v=.slice p l.length c∧l.length≤c∧c≤9223372036854775807:=by
 rcases h.2 with ⟨e,k⟩ | ⟨g,cap,cur,e,_,_,h1,h2,_⟩
 ·exact ⟨none,0,by rw [e,k],by omega,by omega⟩
 ·exact ⟨_,cap,e,h1,by unfold maxLen at h2;omega⟩
theorem kK (l:List Pk) (w:World) (h:PR w v l) (hu:∀x∈l,x.size≤↑ω):
  Calls prog 68 #[v] w fun e w'=>e=.returned ↑(aT 0 l:Nat)∧Below ↑w w w':=by
 obtain ⟨p,c,rfl,h1,h2⟩:=h.form2;exact GJ c p l w h.its hu (by omega)

theorem SN.ok.big {c:Setup} {k:Nat} {s:SN} (h:s.ok c k m d) {p:Pk} (hp:p∈s.L.out):p.size≤18446744073709551615:=by
 have h1:=(h.pk p hp).2.1;have h2:=h.e.c 0;rw [h.ec] at h2;omega
def SN.lossL (s:SN):SN:={s with L:={s.L with out:=s.keptL}}
def SN.lossW (s:SN):SN:={s with L:={s.L with out:=s.keptL},w:=Pl.addS s.w (aT 0 s.lostL)}
theorem SN.loss_yes {s:SN} (h:s.lostL≠[]∧s.keptL=[]):s.loss={s.lossW with t:=s.t.dbl}:=by
 unfold SN.loss SN.lossW;rw [if_pos h]
theorem SN.loss_no {s:SN} (h:¬ (s.lostL≠[]∧s.keptL=[])):s.loss=s.lossW:=by
 unfold SN.loss SN.lossW;rw [if_neg h]
theorem SN.lost_sum {c:Setup} {k:Nat} {s:SN} (h:s.ok c k m d):(s.lostL=[]∧aT 0 s.lostL=0)∨(s.lostL≠[]∧0 < aT 0 s.lostL):=by
 by_cases e:s.lostL=[]
 ·left;rw [e];exact ⟨rfl,rfl⟩
 ·right
  refine ⟨e,?_⟩;have:=(SN.loss_w h).2.2;have:=sM (l:=s.lostL) (fun p hp=>(h.pk p ((List.mem_filter.1 hp).1)).1) e;omega
theorem SN.kept_sum {c:Setup} {k:Nat} {s:SN} (h:s.ok c k m d):(s.keptL=[]∧s.lossW.L.fl=0)∨(s.keptL≠[]∧0 < s.lossW.L.fl):=by
 have hfl:s.lossW.L.fl=aT 0 s.keptL:=rfl;by_cases e:s.keptL=[]
 ·left;rw [hfl,e];exact ⟨rfl,rfl⟩
 ·right
  refine ⟨e,?_⟩;have:=sM (l:=s.keptL) (fun p hp=>(h.pk p ((List.mem_filter.1 hp).1)).1) e;rw [hfl,gK _ _ (Nat.zero_le _)];omega
theorem xS {D:SD} {s:SN} {c:Setup} {k:Nat} (W:World) (h:aK W B D s) (ho:s.ok c k m d):
  Calls prog 69 #[↑(π D.b)] W (pD B D (.returned ↑(aT 0 s.lostL:Nat)) s.loss W):=by
 have HTi:=lh (fun w (q:aK w B D s)=>jH w q);have HDe:=lh (fun w (q:aK w B D s)=>mS.1 D.t s.t w q.t ho.t);have HLi:=lh (fun w (q:aK w B D s)=>mS.2 D.t s.t w q.t ho.t);have HLo:Hid (∀w,aK w B D s→Calls prog 121 #[↑(π D.l),↑s.c.t,↑s.t.del,↑s.t.lim] w fun e w'=>∃v,e=.returned v∧Hid (PR w' v s.lostL)∧Hid (bM w B D s.lossL w')):=lh (fun w q=>(GF q.size q.l s.c.t s.t.del s.t.lim (TS.del_le _) (TS.lim_le _)).mono (by rintro e w' ⟨v,rfl,h1,h2,h3,h4,h5⟩;exact ⟨v,rfl,lh h1,lh (q.led h3 h4 h5)⟩));have HBy:=lh (fun w v (q:PR w v s.lostL)=>kK s.lostL w q (fun x hx=>ho.big ((List.mem_filter.1 hx).1)));have HIn:=lh (fun w (q:aK w B D s.lossW)=>eC w q);have HDo:=lh (fun w (q:aK w B D s.lossW)=>yT D.t s.t w q.t ho.t);have HN:=lh (SN.lost_sum ho);have HK:=lh (SN.kept_sum ho);have hw1:s.w≤18446744073709551615:=by have:=ho.small;omega
 have hw2:aT 0 s.lostL≤18446744073709551615:=dJ (Nat.zero_le _);have HA:=lh (bU s.w (aT 0 s.lostL) hw1 hw2);have HZ:Hid (s.lossW={s.lossL with w:=Pl.addS s.w (aT 0 s.lostL)}):=lh rfl;have M0:=lh (b8.start h).drew;have X0:=bE M0;have p7:=rG (W:=W) (B:=B) (D:=D) (i:=7) (v:=↑(π D.l)) (fun _ _=>rfl);have p8:=rG (W:=W) (B:=B) (D:=D) (i:=8) (v:=↑(π D.t)) (fun _ _=>rfl);have HY:=lh (fun q=>SN.loss_yes (s:=s) q);have HX:=lh (fun q=>SN.loss_no (s:=s) q);clear h ho hw1 hw2;generalize s.loss=sl at *;generalize hz:Pl.addS s.w (aT 0 s.lostL)=z at *;generalize hn:aT 0 s.lostL=n at *;generalize hf:s.lossW.L.fl=f at *;generalize hd:s.t.del=de at *;generalize hl:s.t.lim=li at *;clear hz hn hf hd hl;go_enter func69,ntmps69;go_wp2_with fail;go_region_held3 (fun w'=>Hid (oB W B D w'))
  (first | with_reducible exact X5 | with_reducible exact X4 | with_reducible exact X3 | with_reducible exact X2 | with_reducible exact X1 | with_reducible exact X0)
  (first
   | (go_at_call 24;(with_reducible refine (HTi.out _ M0.out.at_).mono ?_);rintro e w1 ⟨rfl,hb⟩;have M1:=lh (M0.out.to hb);have X1:=bE M1;clear hb)
   | (go_at_call 122;(with_reducible refine (HDe.out _ M1.out.at_).mono ?_);rintro e w2 ⟨rfl,hb⟩;have M2:=lh (M1.out.to hb);have X2:=bE M2;clear hb)
   | (go_at_call 123;(with_reducible refine (HLi.out _ M2.out.at_).mono ?_);rintro e w3 ⟨rfl,hb⟩;have M3:=lh (M2.out.to hb);have X3:=bE M3;clear hb)
   | (go_at_call 121;(with_reducible refine (HLo.out _ M3.out.at_).mono ?_);rintro e w4 ⟨v,rfl,hp,ha⟩;have M4:=lh (M3.out.step ha.out);have X4:=bE M4;clear ha)
   | (go_at_call 68;(with_reducible refine (HBy.out _ _ hp.out).mono ?_);rintro e w5 ⟨rfl,hb⟩;have M5:=lh (M4.out.to hb);have X5:=bE M5;clear hb hp))
 clear X0 X1 X2 X3 X4 X5 M0 M1 M2 M3 M4 HTi HDe HLi HLo HBy;have c12:=M5.out.at_.b.cell (i:=12) (v:=↑s.w) rfl;have M6:=lh (M5.out.to (aC _ (.cells #[↑s.w,↑n] 22)));have K6:=lh (nc2 w5 s.w n 22);go_wp2_with fail;refine (HA.out _ _ K6.out.1 K6.out.2).mono ?_;rintro e w6 ⟨rfl,hb⟩;have M7:=lh (M6.out.to hb);clear hb K6 M6 HA c12;have c12:=M7.out.at_.b.cell (i:=12) (v:=↑s.w) rfl;have f12:=M7.out.at_.b.free 12;have M8:=lh (M7.out.step (M7.out.at_.wt z));rw [← HZ.out] at M8;have c7:=M8.out.at_.b.cell (i:=7) (v:=↑(π D.l)) rfl;have c8:=M8.out.at_.b.cell (i:=8) (v:=↑(π D.t)) rfl;clear M5 M7 HZ;rcases HN.out with ⟨hL,hn⟩ | ⟨hL,hn⟩
 ·have d1:decide ((0:Int) < (n:Int))=false:=decide_eq_false (by omega)
  have d2:decide (0 < n)=false:=decide_eq_false (by omega);have HE:=lh (HX.out (fun q=>q.1 hL));clear hn hL HN HK HX HY c7 c8;go_wp2_with fail;go_ret;exact ⟨rfl,by rw [HE.out];exact M8.out⟩
 ·have d1:decide ((0:Int) < (n:Int))=true:=decide_eq_true (by omega)
  have d2:decide (0 < n)=true:=decide_eq_true (by omega);clear hn;rcases HK.out with ⟨hK,hf⟩ | ⟨hK,hf⟩
  ·have e1:((f:Int) == 0)=true:=by rw [hf];rfl
   have HE:=lh (HY.out ⟨hL,hK⟩);clear hf hK hL HN HK HX HY;go_wp2_with fail;refine (HIn.out _ M8.out.at_).mono ?_;rintro e w9 ⟨rfl,hb⟩;have M9:=lh (M8.out.to hb);clear hb M8 c7 c8 c12 f12;have c8:=M9.out.at_.b.cell (i:=8) (v:=↑(π D.t)) rfl;go_wp2_with fail;refine (HDo.out _ M9.out.at_).mono ?_;rintro e w10 hp;obtain rfl:=hp.e;have M10:=lh (M9.out.step (M9.out.at_.tr hp.blk hp.gr));clear hp;go_wp2_with fail;go_ret;exact ⟨rfl,by rw [HE.out];exact M10.out⟩
  ·have e1:((f:Int) == 0)=false:=beq_eq_false_iff_ne.2 (by omega)
   have HE:=lh (HX.out (fun q=>hK q.2));clear hf hK hL HN HK HX HY;go_wp2_with fail;refine (HIn.out _ M8.out.at_).mono ?_;rintro e w9 ⟨rfl,hb⟩;have M9:=lh (M8.out.to hb);clear hb M8 c7 c8 c12 f12;go_wp2_with fail;go_ret;exact ⟨rfl,by rw [HE.out];exact M9.out⟩

structure fZ (W:World) (B:Own) (D:SD) (s:SN) (cs:Array Value) (w:World):Prop where
 i:b8 W B D s w
 ev:Blk w W.heap.size 137 cs
 sz:B.up W.heap.size
theorem fZ.to {W w w':World} {B:Own} {D:SD} {s:SN} {cs:Array Value} (h:fZ W B D s cs w) (k:Below ↑w w w'):fZ W B D s cs w':=⟨h.i.to k,h.ev.keep k,h.sz⟩
theorem fZ.start {W:World} {B:Own} {D:SD} {s:SN} (h:aK W B D s) (cs:Array Value):fZ W B D s cs (W.alloc (.cells cs 137)):=⟨(b8.start h).to (aC _ _),Blk.new W _ _,h.size⟩
theorem fZ.set {W w:World} {B:Own} {D:SD} {s:SN} {cs cs':Array Value} (h:fZ W B D s cs w) (i:Nat) (u:Value) (he:cs.setIfInBounds i u=cs'):fZ W B D s cs' (w.setCell ⟨W.heap.size,i,none⟩ u):=by
 have b:aH B w (w.setCell ⟨W.heap.size,i,none⟩ u):=(aH.refl _ _).setCell (p:=⟨W.heap.size,i,none⟩) (h.sz _ (Nat.le_refl _)) _;exact ⟨⟨h.i.at_.kn (KN.set h.ev i u) (by decide) b,h.i.bel.trans b,fun T hT z ds q=>(h.i.kt T hT z ds q).set_other i u (Nat.ne_of_lt q.lt)⟩,he▸h.ev.set i u,h.sz⟩
theorem fZ.en {W w w':World} {B:Own} {D:SD} {s:SN} {cs:Array Value} (h:fZ W B D s cs w) {x:ES} {v e:Ending} (k:aZ B D.e v x w e w') (hc:x.c=s.e.c):fZ W B D {s with e:=x} cs w':=⟨h.i.step (h.i.at_.en k hc),k.kt _ (by decide) _ _ h.ev,h.sz⟩
def xT (W:World) (B:Own) (D:SD) (cs:Array Value) (w:World):Prop:=∃s,fZ W B D s cs w
theorem NB {w:World} {D:SD} {s:SN} {cs:Array Value} (h:Hid (fZ W B D s cs w)):Hid (xT W B D cs w):=lh ⟨s,h.out⟩
theorem nH {D:SD} {cs:Array Value} {i:Nat} (hv:cs[i]? =some v):∀w,Hid (xT W B D cs w)→w.cell? ⟨W.heap.size,i,none⟩=some v:=fun w q=>by
 obtain ⟨s,h⟩:=q.out;exact h.ev.cell hv
theorem SH {D:SD} {cs:Array Value} {i:Nat} (hv:∀c n,(iZ D c n)[i]? =some v):∀w,Hid (xT W B D cs w)→w.cell? ⟨D.b,i,none⟩=some v:=fun w q=>by
 obtain ⟨s,h⟩:=q.out;exact h.i.at_.b.cell (hv _ _)
theorem xU {D:SD} {s:SN} {k sd si sr rt ac lo:Nat} {sl sm:Bool} (W:World) (h:aK W B D s) (ho:s.e.ok k) (hk:k≤900) (hx:EvS.ok ⟨s.c.t,sd,si,sr,rt,sl,sm,s.a.n,ac,lo,s.L.fl⟩) (hc:(s.e.on ⟨s.c.t,sd,si,sr,rt,sl,sm,s.a.n,ac,lo,s.L.fl⟩).c=s.e.c):
  Calls prog 67 #[↑(π D.b),.agg #[↑ζ,↑sd,↑si,↑sr,↑rt,.bool sl,.bool sm,↑ζ,↑ac,↑lo,↑ζ]] W (pD B D (.returned (.tuple #[])) {s with e:=s.e.on ⟨s.c.t,sd,si,sr,rt,sl,sm,s.a.n,ac,lo,s.L.fl⟩} W):=by
 have HTi:=lh (fun w (q:aK w B D s)=>jH w q);have HDe:=lh (fun w (q:aK w B D s)=>pY D.a s.a w q.a);have HIn:=lh (fun w (q:aK w B D s)=>eC w q);have HOn:Hid (∀w,aK w B D s→Calls prog 120 #[↑(π D.e.b),.agg #[↑s.c.t,↑sd,↑si,↑sr,↑rt,.bool sl,.bool sm,↑s.a.n,↑ac,↑lo,↑s.L.fl]] w (aZ B D.e (.returned (.tuple #[])) (s.e.on ⟨s.c.t,sd,si,sr,rt,sl,sm,s.a.n,ac,lo,s.L.fl⟩) w)):=lh (fun w q=>QU ⟨s.c.t,sd,si,sr,rt,sl,sm,s.a.n,ac,lo,s.L.fl⟩ hx w q.e ho hk);have T0:=lh (fZ.start h #[↑ζ,↑sd,↑si,↑sr,↑rt,.bool sl,.bool sm,↑ζ,↑ac,↑lo,↑ζ]);have p9:=rG (W:=W) (B:=B) (D:=D) (i:=9) (v:=↑(π D.a)) (fun _ _=>rfl);clear h ho hk hx;generalize s.e.on ⟨s.c.t,sd,si,sr,rt,sl,sm,s.a.n,ac,lo,s.L.fl⟩=e' at *;go_enter func67,ntmps67;go_wp2_with fail;generalize W.alloc (.cells #[↑ζ,↑sd,↑si,↑sr,↑rt,.bool sl,.bool sm,↑ζ,↑ac,↑lo,↑ζ] 137)=w0 at *;have T1:=lh (T0.out.to ((aB.drew w0).below _));clear T0;refine rhd (S:=(fun w'=>Hid (oB W B D w'))) (bE (lh T1.out.i)) (fun hHeld=>?_);refine tkc 0 ?_;refine tkc 2 ?_;refine tkc 3 ?_;refine tkc 4 ?_;refine tks 5 ?_;refine tkc 7 ?_;refine rdy [1] ?_;refine cns (fun K hK=>?_) .nil;go_simp;refine (HTi.out _ T1.out.i.at_).mono ?_;rintro e w1 ⟨rfl,hb⟩;have T2:=lh (T1.out.to hb);clear hb;go_wp2_with fail;refine bck hK (bE (lh T2.out.i)) (fun hHeld=>?_);clear hK;refine tkc 9 ?_;refine rdy [6] ?_;refine cns (fun K hK=>?_) .nil;go_simp;refine (HDe.out _ T2.out.i.at_).mono ?_;rintro e w2 ⟨rfl,rfl⟩;go_wp2_with fail;refine bck hK (bE (lh T2.out.i)) (fun hHeld=>?_);clear hK;refine rdy [8] ?_;refine cns (fun K hK=>?_) .nil;go_simp;refine (HIn.out _ T2.out.i.at_).mono ?_;rintro e w3 ⟨rfl,hb⟩;have T3:=lh (T2.out.to hb);clear hb;go_wp2_with fail;refine bck hK (bE (lh T3.out.i)) (fun hHeld=>?_);clear hK;refine rdy [10] ?_;refine cns (fun K hK=>?_) .nil;have c0:=T3.out.ev.cell (i:=0) (v:=↑ζ) rfl;have y0:=T3.out.ev.free 0;have T4:=lh (T3.out.set (cs':=#[↑s.c.t,↑sd,↑si,↑sr,↑rt,.bool sl,.bool sm,↑ζ,↑ac,↑lo,↑ζ]) 0 ↑s.c.t rfl);go_simp;refine bck hK (bE (lh T4.out.i)) (fun hHeld=>?_);clear hK;refine tkc 11 ?_;refine rdy [12] ?_;refine cns (fun K hK=>?_) .nil;have c7:=T4.out.ev.cell (i:=7) (v:=↑ζ) rfl;have y7:=T4.out.ev.free 7;have T5:=lh (T4.out.set (cs':=#[↑s.c.t,↑sd,↑si,↑sr,↑rt,.bool sl,.bool sm,↑s.a.n,↑ac,↑lo,↑ζ]) 7 ↑s.a.n rfl);go_simp;refine bck hK (bE (lh T5.out.i)) (fun hHeld=>?_);clear hK;refine tkc 13 ?_;refine rdy [14] ?_;refine cns (fun K hK=>?_) .nil;have c10:=T5.out.ev.cell (i:=10) (v:=↑ζ) rfl;have y10:=T5.out.ev.free 10;have T6:=lh (T5.out.set (cs':=#[↑s.c.t,↑sd,↑si,↑sr,↑rt,.bool sl,.bool sm,↑s.a.n,↑ac,↑lo,↑s.L.fl]) 10 ↑s.L.fl rfl);go_simp;refine bck hK (bE (lh T6.out.i)) (fun hHeld=>?_);clear hK;refine wpAnyH_done (by kernel_rfl) ?_ _;go_wp2_with fail;have T7:=lh (T6.out.to ((aB.drew _).below _));have v0:=nH (W:=W) (B:=B) (D:=D) (cs:=#[↑s.c.t,↑sd,↑si,↑sr,↑rt,.bool sl,.bool sm,↑s.a.n,↑ac,↑lo,↑s.L.fl]) (i:=0) (v:=↑s.c.t) rfl;have v1:=nH (W:=W) (B:=B) (D:=D) (cs:=#[↑s.c.t,↑sd,↑si,↑sr,↑rt,.bool sl,.bool sm,↑s.a.n,↑ac,↑lo,↑s.L.fl]) (i:=1) (v:=↑sd) rfl;have v2:=nH (W:=W) (B:=B) (D:=D) (cs:=#[↑s.c.t,↑sd,↑si,↑sr,↑rt,.bool sl,.bool sm,↑s.a.n,↑ac,↑lo,↑s.L.fl]) (i:=2) (v:=↑si) rfl;have v3:=nH (W:=W) (B:=B) (D:=D) (cs:=#[↑s.c.t,↑sd,↑si,↑sr,↑rt,.bool sl,.bool sm,↑s.a.n,↑ac,↑lo,↑s.L.fl]) (i:=3) (v:=↑sr) rfl;have v4:=nH (W:=W) (B:=B) (D:=D) (cs:=#[↑s.c.t,↑sd,↑si,↑sr,↑rt,.bool sl,.bool sm,↑s.a.n,↑ac,↑lo,↑s.L.fl]) (i:=4) (v:=↑rt) rfl;have v5:=nH (W:=W) (B:=B) (D:=D) (cs:=#[↑s.c.t,↑sd,↑si,↑sr,↑rt,.bool sl,.bool sm,↑s.a.n,↑ac,↑lo,↑s.L.fl]) (i:=5) (v:=.bool sl) rfl;have v6:=nH (W:=W) (B:=B) (D:=D) (cs:=#[↑s.c.t,↑sd,↑si,↑sr,↑rt,.bool sl,.bool sm,↑s.a.n,↑ac,↑lo,↑s.L.fl]) (i:=6) (v:=.bool sm) rfl;have v7:=nH (W:=W) (B:=B) (D:=D) (cs:=#[↑s.c.t,↑sd,↑si,↑sr,↑rt,.bool sl,.bool sm,↑s.a.n,↑ac,↑lo,↑s.L.fl]) (i:=7) (v:=↑s.a.n) rfl
 have v8:=nH (W:=W) (B:=B) (D:=D) (cs:=#[↑s.c.t,↑sd,↑si,↑sr,↑rt,.bool sl,.bool sm,↑s.a.n,↑ac,↑lo,↑s.L.fl]) (i:=8) (v:=↑ac) rfl;have v9:=nH (W:=W) (B:=B) (D:=D) (cs:=#[↑s.c.t,↑sd,↑si,↑sr,↑rt,.bool sl,.bool sm,↑s.a.n,↑ac,↑lo,↑s.L.fl]) (i:=9) (v:=↑lo) rfl;have v10:=nH (W:=W) (B:=B) (D:=D) (cs:=#[↑s.c.t,↑sd,↑si,↑sr,↑rt,.bool sl,.bool sm,↑s.a.n,↑ac,↑lo,↑s.L.fl]) (i:=10) (v:=↑s.L.fl) rfl;have p10:=SH (W:=W) (B:=B) (D:=D) (cs:=#[↑s.c.t,↑sd,↑si,↑sr,↑rt,.bool sl,.bool sm,↑s.a.n,↑ac,↑lo,↑s.L.fl]) (i:=10) (v:=↑(π D.e.b)) (fun _ _=>rfl);clear T1 T2 T3 T4 T5 T6 c0 c7 c10 y0 y7 y10;refine rhd (S:=(fun w'=>Hid (xT W B D #[↑s.c.t,↑sd,↑si,↑sr,↑rt,.bool sl,.bool sm,↑s.a.n,↑ac,↑lo,↑s.L.fl] w'))) (NB T7) (fun hHeld=>?_);refine tkc 0 ?_;refine tkc 1 ?_;refine tkc 2 ?_;refine tks 3 ?_;refine tks 4 ?_;refine rdy [5] ?_;refine cns (fun K hK=>?_) .nil;go_simp;refine (HOn.out _ T7.out.i.at_).mono ?_;rintro e w5 hp;obtain rfl:=hp.e;have T8:=lh (T7.out.en hp hc);clear hp;go_wp2_with fail;refine bck hK (NB T8) (fun hHeld=>?_);clear hK;refine wpAnyH_done (by kernel_rfl) ?_ _;go_wp2_with fail;go_end0
 exact ⟨rfl,T8.out.i⟩

theorem Blk.srow {w:World} (h:Blk w g T old) (cs:Array Value):Blk (w.setRow g cs) g T cs:=setRow_heap w g old cs T (0,0) h
theorem Blk.srow_other {w:World} {b:Nat} {cs:Array Value} (h:Blk w b T cs) (hne:b≠g) (ds:Array Value):Blk (w.setRow g ds) b T cs:=(setRow_other w g b ds hne).trans h
theorem aH.setRow {B:Own} {a w:World} {g:Nat} (h:aH B a w) (hg:B.o g) (cs:Array Value):aH B a (w.setRow g cs):=
 h.trans ⟨by unfold World.setRow;rfl,by unfold World.setRow;rfl,by unfold World.setRow;rfl,Nat.le_of_eq (setRow_size w g cs).symm,fun k hk hn=>setRow_other w g k cs (fun e=>hn (e▸hg))⟩
theorem b8.row {w:World} {D:SD} {s:SN} (h:b8 W B D s w) (hb:Blk w n T old) (hT:T ∉ fE) (hB:B.up W.heap.size) (hn:↑W≤n) (cs:Array Value):b8 W B D s (w.setRow n cs):=by
 have b:aH B w (w.setRow n cs):=(aH.refl _ _).setRow (hB _ hn) cs;have k:KN [T] w (w.setRow n cs):=fun U hU z ds q=>q.srow_other (q.ty hb (by simpa using hU)) cs;exact ⟨h.at_.kn k (fun U hU q=>hT ((by simpa using q:U=T)▸hU)) b,h.bel.trans b,fun U hU z ds q=>(h.kt U hU z ds q).srow_other (by have:=q.lt;omega) cs⟩
def SN.sub (s:SN) (x:Nat):SN:={s with w:=s.w - x}
def SN.stp (s:SN):SN:={s with a:=s.stamp}
def SN.pkx (s:SN) (x:Nat):Pk:=⟨s.L.next,x,s.c.t,s.stamp.first,s.stamp.n,s.stamp.last,decide (s.stamp.mark≠0)⟩
def SN.putS (s:SN) (x:Nat):SN:={s with w:=s.w - x,a:=s.stamp,L:={s.L with out:=s.L.out ++ [s.pkx x],next:=s.L.next + 1}}
structure b9 (W:World) (B:Own) (D:SD) (s:SN) (w:World):Prop where
 i:b8 W B D s w
 r:∃ds,ds.size=7∧Blk w W.heap.size 73 ds
 sz:B.up W.heap.size
theorem b9.to {W w w':World} {B:Own} {D:SD} {s:SN} (h:b9 W B D s w) (k:Below ↑w w w'):b9 W B D s w':=⟨h.i.to k,by obtain ⟨d,e,q⟩:=h.r;exact ⟨d,e,q.keep k⟩,h.sz⟩
theorem b9.step {W w w':World} {B:Own} {D:SD} {s s':SN} (h:b9 W B D s w) (k:bM w B D s' w'):b9 W B D s' w':=⟨h.i.step k,by obtain ⟨d,e,q⟩:=h.r;exact ⟨d,e,k.2.2 _ (by decide) _ _ q⟩,h.sz⟩
def gA (W:World) (n:Nat) (cs:Array Value) (w:World):Prop:=Blk w n 71 cs∧W.heap.size < n
theorem gA.to {w:World} {cs:Array Value} (h:gA W n cs w) (k:Below ↑w w w'):gA W n cs w':=⟨h.1.keep k,h.2⟩
theorem gA.step {W w w':World} {B:Own} {n:Nat} {D:SD} {s':SN} {cs:Array Value} (h:gA W n cs w) (k:bM w B D s' w'):gA W n cs w':=⟨k.2.2 _ (by decide) _ _ h.1,h.2⟩
theorem b9.new {W w:World} {B:Own} {D:SD} {s:SN} (h:b9 W B D s w) (cs:Array Value):b9 W B D s (w.alloc (.cells cs 71))∧gA W w.heap.size cs (w.alloc (.cells cs 71)):=⟨h.to (aC _ _),Blk.new _ _ _,by obtain ⟨d,e,q⟩:=h.r;exact q.lt⟩
theorem b9.rowS {w:World} {D:SD} {s:SN} {cs:Array Value} (h:b9 W B D s w) (a:gA W n cs w) (ds:Array Value):b9 W B D s (w.setRow n ds)∧gA W n ds (w.setRow n ds):=
 ⟨⟨h.i.row a.1 (by decide) h.sz (Nat.le_of_lt a.2) ds,by obtain ⟨d,e,q⟩:=h.r;exact ⟨d,e,q.srow_other (Nat.ne_of_lt a.2) ds⟩,h.sz⟩,a.1.srow ds,a.2⟩
theorem b9.rowR {w:World} {D:SD} {s:SN} {cs:Array Value} (h:b9 W B D s w) (a:gA W n cs w) (ds:Array Value) (hd:ds.size=7):b9 W B D s (w.setRow W.heap.size ds)∧gA W n cs (w.setRow W.heap.size ds)∧Blk (w.setRow W.heap.size ds) W.heap.size 73 ds:=by
 obtain ⟨d,e,q⟩:=h.r;exact ⟨⟨h.i.row q (by decide) h.sz (Nat.le_refl _) ds,⟨ds,hd,q.srow ds⟩,h.sz⟩,⟨a.1.srow_other (Nat.ne_of_gt a.2) ds,a.2⟩,q.srow ds⟩
def AX (W:World) (B:Own) (D:SD) (n:Nat) (cs:Array Value) (w:World):Prop:=oB W B D w∧gA W n cs w
theorem GK {w:World} {D:SD} {s:SN} {cs:Array Value} (h:Hid (b9 W B D s w)) (a:Hid (gA W n cs w)):Hid (AX W B D n cs w):=lh ⟨⟨s,h.out.i⟩,a.out⟩
theorem GL {D:SD} {cs:Array Value} {i:Nat} (x:Hid (AX W B D n cs w0)) (hv:cs[i]? =some v):∀w,Hid (AX W B D n cs w)→w.cell? ⟨n,i,none⟩=some v:=fun w q=>q.out.2.1.cell hv
theorem SI {D:SD} {cs:Array Value} {i:Nat} (x:Hid (AX W B D n cs w0)) (hv:∀c m,(iZ D c m)[i]? =some v):∀w,Hid (AX W B D n cs w)→w.cell? ⟨D.b,i,none⟩=some v:=fun w q=>by
 obtain ⟨s,h⟩:=q.out.1;exact h.at_.b.cell (hv _ _)
theorem O0 {D:SD} {s:SN} (x:Nat) (W:World) (h:aK W B D s) (hx:x≤s.w) (hw:s.w≤↑ω) (hn:s.L.next≤5999) (hp:(s.pkx x).ok):
  Calls prog 128 #[↑(π D.b),↑x] W fun e w'=>e=.returned (.agg #[↑s.L.next,↑x,↑s.c.t,↑s.stamp.first,↑s.stamp.n,↑s.stamp.last,.bool (decide (s.stamp.mark≠0))])∧b8 W B D (s.putS x) w':=by
 have HTi:Hid (∀w,aK w B D (s.sub x)→Calls prog 24 #[↑(π D.b)] w fun e w'=>e=.returned ↑s.c.t∧Below ↑w w w'):=lh (fun w q=>jH (s:=s.sub x) w q);have HIn:Hid (∀w,aK w B D (s.sub x)→Calls prog 19 #[↑(π D.b)] w fun e w'=>e=.returned ↑s.L.fl∧Below ↑w w w'):=lh (fun w q=>eC (s:=s.sub x) w q);have HSt:Hid (∀w,aK w B D (s.sub x)→Calls prog 182 #[↑(π D.a),↑s.c.t,↑s.L.fl] w fun e w'=>e=.returned (.agg #[↑s.c.t,↑s.stamp.first,↑s.stamp.n,↑s.stamp.last,.bool (decide (s.stamp.mark≠0))])∧Hid (bM w B D (s.sub x).stp w')):=lh (fun w q=>(CZ D.a s.c.t s.L.fl s.a w q.a).mono (by rintro e w' hh;exact ⟨hh.e,lh (q.ra hh.blk hh.gr)⟩));have HSe:Hid (∀w,aK w B D (s.sub x).stp→Calls prog 183 #[↑(π D.l),↑x,.agg #[↑s.c.t,↑s.stamp.first,↑s.stamp.n,↑s.stamp.last,.bool (decide (s.stamp.mark≠0))]] w fun e w'=>e=.returned ↑s.L.next∧Hid (bM w B D (s.putS x) w')):=lh (fun w q=>(GE q.size q.l hn (s.pkx x) hp rfl).mono (by rintro e w' ⟨h1,h2,h3,h4⟩;exact ⟨h1,lh (q.led h2 h3 h4)⟩));have M0:Hid (b9 W B D s (W.alloc (.cells #[↑ζ,↑ζ,↑ζ,↑ζ,↑ζ,↑ζ,.bool false] 73))):=lh ⟨(b8.start h).to (aC _ _),⟨_,rfl,Blk.new _ _ _⟩,h.size⟩;have c12:=M0.out.i.at_.b.cell (i:=12) (v:=↑s.w) rfl;have y12:=M0.out.i.at_.b.free 12;have Mw:Hid (b9 W B D (s.sub x) _):=lh (M0.out.step (M0.out.i.at_.wt (s.w - x)));have e1:(s.w:Int) - (x:Int)=((s.w - x:Nat):Int):=by omega
 have e2:IntKind.u64.wrap ((s.w - x:Nat):Int)=((s.w - x:Nat):Int):=by rw [IntKind.wrap_u64];omega
 have p9:=rG (W:=W) (B:=B) (D:=D) (i:=9) (v:=↑(π D.a)) (fun _ _=>rfl);clear h hx hw hn hp M0;generalize s.w - x=y at *;generalize s.w=z at *;generalize s.c.t=t at *;generalize s.L.fl=fl at *;generalize s.L.next=nx at *;generalize s.stamp.first=a1 at *;generalize s.stamp.n=a2 at *;generalize s.stamp.last=a3 at *;generalize decide (s.stamp.mark≠0)=a4 at *;go_enter func128,ntmps128;go_upto_region 2 with fail
 generalize (W.alloc (.cells #[↑ζ,↑ζ,↑ζ,↑ζ,↑ζ,↑ζ,.bool false] 73)).setCell ⟨D.b,12,none⟩ ↑y=w0 at *;have M0:=lh (Mw.out.to ((aB.drew w0).below _));have X0:=bE (lh M0.out.i);clear Mw c12 y12 e1 e2;go_cut [5] from 14 to 23 (fun v wx=>∃n,v=↑(π n)∧gA W n #[↑t,↑a1,↑a2,↑a3,.bool a4] wx∧b9 W B D (s.sub x).stp wx)
 case first=>
  refine wp_region_noPanic ?_;refine rhd (S:=(fun w'=>Hid (oB W B D w'))) X0 (fun hHeld=>?_);refine tkc 0 ?_;refine tkc 1 ?_;refine tkc 2 ?_;refine tks 3 ?_;refine tkc 4 ?_;refine tkc 6 ?_;refine rdy [5,9] ?_;refine cns (fun K hK=>?_) ?_
  ·go_simp
   refine (HTi.out _ (Hid.out (by assumption):b9 W B D (s.sub x) _).i.at_).mono ?_;rintro e w1 ⟨rfl,hb⟩;have M1:=lh ((Hid.out (by assumption):b9 W B D (s.sub x) _).to hb);(try have A:=lh (A.out.to hb))
   clear hb;go_wp2_with fail;refine bck hK (bE (lh M1.out.i)) (fun hHeld=>?_);clear hK;refine rdy [7,9] ?_;refine cns (fun K hK=>?_) ?_
   ·go_simp
    refine (HIn.out _ (Hid.out (by assumption):b9 W B D (s.sub x) _).i.at_).mono ?_;rintro e w2 ⟨rfl,hb⟩;have M2:=lh ((Hid.out (by assumption):b9 W B D (s.sub x) _).to hb);(try have A:=lh (A.out.to hb))
    clear hb;go_wp2_with fail;refine bck hK (bE (lh M2.out.i)) (fun hHeld=>?_);clear hK;refine rdy [8,9] ?_;refine cns (fun K hK=>?_) ?_
    ·go_simp
     refine (HSt.out _ (Hid.out (by assumption):b9 W B D (s.sub x) _).i.at_).mono ?_;rintro e w3 ⟨rfl,ha⟩;have M3:=lh ((Hid.out (by assumption):b9 W B D (s.sub x) _).step ha.out);(try have A:=lh (A.out.step ha.out))
     clear ha;go_wp2_with fail;refine bck hK (bE (lh M3.out.i)) (fun hHeld=>?_);clear hK;refine rdy [9] ?_;refine cns (fun K hK=>?_) .nil;(first | have Z:=lh ((Hid.out (by assumption):b9 W B D (s.sub x).stp _).new #[↑ζ,↑ζ,↑ζ,↑ζ,.bool false]) | have Z:=lh ((Hid.out (by assumption):b9 W B D (s.sub x) _).new #[↑ζ,↑ζ,↑ζ,↑ζ,.bool false]))
     have M4:=lh Z.out.1;have A:=lh Z.out.2;clear Z;go_simp;refine bck hK (bE (lh M4.out.i)) (fun hHeld=>?_);clear hK;refine rdy [10] ?_;refine cns (fun K hK=>?_) .nil;rw [if_pos (by rfl)];refine wp_store_row _ _ _ rfl _ #[↑t,↑a1,↑a2,↑a3,.bool a4] rfl rfl _ _ A.out.1 (by kernel_rfl) rfl (by simp [Value.oneCell']) ?_;have Z:=lh ((Hid.out (by assumption):b9 W B D (s.sub x).stp _).rowS A.out #[↑t,↑a1,↑a2,↑a3,.bool a4]);have M5:=lh Z.out.1;have A5:=lh Z.out.2;clear Z;refine bck hK (bE (lh M5.out.i)) (fun hHeld=>?_);clear hK;refine wpAnyH_done (by kernel_rfl) ?_ _;refine NoPanic.normal ?_;go_wp2_with fail;go_meet
     exact ⟨_,rfl,A5.out,M5.out⟩
    refine cns (fun K hK=>?_) .nil;(first | have Z:=lh ((Hid.out (by assumption):b9 W B D (s.sub x).stp _).new #[↑ζ,↑ζ,↑ζ,↑ζ,.bool false]) | have Z:=lh ((Hid.out (by assumption):b9 W B D (s.sub x) _).new #[↑ζ,↑ζ,↑ζ,↑ζ,.bool false]))
    have M4:=lh Z.out.1;have A:=lh Z.out.2;clear Z;go_simp;refine bck hK (bE (lh M4.out.i)) (fun hHeld=>?_);clear hK;refine rdy [8] ?_;refine cns (fun K hK=>?_) .nil;go_simp;refine (HSt.out _ (Hid.out (by assumption):b9 W B D (s.sub x) _).i.at_).mono ?_;rintro e w3 ⟨rfl,ha⟩;have M3:=lh ((Hid.out (by assumption):b9 W B D (s.sub x) _).step ha.out);(try have A:=lh (A.out.step ha.out))
    clear ha;go_wp2_with fail;refine bck hK (bE (lh M3.out.i)) (fun hHeld=>?_);clear hK;refine rdy [10] ?_;refine cns (fun K hK=>?_) .nil;rw [if_pos (by rfl)];refine wp_store_row _ _ _ rfl _ #[↑t,↑a1,↑a2,↑a3,.bool a4] rfl rfl _ _ A.out.1 (by kernel_rfl) rfl (by simp [Value.oneCell']) ?_;have Z:=lh ((Hid.out (by assumption):b9 W B D (s.sub x).stp _).rowS A.out #[↑t,↑a1,↑a2,↑a3,.bool a4]);have M5:=lh Z.out.1;have A5:=lh Z.out.2;clear Z;refine bck hK (bE (lh M5.out.i)) (fun hHeld=>?_);clear hK;refine wpAnyH_done (by kernel_rfl) ?_ _;refine NoPanic.normal ?_;go_wp2_with fail;go_meet
    exact ⟨_,rfl,A5.out,M5.out⟩
   refine cns (fun K hK=>?_) .nil;(first | have Z:=lh ((Hid.out (by assumption):b9 W B D (s.sub x).stp _).new #[↑ζ,↑ζ,↑ζ,↑ζ,.bool false]) | have Z:=lh ((Hid.out (by assumption):b9 W B D (s.sub x) _).new #[↑ζ,↑ζ,↑ζ,↑ζ,.bool false]))
   have M4:=lh Z.out.1;have A:=lh Z.out.2;clear Z;go_simp;refine bck hK (bE (lh M4.out.i)) (fun hHeld=>?_);clear hK;refine rdy [7] ?_;refine cns (fun K hK=>?_) .nil;go_simp;refine (HIn.out _ (Hid.out (by assumption):b9 W B D (s.sub x) _).i.at_).mono ?_;rintro e w2 ⟨rfl,hb⟩;have M2:=lh ((Hid.out (by assumption):b9 W B D (s.sub x) _).to hb);(try have A:=lh (A.out.to hb))
   clear hb;go_wp2_with fail;refine bck hK (bE (lh M2.out.i)) (fun hHeld=>?_);clear hK;refine rdy [8] ?_;refine cns (fun K hK=>?_) .nil;go_simp;refine (HSt.out _ (Hid.out (by assumption):b9 W B D (s.sub x) _).i.at_).mono ?_;rintro e w3 ⟨rfl,ha⟩;have M3:=lh ((Hid.out (by assumption):b9 W B D (s.sub x) _).step ha.out);(try have A:=lh (A.out.step ha.out))
   clear ha;go_wp2_with fail;refine bck hK (bE (lh M3.out.i)) (fun hHeld=>?_);clear hK;refine rdy [10] ?_;refine cns (fun K hK=>?_) .nil;rw [if_pos (by rfl)];refine wp_store_row _ _ _ rfl _ #[↑t,↑a1,↑a2,↑a3,.bool a4] rfl rfl _ _ A.out.1 (by kernel_rfl) rfl (by simp [Value.oneCell']) ?_;have Z:=lh ((Hid.out (by assumption):b9 W B D (s.sub x).stp _).rowS A.out #[↑t,↑a1,↑a2,↑a3,.bool a4]);have M5:=lh Z.out.1;have A5:=lh Z.out.2;clear Z;refine bck hK (bE (lh M5.out.i)) (fun hHeld=>?_);clear hK;refine wpAnyH_done (by kernel_rfl) ?_ _;refine NoPanic.normal ?_;go_wp2_with fail;go_meet
   exact ⟨_,rfl,A5.out,M5.out⟩
  refine cns (fun K hK=>?_) .nil;(first | have Z:=lh ((Hid.out (by assumption):b9 W B D (s.sub x).stp _).new #[↑ζ,↑ζ,↑ζ,↑ζ,.bool false]) | have Z:=lh ((Hid.out (by assumption):b9 W B D (s.sub x) _).new #[↑ζ,↑ζ,↑ζ,↑ζ,.bool false]))
  have M4:=lh Z.out.1;have A:=lh Z.out.2;clear Z;go_simp;refine bck hK (bE (lh M4.out.i)) (fun hHeld=>?_);clear hK;refine rdy [5] ?_;refine cns (fun K hK=>?_) .nil;go_simp;refine (HTi.out _ (Hid.out (by assumption):b9 W B D (s.sub x) _).i.at_).mono ?_;rintro e w1 ⟨rfl,hb⟩;have M1:=lh ((Hid.out (by assumption):b9 W B D (s.sub x) _).to hb);(try have A:=lh (A.out.to hb))
  clear hb;go_wp2_with fail;refine bck hK (bE (lh M1.out.i)) (fun hHeld=>?_);clear hK;refine rdy [7] ?_;refine cns (fun K hK=>?_) .nil;go_simp;refine (HIn.out _ (Hid.out (by assumption):b9 W B D (s.sub x) _).i.at_).mono ?_;rintro e w2 ⟨rfl,hb⟩;have M2:=lh ((Hid.out (by assumption):b9 W B D (s.sub x) _).to hb);(try have A:=lh (A.out.to hb))
  clear hb;go_wp2_with fail;refine bck hK (bE (lh M2.out.i)) (fun hHeld=>?_);clear hK;refine rdy [8] ?_;refine cns (fun K hK=>?_) .nil;go_simp;refine (HSt.out _ (Hid.out (by assumption):b9 W B D (s.sub x) _).i.at_).mono ?_;rintro e w3 ⟨rfl,ha⟩;have M3:=lh ((Hid.out (by assumption):b9 W B D (s.sub x) _).step ha.out);(try have A:=lh (A.out.step ha.out))
  clear ha;go_wp2_with fail;refine bck hK (bE (lh M3.out.i)) (fun hHeld=>?_);clear hK;refine rdy [10] ?_;refine cns (fun K hK=>?_) .nil;rw [if_pos (by rfl)];refine wp_store_row _ _ _ rfl _ #[↑t,↑a1,↑a2,↑a3,.bool a4] rfl rfl _ _ A.out.1 (by kernel_rfl) rfl (by simp [Value.oneCell']) ?_;have Z:=lh ((Hid.out (by assumption):b9 W B D (s.sub x).stp _).rowS A.out #[↑t,↑a1,↑a2,↑a3,.bool a4]);have M5:=lh Z.out.1;have A5:=lh Z.out.2;clear Z;refine bck hK (bE (lh M5.out.i)) (fun hHeld=>?_);clear hK;refine wpAnyH_done (by kernel_rfl) ?_ _;refine NoPanic.normal ?_;go_wp2_with fail;go_meet
  exact ⟨_,rfl,A5.out,M5.out⟩
 case rest=>
  obtain ⟨n,rfl,hA,hM⟩:=hcut;have A5:=lh hA;have M5:=lh hM;clear hA hM M0 X0 HTi HIn HSt;go_wp2_with fail;have M6:=lh (M5.out.to ((aB.drew _).below _));have A6:=lh (A5.out.to ((aB.drew _).below _));have X6:=GK M6 A6;have p7:=SI X6 (i:=7) (v:=↑(π D.l)) (fun _ _=>rfl);have v0:=GL X6 (i:=0) (v:=↑t) rfl;have v1:=GL X6 (i:=1) (v:=↑a1) rfl;have v2:=GL X6 (i:=2) (v:=↑a2) rfl;have v3:=GL X6 (i:=3) (v:=↑a3) rfl;have v4:=GL X6 (i:=4) (v:=.bool a4) rfl;clear M5 A5;refine wp_region_noPanic ?_;refine rhd (S:=(fun w'=>Hid (AX W B D _ #[↑t,↑a1,↑a2,↑a3,.bool a4] w'))) X6 (fun hHeld=>?_);refine tkc 0 ?_;refine tkc 1 ?_;refine tkc 2 ?_;refine tks 3 ?_;refine tkc 4 ?_;refine tks 5 ?_;refine tkc 7 ?_;refine tks 8 ?_;refine rdy [6] ?_;refine cns (fun K hK=>?_) .nil;go_simp;refine (HSe.out _ M6.out.i.at_).mono ?_;rintro e w5 ⟨rfl,ha⟩;have M7:=lh (M6.out.step ha.out);have A7:=lh (A6.out.step ha.out);clear ha;go_wp2_with fail;refine bck hK (GK M7 A7) (fun hHeld=>?_);clear hK;refine tkc 9 ?_;refine rdy [10] ?_;refine cns (fun K hK=>?_) .nil;obtain ⟨ds,hds,hre⟩:=M7.out.r;rw [if_pos (by rfl)];refine wp_store_row _ _ _ rfl _ #[↑nx,↑x,↑t,↑a1,↑a2,↑a3,.bool a4] rfl rfl _ _ hre (by kernel_rfl) hds (by simp [Value.oneCell']) ?_;have Z:=lh (M7.out.rowR A7.out #[↑nx,↑x,↑t,↑a1,↑a2,↑a3,.bool a4] rfl);have M8:=lh Z.out.1;have A8:=lh Z.out.2.1;refine bck hK (GK M8 A8) (fun hHeld=>?_);clear hK;refine wpAnyH_done (by kernel_rfl) ?_ _;refine NoPanic.normal ?_;have F1:=lh Z.out.2.2;clear hre;go_wp2_with fail;exact bodyPost_ret (aI rfl _ _ W.heap.size 73 _ _ rfl F1.out underlying73 rfl (by kernel_rfl)) rfl ⟨rfl,M8.out.i⟩
end Go.Proofs.YtjhiooggnpbecaaGreatDoor
