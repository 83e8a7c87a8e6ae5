/- Lemmas. -/
import Derived.Test.YtjhiooggnpbecaaGreatDoorK449
set_option linter.unusedVariables false
set_option maxHeartbeats 2000000
set_option maxRecDepth 100000
namespace Go.Proofs.YtjhiooggnpbecaaGreatDoor
open Tryz
variable {l:List Nat} {i j m n off r:Nat} {v:Option Addr} {W:World}
section
open Go.RowKit Cf
theorem aH.low {w w':World} (h:aH (Own.at_ n) w w') (hn:m≤n) (hm:m≤↑w):Below m w w':=⟨h.os,h.tape,h.output,h.size,fun k hk=>h.block k (Nat.lt_of_lt_of_le hk hm) (Nat.not_le.2 (Nat.lt_of_lt_of_le hk hn))⟩
theorem aH.out {B:Own} {w w':World} (h:aH B w w') (hB:∀z,z < m→¬ B.o z) (hm:m≤↑w):Below m w w':=⟨h.os,h.tape,h.output,h.size,fun k hk=>h.block k (Nat.lt_of_lt_of_le hk hm) (hB k hk)⟩
def Own.cut (B:Own) (n m:Nat):Own:=⟨fun z=>B.o z∧z < n∨m≤z⟩
section
variable {w w':World} {B C:Own}
theorem cP.other {b:Nat} {l:PL} (h:cP w C b l) (k:aH B w w') (hd:∀z,z < w.heap.size→C.o z→¬ B.o z):cP w' (C.cut w.heap.size w'.heap.size) b l:=by
 obtain ⟨rb,g,s,h1,h2,h3,h4,h5,h6,h7,h8⟩:=h;exact ⟨rb,g,s,h1.keepX (fun x T cs hx hb=>k.block x hb.lt (hd x hb.lt (h8 x hx))),h2,h3,h4,h5,h6,h7,fun x hx=>.inl ⟨h8 x hx,h1.lt x hx⟩⟩
theorem aG.other {P:EP} {s:ES} (h:aG w C P s) (k:aH B w w') (hd:∀z,z < w.heap.size→C.o z→¬ B.o z) (ht:¬ B.o 0):aG w' (C.cut w.heap.size w'.heap.size) P s:=by
 have q:∀{g:Nat} {T:TypeId} {cs:Array Value},Blk w g T cs→C.o g→Blk w' g T cs:=fun hb hg=>k.blk hb (hd _ hb.lt hg);obtain ⟨g,hg,hf⟩:=h.f;obtain ⟨qs,h1,h2,h3⟩:=hf.row;obtain ⟨o1,o2,o3,o4,o5,o6⟩:=h.own;have hl:0 < w.heap.size:=h.gl.lt;have ks:=k.size;refine ⟨q h.e o1,q h.p o2,⟨g,.inl ⟨hg,h3.body.lt⟩,q hf.head o3,qs,h1,h2,q h3.head o4,q h3.body hg⟩,q h.y o5,q h.n o6,h.gl.below k ht,fun e=>?_,⟨.inl ⟨o1,h.e.lt⟩,.inl ⟨o2,h.p.lt⟩,.inl ⟨o3,hf.head.lt⟩,.inl ⟨o4,h3.head.lt⟩,.inl ⟨o5,Blk.lt h.y⟩,.inl ⟨o6,h.n.lt⟩⟩,fun z hz=>.inr hz⟩;rcases e with e | e
 ·exact h.lo e.1
 ·omega
theorem aK.other {D:SD} {s:SN} (h:aK w C D s) (k:aH B w w') (hd:∀z,z < w.heap.size→C.o z→¬ B.o z) (ht:¬ B.o 0):aK w' (C.cut w.heap.size w'.heap.size) D s:=by
 have q:∀{g:Nat} {T:TypeId} {cs:Array Value},Blk w g T cs→C.o g→Blk w' g T cs:=fun hb hg=>k.blk hb (hd _ hb.lt hg);obtain ⟨o1,o2,o3,o4,o5⟩:=h.own;exact ⟨q h.b o1,q h.c o2,h.l.other k hd,q h.t o3,q h.a o4,h.e.other k hd ht,q h.p o5,.inl ⟨o1,h.b.lt⟩,.inl ⟨o2,h.c.lt⟩,.inl ⟨o3,h.t.lt⟩,.inl ⟨o4,Blk.lt h.a⟩,.inl ⟨o5,h.p.lt⟩⟩
theorem bP.other {L:LD} {x:LN} (h:bP w C L x) (k:aH B w w') (hd:∀z,z < w.heap.size→C.o z→¬ B.o z) (ht:¬ B.o 0):bP w' (C.cut w.heap.size w'.heap.size) L x:=by
 have q:∀{g:Nat} {T:TypeId} {cs:Array Value},Blk w g T cs→C.o g→Blk w' g T cs:=fun hb hg=>k.blk hb (hd _ hb.lt hg);obtain ⟨p,h⟩:=h;have e:=h.pl;have lt:=h.k.lt;refine ⟨p,q h.h h.lo,h.s.other k hd ht,h.pb,?_,.inl ⟨h.lo,h.h.lt⟩,fun y hy=>.inl ⟨e y hy,lt y hy⟩⟩;have hk:=h.k;obtain ⟨a,q1,q2,q3⟩:=hk.q.row;obtain ⟨j,j1,j2,j3⟩:=hk.j.row;exact ⟨q hk.head (e _ (by simp [LP.l])),q hk.k (e _ (by simp [LP.l])),⟨q hk.q.head (e _ (by simp [LP.l])),a,q1,q2,⟨q q3.head (e _ (by simp [LP.l])),q q3.body (e _ (by simp [LP.l]))⟩⟩,⟨q hk.j.head (e _ (by simp [LP.l])),j,j1,j2,⟨q j3.head (e _ (by simp [LP.l])),q j3.body (e _ (by simp [LP.l]))⟩⟩⟩
end
structure TwB (W:World) (L1 L2:LD) (x y:LN) (l:List Nat) (B C:Own) (w:World):Prop where
 a:bP w B L1 x
 b:bP w C L2 y
 d:∀z,z < w.heap.size→B.o z→¬ C.o z
 f:∀z,z < W.heap.size∨z∈l→z < w.heap.size∧¬ B.o z∧¬ C.o z
def Two (W:World) (L1 L2:LD) (x y:LN) (l:List Nat) (w:World):Prop:=(∃B C,TwB W L1 L2 x y l B C w)∧Below ↑W W w
theorem Two.swap {w:World} {L1 L2:LD} {x y:LN} (h:Two W L1 L2 x y l w):Two W L2 L1 y x l w:=by
 obtain ⟨⟨B,C,h⟩,hb⟩:=h;exact ⟨⟨C,B,h.b,h.a,fun z hz a b=>h.d z hz b a,fun z hz=>⟨(h.f z hz).1,(h.f z hz).2.2,(h.f z hz).2.1⟩⟩,hb⟩
theorem Two.to {w w':World} {L1 L2:LD} {x y:LN} (h:Two W L1 L2 x y l w) (k:Below ↑w w w'):Two W L1 L2 x y l w':=by
 obtain ⟨⟨B,C,h⟩,hb⟩:=h;have hs:=k.size;have K:aH ⟨fun _=>False⟩ w w':=aH.of k;refine ⟨⟨_,_,h.a.other K (fun _ _ _ q=>q) (fun q=>q),h.b.other K (fun _ _ _ q=>q) (fun q=>q),?_,fun z hz=>?_⟩,aD hb k hb.size⟩
 ·rintro z hz (⟨a,b⟩ | a) (⟨c,d⟩ | c)
  ·exact h.d z b a c
  all_goals omega
 ·obtain ⟨f1,f2,f3⟩:=h.f z hz
  exact ⟨by omega,fun e=>e.elim (fun e=>f2 e.1) (fun e=>by omega),fun e=>e.elim (fun e=>f3 e.1) (fun e=>by omega)⟩
theorem Two.box {w:World} {L1 L2:LD} {x y:LN} (h:Two W L1 L2 x y l w) (T:TypeId) (cs:Array Value):Two W L1 L2 x y (w.heap.size :: l) (w.alloc (.cells cs T)):=by
 have k:=aC w (.cells cs T);have hn:w.heap.size < (w.alloc (.cells cs T)).heap.size:=(Blk.new w T cs).lt;obtain ⟨⟨B,C,h⟩,hb⟩:=h;have hs:=k.size;have K:aH ⟨fun _=>False⟩ w (w.alloc (.cells cs T)):=aH.of k;refine ⟨⟨_,_,h.a.other K (fun _ _ _ q=>q) (fun q=>q),h.b.other K (fun _ _ _ q=>q) (fun q=>q),?_,fun z hz=>?_⟩,aD hb k hb.size⟩
 ·rintro z hz (⟨a,b⟩ | a) (⟨c,d⟩ | c)
  ·exact h.d z b a c
  all_goals omega
 ·have hz':z=w.heap.size∨z < W.heap.size∨z∈l:=by
   rcases hz with e | e
   ·exact .inr (.inl e)
   ·rcases List.mem_cons.1 e with e | e
    ·exact .inl e
    ·exact .inr (.inr e)
  rcases hz' with rfl | hz'
  ·exact ⟨hn,fun e=>e.elim (fun e=>absurd e.2 (Nat.lt_irrefl _)) (fun e=>by omega),fun e=>e.elim (fun e=>absurd e.2 (Nat.lt_irrefl _)) (fun e=>by omega)⟩
  ·obtain ⟨f1,f2,f3⟩:=h.f z hz'
   exact ⟨by omega,fun e=>e.elim (fun e=>f2 e.1) (fun e=>by omega),fun e=>e.elim (fun e=>f3 e.1) (fun e=>by omega)⟩
theorem Two.set {w:World} {L1 L2:LD} {x y:LN} (h:Two W L1 L2 x y l w) (hn:n∈l) (hW:↑W≤n) (hg:0 < W.heap.size) (i:Nat) (u:Value):Two W L1 L2 x y l (w.setCell ⟨n,i,none⟩ u):=by
 obtain ⟨⟨B,C,h⟩,hb⟩:=h;obtain ⟨f1,f2,f3⟩:=h.f n (.inr hn);have K:aH ⟨fun z=>z=n⟩ w (w.setCell ⟨n,i,none⟩ u):=(aH.refl _ _).setCell (p:=⟨n,i,none⟩) rfl u;have ht:¬ (⟨fun z=>z=n⟩:Own).o 0:=fun e=>by have e:0=n:=e;omega
 have hs:(w.setCell ⟨n,i,none⟩ u).heap.size=w.heap.size:=by simp [World.setCell]
 refine ⟨⟨_,_,h.a.other K (fun z _ a (e:z=n)=>f2 (e▸a)) ht,h.b.other K (fun z _ a (e:z=n)=>f3 (e▸a)) ht,?_,fun z hz=>?_⟩,hb.trans (K.out (fun z hz (e:z=n)=>by omega) hb.size)⟩
 ·rintro z hz (⟨a,b⟩ | a) (⟨c,d⟩ | c)
  ·exact h.d z b a c
  all_goals omega
 ·obtain ⟨g1,g2,g3⟩:=h.f z hz
  exact ⟨by omega,fun e=>e.elim (fun e=>g2 e.1) (fun e=>by omega),fun e=>e.elim (fun e=>g3 e.1) (fun e=>by omega)⟩
theorem TwB.left {w w':World} {L1 L2:LD} {x x' y:LN} {B C:Own} (h:TwB W L1 L2 x y l B C w) (hb:Below ↑W W w) (o:LpO w B L1 x' w'):Two W L1 L2 x' y l w':=by
 have hs:=o.bel.size;refine ⟨⟨B,_,o.at_,h.b.other o.bel (fun z hz a b=>h.d z hz b a) h.a.sn.e.lo,?_,fun z hz=>?_⟩,hb.trans (o.bel.out (fun z hz=>(h.f z (.inl hz)).2.1) hb.size)⟩
 ·rintro z hz a (⟨c,d⟩ | c)
  ·exact h.d z d a c
  ·omega
 ·obtain ⟨f1,f2,f3⟩:=h.f z hz
  exact ⟨by omega,f2,fun e=>e.elim (fun e=>f3 e.1) (fun e=>by omega)⟩
theorem Two.new {w w1 w2:World} {L1 L2:LD} {x y:LN} (h1:bP w1 (Own.at_ w.heap.size) L1 x) (b1:Below ↑w w w1) (h2:bP w2 (Own.at_ w1.heap.size) L2 y) (b2:Below ↑w1 w1 w2) (hW:Below ↑W W w):Two W L1 L2 x y [] w2:=by
 have s0:=hW.size;have s1:=b1.size;have s2:=b2.size;have K:aH ⟨fun _=>False⟩ w1 w2:=aH.of b2;have B1:=aD hW b1 hW.size;refine ⟨⟨_,_,h1.other K (fun _ _ _ q=>q) (fun q=>q),h2,?_,fun z hz=>?_⟩,aD B1 b2 B1.size⟩
 ·rintro z hz (⟨a,b⟩ | a) c
  ·have c:↑w1≤z:=c;omega
  ·omega
 ·have hz:z < W.heap.size:=hz.elim id (fun e=>nomatch e)
  exact ⟨by omega,fun e=>e.elim (fun e=>by have c:↑w≤z:=e.1;omega) (fun e=>by omega),fun e=>by have c:↑w1≤z:=e;omega⟩
theorem G6 {L1 L2:LD} {x y:LN} {bx:List Nat} {c:Setup} {d:Nat} {l:List StV} (v:Option Addr) (cap:Nat) (w:World) (h:Two W L1 L2 x y bx w) (ho:x.ok c i d) (hr:rightC c=true) (hi:i + l.length≤80) (hl:∀w',Below ↑W W w'→KN nO w w'→Its w' v l) (ht:∀t∈l,t.ok∧∀B:Own,(∀z,z < W.heap.size→¬ B.o z)→Chs W B t):
  Calls prog 15 #[↑(π L1.b),.slice v l.length cap] w fun e w'=>e=.returned (.tuple #[.agg (cM (x.run l).d (x.run l).s (x.run l).k),.int .i64 (x.run l).e])∧Two W L1 L2 (x.run l).x y bx w'∧KN nO w w':=by
 obtain ⟨⟨B,C,h⟩,hb⟩:=h;have hf:∀z,z < W.heap.size→¬ B.o z:=fun z hz=>(h.f z (.inl hz)).2.1;refine (G3 v cap w h.a ho hr hi (fun w' k n=>hl w' (hb.trans (k.out hf hb.size)) n) (fun t q=>⟨(ht t q).1,((ht t q).2 B hf).bel ?_⟩)).mono fun e w' q=>⟨q.1,h.left hb q.2,q.2.kt⟩;exact ⟨hb.os,hb.tape,hb.output,hb.size,fun z hz _=>hb.block z hz⟩
theorem Two.at_ {w:World} {L1 L2:LD} {x y:LN} (h:Two W L1 L2 x y l w):(∃B,bP w B L1 x)∧∃B,bP w B L2 y:=by
 obtain ⟨⟨B,C,h⟩,_⟩:=h;exact ⟨⟨B,h.a⟩,⟨C,h.b⟩⟩
end

section
open Go.RowKit Cf
theorem LN.ok.mono {c:Setup} {i j d:Nat} {x:LN} (h:x.ok c i d) (hi:i≤j):x.ok c j d:=⟨h.s.mono (by omega) (by omega),h.k.more (by omega),h.num⟩
theorem LN.run_ok {c:Setup} (hr:rightC c=true):∀(l:List StV) (x:LN) (i d:Nat),x.ok c i d→i + l.length≤80→∃d',(x.run l).x.ok c (i + l.length) d'
 | [],x,i,d,h,hi=>⟨d,h⟩
 | t :: l,x,i,d,h,hi=>by
   rw [List.length_cons] at hi ⊢;obtain ⟨a,ha⟩:=LN.step_ok h hr (by omega) t;by_cases e:x.err t=0
   ·rw [LN.run_yes e]
    obtain ⟨d',h'⟩:=LN.run_ok hr l _ _ _ ha (by omega);exact ⟨d',by rw [show i + (l.length + 1)=i + 1 + l.length by omega];exact h'⟩
   ·rw [LN.run_no e]
    exact ⟨_,ha.mono (by omega)⟩
theorem LN.new_ok {c:Setup} {r d j b:Nat} (hr:rightC c=true) (hc:∀i,c i≤↑ω) (hp:r≤↑ω∧d≤↑ω∧j≤↑ω∧b≤↑ω):LN.ok c 0 0 ⟨SN.new c,LKS.start r d j b⟩:=
 ⟨SN.new_ok hr hc,LKS.start_okL hp.1 hp.2.1 hp.2.2.1 hp.2.2.2,fun p hp=>nomatch hp⟩
theorem tP (a w:Nat) (ha:a≤↑ω) (hw:w≤↑ω) (W:World) (B:Own):StV.ok ⟨a,w,0,none,0,[]⟩∧Chs W B ⟨a,w,0,none,0,[]⟩:=
 ⟨⟨ha,hw,by show 0≤_;omega,fun c hc=>nomatch hc⟩,Nus.nil _ _,fun h=>absurd h (by simp),Nat.zero_le _,by show 0≤_;omega⟩
def lA0:LN:=⟨SN.new lX,LKS.start 1000000 10000 0 30000⟩
def lA:List StV:=[⟨0,6000,0,none,0,[]⟩,⟨73,0,0,none,0,[]⟩,⟨3000,0,0,none,0,[]⟩]
def lB:List StV:=[⟨10000,0,0,none,0,[]⟩]
theorem MC:(lA0.run lA).e=0∧(lA0.run lA).d=0∧(lA0.run lA).s=4∧(lA0.run lA).k=4∧((lA0.run lA).x.run lB).e=0∧((lA0.run lA).x.run lB).d=2∧((lA0.run lA).x.run lB).x.s.c.t=13073∧LKS.told ((lA0.run lA).x.run lB).x.k.came=6000:=by
 refine ⟨?_,?_,?_,?_,?_,?_,?_,?_⟩ <;> kernel_rfl
theorem MD (w:World):(Op.equalIn 10000 42 (.agg #[.int .i64 0,.int .i64 4,.int .i64 4]) (.agg #[.int .i64 0,.int .i64 4,.int .i64 4])).run prog w=.ok true w:=by kernel_rfl
theorem ME (W:World) (hg:Gl W):Calls prog 11 #[] W fun e w'=>e=.returned (.bool true)∧Below ↑W W w':=by
 obtain ⟨m1,m2,m3,m4,m5,m6,m7,m8⟩:=MC;have o0:lA0.ok lX 0 0:=LN.new_ok eQ xC ⟨by omega,by omega,by omega,by omega⟩;obtain ⟨d1,o1⟩:=LN.run_ok eQ lA lA0 0 0 o0 (by decide);obtain ⟨d2,o2⟩:=LN.run_ok eQ lB _ _ d1 o1 (by decide);have HD:=lh (qF W);have HN:=lh (fun w hg=>pH (r:=1000000) (d:=10000) (j:=0) (b:=30000) xC eQ (by decide) w hg);have HG:=lh hg;have H1:Hid (∀B L w g,bP w B L lA0→Blk w g 47 (aJ lA)→Calls prog 15 #[↑(π L.b),.slice (some ⟨g,0,none⟩) 3 3] w fun e w'=>e=.returned (.tuple #[.agg #[.int .i64 0,.int .i64 4,.int .i64 4],.int .i64 0])∧LpO w B L (lA0.run lA).x w'):=lh (fun B L w g q hb=>by
  have hh:=G3 (l:=lA) (some ⟨g,0,none⟩) 3 w q o0 eQ (by decide) (fun w' _ hk=>Its.of_blk (T:=47) (hk _ (by decide) _ _ hb)) (fun t ht=>by
   simp only [lA,List.mem_cons,List.not_mem_nil,or_false] at ht;rcases ht with rfl | rfl | rfl <;> exact tP _ _ (by decide) (by decide) _ _)
  rw [m1,m2,m3,m4] at hh;exact hh)
 have H2:Hid (∀B L w g,bP w B L (lA0.run lA).x→Blk w g 47 (aJ lB)→Calls prog 15 #[↑(π L.b),.slice (some ⟨g,0,none⟩) 1 1] w fun e w'=>∃s k:Nat,e=.returned (.tuple #[.agg #[.int .i64 2,.int .i64 (s:Int),.int .i64 (k:Int)],.int .i64 0])∧LpO w B L ((lA0.run lA).x.run lB).x w'):=lh (fun B L w g q hb=>by
  have hh:=G3 (l:=lB) (some ⟨g,0,none⟩) 1 w q o1 eQ (by decide) (fun w' _ hk=>Its.of_blk (T:=47) (hk _ (by decide) _ _ hb)) (fun t ht=>by
   simp only [lB,List.mem_cons,List.not_mem_nil,or_false] at ht;rcases ht with rfl;exact tP _ _ (by decide) (by decide) _ _)
  rw [m5,m6] at hh;exact hh.mono fun e w' q=>⟨_,_,q⟩)
 have HTi:Hid (∀B L w,bP w B L ((lA0.run lA).x.run lB).x→Calls prog 24 #[↑(π L.D.b)] w fun e w'=>e=.returned (.int .u64 13073)∧Below ↑w w w'):=lh (fun B L w q=>by have hh:=jH w q.sn;rw [m7] at hh;exact hh);have HCo:Hid (∀B L w,bP w B L ((lA0.run lA).x.run lB).x→Calls prog 14 #[↑(π L.pb)] w fun e w'=>∃v1 v2 v3 v4 v5,e=.returned (.agg #[.int .u64 6000,v1,v2,v3,v4,v5])∧Below ↑w w w'):=lh (fun B L w q=>(tN w q o2.k (by decide)).mono fun e w' h=>by
  unfold LKS.countV at h;rw [m8] at h;exact ⟨_,_,_,_,_,h⟩)
 have HSe:=lh (fun B L w (q:bP w B L ((lA0.run lA).x.run lB).x)=>pF w q);have HLi:=lh (fun B L w (q:bP w B L ((lA0.run lA).x.run lB).x)=>xY w q);have HI1:Hid (aJ lA=#[↑ζ,.int .u64 6000,↑ζ,.slice none 0 0,.int .u64 73,↑ζ,↑ζ,.slice none 0 0,.int .u64 3000,↑ζ,↑ζ,.slice none 0 0]):=lh rfl;have HI2:Hid (aJ lB=#[.int .u64 10000,↑ζ,↑ζ,.slice none 0 0]):=lh rfl;rw [HI1.out] at H1;rw [HI2.out] at H2;clear m1 m2 m3 m4 m5 m6 m7 m8 o0 o1 o2 hg HI1 HI2;generalize ((lA0.run lA).x.run lB).x=x2 at *;generalize (lA0.run lA).x=x1 at *;generalize hq:lA0=x0 at *;have eqr:=MD;go_enter func11,ntmps11;go_wp2_with fail;refine (HD.out).mono ?_;rintro e w0 ⟨rfl,hb⟩;have G0:=lh (HG.out.keep hb);have B0:=lh hb;clear hb HD HG;go_wp2_with fail;refine (HN.out _ G0.out).mono ?_;rintro e w1 ⟨L,rfl,hs,hb⟩;have hs:bP w1 (Own.at_ w0.heap.size) L lA0:=hs;rw [hq] at hs;have hs2:=aC w1 (.cells #[↑ζ,.int .u64 6000,↑ζ,.slice none 0 0,.int .u64 73,↑ζ,↑ζ,.slice none 0 0,.int .u64 3000,↑ζ,↑ζ,.slice none 0 0] 47);have I1:=lh (hs.keep hs2);have B1:=lh (aD (aD B0.out hb B0.out.size) hs2 (aD B0.out hb B0.out.size).size);have N1:=lh (Blk.new w1 47 #[↑ζ,.int .u64 6000,↑ζ,.slice none 0 0,.int .u64 73,↑ζ,↑ζ,.slice none 0 0,.int .u64 3000,↑ζ,↑ζ,.slice none 0 0]);have HZ:Hid (W.heap.size≤↑w0):=lh B0.out.size;clear hs hb hq HN G0 B0 hs2;go_wp2_with fail;refine (H1.out _ _ _ _ I1.out N1.out).mono ?_;rintro e w2 ⟨rfl,h2⟩;have b2:=B1.out.trans (h2.bel.low HZ.out B1.out.size);have a2:=aC w2 (.cells #[.int .i64 0,.int .i64 4,.int .i64 4] 42);have r2:=Blk.new w2 42 #[.int .i64 0,.int .i64 4,.int .i64 4];have a3:=aC (w2.alloc (.cells #[.int .i64 0,.int .i64 4,.int .i64 4] 42)) (.cells #[.int .u64 10000,↑ζ,↑ζ,.slice none 0 0] 47);have I2:=lh ((h2.at_.keep a2).keep a3);have B2:=lh (aD (aD b2 a2 b2.size) a3 (aD b2 a2 b2.size).size);have R2:=lh (r2.keep a3);have N2:=lh (Blk.new1 w2 (.cells #[.int .i64 0,.int .i64 4,.int .i64 4] 42) 47 #[.int .u64 10000,↑ζ,↑ζ,.slice none 0 0]);clear h2 b2 a2 r2 a3 I1 B1 N1 H1;go_wp2_with fail;refine (H2.out _ _ _ _ I2.out N2.out).mono ?_;rintro e w3 ⟨s,k,rfl,h3⟩;have hn:w2.heap.size < (w2.alloc (.cells #[.int .i64 0,.int .i64 4,.int .i64 4] 42)).heap.size:=(Blk.new w2 42 #[.int .i64 0,.int .i64 4,.int .i64 4]).lt;have b3:=B2.out.trans (h3.bel.low HZ.out B2.out.size);have R3:=h3.kt _ (by decide) _ _ R2.out;have a4:=aC w3 (.cells #[.int .i64 2,.int .i64 (s:Int),.int .i64 (k:Int)] 42);have I4:=lh (h3.at_.keep a4);have B4:=lh (aD b3 a4 b3.size);have R4:=R3.keep a4;have S4:=Blk.new w3 42 #[.int .i64 2,.int .i64 (s:Int),.int .i64 (k:Int)];have c0:=R4.cell (i:=0) (v:=.int .i64 0) rfl;have c1:=R4.cell (i:=1) (v:=.int .i64 4) rfl;have c2:=R4.cell (i:=2) (v:=.int .i64 4) rfl;have e0:=S4.cell (i:=0) (v:=.int .i64 2) rfl;clear h3 b3 R3 a4 R4 S4 hn I2 B2 R2 N2 H2;go_wp2_with fail;refine (HSe.out _ _ _ I4.out).mono ?_;rintro e w5 ⟨rfl,hb⟩;have I5:=lh (I4.out.keep hb);have B5:=lh (aD B4.out hb B4.out.size);clear hb I4 B4 HSe;go_wp2_with fail;refine (HTi.out _ _ _ I5.out).mono ?_;rintro e w6 ⟨rfl,hb⟩;have I6:=lh (I5.out.keep hb);have B6:=lh (aD B5.out hb B5.out.size);clear hb I5 B5 HTi;go_wp2_with fail;refine (HLi.out _ _ _ I6.out).mono ?_;rintro e w7 ⟨rfl,hb⟩;have I7:=lh (I6.out.keep hb);have B7:=lh (aD B6.out hb B6.out.size);clear hb I6 B6 HLi;go_wp2_with fail;refine (HCo.out _ _ _ I7.out).mono ?_;rintro e w8 ⟨v1,v2,v3,v4,v5,rfl,hb⟩;have B8:=lh (aD B7.out hb B7.out.size);clear hb I7 B7 HCo;have hfd:∀w,(Instr.field 37 (.agg #[.int .u64 6000,v1,v2,v3,v4,v5]) 0).run prog w=.ok (.int .u64 6000) w:=fun w=>by kernel_rfl
 go_wp2_with fail;go_ret;exact ⟨rfl,B8.out⟩
end

section
open Go.ChangeShapes Go.WideShapes Go.ChangeAt Go.RowKit
structure tQ (w:World) (b o:Nat) (q:StV):Prop where
 k0:w.cell? ⟨b,o,none⟩=some ↑q.a
 k1:w.cell? ⟨b,o + 1,none⟩=some ↑q.w
 k2:w.cell? ⟨b,o + 2,none⟩=some ↑q.x
 k3:w.cell? ⟨b,o + 3,none⟩=some (.slice q.p q.cs.length q.c)
 b0:q.a≤↑ω
 b1:q.w≤↑ω
 b2:q.x≤↑ω
 s3:lW w q.p q.cs.length q.c q.cs
def lZ (w:World) (v:Option Addr) (l:List StV) (b off:Nat):Prop:=
 l.length≤9223372036854775807∧(0 < l.length→v=some ⟨b,off,none⟩∧b < w.heap.size)∧∀i,i < l.length→tQ w b (off + i * 4) (l.getD i default)
theorem tQ.keep {w w':World} {b o:Nat} {q:StV} (h:tQ w b o q) (hb:b < w.heap.size) (k:Below ↑w w w'):tQ w' b o q:=
 ⟨(k.cell (p:=⟨b,_,none⟩) hb).trans h.k0,(k.cell (p:=⟨b,_,none⟩) hb).trans h.k1,(k.cell (p:=⟨b,_,none⟩) hb).trans h.k2,(k.cell (p:=⟨b,_,none⟩) hb).trans h.k3,h.b0,h.b1,h.b2,h.s3.keep k⟩
theorem lZ.keep {w w':World} {v:Option Addr} {l:List StV} {b off:Nat} (h:lZ w v l b off) (k:Below ↑w w w'):lZ w' v l b off:=
 ⟨h.1,fun hp=>⟨(h.2.1 hp).1,Nat.lt_of_lt_of_le (h.2.1 hp).2 k.size⟩,fun i hi=>(h.2.2 i hi).keep (h.2.1 (by omega)).2 k⟩
theorem lZ.its {w:World} {l:List StV} {b:Nat} (h:lZ w v l b off):Its w v l:=by
 intro hp;obtain ⟨e,hb⟩:=h.2.1 hp;refine ⟨b,off,e,hb,fun i j hi hj=>?_⟩;have A:=h.2.2 i hi;have k4:Itm.k StV=4:=rfl;rw [k4] at hj ⊢;have e1:l.getD i Itm.z=l.getD i default:=rfl;rw [e1]
 match j,hj with
 | 0,_=>exact A.k0
 | 1,_=>exact A.k1
 | 2,_=>exact A.k2
 | 3,_=>exact A.k3
theorem tQ.chs {w:World} {b o:Nat} {q:StV} (h:tQ w b o q) {B:Own} (hB:∀z,z < w.heap.size→¬ B.o z):q.ok∧Chs w B q:=⟨⟨h.b0,h.b1,h.b2,h.s3.mx⟩,h.s3.nus,fun hp a e=>hB _ (h.s3.lt hp a e),h.s3.le,h.s3.big⟩
theorem lZ.at_ {w:World} {l:List StV} {b:Nat} (h:lZ w v l b off):∀t∈l,∃o,tQ w b o t:=fun t ht=>by
 obtain ⟨i,hi,rfl⟩:=List.mem_iff_getElem.1 ht;have:=h.2.2 i hi;rw [List.getD_eq_getElem?_getD,List.getElem?_eq_getElem hi] at this;exact ⟨_,this⟩
theorem G9 {H:Type} {enc:TypeId × Value→H} {w:World} {fuel:Nat} {spare:Nat→Bool} {held:Bool} {len cap:Nat} {x:DataW H × List MemPlace}
  (h:DataW.trod enc prog w 0 spare held fuel 27 [.slice v len cap]=some x):∃l b off,l.length=len∧lZ w v l b off:=by
 rcases Go.Deep.open_slice underlying27 h with ⟨hcs,_⟩ | ⟨a,len',cap',m,n,D,Pl,hcs,_,hl,hm,hmm,_,hi⟩
 ·simp only [List.cons.injEq,Value.slice.injEq,and_true] at hcs
  obtain ⟨rfl,rfl,rfl⟩:=hcs;exact ⟨[],0,0,rfl,by simp,fun h=>absurd h (by simp),fun i hi=>absurd hi (by simp)⟩
 ·simp only [List.cons.injEq,Value.slice.injEq,and_true] at hcs
  obtain ⟨rfl,rfl,rfl⟩:=hcs;have hlm:len≤m:=by rw [hmm];split <;> omega
  have ce:prog.cellsOf 47=4:=by kernel_rfl
  have c1:prog.cellsOf 22=1:=by kernel_rfl
  have c2:prog.cellsOf 45=1:=by kernel_rfl
  unfold maxLen at hm;obtain ⟨b,off,spot⟩:=a;have hs0:0 < len→spot=none:=by
   intro hpos;obtain ⟨cs',h1,_⟩:=hi 0 (by omega);rw [ce] at h1;obtain ⟨_,hlen,hcell⟩:=World.cells?_some h1
   match cs',hlen with
   | [v0,v1,v2,v3],_=>
     have e0:=hcell 0 (by omega);rw [Go.Deep.add_add] at e0;simpa [Addr.add] using World.cell?_spot e0
  have each:∀i,i < len→∃q:StV,spot=none∧b < w.heap.size∧tQ w b (off + i * 4) q:=by
   intro i hlt;obtain ⟨cs',h1,h2⟩:=hi i (by omega);rw [ce] at h1;obtain ⟨_,hlen,hcell⟩:=World.cells?_some h1;obtain ⟨xs,k,_,_,_,hxl,hf⟩:=DataW.trod_struct underlying47 h2
   match cs',hlen with
   | [v0,v1,v2,v3],_=>
     have g0:=hf 0 _ rfl;have g1:=hf 1 _ rfl;have g2:=hf 2 _ rfl;have g3:=hf 3 _ rfl;have hx0:xs[0]? =some (xs[0]'(by rw [hxl];decide)):=List.getElem?_eq_getElem _;have hx1:xs[1]? =some (xs[1]'(by rw [hxl];decide)):=List.getElem?_eq_getElem _;have hx2:xs[2]? =some (xs[2]'(by rw [hxl];decide)):=List.getElem?_eq_getElem _;have hx3:xs[3]? =some (xs[3]'(by rw [hxl];decide)):=List.getElem?_eq_getElem _;rw [hx0] at g0;rw [hx1] at g1;rw [hx2] at g2;rw [hx3] at g3;simp [c1,c2] at g0 g1 g2 g3
     obtain ⟨z0,hz0,_,hw0⟩:=DataW.trod_int underlying22 g0;obtain ⟨z1,hz1,_,hw1⟩:=DataW.trod_int underlying22 g1;obtain ⟨z2,hz2,_,hw2⟩:=DataW.trod_int underlying22 g2;obtain ⟨p3,n3,d3,l3,rfl,hl3⟩:=LW g3;simp only [List.cons.injEq,and_true] at hz0 hz1 hz2;subst hz0 hz1 hz2;have n3':=hl3.len;subst n3';have e0:=hcell 0 (by omega);have e1:=hcell 1 (by omega);have e2:=hcell 2 (by omega);have e3:=hcell 3 (by omega);rw [Go.Deep.add_add] at e0 e1 e2 e3;have hs:=hs0 (by omega);subst hs;rw [Go.WideShapes.add_plain] at e0 e1 e2 e3;obtain ⟨b0,b0'⟩:=bounds_u64 hw0;obtain ⟨b1,b1'⟩:=bounds_u64 hw1;obtain ⟨b2,b2'⟩:=bounds_u64 hw2;refine ⟨⟨z0.toNat,z1.toNat,z2.toNat,p3,d3,l3⟩,rfl,World.block_lt_of_cell? _ _ e0,⟨?_,?_,?_,?_,by dsimp;omega,by dsimp;omega,by dsimp;omega,hl3⟩⟩
     ·dsimp;rw [Int.toNat_of_nonneg b0];simpa using e0
     ·dsimp;rw [Int.toNat_of_nonneg b1];simpa [Nat.add_assoc] using e1
     ·dsimp;rw [Int.toNat_of_nonneg b2];simpa [Nat.add_assoc] using e2
     ·dsimp;simpa [Nat.add_assoc] using e3
  obtain ⟨q,hq⟩:=Go.Deep.choose_lt each;refine ⟨(List.range len).map q,b,off,by simp,by simp;omega,fun hpos=>?_,fun i hlt=>?_⟩
  ·have hpos':0 < len:=by simpa using hpos
   obtain ⟨rfl,hb,_⟩:=hq 0 hpos';exact ⟨rfl,hb⟩
  ·have hlt':i < len:=by simpa using hlt
   obtain ⟨_,_,h3⟩:=hq i hlt';have e:((List.range len).map q).getD i default=q i:=by simp [List.getD_eq_getElem?_getD,hlt']
   rw [e];exact h3
end

section
open Go.RowKit
def tR (t:StV):Bool:=decide (t.cs.length≤80)
def eU (l:List StV):Bool:=decide (l.length≤80) && l.all tR
theorem vU {l:List StV} (h:eU l=true):l.length≤80:=by
 unfold eU at h;simp only [Bool.and_eq_true,decide_eq_true_eq] at h;exact h.1
theorem vV (l:List StV) (v:Option Addr) (c b off:Nat) (W:World) (h:lZ W v l b off):
  Calls prog 8 #[.slice v l.length c] W fun e w'=>e=.returned (.bool (eU l))∧w'=W:=by
 obtain ⟨h1,h2,h3⟩:=h;have H3:=lh h3;have H2:=lh h2;clear h3 h2;go_enter func8,ntmps8;go_wp2;go_loop [3] (fun i=>∃k:Nat,i=.int .i64 (k:Int)∧k≤l.length∧k≤81∧∀j,j < k→tR (l.getD j default)=true) (fun i=>81 - (intOf i).toNat)
 case atStart=>exact ⟨0,rfl,Nat.zero_le _,by omega,fun j hj=>absurd hj (by omega)⟩
 case round=>
  obtain ⟨k,rfl,hk,hk1,hall⟩:=hrel;have HA:=lh hall;clear hall;by_cases hlt:k < l.length
  ·by_cases hk2:k≤80
   ·obtain ⟨rfl,hb⟩:=H2.out (by omega)
    have A:=H3.out k hlt;have a3:=A.k3;have hr:=A.s3.le;have hr2:=A.s3.big;have i0:(0:Int)≤(k:Int):=by omega
    have i1:(k:Int) < (l.length:Int):=by omega
    have hd1:decide ((k:Int)≤80)=true:=by simp;omega
    clear A;by_cases hl:(l.getD k default).cs.length≤80
    ·have HL:=lh hl
     generalize hq:(l.getD k default).cs.length=n at *;have HQ:=lh hq;clear hq;have hd2:decide ((80:Int) < (n:Int))=false:=by simp;omega
     go_wp2;go_round
     case rel=>exact ⟨k + 1,by go_num,by omega,by omega,fun j hj=>by
      by_cases e:j=k
      ·subst e;unfold tR;rw [HQ.out];exact decide_eq_true hl
      ·exact HA.out j (by omega)⟩
     case measure=>simp [intOf];omega
    ·have HF:Hid (eU l=false):=lh (by
      unfold eU;rw [Bool.and_eq_false_iff];right
      rw [List.all_eq_false];refine ⟨l.getD k default,?_,by unfold tR;simpa using hl⟩;simp [List.getD_eq_getElem?_getD,hlt])
     generalize (l.getD k default).cs.length=n at *;have hd2:decide ((80:Int) < (n:Int))=true:=by simp;omega
     go_wp2;go_ret;exact ⟨by rw [HF.out];rfl,rfl⟩
   ·have hd1:decide ((k:Int)≤80)=false:=by simp;omega
    have hd2:decide ((l.length:Int)≤80)=false:=by simp;omega
    have HF:Hid (eU l=false):=lh (by
     unfold eU;rw [Bool.and_eq_false_iff];left
     simp;omega)
    go_wp2;go_ret;exact ⟨by rw [HF.out];rfl,rfl⟩
  ·obtain rfl:k=l.length:=by omega
   have HF:Hid (eU l=decide ((l.length:Int)≤80)):=lh (by
    unfold eU;have e:l.all tR=true:=by
     rw [List.all_eq_true];intro q hq;obtain ⟨i,hi,rfl⟩:=List.mem_iff_getElem.1 hq;have:=HA.out i hi;simp [List.getD_eq_getElem?_getD,hi] at this
     simpa using this
    rw [e,Bool.and_true];exact decide_eq_decide.2 (by omega))
   go_wp2;go_ret;exact ⟨by rw [HF.out];rfl,rfl⟩
end

section
open Go.RowKit Cf
structure H6 (W:World) (c:Setup) (r d j b0:Nat) (w:World):Prop where
 b:Blk w W.heap.size 24 (aL c)
 p:Blk w (W.heap.size + 1) 26 #[↑r,↑d,↑j,↑b0]
 bel:Below ↑W W w
theorem BE {w w':World} {c:Setup} {d b0:Nat} (h:Hid (H6 W c r d j b0 w)) (k:Below ↑w w w'):Hid (H6 W c r d j b0 w'):=lh ⟨h.out.b.keep k,h.out.p.keep k,aD h.out.bel k h.out.bel.size⟩
theorem SS (W:World) (c:Setup) (r d j b0:Nat):H6 W c r d j b0 ((W.alloc (.cells (aL c) 24)).alloc (.cells #[↑r,↑d,↑j,↑b0] 26)):=
 ⟨(Blk.new W _ _).alloc _,Blk.new1 W _ _ _,aD (aC _ _) (aC _ _) (aC W (.cells (aL c) 24)).size⟩
theorem BF {c:Setup} {d b0:Nat} {v:Value} (hv:(aL c)[i]? =some v):∀w,Hid (H6 W c r d j b0 w)→w.cell? ⟨W.heap.size,i,none⟩=some v:=fun w q=>q.out.b.cell hv
theorem MG {c:Setup} {d b0:Nat} {v:Value} (hv:(#[↑r,↑d,↑j,↑b0]:Array Value)[i]? =some v):∀w,Hid (H6 W c r d j b0 w)→w.cell? ⟨W.heap.size + 1,i,none⟩=some v:=fun w q=>q.out.p.cell hv
theorem vW {d b:Nat} (h:fT r d j b=true):r≤↑ω∧d≤↑ω∧j≤↑ω∧b≤18446744073709551615:=by
 unfold fT at h;simp only [Bool.and_eq_true,decide_eq_true_eq] at h;omega
theorem LN.run_one (x:LN) (t:StV):x.run [t]=⟨x.step t,x.err t,x.nd t,x.ns t,x.nk t⟩:=by
 by_cases e:x.err t=0
 ·rw [LN.run_yes e,e]
  show RN.mk (x.step t) 0 (x.nd t + 0) (x.ns t + 0) (x.nk t + 0)=_
  simp only [Nat.add_zero]
 ·exact LN.run_no e []
end
end Go.Proofs.YtjhiooggnpbecaaGreatDoor
