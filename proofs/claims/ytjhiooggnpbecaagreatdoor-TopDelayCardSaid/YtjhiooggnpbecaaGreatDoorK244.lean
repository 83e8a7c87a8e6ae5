/- Lemmas. -/
import Derived.Test.YtjhiooggnpbecaaGreatDoorK240
import Derived.Test.YtjhiooggnpbecaaGreatDoorK242
import Derived.Test.YtjhiooggnpbecaaGreatDoorK243
set_option linter.unusedVariables false
set_option maxHeartbeats 8000000
set_option maxRecDepth 100000
namespace Go.Proofs.YtjhiooggnpbecaaGreatDoor
open Tryz
variable {cs rs:Array Value} {N cap j off:Nat} {ao:Option Addr} {o1 o2:Option Nat} {v:Value} {w w':World}
section
open Go.RowKit Cf
def sQ:List TypeId:=[91,217,150,296,73,228,299,226]
def sR:List TypeId:=sQ ++ fK
theorem dB.kn {L:List TypeId} {p:LP} {s:LKS} (h:dB w p s) (n:KN L w w') (hL:∀T∈sQ,T ∉ L):dB w' p s:=by
 obtain ⟨q,q1,q2,q3⟩:=h.q.row;obtain ⟨j,j1,j2,j3⟩:=h.j.row;exact ⟨n _ (hL _ (by decide)) _ _ h.head,n _ (hL _ (by decide)) _ _ h.k,⟨n _ (hL _ (by decide)) _ _ h.q.head,q,q1,q2,⟨n _ (hL _ (by decide)) _ _ q3.head,n _ (hL _ (by decide)) _ _ q3.body⟩⟩,⟨n _ (hL _ (by decide)) _ _ h.j.head,j,j1,j2,⟨n _ (hL _ (by decide)) _ _ j3.head,n _ (hL _ (by decide)) _ _ j3.body⟩⟩⟩
theorem NY {p:LP} {s:LKS} (hh:dB w p s) (k:Fr w w' p.l):KN sQ w w':=fun T hT g cs hb=>hb.fr k (fun hx=>by
 have a1:=hh.head;have a2:=hh.k;have a3:=hh.q.head;obtain ⟨_,a4⟩:=hh.q.row.head;obtain ⟨_,a5⟩:=hh.q.row.body;have a6:=hh.j.head;obtain ⟨_,a7⟩:=hh.j.row.head;obtain ⟨_,a8⟩:=hh.j.row.body;unfold sQ at hT;simp only [List.mem_cons,List.not_mem_nil,or_false,not_or] at hT;obtain ⟨t1,t2,t3,t4,t5,t6,t7,t8⟩:=hT;simp only [LP.l,List.mem_cons,List.not_mem_nil,or_false] at hx;rcases hx with c | c | c | c | c | c | c | c
 ·exact hb.ty a1 t1 c
 ·exact hb.ty a2 t2 c
 ·exact hb.ty a3 t3 c
 ·exact hb.ty a4 t4 c
 ·exact hb.ty a5 t5 c
 ·exact hb.ty a6 t6 c
 ·exact hb.ty a7 t7 c
 ·exact hb.ty a8 t8 c)
structure LD where
 b:Nat
 D:SD
 pb:Nat
structure LpP (w:World) (B:Nat) (L:LD) (p:LP) (x:LN):Prop where
 h:Blk w L.b 83 #[↑(π L.D.b),↑(π L.pb)]
 s:aJ w B L.D x.s
 pb:p.b=L.pb
 k:dB w p x.k
 lo:B≤L.b
 pl:∀y∈p.l,B≤y
def dE (w:World) (B:Nat) (L:LD) (x:LN):Prop:=∃p,LpP w B L p x
theorem LpP.keep {w w':World} {B:Nat} {L:LD} {p:LP} {x:LN} (h:LpP w B L p x) (k:Below ↑w w w'):LpP w' B L p x:=⟨h.h.keep k,h.s.keep k,h.pb,h.k.keep k,h.lo,h.pl⟩
theorem dE.keep {w w':World} {B:Nat} {L:LD} {x:LN} (h:dE w B L x) (k:Below ↑w w w'):dE w' B L x:=by
 obtain ⟨p,h⟩:=h;exact ⟨p,h.keep k⟩
theorem dE.sn {B:Nat} {L:LD} {x:LN} (h:dE w B L x):aJ w B L.D x.s:=by obtain ⟨p,h⟩:=h;exact h.s
theorem dE.hd {B:Nat} {L:LD} {x:LN} (h:dE w B L x):Blk w L.b 83 #[↑(π L.D.b),↑(π L.pb)]:=by obtain ⟨p,h⟩:=h;exact h.h
theorem dE.size {w:World} {B:Nat} {L:LD} {x:LN} (h:dE w B L x):B≤w.heap.size:=h.sn.size
structure LpO (W:World) (B:Nat) (L:LD) (x:LN) (w:World):Prop where
 at_:dE w B L x
 bel:Below B W w
 kt:KN sR W w
theorem LpO.start {W:World} {B:Nat} {L:LD} {x:LN} (h:dE W B L x):LpO W B L x W:=⟨h,Below.refl _ _,KN.refl _ _⟩
theorem LpO.to {W:World} {B:Nat} {L:LD} {x:LN} (h:LpO W B L x w) (k:Below ↑w w w'):LpO W B L x w':=⟨h.at_.keep k,aD h.bel k h.at_.size,h.kt.trans (KN.below _ k)⟩
theorem LpO.step {W w w':World} {B:Nat} {L:LD} {x y:LN} (h:LpO W B L x w) (k:LpO w B L y w'):LpO W B L y w':=⟨k.at_,h.bel.trans k.bel,h.kt.trans k.kt⟩
theorem LpP.snd {B:Nat} {L:LD} {p:LP} {x:LN} {s':SN} (h:LpP w B L p x) (k:cA w B L.D s' w'):LpP w' B L p ⟨s',x.k⟩∧LpO w B L ⟨s',x.k⟩ w':=by
 have q:LpP w' B L p ⟨s',x.k⟩:=⟨k.kt _ (by decide) _ _ h.h,k.at_,h.pb,h.k.kn k.kt (by decide),h.lo,h.pl⟩;exact ⟨q,⟨p,q⟩,k.bel,k.kt.mono (by decide)⟩
theorem dE.snd {w w':World} {B:Nat} {L:LD} {x:LN} {s':SN} (h:dE w B L x) (k:cA w B L.D s' w'):LpO w B L ⟨s',x.k⟩ w':=by
 obtain ⟨p,h⟩:=h;exact (h.snd k).2
theorem LpP.lnk {B:Nat} {L:LD} {p:LP} {x:LN} {k':LKS} (h:LpP w B L p x) (k:LI w p k' w'):LpO w B L ⟨x.s,k'⟩ w':=by
 have sz:=h.s.size;have n:=NY h.k k.fr;have b:Below B w w':=nE (Below.refl _ _) k.fr sz h.pl;obtain ⟨g,i,h1,h2,h3⟩:=k.at_;refine ⟨⟨p.at_ g i,n _ (by decide) _ _ h.h,h.s.kn n (by decide) b,h.pb,h1,h.lo,fun y hy=>?_⟩,b,n.mono (by decide)⟩;have e:=h.pl;simp only [LP.l,LP.at_,List.mem_cons,List.not_mem_nil,or_false] at hy e;rcases hy with c | c | c | c | c | c | c | c
 ·exact e _ (.inl c)
 ·exact e _ (.inr (.inl c))
 ·exact e _ (.inr (.inr (.inl c)))
 ·exact e _ (.inr (.inr (.inr (.inl c))))
 ·rcases h2 with d | d
  ·exact e _ (.inr (.inr (.inr (.inr (.inl (c.trans d))))))
  ·omega
 ·exact e _ (.inr (.inr (.inr (.inr (.inr (.inl c))))))
 ·exact e _ (.inr (.inr (.inr (.inr (.inr (.inr (.inl c)))))))
 ·rcases h3 with d | d
  ·exact e _ (.inr (.inr (.inr (.inr (.inr (.inr (.inr (c.trans d))))))))
  ·omega
theorem zD {B:Nat} {L:LD} {x:LN} (w:World) (h:dE w B L x):
  Calls prog 33 #[↑(π L.pb)] w fun e w'=>e=.returned ↑x.k.t∧w=w':=by
 obtain ⟨p,h⟩:=h;rw [← h.pb];exact MK p x.k w h.k
theorem lC {B:Nat} {L:LD} {x:LN} (w:World) (h:dE w B L x) (ho:x.k.ok N) (hN:N≤5500):
  Calls prog 14 #[↑(π L.pb)] w fun e w'=>e=.returned x.k.countV∧Below ↑w w w':=by
 obtain ⟨p,h⟩:=h;rw [← h.pb];exact GG p x.k w N h.k ho hN
structure Chs (w:World) (B:Nat) (t:StV):Prop where
 n:Nus w t.p t.cs
 b:0 < t.cs.length→∀a,t.p=some a→a.block < B
 len:t.cs.length≤t.c
 big:t.c≤9223372036854775807
theorem Chs.bel {B:Nat} {t:StV} (h:Chs w B t) (k:Below B w w'):Chs w' B t:=by
 refine ⟨fun hp=>?_,h.b,h.len,h.big⟩;obtain ⟨b,off,e,hb,hc⟩:=h.n hp;have hB:=h.b hp _ e;refine ⟨b,off,e,Nat.lt_of_lt_of_le hb k.size,fun i hi=>?_⟩;exact (k.cell (p:=⟨b,off + i,none⟩) hB).trans (hc i hi)
theorem zE {B:Nat} {L:LD} {x:LN} {t:StV} (now:Nat) (w:World) (h:dE w B L x) (ho:x.k.ok 5500) (hn:x.k.t≤now) (hm:now≤↑ω) (ht:t.ok) (hc:Chs w B t):
  Calls prog 32 #[↑(π L.pb),↑now,↑t.x,.slice t.p t.cs.length t.c] w fun e w'=>∃v,e=.returned (.tuple #[v,.int .i64 0])∧bV 73 w.heap.size w' v (x.k.tickOut now t.x t.cs)∧LpO w B L ⟨x.s,x.k.tick now t.x t.cs⟩ w':=by
 obtain ⟨p,h⟩:=h;rw [← h.pb];have sz:=h.s.size;refine (NW p x.k now t.x t.cs t.p t.c w h.k ho hn hm ht.x ⟨hc.n,fun hp a e hx=>?_,fun hp a e=>?_,ht.cs,hc.len,hc.big⟩).mono fun e w' q=>?_
 ·have:=hc.b hp a e
  have:=h.pl _ hx;omega
 ·have:=hc.b hp a e
  omega
 ·obtain ⟨v,e1,e2⟩:=q.e
  exact ⟨v,e1,e2,h.lnk q.li⟩
theorem NZ {B:Nat} {L:LD} {p:LP} {x:LN} {l:List Pk} (w:World) (h:LpP w B L p x) (ho:x.k.ok N) (hi:Its w ao l) (ha:0 < l.length→gH ao p.l) (hz:∀y∈l,y.size≤↑ω) (hN:N + l.length≤5500):
  Calls prog 83 #[↑(π L.pb),.slice ao l.length cap] w fun e w'=>e=.returned (.int .i64 (x.k.kept l:Int))∧LpO w B L ⟨x.s,x.k.sends l⟩ w':=by
 rw [← h.pb];exact (MM p x.k N l ao cap w h.k ho hi ha hz hN).mono fun e w' q=>⟨q.e,h.lnk q.li⟩
theorem jW {B:Nat} {L:LD} {x:LN} (W:World) (h:dE W B L x):Calls prog 16 #[↑(π L.b)] W fun e w'=>e=.returned ↑(π L.D.b)∧Below ↑W W w':=by
 have a0:=h.hd.cell (i:=0) (v:=↑(π L.D.b)) rfl;clear h;go_enter func16,ntmps16;go_wp2;go_ret;exact ⟨rfl,Below.refl _ _⟩
theorem m9 {B:Nat} {L:LD} {x:LN} (W:World) (h:dE W B L x):Calls prog 13 #[↑(π L.b)] W fun e w'=>e=.returned ↑(π L.pb)∧Below ↑W W w':=by
 have a1:=h.hd.cell (i:=1) (v:=↑(π L.pb)) rfl;clear h;go_enter func13,ntmps13;go_wp2;go_ret;exact ⟨rfl,Below.refl _ _⟩
theorem CO (W:World):Calls prog 16 #[.pointer none] W fun e w'=>e=.returned (.pointer none)∧Below ↑W W w':=by
 go_enter func16,ntmps16;go_wp2;go_ret;exact ⟨rfl,Below.refl _ _⟩
theorem N9 (W:World):Calls prog 13 #[.pointer none] W fun e w'=>e=.returned (.pointer none)∧Below ↑W W w':=by
 go_enter func13,ntmps13;go_wp2;go_ret;exact ⟨rfl,Below.refl _ _⟩

theorem CP {l:List Pk} {k:Nat} (h:k < l.length) {x:Pk} (hx:x=l.getD k Itm.z):eY (l.take (k + 1))=eY (l.take k) ++ [⟨x.n,x.n⟩]:=by
 unfold eY;rw [List.take_add_one,List.getElem?_eq_getElem h,List.map_append,hx,List.getD_eq_getElem?_getD,List.getElem?_eq_getElem h];rfl
theorem CQ:(prog.info? 190).map (fun i=>(i.zero,i.size,i.bytes))=some (some (.agg #[↑ζ,↑ζ]),2,16):=by kernel_rfl
theorem uV (l:List Pk) (ao:Option Addr) (cap:Nat) (W:World) (h:Its W ao l) (hl:l.length≤5500):
  Calls prog 82 #[.slice ao l.length cap] W fun e w'=>∃v,e=.returned v∧bV 190 W.heap.size w' v (eY l)∧Below ↑W W w':=by
 obtain ⟨i0,hi0,hz0,hz1,hz2⟩:=info_parts CQ;have HI:=lh hi0;have HZ0:=lh hz0;have HZ1:=lh hz1;have HZ2:=lh hz2;have HN:=lh h;clear hi0 hz0 hz1 hz2 h;go_enter func82,ntmps82;go_wp2_with (first | (at_make;refine wpList_make_own _ rfl _ _ 62 rfl W.heap.size 190 _ (.agg #[↑ζ,↑ζ]) 2 underlying62 HI.out HZ0.out HZ1.out _ _ _ l.length rfl rfl rfl (by rw [HZ2.out];omega) (by unfold maxLen;omega) (Nat.le_refl _) ?_;intro w1 hown hgr;have HW1:=lh hown;have HG1:=lh hgr;clear hown hgr) | fail)
 have S1:Hid (bV 190 W.heap.size w1 (.slice (some ⟨W.heap.size,0,none⟩) 0 l.length) (eY (l.take 0))):=lh HW1.out;have B1:Hid (Below ↑W W w1):=lh ((Below.refl _ _).grown HG1.out (Nat.le_refl _) (fun k e=>by cases e));clear HW1 HG1;go_loopw [3,11] (fun v i wr=>∃k:Nat,i=.int .i64 (k:Int)∧k≤l.length∧Hid (bV 190 W.heap.size wr v (eY (l.take k)))∧Hid (Below ↑W W wr)) (fun _ i _=>l.length - (intOf i).toNat)
 case atStart=>exact ⟨0,rfl,Nat.zero_le _,S1,B1⟩
 case round=>
  obtain ⟨k,rfl,hk,HO,HBe⟩:=hrel;by_cases hlt:k < l.length
  ·obtain ⟨ad,rfl,_⟩:=HN.out.cells (by omega)
   obtain ⟨g,off,rfl,_,hc⟩:=vN (HN.out.keep HBe.out) (by omega);obtain ⟨x,hx⟩:∃x,x=l.getD k Itm.z:=⟨_,rfl⟩;obtain ⟨a0,a1,a2,a3,a4,a5,a6⟩:=hc k hlt x hx;have HLn:Hid ((eY (l.take k)).length=k):=lh (by rw [uP,List.length_take];omega);have HT:=lh (CP hlt hx);have HOne:=lh (Itm.one (⟨x.n,x.n⟩:Rn));have j0:(0:Int)≤(k:Int):=by omega
   have j1:(k:Int) < (l.length:Int):=by omega
   clear hc hx S1 B1;generalize eY (l.take k)=pre at *;obtain ⟨ap,cp,hv,hp1,hp2,_,_⟩:=HO.out.form;subst hv;have HO2:=lh (HO.out.keep (aC wr (.cells #[↑x.n,↑x.size,↑x.sent,↑x.first,↑x.deliv,↑x.at_,.bool x.lim] 73)));have HB2:=lh (aD HBe.out (aC wr (.cells #[↑x.n,↑x.size,↑x.sent,↑x.first,↑x.deliv,↑x.at_,.bool x.lim] 73)) HBe.out.size);have P2:=lh (Blk.new wr 73 #[↑x.n,↑x.size,↑x.sent,↑x.first,↑x.deliv,↑x.at_,.bool x.lim]);clear HO HBe;go_upto_region 5 with fail
   generalize wr.alloc (.cells #[↑x.n,↑x.size,↑x.sent,↑x.first,↑x.deliv,↑x.at_,.bool x.lim] 73)=w2 at *;clear a0 a1 a2 a3 a4 a5 a6;have a0:=P2.out.cell (i:=0) (v:=↑x.n) rfl;have HO3:=lh (HO2.out.keep (aC w2 (.cells #[↑x.n,↑x.n] 190)));have HNw:=lh (World.news_of_block (Blk.new w2 190 #[↑x.n,↑x.n]));have hsz:W.heap.size≤(w2.alloc (.cells #[↑x.n,↑x.n] 190)).heap.size:=by have:=HB2.out.size;simp;omega
   have hpl:pre.length≤5500:=by rw [HLn.out];omega
   go_wp2_with (at_builtin;refine wpList_append_own_at _ rfl (.tmp 15) (.tmp 21) 62 rfl W.heap.size 190 _ (.agg #[↑ζ,↑ζ]) 2 16 underlying62 HI.out HZ0.out HZ1.out HZ2.out rfl (by decide) (.slice ap pre.length cp) pre.length (pre.flatMap Itm.cs) rfl HO3.out ⟨w2.heap.size,0,none⟩ 1 1 (Itm.cs (⟨x.n,x.n⟩:Rn)) rfl rfl HNw.out HOne.out (by unfold maxLen;omega) (by omega) hsz ?_;intro v' w5 hown hgr hnil hat;have HW5:=lh hown;have HG:=lh hgr;clear hown hgr hnil hat)
   have HS:Hid (bV 190 W.heap.size w5 v' (pre ++ [⟨x.n,x.n⟩])):=lh (bV.snoc HW5.out);have HB5:=lh (KC HB2.out HB2.out.size HO2.out (.cells #[↑x.n,↑x.n] 190) HG.out);clear HW5 HG HO2 HO3 HNw HB2;go_wp2_with fail;go_roundw
   case rel=>exact ⟨k + 1,by go_num,by omega,by rw [HT.out];exact HS,HB5⟩
   case measure=>simp [intOf];omega
  ·obtain rfl:k=l.length:=by omega
   rw [List.take_length] at HO;go_wp2_with fail;go_ret;exact ⟨_,rfl,HO.out,HBe.out⟩

def KR (rb:Nat) (w w':World):Prop:=∀T,T ∉ sR→∀b cs,b≠rb→Blk w b T cs→Blk w' b T cs
theorem KR.trans {rb:Nat} {a b c:World} (h:KR rb a b) (k:KR rb b c):KR rb a c:=fun T hT x cs hx q=>k T hT x cs hx (h T hT x cs hx q)
theorem KN.kr (h:KN sR w w') (rb:Nat):KR rb w w':=fun T hT b cs _ q=>h T hT b cs q
def bL (a b c:Nat):Array Value:=#[.int .i64 (a:Int),.int .i64 (b:Int),.int .i64 (c:Int)]
theorem LpP.kn {Y:List TypeId} {w w':World} {B:Nat} {L:LD} {p:LP} {x:LN} (h:LpP w B L p x) (n:KN Y w w') (hY:∀T∈83 :: sR,T ∉ Y) (b:Below B w w'):LpP w' B L p x:=
 ⟨n _ (hY _ (by decide)) _ _ h.h,h.s.kn n (fun T hT=>hY T (by unfold sR;simp [hT])) b,h.pb,h.k.kn n (fun T hT=>hY T (by unfold sR;simp [hT])),h.lo,h.pl⟩
structure LdI (W:World) (B:Nat) (L:LD) (t:StV) (rb r0 r1 r2:Nat) (x:LN) (w:World):Prop where
 at_:dE w B L x
 bel:Below B W w
 kt:KR rb W w
 z:Blk w W.heap.size 47 t.cells
 r:Blk w rb 42 (bL r0 r1 r2)
theorem LdI.to {W:World} {B:Nat} {L:LD} {t:StV} {rb r0 r1 r2:Nat} {x:LN} (h:LdI W B L t rb r0 r1 r2 x w) (k:Below ↑w w w'):LdI W B L t rb r0 r1 r2 x w':=⟨h.at_.keep k,aD h.bel k h.at_.size,h.kt.trans ((KN.below _ k).kr _),h.z.keep k,h.r.keep k⟩
theorem LdI.lp {W:World} {B:Nat} {L:LD} {t:StV} {rb r0 r1 r2:Nat} {x y:LN} (h:LdI W B L t rb r0 r1 r2 x w) (k:LpO w B L y w'):LdI W B L t rb r0 r1 r2 y w':=⟨k.at_,h.bel.trans k.bel,h.kt.trans (k.kt.kr _),k.kt _ (by decide) _ _ h.z,k.kt _ (by decide) _ _ h.r⟩
theorem uW {rb:Nat} {B:Nat} (h:Blk w rb 42 cs) (hB:B≤rb) (j:Nat) (u:Value):Below B w (w.setCell ⟨rb,j,none⟩ u)∧KN [42] w (w.setCell ⟨rb,j,none⟩ u):=⟨(Below.refl _ _).setCell (p:=⟨rb,j,none⟩) hB _,KN.set h j u⟩
theorem LdI.rep {W:World} {B:Nat} {L:LD} {t:StV} {rb r0 r1 r2:Nat} {x:LN} (h:LdI W B L t rb r0 r1 r2 x w) (hB:B≤rb) (j:Nat) (u:Value) {s0 s1 s2:Nat} (he:(bL r0 r1 r2).setIfInBounds j u=bL s0 s1 s2):LdI W B L t rb s0 s1 s2 x (w.setCell ⟨rb,j,none⟩ u):=by
 obtain ⟨b,n⟩:=uW h.r hB j u;obtain ⟨p,hp⟩:=h.at_;exact ⟨⟨p,hp.kn n (by decide) b⟩,h.bel.trans b,h.kt.trans (fun T hT x cs hx q=>q.set_other j u hx),n _ (by decide) _ _ h.z,he▸h.r.set j u⟩
def LdX (W:World) (B:Nat) (L:LD) (t:StV) (rb:Nat) (w:World):Prop:=∃r0 r1 r2 x,LdI W B L t rb r0 r1 r2 x w
theorem cY {W:World} {B:Nat} {L:LD} {t:StV} {rb r0 r1 r2:Nat} {x:LN} (h:Hid (LdI W B L t rb r0 r1 r2 x w)):Hid (LdX W B L t rb w):=lh ⟨r0,r1,r2,x,h.out⟩
theorem TJ {W:World} {B:Nat} {L:LD} {t:StV} {rb i:Nat} (hv:(#[↑(π L.D.b),↑(π L.pb)]:Array Value)[i]? =some v):∀w,Hid (LdX W B L t rb w)→w.cell? ⟨L.b,i,none⟩=some v:=fun w q=>by
 obtain ⟨r0,r1,r2,x,h⟩:=q.out;exact h.at_.hd.cell hv
theorem OA {W:World} {B:Nat} {L:LD} {t:StV} {rb i:Nat} (hv:t.cells[i]? =some v):∀w,Hid (LdX W B L t rb w)→w.cell? ⟨W.heap.size,i,none⟩=some v:=fun w q=>by
 obtain ⟨r0,r1,r2,x,h⟩:=q.out;exact h.z.cell hv
def LdY (W:World) (B:Nat) (L:LD) (t:StV) (rb r0 r1 r2:Nat) (w:World):Prop:=∃x,LdI W B L t rb r0 r1 r2 x w
theorem qH {W:World} {B:Nat} {L:LD} {t:StV} {rb r0 r1 r2:Nat} {x:LN} (h:Hid (LdI W B L t rb r0 r1 r2 x w)):Hid (LdY W B L t rb r0 r1 r2 w):=lh ⟨x,h.out⟩
theorem LdY.r2 {W w:World} {B:Nat} {L:LD} {t:StV} {rb r0 r1 r2:Nat} (h:LdY W B L t rb r0 r1 r2 w):w.cell? ⟨rb,2,none⟩=some (.int .i64 (r2:Int)):=by obtain ⟨x,h⟩:=h;exact h.r.cell rfl
structure LdQ (W:World) (B:Nat) (L:LD) (t:StV) (rb r0 r1 r2:Nat) (x:LN) (v:Value) (l:List Pk) (w:World):Prop where
 i:LdI W B L t rb r0 r1 r2 x w
 q:∃p n,LpP w B L p x∧(∀y∈p.l,y < n)∧fL n w v l
theorem LdQ.to {W w w':World} {B:Nat} {L:LD} {t:StV} {rb r0 r1 r2:Nat} {x:LN} {v:Value} {l:List Pk} (h:LdQ W B L t rb r0 r1 r2 x v l w) (k:Below ↑w w w'):LdQ W B L t rb r0 r1 r2 x v l w':=by
 obtain ⟨p,n,h1,h2,h3⟩:=h.q;exact ⟨h.i.to k,p,n,h1.keep k,h2,h3.keep k⟩
theorem LdQ.rep {W w:World} {B:Nat} {L:LD} {t:StV} {rb r0 r1 r2:Nat} {x:LN} {v:Value} {l:List Pk} (h:LdQ W B L t rb r0 r1 r2 x v l w) (hB:B≤rb) (j:Nat) (u:Value) {s0 s1 s2:Nat} (he:(bL r0 r1 r2).setIfInBounds j u=bL s0 s1 s2):LdQ W B L t rb s0 s1 s2 x v l (w.setCell ⟨rb,j,none⟩ u):=by
 obtain ⟨p,n,h1,h2,h3⟩:=h.q;obtain ⟨b,k⟩:=uW h.i.r hB j u;refine ⟨h.i.rep hB j u he,p,n,h1.kn k (by decide) b,h2,h3.1,?_⟩;rcases h3.2 with c | ⟨g,cap,cur,e,q1,hb,q2⟩
 ·exact .inl c
 ·exact .inr ⟨g,cap,cur,e,q1,k _ (by decide) _ _ hb,q2⟩
theorem bV.its {α:Type} [Itm α] {T:TypeId} {B:Nat} {n c:Nat} {l:List α} (h:bV T B w (.slice ao n c) l):Its w ao l∧n=l.length:=by
 obtain ⟨ao',c',e,_,_,hi,_⟩:=h.form;injection e with e1 e2 e3
 exact ⟨e1▸hi,e2⟩
theorem fL.sown {n:Nat} {l:List Pk} (h:fL n w v l):bV 73 n w v l:=h
section
variable {W:World} {B:Nat} {L:LD} {t:StV} {rb r0 r1 r2:Nat} {x:LN} {c:Setup} {i d:Nat}
theorem JI (ho:x.ok c i d) (ht:t.ok) (w:World) (h:LdI W B L t rb r0 r1 r2 x w):
  Calls prog 29 #[↑(π L.D.b),↑t.w] w fun e w'=>e=.returned (.int .i64 (x.s.writeE t.w))∧Hid (LdI W B L t rb r0 r1 r2 ⟨x.s1 t,x.k⟩ w'):=
 (IV t.w w h.at_.sn ho.s ht.w).mono fun e w' q=>⟨q.e,lh (h.lp (h.at_.snd q.i))⟩
theorem OB {s:SN} (w:World) (h:LdI W B L t rb r0 r1 r2 ⟨s,x.k⟩ w):
  Calls prog 33 #[↑(π L.pb)] w fun e w'=>e=.returned ↑x.k.t∧Below ↑w w w':=
 (zD w h.at_).mono fun e w' q=>⟨q.1,q.2▸Below.refl _ _⟩
theorem JJ (ho:x.ok c i d) (hi:i < 80) (ht:t.ok) (hc:Chs W B t) (w:World) (h:LdI W B L t rb r0 r1 r2 ⟨x.s1 t,x.k⟩ w):
  Calls prog 32 #[↑(π L.pb),↑(x.now t),↑t.x,.slice t.p t.cs.length t.c] w fun e w'=>∃ao cap,e=.returned (.tuple #[.slice ao (x.out t).length cap,.int .i64 0])∧Hid (bV 73 w.heap.size w' (.slice ao (x.out t).length cap) (x.out t))∧Hid (LdI W B L t rb r0 r1 r2 ⟨x.s1 t,x.k1 t⟩ w'):=
 (zE (x.now t) w h.at_ (ho.k.more (by omega)) (LN.now_ge ho.k t) (x.now_le t) ht (hc.bel h.bel)).mono fun e w' q=>by
  obtain ⟨v,e1,e2,e3⟩:=q;obtain ⟨ao,cap,hv,_⟩:=e2.form;rw [hv] at e1 e2;exact ⟨ao,cap,e1,lh e2,lh (h.lp e3)⟩
theorem RQ (ho:x.ok c i d) (hr:rightC c=true) (hi:i < 80) (hn:x.out t≠[]) (w:World) (h:LdI W B L t rb r0 r1 r2 ⟨x.s1 t,x.k1 t⟩ w) {n:Nat} (hv:bV 190 n w v (eY (x.out t))):
  Calls prog 30 #[↑(π L.D.b),↑(x.now t),v] w fun e w'=>e=.returned (.int .i64 (x.ae t))∧Hid (LdI W B L t rb r0 r1 r2 ⟨x.s2 t,x.k1 t⟩ w'):=by
 have hlt:=LN.out_lt ho hi t;have hl:=LN.out_len ho t;obtain ⟨ap,cp,rfl,_⟩:=hv.form;have h1:=SN.write_ok ho.s t.w;have q:=RK (x.now t) ap cp (eY (x.out t)) w h.at_.sn h1 hr (by omega) (by omega) (fun w' hb hk=>(hv.blk (fun g cs _ z=>hk _ (by decide) _ _ z)).its.1) (by rw [uP];omega) (IP hlt);rw [NQ hlt] at q;have e1:x.ae t=(x.s1 t).ackE (x.now t) true:=by unfold LN.ae;rw [if_neg hn]
 have e2:x.s2 t=(x.s1 t).ackS (x.now t) true fun p=>bN (eY (x.out t)) p.n:=by unfold LN.s2;rw [if_neg hn]
 rw [e1,e2];exact q.mono fun e w' q=>⟨q.e,lh (h.lp (h.at_.snd q.i))⟩
theorem OC (ho:x.ok c i d) (hr:rightC c=true) (hi:i < 80) (w:World) (h:LdI W B L t rb r0 r1 r2 ⟨x.s2 t,x.k1 t⟩ w):
  Calls prog 31 #[↑(π L.D.b),↑(x.now t)] w fun e w'=>∃ao cap,e=.returned (.tuple #[.slice ao (x.gone t).length cap,.int .i64 ((x.s2 t).tickE (x.now t))])∧Hid (LdQ W B L t rb r0 r1 r2 ⟨(x.s2 t).tickS (x.now t),x.k1 t⟩ (.slice ao (x.gone t).length cap) (x.gone t) w'):=by
 obtain ⟨a,o,_⟩:=LN.s2_ok ho hr hi t;obtain ⟨p,hp⟩:=h.at_;refine (NT (x.now t) w hp.s o hr (by omega) (by omega)).mono fun e w' q=>?_;obtain ⟨v,e1,e2,e3⟩:=q;obtain ⟨ao,cap,rfl,_⟩:=e2.sown.form;obtain ⟨h1,h2⟩:=hp.snd e3;exact ⟨ao,cap,e1,lh ⟨h.lp h2,p,_,h1,hp.k.lt,e2⟩⟩
theorem OD (ho:x.ok c i d) (hr:rightC c=true) (hi:i < 80) (w:World) (h:LdQ W B L t rb r0 r1 r2 ⟨(x.s2 t).tickS (x.now t),x.k1 t⟩ (.slice ao (x.gone t).length cap) (x.gone t) w):
  Calls prog 83 #[↑(π L.pb),.slice ao (x.gone t).length cap] w fun e w'=>e=.returned (.int .i64 (((x.k1 t).kept (x.gone t):Nat):Int))∧Hid (LdI W B L t rb r0 r1 r2 ⟨(x.s2 t).tickS (x.now t),(x.k1 t).sends (x.gone t)⟩ w'):=by
 obtain ⟨p,n,h1,h2,h3⟩:=h.q;obtain ⟨g1,g2⟩:=LN.gone_ok ho hr hi t;have hm:=bP hr;have hk:=LN.k1_ok ho t;obtain ⟨ao',cap',e,_,_,hi',hg⟩:=h3.sown.form;injection e with e1 _ _
 subst e1;refine (NZ w h1 hk hi' (fun hp a ea hx=>?_) (fun y hy=>by have:=(g2 y hy).2;omega) (by omega)).mono fun e w' q=>⟨q.1,lh (h.i.lp q.2)⟩;obtain ⟨g,rfl,hb⟩:=hg hp;cases ea
 have l1:g < n:=h2 _ hx;have l2:=h3.sown.base (m:=n) (Nat.le_refl _);rw [hb] at l2;omega
end
theorem TK {B:Nat} {L:LD} {x:LN} {c:Setup} {i d:Nat} {t:StV} (W:World) (h:dE W B L x) (ho:x.ok c i d) (hr:rightC c=true) (hi:i < 80) (ht:t.ok) (hc:Chs W B t) (rb r0 r1 r2:Nat) (hR:Blk W rb 42 (bL r0 r1 r2)) (hB:B≤rb) (h0:r0≤1000000) (h1:r1≤1000000) (h2:r2≤1000000):
  Calls prog 41 #[↑(π L.b),.agg t.cells,↑(π rb)] W fun e w'=>e=.returned (.int .i64 (x.err t))∧dE w' B L (x.step t)∧Below B W w'∧KR rb W w'∧Blk w' rb 42 (bL (r0 + x.nd t) (r1 + x.ns t) (r2 + x.nk t)):=by
 have HWr:=lh (JI (W:=W) (B:=B) (L:=L) (rb:=rb) (r0:=r0) (r1:=r1) (r2:=r2) ho ht);have HTi:=lh (OB (W:=W) (B:=B) (L:=L) (t:=t) (rb:=rb) (r0:=r0) (r1:=r1) (r2:=r2) (x:=x) (s:=x.s1 t));have HAd:=lh (bS x.k.t t.a ho.k.t ht.a);have HLt:=lh (JJ (W:=W) (B:=B) (L:=L) (rb:=rb) (r0:=r0) (r1:=r1) (r2:=r2) ho hi ht hc);have HNu:=lh (fun (w:World) (ao:Option Addr) (cap:Nat) (q:Its w ao (x.out t))=>uV (x.out t) ao cap w q (by have:=LN.out_len ho t;omega));have HAk:=lh (fun (hn:x.out t≠[]) (w:World) (q:LdI W B L t rb (r0 + (x.out t).length) r1 r2 ⟨x.s1 t,x.k1 t⟩ w) (n:Nat) (v:Value) (hv:bV 190 n w v (eY (x.out t)))=>RQ ho hr hi hn w q hv);have HTc:=lh (OC (W:=W) (B:=B) (L:=L) (t:=t) (rb:=rb) (r0:=r0 + (x.out t).length) (r1:=r1) (r2:=r2) ho hr hi);have HSe:=lh (fun (ao:Option Addr) (cap:Nat)=>OD (W:=W) (B:=B) (L:=L) (t:=t) (rb:=rb) (r0:=r0 + (x.out t).length) (r1:=r1 + (x.gone t).length) (r2:=r2) (ao:=ao) (cap:=cap) ho hr hi);have hlO:=LN.out_len ho t;have hlG:=(LN.gone_ok ho hr hi t).1;have hlK:=mX (x.gone t) (x.k1 t);have M0:Hid (LdI W B L t rb r0 r1 r2 x (W.alloc (.cells t.cells 47))):=lh ⟨h.keep (aC _ _),(Below.refl _ _).alloc h.size _,(KN.below _ (aC _ _)).kr _,Blk.new _ _ _,hR.keep (aC _ _)⟩;have p0:=TJ (W:=W) (B:=B) (L:=L) (t:=t) (rb:=rb) (i:=0) (v:=↑(π L.D.b)) rfl;have p1:=TJ (W:=W) (B:=B) (L:=L) (t:=t) (rb:=rb) (i:=1) (v:=↑(π L.pb)) rfl;have z0:=OA (W:=W) (B:=B) (L:=L) (t:=t) (rb:=rb) (i:=0) (v:=↑t.a) rfl;have z1:=OA (W:=W) (B:=B) (L:=L) (t:=t) (rb:=rb) (i:=1) (v:=↑t.w) rfl;have z2:=OA (W:=W) (B:=B) (L:=L) (t:=t) (rb:=rb) (i:=2) (v:=↑t.x) rfl;have z3:=OA (W:=W) (B:=B) (L:=L) (t:=t) (rb:=rb) (i:=3) (v:=.slice t.p t.cs.length t.c) rfl;have HX:Hid (t.cells=#[↑t.a,↑t.w,↑t.x,.slice t.p t.cs.length t.c]):=lh rfl;have HNow:Hid (Pl.addS x.k.t t.a=x.now t):=lh rfl;rw [HNow.out] at HAd;have HF1:Hid (x.s.writeE t.w≠0→x.s.writeE t.w=x.err t∧⟨x.s1 t,x.k⟩=x.step t∧0=x.nd t∧0=x.ns t∧0=x.nk t):=lh (fun e=>by unfold LN.err LN.step LN.nd LN.ns LN.nk;simp only [if_pos e,and_self]);have HF2:Hid (x.s.writeE t.w=0→x.ae t≠0→x.ae t=x.err t∧⟨x.s2 t,x.k1 t⟩=x.step t∧(x.out t).length=x.nd t∧0=x.ns t∧0=x.nk t):=lh (fun e k=>by unfold LN.err LN.step LN.nd LN.ns LN.nk;simp only [e,ne_eq,not_true_eq_false,if_false,if_pos k,and_self]);have HF3:Hid (x.s.writeE t.w=0→x.ae t=0→(x.s2 t).tickE (x.now t)=x.err t∧⟨(x.s2 t).tickS (x.now t),(x.k1 t).sends (x.gone t)⟩=x.step t∧(x.out t).length=x.nd t∧(x.gone t).length=x.ns t∧(x.k1 t).kept (x.gone t)=x.nk t):=lh (fun e k=>by unfold LN.err LN.step LN.nd LN.ns LN.nk;simp only [e,k,ne_eq,not_true_eq_false,if_false,and_self]);have HF4:Hid ((x.s2 t).tickE (x.now t)≠0→(x.gone t).length=0∧(x.k1 t).sends (x.gone t)=x.k1 t∧(x.k1 t).kept (x.gone t)=0):=lh (fun e=>by
  have e2:x.gone t=[]:=by unfold LN.gone SN.tickL;exact if_neg e
  rw [e2];exact ⟨rfl,rfl,rfl⟩)
 have HF5:Hid (x.out t=[]→x.ae t=0∧x.s2 t=x.s1 t):=lh (fun e=>by unfold LN.ae LN.s2;rw [if_pos e,if_pos e];exact ⟨rfl,rfl⟩);clear h ho hr ht hc hR;rw [HX.out] at M0 ⊢;generalize x.now t=nw at *;generalize x.s1 t=s1 at *;generalize x.k1 t=k1 at *;generalize x.ae t=ae at *;generalize x.s2 t=s2 at *;generalize hO:x.out t=O at *;have HOe:=lh hO;clear hO;generalize hn:O.length=n at *;have HN:=lh hn;clear hn;generalize x.gone t=G at *;generalize G.length=g at *;generalize s2.tickS nw=s3 at *;generalize s2.tickE nw=te at *;generalize k1.sends G=k2 at *;generalize k1.kept G=nk at *;generalize x.s.writeE t.w=we at *;generalize x.err t=er at *;generalize x.step t=st at *;generalize x.nd t=nd at *;generalize x.ns t=ns at *;generalize x.nk t=nkk at *;go_enter func41,ntmps41;go_wp2_with fail;generalize W.alloc (.cells #[↑t.a,↑t.w,↑t.x,.slice t.p t.cs.length t.c] 47)=w0 at *;have M1:=lh (M0.out.to ((aB.drew w0).below _));go_region_held3 (fun w'=>Hid (LdX W B L t rb w'))
  (first | with_reducible exact (cY M2) | with_reducible exact (cY M1))
  (first | (go_at_call 29;(with_reducible refine (HWr.out _ M1.out).mono ?_);rintro e w1 ⟨rfl,M2⟩))
 clear M0 M1 HWr z1;by_cases hw:we=0
 case neg=>
  obtain ⟨rfl,rfl,rfl,rfl,rfl⟩:=HF1.out hw;have d1:(we == 0)=false:=beq_eq_false_iff_ne.2 hw;clear hw;go_wp2_with fail;go_ret;exact ⟨rfl,M2.out.at_,M2.out.bel,M2.out.kt,M2.out.r⟩
 case pos=>
 subst hw;replace HF2:=lh (HF2.out rfl);replace HF3:=lh (HF3.out rfl);clear HF1;go_wp2_with fail;have M3:=lh (M2.out.to ((aB.drew w1).below _));go_region_held3 (fun w'=>Hid (LdX W B L t rb w'))
  (first | with_reducible exact (cY M5) | with_reducible exact (cY M4) | with_reducible exact (cY M3) | exact (cY (lh (M4.out.to (aC _ _)))))
  (first
   | (go_at_call 33;(with_reducible refine (HTi.out _ M3.out).mono ?_);rintro e w2 ⟨rfl,hb⟩;have M4:=lh (M3.out.to hb);have K4:=lh (nc2 w2 x.k.t t.a 22);have M4b:=lh (M4.out.to (aC _ (.cells #[↑x.k.t,↑t.a] 22)));clear hb)
   | (go_at_call 60;(with_reducible refine (HAd.out _ _ K4.out.1 K4.out.2).mono ?_);rintro e w3 ⟨rfl,hb⟩;have M5:=lh (M4b.out.to hb);clear hb))
 clear M2 M3 M4 M4b K4 HTi HAd z0;go_wp2_with fail;have M6:=lh (M5.out.to ((aB.drew w3).below _));go_region_held3 (fun w'=>Hid (LdX W B L t rb w'))
  (first | with_reducible exact (cY M7) | with_reducible exact (cY M6))
  (first | (go_at_call 32;(with_reducible refine (HLt.out _ M6.out).mono ?_);rintro e w4 ⟨ao,cap,rfl,V7,M7⟩))
 clear M5 M6 HLt z2 z3;have q0:=M7.out.r.cell (i:=0) (v:=.int .i64 (r0:Int)) rfl;have y0:=M7.out.r.free 0;have e1:(r0:Int) + (n:Int)=((r0 + n:Nat):Int):=by omega
 have e2:IntKind.i64.wrap ((r0 + n:Nat):Int)=((r0 + n:Nat):Int):=by rw [IntKind.wrap_i64];omega
 have M8:=lh (M7.out.rep hB 0 (.int .i64 ((r0 + n:Nat):Int)) (s0:=r0 + n) (s1:=r1) (s2:=r2) rfl);have V8:=lh (V7.out.blk (fun g cs _ z=>(uW M7.out.r hB 0 (.int .i64 ((r0 + n:Nat):Int))).2 _ (by decide) _ _ z));clear M7 V7;generalize hR0:r0 + n=R0 at *;have HR0:=lh hR0;clear hR0;by_cases hO:O=[]
 case pos=>
  obtain ⟨rfl,rfl⟩:=HF5.out hO;have hn0:n=0:=by rw [← HN.out,hO];rfl
  have d3:decide ((0:Int) < (n:Int))=false:=decide_eq_false (by omega);have d3b:decide (0 < n)=false:=decide_eq_false (by omega);have a0:=p0 _ (cY M8);clear hO hn0 HF2 HF5 HNu HAk HOe;go_wp2_with fail;clear q0 y0 e1 e2 d3 d3b V8;generalize w4.setCell ⟨rb,0,none⟩ (.int .i64 (R0:Int))=w5 at *;obtain ⟨rfl,rfl,rfl,rfl,rfl⟩:=HF3.out (by trivial);refine (HTc.out _ M8.out).mono ?_;rintro e w6 ⟨ao2,cap2,rfl,Q9⟩;clear M8 a0 HTc;by_cases hte:te=0
  case' neg=>
   obtain ⟨g1,g2,g3⟩:=HF4.out hte;have d2:(te == 0)=false:=beq_eq_false_iff_ne.2 hte;clear hte;go_wp2_with fail;go_ret;rw [g1,g2,g3,HR0.out];exact ⟨rfl,Q9.out.i.at_,Q9.out.i.bel,Q9.out.i.kt,Q9.out.i.r⟩
  case' pos=>
   subst hte;have q1:=Q9.out.i.r.cell (i:=1) (v:=.int .i64 (r1:Int)) rfl;have y1:=Q9.out.i.r.free 1;have e3:(r1:Int) + (g:Int)=((r1 + g:Nat):Int):=by omega
   have e4:IntKind.i64.wrap ((r1 + g:Nat):Int)=((r1 + g:Nat):Int):=by rw [IntKind.wrap_i64];omega
   have Q10:=lh (Q9.out.rep hB 1 (.int .i64 ((r1 + g:Nat):Int)) (s0:=R0) (s1:=r1 + g) (s2:=r2) rfl);clear Q9 HF4;generalize hR1:r1 + g=R1 at *;have HR1:=lh hR1;clear hR1;go_wp2_with fail;clear q1 y1 e3 e4;generalize w6.setCell ⟨rb,1,none⟩ (.int .i64 (R1:Int))=w7 at *;have Q11:=lh (Q10.out.to ((aB.drew w7).below _));have q2:=Q11.out.i.r.cell (i:=2) (v:=.int .i64 (r2:Int)) rfl;have a1:=p1 _ (cY (lh Q11.out.i));have e5:(r2:Int) + (nk:Int)=((r2 + nk:Nat):Int):=by omega
   have e6:IntKind.i64.wrap ((r2 + nk:Nat):Int)=((r2 + nk:Nat):Int):=by rw [IntKind.wrap_i64];omega
   generalize hR2:r2 + nk=R2 at *;have HR2:=lh hR2;clear hR2;have Y11:=qH (lh Q11.out.i);clear Q10 a1 q2;refine rhd (S:=(fun w'=>Hid (LdX W B L t rb w'))) (cY (lh Q11.out.i)) (fun hHeld=>?_);refine tkc 0 ?_;refine tkc 1 ?_;refine tkc 2 ?_;refine tkc 4 ?_;refine tkc 5 ?_;refine tkc 6 ?_;refine tks 7 ?_;refine tkc 8 ?_;refine rdy [3,9] ?_;refine cns (fun K hK=>?_) ?_
   ·have q2:=(Hid.out (by assumption):LdY W B L t rb R0 R1 r2 _).r2
    go_simp;refine bck hK hHeld (fun hHeld=>?_);clear hK;refine rdy [9] ?_;refine cns (fun K hK=>?_) .nil;go_simp;refine (HSe.out _ _ _ Q11.out).mono ?_;rintro e w8 ⟨rfl,M12⟩;have Y12:=qH M12;go_wp2_with fail;refine bck hK (cY M12) (fun hHeld=>?_);clear hK;refine tkc 10 ?_;refine tkc 11 ?_;refine tkc 12 ?_;refine rdy [13] ?_;refine cns (fun K hK=>?_) .nil;have q3:=M12.out.r.cell (i:=2) (v:=.int .i64 (r2:Int)) rfl;have y3:=M12.out.r.free 2;have M13:=lh (M12.out.rep hB 2 (.int .i64 (R2:Int)) (s0:=R0) (s1:=R1) (s2:=R2) rfl);go_simp;refine bck hK (cY M13) (fun hHeld=>?_);clear hK;refine wpAnyH_done (by kernel_rfl) ?_ _;go_wp2_with fail;go_ret;rw [HR0.out,HR1.out,HR2.out];exact ⟨rfl,M13.out.at_,M13.out.bel,M13.out.kt,M13.out.r⟩
   refine cns (fun K hK=>?_) .nil;go_simp;refine (HSe.out _ _ _ Q11.out).mono ?_;rintro e w8 ⟨rfl,M12⟩;have Y12:=qH M12;go_wp2_with fail;refine bck hK (cY M12) (fun hHeld=>?_);clear hK;refine rdy [3] ?_;refine cns (fun K hK=>?_) .nil;have q2:=(Hid.out (by assumption):LdY W B L t rb R0 R1 r2 _).r2;go_simp;refine bck hK hHeld (fun hHeld=>?_);clear hK;refine tkc 10 ?_;refine tkc 11 ?_;refine tkc 12 ?_;refine rdy [13] ?_;refine cns (fun K hK=>?_) .nil;have q3:=M12.out.r.cell (i:=2) (v:=.int .i64 (r2:Int)) rfl;have y3:=M12.out.r.free 2;have M13:=lh (M12.out.rep hB 2 (.int .i64 (R2:Int)) (s0:=R0) (s1:=R1) (s2:=R2) rfl);go_simp;refine bck hK (cY M13) (fun hHeld=>?_);clear hK;refine wpAnyH_done (by kernel_rfl) ?_ _;go_wp2_with fail;go_ret;rw [HR0.out,HR1.out,HR2.out];exact ⟨rfl,M13.out.at_,M13.out.bel,M13.out.kt,M13.out.r⟩
 case neg=>
  have hn0:0 < n:=by rw [← HN.out];exact List.length_pos_iff.2 hO
  have d3:decide ((0:Int) < (n:Int))=true:=decide_eq_true (by omega);have d3b:decide (0 < n)=true:=decide_eq_true (by omega);replace HAk:=lh (HAk.out hO);clear hO hn0 HF5 HOe;go_wp2_with fail;clear q0 y0 e1 e2 d3 d3b;generalize w4.setCell ⟨rb,0,none⟩ (.int .i64 (R0:Int))=w5 at *;have M9:=lh (M8.out.to ((aB.drew w5).below _));have V9:=lh (V8.out.keep ((aB.drew w5).below _));clear M8 V8;go_region_held3 (fun w'=>Hid (LdX W B L t rb w'))
   (first | with_reducible exact (cY M11) | with_reducible exact (cY M10) | with_reducible exact (cY M9))
   (first
    | (go_at_call 82;(with_reducible refine (HNu.out _ _ _ V9.out.its.1).mono ?_);rintro e wn ⟨vn,rfl,hvn,hb⟩;have M10:=lh (M9.out.to hb);have VN:=lh hvn;clear hb hvn)
    | (go_at_call 30;(with_reducible refine (HAk.out _ M10.out _ _ VN.out).mono ?_);rintro e wa ⟨rfl,M11⟩))
  clear M9 M10 V9 VN HNu HAk;by_cases hae:ae=0
  case neg=>
   obtain ⟨rfl,rfl,rfl,rfl,rfl⟩:=HF2.out hae;have d4:(ae == 0)=false:=beq_eq_false_iff_ne.2 hae;clear hae;go_wp2_with fail;go_ret;rw [HR0.out];exact ⟨rfl,M11.out.at_,M11.out.bel,M11.out.kt,M11.out.r⟩
  case pos=>
  subst hae;clear HF2;have M8:=M11;have a0:=p0 _ (cY M8);clear M11;go_wp2_with fail;obtain ⟨rfl,rfl,rfl,rfl,rfl⟩:=HF3.out (by trivial);refine (HTc.out _ M8.out).mono ?_;rintro e w6 ⟨ao2,cap2,rfl,Q9⟩;clear M8 a0 HTc;by_cases hte:te=0
  case' neg=>
   obtain ⟨g1,g2,g3⟩:=HF4.out hte;have d2:(te == 0)=false:=beq_eq_false_iff_ne.2 hte;clear hte;go_wp2_with fail;go_ret;rw [g1,g2,g3,HR0.out];exact ⟨rfl,Q9.out.i.at_,Q9.out.i.bel,Q9.out.i.kt,Q9.out.i.r⟩
  case' pos=>
   subst hte;have q1:=Q9.out.i.r.cell (i:=1) (v:=.int .i64 (r1:Int)) rfl;have y1:=Q9.out.i.r.free 1;have e3:(r1:Int) + (g:Int)=((r1 + g:Nat):Int):=by omega
   have e4:IntKind.i64.wrap ((r1 + g:Nat):Int)=((r1 + g:Nat):Int):=by rw [IntKind.wrap_i64];omega
   have Q10:=lh (Q9.out.rep hB 1 (.int .i64 ((r1 + g:Nat):Int)) (s0:=R0) (s1:=r1 + g) (s2:=r2) rfl);clear Q9 HF4;generalize hR1:r1 + g=R1 at *;have HR1:=lh hR1;clear hR1;go_wp2_with fail;clear q1 y1 e3 e4;generalize w6.setCell ⟨rb,1,none⟩ (.int .i64 (R1:Int))=w7 at *;have Q11:=lh (Q10.out.to ((aB.drew w7).below _));have q2:=Q11.out.i.r.cell (i:=2) (v:=.int .i64 (r2:Int)) rfl;have a1:=p1 _ (cY (lh Q11.out.i));have e5:(r2:Int) + (nk:Int)=((r2 + nk:Nat):Int):=by omega
   have e6:IntKind.i64.wrap ((r2 + nk:Nat):Int)=((r2 + nk:Nat):Int):=by rw [IntKind.wrap_i64];omega
   generalize hR2:r2 + nk=R2 at *;have HR2:=lh hR2;clear hR2;have Y11:=qH (lh Q11.out.i);clear Q10 a1 q2;refine rhd (S:=(fun w'=>Hid (LdX W B L t rb w'))) (cY (lh Q11.out.i)) (fun hHeld=>?_);refine tkc 0 ?_;refine tkc 1 ?_;refine tkc 2 ?_;refine tkc 4 ?_;refine tkc 5 ?_;refine tkc 6 ?_;refine tks 7 ?_;refine tkc 8 ?_;refine rdy [3,9] ?_;refine cns (fun K hK=>?_) ?_
   ·have q2:=(Hid.out (by assumption):LdY W B L t rb R0 R1 r2 _).r2
    go_simp;refine bck hK hHeld (fun hHeld=>?_);clear hK;refine rdy [9] ?_;refine cns (fun K hK=>?_) .nil;go_simp;refine (HSe.out _ _ _ Q11.out).mono ?_;rintro e w8 ⟨rfl,M12⟩;have Y12:=qH M12;go_wp2_with fail;refine bck hK (cY M12) (fun hHeld=>?_);clear hK;refine tkc 10 ?_;refine tkc 11 ?_;refine tkc 12 ?_;refine rdy [13] ?_;refine cns (fun K hK=>?_) .nil;have q3:=M12.out.r.cell (i:=2) (v:=.int .i64 (r2:Int)) rfl;have y3:=M12.out.r.free 2;have M13:=lh (M12.out.rep hB 2 (.int .i64 (R2:Int)) (s0:=R0) (s1:=R1) (s2:=R2) rfl);go_simp;refine bck hK (cY M13) (fun hHeld=>?_);clear hK;refine wpAnyH_done (by kernel_rfl) ?_ _;go_wp2_with fail;go_ret;rw [HR0.out,HR1.out,HR2.out];exact ⟨rfl,M13.out.at_,M13.out.bel,M13.out.kt,M13.out.r⟩
   refine cns (fun K hK=>?_) .nil;go_simp;refine (HSe.out _ _ _ Q11.out).mono ?_;rintro e w8 ⟨rfl,M12⟩;have Y12:=qH M12;go_wp2_with fail;refine bck hK (cY M12) (fun hHeld=>?_);clear hK;refine rdy [3] ?_;refine cns (fun K hK=>?_) .nil;have q2:=(Hid.out (by assumption):LdY W B L t rb R0 R1 r2 _).r2;go_simp;refine bck hK hHeld (fun hHeld=>?_);clear hK;refine tkc 10 ?_;refine tkc 11 ?_;refine tkc 12 ?_;refine rdy [13] ?_;refine cns (fun K hK=>?_) .nil;have q3:=M12.out.r.cell (i:=2) (v:=.int .i64 (r2:Int)) rfl;have y3:=M12.out.r.free 2;have M13:=lh (M12.out.rep hB 2 (.int .i64 (R2:Int)) (s0:=R0) (s1:=R1) (s2:=R2) rfl);go_simp;refine bck hK (cY M13) (fun hHeld=>?_);clear hK;refine wpAnyH_done (by kernel_rfl) ?_ _;go_wp2_with fail;go_ret;rw [HR0.out,HR1.out,HR2.out];exact ⟨rfl,M13.out.at_,M13.out.bel,M13.out.kt,M13.out.r⟩
end

section
open Go.RowKit Cf
instance:Itm StV:=⟨⟨0,0,0,none,0,[]⟩,4,fun t=>[↑t.a,↑t.w,↑t.x,.slice t.p t.cs.length t.c],by decide,fun _=>rfl,fun t v h=>by simp only [List.mem_cons,List.not_mem_nil,or_false] at h;rcases h with rfl | rfl | rfl | rfl <;> rfl⟩
theorem RT {ad:Addr} {l:List StV} (h:Its w (some ad) l) (hp:0 < l.length):∃b off,ad=⟨b,off,none⟩∧b < w.heap.size∧∀k,k < l.length→∀t,t=l.getD k Itm.z→
  w.cell? ⟨b,off + k * 4,none⟩=some ↑t.a∧w.cell? ⟨b,off + k * 4 + 1,none⟩=some ↑t.w∧w.cell? ⟨b,off + k * 4 + 2,none⟩=some ↑t.x∧w.cell? ⟨b,off + k * 4 + 3,none⟩=some (.slice t.p t.cs.length t.c):=by
 obtain ⟨b,off,e,hb,hc⟩:=h hp;injection e with e
 refine ⟨b,off,e,hb,fun k hk t ht=>?_⟩;have k4:Itm.k StV=4:=rfl;subst ht;have f:=fun j (hj:j < 4)=>hc k j hk (by rw [k4];exact hj);rw [k4] at f;exact ⟨f 0 (by decide),f 1 (by decide),f 2 (by decide),f 3 (by decide)⟩
structure RN where
 x:LN
 e:Int
 d:Nat
 s:Nat
 k:Nat
def LN.run (x:LN):List StV→RN
 | []=>⟨x,0,0,0,0⟩
 | t :: l=>if x.err t=0 then ⟨((x.step t).run l).x,((x.step t).run l).e,x.nd t + ((x.step t).run l).d,x.ns t + ((x.step t).run l).s,x.nk t + ((x.step t).run l).k⟩ else ⟨x.step t,x.err t,x.nd t,x.ns t,x.nk t⟩
def RN.add (r:RN) (d s k:Nat):RN:=⟨r.x,r.e,d + r.d,s + r.s,k + r.k⟩
theorem RN.add_zero (r:RN):r.add 0 0 0=r:=by unfold RN.add;rw [Nat.zero_add,Nat.zero_add,Nat.zero_add]
theorem RN.add_add (r:RN) (a b c d s k:Nat):(r.add a b c).add d s k=r.add (d + a) (s + b) (k + c):=by unfold RN.add;simp only [Nat.add_assoc]
theorem LN.run_yes {x:LN} {t:StV} (h:x.err t=0) (l:List StV):x.run (t :: l)=((x.step t).run l).add (x.nd t) (x.ns t) (x.nk t):=by rw [LN.run,if_pos h];rfl
theorem LN.run_no {x:LN} {t:StV} (h:x.err t≠0) (l:List StV):x.run (t :: l)=⟨x.step t,x.err t,x.nd t,x.ns t,x.nk t⟩:=by rw [LN.run,if_neg h]
theorem LN.some_le {c:Setup} {i d:Nat} {x:LN} (h:x.ok c i d) (hr:rightC c=true) (hi:i < 80) (t:StV):x.nd t≤5200∧x.ns t≤65∧x.nk t≤65:=by
 have h1:=LN.out_len h t;have h2:=(LN.gone_ok h hr hi t).1;have h3:=mX (x.gone t) (x.k1 t);unfold LN.nd LN.ns LN.nk;refine ⟨?_,?_,?_⟩ <;> repeat' split
 all_goals omega
theorem LpO.set {W:World} {B:Nat} {L:LD} {x:LN} (h:LpO W B L x w) (hb:Blk w W.heap.size 42 cs) (hB:B≤↑W) (i:Nat) (u:Value):LpO W B L x (w.setCell ⟨W.heap.size,i,none⟩ u):=by
 obtain ⟨b,n⟩:=uW hb hB i u;obtain ⟨p,hp⟩:=h.at_;exact ⟨⟨p,hp.kn n (by decide) b⟩,h.bel.trans b,fun T hT z cs q=>(h.kt T hT z cs q).set_other i u (by have:=q.lt;omega)⟩
structure DoR (W:World) (B:Nat) (L:LD) (x0:LN) (l:List StV) (c:Setup) (i n m:Nat) (j:Nat) (wr:World):Prop where
 le:j≤l.length
 bel:Below B W wr
 kt:KN sR W wr
 z:Blk wr n 42 (bL 0 0 0)
 st:∃x d a b k,dE wr B L x∧x.ok c (i + j) d∧Blk wr m 42 (bL a b k)∧a≤5200 * j∧b≤65 * j∧k≤65 * j∧x0.run l=(x.run (l.drop j)).add a b k
theorem zF {B:Nat} {L:LD} {x:LN} {c:Setup} {i d:Nat} {l:List StV} (v:Option Addr) (cap:Nat) (W:World) (h:dE W B L x) (ho:x.ok c i d) (hr:rightC c=true) (hi:i + l.length≤80) (hl:∀w,Below B W w→KN sR W w→Its w v l) (ht:∀t∈l,t.ok∧Chs W B t):
  Calls prog 15 #[↑(π L.b),.slice v l.length cap] W fun e w'=>e=.returned (.tuple #[.agg (bL (x.run l).d (x.run l).s (x.run l).k),.int .i64 (x.run l).e])∧LpO W B L (x.run l).x w':=by
 have hsz:=h.size;have HT:=lh ht;have HL:=lh hl;have b1:=aC W (.cells (bL 0 0 0) 42);have b2:=aC (W.alloc (.cells (bL 0 0 0) 42)) (.cells (bL 0 0 0) 42);have b3:=aD b1 b2 b1.size;have R0:Hid (DoR W B L x l c i W.heap.size (W.heap.size + 1) 0 ((W.alloc (.cells (bL 0 0 0) 42)).alloc (.cells (bL 0 0 0) 42))):=lh ⟨Nat.zero_le _,b3.mono hsz,KN.below _ b3,(Blk.new W _ _).keep b2,x,d,0,0,0,h.keep b3,ho,Blk.new1 W _ _ _,Nat.zero_le _,Nat.zero_le _,Nat.zero_le _,(RN.add_zero _).symm⟩;have HX:Hid (bL 0 0 0=#[.int .i64 0,.int .i64 0,.int .i64 0]):=lh rfl;generalize hE:x.run l=E at *;have HE:=lh hE;clear h ho b1 b2 b3 hl ht hE;rw [HX.out] at R0;go_enter func15,ntmps15;go_wp2_with fail;generalize (W.alloc (.cells #[.int .i64 0,.int .i64 0,.int .i64 0] 42)).alloc (.cells #[.int .i64 0,.int .i64 0,.int .i64 0] 42)=w1 at *;go_loopw [15] (fun ix wr=>∃j:Nat,ix=.int .i64 (j:Int)∧Hid (DoR W B L x l c i W.heap.size (W.heap.size + 1) j wr)) (fun ix _=>l.length - (intOf ix).toNat)
 case atStart=>exact ⟨0,rfl,R0⟩
 case round=>
  obtain ⟨j,rfl,HD⟩:=hrel;clear R0;have hk:=HD.out.le;by_cases hlt:j < l.length
  ·obtain ⟨ad,rfl,_⟩:=(HL.out wr HD.out.bel HD.out.kt).cells (by omega)
   obtain ⟨g,off,rfl,_,hc⟩:=RT (HL.out wr HD.out.bel HD.out.kt) (by omega);obtain ⟨t,htt⟩:∃t,t=l.getD j Itm.z:=⟨_,rfl⟩;obtain ⟨a0,a1,a2,a3⟩:=hc j hlt t htt;have htm:t∈l:=by rw [htt];simp [hlt]
   have HDr:Hid (l.drop j=t :: l.drop (j + 1)):=lh (by rw [List.drop_eq_getElem_cons hlt,htt,List.getD_eq_getElem?_getD,List.getElem?_eq_getElem hlt];rfl);obtain ⟨y,d',a,b,k,hy,hyo,hR,ha,hb,hkk,hrun⟩:=HD.out.st;have ti:=HT.out t htm;rw [HDr.out] at hrun;have hdo:=lh (fun (w:World) (q:Below ↑wr wr w)=>TK (i:=i + j) w (hy.keep q) hyo hr (by omega) ti.1 (ti.2.bel (HD.out.bel.trans (q.mono hy.size))) (W.heap.size + 1) a b k (hR.keep q) (by omega) (by omega) (by omega) (by omega));have HZ:=lh HD.out.z;have HRu:=lh hrun;have HSo:=lh (LN.some_le hyo hr (by omega) t);have HOk:=lh (LN.step_ok hyo hr (by omega) t);have HBw:=lh HD.out.bel;have HKw:=lh HD.out.kt;have HBa:=lh (show a≤5200 * j∧b≤65 * j∧k≤65 * j from ⟨ha,hb,hkk⟩);have HyB:=lh hy.size;have i0:(0:Int)≤(j:Int):=by omega
   have i1:(j:Int) < (l.length:Int):=by omega
   clear hc htt hy hyo hR hrun ha hb hkk ti HD HT HL;have HC:Hid (t.cells=#[↑t.a,↑t.w,↑t.x,.slice t.p t.cs.length t.c]):=lh rfl;have hz:=aC wr (.cells #[↑t.a,↑t.w,↑t.x,.slice t.p t.cs.length t.c] 47);have HBe:=lh hz;have hnb:=Blk.new wr 47 #[↑t.a,↑t.w,↑t.x,.slice t.p t.cs.length t.c];have HZ2:=lh (HZ.out.keep hz);rw [HC.out] at hdo;clear hz;go_upto_region 7 with fail
   generalize wr.alloc (.cells #[↑t.a,↑t.w,↑t.x,.slice t.p t.cs.length t.c] 47)=w2 at *;clear a0 a1 a2 a3;have c0:=hnb.cell (i:=0) (v:=↑t.a) rfl;have c1:=hnb.cell (i:=1) (v:=↑t.w) rfl;have c2:=hnb.cell (i:=2) (v:=↑t.x) rfl;have c3:=hnb.cell (i:=3) (v:=.slice t.p t.cs.length t.c) rfl;clear hnb;go_wp2_with fail;refine (hdo.out _ HBe.out).mono ?_;rintro e w3 ⟨rfl,hA,hB3,hK3,hR3⟩;have HA:=lh hA;have HR3:=lh hR3;have HB3:=lh (HBw.out.trans ((HBe.out.mono HyB.out).trans hB3));have HK3:Hid (KN sR W w3):=lh (fun T hT z cs q=>hK3 T hT z cs (fun e=>by have:=q.lt;omega) ((HKw.out T hT z cs q).keep HBe.out));have HZ3:Hid (Blk w3 W.heap.size 42 (bL 0 0 0)):=lh (hK3 _ (by decide) _ _ (by omega) HZ2.out);clear hA hR3 hB3 hK3 c0 c1 c2 c3 hdo HBe HZ2 HZ HBw HKw;have er0:=lh (show (y.err t=0→_)∧(y.err t≠0→_) from ⟨fun q=>HRu.out.trans (congrArg (RN.add · a b k) (LN.run_yes q (l.drop (j + 1)))),fun q=>HRu.out.trans (congrArg (RN.add · a b k) (LN.run_no q (l.drop (j + 1))))⟩);by_cases he:y.err t=0
   ·have hE:=(er0.out.1 he).trans (RN.add_add _ _ _ _ _ _ _)
    have d1:(y.err t == 0)=true:=by rw [he];rfl
    have HE':=lh hE;clear er0 HRu hE;go_wp2_with fail;go_roundw
    case rel=>
     obtain ⟨q,hq⟩:=HOk.out;have h1:=HBa.out;have h2:=HSo.out;exact ⟨j + 1,by go_num,lh ⟨by omega,HB3.out,HK3.out,HZ3.out,y.step t,_,_,_,_,HA.out,hq,HR3.out,by omega,by omega,by omega,HE'.out⟩⟩
    case measure=>simp [intOf];omega
   ·have hE:=er0.out.2 he
    have d1:(y.err t == 0)=false:=beq_eq_false_iff_ne.2 he;have r0:=HR3.out.cell (i:=0) (v:=.int .i64 ((a + y.nd t:Nat):Int)) rfl;have r1:=HR3.out.cell (i:=1) (v:=.int .i64 ((b + y.ns t:Nat):Int)) rfl;have r2:=HR3.out.cell (i:=2) (v:=.int .i64 ((k + y.nk t:Nat):Int)) rfl;have z0:=HZ3.out.cell (i:=0) (v:=.int .i64 0) rfl;have z1:=HZ3.out.cell (i:=1) (v:=.int .i64 0) rfl;have z2:=HZ3.out.cell (i:=2) (v:=.int .i64 0) rfl;have zf:=HZ3.out.free;have HE':=lh (HE.out.symm.trans hE);clear er0 HRu hE;generalize hd:a + y.nd t=D at *;generalize hs:b + y.ns t=S at *;generalize hk2:k + y.nk t=K at *;have HDSK:=lh (show a + y.nd t=D∧b + y.ns t=S∧k + y.nk t=K from ⟨hd,hs,hk2⟩);clear hd hs hk2;have O1:=LpO.set (w:=w3) ⟨HA.out,HB3.out,HK3.out⟩ HZ3.out hsz 0 (.int .i64 (D:Int));have Z1:=HZ3.out.set 0 (.int .i64 (D:Int));have O2:=O1.set Z1 hsz 1 (.int .i64 (S:Int));have Z2:=Z1.set 1 (.int .i64 (S:Int));have O3:=O2.set Z2 hsz 2 (.int .i64 (K:Int));have HF:=lh (Z2.set 2 (.int .i64 (K:Int)));have HO:=lh O3;clear O1 Z1 O2 Z2 O3;go_wp2_with fail;refine bodyPost_ret (aE rfl _ _ W.heap.size 42 _ _ rfl HF.out underlying42 rfl (by kernel_rfl)) rfl ?_;rw [HE'.out];exact ⟨by rw [← HDSK.out.1,← HDSK.out.2.1,← HDSK.out.2.2];rfl,HO.out⟩
  ·obtain rfl:j=l.length:=by omega
   obtain ⟨y,d',D,S,K,hy,hyo,hR,ha,hb,hkk,hrun⟩:=HD.out.st;rw [List.drop_length] at hrun;have HE':=lh (HE.out.symm.trans hrun);have HDSK:=lh (show D + 0=D∧S + 0=S∧K + 0=K from ⟨rfl,rfl,rfl⟩);have HA:=lh hy;have HB3:=lh HD.out.bel;have HK3:=lh HD.out.kt;have HZ3:=lh HD.out.z;have w3e:∃w3,w3=wr:=⟨_,rfl⟩;obtain ⟨w3,rfl⟩:=w3e;have r0:=hR.cell (i:=0) (v:=.int .i64 (D:Int)) rfl;have r1:=hR.cell (i:=1) (v:=.int .i64 (S:Int)) rfl;have r2:=hR.cell (i:=2) (v:=.int .i64 (K:Int)) rfl;have z0:=HZ3.out.cell (i:=0) (v:=.int .i64 0) rfl;have z1:=HZ3.out.cell (i:=1) (v:=.int .i64 0) rfl;have z2:=HZ3.out.cell (i:=2) (v:=.int .i64 0) rfl;have zf:=HZ3.out.free;clear hy hyo hR ha hb hkk hrun HD HT HL;have O1:=LpO.set (w:=w3) ⟨HA.out,HB3.out,HK3.out⟩ HZ3.out hsz 0 (.int .i64 (D:Int));have Z1:=HZ3.out.set 0 (.int .i64 (D:Int));have O2:=O1.set Z1 hsz 1 (.int .i64 (S:Int));have Z2:=Z1.set 1 (.int .i64 (S:Int));have O3:=O2.set Z2 hsz 2 (.int .i64 (K:Int));have HF:=lh (Z2.set 2 (.int .i64 (K:Int)));have HO:=lh O3;clear O1 Z1 O2 Z2 O3;go_wp2_with fail;refine bodyPost_ret (aE rfl _ _ W.heap.size 42 _ _ rfl HF.out underlying42 rfl (by kernel_rfl)) rfl ?_;rw [HE'.out];exact ⟨by rw [← HDSK.out.1,← HDSK.out.2.1,← HDSK.out.2.2];rfl,HO.out⟩
theorem CR (W:World) (v:Value):Calls prog 15 #[.pointer none,v] W fun e w'=>e=.returned (.tuple #[.agg (bL 0 0 0),.int .i64 1])∧Below ↑W W w':=by
 have HF:=lh ((Blk.new W 42 (bL 0 0 0)).alloc (.cells (bL 0 0 0) 42));have HB:=lh (aD (aC W (.cells (bL 0 0 0) 42)) (aC (W.alloc (.cells (bL 0 0 0) 42)) (.cells (bL 0 0 0) 42)) (aC W (.cells (bL 0 0 0) 42)).size);have HX:Hid (bL 0 0 0=#[.int .i64 0,.int .i64 0,.int .i64 0]):=lh rfl;rw [HX.out] at HF HB ⊢;go_enter func15,ntmps15;go_wp2_with fail;refine bodyPost_ret (aE rfl _ _ W.heap.size 42 _ _ rfl HF.out underlying42 rfl (by kernel_rfl)) rfl ⟨rfl,HB.out⟩
theorem aJ.mono {w:World} {B B':Nat} {D:SD} {s:SN} (h:aJ w B D s) (hB:B'≤B) (hl:0 < B'):aJ w B' D s:=
 ⟨h.b,h.c,h.l.mono hB,h.t,h.a,h.e.mono hB hl,h.p,Nat.le_trans hB h.own.1,Nat.le_trans hB h.own.2.1,Nat.le_trans hB h.own.2.2.1,Nat.le_trans hB h.own.2.2.2.1,Nat.le_trans hB h.own.2.2.2.2⟩
theorem gW {c:Setup} {r d b:Nat} (hc:∀i,c i≤↑ω) (hr:rightC c=true) (hp:cQ r d j b=true) (W:World) (hg:Gl W):
  Calls prog 12 #[.agg (aK c),.agg #[↑r,↑d,↑j,↑b]] W fun e w'=>∃L:LD,e=.returned (.tuple #[↑(π L.b),.int .i64 0])∧dE w' W.heap.size L ⟨SN.new c,LKS.start r d j b⟩∧Below ↑W W w':=by
 have HS:=lh (fun w (q:Gl w)=>CM c hc hr w q);have HK:=lh (fun w=>RP r d j b w hp);have HX:Hid (aK c=#[↑(c 0),↑(c 1),↑(c 2),↑(c 3),↑(c 4),↑(c 5)]):=lh rfl;have b1:=aC W (.cells (aK c) 24);have b2:=aD b1 (aC (W.alloc (.cells (aK c) 24)) (.cells #[↑r,↑d,↑j,↑b] 26)) b1.size;have HG:=lh (hg.keep b2);have C1:=(Blk.new W 24 (aK c)).alloc (.cells #[↑r,↑d,↑j,↑b] 26);have HP:=lh (Blk.new1 W (.cells (aK c) 24) 26 #[↑r,↑d,↑j,↑b]);have HBe:=lh b2;have HLt:=lh hg.lt;have v0:=C1.cell (i:=0) (v:=↑(c 0)) rfl;have v1:=C1.cell (i:=1) (v:=↑(c 1)) rfl;have v2:=C1.cell (i:=2) (v:=↑(c 2)) rfl;have v3:=C1.cell (i:=3) (v:=↑(c 3)) rfl;have v4:=C1.cell (i:=4) (v:=↑(c 4)) rfl;have v5:=C1.cell (i:=5) (v:=↑(c 5)) rfl;clear hg b1 b2 C1 hp hr hc;rw [HX.out] at HS HG HP HBe v0 v1 v2 v3 v4 v5 ⊢;go_enter func12,ntmps12;go_wp2_with fail;refine (HS.out _ HG.out).mono ?_;rintro e w1 ⟨D,rfl,hD,hb⟩;have S1:=lh (hD.mono HBe.out.size HLt.out);have B1:=lh (aD HBe.out hb HBe.out.size);have P1:=HP.out.keep hb;clear hD hb v0 v1 v2 v3 v4 v5 HS HG HP;have p0:=P1.cell (i:=0) (v:=↑r) rfl;have p1:=P1.cell (i:=1) (v:=↑d) rfl;have p2:=P1.cell (i:=2) (v:=↑j) rfl;have p3:=P1.cell (i:=3) (v:=↑b) rfl;clear P1;go_wp2_with fail;refine (HK.out _).mono ?_;rintro e w2 ⟨⟨p,rfl,hk,hl⟩,hb⟩;have sz:=B1.out.size;have S2:=lh (S1.out.keep hb);have B2:=lh (aD B1.out hb sz);have K2:=lh hk;have L2:=lh (fun y hy=>Nat.le_trans sz (hl y hy));clear hk hl hb p0 p1 p2 p3 S1 B1 HK sz;have hz:=aC w2 (.cells #[↑(π D.b),↑(π p.b)] 83);have S3:=lh (S2.out.keep hz);have B3:=lh (aD B2.out hz B2.out.size);have K3:=lh (K2.out.keep hz);have N3:=lh (Blk.new w2 83 #[↑(π D.b),↑(π p.b)]);have hn:=B2.out.size;clear hz S2 B2 K2;go_wp2_with fail;go_ret2
 exact ⟨⟨w2.heap.size,D,p.b⟩,rfl,⟨p,N3.out,S3.out,rfl,K3.out,hn,L2.out⟩,B3.out⟩

theorem LN.ok.mono {c:Setup} {i j d:Nat} {x:LN} (h:x.ok c i d) (hi:i≤j):x.ok c j d:=⟨h.s.mono (by omega) (by omega),h.k.more (by omega),h.num⟩
theorem LN.run_ok {c:Setup} (hr:rightC c=true):∀(l:List StV) (x:LN) (i d:Nat),x.ok c i d→i + l.length≤80→∃d',(x.run l).x.ok c (i + l.length) d'
 | [],x,i,d,h,hi=>⟨d,h⟩
 | t :: l,x,i,d,h,hi=>by
   rw [List.length_cons] at hi ⊢;obtain ⟨a,ha⟩:=LN.step_ok h hr (by omega) t;by_cases e:x.err t=0
   ·rw [LN.run_yes e]
    obtain ⟨d',h'⟩:=LN.run_ok hr l _ _ _ ha (by omega);exact ⟨d',by rw [show i + (l.length + 1)=i + 1 + l.length by omega];exact h'⟩
   ·rw [LN.run_no e]
    exact ⟨_,ha.mono (by omega)⟩
theorem LN.new_ok {c:Setup} {r d j b:Nat} (hr:rightC c=true) (hc:∀i,c i≤↑ω) (hp:r≤↑ω∧d≤↑ω∧j≤↑ω∧b≤↑ω):LN.ok c 0 0 ⟨SN.new c,LKS.start r d j b⟩:=
 ⟨SN.new_ok hr hc,LKS.start_okL hp.1 hp.2.1 hp.2.2.1 hp.2.2.2,fun p hp=>nomatch hp⟩
theorem jJ (a w:Nat) (ha:a≤↑ω) (hw:w≤↑ω) (W:World) (B:Nat):StV.ok ⟨a,w,0,none,0,[]⟩∧Chs W B ⟨a,w,0,none,0,[]⟩:=
 ⟨⟨ha,hw,by show 0≤_;omega,fun c hc=>nomatch hc⟩,Nus.nil _ _,fun h=>absurd h (by simp),Nat.zero_le _,by show 0≤_;omega⟩
def lA0:LN:=⟨SN.new mO,LKS.start 1000000 10000 0 30000⟩
def lA:List StV:=[⟨0,6000,0,none,0,[]⟩,⟨73,0,0,none,0,[]⟩,⟨3000,0,0,none,0,[]⟩]
def lB:List StV:=[⟨10000,0,0,none,0,[]⟩]
theorem OE:(lA0.run lA).e=0∧(lA0.run lA).d=0∧(lA0.run lA).s=4∧(lA0.run lA).k=4∧((lA0.run lA).x.run lB).e=0∧((lA0.run lA).x.run lB).d=2∧((lA0.run lA).x.run lB).x.s.c.t=13073∧LKS.told ((lA0.run lA).x.run lB).x.k.came=6000:=by
 refine ⟨?_,?_,?_,?_,?_,?_,?_,?_⟩ <;> kernel_rfl
theorem OF (w:World):(Op.equalIn 10000 42 (.agg #[.int .i64 0,.int .i64 4,.int .i64 4]) (.agg #[.int .i64 0,.int .i64 4,.int .i64 4])).run prog w=.ok true w:=by kernel_rfl
theorem zG (w:World):(Op.equalIn 10000 42 (.agg #[.int .i64 0,.int .i64 0,.int .i64 0]) (.agg #[.int .i64 0,.int .i64 0,.int .i64 0])).run prog w=.ok true w:=by kernel_rfl
theorem zH (W:World) (hg:Gl W):Calls prog 11 #[] W fun e w'=>e=.returned (.bool true)∧Below ↑W W w':=by
 obtain ⟨m1,m2,m3,m4,m5,m6,m7,m8⟩:=OE;have o0:lA0.ok mO 0 0:=LN.new_ok eT yE ⟨by omega,by omega,by omega,by omega⟩;obtain ⟨d1,o1⟩:=LN.run_ok eT lA lA0 0 0 o0 (by decide);obtain ⟨d2,o2⟩:=LN.run_ok eT lB _ _ d1 o1 (by decide);have HD:=lh (rH W);have HN:=lh (fun w hg=>gW (r:=1000000) (d:=10000) (j:=0) (b:=30000) yE eT (by decide) w hg);have HG:=lh hg;have H1:Hid (∀B L w g,dE w B L lA0→Blk w g 47 (aH lA)→Calls prog 15 #[↑(π L.b),.slice (some ⟨g,0,none⟩) 3 3] w fun e w'=>e=.returned (.tuple #[.agg #[.int .i64 0,.int .i64 4,.int .i64 4],.int .i64 0])∧LpO w B L (lA0.run lA).x w'):=lh (fun B L w g q hb=>by
  have hh:=zF (l:=lA) (some ⟨g,0,none⟩) 3 w q o0 eT (by decide) (fun w' _ hk=>Its.of_blk (T:=47) (hk _ (by decide) _ _ hb)) (fun t ht=>by
   simp only [lA,List.mem_cons,List.not_mem_nil,or_false] at ht;rcases ht with rfl | rfl | rfl <;> exact jJ _ _ (by decide) (by decide) _ _)
  rw [m1,m2,m3,m4] at hh;exact hh)
 have H2:Hid (∀B L w g,dE w B L (lA0.run lA).x→Blk w g 47 (aH lB)→Calls prog 15 #[↑(π L.b),.slice (some ⟨g,0,none⟩) 1 1] w fun e w'=>∃s k:Nat,e=.returned (.tuple #[.agg #[.int .i64 2,.int .i64 (s:Int),.int .i64 (k:Int)],.int .i64 0])∧LpO w B L ((lA0.run lA).x.run lB).x w'):=lh (fun B L w g q hb=>by
  have hh:=zF (l:=lB) (some ⟨g,0,none⟩) 1 w q o1 eT (by decide) (fun w' _ hk=>Its.of_blk (T:=47) (hk _ (by decide) _ _ hb)) (fun t ht=>by
   simp only [lB,List.mem_cons,List.not_mem_nil,or_false] at ht;rcases ht with rfl;exact jJ _ _ (by decide) (by decide) _ _)
  rw [m5,m6] at hh;exact hh.mono fun e w' q=>⟨_,_,q⟩)
 have HTi:Hid (∀B L w,dE w B L ((lA0.run lA).x.run lB).x→Calls prog 24 #[↑(π L.D.b)] w fun e w'=>e=.returned (.int .u64 13073)∧Below ↑w w w'):=lh (fun B L w q=>by have hh:=kY w q.sn;rw [m7] at hh;exact hh);have HCo:Hid (∀B L w,dE w B L ((lA0.run lA).x.run lB).x→Calls prog 14 #[↑(π L.pb)] w fun e w'=>∃v1 v2 v3 v4 v5,e=.returned (.agg #[.int .u64 6000,v1,v2,v3,v4,v5])∧Below ↑w w w'):=lh (fun B L w q=>(lC w q o2.k (by decide)).mono fun e w' h=>by
  unfold LKS.countV at h;rw [m8] at h;exact ⟨_,_,_,_,_,h⟩)
 have HSe:=lh (fun B L w (q:dE w B L ((lA0.run lA).x.run lB).x)=>jW w q);have HLi:=lh (fun B L w (q:dE w B L ((lA0.run lA).x.run lB).x)=>m9 w q);have HI1:Hid (aH lA=#[↑ζ,.int .u64 6000,↑ζ,.slice none 0 0,.int .u64 73,↑ζ,↑ζ,.slice none 0 0,.int .u64 3000,↑ζ,↑ζ,.slice none 0 0]):=lh rfl;have HI2:Hid (aH lB=#[.int .u64 10000,↑ζ,↑ζ,.slice none 0 0]):=lh rfl;rw [HI1.out] at H1;rw [HI2.out] at H2;clear m1 m2 m3 m4 m5 m6 m7 m8 o0 o1 o2 hg HI1 HI2;generalize ((lA0.run lA).x.run lB).x=x2 at *;generalize (lA0.run lA).x=x1 at *;generalize hq:lA0=x0 at *;have eqr:=OF;go_enter func11,ntmps11;go_wp2_with fail;refine (HD.out).mono ?_;rintro e w0 ⟨rfl,hb⟩;have G0:=lh (HG.out.keep hb);have B0:=lh hb;clear hb HD HG;go_wp2_with fail;refine (HN.out _ G0.out).mono ?_;rintro e w1 ⟨L,rfl,hs,hb⟩;have hs:dE w1 w0.heap.size L lA0:=hs;rw [hq] at hs;have hs2:=aC w1 (.cells #[↑ζ,.int .u64 6000,↑ζ,.slice none 0 0,.int .u64 73,↑ζ,↑ζ,.slice none 0 0,.int .u64 3000,↑ζ,↑ζ,.slice none 0 0] 47);have I1:=lh (hs.keep hs2);have B1:=lh (aD (aD B0.out hb B0.out.size) hs2 (aD B0.out hb B0.out.size).size);have N1:=lh (Blk.new w1 47 #[↑ζ,.int .u64 6000,↑ζ,.slice none 0 0,.int .u64 73,↑ζ,↑ζ,.slice none 0 0,.int .u64 3000,↑ζ,↑ζ,.slice none 0 0]);have HZ:Hid (W.heap.size≤↑w0):=lh B0.out.size;clear hs hb hq HN G0 B0 hs2;go_wp2_with fail;refine (H1.out _ _ _ _ I1.out N1.out).mono ?_;rintro e w2 ⟨rfl,h2⟩;have b2:=B1.out.trans (h2.bel.mono HZ.out);have a2:=aC w2 (.cells #[.int .i64 0,.int .i64 4,.int .i64 4] 42);have r2:=Blk.new w2 42 #[.int .i64 0,.int .i64 4,.int .i64 4];have a3:=aC (w2.alloc (.cells #[.int .i64 0,.int .i64 4,.int .i64 4] 42)) (.cells #[.int .u64 10000,↑ζ,↑ζ,.slice none 0 0] 47);have I2:=lh ((h2.at_.keep a2).keep a3);have B2:=lh (aD (aD b2 a2 b2.size) a3 (aD b2 a2 b2.size).size);have R2:=lh (r2.keep a3);have N2:=lh (Blk.new1 w2 (.cells #[.int .i64 0,.int .i64 4,.int .i64 4] 42) 47 #[.int .u64 10000,↑ζ,↑ζ,.slice none 0 0]);clear h2 b2 a2 r2 a3 I1 B1 N1 H1;go_wp2_with fail;refine (H2.out _ _ _ _ I2.out N2.out).mono ?_;rintro e w3 ⟨s,k,rfl,h3⟩;have hn:w2.heap.size < (w2.alloc (.cells #[.int .i64 0,.int .i64 4,.int .i64 4] 42)).heap.size:=(Blk.new w2 42 #[.int .i64 0,.int .i64 4,.int .i64 4]).lt;have b3:=B2.out.trans (h3.bel.mono HZ.out);have R3:=h3.kt _ (by decide) _ _ R2.out;have a4:=aC w3 (.cells #[.int .i64 2,.int .i64 (s:Int),.int .i64 (k:Int)] 42);have I4:=lh (h3.at_.keep a4);have B4:=lh (aD b3 a4 b3.size);have R4:=R3.keep a4;have S4:=Blk.new w3 42 #[.int .i64 2,.int .i64 (s:Int),.int .i64 (k:Int)];have c0:=R4.cell (i:=0) (v:=.int .i64 0) rfl;have c1:=R4.cell (i:=1) (v:=.int .i64 4) rfl;have c2:=R4.cell (i:=2) (v:=.int .i64 4) rfl;have e0:=S4.cell (i:=0) (v:=.int .i64 2) rfl;clear h3 b3 R3 a4 R4 S4 hn I2 B2 R2 N2 H2;go_wp2_with fail;refine (HSe.out _ _ _ I4.out).mono ?_;rintro e w5 ⟨rfl,hb⟩;have I5:=lh (I4.out.keep hb);have B5:=lh (aD B4.out hb B4.out.size);clear hb I4 B4 HSe;go_wp2_with fail;refine (HTi.out _ _ _ I5.out).mono ?_;rintro e w6 ⟨rfl,hb⟩;have I6:=lh (I5.out.keep hb);have B6:=lh (aD B5.out hb B5.out.size);clear hb I5 B5 HTi;go_wp2_with fail;refine (HLi.out _ _ _ I6.out).mono ?_;rintro e w7 ⟨rfl,hb⟩;have I7:=lh (I6.out.keep hb);have B7:=lh (aD B6.out hb B6.out.size);clear hb I6 B6 HLi;go_wp2_with fail;refine (HCo.out _ _ _ I7.out).mono ?_;rintro e w8 ⟨v1,v2,v3,v4,v5,rfl,hb⟩;have B8:=lh (aD B7.out hb B7.out.size);clear hb I7 B7 HCo;have hfd:∀w,(Instr.field 37 (.agg #[.int .u64 6000,v1,v2,v3,v4,v5]) 0).run prog w=.ok (.int .u64 6000) w:=fun w=>by kernel_rfl
 go_wp2_with fail;go_ret;exact ⟨rfl,B8.out⟩
end

section
open Go.ChangeShapes Go.WideShapes Go.ChangeAt Go.RowKit
structure uX (w:World) (b o:Nat) (q:StV):Prop where
 k0:w.cell? ⟨b,o,none⟩=some ↑q.a
 k1:w.cell? ⟨b,o + 1,none⟩=some ↑q.w
 k2:w.cell? ⟨b,o + 2,none⟩=some ↑q.x
 k3:w.cell? ⟨b,o + 3,none⟩=some (.slice q.p q.cs.length q.c)
 b0:q.a≤↑ω
 b1:q.w≤↑ω
 b2:q.x≤↑ω
 s3:mN w q.p q.cs.length q.c q.cs
def iM (w:World) (v:Option Addr) (l:List StV) (b off:Nat):Prop:=
 l.length≤9223372036854775807∧(0 < l.length→v=some ⟨b,off,none⟩∧b < w.heap.size)∧∀i,i < l.length→uX w b (off + i * 4) (l.getD i default)
theorem uX.keep {w w':World} {b o:Nat} {q:StV} (h:uX w b o q) (hb:b < w.heap.size) (k:Below ↑w w w'):uX w' b o q:=
 ⟨(k.cell (p:=⟨b,_,none⟩) hb).trans h.k0,(k.cell (p:=⟨b,_,none⟩) hb).trans h.k1,(k.cell (p:=⟨b,_,none⟩) hb).trans h.k2,(k.cell (p:=⟨b,_,none⟩) hb).trans h.k3,h.b0,h.b1,h.b2,h.s3.keep k⟩
theorem iM.keep {w w':World} {v:Option Addr} {l:List StV} {b off:Nat} (h:iM w v l b off) (k:Below ↑w w w'):iM w' v l b off:=
 ⟨h.1,fun hp=>⟨(h.2.1 hp).1,Nat.lt_of_lt_of_le (h.2.1 hp).2 k.size⟩,fun i hi=>(h.2.2 i hi).keep (h.2.1 (by omega)).2 k⟩
theorem iM.its {v:Option Addr} {l:List StV} {b:Nat} (h:iM w v l b off):Its w v l:=by
 intro hp;obtain ⟨e,hb⟩:=h.2.1 hp;refine ⟨b,off,e,hb,fun i j hi hj=>?_⟩;have A:=h.2.2 i hi;have k4:Itm.k StV=4:=rfl;rw [k4] at hj ⊢;have e1:l.getD i Itm.z=l.getD i default:=rfl;rw [e1]
 match j,hj with
 | 0,_=>exact A.k0
 | 1,_=>exact A.k1
 | 2,_=>exact A.k2
 | 3,_=>exact A.k3
theorem uX.chs {b o:Nat} {q:StV} (h:uX w b o q) {B:Nat} (hB:↑w≤B):q.ok∧Chs w B q:=⟨⟨h.b0,h.b1,h.b2,h.s3.mx⟩,h.s3.nus,fun hp a e=>Nat.lt_of_lt_of_le (h.s3.lt hp a e) hB,h.s3.le,h.s3.big⟩
theorem iM.at_ {v:Option Addr} {l:List StV} {b:Nat} (h:iM w v l b off):∀t∈l,∃o,uX w b o t:=fun t ht=>by
 obtain ⟨i,hi,rfl⟩:=List.mem_iff_getElem.1 ht;have:=h.2.2 i hi;rw [List.getD_eq_getElem?_getD,List.getElem?_eq_getElem hi] at this;exact ⟨_,this⟩
theorem oN {H:Type} {enc:TypeId × Value→H} {fuel:Nat} {spare:Nat→Bool} {held:Bool} {v:Option Addr} {len:Nat} {x:DataW H × List MemPlace}
  (h:DataW.trod enc prog w 0 spare held fuel 27 [.slice v len cap]=some x):∃l b off,l.length=len∧iM w v l b off:=by
 rcases Go.Deep.open_slice underlying27 h with ⟨hcs,_⟩ | ⟨a,len',cap',m,n,D,Pl,hcs,_,hl,hm,hmm,_,hi⟩
 ·simp only [List.cons.injEq,Value.slice.injEq,and_true] at hcs
  obtain ⟨rfl,rfl,rfl⟩:=hcs;exact ⟨[],0,0,rfl,by simp,fun h=>absurd h (by simp),fun i hi=>absurd hi (by simp)⟩
 ·simp only [List.cons.injEq,Value.slice.injEq,and_true] at hcs
  obtain ⟨rfl,rfl,rfl⟩:=hcs;have hlm:len≤m:=by rw [hmm];split <;> omega
  have ce:prog.cellsOf 47=4:=by kernel_rfl
  have c1:prog.cellsOf 22=1:=by kernel_rfl
  have c2:prog.cellsOf 45=1:=by kernel_rfl
  unfold maxLen at hm;obtain ⟨b,off,spot⟩:=a;have hs0:0 < len→spot=none:=by
   intro hpos;obtain ⟨cs',h1,_⟩:=hi 0 (by omega);rw [ce] at h1;obtain ⟨_,hlen,hcell⟩:=World.cells?_some h1
   match cs',hlen with
   | [v0,v1,v2,v3],_=>
     have e0:=hcell 0 (by omega);rw [Go.Deep.add_add] at e0;simpa [Addr.add] using World.cell?_spot e0
  have each:∀i,i < len→∃q:StV,spot=none∧b < w.heap.size∧uX w b (off + i * 4) q:=by
   intro i hlt;obtain ⟨cs',h1,h2⟩:=hi i (by omega);rw [ce] at h1;obtain ⟨_,hlen,hcell⟩:=World.cells?_some h1;obtain ⟨xs,k,_,_,_,hxl,hf⟩:=DataW.trod_struct underlying47 h2
   match cs',hlen with
   | [v0,v1,v2,v3],_=>
     have g0:=hf 0 _ rfl;have g1:=hf 1 _ rfl;have g2:=hf 2 _ rfl;have g3:=hf 3 _ rfl;have hx0:xs[0]? =some (xs[0]'(by rw [hxl];decide)):=List.getElem?_eq_getElem _;have hx1:xs[1]? =some (xs[1]'(by rw [hxl];decide)):=List.getElem?_eq_getElem _;have hx2:xs[2]? =some (xs[2]'(by rw [hxl];decide)):=List.getElem?_eq_getElem _;have hx3:xs[3]? =some (xs[3]'(by rw [hxl];decide)):=List.getElem?_eq_getElem _;rw [hx0] at g0;rw [hx1] at g1;rw [hx2] at g2;rw [hx3] at g3;simp [c1,c2] at g0 g1 g2 g3
     obtain ⟨z0,hz0,_,hw0⟩:=DataW.trod_int underlying22 g0;obtain ⟨z1,hz1,_,hw1⟩:=DataW.trod_int underlying22 g1;obtain ⟨z2,hz2,_,hw2⟩:=DataW.trod_int underlying22 g2;obtain ⟨p3,n3,d3,l3,rfl,hl3⟩:=NX g3;simp only [List.cons.injEq,and_true] at hz0 hz1 hz2;subst hz0 hz1 hz2;have n3':=hl3.len;subst n3';have e0:=hcell 0 (by omega);have e1:=hcell 1 (by omega);have e2:=hcell 2 (by omega);have e3:=hcell 3 (by omega);rw [Go.Deep.add_add] at e0 e1 e2 e3;have hs:=hs0 (by omega);subst hs;rw [Go.WideShapes.add_plain] at e0 e1 e2 e3;obtain ⟨b0,b0'⟩:=bounds_u64 hw0;obtain ⟨b1,b1'⟩:=bounds_u64 hw1;obtain ⟨b2,b2'⟩:=bounds_u64 hw2;refine ⟨⟨z0.toNat,z1.toNat,z2.toNat,p3,d3,l3⟩,rfl,World.block_lt_of_cell? _ _ e0,⟨?_,?_,?_,?_,by dsimp;omega,by dsimp;omega,by dsimp;omega,hl3⟩⟩
     ·dsimp;rw [Int.toNat_of_nonneg b0];simpa using e0
     ·dsimp;rw [Int.toNat_of_nonneg b1];simpa [Nat.add_assoc] using e1
     ·dsimp;rw [Int.toNat_of_nonneg b2];simpa [Nat.add_assoc] using e2
     ·dsimp;simpa [Nat.add_assoc] using e3
  obtain ⟨q,hq⟩:=Go.Deep.choose_lt each;refine ⟨(List.range len).map q,b,off,by simp,by simp;omega,fun hpos=>?_,fun i hlt=>?_⟩
  ·have hpos':0 < len:=by simpa using hpos
   obtain ⟨rfl,hb,_⟩:=hq 0 hpos';exact ⟨rfl,hb⟩
  ·have hlt':i < len:=by simpa using hlt
   obtain ⟨_,_,h3⟩:=hq i hlt';have e:((List.range len).map q).getD i default=q i:=by simp [List.getD_eq_getElem?_getD,hlt']
   rw [e];exact h3
end

section
open Go.RowKit
def uY (t:StV):Bool:=decide (t.cs.length≤80)
def dL (l:List StV):Bool:=decide (l.length≤80) && l.all uY
theorem oO {l:List StV} (h:dL l=true):l.length≤80:=by
 unfold dL at h;simp only [Bool.and_eq_true,decide_eq_true_eq] at h;exact h.1
theorem oP (l:List StV) (v:Option Addr) (c b off:Nat) (W:World) (h:iM W v l b off):
  Calls prog 8 #[.slice v l.length c] W fun e w'=>e=.returned (.bool (dL l))∧w'=W:=by
 obtain ⟨h1,h2,h3⟩:=h;have H3:=lh h3;have H2:=lh h2;clear h3 h2;go_enter func8,ntmps8;go_wp2;go_loop [3] (fun i=>∃k:Nat,i=.int .i64 (k:Int)∧k≤l.length∧k≤81∧∀j,j < k→uY (l.getD j default)=true) (fun i=>81 - (intOf i).toNat)
 case atStart=>exact ⟨0,rfl,Nat.zero_le _,by omega,fun j hj=>absurd hj (by omega)⟩
 case round=>
  obtain ⟨k,rfl,hk,hk1,hall⟩:=hrel;have HA:=lh hall;clear hall;by_cases hlt:k < l.length
  ·by_cases hk2:k≤80
   ·obtain ⟨rfl,hb⟩:=H2.out (by omega)
    have A:=H3.out k hlt;have a3:=A.k3;have hr:=A.s3.le;have hr2:=A.s3.big;have i0:(0:Int)≤(k:Int):=by omega
    have i1:(k:Int) < (l.length:Int):=by omega
    have hd1:decide ((k:Int)≤80)=true:=by simp;omega
    clear A;by_cases hl:(l.getD k default).cs.length≤80
    ·have HL:=lh hl
     generalize hq:(l.getD k default).cs.length=n at *;have HQ:=lh hq;clear hq;have hd2:decide ((80:Int) < (n:Int))=false:=by simp;omega
     go_wp2;go_round
     case rel=>exact ⟨k + 1,by go_num,by omega,by omega,fun j hj=>by
      by_cases e:j=k
      ·subst e;unfold uY;rw [HQ.out];exact decide_eq_true hl
      ·exact HA.out j (by omega)⟩
     case measure=>simp [intOf];omega
    ·have HF:Hid (dL l=false):=lh (by
      unfold dL;rw [Bool.and_eq_false_iff];right
      rw [List.all_eq_false];refine ⟨l.getD k default,?_,by unfold uY;simpa using hl⟩;simp [List.getD_eq_getElem?_getD,hlt])
     generalize (l.getD k default).cs.length=n at *;have hd2:decide ((80:Int) < (n:Int))=true:=by simp;omega
     go_wp2;go_ret;exact ⟨by rw [HF.out];rfl,rfl⟩
   ·have hd1:decide ((k:Int)≤80)=false:=by simp;omega
    have hd2:decide ((l.length:Int)≤80)=false:=by simp;omega
    have HF:Hid (dL l=false):=lh (by
     unfold dL;rw [Bool.and_eq_false_iff];left
     simp;omega)
    go_wp2;go_ret;exact ⟨by rw [HF.out];rfl,rfl⟩
  ·obtain rfl:k=l.length:=by omega
   have HF:Hid (dL l=decide ((l.length:Int)≤80)):=lh (by
    unfold dL;have e:l.all uY=true:=by
     rw [List.all_eq_true];intro q hq;obtain ⟨i,hi,rfl⟩:=List.mem_iff_getElem.1 hq;have:=HA.out i hi;simp [List.getD_eq_getElem?_getD,hi] at this
     simpa using this
    rw [e,Bool.and_true];exact decide_eq_decide.2 (by omega))
   go_wp2;go_ret;exact ⟨by rw [HF.out];rfl,rfl⟩
end

section
open Go.RowKit Cf
structure JK (W:World) (c:Setup) (r d j b0:Nat) (w:World):Prop where
 b:Blk w W.heap.size 24 (aK c)
 p:Blk w (W.heap.size + 1) 26 #[↑r,↑d,↑j,↑b0]
 bel:Below ↑W W w
theorem kF {W:World} {c:Setup} {r d b0:Nat} (h:Hid (JK W c r d j b0 w)) (k:Below ↑w w w'):Hid (JK W c r d j b0 w'):=lh ⟨h.out.b.keep k,h.out.p.keep k,aD h.out.bel k h.out.bel.size⟩
theorem RU (W:World) (c:Setup) (r d j b0:Nat):JK W c r d j b0 ((W.alloc (.cells (aK c) 24)).alloc (.cells #[↑r,↑d,↑j,↑b0] 26)):=
 ⟨(Blk.new W _ _).alloc _,Blk.new1 W _ _ _,aD (aC _ _) (aC _ _) (aC W (.cells (aK c) 24)).size⟩
theorem iN {W:World} {c:Setup} {r d b0 i:Nat} (hv:(aK c)[i]? =some v):∀w,Hid (JK W c r d j b0 w)→w.cell? ⟨W.heap.size,i,none⟩=some v:=fun w q=>q.out.b.cell hv
theorem mR {W:World} {c:Setup} {r d b0 i:Nat} (hv:(#[↑r,↑d,↑j,↑b0]:Array Value)[i]? =some v):∀w,Hid (JK W c r d j b0 w)→w.cell? ⟨W.heap.size + 1,i,none⟩=some v:=fun w q=>q.out.p.cell hv
theorem OG (w:World):(Op.equalIn 10000 37 (.agg #[↑ζ,↑ζ,↑ζ,↑ζ,↑ζ,↑ζ]) (.agg #[↑ζ,↑ζ,↑ζ,↑ζ,↑ζ,↑ζ])).run prog w=.ok true w:=by kernel_rfl
theorem kG {r d b:Nat} (h:cQ r d j b=true):r≤↑ω∧d≤↑ω∧j≤↑ω∧b≤18446744073709551615:=by
 unfold cQ at h;simp only [Bool.and_eq_true,decide_eq_true_eq] at h;omega
theorem LN.run_one (x:LN) (t:StV):x.run [t]=⟨x.step t,x.err t,x.nd t,x.ns t,x.nk t⟩:=by
 by_cases e:x.err t=0
 ·rw [LN.run_yes e,e]
  show RN.mk (x.step t) 0 (x.nd t + 0) (x.ns t + 0) (x.nk t + 0)=_
  simp only [Nat.add_zero]
 ·exact LN.run_no e []
structure LqI (W:World) (B:Nat) (L:LD) (x:LN) (w:World):Prop where
 at_:dE w B L x
 bel:Below ↑W W w
 hB:↑W≤B
theorem LqI.to {W:World} {B:Nat} {L:LD} {x:LN} (h:LqI W B L x w) (k:Below ↑w w w'):LqI W B L x w':=⟨h.at_.keep k,aD h.bel k h.bel.size,h.hB⟩
theorem LqI.lp {W:World} {B:Nat} {L:LD} {x y:LN} (h:LqI W B L x w) (k:LpO w B L y w'):LqI W B L y w':=⟨k.at_,h.bel.trans (k.bel.mono h.hB),h.hB⟩
structure LqS (W:World) (B:Nat) (L:LD) (x:LN) (o1 o2:Option Nat) (cs rs:Array Value) (w:World):Prop where
 q:LqI W B L x w
 s1:∀n,o1=some n→Blk w n 47 cs
 s2:∀n,o2=some n→B≤n∧Blk w n 42 rs
theorem LqS.to {W w w':World} {B:Nat} {L:LD} {x:LN} {o1 o2:Option Nat} {cs rs:Array Value} (h:LqS W B L x o1 o2 cs rs w) (k:Below ↑w w w'):LqS W B L x o1 o2 cs rs w':=⟨h.q.to k,fun n e=>(h.s1 n e).keep k,fun n e=>⟨(h.s2 n e).1,(h.s2 n e).2.keep k⟩⟩
theorem LqS.slice {W:World} {B:Nat} {L:LD} {x:LN} (h:LqS W B L x none o2 cs rs w):LqS W B L x (some w.heap.size) o2 cs rs (w.alloc (.cells cs 47)):=by
 have k:=h.to (aC w (.cells cs 47));exact ⟨k.q,fun n e=>by cases e;exact Blk.new w _ _,k.s2⟩
theorem LqS.rep {W:World} {B:Nat} {L:LD} {x:LN} (h:LqS W B L x o1 none cs rs w):LqS W B L x o1 (some w.heap.size) cs rs (w.alloc (.cells rs 42)):=by
 have k:=h.to (aC w (.cells rs 42));exact ⟨k.q,k.s1,fun n e=>by cases e;exact ⟨h.q.at_.size,Blk.new w _ _⟩⟩
theorem LqS.set {W w:World} {B n:Nat} {L:LD} {x:LN} {o1:Option Nat} {cs rs:Array Value} (h:LqS W B L x o1 (some n) cs rs w) (i:Nat) (u:Value):LqS W B L x o1 (some n) cs (rs.setIfInBounds i u) (w.setCell ⟨n,i,none⟩ u):=by
 obtain ⟨hB,hb⟩:=h.s2 n rfl;obtain ⟨b,k⟩:=uW hb hB i u;obtain ⟨p,hp⟩:=h.q.at_;exact ⟨⟨⟨p,hp.kn k (by decide) b⟩,h.q.bel.trans (b.mono h.q.hB),h.q.hB⟩,fun m e=>k _ (by decide) _ _ (h.s1 m e),fun m e=>by cases e;exact ⟨hB,hb.set i u⟩⟩
def LqX (W:World) (B:Nat) (L:LD) (w:World):Prop:=∃x,LqI W B L x w
theorem eF {W:World} {B:Nat} {L:LD} {x:LN} (h:Hid (LqS W B L x o1 o2 cs rs w)):Hid (LqX W B L w):=lh ⟨x,h.out.q⟩
theorem JL {W:World} {B:Nat} {L:LD} {a:Addr} (hv:W.cell? a=some v) (ha:a.block < W.heap.size):∀w,Hid (LqX W B L w)→w.cell? a=some v:=fun w q=>by
 obtain ⟨x,h⟩:=q.out;exact (h.bel.cell ha).trans hv
theorem JM {W:World} {B n i d:Nat} {L:LD} {x:LN} {t:StV} {c:Setup} (ho:x.ok c i d) (hr:rightC c=true) (hi:i < 80) (ht:t.ok) (hc:Chs W W.heap.size t) (w:World) (h:LqS W B L x (some n) o2 t.cells rs w):
  Calls prog 15 #[↑(π L.b),.slice (some ⟨n,0,none⟩) 1 1] w fun e w'=>e=.returned (.tuple #[.agg (bL (x.nd t) (x.ns t) (x.nk t)),.int .i64 (x.err t)])∧Hid (LqS W B L (x.step t) (some n) o2 t.cells rs w'):=by
 have hcs:Chs w B t:=by
  have h1:=hc.bel h.q.bel;exact ⟨h1.n,fun hp a e=>Nat.lt_of_lt_of_le (h1.b hp a e) h.q.hB,h1.len,h1.big⟩
 have q:=zF (l:=[t]) (some ⟨n,0,none⟩) 1 w h.q.at_ ho hr (by show i + 1≤80;omega) (fun w' _ hk=>Its.of_blk (T:=47) (hk _ (by decide) _ _ (h.s1 n rfl))) (fun t' ht'=>by rw [List.mem_singleton.1 ht'];exact ⟨ht,hcs⟩);rw [LN.run_one] at q;exact q.mono fun e w' z=>⟨z.1,lh ⟨h.q.lp z.2,fun m e=>z.2.kt _ (by decide) _ _ (h.s1 m e),fun m e=>⟨(h.s2 m e).1,z.2.kt _ (by decide) _ _ (h.s2 m e).2⟩⟩⟩
end
end Go.Proofs.YtjhiooggnpbecaaGreatDoor
