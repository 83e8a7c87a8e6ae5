/- Lemmas. -/
import Derived.Test.YtjhiooggnpbecaaGreatDoorK342
import Derived.Test.YtjhiooggnpbecaaGreatDoorK346
import Derived.Test.YtjhiooggnpbecaaGreatDoorK347
set_option linter.unusedVariables false
set_option maxHeartbeats 8000000
set_option maxRecDepth 100000
namespace Go.Proofs.YtjhiooggnpbecaaGreatDoor
open Tryz
variable {cs:Array Value} {cap:Nat} {ao:Option Addr} {v:Value} {w w':World}
section
open Go.RowKit Cf
def rE:List TypeId:=[91,217,150,296,73,228,299,226]
def rF:List TypeId:=rE ++ fC
theorem dK.kn {L:List TypeId} {p:LP} {s:LKS} (h:dK w p s) (n:KN L w w') (hL:∀T∈rE,T ∉ L):dK w' p s:=by
 obtain ⟨q,q1,q2,q3⟩:=h.q.row;obtain ⟨j,j1,j2,j3⟩:=h.j.row;exact ⟨n _ (hL _ (by decide)) _ _ h.head,n _ (hL _ (by decide)) _ _ h.k,⟨n _ (hL _ (by decide)) _ _ h.q.head,q,q1,q2,⟨n _ (hL _ (by decide)) _ _ q3.head,n _ (hL _ (by decide)) _ _ q3.body⟩⟩,⟨n _ (hL _ (by decide)) _ _ h.j.head,j,j1,j2,⟨n _ (hL _ (by decide)) _ _ j3.head,n _ (hL _ (by decide)) _ _ j3.body⟩⟩⟩
theorem KV {p:LP} {s:LKS} (hh:dK w p s) (k:Fr w w' p.l):KN rE w w':=fun T hT g cs hb=>hb.fr k (fun hx=>by
 have a1:=hh.head;have a2:=hh.k;have a3:=hh.q.head;obtain ⟨_,a4⟩:=hh.q.row.head;obtain ⟨_,a5⟩:=hh.q.row.body;have a6:=hh.j.head;obtain ⟨_,a7⟩:=hh.j.row.head;obtain ⟨_,a8⟩:=hh.j.row.body;unfold rE at hT;simp only [List.mem_cons,List.not_mem_nil,or_false,not_or] at hT;obtain ⟨t1,t2,t3,t4,t5,t6,t7,t8⟩:=hT;simp only [LP.l,List.mem_cons,List.not_mem_nil,or_false] at hx;rcases hx with c | c | c | c | c | c | c | c
 ·exact hb.ty a1 t1 c
 ·exact hb.ty a2 t2 c
 ·exact hb.ty a3 t3 c
 ·exact hb.ty a4 t4 c
 ·exact hb.ty a5 t5 c
 ·exact hb.ty a6 t6 c
 ·exact hb.ty a7 t7 c
 ·exact hb.ty a8 t8 c)
structure LD where
 b:Nat
 D:SD
 pb:Nat
structure LpP (w:World) (B:Nat) (L:LD) (p:LP) (x:LN):Prop where
 h:Blk w L.b 83 #[↑(π L.D.b),↑(π L.pb)]
 s:aH w B L.D x.s
 pb:p.b=L.pb
 k:dK w p x.k
 lo:B≤L.b
 pl:∀y∈p.l,B≤y
def fA (w:World) (B:Nat) (L:LD) (x:LN):Prop:=∃p,LpP w B L p x
theorem LpP.keep {w w':World} {B:Nat} {L:LD} {p:LP} {x:LN} (h:LpP w B L p x) (k:Below ↑w w w'):LpP w' B L p x:=⟨h.h.keep k,h.s.keep k,h.pb,h.k.keep k,h.lo,h.pl⟩
theorem fA.keep {w w':World} {B:Nat} {L:LD} {x:LN} (h:fA w B L x) (k:Below ↑w w w'):fA w' B L x:=by
 obtain ⟨p,h⟩:=h;exact ⟨p,h.keep k⟩
theorem fA.sn {B:Nat} {L:LD} {x:LN} (h:fA w B L x):aH w B L.D x.s:=by obtain ⟨p,h⟩:=h;exact h.s
theorem fA.hd {B:Nat} {L:LD} {x:LN} (h:fA w B L x):Blk w L.b 83 #[↑(π L.D.b),↑(π L.pb)]:=by obtain ⟨p,h⟩:=h;exact h.h
theorem fA.size {w:World} {B:Nat} {L:LD} {x:LN} (h:fA w B L x):B≤w.heap.size:=h.sn.size
structure LpO (W:World) (B:Nat) (L:LD) (x:LN) (w:World):Prop where
 at_:fA w B L x
 bel:Below B W w
 kt:KN rF W w
theorem LpO.start {W:World} {B:Nat} {L:LD} {x:LN} (h:fA W B L x):LpO W B L x W:=⟨h,Below.refl _ _,KN.refl _ _⟩
theorem LpO.to {W:World} {B:Nat} {L:LD} {x:LN} (h:LpO W B L x w) (k:Below ↑w w w'):LpO W B L x w':=⟨h.at_.keep k,aD h.bel k h.at_.size,h.kt.trans (KN.below _ k)⟩
theorem LpO.step {W w w':World} {B:Nat} {L:LD} {x y:LN} (h:LpO W B L x w) (k:LpO w B L y w'):LpO W B L y w':=⟨k.at_,h.bel.trans k.bel,h.kt.trans k.kt⟩
theorem LpP.snd {B:Nat} {L:LD} {p:LP} {x:LN} {s':SN} (h:LpP w B L p x) (k:bZ w B L.D s' w'):LpP w' B L p ⟨s',x.k⟩∧LpO w B L ⟨s',x.k⟩ w':=by
 have q:LpP w' B L p ⟨s',x.k⟩:=⟨k.kt _ (by decide) _ _ h.h,k.at_,h.pb,h.k.kn k.kt (by decide),h.lo,h.pl⟩;exact ⟨q,⟨p,q⟩,k.bel,k.kt.mono (by decide)⟩
theorem fA.snd {w w':World} {B:Nat} {L:LD} {x:LN} {s':SN} (h:fA w B L x) (k:bZ w B L.D s' w'):LpO w B L ⟨s',x.k⟩ w':=by
 obtain ⟨p,h⟩:=h;exact (h.snd k).2
theorem LpP.lnk {B:Nat} {L:LD} {p:LP} {x:LN} {k':LKS} (h:LpP w B L p x) (k:LI w p k' w'):LpO w B L ⟨x.s,k'⟩ w':=by
 have sz:=h.s.size;have n:=KV h.k k.fr;have b:Below B w w':=mC (Below.refl _ _) k.fr sz h.pl;obtain ⟨g,i,h1,h2,h3⟩:=k.at_;refine ⟨⟨p.at_ g i,n _ (by decide) _ _ h.h,h.s.kn n (by decide) b,h.pb,h1,h.lo,fun y hy=>?_⟩,b,n.mono (by decide)⟩;have e:=h.pl;simp only [LP.l,LP.at_,List.mem_cons,List.not_mem_nil,or_false] at hy e;rcases hy with c | c | c | c | c | c | c | c
 ·exact e _ (.inl c)
 ·exact e _ (.inr (.inl c))
 ·exact e _ (.inr (.inr (.inl c)))
 ·exact e _ (.inr (.inr (.inr (.inl c))))
 ·rcases h2 with d | d
  ·exact e _ (.inr (.inr (.inr (.inr (.inl (c.trans d))))))
  ·omega
 ·exact e _ (.inr (.inr (.inr (.inr (.inr (.inl c))))))
 ·exact e _ (.inr (.inr (.inr (.inr (.inr (.inr (.inl c)))))))
 ·rcases h3 with d | d
  ·exact e _ (.inr (.inr (.inr (.inr (.inr (.inr (.inr (c.trans d))))))))
  ·omega
theorem KW {B:Nat} {L:LD} {x:LN} (w:World) (h:fA w B L x):
  Calls prog 33 #[↑(π L.pb)] w fun e w'=>e=.returned ↑x.k.t∧w=w':=by
 obtain ⟨p,h⟩:=h;rw [← h.pb];exact JI p x.k w h.k
structure Chs (w:World) (B:Nat) (t:StV):Prop where
 n:Nus w t.p t.cs
 b:0 < t.cs.length→∀a,t.p=some a→a.block < B
 len:t.cs.length≤t.c
 big:t.c≤9223372036854775807
theorem Chs.bel {B:Nat} {t:StV} (h:Chs w B t) (k:Below B w w'):Chs w' B t:=by
 refine ⟨fun hp=>?_,h.b,h.len,h.big⟩;obtain ⟨b,off,e,hb,hc⟩:=h.n hp;have hB:=h.b hp _ e;refine ⟨b,off,e,Nat.lt_of_lt_of_le hb k.size,fun i hi=>?_⟩;exact (k.cell (p:=⟨b,off + i,none⟩) hB).trans (hc i hi)
theorem KX {B:Nat} {L:LD} {x:LN} {t:StV} (now:Nat) (w:World) (h:fA w B L x) (ho:x.k.ok 5500) (hn:x.k.t≤now) (hm:now≤↑ω) (ht:t.ok) (hc:Chs w B t):
  Calls prog 32 #[↑(π L.pb),↑now,↑t.x,.slice t.p t.cs.length t.c] w fun e w'=>∃v,e=.returned (.tuple #[v,.int .i64 0])∧bO 73 w.heap.size w' v (x.k.tickOut now t.x t.cs)∧LpO w B L ⟨x.s,x.k.tick now t.x t.cs⟩ w':=by
 obtain ⟨p,h⟩:=h;rw [← h.pb];have sz:=h.s.size;refine (KU p x.k now t.x t.cs t.p t.c w h.k ho hn hm ht.x ⟨hc.n,fun hp a e hx=>?_,fun hp a e=>?_,ht.cs,hc.len,hc.big⟩).mono fun e w' q=>?_
 ·have:=hc.b hp a e
  have:=h.pl _ hx;omega
 ·have:=hc.b hp a e
  omega
 ·obtain ⟨v,e1,e2⟩:=q.e
  exact ⟨v,e1,e2,h.lnk q.li⟩
theorem KY {B:Nat} {L:LD} {p:LP} {x:LN} {N:Nat} {l:List Pk} (w:World) (h:LpP w B L p x) (ho:x.k.ok N) (hi:Its w ao l) (ha:0 < l.length→fV ao p.l) (hz:∀y∈l,y.size≤↑ω) (hN:N + l.length≤5500):
  Calls prog 83 #[↑(π L.pb),.slice ao l.length cap] w fun e w'=>e=.returned (.int .i64 (x.k.kept l:Int))∧LpO w B L ⟨x.s,x.k.sends l⟩ w':=by
 rw [← h.pb];exact (JK p x.k N l ao cap w h.k ho hi ha hz hN).mono fun e w' q=>⟨q.e,h.lnk q.li⟩
theorem AM {B:Nat} {L:LD} {x:LN} (W:World) (h:fA W B L x):Calls prog 16 #[↑(π L.b)] W fun e w'=>e=.returned ↑(π L.D.b)∧Below ↑W W w':=by
 have a0:=h.hd.cell (i:=0) (v:=↑(π L.D.b)) rfl;clear h;go_enter func16,ntmps16;go_wp2;go_ret;exact ⟨rfl,Below.refl _ _⟩

theorem AN {l:List Pk} {k:Nat} (h:k < l.length) {x:Pk} (hx:x=l.getD k Itm.z):gY (l.take (k + 1))=gY (l.take k) ++ [⟨x.n,x.n⟩]:=by
 unfold gY;rw [List.take_add_one,List.getElem?_eq_getElem h,List.map_append,hx,List.getD_eq_getElem?_getD,List.getElem?_eq_getElem h];rfl
theorem AO:(prog.info? 190).map (fun i=>(i.zero,i.size,i.bytes))=some (some (.agg #[↑ζ,↑ζ]),2,16):=by kernel_rfl
theorem tL (l:List Pk) (ao:Option Addr) (cap:Nat) (W:World) (h:Its W ao l) (hl:l.length≤5500):
  Calls prog 82 #[.slice ao l.length cap] W fun e w'=>∃v,e=.returned v∧bO 190 W.heap.size w' v (gY l)∧Below ↑W W w':=by
 obtain ⟨i0,hi0,hz0,hz1,hz2⟩:=info_parts AO;have HI:=lh hi0;have HZ0:=lh hz0;have HZ1:=lh hz1;have HZ2:=lh hz2;have HN:=lh h;clear hi0 hz0 hz1 hz2 h;go_enter func82,ntmps82;go_wp2_with (first | (at_make;refine wpList_make_own _ rfl _ _ 62 rfl W.heap.size 190 _ (.agg #[↑ζ,↑ζ]) 2 underlying62 HI.out HZ0.out HZ1.out _ _ _ l.length rfl rfl rfl (by rw [HZ2.out];omega) (by unfold maxLen;omega) (Nat.le_refl _) ?_;intro w1 hown hgr;have HW1:=lh hown;have HG1:=lh hgr;clear hown hgr) | fail)
 have S1:Hid (bO 190 W.heap.size w1 (.slice (some ⟨W.heap.size,0,none⟩) 0 l.length) (gY (l.take 0))):=lh HW1.out;have B1:Hid (Below ↑W W w1):=lh ((Below.refl _ _).grown HG1.out (Nat.le_refl _) (fun k e=>by cases e));clear HW1 HG1;go_loopw [3,11] (fun v i wr=>∃k:Nat,i=.int .i64 (k:Int)∧k≤l.length∧Hid (bO 190 W.heap.size wr v (gY (l.take k)))∧Hid (Below ↑W W wr)) (fun _ i _=>l.length - (intOf i).toNat)
 case atStart=>exact ⟨0,rfl,Nat.zero_le _,S1,B1⟩
 case round=>
  obtain ⟨k,rfl,hk,HO,HBe⟩:=hrel;by_cases hlt:k < l.length
  ·obtain ⟨ad,rfl,_⟩:=HN.out.cells (by omega)
   obtain ⟨g,off,rfl,_,hc⟩:=tZ (HN.out.keep HBe.out) (by omega);obtain ⟨x,hx⟩:∃x,x=l.getD k Itm.z:=⟨_,rfl⟩;obtain ⟨a0,a1,a2,a3,a4,a5,a6⟩:=hc k hlt x hx;have HLn:Hid ((gY (l.take k)).length=k):=lh (by rw [tD,List.length_take];omega);have HT:=lh (AN hlt hx);have HOne:=lh (Itm.one (⟨x.n,x.n⟩:Rn));have j0:(0:Int)≤(k:Int):=by omega
   have j1:(k:Int) < (l.length:Int):=by omega
   clear hc hx S1 B1;generalize gY (l.take k)=pre at *;obtain ⟨ap,cp,hv,hp1,hp2,_,_⟩:=HO.out.form;subst hv;have HO2:=lh (HO.out.keep (aC wr (.cells #[↑x.n,↑x.size,↑x.sent,↑x.first,↑x.deliv,↑x.at_,.bool x.lim] 73)));have HB2:=lh (aD HBe.out (aC wr (.cells #[↑x.n,↑x.size,↑x.sent,↑x.first,↑x.deliv,↑x.at_,.bool x.lim] 73)) HBe.out.size);have P2:=lh (Blk.new wr 73 #[↑x.n,↑x.size,↑x.sent,↑x.first,↑x.deliv,↑x.at_,.bool x.lim]);clear HO HBe;go_upto_region 5 with fail
   generalize wr.alloc (.cells #[↑x.n,↑x.size,↑x.sent,↑x.first,↑x.deliv,↑x.at_,.bool x.lim] 73)=w2 at *;clear a0 a1 a2 a3 a4 a5 a6;have a0:=P2.out.cell (i:=0) (v:=↑x.n) rfl;have HO3:=lh (HO2.out.keep (aC w2 (.cells #[↑x.n,↑x.n] 190)));have HNw:=lh (World.news_of_block (Blk.new w2 190 #[↑x.n,↑x.n]));have hsz:W.heap.size≤(w2.alloc (.cells #[↑x.n,↑x.n] 190)).heap.size:=by have:=HB2.out.size;simp;omega
   have hpl:pre.length≤5500:=by rw [HLn.out];omega
   go_wp2_with (at_builtin;refine wpList_append_own_at _ rfl (.tmp 15) (.tmp 21) 62 rfl W.heap.size 190 _ (.agg #[↑ζ,↑ζ]) 2 16 underlying62 HI.out HZ0.out HZ1.out HZ2.out rfl (by decide) (.slice ap pre.length cp) pre.length (pre.flatMap Itm.cs) rfl HO3.out ⟨w2.heap.size,0,none⟩ 1 1 (Itm.cs (⟨x.n,x.n⟩:Rn)) rfl rfl HNw.out HOne.out (by unfold maxLen;omega) (by omega) hsz ?_;intro v' w5 hown hgr hnil hat;have HW5:=lh hown;have HG:=lh hgr;clear hown hgr hnil hat)
   have HS:Hid (bO 190 W.heap.size w5 v' (pre ++ [⟨x.n,x.n⟩])):=lh (bO.snoc HW5.out);have HB5:=lh (GY HB2.out HB2.out.size HO2.out (.cells #[↑x.n,↑x.n] 190) HG.out);clear HW5 HG HO2 HO3 HNw HB2;go_wp2_with fail;go_roundw
   case rel=>exact ⟨k + 1,by go_num,by omega,by rw [HT.out];exact HS,HB5⟩
   case measure=>simp [intOf];omega
  ·obtain rfl:k=l.length:=by omega
   rw [List.take_length] at HO;go_wp2_with fail;go_ret;exact ⟨_,rfl,HO.out,HBe.out⟩

def KR (rb:Nat) (w w':World):Prop:=∀T,T ∉ rF→∀b cs,b≠rb→Blk w b T cs→Blk w' b T cs
theorem KR.trans {rb:Nat} {a b c:World} (h:KR rb a b) (k:KR rb b c):KR rb a c:=fun T hT x cs hx q=>k T hT x cs hx (h T hT x cs hx q)
theorem KN.kr (h:KN rF w w') (rb:Nat):KR rb w w':=fun T hT b cs _ q=>h T hT b cs q
def dD (a b c:Nat):Array Value:=#[.int .i64 (a:Int),.int .i64 (b:Int),.int .i64 (c:Int)]
theorem LpP.kn {Y:List TypeId} {w w':World} {B:Nat} {L:LD} {p:LP} {x:LN} (h:LpP w B L p x) (n:KN Y w w') (hY:∀T∈83 :: rF,T ∉ Y) (b:Below B w w'):LpP w' B L p x:=
 ⟨n _ (hY _ (by decide)) _ _ h.h,h.s.kn n (fun T hT=>hY T (by unfold rF;simp [hT])) b,h.pb,h.k.kn n (fun T hT=>hY T (by unfold rF;simp [hT])),h.lo,h.pl⟩
structure LdI (W:World) (B:Nat) (L:LD) (t:StV) (rb r0 r1 r2:Nat) (x:LN) (w:World):Prop where
 at_:fA w B L x
 bel:Below B W w
 kt:KR rb W w
 z:Blk w W.heap.size 47 t.cells
 r:Blk w rb 42 (dD r0 r1 r2)
theorem LdI.to {W:World} {B:Nat} {L:LD} {t:StV} {rb r0 r1 r2:Nat} {x:LN} (h:LdI W B L t rb r0 r1 r2 x w) (k:Below ↑w w w'):LdI W B L t rb r0 r1 r2 x w':=⟨h.at_.keep k,aD h.bel k h.at_.size,h.kt.trans ((KN.below _ k).kr _),h.z.keep k,h.r.keep k⟩
theorem LdI.lp {W:World} {B:Nat} {L:LD} {t:StV} {rb r0 r1 r2:Nat} {x y:LN} (h:LdI W B L t rb r0 r1 r2 x w) (k:LpO w B L y w'):LdI W B L t rb r0 r1 r2 y w':=⟨k.at_,h.bel.trans k.bel,h.kt.trans (k.kt.kr _),k.kt _ (by decide) _ _ h.z,k.kt _ (by decide) _ _ h.r⟩
theorem xN {rb:Nat} {B:Nat} (h:Blk w rb 42 cs) (hB:B≤rb) (j:Nat) (u:Value):Below B w (w.setCell ⟨rb,j,none⟩ u)∧KN [42] w (w.setCell ⟨rb,j,none⟩ u):=⟨(Below.refl _ _).setCell (p:=⟨rb,j,none⟩) hB _,KN.set h j u⟩
theorem LdI.rep {W:World} {B:Nat} {L:LD} {t:StV} {rb r0 r1 r2:Nat} {x:LN} (h:LdI W B L t rb r0 r1 r2 x w) (hB:B≤rb) (j:Nat) (u:Value) {s0 s1 s2:Nat} (he:(dD r0 r1 r2).setIfInBounds j u=dD s0 s1 s2):LdI W B L t rb s0 s1 s2 x (w.setCell ⟨rb,j,none⟩ u):=by
 obtain ⟨b,n⟩:=xN h.r hB j u;obtain ⟨p,hp⟩:=h.at_;exact ⟨⟨p,hp.kn n (by decide) b⟩,h.bel.trans b,h.kt.trans (fun T hT x cs hx q=>q.set_other j u hx),n _ (by decide) _ _ h.z,he▸h.r.set j u⟩
def LdX (W:World) (B:Nat) (L:LD) (t:StV) (rb:Nat) (w:World):Prop:=∃r0 r1 r2 x,LdI W B L t rb r0 r1 r2 x w
theorem cT {W:World} {B:Nat} {L:LD} {t:StV} {rb r0 r1 r2:Nat} {x:LN} (h:Hid (LdI W B L t rb r0 r1 r2 x w)):Hid (LdX W B L t rb w):=lh ⟨r0,r1,r2,x,h.out⟩
theorem PT {W:World} {B:Nat} {L:LD} {t:StV} {rb i:Nat} (hv:(#[↑(π L.D.b),↑(π L.pb)]:Array Value)[i]? =some v):∀w,Hid (LdX W B L t rb w)→w.cell? ⟨L.b,i,none⟩=some v:=fun w q=>by
 obtain ⟨r0,r1,r2,x,h⟩:=q.out;exact h.at_.hd.cell hv
theorem KZ {W:World} {B:Nat} {L:LD} {t:StV} {rb i:Nat} (hv:t.cells[i]? =some v):∀w,Hid (LdX W B L t rb w)→w.cell? ⟨W.heap.size,i,none⟩=some v:=fun w q=>by
 obtain ⟨r0,r1,r2,x,h⟩:=q.out;exact h.z.cell hv
def LdY (W:World) (B:Nat) (L:LD) (t:StV) (rb r0 r1 r2:Nat) (w:World):Prop:=∃x,LdI W B L t rb r0 r1 r2 x w
theorem pB {W:World} {B:Nat} {L:LD} {t:StV} {rb r0 r1 r2:Nat} {x:LN} (h:Hid (LdI W B L t rb r0 r1 r2 x w)):Hid (LdY W B L t rb r0 r1 r2 w):=lh ⟨x,h.out⟩
theorem LdY.r2 {W w:World} {B:Nat} {L:LD} {t:StV} {rb r0 r1 r2:Nat} (h:LdY W B L t rb r0 r1 r2 w):w.cell? ⟨rb,2,none⟩=some (.int .i64 (r2:Int)):=by obtain ⟨x,h⟩:=h;exact h.r.cell rfl
structure LdQ (W:World) (B:Nat) (L:LD) (t:StV) (rb r0 r1 r2:Nat) (x:LN) (v:Value) (l:List Pk) (w:World):Prop where
 i:LdI W B L t rb r0 r1 r2 x w
 q:∃p n,LpP w B L p x∧(∀y∈p.l,y < n)∧dL n w v l
theorem LdQ.to {W w w':World} {B:Nat} {L:LD} {t:StV} {rb r0 r1 r2:Nat} {x:LN} {v:Value} {l:List Pk} (h:LdQ W B L t rb r0 r1 r2 x v l w) (k:Below ↑w w w'):LdQ W B L t rb r0 r1 r2 x v l w':=by
 obtain ⟨p,n,h1,h2,h3⟩:=h.q;exact ⟨h.i.to k,p,n,h1.keep k,h2,h3.keep k⟩
theorem LdQ.rep {W w:World} {B:Nat} {L:LD} {t:StV} {rb r0 r1 r2:Nat} {x:LN} {v:Value} {l:List Pk} (h:LdQ W B L t rb r0 r1 r2 x v l w) (hB:B≤rb) (j:Nat) (u:Value) {s0 s1 s2:Nat} (he:(dD r0 r1 r2).setIfInBounds j u=dD s0 s1 s2):LdQ W B L t rb s0 s1 s2 x v l (w.setCell ⟨rb,j,none⟩ u):=by
 obtain ⟨p,n,h1,h2,h3⟩:=h.q;obtain ⟨b,k⟩:=xN h.i.r hB j u;refine ⟨h.i.rep hB j u he,p,n,h1.kn k (by decide) b,h2,h3.1,?_⟩;rcases h3.2 with c | ⟨g,cap,cur,e,q1,hb,q2⟩
 ·exact .inl c
 ·exact .inr ⟨g,cap,cur,e,q1,k _ (by decide) _ _ hb,q2⟩
theorem bO.its {α:Type} [Itm α] {T:TypeId} {B:Nat} {n c:Nat} {l:List α} (h:bO T B w (.slice ao n c) l):Its w ao l∧n=l.length:=by
 obtain ⟨ao',c',e,_,_,hi,_⟩:=h.form;injection e with e1 e2 e3
 exact ⟨e1▸hi,e2⟩
theorem dL.sown {n:Nat} {l:List Pk} (h:dL n w v l):bO 73 n w v l:=h
section
variable {W:World} {B:Nat} {L:LD} {t:StV} {rb r0 r1 r2:Nat} {x:LN} {c:Setup} {i d:Nat}
theorem GJ (ho:x.ok c i d) (ht:t.ok) (w:World) (h:LdI W B L t rb r0 r1 r2 x w):
  Calls prog 29 #[↑(π L.D.b),↑t.w] w fun e w'=>e=.returned (.int .i64 (x.s.writeE t.w))∧Hid (LdI W B L t rb r0 r1 r2 ⟨x.s1 t,x.k⟩ w'):=
 (tE t.w w h.at_.sn ho.s ht.w).mono fun e w' q=>⟨q.e,lh (h.lp (h.at_.snd q.i))⟩
theorem K7 {s:SN} (w:World) (h:LdI W B L t rb r0 r1 r2 ⟨s,x.k⟩ w):
  Calls prog 33 #[↑(π L.pb)] w fun e w'=>e=.returned ↑x.k.t∧Below ↑w w w':=
 (KW w h.at_).mono fun e w' q=>⟨q.1,q.2▸Below.refl _ _⟩
theorem GK (ho:x.ok c i d) (hi:i < 80) (ht:t.ok) (hc:Chs W B t) (w:World) (h:LdI W B L t rb r0 r1 r2 ⟨x.s1 t,x.k⟩ w):
  Calls prog 32 #[↑(π L.pb),↑(x.now t),↑t.x,.slice t.p t.cs.length t.c] w fun e w'=>∃ao cap,e=.returned (.tuple #[.slice ao (x.out t).length cap,.int .i64 0])∧Hid (bO 73 w.heap.size w' (.slice ao (x.out t).length cap) (x.out t))∧Hid (LdI W B L t rb r0 r1 r2 ⟨x.s1 t,x.k1 t⟩ w'):=
 (KX (x.now t) w h.at_ (ho.k.more (by omega)) (LN.now_ge ho.k t) (x.now_le t) ht (hc.bel h.bel)).mono fun e w' q=>by
  obtain ⟨v,e1,e2,e3⟩:=q;obtain ⟨ao,cap,hv,_⟩:=e2.form;rw [hv] at e1 e2;exact ⟨ao,cap,e1,lh e2,lh (h.lp e3)⟩
theorem OI (ho:x.ok c i d) (hr:rightC c=true) (hi:i < 80) (hn:x.out t≠[]) (w:World) (h:LdI W B L t rb r0 r1 r2 ⟨x.s1 t,x.k1 t⟩ w) {n:Nat} (hv:bO 190 n w v (gY (x.out t))):
  Calls prog 30 #[↑(π L.D.b),↑(x.now t),v] w fun e w'=>e=.returned (.int .i64 (x.ae t))∧Hid (LdI W B L t rb r0 r1 r2 ⟨x.s2 t,x.k1 t⟩ w'):=by
 have hlt:=LN.out_lt ho hi t;have hl:=LN.out_len ho t;obtain ⟨ap,cp,rfl,_⟩:=hv.form;have h1:=SN.write_ok ho.s t.w;have q:=F9 (x.now t) ap cp (gY (x.out t)) w h.at_.sn h1 hr (by omega) (by omega) (fun w' hb hk=>(hv.blk (fun g cs _ z=>hk _ (by decide) _ _ z)).its.1) (by rw [tD];omega) (FP hlt);rw [KF hlt] at q;have e1:x.ae t=(x.s1 t).ackE (x.now t) true:=by unfold LN.ae;rw [if_neg hn]
 have e2:x.s2 t=(x.s1 t).ackS (x.now t) true fun p=>b7 (gY (x.out t)) p.n:=by unfold LN.s2;rw [if_neg hn]
 rw [e1,e2];exact q.mono fun e w' q=>⟨q.e,lh (h.lp (h.at_.snd q.i))⟩
theorem K9 (ho:x.ok c i d) (hr:rightC c=true) (hi:i < 80) (w:World) (h:LdI W B L t rb r0 r1 r2 ⟨x.s2 t,x.k1 t⟩ w):
  Calls prog 31 #[↑(π L.D.b),↑(x.now t)] w fun e w'=>∃ao cap,e=.returned (.tuple #[.slice ao (x.gone t).length cap,.int .i64 ((x.s2 t).tickE (x.now t))])∧Hid (LdQ W B L t rb r0 r1 r2 ⟨(x.s2 t).tickS (x.now t),x.k1 t⟩ (.slice ao (x.gone t).length cap) (x.gone t) w'):=by
 obtain ⟨a,o,_⟩:=LN.s2_ok ho hr hi t;obtain ⟨p,hp⟩:=h.at_;refine (xK (x.now t) w hp.s o hr (by omega) (by omega)).mono fun e w' q=>?_;obtain ⟨v,e1,e2,e3⟩:=q;obtain ⟨ao,cap,rfl,_⟩:=e2.sown.form;obtain ⟨h1,h2⟩:=hp.snd e3;exact ⟨ao,cap,e1,lh ⟨h.lp h2,p,_,h1,hp.k.lt,e2⟩⟩
theorem LA (ho:x.ok c i d) (hr:rightC c=true) (hi:i < 80) (w:World) (h:LdQ W B L t rb r0 r1 r2 ⟨(x.s2 t).tickS (x.now t),x.k1 t⟩ (.slice ao (x.gone t).length cap) (x.gone t) w):
  Calls prog 83 #[↑(π L.pb),.slice ao (x.gone t).length cap] w fun e w'=>e=.returned (.int .i64 (((x.k1 t).kept (x.gone t):Nat):Int))∧Hid (LdI W B L t rb r0 r1 r2 ⟨(x.s2 t).tickS (x.now t),(x.k1 t).sends (x.gone t)⟩ w'):=by
 obtain ⟨p,n,h1,h2,h3⟩:=h.q;obtain ⟨g1,g2⟩:=LN.gone_ok ho hr hi t;have hm:=cB hr;have hk:=LN.k1_ok ho t;obtain ⟨ao',cap',e,_,_,hi',hg⟩:=h3.sown.form;injection e with e1 _ _
 subst e1;refine (KY w h1 hk hi' (fun hp a ea hx=>?_) (fun y hy=>by have:=(g2 y hy).2;omega) (by omega)).mono fun e w' q=>⟨q.1,lh (h.i.lp q.2)⟩;obtain ⟨g,rfl,hb⟩:=hg hp;cases ea
 have l1:g < n:=h2 _ hx;have l2:=h3.sown.base (m:=n) (Nat.le_refl _);rw [hb] at l2;omega
end
theorem PU {B:Nat} {L:LD} {x:LN} {c:Setup} {i d:Nat} {t:StV} (W:World) (h:fA W B L x) (ho:x.ok c i d) (hr:rightC c=true) (hi:i < 80) (ht:t.ok) (hc:Chs W B t) (rb r0 r1 r2:Nat) (hR:Blk W rb 42 (dD r0 r1 r2)) (hB:B≤rb) (h0:r0≤1000000) (h1:r1≤1000000) (h2:r2≤1000000):
  Calls prog 41 #[↑(π L.b),.agg t.cells,↑(π rb)] W fun e w'=>e=.returned (.int .i64 (x.err t))∧fA w' B L (x.step t)∧Below B W w'∧KR rb W w'∧Blk w' rb 42 (dD (r0 + x.nd t) (r1 + x.ns t) (r2 + x.nk t)):=by
 have HWr:=lh (GJ (W:=W) (B:=B) (L:=L) (rb:=rb) (r0:=r0) (r1:=r1) (r2:=r2) ho ht);have HTi:=lh (K7 (W:=W) (B:=B) (L:=L) (t:=t) (rb:=rb) (r0:=r0) (r1:=r1) (r2:=r2) (x:=x) (s:=x.s1 t));have HAd:=lh (bQ x.k.t t.a ho.k.t ht.a);have HLt:=lh (GK (W:=W) (B:=B) (L:=L) (rb:=rb) (r0:=r0) (r1:=r1) (r2:=r2) ho hi ht hc);have HNu:=lh (fun (w:World) (ao:Option Addr) (cap:Nat) (q:Its w ao (x.out t))=>tL (x.out t) ao cap w q (by have:=LN.out_len ho t;omega));have HAk:=lh (fun (hn:x.out t≠[]) (w:World) (q:LdI W B L t rb (r0 + (x.out t).length) r1 r2 ⟨x.s1 t,x.k1 t⟩ w) (n:Nat) (v:Value) (hv:bO 190 n w v (gY (x.out t)))=>OI ho hr hi hn w q hv);have HTc:=lh (K9 (W:=W) (B:=B) (L:=L) (t:=t) (rb:=rb) (r0:=r0 + (x.out t).length) (r1:=r1) (r2:=r2) ho hr hi);have HSe:=lh (fun (ao:Option Addr) (cap:Nat)=>LA (W:=W) (B:=B) (L:=L) (t:=t) (rb:=rb) (r0:=r0 + (x.out t).length) (r1:=r1 + (x.gone t).length) (r2:=r2) (ao:=ao) (cap:=cap) ho hr hi);have hlO:=LN.out_len ho t;have hlG:=(LN.gone_ok ho hr hi t).1;have hlK:=p4 (x.gone t) (x.k1 t);have M0:Hid (LdI W B L t rb r0 r1 r2 x (W.alloc (.cells t.cells 47))):=lh ⟨h.keep (aC _ _),(Below.refl _ _).alloc h.size _,(KN.below _ (aC _ _)).kr _,Blk.new _ _ _,hR.keep (aC _ _)⟩;have p0:=PT (W:=W) (B:=B) (L:=L) (t:=t) (rb:=rb) (i:=0) (v:=↑(π L.D.b)) rfl;have p1:=PT (W:=W) (B:=B) (L:=L) (t:=t) (rb:=rb) (i:=1) (v:=↑(π L.pb)) rfl;have z0:=KZ (W:=W) (B:=B) (L:=L) (t:=t) (rb:=rb) (i:=0) (v:=↑t.a) rfl;have z1:=KZ (W:=W) (B:=B) (L:=L) (t:=t) (rb:=rb) (i:=1) (v:=↑t.w) rfl;have z2:=KZ (W:=W) (B:=B) (L:=L) (t:=t) (rb:=rb) (i:=2) (v:=↑t.x) rfl;have z3:=KZ (W:=W) (B:=B) (L:=L) (t:=t) (rb:=rb) (i:=3) (v:=.slice t.p t.cs.length t.c) rfl;have HX:Hid (t.cells=#[↑t.a,↑t.w,↑t.x,.slice t.p t.cs.length t.c]):=lh rfl;have HNow:Hid (Pl.addS x.k.t t.a=x.now t):=lh rfl;rw [HNow.out] at HAd;have HF1:Hid (x.s.writeE t.w≠0→x.s.writeE t.w=x.err t∧⟨x.s1 t,x.k⟩=x.step t∧0=x.nd t∧0=x.ns t∧0=x.nk t):=lh (fun e=>by unfold LN.err LN.step LN.nd LN.ns LN.nk;simp only [if_pos e,and_self]);have HF2:Hid (x.s.writeE t.w=0→x.ae t≠0→x.ae t=x.err t∧⟨x.s2 t,x.k1 t⟩=x.step t∧(x.out t).length=x.nd t∧0=x.ns t∧0=x.nk t):=lh (fun e k=>by unfold LN.err LN.step LN.nd LN.ns LN.nk;simp only [e,ne_eq,not_true_eq_false,if_false,if_pos k,and_self]);have HF3:Hid (x.s.writeE t.w=0→x.ae t=0→(x.s2 t).tickE (x.now t)=x.err t∧⟨(x.s2 t).tickS (x.now t),(x.k1 t).sends (x.gone t)⟩=x.step t∧(x.out t).length=x.nd t∧(x.gone t).length=x.ns t∧(x.k1 t).kept (x.gone t)=x.nk t):=lh (fun e k=>by unfold LN.err LN.step LN.nd LN.ns LN.nk;simp only [e,k,ne_eq,not_true_eq_false,if_false,and_self]);have HF4:Hid ((x.s2 t).tickE (x.now t)≠0→(x.gone t).length=0∧(x.k1 t).sends (x.gone t)=x.k1 t∧(x.k1 t).kept (x.gone t)=0):=lh (fun e=>by
  have e2:x.gone t=[]:=by unfold LN.gone SN.tickL;exact if_neg e
  rw [e2];exact ⟨rfl,rfl,rfl⟩)
 have HF5:Hid (x.out t=[]→x.ae t=0∧x.s2 t=x.s1 t):=lh (fun e=>by unfold LN.ae LN.s2;rw [if_pos e,if_pos e];exact ⟨rfl,rfl⟩);clear h ho hr ht hc hR;rw [HX.out] at M0 ⊢;generalize x.now t=nw at *;generalize x.s1 t=s1 at *;generalize x.k1 t=k1 at *;generalize x.ae t=ae at *;generalize x.s2 t=s2 at *;generalize hO:x.out t=O at *;have HOe:=lh hO;clear hO;generalize hn:O.length=n at *;have HN:=lh hn;clear hn;generalize x.gone t=G at *;generalize G.length=g at *;generalize s2.tickS nw=s3 at *;generalize s2.tickE nw=te at *;generalize k1.sends G=k2 at *;generalize k1.kept G=nk at *;generalize x.s.writeE t.w=we at *;generalize x.err t=er at *;generalize x.step t=st at *;generalize x.nd t=nd at *;generalize x.ns t=ns at *;generalize x.nk t=nkk at *;go_enter func41,ntmps41;go_wp2_with fail;generalize W.alloc (.cells #[↑t.a,↑t.w,↑t.x,.slice t.p t.cs.length t.c] 47)=w0 at *;have M1:=lh (M0.out.to ((aB.drew w0).below _));go_region_held3 (fun w'=>Hid (LdX W B L t rb w'))
  (first | with_reducible exact (cT M2) | with_reducible exact (cT M1))
  (first | (go_at_call 29;(with_reducible refine (HWr.out _ M1.out).mono ?_);rintro e w1 ⟨rfl,M2⟩))
 clear M0 M1 HWr z1;by_cases hw:we=0
 case neg=>
  obtain ⟨rfl,rfl,rfl,rfl,rfl⟩:=HF1.out hw;have d1:(we == 0)=false:=beq_eq_false_iff_ne.2 hw;clear hw;go_wp2_with fail;go_ret;exact ⟨rfl,M2.out.at_,M2.out.bel,M2.out.kt,M2.out.r⟩
 case pos=>
 subst hw;replace HF2:=lh (HF2.out rfl);replace HF3:=lh (HF3.out rfl);clear HF1;go_wp2_with fail;have M3:=lh (M2.out.to ((aB.drew w1).below _));go_region_held3 (fun w'=>Hid (LdX W B L t rb w'))
  (first | with_reducible exact (cT M5) | with_reducible exact (cT M4) | with_reducible exact (cT M3) | exact (cT (lh (M4.out.to (aC _ _)))))
  (first
   | (go_at_call 33;(with_reducible refine (HTi.out _ M3.out).mono ?_);rintro e w2 ⟨rfl,hb⟩;have M4:=lh (M3.out.to hb);have K4:=lh (nc2 w2 x.k.t t.a 22);have M4b:=lh (M4.out.to (aC _ (.cells #[↑x.k.t,↑t.a] 22)));clear hb)
   | (go_at_call 60;(with_reducible refine (HAd.out _ _ K4.out.1 K4.out.2).mono ?_);rintro e w3 ⟨rfl,hb⟩;have M5:=lh (M4b.out.to hb);clear hb))
 clear M2 M3 M4 M4b K4 HTi HAd z0;go_wp2_with fail;have M6:=lh (M5.out.to ((aB.drew w3).below _));go_region_held3 (fun w'=>Hid (LdX W B L t rb w'))
  (first | with_reducible exact (cT M7) | with_reducible exact (cT M6))
  (first | (go_at_call 32;(with_reducible refine (HLt.out _ M6.out).mono ?_);rintro e w4 ⟨ao,cap,rfl,V7,M7⟩))
 clear M5 M6 HLt z2 z3;have q0:=M7.out.r.cell (i:=0) (v:=.int .i64 (r0:Int)) rfl;have y0:=M7.out.r.free 0;have e1:(r0:Int) + (n:Int)=((r0 + n:Nat):Int):=by omega
 have e2:IntKind.i64.wrap ((r0 + n:Nat):Int)=((r0 + n:Nat):Int):=by rw [IntKind.wrap_i64];omega
 have M8:=lh (M7.out.rep hB 0 (.int .i64 ((r0 + n:Nat):Int)) (s0:=r0 + n) (s1:=r1) (s2:=r2) rfl);have V8:=lh (V7.out.blk (fun g cs _ z=>(xN M7.out.r hB 0 (.int .i64 ((r0 + n:Nat):Int))).2 _ (by decide) _ _ z));clear M7 V7;generalize hR0:r0 + n=R0 at *;have HR0:=lh hR0;clear hR0;by_cases hO:O=[]
 case pos=>
  obtain ⟨rfl,rfl⟩:=HF5.out hO;have hn0:n=0:=by rw [← HN.out,hO];rfl
  have d3:decide ((0:Int) < (n:Int))=false:=decide_eq_false (by omega);have d3b:decide (0 < n)=false:=decide_eq_false (by omega);have a0:=p0 _ (cT M8);clear hO hn0 HF2 HF5 HNu HAk HOe;go_wp2_with fail;clear q0 y0 e1 e2 d3 d3b V8;generalize w4.setCell ⟨rb,0,none⟩ (.int .i64 (R0:Int))=w5 at *;obtain ⟨rfl,rfl,rfl,rfl,rfl⟩:=HF3.out (by trivial);refine (HTc.out _ M8.out).mono ?_;rintro e w6 ⟨ao2,cap2,rfl,Q9⟩;clear M8 a0 HTc;by_cases hte:te=0
  case' neg=>
   obtain ⟨g1,g2,g3⟩:=HF4.out hte;have d2:(te == 0)=false:=beq_eq_false_iff_ne.2 hte;clear hte;go_wp2_with fail;go_ret;rw [g1,g2,g3,HR0.out];exact ⟨rfl,Q9.out.i.at_,Q9.out.i.bel,Q9.out.i.kt,Q9.out.i.r⟩
  case' pos=>
   subst hte;have q1:=Q9.out.i.r.cell (i:=1) (v:=.int .i64 (r1:Int)) rfl;have y1:=Q9.out.i.r.free 1;have e3:(r1:Int) + (g:Int)=((r1 + g:Nat):Int):=by omega
   have e4:IntKind.i64.wrap ((r1 + g:Nat):Int)=((r1 + g:Nat):Int):=by rw [IntKind.wrap_i64];omega
   have Q10:=lh (Q9.out.rep hB 1 (.int .i64 ((r1 + g:Nat):Int)) (s0:=R0) (s1:=r1 + g) (s2:=r2) rfl);clear Q9 HF4;generalize hR1:r1 + g=R1 at *;have HR1:=lh hR1;clear hR1;go_wp2_with fail;clear q1 y1 e3 e4;generalize w6.setCell ⟨rb,1,none⟩ (.int .i64 (R1:Int))=w7 at *;have Q11:=lh (Q10.out.to ((aB.drew w7).below _));have q2:=Q11.out.i.r.cell (i:=2) (v:=.int .i64 (r2:Int)) rfl;have a1:=p1 _ (cT (lh Q11.out.i));have e5:(r2:Int) + (nk:Int)=((r2 + nk:Nat):Int):=by omega
   have e6:IntKind.i64.wrap ((r2 + nk:Nat):Int)=((r2 + nk:Nat):Int):=by rw [IntKind.wrap_i64];omega
   generalize hR2:r2 + nk=R2 at *;have HR2:=lh hR2;clear hR2;have Y11:=pB (lh Q11.out.i);clear Q10 a1 q2;refine rhd (S:=(fun w'=>Hid (LdX W B L t rb w'))) (cT (lh Q11.out.i)) (fun hHeld=>?_);refine tkc 0 ?_;refine tkc 1 ?_;refine tkc 2 ?_;refine tkc 4 ?_;refine tkc 5 ?_;refine tkc 6 ?_;refine tks 7 ?_;refine tkc 8 ?_;refine rdy [3,9] ?_;refine cns (fun K hK=>?_) ?_
   ·have q2:=(Hid.out (by assumption):LdY W B L t rb R0 R1 r2 _).r2
    go_simp;refine bck hK hHeld (fun hHeld=>?_);clear hK;refine rdy [9] ?_;refine cns (fun K hK=>?_) .nil;go_simp;refine (HSe.out _ _ _ Q11.out).mono ?_;rintro e w8 ⟨rfl,M12⟩;have Y12:=pB M12;go_wp2_with fail;refine bck hK (cT M12) (fun hHeld=>?_);clear hK;refine tkc 10 ?_;refine tkc 11 ?_;refine tkc 12 ?_;refine rdy [13] ?_;refine cns (fun K hK=>?_) .nil;have q3:=M12.out.r.cell (i:=2) (v:=.int .i64 (r2:Int)) rfl;have y3:=M12.out.r.free 2;have M13:=lh (M12.out.rep hB 2 (.int .i64 (R2:Int)) (s0:=R0) (s1:=R1) (s2:=R2) rfl);go_simp;refine bck hK (cT M13) (fun hHeld=>?_);clear hK;refine wpAnyH_done (by kernel_rfl) ?_ _;go_wp2_with fail;go_ret;rw [HR0.out,HR1.out,HR2.out];exact ⟨rfl,M13.out.at_,M13.out.bel,M13.out.kt,M13.out.r⟩
   refine cns (fun K hK=>?_) .nil;go_simp;refine (HSe.out _ _ _ Q11.out).mono ?_;rintro e w8 ⟨rfl,M12⟩;have Y12:=pB M12;go_wp2_with fail;refine bck hK (cT M12) (fun hHeld=>?_);clear hK;refine rdy [3] ?_;refine cns (fun K hK=>?_) .nil;have q2:=(Hid.out (by assumption):LdY W B L t rb R0 R1 r2 _).r2;go_simp;refine bck hK hHeld (fun hHeld=>?_);clear hK;refine tkc 10 ?_;refine tkc 11 ?_;refine tkc 12 ?_;refine rdy [13] ?_;refine cns (fun K hK=>?_) .nil;have q3:=M12.out.r.cell (i:=2) (v:=.int .i64 (r2:Int)) rfl;have y3:=M12.out.r.free 2;have M13:=lh (M12.out.rep hB 2 (.int .i64 (R2:Int)) (s0:=R0) (s1:=R1) (s2:=R2) rfl);go_simp;refine bck hK (cT M13) (fun hHeld=>?_);clear hK;refine wpAnyH_done (by kernel_rfl) ?_ _;go_wp2_with fail;go_ret;rw [HR0.out,HR1.out,HR2.out];exact ⟨rfl,M13.out.at_,M13.out.bel,M13.out.kt,M13.out.r⟩
 case neg=>
  have hn0:0 < n:=by rw [← HN.out];exact List.length_pos_iff.2 hO
  have d3:decide ((0:Int) < (n:Int))=true:=decide_eq_true (by omega);have d3b:decide (0 < n)=true:=decide_eq_true (by omega);replace HAk:=lh (HAk.out hO);clear hO hn0 HF5 HOe;go_wp2_with fail;clear q0 y0 e1 e2 d3 d3b;generalize w4.setCell ⟨rb,0,none⟩ (.int .i64 (R0:Int))=w5 at *;have M9:=lh (M8.out.to ((aB.drew w5).below _));have V9:=lh (V8.out.keep ((aB.drew w5).below _));clear M8 V8;go_region_held3 (fun w'=>Hid (LdX W B L t rb w'))
   (first | with_reducible exact (cT M11) | with_reducible exact (cT M10) | with_reducible exact (cT M9))
   (first
    | (go_at_call 82;(with_reducible refine (HNu.out _ _ _ V9.out.its.1).mono ?_);rintro e wn ⟨vn,rfl,hvn,hb⟩;have M10:=lh (M9.out.to hb);have VN:=lh hvn;clear hb hvn)
    | (go_at_call 30;(with_reducible refine (HAk.out _ M10.out _ _ VN.out).mono ?_);rintro e wa ⟨rfl,M11⟩))
  clear M9 M10 V9 VN HNu HAk;by_cases hae:ae=0
  case neg=>
   obtain ⟨rfl,rfl,rfl,rfl,rfl⟩:=HF2.out hae;have d4:(ae == 0)=false:=beq_eq_false_iff_ne.2 hae;clear hae;go_wp2_with fail;go_ret;rw [HR0.out];exact ⟨rfl,M11.out.at_,M11.out.bel,M11.out.kt,M11.out.r⟩
  case pos=>
  subst hae;clear HF2;have M8:=M11;have a0:=p0 _ (cT M8);clear M11;go_wp2_with fail;obtain ⟨rfl,rfl,rfl,rfl,rfl⟩:=HF3.out (by trivial);refine (HTc.out _ M8.out).mono ?_;rintro e w6 ⟨ao2,cap2,rfl,Q9⟩;clear M8 a0 HTc;by_cases hte:te=0
  case' neg=>
   obtain ⟨g1,g2,g3⟩:=HF4.out hte;have d2:(te == 0)=false:=beq_eq_false_iff_ne.2 hte;clear hte;go_wp2_with fail;go_ret;rw [g1,g2,g3,HR0.out];exact ⟨rfl,Q9.out.i.at_,Q9.out.i.bel,Q9.out.i.kt,Q9.out.i.r⟩
  case' pos=>
   subst hte;have q1:=Q9.out.i.r.cell (i:=1) (v:=.int .i64 (r1:Int)) rfl;have y1:=Q9.out.i.r.free 1;have e3:(r1:Int) + (g:Int)=((r1 + g:Nat):Int):=by omega
   have e4:IntKind.i64.wrap ((r1 + g:Nat):Int)=((r1 + g:Nat):Int):=by rw [IntKind.wrap_i64];omega
   have Q10:=lh (Q9.out.rep hB 1 (.int .i64 ((r1 + g:Nat):Int)) (s0:=R0) (s1:=r1 + g) (s2:=r2) rfl);clear Q9 HF4;generalize hR1:r1 + g=R1 at *;have HR1:=lh hR1;clear hR1;go_wp2_with fail;clear q1 y1 e3 e4;generalize w6.setCell ⟨rb,1,none⟩ (.int .i64 (R1:Int))=w7 at *;have Q11:=lh (Q10.out.to ((aB.drew w7).below _));have q2:=Q11.out.i.r.cell (i:=2) (v:=.int .i64 (r2:Int)) rfl;have a1:=p1 _ (cT (lh Q11.out.i));have e5:(r2:Int) + (nk:Int)=((r2 + nk:Nat):Int):=by omega
   have e6:IntKind.i64.wrap ((r2 + nk:Nat):Int)=((r2 + nk:Nat):Int):=by rw [IntKind.wrap_i64];omega
   generalize hR2:r2 + nk=R2 at *;have HR2:=lh hR2;clear hR2;have Y11:=pB (lh Q11.out.i);clear Q10 a1 q2;refine rhd (S:=(fun w'=>Hid (LdX W B L t rb w'))) (cT (lh Q11.out.i)) (fun hHeld=>?_);refine tkc 0 ?_;refine tkc 1 ?_;refine tkc 2 ?_;refine tkc 4 ?_;refine tkc 5 ?_;refine tkc 6 ?_;refine tks 7 ?_;refine tkc 8 ?_;refine rdy [3,9] ?_;refine cns (fun K hK=>?_) ?_
   ·have q2:=(Hid.out (by assumption):LdY W B L t rb R0 R1 r2 _).r2
    go_simp;refine bck hK hHeld (fun hHeld=>?_);clear hK;refine rdy [9] ?_;refine cns (fun K hK=>?_) .nil;go_simp;refine (HSe.out _ _ _ Q11.out).mono ?_;rintro e w8 ⟨rfl,M12⟩;have Y12:=pB M12;go_wp2_with fail;refine bck hK (cT M12) (fun hHeld=>?_);clear hK;refine tkc 10 ?_;refine tkc 11 ?_;refine tkc 12 ?_;refine rdy [13] ?_;refine cns (fun K hK=>?_) .nil;have q3:=M12.out.r.cell (i:=2) (v:=.int .i64 (r2:Int)) rfl;have y3:=M12.out.r.free 2;have M13:=lh (M12.out.rep hB 2 (.int .i64 (R2:Int)) (s0:=R0) (s1:=R1) (s2:=R2) rfl);go_simp;refine bck hK (cT M13) (fun hHeld=>?_);clear hK;refine wpAnyH_done (by kernel_rfl) ?_ _;go_wp2_with fail;go_ret;rw [HR0.out,HR1.out,HR2.out];exact ⟨rfl,M13.out.at_,M13.out.bel,M13.out.kt,M13.out.r⟩
   refine cns (fun K hK=>?_) .nil;go_simp;refine (HSe.out _ _ _ Q11.out).mono ?_;rintro e w8 ⟨rfl,M12⟩;have Y12:=pB M12;go_wp2_with fail;refine bck hK (cT M12) (fun hHeld=>?_);clear hK;refine rdy [3] ?_;refine cns (fun K hK=>?_) .nil;have q2:=(Hid.out (by assumption):LdY W B L t rb R0 R1 r2 _).r2;go_simp;refine bck hK hHeld (fun hHeld=>?_);clear hK;refine tkc 10 ?_;refine tkc 11 ?_;refine tkc 12 ?_;refine rdy [13] ?_;refine cns (fun K hK=>?_) .nil;have q3:=M12.out.r.cell (i:=2) (v:=.int .i64 (r2:Int)) rfl;have y3:=M12.out.r.free 2;have M13:=lh (M12.out.rep hB 2 (.int .i64 (R2:Int)) (s0:=R0) (s1:=R1) (s2:=R2) rfl);go_simp;refine bck hK (cT M13) (fun hHeld=>?_);clear hK;refine wpAnyH_done (by kernel_rfl) ?_ _;go_wp2_with fail;go_ret;rw [HR0.out,HR1.out,HR2.out];exact ⟨rfl,M13.out.at_,M13.out.bel,M13.out.kt,M13.out.r⟩
end

section
open Go.RowKit Cf
instance:Itm StV:=⟨⟨0,0,0,none,0,[]⟩,4,fun t=>[↑t.a,↑t.w,↑t.x,.slice t.p t.cs.length t.c],by decide,fun _=>rfl,fun t v h=>by simp only [List.mem_cons,List.not_mem_nil,or_false] at h;rcases h with rfl | rfl | rfl | rfl <;> rfl⟩
theorem OJ {ad:Addr} {l:List StV} (h:Its w (some ad) l) (hp:0 < l.length):∃b off,ad=⟨b,off,none⟩∧b < w.heap.size∧∀k,k < l.length→∀t,t=l.getD k Itm.z→
  w.cell? ⟨b,off + k * 4,none⟩=some ↑t.a∧w.cell? ⟨b,off + k * 4 + 1,none⟩=some ↑t.w∧w.cell? ⟨b,off + k * 4 + 2,none⟩=some ↑t.x∧w.cell? ⟨b,off + k * 4 + 3,none⟩=some (.slice t.p t.cs.length t.c):=by
 obtain ⟨b,off,e,hb,hc⟩:=h hp;injection e with e
 refine ⟨b,off,e,hb,fun k hk t ht=>?_⟩;have k4:Itm.k StV=4:=rfl;subst ht;have f:=fun j (hj:j < 4)=>hc k j hk (by rw [k4];exact hj);rw [k4] at f;exact ⟨f 0 (by decide),f 1 (by decide),f 2 (by decide),f 3 (by decide)⟩
structure RN where
 x:LN
 e:Int
 d:Nat
 s:Nat
 k:Nat
def LN.run (x:LN):List StV→RN
 | []=>⟨x,0,0,0,0⟩
 | t :: l=>if x.err t=0 then ⟨((x.step t).run l).x,((x.step t).run l).e,x.nd t + ((x.step t).run l).d,x.ns t + ((x.step t).run l).s,x.nk t + ((x.step t).run l).k⟩ else ⟨x.step t,x.err t,x.nd t,x.ns t,x.nk t⟩
def RN.add (r:RN) (d s k:Nat):RN:=⟨r.x,r.e,d + r.d,s + r.s,k + r.k⟩
theorem RN.add_zero (r:RN):r.add 0 0 0=r:=by unfold RN.add;rw [Nat.zero_add,Nat.zero_add,Nat.zero_add]
theorem RN.add_add (r:RN) (a b c d s k:Nat):(r.add a b c).add d s k=r.add (d + a) (s + b) (k + c):=by unfold RN.add;simp only [Nat.add_assoc]
theorem LN.run_yes {x:LN} {t:StV} (h:x.err t=0) (l:List StV):x.run (t :: l)=((x.step t).run l).add (x.nd t) (x.ns t) (x.nk t):=by rw [LN.run,if_pos h];rfl
theorem LN.run_no {x:LN} {t:StV} (h:x.err t≠0) (l:List StV):x.run (t :: l)=⟨x.step t,x.err t,x.nd t,x.ns t,x.nk t⟩:=by rw [LN.run,if_neg h]
theorem LN.some_le {c:Setup} {i d:Nat} {x:LN} (h:x.ok c i d) (hr:rightC c=true) (hi:i < 80) (t:StV):x.nd t≤5200∧x.ns t≤65∧x.nk t≤65:=by
 have h1:=LN.out_len h t;have h2:=(LN.gone_ok h hr hi t).1;have h3:=p4 (x.gone t) (x.k1 t);unfold LN.nd LN.ns LN.nk;refine ⟨?_,?_,?_⟩ <;> repeat' split
 all_goals omega
theorem LpO.set {W:World} {B:Nat} {L:LD} {x:LN} (h:LpO W B L x w) (hb:Blk w W.heap.size 42 cs) (hB:B≤↑W) (i:Nat) (u:Value):LpO W B L x (w.setCell ⟨W.heap.size,i,none⟩ u):=by
 obtain ⟨b,n⟩:=xN hb hB i u;obtain ⟨p,hp⟩:=h.at_;exact ⟨⟨p,hp.kn n (by decide) b⟩,h.bel.trans b,fun T hT z cs q=>(h.kt T hT z cs q).set_other i u (by have:=q.lt;omega)⟩
structure DoR (W:World) (B:Nat) (L:LD) (x0:LN) (l:List StV) (c:Setup) (i n m:Nat) (j:Nat) (wr:World):Prop where
 le:j≤l.length
 bel:Below B W wr
 kt:KN rF W wr
 z:Blk wr n 42 (dD 0 0 0)
 st:∃x d a b k,fA wr B L x∧x.ok c (i + j) d∧Blk wr m 42 (dD a b k)∧a≤5200 * j∧b≤65 * j∧k≤65 * j∧x0.run l=(x.run (l.drop j)).add a b k
theorem PV {B:Nat} {L:LD} {x:LN} {c:Setup} {i d:Nat} {l:List StV} (v:Option Addr) (cap:Nat) (W:World) (h:fA W B L x) (ho:x.ok c i d) (hr:rightC c=true) (hi:i + l.length≤80) (hl:∀w,Below B W w→KN rF W w→Its w v l) (ht:∀t∈l,t.ok∧Chs W B t):
  Calls prog 15 #[↑(π L.b),.slice v l.length cap] W fun e w'=>e=.returned (.tuple #[.agg (dD (x.run l).d (x.run l).s (x.run l).k),.int .i64 (x.run l).e])∧LpO W B L (x.run l).x w':=by
 have hsz:=h.size;have HT:=lh ht;have HL:=lh hl;have b1:=aC W (.cells (dD 0 0 0) 42);have b2:=aC (W.alloc (.cells (dD 0 0 0) 42)) (.cells (dD 0 0 0) 42);have b3:=aD b1 b2 b1.size;have R0:Hid (DoR W B L x l c i W.heap.size (W.heap.size + 1) 0 ((W.alloc (.cells (dD 0 0 0) 42)).alloc (.cells (dD 0 0 0) 42))):=lh ⟨Nat.zero_le _,b3.mono hsz,KN.below _ b3,(Blk.new W _ _).keep b2,x,d,0,0,0,h.keep b3,ho,Blk.new1 W _ _ _,Nat.zero_le _,Nat.zero_le _,Nat.zero_le _,(RN.add_zero _).symm⟩;have HX:Hid (dD 0 0 0=#[.int .i64 0,.int .i64 0,.int .i64 0]):=lh rfl;generalize hE:x.run l=E at *;have HE:=lh hE;clear h ho b1 b2 b3 hl ht hE;rw [HX.out] at R0;go_enter func15,ntmps15;go_wp2_with fail;generalize (W.alloc (.cells #[.int .i64 0,.int .i64 0,.int .i64 0] 42)).alloc (.cells #[.int .i64 0,.int .i64 0,.int .i64 0] 42)=w1 at *;go_loopw [15] (fun ix wr=>∃j:Nat,ix=.int .i64 (j:Int)∧Hid (DoR W B L x l c i W.heap.size (W.heap.size + 1) j wr)) (fun ix _=>l.length - (intOf ix).toNat)
 case atStart=>exact ⟨0,rfl,R0⟩
 case round=>
  obtain ⟨j,rfl,HD⟩:=hrel;clear R0;have hk:=HD.out.le;by_cases hlt:j < l.length
  ·obtain ⟨ad,rfl,_⟩:=(HL.out wr HD.out.bel HD.out.kt).cells (by omega)
   obtain ⟨g,off,rfl,_,hc⟩:=OJ (HL.out wr HD.out.bel HD.out.kt) (by omega);obtain ⟨t,htt⟩:∃t,t=l.getD j Itm.z:=⟨_,rfl⟩;obtain ⟨a0,a1,a2,a3⟩:=hc j hlt t htt;have htm:t∈l:=by rw [htt];simp [hlt]
   have HDr:Hid (l.drop j=t :: l.drop (j + 1)):=lh (by rw [List.drop_eq_getElem_cons hlt,htt,List.getD_eq_getElem?_getD,List.getElem?_eq_getElem hlt];rfl);obtain ⟨y,d',a,b,k,hy,hyo,hR,ha,hb,hkk,hrun⟩:=HD.out.st;have ti:=HT.out t htm;rw [HDr.out] at hrun;have hdo:=lh (fun (w:World) (q:Below ↑wr wr w)=>PU (i:=i + j) w (hy.keep q) hyo hr (by omega) ti.1 (ti.2.bel (HD.out.bel.trans (q.mono hy.size))) (W.heap.size + 1) a b k (hR.keep q) (by omega) (by omega) (by omega) (by omega));have HZ:=lh HD.out.z;have HRu:=lh hrun;have HSo:=lh (LN.some_le hyo hr (by omega) t);have HOk:=lh (LN.step_ok hyo hr (by omega) t);have HBw:=lh HD.out.bel;have HKw:=lh HD.out.kt;have HBa:=lh (show a≤5200 * j∧b≤65 * j∧k≤65 * j from ⟨ha,hb,hkk⟩);have HyB:=lh hy.size;have i0:(0:Int)≤(j:Int):=by omega
   have i1:(j:Int) < (l.length:Int):=by omega
   clear hc htt hy hyo hR hrun ha hb hkk ti HD HT HL;have HC:Hid (t.cells=#[↑t.a,↑t.w,↑t.x,.slice t.p t.cs.length t.c]):=lh rfl;have hz:=aC wr (.cells #[↑t.a,↑t.w,↑t.x,.slice t.p t.cs.length t.c] 47);have HBe:=lh hz;have hnb:=Blk.new wr 47 #[↑t.a,↑t.w,↑t.x,.slice t.p t.cs.length t.c];have HZ2:=lh (HZ.out.keep hz);rw [HC.out] at hdo;clear hz;go_upto_region 7 with fail
   generalize wr.alloc (.cells #[↑t.a,↑t.w,↑t.x,.slice t.p t.cs.length t.c] 47)=w2 at *;clear a0 a1 a2 a3;have c0:=hnb.cell (i:=0) (v:=↑t.a) rfl;have c1:=hnb.cell (i:=1) (v:=↑t.w) rfl;have c2:=hnb.cell (i:=2) (v:=↑t.x) rfl;have c3:=hnb.cell (i:=3) (v:=.slice t.p t.cs.length t.c) rfl;clear hnb;go_wp2_with fail;refine (hdo.out _ HBe.out).mono ?_;rintro e w3 ⟨rfl,hA,hB3,hK3,hR3⟩;have HA:=lh hA;have HR3:=lh hR3;have HB3:=lh (HBw.out.trans ((HBe.out.mono HyB.out).trans hB3));have HK3:Hid (KN rF W w3):=lh (fun T hT z cs q=>hK3 T hT z cs (fun e=>by have:=q.lt;omega) ((HKw.out T hT z cs q).keep HBe.out));have HZ3:Hid (Blk w3 W.heap.size 42 (dD 0 0 0)):=lh (hK3 _ (by decide) _ _ (by omega) HZ2.out);clear hA hR3 hB3 hK3 c0 c1 c2 c3 hdo HBe HZ2 HZ HBw HKw;have er0:=lh (show (y.err t=0→_)∧(y.err t≠0→_) from ⟨fun q=>HRu.out.trans (congrArg (RN.add · a b k) (LN.run_yes q (l.drop (j + 1)))),fun q=>HRu.out.trans (congrArg (RN.add · a b k) (LN.run_no q (l.drop (j + 1))))⟩);by_cases he:y.err t=0
   ·have hE:=(er0.out.1 he).trans (RN.add_add _ _ _ _ _ _ _)
    have d1:(y.err t == 0)=true:=by rw [he];rfl
    have HE':=lh hE;clear er0 HRu hE;go_wp2_with fail;go_roundw
    case rel=>
     obtain ⟨q,hq⟩:=HOk.out;have h1:=HBa.out;have h2:=HSo.out;exact ⟨j + 1,by go_num,lh ⟨by omega,HB3.out,HK3.out,HZ3.out,y.step t,_,_,_,_,HA.out,hq,HR3.out,by omega,by omega,by omega,HE'.out⟩⟩
    case measure=>simp [intOf];omega
   ·have hE:=er0.out.2 he
    have d1:(y.err t == 0)=false:=beq_eq_false_iff_ne.2 he;have r0:=HR3.out.cell (i:=0) (v:=.int .i64 ((a + y.nd t:Nat):Int)) rfl;have r1:=HR3.out.cell (i:=1) (v:=.int .i64 ((b + y.ns t:Nat):Int)) rfl;have r2:=HR3.out.cell (i:=2) (v:=.int .i64 ((k + y.nk t:Nat):Int)) rfl;have z0:=HZ3.out.cell (i:=0) (v:=.int .i64 0) rfl;have z1:=HZ3.out.cell (i:=1) (v:=.int .i64 0) rfl;have z2:=HZ3.out.cell (i:=2) (v:=.int .i64 0) rfl;have zf:=HZ3.out.free;have HE':=lh (HE.out.symm.trans hE);clear er0 HRu hE;generalize hd:a + y.nd t=D at *;generalize hs:b + y.ns t=S at *;generalize hk2:k + y.nk t=K at *;have HDSK:=lh (show a + y.nd t=D∧b + y.ns t=S∧k + y.nk t=K from ⟨hd,hs,hk2⟩);clear hd hs hk2;have O1:=LpO.set (w:=w3) ⟨HA.out,HB3.out,HK3.out⟩ HZ3.out hsz 0 (.int .i64 (D:Int));have Z1:=HZ3.out.set 0 (.int .i64 (D:Int));have O2:=O1.set Z1 hsz 1 (.int .i64 (S:Int));have Z2:=Z1.set 1 (.int .i64 (S:Int));have O3:=O2.set Z2 hsz 2 (.int .i64 (K:Int));have HF:=lh (Z2.set 2 (.int .i64 (K:Int)));have HO:=lh O3;clear O1 Z1 O2 Z2 O3;go_wp2_with fail;refine bodyPost_ret (aF rfl _ _ W.heap.size 42 _ _ rfl HF.out underlying42 rfl (by kernel_rfl)) rfl ?_;rw [HE'.out];exact ⟨by rw [← HDSK.out.1,← HDSK.out.2.1,← HDSK.out.2.2];rfl,HO.out⟩
  ·obtain rfl:j=l.length:=by omega
   obtain ⟨y,d',D,S,K,hy,hyo,hR,ha,hb,hkk,hrun⟩:=HD.out.st;rw [List.drop_length] at hrun;have HE':=lh (HE.out.symm.trans hrun);have HDSK:=lh (show D + 0=D∧S + 0=S∧K + 0=K from ⟨rfl,rfl,rfl⟩);have HA:=lh hy;have HB3:=lh HD.out.bel;have HK3:=lh HD.out.kt;have HZ3:=lh HD.out.z;have w3e:∃w3,w3=wr:=⟨_,rfl⟩;obtain ⟨w3,rfl⟩:=w3e;have r0:=hR.cell (i:=0) (v:=.int .i64 (D:Int)) rfl;have r1:=hR.cell (i:=1) (v:=.int .i64 (S:Int)) rfl;have r2:=hR.cell (i:=2) (v:=.int .i64 (K:Int)) rfl;have z0:=HZ3.out.cell (i:=0) (v:=.int .i64 0) rfl;have z1:=HZ3.out.cell (i:=1) (v:=.int .i64 0) rfl;have z2:=HZ3.out.cell (i:=2) (v:=.int .i64 0) rfl;have zf:=HZ3.out.free;clear hy hyo hR ha hb hkk hrun HD HT HL;have O1:=LpO.set (w:=w3) ⟨HA.out,HB3.out,HK3.out⟩ HZ3.out hsz 0 (.int .i64 (D:Int));have Z1:=HZ3.out.set 0 (.int .i64 (D:Int));have O2:=O1.set Z1 hsz 1 (.int .i64 (S:Int));have Z2:=Z1.set 1 (.int .i64 (S:Int));have O3:=O2.set Z2 hsz 2 (.int .i64 (K:Int));have HF:=lh (Z2.set 2 (.int .i64 (K:Int)));have HO:=lh O3;clear O1 Z1 O2 Z2 O3;go_wp2_with fail;refine bodyPost_ret (aF rfl _ _ W.heap.size 42 _ _ rfl HF.out underlying42 rfl (by kernel_rfl)) rfl ?_;rw [HE'.out];exact ⟨by rw [← HDSK.out.1,← HDSK.out.2.1,← HDSK.out.2.2];rfl,HO.out⟩
theorem aH.mono {w:World} {B B':Nat} {D:SD} {s:SN} (h:aH w B D s) (hB:B'≤B) (hl:0 < B'):aH w B' D s:=
 ⟨h.b,h.c,h.l.mono hB,h.t,h.a,h.e.mono hB hl,h.p,Nat.le_trans hB h.own.1,Nat.le_trans hB h.own.2.1,Nat.le_trans hB h.own.2.2.1,Nat.le_trans hB h.own.2.2.2.1,Nat.le_trans hB h.own.2.2.2.2⟩
theorem AP {c:Setup} {r d j b:Nat} (hc:∀i,c i≤↑ω) (hr:rightC c=true) (hp:rD r d j b=true) (W:World) (hg:Gl W):
  Calls prog 12 #[.agg (aL c),.agg #[↑r,↑d,↑j,↑b]] W fun e w'=>∃L:LD,e=.returned (.tuple #[↑(π L.b),.int .i64 0])∧fA w' W.heap.size L ⟨SN.new c,LKS.start r d j b⟩∧Below ↑W W w':=by
 have HS:=lh (fun w (q:Gl w)=>o9 c hc hr w q);have HK:=lh (fun w=>OH r d j b w hp);have HX:Hid (aL c=#[↑(c 0),↑(c 1),↑(c 2),↑(c 3),↑(c 4),↑(c 5)]):=lh rfl;have b1:=aC W (.cells (aL c) 24);have b2:=aD b1 (aC (W.alloc (.cells (aL c) 24)) (.cells #[↑r,↑d,↑j,↑b] 26)) b1.size;have HG:=lh (hg.keep b2);have C1:=(Blk.new W 24 (aL c)).alloc (.cells #[↑r,↑d,↑j,↑b] 26);have HP:=lh (Blk.new1 W (.cells (aL c) 24) 26 #[↑r,↑d,↑j,↑b]);have HBe:=lh b2;have HLt:=lh hg.lt;have v0:=C1.cell (i:=0) (v:=↑(c 0)) rfl;have v1:=C1.cell (i:=1) (v:=↑(c 1)) rfl;have v2:=C1.cell (i:=2) (v:=↑(c 2)) rfl;have v3:=C1.cell (i:=3) (v:=↑(c 3)) rfl;have v4:=C1.cell (i:=4) (v:=↑(c 4)) rfl;have v5:=C1.cell (i:=5) (v:=↑(c 5)) rfl;clear hg b1 b2 C1 hp hr hc;rw [HX.out] at HS HG HP HBe v0 v1 v2 v3 v4 v5 ⊢;go_enter func12,ntmps12;go_wp2_with fail;refine (HS.out _ HG.out).mono ?_;rintro e w1 ⟨D,rfl,hD,hb⟩;have S1:=lh (hD.mono HBe.out.size HLt.out);have B1:=lh (aD HBe.out hb HBe.out.size);have P1:=HP.out.keep hb;clear hD hb v0 v1 v2 v3 v4 v5 HS HG HP;have p0:=P1.cell (i:=0) (v:=↑r) rfl;have p1:=P1.cell (i:=1) (v:=↑d) rfl;have p2:=P1.cell (i:=2) (v:=↑j) rfl;have p3:=P1.cell (i:=3) (v:=↑b) rfl;clear P1;go_wp2_with fail;refine (HK.out _).mono ?_;rintro e w2 ⟨⟨p,rfl,hk,hl⟩,hb⟩;have sz:=B1.out.size;have S2:=lh (S1.out.keep hb);have B2:=lh (aD B1.out hb sz);have K2:=lh hk;have L2:=lh (fun y hy=>Nat.le_trans sz (hl y hy));clear hk hl hb p0 p1 p2 p3 S1 B1 HK sz;have hz:=aC w2 (.cells #[↑(π D.b),↑(π p.b)] 83);have S3:=lh (S2.out.keep hz);have B3:=lh (aD B2.out hz B2.out.size);have K3:=lh (K2.out.keep hz);have N3:=lh (Blk.new w2 83 #[↑(π D.b),↑(π p.b)]);have hn:=B2.out.size;clear hz S2 B2 K2;go_wp2_with fail;go_ret2
 exact ⟨⟨w2.heap.size,D,p.b⟩,rfl,⟨p,N3.out,S3.out,rfl,K3.out,hn,L2.out⟩,B3.out⟩

theorem LN.ok.mono {c:Setup} {i j d:Nat} {x:LN} (h:x.ok c i d) (hi:i≤j):x.ok c j d:=⟨h.s.mono (by omega) (by omega),h.k.more (by omega),h.num⟩
theorem LN.new_ok {c:Setup} {r d j b:Nat} (hr:rightC c=true) (hc:∀i,c i≤↑ω) (hp:r≤↑ω∧d≤↑ω∧j≤↑ω∧b≤↑ω):LN.ok c 0 0 ⟨SN.new c,LKS.start r d j b⟩:=
 ⟨SN.new_ok hr hc,LKS.start_okL hp.1 hp.2.1 hp.2.2.1 hp.2.2.2,fun p hp=>nomatch hp⟩
theorem GL (a w:Nat) (ha:a≤↑ω) (hw:w≤↑ω) (W:World) (B:Nat):StV.ok ⟨a,w,0,none,0,[]⟩∧Chs W B ⟨a,w,0,none,0,[]⟩:=
 ⟨⟨ha,hw,by show 0≤_;omega,fun c hc=>nomatch hc⟩,Nus.nil _ _,fun h=>absurd h (by simp),Nat.zero_le _,by show 0≤_;omega⟩

def tpC:Setup:=fun k=>[1000,10,3,10000000,200000,20].getD k.val 0
theorem GM:∀i,tpC i≤18446744073709551615:=by decide
theorem lI:rightC tpC=true:=by decide
def lT0:LN:=⟨SN.new tpC,LKS.start 1000000 1000 0 5000⟩
def lT:List StV:=[⟨0,3000,0,none,0,[]⟩,⟨200,0,0,none,0,[]⟩,⟨3000,0,0,none,0,[]⟩,⟨1000,0,0,none,0,[]⟩]
theorem LB:(lT0.run lT).e=0∧(lT0.run lT).d=3∧(lT0.run lT).s=3∧(lT0.run lT).k=3∧(lT0.run lT).x.s.L.fl=0:=by
 refine ⟨?_,?_,?_,?_,?_⟩ <;> kernel_rfl
theorem LC (w:World):(Op.equalIn 10000 42 (.agg #[.int .i64 3,.int .i64 3,.int .i64 3]) (.agg #[.int .i64 3,.int .i64 3,.int .i64 3])).run prog w=.ok true w:=by kernel_rfl
theorem LE (W:World) (hg:Gl W):Calls prog 27 #[] W fun e w'=>e=.returned (.bool true)∧Below ↑W W w':=by
 obtain ⟨m1,m2,m3,m4,m5⟩:=LB;have o0:lT0.ok tpC 0 0:=LN.new_ok lI GM ⟨by omega,by omega,by omega,by omega⟩;have HN:=lh (fun w hg=>AP (r:=1000000) (d:=1000) (j:=0) (b:=5000) GM lI (by decide) w hg);have HG:=lh hg;have H1:Hid (∀B L w g,fA w B L lT0→Blk w g 47 (aI lT)→Calls prog 15 #[↑(π L.b),.slice (some ⟨g,0,none⟩) 4 4] w fun e w'=>e=.returned (.tuple #[.agg #[.int .i64 3,.int .i64 3,.int .i64 3],.int .i64 0])∧LpO w B L (lT0.run lT).x w'):=lh (fun B L w g q hb=>by
  have hh:=PV (l:=lT) (some ⟨g,0,none⟩) 4 w q o0 lI (by decide) (fun w' _ hk=>Its.of_blk (T:=47) (hk _ (by decide) _ _ hb)) (fun t ht=>by
   simp only [lT,List.mem_cons,List.not_mem_nil,or_false] at ht;rcases ht with rfl | rfl | rfl | rfl <;> exact GL _ _ (by decide) (by decide) _ _)
  rw [m1,m2,m3,m4] at hh;exact hh)
 have HFl:Hid (∀B L w,fA w B L (lT0.run lT).x→Calls prog 19 #[↑(π L.D.b)] w fun e w'=>e=.returned ↑ζ∧Below ↑w w w'):=lh (fun B L w q=>by have hh:=eB w q.sn;rw [m5] at hh;exact hh);have HSe:=lh (fun B L w (q:fA w B L (lT0.run lT).x)=>AM w q);have HI1:Hid (aI lT=#[↑ζ,.int .u64 3000,↑ζ,.slice none 0 0,.int .u64 200,↑ζ,↑ζ,.slice none 0 0,.int .u64 3000,↑ζ,↑ζ,.slice none 0 0,.int .u64 1000,↑ζ,↑ζ,.slice none 0 0]):=lh rfl;have HC1:Hid (aL tpC=#[.int .u64 1000,.int .u64 10,.int .u64 3,.int .u64 10000000,.int .u64 200000,.int .u64 20]):=lh rfl;rw [HI1.out] at H1;rw [HC1.out] at HN;clear m1 m2 m3 m4 m5 o0 hg HI1 HC1;generalize (lT0.run lT).x=x1 at *;generalize hq:lT0=x0 at *;have eqr:=LC;have K0:=Blk.new W 24 #[.int .u64 1000,.int .u64 10,.int .u64 3,.int .u64 10000000,.int .u64 200000,.int .u64 20];have c0:=K0.cell (i:=0) (v:=.int .u64 1000) rfl;have c1:=K0.cell (i:=1) (v:=.int .u64 10) rfl;have c2:=K0.cell (i:=2) (v:=.int .u64 3) rfl;have c3:=K0.cell (i:=3) (v:=.int .u64 10000000) rfl;have c4:=K0.cell (i:=4) (v:=.int .u64 200000) rfl;have c5:=K0.cell (i:=5) (v:=.int .u64 20) rfl;have B0:=lh (aC W (.cells #[.int .u64 1000,.int .u64 10,.int .u64 3,.int .u64 10000000,.int .u64 200000,.int .u64 20] 24));have G0:=lh (HG.out.keep B0.out);clear K0 HG;go_enter func27,ntmps27;go_wp2_with fail;refine (HN.out _ G0.out).mono ?_;rintro e w1 ⟨L,rfl,hs,hb⟩;have hs:fA w1 (W.alloc (.cells #[.int .u64 1000,.int .u64 10,.int .u64 3,.int .u64 10000000,.int .u64 200000,.int .u64 20] 24)).heap.size L lT0:=hs;rw [hq] at hs;have HZ:Hid (W.heap.size≤(W.alloc (.cells #[.int .u64 1000,.int .u64 10,.int .u64 3,.int .u64 10000000,.int .u64 200000,.int .u64 20] 24)).heap.size):=lh B0.out.size;have hb0:=aD B0.out hb B0.out.size;clear hb c0 c1 c2 c3 c4 c5;generalize (W.alloc (.cells #[.int .u64 1000,.int .u64 10,.int .u64 3,.int .u64 10000000,.int .u64 200000,.int .u64 20] 24)).heap.size=Bz at *;have hs2:=aC w1 (.cells #[↑ζ,.int .u64 3000,↑ζ,.slice none 0 0,.int .u64 200,↑ζ,↑ζ,.slice none 0 0,.int .u64 3000,↑ζ,↑ζ,.slice none 0 0,.int .u64 1000,↑ζ,↑ζ,.slice none 0 0] 47);have I1:=lh (hs.keep hs2);have B1:=lh (aD hb0 hs2 hb0.size);have N1:=lh (Blk.new w1 47 #[↑ζ,.int .u64 3000,↑ζ,.slice none 0 0,.int .u64 200,↑ζ,↑ζ,.slice none 0 0,.int .u64 3000,↑ζ,↑ζ,.slice none 0 0,.int .u64 1000,↑ζ,↑ζ,.slice none 0 0]);clear hs hb0 hq HN G0 B0 hs2;go_wp2_with fail;refine (H1.out _ _ _ _ I1.out N1.out).mono ?_;rintro e w2 ⟨rfl,h2⟩;have b2:=B1.out.trans (h2.bel.mono HZ.out);have a2:=aC w2 (.cells #[.int .i64 3,.int .i64 3,.int .i64 3] 42);have r2:=Blk.new w2 42 #[.int .i64 3,.int .i64 3,.int .i64 3];have I2:=lh (h2.at_.keep a2);have B2:=lh (aD b2 a2 b2.size);have e0:=r2.cell (i:=0) (v:=.int .i64 3) rfl;have e1:=r2.cell (i:=1) (v:=.int .i64 3) rfl;have e2:=r2.cell (i:=2) (v:=.int .i64 3) rfl;clear h2 b2 a2 r2 I1 B1 N1 H1;go_wp2_with fail;refine (HSe.out _ _ _ I2.out).mono ?_;rintro e w5 ⟨rfl,hb⟩;have I5:=lh (I2.out.keep hb);have B5:=lh (aD B2.out hb B2.out.size);clear hb I2 B2 HSe e0 e1 e2;go_wp2_with fail;refine (HFl.out _ _ _ I5.out).mono ?_;rintro e w6 ⟨rfl,hb⟩;have B6:=lh (aD B5.out hb B5.out.size);clear hb I5 B5 HFl;go_wp2_with fail;go_ret;exact ⟨rfl,B6.out⟩
end
end Go.Proofs.YtjhiooggnpbecaaGreatDoor
