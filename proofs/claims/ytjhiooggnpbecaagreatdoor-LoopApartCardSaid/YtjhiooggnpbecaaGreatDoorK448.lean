/- Lemmas. -/
import Derived.Test.YtjhiooggnpbecaaGreatDoorK442
import Derived.Test.YtjhiooggnpbecaaGreatDoorK446
import Derived.Test.YtjhiooggnpbecaaGreatDoorK447
set_option linter.unusedVariables false
set_option maxHeartbeats 8000000
set_option maxRecDepth 100000
namespace Go.Proofs.YtjhiooggnpbecaaGreatDoor
open Tryz
open Go.RowKit Cf
variable {N cap:Nat} {ao:Option Addr} {v:Value} {w w':World}
def rJ:List TypeId:=[91,217,150,296,73,228,299,226]
def nO:List TypeId:=rJ ++ fE
theorem cY.kn {L:List TypeId} {p:LP} {s:LKS} (h:cY w p s) (n:KN L w w') (hL:∀T∈rJ,T ∉ L):cY w' p s:=by
 obtain ⟨q,q1,q2,q3⟩:=h.q.row;obtain ⟨j,j1,j2,j3⟩:=h.j.row;exact ⟨n _ (hL _ (by decide)) _ _ h.head,n _ (hL _ (by decide)) _ _ h.k,⟨n _ (hL _ (by decide)) _ _ h.q.head,q,q1,q2,⟨n _ (hL _ (by decide)) _ _ q3.head,n _ (hL _ (by decide)) _ _ q3.body⟩⟩,⟨n _ (hL _ (by decide)) _ _ h.j.head,j,j1,j2,⟨n _ (hL _ (by decide)) _ _ j3.head,n _ (hL _ (by decide)) _ _ j3.body⟩⟩⟩
theorem L0 {p:LP} {s:LKS} (hh:cY w p s) (k:Fr w w' p.l):KN rJ w w':=fun T hT g cs hb=>hb.fr k (fun hx=>by
 have a1:=hh.head;have a2:=hh.k;have a3:=hh.q.head;obtain ⟨_,a4⟩:=hh.q.row.head;obtain ⟨_,a5⟩:=hh.q.row.body;have a6:=hh.j.head;obtain ⟨_,a7⟩:=hh.j.row.head;obtain ⟨_,a8⟩:=hh.j.row.body;unfold rJ at hT;simp only [List.mem_cons,List.not_mem_nil,or_false,not_or] at hT;obtain ⟨t1,t2,t3,t4,t5,t6,t7,t8⟩:=hT;simp only [LP.l,List.mem_cons,List.not_mem_nil,or_false] at hx;rcases hx with c | c | c | c | c | c | c | c
 ·exact hb.ty a1 t1 c
 ·exact hb.ty a2 t2 c
 ·exact hb.ty a3 t3 c
 ·exact hb.ty a4 t4 c
 ·exact hb.ty a5 t5 c
 ·exact hb.ty a6 t6 c
 ·exact hb.ty a7 t7 c
 ·exact hb.ty a8 t8 c)
structure LD where
 b:Nat
 D:SD
 pb:Nat
structure LpP (w:World) (B:Own) (L:LD) (p:LP) (x:LN):Prop where
 h:Blk w L.b 83 #[↑(π L.D.b),↑(π L.pb)]
 s:aK w B L.D x.s
 pb:p.b=L.pb
 k:cY w p x.k
 lo:B.o L.b
 pl:∀y∈p.l,B.o y
def bP (w:World) (B:Own) (L:LD) (x:LN):Prop:=∃p,LpP w B L p x
theorem LpP.keep {w w':World} {B:Own} {L:LD} {p:LP} {x:LN} (h:LpP w B L p x) (k:Below ↑w w w'):LpP w' B L p x:=⟨h.h.keep k,h.s.keep k,h.pb,h.k.keep k,h.lo,h.pl⟩
theorem bP.keep {w w':World} {B:Own} {L:LD} {x:LN} (h:bP w B L x) (k:Below ↑w w w'):bP w' B L x:=by
 obtain ⟨p,h⟩:=h;exact ⟨p,h.keep k⟩
theorem bP.sn {B:Own} {L:LD} {x:LN} (h:bP w B L x):aK w B L.D x.s:=by obtain ⟨p,h⟩:=h;exact h.s
theorem bP.hd {B:Own} {L:LD} {x:LN} (h:bP w B L x):Blk w L.b 83 #[↑(π L.D.b),↑(π L.pb)]:=by obtain ⟨p,h⟩:=h;exact h.h
theorem bP.size {w:World} {B:Own} {L:LD} {x:LN} (h:bP w B L x):B.up w.heap.size:=h.sn.size
structure LpO (W:World) (B:Own) (L:LD) (x:LN) (w:World):Prop where
 at_:bP w B L x
 bel:aH B W w
 kt:KN nO W w
theorem LpO.start {W:World} {B:Own} {L:LD} {x:LN} (h:bP W B L x):LpO W B L x W:=⟨h,aH.refl _ _,KN.refl _ _⟩
theorem LpO.to {W w w':World} {B:Own} {L:LD} {x:LN} (h:LpO W B L x w) (k:Below ↑w w w'):LpO W B L x w':=⟨h.at_.keep k,h.bel.to k,h.kt.trans (KN.below _ k)⟩
theorem LpO.step {W w w':World} {B:Own} {L:LD} {x y:LN} (h:LpO W B L x w) (k:LpO w B L y w'):LpO W B L y w':=⟨k.at_,h.bel.trans k.bel,h.kt.trans k.kt⟩
theorem LpP.snd {B:Own} {L:LD} {p:LP} {x:LN} {s':SN} (h:LpP w B L p x) (k:b8 w B L.D s' w'):LpP w' B L p ⟨s',x.k⟩∧LpO w B L ⟨s',x.k⟩ w':=by
 have q:LpP w' B L p ⟨s',x.k⟩:=⟨k.kt _ (by decide) _ _ h.h,k.at_,h.pb,h.k.kn k.kt (by decide),h.lo,h.pl⟩;exact ⟨q,⟨p,q⟩,k.bel,k.kt.mono (by decide)⟩
theorem bP.snd {w w':World} {B:Own} {L:LD} {x:LN} {s':SN} (h:bP w B L x) (k:b8 w B L.D s' w'):LpO w B L ⟨s',x.k⟩ w':=by
 obtain ⟨p,h⟩:=h;exact (h.snd k).2
theorem LpP.lnk {B:Own} {L:LD} {p:LP} {x:LN} {k':LKS} (h:LpP w B L p x) (k:LI w p k' w'):LpO w B L ⟨x.s,k'⟩ w':=by
 have sz:=h.s.size;have n:=L0 h.k k.fr;have b:aH B w w':=(aH.refl _ _).fr k.fr h.pl;obtain ⟨g,i,h1,h2,h3⟩:=k.at_;refine ⟨⟨p.at_ g i,n _ (by decide) _ _ h.h,h.s.kn n (by decide) b,h.pb,h1,h.lo,fun y hy=>?_⟩,b,n.mono (by decide)⟩;have e:=h.pl;simp only [LP.l,LP.at_,List.mem_cons,List.not_mem_nil,or_false] at hy e;rcases hy with c | c | c | c | c | c | c | c
 ·exact e _ (.inl c)
 ·exact e _ (.inr (.inl c))
 ·exact e _ (.inr (.inr (.inl c)))
 ·exact e _ (.inr (.inr (.inr (.inl c))))
 ·rcases h2 with d | d
  ·exact e _ (.inr (.inr (.inr (.inr (.inl (c.trans d))))))
  ·exact sz _ (by omega)
 ·exact e _ (.inr (.inr (.inr (.inr (.inr (.inl c))))))
 ·exact e _ (.inr (.inr (.inr (.inr (.inr (.inr (.inl c)))))))
 ·rcases h3 with d | d
  ·exact e _ (.inr (.inr (.inr (.inr (.inr (.inr (.inr (c.trans d))))))))
  ·exact sz _ (by omega)
theorem L5 {B:Own} {L:LD} {x:LN} (w:World) (h:bP w B L x):
  Calls prog 33 #[↑(π L.pb)] w fun e w'=>e=.returned ↑x.k.t∧w=w':=by
 obtain ⟨p,h⟩:=h;rw [← h.pb];exact J7 p x.k w h.k
theorem tN {B:Own} {L:LD} {x:LN} (w:World) (h:bP w B L x) (ho:x.k.ok N) (hN:N≤5500):
  Calls prog 14 #[↑(π L.pb)] w fun e w'=>e=.returned x.k.countV∧Below ↑w w w':=by
 obtain ⟨p,h⟩:=h;rw [← h.pb];exact EC p x.k w N h.k ho hN
structure Chs (w:World) (B:Own) (t:StV):Prop where
 n:Nus w t.p t.cs
 b:0 < t.cs.length→∀a,t.p=some a→¬ B.o a.block
 len:t.cs.length≤t.c
 big:t.c≤9223372036854775807
theorem Chs.bel {B:Own} {t:StV} (h:Chs w B t) (k:aH B w w'):Chs w' B t:=by
 refine ⟨fun hp=>?_,h.b,h.len,h.big⟩;obtain ⟨b,off,e,hb,hc⟩:=h.n hp;have hB:=h.b hp _ e;refine ⟨b,off,e,Nat.lt_of_lt_of_le hb k.size,fun i hi=>?_⟩;exact (k.cell (p:=⟨b,off + i,none⟩) hb hB).trans (hc i hi)
theorem L6 {B:Own} {L:LD} {x:LN} {t:StV} (now:Nat) (w:World) (h:bP w B L x) (ho:x.k.ok 5500) (hn:x.k.t≤now) (hm:now≤↑ω) (ht:t.ok) (hc:Chs w B t):
  Calls prog 32 #[↑(π L.pb),↑now,↑t.x,.slice t.p t.cs.length t.c] w fun e w'=>∃v,e=.returned (.tuple #[v,.int .i64 0])∧bQ 73 w.heap.size w' v (x.k.tickOut now t.x t.cs)∧LpO w B L ⟨x.s,x.k.tick now t.x t.cs⟩ w':=by
 obtain ⟨p,h⟩:=h;rw [← h.pb];have sz:=h.s.size;refine (LV p x.k now t.x t.cs t.p t.c w h.k ho hn hm ht.x ⟨hc.n,fun hp a e hx=>?_,fun hp a e=>?_,ht.cs,hc.len,hc.big⟩).mono fun e w' q=>?_
 ·exact absurd (h.pl _ hx) (hc.b hp a e)
 ·obtain ⟨b,off,e',hb,_⟩:=hc.n hp
  rw [e'] at e;cases e
  exact hb
 ·obtain ⟨v,e1,e2⟩:=q.e
  exact ⟨v,e1,e2,h.lnk q.li⟩
theorem L7 {B:Own} {L:LD} {p:LP} {x:LN} {l:List Pk} (w:World) (h:LpP w B L p x) (ho:x.k.ok N) (hi:Its w ao l) (ha:0 < l.length→fY ao p.l) (hz:∀y∈l,y.size≤↑ω) (hN:N + l.length≤5500):
  Calls prog 83 #[↑(π L.pb),.slice ao l.length cap] w fun e w'=>e=.returned (.int .i64 (x.k.kept l:Int))∧LpO w B L ⟨x.s,x.k.sends l⟩ w':=by
 rw [← h.pb];exact (J9 p x.k N l ao cap w h.k ho hi ha hz hN).mono fun e w' q=>⟨q.e,h.lnk q.li⟩
theorem pF {B:Own} {L:LD} {x:LN} (W:World) (h:bP W B L x):Calls prog 16 #[↑(π L.b)] W fun e w'=>e=.returned ↑(π L.D.b)∧Below ↑W W w':=by
 have a0:=h.hd.cell (i:=0) (v:=↑(π L.D.b)) rfl;clear h;go_enter func16,ntmps16;go_wp2;go_ret;exact ⟨rfl,Below.refl _ _⟩
theorem xY {B:Own} {L:LD} {x:LN} (W:World) (h:bP W B L x):Calls prog 13 #[↑(π L.b)] W fun e w'=>e=.returned ↑(π L.pb)∧Below ↑W W w':=by
 have a1:=h.hd.cell (i:=1) (v:=↑(π L.pb)) rfl;clear h;go_enter func13,ntmps13;go_wp2;go_ret;exact ⟨rfl,Below.refl _ _⟩

theorem A9 {l:List Pk} {k:Nat} (h:k < l.length) {x:Pk} (hx:x=l.getD k Itm.z):hH (l.take (k + 1))=hH (l.take k) ++ [⟨x.n,x.n⟩]:=by
 unfold hH;rw [List.take_add_one,List.getElem?_eq_getElem h,List.map_append,hx,List.getD_eq_getElem?_getD,List.getElem?_eq_getElem h];rfl
theorem BD:(prog.info? 190).map (fun i=>(i.zero,i.size,i.bytes))=some (some (.agg #[↑ζ,↑ζ]),2,16):=by kernel_rfl
theorem tO (l:List Pk) (ao:Option Addr) (cap:Nat) (W:World) (h:Its W ao l) (hl:l.length≤5500):
  Calls prog 82 #[.slice ao l.length cap] W fun e w'=>∃v,e=.returned v∧bQ 190 W.heap.size w' v (hH l)∧Below ↑W W w':=by
 obtain ⟨i0,hi0,hz0,hz1,hz2⟩:=info_parts BD;have HI:=lh hi0;have HZ0:=lh hz0;have HZ1:=lh hz1;have HZ2:=lh hz2;have HN:=lh h;clear hi0 hz0 hz1 hz2 h;go_enter func82,ntmps82;go_wp2_with (first | (at_make;refine wpList_make_own _ rfl _ _ 62 rfl W.heap.size 190 _ (.agg #[↑ζ,↑ζ]) 2 underlying62 HI.out HZ0.out HZ1.out _ _ _ l.length rfl rfl rfl (by rw [HZ2.out];omega) (by unfold maxLen;omega) (Nat.le_refl _) ?_;intro w1 hown hgr;have HW1:=lh hown;have HG1:=lh hgr;clear hown hgr) | fail)
 have S1:Hid (bQ 190 W.heap.size w1 (.slice (some ⟨W.heap.size,0,none⟩) 0 l.length) (hH (l.take 0))):=lh HW1.out;have B1:Hid (Below ↑W W w1):=lh ((Below.refl _ _).grown HG1.out (Nat.le_refl _) (fun k e=>by cases e));clear HW1 HG1;go_loopw [3,11] (fun v i wr=>∃k:Nat,i=.int .i64 (k:Int)∧k≤l.length∧Hid (bQ 190 W.heap.size wr v (hH (l.take k)))∧Hid (Below ↑W W wr)) (fun _ i _=>l.length - (intOf i).toNat)
 case atStart=>exact ⟨0,rfl,Nat.zero_le _,S1,B1⟩
 case round=>
  obtain ⟨k,rfl,hk,HO,HBe⟩:=hrel;by_cases hlt:k < l.length
  ·obtain ⟨ad,rfl,_⟩:=HN.out.cells (by omega)
   obtain ⟨g,off,rfl,_,hc⟩:=uF (HN.out.keep HBe.out) (by omega);obtain ⟨x,hx⟩:∃x,x=l.getD k Itm.z:=⟨_,rfl⟩;obtain ⟨a0,a1,a2,a3,a4,a5,a6⟩:=hc k hlt x hx;have HLn:Hid ((hH (l.take k)).length=k):=lh (by rw [tH,List.length_take];omega);have HT:=lh (A9 hlt hx);have HOne:=lh (Itm.one (⟨x.n,x.n⟩:Rn));have j0:(0:Int)≤(k:Int):=by omega
   have j1:(k:Int) < (l.length:Int):=by omega
   clear hc hx S1 B1;generalize hH (l.take k)=pre at *;obtain ⟨ap,cp,hv,hp1,hp2,_,_⟩:=HO.out.form;subst hv;have HO2:=lh (HO.out.keep (aC wr (.cells #[↑x.n,↑x.size,↑x.sent,↑x.first,↑x.deliv,↑x.at_,.bool x.lim] 73)));have HB2:=lh (aD HBe.out (aC wr (.cells #[↑x.n,↑x.size,↑x.sent,↑x.first,↑x.deliv,↑x.at_,.bool x.lim] 73)) HBe.out.size);have P2:=lh (Blk.new wr 73 #[↑x.n,↑x.size,↑x.sent,↑x.first,↑x.deliv,↑x.at_,.bool x.lim]);clear HO HBe;go_upto_region 5 with fail
   generalize wr.alloc (.cells #[↑x.n,↑x.size,↑x.sent,↑x.first,↑x.deliv,↑x.at_,.bool x.lim] 73)=w2 at *;clear a0 a1 a2 a3 a4 a5 a6;have a0:=P2.out.cell (i:=0) (v:=↑x.n) rfl;have HO3:=lh (HO2.out.keep (aC w2 (.cells #[↑x.n,↑x.n] 190)));have HNw:=lh (World.news_of_block (Blk.new w2 190 #[↑x.n,↑x.n]));have hsz:W.heap.size≤(w2.alloc (.cells #[↑x.n,↑x.n] 190)).heap.size:=by have:=HB2.out.size;simp;omega
   have hpl:pre.length≤5500:=by rw [HLn.out];omega
   go_wp2_with (at_builtin;refine wpList_append_own_at _ rfl (.tmp 15) (.tmp 21) 62 rfl W.heap.size 190 _ (.agg #[↑ζ,↑ζ]) 2 16 underlying62 HI.out HZ0.out HZ1.out HZ2.out rfl (by decide) (.slice ap pre.length cp) pre.length (pre.flatMap Itm.cs) rfl HO3.out ⟨w2.heap.size,0,none⟩ 1 1 (Itm.cs (⟨x.n,x.n⟩:Rn)) rfl rfl HNw.out HOne.out (by unfold maxLen;omega) (by omega) hsz ?_;intro v' w5 hown hgr hnil hat;have HW5:=lh hown;have HG:=lh hgr;clear hown hgr hnil hat)
   have HS:Hid (bQ 190 W.heap.size w5 v' (pre ++ [⟨x.n,x.n⟩])):=lh (bQ.snoc HW5.out);have HB5:=lh (IJ HB2.out HB2.out.size HO2.out (.cells #[↑x.n,↑x.n] 190) HG.out);clear HW5 HG HO2 HO3 HNw HB2;go_wp2_with fail;go_roundw
   case rel=>exact ⟨k + 1,by go_num,by omega,by rw [HT.out];exact HS,HB5⟩
   case measure=>simp [intOf];omega
  ·obtain rfl:k=l.length:=by omega
   rw [List.take_length] at HO;go_wp2_with fail;go_ret;exact ⟨_,rfl,HO.out,HBe.out⟩

def KR (rb:Nat) (w w':World):Prop:=∀T,T ∉ nO→∀b cs,b≠rb→Blk w b T cs→Blk w' b T cs
theorem KR.trans {rb:Nat} {a b c:World} (h:KR rb a b) (k:KR rb b c):KR rb a c:=fun T hT x cs hx q=>k T hT x cs hx (h T hT x cs hx q)
theorem KN.kr (h:KN nO w w') (rb:Nat):KR rb w w':=fun T hT b cs _ q=>h T hT b cs q
def cM (a b c:Nat):Array Value:=#[.int .i64 (a:Int),.int .i64 (b:Int),.int .i64 (c:Int)]
theorem LpP.kn {Y:List TypeId} {w w':World} {B:Own} {L:LD} {p:LP} {x:LN} (h:LpP w B L p x) (n:KN Y w w') (hY:∀T∈83 :: nO,T ∉ Y) (b:aH B w w'):LpP w' B L p x:=
 ⟨n _ (hY _ (by decide)) _ _ h.h,h.s.kn n (fun T hT=>hY T (by unfold nO;simp [hT])) b,h.pb,h.k.kn n (fun T hT=>hY T (by unfold nO;simp [hT])),h.lo,h.pl⟩
structure LdI (W:World) (B:Own) (L:LD) (t:StV) (rb r0 r1 r2:Nat) (x:LN) (w:World):Prop where
 at_:bP w B L x
 bel:aH B W w
 kt:KR rb W w
 z:Blk w W.heap.size 47 t.cells
 r:Blk w rb 42 (cM r0 r1 r2)
theorem LdI.to {W w w':World} {B:Own} {L:LD} {t:StV} {rb r0 r1 r2:Nat} {x:LN} (h:LdI W B L t rb r0 r1 r2 x w) (k:Below ↑w w w'):LdI W B L t rb r0 r1 r2 x w':=⟨h.at_.keep k,h.bel.to k,h.kt.trans ((KN.below _ k).kr _),h.z.keep k,h.r.keep k⟩
theorem LdI.lp {W:World} {B:Own} {L:LD} {t:StV} {rb r0 r1 r2:Nat} {x y:LN} (h:LdI W B L t rb r0 r1 r2 x w) (k:LpO w B L y w'):LdI W B L t rb r0 r1 r2 y w':=⟨k.at_,h.bel.trans k.bel,h.kt.trans (k.kt.kr _),k.kt _ (by decide) _ _ h.z,k.kt _ (by decide) _ _ h.r⟩
theorem xZ {rb:Nat} {cs:Array Value} {B:Own} (h:Blk w rb 42 cs) (hB:B.o rb) (j:Nat) (u:Value):aH B w (w.setCell ⟨rb,j,none⟩ u)∧KN [42] w (w.setCell ⟨rb,j,none⟩ u):=⟨(aH.refl _ _).setCell (p:=⟨rb,j,none⟩) hB _,KN.set h j u⟩
theorem LdI.rep {W:World} {B:Own} {L:LD} {t:StV} {rb r0 r1 r2:Nat} {x:LN} (h:LdI W B L t rb r0 r1 r2 x w) (hB:B.o rb) (j:Nat) (u:Value) {s0 s1 s2:Nat} (he:(cM r0 r1 r2).setIfInBounds j u=cM s0 s1 s2):LdI W B L t rb s0 s1 s2 x (w.setCell ⟨rb,j,none⟩ u):=by
 obtain ⟨b,n⟩:=xZ h.r hB j u;obtain ⟨p,hp⟩:=h.at_;exact ⟨⟨p,hp.kn n (by decide) b⟩,h.bel.trans b,h.kt.trans (fun T hT x cs hx q=>q.set_other j u hx),n _ (by decide) _ _ h.z,he▸h.r.set j u⟩
def LdX (W:World) (B:Own) (L:LD) (t:StV) (rb:Nat) (w:World):Prop:=∃r0 r1 r2 x,LdI W B L t rb r0 r1 r2 x w
theorem cW {W:World} {B:Own} {L:LD} {t:StV} {rb r0 r1 r2:Nat} {x:LN} (h:Hid (LdI W B L t rb r0 r1 r2 x w)):Hid (LdX W B L t rb w):=lh ⟨r0,r1,r2,x,h.out⟩
theorem Q6 {W:World} {B:Own} {L:LD} {t:StV} {rb i:Nat} (hv:(#[↑(π L.D.b),↑(π L.pb)]:Array Value)[i]? =some v):∀w,Hid (LdX W B L t rb w)→w.cell? ⟨L.b,i,none⟩=some v:=fun w q=>by
 obtain ⟨r0,r1,r2,x,h⟩:=q.out;exact h.at_.hd.cell hv
theorem L8 {W:World} {B:Own} {L:LD} {t:StV} {rb i:Nat} (hv:t.cells[i]? =some v):∀w,Hid (LdX W B L t rb w)→w.cell? ⟨W.heap.size,i,none⟩=some v:=fun w q=>by
 obtain ⟨r0,r1,r2,x,h⟩:=q.out;exact h.z.cell hv
def LdY (W:World) (B:Own) (L:LD) (t:StV) (rb r0 r1 r2:Nat) (w:World):Prop:=∃x,LdI W B L t rb r0 r1 r2 x w
theorem pG {W:World} {B:Own} {L:LD} {t:StV} {rb r0 r1 r2:Nat} {x:LN} (h:Hid (LdI W B L t rb r0 r1 r2 x w)):Hid (LdY W B L t rb r0 r1 r2 w):=lh ⟨x,h.out⟩
theorem LdY.r2 {W w:World} {B:Own} {L:LD} {t:StV} {rb r0 r1 r2:Nat} (h:LdY W B L t rb r0 r1 r2 w):w.cell? ⟨rb,2,none⟩=some (.int .i64 (r2:Int)):=by obtain ⟨x,h⟩:=h;exact h.r.cell rfl
structure LdQ (W:World) (B:Own) (L:LD) (t:StV) (rb r0 r1 r2:Nat) (x:LN) (v:Value) (l:List Pk) (w:World):Prop where
 i:LdI W B L t rb r0 r1 r2 x w
 q:∃p n,LpP w B L p x∧(∀y∈p.l,y < n)∧fF n w v l
theorem LdQ.to {W w w':World} {B:Own} {L:LD} {t:StV} {rb r0 r1 r2:Nat} {x:LN} {v:Value} {l:List Pk} (h:LdQ W B L t rb r0 r1 r2 x v l w) (k:Below ↑w w w'):LdQ W B L t rb r0 r1 r2 x v l w':=by
 obtain ⟨p,n,h1,h2,h3⟩:=h.q;exact ⟨h.i.to k,p,n,h1.keep k,h2,h3.keep k⟩
theorem LdQ.rep {W w:World} {B:Own} {L:LD} {t:StV} {rb r0 r1 r2:Nat} {x:LN} {v:Value} {l:List Pk} (h:LdQ W B L t rb r0 r1 r2 x v l w) (hB:B.o rb) (j:Nat) (u:Value) {s0 s1 s2:Nat} (he:(cM r0 r1 r2).setIfInBounds j u=cM s0 s1 s2):LdQ W B L t rb s0 s1 s2 x v l (w.setCell ⟨rb,j,none⟩ u):=by
 obtain ⟨p,n,h1,h2,h3⟩:=h.q;obtain ⟨b,k⟩:=xZ h.i.r hB j u;refine ⟨h.i.rep hB j u he,p,n,h1.kn k (by decide) b,h2,h3.1,?_⟩;rcases h3.2 with c | ⟨g,cap,cur,e,q1,hb,q2⟩
 ·exact .inl c
 ·exact .inr ⟨g,cap,cur,e,q1,k _ (by decide) _ _ hb,q2⟩
theorem bQ.its {α:Type} [Itm α] {T:TypeId} {B_:Nat} {n c:Nat} {l:List α} (h:bQ T B_ w (.slice ao n c) l):Its w ao l∧n=l.length:=by
 obtain ⟨ao',c',e,_,_,hi,_⟩:=h.form;injection e with e1 e2 e3
 exact ⟨e1▸hi,e2⟩
theorem fF.sown {n:Nat} {l:List Pk} (h:fF n w v l):bQ 73 n w v l:=h
section
variable {W:World} {B:Own} {L:LD} {t:StV} {rb r0 r1 r2:Nat} {x:LN} {c:Setup} {i d:Nat}
theorem G1 (ho:x.ok c i d) (ht:t.ok) (w:World) (h:LdI W B L t rb r0 r1 r2 x w):
  Calls prog 29 #[↑(π L.D.b),↑t.w] w fun e w'=>e=.returned (.int .i64 (x.s.writeE t.w))∧Hid (LdI W B L t rb r0 r1 r2 ⟨x.s1 t,x.k⟩ w'):=
 (GN t.w w h.at_.sn ho.s ht.w).mono fun e w' q=>⟨q.e,lh (h.lp (h.at_.snd q.i))⟩
theorem L9 {s:SN} (w:World) (h:LdI W B L t rb r0 r1 r2 ⟨s,x.k⟩ w):
  Calls prog 33 #[↑(π L.pb)] w fun e w'=>e=.returned ↑x.k.t∧Below ↑w w w':=
 (L5 w h.at_).mono fun e w' q=>⟨q.1,q.2▸Below.refl _ _⟩
theorem G2 (ho:x.ok c i d) (hi:i < 80) (ht:t.ok) (hc:Chs W B t) (w:World) (h:LdI W B L t rb r0 r1 r2 ⟨x.s1 t,x.k⟩ w):
  Calls prog 32 #[↑(π L.pb),↑(x.now t),↑t.x,.slice t.p t.cs.length t.c] w fun e w'=>∃ao cap,e=.returned (.tuple #[.slice ao (x.out t).length cap,.int .i64 0])∧Hid (bQ 73 w.heap.size w' (.slice ao (x.out t).length cap) (x.out t))∧Hid (LdI W B L t rb r0 r1 r2 ⟨x.s1 t,x.k1 t⟩ w'):=
 (L6 (x.now t) w h.at_ (ho.k.more (by omega)) (LN.now_ge ho.k t) (x.now_le t) ht (hc.bel h.bel)).mono fun e w' q=>by
  obtain ⟨v,e1,e2,e3⟩:=q;obtain ⟨ao,cap,hv,_⟩:=e2.form;rw [hv] at e1 e2;exact ⟨ao,cap,e1,lh e2,lh (h.lp e3)⟩
theorem PF (ho:x.ok c i d) (hr:rightC c=true) (hi:i < 80) (hn:x.out t≠[]) (w:World) (h:LdI W B L t rb r0 r1 r2 ⟨x.s1 t,x.k1 t⟩ w) {n:Nat} (hv:bQ 190 n w v (hH (x.out t))):
  Calls prog 30 #[↑(π L.D.b),↑(x.now t),v] w fun e w'=>e=.returned (.int .i64 (x.ae t))∧Hid (LdI W B L t rb r0 r1 r2 ⟨x.s2 t,x.k1 t⟩ w'):=by
 have hlt:=LN.out_lt ho hi t;have hl:=LN.out_len ho t;obtain ⟨ap,cp,rfl,_⟩:=hv.form;have h1:=SN.write_ok ho.s t.w;have q:=O5 (x.now t) ap cp (hH (x.out t)) w h.at_.sn h1 hr (by omega) (by omega) (fun w' hb hk=>(hv.blk (fun g cs _ z=>hk _ (by decide) _ _ z)).its.1) (by rw [tH];omega) (GH hlt);rw [LC hlt] at q;have e1:x.ae t=(x.s1 t).ackE (x.now t) true:=by unfold LN.ae;rw [if_neg hn]
 have e2:x.s2 t=(x.s1 t).ackS (x.now t) true fun p=>cE (hH (x.out t)) p.n:=by unfold LN.s2;rw [if_neg hn]
 rw [e1,e2];exact q.mono fun e w' q=>⟨q.e,lh (h.lp (h.at_.snd q.i))⟩
theorem MA (ho:x.ok c i d) (hr:rightC c=true) (hi:i < 80) (w:World) (h:LdI W B L t rb r0 r1 r2 ⟨x.s2 t,x.k1 t⟩ w):
  Calls prog 31 #[↑(π L.D.b),↑(x.now t)] w fun e w'=>∃ao cap,e=.returned (.tuple #[.slice ao (x.gone t).length cap,.int .i64 ((x.s2 t).tickE (x.now t))])∧Hid (LdQ W B L t rb r0 r1 r2 ⟨(x.s2 t).tickS (x.now t),x.k1 t⟩ (.slice ao (x.gone t).length cap) (x.gone t) w'):=by
 obtain ⟨a,o,_⟩:=LN.s2_ok ho hr hi t;obtain ⟨p,hp⟩:=h.at_;refine (LH (x.now t) w hp.s o hr (by omega) (by omega)).mono fun e w' q=>?_;obtain ⟨v,e1,e2,e3⟩:=q;obtain ⟨ao,cap,rfl,_⟩:=e2.sown.form;obtain ⟨h1,h2⟩:=hp.snd e3;exact ⟨ao,cap,e1,lh ⟨h.lp h2,p,_,h1,hp.k.lt,e2⟩⟩
theorem MB (ho:x.ok c i d) (hr:rightC c=true) (hi:i < 80) (w:World) (h:LdQ W B L t rb r0 r1 r2 ⟨(x.s2 t).tickS (x.now t),x.k1 t⟩ (.slice ao (x.gone t).length cap) (x.gone t) w):
  Calls prog 83 #[↑(π L.pb),.slice ao (x.gone t).length cap] w fun e w'=>e=.returned (.int .i64 (((x.k1 t).kept (x.gone t):Nat):Int))∧Hid (LdI W B L t rb r0 r1 r2 ⟨(x.s2 t).tickS (x.now t),(x.k1 t).sends (x.gone t)⟩ w'):=by
 obtain ⟨p,n,h1,h2,h3⟩:=h.q;obtain ⟨g1,g2⟩:=LN.gone_ok ho hr hi t;have hm:=cJ hr;have hk:=LN.k1_ok ho t;obtain ⟨ao',cap',e,_,_,hi',hg⟩:=h3.sown.form;injection e with e1 _ _
 subst e1;refine (L7 w h1 hk hi' (fun hp a ea hx=>?_) (fun y hy=>by have:=(g2 y hy).2;omega) (by omega)).mono fun e w' q=>⟨q.1,lh (h.i.lp q.2)⟩;obtain ⟨g,rfl,hb⟩:=hg hp;cases ea
 have l1:g < n:=h2 _ hx;have l2:=h3.sown.base (m:=n) (Nat.le_refl _);rw [hb] at l2;omega
end
theorem Q7 {B:Own} {L:LD} {x:LN} {c:Setup} {i d:Nat} {t:StV} (W:World) (h:bP W B L x) (ho:x.ok c i d) (hr:rightC c=true) (hi:i < 80) (ht:t.ok) (hc:Chs W B t) (rb r0 r1 r2:Nat) (hR:Blk W rb 42 (cM r0 r1 r2)) (hB:B.o rb) (h0:r0≤1000000) (h1:r1≤1000000) (h2:r2≤1000000):
  Calls prog 41 #[↑(π L.b),.agg t.cells,↑(π rb)] W fun e w'=>e=.returned (.int .i64 (x.err t))∧bP w' B L (x.step t)∧aH B W w'∧KR rb W w'∧Blk w' rb 42 (cM (r0 + x.nd t) (r1 + x.ns t) (r2 + x.nk t)):=by
 have HWr:=lh (G1 (W:=W) (B:=B) (L:=L) (rb:=rb) (r0:=r0) (r1:=r1) (r2:=r2) ho ht);have HTi:=lh (L9 (W:=W) (B:=B) (L:=L) (t:=t) (rb:=rb) (r0:=r0) (r1:=r1) (r2:=r2) (x:=x) (s:=x.s1 t));have HAd:=lh (bU x.k.t t.a ho.k.t ht.a);have HLt:=lh (G2 (W:=W) (B:=B) (L:=L) (rb:=rb) (r0:=r0) (r1:=r1) (r2:=r2) ho hi ht hc);have HNu:=lh (fun (w:World) (ao:Option Addr) (cap:Nat) (q:Its w ao (x.out t))=>tO (x.out t) ao cap w q (by have:=LN.out_len ho t;omega));have HAk:=lh (fun (hn:x.out t≠[]) (w:World) (q:LdI W B L t rb (r0 + (x.out t).length) r1 r2 ⟨x.s1 t,x.k1 t⟩ w) (n:Nat) (v:Value) (hv:bQ 190 n w v (hH (x.out t)))=>PF ho hr hi hn w q hv);have HTc:=lh (MA (W:=W) (B:=B) (L:=L) (t:=t) (rb:=rb) (r0:=r0 + (x.out t).length) (r1:=r1) (r2:=r2) ho hr hi);have HSe:=lh (fun (ao:Option Addr) (cap:Nat)=>MB (W:=W) (B:=B) (L:=L) (t:=t) (rb:=rb) (r0:=r0 + (x.out t).length) (r1:=r1 + (x.gone t).length) (r2:=r2) (ao:=ao) (cap:=cap) ho hr hi);have hlO:=LN.out_len ho t;have hlG:=(LN.gone_ok ho hr hi t).1;have hlK:=qE (x.gone t) (x.k1 t);have M0:Hid (LdI W B L t rb r0 r1 r2 x (W.alloc (.cells t.cells 47))):=lh ⟨h.keep (aC _ _),aH.of (aC _ _),(KN.below _ (aC _ _)).kr _,Blk.new _ _ _,hR.keep (aC _ _)⟩;have p0:=Q6 (W:=W) (B:=B) (L:=L) (t:=t) (rb:=rb) (i:=0) (v:=↑(π L.D.b)) rfl;have p1:=Q6 (W:=W) (B:=B) (L:=L) (t:=t) (rb:=rb) (i:=1) (v:=↑(π L.pb)) rfl;have z0:=L8 (W:=W) (B:=B) (L:=L) (t:=t) (rb:=rb) (i:=0) (v:=↑t.a) rfl;have z1:=L8 (W:=W) (B:=B) (L:=L) (t:=t) (rb:=rb) (i:=1) (v:=↑t.w) rfl;have z2:=L8 (W:=W) (B:=B) (L:=L) (t:=t) (rb:=rb) (i:=2) (v:=↑t.x) rfl;have z3:=L8 (W:=W) (B:=B) (L:=L) (t:=t) (rb:=rb) (i:=3) (v:=.slice t.p t.cs.length t.c) rfl;have HX:Hid (t.cells=#[↑t.a,↑t.w,↑t.x,.slice t.p t.cs.length t.c]):=lh rfl;have HNow:Hid (Pl.addS x.k.t t.a=x.now t):=lh rfl;rw [HNow.out] at HAd;have HF1:Hid (x.s.writeE t.w≠0→x.s.writeE t.w=x.err t∧⟨x.s1 t,x.k⟩=x.step t∧0=x.nd t∧0=x.ns t∧0=x.nk t):=lh (fun e=>by unfold LN.err LN.step LN.nd LN.ns LN.nk;simp only [if_pos e,and_self]);have HF2:Hid (x.s.writeE t.w=0→x.ae t≠0→x.ae t=x.err t∧⟨x.s2 t,x.k1 t⟩=x.step t∧(x.out t).length=x.nd t∧0=x.ns t∧0=x.nk t):=lh (fun e k=>by unfold LN.err LN.step LN.nd LN.ns LN.nk;simp only [e,ne_eq,not_true_eq_false,if_false,if_pos k,and_self]);have HF3:Hid (x.s.writeE t.w=0→x.ae t=0→(x.s2 t).tickE (x.now t)=x.err t∧⟨(x.s2 t).tickS (x.now t),(x.k1 t).sends (x.gone t)⟩=x.step t∧(x.out t).length=x.nd t∧(x.gone t).length=x.ns t∧(x.k1 t).kept (x.gone t)=x.nk t):=lh (fun e k=>by unfold LN.err LN.step LN.nd LN.ns LN.nk;simp only [e,k,ne_eq,not_true_eq_false,if_false,and_self]);have HF4:Hid ((x.s2 t).tickE (x.now t)≠0→(x.gone t).length=0∧(x.k1 t).sends (x.gone t)=x.k1 t∧(x.k1 t).kept (x.gone t)=0):=lh (fun e=>by
  have e2:x.gone t=[]:=by unfold LN.gone SN.tickL;exact if_neg e
  rw [e2];exact ⟨rfl,rfl,rfl⟩)
 have HF5:Hid (x.out t=[]→x.ae t=0∧x.s2 t=x.s1 t):=lh (fun e=>by unfold LN.ae LN.s2;rw [if_pos e,if_pos e];exact ⟨rfl,rfl⟩);clear h ho hr ht hc hR;rw [HX.out] at M0 ⊢;generalize x.now t=nw at *;generalize x.s1 t=s1 at *;generalize x.k1 t=k1 at *;generalize x.ae t=ae at *;generalize x.s2 t=s2 at *;generalize hO:x.out t=O at *;have HOe:=lh hO;clear hO;generalize hn:O.length=n at *;have HN:=lh hn;clear hn;generalize x.gone t=G at *;generalize G.length=g at *;generalize s2.tickS nw=s3 at *;generalize s2.tickE nw=te at *;generalize k1.sends G=k2 at *;generalize k1.kept G=nk at *;generalize x.s.writeE t.w=we at *;generalize x.err t=er at *;generalize x.step t=st at *;generalize x.nd t=nd at *;generalize x.ns t=ns at *;generalize x.nk t=nkk at *;go_enter func41,ntmps41;go_wp2_with fail;generalize W.alloc (.cells #[↑t.a,↑t.w,↑t.x,.slice t.p t.cs.length t.c] 47)=w0 at *;have M1:=lh (M0.out.to ((aB.drew w0).below _));go_region_held3 (fun w'=>Hid (LdX W B L t rb w'))
  (first | with_reducible exact (cW M2) | with_reducible exact (cW M1))
  (first | (go_at_call 29;(with_reducible refine (HWr.out _ M1.out).mono ?_);rintro e w1 ⟨rfl,M2⟩))
 clear M0 M1 HWr z1;by_cases hw:we=0
 case neg=>
  obtain ⟨rfl,rfl,rfl,rfl,rfl⟩:=HF1.out hw;have d1:(we == 0)=false:=beq_eq_false_iff_ne.2 hw;clear hw;go_wp2_with fail;go_ret;exact ⟨rfl,M2.out.at_,M2.out.bel,M2.out.kt,M2.out.r⟩
 case pos=>
 subst hw;replace HF2:=lh (HF2.out rfl);replace HF3:=lh (HF3.out rfl);clear HF1;go_wp2_with fail;have M3:=lh (M2.out.to ((aB.drew w1).below _));go_region_held3 (fun w'=>Hid (LdX W B L t rb w'))
  (first | with_reducible exact (cW M5) | with_reducible exact (cW M4) | with_reducible exact (cW M3) | exact (cW (lh (M4.out.to (aC _ _)))))
  (first
   | (go_at_call 33;(with_reducible refine (HTi.out _ M3.out).mono ?_);rintro e w2 ⟨rfl,hb⟩;have M4:=lh (M3.out.to hb);have K4:=lh (nc2 w2 x.k.t t.a 22);have M4b:=lh (M4.out.to (aC _ (.cells #[↑x.k.t,↑t.a] 22)));clear hb)
   | (go_at_call 60;(with_reducible refine (HAd.out _ _ K4.out.1 K4.out.2).mono ?_);rintro e w3 ⟨rfl,hb⟩;have M5:=lh (M4b.out.to hb);clear hb))
 clear M2 M3 M4 M4b K4 HTi HAd z0;go_wp2_with fail;have M6:=lh (M5.out.to ((aB.drew w3).below _));go_region_held3 (fun w'=>Hid (LdX W B L t rb w'))
  (first | with_reducible exact (cW M7) | with_reducible exact (cW M6))
  (first | (go_at_call 32;(with_reducible refine (HLt.out _ M6.out).mono ?_);rintro e w4 ⟨ao,cap,rfl,V7,M7⟩))
 clear M5 M6 HLt z2 z3;have q0:=M7.out.r.cell (i:=0) (v:=.int .i64 (r0:Int)) rfl;have y0:=M7.out.r.free 0;have e1:(r0:Int) + (n:Int)=((r0 + n:Nat):Int):=by omega
 have e2:IntKind.i64.wrap ((r0 + n:Nat):Int)=((r0 + n:Nat):Int):=by rw [IntKind.wrap_i64];omega
 have M8:=lh (M7.out.rep hB 0 (.int .i64 ((r0 + n:Nat):Int)) (s0:=r0 + n) (s1:=r1) (s2:=r2) rfl);have V8:=lh (V7.out.blk (fun g cs _ z=>(xZ M7.out.r hB 0 (.int .i64 ((r0 + n:Nat):Int))).2 _ (by decide) _ _ z));clear M7 V7;generalize hR0:r0 + n=R0 at *;have HR0:=lh hR0;clear hR0;by_cases hO:O=[]
 case pos=>
  obtain ⟨rfl,rfl⟩:=HF5.out hO;have hn0:n=0:=by rw [← HN.out,hO];rfl
  have d3:decide ((0:Int) < (n:Int))=false:=decide_eq_false (by omega);have d3b:decide (0 < n)=false:=decide_eq_false (by omega);have a0:=p0 _ (cW M8);clear hO hn0 HF2 HF5 HNu HAk HOe;go_wp2_with fail;clear q0 y0 e1 e2 d3 d3b V8;generalize w4.setCell ⟨rb,0,none⟩ (.int .i64 (R0:Int))=w5 at *;obtain ⟨rfl,rfl,rfl,rfl,rfl⟩:=HF3.out (by trivial);refine (HTc.out _ M8.out).mono ?_;rintro e w6 ⟨ao2,cap2,rfl,Q9⟩;clear M8 a0 HTc;by_cases hte:te=0
  case' neg=>
   obtain ⟨g1,g2,g3⟩:=HF4.out hte;have d2:(te == 0)=false:=beq_eq_false_iff_ne.2 hte;clear hte;go_wp2_with fail;go_ret;rw [g1,g2,g3,HR0.out];exact ⟨rfl,Q9.out.i.at_,Q9.out.i.bel,Q9.out.i.kt,Q9.out.i.r⟩
  case' pos=>
   subst hte;have q1:=Q9.out.i.r.cell (i:=1) (v:=.int .i64 (r1:Int)) rfl;have y1:=Q9.out.i.r.free 1;have e3:(r1:Int) + (g:Int)=((r1 + g:Nat):Int):=by omega
   have e4:IntKind.i64.wrap ((r1 + g:Nat):Int)=((r1 + g:Nat):Int):=by rw [IntKind.wrap_i64];omega
   have Q10:=lh (Q9.out.rep hB 1 (.int .i64 ((r1 + g:Nat):Int)) (s0:=R0) (s1:=r1 + g) (s2:=r2) rfl);clear Q9 HF4;generalize hR1:r1 + g=R1 at *;have HR1:=lh hR1;clear hR1;go_wp2_with fail;clear q1 y1 e3 e4;generalize w6.setCell ⟨rb,1,none⟩ (.int .i64 (R1:Int))=w7 at *;have Q11:=lh (Q10.out.to ((aB.drew w7).below _));have q2:=Q11.out.i.r.cell (i:=2) (v:=.int .i64 (r2:Int)) rfl;have a1:=p1 _ (cW (lh Q11.out.i));have e5:(r2:Int) + (nk:Int)=((r2 + nk:Nat):Int):=by omega
   have e6:IntKind.i64.wrap ((r2 + nk:Nat):Int)=((r2 + nk:Nat):Int):=by rw [IntKind.wrap_i64];omega
   generalize hR2:r2 + nk=R2 at *;have HR2:=lh hR2;clear hR2;have Y11:=pG (lh Q11.out.i);clear Q10 a1 q2;refine rhd (S:=(fun w'=>Hid (LdX W B L t rb w'))) (cW (lh Q11.out.i)) (fun hHeld=>?_);refine tkc 0 ?_;refine tkc 1 ?_;refine tkc 2 ?_;refine tkc 4 ?_;refine tkc 5 ?_;refine tkc 6 ?_;refine tks 7 ?_;refine tkc 8 ?_;refine rdy [3,9] ?_;refine cns (fun K hK=>?_) ?_
   ·have q2:=(Hid.out (by assumption):LdY W B L t rb R0 R1 r2 _).r2
    go_simp;refine bck hK hHeld (fun hHeld=>?_);clear hK;refine rdy [9] ?_;refine cns (fun K hK=>?_) .nil;go_simp;refine (HSe.out _ _ _ Q11.out).mono ?_;rintro e w8 ⟨rfl,M12⟩;have Y12:=pG M12;go_wp2_with fail;refine bck hK (cW M12) (fun hHeld=>?_);clear hK;refine tkc 10 ?_;refine tkc 11 ?_;refine tkc 12 ?_;refine rdy [13] ?_;refine cns (fun K hK=>?_) .nil;have q3:=M12.out.r.cell (i:=2) (v:=.int .i64 (r2:Int)) rfl;have y3:=M12.out.r.free 2;have M13:=lh (M12.out.rep hB 2 (.int .i64 (R2:Int)) (s0:=R0) (s1:=R1) (s2:=R2) rfl);go_simp;refine bck hK (cW M13) (fun hHeld=>?_);clear hK;refine wpAnyH_done (by kernel_rfl) ?_ _;go_wp2_with fail;go_ret;rw [HR0.out,HR1.out,HR2.out];exact ⟨rfl,M13.out.at_,M13.out.bel,M13.out.kt,M13.out.r⟩
   refine cns (fun K hK=>?_) .nil;go_simp;refine (HSe.out _ _ _ Q11.out).mono ?_;rintro e w8 ⟨rfl,M12⟩;have Y12:=pG M12;go_wp2_with fail;refine bck hK (cW M12) (fun hHeld=>?_);clear hK;refine rdy [3] ?_;refine cns (fun K hK=>?_) .nil;have q2:=(Hid.out (by assumption):LdY W B L t rb R0 R1 r2 _).r2;go_simp;refine bck hK hHeld (fun hHeld=>?_);clear hK;refine tkc 10 ?_;refine tkc 11 ?_;refine tkc 12 ?_;refine rdy [13] ?_;refine cns (fun K hK=>?_) .nil;have q3:=M12.out.r.cell (i:=2) (v:=.int .i64 (r2:Int)) rfl;have y3:=M12.out.r.free 2;have M13:=lh (M12.out.rep hB 2 (.int .i64 (R2:Int)) (s0:=R0) (s1:=R1) (s2:=R2) rfl);go_simp;refine bck hK (cW M13) (fun hHeld=>?_);clear hK;refine wpAnyH_done (by kernel_rfl) ?_ _;go_wp2_with fail;go_ret;rw [HR0.out,HR1.out,HR2.out];exact ⟨rfl,M13.out.at_,M13.out.bel,M13.out.kt,M13.out.r⟩
 case neg=>
  have hn0:0 < n:=by rw [← HN.out];exact List.length_pos_iff.2 hO
  have d3:decide ((0:Int) < (n:Int))=true:=decide_eq_true (by omega);have d3b:decide (0 < n)=true:=decide_eq_true (by omega);replace HAk:=lh (HAk.out hO);clear hO hn0 HF5 HOe;go_wp2_with fail;clear q0 y0 e1 e2 d3 d3b;generalize w4.setCell ⟨rb,0,none⟩ (.int .i64 (R0:Int))=w5 at *;have M9:=lh (M8.out.to ((aB.drew w5).below _));have V9:=lh (V8.out.keep ((aB.drew w5).below _));clear M8 V8;go_region_held3 (fun w'=>Hid (LdX W B L t rb w'))
   (first | with_reducible exact (cW M11) | with_reducible exact (cW M10) | with_reducible exact (cW M9))
   (first
    | (go_at_call 82;(with_reducible refine (HNu.out _ _ _ V9.out.its.1).mono ?_);rintro e wn ⟨vn,rfl,hvn,hb⟩;have M10:=lh (M9.out.to hb);have VN:=lh hvn;clear hb hvn)
    | (go_at_call 30;(with_reducible refine (HAk.out _ M10.out _ _ VN.out).mono ?_);rintro e wa ⟨rfl,M11⟩))
  clear M9 M10 V9 VN HNu HAk;by_cases hae:ae=0
  case neg=>
   obtain ⟨rfl,rfl,rfl,rfl,rfl⟩:=HF2.out hae;have d4:(ae == 0)=false:=beq_eq_false_iff_ne.2 hae;clear hae;go_wp2_with fail;go_ret;rw [HR0.out];exact ⟨rfl,M11.out.at_,M11.out.bel,M11.out.kt,M11.out.r⟩
  case pos=>
  subst hae;clear HF2;have M8:=M11;have a0:=p0 _ (cW M8);clear M11;go_wp2_with fail;obtain ⟨rfl,rfl,rfl,rfl,rfl⟩:=HF3.out (by trivial);refine (HTc.out _ M8.out).mono ?_;rintro e w6 ⟨ao2,cap2,rfl,Q9⟩;clear M8 a0 HTc;by_cases hte:te=0
  case' neg=>
   obtain ⟨g1,g2,g3⟩:=HF4.out hte;have d2:(te == 0)=false:=beq_eq_false_iff_ne.2 hte;clear hte;go_wp2_with fail;go_ret;rw [g1,g2,g3,HR0.out];exact ⟨rfl,Q9.out.i.at_,Q9.out.i.bel,Q9.out.i.kt,Q9.out.i.r⟩
  case' pos=>
   subst hte;have q1:=Q9.out.i.r.cell (i:=1) (v:=.int .i64 (r1:Int)) rfl;have y1:=Q9.out.i.r.free 1;have e3:(r1:Int) + (g:Int)=((r1 + g:Nat):Int):=by omega
   have e4:IntKind.i64.wrap ((r1 + g:Nat):Int)=((r1 + g:Nat):Int):=by rw [IntKind.wrap_i64];omega
   have Q10:=lh (Q9.out.rep hB 1 (.int .i64 ((r1 + g:Nat):Int)) (s0:=R0) (s1:=r1 + g) (s2:=r2) rfl);clear Q9 HF4;generalize hR1:r1 + g=R1 at *;have HR1:=lh hR1;clear hR1;go_wp2_with fail;clear q1 y1 e3 e4;generalize w6.setCell ⟨rb,1,none⟩ (.int .i64 (R1:Int))=w7 at *;have Q11:=lh (Q10.out.to ((aB.drew w7).below _));have q2:=Q11.out.i.r.cell (i:=2) (v:=.int .i64 (r2:Int)) rfl;have a1:=p1 _ (cW (lh Q11.out.i));have e5:(r2:Int) + (nk:Int)=((r2 + nk:Nat):Int):=by omega
   have e6:IntKind.i64.wrap ((r2 + nk:Nat):Int)=((r2 + nk:Nat):Int):=by rw [IntKind.wrap_i64];omega
   generalize hR2:r2 + nk=R2 at *;have HR2:=lh hR2;clear hR2;have Y11:=pG (lh Q11.out.i);clear Q10 a1 q2;refine rhd (S:=(fun w'=>Hid (LdX W B L t rb w'))) (cW (lh Q11.out.i)) (fun hHeld=>?_);refine tkc 0 ?_;refine tkc 1 ?_;refine tkc 2 ?_;refine tkc 4 ?_;refine tkc 5 ?_;refine tkc 6 ?_;refine tks 7 ?_;refine tkc 8 ?_;refine rdy [3,9] ?_;refine cns (fun K hK=>?_) ?_
   ·have q2:=(Hid.out (by assumption):LdY W B L t rb R0 R1 r2 _).r2
    go_simp;refine bck hK hHeld (fun hHeld=>?_);clear hK;refine rdy [9] ?_;refine cns (fun K hK=>?_) .nil;go_simp;refine (HSe.out _ _ _ Q11.out).mono ?_;rintro e w8 ⟨rfl,M12⟩;have Y12:=pG M12;go_wp2_with fail;refine bck hK (cW M12) (fun hHeld=>?_);clear hK;refine tkc 10 ?_;refine tkc 11 ?_;refine tkc 12 ?_;refine rdy [13] ?_;refine cns (fun K hK=>?_) .nil;have q3:=M12.out.r.cell (i:=2) (v:=.int .i64 (r2:Int)) rfl;have y3:=M12.out.r.free 2;have M13:=lh (M12.out.rep hB 2 (.int .i64 (R2:Int)) (s0:=R0) (s1:=R1) (s2:=R2) rfl);go_simp;refine bck hK (cW M13) (fun hHeld=>?_);clear hK;refine wpAnyH_done (by kernel_rfl) ?_ _;go_wp2_with fail;go_ret;rw [HR0.out,HR1.out,HR2.out];exact ⟨rfl,M13.out.at_,M13.out.bel,M13.out.kt,M13.out.r⟩
   refine cns (fun K hK=>?_) .nil;go_simp;refine (HSe.out _ _ _ Q11.out).mono ?_;rintro e w8 ⟨rfl,M12⟩;have Y12:=pG M12;go_wp2_with fail;refine bck hK (cW M12) (fun hHeld=>?_);clear hK;refine rdy [3] ?_;refine cns (fun K hK=>?_) .nil;have q2:=(Hid.out (by assumption):LdY W B L t rb R0 R1 r2 _).r2;go_simp;refine bck hK hHeld (fun hHeld=>?_);clear hK;refine tkc 10 ?_;refine tkc 11 ?_;refine tkc 12 ?_;refine rdy [13] ?_;refine cns (fun K hK=>?_) .nil;have q3:=M12.out.r.cell (i:=2) (v:=.int .i64 (r2:Int)) rfl;have y3:=M12.out.r.free 2;have M13:=lh (M12.out.rep hB 2 (.int .i64 (R2:Int)) (s0:=R0) (s1:=R1) (s2:=R2) rfl);go_simp;refine bck hK (cW M13) (fun hHeld=>?_);clear hK;refine wpAnyH_done (by kernel_rfl) ?_ _;go_wp2_with fail;go_ret;rw [HR0.out,HR1.out,HR2.out];exact ⟨rfl,M13.out.at_,M13.out.bel,M13.out.kt,M13.out.r⟩
end Go.Proofs.YtjhiooggnpbecaaGreatDoor
