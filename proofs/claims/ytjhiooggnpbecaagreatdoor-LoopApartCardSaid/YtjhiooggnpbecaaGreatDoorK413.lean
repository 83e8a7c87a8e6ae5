/- Lemmas. -/
import Derived.Laws.AppendOwnNone
import Derived.Deep.AppendLies
import Derived.Test.YtjhiooggnpbecaaGreatDoorK405
set_option linter.unusedVariables false
set_option maxHeartbeats 2000000
set_option maxRecDepth 100000
namespace Go.Proofs.YtjhiooggnpbecaaGreatDoor
open Tryz
open Go.RowKit
variable {l:List Nat} {B b g i k x:Nat} {v:Option Addr} {s:RS} {u:Value} {w w':World}
def lP (n:Nat):Value:=↑n
def uQ (l:List Nat):Array Value:=(l.map lP).toArray
theorem yU (h:i < l.length):(uQ l)[i]? =some (.int .u64 ((l.getD i 0:Nat):Int)):=by
 simp [uQ,lP,List.getD_eq_getElem?_getD,h]
def kV (w:World) (v:Option Addr) (l:List Nat):Prop:=
 0 < l.length→∃b off,v=some ⟨b,off,none⟩∧b < w.heap.size∧∀i,i < l.length→w.cell? ⟨b,off + i,none⟩=some (lP (l.getD i 0))
theorem kV.keep (h:kV w v l) (k:Below ↑w w w'):kV w' v l:=by
 intro hp;obtain ⟨b,off,e,hb,hc⟩:=h hp;exact ⟨b,off,e,Nat.lt_of_lt_of_le hb k.size,fun i hi=>(k.cell (p:=⟨b,off + i,none⟩) hb).trans (hc i hi)⟩
theorem kV.below (h:kV w v l) (k:Below B w w') (hB:∀a,v=some a→a.block < B):kV w' v l:=by
 intro hp;obtain ⟨b,off,e,hb,hc⟩:=h hp;have hlt:b < B:=hB _ e;exact ⟨b,off,e,Nat.lt_of_lt_of_le hb k.size,fun i hi=>(k.cell (p:=⟨b,off + i,none⟩) hlt).trans (hc i hi)⟩
protected theorem kV.none (w:World) (v:Option Addr):kV w v []:=fun h=>absurd h (by simp)
theorem kV.of_blk {T:TypeId} (h:Blk w g T (uQ l)):kV w (some ⟨g,0,none⟩) l:=by
 intro _;refine ⟨g,0,rfl,h.lt,fun i hi=>h.cell ?_⟩;rw [Nat.zero_add];exact yU hi
theorem sF:(∀{l:List Nat} {j:Nat} {u:Value} (h:(l.map lP)[j]? =some u),j < l.length∧u=lP (l.getD j 0))∧(∀{l:List Nat} {j:Nat} {u:Value} (h:(l.map pv)[j]? =some u),j < l.length∧u=pv (l.getD j 0)):=by
 refine ⟨?_,?_⟩
 all_goals intro l j u h
 all_goals
  have hj:j < l.length:=by
   rcases Nat.lt_or_ge j l.length with c | c
   ·exact c
   ·rw [List.getElem?_eq_none (by simpa using c)] at h;cases h
  refine ⟨hj,?_⟩;simp [hj] at h;simp [List.getD_eq_getElem?_getD,hj,h]
theorem kV.cells (h:kV w v l) (hp:0 < (l.map lP).length):∃ad,v=some ad∧∀j u,(l.map lP)[j]? =some u→w.cell? (ad.add j)=some u:=by
 obtain ⟨b,off,rfl,_,hc⟩:=h (by simpa using hp);refine ⟨_,rfl,fun j u hu=>?_⟩;obtain ⟨hj,rfl⟩:=sF.1 hu;rw [Go.WideShapes.add_plain];exact hc j hj
def mxs (x:Nat) (l:List Nat):Nat:=l.foldl max x
theorem JD (x:Nat) (l r:List Nat):mxs x (l ++ r)=mxs (mxs x l) r:=by simp [mxs]
theorem C6 (x:Nat) (h:k < l.length):mxs x (l.take (k + 1))=max (mxs x (l.take k)) (l.getD k 0):=by
 rw [List.take_succ_eq_append_getElem h,JD];simp [mxs,List.getD_eq_getElem?_getD,h]
theorem NU (hx:x≤B) (h:∀a∈l,a≤B):mxs x l≤B:=by
 induction l generalizing x with
 | nil=>exact hx
 | cons a r ih=>
   have h1:a≤B:=h a (by simp);simp only [mxs,List.foldl_cons] at *;exact ih (by omega) (fun y hy=>h y (by simp [hy]))
theorem C9 (x y:Nat):(if (x:Int) < (y:Int) then (y:Int) else (x:Int))=((max x y:Nat):Int):=by
 split <;> omega

structure CY where
 a:Nat
 t:Nat
 n:Nat
def CY.cells (s:CY):Array Value:=#[↑s.a,↑s.t,↑s.n]
def CY.best (s:CY):Nat:=max s.a s.t
def CY.next (s:CY):CY:=⟨s.t,0,(s.n + 1) % 18446744073709551616⟩
def CY.put (s:CY) (l:List Nat):CY:=⟨s.a,mxs s.t l,s.n⟩
def j6 (w:World) (b:Nat) (s:CY):Prop:=Blk w b 232 s.cells
theorem NV (w:World):Calls prog 98 #[] w fun e w'=>e=.returned ↑(π w.heap.size)∧j6 w' w.heap.size ⟨0,0,0⟩∧Below ↑w w w':=by
 go_enter func98,ntmps98;go_wp2;go_ret;exact ⟨rfl,Blk.new _ _ _,(Below.refl _ _).alloc (Nat.le_refl _) _⟩
theorem DA (b:Nat) (s:CY) (w:World) (h:j6 w b s):Calls prog 235 #[↑(π b)] w fun e w'=>e=.returned ↑s.n∧w=w':=by
 have h2:=Blk.cell h (i:=2) (v:=↑s.n) rfl;clear h;go_enter func235,ntmps235;go_wp2;go_ret;exact ⟨rfl,rfl⟩
theorem NW (a b c d:Int) (w:World):(Op.equalIn 10000 61 (.agg #[.int .u64 a,.int .u64 b]) (.agg #[.int .u64 c,.int .u64 d])).run prog w=.ok (a == c && b == d) w:=by
 have u3:=underlying22;have a3:=Tryz.isAgg22;have z3:=Tryz.sizeOf22;rw [show (10000:Nat)=9999 + 1 from rfl,Op.equalIn];simp only [Sem.run_bind,run_underlying underlying61,Result.andThen_ok];simp only [Std.Legacy.Range.forIn_eq_forIn_range',Std.Legacy.Range.size,Nat.sub_zero,Nat.add_sub_cancel,Nat.div_one,List.range'_succ,List.range'_zero,List.forIn_cons,List.forIn_nil];go_simp;by_cases h1:a=c <;> by_cases h2:b=d <;> simp [h1,h2]
theorem l6 (b:Nat) (s:CY) (w:World) (h:j6 w b s):Calls prog 88 #[↑(π b)] w fun e w'=>e=.returned ↑s.best∧Below ↑w w w':=by
 have h0:=Blk.cell h (i:=0) (v:=↑s.a) rfl;have h1:=Blk.cell h (i:=1) (v:=↑s.t) rfl;have HE:=lh (C9 s.a s.t);unfold CY.best;clear h;obtain ⟨r,hr⟩:∃r:Bool,((s.a:Int) == 0 && (s.t:Int) == 0)=r:=⟨_,rfl⟩;have heq:∀w,(Op.equalIn 10000 61 (.agg #[↑s.a,↑s.t]) (.agg #[↑ζ,↑ζ])).run prog w=.ok r w:=fun w=>by rw [NW,hr]
 have HR:=lh hr;clear hr;rcases r
 ·go_enter func88,ntmps88
  go_wp2;go_region
  go_wp2;all_goals
   go_ret;exact ⟨bH (by omega),(aB.drew _).below _⟩
 ·go_enter func88,ntmps88
  go_wp2;go_ret;have:=HR.out;simp at this
  exact ⟨bH (by rw [this.1,this.2];rfl),Below.refl _ _⟩
theorem JE (b:Nat) (s:CY) (w:World) (h:j6 w b s):Calls prog 227 #[↑(π b)] w fun e w'=>e=.returned (.tuple #[])∧j6 w' b s.next∧w.grownBy w' (some b):=by
 have h0:=Blk.cell h (i:=0) (v:=↑s.a) rfl;have h1:=Blk.cell h (i:=1) (v:=↑s.t) rfl;have h2:=Blk.cell h (i:=2) (v:=↑s.n) rfl;have f0:=Blk.free h 0;have f1:=Blk.free h 1;have f2:=Blk.free h 2;have HH:=lh h;clear h;go_enter func227,ntmps227;go_wp2;go_end0
 refine ⟨rfl,?_,bI (bI (bI (bS _ _) _ _) _ _) _ _⟩;have:=((Blk.set HH.out 0 ↑s.t).set 1 ↑ζ).set 2 (.int .u64 (IntKind.u64.wrap ((s.n:Int) + 1)));have e:IntKind.u64.wrap ((s.n:Int) + 1)=(((s.n + 1) % 18446744073709551616:Nat):Int):=by
  simp [IntKind.wrap,IntKind.signed,IntKind.bits]
 unfold j6;simpa [CY.cells,CY.next,e] using this
def NX (w:World) (b:Nat) (s:CY) (l:List Nat) (k:Nat) (wr:World):Prop:=k≤l.length∧j6 wr b (s.put (l.take k))∧w.grownBy wr (some b)
theorem NY (b:Nat) (s:CY) (v:Option Addr) (cap:Nat) (l:List Nat) (w:World) (h:j6 w b s) (hl:kV w v l) (hv:0 < l.length→∀a,v=some a→a.block≠b) (hn:l.length≤1000):
  Calls prog 219 #[↑(π b),.slice v l.length cap] w fun e w'=>e=.returned (.tuple #[])∧j6 w' b (s.put l)∧w.grownBy w' (some b):=by
 have HH:=lh h;have HN:=lh hl;have HV:=lh hv;clear h hl hv;go_enter func219,ntmps219;go_wp2_with fail;go_loopw [10] (fun i wr=>∃k:Nat,i=.int .i64 (k:Int)∧NX w b s l k wr) (fun i _=>l.length - (intOf i).toNat)
 case atStart=>exact ⟨0,rfl,Nat.zero_le _,HH.out,bS _ _⟩
 case round=>
  obtain ⟨k,rfl,hk,hc,hg⟩:=hrel;have HC:=lh hc;have HG:=lh hg;clear hc hg;by_cases hlt:k < l.length
  ·obtain ⟨ad,o,rfl,hb,hcl⟩:=HN.out (by omega)
   have hx:=(World.grownBy.cell_far HG.out ⟨ad,o + k,none⟩ hb (by have:=HV.out (by omega) _ rfl;intro e;injection e with e;exact this e)).trans (hcl k hlt);have h0:=Blk.cell HC.out (i:=0) (v:=↑s.a) rfl;have h1:=Blk.cell HC.out (i:=1) (v:=↑(mxs s.t (l.take k):Nat)) rfl;have f1:=Blk.free HC.out 1;have i0:(0:Int)≤(k:Int):=by omega
   have i1:(k:Int) < (l.length:Int):=by omega
   have HM:=lh (C6 s.t hlt);unfold lP at hx;generalize l.getD k 0=x at *;obtain ⟨m,hm⟩:∃m,mxs s.t (l.take k)=m:=⟨_,rfl⟩;have HMM:=lh hm;rw [hm] at h1 HM;clear hm hcl;have HE:=lh (C9 m x);go_wp2_with fail;go_region
   have HC2:Hid (j6 _ b (s.put (l.take (k + 1)))):=lh (Blk.set HC.out 1 ↑(mxs s.t (l.take (k + 1)):Nat));have HG2:=lh (dP (bI HG.out 1 ↑(mxs s.t (l.take (k + 1)):Nat)));have HI:Hid ((if m < x then (x:Int) else (m:Int))=((mxs s.t (l.take (k + 1)):Nat):Int)):=lh (by rw [HM.out];split <;> omega);go_wp2_with fail;rw [HI.out];go_roundw
   case rel=>exact ⟨k + 1,by go_num,by omega,HC2.out,HG2.out⟩
   case measure=>simp [intOf];omega
  ·obtain rfl:k=l.length:=by omega
   go_wp2_with fail;go_end0
   exact ⟨rfl,by have:=HC.out;rwa [List.take_length] at this,HG.out⟩

def bO (w:World) (b g:Nat) (l:List Pk):Prop:=∃q:QS Pk,q.ok∧q.items=l∧cF w b g q
theorem bO.keep {w w':World} {b g:Nat} {l:List Pk} (h:bO w b g l) (k:Below ↑w w w'):bO w' b g l:=by obtain ⟨q,h1,h2,h3⟩:=h;exact ⟨q,h1,h2,h3.keep k⟩
theorem bO.drawn {l:List Pk} (h:bO w b g l) (k:aB w w'):bO w' b g l:=h.keep (k.below _)
theorem bO.alloc {w:World} {b g:Nat} {l:List Pk} (h:bO w b g l) (o:Obj):bO (w.alloc o) b g l:=h.keep ((Below.refl _ _).alloc (Nat.le_refl _) _)
theorem bO.fr {w w':World} {b g:Nat} {l:List Pk} {L:List Nat} (h:bO w b g l) (k:Fr w w' L) (h1:b ∉ L) (h2:g ∉ L):bO w' b g l:=by obtain ⟨q,a,c,d⟩:=h;exact ⟨q,a,c,⟨d.head.fr k h1,d.body.fr k h2⟩⟩
theorem bO.set_other {w:World} {b g c i:Nat} {u:Value} {l:List Pk} (h:bO w b g l) (h1:b≠c) (h2:g≠c):bO (w.setCell ⟨c,i,none⟩ u) b g l:=by obtain ⟨q,a,d,e⟩:=h;exact ⟨q,a,d,⟨e.head.set_other i u h1,e.body.set_other i u h2⟩⟩
theorem bO.ne {w:World} {b g:Nat} {l:List Pk} (h:bO w b g l):b≠g:=by obtain ⟨q,_,_,h3⟩:=h;exact h3.ne
theorem bO.lt {w:World} {b g:Nat} {l:List Pk} (h:bO w b g l):b < w.heap.size∧g < w.heap.size:=by obtain ⟨q,_,_,h3⟩:=h;exact ⟨h3.head.lt,h3.body.lt⟩
theorem bO.len {l:List Pk} (h:bO w b g l):l.length≤100000:=by obtain ⟨q,h1,h2,h3⟩:=h;rw [← h2,QS.len_items];exact Nat.le_trans h1.c h1.m
theorem bO.head {w:World} {b g:Nat} {l:List Pk} (h:bO w b g l):∃cs,Blk w b 296 cs:=by obtain ⟨q,_,_,h3⟩:=h;exact ⟨_,h3.head⟩
theorem bO.body {w:World} {b g:Nat} {l:List Pk} (h:bO w b g l):∃cs,Blk w g 73 cs:=by obtain ⟨q,_,_,h3⟩:=h;exact ⟨_,h3.body⟩
structure fW (w:World) (b g:Nat) (v:Ending) (l:List Pk) (e:Ending) (w':World):Prop where
 e:e=v
 at_:∃g',bO w' b g' l∧(g'=g∨w.heap.size≤g')
 mv:Fr w w' [b,g]
theorem gQ.row {v:Ending} {s:QS Pk} {l:List Pk} {e:Ending} (h:gQ w b g v s e w') (ho:s.ok) (hl:s.items=l):fW w b g v l e w':=by
 obtain ⟨h1,⟨g',h2,h3⟩,h4⟩:=h;exact ⟨h1,⟨g',⟨s,ho,hl,h2⟩,h3⟩,Fr.of_mv h4⟩
theorem PU (b g i:Nat) (l:List Pk) (w:World) (h:bO w b g l) (hi:i < l.length):
  Calls prog 188 #[↑(π b),.int .i64 (i:Int)] w fun e w'=>e=cN (l.getD i Itm.z) true∧Below ↑w w w':=by
 obtain ⟨q,h1,rfl,h3⟩:=h;rw [QS.len_items] at hi;rw [QS.get_item hi];exact jM.2 b g i q w h3 h1 hi
theorem yV (b g:Nat) (i:Int) (l:List Pk) (w:World) (h:bO w b g l) (hi:i < 0∨(l.length:Int)≤i):
  Calls prog 188 #[↑(π b),.int .i64 i] w fun e w'=>e=cN Itm.z false∧Below ↑w w w':=by
 obtain ⟨q,h1,rfl,h3⟩:=h;rw [QS.len_items] at hi;exact oJ b g i q w h3 hi
theorem JF (b g:Nat) (x:Pk) (l:List Pk) (w:World) (h:bO w b g l) (hl:l.length≤5500):
  Calls prog 248 #[↑(π b),x.agg] w (fW w b g (.returned (.tuple #[])) (l ++ [x])):=by
 obtain ⟨q,h1,rfl,h3⟩:=h;rw [QS.len_items] at hl;exact (IM b g x q w h3 h1 hl).mono fun e w' hp=>hp.row (QS.push_ok h1 hl x) (QS.push_items h1 x)
theorem DB (b g:Nat) (x:Pk) (l:List Pk) (w:World) (h:bO w b g (x :: l)):
  Calls prog 240 #[↑(π b)] w (fW w b g (cN x true) l):=by
 obtain ⟨q,h1,h2,h3⟩:=h;have hc:0 < q.cnt:=by rw [← QS.len_items,h2];simp
 have e:q.get 0=x:=by rw [← QS.get_item hc,h2];rfl
 have:=(mI.1 b g q w h3 h1 hc).mono fun e w' hp=>hp.row (QS.shift_ok h1 hc) (QS.shift_items h1 hc);rw [e,h2] at this;exact this
theorem nS (b g:Nat) (w:World) (h:bO w b g []):
  Calls prog 240 #[↑(π b)] w (fW w b g (cN Itm.z false) []):=by
 obtain ⟨q,h1,h2,h3⟩:=h;have hc:q.cnt=0:=by rw [← QS.len_items,h2];rfl
 exact (mI.2 b g q w h3 hc).mono fun e w' hp=>hp.row h1 h2
structure NZ (w:World) (l:List Pk) (e:Ending) (w':World):Prop where
 at_:∃b g,e=.returned ↑(π b)∧bO w' b g l∧↑w≤b∧↑w≤g
 bel:Below ↑w w w'
theorem N9 (v:Option Addr) (cap:Nat) (l:List Pk) (w:World) (h:Its w v l) (hn:l.length≤100000):
  Calls prog 139 #[.slice v l.length cap] w (NZ w l):=
 (NK v cap l w h hn).mono fun e w' hp=>by
  obtain ⟨⟨b,g,h1,h2,h3,h4⟩,h5⟩:=hp;exact ⟨⟨b,g,h1,⟨_,QS.new_ok hn,QS.new_items l,h2⟩,h3,h4⟩,h5⟩

def Jp.agg (r:Jp):Value:=.agg #[↑r.p.n,↑r.p.size,↑r.p.sent,↑r.p.first,↑r.p.deliv,↑r.p.at_,.bool r.p.lim,↑r.due]
def dU (s:QS Jp) (g:Nat):Array Value:=#[.slice (some ⟨g,0,none⟩) s.pl.length s.pl.length,.int .i64 (s.first:Int),.int .i64 (s.cnt:Int)]
structure cH (w:World) (b g:Nat) (s:QS Jp):Prop where
 head:Blk w b 299 (dU s g)
 body:Blk w g 226 (aJ s.pl)
theorem cH.below {w w':World} {b g B:Nat} {s:QS Jp} (h:cH w b g s) (k:Below B w w') (hb:b < B) (hg:g < B):cH w' b g s:=⟨h.head.below k hb,h.body.below k hg⟩
theorem cH.keep {w w':World} {b g:Nat} {s:QS Jp} (h:cH w b g s) (k:Below ↑w w w'):cH w' b g s:=⟨h.head.keep k,h.body.keep k⟩
theorem cH.alloc {w:World} {b g:Nat} {s:QS Jp} (h:cH w b g s) (o:Obj):cH (w.alloc o) b g s:=⟨h.head.alloc o,h.body.alloc o⟩
theorem cH.drawn {a b:World} (h:aB a b) {s:QS Jp} (k:cH a x g s):cH b x g s:=⟨h.blk k.head,h.blk k.body⟩
theorem cH.ne {s:QS Jp} (h:cH w b g s):b≠g:=h.head.ty h.body (by decide)
theorem cH.mv {w w':World} {b g c d:Nat} {s:QS Jp} (h:cH w b g s) (k:Mv w w' c d) (h1:b≠c) (h2:b≠d) (h3:g≠c) (h4:g≠d):cH w' b g s:=⟨h.head.mv k h1 h2,h.body.mv k h3 h4⟩
structure iF (w:World) (b g:Nat) (v:Ending) (s:QS Jp) (e:Ending) (w':World):Prop where
 e:e=v
 at_:∃g',cH w' b g' s∧(g'=g∨w.heap.size≤g')
 mv:Mv w w' b g
structure wM (w:World) (b g:Nat) (s:QS Jp) (e:Ending) (w':World):Prop where
 e:e=.returned (.tuple #[])
 at_:cH w' b g s
 mv:Mv w w' b g
theorem JG:(prog.info? 226).map (fun i=>(i.zero,i.size,i.bytes))=some (some (.agg #[↑ζ,↑ζ,↑ζ,↑ζ,↑ζ,↑ζ,.bool false,↑ζ]),8,64):=by kernel_rfl
theorem MS (n:Nat) (hn:n≤100000) (w:World):(Instr.makeSlice 297 (.int .i64 (n:Int)) (.int .i64 (n:Int))).run prog w=.ok (.slice (some ⟨w.heap.size,0,none⟩) n n) (w.alloc (.cells (aJ (List.replicate n (Itm.z (α:=Jp)))) 226)):=by
 obtain ⟨i0,hi,hz0,hz1,hz2⟩:=info_parts JG;have:=run_make (P:=prog) w 297 226 i0 _ underlying297 hi hz0 .i64 .i64 n n (by omega) (by omega) (by rw [hz2];omega) (by omega);rw [this,hz1];have e:=fD (α:=Jp) (Value.agg #[↑ζ,↑ζ,↑ζ,↑ζ,↑ζ,↑ζ,.bool false,↑ζ]).cells rfl n;have k:Itm.k Jp=8:=rfl;rw [k] at e;simp only [Int.toNat_natCast,e]
theorem fP (b g i:Nat) (s:QS Jp) (w:World) (h:cH w b g s) (ho:s.ok) (hp:0 < s.pl.length) (hi:i≤100000):
  Calls prog 242 #[↑(π b),.int .i64 (i:Int)] w fun e w'=>e=.returned (.int .i64 ((s.pos i:Nat):Int))∧aB w w':=by
 have h0:=h.head.cell (i:=0) (v:=.slice (some ⟨g,0,none⟩) s.pl.length s.pl.length) rfl;have h1:=h.head.cell (i:=1) (v:=.int .i64 (s.first:Int)) rfl;have hf:=ho.f;have hm:=ho.m;have hn:(s.pl.length == 0)=false:=beq_false_of_ne (by omega);have HE:Hid (((s.pos i:Nat):Int)=((s.first:Int) + (i:Int)) % (s.pl.length:Int)):=lh (by simp [QS.pos]);generalize s.pos i=p at *;clear h ho;generalize s.pl.length=n at *;generalize s.first=f at *;go_enter func242,ntmps242;go_wp2_with fail;go_quiet (fail)
 go_wp2_with fail;go_ret;exact ⟨by rw [HE.out];rfl,nq,rfl⟩
theorem DC (b g:Nat) (s:QS Jp) (w:World) (h:cH w b g s):
  Calls prog 278 #[↑(π b)] w fun e w'=>e=.returned (.int .i64 (s.cnt:Int))∧w=w':=by
 have c2:=h.head.cell (i:=2) (v:=.int .i64 (s.cnt:Int)) rfl;clear h;go_enter func278,ntmps278;go_wp2;go_ret;exact ⟨rfl,rfl⟩

theorem pZ (x:Jp):(prog.info? 226).map (·.size)=some (Itm.cs x).length:=by rw [Itm.len];kernel_rfl
def DD (w:World) (s:QS Jp) (n k:Nat) (wr:World):Prop:=
 k≤s.cnt∧Blk wr w.heap.size 226 (aJ (s.items.take k ++ List.replicate (n - k) Itm.z))∧Below ↑w w wr
structure yW (w:World) (l:List Jp) (e:Ending) (w':World):Prop where
 e:e=.returned (.slice (some ⟨w.heap.size,0,none⟩) l.length l.length)
 blk:Blk w' w.heap.size 226 (aJ l)
 bel:Below ↑w w w'
theorem OA (b g n:Nat) (s:QS Jp) (w:World) (h:cH w b g s) (ho:s.ok) (hn:s.cnt≤n) (hm:n≤100000):
  Calls prog 265 #[↑(π b),.int .i64 (n:Int)] w (yW w (s.lay n)):=by
 have HH:=lh h;have HO:=lh ho;have hbl:=h.head.lt;have hgl:=h.body.lt;have hmk:=MS n hm;have h2:=(h.head.alloc (.cells (aJ (List.replicate n (Itm.z (α:=Jp)))) 226)).cell (i:=2) (v:=.int .i64 (s.cnt:Int)) rfl;have hu:=underlying226;clear h ho;go_enter func265,ntmps265;go_wp2_with fail;go_loopw [13] (fun i wr=>∃k:Nat,i=.int .i64 (k:Int)∧DD w s n k wr) (fun i _=>s.cnt - (intOf i).toNat)
 case atStart=>
  exact ⟨0,rfl,Nat.zero_le _,by simpa using Blk.new _ _ _,(Below.refl _ _).alloc (Nat.le_refl _) _⟩
 case round=>
  obtain ⟨k,rfl,hk,hb1,hbel⟩:=hrel;have HB:=lh hb1;have HW:=lh hbel;have HR:=lh (HH.out.below hbel hbl hgl);clear hb1 hbel h2 hmk;by_cases hlt:k < s.cnt
  ·have hp:0 < s.pl.length:=by have:=HO.out.c;omega
   have hpl:=QS.pos_lt hp k;have a0:=HR.out.head.drew.cell (i:=0) (v:=.slice (some ⟨g,0,none⟩) s.pl.length s.pl.length) rfl;have r0:wr.drew.rangeAt g (s.pos k * 8) (Itm.cs (s.get k)):=HR.out.body.drew.range (k:=8) rfl hpl;have HP:=lh (fun (w:World) h=>fP b g k s w h HO.out hp (by omega));have hlen:(s.items.take k ++ List.replicate (n - k) Itm.z).length=n:=by simp [QS.len_items];omega
   have t0:=HB.out.drew.therei (k:=8) (i:=k) rfl (by rw [hlen];omega);have HL:=lh (pI hlt hn);have i0:(0:Int)≤(k:Int):=by omega
   have i1:(k:Int) < (n:Int):=by omega
   have i2:k < n:=by omega
   have i3:(0:Int)≤((s.pos k:Nat):Int):=by omega
   have i4:((s.pos k:Nat):Int) < (s.pl.length:Int):=by omega
   have hl:(Itm.cs (s.get k)).length=8:=Itm.len _;have h1:∀v∈Itm.cs (s.get k),v.oneCell'=true:=Itm.one _;have hi:=pZ (s.get k);generalize (s.items.take k ++ List.replicate (n - k) Itm.z)=cur at *;generalize s.pos k=p at *;generalize s.get k=x at *;generalize hxc:Itm.cs x=xc at *;have HC:=lh hxc;clear hxc;go_wp2_with fail;refine rhd (S:=(fun w'=>w'.cell? ⟨b,0,none⟩=some (.slice (some ⟨g,0,none⟩) s.pl.length s.pl.length)∧w'.rangeAt g (p * 8) xc∧w'.there w.heap.size (k * 8) 8)) ⟨a0,r0,t0⟩ (fun hHeld=>?_);refine tkc 0 ?_;refine tkc 1 ?_;refine tkc 2 ?_;refine tkc 3 ?_;refine tkc 4 ?_;refine wpAnyH_take (i:=5) (oi:=⟨some 21,_,_,_,_,_⟩) (v:=?v14) rfl (by kernel_rfl) (by kernel_rfl) (by kernel_rfl) (fun _ _ _ h=>h) (Or.inl ⟨by rfl,?y14⟩) (by assumption) ?r14
   case y14=>intro w hSw;obtain ⟨s0,s1,s2⟩:=hSw;go_simp;(try with_reducible rfl)
   simp only [Act.put,List.setIfInBounds_toArray,List.set_cons_zero,List.set_cons_succ];refine tkc 6 ?_;refine tkc 7 ?_;refine rdy [8] ?_;refine cns (fun K hK=>?_) .nil;go_simp;refine (HP.out _ (cH.drawn (aB.drew wr) HR.out)).mono ?_;rintro e w' ⟨rfl,hd⟩;have HD:=lh hd;clear hd;have b0:=(HD.out.cell _).trans a0;have r1:=dM HD.out r0;have t1:=dN HD.out t0;go_wp2_with fail;refine bck hK ⟨b0,r1,t1⟩ (fun hHeld=>?_);clear hK;refine tkc 9 ?_;refine' wpAnyH_take (i:=10) (oi:=⟨some 26,_,_,_,_,_⟩) (v:=_) rfl (by kernel_rfl) (by kernel_rfl) (by kernel_rfl) (fun _ _ _ h=>h) (yieldsIf_load_mid (by rfl) _ _ rfl _ _ rfl _ _ ?hS18 hu rfl hi) (by assumption) ?r18
   case hS18=>intro w hSw;exact hSw.2.1
   simp only [Act.put,List.setIfInBounds_toArray,List.set_cons_zero,List.set_cons_succ];refine tkc 11 ?_;refine rdy [12] ?_;refine cns (fun K hK=>?_) .nil;rw [if_pos (by rfl)];refine wp_store_mid _ _ _ rfl _ _ (List.toArray _) rfl rfl (by have e:=hl;rw [← List.size_toArray] at e;rw [e];exact t1) (by rw [List.size_toArray];exact hi) (all_oneCell_toArray h1) ?_;dsimp only
   refine bck hK ⟨bA b0 (by dsimp;omega),World.rangeAt_setCells_apart r1 _ _ _ (.inl (by omega)),World.there_setCells t1 _ _ _⟩ (fun hHeld=>?_);clear hK;refine wpAnyH_done (by kernel_rfl) ?_ _;have hD:aB wr w':=(aB.drew wr).more HD.out;have F1:Hid (Blk (w'.setCells w.heap.size (k * 8) xc) w.heap.size 226 (aJ (cur.set k x))):=lh (by
    have:=Blk.sets xc (k * Itm.k Jp) w' _ (hD.blk HB.out);have e:=bN cur k x (by omega);rw [HC.out] at e;rw [e] at this;exact this)
   have F2:Hid (Below ↑w w (w'.setCells w.heap.size (k * 8) xc)):=lh (Below.sets (Nat.le_refl _) xc (k * 8) w' (HW.out.trans (hD.below _)));rw [HL.out] at F1;generalize (w'.setCells w.heap.size (k * 8) xc)=w2 at *;clear a0 b0 r0 r1 t0 t1 hHeld hD HD HP HL hlen hi hl h1;go_wp2_with fail;go_roundw
   case rel=>exact ⟨k + 1,by go_num,by omega,F1.out,F2.out⟩
   case measure=>simp [intOf];omega
  ·obtain rfl:k=s.cnt:=by omega
   have HL:Hid (s.lay n=s.items.take s.cnt ++ List.replicate (n - s.cnt) Itm.z):=lh (by rw [List.take_of_length_le (by rw [QS.len_items];exact Nat.le_refl _)];rfl);have HN:=lh (QS.len_lay hn);go_wp2_with fail;go_ret;exact ⟨by rw [HN.out];rfl,by rw [HL.out];exact HB.out,HW.out⟩
theorem p4 (b g n:Nat) (s:QS Jp) (w:World) (h:cH w b g s) (ho:s.ok) (hn:s.cnt≤n) (hm:n≤100000):
  Calls prog 241 #[↑(π b),.int .i64 (n:Int)] w (iF w b g (.returned (.tuple #[])) (s.move n)):=by
 have HH:=lh h;have HN:=lh h.ne;have HL:=lh (OA b g n s w h ho hn hm);have HE:=lh (QS.len_lay hn);have hbl:=h.head.lt;clear h ho;go_enter func241,ntmps241;go_wp2_with fail;refine (HL.out).mono ?_;rintro e w1 ⟨rfl,hb,hbel⟩;have HB:=lh hb;have HW:=lh hbel;have H1:=lh (HH.out.head.keep hbel);have c0:=H1.out.cell (i:=0) (v:=.slice (some ⟨g,0,none⟩) s.pl.length s.pl.length) rfl;have c1:=H1.out.cell (i:=1) (v:=.int .i64 (s.first:Int)) rfl;have f0:=H1.out.free 0;have f1:=H1.out.free 1;clear hb hbel;rw [HE.out];go_wp2_with fail;go_end0
 refine ⟨rfl,⟨w.heap.size,⟨?_,?_⟩,.inr (Nat.le_refl _)⟩,((Mv.of_below HW.out b g).set (.inl rfl) _ _).set (.inl rfl) _ _⟩
 ·have:=(H1.out.set 0 (.slice (some ⟨w.heap.size,0,none⟩) n n)).set 1 (.int .i64 0)
  simpa [dU,QS.move,HE.out] using this
 ·exact (HB.out.set_other _ _ (by omega)).set_other _ _ (by omega)

theorem yX (b g:Nat) (s:QS Jp) (w:World) (h:cH w b g s) (ho:s.ok):
  Calls prog 268 #[↑(π b)] w (iF w b g (.returned (.tuple #[])) s.narrow):=by
 have HH:=lh h;have HO:=lh ho;have c0:=h.head.cell (i:=0) (v:=.slice (some ⟨g,0,none⟩) s.pl.length s.pl.length) rfl;have c2:=h.head.cell (i:=2) (v:=.int .i64 (s.cnt:Int)) rfl;have hm:=ho.m;have hc:=ho.c;clear h ho;by_cases a:0 < s.cnt
 ·by_cases d:s.cnt≤s.pl.length / 4
  ·have HE:Hid (s.narrow=s.move (s.pl.length / 2)):=lh (if_pos ⟨a,d⟩)
   have d1:decide ((s.cnt:Int)≤(s.pl.length:Int) / 4)=true:=by simp;omega
   go_enter func268,ntmps268;go_wp2_with fail;go_quiet (fail)
   have HD:Hid (aB w (w.drewN nq)):=lh ⟨nq,rfl⟩;have e0:=(HD.out.cell _).trans c0;generalize w.drewN nq=w1 at *;go_wp2_with fail;have e:((s.pl.length:Int) / 2)=((s.pl.length / 2:Nat):Int):=by omega
   rw [e];clear e;refine (p4 b g (s.pl.length / 2) s w1 (cH.drawn HD.out HH.out) HO.out (by omega) (by omega)).mono ?_;rintro e w2 ⟨rfl,hat,hmv⟩;have HA:=lh hat;have HM:=lh hmv;clear hat hmv;go_wp2_with fail;go_end0
   obtain ⟨g',h1,h2⟩:=HA.out;rw [HE.out];exact ⟨rfl,⟨g',h1,by rw [HD.out.heap] at h2;exact h2⟩,((Mv.refl w b g).drawn HD.out).trans HM.out (.inl rfl)⟩
  ·have HE:Hid (s.narrow=s):=lh (if_neg (fun k=>d k.2))
   have d1:decide ((s.cnt:Int)≤(s.pl.length:Int) / 4)=false:=by simp;omega
   go_enter func268,ntmps268;go_wp2_with fail;go_quiet (fail)
   have HD:Hid (aB w (w.drewN nq)):=lh ⟨nq,rfl⟩;go_wp2_with fail;go_end0
   rw [HE.out];exact ⟨rfl,⟨g,cH.drawn HD.out HH.out,.inl rfl⟩,(Mv.refl w b g).drawn HD.out⟩
 ·have HE:Hid (s.narrow=s):=lh (if_neg (fun k=>a k.1))
  have d0:decide ((0:Int) < (s.cnt:Int))=false:=by simp;omega
  have d1:decide (0 < s.cnt)=false:=by simp;omega
  go_enter func268,ntmps268;go_wp2_with fail;go_quiet (fail)
  have HD:Hid (aB w (w.drewN nq)):=lh ⟨nq,rfl⟩;go_wp2_with fail;go_end0
  rw [HE.out];exact ⟨rfl,⟨g,cH.drawn HD.out HH.out,.inl rfl⟩,(Mv.refl w b g).drawn HD.out⟩
def gE (x:Jp) (ok:Bool):Ending:=.returned (.tuple #[x.agg,.bool ok])
theorem jQ:(∀(b g i:Nat) (s:QS Jp) (w:World) (h:cH w b g s) (ho:s.ok) (hp:0 < s.pl.length) (hi:i≤100000),Calls prog 267 #[↑(π b),.int .i64 (i:Int)] w (wM w b g (s.put i Itm.z)))∧(∀(b g i:Nat) (s:QS Jp) (w:World) (h:cH w b g s) (ho:s.ok) (hi:i < s.cnt),Calls prog 266 #[↑(π b),.int .i64 (i:Int)] w fun e w'=>e=gE (s.get i) true∧Below ↑w w w'):=by
 refine ⟨?_,?_⟩
 have k0v:Hid True:=trivial;intro b g i s w h ho hp hi;rotate_left;have k1v:Hid True:=trivial;intro b g i s w h ho hi;rotate_left
 all_goals
  first
  |revert k0v;intro k0v;have HN:=lh h.ne;have HO:=lh ho;have HB:=lh (show Blk (w.alloc (.cells #[↑ζ,↑ζ,↑ζ,↑ζ,↑ζ,↑ζ,.bool false,↑ζ] 226)) w.heap.size 226 (Itm.cs (Itm.z (α:=Jp))).toArray from Blk.new _ _ _)
  |have HO:=lh ho;have HB:=lh (show Blk (w.alloc (.cells #[↑ζ,↑ζ,↑ζ,↑ζ,↑ζ,↑ζ,.bool false,↑ζ] 226)) w.heap.size 226 #[↑ζ,↑ζ,↑ζ,↑ζ,↑ζ,↑ζ,.bool false,↑ζ] from Blk.new _ _ _)
  have HH:=lh (h.alloc (.cells #[↑ζ,↑ζ,↑ζ,↑ζ,↑ζ,↑ζ,.bool false,↑ζ] 226));first
  |revert k0v;intro k0v;have HW:Hid (Mv w (w.alloc (.cells #[↑ζ,↑ζ,↑ζ,↑ζ,↑ζ,↑ζ,.bool false,↑ζ] 226)) b g):=lh ((Mv.refl w b g).alloc _);have HZ:Hid (w.heap.size≠g):=lh (Ne.symm h.body.old);have hpl:=QS.pos_lt hp i;have HP:=lh (fun (w:World) h=>fP b g i s w h ho hp hi)
  |have HW:Hid (Below ↑w w (w.alloc (.cells #[↑ζ,↑ζ,↑ζ,↑ζ,↑ζ,↑ζ,.bool false,↑ζ] 226))):=lh ((Below.refl _ _).alloc (Nat.le_refl _) _);have HZ:Hid (g≠w.heap.size):=lh h.body.old;have HZ2:Hid (b≠w.heap.size):=lh h.head.old;have hp:0 < s.pl.length:=by have:=ho.c;omega
   have hpl:=QS.pos_lt hp i;have hc:=ho.c;have hm:=ho.m;have a0:=HH.out.head.drew.cell (i:=0) (v:=.slice (some ⟨g,0,none⟩) s.pl.length s.pl.length) rfl;have r0:(w.alloc (.cells #[↑ζ,↑ζ,↑ζ,↑ζ,↑ζ,↑ζ,.bool false,↑ζ] 226)).drew.rangeAt g (s.pos i * 8) (Itm.cs (s.get i)):=HH.out.body.drew.range (k:=8) rfl hpl;have t0:(w.alloc (.cells #[↑ζ,↑ζ,↑ζ,↑ζ,↑ζ,↑ζ,.bool false,↑ζ] 226)).drew.there w.heap.size 0 8:=HB.out.drew.there (by decide);have HP:=lh (fun (w:World) h=>fP b g i s w h HO.out hp (by omega));have HL:=lh (DC b g s (w.alloc (.cells #[↑ζ,↑ζ,↑ζ,↑ζ,↑ζ,↑ζ,.bool false,↑ζ] 226)) HH.out);have HX:Hid (gE (s.get i) true=.returned (.tuple #[.agg (Itm.cs (s.get i)).toArray,.bool true])):=lh rfl
  have i3:(0:Int)≤((s.pos i:Nat):Int):=by omega
  have i4:((s.pos i:Nat):Int) < (s.pl.length:Int):=by omega
  first
  |revert k0v;intro k0v;have HS:Hid ((s.put i Itm.z).pl=s.pl.set (s.pos i) Itm.z):=lh rfl;have hu:=underlying226;have hl:(Itm.cs (Itm.z (α:=Jp))).length=8:=Itm.len _;have h1:∀v∈Itm.cs (Itm.z (α:=Jp)),v.oneCell'=true:=Itm.one _;have a0:=HH.out.head.drew.cell (i:=0) (v:=.slice (some ⟨g,0,none⟩) s.pl.length s.pl.length) rfl;have r0:=HB.out.drew.range0;have t0:=HH.out.body.drew.therei (k:=8) rfl hpl;clear h ho hi;have hi:=pZ Itm.z;generalize s.pos i=p at *;generalize hzc:Itm.cs (Itm.z (α:=Jp))=zc at *;have HC:=lh hzc;clear hzc;go_enter func267,ntmps267;go_wp2_with fail
  |have d0:decide ((i:Int) < 0)=false:=by simp
   have d1:decide (s.cnt≤i)=false:=by simp;omega
   have hu:=underlying226;have hl:(Itm.cs (s.get i)).length=8:=Itm.len _;have h1:∀v∈Itm.cs (s.get i),v.oneCell'=true:=Itm.one _;clear h ho hi;have hi:=pZ (s.get i);generalize gE (s.get i) true=ans at *;generalize Itm.cs (s.get i)=xc at *;generalize s.pos i=p at *;go_enter func266,ntmps266;go_wp2_with (go_at_call 278;refine (HL.out).mono ?_;rintro e w' ⟨rfl,rfl⟩)
  generalize (w.alloc (.cells #[↑ζ,↑ζ,↑ζ,↑ζ,↑ζ,↑ζ,.bool false,↑ζ] 226))=wa at *;first
  |revert k1v;intro k1v;refine rhd (S:=(fun w'=>w'.cell? ⟨b,0,none⟩=some (.slice (some ⟨g,0,none⟩) s.pl.length s.pl.length)∧w'.rangeAt g (p * 8) xc∧w'.there w.heap.size 0 8)) ⟨a0,r0,t0⟩ (fun hHeld=>?_);refine tkc 0 ?_;refine tkc 1 ?_;refine tkc 2 ?_;refine wpAnyH_take (i:=3) (oi:=⟨some 18,_,_,_,_,_⟩) (v:=?v23) rfl (by kernel_rfl) (by kernel_rfl) (by kernel_rfl) (fun _ _ _ h=>h) (Or.inl ⟨by rfl,?y23⟩) (by assumption) ?r23;case y23=>intro w hSw;obtain ⟨s0,s1,s2⟩:=hSw;go_simp;(try with_reducible rfl)
  |have HK:Hid (w.heap.size=w.heap.size):=lh rfl;refine rhd (S:=(fun w'=>w'.cell? ⟨b,0,none⟩=some (.slice (some ⟨g,0,none⟩) s.pl.length s.pl.length)∧w'.rangeAt w.heap.size 0 zc∧w'.there g (p * 8) 8)) ⟨a0,r0,t0⟩ (fun hHeld=>?_);refine' wpAnyH_take (i:=7) (oi:=⟨some 12,_,_,_,_,_⟩) (v:=_) rfl (by kernel_rfl) (by kernel_rfl) (by kernel_rfl) (fun _ _ _ h=>h) (yieldsIf_load_mid (by rfl) _ _ rfl _ _ rfl _ _ ?hS1 hu rfl hi) (by assumption) ?r1;case hS1=>intro w hSw;exact hSw.2.1
   simp only [Act.put,List.setIfInBounds_toArray,List.set_cons_zero,List.set_cons_succ];refine tkc 0 ?_;refine tkc 1 ?_;refine tkc 2 ?_;refine wpAnyH_take (i:=3) (oi:=⟨some 8,_,_,_,_,_⟩) (v:=?v5) rfl (by kernel_rfl) (by kernel_rfl) (by kernel_rfl) (fun _ _ _ h=>h) (Or.inl ⟨by rfl,?y5⟩) (by assumption) ?r5;case y5=>intro w hSw;obtain ⟨s0,s1,s2⟩:=hSw;go_simp;(try with_reducible rfl)
  simp only [Act.put,List.setIfInBounds_toArray,List.set_cons_zero,List.set_cons_succ];refine tkc 4 ?_;refine tkc 5 ?_;refine rdy [6] ?_;refine cns (fun K hK=>?_) .nil;go_simp;refine (HP.out _ (cH.drawn (aB.drew wa) HH.out)).mono ?_;rintro e w' ⟨rfl,hd⟩;have HD:=lh hd;clear hd;have b0:=(HD.out.cell _).trans a0;have r1:=dM HD.out r0;have t1:=dN HD.out t0;go_wp2_with fail;refine bck hK ⟨b0,r1,t1⟩ (fun hHeld=>?_);clear hK;first
  |revert k0v;intro k0v;refine tkc 8 ?_
  |refine tkc 7 ?_;refine' wpAnyH_take (i:=8) (oi:=⟨some 23,_,_,_,_,_⟩) (v:=_) rfl (by kernel_rfl) (by kernel_rfl) (by kernel_rfl) (fun _ _ _ h=>h) (yieldsIf_load_mid (by rfl) _ _ rfl _ _ rfl _ _ ?hS27 hu rfl hi) (by assumption) ?r27;case hS27=>intro w hSw;exact hSw.2.1
   simp only [Act.put,List.setIfInBounds_toArray,List.set_cons_zero,List.set_cons_succ]
  refine rdy [9] ?_;refine cns (fun K hK=>?_) .nil;rw [if_pos (by rfl)];refine wp_store_mid _ _ _ rfl _ _ (List.toArray _) rfl rfl (by have e:=hl;rw [← List.size_toArray] at e;rw [e];exact t1) (by rw [List.size_toArray];exact hi) (all_oneCell_toArray h1) ?_;dsimp only;first
  |revert k1v;intro k1v;refine bck hK ⟨bA b0 HZ2.out,World.rangeAt_setCells_apart r1 _ _ _ (.inl HZ.out),World.there_setCells t1 _ _ _⟩ (fun hHeld=>?_);clear hK;refine tkc 10 ?_;refine wpAnyH_done (by kernel_rfl) ?_ _;have hD:aB wa w':=(aB.drew wa).more HD.out;have F1:Blk (w'.setCells w.heap.size 0 xc) w.heap.size 226 xc.toArray:=Blk.whole xc (hD.blk HB.out) hl;have F2:Below ↑w w (w'.setCells w.heap.size 0 xc):=Below.sets (Nat.le_refl _) xc 0 w' (HW.out.trans (hD.below _));go_wp2_with fail;rw [HX.out];exact bodyPost_ret (aF rfl _ _ w.heap.size 226 _ _ rfl F1 underlying226 rfl (by rw [List.size_toArray];exact hi)) rfl ⟨rfl,F2⟩
  |refine bck hK ⟨bA b0 HN.out,World.rangeAt_setCells_apart r1 g _ _ (.inl HZ.out),World.there_setCells t1 _ _ _⟩ (fun hHeld=>?_);clear hK;refine wpAnyH_done (by kernel_rfl) ?_ _;go_end0;have hD:aB wa w':=(aB.drew wa).more HD.out;have hpl':p < s.pl.length:=hpl;refine ⟨rfl,⟨?_,?_⟩,Mv.sets (.inr (.inl rfl)) zc (p * 8) w' (HW.out.drawn hD)⟩
   ·have:=Blk.sets_other HN.out zc (p * 8) w' (hD.blk HH.out.head);have e:dU (s.put i Itm.z) g=dU s g:=by simp [dU,QS.put]
    rw [e];exact this
   ·have:=Blk.sets zc (p * 8) w' _ (hD.blk HH.out.body);have e:=bN s.pl p (Itm.z (α:=Jp)) hpl';rw [HC.out] at e;rw [show p * 8=p * Itm.k Jp from rfl,e,← HS.out] at this;exact this
theorem yY (b g:Nat) (i:Int) (s:QS Jp) (w:World) (h:cH w b g s) (hi:i < 0∨(s.cnt:Int)≤i):
  Calls prog 266 #[↑(π b),.int .i64 i] w fun e w'=>e=gE Itm.z false∧Below ↑w w w':=by
 have HH:=lh (h.alloc (.cells #[↑ζ,↑ζ,↑ζ,↑ζ,↑ζ,↑ζ,.bool false,↑ζ] 226));have HL:=lh (DC b g s (w.alloc (.cells #[↑ζ,↑ζ,↑ζ,↑ζ,↑ζ,↑ζ,.bool false,↑ζ] 226)) HH.out);have HB:=lh (show Blk (w.alloc (.cells #[↑ζ,↑ζ,↑ζ,↑ζ,↑ζ,↑ζ,.bool false,↑ζ] 226)) w.heap.size 226 #[↑ζ,↑ζ,↑ζ,↑ζ,↑ζ,↑ζ,.bool false,↑ζ] from Blk.new _ _ _);have HW:Hid (Below ↑w w (w.alloc (.cells #[↑ζ,↑ζ,↑ζ,↑ζ,↑ζ,↑ζ,.bool false,↑ζ] 226))):=lh ((Below.refl _ _).alloc (Nat.le_refl _) _);clear h;by_cases c:i < 0
 ·have d0:decide (i < 0)=true:=by simpa using c
  go_enter func266,ntmps266;go_wp2_with (go_at_call 278;refine (HL.out).mono ?_;rintro e w' ⟨rfl,rfl⟩)
  exact bodyPost_ret (aF rfl _ _ w.heap.size 226 _ _ rfl HB.out underlying226 rfl (by kernel_rfl)) rfl ⟨rfl,HW.out⟩
 ·have d0:decide (i < 0)=false:=by simpa using c
  have hj:(s.cnt:Int)≤i:=by omega
  have d1:decide ((s.cnt:Int)≤i)=true:=by simpa using hj
  clear hi;go_enter func266,ntmps266;go_wp2_with (go_at_call 278;refine (HL.out).mono ?_;rintro e w' ⟨rfl,rfl⟩)
  exact bodyPost_ret (aF rfl _ _ w.heap.size 226 _ _ rfl HB.out underlying226 rfl (by kernel_rfl)) rfl ⟨rfl,HW.out⟩

theorem JH (b g:Nat) (x:Jp) (s:QS Jp) (w:World) (h:cH w b g s) (ho:s.ok) (hk:s.cnt≤5500):
  Calls prog 187 #[↑(π b),x.agg] w (iF w b g (.returned (.tuple #[])) (s.push x)):=by
 unfold Jp.agg;have HO:=lh ho;have HH:=lh (h.alloc (.cells #[↑x.p.n,↑x.p.size,↑x.p.sent,↑x.p.first,↑x.p.deliv,↑x.p.at_,.bool x.p.lim,↑x.due] 226));have HX:=lh (show Blk (w.alloc (.cells #[↑x.p.n,↑x.p.size,↑x.p.sent,↑x.p.first,↑x.p.deliv,↑x.p.at_,.bool x.p.lim,↑x.due] 226)) w.heap.size 226 (Itm.cs x).toArray from Blk.new _ _ _);have HM:Hid (Mv w (w.alloc (.cells #[↑x.p.n,↑x.p.size,↑x.p.sent,↑x.p.first,↑x.p.deliv,↑x.p.at_,.bool x.p.lim,↑x.due] 226)) b g):=lh ((Mv.refl w b g).alloc _);have HS1:Hid ((w.alloc (.cells #[↑x.p.n,↑x.p.size,↑x.p.sent,↑x.p.first,↑x.p.deliv,↑x.p.at_,.bool x.p.lim,↑x.due] 226)).heap.size=w.heap.size + 1):=lh (by simp);have b0:=HH.out.head.cell (i:=0) (v:=.slice (some ⟨g,0,none⟩) s.pl.length s.pl.length) rfl;have b2:=HH.out.head.cell (i:=2) (v:=.int .i64 (s.cnt:Int)) rfl;have hm:=ho.m;have hc:=ho.c;have HZb:Hid (w.heap.size≠b):=lh (Ne.symm h.head.old);have HZg:Hid (w.heap.size≠g):=lh (Ne.symm h.body.old);clear h ho;have hu:=underlying226;have hl:(Itm.cs x).length=8:=Itm.len _;have h1:∀v∈Itm.cs x,v.oneCell'=true:=Itm.one _;have hi:=pZ x;generalize hxc:Itm.cs x=xc at *;have HC:=lh hxc;clear hxc;by_cases a:s.cnt=s.pl.length
 ·by_cases z0:1≤s.cnt
  ·have HE:Hid (s.wide=s.move (2 * s.cnt)):=lh (by unfold QS.wide;rw [if_pos a];congr 1;omega)
   have z1:(1:Int) < 2 * (s.cnt:Int):=by omega
   have d1:(s.cnt == s.pl.length)=true:=by simpa using a
   have HA:=lh a;clear a;go_enter func187,ntmps187;go_wp2_with fail;generalize (w.alloc (.cells #[↑x.p.n,↑x.p.size,↑x.p.sent,↑x.p.first,↑x.p.deliv,↑x.p.at_,.bool x.p.lim,↑x.due] 226))=w0 at *;go_quiet (fail)
   have HD:Hid (aB w0 (w0.drewN nq)):=lh ⟨nq,rfl⟩;have q2:=(HD.out.cell _).trans b2;generalize w0.drewN nq=w1 at *;go_wp2_with fail;have HC:Hid (Calls prog 241 #[↑(π b),.int .i64 (2 * (s.cnt:Int))] w1 (iF w1 b g (.returned (.tuple #[])) (s.move (2 * s.cnt)))):=lh (by have:=p4 b g (2 * s.cnt) s w1 (cH.drawn HD.out HH.out) HO.out (by omega) (by omega);rw [show ((2 * s.cnt:Nat):Int)=2 * (s.cnt:Int) from by omega] at this;exact this);refine (HC.out).mono ?_;rintro e w2 ⟨rfl,hat,hmv⟩;obtain ⟨g2,hg2,hgq⟩:=hat;rw [← HE.out] at hg2;have HG:=lh hg2;have HX2:=lh ((HD.out.blk HX.out).mv hmv HZb.out HZg.out);have HM2:=lh ((HM.out.drawn HD.out).trans hmv (.inl rfl));have HQ:Hid (g2=g∨w.heap.size < g2):=lh (by have:=HS1.out;rw [HD.out.heap] at hgq;omega);have HZ:Hid (w.heap.size≠g2):=lh (by have:=HQ.out;have:=HZg.out;omega);clear hg2 hgq hmv q2 HE b0 b2 HD HC z1 HX;have HX:=HX2;clear HX2;replace HQ:Hid (g2=g∨w.heap.size≤g2):=lh (by have:=HQ.out;omega);have HO2:=lh (QS.wide_ok HO.out hk);have HC2:=lh (QS.wide_cnt s);have HR2:=lh (QS.wide_room HO.out);have HPU:Hid (s.push x=⟨s.wide.pl.set (s.wide.pos s.cnt) x,s.wide.first,s.cnt + 1⟩):=lh rfl;generalize s.wide=t at *;generalize s.push x=u at *;obtain ⟨t1,t2,t3⟩:=t;obtain rfl:t3=s.cnt:=HC2.out;have hr:s.cnt < t1.length:=HR2.out;have hpl:=QS.pos_lt (s:=⟨t1,t2,s.cnt⟩) (by show 0 < t1.length;omega) s.cnt;have a0:=HG.out.head.drew.cell (i:=0) (v:=.slice (some ⟨g2,0,none⟩) t1.length t1.length) rfl;have a2:=HG.out.head.drew.cell (i:=2) (v:=.int .i64 (s.cnt:Int)) rfl;have r0:=HX.out.drew.range0;have t0:w2.drew.there g2 (QS.pos ⟨t1,t2,s.cnt⟩ s.cnt * 8) 8:=HG.out.body.drew.therei (k:=8) rfl hpl;have HN2:=lh HG.out.ne;have HP:=lh (fun (w:World) h=>fP b g2 s.cnt ⟨t1,t2,s.cnt⟩ w h HO2.out (by show 0 < t1.length;omega) (by omega));have i3:(0:Int)≤((QS.pos ⟨t1,t2,s.cnt⟩ s.cnt:Nat):Int):=by omega
   have i4:((QS.pos ⟨t1,t2,s.cnt⟩ s.cnt:Nat):Int) < (t1.length:Int):=by exact_mod_cast hpl
   have i5:QS.pos ⟨t1,t2,s.cnt⟩ s.cnt < t1.length:=hpl;clear hpl;generalize QS.pos ⟨t1,t2,s.cnt⟩ s.cnt=p at *;go_wp2_with fail;refine rhd (S:=(fun w'=>w'.cell? ⟨b,0,none⟩=some (.slice (some ⟨g2,0,none⟩) t1.length t1.length)∧w'.cell? ⟨b,2,none⟩=some (.int .i64 (s.cnt:Int))∧w'.rangeAt w.heap.size 0 xc∧w'.there g2 (p * 8) 8)) ⟨a0,a2,r0,t0⟩ (fun hHeld=>?_);refine' wpAnyH_take (i:=10) (oi:=⟨some 34,_,_,_,_,_⟩) (v:=_) rfl (by kernel_rfl) (by kernel_rfl) (by kernel_rfl) (fun _ _ _ h=>h) (yieldsIf_load_mid (by rfl) _ _ rfl _ _ rfl _ _ ?hS29 hu rfl hi) (by assumption) ?r29
   case hS29=>intro w hSw;exact hSw.2.2.1
   simp only [Act.put,List.setIfInBounds_toArray,List.set_cons_zero,List.set_cons_succ];refine tkc 0 ?_;refine tkc 1 ?_;refine tkc 2 ?_;refine wpAnyH_take (i:=3) (oi:=⟨some 27,_,_,_,_,_⟩) (v:=?v33) rfl (by kernel_rfl) (by kernel_rfl) (by kernel_rfl) (fun _ _ _ h=>h) (Or.inl ⟨by rfl,?y33⟩) (by assumption) ?r33
   case y33=>intro w hSw;obtain ⟨s0,s1,s2,s3⟩:=hSw;go_simp;(try with_reducible rfl)
   simp only [Act.put,List.setIfInBounds_toArray,List.set_cons_zero,List.set_cons_succ];refine tkc 4 ?_;refine tkc 5 ?_;refine tkc 6 ?_;refine tkc 7 ?_;refine wpAnyH_take (i:=8) (oi:=⟨some 32,_,_,_,_,_⟩) (v:=?v38) rfl (by kernel_rfl) (by kernel_rfl) (by kernel_rfl) (fun _ _ _ h=>h) (Or.inl ⟨by rfl,?y38⟩) (by assumption) ?r38
   case y38=>intro w hSw;obtain ⟨s0,s1,s2,s3⟩:=hSw;go_simp;(try with_reducible rfl)
   simp only [Act.put,List.setIfInBounds_toArray,List.set_cons_zero,List.set_cons_succ];refine rdy [9] ?_;refine cns (fun K hK=>?_) .nil;go_simp;refine (HP.out _ (cH.drawn (aB.drew w2) HG.out)).mono ?_;rintro e w' ⟨rfl,hd⟩;have HD:=lh hd;clear hd;have b0:=(HD.out.cell _).trans a0;have b2:=(HD.out.cell _).trans a2;have r1:=dM HD.out r0;have t1_:=dN HD.out t0;go_wp2_with fail;refine bck hK ⟨b0,b2,r1,t1_⟩ (fun hHeld=>?_);clear hK;refine tkc 11 ?_;refine rdy [12] ?_;refine cns (fun K hK=>?_) .nil;rw [if_pos (by rfl)];refine wp_store_mid _ _ _ rfl _ _ (List.toArray _) rfl rfl (by have e:=hl;rw [← List.size_toArray] at e;rw [e];exact t1_) (by rw [List.size_toArray];exact hi) (all_oneCell_toArray h1) ?_;dsimp only
   refine bck hK ⟨bA b0 HN2.out,bA b2 HN2.out,World.rangeAt_setCells_apart r1 _ _ _ (.inl HZ.out),World.there_setCells t1_ _ _ _⟩ (fun hHeld=>?_);clear hK;refine wpAnyH_done (by kernel_rfl) ?_ _;have hD:aB w2 w':=(aB.drew w2).more HD.out;have F1:Hid (Blk (w'.setCells g2 (p * 8) xc) g2 226 (aJ (t1.set p x))):=lh (by
    have:=Blk.sets xc (p * Itm.k Jp) w' _ (hD.blk HG.out.body);have e:=bN t1 p x i5;rw [HC.out] at e;rw [e] at this;exact this)
   have F2:Hid (Blk (w'.setCells g2 (p * 8) xc) b 299 (dU ⟨t1,t2,s.cnt⟩ g2)):=lh (Blk.sets_other HN2.out xc (p * 8) w' (hD.blk HG.out.head));have F3:Hid (Mv w (w'.setCells g2 (p * 8) xc) b g):=lh (Mv.sets (by have:=HQ.out;omega) xc (p * 8) w' (HM2.out.drawn hD));generalize (w'.setCells g2 (p * 8) xc)=w3 at *;clear a0 a2 b0 b2 r0 r1 t0 t1_ hHeld hD HD HP i3 i4 i5;have m2:=F2.out.cell (i:=2) (v:=.int .i64 (s.cnt:Int)) rfl;have n2:=F2.out.free 2;go_wp2_with fail;go_end0
   refine ⟨rfl,⟨g2,⟨?_,?_⟩,HQ.out⟩,F3.out.set (.inl rfl) _ _⟩
   ·have:=F2.out.set 2 (.int .i64 ((s.cnt:Int) + 1))
    rw [HPU.out];simpa [dU] using this
   ·rw [HPU.out]
    exact F1.out.set_other _ _ (Ne.symm HN2.out)
  ·have HE:Hid (s.wide=s.move 1):=lh (by unfold QS.wide;rw [if_pos a];congr 1;omega)
   have z1:2 * (s.cnt:Int)≤1:=by omega
   have d1:(s.cnt == s.pl.length)=true:=by simpa using a
   have HA:=lh a;clear a;go_enter func187,ntmps187;go_wp2_with fail;generalize (w.alloc (.cells #[↑x.p.n,↑x.p.size,↑x.p.sent,↑x.p.first,↑x.p.deliv,↑x.p.at_,.bool x.p.lim,↑x.due] 226))=w0 at *;go_quiet (fail)
   have HD:Hid (aB w0 (w0.drewN nq)):=lh ⟨nq,rfl⟩;have q2:=(HD.out.cell _).trans b2;generalize w0.drewN nq=w1 at *;go_wp2_with fail;have HC:Hid (Calls prog 241 #[↑(π b),.int .i64 1] w1 (iF w1 b g (.returned (.tuple #[])) (s.move 1))):=lh (by have:=p4 b g 1 s w1 (cH.drawn HD.out HH.out) HO.out (by omega) (by omega);exact this);refine (HC.out).mono ?_;rintro e w2 ⟨rfl,hat,hmv⟩;obtain ⟨g2,hg2,hgq⟩:=hat;rw [← HE.out] at hg2;have HG:=lh hg2;have HX2:=lh ((HD.out.blk HX.out).mv hmv HZb.out HZg.out);have HM2:=lh ((HM.out.drawn HD.out).trans hmv (.inl rfl));have HQ:Hid (g2=g∨w.heap.size < g2):=lh (by have:=HS1.out;rw [HD.out.heap] at hgq;omega);have HZ:Hid (w.heap.size≠g2):=lh (by have:=HQ.out;have:=HZg.out;omega);clear hg2 hgq hmv q2 HE b0 b2 HD HC z1 HX;have HX:=HX2;clear HX2;replace HQ:Hid (g2=g∨w.heap.size≤g2):=lh (by have:=HQ.out;omega);have HO2:=lh (QS.wide_ok HO.out hk);have HC2:=lh (QS.wide_cnt s);have HR2:=lh (QS.wide_room HO.out);have HPU:Hid (s.push x=⟨s.wide.pl.set (s.wide.pos s.cnt) x,s.wide.first,s.cnt + 1⟩):=lh rfl;generalize s.wide=t at *;generalize s.push x=u at *;obtain ⟨t1,t2,t3⟩:=t;obtain rfl:t3=s.cnt:=HC2.out;have hr:s.cnt < t1.length:=HR2.out;have hpl:=QS.pos_lt (s:=⟨t1,t2,s.cnt⟩) (by show 0 < t1.length;omega) s.cnt;have a0:=HG.out.head.drew.cell (i:=0) (v:=.slice (some ⟨g2,0,none⟩) t1.length t1.length) rfl;have a2:=HG.out.head.drew.cell (i:=2) (v:=.int .i64 (s.cnt:Int)) rfl;have r0:=HX.out.drew.range0;have t0:w2.drew.there g2 (QS.pos ⟨t1,t2,s.cnt⟩ s.cnt * 8) 8:=HG.out.body.drew.therei (k:=8) rfl hpl;have HN2:=lh HG.out.ne;have HP:=lh (fun (w:World) h=>fP b g2 s.cnt ⟨t1,t2,s.cnt⟩ w h HO2.out (by show 0 < t1.length;omega) (by omega));have i3:(0:Int)≤((QS.pos ⟨t1,t2,s.cnt⟩ s.cnt:Nat):Int):=by omega
   have i4:((QS.pos ⟨t1,t2,s.cnt⟩ s.cnt:Nat):Int) < (t1.length:Int):=by exact_mod_cast hpl
   have i5:QS.pos ⟨t1,t2,s.cnt⟩ s.cnt < t1.length:=hpl;clear hpl;generalize QS.pos ⟨t1,t2,s.cnt⟩ s.cnt=p at *;go_wp2_with fail;refine rhd (S:=(fun w'=>w'.cell? ⟨b,0,none⟩=some (.slice (some ⟨g2,0,none⟩) t1.length t1.length)∧w'.cell? ⟨b,2,none⟩=some (.int .i64 (s.cnt:Int))∧w'.rangeAt w.heap.size 0 xc∧w'.there g2 (p * 8) 8)) ⟨a0,a2,r0,t0⟩ (fun hHeld=>?_);refine' wpAnyH_take (i:=10) (oi:=⟨some 34,_,_,_,_,_⟩) (v:=_) rfl (by kernel_rfl) (by kernel_rfl) (by kernel_rfl) (fun _ _ _ h=>h) (yieldsIf_load_mid (by rfl) _ _ rfl _ _ rfl _ _ ?hS40 hu rfl hi) (by assumption) ?r40
   case hS40=>intro w hSw;exact hSw.2.2.1
   simp only [Act.put,List.setIfInBounds_toArray,List.set_cons_zero,List.set_cons_succ];refine tkc 0 ?_;refine tkc 1 ?_;refine tkc 2 ?_;refine wpAnyH_take (i:=3) (oi:=⟨some 27,_,_,_,_,_⟩) (v:=?v44) rfl (by kernel_rfl) (by kernel_rfl) (by kernel_rfl) (fun _ _ _ h=>h) (Or.inl ⟨by rfl,?y44⟩) (by assumption) ?r44
   case y44=>intro w hSw;obtain ⟨s0,s1,s2,s3⟩:=hSw;go_simp;(try with_reducible rfl)
   simp only [Act.put,List.setIfInBounds_toArray,List.set_cons_zero,List.set_cons_succ];refine tkc 4 ?_;refine tkc 5 ?_;refine tkc 6 ?_;refine tkc 7 ?_;refine wpAnyH_take (i:=8) (oi:=⟨some 32,_,_,_,_,_⟩) (v:=?v49) rfl (by kernel_rfl) (by kernel_rfl) (by kernel_rfl) (fun _ _ _ h=>h) (Or.inl ⟨by rfl,?y49⟩) (by assumption) ?r49
   case y49=>intro w hSw;obtain ⟨s0,s1,s2,s3⟩:=hSw;go_simp;(try with_reducible rfl)
   simp only [Act.put,List.setIfInBounds_toArray,List.set_cons_zero,List.set_cons_succ];refine rdy [9] ?_;refine cns (fun K hK=>?_) .nil;go_simp;refine (HP.out _ (cH.drawn (aB.drew w2) HG.out)).mono ?_;rintro e w' ⟨rfl,hd⟩;have HD:=lh hd;clear hd;have b0:=(HD.out.cell _).trans a0;have b2:=(HD.out.cell _).trans a2;have r1:=dM HD.out r0;have t1_:=dN HD.out t0;go_wp2_with fail;refine bck hK ⟨b0,b2,r1,t1_⟩ (fun hHeld=>?_);clear hK;refine tkc 11 ?_;refine rdy [12] ?_;refine cns (fun K hK=>?_) .nil;rw [if_pos (by rfl)];refine wp_store_mid _ _ _ rfl _ _ (List.toArray _) rfl rfl (by have e:=hl;rw [← List.size_toArray] at e;rw [e];exact t1_) (by rw [List.size_toArray];exact hi) (all_oneCell_toArray h1) ?_;dsimp only
   refine bck hK ⟨bA b0 HN2.out,bA b2 HN2.out,World.rangeAt_setCells_apart r1 _ _ _ (.inl HZ.out),World.there_setCells t1_ _ _ _⟩ (fun hHeld=>?_);clear hK;refine wpAnyH_done (by kernel_rfl) ?_ _;have hD:aB w2 w':=(aB.drew w2).more HD.out;have F1:Hid (Blk (w'.setCells g2 (p * 8) xc) g2 226 (aJ (t1.set p x))):=lh (by
    have:=Blk.sets xc (p * Itm.k Jp) w' _ (hD.blk HG.out.body);have e:=bN t1 p x i5;rw [HC.out] at e;rw [e] at this;exact this)
   have F2:Hid (Blk (w'.setCells g2 (p * 8) xc) b 299 (dU ⟨t1,t2,s.cnt⟩ g2)):=lh (Blk.sets_other HN2.out xc (p * 8) w' (hD.blk HG.out.head));have F3:Hid (Mv w (w'.setCells g2 (p * 8) xc) b g):=lh (Mv.sets (by have:=HQ.out;omega) xc (p * 8) w' (HM2.out.drawn hD));generalize (w'.setCells g2 (p * 8) xc)=w3 at *;clear a0 a2 b0 b2 r0 r1 t0 t1_ hHeld hD HD HP i3 i4 i5;have m2:=F2.out.cell (i:=2) (v:=.int .i64 (s.cnt:Int)) rfl;have n2:=F2.out.free 2;go_wp2_with fail;go_end0
   refine ⟨rfl,⟨g2,⟨?_,?_⟩,HQ.out⟩,F3.out.set (.inl rfl) _ _⟩
   ·have:=F2.out.set 2 (.int .i64 ((s.cnt:Int) + 1))
    rw [HPU.out];simpa [dU] using this
   ·rw [HPU.out]
    exact F1.out.set_other _ _ (Ne.symm HN2.out)
 ·have HE:Hid (s.wide=s):=lh (if_neg a)
  have d1:(s.cnt == s.pl.length)=false:=by simpa using a
  have HA:=lh a;clear a;go_enter func187,ntmps187;go_wp2_with fail;generalize (w.alloc (.cells #[↑x.p.n,↑x.p.size,↑x.p.sent,↑x.p.first,↑x.p.deliv,↑x.p.at_,.bool x.p.lim,↑x.due] 226))=w0 at *;go_quiet (fail)
  have HD:Hid (aB w0 (w0.drewN nq)):=lh ⟨nq,rfl⟩;have q2:=(HD.out.cell _).trans b2;have HG:Hid (cH (w0.drewN nq) b g s.wide):=lh (by rw [HE.out];exact cH.drawn HD.out HH.out);have HM2:=lh (HM.out.drawn HD.out);have HX2:=lh (HD.out.blk HX.out);obtain ⟨g2,hg2⟩:∃g2,g2=g:=⟨_,rfl⟩;have HQ:Hid (g2=g∨w.heap.size≤g2):=lh (.inl hg2);have HZ:Hid (w.heap.size≠g2):=lh (by have:=HZg.out;omega);rw [← hg2] at HG;generalize w0.drewN nq=w2 at *;clear hg2 HE b0 b2 HD q2 HX;have HX:=HX2;clear HX2;have HO2:=lh (QS.wide_ok HO.out hk);have HC2:=lh (QS.wide_cnt s);have HR2:=lh (QS.wide_room HO.out);have HPU:Hid (s.push x=⟨s.wide.pl.set (s.wide.pos s.cnt) x,s.wide.first,s.cnt + 1⟩):=lh rfl;generalize s.wide=t at *;generalize s.push x=u at *;obtain ⟨t1,t2,t3⟩:=t;obtain rfl:t3=s.cnt:=HC2.out;have hr:s.cnt < t1.length:=HR2.out;have hpl:=QS.pos_lt (s:=⟨t1,t2,s.cnt⟩) (by show 0 < t1.length;omega) s.cnt;have a0:=HG.out.head.drew.cell (i:=0) (v:=.slice (some ⟨g2,0,none⟩) t1.length t1.length) rfl;have a2:=HG.out.head.drew.cell (i:=2) (v:=.int .i64 (s.cnt:Int)) rfl;have r0:=HX.out.drew.range0;have t0:w2.drew.there g2 (QS.pos ⟨t1,t2,s.cnt⟩ s.cnt * 8) 8:=HG.out.body.drew.therei (k:=8) rfl hpl;have HN2:=lh HG.out.ne;have HP:=lh (fun (w:World) h=>fP b g2 s.cnt ⟨t1,t2,s.cnt⟩ w h HO2.out (by show 0 < t1.length;omega) (by omega));have i3:(0:Int)≤((QS.pos ⟨t1,t2,s.cnt⟩ s.cnt:Nat):Int):=by omega
  have i4:((QS.pos ⟨t1,t2,s.cnt⟩ s.cnt:Nat):Int) < (t1.length:Int):=by exact_mod_cast hpl
  have i5:QS.pos ⟨t1,t2,s.cnt⟩ s.cnt < t1.length:=hpl;clear hpl;generalize QS.pos ⟨t1,t2,s.cnt⟩ s.cnt=p at *;go_wp2_with fail;refine rhd (S:=(fun w'=>w'.cell? ⟨b,0,none⟩=some (.slice (some ⟨g2,0,none⟩) t1.length t1.length)∧w'.cell? ⟨b,2,none⟩=some (.int .i64 (s.cnt:Int))∧w'.rangeAt w.heap.size 0 xc∧w'.there g2 (p * 8) 8)) ⟨a0,a2,r0,t0⟩ (fun hHeld=>?_);refine' wpAnyH_take (i:=10) (oi:=⟨some 34,_,_,_,_,_⟩) (v:=_) rfl (by kernel_rfl) (by kernel_rfl) (by kernel_rfl) (fun _ _ _ h=>h) (yieldsIf_load_mid (by rfl) _ _ rfl _ _ rfl _ _ ?hS51 hu rfl hi) (by assumption) ?r51
  case hS51=>intro w hSw;exact hSw.2.2.1
  simp only [Act.put,List.setIfInBounds_toArray,List.set_cons_zero,List.set_cons_succ];refine tkc 0 ?_;refine tkc 1 ?_;refine tkc 2 ?_;refine wpAnyH_take (i:=3) (oi:=⟨some 27,_,_,_,_,_⟩) (v:=?v55) rfl (by kernel_rfl) (by kernel_rfl) (by kernel_rfl) (fun _ _ _ h=>h) (Or.inl ⟨by rfl,?y55⟩) (by assumption) ?r55
  case y55=>intro w hSw;obtain ⟨s0,s1,s2,s3⟩:=hSw;go_simp;(try with_reducible rfl)
  simp only [Act.put,List.setIfInBounds_toArray,List.set_cons_zero,List.set_cons_succ];refine tkc 4 ?_;refine tkc 5 ?_;refine tkc 6 ?_;refine tkc 7 ?_;refine wpAnyH_take (i:=8) (oi:=⟨some 32,_,_,_,_,_⟩) (v:=?v60) rfl (by kernel_rfl) (by kernel_rfl) (by kernel_rfl) (fun _ _ _ h=>h) (Or.inl ⟨by rfl,?y60⟩) (by assumption) ?r60
  case y60=>intro w hSw;obtain ⟨s0,s1,s2,s3⟩:=hSw;go_simp;(try with_reducible rfl)
  simp only [Act.put,List.setIfInBounds_toArray,List.set_cons_zero,List.set_cons_succ];refine rdy [9] ?_;refine cns (fun K hK=>?_) .nil;go_simp;refine (HP.out _ (cH.drawn (aB.drew w2) HG.out)).mono ?_;rintro e w' ⟨rfl,hd⟩;have HD:=lh hd;clear hd;have b0:=(HD.out.cell _).trans a0;have b2:=(HD.out.cell _).trans a2;have r1:=dM HD.out r0;have t1_:=dN HD.out t0;go_wp2_with fail;refine bck hK ⟨b0,b2,r1,t1_⟩ (fun hHeld=>?_);clear hK;refine tkc 11 ?_;refine rdy [12] ?_;refine cns (fun K hK=>?_) .nil;rw [if_pos (by rfl)];refine wp_store_mid _ _ _ rfl _ _ (List.toArray _) rfl rfl (by have e:=hl;rw [← List.size_toArray] at e;rw [e];exact t1_) (by rw [List.size_toArray];exact hi) (all_oneCell_toArray h1) ?_;dsimp only
  refine bck hK ⟨bA b0 HN2.out,bA b2 HN2.out,World.rangeAt_setCells_apart r1 _ _ _ (.inl HZ.out),World.there_setCells t1_ _ _ _⟩ (fun hHeld=>?_);clear hK;refine wpAnyH_done (by kernel_rfl) ?_ _;have hD:aB w2 w':=(aB.drew w2).more HD.out;have F1:Hid (Blk (w'.setCells g2 (p * 8) xc) g2 226 (aJ (t1.set p x))):=lh (by
   have:=Blk.sets xc (p * Itm.k Jp) w' _ (hD.blk HG.out.body);have e:=bN t1 p x i5;rw [HC.out] at e;rw [e] at this;exact this)
  have F2:Hid (Blk (w'.setCells g2 (p * 8) xc) b 299 (dU ⟨t1,t2,s.cnt⟩ g2)):=lh (Blk.sets_other HN2.out xc (p * 8) w' (hD.blk HG.out.head));have F3:Hid (Mv w (w'.setCells g2 (p * 8) xc) b g):=lh (Mv.sets (by have:=HQ.out;omega) xc (p * 8) w' (HM2.out.drawn hD));generalize (w'.setCells g2 (p * 8) xc)=w3 at *;clear a0 a2 b0 b2 r0 r1 t0 t1_ hHeld hD HD HP i3 i4 i5;have m2:=F2.out.cell (i:=2) (v:=.int .i64 (s.cnt:Int)) rfl;have n2:=F2.out.free 2;go_wp2_with fail;go_end0
  refine ⟨rfl,⟨g2,⟨?_,?_⟩,HQ.out⟩,F3.out.set (.inl rfl) _ _⟩
  ·have:=F2.out.set 2 (.int .i64 ((s.cnt:Int) + 1))
   rw [HPU.out];simpa [dU] using this
  ·rw [HPU.out]
   exact F1.out.set_other _ _ (Ne.symm HN2.out)

theorem DE (b g:Nat) (s:QS Jp) (w:World) (h:cH w b g s) (ho:s.ok) (hc:0 < s.cnt):
  Calls prog 247 #[↑(π b)] w (iF w b g (gE (s.get 0) true) s.shift):=by
 have HO:=lh ho;have HH:=lh (h.alloc (.cells #[↑ζ,↑ζ,↑ζ,↑ζ,↑ζ,↑ζ,.bool false,↑ζ] 226));have HB:=lh (show Blk (w.alloc (.cells #[↑ζ,↑ζ,↑ζ,↑ζ,↑ζ,↑ζ,.bool false,↑ζ] 226)) w.heap.size 226 #[↑ζ,↑ζ,↑ζ,↑ζ,↑ζ,↑ζ,.bool false,↑ζ] from Blk.new _ _ _);have HM:Hid (Mv w (w.alloc (.cells #[↑ζ,↑ζ,↑ζ,↑ζ,↑ζ,↑ζ,.bool false,↑ζ] 226)) b g):=lh ((Mv.refl w b g).alloc _);have HS1:Hid ((w.alloc (.cells #[↑ζ,↑ζ,↑ζ,↑ζ,↑ζ,↑ζ,.bool false,↑ζ] 226)).heap.size=w.heap.size + 1):=lh (by simp);have HZb:Hid (w.heap.size≠b):=lh (Ne.symm h.head.old);have HZg:Hid (w.heap.size≠g):=lh (Ne.symm h.body.old);have hp:0 < s.pl.length:=by have:=ho.c;omega
 have HA:Hid (Calls prog 266 #[↑(π b),.int .i64 0] (w.alloc (.cells #[↑ζ,↑ζ,↑ζ,↑ζ,↑ζ,↑ζ,.bool false,↑ζ] 226)) fun e w'=>e=gE (s.get 0) true∧Below (w.alloc (.cells #[↑ζ,↑ζ,↑ζ,↑ζ,↑ζ,↑ζ,.bool false,↑ζ] 226)).heap.size (w.alloc (.cells #[↑ζ,↑ζ,↑ζ,↑ζ,↑ζ,↑ζ,.bool false,↑ζ] 226)) w'):=lh (jQ.2 b g 0 s _ HH.out ho hc);have hcl:s.cnt≤100000:=Nat.le_trans ho.c ho.m;clear h ho;generalize s.get 0=x at *;go_enter func247,ntmps247;go_wp2_with fail;refine (HA.out).mono ?_;rintro e w1 ⟨rfl,hbel⟩;have HR1:=lh (HH.out.keep hbel);have HB1:=lh (HB.out.keep hbel);have HM1:=lh (HM.out.below hbel);have HS2:Hid (w.heap.size + 1≤↑w1):=lh (by have:=hbel.size;have:=HS1.out;omega);clear hbel HA HH HB HM;unfold gE Jp.agg;go_wp2_with fail;have HX:Hid (Blk (w1.alloc (.cells #[↑x.p.n,↑x.p.size,↑x.p.sent,↑x.p.first,↑x.p.deliv,↑x.p.at_,.bool x.p.lim,↑x.due] 226)) w1.heap.size 226 #[↑x.p.n,↑x.p.size,↑x.p.sent,↑x.p.first,↑x.p.deliv,↑x.p.at_,.bool x.p.lim,↑x.due]):=lh (Blk.new _ _ _);have HR2:=lh (HR1.out.alloc (.cells #[↑x.p.n,↑x.p.size,↑x.p.sent,↑x.p.first,↑x.p.deliv,↑x.p.at_,.bool x.p.lim,↑x.due] 226));have HB2:=lh (HB1.out.alloc (.cells #[↑x.p.n,↑x.p.size,↑x.p.sent,↑x.p.first,↑x.p.deliv,↑x.p.at_,.bool x.p.lim,↑x.due] 226));have HM2:=lh (HM1.out.alloc (.cells #[↑x.p.n,↑x.p.size,↑x.p.sent,↑x.p.first,↑x.p.deliv,↑x.p.at_,.bool x.p.lim,↑x.due] 226));have HXb:Hid (w1.heap.size≠b):=lh (Ne.symm HR1.out.head.old);have HXg:Hid (w1.heap.size≠g):=lh (Ne.symm HR1.out.body.old);have HXz:Hid (w1.heap.size≠w.heap.size):=lh (by have:=HS2.out;omega);generalize (w1.alloc (.cells #[↑x.p.n,↑x.p.size,↑x.p.sent,↑x.p.first,↑x.p.deliv,↑x.p.at_,.bool x.p.lim,↑x.due] 226))=wa at *;generalize w1.heap.size=q at *;have HC:Hid (Calls prog 267 #[↑(π b),.int .i64 0] wa (wM wa b g (s.put 0 Itm.z))):=lh (jQ.1 b g 0 s wa HR2.out HO.out hp (by omega));refine (HC.out).mono ?_;rintro e w2 ⟨rfl,hat,hmv⟩;have HR3:=lh hat;have HM3:=lh (HM2.out.trans hmv (.inl rfl));have HB3:=lh (HB2.out.mv hmv HZb.out HZg.out);have HX3:=lh (HX.out.mv hmv HXb.out HXg.out);clear hat hmv HC HR2 HM2 HB2 HX;go_wp2_with fail;have HC:Hid (Calls prog 242 #[↑(π b),.int .i64 1] w2 fun e w'=>e=.returned (.int .i64 ((s.pos 1:Nat):Int))∧aB w2 w'):=lh (by
  have:=fP b g 1 (s.put 0 Itm.z) w2 HR3.out (QS.put_ok HO.out 0 Itm.z) (by rw [QS.put_len];exact hp) (by omega);rw [QS.put_pos] at this;exact this)
 refine (HC.out).mono ?_;rintro e w3 ⟨rfl,hd⟩;have HR4:=lh (cH.drawn hd HR3.out);have HM4:=lh (HM3.out.drawn hd);have HB4:=lh (hd.blk HB3.out);have HX4:=lh (hd.blk HX3.out);clear hd HC HR3 HM3 HB3 HX3;have c1:=HR4.out.head.cell (i:=1) (v:=.int .i64 (s.first:Int)) rfl;have c2:=HR4.out.head.cell (i:=2) (v:=.int .i64 (s.cnt:Int)) rfl;have f1:=HR4.out.head.free 1;have f2:=HR4.out.head.free 2;go_wp2_with fail;have HR5:Hid (cH ((w3.setCell ⟨b,1,none⟩ (.int .i64 ((s.pos 1:Nat):Int))).setCell ⟨b,2,none⟩ (.int .i64 ((s.cnt:Int) - 1))) b g s.shift0):=lh ⟨by
   have:=(HR4.out.head.set 1 (.int .i64 ((s.pos 1:Nat):Int))).set 2 (.int .i64 ((s.cnt:Int) - 1));have e:((s.cnt - 1:Nat):Int)=(s.cnt:Int) - 1:=by omega
   simpa [dU,QS.shift0,e,QS.put] using this,
  (HR4.out.body.set_other _ _ (Ne.symm HR4.out.ne)).set_other _ _ (Ne.symm HR4.out.ne)⟩
 have HM5:=lh ((HM4.out.set (c:=b) (.inl rfl) 1 (.int .i64 ((s.pos 1:Nat):Int))).set (c:=b) (.inl rfl) 2 (.int .i64 ((s.cnt:Int) - 1)));have HB5:=lh ((HB4.out.set_other 1 (.int .i64 ((s.pos 1:Nat):Int)) HZb.out).set_other 2 (.int .i64 ((s.cnt:Int) - 1)) HZb.out);have HX5:=lh ((HX4.out.set_other 1 (.int .i64 ((s.pos 1:Nat):Int)) HXb.out).set_other 2 (.int .i64 ((s.cnt:Int) - 1)) HXb.out);generalize ((w3.setCell ⟨b,1,none⟩ (.int .i64 ((s.pos 1:Nat):Int))).setCell ⟨b,2,none⟩ (.int .i64 ((s.cnt:Int) - 1)))=w4 at *;clear c1 c2 f1 f2 HR4 HM4 HB4 HX4;refine (yX b g s.shift0 w4 HR5.out (QS.shift0_ok HO.out hc)).mono ?_;rintro e w5 ⟨rfl,hat,hmv⟩;obtain ⟨g',hg',hgq⟩:=hat;have HR6:=lh hg';have HG6:Hid (g'=g∨w.heap.size < g'):=lh (by have:=HM5.out.size;have:=HB5.out.lt;omega);have HM6:=lh (HM5.out.trans hmv (.inl rfl));have HB6:=lh (HB5.out.mv hmv HZb.out HZg.out);have HX6:=lh (HX5.out.mv hmv HXb.out HXg.out);clear hg' hgq hmv HR5 HM5 HB5 HX5;have x0:=HX6.out.cell (i:=0) (v:=↑x.p.n) rfl;have x1:=HX6.out.cell (i:=1) (v:=↑x.p.size) rfl;have x2:=HX6.out.cell (i:=2) (v:=↑x.p.sent) rfl;have x3:=HX6.out.cell (i:=3) (v:=↑x.p.first) rfl;have x4:=HX6.out.cell (i:=4) (v:=↑x.p.deliv) rfl;have x5:=HX6.out.cell (i:=5) (v:=↑x.p.at_) rfl;have x6:=HX6.out.cell (i:=6) (v:=.bool x.p.lim) rfl;have x7:=HX6.out.cell (i:=7) (v:=↑x.due) rfl;have r0:=HB6.out.cell (i:=0) (v:=↑ζ) rfl;have fr0:=HB6.out.free 0;have r1:=HB6.out.cell (i:=1) (v:=↑ζ) rfl;have fr1:=HB6.out.free 1;have r2:=HB6.out.cell (i:=2) (v:=↑ζ) rfl;have fr2:=HB6.out.free 2;have r3:=HB6.out.cell (i:=3) (v:=↑ζ) rfl;have fr3:=HB6.out.free 3;have r4:=HB6.out.cell (i:=4) (v:=↑ζ) rfl;have fr4:=HB6.out.free 4;have r5:=HB6.out.cell (i:=5) (v:=↑ζ) rfl;have fr5:=HB6.out.free 5;have r6:=HB6.out.cell (i:=6) (v:=.bool false) rfl;have fr6:=HB6.out.free 6;have r7:=HB6.out.cell (i:=7) (v:=↑ζ) rfl;have fr7:=HB6.out.free 7;go_wp2_with fail;have F1:=Blk.whole (Itm.cs x) HB6.out rfl;refine bodyPost_ret (aF rfl _ _ w.heap.size 226 _ _ rfl F1 underlying226 rfl (by kernel_rfl)) rfl ⟨rfl,⟨g',⟨?_,?_⟩,?_⟩,?_⟩
 ·exact Blk.sets_other (Ne.symm HZb.out) (Itm.cs x) 0 w5 HR6.out.head
 ·exact Blk.sets_other (by have:=HG6.out;have:=HZg.out;omega) (Itm.cs x) 0 w5 HR6.out.body
 ·have:=HG6.out;omega
 ·exact Mv.sets (.inr (.inr (Nat.le_refl _))) (Itm.cs x) 0 w5 HM6.out

structure PV (w:World) (s:QS Jp) (e:Ending) (w':World):Prop where
 at_:∃b g,e=.returned ↑(π b)∧cH w' b g s∧↑w≤b∧↑w≤g
 bel:Below ↑w w w'
theorem OB (v:Option Addr) (cap:Nat) (l:List Jp) (w:World) (h:Its w v l) (hn:l.length≤100000):
  Calls prog 140 #[.slice v l.length cap] w (PV w ⟨l,0,l.length⟩):=by
 have HH:=lh h;have hmk:=MS l.length hn;have hsz:(prog.info? 226).map (·.size)=some 8:=by kernel_rfl
 clear h;have HB:Hid (Below ↑w w (w.alloc (.cells (aJ (List.replicate l.length (Itm.z (α:=Jp)))) 226))):=lh ((Below.refl _ _).alloc (Nat.le_refl _) _);have HBk:Hid (Blk (w.alloc (.cells (aJ (List.replicate l.length (Itm.z (α:=Jp)))) 226)) w.heap.size 226 (aJ (List.replicate l.length (Itm.z (α:=Jp))))):=lh (Blk.new _ _ _);have HNc:=lh (HH.out.keep HB.out);have HC1:Hid ((l.flatMap (Itm.cs (α:=Jp))).length=l.length * 8):=lh (cL l);have HC2:Hid ((aJ (List.replicate l.length (Itm.z (α:=Jp)))).size=l.length * 8):=lh (by rw [aS,List.length_replicate];rfl);go_enter func140,ntmps140;go_wp2_with ((refine eG rfl (.tmp 7) (.tmp 8) 297 297 rfl 226 underlying297 8 (by decide) hsz l.length v l.length cap w.heap.size rfl rfl (aJ (List.replicate l.length (Itm.z (α:=Jp)))) 226 HBk.out (l.flatMap (Itm.cs (α:=Jp))) HC1.out HC2.out (fun hp=>(HNc.out).cells hp) (kM l) w.heap.size w HB.out (Nat.le_refl _) ?_);intro w2 h2 hb2)
 have HW:=lh hb2;have H2:Hid (Blk w2 w.heap.size 226 (aJ l)):=h2;clear h2 hb2 hmk;go_wp2_with fail;go_ret;refine ⟨⟨w2.heap.size,w.heap.size,rfl,⟨?_,?_⟩,HW.out.size,Nat.le_refl _⟩,HW.out.alloc HW.out.size _⟩
 ·exact Blk.new _ _ _
 ·exact H2.out.alloc _

def bW (w:World) (b g:Nat) (l:List Jp):Prop:=∃q:QS Jp,q.ok∧q.items=l∧cH w b g q
theorem bW.keep {w w':World} {b g:Nat} {l:List Jp} (h:bW w b g l) (k:Below ↑w w w'):bW w' b g l:=by obtain ⟨q,h1,h2,h3⟩:=h;exact ⟨q,h1,h2,h3.keep k⟩
theorem bW.drawn {l:List Jp} (h:bW w b g l) (k:aB w w'):bW w' b g l:=h.keep (k.below _)
theorem bW.alloc {w:World} {b g:Nat} {l:List Jp} (h:bW w b g l) (o:Obj):bW (w.alloc o) b g l:=h.keep ((Below.refl _ _).alloc (Nat.le_refl _) _)
theorem bW.fr {w w':World} {b g:Nat} {l:List Jp} {L:List Nat} (h:bW w b g l) (k:Fr w w' L) (h1:b ∉ L) (h2:g ∉ L):bW w' b g l:=by obtain ⟨q,a,c,d⟩:=h;exact ⟨q,a,c,⟨d.head.fr k h1,d.body.fr k h2⟩⟩
theorem bW.set_other {w:World} {b g c i:Nat} {u:Value} {l:List Jp} (h:bW w b g l) (h1:b≠c) (h2:g≠c):bW (w.setCell ⟨c,i,none⟩ u) b g l:=by obtain ⟨q,a,d,e⟩:=h;exact ⟨q,a,d,⟨e.head.set_other i u h1,e.body.set_other i u h2⟩⟩
theorem bW.ne {w:World} {b g:Nat} {l:List Jp} (h:bW w b g l):b≠g:=by obtain ⟨q,_,_,h3⟩:=h;exact h3.ne
theorem bW.lt {w:World} {b g:Nat} {l:List Jp} (h:bW w b g l):b < w.heap.size∧g < w.heap.size:=by obtain ⟨q,_,_,h3⟩:=h;exact ⟨h3.head.lt,h3.body.lt⟩
theorem bW.len {l:List Jp} (h:bW w b g l):l.length≤100000:=by obtain ⟨q,h1,h2,h3⟩:=h;rw [← h2,QS.len_items];exact Nat.le_trans h1.c h1.m
theorem bW.head {w:World} {b g:Nat} {l:List Jp} (h:bW w b g l):∃cs,Blk w b 299 cs:=by obtain ⟨q,_,_,h3⟩:=h;exact ⟨_,h3.head⟩
theorem bW.body {w:World} {b g:Nat} {l:List Jp} (h:bW w b g l):∃cs,Blk w g 226 cs:=by obtain ⟨q,_,_,h3⟩:=h;exact ⟨_,h3.body⟩
structure jC (w:World) (b g:Nat) (v:Ending) (l:List Jp) (e:Ending) (w':World):Prop where
 e:e=v
 at_:∃g',bW w' b g' l∧(g'=g∨w.heap.size≤g')
 mv:Fr w w' [b,g]
theorem iF.row {v:Ending} {s:QS Jp} {l:List Jp} {e:Ending} (h:iF w b g v s e w') (ho:s.ok) (hl:s.items=l):jC w b g v l e w':=by
 obtain ⟨h1,⟨g',h2,h3⟩,h4⟩:=h;exact ⟨h1,⟨g',⟨s,ho,hl,h2⟩,h3⟩,Fr.of_mv h4⟩
theorem PW (b g i:Nat) (l:List Jp) (w:World) (h:bW w b g l) (hi:i < l.length):
  Calls prog 266 #[↑(π b),.int .i64 (i:Int)] w fun e w'=>e=gE (l.getD i Itm.z) true∧Below ↑w w w':=by
 obtain ⟨q,h1,rfl,h3⟩:=h;rw [QS.len_items] at hi;rw [QS.get_item hi];exact jQ.2 b g i q w h3 h1 hi
theorem yZ (b g:Nat) (i:Int) (l:List Jp) (w:World) (h:bW w b g l) (hi:i < 0∨(l.length:Int)≤i):
  Calls prog 266 #[↑(π b),.int .i64 i] w fun e w'=>e=gE Itm.z false∧Below ↑w w w':=by
 obtain ⟨q,h1,rfl,h3⟩:=h;rw [QS.len_items] at hi;exact yY b g i q w h3 hi
theorem JI (b g:Nat) (x:Jp) (l:List Jp) (w:World) (h:bW w b g l) (hl:l.length≤5500):
  Calls prog 187 #[↑(π b),x.agg] w (jC w b g (.returned (.tuple #[])) (l ++ [x])):=by
 obtain ⟨q,h1,rfl,h3⟩:=h;rw [QS.len_items] at hl;exact (JH b g x q w h3 h1 hl).mono fun e w' hp=>hp.row (QS.push_ok h1 hl x) (QS.push_items h1 x)
theorem DF (b g:Nat) (x:Jp) (l:List Jp) (w:World) (h:bW w b g (x :: l)):
  Calls prog 247 #[↑(π b)] w (jC w b g (gE x true) l):=by
 obtain ⟨q,h1,h2,h3⟩:=h;have hc:0 < q.cnt:=by rw [← QS.len_items,h2];simp
 have e:q.get 0=x:=by rw [← QS.get_item hc,h2];rfl
 have:=(DE b g q w h3 h1 hc).mono fun e w' hp=>hp.row (QS.shift_ok h1 hc) (QS.shift_items h1 hc);rw [e,h2] at this;exact this
structure OC (w:World) (l:List Jp) (e:Ending) (w':World):Prop where
 at_:∃b g,e=.returned ↑(π b)∧bW w' b g l∧↑w≤b∧↑w≤g
 bel:Below ↑w w w'
theorem OD (v:Option Addr) (cap:Nat) (l:List Jp) (w:World) (h:Its w v l) (hn:l.length≤100000):
  Calls prog 140 #[.slice v l.length cap] w (OC w l):=
 (OB v cap l w h hn).mono fun e w' hp=>by
  obtain ⟨⟨b,g,h1,h2,h3,h4⟩,h5⟩:=hp;exact ⟨⟨b,g,h1,⟨_,QS.new_ok hn,QS.new_items l,h2⟩,h3,h4⟩,h5⟩

def RS.cells (s:RS) (g:Nat):Array Value:=#[.slice (some ⟨g,0,none⟩) s.pl.length s.pl.length,.int .i64 (s.first:Int),.int .i64 (s.cnt:Int)]
structure aU (w:World) (b g:Nat) (s:RS):Prop where
 head:Blk w b 254 (s.cells g)
 body:Blk w g 177 (cX s.pl)
theorem aU.below {w w':World} {b g B:Nat} {s:RS} (h:aU w b g s) (k:Below B w w') (hb:b < B) (hg:g < B):aU w' b g s:=⟨h.head.below k hb,h.body.below k hg⟩
theorem aU.keep {w w':World} {b g:Nat} {s:RS} (h:aU w b g s) (k:Below ↑w w w'):aU w' b g s:=⟨h.head.keep k,h.body.keep k⟩
theorem aU.drewN {w:World} {b g:Nat} {s:RS} (h:aU w b g s) (n:Nat):aU (w.drewN n) b g s:=⟨h.head,h.body⟩
theorem aB.ring {a b:World} (h:aB a b) (k:aU a x g s):aU b x g s:=⟨h.blk k.head,h.blk k.body⟩
theorem dC (b g i:Nat) (s:RS) (w:World) (h:aU w b g s) (ho:s.ok) (hp:0 < s.pl.length) (hi:i≤100000):
  Calls prog 213 #[↑(π b),.int .i64 (i:Int)] w fun e w'=>e=.returned (.int .i64 ((s.pos i:Nat):Int))∧aB w w':=by
 have h0:=h.head.cell (i:=0) (v:=.slice (some ⟨g,0,none⟩) s.pl.length s.pl.length) rfl;have h1:=h.head.cell (i:=1) (v:=.int .i64 (s.first:Int)) rfl;have hf:=ho.f;have hm:=ho.m;have hn:(s.pl.length == 0)=false:=beq_false_of_ne (by omega);have HE:Hid (((s.pos i:Nat):Int)=((s.first:Int) + (i:Int)) % (s.pl.length:Int)):=lh (by simp [RS.pos]);generalize s.pos i=p at *;clear h ho;generalize s.pl.length=n at *;generalize s.first=f at *;go_enter func213,ntmps213;go_wp2_with fail;go_quiet (fail)
 go_wp2_with fail;go_ret;exact ⟨by rw [HE.out];rfl,nq,rfl⟩
theorem JJ:(prog.info? 177).map (fun i=>(i.zero,i.size,i.bytes))=some (some (.pointer none),1,8):=by kernel_rfl
theorem PX (n:Nat):madeCells (Value.cells (.pointer none)) n=cX (List.replicate n 0):=by
 apply Array.ext
 ·simp [size_madeCells,cX]
 ·intro i h1 h2
  simp [madeCells,cX,pv,Value.cells,Nat.mod_one,pa]
theorem wN (n:Nat) (hn:n≤100000) (w:World):(Instr.makeSlice 252 (.int .i64 (n:Int)) (.int .i64 (n:Int))).run prog w=.ok (.slice (some ⟨w.heap.size,0,none⟩) n n) (w.alloc (.cells (cX (List.replicate n 0)) 177)):=by
 obtain ⟨i0,hi,hz0,hz1,hz2⟩:=info_parts JJ;have:=run_make (P:=prog) w 252 177 i0 _ underlying252 hi hz0 .i64 .i64 n n (by omega) (by omega) (by rw [hz2];omega) (by omega);rw [this,hz1];simp only [Int.toNat_natCast,Nat.mul_one,PX]
def JK (w:World) (s:RS) (n k:Nat) (wr:World):Prop:=
 k≤s.cnt∧Blk wr w.heap.size 177 (cX (s.items.take k ++ List.replicate (n - k) 0))∧Below ↑w w wr
theorem DG {n:Nat} (hk:k < s.cnt) (hn:s.cnt≤n):(s.items.take k ++ List.replicate (n - k) 0).set k (s.get k)=s.items.take (k + 1) ++ List.replicate (n - (k + 1)) 0:=by
 have e:s.items[k]? =some (s.get k):=RS.item_at hk;rw [List.take_add_one,e,List.set_append_right _ _ (by simp [RS.len_items];omega),show n - k=(n - (k + 1)) + 1 by omega,List.replicate_succ];have:k - (List.take k s.items).length=0:=by simp [RS.len_items];omega
 rw [this];simp
structure DH (w:World) (l:List Nat) (e:Ending) (w':World):Prop where
 e:e=.returned (.slice (some ⟨w.heap.size,0,none⟩) l.length l.length)
 blk:Blk w' w.heap.size 177 (cX l)
 bel:Below ↑w w w'
theorem j7 {L:Nat} {v1 v2:Value} {p q:Addr} (h1:w.cell? p=some v1) (h2:w.cell? q=some v2) (n1:p.block≠L) (n2:q.block≠L):
  (w.setCell ⟨L,k,none⟩ u).cell? p=some v1∧(w.setCell ⟨L,k,none⟩ u).cell? q=some v2:=by
 rw [World.cell?_setCell_other _ _ _ _ (by intro e;exact n1 (by rw [← e])),World.cell?_setCell_other _ _ _ _ (by intro e;exact n2 (by rw [← e]))];exact ⟨h1,h2⟩
theorem y6 (b g n:Nat) (s:RS) (w:World) (h:aU w b g s) (ho:s.ok) (hn:s.cnt≤n) (hm:n≤100000):
  Calls prog 271 #[↑(π b),.int .i64 (n:Int)] w (DH w (s.lay n)):=by
 have HH:=lh h;have HO:=lh ho;have hbl:=h.head.lt;have hgl:=h.body.lt;have hmk:=wN n hm;have h2:=(h.head.alloc (.cells (cX (List.replicate n 0)) 177)).cell (i:=2) (v:=.int .i64 (s.cnt:Int)) rfl;clear h ho;go_enter func271,ntmps271;go_wp2_with fail;go_loopw [13] (fun i wr=>∃k:Nat,i=.int .i64 (k:Int)∧JK w s n k wr) (fun i _=>s.cnt - (intOf i).toNat)
 case atStart=>
  exact ⟨0,rfl,Nat.zero_le _,by simpa using Blk.new _ _ _,(Below.refl _ _).alloc (Nat.le_refl _) _⟩
 case round=>
  obtain ⟨k,rfl,hk,hb1,hbel⟩:=hrel;have HB:=lh hb1;have HW:=lh hbel;have HR:=lh (HH.out.below hbel hbl hgl);clear hb1 hbel h2 hmk;by_cases hlt:k < s.cnt
  ·have hp:0 < s.pl.length:=by have:=HO.out.c;omega
   have hpl:=RS.pos_lt hp k;have c0:=HR.out.head.drew.cell (i:=0) (v:=.slice (some ⟨g,0,none⟩) s.pl.length s.pl.length) rfl;have c1:=HR.out.body.drew.cell (i:=s.pos k) (v:=.pointer (pa (s.get k))) (dZ hpl);have HP:=lh (dC b g k s);have hlen:(s.items.take k ++ List.replicate (n - k) 0).length=n:=by simp [RS.len_items];omega
   have c2:=HB.out.drew.cell (i:=k) (dZ (by rw [hlen];omega));have c3:=HB.out.drew.free k;have HL:=lh (DG hlt hn);have i0:(0:Int)≤(k:Int):=by omega
   have i1:(k:Int) < (n:Int):=by omega
   have i2:k < n:=by omega
   have i3:(0:Int)≤((s.pos k:Nat):Int):=by omega
   have i4:((s.pos k:Nat):Int) < (s.pl.length:Int):=by omega
   clear hlen;generalize (s.items.take k ++ List.replicate (n - k) 0)=cur at *;generalize cur.getD k 0=y at *;generalize s.pos k=p at *;generalize s.get k=x at *;go_wp2_with fail;go_region_held3 (fun w'=>w'.cell? ⟨b,0,none⟩=some (.slice (some ⟨g,0,none⟩) s.pl.length s.pl.length)∧w'.cell? ⟨g,p,none⟩=some (.pointer (pa (x))))
    (first | exact ⟨c0,c1⟩ | exact ⟨e0,e1⟩ | exact j7 e0 e1 (by dsimp;omega) (by dsimp;omega))
    (first | (go_at_call 213;go_split_ands;refine (HP.out _ ((aB.drew wr).ring HR.out) HO.out hp (by omega)).mono ?_;rintro e w' ⟨rfl,hd⟩;have HD:=lh hd;clear hd;have e0:=(HD.out.cell _).trans c0;have e1:=(HD.out.cell _).trans c1;have e2:=(HD.out.cell _).trans c2;have e3:=(HD.out.frozen _).trans c3))
   have hD:aB wr w':=(aB.drew wr).more HD.out;have F1:=lh ((hD.blk HB.out).set k (.pointer (pa (x))));have F2:=lh ((HW.out.trans (hD.below _)).setCell (p:=⟨w.heap.size,k,none⟩) (Nat.le_refl _) (.pointer (pa (x))));rw [fM,HL.out] at F1;generalize (w'.setCell ⟨w.heap.size,k,none⟩ (.pointer (pa (x))))=w2 at *;clear e0 e1 e2 e3 c0 c1 c2 c3 hD HD HP HL;go_wp2_with fail;go_roundw
   case rel=>exact ⟨k + 1,by go_num,by omega,F1.out,F2.out⟩
   case measure=>simp [intOf];omega
  ·obtain rfl:k=s.cnt:=by omega
   have HL:Hid (s.lay n=s.items.take s.cnt ++ List.replicate (n - s.cnt) 0):=lh (by rw [List.take_of_length_le (by rw [RS.len_items];exact Nat.le_refl _)];rfl);have HN:=lh (RS.len_lay hn);go_wp2_with fail;go_ret;exact ⟨by rw [HN.out];rfl,by rw [HL.out];exact HB.out,HW.out⟩

theorem aU.ne (h:aU w b g s):b≠g:=by
 rintro rfl;have:=h.head;have k:=h.body;unfold Blk at this k;rw [this] at k;injection k with k;injection k with _ k;exact absurd k (by decide)
structure iG (w:World) (b g:Nat) (v:Ending) (s:RS) (e:Ending) (w':World):Prop where
 e:e=v
 at_:∃g',aU w' b g' s∧(g'=g∨w.heap.size≤g')
 mv:Mv w w' b g
theorem jR (b g n:Nat) (s:RS) (w:World) (h:aU w b g s) (ho:s.ok) (hn:s.cnt≤n) (hm:n≤100000):
  Calls prog 258 #[↑(π b),.int .i64 (n:Int)] w (iG w b g (.returned (.tuple #[])) (s.move n)):=by
 have HH:=lh h;have HN:=lh h.ne;have HL:=lh (y6 b g n s w h ho hn hm);have HE:=lh (RS.len_lay hn);have hbl:=h.head.lt;clear h ho;go_enter func258,ntmps258;go_wp2_with fail;refine (HL.out).mono ?_;rintro e w1 ⟨rfl,hb,hbel⟩;have HB:=lh hb;have HW:=lh hbel;have H1:=lh (HH.out.head.keep hbel);have c0:=H1.out.cell (i:=0) (v:=.slice (some ⟨g,0,none⟩) s.pl.length s.pl.length) rfl;have c1:=H1.out.cell (i:=1) (v:=.int .i64 (s.first:Int)) rfl;have f0:=H1.out.free 0;have f1:=H1.out.free 1;clear hb hbel;rw [HE.out];go_wp2_with fail;go_end0
 refine ⟨rfl,⟨w.heap.size,⟨?_,?_⟩,.inr (Nat.le_refl _)⟩,((Mv.of_below HW.out b g).set (.inl rfl) _ _).set (.inl rfl) _ _⟩
 ·have:=(H1.out.set 0 (.slice (some ⟨w.heap.size,0,none⟩) n n)).set 1 (.int .i64 0)
  simpa [RS.cells,RS.move,HE.out] using this
 ·exact (HB.out.set_other _ _ (by omega)).set_other _ _ (by omega)
structure DI (w:World) (b g:Nat) (s:RS) (e:Ending) (w':World):Prop where
 e:e=.returned (.tuple #[])
 at_:aU w' b g s
 mv:Mv w w' b g
theorem sG (b g i:Nat) (s:RS) (w:World) (h:aU w b g s) (ho:s.ok) (hp:0 < s.pl.length) (hi:i≤100000):
  Calls prog 214 #[↑(π b),.int .i64 (i:Int)] w (DI w b g (s.put i 0)):=by
 have HH:=lh h;have HO:=lh ho;have HN:=lh h.ne;have hpl:=RS.pos_lt hp i;have c0:=h.head.drew.cell (i:=0) (v:=.slice (some ⟨g,0,none⟩) s.pl.length s.pl.length) rfl;have c2:=h.body.drew.cell (i:=s.pos i) (dZ hpl);have c3:=h.body.drew.free (s.pos i);have HP:=lh (dC b g i s);have i3:(0:Int)≤((s.pos i:Nat):Int):=by omega
 have i4:((s.pos i:Nat):Int) < (s.pl.length:Int):=by omega
 have HS:Hid ((s.put i 0).pl=s.pl.set (s.pos i) 0):=lh rfl;clear h ho;generalize s.pl.getD (s.pos i) 0=y at *;generalize s.pos i=p at *;go_enter func214,ntmps214;go_wp2_with fail;go_region_held3 (fun w'=>w'.cell? ⟨b,0,none⟩=some (.slice (some ⟨g,0,none⟩) s.pl.length s.pl.length))
  (first | exact c0 | exact e0 | exact (j7 e0 e0 HN.out HN.out).1)
  (first | (go_at_call 213;refine (HP.out _ ((aB.drew w).ring HH.out) HO.out hp (by omega)).mono ?_;rintro e w' ⟨rfl,hd⟩;have HD:=lh hd;clear hd;have e0:=(HD.out.cell _).trans c0;have e2:=(HD.out.cell _).trans c2;have e3:=(HD.out.frozen _).trans c3))
 go_end0
 have hD:aB w w':=(aB.drew w).more HD.out;refine ⟨rfl,⟨?_,?_⟩,((Mv.refl w b g).drawn hD).set (.inr (.inl rfl)) _ _⟩
 ·have:=(hD.blk HH.out.head).set_other p (.pointer none) (c:=g) HN.out
  simpa [RS.cells,RS.put] using this
 ·have:=(hD.blk HH.out.body).set p (.pointer (pa (0)))
  rw [fM,← HS.out] at this;exact this
theorem kW (b g:Nat) (s:RS) (w:World) (h:aU w b g s):
  Calls prog 162 #[↑(π b)] w fun e w'=>e=.returned (.int .i64 (s.cnt:Int))∧w=w':=by
 have c2:=h.head.cell (i:=2) (v:=.int .i64 (s.cnt:Int)) rfl;clear h;go_enter func162,ntmps162;go_wp2;go_ret;exact ⟨rfl,rfl⟩

theorem iG.same {v:Ending} {t:RS} {e:Ending} (h:iG w b g v s e w') (hs:s=t):iG w b g v t e w':=by subst hs;exact h
theorem p5 (b g:Nat) (s:RS) (w:World) (h:aU w b g s) (ho:s.ok):
  Calls prog 215 #[↑(π b)] w (iG w b g (.returned (.tuple #[])) s.narrow):=by
 have HH:=lh h;have HO:=lh ho;have c0:=h.head.cell (i:=0) (v:=.slice (some ⟨g,0,none⟩) s.pl.length s.pl.length) rfl;have c2:=h.head.cell (i:=2) (v:=.int .i64 (s.cnt:Int)) rfl;have hm:=ho.m;have hc:=ho.c;clear h ho;by_cases a:0 < s.cnt
 ·by_cases d:s.cnt≤s.pl.length / 4
  ·have HE:Hid (s.narrow=s.move (s.pl.length / 2)):=lh (if_pos ⟨a,d⟩)
   have d1:decide ((s.cnt:Int)≤(s.pl.length:Int) / 4)=true:=by simp;omega
   go_enter func215,ntmps215;go_wp2_with fail;go_quiet (fail)
   have HD:Hid (aB w (w.drewN nq)):=lh ⟨nq,rfl⟩;have e0:=(HD.out.cell _).trans c0;generalize w.drewN nq=w1 at *;go_wp2_with fail;have e:((s.pl.length:Int) / 2)=((s.pl.length / 2:Nat):Int):=by omega
   rw [e];clear e;refine (jR b g (s.pl.length / 2) s w1 (HD.out.ring HH.out) HO.out (by omega) (by omega)).mono ?_;rintro e w2 ⟨rfl,hat,hmv⟩;have HA:=lh hat;have HM:=lh hmv;clear hat hmv;go_wp2_with fail;go_end0
   obtain ⟨g',h1,h2⟩:=HA.out;rw [HE.out];exact ⟨rfl,⟨g',h1,by rw [HD.out.heap] at h2;exact h2⟩,((Mv.refl w b g).drawn HD.out).trans HM.out (.inl rfl)⟩
  ·have HE:Hid (s.narrow=s):=lh (if_neg (fun k=>d k.2))
   have d1:decide ((s.cnt:Int)≤(s.pl.length:Int) / 4)=false:=by simp;omega
   go_enter func215,ntmps215;go_wp2_with fail;go_quiet (fail)
   have HD:Hid (aB w (w.drewN nq)):=lh ⟨nq,rfl⟩;go_wp2_with fail;go_end0
   rw [HE.out];exact ⟨rfl,⟨g,HD.out.ring HH.out,.inl rfl⟩,(Mv.refl w b g).drawn HD.out⟩
 ·have HE:Hid (s.narrow=s):=lh (if_neg (fun k=>a k.1))
  have d0:decide ((0:Int) < (s.cnt:Int))=false:=by simp;omega
  have d1:decide (0 < s.cnt)=false:=by simp;omega
  go_enter func215,ntmps215;go_wp2_with fail;go_quiet (fail)
  have HD:Hid (aB w (w.drewN nq)):=lh ⟨nq,rfl⟩;go_wp2_with fail;go_end0
  rw [HE.out];exact ⟨rfl,⟨g,HD.out.ring HH.out,.inl rfl⟩,(Mv.refl w b g).drawn HD.out⟩
def mT (x:Nat) (ok:Bool):Ending:=.returned (.tuple #[.pointer (pa (x)),.bool ok])
theorem sH (b g i:Nat) (s:RS) (w:World) (h:aU w b g s) (ho:s.ok) (hi:i < s.cnt):
  Calls prog 163 #[↑(π b),.int .i64 (i:Int)] w fun e w'=>e=mT (s.get i) true∧aB w w':=by
 have HH:=lh h;have HO:=lh ho;have hp:0 < s.pl.length:=by have:=ho.c;omega
 have hpl:=RS.pos_lt hp i;have hc:=ho.c;have hm:=ho.m;have c0:=h.head.drew.cell (i:=0) (v:=.slice (some ⟨g,0,none⟩) s.pl.length s.pl.length) rfl;have c1:=h.body.drew.cell (i:=s.pos i) (v:=.pointer (pa (s.get i))) (dZ hpl);have HP:=lh (dC b g i s);have HL:=lh (kW b g s w h);have i3:(0:Int)≤((s.pos i:Nat):Int):=by omega
 have i4:((s.pos i:Nat):Int) < (s.pl.length:Int):=by omega
 have d0:decide ((i:Int) < 0)=false:=by simp
 have d1:decide (s.cnt≤i)=false:=by simp;omega
 clear h ho;generalize s.get i=x at *;generalize s.pos i=p at *;go_enter func163,ntmps163;go_wp2_with (go_at_call 162;refine (HL.out).mono ?_;rintro e w' ⟨rfl,rfl⟩)
 go_region_held3 (fun w'=>w'.cell? ⟨b,0,none⟩=some (.slice (some ⟨g,0,none⟩) s.pl.length s.pl.length)∧w'.cell? ⟨g,p,none⟩=some (.pointer (pa (x))))
  (first | exact ⟨c0,c1⟩ | exact ⟨e0,e1⟩)
  (first | (go_at_call 213;refine (HP.out _ ((aB.drew w).ring HH.out) HO.out hp (by omega)).mono ?_;rintro e w' ⟨rfl,hd⟩;have HD:=lh hd;clear hd;have e0:=(HD.out.cell _).trans c0;have e1:=(HD.out.cell _).trans c1))
 go_wp2_with fail;go_ret2
 exact ⟨rfl,(aB.drew w).more HD.out⟩
theorem qA (b g:Nat) (i:Int) (s:RS) (w:World) (h:aU w b g s) (hi:i < 0∨(s.cnt:Int)≤i):
  Calls prog 163 #[↑(π b),.int .i64 i] w fun e w'=>e=mT 0 false∧aB w w':=by
 have HL:=lh (kW b g s w h);clear h;by_cases c:i < 0
 ·have d0:decide (i < 0)=true:=by simpa using c
  go_enter func163,ntmps163;go_wp2_with (go_at_call 162;refine (HL.out).mono ?_;rintro e w' ⟨rfl,rfl⟩)
  go_ret2
  exact ⟨rfl,aB.refl _⟩
 ·have d0:decide (i < 0)=false:=by simpa using c
  have hj:(s.cnt:Int)≤i:=by omega
  have d1:decide ((s.cnt:Int)≤i)=true:=by simpa using hj
  clear hi;go_enter func163,ntmps163;go_wp2_with (go_at_call 162;refine (HL.out).mono ?_;rintro e w' ⟨rfl,rfl⟩)
  go_ret2
  exact ⟨rfl,aB.refl _⟩

theorem uR (b g x:Nat) (s:RS) (w:World) (h:aU w b g s) (ho:s.ok) (hk:s.cnt≤7000):
  Calls prog 239 #[↑(π b),.pointer (pa (x))] w (iG w b g (.returned (.tuple #[])) (s.push x)):=by
 have HH:=lh h;have HO:=lh ho;have b0:=h.head.cell (i:=0) (v:=.slice (some ⟨g,0,none⟩) s.pl.length s.pl.length) rfl;have b2:=h.head.cell (i:=2) (v:=.int .i64 (s.cnt:Int)) rfl;have hm:=ho.m;have hc:=ho.c;clear h ho;by_cases a:s.cnt=s.pl.length
 ·by_cases z:1≤s.cnt
  ·have HE:Hid (s.wide=s.move (2 * s.cnt)):=lh (by unfold RS.wide;rw [if_pos a];congr 1;omega)
   have z1:(1:Int) < 2 * (s.cnt:Int):=by omega
   have d1:(s.cnt == s.pl.length)=true:=by simpa using a
   have HA:=lh a;clear a;go_enter func239,ntmps239;go_wp2_with fail;go_quiet (fail)
   have HD:Hid (aB w (w.drewN nq)):=lh ⟨nq,rfl⟩;have q2:=(HD.out.cell _).trans b2;generalize w.drewN nq=w1 at *;go_wp2_with fail;have HC:Hid (Calls prog 258 #[↑(π b),.int .i64 (2 * (s.cnt:Int))] w1 (iG w1 b g (.returned (.tuple #[])) (s.move (2 * s.cnt)))):=lh (by have:=jR b g (2 * s.cnt) s w1 (HD.out.ring HH.out) HO.out (by omega) (by omega);rw [show ((2 * s.cnt:Nat):Int)=2 * (s.cnt:Int) from by omega] at this;exact this);refine (HC.out).mono ?_;rintro e w2 ⟨rfl,hat,hmv⟩;obtain ⟨g2,hg2,hgq⟩:=hat;rw [← HE.out] at hg2;have HG:=lh hg2;have HQ:Hid (g2=g∨w.heap.size≤g2):=lh (by rw [HD.out.heap] at hgq;exact hgq);have HM2:=lh (((Mv.refl w b g).drawn HD.out).trans hmv (.inl rfl));clear hg2 hgq hmv q2 HE b0 b2 HD HC z1;have HO2:=lh (RS.wide_ok HO.out hk);have HC2:=lh (RS.wide_cnt s);have HR2:=lh (RS.wide_room HO.out);have HPU:Hid (s.push x=⟨s.wide.pl.set (s.wide.pos s.cnt) x,s.wide.first,s.cnt + 1⟩):=lh rfl;generalize s.wide=t at *;generalize s.push x=u at *;obtain ⟨t1,t2,t3⟩:=t;obtain rfl:t3=s.cnt:=HC2.out;have hr:s.cnt < t1.length:=HR2.out;have hpl:=RS.pos_lt (s:=⟨t1,t2,s.cnt⟩) (by show 0 < t1.length;omega) s.cnt;have c0:=HG.out.head.drew.cell (i:=0) (v:=.slice (some ⟨g2,0,none⟩) t1.length t1.length) rfl;have c2:=HG.out.head.drew.cell (i:=2) (v:=.int .i64 (s.cnt:Int)) rfl;have c3:=HG.out.body.drew.cell (i:=RS.pos ⟨t1,t2,s.cnt⟩ s.cnt) (dZ hpl);have c4:=HG.out.body.drew.free (RS.pos ⟨t1,t2,s.cnt⟩ s.cnt);have k2:=HG.out.head.drew.free 2;have HN2:=lh HG.out.ne;have HP:=lh (dC b g2 s.cnt ⟨t1,t2,s.cnt⟩);have i3:(0:Int)≤((RS.pos ⟨t1,t2,s.cnt⟩ s.cnt:Nat):Int):=by omega
   have i4:((RS.pos ⟨t1,t2,s.cnt⟩ s.cnt:Nat):Int) < (t1.length:Int):=by exact_mod_cast hpl
   have i5:RS.pos ⟨t1,t2,s.cnt⟩ s.cnt < t1.length:=hpl;clear hpl;generalize t1.getD (RS.pos ⟨t1,t2,s.cnt⟩ s.cnt) 0=y at *;generalize RS.pos ⟨t1,t2,s.cnt⟩ s.cnt=p at *;go_wp2_with fail;go_region_held3 (fun w'=>w'.cell? ⟨b,0,none⟩=some (.slice (some ⟨g2,0,none⟩) t1.length t1.length)∧w'.cell? ⟨b,2,none⟩=some (.int .i64 (s.cnt:Int)))
    (first | exact ⟨c0,c2⟩ | exact ⟨e0,e2⟩ | exact j7 e0 e2 HN2.out HN2.out)
    (first | (go_at_call 213;refine (HP.out _ ((aB.drew w2).ring HG.out) HO2.out (by show 0 < t1.length;omega) (by omega)).mono ?_;rintro e w' ⟨rfl,hd⟩;have HD3:=lh hd;clear hd;have e0:=(HD3.out.cell _).trans c0;have e2:=(HD3.out.cell _).trans c2;have e3:=(HD3.out.cell _).trans c3;have e4:=(HD3.out.frozen _).trans c4;have e5:=(HD3.out.frozen _).trans k2))
   have hD:aB w2 w':=(aB.drew w2).more HD3.out;have F1:=lh ((hD.blk HG.out.body).set p (.pointer (pa (x))));have F2:=lh ((hD.blk HG.out.head).set_other p (.pointer (pa (x))) HN2.out);have F3:=lh ((HM2.out.drawn hD).set (c:=g2) (by have:=HQ.out;omega) p (.pointer (pa (x))));rw [fM] at F1;generalize (w'.setCell ⟨g2,p,none⟩ (.pointer (pa (x))))=w3 at *;clear e0 e2 e3 e4 e5 c0 c2 c3 c4 k2 hD HD3 HP i3 i4 i5;have m2:=F2.out.cell (i:=2) (v:=.int .i64 (s.cnt:Int)) rfl;have n2:=F2.out.free 2;go_wp2_with fail;go_end0
   refine ⟨rfl,⟨g2,⟨?_,?_⟩,HQ.out⟩,F3.out.set (.inl rfl) _ _⟩
   ·have:=F2.out.set 2 (.int .i64 ((s.cnt:Int) + 1))
    rw [HPU.out];simpa [RS.cells] using this
   ·rw [HPU.out]
    exact F1.out.set_other _ _ (Ne.symm HN2.out)
  ·have HE:Hid (s.wide=s.move 1):=lh (by unfold RS.wide;rw [if_pos a];congr 1;omega)
   have z1:2 * (s.cnt:Int)≤1:=by omega
   have d1:(s.cnt == s.pl.length)=true:=by simpa using a
   have HA:=lh a;clear a;go_enter func239,ntmps239;go_wp2_with fail;go_quiet (fail)
   have HD:Hid (aB w (w.drewN nq)):=lh ⟨nq,rfl⟩;have q2:=(HD.out.cell _).trans b2;generalize w.drewN nq=w1 at *;go_wp2_with fail;have HC:Hid (Calls prog 258 #[↑(π b),.int .i64 1] w1 (iG w1 b g (.returned (.tuple #[])) (s.move 1))):=lh (by have:=jR b g 1 s w1 (HD.out.ring HH.out) HO.out (by omega) (by omega);exact this);refine (HC.out).mono ?_;rintro e w2 ⟨rfl,hat,hmv⟩;obtain ⟨g2,hg2,hgq⟩:=hat;rw [← HE.out] at hg2;have HG:=lh hg2;have HQ:Hid (g2=g∨w.heap.size≤g2):=lh (by rw [HD.out.heap] at hgq;exact hgq);have HM2:=lh (((Mv.refl w b g).drawn HD.out).trans hmv (.inl rfl));clear hg2 hgq hmv q2 HE b0 b2 HD HC z1;have HO2:=lh (RS.wide_ok HO.out hk);have HC2:=lh (RS.wide_cnt s);have HR2:=lh (RS.wide_room HO.out);have HPU:Hid (s.push x=⟨s.wide.pl.set (s.wide.pos s.cnt) x,s.wide.first,s.cnt + 1⟩):=lh rfl;generalize s.wide=t at *;generalize s.push x=u at *;obtain ⟨t1,t2,t3⟩:=t;obtain rfl:t3=s.cnt:=HC2.out;have hr:s.cnt < t1.length:=HR2.out;have hpl:=RS.pos_lt (s:=⟨t1,t2,s.cnt⟩) (by show 0 < t1.length;omega) s.cnt;have c0:=HG.out.head.drew.cell (i:=0) (v:=.slice (some ⟨g2,0,none⟩) t1.length t1.length) rfl;have c2:=HG.out.head.drew.cell (i:=2) (v:=.int .i64 (s.cnt:Int)) rfl;have c3:=HG.out.body.drew.cell (i:=RS.pos ⟨t1,t2,s.cnt⟩ s.cnt) (dZ hpl);have c4:=HG.out.body.drew.free (RS.pos ⟨t1,t2,s.cnt⟩ s.cnt);have k2:=HG.out.head.drew.free 2;have HN2:=lh HG.out.ne;have HP:=lh (dC b g2 s.cnt ⟨t1,t2,s.cnt⟩);have i3:(0:Int)≤((RS.pos ⟨t1,t2,s.cnt⟩ s.cnt:Nat):Int):=by omega
   have i4:((RS.pos ⟨t1,t2,s.cnt⟩ s.cnt:Nat):Int) < (t1.length:Int):=by exact_mod_cast hpl
   have i5:RS.pos ⟨t1,t2,s.cnt⟩ s.cnt < t1.length:=hpl;clear hpl;generalize t1.getD (RS.pos ⟨t1,t2,s.cnt⟩ s.cnt) 0=y at *;generalize RS.pos ⟨t1,t2,s.cnt⟩ s.cnt=p at *;go_wp2_with fail;go_region_held3 (fun w'=>w'.cell? ⟨b,0,none⟩=some (.slice (some ⟨g2,0,none⟩) t1.length t1.length)∧w'.cell? ⟨b,2,none⟩=some (.int .i64 (s.cnt:Int)))
    (first | exact ⟨c0,c2⟩ | exact ⟨e0,e2⟩ | exact j7 e0 e2 HN2.out HN2.out)
    (first | (go_at_call 213;refine (HP.out _ ((aB.drew w2).ring HG.out) HO2.out (by show 0 < t1.length;omega) (by omega)).mono ?_;rintro e w' ⟨rfl,hd⟩;have HD3:=lh hd;clear hd;have e0:=(HD3.out.cell _).trans c0;have e2:=(HD3.out.cell _).trans c2;have e3:=(HD3.out.cell _).trans c3;have e4:=(HD3.out.frozen _).trans c4;have e5:=(HD3.out.frozen _).trans k2))
   have hD:aB w2 w':=(aB.drew w2).more HD3.out;have F1:=lh ((hD.blk HG.out.body).set p (.pointer (pa (x))));have F2:=lh ((hD.blk HG.out.head).set_other p (.pointer (pa (x))) HN2.out);have F3:=lh ((HM2.out.drawn hD).set (c:=g2) (by have:=HQ.out;omega) p (.pointer (pa (x))));rw [fM] at F1;generalize (w'.setCell ⟨g2,p,none⟩ (.pointer (pa (x))))=w3 at *;clear e0 e2 e3 e4 e5 c0 c2 c3 c4 k2 hD HD3 HP i3 i4 i5;have m2:=F2.out.cell (i:=2) (v:=.int .i64 (s.cnt:Int)) rfl;have n2:=F2.out.free 2;go_wp2_with fail;go_end0
   refine ⟨rfl,⟨g2,⟨?_,?_⟩,HQ.out⟩,F3.out.set (.inl rfl) _ _⟩
   ·have:=F2.out.set 2 (.int .i64 ((s.cnt:Int) + 1))
    rw [HPU.out];simpa [RS.cells] using this
   ·rw [HPU.out]
    exact F1.out.set_other _ _ (Ne.symm HN2.out)
 ·have HE:Hid (s.wide=s):=lh (if_neg a)
  have d1:(s.cnt == s.pl.length)=false:=by simpa using a
  have HA:=lh a;clear a;go_enter func239,ntmps239;go_wp2_with fail;go_quiet (fail)
  have HD:Hid (aB w (w.drewN nq)):=lh ⟨nq,rfl⟩;have q2:=(HD.out.cell _).trans b2;have HG:Hid (aU (w.drewN nq) b g s.wide):=lh (by rw [HE.out];exact HD.out.ring HH.out);have HM2:=lh ((Mv.refl w b g).drawn HD.out);obtain ⟨g2,hg2⟩:∃g2,g2=g:=⟨_,rfl⟩;have HQ:Hid (g2=g∨w.heap.size≤g2):=lh (.inl hg2);rw [← hg2] at HG;generalize w.drewN nq=w2 at *;clear hg2 HE b0 b2 HD q2;have HO2:=lh (RS.wide_ok HO.out hk);have HC2:=lh (RS.wide_cnt s);have HR2:=lh (RS.wide_room HO.out);have HPU:Hid (s.push x=⟨s.wide.pl.set (s.wide.pos s.cnt) x,s.wide.first,s.cnt + 1⟩):=lh rfl;generalize s.wide=t at *;generalize s.push x=u at *;obtain ⟨t1,t2,t3⟩:=t;obtain rfl:t3=s.cnt:=HC2.out;have hr:s.cnt < t1.length:=HR2.out;have hpl:=RS.pos_lt (s:=⟨t1,t2,s.cnt⟩) (by show 0 < t1.length;omega) s.cnt;have c0:=HG.out.head.drew.cell (i:=0) (v:=.slice (some ⟨g2,0,none⟩) t1.length t1.length) rfl;have c2:=HG.out.head.drew.cell (i:=2) (v:=.int .i64 (s.cnt:Int)) rfl;have c3:=HG.out.body.drew.cell (i:=RS.pos ⟨t1,t2,s.cnt⟩ s.cnt) (dZ hpl);have c4:=HG.out.body.drew.free (RS.pos ⟨t1,t2,s.cnt⟩ s.cnt);have k2:=HG.out.head.drew.free 2;have HN2:=lh HG.out.ne;have HP:=lh (dC b g2 s.cnt ⟨t1,t2,s.cnt⟩);have i3:(0:Int)≤((RS.pos ⟨t1,t2,s.cnt⟩ s.cnt:Nat):Int):=by omega
  have i4:((RS.pos ⟨t1,t2,s.cnt⟩ s.cnt:Nat):Int) < (t1.length:Int):=by exact_mod_cast hpl
  have i5:RS.pos ⟨t1,t2,s.cnt⟩ s.cnt < t1.length:=hpl;clear hpl;generalize t1.getD (RS.pos ⟨t1,t2,s.cnt⟩ s.cnt) 0=y at *;generalize RS.pos ⟨t1,t2,s.cnt⟩ s.cnt=p at *;go_wp2_with fail;go_region_held3 (fun w'=>w'.cell? ⟨b,0,none⟩=some (.slice (some ⟨g2,0,none⟩) t1.length t1.length)∧w'.cell? ⟨b,2,none⟩=some (.int .i64 (s.cnt:Int)))
   (first | exact ⟨c0,c2⟩ | exact ⟨e0,e2⟩ | exact j7 e0 e2 HN2.out HN2.out)
   (first | (go_at_call 213;refine (HP.out _ ((aB.drew w2).ring HG.out) HO2.out (by show 0 < t1.length;omega) (by omega)).mono ?_;rintro e w' ⟨rfl,hd⟩;have HD3:=lh hd;clear hd;have e0:=(HD3.out.cell _).trans c0;have e2:=(HD3.out.cell _).trans c2;have e3:=(HD3.out.cell _).trans c3;have e4:=(HD3.out.frozen _).trans c4;have e5:=(HD3.out.frozen _).trans k2))
  have hD:aB w2 w':=(aB.drew w2).more HD3.out;have F1:=lh ((hD.blk HG.out.body).set p (.pointer (pa (x))));have F2:=lh ((hD.blk HG.out.head).set_other p (.pointer (pa (x))) HN2.out);have F3:=lh ((HM2.out.drawn hD).set (c:=g2) (by have:=HQ.out;omega) p (.pointer (pa (x))));rw [fM] at F1;generalize (w'.setCell ⟨g2,p,none⟩ (.pointer (pa (x))))=w3 at *;clear e0 e2 e3 e4 e5 c0 c2 c3 c4 k2 hD HD3 HP i3 i4 i5;have m2:=F2.out.cell (i:=2) (v:=.int .i64 (s.cnt:Int)) rfl;have n2:=F2.out.free 2;go_wp2_with fail;go_end0
  refine ⟨rfl,⟨g2,⟨?_,?_⟩,HQ.out⟩,F3.out.set (.inl rfl) _ _⟩
  ·have:=F2.out.set 2 (.int .i64 ((s.cnt:Int) + 1))
   rw [HPU.out];simpa [RS.cells] using this
  ·rw [HPU.out]
   exact F1.out.set_other _ _ (Ne.symm HN2.out)

theorem RS.put_pos (s:RS) (i x j:Nat):(s.put i x).pos j=s.pos j:=by simp [RS.pos,RS.put]
theorem RS.put_ok (h:s.ok) (i x:Nat):(s.put i x).ok:=⟨by simp only [RS.put,List.length_set];exact h.c,by simp only [RS.put,List.length_set];exact h.f,by simp only [RS.put,List.length_set];exact h.m⟩
theorem RS.put_len (s:RS) (i x:Nat):(s.put i x).pl.length=s.pl.length:=by simp [RS.put]
theorem sI (b g:Nat) (s:RS) (w:World) (h:aU w b g s) (ho:s.ok) (hc:0 < s.cnt):
  Calls prog 164 #[↑(π b)] w (iG w b g (mT (s.get 0) true) s.shift):=by
 have HH:=lh h;have HO:=lh ho;have hp:0 < s.pl.length:=by have:=ho.c;omega
 have HA:Hid (Calls prog 163 #[↑(π b),.int .i64 0] w fun e w'=>e=mT (s.get 0) true∧aB w w'):=lh (sH b g 0 s w h ho hc);have hcl:s.cnt≤100000:=Nat.le_trans ho.c ho.m;clear h ho;generalize s.get 0=x at *;go_enter func164,ntmps164;go_wp2_with fail;refine (HA.out).mono ?_;rintro e w1 ⟨rfl,hd⟩;have HD:=lh hd;have HR1:=lh (hd.ring HH.out);have HM1:=lh ((Mv.refl w b g).drawn hd);clear hd HA;unfold mT;go_wp2_with fail;have HC:Hid (Calls prog 214 #[↑(π b),.int .i64 0] w1 (DI w1 b g (s.put 0 0))):=lh (sG b g 0 s w1 HR1.out HO.out hp (by omega));refine (HC.out).mono ?_;rintro e w2 ⟨rfl,hat,hmv⟩;have HR2:=lh hat;have HM2:=lh (HM1.out.trans hmv (.inl rfl));clear hat hmv HC;go_wp2_with fail;have HC:Hid (Calls prog 213 #[↑(π b),.int .i64 1] w2 fun e w'=>e=.returned (.int .i64 ((s.pos 1:Nat):Int))∧aB w2 w'):=lh (by
  have:=dC b g 1 (s.put 0 0) w2 HR2.out (RS.put_ok HO.out 0 0) (by rw [RS.put_len];exact hp) (by omega);rw [RS.put_pos] at this;exact this)
 refine (HC.out).mono ?_;rintro e w3 ⟨rfl,hd⟩;have HR3:=lh (hd.ring HR2.out);have HM3:=lh (HM2.out.drawn hd);clear hd HC;have c1:=HR3.out.head.cell (i:=1) (v:=.int .i64 (s.first:Int)) rfl;have c2:=HR3.out.head.cell (i:=2) (v:=.int .i64 (s.cnt:Int)) rfl;have f1:=HR3.out.head.free 1;have f2:=HR3.out.head.free 2;go_wp2_with fail;have HR4:Hid (aU ((w3.setCell ⟨b,1,none⟩ (.int .i64 ((s.pos 1:Nat):Int))).setCell ⟨b,2,none⟩ (.int .i64 ((s.cnt:Int) - 1))) b g s.shift0):=lh ⟨by
   have:=(HR3.out.head.set 1 (.int .i64 ((s.pos 1:Nat):Int))).set 2 (.int .i64 ((s.cnt:Int) - 1));have e:((s.cnt - 1:Nat):Int)=(s.cnt:Int) - 1:=by omega
   simpa [RS.cells,RS.shift0,e,RS.put] using this,
  (HR3.out.body.set_other _ _ (Ne.symm HR3.out.ne)).set_other _ _ (Ne.symm HR3.out.ne)⟩
 have HM4:=lh ((HM3.out.set (c:=b) (.inl rfl) 1 (.int .i64 ((s.pos 1:Nat):Int))).set (c:=b) (.inl rfl) 2 (.int .i64 ((s.cnt:Int) - 1)));generalize ((w3.setCell ⟨b,1,none⟩ (.int .i64 ((s.pos 1:Nat):Int))).setCell ⟨b,2,none⟩ (.int .i64 ((s.cnt:Int) - 1)))=w4 at *;clear c1 c2 f1 f2;refine (p5 b g s.shift0 w4 HR4.out (RS.shift0_ok HO.out hc)).mono ?_;rintro e w5 ⟨rfl,hat,hmv⟩;have HR5:=lh hat;have HM5:=lh (HM4.out.trans hmv (.inl rfl));have HZ:=lh HM4.out.size;clear hat hmv;go_wp2_with fail;go_ret2
 refine ⟨rfl,?_,HM5.out⟩;obtain ⟨g',h1,h2⟩:=HR5.out;exact ⟨g',h1,by have:=HZ.out;omega⟩

def jK (w:World) (v:Option Addr) (l:List Nat):Prop:=
 0 < l.length→∃b off,v=some ⟨b,off,none⟩∧b < w.heap.size∧∀i,i < l.length→w.cell? ⟨b,off + i,none⟩=some (pv (l.getD i 0))
theorem jK.keep (h:jK w v l) (k:Below ↑w w w'):jK w' v l:=by
 intro hp;obtain ⟨b,off,e,hb,hc⟩:=h hp;exact ⟨b,off,e,Nat.lt_of_lt_of_le hb k.size,fun i hi=>(k.cell (p:=⟨b,off + i,none⟩) hb).trans (hc i hi)⟩
theorem jK.of_blk (h:Blk w g 177 (cX l)):jK w (some ⟨g,0,none⟩) l:=by
 intro _;refine ⟨g,0,rfl,h.lt,fun i hi=>h.cell ?_⟩;rw [Nat.zero_add];exact dZ hi
theorem jK.cells (h:jK w v l) (hp:0 < (l.map pv).length):∃ad,v=some ad∧∀j u,(l.map pv)[j]? =some u→w.cell? (ad.add j)=some u:=by
 obtain ⟨b,off,rfl,_,hc⟩:=h (by simpa using hp);refine ⟨_,rfl,fun j u hu=>?_⟩;obtain ⟨hj,rfl⟩:=sF.2 hu;rw [Go.WideShapes.add_plain];exact hc j hj
theorem DJ (l:List Nat):∀v∈l.map pv,v.oneCell'=true:=by
 intro v hv;obtain ⟨n,_,rfl⟩:=List.mem_map.1 hv;rfl
structure RL (w:World) (s:RS) (e:Ending) (w':World):Prop where
 at_:∃b g,e=.returned ↑(π b)∧aU w' b g s∧↑w≤b∧↑w≤g
 bel:Below ↑w w w'
theorem JL:(prog.info? 177).map (·.size)=some 1:=by kernel_rfl
theorem zA (v:Option Addr) (cap:Nat) (l:List Nat) (w:World) (h:jK w v l) (hn:l.length≤100000):
  Calls prog 100 #[.slice v l.length cap] w (RL w ⟨l,0,l.length⟩):=by
 have HH:=lh h;have hmk:=wN l.length hn;clear h;go_enter func100,ntmps100;have HB:Hid (Below ↑w w (w.alloc (.cells (cX (List.replicate l.length 0)) 177))):=lh ((Below.refl _ _).alloc (Nat.le_refl _) _);have HBk:Hid (Blk (w.alloc (.cells (cX (List.replicate l.length 0)) 177)) w.heap.size 177 (cX (List.replicate l.length 0))):=lh (Blk.new _ _ _);have HNc:=lh (HH.out.keep HB.out);go_wp2_with ((refine wpList_copy_splice rfl (.tmp 7) (.tmp 8) 252 252 rfl 177 underlying252 JL (some ⟨w.heap.size,0,none⟩) v l.length l.length l.length cap rfl rfl w.heap.size 0 ((List.replicate l.length 0).map pv) 177 HBk.out (l.map pv) (by simp) (fun hp=>⟨rfl,(HNc.out).cells hp⟩) (by simp) (DJ l) w.heap.size w HB.out (Nat.le_refl _) ?_);intro w2 h2 hb2)
 have HW:=lh hb2;have H2:Hid (Blk w2 w.heap.size 177 (cX l)):=lh (by
  have:=h2.out;rw [show splice (List.map pv (List.replicate l.length 0)) 0 (List.map pv l)=l.map pv by simp [splice]] at this;exact this)
 clear h2 hb2 hmk;go_wp2_with fail;go_ret;refine ⟨⟨w2.heap.size,w.heap.size,rfl,⟨?_,?_⟩,HW.out.size,Nat.le_refl _⟩,HW.out.alloc HW.out.size _⟩
 ·exact Blk.new _ _ _
 ·exact H2.out.alloc _

def cR (w:World) (b g:Nat) (l:List Nat):Prop:=∃q:RS,q.ok∧q.items=l∧aU w b g q
theorem cR.blk2 (h:cR w b g l) (k:∀x T cs,(x=b∨x=g)→Blk w x T cs→w'.heap[x]? =w.heap[x]?):cR w' b g l:=by
 obtain ⟨q,h1,h2,h3,h4⟩:=h;exact ⟨q,h1,h2,by unfold Blk;rw [k b _ _ (.inl rfl) h3];exact h3,by unfold Blk;rw [k g _ _ (.inr rfl) h4];exact h4⟩
theorem cR.keep (h:cR w b g l) (k:Below ↑w w w'):cR w' b g l:=h.blk2 fun x T cs _ hb=>k.block x hb.lt
theorem cR.drawn (h:cR w b g l) (k:aB w w'):cR w' b g l:=h.keep (k.below _)
theorem cR.alloc {w:World} {b g:Nat} {l:List Nat} (h:cR w b g l) (o:Obj):cR (w.alloc o) b g l:=h.keep ((Below.refl _ _).alloc (Nat.le_refl _) _)
theorem cR.fr {L:List Nat} (h:cR w b g l) (k:Fr w w' L) (h1:b ∉ L) (h2:g ∉ L):cR w' b g l:=h.blk2 fun x T cs hx hb=>k.block x hb.lt (by rcases hx with rfl | rfl <;> assumption)
theorem cR.set_other {c:Nat} (h:cR w b g l) (h1:b≠c) (h2:g≠c):cR (w.setCell ⟨c,i,none⟩ u) b g l:=
 h.blk2 fun x T cs hx hb=>Below.heap_setCell _ _ _ _ (by show x≠c;rcases hx with rfl | rfl <;> assumption)
theorem cR.ne {w:World} {b g:Nat} {l:List Nat} (h:cR w b g l):b≠g:=by obtain ⟨q,_,_,h3⟩:=h;exact h3.ne
theorem cR.lt {w:World} {b g:Nat} {l:List Nat} (h:cR w b g l):b < w.heap.size∧g < w.heap.size:=by obtain ⟨q,_,_,h3⟩:=h;exact ⟨h3.head.lt,h3.body.lt⟩
theorem cR.head {w:World} {b g:Nat} {l:List Nat} (h:cR w b g l):∃cs,Blk w b 254 cs:=by obtain ⟨q,_,_,h3⟩:=h;exact ⟨_,h3.head⟩
theorem cR.body {w:World} {b g:Nat} {l:List Nat} (h:cR w b g l):∃cs,Blk w g 177 cs:=by obtain ⟨q,_,_,h3⟩:=h;exact ⟨_,h3.body⟩
theorem RS.get_item (h:i < s.cnt):s.items.getD i 0=s.get i:=by
 rw [List.getD_eq_getElem?_getD,RS.item_at h];rfl
theorem RS.new_items (f:List Nat):(RS.items ⟨f,0,f.length⟩)=f:=by
 apply List.ext_getElem?;intro i
 by_cases c:i < f.length
 ·rw [RS.item_at (s:=⟨f,0,f.length⟩) c]
  simp [RS.get,RS.pos,Nat.mod_eq_of_lt c,List.getD_eq_getElem?_getD,c]
 ·rw [List.getElem?_eq_none (by rw [RS.len_items];show f.length≤i;omega),List.getElem?_eq_none (by omega)]
theorem RS.new_ok {f:List Nat} (h:f.length≤100000):RS.ok ⟨f,0,f.length⟩:=⟨Nat.le_refl _,Nat.zero_le _,h⟩
structure kX (w:World) (b g:Nat) (v:Ending) (l:List Nat) (e:Ending) (w':World):Prop where
 e:e=v
 at_:∃g',cR w' b g' l∧(g'=g∨w.heap.size≤g')
 mv:Fr w w' [b,g]
theorem iG.row {v:Ending} {e:Ending} (h:iG w b g v s e w') (ho:s.ok) (hl:s.items=l):kX w b g v l e w':=by
 obtain ⟨h1,⟨g',h2,h3⟩,h4⟩:=h;exact ⟨h1,⟨g',⟨s,ho,hl,h2⟩,h3⟩,Fr.of_mv h4⟩
theorem PY (b g i:Nat) (l:List Nat) (w:World) (h:cR w b g l) (hi:i < l.length):
  Calls prog 163 #[↑(π b),.int .i64 (i:Int)] w fun e w'=>e=mT (l.getD i 0) true∧aB w w':=by
 obtain ⟨q,h1,rfl,h3⟩:=h;rw [RS.len_items] at hi;rw [RS.get_item hi];exact sH b g i q w h3 h1 hi
theorem sJ (b g:Nat) (i:Int) (l:List Nat) (w:World) (h:cR w b g l) (hi:i < 0∨(l.length:Int)≤i):
  Calls prog 163 #[↑(π b),.int .i64 i] w fun e w'=>e=mT 0 false∧aB w w':=by
 obtain ⟨q,h1,rfl,h3⟩:=h;rw [RS.len_items] at hi;exact qA b g i q w h3 hi
theorem MT (b g:Nat) (l:List Nat) (w:World) (h:cR w b g l):
  Calls prog 162 #[↑(π b)] w fun e w'=>e=.returned (.int .i64 (l.length:Int))∧w=w':=by
 obtain ⟨q,h1,rfl,h3⟩:=h;rw [RS.len_items];exact kW b g q w h3
theorem OE (b g:Nat) (x:Nat) (l:List Nat) (w:World) (h:cR w b g l) (hl:l.length≤7000):
  Calls prog 239 #[↑(π b),pv x] w (kX w b g (.returned (.tuple #[])) (l ++ [x])):=by
 obtain ⟨q,h1,rfl,h3⟩:=h;rw [RS.len_items] at hl;exact (uR b g x q w h3 h1 hl).mono fun e w' hp=>hp.row (RS.push_ok h1 hl x) (RS.push_items h1 x)
theorem JM (b g:Nat) (x:Nat) (l:List Nat) (w:World) (h:cR w b g (x :: l)):
  Calls prog 164 #[↑(π b)] w (kX w b g (mT x true) l):=by
 obtain ⟨q,h1,h2,h3⟩:=h;have hc:0 < q.cnt:=by rw [← RS.len_items,h2];simp
 have e:q.get 0=x:=by rw [← RS.get_item hc,h2];rfl
 have:=(sI b g q w h3 h1 hc).mono fun e w' hp=>hp.row (RS.shift_ok h1 hc) (RS.shift_items h1 hc);rw [e,h2] at this;exact this
structure MU (w:World) (l:List Nat) (e:Ending) (w':World):Prop where
 at_:∃b g,e=.returned ↑(π b)∧cR w' b g l∧↑w≤b∧↑w≤g
 bel:Below ↑w w w'
theorem DK (v:Option Addr) (cap:Nat) (l:List Nat) (w:World) (h:jK w v l) (hn:l.length≤100000):
  Calls prog 100 #[.slice v l.length cap] w (MU w l):=
 (zA v cap l w h hn).mono fun e w' hp=>by
  obtain ⟨⟨b,g,h1,h2,h3,h4⟩,h5⟩:=hp;exact ⟨⟨b,g,h1,⟨_,RS.new_ok hn,RS.new_items l,h2⟩,h3,h4⟩,h5⟩
end Go.Proofs.YtjhiooggnpbecaaGreatDoor
