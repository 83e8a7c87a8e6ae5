/- Lemmas. -/
import Derived.Test.YtjhiooggnpbecaaGreatDoorK402
import Derived.Laws.CopyOwn
import Derived.BigQuiet
import Derived.StillTailTactics
import Derived.Deep.RegionHeld3
import Derived.Deep.LoopGhost
import Derived.Sort.Grow
set_option linter.unusedVariables false
namespace Go.Proofs.YtjhiooggnpbecaaGreatDoor
open Tryz
variable {ad:Addr} {B cap g i k:Nat} {T:TypeId} {v:Value} {w w':World}
section
open Go.RowKit
structure Mv (w w':World) (b g:Nat):Prop where
 os:w'.os=w.os
 tape:w'.tape=w.tape
 output:w'.output=w.output
 size:w.heap.size≤↑w'
 block:∀k,k < w.heap.size→k≠b→k≠g→w'.heap[k]? =w.heap[k]?
theorem Mv.refl (w:World) (b g:Nat):Mv w w b g:=⟨rfl,rfl,rfl,Nat.le_refl _,fun _ _ _ _=>rfl⟩
theorem Mv.of_below (h:Below ↑w w w') (b g:Nat):Mv w w' b g:=⟨h.os,h.tape,h.output,h.size,fun k hk _ _=>h.block k hk⟩
theorem Mv.set {b c:Nat} (h:Mv w w' b g) (hc:c=b∨c=g∨w.heap.size≤c) (i:Nat) (u:Value):Mv w (w'.setCell ⟨c,i,none⟩ u) b g:=
 ⟨h.os,h.tape,h.output,Nat.le_trans h.size (by simp [World.setCell]),fun k hk kb kg=>(Below.heap_setCell _ _ _ _ (by show k≠c;omega)).trans (h.block k hk kb kg)⟩
theorem Mv.sets {w:World} {b g c:Nat} (hc:c=b∨c=g∨w.heap.size≤c):∀(vs:List Value) (o:Nat) (w':World),Mv w w' b g→Mv w (w'.setCells c o vs) b g
 | [],_,_,h=>h
 | v :: r,o,w',h=>Mv.sets hc r (o + 1) _ (h.set hc o v)
theorem Mv.trans {a w w':World} {b g g':Nat} (h:Mv a w b g) (k:Mv w w' b g') (hg:g'=g∨a.heap.size≤g'):Mv a w' b g:=
 ⟨k.os.trans h.os,k.tape.trans h.tape,k.output.trans h.output,Nat.le_trans h.size k.size,fun i hi ib ig=>(k.block i (Nat.lt_of_lt_of_le hi h.size) ib (by omega)).trans (h.block i hi ib ig)⟩
theorem Mv.below {a:World} {b:Nat} (h:Mv a w b g) (k:Below ↑w w w'):Mv a w' b g:=h.trans (Mv.of_below k b g) (.inl rfl)
theorem Mv.drawn {a:World} {b:Nat} (h:Mv a w b g) (k:aB w w'):Mv a w' b g:=h.below (k.below _)
theorem Mv.alloc {a w:World} {b g:Nat} (h:Mv a w b g) (o:Obj):Mv a (w.alloc o) b g:=h.below ((Below.refl _ _).alloc (Nat.le_refl _) _)
theorem Blk.mv {b c:Nat} {cs:Array Value} (h:Blk w c T cs) (k:Mv w w' b g) (h1:c≠b) (h2:c≠g):Blk w' c T cs:=by
 unfold Blk;rw [k.block c h.lt h1 h2];exact h
theorem Blk.old {b:Nat} {cs:Array Value} (h:Blk w b T cs):b≠w.heap.size:=Nat.ne_of_lt h.lt
theorem Blk.ty {b c:Nat} {U:TypeId} {cs ds:Array Value} (h:Blk w b T cs) (k:Blk w c U ds) (hne:T≠U):b≠c:=by
 rintro rfl;unfold Blk at h k;rw [h] at k;injection k with k;injection k with _ k;exact hne k
theorem Blk.sets {g:Nat} {T:TypeId}:∀(vs:List Value) (o:Nat) (w:World) (cs:Array Value),Blk w g T cs→Blk (w.setCells g o vs) g T (pJ cs o vs)
 | [],_,_,_,h=>h
 | v :: r,o,w,cs,h=>Blk.sets r (o + 1) _ _ (h.set o v)
theorem Blk.sets_other {b g:Nat} {T:TypeId} {cs:Array Value} (hne:b≠g):∀(vs:List Value) (o:Nat) (w:World),Blk w b T cs→Blk (w.setCells g o vs) b T cs
 | [],_,_,h=>h
 | v :: r,o,w,h=>Blk.sets_other hne r (o + 1) _ (h.set_other o v hne)
theorem Below.sets {B g:Nat} {a:World} (hg:B≤g):∀(vs:List Value) (o:Nat) (w:World),Below B a w→Below B a (w.setCells g o vs)
 | [],_,_,h=>h
 | v :: r,o,w,h=>Below.sets hg r (o + 1) _ (h.setCell (p:=⟨g,o,none⟩) hg v)
theorem far {L:Nat} {u:Value} {p:Addr} (h:w.cell? p=some v) (n:p.block≠L):(w.setCell ⟨L,k,none⟩ u).cell? p=some v:=by
 rw [World.cell?_setCell_other _ _ _ _ (by intro e;exact n (by rw [← e]))];exact h
theorem aQ {p:Addr} (h:w.cell? p=some v) (o:Obj):(w.alloc o).cell? p=some v:=by
 rw [← h];exact (Below.refl w.heap.size w |>.alloc (Nat.le_refl _) o).cell (p:=p) (World.block_lt_of_cell? _ _ h)
def Its {α:Type} [Itm α] (w:World) (v:Option Addr) (l:List α):Prop:=
 0 < l.length→∃b off,v=some ⟨b,off,none⟩∧b < w.heap.size∧∀i j,i < l.length→j < Itm.k α→w.cell? ⟨b,off + (i * Itm.k α + j),none⟩=(Itm.cs (l.getD i Itm.z))[j]?
theorem Its.keep {α:Type} [Itm α] {v:Option Addr} {l:List α} (h:Its w v l) (k:Below ↑w w w'):Its w' v l:=by
 intro hp;obtain ⟨b,off,e,hb,hc⟩:=h hp;exact ⟨b,off,e,Nat.lt_of_lt_of_le hb k.size,fun i j hi hj=>(k.cell (p:=⟨b,_,none⟩) hb).trans (hc i j hi hj)⟩
theorem Its.of_blk {α:Type} [Itm α] {l:List α} (h:Blk w g T (aJ l)):Its w (some ⟨g,0,none⟩) l:=by
 intro _;refine ⟨g,0,rfl,h.lt,fun i j hi hj=>?_⟩;have e:=dH j hi hj;have hj':j < (Itm.cs (l.getD i Itm.z)).length:=by rw [Itm.len];exact hj
 rw [List.getElem?_eq_getElem hj'] at e ⊢;rw [Nat.zero_add];exact h.cell e
theorem Its.none {α:Type} [Itm α] (w:World) (v:Option Addr):Its w v ([]:List α):=fun h=>absurd h (by simp)
theorem Its.cells {α:Type} [Itm α] {v:Option Addr} {l:List α} (h:Its w v l) (hp:0 < l.length):∃ad,v=some ad∧∀j u,(l.flatMap (Itm.cs (α:=α)))[j]? =some u→w.cell? (ad.add j)=some u:=by
 obtain ⟨b,off,rfl,_,hc⟩:=h hp;refine ⟨_,rfl,fun m u hu=>?_⟩;have hk:=Itm.pos (α:=α);have hm:m < l.length * Itm.k α:=by
  rcases Nat.lt_or_ge m (l.length * Itm.k α) with c | c
  ·exact c
  ·rw [List.getElem?_eq_none (by rw [cL];exact c)] at hu;cases hu
 have hi:m / Itm.k α < l.length:=Nat.div_lt_of_lt_mul (by rw [Nat.mul_comm];exact hm);have hj:=Nat.mod_lt m hk;have e:=Nat.div_add_mod m (Itm.k α);rw [Go.WideShapes.add_plain];have:=hc _ _ hi hj;rw [Nat.mul_comm,e] at this;rw [this,← dH _ hi hj,Nat.mul_comm,e];simpa [aJ] using hu
theorem eG {P:Program} {ops:Array Oper} {rest:List Oper} {o:Oper} {a:Act} {Q:Exit→Act→World→Prop} (hgd:o.guard=none) (d s:Operand) (dT sT:TypeId)
  (ho:o.op=.call {callee:=.builtin .copy,args:=#[d,s],argTypes:=#[dT,sT]}) (elem:TypeId) (hu:P.underlying dT=some (.slice elem)) (k:Nat) (hk:0 < k) (hsz:(P.info? elem).map (·.size)=some k)
  (n:Nat) (sp:Option Addr) (dCap sCap:Nat) (g:Nat) (hd:a.eval d=.slice (some ⟨g,0,none⟩) n dCap) (hs:a.eval s=.slice sp n sCap)
  (cur:Array Value) (t:TypeId) (hg:w.heap[g]? =some (.cells cur t (0,0))) (cs:List Value) (hn:cs.length=n * k) (hc:cur.size=n * k)
  (hsrc:0 < n→∃ad,sp=some ad∧∀j v,cs[j]? =some v→w.cell? (ad.add j)=some v) (h1:∀v∈cs,v.oneCell'=true) (B:Nat) (w0:World) (hb:Below B w0 w) (hBg:B≤g)
  (h:∀w',Hid (Blk w' g t cs.toArray)→Below B w0 w'→wpList P ops Q rest (a.put o.dst (goInt n)) w'):wpList P ops Q (o :: rest) a w:=by
 refine wpList_plain hgd fun K hK=>?_;rcases Nat.eq_zero_or_pos n with h0 | h0
 ·subst h0
  obtain rfl:cs=[]:=List.eq_nil_of_length_eq_zero (by simpa using hn);have hcur:cur=#[]:=by apply Array.eq_empty_of_size_eq_zero;simpa using hc
  have hrun:(Builtin.copy_ #[dT,sT] o.type #[.slice (some ⟨g,0,none⟩) 0 dCap,.slice sp 0 sCap]).run P w=.ok (goInt 0) w:=by
   have hl:∀(x:Addr),(loadCells x 0).run P w=.ok #[] w:=fun x=>by simpa using run_loadCells_list (P:=P) w x [] (by simp)
   cases hq:P.info? elem with
   | none=>simp [hq] at hsz
   | some i=>cases sp <;> simp [Builtin.copy_,run_underlying hu,Builtin.lenOf,Builtin.firstCells,sizeOf,typeInfo,hq,storeCells,hl]
  unfold Oper.wp;simp [execOp,ho,resolve,invoke,builtin,hd,hs,hrun,Result.andThen]
  exact hK _ _ (h w (lh (by subst hcur;exact hg)) hb)
 ·obtain ⟨ad,rfl,hcell⟩:=hsrc h0
  have hl:=run_loadCells_list (P:=P) w ad cs hcell;have hst:=run_storeCells_at P g 0 t cs 0 cur w hg (by omega) h1;have hrun:(Builtin.copy_ #[dT,sT] o.type #[.slice (some ⟨g,0,none⟩) n dCap,.slice (some ad) n sCap]).run P w=.ok (goInt n) (w.setRow g cs.toArray):=by
   have e1:cur.toList.take (0 + 0) ++ cs ++ cur.toList.drop (0 + 0 + cs.length)=cs:=by
    rw [List.drop_of_length_le (by simp;omega)];simp
   rw [e1] at hst;cases hq:P.info? elem with
   | none=>simp [hq] at hsz
   | some i=>
     have hi:i.size=k:=by simpa [hq] using hsz
     simp [Builtin.copy_,run_underlying hu,Builtin.lenOf,Builtin.firstCells,sizeOf,typeInfo,hq,hi,← hn,hl,hst]
  unfold Oper.wp;simp [execOp,ho,resolve,invoke,builtin,hd,hs,hrun,Result.andThen]
  exact hK _ _ (h _ (lh (setRow_heap w g _ _ t _ hg)) (below_setRow hb hBg _))
theorem tZ {a:Array Value} {vs:List Value} (h:vs.length=a.size):pJ a 0 vs=vs.toArray:=by
 apply Array.ext_getElem?;intro m
 rw [mE _ _ _ _ (by omega)];by_cases c:m < vs.length
 ·rw [if_pos (by omega)];simp
 ·rw [if_neg (by omega),Array.getElem?_eq_none (by omega),Array.getElem?_eq_none (by simp;omega)]
theorem Blk.whole {a:Array Value} (vs:List Value) (h:Blk w g T a) (hl:vs.length=a.size):Blk (w.setCells g 0 vs) g T vs.toArray:=by
 have:=h.sets vs 0;rw [tZ hl] at this;exact this
structure Fr (w w':World) (l:List Nat):Prop where
 os:w'.os=w.os
 tape:w'.tape=w.tape
 output:w'.output=w.output
 size:w.heap.size≤↑w'
 block:∀k,k < w.heap.size→k ∉ l→w'.heap[k]? =w.heap[k]?
theorem Fr.refl (w:World) (l:List Nat):Fr w w l:=⟨rfl,rfl,rfl,Nat.le_refl _,fun _ _ _=>rfl⟩
theorem Fr.of_below (h:Below ↑w w w') (l:List Nat):Fr w w' l:=⟨h.os,h.tape,h.output,h.size,fun k hk _=>h.block k hk⟩
theorem Fr.of_mv {b:Nat} (h:Mv w w' b g):Fr w w' [b,g]:=⟨h.os,h.tape,h.output,h.size,fun k hk hl=>h.block k hk (by simp at hl;exact hl.1) (by simp at hl;exact hl.2)⟩
theorem Fr.trans {a w w':World} {l l':List Nat} (h:Fr a w l) (k:Fr w w' l') (hs:∀x∈l',x∈l∨a.heap.size≤x):Fr a w' l:=
 ⟨k.os.trans h.os,k.tape.trans h.tape,k.output.trans h.output,Nat.le_trans h.size k.size,fun i hi il=>(k.block i (Nat.lt_of_lt_of_le hi h.size) (fun hm=>by rcases hs i hm with c | c;exact il c;omega)).trans (h.block i hi il)⟩
theorem Fr.mono {l l':List Nat} (h:Fr w w' l) (hs:∀x∈l,x∈l'∨w.heap.size≤x):Fr w w' l':=(Fr.refl w l').trans h hs
theorem Fr.below {a:World} {l:List Nat} (h:Fr a w l) (k:Below ↑w w w'):Fr a w' l:=h.trans (Fr.of_below k []) (fun x hx=>by simp at hx)
theorem Fr.drawn {a:World} {l:List Nat} (h:Fr a w l) (k:aB w w'):Fr a w' l:=h.below (k.below _)
theorem Fr.alloc {a w:World} {l:List Nat} (h:Fr a w l) (o:Obj):Fr a (w.alloc o) l:=h.below ((Below.refl _ _).alloc (Nat.le_refl _) _)
theorem Fr.set {l:List Nat} {c:Nat} (h:Fr w w' l) (hc:c∈l∨w.heap.size≤c) (i:Nat) (u:Value):Fr w (w'.setCell ⟨c,i,none⟩ u) l:=
 ⟨h.os,h.tape,h.output,Nat.le_trans h.size (by simp [World.setCell]),fun k hk hl=>(Below.heap_setCell _ _ _ _ (by show k≠c;rintro rfl;rcases hc with d | d;exact hl d;omega)).trans (h.block k hk hl)⟩
theorem Fr.sets {w:World} {l:List Nat} {c:Nat} (hc:c∈l∨w.heap.size≤c):∀(vs:List Value) (o:Nat) (w':World),Fr w w' l→Fr w (w'.setCells c o vs) l
 | [],_,_,h=>h
 | v :: r,o,w',h=>Fr.sets hc r (o + 1) _ (h.set hc o v)
theorem Blk.fr {c:Nat} {l:List Nat} {cs:Array Value} (h:Blk w c T cs) (k:Fr w w' l) (hc:c ∉ l):Blk w' c T cs:=by
 unfold Blk;rw [k.block c h.lt hc];exact h
theorem uA {a:World} {l:List Nat} (h:Below B a w) (k:Fr w w' l) (hB:B≤↑w) (hl:∀x∈l,B≤x):Below B a w':=
 h.trans ⟨k.os,k.tape,k.output,k.size,fun i hi=>k.block i (by omega) (fun hm=>by have:=hl i hm;omega)⟩
theorem aF {P:Program} {fn:Func} {p t:Tmp} {ty:TypeId} (h:fn.results=#[.cell p ty,.tmp t]) (tmps:Array Value) (w:World) (g:Nat) (T:TypeId) (cs:Array Value) (d:TypeDesc)
  (hp:tmps.getD p undef=↑(π g)) (hg:Blk w g T cs)
  (hu:P.underlying ty=some d) (hd:(match d with | .struct _ | .array _ _=>true | _=>false)=true) (hi:(P.info? ty).map (·.size)=some cs.size):
  (results fn tmps).run P w=.ok (.tuple #[.agg cs,tmps.getD t undef]) w:=by
 have hp':tmps[p]?.getD undef=↑(π g):=by simpa using hp
 simp [results,h,hp',asAddr,run_loadVar_row w g T ty cs (0,0) d hg hu hd hi]

structure Pk where
 n:Nat
 size:Nat
 sent:Nat
 first:Nat
 deliv:Nat
 at_:Nat
 lim:Bool
deriving DecidableEq
instance:Inhabited Pk:=⟨⟨0,0,0,0,0,0,false⟩⟩
def Pk.cs (p:Pk):List Value:=[↑p.n,↑p.size,↑p.sent,↑p.first,↑p.deliv,↑p.at_,.bool p.lim]
instance:Itm Pk:=⟨⟨0,0,0,0,0,0,false⟩,7,Pk.cs,by decide,fun _=>rfl,fun r v h=>by
 simp only [Pk.cs,List.mem_cons,List.not_mem_nil,or_false] at h;rcases h with rfl | rfl | rfl | rfl | rfl | rfl | rfl <;> rfl⟩
def Pk.agg (r:Pk):Value:=.agg #[↑r.n,↑r.size,↑r.sent,↑r.first,↑r.deliv,↑r.at_,.bool r.lim]

variable {α:Type} [Itm α]
theorem dM {a b:World} (h:aB a b) {o:Nat} {cs:List Value} (k:a.rangeAt g o cs):b.rangeAt g o cs:=fun j v hv=>(h.cell _).trans (k j v hv)
theorem dN {a b:World} (h:aB a b) {o n:Nat} (k:a.there g o n):b.there g o n:=fun j hj=>⟨by rw [h.cell];exact (k j hj).1,by rw [h.frozen];exact (k j hj).2⟩
theorem Blk.range0 {cs:List Value} (h:Blk w g T cs.toArray):w.rangeAt g 0 cs:=fun j v hv=>by
 rw [Nat.zero_add];exact h.cell (by simpa using hv)
theorem Blk.there {w:World} {g:Nat} {T:TypeId} {cs:Array Value} (h:Blk w g T cs) {o n:Nat} (hn:o + n≤cs.size):w.there g o n:=fun j hj=>
 ⟨by rw [h.cell (Array.getElem?_eq_getElem (show o + j < cs.size by omega))];rfl,h.free _⟩
theorem Blk.range {l:List α} (h:Blk w g T (aJ l)) (hk:Itm.k α=k) (hi:i < l.length):w.rangeAt g (i * k) (Itm.cs (l.getD i Itm.z)):=fun j v hv=>by
 subst hk;have hj:j < Itm.k α:=by
  have:=(List.getElem?_eq_some_iff.1 hv).1;rwa [Itm.len] at this
 exact h.cell ((dH j hi hj).trans hv)
theorem Blk.therei {l:List α} (h:Blk w g T (aJ l)) (hk:Itm.k α=k) (hi:i < l.length):w.there g (i * k) k:=
 h.there (by subst hk;rw [aS,← Nat.succ_mul];exact Nat.mul_le_mul_right _ hi)
theorem bA {p:Addr} {o:Nat} {cs:List Value} (h:w.cell? p=some v) (n:p.block≠g):(w.setCells g o cs).cell? p=some v:=by
 rw [World.cell?_setCells_out g cs o w p (fun e _=>absurd e n)];exact h
end

section
open Go.RowKit
structure Jp where
 p:Pk
 due:Nat
deriving DecidableEq
instance:Inhabited Jp:=⟨⟨Itm.z,0⟩⟩
def Jp.cs (r:Jp):List Value:=[↑r.p.n,↑r.p.size,↑r.p.sent,↑r.p.first,↑r.p.deliv,↑r.p.at_,.bool r.p.lim,↑r.due]
instance:Itm Jp:=⟨⟨⟨0,0,0,0,0,0,false⟩,0⟩,8,Jp.cs,by decide,fun _=>rfl,fun r v h=>by
 simp only [Jp.cs,List.mem_cons,List.not_mem_nil,or_false] at h;rcases h with rfl | rfl | rfl | rfl | rfl | rfl | rfl | rfl <;> rfl⟩

structure RS where
 pl:List Nat
 first:Nat
 cnt:Nat
def RS.pos (s:RS) (i:Nat):Nat:=(s.first + i) % s.pl.length
def RS.get (s:RS) (i:Nat):Nat:=s.pl.getD (s.pos i) 0
def RS.items (s:RS):List Nat:=(List.range s.cnt).map s.get
structure RS.ok (s:RS):Prop where
 c:s.cnt≤s.pl.length
 f:s.first≤s.pl.length
 m:s.pl.length≤100000
def RS.lay (s:RS) (n:Nat):List Nat:=s.items ++ List.replicate (n - s.cnt) 0
def RS.move (s:RS) (n:Nat):RS:=⟨s.lay n,0,s.cnt⟩
def RS.put (s:RS) (i x:Nat):RS:=⟨s.pl.set (s.pos i) x,s.first,s.cnt⟩
def RS.narrow (s:RS):RS:=if 0 < s.cnt∧s.cnt≤s.pl.length / 4 then s.move (s.pl.length / 2) else s
def RS.wide (s:RS):RS:=if s.cnt=s.pl.length then s.move (max 1 (2 * s.cnt)) else s
def RS.push (s:RS) (x:Nat):RS:=⟨s.wide.pl.set (s.wide.pos s.cnt) x,s.wide.first,s.cnt + 1⟩
def RS.shift0 (s:RS):RS:=⟨(s.put 0 0).pl,s.pos 1,s.cnt - 1⟩
def RS.pop0 (s:RS):RS:=⟨(s.put (s.cnt - 1) 0).pl,s.first,s.cnt - 1⟩
def RS.shift (s:RS):RS:=s.shift0.narrow
def RS.pop (s:RS):RS:=s.pop0.narrow
theorem RS.len_items (s:RS):s.items.length=s.cnt:=by simp [RS.items]
theorem RS.len_lay {s:RS} {n:Nat} (h:s.cnt≤n):(s.lay n).length=n:=by simp [RS.lay,RS.len_items];omega
theorem RS.pos_lt {s:RS} (h:0 < s.pl.length) (i:Nat):s.pos i < s.pl.length:=Nat.mod_lt _ h
theorem RS.item_at {s:RS} (h:i < s.cnt):s.items[i]? =some (s.get i):=by simp [RS.items,h]
theorem RS.items_ext {s t:RS} (hc:s.cnt=t.cnt) (h:∀i,i < s.cnt→s.get i=t.get i):s.items=t.items:=by
 apply List.ext_getElem?;intro i
 by_cases c:i < s.cnt
 ·rw [RS.item_at c,RS.item_at (by omega),h i c]
 ·rw [List.getElem?_eq_none (by rw [RS.len_items];omega),List.getElem?_eq_none (by rw [RS.len_items];omega)]
theorem RS.move_items {s:RS} {n:Nat} (h:s.cnt≤n):(s.move n).items=s.items:=by
 refine RS.items_ext rfl fun i hi=>?_;have hi':i < s.cnt:=hi;have e:(s.move n).get i=((s.lay n)[i % (s.lay n).length]?).getD 0:=by simp [RS.get,RS.pos,RS.move,List.getD_eq_getElem?_getD]
 rw [e,RS.len_lay h,Nat.mod_eq_of_lt (by omega),RS.lay,List.getElem?_append_left (by rw [RS.len_items];omega),RS.item_at hi'];rfl
theorem RS.move_ok {s:RS} {n:Nat} (h:s.cnt≤n) (hn:n≤100000):(s.move n).ok:=by
 have e:=RS.len_lay h;exact ⟨by show s.cnt≤(s.lay n).length;omega,Nat.zero_le _,by show (s.lay n).length≤_;omega⟩
theorem RS.move_len {s:RS} {n:Nat} (h:s.cnt≤n):(s.move n).pl.length=n:=RS.len_lay h
theorem RS.narrow_items {s:RS} (h:s.ok):s.narrow.items=s.items:=by
 unfold RS.narrow;split
 ·exact RS.move_items (by have:=h.c;omega)
 ·rfl
theorem RS.narrow_ok {s:RS} (h:s.ok):s.narrow.ok:=by
 unfold RS.narrow;split
 ·exact RS.move_ok (by have:=h.c;omega) (by have:=h.m;omega)
 ·exact h
theorem RS.wide_items {s:RS}:s.wide.items=s.items:=by
 unfold RS.wide;split
 ·exact RS.move_items (by omega)
 ·rfl
theorem RS.wide_cnt (s:RS):s.wide.cnt=s.cnt:=by unfold RS.wide;split <;> rfl
theorem RS.wide_ok {s:RS} (h:s.ok) (hc:s.cnt≤7000):s.wide.ok:=by
 unfold RS.wide;split
 ·exact RS.move_ok (by omega) (by omega)
 ·exact h
theorem RS.wide_room {s:RS} (h:s.ok):s.cnt < s.wide.pl.length:=by
 unfold RS.wide;split
 ·rw [RS.move_len (by omega)];omega
 ·have:=h.c;omega
theorem RS.put_get {s:RS} {j x:Nat} (hi:i < s.pl.length) (hj:j < s.pl.length):(s.put i x).get j=if i=j then x else s.get j:=by
 have hp:=RS.pos_lt (s:=s) (by omega) i;unfold RS.get RS.put RS.pos at *;simp only [List.length_set,List.getD_eq_getElem?_getD];by_cases c:i=j
 ·subst c
  rw [List.getElem?_set_self hp,if_pos rfl];rfl
 ·rw [List.getElem?_set_ne (fun e=>c (vY hi hj e)),if_neg c]
theorem RS.push_items {s:RS} (h:s.ok) (x:Nat):(s.push x).items=s.items ++ [x]:=by
 have hr:=RS.wide_room h;rw [← RS.wide_items (s:=s)];have hc:=RS.wide_cnt s;apply List.ext_getElem?;intro i
 by_cases c:i < s.cnt
 ·rw [RS.item_at (show i < s.cnt + 1 by omega),List.getElem?_append_left (by rw [RS.len_items];omega),RS.item_at (by omega)]
  have:=RS.put_get (s:=s.wide) (i:=s.cnt) (j:=i) (x:=x) hr (by omega);rw [if_neg (by omega)] at this;rw [← this];rfl
 ·by_cases d:i=s.cnt
  ·subst d
   rw [RS.item_at (show s.cnt < s.cnt + 1 by omega),List.getElem?_append_right (by rw [RS.len_items];omega),RS.len_items,hc,Nat.sub_self];have:=RS.put_get (s:=s.wide) (i:=s.cnt) (j:=s.cnt) (x:=x) hr hr;rw [if_pos rfl] at this;show some ((s.wide.put s.cnt x).get s.cnt)=_
   rw [this];rfl
  ·rw [List.getElem?_eq_none (by rw [RS.len_items];show s.cnt + 1≤i;omega),List.getElem?_eq_none (by simp [RS.len_items,hc];omega)]
theorem RS.push_ok {s:RS} (h:s.ok) (hc:s.cnt≤7000) (x:Nat):(s.push x).ok:=by
 have hr:=RS.wide_room h;have hw:=RS.wide_ok h hc;exact ⟨by simp only [RS.push,List.length_set];omega,by simp only [RS.push,List.length_set];exact hw.f,by simp only [RS.push,List.length_set];exact hw.m⟩
theorem RS.shift0_ok {s:RS} (h:s.ok) (hc:0 < s.cnt):s.shift0.ok:=by
 have:=h.c;have:=h.m;have hp:=RS.pos_lt (s:=s) (by omega) 1;exact ⟨by simp only [RS.shift0,RS.put,List.length_set];omega,by simp only [RS.shift0,RS.put,List.length_set];omega,by simp only [RS.shift0,RS.put,List.length_set];omega⟩
theorem RS.pop0_ok {s:RS} (h:s.ok) (hc:0 < s.cnt):s.pop0.ok:=by
 have:=h.c;have:=h.m;have:=h.f;exact ⟨by simp only [RS.pop0,RS.put,List.length_set];omega,by simp only [RS.pop0,RS.put,List.length_set];omega,by simp only [RS.pop0,RS.put,List.length_set];omega⟩
theorem RS.shift_items {s:RS} (h:s.ok) (hc:0 < s.cnt):s.shift.items=s.items.drop 1:=by
 have:=h.c;rw [RS.shift,RS.narrow_items (RS.shift0_ok h hc)];apply List.ext_getElem?;intro i
 rw [List.getElem?_drop];by_cases c:i < s.cnt - 1
 ·rw [RS.item_at (show i < s.cnt - 1 from c),RS.item_at (by omega)]
  have e:=RS.put_get (s:=s) (i:=0) (j:=1 + i) (x:=0) (by omega) (by omega);rw [if_neg (by omega)] at e;rw [← e];simp only [RS.get,RS.shift0,RS.pos,RS.put,List.length_set,Nat.mod_add_mod,Nat.add_assoc]
 ·rw [List.getElem?_eq_none (by rw [RS.len_items];show s.cnt - 1≤i;omega),List.getElem?_eq_none (by rw [RS.len_items];omega)]
theorem RS.pop_items {s:RS} (h:s.ok) (hc:0 < s.cnt):s.pop.items=s.items.take (s.cnt - 1):=by
 have:=h.c;rw [RS.pop,RS.narrow_items (RS.pop0_ok h hc)];apply List.ext_getElem?;intro i
 by_cases c:i < s.cnt - 1
 ·rw [RS.item_at (show i < s.cnt - 1 from c),List.getElem?_take_of_lt c,RS.item_at (by omega)]
  have e:=RS.put_get (s:=s) (i:=s.cnt - 1) (j:=i) (x:=0) (by omega) (by omega);rw [if_neg (by omega)] at e;rw [← e];rfl
 ·rw [List.getElem?_eq_none (by rw [RS.len_items];show s.cnt - 1≤i;omega),List.getElem?_eq_none (by rw [List.length_take,RS.len_items];omega)]
theorem RS.shift_ok {s:RS} (h:s.ok) (hc:0 < s.cnt):s.shift.ok:=RS.narrow_ok (RS.shift0_ok h hc)
theorem RS.pop_ok {s:RS} (h:s.ok) (hc:0 < s.cnt):s.pop.ok:=RS.narrow_ok (RS.pop0_ok h hc)
def pa:Nat→Option Addr
 | 0=>none
 | n + 1=>some ⟨n,0,none⟩
def pv (n:Nat):Value:=.pointer (pa n)
def cX (l:List Nat):Array Value:=(l.map pv).toArray
theorem dZ {l:List Nat} (h:i < l.length):(cX l)[i]? =some (.pointer (pa (l.getD i 0))):=by
 simp [cX,pv,List.getD_eq_getElem?_getD,h]
theorem fM (l:List Nat) (i x:Nat):(cX l).setIfInBounds i (.pointer (pa (x)))=cX (l.set i x):=by
 apply Array.ext'
 simp [cX,pv,List.map_set]

structure Pk.ok (p:Pk):Prop where
 n:p.n≤100000
 size:p.size≤↑ω
 sent:p.sent≤↑ω
 first:p.first≤↑ω
 deliv:p.deliv≤↑ω
 at_:p.at_≤↑ω
structure Kp where
 b:Nat
 p:Pk
 gone:Bool
instance:Inhabited Kp:=⟨⟨0,default,false⟩⟩
def Kp.cells (p:Pk) (gone:Bool):Array Value:=(p.cs ++ [Value.bool gone]).toArray
def aW (ks:List Kp):List Kp:=ks.filter (fun k=>!k.gone)
def cT (ks:List Kp):List Pk:=(aW ks).map Kp.p
def kN (l:List Pk):Nat:=(l.map Pk.size).foldr (· + ·) 0
def tot (ks:List Kp):Nat:=kN (cT ks)
def M64:Nat:=18446744073709551616
theorem pL:M64=18446744073709551616:=rfl
theorem eV:0 < M64:=by decide
structure LS where
 ks:List Kp
 mixed:Bool
 reorder:Nat
 next:Nat
 top:Nat
 topped:Bool
structure LS.ok (s:LS):Prop where
 nodup:(s.ks.map Kp.b).Nodup
 rise:s.ks.Pairwise fun x y=>x.p.n < y.p.n
 lt:∀k∈s.ks,k.p.n < s.next
 pk:∀k∈s.ks,k.p.ok
 mono:s.mixed=false→s.ks.Pairwise fun x y=>x.p.sent≤y.p.sent
 next:s.next≤6000
 reorder:s.reorder≤↑ω
 top:s.top≤100000
 un:s.topped=false→s.top=0
theorem rO:kN []=0:=rfl
theorem i8 (p:Pk) (l:List Pk):kN (p :: l)=p.size + kN l:=rfl
theorem lM (l m:List Pk):kN (l ++ m)=kN l + kN m:=by
 induction l with
 | nil=>simp [rO]
 | cons x t ih=>rw [List.cons_append,i8,i8,ih];omega
theorem IE {l:List Pk} (h:∀p∈l,p.size < M64):kN l≤l.length * M64:=by
 induction l with
 | nil=>simp [rO]
 | cons x t ih=>
   rw [i8,List.length_cons,Nat.succ_mul];have:=ih (fun p hp=>h p (List.mem_cons_of_mem _ hp));have:=h x List.mem_cons_self;omega
def cU (B:List Nat) (ks:List Kp):List Kp:=ks.map fun k=>if k.b∈B then {k with gone:=true} else k
theorem yA (ks:List Kp):cU [] ks=ks:=by simp [cU]
theorem i9 (B:List Nat) (ks:List Kp):(cU B ks).map Kp.b=ks.map Kp.b:=by
 rw [cU,List.map_map];apply List.map_congr_left;intro k _;show (if k.b∈B then _ else _:Kp).b=_;split <;> rfl
theorem jA {B:List Nat} {ks:List Kp} {k:Kp} (h:k∈cU B ks):∃x∈ks,x.b=k.b∧x.p=k.p∧k.gone=(x.gone || decide (x.b∈B)):=by
 obtain ⟨x,hx,rfl⟩:=List.mem_map.1 h;refine ⟨x,hx,?_⟩;by_cases c:x.b∈B <;> simp [c]
theorem gD {B:List Nat} {ks:List Kp} {x:Kp} (h:x∈ks):(⟨x.b,x.p,x.gone || decide (x.b∈B)⟩:Kp)∈cU B ks:=by
 refine List.mem_map.2 ⟨x,h,?_⟩;by_cases c:x.b∈B
 ·simp [c]
 ·simp [c]
theorem gO (B C:List Nat) (ks:List Kp):cU (B ++ C) ks=cU C (cU B ks):=by
 rw [cU,cU,cU,List.map_map];apply List.map_congr_left
 intro k _;by_cases h1:k.b∈B <;> by_cases h2:k.b∈C <;> simp [h1,h2]
theorem mF {B:List Nat} {ks:List Kp} {r:Pk→Pk→Prop} (h:ks.Pairwise fun x y=>r x.p y.p):(cU B ks).Pairwise fun x y=>r x.p y.p:=by
 rw [cU,List.pairwise_map];refine h.imp fun {x y} hr=>?_;have e:∀z:Kp,(if z.b∈B then {z with gone:=true} else z:Kp).p=z.p:=fun z=>by split <;> rfl
 rw [e,e];exact hr
theorem kO (x:Kp) (t:List Kp):aW (x :: t)=if x.gone then aW t else x :: aW t:=by
 unfold aW;rw [List.filter_cons];cases x.gone <;> rfl
theorem kP (B:List Nat) (ks:List Kp):aW (cU B ks)=(aW ks).filter (fun k=>decide (k.b ∉ B)):=by
 induction ks with
 | nil=>rfl
 | cons x t ih=>
   have e:cU B (x :: t)=(if x.b∈B then {x with gone:=true} else x) :: cU B t:=rfl;rw [e,kO,kO,ih];by_cases c:x.b∈B
   ·rw [if_pos c]
    cases hg:x.gone
    ·simp [c]
    ·simp
   ·rw [if_neg c]
    cases hg:x.gone
    ·simp [c]
    ·simp
def LS.take (s:LS) (B:List Nat):LS:={s with ks:=cU B s.ks}
theorem LS.take_nil (s:LS):s.take []=s:=by unfold LS.take;rw [yA]
theorem LS.take_append (s:LS) (B C:List Nat):s.take (B ++ C)=(s.take B).take C:=by unfold LS.take;rw [gO]
theorem LS.take_ok {s:LS} (h:s.ok) (B:List Nat):(s.take B).ok:=by
 refine ⟨by show (List.map Kp.b (cU B s.ks)).Nodup;rw [i9];exact h.nodup,mF (r:=fun x y=>x.n < y.n) h.rise,fun k hk=>?_,fun k hk=>?_,fun hm=>mF (r:=fun x y=>x.sent≤y.sent) (h.mono hm),h.next,h.reorder,h.top,h.un⟩
 ·obtain ⟨x,hx,_,e,_⟩:=jA hk;rw [← e];exact h.lt x hx
 ·obtain ⟨x,hx,_,e,_⟩:=jA hk;rw [← e];exact h.pk x hx
theorem LS.len_le {s:LS} (h:s.ok):s.ks.length≤s.next:=by
 have key:∀(l:List Kp) (m:Nat),l.Pairwise (fun x y=>x.p.n < y.p.n)→(∀k∈l,m≤k.p.n∧k.p.n < s.next)→l.length + m≤s.next∨l=[]:=by
  intro l;induction l with
  | nil=>intro m _ _;exact .inr rfl
  | cons x t ih=>
    intro m hp hb;have hp':=List.pairwise_cons.1 hp;have hx:=hb x List.mem_cons_self;left
    rcases ih (m + 1) hp'.2 (fun k hk=>⟨by have:=hp'.1 k hk;omega,(hb k (List.mem_cons_of_mem _ hk)).2⟩) with c | rfl
    ·simp;omega
    ·simp;omega
 rcases key s.ks 0 h.rise (fun k hk=>⟨Nat.zero_le _,h.lt k hk⟩) with c | c
 ·omega
 ·rw [c];simp
theorem eY (ks:List Kp):(aW ks).Sublist ks:=List.filter_sublist
theorem LS.out_le {s:LS} (h:s.ok):(aW s.ks).length≤6000:=by
 have:=(eY s.ks).length_le;have:=LS.len_le h;have:=h.next;omega
theorem Pk.ok.lt {p:Pk} (h:p.ok):p.size < M64:=by have:=h.size;rw [pL];omega
theorem LS.tot_le {s:LS} (h:s.ok):tot s.ks≤6000 * M64:=by
 have:=IE (l:=cT s.ks) (fun p hp=>by
  obtain ⟨k,hk,rfl⟩:=List.mem_map.1 hp;exact (h.pk k ((eY s.ks).mem hk)).lt)
 have h2:(cT s.ks).length≤6000:=by unfold cT;rw [List.length_map];exact LS.out_le h
 exact Nat.le_trans this (Nat.mul_le_mul_right M64 h2)
theorem uB {l:List Kp} {x:Kp} (hn:(l.map Kp.b).Nodup) (hx:x∈l):∃a c,l=a ++ x :: c∧l.filter (fun k=>decide (k.b ∉ [x.b]))=a ++ c:=by
 obtain ⟨a,c,rfl⟩:=List.append_of_mem hx;refine ⟨a,c,rfl,?_⟩;simp only [List.map_append,List.map_cons] at hn;have h2:=List.nodup_append.1 hn;have h3:=(List.nodup_cons.1 h2.2.1).1;rw [List.filter_append,List.filter_cons];have ea:a.filter (fun k=>decide (k.b ∉ [x.b]))=a:=List.filter_eq_self.2 fun k hk=>by
  have:=h2.2.2 k.b (List.mem_map_of_mem hk) x.b List.mem_cons_self;simpa using this
 have ec:c.filter (fun k=>decide (k.b ∉ [x.b]))=c:=List.filter_eq_self.2 fun k hk=>by
  have:k.b≠x.b:=fun e=>h3 (by rw [← e];exact List.mem_map_of_mem hk);simpa using this
 rw [ea,ec];simp
theorem jL {s:LS} (h:s.ok):((aW s.ks).map Kp.b).Nodup:=h.nodup.sublist ((eY s.ks).map Kp.b)
theorem BL {s:LS} (h:s.ok) {x:Kp} (hx:x∈s.ks) (hg:x.gone=false):
  (aW (s.take [x.b]).ks).length + 1=(aW s.ks).length∧tot (s.take [x.b]).ks + x.p.size=tot s.ks:=by
 have hm:x∈aW s.ks:=List.mem_filter.2 ⟨hx,by simp [hg]⟩;obtain ⟨a,c,e1,e2⟩:=uB (jL h) hm;have e3:aW (s.take [x.b]).ks=a ++ c:=by show aW (cU _ _)=_;rw [kP];exact e2
 constructor
 ·rw [e3,e1];simp;omega
 ·unfold tot cT
  rw [e3,e1];simp only [List.map_append,List.map_cons,lM,i8];omega
theorem oG (T c:Nat) (hc:c < M64):(T + c) / M64=T / M64 + (if M64≤T % M64 + c then 1 else 0)∧(T + c) % M64=(if M64≤T % M64 + c then T % M64 + c - M64 else T % M64 + c):=by
 have h:=Nat.mod_add_div T M64;have hl:=Nat.mod_lt T eV;have hM:=eV;generalize T % M64=r at *;generalize T / M64=q at *;subst h;by_cases k:M64≤r + c
 ·rw [if_pos k,if_pos k]
  have e:r + M64 * q + c=(r + c - M64) + M64 * (q + 1):=by rw [Nat.mul_succ];omega
  rw [e,Nat.add_mul_div_left _ _ hM,Nat.add_mul_mod_self_left,Nat.div_eq_of_lt (by omega),Nat.mod_eq_of_lt (by omega)];omega
 ·rw [if_neg k,if_neg k]
  have e:r + M64 * q + c=(r + c) + M64 * q:=by omega
  rw [e,Nat.add_mul_div_left _ _ hM,Nat.add_mul_mod_self_left,Nat.div_eq_of_lt (by omega),Nat.mod_eq_of_lt (by omega)];omega
theorem yB (T c:Nat) (hc:c < M64):(if (T + c) % M64 < c then (T + c) / M64=T / M64 + 1∧(T + c) % M64 + M64 - c=T % M64 else (T + c) / M64=T / M64∧(T + c) % M64 - c=T % M64):=by
 obtain ⟨h1,h2⟩:=oG T c hc;have hl:=Nat.mod_lt T eV;by_cases k:M64≤T % M64 + c
 ·rw [if_pos k] at h1 h2
  rw [if_pos (by omega)];omega
 ·rw [if_neg k] at h1 h2
  rw [if_neg (by omega)];omega
theorem uC {α:Type} (f:α→Bool) {l:List α} (h:i < l.length) (d:α):(l.take (i + 1)).filter f=(l.take i).filter f ++ (if f (l.getD i d) then [l.getD i d] else []):=by
 rw [List.take_succ_eq_append_getElem h,List.filter_append];congr 1
 rw [List.getD_eq_getElem?_getD,List.getElem?_eq_getElem h];simp [List.filter_cons]
theorem rP {α:Type} (f:α→Bool) (l:List α) (i:Nat):(l.take i).filter f <+:l.filter f:=by
 have e:l.filter f=(l.take i).filter f ++ (l.drop i).filter f:=by rw [← List.filter_append,List.take_append_drop]
 rw [e];exact List.prefix_append _ _

structure Rn where
 a:Nat
 b:Nat
deriving DecidableEq
instance:Itm Rn:=⟨⟨0,0⟩,2,fun r=>[↑r.a,↑r.b],by decide,fun _=>rfl,fun r v h=>by simp only [List.mem_cons,List.not_mem_nil,or_false] at h;rcases h with rfl | rfl <;> rfl⟩
instance:Inhabited Rn:=⟨⟨0,0⟩⟩
def Rn.agg (r:Rn):Value:=.agg #[↑r.a,↑r.b]
structure Rn.ok (r:Rn):Prop where
 le:r.a≤r.b
 lt:r.b < 18446744073709551615
def okB (r:Rn):Bool:=!(decide (r.b < r.a) || decide (r.b=18446744073709551615))
def Rn.u64 (r:Rn):Prop:=r.a≤↑ω∧r.b≤↑ω
theorem IF {r:Rn} (h:r.u64):okB r=true↔r.ok:=by
 have:=h.2;unfold okB;constructor
 ·intro k
  simp at k
  exact ⟨k.1,by omega⟩
 ·intro k
  have:=k.le;have:=k.lt;simp;omega
def InR (l:List Rn) (n:Nat):Prop:=∃r∈l,r.a≤n∧n≤r.b
def BM (l:List Rn):Prop:=l.Pairwise fun x y=>x.a≤y.a
structure jJ (l:List Rn):Prop where
 apart:l.Pairwise fun x y=>x.b + 1 < y.a
 ok:∀r∈l,r.ok
theorem wA (n:Nat):¬ InR [] n:=by rintro ⟨r,h,_⟩;cases h
theorem hZ {x:Rn} {l:List Rn} {n:Nat}:InR (x :: l) n↔(x.a≤n∧n≤x.b)∨InR l n:=by
 constructor
 ·rintro ⟨r,h,k⟩
  rcases List.mem_cons.1 h with rfl | h
  ·exact .inl k
  ·exact .inr ⟨r,h,k⟩
 ·rintro (k | ⟨r,h,k⟩)
  ·exact ⟨x,List.mem_cons_self,k⟩
  ·exact ⟨r,List.mem_cons_of_mem _ h,k⟩
theorem uD {l m:List Rn} {n:Nat}:InR (l ++ m) n↔InR l n∨InR m n:=by
 constructor
 ·rintro ⟨r,h,k⟩
  rcases List.mem_append.1 h with h | h
  ·exact .inl ⟨r,h,k⟩
  ·exact .inr ⟨r,h,k⟩
 ·rintro (⟨r,h,k⟩ | ⟨r,h,k⟩)
  ·exact ⟨r,List.mem_append_left _ h,k⟩
  ·exact ⟨r,List.mem_append_right _ h,k⟩
theorem BN {l m:List Rn} (h:l.Perm m) {n:Nat}:InR l n↔InR m n:=
 ⟨fun ⟨r,a,k⟩=>⟨r,h.mem_iff.1 a,k⟩,fun ⟨r,a,k⟩=>⟨r,h.mem_iff.2 a,k⟩⟩
def goR:Rn→List Rn→List Rn
 | cur,[]=>[cur]
 | cur,r :: t=>if cur.b + 1 < r.a then cur :: goR r t else goR ⟨cur.a,max cur.b r.b⟩ t
def tog:List Rn→List Rn
 | []=>[]
 | r :: t=>goR r t
theorem pM:∀(l:List Rn) (cur:Rn),(goR cur l).length≤l.length + 1
 | [],_=>by simp [goR]
 | r :: t,cur=>by
   rw [goR];split
   ·have:=pM t r;simp;omega
   ·have:=pM t ⟨cur.a,max cur.b r.b⟩;simp;omega
theorem wB:∀(l:List Rn) (cur:Rn),0 < (goR cur l).length
 | [],_=>by simp [goR]
 | r :: t,cur=>by
   rw [goR];split
   ·simp
   ·exact wB t _
theorem wC (l:List Rn):(tog l).length≤l.length:=by
 cases l with
 | nil=>exact Nat.le_refl _
 | cons r t=>have:=pM t r;simp [tog];omega
theorem IG {l:List Rn} (h:0 < l.length):0 < (tog l).length:=by
 cases l with
 | nil=>simp at h
 | cons r t=>exact wB t r
theorem mG:∀(l:List Rn) (cur:Rn),(∀r∈l,cur.a≤r.a)→BM l→cur.ok→(∀r∈l,r.ok)→
  jJ (goR cur l)∧(∀x∈goR cur l,cur.a≤x.a)∧∀n,InR (goR cur l) n↔InR (cur :: l) n
 | [],cur,_,_,hc,_=>by
   refine ⟨⟨by simp [goR],?_⟩,?_,fun n=>Iff.rfl⟩
   ·intro r h;simp [goR] at h;subst h;exact hc
   ·intro x h;simp [goR] at h;subst h;exact Nat.le_refl _
 | r :: t,cur,hl,hr,hc,ho=>by
   have hr':=List.pairwise_cons.1 hr;have hra:=hl r List.mem_cons_self;have hro:=ho r List.mem_cons_self;rw [goR];split
   ·rename_i hlt
    obtain ⟨⟨h1,h2⟩,h3,h4⟩:=mG t r hr'.1 hr'.2 hro (fun x hx=>ho x (List.mem_cons_of_mem _ hx));refine ⟨⟨List.pairwise_cons.2 ⟨fun x hx=>?_,h1⟩,?_⟩,?_,fun n=>?_⟩
    ·have:=h3 x hx;omega
    ·intro x hx
     rcases List.mem_cons.1 hx with rfl | hx
     ·exact hc
     ·exact h2 x hx
    ·intro x hx
     rcases List.mem_cons.1 hx with rfl | hx
     ·exact Nat.le_refl _
     ·have:=h3 x hx;omega
    ·rw [hZ,h4,hZ (x:=cur)]
   ·rename_i hlt
    have hc':(⟨cur.a,max cur.b r.b⟩:Rn).ok:=⟨by have:=hc.le;show cur.a≤max cur.b r.b;omega,by have:=hc.lt;have:=hro.lt;show max cur.b r.b < _;omega⟩;obtain ⟨h1,h3,h4⟩:=mG t ⟨cur.a,max cur.b r.b⟩ (fun x hx=>hl x (List.mem_cons_of_mem _ hx)) hr'.2 hc' (fun x hx=>ho x (List.mem_cons_of_mem _ hx));refine ⟨h1,h3,fun n=>?_⟩;rw [h4,hZ,hZ (x:=cur),hZ (x:=r)];have:=hc.le;have:=hro.le;show (cur.a≤n∧n≤max cur.b r.b)∨_↔_
    constructor
    ·rintro (h | h)
     ·by_cases c:n≤cur.b
      ·exact .inl ⟨h.1,c⟩
      ·exact .inr (.inl (by omega))
     ·exact .inr (.inr h)
    ·rintro (h | h | h)
     ·exact .inl (by omega)
     ·exact .inl (by omega)
     ·exact .inr h
theorem BO {l:List Rn} (hr:BM l) (ho:∀r∈l,r.ok):jJ (tog l)∧∀n,InR (tog l) n↔InR l n:=by
 cases l with
 | nil=>exact ⟨⟨List.Pairwise.nil,fun r h=>by cases h⟩,fun n=>Iff.rfl⟩
 | cons r t=>
   have hr':=List.pairwise_cons.1 hr;obtain ⟨h1,_,h3⟩:=mG t r hr'.1 hr'.2 (ho r List.mem_cons_self) (fun x hx=>ho x (List.mem_cons_of_mem _ hx));exact ⟨h1,h3⟩
theorem jJ.tail {x:Rn} {l:List Rn} (h:jJ (x :: l)):jJ l:=⟨(List.pairwise_cons.1 h.apart).2,fun r hr=>h.ok r (List.mem_cons_of_mem _ hr)⟩
theorem jJ.first {x:Rn} {l:List Rn} (h:jJ (x :: l)) {n:Nat} (hn:InR l n):x.b + 1 < n:=by
 obtain ⟨r,hr,k⟩:=hn;have:=(List.pairwise_cons.1 h.apart).1 r hr;omega
structure BP (l p q:List Rn):Prop where
 canon:jJ q
 mem:∀n,InR q n↔InR l n∨InR p n
 len:q.length≤l.length + p.length
theorem IH {l p d:List Rn} (hp:d.Perm (l ++ p)) (hr:BM d) (hl:jJ l) (ho:∀r∈p,r.ok):BP l p (tog d):=by
 have ho':∀r∈d,r.ok:=fun r hr=>by
  rcases List.mem_append.1 (hp.mem_iff.1 hr) with c | c
  ·exact hl.ok r c
  ·exact ho r c
 obtain ⟨h1,h2⟩:=BO hr ho';refine ⟨h1,fun n=>?_,?_⟩
 ·rw [h2,BN hp,uD]
 ·have:=wC d;have:=hp.length_eq;simp at this;omega

def gB (a b:Nat):Int:=if a < b then -1 else if b < a then 1 else 0
theorem rQ (a b:Nat):gB a b < 0↔a < b:=by by_cases h:a < b <;> by_cases k:b < a <;> simp [gB,h,k]
theorem II (a b:Nat):-1≤gB a b∧gB a b≤1:=by by_cases h:a < b <;> by_cases k:b < a <;> simp [gB,h,k]
theorem yC (a:Nat) (w:World):Calls prog 208 #[↑a] w fun e w'=>e=.returned (.bool false)∧w=w':=by
 go_enter func208,ntmps208;go_wp2;go_ret;exact ⟨rfl,rfl⟩
theorem lN (a b:Nat) (w:World):Calls prog 152 #[↑a,↑b] w fun e w'=>e=.returned (.int .i64 (gB a b))∧w=w':=by
 have hn:=fun x W=>yC x W;by_cases h1:a < b
 ·have e:gB a b=-1:=by simp [gB,h1]
  rw [e];clear e;go_enter func152,ntmps152;go_wp2_with (go_at_call 208;refine (hn _ _).mono ?_;rintro e w' ⟨rfl,rfl⟩)
  go_ret;exact ⟨rfl,rfl⟩
 ·by_cases h2:b < a
  ·have e:gB a b=1:=by simp [gB,h1,h2]
   rw [e];clear e;go_enter func152,ntmps152;go_wp2_with (go_at_call 208;refine (hn _ _).mono ?_;rintro e w' ⟨rfl,rfl⟩)
   go_ret;exact ⟨rfl,rfl⟩
  ·have e:gB a b=0:=by simp [gB,h1,h2]
   rw [e];clear e;go_enter func152,ntmps152;go_wp2_with (go_at_call 208;refine (hn _ _).mono ?_;rintro e w' ⟨rfl,rfl⟩)
   go_ret;exact ⟨rfl,rfl⟩
theorem BQ (r:Rn) (n:Nat) (w:World):Calls prog 197 #[r.agg,↑n] w fun e w'=>e=.returned (.int .i64 (gB r.b n))∧Below ↑w w w':=by
 have hc:=fun W=>lN r.b n W;obtain ⟨x,y⟩:=r;unfold Rn.agg;generalize gB y n=c at hc ⊢;dsimp only at hc ⊢
 go_enter func197,ntmps197;go_wp2_with (go_at_call 152;refine (hc _).mono ?_;rintro e w' ⟨rfl,rfl⟩)
 go_ret;exact ⟨rfl,(Below.refl _ _).alloc (Nat.le_refl _) _⟩
theorem uE (r s:Rn) (W:World):Calls prog 108 #[r.agg,s.agg] W fun e w'=>e=.returned (.int .i64 (gB r.a s.a))∧∃q os',w'=Go.Sort.grow (W.drewN q) os':=by
 have hc:=fun W=>lN r.a s.a W;obtain ⟨x,y⟩:=r;obtain ⟨z,u⟩:=s;unfold Rn.agg;generalize gB x z=c at hc ⊢;dsimp only at hc ⊢
 go_enter func108,ntmps108;go_wp2_with (go_at_call 152;refine (hc _).mono ?_;rintro e w' ⟨rfl,rfl⟩)
 go_ret;exact ⟨rfl,0,_,by rw [Go.Sort.alloc_eq_grow,Go.Sort.alloc_eq_grow,Go.Sort.grow_grow];rfl⟩
theorem yD (r:Rn) (w:World):Calls prog 104 #[r.agg] w fun e w'=>e=.returned (.bool (!okB r))∧Below ↑w w w':=by
 obtain ⟨x,y⟩:=r;unfold Rn.agg okB;dsimp only
 by_cases h1:y < x
 ·have e:(!!(decide (y < x) || decide (y=18446744073709551615)))=true:=by simp [h1]
  rw [e];clear e;have hd:decide ((y:Nat) < x)=true:=by simp [h1]
  go_enter func104,ntmps104;go_wp2;go_ret;exact ⟨rfl,(Below.refl _ _).alloc (Nat.le_refl _) _⟩
 ·have hd:decide ((y:Nat) < x)=false:=by simp;omega
  obtain ⟨c,hc⟩:∃c,((y:Int) == (18446744073709551615:Int))=c:=⟨_,rfl⟩;have e:(!!(decide (y < x) || decide (y=18446744073709551615)))=c:=by
   rw [hd,← hc,Bool.eq_iff_iff];simp;omega
  rw [e];clear e h1;go_enter func104,ntmps104;go_wp2;go_ret;exact ⟨rfl,(Below.refl _ _).alloc (Nat.le_refl _) _⟩

theorem wD:(prog.info? 190).map (fun i=>(i.zero,i.size,i.bytes))=some (some (.agg #[↑ζ,↑ζ]),2,16):=by kernel_rfl
abbrev rcs (l:List Rn):List Value:=l.flatMap (Itm.cs (α:=Rn))
def RR (w:World) (v:Value) (l:List Rn):Prop:=w.ownsRow 0 190 2 v l.length (rcs l)
theorem RR.nil (w:World):RR w (.slice none 0 0) []:=World.ownsRow_nil w 0 _ 2
theorem RR.form {l:List Rn} (h:RR w v l):(v=.slice none 0 0∧l=[])∨∃g cap,v=.slice (some ⟨g,0,none⟩) l.length cap∧g < w.heap.size:=by
 rcases h.2 with ⟨e,k⟩ | ⟨g,cap,cur,e,_,hg,_⟩
 ·exact .inl ⟨e,List.eq_nil_of_length_eq_zero k⟩
 ·exact .inr ⟨g,cap,e,Blk.lt hg⟩
theorem RR.form1 {l:List Rn} (h:RR w v l) (hl:0 < l.length):∃g cap,v=.slice (some ⟨g,0,none⟩) l.length cap∧g < w.heap.size:=by
 rcases h.form with ⟨_,rfl⟩ | k
 ·simp at hl
 ·exact k
theorem RR.inv {l:List Rn} {n:Nat} (h:RR w (.slice (some ⟨g,0,none⟩) n cap) l):n=l.length∧∃cur,Blk w g 190 cur∧n≤cap∧cap≤maxLen∧cur.size=cap * 2∧cur.toList.take (n * 2)=rcs l:=by
 rcases h.2 with ⟨e,_⟩ | ⟨g',cap',cur,e,_,hg,h1,h2,h3,h4⟩
 ·cases e
 ·injection e with e e2 e3;injection e with e;injection e with e;subst e;subst e2;subst e3
  exact ⟨rfl,cur,hg,h1,h2,h3,h4⟩
theorem RR.mk {l:List Rn} {n:Nat} {cur:Array Value} (h0:n=l.length) (h:Blk w g 190 cur) (h1:n≤cap) (h2:cap≤maxLen) (h3:cur.size=cap * 2) (h4:cur.toList.take (n * 2)=rcs l):RR w (.slice (some ⟨g,0,none⟩) n cap) l:=by
 subst h0;exact ⟨cL (α:=Rn) l,.inr ⟨g,cap,cur,rfl,Nat.zero_le _,h,h1,h2,h3,h4⟩⟩
theorem RR.blk {l:List Rn} {n:Nat} (h:RR w (.slice (some ⟨g,0,none⟩) n cap) l):∃cs,Blk w g 190 cs:=by
 obtain ⟨_,cur,hg,_⟩:=h.inv;exact ⟨cur,hg⟩
theorem RR.same {l:List Rn} (h:RR w v l) (hk:∀g cs,v.ownBlock=some g→Blk w g 190 cs→w'.heap[g]? =w.heap[g]?):RR w' v l:=by
 refine ⟨h.1,?_⟩;rcases h.2 with c | ⟨g,cap,cur,e,hb,hg,k⟩
 ·exact .inl c
 ·exact .inr ⟨g,cap,cur,e,hb,by rw [hk g cur (by rw [e];rfl) hg];exact hg,k⟩
theorem RR.keep {l:List Rn} (h:RR w v l) (k:Below ↑w w w'):RR w' v l:=h.same fun g cs _ hb=>k.block g hb.lt
theorem RR.drew {w:World} {v:Value} {l:List Rn} (h:RR w v l):RR w.drew v l:=h
theorem RR.fr {l:List Rn} {L:List Nat} (h:RR w v l) (k:Fr w w' L) (hl:∀g,v.ownBlock=some g→g ∉ L):RR w' v l:=h.same fun g cs e hb=>k.block g hb.lt (hl g e)
theorem RR.its {l:List Rn} {p:Option Addr} {n:Nat} (h:RR w (.slice p n cap) l):Its w p l:=by
 intro hp;obtain ⟨g,c,e,hg⟩:=h.form1 hp;injection e with e1 e2 e3
 subst e1;obtain ⟨_,cur,hb,_,_,h3,h4⟩:=h.inv;refine ⟨g,0,rfl,hg,fun i j hi hj=>?_⟩;have k2:Itm.k Rn=2:=rfl;rw [k2] at hj ⊢;have e:=tV (α:=Rn) l i j (by rw [k2];exact hj);rw [k2] at e;have hj':j < (Itm.cs (l.getD i Itm.z)).length:=by rw [Itm.len];exact hj
 have e':(rcs l)[i * 2 + j]? =(Itm.cs (l.getD i Itm.z))[j]?:=by rw [e];simp [List.getD_eq_getElem?_getD,hi]
 rw [List.getElem?_eq_getElem hj'] at e' ⊢;rw [Nat.zero_add];refine hb.cell ?_;rw [← h4,List.getElem?_take_of_lt (by omega)] at e';simpa using e'
theorem fU {l:List Rn} (h:Its w (some ad) l) (hp:0 < l.length):∃b off,ad=⟨b,off,none⟩∧b < w.heap.size∧
  ∀i,i < l.length→w.cell? ⟨b,off + i * 2,none⟩=some ↑((l.getD i Itm.z).a)∧w.cell? ⟨b,off + i * 2 + 1,none⟩=some ↑((l.getD i Itm.z).b):=by
 obtain ⟨b,off,e,hb,hc⟩:=h hp;injection e with e
 refine ⟨b,off,e,hb,fun i hi=>?_⟩;have k2:Itm.k Rn=2:=rfl;have a0:=hc i 0 hi (by decide);have a1:=hc i 1 hi (by decide);rw [k2] at a0 a1;exact ⟨a0,a1⟩
theorem RR.app {l m:List Rn} {n:Nat} (hn:n=l.length + m.length) (h:w.ownsRow 0 190 2 v n (rcs l ++ rcs m)):RR w v (l ++ m):=by
 subst hn;unfold RR rcs;rw [List.flatMap_append,List.length_append];exact h
theorem cO {ops:Array Oper} {rest:List Oper} {o:Oper} {a:Act} {Q:Exit→Act→World→Prop} (hgd:o.guard=none) (s x:Operand)
  (ho:o.op=.call {callee:=.builtin .append,args:=#[s,x],argTypes:=#[62,62]}) (v:Value) (l:List Rn)
  (hs:a.eval s=v) (hv:RR w v l) (p:Option Addr) (m c:Nat) (r:List Rn) (hx:a.eval x=.slice p m c) (hm:r.length=m) (hpos:0 < r.length) (hN:Its w p r) (hb:l.length + r.length≤1000000)
  (h:∀g' cap' w',RR w' (.slice (some ⟨g',0,none⟩) (l.length + r.length) cap') (l ++ r)→w.grownBy w' v.ownBlock→(some g'=v.ownBlock∨g'=w.heap.size)→wpList prog ops Q rest (a.put o.dst (.slice (some ⟨g',0,none⟩) (l.length + r.length) cap')) w'):
  wpList prog ops Q (o :: rest) a w:=by
 obtain ⟨i0,hi,hz0,hz1,hz2⟩:=info_parts wD;obtain ⟨ad,rfl,hc⟩:=hN.cells hpos;subst hm;refine wpList_append_own_at _ hgd s x 62 ho 0 190 i0 (.agg #[↑ζ,↑ζ]) 2 16 underlying62 hi hz0 hz1 hz2 rfl (by decide) v l.length (rcs l) hs hv ad r.length c (rcs r) hx (cL (α:=Rn) r) hc ?_ (by unfold maxLen;omega) (by omega) (Nat.zero_le _) ?_
 ·intro u hu
  obtain ⟨x,_,hx⟩:=List.mem_flatMap.1 hu;exact Itm.one x u hx
 ·intro v' w' hown' hgr hnil hat
  have hR:RR w' v' (l ++ r):=RR.app rfl hown';obtain ⟨g',cap',e,_⟩:=hR.form1 (by simp;omega);rw [List.length_append] at e;subst e;refine h g' cap' w' hR hgr ?_;rcases hat with k | k
  ·exact .inl k
  ·exact .inr (by simpa [Value.ownBlock] using k)

structure Own where
 o:Nat→Prop
def Own.up (B:Own) (n:Nat):Prop:=∀x,n≤x→B.o x
theorem Own.up.mono {B:Own} {n m:Nat} (h:B.up n) (k:n≤m):B.up m:=fun x hx=>h x (Nat.le_trans k hx)
def Own.at_ (n:Nat):Own:=⟨fun x=>n≤x⟩
theorem Own.at_up {n m:Nat} (h:n≤m):(Own.at_ n).up m:=fun x hx=>Nat.le_trans h hx
structure aH (B:Own) (w w':World):Prop where
 os:w'.os=w.os
 tape:w'.tape=w.tape
 output:w'.output=w.output
 size:w.heap.size≤↑w'
 block:∀k,k < w.heap.size→¬ B.o k→w'.heap[k]? =w.heap[k]?
namespace aH
theorem refl (B:Own) (w:World):aH B w w:=⟨rfl,rfl,rfl,Nat.le_refl _,fun _ _ _=>rfl⟩
theorem trans {B:Own} {a b c:World} (h:aH B a b) (k:aH B b c):aH B a c:=
 ⟨k.os.trans h.os,k.tape.trans h.tape,k.output.trans h.output,Nat.le_trans h.size k.size,fun i hi hn=>(k.block i (Nat.lt_of_lt_of_le hi h.size) hn).trans (h.block i hi hn)⟩
theorem of {B:Own} (k:Below ↑w w w'):aH B w w':=⟨k.os,k.tape,k.output,k.size,fun i hi _=>k.block i hi⟩
theorem tO {B:Own} {a:World} (h:aH B a w) (k:Below ↑w w w'):aH B a w':=h.trans (of k)
theorem setCell {B:Own} {a w:World} (h:aH B a w) {p:Addr} (hp:B.o p.block) (u:Value):aH B a (w.setCell p u):=
 h.trans ⟨rfl,rfl,rfl,by simp [World.setCell],fun k _ hk=>Below.heap_setCell _ _ _ _ (fun e=>hk (e▸hp))⟩
theorem grown {B:Own} {a:World} {row:Option Nat} (h:aH B a w) (hg:w.grownBy w' row) (hr:∀k,row=some k→B.o k):aH B a w':=
 h.trans ⟨hg.os,hg.tape,hg.output,hg.size,fun k hk hn=>hg.block k hk (fun e=>hn (hr k e.symm))⟩
theorem gr {B:Own} {a:World} {b:Nat} (h:aH B a w) (hg:w.grownBy w' (some b)) (hb:B.o b):aH B a w':=h.grown hg (fun k e=>by cases e;exact hb)
theorem fr {B:Own} {a:World} {l:List Nat} (h:aH B a w) (k:Fr w w' l) (hl:∀x∈l,B.o x):aH B a w':=
 h.trans ⟨k.os,k.tape,k.output,k.size,fun i hi hn=>k.block i hi (fun hm=>hn (hl i hm))⟩
theorem cell {B:Own} {w w':World} (h:aH B w w') {p:Addr} (hl:p.block < w.heap.size) (hp:¬ B.o p.block):w'.cell? p=w.cell? p:=World.cell?_of_block (w:=w) (h.block p.block hl hp)
theorem blk {B:Own} (h:aH B w w') {cs:Array Value} (hb:Blk w g T cs) (hg:¬ B.o g):Blk w' g T cs:=by
 unfold Blk;rw [h.block g hb.lt hg];exact hb
theorem bel {n:Nat} (h:aH (Own.at_ n) w w') (hn:n≤↑w):Below n w w':=⟨h.os,h.tape,h.output,h.size,fun k hk=>h.block k (Nat.lt_of_lt_of_le hk hn) (Nat.not_le.2 hk)⟩
theorem mono {B C:Own} (h:aH B w w') (hs:∀x,x < w.heap.size→B.o x→C.o x):aH C w w':=⟨h.os,h.tape,h.output,h.size,fun k hk hn=>h.block k hk (fun q=>hn (hs k hk q))⟩
end aH

theorem uF {l:List Pk} (h:Its w (some ad) l) (hp:0 < l.length):∃b off,ad=⟨b,off,none⟩∧b < w.heap.size∧∀k,k < l.length→∀x,x=l.getD k Itm.z→
  w.cell? ⟨b,off + k * 7,none⟩=some ↑x.n∧w.cell? ⟨b,off + k * 7 + 1,none⟩=some ↑x.size∧w.cell? ⟨b,off + k * 7 + 2,none⟩=some ↑x.sent∧w.cell? ⟨b,off + k * 7 + 3,none⟩=some ↑x.first∧w.cell? ⟨b,off + k * 7 + 4,none⟩=some ↑x.deliv∧w.cell? ⟨b,off + k * 7 + 5,none⟩=some ↑x.at_∧w.cell? ⟨b,off + k * 7 + 6,none⟩=some (.bool x.lim):=by
 obtain ⟨b,off,e,hb,hc⟩:=h hp;injection e with e
 refine ⟨b,off,e,hb,fun k hk x hx=>?_⟩;have k7:Itm.k Pk=7:=rfl;subst hx;exact ⟨hc k 0 hk (by rw [k7];omega),hc k 1 hk (by rw [k7];omega),hc k 2 hk (by rw [k7];omega),hc k 3 hk (by rw [k7];omega),hc k 4 hk (by rw [k7];omega),hc k 5 hk (by rw [k7];omega),hc k 6 hk (by rw [k7];omega)⟩

variable {α:Type} [Itm α]
def bQ (T:TypeId) (B:Nat) (w:World) (v:Value) (l:List α):Prop:=w.ownsRow B T (Itm.k α) v l.length (l.flatMap Itm.cs)
def sb (v:Value) (m:Nat):Nat:=v.ownBlock.getD m
theorem bQ.nil (T:TypeId) (B:Nat) (w:World):bQ T B w (.slice none 0 0) ([]:List α):=World.ownsRow_nil _ _ _ _
theorem bQ.form {l:List α} (h:bQ T B w v l):∃ao cap,v=.slice ao l.length cap∧l.length≤cap∧cap≤maxLen∧Its w ao l∧(0 < l.length→∃g,ao=some ⟨g,0,none⟩∧∀m,sb v m=g):=by
 obtain ⟨hl,h⟩:=h;rcases h with ⟨rfl,hn⟩ | ⟨g,cap,cur,rfl,hb,hg,hnc,hmax,hcs,htake⟩
 ·rw [hn]
  have:l=[]:=List.eq_nil_of_length_eq_zero hn;subst this;exact ⟨none,0,rfl,Nat.le_refl _,by decide,Its.none _ _,fun h=>absurd h (by simp)⟩
 ·refine ⟨some ⟨g,0,none⟩,cap,rfl,hnc,hmax,fun hp=>⟨g,0,rfl,lt_of_block hg,fun i j hi hj=>?_⟩,fun _=>⟨g,rfl,fun _=>rfl⟩⟩
  have hlt:i * Itm.k α + j < l.length * Itm.k α:=by
   have:=Nat.mul_le_mul_right (Itm.k α) (Nat.succ_le_of_lt hi);rw [Nat.succ_mul] at this;omega
  have e:(cur.toList.take (l.length * Itm.k α))[i * Itm.k α + j]? =(l.flatMap (Itm.cs (α:=α)))[i * Itm.k α + j]?:=by rw [htake]
  rw [List.getElem?_take_of_lt hlt,Array.getElem?_toList] at e;have e2:=tV l i j hj;have hx:l[i]? =some (l.getD i Itm.z):=by rw [List.getD_eq_getElem?_getD,List.getElem?_eq_getElem hi];rfl
  rw [hx] at e2;rw [Nat.zero_add,← show (l.flatMap (Itm.cs (α:=α)))[i * Itm.k α + j]? =(Itm.cs (l.getD i Itm.z))[j]? from e2,← e];have hcur:i * Itm.k α + j < cur.size:=by rw [hcs];have:=Nat.mul_le_mul_right (Itm.k α) hnc;omega
  rw [Array.getElem?_eq_getElem hcur];exact (show Blk w g T cur from hg).cell (Array.getElem?_eq_getElem hcur)
theorem bQ.blk {l:List α} (h:bQ T B w v l) (hk:∀g cs,v.ownBlock=some g→Blk w g T cs→Blk w' g T cs):bQ T B w' v l:=by
 obtain ⟨hl,h⟩:=h;refine ⟨hl,?_⟩;rcases h with ⟨rfl,hn⟩ | ⟨g,cap,cur,rfl,hb,hg,hr⟩
 ·exact .inl ⟨rfl,hn⟩
 ·exact .inr ⟨g,cap,cur,rfl,hb,hk g cur rfl hg,hr⟩
theorem bQ.keep {T:TypeId} {B:Nat} {w w':World} {v:Value} {l:List α} (h:bQ T B w v l) (k:Below ↑w w w'):bQ T B w' v l:=h.blk (fun _ _ _ hb=>hb.keep k)
theorem bQ.fr {T:TypeId} {B m:Nat} {w w':World} {v:Value} {l:List α} {L:List Nat} (h:bQ T B w v l) (k:Fr w w' L) (hn:sb v m ∉ L):bQ T B w' v l:=
 h.blk (fun g cs hg hb=>hb.fr k (by have:sb v m=g:=by unfold sb;rw [hg];rfl
                                    rw [← this];exact hn))
theorem bQ.lt {m:Nat} {l:List α} (h:bQ T B w v l) (hm:m < w.heap.size):sb v m < w.heap.size:=by
 obtain ⟨hl,h⟩:=h;rcases h with ⟨rfl,hn⟩ | ⟨g,cap,cur,rfl,hb,hg,hr⟩
 ·exact hm
 ·exact lt_of_block hg
theorem bQ.base {m:Nat} {l:List α} (h:bQ T B w v l) (hm:B≤m):B≤sb v m:=by
 obtain ⟨hl,h⟩:=h;rcases h with ⟨rfl,hn⟩ | ⟨g,cap,cur,rfl,hb,hg,hr⟩
 ·exact hm
 ·exact hb
theorem bQ.own {l:List α} (h:bQ T B w v l):∀g,v.ownBlock=some g→B≤g∧∃cs,Blk w g T cs:=by
 obtain ⟨hl,h⟩:=h;rcases h with ⟨rfl,hn⟩ | ⟨g,cap,cur,rfl,hb,hg,hr⟩
 ·intro g e;cases e
 ·intro g' e
  obtain rfl:g=g':=by simpa [Value.ownBlock] using e
  exact ⟨hb,cur,hg⟩
theorem bQ.at_ {m:Nat} {l:List α} (h:bQ T B w v l):sb v m=m∨∃cur,Blk w (sb v m) T cur:=by
 obtain ⟨hl,h⟩:=h;rcases h with ⟨rfl,hn⟩ | ⟨g,cap,cur,rfl,hb,hg,hr⟩
 ·exact .inl rfl
 ·exact .inr ⟨cur,hg⟩
theorem bQ.weak {B':Nat} {l:List α} (h:B≤B') (k:bQ T B' w v l):bQ T B w v l:=by
 obtain ⟨hl,k⟩:=k;refine ⟨hl,?_⟩;rcases k with e | ⟨g,cap,cur,e,hb,r⟩
 ·exact .inl e
 ·exact .inr ⟨g,cap,cur,e,Nat.le_trans h hb,r⟩
theorem bQ.snoc {l:List α} {x:α} (h:w.ownsRow B T (Itm.k α) v (l.length + 1) (l.flatMap Itm.cs ++ Itm.cs x)):bQ T B w v (l ++ [x]):=by
 unfold bQ;rw [List.length_append,List.flatMap_append];simpa using h
theorem IJ {W w1:World} {l:List α} (hb:Below B W w) (hB:B≤↑w) (h:bQ T B w v l) (o:Obj) (hg:(w.alloc o).grownBy w1 v.ownBlock):Below B W w1:=
 (hb.alloc hB o).grown hg (by simp;omega) (fun k e=>(h.own k e).1)
end
end Go.Proofs.YtjhiooggnpbecaaGreatDoor
