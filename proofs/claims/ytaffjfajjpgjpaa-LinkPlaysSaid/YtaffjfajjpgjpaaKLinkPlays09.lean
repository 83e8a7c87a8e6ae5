/- 4 texts put together: what each one says stands ahead of it. -/
import Derived.Test.YtaffjfajjpgjpaaKLinkPlays08
import Derived.Laws.IdiomCopy
import Derived.Deep.QuietTactic
import Derived.Laws.CopyOwn
import Derived.Lib.Hide
import Derived.Maps.AppendAt
set_option linter.unusedVariables false
namespace Go.Proofs.Ytaffjfajjpgjpaa
open Go.RowKit
structure Mv (w w':World) (b g:Nat):Prop where
 os:w'.os=w.os
 tape:w'.tape=w.tape
 output:w'.output=w.output
 size:w.heap.size≤w'.heap.size
 block:∀k,k < w.heap.size→k≠b→k≠g→w'.heap[k]? =w.heap[k]?
theorem Mv.refl (w:World) (b g:Nat):Mv w w b g:=⟨rfl,rfl,rfl,Nat.le_refl _,fun _ _ _ _=>rfl⟩
theorem Mv.of_below {w w':World} (h:Below w.heap.size w w') (b g:Nat):Mv w w' b g:=⟨h.os,h.tape,h.output,h.size,fun k hk _ _=>h.block k hk⟩
theorem Mv.set {w w':World} {b g c:Nat} (h:Mv w w' b g) (hc:c=b∨c=g∨w.heap.size≤c) (i:Nat) (u:Value):Mv w (w'.setCell ⟨c,i,none⟩ u) b g:=
 ⟨h.os,h.tape,h.output,Nat.le_trans h.size (by simp [World.setCell]),fun k hk kb kg=>(Below.heap_setCell _ _ _ _ (by show k≠c;omega)).trans (h.block k hk kb kg)⟩
theorem Mv.sets {w:World} {b g c:Nat} (hc:c=b∨c=g∨w.heap.size≤c):∀(vs:List Value) (o:Nat) (w':World),Mv w w' b g→Mv w (w'.setCells c o vs) b g
 | [],_,_,h=>h
 | v :: r,o,w',h=>Mv.sets hc r (o + 1) _ (h.set hc o v)
theorem Mv.trans {a w w':World} {b g g':Nat} (h:Mv a w b g) (k:Mv w w' b g') (hg:g'=g∨a.heap.size≤g'):Mv a w' b g:=
 ⟨k.os.trans h.os,k.tape.trans h.tape,k.output.trans h.output,Nat.le_trans h.size k.size,fun i hi ib ig=>(k.block i (Nat.lt_of_lt_of_le hi h.size) ib (by omega)).trans (h.block i hi ib ig)⟩
theorem Mv.below {a w w':World} {b g:Nat} (h:Mv a w b g) (k:Below w.heap.size w w'):Mv a w' b g:=h.trans (Mv.of_below k b g) (.inl rfl)
theorem Mv.drawn {a w w':World} {b g:Nat} (h:Mv a w b g) (k:Drawn w w'):Mv a w' b g:=h.below (k.below _)
theorem Mv.alloc {a w:World} {b g:Nat} (h:Mv a w b g) (o:Obj):Mv a (w.alloc o) b g:=h.below ((Below.refl _ _).alloc (Nat.le_refl _) _)
theorem Blk.mv {w w':World} {b g c:Nat} {T:TypeId} {cs:Array Value} (h:Blk w c T cs) (k:Mv w w' b g) (h1:c≠b) (h2:c≠g):Blk w' c T cs:=by
 unfold Blk;rw [k.block c h.lt h1 h2];exact h
theorem Blk.old {w:World} {b:Nat} {T:TypeId} {cs:Array Value} (h:Blk w b T cs):b≠w.heap.size:=Nat.ne_of_lt h.lt
theorem Blk.ty {w:World} {b c:Nat} {T U:TypeId} {cs ds:Array Value} (h:Blk w b T cs) (k:Blk w c U ds) (hne:T≠U):b≠c:=by
 rintro rfl
 unfold Blk at h k;rw [h] at k;injection k with k;injection k with _ k;exact hne k
theorem Blk.sets {g:Nat} {T:TypeId}:∀(vs:List Value) (o:Nat) (w:World) (cs:Array Value),Blk w g T cs→Blk (w.setCells g o vs) g T (putA cs o vs)
 | [],_,_,_,h=>h
 | v :: r,o,w,cs,h=>Blk.sets r (o + 1) _ _ (h.set o v)
theorem Blk.sets_other {b g:Nat} {T:TypeId} {cs:Array Value} (hne:b≠g):∀(vs:List Value) (o:Nat) (w:World),Blk w b T cs→Blk (w.setCells g o vs) b T cs
 | [],_,_,h=>h
 | v :: r,o,w,h=>Blk.sets_other hne r (o + 1) _ (h.set_other o v hne)
theorem Below.sets {B g:Nat} {a:World} (hg:B≤g):∀(vs:List Value) (o:Nat) (w:World),Below B a w→Below B a (w.setCells g o vs)
 | [],_,_,h=>h
 | v :: r,o,w,h=>Below.sets hg r (o + 1) _ (h.setCell (p:=⟨g,o,none⟩) hg v)
theorem far {w:World} {L k:Nat} {u v:Value} {p:Addr} (h:w.cell? p=some v) (n:p.block≠L):(w.setCell ⟨L,k,none⟩ u).cell? p=some v:=by
 rw [World.cell?_setCell_other _ _ _ _ (by intro e;exact n (by rw [← e]))];exact h
theorem cell_al {w:World} {p:Addr} {v:Value} (h:w.cell? p=some v) (o:Obj):(w.alloc o).cell? p=some v:=by
 rw [← h];exact (Below.refl w.heap.size w |>.alloc (Nat.le_refl _) o).cell (p:=p) (World.block_lt_of_cell? _ _ h)
def Its {α:Type} [Itm α] (w:World) (v:Option Addr) (l:List α):Prop:=
 0 < l.length→∃b off,v=some ⟨b,off,none⟩∧b < w.heap.size∧∀i j,i < l.length→j < Itm.k α→w.cell? ⟨b,off + (i * Itm.k α + j),none⟩=(Itm.cs (l.getD i Itm.z))[j]?
theorem Its.keep {α:Type} [Itm α] {w w':World} {v:Option Addr} {l:List α} (h:Its w v l) (k:Below w.heap.size w w'):Its w' v l:=by
 intro hp
 obtain ⟨b,off,e,hb,hc⟩:=h hp
 exact ⟨b,off,e,Nat.lt_of_lt_of_le hb k.size,fun i j hi hj=>(k.cell (p:=⟨b,_,none⟩) hb).trans (hc i j hi hj)⟩
theorem Its.of_blk {α:Type} [Itm α] {w:World} {g:Nat} {T:TypeId} {l:List α} (h:Blk w g T (icells l)):Its w (some ⟨g,0,none⟩) l:=by
 intro _
 refine ⟨g,0,rfl,h.lt,fun i j hi hj=>?_⟩
 have e:=icells_at j hi hj
 have hj':j < (Itm.cs (l.getD i Itm.z)).length:=by rw [Itm.len];exact hj
 rw [List.getElem?_eq_getElem hj'] at e ⊢
 rw [Nat.zero_add];exact h.cell e
theorem Its.none {α:Type} [Itm α] (w:World) (v:Option Addr):Its w v ([]:List α):=fun h=>absurd h (by simp)
theorem Its.cells {α:Type} [Itm α] {w:World} {v:Option Addr} {l:List α} (h:Its w v l) (hp:0 < l.length):∃ad,v=some ad∧∀j u,(l.flatMap (Itm.cs (α:=α)))[j]? =some u→w.cell? (ad.add j)=some u:=by
 obtain ⟨b,off,rfl,_,hc⟩:=h hp
 refine ⟨_,rfl,fun m u hu=>?_⟩
 have hk:=Itm.pos (α:=α)
 have hm:m < l.length * Itm.k α:=by
  rcases Nat.lt_or_ge m (l.length * Itm.k α) with c | c
  ·exact c
  ·rw [List.getElem?_eq_none (by rw [icells_len];exact c)] at hu;cases hu
 have hi:m / Itm.k α < l.length:=Nat.div_lt_of_lt_mul (by rw [Nat.mul_comm];exact hm)
 have hj:=Nat.mod_lt m hk
 have e:=Nat.div_add_mod m (Itm.k α)
 rw [Go.WideShapes.add_plain]
 have:=hc _ _ hi hj
 rw [Nat.mul_comm,e] at this
 rw [this,← icells_at _ hi hj,Nat.mul_comm,e]
 simpa [icells] using hu
theorem wpList_copy_items {P:Program} {w:World} {ops:Array Oper} {rest:List Oper} {o:Oper} {a:Act} {Q:Exit→Act→World→Prop} (hgd:o.guard=none) (d s:Operand) (dT sT:TypeId)
  (ho:o.op=.call {callee:=.builtin .copy,args:=#[d,s],argTypes:=#[dT,sT]}) (elem:TypeId) (hu:P.underlying dT=some (.slice elem)) (k:Nat) (hk:0 < k) (hsz:(P.info? elem).map (·.size)=some k)
  (n:Nat) (sp:Option Addr) (dCap sCap:Nat) (g:Nat) (hd:a.eval d=.slice (some ⟨g,0,none⟩) n dCap) (hs:a.eval s=.slice sp n sCap)
  (cur:Array Value) (t:TypeId) (hg:w.heap[g]? =some (.cells cur t (0,0))) (cs:List Value) (hn:cs.length=n * k) (hc:cur.size=n * k)
  (hsrc:0 < n→∃ad,sp=some ad∧∀j v,cs[j]? =some v→w.cell? (ad.add j)=some v) (h1:∀v∈cs,v.oneCell'=true) (B:Nat) (w0:World) (hb:Below B w0 w) (hBg:B≤g)
  (h:∀w',Hid (Blk w' g t cs.toArray)→Below B w0 w'→wpList P ops Q rest (a.put o.dst (goInt n)) w'):wpList P ops Q (o :: rest) a w:=by
 refine wpList_plain hgd fun K hK=>?_
 rcases Nat.eq_zero_or_pos n with h0 | h0
 ·subst h0
  obtain rfl:cs=[]:=List.eq_nil_of_length_eq_zero (by simpa using hn)
  have hcur:cur=#[]:=by apply Array.eq_empty_of_size_eq_zero;simpa using hc
  have hrun:(Builtin.copy_ #[dT,sT] o.type #[.slice (some ⟨g,0,none⟩) 0 dCap,.slice sp 0 sCap]).run P w=.ok (goInt 0) w:=by
   have hl:∀(x:Addr),(loadCells x 0).run P w=.ok #[] w:=fun x=>by simpa using run_loadCells_list (P:=P) w x [] (by simp)
   cases hq:P.info? elem with
   | none=>simp [hq] at hsz
   | some i=>cases sp <;> simp [Builtin.copy_,run_underlying hu,Builtin.lenOf,Builtin.firstCells,sizeOf,typeInfo,hq,storeCells,hl]
  unfold Oper.wp
  simp [execOp,ho,resolve,invoke,builtin,hd,hs,hrun,Result.andThen]
  exact hK _ _ (h w (Lib.hid (by subst hcur;exact hg)) hb)
 ·obtain ⟨ad,rfl,hcell⟩:=hsrc h0
  have hl:=run_loadCells_list (P:=P) w ad cs hcell
  have hst:=run_storeCells_at P g 0 t cs 0 cur w hg (by omega) h1
  have hrun:(Builtin.copy_ #[dT,sT] o.type #[.slice (some ⟨g,0,none⟩) n dCap,.slice (some ad) n sCap]).run P w=.ok (goInt n) (w.setRow g cs.toArray):=by
   have e1:cur.toList.take (0 + 0) ++ cs ++ cur.toList.drop (0 + 0 + cs.length)=cs:=by
    rw [List.drop_of_length_le (by simp;omega)];simp
   rw [e1] at hst
   cases hq:P.info? elem with
   | none=>simp [hq] at hsz
   | some i=>
     have hi:i.size=k:=by simpa [hq] using hsz
     simp [Builtin.copy_,run_underlying hu,Builtin.lenOf,Builtin.firstCells,sizeOf,typeInfo,hq,hi,← hn,hl,hst]
  unfold Oper.wp
  simp [execOp,ho,resolve,invoke,builtin,hd,hs,hrun,Result.andThen]
  exact hK _ _ (h _ (Lib.hid (setRow_heap w g _ _ t _ hg)) (below_setRow hb hBg _))
theorem putA_whole {a:Array Value} {vs:List Value} (h:vs.length=a.size):putA a 0 vs=vs.toArray:=by
 apply Array.ext_getElem?;intro m
 rw [putA_get _ _ _ _ (by omega)]
 by_cases c:m < vs.length
 ·rw [if_pos (by omega)];simp
 ·rw [if_neg (by omega),Array.getElem?_eq_none (by omega),Array.getElem?_eq_none (by simp;omega)]
theorem Blk.whole {w:World} {g:Nat} {T:TypeId} {a:Array Value} (vs:List Value) (h:Blk w g T a) (hl:vs.length=a.size):Blk (w.setCells g 0 vs) g T vs.toArray:=by
 have:=h.sets vs 0
 rw [putA_whole hl] at this;exact this
structure Fr (w w':World) (l:List Nat):Prop where
 os:w'.os=w.os
 tape:w'.tape=w.tape
 output:w'.output=w.output
 size:w.heap.size≤w'.heap.size
 block:∀k,k < w.heap.size→k ∉ l→w'.heap[k]? =w.heap[k]?
theorem Fr.refl (w:World) (l:List Nat):Fr w w l:=⟨rfl,rfl,rfl,Nat.le_refl _,fun _ _ _=>rfl⟩
theorem Fr.of_below {w w':World} (h:Below w.heap.size w w') (l:List Nat):Fr w w' l:=⟨h.os,h.tape,h.output,h.size,fun k hk _=>h.block k hk⟩
theorem Fr.of_mv {w w':World} {b g:Nat} (h:Mv w w' b g):Fr w w' [b,g]:=⟨h.os,h.tape,h.output,h.size,fun k hk hl=>h.block k hk (by simp at hl;exact hl.1) (by simp at hl;exact hl.2)⟩
theorem Fr.trans {a w w':World} {l l':List Nat} (h:Fr a w l) (k:Fr w w' l') (hs:∀x∈l',x∈l∨a.heap.size≤x):Fr a w' l:=
 ⟨k.os.trans h.os,k.tape.trans h.tape,k.output.trans h.output,Nat.le_trans h.size k.size,fun i hi il=>(k.block i (Nat.lt_of_lt_of_le hi h.size) (fun hm=>by rcases hs i hm with c | c;exact il c;omega)).trans (h.block i hi il)⟩
theorem Fr.mono {w w':World} {l l':List Nat} (h:Fr w w' l) (hs:∀x∈l,x∈l'∨w.heap.size≤x):Fr w w' l':=(Fr.refl w l').trans h hs
theorem Fr.below {a w w':World} {l:List Nat} (h:Fr a w l) (k:Below w.heap.size w w'):Fr a w' l:=h.trans (Fr.of_below k []) (fun x hx=>by simp at hx)
theorem Fr.drawn {a w w':World} {l:List Nat} (h:Fr a w l) (k:Drawn w w'):Fr a w' l:=h.below (k.below _)
theorem Fr.alloc {a w:World} {l:List Nat} (h:Fr a w l) (o:Obj):Fr a (w.alloc o) l:=h.below ((Below.refl _ _).alloc (Nat.le_refl _) _)
theorem Fr.set {w w':World} {l:List Nat} {c:Nat} (h:Fr w w' l) (hc:c∈l∨w.heap.size≤c) (i:Nat) (u:Value):Fr w (w'.setCell ⟨c,i,none⟩ u) l:=
 ⟨h.os,h.tape,h.output,Nat.le_trans h.size (by simp [World.setCell]),fun k hk hl=>(Below.heap_setCell _ _ _ _ (by show k≠c;rintro rfl;rcases hc with d | d;exact hl d;omega)).trans (h.block k hk hl)⟩
theorem Fr.sets {w:World} {l:List Nat} {c:Nat} (hc:c∈l∨w.heap.size≤c):∀(vs:List Value) (o:Nat) (w':World),Fr w w' l→Fr w (w'.setCells c o vs) l
 | [],_,_,h=>h
 | v :: r,o,w',h=>Fr.sets hc r (o + 1) _ (h.set hc o v)
theorem Blk.fr {w w':World} {c:Nat} {l:List Nat} {T:TypeId} {cs:Array Value} (h:Blk w c T cs) (k:Fr w w' l) (hc:c ∉ l):Blk w' c T cs:=by
 unfold Blk;rw [k.block c h.lt hc];exact h
theorem bel_fr {B:Nat} {a w w':World} {l:List Nat} (h:Below B a w) (k:Fr w w' l) (hB:B≤w.heap.size) (hl:∀x∈l,B≤x):Below B a w':=
 h.trans ⟨k.os,k.tape,k.output,k.size,fun i hi=>k.block i (by omega) (fun hm=>by have:=hl i hm;omega)⟩
theorem results_cell_tmp {P:Program} {fn:Func} {p t:Tmp} {ty:TypeId} (h:fn.results=#[.cell p ty,.tmp t]) (tmps:Array Value) (w:World) (g:Nat) (T:TypeId) (cs:Array Value) (d:TypeDesc)
  (hp:tmps.getD p undef=.pointer (some ⟨g,0,none⟩)) (hg:Blk w g T cs)
  (hu:P.underlying ty=some d) (hd:(match d with | .struct _ | .array _ _=>true | _=>false)=true) (hi:(P.info? ty).map (·.size)=some cs.size):
  (results fn tmps).run P w=.ok (.tuple #[.agg cs,tmps.getD t undef]) w:=by
 have hp':tmps[p]?.getD undef=.pointer (some ⟨g,0,none⟩):=by simpa using hp
 simp [results,h,hp',asAddr,run_loadVar_row w g T ty cs (0,0) d hg hu hd hi]
end Go.Proofs.Ytaffjfajjpgjpaa

set_option linter.unusedVariables false
namespace Go.Proofs.Ytaffjfajjpgjpaa
open Go.RowKit
structure Pk where
 n:Nat
 size:Nat
 sent:Nat
 first:Nat
 deliv:Nat
 at_:Nat
 lim:Bool
deriving DecidableEq
instance:Inhabited Pk:=⟨⟨0,0,0,0,0,0,false⟩⟩
def Pk.cs (p:Pk):List Value:=[.int .u64 (p.n:Int),.int .u64 (p.size:Int),.int .u64 (p.sent:Int),.int .u64 (p.first:Int),.int .u64 (p.deliv:Int),.int .u64 (p.at_:Int),.bool p.lim]
instance:Itm Pk:=⟨⟨0,0,0,0,0,0,false⟩,7,Pk.cs,by decide,fun _=>rfl,fun r v h=>by
 simp only [Pk.cs,List.mem_cons,List.not_mem_nil,or_false] at h;rcases h with rfl | rfl | rfl | rfl | rfl | rfl | rfl <;> rfl⟩
def Pk.agg (r:Pk):Value:=.agg #[.int .u64 (r.n:Int),.int .u64 (r.size:Int),.int .u64 (r.sent:Int),.int .u64 (r.first:Int),.int .u64 (r.deliv:Int),.int .u64 (r.at_:Int),.bool r.lim]
end Go.Proofs.Ytaffjfajjpgjpaa

set_option linter.unusedVariables false
namespace Go.Proofs.Ytaffjfajjpgjpaa
open Go.RowKit
structure Jp where
 p:Pk
 due:Nat
deriving DecidableEq
instance:Inhabited Jp:=⟨⟨Itm.z,0⟩⟩
def Jp.cs (r:Jp):List Value:=[.int .u64 (r.p.n:Int),.int .u64 (r.p.size:Int),.int .u64 (r.p.sent:Int),.int .u64 (r.p.first:Int),.int .u64 (r.p.deliv:Int),.int .u64 (r.p.at_:Int),.bool r.p.lim,.int .u64 (r.due:Int)]
instance:Itm Jp:=⟨⟨⟨0,0,0,0,0,0,false⟩,0⟩,8,Jp.cs,by decide,fun _=>rfl,fun r v h=>by
 simp only [Jp.cs,List.mem_cons,List.not_mem_nil,or_false] at h;rcases h with rfl | rfl | rfl | rfl | rfl | rfl | rfl | rfl <;> rfl⟩
end Go.Proofs.Ytaffjfajjpgjpaa

set_option linter.unusedVariables false
namespace Go.Proofs.Ytaffjfajjpgjpaa
open Go.RowKit
variable {α:Type} [Itm α]
def SOwn (T:TypeId) (B:Nat) (w:World) (v:Value) (l:List α):Prop:=w.ownsRow B T (Itm.k α) v l.length (l.flatMap Itm.cs)
def sb (v:Value) (m:Nat):Nat:=v.ownBlock.getD m
theorem SOwn.nil (T:TypeId) (B:Nat) (w:World):SOwn T B w (.slice none 0 0) ([]:List α):=World.ownsRow_nil _ _ _ _
theorem SOwn.form {T:TypeId} {B:Nat} {w:World} {v:Value} {l:List α} (h:SOwn T B w v l):∃ao cap,v=.slice ao l.length cap∧l.length≤cap∧cap≤maxLen∧Its w ao l∧(0 < l.length→∃g,ao=some ⟨g,0,none⟩∧∀m,sb v m=g):=by
 obtain ⟨hl,h⟩:=h
 rcases h with ⟨rfl,hn⟩ | ⟨g,cap,cur,rfl,hb,hg,hnc,hmax,hcs,htake⟩
 ·rw [hn]
  have:l=[]:=List.eq_nil_of_length_eq_zero hn
  subst this
  exact ⟨none,0,rfl,Nat.le_refl _,by decide,Its.none _ _,fun h=>absurd h (by simp)⟩
 ·refine ⟨some ⟨g,0,none⟩,cap,rfl,hnc,hmax,fun hp=>⟨g,0,rfl,lt_of_block hg,fun i j hi hj=>?_⟩,fun _=>⟨g,rfl,fun _=>rfl⟩⟩
  have hlt:i * Itm.k α + j < l.length * Itm.k α:=by
   have:=Nat.mul_le_mul_right (Itm.k α) (Nat.succ_le_of_lt hi);rw [Nat.succ_mul] at this;omega
  have e:(cur.toList.take (l.length * Itm.k α))[i * Itm.k α + j]? =(l.flatMap (Itm.cs (α:=α)))[i * Itm.k α + j]?:=by rw [htake]
  rw [List.getElem?_take_of_lt hlt,Array.getElem?_toList] at e
  have e2:=iget l i j hj
  have hx:l[i]? =some (l.getD i Itm.z):=by rw [List.getD_eq_getElem?_getD,List.getElem?_eq_getElem hi];rfl
  rw [hx] at e2
  rw [Nat.zero_add,← show (l.flatMap (Itm.cs (α:=α)))[i * Itm.k α + j]? =(Itm.cs (l.getD i Itm.z))[j]? from e2,← e]
  have hcur:i * Itm.k α + j < cur.size:=by rw [hcs];have:=Nat.mul_le_mul_right (Itm.k α) hnc;omega
  rw [Array.getElem?_eq_getElem hcur]
  exact (show Blk w g T cur from hg).cell (Array.getElem?_eq_getElem hcur)
theorem SOwn.blk {T:TypeId} {B:Nat} {w w':World} {v:Value} {l:List α} (h:SOwn T B w v l) (hk:∀g cs,v.ownBlock=some g→Blk w g T cs→Blk w' g T cs):SOwn T B w' v l:=by
 obtain ⟨hl,h⟩:=h
 refine ⟨hl,?_⟩
 rcases h with ⟨rfl,hn⟩ | ⟨g,cap,cur,rfl,hb,hg,hr⟩
 ·exact .inl ⟨rfl,hn⟩
 ·exact .inr ⟨g,cap,cur,rfl,hb,hk g cur rfl hg,hr⟩
theorem SOwn.keep {T:TypeId} {B:Nat} {w w':World} {v:Value} {l:List α} (h:SOwn T B w v l) (k:Below w.heap.size w w'):SOwn T B w' v l:=h.blk (fun _ _ _ hb=>hb.keep k)
theorem SOwn.fr {T:TypeId} {B m:Nat} {w w':World} {v:Value} {l:List α} {L:List Nat} (h:SOwn T B w v l) (k:Fr w w' L) (hn:sb v m ∉ L):SOwn T B w' v l:=
 h.blk (fun g cs hg hb=>hb.fr k (by have:sb v m=g:=by unfold sb;rw [hg];rfl
                                    rw [← this];exact hn))
theorem SOwn.lt {T:TypeId} {B m:Nat} {w:World} {v:Value} {l:List α} (h:SOwn T B w v l) (hm:m < w.heap.size):sb v m < w.heap.size:=by
 obtain ⟨hl,h⟩:=h
 rcases h with ⟨rfl,hn⟩ | ⟨g,cap,cur,rfl,hb,hg,hr⟩
 ·exact hm
 ·exact lt_of_block hg
theorem SOwn.base {T:TypeId} {B m:Nat} {w:World} {v:Value} {l:List α} (h:SOwn T B w v l) (hm:B≤m):B≤sb v m:=by
 obtain ⟨hl,h⟩:=h
 rcases h with ⟨rfl,hn⟩ | ⟨g,cap,cur,rfl,hb,hg,hr⟩
 ·exact hm
 ·exact hb
theorem SOwn.own {T:TypeId} {B:Nat} {w:World} {v:Value} {l:List α} (h:SOwn T B w v l):∀g,v.ownBlock=some g→B≤g∧∃cs,Blk w g T cs:=by
 obtain ⟨hl,h⟩:=h
 rcases h with ⟨rfl,hn⟩ | ⟨g,cap,cur,rfl,hb,hg,hr⟩
 ·intro g e;cases e
 ·intro g' e
  obtain rfl:g=g':=by simpa [Value.ownBlock] using e
  exact ⟨hb,cur,hg⟩
theorem SOwn.at_ {T:TypeId} {B m:Nat} {w:World} {v:Value} {l:List α} (h:SOwn T B w v l):sb v m=m∨∃cur,Blk w (sb v m) T cur:=by
 obtain ⟨hl,h⟩:=h
 rcases h with ⟨rfl,hn⟩ | ⟨g,cap,cur,rfl,hb,hg,hr⟩
 ·exact .inl rfl
 ·exact .inr ⟨cur,hg⟩
theorem SOwn.weak {T:TypeId} {B B':Nat} {w:World} {v:Value} {l:List α} (h:B≤B') (k:SOwn T B' w v l):SOwn T B w v l:=by
 obtain ⟨hl,k⟩:=k
 refine ⟨hl,?_⟩
 rcases k with e | ⟨g,cap,cur,e,hb,r⟩
 ·exact .inl e
 ·exact .inr ⟨g,cap,cur,e,Nat.le_trans h hb,r⟩
theorem SOwn.snoc {T:TypeId} {B:Nat} {w:World} {v:Value} {l:List α} {x:α} (h:w.ownsRow B T (Itm.k α) v (l.length + 1) (l.flatMap Itm.cs ++ Itm.cs x)):SOwn T B w v (l ++ [x]):=by
 unfold SOwn
 rw [List.length_append,List.flatMap_append]
 simpa using h
theorem sown_some {T:TypeId} {B n k a b:Nat} {w:World} {v':Value} {xs:List Value} (h:w.ownsRow B T k v' n xs) (hat:v'.ownBlock=some a∨v'.ownBlock=some b):∃g cap,v'=.slice (some ⟨g,0,none⟩) n cap∧(g=a∨g=b):=by
 rcases h.2 with ⟨rfl,_⟩ | ⟨g,cap,cur,rfl,_⟩
 ·rcases hat with e | e <;> cases e
 ·exact ⟨g,cap,rfl,hat.imp Option.some.inj Option.some.inj⟩
theorem sown_succ {T:TypeId} {B n k:Nat} {w:World} {v':Value} {xs:List Value} (h:w.ownsRow B T k v' (n + 1) xs):∃g cap,v'=.slice (some ⟨g,0,none⟩) (n + 1) cap:=by
 rcases h.2 with ⟨rfl,h0⟩ | ⟨g,cap,cur,rfl,_⟩
 ·omega
 ·exact ⟨g,cap,rfl⟩
theorem sown_empty {T:TypeId} {B k:Nat} (w:World) (hB:B≤w.heap.size):(w.alloc (.cells #[] T)).ownsRow B T k (.slice (some ⟨w.heap.size,0,none⟩) 0 0) 0 []:=
 ⟨by simp,.inr ⟨w.heap.size,0,#[],rfl,hB,heap_alloc_new w _,Nat.le_refl _,by decide,by simp,by simp⟩⟩
theorem add_at (g off n:Nat):(⟨g,off,none⟩:Addr).add n=⟨g,off + n,none⟩:=by
 simp only [Addr.add]
 split
 ·next h=>rw [h];rfl
 ·rfl
theorem its_tail {w:World} {g off:Nat} {x:α} {t:List α} (h:Its w (some ⟨g,off,none⟩) (x :: t)):∀j u,(t.flatMap (Itm.cs (α:=α)))[j]? =some u→w.cell? ((⟨g,off + Itm.k α,none⟩:Addr).add j)=some u:=fun j u hu=>by
 obtain ⟨ad,e,hc⟩:=h.cells (by simp)
 injection e with e
 subst e
 have:=hc (Itm.k α + j) u (by
  rw [List.flatMap_cons,List.getElem?_append_right (by rw [Itm.len];omega),Itm.len]
  rw [show Itm.k α + j - Itm.k α=j by omega];exact hu)
 rw [add_at] at this ⊢
 rw [show off + Itm.k α + j=off + (Itm.k α + j) by omega];exact this
theorem bel_app {B:Nat} {W w w1:World} {T:TypeId} {v:Value} {l:List α} (hb:Below B W w) (hB:B≤w.heap.size) (h:SOwn T B w v l) (o:Obj) (hg:(w.alloc o).grownBy w1 v.ownBlock):Below B W w1:=
 (hb.alloc hB o).grown hg (by simp;omega) (fun k e=>(h.own k e).1)
end Go.Proofs.Ytaffjfajjpgjpaa
