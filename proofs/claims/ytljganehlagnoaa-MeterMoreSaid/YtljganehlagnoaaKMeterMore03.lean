/- 2 texts put together: what each one says stands ahead of it. -/
import Derived.Test.YtljganehlagnoaaKMeterMore02
import Derived.Laws.IdiomCopy
import Derived.Deep.QuietTactic
import Derived.Laws.CopyOwn
import Derived.Lib.Hide
import Derived.Maps.AppendAt
set_option linter.unusedVariables false
namespace Go.Proofs.Ytljganehlagnoaa
open Go.RowKit
structure Mv (w w':World) (b g:Nat):Prop where
 os:w'.os=w.os
 tape:w'.tape=w.tape
 output:w'.output=w.output
 size:w.heap.size≤w'.heap.size
 block:∀k,k < w.heap.size→k≠b→k≠g→w'.heap[k]? =w.heap[k]?
theorem Mv.refl (w:World) (b g:Nat):Mv w w b g:=⟨rfl,rfl,rfl,Nat.le_refl _,fun _ _ _ _=>rfl⟩
theorem Mv.of_below {w w':World} (h:Below w.heap.size w w') (b g:Nat):Mv w w' b g:=⟨h.os,h.tape,h.output,h.size,fun k hk _ _=>h.block k hk⟩
theorem Mv.set {w w':World} {b g c:Nat} (h:Mv w w' b g) (hc:c=b∨c=g∨w.heap.size≤c) (i:Nat) (u:Value):Mv w (w'.setCell ⟨c,i,none⟩ u) b g:=
 ⟨h.os,h.tape,h.output,Nat.le_trans h.size (by simp [World.setCell]),fun k hk kb kg=>(Below.heap_setCell _ _ _ _ (by show k≠c;omega)).trans (h.block k hk kb kg)⟩
theorem Mv.sets {w:World} {b g c:Nat} (hc:c=b∨c=g∨w.heap.size≤c):∀(vs:List Value) (o:Nat) (w':World),Mv w w' b g→Mv w (w'.setCells c o vs) b g
 | [],_,_,h=>h
 | v :: r,o,w',h=>Mv.sets hc r (o + 1) _ (h.set hc o v)
theorem Mv.trans {a w w':World} {b g g':Nat} (h:Mv a w b g) (k:Mv w w' b g') (hg:g'=g∨a.heap.size≤g'):Mv a w' b g:=
 ⟨k.os.trans h.os,k.tape.trans h.tape,k.output.trans h.output,Nat.le_trans h.size k.size,fun i hi ib ig=>(k.block i (Nat.lt_of_lt_of_le hi h.size) ib (by omega)).trans (h.block i hi ib ig)⟩
theorem Mv.below {a w w':World} {b g:Nat} (h:Mv a w b g) (k:Below w.heap.size w w'):Mv a w' b g:=h.trans (Mv.of_below k b g) (.inl rfl)
theorem Mv.alloc {a w:World} {b g:Nat} (h:Mv a w b g) (o:Obj):Mv a (w.alloc o) b g:=h.below ((Below.refl _ _).alloc (Nat.le_refl _) _)
theorem Blk.ty {w:World} {b c:Nat} {T U:TypeId} {cs ds:Array Value} (h:Blk w b T cs) (k:Blk w c U ds) (hne:T≠U):b≠c:=by
 rintro rfl
 unfold Blk at h k;rw [h] at k;injection k with k;injection k with _ k;exact hne k
theorem Blk.sets {g:Nat} {T:TypeId}:∀(vs:List Value) (o:Nat) (w:World) (cs:Array Value),Blk w g T cs→Blk (w.setCells g o vs) g T (putA cs o vs)
 | [],_,_,_,h=>h
 | v :: r,o,w,cs,h=>Blk.sets r (o + 1) _ _ (h.set o v)
theorem Blk.sets_other {b g:Nat} {T:TypeId} {cs:Array Value} (hne:b≠g):∀(vs:List Value) (o:Nat) (w:World),Blk w b T cs→Blk (w.setCells g o vs) b T cs
 | [],_,_,h=>h
 | v :: r,o,w,h=>Blk.sets_other hne r (o + 1) _ (h.set_other o v hne)
theorem Below.sets {B g:Nat} {a:World} (hg:B≤g):∀(vs:List Value) (o:Nat) (w:World),Below B a w→Below B a (w.setCells g o vs)
 | [],_,_,h=>h
 | v :: r,o,w,h=>Below.sets hg r (o + 1) _ (h.setCell (p:=⟨g,o,none⟩) hg v)
def Its {α:Type} [Itm α] (w:World) (v:Option Addr) (l:List α):Prop:=
 0 < l.length→∃b off,v=some ⟨b,off,none⟩∧b < w.heap.size∧∀i j,i < l.length→j < Itm.k α→w.cell? ⟨b,off + (i * Itm.k α + j),none⟩=(Itm.cs (l.getD i Itm.z))[j]?
theorem Its.keep {α:Type} [Itm α] {w w':World} {v:Option Addr} {l:List α} (h:Its w v l) (k:Below w.heap.size w w'):Its w' v l:=by
 intro hp
 obtain ⟨b,off,e,hb,hc⟩:=h hp
 exact ⟨b,off,e,Nat.lt_of_lt_of_le hb k.size,fun i j hi hj=>(k.cell (p:=⟨b,_,none⟩) hb).trans (hc i j hi hj)⟩
theorem Its.of_blk {α:Type} [Itm α] {w:World} {g:Nat} {T:TypeId} {l:List α} (h:Blk w g T (icells l)):Its w (some ⟨g,0,none⟩) l:=by
 intro _
 refine ⟨g,0,rfl,h.lt,fun i j hi hj=>?_⟩
 have e:=icells_at j hi hj
 have hj':j < (Itm.cs (l.getD i Itm.z)).length:=by rw [Itm.len];exact hj
 rw [List.getElem?_eq_getElem hj'] at e ⊢
 rw [Nat.zero_add];exact h.cell e
theorem Its.none {α:Type} [Itm α] (w:World) (v:Option Addr):Its w v ([]:List α):=fun h=>absurd h (by simp)
theorem Its.cells {α:Type} [Itm α] {w:World} {v:Option Addr} {l:List α} (h:Its w v l) (hp:0 < l.length):∃ad,v=some ad∧∀j u,(l.flatMap (Itm.cs (α:=α)))[j]? =some u→w.cell? (ad.add j)=some u:=by
 obtain ⟨b,off,rfl,_,hc⟩:=h hp
 refine ⟨_,rfl,fun m u hu=>?_⟩
 have hk:=Itm.pos (α:=α)
 have hm:m < l.length * Itm.k α:=by
  rcases Nat.lt_or_ge m (l.length * Itm.k α) with c | c
  ·exact c
  ·rw [List.getElem?_eq_none (by rw [icells_len];exact c)] at hu;cases hu
 have hi:m / Itm.k α < l.length:=Nat.div_lt_of_lt_mul (by rw [Nat.mul_comm];exact hm)
 have hj:=Nat.mod_lt m hk
 have e:=Nat.div_add_mod m (Itm.k α)
 rw [Go.WideShapes.add_plain]
 have:=hc _ _ hi hj
 rw [Nat.mul_comm,e] at this
 rw [this,← icells_at _ hi hj,Nat.mul_comm,e]
 simpa [icells] using hu
theorem putA_whole {a:Array Value} {vs:List Value} (h:vs.length=a.size):putA a 0 vs=vs.toArray:=by
 apply Array.ext_getElem?;intro m
 rw [putA_get _ _ _ _ (by omega)]
 by_cases c:m < vs.length
 ·rw [if_pos (by omega)];simp
 ·rw [if_neg (by omega),Array.getElem?_eq_none (by omega),Array.getElem?_eq_none (by simp;omega)]
theorem Blk.whole {w:World} {g:Nat} {T:TypeId} {a:Array Value} (vs:List Value) (h:Blk w g T a) (hl:vs.length=a.size):Blk (w.setCells g 0 vs) g T vs.toArray:=by
 have:=h.sets vs 0
 rw [putA_whole hl] at this;exact this
structure Fr (w w':World) (l:List Nat):Prop where
 os:w'.os=w.os
 tape:w'.tape=w.tape
 output:w'.output=w.output
 size:w.heap.size≤w'.heap.size
 block:∀k,k < w.heap.size→k ∉ l→w'.heap[k]? =w.heap[k]?
theorem Fr.refl (w:World) (l:List Nat):Fr w w l:=⟨rfl,rfl,rfl,Nat.le_refl _,fun _ _ _=>rfl⟩
theorem Fr.of_below {w w':World} (h:Below w.heap.size w w') (l:List Nat):Fr w w' l:=⟨h.os,h.tape,h.output,h.size,fun k hk _=>h.block k hk⟩
theorem Fr.trans {a w w':World} {l l':List Nat} (h:Fr a w l) (k:Fr w w' l') (hs:∀x∈l',x∈l∨a.heap.size≤x):Fr a w' l:=
 ⟨k.os.trans h.os,k.tape.trans h.tape,k.output.trans h.output,Nat.le_trans h.size k.size,fun i hi il=>(k.block i (Nat.lt_of_lt_of_le hi h.size) (fun hm=>by rcases hs i hm with c | c;exact il c;omega)).trans (h.block i hi il)⟩
theorem Fr.mono {w w':World} {l l':List Nat} (h:Fr w w' l) (hs:∀x∈l,x∈l'∨w.heap.size≤x):Fr w w' l':=(Fr.refl w l').trans h hs
theorem Fr.below {a w w':World} {l:List Nat} (h:Fr a w l) (k:Below w.heap.size w w'):Fr a w' l:=h.trans (Fr.of_below k []) (fun x hx=>by simp at hx)
theorem Fr.alloc {a w:World} {l:List Nat} (h:Fr a w l) (o:Obj):Fr a (w.alloc o) l:=h.below ((Below.refl _ _).alloc (Nat.le_refl _) _)
theorem Fr.set {w w':World} {l:List Nat} {c:Nat} (h:Fr w w' l) (hc:c∈l∨w.heap.size≤c) (i:Nat) (u:Value):Fr w (w'.setCell ⟨c,i,none⟩ u) l:=
 ⟨h.os,h.tape,h.output,Nat.le_trans h.size (by simp [World.setCell]),fun k hk hl=>(Below.heap_setCell _ _ _ _ (by show k≠c;rintro rfl;rcases hc with d | d;exact hl d;omega)).trans (h.block k hk hl)⟩
theorem Fr.sets {w:World} {l:List Nat} {c:Nat} (hc:c∈l∨w.heap.size≤c):∀(vs:List Value) (o:Nat) (w':World),Fr w w' l→Fr w (w'.setCells c o vs) l
 | [],_,_,h=>h
 | v :: r,o,w',h=>Fr.sets hc r (o + 1) _ (h.set hc o v)
end Go.Proofs.Ytljganehlagnoaa

set_option linter.unusedVariables false
namespace Go.Proofs.Ytljganehlagnoaa
open Go.RowKit
variable {α:Type} [Itm α]
def SOwn (T:TypeId) (B:Nat) (w:World) (v:Value) (l:List α):Prop:=w.ownsRow B T (Itm.k α) v l.length (l.flatMap Itm.cs)
def sb (v:Value) (m:Nat):Nat:=v.ownBlock.getD m
theorem SOwn.nil (T:TypeId) (B:Nat) (w:World):SOwn T B w (.slice none 0 0) ([]:List α):=World.ownsRow_nil _ _ _ _
theorem SOwn.form {T:TypeId} {B:Nat} {w:World} {v:Value} {l:List α} (h:SOwn T B w v l):∃ao cap,v=.slice ao l.length cap∧l.length≤cap∧cap≤maxLen∧Its w ao l∧(0 < l.length→∃g,ao=some ⟨g,0,none⟩∧∀m,sb v m=g):=by
 obtain ⟨hl,h⟩:=h
 rcases h with ⟨rfl,hn⟩ | ⟨g,cap,cur,rfl,hb,hg,hnc,hmax,hcs,htake⟩
 ·rw [hn]
  have:l=[]:=List.eq_nil_of_length_eq_zero hn
  subst this
  exact ⟨none,0,rfl,Nat.le_refl _,by decide,Its.none _ _,fun h=>absurd h (by simp)⟩
 ·refine ⟨some ⟨g,0,none⟩,cap,rfl,hnc,hmax,fun hp=>⟨g,0,rfl,lt_of_block hg,fun i j hi hj=>?_⟩,fun _=>⟨g,rfl,fun _=>rfl⟩⟩
  have hlt:i * Itm.k α + j < l.length * Itm.k α:=by
   have:=Nat.mul_le_mul_right (Itm.k α) (Nat.succ_le_of_lt hi);rw [Nat.succ_mul] at this;omega
  have e:(cur.toList.take (l.length * Itm.k α))[i * Itm.k α + j]? =(l.flatMap (Itm.cs (α:=α)))[i * Itm.k α + j]?:=by rw [htake]
  rw [List.getElem?_take_of_lt hlt,Array.getElem?_toList] at e
  have e2:=iget l i j hj
  have hx:l[i]? =some (l.getD i Itm.z):=by rw [List.getD_eq_getElem?_getD,List.getElem?_eq_getElem hi];rfl
  rw [hx] at e2
  rw [Nat.zero_add,← show (l.flatMap (Itm.cs (α:=α)))[i * Itm.k α + j]? =(Itm.cs (l.getD i Itm.z))[j]? from e2,← e]
  have hcur:i * Itm.k α + j < cur.size:=by rw [hcs];have:=Nat.mul_le_mul_right (Itm.k α) hnc;omega
  rw [Array.getElem?_eq_getElem hcur]
  exact (show Blk w g T cur from hg).cell (Array.getElem?_eq_getElem hcur)
theorem SOwn.blk {T:TypeId} {B:Nat} {w w':World} {v:Value} {l:List α} (h:SOwn T B w v l) (hk:∀g cs,v.ownBlock=some g→Blk w g T cs→Blk w' g T cs):SOwn T B w' v l:=by
 obtain ⟨hl,h⟩:=h
 refine ⟨hl,?_⟩
 rcases h with ⟨rfl,hn⟩ | ⟨g,cap,cur,rfl,hb,hg,hr⟩
 ·exact .inl ⟨rfl,hn⟩
 ·exact .inr ⟨g,cap,cur,rfl,hb,hk g cur rfl hg,hr⟩
theorem SOwn.keep {T:TypeId} {B:Nat} {w w':World} {v:Value} {l:List α} (h:SOwn T B w v l) (k:Below w.heap.size w w'):SOwn T B w' v l:=h.blk (fun _ _ _ hb=>hb.keep k)
theorem SOwn.lt {T:TypeId} {B m:Nat} {w:World} {v:Value} {l:List α} (h:SOwn T B w v l) (hm:m < w.heap.size):sb v m < w.heap.size:=by
 obtain ⟨hl,h⟩:=h
 rcases h with ⟨rfl,hn⟩ | ⟨g,cap,cur,rfl,hb,hg,hr⟩
 ·exact hm
 ·exact lt_of_block hg
theorem SOwn.base {T:TypeId} {B m:Nat} {w:World} {v:Value} {l:List α} (h:SOwn T B w v l) (hm:B≤m):B≤sb v m:=by
 obtain ⟨hl,h⟩:=h
 rcases h with ⟨rfl,hn⟩ | ⟨g,cap,cur,rfl,hb,hg,hr⟩
 ·exact hm
 ·exact hb
theorem SOwn.own {T:TypeId} {B:Nat} {w:World} {v:Value} {l:List α} (h:SOwn T B w v l):∀g,v.ownBlock=some g→B≤g∧∃cs,Blk w g T cs:=by
 obtain ⟨hl,h⟩:=h
 rcases h with ⟨rfl,hn⟩ | ⟨g,cap,cur,rfl,hb,hg,hr⟩
 ·intro g e;cases e
 ·intro g' e
  obtain rfl:g=g':=by simpa [Value.ownBlock] using e
  exact ⟨hb,cur,hg⟩
theorem SOwn.at_ {T:TypeId} {B m:Nat} {w:World} {v:Value} {l:List α} (h:SOwn T B w v l):sb v m=m∨∃cur,Blk w (sb v m) T cur:=by
 obtain ⟨hl,h⟩:=h
 rcases h with ⟨rfl,hn⟩ | ⟨g,cap,cur,rfl,hb,hg,hr⟩
 ·exact .inl rfl
 ·exact .inr ⟨cur,hg⟩
theorem SOwn.snoc {T:TypeId} {B:Nat} {w:World} {v:Value} {l:List α} {x:α} (h:w.ownsRow B T (Itm.k α) v (l.length + 1) (l.flatMap Itm.cs ++ Itm.cs x)):SOwn T B w v (l ++ [x]):=by
 unfold SOwn
 rw [List.length_append,List.flatMap_append]
 simpa using h
theorem sown_succ {T:TypeId} {B n k:Nat} {w:World} {v':Value} {xs:List Value} (h:w.ownsRow B T k v' (n + 1) xs):∃g cap,v'=.slice (some ⟨g,0,none⟩) (n + 1) cap:=by
 rcases h.2 with ⟨rfl,h0⟩ | ⟨g,cap,cur,rfl,_⟩
 ·omega
 ·exact ⟨g,cap,rfl⟩
theorem bel_app {B:Nat} {W w w1:World} {T:TypeId} {v:Value} {l:List α} (hb:Below B W w) (hB:B≤w.heap.size) (h:SOwn T B w v l) (o:Obj) (hg:(w.alloc o).grownBy w1 v.ownBlock):Below B W w1:=
 (hb.alloc hB o).grown hg (by simp;omega) (fun k e=>(h.own k e).1)
end Go.Proofs.Ytljganehlagnoaa
