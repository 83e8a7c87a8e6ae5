/- 2 texts put together: what each one says stands ahead of it. -/
import Derived.Test.YtgpmnhhcjccofaaKLinkEnvelope13
import Derived.Test.YtgpmnhhcjccofaaKLinkEnvelope15
import Derived.Test.YtgpmnhhcjccofaaKLinkEnvelope03
import Derived.Deep.AppendLies
import Derived.Test.YtgpmnhhcjccofaaKLinkEnvelope09
set_option linter.unusedVariables false
namespace Go.Proofs.Ytgpmnhhcjccofaa
open Go.RowKit
structure RCells (cs:Array Value) (o:Nat) (s:QK) (v:Value):Prop where
 r:cs[o]? =some (.int .u64 (s.room:Int))
 v:cs[o + 1]? =some v
 d:cs[o + 2]? =some (.int .u64 (s.dr:Int))
 g:cs[o + 3]? =some (.int .u64 (s.lost:Int))
set_option maxRecDepth 100000 in
theorem RCells.of {cs:Array Value} {o:Nat} {s s':QK} {v:Value} (h:RCells cs o s v) (h1:s.room=s'.room) (h2:s.dr=s'.dr) (h3:s.lost=s'.lost):RCells cs o s' v:=⟨h1▸h.r,h.v,h2▸h.d,h3▸h.g⟩
def ROwn (B:Nat) (w:World) (v:Value) (l:List Pk):Prop:=w.ownsRow B 68 7 v l.length (l.flatMap Itm.cs)
def vb (v:Value) (m:Nat):Nat:=v.ownBlock.getD m
set_option maxRecDepth 100000 in
theorem ROwn.nil (B:Nat) (w:World):ROwn B w (.slice none 0 0) []:=World.ownsRow_nil _ _ _ _
set_option maxRecDepth 100000 in
theorem ROwn.form {B:Nat} {w:World} {v:Value} {l:List Pk} (h:ROwn B w v l):∃ao cap,v=.slice ao l.length cap∧l.length≤cap∧cap≤maxLen∧Its w ao l∧(0 < l.length→∃g,ao=some ⟨g,0,none⟩∧vb v 0=g):=by
 obtain ⟨hl,h⟩:=h
 rcases h with ⟨rfl,hn⟩ | ⟨g,cap,cur,rfl,hb,hg,hnc,hmax,hcs,htake⟩
 ·rw [hn]
  have:l=[]:=List.eq_nil_of_length_eq_zero hn
  subst this
  exact ⟨none,0,rfl,Nat.le_refl _,by decide,Its.none _ _,fun h=>absurd h (by simp)⟩
 ·refine ⟨some ⟨g,0,none⟩,cap,rfl,hnc,hmax,fun hp=>⟨g,0,rfl,lt_of_block hg,fun i j hi hj=>?_⟩,fun _=>⟨g,rfl,rfl⟩⟩
  have k7:Itm.k Pk=7:=rfl
  rw [k7] at hj ⊢
  have hlt:i * 7 + j < l.length * 7:=by omega
  have e:(cur.toList.take (l.length * 7))[i * 7 + j]? =(l.flatMap (Itm.cs (α:=Pk)))[i * 7 + j]?:=by rw [htake]
  rw [List.getElem?_take_of_lt hlt,Array.getElem?_toList] at e
  have e2:=iget l i j (by rw [k7];exact hj)
  rw [k7] at e2
  have hx:l[i]? =some (l.getD i Itm.z):=by rw [List.getD_eq_getElem?_getD,List.getElem?_eq_getElem hi];rfl
  rw [hx] at e2
  rw [Nat.zero_add,← show (l.flatMap (Itm.cs (α:=Pk)))[i * 7 + j]? =(Itm.cs (l.getD i Itm.z))[j]? from e2,← e]
  have hcur:i * 7 + j < cur.size:=by rw [hcs];have:=Nat.mul_le_mul_right 7 hnc;omega
  rw [Array.getElem?_eq_getElem hcur]
  exact (show Blk w g 68 cur from hg).cell (Array.getElem?_eq_getElem hcur)
set_option maxRecDepth 100000 in
theorem ROwn.blk {B:Nat} {w w':World} {v:Value} {l:List Pk} (h:ROwn B w v l) (hk:∀g cs,v.ownBlock=some g→Blk w g 68 cs→Blk w' g 68 cs):ROwn B w' v l:=by
 obtain ⟨hl,h⟩:=h
 refine ⟨hl,?_⟩
 rcases h with ⟨rfl,hn⟩ | ⟨g,cap,cur,rfl,hb,hg,hr⟩
 ·exact .inl ⟨rfl,hn⟩
 ·exact .inr ⟨g,cap,cur,rfl,hb,hk g cur rfl hg,hr⟩
set_option maxRecDepth 100000 in
theorem ROwn.keep {B:Nat} {w w':World} {v:Value} {l:List Pk} (h:ROwn B w v l) (k:Below w.heap.size w w'):ROwn B w' v l:=h.blk (fun _ _ _ hb=>hb.keep k)
set_option maxRecDepth 100000 in
theorem ROwn.fr {B m:Nat} {w w':World} {v:Value} {l:List Pk} {L:List Nat} (h:ROwn B w v l) (k:Fr w w' L) (hn:vb v m ∉ L):ROwn B w' v l:=
 h.blk (fun g cs hg hb=>hb.fr k (by have:vb v m=g:=by unfold vb;rw [hg];rfl
                                    rw [← this];exact hn))
set_option maxRecDepth 100000 in
theorem ROwn.lt {B m:Nat} {w:World} {v:Value} {l:List Pk} (h:ROwn B w v l) (hm:m < w.heap.size):vb v m < w.heap.size:=by
 obtain ⟨hl,h⟩:=h
 rcases h with ⟨rfl,hn⟩ | ⟨g,cap,cur,rfl,hb,hg,hr⟩
 ·exact hm
 ·exact lt_of_block hg
set_option maxRecDepth 100000 in
theorem ROwn.base {B m:Nat} {w:World} {v:Value} {l:List Pk} (h:ROwn B w v l) (hm:B≤m):B≤vb v m:=by
 obtain ⟨hl,h⟩:=h
 rcases h with ⟨rfl,hn⟩ | ⟨g,cap,cur,rfl,hb,hg,hr⟩
 ·exact hm
 ·exact hb
set_option maxRecDepth 100000 in
theorem fr_gr {w w':World} {row:Option Nat} {L:List Nat} (h:w.grownBy w' row) (hr:∀b,row=some b→b∈L):Fr w w' L:=
 ⟨h.os,h.tape,h.output,h.size,fun k hk hn=>h.block k hk (fun e=>hn (hr k e.symm))⟩
structure RQPost (W:World) (m o B:Nat) (T:TypeId) (cs:Array Value) (v:Value) (r:Value) (s:QK) (e:Ending) (w:World):Prop where
 e:e=.returned r
 at_:∃v' cs',Blk w m T cs'∧RCells cs' o s v'∧cs'.size=cs.size∧(∀i,i < o∨o + 4≤i→cs'[i]? =cs[i]?)∧ROwn B w v' s.l∧(vb v' m=vb v m∨W.heap.size≤vb v' m)
 fr:Fr W w [m,vb v m]
structure RM (W:World) (m o B z:Nat) (T:TypeId) (cs:Array Value) (v:Value) (c:List Value) (s:QK) (v':Value) (w:World):Prop where
 at_:∃cs',Blk w m T cs'∧RCells cs' o s v'∧cs'.size=cs.size∧(∀i,i < o∨o + 4≤i→cs'[i]? =cs[i]?)
 own:ROwn B w v' s.l
 new:vb v' m=vb v m∨W.heap.size≤vb v' m
 ne:vb v' m≠z
 fr:Fr W w [m,vb v m]
 box:Blk w z 68 c.toArray
 lo:W.heap.size≤z
 mz:m < W.heap.size
set_option maxRecDepth 100000 in
theorem RM.post {W w:World} {m o B z:Nat} {T:TypeId} {cs:Array Value} {v v' r:Value} {c:List Value} {s:QK} (h:RM W m o B z T cs v c s v' w):RQPost W m o B T cs v r s (.returned r) w:=
 ⟨rfl,by obtain ⟨cs',h1,h2,h3,h4⟩:=h.at_;exact ⟨v',cs',h1,h2,h3,h4,h.own,h.new⟩,h.fr⟩
set_option maxRecDepth 100000 in
theorem RM.to {W w w':World} {m o B z:Nat} {T:TypeId} {cs:Array Value} {v v':Value} {c:List Value} {s:QK} (h:RM W m o B z T cs v c s v' w) (k:Below w.heap.size w w'):RM W m o B z T cs v c s v' w':=
 ⟨by obtain ⟨cs',h1,h2⟩:=h.at_;exact ⟨cs',h1.keep k,h2⟩,h.own.keep k,h.new,h.ne,h.fr.below k,h.box.keep k,h.lo,h.mz⟩
set_option maxRecDepth 100000 in
theorem RM.start {W:World} {m o B:Nat} {T:TypeId} {cs:Array Value} {v:Value} {s:QK} (h:Blk W m T cs) (hk:RCells cs o s v) (ho:ROwn B W v s.l) (c:List Value):RM W m o B W.heap.size T cs v c s v (W.alloc (.cells c.toArray 68)):=
 ⟨⟨cs,h.keep (al_be _ _),hk,rfl,fun _ _=>rfl⟩,ho.keep (al_be _ _),.inl rfl,Nat.ne_of_lt (ho.lt h.lt),(Fr.refl _ _).alloc _,Blk.new _ _ _,Nat.le_refl _,h.lt⟩
set_option maxRecDepth 100000 in
theorem RM.cells {W w:World} {m o B z:Nat} {T:TypeId} {cs:Array Value} {v v':Value} {c:List Value} {s:QK} (h:RM W m o B z T cs v c s v' w):w.cell? ⟨m,o,none⟩=some (.int .u64 (s.room:Int))∧w.cell? ⟨m,o + 1,none⟩=some v'∧w.cell? ⟨m,o + 2,none⟩=some (.int .u64 (s.dr:Int))∧w.cell? ⟨m,o + 3,none⟩=some (.int .u64 (s.lost:Int))∧∀i,w.frozen? ⟨m,i,none⟩=false:=by
 obtain ⟨cs',h1,h2,_⟩:=h.at_
 exact ⟨h1.cell h2.r,h1.cell h2.v,h1.cell h2.d,h1.cell h2.g,fun i=>h1.free i⟩
end Go.Proofs.Ytgpmnhhcjccofaa

set_option linter.unusedVariables false
namespace Go.Proofs.Ytgpmnhhcjccofaa
open Go.RowKit
theorem jpk_info:(Try.prog.info? 68).map (fun i=>(i.zero,i.size,i.bytes))=some (some (.agg #[.int .u64 0,.int .u64 0,.int .u64 0,.int .u64 0,.int .u64 0,.int .u64 0,.bool false]),7,56):=by kernel_rfl
theorem due_split {f:Jp→Bool} {pre rest:List Jp} (h1:∀y∈pre,f y=true) (h2:∀y t,rest=y :: t→f y=false):(pre ++ rest).takeWhile f=pre∧(pre ++ rest).dropWhile f=rest:=by
 induction pre with
 | nil=>
   cases rest with
   | nil=>exact ⟨rfl,rfl⟩
   | cons y t=>have:=h2 y t rfl;simp [this]
 | cons y t ih=>
   have:=h1 y (by simp)
   obtain ⟨a,b⟩:=ih (fun z hz=>h1 z (by simp [hz]))
   simp [this]
   exact ⟨a,b⟩
end Go.Proofs.Ytgpmnhhcjccofaa
