/- 6 texts put together: what each one says stands ahead of it. -/
import Derived.Test.YtaffjfajjpgjpaaKLinkPlays13
import Derived.Test.YtaffjfajjpgjpaaKLinkPlays15
import Derived.Test.YtaffjfajjpgjpaaKLinkPlays03
import Derived.Deep.AppendLies
import Derived.Test.YtaffjfajjpgjpaaKLinkPlays09
import Derived.Deep.DeepCutAuto
import Derived.Maps.AppendAt
import Derived.Deep.RegionHeld3
set_option linter.unusedVariables false
namespace Go.Proofs.Ytaffjfajjpgjpaa
open Go.RowKit
def sumQ (l:List Pk):Nat:=l.foldl (fun a p=>Pl.addS a p.size) 0
set_option maxRecDepth 100000 in
theorem sumQ_snoc (l:List Pk) (p:Pk):sumQ (l ++ [p])=Pl.addS (sumQ l) p.size:=by simp [sumQ,List.foldl_append]
set_option maxRecDepth 100000 in
theorem sumQ_le (l:List Pk):sumQ l≤18446744073709551615:=by
 rcases List.eq_nil_or_concat l with rfl | ⟨l',x,rfl⟩
 ·exact Nat.zero_le _
 ·rw [List.concat_eq_append,sumQ_snoc];exact Pl.addS_le _ _
structure RCells (cs:Array Value) (o:Nat) (s:QK) (v:Value):Prop where
 r:cs[o]? =some (.int .u64 (s.room:Int))
 v:cs[o + 1]? =some v
 d:cs[o + 2]? =some (.int .u64 (s.dr:Int))
 g:cs[o + 3]? =some (.int .u64 (s.lost:Int))
set_option maxRecDepth 100000 in
theorem RCells.setv {cs:Array Value} {o:Nat} {s:QK} {v:Value} (h:RCells cs o s v) (v':Value) (l:List Pk) (n:Nat):RCells (cs.setIfInBounds (o + 1) v') o ⟨l,n,s.room,s.dr,s.lost⟩ v':=by
 have hv:=(Array.getElem?_eq_some_iff.1 h.v).1
 exact ⟨by rw [Array.getElem?_setIfInBounds_ne (by omega)];exact h.r,Array.getElem?_setIfInBounds_self_of_lt hv,by rw [Array.getElem?_setIfInBounds_ne (by omega)];exact h.d,by rw [Array.getElem?_setIfInBounds_ne (by omega)];exact h.g⟩
set_option maxRecDepth 100000 in
theorem RCells.setd {cs:Array Value} {o:Nat} {s:QK} {v:Value} (h:RCells cs o s v) (d:Nat):RCells (cs.setIfInBounds (o + 2) (.int .u64 (d:Int))) o ⟨s.l,s.n,s.room,d,s.lost⟩ v:=by
 have hv:=(Array.getElem?_eq_some_iff.1 h.d).1
 exact ⟨by rw [Array.getElem?_setIfInBounds_ne (by omega)];exact h.r,by rw [Array.getElem?_setIfInBounds_ne (by omega)];exact h.v,Array.getElem?_setIfInBounds_self_of_lt hv,by rw [Array.getElem?_setIfInBounds_ne (by omega)];exact h.g⟩
set_option maxRecDepth 100000 in
theorem RCells.setg {cs:Array Value} {o:Nat} {s:QK} {v:Value} (h:RCells cs o s v) (g:Nat):RCells (cs.setIfInBounds (o + 3) (.int .u64 (g:Int))) o ⟨s.l,s.n,s.room,s.dr,g⟩ v:=by
 have hv:=(Array.getElem?_eq_some_iff.1 h.g).1
 exact ⟨by rw [Array.getElem?_setIfInBounds_ne (by omega)];exact h.r,by rw [Array.getElem?_setIfInBounds_ne (by omega)];exact h.v,by rw [Array.getElem?_setIfInBounds_ne (by omega)];exact h.d,Array.getElem?_setIfInBounds_self_of_lt hv⟩
set_option maxRecDepth 100000 in
theorem RCells.of {cs:Array Value} {o:Nat} {s s':QK} {v:Value} (h:RCells cs o s v) (h1:s.room=s'.room) (h2:s.dr=s'.dr) (h3:s.lost=s'.lost):RCells cs o s' v:=⟨h1▸h.r,h.v,h2▸h.d,h3▸h.g⟩
def ROwn (B:Nat) (w:World) (v:Value) (l:List Pk):Prop:=w.ownsRow B 65 7 v l.length (l.flatMap Itm.cs)
def vb (v:Value) (m:Nat):Nat:=v.ownBlock.getD m
set_option maxRecDepth 100000 in
theorem ROwn.nil (B:Nat) (w:World):ROwn B w (.slice none 0 0) []:=World.ownsRow_nil _ _ _ _
set_option maxRecDepth 100000 in
theorem ROwn.form {B:Nat} {w:World} {v:Value} {l:List Pk} (h:ROwn B w v l):∃ao cap,v=.slice ao l.length cap∧l.length≤cap∧cap≤maxLen∧Its w ao l∧(0 < l.length→∃g,ao=some ⟨g,0,none⟩∧vb v 0=g):=by
 obtain ⟨hl,h⟩:=h
 rcases h with ⟨rfl,hn⟩ | ⟨g,cap,cur,rfl,hb,hg,hnc,hmax,hcs,htake⟩
 ·rw [hn]
  have:l=[]:=List.eq_nil_of_length_eq_zero hn
  subst this
  exact ⟨none,0,rfl,Nat.le_refl _,by decide,Its.none _ _,fun h=>absurd h (by simp)⟩
 ·refine ⟨some ⟨g,0,none⟩,cap,rfl,hnc,hmax,fun hp=>⟨g,0,rfl,lt_of_block hg,fun i j hi hj=>?_⟩,fun _=>⟨g,rfl,rfl⟩⟩
  have k7:Itm.k Pk=7:=rfl
  rw [k7] at hj ⊢
  have hlt:i * 7 + j < l.length * 7:=by omega
  have e:(cur.toList.take (l.length * 7))[i * 7 + j]? =(l.flatMap (Itm.cs (α:=Pk)))[i * 7 + j]?:=by rw [htake]
  rw [List.getElem?_take_of_lt hlt,Array.getElem?_toList] at e
  have e2:=iget l i j (by rw [k7];exact hj)
  rw [k7] at e2
  have hx:l[i]? =some (l.getD i Itm.z):=by rw [List.getD_eq_getElem?_getD,List.getElem?_eq_getElem hi];rfl
  rw [hx] at e2
  rw [Nat.zero_add,← show (l.flatMap (Itm.cs (α:=Pk)))[i * 7 + j]? =(Itm.cs (l.getD i Itm.z))[j]? from e2,← e]
  have hcur:i * 7 + j < cur.size:=by rw [hcs];have:=Nat.mul_le_mul_right 7 hnc;omega
  rw [Array.getElem?_eq_getElem hcur]
  exact (show Blk w g 65 cur from hg).cell (Array.getElem?_eq_getElem hcur)
set_option maxRecDepth 100000 in
theorem ROwn.blk {B:Nat} {w w':World} {v:Value} {l:List Pk} (h:ROwn B w v l) (hk:∀g cs,v.ownBlock=some g→Blk w g 65 cs→Blk w' g 65 cs):ROwn B w' v l:=by
 obtain ⟨hl,h⟩:=h
 refine ⟨hl,?_⟩
 rcases h with ⟨rfl,hn⟩ | ⟨g,cap,cur,rfl,hb,hg,hr⟩
 ·exact .inl ⟨rfl,hn⟩
 ·exact .inr ⟨g,cap,cur,rfl,hb,hk g cur rfl hg,hr⟩
set_option maxRecDepth 100000 in
theorem ROwn.keep {B:Nat} {w w':World} {v:Value} {l:List Pk} (h:ROwn B w v l) (k:Below w.heap.size w w'):ROwn B w' v l:=h.blk (fun _ _ _ hb=>hb.keep k)
set_option maxRecDepth 100000 in
theorem ROwn.fr {B m:Nat} {w w':World} {v:Value} {l:List Pk} {L:List Nat} (h:ROwn B w v l) (k:Fr w w' L) (hn:vb v m ∉ L):ROwn B w' v l:=
 h.blk (fun g cs hg hb=>hb.fr k (by have:vb v m=g:=by unfold vb;rw [hg];rfl
                                    rw [← this];exact hn))
set_option maxRecDepth 100000 in
theorem ROwn.lt {B m:Nat} {w:World} {v:Value} {l:List Pk} (h:ROwn B w v l) (hm:m < w.heap.size):vb v m < w.heap.size:=by
 obtain ⟨hl,h⟩:=h
 rcases h with ⟨rfl,hn⟩ | ⟨g,cap,cur,rfl,hb,hg,hr⟩
 ·exact hm
 ·exact lt_of_block hg
set_option maxRecDepth 100000 in
theorem ROwn.base {B m:Nat} {w:World} {v:Value} {l:List Pk} (h:ROwn B w v l) (hm:B≤m):B≤vb v m:=by
 obtain ⟨hl,h⟩:=h
 rcases h with ⟨rfl,hn⟩ | ⟨g,cap,cur,rfl,hb,hg,hr⟩
 ·exact hm
 ·exact hb
set_option maxRecDepth 100000 in
theorem fr_gr {w w':World} {row:Option Nat} {L:List Nat} (h:w.grownBy w' row) (hr:∀b,row=some b→b∈L):Fr w w' L:=
 ⟨h.os,h.tape,h.output,h.size,fun k hk hn=>h.block k hk (fun e=>hn (hr k e.symm))⟩
structure RQPost (W:World) (m o B:Nat) (T:TypeId) (cs:Array Value) (v:Value) (r:Value) (s:QK) (e:Ending) (w:World):Prop where
 e:e=.returned r
 at_:∃v' cs',Blk w m T cs'∧RCells cs' o s v'∧cs'.size=cs.size∧(∀i,i < o∨o + 4≤i→cs'[i]? =cs[i]?)∧ROwn B w v' s.l∧(vb v' m=vb v m∨W.heap.size≤vb v' m)
 fr:Fr W w [m,vb v m]
structure RM (W:World) (m o B z:Nat) (T:TypeId) (cs:Array Value) (v:Value) (c:List Value) (s:QK) (v':Value) (w:World):Prop where
 at_:∃cs',Blk w m T cs'∧RCells cs' o s v'∧cs'.size=cs.size∧(∀i,i < o∨o + 4≤i→cs'[i]? =cs[i]?)
 own:ROwn B w v' s.l
 new:vb v' m=vb v m∨W.heap.size≤vb v' m
 ne:vb v' m≠z
 fr:Fr W w [m,vb v m]
 box:Blk w z 65 c.toArray
 lo:W.heap.size≤z
 mz:m < W.heap.size
set_option maxRecDepth 100000 in
theorem RM.post {W w:World} {m o B z:Nat} {T:TypeId} {cs:Array Value} {v v' r:Value} {c:List Value} {s:QK} (h:RM W m o B z T cs v c s v' w):RQPost W m o B T cs v r s (.returned r) w:=
 ⟨rfl,by obtain ⟨cs',h1,h2,h3,h4⟩:=h.at_;exact ⟨v',cs',h1,h2,h3,h4,h.own,h.new⟩,h.fr⟩
set_option maxRecDepth 100000 in
theorem RM.to {W w w':World} {m o B z:Nat} {T:TypeId} {cs:Array Value} {v v':Value} {c:List Value} {s:QK} (h:RM W m o B z T cs v c s v' w) (k:Below w.heap.size w w'):RM W m o B z T cs v c s v' w':=
 ⟨by obtain ⟨cs',h1,h2⟩:=h.at_;exact ⟨cs',h1.keep k,h2⟩,h.own.keep k,h.new,h.ne,h.fr.below k,h.box.keep k,h.lo,h.mz⟩
set_option maxRecDepth 100000 in
theorem RM.start {W:World} {m o B:Nat} {T:TypeId} {cs:Array Value} {v:Value} {s:QK} (h:Blk W m T cs) (hk:RCells cs o s v) (ho:ROwn B W v s.l) (c:List Value):RM W m o B W.heap.size T cs v c s v (W.alloc (.cells c.toArray 65)):=
 ⟨⟨cs,h.keep (al_be _ _),hk,rfl,fun _ _=>rfl⟩,ho.keep (al_be _ _),.inl rfl,Nat.ne_of_lt (ho.lt h.lt),(Fr.refl _ _).alloc _,Blk.new _ _ _,Nat.le_refl _,h.lt⟩
set_option maxRecDepth 100000 in
theorem RM.cells {W w:World} {m o B z:Nat} {T:TypeId} {cs:Array Value} {v v':Value} {c:List Value} {s:QK} (h:RM W m o B z T cs v c s v' w):w.cell? ⟨m,o,none⟩=some (.int .u64 (s.room:Int))∧w.cell? ⟨m,o + 1,none⟩=some v'∧w.cell? ⟨m,o + 2,none⟩=some (.int .u64 (s.dr:Int))∧w.cell? ⟨m,o + 3,none⟩=some (.int .u64 (s.lost:Int))∧∀i,w.frozen? ⟨m,i,none⟩=false:=by
 obtain ⟨cs',h1,h2,_⟩:=h.at_
 exact ⟨h1.cell h2.r,h1.cell h2.v,h1.cell h2.d,h1.cell h2.g,fun i=>h1.free i⟩
set_option maxRecDepth 100000 in
theorem RM.mne {W w:World} {m o B z:Nat} {T:TypeId} {cs:Array Value} {v v':Value} {c:List Value} {s:QK} (h:RM W m o B z T cs v c s v' w) (hT:T≠65):∀g ds,Blk w g 65 ds→g≠m:=fun g ds hb=>by
 obtain ⟨cs',h1,_⟩:=h.at_
 exact hb.ty h1 (Ne.symm hT)
set_option maxRecDepth 100000 in
theorem RM.seti {W w:World} {m o B z i:Nat} {T:TypeId} {cs:Array Value} {v v':Value} {c:List Value} {s s':QK} {u:Value} (hT:T≠65) (h:RM W m o B z T cs v c s v' w) (hi:o≤i∧i < o + 4) (hl:s.l=s'.l) (hc:∀cs',RCells cs' o s v'→RCells (cs'.setIfInBounds i u) o s' v'):RM W m o B z T cs v c s' v' (w.setCell ⟨m,i,none⟩ u):=by
 have hm:=h.mne hT
 obtain ⟨cs',h1,h2,h3,h4⟩:=h.at_
 exact ⟨⟨_,h1.set i u,hc _ h2,by simpa using h3,fun j hj=>by rw [Array.getElem?_setIfInBounds_ne (by omega)];exact h4 j hj⟩,hl▸h.own.blk (fun g ds _ hb=>hb.set_other _ _ (hm g ds hb)),h.new,h.ne,h.fr.set (.inl (by simp)) _ _,h.box.set_other _ _ (hm _ _ h.box),h.lo,h.mz⟩
set_option maxRecDepth 100000 in
theorem RM.setd {W w:World} {m o B z:Nat} {T:TypeId} {cs:Array Value} {v v':Value} {c:List Value} {s:QK} (hT:T≠65) (h:RM W m o B z T cs v c s v' w) (d:Nat):RM W m o B z T cs v c ⟨s.l,s.n,s.room,d,s.lost⟩ v' (w.setCell ⟨m,o + 2,none⟩ (.int .u64 (d:Int))):=
 h.seti hT (by omega) rfl (fun cs' k=>k.setd d)
set_option maxRecDepth 100000 in
theorem RM.setg {W w:World} {m o B z:Nat} {T:TypeId} {cs:Array Value} {v v':Value} {c:List Value} {s:QK} (hT:T≠65) (h:RM W m o B z T cs v c s v' w) (d:Nat):RM W m o B z T cs v c ⟨s.l,s.n,s.room,s.dr,d⟩ v' (w.setCell ⟨m,o + 3,none⟩ (.int .u64 (d:Int))):=
 h.seti hT (by omega) rfl (fun cs' k=>k.setg d)
set_option maxRecDepth 100000 in
theorem rq_Bytes (m o B:Nat) (T:TypeId) (cs:Array Value) (v:Value) (s:QK) (w:World) (h:Blk w m T cs) (hk:RCells cs o s v) (ho:ROwn B w v s.l) (hf:s.l.length≤5000) (hz:∀x∈s.l,x.size≤18446744073709551615):
  Calls Try.prog 33 #[.pointer (some ⟨m,o,none⟩)] w fun e w'=>e=.returned (.int .u64 ((sumQ s.l:Nat):Int))∧w=w':=by
 obtain ⟨ao,cap,rfl,hc1,hc2,hi,hg⟩:=ho.form
 have c1:=h.cell hk.v
 have HI:=Lib.hid hi
 have HZ:=Lib.hid hz
 clear h hk ho hi hg hz
 generalize s.l=l at *
 go_enter Try.func33,Try.ntmps33
 go_wp2
 go_loop [4,3] (fun i u=>∃k:Nat,i=.int .i64 (k:Int)∧u=.int .u64 ((sumQ (l.take k):Nat):Int)∧k≤l.length) (fun i _=>l.length - (intOf i).toNat)
 case atStart=>exact ⟨0,rfl,rfl,Nat.zero_le _⟩
 case round=>
  obtain ⟨k,rfl,rfl,hk⟩:=hrel
  by_cases hlt:k < l.length
  ·obtain ⟨ad,rfl,_⟩:=HI.out.cells (by omega)
   obtain ⟨g,off,rfl,_,hc⟩:=its_pk HI.out (by omega)
   obtain ⟨x,hx⟩:∃x,x=l.getD k Itm.z:=⟨_,rfl⟩
   have a1:=(hc k hlt x hx).2.1
   have hxl:x∈l:=by rw [hx,List.getD_eq_getElem?_getD,List.getElem?_eq_getElem hlt];exact List.getElem_mem hlt
   have HS:Hid (sumQ (l.take (k + 1))=Pl.addS (sumQ (l.take k)) x.size):=Lib.hid (by
    rw [List.take_succ_eq_append_getElem hlt,sumQ_snoc,hx,List.getD_eq_getElem?_getD,List.getElem?_eq_getElem hlt];rfl)
   have HA:=Lib.hid (fun w=>ref_Add (sumQ (l.take k)) x.size w (sumQ_le _) (HZ.out x hxl))
   have i0:(0:Int)≤(k:Int):=by omega
   have i1:(k:Int) < (l.length:Int):=by omega
   clear hc hx hxl
   rw [← HS.out] at HA
   generalize sumQ (l.take k)=y at *
   generalize hy2:sumQ (l.take (k + 1))=y2 at *
   go_wp2_with fail
   refine (HA.out _).mono ?_
   rintro e w' ⟨rfl,rfl⟩
   go_wp2_with fail
   go_round
   case rel=>exact ⟨k + 1,by go_num,by rw [hy2],by omega⟩
   case measure=>simp [intOf];omega
  ·obtain rfl:k=l.length:=by omega
   have e:Hid (sumQ (l.take l.length)=sumQ l):=Lib.hid (by rw [List.take_length])
   rw [e.out]
   go_wp2
   go_ret
   exact ⟨rfl,rfl⟩
end Go.Proofs.Ytaffjfajjpgjpaa

set_option linter.unusedVariables false
namespace Go.Proofs.Ytaffjfajjpgjpaa
open Go.RowKit
theorem jpk_info:(Try.prog.info? 65).map (fun i=>(i.zero,i.size,i.bytes))=some (some (.agg #[.int .u64 0,.int .u64 0,.int .u64 0,.int .u64 0,.int .u64 0,.int .u64 0,.bool false]),7,56):=by kernel_rfl
theorem pks_take (l:List Jp) (k:Nat) (h:k < l.length):(l.take (k + 1)).map Jp.p=(l.take k).map Jp.p ++ [(l.getD k Itm.z).p]:=by
 rw [List.take_succ_eq_append_getElem h,List.map_append,List.getD_eq_getElem?_getD,List.getElem?_eq_getElem h];rfl
theorem due_split {f:Jp→Bool} {pre rest:List Jp} (h1:∀y∈pre,f y=true) (h2:∀y t,rest=y :: t→f y=false):(pre ++ rest).takeWhile f=pre∧(pre ++ rest).dropWhile f=rest:=by
 induction pre with
 | nil=>
   cases rest with
   | nil=>exact ⟨rfl,rfl⟩
   | cons y t=>have:=h2 y t rfl;simp [this]
 | cons y t ih=>
   have:=h1 y (by simp)
   obtain ⟨a,b⟩:=ih (fun z hz=>h1 z (by simp [hz]))
   simp [this]
   exact ⟨a,b⟩
end Go.Proofs.Ytaffjfajjpgjpaa

set_option linter.unusedVariables false
namespace Go.Proofs.Ytaffjfajjpgjpaa
open Go.RowKit
def RMo (W:World) (m o B z:Nat) (T:TypeId) (cs:Array Value) (v:Value) (c:List Value) (w:World):Prop:=∃s v',RM W m o B z T cs v c s v' w
set_option maxRecDepth 100000 in
theorem rmo {W w:World} {m o B z:Nat} {T:TypeId} {cs:Array Value} {v v':Value} {c:List Value} {s:QK} (h:Hid (RM W m o B z T cs v c s v' w)):Hid (RMo W m o B z T cs v c w):=Lib.hid ⟨s,v',h.out⟩
set_option maxRecDepth 100000 in
theorem rmo_box {W:World} {m o B z i:Nat} {T:TypeId} {cs:Array Value} {v u:Value} {c:List Value} (hv:c[i]? =some u):∀w,Hid (RMo W m o B z T cs v c w)→w.cell? ⟨z,i,none⟩=some u:=fun w h=>by
 obtain ⟨s,v',h1⟩:=h.out
 exact h1.box.cell (by simpa using hv)
set_option maxRecDepth 100000 in
theorem RM.drew {W w:World} {m o B z:Nat} {T:TypeId} {cs:Array Value} {v v':Value} {c:List Value} {s:QK} (h:RM W m o B z T cs v c s v' w):RM W m o B z T cs v c s v' w.drew:=h.to ((Drawn.drew w).below _)
set_option maxRecDepth 100000 in
theorem RM.bytes {W w:World} {m o B z:Nat} {T:TypeId} {cs:Array Value} {v v':Value} {c:List Value} {s:QK} (h:RM W m o B z T cs v c s v' w) (hf:s.l.length≤5000) (hz:∀x∈s.l,x.size≤18446744073709551615):
  Calls Try.prog 33 #[.pointer (some ⟨m,o,none⟩)] w fun e w'=>e=.returned (.int .u64 ((sumQ s.l:Nat):Int))∧w=w':=by
 obtain ⟨cs',h1,h2,_⟩:=h.at_
 exact rq_Bytes m o B T cs' v' s w h1 h2 h.own hf hz
set_option maxRecDepth 100000 in
set_option maxHeartbeats 1000000 in
theorem rq_Put_no (m o B:Nat) (T:TypeId) (cs:Array Value) (v:Value) (p:Pk) (s:QK) (W:World) (hT:T≠65) (hb:Blk W m T cs) (hk:RCells cs o s v) (hr:ROwn B W v s.l) (ho:s.ok) (hf:s.l.length≤5000) (hp:p.size≤18446744073709551615) (hle:sumQ s.l≤s.room) (c:¬ p.size≤s.room - sumQ s.l):
  Calls Try.prog 32 #[.pointer (some ⟨m,o,none⟩),p.agg] W (RQPost W m o B T cs v (.bool false) (s.dropQ p)):=by
 have d:decide (s.room - sumQ s.l < p.size)=true:=decide_eq_true (by omega)
 have hA:=Lib.hid (fun w=>ref_Add s.dr 1 w ho.dr (by omega))
 have hB:=Lib.hid (fun w=>ref_Add s.lost p.size w ho.lost hp)
 have HBy:=Lib.hid (fun w (h:RM W m o B W.heap.size T cs v (Itm.cs p) s v w)=>h.bytes hf ho.sz)
 have K0:=Lib.hid (RM.start hb hk hr (Itm.cs p))
 have hx:(Itm.cs p)[1]? =some (.int .u64 (p.size:Int)):=rfl
 have hT:=Lib.hid hT
 have HR:=Lib.hid ho.room
 have z1:(s.room:Int) - ((sumQ s.l:Nat):Int)=((s.room - sumQ s.l:Nat):Int):=by omega
 have z2:IntKind.u64.wrap ((s.room - sumQ s.l:Nat):Int)=((s.room - sumQ s.l:Nat):Int):=by have:=ho.room;rw [IntKind.wrap_u64];omega
 clear hb hk hr ho hf hle c
 unfold QK.dropQ
 unfold Pk.agg
 go_enter Try.func32,Try.ntmps32
 go_upto_region 1 with fail
 change Code.wp _ _ _ _ (W.alloc (.cells (Itm.cs p).toArray 65))
 generalize W.alloc (.cells (Itm.cs p).toArray 65)=w0 at *
 have hu:=Try.underlying65
 have hi:=pk_inf p
 generalize hcs:Itm.cs p=c at *
 have HCs:=Lib.hid hcs
 clear hcs
 have c1:=K0.out.box.cell (i:=1) (v:=.int .u64 (p.size:Int)) (by simpa using hx)
 have k0:=K0.out.cells.1
 have k2:=K0.out.cells.2.2.1
 have R1:=rmo_box (W:=W) (m:=m) (o:=o) (B:=B) (z:=W.heap.size) (T:=T) (cs:=cs) (v:=v) hx
 have HB0:Hid (∀n,Calls Try.prog 33 #[.pointer (some ⟨m,o,none⟩)] (w0.drewN n) fun e w'=>e=.returned (.int .u64 ((sumQ s.l:Nat):Int))∧w'=w0.drewN n):=Lib.hid (fun n=>(HBy.out _ (K0.out.to ((show Drawn w0 (w0.drewN n) from ⟨n,rfl⟩).below _))).mono fun _ _ k=>⟨k.1,k.2.symm⟩)
 clear HBy hx
 generalize hd':Pl.addS s.dr 1=dd at *
 generalize Pl.addS s.lost p.size=y at *
 generalize p.size=x at *
 generalize hn:s.lost=n at *
 generalize s.room - sumQ s.l=q at *
 generalize sumQ s.l=sm at *
 go_wp2_with fail
 go_quiet (first | (go_at_call 33;exact Calls.quiet_of_same (HB0.out _)))
 have HD:=Lib.hid (show Drawn w0 (w0.drewN nq) from ⟨nq,rfl⟩)
 have K1:=Lib.hid (K0.out.to (HD.out.below _))
 have k2:=K1.out.cells.2.2.1
 have f2:=K1.out.cells.2.2.2.2 (o + 2)
 generalize w0.drewN nq=w1 at *
 clear K0 HB0 HD
 go_wp2_with fail
 refine (hA.out _).mono ?_
 rintro e w' ⟨rfl,rfl⟩
 have M0:=Lib.hid (K1.out.setd hT.out dd)
 rw [hn] at M0
 clear K1 hn hd' k0 c1 d z1 z2
 go_wp2_with fail
 clear k2 f2
 generalize (w1.setCell ⟨m,o + 2,none⟩ (.int .u64 (dd:Int)))=w2 at *
 have M1:=Lib.hid M0.out.drew
 refine wp_region_held_drew (S:=(fun w'=>Hid (RMo W m o B W.heap.size T cs v c w'))) (by kernel_rfl) (rmo M1) (fun hHeld=>?_)
 generalize w2.drew=wd at *
 simp only [List.size_toArray,List.length_cons,List.length_nil,Nat.reduceAdd,Array.replicate_succ,Array.replicate_zero,List.push_toArray,List.nil_append,List.cons_append]
 refine wpAnyH_take (i:=0) (oi:=⟨some 23,_,_,_,_,_⟩) (v:=?v1) rfl (by kernel_rfl) (by kernel_rfl) (by kernel_rfl) (fun _ _ _ h=>h) (Or.inl ⟨by rfl,?y1⟩) (by assumption) ?r1
 case y1=>intro w hSw;clear hSw;go_simp;(try with_reducible rfl)
 simp only [Act.put,List.setIfInBounds_toArray,List.set_cons_zero,List.set_cons_succ]
 refine wpAnyH_take (i:=1) (oi:=⟨some 24,_,_,_,_,_⟩) (v:=?v2) rfl (by kernel_rfl) (by kernel_rfl) (by kernel_rfl) (fun _ _ _ h=>h) (Or.inl ⟨by rfl,?y2⟩) (by assumption) ?r2
 case y2=>intro w hSw;clear hSw;go_simp;(try with_reducible rfl)
 simp only [Act.put,List.setIfInBounds_toArray,List.set_cons_zero,List.set_cons_succ]
 refine wpAnyH_take (i:=2) (oi:=⟨some 25,_,_,_,_,_⟩) (v:=?v3) rfl (by kernel_rfl) (by kernel_rfl) (by kernel_rfl) (fun _ _ _ h=>h) (Or.inl ⟨by rfl,?y3⟩) (by assumption) ?r3
 case y3=>intro w hSw;clear hSw;go_simp;(try with_reducible rfl)
 simp only [Act.put,List.setIfInBounds_toArray,List.set_cons_zero,List.set_cons_succ]
 refine wpAnyH_take (i:=3) (oi:=⟨some 26,_,_,_,_,_⟩) (v:=?v4) rfl (by kernel_rfl) (by kernel_rfl) (by kernel_rfl) (fun _ _ _ h=>h) (Or.inl ⟨by rfl,?y4⟩) (by assumption) ?r4
 case y4=>intro w hSw;clear hSw;go_simp;(try with_reducible rfl)
 simp only [Act.put,List.setIfInBounds_toArray,List.set_cons_zero,List.set_cons_succ]
 refine wpAnyH_take (i:=5) (oi:=⟨some 28,_,_,_,_,_⟩) (v:=?v5) rfl (by kernel_rfl) (by kernel_rfl) (by kernel_rfl) (fun _ _ _ h=>h) (Or.inl ⟨by rfl,?y5⟩) (by assumption) ?r5
 case y5=>intro w hSw;clear hSw;go_simp;(try with_reducible rfl)
 simp only [Act.put,List.setIfInBounds_toArray,List.set_cons_zero,List.set_cons_succ]
 refine wpAnyH_take (i:=6) (oi:=⟨some 29,_,_,_,_,_⟩) (v:=?v6) rfl (by kernel_rfl) (by kernel_rfl) (by kernel_rfl) (fun _ _ _ h=>h) (Or.inl ⟨by rfl,?y6⟩) (by assumption) ?r6
 case y6=>intro w hSw;skip;go_simp;(try with_reducible rfl)
 simp only [Act.put,List.setIfInBounds_toArray,List.set_cons_zero,List.set_cons_succ]
 refine wpAnyH_ready (rs:=[4]) (by kernel_rfl) (by simp) ?_
 refine AllReadyH.cons (o:=⟨some 27,_,_,_,_,_⟩) rfl (fun K hK=>?_) AllReadyH.nil
 have c3:=(Hid.out (by assumption):RM W m o B W.heap.size T cs v c ⟨s.l,s.n,s.room,dd,n⟩ v _).cells.2.2.2.1
 go_simp
 refine hK.out _ _ hHeld (fun hHeld=>?_)
 clear hK
 try simp only [List.setIfInBounds_toArray,List.set_cons_zero,List.set_cons_succ]
 refine wpAnyH_ready (rs:=[7]) (by kernel_rfl) (by simp) ?_
 refine AllReadyH.cons (o:=⟨some 30,_,_,_,_,_⟩) rfl (fun K hK=>?_) AllReadyH.nil
 go_simp
 refine (hB.out _).mono ?_
 rintro e w4 ⟨rfl,rfl⟩
 go_wp2_with fail
 refine hK.out _ _ hHeld (fun hHeld=>?_)
 clear hK
 try simp only [List.setIfInBounds_toArray,List.set_cons_zero,List.set_cons_succ]
 refine wpAnyH_take (i:=8) (oi:=⟨some 31,_,_,_,_,_⟩) (v:=?v7) rfl (by kernel_rfl) (by kernel_rfl) (by kernel_rfl) (fun _ _ _ h=>h) (Or.inl ⟨by rfl,?y7⟩) (by assumption) ?r7
 case y7=>intro w hSw;clear hSw;go_simp;(try with_reducible rfl)
 simp only [Act.put,List.setIfInBounds_toArray,List.set_cons_zero,List.set_cons_succ]
 refine wpAnyH_take (i:=9) (oi:=⟨some 32,_,_,_,_,_⟩) (v:=?v8) rfl (by kernel_rfl) (by kernel_rfl) (by kernel_rfl) (fun _ _ _ h=>h) (Or.inl ⟨by rfl,?y8⟩) (by assumption) ?r8
 case y8=>intro w hSw;clear hSw;go_simp;(try with_reducible rfl)
 simp only [Act.put,List.setIfInBounds_toArray,List.set_cons_zero,List.set_cons_succ]
 refine wpAnyH_ready (rs:=[10]) (by kernel_rfl) (by simp) ?_
 refine AllReadyH.cons (o:=⟨none,_,_,_,_,_⟩) rfl (fun K hK=>?_) AllReadyH.nil
 have y3:=(Hid.out (by assumption):RM W m o B W.heap.size T cs v c ⟨s.l,s.n,s.room,dd,n⟩ v _).cells.2.2.2.2 (o + 3)
 have c3:=(Hid.out (by assumption):RM W m o B W.heap.size T cs v c ⟨s.l,s.n,s.room,dd,n⟩ v _).cells.2.2.2.1
 have M6:=Lib.hid ((Hid.out (by assumption):RM W m o B W.heap.size T cs v c ⟨s.l,s.n,s.room,dd,n⟩ v _).setg hT.out y)
 go_simp
 refine hK.out _ _ (rmo M6) (fun hHeld=>?_)
 clear hK
 try simp only [List.setIfInBounds_toArray,List.set_cons_zero,List.set_cons_succ]
 refine wpAnyH_done (by kernel_rfl) ?_ _
 go_wp2_with fail
 go_ret
 exact M6.out.post
set_option maxRecDepth 100000 in
theorem RM.grown {W wA w5:World} {m o B z:Nat} {T:TypeId} {cs:Array Value} {v:Value} {c:List Value} {s:QK} (hT:T≠65) (h:RM W m o B z T cs v c s v wA) (hg:wA.grownBy w5 v.ownBlock):
  (∃cs',Blk w5 m T cs'∧RCells cs' o s v∧cs'.size=cs.size∧(∀i,i < o∨o + 4≤i→cs'[i]? =cs[i]?))∧Fr W w5 [m,vb v m]∧Blk w5 z 65 c.toArray:=by
 have hm:=h.mne hT
 have hv:∀g,v.ownBlock=some g→g≠m∧vb v m=g:=fun g e=>by
  refine ⟨?_,by unfold vb;rw [e];rfl⟩
  obtain ⟨hl,k⟩:=h.own
  rcases k with ⟨rfl,hn⟩ | ⟨g',cap,cur,rfl,hb,hgg,hr⟩
  ·cases e
  ·injection e with e;subst e;exact hm _ _ hgg
 obtain ⟨cs',h1,h2⟩:=h.at_
 refine ⟨⟨cs',h1.grown hg (fun e=>(hv m e.symm).1 rfl),h2⟩,h.fr.trans (fr_gr (L:=[m,vb v m]) hg (fun b e=>by rw [(hv b e).2];simp)) (fun x hx=>.inl hx),h.box.grown hg (fun e=>h.ne (hv z e.symm).2)⟩
set_option maxRecDepth 100000 in
theorem RM.appended {W wA w5:World} {m o B z g cap H n':Nat} {T:TypeId} {cs:Array Value} {v r:Value} {c:List Value} {s:QK} {l':List Pk} (hT:T≠65) (h:RM W m o B z T cs v c s v wA) (hg:wA.grownBy w5 v.ownBlock)
  (hown:ROwn B w5 (.slice (some ⟨g,0,none⟩) l'.length cap) l') (hat:v.ownBlock=some g∨g=H) (hH:z < H):
  RQPost W m o B T cs v r ⟨l',n',s.room,s.dr,s.lost⟩ (.returned r) (w5.setCell ⟨m,o + 1,none⟩ (.slice (some ⟨g,0,none⟩) l'.length cap)):=by
 obtain ⟨⟨cs',h1,h2,h3,h4⟩,h5,h6⟩:=h.grown hT hg
 have hb:vb (.slice (some ⟨g,0,none⟩) l'.length cap) m=g:=rfl
 refine ⟨rfl,⟨_,_,h1.set (o + 1) _,h2.setv _ l' n',by simpa using h3,fun i hi=>by rw [Array.getElem?_setIfInBounds_ne (by omega)];exact h4 i hi,hown.blk (fun b ds _ k=>k.set_other _ _ (k.ty h1 (Ne.symm hT))),?_⟩,h5.set (.inl (by simp)) _ _⟩
 rw [hb]
 rcases hat with e | e
 ·left;unfold vb;rw [e];rfl
 ·right;have:=h.lo;omega
set_option maxRecDepth 100000 in
theorem pkt_info:(Try.prog.info? 65).map (fun i=>(i.zero,i.size,i.bytes))=some (some (.agg #[.int .u64 0,.int .u64 0,.int .u64 0,.int .u64 0,.int .u64 0,.int .u64 0,.bool false]),7,56):=by kernel_rfl
set_option maxRecDepth 100000 in
set_option maxHeartbeats 1000000 in
theorem rq_Put_yes (m o B:Nat) (T:TypeId) (cs:Array Value) (v:Value) (p:Pk) (s:QK) (W:World) (hT:T≠65) (hB:B≤W.heap.size) (hb:Blk W m T cs) (hk:RCells cs o s v) (hr:ROwn B W v s.l) (ho:s.ok) (hf:s.l.length≤5000) (hp:p.size≤18446744073709551615) (hle:sumQ s.l≤s.room) (c:p.size≤s.room - sumQ s.l):
  Calls Try.prog 32 #[.pointer (some ⟨m,o,none⟩),p.agg] W (RQPost W m o B T cs v (.bool true) (s.addQ p)):=by
 have d:decide (s.room - sumQ s.l < p.size)=false:=decide_eq_false (by omega)
 obtain ⟨i0,hi0,hz0,hz1,hz2⟩:=info_parts pkt_info
 have HI:=Lib.hid hi0
 have HZ0:=Lib.hid hz0
 have HZ1:=Lib.hid hz1
 have HZ2:=Lib.hid hz2
 have HMz:Hid (W.heap.size≠m):=Lib.hid (Ne.symm hb.old)
 have HBs:=Lib.hid hB
 have HBy:=Lib.hid (fun w (h:RM W m o B W.heap.size T cs v (Itm.cs p) s v w)=>h.bytes hf ho.sz)
 have K0:=Lib.hid (RM.start hb hk hr (Itm.cs p))
 have hx:(Itm.cs p)[1]? =some (.int .u64 (p.size:Int)):=rfl
 have hT:=Lib.hid hT
 have HR:=Lib.hid ho.room
 have z1:(s.room:Int) - ((sumQ s.l:Nat):Int)=((s.room - sumQ s.l:Nat):Int):=by omega
 have z2:IntKind.u64.wrap ((s.room - sumQ s.l:Nat):Int)=((s.room - sumQ s.l:Nat):Int):=by have:=ho.room;rw [IntKind.wrap_u64];omega
 clear hb hk hr ho hle c hi0 hz0 hz1 hz2 hB
 have EQ:Hid (s.addQ p=⟨s.l ++ [p],Pl.addS s.n p.size,s.room,s.dr,s.lost⟩):=Lib.hid rfl
 have EF:Hid ((s.l ++ [p]).flatMap Itm.cs=s.l.flatMap Itm.cs ++ Itm.cs p):=Lib.hid (by simp)
 have HOne:=Lib.hid (Itm.one p)
 unfold Pk.agg
 go_enter Try.func32,Try.ntmps32
 go_upto_region 1 with fail
 change Code.wp _ _ _ _ (W.alloc (.cells (Itm.cs p).toArray 65))
 generalize W.alloc (.cells (Itm.cs p).toArray 65)=w0 at *
 have hu:=Try.underlying65
 have hi:=pk_inf p
 generalize hcs:Itm.cs p=c at *
 have HCs:=Lib.hid hcs
 clear hcs
 have c1:=K0.out.box.cell (i:=1) (v:=.int .u64 (p.size:Int)) (by simpa using hx)
 have k0:=K0.out.cells.1
 have k2:=K0.out.cells.2.2.1
 have R1:=rmo_box (W:=W) (m:=m) (o:=o) (B:=B) (z:=W.heap.size) (T:=T) (cs:=cs) (v:=v) hx
 have HB0:Hid (∀n,Calls Try.prog 33 #[.pointer (some ⟨m,o,none⟩)] (w0.drewN n) fun e w'=>e=.returned (.int .u64 ((sumQ s.l:Nat):Int))∧w'=w0.drewN n):=Lib.hid (fun n=>(HBy.out _ (K0.out.to ((show Drawn w0 (w0.drewN n) from ⟨n,rfl⟩).below _))).mono fun _ _ k=>⟨k.1,k.2.symm⟩)
 clear HBy hx
 generalize p.size=x at *
 generalize s.room - sumQ s.l=q at *
 generalize sumQ s.l=sm at *
 go_wp2_with fail
 go_quiet (first | (go_at_call 33;exact Calls.quiet_of_same (HB0.out _)))
 have HD:=Lib.hid (show Drawn w0 (w0.drewN nq) from ⟨nq,rfl⟩)
 have K1:=Lib.hid (K0.out.to (HD.out.below _))
 have HBs:Hid (B≤(w0.drewN nq).drew.heap.size):=Lib.hid (Nat.le_trans HBs.out K1.out.fr.size)
 generalize w0.drewN nq=w1 at *
 clear K0 HB0 HD k0 k2 c1 R1 d z1 z2
 obtain ⟨v0,v1,v2,v3,v4,v5,v6,rfl⟩:∃v0 v1 v2 v3 v4 v5 v6,c=[v0,v1,v2,v3,v4,v5,v6]:=⟨_,_,_,_,_,_,_,HCs.out.symm⟩
 go_wp2_with fail
 have M1:=Lib.hid K1.out.drew
 clear K1
 refine wp_region_held_drew (S:=(fun w'=>Hid (Blk w' W.heap.size 65 [v0,v1,v2,v3,v4,v5,v6].toArray))) (by kernel_rfl) (Lib.hid M1.out.box) (fun hHeld=>?_)
 generalize w1.drew=wd at *
 simp only [List.size_toArray,List.length_cons,List.length_nil,Nat.reduceAdd,Array.replicate_succ,Array.replicate_zero,List.push_toArray,List.nil_append,List.cons_append]
 refine' wpAnyH_take (i:=5) (oi:=⟨some 38,_,_,_,_,_⟩) (v:=_) rfl (by kernel_rfl) (by kernel_rfl) (by kernel_rfl) (fun _ _ _ h=>h) (yieldsIf_load_mid (by rfl) _ _ rfl _ _ rfl _ _ ?hS9 hu rfl hi) (by assumption) ?r9
 case hS9=>intro w hSw;exact hSw.out.range0
 simp only [Act.put,List.setIfInBounds_toArray,List.set_cons_zero,List.set_cons_succ]
 refine wpAnyH_take (i:=0) (oi:=⟨some 33,_,_,_,_,_⟩) (v:=?v10) rfl (by kernel_rfl) (by kernel_rfl) (by kernel_rfl) (fun _ _ _ h=>h) (Or.inl ⟨by rfl,?y10⟩) (by assumption) ?r10
 case y10=>intro w hSw;clear hSw;go_simp;(try with_reducible rfl)
 simp only [Act.put,List.setIfInBounds_toArray,List.set_cons_zero,List.set_cons_succ]
 refine wpAnyH_take (i:=1) (oi:=⟨some 34,_,_,_,_,_⟩) (v:=?v11) rfl (by kernel_rfl) (by kernel_rfl) (by kernel_rfl) (fun _ _ _ h=>h) (Or.inl ⟨by rfl,?y11⟩) (by assumption) ?r11
 case y11=>intro w hSw;clear hSw;go_simp;(try with_reducible rfl)
 simp only [Act.put,List.setIfInBounds_toArray,List.set_cons_zero,List.set_cons_succ]
 refine wpAnyH_take (i:=2) (oi:=⟨some 35,_,_,_,_,_⟩) (v:=?v12) rfl (by kernel_rfl) (by kernel_rfl) (by kernel_rfl) (fun _ _ _ h=>h) (Or.inl ⟨by rfl,?y12⟩) (by assumption) ?r12
 case y12=>intro w hSw;clear hSw;go_simp;(try with_reducible rfl)
 simp only [Act.put,List.setIfInBounds_toArray,List.set_cons_zero,List.set_cons_succ]
 refine wpAnyH_take (i:=3) (oi:=⟨some 36,_,_,_,_,_⟩) (v:=?v13) rfl (by kernel_rfl) (by kernel_rfl) (by kernel_rfl) (fun _ _ _ h=>h) (Or.inl ⟨by rfl,?y13⟩) (by assumption) ?r13
 case y13=>intro w hSw;clear hSw;go_simp;(try with_reducible rfl)
 simp only [Act.put,List.setIfInBounds_toArray,List.set_cons_zero,List.set_cons_succ]
 refine wpAnyH_ready (rs:=[4,6]) (by kernel_rfl) (by simp) ?_
 refine AllReadyH.cons (o:=⟨some 37,_,_,_,_,_⟩) rfl (fun K hK=>?k14) ?m14
 case' k14=>
  first | have c3:=M3.out.cells.2.1 | have c3:=M1.out.cells.2.1
  go_simp
  refine hK.out _ _ hHeld (fun hHeld=>?_)
  clear hK
  try simp only [List.setIfInBounds_toArray,List.set_cons_zero,List.set_cons_succ]
  refine wpAnyH_ready (rs:=[6]) (by kernel_rfl) (by simp) ?_
  refine AllReadyH.cons (o:=⟨some 39,_,_,_,_,_⟩) rfl (fun K hK=>?_) AllReadyH.nil
  have M3:=Lib.hid (M1.out.to (al_be wd (.cells #[v0,v1,v2,v3,v4,v5,v6] 65)))
  have HNw:=Lib.hid (Blk.new wd 65 #[v0,v1,v2,v3,v4,v5,v6])
  go_simp
  refine hK.out _ _ (Lib.hid M3.out.box) (fun hHeld=>?_)
  clear hK
  try simp only [List.setIfInBounds_toArray,List.set_cons_zero,List.set_cons_succ]
  refine wpAnyH_ready (rs:=[7]) (by kernel_rfl) (by simp) ?_
  refine AllReadyH.cons (o:=⟨some 40,_,_,_,_,_⟩) rfl (fun K hK=>?_) AllReadyH.nil
  ((refine step_append_lies _ (by rfl) _ _ _ (by rfl) B 65 i0 (.agg #[.int .u64 0,.int .u64 0,.int .u64 0,.int .u64 0,.int .u64 0,.int .u64 0,.bool false]) 7 56 Try.underlying42 HI.out HZ0.out HZ1.out HZ2.out rfl (by decide) v s.l.length (s.l.flatMap Itm.cs) (by rfl) M3.out.own ⟨wd.heap.size,0,none⟩ 1 1 [v0,v1,v2,v3,v4,v5,v6] (by rfl) (by rfl) (World.news_of_block HNw.out) HOne.out (by decide) (by unfold maxLen;omega) (by omega) (Nat.le_trans HBs.out (by simp)) (wd.heap.size + 1) (by simp) ?_);intro g5 cap w5 hown hgrow hat hltg)
  have HOn:=Lib.hid hown
  have HGr:=Lib.hid hgrow
  have HAt:=Lib.hid hat
  clear hown hgrow hat
  have G5:=Lib.hid (M3.out.grown hT.out HGr.out)
  have hHeld5:=Lib.hid G5.out.2.2
  refine hK.out _ _ hHeld5 (fun hHeld=>?_)
  clear hK
  try simp only [List.setIfInBounds_toArray,List.set_cons_zero,List.set_cons_succ]
  refine wpAnyH_take (i:=8) (oi:=⟨some 41,_,_,_,_,_⟩) (v:=?v15) rfl (by kernel_rfl) (by kernel_rfl) (by kernel_rfl) (fun _ _ _ h=>h) (Or.inl ⟨by rfl,?y15⟩) (by assumption) ?r15
  case y15=>intro w hSw;clear hSw;go_simp;(try with_reducible rfl)
  simp only [Act.put,List.setIfInBounds_toArray,List.set_cons_zero,List.set_cons_succ]
  refine wpAnyH_take (i:=9) (oi:=⟨some 42,_,_,_,_,_⟩) (v:=?v16) rfl (by kernel_rfl) (by kernel_rfl) (by kernel_rfl) (fun _ _ _ h=>h) (Or.inl ⟨by rfl,?y16⟩) (by assumption) ?r16
  case y16=>intro w hSw;clear hSw;go_simp;(try with_reducible rfl)
  simp only [Act.put,List.setIfInBounds_toArray,List.set_cons_zero,List.set_cons_succ]
  refine wpAnyH_ready (rs:=[10]) (by kernel_rfl) (by simp) ?_
  refine AllReadyH.cons (o:=⟨none,_,_,_,_,_⟩) rfl (fun K hK=>?_) AllReadyH.nil
  have c3:w5.cell? ⟨m,o + 1,none⟩=some v:=by obtain ⟨cs5,a1,a2,_⟩:=G5.out.1;exact a1.cell a2.v
  have y3:w5.frozen? ⟨m,o + 1,none⟩=false:=by obtain ⟨cs5,a1,a2,_⟩:=G5.out.1;exact a1.free _
  have hne10:W.heap.size≠m:=HMz.out
  go_simp
  refine hK.out _ _ (Lib.hid (hHeld5.out.set_other _ _ hne10)) (fun hHeld=>?_)
  clear hK
  try simp only [List.setIfInBounds_toArray,List.set_cons_zero,List.set_cons_succ]
  refine wpAnyH_done (by kernel_rfl) ?_ _
  skip
 case' m14=>
  refine AllReadyH.cons (o:=⟨some 39,_,_,_,_,_⟩) rfl (fun K hK=>?_) AllReadyH.nil
  have M3:=Lib.hid (M1.out.to (al_be wd (.cells #[v0,v1,v2,v3,v4,v5,v6] 65)))
  have HNw:=Lib.hid (Blk.new wd 65 #[v0,v1,v2,v3,v4,v5,v6])
  go_simp
  refine hK.out _ _ (Lib.hid M3.out.box) (fun hHeld=>?_)
  clear hK
  try simp only [List.setIfInBounds_toArray,List.set_cons_zero,List.set_cons_succ]
  refine wpAnyH_ready (rs:=[4]) (by kernel_rfl) (by simp) ?_
  refine AllReadyH.cons (o:=⟨some 37,_,_,_,_,_⟩) rfl (fun K hK=>?_) AllReadyH.nil
  first | have c3:=M3.out.cells.2.1 | have c3:=M1.out.cells.2.1
  go_simp
  refine hK.out _ _ hHeld (fun hHeld=>?_)
  clear hK
  try simp only [List.setIfInBounds_toArray,List.set_cons_zero,List.set_cons_succ]
  refine wpAnyH_ready (rs:=[7]) (by kernel_rfl) (by simp) ?_
  refine AllReadyH.cons (o:=⟨some 40,_,_,_,_,_⟩) rfl (fun K hK=>?_) AllReadyH.nil
  ((refine step_append_lies _ (by rfl) _ _ _ (by rfl) B 65 i0 (.agg #[.int .u64 0,.int .u64 0,.int .u64 0,.int .u64 0,.int .u64 0,.int .u64 0,.bool false]) 7 56 Try.underlying42 HI.out HZ0.out HZ1.out HZ2.out rfl (by decide) v s.l.length (s.l.flatMap Itm.cs) (by rfl) M3.out.own ⟨wd.heap.size,0,none⟩ 1 1 [v0,v1,v2,v3,v4,v5,v6] (by rfl) (by rfl) (World.news_of_block HNw.out) HOne.out (by decide) (by unfold maxLen;omega) (by omega) (Nat.le_trans HBs.out (by simp)) (wd.heap.size + 1) (by simp) ?_);intro g5 cap w5 hown hgrow hat hltg)
  have HOn:=Lib.hid hown
  have HGr:=Lib.hid hgrow
  have HAt:=Lib.hid hat
  clear hown hgrow hat
  have G5:=Lib.hid (M3.out.grown hT.out HGr.out)
  have hHeld5:=Lib.hid G5.out.2.2
  refine hK.out _ _ hHeld5 (fun hHeld=>?_)
  clear hK
  try simp only [List.setIfInBounds_toArray,List.set_cons_zero,List.set_cons_succ]
  refine wpAnyH_take (i:=8) (oi:=⟨some 41,_,_,_,_,_⟩) (v:=?v17) rfl (by kernel_rfl) (by kernel_rfl) (by kernel_rfl) (fun _ _ _ h=>h) (Or.inl ⟨by rfl,?y17⟩) (by assumption) ?r17
  case y17=>intro w hSw;clear hSw;go_simp;(try with_reducible rfl)
  simp only [Act.put,List.setIfInBounds_toArray,List.set_cons_zero,List.set_cons_succ]
  refine wpAnyH_take (i:=9) (oi:=⟨some 42,_,_,_,_,_⟩) (v:=?v18) rfl (by kernel_rfl) (by kernel_rfl) (by kernel_rfl) (fun _ _ _ h=>h) (Or.inl ⟨by rfl,?y18⟩) (by assumption) ?r18
  case y18=>intro w hSw;clear hSw;go_simp;(try with_reducible rfl)
  simp only [Act.put,List.setIfInBounds_toArray,List.set_cons_zero,List.set_cons_succ]
  refine wpAnyH_ready (rs:=[10]) (by kernel_rfl) (by simp) ?_
  refine AllReadyH.cons (o:=⟨none,_,_,_,_,_⟩) rfl (fun K hK=>?_) AllReadyH.nil
  have c3:w5.cell? ⟨m,o + 1,none⟩=some v:=by obtain ⟨cs5,a1,a2,_⟩:=G5.out.1;exact a1.cell a2.v
  have y3:w5.frozen? ⟨m,o + 1,none⟩=false:=by obtain ⟨cs5,a1,a2,_⟩:=G5.out.1;exact a1.free _
  have hne10:W.heap.size≠m:=HMz.out
  go_simp
  refine hK.out _ _ (Lib.hid (hHeld5.out.set_other _ _ hne10)) (fun hHeld=>?_)
  clear hK
  try simp only [List.setIfInBounds_toArray,List.set_cons_zero,List.set_cons_succ]
  refine wpAnyH_done (by kernel_rfl) ?_ _
  skip
 all_goals
  have HH:Hid (W.heap.size < wd.heap.size + 1):=Lib.hid (Nat.lt_succ_of_le M1.out.fr.size)
  have HF:Hid (ROwn B w5 (.slice (some ⟨g5,0,none⟩) (s.l ++ [p]).length cap) (s.l ++ [p])):=Lib.hid (by
   unfold ROwn;rw [EF.out,List.length_append];exact HOn.out)
  have HP:=Lib.hid (M3.out.appended (r:=.bool true) (n':=Pl.addS s.n x) hT.out HGr.out HF.out HAt.out HH.out)
  go_wp2_with fail
  go_ret
  rw [EQ.out]
  have e:(s.l ++ [p]).length=s.l.length + 1:=by simp
  rw [e] at HP
  exact HP.out
end Go.Proofs.Ytaffjfajjpgjpaa

set_option linter.unusedVariables false
namespace Go.Proofs.Ytaffjfajjpgjpaa
open Go.RowKit
set_option maxRecDepth 100000 in
theorem rq_Put (m o B:Nat) (T:TypeId) (cs:Array Value) (v:Value) (p:Pk) (s:QK) (W:World) (hT:T≠65) (hB:B≤W.heap.size) (hb:Blk W m T cs) (hk:RCells cs o s v) (hr:ROwn B W v s.l) (ho:s.ok) (hf:s.l.length≤5000) (hp:p.size≤18446744073709551615) (hn:sumQ s.l=s.n) (hle:s.n≤s.room):
  Calls Try.prog 32 #[.pointer (some ⟨m,o,none⟩),p.agg] W (RQPost W m o B T cs v (.bool (s.putB p)) (s.putQ p)):=by
 unfold QK.putB QK.putQ Pl.subS
 by_cases c:p.size≤s.room - s.n
 ·rw [if_pos c,decide_eq_true c];exact rq_Put_yes m o B T cs v p s W hT hB hb hk hr ho hf hp (by omega) (by omega)
 ·rw [if_neg c,decide_eq_false c];exact rq_Put_no m o B T cs v p s W hT hb hk hr ho hf hp (by omega) (by omega)
set_option maxRecDepth 100000 in
theorem RM.setv {W w:World} {m o B z:Nat} {T:TypeId} {cs:Array Value} {v v1 v':Value} {c:List Value} {s:QK} {l':List Pk} (n':Nat) (hT:T≠65) (h:RM W m o B z T cs v c s v1 w) (hown:ROwn B w v' l') (hnew:W.heap.size≤vb v' m) (hne:vb v' m≠z):
  RM W m o B z T cs v c ⟨l',n',s.room,s.dr,s.lost⟩ v' (w.setCell ⟨m,o + 1,none⟩ v'):=by
 have hm:=h.mne hT
 obtain ⟨cs',h1,h2,h3,h4⟩:=h.at_
 exact ⟨⟨_,h1.set (o + 1) v',h2.setv v' l' n',by simpa using h3,fun j hj=>by rw [Array.getElem?_setIfInBounds_ne (by omega)];exact h4 j hj⟩,hown.blk (fun g ds _ hb=>hb.set_other _ _ (hm g ds hb)),.inr hnew,hne,h.fr.set (.inl (by simp)) _ _,h.box.set_other _ _ (hm _ _ h.box),h.lo,h.mz⟩
set_option maxRecDepth 100000 in
theorem RQPost.boxed {W w0 w1:World} {m o B:Nat} {T:TypeId} {cs:Array Value} {v r r2:Value} {s:QK} {e:Ending} {ob:Obj} (hw:W.alloc ob=w0) (hm:m < W.heap.size) (hv:vb v m < W.heap.size) (h:RQPost w0 m o B T cs v r s e w1) (ds:List Value):RQPost W m o B T cs v r2 s (.returned r2) (w1.setCells W.heap.size 0 ds):=by
 subst hw
 obtain ⟨_,⟨v',cs',h1,h2,h3,h4,h5,h6⟩,f⟩:=h
 have e0:(W.alloc ob).heap.size=W.heap.size + 1:=by simp
 have fz:Fr w1 (w1.setCells W.heap.size 0 ds) [W.heap.size]:=Fr.sets (.inl (by simp)) ds 0 w1 (Fr.refl _ _)
 refine ⟨rfl,⟨v',cs',h1.fr fz (by simp;omega),h2,h3,h4,h5.fr (m:=m) fz (by simp;omega),by omega⟩,?_⟩
 have f0:Fr W w1 [m,vb v m]:=((Fr.refl W [m,vb v m]).alloc ob).trans f (fun x hx=>.inl hx)
 exact f0.trans fz (fun x hx=>.inr (by simp at hx;omega))
set_option maxRecDepth 100000 in
theorem rown_weak {B B':Nat} {w:World} {v:Value} {l:List Pk} (h:B≤B') (k:w.ownsRow B' 65 7 v l.length (l.flatMap Itm.cs)):ROwn B w v l:=by
 obtain ⟨hl,k⟩:=k
 refine ⟨hl,?_⟩
 rcases k with e | ⟨g,cap,cur,e,hb,r⟩
 ·exact .inl e
 ·exact .inr ⟨g,cap,cur,e,Nat.le_trans h hb,r⟩
set_option maxRecDepth 100000 in
theorem own_some {B n a b:Nat} {w:World} {v':Value} {xs:List Value} (h:w.ownsRow B 65 7 v' n xs) (hat:v'.ownBlock=some a∨v'.ownBlock=some b):∃g cap,v'=.slice (some ⟨g,0,none⟩) n cap∧(g=a∨g=b):=by
 rcases h.2 with ⟨rfl,_⟩ | ⟨g,cap,cur,rfl,_⟩
 ·rcases hat with e | e <;> cases e
 ·exact ⟨g,cap,rfl,hat.imp Option.some.inj Option.some.inj⟩
set_option maxRecDepth 100000 in
theorem rown_empty {B:Nat} (w:World) (hB:B≤w.heap.size):(w.alloc (.cells #[] 65)).ownsRow B 65 7 (.slice (some ⟨w.heap.size,0,none⟩) 0 0) 0 []:=
 ⟨rfl,.inr ⟨w.heap.size,0,#[],rfl,hB,heap_alloc_new w _,Nat.le_refl _,by decide,rfl,rfl⟩⟩
set_option maxRecDepth 100000 in
theorem its_rest {w:World} {g off:Nat} {x:Pk} {t:List Pk} (h:Its w (some ⟨g,off,none⟩) (x :: t)):∀j u,(t.flatMap (Itm.cs (α:=Pk)))[j]? =some u→w.cell? ((⟨g,off + 7,none⟩:Addr).add j)=some u:=fun j u hu=>by
 obtain ⟨ad,e,hc⟩:=h.cells (by simp)
 injection e with e
 subst e
 have:=hc (7 + j) u (by
  rw [List.flatMap_cons,List.getElem?_append_right (by rw [Itm.len];show 7≤7 + j;omega),Itm.len]
  show (t.flatMap (Itm.cs (α:=Pk)))[7 + j - 7]? =some u
  rw [show 7 + j - 7=j by omega];exact hu)
 rw [Go.WideShapes.add_plain] at this ⊢
 rw [show off + 7 + j=off + (7 + j) by omega];exact this
set_option maxRecDepth 100000 in
set_option maxHeartbeats 1000000 in
theorem rq_Shift_cons (m o B:Nat) (T:TypeId) (cs:Array Value) (v:Value) (s:QK) (x:Pk) (t:List Pk) (W:World) (hT:T≠65) (hB:B≤W.heap.size) (hb:Blk W m T cs) (hk:RCells cs o s v) (hr:ROwn B W v s.l) (hf:s.l.length≤5000) (he:s.l=x :: t) (n':Nat):
  Calls Try.prog 54 #[.pointer (some ⟨m,o,none⟩)] W (RQPost W m o B T cs v (.tuple #[x.agg,.bool true]) ⟨t,n',s.room,s.dr,s.lost⟩):=by
 obtain ⟨ao,cap,hv,hc1,hc2,hi,hg⟩:=hr.form
 obtain ⟨g,rfl,hvb⟩:=hg (by rw [he];simp)
 rw [he] at hv hc1 hi hf
 have hvo:v=.slice (some ⟨g,0,none⟩) (t.length + 1) cap:=hv
 obtain ⟨i0,hi0,hz0,hz1,hz2⟩:=info_parts pkt_info
 have HI:=Lib.hid hi0
 have HZ0:=Lib.hid hz0
 have HZ1:=Lib.hid hz1
 have HZ2:=Lib.hid hz2
 have k1:=(hb.alloc (.cells #[.int .u64 0,.int .u64 0,.int .u64 0,.int .u64 0,.int .u64 0,.int .u64 0,.bool false] 65)).cell hk.v
 rw [hvo] at k1
 have HR:=Lib.hid (ROwn.keep hr (al_be W (.cells #[.int .u64 0,.int .u64 0,.int .u64 0,.int .u64 0,.int .u64 0,.int .u64 0,.bool false] 65)))
 have HIt:=Lib.hid (hi.keep (al_be W (.cells #[.int .u64 0,.int .u64 0,.int .u64 0,.int .u64 0,.int .u64 0,.int .u64 0,.bool false] 65)))
 have Z0:=Lib.hid (Blk.new W 65 #[.int .u64 0,.int .u64 0,.int .u64 0,.int .u64 0,.int .u64 0,.int .u64 0,.bool false])
 have Hb0:=Lib.hid (hb.alloc (.cells #[.int .u64 0,.int .u64 0,.int .u64 0,.int .u64 0,.int .u64 0,.int .u64 0,.bool false] 65))
 have Hk:=Lib.hid hk
 have Hm:=Lib.hid hb.lt
 have Hvm:=Lib.hid (hr.lt hb.lt)
 have HT:=Lib.hid hT
 have HBs:=Lib.hid (Nat.le_trans hB (al_be W (.cells #[.int .u64 0,.int .u64 0,.int .u64 0,.int .u64 0,.int .u64 0,.int .u64 0,.bool false] 65)).size)
 have HF:Hid (t.length≤5000):=Lib.hid (by rw [List.length_cons] at hf;omega)
 have HE:=Lib.hid he
 have Hvo:=Lib.hid hvo
 rw [List.length_cons] at hc1
 clear hb hk hr hi he hv hvb hi0 hz0 hz1 hz2 hB hT hf hvo
 go_enter Try.func54,Try.ntmps54
 go_upto_region 1 with fail
 generalize hw0:W.alloc (.cells #[.int .u64 0,.int .u64 0,.int .u64 0,.int .u64 0,.int .u64 0,.int .u64 0,.bool false] 65)=w0 at *
 have HW0:=Lib.hid hw0
 clear hw0
 obtain ⟨b',off,e1,_,hc⟩:=its_pk HIt.out (by simp)
 obtain ⟨x0,x1,x2,x3,x4,x5,x6⟩:=hc 0 (by simp) x rfl
 injection e1 with e1 e2
 subst e1 e2
 rw [Nat.zero_mul] at x0 x1 x2 x3 x4 x5 x6
 clear hc
 have hc2':cap≤9223372036854775807:=hc2
 go_upto_region 4 with fail
 have M2:=Lib.hid (RM.start Hb0.out Hk.out HR.out (Itm.cs x))
 change Code.wp _ _ _ _ (w0.alloc (.cells (Itm.cs x).toArray 65))
 have HIt2:=Lib.hid (HIt.out.keep (al_be w0 (.cells (Itm.cs x).toArray 65)))
 have Hz:Hid (w0.heap.size < (w0.alloc (.cells (Itm.cs x).toArray 65)).heap.size):=Lib.hid (by simp)
 generalize hcx:Itm.cs x=cx at *
 have Hcx:=Lib.hid hcx
 clear hcx
 generalize (w0.alloc (.cells cx.toArray 65))=w2 at *
 clear x0 x1 x2 x3 x4 x5 x6 k1
 have c2:=(M2.out.to (al_be w2 (.cells #[] 65))).cells.2.1
 rw [Hvo.out] at c2
 have HOE:=Lib.hid (rown_empty (B:=w0.heap.size) w2 (Nat.le_of_lt Hz.out))
 have HBa:Hid (w0.heap.size≤(w2.alloc (.cells #[] 65)).heap.size):=Lib.hid (Nat.le_trans (Nat.le_of_lt Hz.out) (al_be w2 (.cells #[] 65)).size)
 have HIt3:=Lib.hid (HIt2.out.keep (al_be w2 (.cells #[] 65)))
 have l1:(1:Int)≤((t.length + 1:Nat):Int):=by omega
 have e1:((t.length:Int) + 1) - 1=(t.length:Int):=by omega
 obtain rfl:=Hcx.out
 by_cases hcap:cap=1
 ·subst hcap
  have ht:t=[]:=List.eq_nil_of_length_eq_zero (by omega)
  subst ht
  have M3:=Lib.hid (M2.out.to (al_be w2 (.cells #[] 65)))
  have f2:=M3.out.cells.2.2.2.2 (o + 1)
  go_upto_region 5 with fail
  have M5:=Lib.hid (M3.out.setv (v':=.slice (some ⟨w2.heap.size,0,none⟩) 0 0) (l':=[]) n' HT.out (rown_weak (Nat.le_trans HBs.out (Nat.le_refl _)) (rown_empty (B:=w0.heap.size) w2 (Nat.le_of_lt Hz.out))) (Nat.le_of_lt Hz.out) (Nat.ne_of_gt Hz.out))
  have P5:RQPost w0 m o B T cs v (.tuple #[]) ⟨[],n',s.room,s.dr,s.lost⟩ (.returned (.tuple #[])) ((w2.alloc (.cells #[] 65)).setCell ⟨m,o + 1,none⟩ (.slice (some ⟨w2.heap.size,0,none⟩) 0 0)):=M5.out.post
  have BX:=Lib.hid (show Blk ((w2.alloc (.cells #[] 65)).setCell ⟨m,o + 1,none⟩ (.slice (some ⟨w2.heap.size,0,none⟩) 0 0)) w0.heap.size 65 #[.int .u64 (x.n:Int),.int .u64 (x.size:Int),.int .u64 (x.sent:Int),.int .u64 (x.first:Int),.int .u64 (x.deliv:Int),.int .u64 (x.at_:Int),.bool x.lim] from M5.out.box)
  have BZ:=Lib.hid (Z0.out.fr M5.out.fr (by have:=Hm.out;have:=Hvm.out;simp;omega))
  clear M5
  generalize ((w2.alloc (.cells #[] 65)).setCell ⟨m,o + 1,none⟩ (.slice (some ⟨w2.heap.size,0,none⟩) 0 0))=w5 at *
  have y0:=BX.out.cell (i:=0) (v:=.int .u64 (x.n:Int)) rfl
  have y1:=BX.out.cell (i:=1) (v:=.int .u64 (x.size:Int)) rfl
  have y2:=BX.out.cell (i:=2) (v:=.int .u64 (x.sent:Int)) rfl
  have y3:=BX.out.cell (i:=3) (v:=.int .u64 (x.first:Int)) rfl
  have y4:=BX.out.cell (i:=4) (v:=.int .u64 (x.deliv:Int)) rfl
  have y5:=BX.out.cell (i:=5) (v:=.int .u64 (x.at_:Int)) rfl
  have y6:=BX.out.cell (i:=6) (v:=.bool x.lim) rfl
  have r0:=BZ.out.cell (i:=0) (v:=.int .u64 0) rfl
  have f0:=BZ.out.free 0
  have r1:=BZ.out.cell (i:=1) (v:=.int .u64 0) rfl
  have f1:=BZ.out.free 1
  have r2:=BZ.out.cell (i:=2) (v:=.int .u64 0) rfl
  have f2:=BZ.out.free 2
  have r3:=BZ.out.cell (i:=3) (v:=.int .u64 0) rfl
  have f3:=BZ.out.free 3
  have r4:=BZ.out.cell (i:=4) (v:=.int .u64 0) rfl
  have f4:=BZ.out.free 4
  have r5:=BZ.out.cell (i:=5) (v:=.int .u64 0) rfl
  have f5:=BZ.out.free 5
  have r6:=BZ.out.cell (i:=6) (v:=.bool false) rfl
  have f6:=BZ.out.free 6
  go_wp2_with fail
  have F1:=Blk.whole (Itm.cs x) BZ.out rfl
  exact bodyPost_ret (results_cell_tmp rfl _ _ W.heap.size 65 _ _ rfl F1 Try.underlying65 rfl (by kernel_rfl)) rfl (RQPost.boxed HW0.out Hm.out Hvm.out P5 (Itm.cs x))
 ·have HNw:=Lib.hid (its_rest HIt3.out)
  rw [Nat.zero_add] at HNw
  go_upto_region 5 with (at_builtin;(refine wpList_append_own_at _ rfl _ _ 42 (by rfl) w0.heap.size 65 i0 (.agg #[.int .u64 0,.int .u64 0,.int .u64 0,.int .u64 0,.int .u64 0,.int .u64 0,.bool false]) 7 56 Try.underlying42 HI.out HZ0.out HZ1.out HZ2.out rfl (by decide) (.slice (some ⟨w2.heap.size,0,none⟩) 0 0) 0 [] (by rfl) HOE.out ⟨g,7,none⟩ t.length _ (t.flatMap Itm.cs) (by rfl) (icells_len t) HNw.out (one_items _) (by unfold maxLen;have:=HF.out;omega) (by have:=HF.out;omega) HBa.out ?_);intro v' w4 hown hgr hnil hat;rw [Nat.zero_add] at hown;obtain ⟨g6,cap6,rfl,hg6⟩:=own_some (a:=w2.heap.size) hown hat;have HOw:=Lib.hid hown;have HG6:=Lib.hid hg6;have M4:=Lib.hid (M2.out.to (bel_gr (al_be w2 (.cells #[] 65)) hgr (by simp) (Nat.le_refl _)));have c4:=M4.out.cells.2.1;have f4:=M4.out.cells.2.2.2.2 (o + 1);clear hown hgr hnil hat hg6)
  have hw:ROwn B w4 (.slice (some ⟨g6,0,none⟩) t.length cap6) t:=rown_weak (Nat.le_trans HBs.out (Nat.le_refl _)) (by have:=HOw.out;simpa using this)
  have hvb:w2.heap.size≤vb (.slice (some ⟨g6,0,none⟩) t.length cap6) m:=by
   show w2.heap.size≤g6
   rcases HG6.out with e | e
   ·omega
   ·rw [e];simp
  have M5:=Lib.hid (M4.out.setv n' HT.out hw (by have:=Hz.out;omega) (by have:=Hz.out;omega))
  clear c4 f4 hvb hw M4 HOw HG6
  have P5:RQPost w0 m o B T cs v (.tuple #[]) ⟨t,n',s.room,s.dr,s.lost⟩ (.returned (.tuple #[])) (w4.setCell ⟨m,o + 1,none⟩ (.slice (some ⟨g6,0,none⟩) t.length cap6)):=M5.out.post
  have BX:=Lib.hid (show Blk (w4.setCell ⟨m,o + 1,none⟩ (.slice (some ⟨g6,0,none⟩) t.length cap6)) w0.heap.size 65 #[.int .u64 (x.n:Int),.int .u64 (x.size:Int),.int .u64 (x.sent:Int),.int .u64 (x.first:Int),.int .u64 (x.deliv:Int),.int .u64 (x.at_:Int),.bool x.lim] from M5.out.box)
  have BZ:=Lib.hid (Z0.out.fr M5.out.fr (by have:=Hm.out;have:=Hvm.out;simp;omega))
  clear M5
  generalize (w4.setCell ⟨m,o + 1,none⟩ (.slice (some ⟨g6,0,none⟩) t.length cap6))=w5 at *
  have y0:=BX.out.cell (i:=0) (v:=.int .u64 (x.n:Int)) rfl
  have y1:=BX.out.cell (i:=1) (v:=.int .u64 (x.size:Int)) rfl
  have y2:=BX.out.cell (i:=2) (v:=.int .u64 (x.sent:Int)) rfl
  have y3:=BX.out.cell (i:=3) (v:=.int .u64 (x.first:Int)) rfl
  have y4:=BX.out.cell (i:=4) (v:=.int .u64 (x.deliv:Int)) rfl
  have y5:=BX.out.cell (i:=5) (v:=.int .u64 (x.at_:Int)) rfl
  have y6:=BX.out.cell (i:=6) (v:=.bool x.lim) rfl
  have r0:=BZ.out.cell (i:=0) (v:=.int .u64 0) rfl
  have f0:=BZ.out.free 0
  have r1:=BZ.out.cell (i:=1) (v:=.int .u64 0) rfl
  have f1:=BZ.out.free 1
  have r2:=BZ.out.cell (i:=2) (v:=.int .u64 0) rfl
  have f2:=BZ.out.free 2
  have r3:=BZ.out.cell (i:=3) (v:=.int .u64 0) rfl
  have f3:=BZ.out.free 3
  have r4:=BZ.out.cell (i:=4) (v:=.int .u64 0) rfl
  have f4:=BZ.out.free 4
  have r5:=BZ.out.cell (i:=5) (v:=.int .u64 0) rfl
  have f5:=BZ.out.free 5
  have r6:=BZ.out.cell (i:=6) (v:=.bool false) rfl
  have f6:=BZ.out.free 6
  go_wp2_with fail
  have F1:=Blk.whole (Itm.cs x) BZ.out rfl
  exact bodyPost_ret (results_cell_tmp rfl _ _ W.heap.size 65 _ _ rfl F1 Try.underlying65 rfl (by kernel_rfl)) rfl (RQPost.boxed HW0.out Hm.out Hvm.out P5 (Itm.cs x))
end Go.Proofs.Ytaffjfajjpgjpaa

set_option linter.unusedVariables false
namespace Go.Proofs.Ytaffjfajjpgjpaa
open Go.RowKit
set_option maxRecDepth 100000 in
theorem jdue_info:(Try.prog.info? 95).map (fun i=>(i.zero,i.size,i.bytes))=some (some (.agg #[.int .u64 0,.int .u64 0,.int .u64 0,.int .u64 0,.int .u64 0,.int .u64 0,.bool false,.int .u64 0]),8,64):=by kernel_rfl
set_option maxRecDepth 100000 in
theorem jfr_gr {w w':World} {row:Option Nat} {L:List Nat} (h:w.grownBy w' row) (hr:∀b,row=some b→b∈L):Fr w w' L:=
 ⟨h.os,h.tape,h.output,h.size,fun k hk hn=>h.block k hk (fun e=>hn (hr k e.symm))⟩
structure JCells (cs:Array Value) (o:Nat) (s:BxS) (v:Value):Prop where
 d:cs[o]? =some (.int .u64 (s.delay:Int))
 j:cs[o + 1]? =some (.int .u64 (s.jit:Int))
 v:cs[o + 2]? =some v
 t:cs[o + 3]? =some (.int .u64 (s.last:Int))
set_option maxRecDepth 100000 in
theorem JCells.setv {cs:Array Value} {o:Nat} {s:BxS} {v:Value} (h:JCells cs o s v) (v':Value) (l:List Jp):JCells (cs.setIfInBounds (o + 2) v') o ⟨s.delay,s.jit,l,s.last⟩ v':=by
 have hv:=(Array.getElem?_eq_some_iff.1 h.v).1
 exact ⟨by rw [Array.getElem?_setIfInBounds_ne (by omega)];exact h.d,by rw [Array.getElem?_setIfInBounds_ne (by omega)];exact h.j,Array.getElem?_setIfInBounds_self_of_lt hv,by rw [Array.getElem?_setIfInBounds_ne (by omega)];exact h.t⟩
set_option maxRecDepth 100000 in
theorem JCells.sett {cs:Array Value} {o:Nat} {s:BxS} {v:Value} (h:JCells cs o s v) (t:Nat):JCells (cs.setIfInBounds (o + 3) (.int .u64 (t:Int))) o ⟨s.delay,s.jit,s.l,t⟩ v:=by
 have hv:=(Array.getElem?_eq_some_iff.1 h.t).1
 exact ⟨by rw [Array.getElem?_setIfInBounds_ne (by omega)];exact h.d,by rw [Array.getElem?_setIfInBounds_ne (by omega)];exact h.j,by rw [Array.getElem?_setIfInBounds_ne (by omega)];exact h.v,Array.getElem?_setIfInBounds_self_of_lt hv⟩
structure RJPost (W:World) (m o B:Nat) (T:TypeId) (cs:Array Value) (v:Value) (r:Value) (s:BxS) (e:Ending) (w:World):Prop where
 e:e=.returned r
 at_:∃v' cs',Blk w m T cs'∧JCells cs' o s v'∧cs'.size=cs.size∧(∀i,i < o∨o + 4≤i→cs'[i]? =cs[i]?)∧SOwn 95 B w v' s.l∧(sb v' m=sb v m∨W.heap.size≤sb v' m)
 fr:Fr W w [m,sb v m]
structure RJ (W:World) (m o B:Nat) (T:TypeId) (cs:Array Value) (v:Value) (s:BxS) (v':Value) (w:World):Prop where
 at_:∃cs',Blk w m T cs'∧JCells cs' o s v'∧cs'.size=cs.size∧(∀i,i < o∨o + 4≤i→cs'[i]? =cs[i]?)
 own:SOwn 95 B w v' s.l
 new:sb v' m=sb v m∨W.heap.size≤sb v' m
 fr:Fr W w [m,sb v m]
 mz:m < W.heap.size
set_option maxRecDepth 100000 in
theorem RJ.post {W w:World} {m o B:Nat} {T:TypeId} {cs:Array Value} {v v' r:Value} {s:BxS} (h:RJ W m o B T cs v s v' w):RJPost W m o B T cs v r s (.returned r) w:=
 ⟨rfl,by obtain ⟨cs',h1,h2,h3,h4⟩:=h.at_;exact ⟨v',cs',h1,h2,h3,h4,h.own,h.new⟩,h.fr⟩
set_option maxRecDepth 100000 in
theorem RJ.to {W w w':World} {m o B:Nat} {T:TypeId} {cs:Array Value} {v v':Value} {s:BxS} (h:RJ W m o B T cs v s v' w) (k:Below w.heap.size w w'):RJ W m o B T cs v s v' w':=
 ⟨by obtain ⟨cs',h1,h2⟩:=h.at_;exact ⟨cs',h1.keep k,h2⟩,h.own.keep k,h.new,h.fr.below k,h.mz⟩
set_option maxRecDepth 100000 in
theorem RJ.start {W:World} {m o B:Nat} {T:TypeId} {cs:Array Value} {v:Value} {s:BxS} (h:Blk W m T cs) (hk:JCells cs o s v) (ho:SOwn 95 B W v s.l):RJ W m o B T cs v s v W:=
 ⟨⟨cs,h,hk,rfl,fun _ _=>rfl⟩,ho,.inl rfl,Fr.refl _ _,h.lt⟩
set_option maxRecDepth 100000 in
theorem RJ.cells {W w:World} {m o B:Nat} {T:TypeId} {cs:Array Value} {v v':Value} {s:BxS} (h:RJ W m o B T cs v s v' w):w.cell? ⟨m,o,none⟩=some (.int .u64 (s.delay:Int))∧w.cell? ⟨m,o + 1,none⟩=some (.int .u64 (s.jit:Int))∧w.cell? ⟨m,o + 2,none⟩=some v'∧w.cell? ⟨m,o + 3,none⟩=some (.int .u64 (s.last:Int))∧∀i,w.frozen? ⟨m,i,none⟩=false:=by
 obtain ⟨cs',h1,h2,_⟩:=h.at_
 exact ⟨h1.cell h2.d,h1.cell h2.j,h1.cell h2.v,h1.cell h2.t,fun i=>h1.free i⟩
set_option maxRecDepth 100000 in
theorem RJ.mne {W w:World} {m o B:Nat} {T U:TypeId} {cs:Array Value} {v v':Value} {s:BxS} (h:RJ W m o B T cs v s v' w) (hT:T≠U):∀g ds,Blk w g U ds→g≠m:=fun g ds hb=>by
 obtain ⟨cs',h1,_⟩:=h.at_
 exact hb.ty h1 (Ne.symm hT)
set_option maxRecDepth 100000 in
theorem RJ.sett {W w:World} {m o B:Nat} {T:TypeId} {cs:Array Value} {v v':Value} {s:BxS} (hT:T≠95) (h:RJ W m o B T cs v s v' w) (t:Nat):RJ W m o B T cs v ⟨s.delay,s.jit,s.l,t⟩ v' (w.setCell ⟨m,o + 3,none⟩ (.int .u64 (t:Int))):=by
 have hm:=h.mne hT
 obtain ⟨cs',h1,h2,h3,h4⟩:=h.at_
 exact ⟨⟨_,h1.set _ _,h2.sett t,by simpa using h3,fun j hj=>by rw [Array.getElem?_setIfInBounds_ne (by omega)];exact h4 j hj⟩,h.own.blk (fun g ds _ hb=>hb.set_other _ _ (hm g ds hb)),h.new,h.fr.set (.inl (by simp)) _ _,h.mz⟩
set_option maxRecDepth 100000 in
theorem RJ.setv {W w:World} {m o B:Nat} {T:TypeId} {cs:Array Value} {v v1 v':Value} {s:BxS} {l':List Jp} (hT:T≠95) (h:RJ W m o B T cs v s v1 w) (hown:SOwn 95 B w v' l') (hnew:sb v' m=sb v m∨W.heap.size≤sb v' m):
  RJ W m o B T cs v ⟨s.delay,s.jit,l',s.last⟩ v' (w.setCell ⟨m,o + 2,none⟩ v'):=by
 have hm:=h.mne hT
 obtain ⟨cs',h1,h2,h3,h4⟩:=h.at_
 exact ⟨⟨_,h1.set (o + 2) v',h2.setv v' l',by simpa using h3,fun j hj=>by rw [Array.getElem?_setIfInBounds_ne (by omega)];exact h4 j hj⟩,hown.blk (fun g ds _ hb=>hb.set_other _ _ (hm g ds hb)),hnew,h.fr.set (.inl (by simp)) _ _,h.mz⟩
set_option maxRecDepth 100000 in
theorem RJ.grown {W wA w5:World} {m o B:Nat} {T:TypeId} {cs:Array Value} {v:Value} {s:BxS} (hT:T≠95) (h:RJ W m o B T cs v s v wA) (hg:wA.grownBy w5 v.ownBlock):
  (∃cs',Blk w5 m T cs'∧JCells cs' o s v∧cs'.size=cs.size∧(∀i,i < o∨o + 4≤i→cs'[i]? =cs[i]?))∧Fr W w5 [m,sb v m]:=by
 have hm:=h.mne hT
 have hv:∀g,v.ownBlock=some g→g≠m∧sb v m=g:=fun g e=>by
  obtain ⟨_,ds,hd⟩:=h.own.own g e
  exact ⟨hm _ _ hd,by unfold sb;rw [e];rfl⟩
 obtain ⟨cs',h1,h2⟩:=h.at_
 exact ⟨⟨cs',h1.grown hg (fun e=>(hv m e.symm).1 rfl),h2⟩,h.fr.trans (jfr_gr (L:=[m,sb v m]) hg (fun b e=>by rw [(hv b e).2];simp)) (fun x hx=>.inl hx)⟩
set_option maxRecDepth 100000 in
theorem RJ.appended {W wA w5:World} {m o B g cap H:Nat} {T:TypeId} {cs:Array Value} {v r:Value} {s:BxS} {l':List Jp} (hT:T≠95) (h:RJ W m o B T cs v s v wA) (hg:wA.grownBy w5 v.ownBlock)
  (hown:SOwn 95 B w5 (.slice (some ⟨g,0,none⟩) l'.length cap) l') (hat:v.ownBlock=some g∨g=H) (hH:W.heap.size≤H):
  RJPost W m o B T cs v r ⟨s.delay,s.jit,l',s.last⟩ (.returned r) (w5.setCell ⟨m,o + 2,none⟩ (.slice (some ⟨g,0,none⟩) l'.length cap)):=by
 obtain ⟨⟨cs',h1,h2,h3,h4⟩,h5⟩:=h.grown hT hg
 have hb:sb (.slice (some ⟨g,0,none⟩) l'.length cap) m=g:=rfl
 refine ⟨rfl,⟨_,_,h1.set (o + 2) _,h2.setv _ l',by simpa using h3,fun i hi=>by rw [Array.getElem?_setIfInBounds_ne (by omega)];exact h4 i hi,hown.blk (fun b ds _ k=>k.set_other _ _ (k.ty h1 (Ne.symm hT))),?_⟩,h5.set (.inl (by simp)) _ _⟩
 rw [hb]
 rcases hat with e | e
 ·left;unfold sb;rw [e];rfl
 ·right;omega
set_option maxRecDepth 100000 in
theorem rj_r {W:World} {m o B:Nat} {T:TypeId} {cs:Array Value} {v v':Value} {s:BxS}:(∀w,Hid (RJ W m o B T cs v s v' w)→w.cell? ⟨m,o,none⟩=some (.int .u64 (s.delay:Int)))∧(∀w,Hid (RJ W m o B T cs v s v' w)→w.cell? ⟨m,o + 1,none⟩=some (.int .u64 (s.jit:Int))):=
 ⟨fun w h=>h.out.cells.1,fun w h=>h.out.cells.2.1⟩
set_option maxRecDepth 100000 in
set_option maxHeartbeats 2000000 in
theorem rj_Put (m o B:Nat) (T:TypeId) (cs:Array Value) (v:Value) (p:Pk) (now ch:Nat) (s:BxS) (W:World) (hT:T≠95) (hB:B≤W.heap.size) (hb:Blk W m T cs) (hk:JCells cs o s v) (hr:SOwn 95 B W v s.l) (ho:s.ok) (hf:s.l.length≤5000) (hn:now≤18446744073709551615) (hc:ch≤18446744073709551615):
  Calls Try.prog 55 #[.pointer (some ⟨m,o,none⟩),p.agg,.int .u64 (now:Int),.int .u64 (ch:Int)] W (RJPost W m o B T cs v (.int .u64 ((s.dueB now ch:Nat):Int)) (s.putB p now ch)):=by
 obtain ⟨i0,hi0,hz0,hz1,hz2⟩:=info_parts jdue_info
 have HI:=Lib.hid hi0
 have HZ0:=Lib.hid hz0
 have HZ1:=Lib.hid hz1
 have HZ2:=Lib.hid hz2
 have HMz:Hid (W.heap.size≠m):=Lib.hid (Ne.symm hb.old)
 have HBs:=Lib.hid hB
 have K0:=Lib.hid ((RJ.start hb hk hr).to (al_be W (.cells (Itm.cs p).toArray 65)))
 have B0:=Lib.hid (Blk.new W 65 (Itm.cs p).toArray)
 have A1:=Lib.hid (fun w=>ref_Add now s.delay w hn ho.delay)
 have A2:=Lib.hid (fun w=>ref_Add (Pl.addS now s.delay) (min ch s.jit) w (Pl.addS_le _ _) (by omega))
 have hmin:(if s.jit < ch then (s.jit:Int) else (ch:Int))=((min ch s.jit:Nat):Int):=by split <;> omega
 have hmin2:min (ch:Int) (s.jit:Int)=((min ch s.jit:Nat):Int):=by omega
 have hmx:Hid ((if s.ownT now ch < s.last then (s.last:Int) else ((s.ownT now ch:Nat):Int))=((s.dueB now ch:Nat):Int)):=Lib.hid (by unfold BxS.dueB;split <;> omega)
 have hT:=Lib.hid hT
 have EQ:Hid (s.putB p now ch=⟨s.delay,s.jit,s.l ++ [⟨p,s.dueB now ch⟩],s.dueB now ch⟩):=Lib.hid rfl
 have HE:Hid (Pl.addS (Pl.addS now s.delay) (min ch s.jit)=s.ownT now ch):=Lib.hid rfl
 have HOne:=Lib.hid (Itm.one (Jp.mk p (s.dueB now ch)))
 have hcj:Hid (Itm.cs (Jp.mk p (s.dueB now ch))=Itm.cs p ++ [.int .u64 ((s.dueB now ch:Nat):Int)]):=Lib.hid rfl
 clear hb hk hr ho hi0 hz0 hz1 hz2 hB hn hc
 obtain ⟨q0,q1⟩:=rj_r (W:=W) (m:=m) (o:=o) (B:=B) (T:=T) (cs:=cs) (v:=v) (v':=v) (s:=s)
 unfold Pk.agg
 go_enter Try.func55,Try.ntmps55
 go_upto_region 1 with fail
 change Code.wp _ _ _ _ (W.alloc (.cells (Itm.cs p).toArray 65))
 have hu:=Try.underlying65
 have hi:(Try.prog.info? 65).map (·.size)=some (Itm.cs p).length:=by rw [Itm.len];kernel_rfl
 generalize W.alloc (.cells (Itm.cs p).toArray 65)=w0 at *
 rw [HE.out] at A2
 generalize Pl.addS now s.delay=u1 at *
 generalize min ch s.jit=mi at *
 generalize s.ownT now ch=T1 at *
 generalize s.dueB now ch=D at *
 generalize hcs:Itm.cs p=c at *
 have HCs:=Lib.hid hcs
 clear hcs
 have k0:=K0.out.cells.1
 have k1:=K0.out.cells.2.1
 have k3:=K0.out.cells.2.2.2.1
 have y3:=K0.out.cells.2.2.2.2 (o + 3)
 have A1q:Hid (∀n,Calls Try.prog 10 #[.int .u64 (now:Int),.int .u64 (s.delay:Int)] (w0.drewN n) fun e w'=>e=.returned (.int .u64 (u1:Int))∧w'=w0.drewN n):=Lib.hid (fun n=>(A1.out _).mono fun _ _ k=>⟨k.1,k.2.symm⟩)
 have A2q:Hid (∀n,Calls Try.prog 10 #[.int .u64 (u1:Int),.int .u64 (mi:Int)] (w0.drewN n) fun e w'=>e=.returned (.int .u64 (T1:Int))∧w'=w0.drewN n):=Lib.hid (fun n=>(A2.out _).mono fun _ _ k=>⟨k.1,k.2.symm⟩)
 clear A1 A2
 go_wp2_with fail
 go_quiet (first | (go_at_call 10;with_reducible exact Calls.quiet_of_same (A1q.out _)) | (go_at_call 10;with_reducible exact Calls.quiet_of_same (A2q.out _)))
 have HDr:=Lib.hid (show Drawn w0 (w0.drewN nq) from ⟨nq,rfl⟩)
 have K1:=Lib.hid (K0.out.to (HDr.out.below _))
 have B1:=Lib.hid (HDr.out.blk B0.out)
 generalize w0.drewN nq=w1 at *
 clear K0 HDr k0 k1 k3 y3 A1q A2q hmin hmin2 q0 q1 B0
 have k3:=K1.out.cells.2.2.2.1
 have y3:=K1.out.cells.2.2.2.2 (o + 3)
 have e4:=hmx.out
 have M0:=Lib.hid (K1.out.sett hT.out D)
 have Bz0:=Lib.hid (B1.out.set_other (o + 3) (.int .u64 (D:Int)) HMz.out)
 have HBs:Hid (B≤(w1.setCell ⟨m,o + 3,none⟩ (.int .u64 (D:Int))).drew.heap.size):=Lib.hid (Nat.le_trans HBs.out M0.out.fr.size)
 obtain ⟨v0,v1,v2,v3,v4,v5,v6,rfl⟩:∃v0 v1 v2 v3 v4 v5 v6,c=[v0,v1,v2,v3,v4,v5,v6]:=⟨_,_,_,_,_,_,_,HCs.out.symm⟩
 rw [hcj.out] at HOne
 simp only [List.cons_append,List.nil_append] at HOne
 go_wp2_with fail
 clear k3 y3 e4 hmx K1 B1
 generalize (w1.setCell ⟨m,o + 3,none⟩ (.int .u64 (D:Int)))=w3 at *
 have M1:=Lib.hid (M0.out.to ((Drawn.drew w3).below _))
 have hBz:=Lib.hid (show Blk w3.drew W.heap.size 65 [v0,v1,v2,v3,v4,v5,v6].toArray from Bz0.out.drew)
 clear M0 Bz0
 refine wp_region_held_drew (S:=(fun w'=>Hid (Blk w' W.heap.size 65 [v0,v1,v2,v3,v4,v5,v6].toArray))) (by kernel_rfl) hBz (fun hHeld=>?_)
 generalize w3.drew=wd at *
 simp only [List.size_toArray,List.length_cons,List.length_nil,Nat.reduceAdd,Array.replicate_succ,Array.replicate_zero,List.push_toArray,List.nil_append,List.cons_append]
 refine' wpAnyH_take (i:=5) (oi:=⟨some 38,_,_,_,_,_⟩) (v:=_) rfl (by kernel_rfl) (by kernel_rfl) (by kernel_rfl) (fun _ _ _ h=>h) (yieldsIf_load_mid (by rfl) _ _ rfl _ _ rfl _ _ ?hS1 hu rfl hi) (by assumption) ?r1
 case hS1=>intro w hSw;exact hSw.out.range0
 simp only [Act.put,List.setIfInBounds_toArray,List.set_cons_zero,List.set_cons_succ]
 refine wpAnyH_take (i:=0) (oi:=⟨some 33,_,_,_,_,_⟩) (v:=?v2) rfl (by kernel_rfl) (by kernel_rfl) (by kernel_rfl) (fun _ _ _ h=>h) (Or.inl ⟨by rfl,?y2⟩) (by assumption) ?r2
 case y2=>intro w hSw;clear hSw;go_simp;(try with_reducible rfl)
 simp only [Act.put,List.setIfInBounds_toArray,List.set_cons_zero,List.set_cons_succ]
 refine wpAnyH_take (i:=1) (oi:=⟨some 34,_,_,_,_,_⟩) (v:=?v3) rfl (by kernel_rfl) (by kernel_rfl) (by kernel_rfl) (fun _ _ _ h=>h) (Or.inl ⟨by rfl,?y3⟩) (by assumption) ?r3
 case y3=>intro w hSw;clear hSw;go_simp;(try with_reducible rfl)
 simp only [Act.put,List.setIfInBounds_toArray,List.set_cons_zero,List.set_cons_succ]
 refine wpAnyH_take (i:=2) (oi:=⟨some 35,_,_,_,_,_⟩) (v:=?v4) rfl (by kernel_rfl) (by kernel_rfl) (by kernel_rfl) (fun _ _ _ h=>h) (Or.inl ⟨by rfl,?y4⟩) (by assumption) ?r4
 case y4=>intro w hSw;clear hSw;go_simp;(try with_reducible rfl)
 simp only [Act.put,List.setIfInBounds_toArray,List.set_cons_zero,List.set_cons_succ]
 refine wpAnyH_take (i:=3) (oi:=⟨some 36,_,_,_,_,_⟩) (v:=?v5) rfl (by kernel_rfl) (by kernel_rfl) (by kernel_rfl) (fun _ _ _ h=>h) (Or.inl ⟨by rfl,?y5⟩) (by assumption) ?r5
 case y5=>intro w hSw;clear hSw;go_simp;(try with_reducible rfl)
 simp only [Act.put,List.setIfInBounds_toArray,List.set_cons_zero,List.set_cons_succ]
 refine wpAnyH_take (i:=6) (oi:=⟨some 39,_,_,_,_,_⟩) (v:=?v6) rfl (by kernel_rfl) (by kernel_rfl) (by kernel_rfl) (fun _ _ _ h=>h) (Or.inl ⟨by rfl,?y6⟩) (by assumption) ?r6
 case y6=>intro w hSw;clear hSw;go_simp;(try with_reducible rfl)
 simp only [Act.put,List.setIfInBounds_toArray,List.set_cons_zero,List.set_cons_succ]
 refine wpAnyH_take (i:=7) (oi:=⟨some 40,_,_,_,_,_⟩) (v:=?v7) rfl (by kernel_rfl) (by kernel_rfl) (by kernel_rfl) (fun _ _ _ h=>h) (Or.inl ⟨by rfl,?y7⟩) (by assumption) ?r7
 case y7=>intro w hSw;clear hSw;go_simp;(try with_reducible rfl)
 simp only [Act.put,List.setIfInBounds_toArray,List.set_cons_zero,List.set_cons_succ]
 refine wpAnyH_ready (rs:=[4,8]) (by kernel_rfl) (by simp) ?_
 refine AllReadyH.cons (o:=⟨some 37,_,_,_,_,_⟩) rfl (fun K hK=>?k8) ?m8
 case' k8=>
  first | have c3:=M3.out.cells.2.2.1 | have c3:=M1.out.cells.2.2.1
  go_simp
  refine hK.out _ _ hHeld (fun hHeld=>?_)
  clear hK
  try simp only [List.setIfInBounds_toArray,List.set_cons_zero,List.set_cons_succ]
  refine wpAnyH_ready (rs:=[8]) (by kernel_rfl) (by simp) ?_
  refine AllReadyH.cons (o:=⟨some 41,_,_,_,_,_⟩) rfl (fun K hK=>?_) AllReadyH.nil
  have M3:=Lib.hid (M1.out.to (al_be wd (.cells #[v0,v1,v2,v3,v4,v5,v6,.int .u64 (D:Int)] 95)))
  have HNw:=Lib.hid (Blk.new wd 95 #[v0,v1,v2,v3,v4,v5,v6,.int .u64 (D:Int)])
  have Bz3:=Lib.hid ((Hid.out (by assumption):Blk wd W.heap.size 65 [v0,v1,v2,v3,v4,v5,v6].toArray).alloc (.cells #[v0,v1,v2,v3,v4,v5,v6,.int .u64 (D:Int)] 95))
  go_simp
  refine hK.out _ _ Bz3 (fun hHeld=>?_)
  clear hK
  try simp only [List.setIfInBounds_toArray,List.set_cons_zero,List.set_cons_succ]
  refine wpAnyH_ready (rs:=[9]) (by kernel_rfl) (by simp) ?_
  refine AllReadyH.cons (o:=⟨some 42,_,_,_,_,_⟩) rfl (fun K hK=>?_) AllReadyH.nil
  ((refine step_append_lies _ (by rfl) _ _ _ (by rfl) B 95 i0 (.agg #[.int .u64 0,.int .u64 0,.int .u64 0,.int .u64 0,.int .u64 0,.int .u64 0,.bool false,.int .u64 0]) 8 64 Try.underlying45 HI.out HZ0.out HZ1.out HZ2.out rfl (by decide) v s.l.length (s.l.flatMap Itm.cs) (by rfl) M3.out.own ⟨wd.heap.size,0,none⟩ 1 1 [v0,v1,v2,v3,v4,v5,v6,.int .u64 (D:Int)] (by rfl) (by rfl) (World.news_of_block HNw.out) HOne.out (by decide) (by unfold maxLen;omega) (by omega) (Nat.le_trans HBs.out (by simp)) (wd.heap.size + 1) (by simp) ?_);intro g5 cap w5 hown hgrow hat hltg)
  have HOn:=Lib.hid hown
  have HGr:=Lib.hid hgrow
  have HAt:=Lib.hid hat
  have G5:=Lib.hid (M3.out.grown hT.out hgrow)
  have hHeld5:=Lib.hid (Bz3.out.grown hgrow (fun e=>by obtain ⟨_,ds,hd⟩:=M3.out.own.own _ e.symm;exact Bz3.out.ty hd (by decide) rfl))
  clear hown hgrow hat
  refine hK.out _ _ hHeld5 (fun hHeld=>?_)
  clear hK
  try simp only [List.setIfInBounds_toArray,List.set_cons_zero,List.set_cons_succ]
  refine wpAnyH_take (i:=10) (oi:=⟨some 43,_,_,_,_,_⟩) (v:=?v9) rfl (by kernel_rfl) (by kernel_rfl) (by kernel_rfl) (fun _ _ _ h=>h) (Or.inl ⟨by rfl,?y9⟩) (by assumption) ?r9
  case y9=>intro w hSw;clear hSw;go_simp;(try with_reducible rfl)
  simp only [Act.put,List.setIfInBounds_toArray,List.set_cons_zero,List.set_cons_succ]
  refine wpAnyH_take (i:=11) (oi:=⟨some 44,_,_,_,_,_⟩) (v:=?v10) rfl (by kernel_rfl) (by kernel_rfl) (by kernel_rfl) (fun _ _ _ h=>h) (Or.inl ⟨by rfl,?y10⟩) (by assumption) ?r10
  case y10=>intro w hSw;clear hSw;go_simp;(try with_reducible rfl)
  simp only [Act.put,List.setIfInBounds_toArray,List.set_cons_zero,List.set_cons_succ]
  refine wpAnyH_ready (rs:=[12]) (by kernel_rfl) (by simp) ?_
  refine AllReadyH.cons (o:=⟨none,_,_,_,_,_⟩) rfl (fun K hK=>?_) AllReadyH.nil
  have c3:w5.cell? ⟨m,o + 2,none⟩=some v:=by obtain ⟨cs5,a1,a2,_⟩:=G5.out.1;exact a1.cell a2.v
  have y3:w5.frozen? ⟨m,o + 2,none⟩=false:=by obtain ⟨cs5,a1,a2,_⟩:=G5.out.1;exact a1.free _
  have hne10:W.heap.size≠m:=HMz.out
  go_simp
  refine hK.out _ _ (Lib.hid (hHeld5.out.set_other _ _ hne10)) (fun hHeld=>?_)
  clear hK
  try simp only [List.setIfInBounds_toArray,List.set_cons_zero,List.set_cons_succ]
  refine wpAnyH_done (by kernel_rfl) ?_ _
  skip
 case' m8=>
  refine AllReadyH.cons (o:=⟨some 41,_,_,_,_,_⟩) rfl (fun K hK=>?_) AllReadyH.nil
  have M3:=Lib.hid (M1.out.to (al_be wd (.cells #[v0,v1,v2,v3,v4,v5,v6,.int .u64 (D:Int)] 95)))
  have HNw:=Lib.hid (Blk.new wd 95 #[v0,v1,v2,v3,v4,v5,v6,.int .u64 (D:Int)])
  have Bz3:=Lib.hid ((Hid.out (by assumption):Blk wd W.heap.size 65 [v0,v1,v2,v3,v4,v5,v6].toArray).alloc (.cells #[v0,v1,v2,v3,v4,v5,v6,.int .u64 (D:Int)] 95))
  go_simp
  refine hK.out _ _ Bz3 (fun hHeld=>?_)
  clear hK
  try simp only [List.setIfInBounds_toArray,List.set_cons_zero,List.set_cons_succ]
  refine wpAnyH_ready (rs:=[4]) (by kernel_rfl) (by simp) ?_
  refine AllReadyH.cons (o:=⟨some 37,_,_,_,_,_⟩) rfl (fun K hK=>?_) AllReadyH.nil
  first | have c3:=M3.out.cells.2.2.1 | have c3:=M1.out.cells.2.2.1
  go_simp
  refine hK.out _ _ hHeld (fun hHeld=>?_)
  clear hK
  try simp only [List.setIfInBounds_toArray,List.set_cons_zero,List.set_cons_succ]
  refine wpAnyH_ready (rs:=[9]) (by kernel_rfl) (by simp) ?_
  refine AllReadyH.cons (o:=⟨some 42,_,_,_,_,_⟩) rfl (fun K hK=>?_) AllReadyH.nil
  ((refine step_append_lies _ (by rfl) _ _ _ (by rfl) B 95 i0 (.agg #[.int .u64 0,.int .u64 0,.int .u64 0,.int .u64 0,.int .u64 0,.int .u64 0,.bool false,.int .u64 0]) 8 64 Try.underlying45 HI.out HZ0.out HZ1.out HZ2.out rfl (by decide) v s.l.length (s.l.flatMap Itm.cs) (by rfl) M3.out.own ⟨wd.heap.size,0,none⟩ 1 1 [v0,v1,v2,v3,v4,v5,v6,.int .u64 (D:Int)] (by rfl) (by rfl) (World.news_of_block HNw.out) HOne.out (by decide) (by unfold maxLen;omega) (by omega) (Nat.le_trans HBs.out (by simp)) (wd.heap.size + 1) (by simp) ?_);intro g5 cap w5 hown hgrow hat hltg)
  have HOn:=Lib.hid hown
  have HGr:=Lib.hid hgrow
  have HAt:=Lib.hid hat
  have G5:=Lib.hid (M3.out.grown hT.out hgrow)
  have hHeld5:=Lib.hid (Bz3.out.grown hgrow (fun e=>by obtain ⟨_,ds,hd⟩:=M3.out.own.own _ e.symm;exact Bz3.out.ty hd (by decide) rfl))
  clear hown hgrow hat
  refine hK.out _ _ hHeld5 (fun hHeld=>?_)
  clear hK
  try simp only [List.setIfInBounds_toArray,List.set_cons_zero,List.set_cons_succ]
  refine wpAnyH_take (i:=10) (oi:=⟨some 43,_,_,_,_,_⟩) (v:=?v11) rfl (by kernel_rfl) (by kernel_rfl) (by kernel_rfl) (fun _ _ _ h=>h) (Or.inl ⟨by rfl,?y11⟩) (by assumption) ?r11
  case y11=>intro w hSw;clear hSw;go_simp;(try with_reducible rfl)
  simp only [Act.put,List.setIfInBounds_toArray,List.set_cons_zero,List.set_cons_succ]
  refine wpAnyH_take (i:=11) (oi:=⟨some 44,_,_,_,_,_⟩) (v:=?v12) rfl (by kernel_rfl) (by kernel_rfl) (by kernel_rfl) (fun _ _ _ h=>h) (Or.inl ⟨by rfl,?y12⟩) (by assumption) ?r12
  case y12=>intro w hSw;clear hSw;go_simp;(try with_reducible rfl)
  simp only [Act.put,List.setIfInBounds_toArray,List.set_cons_zero,List.set_cons_succ]
  refine wpAnyH_ready (rs:=[12]) (by kernel_rfl) (by simp) ?_
  refine AllReadyH.cons (o:=⟨none,_,_,_,_,_⟩) rfl (fun K hK=>?_) AllReadyH.nil
  have c3:w5.cell? ⟨m,o + 2,none⟩=some v:=by obtain ⟨cs5,a1,a2,_⟩:=G5.out.1;exact a1.cell a2.v
  have y3:w5.frozen? ⟨m,o + 2,none⟩=false:=by obtain ⟨cs5,a1,a2,_⟩:=G5.out.1;exact a1.free _
  have hne10:W.heap.size≠m:=HMz.out
  go_simp
  refine hK.out _ _ (Lib.hid (hHeld5.out.set_other _ _ hne10)) (fun hHeld=>?_)
  clear hK
  try simp only [List.setIfInBounds_toArray,List.set_cons_zero,List.set_cons_succ]
  refine wpAnyH_done (by kernel_rfl) ?_ _
  skip
 all_goals
  have HH:Hid (W.heap.size≤wd.heap.size + 1):=Lib.hid (Nat.le_trans M1.out.fr.size (Nat.le_succ _))
  have HF:Hid (SOwn 95 B w5 (.slice (some ⟨g5,0,none⟩) (s.l ++ [Jp.mk p D]).length cap) (s.l ++ [Jp.mk p D])):=Lib.hid (by
   have:=HOn.out
   unfold SOwn
   rw [List.length_append,List.flatMap_append,List.flatMap_cons,List.flatMap_nil,List.append_nil,hcj.out]
   exact this)
  have HP:=Lib.hid (M3.out.appended (r:=.int .u64 (D:Int)) hT.out HGr.out HF.out HAt.out HH.out)
  go_wp2_with fail
  go_ret
  rw [EQ.out]
  have e:(s.l ++ [Jp.mk p D]).length=s.l.length + 1:=by simp
  rw [e] at HP
  exact HP.out
end Go.Proofs.Ytaffjfajjpgjpaa

set_option linter.unusedVariables false
namespace Go.Proofs.Ytaffjfajjpgjpaa
open Go.RowKit
set_option maxRecDepth 100000 in
theorem its_jp {w:World} {g:Nat} {l:List Jp} (h:Its w (some ⟨g,0,none⟩) l) (k:Nat) (hk:k < l.length) (x:Jp) (hx:x=l.getD k Itm.z):
  w.cell? ⟨g,k * 8,none⟩=some (.int .u64 (x.p.n:Int))∧w.cell? ⟨g,k * 8 + 1,none⟩=some (.int .u64 (x.p.size:Int))∧w.cell? ⟨g,k * 8 + 2,none⟩=some (.int .u64 (x.p.sent:Int))∧w.cell? ⟨g,k * 8 + 3,none⟩=some (.int .u64 (x.p.first:Int))∧w.cell? ⟨g,k * 8 + 4,none⟩=some (.int .u64 (x.p.deliv:Int))∧w.cell? ⟨g,k * 8 + 5,none⟩=some (.int .u64 (x.p.at_:Int))∧w.cell? ⟨g,k * 8 + 6,none⟩=some (.bool x.p.lim)∧w.cell? ⟨g,k * 8 + 7,none⟩=some (.int .u64 (x.due:Int)):=by
 subst hx
 obtain ⟨b,off,e,_,hc⟩:=h (by omega)
 injection e with e
 injection e with e1 e2
 subst e1 e2
 have f:∀j v,j < 8→(Itm.cs (l.getD k Itm.z))[j]? =some v→w.cell? ⟨g,k * 8 + j,none⟩=some v:=fun j v hj hv=>by
  have:=hc k j hk hj
  rw [Nat.zero_add,hv] at this
  exact this
 exact ⟨f 0 _ (by omega) rfl,f 1 _ (by omega) rfl,f 2 _ (by omega) rfl,f 3 _ (by omega) rfl,f 4 _ (by omega) rfl,f 5 _ (by omega) rfl,f 6 _ (by omega) rfl,f 7 _ (by omega) rfl⟩
structure RJOut (W:World) (m o B:Nat) (T:TypeId) (cs:Array Value) (v:Value) (l:List Pk) (s:BxS) (e:Ending) (w:World):Prop where
 e:∃ov,e=.returned ov∧SOwn 65 W.heap.size w ov l
 at_:∃v' cs',Blk w m T cs'∧JCells cs' o s v'∧cs'.size=cs.size∧(∀i,i < o∨o + 4≤i→cs'[i]? =cs[i]?)∧SOwn 95 B w v' s.l∧(sb v' m=sb v m∨W.heap.size≤sb v' m)
 fr:Fr W w [m,sb v m]
set_option maxRecDepth 100000 in
theorem RJ.app {W wA w5:World} {m o B:Nat} {T:TypeId} {cs:Array Value} {v v' ov:Value} {s:BxS} {pre:List Pk} (hT:T≠65) (h:RJ W m o B T cs v s v' wA) (ho:SOwn 65 W.heap.size wA ov pre) (ob:Obj) (hg:(wA.alloc ob).grownBy w5 ov.ownBlock):RJ W m o B T cs v s v' w5:=by
 have hm:=h.mne hT
 have f:Fr wA w5 ov.ownBlock.toList:=((Fr.refl wA ov.ownBlock.toList).alloc ob).trans (jfr_gr hg (fun b e=>by rw [e];simp)) (fun y hy=>.inl hy)
 have ob:∀k∈ov.ownBlock.toList,W.heap.size≤k∧∃ds,Blk wA k 65 ds:=fun k hk=>ho.own k (by simpa using hk)
 obtain ⟨cs',h1,h2⟩:=h.at_
 exact ⟨⟨cs',h1.fr f (fun hx=>by obtain ⟨_,ds,hd⟩:=ob m hx;exact hm _ _ hd rfl),h2⟩,h.own.blk (fun g ds _ hd=>hd.fr f (fun hx=>by obtain ⟨_,es,he⟩:=ob g hx;exact hd.ty he (by decide) rfl)),h.new,h.fr.trans f (fun x hx=>.inr (ob x hx).1),h.mz⟩
structure DoI (W:World) (m o B:Nat) (T:TypeId) (cs:Array Value) (v:Value) (now:Nat) (s:BxS) (pre rest:List Jp) (v' ov:Value) (w:World):Prop where
 e:s.l=pre ++ rest
 due:∀y∈pre,isDue now y=true
 rj:RJ W m o B T cs v ⟨s.delay,s.jit,rest,s.last⟩ v' w
 out:SOwn 65 W.heap.size w ov (pre.map Jp.p)
def ovLen:Value→Nat
 | .slice _ n _=>n
 | _=>0
set_option maxRecDepth 100000 in
theorem DoI.done {W w:World} {m o B now:Nat} {T:TypeId} {cs:Array Value} {v v' ov:Value} {s:BxS} {pre rest:List Jp} (h:DoI W m o B T cs v now s pre rest v' ov w) (hr:∀y t,rest=y :: t→isDue now y=false):RJOut W m o B T cs v (s.told now) (s.outB now) (.returned ov) w:=by
 obtain ⟨e1,e2⟩:=due_split (f:=isDue now) h.due hr
 rw [← h.e] at e1 e2
 have a1:s.told now=pre.map Jp.p:=by unfold BxS.told;rw [e1]
 have a2:s.outB now=⟨s.delay,s.jit,rest,s.last⟩:=by unfold BxS.outB;rw [e2]
 rw [a1,a2]
 have p:=h.rj.post (r:=ov)
 exact ⟨⟨ov,rfl,h.out⟩,p.at_,p.fr⟩
set_option maxRecDepth 100000 in
set_option maxHeartbeats 2000000 in
theorem rj_Out (m o B:Nat) (T:TypeId) (cs:Array Value) (v:Value) (now:Nat) (s:BxS) (W:World) (hT:T≠95) (hT2:T≠65) (hB:B≤W.heap.size) (hb:Blk W m T cs) (hk:JCells cs o s v) (hr:SOwn 95 B W v s.l) (hf:s.l.length≤5000):
  Calls Try.prog 57 #[.pointer (some ⟨m,o,none⟩),.int .u64 (now:Int)] W (RJOut W m o B T cs v (s.told now) (s.outB now)):=by
 obtain ⟨i0,hi0,hz0,hz1,hz2⟩:=info_parts jpk_info
 obtain ⟨j0,hj0,hy0,hy1,hy2⟩:=info_parts jdue_info
 have HI:=Lib.hid hi0
 have HZ0:=Lib.hid hz0
 have HZ1:=Lib.hid hz1
 have HZ2:=Lib.hid hz2
 have HJ:=Lib.hid hj0
 have HY0:=Lib.hid hy0
 have HY1:=Lib.hid hy1
 have HY2:=Lib.hid hy2
 have HT:=Lib.hid hT
 have HT2:=Lib.hid hT2
 have HBs:=Lib.hid hB
 have I0:Hid (DoI W m o B T cs v now s [] s.l v (.slice none 0 0) W):=Lib.hid ⟨rfl,(fun y hy=>absurd hy (by simp)),RJ.start hb hk hr,SOwn.nil _ _ _⟩
 clear hb hk hr hi0 hz0 hz1 hz2 hj0 hy0 hy1 hy2 hT hT2 hB
 go_enter Try.func57,Try.ntmps57
 go_wp2_with fail
 go_loopw [5] (fun ov wr=>∃pre rest v',DoI W m o B T cs v now s pre rest v' ov wr) (fun ov _=>s.l.length - ovLen ov)
 case atStart=>exact ⟨_,_,_,I0.out⟩
 case round=>
  obtain ⟨pre,rest,v',hI⟩:=hrel
  obtain ⟨ap,cp,hov,hp1,hp2,_,_⟩:=hI.out.form
  rw [List.length_map] at hov hp1
  subst hov
  obtain ⟨ao,cap,hv,hc1,hc2,hit,hg⟩:=hI.rj.own.form
  have c2:=hI.rj.cells.2.2.1
  rw [hv] at c2
  have H:=Lib.hid hI
  clear hI I0
  cases rest with
  | nil=>
    have c2:wr.cell? ⟨m,o + 2,none⟩=some (.slice ao 0 cap):=c2
    go_wp2
    go_ret
    exact H.out.done (fun y t e=>by cases e)
  | cons x t=>
    obtain ⟨g,rfl,hsb⟩:=hg (by simp)
    have c2:wr.cell? ⟨m,o + 2,none⟩=some (.slice (some ⟨g,0,none⟩) (t.length + 1) cap):=c2
    obtain ⟨a0,a1,a2,a3,a4,a5,a6,a7⟩:=its_jp hit 0 (by simp) x rfl
    simp only [Nat.zero_mul,Nat.zero_add] at a0 a1 a2 a3 a4 a5 a6 a7
    have b0:(0:Int) < ((t.length + 1:Nat):Int):=by omega
    have b1:(0:Int) < (t.length:Int) + 1:=by omega
    cases hd:isDue now x
    ·have d1:decide (x.due≤now)=false:=hd
     go_wp2
     go_ret
     exact H.out.done (fun y t e=>by cases e;exact hd)
    ·have d1:decide (x.due≤now)=true:=hd
     have HH:=Lib.hid hd
     clear hd
     have hsum:s.l.length=pre.length + (t.length + 1):=by rw [H.out.e];simp
     have hpl:pre.length≤5000:=by omega
     have htl:t.length≤5000:=by omega
     have HO2:Hid ((wr.alloc (.cells #[.int .u64 (x.p.n:Int),.int .u64 (x.p.size:Int),.int .u64 (x.p.sent:Int),.int .u64 (x.p.first:Int),.int .u64 (x.p.deliv:Int),.int .u64 (x.p.at_:Int),.bool x.p.lim] 65)).ownsRow W.heap.size 65 7 (.slice ap pre.length cp) pre.length ((pre.map Jp.p).flatMap Itm.cs)):=Lib.hid (by
      have:=H.out.out.keep (al_be wr (.cells #[.int .u64 (x.p.n:Int),.int .u64 (x.p.size:Int),.int .u64 (x.p.sent:Int),.int .u64 (x.p.first:Int),.int .u64 (x.p.deliv:Int),.int .u64 (x.p.at_:Int),.bool x.p.lim] 65))
      unfold SOwn at this
      rw [List.length_map] at this
      exact this)
     have HNw:=Lib.hid (World.news_of_block (Blk.new wr 65 #[.int .u64 (x.p.n:Int),.int .u64 (x.p.size:Int),.int .u64 (x.p.sent:Int),.int .u64 (x.p.first:Int),.int .u64 (x.p.deliv:Int),.int .u64 (x.p.at_:Int),.bool x.p.lim]))
     have HOne:=Lib.hid (Itm.one x.p)
     have hsz:W.heap.size≤(wr.alloc (.cells #[.int .u64 (x.p.n:Int),.int .u64 (x.p.size:Int),.int .u64 (x.p.sent:Int),.int .u64 (x.p.first:Int),.int .u64 (x.p.deliv:Int),.int .u64 (x.p.at_:Int),.bool x.p.lim] 65)).heap.size:=by have:=H.out.rj.fr.size;simp;omega
     go_upto_region 4 with (at_builtin;refine wpList_append_own_at _ rfl (.tmp 23) (.tmp 31) 42 rfl W.heap.size 65 i0 (.agg #[.int .u64 0,.int .u64 0,.int .u64 0,.int .u64 0,.int .u64 0,.int .u64 0,.bool false]) 7 56 Try.underlying42 HI.out HZ0.out HZ1.out HZ2.out rfl (by decide) (.slice ap pre.length cp) pre.length ((pre.map Jp.p).flatMap Itm.cs) rfl HO2.out ⟨wr.heap.size,0,none⟩ 1 1 (Itm.cs x.p) rfl rfl HNw.out HOne.out (by unfold maxLen;omega) (by omega) hsz ?_;intro v4 w4 hown hgr hnil hat;have HR4:=Lib.hid (H.out.rj.app HT2.out H.out.out (.cells #[.int .u64 (x.p.n:Int),.int .u64 (x.p.size:Int),.int .u64 (x.p.sent:Int),.int .u64 (x.p.first:Int),.int .u64 (x.p.deliv:Int),.int .u64 (x.p.at_:Int),.bool x.p.lim] 65) hgr);have HS4:Hid (SOwn 65 W.heap.size w4 v4 ((pre ++ [x]).map Jp.p)):=Lib.hid (by rw [List.map_append];exact SOwn.snoc (l:=pre.map Jp.p) (x:=x.p) (by rw [List.length_map];exact hown));obtain ⟨g4,cap4,rfl⟩:=sown_succ hown;clear hown hgr hnil hat)
     have hitw:Its w4 (some ⟨g,0,none⟩) (x :: t):=by
      obtain ⟨ao2,cap2,hv2,_,_,hit2,_⟩:=HR4.out.own.form
      rw [hv] at hv2
      injection hv2 with e1 e2 e3
      rw [e1];exact hit2
     clear a0 a1 a2 a3 a4 a5 a6 a7 c2 d1 HO2 HNw HOne hsz hit hsb
     have HIt:=Lib.hid (hitw.keep (al_be w4 (.cells #[] 95)))
     have R5:=Lib.hid (HR4.out.to (al_be w4 (.cells #[] 95)))
     have c5:(w4.alloc (.cells #[] 95)).cell? ⟨m,o + 2,none⟩=some (.slice (some ⟨g,0,none⟩) (t.length + 1) cap):=by
      have:=R5.out.cells.2.2.1
      rw [hv] at this
      exact this
     have HOE:=Lib.hid (sown_empty (T:=95) (B:=B) (k:=8) w4 (Nat.le_trans HBs.out HR4.out.fr.size))
     have hsz4:W.heap.size≤w4.heap.size:=HR4.out.fr.size
     have HBa:Hid (B≤(w4.alloc (.cells #[] 95)).heap.size):=Lib.hid (Nat.le_trans HBs.out (Nat.le_trans hsz4 (by simp)))
     have l1:(1:Int)≤((t.length + 1:Nat):Int):=by omega
     have l2:(1:Int)≤(t.length:Int) + 1:=by omega
     have e1:((t.length:Int) + 1) - 1=(t.length:Int):=by omega
     have hc2':cap≤9223372036854775807:=hc2
     rw [List.length_cons] at hc1
     clear hitw
     by_cases hcap:cap=1
     ·subst hcap
      have ht:t=[]:=List.eq_nil_of_length_eq_zero (by omega)
      subst ht
      have f5:=R5.out.cells.2.2.2.2 (o + 2)
      have SE:Hid (SOwn 95 B (w4.alloc (.cells #[] 95)) (.slice (some ⟨w4.heap.size,0,none⟩) 0 0) ([]:List Jp)):=Lib.hid HOE.out
      have M5:=Lib.hid (R5.out.setv (v':=.slice (some ⟨w4.heap.size,0,none⟩) 0 0) (l':=[]) HT.out SE.out (.inr hsz4))
      have S5:Hid (SOwn 65 W.heap.size ((w4.alloc (.cells #[] 95)).setCell ⟨m,o + 2,none⟩ (.slice (some ⟨w4.heap.size,0,none⟩) 0 0)) (.slice (some ⟨g4,0,none⟩) (pre.length + 1) cap4) ((pre ++ [x]).map Jp.p)):=Lib.hid ((HS4.out.keep (al_be _ _)).blk (fun b ds _ hb=>hb.set_other _ _ (R5.out.mne HT2.out _ _ hb)))
      have HD5:Hid (DoI W m o B T cs v now s (pre ++ [x]) [] (.slice (some ⟨w4.heap.size,0,none⟩) 0 0) (.slice (some ⟨g4,0,none⟩) (pre.length + 1) cap4) ((w4.alloc (.cells #[] 95)).setCell ⟨m,o + 2,none⟩ (.slice (some ⟨w4.heap.size,0,none⟩) 0 0))):=
       Lib.hid ⟨by rw [H.out.e];simp,fun y hy=>by rcases List.mem_append.1 hy with c | c;exact H.out.due y c;rw [List.mem_singleton.1 c];exact HH.out,M5.out,S5.out⟩
      clear M5 S5 SE HOE R5 HR4 HS4 HIt H
      go_wp2_with fail
      go_roundw
      case rel=>exact ⟨_,_,_,HD5.out⟩
      case measure=>simp [ovLen];omega
     ·have HNw:=Lib.hid (its_tail HIt.out)
      rw [Nat.zero_add] at HNw
      go_wp2_with (at_builtin;(refine wpList_append_own_at _ rfl _ _ 45 (by rfl) B 95 j0 (.agg #[.int .u64 0,.int .u64 0,.int .u64 0,.int .u64 0,.int .u64 0,.int .u64 0,.bool false,.int .u64 0]) 8 64 Try.underlying45 HJ.out HY0.out HY1.out HY2.out rfl (by decide) (.slice (some ⟨w4.heap.size,0,none⟩) 0 0) 0 [] (by rfl) HOE.out ⟨g,8,none⟩ t.length _ (t.flatMap Itm.cs) (by rfl) (icells_len t) HNw.out (one_items _) (by unfold maxLen;omega) (by omega) HBa.out ?_);intro v6 w6 hown hgr hnil hat;rw [Nat.zero_add] at hown;obtain ⟨g6,cap6,rfl,hg6⟩:=sown_some (a:=w4.heap.size) hown hat;have HOw:=Lib.hid hown;have HG6:=Lib.hid hg6;have M4:=Lib.hid (HR4.out.to (bel_gr (al_be w4 (.cells #[] 95)) hgr (by simp) (Nat.le_refl _)));have S4:=Lib.hid (HS4.out.keep (bel_gr (al_be w4 (.cells #[] 95)) hgr (by simp) (Nat.le_refl _)));have c6:=M4.out.cells.2.2.1;have f6:=M4.out.cells.2.2.2.2 (o + 2);clear hown hgr hnil hat hg6)
      have hw:SOwn 95 B w6 (.slice (some ⟨g6,0,none⟩) t.length cap6) t:=HOw.out
      have hvb:sb (.slice (some ⟨g6,0,none⟩) t.length cap6) m=sb v m∨W.heap.size≤sb (.slice (some ⟨g6,0,none⟩) t.length cap6) m:=by
       right
       show W.heap.size≤g6
       rcases HG6.out with e | e
       ·omega
       ·rw [e];simp;omega
      have M5:=Lib.hid (M4.out.setv HT.out hw hvb)
      have S5:Hid (SOwn 65 W.heap.size (w6.setCell ⟨m,o + 2,none⟩ (.slice (some ⟨g6,0,none⟩) t.length cap6)) (.slice (some ⟨g4,0,none⟩) (pre.length + 1) cap4) ((pre ++ [x]).map Jp.p)):=Lib.hid (S4.out.blk (fun b ds _ hb=>hb.set_other _ _ (M4.out.mne HT2.out _ _ hb)))
      have HD5:Hid (DoI W m o B T cs v now s (pre ++ [x]) t (.slice (some ⟨g6,0,none⟩) t.length cap6) (.slice (some ⟨g4,0,none⟩) (pre.length + 1) cap4) (w6.setCell ⟨m,o + 2,none⟩ (.slice (some ⟨g6,0,none⟩) t.length cap6))):=
       Lib.hid ⟨by rw [H.out.e];simp,fun y hy=>by rcases List.mem_append.1 hy with c | c;exact H.out.due y c;rw [List.mem_singleton.1 c];exact HH.out,M5.out,S5.out⟩
      clear c6 f6 hvb hw M4 HOw HG6 M5 S5 S4 HOE R5 HR4 HS4 HIt H c5
      go_roundw
      case rel=>exact ⟨_,_,_,HD5.out⟩
      case measure=>simp [ovLen];omega
end Go.Proofs.Ytaffjfajjpgjpaa
