/- 4 texts put together: what each one says stands ahead of it. -/
import Derived.Test.YtljganehlagnoaaKMeterMore04
import Derived.Test.YtljganehlagnoaaKMeterMore03
import Derived.Deep.SlicePairs
import Derived.ProofKit
import Derived.OpenShut
set_option linter.unusedVariables false
namespace Go.Proofs.Ytljganehlagnoaa
open Go.ChangeShapes Go.WideShapes Go.ChangeAt Go.RowKit
structure Tn where
 g:Nat
 c:Nat
 w:Nat
instance:Inhabited Tn:=⟨⟨0,0,0⟩⟩
structure TnAt (w:World) (b o:Nat) (q:Tn):Prop where
 k0:w.cell? ⟨b,o,none⟩=some (.int .u64 (q.g:Int))
 k1:w.cell? ⟨b,o + 1,none⟩=some (.int .u64 (q.c:Int))
 k2:w.cell? ⟨b,o + 2,none⟩=some (.int .u64 (q.w:Int))
 b0:q.g≤18446744073709551615
 b1:q.c≤18446744073709551615
 b2:q.w≤18446744073709551615
theorem TnAt.keep {w w':World} {b o:Nat} {q:Tn} (h:TnAt w b o q) (hb:b < w.heap.size) (k:Below w.heap.size w w'):TnAt w' b o q:=
 ⟨(k.cell (p:=⟨b,_,none⟩) hb).trans h.k0,(k.cell (p:=⟨b,_,none⟩) hb).trans h.k1,(k.cell (p:=⟨b,_,none⟩) hb).trans h.k2,h.b0,h.b1,h.b2⟩
def InTn (w:World) (v:Option Addr) (l:List Tn) (b off:Nat):Prop:=
 l.length≤9223372036854775807∧(0 < l.length→v=some ⟨b,off,none⟩∧b < w.heap.size)∧∀i,i < l.length→TnAt w b (off + i * 3) (l.getD i default)
set_option maxRecDepth 100000 in
set_option maxHeartbeats 1000000 in
theorem in_tn0 {H:Type} {enc:TypeId × Value→H} {w:World} {fuel:Nat} {spare:Nat→Bool} {held:Bool} {v:Option Addr} {len cap:Nat} {x:DataW H × List MemPlace}
  (h:DataW.trod enc Try.prog w 0 spare held fuel 23 [.slice v len cap]=some x):∃l b off,l.length=len∧InTn w v l b off:=by
 rcases Go.Deep.open_slice Try.underlying23 h with ⟨hcs,_⟩ | ⟨a,len',cap',m,n,D,Pl,hcs,_,hl,hm,hmm,_,hi⟩
 ·simp only [List.cons.injEq,Value.slice.injEq,and_true] at hcs
  obtain ⟨rfl,rfl,rfl⟩:=hcs
  exact ⟨[],0,0,rfl,by simp,fun h=>absurd h (by simp),fun i hi=>absurd hi (by simp)⟩
 ·simp only [List.cons.injEq,Value.slice.injEq,and_true] at hcs
  obtain ⟨rfl,rfl,rfl⟩:=hcs
  have hlm:len≤m:=by rw [hmm];split <;> omega
  have ce:Try.prog.cellsOf 49=3:=by kernel_rfl
  have c0:Try.prog.cellsOf 22=1:=by kernel_rfl
  unfold maxLen at hm
  obtain ⟨b,off,spot⟩:=a
  have hs0:0 < len→spot=none:=by
   intro hpos
   obtain ⟨cs',h1,_⟩:=hi 0 (by omega)
   rw [ce] at h1
   obtain ⟨_,hlen,hcell⟩:=World.cells?_some h1
   match cs',hlen with
   | [v0,v1,v2],_=>
     have e0:=hcell 0 (by omega)
     rw [Go.Deep.add_add] at e0
     simpa [Addr.add] using World.cell?_spot e0
  have each:∀i,i < len→∃q:Tn,spot=none∧b < w.heap.size∧TnAt w b (off + i * 3) q:=by
   intro i hlt
   obtain ⟨cs',h1,h2⟩:=hi i (by omega)
   rw [ce] at h1
   obtain ⟨_,hlen,hcell⟩:=World.cells?_some h1
   match cs',hlen with
   | [v0,v1,v2],_=>
     obtain ⟨xs0,k0,_,_,_,hxl0,hf0⟩:=DataW.trod_struct Try.underlying49 h2
     have g0_0:=hf0 0 _ rfl
     have hx0_0:xs0[0]? =some (xs0[0]'(by rw [hxl0];decide)):=List.getElem?_eq_getElem _
     rw [hx0_0] at g0_0
     simp [c0] at g0_0
     have g0_1:=hf0 1 _ rfl
     have hx0_1:xs0[1]? =some (xs0[1]'(by rw [hxl0];decide)):=List.getElem?_eq_getElem _
     rw [hx0_1] at g0_1
     simp [c0] at g0_1
     have g0_2:=hf0 2 _ rfl
     have hx0_2:xs0[2]? =some (xs0[2]'(by rw [hxl0];decide)):=List.getElem?_eq_getElem _
     rw [hx0_2] at g0_2
     simp [c0] at g0_2
     obtain ⟨z0,hz0,_,hw0⟩:=DataW.trod_int Try.underlying22 g0_0
     obtain ⟨b0,b0'⟩:=bounds_u64 hw0
     simp only [List.cons.injEq,and_true] at hz0
     subst hz0
     obtain ⟨z1,hz1,_,hw1⟩:=DataW.trod_int Try.underlying22 g0_1
     obtain ⟨b1,b1'⟩:=bounds_u64 hw1
     simp only [List.cons.injEq,and_true] at hz1
     subst hz1
     obtain ⟨z2,hz2,_,hw2⟩:=DataW.trod_int Try.underlying22 g0_2
     obtain ⟨b2,b2'⟩:=bounds_u64 hw2
     simp only [List.cons.injEq,and_true] at hz2
     subst hz2
     have e0:=hcell 0 (by omega)
     have e1:=hcell 1 (by omega)
     have e2:=hcell 2 (by omega)
     rw [Go.Deep.add_add] at e0 e1 e2
     have hs:=hs0 (by omega)
     subst hs
     rw [Go.WideShapes.add_plain] at e0 e1 e2
     refine ⟨⟨z0.toNat,z1.toNat,z2.toNat⟩,rfl,World.block_lt_of_cell? _ _ e0,⟨?_,?_,?_,by dsimp;omega,by dsimp;omega,by dsimp;omega⟩⟩
     ·dsimp;rw [Int.toNat_of_nonneg b0];simpa [Nat.add_assoc] using e0
     ·dsimp;rw [Int.toNat_of_nonneg b1];simpa [Nat.add_assoc] using e1
     ·dsimp;rw [Int.toNat_of_nonneg b2];simpa [Nat.add_assoc] using e2
  obtain ⟨q,hq⟩:=Go.Deep.choose_lt each
  refine ⟨(List.range len).map q,b,off,by simp,by simp;omega,fun hpos=>?_,fun i hlt=>?_⟩
  ·have hpos':0 < len:=by simpa using hpos
   obtain ⟨rfl,h2,_⟩:=hq 0 hpos'
   exact ⟨rfl,h2⟩
  ·simp only [List.length_map,List.length_range] at hlt
   have e:((List.range len).map q).getD i default=q i:=by simp [List.getD_eq_getElem?_getD,hlt]
   rw [e]
   exact (hq i hlt).2.2
end Go.Proofs.Ytljganehlagnoaa

set_option linter.unusedVariables false
namespace Go.Proofs.Ytljganehlagnoaa
open Go.ChangeShapes Go.WideShapes Go.ChangeAt Go.RowKit
structure Rw where
 g:Nat
 c:Nat
 d:Nat
 s:Nat
 w:Nat
instance:Inhabited Rw:=⟨⟨0,0,0,0,0⟩⟩
structure RwAt (w:World) (b o:Nat) (q:Rw):Prop where
 k0:w.cell? ⟨b,o,none⟩=some (.int .u64 (q.g:Int))
 k1:w.cell? ⟨b,o + 1,none⟩=some (.int .u64 (q.c:Int))
 k2:w.cell? ⟨b,o + 2,none⟩=some (.int .u64 (q.d:Int))
 k3:w.cell? ⟨b,o + 3,none⟩=some (.int .u64 (q.s:Int))
 k4:w.cell? ⟨b,o + 4,none⟩=some (.int .u64 (q.w:Int))
 b0:q.g≤18446744073709551615
 b1:q.c≤18446744073709551615
 b2:q.d≤18446744073709551615
 b3:q.s≤18446744073709551615
 b4:q.w≤18446744073709551615
theorem RwAt.keep {w w':World} {b o:Nat} {q:Rw} (h:RwAt w b o q) (hb:b < w.heap.size) (k:Below w.heap.size w w'):RwAt w' b o q:=
 ⟨(k.cell (p:=⟨b,_,none⟩) hb).trans h.k0,(k.cell (p:=⟨b,_,none⟩) hb).trans h.k1,(k.cell (p:=⟨b,_,none⟩) hb).trans h.k2,(k.cell (p:=⟨b,_,none⟩) hb).trans h.k3,(k.cell (p:=⟨b,_,none⟩) hb).trans h.k4,h.b0,h.b1,h.b2,h.b3,h.b4⟩
end Go.Proofs.Ytljganehlagnoaa

set_option linter.unusedVariables false
namespace Go.Proofs.Ytljganehlagnoaa
open Go.RowKit
def u6 (n:Nat):Value:=.int .u64 (n:Int)
def Tn.cs (t:Tn):List Value:=[.int .u64 (t.g:Int),.int .u64 (t.c:Int),.int .u64 (t.w:Int)]
def Rw.cs (r:Rw):List Value:=[.int .u64 (r.g:Int),.int .u64 (r.c:Int),.int .u64 (r.d:Int),.int .u64 (r.s:Int),.int .u64 (r.w:Int)]
instance:Itm Tn:=⟨default,3,Tn.cs,by decide,fun _=>rfl,fun r v h=>by
 simp only [Tn.cs,List.mem_cons,List.not_mem_nil,or_false] at h;rcases h with rfl | rfl | rfl <;> rfl⟩
instance:Itm Rw:=⟨default,5,Rw.cs,by decide,fun _=>rfl,fun r v h=>by
 simp only [Rw.cs,List.mem_cons,List.not_mem_nil,or_false] at h;rcases h with rfl | rfl | rfl | rfl | rfl <;> rfl⟩
def Tn.agg (t:Tn):Value:=.agg #[.int .u64 (t.g:Int),.int .u64 (t.c:Int),.int .u64 (t.w:Int)]
def Rw.agg (r:Rw):Value:=.agg #[.int .u64 (r.g:Int),.int .u64 (r.c:Int),.int .u64 (r.d:Int),.int .u64 (r.s:Int),.int .u64 (r.w:Int)]
theorem Rw.ext' {r q:Rw} (h0:r.g=q.g) (h1:r.c=q.c) (h2:r.d=q.d) (h3:r.s=q.s) (h4:r.w=q.w):r=q:=by cases r;cases q;simp_all
deriving instance DecidableEq for Tn
deriving instance DecidableEq for Rw
def Rw.z:Rw:=⟨0,0,0,0,0⟩
def Tn.le (t:Tn) (M:Nat):Prop:=t.g≤M∧t.c≤M∧t.w≤M
def Rw.le (r:Rw) (M:Nat):Prop:=r.g≤M∧r.c≤M∧r.d≤M∧r.s≤M∧r.w≤M
theorem Rw.le.mono {r:Rw} {M N:Nat} (h:r.le M) (k:M≤N):r.le N:=⟨by have:=h.1;omega,by have:=h.2.1;omega,by have:=h.2.2.1;omega,by have:=h.2.2.2.1;omega,by have:=h.2.2.2.2;omega⟩
def Tn.fit (t:Tn):Bool:=decide (t.g≤1099511627776) && decide (t.c≤1099511627776) && decide (t.w≤1099511627776)
theorem Tn.fit_iff (t:Tn):t.fit=true↔t.le 1099511627776:=by simp [Tn.fit,Tn.le,and_assoc]
def Rw.q (r:Rw):Nat:=r.c - r.d - r.s
def Rw.t (r:Rw):Nat:=r.g - r.s - r.w
def keptR (room:Nat) (r:Rw) (t:Tn):Nat:=min t.c (room - r.q)
def servR (room:Nat) (r:Rw) (t:Tn):Nat:=min (r.q + keptR room r t) (r.t + t.g)
def wastR (room:Nat) (r:Rw) (t:Tn):Nat:=if r.q + keptR room r t - servR room r t=0 then min t.w (r.t + t.g - servR room r t) else 0
def Rw.behind (room:Nat) (r:Rw) (t:Tn):Rw:=⟨r.g + t.g,r.c + t.c,r.d + (t.c - keptR room r t),r.s + servR room r t,r.w + wastR room r t⟩
theorem Rw.behind_mk (room:Nat) (r:Rw) (t:Tn):(r.behind room t).g=r.g + t.g∧(r.behind room t).c=r.c + t.c∧(r.behind room t).d=r.d + (t.c - keptR room r t)∧(r.behind room t).s=r.s + servR room r t∧(r.behind room t).w=r.w + wastR room r t:=⟨rfl,rfl,rfl,rfl,rfl⟩
structure Rw.ok (room:Nat) (r:Rw):Prop where
 q1:r.d + r.s≤r.c
 q2:r.c≤r.d + r.s + room
 t1:r.s + r.w≤r.g
 e:r.q=0∨r.t=0
theorem Rw.z_ok (room:Nat):Rw.z.ok room:=⟨Nat.le_refl _,Nat.zero_le _,Nat.le_refl _,.inl rfl⟩
theorem kept_le1 (room:Nat) (r:Rw) (t:Tn):keptR room r t≤t.c:=Nat.min_le_left _ _
theorem kept_le2 (room:Nat) (r:Rw) (t:Tn):keptR room r t≤room - r.q:=Nat.min_le_right _ _
theorem serv_le1 (room:Nat) (r:Rw) (t:Tn):servR room r t≤r.q + keptR room r t:=Nat.min_le_left _ _
theorem serv_le2 (room:Nat) (r:Rw) (t:Tn):servR room r t≤r.t + t.g:=Nat.min_le_right _ _
theorem serv_or (room:Nat) (r:Rw) (t:Tn):servR room r t=r.q + keptR room r t∨servR room r t=r.t + t.g:=by unfold servR;omega
theorem wast_le (room:Nat) (r:Rw) (t:Tn):wastR room r t≤r.t + t.g - servR room r t:=by unfold wastR;split <;> omega
theorem wast_le2 (room:Nat) (r:Rw) (t:Tn):wastR room r t≤t.w:=by unfold wastR;split <;> omega
theorem Rw.ok.behind {room:Nat} {r:Rw} (h:r.ok room) (t:Tn):(r.behind room t).ok room:=by
 obtain ⟨e0,e1,e2,e3,e4⟩:=Rw.behind_mk room r t
 have:=kept_le1 room r t
 have:=kept_le2 room r t
 have:=serv_le1 room r t
 have:=serv_le2 room r t
 have hs:=serv_or room r t
 have:=wast_le room r t
 have h1:=h.q1
 have h2:=h.q2
 have h3:=h.t1
 have hq:r.q=r.c - r.d - r.s:=rfl
 have ht:r.t=r.g - r.s - r.w:=rfl
 refine ⟨by rw [e1,e2,e3];omega,by rw [e1,e2,e3];omega,by rw [e0,e3,e4];omega,?_⟩
 unfold Rw.q Rw.t
 rw [e0,e1,e2,e3,e4]
 omega
theorem Rw.behind_le {room:Nat} {r:Rw} {t:Tn} {M:Nat} (h:r.ok room) (hr:r.le M) (ht:t.le 1099511627776):(r.behind room t).le (M + 1099511627776):=by
 obtain ⟨e0,e1,e2,e3,e4⟩:=Rw.behind_mk room r t
 obtain ⟨a0,a1,a2,a3,a4⟩:=hr
 obtain ⟨b0,b1,b2⟩:=ht
 have k:=h.behind t
 have k1:=k.q1
 have k3:=k.t1
 rw [e1,e2,e3] at k1
 rw [e0,e3,e4] at k3
 have:=wast_le2 room r t
 unfold Rw.le
 rw [e0,e1,e2,e3,e4]
 have:=kept_le1 room r t
 refine ⟨by omega,by omega,by omega,?_,by omega⟩
 omega
def curve (room:Nat) (a:Rw):List Tn→List Rw
 | []=>[]
 | t :: l=>a.behind room t :: curve room (a.behind room t) l
def lastR (room:Nat) (a:Rw) (l:List Tn):Rw:=l.foldl (fun a t=>a.behind room t) a
theorem curve_len (room:Nat) (l:List Tn):∀a,(curve room a l).length=l.length:=by induction l with
 | nil=>intro a;rfl
 | cons t l ih=>intro a;simp [curve,ih]
theorem lastR_snoc (room:Nat) (a:Rw) (l:List Tn) (t:Tn):lastR room a (l ++ [t])=(lastR room a l).behind room t:=by simp [lastR]
theorem curve_snoc (room:Nat) (l:List Tn) (t:Tn):∀a,curve room a (l ++ [t])=curve room a l ++ [(lastR room a l).behind room t]:=by induction l with
 | nil=>intro a;rfl
 | cons x l ih=>intro a;simp [curve,ih,lastR]
def fitR (room:Nat) (l:List Tn):Bool:=decide (room≤72057594037927936) && l.all Tn.fit
def runR (room:Nat) (l:List Tn):List Rw:=if fitR room l then curve room Rw.z l else []
def runE (room:Nat) (l:List Tn):Int:=if fitR room l then 0 else 1
theorem lastR_ok (room:Nat) (l:List Tn):∀a:Rw,a.ok room→(lastR room a l).ok room:=by induction l with
 | nil=>intro a h;exact h
 | cons t l ih=>intro a h;exact ih _ (h.behind t)
theorem lastR_le (room:Nat) (l:List Tn):∀(a:Rw) (M:Nat),a.ok room→a.le M→(∀t∈l,t.fit=true)→(lastR room a l).le (M + l.length * 1099511627776):=by induction l with
 | nil=>intro a M h k _;exact Rw.le.mono (r:=a) k (by simp)
 | cons t l ih=>
   intro a M h k hf
   have h1:=(Tn.fit_iff t).1 (hf t (by simp))
   have:=ih _ _ (h.behind t) (Rw.behind_le h k h1) (fun x hx=>hf x (by simp [hx]))
   refine this.mono ?_
   simp only [List.length_cons];omega
theorem fit_take {l:List Tn} (k:Nat) (h:∀t∈l.take k,t.fit=true) (hlt:k < l.length) (x:Tn) (hx:x=l.getD k Itm.z) (hf:x.fit=true):∀t∈l.take (k + 1),t.fit=true:=by
 intro t ht
 rw [List.take_add_one] at ht
 rcases List.mem_append.1 ht with c | c
 ·exact h t c
 ·have:l[k]? =some x:=by rw [hx,List.getD_eq_getElem?_getD,List.getElem?_eq_getElem hlt];rfl
  rw [this] at c
  simp at c;rw [c];exact hf
theorem fitR_all {room:Nat} {l:List Tn} (h:room≤72057594037927936) (k:∀t∈l,t.fit=true):fitR room l=true:=by
 unfold fitR;simp only [h,decide_true,Bool.true_and];exact List.all_eq_true.2 k
theorem fitR_room {room:Nat} {l:List Tn} (h:¬ room≤72057594037927936):fitR room l=false:=by unfold fitR;simp [h]
theorem fitR_not {room:Nat} {l:List Tn} {x:Tn} (hx:x∈l) (h:x.fit=false):fitR room l=false:=by
 unfold fitR
 have:l.all Tn.fit=false:=by
  cases hq:l.all Tn.fit with
  | false=>rfl
  | true=>rw [List.all_eq_true.1 hq x hx] at h;cases h
 rw [this,Bool.and_false]
theorem take_snoc' {α:Type} [Itm α] (l:List α) (k:Nat) (h:k < l.length) (x:α) (hx:x=l.getD k Itm.z):l.take (k + 1)=l.take k ++ [x]:=by
 rw [List.take_add_one,hx];simp [h]
theorem mem_getD {α:Type} [Itm α] {l:List α} {k:Nat} (h:k < l.length) {x:α} (hx:x=l.getD k Itm.z):x∈l:=by rw [hx];simp [h]
def up1 (x y:Nat):Bool:=decide (x≤y) && decide (y - x≤1099511627776)
def fallsR (a r:Rw):Bool:=!(up1 a.g r.g && up1 a.c r.c && up1 a.d r.d && up1 a.s r.s && up1 a.w r.w)
def roomR (room:Nat) (a r:Rw):Bool:=decide (r.c < r.d + a.s) || decide (room < r.c - r.d - a.s)
def dropR (room:Nat) (a r:Rw):Bool:=decide (a.d < r.d) && decide (r.c - r.d - a.s < room)
def serveR (r:Rw):Bool:=decide (r.c - r.d < r.s) || decide (r.g < r.s + r.w)
def idleR (a r:Rw):Bool:=decide (0 < r.c - r.d - r.s) && (decide (0 < r.g - r.s - r.w) || decide (a.w < r.w))
def clauseR (room:Nat) (a r:Rw):Nat:=if fallsR a r then 1 else if roomR room a r then 2 else if dropR room a r then 3 else if serveR r then 4 else if idleR a r then 5 else 0
def checkR (room:Nat) (a:Rw):Nat→List Rw→Nat × Nat
 | _,[]=>(0,0)
 | i,r :: l=>if clauseR room a r=0 then checkR room r (i + 1) l else (i,clauseR room a r)
def chkR (room:Nat) (l:List Rw):Nat × Nat:=if room≤72057594037927936 then checkR room Rw.z 0 l else (0,1)
def fineR (room:Nat) (a:Rw):List Rw→Prop
 | []=>True
 | r :: l=>clauseR room a r=0∧fineR room r l
def lastW (a:Rw) (l:List Rw):Rw:=l.getLastD a
theorem fineR_snoc (room:Nat) (l:List Rw) (x:Rw):∀a,fineR room a l→clauseR room (lastW a l) x=0→fineR room a (l ++ [x]):=by induction l with
 | nil=>intro a _ h;exact ⟨h,trivial⟩
 | cons y l ih=>
   intro a h k
   refine ⟨h.1,ih y h.2 ?_⟩
   cases l with
   | nil=>exact k
   | cons z l=>exact k
theorem lastW_snoc (a:Rw) (l:List Rw) (x:Rw):lastW a (l ++ [x])=x:=by simp [lastW]
theorem checkR_app (room:Nat) (l m:List Rw):∀(a:Rw) (i:Nat),fineR room a l→checkR room a i (l ++ m)=checkR room (lastW a l) (i + l.length) m:=by induction l with
 | nil=>intro a i _;rfl
 | cons y l ih=>
   intro a i h
   show (if clauseR room a y=0 then checkR room y (i + 1) (l ++ m) else _)=_
   rw [if_pos h.1,ih y (i + 1) h.2,List.length_cons]
   have e:lastW y l=lastW a (y :: l):=by cases l <;> rfl
   rw [e,show i + 1 + l.length=i + (l.length + 1) by omega]
theorem checkR_fine {room:Nat} {l:List Rw} {a:Rw} {i:Nat} (h:fineR room a l):checkR room a i l=(0,0):=by
 have:=checkR_app room l [] a i h
 rw [List.append_nil] at this
 exact this
theorem checkR_stop {room:Nat} {l:List Rw} {k:Nat} {x:Rw} (h:fineR room Rw.z (l.take k)) (hlt:k < l.length) (hx:x=l.getD k Itm.z) (hc:clauseR room (lastW Rw.z (l.take k)) x≠0):checkR room Rw.z 0 l=(k,clauseR room (lastW Rw.z (l.take k)) x):=by
 have e:l=l.take k ++ (x :: l.drop (k + 1)):=by
  have h1:l.drop k=l[k] :: l.drop (k + 1):=List.drop_eq_getElem_cons hlt
  have h2:x=l[k]:=by rw [hx];simp [hlt]
  rw [h2,← h1,List.take_append_drop]
 have:=checkR_app room (l.take k) (x :: l.drop (k + 1)) Rw.z 0 h
 rw [← e] at this
 rw [this]
 show (if clauseR room _ x=0 then _ else _)=_
 rw [if_neg hc,List.length_take,Nat.min_eq_left (by omega),Nat.zero_add]
structure FineW (room:Nat) (a r:Rw):Prop where
 g:a.g≤r.g∧r.g≤a.g + 1099511627776
 c:a.c≤r.c∧r.c≤a.c + 1099511627776
 d:a.d≤r.d∧r.d≤a.d + 1099511627776
 s:a.s≤r.s∧r.s≤a.s + 1099511627776
 w:a.w≤r.w∧r.w≤a.w + 1099511627776
 r1:r.d + a.s≤r.c
 r2:r.c - r.d - a.s≤room
 dr:a.d < r.d→room≤r.c - r.d - a.s
 s1:r.s≤r.c - r.d
 s2:r.s + r.w≤r.g
 id:r.c - r.d - r.s=0∨(r.g - r.s - r.w=0∧r.w≤a.w)
theorem up1_iff (x y:Nat):up1 x y=true↔x≤y∧y≤x + 1099511627776:=by unfold up1;rw [Bool.and_eq_true,decide_eq_true_eq,decide_eq_true_eq];omega
theorem falls_iff (a r:Rw):fallsR a r=false↔((a.g≤r.g∧r.g≤a.g + 1099511627776)∧(a.c≤r.c∧r.c≤a.c + 1099511627776)∧(a.d≤r.d∧r.d≤a.d + 1099511627776)∧(a.s≤r.s∧r.s≤a.s + 1099511627776)∧(a.w≤r.w∧r.w≤a.w + 1099511627776)):=by
 unfold fallsR
 rw [Bool.not_eq_false',Bool.and_eq_true,Bool.and_eq_true,Bool.and_eq_true,Bool.and_eq_true,up1_iff,up1_iff,up1_iff,up1_iff,up1_iff]
 simp only [and_assoc]
theorem clause_fine {room:Nat} {a r:Rw} (h:clauseR room a r=0):FineW room a r:=by
 unfold clauseR at h
 split at h
 ·omega
 next h1=>
 split at h
 ·omega
 next h2=>
 split at h
 ·omega
 next h3=>
 split at h
 ·omega
 next h4=>
 split at h
 ·omega
 next h5=>
 obtain ⟨k0,k1,k2,k3,k4⟩:=(falls_iff a r).1 (by simpa using h1)
 unfold roomR at h2
 unfold dropR at h3
 unfold serveR at h4
 unfold idleR at h5
 simp only [Bool.or_eq_true,Bool.and_eq_true,decide_eq_true_eq,not_or,not_and] at h2 h3 h4 h5
 exact ⟨k0,k1,k2,k3,k4,by omega,by omega,fun hd=>by have:=h3 hd;omega,by omega,by omega,by
  rcases Nat.eq_zero_or_pos (r.c - r.d - r.s) with e | e
  ·exact .inl e
  ·have:=h5 e;exact .inr ⟨by omega,by omega⟩⟩
def turn1 (a r:Rw):Tn:=⟨r.g - a.g,r.c - a.c,r.w - a.w⟩
def turnsR (a:Rw):List Rw→List Tn
 | []=>[]
 | r :: l=>turn1 a r :: turnsR r l
end Go.Proofs.Ytljganehlagnoaa

set_option linter.unusedVariables false
namespace Go.Proofs.Ytljganehlagnoaa
open Go.ChangeShapes Go.WideShapes Go.ChangeAt Go.RowKit
def InT (w:World) (v:Option Addr) (len:Nat) (l:List Tn):Prop:=l.length=len∧Its w v l∧∀t∈l,t.le 18446744073709551615
theorem in_tn {H:Type} {enc:TypeId × Value→H} {w:World} {fuel:Nat} {spare:Nat→Bool} {held:Bool} {v:Option Addr} {len cap:Nat} {x:DataW H × List MemPlace}
  (h:DataW.trod enc Try.prog w 0 spare held fuel 23 [.slice v len cap]=some x):∃l,InT w v len l:=by
 obtain ⟨l,b,off,hl,h1,h2,h3⟩:=in_tn0 h
 refine ⟨l,hl,fun hp=>?_,fun t ht=>?_⟩
 ·obtain ⟨rfl,hb⟩:=h2 hp
  refine ⟨b,off,rfl,hb,fun i j hi hj=>?_⟩
  have hA:=h3 i hi
  have hj:j < 3:=hj
  match j,hj with
  | 0,_=>exact hA.k0
  | 1,_=>exact hA.k1
  | 2,_=>exact hA.k2
 ·obtain ⟨i,hi,rfl⟩:=List.mem_iff_getElem.1 ht
  have hA:=h3 i hi
  have e:l.getD i default=l[i]:=by simp [hi]
  rw [e] at hA
  exact ⟨hA.b0,hA.b1,hA.b2⟩
def InM (w:World) (v:Option Addr) (len:Nat) (l:List Nat):Prop:=l.length=len∧len≤9223372036854775807∧Nums w v l∧∀x∈l,x≤18446744073709551615
theorem in_nm {H:Type} {enc:TypeId × Value→H} {w:World} {fuel:Nat} {spare:Nat→Bool} {held:Bool} {v:Option Addr} {len cap:Nat} {x:DataW H × List MemPlace}
  (h:DataW.trod enc Try.prog w 0 spare held fuel 48 [.slice v len cap]=some x):∃l,InM w v len l:=by
 rcases open_ints Try.underlying48 Try.underlying22 (by kernel_rfl) h with ⟨hcs,_⟩ | ⟨x,l,c,zs,hcs,_,hl,hm,hz,_,hcell,hwz⟩
 ·simp only [List.cons.injEq,Value.slice.injEq,and_true] at hcs
  obtain ⟨rfl,rfl,rfl⟩:=hcs
  exact ⟨[],rfl,by omega,Nums.none _ _,fun x hx=>by simp at hx⟩
 ·simp only [List.cons.injEq,Value.slice.injEq,and_true] at hcs
  obtain ⟨rfl,rfl,rfl⟩:=hcs
  have hz':len≤zs.length:=by rw [hz];split <;> omega
  unfold maxLen at hm
  refine ⟨(zs.take len).map Int.toNat,by simp;omega,by omega,fun hp=>?_,fun n hn=>?_⟩
  ·have hlen:((zs.take len).map Int.toNat).length=len:=by simp;omega
   rw [hlen] at hp
   obtain ⟨b,off,spot⟩:=x
   have h0:=hcell 0 (by omega)
   have hs:spot=none:=by simpa [Addr.add] using World.cell?_spot h0
   subst hs
   refine ⟨b,off,rfl,by have:=World.block_lt_of_cell? _ _ h0;simpa [Addr.add] using this,fun i hi=>?_⟩
   rw [hlen] at hi
   have h1:=hcell i (by omega)
   rw [Go.WideShapes.add_plain] at h1
   have hiz:i < zs.length:=by omega
   have hb:=(bounds_u64 (hwz _ (List.getElem_mem hiz))).1
   rw [h1]
   have e1:zs.getD i 0=zs[i]:=by simp [List.getD_eq_getElem?_getD,hiz]
   have e2:((zs.take len).map Int.toNat).getD i 0=zs[i].toNat:=by simp [List.getD_eq_getElem?_getD,hiz,hi]
   rw [e1,e2,ncell,Int.toNat_of_nonneg hb]
  ·obtain ⟨z,hz2,rfl⟩:=List.mem_map.1 hn
   have:=bounds_u64 (hwz _ (List.mem_of_mem_take hz2))
   omega
end Go.Proofs.Ytljganehlagnoaa
