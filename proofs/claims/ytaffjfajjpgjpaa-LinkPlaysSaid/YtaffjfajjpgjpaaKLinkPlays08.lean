/- 1 texts put together: what each one says stands ahead of it. -/
import Derived.Test.YtaffjfajjpgjpaaKLinkPlays02
import Derived.Maps.AppendAt
set_option linter.unusedVariables false
namespace Go.Proofs.Ytaffjfajjpgjpaa
open Go.RowKit
class Itm (α:Type) where
 z:α
 k:Nat
 cs:α→List Value
 pos:0 < k
 len:∀x,(cs x).length=k
 one:∀x v,v∈cs x→v.oneCell'=true
variable {α:Type} [Itm α]
structure QS (α:Type) where
 pl:List α
 first:Nat
 cnt:Nat
def QS.pos (s:QS α) (i:Nat):Nat:=(s.first + i) % s.pl.length
def QS.get (s:QS α) (i:Nat):α:=s.pl.getD (s.pos i) Itm.z
def QS.items (s:QS α):List α:=(List.range s.cnt).map s.get
structure QS.ok (s:QS α):Prop where
 c:s.cnt≤s.pl.length
 f:s.first≤s.pl.length
 m:s.pl.length≤100000
def QS.lay (s:QS α) (n:Nat):List α:=s.items ++ List.replicate (n - s.cnt) Itm.z
def QS.move (s:QS α) (n:Nat):QS α:=⟨s.lay n,0,s.cnt⟩
def QS.put (s:QS α) (i:Nat) (x:α):QS α:=⟨s.pl.set (s.pos i) x,s.first,s.cnt⟩
def QS.narrow (s:QS α):QS α:=if 0 < s.cnt∧s.cnt≤s.pl.length / 4 then s.move (s.pl.length / 2) else s
def QS.wide (s:QS α):QS α:=if s.cnt=s.pl.length then s.move (max 1 (2 * s.cnt)) else s
def QS.push (s:QS α) (x:α):QS α:=⟨s.wide.pl.set (s.wide.pos s.cnt) x,s.wide.first,s.cnt + 1⟩
def QS.shift0 (s:QS α):QS α:=⟨(s.put 0 Itm.z).pl,s.pos 1,s.cnt - 1⟩
def QS.shift (s:QS α):QS α:=s.shift0.narrow
theorem QS.len_items (s:QS α):s.items.length=s.cnt:=by simp [QS.items]
theorem QS.len_lay {s:QS α} {n:Nat} (h:s.cnt≤n):(s.lay n).length=n:=by simp [QS.lay,QS.len_items];omega
theorem QS.pos_lt {β:Type} {s:QS β} (h:0 < s.pl.length) (i:Nat):s.pos i < s.pl.length:=Nat.mod_lt _ h
theorem QS.item_at {s:QS α} {i:Nat} (h:i < s.cnt):s.items[i]? =some (s.get i):=by simp [QS.items,h]
theorem mod_inj {n a i j:Nat} (hi:i < n) (hj:j < n) (h:(a + i) % n=(a + j) % n):i=j:=by
 rcases Nat.lt_trichotomy i j with c | c | c
 ·have:=Nat.sub_mod_eq_zero_of_mod_eq h.symm
  rw [show a + j - (a + i)=j - i by omega,Nat.mod_eq_of_lt (by omega)] at this
  omega
 ·exact c
 ·have:=Nat.sub_mod_eq_zero_of_mod_eq h
  rw [show a + i - (a + j)=i - j by omega,Nat.mod_eq_of_lt (by omega)] at this
  omega
theorem QS.items_ext {s t:QS α} (hc:s.cnt=t.cnt) (h:∀i,i < s.cnt→s.get i=t.get i):s.items=t.items:=by
 apply List.ext_getElem?;intro i
 by_cases c:i < s.cnt
 ·rw [QS.item_at c,QS.item_at (by omega),h i c]
 ·rw [List.getElem?_eq_none (by rw [QS.len_items];omega),List.getElem?_eq_none (by rw [QS.len_items];omega)]
theorem QS.move_items {s:QS α} {n:Nat} (h:s.cnt≤n):(s.move n).items=s.items:=by
 refine QS.items_ext rfl fun i hi=>?_
 have hi':i < s.cnt:=hi
 have e:(s.move n).get i=((s.lay n)[i % (s.lay n).length]?).getD Itm.z:=by simp [QS.get,QS.pos,QS.move,List.getD_eq_getElem?_getD]
 rw [e,QS.len_lay h,Nat.mod_eq_of_lt (by omega),QS.lay,List.getElem?_append_left (by rw [QS.len_items];omega),QS.item_at hi']
 rfl
theorem QS.move_ok {s:QS α} {n:Nat} (h:s.cnt≤n) (hn:n≤100000):(s.move n).ok:=by
 have e:=QS.len_lay h
 exact ⟨by show s.cnt≤(s.lay n).length;omega,Nat.zero_le _,by show (s.lay n).length≤_;omega⟩
theorem QS.move_len {s:QS α} {n:Nat} (h:s.cnt≤n):(s.move n).pl.length=n:=QS.len_lay h
theorem QS.narrow_items {s:QS α} (h:s.ok):s.narrow.items=s.items:=by
 unfold QS.narrow;split
 ·exact QS.move_items (by have:=h.c;omega)
 ·rfl
theorem QS.narrow_ok {s:QS α} (h:s.ok):s.narrow.ok:=by
 unfold QS.narrow;split
 ·exact QS.move_ok (by have:=h.c;omega) (by have:=h.m;omega)
 ·exact h
theorem QS.wide_items {s:QS α}:s.wide.items=s.items:=by
 unfold QS.wide;split
 ·exact QS.move_items (by omega)
 ·rfl
theorem QS.wide_cnt (s:QS α):s.wide.cnt=s.cnt:=by unfold QS.wide;split <;> rfl
theorem QS.wide_ok {s:QS α} (h:s.ok) (hc:s.cnt≤5000):s.wide.ok:=by
 unfold QS.wide;split
 ·exact QS.move_ok (by omega) (by omega)
 ·exact h
theorem QS.wide_room {s:QS α} (h:s.ok):s.cnt < s.wide.pl.length:=by
 unfold QS.wide;split
 ·rw [QS.move_len (by omega)];omega
 ·have:=h.c;omega
theorem QS.put_get {s:QS α} {i j:Nat} {x:α} (hi:i < s.pl.length) (hj:j < s.pl.length):(s.put i x).get j=if i=j then x else s.get j:=by
 have hp:=QS.pos_lt (s:=s) (by omega) i
 unfold QS.get QS.put QS.pos at *
 simp only [List.length_set,List.getD_eq_getElem?_getD]
 by_cases c:i=j
 ·subst c
  rw [List.getElem?_set_self hp,if_pos rfl];rfl
 ·rw [List.getElem?_set_ne (fun e=>c (mod_inj hi hj e)),if_neg c]
theorem QS.push_items {s:QS α} (h:s.ok) (x:α):(s.push x).items=s.items ++ [x]:=by
 have hr:=QS.wide_room h
 rw [← QS.wide_items (s:=s)]
 have hc:=QS.wide_cnt s
 apply List.ext_getElem?;intro i
 by_cases c:i < s.cnt
 ·rw [QS.item_at (show i < s.cnt + 1 by omega),List.getElem?_append_left (by rw [QS.len_items];omega),QS.item_at (by omega)]
  have:=QS.put_get (s:=s.wide) (i:=s.cnt) (j:=i) (x:=x) hr (by omega)
  rw [if_neg (by omega)] at this
  rw [← this];rfl
 ·by_cases d:i=s.cnt
  ·subst d
   rw [QS.item_at (show s.cnt < s.cnt + 1 by omega),List.getElem?_append_right (by rw [QS.len_items];omega),QS.len_items,hc,Nat.sub_self]
   have:=QS.put_get (s:=s.wide) (i:=s.cnt) (j:=s.cnt) (x:=x) hr hr
   rw [if_pos rfl] at this
   show some ((s.wide.put s.cnt x).get s.cnt)=_
   rw [this];rfl
  ·rw [List.getElem?_eq_none (by rw [QS.len_items];show s.cnt + 1≤i;omega),List.getElem?_eq_none (by simp [QS.len_items,hc];omega)]
theorem QS.push_ok {s:QS α} (h:s.ok) (hc:s.cnt≤5000) (x:α):(s.push x).ok:=by
 have hr:=QS.wide_room h
 have hw:=QS.wide_ok h hc
 exact ⟨by simp only [QS.push,List.length_set];omega,by simp only [QS.push,List.length_set];exact hw.f,by simp only [QS.push,List.length_set];exact hw.m⟩
theorem QS.shift0_ok {s:QS α} (h:s.ok) (hc:0 < s.cnt):s.shift0.ok:=by
 have:=h.c;have:=h.m
 have hp:=QS.pos_lt (s:=s) (by omega) 1
 exact ⟨by simp only [QS.shift0,QS.put,List.length_set];omega,by simp only [QS.shift0,QS.put,List.length_set];omega,by simp only [QS.shift0,QS.put,List.length_set];omega⟩
theorem QS.shift_items {s:QS α} (h:s.ok) (hc:0 < s.cnt):s.shift.items=s.items.drop 1:=by
 have:=h.c
 rw [QS.shift,QS.narrow_items (QS.shift0_ok h hc)]
 apply List.ext_getElem?;intro i
 rw [List.getElem?_drop]
 by_cases c:i < s.cnt - 1
 ·rw [QS.item_at (show i < s.cnt - 1 from c),QS.item_at (by omega)]
  have e:=QS.put_get (s:=s) (i:=0) (j:=1 + i) (x:=Itm.z) (by omega) (by omega)
  rw [if_neg (by omega)] at e
  rw [← e]
  simp only [QS.get,QS.shift0,QS.pos,QS.put,List.length_set,Nat.mod_add_mod,Nat.add_assoc]
 ·rw [List.getElem?_eq_none (by rw [QS.len_items];show s.cnt - 1≤i;omega),List.getElem?_eq_none (by rw [QS.len_items];omega)]
theorem QS.shift_ok {s:QS α} (h:s.ok) (hc:0 < s.cnt):s.shift.ok:=QS.narrow_ok (QS.shift0_ok h hc)
theorem QS.put_pos {β:Type} (s:QS β) (i:Nat) (x:β) (j:Nat):(s.put i x).pos j=s.pos j:=by simp [QS.pos,QS.put]
theorem QS.put_ok {β:Type} {s:QS β} (h:s.ok) (i:Nat) (x:β):(s.put i x).ok:=⟨by simp only [QS.put,List.length_set];exact h.c,by simp only [QS.put,List.length_set];exact h.f,by simp only [QS.put,List.length_set];exact h.m⟩
theorem QS.put_len {β:Type} (s:QS β) (i:Nat) (x:β):(s.put i x).pl.length=s.pl.length:=by simp [QS.put]
theorem QS.get_item {s:QS α} {i:Nat} (h:i < s.cnt):s.items.getD i Itm.z=s.get i:=by
 rw [List.getD_eq_getElem?_getD,QS.item_at h];rfl
theorem lay_put {s:QS α} {n k:Nat} (hk:k < s.cnt) (hn:s.cnt≤n):(s.items.take k ++ List.replicate (n - k) Itm.z).set k (s.get k)=s.items.take (k + 1) ++ List.replicate (n - (k + 1)) Itm.z:=by
 have e:s.items[k]? =some (s.get k):=QS.item_at hk
 rw [List.take_add_one,e,List.set_append_right _ _ (by simp [QS.len_items];omega),show n - k=(n - (k + 1)) + 1 by omega,List.replicate_succ]
 have:k - (List.take k s.items).length=0:=by simp [QS.len_items];omega
 rw [this]
 simp
theorem QS.new_items (f:List α):(QS.items ⟨f,0,f.length⟩)=f:=by
 apply List.ext_getElem?;intro i
 by_cases c:i < f.length
 ·rw [QS.item_at (s:=⟨f,0,f.length⟩) c]
  simp [QS.get,QS.pos,Nat.mod_eq_of_lt c,List.getD_eq_getElem?_getD,c]
 ·rw [List.getElem?_eq_none (by rw [QS.len_items];show f.length≤i;omega),List.getElem?_eq_none (by omega)]
theorem QS.new_ok {β:Type} {f:List β} (h:f.length≤100000):QS.ok (⟨f,0,f.length⟩:QS β):=⟨Nat.le_refl _,Nat.zero_le _,h⟩
def icells (l:List α):Array Value:=(l.flatMap Itm.cs).toArray
theorem icells_len:∀l:List α,(l.flatMap (Itm.cs (α:=α))).length=l.length * Itm.k α
 | []=>by simp
 | x :: l=>by rw [List.flatMap_cons,List.length_append,icells_len l,Itm.len,List.length_cons,Nat.succ_mul];omega
theorem icells_size (l:List α):(icells l).size=l.length * Itm.k α:=by unfold icells;rw [List.size_toArray];exact icells_len l
theorem iget:∀(l:List α) (i j:Nat),j < Itm.k α→(l.flatMap (Itm.cs (α:=α)))[i * Itm.k α + j]? =(l[i]?).bind fun x=>(Itm.cs x)[j]?
 | [],i,j,_=>by simp
 | x :: l,0,j,h=>by rw [List.flatMap_cons,Nat.zero_mul,Nat.zero_add,List.getElem?_append_left (by rw [Itm.len];exact h)];rfl
 | x :: l,i + 1,j,h=>by
   rw [List.flatMap_cons,List.getElem?_append_right (by rw [Itm.len,Nat.succ_mul];omega),Itm.len,show (i + 1) * Itm.k α + j - Itm.k α=i * Itm.k α + j by rw [Nat.succ_mul];omega,iget l i j h]
   rfl
theorem icells_get (l:List α) (i j:Nat) (h:j < Itm.k α):(icells l)[i * Itm.k α + j]? =(l[i]?).bind fun x=>(Itm.cs x)[j]?:=by
 simp only [icells,List.getElem?_toArray];exact iget l i j h
theorem icells_at {l:List α} {i:Nat} (j:Nat) (h:i < l.length) (hj:j < Itm.k α):(icells l)[i * Itm.k α + j]? =(Itm.cs (l.getD i Itm.z))[j]?:=by
 rw [icells_get l i j hj];simp [List.getD_eq_getElem?_getD,h]
theorem icells_ext {l:List α} {a:Array Value} (hs:a.size=l.length * Itm.k α) (h:∀i j,i < l.length→j < Itm.k α→a[i * Itm.k α + j]? =(Itm.cs (l.getD i Itm.z))[j]?):a=icells l:=by
 apply Array.ext_getElem?;intro m
 by_cases hm:m < l.length * Itm.k α
 ·have hp:=Itm.pos (α:=α)
  have e:=Nat.div_add_mod m (Itm.k α)
  have hi:m / Itm.k α < l.length:=Nat.div_lt_of_lt_mul (by rw [Nat.mul_comm];exact hm)
  have hj:=Nat.mod_lt m hp
  rw [← e,Nat.mul_comm,h _ _ hi hj,icells_at _ hi hj]
 ·rw [Array.getElem?_eq_none (by omega),Array.getElem?_eq_none (by rw [icells_size];omega)]
def putA (a:Array Value) (off:Nat):List Value→Array Value
 | []=>a
 | v :: vs=>putA (a.setIfInBounds off v) (off + 1) vs
theorem putA_size:∀(vs:List Value) (a:Array Value) (off:Nat),(putA a off vs).size=a.size
 | [],_,_=>rfl
 | v :: vs,a,off=>by rw [putA,putA_size vs,Array.size_setIfInBounds]
theorem putA_get:∀(vs:List Value) (a:Array Value) (off m:Nat),off + vs.length≤a.size→(putA a off vs)[m]? =if off≤m∧m < off + vs.length then vs[m - off]? else a[m]?
 | [],a,off,m,_=>by rw [putA,if_neg (by simp)]
 | v :: vs,a,off,m,h=>by
   rw [List.length_cons] at h
   rw [putA,putA_get vs _ _ m (by rw [Array.size_setIfInBounds];omega),List.length_cons]
   by_cases c:off=m
   ·subst c
    rw [if_neg (by omega),if_pos (by omega),Array.getElem?_setIfInBounds_self_of_lt (by omega),Nat.sub_self]
    rfl
   ·rw [Array.getElem?_setIfInBounds_ne c]
    by_cases d:off + 1≤m∧m < off + 1 + vs.length
    ·rw [if_pos d,if_pos (by omega),show m - off=(m - (off + 1)) + 1 by omega,List.getElem?_cons_succ]
    ·rw [if_neg d,if_neg (by omega)]
theorem putA_item (l:List α) (i:Nat) (x:α) (hi:i < l.length):putA (icells l) (i * Itm.k α) (Itm.cs x)=icells (l.set i x):=by
 have hp:=Itm.pos (α:=α)
 have hsz:=icells_size l
 have hroom:i * Itm.k α + (Itm.cs x).length≤(icells l).size:=by
  rw [Itm.len,hsz,← Nat.succ_mul];exact Nat.mul_le_mul_right _ hi
 refine icells_ext (by rw [putA_size,hsz,List.length_set]) fun m j hm hj=>?_
 rw [List.length_set] at hm
 rw [putA_get _ _ _ _ hroom,Itm.len]
 by_cases c:i=m
 ·subst c
  rw [if_pos (by omega),show i * Itm.k α + j - i * Itm.k α=j by omega]
  have g:(l.set i x).getD i Itm.z=x:=by simp [List.getD_eq_getElem?_getD,hm]
  rw [g]
 ·have g:(l.set i x).getD m Itm.z=l.getD m Itm.z:=by simp [List.getD_eq_getElem?_getD,List.getElem?_set_ne c]
  rw [g,if_neg,icells_at j hm hj]
  rintro ⟨h1,h2⟩
  rcases Nat.lt_or_ge i m with d | d
  ·have:=Nat.mul_le_mul_right (Itm.k α) (show i + 1≤m from d)
   rw [Nat.succ_mul] at this;omega
  ·have:=Nat.mul_le_mul_right (Itm.k α) (show m + 1≤i by omega)
   rw [Nat.succ_mul] at this;omega
theorem madeCells_items (z:Array Value) (hz:z=(Itm.cs (Itm.z (α:=α))).toArray) (n:Nat):madeCells z (n * Itm.k α)=icells (List.replicate n (Itm.z (α:=α))):=by
 have hl:z.size=Itm.k α:=by rw [hz,List.size_toArray,Itm.len]
 refine icells_ext (by rw [size_madeCells,List.length_replicate]) fun m j hm hj=>?_
 rw [List.length_replicate] at hm
 have hlt:m * Itm.k α + j < n * Itm.k α:=by
  have:=Nat.mul_le_mul_right (Itm.k α) (show m + 1≤n from hm)
  rw [Nat.succ_mul] at this;omega
 have g:(List.replicate n (Itm.z (α:=α))).getD m Itm.z=Itm.z:=by simp [List.getD_eq_getElem?_getD,hm]
 have e1:(m * Itm.k α + j) % Itm.k α=j:=by rw [Nat.mul_comm,Nat.mul_add_mod,Nat.mod_eq_of_lt hj]
 have hj':j < (Itm.cs (Itm.z (α:=α))).length:=by rw [Itm.len];exact hj
 rw [g]
 unfold madeCells
 rw [Array.getElem?_map,Array.getElem?_range,if_pos hlt,Option.map_some,hl,e1,hz,List.getElem!_toArray,List.getElem!_eq_getElem?_getD,List.getElem?_eq_getElem hj']
 rfl
theorem one_items (l:List α):∀v∈l.flatMap (Itm.cs (α:=α)),v.oneCell'=true:=by
 intro v hv
 obtain ⟨x,_,hx⟩:=List.mem_flatMap.1 hv
 exact Itm.one x v hx
end Go.Proofs.Ytaffjfajjpgjpaa
