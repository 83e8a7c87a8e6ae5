/- 1 texts put together: what each one says stands ahead of it. -/
import Derived.Test.YtljganehlagnoaaKMeterMore01
import Derived.Maps.AppendAt
set_option linter.unusedVariables false
namespace Go.Proofs.Ytljganehlagnoaa
open Go.RowKit
class Itm (α:Type) where
 z:α
 k:Nat
 cs:α→List Value
 pos:0 < k
 len:∀x,(cs x).length=k
 one:∀x v,v∈cs x→v.oneCell'=true
variable {α:Type} [Itm α]
structure QS (α:Type) where
 pl:List α
 first:Nat
 cnt:Nat
def QS.pos (s:QS α) (i:Nat):Nat:=(s.first + i) % s.pl.length
def QS.get (s:QS α) (i:Nat):α:=s.pl.getD (s.pos i) Itm.z
def QS.items (s:QS α):List α:=(List.range s.cnt).map s.get
structure QS.ok (s:QS α):Prop where
 c:s.cnt≤s.pl.length
 f:s.first≤s.pl.length
 m:s.pl.length≤100000
def QS.put (s:QS α) (i:Nat) (x:α):QS α:=⟨s.pl.set (s.pos i) x,s.first,s.cnt⟩
def icells (l:List α):Array Value:=(l.flatMap Itm.cs).toArray
theorem icells_len:∀l:List α,(l.flatMap (Itm.cs (α:=α))).length=l.length * Itm.k α
 | []=>by simp
 | x :: l=>by rw [List.flatMap_cons,List.length_append,icells_len l,Itm.len,List.length_cons,Nat.succ_mul];omega
theorem iget:∀(l:List α) (i j:Nat),j < Itm.k α→(l.flatMap (Itm.cs (α:=α)))[i * Itm.k α + j]? =(l[i]?).bind fun x=>(Itm.cs x)[j]?
 | [],i,j,_=>by simp
 | x :: l,0,j,h=>by rw [List.flatMap_cons,Nat.zero_mul,Nat.zero_add,List.getElem?_append_left (by rw [Itm.len];exact h)];rfl
 | x :: l,i + 1,j,h=>by
   rw [List.flatMap_cons,List.getElem?_append_right (by rw [Itm.len,Nat.succ_mul];omega),Itm.len,show (i + 1) * Itm.k α + j - Itm.k α=i * Itm.k α + j by rw [Nat.succ_mul];omega,iget l i j h]
   rfl
theorem icells_get (l:List α) (i j:Nat) (h:j < Itm.k α):(icells l)[i * Itm.k α + j]? =(l[i]?).bind fun x=>(Itm.cs x)[j]?:=by
 simp only [icells,List.getElem?_toArray];exact iget l i j h
theorem icells_at {l:List α} {i:Nat} (j:Nat) (h:i < l.length) (hj:j < Itm.k α):(icells l)[i * Itm.k α + j]? =(Itm.cs (l.getD i Itm.z))[j]?:=by
 rw [icells_get l i j hj];simp [List.getD_eq_getElem?_getD,h]
def putA (a:Array Value) (off:Nat):List Value→Array Value
 | []=>a
 | v :: vs=>putA (a.setIfInBounds off v) (off + 1) vs
theorem putA_get:∀(vs:List Value) (a:Array Value) (off m:Nat),off + vs.length≤a.size→(putA a off vs)[m]? =if off≤m∧m < off + vs.length then vs[m - off]? else a[m]?
 | [],a,off,m,_=>by rw [putA,if_neg (by simp)]
 | v :: vs,a,off,m,h=>by
   rw [List.length_cons] at h
   rw [putA,putA_get vs _ _ m (by rw [Array.size_setIfInBounds];omega),List.length_cons]
   by_cases c:off=m
   ·subst c
    rw [if_neg (by omega),if_pos (by omega),Array.getElem?_setIfInBounds_self_of_lt (by omega),Nat.sub_self]
    rfl
   ·rw [Array.getElem?_setIfInBounds_ne c]
    by_cases d:off + 1≤m∧m < off + 1 + vs.length
    ·rw [if_pos d,if_pos (by omega),show m - off=(m - (off + 1)) + 1 by omega,List.getElem?_cons_succ]
    ·rw [if_neg d,if_neg (by omega)]
end Go.Proofs.Ytljganehlagnoaa
