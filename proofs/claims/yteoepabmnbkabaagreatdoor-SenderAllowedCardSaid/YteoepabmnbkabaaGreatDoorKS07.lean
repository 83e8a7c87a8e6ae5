/- 2 texts put together: what each one says stands ahead of it. -/
import Derived.Test.YteoepabmnbkabaaGreatDoorKS06
import Derived.Test.YteoepabmnbkabaaGreatDoorKS01
set_option linter.unusedVariables false
namespace Go.Proofs.YteoepabmnbkabaaGreatDoor
open Go.RowKit
structure PL where
 out:List Pk
 next:Nat
 reorder:Nat
 top:Nat
 topped:Bool
def PL.lostB (l:PL) (now delay limit:Nat) (p:Pk):Bool:=decide (Pl.addS p.sent limit≤now) || (l.topped && (decide (Pl.addS p.n l.reorder≤l.top) || (decide (p.n < l.top) && decide (Pl.addS p.sent delay≤now))))
end Go.Proofs.YteoepabmnbkabaaGreatDoor

set_option linter.unusedVariables false
namespace Go.Proofs.YteoepabmnbkabaaGreatDoor
open Go.RowKit Pl
structure St where
 sent:Nat
 first:Nat
 deliv:Nat
 at_:Nat
 lim:Bool
deriving DecidableEq
instance:Inhabited St:=⟨⟨0,0,0,0,false⟩⟩
def St.cells (s:St):Array Value:=#[.int .u64 (s.sent:Int),.int .u64 (s.first:Int),.int .u64 (s.deliv:Int),.int .u64 (s.at_:Int),.bool s.lim]
structure St.ok (s:St):Prop where
 sent:s.sent≤18446744073709551615
 first:s.first≤18446744073709551615
 deliv:s.deliv≤18446744073709551615
 at_:s.at_≤18446744073709551615
def Pk.st (p:Pk):St:=⟨p.sent,p.first,p.deliv,p.at_,p.lim⟩
structure Pk.u64 (p:Pk):Prop where
 n:p.n≤18446744073709551615
 size:p.size≤18446744073709551615
 st:p.st.ok
def olderB (a b:St):Bool:=if a.deliv=b.deliv then decide (a.sent < b.sent) else decide (a.deliv < b.deliv)
def pickS (best:St) (p:Pk):St:=if olderB p.st best=true then best else p.st
def newestS (best:St) (l:List Pk):St:=l.foldl pickS best
theorem newestS_take (best:St) {l:List Pk} {k:Nat} (h:k < l.length):newestS best (l.take (k + 1))=pickS (newestS best (l.take k)) (l.getD k Itm.z):=by
 have e:l.getD k Itm.z=l[k]:=by simp [List.getD_eq_getElem?_getD,h]
 rw [List.take_succ_eq_append_getElem h,newestS,List.foldl_append,e]
 rfl
theorem pickS_ok {b:St} {p:Pk} (h:b.ok) (k:p.u64):(pickS b p).ok:=by unfold pickS;split;exact h;exact k.st
theorem newestS_ok {l:List Pk}:∀{b:St},b.ok→(∀p∈l,p.u64)→(newestS b l).ok:=by
 induction l with
 | nil=>intro b h _;exact h
 | cons x t ih=>intro b h k;exact ih (pickS_ok h (k x List.mem_cons_self)) (fun p hp=>k p (List.mem_cons_of_mem _ hp))
def sumP (n:Nat) (l:List Pk):Nat:=l.foldl (fun n p=>addS n p.size) n
theorem sumP_take (n:Nat) {l:List Pk} {k:Nat} (h:k < l.length):sumP n (l.take (k + 1))=addS (sumP n (l.take k)) (l.getD k Itm.z).size:=by
 have e:l.getD k Itm.z=l[k]:=by simp [List.getD_eq_getElem?_getD,h]
 rw [List.take_succ_eq_append_getElem h,sumP,List.foldl_append,e]
 rfl
theorem sumP_le {l:List Pk}:∀{n:Nat},n≤18446744073709551615→sumP n l≤18446744073709551615:=by
 induction l with
 | nil=>intro n h;exact h
 | cons x t ih=>intro n h;exact ih (addS_le _ _)
def perS (d i:Nat):Nat:=if i=0 then 0 else shareS d 1000000 i
structure Smp where
 deliv:Nat
 interval:Nat
 rate:Nat
 rtt:Nat
 lim:Bool
deriving DecidableEq
def Smp.cells (s:Smp):Array Value:=#[.int .u64 (s.deliv:Int),.int .u64 (s.interval:Int),.int .u64 (s.rate:Int),.int .u64 (s.rtt:Int),.bool s.lim]
def Smp.zero:Smp:=⟨0,0,0,0,false⟩
def ivS (now:Nat) (s:St):Nat:=max (subS s.sent s.first) (subS now s.at_)
def smpOf (now bytes:Nat) (s:St):Smp:=⟨subS bytes s.deliv,ivS now s,perS (subS bytes s.deliv) (ivS now s),subS now s.sent,s.lim⟩
theorem perS_le (d i:Nat):perS d i≤18446744073709551615:=by unfold perS;split;omega;exact shareS_le _ _ _
theorem ivS_le {now:Nat} {s:St} (hn:now≤18446744073709551615) (h:s.ok):ivS now s≤18446744073709551615:=by
 unfold ivS subS;have:=h.sent;omega
structure RaS where
 n:Nat
 last:Nat
 first:Nat
 mark:Nat
def RaS.zero:RaS:=⟨0,0,0,0⟩
def RaS.cells (s:RaS):Array Value:=#[.int .u64 (s.n:Int),.int .u64 (s.last:Int),.int .u64 (s.first:Int),.int .u64 (s.mark:Int)]
structure RaS.ok (s:RaS):Prop where
 n:s.n≤18446744073709551615
 last:s.last≤18446744073709551615
 first:s.first≤18446744073709551615
 mark:s.mark≤18446744073709551615
def RaS.stampS (s:RaS) (now fl:Nat):RaS:=if fl=0 then ⟨s.n,now,now,s.mark⟩ else s
def RaS.stampT (s:RaS) (now:Nat):St:=⟨now,s.first,s.n,s.last,decide (s.mark≠0)⟩
def RaS.limit (s:RaS) (fl:Nat):RaS:=⟨s.n,s.last,s.first,max (addS s.n fl) 1⟩
def dropM (n m:Nat):Nat:=if m < n then 0 else m
def RaS.ack (s:RaS) (now:Nat) (p:Pk) (l:List Pk):RaS:=⟨sumP s.n (p :: l),now,(newestS p.st l).sent,dropM (sumP s.n (p :: l)) s.mark⟩
def RaS.ackT (s:RaS) (now:Nat) (p:Pk) (l:List Pk):Smp:=smpOf now (sumP s.n (p :: l)) (newestS p.st l)
theorem RaS.stamp_ok {s:RaS} (h:s.ok) {now:Nat} (hn:now≤18446744073709551615) (fl:Nat):(s.stampS now fl).ok:=by
 unfold RaS.stampS;split
 ·exact ⟨h.n,hn,hn,h.mark⟩
 ·exact h
theorem RaS.limit_ok {s:RaS} (h:s.ok) (fl:Nat):(s.limit fl).ok:=⟨h.n,h.last,h.first,by have:=addS_le s.n fl;show max _ _≤_;omega⟩
theorem dropM_le {n m:Nat} (h:m≤18446744073709551615):dropM n m≤18446744073709551615:=by unfold dropM;split <;> omega
theorem RaS.ack_ok {s:RaS} (h:s.ok) {now:Nat} (hn:now≤18446744073709551615) {p:Pk} {l:List Pk} (hp:∀q∈p :: l,q.u64):(s.ack now p l).ok:=
 ⟨sumP_le h.n,hn,(newestS_ok (hp p List.mem_cons_self).st (fun q hq=>hp q (List.mem_cons_of_mem _ hq))).sent,dropM_le h.mark⟩
end Go.Proofs.YteoepabmnbkabaaGreatDoor
