/- 1 texts put together: what each one says stands ahead of it. -/
import Derived.Test.YtljganehlagnoaaKMeterMore03
import Derived.Test.YtljganehlagnoaaProg
import Derived.BigQuiet
import Derived.StillTailTactics
import Derived.Deep.RegionHeld3
import Derived.Deep.LoopGhost
import Derived.Laws.AppendOwnNone
import Derived.Maps.AppendAt
import Derived.Deep.AppendLies
set_option linter.unusedVariables false
namespace Go.Proofs.Ytljganehlagnoaa
open Go.RowKit
def ncell (n:Nat):Value:=.int .u64 (n:Int)
def pcells (l:List Nat):Array Value:=(l.map ncell).toArray
theorem pcells_at {l:List Nat} {i:Nat} (h:i < l.length):(pcells l)[i]? =some (.int .u64 ((l.getD i 0:Nat):Int)):=by
 simp [pcells,ncell,List.getD_eq_getElem?_getD,h]
def Nums (w:World) (v:Option Addr) (l:List Nat):Prop:=
 0 < l.length→∃b off,v=some ⟨b,off,none⟩∧b < w.heap.size∧∀i,i < l.length→w.cell? ⟨b,off + i,none⟩=some (ncell (l.getD i 0))
theorem Nums.keep {w w':World} {v:Option Addr} {l:List Nat} (h:Nums w v l) (k:Below w.heap.size w w'):Nums w' v l:=by
 intro hp
 obtain ⟨b,off,e,hb,hc⟩:=h hp
 exact ⟨b,off,e,Nat.lt_of_lt_of_le hb k.size,fun i hi=>(k.cell (p:=⟨b,off + i,none⟩) hb).trans (hc i hi)⟩
theorem Nums.below {B:Nat} {w w':World} {v:Option Addr} {l:List Nat} (h:Nums w v l) (k:Below B w w') (hB:∀a,v=some a→a.block < B):Nums w' v l:=by
 intro hp
 obtain ⟨b,off,e,hb,hc⟩:=h hp
 have hlt:b < B:=hB _ e
 exact ⟨b,off,e,Nat.lt_of_lt_of_le hb k.size,fun i hi=>(k.cell (p:=⟨b,off + i,none⟩) hlt).trans (hc i hi)⟩
protected theorem Nums.none (w:World) (v:Option Addr):Nums w v []:=fun h=>absurd h (by simp)
theorem Nums.of_blk {w:World} {g:Nat} {T:TypeId} {l:List Nat} (h:Blk w g T (pcells l)):Nums w (some ⟨g,0,none⟩) l:=by
 intro _
 refine ⟨g,0,rfl,h.lt,fun i hi=>h.cell ?_⟩
 rw [Nat.zero_add];exact pcells_at hi
theorem map_at {l:List Nat} {j:Nat} {u:Value} (h:(l.map ncell)[j]? =some u):j < l.length∧u=ncell (l.getD j 0):=by
 have hj:j < l.length:=by
  rcases Nat.lt_or_ge j l.length with c | c
  ·exact c
  ·rw [List.getElem?_eq_none (by simpa using c)] at h;cases h
 refine ⟨hj,?_⟩
 simp [hj] at h
 simp [List.getD_eq_getElem?_getD,hj,h]
theorem Nums.cells {w:World} {v:Option Addr} {l:List Nat} (h:Nums w v l) (hp:0 < (l.map ncell).length):∃ad,v=some ad∧∀j u,(l.map ncell)[j]? =some u→w.cell? (ad.add j)=some u:=by
 obtain ⟨b,off,rfl,_,hc⟩:=h (by simpa using hp)
 refine ⟨_,rfl,fun j u hu=>?_⟩
 obtain ⟨hj,rfl⟩:=map_at hu
 rw [Go.WideShapes.add_plain]
 exact hc j hj
end Go.Proofs.Ytljganehlagnoaa
