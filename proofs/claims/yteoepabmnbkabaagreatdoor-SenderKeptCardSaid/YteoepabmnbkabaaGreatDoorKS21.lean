/- 2 texts put together: what each one says stands ahead of it. -/
import Derived.Test.YteoepabmnbkabaaGreatDoorKS06
import Derived.Test.YteoepabmnbkabaaGreatDoorProg
import Derived.BigQuiet
import Derived.StillTailTactics
import Derived.Deep.RegionHeld3
import Derived.Deep.LoopGhost
import Derived.Laws.AppendOwnNone
import Derived.Maps.AppendAt
import Derived.Deep.AppendLies
set_option linter.unusedVariables false
namespace Go.Proofs.YteoepabmnbkabaaGreatDoor
open Go.RowKit
def ncell (n:Nat):Value:=.int .u64 (n:Int)
def pcells (l:List Nat):Array Value:=(l.map ncell).toArray
theorem pcells_at {l:List Nat} {i:Nat} (h:i < l.length):(pcells l)[i]? =some (.int .u64 ((l.getD i 0:Nat):Int)):=by
 simp [pcells,ncell,List.getD_eq_getElem?_getD,h]
def Nums (w:World) (v:Option Addr) (l:List Nat):Prop:=
 0 < l.length→∃b off,v=some ⟨b,off,none⟩∧b < w.heap.size∧∀i,i < l.length→w.cell? ⟨b,off + i,none⟩=some (ncell (l.getD i 0))
theorem Nums.keep {w w':World} {v:Option Addr} {l:List Nat} (h:Nums w v l) (k:Below w.heap.size w w'):Nums w' v l:=by
 intro hp
 obtain ⟨b,off,e,hb,hc⟩:=h hp
 exact ⟨b,off,e,Nat.lt_of_lt_of_le hb k.size,fun i hi=>(k.cell (p:=⟨b,off + i,none⟩) hb).trans (hc i hi)⟩
theorem Nums.below {B:Nat} {w w':World} {v:Option Addr} {l:List Nat} (h:Nums w v l) (k:Below B w w') (hB:∀a,v=some a→a.block < B):Nums w' v l:=by
 intro hp
 obtain ⟨b,off,e,hb,hc⟩:=h hp
 have hlt:b < B:=hB _ e
 exact ⟨b,off,e,Nat.lt_of_lt_of_le hb k.size,fun i hi=>(k.cell (p:=⟨b,off + i,none⟩) hlt).trans (hc i hi)⟩
protected theorem Nums.none (w:World) (v:Option Addr):Nums w v []:=fun h=>absurd h (by simp)
theorem Nums.of_blk {w:World} {g:Nat} {T:TypeId} {l:List Nat} (h:Blk w g T (pcells l)):Nums w (some ⟨g,0,none⟩) l:=by
 intro _
 refine ⟨g,0,rfl,h.lt,fun i hi=>h.cell ?_⟩
 rw [Nat.zero_add];exact pcells_at hi
theorem map_at {l:List Nat} {j:Nat} {u:Value} (h:(l.map ncell)[j]? =some u):j < l.length∧u=ncell (l.getD j 0):=by
 have hj:j < l.length:=by
  rcases Nat.lt_or_ge j l.length with c | c
  ·exact c
  ·rw [List.getElem?_eq_none (by simpa using c)] at h;cases h
 refine ⟨hj,?_⟩
 simp [hj] at h
 simp [List.getD_eq_getElem?_getD,hj,h]
theorem Nums.cells {w:World} {v:Option Addr} {l:List Nat} (h:Nums w v l) (hp:0 < (l.map ncell).length):∃ad,v=some ad∧∀j u,(l.map ncell)[j]? =some u→w.cell? (ad.add j)=some u:=by
 obtain ⟨b,off,rfl,_,hc⟩:=h (by simpa using hp)
 refine ⟨_,rfl,fun j u hu=>?_⟩
 obtain ⟨hj,rfl⟩:=map_at hu
 rw [Go.WideShapes.add_plain]
 exact hc j hj
def mxs (x:Nat) (l:List Nat):Nat:=l.foldl max x
theorem mxs_app (x:Nat) (l r:List Nat):mxs x (l ++ r)=mxs (mxs x l) r:=by simp [mxs]
theorem mxs_take (x:Nat) {l:List Nat} {k:Nat} (h:k < l.length):mxs x (l.take (k + 1))=max (mxs x (l.take k)) (l.getD k 0):=by
 rw [List.take_succ_eq_append_getElem h,mxs_app]
 simp [mxs,List.getD_eq_getElem?_getD,h]
theorem mxs_lt {x B:Nat} {l:List Nat} (hx:x≤B) (h:∀a∈l,a≤B):mxs x l≤B:=by
 induction l generalizing x with
 | nil=>exact hx
 | cons a r ih=>
   have h1:a≤B:=h a (by simp)
   simp only [mxs,List.foldl_cons] at *
   exact ih (by omega) (fun y hy=>h y (by simp [hy]))
theorem max_if (x y:Nat):(if (x:Int) < (y:Int) then (y:Int) else (x:Int))=((max x y:Nat):Int):=by
 split <;> omega
end Go.Proofs.YteoepabmnbkabaaGreatDoor

set_option linter.unusedVariables false
namespace Go.Proofs.YteoepabmnbkabaaGreatDoor
open Go.RowKit
structure CY where
 a:Nat
 t:Nat
 n:Nat
def CY.cells (s:CY):Array Value:=#[.int .u64 (s.a:Int),.int .u64 (s.t:Int),.int .u64 (s.n:Int)]
def CY.best (s:CY):Nat:=max s.a s.t
def CY.next (s:CY):CY:=⟨s.t,0,(s.n + 1) % 18446744073709551616⟩
def CY.put (s:CY) (l:List Nat):CY:=⟨s.a,mxs s.t l,s.n⟩
def CyAt (w:World) (b:Nat) (s:CY):Prop:=Blk w b 226 s.cells
theorem cy_New (w:World):Calls Tryz.prog 69 #[] w fun e w'=>e=.returned (.pointer (some ⟨w.heap.size,0,none⟩))∧CyAt w' w.heap.size ⟨0,0,0⟩∧Below w.heap.size w w':=by
 go_enter Tryz.func69,Tryz.ntmps69
 go_wp2
 go_ret
 exact ⟨rfl,Blk.new _ _ _,(Below.refl _ _).alloc (Nat.le_refl _) _⟩
theorem cy_Count (b:Nat) (s:CY) (w:World) (h:CyAt w b s):Calls Tryz.prog 251 #[.pointer (some ⟨b,0,none⟩)] w fun e w'=>e=.returned (.int .u64 (s.n:Int))∧w=w':=by
 have h2:=Blk.cell h (i:=2) (v:=.int .u64 (s.n:Int)) rfl
 clear h
 go_enter Tryz.func251,Tryz.ntmps251
 go_wp2
 go_ret
 exact ⟨rfl,rfl⟩
theorem eq_two (a b c d:Int) (w:World):(Op.equalIn 10000 224 (.agg #[.int .u64 a,.int .u64 b]) (.agg #[.int .u64 c,.int .u64 d])).run Tryz.prog w=.ok (a == c && b == d) w:=by
 have u3:=Tryz.underlying22
 have a3:=Tryz.isAgg22
 have z3:=Tryz.sizeOf22
 rw [show (10000:Nat)=9999 + 1 from rfl,Op.equalIn]
 simp only [Sem.run_bind,run_underlying Tryz.underlying224,Result.andThen_ok]
 simp only [Std.Legacy.Range.forIn_eq_forIn_range',Std.Legacy.Range.size,Nat.sub_zero,Nat.add_sub_cancel,Nat.div_one,List.range'_succ,List.range'_zero,List.forIn_cons,List.forIn_nil]
 go_simp
 by_cases h1:a=c <;> by_cases h2:b=d <;> simp [h1,h2]
theorem cy_Best (b:Nat) (s:CY) (w:World) (h:CyAt w b s):Calls Tryz.prog 162 #[.pointer (some ⟨b,0,none⟩)] w fun e w'=>e=.returned (.int .u64 (s.best:Int))∧Below w.heap.size w w':=by
 have h0:=Blk.cell h (i:=0) (v:=.int .u64 (s.a:Int)) rfl
 have h1:=Blk.cell h (i:=1) (v:=.int .u64 (s.t:Int)) rfl
 have HE:=Lib.hid (max_if s.a s.t)
 unfold CY.best
 clear h
 obtain ⟨r,hr⟩:∃r:Bool,((s.a:Int) == 0 && (s.t:Int) == 0)=r:=⟨_,rfl⟩
 have heq:∀w,(Op.equalIn 10000 224 (.agg #[.int .u64 (s.a:Int),.int .u64 (s.t:Int)]) (.agg #[.int .u64 0,.int .u64 0])).run Tryz.prog w=.ok r w:=fun w=>by rw [eq_two,hr]
 have HR:=Lib.hid hr
 clear hr
 rcases r
 ·go_enter Tryz.func162,Tryz.ntmps162
  go_wp2
  go_region
  go_wp2
  all_goals
   go_ret
   exact ⟨ret_u64 (by omega),(Drawn.drew _).below _⟩
 ·go_enter Tryz.func162,Tryz.ntmps162
  go_wp2
  go_ret
  have:=HR.out
  simp at this
  exact ⟨ret_u64 (by rw [this.1,this.2];rfl),Below.refl _ _⟩
theorem cy_Next (b:Nat) (s:CY) (w:World) (h:CyAt w b s):Calls Tryz.prog 243 #[.pointer (some ⟨b,0,none⟩)] w fun e w'=>e=.returned (.tuple #[])∧CyAt w' b s.next∧w.grownBy w' (some b):=by
 have h0:=Blk.cell h (i:=0) (v:=.int .u64 (s.a:Int)) rfl
 have h1:=Blk.cell h (i:=1) (v:=.int .u64 (s.t:Int)) rfl
 have h2:=Blk.cell h (i:=2) (v:=.int .u64 (s.n:Int)) rfl
 have f0:=Blk.free h 0
 have f1:=Blk.free h 1
 have f2:=Blk.free h 2
 have HH:=Lib.hid h
 clear h
 go_enter Tryz.func243,Tryz.ntmps243
 go_wp2
 go_end0
 refine ⟨rfl,?_,gr_set (gr_set (gr_set (gr_refl _ _) _ _) _ _) _ _⟩
 have:=((Blk.set HH.out 0 (.int .u64 (s.t:Int))).set 1 (.int .u64 0)).set 2 (.int .u64 (IntKind.u64.wrap ((s.n:Int) + 1)))
 have e:IntKind.u64.wrap ((s.n:Int) + 1)=(((s.n + 1) % 18446744073709551616:Nat):Int):=by
  simp [IntKind.wrap,IntKind.signed,IntKind.bits]
 unfold CyAt
 simpa [CY.cells,CY.next,e] using this
def PutRel (w:World) (b:Nat) (s:CY) (l:List Nat) (k:Nat) (wr:World):Prop:=k≤l.length∧CyAt wr b (s.put (l.take k))∧w.grownBy wr (some b)
set_option maxHeartbeats 400000 in
theorem cy_Put (b:Nat) (s:CY) (v:Option Addr) (cap:Nat) (l:List Nat) (w:World) (h:CyAt w b s) (hl:Nums w v l) (hv:0 < l.length→∀a,v=some a→a.block≠b) (hn:l.length≤1000):
  Calls Tryz.prog 235 #[.pointer (some ⟨b,0,none⟩),.slice v l.length cap] w fun e w'=>e=.returned (.tuple #[])∧CyAt w' b (s.put l)∧w.grownBy w' (some b):=by
 have HH:=Lib.hid h
 have HN:=Lib.hid hl
 have HV:=Lib.hid hv
 clear h hl hv
 go_enter Tryz.func235,Tryz.ntmps235
 go_wp2_with fail
 go_loopw [10] (fun i wr=>∃k:Nat,i=.int .i64 (k:Int)∧PutRel w b s l k wr) (fun i _=>l.length - (intOf i).toNat)
 case atStart=>exact ⟨0,rfl,Nat.zero_le _,HH.out,gr_refl _ _⟩
 case round=>
  obtain ⟨k,rfl,hk,hc,hg⟩:=hrel
  have HC:=Lib.hid hc
  have HG:=Lib.hid hg
  clear hc hg
  by_cases hlt:k < l.length
  ·obtain ⟨ad,o,rfl,hb,hcl⟩:=HN.out (by omega)
   have hx:=(World.grownBy.cell_far HG.out ⟨ad,o + k,none⟩ hb (by have:=HV.out (by omega) _ rfl;intro e;injection e with e;exact this e)).trans (hcl k hlt)
   have h0:=Blk.cell HC.out (i:=0) (v:=.int .u64 (s.a:Int)) rfl
   have h1:=Blk.cell HC.out (i:=1) (v:=.int .u64 ((mxs s.t (l.take k):Nat):Int)) rfl
   have f1:=Blk.free HC.out 1
   have i0:(0:Int)≤(k:Int):=by omega
   have i1:(k:Int) < (l.length:Int):=by omega
   have HM:=Lib.hid (mxs_take s.t hlt)
   unfold ncell at hx
   generalize l.getD k 0=x at *
   obtain ⟨m,hm⟩:∃m,mxs s.t (l.take k)=m:=⟨_,rfl⟩
   have HMM:=Lib.hid hm
   rw [hm] at h1 HM
   clear hm hcl
   have HE:=Lib.hid (max_if m x)
   go_wp2_with fail
   go_region
   have HC2:Hid (CyAt _ b (s.put (l.take (k + 1)))):=Lib.hid (Blk.set HC.out 1 (.int .u64 ((mxs s.t (l.take (k + 1)):Nat):Int)))
   have HG2:=Lib.hid (gr_drew (gr_set HG.out 1 (.int .u64 ((mxs s.t (l.take (k + 1)):Nat):Int))))
   have HI:Hid ((if m < x then (x:Int) else (m:Int))=((mxs s.t (l.take (k + 1)):Nat):Int)):=Lib.hid (by rw [HM.out];split <;> omega)
   go_wp2_with fail
   rw [HI.out]
   go_roundw
   case rel=>exact ⟨k + 1,by go_num,by omega,HC2.out,HG2.out⟩
   case measure=>simp [intOf];omega
  ·obtain rfl:k=l.length:=by omega
   go_wp2_with fail
   go_end0
   exact ⟨rfl,by have:=HC.out;rwa [List.take_length] at this,HG.out⟩
end Go.Proofs.YteoepabmnbkabaaGreatDoor
