/- 1 texts put together: what each one says stands ahead of it. -/
import Derived.RangeFuncNested
import Derived.RangeFuncCalls
import Derived.RangeFuncLeaves
import Derived.Test.YtaffjfajjpgjpaaKLinkPlays09
set_option linter.unusedVariables false
namespace Go.Proofs.Ytaffjfajjpgjpaa
open Go.RowKit
def Seq2 {α:Type} (n:Nat) (P:Program) (g:Nat) (lb:Array Value) (encs:α→Array Value) (ok:List α→α→Prop) (St Kr:World→World→Prop) (R0:World→Prop) (S:List α→World→Prop):Prop:=
 ∀(l:Nat) (J:List α→World→Prop) (W:World),(∀pre A B,J pre A→St A B→J pre B)→
  (∀pre x A,J pre A→ok pre x→YieldAt Fence.wide (n - 1) P l (encs x) A fun e B=>e=.returned (.bool true)∧J (pre ++ [x]) B∧Kr A B)→
  R0 W→J [] W→CallsIn Fence.wide n P g (#[.func (.yield l) #[] #[]] ++ lb) W fun e W'=>(∃v,e=.returned v)∧∃xs,S xs W'∧J xs W'
def post2 {α:Type} (B:Nat) (Kr:World→World→Prop) (I:List α→World→Prop) (xs:List α) (W:World):Exit→Act→World→Prop
 | .normal,_,W'=>KeepsFrom B W W'∧Kr W W'∧I xs W'
 | _,_,_=>False
def mk2 (D:Nat):Deferred:={target:=.collected D,args:=#[]}
theorem wp_range2 {α:Type} {P:Program} {n:Nat} {g:Operand} {ps:Array Tmp} {assign body:Code} {Q:Exit→Act→World→Prop} {a:Act} {w:World} {gf:Nat} {lb:Array Value}
  (hg:a.eval g=.func (.func gf) #[] lb) (eg:∀args w,(callFunc gf args).run P w=.ok (.enter gf args) w)
  {encs:α→Array Value} {ok:List α→α→Prop} {St Kr:World→World→Prop} {R0:World→Prop} {S:List α→World→Prop} (hseq:Seq2 (n - 1) P gf lb encs ok St Kr R0 S) (hps:∀x,(encs x).size=ps.size)
  (hSt:∀A B,St A B→∀(k:Nat) (o:Obj),A.heap[k]? =some o→o.isCells=false→B.heap[k]? =some o)
  (hKt:∀A B C,Kr A B→Kr B C→Kr A C) (hKp:∀(A:World) (l:Nat) (o o':Obj),A.heap[l]? =some o→o.isCells=false→Kr A (A.putObj l o'))
  (hR0:∀o o',R0 ((w.alloc o).alloc o')) (hSp:∀xs (A:World) (l:Nat) (o o':Obj),S xs A→A.heap[l]? =some o→o.isCells=false→S xs (A.putObj l o'))
  (I:List α→World→Prop) (hI:∀pre A B,I pre A→St A B→I pre B) (hI0:∀o o',I [] ((w.alloc o).alloc o'))
  (hIp:∀pre (A:World) (l:Nat) (o o':Obj),I pre A→w.heap.size≤l→A.heap[l]? =some o→o.isCells=false→I pre (A.putObj l o'))
  (Ax:α→Act→World→Prop) (hAp:∀x a' (A:World) (l:Nat) (o o':Obj),Ax x a' A→A.heap[l]? =some o→o.isCells=false→Ax x a' (A.putObj l o'))
  (hassign:∀(l:Nat) (pre:List α) (x:α) (W:World) (K:Act→World→Prop),I pre W→(∀a' W',KeepsFrom w.heap.size W W'→Kr W W'→I pre W'→Ax x a' W'→K a' W')→
   assign.wpIn (Fence.wide.inRound l) (n - 1 - 1) P (Exit.then K (fun _ _ _=>False)) {tmps:=(ps.zip (encs x)).foldl (fun t (p,v)=>t.setIfInBounds p v) a.tmps,defers:=[]} W)
  (hbody:∀(l:Nat) (pre:List α) (x:α) (a':Act) (W:World),I pre W→Ax x a' W→ok pre x→body.wpIn (Fence.wide.inRound l) (n - 1 - 1) P (post2 w.heap.size Kr I (pre ++ [x]) W) a' W)
  (hdone:∀(D:Nat) (xs:List α) (W:World),w.heap.size≤D→D < W.heap.size→S xs W→I xs W→W.heap[D]? =some (.deferred (some []))→Q .normal {a with defers:=mk2 D :: a.defers} W):
  (Code.rangeFunc g ps assign body).wpIn Fence.wide n P Q a w:=by
 refine wpIn_rangeFunc fun fn hfn=>?_
 let D:=w.heap.size
 let L:=w.heap.size + 1
 let rc:LoopState→Option Code→Loop:=fun st pe=>{state:=st,pending:=pe,fn,tmps:=a.tmps,params:=ps,assign,body,defers:=D}
 let W1:=(w.alloc (.deferred (some []))).alloc (.loop (rc .ready none))
 have sD:∀{X:World},X.heap[D]? =some (.deferred (some []))→D < X.heap.size:=fun h=>(Array.getElem?_eq_some_iff.1 h).1
 have hDL:D≠L:=Nat.ne_of_lt (Nat.lt_succ_self _)
 have eL:W1.heap[L]? =some (.loop (rc .ready none)):=by
  have:=World.alloc_heap_new (w.alloc (.deferred (some []))) (.loop (rc .ready none));rwa [World.size_alloc] at this
 have eD:W1.heap[D]? =some (.deferred (some [])):=(Below.heap_alloc _ _ _ (by simp [D])).trans (World.alloc_heap_new w _)
 refine ⟨L,[mk2 D],W1,{target:=.fn (.func gf) lb,args:=#[.func (.yield L) #[] #[]]},W1,gf,#[.func (.yield L) #[] #[]] ++ lb,W1,run_enterLoop_outer _ _ _ _ _,?_,?_,?_,fun h=>by simp [Fence.wide] at h,?_⟩
 ·simp only [resolve,hg];simp [go_sem]
 ·intro f' _;trivial
 ·simp [invoke,go_sem,eg]
 ·have turn:∀(st st':LoopState) (xs:List α) (X:World),I xs X→X.heap[L]? =some (.loop (rc st none))→X.heap[D]? =some (.deferred (some []))→
    I xs (X.putObj L (.loop (rc st' none)))∧(X.putObj L (.loop (rc st' none))).heap[L]? =some (.loop (rc st' none))∧(X.putObj L (.loop (rc st' none))).heap[D]? =some (.deferred (some [])):=
   fun st st' xs X hx hl hd=>⟨hIp _ _ _ _ _ hx (Nat.le_succ _) hl rfl,World.putObj_heap_same (Array.getElem?_eq_some_iff.1 hl).1,(World.putObj_heap_other hDL).trans hd⟩
  refine (hseq L (fun pre X=>I pre X∧X.heap[L]? =some (.loop (rc .ready none))∧X.heap[D]? =some (.deferred (some []))) W1
   (fun pre X Y hx hb=>⟨hI _ _ _ hx.1 hb,hSt _ _ hb _ _ hx.2.1 rfl,hSt _ _ hb _ _ hx.2.2 rfl⟩) ?_ (hR0 _ _) ⟨hI0 _ _,eL,eD⟩).mono ?_
  ·intro pre x X ⟨hi,hl,hd⟩ hok
   refine ⟨fn,_,assign,body,run_yield (P:=P) (args:=encs x) hl (hps x),roundIn_of_wpIn hfn (hassign _ pre x X _ hi ?_)⟩
   intro a' X1 hk1 hr1 hi1 hax
   have hl1:=hk1.same _ _ (Nat.le_succ _) hl rfl
   have hd1:=hk1.same _ _ (Nat.le_refl _) hd rfl
   obtain ⟨hi2,hl2,hd2⟩:=turn .ready .busy pre X1 hi1 hl1 hd1
   refine ⟨_,run_beginRound hl1 rfl,wpIn_mono (hbody _ pre x a' _ hi2 (hAp _ _ _ _ _ _ hax hl1 rfl) hok) ?_⟩
   rintro e a3 Y hp
   cases e with
   | normal=>
     obtain ⟨hk,hr,hi3⟩:=hp
     have hl3:=hk.same _ _ (Nat.le_succ _) hl2 rfl
     have hd3:=hk.same _ _ (Nat.le_refl _) hd2 rfl
     exact ⟨_,_,run_endRound none hl3,rfl,turn _ _ _ Y hi3 hl3 hd3,hKt _ _ _ hr1 (hKt _ _ _ (hKp _ _ _ _ hl1 rfl) (hKt _ _ _ hr (hKp _ _ _ _ hl3 rfl)))⟩
   | ret=>exact hp.elim
   | exit id=>exact hp.elim
   | goto t=>exact hp.elim
   | panic ch=>exact hp.elim
   | outgrown=>exact hp.elim
  ·rintro e Y ⟨⟨v,rfl⟩,xs,hS,hi,hl,hd⟩
   obtain ⟨h1,_,h3⟩:=turn .ready .exhausted xs Y hi hl hd
   exact ⟨none,_,run_endLoop hl (by simp [rc]),hdone D xs _ (Nat.le_refl _) (sD h3) (hSp _ _ _ _ _ hS hl rfl) h1 h3⟩
end Go.Proofs.Ytaffjfajjpgjpaa
