/- 1 texts put together: what each one says stands ahead of it. -/
import Derived.RangeFuncNested
import Derived.RangeFuncCalls
import Derived.RangeFuncLeaves
import Derived.Test.YteoepabmnbkabaaGreatDoorKS06
set_option linter.unusedVariables false
namespace Go.Proofs.YteoepabmnbkabaaGreatDoor
open Go.RowKit
def Seq1 {α:Type} (n:Nat) (P:Program) (g:Nat) (lb:Array Value) (encs:α→Array Value) (ok:List α→α→Prop) (S Sp:List α→Prop) (R:List α→World→Prop):Prop:=
 ∀(l:Nat) (J Jx:List α→World→Prop) (W:World),(∀pre A B,J pre A→Below A.heap.size A B→J pre B)→(∀pre A B,Jx pre A→Below A.heap.size A B→Jx pre B)→(∀pre A,J pre A→R pre A)→
  (∀pre x A,J pre A→ok pre x→YieldAt Fence.wide (n - 1) P l (encs x) A fun e B=>(e=.returned (.bool true)∧J (pre ++ [x]) B)∨(e=.returned (.bool false)∧Jx (pre ++ [x]) B))→
  J [] W→CallsIn Fence.wide n P g (#[.func (.yield l) #[] #[]] ++ lb) W fun e W'=>(∃v,e=.returned v)∧((∃xs,S xs∧J xs W')∨(∃pre,Sp pre∧Jx pre W'))
def post1 {α:Type} (B:Nat) (I:List α→World→Prop) (Ix:Code→List α→World→Prop) (xs:List α) (W:World):Exit→Act→World→Prop
 | .normal,_,W'=>KeepsFrom B W W'∧I xs W'
 | .ret,_,W'=>KeepsFrom B W W'∧Ix .ret xs W'
 | .exit id,_,W'=>KeepsFrom B W W'∧Ix (.exit id) xs W'
 | .goto t,_,W'=>KeepsFrom B W W'∧Ix (.goto t) xs W'
 | .panic _,_,_=>False
 | .outgrown,_,_=>False
theorem own_below {α:Type} {B:Nat} {I:List α→World→Prop} (h:OwnFrom B I) {pre:List α} {X Y:World} (hx:I pre X) (hb:Below X.heap.size X Y):I pre Y:=
 h pre X Y none hx (gr_below hb none) (fun r e=>by cases e)
def mk1 (D:Nat):Deferred:={target:=.collected D,args:=#[]}
theorem wp_range1 {α:Type} {P:Program} {n:Nat} {g:Operand} {ps:Array Tmp} {assign body:Code} {Q:Exit→Act→World→Prop} {a:Act} {w:World} {gf:Nat} {lb:Array Value}
  (hg:a.eval g=.func (.func gf) #[] lb) (eg:∀args w,(callFunc gf args).run P w=.ok (.enter gf args) w)
  {encs:α→Array Value} {ok:List α→α→Prop} {S Sp:List α→Prop} {R:List α→World→Prop} (hseq:Seq1 (n - 1) P gf lb encs ok S Sp R) (hps:∀x,(encs x).size=ps.size)
  (I:List α→World→Prop) (Ix:Code→List α→World→Prop) (hI:OwnFrom w.heap.size I) (hIx:∀c,OwnFrom w.heap.size (Ix c)) (hR:∀pre A,I pre A→R pre A) (h0:I [] w) (a₁:α→Act)
  (hassign:∀(l:Nat) (x:α) (W:World) (K:Act→World→Prop),K (a₁ x) W→
   assign.wpIn (Fence.wide.inRound l) (n - 1 - 1) P (Exit.then K (fun _ _ _=>False)) {tmps:=(ps.zip (encs x)).foldl (fun t (p,v)=>t.setIfInBounds p v) a.tmps,defers:=[]} W)
  (hbody:∀(l:Nat) (pre:List α) (x:α) (W:World),I pre W→ok pre x→body.wpIn (Fence.wide.inRound l) (n - 1 - 1) P (post1 w.heap.size I Ix (pre ++ [x]) W) (a₁ x) W)
  (hdone:∀(D:Nat) (xs:List α) (W:World),w.heap.size≤D→D < W.heap.size→S xs→I xs W→W.heap[D]? =some (.deferred (some []))→Q .normal {a with defers:=mk1 D :: a.defers} W)
  (hstop:∀(D:Nat) (c:Code) (pre:List α) (W:World),w.heap.size≤D→D < W.heap.size→Sp pre→Ix c pre W→W.heap[D]? =some (.deferred (some []))→c.wpIn Fence.wide n P Q {a with defers:=mk1 D :: a.defers} W):
  (Code.rangeFunc g ps assign body).wpIn Fence.wide n P Q a w:=by
 refine wpIn_rangeFunc fun fn hfn=>?_
 let D:=w.heap.size
 let L:=w.heap.size + 1
 let rc:LoopState→Option Code→Loop:=fun st pe=>{state:=st,pending:=pe,fn,tmps:=a.tmps,params:=ps,assign,body,defers:=D}
 let W1:=(w.alloc (.deferred (some []))).alloc (.loop (rc .ready none))
 have sD:∀{X:World},X.heap[D]? =some (.deferred (some []))→D < X.heap.size:=fun h=>(Array.getElem?_eq_some_iff.1 h).1
 have hDL:D≠L:=Nat.ne_of_lt (Nat.lt_succ_self _)
 have eL:W1.heap[L]? =some (.loop (rc .ready none)):=by
  have:=World.alloc_heap_new (w.alloc (.deferred (some []))) (.loop (rc .ready none));rwa [World.size_alloc] at this
 have eD:W1.heap[D]? =some (.deferred (some [])):=(Below.heap_alloc _ _ _ (by simp [D])).trans (World.alloc_heap_new w _)
 have eI:I [] W1:=hI.alloc _ (hI.alloc _ h0)
 refine ⟨L,[mk1 D],W1,{target:=.fn (.func gf) lb,args:=#[.func (.yield L) #[] #[]]},W1,gf,#[.func (.yield L) #[] #[]] ++ lb,W1,run_enterLoop_outer _ _ _ _ _,?_,?_,?_,fun h=>by simp [Fence.wide] at h,?_⟩
 ·simp only [resolve,hg];simp [go_sem]
 ·intro f' _;trivial
 ·simp [invoke,go_sem,eg]
 ·have turn:∀(st st':LoopState) (pe pe':Option Code) (xs:List α) (X:World) (K:List α→World→Prop),OwnFrom w.heap.size K→K xs X→X.heap[L]? =some (.loop (rc st pe))→X.heap[D]? =some (.deferred (some []))→
    K xs (X.putObj L (.loop (rc st' pe')))∧(X.putObj L (.loop (rc st' pe'))).heap[L]? =some (.loop (rc st' pe'))∧(X.putObj L (.loop (rc st' pe'))).heap[D]? =some (.deferred (some [])):=
   fun st st' pe pe' xs X K hK hx hl hd=>⟨hK.putObj _ hx (Nat.le_succ _) hl rfl,World.putObj_heap_same (Array.getElem?_eq_some_iff.1 hl).1,(World.putObj_heap_other hDL).trans hd⟩
  have kept:∀(X Y:World) (k:Nat) (o:Obj),Below X.heap.size X Y→X.heap[k]? =some o→Y.heap[k]? =some o:=fun X Y k o hb h=>(hb.block k (Array.getElem?_eq_some_iff.1 h).1).trans h
  refine (hseq L (fun pre X=>I pre X∧X.heap[L]? =some (.loop (rc .ready none))∧X.heap[D]? =some (.deferred (some []))) (fun pre X=>∃c,Ix c pre X∧X.heap[L]? =some (.loop (rc .done (some c)))∧X.heap[D]? =some (.deferred (some []))) W1
   (fun pre X Y hx hb=>⟨own_below hI hx.1 hb,kept _ _ _ _ hb hx.2.1,kept _ _ _ _ hb hx.2.2⟩) (fun pre X Y hx hb=>by obtain ⟨c,h1,h2,h3⟩:=hx;exact ⟨c,own_below (hIx c) h1 hb,kept _ _ _ _ hb h2,kept _ _ _ _ hb h3⟩)
   (fun pre X hx=>hR pre X hx.1) ?_ ⟨eI,eL,eD⟩).mono ?_
  ·intro pre x X ⟨hi,hl,hd⟩ hok
   refine ⟨fn,_,assign,body,run_yield (P:=P) (args:=encs x) hl (hps x),roundIn_of_wpIn hfn (hassign _ x X _ ?_)⟩
   obtain ⟨hi2,hl2,hd2⟩:=turn .ready .busy none none pre X I hI hi hl hd
   refine ⟨_,run_beginRound hl rfl,wpIn_mono (hbody _ pre x _ hi2 hok) ?_⟩
   have fin:∀(jump:Option Code) (Y:World),KeepsFrom w.heap.size (X.putObj L (.loop (rc .busy none))) Y→(Instr.endRound L jump).run P Y=.ok (.bool jump.isNone) (Y.putObj L (.loop (rc (if jump.isNone then .ready else .done) jump)))∧
     Y.heap[L]? =some (.loop (rc .busy none))∧Y.heap[D]? =some (.deferred (some [])):=fun jump Y hk=>
    ⟨run_endRound jump (hk.same _ _ (Nat.le_succ _) hl2 rfl),hk.same _ _ (Nat.le_succ _) hl2 rfl,hk.same _ _ (Nat.le_refl _) hd2 rfl⟩
   rintro e a3 Y hp
   cases e with
   | normal=>
     obtain ⟨hr,hl3,hd3⟩:=fin none Y hp.1
     exact ⟨_,_,hr,.inl ⟨rfl,turn _ _ _ _ _ Y I hI hp.2 hl3 hd3⟩⟩
   | ret=>
     obtain ⟨hr,hl3,hd3⟩:=fin (some .ret) Y hp.1
     exact ⟨_,_,hr,.inr ⟨rfl,.ret,turn _ _ _ _ _ Y (Ix .ret) (hIx _) hp.2 hl3 hd3⟩⟩
   | exit id=>
     obtain ⟨hr,hl3,hd3⟩:=fin (some (.exit id)) Y hp.1
     exact ⟨_,_,hr,.inr ⟨rfl,.exit id,turn _ _ _ _ _ Y (Ix (.exit id)) (hIx _) hp.2 hl3 hd3⟩⟩
   | goto t=>
     obtain ⟨hr,hl3,hd3⟩:=fin (some (.goto t)) Y hp.1
     exact ⟨_,_,hr,.inr ⟨rfl,.goto t,turn _ _ _ _ _ Y (Ix (.goto t)) (hIx _) hp.2 hl3 hd3⟩⟩
   | panic ch=>exact hp.elim
   | outgrown=>exact hp.elim
  ·rintro e Y ⟨⟨v,rfl⟩,(⟨xs,hS,hi,hl,hd⟩ | ⟨pre,hSp,c,hi,hl,hd⟩)⟩
   ·obtain ⟨h1,_,h3⟩:=turn .ready .exhausted none none xs Y I hI hi hl hd
    exact ⟨none,_,run_endLoop hl (by simp [rc]),hdone D xs _ (Nat.le_refl _) (sD h3) hS h1 h3⟩
   ·obtain ⟨h1,_,h3⟩:=turn .done .exhausted (some c) (some c) pre Y (Ix c) (hIx c) hi hl hd
    exact ⟨some c,_,run_endLoop hl (by simp [rc]),hstop D c pre _ (Nat.le_refl _) (sD h3) hSp h1 h3⟩
end Go.Proofs.YteoepabmnbkabaaGreatDoor
