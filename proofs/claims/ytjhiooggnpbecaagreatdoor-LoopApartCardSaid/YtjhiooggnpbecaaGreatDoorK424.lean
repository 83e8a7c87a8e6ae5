/- Lemmas. -/
import Derived.RangeFuncNested
import Derived.Test.YtjhiooggnpbecaaGreatDoorK404
set_option linter.unusedVariables false
set_option maxHeartbeats 1000000
set_option maxRecDepth 100000
namespace Go.Proofs.YtjhiooggnpbecaaGreatDoor
open Go.RowKit
def OW {α:Type} (n:Nat) (P:Program) (g:Nat) (lb:Array Value) (encs:α→Array Value) (ok:List α→α→Prop) (S Sp:List α→Prop) (R:List α→World→Prop):Prop:=
 ∀(l:Nat) (J Jx:List α→World→Prop) (W:World),(∀pre A B,J pre A→Below ↑A A B→J pre B)→(∀pre A B,Jx pre A→Below ↑A A B→Jx pre B)→(∀pre A,J pre A→R pre A)→
  (∀pre x A,J pre A→ok pre x→YieldAt Fence.wide (n - 1) P l (encs x) A fun e B=>(e=.returned (.bool true)∧J (pre ++ [x]) B)∨(e=.returned (.bool false)∧Jx (pre ++ [x]) B))→
  J [] W→CallsIn Fence.wide n P g (#[.func (.yield l) #[] #[]] ++ lb) W fun e W'=>(∃v,e=.returned v)∧((∃xs,S xs∧J xs W')∨(∃pre,Sp pre∧Jx pre W'))
def QL {α:Type} (B:Nat) (I:List α→World→Prop) (Ix:Code→List α→World→Prop) (xs:List α) (W:World):Exit→Act→World→Prop
 | .normal,_,W'=>KeepsFrom B W W'∧I xs W'
 | .ret,_,W'=>KeepsFrom B W W'∧Ix .ret xs W'
 | .exit id,_,W'=>KeepsFrom B W W'∧Ix (.exit id) xs W'
 | .goto t,_,W'=>KeepsFrom B W W'∧Ix (.goto t) xs W'
 | .panic _,_,_=>False
 | .outgrown,_,_=>False
theorem oY {α:Type} {B:Nat} {I:List α→World→Prop} (h:OwnFrom B I) {pre:List α} {X Y:World} (hx:I pre X) (hb:Below ↑X X Y):I pre Y:=
 h pre X Y none hx (eX hb none) (fun r e=>by cases e)
def mk1 (D:Nat):Deferred:={target:=.collected D,args:=#[]}
def QN {α:Type} (n:Nat) (P:Program) (g:Nat) (lb:Array Value) (encs:α→Array Value) (ok:List α→α→Prop) (St Kr:World→World→Prop) (R0:World→Prop) (S:List α→World→Prop):Prop:=
 ∀(l:Nat) (J:List α→World→Prop) (W:World),(∀pre A B,J pre A→St A B→J pre B)→
  (∀pre x A,J pre A→ok pre x→YieldAt Fence.wide (n - 1) P l (encs x) A fun e B=>e=.returned (.bool true)∧J (pre ++ [x]) B∧Kr A B)→
  R0 W→J [] W→CallsIn Fence.wide n P g (#[.func (.yield l) #[] #[]] ++ lb) W fun e W'=>(∃v,e=.returned v)∧∃xs,S xs W'∧J xs W'
def QO {α:Type} (B:Nat) (Kr:World→World→Prop) (I:List α→World→Prop) (xs:List α) (W:World):Exit→Act→World→Prop
 | .normal,_,W'=>KeepsFrom B W W'∧Kr W W'∧I xs W'
 | _,_,_=>False
def mk2 (D:Nat):Deferred:={target:=.collected D,args:=#[]}
theorem fB:(∀{α:Type} {P:Program} {n:Nat} {g:Operand} {ps:Array Tmp} {assign body:Code} {Q:Exit→Act→World→Prop} {a:Act} {w:World} {gf:Nat} {lb:Array Value}
  (hg:a.eval g=.func (.func gf) #[] lb) (eg:∀args w,(callFunc gf args).run P w=.ok (.enter gf args) w)
  {encs:α→Array Value} {ok:List α→α→Prop} {S Sp:List α→Prop} {R:List α→World→Prop} (hseq:OW (n - 1) P gf lb encs ok S Sp R) (hps:∀x,(encs x).size=ps.size)
  (I:List α→World→Prop) (Ix:Code→List α→World→Prop) (hI:OwnFrom w.heap.size I) (hIx:∀c,OwnFrom w.heap.size (Ix c)) (hR:∀pre A,I pre A→R pre A) (h0:I [] w) (a₁:α→Act)
  (hassign:∀(l:Nat) (x:α) (W:World) (K:Act→World→Prop),K (a₁ x) W→
   assign.wpIn (Fence.wide.inRound l) (n - 1 - 1) P (Exit.then K (fun _ _ _=>False)) {tmps:=(ps.zip (encs x)).foldl (fun t (p,v)=>t.setIfInBounds p v) a.tmps,defers:=[]} W)
  (hbody:∀(l:Nat) (pre:List α) (x:α) (W:World),I pre W→ok pre x→body.wpIn (Fence.wide.inRound l) (n - 1 - 1) P (QL w.heap.size I Ix (pre ++ [x]) W) (a₁ x) W)
  (hdone:∀(D:Nat) (xs:List α) (W:World),↑w≤D→D < W.heap.size→S xs→I xs W→W.heap[D]? =some (.deferred (some []))→Q .normal {a with defers:=mk1 D :: a.defers} W)
  (hstop:∀(D:Nat) (c:Code) (pre:List α) (W:World),↑w≤D→D < W.heap.size→Sp pre→Ix c pre W→W.heap[D]? =some (.deferred (some []))→c.wpIn Fence.wide n P Q {a with defers:=mk1 D :: a.defers} W),(Code.rangeFunc g ps assign body).wpIn Fence.wide n P Q a w)∧(∀{α:Type} {P:Program} {n:Nat} {g:Operand} {ps:Array Tmp} {assign body:Code} {Q:Exit→Act→World→Prop} {a:Act} {w:World} {gf:Nat} {lb:Array Value}
  (hg:a.eval g=.func (.func gf) #[] lb) (eg:∀args w,(callFunc gf args).run P w=.ok (.enter gf args) w)
  {encs:α→Array Value} {ok:List α→α→Prop} {St Kr:World→World→Prop} {R0:World→Prop} {S:List α→World→Prop} (hseq:QN (n - 1) P gf lb encs ok St Kr R0 S) (hps:∀x,(encs x).size=ps.size)
  (hSt:∀A B,St A B→∀(k:Nat) (o:Obj),A.heap[k]? =some o→o.isCells=false→B.heap[k]? =some o)
  (hKt:∀A B C,Kr A B→Kr B C→Kr A C) (hKp:∀(A:World) (l:Nat) (o o':Obj),A.heap[l]? =some o→o.isCells=false→Kr A (A.putObj l o'))
  (hR0:∀o o',R0 ((w.alloc o).alloc o')) (hSp:∀xs (A:World) (l:Nat) (o o':Obj),S xs A→A.heap[l]? =some o→o.isCells=false→S xs (A.putObj l o'))
  (I:List α→World→Prop) (hI:∀pre A B,I pre A→St A B→I pre B) (hI0:∀o o',I [] ((w.alloc o).alloc o'))
  (hIp:∀pre (A:World) (l:Nat) (o o':Obj),I pre A→↑w≤l→A.heap[l]? =some o→o.isCells=false→I pre (A.putObj l o'))
  (Ax:α→Act→World→Prop) (hAp:∀x a' (A:World) (l:Nat) (o o':Obj),Ax x a' A→A.heap[l]? =some o→o.isCells=false→Ax x a' (A.putObj l o'))
  (hassign:∀(l:Nat) (pre:List α) (x:α) (W:World) (K:Act→World→Prop),I pre W→(∀a' W',KeepsFrom w.heap.size W W'→Kr W W'→I pre W'→Ax x a' W'→K a' W')→
   assign.wpIn (Fence.wide.inRound l) (n - 1 - 1) P (Exit.then K (fun _ _ _=>False)) {tmps:=(ps.zip (encs x)).foldl (fun t (p,v)=>t.setIfInBounds p v) a.tmps,defers:=[]} W)
  (hbody:∀(l:Nat) (pre:List α) (x:α) (a':Act) (W:World),I pre W→Ax x a' W→ok pre x→body.wpIn (Fence.wide.inRound l) (n - 1 - 1) P (QO w.heap.size Kr I (pre ++ [x]) W) a' W)
  (hdone:∀(D:Nat) (xs:List α) (W:World),↑w≤D→D < W.heap.size→S xs W→I xs W→W.heap[D]? =some (.deferred (some []))→Q .normal {a with defers:=mk2 D :: a.defers} W),(Code.rangeFunc g ps assign body).wpIn Fence.wide n P Q a w):=by
 refine ⟨?_,?_⟩
 have k0v:Hid True:=trivial;intro α P n g ps assign body Q a w gf lb hg eg encs ok S Sp R hseq hps I Ix hI hIx hR h0 a₁ hassign hbody hdone hstop;rotate_left;have k1v:Hid True:=trivial;intro α P n g ps assign body Q a w gf lb hg eg encs ok St Kr R0 S hseq hps hSt hKt hKp hR0 hSp I hI hI0 hIp Ax hAp hassign hbody hdone;rotate_left
 all_goals
  refine wpIn_rangeFunc fun fn hfn=>?_;let D:=w.heap.size;let L:=w.heap.size + 1;let rc:LoopState→Option Code→Loop:=fun st pe=>{state:=st,pending:=pe,fn,tmps:=a.tmps,params:=ps,assign,body,defers:=D};let W1:=(w.alloc (.deferred (some []))).alloc (.loop (rc .ready none));have sD:∀{X:World},X.heap[D]? =some (.deferred (some []))→D < X.heap.size:=fun h=>(Array.getElem?_eq_some_iff.1 h).1;have hDL:D≠L:=Nat.ne_of_lt (Nat.lt_succ_self _)
  have eL:W1.heap[L]? =some (.loop (rc .ready none)):=by
   have:=World.alloc_heap_new (w.alloc (.deferred (some []))) (.loop (rc .ready none));rwa [World.size_alloc] at this
  have eD:W1.heap[D]? =some (.deferred (some [])):=(Below.heap_alloc _ _ _ (by simp [D])).trans (World.alloc_heap_new w _);first
  |revert k0v;intro k0v;have eI:I [] W1:=hI.alloc _ (hI.alloc _ h0);refine ⟨L,[mk1 D],W1,{target:=.fn (.func gf) lb,args:=#[.func (.yield L) #[] #[]]},W1,gf,#[.func (.yield L) #[] #[]] ++ lb,W1,run_enterLoop_outer _ _ _ _ _,?_,?_,?_,fun h=>by simp [Fence.wide] at h,?_⟩
  |refine ⟨L,[mk2 D],W1,{target:=.fn (.func gf) lb,args:=#[.func (.yield L) #[] #[]]},W1,gf,#[.func (.yield L) #[] #[]] ++ lb,W1,run_enterLoop_outer _ _ _ _ _,?_,?_,?_,fun h=>by simp [Fence.wide] at h,?_⟩
  ·simp only [resolve,hg];simp [go_sem]
  ·intro f' _;trivial
  ·simp [invoke,go_sem,eg]
  ·first
   |revert k1v;intro k1v;have turn:∀(st st':LoopState) (xs:List α) (X:World),I xs X→X.heap[L]? =some (.loop (rc st none))→X.heap[D]? =some (.deferred (some []))→
      I xs (X.putObj L (.loop (rc st' none)))∧(X.putObj L (.loop (rc st' none))).heap[L]? =some (.loop (rc st' none))∧(X.putObj L (.loop (rc st' none))).heap[D]? =some (.deferred (some [])):=
     fun st st' xs X hx hl hd=>⟨hIp _ _ _ _ _ hx (Nat.le_succ _) hl rfl,World.putObj_heap_same (Array.getElem?_eq_some_iff.1 hl).1,(World.putObj_heap_other hDL).trans hd⟩
    refine (hseq L (fun pre X=>I pre X∧X.heap[L]? =some (.loop (rc .ready none))∧X.heap[D]? =some (.deferred (some []))) W1
     (fun pre X Y hx hb=>⟨hI _ _ _ hx.1 hb,hSt _ _ hb _ _ hx.2.1 rfl,hSt _ _ hb _ _ hx.2.2 rfl⟩) ?_ (hR0 _ _) ⟨hI0 _ _,eL,eD⟩).mono ?_
   |have turn:∀(st st':LoopState) (pe pe':Option Code) (xs:List α) (X:World) (K:List α→World→Prop),OwnFrom w.heap.size K→K xs X→X.heap[L]? =some (.loop (rc st pe))→X.heap[D]? =some (.deferred (some []))→
      K xs (X.putObj L (.loop (rc st' pe')))∧(X.putObj L (.loop (rc st' pe'))).heap[L]? =some (.loop (rc st' pe'))∧(X.putObj L (.loop (rc st' pe'))).heap[D]? =some (.deferred (some [])):=
     fun st st' pe pe' xs X K hK hx hl hd=>⟨hK.putObj _ hx (Nat.le_succ _) hl rfl,World.putObj_heap_same (Array.getElem?_eq_some_iff.1 hl).1,(World.putObj_heap_other hDL).trans hd⟩
    have kept:∀(X Y:World) (k:Nat) (o:Obj),Below ↑X X Y→X.heap[k]? =some o→Y.heap[k]? =some o:=fun X Y k o hb h=>(hb.block k (Array.getElem?_eq_some_iff.1 h).1).trans h;refine (hseq L (fun pre X=>I pre X∧X.heap[L]? =some (.loop (rc .ready none))∧X.heap[D]? =some (.deferred (some []))) (fun pre X=>∃c,Ix c pre X∧X.heap[L]? =some (.loop (rc .done (some c)))∧X.heap[D]? =some (.deferred (some []))) W1
     (fun pre X Y hx hb=>⟨oY hI hx.1 hb,kept _ _ _ _ hb hx.2.1,kept _ _ _ _ hb hx.2.2⟩) (fun pre X Y hx hb=>by obtain ⟨c,h1,h2,h3⟩:=hx;exact ⟨c,oY (hIx c) h1 hb,kept _ _ _ _ hb h2,kept _ _ _ _ hb h3⟩)
     (fun pre X hx=>hR pre X hx.1) ?_ ⟨eI,eL,eD⟩).mono ?_
   ·first
    |revert k1v;intro k1v;intro pre x X ⟨hi,hl,hd⟩ hok;refine ⟨fn,_,assign,body,run_yield (P:=P) (args:=encs x) hl (hps x),roundIn_of_wpIn hfn (hassign _ pre x X _ hi ?_)⟩;intro a' X1 hk1 hr1 hi1 hax;have hl1:=hk1.same _ _ (Nat.le_succ _) hl rfl;have hd1:=hk1.same _ _ (Nat.le_refl _) hd rfl;obtain ⟨hi2,hl2,hd2⟩:=turn .ready .busy pre X1 hi1 hl1 hd1;refine ⟨_,run_beginRound hl1 rfl,wpIn_mono (hbody _ pre x a' _ hi2 (hAp _ _ _ _ _ _ hax hl1 rfl) hok) ?_⟩;rintro e a3 Y hp;cases e with
     | normal=>
      obtain ⟨hk,hr,hi3⟩:=hp;have hl3:=hk.same _ _ (Nat.le_succ _) hl2 rfl;have hd3:=hk.same _ _ (Nat.le_refl _) hd2 rfl;exact ⟨_,_,run_endRound none hl3,rfl,turn _ _ _ Y hi3 hl3 hd3,hKt _ _ _ hr1 (hKt _ _ _ (hKp _ _ _ _ hl1 rfl) (hKt _ _ _ hr (hKp _ _ _ _ hl3 rfl)))⟩
     | ret=>exact hp.elim
     | exit id=>exact hp.elim
     | goto t=>exact hp.elim
     | panic ch=>exact hp.elim
     | outgrown=>exact hp.elim
    |intro pre x X ⟨hi,hl,hd⟩ hok;refine ⟨fn,_,assign,body,run_yield (P:=P) (args:=encs x) hl (hps x),roundIn_of_wpIn hfn (hassign _ x X _ ?_)⟩;obtain ⟨hi2,hl2,hd2⟩:=turn .ready .busy none none pre X I hI hi hl hd;refine ⟨_,run_beginRound hl rfl,wpIn_mono (hbody _ pre x _ hi2 hok) ?_⟩;have fin:∀(jump:Option Code) (Y:World),KeepsFrom w.heap.size (X.putObj L (.loop (rc .busy none))) Y→(Instr.endRound L jump).run P Y=.ok (.bool jump.isNone) (Y.putObj L (.loop (rc (if jump.isNone then .ready else .done) jump)))∧
       Y.heap[L]? =some (.loop (rc .busy none))∧Y.heap[D]? =some (.deferred (some [])):=fun jump Y hk=>
      ⟨run_endRound jump (hk.same _ _ (Nat.le_succ _) hl2 rfl),hk.same _ _ (Nat.le_succ _) hl2 rfl,hk.same _ _ (Nat.le_refl _) hd2 rfl⟩
     rintro e a3 Y hp;cases e with
     | normal=>
      obtain ⟨hr,hl3,hd3⟩:=fin none Y hp.1;exact ⟨_,_,hr,.inl ⟨rfl,turn _ _ _ _ _ Y I hI hp.2 hl3 hd3⟩⟩
     | ret=>
      obtain ⟨hr,hl3,hd3⟩:=fin (some .ret) Y hp.1;exact ⟨_,_,hr,.inr ⟨rfl,.ret,turn _ _ _ _ _ Y (Ix .ret) (hIx _) hp.2 hl3 hd3⟩⟩
     | exit id=>
      obtain ⟨hr,hl3,hd3⟩:=fin (some (.exit id)) Y hp.1;exact ⟨_,_,hr,.inr ⟨rfl,.exit id,turn _ _ _ _ _ Y (Ix (.exit id)) (hIx _) hp.2 hl3 hd3⟩⟩
     | goto t=>
      obtain ⟨hr,hl3,hd3⟩:=fin (some (.goto t)) Y hp.1;exact ⟨_,_,hr,.inr ⟨rfl,.goto t,turn _ _ _ _ _ Y (Ix (.goto t)) (hIx _) hp.2 hl3 hd3⟩⟩
     | panic ch=>exact hp.elim
     | outgrown=>exact hp.elim
   ·first
    |revert k1v;intro k1v;rintro e Y ⟨⟨v,rfl⟩,xs,hS,hi,hl,hd⟩;obtain ⟨h1,_,h3⟩:=turn .ready .exhausted xs Y hi hl hd;exact ⟨none,_,run_endLoop hl (by simp [rc]),hdone D xs _ (Nat.le_refl _) (sD h3) (hSp _ _ _ _ _ hS hl rfl) h1 h3⟩
    |rintro e Y ⟨⟨v,rfl⟩,(⟨xs,hS,hi,hl,hd⟩ | ⟨pre,hSp,c,hi,hl,hd⟩)⟩
     ·obtain ⟨h1,_,h3⟩:=turn .ready .exhausted none none xs Y I hI hi hl hd;exact ⟨none,_,run_endLoop hl (by simp [rc]),hdone D xs _ (Nat.le_refl _) (sD h3) hS h1 h3⟩
     ·obtain ⟨h1,_,h3⟩:=turn .done .exhausted (some c) (some c) pre Y (Ix c) (hIx c) hi hl hd;exact ⟨some c,_,run_endLoop hl (by simp [rc]),hstop D c pre _ (Nat.le_refl _) (sD h3) hSp h1 h3⟩
end Go.Proofs.YtjhiooggnpbecaaGreatDoor
