/- Lemmas. -/
import Derived.RangeFuncCalls
import Derived.OwnWalkIn
import Derived.Deep.RegionHeld3
import Derived.BigQuiet
set_option linter.unusedVariables false
namespace Go.Proofs.YtjhiooggnpbecaaGreatDoor
open Go.RowKit
variable {a:Act} {id:Nat} {o:Oper} {w:World}
def fV (o:Oper):Bool:=match o.op with
 | .defer _=>false
 | _=>true
theorem pT (h:fV o=true):∀c,o.op≠.defer c:=by
 intro c e;unfold fV at h;rw [e] at h;cases h
variable {P:Program} {ops:Array Oper} {Q:Exit→Act→World→Prop} {md:Region.Mode} {l n:Nat}
theorem uI {K K':Act→World→Prop} (hnd:fV o=true) (hk:∀a w,K a w→K' a w) (h:o.wp P a w K Q):o.wpIn (Fence.wide.inRound l) n P a w K' Q:=by
 refine ⟨fun _ _=>trivial,?_⟩;rw [Oper.semAt_plain (Fence.wide.inRound l) a.eval o (pT hnd)];unfold Oper.wp at h;generalize (execOp a.eval o).run P w=r at *;cases r with
 | ok x w'=>
   cases x <;> simp only [Oper.upon] at h <;> simp only [Oper.uponIn]
   case value v=>exact hk _ _ h
   case skip=>exact hk _ _ h
   case defer d=>exact hk _ _ h
   case enter f args=>
    refine ⟨(fun e=>by cases e),CallsIn.inRound l (callsIn_wide.2 (h.mono ?_))⟩;intro e w'' he;cases e with
    | returned v=>exact hk _ _ he
    | panicked c=>exact he
    | outgrown=>exact he
   case row row args=>
    refine ⟨(fun e=>by cases e),fun c cs _=>?_⟩;obtain ⟨v,w1,r,s⟩:=h c cs;exact ⟨v,w1,hk _ _ r,stepsIn_wide.2 s⟩
 | halt x w'=>cases x <;> simp only [Oper.upon] at h <;> simp only [Oper.uponIn] <;> exact h
theorem CG {i:Nat} {K K':Act→World→Prop} (hlo:¬ LetsOut Q) (hnd:ops.all fV=true) (hk:∀a w,K a w→K' a w) (h:wpOp P ops Q i K a w):wpOpIn (Fence.wide.inRound l) n P ops Q i K' a w:=by
 unfold wpOp at h;unfold wpOpIn;split
 ·rename_i ho;simp only [ho] at h;exact hk _ _ h
 ·rename_i o ho
  simp only [ho] at h;have hp:fV o=true:=by
   have:=Array.all_eq_true'.1 hnd o (Array.mem_of_getElem? ho);exact this
  split
  ·rename_i hw;simp only [hw,if_true] at h;exact uI hp hk (h.resolve_right (fun h'=>hlo h'.2))
  ·rename_i hw;simp only [hw] at h;exact ⟨fun _ _=>trivial,hk _ _ h⟩
theorem kS (hlo:¬ LetsOut Q) (hnd:ops.all fV=true):∀(fuel:Nat) (listed:Array Bool) (a:Act) (w:World),wpAny P md ops Q fuel listed a w→wpAnyIn (Fence.wide.inRound l) n P md ops Q fuel listed a w
 | 0,_,_,_,h=>h
 | fuel + 1,listed,a,w,h=>⟨h.1,fun i hi=>CG hlo hnd (fun a' w' h'=>kS hlo hnd fuel _ a' w' h') (h.2 i hi)⟩
theorem dW {ol:List Oper} (hlo:¬ LetsOut Q) (hnd:ol.toArray.all fV=true) (hm:P.follows .mixedOrders=true) (hB:Region.lexB .any ol.toArray=true)
  (h:wpQuiet P ol.toArray (fun w'=>∃n,w'=w.drewN n) (fun a'=>∀w',(∃n,w'=w.drewN n)→Q .normal a' w') ol a):(Code.region id ol.toArray true).wpIn (Fence.wide.inRound l) n P Q a w:=by
 simp only [Region.lexB,Bool.and_eq_true] at hB;refine wpIn_region_any hm (kS hlo hnd _ _ _ _ (wpAny_of_quiet (C:=fun w'=>∃n,w'=w.drewN n) (Q:=fun a'=>∀w',(∃n,w'=w.drewN n)→Q .normal a' w') (fun _ w' hw' h=>h w' hw') _ _ _ _ ⟨1,rfl⟩ ?_));have:=wpAnyQ_lex (C:=fun w'=>∃n,w'=w.drewN n) (md:=.any) hB.1 ol 0 (Array.replicate ol.toArray.size false) a (by simp) (by simpa using hB.2) h;simpa using this
theorem bV {S:World→Prop} (hlo:¬ LetsOut Q) (hnd:ops.all fV=true) (hm:P.follows .mixedOrders=true) (hS:S w.drew)
  (h:S w.drew→wpAnyH P .any ops Q S ops.size (Array.replicate ops.size false) a w.drew):(Code.region id ops true).wpIn (Fence.wide.inRound l) n P Q a w:=
 wpIn_region_any hm (kS hlo hnd _ _ _ _ (wpAny_of_held _ _ _ _ (h hS)))
end Go.Proofs.YtjhiooggnpbecaaGreatDoor
