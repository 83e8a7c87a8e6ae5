/- Lemmas. -/
import Derived.StillTailTactics
import Derived.OrdersIn
import Derived.TacticsIn
set_option linter.unusedVariables false
namespace Go.Proofs.YtjhiooggnpbecaaGreatDoor
variable {a:Act} {w:World}
variable {P:Program} {ops:Array Oper} {Q:Exit→Act→World→Prop} {md:Region.Mode} {n:Nat}
theorem nV {o:Oper} {K:Act→Prop} {K':Act→World→Prop} (h:∀a,K a→K' a w) (hh:o.still P a w K):o.wpIn Fence.wide n P a w K' Q:=by
 refine ⟨fun _ _=>trivial,?_⟩;have ho:=Oper.wp_of_still (Q':=Q) h hh;show o.uponIn Fence.wide n P a K' Q ((o.semAt none a.eval).run P w)
 rw [Oper.semAt_none];unfold Oper.wp at ho;generalize (execOp a.eval o).run P w=r at *;cases r with
 | ok x w'=>
   cases x <;> simp only [Oper.upon] at ho <;> simp only [Oper.uponIn]
   case value v=>exact ho
   case skip=>exact ho
   case defer d=>exact ho
   case enter f args=>exact ⟨(fun e=>by cases e),callsIn_wide.2 ho⟩
   case row row args=>
    refine ⟨(fun e=>by cases e),fun c cs _=>?_⟩;obtain ⟨v,w1,r,s⟩:=ho c cs;exact ⟨v,w1,r,stepsIn_wide.2 s⟩
 | halt x w'=>cases x <;> simp only [Oper.upon] at ho <;> simp only [Oper.uponIn] <;> exact ho
theorem sP {i:Nat} {K:Act→Prop} {K':Act→World→Prop} (h:∀a,K a→K' a w) (hh:stOp P ops w i K a):wpOpIn Fence.wide n P ops Q i K' a w:=by
 unfold stOp at hh;unfold wpOpIn;split
 ·rename_i ho;simp only [ho] at hh;exact h _ hh
 ·rename_i o ho
  simp only [ho] at hh;split
  ·rename_i hw;simp only [hw,if_true] at hh;exact nV h hh
  ·rename_i hw;simp only [hw] at hh;exact ⟨fun _ _=>trivial,h _ hh⟩
theorem xD {w:World} {m g:Nat} {L:Array Bool→Act→Prop} (hL:∀listed a,L listed a→wpAnyIn Fence.wide n P md ops Q g listed a w):
  ∀(f:Nat) (listed:Array Bool) (a:Act),wpAnyL P md ops w m L f listed a→wpAnyIn Fence.wide n P md ops Q (f + g) listed a w
 | 0,listed,a,h=>by rw [Nat.zero_add];exact hL _ _ h
 | f + 1,listed,a,h=>by
   rw [show f + 1 + g=(f + g) + 1 by omega];exact ⟨fun h0=>absurd h0 h.1,fun i hi=>sP (fun a' h'=>xD hL f _ a' h') (h.2 i hi).2⟩
theorem E6 {w:World}:∀(l:List Oper) (k:Nat) (listed:Array Bool) (a:Act) (w:World),(∀j,l[j]? =ops[k + j]?)→
  Region.seqB md ops l.length k listed=true→wpListIn Fence.wide n P ops Q l a w→wpAnyIn Fence.wide n P md ops Q l.length listed a w
 | [],_,_,_,_,_,hB,h=>⟨by simpa [Region.seqB] using hB,h⟩
 | o :: l,k,listed,a,w,hl,hB,h=>by
   have h0:ops[k]? =some o:=by simpa using (hl 0).symm
   simp only [List.length_cons,Region.seqB,Bool.and_eq_true,decide_eq_true_eq] at hB;refine ⟨fun h1=>(by rw [hB.1] at h1;cases h1),fun i hi=>?_⟩;rw [hB.1] at hi;have hik:i=k:=by simpa using hi
   subst hik;have hw:wpOpIn Fence.wide n P ops Q i (wpListIn Fence.wide n P ops Q l) a w:=by unfold wpOpIn;simp only [h0];exact h
   exact wpOpIn_mono (fun a' w' h'=>E6 (w:=w) l (i + 1) _ a' w' (fun j=>by have:=hl (j + 1);simpa [Nat.add_assoc,Nat.add_comm 1 j] using this) hB.2 h') hw
theorem nA {id:Nat} {l:List Oper} (m:Nat) (hm:P.follows .mixedOrders=true) (hB:Region.lexTailB .any l.toArray m=true)
  (h:wpStill P l.toArray w.drew (fun a'=>wpListIn Fence.wide n P l.toArray Q (l.drop m) a' w.drew) (l.take m) a):(Code.region id l.toArray true).wpIn Fence.wide n P Q a w:=by
 simp only [Region.lexTailB,Bool.and_eq_true,decide_eq_true_eq] at hB;obtain ⟨⟨⟨⟨hsel,hn⟩,hs⟩,hc⟩,hlex⟩:=hB;have hn':m < l.length:=by simpa using hn
 have htl:(l.take m).length=m:=by simp;omega
 have hdl:(l.drop m).length=l.toArray.size - m:=by simp
 have inv0:HeadInv .any l.toArray m (Array.replicate l.toArray.size false):=
  ⟨by simp,fun j oj _ hl=>(by rw [getD_replicate_false] at hl;cases hl),fun t _ ht=>getD_in (by simpa using ht) (getD_replicate_false _ _)⟩
 have H:=wpAnyL_lex (md:=.any) (g:=l.toArray.size - m) hsel hs hc hn (l.take m) 0 _ a (fun j hj=>by
  have hj':j < m:=by rw [htl] at hj;exact hj
  simp [hj']) (by simpa using htl) inv0 (by rw [htl];exact hlex) h
 refine wpIn_region_any hm ?_;have:=xD (n:=n) (Q:=Q) (g:=l.toArray.size - m) (fun listed a' hL=>by
  have:=E6 (n:=n) (w:=w) (md:=.any) (Q:=Q) (l.drop m) m listed a' w.drew (fun j=>by simp [List.getElem?_drop]) (by rw [hdl];exact hL.1) hL.2;rwa [hdl] at this) _ _ _ H
 rw [htl,show m + (l.toArray.size - m)=l.toArray.size by omega] at this;exact this
end Go.Proofs.YtjhiooggnpbecaaGreatDoor
