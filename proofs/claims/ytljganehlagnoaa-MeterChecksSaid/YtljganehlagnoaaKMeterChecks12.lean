/- 1 texts put together: what each one says stands ahead of it. -/
import Derived.Test.YtljganehlagnoaaKMeterChecks06
set_option linter.unusedVariables false
namespace Go.Proofs.Ytljganehlagnoaa
open Go.RowKit
section
variable {P:Program} {ops:Array Oper} {Q:Exit→Act→World→Prop} {md:Region.Mode} {S:World→Prop}
def waited1 (md:Region.Mode) (ops:Array Oper) (p i0:Nat):Bool:=
 (List.range i0).all fun k=>k == p || (List.range (i0 + 1)).any fun j=>decide (k < j) && match ops[j]? with
  | some o=>o.after.any fun e=>Region.binds md e && e.on == k
  | none=>false
theorem waited1_all {listed:Array Bool} {p i0:Nat} (hw:waited1 md ops p i0=true) (hp:listed.getD p false=true) (hc:Closed md ops listed) (h0:i0∈Region.ready md ops listed):
  ∀n k,i0 - k=n→k < i0→listed.getD k false=true:=by
 intro n
 induction n using Nat.strongRecOn with
 | ind n ih=>
   intro k hn hk
   unfold waited1 at hw
   have hd0:=List.all_eq_true.1 hw k (List.mem_range.2 hk)
   rw [Bool.or_eq_true,beq_iff_eq] at hd0
   rcases hd0 with rfl | hd0
   ·exact hp
   obtain ⟨j,hj,hd⟩:=List.any_eq_true.1 hd0
   simp only [Bool.and_eq_true,decide_eq_true_eq] at hd
   obtain ⟨hlt,hd⟩:=hd
   have hjl:=List.mem_range.1 hj
   cases ho:ops[j]? with
   | none=>rw [ho] at hd;simp at hd
   | some o=>
     rw [ho] at hd
     obtain ⟨e,he,hb⟩:=Array.any_eq_true'.1 hd
     simp only [Bool.and_eq_true,beq_iff_eq] at hb
     obtain ⟨hb,rfl⟩:=hb
     by_cases c:j=i0
     ·subst c
      obtain ⟨_,o',ho',hall⟩:=mem_ready.1 h0
      rw [ho] at ho';cases ho'
      exact hall e he hb
     ·have h2:=ih (i0 - j) (by omega) j rfl (by omega)
      refine hc j o ho ?_ e he hb
      rcases Nat.lt_or_ge j listed.size with d | d
      ·simp [d] at h2 ⊢;exact h2
      ·simp [Array.getElem?_eq_none d] at h2
theorem Chain.all1 (hs:Region.noSelect ops=true) {p i0:Nat} (hw:waited1 md ops p i0=true):∀{fuel:Nat} {listed:Array Bool} {a:Act},Chain P md ops Q S i0 fuel listed a→listed.getD p false=true→Closed md ops listed→∀w,S w→wpAny P md ops Q fuel listed a w:=by
 intro fuel
 induction fuel with
 | zero=>
   intro listed a h _ hc w hS
   cases h with
   | last hr h1=>exact wpAny_of_held _ _ _ _ (h1 w hS)
 | succ fuel ih=>
   intro listed a h hp hc w hS
   cases hcase:h with
   | last hr h1=>exact wpAny_of_held _ _ _ _ (h1 w hS)
   | @step i oi v _ _ _ hi hni hf hr hd h1=>
     refine ⟨fun h0=>by rw [h0] at hr;simp at hr,fun j hj=>?_⟩
     by_cases c:j=i0
     ·subst c
      have h2:=(mem_ready.1 hr).1
      have h3:=waited1_all hw hp hc hj _ i rfl hni
      rcases Nat.lt_or_ge i listed.size with d | d
      ·simp [d] at h2 h3;rw [h2] at h3;cases h3
      ·simp [Array.getElem?_eq_none d] at h2
     ·obtain ⟨n,oj,u,hn,hoj,hdj,hch⟩:=h.swap hs c hj
      cases hn
      exact hdj.wpOp hoj hS (fun w' hS'=>ih hch (getD_set_true hp) (hc.add hj) w' hS')
theorem wp_region_chain1 {id:Nat} {a:Act} {w:World} (i0 p:Nat) {o:Oper} {v:Value} (n:Nat) (hn:ops.size=n + 1) (hm:P.follows .mixedOrders=true) (hs:Region.noSelect ops=true) (hw:waited1 .any ops p i0=true)
  (hp:ops[p]? =some o) (hf:Region.free .any ops (Array.replicate ops.size false) p=true) (hr:(Region.ready .any ops (Array.replicate ops.size false)).contains p=true) (hQ:∀c a w,Q (.panic c) (a.put o.dst v) w→Q (.panic c) a w)
  (hy:Yields P ops o v a) (hS:S w.drew) (h:Chain P .any ops Q S i0 n ((Array.replicate ops.size false).setIfInBounds p true) (a.put o.dst v)):(Code.region id ops true).wp P Q a w:=by
 have hlt:=(Array.getElem?_eq_some_iff.1 hp).1
 refine wp_region_any hm ?_
 have h0:Closed (.any:Region.Mode) ops (Array.replicate ops.size false):=fun j o ho hj=>by
  have hlt:=(Array.getElem?_eq_some_iff.1 ho).1
  simp [hlt] at hj
 have t:=wpAny_take (fuel:=n) hp hs hf hr hQ hy (h.all1 hs hw (by simp [hlt]) (h0.add (by simpa using hr)) w.drew hS)
 rw [← hn] at t
 exact t
end
end Go.Proofs.Ytljganehlagnoaa
