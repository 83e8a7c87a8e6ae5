/- Lemmas. -/
import Derived.Deep.RegionHeld3
import Derived.Test.YtjhiooggnpbecaaGreatDoorK402
set_option linter.unusedVariables false
namespace Go.Proofs.YtjhiooggnpbecaaGreatDoor
variable {i j:Nat}
section
open Go.RowKit
section
variable {P:Program} {ops:Array Oper} {Q:Exit→Act→World→Prop} {md:Region.Mode} {S:World→Prop}
def OL (P:Program) (S:World→Prop) (v:Value):Result Next→Prop
 | .ok (.value u) w'=>u=v∧S w'
 | .ok (.enter f args) w'=>Calls P f args w' fun e w''=>e=.returned v∧S w''
 | _=>False
def Det (P:Program) (ops:Array Oper) (S:World→Prop) (o:Oper) (v:Value) (a:Act):Prop:=
 (Region.wanted o (yielded ops a.tmps)=true∧∀w,S w→OL P S v ((execOp a.eval o).run P w))∨(Region.wanted o (yielded ops a.tmps)=false∧v=undef)
theorem Det.of_yields {o:Oper} {v:Value} {a:Act} (h:YieldsIf P ops S o v a):Det P ops S o v a:=
 h.imp (fun ⟨h1,h2⟩=>⟨h1,fun w hw=>by rw [h2 w hw];exact ⟨rfl,hw⟩⟩) id
theorem Det.call {o:Oper} {v:Value} {a:Act} (f:FuncId) (args:Array Value) (hw:Region.wanted o (yielded ops a.tmps)=true) (hr:∀w,(execOp a.eval o).run P w=.ok (.enter f args) w)
  (hc:∀w,S w→Calls P f args w fun e w'=>e=.returned v∧S w'):Det P ops S o v a:=.inl ⟨hw,fun w hS=>by rw [hr w];exact hc w hS⟩
theorem Det.of_same {o:Oper} {v:Value} {a a':Act} (hy:Det P ops S o v a) (he:execOp a'.eval o=execOp a.eval o)
  (hw:Region.wanted o (yielded ops a'.tmps)=Region.wanted o (yielded ops a.tmps)):Det P ops S o v a':=by
 unfold Det at *;rw [he,hw];exact hy
theorem Det.wpOp {i:Nat} {o:Oper} {v:Value} {a:Act} (hi:ops[i]? =some o) (hy:Det P ops S o v a)
  {K:Act→World→Prop} {w:World} (hS:S w) (h:∀w',S w'→K (a.put o.dst v) w'):wpOp P ops Q i K a w:=by
 unfold Go.wpOp;simp only [hi];rcases hy with ⟨hw,hv⟩ | ⟨hw,rfl⟩
 ·have hr:=hv w hS
  simp only [hw,if_true,Oper.wp];refine .inl ?_;generalize (execOp a.eval o).run P w=r at *;cases r with
  | ok n w'=>
    cases n with
    | value u=>obtain ⟨rfl,h2⟩:=hr;exact h _ h2
    | enter f args=>exact Calls.mono hr fun e w'' he=>by obtain ⟨rfl,h2⟩:=he;exact h _ h2
    | _=>exact hr.elim
  | halt x w'=>exact hr.elim
 ·simp only [hw,Bool.false_eq_true,if_false];exact h _ hS
def qD (md:Region.Mode) (ops:Array Oper) (i0:Nat):Bool:=
 (List.range i0).all fun k=>(List.range (i0 + 1)).any fun j=>decide (k < j) && match ops[j]? with
  | some o=>o.after.any fun e=>Region.binds md e && e.on == k
  | none=>false
def mW (md:Region.Mode) (ops:Array Oper) (listed:Array Bool):Prop:=
 ∀(j:Nat) (o:Oper),ops[j]? =some o→listed.getD j true=true→∀e∈o.after,Region.binds md e=true→listed.getD e.on false=true
theorem mW.add {listed:Array Bool} (h:mW md ops listed) (hj:j∈Region.ready md ops listed):mW md ops (listed.setIfInBounds j true):=by
 intro k o ho hk e he hb;refine getD_set_true ?_;by_cases c:j=k
 ·subst c
  obtain ⟨_,o',ho',hall⟩:=mem_ready.1 hj;rw [ho] at ho';cases ho';exact hall e he hb
 ·rw [getD_set_ne true c] at hk
  exact h k o ho hk e he hb
theorem uV {listed:Array Bool} {i0:Nat} (hw:qD md ops i0=true) (hc:mW md ops listed) (h0:i0∈Region.ready md ops listed):
  ∀n k,i0 - k=n→k < i0→listed.getD k false=true:=by
 intro n;induction n using Nat.strongRecOn with
 | ind n ih=>
   intro k hn hk;unfold qD at hw;obtain ⟨j,hj,hd⟩:=List.any_eq_true.1 (List.all_eq_true.1 hw k (List.mem_range.2 hk));simp only [Bool.and_eq_true,decide_eq_true_eq] at hd;obtain ⟨hlt,hd⟩:=hd;have hjl:=List.mem_range.1 hj;cases ho:ops[j]? with
   | none=>rw [ho] at hd;simp at hd
   | some o=>
     rw [ho] at hd;obtain ⟨e,he,hb⟩:=Array.any_eq_true'.1 hd;simp only [Bool.and_eq_true,beq_iff_eq] at hb;obtain ⟨hb,rfl⟩:=hb;by_cases c:j=i0
     ·subst c
      obtain ⟨_,o',ho',hall⟩:=mem_ready.1 h0;rw [ho] at ho';cases ho';exact hall e he hb
     ·have h2:=ih (i0 - j) (by omega) j rfl (by omega)
      refine hc j o ho ?_ e he hb;rcases Nat.lt_or_ge j listed.size with d | d
      ·simp [d] at h2 ⊢;exact h2
      ·simp [Array.getElem?_eq_none d] at h2
inductive bL (P:Program) (md:Region.Mode) (ops:Array Oper) (Q:Exit→Act→World→Prop) (S:World→Prop) (i0:Nat):Nat→Array Bool→Act→Prop
 | last {n:Nat} {listed:Array Bool} {a:Act} (hr:Region.ready md ops listed=[i0]) (h:∀w,S w→wpAnyH P md ops Q (fun _=>True) n listed a w):bL P md ops Q S i0 n listed a
 | step {i:Nat} {oi:Oper} {v:Value} {fuel:Nat} {listed:Array Bool} {a:Act} (hi:ops[i]? =some oi) (hne:i < i0)
   (hf:Region.free md ops listed i=true) (hr:i∈Region.ready md ops listed) (hd:Det P ops S oi v a)
   (h:bL P md ops Q S i0 fuel (listed.setIfInBounds i true) (a.put oi.dst v)):bL P md ops Q S i0 (fuel + 1) listed a
theorem zH {oi:Oper} {listed:Array Bool} (hi:ops[i]? =some oi) (h:Region.free md ops listed i=true):Region.free md ops (listed.setIfInBounds j true) i=true:=by
 simp only [Region.free,hi,List.all_eq_true,List.mem_range] at h ⊢;intro k hk;have h1:=h k hk;by_cases c:j=k
 ·subst c
  have:(listed.setIfInBounds j true).getD j true=true:=by
   rcases Nat.lt_or_ge j listed.size with d | d
   ·simp [d]
   ·simp [Array.getElem?_eq_none (show (listed.setIfInBounds j true).size≤j by simpa using d)]
  simp only [this,Bool.or_true,Bool.true_or]
 ·rw [getD_set_ne true c];exact h1
theorem bL.swap (hs:Region.noSelect ops=true) {i0:Nat} (hne:j≠i0):∀{fuel:Nat} {listed:Array Bool} {a:Act},bL P md ops Q S i0 fuel listed a→j∈Region.ready md ops listed→
  ∃n oj u,fuel=n + 1∧ops[j]? =some oj∧Det P ops S oj u a∧bL P md ops Q S i0 n (listed.setIfInBounds j true) (a.put oj.dst u):=by
 intro fuel listed a hc;induction hc with
 | last hr h=>intro hj;rw [hr] at hj;simp at hj;exact absurd hj hne
 | @step i oi v fuel listed a hi hni hf hr hd h ih=>
   intro hj;by_cases hji:j=i
   ·subst hji;exact ⟨fuel,oi,v,rfl,hi,hd,h⟩
   ·obtain ⟨n,oj,u,rfl,hoj,hdj,hch⟩:=ih (ready_mono hj hji)
    obtain ⟨hjun,oj',hoj',hall⟩:=mem_ready.1 hj;rw [hoj] at hoj';cases hoj';have hnot:∀e∈oj.after,Region.binds md e=true→e.on≠i:=fun e he hb heq=>by
     have h1:=hall e he hb;have h0:=(mem_ready.1 hr).1;rw [heq] at h1;rcases Nat.lt_or_ge i listed.size with h' | h'
     ·simp [h'] at h0 h1;rw [h0] at h1;cases h1
     ·simp [Array.getElem?_eq_none h'] at h1
    have hap:=Region.free_spec hi hf j oj hoj hji hjun hnot;obtain ⟨a1,a2,a3⟩:=Oper.apart_spec hap;have hsi:=Region.noSelect_spec hs;have d1:Det P ops S oj u a:=hdj.of_same (execOp_put oj (fun cs b=>hsi j oj cs b hoj) a oi.dst v a1).symm (wanted_put oj a oi.dst v a1).symm;have d2:Det P ops S oi v (a.put oj.dst u):=hd.of_same (execOp_put oi (fun cs b=>hsi i oi cs b hi) a oj.dst u a3) (wanted_put oi a oj.dst u a3);refine ⟨n + 1,oj,u,rfl,hoj,d1,.step hi hni (zH hi hf) (ready_mono hr (Ne.symm hji)) d2 ?_⟩;rw [Array.setIfInBounds_comm _ _ hji,← Act.put_comm a v u a2];exact hch
theorem bL.all (hs:Region.noSelect ops=true) {i0:Nat} (hw:qD md ops i0=true):∀{fuel:Nat} {listed:Array Bool} {a:Act},bL P md ops Q S i0 fuel listed a→mW md ops listed→∀w,S w→wpAny P md ops Q fuel listed a w:=by
 intro fuel;induction fuel with
 | zero=>
   intro listed a h hc w hS;cases h with
   | last hr h1=>exact wpAny_of_held _ _ _ _ (h1 w hS)
 | succ fuel ih=>
   intro listed a h hc w hS;cases hcase:h with
   | last hr h1=>exact wpAny_of_held _ _ _ _ (h1 w hS)
   | @step i oi v _ _ _ hi hni hf hr hd h1=>
     refine ⟨fun h0=>by rw [h0] at hr;simp at hr,fun j hj=>?_⟩;by_cases c:j=i0
     ·subst c
      have h2:=(mem_ready.1 hr).1;have h3:=uV hw hc hj _ i rfl hni;rcases Nat.lt_or_ge i listed.size with d | d
      ·simp [d] at h2 h3;rw [h2] at h3;cases h3
      ·simp [Array.getElem?_eq_none d] at h3
     ·obtain ⟨n,oj,u,hn,hoj,hdj,hch⟩:=h.swap hs c hj
      cases hn
      exact hdj.wpOp hoj hS (fun w' hS'=>ih hch (hc.add hj) w' hS')
theorem aR {id:Nat} {a:Act} {w:World} (i0:Nat) (hm:P.follows .mixedOrders=true) (hs:Region.noSelect ops=true) (hw:qD .any ops i0=true) (hS:S w.drew)
  (h:bL P .any ops Q S i0 ops.size (Array.replicate ops.size false) a):(Code.region id ops true).wp P Q a w:=
 wp_region_any hm (h.all hs hw (fun j o ho hj=>by
  have hlt:=(Array.getElem?_eq_some_iff.1 ho).1;simp [hlt] at hj) _ hS)
theorem bL.take {i0:Nat} {oi:Oper} {v:Value} {fuel:Nat} {listed:Array Bool} {a:Act} (hi:ops[i]? =some oi) (hf:Region.free md ops listed i=true)
  (hr:(Region.ready md ops listed).contains i=true) (hy:YieldsIf P ops S oi v a) (h:bL P md ops Q S i0 fuel (listed.setIfInBounds i true) (a.put oi.dst v)) (hne:i < i0:=by decide):bL P md ops Q S i0 (fuel + 1) listed a:=
 .step hi hne hf (by simpa using hr) (Det.of_yields hy) h
theorem bL.call {i0 i:Nat} {oi:Oper} {v:Value} {fuel:Nat} {listed:Array Bool} {a:Act} (f:FuncId) (args:Array Value) (hi:ops[i]? =some oi) (hf:Region.free md ops listed i=true)
  (hr:(Region.ready md ops listed).contains i=true) (hw:Region.wanted oi (yielded ops a.tmps)=true) (he:∀w,(execOp a.eval oi).run P w=.ok (.enter f args) w)
  (hc:∀w,S w→Calls P f args w fun e w'=>e=.returned v∧S w') (h:bL P md ops Q S i0 fuel (listed.setIfInBounds i true) (a.put oi.dst v)) (hne:i < i0:=by decide):bL P md ops Q S i0 (fuel + 1) listed a:=
 .step hi hne hf (by simpa using hr) (Det.call f args hw he hc) h
end
end

section
variable {P:Program} {md:Region.Mode} {ops:Array Oper} {Q:Exit→Act→World→Prop} {S:World→Prop} {fuel i0:Nat} {listed l':Array Bool} {a a':Act} {oi:Oper} {v:Value}
theorem ckc (i:Nat) (h:bL P md ops Q S i0 fuel l' a') (hi:ops[i]? =some oi:=by first | (simp only [List.getElem?_toArray,List.getElem?_cons_succ,List.getElem?_cons_zero];done) | (simp only [List.getElem?_toArray,List.getElem?_cons_succ,List.getElem?_cons_zero];rfl) | rfl) (hf:Region.free md ops listed i=true:=by kernel_rfl) (hr:(Region.ready md ops listed).contains i=true:=by kernel_rfl) (hy:YieldsIf P ops S oi v a:=by exact Or.inl ⟨by rfl,by intro w hSw;clear hSw;go_simp;(try with_reducible rfl)⟩)
  (hl:listed.setIfInBounds i true=l':=by first | (simp only [List.setIfInBounds_toArray,List.set_cons_zero,List.set_cons_succ];done) | (simp only [List.setIfInBounds_toArray,List.set_cons_zero,List.set_cons_succ];rfl) | rfl) (ha:a.put oi.dst v=a':=by first | (simp only [Act.put,List.setIfInBounds_toArray,List.set_cons_zero,List.set_cons_succ];done) | (simp only [Act.put,List.setIfInBounds_toArray,List.set_cons_zero,List.set_cons_succ];rfl) | rfl) (hne:i < i0:=by decide):bL P md ops Q S i0 (fuel + 1) listed a:=
 bL.take hi hf hr hy (by rw [hl,ha];exact h) hne
theorem cks (i:Nat) (h:bL P md ops Q S i0 fuel l' a') (hi:ops[i]? =some oi:=by first | (simp only [List.getElem?_toArray,List.getElem?_cons_succ,List.getElem?_cons_zero];done) | (simp only [List.getElem?_toArray,List.getElem?_cons_succ,List.getElem?_cons_zero];rfl) | rfl) (hf:Region.free md ops listed i=true:=by kernel_rfl) (hr:(Region.ready md ops listed).contains i=true:=by kernel_rfl) (hy:YieldsIf P ops S oi v a:=by exact Or.inl ⟨by rfl,by intro w hSw;go_simp;(try with_reducible rfl)⟩)
  (hl:listed.setIfInBounds i true=l':=by first | (simp only [List.setIfInBounds_toArray,List.set_cons_zero,List.set_cons_succ];done) | (simp only [List.setIfInBounds_toArray,List.set_cons_zero,List.set_cons_succ];rfl) | rfl) (ha:a.put oi.dst v=a':=by first | (simp only [Act.put,List.setIfInBounds_toArray,List.set_cons_zero,List.set_cons_succ];done) | (simp only [Act.put,List.setIfInBounds_toArray,List.set_cons_zero,List.set_cons_succ];rfl) | rfl) (hne:i < i0:=by decide):bL P md ops Q S i0 (fuel + 1) listed a:=
 bL.take hi hf hr hy (by rw [hl,ha];exact h) hne
theorem cku (i:Nat) (h:bL P md ops Q S i0 fuel l' a') (hi:ops[i]? =some oi:=by first | (simp only [List.getElem?_toArray,List.getElem?_cons_succ,List.getElem?_cons_zero];done) | (simp only [List.getElem?_toArray,List.getElem?_cons_succ,List.getElem?_cons_zero];rfl) | rfl) (hf:Region.free md ops listed i=true:=by kernel_rfl) (hr:(Region.ready md ops listed).contains i=true:=by kernel_rfl) (hy:YieldsIf P ops S oi undef a:=by exact Or.inr ⟨by rfl,rfl⟩)
  (hl:listed.setIfInBounds i true=l':=by first | (simp only [List.setIfInBounds_toArray,List.set_cons_zero,List.set_cons_succ];done) | (simp only [List.setIfInBounds_toArray,List.set_cons_zero,List.set_cons_succ];rfl) | rfl) (ha:a.put oi.dst undef=a':=by first | (simp only [Act.put,List.setIfInBounds_toArray,List.set_cons_zero,List.set_cons_succ];done) | (simp only [Act.put,List.setIfInBounds_toArray,List.set_cons_zero,List.set_cons_succ];rfl) | rfl) (hne:i < i0:=by decide):bL P md ops Q S i0 (fuel + 1) listed a:=
 bL.take hi hf hr hy (by rw [hl,ha];exact h) hne
theorem ckl (i:Nat) {f:FuncId} {args:Array Value} (hc:∀w,S w→Calls P f args w fun e w'=>e=.returned v∧S w') (h:bL P md ops Q S i0 fuel l' a') (hi:ops[i]? =some oi:=by first | (simp only [List.getElem?_toArray,List.getElem?_cons_succ,List.getElem?_cons_zero];done) | (simp only [List.getElem?_toArray,List.getElem?_cons_succ,List.getElem?_cons_zero];rfl) | rfl) (hf:Region.free md ops listed i=true:=by kernel_rfl) (hr:(Region.ready md ops listed).contains i=true:=by kernel_rfl) (hw:Region.wanted oi (yielded ops a.tmps)=true:=by rfl) (he:∀w,(execOp a.eval oi).run P w=.ok (.enter f args) w:=by intro w;go_simp)
  (hl:listed.setIfInBounds i true=l':=by first | (simp only [List.setIfInBounds_toArray,List.set_cons_zero,List.set_cons_succ];done) | (simp only [List.setIfInBounds_toArray,List.set_cons_zero,List.set_cons_succ];rfl) | rfl) (ha:a.put oi.dst v=a':=by first | (simp only [Act.put,List.setIfInBounds_toArray,List.set_cons_zero,List.set_cons_succ];done) | (simp only [Act.put,List.setIfInBounds_toArray,List.set_cons_zero,List.set_cons_succ];rfl) | rfl) (hne:i < i0:=by decide):bL P md ops Q S i0 (fuel + 1) listed a:=
 bL.call f args hi hf hr hw he hc (by rw [hl,ha];exact h) hne
end
end Go.Proofs.YtjhiooggnpbecaaGreatDoor
