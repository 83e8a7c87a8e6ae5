/- Lemmas. -/
import Derived.Test.YtjhiooggnpbecaaGreatDoorK220
set_option linter.unusedVariables false
namespace Go.Proofs.YtjhiooggnpbecaaGreatDoor
open Go.RowKit
variable {k:KB} {r x:Nat}
namespace LKS
theorem mul_size (h:x≤1073741824):Pl.mulS x 1000000=1000000 * x:=by unfold Pl.mulS;rw [Nat.mul_comm];omega
theorem take_n (h:k.takeB x=true) (hx:x≤1073741824):(k.takeS x).n + 1000000 * x=k.n∧(k.takeS x).w=k.w∧(k.takeS x).r=k.r:=by
 unfold KB.takeB KB.spendB at h;unfold KB.takeS KB.spendS;rw [mul_size hx] at *;have h':1000000 * x≤k.n:=of_decide_eq_true h;rw [if_pos h'];exact ⟨by show k.n - 1000000 * x + 1000000 * x=k.n;omega,rfl,rfl⟩
theorem take_r (k:KB) (x:Nat):(k.takeS x).r=k.r∧(k.takeS x).w=k.w:=by
 unfold KB.takeS;generalize Pl.mulS x 1000000=m;unfold KB.spendS;split <;> exact ⟨rfl,rfl⟩
theorem serve_le (s:LKS) (cs:List Nat):s.served≤(s.serve cs).served:=serve_ind (P:=fun x=>s.served≤x.served) (fun x c h hm=>by rw [serve1_served];omega) _ s cs rfl (Nat.le_refl _)
theorem takeB_yes (hx:x≤1073741824) (h:1000000 * x≤k.n):k.takeB x=true:=by
 unfold KB.takeB KB.spendB;rw [mul_size hx];exact decide_eq_true h
theorem serve_least:∀(l:List Pk) (e:List Pk) (s:LKS) (cs:List Nat),s.q.l=l ++ e→(∀x∈l,x.size≤1073741824)→1000000 * bU l≤s.k.n→s.served + bU l≤(s.serve cs).served
 | [],e,s,cs,_,_,_=>by rw [fW];exact serve_le s cs
 | x :: t,e,s,cs,h1,h2,h3=>by
   have hx:=h2 x (by simp);rw [cL] at h3;have hs:s.q.someQ=true:=(some_iff s.q).2 (by rw [h1];simp);have hh:s.q.headQ=x:=by unfold QK.headQ;rw [h1];rfl
   have hm:s.may=true:=by
    unfold may;rw [hs,hh,takeB_yes hx (by omega)];rfl
   obtain ⟨t1,_,_⟩:=take_n (k:=s.k) (may_take hm) (by rw [hh];exact hx);have e1:(s.serve1 (cs.getD 0 0)).q.l=t ++ e:=by rw [serve1_q];show s.q.l.drop 1=_;rw [h1];rfl
   have hk:(s.serve1 (cs.getD 0 0)).k.n + 1000000 * x.size=s.k.n:=by rw [serve1_k];rw [hh] at t1 ⊢;exact t1
   have hv:(s.serve1 (cs.getD 0 0)).served=s.served + x.size:=by rw [serve1_served,hh]
   have:=serve_least t e (s.serve1 (cs.getD 0 0)) (cs.drop 1) e1 (fun y hy=>h2 y (by simp [hy])) (by clear t1;omega);rw [serve_yes hm,cL];clear t1 h1 h2 hm e1;omega
theorem wait_enough {n:Nat} (hr:1≤r):1000000 * n≤r * ((1000000 * n + r - 1) / r):=by
 have h1:=Nat.div_add_mod (1000000 * n + r - 1) r;have h2:=Nat.mod_lt (1000000 * n + r - 1) (show 0 < r by omega);generalize 1000000 * n=y at *;generalize (y + r - 1) / r=z at *;generalize (y + r - 1) % r=m at *;generalize r * z=x at *;omega
theorem to_least {now w y:Nat} (hr:k.r=r) (ht:now=k.t + w) (hy:y≤r * w) (hm:y≤↑ω):y≤(k.toS now).n:=by
 unfold KB.toS;split
 ·next c=>
  have:w=0:=by omega
  subst this;omega
 ·show y≤Pl.addS k.n (Pl.mulS k.r (now - k.t))
  rw [hr,show now - k.t=w by omega];unfold Pl.addS Pl.mulS;generalize r * w=x at *;omega
end LKS
end Go.Proofs.YtjhiooggnpbecaaGreatDoor
