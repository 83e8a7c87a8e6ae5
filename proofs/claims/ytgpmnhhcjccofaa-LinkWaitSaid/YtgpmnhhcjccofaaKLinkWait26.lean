/- 2 texts put together: what each one says stands ahead of it. -/
import Derived.Test.YtgpmnhhcjccofaaKLinkWait24
import Derived.Test.YtgpmnhhcjccofaaKLinkWait25
set_option linter.unusedVariables false
namespace Go.Proofs.Ytgpmnhhcjccofaa
open Go.RowKit
namespace LS
theorem serve_le (s:LS) (cs:List Nat):s.served≤(s.serve cs).served:=serve_ind (P:=fun x=>s.served≤x.served) (fun x c h hm=>by rw [serve1_served];omega) _ s cs rfl (Nat.le_refl _)
theorem takeB_yes {k:KB} {x:Nat} (hx:x≤1073741824) (h:1000000 * x≤k.n):k.takeB x=true:=by
 unfold KB.takeB KB.spendB
 rw [mul_size hx]
 exact decide_eq_true h
theorem serve_least:∀(l:List Pk) (e:List Pk) (s:LS) (cs:List Nat),s.q.l=l ++ e→(∀x∈l,x.size≤1073741824)→1000000 * totP l≤s.k.n→s.served + totP l≤(s.serve cs).served
 | [],e,s,cs,_,_,_=>by rw [totP_nil];exact serve_le s cs
 | x :: t,e,s,cs,h1,h2,h3=>by
   have hx:=h2 x (by simp)
   rw [totP_cons] at h3
   have hs:s.q.someQ=true:=(some_iff s.q).2 (by rw [h1];simp)
   have hh:s.q.headQ=x:=by unfold QK.headQ;rw [h1];rfl
   have hm:s.may=true:=by
    unfold may
    rw [hs,hh,takeB_yes hx (by omega)]
    rfl
   obtain ⟨t1,_,_⟩:=take_n (k:=s.k) (may_take hm) (by rw [hh];exact hx)
   have e1:(s.serve1 (cs.getD 0 0)).q.l=t ++ e:=by rw [serve1_q];show s.q.l.drop 1=_;rw [h1];rfl
   have hk:(s.serve1 (cs.getD 0 0)).k.n + 1000000 * x.size=s.k.n:=by rw [serve1_k];rw [hh] at t1 ⊢;exact t1
   have hv:(s.serve1 (cs.getD 0 0)).served=s.served + x.size:=by rw [serve1_served,hh]
   have:=serve_least t e (s.serve1 (cs.getD 0 0)) (cs.drop 1) e1 (fun y hy=>h2 y (by simp [hy])) (by clear t1;omega)
   rw [serve_yes hm,totP_cons]
   clear t1 h1 h2 hm e1
   omega
theorem put_more (q:QK) (p:Pk):∃e,(q.putQ p).l=q.l ++ e:=by
 unfold QK.putQ;split
 ·exact ⟨[p],rfl⟩
 ·exact ⟨[],by simp [QK.dropQ]⟩
theorem sends_more (l:List Pk):∀s:LS,∃e,(s.sends l).q.l=s.q.l ++ e:=by
 induction l with
 | nil=>intro s;exact ⟨[],by simp [LS.sends]⟩
 | cons p t ih=>
   intro s
   obtain ⟨e1,h1⟩:=ih (s.send1 p)
   obtain ⟨e2,h2⟩:=put_more s.q p
   exact ⟨e2 ++ e1,by rw [show s.sends (p :: t)=(s.send1 p).sends t from rfl,h1,send1_q,h2,List.append_assoc]⟩
def wait (s:LS) (r:Nat):Nat:=(1000000 * s.q.n + r - 1) / r
theorem wait_enough {n r:Nat} (hr:1≤r):1000000 * n≤r * ((1000000 * n + r - 1) / r):=by
 have h1:=Nat.div_add_mod (1000000 * n + r - 1) r
 have h2:=Nat.mod_lt (1000000 * n + r - 1) (show 0 < r by omega)
 generalize 1000000 * n=y at *
 generalize (y + r - 1) / r=z at *
 generalize (y + r - 1) % r=m at *
 generalize r * z=x at *
 omega
theorem to_least {k:KB} {now w r y:Nat} (hr:k.r=r) (ht:now=k.t + w) (hy:y≤r * w) (hm:y≤18446744073709551615):y≤(k.toS now).n:=by
 unfold KB.toS
 split
 ·next c=>
  have:w=0:=by omega
  subst this
  omega
 ·show y≤Pl.addS k.n (Pl.mulS k.r (now - k.t))
  rw [hr,show now - k.t=w by omega]
  unfold Pl.addS Pl.mulS
  generalize r * w=x at *
  omega
structure Bound (r:Nat) (s:LS) (f b0:Nat):Prop where
 ok:s.ok f
 now:s.t=s.k.t
 rate:s.k.r=r
 sz:∀x∈s.q.l,x.size≤1073741824
 room:s.q.room=b0
 q:s.q.n≤1073741824 * 3600
 served:s.served + s.q.n≤1073741824 * 3600
 t:s.t≤1073741824 * 60
 f:f≤3600
theorem Sm.bound {r k b0 f:Nat} {s:LS} (h:Sm r s f k) (hk:k≤60) (hb:s.q.room=b0):Bound r s f b0:=by
 have h1:=h.came
 have h2:=h.ok.c1
 have h3:=h.few
 have h4:=h.t
 have h5:=h.ok.q.n
 have h6:1073741824 * k≤1073741824 * 60:=Nat.mul_le_mul_left _ hk
 exact ⟨h.ok,h.now,h.rate,h.sz,hb,by omega,by omega,by omega,by omega⟩
theorem wait_le {r b0 f:Nat} {s:LS} (h:Bound r s f b0) (hr:1≤r) (hr2:r≤1099511627776):s.wait r≤Pl.overS b0 1000000 r∧s.wait r≤1000000 * (1073741824 * 3600) + 1099511627776:=by
 have h1:=h.ok.q.le
 rw [h.room] at h1
 have h2:=h.q
 have h3:s.wait r≤1000000 * s.q.n + r - 1:=Nat.div_le_self _ _
 refine ⟨?_,by omega⟩
 unfold Pl.overS
 rw [if_neg (by omega)]
 have h4:s.wait r≤(b0 * 1000000 + (r - 1)) / r:=Nat.div_le_div_right (by rw [Nat.mul_comm b0];omega)
 exact Nat.le_min.2 ⟨h4,by omega⟩
theorem waits {r b0 f:Nat} {s:LS} (h:Bound r s f b0) (hr:1≤r) (l:List Pk):s.served + s.q.n≤((s.sends l).tick (s.t + s.wait r) 0 []).served:=by
 obtain ⟨e,he⟩:=sends_more l s
 obtain ⟨g1,g2,g3,g4,g5,g6,g7⟩:=sends_same l s
 have h2:=h.q
 have hl:=to_least (k:=s.k) (now:=s.t + s.wait r) (w:=s.wait r) (r:=r) (y:=1000000 * s.q.n) h.rate (by rw [h.now]) (wait_enough hr) (by omega)
 have:=serve_least s.q.l e ((s.sends l).toT (s.t + s.wait r)) [] (by rw [toT_q,he]) h.sz (by rw [toT_k,g2,← h.ok.q.n];exact hl)
 rw [toT_served,g5,← h.ok.q.n] at this
 unfold tick ahead
 rw [deliver_served]
 unfold wasteL
 split
 ·exact this
 ·rw [wasteK_served];exact this
end LS
end Go.Proofs.Ytgpmnhhcjccofaa

set_option linter.unusedVariables false
namespace Go.Proofs.Ytgpmnhhcjccofaa
open Go.RowKit
set_option maxRecDepth 100000 in
set_option maxHeartbeats 2000000 in
theorem LinkWait_walk (r d j b0:Nat) (v:Option Addr) (len cap:Nat) (v2:Option Addr) (len2 cap2:Nat) (l:List Act21) (ab off:Nat) (more:List Nat) (W:World) (hp:r≤18446744073709551615∧d≤18446744073709551615∧j≤18446744073709551615∧b0≤18446744073709551615) (hl:l.length=len∧InAct21 W v l ab off) (hm:InNus W v2 len2 cap2 more):
  Calls Try.prog 5 #[.agg #[.int .u64 (r:Int),.int .u64 (d:Int),.int .u64 (j:Int),.int .u64 (b0:Int)],.slice v len cap,.slice v2 len2 cap2] W fun e w'=>e=.returned (.bool true)∧Below W.heap.size W w':=by
 obtain ⟨rfl,hi⟩:=hl
 have HI:=Lib.hid (hi.keep (al_be W (.cells #[.int .u64 (r:Int),.int .u64 (d:Int),.int .u64 (j:Int),.int .u64 (b0:Int)] 24)))
 have HM:=Lib.hid (hm.keep (al_be W (.cells #[.int .u64 (r:Int),.int .u64 (d:Int),.int .u64 (j:Int),.int .u64 (b0:Int)] 24)))
 have HBel:=Lib.hid (al_be W (.cells #[.int .u64 (r:Int),.int .u64 (d:Int),.int .u64 (j:Int),.int .u64 (b0:Int)] 24))
 have HBx:=Lib.hid (Blk.new W 24 #[.int .u64 (r:Int),.int .u64 (d:Int),.int .u64 (j:Int),.int .u64 (b0:Int)])
 have HP:=Lib.hid hp
 have hlen2:=hm.len
 subst hlen2
 have b0c:=HBx.out.cell (i:=0) (v:=.int .u64 (r:Int)) rfl
 have b1c:=HBx.out.cell (i:=1) (v:=.int .u64 (d:Int)) rfl
 have b2c:=HBx.out.cell (i:=2) (v:=.int .u64 (j:Int)) rfl
 have b3c:=HBx.out.cell (i:=3) (v:=.int .u64 (b0:Int)) rfl
 clear hi hm hp
 go_enter Try.func5,Try.ntmps5
 go_wp2_with fail
 generalize hz:W.heap.size=z at *
 have HZ:=Lib.hid hz
 clear hz
 generalize W.alloc (.cells #[.int .u64 (r:Int),.int .u64 (d:Int),.int .u64 (j:Int),.int .u64 (b0:Int)] 24)=W1 at *
 replace HBel:Hid (Below W.heap.size W W1):=Lib.hid (by rw [HZ.out];exact HBel.out)
 refine (fits21_any l v cap ab off W1 HI.out).mono ?_
 rintro e w ⟨rfl,hw⟩
 rw [hw]
 clear hw
 go_wp2_with fail
 refine (rf_Right r d j b0 _).mono ?_
 rintro e w2 ⟨rfl,hb⟩
 have HB2:=Lib.hid hb
 have BX2:=Lib.hid (HBx.out.keep hb)
 have b0c:=BX2.out.cell (i:=0) (v:=.int .u64 (r:Int)) rfl
 have b1c:=BX2.out.cell (i:=1) (v:=.int .u64 (d:Int)) rfl
 have b2c:=BX2.out.cell (i:=2) (v:=.int .u64 (j:Int)) rfl
 have b3c:=BX2.out.cell (i:=3) (v:=.int .u64 (b0:Int)) rfl
 clear hb
 go_wp2_with fail
 refine (small21_any r d j b0 l v cap ab off w2 (HI.out.keep HB2.out)).mono ?_
 rintro e w3 ⟨rfl,hb⟩
 have HB3:Hid (Below W1.heap.size W1 w3):=Lib.hid (bel_to HB2.out hb HB2.out.size)
 have BX3:=Lib.hid (BX2.out.keep hb)
 clear hb HB2 BX2 b0c b1c b2c b3c
 have b0c:=BX3.out.cell (i:=0) (v:=.int .u64 (r:Int)) rfl
 have b1c:=BX3.out.cell (i:=1) (v:=.int .u64 (d:Int)) rfl
 have b2c:=BX3.out.cell (i:=2) (v:=.int .u64 (j:Int)) rfl
 have b3c:=BX3.out.cell (i:=3) (v:=.int .u64 (b0:Int)) rfl
 cases hF:fits21 l with
 | false=>
   go_wp2_with fail
   refine (alive21 _).mono ?_
   rintro e w9 ⟨rfl,hb⟩
   have HB9:=Lib.hid (HBel.out.trans ((bel_to HB3.out hb HB3.out.size).mono HBel.out.size))
   clear hb
   go_wp2_with fail
   go_ret
   exact ⟨rfl,HB9.out⟩
 | true=>
 cases hR:rightP r d j b0 with
 | false=>
   go_wp2_with fail
   refine (alive21 _).mono ?_
   rintro e w9 ⟨rfl,hb⟩
   have HB9:=Lib.hid (HBel.out.trans ((bel_to HB3.out hb HB3.out.size).mono HBel.out.size))
   clear hb
   go_wp2_with fail
   go_ret
   exact ⟨rfl,HB9.out⟩
 | true=>
 cases hS:small21 r l with
 | false=>
   go_wp2_with fail
   refine (alive21 _).mono ?_
   rintro e w9 ⟨rfl,hb⟩
   have HB9:=Lib.hid (HBel.out.trans ((bel_to HB3.out hb HB3.out.size).mono HBel.out.size))
   clear hb
   go_wp2_with fail
   go_ret
   exact ⟨rfl,HB9.out⟩
 | true=>
 by_cases hL:more.length≤60
 case neg=>
  have d4:decide ((60:Int) < (more.length:Int))=true:=by simp;omega
  go_wp2_with fail
  refine (alive21 _).mono ?_
  rintro e w9 ⟨rfl,hb⟩
  have HB9:=Lib.hid (HBel.out.trans ((bel_to HB3.out hb HB3.out.size).mono HBel.out.size))
  clear hb
  go_wp2_with fail
  go_ret
  exact ⟨rfl,HB9.out⟩
 have d4:decide ((60:Int) < (more.length:Int))=false:=by simp;omega
 have HFit:=Lib.hid (fit_of hF)
 have HSml:=Lib.hid (small_of hS)
 have HRt:=Lib.hid (right_of hR)
 have HNw:=Lib.hid (oe_New r d j b0 w3 hR)
 have HLm:=Lib.hid hL
 have HF60:=(fit_of hF).1
 clear hF hS hR
 go_wp2_with fail
 refine HNw.out.mono ?_
 rintro e w4 ⟨b,rfl,h0⟩
 have H0:=Lib.hid (h0.out.base HB3.out)
 clear h0 HNw HB3 BX3 b0c b1c b2c b3c d4
 go_wp2_with fail
 go_loopw [12,13] (fun fv i wr=>∃(k f:Nat) (s:LS),fv=.int .i64 (f:Int)∧i=.int .i64 (k:Int)∧k≤l.length∧Hid (LS.Sm r s f k)∧s.q.room=b0∧Hid (OwnE W1 b s wr)) (fun _ i _=>l.length - (intOf i).toNat)
 case atStart=>exact ⟨0,0,_,rfl,rfl,Nat.zero_le _,Lib.hid (LS.Sm.start r d j b0 HP.out.1 HP.out.2.1 HP.out.2.2.1 HP.out.2.2.2),rfl,H0⟩
 case round=>
  obtain ⟨k,f,s,rfl,rfl,hk,HSm,hroom,H⟩:=hrel
  clear H0
  by_cases hlt:k < l.length
  ·obtain ⟨rfl,hab⟩:=HI.out.2.1 (by omega)
   have hA:=HI.out.2.2 k hlt
   have HM1:=Lib.hid (HFit.out.2 k hlt)
   have HM2:=Lib.hid (HSml.out k hlt)
   have hact:=HSm.out.act (q:=l.getD k default) (by omega) HM2.out HM1.out
   obtain ⟨q,hq⟩:∃q,q=l.getD k default:=⟨_,rfl⟩
   rw [← hq] at hA HM1 HM2 hact
   clear hq
   have HAct:=Lib.hid hact
   have HR:=Lib.hid (fun (s:LS)=>act_r hA hab (b:=b) (s:=s))
   obtain ⟨a0,a1,a2,a3,a4⟩:=HR.out s wr H
   have HA:=Lib.hid hA
   have i0:(0:Int)≤(k:Int):=by omega
   have i1:(k:Int) < (l.length:Int):=by omega
   have hsf:=HSm.out.few
   have hst:=HSm.out.t
   have hsa:=small_after HM2.out
   clear hact hab hA
   cases ht:q.tick with
   | true=>
     rw [ht] at a0
     rw [LS.act_tick ht,LS.more_tick ht] at HAct
     have hs1:(s.t:Int) + (q.after:Int)=((s.t + q.after:Nat):Int):=by omega
     have hs2:IntKind.u64.wrap ((s.t + q.after:Nat):Int)=((s.t + q.after:Nat):Int):=by rw [IntKind.wrap_u64];omega
     have HT:=Lib.hid (oe_act (W:=W1) (b:=b) (s:=s) (q:=q) (HSm.out.ok.more (by omega)) HA.out.s4 HA.out.b3 (by omega))
     have ra:∀w,Hid (OwnE W1 b s w)→w.cell? ⟨ab,off + k * 5 + 2,none⟩=some (.int .u64 (q.after:Int)):=fun w h=>(HR.out s w h).2.2.1
     have rb:∀w,Hid (OwnE W1 b s w)→w.cell? ⟨ab,off + k * 5 + 3,none⟩=some (.int .u64 (q.waste:Int)):=fun w h=>(HR.out s w h).2.2.2.1
     have rc:∀w,Hid (OwnE W1 b s w)→w.cell? ⟨ab,off + k * 5 + 4,none⟩=some (.slice q.p2 q.choices.length q.c2):=fun w h=>(HR.out s w h).2.2.2.2
     have M0:Hid (OwnE W1 b s wr.drew):=Lib.hid (H.out.to ((Drawn.drew _).below _))
     clear hsa hst hsf
     generalize s.t + q.after=tn at *
     go_wp2_with fail
     refine wp_region_chain (S:=(fun w'=>Hid (OwnE W1 b s w'))) 19 (by kernel_rfl) (by kernel_rfl) (by kernel_rfl) M0 ?_
     generalize wr.drew=wd at *
     simp only [List.size_toArray,List.length_cons,List.length_nil,Nat.reduceAdd,Array.replicate_succ,Array.replicate_zero,List.push_toArray,List.nil_append,List.cons_append]
     refine Chain.take (i:=0) (oi:=⟨some 66,_,_,_,_,_⟩) (v:=?v1) rfl (by kernel_rfl) (by kernel_rfl) (Or.inl ⟨by rfl,?y1⟩) ?rest1
     case y1=>intro w hSw;clear hSw;go_simp;(try with_reducible rfl)
     simp only [Act.put,List.setIfInBounds_toArray,List.set_cons_zero,List.set_cons_succ]
     refine Chain.take (i:=1) (oi:=⟨some 67,_,_,_,_,_⟩) (v:=?v2) rfl (by kernel_rfl) (by kernel_rfl) (Or.inl ⟨by rfl,?y2⟩) ?rest2
     case y2=>intro w hSw;clear hSw;go_simp;(try with_reducible rfl)
     simp only [Act.put,List.setIfInBounds_toArray,List.set_cons_zero,List.set_cons_succ]
     refine' Chain.call (i:=2) (oi:=⟨some 68,_,_,_,_,_⟩) _ _ rfl (by kernel_rfl) (by kernel_rfl) (by rfl) ?he3 (fun w hS=>(oe_Time W1 b s w hS.out).mono fun e w' q=>And.intro q.1 (q.2▸hS)) ?rest3
     case he3=>intro w;go_simp
     simp only [Act.put,List.setIfInBounds_toArray,List.set_cons_zero,List.set_cons_succ]
     refine Chain.take (i:=3) (oi:=⟨some 69,_,_,_,_,_⟩) (v:=?v4) rfl (by kernel_rfl) (by kernel_rfl) (Or.inl ⟨by rfl,?y4⟩) ?rest4
     case y4=>intro w hSw;clear hSw;go_simp;(try with_reducible rfl)
     simp only [Act.put,List.setIfInBounds_toArray,List.set_cons_zero,List.set_cons_succ]
     refine Chain.take (i:=4) (oi:=⟨some 70,_,_,_,_,_⟩) (v:=?v5) rfl (by kernel_rfl) (by kernel_rfl) (Or.inl ⟨by rfl,?y5⟩) ?rest5
     case y5=>intro w hSw;clear hSw;go_simp;(try with_reducible rfl)
     simp only [Act.put,List.setIfInBounds_toArray,List.set_cons_zero,List.set_cons_succ]
     refine Chain.take (i:=5) (oi:=⟨some 71,_,_,_,_,_⟩) (v:=?v6) rfl (by kernel_rfl) (by kernel_rfl) (Or.inl ⟨by rfl,?y6⟩) ?rest6
     case y6=>intro w hSw;clear hSw;go_simp;(try with_reducible rfl)
     simp only [Act.put,List.setIfInBounds_toArray,List.set_cons_zero,List.set_cons_succ]
     refine Chain.take (i:=6) (oi:=⟨some 72,_,_,_,_,_⟩) (v:=?v7) rfl (by kernel_rfl) (by kernel_rfl) (Or.inl ⟨by rfl,?y7⟩) ?rest7
     case y7=>intro w hSw;clear hSw;go_simp;(try with_reducible rfl)
     simp only [Act.put,List.setIfInBounds_toArray,List.set_cons_zero,List.set_cons_succ]
     refine Chain.take (i:=7) (oi:=⟨some 73,_,_,_,_,_⟩) (v:=?v8) rfl (by kernel_rfl) (by kernel_rfl) (Or.inl ⟨by rfl,?y8⟩) ?rest8
     case y8=>intro w hSw;go_simp;(try with_reducible rfl)
     simp only [Act.put,List.setIfInBounds_toArray,List.set_cons_zero,List.set_cons_succ]
     refine Chain.take (i:=8) (oi:=⟨some 74,_,_,_,_,_⟩) (v:=?v9) rfl (by kernel_rfl) (by kernel_rfl) (Or.inl ⟨by rfl,?y9⟩) ?rest9
     case y9=>intro w hSw;clear hSw;go_simp;(try with_reducible rfl)
     simp only [Act.put,List.setIfInBounds_toArray,List.set_cons_zero,List.set_cons_succ]
     refine Chain.take (i:=9) (oi:=⟨some 75,_,_,_,_,_⟩) (v:=?v10) rfl (by kernel_rfl) (by kernel_rfl) (Or.inl ⟨by rfl,?y10⟩) ?rest10
     case y10=>intro w hSw;clear hSw;go_simp;(try with_reducible rfl)
     simp only [Act.put,List.setIfInBounds_toArray,List.set_cons_zero,List.set_cons_succ]
     refine Chain.take (i:=10) (oi:=⟨some 76,_,_,_,_,_⟩) (v:=?v11) rfl (by kernel_rfl) (by kernel_rfl) (Or.inl ⟨by rfl,?y11⟩) ?rest11
     case y11=>intro w hSw;clear hSw;go_simp;(try with_reducible rfl)
     simp only [Act.put,List.setIfInBounds_toArray,List.set_cons_zero,List.set_cons_succ]
     refine Chain.take (i:=11) (oi:=⟨some 77,_,_,_,_,_⟩) (v:=?v12) rfl (by kernel_rfl) (by kernel_rfl) (Or.inl ⟨by rfl,?y12⟩) ?rest12
     case y12=>intro w hSw;clear hSw;go_simp;(try with_reducible rfl)
     simp only [Act.put,List.setIfInBounds_toArray,List.set_cons_zero,List.set_cons_succ]
     refine Chain.take (i:=12) (oi:=⟨some 78,_,_,_,_,_⟩) (v:=?v13) rfl (by kernel_rfl) (by kernel_rfl) (Or.inl ⟨by rfl,?y13⟩) ?rest13
     case y13=>intro w hSw;clear hSw;go_simp;(try with_reducible rfl)
     simp only [Act.put,List.setIfInBounds_toArray,List.set_cons_zero,List.set_cons_succ]
     refine Chain.take (i:=13) (oi:=⟨some 79,_,_,_,_,_⟩) (v:=?v14) rfl (by kernel_rfl) (by kernel_rfl) (Or.inl ⟨by rfl,?y14⟩) ?rest14
     case y14=>intro w hSw;go_simp;(try with_reducible rfl)
     simp only [Act.put,List.setIfInBounds_toArray,List.set_cons_zero,List.set_cons_succ]
     refine Chain.take (i:=14) (oi:=⟨some 80,_,_,_,_,_⟩) (v:=?v15) rfl (by kernel_rfl) (by kernel_rfl) (Or.inl ⟨by rfl,?y15⟩) ?rest15
     case y15=>intro w hSw;clear hSw;go_simp;(try with_reducible rfl)
     simp only [Act.put,List.setIfInBounds_toArray,List.set_cons_zero,List.set_cons_succ]
     refine Chain.take (i:=15) (oi:=⟨some 81,_,_,_,_,_⟩) (v:=?v16) rfl (by kernel_rfl) (by kernel_rfl) (Or.inl ⟨by rfl,?y16⟩) ?rest16
     case y16=>intro w hSw;clear hSw;go_simp;(try with_reducible rfl)
     simp only [Act.put,List.setIfInBounds_toArray,List.set_cons_zero,List.set_cons_succ]
     refine Chain.take (i:=16) (oi:=⟨some 82,_,_,_,_,_⟩) (v:=?v17) rfl (by kernel_rfl) (by kernel_rfl) (Or.inl ⟨by rfl,?y17⟩) ?rest17
     case y17=>intro w hSw;clear hSw;go_simp;(try with_reducible rfl)
     simp only [Act.put,List.setIfInBounds_toArray,List.set_cons_zero,List.set_cons_succ]
     refine Chain.take (i:=17) (oi:=⟨some 83,_,_,_,_,_⟩) (v:=?v18) rfl (by kernel_rfl) (by kernel_rfl) (Or.inl ⟨by rfl,?y18⟩) ?rest18
     case y18=>intro w hSw;clear hSw;go_simp;(try with_reducible rfl)
     simp only [Act.put,List.setIfInBounds_toArray,List.set_cons_zero,List.set_cons_succ]
     refine Chain.take (i:=18) (oi:=⟨some 84,_,_,_,_,_⟩) (v:=?v19) rfl (by kernel_rfl) (by kernel_rfl) (Or.inl ⟨by rfl,?y19⟩) ?rest19
     case y19=>intro w hSw;go_simp;(try with_reducible rfl)
     simp only [Act.put,List.setIfInBounds_toArray,List.set_cons_zero,List.set_cons_succ]
     refine Chain.last (by kernel_rfl) (fun w hSw=>?_)
     refine wpAnyH_ready (rs:=[19]) (by kernel_rfl) (by simp) ?_
     refine AllReadyH.cons (o:=⟨some 85,_,_,_,_,_⟩) rfl (fun K hK=>?_) AllReadyH.nil
     go_simp
     refine (HT.out _ hSw.out).mono ?_
     rintro e w2 ⟨v,rfl,_,M2⟩
     clear hSw M0 HT ra rb rc
     go_wp2_with fail
     refine hK.out _ _ trivial (fun _=>?_)
     clear hK
     try simp only [List.setIfInBounds_toArray,List.set_cons_zero,List.set_cons_succ]
     refine wpAnyH_done (by kernel_rfl) ?_ _
     skip
     go_wp2_with fail
     go_roundw
     case rel=>exact ⟨k + 1,f,_,rfl,by go_num,by omega,Lib.hid HAct.out.1,HAct.out.2.2.2.trans hroom,M2⟩
     case measure=>simp [intOf];omega
   | false=>
     rw [ht] at a0
     rw [LS.act_send ht,LS.more_send ht] at HAct
     have hfs:=fit_sizes HM1.out
     have HPk:=Lib.hid (oe_packets (W:=W1) (b:=b) (s:=s) (q:=q) f HA.out.s1 hfs (by omega))
     have HSd:Hid (∀(ao:Option Addr) (cap:Nat) (w:World),Below wr.heap.size wr w→Its w ao (pkts f q.sizes)→(0 < (pkts f q.sizes).length→∀a,ao=some a→wr.heap.size≤a.block)→Calls Try.prog 18 #[.pointer (some ⟨b,0,none⟩),.slice ao q.sizes.length cap] w fun e w'=>e=.returned (.int .i64 (s.kept (pkts f q.sizes):Int))∧Hid (OwnE W1 b (s.sends (pkts f q.sizes)) w')):=Lib.hid (fun ao cap w h1 h2 h3=>by
      have:=oe_Send W1 b s f (pkts f q.sizes) ao cap wr w H.out h1 HSm.out.ok h2 h3 (pkts_size (fun x hx=>HA.out.s1.mx x hx)) (by rw [pkts_len];omega)
      rw [pkts_len] at this
      exact this)
     have hs1:(f:Int) + (q.sizes.length:Int)=((f + q.sizes.length:Nat):Int):=by omega
     have hs2:IntKind.i64.wrap ((f + q.sizes.length:Nat):Int)=((f + q.sizes.length:Nat):Int):=by rw [IntKind.wrap_i64];omega
     generalize s.kept (pkts f q.sizes)=kp at *
     generalize s.sends (pkts f q.sizes)=s2 at *
     generalize f + q.sizes.length=f2 at *
     clear hsa hst hsf hfs
     go_wp2_with fail
     refine (HPk.out _ H.out).mono ?_
     rintro e w5 ⟨ao,cp,rfl,hi,hg,hb⟩
     go_wp2_with fail
     refine (HSd.out ao cp w5 hb.out hi.out hg.out).mono ?_
     rintro e w6 ⟨rfl,M6⟩
     clear hi hg hb HSd HPk
     go_wp2_with fail
     go_roundw
     case rel=>exact ⟨k + 1,f2,s2,rfl,by go_num,by omega,Lib.hid HAct.out.1,HAct.out.2.2.2.trans hroom,M6⟩
     case measure=>simp [intOf];omega
  ·obtain rfl:k=l.length:=by omega
   have HBd:=Lib.hid (HSm.out.bound HF60 hroom)
   have HCt:=Lib.hid (oe_Count W1 b s f wr H.out HSm.out.ok (by have:=HBd.out.f;omega))
   clear HSm hroom HFit HSml hk hlt
   go_wp2_with fail
   refine HCt.out.mono ?_
   rintro e w5 ⟨rfl,hb⟩
   have H5:=Lib.hid (H.out.to hb)
   clear HCt H hb
   unfold LS.countV
   have CV:Hid (OwnE W1 b s (w5.alloc (.cells #[.int .u64 (LS.told s.came:Int),.int .u64 (s.q.lost:Int),.int .u64 (s.q.n:Int),.int .u64 (LS.told s.served:Int),.int .u64 (LS.told (s.served - s.deliv):Int),.int .u64 (LS.told s.deliv:Int)] 70))):=Lib.hid (H5.out.to (al_be _ _))
   have HBc:=Lib.hid (Blk.new w5 70 #[.int .u64 (LS.told s.came:Int),.int .u64 (s.q.lost:Int),.int .u64 (s.q.n:Int),.int .u64 (LS.told s.served:Int),.int .u64 (LS.told (s.served - s.deliv):Int),.int .u64 (LS.told s.deliv:Int)])
   obtain ⟨b0c,_,_,b3c⟩:=path_r HBx.out _ CV
   have hqn:=HBd.out.q
   have hwt:=LS.wait_le HBd.out HRt.out.1 HRt.out.2.1
   obtain ⟨y,hy⟩:∃y,y=1000000 * s.q.n:=⟨_,rfl⟩
   have hyb:y≤1000000 * (1073741824 * 3600):=by omega
   have e1:(s.q.n:Int) * 1000000=(y:Int):=by rw [hy,Int.mul_comm];rfl
   have e1w:IntKind.u64.wrap (y:Int)=(y:Int):=by rw [IntKind.wrap_u64];omega
   have hr:=HRt.out
   have e2:(y:Int) + (r:Int)=((y + r:Nat):Int):=by omega
   have e2w:IntKind.u64.wrap ((y + r:Nat):Int)=((y + r:Nat):Int):=by rw [IntKind.wrap_u64];omega
   have e3:((y + r:Nat):Int) - 1=((y + r - 1:Nat):Int):=by omega
   have e3w:IntKind.u64.wrap ((y + r - 1:Nat):Int)=((y + r - 1:Nat):Int):=by rw [IntKind.wrap_u64];omega
   have e4:((y + r - 1:Nat):Int) / (r:Int)=(s.wait r:Int):=by rw [hy];rfl
   have e5:(r:Int)≠0:=by omega
   have e5':((r:Int) == 0)=false:=by simp;omega
   have HOv:=Lib.hid (fun w=>ref_Over b0 1000000 r w HP.out.2.2.2 (by omega) HP.out.1)
   have HWt:=Lib.hid hwt
   clear hy hyb hqn hr hwt
   generalize y + r - 1=y3 at *
   generalize y + r=y2 at *
   have HWe:Hid (s.wait r=s.wait r):=Lib.hid rfl
   obtain ⟨wt,hwt'⟩:∃wt,wt=s.wait r:=⟨_,rfl⟩
   replace HWe:Hid (s.wait r=wt):=Lib.hid hwt'.symm
   rw [← hwt'] at e4 HWt
   clear hwt'
   have e4w:IntKind.u64.wrap (wt:Int)=(wt:Int):=by rw [IntKind.wrap_u64];have:=HWt.out.2;omega
   generalize Pl.overS b0 1000000 r=full at *
   go_wp2_with fail
   refine (HOv.out _).mono ?_
   rintro e w6 ⟨rfl,rfl⟩
   clear HOv e1 e1w e2 e2w e3 e3w e4 e4w e5 e5'
   have HPk:=Lib.hid (oe_more (W:=W1) (b:=b) (s:=s) f HM.out HLm.out HBd.out.f _ CV.out)
   go_wp2_with fail
   refine HPk.out.mono ?_
   rintro e w7 ⟨ao,cp,rfl,hi,hg,hb⟩
   have HSd:=Lib.hid (oe_SendK W1 b s f (pkts f more) more.length (pkts_len _ _) ao cp _ w7 CV.out hb.out HBd.out.ok hi.out hg.out (pkts_size (fun x hx=>HM.out.mx x hx)) (by rw [pkts_len];have:=HBd.out.f;have:=HLm.out;omega))
   have HBc7:=Lib.hid (HBc.out.keep hb.out)
   have HWS:=Lib.hid (LS.waits HBd.out HRt.out.1 (pkts f more))
   have HOk:Hid ((s.sends (pkts f more)).ok 5000):=Lib.hid ((HBd.out.ok.sends (pkts_size (fun x hx=>HM.out.mx x hx))).more (by rw [pkts_len];have:=HBd.out.f;have:=HLm.out;omega))
   have HTt:Hid ((s.sends (pkts f more)).t=s.t):=Lib.hid (LS.sends_same _ _).1
   have HTs:Hid (s.t≤1073741824 * 60∧s.served + s.q.n≤1073741824 * 3600∧s.q.n=s.q.n):=Lib.hid ⟨HBd.out.t,HBd.out.served,rfl⟩
   rw [HWe.out] at HWS
   clear HPk hi hg hb CV HBc b0c b3c HBd HM HLm
   generalize s.sends (pkts f more)=s2 at *
   generalize s.kept (pkts f more)=kp at *
   go_wp2_with fail
   refine HSd.out.mono ?_
   rintro e w8 ⟨rfl,M8,K8⟩
   have HBc8:=Lib.hid (K8.out _ _ _ (by decide) HBc7.out)
   clear HSd K8 HBc7
   go_wp2_with fail
   refine (oe_Time W1 b s2 w8 M8.out).mono ?_
   rintro e w9 ⟨rfl,rfl⟩
   have e1:(s2.t:Int) + (wt:Int)=((s2.t + wt:Nat):Int):=by omega
   have hts:=HTs.out
   have htt:=HTt.out
   have hww:=HWt.out
   have e2:IntKind.u64.wrap ((s2.t + wt:Nat):Int)=((s2.t + wt:Nat):Int):=by rw [IntKind.wrap_u64];omega
   have HTk:=Lib.hid (oe_TickK W1 b s2 (s2.t + wt) HOk.out (Nat.le_add_right _ _) (by omega))
   have HO3:=Lib.hid (HOk.out.tick (now:=s2.t + wt) (by omega) 0 [])
   rw [← HTt.out] at HWS
   clear hts htt hww HTt
   generalize s2.t + wt=tn at *
   go_wp2_with fail
   refine (HTk.out _ M8.out).mono ?_
   rintro e w9 ⟨v9,rfl,M9,K9⟩
   have HBc9:=Lib.hid (K9.out _ _ _ (by decide) HBc8.out)
   clear HTk K9 HBc8 M8 e1 e2
   generalize s2.tick tn 0 []=s3 at *
   go_wp2_with fail
   refine (oe_Count W1 b s3 5000 w9 M9.out HO3.out (Nat.le_refl _)).mono ?_
   rintro e w10 ⟨rfl,hb⟩
   have M10:=Lib.hid (M9.out.to hb)
   have HBc10:=Lib.hid (HBc9.out.keep hb)
   unfold LS.countV
   have HBd10:=Lib.hid (Blk.new w10 70 #[.int .u64 (LS.told s3.came:Int),.int .u64 (s3.q.lost:Int),.int .u64 (s3.q.n:Int),.int .u64 (LS.told s3.served:Int),.int .u64 (LS.told (s3.served - s3.deliv):Int),.int .u64 (LS.told s3.deliv:Int)])
   have HBc11:=Lib.hid (HBc10.out.keep (al_be w10 (.cells #[.int .u64 (LS.told s3.came:Int),.int .u64 (s3.q.lost:Int),.int .u64 (s3.q.n:Int),.int .u64 (LS.told s3.served:Int),.int .u64 (LS.told (s3.served - s3.deliv):Int),.int .u64 (LS.told s3.deliv:Int)] 70)))
   have M11:=Lib.hid (M10.out.to (al_be w10 (.cells #[.int .u64 (LS.told s3.came:Int),.int .u64 (s3.q.lost:Int),.int .u64 (s3.q.n:Int),.int .u64 (LS.told s3.served:Int),.int .u64 (LS.told (s3.served - s3.deliv):Int),.int .u64 (LS.told s3.deliv:Int)] 70)))
   clear HBc9 HBc10 M9 M10 hb HO3 HOk
   go_wp2_with fail
   generalize w10.alloc (.cells #[.int .u64 (LS.told s3.came:Int),.int .u64 (s3.q.lost:Int),.int .u64 (s3.q.n:Int),.int .u64 (LS.told s3.served:Int),.int .u64 (LS.told (s3.served - s3.deliv):Int),.int .u64 (LS.told s3.deliv:Int)] 70)=w11 at *
   refine (alive21 w11).mono ?_
   rintro e w12 ⟨rfl,hb⟩
   have c3:=(HBd10.out.keep hb).cell (i:=3) (v:=.int .u64 (LS.told s3.served:Int)) rfl
   have c4:=(HBc11.out.keep hb).cell (i:=3) (v:=.int .u64 (LS.told s.served:Int)) rfl
   have c5:=(HBc11.out.keep hb).cell (i:=2) (v:=.int .u64 (s.q.n:Int)) rfl
   have HB12:=Lib.hid (HBel.out.trans ((bel_to M11.out.bel hb M11.out.bel.size).mono HBel.out.size))
   have g1:decide (wt≤full)=true:=decide_eq_true HWt.out.1
   have g1':decide ((wt:Int)≤(full:Int))=true:=decide_eq_true (by have:=HWt.out.1;omega)
   have hs:=HWS.out
   have ht:=HTs.out.2.1
   have g2:(LS.told s.served:Int) + (s.q.n:Int)=((LS.told s.served + s.q.n:Nat):Int):=by omega
   have g3:IntKind.u64.wrap ((LS.told s.served + s.q.n:Nat):Int)=((LS.told s.served + s.q.n:Nat):Int):=by rw [IntKind.wrap_u64];unfold LS.told;omega
   have g4:decide (LS.told s.served + s.q.n≤LS.told s3.served)=true:=decide_eq_true (by unfold LS.told;omega)
   have g4':decide (((LS.told s.served + s.q.n:Nat):Int)≤(LS.told s3.served:Int))=true:=decide_eq_true (by unfold LS.told;omega)
   clear hs ht hb
   generalize LS.told s.served + s.q.n=sq at *
   go_wp2_with fail
   go_ret
   exact ⟨rfl,HB12.out⟩
end Go.Proofs.Ytgpmnhhcjccofaa
