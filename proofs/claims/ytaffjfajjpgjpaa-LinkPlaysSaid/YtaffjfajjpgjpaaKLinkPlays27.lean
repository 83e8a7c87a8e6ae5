/- 2 texts put together: what each one says stands ahead of it. -/
import Derived.Test.YtaffjfajjpgjpaaKLinkPlays26
import Derived.Deep.LoopGhost
set_option linter.unusedVariables false
namespace Go.Proofs.Ytaffjfajjpgjpaa
open Go.RowKit
theorem pp_New {W w1 w w':World} {b m c r d j b0:Nat} (k1:Below W.heap.size W w1) (h:OwnE w1 b (LS.start r d j b0) w) (k:DkAt W.heap.size w' m c (.slice none 0 0) (.slice none 0 0) (LS.start r d j b0)) (hm:w.heap.size≤m) (hc:w.heap.size≤c) (bel:Below w.heap.size w w'):PP W b m c (LS.start r d j b0) (LS.start r d j b0) w':=by
 obtain ⟨p,rfl,h⟩:=h
 have sz:=h.bel.size
 have s1:=k1.size
 have hl:∀x∈dl m c (.slice none 0 0) (.slice none 0 0),x=m∨x=c:=by
  intro x hx
  have e:dl m c (.slice none 0 0) (.slice none 0 0)=[m,c,c,c]:=rfl
  rw [e] at hx
  simp only [List.mem_cons,List.not_mem_nil,or_false] at hx
  omega
 have lt:=h.at_.lt
 exact ⟨p,_,_,rfl,h.at_.keep bel,k,fun x hx=>Nat.le_trans s1 (h.lo x hx),fun x hx=>by have:=hl x hx;omega,fun x hx hx2=>by
  have:=hl x hx2
  have:=lt x hx
  omega,bel_to (bel_to k1 h.bel s1) bel (by omega)⟩
theorem pp_rules {W:World} {b m c:Nat} {s t:LS}:(∀w,Hid (PP W b m c s t w)→w.cell? ⟨m,0,none⟩=some (.pointer (some ⟨c,0,none⟩)))∧(∀w,Hid (PP W b m c s t w)→w.cell? ⟨c,1,none⟩=some (.int .u64 (t.k.t:Int))):=
 ⟨fun w h=>by
  obtain ⟨p,v,u,_,k⟩:=h.out
  exact (dk_rules (B:=W.heap.size) (m:=m) (c:=c) (v:=v) (u:=u) (s:=t)).1 w (Lib.hid k.d),
  fun w h=>by
   obtain ⟨p,v,u,_,k⟩:=h.out
   exact (dk_rules (B:=W.heap.size) (m:=m) (c:=c) (v:=v) (u:=u) (s:=t)).2.2.2.2.2.2.2.1 w (Lib.hid k.d)⟩
theorem act_b {W:World} {ab o:Nat} {q:Act21} (h:Act21At W ab o q) (hb:ab < W.heap.size):∀w,Below W.heap.size W w→w.cell? ⟨ab,o,none⟩=some (.bool q.tick)∧w.cell? ⟨ab,o + 1,none⟩=some (.slice q.p1 q.sizes.length q.c1)∧w.cell? ⟨ab,o + 2,none⟩=some (.int .u64 (q.after:Int))∧w.cell? ⟨ab,o + 3,none⟩=some (.int .u64 (q.waste:Int))∧w.cell? ⟨ab,o + 4,none⟩=some (.slice q.p2 q.choices.length q.c2):=fun w k=>by
 have A:=h.keep hb k
 exact ⟨A.k0,A.k1,A.k2,A.k3,A.k4⟩
theorem pp_packets {W:World} {b m c:Nat} {s t:LS} {q:Act21} (f:Nat) (hq:InNus W q.p1 q.sizes.length q.c1 q.sizes) (hl:q.sizes.length≤60) (hf:f≤3600):∀w,PP W b m c s t w→
  Calls Try.prog 14 #[.int .i64 (f:Int),.slice q.p1 q.sizes.length q.c1] w fun e w'=>∃ao cap,e=.returned (.slice ao q.sizes.length cap)∧Hid (PV W b m c s t ao (pkts f q.sizes) w'):=
 fun w h=>(packets_any f q.sizes q.p1 q.c1 w (hq.keep h.bel) hl hf).mono fun e w' k=>by
  obtain ⟨v,he,hv,hb⟩:=k
  obtain ⟨ao,cap,rfl,_,_,_,_⟩:=hv.form
  have:=h.with hb hv
  rw [pkts_len] at he
  exact ⟨ao,cap,he,Lib.hid this⟩
theorem out_few {s:LS} (ho:s.ok 5000) {now:Nat} (hm:now≤18446744073709551615) (waste:Nat) (cs:List Nat):(s.tickOut now waste cs).length≤5000:=by
 have e:s.tickOut now waste cs=(s.ahead now waste cs).j.told now:=by
  show (s.ahead now waste cs).j.told (s.ahead now waste cs).t=_
  rw [LS.ahead_t]
 rw [e]
 exact (told_small (ho.ahead hm waste cs)).2
theorem path_b {W:World} {z r d j b0:Nat} (h:Blk W z 24 #[.int .u64 (r:Int),.int .u64 (d:Int),.int .u64 (j:Int),.int .u64 (b0:Int)]):∀w,Below W.heap.size W w→w.cell? ⟨z,0,none⟩=some (.int .u64 (r:Int))∧w.cell? ⟨z,1,none⟩=some (.int .u64 (d:Int))∧w.cell? ⟨z,2,none⟩=some (.int .u64 (j:Int))∧w.cell? ⟨z,3,none⟩=some (.int .u64 (b0:Int)):=fun w k=>by
 have B:=h.keep k
 exact ⟨B.cell rfl,B.cell rfl,B.cell rfl,B.cell rfl⟩
end Go.Proofs.Ytaffjfajjpgjpaa

set_option linter.unusedVariables false
namespace Go.Proofs.Ytaffjfajjpgjpaa
open Go.RowKit
set_option maxRecDepth 100000 in
set_option maxHeartbeats 4000000 in
theorem LinkPlays_walk (r d j b0:Nat) (v:Option Addr) (len cap:Nat) (l:List Act21) (ab off:Nat) (W:World) (hp:r≤18446744073709551615∧d≤18446744073709551615∧j≤18446744073709551615∧b0≤18446744073709551615) (hl:l.length=len∧InAct21 W v l ab off):
  Calls Try.prog 3 #[.agg #[.int .u64 (r:Int),.int .u64 (d:Int),.int .u64 (j:Int),.int .u64 (b0:Int)],.slice v len cap] W fun e w'=>e=.returned (.bool true)∧Below W.heap.size W w':=by
 obtain ⟨rfl,hi⟩:=hl
 have HI:=Lib.hid (hi.keep (al_be W (.cells #[.int .u64 (r:Int),.int .u64 (d:Int),.int .u64 (j:Int),.int .u64 (b0:Int)] 24)))
 have HBel:=Lib.hid (al_be W (.cells #[.int .u64 (r:Int),.int .u64 (d:Int),.int .u64 (j:Int),.int .u64 (b0:Int)] 24))
 have HBx:=Lib.hid (Blk.new W 24 #[.int .u64 (r:Int),.int .u64 (d:Int),.int .u64 (j:Int),.int .u64 (b0:Int)])
 have HP:=Lib.hid hp
 clear hi hp
 go_enter Try.func3,Try.ntmps3
 go_wp2_with fail
 generalize hz:W.heap.size=z at *
 have HZ:=Lib.hid hz
 clear hz
 generalize W.alloc (.cells #[.int .u64 (r:Int),.int .u64 (d:Int),.int .u64 (j:Int),.int .u64 (b0:Int)] 24)=W1 at *
 replace HBel:Hid (Below W.heap.size W W1):=Lib.hid (by rw [HZ.out];exact HBel.out)
 refine (fits21_any l v cap ab off W1 HI.out).mono ?_
 rintro e w ⟨rfl,hw⟩
 rw [hw]
 clear hw
 cases hF:fits21 l with
 | false=>
   go_wp2_with fail
   refine (alive21 _).mono ?_
   rintro e w9 ⟨rfl,hb⟩
   have HB9:=Lib.hid (HBel.out.trans (hb.mono HBel.out.size))
   clear hb
   go_wp2_with fail
   go_ret
   exact ⟨rfl,HB9.out⟩
 | true=>
 obtain ⟨b0c,b1c,b2c,b3c⟩:=path_b HBx.out W1 (Below.refl _ _)
 cases hR:rightP r d j b0 with
 | false=>
   have HR:=Lib.hid hR
   have HN1:=Lib.hid (lk_New_no r d j b0 W1 hR)
   have HN2:=Lib.hid (fun w=>dk_New_no r d j b0 w hR)
   clear hR hF
   go_wp2_with fail
   refine HN1.out.mono ?_
   rintro e w4 ⟨rfl,hb⟩
   have HB4:=Lib.hid hb
   clear hb b0c b1c b2c b3c HN1
   obtain ⟨b0c,b1c,b2c,b3c⟩:=path_b HBx.out w4 HB4.out
   go_wp2_with fail
   refine (HN2.out _).mono ?_
   rintro e w5 ⟨rfl,hb⟩
   have M0:Hid (Below W1.heap.size W1 w5.drew):=Lib.hid ((bel_to HB4.out hb HB4.out.size).trans ((Drawn.drew _).below _))
   clear hb b0c b1c b2c b3c HB4 HN2
   have q0:∀w,Hid (Below W1.heap.size W1 w)→w.cell? ⟨z,0,none⟩=some (.int .u64 (r:Int)):=fun w h=>(path_b HBx.out w h.out).1
   have q1:∀w,Hid (Below W1.heap.size W1 w)→w.cell? ⟨z,1,none⟩=some (.int .u64 (d:Int)):=fun w h=>(path_b HBx.out w h.out).2.1
   have q2:∀w,Hid (Below W1.heap.size W1 w)→w.cell? ⟨z,2,none⟩=some (.int .u64 (j:Int)):=fun w h=>(path_b HBx.out w h.out).2.2.1
   have q3:∀w,Hid (Below W1.heap.size W1 w)→w.cell? ⟨z,3,none⟩=some (.int .u64 (b0:Int)):=fun w h=>(path_b HBx.out w h.out).2.2.2
   go_wp2_with fail
   refine wp_region_chain (S:=(fun w'=>Hid (Below W1.heap.size W1 w'))) 17 (by kernel_rfl) (by kernel_rfl) (by kernel_rfl) M0 ?_
   generalize w5.drew=wd at *
   simp only [List.size_toArray,List.length_cons,List.length_nil,Nat.reduceAdd,Array.replicate_succ,Array.replicate_zero,List.push_toArray,List.nil_append,List.cons_append]
   refine Chain.take (i:=0) (oi:=⟨some 37,_,_,_,_,_⟩) (v:=?v35) rfl (by kernel_rfl) (by kernel_rfl) (Or.inl ⟨by rfl,?y35⟩) ?rest35
   case y35=>intro w hSw;go_simp;(try with_reducible rfl)
   simp only [Act.put,List.setIfInBounds_toArray,List.set_cons_zero,List.set_cons_succ]
   refine' Chain.call (i:=1) (oi:=⟨some 38,_,_,_,_,_⟩) _ _ rfl (by kernel_rfl) (by kernel_rfl) (by rfl) ?he36 (fun w hS=>(lk_Right r d j b0 w).mono fun e w' q=>And.intro (by rw [q.1,HR.out]) (Lib.hid (bel_to hS.out q.2 hS.out.size))) ?rest36
   case he36=>intro w;go_simp
   simp only [Act.put,List.setIfInBounds_toArray,List.set_cons_zero,List.set_cons_succ]
   refine Chain.take (i:=2) (oi:=⟨some 39,_,_,_,_,_⟩) (v:=?v37) rfl (by kernel_rfl) (by kernel_rfl) (Or.inl ⟨by rfl,?y37⟩) ?rest37
   case y37=>intro w hSw;go_simp;(try with_reducible rfl)
   simp only [Act.put,List.setIfInBounds_toArray,List.set_cons_zero,List.set_cons_succ]
   refine' Chain.call (i:=3) (oi:=⟨some 40,_,_,_,_,_⟩) _ _ rfl (by kernel_rfl) (by kernel_rfl) (by rfl) ?he38 (fun w hS=>(rf_Right r d j b0 w).mono fun e w' q=>And.intro (by rw [q.1,HR.out]) (Lib.hid (bel_to hS.out q.2 hS.out.size))) ?rest38
   case he38=>intro w;go_simp
   simp only [Act.put,List.setIfInBounds_toArray,List.set_cons_zero,List.set_cons_succ]
   refine Chain.take (i:=4) (oi:=⟨some 41,_,_,_,_,_⟩) (v:=?v39) rfl (by kernel_rfl) (by kernel_rfl) (Or.inl ⟨by rfl,?y39⟩) ?rest39
   case y39=>intro w hSw;clear hSw;go_simp;(try with_reducible rfl)
   simp only [Act.put,List.setIfInBounds_toArray,List.set_cons_zero,List.set_cons_succ]
   refine Chain.take (i:=5) (oi:=⟨some 42,_,_,_,_,_⟩) (v:=?v40) rfl (by kernel_rfl) (by kernel_rfl) (Or.inl ⟨by rfl,?y40⟩) ?rest40
   case y40=>intro w hSw;clear hSw;go_simp;(try with_reducible rfl)
   simp only [Act.put,List.setIfInBounds_toArray,List.set_cons_zero,List.set_cons_succ]
   refine Chain.take (i:=6) (oi:=⟨some 43,_,_,_,_,_⟩) (v:=?v41) rfl (by kernel_rfl) (by kernel_rfl) (Or.inl ⟨by rfl,?y41⟩) ?rest41
   case y41=>intro w hSw;clear hSw;go_simp;(try with_reducible rfl)
   simp only [Act.put,List.setIfInBounds_toArray,List.set_cons_zero,List.set_cons_succ]
   refine Chain.take (i:=7) (oi:=⟨some 44,_,_,_,_,_⟩) (v:=?v42) rfl (by kernel_rfl) (by kernel_rfl) (Or.inl ⟨by rfl,?y42⟩) ?rest42
   case y42=>intro w hSw;clear hSw;go_simp;(try with_reducible rfl)
   simp only [Act.put,List.setIfInBounds_toArray,List.set_cons_zero,List.set_cons_succ]
   refine Chain.take (i:=8) (oi:=⟨some 45,_,_,_,_,_⟩) (v:=?v43) rfl (by kernel_rfl) (by kernel_rfl) (Or.inl ⟨by rfl,?y43⟩) ?rest43
   case y43=>intro w hSw;clear hSw;go_simp;(try with_reducible rfl)
   simp only [Act.put,List.setIfInBounds_toArray,List.set_cons_zero,List.set_cons_succ]
   refine Chain.take (i:=9) (oi:=⟨some 46,_,_,_,_,_⟩) (v:=?v44) rfl (by kernel_rfl) (by kernel_rfl) (Or.inl ⟨by rfl,?y44⟩) ?rest44
   case y44=>intro w hSw;clear hSw;go_simp;(try with_reducible rfl)
   simp only [Act.put,List.setIfInBounds_toArray,List.set_cons_zero,List.set_cons_succ]
   refine Chain.take (i:=10) (oi:=⟨some 47,_,_,_,_,_⟩) (v:=?v45) rfl (by kernel_rfl) (by kernel_rfl) (Or.inl ⟨by rfl,?y45⟩) ?rest45
   case y45=>intro w hSw;clear hSw;go_simp;(try with_reducible rfl)
   simp only [Act.put,List.setIfInBounds_toArray,List.set_cons_zero,List.set_cons_succ]
   refine Chain.take (i:=11) (oi:=⟨some 48,_,_,_,_,_⟩) (v:=?v46) rfl (by kernel_rfl) (by kernel_rfl) (Or.inl ⟨by rfl,?y46⟩) ?rest46
   case y46=>intro w hSw;clear hSw;go_simp;(try with_reducible rfl)
   simp only [Act.put,List.setIfInBounds_toArray,List.set_cons_zero,List.set_cons_succ]
   refine Chain.take (i:=12) (oi:=⟨some 49,_,_,_,_,_⟩) (v:=?v47) rfl (by kernel_rfl) (by kernel_rfl) (Or.inl ⟨by rfl,?y47⟩) ?rest47
   case y47=>intro w hSw;clear hSw;go_simp;(try with_reducible rfl)
   simp only [Act.put,List.setIfInBounds_toArray,List.set_cons_zero,List.set_cons_succ]
   refine Chain.take (i:=13) (oi:=⟨some 50,_,_,_,_,_⟩) (v:=?v48) rfl (by kernel_rfl) (by kernel_rfl) (Or.inl ⟨by rfl,?y48⟩) ?rest48
   case y48=>intro w hSw;clear hSw;go_simp;(try with_reducible rfl)
   simp only [Act.put,List.setIfInBounds_toArray,List.set_cons_zero,List.set_cons_succ]
   refine Chain.take (i:=14) (oi:=⟨some 51,_,_,_,_,_⟩) (v:=?v49) rfl (by kernel_rfl) (by kernel_rfl) (Or.inl ⟨by rfl,?y49⟩) ?rest49
   case y49=>intro w hSw;clear hSw;go_simp;(try with_reducible rfl)
   simp only [Act.put,List.setIfInBounds_toArray,List.set_cons_zero,List.set_cons_succ]
   refine Chain.take (i:=15) (oi:=⟨some 52,_,_,_,_,_⟩) (v:=?v50) rfl (by kernel_rfl) (by kernel_rfl) (Or.inl ⟨by rfl,?y50⟩) ?rest50
   case y50=>intro w hSw;clear hSw;go_simp;(try with_reducible rfl)
   simp only [Act.put,List.setIfInBounds_toArray,List.set_cons_zero,List.set_cons_succ]
   refine Chain.take (i:=16) (oi:=⟨some 53,_,_,_,_,_⟩) (v:=?v51) rfl (by kernel_rfl) (by kernel_rfl) (Or.inl ⟨by rfl,?y51⟩) ?rest51
   case y51=>intro w hSw;clear hSw;go_simp;(try with_reducible rfl)
   simp only [Act.put,List.setIfInBounds_toArray,List.set_cons_zero,List.set_cons_succ]
   refine Chain.last (by kernel_rfl) (fun w hSw=>?_)
   refine wpAnyH_ready (rs:=[17]) (by kernel_rfl) (by simp) ?_
   refine AllReadyH.cons (o:=⟨some 54,_,_,_,_,_⟩) rfl (fun K hK=>?_) AllReadyH.nil
   have M7:=hSw
   go_simp
   refine hK.out _ _ trivial (fun _=>?_)
   clear hK
   try simp only [List.setIfInBounds_toArray,List.set_cons_zero,List.set_cons_succ]
   refine wpAnyH_done (by kernel_rfl) ?_ _
   skip
   clear q0 q1 q2 q3 M0
   go_wp2_with fail
   refine (alive21 _).mono ?_
   rintro e w9 ⟨rfl,hb⟩
   have HB9:=Lib.hid (HBel.out.trans ((bel_to M7.out hb M7.out.size).mono HBel.out.size))
   clear hb
   go_wp2_with fail
   go_ret
   exact ⟨rfl,HB9.out⟩
 | true=>
 have HR:=Lib.hid hR
 have HFit:=Lib.hid (fit_of hF)
 have HN1:=Lib.hid (oe_New r d j b0 W1 hR)
 have HN2:=Lib.hid (fun w (h:W1.heap.size≤w.heap.size)=>dk_New r d j b0 W1.heap.size w h hR)
 have HF60:=(fit_of hF).1
 clear hR hF
 go_wp2_with fail
 refine HN1.out.mono ?_
 rintro e w4 ⟨b,rfl,hE⟩
 clear b0c b1c b2c b3c HN1
 obtain ⟨b0c,b1c,b2c,b3c⟩:=path_b HBx.out w4 hE.out.bel
 go_wp2_with fail
 refine (HN2.out _ hE.out.bel.size).mono ?_
 rintro e w5 ⟨⟨m,c,rfl,h1,h2,h3⟩,h4⟩
 have H0:Hid (PP W1 b m c (LS.start r d j b0) (LS.start r d j b0) w5):=Lib.hid (pp_New (Below.refl _ _) hE.out h1 h2 h3 h4)
 clear h1 h2 h3 h4 b0c b1c b2c b3c HN2 hE
 have HOk0:Hid ((LS.start r d j b0).ok 0):=Lib.hid (LS.start_okL HP.out.1 HP.out.2.1 HP.out.2.2.1 HP.out.2.2.2)
 have HK0:Hid ((LS.start r d j b0).k.t=(LS.start r d j b0).t):=Lib.hid rfl
 generalize LS.start r d j b0=s0 at *
 have M0:Hid (PP W1 b m c s0 s0 w5.drew):=Lib.hid (H0.out.to ((Drawn.drew _).below _))
 have q0:∀w,Hid (PP W1 b m c s0 s0 w)→w.cell? ⟨z,0,none⟩=some (.int .u64 (r:Int)):=fun w h=>(path_b HBx.out w h.out.bel).1
 have q1:∀w,Hid (PP W1 b m c s0 s0 w)→w.cell? ⟨z,1,none⟩=some (.int .u64 (d:Int)):=fun w h=>(path_b HBx.out w h.out.bel).2.1
 have q2:∀w,Hid (PP W1 b m c s0 s0 w)→w.cell? ⟨z,2,none⟩=some (.int .u64 (j:Int)):=fun w h=>(path_b HBx.out w h.out.bel).2.2.1
 have q3:∀w,Hid (PP W1 b m c s0 s0 w)→w.cell? ⟨z,3,none⟩=some (.int .u64 (b0:Int)):=fun w h=>(path_b HBx.out w h.out.bel).2.2.2
 clear H0
 go_wp2_with fail
 refine wp_region_chain (S:=(fun w'=>Hid (PP W1 b m c s0 s0 w'))) 17 (by kernel_rfl) (by kernel_rfl) (by kernel_rfl) M0 ?_
 generalize w5.drew=wd at *
 simp only [List.size_toArray,List.length_cons,List.length_nil,Nat.reduceAdd,Array.replicate_succ,Array.replicate_zero,List.push_toArray,List.nil_append,List.cons_append]
 refine Chain.take (i:=0) (oi:=⟨some 37,_,_,_,_,_⟩) (v:=?v52) rfl (by kernel_rfl) (by kernel_rfl) (Or.inl ⟨by rfl,?y52⟩) ?rest52
 case y52=>intro w hSw;go_simp;(try with_reducible rfl)
 simp only [Act.put,List.setIfInBounds_toArray,List.set_cons_zero,List.set_cons_succ]
 refine' Chain.call (i:=1) (oi:=⟨some 38,_,_,_,_,_⟩) _ _ rfl (by kernel_rfl) (by kernel_rfl) (by rfl) ?he53 (fun w hS=>(lk_Right r d j b0 w).mono fun e w' q=>And.intro (by rw [q.1,HR.out]) (Lib.hid (hS.out.to q.2))) ?rest53
 case he53=>intro w;go_simp
 simp only [Act.put,List.setIfInBounds_toArray,List.set_cons_zero,List.set_cons_succ]
 refine Chain.take (i:=2) (oi:=⟨some 39,_,_,_,_,_⟩) (v:=?v54) rfl (by kernel_rfl) (by kernel_rfl) (Or.inl ⟨by rfl,?y54⟩) ?rest54
 case y54=>intro w hSw;go_simp;(try with_reducible rfl)
 simp only [Act.put,List.setIfInBounds_toArray,List.set_cons_zero,List.set_cons_succ]
 refine' Chain.call (i:=3) (oi:=⟨some 40,_,_,_,_,_⟩) _ _ rfl (by kernel_rfl) (by kernel_rfl) (by rfl) ?he55 (fun w hS=>(rf_Right r d j b0 w).mono fun e w' q=>And.intro (by rw [q.1,HR.out]) (Lib.hid (hS.out.to q.2))) ?rest55
 case he55=>intro w;go_simp
 simp only [Act.put,List.setIfInBounds_toArray,List.set_cons_zero,List.set_cons_succ]
 refine Chain.take (i:=4) (oi:=⟨some 41,_,_,_,_,_⟩) (v:=?v56) rfl (by kernel_rfl) (by kernel_rfl) (Or.inl ⟨by rfl,?y56⟩) ?rest56
 case y56=>intro w hSw;clear hSw;go_simp;(try with_reducible rfl)
 simp only [Act.put,List.setIfInBounds_toArray,List.set_cons_zero,List.set_cons_succ]
 refine Chain.take (i:=5) (oi:=⟨some 42,_,_,_,_,_⟩) (v:=?v57) rfl (by kernel_rfl) (by kernel_rfl) (Or.inl ⟨by rfl,?y57⟩) ?rest57
 case y57=>intro w hSw;clear hSw;go_simp;(try with_reducible rfl)
 simp only [Act.put,List.setIfInBounds_toArray,List.set_cons_zero,List.set_cons_succ]
 refine Chain.take (i:=6) (oi:=⟨some 43,_,_,_,_,_⟩) (v:=?v58) rfl (by kernel_rfl) (by kernel_rfl) (Or.inl ⟨by rfl,?y58⟩) ?rest58
 case y58=>intro w hSw;clear hSw;go_simp;(try with_reducible rfl)
 simp only [Act.put,List.setIfInBounds_toArray,List.set_cons_zero,List.set_cons_succ]
 refine Chain.take (i:=7) (oi:=⟨some 44,_,_,_,_,_⟩) (v:=?v59) rfl (by kernel_rfl) (by kernel_rfl) (Or.inl ⟨by rfl,?y59⟩) ?rest59
 case y59=>intro w hSw;clear hSw;go_simp;(try with_reducible rfl)
 simp only [Act.put,List.setIfInBounds_toArray,List.set_cons_zero,List.set_cons_succ]
 refine Chain.take (i:=8) (oi:=⟨some 45,_,_,_,_,_⟩) (v:=?v60) rfl (by kernel_rfl) (by kernel_rfl) (Or.inl ⟨by rfl,?y60⟩) ?rest60
 case y60=>intro w hSw;clear hSw;go_simp;(try with_reducible rfl)
 simp only [Act.put,List.setIfInBounds_toArray,List.set_cons_zero,List.set_cons_succ]
 refine Chain.take (i:=9) (oi:=⟨some 46,_,_,_,_,_⟩) (v:=?v61) rfl (by kernel_rfl) (by kernel_rfl) (Or.inl ⟨by rfl,?y61⟩) ?rest61
 case y61=>intro w hSw;clear hSw;go_simp;(try with_reducible rfl)
 simp only [Act.put,List.setIfInBounds_toArray,List.set_cons_zero,List.set_cons_succ]
 refine Chain.take (i:=10) (oi:=⟨some 47,_,_,_,_,_⟩) (v:=?v62) rfl (by kernel_rfl) (by kernel_rfl) (Or.inl ⟨by rfl,?y62⟩) ?rest62
 case y62=>intro w hSw;clear hSw;go_simp;(try with_reducible rfl)
 simp only [Act.put,List.setIfInBounds_toArray,List.set_cons_zero,List.set_cons_succ]
 refine Chain.take (i:=11) (oi:=⟨some 48,_,_,_,_,_⟩) (v:=?v63) rfl (by kernel_rfl) (by kernel_rfl) (Or.inl ⟨by rfl,?y63⟩) ?rest63
 case y63=>intro w hSw;clear hSw;go_simp;(try with_reducible rfl)
 simp only [Act.put,List.setIfInBounds_toArray,List.set_cons_zero,List.set_cons_succ]
 refine Chain.take (i:=12) (oi:=⟨some 49,_,_,_,_,_⟩) (v:=?v64) rfl (by kernel_rfl) (by kernel_rfl) (Or.inl ⟨by rfl,?y64⟩) ?rest64
 case y64=>intro w hSw;clear hSw;go_simp;(try with_reducible rfl)
 simp only [Act.put,List.setIfInBounds_toArray,List.set_cons_zero,List.set_cons_succ]
 refine Chain.take (i:=13) (oi:=⟨some 50,_,_,_,_,_⟩) (v:=?v65) rfl (by kernel_rfl) (by kernel_rfl) (Or.inl ⟨by rfl,?y65⟩) ?rest65
 case y65=>intro w hSw;clear hSw;go_simp;(try with_reducible rfl)
 simp only [Act.put,List.setIfInBounds_toArray,List.set_cons_zero,List.set_cons_succ]
 refine Chain.take (i:=14) (oi:=⟨some 51,_,_,_,_,_⟩) (v:=?v66) rfl (by kernel_rfl) (by kernel_rfl) (Or.inl ⟨by rfl,?y66⟩) ?rest66
 case y66=>intro w hSw;clear hSw;go_simp;(try with_reducible rfl)
 simp only [Act.put,List.setIfInBounds_toArray,List.set_cons_zero,List.set_cons_succ]
 refine Chain.take (i:=15) (oi:=⟨some 52,_,_,_,_,_⟩) (v:=?v67) rfl (by kernel_rfl) (by kernel_rfl) (Or.inl ⟨by rfl,?y67⟩) ?rest67
 case y67=>intro w hSw;clear hSw;go_simp;(try with_reducible rfl)
 simp only [Act.put,List.setIfInBounds_toArray,List.set_cons_zero,List.set_cons_succ]
 refine Chain.take (i:=16) (oi:=⟨some 53,_,_,_,_,_⟩) (v:=?v68) rfl (by kernel_rfl) (by kernel_rfl) (Or.inl ⟨by rfl,?y68⟩) ?rest68
 case y68=>intro w hSw;clear hSw;go_simp;(try with_reducible rfl)
 simp only [Act.put,List.setIfInBounds_toArray,List.set_cons_zero,List.set_cons_succ]
 refine Chain.last (by kernel_rfl) (fun w hSw=>?_)
 refine wpAnyH_ready (rs:=[17]) (by kernel_rfl) (by simp) ?_
 refine AllReadyH.cons (o:=⟨some 54,_,_,_,_,_⟩) rfl (fun K hK=>?_) AllReadyH.nil
 have M7:=hSw
 go_simp
 refine hK.out _ _ trivial (fun _=>?_)
 clear hK
 try simp only [List.setIfInBounds_toArray,List.set_cons_zero,List.set_cons_succ]
 refine wpAnyH_done (by kernel_rfl) ?_ _
 skip
 clear q0 q1 q2 q3 M0
 go_wp2_with fail
 go_loopw [10,11] (fun fv i wr=>∃(k f:Nat) (s:LS),fv=.int .i64 (f:Int)∧i=.int .i64 (k:Int)∧k≤l.length∧Hid (f≤60 * k∧s.ok f∧s.k.t=s.t)∧Hid (PP W1 b m c s s wr)) (fun _ i _=>l.length - (intOf i).toNat)
 case atStart=>exact ⟨0,0,s0,rfl,rfl,Nat.zero_le _,Lib.hid ⟨Nat.le_refl _,HOk0.out,HK0.out⟩,M7⟩
 case round=>
  obtain ⟨k,f,s,rfl,rfl,hk,HS,H⟩:=hrel
  clear M7 HOk0 HK0
  by_cases hlt:k < l.length
  ·obtain ⟨rfl,hab⟩:=HI.out.2.1 (by omega)
   have hA:=HI.out.2.2 k hlt
   have HM1:=Lib.hid (HFit.out.2 k hlt)
   obtain ⟨q,hq⟩:∃q,q=l.getD k default:=⟨_,rfl⟩
   rw [← hq] at hA HM1
   clear hq
   have HRa:=Lib.hid (act_b hA hab)
   obtain ⟨a0,a1,a2,a3,a4⟩:=HRa.out wr H.out.bel
   have HA:=Lib.hid hA
   have i0:(0:Int)≤(k:Int):=by omega
   have i1:(k:Int) < (l.length:Int):=by omega
   have hf36:f≤3600:=by have:=HS.out.1;omega
   have HOk5:Hid (s.ok 5000):=Lib.hid (HS.out.2.1.more (by omega))
   clear hab hA
   cases ht:q.tick with
   | true=>
     rw [ht] at a0
     obtain ⟨r0,r1⟩:=pp_rules (W:=W1) (b:=b) (m:=m) (c:=c) (s:=s) (t:=s)
     have g0:=r0 wr H
     have g1:=r1 wr H
     have HAd:=Lib.hid (fun n=>(ref_Add s.k.t q.after (wr.drewN n) HOk5.out.k.2.2.2 HA.out.b2).mono fun e w' q=>(⟨q.1,q.2.symm⟩:e=.returned (.int .u64 (Pl.addS s.k.t _:Int))∧w'=wr.drewN n))
     have HLe:Hid (s.k.t≤Pl.addS s.k.t q.after∧Pl.addS s.k.t q.after≤18446744073709551615):=Lib.hid ⟨by have:=HOk5.out.k.2.2.2;unfold Pl.addS;omega,Pl.addS_le _ _⟩
     generalize Pl.addS s.k.t q.after=tn at *
     clear r0 r1
     go_wp2_with fail
     go_quiet (first | (go_at_call 10;exact Calls.quiet_of_same (HAd.out _)))
     have M0:Hid (PP W1 b m c s s (wr.drewN nq).drew):=Lib.hid (H.out.to ((Drawn.below ⟨nq,rfl⟩ _).trans ((Drawn.drew _).below _)))
     generalize wr.drewN nq=w1 at *
     clear a0 a1 a2 a3 a4 g0 g1 HAd H
     have HT:=Lib.hid (pp_Tick W1 b m c s s tn q.waste q.choices q.p2 q.c2 q.choices.length HA.out.s4 rfl HOk5.out (by rw [← HS.out.2.2];exact HLe.out.1) HLe.out.2 HA.out.b3)
     have HT2:=Lib.hid (fun s2 ov tl=>dw_Tick W1 b m c s2 s tn q.waste q.choices q.p2 q.c2 q.choices.length HA.out.s4 rfl HOk5.out HLe.out.1 HLe.out.2 HA.out.b3 ov tl)
     have HFw:=Lib.hid (out_few HOk5.out HLe.out.2 q.waste q.choices)
     have HOk2:=Lib.hid (HS.out.2.1.tick HLe.out.2 q.waste q.choices)
     have HKt2:=Lib.hid (kt_tick s tn q.waste q.choices HLe.out.1)
     have HSm2:=Lib.hid (fun w h=>pp_same W1 b m c (s.tick tn q.waste q.choices) f w h HOk2.out (by omega) HKt2.out)
     generalize s.tick tn q.waste q.choices=s2 at *
     generalize s.tickOut tn q.waste q.choices=tl at *
     replace HT2:=Lib.hid (fun ov=>HT2.out s2 ov tl)
     have rb:∀w,Hid (PP W1 b m c s s w)→w.cell? ⟨ab,off + k * 5 + 3,none⟩=some (.int .u64 (q.waste:Int)):=fun w h=>(HRa.out w h.out.bel).2.2.2.1
     have rc:∀w,Hid (PP W1 b m c s s w)→w.cell? ⟨ab,off + k * 5 + 4,none⟩=some (.slice q.p2 q.choices.length q.c2):=fun w h=>(HRa.out w h.out.bel).2.2.2.2
     go_wp2_with fail
     refine wp_region_chain (S:=(fun w'=>Hid (PP W1 b m c s s w'))) 12 (by kernel_rfl) (by kernel_rfl) (by kernel_rfl) M0 ?_
     generalize w1.drew=wd at *
     simp only [List.size_toArray,List.length_cons,List.length_nil,Nat.reduceAdd,Array.replicate_succ,Array.replicate_zero,List.push_toArray,List.nil_append,List.cons_append]
     refine Chain.take (i:=0) (oi:=⟨some 88,_,_,_,_,_⟩) (v:=?v1) rfl (by kernel_rfl) (by kernel_rfl) (Or.inl ⟨by rfl,?y1⟩) ?rest1
     case y1=>intro w hSw;clear hSw;go_simp;(try with_reducible rfl)
     simp only [Act.put,List.setIfInBounds_toArray,List.set_cons_zero,List.set_cons_succ]
     refine Chain.take (i:=1) (oi:=⟨some 89,_,_,_,_,_⟩) (v:=?v2) rfl (by kernel_rfl) (by kernel_rfl) (Or.inl ⟨by rfl,?y2⟩) ?rest2
     case y2=>intro w hSw;clear hSw;go_simp;(try with_reducible rfl)
     simp only [Act.put,List.setIfInBounds_toArray,List.set_cons_zero,List.set_cons_succ]
     refine Chain.take (i:=2) (oi:=⟨some 90,_,_,_,_,_⟩) (v:=?v3) rfl (by kernel_rfl) (by kernel_rfl) (Or.inl ⟨by rfl,?y3⟩) ?rest3
     case y3=>intro w hSw;clear hSw;go_simp;(try with_reducible rfl)
     simp only [Act.put,List.setIfInBounds_toArray,List.set_cons_zero,List.set_cons_succ]
     refine Chain.take (i:=3) (oi:=⟨some 91,_,_,_,_,_⟩) (v:=?v4) rfl (by kernel_rfl) (by kernel_rfl) (Or.inl ⟨by rfl,?y4⟩) ?rest4
     case y4=>intro w hSw;clear hSw;go_simp;(try with_reducible rfl)
     simp only [Act.put,List.setIfInBounds_toArray,List.set_cons_zero,List.set_cons_succ]
     refine Chain.take (i:=4) (oi:=⟨some 92,_,_,_,_,_⟩) (v:=?v5) rfl (by kernel_rfl) (by kernel_rfl) (Or.inl ⟨by rfl,?y5⟩) ?rest5
     case y5=>intro w hSw;clear hSw;go_simp;(try with_reducible rfl)
     simp only [Act.put,List.setIfInBounds_toArray,List.set_cons_zero,List.set_cons_succ]
     refine Chain.take (i:=5) (oi:=⟨some 93,_,_,_,_,_⟩) (v:=?v6) rfl (by kernel_rfl) (by kernel_rfl) (Or.inl ⟨by rfl,?y6⟩) ?rest6
     case y6=>intro w hSw;clear hSw;go_simp;(try with_reducible rfl)
     simp only [Act.put,List.setIfInBounds_toArray,List.set_cons_zero,List.set_cons_succ]
     refine Chain.take (i:=6) (oi:=⟨some 94,_,_,_,_,_⟩) (v:=?v7) rfl (by kernel_rfl) (by kernel_rfl) (Or.inl ⟨by rfl,?y7⟩) ?rest7
     case y7=>intro w hSw;go_simp;(try with_reducible rfl)
     simp only [Act.put,List.setIfInBounds_toArray,List.set_cons_zero,List.set_cons_succ]
     refine Chain.take (i:=7) (oi:=⟨some 95,_,_,_,_,_⟩) (v:=?v8) rfl (by kernel_rfl) (by kernel_rfl) (Or.inl ⟨by rfl,?y8⟩) ?rest8
     case y8=>intro w hSw;clear hSw;go_simp;(try with_reducible rfl)
     simp only [Act.put,List.setIfInBounds_toArray,List.set_cons_zero,List.set_cons_succ]
     refine Chain.take (i:=8) (oi:=⟨some 96,_,_,_,_,_⟩) (v:=?v9) rfl (by kernel_rfl) (by kernel_rfl) (Or.inl ⟨by rfl,?y9⟩) ?rest9
     case y9=>intro w hSw;clear hSw;go_simp;(try with_reducible rfl)
     simp only [Act.put,List.setIfInBounds_toArray,List.set_cons_zero,List.set_cons_succ]
     refine Chain.take (i:=9) (oi:=⟨some 97,_,_,_,_,_⟩) (v:=?v10) rfl (by kernel_rfl) (by kernel_rfl) (Or.inl ⟨by rfl,?y10⟩) ?rest10
     case y10=>intro w hSw;clear hSw;go_simp;(try with_reducible rfl)
     simp only [Act.put,List.setIfInBounds_toArray,List.set_cons_zero,List.set_cons_succ]
     refine Chain.take (i:=10) (oi:=⟨some 98,_,_,_,_,_⟩) (v:=?v11) rfl (by kernel_rfl) (by kernel_rfl) (Or.inl ⟨by rfl,?y11⟩) ?rest11
     case y11=>intro w hSw;clear hSw;go_simp;(try with_reducible rfl)
     simp only [Act.put,List.setIfInBounds_toArray,List.set_cons_zero,List.set_cons_succ]
     refine Chain.take (i:=11) (oi:=⟨some 99,_,_,_,_,_⟩) (v:=?v12) rfl (by kernel_rfl) (by kernel_rfl) (Or.inl ⟨by rfl,?y12⟩) ?rest12
     case y12=>intro w hSw;go_simp;(try with_reducible rfl)
     simp only [Act.put,List.setIfInBounds_toArray,List.set_cons_zero,List.set_cons_succ]
     refine Chain.last (by kernel_rfl) (fun w hSw=>?_)
     refine wpAnyH_ready (rs:=[12]) (by kernel_rfl) (by simp) ?_
     refine AllReadyH.cons (o:=⟨some 100,_,_,_,_,_⟩) rfl (fun K hK=>?_) AllReadyH.nil
     go_simp
     refine (HT.out _ hSw.out).mono ?_
     rintro e w2 ⟨ov,oc,rfl,M2⟩
     clear hSw M0 HT rb rc
     go_wp2_with fail
     refine hK.out _ _ trivial (fun _=>?_)
     clear hK
     try simp only [List.setIfInBounds_toArray,List.set_cons_zero,List.set_cons_succ]
     refine wpAnyH_take (i:=13) (oi:=⟨some 87,_,_,_,_,_⟩) (v:=?v13) rfl (by kernel_rfl) (by kernel_rfl) (by kernel_rfl) (fun _ _ _ h=>h) (Or.inl ⟨by rfl,?y13⟩) trivial ?rest13
     case y13=>intro w hSw;clear hSw;go_simp;(try with_reducible rfl)
     simp only [Act.put,List.setIfInBounds_toArray,List.set_cons_zero,List.set_cons_succ]
     refine wpAnyH_take (i:=14) (oi:=⟨some 101,_,_,_,_,_⟩) (v:=?v14) rfl (by kernel_rfl) (by kernel_rfl) (by kernel_rfl) (fun _ _ _ h=>h) (Or.inl ⟨by rfl,?y14⟩) trivial ?rest14
     case y14=>intro w hSw;clear hSw;go_simp;(try with_reducible rfl)
     simp only [Act.put,List.setIfInBounds_toArray,List.set_cons_zero,List.set_cons_succ]
     refine wpAnyH_take (i:=15) (oi:=⟨some 102,_,_,_,_,_⟩) (v:=?v15) rfl (by kernel_rfl) (by kernel_rfl) (by kernel_rfl) (fun _ _ _ h=>h) (Or.inl ⟨by rfl,?y15⟩) trivial ?rest15
     case y15=>intro w hSw;clear hSw;go_simp;(try with_reducible rfl)
     simp only [Act.put,List.setIfInBounds_toArray,List.set_cons_zero,List.set_cons_succ]
     refine wpAnyH_take (i:=16) (oi:=⟨some 13,_,_,_,_,_⟩) (v:=?v16) rfl (by kernel_rfl) (by kernel_rfl) (by kernel_rfl) (fun _ _ _ h=>h) (Or.inl ⟨by rfl,?y16⟩) trivial ?rest16
     case y16=>intro w hSw;clear hSw;go_simp;(try with_reducible rfl)
     simp only [Act.put,List.setIfInBounds_toArray,List.set_cons_zero,List.set_cons_succ]
     refine wpAnyH_take (i:=17) (oi:=⟨some 14,_,_,_,_,_⟩) (v:=?v17) rfl (by kernel_rfl) (by kernel_rfl) (by kernel_rfl) (fun _ _ _ h=>h) (Or.inl ⟨by rfl,?y17⟩) trivial ?rest17
     case y17=>intro w hSw;clear hSw;go_simp;(try with_reducible rfl)
     simp only [Act.put,List.setIfInBounds_toArray,List.set_cons_zero,List.set_cons_succ]
     refine wpAnyH_done (by kernel_rfl) ?_ _
     skip
     have rb:∀w,Hid (PW W1 b m c s2 s ov tl w)→w.cell? ⟨ab,off + k * 5 + 3,none⟩=some (.int .u64 (q.waste:Int)):=fun w h=>(HRa.out w h.out.pp.bel).2.2.2.1
     have rc:∀w,Hid (PW W1 b m c s2 s ov tl w)→w.cell? ⟨ab,off + k * 5 + 4,none⟩=some (.slice q.p2 q.choices.length q.c2):=fun w h=>(HRa.out w h.out.pp.bel).2.2.2.2
     have M3:Hid (PW W1 b m c s2 s ov tl w2.drew):=Lib.hid (M2.out.to ((Drawn.drew _).below _))
     clear M2
     go_wp2_with fail
     refine wp_region_chain (S:=(fun w'=>Hid (PW W1 b m c s2 s ov tl w'))) 12 (by kernel_rfl) (by kernel_rfl) (by kernel_rfl) M3 ?_
     generalize w2.drew=wd at *
     simp only [List.size_toArray,List.length_cons,List.length_nil,Nat.reduceAdd,Array.replicate_succ,Array.replicate_zero,List.push_toArray,List.nil_append,List.cons_append]
     refine Chain.take (i:=0) (oi:=⟨some 104,_,_,_,_,_⟩) (v:=?v18) rfl (by kernel_rfl) (by kernel_rfl) (Or.inl ⟨by rfl,?y18⟩) ?rest18
     case y18=>intro w hSw;clear hSw;go_simp;(try with_reducible rfl)
     simp only [Act.put,List.setIfInBounds_toArray,List.set_cons_zero,List.set_cons_succ]
     refine Chain.take (i:=1) (oi:=⟨some 105,_,_,_,_,_⟩) (v:=?v19) rfl (by kernel_rfl) (by kernel_rfl) (Or.inl ⟨by rfl,?y19⟩) ?rest19
     case y19=>intro w hSw;clear hSw;go_simp;(try with_reducible rfl)
     simp only [Act.put,List.setIfInBounds_toArray,List.set_cons_zero,List.set_cons_succ]
     refine Chain.take (i:=2) (oi:=⟨some 106,_,_,_,_,_⟩) (v:=?v20) rfl (by kernel_rfl) (by kernel_rfl) (Or.inl ⟨by rfl,?y20⟩) ?rest20
     case y20=>intro w hSw;clear hSw;go_simp;(try with_reducible rfl)
     simp only [Act.put,List.setIfInBounds_toArray,List.set_cons_zero,List.set_cons_succ]
     refine Chain.take (i:=3) (oi:=⟨some 107,_,_,_,_,_⟩) (v:=?v21) rfl (by kernel_rfl) (by kernel_rfl) (Or.inl ⟨by rfl,?y21⟩) ?rest21
     case y21=>intro w hSw;clear hSw;go_simp;(try with_reducible rfl)
     simp only [Act.put,List.setIfInBounds_toArray,List.set_cons_zero,List.set_cons_succ]
     refine Chain.take (i:=4) (oi:=⟨some 108,_,_,_,_,_⟩) (v:=?v22) rfl (by kernel_rfl) (by kernel_rfl) (Or.inl ⟨by rfl,?y22⟩) ?rest22
     case y22=>intro w hSw;clear hSw;go_simp;(try with_reducible rfl)
     simp only [Act.put,List.setIfInBounds_toArray,List.set_cons_zero,List.set_cons_succ]
     refine Chain.take (i:=5) (oi:=⟨some 109,_,_,_,_,_⟩) (v:=?v23) rfl (by kernel_rfl) (by kernel_rfl) (Or.inl ⟨by rfl,?y23⟩) ?rest23
     case y23=>intro w hSw;clear hSw;go_simp;(try with_reducible rfl)
     simp only [Act.put,List.setIfInBounds_toArray,List.set_cons_zero,List.set_cons_succ]
     refine Chain.take (i:=6) (oi:=⟨some 110,_,_,_,_,_⟩) (v:=?v24) rfl (by kernel_rfl) (by kernel_rfl) (Or.inl ⟨by rfl,?y24⟩) ?rest24
     case y24=>intro w hSw;go_simp;(try with_reducible rfl)
     simp only [Act.put,List.setIfInBounds_toArray,List.set_cons_zero,List.set_cons_succ]
     refine Chain.take (i:=7) (oi:=⟨some 111,_,_,_,_,_⟩) (v:=?v25) rfl (by kernel_rfl) (by kernel_rfl) (Or.inl ⟨by rfl,?y25⟩) ?rest25
     case y25=>intro w hSw;clear hSw;go_simp;(try with_reducible rfl)
     simp only [Act.put,List.setIfInBounds_toArray,List.set_cons_zero,List.set_cons_succ]
     refine Chain.take (i:=8) (oi:=⟨some 112,_,_,_,_,_⟩) (v:=?v26) rfl (by kernel_rfl) (by kernel_rfl) (Or.inl ⟨by rfl,?y26⟩) ?rest26
     case y26=>intro w hSw;clear hSw;go_simp;(try with_reducible rfl)
     simp only [Act.put,List.setIfInBounds_toArray,List.set_cons_zero,List.set_cons_succ]
     refine Chain.take (i:=9) (oi:=⟨some 113,_,_,_,_,_⟩) (v:=?v27) rfl (by kernel_rfl) (by kernel_rfl) (Or.inl ⟨by rfl,?y27⟩) ?rest27
     case y27=>intro w hSw;clear hSw;go_simp;(try with_reducible rfl)
     simp only [Act.put,List.setIfInBounds_toArray,List.set_cons_zero,List.set_cons_succ]
     refine Chain.take (i:=10) (oi:=⟨some 114,_,_,_,_,_⟩) (v:=?v28) rfl (by kernel_rfl) (by kernel_rfl) (Or.inl ⟨by rfl,?y28⟩) ?rest28
     case y28=>intro w hSw;clear hSw;go_simp;(try with_reducible rfl)
     simp only [Act.put,List.setIfInBounds_toArray,List.set_cons_zero,List.set_cons_succ]
     refine Chain.take (i:=11) (oi:=⟨some 115,_,_,_,_,_⟩) (v:=?v29) rfl (by kernel_rfl) (by kernel_rfl) (Or.inl ⟨by rfl,?y29⟩) ?rest29
     case y29=>intro w hSw;go_simp;(try with_reducible rfl)
     simp only [Act.put,List.setIfInBounds_toArray,List.set_cons_zero,List.set_cons_succ]
     refine Chain.last (by kernel_rfl) (fun w hSw=>?_)
     refine wpAnyH_ready (rs:=[12]) (by kernel_rfl) (by simp) ?_
     refine AllReadyH.cons (o:=⟨some 116,_,_,_,_,_⟩) rfl (fun K hK=>?_) AllReadyH.nil
     go_simp
     refine (HT2.out _ _ hSw.out).mono ?_
     rintro e w4 ⟨ov2,oc2,rfl,M4,I1,I2⟩
     clear hSw M3 HT2 rb rc
     go_wp2_with fail
     refine hK.out _ _ trivial (fun _=>?_)
     clear hK
     try simp only [List.setIfInBounds_toArray,List.set_cons_zero,List.set_cons_succ]
     refine wpAnyH_take (i:=13) (oi:=⟨some 103,_,_,_,_,_⟩) (v:=?v30) rfl (by kernel_rfl) (by kernel_rfl) (by kernel_rfl) (fun _ _ _ h=>h) (Or.inl ⟨by rfl,?y30⟩) trivial ?rest30
     case y30=>intro w hSw;clear hSw;go_simp;(try with_reducible rfl)
     simp only [Act.put,List.setIfInBounds_toArray,List.set_cons_zero,List.set_cons_succ]
     refine wpAnyH_take (i:=14) (oi:=⟨some 117,_,_,_,_,_⟩) (v:=?v31) rfl (by kernel_rfl) (by kernel_rfl) (by kernel_rfl) (fun _ _ _ h=>h) (Or.inl ⟨by rfl,?y31⟩) trivial ?rest31
     case y31=>intro w hSw;clear hSw;go_simp;(try with_reducible rfl)
     simp only [Act.put,List.setIfInBounds_toArray,List.set_cons_zero,List.set_cons_succ]
     refine wpAnyH_take (i:=15) (oi:=⟨some 118,_,_,_,_,_⟩) (v:=?v32) rfl (by kernel_rfl) (by kernel_rfl) (by kernel_rfl) (fun _ _ _ h=>h) (Or.inl ⟨by rfl,?y32⟩) trivial ?rest32
     case y32=>intro w hSw;clear hSw;go_simp;(try with_reducible rfl)
     simp only [Act.put,List.setIfInBounds_toArray,List.set_cons_zero,List.set_cons_succ]
     refine wpAnyH_take (i:=16) (oi:=⟨some 15,_,_,_,_,_⟩) (v:=?v33) rfl (by kernel_rfl) (by kernel_rfl) (by kernel_rfl) (fun _ _ _ h=>h) (Or.inl ⟨by rfl,?y33⟩) trivial ?rest33
     case y33=>intro w hSw;clear hSw;go_simp;(try with_reducible rfl)
     simp only [Act.put,List.setIfInBounds_toArray,List.set_cons_zero,List.set_cons_succ]
     refine wpAnyH_take (i:=17) (oi:=⟨some 16,_,_,_,_,_⟩) (v:=?v34) rfl (by kernel_rfl) (by kernel_rfl) (by kernel_rfl) (fun _ _ _ h=>h) (Or.inl ⟨by rfl,?y34⟩) trivial ?rest34
     case y34=>intro w hSw;clear hSw;go_simp;(try with_reducible rfl)
     simp only [Act.put,List.setIfInBounds_toArray,List.set_cons_zero,List.set_cons_succ]
     refine wpAnyH_done (by kernel_rfl) ?_ _
     skip
     go_wp2_with fail
     refine (Same_any tl ov ov2 oc oc2 _ I1.out I2.out HFw.out).mono ?_
     rintro e w6 ⟨rfl,hd⟩
     have M6:=Lib.hid (M4.out.to (hd.below _))
     clear hd M4 I1 I2
     go_wp2_with fail
     refine (HSm2.out _ M6.out).mono ?_
     rintro e w7 ⟨rfl,hb⟩
     have M8:=Lib.hid (M6.out.to hb)
     clear hb M6 HSm2
     go_wp2_with fail
     go_roundw
     case rel=>exact ⟨k + 1,f,s2,rfl,by go_num,by omega,Lib.hid ⟨by have:=HS.out.1;omega,HOk2.out,HKt2.out⟩,M8⟩
     case measure=>simp [intOf];omega
   | false=>
     rw [ht] at a0
     have hfs:=fit_sizes HM1.out
     have hsz:∀x∈pkts f q.sizes,x.size≤18446744073709551615:=pkts_size (fun x hx=>HA.out.s1.mx x hx)
     have hpl:=pkts_len f q.sizes
     have HPk:=Lib.hid (pp_packets (W:=W1) (b:=b) (m:=m) (c:=c) (s:=s) (t:=s) (q:=q) f HA.out.s1 hfs hf36)
     have HS1:=Lib.hid (fun (ao:Option Addr) (cap:Nat)=>pv_Send W1 b m c s s f (pkts f q.sizes) ao cap q.sizes.length hpl)
     have HS2:=Lib.hid (fun (ao:Option Addr) (cap:Nat)=>dv_Send W1 b m c (s.sends (pkts f q.sizes)) s f (pkts f q.sizes) ao cap q.sizes.length hpl)
     have HOk2:Hid ((s.sends (pkts f q.sizes)).ok (f + q.sizes.length)):=Lib.hid (by rw [← hpl];exact HS.out.2.1.sends hsz)
     have HKt2:Hid ((s.sends (pkts f q.sizes)).k.t=(s.sends (pkts f q.sizes)).t):=Lib.hid (kt_sends _ s HS.out.2.2)
     have HSm2:=Lib.hid (fun w h=>pp_same W1 b m c (s.sends (pkts f q.sizes)) (f + q.sizes.length) w h HOk2.out (by omega) HKt2.out)
     have HZs:=Lib.hid hsz
     have HLn:Hid (f + (pkts f q.sizes).length≤5000):=Lib.hid (by rw [hpl];omega)
     have hs1:(f:Int) + (q.sizes.length:Int)=((f + q.sizes.length:Nat):Int):=by omega
     have hs2:IntKind.i64.wrap ((f + q.sizes.length:Nat):Int)=((f + q.sizes.length:Nat):Int):=by rw [IntKind.wrap_i64];omega
     have HF2:Hid (f + q.sizes.length≤60 * (k + 1)):=Lib.hid (by have:=HS.out.1;omega)
     generalize s.kept (pkts f q.sizes)=kp at *
     generalize s.sends (pkts f q.sizes)=s2 at *
     generalize pkts f q.sizes=pk at *
     generalize f + q.sizes.length=f2 at *
     clear hfs hsz hpl
     go_wp2_with fail
     refine (HPk.out _ H.out).mono ?_
     rintro e w5 ⟨ao,cp,rfl,V5⟩
     clear HPk H
     go_wp2_with fail
     refine (HS1.out ao cp w5 V5.out HS.out.2.1 HZs.out HLn.out).mono ?_
     rintro e w6 ⟨rfl,V6⟩
     clear HS1 V5
     go_wp2_with fail
     refine (HS2.out ao cp w6 V6.out HS.out.2.1 HZs.out HLn.out).mono ?_
     rintro e w7 ⟨rfl,M7⟩
     clear HS2 V6
     go_wp2_with fail
     refine (HSm2.out _ M7.out).mono ?_
     rintro e w8 ⟨rfl,hb⟩
     have M8:=Lib.hid (M7.out.to hb)
     clear hb M7 HSm2
     go_wp2_with fail
     go_roundw
     case rel=>exact ⟨k + 1,f2,s2,rfl,by go_num,by omega,Lib.hid ⟨HF2.out,HOk2.out,HKt2.out⟩,M8⟩
     case measure=>simp [intOf];omega
  ·obtain rfl:k=l.length:=by omega
   have HBw:=Lib.hid H.out.bel
   clear H HS
   go_wp2_with fail
   refine (alive21 _).mono ?_
   rintro e w9 ⟨rfl,hb⟩
   have HB9:=Lib.hid (HBel.out.trans ((bel_to HBw.out hb HBw.out.size).mono HBel.out.size))
   clear hb
   go_wp2_with fail
   go_ret
   exact ⟨rfl,HB9.out⟩
end Go.Proofs.Ytaffjfajjpgjpaa
