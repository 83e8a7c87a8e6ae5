/- 1 texts put together: what each one says stands ahead of it. -/
import Derived.Test.YtgpmnhhcjccofaaKLinkEnvelope17
import Derived.Test.YtgpmnhhcjccofaaKLinkEnvelope18
import Derived.Test.YtgpmnhhcjccofaaKLinkEnvelope15
set_option linter.unusedVariables false
namespace Go.Proofs.Ytgpmnhhcjccofaa
open Go.RowKit
theorem lx_more (W:World) (p:PL) (z:Nat) (cs:Array Value) (s:LS) (c0 n:Nat) (hc:c0≤1267650600228229401496703205376) (hn:n≤18446744073709551615):∀w,Hid (LX W p z 68 cs s w)→
  Calls Try.prog 37 #[.agg #[.int .u64 (LS.hi c0:Int),.int .u64 (LS.lo c0:Int)],.int .u64 (n:Int)] w fun e w'=>e=.returned (.agg #[.int .u64 (LS.hi (c0 + n):Int),.int .u64 (LS.lo (c0 + n):Int)])∧Hid (LX W p z 68 cs s w'):=
 fun w h=>(lk_more c0 n w hc hn).mono fun e w' q=>⟨q.1,Lib.hid (h.out.to q.2)⟩
theorem lx_came {W:World} {p:PL} {z:Nat} {cs:Array Value} {s:LS}:(∀w,Hid (LX W p z 68 cs s w)→w.cell? ⟨p.b,8,none⟩=some (.int .u64 (LS.hi s.came:Int)))∧(∀w,Hid (LX W p z 68 cs s w)→w.cell? ⟨p.b,9,none⟩=some (.int .u64 (LS.lo s.came:Int))):=
 ⟨fun w h=>h.out.li.cell (fun _=>rfl),fun w h=>h.out.li.cell (fun _=>rfl)⟩
theorem lx_served {W:World} {p:PL} {z:Nat} {cs:Array Value} {s:LS}:(∀w,Hid (LX W p z 68 cs s w)→w.cell? ⟨p.b,10,none⟩=some (.int .u64 (LS.hi s.served:Int)))∧(∀w,Hid (LX W p z 68 cs s w)→w.cell? ⟨p.b,11,none⟩=some (.int .u64 (LS.lo s.served:Int))):=
 ⟨fun w h=>h.out.li.cell (fun _=>rfl),fun w h=>h.out.li.cell (fun _=>rfl)⟩
theorem lx_deliv {W:World} {p:PL} {z:Nat} {cs:Array Value} {s:LS}:(∀w,Hid (LX W p z 68 cs s w)→w.cell? ⟨p.b,12,none⟩=some (.int .u64 (LS.hi s.deliv:Int)))∧(∀w,Hid (LX W p z 68 cs s w)→w.cell? ⟨p.b,13,none⟩=some (.int .u64 (LS.lo s.deliv:Int))):=
 ⟨fun w h=>h.out.li.cell (fun _=>rfl),fun w h=>h.out.li.cell (fun _=>rfl)⟩
theorem lx_size {W:World} {p:PL} {z:Nat} {s:LS} (x:Pk):∀w,Hid (LX W p z 68 #[.int .u64 (x.n:Int),.int .u64 (x.size:Int),.int .u64 (x.sent:Int),.int .u64 (x.first:Int),.int .u64 (x.deliv:Int),.int .u64 (x.at_:Int),.bool x.lim] s w)→w.cell? ⟨z,1,none⟩=some (.int .u64 (x.size:Int)):=fun w h=>h.out.box.cell rfl
theorem lx_pk {W:World} {p:PL} {z:Nat} {s:LS} (x:Pk):(∀w,Hid (LX W p z 68 #[.int .u64 (x.n:Int),.int .u64 (x.size:Int),.int .u64 (x.sent:Int),.int .u64 (x.first:Int),.int .u64 (x.deliv:Int),.int .u64 (x.at_:Int),.bool x.lim] s w)→w.cell? ⟨z,0,none⟩=some (.int .u64 (x.n:Int)))∧(∀w,Hid (LX W p z 68 #[.int .u64 (x.n:Int),.int .u64 (x.size:Int),.int .u64 (x.sent:Int),.int .u64 (x.first:Int),.int .u64 (x.deliv:Int),.int .u64 (x.at_:Int),.bool x.lim] s w)→w.cell? ⟨z,1,none⟩=some (.int .u64 (x.size:Int)))∧(∀w,Hid (LX W p z 68 #[.int .u64 (x.n:Int),.int .u64 (x.size:Int),.int .u64 (x.sent:Int),.int .u64 (x.first:Int),.int .u64 (x.deliv:Int),.int .u64 (x.at_:Int),.bool x.lim] s w)→w.cell? ⟨z,2,none⟩=some (.int .u64 (x.sent:Int)))∧(∀w,Hid (LX W p z 68 #[.int .u64 (x.n:Int),.int .u64 (x.size:Int),.int .u64 (x.sent:Int),.int .u64 (x.first:Int),.int .u64 (x.deliv:Int),.int .u64 (x.at_:Int),.bool x.lim] s w)→w.cell? ⟨z,3,none⟩=some (.int .u64 (x.first:Int)))∧(∀w,Hid (LX W p z 68 #[.int .u64 (x.n:Int),.int .u64 (x.size:Int),.int .u64 (x.sent:Int),.int .u64 (x.first:Int),.int .u64 (x.deliv:Int),.int .u64 (x.at_:Int),.bool x.lim] s w)→w.cell? ⟨z,4,none⟩=some (.int .u64 (x.deliv:Int)))∧(∀w,Hid (LX W p z 68 #[.int .u64 (x.n:Int),.int .u64 (x.size:Int),.int .u64 (x.sent:Int),.int .u64 (x.first:Int),.int .u64 (x.deliv:Int),.int .u64 (x.at_:Int),.bool x.lim] s w)→w.cell? ⟨z,5,none⟩=some (.int .u64 (x.at_:Int)))∧(∀w,Hid (LX W p z 68 #[.int .u64 (x.n:Int),.int .u64 (x.size:Int),.int .u64 (x.sent:Int),.int .u64 (x.first:Int),.int .u64 (x.deliv:Int),.int .u64 (x.at_:Int),.bool x.lim] s w)→w.cell? ⟨z,6,none⟩=some (.bool x.lim)):=
 ⟨fun w h=>h.out.box.cell rfl,fun w h=>h.out.box.cell rfl,fun w h=>h.out.box.cell rfl,fun w h=>h.out.box.cell rfl,fun w h=>h.out.box.cell rfl,fun w h=>h.out.box.cell rfl,fun w h=>h.out.box.cell rfl⟩
theorem lx_qp {W:World} {p:PL} {z:Nat} {cs:Array Value} {s:LS}:∀w,Hid (LX W p z 68 cs s w)→w.cell? ⟨p.b,5,none⟩=some (.pointer (some ⟨p.qb,0,none⟩)):=fun w h=>h.out.li.kp.2.1
theorem set_came (s:LS) (c:Nat) (p:PL):((s.cells p).setIfInBounds 8 (.int .u64 (LS.hi c:Int))).setIfInBounds 9 (.int .u64 (LS.lo c:Int))=(s.withC c).cells p:=rfl
theorem set_served (s:LS) (c:Nat) (p:PL):((s.cells p).setIfInBounds 10 (.int .u64 (LS.hi c:Int))).setIfInBounds 11 (.int .u64 (LS.lo c:Int))=(s.withS c).cells p:=rfl
theorem set_deliv (s:LS) (c:Nat) (p:PL):((s.cells p).setIfInBounds 12 (.int .u64 (LS.hi c:Int))).setIfInBounds 13 (.int .u64 (LS.lo c:Int))=(s.withD c).cells p:=rfl
theorem send1_with (s:LS) (x:Pk):s.send1 x=(s.withC (s.came + x.size)).withQ (s.q.putQ x):=rfl
theorem kept_snoc (l:List Pk) (x:Pk):∀s:LS,s.kept (l ++ [x])=s.kept l + (if (s.sends l).q.putB x then 1 else 0):=by
 induction l with
 | nil=>intro s;show (if s.q.putB x then 1 else 0) + 0=0 + (if s.q.putB x then 1 else 0);omega
 | cons y t ih=>
   intro s
   show (if s.q.putB y then 1 else 0) + (s.send1 y).kept (t ++ [x])=(if s.q.putB y then 1 else 0) + (s.send1 y).kept t + (if ((s.send1 y).sends t).q.putB x then 1 else 0)
   rw [ih];omega
theorem kept_le (l:List Pk):∀s:LS,s.kept l≤l.length:=by
 induction l with
 | nil=>intro s;exact Nat.le_refl _
 | cons y t ih=>
   intro s
   have:=ih (s.send1 y)
   show (if s.q.putB y then 1 else 0) + (s.send1 y).kept t≤t.length + 1
   split <;> omega
theorem take_snoc (l:List Pk) (k:Nat) (h:k < l.length) (x:Pk) (hx:x=l.getD k Itm.z):l.take (k + 1)=l.take k ++ [x]:=by
 rw [List.take_add_one,hx];simp [h]
theorem sends_snoc (s:LS) (l:List Pk) (x:Pk):s.sends (l ++ [x])=(s.sends l).send1 x:=by simp [LS.sends,List.foldl_append]
theorem lx_put (W:World) (p:PL) (z:Nat) (s:LS) (x:Pk) (ho:QK.ok s.q) (hp:x.size≤18446744073709551615) (hk:s.q.l.length≤5000) (w:World) (h:LX W p z 68 #[.int .u64 (x.n:Int),.int .u64 (x.size:Int),.int .u64 (x.sent:Int),.int .u64 (x.first:Int),.int .u64 (x.deliv:Int),.int .u64 (x.at_:Int),.bool x.lim] s w):
  Calls Try.prog 38 #[.pointer (some ⟨p.qb,0,none⟩),.agg #[.int .u64 (x.n:Int),.int .u64 (x.size:Int),.int .u64 (x.sent:Int),.int .u64 (x.first:Int),.int .u64 (x.deliv:Int),.int .u64 (x.at_:Int),.bool x.lim]] w fun e w'=>e=.returned (.bool (s.q.putB x))∧Hid (LX W p z 68 #[.int .u64 (x.n:Int),.int .u64 (x.size:Int),.int .u64 (x.sent:Int),.int .u64 (x.first:Int),.int .u64 (x.deliv:Int),.int .u64 (x.at_:Int),.bool x.lim] (s.withQ (s.q.putQ x)) w'):=by
 obtain ⟨g,i,h1,h2,h3⟩:=h.ex
 exact (wq_Put p.qb p.qr g x s.q w h1.q ho hp hk).mono fun e w' k=>⟨k.e,Lib.hid (h.q h1 h2 h3 k)⟩
set_option maxRecDepth 100000 in
set_option maxHeartbeats 1000000 in
theorem lk_Send (p:PL) (s:LS) (N:Nat) (l:List Pk) (ao:Option Addr) (cap:Nat) (W:World) (h:LkAt W p s) (ho:s.ok N) (hi:Its W ao l) (ha:0 < l.length→Apart ao p.l) (hz:∀x∈l,x.size≤18446744073709551615) (hN:N + l.length≤5000):
  Calls Try.prog 18 #[.pointer (some ⟨p.b,0,none⟩),.slice ao l.length cap] W (LPost W p (.int .i64 (s.kept l:Int)) (s.sends l)):=by
 have H0:=Lib.hid (LI.start h)
 have HI:=Lib.hid hi
 have HO:=Lib.hid (fun k (hk:k≤l.length)=>(LS.ok.sends (l:=l.take k) ho (fun x hx=>hz x (List.mem_of_mem_take hx))).more (M:=5000) (by rw [List.length_take];omega))
 have HZ:=Lib.hid hz
 clear h ho hi hz
 go_enter Try.func18,Try.ntmps18
 go_wp2_with fail
 go_loopw [5,12] (fun c i wr=>∃k:Nat,c=.int .i64 ((s.kept (l.take k):Nat):Int)∧i=.int .i64 (k:Int)∧k≤l.length∧Hid (LI W p (s.sends (l.take k)) wr)) (fun _ i _=>l.length - (intOf i).toNat)
 case atStart=>exact ⟨0,rfl,rfl,Nat.zero_le _,H0⟩
 case round=>
  obtain ⟨k,rfl,rfl,hk,HL⟩:=hrel
  by_cases hlt:k < l.length
  ·obtain ⟨ad,rfl,_⟩:=HI.out.cells (by omega)
   obtain ⟨g,off,rfl,_,hc⟩:=its_pk (HI.out.frl HL.out.fr (ha (by omega))) (by omega)
   obtain ⟨x,hx⟩:∃x,x=l.getD k Itm.z:=⟨_,rfl⟩
   obtain ⟨a0,a1,a2,a3,a4,a5,a6⟩:=hc k hlt x hx
   have HT:=Lib.hid (take_snoc l k hlt x hx)
   have hxm:x∈l:=by rw [hx];simp [hlt]
   have hxs:=Lib.hid (HZ.out x hxm)
   have HK:Hid (s.kept (l.take (k + 1))=s.kept (l.take k) + (if (s.sends (l.take k)).q.putB x then 1 else 0)):=Lib.hid (by rw [HT.out];exact kept_snoc _ _ _)
   have HS:Hid (s.sends (l.take (k + 1))=((s.sends (l.take k)).withC ((s.sends (l.take k)).came + x.size)).withQ ((s.sends (l.take k)).q.putQ x)):=Lib.hid (by rw [HT.out,sends_snoc];exact send1_with _ _)
   have hkl:s.kept (l.take k)≤5000:=Nat.le_trans (kept_le _ _) (by rw [List.length_take];omega)
   have HOk:=Lib.hid (HO.out k hk)
   have i0:(0:Int)≤(k:Int):=by omega
   have i1:(k:Int) < (l.length:Int):=by omega
   clear hc hx hxm HT HZ HO H0
   generalize s.kept (l.take k)=c at *
   generalize s.sends (l.take k)=s1 at *
   have HB:Hid (LX W p wr.heap.size 68 #[.int .u64 (x.n:Int),.int .u64 (x.size:Int),.int .u64 (x.sent:Int),.int .u64 (x.first:Int),.int .u64 (x.deliv:Int),.int .u64 (x.at_:Int),.bool x.lim] s1 (wr.alloc (.cells #[.int .u64 (x.n:Int),.int .u64 (x.size:Int),.int .u64 (x.sent:Int),.int .u64 (x.first:Int),.int .u64 (x.deliv:Int),.int .u64 (x.at_:Int),.bool x.lim] 68))):=Lib.hid (HL.out.box _ _)
   go_upto_region 7 with fail
   clear a0 a1 a2 a3 a4 a5 a6
   generalize wr.alloc (.cells #[.int .u64 (x.n:Int),.int .u64 (x.size:Int),.int .u64 (x.sent:Int),.int .u64 (x.first:Int),.int .u64 (x.deliv:Int),.int .u64 (x.at_:Int),.bool x.lim] 68)=w1 at *
   generalize wr.heap.size=z at *
   obtain ⟨c0,hc0⟩:∃c0,c0=s1.came:=⟨_,rfl⟩
   have HM:=Lib.hid (lx_more W p z #[.int .u64 (x.n:Int),.int .u64 (x.size:Int),.int .u64 (x.sent:Int),.int .u64 (x.first:Int),.int .u64 (x.deliv:Int),.int .u64 (x.at_:Int),.bool x.lim] s1 c0 x.size (by have:=HOk.out.came;omega) hxs.out)
   have HCs:Hid (∀(c:Nat) (p:PL),((s1.cells p).setIfInBounds 8 (.int .u64 (LS.hi c:Int))).setIfInBounds 9 (.int .u64 (LS.lo c:Int))=(s1.withC c).cells p):=Lib.hid (fun c p=>set_came s1 c p)
   obtain ⟨rh,rl⟩:=lx_came (W:=W) (p:=p) (z:=z) (cs:=#[.int .u64 (x.n:Int),.int .u64 (x.size:Int),.int .u64 (x.sent:Int),.int .u64 (x.first:Int),.int .u64 (x.deliv:Int),.int .u64 (x.at_:Int),.bool x.lim]) (s:=s1)
   rw [← hc0] at rh rl HS
   clear hc0
   have rz:=lx_size (W:=W) (p:=p) (z:=z) (s:=s1) x
   have M0:Hid (LX W p z 68 #[.int .u64 (x.n:Int),.int .u64 (x.size:Int),.int .u64 (x.sent:Int),.int .u64 (x.first:Int),.int .u64 (x.deliv:Int),.int .u64 (x.at_:Int),.bool x.lim] s1 w1.drew):=Lib.hid HB.out.drew
   clear HB HL
   go_wp2_with fail
   refine wp_region_chain (S:=(fun w'=>Hid (LX W p z 68 #[.int .u64 (x.n:Int),.int .u64 (x.size:Int),.int .u64 (x.sent:Int),.int .u64 (x.first:Int),.int .u64 (x.deliv:Int),.int .u64 (x.at_:Int),.bool x.lim] (s1) w'))) 10 (by kernel_rfl) (by kernel_rfl) (by kernel_rfl) M0 ?_
   simp only [List.size_toArray,List.length_cons,List.length_nil,Nat.reduceAdd,Array.replicate_succ,Array.replicate_zero,List.push_toArray,List.nil_append,List.cons_append]
   refine Chain.take (i:=0) (oi:=⟨some 16,_,_,_,_,_⟩) (v:=?v6) rfl (by kernel_rfl) (by kernel_rfl) (Or.inl ⟨by rfl,?y6⟩) ?rest6
   case y6=>intro w hSw;clear hSw;go_simp;(try with_reducible rfl)
   simp only [Act.put,List.setIfInBounds_toArray,List.set_cons_zero,List.set_cons_succ]
   refine Chain.take (i:=1) (oi:=⟨some 17,_,_,_,_,_⟩) (v:=?v7) rfl (by kernel_rfl) (by kernel_rfl) (Or.inl ⟨by rfl,?y7⟩) ?rest7
   case y7=>intro w hSw;clear hSw;go_simp;(try with_reducible rfl)
   simp only [Act.put,List.setIfInBounds_toArray,List.set_cons_zero,List.set_cons_succ]
   refine Chain.take (i:=2) (oi:=⟨some 18,_,_,_,_,_⟩) (v:=?v8) rfl (by kernel_rfl) (by kernel_rfl) (Or.inl ⟨by rfl,?y8⟩) ?rest8
   case y8=>intro w hSw;clear hSw;go_simp;(try with_reducible rfl)
   simp only [Act.put,List.setIfInBounds_toArray,List.set_cons_zero,List.set_cons_succ]
   refine Chain.take (i:=3) (oi:=⟨some 19,_,_,_,_,_⟩) (v:=?v9) rfl (by kernel_rfl) (by kernel_rfl) (Or.inl ⟨by rfl,?y9⟩) ?rest9
   case y9=>intro w hSw;clear hSw;go_simp;(try with_reducible rfl)
   simp only [Act.put,List.setIfInBounds_toArray,List.set_cons_zero,List.set_cons_succ]
   refine Chain.take (i:=4) (oi:=⟨some 20,_,_,_,_,_⟩) (v:=?v10) rfl (by kernel_rfl) (by kernel_rfl) (Or.inl ⟨by rfl,?y10⟩) ?rest10
   case y10=>intro w hSw;go_simp;(try with_reducible rfl)
   simp only [Act.put,List.setIfInBounds_toArray,List.set_cons_zero,List.set_cons_succ]
   refine Chain.take (i:=5) (oi:=⟨some 21,_,_,_,_,_⟩) (v:=?v11) rfl (by kernel_rfl) (by kernel_rfl) (Or.inl ⟨by rfl,?y11⟩) ?rest11
   case y11=>intro w hSw;clear hSw;go_simp;(try with_reducible rfl)
   simp only [Act.put,List.setIfInBounds_toArray,List.set_cons_zero,List.set_cons_succ]
   refine Chain.take (i:=6) (oi:=⟨some 22,_,_,_,_,_⟩) (v:=?v12) rfl (by kernel_rfl) (by kernel_rfl) (Or.inl ⟨by rfl,?y12⟩) ?rest12
   case y12=>intro w hSw;go_simp;(try with_reducible rfl)
   simp only [Act.put,List.setIfInBounds_toArray,List.set_cons_zero,List.set_cons_succ]
   refine' Chain.call (i:=7) (oi:=⟨some 23,_,_,_,_,_⟩) _ _ rfl (by kernel_rfl) (by kernel_rfl) (by rfl) ?he13 (fun w hS=>HM.out w hS) ?rest13
   case he13=>intro w;go_simp
   simp only [Act.put,List.setIfInBounds_toArray,List.set_cons_zero,List.set_cons_succ]
   refine Chain.take (i:=8) (oi:=⟨some 24,_,_,_,_,_⟩) (v:=?v14) rfl (by kernel_rfl) (by kernel_rfl) (Or.inl ⟨by rfl,?y14⟩) ?rest14
   case y14=>intro w hSw;clear hSw;go_simp;(try with_reducible rfl)
   simp only [Act.put,List.setIfInBounds_toArray,List.set_cons_zero,List.set_cons_succ]
   refine Chain.take (i:=9) (oi:=⟨some 25,_,_,_,_,_⟩) (v:=?v15) rfl (by kernel_rfl) (by kernel_rfl) (Or.inl ⟨by rfl,?y15⟩) ?rest15
   case y15=>intro w hSw;clear hSw;go_simp;(try with_reducible rfl)
   simp only [Act.put,List.setIfInBounds_toArray,List.set_cons_zero,List.set_cons_succ]
   refine Chain.last (by kernel_rfl) (fun w hSw=>?_)
   refine wpAnyH_ready (rs:=[10]) (by kernel_rfl) (by simp) ?_
   refine AllReadyH.cons (o:=⟨none,_,_,_,_,_⟩) rfl (fun K hK=>?_) AllReadyH.nil
   have g0:=hSw.out.li.free 8
   have g1:=hSw.out.li.free 9
   have g2:=rh _ hSw
   have g3:=rl _ hSw
   have M2:=Lib.hid (hSw.out.set2 (s':=(s1).withC (c0 + x.size)) 8 9 (.int .u64 (LS.hi (c0 + x.size):Int)) (.int .u64 (LS.lo (c0 + x.size):Int)) (HCs.out _ _) ⟨rfl,rfl,rfl⟩)
   clear hSw rh rl rz
   go_simp
   refine hK.out _ _ trivial (fun _=>?_)
   clear hK
   try simp only [List.setIfInBounds_toArray,List.set_cons_zero,List.set_cons_succ]
   refine wpAnyH_done (by kernel_rfl) ?_ _
   skip
   clear HM HCs g0 g1 g2 g3 M0
   generalize (w.setCell ⟨p.b,8,none⟩ (.int .u64 (LS.hi (c0 + x.size):Int))).setCell ⟨p.b,9,none⟩ (.int .u64 (LS.lo (c0 + x.size):Int))=w2 at *
   have HP:=Lib.hid (fun w k=>lx_put W p z (s1.withC (c0 + x.size)) x HOk.out.q.ok hxs.out (by have:=HOk.out.n;show s1.q.l.length≤5000;omega) w k)
   have HS2:Hid (s.sends (l.take (k + 1))=(s1.withC (c0 + x.size)).withQ ((s1.withC (c0 + x.size)).q.putQ x)):=HS
   have HK2:Hid (s.kept (l.take (k + 1))=c + (if (s1.withC (c0 + x.size)).q.putB x then 1 else 0)):=HK
   obtain ⟨z0,z1,z2,z3,z4,z5,z6⟩:=lx_pk (W:=W) (p:=p) (z:=z) (s:=s1.withC (c0 + x.size)) x
   have r5:=lx_qp (W:=W) (p:=p) (z:=z) (cs:=#[.int .u64 (x.n:Int),.int .u64 (x.size:Int),.int .u64 (x.sent:Int),.int .u64 (x.first:Int),.int .u64 (x.deliv:Int),.int .u64 (x.at_:Int),.bool x.lim]) (s:=s1.withC (c0 + x.size))
   have M3:=Lib.hid M2.out.drew
   clear HS HK HOk
   generalize s1.withC (c0 + x.size)=s2 at *
   go_wp2_with fail
   refine wp_region_chain (S:=(fun w'=>Hid (LX W p z 68 #[.int .u64 (x.n:Int),.int .u64 (x.size:Int),.int .u64 (x.sent:Int),.int .u64 (x.first:Int),.int .u64 (x.deliv:Int),.int .u64 (x.at_:Int),.bool x.lim] s2 w'))) 5 (by kernel_rfl) (by kernel_rfl) (by kernel_rfl) M3 ?_
   generalize w2.drew=wd at *
   simp only [List.size_toArray,List.length_cons,List.length_nil,Nat.reduceAdd,Array.replicate_succ,Array.replicate_zero,List.push_toArray,List.nil_append,List.cons_append]
   refine Chain.take (i:=0) (oi:=⟨some 26,_,_,_,_,_⟩) (v:=?v1) rfl (by kernel_rfl) (by kernel_rfl) (Or.inl ⟨by rfl,?y1⟩) ?rest1
   case y1=>intro w hSw;clear hSw;go_simp;(try with_reducible rfl)
   simp only [Act.put,List.setIfInBounds_toArray,List.set_cons_zero,List.set_cons_succ]
   refine Chain.take (i:=1) (oi:=⟨some 27,_,_,_,_,_⟩) (v:=?v2) rfl (by kernel_rfl) (by kernel_rfl) (Or.inl ⟨by rfl,?y2⟩) ?rest2
   case y2=>intro w hSw;clear hSw;go_simp;(try with_reducible rfl)
   simp only [Act.put,List.setIfInBounds_toArray,List.set_cons_zero,List.set_cons_succ]
   refine Chain.take (i:=2) (oi:=⟨some 28,_,_,_,_,_⟩) (v:=?v3) rfl (by kernel_rfl) (by kernel_rfl) (Or.inl ⟨by rfl,?y3⟩) ?rest3
   case y3=>intro w hSw;clear hSw;go_simp;(try with_reducible rfl)
   simp only [Act.put,List.setIfInBounds_toArray,List.set_cons_zero,List.set_cons_succ]
   refine Chain.take (i:=3) (oi:=⟨some 29,_,_,_,_,_⟩) (v:=?v4) rfl (by kernel_rfl) (by kernel_rfl) (Or.inl ⟨by rfl,?y4⟩) ?rest4
   case y4=>intro w hSw;go_simp;(try with_reducible rfl)
   simp only [Act.put,List.setIfInBounds_toArray,List.set_cons_zero,List.set_cons_succ]
   refine Chain.take (i:=4) (oi:=⟨some 30,_,_,_,_,_⟩) (v:=?v5) rfl (by kernel_rfl) (by kernel_rfl) (Or.inl ⟨by rfl,?y5⟩) ?rest5
   case y5=>intro w hSw;go_simp;(try with_reducible rfl)
   simp only [Act.put,List.setIfInBounds_toArray,List.set_cons_zero,List.set_cons_succ]
   refine Chain.last (by kernel_rfl) (fun w hSw=>?_)
   refine wpAnyH_ready (rs:=[5]) (by kernel_rfl) (by simp) ?_
   refine AllReadyH.cons (o:=⟨some 31,_,_,_,_,_⟩) rfl (fun K hK=>?_) AllReadyH.nil
   go_simp
   refine (HP.out _ hSw.out).mono ?_
   rintro e w3 ⟨rfl,M4⟩
   clear hSw M2 M3 z0 z1 z2 z3 z4 z5 z6 r5 HP
   go_wp2_with fail
   refine hK.out _ _ trivial (fun _=>?_)
   clear hK
   try simp only [List.setIfInBounds_toArray,List.set_cons_zero,List.set_cons_succ]
   refine wpAnyH_done (by kernel_rfl) ?_ _
   skip
   cases hq:s2.q.putB x with
   | true=>
     rw [hq] at HK2
     have HK3:Hid (((c:Int) + 1)=((s.kept (l.take (k + 1)):Nat):Int)):=Lib.hid (by rw [HK2.out];simp)
     have hw:IntKind.i64.wrap ((c:Int) + 1)=(c:Int) + 1:=by rw [IntKind.wrap_i64];omega
     go_wp2_with fail
     go_roundw
     case rel=>exact ⟨k + 1,by rw [HK3.out],by go_num,by omega,by rw [HS2.out];exact Lib.hid M4.out.li⟩
     case measure=>simp [intOf];omega
   | false=>
     rw [hq] at HK2
     have HK3:Hid ((c:Int)=((s.kept (l.take (k + 1)):Nat):Int)):=Lib.hid (by rw [HK2.out];simp)
     go_wp2_with fail
     go_roundw
     case rel=>exact ⟨k + 1,by rw [HK3.out],by go_num,by omega,by rw [HS2.out];exact Lib.hid M4.out.li⟩
     case measure=>simp [intOf];omega
  ·obtain rfl:k=l.length:=by omega
   rw [List.take_length] at *
   go_wp2_with fail
   go_ret
   exact ⟨rfl,HL.out⟩
end Go.Proofs.Ytgpmnhhcjccofaa
