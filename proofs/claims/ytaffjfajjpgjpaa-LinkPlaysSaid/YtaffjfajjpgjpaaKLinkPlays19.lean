/- 3 texts put together: what each one says stands ahead of it. -/
import Derived.Test.YtaffjfajjpgjpaaKLinkPlays17
import Derived.Test.YtaffjfajjpgjpaaKLinkPlays18
import Derived.Test.YtaffjfajjpgjpaaKLinkPlays15
import Derived.Test.YtaffjfajjpgjpaaKLinkPlays07
import Derived.Test.YtaffjfajjpgjpaaKLinkPlays16
set_option linter.unusedVariables false
namespace Go.Proofs.Ytaffjfajjpgjpaa
open Go.RowKit
theorem lx_more (W:World) (p:PL) (z:Nat) (cs:Array Value) (s:LS) (c0 n:Nat) (hc:c0≤1267650600228229401496703205376) (hn:n≤18446744073709551615):∀w,Hid (LX W p z 65 cs s w)→
  Calls Try.prog 30 #[.agg #[.int .u64 (LS.hi c0:Int),.int .u64 (LS.lo c0:Int)],.int .u64 (n:Int)] w fun e w'=>e=.returned (.agg #[.int .u64 (LS.hi (c0 + n):Int),.int .u64 (LS.lo (c0 + n):Int)])∧Hid (LX W p z 65 cs s w'):=
 fun w h=>(lk_more c0 n w hc hn).mono fun e w' q=>⟨q.1,Lib.hid (h.out.to q.2)⟩
theorem lx_came {W:World} {p:PL} {z:Nat} {cs:Array Value} {s:LS}:(∀w,Hid (LX W p z 65 cs s w)→w.cell? ⟨p.b,8,none⟩=some (.int .u64 (LS.hi s.came:Int)))∧(∀w,Hid (LX W p z 65 cs s w)→w.cell? ⟨p.b,9,none⟩=some (.int .u64 (LS.lo s.came:Int))):=
 ⟨fun w h=>h.out.li.cell (fun _=>rfl),fun w h=>h.out.li.cell (fun _=>rfl)⟩
theorem lx_served {W:World} {p:PL} {z:Nat} {cs:Array Value} {s:LS}:(∀w,Hid (LX W p z 65 cs s w)→w.cell? ⟨p.b,10,none⟩=some (.int .u64 (LS.hi s.served:Int)))∧(∀w,Hid (LX W p z 65 cs s w)→w.cell? ⟨p.b,11,none⟩=some (.int .u64 (LS.lo s.served:Int))):=
 ⟨fun w h=>h.out.li.cell (fun _=>rfl),fun w h=>h.out.li.cell (fun _=>rfl)⟩
theorem lx_deliv {W:World} {p:PL} {z:Nat} {cs:Array Value} {s:LS}:(∀w,Hid (LX W p z 65 cs s w)→w.cell? ⟨p.b,12,none⟩=some (.int .u64 (LS.hi s.deliv:Int)))∧(∀w,Hid (LX W p z 65 cs s w)→w.cell? ⟨p.b,13,none⟩=some (.int .u64 (LS.lo s.deliv:Int))):=
 ⟨fun w h=>h.out.li.cell (fun _=>rfl),fun w h=>h.out.li.cell (fun _=>rfl)⟩
theorem lx_size {W:World} {p:PL} {z:Nat} {s:LS} (x:Pk):∀w,Hid (LX W p z 65 #[.int .u64 (x.n:Int),.int .u64 (x.size:Int),.int .u64 (x.sent:Int),.int .u64 (x.first:Int),.int .u64 (x.deliv:Int),.int .u64 (x.at_:Int),.bool x.lim] s w)→w.cell? ⟨z,1,none⟩=some (.int .u64 (x.size:Int)):=fun w h=>h.out.box.cell rfl
theorem lx_pk {W:World} {p:PL} {z:Nat} {s:LS} (x:Pk):(∀w,Hid (LX W p z 65 #[.int .u64 (x.n:Int),.int .u64 (x.size:Int),.int .u64 (x.sent:Int),.int .u64 (x.first:Int),.int .u64 (x.deliv:Int),.int .u64 (x.at_:Int),.bool x.lim] s w)→w.cell? ⟨z,0,none⟩=some (.int .u64 (x.n:Int)))∧(∀w,Hid (LX W p z 65 #[.int .u64 (x.n:Int),.int .u64 (x.size:Int),.int .u64 (x.sent:Int),.int .u64 (x.first:Int),.int .u64 (x.deliv:Int),.int .u64 (x.at_:Int),.bool x.lim] s w)→w.cell? ⟨z,1,none⟩=some (.int .u64 (x.size:Int)))∧(∀w,Hid (LX W p z 65 #[.int .u64 (x.n:Int),.int .u64 (x.size:Int),.int .u64 (x.sent:Int),.int .u64 (x.first:Int),.int .u64 (x.deliv:Int),.int .u64 (x.at_:Int),.bool x.lim] s w)→w.cell? ⟨z,2,none⟩=some (.int .u64 (x.sent:Int)))∧(∀w,Hid (LX W p z 65 #[.int .u64 (x.n:Int),.int .u64 (x.size:Int),.int .u64 (x.sent:Int),.int .u64 (x.first:Int),.int .u64 (x.deliv:Int),.int .u64 (x.at_:Int),.bool x.lim] s w)→w.cell? ⟨z,3,none⟩=some (.int .u64 (x.first:Int)))∧(∀w,Hid (LX W p z 65 #[.int .u64 (x.n:Int),.int .u64 (x.size:Int),.int .u64 (x.sent:Int),.int .u64 (x.first:Int),.int .u64 (x.deliv:Int),.int .u64 (x.at_:Int),.bool x.lim] s w)→w.cell? ⟨z,4,none⟩=some (.int .u64 (x.deliv:Int)))∧(∀w,Hid (LX W p z 65 #[.int .u64 (x.n:Int),.int .u64 (x.size:Int),.int .u64 (x.sent:Int),.int .u64 (x.first:Int),.int .u64 (x.deliv:Int),.int .u64 (x.at_:Int),.bool x.lim] s w)→w.cell? ⟨z,5,none⟩=some (.int .u64 (x.at_:Int)))∧(∀w,Hid (LX W p z 65 #[.int .u64 (x.n:Int),.int .u64 (x.size:Int),.int .u64 (x.sent:Int),.int .u64 (x.first:Int),.int .u64 (x.deliv:Int),.int .u64 (x.at_:Int),.bool x.lim] s w)→w.cell? ⟨z,6,none⟩=some (.bool x.lim)):=
 ⟨fun w h=>h.out.box.cell rfl,fun w h=>h.out.box.cell rfl,fun w h=>h.out.box.cell rfl,fun w h=>h.out.box.cell rfl,fun w h=>h.out.box.cell rfl,fun w h=>h.out.box.cell rfl,fun w h=>h.out.box.cell rfl⟩
theorem lx_qp {W:World} {p:PL} {z:Nat} {cs:Array Value} {s:LS}:∀w,Hid (LX W p z 65 cs s w)→w.cell? ⟨p.b,5,none⟩=some (.pointer (some ⟨p.qb,0,none⟩)):=fun w h=>h.out.li.kp.2.1
theorem set_came (s:LS) (c:Nat) (p:PL):((s.cells p).setIfInBounds 8 (.int .u64 (LS.hi c:Int))).setIfInBounds 9 (.int .u64 (LS.lo c:Int))=(s.withC c).cells p:=rfl
theorem set_served (s:LS) (c:Nat) (p:PL):((s.cells p).setIfInBounds 10 (.int .u64 (LS.hi c:Int))).setIfInBounds 11 (.int .u64 (LS.lo c:Int))=(s.withS c).cells p:=rfl
theorem set_deliv (s:LS) (c:Nat) (p:PL):((s.cells p).setIfInBounds 12 (.int .u64 (LS.hi c:Int))).setIfInBounds 13 (.int .u64 (LS.lo c:Int))=(s.withD c).cells p:=rfl
theorem send1_with (s:LS) (x:Pk):s.send1 x=(s.withC (s.came + x.size)).withQ (s.q.putQ x):=rfl
theorem kept_snoc (l:List Pk) (x:Pk):∀s:LS,s.kept (l ++ [x])=s.kept l + (if (s.sends l).q.putB x then 1 else 0):=by
 induction l with
 | nil=>intro s;show (if s.q.putB x then 1 else 0) + 0=0 + (if s.q.putB x then 1 else 0);omega
 | cons y t ih=>
   intro s
   show (if s.q.putB y then 1 else 0) + (s.send1 y).kept (t ++ [x])=(if s.q.putB y then 1 else 0) + (s.send1 y).kept t + (if ((s.send1 y).sends t).q.putB x then 1 else 0)
   rw [ih];omega
theorem kept_le (l:List Pk):∀s:LS,s.kept l≤l.length:=by
 induction l with
 | nil=>intro s;exact Nat.le_refl _
 | cons y t ih=>
   intro s
   have:=ih (s.send1 y)
   show (if s.q.putB y then 1 else 0) + (s.send1 y).kept t≤t.length + 1
   split <;> omega
theorem take_snoc (l:List Pk) (k:Nat) (h:k < l.length) (x:Pk) (hx:x=l.getD k Itm.z):l.take (k + 1)=l.take k ++ [x]:=by
 rw [List.take_add_one,hx];simp [h]
theorem sends_snoc (s:LS) (l:List Pk) (x:Pk):s.sends (l ++ [x])=(s.sends l).send1 x:=by simp [LS.sends,List.foldl_append]
theorem lx_put (W:World) (p:PL) (z:Nat) (s:LS) (x:Pk) (ho:QK.ok s.q) (hp:x.size≤18446744073709551615) (hk:s.q.l.length≤5000) (w:World) (h:LX W p z 65 #[.int .u64 (x.n:Int),.int .u64 (x.size:Int),.int .u64 (x.sent:Int),.int .u64 (x.first:Int),.int .u64 (x.deliv:Int),.int .u64 (x.at_:Int),.bool x.lim] s w):
  Calls Try.prog 31 #[.pointer (some ⟨p.qb,0,none⟩),.agg #[.int .u64 (x.n:Int),.int .u64 (x.size:Int),.int .u64 (x.sent:Int),.int .u64 (x.first:Int),.int .u64 (x.deliv:Int),.int .u64 (x.at_:Int),.bool x.lim]] w fun e w'=>e=.returned (.bool (s.q.putB x))∧Hid (LX W p z 65 #[.int .u64 (x.n:Int),.int .u64 (x.size:Int),.int .u64 (x.sent:Int),.int .u64 (x.first:Int),.int .u64 (x.deliv:Int),.int .u64 (x.at_:Int),.bool x.lim] (s.withQ (s.q.putQ x)) w'):=by
 obtain ⟨g,i,h1,h2,h3⟩:=h.ex
 exact (wq_Put p.qb p.qr g x s.q w h1.q ho hp hk).mono fun e w' k=>⟨k.e,Lib.hid (h.q h1 h2 h3 k)⟩
set_option maxRecDepth 100000 in
set_option maxHeartbeats 1000000 in
theorem lk_Send (p:PL) (s:LS) (N:Nat) (l:List Pk) (ao:Option Addr) (cap:Nat) (W:World) (h:LkAt W p s) (ho:s.ok N) (hi:Its W ao l) (ha:0 < l.length→Apart ao p.l) (hz:∀x∈l,x.size≤18446744073709551615) (hN:N + l.length≤5000):
  Calls Try.prog 15 #[.pointer (some ⟨p.b,0,none⟩),.slice ao l.length cap] W (LPost W p (.int .i64 (s.kept l:Int)) (s.sends l)):=by
 have H0:=Lib.hid (LI.start h)
 have HI:=Lib.hid hi
 have HO:=Lib.hid (fun k (hk:k≤l.length)=>(LS.ok.sends (l:=l.take k) ho (fun x hx=>hz x (List.mem_of_mem_take hx))).more (M:=5000) (by rw [List.length_take];omega))
 have HZ:=Lib.hid hz
 clear h ho hi hz
 go_enter Try.func15,Try.ntmps15
 go_wp2_with fail
 go_loopw [5,12] (fun c i wr=>∃k:Nat,c=.int .i64 ((s.kept (l.take k):Nat):Int)∧i=.int .i64 (k:Int)∧k≤l.length∧Hid (LI W p (s.sends (l.take k)) wr)) (fun _ i _=>l.length - (intOf i).toNat)
 case atStart=>exact ⟨0,rfl,rfl,Nat.zero_le _,H0⟩
 case round=>
  obtain ⟨k,rfl,rfl,hk,HL⟩:=hrel
  by_cases hlt:k < l.length
  ·obtain ⟨ad,rfl,_⟩:=HI.out.cells (by omega)
   obtain ⟨g,off,rfl,_,hc⟩:=its_pk (HI.out.frl HL.out.fr (ha (by omega))) (by omega)
   obtain ⟨x,hx⟩:∃x,x=l.getD k Itm.z:=⟨_,rfl⟩
   obtain ⟨a0,a1,a2,a3,a4,a5,a6⟩:=hc k hlt x hx
   have HT:=Lib.hid (take_snoc l k hlt x hx)
   have hxm:x∈l:=by rw [hx];simp [hlt]
   have hxs:=Lib.hid (HZ.out x hxm)
   have HK:Hid (s.kept (l.take (k + 1))=s.kept (l.take k) + (if (s.sends (l.take k)).q.putB x then 1 else 0)):=Lib.hid (by rw [HT.out];exact kept_snoc _ _ _)
   have HS:Hid (s.sends (l.take (k + 1))=((s.sends (l.take k)).withC ((s.sends (l.take k)).came + x.size)).withQ ((s.sends (l.take k)).q.putQ x)):=Lib.hid (by rw [HT.out,sends_snoc];exact send1_with _ _)
   have hkl:s.kept (l.take k)≤5000:=Nat.le_trans (kept_le _ _) (by rw [List.length_take];omega)
   have HOk:=Lib.hid (HO.out k hk)
   have i0:(0:Int)≤(k:Int):=by omega
   have i1:(k:Int) < (l.length:Int):=by omega
   clear hc hx hxm HT HZ HO H0
   generalize s.kept (l.take k)=c at *
   generalize s.sends (l.take k)=s1 at *
   have HB:Hid (LX W p wr.heap.size 65 #[.int .u64 (x.n:Int),.int .u64 (x.size:Int),.int .u64 (x.sent:Int),.int .u64 (x.first:Int),.int .u64 (x.deliv:Int),.int .u64 (x.at_:Int),.bool x.lim] s1 (wr.alloc (.cells #[.int .u64 (x.n:Int),.int .u64 (x.size:Int),.int .u64 (x.sent:Int),.int .u64 (x.first:Int),.int .u64 (x.deliv:Int),.int .u64 (x.at_:Int),.bool x.lim] 65))):=Lib.hid (HL.out.box _ _)
   go_upto_region 7 with fail
   clear a0 a1 a2 a3 a4 a5 a6
   generalize wr.alloc (.cells #[.int .u64 (x.n:Int),.int .u64 (x.size:Int),.int .u64 (x.sent:Int),.int .u64 (x.first:Int),.int .u64 (x.deliv:Int),.int .u64 (x.at_:Int),.bool x.lim] 65)=w1 at *
   generalize wr.heap.size=z at *
   obtain ⟨c0,hc0⟩:∃c0,c0=s1.came:=⟨_,rfl⟩
   have HM:=Lib.hid (lx_more W p z #[.int .u64 (x.n:Int),.int .u64 (x.size:Int),.int .u64 (x.sent:Int),.int .u64 (x.first:Int),.int .u64 (x.deliv:Int),.int .u64 (x.at_:Int),.bool x.lim] s1 c0 x.size (by have:=HOk.out.came;omega) hxs.out)
   have HCs:Hid (∀(c:Nat) (p:PL),((s1.cells p).setIfInBounds 8 (.int .u64 (LS.hi c:Int))).setIfInBounds 9 (.int .u64 (LS.lo c:Int))=(s1.withC c).cells p):=Lib.hid (fun c p=>set_came s1 c p)
   obtain ⟨rh,rl⟩:=lx_came (W:=W) (p:=p) (z:=z) (cs:=#[.int .u64 (x.n:Int),.int .u64 (x.size:Int),.int .u64 (x.sent:Int),.int .u64 (x.first:Int),.int .u64 (x.deliv:Int),.int .u64 (x.at_:Int),.bool x.lim]) (s:=s1)
   rw [← hc0] at rh rl HS
   clear hc0
   have rz:=lx_size (W:=W) (p:=p) (z:=z) (s:=s1) x
   have M0:Hid (LX W p z 65 #[.int .u64 (x.n:Int),.int .u64 (x.size:Int),.int .u64 (x.sent:Int),.int .u64 (x.first:Int),.int .u64 (x.deliv:Int),.int .u64 (x.at_:Int),.bool x.lim] s1 w1.drew):=Lib.hid HB.out.drew
   clear HB HL
   go_wp2_with fail
   refine wp_region_chain (S:=(fun w'=>Hid (LX W p z 65 #[.int .u64 (x.n:Int),.int .u64 (x.size:Int),.int .u64 (x.sent:Int),.int .u64 (x.first:Int),.int .u64 (x.deliv:Int),.int .u64 (x.at_:Int),.bool x.lim] (s1) w'))) 10 (by kernel_rfl) (by kernel_rfl) (by kernel_rfl) M0 ?_
   simp only [List.size_toArray,List.length_cons,List.length_nil,Nat.reduceAdd,Array.replicate_succ,Array.replicate_zero,List.push_toArray,List.nil_append,List.cons_append]
   refine Chain.take (i:=0) (oi:=⟨some 16,_,_,_,_,_⟩) (v:=?v6) rfl (by kernel_rfl) (by kernel_rfl) (Or.inl ⟨by rfl,?y6⟩) ?rest6
   case y6=>intro w hSw;clear hSw;go_simp;(try with_reducible rfl)
   simp only [Act.put,List.setIfInBounds_toArray,List.set_cons_zero,List.set_cons_succ]
   refine Chain.take (i:=1) (oi:=⟨some 17,_,_,_,_,_⟩) (v:=?v7) rfl (by kernel_rfl) (by kernel_rfl) (Or.inl ⟨by rfl,?y7⟩) ?rest7
   case y7=>intro w hSw;clear hSw;go_simp;(try with_reducible rfl)
   simp only [Act.put,List.setIfInBounds_toArray,List.set_cons_zero,List.set_cons_succ]
   refine Chain.take (i:=2) (oi:=⟨some 18,_,_,_,_,_⟩) (v:=?v8) rfl (by kernel_rfl) (by kernel_rfl) (Or.inl ⟨by rfl,?y8⟩) ?rest8
   case y8=>intro w hSw;clear hSw;go_simp;(try with_reducible rfl)
   simp only [Act.put,List.setIfInBounds_toArray,List.set_cons_zero,List.set_cons_succ]
   refine Chain.take (i:=3) (oi:=⟨some 19,_,_,_,_,_⟩) (v:=?v9) rfl (by kernel_rfl) (by kernel_rfl) (Or.inl ⟨by rfl,?y9⟩) ?rest9
   case y9=>intro w hSw;clear hSw;go_simp;(try with_reducible rfl)
   simp only [Act.put,List.setIfInBounds_toArray,List.set_cons_zero,List.set_cons_succ]
   refine Chain.take (i:=4) (oi:=⟨some 20,_,_,_,_,_⟩) (v:=?v10) rfl (by kernel_rfl) (by kernel_rfl) (Or.inl ⟨by rfl,?y10⟩) ?rest10
   case y10=>intro w hSw;go_simp;(try with_reducible rfl)
   simp only [Act.put,List.setIfInBounds_toArray,List.set_cons_zero,List.set_cons_succ]
   refine Chain.take (i:=5) (oi:=⟨some 21,_,_,_,_,_⟩) (v:=?v11) rfl (by kernel_rfl) (by kernel_rfl) (Or.inl ⟨by rfl,?y11⟩) ?rest11
   case y11=>intro w hSw;clear hSw;go_simp;(try with_reducible rfl)
   simp only [Act.put,List.setIfInBounds_toArray,List.set_cons_zero,List.set_cons_succ]
   refine Chain.take (i:=6) (oi:=⟨some 22,_,_,_,_,_⟩) (v:=?v12) rfl (by kernel_rfl) (by kernel_rfl) (Or.inl ⟨by rfl,?y12⟩) ?rest12
   case y12=>intro w hSw;go_simp;(try with_reducible rfl)
   simp only [Act.put,List.setIfInBounds_toArray,List.set_cons_zero,List.set_cons_succ]
   refine' Chain.call (i:=7) (oi:=⟨some 23,_,_,_,_,_⟩) _ _ rfl (by kernel_rfl) (by kernel_rfl) (by rfl) ?he13 (fun w hS=>HM.out w hS) ?rest13
   case he13=>intro w;go_simp
   simp only [Act.put,List.setIfInBounds_toArray,List.set_cons_zero,List.set_cons_succ]
   refine Chain.take (i:=8) (oi:=⟨some 24,_,_,_,_,_⟩) (v:=?v14) rfl (by kernel_rfl) (by kernel_rfl) (Or.inl ⟨by rfl,?y14⟩) ?rest14
   case y14=>intro w hSw;clear hSw;go_simp;(try with_reducible rfl)
   simp only [Act.put,List.setIfInBounds_toArray,List.set_cons_zero,List.set_cons_succ]
   refine Chain.take (i:=9) (oi:=⟨some 25,_,_,_,_,_⟩) (v:=?v15) rfl (by kernel_rfl) (by kernel_rfl) (Or.inl ⟨by rfl,?y15⟩) ?rest15
   case y15=>intro w hSw;clear hSw;go_simp;(try with_reducible rfl)
   simp only [Act.put,List.setIfInBounds_toArray,List.set_cons_zero,List.set_cons_succ]
   refine Chain.last (by kernel_rfl) (fun w hSw=>?_)
   refine wpAnyH_ready (rs:=[10]) (by kernel_rfl) (by simp) ?_
   refine AllReadyH.cons (o:=⟨none,_,_,_,_,_⟩) rfl (fun K hK=>?_) AllReadyH.nil
   have g0:=hSw.out.li.free 8
   have g1:=hSw.out.li.free 9
   have g2:=rh _ hSw
   have g3:=rl _ hSw
   have M2:=Lib.hid (hSw.out.set2 (s':=(s1).withC (c0 + x.size)) 8 9 (.int .u64 (LS.hi (c0 + x.size):Int)) (.int .u64 (LS.lo (c0 + x.size):Int)) (HCs.out _ _) ⟨rfl,rfl,rfl⟩)
   clear hSw rh rl rz
   go_simp
   refine hK.out _ _ trivial (fun _=>?_)
   clear hK
   try simp only [List.setIfInBounds_toArray,List.set_cons_zero,List.set_cons_succ]
   refine wpAnyH_done (by kernel_rfl) ?_ _
   skip
   clear HM HCs g0 g1 g2 g3 M0
   generalize (w.setCell ⟨p.b,8,none⟩ (.int .u64 (LS.hi (c0 + x.size):Int))).setCell ⟨p.b,9,none⟩ (.int .u64 (LS.lo (c0 + x.size):Int))=w2 at *
   have HP:=Lib.hid (fun w k=>lx_put W p z (s1.withC (c0 + x.size)) x HOk.out.q.ok hxs.out (by have:=HOk.out.n;show s1.q.l.length≤5000;omega) w k)
   have HS2:Hid (s.sends (l.take (k + 1))=(s1.withC (c0 + x.size)).withQ ((s1.withC (c0 + x.size)).q.putQ x)):=HS
   have HK2:Hid (s.kept (l.take (k + 1))=c + (if (s1.withC (c0 + x.size)).q.putB x then 1 else 0)):=HK
   obtain ⟨z0,z1,z2,z3,z4,z5,z6⟩:=lx_pk (W:=W) (p:=p) (z:=z) (s:=s1.withC (c0 + x.size)) x
   have r5:=lx_qp (W:=W) (p:=p) (z:=z) (cs:=#[.int .u64 (x.n:Int),.int .u64 (x.size:Int),.int .u64 (x.sent:Int),.int .u64 (x.first:Int),.int .u64 (x.deliv:Int),.int .u64 (x.at_:Int),.bool x.lim]) (s:=s1.withC (c0 + x.size))
   have M3:=Lib.hid M2.out.drew
   clear HS HK HOk
   generalize s1.withC (c0 + x.size)=s2 at *
   go_wp2_with fail
   refine wp_region_chain (S:=(fun w'=>Hid (LX W p z 65 #[.int .u64 (x.n:Int),.int .u64 (x.size:Int),.int .u64 (x.sent:Int),.int .u64 (x.first:Int),.int .u64 (x.deliv:Int),.int .u64 (x.at_:Int),.bool x.lim] s2 w'))) 5 (by kernel_rfl) (by kernel_rfl) (by kernel_rfl) M3 ?_
   generalize w2.drew=wd at *
   simp only [List.size_toArray,List.length_cons,List.length_nil,Nat.reduceAdd,Array.replicate_succ,Array.replicate_zero,List.push_toArray,List.nil_append,List.cons_append]
   refine Chain.take (i:=0) (oi:=⟨some 26,_,_,_,_,_⟩) (v:=?v1) rfl (by kernel_rfl) (by kernel_rfl) (Or.inl ⟨by rfl,?y1⟩) ?rest1
   case y1=>intro w hSw;clear hSw;go_simp;(try with_reducible rfl)
   simp only [Act.put,List.setIfInBounds_toArray,List.set_cons_zero,List.set_cons_succ]
   refine Chain.take (i:=1) (oi:=⟨some 27,_,_,_,_,_⟩) (v:=?v2) rfl (by kernel_rfl) (by kernel_rfl) (Or.inl ⟨by rfl,?y2⟩) ?rest2
   case y2=>intro w hSw;clear hSw;go_simp;(try with_reducible rfl)
   simp only [Act.put,List.setIfInBounds_toArray,List.set_cons_zero,List.set_cons_succ]
   refine Chain.take (i:=2) (oi:=⟨some 28,_,_,_,_,_⟩) (v:=?v3) rfl (by kernel_rfl) (by kernel_rfl) (Or.inl ⟨by rfl,?y3⟩) ?rest3
   case y3=>intro w hSw;clear hSw;go_simp;(try with_reducible rfl)
   simp only [Act.put,List.setIfInBounds_toArray,List.set_cons_zero,List.set_cons_succ]
   refine Chain.take (i:=3) (oi:=⟨some 29,_,_,_,_,_⟩) (v:=?v4) rfl (by kernel_rfl) (by kernel_rfl) (Or.inl ⟨by rfl,?y4⟩) ?rest4
   case y4=>intro w hSw;go_simp;(try with_reducible rfl)
   simp only [Act.put,List.setIfInBounds_toArray,List.set_cons_zero,List.set_cons_succ]
   refine Chain.take (i:=4) (oi:=⟨some 30,_,_,_,_,_⟩) (v:=?v5) rfl (by kernel_rfl) (by kernel_rfl) (Or.inl ⟨by rfl,?y5⟩) ?rest5
   case y5=>intro w hSw;go_simp;(try with_reducible rfl)
   simp only [Act.put,List.setIfInBounds_toArray,List.set_cons_zero,List.set_cons_succ]
   refine Chain.last (by kernel_rfl) (fun w hSw=>?_)
   refine wpAnyH_ready (rs:=[5]) (by kernel_rfl) (by simp) ?_
   refine AllReadyH.cons (o:=⟨some 31,_,_,_,_,_⟩) rfl (fun K hK=>?_) AllReadyH.nil
   go_simp
   refine (HP.out _ hSw.out).mono ?_
   rintro e w3 ⟨rfl,M4⟩
   clear hSw M2 M3 z0 z1 z2 z3 z4 z5 z6 r5 HP
   go_wp2_with fail
   refine hK.out _ _ trivial (fun _=>?_)
   clear hK
   try simp only [List.setIfInBounds_toArray,List.set_cons_zero,List.set_cons_succ]
   refine wpAnyH_done (by kernel_rfl) ?_ _
   skip
   cases hq:s2.q.putB x with
   | true=>
     rw [hq] at HK2
     have HK3:Hid (((c:Int) + 1)=((s.kept (l.take (k + 1)):Nat):Int)):=Lib.hid (by rw [HK2.out];simp)
     have hw:IntKind.i64.wrap ((c:Int) + 1)=(c:Int) + 1:=by rw [IntKind.wrap_i64];omega
     go_wp2_with fail
     go_roundw
     case rel=>exact ⟨k + 1,by rw [HK3.out],by go_num,by omega,by rw [HS2.out];exact Lib.hid M4.out.li⟩
     case measure=>simp [intOf];omega
   | false=>
     rw [hq] at HK2
     have HK3:Hid ((c:Int)=((s.kept (l.take (k + 1)):Nat):Int)):=Lib.hid (by rw [HK2.out];simp)
     go_wp2_with fail
     go_roundw
     case rel=>exact ⟨k + 1,by rw [HK3.out],by go_num,by omega,by rw [HS2.out];exact Lib.hid M4.out.li⟩
     case measure=>simp [intOf];omega
  ·obtain rfl:k=l.length:=by omega
   rw [List.take_length] at *
   go_wp2_with fail
   go_ret
   exact ⟨rfl,HL.out⟩
end Go.Proofs.Ytaffjfajjpgjpaa

set_option linter.unusedVariables false
namespace Go.Proofs.Ytaffjfajjpgjpaa
open Go.RowKit
def LS.dcells (s:LS) (c:Nat):Array Value:=#[.pointer (some ⟨c,0,none⟩),.int .u64 (LS.told s.came:Int),.int .u64 (LS.told s.served:Int),.int .u64 (LS.told s.deliv:Int)]
structure DkAt (B:Nat) (w:World) (m c:Nat) (v u:Value) (s:LS):Prop where
 head:Blk w m 52 (s.dcells c)
 body:∃cs,Blk w c 49 cs∧cs.size=12∧KAt cs 0 s.k∧RCells cs 4 s.q v∧JCells cs 8 s.j u
 q:ROwn B w v s.q.l
 j:SOwn 95 B w u s.j.l
theorem DkAt.keep {B m c:Nat} {w w':World} {v u:Value} {s:LS} (h:DkAt B w m c v u s) (k:Below w.heap.size w w'):DkAt B w' m c v u s:=by
 obtain ⟨cs,h1,h2⟩:=h.body
 exact ⟨h.head.keep k,⟨cs,h1.keep k,h2⟩,h.q.keep k,h.j.keep k⟩
def dl (m c:Nat) (v u:Value):List Nat:=[m,c,vb v c,sb u c]
theorem DkAt.lt {B m c:Nat} {w:World} {v u:Value} {s:LS} (h:DkAt B w m c v u s):∀x∈dl m c v u,x < w.heap.size:=by
 obtain ⟨cs,h1,_⟩:=h.body
 have a1:=h.head.lt
 have a3:=h.q.lt h1.lt
 have a4:=h.j.lt h1.lt
 intro x hx
 simp only [dl,List.mem_cons,List.not_mem_nil,or_false] at hx
 rcases hx with rfl | rfl | rfl | rfl
 ·exact a1
 ·exact h1.lt
 ·exact a3
 ·exact a4
theorem DkAt.lo {B m c:Nat} {w:World} {v u:Value} {s:LS} (h:DkAt B w m c v u s) (hm:B≤m) (hc:B≤c):∀x∈dl m c v u,B≤x:=by
 have a3:=h.q.base hc
 have a4:=h.j.base hc
 intro x hx
 simp only [dl,List.mem_cons,List.not_mem_nil,or_false] at hx
 rcases hx with rfl | rfl | rfl | rfl
 ·exact hm
 ·exact hc
 ·exact a3
 ·exact a4
theorem DkAt.fr {B m c:Nat} {w w':World} {v u:Value} {s:LS} {X:List Nat} (h:DkAt B w m c v u s) (k:Fr w w' X) (hn:∀x∈dl m c v u,x ∉ X):DkAt B w' m c v u s:=by
 obtain ⟨cs,h1,h2⟩:=h.body
 have n:=hn
 simp only [dl,List.mem_cons,List.not_mem_nil,or_false] at n
 exact ⟨h.head.fr k (n m (.inl rfl)),⟨cs,h1.fr k (n c (.inr (.inl rfl))),h2⟩,h.q.fr (m:=c) k (n _ (.inr (.inr (.inl rfl)))),h.j.fr (m:=c) k (n _ (.inr (.inr (.inr rfl))))⟩
theorem DkAt.ne {B m c:Nat} {w:World} {v u:Value} {s:LS} (h:DkAt B w m c v u s):m≠c∧m≠vb v c∧m≠sb u c∧(vb v c≠sb u c∨(vb v c=c∧sb u c=c))∧(vb v c=c∨∃cur,Blk w (vb v c) 65 cur)∧(sb u c=c∨∃cur,Blk w (sb u c) 95 cur):=by
 obtain ⟨cs,h1,_⟩:=h.body
 have a1:=h.head
 have q1:vb v c=c∨∃cur,Blk w (vb v c) 65 cur:=by
  obtain ⟨hl,h⟩:=h.q
  rcases h with ⟨rfl,hn⟩ | ⟨g,cap,cur,rfl,hb,hg,hr⟩
  ·exact .inl rfl
  ·exact .inr ⟨cur,hg⟩
 have j1:=h.j.at_ (m:=c)
 have mc:m≠c:=a1.ty h1 (by decide)
 refine ⟨mc,?_,?_,?_,q1,j1⟩
 ·rcases q1 with e | ⟨cur,e⟩
  ·rw [e];exact mc
  ·exact a1.ty e (by decide)
 ·rcases j1 with e | ⟨cur,e⟩
  ·rw [e];exact mc
  ·exact a1.ty e (by decide)
 ·rcases q1 with e | ⟨cur,e⟩
  ·rcases j1 with e2 | ⟨cur2,e2⟩
   ·exact .inr ⟨e,e2⟩
   ·left;rw [e];exact h1.ty e2 (by decide)
  ·left
   rcases j1 with e2 | ⟨cur2,e2⟩
   ·rw [e2];exact e.ty h1 (by decide)
   ·exact e.ty e2 (by decide)
structure DI (B:Nat) (W:World) (m c:Nat) (v0 u0:Value) (s:LS) (w:World):Prop where
 at_:∃v u,DkAt B w m c v u s∧(vb v c=vb v0 c∨W.heap.size≤vb v c)∧(sb u c=sb u0 c∨W.heap.size≤sb u c)
 fr:Fr W w (dl m c v0 u0)
 lt:∀x∈dl m c v0 u0,x < W.heap.size
 hB:B≤W.heap.size
theorem DI.start {B m c:Nat} {W:World} {v u:Value} {s:LS} (h:DkAt B W m c v u s) (hB:B≤W.heap.size):DI B W m c v u s W:=⟨⟨v,u,h,.inl rfl,.inl rfl⟩,Fr.refl _ _,h.lt,hB⟩
theorem DI.to {B m c:Nat} {W w w':World} {v0 u0:Value} {s:LS} (h:DI B W m c v0 u0 s w) (k:Below w.heap.size w w'):DI B W m c v0 u0 s w':=by
 obtain ⟨v,u,h1,h2⟩:=h.at_
 exact ⟨⟨v,u,h1.keep k,h2⟩,h.fr.below k,h.lt,h.hB⟩
theorem kat_off {cs cs':Array Value} {o:Nat} {s:KB} (h:KAt cs o s) (he:∀i,o≤i→i < o + 4→cs'[i]? =cs[i]?):KAt cs' o s:=⟨(he _ (by omega) (by omega)).trans h.r,(he _ (by omega) (by omega)).trans h.t,(he _ (by omega) (by omega)).trans h.n,(he _ (by omega) (by omega)).trans h.w⟩
theorem rc_off {cs cs':Array Value} {o:Nat} {s:QK} {v:Value} (h:RCells cs o s v) (he:∀i,o≤i→i < o + 4→cs'[i]? =cs[i]?):RCells cs' o s v:=⟨(he _ (by omega) (by omega)).trans h.r,(he _ (by omega) (by omega)).trans h.v,(he _ (by omega) (by omega)).trans h.d,(he _ (by omega) (by omega)).trans h.g⟩
theorem jc_off {cs cs':Array Value} {o:Nat} {s:BxS} {v:Value} (h:JCells cs o s v) (he:∀i,o≤i→i < o + 4→cs'[i]? =cs[i]?):JCells cs' o s v:=⟨(he _ (by omega) (by omega)).trans h.d,(he _ (by omega) (by omega)).trans h.j,(he _ (by omega) (by omega)).trans h.v,(he _ (by omega) (by omega)).trans h.t⟩
theorem putK_off (cs:Array Value) (s:KB) (i:Nat) (hi:4≤i):(putK cs 0 s)[i]? =cs[i]?:=by
 unfold putK
 rw [Array.getElem?_setIfInBounds,if_neg (by omega),Array.getElem?_setIfInBounds,if_neg (by omega),Array.getElem?_setIfInBounds,if_neg (by omega)]
theorem putK_size (cs:Array Value) (s:KB):(putK cs 0 s).size=cs.size:=by simp [putK]
theorem DI.k {B m c:Nat} {W w w':World} {v0 u0 r:Value} {s:LS} {k':KB} {cs:Array Value} {e:Ending} {v u:Value} (h:DI B W m c v0 u0 s w) (h1:DkAt B w m c v u s) (h2:(vb v c=vb v0 c∨W.heap.size≤vb v c)∧(sb u c=sb u0 c∨W.heap.size≤sb u c)) (hc:Blk w c 49 cs) (hs:cs.size=12) (hk:KAt cs 0 s.k) (hr:RCells cs 4 s.q v) (hj:JCells cs 8 s.j u) (hr':k'.r=s.k.r) (k:KQ w c 49 cs 0 r k' e w'):DI B W m c v0 u0 (s.withK k') w':=by
 have f:Fr w w' [c]:=fr_gr k.gr (fun x hx=>by cases hx;simp)
 obtain ⟨n1,n2,n3,n4,n5,n6⟩:=h1.ne
 refine ⟨⟨v,u,⟨h1.head.fr f (nm1 n1),⟨_,k.blk,(putK_size _ _).trans hs,hk.put hr',rc_off hr (fun i a b=>putK_off _ _ i a),jc_off hj (fun i a b=>putK_off _ _ i (by omega))⟩,?_,?_⟩,h2⟩,h.fr.trans f (fun x hx=>by simp [dl] at hx ⊢;omega),h.lt,h.hB⟩
 ·exact h1.q.blk (fun g ds _ hg=>hg.fr f (nm1 (hg.ty hc (by decide))))
 ·exact h1.j.blk (fun g ds _ hg=>hg.fr f (nm1 (hg.ty hc (by decide))))
end Go.Proofs.Ytaffjfajjpgjpaa

set_option linter.unusedVariables false
namespace Go.Proofs.Ytaffjfajjpgjpaa
open Go.RowKit
theorem nm2 {a x y:Nat} (h:a≠x) (k:a≠y):a ∉ [x,y]:=by simp [h,k]
theorem DI.q {B m c:Nat} {W w w':World} {v0 u0 r:Value} {s:LS} {q':QK} {cs:Array Value} {e:Ending} {v u:Value} (h:DI B W m c v0 u0 s w) (h1:DkAt B w m c v u s) (h2:(vb v c=vb v0 c∨W.heap.size≤vb v c)∧(sb u c=sb u0 c∨W.heap.size≤sb u c)) (hc:Blk w c 49 cs) (hs:cs.size=12) (hk:KAt cs 0 s.k) (hj:JCells cs 8 s.j u) (k:RQPost w c 4 B 49 cs v r q' e w'):DI B W m c v0 u0 (s.withQ q') w':=by
 obtain ⟨n1,n2,n3,n4,n5,n6⟩:=h1.ne
 obtain ⟨v',cs',k1,k2,k3,k4,k5,k6⟩:=k.at_
 have f:=k.fr
 have sz:=h.fr.size
 refine ⟨⟨v',u,⟨h1.head.fr f (nm2 n1 n2),⟨cs',k1,k3.trans hs,kat_off hk (fun i a b=>k4 i (by omega)),k2,jc_off hj (fun i a b=>k4 i (by omega))⟩,k5,?_⟩,by omega,h2.2⟩,h.fr.trans f (fun x hx=>by simp [dl] at hx ⊢;omega),h.lt,h.hB⟩
 exact h1.j.blk (fun g ds _ hg=>hg.fr f (nm2 (hg.ty hc (by decide)) (by
  rcases n5 with e | ⟨cur,e⟩
  ·rw [e];exact hg.ty hc (by decide)
  ·exact hg.ty e (by decide))))
theorem DI.j {B m c:Nat} {W w w':World} {v0 u0:Value} {s:LS} {j':BxS} {cs:Array Value} {v u:Value} (h:DI B W m c v0 u0 s w) (h1:DkAt B w m c v u s) (h2:(vb v c=vb v0 c∨W.heap.size≤vb v c)∧(sb u c=sb u0 c∨W.heap.size≤sb u c)) (hc:Blk w c 49 cs) (hs:cs.size=12) (hk:KAt cs 0 s.k) (hr:RCells cs 4 s.q v) (k:∃u' cs',Blk w' c 49 cs'∧JCells cs' 8 j' u'∧cs'.size=cs.size∧(∀i,i < 8∨8 + 4≤i→cs'[i]? =cs[i]?)∧SOwn 95 B w' u' j'.l∧(sb u' c=sb u c∨w.heap.size≤sb u' c)) (f:Fr w w' [c,sb u c]):DI B W m c v0 u0 (s.withJ j') w':=by
 obtain ⟨n1,n2,n3,n4,n5,n6⟩:=h1.ne
 obtain ⟨u',cs',k1,k2,k3,k4,k5,k6⟩:=k
 have sz:=h.fr.size
 refine ⟨⟨v,u',⟨h1.head.fr f (nm2 n1 n3),⟨cs',k1,k3.trans hs,kat_off hk (fun i a b=>k4 i (by omega)),rc_off hr (fun i a b=>k4 i (by omega)),k2⟩,?_,k5⟩,h2.1,by omega⟩,h.fr.trans f (fun x hx=>by simp [dl] at hx ⊢;omega),h.lt,h.hB⟩
 exact h1.q.blk (fun g ds _ hg=>hg.fr f (nm2 (hg.ty hc (by decide)) (by
  rcases n6 with e | ⟨cur,e⟩
  ·rw [e];exact hg.ty hc (by decide)
  ·exact hg.ty e (by decide))))
theorem DI.set {B m c:Nat} {W w:World} {v0 u0:Value} {s s':LS} (h:DI B W m c v0 u0 s w) (i:Nat) (x:Value) (he:(s.dcells c).setIfInBounds i x=s'.dcells c) (h3:s.k=s'.k∧s.q=s'.q∧s.j=s'.j):DI B W m c v0 u0 s' (w.setCell ⟨m,i,none⟩ x):=by
 obtain ⟨v,u,h1,h2⟩:=h.at_
 obtain ⟨n1,n2,n3,n4,n5,n6⟩:=h1.ne
 obtain ⟨cs,hc,hs,hk,hr,hj⟩:=h1.body
 obtain ⟨e1,e2,e3⟩:=h3
 have f:Fr w (w.setCell ⟨m,i,none⟩ x) [m]:=(Fr.refl _ _).set (.inl (by simp)) i x
 exact ⟨⟨v,u,⟨he▸h1.head.set i x,⟨cs,hc.fr f (nm1 (Ne.symm n1)),hs,e1▸hk,e2▸hr,e3▸hj⟩,e2▸h1.q.fr (m:=c) f (nm1 (Ne.symm n2)),e3▸h1.j.fr (m:=c) f (nm1 (Ne.symm n3))⟩,h2⟩,h.fr.trans f (fun y hy=>by simp [dl] at hy ⊢;omega),h.lt,h.hB⟩
theorem DI.cells {B m c:Nat} {W w:World} {v0 u0:Value} {s:LS} (h:DI B W m c v0 u0 s w):w.cell? ⟨m,0,none⟩=some (.pointer (some ⟨c,0,none⟩))∧w.cell? ⟨m,1,none⟩=some (.int .u64 (LS.told s.came:Int))∧w.cell? ⟨m,2,none⟩=some (.int .u64 (LS.told s.served:Int))∧w.cell? ⟨m,3,none⟩=some (.int .u64 (LS.told s.deliv:Int))∧∀i,w.frozen? ⟨m,i,none⟩=false:=by
 obtain ⟨v,u,h1,_⟩:=h.at_
 exact ⟨h1.head.cell rfl,h1.head.cell rfl,h1.head.cell rfl,h1.head.cell rfl,fun i=>h1.head.free i⟩
theorem sumQ_all:∀(l:List Pk) (a:Nat),a≤18446744073709551615→l.foldl (fun a p=>Pl.addS a p.size) a=min (a + totP l) 18446744073709551615
 | [],a,h=>by rw [totP_nil];show a=_;omega
 | p :: t,a,h=>by
   rw [List.foldl_cons,sumQ_all t _ (Pl.addS_le _ _),totP_cons]
   unfold Pl.addS
   omega
theorem QInv.sum {q:QK} (h:QInv q):sumQ q.l=q.n:=by
 have h1:=h.ok.n
 have h2:=h.n
 unfold sumQ
 rw [sumQ_all _ _ (Nat.zero_le _),← h2]
 omega
theorem told_add (a b:Nat):Pl.addS (LS.told a) b=LS.told (a + b):=by unfold Pl.addS LS.told;omega
theorem told_le (a:Nat):LS.told a≤18446744073709551615:=Nat.min_le_right _ _
theorem dset_came (s:LS) (x c:Nat):(s.dcells c).setIfInBounds 1 (.int .u64 (LS.told x:Int))=(s.withC x).dcells c:=rfl
theorem di_Put (B:Nat) (W:World) (m c:Nat) (v0 u0:Value) (s:LS) (x:Pk) (ho:QInv s.q) (hp:x.size≤18446744073709551615) (hk:s.q.l.length≤5000) (w:World) (h:DI B W m c v0 u0 s w):
  Calls Try.prog 32 #[.pointer (some ⟨c,4,none⟩),.agg #[.int .u64 (x.n:Int),.int .u64 (x.size:Int),.int .u64 (x.sent:Int),.int .u64 (x.first:Int),.int .u64 (x.deliv:Int),.int .u64 (x.at_:Int),.bool x.lim]] w fun e w'=>e=.returned (.bool (s.q.putB x))∧Hid (DI B W m c v0 u0 (s.withQ (s.q.putQ x)) w'):=by
 obtain ⟨v,u,h1,h2⟩:=h.at_
 obtain ⟨cs,hc,hs,hka,hr,hj⟩:=h1.body
 exact (rq_Put c 4 B 49 cs v x s.q w (by decide) (Nat.le_trans h.hB h.fr.size) hc hr h1.q ho.ok hk hp ho.sum ho.le).mono fun e w' k=>⟨k.e,Lib.hid (h.q h1 h2 hc hs hka hj k)⟩
set_option maxRecDepth 100000 in
set_option maxHeartbeats 1000000 in
theorem dk_Send (B m c:Nat) (v0 u0:Value) (s:LS) (N:Nat) (l:List Pk) (ao:Option Addr) (cap:Nat) (W:World) (h:DkAt B W m c v0 u0 s) (hB:B≤W.heap.size) (ho:s.ok N) (hi:Its W ao l) (ha:0 < l.length→Apart ao (dl m c v0 u0)) (hz:∀x∈l,x.size≤18446744073709551615) (hN:N + l.length≤5000):
  Calls Try.prog 16 #[.pointer (some ⟨m,0,none⟩),.slice ao l.length cap] W fun e w'=>e=.returned (.int .i64 (s.kept l:Int))∧Hid (DI B W m c v0 u0 (s.sends l) w'):=by
 have H0:=Lib.hid (DI.start h hB)
 have HI:=Lib.hid hi
 have HO:=Lib.hid (fun k (hk:k≤l.length)=>(LS.ok.sends (l:=l.take k) ho (fun x hx=>hz x (List.mem_of_mem_take hx))).more (M:=5000) (by rw [List.length_take];omega))
 have HZ:=Lib.hid hz
 clear h ho hi hz
 go_enter Try.func16,Try.ntmps16
 go_wp2_with fail
 go_loopw [5,6] (fun d i wr=>∃k:Nat,d=.int .i64 ((s.kept (l.take k):Nat):Int)∧i=.int .i64 (k:Int)∧k≤l.length∧Hid (DI B W m c v0 u0 (s.sends (l.take k)) wr)) (fun _ i _=>l.length - (intOf i).toNat)
 case atStart=>exact ⟨0,rfl,rfl,Nat.zero_le _,H0⟩
 case round=>
  obtain ⟨k,rfl,rfl,hk,HL⟩:=hrel
  by_cases hlt:k < l.length
  ·obtain ⟨ad,rfl,_⟩:=HI.out.cells (by omega)
   obtain ⟨x,hx⟩:∃x,x=l.getD k Itm.z:=⟨_,rfl⟩
   obtain ⟨g,off,e0⟩:∃g off,ad=⟨g,off,none⟩:=by obtain ⟨g,off,rfl,_⟩:=its_pk HI.out (by omega);exact ⟨g,off,rfl⟩
   subst e0
   have HZc:Hid (∀w,Fr W w (dl m c v0 u0)→w.cell? ⟨g,off + k * 7,none⟩=some (.int .u64 (x.n:Int))∧w.cell? ⟨g,off + k * 7 + 1,none⟩=some (.int .u64 (x.size:Int))∧w.cell? ⟨g,off + k * 7 + 2,none⟩=some (.int .u64 (x.sent:Int))∧w.cell? ⟨g,off + k * 7 + 3,none⟩=some (.int .u64 (x.first:Int))∧w.cell? ⟨g,off + k * 7 + 4,none⟩=some (.int .u64 (x.deliv:Int))∧w.cell? ⟨g,off + k * 7 + 5,none⟩=some (.int .u64 (x.at_:Int))∧w.cell? ⟨g,off + k * 7 + 6,none⟩=some (.bool x.lim)):=Lib.hid (fun w f=>by
    obtain ⟨g',off',e1,_,hc⟩:=its_pk (HI.out.frl f (ha (by omega))) (by omega)
    cases e1
    exact hc k hlt x hx)
   have HT:=Lib.hid (take_snoc l k hlt x hx)
   have hxm:x∈l:=by rw [hx];simp [hlt]
   have hxs:=Lib.hid (HZ.out x hxm)
   have HK:Hid (s.kept (l.take (k + 1))=s.kept (l.take k) + (if (s.sends (l.take k)).q.putB x then 1 else 0)):=Lib.hid (by rw [HT.out];exact kept_snoc _ _ _)
   have HS:Hid (s.sends (l.take (k + 1))=((s.sends (l.take k)).withC ((s.sends (l.take k)).came + x.size)).withQ ((s.sends (l.take k)).q.putQ x)):=Lib.hid (by rw [HT.out,sends_snoc];exact send1_with _ _)
   have hkl:s.kept (l.take k)≤5000:=Nat.le_trans (kept_le _ _) (by rw [List.length_take];omega)
   have HOk:=Lib.hid (HO.out k hk)
   have i0:(0:Int)≤(k:Int):=by omega
   have i1:(k:Int) < (l.length:Int):=by omega
   clear hx hxm HT HZ HO H0
   generalize s.kept (l.take k)=d at *
   generalize s.sends (l.take k)=s1 at *
   obtain ⟨c0,hc0⟩:∃c0,c0=s1.came:=⟨_,rfl⟩
   have HA:Hid (∀w,Calls Try.prog 10 #[.int .u64 (LS.told c0:Int),.int .u64 (x.size:Int)] w fun e w'=>e=.returned (.int .u64 (LS.told (c0 + x.size):Int))∧w=w'):=Lib.hid (fun w=>by rw [← told_add];exact ref_Add (LS.told c0) x.size w (told_le _) hxs.out)
   have HCs:Hid (∀c,(s1.dcells c).setIfInBounds 1 (.int .u64 (LS.told (c0 + x.size):Int))=(s1.withC (c0 + x.size)).dcells c):=Lib.hid (fun c=>dset_came s1 _ c)
   have rh:∀w,Hid (DI B W m c v0 u0 s1 w)→w.cell? ⟨m,1,none⟩=some (.int .u64 (LS.told c0:Int)):=fun w h=>by rw [hc0];exact h.out.cells.2.1
   have rz:∀w,Hid (DI B W m c v0 u0 s1 w)→w.cell? ⟨g,off + k * 7 + 1,none⟩=some (.int .u64 (x.size:Int)):=fun w h=>(HZc.out w h.out.fr).2.1
   rw [← hc0] at HS
   clear hc0
   have M0:Hid (DI B W m c v0 u0 s1 wr.drew):=Lib.hid (HL.out.to ((Drawn.drew _).below _))
   clear HL
   go_wp2_with fail
   refine wp_region_chain (S:=(fun w'=>Hid (DI B W m c v0 u0 s1 w'))) 13 (by kernel_rfl) (by kernel_rfl) (by kernel_rfl) M0 ?_
   generalize wr.drew=wd at *
   simp only [List.size_toArray,List.length_cons,List.length_nil,Nat.reduceAdd,Array.replicate_succ,Array.replicate_zero,List.push_toArray,List.nil_append,List.cons_append]
   refine Chain.take (i:=0) (oi:=⟨some 14,_,_,_,_,_⟩) (v:=?v1) rfl (by kernel_rfl) (by kernel_rfl) (Or.inl ⟨by rfl,?y1⟩) ?rest1
   case y1=>intro w hSw;clear hSw;go_simp;(try with_reducible rfl)
   simp only [Act.put,List.setIfInBounds_toArray,List.set_cons_zero,List.set_cons_succ]
   refine Chain.take (i:=1) (oi:=⟨some 15,_,_,_,_,_⟩) (v:=?v2) rfl (by kernel_rfl) (by kernel_rfl) (Or.inl ⟨by rfl,?y2⟩) ?rest2
   case y2=>intro w hSw;clear hSw;go_simp;(try with_reducible rfl)
   simp only [Act.put,List.setIfInBounds_toArray,List.set_cons_zero,List.set_cons_succ]
   refine Chain.take (i:=2) (oi:=⟨some 16,_,_,_,_,_⟩) (v:=?v3) rfl (by kernel_rfl) (by kernel_rfl) (Or.inl ⟨by rfl,?y3⟩) ?rest3
   case y3=>intro w hSw;clear hSw;go_simp;(try with_reducible rfl)
   simp only [Act.put,List.setIfInBounds_toArray,List.set_cons_zero,List.set_cons_succ]
   refine Chain.take (i:=3) (oi:=⟨some 17,_,_,_,_,_⟩) (v:=?v4) rfl (by kernel_rfl) (by kernel_rfl) (Or.inl ⟨by rfl,?y4⟩) ?rest4
   case y4=>intro w hSw;clear hSw;go_simp;(try with_reducible rfl)
   simp only [Act.put,List.setIfInBounds_toArray,List.set_cons_zero,List.set_cons_succ]
   refine Chain.take (i:=4) (oi:=⟨some 18,_,_,_,_,_⟩) (v:=?v5) rfl (by kernel_rfl) (by kernel_rfl) (Or.inl ⟨by rfl,?y5⟩) ?rest5
   case y5=>intro w hSw;go_simp;(try with_reducible rfl)
   simp only [Act.put,List.setIfInBounds_toArray,List.set_cons_zero,List.set_cons_succ]
   refine Chain.take (i:=5) (oi:=⟨some 19,_,_,_,_,_⟩) (v:=?v6) rfl (by kernel_rfl) (by kernel_rfl) (Or.inl ⟨by rfl,?y6⟩) ?rest6
   case y6=>intro w hSw;clear hSw;go_simp;(try with_reducible rfl)
   simp only [Act.put,List.setIfInBounds_toArray,List.set_cons_zero,List.set_cons_succ]
   refine Chain.take (i:=6) (oi:=⟨some 20,_,_,_,_,_⟩) (v:=?v7) rfl (by kernel_rfl) (by kernel_rfl) (Or.inl ⟨by rfl,?y7⟩) ?rest7
   case y7=>intro w hSw;clear hSw;go_simp;(try with_reducible rfl)
   simp only [Act.put,List.setIfInBounds_toArray,List.set_cons_zero,List.set_cons_succ]
   refine Chain.take (i:=7) (oi:=⟨some 21,_,_,_,_,_⟩) (v:=?v8) rfl (by kernel_rfl) (by kernel_rfl) (Or.inl ⟨by rfl,?y8⟩) ?rest8
   case y8=>intro w hSw;clear hSw;go_simp;(try with_reducible rfl)
   simp only [Act.put,List.setIfInBounds_toArray,List.set_cons_zero,List.set_cons_succ]
   refine Chain.take (i:=8) (oi:=⟨some 22,_,_,_,_,_⟩) (v:=?v9) rfl (by kernel_rfl) (by kernel_rfl) (Or.inl ⟨by rfl,?y9⟩) ?rest9
   case y9=>intro w hSw;clear hSw;go_simp;(try with_reducible rfl)
   simp only [Act.put,List.setIfInBounds_toArray,List.set_cons_zero,List.set_cons_succ]
   refine Chain.take (i:=9) (oi:=⟨some 23,_,_,_,_,_⟩) (v:=?v10) rfl (by kernel_rfl) (by kernel_rfl) (Or.inl ⟨by rfl,?y10⟩) ?rest10
   case y10=>intro w hSw;go_simp;(try with_reducible rfl)
   simp only [Act.put,List.setIfInBounds_toArray,List.set_cons_zero,List.set_cons_succ]
   refine' Chain.call (i:=10) (oi:=⟨some 24,_,_,_,_,_⟩) _ _ rfl (by kernel_rfl) (by kernel_rfl) (by rfl) ?he11 (fun w hS=>(HA.out w).mono fun e w' q=>And.intro q.1 (q.2▸hS)) ?rest11
   case he11=>intro w;go_simp
   simp only [Act.put,List.setIfInBounds_toArray,List.set_cons_zero,List.set_cons_succ]
   refine Chain.take (i:=11) (oi:=⟨some 25,_,_,_,_,_⟩) (v:=?v12) rfl (by kernel_rfl) (by kernel_rfl) (Or.inl ⟨by rfl,?y12⟩) ?rest12
   case y12=>intro w hSw;clear hSw;go_simp;(try with_reducible rfl)
   simp only [Act.put,List.setIfInBounds_toArray,List.set_cons_zero,List.set_cons_succ]
   refine Chain.take (i:=12) (oi:=⟨some 26,_,_,_,_,_⟩) (v:=?v13) rfl (by kernel_rfl) (by kernel_rfl) (Or.inl ⟨by rfl,?y13⟩) ?rest13
   case y13=>intro w hSw;clear hSw;go_simp;(try with_reducible rfl)
   simp only [Act.put,List.setIfInBounds_toArray,List.set_cons_zero,List.set_cons_succ]
   refine Chain.last (by kernel_rfl) (fun w hSw=>?_)
   refine wpAnyH_ready (rs:=[13]) (by kernel_rfl) (by simp) ?_
   refine AllReadyH.cons (o:=⟨none,_,_,_,_,_⟩) rfl (fun K hK=>?_) AllReadyH.nil
   have g0:=hSw.out.cells.2.2.2.2 1
   have g2:=rh _ hSw
   have M2:=Lib.hid (hSw.out.set 1 (.int .u64 (LS.told (c0 + x.size):Int)) (HCs.out _) ⟨rfl,rfl,rfl⟩)
   clear hSw rh rz
   go_simp
   refine hK.out _ _ trivial (fun _=>?_)
   clear hK
   try simp only [List.setIfInBounds_toArray,List.set_cons_zero,List.set_cons_succ]
   refine wpAnyH_done (by kernel_rfl) ?_ _
   skip
   clear HA HCs g0 g2 M0
   generalize w.setCell ⟨m,1,none⟩ (.int .u64 (LS.told (c0 + x.size):Int))=w2 at *
   have HP:=Lib.hid (fun w k=>di_Put B W m c v0 u0 (s1.withC (c0 + x.size)) x HOk.out.q hxs.out (by have:=HOk.out.n;show s1.q.l.length≤5000;omega) w k)
   have HS2:Hid (s.sends (l.take (k + 1))=(s1.withC (c0 + x.size)).withQ ((s1.withC (c0 + x.size)).q.putQ x)):=HS
   have HK2:Hid (s.kept (l.take (k + 1))=d + (if (s1.withC (c0 + x.size)).q.putB x then 1 else 0)):=HK
   have M3:=Lib.hid (M2.out.to ((Drawn.drew _).below _))
   clear HS HK HOk M2
   generalize s1.withC (c0 + x.size)=s2 at *
   have r0:∀w,Hid (DI B W m c v0 u0 s2 w)→w.cell? ⟨m,0,none⟩=some (.pointer (some ⟨c,0,none⟩)):=fun w h=>h.out.cells.1
   have z0:∀w,Hid (DI B W m c v0 u0 s2 w)→w.cell? ⟨g,off + k * 7,none⟩=some (.int .u64 (x.n:Int)):=fun w h=>(HZc.out w h.out.fr).1
   have z1:∀w,Hid (DI B W m c v0 u0 s2 w)→w.cell? ⟨g,off + k * 7 + 1,none⟩=some (.int .u64 (x.size:Int)):=fun w h=>(HZc.out w h.out.fr).2.1
   have z2:∀w,Hid (DI B W m c v0 u0 s2 w)→w.cell? ⟨g,off + k * 7 + 2,none⟩=some (.int .u64 (x.sent:Int)):=fun w h=>(HZc.out w h.out.fr).2.2.1
   have z3:∀w,Hid (DI B W m c v0 u0 s2 w)→w.cell? ⟨g,off + k * 7 + 3,none⟩=some (.int .u64 (x.first:Int)):=fun w h=>(HZc.out w h.out.fr).2.2.2.1
   have z4:∀w,Hid (DI B W m c v0 u0 s2 w)→w.cell? ⟨g,off + k * 7 + 4,none⟩=some (.int .u64 (x.deliv:Int)):=fun w h=>(HZc.out w h.out.fr).2.2.2.2.1
   have z5:∀w,Hid (DI B W m c v0 u0 s2 w)→w.cell? ⟨g,off + k * 7 + 5,none⟩=some (.int .u64 (x.at_:Int)):=fun w h=>(HZc.out w h.out.fr).2.2.2.2.2.1
   have z6:∀w,Hid (DI B W m c v0 u0 s2 w)→w.cell? ⟨g,off + k * 7 + 6,none⟩=some (.bool x.lim):=fun w h=>(HZc.out w h.out.fr).2.2.2.2.2.2
   go_wp2_with fail
   refine wp_region_chain (S:=(fun w'=>Hid (DI B W m c v0 u0 s2 w'))) 10 (by kernel_rfl) (by kernel_rfl) (by kernel_rfl) M3 ?_
   generalize w2.drew=wd at *
   simp only [List.size_toArray,List.length_cons,List.length_nil,Nat.reduceAdd,Array.replicate_succ,Array.replicate_zero,List.push_toArray,List.nil_append,List.cons_append]
   refine Chain.take (i:=0) (oi:=⟨some 27,_,_,_,_,_⟩) (v:=?v14) rfl (by kernel_rfl) (by kernel_rfl) (Or.inl ⟨by rfl,?y14⟩) ?rest14
   case y14=>intro w hSw;clear hSw;go_simp;(try with_reducible rfl)
   simp only [Act.put,List.setIfInBounds_toArray,List.set_cons_zero,List.set_cons_succ]
   refine Chain.take (i:=1) (oi:=⟨some 28,_,_,_,_,_⟩) (v:=?v15) rfl (by kernel_rfl) (by kernel_rfl) (Or.inl ⟨by rfl,?y15⟩) ?rest15
   case y15=>intro w hSw;clear hSw;go_simp;(try with_reducible rfl)
   simp only [Act.put,List.setIfInBounds_toArray,List.set_cons_zero,List.set_cons_succ]
   refine Chain.take (i:=2) (oi:=⟨some 29,_,_,_,_,_⟩) (v:=?v16) rfl (by kernel_rfl) (by kernel_rfl) (Or.inl ⟨by rfl,?y16⟩) ?rest16
   case y16=>intro w hSw;clear hSw;go_simp;(try with_reducible rfl)
   simp only [Act.put,List.setIfInBounds_toArray,List.set_cons_zero,List.set_cons_succ]
   refine Chain.take (i:=3) (oi:=⟨some 30,_,_,_,_,_⟩) (v:=?v17) rfl (by kernel_rfl) (by kernel_rfl) (Or.inl ⟨by rfl,?y17⟩) ?rest17
   case y17=>intro w hSw;go_simp;(try with_reducible rfl)
   simp only [Act.put,List.setIfInBounds_toArray,List.set_cons_zero,List.set_cons_succ]
   refine Chain.take (i:=4) (oi:=⟨some 31,_,_,_,_,_⟩) (v:=?v18) rfl (by kernel_rfl) (by kernel_rfl) (Or.inl ⟨by rfl,?y18⟩) ?rest18
   case y18=>intro w hSw;clear hSw;go_simp;(try with_reducible rfl)
   simp only [Act.put,List.setIfInBounds_toArray,List.set_cons_zero,List.set_cons_succ]
   refine Chain.take (i:=5) (oi:=⟨some 32,_,_,_,_,_⟩) (v:=?v19) rfl (by kernel_rfl) (by kernel_rfl) (Or.inl ⟨by rfl,?y19⟩) ?rest19
   case y19=>intro w hSw;clear hSw;go_simp;(try with_reducible rfl)
   simp only [Act.put,List.setIfInBounds_toArray,List.set_cons_zero,List.set_cons_succ]
   refine Chain.take (i:=6) (oi:=⟨some 33,_,_,_,_,_⟩) (v:=?v20) rfl (by kernel_rfl) (by kernel_rfl) (Or.inl ⟨by rfl,?y20⟩) ?rest20
   case y20=>intro w hSw;clear hSw;go_simp;(try with_reducible rfl)
   simp only [Act.put,List.setIfInBounds_toArray,List.set_cons_zero,List.set_cons_succ]
   refine Chain.take (i:=7) (oi:=⟨some 34,_,_,_,_,_⟩) (v:=?v21) rfl (by kernel_rfl) (by kernel_rfl) (Or.inl ⟨by rfl,?y21⟩) ?rest21
   case y21=>intro w hSw;clear hSw;go_simp;(try with_reducible rfl)
   simp only [Act.put,List.setIfInBounds_toArray,List.set_cons_zero,List.set_cons_succ]
   refine Chain.take (i:=8) (oi:=⟨some 35,_,_,_,_,_⟩) (v:=?v22) rfl (by kernel_rfl) (by kernel_rfl) (Or.inl ⟨by rfl,?y22⟩) ?rest22
   case y22=>intro w hSw;clear hSw;go_simp;(try with_reducible rfl)
   simp only [Act.put,List.setIfInBounds_toArray,List.set_cons_zero,List.set_cons_succ]
   refine Chain.take (i:=9) (oi:=⟨some 36,_,_,_,_,_⟩) (v:=?v23) rfl (by kernel_rfl) (by kernel_rfl) (Or.inl ⟨by rfl,?y23⟩) ?rest23
   case y23=>intro w hSw;go_simp;(try with_reducible rfl)
   simp only [Act.put,List.setIfInBounds_toArray,List.set_cons_zero,List.set_cons_succ]
   refine Chain.last (by kernel_rfl) (fun w hSw=>?_)
   refine wpAnyH_ready (rs:=[10]) (by kernel_rfl) (by simp) ?_
   refine AllReadyH.cons (o:=⟨some 37,_,_,_,_,_⟩) rfl (fun K hK=>?_) AllReadyH.nil
   go_simp
   refine (HP.out _ hSw.out).mono ?_
   rintro e w4 ⟨rfl,M4⟩
   clear hSw M3 HP r0 z0 z1 z2 z3 z4 z5 z6
   go_wp2_with fail
   refine hK.out _ _ trivial (fun _=>?_)
   clear hK
   try simp only [List.setIfInBounds_toArray,List.set_cons_zero,List.set_cons_succ]
   refine wpAnyH_take (i:=11) (oi:=⟨some 7,_,_,_,_,_⟩) (v:=?v24) rfl (by kernel_rfl) (by kernel_rfl) (by kernel_rfl) (fun _ _ _ h=>h) (Or.inl ⟨by rfl,?y24⟩) trivial ?rest24
   case y24=>intro w hSw;clear hSw;go_simp;(try with_reducible rfl)
   simp only [Act.put,List.setIfInBounds_toArray,List.set_cons_zero,List.set_cons_succ]
   refine wpAnyH_done (by kernel_rfl) ?_ _
   skip
   cases hq:s2.q.putB x with
   | true=>
     rw [hq] at HK2
     have HK3:Hid (((d:Int) + 1)=((s.kept (l.take (k + 1)):Nat):Int)):=Lib.hid (by rw [HK2.out];simp)
     have hw:IntKind.i64.wrap ((d:Int) + 1)=(d:Int) + 1:=by rw [IntKind.wrap_i64];omega
     go_wp2_with fail
     go_roundw
     case rel=>exact ⟨k + 1,by rw [HK3.out],by go_num,by omega,by rw [HS2.out];exact M4⟩
     case measure=>simp [intOf];omega
   | false=>
     rw [hq] at HK2
     have HK3:Hid ((d:Int)=((s.kept (l.take (k + 1)):Nat):Int)):=Lib.hid (by rw [HK2.out];simp)
     go_wp2_with fail
     go_roundw
     case rel=>exact ⟨k + 1,by rw [HK3.out],by go_num,by omega,by rw [HS2.out];exact M4⟩
     case measure=>simp [intOf];omega
  ·obtain rfl:k=l.length:=by omega
   rw [List.take_length] at *
   go_wp2_with fail
   go_ret
   exact ⟨rfl,HL⟩
end Go.Proofs.Ytaffjfajjpgjpaa
