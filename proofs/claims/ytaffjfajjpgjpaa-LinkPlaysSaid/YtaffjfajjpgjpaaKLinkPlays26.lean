/- 1 texts put together: what each one says stands ahead of it. -/
import Derived.Test.YtaffjfajjpgjpaaKLinkPlays25
import Derived.Deep.RegionHeld3
import Derived.Laws.StructEq
import Derived.Test.YtaffjfajjpgjpaaKLinkPlays18
set_option linter.unusedVariables false
namespace Go.Proofs.Ytaffjfajjpgjpaa
open Go.RowKit
structure SP (W w:World) (p:PL) (B m c:Nat) (v u:Value) (s:LS) (z:Nat):Prop where
 a:LkAt w p s
 d:DkAt B w m c v u s
 z:Blk w z 69 #[.int .u64 (LS.told s.came:Int),.int .u64 (s.q.lost:Int),.int .u64 (s.q.n:Int),.int .u64 (LS.told s.served:Int),.int .u64 (LS.told (s.served - s.deliv):Int),.int .u64 (LS.told s.deliv:Int)]
 bel:Below W.heap.size W w
theorem SP.to {W w w':World} {p:PL} {B m c z:Nat} {v u:Value} {s:LS} (h:SP W w p B m c v u s z) (k:Below w.heap.size w w'):SP W w' p B m c v u s z:=⟨h.a.keep k,h.d.keep k,h.z.keep k,bel_to h.bel k h.bel.size⟩
theorem one_way {P:Program} {c:Code} {Q:Exit→Act→World→Prop} {A:Act} {W:World} (a0:Act) (w0:World) (h:c.wp P (fun e a w=>e=.normal∧a=a0∧w=w0) A W) (hq:Q .normal a0 w0):c.wp P Q A W:=
 Code.wp_mono (fun e a w q=>by obtain ⟨rfl,rfl,rfl⟩:=q;exact hq) h
theorem dk_rules {B m c:Nat} {v u:Value} {s:LS}:(∀w,Hid (DkAt B w m c v u s)→w.cell? ⟨m,0,none⟩=some (.pointer (some ⟨c,0,none⟩)))∧(∀w,Hid (DkAt B w m c v u s)→w.cell? ⟨m,1,none⟩=some (.int .u64 (LS.told s.came:Int)))∧(∀w,Hid (DkAt B w m c v u s)→w.cell? ⟨m,2,none⟩=some (.int .u64 (LS.told s.served:Int)))∧(∀w,Hid (DkAt B w m c v u s)→w.cell? ⟨m,3,none⟩=some (.int .u64 (LS.told s.deliv:Int)))∧(∀w,Hid (DkAt B w m c v u s)→w.cell? ⟨c,7,none⟩=some (.int .u64 (s.q.lost:Int)))∧(∀w,Hid (DkAt B w m c v u s)→w.cell? ⟨c,2,none⟩=some (.int .u64 (s.k.n:Int)))∧(∀w,Hid (DkAt B w m c v u s)→w.cell? ⟨c,3,none⟩=some (.int .u64 (s.k.w:Int)))∧(∀w,Hid (DkAt B w m c v u s)→w.cell? ⟨c,1,none⟩=some (.int .u64 (s.k.t:Int)))∧(∀w,Hid (DkAt B w m c v u s)→w.cell? ⟨c,10,none⟩=some u):=
 ⟨fun w h=>h.out.head.cell rfl,fun w h=>h.out.head.cell rfl,fun w h=>h.out.head.cell rfl,fun w h=>h.out.head.cell rfl,
  fun w h=>by obtain ⟨cs,h1,h2,h3,h4,h5⟩:=h.out.body;exact h1.cell h4.g,
  fun w h=>by obtain ⟨cs,h1,h2,h3,h4,h5⟩:=h.out.body;exact h1.cell h3.n,
  fun w h=>by obtain ⟨cs,h1,h2,h3,h4,h5⟩:=h.out.body;exact h1.cell h3.w,
  fun w h=>by obtain ⟨cs,h1,h2,h3,h4,h5⟩:=h.out.body;exact h1.cell h3.t,
  fun w h=>by obtain ⟨cs,h1,h2,h3,h4,h5⟩:=h.out.body;exact h1.cell h5.v⟩
theorem sp_rules {W:World} {p:PL} {B m c z:Nat} {v u:Value} {s:LS}:(∀w,Hid (SP W w p B m c v u s z)→w.cell? ⟨m,0,none⟩=some (.pointer (some ⟨c,0,none⟩)))∧(∀w,Hid (SP W w p B m c v u s z)→w.cell? ⟨c,2,none⟩=some (.int .u64 (s.k.n:Int)))∧(∀w,Hid (SP W w p B m c v u s z)→w.cell? ⟨c,3,none⟩=some (.int .u64 (s.k.w:Int)))∧(∀w,Hid (SP W w p B m c v u s z)→w.cell? ⟨c,1,none⟩=some (.int .u64 (s.k.t:Int)))∧(∀w,Hid (SP W w p B m c v u s z)→w.cell? ⟨c,10,none⟩=some u)∧(∀w,Hid (SP W w p B m c v u s z)→w.cell? ⟨z,0,none⟩=some (.int .u64 (LS.told s.came:Int)))∧(∀w,Hid (SP W w p B m c v u s z)→w.cell? ⟨z,1,none⟩=some (.int .u64 (s.q.lost:Int)))∧(∀w,Hid (SP W w p B m c v u s z)→w.cell? ⟨z,2,none⟩=some (.int .u64 (s.q.n:Int)))∧(∀w,Hid (SP W w p B m c v u s z)→w.cell? ⟨z,3,none⟩=some (.int .u64 (LS.told s.served:Int)))∧(∀w,Hid (SP W w p B m c v u s z)→w.cell? ⟨z,4,none⟩=some (.int .u64 (LS.told (s.served - s.deliv):Int)))∧(∀w,Hid (SP W w p B m c v u s z)→w.cell? ⟨z,5,none⟩=some (.int .u64 (LS.told s.deliv:Int))):=by
 obtain ⟨d0,d1,d2,d3,d7,e2,e3,e1,e10⟩:=dk_rules (B:=B) (m:=m) (c:=c) (v:=v) (u:=u) (s:=s)
 exact ⟨fun w h=>d0 w (Lib.hid h.out.d),fun w h=>e2 w (Lib.hid h.out.d),fun w h=>e3 w (Lib.hid h.out.d),fun w h=>e1 w (Lib.hid h.out.d),fun w h=>e10 w (Lib.hid h.out.d),fun w h=>h.out.z.cell rfl,fun w h=>h.out.z.cell rfl,fun w h=>h.out.z.cell rfl,fun w h=>h.out.z.cell rfl,fun w h=>h.out.z.cell rfl,fun w h=>h.out.z.cell rfl⟩
theorem dk_due {B m c n cap:Nat} {ao:Option Addr} {v:Value} {s:LS} {w:World} (h:DkAt B w m c v (.slice ao n cap) s) (hp:0 < s.j.l.length):∃g,ao=some ⟨g,0,none⟩∧w.cell? ⟨g,7,none⟩=some (.int .u64 (s.j.nextT:Int)):=by
 obtain ⟨ao,cap,hv,_,_,hi,hg⟩:=h.j.form
 injection hv with hv _ _
 subst hv
 obtain ⟨g,rfl,_⟩:=hg hp
 have:=(its_jp hi 0 hp _ rfl).2.2.2.2.2.2.2
 simp only [Nat.zero_mul,Nat.zero_add] at this
 exact ⟨g,rfl,this⟩
set_option maxRecDepth 100000 in
set_option maxHeartbeats 8000000 in
theorem pp_same (W0:World) (b m c:Nat) (s:LS) (N:Nat) (W:World) (h:PP W0 b m c s s W) (ho:s.ok N) (hN:N≤5000) (hkt:s.k.t=s.t):
  Calls Try.prog 17 #[.pointer (some ⟨b,0,none⟩),.pointer (some ⟨m,0,none⟩)] W fun e w'=>e=.returned (.bool true)∧Below W.heap.size W w':=by
 obtain ⟨p,v,u,rfl,h⟩:=h
 obtain ⟨ao,cap,rfl,_,_,_,_⟩:=h.d.j.form
 have HA:=Lib.hid h.a
 have HD:=Lib.hid h.d
 obtain ⟨d0,d1,d2,d3,d7,e2,e3,e1,e10⟩:=dk_rules (B:=W0.heap.size) (m:=m) (c:=c) (v:=v) (u:=.slice ao s.j.l.length cap) (s:=s)
 have hq5:s.q.l.length≤5000:=by have:=ho.n;omega
 have hj5:s.j.l.length≤5000:=by have:=ho.n;omega
 have HBy:Hid (∀w,Hid (DkAt W0.heap.size w m c v (.slice ao s.j.l.length cap) s)→Calls Try.prog 33 #[.pointer (some ⟨c,4,none⟩)] w fun e w'=>e=.returned (.int .u64 (s.q.n:Int))∧w=w'):=Lib.hid (fun w h=>dk_Bytes W0.heap.size m c v _ s w h.out hq5 ho.q.ok.sz ho.q)
 have hun:totP (s.j.l.map Jp.p)=s.served - s.deliv:=by
  have:=ho.c2
  have e:totP s.j.pks=totP (s.j.l.map Jp.p):=rfl
  omega
 have HUn:Hid (∀w,Hid (DkAt W0.heap.size w m c v (.slice ao s.j.l.length cap) s)→Calls Try.prog 34 #[.pointer (some ⟨m,0,none⟩)] w fun e w'=>e=.returned (.int .u64 (LS.told (s.served - s.deliv):Int))∧w=w'):=Lib.hid (fun w h=>by
  rw [← hun];exact dk_Under W0.heap.size m c v _ s w h.out hj5 ho.sz)
 have HCo:=Lib.hid (fun w (h:LkAt w p s)=>lk_Count p s w N h ho hN)
 have HTo:=Lib.hid (fun w (h:LkAt w p s)=>lk_Tokens p s w h)
 have HTi:=Lib.hid (fun w (h:LkAt w p s)=>by have:=lk_Time p s w h;rw [← hkt] at this;exact this)
 have HNe:=Lib.hid (fun w (h:LkAt w p s)=>lk_Next p s w h)
 have HDu:=Lib.hid (fun w (h:DkAt W0.heap.size w m c v (.slice ao s.j.l.length cap) s)=>dk_due h)
 have HE:Hid ((s.j.l.length=0∧s.j.nextT=0∧s.j.someB=false)∨(0 < s.j.l.length∧s.j.someB=true)):=Lib.hid (by
  unfold BxS.nextT BxS.someB
  cases s.j.l with
  | nil=>exact .inl ⟨rfl,rfl,rfl⟩
  | cons x l=>exact .inr ⟨Nat.succ_pos _,rfl⟩)
 have HCv:Hid (s.countV=.agg #[.int .u64 (LS.told s.came:Int),.int .u64 (s.q.lost:Int),.int .u64 (s.q.n:Int),.int .u64 (LS.told s.served:Int),.int .u64 (LS.told (s.served - s.deliv):Int),.int .u64 (LS.told s.deliv:Int)]):=Lib.hid rfl
 have M0:Hid (DkAt W0.heap.size W.drew m c v (.slice ao s.j.l.length cap) s):=Lib.hid (HD.out.keep ((Drawn.drew _).below _))
 have B1:=Lib.hid (Blk.new W 69 #[.int .u64 (LS.told s.came:Int),.int .u64 (s.q.lost:Int),.int .u64 (s.q.n:Int),.int .u64 (LS.told s.served:Int),.int .u64 (LS.told (s.served - s.deliv):Int),.int .u64 (LS.told s.deliv:Int)])
 have L1:=Lib.hid (al_be W (.cells #[.int .u64 (LS.told s.came:Int),.int .u64 (s.q.lost:Int),.int .u64 (s.q.n:Int),.int .u64 (LS.told s.served:Int),.int .u64 (LS.told (s.served - s.deliv):Int),.int .u64 (LS.told s.deliv:Int)] 69))
 have A1:=Lib.hid (HA.out.keep L1.out)
 have D1:=Lib.hid (HD.out.keep L1.out)
 have hj6:Hid (s.j.l.length≤5000):=Lib.hid hj5
 clear h ho hun hkt hq5 hj5
 go_enter Try.func17,Try.ntmps17
 go_wp2_with fail
 refine' one_way {tmps:=#[.pointer (some ⟨p.b,0,none⟩),.pointer (some ⟨m,0,none⟩),undef,undef,.bool false,.pointer (some ⟨W.heap.size,0,none⟩),undef,undef,undef,undef,undef,.pointer (some ⟨m,0,none⟩),.pointer (some ⟨m,0,none⟩),.pointer (some ⟨m,1,none⟩),.int .u64 (LS.told s.came:Int),.pointer (some ⟨m,0,none⟩),.pointer (some ⟨m,0,none⟩),.pointer (some ⟨m,0,none⟩),.pointer (some ⟨c,0,none⟩),.pointer (some ⟨c,0,none⟩),.pointer (some ⟨c,4,none⟩),.pointer (some ⟨c,7,none⟩),.int .u64 (s.q.lost:Int),.pointer (some ⟨m,0,none⟩),.pointer (some ⟨m,0,none⟩),.pointer (some ⟨m,0,none⟩),.pointer (some ⟨c,0,none⟩),.pointer (some ⟨c,0,none⟩),.pointer (some ⟨c,4,none⟩),.int .u64 (s.q.n:Int),.pointer (some ⟨m,0,none⟩),.pointer (some ⟨m,0,none⟩),.pointer (some ⟨m,2,none⟩),.int .u64 (LS.told s.served:Int),.pointer (some ⟨m,0,none⟩),.int .u64 (LS.told (s.served - s.deliv):Int),.pointer (some ⟨m,0,none⟩),.pointer (some ⟨m,0,none⟩),.pointer (some ⟨m,3,none⟩),.int .u64 (LS.told s.deliv:Int),.agg #[.int .u64 (LS.told s.came:Int),.int .u64 (s.q.lost:Int),.int .u64 (s.q.n:Int),.int .u64 (LS.told s.served:Int),.int .u64 (LS.told (s.served - s.deliv):Int),.int .u64 (LS.told s.deliv:Int)],undef,undef,undef,undef,undef,undef,undef,undef,undef,undef,undef,undef,undef,undef,undef,undef,undef,undef,undef,undef,undef,undef,undef,undef,undef,undef,undef,undef,undef,undef,undef,undef,undef,undef,undef,undef,undef,undef,undef,undef,undef,undef,undef,undef,undef,undef,undef,undef,undef,undef,undef,undef,undef,undef,undef,undef,undef,undef,undef,undef,undef,undef,undef,undef,undef,undef,undef,undef,undef,undef,undef,undef,undef,undef,undef,undef,undef,undef,undef,undef,undef,undef,undef,undef,undef,undef,undef,undef,undef,undef,undef],defers:=[]} (W.alloc (.cells #[.int .u64 (LS.told s.came:Int),.int .u64 (s.q.lost:Int),.int .u64 (s.q.n:Int),.int .u64 (LS.told s.served:Int),.int .u64 (LS.told (s.served - s.deliv):Int),.int .u64 (LS.told s.deliv:Int)] 69)).drew ?reg ?rest
 case reg=>
  go_region_held3 (fun w=>Hid (DkAt W0.heap.size w m c v (.slice ao s.j.l.length cap) s))
   (first | exact M0 | exact Lib.hid (M0.out.keep (al_be _ _)) | assumption)
   (first
    | (go_at_call 33;refine (HBy.out _ (by assumption)).mono ?_;rintro e w' ⟨rfl,rfl⟩)
    | (go_at_call 34;refine (HUn.out _ (by assumption)).mono ?_;rintro e w' ⟨rfl,rfl⟩))
  all_goals exact ⟨rfl,rfl,rfl⟩
 clear d1 d2 d3 d7 e2 e3 e1 HBy HUn M0
 obtain ⟨w1,hw1⟩:∃w1,w1=(W.alloc (.cells #[.int .u64 (LS.told s.came:Int),.int .u64 (s.q.lost:Int),.int .u64 (s.q.n:Int),.int .u64 (LS.told s.served:Int),.int .u64 (LS.told (s.served - s.deliv):Int),.int .u64 (LS.told s.deliv:Int)] 69)).drew:=⟨_,rfl⟩
 rw [← hw1]
 replace B1:Hid (Blk w1 W.heap.size 69 #[.int .u64 (LS.told s.came:Int),.int .u64 (s.q.lost:Int),.int .u64 (s.q.n:Int),.int .u64 (LS.told s.served:Int),.int .u64 (LS.told (s.served - s.deliv):Int),.int .u64 (LS.told s.deliv:Int)]):=Lib.hid (hw1▸(Drawn.drew _).blk B1.out)
 replace L1:Hid (Below W.heap.size W w1):=Lib.hid (hw1▸L1.out.trans ((Drawn.drew _).below _))
 replace A1:Hid (LkAt w1 p s):=Lib.hid (hw1▸A1.out.keep ((Drawn.drew _).below _))
 replace D1:Hid (DkAt W0.heap.size w1 m c v (.slice ao s.j.l.length cap) s):=Lib.hid (hw1▸D1.out.keep ((Drawn.drew _).below _))
 clear hw1 HA HD
 obtain ⟨z,hz⟩:∃z,z=W.heap.size:=⟨_,rfl⟩
 rw [← hz]
 rw [← hz] at B1
 clear hz
 go_wp2_with fail
 refine (HTo.out _ A1.out).mono ?_
 rintro e w2 ⟨rfl,hd⟩
 have A2:=Lib.hid (A1.out.keep (hd.below _))
 have D2:=Lib.hid (D1.out.keep (hd.below _))
 have B2:=Lib.hid (hd.blk B1.out)
 have L2:=Lib.hid (L1.out.trans (hd.below _))
 clear hd A1 D1 B1 L1
 go_wp2_with fail
 refine (HNe.out _ A2.out).mono ?_
 rintro e w3 ⟨rfl,hd⟩
 have S3:Hid (SP W w3 p W0.heap.size m c v (.slice ao s.j.l.length cap) s z):=Lib.hid ((SP.mk A2.out D2.out B2.out L2.out).to hd)
 have L3:=Lib.hid (bel_to L2.out hd L2.out.size)
 clear hd A2 D2 B2 L2 HTo HNe
 have M7:Hid (SP W w3.drew p W0.heap.size m c v (.slice ao s.j.l.length cap) s z):=Lib.hid (S3.out.to ((Drawn.drew _).below _))
 have f0:=d0 _ (Lib.hid S3.out.d)
 have f10:=e10 _ (Lib.hid S3.out.d)
 have HDx:=Lib.hid (HDu.out _ S3.out.d)
 obtain ⟨r0,r2,r3,r1,r10,z0,z1,z2,z3,z4,z5⟩:=sp_rules (W:=W) (p:=p) (B:=W0.heap.size) (m:=m) (c:=c) (v:=v) (u:=.slice ao s.j.l.length cap) (s:=s) (z:=z)
 clear d0 e10 HDu S3
 unfold LS.countV at HCo
 generalize s.j.nextT=nt at *
 generalize s.j.someB=sb at *
 generalize s.j.l.length=len at *
 rcases HE.out with ⟨rfl,rfl,rfl⟩ | ⟨hp,rfl⟩
 ·clear HE HDx L3
  go_wp2_with fail
  clear f0 f10
  refine wp_region_chain (S:=(fun w'=>Hid (SP W w' p W0.heap.size m c v (.slice ao 0 cap) s z))) 60 (by kernel_rfl) (by kernel_rfl) (by kernel_rfl) M7 ?_
  generalize w3.drew=wd at *
  simp only [List.size_toArray,List.length_cons,List.length_nil,Nat.reduceAdd,Array.replicate_succ,Array.replicate_zero,List.push_toArray,List.nil_append,List.cons_append]
  refine Chain.take (i:=0) (oi:=⟨some 72,_,_,_,_,_⟩) (v:=?v1) rfl (by kernel_rfl) (by kernel_rfl) (Or.inl ⟨by rfl,?y1⟩) ?rest1
  case y1=>intro w hSw;clear hSw;go_simp;(try with_reducible rfl)
  simp only [Act.put,List.setIfInBounds_toArray,List.set_cons_zero,List.set_cons_succ]
  refine' Chain.call (i:=1) (oi:=⟨some 73,_,_,_,_,_⟩) _ _ rfl (by kernel_rfl) (by kernel_rfl) (by rfl) ?he2 (fun w hS=>(HCo.out _ hS.out.a).mono fun e w' q=>And.intro q.1 (Lib.hid (hS.out.to q.2))) ?rest2
  case he2=>intro w;go_simp
  simp only [Act.put,List.setIfInBounds_toArray,List.set_cons_zero,List.set_cons_succ]
  refine Chain.take (i:=2) (oi:=⟨some 74,_,_,_,_,_⟩) (v:=?v3) rfl (by kernel_rfl) (by kernel_rfl) (Or.inl ⟨by rfl,?y3⟩) ?rest3
  case y3=>intro w hSw;go_simp;(try with_reducible rfl)
  simp only [Act.put,List.setIfInBounds_toArray,List.set_cons_zero,List.set_cons_succ]
  refine Chain.take (i:=3) (oi:=⟨some 75,_,_,_,_,_⟩) (v:=?v4) rfl (by kernel_rfl) (by kernel_rfl) (Or.inl ⟨by rfl,?y4⟩) ?rest4
  case y4=>intro w hSw;clear hSw;go_simp;(try with_reducible rfl)
  simp only [Act.put,List.setIfInBounds_toArray,List.set_cons_zero,List.set_cons_succ]
  refine Chain.take (i:=4) (oi:=⟨some 76,_,_,_,_,_⟩) (v:=?v5) rfl (by kernel_rfl) (by kernel_rfl) (Or.inl ⟨by rfl,?y5⟩) ?rest5
  case y5=>intro w hSw;clear hSw;go_simp;(try with_reducible rfl)
  simp only [Act.put,List.setIfInBounds_toArray,List.set_cons_zero,List.set_cons_succ]
  refine Chain.take (i:=5) (oi:=⟨some 77,_,_,_,_,_⟩) (v:=?v6) rfl (by kernel_rfl) (by kernel_rfl) (Or.inl ⟨by rfl,?y6⟩) ?rest6
  case y6=>intro w hSw;clear hSw;go_simp;(try with_reducible rfl)
  simp only [Act.put,List.setIfInBounds_toArray,List.set_cons_zero,List.set_cons_succ]
  refine Chain.take (i:=6) (oi:=⟨some 78,_,_,_,_,_⟩) (v:=?v7) rfl (by kernel_rfl) (by kernel_rfl) (Or.inl ⟨by rfl,?y7⟩) ?rest7
  case y7=>intro w hSw;clear hSw;go_simp;(try with_reducible rfl)
  simp only [Act.put,List.setIfInBounds_toArray,List.set_cons_zero,List.set_cons_succ]
  refine Chain.take (i:=7) (oi:=⟨some 79,_,_,_,_,_⟩) (v:=?v8) rfl (by kernel_rfl) (by kernel_rfl) (Or.inl ⟨by rfl,?y8⟩) ?rest8
  case y8=>intro w hSw;clear hSw;go_simp;(try with_reducible rfl)
  simp only [Act.put,List.setIfInBounds_toArray,List.set_cons_zero,List.set_cons_succ]
  refine Chain.take (i:=8) (oi:=⟨some 80,_,_,_,_,_⟩) (v:=?v9) rfl (by kernel_rfl) (by kernel_rfl) (Or.inl ⟨by rfl,?y9⟩) ?rest9
  case y9=>intro w hSw;clear hSw;go_simp;(try with_reducible rfl)
  simp only [Act.put,List.setIfInBounds_toArray,List.set_cons_zero,List.set_cons_succ]
  refine Chain.take (i:=9) (oi:=⟨some 81,_,_,_,_,_⟩) (v:=?v10) rfl (by kernel_rfl) (by kernel_rfl) (Or.inl ⟨by rfl,?y10⟩) ?rest10
  case y10=>intro w hSw;go_simp;(try with_reducible rfl)
  simp only [Act.put,List.setIfInBounds_toArray,List.set_cons_zero,List.set_cons_succ]
  refine Chain.take (i:=10) (oi:=⟨some 82,_,_,_,_,_⟩) (v:=?v11) rfl (by kernel_rfl) (by kernel_rfl) (Or.inl ⟨by rfl,?y11⟩) ?rest11
  case y11=>intro w hSw;clear hSw;go_simp;(try with_reducible rfl)
  simp only [Act.put,List.setIfInBounds_toArray,List.set_cons_zero,List.set_cons_succ]
  refine Chain.take (i:=11) (oi:=⟨some 83,_,_,_,_,_⟩) (v:=?v12) rfl (by kernel_rfl) (by kernel_rfl) (Or.inl ⟨by rfl,?y12⟩) ?rest12
  case y12=>intro w hSw;clear hSw;go_simp;(try with_reducible rfl)
  simp only [Act.put,List.setIfInBounds_toArray,List.set_cons_zero,List.set_cons_succ]
  refine Chain.take (i:=12) (oi:=⟨some 84,_,_,_,_,_⟩) (v:=?v13) rfl (by kernel_rfl) (by kernel_rfl) (Or.inl ⟨by rfl,?y13⟩) ?rest13
  case y13=>intro w hSw;clear hSw;go_simp;(try with_reducible rfl)
  simp only [Act.put,List.setIfInBounds_toArray,List.set_cons_zero,List.set_cons_succ]
  refine Chain.take (i:=13) (oi:=⟨some 85,_,_,_,_,_⟩) (v:=?v14) rfl (by kernel_rfl) (by kernel_rfl) (Or.inl ⟨by rfl,?y14⟩) ?rest14
  case y14=>intro w hSw;go_simp;(try with_reducible rfl)
  simp only [Act.put,List.setIfInBounds_toArray,List.set_cons_zero,List.set_cons_succ]
  refine Chain.take (i:=14) (oi:=⟨some 86,_,_,_,_,_⟩) (v:=?v15) rfl (by kernel_rfl) (by kernel_rfl) (Or.inl ⟨by rfl,?y15⟩) ?rest15
  case y15=>intro w hSw;clear hSw;go_simp;(try with_reducible rfl)
  simp only [Act.put,List.setIfInBounds_toArray,List.set_cons_zero,List.set_cons_succ]
  refine Chain.take (i:=15) (oi:=⟨some 87,_,_,_,_,_⟩) (v:=?v16) rfl (by kernel_rfl) (by kernel_rfl) (Or.inl ⟨by rfl,?y16⟩) ?rest16
  case y16=>intro w hSw;clear hSw;go_simp;(try with_reducible rfl)
  simp only [Act.put,List.setIfInBounds_toArray,List.set_cons_zero,List.set_cons_succ]
  refine Chain.take (i:=16) (oi:=⟨some 88,_,_,_,_,_⟩) (v:=?v17) rfl (by kernel_rfl) (by kernel_rfl) (Or.inl ⟨by rfl,?y17⟩) ?rest17
  case y17=>intro w hSw;clear hSw;go_simp;(try with_reducible rfl)
  simp only [Act.put,List.setIfInBounds_toArray,List.set_cons_zero,List.set_cons_succ]
  refine Chain.take (i:=17) (oi:=⟨some 89,_,_,_,_,_⟩) (v:=?v18) rfl (by kernel_rfl) (by kernel_rfl) (Or.inl ⟨by rfl,?y18⟩) ?rest18
  case y18=>intro w hSw;clear hSw;go_simp;(try with_reducible rfl)
  simp only [Act.put,List.setIfInBounds_toArray,List.set_cons_zero,List.set_cons_succ]
  refine Chain.take (i:=18) (oi:=⟨some 90,_,_,_,_,_⟩) (v:=?v19) rfl (by kernel_rfl) (by kernel_rfl) (Or.inl ⟨by rfl,?y19⟩) ?rest19
  case y19=>intro w hSw;clear hSw;go_simp;(try with_reducible rfl)
  simp only [Act.put,List.setIfInBounds_toArray,List.set_cons_zero,List.set_cons_succ]
  refine Chain.take (i:=19) (oi:=⟨some 91,_,_,_,_,_⟩) (v:=?v20) rfl (by kernel_rfl) (by kernel_rfl) (Or.inl ⟨by rfl,?y20⟩) ?rest20
  case y20=>intro w hSw;clear hSw;go_simp;(try with_reducible rfl)
  simp only [Act.put,List.setIfInBounds_toArray,List.set_cons_zero,List.set_cons_succ]
  refine Chain.take (i:=20) (oi:=⟨some 92,_,_,_,_,_⟩) (v:=?v21) rfl (by kernel_rfl) (by kernel_rfl) (Or.inl ⟨by rfl,?y21⟩) ?rest21
  case y21=>intro w hSw;clear hSw;go_simp;(try with_reducible rfl)
  simp only [Act.put,List.setIfInBounds_toArray,List.set_cons_zero,List.set_cons_succ]
  refine Chain.take (i:=21) (oi:=⟨some 93,_,_,_,_,_⟩) (v:=?v22) rfl (by kernel_rfl) (by kernel_rfl) (Or.inl ⟨by rfl,?y22⟩) ?rest22
  case y22=>intro w hSw;go_simp;(try with_reducible rfl)
  simp only [Act.put,List.setIfInBounds_toArray,List.set_cons_zero,List.set_cons_succ]
  refine Chain.take (i:=22) (oi:=⟨some 94,_,_,_,_,_⟩) (v:=?v23) rfl (by kernel_rfl) (by kernel_rfl) (Or.inl ⟨by rfl,?y23⟩) ?rest23
  case y23=>intro w hSw;clear hSw;go_simp;(try with_reducible rfl)
  simp only [Act.put,List.setIfInBounds_toArray,List.set_cons_zero,List.set_cons_succ]
  refine Chain.take (i:=23) (oi:=⟨some 95,_,_,_,_,_⟩) (v:=?v24) rfl (by kernel_rfl) (by kernel_rfl) (Or.inl ⟨by rfl,?y24⟩) ?rest24
  case y24=>intro w hSw;clear hSw;go_simp;(try with_reducible rfl)
  simp only [Act.put,List.setIfInBounds_toArray,List.set_cons_zero,List.set_cons_succ]
  refine Chain.take (i:=24) (oi:=⟨some 96,_,_,_,_,_⟩) (v:=?v25) rfl (by kernel_rfl) (by kernel_rfl) (Or.inl ⟨by rfl,?y25⟩) ?rest25
  case y25=>intro w hSw;clear hSw;go_simp;(try with_reducible rfl)
  simp only [Act.put,List.setIfInBounds_toArray,List.set_cons_zero,List.set_cons_succ]
  refine Chain.take (i:=25) (oi:=⟨some 97,_,_,_,_,_⟩) (v:=?v26) rfl (by kernel_rfl) (by kernel_rfl) (Or.inl ⟨by rfl,?y26⟩) ?rest26
  case y26=>intro w hSw;go_simp;(try with_reducible rfl)
  simp only [Act.put,List.setIfInBounds_toArray,List.set_cons_zero,List.set_cons_succ]
  refine Chain.take (i:=26) (oi:=⟨some 98,_,_,_,_,_⟩) (v:=?v27) rfl (by kernel_rfl) (by kernel_rfl) (Or.inl ⟨by rfl,?y27⟩) ?rest27
  case y27=>intro w hSw;clear hSw;go_simp;(try with_reducible rfl)
  simp only [Act.put,List.setIfInBounds_toArray,List.set_cons_zero,List.set_cons_succ]
  refine Chain.take (i:=27) (oi:=⟨some 99,_,_,_,_,_⟩) (v:=?v28) rfl (by kernel_rfl) (by kernel_rfl) (Or.inl ⟨by rfl,?y28⟩) ?rest28
  case y28=>intro w hSw;clear hSw;go_simp;(try with_reducible rfl)
  simp only [Act.put,List.setIfInBounds_toArray,List.set_cons_zero,List.set_cons_succ]
  refine Chain.take (i:=28) (oi:=⟨some 100,_,_,_,_,_⟩) (v:=?v29) rfl (by kernel_rfl) (by kernel_rfl) (Or.inl ⟨by rfl,?y29⟩) ?rest29
  case y29=>intro w hSw;clear hSw;go_simp;(try with_reducible rfl)
  simp only [Act.put,List.setIfInBounds_toArray,List.set_cons_zero,List.set_cons_succ]
  refine Chain.take (i:=29) (oi:=⟨some 101,_,_,_,_,_⟩) (v:=?v30) rfl (by kernel_rfl) (by kernel_rfl) (Or.inl ⟨by rfl,?y30⟩) ?rest30
  case y30=>intro w hSw;clear hSw;go_simp;(try with_reducible rfl)
  simp only [Act.put,List.setIfInBounds_toArray,List.set_cons_zero,List.set_cons_succ]
  refine' Chain.call (i:=30) (oi:=⟨some 102,_,_,_,_,_⟩) _ _ rfl (by kernel_rfl) (by kernel_rfl) (by rfl) ?he31 (fun w hS=>(HTi.out _ hS.out.a).mono fun e w' q=>And.intro q.1 (q.2▸hS)) ?rest31
  case he31=>intro w;go_simp
  simp only [Act.put,List.setIfInBounds_toArray,List.set_cons_zero,List.set_cons_succ]
  refine Chain.take (i:=31) (oi:=⟨some 103,_,_,_,_,_⟩) (v:=?v32) rfl (by kernel_rfl) (by kernel_rfl) (Or.inl ⟨by rfl,?y32⟩) ?rest32
  case y32=>intro w hSw;clear hSw;go_simp;(try with_reducible rfl)
  simp only [Act.put,List.setIfInBounds_toArray,List.set_cons_zero,List.set_cons_succ]
  refine Chain.take (i:=32) (oi:=⟨some 104,_,_,_,_,_⟩) (v:=?v33) rfl (by kernel_rfl) (by kernel_rfl) (Or.inl ⟨by rfl,?y33⟩) ?rest33
  case y33=>intro w hSw;clear hSw;go_simp;(try with_reducible rfl)
  simp only [Act.put,List.setIfInBounds_toArray,List.set_cons_zero,List.set_cons_succ]
  refine Chain.take (i:=33) (oi:=⟨some 105,_,_,_,_,_⟩) (v:=?v34) rfl (by kernel_rfl) (by kernel_rfl) (Or.inl ⟨by rfl,?y34⟩) ?rest34
  case y34=>intro w hSw;clear hSw;go_simp;(try with_reducible rfl)
  simp only [Act.put,List.setIfInBounds_toArray,List.set_cons_zero,List.set_cons_succ]
  refine Chain.take (i:=34) (oi:=⟨some 106,_,_,_,_,_⟩) (v:=?v35) rfl (by kernel_rfl) (by kernel_rfl) (Or.inl ⟨by rfl,?y35⟩) ?rest35
  case y35=>intro w hSw;go_simp;(try with_reducible rfl)
  simp only [Act.put,List.setIfInBounds_toArray,List.set_cons_zero,List.set_cons_succ]
  refine Chain.take (i:=35) (oi:=⟨some 107,_,_,_,_,_⟩) (v:=?v36) rfl (by kernel_rfl) (by kernel_rfl) (Or.inl ⟨by rfl,?y36⟩) ?rest36
  case y36=>intro w hSw;clear hSw;go_simp;(try with_reducible rfl)
  simp only [Act.put,List.setIfInBounds_toArray,List.set_cons_zero,List.set_cons_succ]
  refine Chain.take (i:=36) (oi:=⟨some 108,_,_,_,_,_⟩) (v:=?v37) rfl (by kernel_rfl) (by kernel_rfl) (Or.inl ⟨by rfl,?y37⟩) ?rest37
  case y37=>intro w hSw;clear hSw;go_simp;(try with_reducible rfl)
  simp only [Act.put,List.setIfInBounds_toArray,List.set_cons_zero,List.set_cons_succ]
  refine Chain.take (i:=37) (oi:=⟨some 109,_,_,_,_,_⟩) (v:=?v38) rfl (by kernel_rfl) (by kernel_rfl) (Or.inl ⟨by rfl,?y38⟩) ?rest38
  case y38=>intro w hSw;clear hSw;go_simp;(try with_reducible rfl)
  simp only [Act.put,List.setIfInBounds_toArray,List.set_cons_zero,List.set_cons_succ]
  refine Chain.take (i:=38) (oi:=⟨some 110,_,_,_,_,_⟩) (v:=?v39) rfl (by kernel_rfl) (by kernel_rfl) (Or.inl ⟨by rfl,?y39⟩) ?rest39
  case y39=>intro w hSw;go_simp;(try with_reducible rfl)
  simp only [Act.put,List.setIfInBounds_toArray,List.set_cons_zero,List.set_cons_succ]
  refine Chain.take (i:=39) (oi:=⟨some 111,_,_,_,_,_⟩) (v:=?v40) rfl (by kernel_rfl) (by kernel_rfl) (Or.inl ⟨by rfl,?y40⟩) ?rest40
  case y40=>intro w hSw;clear hSw;go_simp;(try with_reducible rfl)
  simp only [Act.put,List.setIfInBounds_toArray,List.set_cons_zero,List.set_cons_succ]
  refine Chain.take (i:=40) (oi:=⟨some 112,_,_,_,_,_⟩) (v:=?v41) rfl (by kernel_rfl) (by kernel_rfl) (Or.inl ⟨by rfl,?y41⟩) ?rest41
  case y41=>intro w hSw;clear hSw;go_simp;(try with_reducible rfl)
  simp only [Act.put,List.setIfInBounds_toArray,List.set_cons_zero,List.set_cons_succ]
  refine Chain.take (i:=41) (oi:=⟨some 113,_,_,_,_,_⟩) (v:=?v42) rfl (by kernel_rfl) (by kernel_rfl) (Or.inl ⟨by rfl,?y42⟩) ?rest42
  case y42=>intro w hSw;clear hSw;go_simp;(try with_reducible rfl)
  simp only [Act.put,List.setIfInBounds_toArray,List.set_cons_zero,List.set_cons_succ]
  refine Chain.take (i:=42) (oi:=⟨some 114,_,_,_,_,_⟩) (v:=?v43) rfl (by kernel_rfl) (by kernel_rfl) (Or.inl ⟨by rfl,?y43⟩) ?rest43
  case y43=>intro w hSw;clear hSw;go_simp;(try with_reducible rfl)
  simp only [Act.put,List.setIfInBounds_toArray,List.set_cons_zero,List.set_cons_succ]
  refine Chain.take (i:=43) (oi:=⟨some 115,_,_,_,_,_⟩) (v:=?v44) rfl (by kernel_rfl) (by kernel_rfl) (Or.inl ⟨by rfl,?y44⟩) ?rest44
  case y44=>intro w hSw;clear hSw;go_simp;(try with_reducible rfl)
  simp only [Act.put,List.setIfInBounds_toArray,List.set_cons_zero,List.set_cons_succ]
  refine Chain.take (i:=44) (oi:=⟨some 116,_,_,_,_,_⟩) (v:=?v45) rfl (by kernel_rfl) (by kernel_rfl) (Or.inl ⟨by rfl,?y45⟩) ?rest45
  case y45=>intro w hSw;clear hSw;go_simp;(try with_reducible rfl)
  simp only [Act.put,List.setIfInBounds_toArray,List.set_cons_zero,List.set_cons_succ]
  refine Chain.take (i:=45) (oi:=⟨some 117,_,_,_,_,_⟩) (v:=?v46) rfl (by kernel_rfl) (by kernel_rfl) (Or.inl ⟨by rfl,?y46⟩) ?rest46
  case y46=>intro w hSw;clear hSw;go_simp;(try with_reducible rfl)
  simp only [Act.put,List.setIfInBounds_toArray,List.set_cons_zero,List.set_cons_succ]
  refine Chain.take (i:=46) (oi:=⟨some 118,_,_,_,_,_⟩) (v:=?v47) rfl (by kernel_rfl) (by kernel_rfl) (Or.inl ⟨by rfl,?y47⟩) ?rest47
  case y47=>intro w hSw;clear hSw;go_simp;(try with_reducible rfl)
  simp only [Act.put,List.setIfInBounds_toArray,List.set_cons_zero,List.set_cons_succ]
  refine Chain.take (i:=47) (oi:=⟨some 119,_,_,_,_,_⟩) (v:=?v48) rfl (by kernel_rfl) (by kernel_rfl) (Or.inl ⟨by rfl,?y48⟩) ?rest48
  case y48=>intro w hSw;clear hSw;go_simp;(try with_reducible rfl)
  simp only [Act.put,List.setIfInBounds_toArray,List.set_cons_zero,List.set_cons_succ]
  refine Chain.take (i:=48) (oi:=⟨some 120,_,_,_,_,_⟩) (v:=?v49) rfl (by kernel_rfl) (by kernel_rfl) (Or.inl ⟨by rfl,?y49⟩) ?rest49
  case y49=>intro w hSw;clear hSw;go_simp;(try with_reducible rfl)
  simp only [Act.put,List.setIfInBounds_toArray,List.set_cons_zero,List.set_cons_succ]
  refine Chain.take (i:=49) (oi:=⟨some 121,_,_,_,_,_⟩) (v:=?v50) rfl (by kernel_rfl) (by kernel_rfl) (Or.inl ⟨by rfl,?y50⟩) ?rest50
  case y50=>intro w hSw;clear hSw;go_simp;(try with_reducible rfl)
  simp only [Act.put,List.setIfInBounds_toArray,List.set_cons_zero,List.set_cons_succ]
  refine Chain.take (i:=50) (oi:=⟨some 122,_,_,_,_,_⟩) (v:=?v51) rfl (by kernel_rfl) (by kernel_rfl) (Or.inl ⟨by rfl,?y51⟩) ?rest51
  case y51=>intro w hSw;clear hSw;go_simp;(try with_reducible rfl)
  simp only [Act.put,List.setIfInBounds_toArray,List.set_cons_zero,List.set_cons_succ]
  refine Chain.take (i:=51) (oi:=⟨some 123,_,_,_,_,_⟩) (v:=?v52) rfl (by kernel_rfl) (by kernel_rfl) (Or.inl ⟨by rfl,?y52⟩) ?rest52
  case y52=>intro w hSw;go_simp;(try with_reducible rfl)
  simp only [Act.put,List.setIfInBounds_toArray,List.set_cons_zero,List.set_cons_succ]
  refine Chain.take (i:=52) (oi:=⟨some 124,_,_,_,_,_⟩) (v:=?v53) rfl (by kernel_rfl) (by kernel_rfl) (Or.inl ⟨by rfl,?y53⟩) ?rest53
  case y53=>intro w hSw;clear hSw;go_simp;(try with_reducible rfl)
  simp only [Act.put,List.setIfInBounds_toArray,List.set_cons_zero,List.set_cons_succ]
  refine Chain.take (i:=53) (oi:=⟨some 125,_,_,_,_,_⟩) (v:=?v54) rfl (by kernel_rfl) (by kernel_rfl) (Or.inl ⟨by rfl,?y54⟩) ?rest54
  case y54=>intro w hSw;clear hSw;go_simp;(try with_reducible rfl)
  simp only [Act.put,List.setIfInBounds_toArray,List.set_cons_zero,List.set_cons_succ]
  refine Chain.take (i:=54) (oi:=⟨some 126,_,_,_,_,_⟩) (v:=?v55) rfl (by kernel_rfl) (by kernel_rfl) (Or.inl ⟨by rfl,?y55⟩) ?rest55
  case y55=>intro w hSw;clear hSw;go_simp;(try with_reducible rfl)
  simp only [Act.put,List.setIfInBounds_toArray,List.set_cons_zero,List.set_cons_succ]
  refine Chain.take (i:=55) (oi:=⟨some 127,_,_,_,_,_⟩) (v:=?v56) rfl (by kernel_rfl) (by kernel_rfl) (Or.inl ⟨by rfl,?y56⟩) ?rest56
  case y56=>intro w hSw;go_simp;(try with_reducible rfl)
  simp only [Act.put,List.setIfInBounds_toArray,List.set_cons_zero,List.set_cons_succ]
  refine Chain.take (i:=56) (oi:=⟨some 128,_,_,_,_,_⟩) (v:=?v57) rfl (by kernel_rfl) (by kernel_rfl) (Or.inl ⟨by rfl,?y57⟩) ?rest57
  case y57=>intro w hSw;clear hSw;go_simp;(try with_reducible rfl)
  simp only [Act.put,List.setIfInBounds_toArray,List.set_cons_zero,List.set_cons_succ]
  refine Chain.take (i:=57) (oi:=⟨some 129,_,_,_,_,_⟩) (v:=?v58) rfl (by kernel_rfl) (by kernel_rfl) (Or.inl ⟨by rfl,?y58⟩) ?rest58
  case y58=>intro w hSw;clear hSw;go_simp;(try with_reducible rfl)
  simp only [Act.put,List.setIfInBounds_toArray,List.set_cons_zero,List.set_cons_succ]
  refine Chain.take (i:=58) (oi:=⟨some 130,_,_,_,_,_⟩) (v:=?v59) rfl (by kernel_rfl) (by kernel_rfl) (Or.inl ⟨by rfl,?y59⟩) ?rest59
  case y59=>intro w hSw;clear hSw;go_simp;(try with_reducible rfl)
  simp only [Act.put,List.setIfInBounds_toArray,List.set_cons_zero,List.set_cons_succ]
  refine Chain.take (i:=59) (oi:=⟨some 131,_,_,_,_,_⟩) (v:=?v60) rfl (by kernel_rfl) (by kernel_rfl) (Or.inl ⟨by rfl,?y60⟩) ?rest60
  case y60=>intro w hSw;clear hSw;go_simp;(try with_reducible rfl)
  simp only [Act.put,List.setIfInBounds_toArray,List.set_cons_zero,List.set_cons_succ]
  refine Chain.last (by kernel_rfl) (fun w hSw=>?_)
  refine wpAnyH_ready (rs:=[60]) (by kernel_rfl) (by simp) ?_
  refine AllReadyH.cons (o:=⟨some 4,_,_,_,_,_⟩) rfl (fun K hK=>?_) AllReadyH.nil
  have M8:=hSw
  go_simp
  refine hK.out _ _ trivial (fun _=>?_)
  clear hK
  try simp only [List.setIfInBounds_toArray,List.set_cons_zero,List.set_cons_succ]
  refine wpAnyH_done (by kernel_rfl) ?_ _
  skip
  go_wp2_with fail
  go_ret
  exact ⟨rfl,M8.out.bel⟩
 ·obtain ⟨g,rfl,g7⟩:=HDx.out hp
  have hp0:(0:Int) < (len:Int):=by omega
  clear HE HDx L3
  go_wp2_with fail
  clear f0 f10 g7
  refine wp_region_chain (S:=(fun w'=>Hid (SP W w' p W0.heap.size m c v (.slice (some ⟨g,0,none⟩) len cap) s z))) 60 (by kernel_rfl) (by kernel_rfl) (by kernel_rfl) M7 ?_
  generalize w3.drew=wd at *
  simp only [List.size_toArray,List.length_cons,List.length_nil,Nat.reduceAdd,Array.replicate_succ,Array.replicate_zero,List.push_toArray,List.nil_append,List.cons_append]
  refine Chain.take (i:=0) (oi:=⟨some 72,_,_,_,_,_⟩) (v:=?v61) rfl (by kernel_rfl) (by kernel_rfl) (Or.inl ⟨by rfl,?y61⟩) ?rest61
  case y61=>intro w hSw;clear hSw;go_simp;(try with_reducible rfl)
  simp only [Act.put,List.setIfInBounds_toArray,List.set_cons_zero,List.set_cons_succ]
  refine' Chain.call (i:=1) (oi:=⟨some 73,_,_,_,_,_⟩) _ _ rfl (by kernel_rfl) (by kernel_rfl) (by rfl) ?he62 (fun w hS=>(HCo.out _ hS.out.a).mono fun e w' q=>And.intro q.1 (Lib.hid (hS.out.to q.2))) ?rest62
  case he62=>intro w;go_simp
  simp only [Act.put,List.setIfInBounds_toArray,List.set_cons_zero,List.set_cons_succ]
  refine Chain.take (i:=2) (oi:=⟨some 74,_,_,_,_,_⟩) (v:=?v63) rfl (by kernel_rfl) (by kernel_rfl) (Or.inl ⟨by rfl,?y63⟩) ?rest63
  case y63=>intro w hSw;go_simp;(try with_reducible rfl)
  simp only [Act.put,List.setIfInBounds_toArray,List.set_cons_zero,List.set_cons_succ]
  refine Chain.take (i:=3) (oi:=⟨some 75,_,_,_,_,_⟩) (v:=?v64) rfl (by kernel_rfl) (by kernel_rfl) (Or.inl ⟨by rfl,?y64⟩) ?rest64
  case y64=>intro w hSw;clear hSw;go_simp;(try with_reducible rfl)
  simp only [Act.put,List.setIfInBounds_toArray,List.set_cons_zero,List.set_cons_succ]
  refine Chain.take (i:=4) (oi:=⟨some 76,_,_,_,_,_⟩) (v:=?v65) rfl (by kernel_rfl) (by kernel_rfl) (Or.inl ⟨by rfl,?y65⟩) ?rest65
  case y65=>intro w hSw;clear hSw;go_simp;(try with_reducible rfl)
  simp only [Act.put,List.setIfInBounds_toArray,List.set_cons_zero,List.set_cons_succ]
  refine Chain.take (i:=5) (oi:=⟨some 77,_,_,_,_,_⟩) (v:=?v66) rfl (by kernel_rfl) (by kernel_rfl) (Or.inl ⟨by rfl,?y66⟩) ?rest66
  case y66=>intro w hSw;clear hSw;go_simp;(try with_reducible rfl)
  simp only [Act.put,List.setIfInBounds_toArray,List.set_cons_zero,List.set_cons_succ]
  refine Chain.take (i:=6) (oi:=⟨some 78,_,_,_,_,_⟩) (v:=?v67) rfl (by kernel_rfl) (by kernel_rfl) (Or.inl ⟨by rfl,?y67⟩) ?rest67
  case y67=>intro w hSw;clear hSw;go_simp;(try with_reducible rfl)
  simp only [Act.put,List.setIfInBounds_toArray,List.set_cons_zero,List.set_cons_succ]
  refine Chain.take (i:=7) (oi:=⟨some 79,_,_,_,_,_⟩) (v:=?v68) rfl (by kernel_rfl) (by kernel_rfl) (Or.inl ⟨by rfl,?y68⟩) ?rest68
  case y68=>intro w hSw;clear hSw;go_simp;(try with_reducible rfl)
  simp only [Act.put,List.setIfInBounds_toArray,List.set_cons_zero,List.set_cons_succ]
  refine Chain.take (i:=8) (oi:=⟨some 80,_,_,_,_,_⟩) (v:=?v69) rfl (by kernel_rfl) (by kernel_rfl) (Or.inl ⟨by rfl,?y69⟩) ?rest69
  case y69=>intro w hSw;clear hSw;go_simp;(try with_reducible rfl)
  simp only [Act.put,List.setIfInBounds_toArray,List.set_cons_zero,List.set_cons_succ]
  refine Chain.take (i:=9) (oi:=⟨some 81,_,_,_,_,_⟩) (v:=?v70) rfl (by kernel_rfl) (by kernel_rfl) (Or.inl ⟨by rfl,?y70⟩) ?rest70
  case y70=>intro w hSw;go_simp;(try with_reducible rfl)
  simp only [Act.put,List.setIfInBounds_toArray,List.set_cons_zero,List.set_cons_succ]
  refine Chain.take (i:=10) (oi:=⟨some 82,_,_,_,_,_⟩) (v:=?v71) rfl (by kernel_rfl) (by kernel_rfl) (Or.inl ⟨by rfl,?y71⟩) ?rest71
  case y71=>intro w hSw;clear hSw;go_simp;(try with_reducible rfl)
  simp only [Act.put,List.setIfInBounds_toArray,List.set_cons_zero,List.set_cons_succ]
  refine Chain.take (i:=11) (oi:=⟨some 83,_,_,_,_,_⟩) (v:=?v72) rfl (by kernel_rfl) (by kernel_rfl) (Or.inl ⟨by rfl,?y72⟩) ?rest72
  case y72=>intro w hSw;clear hSw;go_simp;(try with_reducible rfl)
  simp only [Act.put,List.setIfInBounds_toArray,List.set_cons_zero,List.set_cons_succ]
  refine Chain.take (i:=12) (oi:=⟨some 84,_,_,_,_,_⟩) (v:=?v73) rfl (by kernel_rfl) (by kernel_rfl) (Or.inl ⟨by rfl,?y73⟩) ?rest73
  case y73=>intro w hSw;clear hSw;go_simp;(try with_reducible rfl)
  simp only [Act.put,List.setIfInBounds_toArray,List.set_cons_zero,List.set_cons_succ]
  refine Chain.take (i:=13) (oi:=⟨some 85,_,_,_,_,_⟩) (v:=?v74) rfl (by kernel_rfl) (by kernel_rfl) (Or.inl ⟨by rfl,?y74⟩) ?rest74
  case y74=>intro w hSw;go_simp;(try with_reducible rfl)
  simp only [Act.put,List.setIfInBounds_toArray,List.set_cons_zero,List.set_cons_succ]
  refine Chain.take (i:=14) (oi:=⟨some 86,_,_,_,_,_⟩) (v:=?v75) rfl (by kernel_rfl) (by kernel_rfl) (Or.inl ⟨by rfl,?y75⟩) ?rest75
  case y75=>intro w hSw;clear hSw;go_simp;(try with_reducible rfl)
  simp only [Act.put,List.setIfInBounds_toArray,List.set_cons_zero,List.set_cons_succ]
  refine Chain.take (i:=15) (oi:=⟨some 87,_,_,_,_,_⟩) (v:=?v76) rfl (by kernel_rfl) (by kernel_rfl) (Or.inl ⟨by rfl,?y76⟩) ?rest76
  case y76=>intro w hSw;clear hSw;go_simp;(try with_reducible rfl)
  simp only [Act.put,List.setIfInBounds_toArray,List.set_cons_zero,List.set_cons_succ]
  refine Chain.take (i:=16) (oi:=⟨some 88,_,_,_,_,_⟩) (v:=?v77) rfl (by kernel_rfl) (by kernel_rfl) (Or.inl ⟨by rfl,?y77⟩) ?rest77
  case y77=>intro w hSw;clear hSw;go_simp;(try with_reducible rfl)
  simp only [Act.put,List.setIfInBounds_toArray,List.set_cons_zero,List.set_cons_succ]
  refine Chain.take (i:=17) (oi:=⟨some 89,_,_,_,_,_⟩) (v:=?v78) rfl (by kernel_rfl) (by kernel_rfl) (Or.inl ⟨by rfl,?y78⟩) ?rest78
  case y78=>intro w hSw;clear hSw;go_simp;(try with_reducible rfl)
  simp only [Act.put,List.setIfInBounds_toArray,List.set_cons_zero,List.set_cons_succ]
  refine Chain.take (i:=18) (oi:=⟨some 90,_,_,_,_,_⟩) (v:=?v79) rfl (by kernel_rfl) (by kernel_rfl) (Or.inl ⟨by rfl,?y79⟩) ?rest79
  case y79=>intro w hSw;clear hSw;go_simp;(try with_reducible rfl)
  simp only [Act.put,List.setIfInBounds_toArray,List.set_cons_zero,List.set_cons_succ]
  refine Chain.take (i:=19) (oi:=⟨some 91,_,_,_,_,_⟩) (v:=?v80) rfl (by kernel_rfl) (by kernel_rfl) (Or.inl ⟨by rfl,?y80⟩) ?rest80
  case y80=>intro w hSw;clear hSw;go_simp;(try with_reducible rfl)
  simp only [Act.put,List.setIfInBounds_toArray,List.set_cons_zero,List.set_cons_succ]
  refine Chain.take (i:=20) (oi:=⟨some 92,_,_,_,_,_⟩) (v:=?v81) rfl (by kernel_rfl) (by kernel_rfl) (Or.inl ⟨by rfl,?y81⟩) ?rest81
  case y81=>intro w hSw;clear hSw;go_simp;(try with_reducible rfl)
  simp only [Act.put,List.setIfInBounds_toArray,List.set_cons_zero,List.set_cons_succ]
  refine Chain.take (i:=21) (oi:=⟨some 93,_,_,_,_,_⟩) (v:=?v82) rfl (by kernel_rfl) (by kernel_rfl) (Or.inl ⟨by rfl,?y82⟩) ?rest82
  case y82=>intro w hSw;go_simp;(try with_reducible rfl)
  simp only [Act.put,List.setIfInBounds_toArray,List.set_cons_zero,List.set_cons_succ]
  refine Chain.take (i:=22) (oi:=⟨some 94,_,_,_,_,_⟩) (v:=?v83) rfl (by kernel_rfl) (by kernel_rfl) (Or.inl ⟨by rfl,?y83⟩) ?rest83
  case y83=>intro w hSw;clear hSw;go_simp;(try with_reducible rfl)
  simp only [Act.put,List.setIfInBounds_toArray,List.set_cons_zero,List.set_cons_succ]
  refine Chain.take (i:=23) (oi:=⟨some 95,_,_,_,_,_⟩) (v:=?v84) rfl (by kernel_rfl) (by kernel_rfl) (Or.inl ⟨by rfl,?y84⟩) ?rest84
  case y84=>intro w hSw;clear hSw;go_simp;(try with_reducible rfl)
  simp only [Act.put,List.setIfInBounds_toArray,List.set_cons_zero,List.set_cons_succ]
  refine Chain.take (i:=24) (oi:=⟨some 96,_,_,_,_,_⟩) (v:=?v85) rfl (by kernel_rfl) (by kernel_rfl) (Or.inl ⟨by rfl,?y85⟩) ?rest85
  case y85=>intro w hSw;clear hSw;go_simp;(try with_reducible rfl)
  simp only [Act.put,List.setIfInBounds_toArray,List.set_cons_zero,List.set_cons_succ]
  refine Chain.take (i:=25) (oi:=⟨some 97,_,_,_,_,_⟩) (v:=?v86) rfl (by kernel_rfl) (by kernel_rfl) (Or.inl ⟨by rfl,?y86⟩) ?rest86
  case y86=>intro w hSw;go_simp;(try with_reducible rfl)
  simp only [Act.put,List.setIfInBounds_toArray,List.set_cons_zero,List.set_cons_succ]
  refine Chain.take (i:=26) (oi:=⟨some 98,_,_,_,_,_⟩) (v:=?v87) rfl (by kernel_rfl) (by kernel_rfl) (Or.inl ⟨by rfl,?y87⟩) ?rest87
  case y87=>intro w hSw;clear hSw;go_simp;(try with_reducible rfl)
  simp only [Act.put,List.setIfInBounds_toArray,List.set_cons_zero,List.set_cons_succ]
  refine Chain.take (i:=27) (oi:=⟨some 99,_,_,_,_,_⟩) (v:=?v88) rfl (by kernel_rfl) (by kernel_rfl) (Or.inl ⟨by rfl,?y88⟩) ?rest88
  case y88=>intro w hSw;clear hSw;go_simp;(try with_reducible rfl)
  simp only [Act.put,List.setIfInBounds_toArray,List.set_cons_zero,List.set_cons_succ]
  refine Chain.take (i:=28) (oi:=⟨some 100,_,_,_,_,_⟩) (v:=?v89) rfl (by kernel_rfl) (by kernel_rfl) (Or.inl ⟨by rfl,?y89⟩) ?rest89
  case y89=>intro w hSw;clear hSw;go_simp;(try with_reducible rfl)
  simp only [Act.put,List.setIfInBounds_toArray,List.set_cons_zero,List.set_cons_succ]
  refine Chain.take (i:=29) (oi:=⟨some 101,_,_,_,_,_⟩) (v:=?v90) rfl (by kernel_rfl) (by kernel_rfl) (Or.inl ⟨by rfl,?y90⟩) ?rest90
  case y90=>intro w hSw;clear hSw;go_simp;(try with_reducible rfl)
  simp only [Act.put,List.setIfInBounds_toArray,List.set_cons_zero,List.set_cons_succ]
  refine' Chain.call (i:=30) (oi:=⟨some 102,_,_,_,_,_⟩) _ _ rfl (by kernel_rfl) (by kernel_rfl) (by rfl) ?he91 (fun w hS=>(HTi.out _ hS.out.a).mono fun e w' q=>And.intro q.1 (q.2▸hS)) ?rest91
  case he91=>intro w;go_simp
  simp only [Act.put,List.setIfInBounds_toArray,List.set_cons_zero,List.set_cons_succ]
  refine Chain.take (i:=31) (oi:=⟨some 103,_,_,_,_,_⟩) (v:=?v92) rfl (by kernel_rfl) (by kernel_rfl) (Or.inl ⟨by rfl,?y92⟩) ?rest92
  case y92=>intro w hSw;clear hSw;go_simp;(try with_reducible rfl)
  simp only [Act.put,List.setIfInBounds_toArray,List.set_cons_zero,List.set_cons_succ]
  refine Chain.take (i:=32) (oi:=⟨some 104,_,_,_,_,_⟩) (v:=?v93) rfl (by kernel_rfl) (by kernel_rfl) (Or.inl ⟨by rfl,?y93⟩) ?rest93
  case y93=>intro w hSw;clear hSw;go_simp;(try with_reducible rfl)
  simp only [Act.put,List.setIfInBounds_toArray,List.set_cons_zero,List.set_cons_succ]
  refine Chain.take (i:=33) (oi:=⟨some 105,_,_,_,_,_⟩) (v:=?v94) rfl (by kernel_rfl) (by kernel_rfl) (Or.inl ⟨by rfl,?y94⟩) ?rest94
  case y94=>intro w hSw;clear hSw;go_simp;(try with_reducible rfl)
  simp only [Act.put,List.setIfInBounds_toArray,List.set_cons_zero,List.set_cons_succ]
  refine Chain.take (i:=34) (oi:=⟨some 106,_,_,_,_,_⟩) (v:=?v95) rfl (by kernel_rfl) (by kernel_rfl) (Or.inl ⟨by rfl,?y95⟩) ?rest95
  case y95=>intro w hSw;go_simp;(try with_reducible rfl)
  simp only [Act.put,List.setIfInBounds_toArray,List.set_cons_zero,List.set_cons_succ]
  refine Chain.take (i:=35) (oi:=⟨some 107,_,_,_,_,_⟩) (v:=?v96) rfl (by kernel_rfl) (by kernel_rfl) (Or.inl ⟨by rfl,?y96⟩) ?rest96
  case y96=>intro w hSw;clear hSw;go_simp;(try with_reducible rfl)
  simp only [Act.put,List.setIfInBounds_toArray,List.set_cons_zero,List.set_cons_succ]
  refine Chain.take (i:=36) (oi:=⟨some 108,_,_,_,_,_⟩) (v:=?v97) rfl (by kernel_rfl) (by kernel_rfl) (Or.inl ⟨by rfl,?y97⟩) ?rest97
  case y97=>intro w hSw;clear hSw;go_simp;(try with_reducible rfl)
  simp only [Act.put,List.setIfInBounds_toArray,List.set_cons_zero,List.set_cons_succ]
  refine Chain.take (i:=37) (oi:=⟨some 109,_,_,_,_,_⟩) (v:=?v98) rfl (by kernel_rfl) (by kernel_rfl) (Or.inl ⟨by rfl,?y98⟩) ?rest98
  case y98=>intro w hSw;clear hSw;go_simp;(try with_reducible rfl)
  simp only [Act.put,List.setIfInBounds_toArray,List.set_cons_zero,List.set_cons_succ]
  refine Chain.take (i:=38) (oi:=⟨some 110,_,_,_,_,_⟩) (v:=?v99) rfl (by kernel_rfl) (by kernel_rfl) (Or.inl ⟨by rfl,?y99⟩) ?rest99
  case y99=>intro w hSw;go_simp;(try with_reducible rfl)
  simp only [Act.put,List.setIfInBounds_toArray,List.set_cons_zero,List.set_cons_succ]
  refine Chain.take (i:=39) (oi:=⟨some 111,_,_,_,_,_⟩) (v:=?v100) rfl (by kernel_rfl) (by kernel_rfl) (Or.inl ⟨by rfl,?y100⟩) ?rest100
  case y100=>intro w hSw;clear hSw;go_simp;(try with_reducible rfl)
  simp only [Act.put,List.setIfInBounds_toArray,List.set_cons_zero,List.set_cons_succ]
  refine Chain.take (i:=40) (oi:=⟨some 112,_,_,_,_,_⟩) (v:=?v101) rfl (by kernel_rfl) (by kernel_rfl) (Or.inl ⟨by rfl,?y101⟩) ?rest101
  case y101=>intro w hSw;clear hSw;go_simp;(try with_reducible rfl)
  simp only [Act.put,List.setIfInBounds_toArray,List.set_cons_zero,List.set_cons_succ]
  refine Chain.take (i:=41) (oi:=⟨some 113,_,_,_,_,_⟩) (v:=?v102) rfl (by kernel_rfl) (by kernel_rfl) (Or.inl ⟨by rfl,?y102⟩) ?rest102
  case y102=>intro w hSw;clear hSw;go_simp;(try with_reducible rfl)
  simp only [Act.put,List.setIfInBounds_toArray,List.set_cons_zero,List.set_cons_succ]
  refine Chain.take (i:=42) (oi:=⟨some 114,_,_,_,_,_⟩) (v:=?v103) rfl (by kernel_rfl) (by kernel_rfl) (Or.inl ⟨by rfl,?y103⟩) ?rest103
  case y103=>intro w hSw;clear hSw;go_simp;(try with_reducible rfl)
  simp only [Act.put,List.setIfInBounds_toArray,List.set_cons_zero,List.set_cons_succ]
  refine Chain.take (i:=43) (oi:=⟨some 115,_,_,_,_,_⟩) (v:=?v104) rfl (by kernel_rfl) (by kernel_rfl) (Or.inl ⟨by rfl,?y104⟩) ?rest104
  case y104=>intro w hSw;clear hSw;go_simp;(try with_reducible rfl)
  simp only [Act.put,List.setIfInBounds_toArray,List.set_cons_zero,List.set_cons_succ]
  refine Chain.take (i:=44) (oi:=⟨some 116,_,_,_,_,_⟩) (v:=?v105) rfl (by kernel_rfl) (by kernel_rfl) (Or.inl ⟨by rfl,?y105⟩) ?rest105
  case y105=>intro w hSw;clear hSw;go_simp;(try with_reducible rfl)
  simp only [Act.put,List.setIfInBounds_toArray,List.set_cons_zero,List.set_cons_succ]
  refine Chain.take (i:=45) (oi:=⟨some 117,_,_,_,_,_⟩) (v:=?v106) rfl (by kernel_rfl) (by kernel_rfl) (Or.inl ⟨by rfl,?y106⟩) ?rest106
  case y106=>intro w hSw;clear hSw;go_simp;(try with_reducible rfl)
  simp only [Act.put,List.setIfInBounds_toArray,List.set_cons_zero,List.set_cons_succ]
  refine Chain.take (i:=46) (oi:=⟨some 118,_,_,_,_,_⟩) (v:=?v107) rfl (by kernel_rfl) (by kernel_rfl) (Or.inl ⟨by rfl,?y107⟩) ?rest107
  case y107=>intro w hSw;clear hSw;go_simp;(try with_reducible rfl)
  simp only [Act.put,List.setIfInBounds_toArray,List.set_cons_zero,List.set_cons_succ]
  refine Chain.take (i:=47) (oi:=⟨some 119,_,_,_,_,_⟩) (v:=?v108) rfl (by kernel_rfl) (by kernel_rfl) (Or.inl ⟨by rfl,?y108⟩) ?rest108
  case y108=>intro w hSw;clear hSw;go_simp;(try with_reducible rfl)
  simp only [Act.put,List.setIfInBounds_toArray,List.set_cons_zero,List.set_cons_succ]
  refine Chain.take (i:=48) (oi:=⟨some 120,_,_,_,_,_⟩) (v:=?v109) rfl (by kernel_rfl) (by kernel_rfl) (Or.inl ⟨by rfl,?y109⟩) ?rest109
  case y109=>intro w hSw;clear hSw;go_simp;(try with_reducible rfl)
  simp only [Act.put,List.setIfInBounds_toArray,List.set_cons_zero,List.set_cons_succ]
  refine Chain.take (i:=49) (oi:=⟨some 121,_,_,_,_,_⟩) (v:=?v110) rfl (by kernel_rfl) (by kernel_rfl) (Or.inl ⟨by rfl,?y110⟩) ?rest110
  case y110=>intro w hSw;clear hSw;go_simp;(try with_reducible rfl)
  simp only [Act.put,List.setIfInBounds_toArray,List.set_cons_zero,List.set_cons_succ]
  refine Chain.take (i:=50) (oi:=⟨some 122,_,_,_,_,_⟩) (v:=?v111) rfl (by kernel_rfl) (by kernel_rfl) (Or.inl ⟨by rfl,?y111⟩) ?rest111
  case y111=>intro w hSw;clear hSw;go_simp;(try with_reducible rfl)
  simp only [Act.put,List.setIfInBounds_toArray,List.set_cons_zero,List.set_cons_succ]
  refine Chain.take (i:=51) (oi:=⟨some 123,_,_,_,_,_⟩) (v:=?v112) rfl (by kernel_rfl) (by kernel_rfl) (Or.inl ⟨by rfl,?y112⟩) ?rest112
  case y112=>intro w hSw;go_simp;(try with_reducible rfl)
  simp only [Act.put,List.setIfInBounds_toArray,List.set_cons_zero,List.set_cons_succ]
  refine Chain.take (i:=52) (oi:=⟨some 124,_,_,_,_,_⟩) (v:=?v113) rfl (by kernel_rfl) (by kernel_rfl) (Or.inl ⟨by rfl,?y113⟩) ?rest113
  case y113=>intro w hSw;clear hSw;go_simp;(try with_reducible rfl)
  simp only [Act.put,List.setIfInBounds_toArray,List.set_cons_zero,List.set_cons_succ]
  refine Chain.take (i:=53) (oi:=⟨some 125,_,_,_,_,_⟩) (v:=?v114) rfl (by kernel_rfl) (by kernel_rfl) (Or.inl ⟨by rfl,?y114⟩) ?rest114
  case y114=>intro w hSw;clear hSw;go_simp;(try with_reducible rfl)
  simp only [Act.put,List.setIfInBounds_toArray,List.set_cons_zero,List.set_cons_succ]
  refine Chain.take (i:=54) (oi:=⟨some 126,_,_,_,_,_⟩) (v:=?v115) rfl (by kernel_rfl) (by kernel_rfl) (Or.inl ⟨by rfl,?y115⟩) ?rest115
  case y115=>intro w hSw;clear hSw;go_simp;(try with_reducible rfl)
  simp only [Act.put,List.setIfInBounds_toArray,List.set_cons_zero,List.set_cons_succ]
  refine Chain.take (i:=55) (oi:=⟨some 127,_,_,_,_,_⟩) (v:=?v116) rfl (by kernel_rfl) (by kernel_rfl) (Or.inl ⟨by rfl,?y116⟩) ?rest116
  case y116=>intro w hSw;go_simp;(try with_reducible rfl)
  simp only [Act.put,List.setIfInBounds_toArray,List.set_cons_zero,List.set_cons_succ]
  refine Chain.take (i:=56) (oi:=⟨some 128,_,_,_,_,_⟩) (v:=?v117) rfl (by kernel_rfl) (by kernel_rfl) (Or.inl ⟨by rfl,?y117⟩) ?rest117
  case y117=>intro w hSw;clear hSw;go_simp;(try with_reducible rfl)
  simp only [Act.put,List.setIfInBounds_toArray,List.set_cons_zero,List.set_cons_succ]
  refine Chain.take (i:=57) (oi:=⟨some 129,_,_,_,_,_⟩) (v:=?v118) rfl (by kernel_rfl) (by kernel_rfl) (Or.inl ⟨by rfl,?y118⟩) ?rest118
  case y118=>intro w hSw;clear hSw;go_simp;(try with_reducible rfl)
  simp only [Act.put,List.setIfInBounds_toArray,List.set_cons_zero,List.set_cons_succ]
  refine Chain.take (i:=58) (oi:=⟨some 130,_,_,_,_,_⟩) (v:=?v119) rfl (by kernel_rfl) (by kernel_rfl) (Or.inl ⟨by rfl,?y119⟩) ?rest119
  case y119=>intro w hSw;clear hSw;go_simp;(try with_reducible rfl)
  simp only [Act.put,List.setIfInBounds_toArray,List.set_cons_zero,List.set_cons_succ]
  refine Chain.take (i:=59) (oi:=⟨some 131,_,_,_,_,_⟩) (v:=?v120) rfl (by kernel_rfl) (by kernel_rfl) (Or.inl ⟨by rfl,?y120⟩) ?rest120
  case y120=>intro w hSw;clear hSw;go_simp;(try with_reducible rfl)
  simp only [Act.put,List.setIfInBounds_toArray,List.set_cons_zero,List.set_cons_succ]
  refine Chain.last (by kernel_rfl) (fun w hSw=>?_)
  refine wpAnyH_ready (rs:=[60]) (by kernel_rfl) (by simp) ?_
  refine AllReadyH.cons (o:=⟨some 4,_,_,_,_,_⟩) rfl (fun K hK=>?_) AllReadyH.nil
  have M8:=hSw
  go_simp
  refine hK.out _ _ trivial (fun _=>?_)
  clear hK
  try simp only [List.setIfInBounds_toArray,List.set_cons_zero,List.set_cons_succ]
  refine wpAnyH_done (by kernel_rfl) ?_ _
  skip
  go_wp2_with fail
  go_ret
  exact ⟨rfl,M8.out.bel⟩
end Go.Proofs.Ytaffjfajjpgjpaa
