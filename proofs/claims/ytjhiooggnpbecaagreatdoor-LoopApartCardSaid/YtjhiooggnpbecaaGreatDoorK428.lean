/- Lemmas. -/
import Derived.Test.YtjhiooggnpbecaaGreatDoorK427
import Derived.Test.YtjhiooggnpbecaaGreatDoorK408
set_option linter.unusedVariables false
set_option maxHeartbeats 2000000
set_option maxRecDepth 100000
namespace Go.Proofs.YtjhiooggnpbecaaGreatDoor
open Tryz
variable {l:List Nat} {xs:List Value} {B b bl br cap g g' k n rb tO:Nat} {T:TypeId} {v:Value} {W W' w w' w1 w2 wr:World}
section
open Go.RowKit Pl
def passB (since time now:Nat):Bool:=decide (addS since time≤now)
theorem nC (since time now:Nat) (h1:since≤↑ω) (h2:time≤↑ω) (w:World):
  Calls prog 180 #[↑since,↑time,↑now] w fun e w'=>e=.returned (.bool (passB since time now))∧Below ↑w w w':=by
 have HA:=lh (gM w w.heap.size 2 since time rfl h1 h2);have hp:passB since time now=decide (addS since time≤now):=rfl;rw [hp];clear hp h1 h2;generalize addS since time=z at *;go_enter func180,ntmps180;go_wp2_with fail;refine (HA.out).mono ?_;rintro e w' ⟨rfl,rfl⟩;go_wp2_with fail;go_ret;exact ⟨rfl,(Below.refl _ _).alloc (Nat.le_refl _) _⟩
theorem KD (w:World) (a b:Nat):Row (w.alloc (.cells #[↑a,↑b] 22)) w.heap.size 0 [a,b]:=by
 intro i hi;have hb:=Blk.new w 22 #[↑a,↑b]
 match i,hi with
 | 0,_=>exact hb.cell (i:=0) rfl
 | 1,_=>exact hb.cell (i:=1) rfl
theorem KF {x0:Nat} (a b:Nat) (ha:a≤↑ω) (hb:b≤↑ω) (w:World) (hr:Row w x0 0 [a,b]):
  Calls prog 60 #[.slice (some ⟨x0,0,none⟩) 2 2] w fun e w'=>e=.returned ↑(addS a b:Nat)∧w=w':=by
 have:=i6 x0 0 2 [a,b] w (by simp) (fun z hz=>by simp at hz;rcases hz with rfl | rfl <;> assumption) hr;rw [sumS_two] at this;exact this
def kE (s:LS) (p:Pk):Bool:=s.topped && decide (addS p.n s.reorder≤s.top)
theorem nW (b rb g:Nat) (x:Kp) (s:LS) (w:World) (h:LAt w b rb g s) (hs:s.ok) (gn:Bool) (hx:Blk w x.b 208 (Kp.cells x.p gn)) (hp:x.p.ok):
  Calls prog 179 #[↑(π b),↑(π x.b)] w fun e w'=>e=.returned (.bool (kE s x.p))∧Below ↑w w w':=by
 have h5:=h.head.cell (i:=5) (v:=↑s.reorder) rfl;have h7:=h.head.cell (i:=7) (v:=↑s.top) rfl;have h8:=h.head.cell (i:=8) (v:=.bool s.topped) rfl;have k0:=(fH hx).1;have hn:x.p.n≤18446744073709551615:=by have:=hp.n;omega
 have hr:=hs.reorder;have HE:Hid (kE s x.p=(s.topped && decide (addS x.p.n s.reorder≤s.top))):=lh rfl;have HAdd:=lh (KF x.p.n s.reorder hn hr (w.alloc (.cells #[↑x.p.n,↑s.reorder] 22)).drew (KD w x.p.n s.reorder));clear h hs hx hp hn hr;generalize x.p.n=n at *;generalize s.reorder=r at *;generalize s.top=t at *;generalize kE s x.p=ov at *;generalize addS n r=z at *;cases ht:s.topped
 ·rw [ht] at h8 HE
  go_enter func179,ntmps179;go_wp2_with fail;go_quiet (fail)
  go_wp2_with fail;go_ret;exact ⟨by rw [HE.out];rfl,aB.below ⟨nq,rfl⟩ _⟩
 ·rw [ht] at h8 HE
  have H5:w.drew.cell? ⟨b,5,none⟩=some ↑r:=h5;have H7:w.drew.cell? ⟨b,7,none⟩=some ↑t:=h7;have H8:w.drew.cell? ⟨b,8,none⟩=some (.bool true):=h8;have K0:w.drew.cell? ⟨x.b,0,none⟩=some ↑n:=k0;have G5:=lh h5;have G7:=lh h7;have G8:=lh h8;have J0:=lh k0;clear h5 h7 h8 k0;go_enter func179,ntmps179;go_wp2_with fail;go_region_held3 (fun w'=>w'.cell? ⟨b,5,none⟩=some ↑r∧w'.cell? ⟨b,7,none⟩=some ↑t∧w'.cell? ⟨b,8,none⟩=some (.bool true)∧w'.cell? ⟨x.b,0,none⟩=some ↑n)
   (first | exact ⟨H5,H7,H8,K0⟩ | exact ⟨aQ (w:=w) G5.out _,aQ (w:=w) G7.out _,aQ (w:=w) G8.out _,aQ (w:=w) J0.out _⟩)
   (first | (go_at_call 60;refine (HAdd.out).mono ?_;rintro e w' ⟨rfl,rfl⟩))
  go_wp2_with fail;go_ret;exact ⟨by rw [HE.out];rfl,(((Below.refl w.heap.size w).alloc (Nat.le_refl _) _).trans ((aB.drew _).below _))⟩
end

section
open Go.RowKit Go.Shelf
attribute [local go_sem] Oper.semAt_some
theorem eR {row:Option Nat} (hg:W.grownBy W' row) (hr:∀r,row=some r→∃o:Obj,W.heap[r]? =some o∧o.isCells=false):∀x T cs,Blk W x T cs→W'.heap[x]? =W.heap[x]?:=fun x T cs hx=>
 hg.block x hx.lt (fun e=>by
  obtain ⟨o,ho,hc⟩:=hr x e.symm;unfold Blk at hx;rw [hx] at ho;cases ho;cases hc)
theorem bZ {L:List Nat} (h:Fr W W' L) (hL:∀x∈L,↑W≤x∨∃T cs,Blk W x T cs):KeepsFrom B W W':=⟨h.size,fun k o _ hk ho=>by
 have hlt:=(Array.getElem?_eq_some_iff.1 hk).1;refine (h.block k hlt (fun hm=>?_)).trans hk;rcases hL k hm with c | ⟨T,cs,hb⟩
 ·omega
 ·unfold Blk at hb
  rw [hb] at hk;cases hk;cases ho⟩
def dA (ks:List Kp) (b rb g bl br:Nat):List Nat:=bl :: br :: b :: rb :: g :: ks.map Kp.b
theorem RdR.keepX {ks:List Kp} {fr:Nat} {pre:List Kp} (h:RdR ks b rb g bl br fr tO pre W) (k:∀x T cs,x∈dA ks b rb g bl br→Blk W x T cs→W'.heap[x]? =W.heap[x]?):RdR ks b rb g bl br fr tO pre W':=by
 have mv:∀{x T cs},x∈dA ks b rb g bl br→Blk W x T cs→Blk W' x T cs:=fun {x T cs} hx hb=>by unfold Blk;rw [k x T cs hx hb];exact hb
 have mk:∀x∈ks,x.b∈dA ks b rb g bl br:=fun x hx=>by unfold dA;exact List.mem_cons_of_mem _ (List.mem_cons_of_mem _ (List.mem_cons_of_mem _ (List.mem_cons_of_mem _ (List.mem_cons_of_mem _ (List.mem_map_of_mem hx)))))
 obtain ⟨cs,h1,h2⟩:=h.rd.head;refine ⟨mv (by simp [dA]) h.hl,mv (by simp [dA]) h.hr,⟨⟨cs,mv (by simp [dA]) h1,h2⟩,h.rd.row.blk2 fun x T cs hx hb=>k x T cs (by rcases hx with rfl | rfl <;> simp [dA]) hb,fun x hx=>?_⟩,fun x hx hp=>mv (mk x hx) (h.gone x hx hp)⟩;obtain ⟨gn,hg⟩:=h.rd.kept x hx;exact ⟨gn,mv (mk x hx) hg⟩
theorem RdR.below {ks:List Kp} {fr:Nat} {pre:List Kp} (h:RdR ks b rb g bl br fr tO pre W) (k:Below ↑W W W'):RdR ks b rb g bl br fr tO pre W':=h.keepX fun x T cs _ hb=>k.block x hb.lt
theorem RdR.fr {ks:List Kp} {b rb g bl br fr tO:Nat} {pre:List Kp} {W W':World} {L:List Nat} (h:RdR ks b rb g bl br fr tO pre W) (k:Fr W W' L) (hd:∀x∈dA ks b rb g bl br,x ∉ L):RdR ks b rb g bl br fr tO pre W':=h.keepX fun x T cs hx hb=>k.block x hb.lt (hd x hx)
theorem RdR.more {ks:List Kp} {fr:Nat} {pre:List Kp} (h:RdR ks b rb g bl br fr tO pre W) (x:Kp):RdR ks b rb g bl br fr tO (pre ++ [x]) W:=⟨h.hl,h.hr,h.rd,fun k hk hp=>h.gone k hk (fun hm=>hp (by rw [List.map_append];exact List.mem_append_left _ hm))⟩
theorem RdR.lt {ks:List Kp} {b rb g bl br fr tO:Nat} {pre:List Kp} {W:World} (h:RdR ks b rb g bl br fr tO pre W):∀x∈dA ks b rb g bl br,x < W.heap.size:=by
 intro x hx;simp only [dA,List.mem_cons,List.mem_map] at hx;obtain ⟨cs,h1,_⟩:=h.rd.head;rcases hx with rfl | rfl | rfl | rfl | rfl | ⟨k,hk,rfl⟩
 ·exact h.hl.lt
 ·exact h.hr.lt
 ·exact h1.lt
 ·exact h.rd.row.lt.1
 ·exact h.rd.row.lt.2
 ·obtain ⟨gn,hg⟩:=h.rd.kept k hk;exact hg.lt
theorem LAt.rdr {fr:Nat} {s:LS} (h:LAt w b rb g s) (hl:Blk w bl 97 #[↑(π b)]) (hr:Blk w br 190 #[↑fr,↑tO]):RdR s.ks b rb g bl br fr tO [] w:=
 ⟨hl,hr,h.rd,fun k hk _=>h.kept k hk⟩
theorem FC:(prog.info? 177).map (fun i=>(i.zero,i.size,i.bytes))=some (some (.pointer none),1,8):=by kernel_rfl
def QR (w:World) (v:Value) (l:List Nat):Prop:=w.ownsRow 0 177 1 v l.length (l.map pv)
theorem QR.nil (w:World):QR w (.slice none 0 0) []:=World.ownsRow_nil w 0 _ 1
theorem QR.same (h:QR w v l) (hk:∀g cs,v.ownBlock=some g→Blk w g 177 cs→w'.heap[g]? =w.heap[g]?):QR w' v l:=by
 refine ⟨h.1,?_⟩;rcases h.2 with c | ⟨g,cap,cur,e,hb,hg,k⟩
 ·exact .inl c
 ·exact .inr ⟨g,cap,cur,e,hb,by rw [hk g cur (by rw [e];rfl) hg];exact hg,k⟩
theorem QR.form (h:QR w v l):∃p c,v=.slice p l.length c:=by
 rcases h.2 with ⟨e,k⟩ | ⟨g,cap,cur,e,_⟩
 ·exact ⟨none,0,by rw [e,k]⟩
 ·exact ⟨_,cap,e⟩
theorem QR.blk (h:QR w v l) (e:v.ownBlock=some g):∃cs,Blk w g 177 cs:=by
 rcases h.2 with ⟨rfl,_⟩ | ⟨g',cap,cur,rfl,_,hg,_⟩
 ·cases e
 ·simp [Value.ownBlock] at e;subst e;exact ⟨_,hg⟩
theorem QR.nums {p:Option Addr} (h:QR w (.slice p n cap) l):jK w p l:=by
 intro hp;rcases h.2 with ⟨e,k⟩ | ⟨g,c,cur,e,_,hb,_,_,h3,h4⟩
 ·omega
 ·injection e with e1 e2 e3
  subst e1;refine ⟨g,0,rfl,Blk.lt hb,fun i hi=>?_⟩;rw [Nat.zero_add];refine Blk.cell hb ?_;have e':(l.map pv)[i]? =some (pv (l.getD i 0)):=by simp [List.getD_eq_getElem?_getD,hi]
  rw [← h4,List.getElem?_take_of_lt (by omega)] at e';simpa using e'
structure AsI (ks:List Kp) (b rb g bl br fr tO:Nat) (w:World) (pre:List Kp) (W:World):Prop where
 rd:RdR ks b rb g bl br fr tO pre W
 box:∃v,Blk W w.heap.size 252 #[v]∧W.ownsRow w.heap.size 177 1 v (aP pre).length ((aP pre).map pv)
theorem gL (h:w.ownsRow B T k v n xs) (hk:∀g cs,v.ownBlock=some g→B≤g→Blk w g T cs→w'.heap[g]? =w.heap[g]?):w'.ownsRow B T k v n xs:=by
 refine ⟨h.1,?_⟩;rcases h.2 with c | ⟨g,cap,cur,e,hb,hg,k⟩
 ·exact .inl c
 ·exact .inr ⟨g,cap,cur,e,hb,by rw [hk g cur (by rw [e];rfl) hb hg];exact hg,k⟩
theorem lG (h:w.ownsRow B T k v n xs) (e:v.ownBlock=some g):B≤g∧∃cs,Blk w g T cs:=by
 rcases h.2 with ⟨rfl,_⟩ | ⟨g',cap,cur,rfl,hb,hg,_⟩
 ·cases e
 ·simp [Value.ownBlock] at e;subst e;exact ⟨hb,_,hg⟩
theorem FD (h:w.ownsRow B T k v n xs):w.ownsRow 0 T k v n xs:=by
 refine ⟨h.1,?_⟩;rcases h.2 with c | ⟨g,cap,cur,e,hb,r⟩
 ·exact .inl c
 ·exact .inr ⟨g,cap,cur,e,Nat.zero_le _,r⟩
theorem AsI.keepX {ks:List Kp} {b rb g bl br fr tO:Nat} {w:World} {pre:List Kp} {W W':World} (h:AsI ks b rb g bl br fr tO w pre W) (k:∀x T cs,Blk W x T cs→W'.heap[x]? =W.heap[x]?):AsI ks b rb g bl br fr tO w pre W':=by
 obtain ⟨v,h1,h2⟩:=h.box;exact ⟨h.rd.keepX fun x T cs _ hb=>k x T cs hb,v,by unfold Blk;rw [k _ _ _ h1];exact h1,gL h2 fun g cs _ _ hb=>k g _ cs hb⟩
theorem xG (ks:List Kp) (b rb g bl br fr tO:Nat) (w:World) (B:Nat) (hB:↑w≤B):OwnFrom B (fun pre W=>AsI ks b rb g bl br fr tO w pre W∧Below ↑w w W):=
 fun pre X Y row hs hg hr=>⟨hs.1.keepX (eR hg (fun r e=>(hr r e).2)),hs.2.grown hg hs.2.size (fun k e=>Nat.le_trans hB (hr k e).1)⟩
theorem FE {ks:List Kp} {fr:Nat} {pre:List Kp} {x:Kp} {o:Obj} (hlt:∀y∈dA ks b rb g bl br,y < w.heap.size) (h:AsI ks b rb g bl br fr tO w pre W) (hB:Below ↑w w W)
  (hb:Blk W w.heap.size 252 #[v]) (hv:W.ownsRow w.heap.size 177 1 v (aP pre).length ((aP pre).map pv)) (hn:n=(aP pre).length + 1)
  (hown:w1.ownsRow w.heap.size 177 1 (.slice (some ⟨g',0,none⟩) n cap) ((aP pre).length + 1) ((aP pre).map pv ++ [.pointer (some ⟨x.b,0,none⟩)])) (hg:(W.alloc o).grownBy w1 v.ownBlock) (B:Nat):
  KeepsFrom B W (w1.setCell ⟨w.heap.size,0,none⟩ (.slice (some ⟨g',0,none⟩) n cap))∧AsI ks b rb g bl br fr tO w (pre ++ [x]) (w1.setCell ⟨w.heap.size,0,none⟩ (.slice (some ⟨g',0,none⟩) n cap))∧Below ↑w w (w1.setCell ⟨w.heap.size,0,none⟩ (.slice (some ⟨g',0,none⟩) n cap)):=by
 subst hn;have f1:Fr W w1 v.ownBlock.toList:=((Fr.refl W v.ownBlock.toList).alloc o).trans (l':=v.ownBlock.toList) ⟨hg.os,hg.tape,hg.output,hg.size,fun k hk hl=>hg.block k hk (fun e=>hl (by rw [← e];simp))⟩ (fun y hy=>.inl hy);have vb:∀k∈v.ownBlock.toList,↑w≤k∧k≠w.heap.size∧∃cs,Blk W k 177 cs:=fun k hk=>by
  have e:v.ownBlock=some k:=by
   cases h:v.ownBlock with
   | none=>rw [h] at hk;cases hk
   | some z=>rw [h] at hk;simp at hk;rw [hk]
  obtain ⟨h1,cs,h2⟩:=lG hv e;exact ⟨h1,h2.ty hb (by decide),cs,h2⟩
 have f2:Fr W (w1.setCell ⟨w.heap.size,0,none⟩ (.slice (some ⟨g',0,none⟩) ((aP pre).length + 1) cap)) (w.heap.size :: v.ownBlock.toList):=(f1.mono (fun y hy=>.inl (List.mem_cons_of_mem _ hy))).set (.inl List.mem_cons_self) 0 _;have hb1:Blk w1 w.heap.size 252 #[v]:=(hb.alloc o).grown hg (fun e=>(vb _ (by rw [← e];simp)).2.1 rfl);have e1:aP (pre ++ [x])=aP pre ++ [x.b + 1]:=by simp [aP]
 refine ⟨bZ f2 (fun y hy=>?_),⟨(h.rd.fr f2 (fun y hy hm=>?_)).more x,_,hb1.set 0 _,?_⟩,uA hB f2 hB.size (fun y hy=>?_)⟩
 ·rcases List.mem_cons.1 hy with rfl | hy
  ·exact .inr ⟨_,_,hb⟩
  ·obtain ⟨_,_,cs,hc⟩:=vb y hy;exact .inr ⟨_,cs,hc⟩
 ·have:=hlt y hy
  rcases List.mem_cons.1 hm with rfl | hm
  ·omega
  ·have:=(vb y hm).1;omega
 ·rw [e1,List.length_append,List.map_append]
  refine gL hown fun k cs e _ hk=>Below.heap_setCell _ _ _ _ ?_;show k≠w.heap.size
  exact hk.ty hb1 (by decide)
 ·rcases List.mem_cons.1 hy with rfl | hy
  ·exact Nat.le_refl _
  ·exact (vb y hy).1
theorem nX (b rb g bl br fr tO:Nat) (ks:List Kp) (w:World) (hR:RdR ks b rb g bl br fr tO [] w) (hnd:(ks.map Kp.b).Nodup) (hri:ks.Pairwise fun x y=>x.p.n < y.p.n) (hlen:ks.length≤6000):
  Calls prog 216 #[.slice none 0 0,.func (.func 160) #[] #[↑(π bl),↑(π br)]] w
   fun e w'=>∃v,e=.returned v∧QR w' v (aP (yK ks fr tO))∧(∀k,v.ownBlock=some k→↑w≤k)∧Below ↑w w w':=by
 have hB0:Below ↑w w (w.alloc (.cells #[.slice none 0 0] 252)):=(Below.refl _ _).alloc (Nat.le_refl _) _;have HLt:=lh hR.lt;have hI0:AsI ks b rb g bl br fr tO w [] (w.alloc (.cells #[.slice none 0 0] 252)):=⟨hR.below ((Below.refl _ _).alloc (Nat.le_refl _) _),_,Blk.new _ _ _,World.ownsRow_nil _ _ _ _⟩;have HYl:Hid ((yK ks fr tO).length≤6000):=lh (Nat.le_trans (List.length_filter_le _ _) hlen);obtain ⟨i0,hi,hz0,hz1,hz2⟩:=info_parts FC;have HI:=lh hi;have HZ0:=lh hz0;have HZ1:=lh hz1;have HZ2:=lh hz2;have HS:=lh (iS 5 b rb g bl br fr tO ks (by omega) hnd hri hlen);clear hi hz0 hz1 hz2 hR hnd hri hlen;refine (callsIn_wide (n:=6)).1 ?_;refine callsIn_of_wp_marks func216 rfl trivial ?_ rfl;simp only [ntmps216,List.size_toArray,List.length_cons,List.length_nil,Nat.reduceAdd,Nat.reduceSub,Array.replicate_succ,Array.replicate_zero,List.push_toArray,List.append_toArray,List.nil_append,List.cons_append]
 gi_wp2
 refine fB.1 (gf:=160) (lb:=#[↑(π bl),↑(π br)]) rfl (enters_of func160 (by kernel_rfl) rfl) HS.out (fun _=>rfl)
  (fun pre W=>AsI ks b rb g bl br fr tO w pre W∧Below ↑w w W) (fun _ _ _=>False) (xG ks b rb g bl br fr tO w _ (by simp)) (fun _=>ownFrom_pure _ _) (fun pre A h=>h.1.rd) ⟨hI0,hB0⟩
  (fun x=>{tmps:=#[.slice none 0 0,.func (.func 160) #[] #[↑(π bl),↑(π br)],↑(π w.heap.size),undef,.slice none 0 0,↑(π x.b),.func (.func 160) #[] #[↑(π bl),↑(π br)],↑(π x.b),undef,undef,undef,undef,undef],defers:=[]})
  ?assign ?body ?done (fun D c pre W _ _ _ h _=>h.elim)
 case assign=>
  intro l x W K hK
  gi_wp2
  exact hK
 case body=>
  rintro l pre x W ⟨hI,hB⟩ hok;obtain ⟨v,hb,hv⟩:=hI.box;have c0:=hb.cell (i:=0) rfl;have f0:=hb.free 0;have HIx:=lh hI;have HB:=lh hB;have Hb:=lh hb;have HV:=lh hv;have hpl:pre.length + 1≤6000:=by
   have:=hok.length_le;rw [List.length_append] at this;exact Nat.le_trans this HYl.out
  have hil:(aP pre).length≤6000:=by rw [dG];omega
  clear hI hB hb hv hok hI0 hB0
  gi_wp2_with (gi_at_builtin;refine wpListIn_append_own _ rfl _ _ 252 rfl w.heap.size 177 i0 (.pointer none) 1 8 underlying252 HI.out HZ0.out HZ1.out HZ2.out rfl (by decide) v _ _ rfl (HV.out.alloc _) ⟨W.heap.size,0,none⟩ 1 1 [↑(π x.b)] rfl rfl (cell_one_new _ _ _) (by simp [Value.oneCell']) (by unfold maxLen;omega) (by omega) (by have:=HB.out.size;simp;omega) ?_;intro v' w1 hown' hgrow _;obtain ⟨g',cap',rfl⟩:=ownsRow_succ hown';have HOw:=lh hown';have HGr:=lh hgrow;have u0:w1.cell? ⟨w.heap.size,0,none⟩=some v:=((Hb.out.alloc _).grown hgrow (fun e=>(lG HV.out e.symm).2.elim fun cs hc=>hc.ty Hb.out (by decide) rfl)).cell (i:=0) rfl;have u1:=((Hb.out.alloc _).grown hgrow (fun e=>(lG HV.out e.symm).2.elim fun cs hc=>hc.ty Hb.out (by decide) rfl)).free 0;clear hown' hgrow)
  exact FE HLt.out HIx.out HB.out Hb.out HV.out rfl HOw.out HGr.out _
 case done=>
  rintro D xs W hD hDl rfl ⟨hI,hB⟩ hK;have hP:=(xG ks b rb g bl br fr tO w w.heap.size (Nat.le_refl _)).putObj (.deferred none) ⟨hI,hB⟩ (Nat.le_trans (by simp) hD) hK rfl;obtain ⟨v,hb,hv⟩:=hI.box;have c0:=hb.cell (i:=0) rfl;have hv2:=ownsRow_putObj hv (.deferred none) hK rfl;have HV:=lh hv;have HV2:=lh hv2;have HP:=lh hP.2;have HK:=lh hK;clear hI hB hb hv hv2 hP hI0 hB0 hD hDl hK
  gi_wp2
  refine ⟨by simp,.inl ⟨_,_,rfl,run_takeDeferred HK.out,?_⟩⟩;refine ⟨v,?_,v,rfl,FD HV2.out,fun k e=>(lG HV2.out e).1,HP.out⟩;simp [results,Tryz.f216]
theorem lU (b rb g bl br fr tO:Nat) (ks:List Kp) (w:World) (hR:RdR ks b rb g bl br fr tO [] w) (hnd:(ks.map Kp.b).Nodup) (hri:ks.Pairwise fun x y=>x.p.n < y.p.n) (hlen:ks.length≤6000):
  Calls prog 165 #[.func (.func 160) #[] #[↑(π bl),↑(π br)]] w
   fun e w'=>∃v,e=.returned v∧QR w' v (aP (yK ks fr tO))∧(∀k,v.ownBlock=some k→↑w≤k)∧Below ↑w w w':=by
 have HA:=lh (nX b rb g bl br fr tO ks w hR hnd hri hlen);clear hR hnd hri hlen;go_enter func165,ntmps165;go_wp2_with fail;refine (HA.out).mono ?_;rintro e w' ⟨v,rfl,h1,h2,h3⟩;have H1:=lh h1;have H2:=lh h2;have H3:=lh h3;clear h1 h2 h3 HA;go_wp2_with fail;go_ret;exact ⟨v,rfl,H1.out,H2.out,H3.out⟩
end

section
open Go.RowKit
def LS.with_ (s:LS) (l:List Kp):LS:={s with ks:=l}
theorem LS.sub_ok {s:LS} (h:s.ok) {l:List Kp} (hl:l.Sublist s.ks):(s.with_ l).ok:=
 ⟨h.nodup.sublist (hl.map Kp.b),h.rise.sublist hl,fun k hk=>h.lt k (hl.mem hk),fun k hk=>h.pk k (hl.mem hk),fun hm=>(h.mono hm).sublist hl,h.next,h.reorder,h.top,h.un⟩
theorem sR {s:LS} {l:List Kp} (h:aW l=aW s.ks) (rb rb':Nat):cI rb' (s.with_ l)=(cI rb s).setIfInBounds 0 ↑(π rb'):=by
 unfold cI LS.with_ tot cT;simp [h]
theorem iU {s:LS} {l:List Kp} (h:aW l=aW s.ks) (rb:Nat):cI rb (s.with_ l)=cI rb s:=by
 unfold cI LS.with_ tot cT;simp [h]
def FF:List Kp→Value
 | []=>.pointer none
 | k :: _=>↑(π k.b)
def FG:List Kp→Bool
 | []=>false
 | _ :: _=>true
theorem FH (h:cR w b g l):w.cell? ⟨b,2,none⟩=some (.int .i64 (l.length:Int)):=by
 obtain ⟨q,h1,rfl,h3⟩:=h;rw [RS.len_items];exact h3.head.cell (i:=2) rfl
def OX (w:World) (rb:Nat):Nat:=(intOf ((w.cell? ⟨rb,2,none⟩).getD undef)).toNat
theorem xH (h:cR w b g l):OX w b=l.length:=by
 unfold OX;rw [FH h];simp [intOf]
def KG (ks:List Kp) (p:Value) (q:Bool):Prop:=p=FF ks∧q=FG ks
theorem o9 (b rb g:Nat) (ks:List Kp) (w:World) (h:LRd w b rb g ks) (p:Value) (q:Bool) (hp:KG ks p q):
  Calls prog 163 #[↑(π rb),.int .i64 0] w fun e w'=>e=.returned (.tuple #[p,.bool q])∧aB w w':=by
 obtain ⟨rfl,rfl⟩:=hp;cases ks with
 | nil=>exact sJ rb g 0 (aP []) w h.row (.inr (by simp [aP]))
 | cons k t=>exact vB b rb g 0 (k :: t) w h (by simp)
structure qP (w:World) (b rb g:Nat) (s:LS) (ks:List Kp) (wr:World):Prop where
 led:∃g',LAt wr b rb g' (s.with_ ks)∧(g'=g∨w.heap.size≤g')
 suf:ks <:+ s.ks
 out:aW ks=aW s.ks
 fr:Fr w wr (aE b rb g s)
theorem qP.drawn {w wr w2:World} {b rb g:Nat} {s:LS} {ks:List Kp} (h:qP w b rb g s ks wr) (k:aB wr w2):qP w b rb g s ks w2:=by
 obtain ⟨⟨g',h1,h2⟩,h3,h4,h5⟩:=h;exact ⟨⟨g',h1.drawn k,h2⟩,h3,h4,h5.drawn k⟩
theorem zZ {s:LS} {k:Kp} {t:List Kp} (hl:LAt wr b rb g' (s.with_ (k :: t))) (hg:g'=g∨w.heap.size≤g') (hs:(k :: t) <:+ s.ks) (ho:aW (k :: t)=aW s.ks) (hgn:k.gone=true) (hf:Fr w wr (aE b rb g s))
  (hp:kX wr rb g' (mT (k.b + 1) true) (aP t) (mT (k.b + 1) true) w2):qP w b rb g s t w2:=by
 obtain ⟨_,⟨g2,h1,h2⟩,h3⟩:=hp;have e1:aW t=aW s.ks:=by rw [← ho,kO,hgn];rfl
 have hsub:∀y∈t,y∈s.ks:=fun y hy=>hs.mem (List.mem_cons_of_mem _ hy);obtain ⟨c2,hc2⟩:=hl.row.body;obtain ⟨c1,hc1⟩:=hl.row.head;have hg2:∀{y T cs},Blk wr y T cs→T≠254→T≠177→y ∉ [rb,g']:=fun {y T cs} hy k1 k2 hm=>by
  simp at hm
  rcases hm with rfl | rfl
  ·exact hy.ty hc1 k1 rfl
  ·exact hy.ty hc2 k2 rfl
 refine ⟨⟨g2,⟨?_,h1,fun y hy=>?_⟩,?_⟩,(List.suffix_cons k t).trans hs,e1,?_⟩
 ·have:=hl.head.fr h3 (hg2 hl.head (by decide) (by decide))
  rw [iU ho] at this;rw [iU e1];exact this
 ·have hk:=hl.kept y (List.mem_cons_of_mem _ hy)
  exact hk.fr h3 (hg2 hk (by decide) (by decide))
 ·rcases h2 with rfl | h2
  ·exact hg
  ·right;have:=hf.size;omega
 ·refine hf.trans h3 (fun x hx=>?_)
  simp at hx
  rcases hx with rfl | rfl
  ·left;simp [aE]
  ·rcases hg with rfl | hg
   ·left;simp [aE]
   ·exact .inr hg
structure kF (w:World) (b rb g:Nat) (s:LS) (e:Ending) (w':World):Prop where
 e:e=.returned (.tuple #[])
 led:∃rb' g' ks,LAt w' b rb' g' (s.with_ ks)∧ks.Sublist s.ks∧aW ks=aW s.ks∧∀x∈aE b rb' g' (s.with_ ks),x∈aE b rb g s∨w.heap.size≤x
 fr:Fr w w' (aE b rb g s)
theorem sS {s:LS} {ks:List Kp} (h:qP w b rb g s ks w'):kF w b rb g s (.returned (.tuple #[])) w':=by
 obtain ⟨⟨g',h1,h2⟩,h3,h4,h5⟩:=h;refine ⟨rfl,⟨rb,g',ks,h1,h3.sublist,h4,fun x hx=>?_⟩,h5⟩;simp only [aE,List.mem_cons,List.mem_map] at hx ⊢;rcases hx with rfl | rfl | rfl | ⟨k,hk,rfl⟩
 ·simp
 ·simp
 ·rcases h2 with rfl | h2
  ·simp
  ·exact .inr h2
 ·exact .inl (.inr (.inr (.inr ⟨k,h3.mem hk,rfl⟩)))
theorem lH {ks:List Kp} (h:∀k∈ks,k.p.ok):yK ks 0 18446744073709551615=aW ks:=by
 unfold yK aW;apply List.filter_congr
 intro k hk;have:=(h k hk).n;have:decide (k.p.n≤↑ω)=true:=by simp;omega
 simp [inK,this]
theorem AA (ks:List Kp):aW (aW ks)=aW ks:=by unfold aW;rw [List.filter_filter];simp
theorem xI {w1 w2 w3:World} {rb':Nat} {s:LS} {ks:List Kp} (hp:∀k∈s.ks,k.p.ok) (h:qP w b rb g s ks wr) (k1:Below ↑wr wr w3) (hr:cR w3 rb' g' (aP (aW ks))) (h1:↑wr≤rb') (h2:↑wr≤g'):
  kF w b rb g s (.returned (.tuple #[])) (w3.setCell ⟨b,0,none⟩ ↑(π rb')):=by
 obtain ⟨⟨g0,h3,h4⟩,h5,h6,h7⟩:=h;have hsz:=h7.size;have hbw:=h3.head.keep k1;have hb:=hbw.set 0 ↑(π rb');have e1:aW (aW ks)=aW s.ks:=by rw [AA,h6]
 rw [iU h6,← sR e1] at hb;obtain ⟨c1,hc1⟩:=hr.head;obtain ⟨c2,hc2⟩:=hr.body;refine ⟨rfl,⟨rb',g',aW ks,⟨hb,hr.set_other (hc1.ty hbw (by decide)) (hc2.ty hbw (by decide)),fun y hy=>?_⟩,(eY ks).trans h5.sublist,e1,fun x hx=>?_⟩,(h7.below k1).set (.inl (by simp [aE])) 0 _⟩
 ·have hk:=(h3.kept y ((eY ks).mem hy)).keep k1
  exact hk.set_other 0 _ (hk.ty hbw (by decide))
 ·simp only [aE,List.mem_cons,List.mem_map] at hx ⊢
  rcases hx with rfl | rfl | rfl | ⟨k,hk,rfl⟩
  ·simp
  ·right;omega
  ·right;omega
  ·exact .inl (.inr (.inr (.inr ⟨k,h5.mem ((eY ks).mem hk),rfl⟩)))

theorem jV (b rb g:Nat) (s:LS) (w:World) (h:LAt w b rb g s) (hs:s.ok):
  Calls prog 115 #[↑(π b)] w (kF w b rb g s):=by
 have l0:=h.rd.cell0;obtain ⟨p0,q0,HV0⟩:∃p q,Hid (KG s.ks p q):=⟨_,_,lh ⟨rfl,rfl⟩⟩;have HF:=lh (o9 b rb g s.ks w h.rd p0 q0 HV0.out);have HH:=lh h;have HS:=lh hs;have HLen:Hid (s.ks.length≤6000):=lh (Nat.le_trans (LS.len_le hs) hs.next);have ho:=LS.out_le hs;obtain ⟨o,hoo⟩:∃o,(aW s.ks).length=o:=⟨_,rfl⟩;rw [hoo] at ho;have HOut:=lh hoo;clear h hs hoo;go_enter func115,ntmps115;go_wp2_with fail;refine (HF.out).mono ?_;rintro e w1 ⟨rfl,hd⟩;have HI0:Hid (qP w b rb g s s.ks w1):=lh (qP.drawn ⟨⟨g,HH.out,.inl rfl⟩,List.suffix_refl _,rfl,Fr.refl _ _⟩ hd);clear hd HF l0;go_wp2_with fail;go_loopw [2,3] (fun p ok wr=>∃ks q,ok=.bool q∧KG ks p q∧qP w b rb g s ks wr) (fun _ _ wr=>OX wr rb)
 case atStart=>exact ⟨s.ks,_,rfl,HV0.out,HI0.out⟩
 case round=>
  obtain ⟨ks,q,rfl,hV,hI⟩:=hrel;clear HI0 HV0;rcases ks with _ | ⟨k,t⟩
  ·obtain ⟨rfl,rfl⟩:=hV
   simp only [FF,FG];have HI:=lh hI;obtain ⟨g1,hl1,_⟩:=hI.led;have HL:=lh (fun m=>(l9 b rb g1 (([]:List Kp)) (wr.drewN m) (hl1.rd.keep (aB.below ⟨m,rfl⟩ _))).mono (fun e w' (h:e=_∧wr.drewN m=w')=>(⟨h.1,h.2.symm⟩:e=_∧w'=wr.drewN m)));have r0:=hl1.rd.cell0;have r1:wr.cell? ⟨b,1,none⟩=some (.int .i64 (o:Int)):=hl1.head.cell (i:=1) (by rw [← HOut.out,← hI.out];rfl);have hkl:(([]:List Kp)).length≤6000:=Nat.le_trans hI.suf.length_le HLen.out;have HKs:=lh (LS.sub_ok HS.out hI.suf.sublist);have hwr:IntKind.i64.wrap (2 * (o:Int))=2 * (o:Int):=IntWalk.i64_in _ (by omega);clear hI hl1;generalize hn:(([]:List Kp)).length=nk at hkl HL;have HNk:=lh hn;clear hn;by_cases hgt:2 * o < nk
   ·have d1:decide (2 * (o:Int) < (nk:Int))=true:=decide_eq_true (by omega)
    have HGt:=lh hgt;clear hgt;go_wp2_with fail;go_quiet ((go_at_call 162;exact Calls.quiet_of_same (HL.out _)))
    have HI1:=lh (HI.out.drawn ⟨nq,rfl⟩);clear r0 r1 hwr HI HL;generalize wr.drewN nq=w1 at *;have HC:=lh (qO b w1);obtain ⟨g2,hl2,_⟩:=HI1.out.led;have HR2:=lh ((hl2.keep (fL w1 b 0 18446744073709551615)).rdr (xE w1 b 0 18446744073709551615) (xF w1 b 0 18446744073709551615));have HCol:=lh (lU b rb g2 w1.heap.size (w1.heap.size + 1) 0 18446744073709551615 (([]:List Kp)) (bw1 w1 b 0 18446744073709551615) HR2.out HKs.out.nodup HKs.out.rise (by rw [HNk.out];exact hkl));clear hl2;go_wp2_with fail;refine (HC.out).mono ?_;rintro e w2 ⟨rfl,rfl⟩;unfold bfn;go_wp2_with fail;refine (HCol.out).mono ?_;rintro e w3 ⟨v,rfl,h1,h2,h3⟩;obtain ⟨p,c,rfl⟩:=h1.form;have HB3:=lh (aD (fL w1 b 0 18446744073709551615) h3 (by rw [sQ];omega));have HNw:=lh (DK p c _ w3 h1.nums (by rw [dG];have:=List.length_filter_le (inK 0 18446744073709551615) (([]:List Kp));unfold yK;rw [HNk.out] at this;omega));clear h1 h2 h3 HC HCol HR2;go_wp2_with fail;refine (HNw.out).mono ?_;rintro e w4 ⟨⟨rb2,g3,rfl,h1,h2,h3⟩,h4⟩;have HB4:=lh (aD HB3.out h4 HB3.out.size);have HNP:=lh (xI (w1:=w1) (w2:=w1) HS.out.pk HI1.out HB4.out (by rw [← lH (ks:=([]:List Kp)) HKs.out.pk];exact h1) (Nat.le_trans HB3.out.size h2) (Nat.le_trans HB3.out.size h3));obtain ⟨g5,hl5,_⟩:=HI1.out.led;have f0:=(hl5.head.keep HB4.out).free 0;have c0:=(hl5.head.keep HB4.out).cell (i:=0) (v:=↑(π rb)) rfl;clear h1 h2 h3 h4 hl5 HNw;go_wp2_with fail;go_end0
    exact HNP.out
   ·have d1:decide (2 * (o:Int) < (nk:Int))=false:=decide_eq_false (by omega)
    clear hgt;go_wp2_with fail;go_quiet ((go_at_call 162;exact Calls.quiet_of_same (HL.out _)))
    have HI1:=lh (HI.out.drawn ⟨nq,rfl⟩);clear r0 r1 hwr HI HL;go_wp2_with fail;go_end0
    exact sS HI1.out
  ·obtain ⟨rfl,rfl⟩:=hV
   simp only [FF,FG];have hk7:wr.cell? ⟨k.b,7,none⟩=some (.bool k.gone):=by
    obtain ⟨g1,hl1,_⟩:=hI.led;exact (fH (hl1.kept k List.mem_cons_self)).2.2.2.2.2.2.2
   cases hgn:k.gone
   ·rw [hgn] at hk7
    have HI:=lh hI;obtain ⟨g1,hl1,_⟩:=hI.led;have HL:=lh (fun m=>(l9 b rb g1 (k :: t) (wr.drewN m) (hl1.rd.keep (aB.below ⟨m,rfl⟩ _))).mono (fun e w' (h:e=_∧wr.drewN m=w')=>(⟨h.1,h.2.symm⟩:e=_∧w'=wr.drewN m)));have r0:=hl1.rd.cell0;have r1:wr.cell? ⟨b,1,none⟩=some (.int .i64 (o:Int)):=hl1.head.cell (i:=1) (by rw [← HOut.out,← hI.out];rfl);have hkl:(k :: t).length≤6000:=Nat.le_trans hI.suf.length_le HLen.out;have HKs:=lh (LS.sub_ok HS.out hI.suf.sublist);have hwr:IntKind.i64.wrap (2 * (o:Int))=2 * (o:Int):=IntWalk.i64_in _ (by omega);clear hI hl1;generalize hn:(k :: t).length=nk at hkl HL;have HNk:=lh hn;clear hn;by_cases hgt:2 * o < nk
    ·have d1:decide (2 * (o:Int) < (nk:Int))=true:=decide_eq_true (by omega)
     have HGt:=lh hgt;clear hgt;go_wp2_with fail;go_quiet ((go_at_call 162;exact Calls.quiet_of_same (HL.out _)))
     have HI1:=lh (HI.out.drawn ⟨nq,rfl⟩);clear r0 r1 hwr HI HL;generalize wr.drewN nq=w1 at *;have HC:=lh (qO b w1);obtain ⟨g2,hl2,_⟩:=HI1.out.led;have HR2:=lh ((hl2.keep (fL w1 b 0 18446744073709551615)).rdr (xE w1 b 0 18446744073709551615) (xF w1 b 0 18446744073709551615));have HCol:=lh (lU b rb g2 w1.heap.size (w1.heap.size + 1) 0 18446744073709551615 (k :: t) (bw1 w1 b 0 18446744073709551615) HR2.out HKs.out.nodup HKs.out.rise (by rw [HNk.out];exact hkl));clear hl2;go_wp2_with fail;refine (HC.out).mono ?_;rintro e w2 ⟨rfl,rfl⟩;unfold bfn;go_wp2_with fail;refine (HCol.out).mono ?_;rintro e w3 ⟨v,rfl,h1,h2,h3⟩;obtain ⟨p,c,rfl⟩:=h1.form;have HB3:=lh (aD (fL w1 b 0 18446744073709551615) h3 (by rw [sQ];omega));have HNw:=lh (DK p c _ w3 h1.nums (by rw [dG];have:=List.length_filter_le (inK 0 18446744073709551615) (k :: t);unfold yK;rw [HNk.out] at this;omega));clear h1 h2 h3 HC HCol HR2;go_wp2_with fail;refine (HNw.out).mono ?_;rintro e w4 ⟨⟨rb2,g3,rfl,h1,h2,h3⟩,h4⟩;have HB4:=lh (aD HB3.out h4 HB3.out.size);have HNP:=lh (xI (w1:=w1) (w2:=w1) HS.out.pk HI1.out HB4.out (by rw [← lH (ks:=k :: t) HKs.out.pk];exact h1) (Nat.le_trans HB3.out.size h2) (Nat.le_trans HB3.out.size h3));obtain ⟨g5,hl5,_⟩:=HI1.out.led;have f0:=(hl5.head.keep HB4.out).free 0;have c0:=(hl5.head.keep HB4.out).cell (i:=0) (v:=↑(π rb)) rfl;clear h1 h2 h3 h4 hl5 HNw;go_wp2_with fail;go_end0
     exact HNP.out
    ·have d1:decide (2 * (o:Int) < (nk:Int))=false:=decide_eq_false (by omega)
     clear hgt;go_wp2_with fail;go_quiet ((go_at_call 162;exact Calls.quiet_of_same (HL.out _)))
     have HI1:=lh (HI.out.drawn ⟨nq,rfl⟩);clear r0 r1 hwr HI HL;go_wp2_with fail;go_end0
     exact sS HI1.out
   ·rw [hgn] at hk7
    obtain ⟨g1,hl1,hg1⟩:=hI.led;have r0:=hl1.rd.cell0;have HI:=lh hI;have HSh:=lh (JM rb g1 (k.b + 1) (aP t) wr hl1.row);have HL1:=lh hl1;have HG1:=lh hg1;have HGn:=lh hgn;have HRn:=lh (xH hl1.row);clear hI hl1 hg1 hgn;go_wp2_with fail;refine (HSh.out).mono ?_;rintro e w2 hp;obtain rfl:=hp.e;have HI2:=lh (zZ HL1.out HG1.out HI.out.suf HI.out.out HGn.out HI.out.fr hp);obtain ⟨g2,hl2,_⟩:=HI2.out.led;have r0:=hl2.rd.cell0;obtain ⟨p2,q2,HV2⟩:∃p q,Hid (KG t p q):=⟨_,_,lh ⟨rfl,rfl⟩⟩;have HF2:=lh (o9 b rb g2 t w2 hl2.rd p2 q2 HV2.out);clear hp hl2 HSh hk7;unfold mT;go_wp2_with fail;refine (HF2.out).mono ?_;rintro e w3 ⟨rfl,hd⟩;have HI3:=lh (HI2.out.drawn hd);clear hd r0 HF2 HI2;go_wp2_with fail;go_roundw
    case rel=>exact ⟨t,_,rfl,HV2.out,HI3.out⟩
    case measure=>
     obtain ⟨g3,hl3,_⟩:=HI3.out.led;rw [xH hl3.row,HRn.out];simp [aP,LS.with_]
end

section
open Go.RowKit Go.Shelf
attribute [local go_sem] Oper.semAt_some
theorem qQ {o:Option Nat} (h:k∈o.toList):o=some k:=by
 cases o with
 | none=>cases h
 | some z=>simp at h;rw [h]
def RZ (T:TypeId):Prop:=T≠97∧T≠190∧T≠156∧T≠254∧T≠177∧T≠208
theorem RdR.off {ks:List Kp} {fr:Nat} {pre:List Kp} (h:RdR ks b rb g bl br fr tO pre W) {z:Nat} {cs:Array Value} (hz:Blk W z T cs) (hT:RZ T):∀y∈dA ks b rb g bl br,y≠z:=by
 intro y hy;obtain ⟨t1,t2,t3,t4,t5,t6⟩:=hT;obtain ⟨c0,h0,_⟩:=h.rd.head;obtain ⟨c1,hr1⟩:=h.rd.row.head;obtain ⟨c2,hr2⟩:=h.rd.row.body;simp only [dA,List.mem_cons,List.mem_map] at hy;rcases hy with rfl | rfl | rfl | rfl | rfl | ⟨k,hk,rfl⟩
 ·exact h.hl.ty hz (Ne.symm t1)
 ·exact h.hr.ty hz (Ne.symm t2)
 ·exact h0.ty hz (Ne.symm t3)
 ·exact hr1.ty hz (Ne.symm t4)
 ·exact hr2.ty hz (Ne.symm t5)
 ·obtain ⟨gn,hg⟩:=h.rd.kept k hk
  exact hg.ty hz (Ne.symm t6)
end

section
open Go.RowKit
def LS.empty (reorder:Nat):LS:=⟨[],false,reorder,0,0,false⟩
theorem LS.empty_ok {reorder:Nat} (h:reorder≤↑ω):(LS.empty reorder).ok:=
 ⟨List.nodup_nil,List.Pairwise.nil,(fun k h=>by cases h),(fun k h=>by cases h),fun _=>List.Pairwise.nil,Nat.zero_le _,h,Nat.zero_le _,fun _=>rfl⟩
structure R9 (w:World) (s:LS) (e:Ending) (w':World):Prop where
 at_:∃b rb g,e=.returned ↑(π b)∧LAt w' b rb g s∧∀x∈aE b rb g s,↑w≤x
 bel:Below ↑w w w'
theorem KH (reorder:Nat) (w:World):
  Calls prog 55 #[↑reorder] w (R9 w (LS.empty reorder)):=by
 have HN:Hid (Calls prog 100 #[.slice none 0 0] w (MU w [])):=lh (DK none 0 [] w (fun h=>absurd h (by simp)) (by simp));go_enter func55,ntmps55;go_wp2_with fail;refine (HN.out).mono ?_;rintro e w1 ⟨⟨rb,g,rfl,h1,h2,h3⟩,h4⟩;have H1:=lh h1;have H2:=lh h2;have H3:=lh h3;have H4:=lh h4;clear h1 h2 h3 h4 HN;go_wp2_with fail;go_ret;have e:cI rb (LS.empty reorder)=#[↑(π rb),.int .i64 0,↑ζ,↑ζ,.bool false,↑reorder,↑ζ,↑ζ,.bool false]:=by
  simp [cI,LS.empty,aW,tot,cT,kN]
 refine ⟨⟨w1.heap.size,rb,g,rfl,⟨by rw [e];exact Blk.new _ _ _,H1.out.alloc _,fun k h=>by cases h⟩,?_⟩,H4.out.alloc H4.out.size _⟩;intro x hx;simp [aE,LS.empty] at hx
 rcases hx with rfl | rfl | rfl
 ·exact H4.out.size
 ·exact H2.out
 ·exact H3.out
def vC (T:Nat):Nat:=if T < M64 then T else 18446744073709551615
theorem qR (b rb g:Nat) (s:LS) (w:World) (h:LAt w b rb g s):
  Calls prog 43 #[↑(π b)] w fun e w'=>e=.returned ↑(vC (tot s.ks):Nat)∧w=w':=by
 have h2:=h.head.cell (i:=2) (v:=↑(tot s.ks / M64:Nat)) rfl;have h3:=h.head.cell (i:=3) (v:=↑(tot s.ks % M64:Nat)) rfl;clear h;have hc:(0 < tot s.ks / M64∧vC (tot s.ks)=18446744073709551615)∨(tot s.ks / M64=0∧vC (tot s.ks)=tot s.ks % M64):=by
  unfold vC;by_cases c:tot s.ks < M64
  ·rw [if_pos c,Nat.div_eq_of_lt c,Nat.mod_eq_of_lt c];exact .inr ⟨rfl,rfl⟩
  ·rw [if_neg c];exact .inl ⟨Nat.div_pos (by omega) eV,rfl⟩
 rcases hc with ⟨c1,c2⟩ | ⟨c1,c2⟩
 ·rw [c2]
  clear c2;generalize tot s.ks / M64=hi at *;generalize tot s.ks % M64=lo at *;have d:decide (0 < hi)=true:=by simpa using c1
  go_enter func43,ntmps43;go_wp2;go_ret;exact ⟨rfl,rfl⟩
 ·rw [c2]
  rw [c1] at h2;clear c1 c2;generalize tot s.ks % M64=lo at *;go_enter func43,ntmps43;go_wp2;go_ret;exact ⟨rfl,rfl⟩
end
end Go.Proofs.YtjhiooggnpbecaaGreatDoor
