/- Lemmas. -/
import Derived.Test.YtjhiooggnpbecaaGreatDoorK429
import Derived.Laws.EntriesVeiled
set_option linter.unusedVariables false
set_option maxHeartbeats 4000000
set_option maxRecDepth 100000
namespace Go.Proofs.YtjhiooggnpbecaaGreatDoor
open Tryz
open Go.RowKit Go.Shelf
variable {x:Kp} {s:LS} {pre:List Kp} {B0 T:List Nat} {B b delay g limit n4 now rb tO:Nat} {row:Option Nat} {W w:World}
def gC (T:TypeId):Prop:=T≠156∧T≠208∧T≠67∧T≠73
def nY (Bx:World→Prop):Prop:=∀W W',Bx W→(∀x T cs,Blk W x T cs→gC T→W'.heap[x]? =W.heap[x]?)→Bx W'
structure TkS (w:World) (b rb g n4:Nat) (B0:List Nat) (s:LS) (l:List Pk) (Bx:World→Prop) (W:World):Prop where
 led:LAt W b rb g s
 box:Bx W
 out:∃v,Blk W n4 67 #[v]∧PR W v l∧∀k,v.ownBlock=some k→↑w≤k
 fr:Fr w W B0
theorem TkS.keepX {w:World} {b rb g n4:Nat} {B0:List Nat} {s:LS} {l:List Pk} {Bx:World→Prop} {W W':World} (h:TkS w b rb g n4 B0 s l Bx W) (hB:nY Bx) (k:∀x T cs,Blk W x T cs→W'.heap[x]? =W.heap[x]?) (hf:Fr w W' B0):TkS w b rb g n4 B0 s l Bx W':=by
 obtain ⟨v,h1,h2,h3⟩:=h.out;exact ⟨h.led.keepX fun x T cs _ hb=>k x T cs hb,hB W W' h.box fun x T cs hb _=>k x T cs hb,⟨v,by unfold Blk;rw [k _ _ _ h1];exact h1,h2.same fun g cs _ hb=>k g _ cs hb,h3⟩,hf⟩
theorem TkS.below {w:World} {b rb g n4:Nat} {B0:List Nat} {s:LS} {l:List Pk} {Bx:World→Prop} {W W':World} (h:TkS w b rb g n4 B0 s l Bx W) (hB:nY Bx) (k:Below ↑W W W'):TkS w b rb g n4 B0 s l Bx W':=
 h.keepX hB (fun x T cs hb=>k.block x hb.lt) (h.fr.below k)
theorem nD {X Y:World} (h:Fr w X B0) (hg:X.grownBy Y row) (hr:∀r,row=some r→B≤r) (hB:↑w≤B):Fr w Y B0:=
 ⟨hg.os.trans h.os,hg.tape.trans h.tape,hg.output.trans h.output,Nat.le_trans h.size hg.size,fun k hk hl=>(hg.block k (Nat.lt_of_lt_of_le hk h.size) (fun e=>by have:=hr k e.symm;omega)).trans (h.block k hk hl)⟩
theorem TkS.grown {l:List Pk} {Bx:World→Prop} {W':World} (h:TkS w b rb g n4 B0 s l Bx W) (hB:nY Bx) (hb:↑w≤B)
  (hg:W.grownBy W' row) (hr:∀r,row=some r→B≤r∧∃o:Obj,W.heap[r]? =some o∧o.isCells=false):TkS w b rb g n4 B0 s l Bx W':=
 h.keepX hB (eR hg (fun r e=>(hr r e).2)) (nD h.fr hg (fun r e=>(hr r e).1) hb)
theorem qS {α:Type} {s:List α→LS} {l:List α→List Pk} {Bx:World→Prop} (hB:nY Bx) (hb:↑w≤B):OwnFrom B (fun pre W=>TkS w b rb g n4 B0 (s pre) (l pre) Bx W):=
 fun pre X Y row hs hg hr=>hs.grown hB hb hg hr
theorem TkS.take {w:World} {b rb g n4:Nat} {B0:List Nat} {s:LS} {l:List Pk} {Bx:World→Prop} {W W':World} {x:Kp} {v:Value} {e:Ending} (h:TkS w b rb g n4 B0 s l Bx W) (hB:nY Bx) (hx:x∈s.ks) (hv1:Blk W n4 67 #[v]) (hv2:PR W v l) (hv3:∀k,v.ownBlock=some k→↑w≤k)
  (hn4:↑w≤n4) (hb0:b∈B0∨w.heap.size≤b) (hxb:x.b∈B0∨w.heap.size≤x.b) (hp:nB W b rb g n4 x s v l e W'):TkS w b rb g n4 B0 (s.take [x.b]) (l ++ [x.p]) Bx W'∧∀B,KeepsFrom B W W':=by
 have hL:∀y∈b :: x.b :: n4 :: v.ownBlock.toList,∃T cs,Blk W y T cs∧¬ gC T:=fun y hy=>by
  simp only [List.mem_cons] at hy;rcases hy with rfl | rfl | rfl | hy
  ·exact ⟨_,_,h.led.head,fun k=>k.1 rfl⟩
  ·exact ⟨_,_,h.led.kept x hx,fun k=>k.2.1 rfl⟩
  ·exact ⟨_,_,hv1,fun k=>k.2.2.1 rfl⟩
  ·obtain ⟨cs,hc⟩:=hv2.blk (qQ hy)
   exact ⟨_,cs,hc,fun k=>k.2.2.2 rfl⟩
 refine ⟨⟨hp.led,hB W W' h.box fun z T cs hz hT=>hp.fr.block z hz.lt (fun hm=>?_),?_,h.fr.trans hp.fr (fun y hy=>?_)⟩,fun B=>bZ hp.fr (fun y hy=>by obtain ⟨T,cs,hc,_⟩:=hL y hy;exact .inr ⟨T,cs,hc⟩)⟩
 ·obtain ⟨T',cs',h1,h2⟩:=hL z hm
  by_cases c:T=T'
  ·subst c;exact h2 hT
  ·exact hz.ty h1 c rfl
 ·obtain ⟨v',h1,h2,h3⟩:=hp.out
  refine ⟨v',h1,h2,fun k e=>?_⟩;rcases h3 k e with c | c
  ·exact hv3 k c
  ·have:=h.fr.size;omega
 ·simp only [List.mem_cons] at hy
  rcases hy with rfl | rfl | rfl | hy
  ·exact hb0
  ·exact hxb
  ·exact .inr hn4
  ·exact .inr (hv3 _ (qQ hy))
structure gU (b now delay limit n0 n1 n2 n3 n4 n5 n6 n7 n8 n9:Nat) (W:World):Prop where
 q0:Blk W n0 97 #[↑(π b)]
 q1:Blk W n1 22 #[↑now]
 q2:Blk W n2 22 #[↑delay]
 q3:Blk W n3 22 #[↑limit]
 q5:Blk W n5 97 #[↑(π b)]
 q6:Blk W n6 202 #[↑(π n4)]
 q7:Blk W n7 200 #[.func (.func 159) #[] #[↑(π n5),↑(π n6)]]
 q8:Blk W n8 97 #[↑(π b)]
 q9:Blk W n9 190 #[↑ζ,.int .u64 18446744073709551615]
theorem gU.k (b now delay limit n0 n1 n2 n3 n4 n5 n6 n7 n8 n9:Nat):nY (gU b now delay limit n0 n1 n2 n3 n4 n5 n6 n7 n8 n9):=fun W W' h k=>by
 have mv:∀{x T cs},Blk W x T cs→gC T→Blk W' x T cs:=fun {x T cs} hb hT=>by unfold Blk;rw [k x T cs hb hT];exact hb
 exact ⟨mv h.q0 (by unfold gC;decide),mv h.q1 (by unfold gC;decide),mv h.q2 (by unfold gC;decide),mv h.q3 (by unfold gC;decide),mv h.q5 (by unfold gC;decide),mv h.q6 (by unfold gC;decide),mv h.q7 (by unfold gC;decide),mv h.q8 (by unfold gC;decide),mv h.q9 (by unfold gC;decide)⟩
def lostB (s:LS) (now delay limit:Nat) (p:Pk):Bool:=kE s p || (decide (p.n < s.top) && Go.Proofs.YtjhiooggnpbecaaGreatDoor.passB p.sent delay now) || Go.Proofs.YtjhiooggnpbecaaGreatDoor.passB p.sent limit now
theorem lJ {a c:Nat} (h:a≤b):Pl.addS a c≤Pl.addS b c:=by unfold Pl.addS;omega
theorem vD {p q:Pk} (hn:p.n≤q.n) (hs:p.sent≤q.sent) (h:lostB s now delay limit p=false):lostB s now delay limit q=false:=by
 unfold lostB kE passB at *;have e1:=lJ (c:=s.reorder) hn;have e2:=lJ (c:=delay) hs;have e3:=lJ (c:=limit) hs;rw [Bool.or_eq_false_iff,Bool.or_eq_false_iff,Bool.and_eq_false_iff,Bool.and_eq_false_iff] at h ⊢;simp only [decide_eq_false_iff_not] at h ⊢;obtain ⟨⟨h1,h2⟩,h3⟩:=h;refine ⟨⟨?_,?_⟩,by omega⟩
 ·rcases h1 with h1 | h1
  ·exact .inl h1
  ·right;omega
 ·rcases h2 with h2 | h2
  ·left;omega
  ·right;omega
theorem pA (hs:s.ok) (hm:s.mixed=false) {Y:List Kp} (hY:Y.Sublist s.ks) (hp:pre ++ [x] <+:Y) (hx:lostB s now delay limit x.p=false):
  Y.filter (fun k=>lostB s now delay limit k.p)=pre.filter (fun k=>lostB s now delay limit k.p):=by
 obtain ⟨t,rfl⟩:=hp;have h1:=hs.rise.sublist hY;have h2:=(hs.mono hm).sublist hY;rw [List.append_assoc,List.pairwise_append] at h1 h2;have h3:=List.pairwise_cons.1 h1.2.1;have h4:=List.pairwise_cons.1 h2.2.1;rw [List.append_assoc,List.filter_append];have e:([x] ++ t).filter (fun k=>lostB s now delay limit k.p)=[]:=by
  rw [List.filter_eq_nil_iff];intro k hk;rcases List.mem_cons.1 hk with rfl | hk
  ·rw [hx];decide
  ·have:=vD (Nat.le_of_lt (h3.1 k hk)) (h4.1 k hk) hx
   rw [this];decide
 rw [e,List.append_nil]
attribute [local go_sem] Oper.semAt_some
theorem FL {bl br fr:Nat} (h:LAt W b rb g (s.take T)) (hT:∀t∈T,t∈pre.map Kp.b) (hl:Blk W bl 97 #[↑(π b)]) (hr:Blk W br 190 #[↑fr,↑tO]):RdR s.ks b rb g bl br fr tO pre W:=by
 have e:aP (s.take T).ks=aP s.ks:=by
  have:=congrArg (List.map (· + 1)) (i9 T s.ks);rw [List.map_map,List.map_map] at this;exact this
 refine ⟨hl,hr,⟨⟨_,h.head,rfl⟩,by rw [← e];exact h.row,fun k hk=>?_⟩,fun k hk hp=>?_⟩
 ·have hk':=h.kept _ (gD (B:=T) hk)
  exact ⟨_,hk'⟩
 have:=h.kept _ (gD (B:=T) hk);have hn:k.b ∉ T:=fun hm=>hp (hT _ hm);simp only [hn,decide_false,Bool.or_false] at this;exact this
theorem LAt.off (h:LAt W b rb g s) {z:Nat} {T:TypeId} {cs:Array Value} (hz:Blk W z T cs) (h1:T≠156) (h2:T≠254) (h3:T≠177) (h4:T≠208):z ∉ aE b rb g s:=by
 obtain ⟨c1,hr1⟩:=h.row.head;obtain ⟨c2,hr2⟩:=h.row.body;intro hm;simp only [aE,List.mem_cons,List.mem_map] at hm;rcases hm with rfl | rfl | rfl | ⟨k,hk,rfl⟩
 ·exact hz.ty h.head h1 rfl
 ·exact hz.ty hr1 h2 rfl
 ·exact hz.ty hr2 h3 rfl
 ·exact hz.ty (h.kept k hk) h4 rfl
theorem LAt.cells (h:LAt W b rb g s):∀x∈aE b rb g s,∃T cs,Blk W x T cs:=by
 obtain ⟨c1,hr1⟩:=h.row.head;obtain ⟨c2,hr2⟩:=h.row.body;intro x hm;simp only [aE,List.mem_cons,List.mem_map] at hm;rcases hm with rfl | rfl | rfl | ⟨k,hk,rfl⟩
 ·exact ⟨_,_,h.head⟩
 ·exact ⟨_,_,hr1⟩
 ·exact ⟨_,_,hr2⟩
 ·exact ⟨_,_,h.kept k hk⟩
theorem kG (b rb g:Nat) (s:LS) (T:List Nat):aE b rb g (s.take T)=aE b rb g s:=by
 unfold aE;rw [show (s.take T).ks=cU T s.ks from rfl,i9]
structure lK (w:World) (b rb g:Nat) (s:LS) (P:LS→Prop) (w':World):Prop where
 led:∃rb' g' s',LAt w' b rb' g' s'∧s'.ok∧P s'∧∀x∈aE b rb' g' s',x∈aE b rb g s∨w.heap.size≤x
 fr:Fr w w' (aE b rb g s)
theorem qT {l:List Kp} (hn:(l.map Kp.b).Nodup) (f:Kp→Bool):l.filter (fun k=>decide (k.b ∉ (l.filter f).map Kp.b))=l.filter (fun k=>!f k):=by
 apply List.filter_congr
 intro k hk;rw [Bool.eq_iff_iff,decide_eq_true_eq,Bool.not_eq_true'];constructor
 ·intro h
  cases hf:f k
  ·rfl
  ·exact absurd (List.mem_map_of_mem (List.mem_filter.2 ⟨hk,hf⟩)) h
 ·intro hf hm
  obtain ⟨y,hy,e⟩:=List.mem_map.1 hm;obtain ⟨hy1,hy2⟩:=List.mem_filter.1 hy;have:y=k:=by
   obtain ⟨i,hi,rfl⟩:=List.mem_iff_getElem.1 hy1;obtain ⟨j,hj,rfl⟩:=List.mem_iff_getElem.1 hk;have key:∀{p q:Nat} (hp:p < l.length) (hq:q < l.length),p < q→l[p].b≠l[q].b:=fun {p q} hp hq hpq=>by
    have:=List.pairwise_iff_getElem.1 hn p q (by rw [List.length_map];exact hp) (by rw [List.length_map];exact hq) hpq;rwa [List.getElem_map,List.getElem_map] at this
   rcases Nat.lt_trichotomy i j with d | d | d
   ·exact absurd e (key hi hj d)
   ·subst d;rfl
   ·exact absurd e.symm (key hj hi d)
  subst this;rw [hf] at hy2;cases hy2
theorem lL (hs:s.ok) (f:Pk→Bool):cT (s.take (((aW s.ks).filter (fun k=>f k.p)).map Kp.b)).ks=(cT s.ks).filter (fun p=>!f p):=by
 show (aW (cU _ s.ks)).map Kp.p=_
 rw [kP,qT (jL hs)];unfold cT;rw [List.filter_map];rfl
theorem iX (s:LS) (f:Pk→Bool):((aW s.ks).filter (fun k=>f k.p)).map Kp.p=(cT s.ks).filter f:=by
 unfold cT;rw [List.filter_map];rfl
structure sV (w:World) (b rb g now delay limit:Nat) (s:LS) (e:Ending) (w':World):Prop where
 e:∃v,e=.returned v∧PR w' v ((cT s.ks).filter (lostB s now delay limit))∧∀k,v.ownBlock=some k→↑w≤k
 led:lK w b rb g s (fun s'=>cT s'.ks=(cT s.ks).filter (fun p=>!lostB s now delay limit p)∧s'.reorder=s.reorder∧s'.next=s.next∧s'.top=s.top∧s'.topped=s.topped) w'
theorem sW {W2:World} {D:Nat} {Bx:World→Prop} {v:Value} {o:Obj} {L:List Pk} (hs:s.ok) (eo:cT (s.take T).ks=(cT s.ks).filter (fun p=>!lostB s now delay limit p)) (el:L=(cT s.ks).filter (lostB s now delay limit))
  (h:TkS w b rb g n4 (aE b rb g s) (s.take T) L Bx W) (hv2:PR W v L) (hv3:∀k,v.ownBlock=some k→↑w≤k)
  (hn:kF W b rb g (s.take T) (.returned (.tuple #[])) W2) (hD:↑w≤D) (hK:W2.heap[D]? =some o) (ho:o.isCells=false):
  sV w b rb g now delay limit s (.returned v) (W2.putObj D (.deferred none)):=by
 obtain ⟨rb',g',ks',n1,n2,n3,n4'⟩:=hn.led;rw [kG] at n4';have hg:=grownBy_putObj' W2 D (.deferred none);have hk:=eR hg (fun r e=>by cases e;exact ⟨o,hK,ho⟩);have hok:=LS.sub_ok (LS.take_ok hs T) n2;have hfr:Fr w W2 (aE b rb g s):=h.fr.trans hn.fr (fun x hx=>.inl (by rw [kG] at hx;exact hx));have e1:cT ks'=(cT s.ks).filter (fun p=>!lostB s now delay limit p):=by
  rw [← eo];unfold cT;rw [n3]
 have v2:PR W2 v L:=hv2.fr hn.fr (fun k e=>by
  obtain ⟨cs,hc⟩:=hv2.blk e;exact h.led.off hc (by decide) (by decide) (by decide) (by decide))
 have v3:PR (W2.putObj D (.deferred none)) v ((cT s.ks).filter (lostB s now delay limit)):=by
  rw [← el];exact v2.same (fun k cs _ hb=>hk k _ cs hb)
 have l3:LAt (W2.putObj D (.deferred none)) b rb' g' ((s.take T).with_ ks'):=n1.keepX (fun x T cs _ hb=>hk x T cs hb);have f3:Fr w (W2.putObj D (.deferred none)) (aE b rb g s):=nD hfr hg (fun r e=>by cases e;exact hD) (Nat.le_refl _);have hsz:=h.fr.size;refine ⟨⟨v,rfl,v3,hv3⟩,⟨⟨rb',g',(s.take T).with_ ks',l3,hok,⟨e1,rfl,rfl,rfl,rfl⟩,fun x hx=>?_⟩,f3⟩⟩;rcases n4' x hx with c | c
 ·exact .inl c
 ·right;omega
def LT (s:LS) (now delay limit:Nat) (pre:List Kp):List Nat:=(pre.filter (fun k=>lostB s now delay limit k.p)).map Kp.b
def LPk (s:LS) (now delay limit:Nat) (pre:List Kp):List Pk:=(pre.filter (fun k=>lostB s now delay limit k.p)).map Kp.p
theorem qU (h:lostB s now delay limit x.p=true):LT s now delay limit (pre ++ [x])=LT s now delay limit pre ++ [x.b]∧LPk s now delay limit (pre ++ [x])=LPk s now delay limit pre ++ [x.p]:=by
 unfold LT LPk;rw [List.filter_append];simp [h]
theorem NA (h:lostB s now delay limit x.p=false):LT s now delay limit (pre ++ [x])=LT s now delay limit pre∧LPk s now delay limit (pre ++ [x])=LPk s now delay limit pre:=by
 unfold LT LPk;rw [List.filter_append];simp [h]
theorem FM:∀t∈LT s now delay limit pre,t∈pre.map Kp.b:=fun t ht=>by
 obtain ⟨k,hk,rfl⟩:=List.mem_map.1 ht;exact List.mem_map_of_mem (List.mem_filter.1 hk).1
theorem xJ (hs:s.ok) {fr:Nat} (h:pre ++ [x] <+:yK s.ks fr tO) (hT:∀t∈T,t∈pre.map Kp.b):x∈s.ks∧x.gone=false∧x.b ∉ pre.map Kp.b∧x∈(s.take T).ks:=by
 have hm:=List.mem_filter.1 (h.mem (List.mem_append_right _ List.mem_cons_self));have hg:x.gone=false:=by
  have:=hm.2;simp [inK] at this
  exact this.2
 have hn:x.b ∉ pre.map Kp.b:=by
  obtain ⟨t,ht⟩:=h;have h1:((pre ++ [x] ++ t).map Kp.b).Nodup:=by
   rw [ht];exact hs.nodup.sublist (List.filter_sublist.map Kp.b)
  rw [List.append_assoc,List.map_append,List.nodup_append] at h1;exact fun hmem=>h1.2.2 _ hmem x.b (by simp) rfl
 refine ⟨hm.1,hg,hn,?_⟩;have:=gD (B:=T) hm.1;have hnT:x.b ∉ T:=fun c=>hn (hT _ c);simp only [hnT,decide_false,Bool.or_false] at this;exact this
theorem FN (b rb g now delay limit:Nat) (s:LS) (w:World) (h:LAt w b rb g s) (hs:s.ok) (hdl:delay≤↑ω) (hlm:limit≤↑ω):
  Calls prog 121 #[↑(π b),↑now,↑delay,↑limit] w (sV w b rb g now delay limit s):=by
 have HH:=lh h;have HS:=lh hs;clear h hs;refine (callsIn_wide (n:=6)).1 ?_;refine callsIn_of_wp_marks func121 rfl trivial ?_ rfl;simp only [ntmps121,List.size_toArray,List.length_cons,List.length_nil,Nat.reduceAdd,Nat.reduceSub,Array.replicate_succ,Array.replicate_zero,List.push_toArray,List.append_toArray,List.nil_append,List.cons_append]
 gi_wp2_with fail
 have HB1:Hid (Below ↑w w (((((w.alloc (.cells #[↑(π b)] 97)).alloc (.cells #[↑now] 22)).alloc (.cells #[↑delay] 22)).alloc (.cells #[↑limit] 22)).alloc (.cells #[.slice none 0 0] 67))):=lh ((((((Below.refl _ _).alloc (Nat.le_refl _) _).alloc (by simp) _).alloc (by simp;omega) _).alloc (by simp;omega) _).alloc (by simp;omega) _);have hs1:(((((w.alloc (.cells #[↑(π b)] 97)).alloc (.cells #[↑now] 22)).alloc (.cells #[↑delay] 22)).alloc (.cells #[↑limit] 22)).alloc (.cells #[.slice none 0 0] 67)).heap.size=w.heap.size + 1 + 1 + 1 + 1 + 1:=by simp
 have Q0:Hid (Blk (((((w.alloc (.cells #[↑(π b)] 97)).alloc (.cells #[↑now] 22)).alloc (.cells #[↑delay] 22)).alloc (.cells #[↑limit] 22)).alloc (.cells #[.slice none 0 0] 67)) w.heap.size 97 #[↑(π b)]):=lh (((((Blk.new _ _ _).alloc _).alloc _).alloc _).alloc _);have Q1:Hid (Blk (((((w.alloc (.cells #[↑(π b)] 97)).alloc (.cells #[↑now] 22)).alloc (.cells #[↑delay] 22)).alloc (.cells #[↑limit] 22)).alloc (.cells #[.slice none 0 0] 67)) (w.heap.size + 1) 22 #[↑now]):=lh ((((Blk.new1 _ _ _ _).alloc _).alloc _).alloc _);have Q2:Hid (Blk (((((w.alloc (.cells #[↑(π b)] 97)).alloc (.cells #[↑now] 22)).alloc (.cells #[↑delay] 22)).alloc (.cells #[↑limit] 22)).alloc (.cells #[.slice none 0 0] 67)) (w.heap.size + 1 + 1) 22 #[↑delay]):=lh (by
  have:=((Blk.new ((w.alloc (.cells #[↑(π b)] 97)).alloc (.cells #[↑now] 22)) 22 #[↑delay]).alloc (.cells #[↑limit] 22)).alloc (.cells #[.slice none 0 0] 67);simpa using this)
 have Q3:Hid (Blk (((((w.alloc (.cells #[↑(π b)] 97)).alloc (.cells #[↑now] 22)).alloc (.cells #[↑delay] 22)).alloc (.cells #[↑limit] 22)).alloc (.cells #[.slice none 0 0] 67)) (w.heap.size + 1 + 1 + 1) 22 #[↑limit]):=lh (by
  have:=(Blk.new (((w.alloc (.cells #[↑(π b)] 97)).alloc (.cells #[↑now] 22)).alloc (.cells #[↑delay] 22)) 22 #[↑limit]).alloc (.cells #[.slice none 0 0] 67);simpa using this)
 have Q4:Hid (Blk (((((w.alloc (.cells #[↑(π b)] 97)).alloc (.cells #[↑now] 22)).alloc (.cells #[↑delay] 22)).alloc (.cells #[↑limit] 22)).alloc (.cells #[.slice none 0 0] 67)) (w.heap.size + 1 + 1 + 1 + 1) 67 #[.slice none 0 0]):=lh (by
  have:=Blk.new ((((w.alloc (.cells #[↑(π b)] 97)).alloc (.cells #[↑now] 22)).alloc (.cells #[↑delay] 22)).alloc (.cells #[↑limit] 22)) 67 #[.slice none 0 0];simpa using this)
 generalize (((((w.alloc (.cells #[↑(π b)] 97)).alloc (.cells #[↑now] 22)).alloc (.cells #[↑delay] 22)).alloc (.cells #[↑limit] 22)).alloc (.cells #[.slice none 0 0] 67))=w1 at *;have hn4:↑w≤w.heap.size + 1 + 1 + 1 + 1:=by omega
 generalize w.heap.size + 1 + 1 + 1 + 1=n4 at *;generalize w.heap.size + 1 + 1 + 1=n3 at *;generalize w.heap.size + 1 + 1=n2 at *;generalize w.heap.size + 1=n1 at *;generalize hn0:w.heap.size=n0 at Q0 ⊢;have HN0:=lh hn0;clear hn0;have HTk:=lh (oZ b n4 w1);unfold tfn at HTk;refine ⟨trivial,?_⟩;refine (callsIn_wide.2 HTk.out).mono ?_;rintro e w2 ⟨rfl,rfl⟩;have bt1:=o8 w1 b n4;have HB2:=lh (aD HB1.out bt1 HB1.out.size);have P0:=lh (Q0.out.keep bt1);have P1:=lh (Q1.out.keep bt1);have P2:=lh (Q2.out.keep bt1);have P3:=lh (Q3.out.keep bt1);have P4:=lh (Q4.out.keep bt1);have P5:=lh (MX w1 b n4);have P6:=lh (MY w1 b n4);generalize tw1 w1 b n4=w2 at *;generalize w1.heap.size + 1=n6 at *;generalize w1.heap.size=n5 at *;clear HB1 Q0 Q1 Q2 Q3 Q4 HTk bt1 hs1;have r0:=(P0.out.alloc (.cells #[.func (.func 159) #[] #[↑(π n5),↑(π n6)]] 200)).cell (i:=0) rfl
 gi_wp2_with fail
 have f2:Below ↑w2 w2 (w2.alloc (.cells #[.func (.func 159) #[] #[↑(π n5),↑(π n6)]] 200)):=(Below.refl _ _).alloc (Nat.le_refl _) _;have HB3:=lh (aD HB2.out f2 HB2.out.size);have R0:=lh (P0.out.keep f2);have R1:=lh (P1.out.keep f2);have R2:=lh (P2.out.keep f2);have R3:=lh (P3.out.keep f2);have R4:=lh (P4.out.keep f2);have R5:=lh (P5.out.keep f2);have R6:=lh (P6.out.keep f2);have R7:Hid (Blk (w2.alloc (.cells #[.func (.func 159) #[] #[↑(π n5),↑(π n6)]] 200)) w2.heap.size 200 #[.func (.func 159) #[] #[↑(π n5),↑(π n6)]]):=lh (Blk.new _ _ _);generalize (w2.alloc (.cells #[.func (.func 159) #[] #[↑(π n5),↑(π n6)]] 200))=w3 at *;generalize w2.heap.size=n7 at *;clear P0 P1 P2 P3 P4 P5 P6 f2 HB2 r0;have HAl:=lh (qO b w3);unfold bfn at HAl;refine ⟨trivial,?_⟩;refine (callsIn_wide.2 HAl.out).mono ?_;rintro e w4 ⟨rfl,rfl⟩;have bb:=fL w3 b 0 18446744073709551615;have HB4:=lh (aD HB3.out bb HB3.out.size);have hI0:TkS w b rb g n4 (aE b rb g s) (s.take (LT s now delay limit [])) (LPk s now delay limit []) (gU b now delay limit n0 n1 n2 n3 n4 n5 n6 n7 w3.heap.size (w3.heap.size + 1)) (bw1 w3 b 0 18446744073709551615):=by
  refine ⟨?_,⟨R0.out.keep bb,R1.out.keep bb,R2.out.keep bb,R3.out.keep bb,R5.out.keep bb,R6.out.keep bb,R7.out.keep bb,xE w3 b 0 18446744073709551615,xF w3 b 0 18446744073709551615⟩,⟨_,R4.out.keep bb,PR.nil _,fun k e=>by cases e⟩,Fr.of_below HB4.out _⟩;have:s.take (LT s now delay limit [])=s:=LS.take_nil s;rw [this];exact HH.out.keep HB4.out
 have HI0:=lh hI0;clear hI0 R0 R1 R2 R3 R4 R5 R6 R7 bb HB3 HAl;generalize bw1 w3 b 0 18446744073709551615=w5 at *;generalize w3.heap.size + 1=n9 at *;generalize w3.heap.size=n8 at *
 gi_wp2_with fail
 have HSeq:=lh (iS 5 b rb g n8 n9 0 18446744073709551615 s.ks (by omega) HS.out.nodup HS.out.rise (Nat.le_trans (LS.len_le HS.out) HS.out.next));have HYl:Hid ((yK s.ks 0 18446744073709551615).length≤6000):=lh (Nat.le_trans (List.length_filter_le _ _) (Nat.le_trans (LS.len_le HS.out) HS.out.next));refine fB.1 (gf:=160) (lb:=#[↑(π n8),↑(π n9)]) rfl (enters_of func160 (by kernel_rfl) rfl) HSeq.out (fun _=>rfl)
  (fun pre W=>TkS w b rb g n4 (aE b rb g s) (s.take (LT s now delay limit pre)) (LPk s now delay limit pre) (gU b now delay limit n0 n1 n2 n3 n4 n5 n6 n7 n8 n9) W)
  (fun c pre W=>(c=.exit 0∧∃p0,(yK s.ks 0 18446744073709551615).filter (fun k=>lostB s now delay limit k.p)=p0.filter (fun k=>lostB s now delay limit k.p)∧LT s now delay limit pre=LT s now delay limit p0∧LPk s now delay limit pre=LPk s now delay limit p0)∧TkS w b rb g n4 (aE b rb g s) (s.take (LT s now delay limit pre)) (LPk s now delay limit pre) (gU b now delay limit n0 n1 n2 n3 n4 n5 n6 n7 n8 n9) W)
  (qS (gU.k _ _ _ _ _ _ _ _ _ _ _ _ _ _) HB4.out.size) (fun c=>OwnFrom.and (ownFrom_pure _ _) (qS (gU.k _ _ _ _ _ _ _ _ _ _ _ _ _ _) HB4.out.size)) (fun pre A h=>FL h.led FM h.box.q8 h.box.q9) HI0.out
  (fun x=>{tmps:=#[↑(π b),↑now,↑delay,↑limit,↑(π n0),↑(π n1),↑(π n2),↑(π n3),.slice none 0 0,↑(π n4),↑(π n7),↑(π x.b),↑(π b),.bool false,↑(π b),.func (.func 159) #[] #[↑(π n5),↑(π n6)],↑(π b),.func (.func 160) #[] #[↑(π n8),↑(π n9)],↑(π x.b),undef,undef,undef,undef,undef,undef,undef,undef,undef,undef,undef,undef,undef,undef,undef,undef,undef,undef,undef,undef,undef,undef,undef,undef,undef,undef,undef,undef,undef,undef,undef,undef,undef,undef,undef,undef,undef,undef,undef,undef,undef,undef,undef,undef,undef,undef,undef,undef],defers:=[]})
  ?assign ?body ?done ?stop
 case assign=>
  intro l x W K hK
  gi_wp2
  exact hK
 case body=>
  rintro l pre x W hI hok;obtain ⟨hxm,hxg,hxn,hxt⟩:=xJ HS.out (T:=LT s now delay limit pre) hok FM;have hpk:=HS.out.pk x hxm;have HI:=lh hI;have HX:=lh hxm;have HXg:=lh hxg;have HXt:=lh hxt;have HXk:Hid (Blk W x.b 208 (Kp.cells x.p x.gone)):=lh (hI.led.kept x hxt);have HOk:=lh hok;have HPl:Hid ((LPk s now delay limit pre).length≤7000):=lh (by
   have h1:=hok.length_le;have h2:=List.length_filter_le (fun k=>lostB s now delay limit k.p) pre;have h3:=HYl.out;unfold LPk;rw [List.length_map];rw [List.length_append] at h1;omega)
  have HSk:Hid (∀W',Below ↑W W W'→W'.cell? ⟨n0,0,none⟩=some ↑(π b)∧W'.cell? ⟨n1,0,none⟩=some ↑now∧W'.cell? ⟨n2,0,none⟩=some ↑delay∧W'.cell? ⟨n3,0,none⟩=some ↑limit∧W'.cell? ⟨x.b,0,none⟩=some ↑x.p.n∧W'.cell? ⟨x.b,2,none⟩=some ↑x.p.sent∧W'.cell? ⟨b,7,none⟩=some ↑s.top):=lh (fun W' k=>by
   have hI':=hI.below (gU.k _ _ _ _ _ _ _ _ _ _ _ _ _ _) k;have hk':=HXk.out.keep k;exact ⟨hI'.box.q0.cell (i:=0) rfl,hI'.box.q1.cell (i:=0) rfl,hI'.box.q2.cell (i:=0) rfl,hI'.box.q3.cell (i:=0) rfl,(fH hk').1,(fH hk').2.2.1,hI'.led.head.cell (i:=7) rfl⟩)
  have HOv:Hid (∀W',Below ↑W W W'→Calls prog 179 #[↑(π b),↑(π x.b)] W' fun e w'=>e=.returned (.bool (kE s x.p))∧Below ↑W' W' w'):=lh (fun W' k=>by
   have hI':=hI.below (gU.k _ _ _ _ _ _ _ _ _ _ _ _ _ _) k;have:=nW b rb g x (s.take (LT s now delay limit pre)) W' hI'.led (LS.take_ok HS.out _) x.gone (HXk.out.keep k) hpk;exact this)
  have HPd:=lh (fun W'=>nC x.p.sent delay now hpk.sent hdl W');have HPm:=lh (fun W'=>nC x.p.sent limit now hpk.sent hlm W');have HLo:Hid (lostB s now delay limit x.p=(kE s x.p || (decide (x.p.n < s.top) && passB x.p.sent delay now) || passB x.p.sent limit now)):=lh rfl;clear hI hok hxm hxg hxn hxt hpk HI0 HSeq HYl hdl hlm;generalize kE s x.p=ov at *;generalize passB x.p.sent delay now=pd at *;generalize passB x.p.sent limit now=pl at *
  gi_wp2_with fail
  have HDr:=lh ((aB.drew W).below W.heap.size);cases ov
  ·by_cases hlt:x.p.n < s.top
   ·have d1:decide (x.p.n < s.top)=true:=by simpa using hlt
    have HLt:=lh d1;clear hlt;cases pd
    ·refine bV (S:=fun w'=>w'.cell? ⟨n0,0,none⟩=some ↑(π b)∧w'.cell? ⟨n1,0,none⟩=some ↑now∧w'.cell? ⟨n2,0,none⟩=some ↑delay∧w'.cell? ⟨n3,0,none⟩=some ↑limit∧w'.cell? ⟨x.b,0,none⟩=some ↑x.p.n∧w'.cell? ⟨x.b,2,none⟩=some ↑x.p.sent∧w'.cell? ⟨b,7,none⟩=some ↑s.top) (by rintro ⟨_,_,h⟩;exact h) (by kernel_rfl) (by kernel_rfl) (HSk.out _ HDr.out) (fun hHeld=>?_)
     simp only [List.size_toArray,List.length_cons,List.length_nil,Nat.reduceAdd,Array.replicate_succ,Array.replicate_zero,List.push_toArray,List.nil_append,List.cons_append];refine wpAnyH_take (i:=0) (oi:=⟨some 19,_,_,_,_,_⟩) (v:=?v72) rfl (by kernel_rfl) (by kernel_rfl) (by kernel_rfl) (fun _ _ _ h=>h) (Or.inl ⟨by rfl,?y72⟩) (by assumption) ?r72
     case y72=>intro w hSw;obtain ⟨s0,s1,s2,s3,s4,s5,s6⟩:=hSw;go_simp;(try with_reducible rfl)
     simp only [Act.put,List.setIfInBounds_toArray,List.set_cons_zero,List.set_cons_succ];refine tkc 1 ?_;refine rdy [2] ?_;refine cns (fun K hK=>?_) .nil;go_simp;refine (HOv.out _ HDr.out).mono ?_;rintro e W5 ⟨rfl,hb5⟩;have HB5:=lh (aD HDr.out hb5 HDr.out.size);clear hb5;dsimp only
     refine bck hK (HSk.out _ HB5.out) (fun hHeld=>?_);clear hK;refine tkc 3 ?_;refine tkc 4 ?_;refine tkc 5 ?_;refine tkc 6 ?_;refine tkc 7 ?_;refine wpAnyH_take (i:=8) (oi:=⟨some 27,_,_,_,_,_⟩) (v:=?v79) rfl (by kernel_rfl) (by kernel_rfl) (by kernel_rfl) (fun _ _ _ h=>h) (Or.inl ⟨by rfl,?y79⟩) (by assumption) ?r79
     case y79=>intro w hSw;obtain ⟨s0,s1,s2,s3,s4,s5,s6⟩:=hSw;go_simp;(try with_reducible rfl)
     simp only [Act.put,List.setIfInBounds_toArray,List.set_cons_zero,List.set_cons_succ];refine wpAnyH_take (i:=9) (oi:=⟨some 28,_,_,_,_,_⟩) (v:=?v80) rfl (by kernel_rfl) (by kernel_rfl) (by kernel_rfl) (fun _ _ _ h=>h) (Or.inl ⟨by rfl,?y80⟩) (by assumption) ?r80
     case y80=>intro w hSw;obtain ⟨s0,s1,s2,s3,s4,s5,s6⟩:=hSw;go_simp;(try with_reducible rfl)
     simp only [Act.put,List.setIfInBounds_toArray,List.set_cons_zero,List.set_cons_succ];refine tkc 10 ?_;refine tkc 11 ?_;refine wpAnyH_take (i:=12) (oi:=⟨some 31,_,_,_,_,_⟩) (v:=?v83) rfl (by kernel_rfl) (by kernel_rfl) (by kernel_rfl) (fun _ _ _ h=>h) (Or.inl ⟨by rfl,?y83⟩) (by assumption) ?r83
     case y83=>intro w hSw;obtain ⟨s0,s1,s2,s3,s4,s5,s6⟩:=hSw;go_simp;(try with_reducible rfl)
     simp only [Act.put,List.setIfInBounds_toArray,List.set_cons_zero,List.set_cons_succ];refine tkc 13 ?_;refine tkc 14 ?_;refine tkc 15 ?_;refine tkc 16 ?_;refine tkc 17 ?_;refine tkc 18 ?_;refine tkc 19 ?_;refine wpAnyH_take (i:=20) (oi:=⟨some 39,_,_,_,_,_⟩) (v:=?v91) rfl (by kernel_rfl) (by kernel_rfl) (by kernel_rfl) (fun _ _ _ h=>h) (Or.inl ⟨by rfl,?y91⟩) (by assumption) ?r91
     case y91=>intro w hSw;obtain ⟨s0,s1,s2,s3,s4,s5,s6⟩:=hSw;go_simp;(try with_reducible rfl)
     simp only [Act.put,List.setIfInBounds_toArray,List.set_cons_zero,List.set_cons_succ];refine wpAnyH_take (i:=21) (oi:=⟨some 40,_,_,_,_,_⟩) (v:=?v92) rfl (by kernel_rfl) (by kernel_rfl) (by kernel_rfl) (fun _ _ _ h=>h) (Or.inl ⟨by rfl,?y92⟩) (by assumption) ?r92
     case y92=>intro w hSw;obtain ⟨s0,s1,s2,s3,s4,s5,s6⟩:=hSw;go_simp;(try with_reducible rfl)
     simp only [Act.put,List.setIfInBounds_toArray,List.set_cons_zero,List.set_cons_succ];refine wpAnyH_take (i:=22) (oi:=⟨some 41,_,_,_,_,_⟩) (v:=?v93) rfl (by kernel_rfl) (by kernel_rfl) (by kernel_rfl) (fun _ _ _ h=>h) (Or.inl ⟨by rfl,?y93⟩) (by assumption) ?r93
     case y93=>intro w hSw;obtain ⟨s0,s1,s2,s3,s4,s5,s6⟩:=hSw;go_simp;(try with_reducible rfl)
     simp only [Act.put,List.setIfInBounds_toArray,List.set_cons_zero,List.set_cons_succ];refine rdy [23] ?_;refine cns (fun K hK=>?_) .nil;go_simp;refine (HPd.out W5).mono ?_;rintro e W6 ⟨rfl,hb6⟩;have HB6:=lh (aD HB5.out hb6 HB5.out.size);clear hb6;dsimp only
     refine bck hK (HSk.out _ HB6.out) (fun hHeld=>?_);clear hK;refine tkc 24 ?_;refine tkc 25 ?_;refine tkc 26 ?_;refine tkc 27 ?_;refine tkc 28 ?_;refine tkc 29 ?_;refine tkc 30 ?_;refine tkc 31 ?_;refine wpAnyH_take (i:=32) (oi:=⟨some 51,_,_,_,_,_⟩) (v:=?v102) rfl (by kernel_rfl) (by kernel_rfl) (by kernel_rfl) (fun _ _ _ h=>h) (Or.inl ⟨by rfl,?y102⟩) (by assumption) ?r102
     case y102=>intro w hSw;obtain ⟨s0,s1,s2,s3,s4,s5,s6⟩:=hSw;go_simp;(try with_reducible rfl)
     simp only [Act.put,List.setIfInBounds_toArray,List.set_cons_zero,List.set_cons_succ];refine wpAnyH_take (i:=33) (oi:=⟨some 52,_,_,_,_,_⟩) (v:=?v103) rfl (by kernel_rfl) (by kernel_rfl) (by kernel_rfl) (fun _ _ _ h=>h) (Or.inl ⟨by rfl,?y103⟩) (by assumption) ?r103
     case y103=>intro w hSw;obtain ⟨s0,s1,s2,s3,s4,s5,s6⟩:=hSw;go_simp;(try with_reducible rfl)
     simp only [Act.put,List.setIfInBounds_toArray,List.set_cons_zero,List.set_cons_succ];refine wpAnyH_take (i:=34) (oi:=⟨some 53,_,_,_,_,_⟩) (v:=?v104) rfl (by kernel_rfl) (by kernel_rfl) (by kernel_rfl) (fun _ _ _ h=>h) (Or.inl ⟨by rfl,?y104⟩) (by assumption) ?r104
     case y104=>intro w hSw;obtain ⟨s0,s1,s2,s3,s4,s5,s6⟩:=hSw;go_simp;(try with_reducible rfl)
     simp only [Act.put,List.setIfInBounds_toArray,List.set_cons_zero,List.set_cons_succ];refine rdy [35] ?_;refine cns (fun K hK=>?_) .nil;go_simp;refine (HPm.out W6).mono ?_;rintro e W8 ⟨rfl,hb7⟩;have HB8:=lh (aD HB6.out hb7 HB6.out.size);clear hb7;dsimp only
     refine bck hK (HSk.out _ HB8.out) (fun hHeld=>?_);clear hK;refine tkc 36 ?_;refine wpAnyH_done (by kernel_rfl) ?_ _;cases pl
     ·have HLb:Hid (lostB s now delay limit x.p=false):=lh (by rw [HLo.out];rw [HLt.out];rfl)
      have HT6:=lh (HI.out.below (gU.k _ _ _ _ _ _ _ _ _ _ _ _ _ _) HB8.out);have q0:=HT6.out.box.q0.cell (i:=0) rfl;have q4:W8.cell? ⟨b,4,none⟩=some (.bool s.mixed):=HT6.out.led.head.cell (i:=4) rfl;clear HOv HPd HPm;obtain ⟨t1,t2⟩:=NA (pre:=pre) HLb.out;have HT1:=lh t1;have HT2:=lh t2;clear t1 t2;cases hmx:s.mixed
      ·rw [hmx] at q4
       have HMx:=lh hmx;clear hmx
       gi_wp2
       refine ⟨bZ (Fr.of_below HB8.out []) (fun y hy=>by cases hy),⟨rfl,pre,pA HS.out HMx.out List.filter_sublist HOk.out HLb.out,HT1.out,HT2.out⟩,?_⟩;rw [HT1.out,HT2.out];exact HT6.out
      ·rw [hmx] at q4
       clear hmx
       gi_wp2
       refine ⟨bZ (Fr.of_below HB8.out []) (fun y hy=>by cases hy),?_⟩;show TkS w b rb g n4 _ (s.take (LT s now delay limit (pre ++ [x]))) (LPk s now delay limit (pre ++ [x])) _ _
       rw [HT1.out,HT2.out];exact HT6.out
     ·have HLb:Hid (lostB s now delay limit x.p=true):=lh (by rw [HLo.out];simp)
      have HT6:=lh (HI.out.below (gU.k _ _ _ _ _ _ _ _ _ _ _ _ _ _) HB8.out);have q7:=HT6.out.box.q7.cell (i:=0) rfl;obtain ⟨v,hv1,hv2,hv3⟩:=HT6.out.out;have HV1:=lh hv1;have HV2:=lh hv2;have HV3:=lh hv3;have HTK:=lh (iT b rb g n5 n6 n4 x _ v _ W8 HT6.out.led (LS.take_ok HS.out _) HXt.out HXg.out HT6.out.box.q5 HT6.out.box.q6 hv1 hv2 HPl.out);clear hv1 hv2 hv3 HOv HPd HPm
      gi_wp2_with fail
      refine ⟨trivial,?_⟩;refine (CallsIn.inRound l (callsIn_wide.2 HTK.out)).mono ?_;intro e W7 hp;obtain rfl:=hp.e;have RES:=lh (HT6.out.take (gU.k _ _ _ _ _ _ _ _ _ _ _ _ _ _) HXt.out HV1.out HV2.out HV3.out hn4 (.inl (by simp [aE])) (.inl (by simp only [aE,List.mem_cons];exact .inr (.inr (.inr (List.mem_map_of_mem HX.out))))) hp);clear hp HTK q7
      gi_wp2
      obtain ⟨t1,t2⟩:=qU (pre:=pre) HLb.out;refine ⟨(bZ (Fr.of_below HB8.out []) (fun y hy=>by cases hy)).trans (RES.out.2 _),?_⟩;show TkS w b rb g n4 _ (s.take (LT s now delay limit (pre ++ [x]))) (LPk s now delay limit (pre ++ [x])) _ _
      rw [t1,t2,LS.take_append];exact RES.out.1
    ·have HLb:Hid (lostB s now delay limit x.p=true):=lh (by rw [HLo.out,HLt.out];simp)
     refine bV (S:=fun w'=>w'.cell? ⟨n0,0,none⟩=some ↑(π b)∧w'.cell? ⟨n1,0,none⟩=some ↑now∧w'.cell? ⟨n2,0,none⟩=some ↑delay∧w'.cell? ⟨n3,0,none⟩=some ↑limit∧w'.cell? ⟨x.b,0,none⟩=some ↑x.p.n∧w'.cell? ⟨x.b,2,none⟩=some ↑x.p.sent∧w'.cell? ⟨b,7,none⟩=some ↑s.top) (by rintro ⟨_,_,h⟩;exact h) (by kernel_rfl) (by kernel_rfl) (HSk.out _ HDr.out) (fun hHeld=>?_);simp only [List.size_toArray,List.length_cons,List.length_nil,Nat.reduceAdd,Array.replicate_succ,Array.replicate_zero,List.push_toArray,List.nil_append,List.cons_append];refine wpAnyH_take (i:=0) (oi:=⟨some 19,_,_,_,_,_⟩) (v:=?v37) rfl (by kernel_rfl) (by kernel_rfl) (by kernel_rfl) (fun _ _ _ h=>h) (Or.inl ⟨by rfl,?y37⟩) (by assumption) ?r37
     case y37=>intro w hSw;obtain ⟨s0,s1,s2,s3,s4,s5,s6⟩:=hSw;go_simp;(try with_reducible rfl)
     simp only [Act.put,List.setIfInBounds_toArray,List.set_cons_zero,List.set_cons_succ];refine tkc 1 ?_;refine rdy [2] ?_;refine cns (fun K hK=>?_) .nil;go_simp;refine (HOv.out _ HDr.out).mono ?_;rintro e W5 ⟨rfl,hb5⟩;have HB5:=lh (aD HDr.out hb5 HDr.out.size);clear hb5;dsimp only
     refine bck hK (HSk.out _ HB5.out) (fun hHeld=>?_);clear hK;refine tkc 3 ?_;refine tkc 4 ?_;refine tkc 5 ?_;refine tkc 6 ?_;refine tkc 7 ?_;refine wpAnyH_take (i:=8) (oi:=⟨some 27,_,_,_,_,_⟩) (v:=?v44) rfl (by kernel_rfl) (by kernel_rfl) (by kernel_rfl) (fun _ _ _ h=>h) (Or.inl ⟨by rfl,?y44⟩) (by assumption) ?r44
     case y44=>intro w hSw;obtain ⟨s0,s1,s2,s3,s4,s5,s6⟩:=hSw;go_simp;(try with_reducible rfl)
     simp only [Act.put,List.setIfInBounds_toArray,List.set_cons_zero,List.set_cons_succ];refine wpAnyH_take (i:=9) (oi:=⟨some 28,_,_,_,_,_⟩) (v:=?v45) rfl (by kernel_rfl) (by kernel_rfl) (by kernel_rfl) (fun _ _ _ h=>h) (Or.inl ⟨by rfl,?y45⟩) (by assumption) ?r45
     case y45=>intro w hSw;obtain ⟨s0,s1,s2,s3,s4,s5,s6⟩:=hSw;go_simp;(try with_reducible rfl)
     simp only [Act.put,List.setIfInBounds_toArray,List.set_cons_zero,List.set_cons_succ];refine tkc 10 ?_;refine tkc 11 ?_;refine wpAnyH_take (i:=12) (oi:=⟨some 31,_,_,_,_,_⟩) (v:=?v48) rfl (by kernel_rfl) (by kernel_rfl) (by kernel_rfl) (fun _ _ _ h=>h) (Or.inl ⟨by rfl,?y48⟩) (by assumption) ?r48
     case y48=>intro w hSw;obtain ⟨s0,s1,s2,s3,s4,s5,s6⟩:=hSw;go_simp;(try with_reducible rfl)
     simp only [Act.put,List.setIfInBounds_toArray,List.set_cons_zero,List.set_cons_succ];refine tkc 13 ?_;refine tkc 14 ?_;refine tkc 15 ?_;refine tkc 16 ?_;refine tkc 17 ?_;refine tkc 18 ?_;refine tkc 19 ?_;refine wpAnyH_take (i:=20) (oi:=⟨some 39,_,_,_,_,_⟩) (v:=?v56) rfl (by kernel_rfl) (by kernel_rfl) (by kernel_rfl) (fun _ _ _ h=>h) (Or.inl ⟨by rfl,?y56⟩) (by assumption) ?r56
     case y56=>intro w hSw;obtain ⟨s0,s1,s2,s3,s4,s5,s6⟩:=hSw;go_simp;(try with_reducible rfl)
     simp only [Act.put,List.setIfInBounds_toArray,List.set_cons_zero,List.set_cons_succ];refine wpAnyH_take (i:=21) (oi:=⟨some 40,_,_,_,_,_⟩) (v:=?v57) rfl (by kernel_rfl) (by kernel_rfl) (by kernel_rfl) (fun _ _ _ h=>h) (Or.inl ⟨by rfl,?y57⟩) (by assumption) ?r57
     case y57=>intro w hSw;obtain ⟨s0,s1,s2,s3,s4,s5,s6⟩:=hSw;go_simp;(try with_reducible rfl)
     simp only [Act.put,List.setIfInBounds_toArray,List.set_cons_zero,List.set_cons_succ];refine wpAnyH_take (i:=22) (oi:=⟨some 41,_,_,_,_,_⟩) (v:=?v58) rfl (by kernel_rfl) (by kernel_rfl) (by kernel_rfl) (fun _ _ _ h=>h) (Or.inl ⟨by rfl,?y58⟩) (by assumption) ?r58
     case y58=>intro w hSw;obtain ⟨s0,s1,s2,s3,s4,s5,s6⟩:=hSw;go_simp;(try with_reducible rfl)
     simp only [Act.put,List.setIfInBounds_toArray,List.set_cons_zero,List.set_cons_succ];refine rdy [23] ?_;refine cns (fun K hK=>?_) .nil;go_simp;refine (HPd.out W5).mono ?_;rintro e W6 ⟨rfl,hb6⟩;have HB6:=lh (aD HB5.out hb6 HB5.out.size);clear hb6;dsimp only
     refine bck hK (HSk.out _ HB6.out) (fun hHeld=>?_);clear hK;refine tkc 24 ?_;refine tkc 25 ?_;refine tkc 26 ?_;refine tku 27 ?_;refine tku 28 ?_;refine tku 29 ?_;refine tku 30 ?_;refine tku 31 ?_;refine tku 32 ?_;refine tku 33 ?_;refine tku 34 ?_;refine tku 35 ?_;refine tkc 36 ?_;refine wpAnyH_done (by kernel_rfl) ?_ _;have HT6:=lh (HI.out.below (gU.k _ _ _ _ _ _ _ _ _ _ _ _ _ _) HB6.out);have q7:=HT6.out.box.q7.cell (i:=0) rfl;obtain ⟨v,hv1,hv2,hv3⟩:=HT6.out.out;have HV1:=lh hv1;have HV2:=lh hv2;have HV3:=lh hv3;have HTK:=lh (iT b rb g n5 n6 n4 x _ v _ W6 HT6.out.led (LS.take_ok HS.out _) HXt.out HXg.out HT6.out.box.q5 HT6.out.box.q6 hv1 hv2 HPl.out);clear hv1 hv2 hv3 HOv HPd HPm
     gi_wp2_with fail
     refine ⟨trivial,?_⟩;refine (CallsIn.inRound l (callsIn_wide.2 HTK.out)).mono ?_;intro e W7 hp;obtain rfl:=hp.e;have RES:=lh (HT6.out.take (gU.k _ _ _ _ _ _ _ _ _ _ _ _ _ _) HXt.out HV1.out HV2.out HV3.out hn4 (.inl (by simp [aE])) (.inl (by simp only [aE,List.mem_cons];exact .inr (.inr (.inr (List.mem_map_of_mem HX.out))))) hp);clear hp HTK q7
     gi_wp2
     obtain ⟨t1,t2⟩:=qU (pre:=pre) HLb.out;refine ⟨(bZ (Fr.of_below HB6.out []) (fun y hy=>by cases hy)).trans (RES.out.2 _),?_⟩;show TkS w b rb g n4 _ (s.take (LT s now delay limit (pre ++ [x]))) (LPk s now delay limit (pre ++ [x])) _ _
     rw [t1,t2,LS.take_append];exact RES.out.1
   ·have d1:decide (x.p.n < s.top)=false:=by simpa using hlt
    have HLt:=lh d1;clear hlt;refine bV (S:=fun w'=>w'.cell? ⟨n0,0,none⟩=some ↑(π b)∧w'.cell? ⟨n1,0,none⟩=some ↑now∧w'.cell? ⟨n2,0,none⟩=some ↑delay∧w'.cell? ⟨n3,0,none⟩=some ↑limit∧w'.cell? ⟨x.b,0,none⟩=some ↑x.p.n∧w'.cell? ⟨x.b,2,none⟩=some ↑x.p.sent∧w'.cell? ⟨b,7,none⟩=some ↑s.top) (by rintro ⟨_,_,h⟩;exact h) (by kernel_rfl) (by kernel_rfl) (HSk.out _ HDr.out) (fun hHeld=>?_);simp only [List.size_toArray,List.length_cons,List.length_nil,Nat.reduceAdd,Array.replicate_succ,Array.replicate_zero,List.push_toArray,List.nil_append,List.cons_append];refine wpAnyH_take (i:=0) (oi:=⟨some 19,_,_,_,_,_⟩) (v:=?v106) rfl (by kernel_rfl) (by kernel_rfl) (by kernel_rfl) (fun _ _ _ h=>h) (Or.inl ⟨by rfl,?y106⟩) (by assumption) ?r106
    case y106=>intro w hSw;obtain ⟨s0,s1,s2,s3,s4,s5,s6⟩:=hSw;go_simp;(try with_reducible rfl)
    simp only [Act.put,List.setIfInBounds_toArray,List.set_cons_zero,List.set_cons_succ];refine tkc 1 ?_;refine rdy [2] ?_;refine cns (fun K hK=>?_) .nil;go_simp;refine (HOv.out _ HDr.out).mono ?_;rintro e W5 ⟨rfl,hb5⟩;have HB5:=lh (aD HDr.out hb5 HDr.out.size);clear hb5;dsimp only
    refine bck hK (HSk.out _ HB5.out) (fun hHeld=>?_);clear hK;refine tkc 3 ?_;refine tkc 4 ?_;refine tkc 5 ?_;refine tkc 6 ?_;refine tkc 7 ?_;refine wpAnyH_take (i:=8) (oi:=⟨some 27,_,_,_,_,_⟩) (v:=?v113) rfl (by kernel_rfl) (by kernel_rfl) (by kernel_rfl) (fun _ _ _ h=>h) (Or.inl ⟨by rfl,?y113⟩) (by assumption) ?r113
    case y113=>intro w hSw;obtain ⟨s0,s1,s2,s3,s4,s5,s6⟩:=hSw;go_simp;(try with_reducible rfl)
    simp only [Act.put,List.setIfInBounds_toArray,List.set_cons_zero,List.set_cons_succ];refine wpAnyH_take (i:=9) (oi:=⟨some 28,_,_,_,_,_⟩) (v:=?v114) rfl (by kernel_rfl) (by kernel_rfl) (by kernel_rfl) (fun _ _ _ h=>h) (Or.inl ⟨by rfl,?y114⟩) (by assumption) ?r114
    case y114=>intro w hSw;obtain ⟨s0,s1,s2,s3,s4,s5,s6⟩:=hSw;go_simp;(try with_reducible rfl)
    simp only [Act.put,List.setIfInBounds_toArray,List.set_cons_zero,List.set_cons_succ];refine tkc 10 ?_;refine tkc 11 ?_;refine wpAnyH_take (i:=12) (oi:=⟨some 31,_,_,_,_,_⟩) (v:=?v117) rfl (by kernel_rfl) (by kernel_rfl) (by kernel_rfl) (fun _ _ _ h=>h) (Or.inl ⟨by rfl,?y117⟩) (by assumption) ?r117
    case y117=>intro w hSw;obtain ⟨s0,s1,s2,s3,s4,s5,s6⟩:=hSw;go_simp;(try with_reducible rfl)
    simp only [Act.put,List.setIfInBounds_toArray,List.set_cons_zero,List.set_cons_succ];refine tkc 13 ?_;refine tkc 14 ?_;refine tku 15 ?_;refine tku 16 ?_;refine tku 17 ?_;refine tku 18 ?_;refine tku 19 ?_;refine tku 20 ?_;refine tku 21 ?_;refine tku 22 ?_;refine tku 23 ?_;refine tkc 24 ?_;refine tkc 25 ?_;refine tkc 26 ?_;refine tkc 27 ?_;refine tkc 28 ?_;refine tkc 29 ?_;refine tkc 30 ?_;refine tkc 31 ?_;refine wpAnyH_take (i:=32) (oi:=⟨some 51,_,_,_,_,_⟩) (v:=?v137) rfl (by kernel_rfl) (by kernel_rfl) (by kernel_rfl) (fun _ _ _ h=>h) (Or.inl ⟨by rfl,?y137⟩) (by assumption) ?r137
    case y137=>intro w hSw;obtain ⟨s0,s1,s2,s3,s4,s5,s6⟩:=hSw;go_simp;(try with_reducible rfl)
    simp only [Act.put,List.setIfInBounds_toArray,List.set_cons_zero,List.set_cons_succ];refine wpAnyH_take (i:=33) (oi:=⟨some 52,_,_,_,_,_⟩) (v:=?v138) rfl (by kernel_rfl) (by kernel_rfl) (by kernel_rfl) (fun _ _ _ h=>h) (Or.inl ⟨by rfl,?y138⟩) (by assumption) ?r138
    case y138=>intro w hSw;obtain ⟨s0,s1,s2,s3,s4,s5,s6⟩:=hSw;go_simp;(try with_reducible rfl)
    simp only [Act.put,List.setIfInBounds_toArray,List.set_cons_zero,List.set_cons_succ];refine wpAnyH_take (i:=34) (oi:=⟨some 53,_,_,_,_,_⟩) (v:=?v139) rfl (by kernel_rfl) (by kernel_rfl) (by kernel_rfl) (fun _ _ _ h=>h) (Or.inl ⟨by rfl,?y139⟩) (by assumption) ?r139
    case y139=>intro w hSw;obtain ⟨s0,s1,s2,s3,s4,s5,s6⟩:=hSw;go_simp;(try with_reducible rfl)
    simp only [Act.put,List.setIfInBounds_toArray,List.set_cons_zero,List.set_cons_succ];refine rdy [35] ?_;refine cns (fun K hK=>?_) .nil;go_simp;refine (HPm.out W5).mono ?_;rintro e W8 ⟨rfl,hb7⟩;have HB8:=lh (aD HB5.out hb7 HB5.out.size);clear hb7;dsimp only
    refine bck hK (HSk.out _ HB8.out) (fun hHeld=>?_);clear hK;refine tkc 36 ?_;refine wpAnyH_done (by kernel_rfl) ?_ _;cases pl
    ·have HLb:Hid (lostB s now delay limit x.p=false):=lh (by rw [HLo.out];rw [HLt.out];rfl)
     have HT6:=lh (HI.out.below (gU.k _ _ _ _ _ _ _ _ _ _ _ _ _ _) HB8.out);have q0:=HT6.out.box.q0.cell (i:=0) rfl;have q4:W8.cell? ⟨b,4,none⟩=some (.bool s.mixed):=HT6.out.led.head.cell (i:=4) rfl;clear HOv HPd HPm;obtain ⟨t1,t2⟩:=NA (pre:=pre) HLb.out;have HT1:=lh t1;have HT2:=lh t2;clear t1 t2;cases hmx:s.mixed
     ·rw [hmx] at q4
      have HMx:=lh hmx;clear hmx
      gi_wp2
      refine ⟨bZ (Fr.of_below HB8.out []) (fun y hy=>by cases hy),⟨rfl,pre,pA HS.out HMx.out List.filter_sublist HOk.out HLb.out,HT1.out,HT2.out⟩,?_⟩;rw [HT1.out,HT2.out];exact HT6.out
     ·rw [hmx] at q4
      clear hmx
      gi_wp2
      refine ⟨bZ (Fr.of_below HB8.out []) (fun y hy=>by cases hy),?_⟩;show TkS w b rb g n4 _ (s.take (LT s now delay limit (pre ++ [x]))) (LPk s now delay limit (pre ++ [x])) _ _
      rw [HT1.out,HT2.out];exact HT6.out
    ·have HLb:Hid (lostB s now delay limit x.p=true):=lh (by rw [HLo.out];simp)
     have HT6:=lh (HI.out.below (gU.k _ _ _ _ _ _ _ _ _ _ _ _ _ _) HB8.out);have q7:=HT6.out.box.q7.cell (i:=0) rfl;obtain ⟨v,hv1,hv2,hv3⟩:=HT6.out.out;have HV1:=lh hv1;have HV2:=lh hv2;have HV3:=lh hv3;have HTK:=lh (iT b rb g n5 n6 n4 x _ v _ W8 HT6.out.led (LS.take_ok HS.out _) HXt.out HXg.out HT6.out.box.q5 HT6.out.box.q6 hv1 hv2 HPl.out);clear hv1 hv2 hv3 HOv HPd HPm
     gi_wp2_with fail
     refine ⟨trivial,?_⟩;refine (CallsIn.inRound l (callsIn_wide.2 HTK.out)).mono ?_;intro e W7 hp;obtain rfl:=hp.e;have RES:=lh (HT6.out.take (gU.k _ _ _ _ _ _ _ _ _ _ _ _ _ _) HXt.out HV1.out HV2.out HV3.out hn4 (.inl (by simp [aE])) (.inl (by simp only [aE,List.mem_cons];exact .inr (.inr (.inr (List.mem_map_of_mem HX.out))))) hp);clear hp HTK q7
     gi_wp2
     obtain ⟨t1,t2⟩:=qU (pre:=pre) HLb.out;refine ⟨(bZ (Fr.of_below HB8.out []) (fun y hy=>by cases hy)).trans (RES.out.2 _),?_⟩;show TkS w b rb g n4 _ (s.take (LT s now delay limit (pre ++ [x]))) (LPk s now delay limit (pre ++ [x])) _ _
     rw [t1,t2,LS.take_append];exact RES.out.1
  ·have HLb:Hid (lostB s now delay limit x.p=true):=lh (by rw [HLo.out];simp)
   refine bV (S:=fun w'=>w'.cell? ⟨n0,0,none⟩=some ↑(π b)∧w'.cell? ⟨n1,0,none⟩=some ↑now∧w'.cell? ⟨n2,0,none⟩=some ↑delay∧w'.cell? ⟨n3,0,none⟩=some ↑limit∧w'.cell? ⟨x.b,0,none⟩=some ↑x.p.n∧w'.cell? ⟨x.b,2,none⟩=some ↑x.p.sent∧w'.cell? ⟨b,7,none⟩=some ↑s.top) (by rintro ⟨_,_,h⟩;exact h) (by kernel_rfl) (by kernel_rfl) (HSk.out _ HDr.out) (fun hHeld=>?_);simp only [List.size_toArray,List.length_cons,List.length_nil,Nat.reduceAdd,Array.replicate_succ,Array.replicate_zero,List.push_toArray,List.nil_append,List.cons_append];refine wpAnyH_take (i:=0) (oi:=⟨some 19,_,_,_,_,_⟩) (v:=?v1) rfl (by kernel_rfl) (by kernel_rfl) (by kernel_rfl) (fun _ _ _ h=>h) (Or.inl ⟨by rfl,?y1⟩) (by assumption) ?r1
   case y1=>intro w hSw;obtain ⟨s0,s1,s2,s3,s4,s5,s6⟩:=hSw;go_simp;(try with_reducible rfl)
   simp only [Act.put,List.setIfInBounds_toArray,List.set_cons_zero,List.set_cons_succ];refine tkc 1 ?_;refine rdy [2] ?_;refine cns (fun K hK=>?_) .nil;go_simp;refine (HOv.out _ HDr.out).mono ?_;rintro e W5 ⟨rfl,hb5⟩;have HB5:=lh (aD HDr.out hb5 HDr.out.size);clear hb5;dsimp only
   refine bck hK (HSk.out _ HB5.out) (fun hHeld=>?_);clear hK;refine tkc 3 ?_;refine tku 4 ?_;refine tku 5 ?_;refine tku 6 ?_;refine tku 7 ?_;refine tku 8 ?_;refine tku 9 ?_;refine tku 10 ?_;refine tku 11 ?_;refine tku 12 ?_;refine tku 13 ?_;refine tku 14 ?_;refine tku 15 ?_;refine tku 16 ?_;refine tku 17 ?_;refine tku 18 ?_;refine tku 19 ?_;refine tku 20 ?_;refine tku 21 ?_;refine tku 22 ?_;refine tku 23 ?_;refine tku 24 ?_;refine tkc 25 ?_;refine tkc 26 ?_;refine tku 27 ?_;refine tku 28 ?_;refine tku 29 ?_;refine tku 30 ?_;refine tku 31 ?_;refine tku 32 ?_;refine tku 33 ?_;refine tku 34 ?_;refine tku 35 ?_;refine tkc 36 ?_;refine wpAnyH_done (by kernel_rfl) ?_ _;have HT6:=lh (HI.out.below (gU.k _ _ _ _ _ _ _ _ _ _ _ _ _ _) HB5.out);have q7:=HT6.out.box.q7.cell (i:=0) rfl;obtain ⟨v,hv1,hv2,hv3⟩:=HT6.out.out;have HV1:=lh hv1;have HV2:=lh hv2;have HV3:=lh hv3;have HTK:=lh (iT b rb g n5 n6 n4 x _ v _ W5 HT6.out.led (LS.take_ok HS.out _) HXt.out HXg.out HT6.out.box.q5 HT6.out.box.q6 hv1 hv2 HPl.out);clear hv1 hv2 hv3 HOv HPd HPm
   gi_wp2_with fail
   refine ⟨trivial,?_⟩;refine (CallsIn.inRound l (callsIn_wide.2 HTK.out)).mono ?_;intro e W7 hp;obtain rfl:=hp.e;have RES:=lh (HT6.out.take (gU.k _ _ _ _ _ _ _ _ _ _ _ _ _ _) HXt.out HV1.out HV2.out HV3.out hn4 (.inl (by simp [aE])) (.inl (by simp only [aE,List.mem_cons];exact .inr (.inr (.inr (List.mem_map_of_mem HX.out))))) hp);clear hp HTK q7
   gi_wp2
   obtain ⟨t1,t2⟩:=qU (pre:=pre) HLb.out;refine ⟨(bZ (Fr.of_below HB5.out []) (fun y hy=>by cases hy)).trans (RES.out.2 _),?_⟩;show TkS w b rb g n4 _ (s.take (LT s now delay limit (pre ++ [x]))) (LPk s now delay limit (pre ++ [x])) _ _
   rw [t1,t2,LS.take_append];exact RES.out.1
 case done=>
  rintro D xs W hD hDl rfl hI hK;obtain ⟨v,hv1,hv2,hv3⟩:=hI.out;have c0:=hI.box.q0.cell (i:=0) rfl;have HI:=lh hI;have HV2:=lh hv2;have HV3:=lh hv3;have HV1:=lh hv1;have HK:=lh hK;have HD:=lh hD;have HNr:=lh (jV b rb g _ W hI.led (LS.take_ok HS.out _));clear hI hv1 hv2 hv3 hK hD hDl HI0 HSeq HYl
  gi_wp2_with fail
  refine ⟨trivial,?_⟩;refine (callsIn_wide.2 HNr.out).mono ?_;intro e W2 hn;obtain rfl:=hn.e;have HK2:Hid (W2.heap[D]? =some (.deferred (some []))):=lh ((bZ (B:=0) hn.fr (fun y hy=>.inr (HI.out.led.cells y hy))).same _ _ (Nat.zero_le _) HK.out rfl);have c4:=(HV1.out.fr hn.fr (HI.out.led.off HV1.out (by decide) (by decide) (by decide) (by decide))).cell (i:=0) rfl;have HE:=lh (sW (D:=D) HS.out (by unfold LT;rw [lH HS.out.pk];exact lL HS.out _) (by unfold LPk;rw [lH HS.out.pk];exact iX s _) HI.out HV2.out HV3.out hn (Nat.le_trans HB4.out.size HD.out) HK2.out rfl);clear hn c0 HNr
  gi_wp2
  refine ⟨by simp,.inl ⟨_,_,rfl,run_takeDeferred HK2.out,?_⟩⟩;refine ⟨v,?_,HE.out⟩;simp [results,Tryz.f121]
 case stop=>
  rintro D c pre W hD hDl hpre ⟨⟨rfl,p0,he1,he2,he3⟩,hI⟩ hK;rw [he2,he3] at hI;have HE1:=lh he1;clear he1 he2 he3;obtain ⟨v,hv1,hv2,hv3⟩:=hI.out;have c0:=hI.box.q0.cell (i:=0) rfl;have HI:=lh hI;have HV2:=lh hv2;have HV3:=lh hv3;have HV1:=lh hv1;have HK:=lh hK;have HD:=lh hD;have HNr:=lh (jV b rb g _ W hI.led (LS.take_ok HS.out _));clear hI hv1 hv2 hv3 hK hD hDl HI0 HSeq HYl
  gi_wp2_with fail
  refine ⟨trivial,?_⟩;refine (callsIn_wide.2 HNr.out).mono ?_;intro e W2 hn;obtain rfl:=hn.e;have HK2:Hid (W2.heap[D]? =some (.deferred (some []))):=lh ((bZ (B:=0) hn.fr (fun y hy=>.inr (HI.out.led.cells y hy))).same _ _ (Nat.zero_le _) HK.out rfl);have c4:=(HV1.out.fr hn.fr (HI.out.led.off HV1.out (by decide) (by decide) (by decide) (by decide))).cell (i:=0) rfl;have HE:=lh (sW (D:=D) HS.out (by unfold LT;rw [← HE1.out,lH HS.out.pk];exact lL HS.out _) (by unfold LPk;rw [← HE1.out,lH HS.out.pk];exact iX s _) HI.out HV2.out HV3.out hn (Nat.le_trans HB4.out.size HD.out) HK2.out rfl);clear hn c0 HNr
  gi_wp2
  refine ⟨by simp,.inl ⟨_,_,rfl,run_takeDeferred HK2.out,?_⟩⟩;refine ⟨v,?_,HE.out⟩;simp [results,Tryz.f121]
end Go.Proofs.YtjhiooggnpbecaaGreatDoor
