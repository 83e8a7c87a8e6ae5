/- 1 texts put together: what each one says stands ahead of it. -/
import Derived.Test.YteoepabmnbkabaaGreatDoorKS34
import Derived.Laws.EntriesVeiled
set_option linter.unusedVariables false
namespace Go.Proofs.YteoepabmnbkabaaGreatDoor
open Go.RowKit Go.Shelf
def boxT (T:TypeId):Prop:=T≠140∧T≠203∧T≠42∧T≠47
def BoxK (Bx:World→Prop):Prop:=∀W W',Bx W→(∀x T cs,Blk W x T cs→boxT T→W'.heap[x]? =W.heap[x]?)→Bx W'
structure TkS (w:World) (b rb g n4:Nat) (B0:List Nat) (s:LS) (l:List Pk) (Bx:World→Prop) (W:World):Prop where
 led:LAt W b rb g s
 box:Bx W
 out:∃v,Blk W n4 42 #[v]∧PR W v l∧∀k,v.ownBlock=some k→w.heap.size≤k
 fr:Fr w W B0
theorem TkS.keepX {w:World} {b rb g n4:Nat} {B0:List Nat} {s:LS} {l:List Pk} {Bx:World→Prop} {W W':World} (h:TkS w b rb g n4 B0 s l Bx W) (hB:BoxK Bx) (k:∀x T cs,Blk W x T cs→W'.heap[x]? =W.heap[x]?) (hf:Fr w W' B0):TkS w b rb g n4 B0 s l Bx W':=by
 obtain ⟨v,h1,h2,h3⟩:=h.out
 exact ⟨h.led.keepX fun x T cs _ hb=>k x T cs hb,hB W W' h.box fun x T cs hb _=>k x T cs hb,⟨v,by unfold Blk;rw [k _ _ _ h1];exact h1,h2.same fun g cs _ hb=>k g _ cs hb,h3⟩,hf⟩
theorem TkS.below {w:World} {b rb g n4:Nat} {B0:List Nat} {s:LS} {l:List Pk} {Bx:World→Prop} {W W':World} (h:TkS w b rb g n4 B0 s l Bx W) (hB:BoxK Bx) (k:Below W.heap.size W W'):TkS w b rb g n4 B0 s l Bx W':=
 h.keepX hB (fun x T cs hb=>k.block x hb.lt) (h.fr.below k)
theorem fr_grown {w X Y:World} {row:Option Nat} {B0:List Nat} {B:Nat} (h:Fr w X B0) (hg:X.grownBy Y row) (hr:∀r,row=some r→B≤r) (hB:w.heap.size≤B):Fr w Y B0:=
 ⟨hg.os.trans h.os,hg.tape.trans h.tape,hg.output.trans h.output,Nat.le_trans h.size hg.size,fun k hk hl=>(hg.block k (Nat.lt_of_lt_of_le hk h.size) (fun e=>by have:=hr k e.symm;omega)).trans (h.block k hk hl)⟩
theorem TkS.grown {w:World} {b rb g n4:Nat} {B0:List Nat} {s:LS} {l:List Pk} {Bx:World→Prop} {W W':World} {row:Option Nat} {B:Nat} (h:TkS w b rb g n4 B0 s l Bx W) (hB:BoxK Bx) (hb:w.heap.size≤B)
  (hg:W.grownBy W' row) (hr:∀r,row=some r→B≤r∧∃o:Obj,W.heap[r]? =some o∧o.isCells=false):TkS w b rb g n4 B0 s l Bx W':=
 h.keepX hB (kept_grown hg (fun r e=>(hr r e).2)) (fr_grown h.fr hg (fun r e=>(hr r e).1) hb)
theorem tks_own {α:Type} {w:World} {b rb g n4:Nat} {B0:List Nat} {s:List α→LS} {l:List α→List Pk} {Bx:World→Prop} {B:Nat} (hB:BoxK Bx) (hb:w.heap.size≤B):OwnFrom B (fun pre W=>TkS w b rb g n4 B0 (s pre) (l pre) Bx W):=
 fun pre X Y row hs hg hr=>hs.grown hB hb hg hr
theorem TkS.take {w:World} {b rb g n4:Nat} {B0:List Nat} {s:LS} {l:List Pk} {Bx:World→Prop} {W W':World} {x:Kp} {v:Value} {e:Ending} (h:TkS w b rb g n4 B0 s l Bx W) (hB:BoxK Bx) (hx:x∈s.ks) (hv1:Blk W n4 42 #[v]) (hv2:PR W v l) (hv3:∀k,v.ownBlock=some k→w.heap.size≤k)
  (hn4:w.heap.size≤n4) (hb0:b∈B0∨w.heap.size≤b) (hxb:x.b∈B0∨w.heap.size≤x.b) (hp:TakePost W b rb g n4 x s v l e W'):TkS w b rb g n4 B0 (s.take [x.b]) (l ++ [x.p]) Bx W'∧∀B,KeepsFrom B W W':=by
 have hL:∀y∈b :: x.b :: n4 :: v.ownBlock.toList,∃T cs,Blk W y T cs∧¬ boxT T:=fun y hy=>by
  simp only [List.mem_cons] at hy
  rcases hy with rfl | rfl | rfl | hy
  ·exact ⟨_,_,h.led.head,fun k=>k.1 rfl⟩
  ·exact ⟨_,_,h.led.kept x hx,fun k=>k.2.1 rfl⟩
  ·exact ⟨_,_,hv1,fun k=>k.2.2.1 rfl⟩
  ·obtain ⟨cs,hc⟩:=hv2.blk (opt_mem hy)
   exact ⟨_,cs,hc,fun k=>k.2.2.2 rfl⟩
 refine ⟨⟨hp.led,hB W W' h.box fun z T cs hz hT=>hp.fr.block z hz.lt (fun hm=>?_),?_,h.fr.trans hp.fr (fun y hy=>?_)⟩,fun B=>kf_of_fr hp.fr (fun y hy=>by obtain ⟨T,cs,hc,_⟩:=hL y hy;exact .inr ⟨T,cs,hc⟩)⟩
 ·obtain ⟨T',cs',h1,h2⟩:=hL z hm
  by_cases c:T=T'
  ·subst c;exact h2 hT
  ·exact hz.ty h1 c rfl
 ·obtain ⟨v',h1,h2,h3⟩:=hp.out
  refine ⟨v',h1,h2,fun k e=>?_⟩
  rcases h3 k e with c | c
  ·exact hv3 k c
  ·have:=h.fr.size;omega
 ·simp only [List.mem_cons] at hy
  rcases hy with rfl | rfl | rfl | hy
  ·exact hb0
  ·exact hxb
  ·exact .inr hn4
  ·exact .inr (hv3 _ (opt_mem hy))
structure LBox (b now delay limit n0 n1 n2 n3 n4 n5 n6 n7 n8 n9:Nat) (W:World):Prop where
 q0:Blk W n0 64 #[.pointer (some ⟨b,0,none⟩)]
 q1:Blk W n1 22 #[.int .u64 (now:Int)]
 q2:Blk W n2 22 #[.int .u64 (delay:Int)]
 q3:Blk W n3 22 #[.int .u64 (limit:Int)]
 q5:Blk W n5 64 #[.pointer (some ⟨b,0,none⟩)]
 q6:Blk W n6 197 #[.pointer (some ⟨n4,0,none⟩)]
 q7:Blk W n7 195 #[.func (.func 197) #[] #[.pointer (some ⟨n5,0,none⟩),.pointer (some ⟨n6,0,none⟩)]]
 q8:Blk W n8 64 #[.pointer (some ⟨b,0,none⟩)]
 q9:Blk W n9 59 #[.int .u64 0,.int .u64 18446744073709551615]
theorem LBox.k (b now delay limit n0 n1 n2 n3 n4 n5 n6 n7 n8 n9:Nat):BoxK (LBox b now delay limit n0 n1 n2 n3 n4 n5 n6 n7 n8 n9):=fun W W' h k=>by
 have mv:∀{x T cs},Blk W x T cs→boxT T→Blk W' x T cs:=fun {x T cs} hb hT=>by unfold Blk;rw [k x T cs hb hT];exact hb
 exact ⟨mv h.q0 (by unfold boxT;decide),mv h.q1 (by unfold boxT;decide),mv h.q2 (by unfold boxT;decide),mv h.q3 (by unfold boxT;decide),mv h.q5 (by unfold boxT;decide),mv h.q6 (by unfold boxT;decide),mv h.q7 (by unfold boxT;decide),mv h.q8 (by unfold boxT;decide),mv h.q9 (by unfold boxT;decide)⟩
def lostB (s:LS) (now delay limit:Nat) (p:Pk):Bool:=overB s p || (decide (p.n < s.top) && Go.Proofs.YteoepabmnbkabaaGreatDoor.passB p.sent delay now) || Go.Proofs.YteoepabmnbkabaaGreatDoor.passB p.sent limit now
theorem addS_mono {a b c:Nat} (h:a≤b):Pl.addS a c≤Pl.addS b c:=by unfold Pl.addS;omega
theorem lost_after {s:LS} {now delay limit:Nat} {p q:Pk} (hn:p.n≤q.n) (hs:p.sent≤q.sent) (h:lostB s now delay limit p=false):lostB s now delay limit q=false:=by
 unfold lostB overB passB at *
 have e1:=addS_mono (c:=s.reorder) hn
 have e2:=addS_mono (c:=delay) hs
 have e3:=addS_mono (c:=limit) hs
 rw [Bool.or_eq_false_iff,Bool.or_eq_false_iff,Bool.and_eq_false_iff,Bool.and_eq_false_iff] at h ⊢
 simp only [decide_eq_false_iff_not] at h ⊢
 obtain ⟨⟨h1,h2⟩,h3⟩:=h
 refine ⟨⟨?_,?_⟩,by omega⟩
 ·rcases h1 with h1 | h1
  ·exact .inl h1
  ·right;omega
 ·rcases h2 with h2 | h2
  ·left;omega
  ·right;omega
theorem lost_rest {s:LS} (hs:s.ok) (hm:s.mixed=false) {now delay limit:Nat} {Y pre:List Kp} {x:Kp} (hY:Y.Sublist s.ks) (hp:pre ++ [x] <+:Y) (hx:lostB s now delay limit x.p=false):
  Y.filter (fun k=>lostB s now delay limit k.p)=pre.filter (fun k=>lostB s now delay limit k.p):=by
 obtain ⟨t,rfl⟩:=hp
 have h1:=hs.rise.sublist hY
 have h2:=(hs.mono hm).sublist hY
 rw [List.append_assoc,List.pairwise_append] at h1 h2
 have h3:=List.pairwise_cons.1 h1.2.1
 have h4:=List.pairwise_cons.1 h2.2.1
 rw [List.append_assoc,List.filter_append]
 have e:([x] ++ t).filter (fun k=>lostB s now delay limit k.p)=[]:=by
  rw [List.filter_eq_nil_iff]
  intro k hk
  rcases List.mem_cons.1 hk with rfl | hk
  ·rw [hx];decide
  ·have:=lost_after (Nat.le_of_lt (h3.1 k hk)) (h4.1 k hk) hx
   rw [this];decide
 rw [e,List.append_nil]
end Go.Proofs.YteoepabmnbkabaaGreatDoor
namespace Go.Proofs.YteoepabmnbkabaaGreatDoor
open Go.RowKit Go.Shelf
attribute [local go_sem] Oper.semAt_some
theorem take_rdr {W:World} {b rb g bl br fr to:Nat} {s:LS} {T:List Nat} {pre:List Kp} (h:LAt W b rb g (s.take T)) (hT:∀t∈T,t∈pre.map Kp.b) (hl:Blk W bl 64 #[.pointer (some ⟨b,0,none⟩)]) (hr:Blk W br 59 #[.int .u64 (fr:Int),.int .u64 (to:Int)]):RdR s.ks b rb g bl br fr to pre W:=by
 have e:itemsK (s.take T).ks=itemsK s.ks:=by
  have:=congrArg (List.map (· + 1)) (markK_b T s.ks)
  rw [List.map_map,List.map_map] at this
  exact this
 refine ⟨hl,hr,⟨⟨_,h.head,rfl⟩,by rw [← e];exact h.row,fun k hk=>?_⟩,fun k hk hp=>?_⟩
 ·have hk':=h.kept _ (markK_of (B:=T) hk)
  exact ⟨_,hk'⟩
 have:=h.kept _ (markK_of (B:=T) hk)
 have hn:k.b ∉ T:=fun hm=>hp (hT _ hm)
 simp only [hn,decide_false,Bool.or_false] at this
 exact this
theorem LAt.off {W:World} {b rb g:Nat} {s:LS} (h:LAt W b rb g s) {z:Nat} {T:TypeId} {cs:Array Value} (hz:Blk W z T cs) (h1:T≠140) (h2:T≠231) (h3:T≠138) (h4:T≠203):z ∉ blocksL b rb g s:=by
 obtain ⟨c1,hr1⟩:=h.row.head
 obtain ⟨c2,hr2⟩:=h.row.body
 intro hm
 simp only [blocksL,List.mem_cons,List.mem_map] at hm
 rcases hm with rfl | rfl | rfl | ⟨k,hk,rfl⟩
 ·exact hz.ty h.head h1 rfl
 ·exact hz.ty hr1 h2 rfl
 ·exact hz.ty hr2 h3 rfl
 ·exact hz.ty (h.kept k hk) h4 rfl
theorem LAt.cells {W:World} {b rb g:Nat} {s:LS} (h:LAt W b rb g s):∀x∈blocksL b rb g s,∃T cs,Blk W x T cs:=by
 obtain ⟨c1,hr1⟩:=h.row.head
 obtain ⟨c2,hr2⟩:=h.row.body
 intro x hm
 simp only [blocksL,List.mem_cons,List.mem_map] at hm
 rcases hm with rfl | rfl | rfl | ⟨k,hk,rfl⟩
 ·exact ⟨_,_,h.head⟩
 ·exact ⟨_,_,hr1⟩
 ·exact ⟨_,_,hr2⟩
 ·exact ⟨_,_,h.kept k hk⟩
theorem blocksL_take (b rb g:Nat) (s:LS) (T:List Nat):blocksL b rb g (s.take T)=blocksL b rb g s:=by
 unfold blocksL;rw [show (s.take T).ks=markK T s.ks from rfl,markK_b]
structure LedEnd (w:World) (b rb g:Nat) (s:LS) (P:LS→Prop) (w':World):Prop where
 led:∃rb' g' s',LAt w' b rb' g' s'∧s'.ok∧P s'∧∀x∈blocksL b rb' g' s',x∈blocksL b rb g s∨w.heap.size≤x
 fr:Fr w w' (blocksL b rb g s)
theorem filter_notin {l:List Kp} (hn:(l.map Kp.b).Nodup) (f:Kp→Bool):l.filter (fun k=>decide (k.b ∉ (l.filter f).map Kp.b))=l.filter (fun k=>!f k):=by
 apply List.filter_congr
 intro k hk
 rw [Bool.eq_iff_iff,decide_eq_true_eq,Bool.not_eq_true']
 constructor
 ·intro h
  cases hf:f k
  ·rfl
  ·exact absurd (List.mem_map_of_mem (List.mem_filter.2 ⟨hk,hf⟩)) h
 ·intro hf hm
  obtain ⟨y,hy,e⟩:=List.mem_map.1 hm
  obtain ⟨hy1,hy2⟩:=List.mem_filter.1 hy
  have:y=k:=by
   obtain ⟨i,hi,rfl⟩:=List.mem_iff_getElem.1 hy1
   obtain ⟨j,hj,rfl⟩:=List.mem_iff_getElem.1 hk
   have key:∀{p q:Nat} (hp:p < l.length) (hq:q < l.length),p < q→l[p].b≠l[q].b:=fun {p q} hp hq hpq=>by
    have:=List.pairwise_iff_getElem.1 hn p q (by rw [List.length_map];exact hp) (by rw [List.length_map];exact hq) hpq
    rwa [List.getElem_map,List.getElem_map] at this
   rcases Nat.lt_trichotomy i j with d | d | d
   ·exact absurd e (key hi hj d)
   ·subst d;rfl
   ·exact absurd e.symm (key hj hi d)
  subst this
  rw [hf] at hy2
  cases hy2
theorem outP_take {s:LS} (hs:s.ok) (f:Pk→Bool):outP (s.take (((outK s.ks).filter (fun k=>f k.p)).map Kp.b)).ks=(outP s.ks).filter (fun p=>!f p):=by
 show (outK (markK _ s.ks)).map Kp.p=_
 rw [outK_mark,filter_notin (outK_nodup hs)]
 unfold outP
 rw [List.filter_map]
 rfl
theorem outP_filter (s:LS) (f:Pk→Bool):((outK s.ks).filter (fun k=>f k.p)).map Kp.p=(outP s.ks).filter f:=by
 unfold outP;rw [List.filter_map];rfl
structure LostPost (w:World) (b rb g now delay limit:Nat) (s:LS) (e:Ending) (w':World):Prop where
 e:∃v,e=.returned v∧PR w' v ((outP s.ks).filter (lostB s now delay limit))∧∀k,v.ownBlock=some k→w.heap.size≤k
 led:LedEnd w b rb g s (fun s'=>outP s'.ks=(outP s.ks).filter (fun p=>!lostB s now delay limit p)∧s'.reorder=s.reorder∧s'.next=s.next∧s'.top=s.top∧s'.topped=s.topped) w'
theorem lost_end {w W W2:World} {b rb g n4 now delay limit D:Nat} {s:LS} {Bx:World→Prop} {v:Value} {o:Obj} {T:List Nat} {L:List Pk} (hs:s.ok) (eo:outP (s.take T).ks=(outP s.ks).filter (fun p=>!lostB s now delay limit p)) (el:L=(outP s.ks).filter (lostB s now delay limit))
  (h:TkS w b rb g n4 (blocksL b rb g s) (s.take T) L Bx W) (hv2:PR W v L) (hv3:∀k,v.ownBlock=some k→w.heap.size≤k)
  (hn:NarPost W b rb g (s.take T) (.returned (.tuple #[])) W2) (hD:w.heap.size≤D) (hK:W2.heap[D]? =some o) (ho:o.isCells=false):
  LostPost w b rb g now delay limit s (.returned v) (W2.putObj D (.deferred none)):=by
 obtain ⟨rb',g',ks',n1,n2,n3,n4'⟩:=hn.led
 rw [blocksL_take] at n4'
 have hg:=grownBy_putObj' W2 D (.deferred none)
 have hk:=kept_grown hg (fun r e=>by cases e;exact ⟨o,hK,ho⟩)
 have hok:=LS.sub_ok (LS.take_ok hs T) n2
 have hfr:Fr w W2 (blocksL b rb g s):=h.fr.trans hn.fr (fun x hx=>.inl (by rw [blocksL_take] at hx;exact hx))
 have e1:outP ks'=(outP s.ks).filter (fun p=>!lostB s now delay limit p):=by
  rw [← eo];unfold outP;rw [n3]
 have v2:PR W2 v L:=hv2.fr hn.fr (fun k e=>by
  obtain ⟨cs,hc⟩:=hv2.blk e
  exact h.led.off hc (by decide) (by decide) (by decide) (by decide))
 have v3:PR (W2.putObj D (.deferred none)) v ((outP s.ks).filter (lostB s now delay limit)):=by
  rw [← el];exact v2.same (fun k cs _ hb=>hk k _ cs hb)
 have l3:LAt (W2.putObj D (.deferred none)) b rb' g' ((s.take T).with_ ks'):=n1.keepX (fun x T cs _ hb=>hk x T cs hb)
 have f3:Fr w (W2.putObj D (.deferred none)) (blocksL b rb g s):=fr_grown hfr hg (fun r e=>by cases e;exact hD) (Nat.le_refl _)
 have hsz:=h.fr.size
 refine ⟨⟨v,rfl,v3,hv3⟩,⟨⟨rb',g',(s.take T).with_ ks',l3,hok,⟨e1,rfl,rfl,rfl,rfl⟩,fun x hx=>?_⟩,f3⟩⟩
 rcases n4' x hx with c | c
 ·exact .inl c
 ·right;omega
def LT (s:LS) (now delay limit:Nat) (pre:List Kp):List Nat:=(pre.filter (fun k=>lostB s now delay limit k.p)).map Kp.b
def LPk (s:LS) (now delay limit:Nat) (pre:List Kp):List Pk:=(pre.filter (fun k=>lostB s now delay limit k.p)).map Kp.p
theorem LT_yes {s:LS} {now delay limit:Nat} {pre:List Kp} {x:Kp} (h:lostB s now delay limit x.p=true):LT s now delay limit (pre ++ [x])=LT s now delay limit pre ++ [x.b]∧LPk s now delay limit (pre ++ [x])=LPk s now delay limit pre ++ [x.p]:=by
 unfold LT LPk;rw [List.filter_append];simp [h]
theorem LT_no {s:LS} {now delay limit:Nat} {pre:List Kp} {x:Kp} (h:lostB s now delay limit x.p=false):LT s now delay limit (pre ++ [x])=LT s now delay limit pre∧LPk s now delay limit (pre ++ [x])=LPk s now delay limit pre:=by
 unfold LT LPk;rw [List.filter_append];simp [h]
theorem LT_sub {s:LS} {now delay limit:Nat} {pre:List Kp}:∀t∈LT s now delay limit pre,t∈pre.map Kp.b:=fun t ht=>by
 obtain ⟨k,hk,rfl⟩:=List.mem_map.1 ht
 exact List.mem_map_of_mem (List.mem_filter.1 hk).1
theorem next_in {s:LS} (hs:s.ok) {fr to:Nat} {pre:List Kp} {x:Kp} {T:List Nat} (h:pre ++ [x] <+:yK s.ks fr to) (hT:∀t∈T,t∈pre.map Kp.b):x∈s.ks∧x.gone=false∧x.b ∉ pre.map Kp.b∧x∈(s.take T).ks:=by
 have hm:=List.mem_filter.1 (h.mem (List.mem_append_right _ List.mem_cons_self))
 have hg:x.gone=false:=by
  have:=hm.2
  simp [inK] at this
  exact this.2
 have hn:x.b ∉ pre.map Kp.b:=by
  obtain ⟨t,ht⟩:=h
  have h1:((pre ++ [x] ++ t).map Kp.b).Nodup:=by
   rw [ht];exact hs.nodup.sublist (List.filter_sublist.map Kp.b)
  rw [List.append_assoc,List.map_append,List.nodup_append] at h1
  exact fun hmem=>h1.2.2 _ hmem x.b (by simp) rfl
 refine ⟨hm.1,hg,hn,?_⟩
 have:=markK_of (B:=T) hm.1
 have hnT:x.b ∉ T:=fun c=>hn (hT _ c)
 simp only [hnT,decide_false,Bool.or_false] at this
 exact this
set_option maxRecDepth 100000 in
set_option maxHeartbeats 4000000 in
theorem lost_any (b rb g now delay limit:Nat) (s:LS) (w:World) (h:LAt w b rb g s) (hs:s.ok) (hdl:delay≤18446744073709551615) (hlm:limit≤18446744073709551615):
  Calls Tryz.prog 102 #[.pointer (some ⟨b,0,none⟩),.int .u64 (now:Int),.int .u64 (delay:Int),.int .u64 (limit:Int)] w (LostPost w b rb g now delay limit s):=by
 have HH:=Lib.hid h
 have HS:=Lib.hid hs
 clear h hs
 refine (callsIn_wide (n:=6)).1 ?_
 refine callsIn_of_wp_marks Tryz.func102 rfl trivial ?_ rfl
 simp only [Tryz.ntmps102,List.size_toArray,List.length_cons,List.length_nil,Nat.reduceAdd,Nat.reduceSub,Array.replicate_succ,Array.replicate_zero,List.push_toArray,List.append_toArray,List.nil_append,List.cons_append]
 gi_wp2_with fail
 have HB1:Hid (Below w.heap.size w (((((w.alloc (.cells #[.pointer (some ⟨b,0,none⟩)] 64)).alloc (.cells #[.int .u64 (now:Int)] 22)).alloc (.cells #[.int .u64 (delay:Int)] 22)).alloc (.cells #[.int .u64 (limit:Int)] 22)).alloc (.cells #[.slice none 0 0] 42))):=Lib.hid ((((((Below.refl _ _).alloc (Nat.le_refl _) _).alloc (by simp) _).alloc (by simp;omega) _).alloc (by simp;omega) _).alloc (by simp;omega) _)
 have hs1:(((((w.alloc (.cells #[.pointer (some ⟨b,0,none⟩)] 64)).alloc (.cells #[.int .u64 (now:Int)] 22)).alloc (.cells #[.int .u64 (delay:Int)] 22)).alloc (.cells #[.int .u64 (limit:Int)] 22)).alloc (.cells #[.slice none 0 0] 42)).heap.size=w.heap.size + 1 + 1 + 1 + 1 + 1:=by simp
 have Q0:Hid (Blk (((((w.alloc (.cells #[.pointer (some ⟨b,0,none⟩)] 64)).alloc (.cells #[.int .u64 (now:Int)] 22)).alloc (.cells #[.int .u64 (delay:Int)] 22)).alloc (.cells #[.int .u64 (limit:Int)] 22)).alloc (.cells #[.slice none 0 0] 42)) w.heap.size 64 #[.pointer (some ⟨b,0,none⟩)]):=Lib.hid (((((Blk.new _ _ _).alloc _).alloc _).alloc _).alloc _)
 have Q1:Hid (Blk (((((w.alloc (.cells #[.pointer (some ⟨b,0,none⟩)] 64)).alloc (.cells #[.int .u64 (now:Int)] 22)).alloc (.cells #[.int .u64 (delay:Int)] 22)).alloc (.cells #[.int .u64 (limit:Int)] 22)).alloc (.cells #[.slice none 0 0] 42)) (w.heap.size + 1) 22 #[.int .u64 (now:Int)]):=Lib.hid ((((Blk.new1 _ _ _ _).alloc _).alloc _).alloc _)
 have Q2:Hid (Blk (((((w.alloc (.cells #[.pointer (some ⟨b,0,none⟩)] 64)).alloc (.cells #[.int .u64 (now:Int)] 22)).alloc (.cells #[.int .u64 (delay:Int)] 22)).alloc (.cells #[.int .u64 (limit:Int)] 22)).alloc (.cells #[.slice none 0 0] 42)) (w.heap.size + 1 + 1) 22 #[.int .u64 (delay:Int)]):=Lib.hid (by
  have:=((Blk.new ((w.alloc (.cells #[.pointer (some ⟨b,0,none⟩)] 64)).alloc (.cells #[.int .u64 (now:Int)] 22)) 22 #[.int .u64 (delay:Int)]).alloc (.cells #[.int .u64 (limit:Int)] 22)).alloc (.cells #[.slice none 0 0] 42)
  simpa using this)
 have Q3:Hid (Blk (((((w.alloc (.cells #[.pointer (some ⟨b,0,none⟩)] 64)).alloc (.cells #[.int .u64 (now:Int)] 22)).alloc (.cells #[.int .u64 (delay:Int)] 22)).alloc (.cells #[.int .u64 (limit:Int)] 22)).alloc (.cells #[.slice none 0 0] 42)) (w.heap.size + 1 + 1 + 1) 22 #[.int .u64 (limit:Int)]):=Lib.hid (by
  have:=(Blk.new (((w.alloc (.cells #[.pointer (some ⟨b,0,none⟩)] 64)).alloc (.cells #[.int .u64 (now:Int)] 22)).alloc (.cells #[.int .u64 (delay:Int)] 22)) 22 #[.int .u64 (limit:Int)]).alloc (.cells #[.slice none 0 0] 42)
  simpa using this)
 have Q4:Hid (Blk (((((w.alloc (.cells #[.pointer (some ⟨b,0,none⟩)] 64)).alloc (.cells #[.int .u64 (now:Int)] 22)).alloc (.cells #[.int .u64 (delay:Int)] 22)).alloc (.cells #[.int .u64 (limit:Int)] 22)).alloc (.cells #[.slice none 0 0] 42)) (w.heap.size + 1 + 1 + 1 + 1) 42 #[.slice none 0 0]):=Lib.hid (by
  have:=Blk.new ((((w.alloc (.cells #[.pointer (some ⟨b,0,none⟩)] 64)).alloc (.cells #[.int .u64 (now:Int)] 22)).alloc (.cells #[.int .u64 (delay:Int)] 22)).alloc (.cells #[.int .u64 (limit:Int)] 22)) 42 #[.slice none 0 0]
  simpa using this)
 generalize (((((w.alloc (.cells #[.pointer (some ⟨b,0,none⟩)] 64)).alloc (.cells #[.int .u64 (now:Int)] 22)).alloc (.cells #[.int .u64 (delay:Int)] 22)).alloc (.cells #[.int .u64 (limit:Int)] 22)).alloc (.cells #[.slice none 0 0] 42))=w1 at *
 have hn4:w.heap.size≤w.heap.size + 1 + 1 + 1 + 1:=by omega
 generalize w.heap.size + 1 + 1 + 1 + 1=n4 at *
 generalize w.heap.size + 1 + 1 + 1=n3 at *
 generalize w.heap.size + 1 + 1=n2 at *
 generalize w.heap.size + 1=n1 at *
 generalize hn0:w.heap.size=n0 at Q0 ⊢
 have HN0:=Lib.hid hn0
 clear hn0
 have HTk:=Lib.hid (taker_any b n4 w1)
 unfold tfn at HTk
 refine ⟨trivial,?_⟩
 refine (callsIn_wide.2 HTk.out).mono ?_
 rintro e w2 ⟨rfl,rfl⟩
 have bt1:=tw1_below w1 b n4
 have HB2:=Lib.hid (bel_to HB1.out bt1 HB1.out.size)
 have P0:=Lib.hid (Q0.out.keep bt1)
 have P1:=Lib.hid (Q1.out.keep bt1)
 have P2:=Lib.hid (Q2.out.keep bt1)
 have P3:=Lib.hid (Q3.out.keep bt1)
 have P4:=Lib.hid (Q4.out.keep bt1)
 have P5:=Lib.hid (tw1_l w1 b n4)
 have P6:=Lib.hid (tw1_t w1 b n4)
 generalize tw1 w1 b n4=w2 at *
 generalize w1.heap.size + 1=n6 at *
 generalize w1.heap.size=n5 at *
 clear HB1 Q0 Q1 Q2 Q3 Q4 HTk bt1 hs1
 have r0:=(P0.out.alloc (.cells #[.func (.func 197) #[] #[.pointer (some ⟨n5,0,none⟩),.pointer (some ⟨n6,0,none⟩)]] 195)).cell (i:=0) rfl
 gi_wp2_with fail
 have f2:Below w2.heap.size w2 (w2.alloc (.cells #[.func (.func 197) #[] #[.pointer (some ⟨n5,0,none⟩),.pointer (some ⟨n6,0,none⟩)]] 195)):=(Below.refl _ _).alloc (Nat.le_refl _) _
 have HB3:=Lib.hid (bel_to HB2.out f2 HB2.out.size)
 have R0:=Lib.hid (P0.out.keep f2)
 have R1:=Lib.hid (P1.out.keep f2)
 have R2:=Lib.hid (P2.out.keep f2)
 have R3:=Lib.hid (P3.out.keep f2)
 have R4:=Lib.hid (P4.out.keep f2)
 have R5:=Lib.hid (P5.out.keep f2)
 have R6:=Lib.hid (P6.out.keep f2)
 have R7:Hid (Blk (w2.alloc (.cells #[.func (.func 197) #[] #[.pointer (some ⟨n5,0,none⟩),.pointer (some ⟨n6,0,none⟩)]] 195)) w2.heap.size 195 #[.func (.func 197) #[] #[.pointer (some ⟨n5,0,none⟩),.pointer (some ⟨n6,0,none⟩)]]):=Lib.hid (Blk.new _ _ _)
 generalize (w2.alloc (.cells #[.func (.func 197) #[] #[.pointer (some ⟨n5,0,none⟩),.pointer (some ⟨n6,0,none⟩)]] 195))=w3 at *
 generalize w2.heap.size=n7 at *
 clear P0 P1 P2 P3 P4 P5 P6 f2 HB2 r0
 have HAl:=Lib.hid (all_any b w3)
 unfold bfn at HAl
 refine ⟨trivial,?_⟩
 refine (callsIn_wide.2 HAl.out).mono ?_
 rintro e w4 ⟨rfl,rfl⟩
 have bb:=bw1_below w3 b 0 18446744073709551615
 have HB4:=Lib.hid (bel_to HB3.out bb HB3.out.size)
 have hI0:TkS w b rb g n4 (blocksL b rb g s) (s.take (LT s now delay limit [])) (LPk s now delay limit []) (LBox b now delay limit n0 n1 n2 n3 n4 n5 n6 n7 w3.heap.size (w3.heap.size + 1)) (bw1 w3 b 0 18446744073709551615):=by
  refine ⟨?_,⟨R0.out.keep bb,R1.out.keep bb,R2.out.keep bb,R3.out.keep bb,R5.out.keep bb,R6.out.keep bb,R7.out.keep bb,bw1_l w3 b 0 18446744073709551615,bw1_r w3 b 0 18446744073709551615⟩,⟨_,R4.out.keep bb,PR.nil _,fun k e=>by cases e⟩,Fr.of_below HB4.out _⟩
  have:s.take (LT s now delay limit [])=s:=LS.take_nil s
  rw [this]
  exact HH.out.keep HB4.out
 have HI0:=Lib.hid hI0
 clear hI0 R0 R1 R2 R3 R4 R5 R6 R7 bb HB3 HAl
 generalize bw1 w3 b 0 18446744073709551615=w5 at *
 generalize w3.heap.size + 1=n9 at *
 generalize w3.heap.size=n8 at *
 gi_wp2_with fail
 have HSeq:=Lib.hid (between_seq 5 b rb g n8 n9 0 18446744073709551615 s.ks (by omega) HS.out.nodup HS.out.rise (Nat.le_trans (LS.len_le HS.out) HS.out.next))
 have HYl:Hid ((yK s.ks 0 18446744073709551615).length≤6000):=Lib.hid (Nat.le_trans (List.length_filter_le _ _) (Nat.le_trans (LS.len_le HS.out) HS.out.next))
 refine wp_range1 (gf:=198) (lb:=#[.pointer (some ⟨n8,0,none⟩),.pointer (some ⟨n9,0,none⟩)]) rfl (enters_of Tryz.func198 (by kernel_rfl) rfl) HSeq.out (fun _=>rfl)
  (fun pre W=>TkS w b rb g n4 (blocksL b rb g s) (s.take (LT s now delay limit pre)) (LPk s now delay limit pre) (LBox b now delay limit n0 n1 n2 n3 n4 n5 n6 n7 n8 n9) W)
  (fun c pre W=>(c=.exit 0∧∃p0,(yK s.ks 0 18446744073709551615).filter (fun k=>lostB s now delay limit k.p)=p0.filter (fun k=>lostB s now delay limit k.p)∧LT s now delay limit pre=LT s now delay limit p0∧LPk s now delay limit pre=LPk s now delay limit p0)∧TkS w b rb g n4 (blocksL b rb g s) (s.take (LT s now delay limit pre)) (LPk s now delay limit pre) (LBox b now delay limit n0 n1 n2 n3 n4 n5 n6 n7 n8 n9) W)
  (tks_own (LBox.k _ _ _ _ _ _ _ _ _ _ _ _ _ _) HB4.out.size) (fun c=>OwnFrom.and (ownFrom_pure _ _) (tks_own (LBox.k _ _ _ _ _ _ _ _ _ _ _ _ _ _) HB4.out.size)) (fun pre A h=>take_rdr h.led LT_sub h.box.q8 h.box.q9) HI0.out
  (fun x=>{tmps:=#[.pointer (some ⟨b,0,none⟩),.int .u64 (now:Int),.int .u64 (delay:Int),.int .u64 (limit:Int),.pointer (some ⟨n0,0,none⟩),.pointer (some ⟨n1,0,none⟩),.pointer (some ⟨n2,0,none⟩),.pointer (some ⟨n3,0,none⟩),.slice none 0 0,.pointer (some ⟨n4,0,none⟩),.pointer (some ⟨n7,0,none⟩),.pointer (some ⟨x.b,0,none⟩),.pointer (some ⟨b,0,none⟩),.bool false,.pointer (some ⟨b,0,none⟩),.func (.func 197) #[] #[.pointer (some ⟨n5,0,none⟩),.pointer (some ⟨n6,0,none⟩)],.pointer (some ⟨b,0,none⟩),.func (.func 198) #[] #[.pointer (some ⟨n8,0,none⟩),.pointer (some ⟨n9,0,none⟩)],.pointer (some ⟨x.b,0,none⟩),undef,undef,undef,undef,undef,undef,undef,undef,undef,undef,undef,undef,undef,undef,undef,undef,undef,undef,undef,undef,undef,undef,undef,undef,undef,undef,undef,undef,undef,undef,undef,undef,undef,undef,undef,undef,undef,undef,undef,undef,undef,undef,undef,undef,undef,undef,undef,undef],defers:=[]})
  ?assign ?body ?done ?stop
 case assign=>
  intro l x W K hK
  gi_wp2
  exact hK
 case body=>
  rintro l pre x W hI hok
  obtain ⟨hxm,hxg,hxn,hxt⟩:=next_in HS.out (T:=LT s now delay limit pre) hok LT_sub
  have hpk:=HS.out.pk x hxm
  have HI:=Lib.hid hI
  have HX:=Lib.hid hxm
  have HXg:=Lib.hid hxg
  have HXt:=Lib.hid hxt
  have HXk:Hid (Blk W x.b 203 (Kp.cells x.p x.gone)):=Lib.hid (hI.led.kept x hxt)
  have HOk:=Lib.hid hok
  have HPl:Hid ((LPk s now delay limit pre).length≤7000):=Lib.hid (by
   have h1:=hok.length_le
   have h2:=List.length_filter_le (fun k=>lostB s now delay limit k.p) pre
   have h3:=HYl.out
   unfold LPk
   rw [List.length_map]
   rw [List.length_append] at h1
   omega)
  have HSk:Hid (∀W',Below W.heap.size W W'→W'.cell? ⟨n0,0,none⟩=some (.pointer (some ⟨b,0,none⟩))∧W'.cell? ⟨n1,0,none⟩=some (.int .u64 (now:Int))∧W'.cell? ⟨n2,0,none⟩=some (.int .u64 (delay:Int))∧W'.cell? ⟨n3,0,none⟩=some (.int .u64 (limit:Int))∧W'.cell? ⟨x.b,0,none⟩=some (.int .u64 (x.p.n:Int))∧W'.cell? ⟨x.b,2,none⟩=some (.int .u64 (x.p.sent:Int))∧W'.cell? ⟨b,7,none⟩=some (.int .u64 (s.top:Int))):=Lib.hid (fun W' k=>by
   have hI':=hI.below (LBox.k _ _ _ _ _ _ _ _ _ _ _ _ _ _) k
   have hk':=HXk.out.keep k
   exact ⟨hI'.box.q0.cell (i:=0) rfl,hI'.box.q1.cell (i:=0) rfl,hI'.box.q2.cell (i:=0) rfl,hI'.box.q3.cell (i:=0) rfl,(kcell hk').1,(kcell hk').2.2.1,hI'.led.head.cell (i:=7) rfl⟩)
  have HOv:Hid (∀W',Below W.heap.size W W'→Calls Tryz.prog 168 #[.pointer (some ⟨b,0,none⟩),.pointer (some ⟨x.b,0,none⟩)] W' fun e w'=>e=.returned (.bool (overB s x.p))∧Below W'.heap.size W' w'):=Lib.hid (fun W' k=>by
   have hI':=hI.below (LBox.k _ _ _ _ _ _ _ _ _ _ _ _ _ _) k
   have:=overtaken_any b rb g x (s.take (LT s now delay limit pre)) W' hI'.led (LS.take_ok HS.out _) x.gone (HXk.out.keep k) hpk
   exact this)
  have HPd:=Lib.hid (fun W'=>passed_any x.p.sent delay now hpk.sent hdl W')
  have HPm:=Lib.hid (fun W'=>passed_any x.p.sent limit now hpk.sent hlm W')
  have HLo:Hid (lostB s now delay limit x.p=(overB s x.p || (decide (x.p.n < s.top) && passB x.p.sent delay now) || passB x.p.sent limit now)):=Lib.hid rfl
  clear hI hok hxm hxg hxn hxt hpk HI0 HSeq HYl hdl hlm
  generalize overB s x.p=ov at *
  generalize passB x.p.sent delay now=pd at *
  generalize passB x.p.sent limit now=pl at *
  gi_wp2_with fail
  have HDr:=Lib.hid ((Drawn.drew W).below W.heap.size)
  cases ov
  ·by_cases hlt:x.p.n < s.top
   ·have d1:decide (x.p.n < s.top)=true:=by simpa using hlt
    have HLt:=Lib.hid d1
    clear hlt
    cases pd
    ·refine region_held_round (S:=fun w'=>w'.cell? ⟨n0,0,none⟩=some (.pointer (some ⟨b,0,none⟩))∧w'.cell? ⟨n1,0,none⟩=some (.int .u64 (now:Int))∧w'.cell? ⟨n2,0,none⟩=some (.int .u64 (delay:Int))∧w'.cell? ⟨n3,0,none⟩=some (.int .u64 (limit:Int))∧w'.cell? ⟨x.b,0,none⟩=some (.int .u64 (x.p.n:Int))∧w'.cell? ⟨x.b,2,none⟩=some (.int .u64 (x.p.sent:Int))∧w'.cell? ⟨b,7,none⟩=some (.int .u64 (s.top:Int))) (by rintro ⟨_,_,h⟩;exact h) (by kernel_rfl) (by kernel_rfl) (HSk.out _ HDr.out) (fun hHeld=>?_)
     simp only [List.size_toArray,List.length_cons,List.length_nil,Nat.reduceAdd,Array.replicate_succ,Array.replicate_zero,List.push_toArray,List.nil_append,List.cons_append]
     refine wpAnyH_take (i:=0) (oi:=⟨some 19,_,_,_,_,_⟩) (v:=?v72) rfl (by kernel_rfl) (by kernel_rfl) (by kernel_rfl) (fun _ _ _ h=>h) (Or.inl ⟨by rfl,?y72⟩) (by assumption) ?r72
     case y72=>intro w hSw;obtain ⟨s0,s1,s2,s3,s4,s5,s6⟩:=hSw;go_simp;(try with_reducible rfl)
     simp only [Act.put,List.setIfInBounds_toArray,List.set_cons_zero,List.set_cons_succ]
     refine wpAnyH_take (i:=1) (oi:=⟨some 20,_,_,_,_,_⟩) (v:=?v73) rfl (by kernel_rfl) (by kernel_rfl) (by kernel_rfl) (fun _ _ _ h=>h) (Or.inl ⟨by rfl,?y73⟩) (by assumption) ?r73
     case y73=>intro w hSw;clear hSw;go_simp;(try with_reducible rfl)
     simp only [Act.put,List.setIfInBounds_toArray,List.set_cons_zero,List.set_cons_succ]
     refine wpAnyH_ready (rs:=[2]) (by kernel_rfl) (by simp) ?_
     refine AllReadyH.cons (o:=⟨some 21,_,_,_,_,_⟩) rfl (fun K hK=>?_) AllReadyH.nil
     go_simp
     refine (HOv.out _ HDr.out).mono ?_
     rintro e W5 ⟨rfl,hb5⟩
     have HB5:=Lib.hid (bel_to HDr.out hb5 HDr.out.size)
     clear hb5
     dsimp only
     refine hK.out _ _ (HSk.out _ HB5.out) (fun hHeld=>?_)
     clear hK
     try simp only [List.setIfInBounds_toArray,List.set_cons_zero,List.set_cons_succ]
     refine wpAnyH_take (i:=3) (oi:=⟨some 22,_,_,_,_,_⟩) (v:=?v74) rfl (by kernel_rfl) (by kernel_rfl) (by kernel_rfl) (fun _ _ _ h=>h) (Or.inl ⟨by rfl,?y74⟩) (by assumption) ?r74
     case y74=>intro w hSw;clear hSw;go_simp;(try with_reducible rfl)
     simp only [Act.put,List.setIfInBounds_toArray,List.set_cons_zero,List.set_cons_succ]
     refine wpAnyH_take (i:=4) (oi:=⟨some 23,_,_,_,_,_⟩) (v:=?v75) rfl (by kernel_rfl) (by kernel_rfl) (by kernel_rfl) (fun _ _ _ h=>h) (Or.inl ⟨by rfl,?y75⟩) (by assumption) ?r75
     case y75=>intro w hSw;clear hSw;go_simp;(try with_reducible rfl)
     simp only [Act.put,List.setIfInBounds_toArray,List.set_cons_zero,List.set_cons_succ]
     refine wpAnyH_take (i:=5) (oi:=⟨some 24,_,_,_,_,_⟩) (v:=?v76) rfl (by kernel_rfl) (by kernel_rfl) (by kernel_rfl) (fun _ _ _ h=>h) (Or.inl ⟨by rfl,?y76⟩) (by assumption) ?r76
     case y76=>intro w hSw;clear hSw;go_simp;(try with_reducible rfl)
     simp only [Act.put,List.setIfInBounds_toArray,List.set_cons_zero,List.set_cons_succ]
     refine wpAnyH_take (i:=6) (oi:=⟨some 25,_,_,_,_,_⟩) (v:=?v77) rfl (by kernel_rfl) (by kernel_rfl) (by kernel_rfl) (fun _ _ _ h=>h) (Or.inl ⟨by rfl,?y77⟩) (by assumption) ?r77
     case y77=>intro w hSw;clear hSw;go_simp;(try with_reducible rfl)
     simp only [Act.put,List.setIfInBounds_toArray,List.set_cons_zero,List.set_cons_succ]
     refine wpAnyH_take (i:=7) (oi:=⟨some 26,_,_,_,_,_⟩) (v:=?v78) rfl (by kernel_rfl) (by kernel_rfl) (by kernel_rfl) (fun _ _ _ h=>h) (Or.inl ⟨by rfl,?y78⟩) (by assumption) ?r78
     case y78=>intro w hSw;clear hSw;go_simp;(try with_reducible rfl)
     simp only [Act.put,List.setIfInBounds_toArray,List.set_cons_zero,List.set_cons_succ]
     refine wpAnyH_take (i:=8) (oi:=⟨some 27,_,_,_,_,_⟩) (v:=?v79) rfl (by kernel_rfl) (by kernel_rfl) (by kernel_rfl) (fun _ _ _ h=>h) (Or.inl ⟨by rfl,?y79⟩) (by assumption) ?r79
     case y79=>intro w hSw;obtain ⟨s0,s1,s2,s3,s4,s5,s6⟩:=hSw;go_simp;(try with_reducible rfl)
     simp only [Act.put,List.setIfInBounds_toArray,List.set_cons_zero,List.set_cons_succ]
     refine wpAnyH_take (i:=9) (oi:=⟨some 28,_,_,_,_,_⟩) (v:=?v80) rfl (by kernel_rfl) (by kernel_rfl) (by kernel_rfl) (fun _ _ _ h=>h) (Or.inl ⟨by rfl,?y80⟩) (by assumption) ?r80
     case y80=>intro w hSw;obtain ⟨s0,s1,s2,s3,s4,s5,s6⟩:=hSw;go_simp;(try with_reducible rfl)
     simp only [Act.put,List.setIfInBounds_toArray,List.set_cons_zero,List.set_cons_succ]
     refine wpAnyH_take (i:=10) (oi:=⟨some 29,_,_,_,_,_⟩) (v:=?v81) rfl (by kernel_rfl) (by kernel_rfl) (by kernel_rfl) (fun _ _ _ h=>h) (Or.inl ⟨by rfl,?y81⟩) (by assumption) ?r81
     case y81=>intro w hSw;clear hSw;go_simp;(try with_reducible rfl)
     simp only [Act.put,List.setIfInBounds_toArray,List.set_cons_zero,List.set_cons_succ]
     refine wpAnyH_take (i:=11) (oi:=⟨some 30,_,_,_,_,_⟩) (v:=?v82) rfl (by kernel_rfl) (by kernel_rfl) (by kernel_rfl) (fun _ _ _ h=>h) (Or.inl ⟨by rfl,?y82⟩) (by assumption) ?r82
     case y82=>intro w hSw;clear hSw;go_simp;(try with_reducible rfl)
     simp only [Act.put,List.setIfInBounds_toArray,List.set_cons_zero,List.set_cons_succ]
     refine wpAnyH_take (i:=12) (oi:=⟨some 31,_,_,_,_,_⟩) (v:=?v83) rfl (by kernel_rfl) (by kernel_rfl) (by kernel_rfl) (fun _ _ _ h=>h) (Or.inl ⟨by rfl,?y83⟩) (by assumption) ?r83
     case y83=>intro w hSw;obtain ⟨s0,s1,s2,s3,s4,s5,s6⟩:=hSw;go_simp;(try with_reducible rfl)
     simp only [Act.put,List.setIfInBounds_toArray,List.set_cons_zero,List.set_cons_succ]
     refine wpAnyH_take (i:=13) (oi:=⟨some 32,_,_,_,_,_⟩) (v:=?v84) rfl (by kernel_rfl) (by kernel_rfl) (by kernel_rfl) (fun _ _ _ h=>h) (Or.inl ⟨by rfl,?y84⟩) (by assumption) ?r84
     case y84=>intro w hSw;clear hSw;go_simp;(try with_reducible rfl)
     simp only [Act.put,List.setIfInBounds_toArray,List.set_cons_zero,List.set_cons_succ]
     refine wpAnyH_take (i:=14) (oi:=⟨some 33,_,_,_,_,_⟩) (v:=?v85) rfl (by kernel_rfl) (by kernel_rfl) (by kernel_rfl) (fun _ _ _ h=>h) (Or.inl ⟨by rfl,?y85⟩) (by assumption) ?r85
     case y85=>intro w hSw;clear hSw;go_simp;(try with_reducible rfl)
     simp only [Act.put,List.setIfInBounds_toArray,List.set_cons_zero,List.set_cons_succ]
     refine wpAnyH_take (i:=15) (oi:=⟨some 34,_,_,_,_,_⟩) (v:=?v86) rfl (by kernel_rfl) (by kernel_rfl) (by kernel_rfl) (fun _ _ _ h=>h) (Or.inl ⟨by rfl,?y86⟩) (by assumption) ?r86
     case y86=>intro w hSw;clear hSw;go_simp;(try with_reducible rfl)
     simp only [Act.put,List.setIfInBounds_toArray,List.set_cons_zero,List.set_cons_succ]
     refine wpAnyH_take (i:=16) (oi:=⟨some 35,_,_,_,_,_⟩) (v:=?v87) rfl (by kernel_rfl) (by kernel_rfl) (by kernel_rfl) (fun _ _ _ h=>h) (Or.inl ⟨by rfl,?y87⟩) (by assumption) ?r87
     case y87=>intro w hSw;clear hSw;go_simp;(try with_reducible rfl)
     simp only [Act.put,List.setIfInBounds_toArray,List.set_cons_zero,List.set_cons_succ]
     refine wpAnyH_take (i:=17) (oi:=⟨some 36,_,_,_,_,_⟩) (v:=?v88) rfl (by kernel_rfl) (by kernel_rfl) (by kernel_rfl) (fun _ _ _ h=>h) (Or.inl ⟨by rfl,?y88⟩) (by assumption) ?r88
     case y88=>intro w hSw;clear hSw;go_simp;(try with_reducible rfl)
     simp only [Act.put,List.setIfInBounds_toArray,List.set_cons_zero,List.set_cons_succ]
     refine wpAnyH_take (i:=18) (oi:=⟨some 37,_,_,_,_,_⟩) (v:=?v89) rfl (by kernel_rfl) (by kernel_rfl) (by kernel_rfl) (fun _ _ _ h=>h) (Or.inl ⟨by rfl,?y89⟩) (by assumption) ?r89
     case y89=>intro w hSw;clear hSw;go_simp;(try with_reducible rfl)
     simp only [Act.put,List.setIfInBounds_toArray,List.set_cons_zero,List.set_cons_succ]
     refine wpAnyH_take (i:=19) (oi:=⟨some 38,_,_,_,_,_⟩) (v:=?v90) rfl (by kernel_rfl) (by kernel_rfl) (by kernel_rfl) (fun _ _ _ h=>h) (Or.inl ⟨by rfl,?y90⟩) (by assumption) ?r90
     case y90=>intro w hSw;clear hSw;go_simp;(try with_reducible rfl)
     simp only [Act.put,List.setIfInBounds_toArray,List.set_cons_zero,List.set_cons_succ]
     refine wpAnyH_take (i:=20) (oi:=⟨some 39,_,_,_,_,_⟩) (v:=?v91) rfl (by kernel_rfl) (by kernel_rfl) (by kernel_rfl) (fun _ _ _ h=>h) (Or.inl ⟨by rfl,?y91⟩) (by assumption) ?r91
     case y91=>intro w hSw;obtain ⟨s0,s1,s2,s3,s4,s5,s6⟩:=hSw;go_simp;(try with_reducible rfl)
     simp only [Act.put,List.setIfInBounds_toArray,List.set_cons_zero,List.set_cons_succ]
     refine wpAnyH_take (i:=21) (oi:=⟨some 40,_,_,_,_,_⟩) (v:=?v92) rfl (by kernel_rfl) (by kernel_rfl) (by kernel_rfl) (fun _ _ _ h=>h) (Or.inl ⟨by rfl,?y92⟩) (by assumption) ?r92
     case y92=>intro w hSw;obtain ⟨s0,s1,s2,s3,s4,s5,s6⟩:=hSw;go_simp;(try with_reducible rfl)
     simp only [Act.put,List.setIfInBounds_toArray,List.set_cons_zero,List.set_cons_succ]
     refine wpAnyH_take (i:=22) (oi:=⟨some 41,_,_,_,_,_⟩) (v:=?v93) rfl (by kernel_rfl) (by kernel_rfl) (by kernel_rfl) (fun _ _ _ h=>h) (Or.inl ⟨by rfl,?y93⟩) (by assumption) ?r93
     case y93=>intro w hSw;obtain ⟨s0,s1,s2,s3,s4,s5,s6⟩:=hSw;go_simp;(try with_reducible rfl)
     simp only [Act.put,List.setIfInBounds_toArray,List.set_cons_zero,List.set_cons_succ]
     refine wpAnyH_ready (rs:=[23]) (by kernel_rfl) (by simp) ?_
     refine AllReadyH.cons (o:=⟨some 42,_,_,_,_,_⟩) rfl (fun K hK=>?_) AllReadyH.nil
     go_simp
     refine (HPd.out W5).mono ?_
     rintro e W6 ⟨rfl,hb6⟩
     have HB6:=Lib.hid (bel_to HB5.out hb6 HB5.out.size)
     clear hb6
     dsimp only
     refine hK.out _ _ (HSk.out _ HB6.out) (fun hHeld=>?_)
     clear hK
     try simp only [List.setIfInBounds_toArray,List.set_cons_zero,List.set_cons_succ]
     refine wpAnyH_take (i:=24) (oi:=⟨some 43,_,_,_,_,_⟩) (v:=?v94) rfl (by kernel_rfl) (by kernel_rfl) (by kernel_rfl) (fun _ _ _ h=>h) (Or.inl ⟨by rfl,?y94⟩) (by assumption) ?r94
     case y94=>intro w hSw;clear hSw;go_simp;(try with_reducible rfl)
     simp only [Act.put,List.setIfInBounds_toArray,List.set_cons_zero,List.set_cons_succ]
     refine wpAnyH_take (i:=25) (oi:=⟨some 44,_,_,_,_,_⟩) (v:=?v95) rfl (by kernel_rfl) (by kernel_rfl) (by kernel_rfl) (fun _ _ _ h=>h) (Or.inl ⟨by rfl,?y95⟩) (by assumption) ?r95
     case y95=>intro w hSw;clear hSw;go_simp;(try with_reducible rfl)
     simp only [Act.put,List.setIfInBounds_toArray,List.set_cons_zero,List.set_cons_succ]
     refine wpAnyH_take (i:=26) (oi:=⟨some 45,_,_,_,_,_⟩) (v:=?v96) rfl (by kernel_rfl) (by kernel_rfl) (by kernel_rfl) (fun _ _ _ h=>h) (Or.inl ⟨by rfl,?y96⟩) (by assumption) ?r96
     case y96=>intro w hSw;clear hSw;go_simp;(try with_reducible rfl)
     simp only [Act.put,List.setIfInBounds_toArray,List.set_cons_zero,List.set_cons_succ]
     refine wpAnyH_take (i:=27) (oi:=⟨some 46,_,_,_,_,_⟩) (v:=?v97) rfl (by kernel_rfl) (by kernel_rfl) (by kernel_rfl) (fun _ _ _ h=>h) (Or.inl ⟨by rfl,?y97⟩) (by assumption) ?r97
     case y97=>intro w hSw;clear hSw;go_simp;(try with_reducible rfl)
     simp only [Act.put,List.setIfInBounds_toArray,List.set_cons_zero,List.set_cons_succ]
     refine wpAnyH_take (i:=28) (oi:=⟨some 47,_,_,_,_,_⟩) (v:=?v98) rfl (by kernel_rfl) (by kernel_rfl) (by kernel_rfl) (fun _ _ _ h=>h) (Or.inl ⟨by rfl,?y98⟩) (by assumption) ?r98
     case y98=>intro w hSw;clear hSw;go_simp;(try with_reducible rfl)
     simp only [Act.put,List.setIfInBounds_toArray,List.set_cons_zero,List.set_cons_succ]
     refine wpAnyH_take (i:=29) (oi:=⟨some 48,_,_,_,_,_⟩) (v:=?v99) rfl (by kernel_rfl) (by kernel_rfl) (by kernel_rfl) (fun _ _ _ h=>h) (Or.inl ⟨by rfl,?y99⟩) (by assumption) ?r99
     case y99=>intro w hSw;clear hSw;go_simp;(try with_reducible rfl)
     simp only [Act.put,List.setIfInBounds_toArray,List.set_cons_zero,List.set_cons_succ]
     refine wpAnyH_take (i:=30) (oi:=⟨some 49,_,_,_,_,_⟩) (v:=?v100) rfl (by kernel_rfl) (by kernel_rfl) (by kernel_rfl) (fun _ _ _ h=>h) (Or.inl ⟨by rfl,?y100⟩) (by assumption) ?r100
     case y100=>intro w hSw;clear hSw;go_simp;(try with_reducible rfl)
     simp only [Act.put,List.setIfInBounds_toArray,List.set_cons_zero,List.set_cons_succ]
     refine wpAnyH_take (i:=31) (oi:=⟨some 50,_,_,_,_,_⟩) (v:=?v101) rfl (by kernel_rfl) (by kernel_rfl) (by kernel_rfl) (fun _ _ _ h=>h) (Or.inl ⟨by rfl,?y101⟩) (by assumption) ?r101
     case y101=>intro w hSw;clear hSw;go_simp;(try with_reducible rfl)
     simp only [Act.put,List.setIfInBounds_toArray,List.set_cons_zero,List.set_cons_succ]
     refine wpAnyH_take (i:=32) (oi:=⟨some 51,_,_,_,_,_⟩) (v:=?v102) rfl (by kernel_rfl) (by kernel_rfl) (by kernel_rfl) (fun _ _ _ h=>h) (Or.inl ⟨by rfl,?y102⟩) (by assumption) ?r102
     case y102=>intro w hSw;obtain ⟨s0,s1,s2,s3,s4,s5,s6⟩:=hSw;go_simp;(try with_reducible rfl)
     simp only [Act.put,List.setIfInBounds_toArray,List.set_cons_zero,List.set_cons_succ]
     refine wpAnyH_take (i:=33) (oi:=⟨some 52,_,_,_,_,_⟩) (v:=?v103) rfl (by kernel_rfl) (by kernel_rfl) (by kernel_rfl) (fun _ _ _ h=>h) (Or.inl ⟨by rfl,?y103⟩) (by assumption) ?r103
     case y103=>intro w hSw;obtain ⟨s0,s1,s2,s3,s4,s5,s6⟩:=hSw;go_simp;(try with_reducible rfl)
     simp only [Act.put,List.setIfInBounds_toArray,List.set_cons_zero,List.set_cons_succ]
     refine wpAnyH_take (i:=34) (oi:=⟨some 53,_,_,_,_,_⟩) (v:=?v104) rfl (by kernel_rfl) (by kernel_rfl) (by kernel_rfl) (fun _ _ _ h=>h) (Or.inl ⟨by rfl,?y104⟩) (by assumption) ?r104
     case y104=>intro w hSw;obtain ⟨s0,s1,s2,s3,s4,s5,s6⟩:=hSw;go_simp;(try with_reducible rfl)
     simp only [Act.put,List.setIfInBounds_toArray,List.set_cons_zero,List.set_cons_succ]
     refine wpAnyH_ready (rs:=[35]) (by kernel_rfl) (by simp) ?_
     refine AllReadyH.cons (o:=⟨some 54,_,_,_,_,_⟩) rfl (fun K hK=>?_) AllReadyH.nil
     go_simp
     refine (HPm.out W6).mono ?_
     rintro e W8 ⟨rfl,hb7⟩
     have HB8:=Lib.hid (bel_to HB6.out hb7 HB6.out.size)
     clear hb7
     dsimp only
     refine hK.out _ _ (HSk.out _ HB8.out) (fun hHeld=>?_)
     clear hK
     try simp only [List.setIfInBounds_toArray,List.set_cons_zero,List.set_cons_succ]
     refine wpAnyH_take (i:=36) (oi:=⟨some 55,_,_,_,_,_⟩) (v:=?v105) rfl (by kernel_rfl) (by kernel_rfl) (by kernel_rfl) (fun _ _ _ h=>h) (Or.inl ⟨by rfl,?y105⟩) (by assumption) ?r105
     case y105=>intro w hSw;clear hSw;go_simp;(try with_reducible rfl)
     simp only [Act.put,List.setIfInBounds_toArray,List.set_cons_zero,List.set_cons_succ]
     refine wpAnyH_done (by kernel_rfl) ?_ _
     cases pl
     ·have HLb:Hid (lostB s now delay limit x.p=false):=Lib.hid (by rw [HLo.out];rw [HLt.out];rfl)
      have HT6:=Lib.hid (HI.out.below (LBox.k _ _ _ _ _ _ _ _ _ _ _ _ _ _) HB8.out)
      have q0:=HT6.out.box.q0.cell (i:=0) rfl
      have q4:W8.cell? ⟨b,4,none⟩=some (.bool s.mixed):=HT6.out.led.head.cell (i:=4) rfl
      clear HOv HPd HPm
      obtain ⟨t1,t2⟩:=LT_no (pre:=pre) HLb.out
      have HT1:=Lib.hid t1
      have HT2:=Lib.hid t2
      clear t1 t2
      cases hmx:s.mixed
      ·rw [hmx] at q4
       have HMx:=Lib.hid hmx
       clear hmx
       gi_wp2
       refine ⟨kf_of_fr (Fr.of_below HB8.out []) (fun y hy=>by cases hy),⟨rfl,pre,lost_rest HS.out HMx.out List.filter_sublist HOk.out HLb.out,HT1.out,HT2.out⟩,?_⟩
       rw [HT1.out,HT2.out]
       exact HT6.out
      ·rw [hmx] at q4
       clear hmx
       gi_wp2
       refine ⟨kf_of_fr (Fr.of_below HB8.out []) (fun y hy=>by cases hy),?_⟩
       show TkS w b rb g n4 _ (s.take (LT s now delay limit (pre ++ [x]))) (LPk s now delay limit (pre ++ [x])) _ _
       rw [HT1.out,HT2.out]
       exact HT6.out
     ·have HLb:Hid (lostB s now delay limit x.p=true):=Lib.hid (by rw [HLo.out];simp)
      have HT6:=Lib.hid (HI.out.below (LBox.k _ _ _ _ _ _ _ _ _ _ _ _ _ _) HB8.out)
      have q7:=HT6.out.box.q7.cell (i:=0) rfl
      obtain ⟨v,hv1,hv2,hv3⟩:=HT6.out.out
      have HV1:=Lib.hid hv1
      have HV2:=Lib.hid hv2
      have HV3:=Lib.hid hv3
      have HTK:=Lib.hid (take_any b rb g n5 n6 n4 x _ v _ W8 HT6.out.led (LS.take_ok HS.out _) HXt.out HXg.out HT6.out.box.q5 HT6.out.box.q6 hv1 hv2 HPl.out)
      clear hv1 hv2 hv3 HOv HPd HPm
      gi_wp2_with fail
      refine ⟨trivial,?_⟩
      refine (CallsIn.inRound l (callsIn_wide.2 HTK.out)).mono ?_
      intro e W7 hp
      obtain rfl:=hp.e
      have RES:=Lib.hid (HT6.out.take (LBox.k _ _ _ _ _ _ _ _ _ _ _ _ _ _) HXt.out HV1.out HV2.out HV3.out hn4 (.inl (by simp [blocksL])) (.inl (by simp only [blocksL,List.mem_cons];exact .inr (.inr (.inr (List.mem_map_of_mem HX.out))))) hp)
      clear hp HTK q7
      gi_wp2
      obtain ⟨t1,t2⟩:=LT_yes (pre:=pre) HLb.out
      refine ⟨(kf_of_fr (Fr.of_below HB8.out []) (fun y hy=>by cases hy)).trans (RES.out.2 _),?_⟩
      show TkS w b rb g n4 _ (s.take (LT s now delay limit (pre ++ [x]))) (LPk s now delay limit (pre ++ [x])) _ _
      rw [t1,t2,LS.take_append]
      exact RES.out.1
    ·have HLb:Hid (lostB s now delay limit x.p=true):=Lib.hid (by rw [HLo.out,HLt.out];simp)
     refine region_held_round (S:=fun w'=>w'.cell? ⟨n0,0,none⟩=some (.pointer (some ⟨b,0,none⟩))∧w'.cell? ⟨n1,0,none⟩=some (.int .u64 (now:Int))∧w'.cell? ⟨n2,0,none⟩=some (.int .u64 (delay:Int))∧w'.cell? ⟨n3,0,none⟩=some (.int .u64 (limit:Int))∧w'.cell? ⟨x.b,0,none⟩=some (.int .u64 (x.p.n:Int))∧w'.cell? ⟨x.b,2,none⟩=some (.int .u64 (x.p.sent:Int))∧w'.cell? ⟨b,7,none⟩=some (.int .u64 (s.top:Int))) (by rintro ⟨_,_,h⟩;exact h) (by kernel_rfl) (by kernel_rfl) (HSk.out _ HDr.out) (fun hHeld=>?_)
     simp only [List.size_toArray,List.length_cons,List.length_nil,Nat.reduceAdd,Array.replicate_succ,Array.replicate_zero,List.push_toArray,List.nil_append,List.cons_append]
     refine wpAnyH_take (i:=0) (oi:=⟨some 19,_,_,_,_,_⟩) (v:=?v37) rfl (by kernel_rfl) (by kernel_rfl) (by kernel_rfl) (fun _ _ _ h=>h) (Or.inl ⟨by rfl,?y37⟩) (by assumption) ?r37
     case y37=>intro w hSw;obtain ⟨s0,s1,s2,s3,s4,s5,s6⟩:=hSw;go_simp;(try with_reducible rfl)
     simp only [Act.put,List.setIfInBounds_toArray,List.set_cons_zero,List.set_cons_succ]
     refine wpAnyH_take (i:=1) (oi:=⟨some 20,_,_,_,_,_⟩) (v:=?v38) rfl (by kernel_rfl) (by kernel_rfl) (by kernel_rfl) (fun _ _ _ h=>h) (Or.inl ⟨by rfl,?y38⟩) (by assumption) ?r38
     case y38=>intro w hSw;clear hSw;go_simp;(try with_reducible rfl)
     simp only [Act.put,List.setIfInBounds_toArray,List.set_cons_zero,List.set_cons_succ]
     refine wpAnyH_ready (rs:=[2]) (by kernel_rfl) (by simp) ?_
     refine AllReadyH.cons (o:=⟨some 21,_,_,_,_,_⟩) rfl (fun K hK=>?_) AllReadyH.nil
     go_simp
     refine (HOv.out _ HDr.out).mono ?_
     rintro e W5 ⟨rfl,hb5⟩
     have HB5:=Lib.hid (bel_to HDr.out hb5 HDr.out.size)
     clear hb5
     dsimp only
     refine hK.out _ _ (HSk.out _ HB5.out) (fun hHeld=>?_)
     clear hK
     try simp only [List.setIfInBounds_toArray,List.set_cons_zero,List.set_cons_succ]
     refine wpAnyH_take (i:=3) (oi:=⟨some 22,_,_,_,_,_⟩) (v:=?v39) rfl (by kernel_rfl) (by kernel_rfl) (by kernel_rfl) (fun _ _ _ h=>h) (Or.inl ⟨by rfl,?y39⟩) (by assumption) ?r39
     case y39=>intro w hSw;clear hSw;go_simp;(try with_reducible rfl)
     simp only [Act.put,List.setIfInBounds_toArray,List.set_cons_zero,List.set_cons_succ]
     refine wpAnyH_take (i:=4) (oi:=⟨some 23,_,_,_,_,_⟩) (v:=?v40) rfl (by kernel_rfl) (by kernel_rfl) (by kernel_rfl) (fun _ _ _ h=>h) (Or.inl ⟨by rfl,?y40⟩) (by assumption) ?r40
     case y40=>intro w hSw;clear hSw;go_simp;(try with_reducible rfl)
     simp only [Act.put,List.setIfInBounds_toArray,List.set_cons_zero,List.set_cons_succ]
     refine wpAnyH_take (i:=5) (oi:=⟨some 24,_,_,_,_,_⟩) (v:=?v41) rfl (by kernel_rfl) (by kernel_rfl) (by kernel_rfl) (fun _ _ _ h=>h) (Or.inl ⟨by rfl,?y41⟩) (by assumption) ?r41
     case y41=>intro w hSw;clear hSw;go_simp;(try with_reducible rfl)
     simp only [Act.put,List.setIfInBounds_toArray,List.set_cons_zero,List.set_cons_succ]
     refine wpAnyH_take (i:=6) (oi:=⟨some 25,_,_,_,_,_⟩) (v:=?v42) rfl (by kernel_rfl) (by kernel_rfl) (by kernel_rfl) (fun _ _ _ h=>h) (Or.inl ⟨by rfl,?y42⟩) (by assumption) ?r42
     case y42=>intro w hSw;clear hSw;go_simp;(try with_reducible rfl)
     simp only [Act.put,List.setIfInBounds_toArray,List.set_cons_zero,List.set_cons_succ]
     refine wpAnyH_take (i:=7) (oi:=⟨some 26,_,_,_,_,_⟩) (v:=?v43) rfl (by kernel_rfl) (by kernel_rfl) (by kernel_rfl) (fun _ _ _ h=>h) (Or.inl ⟨by rfl,?y43⟩) (by assumption) ?r43
     case y43=>intro w hSw;clear hSw;go_simp;(try with_reducible rfl)
     simp only [Act.put,List.setIfInBounds_toArray,List.set_cons_zero,List.set_cons_succ]
     refine wpAnyH_take (i:=8) (oi:=⟨some 27,_,_,_,_,_⟩) (v:=?v44) rfl (by kernel_rfl) (by kernel_rfl) (by kernel_rfl) (fun _ _ _ h=>h) (Or.inl ⟨by rfl,?y44⟩) (by assumption) ?r44
     case y44=>intro w hSw;obtain ⟨s0,s1,s2,s3,s4,s5,s6⟩:=hSw;go_simp;(try with_reducible rfl)
     simp only [Act.put,List.setIfInBounds_toArray,List.set_cons_zero,List.set_cons_succ]
     refine wpAnyH_take (i:=9) (oi:=⟨some 28,_,_,_,_,_⟩) (v:=?v45) rfl (by kernel_rfl) (by kernel_rfl) (by kernel_rfl) (fun _ _ _ h=>h) (Or.inl ⟨by rfl,?y45⟩) (by assumption) ?r45
     case y45=>intro w hSw;obtain ⟨s0,s1,s2,s3,s4,s5,s6⟩:=hSw;go_simp;(try with_reducible rfl)
     simp only [Act.put,List.setIfInBounds_toArray,List.set_cons_zero,List.set_cons_succ]
     refine wpAnyH_take (i:=10) (oi:=⟨some 29,_,_,_,_,_⟩) (v:=?v46) rfl (by kernel_rfl) (by kernel_rfl) (by kernel_rfl) (fun _ _ _ h=>h) (Or.inl ⟨by rfl,?y46⟩) (by assumption) ?r46
     case y46=>intro w hSw;clear hSw;go_simp;(try with_reducible rfl)
     simp only [Act.put,List.setIfInBounds_toArray,List.set_cons_zero,List.set_cons_succ]
     refine wpAnyH_take (i:=11) (oi:=⟨some 30,_,_,_,_,_⟩) (v:=?v47) rfl (by kernel_rfl) (by kernel_rfl) (by kernel_rfl) (fun _ _ _ h=>h) (Or.inl ⟨by rfl,?y47⟩) (by assumption) ?r47
     case y47=>intro w hSw;clear hSw;go_simp;(try with_reducible rfl)
     simp only [Act.put,List.setIfInBounds_toArray,List.set_cons_zero,List.set_cons_succ]
     refine wpAnyH_take (i:=12) (oi:=⟨some 31,_,_,_,_,_⟩) (v:=?v48) rfl (by kernel_rfl) (by kernel_rfl) (by kernel_rfl) (fun _ _ _ h=>h) (Or.inl ⟨by rfl,?y48⟩) (by assumption) ?r48
     case y48=>intro w hSw;obtain ⟨s0,s1,s2,s3,s4,s5,s6⟩:=hSw;go_simp;(try with_reducible rfl)
     simp only [Act.put,List.setIfInBounds_toArray,List.set_cons_zero,List.set_cons_succ]
     refine wpAnyH_take (i:=13) (oi:=⟨some 32,_,_,_,_,_⟩) (v:=?v49) rfl (by kernel_rfl) (by kernel_rfl) (by kernel_rfl) (fun _ _ _ h=>h) (Or.inl ⟨by rfl,?y49⟩) (by assumption) ?r49
     case y49=>intro w hSw;clear hSw;go_simp;(try with_reducible rfl)
     simp only [Act.put,List.setIfInBounds_toArray,List.set_cons_zero,List.set_cons_succ]
     refine wpAnyH_take (i:=14) (oi:=⟨some 33,_,_,_,_,_⟩) (v:=?v50) rfl (by kernel_rfl) (by kernel_rfl) (by kernel_rfl) (fun _ _ _ h=>h) (Or.inl ⟨by rfl,?y50⟩) (by assumption) ?r50
     case y50=>intro w hSw;clear hSw;go_simp;(try with_reducible rfl)
     simp only [Act.put,List.setIfInBounds_toArray,List.set_cons_zero,List.set_cons_succ]
     refine wpAnyH_take (i:=15) (oi:=⟨some 34,_,_,_,_,_⟩) (v:=?v51) rfl (by kernel_rfl) (by kernel_rfl) (by kernel_rfl) (fun _ _ _ h=>h) (Or.inl ⟨by rfl,?y51⟩) (by assumption) ?r51
     case y51=>intro w hSw;clear hSw;go_simp;(try with_reducible rfl)
     simp only [Act.put,List.setIfInBounds_toArray,List.set_cons_zero,List.set_cons_succ]
     refine wpAnyH_take (i:=16) (oi:=⟨some 35,_,_,_,_,_⟩) (v:=?v52) rfl (by kernel_rfl) (by kernel_rfl) (by kernel_rfl) (fun _ _ _ h=>h) (Or.inl ⟨by rfl,?y52⟩) (by assumption) ?r52
     case y52=>intro w hSw;clear hSw;go_simp;(try with_reducible rfl)
     simp only [Act.put,List.setIfInBounds_toArray,List.set_cons_zero,List.set_cons_succ]
     refine wpAnyH_take (i:=17) (oi:=⟨some 36,_,_,_,_,_⟩) (v:=?v53) rfl (by kernel_rfl) (by kernel_rfl) (by kernel_rfl) (fun _ _ _ h=>h) (Or.inl ⟨by rfl,?y53⟩) (by assumption) ?r53
     case y53=>intro w hSw;clear hSw;go_simp;(try with_reducible rfl)
     simp only [Act.put,List.setIfInBounds_toArray,List.set_cons_zero,List.set_cons_succ]
     refine wpAnyH_take (i:=18) (oi:=⟨some 37,_,_,_,_,_⟩) (v:=?v54) rfl (by kernel_rfl) (by kernel_rfl) (by kernel_rfl) (fun _ _ _ h=>h) (Or.inl ⟨by rfl,?y54⟩) (by assumption) ?r54
     case y54=>intro w hSw;clear hSw;go_simp;(try with_reducible rfl)
     simp only [Act.put,List.setIfInBounds_toArray,List.set_cons_zero,List.set_cons_succ]
     refine wpAnyH_take (i:=19) (oi:=⟨some 38,_,_,_,_,_⟩) (v:=?v55) rfl (by kernel_rfl) (by kernel_rfl) (by kernel_rfl) (fun _ _ _ h=>h) (Or.inl ⟨by rfl,?y55⟩) (by assumption) ?r55
     case y55=>intro w hSw;clear hSw;go_simp;(try with_reducible rfl)
     simp only [Act.put,List.setIfInBounds_toArray,List.set_cons_zero,List.set_cons_succ]
     refine wpAnyH_take (i:=20) (oi:=⟨some 39,_,_,_,_,_⟩) (v:=?v56) rfl (by kernel_rfl) (by kernel_rfl) (by kernel_rfl) (fun _ _ _ h=>h) (Or.inl ⟨by rfl,?y56⟩) (by assumption) ?r56
     case y56=>intro w hSw;obtain ⟨s0,s1,s2,s3,s4,s5,s6⟩:=hSw;go_simp;(try with_reducible rfl)
     simp only [Act.put,List.setIfInBounds_toArray,List.set_cons_zero,List.set_cons_succ]
     refine wpAnyH_take (i:=21) (oi:=⟨some 40,_,_,_,_,_⟩) (v:=?v57) rfl (by kernel_rfl) (by kernel_rfl) (by kernel_rfl) (fun _ _ _ h=>h) (Or.inl ⟨by rfl,?y57⟩) (by assumption) ?r57
     case y57=>intro w hSw;obtain ⟨s0,s1,s2,s3,s4,s5,s6⟩:=hSw;go_simp;(try with_reducible rfl)
     simp only [Act.put,List.setIfInBounds_toArray,List.set_cons_zero,List.set_cons_succ]
     refine wpAnyH_take (i:=22) (oi:=⟨some 41,_,_,_,_,_⟩) (v:=?v58) rfl (by kernel_rfl) (by kernel_rfl) (by kernel_rfl) (fun _ _ _ h=>h) (Or.inl ⟨by rfl,?y58⟩) (by assumption) ?r58
     case y58=>intro w hSw;obtain ⟨s0,s1,s2,s3,s4,s5,s6⟩:=hSw;go_simp;(try with_reducible rfl)
     simp only [Act.put,List.setIfInBounds_toArray,List.set_cons_zero,List.set_cons_succ]
     refine wpAnyH_ready (rs:=[23]) (by kernel_rfl) (by simp) ?_
     refine AllReadyH.cons (o:=⟨some 42,_,_,_,_,_⟩) rfl (fun K hK=>?_) AllReadyH.nil
     go_simp
     refine (HPd.out W5).mono ?_
     rintro e W6 ⟨rfl,hb6⟩
     have HB6:=Lib.hid (bel_to HB5.out hb6 HB5.out.size)
     clear hb6
     dsimp only
     refine hK.out _ _ (HSk.out _ HB6.out) (fun hHeld=>?_)
     clear hK
     try simp only [List.setIfInBounds_toArray,List.set_cons_zero,List.set_cons_succ]
     refine wpAnyH_take (i:=24) (oi:=⟨some 43,_,_,_,_,_⟩) (v:=?v59) rfl (by kernel_rfl) (by kernel_rfl) (by kernel_rfl) (fun _ _ _ h=>h) (Or.inl ⟨by rfl,?y59⟩) (by assumption) ?r59
     case y59=>intro w hSw;clear hSw;go_simp;(try with_reducible rfl)
     simp only [Act.put,List.setIfInBounds_toArray,List.set_cons_zero,List.set_cons_succ]
     refine wpAnyH_take (i:=25) (oi:=⟨some 44,_,_,_,_,_⟩) (v:=?v60) rfl (by kernel_rfl) (by kernel_rfl) (by kernel_rfl) (fun _ _ _ h=>h) (Or.inl ⟨by rfl,?y60⟩) (by assumption) ?r60
     case y60=>intro w hSw;clear hSw;go_simp;(try with_reducible rfl)
     simp only [Act.put,List.setIfInBounds_toArray,List.set_cons_zero,List.set_cons_succ]
     refine wpAnyH_take (i:=26) (oi:=⟨some 45,_,_,_,_,_⟩) (v:=?v61) rfl (by kernel_rfl) (by kernel_rfl) (by kernel_rfl) (fun _ _ _ h=>h) (Or.inl ⟨by rfl,?y61⟩) (by assumption) ?r61
     case y61=>intro w hSw;clear hSw;go_simp;(try with_reducible rfl)
     simp only [Act.put,List.setIfInBounds_toArray,List.set_cons_zero,List.set_cons_succ]
     refine wpAnyH_take (i:=27) (oi:=⟨some 46,_,_,_,_,_⟩) (v:=undef) rfl (by kernel_rfl) (by kernel_rfl) (by kernel_rfl) (fun _ _ _ h=>h) (Or.inr ⟨by rfl,rfl⟩) (by assumption) ?_
     simp only [Act.put,List.setIfInBounds_toArray,List.set_cons_zero,List.set_cons_succ]
     refine wpAnyH_take (i:=28) (oi:=⟨some 47,_,_,_,_,_⟩) (v:=undef) rfl (by kernel_rfl) (by kernel_rfl) (by kernel_rfl) (fun _ _ _ h=>h) (Or.inr ⟨by rfl,rfl⟩) (by assumption) ?_
     simp only [Act.put,List.setIfInBounds_toArray,List.set_cons_zero,List.set_cons_succ]
     refine wpAnyH_take (i:=29) (oi:=⟨some 48,_,_,_,_,_⟩) (v:=undef) rfl (by kernel_rfl) (by kernel_rfl) (by kernel_rfl) (fun _ _ _ h=>h) (Or.inr ⟨by rfl,rfl⟩) (by assumption) ?_
     simp only [Act.put,List.setIfInBounds_toArray,List.set_cons_zero,List.set_cons_succ]
     refine wpAnyH_take (i:=30) (oi:=⟨some 49,_,_,_,_,_⟩) (v:=undef) rfl (by kernel_rfl) (by kernel_rfl) (by kernel_rfl) (fun _ _ _ h=>h) (Or.inr ⟨by rfl,rfl⟩) (by assumption) ?_
     simp only [Act.put,List.setIfInBounds_toArray,List.set_cons_zero,List.set_cons_succ]
     refine wpAnyH_take (i:=31) (oi:=⟨some 50,_,_,_,_,_⟩) (v:=undef) rfl (by kernel_rfl) (by kernel_rfl) (by kernel_rfl) (fun _ _ _ h=>h) (Or.inr ⟨by rfl,rfl⟩) (by assumption) ?_
     simp only [Act.put,List.setIfInBounds_toArray,List.set_cons_zero,List.set_cons_succ]
     refine wpAnyH_take (i:=32) (oi:=⟨some 51,_,_,_,_,_⟩) (v:=undef) rfl (by kernel_rfl) (by kernel_rfl) (by kernel_rfl) (fun _ _ _ h=>h) (Or.inr ⟨by rfl,rfl⟩) (by assumption) ?_
     simp only [Act.put,List.setIfInBounds_toArray,List.set_cons_zero,List.set_cons_succ]
     refine wpAnyH_take (i:=33) (oi:=⟨some 52,_,_,_,_,_⟩) (v:=undef) rfl (by kernel_rfl) (by kernel_rfl) (by kernel_rfl) (fun _ _ _ h=>h) (Or.inr ⟨by rfl,rfl⟩) (by assumption) ?_
     simp only [Act.put,List.setIfInBounds_toArray,List.set_cons_zero,List.set_cons_succ]
     refine wpAnyH_take (i:=34) (oi:=⟨some 53,_,_,_,_,_⟩) (v:=undef) rfl (by kernel_rfl) (by kernel_rfl) (by kernel_rfl) (fun _ _ _ h=>h) (Or.inr ⟨by rfl,rfl⟩) (by assumption) ?_
     simp only [Act.put,List.setIfInBounds_toArray,List.set_cons_zero,List.set_cons_succ]
     refine wpAnyH_take (i:=35) (oi:=⟨some 54,_,_,_,_,_⟩) (v:=undef) rfl (by kernel_rfl) (by kernel_rfl) (by kernel_rfl) (fun _ _ _ h=>h) (Or.inr ⟨by rfl,rfl⟩) (by assumption) ?_
     simp only [Act.put,List.setIfInBounds_toArray,List.set_cons_zero,List.set_cons_succ]
     refine wpAnyH_take (i:=36) (oi:=⟨some 55,_,_,_,_,_⟩) (v:=?v71) rfl (by kernel_rfl) (by kernel_rfl) (by kernel_rfl) (fun _ _ _ h=>h) (Or.inl ⟨by rfl,?y71⟩) (by assumption) ?r71
     case y71=>intro w hSw;clear hSw;go_simp;(try with_reducible rfl)
     simp only [Act.put,List.setIfInBounds_toArray,List.set_cons_zero,List.set_cons_succ]
     refine wpAnyH_done (by kernel_rfl) ?_ _
     have HT6:=Lib.hid (HI.out.below (LBox.k _ _ _ _ _ _ _ _ _ _ _ _ _ _) HB6.out)
     have q7:=HT6.out.box.q7.cell (i:=0) rfl
     obtain ⟨v,hv1,hv2,hv3⟩:=HT6.out.out
     have HV1:=Lib.hid hv1
     have HV2:=Lib.hid hv2
     have HV3:=Lib.hid hv3
     have HTK:=Lib.hid (take_any b rb g n5 n6 n4 x _ v _ W6 HT6.out.led (LS.take_ok HS.out _) HXt.out HXg.out HT6.out.box.q5 HT6.out.box.q6 hv1 hv2 HPl.out)
     clear hv1 hv2 hv3 HOv HPd HPm
     gi_wp2_with fail
     refine ⟨trivial,?_⟩
     refine (CallsIn.inRound l (callsIn_wide.2 HTK.out)).mono ?_
     intro e W7 hp
     obtain rfl:=hp.e
     have RES:=Lib.hid (HT6.out.take (LBox.k _ _ _ _ _ _ _ _ _ _ _ _ _ _) HXt.out HV1.out HV2.out HV3.out hn4 (.inl (by simp [blocksL])) (.inl (by simp only [blocksL,List.mem_cons];exact .inr (.inr (.inr (List.mem_map_of_mem HX.out))))) hp)
     clear hp HTK q7
     gi_wp2
     obtain ⟨t1,t2⟩:=LT_yes (pre:=pre) HLb.out
     refine ⟨(kf_of_fr (Fr.of_below HB6.out []) (fun y hy=>by cases hy)).trans (RES.out.2 _),?_⟩
     show TkS w b rb g n4 _ (s.take (LT s now delay limit (pre ++ [x]))) (LPk s now delay limit (pre ++ [x])) _ _
     rw [t1,t2,LS.take_append]
     exact RES.out.1
   ·have d1:decide (x.p.n < s.top)=false:=by simpa using hlt
    have HLt:=Lib.hid d1
    clear hlt
    refine region_held_round (S:=fun w'=>w'.cell? ⟨n0,0,none⟩=some (.pointer (some ⟨b,0,none⟩))∧w'.cell? ⟨n1,0,none⟩=some (.int .u64 (now:Int))∧w'.cell? ⟨n2,0,none⟩=some (.int .u64 (delay:Int))∧w'.cell? ⟨n3,0,none⟩=some (.int .u64 (limit:Int))∧w'.cell? ⟨x.b,0,none⟩=some (.int .u64 (x.p.n:Int))∧w'.cell? ⟨x.b,2,none⟩=some (.int .u64 (x.p.sent:Int))∧w'.cell? ⟨b,7,none⟩=some (.int .u64 (s.top:Int))) (by rintro ⟨_,_,h⟩;exact h) (by kernel_rfl) (by kernel_rfl) (HSk.out _ HDr.out) (fun hHeld=>?_)
    simp only [List.size_toArray,List.length_cons,List.length_nil,Nat.reduceAdd,Array.replicate_succ,Array.replicate_zero,List.push_toArray,List.nil_append,List.cons_append]
    refine wpAnyH_take (i:=0) (oi:=⟨some 19,_,_,_,_,_⟩) (v:=?v106) rfl (by kernel_rfl) (by kernel_rfl) (by kernel_rfl) (fun _ _ _ h=>h) (Or.inl ⟨by rfl,?y106⟩) (by assumption) ?r106
    case y106=>intro w hSw;obtain ⟨s0,s1,s2,s3,s4,s5,s6⟩:=hSw;go_simp;(try with_reducible rfl)
    simp only [Act.put,List.setIfInBounds_toArray,List.set_cons_zero,List.set_cons_succ]
    refine wpAnyH_take (i:=1) (oi:=⟨some 20,_,_,_,_,_⟩) (v:=?v107) rfl (by kernel_rfl) (by kernel_rfl) (by kernel_rfl) (fun _ _ _ h=>h) (Or.inl ⟨by rfl,?y107⟩) (by assumption) ?r107
    case y107=>intro w hSw;clear hSw;go_simp;(try with_reducible rfl)
    simp only [Act.put,List.setIfInBounds_toArray,List.set_cons_zero,List.set_cons_succ]
    refine wpAnyH_ready (rs:=[2]) (by kernel_rfl) (by simp) ?_
    refine AllReadyH.cons (o:=⟨some 21,_,_,_,_,_⟩) rfl (fun K hK=>?_) AllReadyH.nil
    go_simp
    refine (HOv.out _ HDr.out).mono ?_
    rintro e W5 ⟨rfl,hb5⟩
    have HB5:=Lib.hid (bel_to HDr.out hb5 HDr.out.size)
    clear hb5
    dsimp only
    refine hK.out _ _ (HSk.out _ HB5.out) (fun hHeld=>?_)
    clear hK
    try simp only [List.setIfInBounds_toArray,List.set_cons_zero,List.set_cons_succ]
    refine wpAnyH_take (i:=3) (oi:=⟨some 22,_,_,_,_,_⟩) (v:=?v108) rfl (by kernel_rfl) (by kernel_rfl) (by kernel_rfl) (fun _ _ _ h=>h) (Or.inl ⟨by rfl,?y108⟩) (by assumption) ?r108
    case y108=>intro w hSw;clear hSw;go_simp;(try with_reducible rfl)
    simp only [Act.put,List.setIfInBounds_toArray,List.set_cons_zero,List.set_cons_succ]
    refine wpAnyH_take (i:=4) (oi:=⟨some 23,_,_,_,_,_⟩) (v:=?v109) rfl (by kernel_rfl) (by kernel_rfl) (by kernel_rfl) (fun _ _ _ h=>h) (Or.inl ⟨by rfl,?y109⟩) (by assumption) ?r109
    case y109=>intro w hSw;clear hSw;go_simp;(try with_reducible rfl)
    simp only [Act.put,List.setIfInBounds_toArray,List.set_cons_zero,List.set_cons_succ]
    refine wpAnyH_take (i:=5) (oi:=⟨some 24,_,_,_,_,_⟩) (v:=?v110) rfl (by kernel_rfl) (by kernel_rfl) (by kernel_rfl) (fun _ _ _ h=>h) (Or.inl ⟨by rfl,?y110⟩) (by assumption) ?r110
    case y110=>intro w hSw;clear hSw;go_simp;(try with_reducible rfl)
    simp only [Act.put,List.setIfInBounds_toArray,List.set_cons_zero,List.set_cons_succ]
    refine wpAnyH_take (i:=6) (oi:=⟨some 25,_,_,_,_,_⟩) (v:=?v111) rfl (by kernel_rfl) (by kernel_rfl) (by kernel_rfl) (fun _ _ _ h=>h) (Or.inl ⟨by rfl,?y111⟩) (by assumption) ?r111
    case y111=>intro w hSw;clear hSw;go_simp;(try with_reducible rfl)
    simp only [Act.put,List.setIfInBounds_toArray,List.set_cons_zero,List.set_cons_succ]
    refine wpAnyH_take (i:=7) (oi:=⟨some 26,_,_,_,_,_⟩) (v:=?v112) rfl (by kernel_rfl) (by kernel_rfl) (by kernel_rfl) (fun _ _ _ h=>h) (Or.inl ⟨by rfl,?y112⟩) (by assumption) ?r112
    case y112=>intro w hSw;clear hSw;go_simp;(try with_reducible rfl)
    simp only [Act.put,List.setIfInBounds_toArray,List.set_cons_zero,List.set_cons_succ]
    refine wpAnyH_take (i:=8) (oi:=⟨some 27,_,_,_,_,_⟩) (v:=?v113) rfl (by kernel_rfl) (by kernel_rfl) (by kernel_rfl) (fun _ _ _ h=>h) (Or.inl ⟨by rfl,?y113⟩) (by assumption) ?r113
    case y113=>intro w hSw;obtain ⟨s0,s1,s2,s3,s4,s5,s6⟩:=hSw;go_simp;(try with_reducible rfl)
    simp only [Act.put,List.setIfInBounds_toArray,List.set_cons_zero,List.set_cons_succ]
    refine wpAnyH_take (i:=9) (oi:=⟨some 28,_,_,_,_,_⟩) (v:=?v114) rfl (by kernel_rfl) (by kernel_rfl) (by kernel_rfl) (fun _ _ _ h=>h) (Or.inl ⟨by rfl,?y114⟩) (by assumption) ?r114
    case y114=>intro w hSw;obtain ⟨s0,s1,s2,s3,s4,s5,s6⟩:=hSw;go_simp;(try with_reducible rfl)
    simp only [Act.put,List.setIfInBounds_toArray,List.set_cons_zero,List.set_cons_succ]
    refine wpAnyH_take (i:=10) (oi:=⟨some 29,_,_,_,_,_⟩) (v:=?v115) rfl (by kernel_rfl) (by kernel_rfl) (by kernel_rfl) (fun _ _ _ h=>h) (Or.inl ⟨by rfl,?y115⟩) (by assumption) ?r115
    case y115=>intro w hSw;clear hSw;go_simp;(try with_reducible rfl)
    simp only [Act.put,List.setIfInBounds_toArray,List.set_cons_zero,List.set_cons_succ]
    refine wpAnyH_take (i:=11) (oi:=⟨some 30,_,_,_,_,_⟩) (v:=?v116) rfl (by kernel_rfl) (by kernel_rfl) (by kernel_rfl) (fun _ _ _ h=>h) (Or.inl ⟨by rfl,?y116⟩) (by assumption) ?r116
    case y116=>intro w hSw;clear hSw;go_simp;(try with_reducible rfl)
    simp only [Act.put,List.setIfInBounds_toArray,List.set_cons_zero,List.set_cons_succ]
    refine wpAnyH_take (i:=12) (oi:=⟨some 31,_,_,_,_,_⟩) (v:=?v117) rfl (by kernel_rfl) (by kernel_rfl) (by kernel_rfl) (fun _ _ _ h=>h) (Or.inl ⟨by rfl,?y117⟩) (by assumption) ?r117
    case y117=>intro w hSw;obtain ⟨s0,s1,s2,s3,s4,s5,s6⟩:=hSw;go_simp;(try with_reducible rfl)
    simp only [Act.put,List.setIfInBounds_toArray,List.set_cons_zero,List.set_cons_succ]
    refine wpAnyH_take (i:=13) (oi:=⟨some 32,_,_,_,_,_⟩) (v:=?v118) rfl (by kernel_rfl) (by kernel_rfl) (by kernel_rfl) (fun _ _ _ h=>h) (Or.inl ⟨by rfl,?y118⟩) (by assumption) ?r118
    case y118=>intro w hSw;clear hSw;go_simp;(try with_reducible rfl)
    simp only [Act.put,List.setIfInBounds_toArray,List.set_cons_zero,List.set_cons_succ]
    refine wpAnyH_take (i:=14) (oi:=⟨some 33,_,_,_,_,_⟩) (v:=?v119) rfl (by kernel_rfl) (by kernel_rfl) (by kernel_rfl) (fun _ _ _ h=>h) (Or.inl ⟨by rfl,?y119⟩) (by assumption) ?r119
    case y119=>intro w hSw;clear hSw;go_simp;(try with_reducible rfl)
    simp only [Act.put,List.setIfInBounds_toArray,List.set_cons_zero,List.set_cons_succ]
    refine wpAnyH_take (i:=15) (oi:=⟨some 34,_,_,_,_,_⟩) (v:=undef) rfl (by kernel_rfl) (by kernel_rfl) (by kernel_rfl) (fun _ _ _ h=>h) (Or.inr ⟨by rfl,rfl⟩) (by assumption) ?_
    simp only [Act.put,List.setIfInBounds_toArray,List.set_cons_zero,List.set_cons_succ]
    refine wpAnyH_take (i:=16) (oi:=⟨some 35,_,_,_,_,_⟩) (v:=undef) rfl (by kernel_rfl) (by kernel_rfl) (by kernel_rfl) (fun _ _ _ h=>h) (Or.inr ⟨by rfl,rfl⟩) (by assumption) ?_
    simp only [Act.put,List.setIfInBounds_toArray,List.set_cons_zero,List.set_cons_succ]
    refine wpAnyH_take (i:=17) (oi:=⟨some 36,_,_,_,_,_⟩) (v:=undef) rfl (by kernel_rfl) (by kernel_rfl) (by kernel_rfl) (fun _ _ _ h=>h) (Or.inr ⟨by rfl,rfl⟩) (by assumption) ?_
    simp only [Act.put,List.setIfInBounds_toArray,List.set_cons_zero,List.set_cons_succ]
    refine wpAnyH_take (i:=18) (oi:=⟨some 37,_,_,_,_,_⟩) (v:=undef) rfl (by kernel_rfl) (by kernel_rfl) (by kernel_rfl) (fun _ _ _ h=>h) (Or.inr ⟨by rfl,rfl⟩) (by assumption) ?_
    simp only [Act.put,List.setIfInBounds_toArray,List.set_cons_zero,List.set_cons_succ]
    refine wpAnyH_take (i:=19) (oi:=⟨some 38,_,_,_,_,_⟩) (v:=undef) rfl (by kernel_rfl) (by kernel_rfl) (by kernel_rfl) (fun _ _ _ h=>h) (Or.inr ⟨by rfl,rfl⟩) (by assumption) ?_
    simp only [Act.put,List.setIfInBounds_toArray,List.set_cons_zero,List.set_cons_succ]
    refine wpAnyH_take (i:=20) (oi:=⟨some 39,_,_,_,_,_⟩) (v:=undef) rfl (by kernel_rfl) (by kernel_rfl) (by kernel_rfl) (fun _ _ _ h=>h) (Or.inr ⟨by rfl,rfl⟩) (by assumption) ?_
    simp only [Act.put,List.setIfInBounds_toArray,List.set_cons_zero,List.set_cons_succ]
    refine wpAnyH_take (i:=21) (oi:=⟨some 40,_,_,_,_,_⟩) (v:=undef) rfl (by kernel_rfl) (by kernel_rfl) (by kernel_rfl) (fun _ _ _ h=>h) (Or.inr ⟨by rfl,rfl⟩) (by assumption) ?_
    simp only [Act.put,List.setIfInBounds_toArray,List.set_cons_zero,List.set_cons_succ]
    refine wpAnyH_take (i:=22) (oi:=⟨some 41,_,_,_,_,_⟩) (v:=undef) rfl (by kernel_rfl) (by kernel_rfl) (by kernel_rfl) (fun _ _ _ h=>h) (Or.inr ⟨by rfl,rfl⟩) (by assumption) ?_
    simp only [Act.put,List.setIfInBounds_toArray,List.set_cons_zero,List.set_cons_succ]
    refine wpAnyH_take (i:=23) (oi:=⟨some 42,_,_,_,_,_⟩) (v:=undef) rfl (by kernel_rfl) (by kernel_rfl) (by kernel_rfl) (fun _ _ _ h=>h) (Or.inr ⟨by rfl,rfl⟩) (by assumption) ?_
    simp only [Act.put,List.setIfInBounds_toArray,List.set_cons_zero,List.set_cons_succ]
    refine wpAnyH_take (i:=24) (oi:=⟨some 43,_,_,_,_,_⟩) (v:=?v129) rfl (by kernel_rfl) (by kernel_rfl) (by kernel_rfl) (fun _ _ _ h=>h) (Or.inl ⟨by rfl,?y129⟩) (by assumption) ?r129
    case y129=>intro w hSw;clear hSw;go_simp;(try with_reducible rfl)
    simp only [Act.put,List.setIfInBounds_toArray,List.set_cons_zero,List.set_cons_succ]
    refine wpAnyH_take (i:=25) (oi:=⟨some 44,_,_,_,_,_⟩) (v:=?v130) rfl (by kernel_rfl) (by kernel_rfl) (by kernel_rfl) (fun _ _ _ h=>h) (Or.inl ⟨by rfl,?y130⟩) (by assumption) ?r130
    case y130=>intro w hSw;clear hSw;go_simp;(try with_reducible rfl)
    simp only [Act.put,List.setIfInBounds_toArray,List.set_cons_zero,List.set_cons_succ]
    refine wpAnyH_take (i:=26) (oi:=⟨some 45,_,_,_,_,_⟩) (v:=?v131) rfl (by kernel_rfl) (by kernel_rfl) (by kernel_rfl) (fun _ _ _ h=>h) (Or.inl ⟨by rfl,?y131⟩) (by assumption) ?r131
    case y131=>intro w hSw;clear hSw;go_simp;(try with_reducible rfl)
    simp only [Act.put,List.setIfInBounds_toArray,List.set_cons_zero,List.set_cons_succ]
    refine wpAnyH_take (i:=27) (oi:=⟨some 46,_,_,_,_,_⟩) (v:=?v132) rfl (by kernel_rfl) (by kernel_rfl) (by kernel_rfl) (fun _ _ _ h=>h) (Or.inl ⟨by rfl,?y132⟩) (by assumption) ?r132
    case y132=>intro w hSw;clear hSw;go_simp;(try with_reducible rfl)
    simp only [Act.put,List.setIfInBounds_toArray,List.set_cons_zero,List.set_cons_succ]
    refine wpAnyH_take (i:=28) (oi:=⟨some 47,_,_,_,_,_⟩) (v:=?v133) rfl (by kernel_rfl) (by kernel_rfl) (by kernel_rfl) (fun _ _ _ h=>h) (Or.inl ⟨by rfl,?y133⟩) (by assumption) ?r133
    case y133=>intro w hSw;clear hSw;go_simp;(try with_reducible rfl)
    simp only [Act.put,List.setIfInBounds_toArray,List.set_cons_zero,List.set_cons_succ]
    refine wpAnyH_take (i:=29) (oi:=⟨some 48,_,_,_,_,_⟩) (v:=?v134) rfl (by kernel_rfl) (by kernel_rfl) (by kernel_rfl) (fun _ _ _ h=>h) (Or.inl ⟨by rfl,?y134⟩) (by assumption) ?r134
    case y134=>intro w hSw;clear hSw;go_simp;(try with_reducible rfl)
    simp only [Act.put,List.setIfInBounds_toArray,List.set_cons_zero,List.set_cons_succ]
    refine wpAnyH_take (i:=30) (oi:=⟨some 49,_,_,_,_,_⟩) (v:=?v135) rfl (by kernel_rfl) (by kernel_rfl) (by kernel_rfl) (fun _ _ _ h=>h) (Or.inl ⟨by rfl,?y135⟩) (by assumption) ?r135
    case y135=>intro w hSw;clear hSw;go_simp;(try with_reducible rfl)
    simp only [Act.put,List.setIfInBounds_toArray,List.set_cons_zero,List.set_cons_succ]
    refine wpAnyH_take (i:=31) (oi:=⟨some 50,_,_,_,_,_⟩) (v:=?v136) rfl (by kernel_rfl) (by kernel_rfl) (by kernel_rfl) (fun _ _ _ h=>h) (Or.inl ⟨by rfl,?y136⟩) (by assumption) ?r136
    case y136=>intro w hSw;clear hSw;go_simp;(try with_reducible rfl)
    simp only [Act.put,List.setIfInBounds_toArray,List.set_cons_zero,List.set_cons_succ]
    refine wpAnyH_take (i:=32) (oi:=⟨some 51,_,_,_,_,_⟩) (v:=?v137) rfl (by kernel_rfl) (by kernel_rfl) (by kernel_rfl) (fun _ _ _ h=>h) (Or.inl ⟨by rfl,?y137⟩) (by assumption) ?r137
    case y137=>intro w hSw;obtain ⟨s0,s1,s2,s3,s4,s5,s6⟩:=hSw;go_simp;(try with_reducible rfl)
    simp only [Act.put,List.setIfInBounds_toArray,List.set_cons_zero,List.set_cons_succ]
    refine wpAnyH_take (i:=33) (oi:=⟨some 52,_,_,_,_,_⟩) (v:=?v138) rfl (by kernel_rfl) (by kernel_rfl) (by kernel_rfl) (fun _ _ _ h=>h) (Or.inl ⟨by rfl,?y138⟩) (by assumption) ?r138
    case y138=>intro w hSw;obtain ⟨s0,s1,s2,s3,s4,s5,s6⟩:=hSw;go_simp;(try with_reducible rfl)
    simp only [Act.put,List.setIfInBounds_toArray,List.set_cons_zero,List.set_cons_succ]
    refine wpAnyH_take (i:=34) (oi:=⟨some 53,_,_,_,_,_⟩) (v:=?v139) rfl (by kernel_rfl) (by kernel_rfl) (by kernel_rfl) (fun _ _ _ h=>h) (Or.inl ⟨by rfl,?y139⟩) (by assumption) ?r139
    case y139=>intro w hSw;obtain ⟨s0,s1,s2,s3,s4,s5,s6⟩:=hSw;go_simp;(try with_reducible rfl)
    simp only [Act.put,List.setIfInBounds_toArray,List.set_cons_zero,List.set_cons_succ]
    refine wpAnyH_ready (rs:=[35]) (by kernel_rfl) (by simp) ?_
    refine AllReadyH.cons (o:=⟨some 54,_,_,_,_,_⟩) rfl (fun K hK=>?_) AllReadyH.nil
    go_simp
    refine (HPm.out W5).mono ?_
    rintro e W8 ⟨rfl,hb7⟩
    have HB8:=Lib.hid (bel_to HB5.out hb7 HB5.out.size)
    clear hb7
    dsimp only
    refine hK.out _ _ (HSk.out _ HB8.out) (fun hHeld=>?_)
    clear hK
    try simp only [List.setIfInBounds_toArray,List.set_cons_zero,List.set_cons_succ]
    refine wpAnyH_take (i:=36) (oi:=⟨some 55,_,_,_,_,_⟩) (v:=?v140) rfl (by kernel_rfl) (by kernel_rfl) (by kernel_rfl) (fun _ _ _ h=>h) (Or.inl ⟨by rfl,?y140⟩) (by assumption) ?r140
    case y140=>intro w hSw;clear hSw;go_simp;(try with_reducible rfl)
    simp only [Act.put,List.setIfInBounds_toArray,List.set_cons_zero,List.set_cons_succ]
    refine wpAnyH_done (by kernel_rfl) ?_ _
    cases pl
    ·have HLb:Hid (lostB s now delay limit x.p=false):=Lib.hid (by rw [HLo.out];rw [HLt.out];rfl)
     have HT6:=Lib.hid (HI.out.below (LBox.k _ _ _ _ _ _ _ _ _ _ _ _ _ _) HB8.out)
     have q0:=HT6.out.box.q0.cell (i:=0) rfl
     have q4:W8.cell? ⟨b,4,none⟩=some (.bool s.mixed):=HT6.out.led.head.cell (i:=4) rfl
     clear HOv HPd HPm
     obtain ⟨t1,t2⟩:=LT_no (pre:=pre) HLb.out
     have HT1:=Lib.hid t1
     have HT2:=Lib.hid t2
     clear t1 t2
     cases hmx:s.mixed
     ·rw [hmx] at q4
      have HMx:=Lib.hid hmx
      clear hmx
      gi_wp2
      refine ⟨kf_of_fr (Fr.of_below HB8.out []) (fun y hy=>by cases hy),⟨rfl,pre,lost_rest HS.out HMx.out List.filter_sublist HOk.out HLb.out,HT1.out,HT2.out⟩,?_⟩
      rw [HT1.out,HT2.out]
      exact HT6.out
     ·rw [hmx] at q4
      clear hmx
      gi_wp2
      refine ⟨kf_of_fr (Fr.of_below HB8.out []) (fun y hy=>by cases hy),?_⟩
      show TkS w b rb g n4 _ (s.take (LT s now delay limit (pre ++ [x]))) (LPk s now delay limit (pre ++ [x])) _ _
      rw [HT1.out,HT2.out]
      exact HT6.out
    ·have HLb:Hid (lostB s now delay limit x.p=true):=Lib.hid (by rw [HLo.out];simp)
     have HT6:=Lib.hid (HI.out.below (LBox.k _ _ _ _ _ _ _ _ _ _ _ _ _ _) HB8.out)
     have q7:=HT6.out.box.q7.cell (i:=0) rfl
     obtain ⟨v,hv1,hv2,hv3⟩:=HT6.out.out
     have HV1:=Lib.hid hv1
     have HV2:=Lib.hid hv2
     have HV3:=Lib.hid hv3
     have HTK:=Lib.hid (take_any b rb g n5 n6 n4 x _ v _ W8 HT6.out.led (LS.take_ok HS.out _) HXt.out HXg.out HT6.out.box.q5 HT6.out.box.q6 hv1 hv2 HPl.out)
     clear hv1 hv2 hv3 HOv HPd HPm
     gi_wp2_with fail
     refine ⟨trivial,?_⟩
     refine (CallsIn.inRound l (callsIn_wide.2 HTK.out)).mono ?_
     intro e W7 hp
     obtain rfl:=hp.e
     have RES:=Lib.hid (HT6.out.take (LBox.k _ _ _ _ _ _ _ _ _ _ _ _ _ _) HXt.out HV1.out HV2.out HV3.out hn4 (.inl (by simp [blocksL])) (.inl (by simp only [blocksL,List.mem_cons];exact .inr (.inr (.inr (List.mem_map_of_mem HX.out))))) hp)
     clear hp HTK q7
     gi_wp2
     obtain ⟨t1,t2⟩:=LT_yes (pre:=pre) HLb.out
     refine ⟨(kf_of_fr (Fr.of_below HB8.out []) (fun y hy=>by cases hy)).trans (RES.out.2 _),?_⟩
     show TkS w b rb g n4 _ (s.take (LT s now delay limit (pre ++ [x]))) (LPk s now delay limit (pre ++ [x])) _ _
     rw [t1,t2,LS.take_append]
     exact RES.out.1
  ·have HLb:Hid (lostB s now delay limit x.p=true):=Lib.hid (by rw [HLo.out];simp)
   refine region_held_round (S:=fun w'=>w'.cell? ⟨n0,0,none⟩=some (.pointer (some ⟨b,0,none⟩))∧w'.cell? ⟨n1,0,none⟩=some (.int .u64 (now:Int))∧w'.cell? ⟨n2,0,none⟩=some (.int .u64 (delay:Int))∧w'.cell? ⟨n3,0,none⟩=some (.int .u64 (limit:Int))∧w'.cell? ⟨x.b,0,none⟩=some (.int .u64 (x.p.n:Int))∧w'.cell? ⟨x.b,2,none⟩=some (.int .u64 (x.p.sent:Int))∧w'.cell? ⟨b,7,none⟩=some (.int .u64 (s.top:Int))) (by rintro ⟨_,_,h⟩;exact h) (by kernel_rfl) (by kernel_rfl) (HSk.out _ HDr.out) (fun hHeld=>?_)
   simp only [List.size_toArray,List.length_cons,List.length_nil,Nat.reduceAdd,Array.replicate_succ,Array.replicate_zero,List.push_toArray,List.nil_append,List.cons_append]
   refine wpAnyH_take (i:=0) (oi:=⟨some 19,_,_,_,_,_⟩) (v:=?v1) rfl (by kernel_rfl) (by kernel_rfl) (by kernel_rfl) (fun _ _ _ h=>h) (Or.inl ⟨by rfl,?y1⟩) (by assumption) ?r1
   case y1=>intro w hSw;obtain ⟨s0,s1,s2,s3,s4,s5,s6⟩:=hSw;go_simp;(try with_reducible rfl)
   simp only [Act.put,List.setIfInBounds_toArray,List.set_cons_zero,List.set_cons_succ]
   refine wpAnyH_take (i:=1) (oi:=⟨some 20,_,_,_,_,_⟩) (v:=?v2) rfl (by kernel_rfl) (by kernel_rfl) (by kernel_rfl) (fun _ _ _ h=>h) (Or.inl ⟨by rfl,?y2⟩) (by assumption) ?r2
   case y2=>intro w hSw;clear hSw;go_simp;(try with_reducible rfl)
   simp only [Act.put,List.setIfInBounds_toArray,List.set_cons_zero,List.set_cons_succ]
   refine wpAnyH_ready (rs:=[2]) (by kernel_rfl) (by simp) ?_
   refine AllReadyH.cons (o:=⟨some 21,_,_,_,_,_⟩) rfl (fun K hK=>?_) AllReadyH.nil
   go_simp
   refine (HOv.out _ HDr.out).mono ?_
   rintro e W5 ⟨rfl,hb5⟩
   have HB5:=Lib.hid (bel_to HDr.out hb5 HDr.out.size)
   clear hb5
   dsimp only
   refine hK.out _ _ (HSk.out _ HB5.out) (fun hHeld=>?_)
   clear hK
   try simp only [List.setIfInBounds_toArray,List.set_cons_zero,List.set_cons_succ]
   refine wpAnyH_take (i:=3) (oi:=⟨some 22,_,_,_,_,_⟩) (v:=?v3) rfl (by kernel_rfl) (by kernel_rfl) (by kernel_rfl) (fun _ _ _ h=>h) (Or.inl ⟨by rfl,?y3⟩) (by assumption) ?r3
   case y3=>intro w hSw;clear hSw;go_simp;(try with_reducible rfl)
   simp only [Act.put,List.setIfInBounds_toArray,List.set_cons_zero,List.set_cons_succ]
   refine wpAnyH_take (i:=4) (oi:=⟨some 23,_,_,_,_,_⟩) (v:=undef) rfl (by kernel_rfl) (by kernel_rfl) (by kernel_rfl) (fun _ _ _ h=>h) (Or.inr ⟨by rfl,rfl⟩) (by assumption) ?_
   simp only [Act.put,List.setIfInBounds_toArray,List.set_cons_zero,List.set_cons_succ]
   refine wpAnyH_take (i:=5) (oi:=⟨some 24,_,_,_,_,_⟩) (v:=undef) rfl (by kernel_rfl) (by kernel_rfl) (by kernel_rfl) (fun _ _ _ h=>h) (Or.inr ⟨by rfl,rfl⟩) (by assumption) ?_
   simp only [Act.put,List.setIfInBounds_toArray,List.set_cons_zero,List.set_cons_succ]
   refine wpAnyH_take (i:=6) (oi:=⟨some 25,_,_,_,_,_⟩) (v:=undef) rfl (by kernel_rfl) (by kernel_rfl) (by kernel_rfl) (fun _ _ _ h=>h) (Or.inr ⟨by rfl,rfl⟩) (by assumption) ?_
   simp only [Act.put,List.setIfInBounds_toArray,List.set_cons_zero,List.set_cons_succ]
   refine wpAnyH_take (i:=7) (oi:=⟨some 26,_,_,_,_,_⟩) (v:=undef) rfl (by kernel_rfl) (by kernel_rfl) (by kernel_rfl) (fun _ _ _ h=>h) (Or.inr ⟨by rfl,rfl⟩) (by assumption) ?_
   simp only [Act.put,List.setIfInBounds_toArray,List.set_cons_zero,List.set_cons_succ]
   refine wpAnyH_take (i:=8) (oi:=⟨some 27,_,_,_,_,_⟩) (v:=undef) rfl (by kernel_rfl) (by kernel_rfl) (by kernel_rfl) (fun _ _ _ h=>h) (Or.inr ⟨by rfl,rfl⟩) (by assumption) ?_
   simp only [Act.put,List.setIfInBounds_toArray,List.set_cons_zero,List.set_cons_succ]
   refine wpAnyH_take (i:=9) (oi:=⟨some 28,_,_,_,_,_⟩) (v:=undef) rfl (by kernel_rfl) (by kernel_rfl) (by kernel_rfl) (fun _ _ _ h=>h) (Or.inr ⟨by rfl,rfl⟩) (by assumption) ?_
   simp only [Act.put,List.setIfInBounds_toArray,List.set_cons_zero,List.set_cons_succ]
   refine wpAnyH_take (i:=10) (oi:=⟨some 29,_,_,_,_,_⟩) (v:=undef) rfl (by kernel_rfl) (by kernel_rfl) (by kernel_rfl) (fun _ _ _ h=>h) (Or.inr ⟨by rfl,rfl⟩) (by assumption) ?_
   simp only [Act.put,List.setIfInBounds_toArray,List.set_cons_zero,List.set_cons_succ]
   refine wpAnyH_take (i:=11) (oi:=⟨some 30,_,_,_,_,_⟩) (v:=undef) rfl (by kernel_rfl) (by kernel_rfl) (by kernel_rfl) (fun _ _ _ h=>h) (Or.inr ⟨by rfl,rfl⟩) (by assumption) ?_
   simp only [Act.put,List.setIfInBounds_toArray,List.set_cons_zero,List.set_cons_succ]
   refine wpAnyH_take (i:=12) (oi:=⟨some 31,_,_,_,_,_⟩) (v:=undef) rfl (by kernel_rfl) (by kernel_rfl) (by kernel_rfl) (fun _ _ _ h=>h) (Or.inr ⟨by rfl,rfl⟩) (by assumption) ?_
   simp only [Act.put,List.setIfInBounds_toArray,List.set_cons_zero,List.set_cons_succ]
   refine wpAnyH_take (i:=13) (oi:=⟨some 32,_,_,_,_,_⟩) (v:=undef) rfl (by kernel_rfl) (by kernel_rfl) (by kernel_rfl) (fun _ _ _ h=>h) (Or.inr ⟨by rfl,rfl⟩) (by assumption) ?_
   simp only [Act.put,List.setIfInBounds_toArray,List.set_cons_zero,List.set_cons_succ]
   refine wpAnyH_take (i:=14) (oi:=⟨some 33,_,_,_,_,_⟩) (v:=undef) rfl (by kernel_rfl) (by kernel_rfl) (by kernel_rfl) (fun _ _ _ h=>h) (Or.inr ⟨by rfl,rfl⟩) (by assumption) ?_
   simp only [Act.put,List.setIfInBounds_toArray,List.set_cons_zero,List.set_cons_succ]
   refine wpAnyH_take (i:=15) (oi:=⟨some 34,_,_,_,_,_⟩) (v:=undef) rfl (by kernel_rfl) (by kernel_rfl) (by kernel_rfl) (fun _ _ _ h=>h) (Or.inr ⟨by rfl,rfl⟩) (by assumption) ?_
   simp only [Act.put,List.setIfInBounds_toArray,List.set_cons_zero,List.set_cons_succ]
   refine wpAnyH_take (i:=16) (oi:=⟨some 35,_,_,_,_,_⟩) (v:=undef) rfl (by kernel_rfl) (by kernel_rfl) (by kernel_rfl) (fun _ _ _ h=>h) (Or.inr ⟨by rfl,rfl⟩) (by assumption) ?_
   simp only [Act.put,List.setIfInBounds_toArray,List.set_cons_zero,List.set_cons_succ]
   refine wpAnyH_take (i:=17) (oi:=⟨some 36,_,_,_,_,_⟩) (v:=undef) rfl (by kernel_rfl) (by kernel_rfl) (by kernel_rfl) (fun _ _ _ h=>h) (Or.inr ⟨by rfl,rfl⟩) (by assumption) ?_
   simp only [Act.put,List.setIfInBounds_toArray,List.set_cons_zero,List.set_cons_succ]
   refine wpAnyH_take (i:=18) (oi:=⟨some 37,_,_,_,_,_⟩) (v:=undef) rfl (by kernel_rfl) (by kernel_rfl) (by kernel_rfl) (fun _ _ _ h=>h) (Or.inr ⟨by rfl,rfl⟩) (by assumption) ?_
   simp only [Act.put,List.setIfInBounds_toArray,List.set_cons_zero,List.set_cons_succ]
   refine wpAnyH_take (i:=19) (oi:=⟨some 38,_,_,_,_,_⟩) (v:=undef) rfl (by kernel_rfl) (by kernel_rfl) (by kernel_rfl) (fun _ _ _ h=>h) (Or.inr ⟨by rfl,rfl⟩) (by assumption) ?_
   simp only [Act.put,List.setIfInBounds_toArray,List.set_cons_zero,List.set_cons_succ]
   refine wpAnyH_take (i:=20) (oi:=⟨some 39,_,_,_,_,_⟩) (v:=undef) rfl (by kernel_rfl) (by kernel_rfl) (by kernel_rfl) (fun _ _ _ h=>h) (Or.inr ⟨by rfl,rfl⟩) (by assumption) ?_
   simp only [Act.put,List.setIfInBounds_toArray,List.set_cons_zero,List.set_cons_succ]
   refine wpAnyH_take (i:=21) (oi:=⟨some 40,_,_,_,_,_⟩) (v:=undef) rfl (by kernel_rfl) (by kernel_rfl) (by kernel_rfl) (fun _ _ _ h=>h) (Or.inr ⟨by rfl,rfl⟩) (by assumption) ?_
   simp only [Act.put,List.setIfInBounds_toArray,List.set_cons_zero,List.set_cons_succ]
   refine wpAnyH_take (i:=22) (oi:=⟨some 41,_,_,_,_,_⟩) (v:=undef) rfl (by kernel_rfl) (by kernel_rfl) (by kernel_rfl) (fun _ _ _ h=>h) (Or.inr ⟨by rfl,rfl⟩) (by assumption) ?_
   simp only [Act.put,List.setIfInBounds_toArray,List.set_cons_zero,List.set_cons_succ]
   refine wpAnyH_take (i:=23) (oi:=⟨some 42,_,_,_,_,_⟩) (v:=undef) rfl (by kernel_rfl) (by kernel_rfl) (by kernel_rfl) (fun _ _ _ h=>h) (Or.inr ⟨by rfl,rfl⟩) (by assumption) ?_
   simp only [Act.put,List.setIfInBounds_toArray,List.set_cons_zero,List.set_cons_succ]
   refine wpAnyH_take (i:=24) (oi:=⟨some 43,_,_,_,_,_⟩) (v:=undef) rfl (by kernel_rfl) (by kernel_rfl) (by kernel_rfl) (fun _ _ _ h=>h) (Or.inr ⟨by rfl,rfl⟩) (by assumption) ?_
   simp only [Act.put,List.setIfInBounds_toArray,List.set_cons_zero,List.set_cons_succ]
   refine wpAnyH_take (i:=25) (oi:=⟨some 44,_,_,_,_,_⟩) (v:=?v25) rfl (by kernel_rfl) (by kernel_rfl) (by kernel_rfl) (fun _ _ _ h=>h) (Or.inl ⟨by rfl,?y25⟩) (by assumption) ?r25
   case y25=>intro w hSw;clear hSw;go_simp;(try with_reducible rfl)
   simp only [Act.put,List.setIfInBounds_toArray,List.set_cons_zero,List.set_cons_succ]
   refine wpAnyH_take (i:=26) (oi:=⟨some 45,_,_,_,_,_⟩) (v:=?v26) rfl (by kernel_rfl) (by kernel_rfl) (by kernel_rfl) (fun _ _ _ h=>h) (Or.inl ⟨by rfl,?y26⟩) (by assumption) ?r26
   case y26=>intro w hSw;clear hSw;go_simp;(try with_reducible rfl)
   simp only [Act.put,List.setIfInBounds_toArray,List.set_cons_zero,List.set_cons_succ]
   refine wpAnyH_take (i:=27) (oi:=⟨some 46,_,_,_,_,_⟩) (v:=undef) rfl (by kernel_rfl) (by kernel_rfl) (by kernel_rfl) (fun _ _ _ h=>h) (Or.inr ⟨by rfl,rfl⟩) (by assumption) ?_
   simp only [Act.put,List.setIfInBounds_toArray,List.set_cons_zero,List.set_cons_succ]
   refine wpAnyH_take (i:=28) (oi:=⟨some 47,_,_,_,_,_⟩) (v:=undef) rfl (by kernel_rfl) (by kernel_rfl) (by kernel_rfl) (fun _ _ _ h=>h) (Or.inr ⟨by rfl,rfl⟩) (by assumption) ?_
   simp only [Act.put,List.setIfInBounds_toArray,List.set_cons_zero,List.set_cons_succ]
   refine wpAnyH_take (i:=29) (oi:=⟨some 48,_,_,_,_,_⟩) (v:=undef) rfl (by kernel_rfl) (by kernel_rfl) (by kernel_rfl) (fun _ _ _ h=>h) (Or.inr ⟨by rfl,rfl⟩) (by assumption) ?_
   simp only [Act.put,List.setIfInBounds_toArray,List.set_cons_zero,List.set_cons_succ]
   refine wpAnyH_take (i:=30) (oi:=⟨some 49,_,_,_,_,_⟩) (v:=undef) rfl (by kernel_rfl) (by kernel_rfl) (by kernel_rfl) (fun _ _ _ h=>h) (Or.inr ⟨by rfl,rfl⟩) (by assumption) ?_
   simp only [Act.put,List.setIfInBounds_toArray,List.set_cons_zero,List.set_cons_succ]
   refine wpAnyH_take (i:=31) (oi:=⟨some 50,_,_,_,_,_⟩) (v:=undef) rfl (by kernel_rfl) (by kernel_rfl) (by kernel_rfl) (fun _ _ _ h=>h) (Or.inr ⟨by rfl,rfl⟩) (by assumption) ?_
   simp only [Act.put,List.setIfInBounds_toArray,List.set_cons_zero,List.set_cons_succ]
   refine wpAnyH_take (i:=32) (oi:=⟨some 51,_,_,_,_,_⟩) (v:=undef) rfl (by kernel_rfl) (by kernel_rfl) (by kernel_rfl) (fun _ _ _ h=>h) (Or.inr ⟨by rfl,rfl⟩) (by assumption) ?_
   simp only [Act.put,List.setIfInBounds_toArray,List.set_cons_zero,List.set_cons_succ]
   refine wpAnyH_take (i:=33) (oi:=⟨some 52,_,_,_,_,_⟩) (v:=undef) rfl (by kernel_rfl) (by kernel_rfl) (by kernel_rfl) (fun _ _ _ h=>h) (Or.inr ⟨by rfl,rfl⟩) (by assumption) ?_
   simp only [Act.put,List.setIfInBounds_toArray,List.set_cons_zero,List.set_cons_succ]
   refine wpAnyH_take (i:=34) (oi:=⟨some 53,_,_,_,_,_⟩) (v:=undef) rfl (by kernel_rfl) (by kernel_rfl) (by kernel_rfl) (fun _ _ _ h=>h) (Or.inr ⟨by rfl,rfl⟩) (by assumption) ?_
   simp only [Act.put,List.setIfInBounds_toArray,List.set_cons_zero,List.set_cons_succ]
   refine wpAnyH_take (i:=35) (oi:=⟨some 54,_,_,_,_,_⟩) (v:=undef) rfl (by kernel_rfl) (by kernel_rfl) (by kernel_rfl) (fun _ _ _ h=>h) (Or.inr ⟨by rfl,rfl⟩) (by assumption) ?_
   simp only [Act.put,List.setIfInBounds_toArray,List.set_cons_zero,List.set_cons_succ]
   refine wpAnyH_take (i:=36) (oi:=⟨some 55,_,_,_,_,_⟩) (v:=?v36) rfl (by kernel_rfl) (by kernel_rfl) (by kernel_rfl) (fun _ _ _ h=>h) (Or.inl ⟨by rfl,?y36⟩) (by assumption) ?r36
   case y36=>intro w hSw;clear hSw;go_simp;(try with_reducible rfl)
   simp only [Act.put,List.setIfInBounds_toArray,List.set_cons_zero,List.set_cons_succ]
   refine wpAnyH_done (by kernel_rfl) ?_ _
   have HT6:=Lib.hid (HI.out.below (LBox.k _ _ _ _ _ _ _ _ _ _ _ _ _ _) HB5.out)
   have q7:=HT6.out.box.q7.cell (i:=0) rfl
   obtain ⟨v,hv1,hv2,hv3⟩:=HT6.out.out
   have HV1:=Lib.hid hv1
   have HV2:=Lib.hid hv2
   have HV3:=Lib.hid hv3
   have HTK:=Lib.hid (take_any b rb g n5 n6 n4 x _ v _ W5 HT6.out.led (LS.take_ok HS.out _) HXt.out HXg.out HT6.out.box.q5 HT6.out.box.q6 hv1 hv2 HPl.out)
   clear hv1 hv2 hv3 HOv HPd HPm
   gi_wp2_with fail
   refine ⟨trivial,?_⟩
   refine (CallsIn.inRound l (callsIn_wide.2 HTK.out)).mono ?_
   intro e W7 hp
   obtain rfl:=hp.e
   have RES:=Lib.hid (HT6.out.take (LBox.k _ _ _ _ _ _ _ _ _ _ _ _ _ _) HXt.out HV1.out HV2.out HV3.out hn4 (.inl (by simp [blocksL])) (.inl (by simp only [blocksL,List.mem_cons];exact .inr (.inr (.inr (List.mem_map_of_mem HX.out))))) hp)
   clear hp HTK q7
   gi_wp2
   obtain ⟨t1,t2⟩:=LT_yes (pre:=pre) HLb.out
   refine ⟨(kf_of_fr (Fr.of_below HB5.out []) (fun y hy=>by cases hy)).trans (RES.out.2 _),?_⟩
   show TkS w b rb g n4 _ (s.take (LT s now delay limit (pre ++ [x]))) (LPk s now delay limit (pre ++ [x])) _ _
   rw [t1,t2,LS.take_append]
   exact RES.out.1
 case done=>
  rintro D xs W hD hDl rfl hI hK
  obtain ⟨v,hv1,hv2,hv3⟩:=hI.out
  have c0:=hI.box.q0.cell (i:=0) rfl
  have HI:=Lib.hid hI
  have HV2:=Lib.hid hv2
  have HV3:=Lib.hid hv3
  have HV1:=Lib.hid hv1
  have HK:=Lib.hid hK
  have HD:=Lib.hid hD
  have HNr:=Lib.hid (narrow_any b rb g _ W hI.led (LS.take_ok HS.out _))
  clear hI hv1 hv2 hv3 hK hD hDl HI0 HSeq HYl
  gi_wp2_with fail
  refine ⟨trivial,?_⟩
  refine (callsIn_wide.2 HNr.out).mono ?_
  intro e W2 hn
  obtain rfl:=hn.e
  have HK2:Hid (W2.heap[D]? =some (.deferred (some []))):=Lib.hid ((kf_of_fr (B:=0) hn.fr (fun y hy=>.inr (HI.out.led.cells y hy))).same _ _ (Nat.zero_le _) HK.out rfl)
  have c4:=(HV1.out.fr hn.fr (HI.out.led.off HV1.out (by decide) (by decide) (by decide) (by decide))).cell (i:=0) rfl
  have HE:=Lib.hid (lost_end (D:=D) HS.out (by unfold LT;rw [yK_all HS.out.pk];exact outP_take HS.out _) (by unfold LPk;rw [yK_all HS.out.pk];exact outP_filter s _) HI.out HV2.out HV3.out hn (Nat.le_trans HB4.out.size HD.out) HK2.out rfl)
  clear hn c0 HNr
  gi_wp2
  refine ⟨by simp,.inl ⟨_,_,rfl,run_takeDeferred HK2.out,?_⟩⟩
  refine ⟨v,?_,HE.out⟩
  simp [results,Tryz.f102]
 case stop=>
  rintro D c pre W hD hDl hpre ⟨⟨rfl,p0,he1,he2,he3⟩,hI⟩ hK
  rw [he2,he3] at hI
  have HE1:=Lib.hid he1
  clear he1 he2 he3
  obtain ⟨v,hv1,hv2,hv3⟩:=hI.out
  have c0:=hI.box.q0.cell (i:=0) rfl
  have HI:=Lib.hid hI
  have HV2:=Lib.hid hv2
  have HV3:=Lib.hid hv3
  have HV1:=Lib.hid hv1
  have HK:=Lib.hid hK
  have HD:=Lib.hid hD
  have HNr:=Lib.hid (narrow_any b rb g _ W hI.led (LS.take_ok HS.out _))
  clear hI hv1 hv2 hv3 hK hD hDl HI0 HSeq HYl
  gi_wp2_with fail
  refine ⟨trivial,?_⟩
  refine (callsIn_wide.2 HNr.out).mono ?_
  intro e W2 hn
  obtain rfl:=hn.e
  have HK2:Hid (W2.heap[D]? =some (.deferred (some []))):=Lib.hid ((kf_of_fr (B:=0) hn.fr (fun y hy=>.inr (HI.out.led.cells y hy))).same _ _ (Nat.zero_le _) HK.out rfl)
  have c4:=(HV1.out.fr hn.fr (HI.out.led.off HV1.out (by decide) (by decide) (by decide) (by decide))).cell (i:=0) rfl
  have HE:=Lib.hid (lost_end (D:=D) HS.out (by unfold LT;rw [← HE1.out,yK_all HS.out.pk];exact outP_take HS.out _) (by unfold LPk;rw [← HE1.out,yK_all HS.out.pk];exact outP_filter s _) HI.out HV2.out HV3.out hn (Nat.le_trans HB4.out.size HD.out) HK2.out rfl)
  clear hn c0 HNr
  gi_wp2
  refine ⟨by simp,.inl ⟨_,_,rfl,run_takeDeferred HK2.out,?_⟩⟩
  refine ⟨v,?_,HE.out⟩
  simp [results,Tryz.f102]
end Go.Proofs.YteoepabmnbkabaaGreatDoor
