/- 4 texts put together: what each one says stands ahead of it. -/
import Derived.Test.YteoepabmnbkabaaGreatDoorKS35
import Derived.Test.YteoepabmnbkabaaGreatDoorKS41
import Derived.Test.YteoepabmnbkabaaGreatDoorKS07
set_option linter.unusedVariables false
namespace Go.Proofs.YteoepabmnbkabaaGreatDoor
open Go.RowKit Go.Shelf
theorem filter_two {l:List Kp} (hr:l.Pairwise fun x y=>x.p.n < y.p.n) (f g:Kp→Bool) (h:∀x y,f x=true→g y=true→x.p.n < y.p.n):l.filter (fun k=>f k || g k)=l.filter f ++ l.filter g:=by
 induction l with
 | nil=>rfl
 | cons x t ih=>
   have hp:=List.pairwise_cons.1 hr
   rw [List.filter_cons,List.filter_cons,List.filter_cons,ih hp.2]
   cases hf:f x
   ·cases hg:g x
    ·simp
    ·have e:t.filter f=[]:=by
      rw [List.filter_eq_nil_iff]
      intro y hy hfy
      have h1:=h y x hfy hg
      have h2:=hp.1 y hy
      omega
     simp [e]
   ·cases hg:g x
    ·simp
    ·have:=h x x hf hg
     omega
def inQp (Q:List Rn) (p:Pk):Bool:=Q.any fun r=>decide (r.a≤p.n) && decide (p.n≤r.b)
def AK (s:LS) (Q:List Rn):List Kp:=(outK s.ks).filter fun k=>inQp Q k.p
def LS.ack (s:LS) (A:List Kp):LS:={s.take (A.map Kp.b) with top:=A.foldl (fun t k=>max t k.p.n) s.top,topped:=s.topped || !A.isEmpty}
theorem LS.ack_nil (s:LS):s.ack []=s:=by
 have:s.take []=s:=LS.take_nil s
 unfold LS.ack
 simp [this]
theorem LS.ack_ks (s:LS) (A:List Kp):(s.ack A).ks=markK (A.map Kp.b) s.ks:=rfl
theorem LS.ack_snoc (s:LS) (A:List Kp) (x:Kp):({(s.ack A).take [x.b] with top:=max (s.ack A).top x.p.n,topped:=true}:LS)=s.ack (A ++ [x]):=by
 unfold LS.ack LS.take
 simp [List.map_append,markK_append,List.foldl_append]
theorem fold_le {A:List Kp}:∀{t m:Nat},t≤m→(∀k∈A,k.p.n≤m)→A.foldl (fun t k=>max t k.p.n) t≤m:=by
 induction A with
 | nil=>intro t m h _;exact h
 | cons x r ih=>
   intro t m h hA
   exact ih (Nat.max_le.2 ⟨h,hA x List.mem_cons_self⟩) fun k hk=>hA k (List.mem_cons_of_mem _ hk)
theorem LS.ack_ok {s:LS} (h:s.ok) {A:List Kp} (hA:∀k∈A,k∈s.ks):(s.ack A).ok:=by
 have k:=LS.take_ok h (A.map Kp.b)
 refine ⟨k.nodup,k.rise,k.lt,k.pk,k.mono,k.next,k.reorder,fold_le h.top fun x hx=>(h.pk x (hA x hx)).n,fun ht=>?_⟩
 have h1:(s.topped || !A.isEmpty)=false:=ht
 rw [Bool.or_eq_false_iff] at h1
 cases A with
 | nil=>exact h.un h1.1
 | cons x r=>simp at h1
theorem AK_sub (s:LS) (Q:List Rn):∀k∈AK s Q,k∈s.ks:=fun k hk=>(outK_sub s.ks).mem (List.mem_filter.1 hk).1
theorem kp_inj {l:List Kp} (hn:(l.map Kp.b).Nodup) {x y:Kp} (hx:x∈l) (hy:y∈l) (e:x.b=y.b):x=y:=by
 obtain ⟨i,hi,rfl⟩:=List.mem_iff_getElem.1 hx
 obtain ⟨j,hj,rfl⟩:=List.mem_iff_getElem.1 hy
 have key:∀{p q:Nat} (hp:p < l.length) (hq:q < l.length),p < q→l[p].b≠l[q].b:=fun {p q} hp hq hpq=>by
  have:=List.pairwise_iff_getElem.1 hn p q (by rw [List.length_map];exact hp) (by rw [List.length_map];exact hq) hpq
  rwa [List.getElem_map,List.getElem_map] at this
 rcases Nat.lt_trichotomy i j with d | d | d
 ·exact absurd e (key hi hj d)
 ·subst d;rfl
 ·exact absurd e.symm (key hj hi d)
theorem AK_step {s:LS} (hs:s.ok) {Q:List Rn} (hQ:Canon Q) {k:Nat} (hk:k < Q.length):
  AK s (Q.take (k + 1))=AK s (Q.take k) ++ yK (s.ack (AK s (Q.take k))).ks (Q.getD k Itm.z).a (Q.getD k Itm.z).b:=by
 have er:Q.getD k Itm.z=Q[k]:=by rw [List.getD_eq_getElem?_getD,List.getElem?_eq_getElem hk];rfl
 have hap:∀r∈Q.take k,r.b + 1 < (Q.getD k Itm.z).a:=by
  intro r hr
  rw [er]
  obtain ⟨i,hi,rfl⟩:=List.mem_iff_getElem.1 hr
  rw [List.length_take] at hi
  rw [List.getElem_take]
  exact List.pairwise_iff_getElem.1 hQ.apart i k (by omega) hk (by omega)
 have e2:Q.take (k + 1)=Q.take k ++ [Q.getD k Itm.z]:=by rw [List.take_succ_eq_append_getElem hk,er]
 generalize hr0:Q.getD k Itm.z=r at *
 have hy:yK (s.ack (AK s (Q.take k))).ks r.a r.b=(outK s.ks).filter (fun x=>decide (r.a≤x.p.n) && decide (x.p.n≤r.b)):=by
  have e3:yK (s.ack (AK s (Q.take k))).ks r.a r.b=(outK (s.ack (AK s (Q.take k))).ks).filter (fun x=>decide (r.a≤x.p.n) && decide (x.p.n≤r.b)):=by
   unfold yK outK
   rw [List.filter_filter]
   rfl
  rw [e3,LS.ack_ks,outK_mark,List.filter_filter]
  apply List.filter_congr
  intro x hx
  by_cases c:(decide (r.a≤x.p.n) && decide (x.p.n≤r.b))=true
  ·rw [c,Bool.true_and,decide_eq_true_eq]
   intro hm
   obtain ⟨y,hy,e⟩:=List.mem_map.1 hm
   obtain ⟨hy1,hy2⟩:=List.mem_filter.1 hy
   obtain rfl:=kp_inj (outK_nodup hs) hy1 hx e
   unfold inQp at hy2
   obtain ⟨r',hr',h'⟩:=List.any_eq_true.1 hy2
   have:=hap r' hr'
   simp at c h'
   omega
  ·have c':(decide (r.a≤x.p.n) && decide (x.p.n≤r.b))=false:=by simpa using c
   rw [c',Bool.false_and]
 rw [hy,e2]
 have e4:AK s (Q.take k ++ [r])=(outK s.ks).filter (fun x=>inQp (Q.take k) x.p || (decide (r.a≤x.p.n) && decide (x.p.n≤r.b))):=by
  unfold AK
  apply List.filter_congr
  intro x _
  unfold inQp
  rw [List.any_append]
  simp
 rw [e4,filter_two (hs.rise.sublist (outK_sub s.ks))]
 ·rfl
 ·intro x y hx hy
  unfold inQp at hx
  obtain ⟨r',hr',h'⟩:=List.any_eq_true.1 hx
  have:=hap r' hr'
  simp at h' hy
  omega
theorem take_rdr2 {W:World} {b rb g bl br fr to:Nat} {s':LS} {ks:List Kp} {T:List Nat} {pre:List Kp} (h:LAt W b rb g s') (e0:s'.ks=markK T ks) (hT:∀t∈T,t∈pre.map Kp.b) (hl:Blk W bl 64 #[.pointer (some ⟨b,0,none⟩)]) (hr:Blk W br 59 #[.int .u64 (fr:Int),.int .u64 (to:Int)]):RdR ks b rb g bl br fr to pre W:=by
 have e:itemsK s'.ks=itemsK ks:=by
  rw [e0]
  have:=congrArg (List.map (· + 1)) (markK_b T ks)
  rw [List.map_map,List.map_map] at this
  exact this
 refine ⟨hl,hr,⟨⟨_,h.head,rfl⟩,by rw [← e];exact h.row,fun k hk=>?_⟩,fun k hk hp=>?_⟩
 ·have hk':=h.kept _ (by rw [e0];exact markK_of (B:=T) hk)
  exact ⟨_,hk'⟩
 have:=h.kept _ (by rw [e0];exact markK_of (B:=T) hk)
 have hn:k.b ∉ T:=fun hm=>hp (hT _ hm)
 simp only [hn,decide_false,Bool.or_false] at this
 exact this
def topW (W:World) (b t:Nat):World:=(W.setCell ⟨b,7,none⟩ (.int .u64 (t:Int))).setCell ⟨b,8,none⟩ (.bool true)
theorem topW_other {W:World} {b t k:Nat} (h:k≠b):(topW W b t).heap[k]? =W.heap[k]?:=by
 unfold topW
 rw [Below.heap_setCell _ _ _ _ h,Below.heap_setCell _ _ _ _ h]
theorem LAt.topW {W:World} {b rb g:Nat} {s:LS} (h:LAt W b rb g s) (t:Nat):LAt (topW W b t) b rb g {s with top:=t,topped:=true}:=by
 obtain ⟨c1,hr1⟩:=h.row.head
 obtain ⟨c2,hr2⟩:=h.row.body
 refine ⟨(h.head.set 7 _).set 8 _,h.row.blk2 fun x T cs hx hb=>topW_other ?_,fun k hk=>?_⟩
 ·rcases hx with rfl | rfl
  ·exact hr1.ty h.head (by decide)
  ·exact hr2.ty h.head (by decide)
 ·have:=h.kept k hk
  unfold Blk
  rw [topW_other (this.ty h.head (by decide))]
  exact this
theorem TkS.topW {w:World} {b rb g n4:Nat} {B0:List Nat} {s:LS} {l:List Pk} {Bx:World→Prop} {W:World} (h:TkS w b rb g n4 B0 s l Bx W) (hB:BoxK Bx) (hb:b∈B0) (t:Nat):
  TkS w b rb g n4 B0 {s with top:=t,topped:=true} l Bx (topW W b t)∧∀B,KeepsFrom B W (topW W b t):=by
 obtain ⟨v,h1,h2,h3⟩:=h.out
 have hd:=h.led.head
 refine ⟨⟨h.led.topW t,hB W _ h.box fun x T cs hx hT=>topW_other (hx.ty hd hT.1),⟨v,?_,h2.same fun k cs _ hk=>topW_other (hk.ty hd (by decide)),h3⟩,(h.fr.set (c:=b) (.inl hb) 7 _).set (c:=b) (.inl hb) 8 _⟩,fun B=>kf_of_fr (L:=[b]) (((Fr.refl W [b]).set (c:=b) (.inl (by simp)) 7 _).set (c:=b) (.inl (by simp)) 8 _) (fun y hy=>by simp at hy;subst hy;exact .inr ⟨_,_,hd⟩)⟩
 unfold Blk
 rw [topW_other (h1.ty hd (by decide))]
 exact h1
structure ABox (b n0 n5 n6 n8 n9:Nat) (v:Value) (Q:List Rn) (W:World):Prop where
 q0:Blk W n0 64 #[.pointer (some ⟨b,0,none⟩)]
 q5:Blk W n5 64 #[.pointer (some ⟨b,0,none⟩)]
 q6:Blk W n6 197 #[.pointer (some ⟨n8,0,none⟩)]
 q9:Blk W n9 195 #[.func (.func 197) #[] #[.pointer (some ⟨n5,0,none⟩),.pointer (some ⟨n6,0,none⟩)]]
 rr:RR W v Q
theorem ABox.k (b n0 n5 n6 n8 n9:Nat) (v:Value) (Q:List Rn):BoxK (ABox b n0 n5 n6 n8 n9 v Q):=fun W W' h k=>by
 have mv:∀{x T cs},Blk W x T cs→boxT T→Blk W' x T cs:=fun {x T cs} hb hT=>by unfold Blk;rw [k x T cs hb hT];exact hb
 exact ⟨mv h.q0 (by unfold boxT;decide),mv h.q5 (by unfold boxT;decide),mv h.q6 (by unfold boxT;decide),mv h.q9 (by unfold boxT;decide),h.rr.same fun g cs _ hb=>k g _ cs hb (by unfold boxT;decide)⟩
structure RBox (b n0 n5 n6 n8 n9:Nat) (v:Value) (Q:List Rn) (bl br fr to:Nat) (W:World):Prop where
 bx:ABox b n0 n5 n6 n8 n9 v Q W
 ql:Blk W bl 64 #[.pointer (some ⟨b,0,none⟩)]
 qr:Blk W br 59 #[.int .u64 (fr:Int),.int .u64 (to:Int)]
theorem RBox.k (b n0 n5 n6 n8 n9:Nat) (v:Value) (Q:List Rn) (bl br fr to:Nat):BoxK (RBox b n0 n5 n6 n8 n9 v Q bl br fr to):=fun W W' h k=>by
 have mv:∀{x T cs},Blk W x T cs→boxT T→Blk W' x T cs:=fun {x T cs} hb hT=>by unfold Blk;rw [k x T cs hb hT];exact hb
 exact ⟨ABox.k _ _ _ _ _ _ _ _ W W' h.bx k,mv h.ql (by unfold boxT;decide),mv h.qr (by unfold boxT;decide)⟩
theorem TkS.unbox {w:World} {b rb g n4:Nat} {B0:List Nat} {s:LS} {l:List Pk} {Bx By:World→Prop} {W:World} (h:TkS w b rb g n4 B0 s l Bx W) (k:By W):TkS w b rb g n4 B0 s l By W:=⟨h.led,k,h.out,h.fr⟩
structure Marks (B:Nat) (DS:List Nat) (W:World):Prop where
 nodup:DS.Nodup
 at_:∀D∈DS,B≤D∧W.heap[D]? =some (.deferred (some []))
theorem Marks.nil (B:Nat) (W:World):Marks B [] W:=⟨List.nodup_nil,fun D h=>by cases h⟩
theorem Marks.lt {B:Nat} {DS:List Nat} {W:World} (h:Marks B DS W):∀D∈DS,D < W.heap.size:=fun D hD=>(Array.getElem?_eq_some_iff.1 (h.at_ D hD).2).1
theorem Marks.keep {B:Nat} {DS:List Nat} {W W':World} (h:Marks B DS W) (k:KeepsFrom B W W'):Marks B DS W':=⟨h.nodup,fun D hD=>⟨(h.at_ D hD).1,k.same _ _ (h.at_ D hD).1 (h.at_ D hD).2 rfl⟩⟩
theorem Marks.below {B:Nat} {DS:List Nat} {W W':World} (h:Marks B DS W) (k:Below W.heap.size W W'):Marks B DS W':=⟨h.nodup,fun D hD=>⟨(h.at_ D hD).1,(k.block D (h.lt D hD)).trans (h.at_ D hD).2⟩⟩
theorem Marks.cons {B D:Nat} {DS:List Nat} {W:World} (h:Marks B DS W) (h1:D ∉ DS) (h2:B≤D) (h3:W.heap[D]? =some (.deferred (some []))):Marks B (D :: DS) W:=⟨List.nodup_cons.2 ⟨h1,h.nodup⟩,fun E hE=>by
 rcases List.mem_cons.1 hE with rfl | hE
 ·exact ⟨h2,h3⟩
 ·exact h.at_ E hE⟩
theorem leaves_marks {F:Fence} {n:Nat} {fn:Func} {tmps:Array Value} {R:Ending→World→Prop} {B:Nat} (Q:World→Prop) (hQ:∀W D,Q W→B≤D→W.heap[D]? =some (.deferred (some []))→Q (W.putObj D (.deferred none))) (hR:∀W,Q W→LeavesIn F n Tryz.prog fn tmps R [] .returning W):
  ∀DS W,Marks B DS W→Q W→LeavesInM F n Tryz.prog fn tmps R (DS.map mk1) .returning W:=by
 intro DS
 induction DS with
 | nil=>intro W _ h;exact hR W h
 | cons D DS ih=>
   intro W hm h
   obtain ⟨h1,h2⟩:=hm.at_ D List.mem_cons_self
   have hn:=List.nodup_cons.1 hm.nodup
   refine ⟨by simp,.inl ⟨_,_,rfl,run_takeDeferred h2,ih _ ⟨hn.2,fun E hE=>?_⟩ (hQ W D h h1 h2)⟩⟩
   obtain ⟨k1,k2⟩:=hm.at_ E (List.mem_cons_of_mem _ hE)
   exact ⟨k1,(World.putObj_heap_other (fun (e:E=D)=>hn.1 (e▸hE))).trans k2⟩
end Go.Proofs.YteoepabmnbkabaaGreatDoor

set_option linter.unusedVariables false
namespace Go.Proofs.YteoepabmnbkabaaGreatDoor
open Go.RowKit Go.Shelf
attribute [local go_sem] Oper.semAt_some
theorem fput_all (b:Nat) (l:List Rn) (p:Option Addr) (c:Nat) (w:World) (hb:Blk w b 184 #[.slice none 0 0]) (hl:Its w p l) (hm:l.length≤1000) (ho:l.all okB=true) (hu:∀r∈l,r.u64):
  Calls Tryz.prog 59 #[.pointer (some ⟨b,0,none⟩),.slice p l.length c] w (PutNew w b l):=by
 by_cases hp:0 < l.length
 ·exact fput_ok b l p c w hb hl hp hm ho hu
 ·obtain rfl:l=[]:=List.eq_nil_of_length_eq_zero (by omega)
  refine (fput_nil b p c w).mono ?_
  rintro e w' ⟨rfl,k⟩
  exact ⟨rfl,⟨_,[],hb.below k hb.lt,.inl ⟨rfl,rfl⟩,⟨⟨List.Pairwise.nil,fun r h=>by cases h⟩,fun n=>by simp [inR_nil],by simp⟩,by simp⟩,Fr.of_below k _⟩
structure AckPost (w:World) (b rb g:Nat) (s:LS) (Q:List Rn) (e:Ending) (w':World):Prop where
 e:∃v,e=.returned (.tuple #[v,.int .i64 0])∧PR w' v ((outP s.ks).filter (inQp Q))∧∀k,v.ownBlock=some k→w.heap.size≤k
 led:LedEnd w b rb g s (fun s'=>outP s'.ks=(outP s.ks).filter (fun p=>!inQp Q p)∧s'.reorder=s.reorder∧s'.next=s.next∧s'.top=((outP s.ks).filter (inQp Q)).foldl (fun t p=>max t p.n) s.top∧s'.topped=(s.topped || !((outP s.ks).filter (inQp Q)).isEmpty)) w'
theorem AckPost.mark {w W:World} {b rb g D:Nat} {s:LS} {Q:List Rn} {e:Ending} (h:AckPost w b rb g s Q e W) (hD:w.heap.size≤D) (hK:W.heap[D]? =some (.deferred (some []))):AckPost w b rb g s Q e (W.putObj D (.deferred none)):=by
 have hg:=grownBy_putObj' W D (.deferred none)
 have hk:=kept_grown hg (fun r e=>by cases e;exact ⟨_,hK,rfl⟩)
 obtain ⟨v,h1,h2,h3⟩:=h.e
 obtain ⟨⟨rb',g',s',k1,k2,k3,k4⟩,k5⟩:=h.led
 exact ⟨⟨v,h1,h2.same (fun k cs _ hb=>hk k _ cs hb),h3⟩,⟨⟨rb',g',s',k1.keepX (fun x T cs _ hb=>hk x T cs hb),k2,k3,k4⟩,fr_grown k5 hg (fun r e=>by cases e;exact hD) (Nat.le_refl _)⟩⟩
theorem RR.form0 {w:World} {v:Value} {l:List Rn} (h:RR w v l):∃p c,v=.slice p l.length c:=by
 rcases h.form with ⟨e,k⟩ | ⟨g,cap,e,_⟩
 ·exact ⟨none,0,by rw [e,k];rfl⟩
 ·exact ⟨_,cap,e⟩
theorem marks_own {α:Type} {B B0:Nat} {DS:List Nat} (h:∀D∈DS,D < B):OwnFrom B (fun (_:List α) W=>Marks B0 DS W):=fun pre X Y row hm hg hr=>⟨hm.nodup,fun D hD=>⟨(hm.at_ D hD).1,(hg.block D (hm.lt D hD) (fun e=>by have:=(hr D e.symm).1;have:=h D hD;omega)).trans (hm.at_ D hD).2⟩⟩
theorem ack_round {w W8 W9:World} {b rb g n8:Nat} {B0 DS:List Nat} {s:LS} {A:List Kp} {x:Kp} {Bx:World→Prop} (hB:BoxK Bx) (hb:b∈B0) (h:TkS w b rb g n8 B0 ((s.ack A).take [x.b]) (A.map Kp.p ++ [x.p]) Bx W9) (hk:∀B,KeepsFrom B W8 W9) (hm:Marks w.heap.size DS W8) (B:Nat):
  KeepsFrom B W8 ((W9.drew.setCell ⟨b,7,none⟩ (.int .u64 (max ((s.ack A).top:Int) (x.p.n:Int)))).setCell ⟨b,8,none⟩ (.bool true))∧
   TkS w b rb g n8 B0 (s.ack (A ++ [x])) ((A ++ [x]).map Kp.p) Bx ((W9.drew.setCell ⟨b,7,none⟩ (.int .u64 (max ((s.ack A).top:Int) (x.p.n:Int)))).setCell ⟨b,8,none⟩ (.bool true))∧
   Marks w.heap.size DS ((W9.drew.setCell ⟨b,7,none⟩ (.int .u64 (max ((s.ack A).top:Int) (x.p.n:Int)))).setCell ⟨b,8,none⟩ (.bool true)):=by
 have hd:=(Drawn.drew W9).below W9.heap.size
 obtain ⟨h1,h2⟩:=(h.below hB hd).topW hB hb (max (s.ack A).top x.p.n)
 rw [LS.ack_snoc] at h1
 unfold topW at h1 h2
 have em:((max (s.ack A).top x.p.n:Nat):Int)=max ((s.ack A).top:Int) (x.p.n:Int):=by omega
 rw [em] at h1 h2
 have kk:∀B,KeepsFrom B W8 ((W9.drew.setCell ⟨b,7,none⟩ (.int .u64 (max ((s.ack A).top:Int) (x.p.n:Int)))).setCell ⟨b,8,none⟩ (.bool true)):=fun B=>(hk B).trans ((kf_of_fr (Fr.of_below hd []) (fun y hy=>by cases hy)).trans (h2 B))
 refine ⟨kk B,?_,hm.keep (kk _)⟩
 rw [List.map_append]
 exact h1
theorem LS.ack_ks2 (s:LS) (A pre:List Kp):(s.ack (A ++ pre)).ks=markK (pre.map Kp.b) (s.ack A).ks:=by rw [LS.ack_ks,LS.ack_ks,List.map_append,markK_append]
theorem AK_zero (s:LS) (Q:List Rn):AK s (Q.take 0)=[]:=by
 unfold AK inQp
 simp
theorem ack_map {s:LS} {Q:List Rn}:(AK s Q).map Kp.p=(outP s.ks).filter (inQp Q):=outP_filter s (inQp Q)
theorem ack_top {A:List Kp}:∀t:Nat,A.foldl (fun t k=>max t k.p.n) t=(A.map Kp.p).foldl (fun t p=>max t p.n) t:=by
 induction A with
 | nil=>intro t;rfl
 | cons x r ih=>intro t;exact ih _
theorem ack_end {w W W2:World} {b rb g n4:Nat} {s:LS} {Bx:World→Prop} {v:Value} {Q:List Rn} (hs:s.ok)
  (h:TkS w b rb g n4 (blocksL b rb g s) (s.ack (AK s Q)) ((AK s Q).map Kp.p) Bx W) (hv2:PR W v ((AK s Q).map Kp.p)) (hv3:∀k,v.ownBlock=some k→w.heap.size≤k)
  (hn:NarPost W b rb g (s.ack (AK s Q)) (.returned (.tuple #[])) W2):AckPost w b rb g s Q (.returned (.tuple #[v,.int .i64 0])) W2:=by
 obtain ⟨rb',g',ks',n1,n2,n3,n4'⟩:=hn.led
 have eb:blocksL b rb g (s.ack (AK s Q))=blocksL b rb g s:=by unfold blocksL;rw [LS.ack_ks,markK_b]
 rw [eb] at n4'
 have hok:=LS.sub_ok (LS.ack_ok hs (AK_sub s Q)) n2
 have hfr:Fr w W2 (blocksL b rb g s):=h.fr.trans hn.fr (fun x hx=>.inl (by rw [eb] at hx;exact hx))
 have e1:outP ks'=(outP s.ks).filter (fun p=>!inQp Q p):=by
  unfold outP
  rw [n3]
  exact outP_take hs (inQp Q)
 have v2:PR W2 v ((AK s Q).map Kp.p):=hv2.fr hn.fr (fun k e=>by
  obtain ⟨cs,hc⟩:=hv2.blk e
  exact h.led.off hc (by decide) (by decide) (by decide) (by decide))
 have hsz:=h.fr.size
 rw [ack_map] at v2
 refine ⟨⟨v,rfl,v2,hv3⟩,⟨⟨rb',g',(s.ack (AK s Q)).with_ ks',n1,hok,⟨e1,rfl,rfl,?_,?_⟩,fun x hx=>?_⟩,hfr⟩⟩
 ·show (AK s Q).foldl (fun t k=>max t k.p.n) s.top=_
  rw [ack_top,ack_map]
 ·show (s.topped || !(AK s Q).isEmpty)=_
  rw [← ack_map,List.isEmpty_map]
 rcases n4' x hx with c | c
 ·exact .inl c
 ·right;omega
theorem AK_prefix {s:LS} {Q:List Rn} {k fr to:Nat} {pre:List Kp} {x:Kp} (h:pre ++ [x] <+:yK (s.ack (AK s (Q.take k))).ks fr to) (hs:s.ok):∀y∈AK s (Q.take k) ++ (pre ++ [x]),y∈s.ks:=by
 intro y hy
 rcases List.mem_append.1 hy with hy | hy
 ·exact AK_sub s _ y hy
 ·have hm:=List.mem_filter.1 (h.mem hy)
  obtain ⟨z,hz,e1,e2,e3⟩:=markK_mem hm.1
  have hg:y.gone=false:=by have:=hm.2;simp [inK] at this;exact this.2
  rw [hg] at e3
  have hzg:z.gone=false:=by
   cases hc:z.gone
   ·rfl
   ·rw [hc] at e3;simp at e3
  have:z=y:=by cases z;cases y;simp_all
  exact this▸hz
set_option maxRecDepth 100000 in
set_option maxHeartbeats 4000000 in
theorem ack_any (b rb g:Nat) (p:Option Addr) (c:Nat) (l:List Rn) (s:LS) (w:World) (h:LAt w b rb g s) (hs:s.ok) (hl:Its w p l) (hm:l.length≤1000) (ho:l.all okB=true) (hu:∀r∈l,r.u64):
  Calls Tryz.prog 60 #[.pointer (some ⟨b,0,none⟩),.slice p l.length c] w fun e w'=>∃Q,Puts [] l Q∧AckPost w b rb g s Q e w':=by
 have HH:=Lib.hid h
 have HS:=Lib.hid hs
 have HI:=Lib.hid hl
 have HN:Hid (∀W,Calls Tryz.prog 58 #[] W fun e w'=>e=.returned (.pointer (some ⟨W.heap.size,0,none⟩))∧Blk w' W.heap.size 184 #[.slice none 0 0]∧Below W.heap.size W w'):=Lib.hid fset_New
 have HPt:=Lib.hid (fun bb W (k1:Blk W bb 184 #[.slice none 0 0]) (k2:Its W p l)=>fput_all bb l p c W k1 k2 hm ho hu)
 have HM:=Lib.hid hm
 clear h hs hl ho hu hm
 generalize hll:l.length=ll at *
 have HLL:=Lib.hid hll
 clear hll
 refine (callsIn_wide (n:=6)).1 ?_
 refine callsIn_of_wp_marks Tryz.func60 rfl trivial ?_ rfl
 simp only [Tryz.ntmps60,List.size_toArray,List.length_cons,List.length_nil,Nat.reduceAdd,Nat.reduceSub,Array.replicate_succ,Array.replicate_zero,List.push_toArray,List.append_toArray,List.nil_append,List.cons_append]
 gi_wp2_with fail
 have HB1:Hid (Below w.heap.size w (w.alloc (.cells #[.pointer (some ⟨b,0,none⟩)] 64))):=Lib.hid ((Below.refl _ _).alloc (Nat.le_refl _) _)
 have Q0:Hid (Blk (w.alloc (.cells #[.pointer (some ⟨b,0,none⟩)] 64)) w.heap.size 64 #[.pointer (some ⟨b,0,none⟩)]):=Lib.hid (Blk.new _ _ _)
 generalize (w.alloc (.cells #[.pointer (some ⟨b,0,none⟩)] 64))=w1 at *
 generalize hn0:w.heap.size=n0 at Q0 ⊢
 have HN0:=Lib.hid hn0
 clear hn0
 refine ⟨trivial,?_⟩
 refine (callsIn_wide.2 (HN.out w1)).mono ?_
 rintro e w2 ⟨rfl,hb,hbe⟩
 have HB2:=Lib.hid (bel_to HB1.out hbe HB1.out.size)
 have P0:=Lib.hid (Q0.out.keep hbe)
 have PS:=Lib.hid hb
 have HSz:Hid (w.heap.size≤w1.heap.size):=Lib.hid HB1.out.size
 clear hb hbe Q0 HB1 HN
 generalize w1.heap.size=ns at *
 gi_wp2_with fail
 refine ⟨trivial,?_⟩
 refine (callsIn_wide.2 (HPt.out ns w2 PS.out (HI.out.keep HB2.out))).mono ?_
 rintro e w3 ⟨rfl,⟨vs,Q,hb3,hs3,hpu,hle⟩,hfr⟩
 have R0:=Lib.hid (P0.out.fr hfr (by simpa using P0.out.ty PS.out (by decide)))
 have HB3:Hid (Below w.heap.size w w3):=Lib.hid (HB2.out.trans ⟨hfr.os,hfr.tape,hfr.output,hfr.size,fun k hk=>hfr.block k (Nat.lt_of_lt_of_le hk HB2.out.size) (by simp;have:=HSz.out;omega)⟩)
 have HPu:=Lib.hid hpu
 have HQl:Hid (Q.length≤1000):=Lib.hid (by have:=HLL.out;have:=HM.out;omega)
 have HAl:=Lib.hid (fun W (k:Below w3.heap.size w3 W)=>fset_All ns vs Q W (hb3.keep k) (by
  rcases hs3 with ⟨e1,e2⟩ | ⟨P,h1,h2,h3,h4,h5⟩
  ·exact .inl ⟨e1,e2⟩
  ·exact .inr ⟨P,own1_keep h1 (fun g cs _ hb=>k.block g hb.lt),h2.keep k,h3,h4,h5⟩) HQl.out)
 clear hb3 hs3 hpu hle hfr P0 PS HB2 HPt HI HM HLL
 have c0:=(R0.out.alloc (.cells #[.slice none 0 0] 42)).cell (i:=0) rfl
 gi_wp2_with fail
 have f2:Below w3.heap.size w3 (w3.alloc (.cells #[.slice none 0 0] 42)):=(Below.refl _ _).alloc (Nat.le_refl _) _
 have S0:=Lib.hid (R0.out.keep f2)
 have S8:Hid (Blk (w3.alloc (.cells #[.slice none 0 0] 42)) w3.heap.size 42 #[.slice none 0 0]):=Lib.hid (Blk.new _ _ _)
 have BA:Hid (Below w3.heap.size w3 (w3.alloc (.cells #[.slice none 0 0] 42))):=Lib.hid f2
 have hn8:w.heap.size≤w3.heap.size:=HB3.out.size
 generalize (w3.alloc (.cells #[.slice none 0 0] 42))=w4 at *
 generalize hz3:w3.heap.size=n8 at S8 hn8 ⊢
 clear f2 c0 R0
 have HTk:=Lib.hid (taker_any b n8 w4)
 unfold tfn at HTk
 refine ⟨trivial,?_⟩
 refine (callsIn_wide.2 HTk.out).mono ?_
 rintro e w5 ⟨rfl,rfl⟩
 have bt1:=tw1_below w4 b n8
 have BB:=Lib.hid (BA.out.trans (bt1.mono BA.out.size))
 have T0:=Lib.hid (S0.out.keep bt1)
 have T8:=Lib.hid (S8.out.keep bt1)
 have T5:=Lib.hid (tw1_l w4 b n8)
 have T6:=Lib.hid (tw1_t w4 b n8)
 generalize tw1 w4 b n8=w5 at *
 generalize w4.heap.size + 1=n6 at *
 generalize w4.heap.size=n5 at *
 clear BA S0 S8 HTk bt1
 gi_wp2_with fail
 have f3:Below w5.heap.size w5 (w5.alloc (.cells #[.func (.func 197) #[] #[.pointer (some ⟨n5,0,none⟩),.pointer (some ⟨n6,0,none⟩)]] 195)):=(Below.refl _ _).alloc (Nat.le_refl _) _
 have BC:=Lib.hid (BB.out.trans (f3.mono BB.out.size))
 have U0:=Lib.hid (T0.out.keep f3)
 have U8:=Lib.hid (T8.out.keep f3)
 have U5:=Lib.hid (T5.out.keep f3)
 have U6:=Lib.hid (T6.out.keep f3)
 have U9:Hid (Blk (w5.alloc (.cells #[.func (.func 197) #[] #[.pointer (some ⟨n5,0,none⟩),.pointer (some ⟨n6,0,none⟩)]] 195)) w5.heap.size 195 #[.func (.func 197) #[] #[.pointer (some ⟨n5,0,none⟩),.pointer (some ⟨n6,0,none⟩)]]):=Lib.hid (Blk.new _ _ _)
 generalize (w5.alloc (.cells #[.func (.func 197) #[] #[.pointer (some ⟨n5,0,none⟩),.pointer (some ⟨n6,0,none⟩)]] 195))=w6 at *
 generalize w5.heap.size=n9 at *
 clear BB T0 T5 T6 T8 f3
 have HAm:=Lib.hid (HAl.out w6 BC.out)
 refine ⟨trivial,?_⟩
 refine (callsIn_wide.2 HAm.out).mono ?_
 rintro e w7 ⟨v7,rfl,k1,k2,k3⟩
 have HB7:Hid (Below w.heap.size w w7):=Lib.hid ((HB3.out.trans (BC.out.mono HB3.out.size)).trans (k2.mono (HB3.out.trans (BC.out.mono HB3.out.size)).size))
 have hI0:TkS w b rb g n8 (blocksL b rb g s) (s.ack (AK s (Q.take 0))) ((AK s (Q.take 0)).map Kp.p) (ABox b n0 n5 n6 n8 n9 v7 Q) w7:=by
  rw [AK_zero]
  refine ⟨?_,⟨U0.out.keep k2,U5.out.keep k2,U6.out.keep k2,U9.out.keep k2,k1⟩,⟨_,U8.out.keep k2,PR.nil _,fun k e=>by cases e⟩,Fr.of_below HB7.out _⟩
  rw [LS.ack_nil]
  exact HH.out.keep HB7.out
 obtain ⟨p7,c7,rfl⟩:=k1.form0
 have HI0:=Lib.hid hI0
 clear hI0 HAm HAl U0 U5 U6 U8 U9 BC HB3 k1 k2 k3 HH hz3
 gi_wp2_with fail
 refine wpIn_loop (fun a W=>∃(k:Nat) (u11 u28 u29 u30 u31 u32 u33 u54:Value) (DS:List Nat),k≤Q.length∧a={tmps:=#[.pointer (some ⟨b,0,none⟩),.slice p ll c,.pointer (some ⟨n0,0,none⟩),undef,.slice none 0 0,.int .i64 0,.pointer (some ⟨ns,0,none⟩),.int .i64 0,.pointer (some ⟨n8,0,none⟩),.pointer (some ⟨n9,0,none⟩),undef,u11,undef,.pointer (some ⟨b,0,none⟩),.bool false,.pointer (some ⟨ns,0,none⟩),.pointer (some ⟨ns,0,none⟩),.slice p ll c,.int .i64 0,.int .i64 0,.bool false,undef,.pointer (some ⟨b,0,none⟩),.func (.func 197) #[] #[.pointer (some ⟨n5,0,none⟩),.pointer (some ⟨n6,0,none⟩)],.pointer (some ⟨ns,0,none⟩),.slice p7 Q.length c7,.int .i64 (Q.length:Int),.int .i64 (k:Int),u28,u29,u30,u31,u32,u33,undef,undef,undef,undef,undef,undef,undef,undef,undef,undef,undef,undef,undef,undef,undef,undef,undef,undef,undef,undef,u54,undef,undef,undef],defers:=DS.map mk1}∧TkS w b rb g n8 (blocksL b rb g s) (s.ack (AK s (Q.take k))) ((AK s (Q.take k)).map Kp.p) (ABox b n0 n5 n6 n8 n9 (.slice p7 Q.length c7) Q) W∧Marks w.heap.size DS W)
  (fun a _=>Q.length - (intOf (a.tmps.getD 27 undef)).toNat) ?start ?round
 case start=>exact ⟨0,undef,undef,undef,undef,undef,undef,undef,undef,[],Nat.zero_le _,rfl,HI0.out,Marks.nil _ _⟩
 case round=>
  rintro a W ⟨k,u11,u28,u29,u30,u31,u32,u33,u54,DS,hk,rfl,hI,hM⟩
  have HI:=Lib.hid hI
  have HMk:=Lib.hid hM
  have c0:=hI.box.q0
  clear HI0
  by_cases hlt:k < Q.length
  ·have hp:0 < Q.length:=by omega
   obtain ⟨ad,rfl,_⟩:=hI.box.rr.its.cells hp
   obtain ⟨g7,off7,rfl,hg7,hc7⟩:=its_two hI.box.rr.its hp
   obtain ⟨d0,d1⟩:=hc7 k hlt
   have i0:(0:Int)≤(k:Int):=by omega
   have i1:(k:Int) < (Q.length:Int):=by omega
   have HAs:=Lib.hid (AK_step HS.out HPu.out.canon hlt)
   have HSA:Hid ((s.ack (AK s (Q.take k))).ok):=Lib.hid (LS.ack_ok HS.out (AK_sub s _))
   have HLen:=Lib.hid HQl.out
   clear hI hM hc7
   generalize Q.getD k Itm.z=r at *
   have q0:=(c0.alloc (.cells #[.int .u64 (r.a:Int),.int .u64 (r.b:Int)] 59)).cell (i:=0) rfl
   gi_wp2_with fail
   have HBt:=Lib.hid (between_any b r.a r.b (W.alloc (.cells #[.int .u64 (r.a:Int),.int .u64 (r.b:Int)] 59)))
   unfold bfn at HBt
   refine ⟨trivial,?_⟩
   refine (callsIn_wide.2 HBt.out).mono ?_
   rintro e w0 ⟨rfl,rfl⟩
   have f2:Below W.heap.size W (W.alloc (.cells #[.int .u64 (r.a:Int),.int .u64 (r.b:Int)] 59)):=(Below.refl _ _).alloc (Nat.le_refl _) _
   have bb:=bw1_below (W.alloc (.cells #[.int .u64 (r.a:Int),.int .u64 (r.b:Int)] 59)) b r.a r.b
   have hI4:TkS w b rb g n8 (blocksL b rb g s) (s.ack (AK s (Q.take k) ++ [])) ((AK s (Q.take k) ++ []).map Kp.p) (RBox b n0 n5 n6 n8 n9 (.slice (some ⟨g7,off7,none⟩) Q.length c7) Q (W.alloc (.cells #[.int .u64 (r.a:Int),.int .u64 (r.b:Int)] 59)).heap.size ((W.alloc (.cells #[.int .u64 (r.a:Int),.int .u64 (r.b:Int)] 59)).heap.size + 1) r.a r.b) (bw1 (W.alloc (.cells #[.int .u64 (r.a:Int),.int .u64 (r.b:Int)] 59)) b r.a r.b):=by
    have h1:=(HI.out.below (ABox.k _ _ _ _ _ _ _ _) f2).below (ABox.k _ _ _ _ _ _ _ _) bb
    rw [List.append_nil]
    exact h1.unbox ⟨h1.box,bw1_l _ _ _ _,bw1_r _ _ _ _⟩
   have HI4:=Lib.hid hI4
   have HM4:=Lib.hid ((HMk.out.below f2).below bb)
   have HSz4:Hid (w.heap.size≤(bw1 (W.alloc (.cells #[.int .u64 (r.a:Int),.int .u64 (r.b:Int)] 59)) b r.a r.b).heap.size):=Lib.hid (hI4.fr.size)
   clear hI4 HI HMk HBt f2 bb c0 d0 d1 q0
   generalize bw1 (W.alloc (.cells #[.int .u64 (r.a:Int),.int .u64 (r.b:Int)] 59)) b r.a r.b=W5 at *
   generalize (W.alloc (.cells #[.int .u64 (r.a:Int),.int .u64 (r.b:Int)] 59)).heap.size + 1=nr at *
   generalize (W.alloc (.cells #[.int .u64 (r.a:Int),.int .u64 (r.b:Int)] 59)).heap.size=nl at *
   generalize W.heap.size=n11 at *
   gi_wp2_with fail
   have HSeq:=Lib.hid (between_seq 5 b rb g nl nr r.a r.b (s.ack (AK s (Q.take k))).ks (by omega) HSA.out.nodup HSA.out.rise (Nat.le_trans (LS.len_le HSA.out) HSA.out.next))
   have HYl:Hid ((AK s (Q.take k) ++ yK (s.ack (AK s (Q.take k))).ks r.a r.b).length≤6000):=Lib.hid (by
    rw [← HAs.out]
    exact Nat.le_trans (List.length_filter_le _ _) (LS.out_le HS.out))
   generalize hA:AK s (Q.take k)=A at *
   have HA:=Lib.hid hA
   clear hA
   refine wp_range1 (gf:=198) (lb:=#[.pointer (some ⟨nl,0,none⟩),.pointer (some ⟨nr,0,none⟩)]) rfl (enters_of Tryz.func198 (by kernel_rfl) rfl) HSeq.out (fun _=>rfl)
    (fun pre W=>TkS w b rb g n8 (blocksL b rb g s) (s.ack (A ++ pre)) ((A ++ pre).map Kp.p) (RBox b n0 n5 n6 n8 n9 (.slice (some ⟨g7,off7,none⟩) Q.length c7) Q nl nr r.a r.b) W∧Marks w.heap.size DS W)
    (fun c pre W=>False)
    (OwnFrom.and (tks_own (RBox.k _ _ _ _ _ _ _ _ _ _ _ _) HSz4.out) (marks_own HM4.out.lt)) (fun c=>ownFrom_pure _ _) (fun pre A h=>take_rdr2 h.1.led (LS.ack_ks2 _ _ _) (fun t ht=>ht) h.1.box.ql h.1.box.qr) ⟨HI4.out,HM4.out⟩
    (fun x=>{tmps:=#[.pointer (some ⟨b,0,none⟩),.slice p ll c,.pointer (some ⟨n0,0,none⟩),undef,.slice none 0 0,.int .i64 0,.pointer (some ⟨ns,0,none⟩),.int .i64 0,.pointer (some ⟨n8,0,none⟩),.pointer (some ⟨n9,0,none⟩),undef,.pointer (some ⟨n11,0,none⟩),.pointer (some ⟨x.b,0,none⟩),.pointer (some ⟨b,0,none⟩),.bool false,.pointer (some ⟨ns,0,none⟩),.pointer (some ⟨ns,0,none⟩),.slice p ll c,.int .i64 0,.int .i64 0,.bool false,undef,.pointer (some ⟨b,0,none⟩),.func (.func 197) #[] #[.pointer (some ⟨n5,0,none⟩),.pointer (some ⟨n6,0,none⟩)],.pointer (some ⟨ns,0,none⟩),.slice (some ⟨g7,off7,none⟩) Q.length c7,.int .i64 (Q.length:Int),.int .i64 (k:Int),.bool true,.pointer (some ⟨g7,off7 + k * 2,none⟩),.agg #[.int .u64 (r.a:Int),.int .u64 (r.b:Int)],.pointer (some ⟨b,0,none⟩),.agg #[.int .u64 (r.a:Int),.int .u64 (r.b:Int)],.func (.func 198) #[] #[.pointer (some ⟨nl,0,none⟩),.pointer (some ⟨nr,0,none⟩)],.pointer (some ⟨x.b,0,none⟩),undef,undef,undef,undef,undef,undef,undef,undef,undef,undef,undef,undef,undef,undef,undef,undef,undef,undef,undef,u54,undef,undef,undef],defers:=[]})
    ?assign ?body ?done ?stop
   case assign=>
    intro l x W K hK
    gi_wp2
    exact hK
   case body=>
    rintro l2 pre x W8 ⟨hI,hM8⟩ hok
    have HM8:=Lib.hid hM8
    clear hM8
    obtain ⟨hxm,hxg,hxn,hxt⟩:=next_in HSA.out (T:=pre.map Kp.b) hok (fun t ht=>ht)
    have hin:∀y∈A ++ (pre ++ [x]),y∈s.ks:=by
     have:=AK_prefix (k:=k) (Q:=Q) (by rw [HA.out];exact hok) HS.out
     rwa [HA.out] at this
    have hS2:(s.ack (A ++ pre)).ok:=LS.ack_ok HS.out (fun y hy=>hin y (by simp only [List.mem_append] at hy ⊢;rcases hy with h | h <;> simp [h]))
    have hxt':x∈(s.ack (A ++ pre)).ks:=by rw [LS.ack_ks2];exact hxt
    have hpl:((A ++ pre).map Kp.p).length≤7000:=by
     have h1:=hok.length_le
     have h2:=HYl.out
     rw [List.length_append] at h1 h2
     rw [List.length_map,List.length_append]
     omega
    have q9:=hI.box.bx.q9.cell (i:=0) rfl
    obtain ⟨v,hv1,hv2,hv3⟩:=hI.out
    have HI8:=Lib.hid hI
    have HV1:=Lib.hid hv1
    have HV2:=Lib.hid hv2
    have HV3:=Lib.hid hv3
    have HXt:=Lib.hid hxt'
    have HXs:Hid (x∈s.ks):=Lib.hid (hin x (by simp))
    have HTK:=Lib.hid (take_any b rb g n5 n6 n8 x _ v _ W8 hI.led hS2 hxt' hxg hI.box.bx.q5 hI.box.bx.q6 hv1 hv2 hpl)
    clear hI hok hxm hxn hxt hxt' hin hS2 hpl hv1 hv2 hv3 HI4 HM4 HSeq HYl HAs hxg
    gi_wp2_with fail
    refine ⟨trivial,?_⟩
    refine (CallsIn.inRound l2 (callsIn_wide.2 HTK.out)).mono ?_
    intro e W9 hp
    obtain rfl:=hp.e
    have RES:=Lib.hid (HI8.out.take (RBox.k _ _ _ _ _ _ _ _ _ _ _ _) HXt.out HV1.out HV2.out HV3.out hn8 (.inl (by simp [blocksL])) (.inl (by simp only [blocksL,List.mem_cons];exact .inr (.inr (.inr (List.mem_map_of_mem HXs.out))))) hp)
    have HKp:Hid (∃gn,Blk W9 x.b 203 (Kp.cells x.p gn)):=Lib.hid ⟨x.gone || decide (x.b∈[x.b]),RES.out.1.led.kept ⟨x.b,x.p,x.gone || decide (x.b∈[x.b])⟩ (markK_of (B:=[x.b]) HXt.out)⟩
    obtain ⟨gn,hkp⟩:=HKp.out
    have HK9:=Lib.hid hkp
    have HL9:=Lib.hid (RES.out.1.led.head)
    have H09:=Lib.hid (RES.out.1.box.bx.q0)
    clear hp HTK q9 HKp hkp HV1 HV2 HV3
    have HNb:Hid (x.b≠b):=Lib.hid (HK9.out.ty HL9.out (by decide))
    have HN0b:Hid (n0≠b):=Lib.hid (H09.out.ty HL9.out (by decide))
    have t7:W9.drew.cell? ⟨b,7,none⟩=some (.int .u64 ((s.ack (A ++ pre)).top:Int)):=HL9.out.drew.cell (i:=7) rfl
    have f7:=HL9.out.drew.free 7
    gi_wp2_with fail
    refine region_held_round (S:=fun w'=>Blk w' n0 64 #[.pointer (some ⟨b,0,none⟩)]∧Blk w' x.b 203 (Kp.cells x.p gn)) (by rintro ⟨_,_,h⟩;exact h) (by kernel_rfl) (by kernel_rfl) ⟨H09.out.drew,HK9.out.drew⟩ (fun hHeld=>?_)
    simp only [List.size_toArray,List.length_cons,List.length_nil,Nat.reduceAdd,Array.replicate_succ,Array.replicate_zero,List.push_toArray,List.nil_append,List.cons_append]
    refine wpAnyH_take (i:=0) (oi:=⟨some 38,_,_,_,_,_⟩) (v:=?v1) rfl (by kernel_rfl) (by kernel_rfl) (by kernel_rfl) (fun _ _ _ h=>h) (Or.inl ⟨by rfl,?y1⟩) (by assumption) ?r1
    case y1=>intro w hSw;obtain ⟨s0,s1⟩:=hSw;have s2:=s0.cell (i:=0) rfl;obtain ⟨s3,_⟩:=kcell s1;go_simp;(try with_reducible rfl)
    simp only [Act.put,List.setIfInBounds_toArray,List.set_cons_zero,List.set_cons_succ]
    refine wpAnyH_take (i:=1) (oi:=⟨some 39,_,_,_,_,_⟩) (v:=?v2) rfl (by kernel_rfl) (by kernel_rfl) (by kernel_rfl) (fun _ _ _ h=>h) (Or.inl ⟨by rfl,?y2⟩) (by assumption) ?r2
    case y2=>intro w hSw;obtain ⟨s0,s1⟩:=hSw;have s2:=s0.cell (i:=0) rfl;obtain ⟨s3,_⟩:=kcell s1;go_simp;(try with_reducible rfl)
    simp only [Act.put,List.setIfInBounds_toArray,List.set_cons_zero,List.set_cons_succ]
    refine wpAnyH_take (i:=2) (oi:=⟨some 40,_,_,_,_,_⟩) (v:=?v3) rfl (by kernel_rfl) (by kernel_rfl) (by kernel_rfl) (fun _ _ _ h=>h) (Or.inl ⟨by rfl,?y3⟩) (by assumption) ?r3
    case y3=>intro w hSw;obtain ⟨s0,s1⟩:=hSw;have s2:=s0.cell (i:=0) rfl;obtain ⟨s3,_⟩:=kcell s1;go_simp;(try with_reducible rfl)
    simp only [Act.put,List.setIfInBounds_toArray,List.set_cons_zero,List.set_cons_succ]
    refine wpAnyH_take (i:=3) (oi:=⟨some 41,_,_,_,_,_⟩) (v:=?v4) rfl (by kernel_rfl) (by kernel_rfl) (by kernel_rfl) (fun _ _ _ h=>h) (Or.inl ⟨by rfl,?y4⟩) (by assumption) ?r4
    case y4=>intro w hSw;clear hSw;go_simp;(try with_reducible rfl)
    simp only [Act.put,List.setIfInBounds_toArray,List.set_cons_zero,List.set_cons_succ]
    refine wpAnyH_take (i:=4) (oi:=⟨some 42,_,_,_,_,_⟩) (v:=?v5) rfl (by kernel_rfl) (by kernel_rfl) (by kernel_rfl) (fun _ _ _ h=>h) (Or.inl ⟨by rfl,?y5⟩) (by assumption) ?r5
    case y5=>intro w hSw;clear hSw;go_simp;(try with_reducible rfl)
    simp only [Act.put,List.setIfInBounds_toArray,List.set_cons_zero,List.set_cons_succ]
    refine wpAnyH_take (i:=6) (oi:=⟨some 44,_,_,_,_,_⟩) (v:=?v6) rfl (by kernel_rfl) (by kernel_rfl) (by kernel_rfl) (fun _ _ _ h=>h) (Or.inl ⟨by rfl,?y6⟩) (by assumption) ?r6
    case y6=>intro w hSw;clear hSw;go_simp;(try with_reducible rfl)
    simp only [Act.put,List.setIfInBounds_toArray,List.set_cons_zero,List.set_cons_succ]
    refine wpAnyH_take (i:=7) (oi:=⟨some 45,_,_,_,_,_⟩) (v:=?v7) rfl (by kernel_rfl) (by kernel_rfl) (by kernel_rfl) (fun _ _ _ h=>h) (Or.inl ⟨by rfl,?y7⟩) (by assumption) ?r7
    case y7=>intro w hSw;clear hSw;go_simp;(try with_reducible rfl)
    simp only [Act.put,List.setIfInBounds_toArray,List.set_cons_zero,List.set_cons_succ]
    refine wpAnyH_take (i:=8) (oi:=⟨some 46,_,_,_,_,_⟩) (v:=?v8) rfl (by kernel_rfl) (by kernel_rfl) (by kernel_rfl) (fun _ _ _ h=>h) (Or.inl ⟨by rfl,?y8⟩) (by assumption) ?r8
    case y8=>intro w hSw;clear hSw;go_simp;(try with_reducible rfl)
    simp only [Act.put,List.setIfInBounds_toArray,List.set_cons_zero,List.set_cons_succ]
    refine wpAnyH_take (i:=9) (oi:=⟨some 47,_,_,_,_,_⟩) (v:=?v9) rfl (by kernel_rfl) (by kernel_rfl) (by kernel_rfl) (fun _ _ _ h=>h) (Or.inl ⟨by rfl,?y9⟩) (by assumption) ?r9
    case y9=>intro w hSw;clear hSw;go_simp;(try with_reducible rfl)
    simp only [Act.put,List.setIfInBounds_toArray,List.set_cons_zero,List.set_cons_succ]
    refine wpAnyH_take (i:=10) (oi:=⟨some 48,_,_,_,_,_⟩) (v:=?v10) rfl (by kernel_rfl) (by kernel_rfl) (by kernel_rfl) (fun _ _ _ h=>h) (Or.inl ⟨by rfl,?y10⟩) (by assumption) ?r10
    case y10=>intro w hSw;obtain ⟨s0,s1⟩:=hSw;have s2:=s0.cell (i:=0) rfl;obtain ⟨s3,_⟩:=kcell s1;go_simp;(try with_reducible rfl)
    simp only [Act.put,List.setIfInBounds_toArray,List.set_cons_zero,List.set_cons_succ]
    refine wpAnyH_ready (rs:=[5]) (by kernel_rfl) (by simp) ?_
    refine AllReadyH.cons (o:=⟨some 43,_,_,_,_,_⟩) rfl (fun K hK=>?_) AllReadyH.nil
    go_simp
    refine hK.out _ _ hHeld (fun hHeld=>?_)
    clear hK
    try simp only [List.setIfInBounds_toArray,List.set_cons_zero,List.set_cons_succ]
    refine wpAnyH_ready (rs:=[11]) (by kernel_rfl) (by simp) ?_
    refine AllReadyH.cons (o:=⟨some 49,_,_,_,_,_⟩) rfl (fun K hK=>?_) AllReadyH.nil
    go_simp
    refine hK.out _ _ hHeld (fun hHeld=>?_)
    clear hK
    try simp only [List.setIfInBounds_toArray,List.set_cons_zero,List.set_cons_succ]
    refine wpAnyH_take (i:=12) (oi:=⟨some 50,_,_,_,_,_⟩) (v:=?v11) rfl (by kernel_rfl) (by kernel_rfl) (by kernel_rfl) (fun _ _ _ h=>h) (Or.inl ⟨by rfl,?y11⟩) (by assumption) ?r11
    case y11=>intro w hSw;clear hSw;go_simp;(try with_reducible rfl)
    simp only [Act.put,List.setIfInBounds_toArray,List.set_cons_zero,List.set_cons_succ]
    refine wpAnyH_take (i:=13) (oi:=⟨some 51,_,_,_,_,_⟩) (v:=?v12) rfl (by kernel_rfl) (by kernel_rfl) (by kernel_rfl) (fun _ _ _ h=>h) (Or.inl ⟨by rfl,?y12⟩) (by assumption) ?r12
    case y12=>intro w hSw;clear hSw;go_simp;(try with_reducible rfl)
    simp only [Act.put,List.setIfInBounds_toArray,List.set_cons_zero,List.set_cons_succ]
    refine wpAnyH_ready (rs:=[14]) (by kernel_rfl) (by simp) ?_
    refine AllReadyH.cons (o:=⟨none,_,_,_,_,_⟩) rfl (fun K hK=>?_) AllReadyH.nil
    go_simp
    refine hK.out _ _ ⟨hHeld.1.set_other 7 _ HN0b.out,hHeld.2.set_other 7 _ HNb.out⟩ (fun hHeld=>?_)
    clear hK
    try simp only [List.setIfInBounds_toArray,List.set_cons_zero,List.set_cons_succ]
    refine wpAnyH_take (i:=15) (oi:=⟨some 52,_,_,_,_,_⟩) (v:=?v13) rfl (by kernel_rfl) (by kernel_rfl) (by kernel_rfl) (fun _ _ _ h=>h) (Or.inl ⟨by rfl,?y13⟩) (by assumption) ?r13
    case y13=>intro w hSw;clear hSw;go_simp;(try with_reducible rfl)
    simp only [Act.put,List.setIfInBounds_toArray,List.set_cons_zero,List.set_cons_succ]
    refine wpAnyH_take (i:=16) (oi:=⟨some 53,_,_,_,_,_⟩) (v:=?v14) rfl (by kernel_rfl) (by kernel_rfl) (by kernel_rfl) (fun _ _ _ h=>h) (Or.inl ⟨by rfl,?y14⟩) (by assumption) ?r14
    case y14=>intro w hSw;clear hSw;go_simp;(try with_reducible rfl)
    simp only [Act.put,List.setIfInBounds_toArray,List.set_cons_zero,List.set_cons_succ]
    refine wpAnyH_ready (rs:=[17]) (by kernel_rfl) (by simp) ?_
    refine AllReadyH.cons (o:=⟨none,_,_,_,_,_⟩) rfl (fun K hK=>?_) AllReadyH.nil
    have HL10:=(HL9.out.set 7 (.int .u64 (max ((s.ack (A ++ pre)).top:Int) (x.p.n:Int)))).drew
    have t8:=HL10.cell (i:=8) rfl
    have f8:=HL10.free 8
    go_simp
    refine hK.out _ _ ⟨hHeld.1.set_other 8 _ HN0b.out,hHeld.2.set_other 8 _ HNb.out⟩ (fun hHeld=>?_)
    clear hK
    try simp only [List.setIfInBounds_toArray,List.set_cons_zero,List.set_cons_succ]
    refine wpAnyH_done (by kernel_rfl) ?_ _
    gi_wp2
    show KeepsFrom _ _ _∧TkS w b rb g n8 (blocksL b rb g s) (s.ack (A ++ (pre ++ [x]))) ((A ++ (pre ++ [x])).map Kp.p) _ _∧Marks _ _ _
    rw [← List.append_assoc]
    exact ack_round (RBox.k _ _ _ _ _ _ _ _ _ _ _ _) (by simp [blocksL]) RES.out.1 RES.out.2 HM8.out _
   case done=>
    rintro D xs W' hD hDl rfl ⟨hI,hM'⟩ hK
    have HI':=Lib.hid (hI.unbox hI.box.bx)
    have HM':=Lib.hid (hM'.cons (fun hm=>by have:=HM4.out.lt D hm;omega) (by have:=HSz4.out;omega) hK)
    clear hI hM' hK HI4 HSeq HYl
    gi_wp2
    have e1:wrap64 ((k:Int) + 1)=((k + 1:Nat):Int):=by
     have:=HLen.out
     unfold wrap64
     omega
    rw [e1]
    refine ⟨⟨k + 1,.pointer (some ⟨n11,0,none⟩),.bool true,.pointer (some ⟨g7,off7 + k * 2,none⟩),.agg #[.int .u64 (r.a:Int),.int .u64 (r.b:Int)],.pointer (some ⟨b,0,none⟩),.agg #[.int .u64 (r.a:Int),.int .u64 (r.b:Int)],.func (.func 198) #[] #[.pointer (some ⟨nl,0,none⟩),.pointer (some ⟨nr,0,none⟩)],.int .i64 ((k + 1:Nat):Int),D :: DS,hlt,rfl,by rw [HAs.out];exact HI'.out,HM'.out⟩,?_⟩
    simp [intOf]
    omega
   case stop=>
    rintro D c pre W hD hDl hpre hF hK
    exact hF.elim
  ·obtain rfl:k=Q.length:=by omega
   obtain ⟨v,hv1,hv2,hv3⟩:=hI.out
   rw [List.take_length] at hI hv2
   have HI:=Lib.hid hI
   have HV1:=Lib.hid hv1
   have HV2:=Lib.hid hv2
   have HV3:=Lib.hid hv3
   have q0:=c0.cell (i:=0) rfl
   have HNr:=Lib.hid (narrow_any b rb g _ W hI.led (LS.ack_ok HS.out (AK_sub s Q)))
   clear hI hv1 hv2 hv3 hM c0
   gi_wp2_with fail
   refine ⟨trivial,?_⟩
   refine (callsIn_wide.2 HNr.out).mono ?_
   intro e W2 hn
   obtain rfl:=hn.e
   have HM2:=Lib.hid (HMk.out.keep (kf_of_fr hn.fr (fun y hy=>.inr (HI.out.led.cells y hy))))
   have c4:=(HV1.out.fr hn.fr (HI.out.led.off HV1.out (by decide) (by decide) (by decide) (by decide))).cell (i:=0) rfl
   have HE:=Lib.hid (ack_end HS.out HI.out HV2.out HV3.out hn)
   clear hn q0 HNr
   gi_wp2
   refine leaves_marks (B:=w.heap.size) (AckPost w b rb g s Q (.returned (.tuple #[v,.int .i64 0]))) (fun W D h h1 h2=>h.mark h1 h2) (fun W h=>?_) DS W2 HM2.out HE.out
   refine ⟨.tuple #[v,.int .i64 0],?_,Q,HPu.out,h⟩
   simp [results,Tryz.f60]
end Go.Proofs.YteoepabmnbkabaaGreatDoor

set_option linter.unusedVariables false
namespace Go.Proofs.YteoepabmnbkabaaGreatDoor
open Go.RowKit
def hasB (l:List Rn) (n:Nat):Bool:=l.any fun r=>decide (r.a≤n) && decide (n≤r.b)
theorem hasB_iff {l:List Rn} {n:Nat}:hasB l n=true↔InR l n:=by
 unfold hasB InR
 rw [List.any_eq_true]
 constructor
 ·rintro ⟨r,hr,h⟩
  exact ⟨r,hr,by simpa using h⟩
 ·rintro ⟨r,hr,h⟩
  exact ⟨r,hr,by simpa using h⟩
theorem inQp_iff {Q:List Rn} {p:Pk}:inQp Q p=true↔InR Q p.n:=by
 unfold inQp InR
 rw [List.any_eq_true]
 constructor
 ·rintro ⟨r,hr,h⟩
  exact ⟨r,hr,by simpa using h⟩
 ·rintro ⟨r,hr,h⟩
  exact ⟨r,hr,by simpa using h⟩
theorem has_puts {l Q:List Rn} (h:Puts [] l Q):inQp Q=fun p=>hasB l p.n:=by
 funext p
 rw [Bool.eq_iff_iff,inQp_iff,h.mem,hasB_iff]
 constructor
 ·rintro (c | c)
  ·exact absurd c (inR_nil _)
  ·exact c
 ·exact .inr
def topOf (t:Nat) (out:List Pk):Nat:=out.foldl (fun t p=>max t p.n) t
theorem outP_push (s:LS) (kb:Nat) (p:Pk) (m:Bool):outP (s.push kb p m).ks=outP s.ks ++ [p]:=by
 unfold outP
 show (outK (s.ks ++ [_])).map Kp.p=_
 rw [outK_push,List.map_append]
 rfl
theorem LedEnd.imp {w w':World} {b rb g:Nat} {s:LS} {P P':LS→Prop} (h:LedEnd w b rb g s P w') (k:∀s',P s'→P' s'):LedEnd w b rb g s P' w':=by
 obtain ⟨⟨rb',g',s',k1,k2,k3,k5⟩,k6⟩:=h
 exact ⟨⟨rb',g',s',k1,k2,k _ k3,k5⟩,k6⟩
end Go.Proofs.YteoepabmnbkabaaGreatDoor

set_option linter.unusedVariables false
namespace Go.Proofs.YteoepabmnbkabaaGreatDoor
open Go.RowKit
def LedAt (w:World) (B b:Nat) (L:PL):Prop:=∃rb g s,LAt w b rb g s∧s.ok∧outP s.ks=L.out∧s.next=L.next∧s.top=L.top∧s.topped=L.topped∧s.reorder=L.reorder∧∀x∈blocksL b rb g s,B≤x
theorem LedAt.keep {B b:Nat} {L:PL} {w w':World} (h:LedAt w B b L) (k:Below w.heap.size w w'):LedAt w' B b L:=by
 obtain ⟨rb,g,s,h1,h2⟩:=h
 exact ⟨rb,g,s,h1.keep k,h2⟩
def KL (w w':World):Prop:=∀z T cs,Blk w z T cs→T≠140→T≠231→T≠138→T≠203→Blk w' z T cs
theorem KL.below {w w':World} (k:Below w.heap.size w w'):KL w w':=fun z T cs h _ _ _ _=>h.keep k
theorem KL.refl (w:World):KL w w:=fun z T cs h _ _ _ _=>h
theorem KL.trans {a b c:World} (h:KL a b) (k:KL b c):KL a c:=fun z T cs hz e1 e2 e3 e4=>k z T cs (h z T cs hz e1 e2 e3 e4) e1 e2 e3 e4
theorem KL.led {w w':World} {b rb g:Nat} {s:LS} (hl:LAt w b rb g s) (k:Fr w w' (blocksL b rb g s)):KL w w':=fun z T cs hz e1 e2 e3 e4=>by
 unfold Blk
 rw [k.block z hz.lt (hl.off hz e1 e2 e3 e4)]
 exact hz
theorem led_below {B:Nat} {w w':World} {L:List Nat} (k:Fr w w' L) (hw:B≤w.heap.size) (hL:∀x∈L,B≤x):Below B w w':=⟨k.os,k.tape,k.output,k.size,fun z hz=>k.block z (by omega) (fun hm=>by have:=hL z hm;omega)⟩
theorem LedAt.size {w:World} {B b:Nat} {L:PL} (h:LedAt w B b L):B≤w.heap.size:=by
 obtain ⟨rb,g,s,k1,k2,k3,k4,k5,k6,k7,k8⟩:=h
 have h1:=k8 b (by simp [blocksL])
 have h2:=k1.head.lt
 omega
theorem LedAt.end {w w':World} {B b rb g:Nat} {s:LS} {L':PL} (h5:∀x∈blocksL b rb g s,B≤x) (hw:B≤w.heap.size) (k:LedEnd w b rb g s (fun s'=>outP s'.ks=L'.out∧s'.next=L'.next∧s'.top=L'.top∧s'.topped=L'.topped∧s'.reorder=L'.reorder) w'):LedAt w' B b L'∧Below B w w':=by
 obtain ⟨⟨rb',g',s',k1,k2,⟨k3,k4,k5,k6,k7⟩,k8⟩,k9⟩:=k
 refine ⟨⟨rb',g',s',k1,k2,k3,k4,k5,k6,k7,fun x hx=>?_⟩,led_below k9 hw h5⟩
 rcases k8 x hx with c | c
 ·exact h5 x c
 ·omega
theorem PL.lost_eq {L:PL} {s:LS} (h1:s.topped=L.topped) (h2:s.top=L.top) (h3:s.reorder=L.reorder) (h4:s.ok) (now delay limit:Nat):Go.Proofs.YteoepabmnbkabaaGreatDoor.lostB s now delay limit=L.lostB now delay limit:=by
 funext p
 unfold Go.Proofs.YteoepabmnbkabaaGreatDoor.lostB PL.lostB overB passB
 rw [h1,h2,h3]
 cases hs:L.topped
 ·have:=h4.un (by rw [h1,hs])
  rw [h2] at this
  simp [this]
 ·simp [Bool.or_comm,Bool.or_assoc]
theorem led_New (reorder:Nat) (w:World) (hr:reorder≤18446744073709551615):
  Calls Tryz.prog 30 #[.int .u64 (reorder:Int)] w fun e w'=>∃b,e=.returned (.pointer (some ⟨b,0,none⟩))∧LedAt w' w.heap.size b ⟨[],0,reorder,0,false⟩∧Below w.heap.size w w':=by
 refine (new_any reorder w).mono ?_
 rintro e w' ⟨⟨b,rb,g,rfl,h1,h2⟩,h3⟩
 exact ⟨b,rfl,⟨rb,g,_,h1,LS.empty_ok hr,rfl,rfl,rfl,rfl,rfl,h2⟩,h3⟩
theorem led_Send {B b:Nat} {L:PL} {w:World} (h:LedAt w B b L) (hx:L.next≤5999) (p:Pk) (hp:p.ok) (hpn:p.n=L.next):
  Calls Tryz.prog 183 #[.pointer (some ⟨b,0,none⟩),.int .u64 (p.size:Int),.agg #[.int .u64 (p.sent:Int),.int .u64 (p.first:Int),.int .u64 (p.deliv:Int),.int .u64 (p.at_:Int),.bool p.lim]] w fun e w'=>e=.returned (.int .u64 (L.next:Int))∧LedAt w' B b {L with out:=L.out ++ [p],next:=L.next + 1}∧Below B w w'∧KL w w':=by
 have hw:=h.size
 obtain ⟨rb,g,s,k1,k2,k3,k4,k5,k6,k7,k8⟩:=h
 refine (send_any b rb g s w k1 k2 p hp (by rw [hpn,k4]) (by omega)).mono ?_
 rintro e w' ⟨rfl,⟨g',kb,m1,m2,m3,m4⟩,m5⟩
 obtain ⟨a1,a2⟩:=LedAt.end (L':={L with out:=L.out ++ [p],next:=L.next + 1}) k8 hw ⟨⟨rb,g',_,m1,LS.push_ok k2 hp (by rw [hpn,k4]) (by omega) m2,⟨by rw [outP_push,k3],by show s.next + 1=_;rw [k4],k5,k6,k7⟩,fun x hx=>by
  simp only [blocksL,LS.push,List.map_append,List.mem_cons,List.mem_append,List.map_cons,List.map_nil,List.not_mem_nil,or_false] at hx ⊢
  rcases hx with rfl | rfl | rfl | hx | rfl
  ·simp
  ·simp
  ·rcases m3 with rfl | m3
   ·simp
   ·exact .inr m3
  ·exact .inl (.inr (.inr (.inr hx)))
  ·exact .inr m4⟩,m5⟩
 exact ⟨by rw [k4],a1,a2,KL.led k1 m5⟩
def PL.take (L:PL) (f:Pk→Bool):PL:=⟨L.out.filter (fun p=>!f p),L.next,L.reorder,topOf L.top (L.out.filter f),L.topped || !(L.out.filter f).isEmpty⟩
theorem led_Ack {B b:Nat} {L:PL} {w:World} (h:LedAt w B b L) (lp:Option Addr) (lc:Nat) (l:List Rn) (hl:Its w lp l) (hm:l.length≤1000) (ho:l.all okB=true) (hu:∀q∈l,q.u64):
  Calls Tryz.prog 60 #[.pointer (some ⟨b,0,none⟩),.slice lp l.length lc] w fun e w'=>∃v,e=.returned (.tuple #[v,.int .i64 0])∧PR w' v (L.out.filter fun p=>hasB l p.n)∧(∀k,v.ownBlock=some k→w.heap.size≤k)∧LedAt w' B b (L.take fun p=>hasB l p.n)∧Below B w w'∧KL w w':=by
 have hw:=h.size
 obtain ⟨rb,g,s,k1,k2,k3,k4,k5,k6,k7,k8⟩:=h
 refine (ack_any b rb g lp lc l s w k1 k2 hl hm ho hu).mono ?_
 rintro e w' ⟨Q,hQ,⟨v,rfl,m1,m2⟩,m3⟩
 have hq:=has_puts hQ
 rw [hq,k3] at m1 m3
 obtain ⟨a1,a2⟩:=LedAt.end (L':=L.take fun p=>hasB l p.n) k8 hw (m3.imp fun s' (k:_∧_∧_∧_∧_)=>⟨k.1,by rw [k.2.2.1,k4];rfl,by rw [k.2.2.2.1,k5];rfl,by rw [k.2.2.2.2,k6];rfl,by rw [k.2.1,k7];rfl⟩)
 exact ⟨v,rfl,m1,m2,a1,a2,KL.led k1 m3.fr⟩
theorem led_Lost {B b:Nat} {L:PL} {w:World} (h:LedAt w B b L) (now delay limit:Nat) (hdl:delay≤18446744073709551615) (hlm:limit≤18446744073709551615):
  Calls Tryz.prog 102 #[.pointer (some ⟨b,0,none⟩),.int .u64 (now:Int),.int .u64 (delay:Int),.int .u64 (limit:Int)] w fun e w'=>∃v,e=.returned v∧PR w' v (L.out.filter (L.lostB now delay limit))∧(∀k,v.ownBlock=some k→w.heap.size≤k)∧LedAt w' B b {L with out:=L.out.filter fun p=>!L.lostB now delay limit p}∧Below B w w'∧KL w w':=by
 have hw:=h.size
 obtain ⟨rb,g,s,k1,k2,k3,k4,k5,k6,k7,k8⟩:=h
 refine (lost_any b rb g now delay limit s w k1 k2 hdl hlm).mono ?_
 rintro e w' ⟨⟨v,rfl,m1,m2⟩,m3⟩
 have hq:=PL.lost_eq (L:=L) k6 k5 k7 k2 now delay limit
 rw [hq,k3] at m1 m3
 obtain ⟨a1,a2⟩:=LedAt.end (L':={L with out:=L.out.filter fun p=>!L.lostB now delay limit p}) k8 hw (m3.imp fun s' (k:_∧_∧_∧_∧_)=>⟨k.1,by rw [k.2.2.1,k4],by rw [k.2.2.2.1,k5],by rw [k.2.2.2.2,k6],by rw [k.2.1,k7]⟩)
 exact ⟨v,rfl,m1,m2,a1,a2,KL.led k1 m3.fr⟩
theorem led_InFlight {B b:Nat} {L:PL} {w:World} (h:LedAt w B b L):
  Calls Tryz.prog 46 #[.pointer (some ⟨b,0,none⟩)] w fun e w'=>e=.returned (.int .u64 ((infl (totP L.out):Nat):Int))∧w'=w:=by
 obtain ⟨rb,g,s,k1,k2,k3,k4,k5,k6,k7,k8⟩:=h
 refine (inflight_any b rb g s w k1).mono ?_
 rintro e w' ⟨rfl,rfl⟩
 unfold tot
 rw [k3]
 exact ⟨rfl,rfl⟩
end Go.Proofs.YteoepabmnbkabaaGreatDoor
