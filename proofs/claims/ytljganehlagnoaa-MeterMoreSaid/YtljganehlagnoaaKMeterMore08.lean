/- 6 texts put together: what each one says stands ahead of it. -/
import Derived.Test.YtljganehlagnoaaKMeterMore07
import Derived.Laws.MakeOwn
import Derived.BigRegion
import Derived.Deep.Cut
import Derived.Deep.AppendLies
import Derived.Deep.RegionHeld3
import Derived.Deep.QuietTactic
import Derived.BigQuiet
import Derived.Laws.StructEq
set_option linter.unusedVariables false
namespace Go.Proofs.Ytljganehlagnoaa
open Go.RowKit
theorem its_tn {w:World} {ao:Option Addr} {l:List Tn} (h:Its w ao l) (hp:0 < l.length):∃b off,ao=some ⟨b,off,none⟩∧b < w.heap.size∧∀k,k < l.length→∀x,x=l.getD k Itm.z→w.cell? ⟨b,off + k * 3,none⟩=some (.int .u64 (x.g:Int))∧w.cell? ⟨b,off + k * 3 + 1,none⟩=some (.int .u64 (x.c:Int))∧w.cell? ⟨b,off + k * 3 + 2,none⟩=some (.int .u64 (x.w:Int)):=by
 obtain ⟨b,off,e,hb,hc⟩:=h hp
 refine ⟨b,off,e,hb,fun k hk x hx=>?_⟩
 have k7:Itm.k Tn=3:=rfl
 subst hx
 exact ⟨hc k 0 hk (by rw [k7];omega),hc k 1 hk (by rw [k7];omega),hc k 2 hk (by rw [k7];omega)⟩
theorem its_rw {w:World} {ao:Option Addr} {l:List Rw} (h:Its w ao l) (hp:0 < l.length):∃b off,ao=some ⟨b,off,none⟩∧b < w.heap.size∧∀k,k < l.length→∀x,x=l.getD k Itm.z→w.cell? ⟨b,off + k * 5,none⟩=some (.int .u64 (x.g:Int))∧w.cell? ⟨b,off + k * 5 + 1,none⟩=some (.int .u64 (x.c:Int))∧w.cell? ⟨b,off + k * 5 + 2,none⟩=some (.int .u64 (x.d:Int))∧w.cell? ⟨b,off + k * 5 + 3,none⟩=some (.int .u64 (x.s:Int))∧w.cell? ⟨b,off + k * 5 + 4,none⟩=some (.int .u64 (x.w:Int)):=by
 obtain ⟨b,off,e,hb,hc⟩:=h hp
 refine ⟨b,off,e,hb,fun k hk x hx=>?_⟩
 have k7:Itm.k Rw=5:=rfl
 subst hx
 exact ⟨hc k 0 hk (by rw [k7];omega),hc k 1 hk (by rw [k7];omega),hc k 2 hk (by rw [k7];omega),hc k 3 hk (by rw [k7];omega),hc k 4 hk (by rw [k7];omega)⟩
theorem info_parts {t:TypeId} {z:Value} {s b:Nat} (h:(Try.prog.info? t).map (fun i=>(i.zero,i.size,i.bytes))=some (some z,s,b)):∃i,Try.prog.info? t=some i∧i.zero=some z∧i.size=s∧i.bytes=b:=by
 cases hq:Try.prog.info? t with
 | none=>rw [hq] at h;cases h
 | some i=>rw [hq] at h;simp only [Option.map_some,Option.some.injEq,Prod.mk.injEq] at h;exact ⟨i,rfl,h.1,h.2.1,h.2.2⟩
theorem row_info:(Try.prog.info? 51).map (fun i=>(i.zero,i.size,i.bytes))=some (some (.agg #[.int .u64 0,.int .u64 0,.int .u64 0,.int .u64 0,.int .u64 0]),5,40):=by kernel_rfl
theorem turn_info:(Try.prog.info? 49).map (fun i=>(i.zero,i.size,i.bytes))=some (some (.agg #[.int .u64 0,.int .u64 0,.int .u64 0]),3,24):=by kernel_rfl
theorem mk_row (n:Nat) (hn:n≤100000) (w:World):(Instr.makeSlice 25 (.int .i64 0) (.int .i64 (n:Int))).run Try.prog w=.ok (.slice (some ⟨w.heap.size,0,none⟩) 0 n) (w.alloc (.cells (madeCells (.agg #[.int .u64 0,.int .u64 0,.int .u64 0,.int .u64 0,.int .u64 0]:Value).cells (n * 5)) 51)):=by
 obtain ⟨i0,hi,hz0,hz1,hz2⟩:=info_parts row_info
 have:=run_make (P:=Try.prog) w 25 51 i0 _ Try.underlying25 hi hz0 .i64 .i64 0 n (by omega) (by omega) (by rw [hz2];omega) (by omega)
 rw [this,hz1];rfl
theorem run_max3 (T:TypeId) (x y z m:Nat) (w:World) (hm:m=max (max x y) z):(Builtin.max_ #[T,T,T] T #[.int .u64 (x:Int),.int .u64 (y:Int),.int .u64 (z:Int)]).run Try.prog w=.ok (.int .u64 (m:Int)) w:=by
 have e:∀a b:Nat,(if (b:Int) > (a:Int) then (b:Int) else (a:Int))=((max a b:Nat):Int):=fun a b=>by split <;> omega
 simp only [Builtin.max_,List.foldlM_cons,List.foldlM_nil,Builtin.max2,e,hm]
 simp
 split <;> omega
theorem made_size (z:Array Value) (n:Nat):(madeCells z n).size=n:=by simp [madeCells]
theorem made_own {α:Type} [Itm α] {T:TypeId} {B k:Nat} (hk:Itm.k α=k) (z:Array Value) (n:Nat) (hn:n≤maxLen) (w:World) (hB:B≤w.heap.size):SOwn (α:=α) T B (w.alloc (.cells (madeCells z (n * k)) T)) (.slice (some ⟨w.heap.size,0,none⟩) 0 n) []:=
 ⟨by simp,.inr ⟨w.heap.size,n,_,rfl,hB,heap_alloc_new w _,Nat.zero_le _,hn,by rw [made_size,hk],by simp⟩⟩
structure RunI (T:TypeId) (W:World) (z room:Nat) (l:List Tn) (k:Nat) (v:Value) (w:World):Prop where
 own:SOwn T W.heap.size w v (curve room Rw.z (l.take k))
 at_:Blk w z T (lastR room Rw.z (l.take k)).cells
 ne:∀g,v.ownBlock=some g→g≠z
 bel:Below W.heap.size W w
 zb:W.heap.size≤z
 fit:∀t∈l.take k,t.fit=true
theorem RunI.start {W:World} (room n:Nat) (l:List Tn) (hn:n≤100000):RunI 51 W (W.heap.size + 1) room l 0 (.slice (some ⟨W.heap.size,0,none⟩) 0 n) ((W.alloc (.cells (madeCells (.agg #[.int .u64 0,.int .u64 0,.int .u64 0,.int .u64 0,.int .u64 0]:Value).cells (n * 5)) 51)).alloc (.cells #[.int .u64 0,.int .u64 0,.int .u64 0,.int .u64 0,.int .u64 0] 51)):=
 ⟨(made_own rfl _ n (by unfold maxLen;omega) W (Nat.le_refl _)).keep (al_be _ _),Blk.new1 W _ _ _,fun g e=>by
   have:W.heap.size=g:=by simpa [Value.ownBlock] using e
   omega,al_be2 _ _ _,by omega,fun t ht=>by simp at ht⟩
theorem RunI.to {T:TypeId} {W w w':World} {z room k:Nat} {l:List Tn} {v:Value} (h:RunI T W z room l k v w) (b:Below w.heap.size w w'):RunI T W z room l k v w':=
 ⟨h.own.keep b,h.at_.keep b,h.ne,bel_to h.bel b h.bel.size,h.zb,h.fit⟩
theorem keep_set {α:Type} [Itm α] {T:TypeId} {B z:Nat} {w:World} {v:Value} {l:List α} {r:Rw} (h:SOwn T B w v l) (hz:∀g,v.ownBlock=some g→g≠z):SOwn T B (w.setCells z 0 r.cs) v l:=
 h.blk (fun g cs hg hb=>hb.sets_other (hz g hg) _ _ _)
structure RunJ (T:TypeId) (W:World) (z room:Nat) (l:List Tn) (k:Nat) (x:Tn) (v:Value) (w:World):Prop where
 own:SOwn T W.heap.size w v (curve room Rw.z (l.take k))
 at_:Blk w z T ((lastR room Rw.z (l.take k)).behind room x).cells
 ne:∀g,v.ownBlock=some g→g≠z
 bel:Below W.heap.size W w
 zb:W.heap.size≤z
theorem RunI.set {T:TypeId} {W w:World} {z room k:Nat} {l:List Tn} {v:Value} (h:RunI T W z room l k v w) (x:Tn):RunJ T W z room l k x v (w.setCells z 0 ((lastR room Rw.z (l.take k)).behind room x).cs):=
 ⟨keep_set h.own h.ne,h.at_.whole ((lastR room Rw.z (l.take k)).behind room x).cs rfl,h.ne,Below.sets h.zb _ _ _ h.bel,h.zb⟩
theorem RunJ.next {T:TypeId} {W w w5:World} {z room k:Nat} {l:List Tn} {v v':Value} {x:Tn} {ob:Obj} (h:RunJ T W z room l k x v w) (hlt:k < l.length) (hx:x=l.getD k Itm.z) (hf:x.fit=true) (hfs:∀t∈l.take k,t.fit=true)
  (hown:w5.ownsRow W.heap.size T 5 v' (k + 1) ((curve room Rw.z (l.take k)).flatMap Itm.cs ++ Itm.cs ((lastR room Rw.z (l.take k)).behind room x))) (hg:(w.alloc ob).grownBy w5 v.ownBlock) (hat:v'.ownBlock=v.ownBlock∨v'.ownBlock=some (w.alloc ob).heap.size):RunI T W z room l (k + 1) v' w5:=by
 have e1:=take_snoc' l k hlt x hx
 have hl:(curve room Rw.z (l.take k)).length=k:=by rw [curve_len,List.length_take];omega
 have hz:=h.at_.lt
 refine ⟨?_,?_,?_,bel_app h.bel h.bel.size h.own ob hg,h.zb,fit_take k hfs hlt x hx hf⟩
 ·rw [e1,curve_snoc]
  exact SOwn.snoc (by rw [hl];exact hown)
 ·rw [e1,lastR_snoc]
  exact (h.at_.alloc ob).grown hg (fun e=>h.ne _ e.symm rfl)
 ·intro g hg
  rcases hat with c | c
  ·rw [c] at hg;exact h.ne g hg
  ·rw [c] at hg
   injection hg with hg
   simp at hg
   omega
theorem row_le {room k:Nat} {l:List Tn} (hk:k≤200) (hf:∀t∈l.take k,t.fit=true):(lastR room Rw.z (l.take k)).le 1125899906842624:=by
 have:=lastR_le room (l.take k) Rw.z 0 (Rw.z_ok room) ⟨Nat.le_refl _,Nat.le_refl _,Nat.le_refl _,Nat.le_refl _,Nat.le_refl _⟩ hf
 refine this.mono ?_
 have:(l.take k).length≤200:=by rw [List.length_take];omega
 omega
set_option maxRecDepth 100000 in
set_option maxHeartbeats 1000000 in
theorem mt_Run (room:Nat) (l:List Tn) (ao:Option Addr) (cap:Nat) (W:World) (hi:Its W ao l) (hl:l.length≤200) (hb:∀t∈l,t.le 18446744073709551615):
  Calls Try.prog 8 #[.int .u64 (room:Int),.slice ao l.length cap] W fun e w'=>∃v,e=.returned (.tuple #[v,.int .i64 (runE room l)])∧SOwn 51 W.heap.size w' v (runR room l)∧Below W.heap.size W w':=by
 have HW:=Lib.hid (mt_within room l.length W (by omega))
 by_cases hr:room≤72057594037927936
 case neg=>
  have HE:Hid (runR room l=[]∧runE room l=1):=Lib.hid (by unfold runR runE;rw [fitR_room hr];exact ⟨rfl,rfl⟩)
  rw [decide_eq_false hr] at HW
  go_enter Try.func8,Try.ntmps8
  go_wp2_with fail
  refine HW.out.mono ?_
  rintro e w ⟨rfl,rfl⟩
  go_wp2_with fail
  go_ret2
  exact ⟨.slice none 0 0,by rw [HE.out.2];rfl,by rw [HE.out.1];exact SOwn.nil _ _ _,Below.refl _ _⟩
 rw [decide_eq_true hr] at HW
 have HN:=Lib.hid (RunI.start (W:=W) room l.length l (by omega))
 have hmk:=mk_row l.length (by omega)
 have HI:=Lib.hid hi
 have HB:=Lib.hid hb
 have HRm:=Lib.hid hr
 obtain ⟨i0,hi0,hz0,hz1,hz2⟩:=info_parts row_info
 have HIi:=Lib.hid hi0
 have HZ0:=Lib.hid hz0
 have HZ1:=Lib.hid hz1
 have HZ2:=Lib.hid hz2
 clear hi hb hr hi0 hz0 hz1 hz2
 go_enter Try.func8,Try.ntmps8
 go_wp2_with fail
 refine HW.out.mono ?_
 rintro e w ⟨rfl,rfl⟩
 clear HW
 go_wp2_with fail
 go_loopw [21,6] (fun i v wr=>∃k:Nat,i=.int .i64 (k:Int)∧k≤l.length∧Hid (RunI 51 W (W.heap.size + 1) room l k v wr)) (fun i _ _=>l.length - (intOf i).toNat)
 case atStart=>exact ⟨0,rfl,Nat.zero_le _,HN⟩
 case round=>
  obtain ⟨k,rfl,hk,H⟩:=hrel
  clear HN
  by_cases hlt:k < l.length
  ·obtain ⟨b,off,rfl,hbl,hc⟩:=its_tn HI.out (by omega)
   obtain ⟨x,hx⟩:∃x,x=l.getD k Itm.z:=⟨_,rfl⟩
   obtain ⟨c0,c1,c2⟩:=hc k hlt x hx
   have a0:=(H.out.bel.cell (p:=⟨b,off + k * 3,none⟩) hbl).trans c0
   have a1:=(H.out.bel.cell (p:=⟨b,off + k * 3 + 1,none⟩) hbl).trans c1
   have a2:=(H.out.bel.cell (p:=⟨b,off + k * 3 + 2,none⟩) hbl).trans c2
   have hxb:=HB.out x (mem_getD hlt hx)
   have HX:=Lib.hid hx
   have HL:=Lib.hid hlt
   have i0':(0:Int)≤(k:Int):=by omega
   have i1:(k:Int) < (l.length:Int):=by omega
   have HJ:=Lib.hid (H.out.to (al_be wr (.cells #[.int .u64 (x.g:Int),.int .u64 (x.c:Int),.int .u64 (x.w:Int)] 49)))
   have HT:=Lib.hid (Blk.new wr 49 #[.int .u64 (x.g:Int),.int .u64 (x.c:Int),.int .u64 (x.w:Int)])
   obtain ⟨m,hm⟩:∃m,m=max (max x.g x.c) x.w:=⟨_,rfl⟩
   have hmax:=fun w=>run_max3 22 x.g x.c x.w m w hm
   have t0:=HT.out.cell (i:=0) (v:=.int .u64 (x.g:Int)) rfl
   have t1:=HT.out.cell (i:=1) (v:=.int .u64 (x.c:Int)) rfl
   have t2:=HT.out.cell (i:=2) (v:=.int .u64 (x.w:Int)) rfl
   have q0:=HJ.out.at_.cell (i:=0) (v:=.int .u64 (((lastR room Rw.z (l.take k)).g:Nat):Int)) rfl
   have y0:=HJ.out.at_.free 0
   have q1:=HJ.out.at_.cell (i:=1) (v:=.int .u64 (((lastR room Rw.z (l.take k)).c:Nat):Int)) rfl
   have y1:=HJ.out.at_.free 1
   have q2:=HJ.out.at_.cell (i:=2) (v:=.int .u64 (((lastR room Rw.z (l.take k)).d:Nat):Int)) rfl
   have y2:=HJ.out.at_.free 2
   have q3:=HJ.out.at_.cell (i:=3) (v:=.int .u64 (((lastR room Rw.z (l.take k)).s:Nat):Int)) rfl
   have y3:=HJ.out.at_.free 3
   have q4:=HJ.out.at_.cell (i:=4) (v:=.int .u64 (((lastR room Rw.z (l.take k)).w:Nat):Int)) rfl
   have y4:=HJ.out.at_.free 4
   clear hc hx c0 c1 c2 hbl HT
   cases hf:x.fit with
   | false=>
     have dm:decide ((1099511627776:Int) < (m:Int))=true:=decide_eq_true (by
      have:¬ x.le 1099511627776:=fun h=>by rw [(Tn.fit_iff x).2 h] at hf;cases hf
      unfold Tn.le at this
      omega)
     have HE:Hid (runR room l=[]∧runE room l=1):=Lib.hid (by unfold runR runE;rw [fitR_not (mem_getD HL.out HX.out) hf];exact ⟨rfl,rfl⟩)
     clear hf hm
     go_wp2_with fail
     go_ret2
     exact ⟨.slice none 0 0,by rw [HE.out.2];rfl,by rw [HE.out.1];exact SOwn.nil _ _ _,HJ.out.bel⟩
   | true=>
     have hfl:=(Tn.fit_iff x).1 hf
     have dm:decide ((1099511627776:Int) < (m:Int))=false:=decide_eq_false (by unfold Tn.le at hfl;omega)
     have HBh:=Lib.hid (fun w=>mt_behind room (lastR room Rw.z (l.take k)) x w (row_le (by omega) H.out.fit) hfl (lastR_ok room _ _ (Rw.z_ok room)) HRm.out)
     have HF:=Lib.hid hf
     clear hf hm hfl
     unfold Rw.agg Tn.agg at HBh
     generalize hr0:lastR room Rw.z (l.take k)=r0 at *
     go_wp2_with fail
     refine (HBh.out _).mono ?_
     rintro e w3 ⟨rfl,hb3⟩
     have HK:Hid (RunI 51 W (W.heap.size + 1) room l k u6 w3):=Lib.hid (HJ.out.to hb3)
     have HS:=Lib.hid (HK.out.set x)
     rw [hr0] at HS
     clear hb3 HBh HJ H dm t0 t1 t2 a0 a1 a2 q0 q1 q2 q3 q4 y0 y1 y2 y3 y4
     obtain ⟨y0,y1,y2,y3,y4⟩:w3.frozen? ⟨W.heap.size + 1,0,none⟩=false∧w3.frozen? ⟨W.heap.size + 1,1,none⟩=false∧w3.frozen? ⟨W.heap.size + 1,2,none⟩=false∧w3.frozen? ⟨W.heap.size + 1,3,none⟩=false∧w3.frozen? ⟨W.heap.size + 1,4,none⟩=false:=⟨HK.out.at_.free 0,HK.out.at_.free 1,HK.out.at_.free 2,HK.out.at_.free 3,HK.out.at_.free 4⟩
     have hk0:=HK.out.at_
     rw [hr0] at hk0
     have q0:=hk0.cell (i:=0) (v:=.int .u64 (r0.g:Int)) rfl
     have q1:=hk0.cell (i:=1) (v:=.int .u64 (r0.c:Int)) rfl
     have q2:=hk0.cell (i:=2) (v:=.int .u64 (r0.d:Int)) rfl
     have q3:=hk0.cell (i:=3) (v:=.int .u64 (r0.s:Int)) rfl
     have q4:=hk0.cell (i:=4) (v:=.int .u64 (r0.w:Int)) rfl
     have HG:Hid (Rw.behind room r0 x=Rw.behind room (lastR room Rw.z (l.take k)) x):=Lib.hid (by rw [hr0])
     generalize hr1:Rw.behind room r0 x=r1 at *
     have HJ2:Hid (RunJ 51 W (W.heap.size + 1) room l k x u6 ((((((w3).setCell ⟨W.heap.size + 1,0,none⟩ (.int .u64 (r1.g:Int))).setCell ⟨W.heap.size + 1,1,none⟩ (.int .u64 (r1.c:Int))).setCell ⟨W.heap.size + 1,2,none⟩ (.int .u64 (r1.d:Int))).setCell ⟨W.heap.size + 1,3,none⟩ (.int .u64 (r1.s:Int))).setCell ⟨W.heap.size + 1,4,none⟩ (.int .u64 (r1.w:Int)))):=HS
     clear HS hk0 hr0
     go_upto_region 11 with fail
     generalize (((((w3).setCell ⟨W.heap.size + 1,0,none⟩ (.int .u64 (r1.g:Int))).setCell ⟨W.heap.size + 1,1,none⟩ (.int .u64 (r1.c:Int))).setCell ⟨W.heap.size + 1,2,none⟩ (.int .u64 (r1.d:Int))).setCell ⟨W.heap.size + 1,3,none⟩ (.int .u64 (r1.s:Int))).setCell ⟨W.heap.size + 1,4,none⟩ (.int .u64 (r1.w:Int))=w4 at *
     clear y0 y1 y2 y3 y4 q0 q1 q2 q3 q4
     have hj0:=HJ2.out.at_
     rw [← HG.out] at hj0
     have q0:=hj0.cell (i:=0) (v:=.int .u64 (r1.g:Int)) rfl
     have q1:=hj0.cell (i:=1) (v:=.int .u64 (r1.c:Int)) rfl
     have q2:=hj0.cell (i:=2) (v:=.int .u64 (r1.d:Int)) rfl
     have q3:=hj0.cell (i:=3) (v:=.int .u64 (r1.s:Int)) rfl
     have q4:=hj0.cell (i:=4) (v:=.int .u64 (r1.w:Int)) rfl
     have HLn:Hid ((curve room Rw.z (l.take k)).length=k):=Lib.hid (by rw [curve_len,List.length_take];omega)
     obtain ⟨ap,cp,hv,hp1,hp2,_,_⟩:=HJ2.out.own.form
     rw [HLn.out] at hv hp1
     have HO2:Hid ((w4.alloc (.cells #[.int .u64 (r1.g:Int),.int .u64 (r1.c:Int),.int .u64 (r1.d:Int),.int .u64 (r1.s:Int),.int .u64 (r1.w:Int)] 51)).ownsRow W.heap.size 51 5 (.slice ap k cp) k ((curve room Rw.z (l.take k)).flatMap Itm.cs)):=Lib.hid (by
      have:=HJ2.out.own.keep (al_be w4 (.cells #[.int .u64 (r1.g:Int),.int .u64 (r1.c:Int),.int .u64 (r1.d:Int),.int .u64 (r1.s:Int),.int .u64 (r1.w:Int)] 51))
      unfold SOwn at this
      rw [HLn.out,hv] at this
      exact this)
     have HNw:=Lib.hid (World.news_of_block (Blk.new w4 51 #[.int .u64 (r1.g:Int),.int .u64 (r1.c:Int),.int .u64 (r1.d:Int),.int .u64 (r1.s:Int),.int .u64 (r1.w:Int)]))
     have HOne:=Lib.hid (Itm.one r1)
     have hsz:W.heap.size≤(w4.alloc (.cells #[.int .u64 (r1.g:Int),.int .u64 (r1.c:Int),.int .u64 (r1.d:Int),.int .u64 (r1.s:Int),.int .u64 (r1.w:Int)] 51)).heap.size:=by have:=HJ2.out.bel.size;simp;omega
     have HNx:=Lib.hid (fun (v':Value) (w5:World) h1 h2 h3=>RunJ.next (v':=v') (w5:=w5) (ob:=.cells #[.int .u64 (r1.g:Int),.int .u64 (r1.c:Int),.int .u64 (r1.d:Int),.int .u64 (r1.s:Int),.int .u64 (r1.w:Int)] 51) HJ2.out HL.out HX.out HF.out HK.out.fit h1 h2 h3)
     rw [← HG.out,hv] at HNx
     subst hv
     clear hj0 HJ2 HK hmax hmk
     go_wp2_with (at_builtin;refine wpList_append_own_at _ rfl (.tmp 37) (.tmp 39) 25 rfl W.heap.size 51 _ (.agg #[.int .u64 0,.int .u64 0,.int .u64 0,.int .u64 0,.int .u64 0]) 5 40 Try.underlying25 HIi.out HZ0.out HZ1.out HZ2.out rfl (by decide) (.slice ap k cp) k ((curve room Rw.z (l.take k)).flatMap Itm.cs) rfl HO2.out ⟨w4.heap.size,0,none⟩ 1 1 (Itm.cs r1) rfl rfl HNw.out HOne.out (by unfold maxLen;omega) (by omega) hsz ?_;intro v' w5 hown hgr hnil hat;have HN5:=Lib.hid (HNx.out v' w5 hown hgr hat);clear hown hgr hnil hat)
     clear HO2 HNw HOne hsz HNx
     go_wp2_with fail
     go_roundw
     case rel=>exact ⟨k + 1,by go_num,by omega,HN5⟩
     case measure=>simp [intOf];omega
  ·obtain rfl:k=l.length:=by omega
   have HE:Hid (runR room l=curve room Rw.z l∧runE room l=0):=Lib.hid (by
    have:=fitR_all (l:=l) HRm.out (by have:=H.out.fit;rwa [List.take_length] at this)
    unfold runR runE;rw [this];exact ⟨rfl,rfl⟩)
   have hO:=H.out.own
   rw [List.take_length] at hO
   have HO:=Lib.hid hO
   clear hO
   go_wp2_with fail
   go_ret2
   exact ⟨u6,by rw [HE.out.2];rfl,by rw [HE.out.1];exact HO.out,H.out.bel⟩
end Go.Proofs.Ytljganehlagnoaa

set_option linter.unusedVariables false
namespace Go.Proofs.Ytljganehlagnoaa
open Go.RowKit
structure ChkI (T:TypeId) (W:World) (z room:Nat) (l:List Rw) (k:Nat) (w:World):Prop where
 at_:Blk w z T (lastW Rw.z (l.take k)).cells
 bel:Below W.heap.size W w
 zb:W.heap.size≤z
 fine:fineR room Rw.z (l.take k)
 le:(lastW Rw.z (l.take k)).le (k * 1099511627776)
theorem ChkI.to {T:TypeId} {W w w':World} {z room k:Nat} {l:List Rw} (h:ChkI T W z room l k w) (b:Below w.heap.size w w'):ChkI T W z room l k w':=
 ⟨h.at_.keep b,bel_to h.bel b h.bel.size,h.zb,h.fine,h.le⟩
theorem fine_le {room M:Nat} {a r:Rw} (h:clauseR room a r=0) (ha:a.le M):r.le (M + 1099511627776):=by
 have k:=clause_fine h
 obtain ⟨a0,a1,a2,a3,a4⟩:=ha
 have:=k.g;have:=k.c;have:=k.d;have:=k.s;have:=k.w
 exact ⟨by omega,by omega,by omega,by omega,by omega⟩
theorem ChkI.next {T:TypeId} {W w:World} {z room k:Nat} {l:List Rw} {x:Rw} (h:ChkI T W z room l k w) (hlt:k < l.length) (hx:x=l.getD k Itm.z) (hc:clauseR room (lastW Rw.z (l.take k)) x=0):ChkI T W z room l (k + 1) (w.setCells z 0 x.cs):=by
 have e1:=take_snoc' l k hlt x hx
 refine ⟨?_,Below.sets h.zb _ _ _ h.bel,h.zb,?_,?_⟩
 ·rw [e1,lastW_snoc];exact h.at_.whole x.cs rfl
 ·rw [e1];exact fineR_snoc _ _ _ _ h.fine hc
 ·rw [e1,lastW_snoc];exact (fine_le hc h.le).mono (by omega)
set_option maxRecDepth 100000 in
set_option maxHeartbeats 1000000 in
theorem mt_Check (room:Nat) (l:List Rw) (ao:Option Addr) (cap:Nat) (W:World) (hi:Its W ao l) (hl:l.length≤200) (hb:∀t∈l,t.le 18446744073709551615):
  Calls Try.prog 13 #[.int .u64 (room:Int),.slice ao l.length cap] W fun e w'=>e=.returned (.tuple #[.int .i64 ((chkR room l).1:Int),.int .i64 ((chkR room l).2:Int)])∧Below W.heap.size W w':=by
 have HW:=Lib.hid (mt_within room l.length W (by omega))
 by_cases hr:room≤72057594037927936
 case neg=>
  have HE:Hid (chkR room l=(0,1)):=Lib.hid (if_neg hr)
  rw [decide_eq_false hr] at HW
  go_enter Try.func13,Try.ntmps13
  go_wp2_with fail
  refine HW.out.mono ?_
  rintro e w ⟨rfl,rfl⟩
  go_wp2_with fail
  go_ret2
  exact ⟨by rw [HE.out];rfl,Below.refl _ _⟩
 rw [decide_eq_true hr] at HW
 have HC:Hid (chkR room l=checkR room Rw.z 0 l):=Lib.hid (if_pos hr)
 have HN:Hid (ChkI 51 W W.heap.size room l 0 (W.alloc (.cells #[.int .u64 0,.int .u64 0,.int .u64 0,.int .u64 0,.int .u64 0] 51))):=Lib.hid ⟨Blk.new W _ _,al_be _ _,Nat.le_refl _,trivial,⟨by simp [lastW,Rw.z],by simp [lastW,Rw.z],by simp [lastW,Rw.z],by simp [lastW,Rw.z],by simp [lastW,Rw.z]⟩⟩
 have HI:=Lib.hid hi
 have HB:=Lib.hid hb
 clear hi hb hr
 go_enter Try.func13,Try.ntmps13
 go_wp2_with fail
 refine HW.out.mono ?_
 rintro e w ⟨rfl,rfl⟩
 clear HW
 go_wp2_with fail
 go_loopw [18] (fun i wr=>∃k:Nat,i=.int .i64 (k:Int)∧k≤l.length∧Hid (ChkI 51 W W.heap.size room l k wr)) (fun i _=>l.length - (intOf i).toNat)
 case atStart=>exact ⟨0,rfl,Nat.zero_le _,HN⟩
 case round=>
  obtain ⟨k,rfl,hk,H⟩:=hrel
  clear HN
  by_cases hlt:k < l.length
  ·obtain ⟨b,off,rfl,hbl,hc⟩:=its_rw HI.out (by omega)
   obtain ⟨x,hx⟩:∃x,x=l.getD k Itm.z:=⟨_,rfl⟩
   obtain ⟨c0,c1,c2,c3,c4⟩:=hc k hlt x hx
   have a0:=(H.out.bel.cell (p:=⟨b,off + k * 5,none⟩) hbl).trans c0
   have a1:=(H.out.bel.cell (p:=⟨b,off + k * 5 + 1,none⟩) hbl).trans c1
   have a2:=(H.out.bel.cell (p:=⟨b,off + k * 5 + 2,none⟩) hbl).trans c2
   have a3:=(H.out.bel.cell (p:=⟨b,off + k * 5 + 3,none⟩) hbl).trans c3
   have a4:=(H.out.bel.cell (p:=⟨b,off + k * 5 + 4,none⟩) hbl).trans c4
   have HX:=Lib.hid hx
   have HL:=Lib.hid hlt
   have i0':(0:Int)≤(k:Int):=by omega
   have i1:(k:Int) < (l.length:Int):=by omega
   have HJ:=Lib.hid (H.out.to (al_be wr (.cells #[.int .u64 (x.g:Int),.int .u64 (x.c:Int),.int .u64 (x.d:Int),.int .u64 (x.s:Int),.int .u64 (x.w:Int)] 51)))
   have HT:=Lib.hid (Blk.new wr 51 #[.int .u64 (x.g:Int),.int .u64 (x.c:Int),.int .u64 (x.d:Int),.int .u64 (x.s:Int),.int .u64 (x.w:Int)])
   have HNe:Hid (wr.heap.size≠W.heap.size):=Lib.hid (by have:=H.out.at_.lt;omega)
   have HCl:=Lib.hid (fun w=>mt_clause room x (lastW Rw.z (l.take k)) w (HB.out x (mem_getD hlt hx)) (H.out.le.mono (by omega)))
   obtain ⟨ah,hah⟩:∃r,r=lastW Rw.z (l.take k):=⟨_,rfl⟩
   have HA:=Lib.hid hah
   rw [← hah] at HCl
   have hat:=HJ.out.at_
   rw [← hah] at hat
   have q0:=hat.cell (i:=0) (v:=.int .u64 (ah.g:Int)) rfl
   have q1:=hat.cell (i:=1) (v:=.int .u64 (ah.c:Int)) rfl
   have q2:=hat.cell (i:=2) (v:=.int .u64 (ah.d:Int)) rfl
   have q3:=hat.cell (i:=3) (v:=.int .u64 (ah.s:Int)) rfl
   have q4:=hat.cell (i:=4) (v:=.int .u64 (ah.w:Int)) rfl
   have t0:=HT.out.cell (i:=0) (v:=.int .u64 (x.g:Int)) rfl
   have t1:=HT.out.cell (i:=1) (v:=.int .u64 (x.c:Int)) rfl
   have t2:=HT.out.cell (i:=2) (v:=.int .u64 (x.d:Int)) rfl
   have t3:=HT.out.cell (i:=3) (v:=.int .u64 (x.s:Int)) rfl
   have t4:=HT.out.cell (i:=4) (v:=.int .u64 (x.w:Int)) rfl
   clear hc hx c0 c1 c2 c3 c4 hbl hat hah
   unfold Rw.agg at HCl
   obtain ⟨cn,hcn⟩:∃c,c=clauseR room ah x:=⟨_,rfl⟩
   have HCn:=Lib.hid hcn
   rw [← hcn] at HCl
   clear hcn
   go_wp2_with fail
   refine (HCl.out _).mono ?_
   rintro e w2 ⟨rfl,hb2⟩
   have HK:=Lib.hid (HJ.out.to hb2)
   have HT2:=Lib.hid (HT.out.keep hb2)
   clear hb2 HCl HJ HT H a0 a1 a2 a3 a4 q0 q1 q2 q3 q4 t0 t1 t2 t3 t4
   by_cases hz:cn=0
   ·subst hz
    have hc0:clauseR room (lastW Rw.z (l.take k)) x=0:=by rw [← HA.out];exact HCn.out.symm
    have HNx:Hid (ChkI 51 W W.heap.size room l (k + 1) ((((((w2).setCell ⟨W.heap.size,0,none⟩ (.int .u64 (x.g:Int))).setCell ⟨W.heap.size,1,none⟩ (.int .u64 (x.c:Int))).setCell ⟨W.heap.size,2,none⟩ (.int .u64 (x.d:Int))).setCell ⟨W.heap.size,3,none⟩ (.int .u64 (x.s:Int))).setCell ⟨W.heap.size,4,none⟩ (.int .u64 (x.w:Int)))):=Lib.hid (HK.out.next HL.out HX.out hc0)
    have t0:=HT2.out.cell (i:=0) (v:=.int .u64 (x.g:Int)) rfl
    have t1:=HT2.out.cell (i:=1) (v:=.int .u64 (x.c:Int)) rfl
    have t2:=HT2.out.cell (i:=2) (v:=.int .u64 (x.d:Int)) rfl
    have t3:=HT2.out.cell (i:=3) (v:=.int .u64 (x.s:Int)) rfl
    have t4:=HT2.out.cell (i:=4) (v:=.int .u64 (x.w:Int)) rfl
    have hat:=HK.out.at_
    rw [← HA.out] at hat
    have q0:=hat.cell (i:=0) (v:=.int .u64 (ah.g:Int)) rfl
    have q1:=hat.cell (i:=1) (v:=.int .u64 (ah.c:Int)) rfl
    have q2:=hat.cell (i:=2) (v:=.int .u64 (ah.d:Int)) rfl
    have q3:=hat.cell (i:=3) (v:=.int .u64 (ah.s:Int)) rfl
    have q4:=hat.cell (i:=4) (v:=.int .u64 (ah.w:Int)) rfl
    have y0:=hat.free 0
    have y1:=hat.free 1
    have y2:=hat.free 2
    have y3:=hat.free 3
    have y4:=hat.free 4
    clear hat HK HT2 hc0 HCn HA
    go_wp2_with fail
    go_roundw
    case rel=>exact ⟨k + 1,by go_num,by omega,HNx⟩
    case measure=>simp [intOf];omega
   ·have HE:Hid (checkR room Rw.z 0 l=(k,cn)):=Lib.hid (by
     have:=checkR_stop HK.out.fine HL.out HX.out (by rw [← HA.out,← HCn.out];exact hz)
     rw [this,← HA.out,← HCn.out])
    have dz:((cn:Int) == 0)=false:=by simp;omega
    clear hz
    go_wp2_with fail
    go_ret2
    exact ⟨by rw [HC.out,HE.out];rfl,HK.out.bel⟩
  ·obtain rfl:k=l.length:=by omega
   have HE:Hid (checkR room Rw.z 0 l=(0,0)):=Lib.hid (checkR_fine (by have:=H.out.fine;rwa [List.take_length] at this))
   go_wp2_with fail
   go_ret2
   exact ⟨by rw [HC.out,HE.out];rfl,H.out.bel⟩
end Go.Proofs.Ytljganehlagnoaa

set_option linter.unusedVariables false
namespace Go.Proofs.Ytljganehlagnoaa
open Go.RowKit
structure BoxR (W:World) (z:Nat) (T:TypeId) (a:Rw) (w:World):Prop where
 b:Blk w z T a.cells
 bel:Below W.heap.size W w
 zb:W.heap.size≤z
theorem BoxR.to {W w w':World} {z:Nat} {T:TypeId} {a:Rw} (h:BoxR W z T a w) (k:Below w.heap.size w w'):BoxR W z T a w':=⟨h.b.keep k,bel_to h.bel k h.bel.size,h.zb⟩
theorem BoxR.set {W w:World} {z:Nat} {T:TypeId} {a:Rw} (h:BoxR W z T a w) (x:Rw):BoxR W z T x (w.setCells z 0 x.cs):=⟨h.b.whole x.cs rfl,Below.sets h.zb _ _ _ h.bel,h.zb⟩
theorem keep_set2 {α:Type} [Itm α] {T U:TypeId} {B z:Nat} {w:World} {v:Value} {l:List α} {r a:Rw} (h:SOwn T B w v l) (hz:Blk w z U a.cells) (hT:U≠T):SOwn T B (w.setCells z 0 r.cs) v l:=
 h.blk (fun g cs hg hb=>hb.sets_other (fun e=>by subst e;exact hz.ty hb hT rfl) _ _ _)
structure TuI (W:World) (z:Nat) (T U:TypeId) (l:List Rw) (k:Nat) (v:Value) (w:World):Prop where
 box:BoxR W z T (lastW Rw.z (l.take k)) w
 own:SOwn U W.heap.size w v (turnsR Rw.z (l.take k))
theorem TuI.next {W w:World} {z k:Nat} {T U:TypeId} {l:List Rw} {v:Value} {x a:Rw} (hb:BoxR W z T a w) (hT:T≠U) (ho:SOwn U W.heap.size w v (turnsR Rw.z (l.take (k + 1)))) (hlt:k < l.length) (hx:x=l.getD k Itm.z):TuI W z T U l (k + 1) v (w.setCells z 0 x.cs):=by
 have e1:=take_snoc' l k hlt x hx
 refine ⟨?_,keep_set2 ho hb.b hT⟩
 rw [e1,lastW_snoc]
 exact hb.set x
end Go.Proofs.Ytljganehlagnoaa

set_option linter.unusedVariables false
namespace Go.Proofs.Ytljganehlagnoaa
open Go.RowKit
end Go.Proofs.Ytljganehlagnoaa

set_option linter.unusedVariables false
namespace Go.Proofs.Ytljganehlagnoaa
open Go.RowKit
def aT:List Tn:=[⟨4,13,0⟩,⟨9,1,9⟩]
def aR:List Rw:=[⟨4,13,3,4,0⟩,⟨13,14,3,11,2⟩]
def aS:List Rw:=[⟨4,13,3,4,0⟩,⟨13,14,3,11,3⟩]
theorem run_a:runR 10 aT=aR∧runE 10 aT=0:=by decide +kernel
theorem chk_a:chkR 10 aR=(0,0):=by decide +kernel
theorem chk_b:chkR 10 aS=(1,4):=by decide +kernel
theorem le_aT:∀t∈aT,t.le 18446744073709551615:=by
 intro t ht
 simp only [aT,List.mem_cons,List.not_mem_nil,or_false] at ht
 rcases ht with rfl | rfl <;> exact ⟨by decide,by decide,by decide⟩
theorem le_aR:∀t∈aR,t.le 18446744073709551615:=by
 intro t ht
 simp only [aR,List.mem_cons,List.not_mem_nil,or_false] at ht
 rcases ht with rfl | rfl <;> exact ⟨by decide,by decide,by decide,by decide,by decide⟩
theorem le_aS:∀t∈aS,t.le 18446744073709551615:=by
 intro t ht
 simp only [aS,List.mem_cons,List.not_mem_nil,or_false] at ht
 rcases ht with rfl | rfl <;> exact ⟨by decide,by decide,by decide,by decide,by decide⟩
theorem its_two (w:World):Its (w.alloc (.cells #[.int .u64 4,.int .u64 13,.int .u64 0,.int .u64 9,.int .u64 1,.int .u64 9] 49)) (some ⟨w.heap.size,0,none⟩) aT:=Its.of_blk (g:=w.heap.size) (T:=49) (l:=aT) (Blk.new w 49 #[.int .u64 4,.int .u64 13,.int .u64 0,.int .u64 9,.int .u64 1,.int .u64 9])
theorem own_two {B:Nat} {w:World} {g cap:Nat} (h:SOwn 51 B w (.slice (some ⟨g,0,none⟩) 2 cap) aR):(∃cur,Blk w g 51 cur)∧B≤g∧(w.cell? ⟨g,0,none⟩=some (.int .u64 4)∧w.cell? ⟨g,1,none⟩=some (.int .u64 13)∧w.cell? ⟨g,2,none⟩=some (.int .u64 3)∧w.cell? ⟨g,3,none⟩=some (.int .u64 4)∧w.cell? ⟨g,4,none⟩=some (.int .u64 0))∧w.cell? ⟨g,5,none⟩=some (.int .u64 13)∧w.cell? ⟨g,6,none⟩=some (.int .u64 14)∧w.cell? ⟨g,7,none⟩=some (.int .u64 3)∧w.cell? ⟨g,8,none⟩=some (.int .u64 11)∧w.cell? ⟨g,9,none⟩=some (.int .u64 2):=by
 obtain ⟨b1,cur,b2⟩:=h.own g rfl
 obtain ⟨ao,cap',e,_,_,hi,_⟩:=h.form
 injection e with e
 subst e
 obtain ⟨b,off,e,_,hc⟩:=its_rw hi (by decide)
 injection e with e
 injection e with e1 e2
 subst e1 e2
 have h0:=hc 0 (by decide) _ rfl
 have h1:=hc 1 (by decide) _ rfl
 exact ⟨⟨cur,b2⟩,b1,h0,h1⟩
theorem its_aS {w:World} {g:Nat} {cur:Array Value} (hb:Blk w g 51 cur) (h0:w.cell? ⟨g,0,none⟩=some (.int .u64 4)∧w.cell? ⟨g,1,none⟩=some (.int .u64 13)∧w.cell? ⟨g,2,none⟩=some (.int .u64 3)∧w.cell? ⟨g,3,none⟩=some (.int .u64 4)∧w.cell? ⟨g,4,none⟩=some (.int .u64 0)) (h1:w.cell? ⟨g,5,none⟩=some (.int .u64 13)∧w.cell? ⟨g,6,none⟩=some (.int .u64 14)∧w.cell? ⟨g,7,none⟩=some (.int .u64 3)∧w.cell? ⟨g,8,none⟩=some (.int .u64 11)∧w.cell? ⟨g,9,none⟩=some (.int .u64 2)):Its (w.setCell ⟨g,9,none⟩ (.int .u64 3)) (some ⟨g,0,none⟩) aS:=by
 intro _
 have f:∀n v,n≠9→w.cell? ⟨g,n,none⟩=some v→(w.setCell ⟨g,9,none⟩ (.int .u64 3)).cell? ⟨g,n,none⟩=some v:=fun n v hn h=>by
  rw [World.cell?_setCell_other _ _ _ _ (by intro e;injection e with _ e;exact hn e.symm)];exact h
 have h9:(w.setCell ⟨g,9,none⟩ (.int .u64 3)).cell? ⟨g,9,none⟩=some (.int .u64 3):=by
  have hc:=h1.2.2.2.2
  have hs:9 < cur.size:=by
   unfold Blk at hb
   unfold World.cell? at hc
   simp only [hb] at hc
   rcases Nat.lt_or_ge 9 cur.size with c | c
   ·exact c
   ·simp [Array.getElem?_eq_none c] at hc
  exact (hb.set 9 (.int .u64 3)).cell (by simp [hs])
 obtain ⟨a0,a1,a2,a3,a4⟩:=h0
 obtain ⟨a5,a6,a7,a8,a9⟩:=h1
 refine ⟨g,0,rfl,(hb.set 9 (.int .u64 3)).lt,fun i j hi hj=>?_⟩
 have hi':i < 2:=hi
 have hj':j < 5:=hj
 match i,hi',j,hj' with
 | 0,_,0,_=>exact f _ _ (by decide) a0
 | 0,_,1,_=>exact f _ _ (by decide) a1
 | 0,_,2,_=>exact f _ _ (by decide) a2
 | 0,_,3,_=>exact f _ _ (by decide) a3
 | 0,_,4,_=>exact f _ _ (by decide) a4
 | 1,_,0,_=>exact f _ _ (by decide) a5
 | 1,_,1,_=>exact f _ _ (by decide) a6
 | 1,_,2,_=>exact f _ _ (by decide) a7
 | 1,_,3,_=>exact f _ _ (by decide) a8
 | 1,_,4,_=>exact h9
set_option maxRecDepth 100000 in
set_option maxHeartbeats 1000000 in
theorem alive22 (W:World):Calls Try.prog 7 #[] W fun e w'=>e=.returned (.bool true)∧Below W.heap.size W w':=by
 have HR:Hid (∀w,Its w (some ⟨W.heap.size,0,none⟩) aT→Calls Try.prog 8 #[.int .u64 10,.slice (some ⟨W.heap.size,0,none⟩) 2 2] w fun e w'=>∃v,e=.returned (.tuple #[v,.int .i64 0])∧SOwn 51 w.heap.size w' v aR∧Below w.heap.size w w'):=Lib.hid (fun w h=>by
  have:=mt_Run 10 aT (some ⟨W.heap.size,0,none⟩) 2 w h (by decide) le_aT
  rw [run_a.1,run_a.2] at this
  exact this)
 have HC:Hid (∀w ao cap,Its w ao aR→Calls Try.prog 13 #[.int .u64 10,.slice ao 2 cap] w fun e w'=>e=.returned (.tuple #[.int .i64 0,.int .i64 0])∧Below w.heap.size w w'):=Lib.hid (fun w ao cap h=>by
  have:=mt_Check 10 aR ao cap w h (by decide) le_aR
  rw [chk_a] at this
  exact this)
 have HD:Hid (∀w ao cap,Its w ao aS→Calls Try.prog 13 #[.int .u64 10,.slice ao 2 cap] w fun e w'=>e=.returned (.tuple #[.int .i64 1,.int .i64 4])∧Below w.heap.size w w'):=Lib.hid (fun w ao cap h=>by
  have:=mt_Check 10 aS ao cap w h (by decide) le_aS
  rw [chk_b] at this
  exact this)
 have I0:=Lib.hid (its_two W)
 have B0:=Lib.hid (al_be W (.cells #[.int .u64 4,.int .u64 13,.int .u64 0,.int .u64 9,.int .u64 1,.int .u64 9] 49))
 go_enter Try.func7,Try.ntmps7
 go_wp2_with fail
 refine (HR.out _ I0.out).mono ?_
 rintro e w1 ⟨v,rfl,ho,hb⟩
 obtain ⟨g,cap,rfl⟩:=sown_succ (n:=1) ho
 have HO:=Lib.hid ho
 have B1:=Lib.hid (bel_to B0.out hb B0.out.size)
 have HI:Hid (Its w1 (some ⟨g,0,none⟩) aR):=Lib.hid (by
  obtain ⟨ao,cap',e,_,_,hi,_⟩:=ho.form
  injection e with e
  subst e
  exact hi)
 clear ho hb HR I0
 go_wp2_with fail
 refine (HC.out _ _ _ HI.out).mono ?_
 rintro e w2 ⟨rfl,hb⟩
 have B2:=Lib.hid (bel_to B1.out hb B1.out.size)
 obtain ⟨⟨cur,hbk⟩,hg,h0,h1⟩:=own_two (HO.out.keep hb)
 have HBk:=Lib.hid hbk
 have H0:=Lib.hid h0
 have H1:=Lib.hid h1
 have IS:=Lib.hid (its_aS hbk h0 h1)
 have y9:=hbk.free 9
 have B3:Hid (Below W.heap.size W (w2.setCell ⟨g,9,none⟩ (.int .u64 3))):=Lib.hid (B2.out.setCell (p:=⟨g,9,none⟩) (by have:=B0.out.size;simp at hg;show W.heap.size≤g;omega) _)
 obtain ⟨a0,a1,a2,a3,a4⟩:=h0
 obtain ⟨a5,a6,a7,a8,a9⟩:=h1
 clear hb hbk hg HC HI HO
 go_wp2_with fail
 refine (HD.out _ _ _ IS.out).mono ?_
 rintro e w3 ⟨rfl,hb⟩
 have B4:=Lib.hid (bel_to B3.out hb B3.out.size)
 clear hb HD IS
 go_wp2_with fail
 go_ret
 exact ⟨rfl,B4.out⟩
end Go.Proofs.Ytljganehlagnoaa

set_option linter.unusedVariables false
namespace Go.Proofs.Ytljganehlagnoaa
open Go.RowKit
theorem fit_of {room:Nat} {l:List Tn} (h:fitR room l=true):room≤72057594037927936∧∀t∈l,t.fit=true:=by
 unfold fitR at h
 rw [Bool.and_eq_true,decide_eq_true_eq] at h
 exact ⟨h.1,List.all_eq_true.1 h.2⟩
def wasteT (t:Tn) (m:Nat):Tn:=⟨t.g,t.c,max t.w (min m 1099511627776)⟩
def moreT:List Tn→List Nat→List Tn
 | [],_=>[]
 | t :: l,[]=>t :: moreT l []
 | t :: l,m :: r=>wasteT t m :: moreT l r
theorem moreT_nil (l:List Tn):moreT l []=l:=by induction l with
 | nil=>rfl
 | cons t l ih=>rw [moreT,ih]
theorem moreT_len (l:List Tn):∀r,(moreT l r).length=l.length:=by induction l with
 | nil=>intro r;rfl
 | cons t l ih=>intro r;cases r <;> simp [moreT,ih]
def oneT (r:List Nat) (k:Nat) (x:Tn):Tn:=if k < r.length then wasteT x (r.getD k 0) else x
theorem moreT_take (l:List Tn):∀(r:List Nat) (k:Nat),k < l.length→∀x,x=l.getD k Itm.z→moreT (l.take (k + 1)) r=moreT (l.take k) r ++ [oneT r k x]:=by induction l with
 | nil=>intro r k h;simp at h
 | cons t l ih=>
   intro r k h x hx
   cases k with
   | zero=>
     have hx:x=t:=hx
     subst hx
     cases r with
     | nil=>rfl
     | cons m r=>rfl
   | succ k=>
     have h:k < l.length:=by simpa using h
     have hx:x=l.getD k Itm.z:=by simpa using hx
     cases r with
     | nil=>
       have:=ih [] k h x hx
       rw [List.take_succ_cons,List.take_succ_cons,moreT,moreT,this]
       rfl
     | cons m r=>
       have:=ih r k h x hx
       rw [List.take_succ_cons,List.take_succ_cons,moreT,moreT,this]
       have e:oneT r k x=oneT (m :: r) (k + 1) x:=by unfold oneT;simp
       rw [e];rfl
theorem waste_fit (t:Tn) (m:Nat):(wasteT t m).fit=t.fit:=by
 unfold wasteT Tn.fit
 dsimp only
 have:decide (max t.w (min m 1099511627776)≤1099511627776)=decide (t.w≤1099511627776):=by apply decide_eq_decide.2;omega
 rw [this]
theorem more_fit (l:List Tn):∀r,(moreT l r).all Tn.fit=l.all Tn.fit:=by induction l with
 | nil=>intro r;rfl
 | cons t l ih=>intro r;cases r with
   | nil=>rw [moreT_nil]
   | cons m r=>rw [moreT,List.all_cons,List.all_cons,ih,waste_fit]
theorem more_fitR (room:Nat) (l:List Tn) (r:List Nat):fitR room (moreT l r)=fitR room l:=by unfold fitR;rw [more_fit]
theorem more_le {M:Nat} (hM:1099511627776≤M) (l:List Tn):∀r,(∀t∈l,t.le M)→∀t∈moreT l r,t.le M:=by induction l with
 | nil=>intro r _ t ht;simp [moreT] at ht
 | cons x l ih=>
   intro r h t ht
   have hx:=h x (by simp)
   cases r with
   | nil=>rw [moreT_nil] at ht;exact h t ht
   | cons m r=>
     rw [moreT,List.mem_cons] at ht
     rcases ht with rfl | ht
     ·exact ⟨hx.1,hx.2.1,by have:=hx.2.2;unfold wasteT;dsimp;omega⟩
     ·exact ih r (fun y hy=>h y (by simp [hy])) t ht
structure Less (room:Nat) (a b:Rw):Prop where
 oa:a.ok room
 ob:b.ok room
 g:b.g=a.g
 c:b.c=a.c
 d:a.d≤b.d
 s:b.s≤a.s
 q:a.c - a.d - a.s≤b.c - b.d - b.s
 t:b.g - b.s - b.w≤a.g - a.s - a.w
theorem less_core {room c g x y qa qb ta tb pa pb sa sb wa wb:Nat} (hq:qa≤qb) (hb:qb≤room) (ht:tb≤ta) (hw:x≤y) (epa:pa=min c (room - qa)) (epb:pb=min c (room - qb)) (esa:sa=min (qa + pa) (ta + g)) (esb:sb=min (qb + pb) (tb + g))
  (ewa:wa=if qa + pa - sa=0 then min x (ta + g - sa) else 0) (ewb:wb=if qb + pb - sb=0 then min y (tb + g - sb) else 0):
  pb≤pa∧pa≤c∧qa + pa≤qb + pb∧(sa=qa + pa∨sa=ta + g)∧sb≤qb + pb∧sb≤tb + g∧qa + pa - sa≤qb + pb - sb∧tb + g - sb - wb≤ta + g - sa - wa:=by
 have h1:pb≤pa:=by omega
 have h2:pa≤c:=by omega
 have h3:qa + pa≤qb + pb:=by omega
 clear epa epb
 generalize qa + pa=u at *
 generalize qb + pb=v at *
 have h4:ta + g=ta + g:=rfl
 have h5:tb + g≤ta + g:=by omega
 generalize ta + g=m at *
 generalize tb + g=n at *
 clear hq hb ht h4
 refine ⟨h1,h2,h3,by omega,by omega,by omega,by omega,?_⟩
 by_cases k:v - sb=0
 ·have k2:u - sa=0:=by omega
  rw [if_pos k] at ewb
  rw [if_pos k2] at ewa
  omega
 ·rw [if_neg k] at ewb
  omega
set_option maxHeartbeats 1000000 in
theorem Less.next {room:Nat} {a b:Rw} (h:Less room a b) (x y:Tn) (hg:y.g=x.g) (hc:y.c=x.c) (hw:x.w≤y.w):Less room (a.behind room x) (b.behind room y):=by
 obtain ⟨e0,e1,e2,e3,e4⟩:=Rw.behind_mk room a x
 obtain ⟨f0,f1,f2,f3,f4⟩:=Rw.behind_mk room b y
 have ka:=h.oa.behind x
 have kb:=h.ob.behind y
 have a1:=h.oa.q1;have a2:=h.oa.q2;have a3:=h.oa.t1
 have b1:=h.ob.q1;have b2:=h.ob.q2;have b3:=h.ob.t1
 have k0:=h.g;have k1:=h.c;have k2:=h.d;have k3:=h.s;have k4:=h.q;have k5:=h.t
 obtain ⟨c1,c2,c3,c4,c5,c6,c7,c8⟩:=less_core (room:=room) (c:=x.c) (g:=x.g) (x:=x.w) (y:=y.w) (qa:=a.c - a.d - a.s) (qb:=b.c - b.d - b.s) (ta:=a.g - a.s - a.w) (tb:=b.g - b.s - b.w) (pa:=keptR room a x) (pb:=keptR room b y) (sa:=servR room a x) (sb:=servR room b y) (wa:=wastR room a x) (wb:=wastR room b y)
  k4 (by omega) k5 hw rfl (by rw [← hc];rfl) rfl (by rw [← hg];rfl) rfl (by rw [← hg];rfl)
 have l1:=kept_le1 room b y
 rw [hc] at l1
 rw [hg] at f0
 rw [hc] at f1 f2
 clear hg hc hw
 generalize keptR room a x=pka at *
 generalize keptR room b y=pkb at *
 generalize servR room a x=sva at *
 generalize servR room b y=svb at *
 generalize wastR room a x=wva at *
 generalize wastR room b y=wvb at *
 obtain ⟨qa,hqa⟩:∃n,n=a.c - a.d - a.s:=⟨_,rfl⟩
 obtain ⟨qb,hqb⟩:∃n,n=b.c - b.d - b.s:=⟨_,rfl⟩
 obtain ⟨ta,hta⟩:∃n,n=a.g - a.s - a.w:=⟨_,rfl⟩
 obtain ⟨tb,htb⟩:∃n,n=b.g - b.s - b.w:=⟨_,rfl⟩
 rw [← hqa] at c3 c4 c7 k4
 rw [← hqb] at c3 c5 c7 k4
 rw [← hta] at c4 c8 k5
 rw [← htb] at c6 c8 k5
 have ea:a.c=a.d + a.s + qa:=by omega
 have eb:b.c=b.d + b.s + qb:=by omega
 have ga:a.g=a.s + a.w + ta:=by omega
 have gb:b.g=b.s + b.w + tb:=by omega
 clear hqa hqb hta htb a1 a2 a3 b1 b2 b3
 refine ⟨ka,kb,by omega,by omega,by rw [e2,f2];clear c4 c5 c6 c7 c8 c3;omega,?_,?_,?_⟩
 ·rw [e3,f3]
  clear c7 c8
  omega
 ·have x1:a.c + x.c - (a.d + (x.c - pka)) - (a.s + sva)=qa + pka - sva:=by omega
  have x2:b.c + x.c - (b.d + (x.c - pkb)) - (b.s + svb)=qb + pkb - svb:=by omega
  rw [e1,e2,e3,f1,f2,f3,x1,x2];exact c7
 ·have x1:a.g + x.g - (a.s + sva) - (a.w + wva)=ta + x.g - sva - wva:=by omega
  have x2:b.g + x.g - (b.s + svb) - (b.w + wvb)=tb + x.g - svb - wvb:=by omega
  rw [e0,e3,e4,f0,f3,f4,x1,x2];exact c8
theorem less_get {room:Nat} (l:List Tn):∀(r:List Nat) (a b:Rw),Less room a b→∀i,i < l.length→Less room ((curve room a l).getD i Itm.z) ((curve room b (moreT l r)).getD i Itm.z):=by induction l with
 | nil=>intro r a b _ i hi;simp at hi
 | cons t l ih=>
   intro r a b h i hi
   cases r with
   | nil=>
     have hn:=h.next t t rfl rfl (Nat.le_refl _)
     cases i with
     | zero=>exact hn
     | succ i=>exact ih [] _ _ hn i (by simpa using hi)
   | cons m r=>
     have hn:=h.next t (wasteT t m) rfl rfl (by unfold wasteT;dsimp;omega)
     cases i with
     | zero=>exact hn
     | succ i=>exact ih r _ _ hn i (by simpa using hi)
theorem Less.start (room:Nat):Less room Rw.z Rw.z:=⟨Rw.z_ok _,Rw.z_ok _,rfl,rfl,Nat.le_refl _,Nat.le_refl _,Nat.le_refl _,Nat.le_refl _⟩
theorem more_rows {room:Nat} {l:List Tn} {r:List Nat} {i:Nat} {x y:Rw} (hi:i < (runR room l).length) (hx:x=(runR room l).getD i Itm.z) (hy:y=(runR room (moreT l r)).getD i Itm.z):y.s≤x.s∧x.d≤y.d∧x.c - x.d - x.s≤y.c - y.d - y.s∧x.d + x.s≤x.c∧y.d + y.s≤y.c:=by
 cases hf:fitR room l with
 | false=>unfold runR at hi;rw [hf] at hi;simp at hi
 | true=>
   have hg:=more_fitR room l r
   rw [hf] at hg
   unfold runR at hi hx hy
   rw [hf] at hi hx
   rw [hg] at hy
   simp only [if_true] at hi hx hy
   have:=less_get l r _ _ (Less.start room) i (by rw [curve_len] at hi;exact hi)
   rw [← hx,← hy] at this
   exact ⟨this.s,this.d,this.q,this.oa.q1,this.ob.q1⟩
theorem run_le {room:Nat} {l:List Tn} (hl:l.length≤200):∀r∈runR room l,r.le 18446744073709551615:=by
 cases hf:fitR room l with
 | false=>unfold runR;rw [hf];intro r hr;simp at hr
 | true=>
   obtain ⟨h1,h2⟩:=fit_of hf
   unfold runR
   rw [hf]
   simp only [if_true]
   have key:∀(l:List Tn) (a:Rw) (M:Nat),a.ok room→a.le M→(∀t∈l,t.fit=true)→∀r∈curve room a l,r.le (M + l.length * 1099511627776):=by
    intro l
    induction l with
    | nil=>intro a M _ _ _ r hr;simp [curve] at hr
    | cons t l ih=>
      intro a M h k hf r hr
      have ht:=(Tn.fit_iff t).1 (hf t (by simp))
      have hb:=Rw.behind_le h k ht
      rw [curve,List.mem_cons] at hr
      rcases hr with rfl | hr
      ·exact hb.mono (by simp only [List.length_cons];omega)
      ·exact (ih _ _ (h.behind t) hb (fun x hx=>hf x (by simp [hx])) r hr).mono (by simp only [List.length_cons];omega)
   intro r hr
   exact (key l Rw.z 0 (Rw.z_ok room) ⟨Nat.le_refl _,Nat.le_refl _,Nat.le_refl _,Nat.le_refl _,Nat.le_refl _⟩ h2 r hr).mono (by omega)
theorem run_len {room:Nat} {l:List Tn}:(runR room l).length≤l.length:=by
 unfold runR
 split
 ·rw [curve_len];exact Nat.le_refl _
 ·simp
end Go.Proofs.Ytljganehlagnoaa
