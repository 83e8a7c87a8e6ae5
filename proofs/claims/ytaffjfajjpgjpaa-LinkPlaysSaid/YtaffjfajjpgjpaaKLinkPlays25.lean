/- 2 texts put together: what each one says stands ahead of it. -/
import Derived.Test.YtaffjfajjpgjpaaKLinkPlays24
import Derived.Test.YtaffjfajjpgjpaaKLinkPlays18
set_option linter.unusedVariables false
namespace Go.Proofs.Ytaffjfajjpgjpaa
open Go.RowKit
structure DO (B:Nat) (W:World) (m c:Nat) (v0 u0:Value) (s:LS) (B0:Nat) (bv:Value) (bl:List Pk) (ov:Value) (tl:List Pk) (w:World):Prop where
 di:DI B W m c v0 u0 s w
 bef:SOwn 65 B0 w bv bl
 out:SOwn 65 W.heap.size w ov tl
theorem DO.to {B:Nat} {W w w':World} {m c B0:Nat} {v0 u0 bv ov:Value} {s:LS} {bl tl:List Pk} (h:DO B W m c v0 u0 s B0 bv bl ov tl w) (k:Below w.heap.size w w'):DO B W m c v0 u0 s B0 bv bl ov tl w':=⟨h.di.to k,h.bef.keep k,h.out.keep k⟩
theorem DI.head {B m c:Nat} {W w:World} {v0 u0:Value} {s:LS} (h:DI B W m c v0 u0 s w):Blk w m 52 (s.dcells c):=by obtain ⟨v,u,h1,_⟩:=h.at_;exact h1.head
theorem DO.set {B:Nat} {W w:World} {m c B0:Nat} {v0 u0 bv ov:Value} {s s':LS} {bl tl:List Pk} (h:DO B W m c v0 u0 s B0 bv bl ov tl w) (i:Nat) (x:Value) (he:(s.dcells c).setIfInBounds i x=s'.dcells c) (h3:s.k=s'.k∧s.q=s'.q∧s.j=s'.j):DO B W m c v0 u0 s' B0 bv bl ov tl (w.setCell ⟨m,i,none⟩ x):=
 ⟨h.di.set i x he h3,h.bef.blk (fun g cs _ hb=>hb.set_other i x (hb.ty h.di.head (by decide))),h.out.blk (fun g cs _ hb=>hb.set_other i x (hb.ty h.di.head (by decide)))⟩
theorem pk_cell1 {B:Nat} {w:World} {ao:Option Addr} {n cap k:Nat} {l:List Pk} {x:Pk} (h:SOwn 65 B w (.slice ao n cap) l) (hk:k < l.length) (hx:x=l.getD k Itm.z) {g:Nat} (hg:ao=some ⟨g,0,none⟩):w.cell? ⟨g,k * 7 + 1,none⟩=some (.int .u64 (x.size:Int)):=by
 obtain ⟨ao',cap',e,_,_,hi,_⟩:=h.form
 injection e with e _ _
 subst e
 subst hg
 obtain ⟨b,off,e,_,hc⟩:=its_pk hi (by omega)
 injection e with e1 e2
 subst e1 e2
 have:=(hc k hk x hx).2.1
 simpa using this
theorem pk_addr {B:Nat} {w:World} {ao:Option Addr} {n cap:Nat} {l:List Pk} (h:SOwn 65 B w (.slice ao n cap) l) (hp:0 < l.length):∃g,ao=some ⟨g,0,none⟩:=by
 obtain ⟨ao',cap',e,_,_,_,hg⟩:=h.form
 injection e with e _ _
 subst e
 obtain ⟨g,e,_⟩:=hg hp
 exact ⟨g,e⟩
theorem dk_base {B:Nat} {W w1 w:World} {m c:Nat} {v0 u0:Value} {s:LS} (h:DI B w1 m c v0 u0 s w) (k:Below W.heap.size W w1) (hl:∀x∈dl m c v0 u0,x < W.heap.size) (hB:B≤W.heap.size):DI B W m c v0 u0 s w:=by
 obtain ⟨v,u,h1,h2⟩:=h.at_
 have:=k.size
 refine ⟨⟨v,u,h1,by omega,by omega⟩,⟨h.fr.os.trans k.os,h.fr.tape.trans k.tape,h.fr.output.trans k.output,Nat.le_trans k.size h.fr.size,fun i hi hn=>(h.fr.block i (by omega) hn).trans (k.block i hi)⟩,hl,hB⟩
theorem dk_app {B m c g:Nat} {w w1:World} {v u:Value} {s:LS} {cap:Nat} (h:DkAt B w m c v u s) (hl:∀x∈dl m c v u,x < g) (hg:w.grownBy w1 (Value.slice (some ⟨g,0,none⟩) 0 cap).ownBlock):DkAt B w1 m c v u s:=by
 have f:Fr w w1 [g]:=fr_gr hg (fun x hx=>by
  have:g=x:=by simpa [Value.ownBlock] using hx
  simp [this])
 exact h.fr f (fun x hx hm=>by
  have:=hl x hx
  simp at hm
  omega)
theorem totP_snoc (l:List Pk) (k:Nat) (h:k < l.length) (x:Pk) (hx:x=l.getD k Itm.z):totP (l.take (k + 1))=totP (l.take k) + x.size:=by
 rw [take_snoc l k h x hx,totP_app,totP_cons,totP_nil];omega
theorem ahead_same (s:LS) (now waste:Nat) (cs:List Nat):(s.ahead now waste cs).came=s.came∧(s.ahead now waste cs).deliv=s.deliv:=by
 have h1:((s.toT now).serve cs).came=s.came∧((s.toT now).serve cs).deliv=s.deliv:=LS.serve_ind (P:=fun x=>x.came=s.came∧x.deliv=s.deliv) (fun x c h _=>⟨(LS.serve1_came x c).trans h.1,(LS.serve1_deliv x c).trans h.2⟩) _ (s.toT now) cs rfl ⟨LS.toT_came s now,LS.toT_deliv s now⟩
 unfold LS.ahead LS.wasteL
 split
 ·exact h1
 ·exact ⟨(LS.wasteK_came _ _).trans h1.1,(LS.wasteK_deliv _ _).trans h1.2⟩
theorem dk_tick_eq (s:LS) (now waste:Nat) (cs:List Nat):(s.tick now waste cs).k=(s.ahead now waste cs).k∧(s.tick now waste cs).q=(s.ahead now waste cs).q∧(s.tick now waste cs).j=(s.ahead now waste cs).j.outB now∧(s.tick now waste cs).came=s.came∧(s.tick now waste cs).served=(s.ahead now waste cs).served∧(s.tick now waste cs).deliv=s.deliv + totP ((s.ahead now waste cs).j.told now):=by
 have ht:=LS.ahead_t s now waste cs
 have hc:=ahead_same s now waste cs
 unfold LS.tick
 refine ⟨rfl,rfl,?_,?_,rfl,?_⟩
 ·show (s.ahead now waste cs).j.outB (s.ahead now waste cs).t=_;rw [ht]
 ·rw [LS.deliver_came];exact hc.1
 ·rw [LS.deliver_deliv,hc.2];unfold LS.out;rw [ht]
structure DkTick (B:Nat) (W:World) (m c:Nat) (v0 u0:Value) (s:LS) (l:List Pk) (e:Ending) (w:World):Prop where
 e:∃ov,e=.returned (.tuple #[ov,.int .i64 0])∧SOwn 65 W.heap.size w ov l
 di:DI B W m c v0 u0 s w
theorem told_small {a:LS} {now:Nat} (h:a.ok 5000):(∀p∈a.j.told now,p.size≤18446744073709551615)∧(a.j.told now).length≤5000:=by
 refine ⟨fun p hp=>?_,Nat.le_trans (BxS.told_len a.j now) (by have:=h.n;omega)⟩
 have h1:p∈a.j.pks:=by rw [LS.told_out a.j now];exact List.mem_append_left _ hp
 obtain ⟨x,hx,rfl⟩:=List.mem_map.1 h1
 exact h.sz x hx
set_option maxRecDepth 100000 in
set_option maxHeartbeats 2000000 in
theorem dk_Tick (B m c:Nat) (v0 u0:Value) (s:LS) (now waste:Nat) (cs:List Nat) (ao:Option Addr) (cap0:Nat) (W:World) (h:DkAt B W m c v0 u0 s) (hB:B≤W.heap.size) (ho:s.ok 5000) (ht:s.k.t≤now) (hn:now≤18446744073709551615) (hw:waste≤18446744073709551615) (hi:Nus W ao cs) (ha:0 < cs.length→Apart ao (dl m c v0 u0)) (hm:∀c∈cs,c≤18446744073709551615) (hcap:cs.length≤9223372036854775807):
  Calls Try.prog 12 #[.pointer (some ⟨m,0,none⟩),.int .u64 (now:Int),.int .u64 (waste:Int),.slice ao cs.length cap0] W (DkTick B W m c v0 u0 (s.tick now waste cs) ((s.ahead now waste cs).j.told now)):=by
 have HOk:=Lib.hid ho
 have HBs:=Lib.hid hB
 have HMc:=Lib.hid hm
 have HI:=Lib.hid hi
 have H0:=Lib.hid (h.keep (al_be W (.cells #[] 65)))
 have hl:=Lib.hid h.lt
 have c0:W.cell? ⟨m,0,none⟩=some (.pointer (some ⟨c,0,none⟩)):=h.head.cell rfl
 obtain ⟨bcs,hbk,_,_,hrc,_⟩:=h.body
 obtain ⟨qa,qc,hv,hq1,hq2,hqi,hqg⟩:=h.q.form
 have c5:W.cell? ⟨c,5,none⟩=some v0:=hbk.cell hrc.v
 obtain ⟨i0,hi0,hz0,hz1,hz2⟩:=info_parts jpk_info
 have HIi:=Lib.hid hi0
 have HZ0:=Lib.hid hz0
 have HZ1:=Lib.hid hz1
 have HZ2:=Lib.hid hz2
 have HQi:=Lib.hid (hqi.keep (al_be W (.cells #[] 65)))
 have HQg:=Lib.hid hqg
 have HW0:=Lib.hid (al_be W (.cells #[] 65))
 have HOE:Hid ((W.alloc (.cells #[] 65)).ownsRow W.heap.size 65 7 (.slice (some ⟨W.heap.size,0,none⟩) 0 0) 0 []):=Lib.hid (sown_empty W (Nat.le_refl _))
 have hq5:s.q.l.length≤5000:=by have:=ho.n;omega
 have c0:=cell_al c0 (.cells #[] 65)
 have c5:=cell_al c5 (.cells #[] 65)
 rw [hv] at c5
 have HV:=Lib.hid hv
 clear h ho hB hm hi hbk hrc hqi hqg hi0 hz0 hz1 hz2 hv
 go_enter Try.func12,Try.ntmps12
 cases qa with
 | none=>
   have hq0:s.q.l=[]:=by
    cases hl:s.q.l with
    | nil=>rfl
    | cons a t=>obtain ⟨g,e,_⟩:=HQg.out (by rw [hl];simp);cases e
   rw [hq0] at c5
   have c5:(W.alloc (.cells #[] 65)).cell? ⟨c,5,none⟩=some (.slice none 0 qc):=c5
   have HQ0:=Lib.hid hq0
   clear hq0
   go_wp2_with fail
   have hq0:=HQ0.out
   obtain ⟨n0,hn0⟩:∃n,n=s.q.l.length:=⟨_,rfl⟩
   have hz:n0=0:=by rw [hn0,hq0];rfl
   have EB:(Value.slice (some ⟨W.heap.size,0,none⟩) 0 0:Value)=Value.slice (some ⟨W.heap.size,0,none⟩) n0 n0:=by rw [hz]
   have HBv:Hid (SOwn 65 W.heap.size (W.alloc (.cells #[] 65)) (.slice (some ⟨W.heap.size,0,none⟩) n0 n0) s.q.l):=Lib.hid (by rw [hq0,← EB];exact HOE.out)
   have HB1:=HW0
   have H1:=H0
   have HN1:Hid (Nus (W.alloc (.cells #[] 65)) ao cs):=Lib.hid (HI.out.keep (al_be _ _))
   rw [EB]
   clear EB HOE HW0 H0 HQi HQg hz hq0 c0 c5
   generalize W.alloc (.cells #[] 65)=w1 at *
   obtain ⟨ap,hap⟩:∃ap,ap=some (⟨W.heap.size,0,none⟩:Addr):=⟨_,rfl⟩
   obtain ⟨cp,hcp⟩:∃cp,cp=n0:=⟨_,rfl⟩
   have EC:(Value.slice (some ⟨W.heap.size,0,none⟩) n0 n0:Value)=Value.slice ap n0 cp:=by rw [hap,hcp]
   rw [EC] at HBv ⊢
   clear EC hap hcp
   have HTk:=Lib.hid (dn_Tick B m c v0 u0 s now waste cs ao cap0 w1 H1.out (Nat.le_trans HBs.out HB1.out.size) HOk.out ht hn hw (HN1.out) ha HMc.out hcap)
   obtain ⟨nf,hnf1,hnf2,hnf3⟩:=ahead_front s now waste cs
   have HEq:=Lib.hid (dk_tick_eq s now waste cs)
   have HAO:=Lib.hid (LS.ok.ahead HOk.out hn waste cs)
   obtain ⟨a,ha0⟩:∃a,a=s.ahead now waste cs:=⟨_,rfl⟩
   have HTa:=Lib.hid (ahead_same s now waste cs)
   rw [← ha0] at HTk hnf2 hnf3 HEq HAO HTa
   obtain ⟨bl,hbl⟩:∃l,l=s.q.l:=⟨_,rfl⟩
   obtain ⟨tl,htl⟩:∃l,l=a.j.told now:=⟨_,rfl⟩
   have hbn:bl.length=n0:=by rw [hbl,hn0]
   rw [← hbl] at HBv hnf2 hnf3 hnf1
   rw [← htl] at HTk HEq
   have HBz:Hid (∀p∈bl,p.size≤18446744073709551615):=Lib.hid (by rw [hbl];exact HOk.out.q.ok.sz)
   have HTz:Hid ((∀p∈tl,p.size≤18446744073709551615)∧tl.length≤5000):=Lib.hid (by rw [htl];exact told_small HAO.out)
   have hn5:n0≤5000:=by have:=HOk.out.n;omega
   have hql:a.q.l.length=n0 - nf:=by rw [hnf2,List.length_drop,hbn]
   have HTe:Hid ((s.ahead now waste cs).j.told now=tl):=Lib.hid (by rw [htl,ha0])
   clear ha0 hbl htl hnf2
   refine HTk.out.mono ?_
   rintro e w2 ⟨⟨ov,rfl,HS⟩,HM0⟩
   clear HTk
   obtain ⟨ap2,cp2,hov⟩:∃ap cp,ov=.slice ap tl.length cp:=by obtain ⟨ap,cp,h,_⟩:=HS.out.form;exact ⟨ap,cp,h⟩
   subst hov
   obtain ⟨r0,hr0⟩:∃n,n=n0 - nf:=⟨_,rfl⟩
   rw [← hr0] at hql
   have f1:(n0:Int) - (r0:Int)=(nf:Int):=by omega
   have f2:IntKind.i64.wrap (nf:Int)=(nf:Int):=by rw [IntKind.wrap_i64];omega
   obtain ⟨b,hb⟩:∃b,b=a.withJ (a.j.outB now):=⟨_,rfl⟩
   have hbq:b.q.l.length=r0:=by rw [hb];exact hql
   have HBq:=Lib.hid hbq
   have HBd:Hid (b.deliv=a.deliv):=Lib.hid (by rw [hb];rfl)
   have M0:Hid (DO B w1 m c v0 u0 (b.withS (s.served + totP (bl.take 0))) W.heap.size (.slice ap n0 cp) bl (.slice ap2 tl.length cp2) tl w2):=Lib.hid ⟨HM0.out.as (by rw [hb];rfl) (by rw [hb];rfl) (by rw [hb];rfl) (by rw [hb];rfl) rfl (by rw [hb];rfl),HBv.out.fr (m:=w1.heap.size) HM0.out.fr (fun hx=>by
    have h1:=HBv.out.base (m:=w1.heap.size) HB1.out.size
    have h2:=hl.out _ hx
    omega),HS.out⟩
   have HTl:=Lib.hid HTz.out.2
   have HEnd:Hid (∀w,Hid (DO B w1 m c v0 u0 ((b.withS (s.served + totP (bl.take nf))).withD (s.deliv + totP (tl.take tl.length))) W.heap.size (.slice ap n0 cp) bl (.slice ap2 tl.length cp2) tl w)→DkTick B W m c v0 u0 (s.tick now waste cs) tl (.returned (.tuple #[.slice ap2 tl.length cp2,.int .i64 0])) w):=Lib.hid (fun w h=>by
    obtain ⟨q1,q2,q3,q4,q5,q6⟩:=HEq.out
    refine ⟨⟨_,rfl,SOwn.weak HB1.out.size h.out.out⟩,dk_base (h.out.di.as ?_ ?_ ?_ ?_ ?_ ?_) HB1.out hl.out HBs.out⟩
    ·rw [q1,hb];rfl
    ·rw [q2,hb];rfl
    ·rw [q3,hb];rfl
    ·rw [q4,hb]
     exact HTa.out.1.symm
    ·rw [q5,hnf3];rfl
    ·rw [q6,List.take_length];rfl)
   have hnb:n0=bl.length:=hbn.symm
   have HNb:=Lib.hid hnb
   clear HBv HM0 HS HEq HAO H1 hr0 hql hbn hb hnf3 hbq hn0 hnb
   go_wp2_with fail
   go_loopw [13] (fun i wr=>∃k:Nat,i=.int .i64 (k:Int)∧k≤nf∧Hid (DO B w1 m c v0 u0 (b.withS (s.served + totP (bl.take k))) W.heap.size (.slice ap n0 cp) bl (.slice ap2 tl.length cp2) tl wr)) (fun i _=>nf - (intOf i).toNat)
   case atStart=>exact ⟨0,rfl,Nat.zero_le _,M0⟩
   case round=>
    obtain ⟨k,rfl,hk,HM⟩:=hrel
    clear M0
    have p0:=HM.out.di.cells.1
    obtain ⟨ao5,cap5,c5⟩:∃ao cap,wr.cell? ⟨c,5,none⟩=some (.slice ao r0 cap):=by
     obtain ⟨_,ao,cap,h,_⟩:=HM.out.di.parts
     exact ⟨ao,cap,by rw [← HBq.out];exact h⟩
    by_cases hlt:k < nf
    ·have hkb:k < bl.length:=by have:=HNb.out;omega
     obtain ⟨x,hx⟩:∃x,x=bl.getD k Itm.z:=⟨_,rfl⟩
     have hxs:x.size≤18446744073709551615:=by rw [hx,List.getD_eq_getElem?_getD,List.getElem?_eq_getElem hkb];exact HBz.out _ (List.getElem_mem hkb)
     have HTx:=Lib.hid (totP_snoc bl k hkb x hx)
     obtain ⟨g,hg⟩:=pk_addr HM.out.bef (show 0 < bl.length by omega)
     subst hg
     obtain ⟨c0',hc0⟩:∃n,n=s.served + totP (bl.take k):=⟨_,rfl⟩
     have HT2:Hid (s.served + totP (bl.take (k + 1))=c0' + x.size):=Lib.hid (by rw [HTx.out,hc0];omega)
     rw [← hc0] at HM
     obtain ⟨s1,hs1⟩:∃s1,s1=b.withS c0':=⟨_,rfl⟩
     have HA:Hid (∀w,Calls Try.prog 10 #[.int .u64 (LS.told c0':Int),.int .u64 (x.size:Int)] w fun e w'=>e=.returned (.int .u64 (LS.told (c0' + x.size):Int))∧w=w'):=Lib.hid (fun w=>by rw [← told_add];exact ref_Add (LS.told c0') x.size w (told_le _) hxs)
     have HCs:Hid (∀c,(s1.dcells c).setIfInBounds 2 (.int .u64 (LS.told (c0' + x.size):Int))=((b.withS (c0' + x.size)).dcells c)):=Lib.hid (fun c=>by rw [hs1];rfl)
     have HK3:Hid (s1.k=(b.withS (c0' + x.size)).k∧s1.q=(b.withS (c0' + x.size)).q∧s1.j=(b.withS (c0' + x.size)).j):=Lib.hid (by rw [hs1];exact ⟨rfl,rfl,rfl⟩)
     have rh:∀w,Hid (DO B w1 m c v0 u0 s1 W.heap.size (.slice (some ⟨g,0,none⟩) n0 cp) bl (.slice ap2 tl.length cp2) tl w)→w.cell? ⟨m,2,none⟩=some (.int .u64 (LS.told c0':Int)):=fun w h=>by have:=h.out.di.cells.2.2.1;rw [hs1] at this;exact this
     have rz:∀w,Hid (DO B w1 m c v0 u0 s1 W.heap.size (.slice (some ⟨g,0,none⟩) n0 cp) bl (.slice ap2 tl.length cp2) tl w)→w.cell? ⟨g,k * 7 + 1,none⟩=some (.int .u64 (x.size:Int)):=fun w h=>pk_cell1 h.out.bef hkb hx rfl
     have M0:Hid (DO B w1 m c v0 u0 s1 W.heap.size (.slice (some ⟨g,0,none⟩) n0 cp) bl (.slice ap2 tl.length cp2) tl wr.drew):=Lib.hid (by rw [hs1];exact HM.out.to ((Drawn.drew _).below _))
     have j0:(0:Int)≤(k:Int):=by omega
     have j1:(k:Int) < (n0:Int):=by have:=HNb.out;omega
     clear hx hxs HTx hc0 hs1 HM hkb
     generalize hkn:b.withS (c0' + x.size)=s2 at *
     go_wp2_with fail
     refine wp_region_chain (S:=(fun w'=>Hid (DO B w1 m c v0 u0 s1 W.heap.size (.slice (some ⟨g,0,none⟩) n0 cp) bl (.slice ap2 tl.length cp2) tl w'))) 13 (by kernel_rfl) (by kernel_rfl) (by kernel_rfl) M0 ?_
     generalize wr.drew=wd at *
     simp only [List.size_toArray,List.length_cons,List.length_nil,Nat.reduceAdd,Array.replicate_succ,Array.replicate_zero,List.push_toArray,List.nil_append,List.cons_append]
     refine Chain.take (i:=0) (oi:=⟨some 52,_,_,_,_,_⟩) (v:=?v1) rfl (by kernel_rfl) (by kernel_rfl) (Or.inl ⟨by rfl,?y1⟩) ?rest1
     case y1=>intro w hSw;clear hSw;go_simp;(try with_reducible rfl)
     simp only [Act.put,List.setIfInBounds_toArray,List.set_cons_zero,List.set_cons_succ]
     refine Chain.take (i:=1) (oi:=⟨some 53,_,_,_,_,_⟩) (v:=?v2) rfl (by kernel_rfl) (by kernel_rfl) (Or.inl ⟨by rfl,?y2⟩) ?rest2
     case y2=>intro w hSw;clear hSw;go_simp;(try with_reducible rfl)
     simp only [Act.put,List.setIfInBounds_toArray,List.set_cons_zero,List.set_cons_succ]
     refine Chain.take (i:=2) (oi:=⟨some 54,_,_,_,_,_⟩) (v:=?v3) rfl (by kernel_rfl) (by kernel_rfl) (Or.inl ⟨by rfl,?y3⟩) ?rest3
     case y3=>intro w hSw;clear hSw;go_simp;(try with_reducible rfl)
     simp only [Act.put,List.setIfInBounds_toArray,List.set_cons_zero,List.set_cons_succ]
     refine Chain.take (i:=3) (oi:=⟨some 55,_,_,_,_,_⟩) (v:=?v4) rfl (by kernel_rfl) (by kernel_rfl) (Or.inl ⟨by rfl,?y4⟩) ?rest4
     case y4=>intro w hSw;clear hSw;go_simp;(try with_reducible rfl)
     simp only [Act.put,List.setIfInBounds_toArray,List.set_cons_zero,List.set_cons_succ]
     refine Chain.take (i:=4) (oi:=⟨some 56,_,_,_,_,_⟩) (v:=?v5) rfl (by kernel_rfl) (by kernel_rfl) (Or.inl ⟨by rfl,?y5⟩) ?rest5
     case y5=>intro w hSw;go_simp;(try with_reducible rfl)
     simp only [Act.put,List.setIfInBounds_toArray,List.set_cons_zero,List.set_cons_succ]
     refine Chain.take (i:=5) (oi:=⟨some 57,_,_,_,_,_⟩) (v:=?v6) rfl (by kernel_rfl) (by kernel_rfl) (Or.inl ⟨by rfl,?y6⟩) ?rest6
     case y6=>intro w hSw;clear hSw;go_simp;(try with_reducible rfl)
     simp only [Act.put,List.setIfInBounds_toArray,List.set_cons_zero,List.set_cons_succ]
     refine Chain.take (i:=6) (oi:=⟨some 58,_,_,_,_,_⟩) (v:=?v7) rfl (by kernel_rfl) (by kernel_rfl) (Or.inl ⟨by rfl,?y7⟩) ?rest7
     case y7=>intro w hSw;clear hSw;go_simp;(try with_reducible rfl)
     simp only [Act.put,List.setIfInBounds_toArray,List.set_cons_zero,List.set_cons_succ]
     refine Chain.take (i:=7) (oi:=⟨some 59,_,_,_,_,_⟩) (v:=?v8) rfl (by kernel_rfl) (by kernel_rfl) (Or.inl ⟨by rfl,?y8⟩) ?rest8
     case y8=>intro w hSw;clear hSw;go_simp;(try with_reducible rfl)
     simp only [Act.put,List.setIfInBounds_toArray,List.set_cons_zero,List.set_cons_succ]
     refine Chain.take (i:=8) (oi:=⟨some 60,_,_,_,_,_⟩) (v:=?v9) rfl (by kernel_rfl) (by kernel_rfl) (Or.inl ⟨by rfl,?y9⟩) ?rest9
     case y9=>intro w hSw;clear hSw;go_simp;(try with_reducible rfl)
     simp only [Act.put,List.setIfInBounds_toArray,List.set_cons_zero,List.set_cons_succ]
     refine Chain.take (i:=9) (oi:=⟨some 61,_,_,_,_,_⟩) (v:=?v10) rfl (by kernel_rfl) (by kernel_rfl) (Or.inl ⟨by rfl,?y10⟩) ?rest10
     case y10=>intro w hSw;go_simp;(try with_reducible rfl)
     simp only [Act.put,List.setIfInBounds_toArray,List.set_cons_zero,List.set_cons_succ]
     refine' Chain.call (i:=10) (oi:=⟨some 62,_,_,_,_,_⟩) _ _ rfl (by kernel_rfl) (by kernel_rfl) (by rfl) ?he11 (fun w hS=>(HA.out w).mono fun e w' q=>And.intro q.1 (q.2▸hS)) ?rest11
     case he11=>intro w;go_simp
     simp only [Act.put,List.setIfInBounds_toArray,List.set_cons_zero,List.set_cons_succ]
     refine Chain.take (i:=11) (oi:=⟨some 63,_,_,_,_,_⟩) (v:=?v12) rfl (by kernel_rfl) (by kernel_rfl) (Or.inl ⟨by rfl,?y12⟩) ?rest12
     case y12=>intro w hSw;clear hSw;go_simp;(try with_reducible rfl)
     simp only [Act.put,List.setIfInBounds_toArray,List.set_cons_zero,List.set_cons_succ]
     refine Chain.take (i:=12) (oi:=⟨some 64,_,_,_,_,_⟩) (v:=?v13) rfl (by kernel_rfl) (by kernel_rfl) (Or.inl ⟨by rfl,?y13⟩) ?rest13
     case y13=>intro w hSw;clear hSw;go_simp;(try with_reducible rfl)
     simp only [Act.put,List.setIfInBounds_toArray,List.set_cons_zero,List.set_cons_succ]
     refine Chain.last (by kernel_rfl) (fun w hSw=>?_)
     refine wpAnyH_ready (rs:=[13]) (by kernel_rfl) (by simp) ?_
     refine AllReadyH.cons (o:=⟨none,_,_,_,_,_⟩) rfl (fun K hK=>?_) AllReadyH.nil
     have g0:=hSw.out.di.cells.2.2.2.2 2
     have g2:=rh _ hSw
     have M2:=Lib.hid (hSw.out.set 2 (.int .u64 (LS.told (c0' + x.size):Int)) (HCs.out _) HK3.out)
     clear hSw rh rz
     go_simp
     refine hK.out _ _ trivial (fun _=>?_)
     clear hK
     try simp only [List.setIfInBounds_toArray,List.set_cons_zero,List.set_cons_succ]
     refine wpAnyH_done (by kernel_rfl) ?_ _
     skip
     clear HA HCs HK3 M0 p0 c5
     go_wp2_with fail
     go_roundw
     case rel=>exact ⟨k + 1,by go_num,by omega,by rw [HT2.out,hkn];exact M2⟩
     case measure=>simp [intOf];omega
    ·obtain rfl:k=nf:=by omega
     have M3:Hid (DO B w1 m c v0 u0 ((b.withS (s.served + totP (bl.take k))).withD (s.deliv + totP (tl.take 0))) W.heap.size (.slice ap n0 cp) bl (.slice ap2 tl.length cp2) tl wr):=Lib.hid ⟨HM.out.di.as rfl rfl rfl rfl rfl (by show s.deliv + totP (tl.take 0)=b.deliv;rw [List.take_zero,totP_nil,Nat.add_zero,HBd.out];exact HTa.out.2.symm),HM.out.bef,HM.out.out⟩
     clear HM
     obtain ⟨b2,hb2⟩:∃b2,b2=b.withS (s.served + totP (bl.take k)):=⟨_,rfl⟩
     rw [← hb2] at M3 HEnd
     have HTlz:Hid (∀p∈tl,p.size≤18446744073709551615):=Lib.hid HTz.out.1
     have htl5:=HTl.out
     clear hb2 HTz hlt hk
     have f3:¬ (k:Int) < (k:Int):=by omega
     go_wp2_with fail
     go_loopw [14] (fun i wr=>∃n:Nat,i=.int .i64 (n:Int)∧n≤tl.length∧Hid (DO B w1 m c v0 u0 (b2.withD (s.deliv + totP (tl.take n))) W.heap.size (.slice ap n0 cp) bl (.slice ap2 tl.length cp2) tl wr)) (fun i _=>tl.length - (intOf i).toNat)
     case atStart=>exact ⟨0,rfl,Nat.zero_le _,M3⟩
     case round=>
      obtain ⟨n,rfl,hn',HM⟩:=hrel
      clear M3
      by_cases hlt:n < tl.length
      ·obtain ⟨x,hx⟩:∃x,x=tl.getD n Itm.z:=⟨_,rfl⟩
       have hxs:x.size≤18446744073709551615:=by rw [hx,List.getD_eq_getElem?_getD,List.getElem?_eq_getElem hlt];exact HTlz.out _ (List.getElem_mem hlt)
       have HTx:=Lib.hid (totP_snoc tl n hlt x hx)
       obtain ⟨g,hg⟩:=pk_addr HM.out.out (show 0 < tl.length by omega)
       subst hg
       obtain ⟨c0',hc0⟩:∃n',n'=s.deliv + totP (tl.take n):=⟨_,rfl⟩
       have HT2:Hid (s.deliv + totP (tl.take (n + 1))=c0' + x.size):=Lib.hid (by rw [HTx.out,hc0];omega)
       rw [← hc0] at HM
       obtain ⟨s1,hs1⟩:∃s1,s1=b2.withD c0':=⟨_,rfl⟩
       have HA:Hid (∀w,Calls Try.prog 10 #[.int .u64 (LS.told c0':Int),.int .u64 (x.size:Int)] w fun e w'=>e=.returned (.int .u64 (LS.told (c0' + x.size):Int))∧w=w'):=Lib.hid (fun w=>by rw [← told_add];exact ref_Add (LS.told c0') x.size w (told_le _) hxs)
       have HCs:Hid (∀c,(s1.dcells c).setIfInBounds 3 (.int .u64 (LS.told (c0' + x.size):Int))=((b2.withD (c0' + x.size)).dcells c)):=Lib.hid (fun c=>by rw [hs1];rfl)
       have HK3:Hid (s1.k=(b2.withD (c0' + x.size)).k∧s1.q=(b2.withD (c0' + x.size)).q∧s1.j=(b2.withD (c0' + x.size)).j):=Lib.hid (by rw [hs1];exact ⟨rfl,rfl,rfl⟩)
       have rh:∀w,Hid (DO B w1 m c v0 u0 s1 W.heap.size (.slice ap n0 cp) bl (.slice (some ⟨g,0,none⟩) tl.length cp2) tl w)→w.cell? ⟨m,3,none⟩=some (.int .u64 (LS.told c0':Int)):=fun w h=>by have:=h.out.di.cells.2.2.2.1;rw [hs1] at this;exact this
       have rz:∀w,Hid (DO B w1 m c v0 u0 s1 W.heap.size (.slice ap n0 cp) bl (.slice (some ⟨g,0,none⟩) tl.length cp2) tl w)→w.cell? ⟨g,n * 7 + 1,none⟩=some (.int .u64 (x.size:Int)):=fun w h=>pk_cell1 h.out.out hlt hx rfl
       have M0:Hid (DO B w1 m c v0 u0 s1 W.heap.size (.slice ap n0 cp) bl (.slice (some ⟨g,0,none⟩) tl.length cp2) tl wr.drew):=Lib.hid (by rw [hs1];exact HM.out.to ((Drawn.drew _).below _))
       have j0:(0:Int)≤(n:Int):=by omega
       have j1:(n:Int) < (tl.length:Int):=by omega
       clear hx hxs HTx hc0 hs1 HM
       generalize hkn:b2.withD (c0' + x.size)=s2 at *
       go_wp2_with fail
       refine wp_region_chain (S:=(fun w'=>Hid (DO B w1 m c v0 u0 s1 W.heap.size (.slice ap n0 cp) bl (.slice (some ⟨g,0,none⟩) tl.length cp2) tl w'))) 13 (by kernel_rfl) (by kernel_rfl) (by kernel_rfl) M0 ?_
       generalize wr.drew=wd at *
       simp only [List.size_toArray,List.length_cons,List.length_nil,Nat.reduceAdd,Array.replicate_succ,Array.replicate_zero,List.push_toArray,List.nil_append,List.cons_append]
       refine Chain.take (i:=0) (oi:=⟨some 71,_,_,_,_,_⟩) (v:=?v14) rfl (by kernel_rfl) (by kernel_rfl) (Or.inl ⟨by rfl,?y14⟩) ?rest14
       case y14=>intro w hSw;clear hSw;go_simp;(try with_reducible rfl)
       simp only [Act.put,List.setIfInBounds_toArray,List.set_cons_zero,List.set_cons_succ]
       refine Chain.take (i:=1) (oi:=⟨some 72,_,_,_,_,_⟩) (v:=?v15) rfl (by kernel_rfl) (by kernel_rfl) (Or.inl ⟨by rfl,?y15⟩) ?rest15
       case y15=>intro w hSw;clear hSw;go_simp;(try with_reducible rfl)
       simp only [Act.put,List.setIfInBounds_toArray,List.set_cons_zero,List.set_cons_succ]
       refine Chain.take (i:=2) (oi:=⟨some 73,_,_,_,_,_⟩) (v:=?v16) rfl (by kernel_rfl) (by kernel_rfl) (Or.inl ⟨by rfl,?y16⟩) ?rest16
       case y16=>intro w hSw;clear hSw;go_simp;(try with_reducible rfl)
       simp only [Act.put,List.setIfInBounds_toArray,List.set_cons_zero,List.set_cons_succ]
       refine Chain.take (i:=3) (oi:=⟨some 74,_,_,_,_,_⟩) (v:=?v17) rfl (by kernel_rfl) (by kernel_rfl) (Or.inl ⟨by rfl,?y17⟩) ?rest17
       case y17=>intro w hSw;clear hSw;go_simp;(try with_reducible rfl)
       simp only [Act.put,List.setIfInBounds_toArray,List.set_cons_zero,List.set_cons_succ]
       refine Chain.take (i:=4) (oi:=⟨some 75,_,_,_,_,_⟩) (v:=?v18) rfl (by kernel_rfl) (by kernel_rfl) (Or.inl ⟨by rfl,?y18⟩) ?rest18
       case y18=>intro w hSw;go_simp;(try with_reducible rfl)
       simp only [Act.put,List.setIfInBounds_toArray,List.set_cons_zero,List.set_cons_succ]
       refine Chain.take (i:=5) (oi:=⟨some 76,_,_,_,_,_⟩) (v:=?v19) rfl (by kernel_rfl) (by kernel_rfl) (Or.inl ⟨by rfl,?y19⟩) ?rest19
       case y19=>intro w hSw;clear hSw;go_simp;(try with_reducible rfl)
       simp only [Act.put,List.setIfInBounds_toArray,List.set_cons_zero,List.set_cons_succ]
       refine Chain.take (i:=6) (oi:=⟨some 77,_,_,_,_,_⟩) (v:=?v20) rfl (by kernel_rfl) (by kernel_rfl) (Or.inl ⟨by rfl,?y20⟩) ?rest20
       case y20=>intro w hSw;clear hSw;go_simp;(try with_reducible rfl)
       simp only [Act.put,List.setIfInBounds_toArray,List.set_cons_zero,List.set_cons_succ]
       refine Chain.take (i:=7) (oi:=⟨some 78,_,_,_,_,_⟩) (v:=?v21) rfl (by kernel_rfl) (by kernel_rfl) (Or.inl ⟨by rfl,?y21⟩) ?rest21
       case y21=>intro w hSw;clear hSw;go_simp;(try with_reducible rfl)
       simp only [Act.put,List.setIfInBounds_toArray,List.set_cons_zero,List.set_cons_succ]
       refine Chain.take (i:=8) (oi:=⟨some 79,_,_,_,_,_⟩) (v:=?v22) rfl (by kernel_rfl) (by kernel_rfl) (Or.inl ⟨by rfl,?y22⟩) ?rest22
       case y22=>intro w hSw;clear hSw;go_simp;(try with_reducible rfl)
       simp only [Act.put,List.setIfInBounds_toArray,List.set_cons_zero,List.set_cons_succ]
       refine Chain.take (i:=9) (oi:=⟨some 80,_,_,_,_,_⟩) (v:=?v23) rfl (by kernel_rfl) (by kernel_rfl) (Or.inl ⟨by rfl,?y23⟩) ?rest23
       case y23=>intro w hSw;go_simp;(try with_reducible rfl)
       simp only [Act.put,List.setIfInBounds_toArray,List.set_cons_zero,List.set_cons_succ]
       refine' Chain.call (i:=10) (oi:=⟨some 81,_,_,_,_,_⟩) _ _ rfl (by kernel_rfl) (by kernel_rfl) (by rfl) ?he24 (fun w hS=>(HA.out w).mono fun e w' q=>And.intro q.1 (q.2▸hS)) ?rest24
       case he24=>intro w;go_simp
       simp only [Act.put,List.setIfInBounds_toArray,List.set_cons_zero,List.set_cons_succ]
       refine Chain.take (i:=11) (oi:=⟨some 82,_,_,_,_,_⟩) (v:=?v25) rfl (by kernel_rfl) (by kernel_rfl) (Or.inl ⟨by rfl,?y25⟩) ?rest25
       case y25=>intro w hSw;clear hSw;go_simp;(try with_reducible rfl)
       simp only [Act.put,List.setIfInBounds_toArray,List.set_cons_zero,List.set_cons_succ]
       refine Chain.take (i:=12) (oi:=⟨some 83,_,_,_,_,_⟩) (v:=?v26) rfl (by kernel_rfl) (by kernel_rfl) (Or.inl ⟨by rfl,?y26⟩) ?rest26
       case y26=>intro w hSw;clear hSw;go_simp;(try with_reducible rfl)
       simp only [Act.put,List.setIfInBounds_toArray,List.set_cons_zero,List.set_cons_succ]
       refine Chain.last (by kernel_rfl) (fun w hSw=>?_)
       refine wpAnyH_ready (rs:=[13]) (by kernel_rfl) (by simp) ?_
       refine AllReadyH.cons (o:=⟨none,_,_,_,_,_⟩) rfl (fun K hK=>?_) AllReadyH.nil
       have g0:=hSw.out.di.cells.2.2.2.2 3
       have g2:=rh _ hSw
       have M2:=Lib.hid (hSw.out.set 3 (.int .u64 (LS.told (c0' + x.size):Int)) (HCs.out _) HK3.out)
       clear hSw rh rz
       go_simp
       refine hK.out _ _ trivial (fun _=>?_)
       clear hK
       try simp only [List.setIfInBounds_toArray,List.set_cons_zero,List.set_cons_succ]
       refine wpAnyH_done (by kernel_rfl) ?_ _
       skip
       clear HA HCs HK3 M0
       go_wp2_with fail
       go_roundw
       case rel=>exact ⟨n + 1,by go_num,by omega,by rw [HT2.out,hkn];exact M2⟩
       case measure=>simp [intOf];omega
      ·obtain rfl:n=tl.length:=by omega
       have HF:=Lib.hid (HEnd.out _ HM)
       clear HM HEnd
       go_wp2_with fail
       go_ret2
       rw [HTe.out]
       exact HF.out
 | some qad=>
   have HQn:Hid (∀j u,(s.q.l.flatMap (Itm.cs (α:=Pk)))[j]? =some u→(W.alloc (.cells #[] 65)).cell? (qad.add j)=some u):=Lib.hid (fun j u hu=>by
    by_cases hp:0 < s.q.l.length
    ·obtain ⟨ad,e,hc⟩:=HQi.out.cells hp
     injection e with e
     rw [e];exact hc j u hu
    ·rw [show s.q.l=[] from List.eq_nil_of_length_eq_zero (by omega)] at hu
     simp at hu)
   have HOn:Hid (∀u∈s.q.l.flatMap (Itm.cs (α:=Pk)),u.oneCell'=true):=Lib.hid (fun u hu=>by
    obtain ⟨x,_,hx⟩:=List.mem_flatMap.1 hu
    exact Itm.one x u hx)
   have HLm:Hid ((s.q.l.flatMap (Itm.cs (α:=Pk))).length=s.q.l.length * 7):=Lib.hid (icells_len s.q.l)
   have HN0:Hid (Nus (W.alloc (.cells #[] 65)) ao cs):=Lib.hid (HI.out.keep (al_be _ _))
   have hsz:W.heap.size≤(W.alloc (.cells #[] 65)).heap.size:=HW0.out.size
   obtain ⟨n0,hn0⟩:∃n,n=s.q.l.length:=⟨_,rfl⟩
   rw [← hn0] at c5 HLm hq5
   have HNq:=Lib.hid hn0
   clear hn0
   generalize hwa:W.alloc (.cells #[] 65)=wa at *
   go_wp2_with (at_builtin;refine wpList_append_own_at _ rfl (.tmp 15) (.tmp 23) 42 rfl W.heap.size 65 _ (.agg #[.int .u64 0,.int .u64 0,.int .u64 0,.int .u64 0,.int .u64 0,.int .u64 0,.bool false]) 7 56 Try.underlying42 HIi.out HZ0.out HZ1.out HZ2.out rfl (by decide) (.slice (some ⟨W.heap.size,0,none⟩) 0 0) 0 [] rfl HOE.out qad n0 qc (s.q.l.flatMap (Itm.cs (α:=Pk))) rfl HLm.out HQn.out HOn.out (by unfold maxLen;omega) (by omega) hsz ?_;intro bv w1 hown hgr hnil hat;simp only [Nat.zero_add,List.nil_append] at hown;have HG:=Lib.hid hgr;have HBo:Hid (SOwn 65 W.heap.size w1 bv s.q.l):=Lib.hid (by unfold SOwn;rw [← HNq.out];exact hown);have H1:Hid (DkAt B w1 m c v0 u0 s):=Lib.hid (dk_app H0.out hl.out hgr);have c0:w1.cell? ⟨m,0,none⟩=some (.pointer (some ⟨c,0,none⟩)):=H1.out.head.cell rfl;clear hown hgr hnil hat)
   have HB1:Hid (Below W.heap.size W w1):=Lib.hid (HW0.out.grown HG.out hsz (fun k e=>by
    have:W.heap.size=k:=by simpa [Value.ownBlock] using e
    omega))
   have HN1:Hid (Nus w1 ao cs):=Lib.hid (HI.out.keep HB1.out)
   obtain ⟨ap,cp,hbv,hb1,hb2,_,_⟩:=HBo.out.form
   have HBv:=HBo
   have hn0:=HNq.out
   rw [← hn0] at hbv hb1
   subst hbv
   clear HOE HW0 H0 HQi HQg HQn HOn HLm HN0 hsz HG HBo c0 c5 hwa hn0
   have hn0:=HNq.out
   have HTk:=Lib.hid (dn_Tick B m c v0 u0 s now waste cs ao cap0 w1 H1.out (Nat.le_trans HBs.out HB1.out.size) HOk.out ht hn hw (HN1.out) ha HMc.out hcap)
   obtain ⟨nf,hnf1,hnf2,hnf3⟩:=ahead_front s now waste cs
   have HEq:=Lib.hid (dk_tick_eq s now waste cs)
   have HAO:=Lib.hid (LS.ok.ahead HOk.out hn waste cs)
   obtain ⟨a,ha0⟩:∃a,a=s.ahead now waste cs:=⟨_,rfl⟩
   have HTa:=Lib.hid (ahead_same s now waste cs)
   rw [← ha0] at HTk hnf2 hnf3 HEq HAO HTa
   obtain ⟨bl,hbl⟩:∃l,l=s.q.l:=⟨_,rfl⟩
   obtain ⟨tl,htl⟩:∃l,l=a.j.told now:=⟨_,rfl⟩
   have hbn:bl.length=n0:=by rw [hbl,hn0]
   rw [← hbl] at HBv hnf2 hnf3 hnf1
   rw [← htl] at HTk HEq
   have HBz:Hid (∀p∈bl,p.size≤18446744073709551615):=Lib.hid (by rw [hbl];exact HOk.out.q.ok.sz)
   have HTz:Hid ((∀p∈tl,p.size≤18446744073709551615)∧tl.length≤5000):=Lib.hid (by rw [htl];exact told_small HAO.out)
   have hn5:n0≤5000:=by have:=HOk.out.n;omega
   have hql:a.q.l.length=n0 - nf:=by rw [hnf2,List.length_drop,hbn]
   have HTe:Hid ((s.ahead now waste cs).j.told now=tl):=Lib.hid (by rw [htl,ha0])
   clear ha0 hbl htl hnf2
   refine HTk.out.mono ?_
   rintro e w2 ⟨⟨ov,rfl,HS⟩,HM0⟩
   clear HTk
   obtain ⟨ap2,cp2,hov⟩:∃ap cp,ov=.slice ap tl.length cp:=by obtain ⟨ap,cp,h,_⟩:=HS.out.form;exact ⟨ap,cp,h⟩
   subst hov
   obtain ⟨r0,hr0⟩:∃n,n=n0 - nf:=⟨_,rfl⟩
   rw [← hr0] at hql
   have f1:(n0:Int) - (r0:Int)=(nf:Int):=by omega
   have f2:IntKind.i64.wrap (nf:Int)=(nf:Int):=by rw [IntKind.wrap_i64];omega
   obtain ⟨b,hb⟩:∃b,b=a.withJ (a.j.outB now):=⟨_,rfl⟩
   have hbq:b.q.l.length=r0:=by rw [hb];exact hql
   have HBq:=Lib.hid hbq
   have HBd:Hid (b.deliv=a.deliv):=Lib.hid (by rw [hb];rfl)
   have M0:Hid (DO B w1 m c v0 u0 (b.withS (s.served + totP (bl.take 0))) W.heap.size (.slice ap n0 cp) bl (.slice ap2 tl.length cp2) tl w2):=Lib.hid ⟨HM0.out.as (by rw [hb];rfl) (by rw [hb];rfl) (by rw [hb];rfl) (by rw [hb];rfl) rfl (by rw [hb];rfl),HBv.out.fr (m:=w1.heap.size) HM0.out.fr (fun hx=>by
    have h1:=HBv.out.base (m:=w1.heap.size) HB1.out.size
    have h2:=hl.out _ hx
    omega),HS.out⟩
   have HTl:=Lib.hid HTz.out.2
   have HEnd:Hid (∀w,Hid (DO B w1 m c v0 u0 ((b.withS (s.served + totP (bl.take nf))).withD (s.deliv + totP (tl.take tl.length))) W.heap.size (.slice ap n0 cp) bl (.slice ap2 tl.length cp2) tl w)→DkTick B W m c v0 u0 (s.tick now waste cs) tl (.returned (.tuple #[.slice ap2 tl.length cp2,.int .i64 0])) w):=Lib.hid (fun w h=>by
    obtain ⟨q1,q2,q3,q4,q5,q6⟩:=HEq.out
    refine ⟨⟨_,rfl,SOwn.weak HB1.out.size h.out.out⟩,dk_base (h.out.di.as ?_ ?_ ?_ ?_ ?_ ?_) HB1.out hl.out HBs.out⟩
    ·rw [q1,hb];rfl
    ·rw [q2,hb];rfl
    ·rw [q3,hb];rfl
    ·rw [q4,hb]
     exact HTa.out.1.symm
    ·rw [q5,hnf3];rfl
    ·rw [q6,List.take_length];rfl)
   have hnb:n0=bl.length:=hbn.symm
   have HNb:=Lib.hid hnb
   clear HBv HM0 HS HEq HAO H1 hr0 hql hbn hb hnf3 hbq hn0 hnb
   go_wp2_with fail
   go_loopw [13] (fun i wr=>∃k:Nat,i=.int .i64 (k:Int)∧k≤nf∧Hid (DO B w1 m c v0 u0 (b.withS (s.served + totP (bl.take k))) W.heap.size (.slice ap n0 cp) bl (.slice ap2 tl.length cp2) tl wr)) (fun i _=>nf - (intOf i).toNat)
   case atStart=>exact ⟨0,rfl,Nat.zero_le _,M0⟩
   case round=>
    obtain ⟨k,rfl,hk,HM⟩:=hrel
    clear M0
    have p0:=HM.out.di.cells.1
    obtain ⟨ao5,cap5,c5⟩:∃ao cap,wr.cell? ⟨c,5,none⟩=some (.slice ao r0 cap):=by
     obtain ⟨_,ao,cap,h,_⟩:=HM.out.di.parts
     exact ⟨ao,cap,by rw [← HBq.out];exact h⟩
    by_cases hlt:k < nf
    ·have hkb:k < bl.length:=by have:=HNb.out;omega
     obtain ⟨x,hx⟩:∃x,x=bl.getD k Itm.z:=⟨_,rfl⟩
     have hxs:x.size≤18446744073709551615:=by rw [hx,List.getD_eq_getElem?_getD,List.getElem?_eq_getElem hkb];exact HBz.out _ (List.getElem_mem hkb)
     have HTx:=Lib.hid (totP_snoc bl k hkb x hx)
     obtain ⟨g,hg⟩:=pk_addr HM.out.bef (show 0 < bl.length by omega)
     subst hg
     obtain ⟨c0',hc0⟩:∃n,n=s.served + totP (bl.take k):=⟨_,rfl⟩
     have HT2:Hid (s.served + totP (bl.take (k + 1))=c0' + x.size):=Lib.hid (by rw [HTx.out,hc0];omega)
     rw [← hc0] at HM
     obtain ⟨s1,hs1⟩:∃s1,s1=b.withS c0':=⟨_,rfl⟩
     have HA:Hid (∀w,Calls Try.prog 10 #[.int .u64 (LS.told c0':Int),.int .u64 (x.size:Int)] w fun e w'=>e=.returned (.int .u64 (LS.told (c0' + x.size):Int))∧w=w'):=Lib.hid (fun w=>by rw [← told_add];exact ref_Add (LS.told c0') x.size w (told_le _) hxs)
     have HCs:Hid (∀c,(s1.dcells c).setIfInBounds 2 (.int .u64 (LS.told (c0' + x.size):Int))=((b.withS (c0' + x.size)).dcells c)):=Lib.hid (fun c=>by rw [hs1];rfl)
     have HK3:Hid (s1.k=(b.withS (c0' + x.size)).k∧s1.q=(b.withS (c0' + x.size)).q∧s1.j=(b.withS (c0' + x.size)).j):=Lib.hid (by rw [hs1];exact ⟨rfl,rfl,rfl⟩)
     have rh:∀w,Hid (DO B w1 m c v0 u0 s1 W.heap.size (.slice (some ⟨g,0,none⟩) n0 cp) bl (.slice ap2 tl.length cp2) tl w)→w.cell? ⟨m,2,none⟩=some (.int .u64 (LS.told c0':Int)):=fun w h=>by have:=h.out.di.cells.2.2.1;rw [hs1] at this;exact this
     have rz:∀w,Hid (DO B w1 m c v0 u0 s1 W.heap.size (.slice (some ⟨g,0,none⟩) n0 cp) bl (.slice ap2 tl.length cp2) tl w)→w.cell? ⟨g,k * 7 + 1,none⟩=some (.int .u64 (x.size:Int)):=fun w h=>pk_cell1 h.out.bef hkb hx rfl
     have M0:Hid (DO B w1 m c v0 u0 s1 W.heap.size (.slice (some ⟨g,0,none⟩) n0 cp) bl (.slice ap2 tl.length cp2) tl wr.drew):=Lib.hid (by rw [hs1];exact HM.out.to ((Drawn.drew _).below _))
     have j0:(0:Int)≤(k:Int):=by omega
     have j1:(k:Int) < (n0:Int):=by have:=HNb.out;omega
     clear hx hxs HTx hc0 hs1 HM hkb
     generalize hkn:b.withS (c0' + x.size)=s2 at *
     go_wp2_with fail
     refine wp_region_chain (S:=(fun w'=>Hid (DO B w1 m c v0 u0 s1 W.heap.size (.slice (some ⟨g,0,none⟩) n0 cp) bl (.slice ap2 tl.length cp2) tl w'))) 13 (by kernel_rfl) (by kernel_rfl) (by kernel_rfl) M0 ?_
     generalize wr.drew=wd at *
     simp only [List.size_toArray,List.length_cons,List.length_nil,Nat.reduceAdd,Array.replicate_succ,Array.replicate_zero,List.push_toArray,List.nil_append,List.cons_append]
     refine Chain.take (i:=0) (oi:=⟨some 52,_,_,_,_,_⟩) (v:=?v27) rfl (by kernel_rfl) (by kernel_rfl) (Or.inl ⟨by rfl,?y27⟩) ?rest27
     case y27=>intro w hSw;clear hSw;go_simp;(try with_reducible rfl)
     simp only [Act.put,List.setIfInBounds_toArray,List.set_cons_zero,List.set_cons_succ]
     refine Chain.take (i:=1) (oi:=⟨some 53,_,_,_,_,_⟩) (v:=?v28) rfl (by kernel_rfl) (by kernel_rfl) (Or.inl ⟨by rfl,?y28⟩) ?rest28
     case y28=>intro w hSw;clear hSw;go_simp;(try with_reducible rfl)
     simp only [Act.put,List.setIfInBounds_toArray,List.set_cons_zero,List.set_cons_succ]
     refine Chain.take (i:=2) (oi:=⟨some 54,_,_,_,_,_⟩) (v:=?v29) rfl (by kernel_rfl) (by kernel_rfl) (Or.inl ⟨by rfl,?y29⟩) ?rest29
     case y29=>intro w hSw;clear hSw;go_simp;(try with_reducible rfl)
     simp only [Act.put,List.setIfInBounds_toArray,List.set_cons_zero,List.set_cons_succ]
     refine Chain.take (i:=3) (oi:=⟨some 55,_,_,_,_,_⟩) (v:=?v30) rfl (by kernel_rfl) (by kernel_rfl) (Or.inl ⟨by rfl,?y30⟩) ?rest30
     case y30=>intro w hSw;clear hSw;go_simp;(try with_reducible rfl)
     simp only [Act.put,List.setIfInBounds_toArray,List.set_cons_zero,List.set_cons_succ]
     refine Chain.take (i:=4) (oi:=⟨some 56,_,_,_,_,_⟩) (v:=?v31) rfl (by kernel_rfl) (by kernel_rfl) (Or.inl ⟨by rfl,?y31⟩) ?rest31
     case y31=>intro w hSw;go_simp;(try with_reducible rfl)
     simp only [Act.put,List.setIfInBounds_toArray,List.set_cons_zero,List.set_cons_succ]
     refine Chain.take (i:=5) (oi:=⟨some 57,_,_,_,_,_⟩) (v:=?v32) rfl (by kernel_rfl) (by kernel_rfl) (Or.inl ⟨by rfl,?y32⟩) ?rest32
     case y32=>intro w hSw;clear hSw;go_simp;(try with_reducible rfl)
     simp only [Act.put,List.setIfInBounds_toArray,List.set_cons_zero,List.set_cons_succ]
     refine Chain.take (i:=6) (oi:=⟨some 58,_,_,_,_,_⟩) (v:=?v33) rfl (by kernel_rfl) (by kernel_rfl) (Or.inl ⟨by rfl,?y33⟩) ?rest33
     case y33=>intro w hSw;clear hSw;go_simp;(try with_reducible rfl)
     simp only [Act.put,List.setIfInBounds_toArray,List.set_cons_zero,List.set_cons_succ]
     refine Chain.take (i:=7) (oi:=⟨some 59,_,_,_,_,_⟩) (v:=?v34) rfl (by kernel_rfl) (by kernel_rfl) (Or.inl ⟨by rfl,?y34⟩) ?rest34
     case y34=>intro w hSw;clear hSw;go_simp;(try with_reducible rfl)
     simp only [Act.put,List.setIfInBounds_toArray,List.set_cons_zero,List.set_cons_succ]
     refine Chain.take (i:=8) (oi:=⟨some 60,_,_,_,_,_⟩) (v:=?v35) rfl (by kernel_rfl) (by kernel_rfl) (Or.inl ⟨by rfl,?y35⟩) ?rest35
     case y35=>intro w hSw;clear hSw;go_simp;(try with_reducible rfl)
     simp only [Act.put,List.setIfInBounds_toArray,List.set_cons_zero,List.set_cons_succ]
     refine Chain.take (i:=9) (oi:=⟨some 61,_,_,_,_,_⟩) (v:=?v36) rfl (by kernel_rfl) (by kernel_rfl) (Or.inl ⟨by rfl,?y36⟩) ?rest36
     case y36=>intro w hSw;go_simp;(try with_reducible rfl)
     simp only [Act.put,List.setIfInBounds_toArray,List.set_cons_zero,List.set_cons_succ]
     refine' Chain.call (i:=10) (oi:=⟨some 62,_,_,_,_,_⟩) _ _ rfl (by kernel_rfl) (by kernel_rfl) (by rfl) ?he37 (fun w hS=>(HA.out w).mono fun e w' q=>And.intro q.1 (q.2▸hS)) ?rest37
     case he37=>intro w;go_simp
     simp only [Act.put,List.setIfInBounds_toArray,List.set_cons_zero,List.set_cons_succ]
     refine Chain.take (i:=11) (oi:=⟨some 63,_,_,_,_,_⟩) (v:=?v38) rfl (by kernel_rfl) (by kernel_rfl) (Or.inl ⟨by rfl,?y38⟩) ?rest38
     case y38=>intro w hSw;clear hSw;go_simp;(try with_reducible rfl)
     simp only [Act.put,List.setIfInBounds_toArray,List.set_cons_zero,List.set_cons_succ]
     refine Chain.take (i:=12) (oi:=⟨some 64,_,_,_,_,_⟩) (v:=?v39) rfl (by kernel_rfl) (by kernel_rfl) (Or.inl ⟨by rfl,?y39⟩) ?rest39
     case y39=>intro w hSw;clear hSw;go_simp;(try with_reducible rfl)
     simp only [Act.put,List.setIfInBounds_toArray,List.set_cons_zero,List.set_cons_succ]
     refine Chain.last (by kernel_rfl) (fun w hSw=>?_)
     refine wpAnyH_ready (rs:=[13]) (by kernel_rfl) (by simp) ?_
     refine AllReadyH.cons (o:=⟨none,_,_,_,_,_⟩) rfl (fun K hK=>?_) AllReadyH.nil
     have g0:=hSw.out.di.cells.2.2.2.2 2
     have g2:=rh _ hSw
     have M2:=Lib.hid (hSw.out.set 2 (.int .u64 (LS.told (c0' + x.size):Int)) (HCs.out _) HK3.out)
     clear hSw rh rz
     go_simp
     refine hK.out _ _ trivial (fun _=>?_)
     clear hK
     try simp only [List.setIfInBounds_toArray,List.set_cons_zero,List.set_cons_succ]
     refine wpAnyH_done (by kernel_rfl) ?_ _
     skip
     clear HA HCs HK3 M0 p0 c5
     go_wp2_with fail
     go_roundw
     case rel=>exact ⟨k + 1,by go_num,by omega,by rw [HT2.out,hkn];exact M2⟩
     case measure=>simp [intOf];omega
    ·obtain rfl:k=nf:=by omega
     have M3:Hid (DO B w1 m c v0 u0 ((b.withS (s.served + totP (bl.take k))).withD (s.deliv + totP (tl.take 0))) W.heap.size (.slice ap n0 cp) bl (.slice ap2 tl.length cp2) tl wr):=Lib.hid ⟨HM.out.di.as rfl rfl rfl rfl rfl (by show s.deliv + totP (tl.take 0)=b.deliv;rw [List.take_zero,totP_nil,Nat.add_zero,HBd.out];exact HTa.out.2.symm),HM.out.bef,HM.out.out⟩
     clear HM
     obtain ⟨b2,hb2⟩:∃b2,b2=b.withS (s.served + totP (bl.take k)):=⟨_,rfl⟩
     rw [← hb2] at M3 HEnd
     have HTlz:Hid (∀p∈tl,p.size≤18446744073709551615):=Lib.hid HTz.out.1
     have htl5:=HTl.out
     clear hb2 HTz hlt hk
     have f3:¬ (k:Int) < (k:Int):=by omega
     go_wp2_with fail
     go_loopw [14] (fun i wr=>∃n:Nat,i=.int .i64 (n:Int)∧n≤tl.length∧Hid (DO B w1 m c v0 u0 (b2.withD (s.deliv + totP (tl.take n))) W.heap.size (.slice ap n0 cp) bl (.slice ap2 tl.length cp2) tl wr)) (fun i _=>tl.length - (intOf i).toNat)
     case atStart=>exact ⟨0,rfl,Nat.zero_le _,M3⟩
     case round=>
      obtain ⟨n,rfl,hn',HM⟩:=hrel
      clear M3
      by_cases hlt:n < tl.length
      ·obtain ⟨x,hx⟩:∃x,x=tl.getD n Itm.z:=⟨_,rfl⟩
       have hxs:x.size≤18446744073709551615:=by rw [hx,List.getD_eq_getElem?_getD,List.getElem?_eq_getElem hlt];exact HTlz.out _ (List.getElem_mem hlt)
       have HTx:=Lib.hid (totP_snoc tl n hlt x hx)
       obtain ⟨g,hg⟩:=pk_addr HM.out.out (show 0 < tl.length by omega)
       subst hg
       obtain ⟨c0',hc0⟩:∃n',n'=s.deliv + totP (tl.take n):=⟨_,rfl⟩
       have HT2:Hid (s.deliv + totP (tl.take (n + 1))=c0' + x.size):=Lib.hid (by rw [HTx.out,hc0];omega)
       rw [← hc0] at HM
       obtain ⟨s1,hs1⟩:∃s1,s1=b2.withD c0':=⟨_,rfl⟩
       have HA:Hid (∀w,Calls Try.prog 10 #[.int .u64 (LS.told c0':Int),.int .u64 (x.size:Int)] w fun e w'=>e=.returned (.int .u64 (LS.told (c0' + x.size):Int))∧w=w'):=Lib.hid (fun w=>by rw [← told_add];exact ref_Add (LS.told c0') x.size w (told_le _) hxs)
       have HCs:Hid (∀c,(s1.dcells c).setIfInBounds 3 (.int .u64 (LS.told (c0' + x.size):Int))=((b2.withD (c0' + x.size)).dcells c)):=Lib.hid (fun c=>by rw [hs1];rfl)
       have HK3:Hid (s1.k=(b2.withD (c0' + x.size)).k∧s1.q=(b2.withD (c0' + x.size)).q∧s1.j=(b2.withD (c0' + x.size)).j):=Lib.hid (by rw [hs1];exact ⟨rfl,rfl,rfl⟩)
       have rh:∀w,Hid (DO B w1 m c v0 u0 s1 W.heap.size (.slice ap n0 cp) bl (.slice (some ⟨g,0,none⟩) tl.length cp2) tl w)→w.cell? ⟨m,3,none⟩=some (.int .u64 (LS.told c0':Int)):=fun w h=>by have:=h.out.di.cells.2.2.2.1;rw [hs1] at this;exact this
       have rz:∀w,Hid (DO B w1 m c v0 u0 s1 W.heap.size (.slice ap n0 cp) bl (.slice (some ⟨g,0,none⟩) tl.length cp2) tl w)→w.cell? ⟨g,n * 7 + 1,none⟩=some (.int .u64 (x.size:Int)):=fun w h=>pk_cell1 h.out.out hlt hx rfl
       have M0:Hid (DO B w1 m c v0 u0 s1 W.heap.size (.slice ap n0 cp) bl (.slice (some ⟨g,0,none⟩) tl.length cp2) tl wr.drew):=Lib.hid (by rw [hs1];exact HM.out.to ((Drawn.drew _).below _))
       have j0:(0:Int)≤(n:Int):=by omega
       have j1:(n:Int) < (tl.length:Int):=by omega
       clear hx hxs HTx hc0 hs1 HM
       generalize hkn:b2.withD (c0' + x.size)=s2 at *
       go_wp2_with fail
       refine wp_region_chain (S:=(fun w'=>Hid (DO B w1 m c v0 u0 s1 W.heap.size (.slice ap n0 cp) bl (.slice (some ⟨g,0,none⟩) tl.length cp2) tl w'))) 13 (by kernel_rfl) (by kernel_rfl) (by kernel_rfl) M0 ?_
       generalize wr.drew=wd at *
       simp only [List.size_toArray,List.length_cons,List.length_nil,Nat.reduceAdd,Array.replicate_succ,Array.replicate_zero,List.push_toArray,List.nil_append,List.cons_append]
       refine Chain.take (i:=0) (oi:=⟨some 71,_,_,_,_,_⟩) (v:=?v40) rfl (by kernel_rfl) (by kernel_rfl) (Or.inl ⟨by rfl,?y40⟩) ?rest40
       case y40=>intro w hSw;clear hSw;go_simp;(try with_reducible rfl)
       simp only [Act.put,List.setIfInBounds_toArray,List.set_cons_zero,List.set_cons_succ]
       refine Chain.take (i:=1) (oi:=⟨some 72,_,_,_,_,_⟩) (v:=?v41) rfl (by kernel_rfl) (by kernel_rfl) (Or.inl ⟨by rfl,?y41⟩) ?rest41
       case y41=>intro w hSw;clear hSw;go_simp;(try with_reducible rfl)
       simp only [Act.put,List.setIfInBounds_toArray,List.set_cons_zero,List.set_cons_succ]
       refine Chain.take (i:=2) (oi:=⟨some 73,_,_,_,_,_⟩) (v:=?v42) rfl (by kernel_rfl) (by kernel_rfl) (Or.inl ⟨by rfl,?y42⟩) ?rest42
       case y42=>intro w hSw;clear hSw;go_simp;(try with_reducible rfl)
       simp only [Act.put,List.setIfInBounds_toArray,List.set_cons_zero,List.set_cons_succ]
       refine Chain.take (i:=3) (oi:=⟨some 74,_,_,_,_,_⟩) (v:=?v43) rfl (by kernel_rfl) (by kernel_rfl) (Or.inl ⟨by rfl,?y43⟩) ?rest43
       case y43=>intro w hSw;clear hSw;go_simp;(try with_reducible rfl)
       simp only [Act.put,List.setIfInBounds_toArray,List.set_cons_zero,List.set_cons_succ]
       refine Chain.take (i:=4) (oi:=⟨some 75,_,_,_,_,_⟩) (v:=?v44) rfl (by kernel_rfl) (by kernel_rfl) (Or.inl ⟨by rfl,?y44⟩) ?rest44
       case y44=>intro w hSw;go_simp;(try with_reducible rfl)
       simp only [Act.put,List.setIfInBounds_toArray,List.set_cons_zero,List.set_cons_succ]
       refine Chain.take (i:=5) (oi:=⟨some 76,_,_,_,_,_⟩) (v:=?v45) rfl (by kernel_rfl) (by kernel_rfl) (Or.inl ⟨by rfl,?y45⟩) ?rest45
       case y45=>intro w hSw;clear hSw;go_simp;(try with_reducible rfl)
       simp only [Act.put,List.setIfInBounds_toArray,List.set_cons_zero,List.set_cons_succ]
       refine Chain.take (i:=6) (oi:=⟨some 77,_,_,_,_,_⟩) (v:=?v46) rfl (by kernel_rfl) (by kernel_rfl) (Or.inl ⟨by rfl,?y46⟩) ?rest46
       case y46=>intro w hSw;clear hSw;go_simp;(try with_reducible rfl)
       simp only [Act.put,List.setIfInBounds_toArray,List.set_cons_zero,List.set_cons_succ]
       refine Chain.take (i:=7) (oi:=⟨some 78,_,_,_,_,_⟩) (v:=?v47) rfl (by kernel_rfl) (by kernel_rfl) (Or.inl ⟨by rfl,?y47⟩) ?rest47
       case y47=>intro w hSw;clear hSw;go_simp;(try with_reducible rfl)
       simp only [Act.put,List.setIfInBounds_toArray,List.set_cons_zero,List.set_cons_succ]
       refine Chain.take (i:=8) (oi:=⟨some 79,_,_,_,_,_⟩) (v:=?v48) rfl (by kernel_rfl) (by kernel_rfl) (Or.inl ⟨by rfl,?y48⟩) ?rest48
       case y48=>intro w hSw;clear hSw;go_simp;(try with_reducible rfl)
       simp only [Act.put,List.setIfInBounds_toArray,List.set_cons_zero,List.set_cons_succ]
       refine Chain.take (i:=9) (oi:=⟨some 80,_,_,_,_,_⟩) (v:=?v49) rfl (by kernel_rfl) (by kernel_rfl) (Or.inl ⟨by rfl,?y49⟩) ?rest49
       case y49=>intro w hSw;go_simp;(try with_reducible rfl)
       simp only [Act.put,List.setIfInBounds_toArray,List.set_cons_zero,List.set_cons_succ]
       refine' Chain.call (i:=10) (oi:=⟨some 81,_,_,_,_,_⟩) _ _ rfl (by kernel_rfl) (by kernel_rfl) (by rfl) ?he50 (fun w hS=>(HA.out w).mono fun e w' q=>And.intro q.1 (q.2▸hS)) ?rest50
       case he50=>intro w;go_simp
       simp only [Act.put,List.setIfInBounds_toArray,List.set_cons_zero,List.set_cons_succ]
       refine Chain.take (i:=11) (oi:=⟨some 82,_,_,_,_,_⟩) (v:=?v51) rfl (by kernel_rfl) (by kernel_rfl) (Or.inl ⟨by rfl,?y51⟩) ?rest51
       case y51=>intro w hSw;clear hSw;go_simp;(try with_reducible rfl)
       simp only [Act.put,List.setIfInBounds_toArray,List.set_cons_zero,List.set_cons_succ]
       refine Chain.take (i:=12) (oi:=⟨some 83,_,_,_,_,_⟩) (v:=?v52) rfl (by kernel_rfl) (by kernel_rfl) (Or.inl ⟨by rfl,?y52⟩) ?rest52
       case y52=>intro w hSw;clear hSw;go_simp;(try with_reducible rfl)
       simp only [Act.put,List.setIfInBounds_toArray,List.set_cons_zero,List.set_cons_succ]
       refine Chain.last (by kernel_rfl) (fun w hSw=>?_)
       refine wpAnyH_ready (rs:=[13]) (by kernel_rfl) (by simp) ?_
       refine AllReadyH.cons (o:=⟨none,_,_,_,_,_⟩) rfl (fun K hK=>?_) AllReadyH.nil
       have g0:=hSw.out.di.cells.2.2.2.2 3
       have g2:=rh _ hSw
       have M2:=Lib.hid (hSw.out.set 3 (.int .u64 (LS.told (c0' + x.size):Int)) (HCs.out _) HK3.out)
       clear hSw rh rz
       go_simp
       refine hK.out _ _ trivial (fun _=>?_)
       clear hK
       try simp only [List.setIfInBounds_toArray,List.set_cons_zero,List.set_cons_succ]
       refine wpAnyH_done (by kernel_rfl) ?_ _
       skip
       clear HA HCs HK3 M0
       go_wp2_with fail
       go_roundw
       case rel=>exact ⟨n + 1,by go_num,by omega,by rw [HT2.out,hkn];exact M2⟩
       case measure=>simp [intOf];omega
      ·obtain rfl:n=tl.length:=by omega
       have HF:=Lib.hid (HEnd.out _ HM)
       clear HM HEnd
       go_wp2_with fail
       go_ret2
       rw [HTe.out]
       exact HF.out
end Go.Proofs.Ytaffjfajjpgjpaa

set_option linter.unusedVariables false
namespace Go.Proofs.Ytaffjfajjpgjpaa
open Go.RowKit
theorem kt_serve (s:LS) (cs:List Nat):(s.serve cs).k.t=s.k.t:=by
 refine LS.serve_ind (P:=fun x=>x.k.t=s.k.t) (fun x c h _=>?_) _ s cs rfl rfl
 rw [LS.serve1_k]
 have:(x.k.takeS x.q.headQ.size).t=x.k.t:=by unfold KB.takeS KB.spendS;split <;> rfl
 exact this.trans h
theorem kt_tick (s:LS) (now waste:Nat) (cs:List Nat) (hn:s.k.t≤now):(s.tick now waste cs).k.t=(s.tick now waste cs).t:=by
 have h1:(s.tick now waste cs).t=now:=by
  show (s.ahead now waste cs).t=now
  exact LS.ahead_t s now waste cs
 have h2:(s.tick now waste cs).k=(s.ahead now waste cs).k:=rfl
 have h3:(s.ahead now waste cs).k.t=((s.toT now).serve cs).k.t:=by
  unfold LS.ahead LS.wasteL
  split
  ·rfl
  ·rfl
 have h4:(s.toT now).k.t=now:=by
  show (s.k.toS now).t=now
  unfold KB.toS
  split
  ·omega
  ·rfl
 rw [h1,h2,h3,kt_serve,h4]
theorem kt_sends (l:List Pk):∀s:LS,s.k.t=s.t→(s.sends l).k.t=(s.sends l).t:=by
 induction l with
 | nil=>intro s h;exact h
 | cons p l ih=>intro s h;exact ih (s.send1 p) (by rw [LS.send1_k,LS.send1_t];exact h)
structure PPx (W:World) (p:PL) (m c:Nat) (v u:Value) (s t:LS) (w:World):Prop where
 a:LkAt w p s
 d:DkAt W.heap.size w m c v u t
 al:∀x∈p.l,W.heap.size≤x
 dl_:∀x∈dl m c v u,W.heap.size≤x
 ap:∀x∈p.l,x ∉ dl m c v u
 bel:Below W.heap.size W w
def PP (W:World) (b m c:Nat) (s t:LS) (w:World):Prop:=∃p v u,p.b=b∧PPx W p m c v u s t w
theorem PPx.to {W w w':World} {p:PL} {m c:Nat} {v u:Value} {s t:LS} (h:PPx W p m c v u s t w) (k:Below w.heap.size w w'):PPx W p m c v u s t w':=⟨h.a.keep k,h.d.keep k,h.al,h.dl_,h.ap,bel_to h.bel k h.bel.size⟩
theorem PP.to {W w w':World} {b m c:Nat} {s t:LS} (h:PP W b m c s t w) (k:Below w.heap.size w w'):PP W b m c s t w':=by
 obtain ⟨p,v,u,e,h⟩:=h
 exact ⟨p,v,u,e,h.to k⟩
theorem PP.bel {W w:World} {b m c:Nat} {s t:LS} (h:PP W b m c s t w):Below W.heap.size W w:=by
 obtain ⟨p,v,u,e,h⟩:=h
 exact h.bel
theorem PPx.code {W w w':World} {p:PL} {m c:Nat} {v u:Value} {s s' t:LS} (h:PPx W p m c v u s t w) (k:LI w p s' w'):∃p',p'.b=p.b∧PPx W p' m c v u s' t w'∧∀x∈p'.l,x∈p.l∨w.heap.size≤x:=by
 obtain ⟨p',e,h1,h2⟩:=k.new
 have sz:=h.bel.size
 have lt:=h.d.lt
 refine ⟨p',e,⟨h1,h.d.fr k.fr (fun x hx hm=>h.ap x hm hx),fun x hx=>?_,h.dl_,fun x hx hm=>?_,bel_fr h.bel k.fr sz h.al⟩,h2⟩
 ·rcases h2 x hx with a | a
  ·exact h.al x a
  ·omega
 ·rcases h2 x hx with a | a
  ·exact h.ap x a hm
  ·have:=lt x hm;omega
theorem PPx.doc {W w w':World} {p:PL} {m c:Nat} {v u:Value} {s t t':LS} (h:PPx W p m c v u s t w) (k:DI W.heap.size w m c v u t' w'):∃v' u',PPx W p m c v' u' s t' w'∧∀x∈dl m c v' u',x∈dl m c v u∨w.heap.size≤x:=by
 obtain ⟨v',u',h1,h2,h3⟩:=k.at_
 have sz:=h.bel.size
 have lt:=h.a.lt
 have hs:∀x∈dl m c v' u',x∈dl m c v u∨w.heap.size≤x:=fun x hx=>by
  simp only [dl,List.mem_cons,List.not_mem_nil,or_false] at hx ⊢
  rcases hx with a | a | a | a
  ·exact .inl (.inl a)
  ·exact .inl (.inr (.inl a))
  ·rcases h2 with b | b
   ·exact .inl (.inr (.inr (.inl (a.trans b))))
   ·exact .inr (a▸b)
  ·rcases h3 with b | b
   ·exact .inl (.inr (.inr (.inr (a.trans b))))
   ·exact .inr (a▸b)
 refine ⟨v',u',⟨h.a.fr k.fr h.ap,h1,h.al,fun x hx=>?_,fun x hx hm=>?_,bel_fr h.bel k.fr sz h.dl_⟩,hs⟩
 ·rcases hs x hx with a | a
  ·exact h.dl_ x a
  ·omega
 ·rcases hs x hm with a | a
  ·exact h.ap x hx a
  ·have:=lt x hx;omega
structure PVx (W:World) (p:PL) (m c:Nat) (v u:Value) (s t:LS) (ao:Option Addr) (l:List Pk) (w:World):Prop where
 pp:PPx W p m c v u s t w
 i:Its w ao l
 fa:0 < l.length→∀a,ao=some a→a.block < w.heap.size∧W.heap.size≤a.block∧a.block ∉ p.l∧a.block ∉ dl m c v u
def PV (W:World) (b m c:Nat) (s t:LS) (ao:Option Addr) (l:List Pk) (w:World):Prop:=∃p v u,p.b=b∧PVx W p m c v u s t ao l w
theorem PV.pp {W w:World} {b m c:Nat} {s t:LS} {ao:Option Addr} {l:List Pk} (h:PV W b m c s t ao l w):PP W b m c s t w:=by
 obtain ⟨p,v,u,e,h⟩:=h
 exact ⟨p,v,u,e,h.pp⟩
theorem PV.i {W w:World} {b m c:Nat} {s t:LS} {ao:Option Addr} {l:List Pk} (h:PV W b m c s t ao l w):Its w ao l:=by
 obtain ⟨p,v,u,e,h⟩:=h
 exact h.i
theorem PV.to {W w w':World} {b m c:Nat} {s t:LS} {ao:Option Addr} {l:List Pk} (h:PV W b m c s t ao l w) (k:Below w.heap.size w w'):PV W b m c s t ao l w':=by
 obtain ⟨p,v,u,e,h⟩:=h
 exact ⟨p,v,u,e,h.pp.to k,h.i.keep k,fun hp a ha=>by obtain ⟨h1,h2⟩:=h.fa hp a ha;exact ⟨Nat.lt_of_lt_of_le h1 k.size,h2⟩⟩
theorem PP.with {W w w':World} {b m c:Nat} {s t:LS} {ao:Option Addr} {cap n:Nat} {l:List Pk} (h:PP W b m c s t w) (k:Below w.heap.size w w') (ho:SOwn 65 w.heap.size w' (.slice ao n cap) l):PV W b m c s t ao l w':=by
 obtain ⟨p,v,u,e,h⟩:=h
 obtain ⟨ao',cap',e2,_,_,hi,hg⟩:=ho.form
 injection e2 with e2 _ _
 subst e2
 refine ⟨p,v,u,e,h.to k,hi,fun hp a ha=>?_⟩
 obtain ⟨g,e3,hsb⟩:=hg hp
 subst ha
 injection e3 with e3
 subst e3
 have hb:=ho.base (m:=w.heap.size) (Nat.le_refl _)
 obtain ⟨b',off,e4,hlt,_⟩:=hi hp
 injection e4 with e4
 have e5:(sb (.slice (some ⟨g,0,none⟩) n cap) w.heap.size)=g:=rfl
 rw [e5] at hb
 have sz:=h.bel.size
 have l1:=h.a.lt
 have l2:=h.d.lt
 refine ⟨?_,by show W.heap.size≤g;omega,fun hm=>?_,fun hm=>?_⟩
 ·rw [e4];exact hlt
 ·have:=l1 _ hm
  dsimp at this
  omega
 ·have:=l2 _ hm
  dsimp at this
  omega
theorem its_frl {α:Type} [Itm α] {w w':World} {v:Option Addr} {l:List α} {X:List Nat} (h:Its w v l) (k:Fr w w' X) (ha:0 < l.length→∀a,v=some a→a.block ∉ X):Its w' v l:=by
 intro hp
 obtain ⟨b,off,e,hb,hc⟩:=h hp
 refine ⟨b,off,e,Nat.lt_of_lt_of_le hb k.size,fun i j hi hj=>?_⟩
 rw [← hc i j hi hj]
 have:=k.block b hb (ha hp _ e)
 unfold World.cell?
 simp only [this]
theorem pv_Send (W:World) (b m c:Nat) (s t:LS) (N:Nat) (l:List Pk) (ao:Option Addr) (cap n:Nat) (hn:l.length=n) (w:World) (h:PV W b m c s t ao l w) (ho:s.ok N) (hz:∀x∈l,x.size≤18446744073709551615) (hN:N + l.length≤5000):
  Calls Try.prog 15 #[.pointer (some ⟨b,0,none⟩),.slice ao n cap] w fun e w'=>e=.returned (.int .i64 (s.kept l:Int))∧Hid (PV W b m c (s.sends l) t ao l w'):=by
 subst hn
 obtain ⟨p,v,u,rfl,h⟩:=h
 refine (lk_Send p s N l ao cap w h.pp.a ho h.i (fun hp a e=>(h.fa hp a e).2.2.1) hz hN).mono fun e w' q=>⟨q.e,Lib.hid ?_⟩
 obtain ⟨p',e1,h1,h2⟩:=h.pp.code q.li
 refine ⟨p',v,u,e1,h1,its_frl h.i q.li.fr (fun hp a e=>(h.fa hp a e).2.2.1),fun hp a e=>?_⟩
 obtain ⟨f1,f2,f3,f4⟩:=h.fa hp a e
 exact ⟨Nat.lt_of_lt_of_le f1 q.li.fr.size,f2,fun hm=>(h2 _ hm).elim f3 (fun k=>by omega),f4⟩
theorem dv_Send (W:World) (b m c:Nat) (s t:LS) (N:Nat) (l:List Pk) (ao:Option Addr) (cap n:Nat) (hn:l.length=n) (w:World) (h:PV W b m c s t ao l w) (ho:t.ok N) (hz:∀x∈l,x.size≤18446744073709551615) (hN:N + l.length≤5000):
  Calls Try.prog 16 #[.pointer (some ⟨m,0,none⟩),.slice ao n cap] w fun e w'=>e=.returned (.int .i64 (t.kept l:Int))∧Hid (PP W b m c s (t.sends l) w'):=by
 subst hn
 obtain ⟨p,v,u,rfl,h⟩:=h
 refine (dk_Send W.heap.size m c v u t N l ao cap w h.pp.d h.pp.bel.size ho h.i (fun hp a e=>(h.fa hp a e).2.2.2) hz hN).mono fun e w' q=>⟨q.1,Lib.hid ?_⟩
 obtain ⟨v',u',h1,_⟩:=h.pp.doc q.2.out
 exact ⟨p,v',u',rfl,h1⟩
structure PWx (W:World) (p:PL) (m c:Nat) (v u:Value) (s t:LS) (ao:Option Addr) (l:List Pk) (w:World):Prop where
 pp:PPx W p m c v u s t w
 i:Its w ao l
 fa:0 < l.length→∀a,ao=some a→a.block ∉ dl m c v u
def PW (W:World) (b m c:Nat) (s t:LS) (ao:Option Addr) (l:List Pk) (w:World):Prop:=∃p v u,p.b=b∧PWx W p m c v u s t ao l w
theorem PW.pp {W w:World} {b m c:Nat} {s t:LS} {ao:Option Addr} {l:List Pk} (h:PW W b m c s t ao l w):PP W b m c s t w:=by
 obtain ⟨p,v,u,e,h⟩:=h
 exact ⟨p,v,u,e,h.pp⟩
theorem PW.to {W w w':World} {b m c:Nat} {s t:LS} {ao:Option Addr} {l:List Pk} (h:PW W b m c s t ao l w) (k:Below w.heap.size w w'):PW W b m c s t ao l w':=by
 obtain ⟨p,v,u,e,h⟩:=h
 exact ⟨p,v,u,e,h.pp.to k,h.i.keep k,h.fa⟩
theorem pp_Tick (W:World) (b m c:Nat) (s t:LS) (now waste:Nat) (cs:List Nat) (ao:Option Addr) (cap n:Nat) (hq:InNus W ao n cap cs) (hc:cs.length=n) (ho:s.ok 5000) (hn:s.t≤now) (hm:now≤18446744073709551615) (hw:waste≤18446744073709551615) (w:World) (h:PP W b m c s t w):
  Calls Try.prog 11 #[.pointer (some ⟨b,0,none⟩),.int .u64 (now:Int),.int .u64 (waste:Int),.slice ao n cap] w fun e w'=>∃ov oc,e=.returned (.tuple #[.slice ov (s.tickOut now waste cs).length oc,.int .i64 0])∧Hid (PW W b m c (s.tick now waste cs) t ov (s.tickOut now waste cs) w'):=by
 subst hc
 obtain ⟨p,v,u,rfl,h⟩:=h
 refine (lk_Tick p s now waste cs ao cap w h.a ho hn hm hw (away_in hq h.bel p h.al)).mono fun e w' q=>?_
 obtain ⟨ov,he,hv⟩:=q.e
 obtain ⟨p',e1,h1,h2⟩:=h.code q.li
 obtain ⟨ap,oc,e2,_,_,hi,hg⟩:=hv.form
 rw [e2] at he
 refine ⟨ap,oc,he,Lib.hid ⟨p',v,u,e1,h1,hi,fun hp a ha=>?_⟩⟩
 obtain ⟨g,e3,hsb⟩:=hg hp
 rw [e3] at ha
 injection ha with ha
 subst ha
 have hb:=hv.base (m:=w.heap.size) (Nat.le_refl _)
 rw [hsb] at hb
 have sz:=h.bel.size
 have l1:=h.d.lt
 obtain ⟨b',off,e4,hlt,_⟩:=hi hp
 rw [e3] at e4
 injection e4 with e4
 injection e4 with e4 _
 intro hm
 have:=l1 _ hm
 dsimp at this
 omega
theorem dw_Tick (W:World) (b m c:Nat) (s t:LS) (now waste:Nat) (cs:List Nat) (ao:Option Addr) (cap n:Nat) (hq:InNus W ao n cap cs) (hc:cs.length=n) (ho:t.ok 5000) (hn:t.k.t≤now) (hm:now≤18446744073709551615) (hw:waste≤18446744073709551615) (a1:Option Addr) (l1:List Pk) (w:World) (h:PW W b m c s t a1 l1 w):
  Calls Try.prog 12 #[.pointer (some ⟨m,0,none⟩),.int .u64 (now:Int),.int .u64 (waste:Int),.slice ao n cap] w fun e w'=>∃ov oc,e=.returned (.tuple #[.slice ov (t.tickOut now waste cs).length oc,.int .i64 0])∧Hid (PP W b m c s (t.tick now waste cs) w')∧Hid (Its w' a1 l1)∧Hid (Its w' ov (t.tickOut now waste cs)):=by
 subst hc
 obtain ⟨p,v,u,rfl,h⟩:=h
 have lt:=h.pp.d.lt
 refine (dk_Tick W.heap.size m c v u t now waste cs ao cap w h.pp.d h.pp.bel.size ho hn hm hw (hq.nus.keep h.pp.bel) (fun hp a e hx=>by have:=hq.lt hp a e;have:=h.pp.dl_ _ hx;omega) hq.mx (by have:=hq.le;have:=hq.big;have:=hq.len;omega)).mono fun e w' q=>?_
 obtain ⟨ov,he,hv⟩:=q.e
 obtain ⟨ap,oc,e2,_,_,hi,_⟩:=hv.form
 rw [e2] at he
 obtain ⟨v',u',h1,_⟩:=h.pp.doc q.di
 have ho:t.tickOut now waste cs=(t.ahead now waste cs).j.told now:=by
  show (t.ahead now waste cs).j.told (t.ahead now waste cs).t=_
  rw [LS.ahead_t]
 rw [ho]
 exact ⟨ap,oc,he,Lib.hid ⟨p,v',u',rfl,h1⟩,Lib.hid (its_frl h.i q.di.fr h.fa),Lib.hid hi⟩
end Go.Proofs.Ytaffjfajjpgjpaa
