/- 4 texts put together: what each one says stands ahead of it. -/
import Derived.Test.YtaffjfajjpgjpaaKLinkPlays11
import Derived.Test.YtaffjfajjpgjpaaKLinkPlays04
import Derived.Deep.DeepCutAuto
import Derived.Deep.RegionHeld3
import Derived.Test.YtaffjfajjpgjpaaKLinkPlays12
set_option linter.unusedVariables false
namespace Go.Proofs.Ytaffjfajjpgjpaa
open Go.RowKit
structure QK where
 l:List Pk
 n:Nat
 room:Nat
 dr:Nat
 lost:Nat
namespace QK
def start (r:Nat):QK:=⟨[],0,r,0,0⟩
structure ok (s:QK):Prop where
 n:s.n≤18446744073709551615
 room:s.room≤18446744073709551615
 dr:s.dr≤18446744073709551615
 lost:s.lost≤18446744073709551615
 sz:∀x∈s.l,x.size≤18446744073709551615
def pushQ (s:QK) (p:Pk):QK:=⟨s.l ++ [p],s.n,s.room,s.dr,s.lost⟩
def addQ (s:QK) (p:Pk):QK:=⟨s.l ++ [p],Pl.addS s.n p.size,s.room,s.dr,s.lost⟩
def dropQ (s:QK) (p:Pk):QK:=⟨s.l,s.n,s.room,Pl.addS s.dr 1,Pl.addS s.lost p.size⟩
def putB (s:QK) (p:Pk):Bool:=decide (p.size≤Pl.subS s.room s.n)
def putQ (s:QK) (p:Pk):QK:=if p.size≤Pl.subS s.room s.n then s.addQ p else s.dropQ p
def popQ (s:QK):QK:=⟨s.l.drop 1,s.n,s.room,s.dr,s.lost⟩
def headQ (s:QK):Pk:=s.l.getD 0 Itm.z
def someQ (s:QK):Bool:=!s.l.isEmpty
def shiftQ (s:QK):QK:=⟨s.l.drop 1,Pl.subS s.n s.headQ.size,s.room,s.dr,s.lost⟩
def cells (s:QK) (rb:Nat):Array Value:=#[.pointer (some ⟨rb,0,none⟩),.int .u64 (s.n:Int),.int .u64 (s.room:Int),.int .u64 (s.dr:Int),.int .u64 (s.lost:Int)]
set_option maxRecDepth 100000 in
theorem start_ok {r:Nat} (h:r≤18446744073709551615):(start r).ok:=⟨Nat.zero_le _,h,Nat.zero_le _,Nat.zero_le _,fun x hx=>by cases hx⟩
set_option maxRecDepth 100000 in
theorem add_ok {s:QK} (h:s.ok) {p:Pk} (hp:p.size≤18446744073709551615):(s.addQ p).ok:=⟨Pl.addS_le _ _,h.room,h.dr,h.lost,fun x hx=>by
 rcases List.mem_append.1 hx with c | c
 ·exact h.sz x c
 ·rw [List.mem_singleton.1 c];exact hp⟩
set_option maxRecDepth 100000 in
theorem drop_ok {s:QK} (h:s.ok) (p:Pk):(s.dropQ p).ok:=⟨h.n,h.room,Pl.addS_le _ _,Pl.addS_le _ _,h.sz⟩
set_option maxRecDepth 100000 in
theorem put_ok {s:QK} (h:s.ok) {p:Pk} (hp:p.size≤18446744073709551615):(s.putQ p).ok:=by
 unfold putQ;split
 ·exact add_ok h hp
 ·exact drop_ok h p
set_option maxRecDepth 100000 in
theorem head_ok {s:QK} (h:s.ok):s.headQ.size≤18446744073709551615:=by
 unfold headQ
 cases e:s.l with
 | nil=>exact Nat.zero_le _
 | cons x r=>exact h.sz x (by rw [e];simp)
set_option maxRecDepth 100000 in
theorem shift_ok {s:QK} (h:s.ok):s.shiftQ.ok:=⟨Nat.le_trans (Pl.subS_le _ _) h.n,h.room,h.dr,h.lost,fun x hx=>h.sz x (List.mem_of_mem_drop hx)⟩
set_option maxRecDepth 100000 in
theorem put_len (s:QK) (p:Pk):(s.putQ p).l.length≤s.l.length + 1:=by
 unfold putQ;split
 ·simp [addQ]
 ·exact Nat.le_succ _
end QK
structure QAt (w:World) (b rb g:Nat) (s:QK):Prop where
 head:Blk w b 106 (s.cells rb)
 row:PkRow w rb g s.l
set_option maxRecDepth 100000 in
theorem QAt.keep {w w':World} {b rb g:Nat} {s:QK} (h:QAt w b rb g s) (k:Below w.heap.size w w'):QAt w' b rb g s:=⟨h.head.keep k,h.row.keep k⟩
set_option maxRecDepth 100000 in
theorem QAt.ne {w:World} {b rb g:Nat} {s:QK} (h:QAt w b rb g s):b≠rb∧b≠g∧rb≠g:=by
 obtain ⟨cs,h1⟩:=h.row.head
 obtain ⟨ds,h2⟩:=h.row.body
 exact ⟨h.head.ty h1 (by decide),h.head.ty h2 (by decide),h.row.ne⟩
set_option maxRecDepth 100000 in
theorem QAt.lt {w:World} {b rb g:Nat} {s:QK} (h:QAt w b rb g s):b < w.heap.size∧rb < w.heap.size∧g < w.heap.size:=⟨h.head.lt,h.row.lt⟩
set_option maxRecDepth 100000 in
theorem QAt.fr {w w':World} {b rb g:Nat} {s:QK} {L:List Nat} (h:QAt w b rb g s) (k:Fr w w' L) (h1:b ∉ L) (h2:rb ∉ L) (h3:g ∉ L):QAt w' b rb g s:=⟨h.head.fr k h1,h.row.fr k h2 h3⟩
structure QPost (W:World) (b rb g0:Nat) (r:Value) (s:QK) (e:Ending) (w:World):Prop where
 e:e=.returned r
 at_:∃g,QAt w b rb g s∧(g=g0∨W.heap.size≤g)
 fr:Fr W w [b,rb,g0]
structure QM (W:World) (b rb g0 z:Nat) (cs:List Value) (s:QK) (w:World):Prop where
 at_:∃g,QAt w b rb g s∧(g=g0∨W.heap.size≤g)∧g≠z
 fr:Fr W w [b,rb,g0]
 box:Blk w z 65 cs.toArray
 lo:W.heap.size≤z
 gz:b < z∧rb < z∧g0 < z
set_option maxRecDepth 100000 in
theorem QM.to {W w w':World} {b rb g0 z:Nat} {cs:List Value} {s:QK} (h:QM W b rb g0 z cs s w) (k:Below w.heap.size w w'):QM W b rb g0 z cs s w':=
 ⟨by obtain ⟨g,h1,h2⟩:=h.at_;exact ⟨g,h1.keep k,h2⟩,h.fr.below k,h.box.keep k,h.lo,h.gz⟩
set_option maxRecDepth 100000 in
theorem QM.drew {W w:World} {b rb g0 z:Nat} {cs:List Value} {s:QK} (h:QM W b rb g0 z cs s w):QM W b rb g0 z cs s w.drew:=h.to ((Drawn.drew w).below _)
set_option maxRecDepth 100000 in
theorem QM.set {W w:World} {b rb g0 z:Nat} {cs:List Value} {s s':QK} (h:QM W b rb g0 z cs s w) (i:Nat) (u:Value) (he:(s.cells rb).setIfInBounds i u=s'.cells rb) (hl:s.l=s'.l):QM W b rb g0 z cs s' (w.setCell ⟨b,i,none⟩ u):=by
 obtain ⟨g,h1,h2⟩:=h.at_
 have n:=h1.ne
 exact ⟨⟨g,⟨he▸h1.head.set i u,hl▸h1.row.set_other (Ne.symm n.1) (Ne.symm n.2.1)⟩,h2⟩,h.fr.set (.inl (by simp)) i u,h.box.set_other i u (by have:=h.gz;omega),h.lo,h.gz⟩
set_option maxRecDepth 100000 in
theorem QM.head {W w:World} {b rb g0 z:Nat} {cs:List Value} {s:QK} (h:QM W b rb g0 z cs s w):Blk w b 106 (s.cells rb):=by obtain ⟨g,h1,_⟩:=h.at_;exact h1.head
set_option maxRecDepth 100000 in
theorem QM.post {W w:World} {b rb g0 z:Nat} {cs:List Value} {s:QK} {v:Value} (h:QM W b rb g0 z cs s w):QPost W b rb g0 v s (.returned v) w:=
 ⟨rfl,by obtain ⟨g,h1,h2⟩:=h.at_;exact ⟨g,h1,h2.1⟩,h.fr⟩
set_option maxRecDepth 100000 in
theorem QM.start {W:World} {b rb g:Nat} {s:QK} (h:QAt W b rb g s) (cs:List Value):QM W b rb g W.heap.size cs s (W.alloc (.cells cs.toArray 65)):=
 ⟨⟨g,h.keep (al_be _ _),.inl rfl,by have:=h.lt;omega⟩,(Fr.refl _ _).alloc _,Blk.new _ _ _,Nat.le_refl _,h.lt⟩
set_option maxRecDepth 100000 in
theorem QM.ring {W w w':World} {b rb g0 z g:Nat} {cs:List Value} {s:QK} {l:List Pk} {v e:Ending} (h:QM W b rb g0 z cs s w) (h1:QAt w b rb g s) (h2:(g=g0∨W.heap.size≤g)∧g≠z) (k:PkRPost w rb g v l e w'):QM W b rb g0 z cs ⟨l,s.n,s.room,s.dr,s.lost⟩ w':=by
 obtain ⟨g',k1,k2⟩:=k.at_
 have n:=h1.ne
 have lt:=h1.lt
 have zl:=h.box.lt
 have gz:=h.gz
 refine ⟨⟨g',⟨h1.head.fr k.mv (by simp [n.1,n.2.1]),k1⟩,by have:=h.fr.size;rcases k2 with c | c;exact c▸h2;omega⟩,h.fr.trans k.mv (fun x hx=>?_),h.box.fr k.mv (by simp;omega),h.lo,gz⟩
 have lo:=h.lo
 simp at hx ⊢
 omega
set_option maxRecDepth 100000 in
theorem QM.call {W w w':World} {b rb g0 z g:Nat} {cs:List Value} {s s':QK} {v:Value} {e:Ending} (h:QM W b rb g0 z cs s w) (h1:QAt w b rb g s) (h2:(g=g0∨W.heap.size≤g)∧g≠z) (k:QPost w b rb g v s' e w'):QM W b rb g0 z cs s' w':=by
 obtain ⟨g',k1,k2⟩:=k.at_
 have zl:=h.box.lt
 have gz:=h.gz
 refine ⟨⟨g',k1,by have:=h.fr.size;rcases k2 with c | c;exact c▸h2;omega⟩,h.fr.trans k.fr (fun x hx=>?_),h.box.fr k.fr (by simp;omega),h.lo,gz⟩
 have lo:=h.lo
 simp at hx ⊢
 omega
set_option maxRecDepth 100000 in
theorem QM.boxed {W w w':World} {b rb g0 z:Nat} {cs ds:List Value} {s:QK} (h:QM W b rb g0 z cs s w) (hl:ds.length=cs.length):QM W b rb g0 z ds s (w.setCells z 0 ds):=by
 obtain ⟨g,h1,h2⟩:=h.at_
 have zl:=h.box.lt
 have gz:=h.gz
 have gn:=h2.2
 have f:Fr w (w.setCells z 0 ds) [z]:=Fr.sets (.inl (by simp)) ds 0 w (Fr.refl _ _)
 refine ⟨⟨g,h1.fr f (by simp;omega) (by simp;omega) (by simp;omega),h2⟩,h.fr.trans f (fun x hx=>?_),h.box.whole ds (by simpa using hl),h.lo,gz⟩
 have lo:=h.lo
 simp at hx ⊢
 omega
def QSo (W:World) (b rb g0 z:Nat) (cs:List Value) (s:QK) (w:World):Prop:=∃n d k,QM W b rb g0 z cs ⟨s.l,n,s.room,d,k⟩ w
set_option maxRecDepth 100000 in
theorem qso {W w:World} {b rb g0 z n d k r:Nat} {cs:List Value} {s:QK} {l:List Pk} (h:Hid (QM W b rb g0 z cs ⟨s.l,n,s.room,d,k⟩ w)):Hid (QSo W b rb g0 z cs s w):=Lib.hid ⟨n,d,k,h.out⟩
set_option maxRecDepth 100000 in
theorem qso_box {W:World} {b rb g0 z i:Nat} {cs:List Value} {s:QK} {v:Value} (hv:cs[i]? =some v):∀w,Hid (QSo W b rb g0 z cs s w)→w.cell? ⟨z,i,none⟩=some v:=fun w h=>by
 obtain ⟨n,d,k,h1⟩:=h.out
 exact h1.box.cell (by simpa using hv)
set_option maxRecDepth 100000 in
theorem qm_r {W:World} {b rb g0 z:Nat} {cs:List Value} {s:QK}:(∀w,Hid (QM W b rb g0 z cs s w)→w.cell? ⟨b,0,none⟩=some (.pointer (some ⟨rb,0,none⟩)))∧(∀w,Hid (QM W b rb g0 z cs s w)→w.cell? ⟨b,1,none⟩=some (.int .u64 (s.n:Int)))∧(∀w,Hid (QM W b rb g0 z cs s w)→w.cell? ⟨b,2,none⟩=some (.int .u64 (s.room:Int)))∧(∀w,Hid (QM W b rb g0 z cs s w)→w.rangeAt z 0 cs):=
 ⟨fun w h=>h.out.head.cell rfl,fun w h=>h.out.head.cell rfl,fun w h=>h.out.head.cell rfl,fun w h=>h.out.box.range0⟩
set_option maxRecDepth 100000 in
theorem wq_push (b rb g0:Nat) (p:Pk) (s:QK) (W:World) (cs:List Value) (hc:Itm.cs p=cs) (hk:s.l.length≤5000):∀w,QM W b rb g0 W.heap.size cs s w→
  Calls Try.prog 74 #[.pointer (some ⟨rb,0,none⟩),.agg cs.toArray] w fun e w'=>e=.returned (.tuple #[])∧Hid (QM W b rb g0 W.heap.size cs (s.pushQ p) w'):=fun w h=>by
 obtain ⟨g,h1,h2⟩:=h.at_
 have:=pk_push rb g p s.l w h1.row hk
 subst hc
 exact this.mono fun e w' k=>⟨k.e,Lib.hid (h.ring h1 h2 k)⟩
set_option maxRecDepth 100000 in
theorem qx_r {W:World} {b rb g0 z:Nat} {cs:List Value}:(∀w,Hid (∃s,QM W b rb g0 z cs s w)→w.cell? ⟨b,0,none⟩=some (.pointer (some ⟨rb,0,none⟩)))∧(∀w,Hid (∃s,QM W b rb g0 z cs s w)→w.rangeAt z 0 cs):=
 ⟨fun w h=>by obtain ⟨s,k⟩:=h.out;exact k.head.cell rfl,fun w h=>by obtain ⟨s,k⟩:=h.out;exact k.box.range0⟩
set_option maxRecDepth 100000 in
theorem qx_of {W w:World} {b rb g0 z:Nat} {cs:List Value} {s:QK} (h:Hid (QM W b rb g0 z cs s w)):Hid (∃s,QM W b rb g0 z cs s w):=Lib.hid ⟨s,h.out⟩
set_option maxRecDepth 100000 in
set_option maxHeartbeats 1000000 in
theorem wq_add (b rb g0:Nat) (p:Pk) (s:QK) (W:World) (h:QAt W b rb g0 s) (ho:s.ok) (hp:p.size≤18446744073709551615) (hk:s.l.length≤5000):
  Calls Try.prog 61 #[.pointer (some ⟨b,0,none⟩),p.agg] W (QPost W b rb g0 (.tuple #[]) (s.addQ p)):=by
 have HC:=Lib.hid (wq_push b rb g0 p s W _ rfl hk)
 have K0:=Lib.hid (QM.start h (Itm.cs p))
 have hA:=Lib.hid (add_any s.n p.size ho.n hp)
 have hx:(Itm.cs p)[1]? =some (.int .u64 (p.size:Int)):=rfl
 unfold Pk.agg
 go_enter Try.func61,Try.ntmps61
 go_wp2_with fail
 have hu:=Try.underlying65
 have hi:=pk_inf p
 change Code.wp _ _ _ _ (W.alloc (.cells (Itm.cs p).toArray 65))
 generalize hcs:Itm.cs p=cs at *
 generalize W.alloc (.cells cs.toArray 65)=w1 at *
 have K1:=Lib.hid K0.out.drew
 obtain ⟨r0,r1⟩:=qx_r (W:=W) (b:=b) (rb:=rb) (g0:=g0) (z:=W.heap.size) (cs:=cs)
 refine wp_region_held_drew (S:=(fun w'=>Hid (∃s,QM W b rb g0 W.heap.size cs s w'))) (by kernel_rfl) (qx_of K1) (fun hHeld=>?_)
 simp only [List.size_toArray,List.length_cons,List.length_nil,Nat.reduceAdd,Array.replicate_succ,Array.replicate_zero,List.push_toArray,List.nil_append,List.cons_append]
 refine' wpAnyH_take (i:=4) (oi:=⟨some 8,_,_,_,_,_⟩) (v:=_) rfl (by kernel_rfl) (by kernel_rfl) (by kernel_rfl) (fun _ _ _ h=>h) (yieldsIf_load_mid (by rfl) _ _ rfl _ _ rfl _ _ ?hS1 hu rfl hi) (by assumption) ?r1
 case hS1=>intro w hSw;exact r1 _ hSw
 simp only [Act.put,List.setIfInBounds_toArray,List.set_cons_zero,List.set_cons_succ]
 refine wpAnyH_take (i:=0) (oi:=⟨some 4,_,_,_,_,_⟩) (v:=?v2) rfl (by kernel_rfl) (by kernel_rfl) (by kernel_rfl) (fun _ _ _ h=>h) (Or.inl ⟨by rfl,?y2⟩) (by assumption) ?r2
 case y2=>intro w hSw;clear hSw;go_simp;(try with_reducible rfl)
 simp only [Act.put,List.setIfInBounds_toArray,List.set_cons_zero,List.set_cons_succ]
 refine wpAnyH_take (i:=1) (oi:=⟨some 5,_,_,_,_,_⟩) (v:=?v3) rfl (by kernel_rfl) (by kernel_rfl) (by kernel_rfl) (fun _ _ _ h=>h) (Or.inl ⟨by rfl,?y3⟩) (by assumption) ?r3
 case y3=>intro w hSw;clear hSw;go_simp;(try with_reducible rfl)
 simp only [Act.put,List.setIfInBounds_toArray,List.set_cons_zero,List.set_cons_succ]
 refine wpAnyH_take (i:=2) (oi:=⟨some 6,_,_,_,_,_⟩) (v:=?v4) rfl (by kernel_rfl) (by kernel_rfl) (by kernel_rfl) (fun _ _ _ h=>h) (Or.inl ⟨by rfl,?y4⟩) (by assumption) ?r4
 case y4=>intro w hSw;clear hSw;go_simp;(try with_reducible rfl)
 simp only [Act.put,List.setIfInBounds_toArray,List.set_cons_zero,List.set_cons_succ]
 refine wpAnyH_take (i:=3) (oi:=⟨some 7,_,_,_,_,_⟩) (v:=?v5) rfl (by kernel_rfl) (by kernel_rfl) (by kernel_rfl) (fun _ _ _ h=>h) (Or.inl ⟨by rfl,?y5⟩) (by assumption) ?r5
 case y5=>intro w hSw;skip;go_simp;(try with_reducible rfl)
 simp only [Act.put,List.setIfInBounds_toArray,List.set_cons_zero,List.set_cons_succ]
 refine wpAnyH_ready (rs:=[5]) (by kernel_rfl) (by simp) ?_
 refine AllReadyH.cons (o:=⟨some 9,_,_,_,_,_⟩) rfl (fun K hK=>?_) AllReadyH.nil
 go_simp
 refine (HC.out _ (Hid.out (by assumption))).mono ?_
 rintro e w2 ⟨rfl,K2⟩
 go_wp2_with fail
 refine hK.out _ _ (qx_of K2) (fun hHeld=>?_)
 clear hK
 try simp only [List.setIfInBounds_toArray,List.set_cons_zero,List.set_cons_succ]
 refine wpAnyH_done (by kernel_rfl) ?_ _
 skip
 clear hHeld r0 r1 K1 HC
 have R1:=qso_box (W:=W) (b:=b) (rb:=rb) (g0:=g0) (z:=W.heap.size) (s:=s.pushQ p) hx
 have EQ:Hid (s.addQ p=⟨(s.pushQ p).l,Pl.addS s.n p.size,(s.pushQ p).room,(s.pushQ p).dr,(s.pushQ p).lost⟩):=Lib.hid rfl
 have M0:Hid (QM W b rb g0 W.heap.size cs ⟨(s.pushQ p).l,s.n,(s.pushQ p).room,(s.pushQ p).dr,(s.pushQ p).lost⟩ w2):=K2
 clear K2 hcs K0 h ho
 generalize Pl.addS s.n p.size=y at *
 generalize p.size=x at *
 generalize s.n=n at *
 generalize s.pushQ p=s at *
 go_wp2_with fail
 have M1:=Lib.hid M0.out.drew
 refine wp_region_held_drew (S:=(fun w'=>Hid (QSo W b rb g0 W.heap.size cs s w'))) (by kernel_rfl) (qso (s:=s) (l:=[]) (r:=0) M1) (fun hHeld=>?_)
 generalize w2.drew=wd at *
 simp only [List.size_toArray,List.length_cons,List.length_nil,Nat.reduceAdd,Array.replicate_succ,Array.replicate_zero,List.push_toArray,List.nil_append,List.cons_append]
 refine wpAnyH_take (i:=0) (oi:=⟨some 10,_,_,_,_,_⟩) (v:=?v6) rfl (by kernel_rfl) (by kernel_rfl) (by kernel_rfl) (fun _ _ _ h=>h) (Or.inl ⟨by rfl,?y6⟩) (by assumption) ?r6
 case y6=>intro w hSw;clear hSw;go_simp;(try with_reducible rfl)
 simp only [Act.put,List.setIfInBounds_toArray,List.set_cons_zero,List.set_cons_succ]
 refine wpAnyH_take (i:=1) (oi:=⟨some 11,_,_,_,_,_⟩) (v:=?v7) rfl (by kernel_rfl) (by kernel_rfl) (by kernel_rfl) (fun _ _ _ h=>h) (Or.inl ⟨by rfl,?y7⟩) (by assumption) ?r7
 case y7=>intro w hSw;clear hSw;go_simp;(try with_reducible rfl)
 simp only [Act.put,List.setIfInBounds_toArray,List.set_cons_zero,List.set_cons_succ]
 refine wpAnyH_take (i:=2) (oi:=⟨some 12,_,_,_,_,_⟩) (v:=?v8) rfl (by kernel_rfl) (by kernel_rfl) (by kernel_rfl) (fun _ _ _ h=>h) (Or.inl ⟨by rfl,?y8⟩) (by assumption) ?r8
 case y8=>intro w hSw;clear hSw;go_simp;(try with_reducible rfl)
 simp only [Act.put,List.setIfInBounds_toArray,List.set_cons_zero,List.set_cons_succ]
 refine wpAnyH_take (i:=3) (oi:=⟨some 13,_,_,_,_,_⟩) (v:=?v9) rfl (by kernel_rfl) (by kernel_rfl) (by kernel_rfl) (fun _ _ _ h=>h) (Or.inl ⟨by rfl,?y9⟩) (by assumption) ?r9
 case y9=>intro w hSw;clear hSw;go_simp;(try with_reducible rfl)
 simp only [Act.put,List.setIfInBounds_toArray,List.set_cons_zero,List.set_cons_succ]
 refine wpAnyH_take (i:=5) (oi:=⟨some 15,_,_,_,_,_⟩) (v:=?v10) rfl (by kernel_rfl) (by kernel_rfl) (by kernel_rfl) (fun _ _ _ h=>h) (Or.inl ⟨by rfl,?y10⟩) (by assumption) ?r10
 case y10=>intro w hSw;clear hSw;go_simp;(try with_reducible rfl)
 simp only [Act.put,List.setIfInBounds_toArray,List.set_cons_zero,List.set_cons_succ]
 refine wpAnyH_take (i:=6) (oi:=⟨some 16,_,_,_,_,_⟩) (v:=?v11) rfl (by kernel_rfl) (by kernel_rfl) (by kernel_rfl) (fun _ _ _ h=>h) (Or.inl ⟨by rfl,?y11⟩) (by assumption) ?r11
 case y11=>intro w hSw;skip;go_simp;(try with_reducible rfl)
 simp only [Act.put,List.setIfInBounds_toArray,List.set_cons_zero,List.set_cons_succ]
 refine wpAnyH_ready (rs:=[4]) (by kernel_rfl) (by simp) ?_
 refine AllReadyH.cons (o:=⟨some 14,_,_,_,_,_⟩) rfl (fun K hK=>?_) AllReadyH.nil
 have c3:=(Hid.out (by assumption):QM W b rb g0 W.heap.size cs ⟨s.l,n,s.room,s.dr,s.lost⟩ _).head.cell (i:=1) (v:=.int .u64 (n:Int)) rfl
 go_simp
 refine hK.out _ _ hHeld (fun hHeld=>?_)
 clear hK
 try simp only [List.setIfInBounds_toArray,List.set_cons_zero,List.set_cons_succ]
 refine wpAnyH_ready (rs:=[7]) (by kernel_rfl) (by simp) ?_
 refine AllReadyH.cons (o:=⟨some 17,_,_,_,_,_⟩) rfl (fun K hK=>?_) AllReadyH.nil
 have M3:=Lib.hid ((Hid.out (by assumption):QM W b rb g0 W.heap.size cs ⟨s.l,n,s.room,s.dr,s.lost⟩ _).to (al_be _ (.cells #[.int .u64 (n:Int),.int .u64 (x:Int)] 22)))
 go_simp
 refine hK.out _ _ (qso (s:=s) (l:=[]) (r:=0) M3) (fun hHeld=>?_)
 clear hK
 try simp only [List.setIfInBounds_toArray,List.set_cons_zero,List.set_cons_succ]
 refine wpAnyH_ready (rs:=[8]) (by kernel_rfl) (by simp) ?_
 refine AllReadyH.cons (o:=⟨some 18,_,_,_,_,_⟩) rfl (fun K hK=>?_) AllReadyH.nil
 go_simp
 refine (hA.out _ _ (nc2 _ _ _ _).1 (nc2 _ _ _ _).2).mono ?_
 rintro e w4 ⟨rfl,hb⟩
 have M4:=Lib.hid ((Hid.out (by assumption):QM W b rb g0 W.heap.size cs ⟨s.l,n,s.room,s.dr,s.lost⟩ _).to hb)
 go_wp2_with fail
 refine hK.out _ _ (qso (s:=s) (l:=[]) (r:=0) M4) (fun hHeld=>?_)
 clear hK
 try simp only [List.setIfInBounds_toArray,List.set_cons_zero,List.set_cons_succ]
 refine wpAnyH_take (i:=9) (oi:=⟨some 19,_,_,_,_,_⟩) (v:=?v12) rfl (by kernel_rfl) (by kernel_rfl) (by kernel_rfl) (fun _ _ _ h=>h) (Or.inl ⟨by rfl,?y12⟩) (by assumption) ?r12
 case y12=>intro w hSw;clear hSw;go_simp;(try with_reducible rfl)
 simp only [Act.put,List.setIfInBounds_toArray,List.set_cons_zero,List.set_cons_succ]
 refine wpAnyH_take (i:=10) (oi:=⟨some 20,_,_,_,_,_⟩) (v:=?v13) rfl (by kernel_rfl) (by kernel_rfl) (by kernel_rfl) (fun _ _ _ h=>h) (Or.inl ⟨by rfl,?y13⟩) (by assumption) ?r13
 case y13=>intro w hSw;clear hSw;go_simp;(try with_reducible rfl)
 simp only [Act.put,List.setIfInBounds_toArray,List.set_cons_zero,List.set_cons_succ]
 refine wpAnyH_ready (rs:=[11]) (by kernel_rfl) (by simp) ?_
 refine AllReadyH.cons (o:=⟨none,_,_,_,_,_⟩) rfl (fun K hK=>?_) AllReadyH.nil
 have y3:=(Hid.out (by assumption):QM W b rb g0 W.heap.size cs ⟨s.l,n,s.room,s.dr,s.lost⟩ _).head.free 1
 have c3:=(Hid.out (by assumption):QM W b rb g0 W.heap.size cs ⟨s.l,n,s.room,s.dr,s.lost⟩ _).head.cell (i:=1) (v:=.int .u64 (n:Int)) rfl
 have M6:=Lib.hid ((Hid.out (by assumption):QM W b rb g0 W.heap.size cs ⟨s.l,n,s.room,s.dr,s.lost⟩ _).set (s':=⟨s.l,y,s.room,s.dr,s.lost⟩) 1 (.int .u64 (y:Int)) rfl rfl)
 go_simp
 refine hK.out _ _ (qso (s:=s) (l:=[]) (r:=0) M6) (fun hHeld=>?_)
 clear hK
 try simp only [List.setIfInBounds_toArray,List.set_cons_zero,List.set_cons_succ]
 refine wpAnyH_done (by kernel_rfl) ?_ _
 go_end0
 rw [EQ.out]
 exact M6.out.post
set_option maxRecDepth 100000 in
set_option maxHeartbeats 1000000 in
theorem wq_drop (b rb g0:Nat) (p:Pk) (s:QK) (W:World) (h:QAt W b rb g0 s) (ho:s.ok) (hp:p.size≤18446744073709551615):
  Calls Try.prog 60 #[.pointer (some ⟨b,0,none⟩),p.agg] W (QPost W b rb g0 (.tuple #[]) (s.dropQ p)):=by
 have K0:=Lib.hid (QM.start h (Itm.cs p))
 have hA:=Lib.hid (add_any s.dr 1 ho.dr (by omega))
 have hB:=Lib.hid (add_any s.lost p.size ho.lost hp)
 have hx:(Itm.cs p)[1]? =some (.int .u64 (p.size:Int)):=rfl
 have EQ:Hid (s.dropQ p=⟨s.l,s.n,s.room,Pl.addS s.dr 1,Pl.addS s.lost p.size⟩):=Lib.hid rfl
 unfold Pk.agg
 go_enter Try.func60,Try.ntmps60
 go_upto_region 1 with fail
 change Code.wp _ _ _ _ (W.alloc (.cells (Itm.cs p).toArray 65))
 generalize hcs:Itm.cs p=cs at *
 generalize W.alloc (.cells cs.toArray 65)=w0 at *
 have h3:=K0.out.head.cell (i:=3) (v:=.int .u64 (s.dr:Int)) rfl
 go_wp2_with fail
 have K1:=Lib.hid (K0.out.to (al_be _ (.cells #[.int .u64 (s.dr:Int),.int .u64 1] 22)))
 refine (hA.out _ _ (new_cell (c:=#[.int .u64 (s.dr:Int),.int .u64 1]) rfl rfl) (new_cell (c:=#[.int .u64 (s.dr:Int),.int .u64 1]) rfl rfl)).mono ?_
 rintro e w1 ⟨rfl,hb⟩
 have K2:=Lib.hid (K1.out.to hb)
 have y3:=K2.out.head.free 3
 have c3:=K2.out.head.cell (i:=3) (v:=.int .u64 (s.dr:Int)) rfl
 have M0:=Lib.hid (K2.out.set (s':=⟨s.l,s.n,s.room,Pl.addS s.dr 1,s.lost⟩) 3 (.int .u64 ((Pl.addS s.dr 1:Nat):Int)) rfl rfl)
 have R1:=qso_box (W:=W) (b:=b) (rb:=rb) (g0:=g0) (z:=W.heap.size) (s:=s) hx
 clear hb K1 K2 hcs K0 h ho h3
 generalize Pl.addS s.dr 1=q at *
 generalize Pl.addS s.lost p.size=y at *
 generalize p.size=x at *
 generalize s.lost=n at *
 go_wp2_with fail
 generalize (w1.setCell ⟨b,3,none⟩ (.int .u64 (q:Int)))=w2 at *
 have M1:=Lib.hid M0.out.drew
 refine wp_region_held_drew (S:=(fun w'=>Hid (QSo W b rb g0 W.heap.size cs s w'))) (by kernel_rfl) (qso (s:=s) (l:=[]) (r:=0) M1) (fun hHeld=>?_)
 generalize w2.drew=wd at *
 simp only [List.size_toArray,List.length_cons,List.length_nil,Nat.reduceAdd,Array.replicate_succ,Array.replicate_zero,List.push_toArray,List.nil_append,List.cons_append]
 refine wpAnyH_take (i:=0) (oi:=⟨some 13,_,_,_,_,_⟩) (v:=?v14) rfl (by kernel_rfl) (by kernel_rfl) (by kernel_rfl) (fun _ _ _ h=>h) (Or.inl ⟨by rfl,?y14⟩) (by assumption) ?r14
 case y14=>intro w hSw;clear hSw;go_simp;(try with_reducible rfl)
 simp only [Act.put,List.setIfInBounds_toArray,List.set_cons_zero,List.set_cons_succ]
 refine wpAnyH_take (i:=1) (oi:=⟨some 14,_,_,_,_,_⟩) (v:=?v15) rfl (by kernel_rfl) (by kernel_rfl) (by kernel_rfl) (fun _ _ _ h=>h) (Or.inl ⟨by rfl,?y15⟩) (by assumption) ?r15
 case y15=>intro w hSw;clear hSw;go_simp;(try with_reducible rfl)
 simp only [Act.put,List.setIfInBounds_toArray,List.set_cons_zero,List.set_cons_succ]
 refine wpAnyH_take (i:=2) (oi:=⟨some 15,_,_,_,_,_⟩) (v:=?v16) rfl (by kernel_rfl) (by kernel_rfl) (by kernel_rfl) (fun _ _ _ h=>h) (Or.inl ⟨by rfl,?y16⟩) (by assumption) ?r16
 case y16=>intro w hSw;clear hSw;go_simp;(try with_reducible rfl)
 simp only [Act.put,List.setIfInBounds_toArray,List.set_cons_zero,List.set_cons_succ]
 refine wpAnyH_take (i:=3) (oi:=⟨some 16,_,_,_,_,_⟩) (v:=?v17) rfl (by kernel_rfl) (by kernel_rfl) (by kernel_rfl) (fun _ _ _ h=>h) (Or.inl ⟨by rfl,?y17⟩) (by assumption) ?r17
 case y17=>intro w hSw;clear hSw;go_simp;(try with_reducible rfl)
 simp only [Act.put,List.setIfInBounds_toArray,List.set_cons_zero,List.set_cons_succ]
 refine wpAnyH_take (i:=5) (oi:=⟨some 18,_,_,_,_,_⟩) (v:=?v18) rfl (by kernel_rfl) (by kernel_rfl) (by kernel_rfl) (fun _ _ _ h=>h) (Or.inl ⟨by rfl,?y18⟩) (by assumption) ?r18
 case y18=>intro w hSw;clear hSw;go_simp;(try with_reducible rfl)
 simp only [Act.put,List.setIfInBounds_toArray,List.set_cons_zero,List.set_cons_succ]
 refine wpAnyH_take (i:=6) (oi:=⟨some 19,_,_,_,_,_⟩) (v:=?v19) rfl (by kernel_rfl) (by kernel_rfl) (by kernel_rfl) (fun _ _ _ h=>h) (Or.inl ⟨by rfl,?y19⟩) (by assumption) ?r19
 case y19=>intro w hSw;skip;go_simp;(try with_reducible rfl)
 simp only [Act.put,List.setIfInBounds_toArray,List.set_cons_zero,List.set_cons_succ]
 refine wpAnyH_ready (rs:=[4]) (by kernel_rfl) (by simp) ?_
 refine AllReadyH.cons (o:=⟨some 17,_,_,_,_,_⟩) rfl (fun K hK=>?_) AllReadyH.nil
 have c3:=(Hid.out (by assumption):QM W b rb g0 W.heap.size cs ⟨s.l,s.n,s.room,q,n⟩ _).head.cell (i:=4) (v:=.int .u64 (n:Int)) rfl
 go_simp
 refine hK.out _ _ hHeld (fun hHeld=>?_)
 clear hK
 try simp only [List.setIfInBounds_toArray,List.set_cons_zero,List.set_cons_succ]
 refine wpAnyH_ready (rs:=[7]) (by kernel_rfl) (by simp) ?_
 refine AllReadyH.cons (o:=⟨some 20,_,_,_,_,_⟩) rfl (fun K hK=>?_) AllReadyH.nil
 have M3:=Lib.hid ((Hid.out (by assumption):QM W b rb g0 W.heap.size cs ⟨s.l,s.n,s.room,q,n⟩ _).to (al_be _ (.cells #[.int .u64 (n:Int),.int .u64 (x:Int)] 22)))
 go_simp
 refine hK.out _ _ (qso (s:=s) (l:=[]) (r:=0) M3) (fun hHeld=>?_)
 clear hK
 try simp only [List.setIfInBounds_toArray,List.set_cons_zero,List.set_cons_succ]
 refine wpAnyH_ready (rs:=[8]) (by kernel_rfl) (by simp) ?_
 refine AllReadyH.cons (o:=⟨some 21,_,_,_,_,_⟩) rfl (fun K hK=>?_) AllReadyH.nil
 go_simp
 refine (hB.out _ _ (nc2 _ _ _ _).1 (nc2 _ _ _ _).2).mono ?_
 rintro e w4 ⟨rfl,hb⟩
 have M4:=Lib.hid ((Hid.out (by assumption):QM W b rb g0 W.heap.size cs ⟨s.l,s.n,s.room,q,n⟩ _).to hb)
 go_wp2_with fail
 refine hK.out _ _ (qso (s:=s) (l:=[]) (r:=0) M4) (fun hHeld=>?_)
 clear hK
 try simp only [List.setIfInBounds_toArray,List.set_cons_zero,List.set_cons_succ]
 refine wpAnyH_take (i:=9) (oi:=⟨some 22,_,_,_,_,_⟩) (v:=?v20) rfl (by kernel_rfl) (by kernel_rfl) (by kernel_rfl) (fun _ _ _ h=>h) (Or.inl ⟨by rfl,?y20⟩) (by assumption) ?r20
 case y20=>intro w hSw;clear hSw;go_simp;(try with_reducible rfl)
 simp only [Act.put,List.setIfInBounds_toArray,List.set_cons_zero,List.set_cons_succ]
 refine wpAnyH_take (i:=10) (oi:=⟨some 23,_,_,_,_,_⟩) (v:=?v21) rfl (by kernel_rfl) (by kernel_rfl) (by kernel_rfl) (fun _ _ _ h=>h) (Or.inl ⟨by rfl,?y21⟩) (by assumption) ?r21
 case y21=>intro w hSw;clear hSw;go_simp;(try with_reducible rfl)
 simp only [Act.put,List.setIfInBounds_toArray,List.set_cons_zero,List.set_cons_succ]
 refine wpAnyH_ready (rs:=[11]) (by kernel_rfl) (by simp) ?_
 refine AllReadyH.cons (o:=⟨none,_,_,_,_,_⟩) rfl (fun K hK=>?_) AllReadyH.nil
 have y3:=(Hid.out (by assumption):QM W b rb g0 W.heap.size cs ⟨s.l,s.n,s.room,q,n⟩ _).head.free 4
 have c3:=(Hid.out (by assumption):QM W b rb g0 W.heap.size cs ⟨s.l,s.n,s.room,q,n⟩ _).head.cell (i:=4) (v:=.int .u64 (n:Int)) rfl
 have M6:=Lib.hid ((Hid.out (by assumption):QM W b rb g0 W.heap.size cs ⟨s.l,s.n,s.room,q,n⟩ _).set (s':=⟨s.l,s.n,s.room,q,y⟩) 4 (.int .u64 (y:Int)) rfl rfl)
 go_simp
 refine hK.out _ _ (qso (s:=s) (l:=[]) (r:=0) M6) (fun hHeld=>?_)
 clear hK
 try simp only [List.setIfInBounds_toArray,List.set_cons_zero,List.set_cons_succ]
 refine wpAnyH_done (by kernel_rfl) ?_ _
 go_end0
 rw [EQ.out]
 exact M6.out.post
set_option maxRecDepth 100000 in
theorem wq_room (b rb g:Nat) (s:QK) (w:World) (h:QAt w b rb g s):
  Calls Try.prog 40 #[.pointer (some ⟨b,0,none⟩)] w fun e w'=>e=.returned (.int .u64 (s.n:Int))∧w=w':=by
 have h1:=h.head.cell (i:=1) (v:=.int .u64 (s.n:Int)) rfl
 clear h
 go_enter Try.func40,Try.ntmps40
 go_wp2
 go_ret
 exact ⟨rfl,rfl⟩
set_option maxRecDepth 100000 in
theorem wq_Dropped (b rb g:Nat) (s:QK) (w:World) (h:QAt w b rb g s):
  Calls Try.prog 38 #[.pointer (some ⟨b,0,none⟩)] w fun e w'=>e=.returned (.tuple #[.int .u64 (s.dr:Int),.int .u64 (s.lost:Int)])∧Drawn w w':=by
 have h3:=h.head.cell (i:=3) (v:=.int .u64 (s.dr:Int)) rfl
 have h4:=h.head.cell (i:=4) (v:=.int .u64 (s.lost:Int)) rfl
 clear h
 go_enter Try.func38,Try.ntmps38
 go_wp2_with fail
 go_quiet (fail)
 go_wp2_with fail
 go_ret2
 exact ⟨rfl,nq,rfl⟩
end Go.Proofs.Ytaffjfajjpgjpaa

set_option linter.unusedVariables false
namespace Go.Proofs.Ytaffjfajjpgjpaa
open Go.RowKit
set_option maxRecDepth 100000 in
theorem pk_first (rb g:Nat) (l:List Pk) (w:World) (h:PkRow w rb g l):
  Calls Try.prog 71 #[.pointer (some ⟨rb,0,none⟩),.int .i64 0] w fun e w'=>e=pkgot (l.getD 0 Itm.z) (!l.isEmpty)∧Below w.heap.size w w':=by
 cases l with
 | nil=>exact pk_at_out rb g 0 [] w h (.inr (by simp))
 | cons x r=>exact pk_at rb g 0 (x :: r) w h (by simp)
set_option maxRecDepth 100000 in
theorem pk_shift_any (rb g:Nat) (l:List Pk) (w:World) (h:PkRow w rb g l):
  Calls Try.prog 77 #[.pointer (some ⟨rb,0,none⟩)] w (PkRPost w rb g (pkgot (l.getD 0 Itm.z) (!l.isEmpty)) (l.drop 1)):=by
 cases l with
 | nil=>exact pk_shift_none rb g w h
 | cons x r=>exact pk_shift rb g x r w h
set_option maxRecDepth 100000 in
set_option maxHeartbeats 1000000 in
theorem wq_first (b rb g:Nat) (s:QK) (W:World) (h:QAt W b rb g s):
  Calls Try.prog 49 #[.pointer (some ⟨b,0,none⟩)] W fun e w'=>e=pkgot s.headQ s.someQ∧Below W.heap.size W w':=by
 have K:=h.keep (al_be W (.cells #[.int .u64 0,.int .u64 0,.int .u64 0,.int .u64 0,.int .u64 0,.int .u64 0,.bool false] 65))
 have h0:=K.head.cell (i:=0) (v:=.pointer (some ⟨rb,0,none⟩)) rfl
 have HA:Hid (Calls Try.prog 71 #[.pointer (some ⟨rb,0,none⟩),.int .i64 0] (W.alloc (.cells #[.int .u64 0,.int .u64 0,.int .u64 0,.int .u64 0,.int .u64 0,.int .u64 0,.bool false] 65)) fun e w'=>e=pkgot s.headQ s.someQ∧Below (W.alloc (.cells #[.int .u64 0,.int .u64 0,.int .u64 0,.int .u64 0,.int .u64 0,.int .u64 0,.bool false] 65)).heap.size (W.alloc (.cells #[.int .u64 0,.int .u64 0,.int .u64 0,.int .u64 0,.int .u64 0,.int .u64 0,.bool false] 65)) w'):=Lib.hid (pk_first rb g s.l _ K.row)
 have HB:=Lib.hid (Blk.new W 65 #[.int .u64 0,.int .u64 0,.int .u64 0,.int .u64 0,.int .u64 0,.int .u64 0,.bool false])
 have HW:=Lib.hid (al_be W (.cells #[.int .u64 0,.int .u64 0,.int .u64 0,.int .u64 0,.int .u64 0,.int .u64 0,.bool false] 65))
 clear h K
 generalize s.headQ=x at *
 generalize s.someQ=q at *
 go_enter Try.func49,Try.ntmps49
 go_wp2_with fail
 refine HA.out.mono ?_
 rintro e w1 ⟨rfl,hb⟩
 have HB1:=Lib.hid (HB.out.keep hb)
 have HW1:=Lib.hid (bel_to HW.out hb (by simp))
 clear hb HA h0
 generalize (W.alloc (.cells #[.int .u64 0,.int .u64 0,.int .u64 0,.int .u64 0,.int .u64 0,.int .u64 0,.bool false] 65))=w0 at *
 have r0:=HB1.out.cell (i:=0) (v:=.int .u64 0) rfl
 have f0:=HB1.out.free 0
 have r1:=HB1.out.cell (i:=1) (v:=.int .u64 0) rfl
 have f1:=HB1.out.free 1
 have r2:=HB1.out.cell (i:=2) (v:=.int .u64 0) rfl
 have f2:=HB1.out.free 2
 have r3:=HB1.out.cell (i:=3) (v:=.int .u64 0) rfl
 have f3:=HB1.out.free 3
 have r4:=HB1.out.cell (i:=4) (v:=.int .u64 0) rfl
 have f4:=HB1.out.free 4
 have r5:=HB1.out.cell (i:=5) (v:=.int .u64 0) rfl
 have f5:=HB1.out.free 5
 have r6:=HB1.out.cell (i:=6) (v:=.bool false) rfl
 have f6:=HB1.out.free 6
 unfold pkgot Pk.agg
 go_wp2_with fail
 have F1:=Blk.whole (Itm.cs x) HB1.out rfl
 exact bodyPost_ret (results_cell_tmp rfl _ _ W.heap.size 65 _ _ rfl F1 Try.underlying65 rfl (by kernel_rfl)) rfl ⟨rfl,Below.sets (Nat.le_refl _) (Itm.cs x) 0 w1 HW1.out⟩
set_option maxRecDepth 100000 in
set_option maxHeartbeats 1000000 in
theorem wq_Head (b rb g:Nat) (s:QK) (W:World) (h:QAt W b rb g s):
  Calls Try.prog 26 #[.pointer (some ⟨b,0,none⟩)] W fun e w'=>e=pkgot s.headQ s.someQ∧Below W.heap.size W w':=by
 have K:=h.keep (al_be W (.cells #[.int .u64 0,.int .u64 0,.int .u64 0,.int .u64 0,.int .u64 0,.int .u64 0,.bool false] 65))
 have HA:=Lib.hid (wq_first b rb g s _ K)
 have HB:=Lib.hid (Blk.new W 65 #[.int .u64 0,.int .u64 0,.int .u64 0,.int .u64 0,.int .u64 0,.int .u64 0,.bool false])
 have HW:=Lib.hid (al_be W (.cells #[.int .u64 0,.int .u64 0,.int .u64 0,.int .u64 0,.int .u64 0,.int .u64 0,.bool false] 65))
 clear h K
 generalize s.headQ=x at *
 generalize s.someQ=q at *
 go_enter Try.func26,Try.ntmps26
 go_wp2_with fail
 refine HA.out.mono ?_
 rintro e w1 ⟨rfl,hb⟩
 have HB1:=Lib.hid (HB.out.keep hb)
 have HW1:=Lib.hid (bel_to HW.out hb (by simp))
 clear hb HA
 generalize (W.alloc (.cells #[.int .u64 0,.int .u64 0,.int .u64 0,.int .u64 0,.int .u64 0,.int .u64 0,.bool false] 65))=w0 at *
 have r0:=HB1.out.cell (i:=0) (v:=.int .u64 0) rfl
 have f0:=HB1.out.free 0
 have r1:=HB1.out.cell (i:=1) (v:=.int .u64 0) rfl
 have f1:=HB1.out.free 1
 have r2:=HB1.out.cell (i:=2) (v:=.int .u64 0) rfl
 have f2:=HB1.out.free 2
 have r3:=HB1.out.cell (i:=3) (v:=.int .u64 0) rfl
 have f3:=HB1.out.free 3
 have r4:=HB1.out.cell (i:=4) (v:=.int .u64 0) rfl
 have f4:=HB1.out.free 4
 have r5:=HB1.out.cell (i:=5) (v:=.int .u64 0) rfl
 have f5:=HB1.out.free 5
 have r6:=HB1.out.cell (i:=6) (v:=.bool false) rfl
 have f6:=HB1.out.free 6
 unfold pkgot Pk.agg
 go_wp2_with fail
 have F1:=Blk.whole (Itm.cs x) HB1.out rfl
 exact bodyPost_ret (results_cell_tmp rfl _ _ W.heap.size 65 _ _ rfl F1 Try.underlying65 rfl (by kernel_rfl)) rfl ⟨rfl,Below.sets (Nat.le_refl _) (Itm.cs x) 0 w1 HW1.out⟩
set_option maxRecDepth 100000 in
theorem QPost.boxed {W w1:World} {b rb g0:Nat} {s s':QK} {r v:Value} {e:Ending} {w0:World} {o:Obj} (hw:W.alloc o=w0) (h0:QAt W b rb g0 s) (h:QPost w0 b rb g0 r s' e w1) (cs:List Value):QPost W b rb g0 v s' (.returned v) (w1.setCells W.heap.size 0 cs):=by
 subst hw
 obtain ⟨_,⟨g,h1,h2⟩,f⟩:=h
 have lt:=h0.lt
 have fz:Fr w1 (w1.setCells W.heap.size 0 cs) [W.heap.size]:=Fr.sets (.inl (by simp)) cs 0 w1 (Fr.refl _ _)
 have e0:(W.alloc o).heap.size=W.heap.size + 1:=by simp
 refine ⟨rfl,⟨g,h1.fr fz (by simp;omega) (by simp;omega) (by simp;omega),by omega⟩,?_⟩
 have f0:Fr W w1 [b,rb,g0]:=((Fr.refl W [b,rb,g0]).alloc o).trans f (fun x hx=>.inl hx)
 exact f0.trans fz (fun x hx=>.inr (by simp at hx;omega))
set_option maxRecDepth 100000 in
theorem QPost.box {W w1:World} {b rb g0:Nat} {s s':QK} {r:Value} {e:Ending} {w0:World} (h0:QAt W b rb g0 s) (h:QPost w0 b rb g0 r s' e w1) {T:TypeId} {cs:Array Value} (hb:Blk w0 W.heap.size T cs):Blk w1 W.heap.size T cs:=by
 have lt:=h0.lt
 exact hb.fr h.fr (by simp;omega)
set_option maxRecDepth 100000 in
theorem QM.shifted {W w:World} {b rb g0:Nat} {s:QK} {v e:Ending} {l:List Pk} (h:QAt W b rb g0 s) (k:PkRPost W rb g0 v l e w) (cs:List Value):QM W b rb g0 w.heap.size cs ⟨l,s.n,s.room,s.dr,s.lost⟩ (w.alloc (.cells cs.toArray 65)):=by
 obtain ⟨g',k1,k2⟩:=k.at_
 have n:=h.ne
 have lt:=h.lt
 have sz:=k.mv.size
 have gl:=k1.lt
 have q:QAt w b rb g' ⟨l,s.n,s.room,s.dr,s.lost⟩:=⟨h.head.fr k.mv (by simp [n.1,n.2.1]),k1⟩
 exact ⟨⟨g',q.keep (al_be _ _),k2,by omega⟩,(k.mv.mono (fun x hx=>.inl (by simp at hx ⊢;omega))).alloc _,Blk.new _ _ _,sz,by omega⟩
set_option maxRecDepth 100000 in
set_option maxHeartbeats 1000000 in
theorem wq_take (b rb g0:Nat) (s:QK) (W:World) (h:QAt W b rb g0 s) (ho:s.ok):
  Calls Try.prog 69 #[.pointer (some ⟨b,0,none⟩)] W (QPost W b rb g0 (.tuple #[s.headQ.agg,.bool s.someQ]) s.shiftQ):=by
 have H0:=Lib.hid h
 have K:=h.keep (al_be W (.cells #[.int .u64 0,.int .u64 0,.int .u64 0,.int .u64 0,.int .u64 0,.int .u64 0,.bool false] 65))
 have h0:=K.head.cell (i:=0) (v:=.pointer (some ⟨rb,0,none⟩)) rfl
 have HA:Hid (Calls Try.prog 77 #[.pointer (some ⟨rb,0,none⟩)] (W.alloc (.cells #[.int .u64 0,.int .u64 0,.int .u64 0,.int .u64 0,.int .u64 0,.int .u64 0,.bool false] 65)) (PkRPost (W.alloc (.cells #[.int .u64 0,.int .u64 0,.int .u64 0,.int .u64 0,.int .u64 0,.int .u64 0,.bool false] 65)) rb g0 (pkgot s.headQ s.someQ) (s.l.drop 1))):=Lib.hid (pk_shift_any rb g0 s.l _ K.row)
 have HK:=Lib.hid K
 have HB:=Lib.hid (Blk.new W 65 #[.int .u64 0,.int .u64 0,.int .u64 0,.int .u64 0,.int .u64 0,.int .u64 0,.bool false])
 have EQ:Hid (s.shiftQ=⟨s.popQ.l,Pl.subS s.n s.headQ.size,s.popQ.room,s.popQ.dr,s.popQ.lost⟩):=Lib.hid rfl
 have hA:Hid (∀(b:Nat) (W:World),W.cell? ⟨b,0,none⟩=some (.int .u64 (s.headQ.size:Int))→Calls Try.prog 59 #[.int .u64 (s.n:Int),.slice (some ⟨b,0,none⟩) 1 1] W fun e w'=>e=.returned (.int .u64 ((Pl.subS s.n s.headQ.size:Nat):Int))∧Below W.heap.size W w'):=
  Lib.hid (fun b W h=>(sub_any s.n s.headQ.size b ho.n (QK.head_ok ho) W h).mono fun e w' q=>⟨q.1,q.2▸Below.refl _ _⟩)
 clear h K ho
 generalize s.headQ=x at *
 generalize s.someQ=q at *
 go_enter Try.func69,Try.ntmps69
 go_wp2_with fail
 refine HA.out.mono ?_
 rintro e w1 k
 obtain rfl:=k.e
 have M0:Hid (QM (W.alloc (.cells #[.int .u64 0,.int .u64 0,.int .u64 0,.int .u64 0,.int .u64 0,.int .u64 0,.bool false] 65)) b rb g0 w1.heap.size (Itm.cs x) ⟨s.popQ.l,s.n,s.popQ.room,s.popQ.dr,s.popQ.lost⟩ (w1.alloc (.cells #[.int .u64 (x.n:Int),.int .u64 (x.size:Int),.int .u64 (x.sent:Int),.int .u64 (x.first:Int),.int .u64 (x.deliv:Int),.int .u64 (x.at_:Int),.bool x.lim] 65))):=Lib.hid (QM.shifted HK.out k (Itm.cs x))
 clear k HA h0 HK
 unfold pkgot Pk.agg
 go_upto_region 2 with fail
 have hx:(Itm.cs x)[1]? =some (.int .u64 (x.size:Int)):=rfl
 generalize (w1.alloc (.cells #[.int .u64 (x.n:Int),.int .u64 (x.size:Int),.int .u64 (x.sent:Int),.int .u64 (x.first:Int),.int .u64 (x.deliv:Int),.int .u64 (x.at_:Int),.bool x.lim] 65))=w2 at *
 generalize w1.heap.size=z at *
 generalize hw0:W.alloc (.cells #[.int .u64 0,.int .u64 0,.int .u64 0,.int .u64 0,.int .u64 0,.int .u64 0,.bool false] 65)=w0 at *
 have HW0:=Lib.hid hw0
 clear hw0
 generalize hcs:Itm.cs x=cs at *
 have HCs:=Lib.hid hcs
 clear hcs
 have R1:=qso_box (W:=w0) (b:=b) (rb:=rb) (g0:=g0) (z:=z) (s:=s.popQ) hx
 generalize hxs:x.size=xs at *
 clear hxs
 generalize Pl.subS s.n xs=y at *
 generalize s.n=n at *
 generalize s.popQ=s2 at *
 have M1:=Lib.hid M0.out.drew
 go_wp2_with fail
 refine wp_region_held_drew (S:=(fun w'=>Hid (QSo w0 b rb g0 z cs s2 w'))) (by kernel_rfl) (qso (s:=s2) (l:=[]) (r:=0) M1) (fun hHeld=>?_)
 generalize w2.drew=wd at *
 simp only [List.size_toArray,List.length_cons,List.length_nil,Nat.reduceAdd,Array.replicate_succ,Array.replicate_zero,List.push_toArray,List.nil_append,List.cons_append]
 refine wpAnyH_take (i:=0) (oi:=⟨some 14,_,_,_,_,_⟩) (v:=?v22) rfl (by kernel_rfl) (by kernel_rfl) (by kernel_rfl) (fun _ _ _ h=>h) (Or.inl ⟨by rfl,?y22⟩) (by assumption) ?r22
 case y22=>intro w hSw;clear hSw;go_simp;(try with_reducible rfl)
 simp only [Act.put,List.setIfInBounds_toArray,List.set_cons_zero,List.set_cons_succ]
 refine wpAnyH_take (i:=1) (oi:=⟨some 15,_,_,_,_,_⟩) (v:=?v23) rfl (by kernel_rfl) (by kernel_rfl) (by kernel_rfl) (fun _ _ _ h=>h) (Or.inl ⟨by rfl,?y23⟩) (by assumption) ?r23
 case y23=>intro w hSw;clear hSw;go_simp;(try with_reducible rfl)
 simp only [Act.put,List.setIfInBounds_toArray,List.set_cons_zero,List.set_cons_succ]
 refine wpAnyH_take (i:=2) (oi:=⟨some 16,_,_,_,_,_⟩) (v:=?v24) rfl (by kernel_rfl) (by kernel_rfl) (by kernel_rfl) (fun _ _ _ h=>h) (Or.inl ⟨by rfl,?y24⟩) (by assumption) ?r24
 case y24=>intro w hSw;clear hSw;go_simp;(try with_reducible rfl)
 simp only [Act.put,List.setIfInBounds_toArray,List.set_cons_zero,List.set_cons_succ]
 refine wpAnyH_take (i:=3) (oi:=⟨some 17,_,_,_,_,_⟩) (v:=?v25) rfl (by kernel_rfl) (by kernel_rfl) (by kernel_rfl) (fun _ _ _ h=>h) (Or.inl ⟨by rfl,?y25⟩) (by assumption) ?r25
 case y25=>intro w hSw;clear hSw;go_simp;(try with_reducible rfl)
 simp only [Act.put,List.setIfInBounds_toArray,List.set_cons_zero,List.set_cons_succ]
 refine wpAnyH_take (i:=5) (oi:=⟨some 19,_,_,_,_,_⟩) (v:=?v26) rfl (by kernel_rfl) (by kernel_rfl) (by kernel_rfl) (fun _ _ _ h=>h) (Or.inl ⟨by rfl,?y26⟩) (by assumption) ?r26
 case y26=>intro w hSw;clear hSw;go_simp;(try with_reducible rfl)
 simp only [Act.put,List.setIfInBounds_toArray,List.set_cons_zero,List.set_cons_succ]
 refine wpAnyH_take (i:=6) (oi:=⟨some 20,_,_,_,_,_⟩) (v:=?v27) rfl (by kernel_rfl) (by kernel_rfl) (by kernel_rfl) (fun _ _ _ h=>h) (Or.inl ⟨by rfl,?y27⟩) (by assumption) ?r27
 case y27=>intro w hSw;skip;go_simp;(try with_reducible rfl)
 simp only [Act.put,List.setIfInBounds_toArray,List.set_cons_zero,List.set_cons_succ]
 refine wpAnyH_ready (rs:=[4,7]) (by kernel_rfl) (by simp) ?_
 refine AllReadyH.cons (o:=⟨some 18,_,_,_,_,_⟩) rfl (fun K hK=>?k28) ?m28
 case' k28=>
  have c3:=(Hid.out (by assumption):QM w0 b rb g0 z cs ⟨s2.l,n,s2.room,s2.dr,s2.lost⟩ _).head.cell (i:=1) (v:=.int .u64 (n:Int)) rfl
  go_simp
  refine hK.out _ _ hHeld (fun hHeld=>?_)
  clear hK
  try simp only [List.setIfInBounds_toArray,List.set_cons_zero,List.set_cons_succ]
  refine wpAnyH_ready (rs:=[7]) (by kernel_rfl) (by simp) ?_
  refine AllReadyH.cons (o:=⟨some 21,_,_,_,_,_⟩) rfl (fun K hK=>?_) AllReadyH.nil
  have M3:=Lib.hid ((Hid.out (by assumption):QM w0 b rb g0 z cs ⟨s2.l,n,s2.room,s2.dr,s2.lost⟩ _).to (al_be _ (.cells #[.int .u64 (xs:Int)] 22)))
  go_simp
  refine hK.out _ _ (qso (s:=s2) (l:=[]) (r:=0) M3) (fun hHeld=>?_)
  clear hK
  try simp only [List.setIfInBounds_toArray,List.set_cons_zero,List.set_cons_succ]
  refine wpAnyH_ready (rs:=[8]) (by kernel_rfl) (by simp) ?_
  refine AllReadyH.cons (o:=⟨some 22,_,_,_,_,_⟩) rfl (fun K hK=>?_) AllReadyH.nil
  go_simp
  refine (hA.out _ _ (new_cell rfl rfl)).mono ?_
  rintro e w4 ⟨rfl,hb⟩
  have M4:=Lib.hid ((Hid.out (by assumption):QM w0 b rb g0 z cs ⟨s2.l,n,s2.room,s2.dr,s2.lost⟩ _).to hb)
  go_wp2_with fail
  refine hK.out _ _ (qso (s:=s2) (l:=[]) (r:=0) M4) (fun hHeld=>?_)
  clear hK
  try simp only [List.setIfInBounds_toArray,List.set_cons_zero,List.set_cons_succ]
  refine wpAnyH_take (i:=9) (oi:=⟨some 23,_,_,_,_,_⟩) (v:=?v29) rfl (by kernel_rfl) (by kernel_rfl) (by kernel_rfl) (fun _ _ _ h=>h) (Or.inl ⟨by rfl,?y29⟩) (by assumption) ?r29
  case y29=>intro w hSw;clear hSw;go_simp;(try with_reducible rfl)
  simp only [Act.put,List.setIfInBounds_toArray,List.set_cons_zero,List.set_cons_succ]
  refine wpAnyH_take (i:=10) (oi:=⟨some 24,_,_,_,_,_⟩) (v:=?v30) rfl (by kernel_rfl) (by kernel_rfl) (by kernel_rfl) (fun _ _ _ h=>h) (Or.inl ⟨by rfl,?y30⟩) (by assumption) ?r30
  case y30=>intro w hSw;clear hSw;go_simp;(try with_reducible rfl)
  simp only [Act.put,List.setIfInBounds_toArray,List.set_cons_zero,List.set_cons_succ]
  refine wpAnyH_ready (rs:=[11]) (by kernel_rfl) (by simp) ?_
  refine AllReadyH.cons (o:=⟨none,_,_,_,_,_⟩) rfl (fun K hK=>?_) AllReadyH.nil
  have y3:=(Hid.out (by assumption):QM w0 b rb g0 z cs ⟨s2.l,n,s2.room,s2.dr,s2.lost⟩ _).head.free 1
  have c3:=(Hid.out (by assumption):QM w0 b rb g0 z cs ⟨s2.l,n,s2.room,s2.dr,s2.lost⟩ _).head.cell (i:=1) (v:=.int .u64 (n:Int)) rfl
  have M6:=Lib.hid ((Hid.out (by assumption):QM w0 b rb g0 z cs ⟨s2.l,n,s2.room,s2.dr,s2.lost⟩ _).set (s':=⟨s2.l,y,s2.room,s2.dr,s2.lost⟩) 1 (.int .u64 (y:Int)) rfl rfl)
  go_simp
  refine hK.out _ _ (qso (s:=s2) (l:=[]) (r:=0) M6) (fun hHeld=>?_)
  clear hK
  try simp only [List.setIfInBounds_toArray,List.set_cons_zero,List.set_cons_succ]
  refine wpAnyH_done (by kernel_rfl) ?_ _
  skip
 case' m28=>
  refine AllReadyH.cons (o:=⟨some 21,_,_,_,_,_⟩) rfl (fun K hK=>?_) AllReadyH.nil
  have M3:=Lib.hid ((Hid.out (by assumption):QM w0 b rb g0 z cs ⟨s2.l,n,s2.room,s2.dr,s2.lost⟩ _).to (al_be _ (.cells #[.int .u64 (xs:Int)] 22)))
  go_simp
  refine hK.out _ _ (qso (s:=s2) (l:=[]) (r:=0) M3) (fun hHeld=>?_)
  clear hK
  try simp only [List.setIfInBounds_toArray,List.set_cons_zero,List.set_cons_succ]
  refine wpAnyH_ready (rs:=[4]) (by kernel_rfl) (by simp) ?_
  refine AllReadyH.cons (o:=⟨some 18,_,_,_,_,_⟩) rfl (fun K hK=>?_) AllReadyH.nil
  have c3:=(Hid.out (by assumption):QM w0 b rb g0 z cs ⟨s2.l,n,s2.room,s2.dr,s2.lost⟩ _).head.cell (i:=1) (v:=.int .u64 (n:Int)) rfl
  go_simp
  refine hK.out _ _ hHeld (fun hHeld=>?_)
  clear hK
  try simp only [List.setIfInBounds_toArray,List.set_cons_zero,List.set_cons_succ]
  refine wpAnyH_ready (rs:=[8]) (by kernel_rfl) (by simp) ?_
  refine AllReadyH.cons (o:=⟨some 22,_,_,_,_,_⟩) rfl (fun K hK=>?_) AllReadyH.nil
  go_simp
  refine (hA.out _ _ (new_cell rfl rfl)).mono ?_
  rintro e w4 ⟨rfl,hb⟩
  have M4:=Lib.hid ((Hid.out (by assumption):QM w0 b rb g0 z cs ⟨s2.l,n,s2.room,s2.dr,s2.lost⟩ _).to hb)
  go_wp2_with fail
  refine hK.out _ _ (qso (s:=s2) (l:=[]) (r:=0) M4) (fun hHeld=>?_)
  clear hK
  try simp only [List.setIfInBounds_toArray,List.set_cons_zero,List.set_cons_succ]
  refine wpAnyH_take (i:=9) (oi:=⟨some 23,_,_,_,_,_⟩) (v:=?v31) rfl (by kernel_rfl) (by kernel_rfl) (by kernel_rfl) (fun _ _ _ h=>h) (Or.inl ⟨by rfl,?y31⟩) (by assumption) ?r31
  case y31=>intro w hSw;clear hSw;go_simp;(try with_reducible rfl)
  simp only [Act.put,List.setIfInBounds_toArray,List.set_cons_zero,List.set_cons_succ]
  refine wpAnyH_take (i:=10) (oi:=⟨some 24,_,_,_,_,_⟩) (v:=?v32) rfl (by kernel_rfl) (by kernel_rfl) (by kernel_rfl) (fun _ _ _ h=>h) (Or.inl ⟨by rfl,?y32⟩) (by assumption) ?r32
  case y32=>intro w hSw;clear hSw;go_simp;(try with_reducible rfl)
  simp only [Act.put,List.setIfInBounds_toArray,List.set_cons_zero,List.set_cons_succ]
  refine wpAnyH_ready (rs:=[11]) (by kernel_rfl) (by simp) ?_
  refine AllReadyH.cons (o:=⟨none,_,_,_,_,_⟩) rfl (fun K hK=>?_) AllReadyH.nil
  have y3:=(Hid.out (by assumption):QM w0 b rb g0 z cs ⟨s2.l,n,s2.room,s2.dr,s2.lost⟩ _).head.free 1
  have c3:=(Hid.out (by assumption):QM w0 b rb g0 z cs ⟨s2.l,n,s2.room,s2.dr,s2.lost⟩ _).head.cell (i:=1) (v:=.int .u64 (n:Int)) rfl
  have M6:=Lib.hid ((Hid.out (by assumption):QM w0 b rb g0 z cs ⟨s2.l,n,s2.room,s2.dr,s2.lost⟩ _).set (s':=⟨s2.l,y,s2.room,s2.dr,s2.lost⟩) 1 (.int .u64 (y:Int)) rfl rfl)
  go_simp
  refine hK.out _ _ (qso (s:=s2) (l:=[]) (r:=0) M6) (fun hHeld=>?_)
  clear hK
  try simp only [List.setIfInBounds_toArray,List.set_cons_zero,List.set_cons_succ]
  refine wpAnyH_done (by kernel_rfl) ?_ _
  skip
 all_goals
  generalize (w4.setCell ⟨b,1,none⟩ (.int .u64 (y:Int)))=w5 at *
  have P6:QPost w0 b rb g0 (.tuple #[]) _ _ w5:=M6.out.post
  have HB6:=Lib.hid (P6.box H0.out HB.out)
  have HX6:Hid (Blk w5 z 65 (Itm.cs x).toArray):=Lib.hid (HCs.out▸M6.out.box)
  clear hHeld M4 M0 M1 R1 hA hx
  have x0:=HX6.out.cell (i:=0) (v:=.int .u64 (x.n:Int)) rfl
  have x1:=HX6.out.cell (i:=1) (v:=.int .u64 (x.size:Int)) rfl
  have x2:=HX6.out.cell (i:=2) (v:=.int .u64 (x.sent:Int)) rfl
  have x3:=HX6.out.cell (i:=3) (v:=.int .u64 (x.first:Int)) rfl
  have x4:=HX6.out.cell (i:=4) (v:=.int .u64 (x.deliv:Int)) rfl
  have x5:=HX6.out.cell (i:=5) (v:=.int .u64 (x.at_:Int)) rfl
  have x6:=HX6.out.cell (i:=6) (v:=.bool x.lim) rfl
  have r0:=HB6.out.cell (i:=0) (v:=.int .u64 0) rfl
  have f0:=HB6.out.free 0
  have r1:=HB6.out.cell (i:=1) (v:=.int .u64 0) rfl
  have f1:=HB6.out.free 1
  have r2:=HB6.out.cell (i:=2) (v:=.int .u64 0) rfl
  have f2:=HB6.out.free 2
  have r3:=HB6.out.cell (i:=3) (v:=.int .u64 0) rfl
  have f3:=HB6.out.free 3
  have r4:=HB6.out.cell (i:=4) (v:=.int .u64 0) rfl
  have f4:=HB6.out.free 4
  have r5:=HB6.out.cell (i:=5) (v:=.int .u64 0) rfl
  have f5:=HB6.out.free 5
  have r6:=HB6.out.cell (i:=6) (v:=.bool false) rfl
  have f6:=HB6.out.free 6
  go_wp2_with fail
  have F1:=Blk.whole (Itm.cs x) HB6.out rfl
  rw [EQ.out]
  exact bodyPost_ret (results_cell_tmp rfl _ _ W.heap.size 65 _ _ rfl F1 Try.underlying65 rfl (by kernel_rfl)) rfl (QPost.boxed HW0.out H0.out P6 (Itm.cs x))
end Go.Proofs.Ytaffjfajjpgjpaa

set_option linter.unusedVariables false
namespace Go.Proofs.Ytaffjfajjpgjpaa
open Go.RowKit
set_option maxRecDepth 100000 in
set_option maxHeartbeats 1000000 in
theorem wq_Shift (b rb g0:Nat) (s:QK) (W:World) (h:QAt W b rb g0 s) (ho:s.ok):
  Calls Try.prog 47 #[.pointer (some ⟨b,0,none⟩)] W (QPost W b rb g0 (.tuple #[s.headQ.agg,.bool s.someQ]) s.shiftQ):=by
 have H0:=Lib.hid h
 have HA:=Lib.hid (wq_take b rb g0 s _ (h.keep (al_be W (.cells #[.int .u64 0,.int .u64 0,.int .u64 0,.int .u64 0,.int .u64 0,.int .u64 0,.bool false] 65))) ho)
 have HB:=Lib.hid (Blk.new W 65 #[.int .u64 0,.int .u64 0,.int .u64 0,.int .u64 0,.int .u64 0,.int .u64 0,.bool false])
 clear h ho
 generalize s.headQ=x at *
 generalize s.someQ=q at *
 generalize s.shiftQ=s2 at *
 go_enter Try.func47,Try.ntmps47
 go_wp2_with fail
 refine HA.out.mono ?_
 rintro e w1 k
 have P6:=k
 obtain rfl:=P6.e
 generalize hw0:W.alloc (.cells #[.int .u64 0,.int .u64 0,.int .u64 0,.int .u64 0,.int .u64 0,.int .u64 0,.bool false] 65)=w0 at *
 have HW0:=Lib.hid hw0
 clear hw0 k HA
 have HB6:=Lib.hid (P6.box H0.out HB.out)
 have r0:=HB6.out.cell (i:=0) (v:=.int .u64 0) rfl
 have f0:=HB6.out.free 0
 have r1:=HB6.out.cell (i:=1) (v:=.int .u64 0) rfl
 have f1:=HB6.out.free 1
 have r2:=HB6.out.cell (i:=2) (v:=.int .u64 0) rfl
 have f2:=HB6.out.free 2
 have r3:=HB6.out.cell (i:=3) (v:=.int .u64 0) rfl
 have f3:=HB6.out.free 3
 have r4:=HB6.out.cell (i:=4) (v:=.int .u64 0) rfl
 have f4:=HB6.out.free 4
 have r5:=HB6.out.cell (i:=5) (v:=.int .u64 0) rfl
 have f5:=HB6.out.free 5
 have r6:=HB6.out.cell (i:=6) (v:=.bool false) rfl
 have f6:=HB6.out.free 6
 unfold Pk.agg
 go_wp2_with fail
 have F1:=Blk.whole (Itm.cs x) HB6.out rfl
 exact bodyPost_ret (results_cell_tmp rfl _ _ W.heap.size 65 _ _ rfl F1 Try.underlying65 rfl (by kernel_rfl)) rfl (QPost.boxed HW0.out H0.out P6 (Itm.cs x))
structure QMade (w:World) (r:Nat) (e:Ending) (w':World):Prop where
 at_:∃b rb g,e=.returned (.pointer (some ⟨b,0,none⟩))∧QAt w' b rb g (QK.start r)∧w.heap.size≤b∧w.heap.size≤rb∧w.heap.size≤g
 bel:Below w.heap.size w w'
set_option maxRecDepth 100000 in
theorem wq_New (r:Nat) (w:World):Calls Try.prog 21 #[.int .u64 (r:Int)] w (QMade w r):=by
 have HN:=Lib.hid (pk_new none 0 [] w (Its.none _ _) (by simp))
 go_enter Try.func21,Try.ntmps21
 go_wp2_with fail
 refine HN.out.mono ?_
 rintro e w1 ⟨⟨b,g,rfl,hr,hb,hg⟩,hbel⟩
 have HR:=Lib.hid hr
 have HW:=Lib.hid hbel
 clear hr hbel HN
 go_wp2_with fail
 go_ret
 exact ⟨⟨_,b,g,rfl,⟨Blk.new _ _ _,HR.out.alloc _⟩,HW.out.size,hb,hg⟩,HW.out.trans ((al_be _ _).mono HW.out.size)⟩
set_option maxRecDepth 100000 in
theorem wq_left (s:QK) (ho:s.ok) (b:Nat) (W:World) (h:W.cell? ⟨b,0,none⟩=some (.int .u64 (s.n:Int))):
  Calls Try.prog 59 #[.int .u64 (s.room:Int),.slice (some ⟨b,0,none⟩) 1 1] W fun e w'=>e=.returned (.int .u64 ((Pl.subS s.room s.n:Nat):Int))∧Below W.heap.size W w':=
 (sub_any s.room s.n b ho.room ho.n W h).mono fun e w' q=>⟨q.1,q.2▸Below.refl _ _⟩
set_option maxRecDepth 100000 in
theorem wq_addc (b rb g0:Nat) (p:Pk) (s:QK) (W:World) (cs:List Value) (hc:Itm.cs p=cs) (ho:s.ok) (hp:p.size≤18446744073709551615) (hk:s.l.length≤5000):∀w,QM W b rb g0 W.heap.size cs s w→
  Calls Try.prog 61 #[.pointer (some ⟨b,0,none⟩),.agg cs.toArray] w fun e w'=>e=.returned (.tuple #[])∧Hid (QM W b rb g0 W.heap.size cs (s.addQ p) w'):=fun w h=>by
 obtain ⟨g,h1,h2⟩:=h.at_
 have:=wq_add b rb g p s w h1 ho hp hk
 subst hc
 exact this.mono fun e w' k=>⟨k.e,Lib.hid (h.call h1 h2 k)⟩
set_option maxRecDepth 100000 in
theorem wq_dropc (b rb g0:Nat) (p:Pk) (s:QK) (W:World) (cs:List Value) (hc:Itm.cs p=cs) (ho:s.ok) (hp:p.size≤18446744073709551615):∀w,QM W b rb g0 W.heap.size cs s w→
  Calls Try.prog 60 #[.pointer (some ⟨b,0,none⟩),.agg cs.toArray] w fun e w'=>e=.returned (.tuple #[])∧Hid (QM W b rb g0 W.heap.size cs (s.dropQ p) w'):=fun w h=>by
 obtain ⟨g,h1,h2⟩:=h.at_
 have:=wq_drop b rb g p s w h1 ho hp
 subst hc
 exact this.mono fun e w' k=>⟨k.e,Lib.hid (h.call h1 h2 k)⟩
set_option maxRecDepth 100000 in
set_option maxHeartbeats 1000000 in
theorem wq_Put_no (b rb g0:Nat) (p:Pk) (s:QK) (W:World) (h:QAt W b rb g0 s) (ho:s.ok) (hp:p.size≤18446744073709551615) (c:¬ p.size≤Pl.subS s.room s.n):
  Calls Try.prog 31 #[.pointer (some ⟨b,0,none⟩),p.agg] W (QPost W b rb g0 (.bool false) (s.dropQ p)):=by
 have d:decide (Pl.subS s.room s.n < p.size)=true:=decide_eq_true (by omega)
 have HL:=Lib.hid (wq_left s ho)
 have HC:=Lib.hid (wq_dropc b rb g0 p s W _ rfl ho hp)
 have K0:=Lib.hid (QM.start h (Itm.cs p))
 have hx:(Itm.cs p)[1]? =some (.int .u64 (p.size:Int)):=rfl
 clear h ho c
 unfold Pk.agg
 go_enter Try.func31,Try.ntmps31
 go_upto_region 3 with fail
 change Code.wp _ _ _ _ (W.alloc (.cells (Itm.cs p).toArray 65))
 generalize W.alloc (.cells (Itm.cs p).toArray 65)=w0 at *
 have hu:=Try.underlying65
 have hi:=pk_inf p
 have R1:=qso_box (W:=W) (b:=b) (rb:=rb) (g0:=g0) (z:=W.heap.size) (s:=s) hx
 generalize hcs:Itm.cs p=cs at *
 have HCs:=Lib.hid hcs
 clear hcs hx
 generalize hq:s.dropQ p=s2 at *
 clear hq
 generalize Pl.subS s.room s.n=y at *
 generalize p.size=x at *
 have R2:∀w,Hid (QM W b rb g0 W.heap.size cs s w)→w.cell? ⟨W.heap.size,1,none⟩=some (.int .u64 (x:Int)):=fun w k=>R1 w (qso (r:=0) (l:=[]) k)
 obtain ⟨_,r1,r2,r3⟩:=qm_r (W:=W) (b:=b) (rb:=rb) (g0:=g0) (z:=W.heap.size) (cs:=cs) (s:=s)
 have M0:=Lib.hid K0.out.drew
 clear K0 R1
 go_wp2_with fail
 go_region_held3 (fun w'=>Hid (QM W b rb g0 W.heap.size cs s w'))
  (first | exact M0 | exact M2 | exact Lib.hid ((Hid.out (by assumption):QM W b rb g0 W.heap.size cs s _).to (al_be _ _)) | assumption)
  (first | (go_at_call 59;(first | refine (HL.out _ _ (nc1 _ _ _)).mono ?_ | refine (HL.out _ _ (nc1' _ _ _)).mono ?_);rintro e w' ⟨rfl,hb⟩;have M2:=Lib.hid ((Hid.out (by assumption):QM W b rb g0 W.heap.size cs s _).to hb)))
 all_goals
  have M3:=(‹Hid (QM W b rb g0 W.heap.size cs s _)›)
  clear r1 r2 r3 R2 HL d M0
  obtain ⟨v0,v1,v2,v3,v4,v5,v6,rfl⟩:∃v0 v1 v2 v3 v4 v5 v6,cs=[v0,v1,v2,v3,v4,v5,v6]:=⟨_,_,_,_,_,_,_,HCs.out.symm⟩
  clear HCs hi hu
  have HX:=Lib.hid M3.out.box
  have x0:=HX.out.cell (i:=0) (v:=v0) rfl
  have x1:=HX.out.cell (i:=1) (v:=v1) rfl
  have x2:=HX.out.cell (i:=2) (v:=v2) rfl
  have x3:=HX.out.cell (i:=3) (v:=v3) rfl
  have x4:=HX.out.cell (i:=4) (v:=v4) rfl
  have x5:=HX.out.cell (i:=5) (v:=v5) rfl
  have x6:=HX.out.cell (i:=6) (v:=v6) rfl
  go_wp2_with fail
  refine (HC.out _ M3.out).mono ?_
  rintro e w2 ⟨rfl,K2⟩
  go_wp2_with fail
  go_ret
  exact K2.out.post
set_option maxRecDepth 100000 in
set_option maxHeartbeats 1000000 in
theorem wq_Put_yes (b rb g0:Nat) (p:Pk) (s:QK) (W:World) (h:QAt W b rb g0 s) (ho:s.ok) (hp:p.size≤18446744073709551615) (hk:s.l.length≤5000) (c:p.size≤Pl.subS s.room s.n):
  Calls Try.prog 31 #[.pointer (some ⟨b,0,none⟩),p.agg] W (QPost W b rb g0 (.bool true) (s.addQ p)):=by
 have d:decide (Pl.subS s.room s.n < p.size)=false:=decide_eq_false (by omega)
 have HL:=Lib.hid (wq_left s ho)
 have HC:=Lib.hid (wq_addc b rb g0 p s W _ rfl ho hp hk)
 have K0:=Lib.hid (QM.start h (Itm.cs p))
 have hx:(Itm.cs p)[1]? =some (.int .u64 (p.size:Int)):=rfl
 clear h ho c
 unfold Pk.agg
 go_enter Try.func31,Try.ntmps31
 go_upto_region 3 with fail
 change Code.wp _ _ _ _ (W.alloc (.cells (Itm.cs p).toArray 65))
 generalize W.alloc (.cells (Itm.cs p).toArray 65)=w0 at *
 have hu:=Try.underlying65
 have hi:=pk_inf p
 have R1:=qso_box (W:=W) (b:=b) (rb:=rb) (g0:=g0) (z:=W.heap.size) (s:=s) hx
 generalize hcs:Itm.cs p=cs at *
 have HCs:=Lib.hid hcs
 clear hcs hx
 generalize hq:s.addQ p=s2 at *
 clear hq
 generalize Pl.subS s.room s.n=y at *
 generalize p.size=x at *
 have R2:∀w,Hid (QM W b rb g0 W.heap.size cs s w)→w.cell? ⟨W.heap.size,1,none⟩=some (.int .u64 (x:Int)):=fun w k=>R1 w (qso (r:=0) (l:=[]) k)
 obtain ⟨_,r1,r2,r3⟩:=qm_r (W:=W) (b:=b) (rb:=rb) (g0:=g0) (z:=W.heap.size) (cs:=cs) (s:=s)
 have M0:=Lib.hid K0.out.drew
 clear K0 R1
 go_wp2_with fail
 go_region_held3 (fun w'=>Hid (QM W b rb g0 W.heap.size cs s w'))
  (first | exact M0 | exact M2 | exact Lib.hid ((Hid.out (by assumption):QM W b rb g0 W.heap.size cs s _).to (al_be _ _)) | assumption)
  (first | (go_at_call 59;(first | refine (HL.out _ _ (nc1 _ _ _)).mono ?_ | refine (HL.out _ _ (nc1' _ _ _)).mono ?_);rintro e w' ⟨rfl,hb⟩;have M2:=Lib.hid ((Hid.out (by assumption):QM W b rb g0 W.heap.size cs s _).to hb)))
 all_goals
  have M3:=(‹Hid (QM W b rb g0 W.heap.size cs s _)›)
  clear r1 r2 r3 R2 HL d
  obtain ⟨r0,r1⟩:=qx_r (W:=W) (b:=b) (rb:=rb) (g0:=g0) (z:=W.heap.size) (cs:=cs)
  go_wp2_with fail
  generalize w'=w1 at *
  have M1:=Lib.hid M3.out.drew
  refine wp_region_held_drew (S:=(fun w'=>Hid (∃s,QM W b rb g0 W.heap.size cs s w'))) (by kernel_rfl) (qx_of M1) (fun hHeld=>?_)
  generalize w1.drew=wd at *
  simp only [List.size_toArray,List.length_cons,List.length_nil,Nat.reduceAdd,Array.replicate_succ,Array.replicate_zero,List.push_toArray,List.nil_append,List.cons_append]
  refine' wpAnyH_take (i:=3) (oi:=⟨some 27,_,_,_,_,_⟩) (v:=_) rfl (by kernel_rfl) (by kernel_rfl) (by kernel_rfl) (fun _ _ _ h=>h) (yieldsIf_load_mid (by rfl) _ _ rfl _ _ rfl _ _ ?hS33 hu rfl hi) (by assumption) ?r33
  case hS33=>intro w hSw;exact r1 _ hSw
  simp only [Act.put,List.setIfInBounds_toArray,List.set_cons_zero,List.set_cons_succ]
  refine wpAnyH_take (i:=0) (oi:=⟨some 24,_,_,_,_,_⟩) (v:=?v34) rfl (by kernel_rfl) (by kernel_rfl) (by kernel_rfl) (fun _ _ _ h=>h) (Or.inl ⟨by rfl,?y34⟩) (by assumption) ?r34
  case y34=>intro w hSw;clear hSw;go_simp;(try with_reducible rfl)
  simp only [Act.put,List.setIfInBounds_toArray,List.set_cons_zero,List.set_cons_succ]
  refine wpAnyH_take (i:=1) (oi:=⟨some 25,_,_,_,_,_⟩) (v:=?v35) rfl (by kernel_rfl) (by kernel_rfl) (by kernel_rfl) (fun _ _ _ h=>h) (Or.inl ⟨by rfl,?y35⟩) (by assumption) ?r35
  case y35=>intro w hSw;clear hSw;go_simp;(try with_reducible rfl)
  simp only [Act.put,List.setIfInBounds_toArray,List.set_cons_zero,List.set_cons_succ]
  refine wpAnyH_take (i:=2) (oi:=⟨some 26,_,_,_,_,_⟩) (v:=?v36) rfl (by kernel_rfl) (by kernel_rfl) (by kernel_rfl) (fun _ _ _ h=>h) (Or.inl ⟨by rfl,?y36⟩) (by assumption) ?r36
  case y36=>intro w hSw;clear hSw;go_simp;(try with_reducible rfl)
  simp only [Act.put,List.setIfInBounds_toArray,List.set_cons_zero,List.set_cons_succ]
  refine wpAnyH_ready (rs:=[4]) (by kernel_rfl) (by simp) ?_
  refine AllReadyH.cons (o:=⟨some 28,_,_,_,_,_⟩) rfl (fun K hK=>?_) AllReadyH.nil
  go_simp
  refine (HC.out _ (Hid.out (by assumption))).mono ?_
  rintro e w2 ⟨rfl,K2⟩
  go_wp2_with fail
  refine hK.out _ _ (qx_of K2) (fun hHeld=>?_)
  clear hK
  try simp only [List.setIfInBounds_toArray,List.set_cons_zero,List.set_cons_succ]
  refine wpAnyH_done (by kernel_rfl) ?_ _
  go_wp2_with fail
  go_ret
  exact K2.out.post
set_option maxRecDepth 100000 in
theorem wq_Put (b rb g0:Nat) (p:Pk) (s:QK) (W:World) (h:QAt W b rb g0 s) (ho:s.ok) (hp:p.size≤18446744073709551615) (hk:s.l.length≤5000):
  Calls Try.prog 31 #[.pointer (some ⟨b,0,none⟩),p.agg] W (QPost W b rb g0 (.bool (s.putB p)) (s.putQ p)):=by
 unfold QK.putB QK.putQ
 by_cases c:p.size≤Pl.subS s.room s.n
 ·rw [if_pos c,decide_eq_true c];exact wq_Put_yes b rb g0 p s W h ho hp hk c
 ·rw [if_neg c,decide_eq_false c];exact wq_Put_no b rb g0 p s W h ho hp c
end Go.Proofs.Ytaffjfajjpgjpaa

set_option linter.unusedVariables false
namespace Go.Proofs.Ytaffjfajjpgjpaa
open Go.RowKit
structure BxS where
 delay:Nat
 jit:Nat
 l:List Jp
 last:Nat
def isDue (now:Nat) (x:Jp):Bool:=decide (x.due≤now)
namespace BxS
def start (d j:Nat):BxS:=⟨d,j,[],0⟩
structure ok (s:BxS):Prop where
 delay:s.delay≤18446744073709551615
 jit:s.jit≤18446744073709551615
 last:s.last≤18446744073709551615
 due:∀x∈s.l,x.due≤18446744073709551615
def ownT (s:BxS) (now ch:Nat):Nat:=Pl.addS (Pl.addS now s.delay) (min ch s.jit)
def dueB (s:BxS) (now ch:Nat):Nat:=max s.last (s.ownT now ch)
def putB (s:BxS) (p:Pk) (now ch:Nat):BxS:=⟨s.delay,s.jit,s.l ++ [⟨p,s.dueB now ch⟩],s.dueB now ch⟩
def told (s:BxS) (now:Nat):List Pk:=(s.l.takeWhile (isDue now)).map Jp.p
def outB (s:BxS) (now:Nat):BxS:=⟨s.delay,s.jit,s.l.dropWhile (isDue now),s.last⟩
def pks (s:BxS):List Pk:=s.l.map Jp.p
def nextT (s:BxS):Nat:=(s.l.getD 0 Itm.z).due
def someB (s:BxS):Bool:=!s.l.isEmpty
def cells (s:BxS) (rb:Nat):Array Value:=#[.int .u64 (s.delay:Int),.int .u64 (s.jit:Int),.pointer (some ⟨rb,0,none⟩),.int .u64 (s.last:Int)]
set_option maxRecDepth 100000 in
theorem ownT_le (s:BxS) (now ch:Nat):s.ownT now ch≤18446744073709551615:=Pl.addS_le _ _
set_option maxRecDepth 100000 in
theorem dueB_le {s:BxS} (h:s.ok) (now ch:Nat):s.dueB now ch≤18446744073709551615:=by
 have:=h.last
 have:=s.ownT_le now ch
 unfold dueB;omega
set_option maxRecDepth 100000 in
theorem start_ok {d j:Nat} (h:d≤18446744073709551615) (k:j≤18446744073709551615):(start d j).ok:=⟨h,k,Nat.zero_le _,fun x hx=>by cases hx⟩
set_option maxRecDepth 100000 in
theorem put_ok {s:BxS} (h:s.ok) (p:Pk) (now ch:Nat):(s.putB p now ch).ok:=⟨h.delay,h.jit,dueB_le h now ch,fun x hx=>by
 rcases List.mem_append.1 hx with c | c
 ·exact h.due x c
 ·rw [List.mem_singleton.1 c];exact dueB_le h now ch⟩
set_option maxRecDepth 100000 in
theorem out_ok {s:BxS} (h:s.ok) (now:Nat):(s.outB now).ok:=⟨h.delay,h.jit,h.last,fun x hx=>h.due x ((List.dropWhile_sublist _).subset hx)⟩
set_option maxRecDepth 100000 in
theorem put_len (s:BxS) (p:Pk) (now ch:Nat):(s.putB p now ch).l.length=s.l.length + 1:=by simp [putB]
set_option maxRecDepth 100000 in
theorem out_len (s:BxS) (now:Nat):(s.outB now).l.length≤s.l.length:=(List.dropWhile_sublist _).length_le
set_option maxRecDepth 100000 in
theorem told_len (s:BxS) (now:Nat):(s.told now).length≤s.l.length:=by unfold told;rw [List.length_map];exact (List.takeWhile_sublist _).length_le
end BxS
structure BxAt (w:World) (b rb g:Nat) (s:BxS):Prop where
 head:Blk w b 112 (s.cells rb)
 row:JpRow w rb g s.l
set_option maxRecDepth 100000 in
theorem BxAt.keep {w w':World} {b rb g:Nat} {s:BxS} (h:BxAt w b rb g s) (k:Below w.heap.size w w'):BxAt w' b rb g s:=⟨h.head.keep k,h.row.keep k⟩
set_option maxRecDepth 100000 in
theorem BxAt.ne {w:World} {b rb g:Nat} {s:BxS} (h:BxAt w b rb g s):b≠rb∧b≠g∧rb≠g:=by
 obtain ⟨cs,h1⟩:=h.row.head
 obtain ⟨ds,h2⟩:=h.row.body
 exact ⟨h.head.ty h1 (by decide),h.head.ty h2 (by decide),h.row.ne⟩
set_option maxRecDepth 100000 in
theorem BxAt.lt {w:World} {b rb g:Nat} {s:BxS} (h:BxAt w b rb g s):b < w.heap.size∧rb < w.heap.size∧g < w.heap.size:=⟨h.head.lt,h.row.lt⟩
set_option maxRecDepth 100000 in
theorem BxAt.fr {w w':World} {b rb g:Nat} {s:BxS} {L:List Nat} (h:BxAt w b rb g s) (k:Fr w w' L) (h1:b ∉ L) (h2:rb ∉ L) (h3:g ∉ L):BxAt w' b rb g s:=⟨h.head.fr k h1,h.row.fr k h2 h3⟩
structure BxPost (W:World) (b rb g0:Nat) (r:Value) (s:BxS) (e:Ending) (w:World):Prop where
 e:e=.returned r
 at_:∃g,BxAt w b rb g s∧(g=g0∨W.heap.size≤g)
 fr:Fr W w [b,rb,g0]
structure BxM (W:World) (b rb g0 z:Nat) (cs:List Value) (s:BxS) (w:World):Prop where
 at_:∃g,BxAt w b rb g s∧(g=g0∨W.heap.size≤g)
 fr:Fr W w [b,rb,g0]
 box:Blk w z 65 cs.toArray
 lo:W.heap.size≤z
 gz:b < z∧rb < z∧g0 < z
set_option maxRecDepth 100000 in
theorem BxM.to {W w w':World} {b rb g0 z:Nat} {cs:List Value} {s:BxS} (h:BxM W b rb g0 z cs s w) (k:Below w.heap.size w w'):BxM W b rb g0 z cs s w':=
 ⟨by obtain ⟨g,h1,h2⟩:=h.at_;exact ⟨g,h1.keep k,h2⟩,h.fr.below k,h.box.keep k,h.lo,h.gz⟩
set_option maxRecDepth 100000 in
theorem BxM.drew {W w:World} {b rb g0 z:Nat} {cs:List Value} {s:BxS} (h:BxM W b rb g0 z cs s w):BxM W b rb g0 z cs s w.drew:=h.to ((Drawn.drew w).below _)
set_option maxRecDepth 100000 in
theorem BxM.set {W w:World} {b rb g0 z:Nat} {cs:List Value} {s s':BxS} (h:BxM W b rb g0 z cs s w) (i:Nat) (u:Value) (he:(s.cells rb).setIfInBounds i u=s'.cells rb) (hl:s.l=s'.l):BxM W b rb g0 z cs s' (w.setCell ⟨b,i,none⟩ u):=by
 obtain ⟨g,h1,h2⟩:=h.at_
 have n:=h1.ne
 exact ⟨⟨g,⟨he▸h1.head.set i u,hl▸h1.row.set_other (Ne.symm n.1) (Ne.symm n.2.1)⟩,h2⟩,h.fr.set (.inl (by simp)) i u,h.box.set_other i u (by have:=h.gz;omega),h.lo,h.gz⟩
set_option maxRecDepth 100000 in
theorem BxM.head {W w:World} {b rb g0 z:Nat} {cs:List Value} {s:BxS} (h:BxM W b rb g0 z cs s w):Blk w b 112 (s.cells rb):=by obtain ⟨g,h1,_⟩:=h.at_;exact h1.head
set_option maxRecDepth 100000 in
theorem BxM.post {W w:World} {b rb g0 z:Nat} {cs:List Value} {s:BxS} {v:Value} (h:BxM W b rb g0 z cs s w):BxPost W b rb g0 v s (.returned v) w:=
 ⟨rfl,by obtain ⟨g,h1,h2⟩:=h.at_;exact ⟨g,h1,h2⟩,h.fr⟩
set_option maxRecDepth 100000 in
theorem BxM.start {W:World} {b rb g:Nat} {s:BxS} (h:BxAt W b rb g s) (cs:List Value):BxM W b rb g W.heap.size cs s (W.alloc (.cells cs.toArray 65)):=
 ⟨⟨g,h.keep (al_be _ _),.inl rfl⟩,(Fr.refl _ _).alloc _,Blk.new _ _ _,Nat.le_refl _,h.lt⟩
set_option maxRecDepth 100000 in
theorem BxM.ring {W w w':World} {b rb g0 z g:Nat} {cs:List Value} {s:BxS} {l:List Jp} {v e:Ending} (h:BxM W b rb g0 z cs s w) (h1:BxAt w b rb g s) (h2:g=g0∨W.heap.size≤g) (k:JpRPost w rb g v l e w'):BxM W b rb g0 z cs ⟨s.delay,s.jit,l,s.last⟩ w':=by
 obtain ⟨g',k1,k2⟩:=k.at_
 have n:=h1.ne
 have lt:=h1.lt
 have zl:=h.box.lt
 have gz:=h.gz
 obtain ⟨ds,hd⟩:=h1.row.body
 have nz:z≠g:=h.box.ty hd (by decide)
 refine ⟨⟨g',⟨h1.head.fr k.mv (by simp [n.1,n.2.1]),k1⟩,by have:=h.fr.size;rcases k2 with c | c;exact c▸h2;omega⟩,h.fr.trans k.mv (fun x hx=>?_),h.box.fr k.mv (by simp;omega),h.lo,gz⟩
 simp at hx ⊢
 omega
set_option maxRecDepth 100000 in
theorem bm_r {W:World} {b rb g0 z:Nat} {cs:List Value} {s:BxS}:(∀w,Hid (BxM W b rb g0 z cs s w)→w.cell? ⟨b,0,none⟩=some (.int .u64 (s.delay:Int)))∧(∀w,Hid (BxM W b rb g0 z cs s w)→w.cell? ⟨b,1,none⟩=some (.int .u64 (s.jit:Int)))∧(∀w,Hid (BxM W b rb g0 z cs s w)→w.cell? ⟨b,2,none⟩=some (.pointer (some ⟨rb,0,none⟩)))∧(∀w,Hid (BxM W b rb g0 z cs s w)→w.cell? ⟨b,3,none⟩=some (.int .u64 (s.last:Int))):=
 ⟨fun w h=>h.out.head.cell rfl,fun w h=>h.out.head.cell rfl,fun w h=>h.out.head.cell rfl,fun w h=>h.out.head.cell rfl⟩
set_option maxRecDepth 100000 in
theorem bm_l {W:World} {b rb g0 z d j t:Nat} {cs:List Value}:(∀w,Hid (∃l,BxM W b rb g0 z cs ⟨d,j,l,t⟩ w)→w.cell? ⟨b,2,none⟩=some (.pointer (some ⟨rb,0,none⟩)))∧(∀w,Hid (∃l,BxM W b rb g0 z cs ⟨d,j,l,t⟩ w)→w.cell? ⟨b,3,none⟩=some (.int .u64 (t:Int))):=
 ⟨fun w h=>by obtain ⟨l,k⟩:=h.out;exact k.head.cell rfl,fun w h=>by obtain ⟨l,k⟩:=h.out;exact k.head.cell rfl⟩
set_option maxRecDepth 100000 in
theorem bm_zl {W:World} {b rb g0 z i d j t:Nat} {cs:List Value} {v:Value} (hv:cs[i]? =some v):∀w,Hid (∃l,BxM W b rb g0 z cs ⟨d,j,l,t⟩ w)→w.cell? ⟨z,i,none⟩=some v:=fun w h=>by
 obtain ⟨l,k⟩:=h.out
 exact k.box.cell (by simpa using hv)
set_option maxRecDepth 100000 in
theorem add3_any (x y z:Nat) (hx:x≤18446744073709551615) (hy:y≤18446744073709551615) (hz:z≤18446744073709551615) (b:Nat) (W:World) (h0:W.cell? ⟨b,0,none⟩=some (.int .u64 (x:Int))) (h1:W.cell? ⟨b,1,none⟩=some (.int .u64 (y:Int))) (h2:W.cell? ⟨b,2,none⟩=some (.int .u64 (z:Int))):
  Calls Try.prog 66 #[.slice (some ⟨b,0,none⟩) 3 3] W fun e W'=>e=.returned (.int .u64 ((Pl.addS (Pl.addS x y) z:Nat):Int))∧Below W.heap.size W W':=by
 have:=fix_Add b 0 3 [x,y,z] W (by simp) (by simp;omega) (fun i hi=>by
  match i,hi with
  | 0,_=>exact h0
  | 1,_=>exact h1
  | 2,_=>exact h2)
 have e:Pl.sumS [x,y,z]=Pl.addS (Pl.addS x y) z:=by simp [Pl.sumS,Pl.addS];omega
 rw [e] at this
 exact this.mono fun e w' q=>⟨q.1,q.2▸Below.refl _ _⟩
set_option maxRecDepth 100000 in
theorem nc3 (W:World) (x y z:Nat) (T:TypeId):(W.alloc (.cells #[.int .u64 (x:Int),.int .u64 (y:Int),.int .u64 (z:Int)] T)).cell? ⟨W.heap.size,0,none⟩=some (.int .u64 (x:Int))∧(W.alloc (.cells #[.int .u64 (x:Int),.int .u64 (y:Int),.int .u64 (z:Int)] T)).cell? ⟨W.heap.size,1,none⟩=some (.int .u64 (y:Int))∧(W.alloc (.cells #[.int .u64 (x:Int),.int .u64 (y:Int),.int .u64 (z:Int)] T)).cell? ⟨W.heap.size,2,none⟩=some (.int .u64 (z:Int)):=⟨new_cell rfl rfl,new_cell rfl rfl,new_cell rfl rfl⟩
set_option maxRecDepth 100000 in
theorem nc3' (W:World) (x y z:Nat) (T:TypeId):(W.alloc (.cells #[.int .u64 (x:Int),.int .u64 (y:Int),.int .u64 (z:Int)] T)).drew.cell? ⟨W.heap.size,0,none⟩=some (.int .u64 (x:Int))∧(W.alloc (.cells #[.int .u64 (x:Int),.int .u64 (y:Int),.int .u64 (z:Int)] T)).drew.cell? ⟨W.heap.size,1,none⟩=some (.int .u64 (y:Int))∧(W.alloc (.cells #[.int .u64 (x:Int),.int .u64 (y:Int),.int .u64 (z:Int)] T)).drew.cell? ⟨W.heap.size,2,none⟩=some (.int .u64 (z:Int)):=nc3 W x y z T
set_option maxRecDepth 100000 in
theorem bx_push (b rb g0 z t:Nat) (p:Pk) (s:BxS) (W:World) (cs:List Value) (hk:s.l.length≤5000):∀w,BxM W b rb g0 z cs s w→
  Calls Try.prog 70 #[.pointer (some ⟨rb,0,none⟩),(Jp.mk p t).agg] w fun e w'=>e=.returned (.tuple #[])∧Hid (BxM W b rb g0 z cs ⟨s.delay,s.jit,s.l ++ [⟨p,t⟩],s.last⟩ w'):=fun w h=>by
 obtain ⟨g,h1,h2⟩:=h.at_
 have:=jp_push rb g ⟨p,t⟩ s.l w h1.row hk
 exact this.mono fun e w' k=>⟨k.e,Lib.hid (h.ring h1 h2 k)⟩
set_option maxRecDepth 100000 in
set_option maxHeartbeats 1000000 in
theorem bx_Put (b rb g0:Nat) (p:Pk) (now ch:Nat) (s:BxS) (W:World) (h:BxAt W b rb g0 s) (ho:s.ok) (hn:now≤18446744073709551615) (hc:ch≤18446744073709551615) (hk:s.l.length≤5000):
  Calls Try.prog 48 #[.pointer (some ⟨b,0,none⟩),p.agg,.int .u64 (now:Int),.int .u64 (ch:Int)] W (BxPost W b rb g0 (.int .u64 ((s.dueB now ch:Nat):Int)) (s.putB p now ch)):=by
 have K0:=Lib.hid (BxM.start h (Itm.cs p))
 have hA:=Lib.hid (add3_any now s.delay (min ch s.jit) hn ho.delay (by omega))
 have hC:=Lib.hid (bx_push b rb g0 W.heap.size (s.dueB now ch) p ⟨s.delay,s.jit,s.l,s.dueB now ch⟩ W (Itm.cs p) hk)
 have hmin:(if s.jit < ch then (s.jit:Int) else (ch:Int))=((min ch s.jit:Nat):Int):=by split <;> omega
 have hmx:Hid ((if s.last < s.ownT now ch then ((s.ownT now ch:Nat):Int) else (s.last:Int))=((s.dueB now ch:Nat):Int)):=Lib.hid (by unfold BxS.dueB;split <;> omega)
 have ES:Hid (BxM W b rb g0 W.heap.size (Itm.cs p) ⟨s.delay,s.jit,s.l ++ [⟨p,s.dueB now ch⟩],s.dueB now ch⟩=BxM W b rb g0 W.heap.size (Itm.cs p) (s.putB p now ch)):=Lib.hid rfl
 have HE:Hid (s.ownT now ch=Pl.addS (Pl.addS now s.delay) (min ch s.jit)):=Lib.hid rfl
 have hz:=Lib.hid (fun i v (hv:(Itm.cs p)[i]? =some v)=>bm_zl (W:=W) (b:=b) (rb:=rb) (g0:=g0) (z:=W.heap.size) (d:=s.delay) (j:=s.jit) (t:=s.dueB now ch) hv)
 have z0:=hz.out 0 _ rfl
 have z1:=hz.out 1 _ rfl
 have z2:=hz.out 2 _ rfl
 have z3:=hz.out 3 _ rfl
 have z4:=hz.out 4 _ rfl
 have z5:=hz.out 5 _ rfl
 have z6:=hz.out 6 _ rfl
 clear hz h ho hn hc hk
 obtain ⟨q0,q1,_,q3⟩:=bm_r (W:=W) (b:=b) (rb:=rb) (g0:=g0) (z:=W.heap.size) (cs:=Itm.cs p) (s:=s)
 unfold Pk.agg
 go_enter Try.func48,Try.ntmps48
 go_upto_region 3 with fail
 change Code.wp _ _ _ _ (W.alloc (.cells (Itm.cs p).toArray 65))
 have M0:=Lib.hid K0.out.drew
 clear K0
 generalize W.alloc (.cells (Itm.cs p).toArray 65)=w0 at *
 generalize min ch s.jit=m at *
 rw [← HE.out] at hA
 go_wp2_with fail
 go_region_held3 (fun w'=>Hid (BxM W b rb g0 W.heap.size (Itm.cs p) s w'))
  (first | exact M0 | exact M2 | exact Lib.hid ((Hid.out (by assumption):BxM W b rb g0 W.heap.size (Itm.cs p) s _).to (al_be _ _)) | assumption)
  (first | (go_at_call 66;(first | refine (hA.out _ _ (nc3 _ _ _ _ _).1 (nc3 _ _ _ _ _).2.1 (nc3 _ _ _ _ _).2.2).mono ?_ | refine (hA.out _ _ (nc3' _ _ _ _ _).1 (nc3' _ _ _ _ _).2.1 (nc3' _ _ _ _ _).2.2).mono ?_);rintro e w' ⟨rfl,hb⟩;have M2:=Lib.hid ((Hid.out (by assumption):BxM W b rb g0 W.heap.size (Itm.cs p) s _).to hb)))
 all_goals
  have M3:=‹Hid (BxM W b rb g0 W.heap.size (Itm.cs p) s w')›
  have c3:=M3.out.head.cell (i:=3) (v:=.int .u64 (s.last:Int)) rfl
  have y3:=M3.out.head.free 3
  have e4:=hmx.out
  have M4:=Lib.hid (M3.out.set (s':=⟨s.delay,s.jit,s.l,s.dueB now ch⟩) 3 (.int .u64 ((s.dueB now ch:Nat):Int)) rfl rfl)
  clear q0 q1 q3 hA M0 M2 M3 hb hmx HE hmin
  generalize hD:s.dueB now ch=D at *
  clear hD
  generalize hT:s.ownT now ch=T at *
  clear hT
  go_wp2_with fail
  clear c3 y3 e4
  generalize (w'.setCell ⟨b,3,none⟩ (.int .u64 (D:Int)))=w3 at *
  have M5:=Lib.hid M4.out.drew
  obtain ⟨q2,q3⟩:=bm_l (W:=W) (b:=b) (rb:=rb) (g0:=g0) (z:=W.heap.size) (cs:=Itm.cs p) (d:=s.delay) (j:=s.jit) (t:=D)
  go_region_held3 (fun w'=>Hid (∃l,BxM W b rb g0 W.heap.size (Itm.cs p) ⟨s.delay,s.jit,l,D⟩ w'))
   (first | exact Lib.hid ⟨_,K2.out⟩ | exact Lib.hid ⟨_,M5.out⟩ | assumption)
   (first | (go_at_call 70;(refine (hC.out _ M5.out).mono ?_);rintro e w2 ⟨rfl,K2⟩))
  all_goals
   have f3:=K2.out.head.cell (i:=3) (v:=.int .u64 (D:Int)) rfl
   clear hC z0 z1 z2 z3 z4 z5 z6 q2 q3
   go_wp2_with fail
   go_ret
   rw [ES.out] at K2
   exact K2.out.post
set_option maxRecDepth 100000 in
theorem jp_first (rb g:Nat) (l:List Jp) (w:World) (h:JpRow w rb g l):
  Calls Try.prog 64 #[.pointer (some ⟨rb,0,none⟩),.int .i64 0] w fun e w'=>e=jpgot (l.getD 0 Itm.z) (!l.isEmpty)∧Below w.heap.size w w':=by
 cases l with
 | nil=>exact jp_at_out rb g 0 [] w h (.inr (by simp))
 | cons x r=>exact jp_at rb g 0 (x :: r) w h (by simp)
set_option maxRecDepth 100000 in
set_option maxHeartbeats 1000000 in
theorem bx_Next (b rb g:Nat) (s:BxS) (w:World) (h:BxAt w b rb g s):
  Calls Try.prog 37 #[.pointer (some ⟨b,0,none⟩)] w fun e w'=>e=.returned (.tuple #[.int .u64 (s.nextT:Int),.bool s.someB])∧Below w.heap.size w w':=by
 have c2:=h.head.cell (i:=2) (v:=.pointer (some ⟨rb,0,none⟩)) rfl
 have HA:=Lib.hid (jp_first rb g s.l w h.row)
 have E1:Hid (s.nextT=(s.l.getD 0 Itm.z).due):=Lib.hid rfl
 have E2:Hid (s.someB=!s.l.isEmpty):=Lib.hid rfl
 clear h
 generalize s.l.getD 0 Itm.z=x at *
 rw [← E2.out] at HA
 generalize s.someB=q at *
 rw [E1.out]
 clear E1 E2
 go_enter Try.func37,Try.ntmps37
 go_wp2_with fail
 refine HA.out.mono ?_
 rintro e w1 ⟨rfl,hb⟩
 have HB:=Lib.hid hb
 clear hb HA c2
 unfold jpgot Jp.agg
 go_wp2_with fail
 go_ret2
 exact ⟨rfl,bel_to HB.out (al_be _ _) HB.out.size⟩
structure BxMade (w:World) (d j:Nat) (e:Ending) (w':World):Prop where
 at_:∃b rb g,e=.returned (.pointer (some ⟨b,0,none⟩))∧BxAt w' b rb g (BxS.start d j)∧w.heap.size≤b∧w.heap.size≤rb∧w.heap.size≤g
 bel:Below w.heap.size w w'
set_option maxRecDepth 100000 in
theorem bx_New (d j:Nat) (w:World):Calls Try.prog 22 #[.int .u64 (d:Int),.int .u64 (j:Int)] w (BxMade w d j):=by
 have HN:=Lib.hid (jp_new none 0 [] w (Its.none _ _) (by simp))
 go_enter Try.func22,Try.ntmps22
 go_wp2_with fail
 refine HN.out.mono ?_
 rintro e w1 ⟨⟨b,g,rfl,hr,hb,hg⟩,hbel⟩
 have HR:=Lib.hid hr
 have HW:=Lib.hid hbel
 clear hr hbel HN
 go_wp2_with fail
 go_ret
 exact ⟨⟨_,b,g,rfl,⟨Blk.new _ _ _,HR.out.alloc _⟩,HW.out.size,hb,hg⟩,HW.out.trans ((al_be _ _).mono HW.out.size)⟩
end Go.Proofs.Ytaffjfajjpgjpaa
