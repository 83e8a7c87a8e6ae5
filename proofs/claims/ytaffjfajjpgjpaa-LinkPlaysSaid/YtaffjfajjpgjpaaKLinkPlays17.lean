/- 2 texts put together: what each one says stands ahead of it. -/
import Derived.Test.YtaffjfajjpgjpaaKLinkPlays14
import Derived.Test.YtaffjfajjpgjpaaKLinkPlays16
import Derived.Test.YtaffjfajjpgjpaaKLinkPlays04
import Derived.Laws.Tables
import Derived.Deep.DeepCutAuto
import Derived.Deep.RegionHeld3
import Derived.Deep.QuietTactic
set_option linter.unusedVariables false
namespace Go.Proofs.Ytaffjfajjpgjpaa
open Go.RowKit
def Apart (v:Option Addr) (L:List Nat):Prop:=∀a,v=some a→a.block ∉ L
theorem Apart.none (L:List Nat):Apart none L:=fun a h=>by cases h
theorem Its.frl {α:Type} [Itm α] {w w':World} {v:Option Addr} {l:List α} {L:List Nat} (h:Its w v l) (k:Fr w w' L) (ha:Apart v L):Its w' v l:=by
 intro hp
 obtain ⟨b,off,e,hb,hc⟩:=h hp
 refine ⟨b,off,e,Nat.lt_of_lt_of_le hb k.size,fun i j hi hj=>?_⟩
 rw [← hc i j hi hj]
 have:=k.block b hb (ha _ e)
 simp [World.cell?,this]
structure PL where
 b:Nat
 kb:Nat
 qb:Nat
 qr:Nat
 qg:Nat
 jb:Nat
 jr:Nat
 jg:Nat
def PL.l (p:PL):List Nat:=[p.b,p.kb,p.qb,p.qr,p.qg,p.jb,p.jr,p.jg]
def PL.at_ (p:PL) (g h:Nat):PL:=⟨p.b,p.kb,p.qb,p.qr,g,p.jb,p.jr,h⟩
def LS.cells (s:LS) (p:PL):Array Value:=#[.int .u64 (s.rate:Int),.int .u64 (s.delay:Int),.int .u64 (s.jit:Int),.int .u64 (s.buf:Int),.pointer (some ⟨p.kb,0,none⟩),.pointer (some ⟨p.qb,0,none⟩),.pointer (some ⟨p.jb,0,none⟩),.int .u64 (s.t:Int),.int .u64 (LS.hi s.came:Int),.int .u64 (LS.lo s.came:Int),.int .u64 (LS.hi s.served:Int),.int .u64 (LS.lo s.served:Int),.int .u64 (LS.hi s.deliv:Int),.int .u64 (LS.lo s.deliv:Int)]
theorem cells_at (s:LS) (p:PL) (g h:Nat):s.cells (p.at_ g h)=s.cells p:=rfl
theorem cells_k (s:LS) (p:PL) (k:KB):(s.withK k).cells p=s.cells p:=rfl
theorem cells_q (s:LS) (p:PL) (q:QK):(s.withQ q).cells p=s.cells p:=rfl
theorem cells_j (s:LS) (p:PL) (j:BxS):(s.withJ j).cells p=s.cells p:=rfl
structure LkAt (w:World) (p:PL) (s:LS):Prop where
 head:Blk w p.b 80 (s.cells p)
 k:Blk w p.kb 100 s.k.cells
 q:QAt w p.qb p.qr p.qg s.q
 j:BxAt w p.jb p.jr p.jg s.j
theorem LkAt.keep {w w':World} {p:PL} {s:LS} (h:LkAt w p s) (k:Below w.heap.size w w'):LkAt w' p s:=⟨h.head.keep k,h.k.keep k,h.q.keep k,h.j.keep k⟩
theorem LkAt.lt {w:World} {p:PL} {s:LS} (h:LkAt w p s):∀x∈p.l,x < w.heap.size:=by
 have a1:=h.head.lt
 have a2:=h.k.lt
 have a3:=h.q.lt
 have a4:=h.j.lt
 intro x hx
 simp [PL.l] at hx
 omega
set_option maxHeartbeats 400000 in
theorem LkAt.ne {w:World} {p:PL} {s:LS} (h:LkAt w p s):p.b≠p.kb∧p.b≠p.qb∧p.b≠p.qr∧p.b≠p.qg∧p.b≠p.jb∧p.b≠p.jr∧p.b≠p.jg∧p.kb≠p.qb∧p.kb≠p.qr∧p.kb≠p.qg∧p.kb≠p.jb∧p.kb≠p.jr∧p.kb≠p.jg∧p.qb≠p.qr∧p.qb≠p.qg∧p.qb≠p.jb∧p.qb≠p.jr∧p.qb≠p.jg∧p.qr≠p.qg∧p.qr≠p.jb∧p.qr≠p.jr∧p.qr≠p.jg∧p.qg≠p.jb∧p.qg≠p.jr∧p.qg≠p.jg∧p.jb≠p.jr∧p.jb≠p.jg∧p.jr≠p.jg:=by
 have hb:=h.head
 have hkb:=h.k
 have hqb:=h.q.head
 obtain ⟨_,hqr⟩:=h.q.row.head
 obtain ⟨_,hqg⟩:=h.q.row.body
 have hjb:=h.j.head
 obtain ⟨_,hjr⟩:=h.j.row.head
 obtain ⟨_,hjg⟩:=h.j.row.body
 exact ⟨hb.ty hkb (by decide),hb.ty hqb (by decide),hb.ty hqr (by decide),hb.ty hqg (by decide),hb.ty hjb (by decide),hb.ty hjr (by decide),hb.ty hjg (by decide),hkb.ty hqb (by decide),hkb.ty hqr (by decide),hkb.ty hqg (by decide),hkb.ty hjb (by decide),hkb.ty hjr (by decide),hkb.ty hjg (by decide),hqb.ty hqr (by decide),hqb.ty hqg (by decide),hqb.ty hjb (by decide),hqb.ty hjr (by decide),hqb.ty hjg (by decide),hqr.ty hqg (by decide),hqr.ty hjb (by decide),hqr.ty hjr (by decide),hqr.ty hjg (by decide),hqg.ty hjb (by decide),hqg.ty hjr (by decide),hqg.ty hjg (by decide),hjb.ty hjr (by decide),hjb.ty hjg (by decide),hjr.ty hjg (by decide)⟩
theorem LkAt.fr {w w':World} {p:PL} {s:LS} {L:List Nat} (h:LkAt w p s) (k:Fr w w' L) (hn:∀x∈p.l,x ∉ L):LkAt w' p s:=by
 have m:∀x,x∈p.l→x ∉ L:=hn
 exact ⟨h.head.fr k (m _ (by simp [PL.l])),h.k.fr k (m _ (by simp [PL.l])),h.q.fr k (m _ (by simp [PL.l])) (m _ (by simp [PL.l])) (m _ (by simp [PL.l])),h.j.fr k (m _ (by simp [PL.l])) (m _ (by simp [PL.l])) (m _ (by simp [PL.l]))⟩
theorem nm1 {a x:Nat} (h:a≠x):a ∉ [x]:=by simp [h]
theorem nm3 {a x y z:Nat} (h:a≠x) (k:a≠y) (m:a≠z):a ∉ [x,y,z]:=by simp [h,k,m]
theorem fr_k {w w':World} {b:Nat} {r:Value} {s:KB} {e:Ending} (k:KPost w b r s e w'):Fr w w' [b]:=fr_gr k.gr (fun x hx=>by cases hx;simp)
structure LI (W:World) (p:PL) (s:LS) (w:World):Prop where
 at_:∃g h,LkAt w (p.at_ g h) s∧(g=p.qg∨W.heap.size≤g)∧(h=p.jg∨W.heap.size≤h)
 fr:Fr W w p.l
 lo:∀x∈p.l,x < W.heap.size
theorem LI.start {W:World} {p:PL} {s:LS} (h:LkAt W p s):LI W p s W:=⟨⟨p.qg,p.jg,h,.inl rfl,.inl rfl⟩,Fr.refl _ _,h.lt⟩
theorem LI.to {W w w':World} {p:PL} {s:LS} (h:LI W p s w) (k:Below w.heap.size w w'):LI W p s w':=by
 obtain ⟨g,i,h1,h2⟩:=h.at_
 exact ⟨⟨g,i,h1.keep k,h2⟩,h.fr.below k,h.lo⟩
theorem LI.drew {W w:World} {p:PL} {s:LS} (h:LI W p s w):LI W p s w.drew:=h.to ((Drawn.drew w).below _)
theorem LI.al {W w:World} {p:PL} {s:LS} (h:LI W p s w) (o:Obj):LI W p s (w.alloc o):=h.to (al_be _ _)
theorem LI.k {W w w':World} {p:PL} {s:LS} {r:Value} {k':KB} {e:Ending} (h:LI W p s w) (k:KPost w p.kb r k' e w'):LI W p (s.withK k') w':=by
 have f:=fr_k k
 obtain ⟨g,i,h1,h2⟩:=h.at_
 refine ⟨⟨g,i,?_,h2⟩,h.fr.trans f (fun x hx=>by simp [PL.l] at hx ⊢;omega),h.lo⟩
 obtain ⟨n_b_kb,n_b_qb,n_b_qr,n_b_qg,n_b_jb,n_b_jr,n_b_jg,n_kb_qb,n_kb_qr,n_kb_qg,n_kb_jb,n_kb_jr,n_kb_jg,n_qb_qr,n_qb_qg,n_qb_jb,n_qb_jr,n_qb_jg,n_qr_qg,n_qr_jb,n_qr_jr,n_qr_jg,n_qg_jb,n_qg_jr,n_qg_jg,n_jb_jr,n_jb_jg,n_jr_jg⟩:=h1.ne
 exact ⟨by rw [cells_k];exact h1.head.fr f (nm1 n_b_kb),k.blk,h1.q.fr f (nm1 n_kb_qb.symm) (nm1 n_kb_qr.symm) (nm1 n_kb_qg.symm),h1.j.fr f (nm1 n_kb_jb.symm) (nm1 n_kb_jr.symm) (nm1 n_kb_jg.symm)⟩
theorem LI.q {W w w':World} {p:PL} {s:LS} {g i:Nat} {r:Value} {q':QK} {e:Ending} (h:LI W p s w) (h1:LkAt w (p.at_ g i) s) (h2:(g=p.qg∨W.heap.size≤g)∧(i=p.jg∨W.heap.size≤i)) (k:QPost w p.qb p.qr g r q' e w'):LI W p (s.withQ q') w':=by
 have f:=k.fr
 obtain ⟨g',k1,k2⟩:=k.at_
 have sz:=h.fr.size
 refine ⟨⟨g',i,?_,by omega,h2.2⟩,h.fr.trans f (fun x hx=>by simp [PL.l] at hx ⊢;omega),h.lo⟩
 obtain ⟨n_b_kb,n_b_qb,n_b_qr,n_b_qg,n_b_jb,n_b_jr,n_b_jg,n_kb_qb,n_kb_qr,n_kb_qg,n_kb_jb,n_kb_jr,n_kb_jg,n_qb_qr,n_qb_qg,n_qb_jb,n_qb_jr,n_qb_jg,n_qr_qg,n_qr_jb,n_qr_jr,n_qr_jg,n_qg_jb,n_qg_jr,n_qg_jg,n_jb_jr,n_jb_jg,n_jr_jg⟩:=h1.ne
 exact ⟨by rw [cells_q,cells_at,← cells_at s p g i];exact h1.head.fr f (nm3 n_b_qb n_b_qr n_b_qg),h1.k.fr f (nm3 n_kb_qb n_kb_qr n_kb_qg),k1,h1.j.fr f (nm3 n_qb_jb.symm n_qr_jb.symm n_qg_jb.symm) (nm3 n_qb_jr.symm n_qr_jr.symm n_qg_jr.symm) (nm3 n_qb_jg.symm n_qr_jg.symm n_qg_jg.symm)⟩
theorem LI.j {W w w':World} {p:PL} {s:LS} {g i:Nat} {j':BxS} (h:LI W p s w) (h1:LkAt w (p.at_ g i) s) (h2:(g=p.qg∨W.heap.size≤g)∧(i=p.jg∨W.heap.size≤i)) (k:∃i',BxAt w' p.jb p.jr i' j'∧(i'=i∨w.heap.size≤i')) (f:Fr w w' [p.jb,p.jr,i]):LI W p (s.withJ j') w':=by
 obtain ⟨i',k1,k2⟩:=k
 have sz:=h.fr.size
 refine ⟨⟨g,i',?_,h2.1,by omega⟩,h.fr.trans f (fun x hx=>by simp [PL.l] at hx ⊢;omega),h.lo⟩
 obtain ⟨n_b_kb,n_b_qb,n_b_qr,n_b_qg,n_b_jb,n_b_jr,n_b_jg,n_kb_qb,n_kb_qr,n_kb_qg,n_kb_jb,n_kb_jr,n_kb_jg,n_qb_qr,n_qb_qg,n_qb_jb,n_qb_jr,n_qb_jg,n_qr_qg,n_qr_jb,n_qr_jr,n_qr_jg,n_qg_jb,n_qg_jr,n_qg_jg,n_jb_jr,n_jb_jg,n_jr_jg⟩:=h1.ne
 exact ⟨by rw [cells_j,cells_at,← cells_at s p g i];exact h1.head.fr f (nm3 n_b_jb n_b_jr n_b_jg),h1.k.fr f (nm3 n_kb_jb n_kb_jr n_kb_jg),h1.q.fr f (nm3 n_qb_jb n_qb_jr n_qb_jg) (nm3 n_qr_jb n_qr_jr n_qr_jg) (nm3 n_qg_jb n_qg_jr n_qg_jg),k1⟩
theorem LI.hd {W w w':World} {p:PL} {s s':LS} (h:LI W p s w) (f:Fr w w' [p.b]) (hb:∀cs,Blk w p.b 80 cs→cs=s.cells p→Blk w' p.b 80 (s'.cells p)) (h3:s.k=s'.k∧s.q=s'.q∧s.j=s'.j):LI W p s' w':=by
 obtain ⟨g,i,h1,h2⟩:=h.at_
 obtain ⟨e1,e2,e3⟩:=h3
 refine ⟨⟨g,i,?_,h2⟩,h.fr.trans f (fun x hx=>by simp [PL.l] at hx ⊢;omega),h.lo⟩
 obtain ⟨n_b_kb,n_b_qb,n_b_qr,n_b_qg,n_b_jb,n_b_jr,n_b_jg,n_kb_qb,n_kb_qr,n_kb_qg,n_kb_jb,n_kb_jr,n_kb_jg,n_qb_qr,n_qb_qg,n_qb_jb,n_qb_jr,n_qb_jg,n_qr_qg,n_qr_jb,n_qr_jr,n_qr_jg,n_qg_jb,n_qg_jr,n_qg_jg,n_jb_jr,n_jb_jg,n_jr_jg⟩:=h1.ne
 exact ⟨by rw [cells_at];exact hb _ h1.head (cells_at s p g i),e1▸h1.k.fr f (nm1 n_b_kb.symm),e2▸h1.q.fr f (nm1 n_b_qb.symm) (nm1 n_b_qr.symm) (nm1 n_b_qg.symm),e3▸h1.j.fr f (nm1 n_b_jb.symm) (nm1 n_b_jr.symm) (nm1 n_b_jg.symm)⟩
theorem LI.set {W w:World} {p:PL} {s s':LS} (h:LI W p s w) (i:Nat) (u:Value) (he:(s.cells p).setIfInBounds i u=s'.cells p) (h3:s.k=s'.k∧s.q=s'.q∧s.j=s'.j):LI W p s' (w.setCell ⟨p.b,i,none⟩ u):=
 h.hd ((Fr.refl _ _).set (.inl (by simp)) i u) (fun cs hb hc=>by rw [← he,← hc];exact hb.set i u) h3
theorem LI.set2 {W w:World} {p:PL} {s s':LS} (h:LI W p s w) (i j:Nat) (u v:Value) (he:((s.cells p).setIfInBounds i u).setIfInBounds j v=s'.cells p) (h3:s.k=s'.k∧s.q=s'.q∧s.j=s'.j):LI W p s' ((w.setCell ⟨p.b,i,none⟩ u).setCell ⟨p.b,j,none⟩ v):=
 h.hd (((Fr.refl _ _).set (.inl (by simp)) i u).set (.inl (by simp)) j v) (fun cs hb hc=>by rw [← he,← hc];exact (hb.set i u).set j v) h3
theorem LI.cell {W w:World} {p:PL} {s:LS} (h:LI W p s w) {i:Nat} {v:Value} (hv:∀p,(s.cells p)[i]? =some v):w.cell? ⟨p.b,i,none⟩=some v:=by
 obtain ⟨g,j,h1,_⟩:=h.at_
 exact h1.head.cell (hv _)
theorem LI.kp {W w:World} {p:PL} {s:LS} (h:LI W p s w):w.cell? ⟨p.b,4,none⟩=some (.pointer (some ⟨p.kb,0,none⟩))∧w.cell? ⟨p.b,5,none⟩=some (.pointer (some ⟨p.qb,0,none⟩))∧w.cell? ⟨p.b,6,none⟩=some (.pointer (some ⟨p.jb,0,none⟩)):=by
 obtain ⟨g,j,h1,_⟩:=h.at_
 exact ⟨h1.head.cell rfl,h1.head.cell rfl,h1.head.cell rfl⟩
theorem LI.free {W w:World} {p:PL} {s:LS} (h:LI W p s w) (i:Nat):w.frozen? ⟨p.b,i,none⟩=false:=by
 obtain ⟨g,j,h1,_⟩:=h.at_
 exact h1.head.free i
theorem LI.trans {W w w':World} {p:PL} {s s':LS} {g i:Nat} (h:LI W p s w) (h1:LkAt w (p.at_ g i) s) (h2:(g=p.qg∨W.heap.size≤g)∧(i=p.jg∨W.heap.size≤i)) (k:LI w (p.at_ g i) s' w'):LI W p s' w':=by
 obtain ⟨g',i',k1,k2,k3⟩:=k.at_
 have sz:=h.fr.size
 refine ⟨⟨g',i',k1,?_,?_⟩,h.fr.trans k.fr (fun x hx=>?_),h.lo⟩
 ·simp [PL.at_] at k2;omega
 ·simp [PL.at_] at k3;omega
 ·simp [PL.l,PL.at_] at hx ⊢;omega
structure LX (W:World) (p:PL) (z:Nat) (T:TypeId) (cs:Array Value) (s:LS) (w:World):Prop where
 at_:∃g h,LkAt w (p.at_ g h) s∧(g=p.qg∨W.heap.size≤g)∧(h=p.jg∨W.heap.size≤h)∧g≠z∧h≠z
 fr:Fr W w p.l
 lo:∀x∈p.l,x < W.heap.size
 box:Blk w z T cs
 zl:W.heap.size≤z
theorem LX.li {W w:World} {p:PL} {z:Nat} {T:TypeId} {cs:Array Value} {s:LS} (h:LX W p z T cs s w):LI W p s w:=by
 obtain ⟨g,i,h1,h2,h3,_⟩:=h.at_
 exact ⟨⟨g,i,h1,h2,h3⟩,h.fr,h.lo⟩
theorem LI.box {W w:World} {p:PL} {s:LS} (h:LI W p s w) (cs:Array Value) (T:TypeId):LX W p w.heap.size T cs s (w.alloc (.cells cs T)):=by
 obtain ⟨g,i,h1,h2,h3⟩:=h.at_
 have lt:=h1.lt
 simp [PL.l,PL.at_] at lt
 have h4:=h.al (.cells cs T)
 exact ⟨⟨g,i,h1.keep (al_be _ _),h2,h3,by omega,by omega⟩,h4.fr,h.lo,Blk.new _ _ _,h.fr.size⟩
theorem LX.of {W w w':World} {p:PL} {z:Nat} {T:TypeId} {cs:Array Value} {s s':LS} {L:List Nat} (h:LX W p z T cs s w) (g i:Nat) (h1:LkAt w (p.at_ g i) s) (h2:(g=p.qg∨W.heap.size≤g)∧(i=p.jg∨W.heap.size≤i)) (h3:g≠z∧i≠z) (k:LI w (p.at_ g i) s' w'):LX W p z T cs s' w':=by
 have k0:=h.li.trans h1 h2 k
 obtain ⟨g',i',k1,k2,k3⟩:=k.at_
 have zl:=h.box.lt
 have lo:=h.lo
 have z2:=h.zl
 have sz:=h.fr.size
 simp [PL.l] at lo
 simp [PL.at_] at k2 k3
 refine ⟨⟨g',i',k1,by omega,by omega,by omega,by omega⟩,k0.fr,h.lo,h.box.fr k.fr (by simp [PL.l,PL.at_];omega),h.zl⟩
theorem LX.ex {W w:World} {p:PL} {z:Nat} {T:TypeId} {cs:Array Value} {s:LS} (h:LX W p z T cs s w):∃g i,LkAt w (p.at_ g i) s∧((g=p.qg∨W.heap.size≤g)∧(i=p.jg∨W.heap.size≤i))∧(g≠z∧i≠z):=by
 obtain ⟨g,i,h1,h2,h3,h4⟩:=h.at_
 exact ⟨g,i,h1,⟨h2,h3⟩,h4⟩
theorem LX.to {W w w':World} {p:PL} {z:Nat} {T:TypeId} {cs:Array Value} {s:LS} (h:LX W p z T cs s w) (k:Below w.heap.size w w'):LX W p z T cs s w':=by
 obtain ⟨g,i,h1,h2⟩:=h.at_
 exact ⟨⟨g,i,h1.keep k,h2⟩,h.fr.below k,h.lo,h.box.keep k,h.zl⟩
theorem LX.drew {W w:World} {p:PL} {z:Nat} {T:TypeId} {cs:Array Value} {s:LS} (h:LX W p z T cs s w):LX W p z T cs s w.drew:=h.to ((Drawn.drew w).below _)
theorem LX.k {W w w':World} {p:PL} {z:Nat} {T:TypeId} {cs:Array Value} {s:LS} {r:Value} {k':KB} {e:Ending} (h:LX W p z T cs s w) (k:KPost w p.kb r k' e w'):LX W p z T cs (s.withK k') w':=by
 obtain ⟨g,i,h1,h2,h3⟩:=h.ex
 exact h.of (L:=[]) g i h1 h2 h3 ((LI.start h1).k k)
theorem LX.q {W w w':World} {p:PL} {z g i:Nat} {T:TypeId} {cs:Array Value} {s:LS} {r:Value} {q':QK} {e:Ending} (h:LX W p z T cs s w) (h1:LkAt w (p.at_ g i) s) (h2:(g=p.qg∨W.heap.size≤g)∧(i=p.jg∨W.heap.size≤i)) (h3:g≠z∧i≠z) (k:QPost w p.qb p.qr g r q' e w'):LX W p z T cs (s.withQ q') w':=
 h.of (L:=[]) g i h1 h2 h3 ((LI.start h1).q (p:=p.at_ g i) h1 ⟨.inl rfl,.inl rfl⟩ k)
theorem LX.j {W w w':World} {p:PL} {z g i:Nat} {T:TypeId} {cs:Array Value} {s:LS} {j':BxS} (h:LX W p z T cs s w) (h1:LkAt w (p.at_ g i) s) (h2:(g=p.qg∨W.heap.size≤g)∧(i=p.jg∨W.heap.size≤i)) (h3:g≠z∧i≠z) (k:∃i',BxAt w' p.jb p.jr i' j'∧(i'=i∨w.heap.size≤i')) (f:Fr w w' [p.jb,p.jr,i]):LX W p z T cs (s.withJ j') w':=
 h.of (L:=[]) g i h1 h2 h3 ((LI.start h1).j (p:=p.at_ g i) h1 ⟨.inl rfl,.inl rfl⟩ k f)
theorem LX.set {W w:World} {p:PL} {z:Nat} {T:TypeId} {cs:Array Value} {s s':LS} (h:LX W p z T cs s w) (i:Nat) (u:Value) (he:(s.cells p).setIfInBounds i u=s'.cells p) (h3:s.k=s'.k∧s.q=s'.q∧s.j=s'.j):LX W p z T cs s' (w.setCell ⟨p.b,i,none⟩ u):=by
 obtain ⟨g,m,h1,h2,h4⟩:=h.ex
 exact h.of (L:=[]) g m h1 h2 h4 ((LI.start h1).set i u he h3)
theorem LX.set2 {W w:World} {p:PL} {z:Nat} {T:TypeId} {cs:Array Value} {s s':LS} (h:LX W p z T cs s w) (i j:Nat) (u v:Value) (he:((s.cells p).setIfInBounds i u).setIfInBounds j v=s'.cells p) (h3:s.k=s'.k∧s.q=s'.q∧s.j=s'.j):LX W p z T cs s' ((w.setCell ⟨p.b,i,none⟩ u).setCell ⟨p.b,j,none⟩ v):=by
 obtain ⟨g,m,h1,h2,h4⟩:=h.ex
 exact h.of (L:=[]) g m h1 h2 h4 ((LI.start h1).set2 i j u v he h3)
theorem LX.boxed {W w:World} {p:PL} {z:Nat} {T:TypeId} {cs:Array Value} {s:LS} (h:LX W p z T cs s w) (ds:List Value) (hl:ds.length=cs.size):LX W p z T ds.toArray s (w.setCells z 0 ds):=by
 obtain ⟨g,i,h1,h2,h3⟩:=h.ex
 have f:Fr w (w.setCells z 0 ds) [z]:=Fr.sets (.inl (by simp)) ds 0 w (Fr.refl _ _)
 have zl:=h.zl
 have lo:=h.lo
 have k:=h1.fr f (fun x hx=>by
  simp [PL.l,PL.at_] at hx ⊢
  simp [PL.l] at lo
  omega)
 exact ⟨⟨g,i,k,h2.1,h2.2,h3⟩,h.fr.trans f (fun x hx=>by simp at hx;omega),h.lo,h.box.whole ds hl,h.zl⟩
structure LPost (W:World) (p:PL) (r:Value) (s:LS) (e:Ending) (w:World):Prop where
 e:e=.returned r
 li:LI W p s w
end Go.Proofs.Ytaffjfajjpgjpaa

set_option linter.unusedVariables false
namespace Go.Proofs.Ytaffjfajjpgjpaa
open Go.RowKit
theorem lo_lt (t:Nat):LS.lo t≤18446744073709551615:=by unfold LS.lo;omega
theorem hi_lt {t:Nat} (ht:t≤1267650600228229401496703205376):LS.hi t≤18446744073709551615:=by unfold LS.hi;omega
set_option maxHeartbeats 400000 in
theorem lk_more (t n:Nat) (W:World) (ht:t≤1267650600228229401496703205376) (hn:n≤18446744073709551615):
  Calls Try.prog 30 #[.agg #[.int .u64 (LS.hi t:Int),.int .u64 (LS.lo t:Int)],.int .u64 (n:Int)] W fun e w'=>e=.returned (.agg #[.int .u64 (LS.hi (t + n):Int),.int .u64 (LS.lo (t + n):Int)])∧Below W.heap.size W w':=by
 have hrun:=fun w=>add64_run (LS.lo t:Int) (n:Int) (by omega) (by omega) w
 have e1:((LS.lo t:Int) + (n:Int) + 0) % 18446744073709551616=(LS.lo (t + n):Int):=by unfold LS.lo;omega
 have e2:((LS.lo t:Int) + (n:Int) + 0) / 18446744073709551616=(((LS.lo t + n) / 18446744073709551616:Nat):Int):=by omega
 have e3:(LS.hi t:Int) + (((LS.lo t + n) / 18446744073709551616:Nat):Int)=(LS.hi (t + n):Int):=by unfold LS.hi LS.lo;omega
 have e4:IntKind.u64.wrap (LS.hi (t + n):Int)=(LS.hi (t + n):Int):=by rw [IntKind.wrap_u64];unfold LS.hi;omega
 rw [e1,e2] at hrun
 clear e1 e2 ht hn
 generalize (LS.lo t + n) / 18446744073709551616=c at *
 generalize LS.hi (t + n)=h' at *
 generalize LS.lo (t + n)=l' at *
 generalize LS.hi t=h at *
 generalize LS.lo t=l at *
 go_enter Try.func30,Try.ntmps30
 go_wp2
 exact bodyPost_ret (results_cell rfl _ _ _ 78 _ _ rfl (Blk.new1 _ _ _ _) Try.underlying78 rfl (by kernel_rfl)) rfl ⟨rfl,((Below.refl _ _).alloc (Nat.le_refl _) _).alloc (by simp) _⟩
theorem sub64_any (a b:Nat) (ha:a≤18446744073709551615) (w:World):
  (callFunc 65 #[.int .u64 a,.int .u64 b,.int .u64 0]).run Try.prog w=.ok (.value (.tuple #[.int .u64 (((a + 18446744073709551616 - b) % 18446744073709551616:Nat):Int),.int .u64 ((if a < b then 1 else 0:Nat):Int)])) w:=by
 by_cases h:b≤a
 ·rw [sub64_no a b h ha w,if_neg (by omega),show (a + 18446744073709551616 - b) % 18446744073709551616=a - b by omega];rfl
 ·rw [sub64_yes a b (by omega) ha w,if_pos (by omega),Nat.sub_zero];rfl
set_option maxHeartbeats 400000 in
theorem lk_less (t u:Nat) (W:World) (ht:t≤1267650600228229401496703205376) (hu:u≤t):
  Calls Try.prog 41 #[.agg #[.int .u64 (LS.hi t:Int),.int .u64 (LS.lo t:Int)],.agg #[.int .u64 (LS.hi u:Int),.int .u64 (LS.lo u:Int)]] W fun e w'=>e=.returned (.agg #[.int .u64 (LS.hi (t - u):Int),.int .u64 (LS.lo (t - u):Int)])∧Below W.heap.size W w':=by
 have hrun:=fun w=>sub64_any (LS.lo t) (LS.lo u) (lo_lt t) w
 have e1:(LS.lo t + 18446744073709551616 - LS.lo u) % 18446744073709551616=LS.lo (t - u):=by unfold LS.lo;omega
 have e2:LS.hi u + (if LS.lo t < LS.lo u then 1 else 0) + LS.hi (t - u)=LS.hi t:=by unfold LS.hi LS.lo;split <;> omega
 have e5:=hi_lt ht
 rw [e1] at hrun
 clear e1 ht hu
 generalize (if LS.lo t < LS.lo u then 1 else 0:Nat)=c at *
 generalize LS.hi (t - u)=h' at *
 generalize LS.lo (t - u)=l' at *
 generalize LS.hi t=h at *
 generalize LS.lo t=l at *
 generalize LS.hi u=i at *
 generalize LS.lo u=m at *
 have e3:(h:Int) - (i:Int)=((h - i:Nat):Int):=by omega
 have e3':IntKind.u64.wrap ((h - i:Nat):Int)=((h - i:Nat):Int):=by rw [IntKind.wrap_u64];omega
 have e4:((h - i:Nat):Int) - (c:Int)=(h':Int):=by omega
 have e4':IntKind.u64.wrap (h':Int)=(h':Int):=by rw [IntKind.wrap_u64];omega
 clear e2 e5
 go_enter Try.func41,Try.ntmps41
 go_wp2
 exact bodyPost_ret (results_cell rfl _ _ _ 78 _ _ rfl (by first | exact Blk.new _ _ _ | (have:=Blk.new1 (W.alloc (.cells #[.int .u64 (h:Int),.int .u64 (l:Int)] 78)) (.cells #[.int .u64 (i:Int),.int .u64 (m:Int)] 78) 78 #[.int .u64 (h':Int),.int .u64 (l':Int)];simpa using this)) Try.underlying78 rfl (by kernel_rfl)) rfl ⟨rfl,(((Below.refl _ _).alloc (Nat.le_refl _) _).alloc (by simp) _).alloc (by simp;omega) _⟩
theorem lk_told (t:Nat) (W:World):
  Calls Try.prog 39 #[.agg #[.int .u64 (LS.hi t:Int),.int .u64 (LS.lo t:Int)]] W fun e w'=>e=.returned (.int .u64 (LS.told t:Int))∧Below W.heap.size W w':=by
 by_cases h:0 < LS.hi t
 ·have d:decide (0 < LS.hi t)=true:=decide_eq_true h
  have e:LS.told t=18446744073709551615:=by unfold LS.told;unfold LS.hi at h;omega
  rw [e]
  clear h e
  generalize LS.hi t=h at *
  go_enter Try.func39,Try.ntmps39
  go_wp2
  go_ret
  exact ⟨rfl,al_be _ _⟩
 ·have d:LS.hi t=0:=by omega
  have e:LS.told t=LS.lo t:=by unfold LS.told LS.lo;unfold LS.hi at d;omega
  rw [e,d]
  clear h e d
  generalize LS.lo t=l at *
  go_enter Try.func39,Try.ntmps39
  go_wp2
  go_ret
  exact ⟨rfl,al_be _ _⟩
theorem lk_Time (p:PL) (s:LS) (W:World) (h:LkAt W p s):
  Calls Try.prog 36 #[.pointer (some ⟨p.b,0,none⟩)] W fun e w'=>e=.returned (.int .u64 (s.t:Int))∧W=w':=by
 have c7:=h.head.cell (i:=7) (v:=.int .u64 (s.t:Int)) rfl
 clear h
 go_enter Try.func36,Try.ntmps36
 go_wp2
 go_ret
 exact ⟨rfl,rfl⟩
theorem lk_Next (p:PL) (s:LS) (W:World) (h:LkAt W p s):
  Calls Try.prog 18 #[.pointer (some ⟨p.b,0,none⟩)] W fun e w'=>e=.returned (.tuple #[.int .u64 (s.j.nextT:Int),.bool s.j.someB])∧Below W.heap.size W w':=by
 have c6:=h.head.cell (i:=6) (v:=.pointer (some ⟨p.jb,0,none⟩)) rfl
 have HN:=Lib.hid (bx_Next p.jb p.jr p.jg s.j W h.j)
 clear h
 go_enter Try.func18,Try.ntmps18
 go_wp2_with fail
 refine HN.out.mono ?_
 rintro e w1 ⟨rfl,hb⟩
 have HB:=Lib.hid hb
 clear hb
 go_wp2_with fail
 go_ret2
 exact ⟨rfl,HB.out⟩
theorem lk_Tokens (p:PL) (s:LS) (W:World) (h:LkAt W p s):
  Calls Try.prog 35 #[.pointer (some ⟨p.b,0,none⟩)] W fun e w'=>e=.returned (.tuple #[.int .u64 (s.k.n:Int),.int .u64 (s.k.w:Int)])∧Drawn W w':=by
 have c4:=h.head.cell (i:=4) (v:=.pointer (some ⟨p.kb,0,none⟩)) rfl
 have HN:Hid (∀n,Calls Try.prog 62 #[.pointer (some ⟨p.kb,0,none⟩)] (W.drewN n) fun e w'=>e=.returned (.int .u64 (s.k.n:Int))∧w'=W.drewN n):=Lib.hid (fun n=>(bk_Tokens p.kb s.k (W.drewN n) h.k).mono fun e w' q=>⟨q.1,q.2.symm⟩)
 have HW:Hid (∀n,Calls Try.prog 63 #[.pointer (some ⟨p.kb,0,none⟩)] (W.drewN n) fun e w'=>e=.returned (.int .u64 (s.k.w:Int))∧w'=W.drewN n):=Lib.hid (fun n=>(bk_Wasted p.kb s.k (W.drewN n) h.k).mono fun e w' q=>⟨q.1,q.2.symm⟩)
 clear h
 go_enter Try.func35,Try.ntmps35
 go_wp2_with fail
 go_quiet (first | (go_at_call 62;exact Calls.quiet_of_same (HN.out _)) | (go_at_call 63;exact Calls.quiet_of_same (HW.out _)))
 go_wp2_with fail
 go_ret2
 exact ⟨rfl,nq,rfl⟩
structure CtI (W:World) (p:PL) (s:LS) (z:Nat) (w:World):Prop where
 at_:LkAt w p s
 box:∃cs,cs.size=6∧Blk w z 69 cs
 bel:Below W.heap.size W w
 lo:W.heap.size≤z
theorem CtI.to {W w w':World} {p:PL} {s:LS} {z:Nat} (h:CtI W p s z w) (k:Below w.heap.size w w'):CtI W p s z w':=⟨h.at_.keep k,by obtain ⟨cs,h1,h2⟩:=h.box;exact ⟨cs,h1,h2.keep k⟩,bel_to h.bel k h.bel.size,h.lo⟩
theorem ct_row {w:World} {g:Nat} {T:TypeId} {old:Array Value} (h:Blk w g T old) (cs:Array Value):Blk (w.setRow g cs) g T cs:=setRow_heap w g old cs T (0,0) h
theorem CtI.row {W w:World} {p:PL} {s:LS} {z:Nat} (h:CtI W p s z w) (cs:Array Value) (hs:cs.size=6):CtI W p s z (w.setRow z cs)∧Blk (w.setRow z cs) z 69 cs:=by
 obtain ⟨ds,h1,h2⟩:=h.box
 have f:Fr w (w.setRow z cs) [z]:=⟨rfl,rfl,rfl,by simp [World.setRow],fun k hk hl=>setRow_other w z k cs (by simpa using hl)⟩
 have lz:=h.lo
 have ls:∀x∈p.l,x ∉ [z]:=by
  have hh:=h.at_
  have a1:=hh.head
  have a2:=hh.k
  have a3:=hh.q.head
  obtain ⟨_,a4⟩:=hh.q.row.head
  obtain ⟨_,a5⟩:=hh.q.row.body
  have a6:=hh.j.head
  obtain ⟨_,a7⟩:=hh.j.row.head
  obtain ⟨_,a8⟩:=hh.j.row.body
  intro x hx
  simp only [PL.l,List.mem_cons,List.not_mem_nil,or_false] at hx
  rcases hx with rfl | rfl | rfl | rfl | rfl | rfl | rfl | rfl
  ·exact nm1 (a1.ty h2 (by decide))
  ·exact nm1 (a2.ty h2 (by decide))
  ·exact nm1 (a3.ty h2 (by decide))
  ·exact nm1 (a4.ty h2 (by decide))
  ·exact nm1 (a5.ty h2 (by decide))
  ·exact nm1 (a6.ty h2 (by decide))
  ·exact nm1 (a7.ty h2 (by decide))
  ·exact nm1 (a8.ty h2 (by decide))
 exact ⟨⟨h.at_.fr f ls,⟨cs,hs,ct_row h2 cs⟩,bel_fr h.bel f h.bel.size (fun x hx=>by simp at hx;omega),h.lo⟩,ct_row h2 cs⟩
theorem ct_r {W:World} {p:PL} {s:LS} {z:Nat}:(∀w,Hid (CtI W p s z w)→w.cell? ⟨p.b,5,none⟩=some (.pointer (some ⟨p.qb,0,none⟩)))∧(∀w,Hid (CtI W p s z w)→w.cell? ⟨p.b,8,none⟩=some (.int .u64 (LS.hi s.came:Int)))∧(∀w,Hid (CtI W p s z w)→w.cell? ⟨p.b,9,none⟩=some (.int .u64 (LS.lo s.came:Int)))∧(∀w,Hid (CtI W p s z w)→w.cell? ⟨p.b,10,none⟩=some (.int .u64 (LS.hi s.served:Int)))∧(∀w,Hid (CtI W p s z w)→w.cell? ⟨p.b,11,none⟩=some (.int .u64 (LS.lo s.served:Int)))∧(∀w,Hid (CtI W p s z w)→w.cell? ⟨p.b,12,none⟩=some (.int .u64 (LS.hi s.deliv:Int)))∧(∀w,Hid (CtI W p s z w)→w.cell? ⟨p.b,13,none⟩=some (.int .u64 (LS.lo s.deliv:Int))):=
 ⟨fun w h=>h.out.at_.head.cell rfl,fun w h=>h.out.at_.head.cell rfl,fun w h=>h.out.at_.head.cell rfl,fun w h=>h.out.at_.head.cell rfl,fun w h=>h.out.at_.head.cell rfl,fun w h=>h.out.at_.head.cell rfl,fun w h=>h.out.at_.head.cell rfl⟩
def LS.countV (s:LS):Value:=.agg #[.int .u64 (LS.told s.came:Int),.int .u64 (s.q.lost:Int),.int .u64 (s.q.n:Int),.int .u64 (LS.told s.served:Int),.int .u64 (LS.told (s.served - s.deliv):Int),.int .u64 (LS.told s.deliv:Int)]
set_option maxRecDepth 100000 in
set_option maxHeartbeats 2000000 in
theorem lk_Count (p:PL) (s:LS) (W:World) (N:Nat) (h:LkAt W p s) (ho:s.ok N) (hN:N≤5000):
  Calls Try.prog 19 #[.pointer (some ⟨p.b,0,none⟩)] W fun e w'=>e=.returned s.countV∧Below W.heap.size W w':=by
 have K0:Hid (LkAt (W.alloc (.cells #[.int .u64 0,.int .u64 0,.int .u64 0,.int .u64 0,.int .u64 0,.int .u64 0] 69)) p s):=Lib.hid (h.keep (al_be _ _))
 have B0:=Lib.hid (Blk.new W 69 #[.int .u64 0,.int .u64 0,.int .u64 0,.int .u64 0,.int .u64 0,.int .u64 0])
 have W0:=Lib.hid (al_be W (.cells #[.int .u64 0,.int .u64 0,.int .u64 0,.int .u64 0,.int .u64 0,.int .u64 0] 69))
 have HD:=Lib.hid (fun w (k:LkAt w p s)=>wq_Dropped p.qb p.qr p.qg s.q w k.q)
 have HB:=Lib.hid (fun w (k:LkAt w p s)=>(wq_room p.qb p.qr p.qg s.q w k.q))
 have HT:=Lib.hid lk_told
 have h1:=ho.c1
 have h2:=ho.c2
 have h3:=ho.came
 have HL:=Lib.hid (fun w=>lk_less s.served s.deliv w (by omega) (by omega))
 have hc:=K0.out.head.cell (i:=5) (v:=.pointer (some ⟨p.qb,0,none⟩)) rfl
 clear h ho hN h1 h2 h3
 unfold LS.countV
 go_enter Try.func19,Try.ntmps19
 go_wp2_with fail
 refine (HD.out _ K0.out).mono ?_
 rintro e w1 ⟨rfl,hd⟩
 have K1:=Lib.hid (K0.out.keep (hd.below _))
 have B1:=Lib.hid (hd.blk B0.out)
 have W1:=Lib.hid (W0.out.trans (hd.below _))
 have M0:Hid (CtI W p s W.heap.size w1.drew):=Lib.hid ((CtI.mk K1.out ⟨_,rfl,B1.out⟩ W1.out (Nat.le_refl _)).to ((Drawn.drew _).below _))
 clear hd hc K0 B0 W0 HD K1 B1 W1
 obtain ⟨r5,r8,r9,r10,r11,r12,r13⟩:=ct_r (W:=W) (p:=p) (s:=s) (z:=W.heap.size)
 go_wp2_with fail
 refine wp_region_held_drew (S:=(fun w'=>Hid (CtI W p s W.heap.size w'))) (by kernel_rfl) M0 (fun hHeld=>?_)
 simp only [List.size_toArray,List.length_cons,List.length_nil,Nat.reduceAdd,Array.replicate_succ,Array.replicate_zero,List.push_toArray,List.nil_append,List.cons_append]
 refine wpAnyH_take (i:=0) (oi:=⟨some 16,_,_,_,_,_⟩) (v:=?v1) rfl (by kernel_rfl) (by kernel_rfl) (by kernel_rfl) (fun _ _ _ h=>h) (Or.inl ⟨by rfl,?y1⟩) (by assumption) ?r1
 case y1=>intro w hSw;clear hSw;go_simp;(try with_reducible rfl)
 simp only [Act.put,List.setIfInBounds_toArray,List.set_cons_zero,List.set_cons_succ]
 refine wpAnyH_take (i:=1) (oi:=⟨some 17,_,_,_,_,_⟩) (v:=?v2) rfl (by kernel_rfl) (by kernel_rfl) (by kernel_rfl) (fun _ _ _ h=>h) (Or.inl ⟨by rfl,?y2⟩) (by assumption) ?r2
 case y2=>intro w hSw;clear hSw;go_simp;(try with_reducible rfl)
 simp only [Act.put,List.setIfInBounds_toArray,List.set_cons_zero,List.set_cons_succ]
 refine wpAnyH_take (i:=2) (oi:=⟨some 18,_,_,_,_,_⟩) (v:=?v3) rfl (by kernel_rfl) (by kernel_rfl) (by kernel_rfl) (fun _ _ _ h=>h) (Or.inl ⟨by rfl,?y3⟩) (by assumption) ?r3
 case y3=>intro w hSw;clear hSw;go_simp;(try with_reducible rfl)
 simp only [Act.put,List.setIfInBounds_toArray,List.set_cons_zero,List.set_cons_succ]
 refine wpAnyH_take (i:=3) (oi:=⟨some 19,_,_,_,_,_⟩) (v:=?v4) rfl (by kernel_rfl) (by kernel_rfl) (by kernel_rfl) (fun _ _ _ h=>h) (Or.inl ⟨by rfl,?y4⟩) (by assumption) ?r4
 case y4=>intro w hSw;skip;go_simp;(try with_reducible rfl)
 simp only [Act.put,List.setIfInBounds_toArray,List.set_cons_zero,List.set_cons_succ]
 refine wpAnyH_take (i:=5) (oi:=⟨some 21,_,_,_,_,_⟩) (v:=?v5) rfl (by kernel_rfl) (by kernel_rfl) (by kernel_rfl) (fun _ _ _ h=>h) (Or.inl ⟨by rfl,?y5⟩) (by assumption) ?r5
 case y5=>intro w hSw;clear hSw;go_simp;(try with_reducible rfl)
 simp only [Act.put,List.setIfInBounds_toArray,List.set_cons_zero,List.set_cons_succ]
 refine wpAnyH_take (i:=6) (oi:=⟨some 22,_,_,_,_,_⟩) (v:=?v6) rfl (by kernel_rfl) (by kernel_rfl) (by kernel_rfl) (fun _ _ _ h=>h) (Or.inl ⟨by rfl,?y6⟩) (by assumption) ?r6
 case y6=>intro w hSw;clear hSw;go_simp;(try with_reducible rfl)
 simp only [Act.put,List.setIfInBounds_toArray,List.set_cons_zero,List.set_cons_succ]
 refine wpAnyH_take (i:=7) (oi:=⟨some 23,_,_,_,_,_⟩) (v:=?v7) rfl (by kernel_rfl) (by kernel_rfl) (by kernel_rfl) (fun _ _ _ h=>h) (Or.inl ⟨by rfl,?y7⟩) (by assumption) ?r7
 case y7=>intro w hSw;clear hSw;go_simp;(try with_reducible rfl)
 simp only [Act.put,List.setIfInBounds_toArray,List.set_cons_zero,List.set_cons_succ]
 refine wpAnyH_take (i:=8) (oi:=⟨some 24,_,_,_,_,_⟩) (v:=?v8) rfl (by kernel_rfl) (by kernel_rfl) (by kernel_rfl) (fun _ _ _ h=>h) (Or.inl ⟨by rfl,?y8⟩) (by assumption) ?r8
 case y8=>intro w hSw;clear hSw;go_simp;(try with_reducible rfl)
 simp only [Act.put,List.setIfInBounds_toArray,List.set_cons_zero,List.set_cons_succ]
 refine wpAnyH_take (i:=9) (oi:=⟨some 25,_,_,_,_,_⟩) (v:=?v9) rfl (by kernel_rfl) (by kernel_rfl) (by kernel_rfl) (fun _ _ _ h=>h) (Or.inl ⟨by rfl,?y9⟩) (by assumption) ?r9
 case y9=>intro w hSw;skip;go_simp;(try with_reducible rfl)
 simp only [Act.put,List.setIfInBounds_toArray,List.set_cons_zero,List.set_cons_succ]
 refine wpAnyH_take (i:=11) (oi:=⟨some 27,_,_,_,_,_⟩) (v:=?v10) rfl (by kernel_rfl) (by kernel_rfl) (by kernel_rfl) (fun _ _ _ h=>h) (Or.inl ⟨by rfl,?y10⟩) (by assumption) ?r10
 case y10=>intro w hSw;clear hSw;go_simp;(try with_reducible rfl)
 simp only [Act.put,List.setIfInBounds_toArray,List.set_cons_zero,List.set_cons_succ]
 refine wpAnyH_take (i:=12) (oi:=⟨some 28,_,_,_,_,_⟩) (v:=?v11) rfl (by kernel_rfl) (by kernel_rfl) (by kernel_rfl) (fun _ _ _ h=>h) (Or.inl ⟨by rfl,?y11⟩) (by assumption) ?r11
 case y11=>intro w hSw;clear hSw;go_simp;(try with_reducible rfl)
 simp only [Act.put,List.setIfInBounds_toArray,List.set_cons_zero,List.set_cons_succ]
 refine wpAnyH_take (i:=13) (oi:=⟨some 29,_,_,_,_,_⟩) (v:=?v12) rfl (by kernel_rfl) (by kernel_rfl) (by kernel_rfl) (fun _ _ _ h=>h) (Or.inl ⟨by rfl,?y12⟩) (by assumption) ?r12
 case y12=>intro w hSw;clear hSw;go_simp;(try with_reducible rfl)
 simp only [Act.put,List.setIfInBounds_toArray,List.set_cons_zero,List.set_cons_succ]
 refine wpAnyH_take (i:=14) (oi:=⟨some 30,_,_,_,_,_⟩) (v:=?v13) rfl (by kernel_rfl) (by kernel_rfl) (by kernel_rfl) (fun _ _ _ h=>h) (Or.inl ⟨by rfl,?y13⟩) (by assumption) ?r13
 case y13=>intro w hSw;skip;go_simp;(try with_reducible rfl)
 simp only [Act.put,List.setIfInBounds_toArray,List.set_cons_zero,List.set_cons_succ]
 refine wpAnyH_take (i:=16) (oi:=⟨some 32,_,_,_,_,_⟩) (v:=?v14) rfl (by kernel_rfl) (by kernel_rfl) (by kernel_rfl) (fun _ _ _ h=>h) (Or.inl ⟨by rfl,?y14⟩) (by assumption) ?r14
 case y14=>intro w hSw;clear hSw;go_simp;(try with_reducible rfl)
 simp only [Act.put,List.setIfInBounds_toArray,List.set_cons_zero,List.set_cons_succ]
 refine wpAnyH_take (i:=17) (oi:=⟨some 33,_,_,_,_,_⟩) (v:=?v15) rfl (by kernel_rfl) (by kernel_rfl) (by kernel_rfl) (fun _ _ _ h=>h) (Or.inl ⟨by rfl,?y15⟩) (by assumption) ?r15
 case y15=>intro w hSw;clear hSw;go_simp;(try with_reducible rfl)
 simp only [Act.put,List.setIfInBounds_toArray,List.set_cons_zero,List.set_cons_succ]
 refine wpAnyH_take (i:=18) (oi:=⟨some 34,_,_,_,_,_⟩) (v:=?v16) rfl (by kernel_rfl) (by kernel_rfl) (by kernel_rfl) (fun _ _ _ h=>h) (Or.inl ⟨by rfl,?y16⟩) (by assumption) ?r16
 case y16=>intro w hSw;clear hSw;go_simp;(try with_reducible rfl)
 simp only [Act.put,List.setIfInBounds_toArray,List.set_cons_zero,List.set_cons_succ]
 refine wpAnyH_take (i:=19) (oi:=⟨some 35,_,_,_,_,_⟩) (v:=?v17) rfl (by kernel_rfl) (by kernel_rfl) (by kernel_rfl) (fun _ _ _ h=>h) (Or.inl ⟨by rfl,?y17⟩) (by assumption) ?r17
 case y17=>intro w hSw;skip;go_simp;(try with_reducible rfl)
 simp only [Act.put,List.setIfInBounds_toArray,List.set_cons_zero,List.set_cons_succ]
 refine wpAnyH_take (i:=20) (oi:=⟨some 36,_,_,_,_,_⟩) (v:=?v18) rfl (by kernel_rfl) (by kernel_rfl) (by kernel_rfl) (fun _ _ _ h=>h) (Or.inl ⟨by rfl,?y18⟩) (by assumption) ?r18
 case y18=>intro w hSw;clear hSw;go_simp;(try with_reducible rfl)
 simp only [Act.put,List.setIfInBounds_toArray,List.set_cons_zero,List.set_cons_succ]
 refine wpAnyH_take (i:=21) (oi:=⟨some 37,_,_,_,_,_⟩) (v:=?v19) rfl (by kernel_rfl) (by kernel_rfl) (by kernel_rfl) (fun _ _ _ h=>h) (Or.inl ⟨by rfl,?y19⟩) (by assumption) ?r19
 case y19=>intro w hSw;clear hSw;go_simp;(try with_reducible rfl)
 simp only [Act.put,List.setIfInBounds_toArray,List.set_cons_zero,List.set_cons_succ]
 refine wpAnyH_take (i:=22) (oi:=⟨some 38,_,_,_,_,_⟩) (v:=?v20) rfl (by kernel_rfl) (by kernel_rfl) (by kernel_rfl) (fun _ _ _ h=>h) (Or.inl ⟨by rfl,?y20⟩) (by assumption) ?r20
 case y20=>intro w hSw;clear hSw;go_simp;(try with_reducible rfl)
 simp only [Act.put,List.setIfInBounds_toArray,List.set_cons_zero,List.set_cons_succ]
 refine wpAnyH_take (i:=23) (oi:=⟨some 39,_,_,_,_,_⟩) (v:=?v21) rfl (by kernel_rfl) (by kernel_rfl) (by kernel_rfl) (fun _ _ _ h=>h) (Or.inl ⟨by rfl,?y21⟩) (by assumption) ?r21
 case y21=>intro w hSw;skip;go_simp;(try with_reducible rfl)
 simp only [Act.put,List.setIfInBounds_toArray,List.set_cons_zero,List.set_cons_succ]
 refine wpAnyH_take (i:=26) (oi:=⟨some 42,_,_,_,_,_⟩) (v:=?v22) rfl (by kernel_rfl) (by kernel_rfl) (by kernel_rfl) (fun _ _ _ h=>h) (Or.inl ⟨by rfl,?y22⟩) (by assumption) ?r22
 case y22=>intro w hSw;clear hSw;go_simp;(try with_reducible rfl)
 simp only [Act.put,List.setIfInBounds_toArray,List.set_cons_zero,List.set_cons_succ]
 refine wpAnyH_take (i:=27) (oi:=⟨some 43,_,_,_,_,_⟩) (v:=?v23) rfl (by kernel_rfl) (by kernel_rfl) (by kernel_rfl) (fun _ _ _ h=>h) (Or.inl ⟨by rfl,?y23⟩) (by assumption) ?r23
 case y23=>intro w hSw;clear hSw;go_simp;(try with_reducible rfl)
 simp only [Act.put,List.setIfInBounds_toArray,List.set_cons_zero,List.set_cons_succ]
 refine wpAnyH_take (i:=28) (oi:=⟨some 44,_,_,_,_,_⟩) (v:=?v24) rfl (by kernel_rfl) (by kernel_rfl) (by kernel_rfl) (fun _ _ _ h=>h) (Or.inl ⟨by rfl,?y24⟩) (by assumption) ?r24
 case y24=>intro w hSw;clear hSw;go_simp;(try with_reducible rfl)
 simp only [Act.put,List.setIfInBounds_toArray,List.set_cons_zero,List.set_cons_succ]
 refine wpAnyH_take (i:=29) (oi:=⟨some 45,_,_,_,_,_⟩) (v:=?v25) rfl (by kernel_rfl) (by kernel_rfl) (by kernel_rfl) (fun _ _ _ h=>h) (Or.inl ⟨by rfl,?y25⟩) (by assumption) ?r25
 case y25=>intro w hSw;skip;go_simp;(try with_reducible rfl)
 simp only [Act.put,List.setIfInBounds_toArray,List.set_cons_zero,List.set_cons_succ]
 refine wpAnyH_ready (rs:=[4]) (by kernel_rfl) (by simp) ?_
 refine AllReadyH.cons (o:=⟨some 20,_,_,_,_,_⟩) rfl (fun K hK=>?_) AllReadyH.nil
 go_simp
 refine (HT.out _ _).mono ?_
 rintro e w' ⟨rfl,hb⟩
 have M2:=Lib.hid ((Hid.out (by assumption):CtI W p s W.heap.size _).to hb)
 clear hb
 go_wp2_with fail
 refine hK.out _ _ M2 (fun hHeld=>?_)
 clear hK
 try simp only [List.setIfInBounds_toArray,List.set_cons_zero,List.set_cons_succ]
 refine wpAnyH_ready (rs:=[10]) (by kernel_rfl) (by simp) ?_
 refine AllReadyH.cons (o:=⟨some 26,_,_,_,_,_⟩) rfl (fun K hK=>?_) AllReadyH.nil
 go_simp
 refine (HB.out _ (Hid.out (by assumption):CtI W p s W.heap.size _).at_).mono ?_
 rintro e w' ⟨rfl,rfl⟩
 go_wp2_with fail
 refine hK.out _ _ hHeld (fun hHeld=>?_)
 clear hK
 try simp only [List.setIfInBounds_toArray,List.set_cons_zero,List.set_cons_succ]
 refine wpAnyH_ready (rs:=[15]) (by kernel_rfl) (by simp) ?_
 refine AllReadyH.cons (o:=⟨some 31,_,_,_,_,_⟩) rfl (fun K hK=>?_) AllReadyH.nil
 go_simp
 refine (HT.out _ _).mono ?_
 rintro e w' ⟨rfl,hb⟩
 have M2:=Lib.hid ((Hid.out (by assumption):CtI W p s W.heap.size _).to hb)
 clear hb
 go_wp2_with fail
 refine hK.out _ _ M2 (fun hHeld=>?_)
 clear hK
 try simp only [List.setIfInBounds_toArray,List.set_cons_zero,List.set_cons_succ]
 refine wpAnyH_ready (rs:=[24]) (by kernel_rfl) (by simp) ?_
 refine AllReadyH.cons (o:=⟨some 40,_,_,_,_,_⟩) rfl (fun K hK=>?_) AllReadyH.nil
 go_simp
 refine (HL.out _).mono ?_
 rintro e w' ⟨rfl,hb⟩
 have M2:=Lib.hid ((Hid.out (by assumption):CtI W p s W.heap.size _).to hb)
 clear hb
 go_wp2_with fail
 refine hK.out _ _ M2 (fun hHeld=>?_)
 clear hK
 try simp only [List.setIfInBounds_toArray,List.set_cons_zero,List.set_cons_succ]
 refine wpAnyH_ready (rs:=[25]) (by kernel_rfl) (by simp) ?_
 refine AllReadyH.cons (o:=⟨some 41,_,_,_,_,_⟩) rfl (fun K hK=>?_) AllReadyH.nil
 go_simp
 refine (HT.out _ _).mono ?_
 rintro e w' ⟨rfl,hb⟩
 have M2:=Lib.hid ((Hid.out (by assumption):CtI W p s W.heap.size _).to hb)
 clear hb
 go_wp2_with fail
 refine hK.out _ _ M2 (fun hHeld=>?_)
 clear hK
 try simp only [List.setIfInBounds_toArray,List.set_cons_zero,List.set_cons_succ]
 refine wpAnyH_ready (rs:=[30]) (by kernel_rfl) (by simp) ?_
 refine AllReadyH.cons (o:=⟨some 46,_,_,_,_,_⟩) rfl (fun K hK=>?_) AllReadyH.nil
 go_simp
 refine (HT.out _ _).mono ?_
 rintro e w' ⟨rfl,hb⟩
 have M2:=Lib.hid ((Hid.out (by assumption):CtI W p s W.heap.size _).to hb)
 clear hb
 go_wp2_with fail
 refine hK.out _ _ M2 (fun hHeld=>?_)
 clear hK
 try simp only [List.setIfInBounds_toArray,List.set_cons_zero,List.set_cons_succ]
 refine wpAnyH_take (i:=31) (oi:=⟨some 47,_,_,_,_,_⟩) (v:=?v26) rfl (by kernel_rfl) (by kernel_rfl) (by kernel_rfl) (fun _ _ _ h=>h) (Or.inl ⟨by rfl,?y26⟩) (by assumption) ?r26
 case y26=>intro w hSw;clear hSw;go_simp;(try with_reducible rfl)
 simp only [Act.put,List.setIfInBounds_toArray,List.set_cons_zero,List.set_cons_succ]
 refine wpAnyH_ready (rs:=[32]) (by kernel_rfl) (by simp) ?_
 refine AllReadyH.cons (o:=⟨none,_,_,_,_,_⟩) rfl (fun K hK=>?_) AllReadyH.nil
 have KE:=hHeld
 obtain ⟨cs,hsz,hre⟩:=hHeld.out.box
 rw [if_pos (by rfl)]
 refine wp_store_row _ _ _ rfl W.heap.size #[.int .u64 (LS.told s.came:Int),.int .u64 (s.q.lost:Int),.int .u64 (s.q.n:Int),.int .u64 (LS.told s.served:Int),.int .u64 (LS.told (s.served - s.deliv):Int),.int .u64 (LS.told s.deliv:Int)] rfl rfl _ cs hre (by kernel_rfl) hsz (by simp [Value.oneCell']) ?_
 have R1:=Lib.hid (KE.out.row #[.int .u64 (LS.told s.came:Int),.int .u64 (s.q.lost:Int),.int .u64 (s.q.n:Int),.int .u64 (LS.told s.served:Int),.int .u64 (LS.told (s.served - s.deliv):Int),.int .u64 (LS.told s.deliv:Int)] rfl)
 clear KE hre hsz
 refine hK.out _ _ (Lib.hid R1.out.1) (fun hHeld=>?_)
 clear hK
 try simp only [List.setIfInBounds_toArray,List.set_cons_zero,List.set_cons_succ]
 refine wpAnyH_done (by kernel_rfl) ?_ _
 clear hHeld
 go_wp2_with fail
 exact bodyPost_ret (results_cell rfl _ _ _ 69 _ _ rfl R1.out.2 Try.underlying69 rfl (by kernel_rfl)) rfl ⟨rfl,R1.out.1.bel⟩
end Go.Proofs.Ytaffjfajjpgjpaa
