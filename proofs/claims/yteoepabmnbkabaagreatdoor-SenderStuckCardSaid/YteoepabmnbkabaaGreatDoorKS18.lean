/- 14 texts put together: what each one says stands ahead of it. -/
import Derived.Test.YteoepabmnbkabaaGreatDoorKS06
import Derived.Test.YteoepabmnbkabaaGreatDoorProg
import Derived.Deep.QuietTactic
import Derived.BigQuiet
import Derived.StillTailTactics
import Derived.Deep.RegionHeld3
import Derived.Deep.LoopGhost
import Derived.Lib.Hide
import Derived.Laws.CopyOwn
set_option linter.unusedVariables false
namespace Go.Proofs.YteoepabmnbkabaaGreatDoor
open Go.RowKit
structure Rd where
 t:Nat
 x:Nat
instance:Itm Rd:=⟨⟨0,0⟩,2,fun r=>[.int .u64 (r.t:Int),.int .u64 (r.x:Int)],by decide,fun _=>rfl,fun r v h=>by simp only [List.mem_cons,List.not_mem_nil,or_false] at h;rcases h with rfl | rfl <;> rfl⟩
def Rd.agg (r:Rd):Value:=.agg #[.int .u64 (r.t:Int),.int .u64 (r.x:Int)]
def rdCells (s:QS Rd) (g:Nat):Array Value:=#[.slice (some ⟨g,0,none⟩) s.pl.length s.pl.length,.int .i64 (s.first:Int),.int .i64 (s.cnt:Int)]
structure RdAt (w:World) (b g:Nat) (s:QS Rd):Prop where
 head:Blk w b 283 (rdCells s g)
 body:Blk w g 208 (icells s.pl)
theorem RdAt.below {w w':World} {b g B:Nat} {s:QS Rd} (h:RdAt w b g s) (k:Below B w w') (hb:b < B) (hg:g < B):RdAt w' b g s:=⟨h.head.below k hb,h.body.below k hg⟩
theorem RdAt.keep {w w':World} {b g:Nat} {s:QS Rd} (h:RdAt w b g s) (k:Below w.heap.size w w'):RdAt w' b g s:=⟨h.head.keep k,h.body.keep k⟩
theorem RdAt.alloc {w:World} {b g:Nat} {s:QS Rd} (h:RdAt w b g s) (o:Obj):RdAt (w.alloc o) b g s:=⟨h.head.alloc o,h.body.alloc o⟩
theorem RdAt.drawn {a b:World} (h:Drawn a b) {x g:Nat} {s:QS Rd} (k:RdAt a x g s):RdAt b x g s:=⟨h.blk k.head,h.blk k.body⟩
theorem RdAt.ne {w:World} {b g:Nat} {s:QS Rd} (h:RdAt w b g s):b≠g:=h.head.ty h.body (by decide)
theorem RdAt.mv {w w':World} {b g c d:Nat} {s:QS Rd} (h:RdAt w b g s) (k:Mv w w' c d) (h1:b≠c) (h2:b≠d) (h3:g≠c) (h4:g≠d):RdAt w' b g s:=⟨h.head.mv k h1 h2,h.body.mv k h3 h4⟩
structure RdPost (w:World) (b g:Nat) (v:Ending) (s:QS Rd) (e:Ending) (w':World):Prop where
 e:e=v
 at_:∃g',RdAt w' b g' s∧(g'=g∨w.heap.size≤g')
 mv:Mv w w' b g
structure RdEPost (w:World) (b g:Nat) (s:QS Rd) (e:Ending) (w':World):Prop where
 e:e=.returned (.tuple #[])
 at_:RdAt w' b g s
 mv:Mv w w' b g
theorem rd_info:(Tryz.prog.info? 208).map (fun i=>(i.zero,i.size,i.bytes))=some (some (.agg #[.int .u64 0,.int .u64 0]),2,16):=by kernel_rfl
theorem rd_mk (n:Nat) (hn:n≤100000) (w:World):(Instr.makeSlice 281 (.int .i64 (n:Int)) (.int .i64 (n:Int))).run Tryz.prog w=.ok (.slice (some ⟨w.heap.size,0,none⟩) n n) (w.alloc (.cells (icells (List.replicate n (Itm.z (α:=Rd)))) 208)):=by
 obtain ⟨i0,hi,hz0,hz1,hz2⟩:=info_parts rd_info
 have:=run_make (P:=Tryz.prog) w 281 208 i0 _ Tryz.underlying281 hi hz0 .i64 .i64 n n (by omega) (by omega) (by rw [hz2];omega) (by omega)
 rw [this,hz1]
 have e:=madeCells_items (α:=Rd) (Value.agg #[.int .u64 0,.int .u64 0]).cells rfl n
 have k:Itm.k Rd=2:=rfl
 rw [k] at e
 simp only [Int.toNat_natCast,e]
set_option maxHeartbeats 400000 in
theorem rd_place (b g i:Nat) (s:QS Rd) (w:World) (h:RdAt w b g s) (ho:s.ok) (hp:0 < s.pl.length) (hi:i≤100000):
  Calls Tryz.prog 207 #[.pointer (some ⟨b,0,none⟩),.int .i64 (i:Int)] w fun e w'=>e=.returned (.int .i64 ((s.pos i:Nat):Int))∧Drawn w w':=by
 have h0:=h.head.cell (i:=0) (v:=.slice (some ⟨g,0,none⟩) s.pl.length s.pl.length) rfl
 have h1:=h.head.cell (i:=1) (v:=.int .i64 (s.first:Int)) rfl
 have hf:=ho.f
 have hm:=ho.m
 have hn:(s.pl.length == 0)=false:=beq_false_of_ne (by omega)
 have HE:Hid (((s.pos i:Nat):Int)=((s.first:Int) + (i:Int)) % (s.pl.length:Int)):=Lib.hid (by simp [QS.pos])
 generalize s.pos i=p at *
 clear h ho
 generalize s.pl.length=n at *
 generalize s.first=f at *
 go_enter Tryz.func207,Tryz.ntmps207
 go_wp2_with fail
 go_quiet (fail)
 go_wp2_with fail
 go_ret
 exact ⟨by rw [HE.out];rfl,nq,rfl⟩
set_option maxHeartbeats 400000 in
theorem rd_Len (b g:Nat) (s:QS Rd) (w:World) (h:RdAt w b g s):
  Calls Tryz.prog 206 #[.pointer (some ⟨b,0,none⟩)] w fun e w'=>e=.returned (.int .i64 (s.cnt:Int))∧w=w':=by
 have c2:=h.head.cell (i:=2) (v:=.int .i64 (s.cnt:Int)) rfl
 clear h
 go_enter Tryz.func206,Tryz.ntmps206
 go_wp2
 go_ret
 exact ⟨rfl,rfl⟩
end Go.Proofs.YteoepabmnbkabaaGreatDoor

set_option linter.unusedVariables false
namespace Go.Proofs.YteoepabmnbkabaaGreatDoor
open Go.RowKit
set_option maxHeartbeats 400000 in
theorem rd_empty (b g i:Nat) (s:QS Rd) (w:World) (h:RdAt w b g s) (ho:s.ok) (hp:0 < s.pl.length) (hi:i≤100000):
  Calls Tryz.prog 301 #[.pointer (some ⟨b,0,none⟩),.int .i64 (i:Int)] w (RdEPost w b g (s.put i Itm.z)):=by
 have HN:=Lib.hid h.ne
 have HO:=Lib.hid ho
 have HB:=Lib.hid (show Blk (w.alloc (.cells #[.int .u64 0,.int .u64 0] 208)) w.heap.size 208 #[.int .u64 0,.int .u64 0] from Blk.new _ _ _)
 have HH:=Lib.hid (h.alloc (.cells #[.int .u64 0,.int .u64 0] 208))
 have HW:Hid (Mv w (w.alloc (.cells #[.int .u64 0,.int .u64 0] 208)) b g):=Lib.hid ((Mv.refl w b g).alloc _)
 have HZ:Hid (w.heap.size≠g):=Lib.hid (Ne.symm h.body.old)
 have hpl:=QS.pos_lt hp i
 have HP:=Lib.hid (rd_place b g i s)
 have i3:(0:Int)≤((s.pos i:Nat):Int):=by omega
 have i4:((s.pos i:Nat):Int) < (s.pl.length:Int):=by omega
 have HS:Hid ((s.put i Itm.z).pl=s.pl.set (s.pos i) Itm.z):=Lib.hid rfl
 clear h ho
 have a0:=HH.out.head.drew.cell (i:=0) (v:=.slice (some ⟨g,0,none⟩) s.pl.length s.pl.length) rfl
 have r0:=HB.out.drew.cell (i:=0) (v:=.int .u64 0) rfl
 have r1:=HB.out.drew.cell (i:=1) (v:=.int .u64 0) rfl
 generalize s.pos i=p at *
 obtain ⟨y0,hy0⟩:∃v,(icells s.pl)[p * 2]? =some v:=⟨_,Array.getElem?_eq_getElem (by rw [icells_size];show _ < s.pl.length * 2;omega)⟩
 have c0:=HH.out.body.drew.cell hy0
 have f0:=HH.out.body.drew.free (p * 2)
 obtain ⟨y1,hy1⟩:∃v,(icells s.pl)[p * 2 + 1]? =some v:=⟨_,Array.getElem?_eq_getElem (by rw [icells_size];show _ < s.pl.length * 2;omega)⟩
 have c1:=HH.out.body.drew.cell hy1
 have f1:=HH.out.body.drew.free (p * 2 + 1)
 go_enter Tryz.func301,Tryz.ntmps301
 go_wp2_with fail
 generalize (w.alloc (.cells #[.int .u64 0,.int .u64 0] 208))=wa at *
 go_region_held3 (fun w'=>w'.cell? ⟨b,0,none⟩=some (.slice (some ⟨g,0,none⟩) s.pl.length s.pl.length)∧w'.cell? ⟨w.heap.size,0,none⟩=some (.int .u64 0)∧w'.cell? ⟨w.heap.size,1,none⟩=some (.int .u64 0))
  (first | exact ⟨a0,r0,r1⟩ | exact ⟨b0,q0,q1⟩ | exact ⟨(far (far b0 HN.out) HN.out),(far (far q0 HZ.out) HZ.out),(far (far q1 HZ.out) HZ.out)⟩)
  (first | (go_at_call 207;refine (HP.out _ (RdAt.drawn (Drawn.drew wa) HH.out) HO.out hp (by omega)).mono ?_;rintro e w' ⟨rfl,hd⟩;have HD:=Lib.hid hd;clear hd;have b0:=(HD.out.cell _).trans a0;have q0:=(HD.out.cell _).trans r0;have q1:=(HD.out.cell _).trans r1;have d0:=(HD.out.cell _).trans c0;have d1:=(HD.out.cell _).trans c1;have h0:=(HD.out.frozen _).trans f0;have h1:=(HD.out.frozen _).trans f1))
 go_end0
 have hD:Drawn wa w':=(Drawn.drew wa).more HD.out
 have hpl':p < s.pl.length:=hpl
 refine ⟨rfl,⟨?_,?_⟩,Mv.sets (.inr (.inl rfl)) (Itm.cs (Itm.z (α:=Rd))) (p * 2) w' (HW.out.drawn hD)⟩
 ·have:=Blk.sets_other HN.out (Itm.cs (Itm.z (α:=Rd))) (p * 2) w' (hD.blk HH.out.head)
  have e:rdCells (s.put i Itm.z) g=rdCells s g:=by simp [rdCells,QS.put]
  rw [e];exact this
 ·have:=Blk.sets (Itm.cs (Itm.z (α:=Rd))) (p * Itm.k Rd) w' _ (hD.blk HH.out.body)
  rw [putA_item s.pl p Itm.z hpl',← HS.out] at this
  exact this
def RdLayRel (w:World) (s:QS Rd) (n k:Nat) (wr:World):Prop:=
 k≤s.cnt∧Blk wr w.heap.size 208 (icells (s.items.take k ++ List.replicate (n - k) Itm.z))∧Below w.heap.size w wr
structure RdLayPost (w:World) (l:List Rd) (e:Ending) (w':World):Prop where
 e:e=.returned (.slice (some ⟨w.heap.size,0,none⟩) l.length l.length)
 blk:Blk w' w.heap.size 208 (icells l)
 bel:Below w.heap.size w w'
set_option maxHeartbeats 1000000 in
theorem rd_lay (b g n:Nat) (s:QS Rd) (w:World) (h:RdAt w b g s) (ho:s.ok) (hn:s.cnt≤n) (hm:n≤100000):
  Calls Tryz.prog 306 #[.pointer (some ⟨b,0,none⟩),.int .i64 (n:Int)] w (RdLayPost w (s.lay n)):=by
 have HH:=Lib.hid h
 have HO:=Lib.hid ho
 have hbl:=h.head.lt
 have hgl:=h.body.lt
 have hmk:=rd_mk n hm
 have h2:=(h.head.alloc (.cells (icells (List.replicate n (Itm.z (α:=Rd)))) 208)).cell (i:=2) (v:=.int .i64 (s.cnt:Int)) rfl
 clear h ho
 go_enter Tryz.func306,Tryz.ntmps306
 go_wp2_with fail
 go_loopw [13] (fun i wr=>∃k:Nat,i=.int .i64 (k:Int)∧RdLayRel w s n k wr) (fun i _=>s.cnt - (intOf i).toNat)
 case atStart=>
  exact ⟨0,rfl,Nat.zero_le _,by simpa using Blk.new _ _ _,(Below.refl _ _).alloc (Nat.le_refl _) _⟩
 case round=>
  obtain ⟨k,rfl,hk,hb1,hbel⟩:=hrel
  have HB:=Lib.hid hb1
  have HW:=Lib.hid hbel
  have HR:=Lib.hid (HH.out.below hbel hbl hgl)
  clear hb1 hbel h2 hmk
  by_cases hlt:k < s.cnt
  ·have hp:0 < s.pl.length:=by have:=HO.out.c;omega
   have hpl:=QS.pos_lt hp k
   have a0:=HR.out.head.drew.cell (i:=0) (v:=.slice (some ⟨g,0,none⟩) s.pl.length s.pl.length) rfl
   have x0:=HR.out.body.drew.cell (i:=s.pos k * 2) (v:=.int .u64 ((s.get k).t:Int)) (icells_at (α:=Rd) 0 hpl (by decide))
   have x1:=HR.out.body.drew.cell (i:=s.pos k * 2 + 1) (v:=.int .u64 ((s.get k).x:Int)) (icells_at (α:=Rd) 1 hpl (by decide))
   have HP:=Lib.hid (rd_place b g k s)
   have hlen:(s.items.take k ++ List.replicate (n - k) Itm.z).length=n:=by simp [QS.len_items];omega
   have HL:=Lib.hid (lay_put hlt hn)
   have i0:(0:Int)≤(k:Int):=by omega
   have i1:(k:Int) < (n:Int):=by omega
   have i2:k < n:=by omega
   have i3:(0:Int)≤((s.pos k:Nat):Int):=by omega
   have i4:((s.pos k:Nat):Int) < (s.pl.length:Int):=by omega
   generalize (s.items.take k ++ List.replicate (n - k) Itm.z)=cur at *
   obtain ⟨y0,hy0⟩:∃v,(icells cur)[k * 2]? =some v:=⟨_,Array.getElem?_eq_getElem (by rw [icells_size];show _ < cur.length * 2;omega)⟩
   have c0:=HB.out.drew.cell hy0
   have f0:=HB.out.drew.free (k * 2)
   obtain ⟨y1,hy1⟩:∃v,(icells cur)[k * 2 + 1]? =some v:=⟨_,Array.getElem?_eq_getElem (by rw [icells_size];show _ < cur.length * 2;omega)⟩
   have c1:=HB.out.drew.cell hy1
   have f1:=HB.out.drew.free (k * 2 + 1)
   generalize s.pos k=p at *
   generalize s.get k=x at *
   go_wp2_with fail
   go_region_held3 (fun w'=>w'.cell? ⟨b,0,none⟩=some (.slice (some ⟨g,0,none⟩) s.pl.length s.pl.length)∧w'.cell? ⟨g,p * 2,none⟩=some (.int .u64 (x.t:Int))∧w'.cell? ⟨g,p * 2 + 1,none⟩=some (.int .u64 (x.x:Int)))
    (first | exact ⟨a0,x0,x1⟩ | exact ⟨b0,q0,q1⟩ | exact ⟨(far (far b0 (by dsimp;omega)) (by dsimp;omega)),(far (far q0 (by dsimp;omega)) (by dsimp;omega)),(far (far q1 (by dsimp;omega)) (by dsimp;omega))⟩)
    (first | (go_at_call 207;refine (HP.out _ (RdAt.drawn (Drawn.drew wr) HR.out) HO.out hp (by omega)).mono ?_;rintro e w' ⟨rfl,hd⟩;have HD:=Lib.hid hd;clear hd;have b0:=(HD.out.cell _).trans a0;have q0:=(HD.out.cell _).trans x0;have q1:=(HD.out.cell _).trans x1;have d0:=(HD.out.cell _).trans c0;have d1:=(HD.out.cell _).trans c1;have h0:=(HD.out.frozen _).trans f0;have h1:=(HD.out.frozen _).trans f1))
   have hD:Drawn wr w':=(Drawn.drew wr).more HD.out
   have F1:Hid (Blk ((w'.setCell ⟨w.heap.size,k * 2,none⟩ (.int .u64 (x.t:Int))).setCell ⟨w.heap.size,k * 2 + 1,none⟩ (.int .u64 (x.x:Int))) w.heap.size 208 (icells (cur.set k x))):=Lib.hid (by
    have:=Blk.sets (Itm.cs x) (k * Itm.k Rd) w' _ (hD.blk HB.out)
    rw [putA_item cur k x (by omega)] at this
    exact this)
   have F2:Hid (Below w.heap.size w ((w'.setCell ⟨w.heap.size,k * 2,none⟩ (.int .u64 (x.t:Int))).setCell ⟨w.heap.size,k * 2 + 1,none⟩ (.int .u64 (x.x:Int)))):=Lib.hid (Below.sets (Nat.le_refl _) (Itm.cs x) (k * 2) w' (HW.out.trans (hD.below _)))
   rw [HL.out] at F1
   generalize ((w'.setCell ⟨w.heap.size,k * 2,none⟩ (.int .u64 (x.t:Int))).setCell ⟨w.heap.size,k * 2 + 1,none⟩ (.int .u64 (x.x:Int)))=w2 at *
   clear a0 b0 x0 q0 c0 d0 f0 h0 hy0 x1 q1 c1 d1 f1 h1 hy1 hD HD HP HL hlen
   go_wp2_with fail
   go_roundw
   case rel=>exact ⟨k + 1,by go_num,by omega,F1.out,F2.out⟩
   case measure=>simp [intOf];omega
  ·obtain rfl:k=s.cnt:=by omega
   have HL:Hid (s.lay n=s.items.take s.cnt ++ List.replicate (n - s.cnt) Itm.z):=Lib.hid (by rw [List.take_of_length_le (by rw [QS.len_items];exact Nat.le_refl _)];rfl)
   have HN:=Lib.hid (QS.len_lay hn)
   go_wp2_with fail
   go_ret
   exact ⟨by rw [HN.out];rfl,by rw [HL.out];exact HB.out,HW.out⟩
set_option maxHeartbeats 400000 in
theorem rd_move (b g n:Nat) (s:QS Rd) (w:World) (h:RdAt w b g s) (ho:s.ok) (hn:s.cnt≤n) (hm:n≤100000):
  Calls Tryz.prog 305 #[.pointer (some ⟨b,0,none⟩),.int .i64 (n:Int)] w (RdPost w b g (.returned (.tuple #[])) (s.move n)):=by
 have HH:=Lib.hid h
 have HN:=Lib.hid h.ne
 have HL:=Lib.hid (rd_lay b g n s w h ho hn hm)
 have HE:=Lib.hid (QS.len_lay hn)
 have hbl:=h.head.lt
 clear h ho
 go_enter Tryz.func305,Tryz.ntmps305
 go_wp2_with fail
 refine (HL.out).mono ?_
 rintro e w1 ⟨rfl,hb,hbel⟩
 have HB:=Lib.hid hb
 have HW:=Lib.hid hbel
 have H1:=Lib.hid (HH.out.head.keep hbel)
 have c0:=H1.out.cell (i:=0) (v:=.slice (some ⟨g,0,none⟩) s.pl.length s.pl.length) rfl
 have c1:=H1.out.cell (i:=1) (v:=.int .i64 (s.first:Int)) rfl
 have f0:=H1.out.free 0
 have f1:=H1.out.free 1
 clear hb hbel
 rw [HE.out]
 go_wp2_with fail
 go_end0
 refine ⟨rfl,⟨w.heap.size,⟨?_,?_⟩,.inr (Nat.le_refl _)⟩,((Mv.of_below HW.out b g).set (.inl rfl) _ _).set (.inl rfl) _ _⟩
 ·have:=(H1.out.set 0 (.slice (some ⟨w.heap.size,0,none⟩) n n)).set 1 (.int .i64 0)
  simpa [rdCells,QS.move,HE.out] using this
 ·exact (HB.out.set_other _ _ (by omega)).set_other _ _ (by omega)
end Go.Proofs.YteoepabmnbkabaaGreatDoor

set_option linter.unusedVariables false
namespace Go.Proofs.YteoepabmnbkabaaGreatDoor
open Go.RowKit
set_option maxHeartbeats 400000 in
theorem rd_narrow (b g:Nat) (s:QS Rd) (w:World) (h:RdAt w b g s) (ho:s.ok):
  Calls Tryz.prog 302 #[.pointer (some ⟨b,0,none⟩)] w (RdPost w b g (.returned (.tuple #[])) s.narrow):=by
 have HH:=Lib.hid h
 have HO:=Lib.hid ho
 have c0:=h.head.cell (i:=0) (v:=.slice (some ⟨g,0,none⟩) s.pl.length s.pl.length) rfl
 have c2:=h.head.cell (i:=2) (v:=.int .i64 (s.cnt:Int)) rfl
 have hm:=ho.m
 have hc:=ho.c
 clear h ho
 by_cases a:0 < s.cnt
 ·by_cases d:s.cnt≤s.pl.length / 4
  ·have HE:Hid (s.narrow=s.move (s.pl.length / 2)):=Lib.hid (if_pos ⟨a,d⟩)
   have d1:decide ((s.cnt:Int)≤(s.pl.length:Int) / 4)=true:=by simp;omega
   go_enter Tryz.func302,Tryz.ntmps302
   go_wp2_with fail
   go_quiet (fail)
   have HD:Hid (Drawn w (w.drewN nq)):=Lib.hid ⟨nq,rfl⟩
   have e0:=(HD.out.cell _).trans c0
   generalize w.drewN nq=w1 at *
   go_wp2_with fail
   have e:((s.pl.length:Int) / 2)=((s.pl.length / 2:Nat):Int):=by omega
   rw [e]
   clear e
   refine (rd_move b g (s.pl.length / 2) s w1 (RdAt.drawn HD.out HH.out) HO.out (by omega) (by omega)).mono ?_
   rintro e w2 ⟨rfl,hat,hmv⟩
   have HA:=Lib.hid hat
   have HM:=Lib.hid hmv
   clear hat hmv
   go_wp2_with fail
   go_end0
   obtain ⟨g',h1,h2⟩:=HA.out
   rw [HE.out]
   exact ⟨rfl,⟨g',h1,by rw [HD.out.heap] at h2;exact h2⟩,((Mv.refl w b g).drawn HD.out).trans HM.out (.inl rfl)⟩
  ·have HE:Hid (s.narrow=s):=Lib.hid (if_neg (fun k=>d k.2))
   have d1:decide ((s.cnt:Int)≤(s.pl.length:Int) / 4)=false:=by simp;omega
   go_enter Tryz.func302,Tryz.ntmps302
   go_wp2_with fail
   go_quiet (fail)
   have HD:Hid (Drawn w (w.drewN nq)):=Lib.hid ⟨nq,rfl⟩
   go_wp2_with fail
   go_end0
   rw [HE.out]
   exact ⟨rfl,⟨g,RdAt.drawn HD.out HH.out,.inl rfl⟩,(Mv.refl w b g).drawn HD.out⟩
 ·have HE:Hid (s.narrow=s):=Lib.hid (if_neg (fun k=>a k.1))
  have d0:decide ((0:Int) < (s.cnt:Int))=false:=by simp;omega
  have d1:decide (0 < s.cnt)=false:=by simp;omega
  go_enter Tryz.func302,Tryz.ntmps302
  go_wp2_with fail
  go_quiet (fail)
  have HD:Hid (Drawn w (w.drewN nq)):=Lib.hid ⟨nq,rfl⟩
  go_wp2_with fail
  go_end0
  rw [HE.out]
  exact ⟨rfl,⟨g,RdAt.drawn HD.out HH.out,.inl rfl⟩,(Mv.refl w b g).drawn HD.out⟩
def rdgot (x:Rd) (ok:Bool):Ending:=.returned (.tuple #[x.agg,.bool ok])
set_option maxHeartbeats 1000000 in
theorem rd_At (b g i:Nat) (s:QS Rd) (w:World) (h:RdAt w b g s) (ho:s.ok) (hi:i < s.cnt):
  Calls Tryz.prog 133 #[.pointer (some ⟨b,0,none⟩),.int .i64 (i:Int)] w fun e w'=>e=rdgot (s.get i) true∧Below w.heap.size w w':=by
 have HO:=Lib.hid ho
 have HB:=Lib.hid (show Blk (w.alloc (.cells #[.int .u64 0,.int .u64 0] 208)) w.heap.size 208 #[.int .u64 0,.int .u64 0] from Blk.new _ _ _)
 have HH:=Lib.hid (h.alloc (.cells #[.int .u64 0,.int .u64 0] 208))
 have HW:Hid (Below w.heap.size w (w.alloc (.cells #[.int .u64 0,.int .u64 0] 208))):=Lib.hid ((Below.refl _ _).alloc (Nat.le_refl _) _)
 have HZ:Hid (g≠w.heap.size):=Lib.hid h.body.old
 have HZ2:Hid (b≠w.heap.size):=Lib.hid h.head.old
 have hp:0 < s.pl.length:=by have:=ho.c;omega
 have hpl:=QS.pos_lt hp i
 have hc:=ho.c
 have hm:=ho.m
 have a0:=HH.out.head.drew.cell (i:=0) (v:=.slice (some ⟨g,0,none⟩) s.pl.length s.pl.length) rfl
 have x0:=HH.out.body.drew.cell (i:=s.pos i * 2) (v:=.int .u64 ((s.get i).t:Int)) (icells_at (α:=Rd) 0 hpl (by decide))
 have x1:=HH.out.body.drew.cell (i:=s.pos i * 2 + 1) (v:=.int .u64 ((s.get i).x:Int)) (icells_at (α:=Rd) 1 hpl (by decide))
 have r0:=HB.out.drew.cell (i:=0) (v:=.int .u64 0) rfl
 have r1:=HB.out.drew.cell (i:=1) (v:=.int .u64 0) rfl
 have f0:=HB.out.free 0
 have f1:=HB.out.free 1
 have HP:=Lib.hid (rd_place b g i s)
 have HL:=Lib.hid (rd_Len b g s (w.alloc (.cells #[.int .u64 0,.int .u64 0] 208)) HH.out)
 have i3:(0:Int)≤((s.pos i:Nat):Int):=by omega
 have i4:((s.pos i:Nat):Int) < (s.pl.length:Int):=by omega
 have d0:decide ((i:Int) < 0)=false:=by simp
 have d1:decide (s.cnt≤i)=false:=by simp;omega
 clear h ho
 generalize s.get i=x at *
 generalize s.pos i=p at *
 go_enter Tryz.func133,Tryz.ntmps133
 go_wp2_with (go_at_call 206;refine (HL.out).mono ?_;rintro e w' ⟨rfl,rfl⟩)
 generalize (w.alloc (.cells #[.int .u64 0,.int .u64 0] 208))=wa at *
 go_region_held3 (fun w'=>w'.cell? ⟨b,0,none⟩=some (.slice (some ⟨g,0,none⟩) s.pl.length s.pl.length)∧w'.cell? ⟨g,p * 2,none⟩=some (.int .u64 (x.t:Int))∧w'.cell? ⟨g,p * 2 + 1,none⟩=some (.int .u64 (x.x:Int)))
  (first | exact ⟨a0,x0,x1⟩ | exact ⟨b0,q0,q1⟩ | exact ⟨(far (far b0 HZ2.out) HZ2.out),(far (far q0 HZ.out) HZ.out),(far (far q1 HZ.out) HZ.out)⟩)
  (first | (go_at_call 207;refine (HP.out _ (RdAt.drawn (Drawn.drew wa) HH.out) HO.out hp (by omega)).mono ?_;rintro e w' ⟨rfl,hd⟩;have HD:=Lib.hid hd;clear hd;have b0:=(HD.out.cell _).trans a0;have q0:=(HD.out.cell _).trans x0;have q1:=(HD.out.cell _).trans x1;have t0:=(HD.out.cell _).trans r0;have t1:=(HD.out.cell _).trans r1;have h0:=(HD.out.frozen _).trans f0;have h1:=(HD.out.frozen _).trans f1))
 have hD:Drawn wa w':=(Drawn.drew wa).more HD.out
 have F1:Blk ((w'.setCell ⟨w.heap.size,0,none⟩ (.int .u64 (x.t:Int))).setCell ⟨w.heap.size,1,none⟩ (.int .u64 (x.x:Int))) w.heap.size 208 (Itm.cs x).toArray:=Blk.whole (Itm.cs x) (hD.blk HB.out) rfl
 have F2:Below w.heap.size w ((w'.setCell ⟨w.heap.size,0,none⟩ (.int .u64 (x.t:Int))).setCell ⟨w.heap.size,1,none⟩ (.int .u64 (x.x:Int))):=Below.sets (Nat.le_refl _) (Itm.cs x) 0 w' (HW.out.trans (hD.below _))
 go_wp2_with fail
 exact bodyPost_ret (results_cell_tmp rfl _ _ w.heap.size 208 _ _ rfl F1 Tryz.underlying208 rfl (by kernel_rfl)) rfl ⟨rfl,F2⟩
theorem rd_At_out (b g:Nat) (i:Int) (s:QS Rd) (w:World) (h:RdAt w b g s) (hi:i < 0∨(s.cnt:Int)≤i):
  Calls Tryz.prog 133 #[.pointer (some ⟨b,0,none⟩),.int .i64 i] w fun e w'=>e=rdgot Itm.z false∧Below w.heap.size w w':=by
 have HH:=Lib.hid (h.alloc (.cells #[.int .u64 0,.int .u64 0] 208))
 have HL:=Lib.hid (rd_Len b g s (w.alloc (.cells #[.int .u64 0,.int .u64 0] 208)) HH.out)
 have HB:=Lib.hid (show Blk (w.alloc (.cells #[.int .u64 0,.int .u64 0] 208)) w.heap.size 208 #[.int .u64 0,.int .u64 0] from Blk.new _ _ _)
 have HW:Hid (Below w.heap.size w (w.alloc (.cells #[.int .u64 0,.int .u64 0] 208))):=Lib.hid ((Below.refl _ _).alloc (Nat.le_refl _) _)
 clear h
 by_cases c:i < 0
 ·have d0:decide (i < 0)=true:=by simpa using c
  go_enter Tryz.func133,Tryz.ntmps133
  go_wp2_with (go_at_call 206;refine (HL.out).mono ?_;rintro e w' ⟨rfl,rfl⟩)
  exact bodyPost_ret (results_cell_tmp rfl _ _ w.heap.size 208 _ _ rfl HB.out Tryz.underlying208 rfl (by kernel_rfl)) rfl ⟨rfl,HW.out⟩
 ·have d0:decide (i < 0)=false:=by simpa using c
  have hj:(s.cnt:Int)≤i:=by omega
  have d1:decide ((s.cnt:Int)≤i)=true:=by simpa using hj
  clear hi
  go_enter Tryz.func133,Tryz.ntmps133
  go_wp2_with (go_at_call 206;refine (HL.out).mono ?_;rintro e w' ⟨rfl,rfl⟩)
  exact bodyPost_ret (results_cell_tmp rfl _ _ w.heap.size 208 _ _ rfl HB.out Tryz.underlying208 rfl (by kernel_rfl)) rfl ⟨rfl,HW.out⟩
end Go.Proofs.YteoepabmnbkabaaGreatDoor

set_option linter.unusedVariables false
namespace Go.Proofs.YteoepabmnbkabaaGreatDoor
open Go.RowKit
set_option maxHeartbeats 2000000 in
theorem rd_Push (b g:Nat) (x:Rd) (s:QS Rd) (w:World) (h:RdAt w b g s) (ho:s.ok) (hk:s.cnt≤1000):
  Calls Tryz.prog 298 #[.pointer (some ⟨b,0,none⟩),x.agg] w (RdPost w b g (.returned (.tuple #[])) (s.push x)):=by
 unfold Rd.agg
 have HO:=Lib.hid ho
 have HH:=Lib.hid (h.alloc (.cells #[.int .u64 (x.t:Int),.int .u64 (x.x:Int)] 208))
 have HX:=Lib.hid (show Blk (w.alloc (.cells #[.int .u64 (x.t:Int),.int .u64 (x.x:Int)] 208)) w.heap.size 208 #[.int .u64 (x.t:Int),.int .u64 (x.x:Int)] from Blk.new _ _ _)
 have HM:Hid (Mv w (w.alloc (.cells #[.int .u64 (x.t:Int),.int .u64 (x.x:Int)] 208)) b g):=Lib.hid ((Mv.refl w b g).alloc _)
 have HS1:Hid ((w.alloc (.cells #[.int .u64 (x.t:Int),.int .u64 (x.x:Int)] 208)).heap.size=w.heap.size + 1):=Lib.hid (by simp)
 have b0:=HH.out.head.cell (i:=0) (v:=.slice (some ⟨g,0,none⟩) s.pl.length s.pl.length) rfl
 have b2:=HH.out.head.cell (i:=2) (v:=.int .i64 (s.cnt:Int)) rfl
 have hm:=ho.m
 have hc:=ho.c
 have HZb:Hid (w.heap.size≠b):=Lib.hid (Ne.symm h.head.old)
 have HZg:Hid (w.heap.size≠g):=Lib.hid (Ne.symm h.body.old)
 clear h ho
 by_cases a:s.cnt=s.pl.length
 ·by_cases z0:1≤s.cnt
  ·have HE:Hid (s.wide=s.move (2 * s.cnt)):=Lib.hid (by unfold QS.wide;rw [if_pos a];congr 1;omega)
   have z1:(1:Int) < 2 * (s.cnt:Int):=by omega
   have d1:(s.cnt == s.pl.length)=true:=by simpa using a
   have HA:=Lib.hid a
   clear a
   go_enter Tryz.func298,Tryz.ntmps298
   go_wp2_with fail
   generalize (w.alloc (.cells #[.int .u64 (x.t:Int),.int .u64 (x.x:Int)] 208))=w0 at *
   go_quiet (fail)
   have HD:Hid (Drawn w0 (w0.drewN nq)):=Lib.hid ⟨nq,rfl⟩
   have q2:=(HD.out.cell _).trans b2
   generalize w0.drewN nq=w1 at *
   go_wp2_with fail
   have HC:Hid (Calls Tryz.prog 305 #[.pointer (some ⟨b,0,none⟩),.int .i64 (2 * (s.cnt:Int))] w1 (RdPost w1 b g (.returned (.tuple #[])) (s.move (2 * s.cnt)))):=Lib.hid (by have:=rd_move b g (2 * s.cnt) s w1 (RdAt.drawn HD.out HH.out) HO.out (by omega) (by omega);simpa using this)
   refine (HC.out).mono ?_
   rintro e w2 ⟨rfl,hat,hmv⟩
   obtain ⟨g2,hg2,hgq⟩:=hat
   rw [← HE.out] at hg2
   have HG:=Lib.hid hg2
   have HX2:=Lib.hid ((HD.out.blk HX.out).mv hmv HZb.out HZg.out)
   have HM2:=Lib.hid ((HM.out.drawn HD.out).trans hmv (.inl rfl))
   have HQ:Hid (g2=g∨w.heap.size < g2):=Lib.hid (by have:=HS1.out;rw [HD.out.heap] at hgq;omega)
   have HZ:Hid (w.heap.size≠g2):=Lib.hid (by have:=HQ.out;have:=HZg.out;omega)
   clear hg2 hgq hmv q2 HE b0 b2 HD HC z1 HX
   have HX:=HX2
   clear HX2
   replace HQ:Hid (g2=g∨w.heap.size≤g2):=Lib.hid (by have:=HQ.out;omega)
   have HO2:=Lib.hid (QS.wide_ok HO.out hk)
   have HC2:=Lib.hid (QS.wide_cnt s)
   have HR2:=Lib.hid (QS.wide_room HO.out)
   have HPU:Hid (s.push x=⟨s.wide.pl.set (s.wide.pos s.cnt) x,s.wide.first,s.cnt + 1⟩):=Lib.hid rfl
   generalize s.wide=t at *
   generalize s.push x=u at *
   obtain ⟨t1,t2,t3⟩:=t
   obtain rfl:t3=s.cnt:=HC2.out
   have hr:s.cnt < t1.length:=HR2.out
   have hpl:=QS.pos_lt (s:=⟨t1,t2,s.cnt⟩) (by show 0 < t1.length;omega) s.cnt
   have a0:=HG.out.head.drew.cell (i:=0) (v:=.slice (some ⟨g2,0,none⟩) t1.length t1.length) rfl
   have a2:=HG.out.head.drew.cell (i:=2) (v:=.int .i64 (s.cnt:Int)) rfl
   have k2:=HG.out.head.drew.free 2
   have x0:=HX.out.drew.cell (i:=0) (v:=.int .u64 (x.t:Int)) rfl
   have x1:=HX.out.drew.cell (i:=1) (v:=.int .u64 (x.x:Int)) rfl
   have HN2:=Lib.hid HG.out.ne
   have HP:=Lib.hid (rd_place b g2 s.cnt ⟨t1,t2,s.cnt⟩)
   have i3:(0:Int)≤((QS.pos ⟨t1,t2,s.cnt⟩ s.cnt:Nat):Int):=by omega
   have i4:((QS.pos ⟨t1,t2,s.cnt⟩ s.cnt:Nat):Int) < (t1.length:Int):=by exact_mod_cast hpl
   have i5:QS.pos ⟨t1,t2,s.cnt⟩ s.cnt < t1.length:=hpl
   clear hpl
   generalize QS.pos ⟨t1,t2,s.cnt⟩ s.cnt=p at *
   obtain ⟨y0,hy0⟩:∃v,(icells t1)[p * 2]? =some v:=⟨_,Array.getElem?_eq_getElem (by rw [icells_size];show _ < t1.length * 2;omega)⟩
   have c0:=HG.out.body.drew.cell hy0
   have f0:=HG.out.body.drew.free (p * 2)
   obtain ⟨y1,hy1⟩:∃v,(icells t1)[p * 2 + 1]? =some v:=⟨_,Array.getElem?_eq_getElem (by rw [icells_size];show _ < t1.length * 2;omega)⟩
   have c1:=HG.out.body.drew.cell hy1
   have f1:=HG.out.body.drew.free (p * 2 + 1)
   go_wp2_with fail
   go_region_held3 (fun w'=>w'.cell? ⟨b,0,none⟩=some (.slice (some ⟨g2,0,none⟩) t1.length t1.length)∧w'.cell? ⟨b,2,none⟩=some (.int .i64 (s.cnt:Int))∧w'.cell? ⟨w.heap.size,0,none⟩=some (.int .u64 (x.t:Int))∧w'.cell? ⟨w.heap.size,1,none⟩=some (.int .u64 (x.x:Int)))
    (first | exact ⟨a0,a2,x0,x1⟩ | exact ⟨b0,b2,q0,q1⟩ | exact ⟨(far (far b0 HN2.out) HN2.out),(far (far b2 HN2.out) HN2.out),(far (far q0 HZ.out) HZ.out),(far (far q1 HZ.out) HZ.out)⟩)
    (first | (go_at_call 207;refine (HP.out _ (RdAt.drawn (Drawn.drew w2) HG.out) HO2.out (by show 0 < t1.length;omega) (by omega)).mono ?_;rintro e w' ⟨rfl,hd⟩;have HD:=Lib.hid hd;clear hd;have b0:=(HD.out.cell _).trans a0;have b2:=(HD.out.cell _).trans a2;have l2:=(HD.out.frozen _).trans k2;have q0:=(HD.out.cell _).trans x0;have q1:=(HD.out.cell _).trans x1;have d0:=(HD.out.cell _).trans c0;have d1:=(HD.out.cell _).trans c1;have h0:=(HD.out.frozen _).trans f0;have h1:=(HD.out.frozen _).trans f1))
   have hD:Drawn w2 w':=(Drawn.drew w2).more HD.out
   have F1:Hid (Blk ((w'.setCell ⟨g2,p * 2,none⟩ (.int .u64 (x.t:Int))).setCell ⟨g2,p * 2 + 1,none⟩ (.int .u64 (x.x:Int))) g2 208 (icells (t1.set p x))):=Lib.hid (by
    have:=Blk.sets (Itm.cs x) (p * Itm.k Rd) w' _ (hD.blk HG.out.body)
    rw [putA_item t1 p x i5] at this
    exact this)
   have F2:Hid (Blk ((w'.setCell ⟨g2,p * 2,none⟩ (.int .u64 (x.t:Int))).setCell ⟨g2,p * 2 + 1,none⟩ (.int .u64 (x.x:Int))) b 283 (rdCells ⟨t1,t2,s.cnt⟩ g2)):=Lib.hid (Blk.sets_other HN2.out (Itm.cs x) (p * 2) w' (hD.blk HG.out.head))
   have F3:Hid (Mv w ((w'.setCell ⟨g2,p * 2,none⟩ (.int .u64 (x.t:Int))).setCell ⟨g2,p * 2 + 1,none⟩ (.int .u64 (x.x:Int))) b g):=Lib.hid (Mv.sets (by have:=HQ.out;omega) (Itm.cs x) (p * 2) w' (HM2.out.drawn hD))
   generalize ((w'.setCell ⟨g2,p * 2,none⟩ (.int .u64 (x.t:Int))).setCell ⟨g2,p * 2 + 1,none⟩ (.int .u64 (x.x:Int)))=w3 at *
   clear a0 a2 k2 b0 b2 l2 x0 q0 c0 d0 f0 h0 hy0 x1 q1 c1 d1 f1 h1 hy1 hD HD HP i3 i4 i5
   have m2:=F2.out.cell (i:=2) (v:=.int .i64 (s.cnt:Int)) rfl
   have n2:=F2.out.free 2
   go_wp2_with fail
   go_end0
   refine ⟨rfl,⟨g2,⟨?_,?_⟩,HQ.out⟩,F3.out.set (.inl rfl) _ _⟩
   ·have:=F2.out.set 2 (.int .i64 ((s.cnt:Int) + 1))
    rw [HPU.out]
    simpa [rdCells] using this
   ·rw [HPU.out]
    exact F1.out.set_other _ _ (Ne.symm HN2.out)
  ·have HE:Hid (s.wide=s.move 1):=Lib.hid (by unfold QS.wide;rw [if_pos a];congr 1;omega)
   have z1:2 * (s.cnt:Int)≤1:=by omega
   have d1:(s.cnt == s.pl.length)=true:=by simpa using a
   have HA:=Lib.hid a
   clear a
   go_enter Tryz.func298,Tryz.ntmps298
   go_wp2_with fail
   generalize (w.alloc (.cells #[.int .u64 (x.t:Int),.int .u64 (x.x:Int)] 208))=w0 at *
   go_quiet (fail)
   have HD:Hid (Drawn w0 (w0.drewN nq)):=Lib.hid ⟨nq,rfl⟩
   have q2:=(HD.out.cell _).trans b2
   generalize w0.drewN nq=w1 at *
   go_wp2_with fail
   have HC:Hid (Calls Tryz.prog 305 #[.pointer (some ⟨b,0,none⟩),.int .i64 1] w1 (RdPost w1 b g (.returned (.tuple #[])) (s.move 1))):=Lib.hid (by have:=rd_move b g 1 s w1 (RdAt.drawn HD.out HH.out) HO.out (by omega) (by omega);simpa using this)
   refine (HC.out).mono ?_
   rintro e w2 ⟨rfl,hat,hmv⟩
   obtain ⟨g2,hg2,hgq⟩:=hat
   rw [← HE.out] at hg2
   have HG:=Lib.hid hg2
   have HX2:=Lib.hid ((HD.out.blk HX.out).mv hmv HZb.out HZg.out)
   have HM2:=Lib.hid ((HM.out.drawn HD.out).trans hmv (.inl rfl))
   have HQ:Hid (g2=g∨w.heap.size < g2):=Lib.hid (by have:=HS1.out;rw [HD.out.heap] at hgq;omega)
   have HZ:Hid (w.heap.size≠g2):=Lib.hid (by have:=HQ.out;have:=HZg.out;omega)
   clear hg2 hgq hmv q2 HE b0 b2 HD HC z1 HX
   have HX:=HX2
   clear HX2
   replace HQ:Hid (g2=g∨w.heap.size≤g2):=Lib.hid (by have:=HQ.out;omega)
   have HO2:=Lib.hid (QS.wide_ok HO.out hk)
   have HC2:=Lib.hid (QS.wide_cnt s)
   have HR2:=Lib.hid (QS.wide_room HO.out)
   have HPU:Hid (s.push x=⟨s.wide.pl.set (s.wide.pos s.cnt) x,s.wide.first,s.cnt + 1⟩):=Lib.hid rfl
   generalize s.wide=t at *
   generalize s.push x=u at *
   obtain ⟨t1,t2,t3⟩:=t
   obtain rfl:t3=s.cnt:=HC2.out
   have hr:s.cnt < t1.length:=HR2.out
   have hpl:=QS.pos_lt (s:=⟨t1,t2,s.cnt⟩) (by show 0 < t1.length;omega) s.cnt
   have a0:=HG.out.head.drew.cell (i:=0) (v:=.slice (some ⟨g2,0,none⟩) t1.length t1.length) rfl
   have a2:=HG.out.head.drew.cell (i:=2) (v:=.int .i64 (s.cnt:Int)) rfl
   have k2:=HG.out.head.drew.free 2
   have x0:=HX.out.drew.cell (i:=0) (v:=.int .u64 (x.t:Int)) rfl
   have x1:=HX.out.drew.cell (i:=1) (v:=.int .u64 (x.x:Int)) rfl
   have HN2:=Lib.hid HG.out.ne
   have HP:=Lib.hid (rd_place b g2 s.cnt ⟨t1,t2,s.cnt⟩)
   have i3:(0:Int)≤((QS.pos ⟨t1,t2,s.cnt⟩ s.cnt:Nat):Int):=by omega
   have i4:((QS.pos ⟨t1,t2,s.cnt⟩ s.cnt:Nat):Int) < (t1.length:Int):=by exact_mod_cast hpl
   have i5:QS.pos ⟨t1,t2,s.cnt⟩ s.cnt < t1.length:=hpl
   clear hpl
   generalize QS.pos ⟨t1,t2,s.cnt⟩ s.cnt=p at *
   obtain ⟨y0,hy0⟩:∃v,(icells t1)[p * 2]? =some v:=⟨_,Array.getElem?_eq_getElem (by rw [icells_size];show _ < t1.length * 2;omega)⟩
   have c0:=HG.out.body.drew.cell hy0
   have f0:=HG.out.body.drew.free (p * 2)
   obtain ⟨y1,hy1⟩:∃v,(icells t1)[p * 2 + 1]? =some v:=⟨_,Array.getElem?_eq_getElem (by rw [icells_size];show _ < t1.length * 2;omega)⟩
   have c1:=HG.out.body.drew.cell hy1
   have f1:=HG.out.body.drew.free (p * 2 + 1)
   go_wp2_with fail
   go_region_held3 (fun w'=>w'.cell? ⟨b,0,none⟩=some (.slice (some ⟨g2,0,none⟩) t1.length t1.length)∧w'.cell? ⟨b,2,none⟩=some (.int .i64 (s.cnt:Int))∧w'.cell? ⟨w.heap.size,0,none⟩=some (.int .u64 (x.t:Int))∧w'.cell? ⟨w.heap.size,1,none⟩=some (.int .u64 (x.x:Int)))
    (first | exact ⟨a0,a2,x0,x1⟩ | exact ⟨b0,b2,q0,q1⟩ | exact ⟨(far (far b0 HN2.out) HN2.out),(far (far b2 HN2.out) HN2.out),(far (far q0 HZ.out) HZ.out),(far (far q1 HZ.out) HZ.out)⟩)
    (first | (go_at_call 207;refine (HP.out _ (RdAt.drawn (Drawn.drew w2) HG.out) HO2.out (by show 0 < t1.length;omega) (by omega)).mono ?_;rintro e w' ⟨rfl,hd⟩;have HD:=Lib.hid hd;clear hd;have b0:=(HD.out.cell _).trans a0;have b2:=(HD.out.cell _).trans a2;have l2:=(HD.out.frozen _).trans k2;have q0:=(HD.out.cell _).trans x0;have q1:=(HD.out.cell _).trans x1;have d0:=(HD.out.cell _).trans c0;have d1:=(HD.out.cell _).trans c1;have h0:=(HD.out.frozen _).trans f0;have h1:=(HD.out.frozen _).trans f1))
   have hD:Drawn w2 w':=(Drawn.drew w2).more HD.out
   have F1:Hid (Blk ((w'.setCell ⟨g2,p * 2,none⟩ (.int .u64 (x.t:Int))).setCell ⟨g2,p * 2 + 1,none⟩ (.int .u64 (x.x:Int))) g2 208 (icells (t1.set p x))):=Lib.hid (by
    have:=Blk.sets (Itm.cs x) (p * Itm.k Rd) w' _ (hD.blk HG.out.body)
    rw [putA_item t1 p x i5] at this
    exact this)
   have F2:Hid (Blk ((w'.setCell ⟨g2,p * 2,none⟩ (.int .u64 (x.t:Int))).setCell ⟨g2,p * 2 + 1,none⟩ (.int .u64 (x.x:Int))) b 283 (rdCells ⟨t1,t2,s.cnt⟩ g2)):=Lib.hid (Blk.sets_other HN2.out (Itm.cs x) (p * 2) w' (hD.blk HG.out.head))
   have F3:Hid (Mv w ((w'.setCell ⟨g2,p * 2,none⟩ (.int .u64 (x.t:Int))).setCell ⟨g2,p * 2 + 1,none⟩ (.int .u64 (x.x:Int))) b g):=Lib.hid (Mv.sets (by have:=HQ.out;omega) (Itm.cs x) (p * 2) w' (HM2.out.drawn hD))
   generalize ((w'.setCell ⟨g2,p * 2,none⟩ (.int .u64 (x.t:Int))).setCell ⟨g2,p * 2 + 1,none⟩ (.int .u64 (x.x:Int)))=w3 at *
   clear a0 a2 k2 b0 b2 l2 x0 q0 c0 d0 f0 h0 hy0 x1 q1 c1 d1 f1 h1 hy1 hD HD HP i3 i4 i5
   have m2:=F2.out.cell (i:=2) (v:=.int .i64 (s.cnt:Int)) rfl
   have n2:=F2.out.free 2
   go_wp2_with fail
   go_end0
   refine ⟨rfl,⟨g2,⟨?_,?_⟩,HQ.out⟩,F3.out.set (.inl rfl) _ _⟩
   ·have:=F2.out.set 2 (.int .i64 ((s.cnt:Int) + 1))
    rw [HPU.out]
    simpa [rdCells] using this
   ·rw [HPU.out]
    exact F1.out.set_other _ _ (Ne.symm HN2.out)
 ·have HE:Hid (s.wide=s):=Lib.hid (if_neg a)
  have d1:(s.cnt == s.pl.length)=false:=by simpa using a
  have HA:=Lib.hid a
  clear a
  go_enter Tryz.func298,Tryz.ntmps298
  go_wp2_with fail
  generalize (w.alloc (.cells #[.int .u64 (x.t:Int),.int .u64 (x.x:Int)] 208))=w0 at *
  go_quiet (fail)
  have HD:Hid (Drawn w0 (w0.drewN nq)):=Lib.hid ⟨nq,rfl⟩
  have q2:=(HD.out.cell _).trans b2
  have HG:Hid (RdAt (w0.drewN nq) b g s.wide):=Lib.hid (by rw [HE.out];exact RdAt.drawn HD.out HH.out)
  have HM2:=Lib.hid (HM.out.drawn HD.out)
  have HX2:=Lib.hid (HD.out.blk HX.out)
  obtain ⟨g2,hg2⟩:∃g2,g2=g:=⟨_,rfl⟩
  have HQ:Hid (g2=g∨w.heap.size≤g2):=Lib.hid (.inl hg2)
  have HZ:Hid (w.heap.size≠g2):=Lib.hid (by have:=HZg.out;omega)
  rw [← hg2] at HG
  generalize w0.drewN nq=w2 at *
  clear hg2 HE b0 b2 HD q2 HX
  have HX:=HX2
  clear HX2
  have HO2:=Lib.hid (QS.wide_ok HO.out hk)
  have HC2:=Lib.hid (QS.wide_cnt s)
  have HR2:=Lib.hid (QS.wide_room HO.out)
  have HPU:Hid (s.push x=⟨s.wide.pl.set (s.wide.pos s.cnt) x,s.wide.first,s.cnt + 1⟩):=Lib.hid rfl
  generalize s.wide=t at *
  generalize s.push x=u at *
  obtain ⟨t1,t2,t3⟩:=t
  obtain rfl:t3=s.cnt:=HC2.out
  have hr:s.cnt < t1.length:=HR2.out
  have hpl:=QS.pos_lt (s:=⟨t1,t2,s.cnt⟩) (by show 0 < t1.length;omega) s.cnt
  have a0:=HG.out.head.drew.cell (i:=0) (v:=.slice (some ⟨g2,0,none⟩) t1.length t1.length) rfl
  have a2:=HG.out.head.drew.cell (i:=2) (v:=.int .i64 (s.cnt:Int)) rfl
  have k2:=HG.out.head.drew.free 2
  have x0:=HX.out.drew.cell (i:=0) (v:=.int .u64 (x.t:Int)) rfl
  have x1:=HX.out.drew.cell (i:=1) (v:=.int .u64 (x.x:Int)) rfl
  have HN2:=Lib.hid HG.out.ne
  have HP:=Lib.hid (rd_place b g2 s.cnt ⟨t1,t2,s.cnt⟩)
  have i3:(0:Int)≤((QS.pos ⟨t1,t2,s.cnt⟩ s.cnt:Nat):Int):=by omega
  have i4:((QS.pos ⟨t1,t2,s.cnt⟩ s.cnt:Nat):Int) < (t1.length:Int):=by exact_mod_cast hpl
  have i5:QS.pos ⟨t1,t2,s.cnt⟩ s.cnt < t1.length:=hpl
  clear hpl
  generalize QS.pos ⟨t1,t2,s.cnt⟩ s.cnt=p at *
  obtain ⟨y0,hy0⟩:∃v,(icells t1)[p * 2]? =some v:=⟨_,Array.getElem?_eq_getElem (by rw [icells_size];show _ < t1.length * 2;omega)⟩
  have c0:=HG.out.body.drew.cell hy0
  have f0:=HG.out.body.drew.free (p * 2)
  obtain ⟨y1,hy1⟩:∃v,(icells t1)[p * 2 + 1]? =some v:=⟨_,Array.getElem?_eq_getElem (by rw [icells_size];show _ < t1.length * 2;omega)⟩
  have c1:=HG.out.body.drew.cell hy1
  have f1:=HG.out.body.drew.free (p * 2 + 1)
  go_wp2_with fail
  go_region_held3 (fun w'=>w'.cell? ⟨b,0,none⟩=some (.slice (some ⟨g2,0,none⟩) t1.length t1.length)∧w'.cell? ⟨b,2,none⟩=some (.int .i64 (s.cnt:Int))∧w'.cell? ⟨w.heap.size,0,none⟩=some (.int .u64 (x.t:Int))∧w'.cell? ⟨w.heap.size,1,none⟩=some (.int .u64 (x.x:Int)))
   (first | exact ⟨a0,a2,x0,x1⟩ | exact ⟨b0,b2,q0,q1⟩ | exact ⟨(far (far b0 HN2.out) HN2.out),(far (far b2 HN2.out) HN2.out),(far (far q0 HZ.out) HZ.out),(far (far q1 HZ.out) HZ.out)⟩)
   (first | (go_at_call 207;refine (HP.out _ (RdAt.drawn (Drawn.drew w2) HG.out) HO2.out (by show 0 < t1.length;omega) (by omega)).mono ?_;rintro e w' ⟨rfl,hd⟩;have HD:=Lib.hid hd;clear hd;have b0:=(HD.out.cell _).trans a0;have b2:=(HD.out.cell _).trans a2;have l2:=(HD.out.frozen _).trans k2;have q0:=(HD.out.cell _).trans x0;have q1:=(HD.out.cell _).trans x1;have d0:=(HD.out.cell _).trans c0;have d1:=(HD.out.cell _).trans c1;have h0:=(HD.out.frozen _).trans f0;have h1:=(HD.out.frozen _).trans f1))
  have hD:Drawn w2 w':=(Drawn.drew w2).more HD.out
  have F1:Hid (Blk ((w'.setCell ⟨g2,p * 2,none⟩ (.int .u64 (x.t:Int))).setCell ⟨g2,p * 2 + 1,none⟩ (.int .u64 (x.x:Int))) g2 208 (icells (t1.set p x))):=Lib.hid (by
   have:=Blk.sets (Itm.cs x) (p * Itm.k Rd) w' _ (hD.blk HG.out.body)
   rw [putA_item t1 p x i5] at this
   exact this)
  have F2:Hid (Blk ((w'.setCell ⟨g2,p * 2,none⟩ (.int .u64 (x.t:Int))).setCell ⟨g2,p * 2 + 1,none⟩ (.int .u64 (x.x:Int))) b 283 (rdCells ⟨t1,t2,s.cnt⟩ g2)):=Lib.hid (Blk.sets_other HN2.out (Itm.cs x) (p * 2) w' (hD.blk HG.out.head))
  have F3:Hid (Mv w ((w'.setCell ⟨g2,p * 2,none⟩ (.int .u64 (x.t:Int))).setCell ⟨g2,p * 2 + 1,none⟩ (.int .u64 (x.x:Int))) b g):=Lib.hid (Mv.sets (by have:=HQ.out;omega) (Itm.cs x) (p * 2) w' (HM2.out.drawn hD))
  generalize ((w'.setCell ⟨g2,p * 2,none⟩ (.int .u64 (x.t:Int))).setCell ⟨g2,p * 2 + 1,none⟩ (.int .u64 (x.x:Int)))=w3 at *
  clear a0 a2 k2 b0 b2 l2 x0 q0 c0 d0 f0 h0 hy0 x1 q1 c1 d1 f1 h1 hy1 hD HD HP i3 i4 i5
  have m2:=F2.out.cell (i:=2) (v:=.int .i64 (s.cnt:Int)) rfl
  have n2:=F2.out.free 2
  go_wp2_with fail
  go_end0
  refine ⟨rfl,⟨g2,⟨?_,?_⟩,HQ.out⟩,F3.out.set (.inl rfl) _ _⟩
  ·have:=F2.out.set 2 (.int .i64 ((s.cnt:Int) + 1))
   rw [HPU.out]
   simpa [rdCells] using this
  ·rw [HPU.out]
   exact F1.out.set_other _ _ (Ne.symm HN2.out)
end Go.Proofs.YteoepabmnbkabaaGreatDoor

set_option linter.unusedVariables false
namespace Go.Proofs.YteoepabmnbkabaaGreatDoor
open Go.RowKit
set_option maxHeartbeats 1000000 in
theorem rd_Shift (b g:Nat) (s:QS Rd) (w:World) (h:RdAt w b g s) (ho:s.ok) (hc:0 < s.cnt):
  Calls Tryz.prog 294 #[.pointer (some ⟨b,0,none⟩)] w (RdPost w b g (rdgot (s.get 0) true) s.shift):=by
 have HO:=Lib.hid ho
 have HH:=Lib.hid (h.alloc (.cells #[.int .u64 0,.int .u64 0] 208))
 have HB:=Lib.hid (show Blk (w.alloc (.cells #[.int .u64 0,.int .u64 0] 208)) w.heap.size 208 #[.int .u64 0,.int .u64 0] from Blk.new _ _ _)
 have HM:Hid (Mv w (w.alloc (.cells #[.int .u64 0,.int .u64 0] 208)) b g):=Lib.hid ((Mv.refl w b g).alloc _)
 have HS1:Hid ((w.alloc (.cells #[.int .u64 0,.int .u64 0] 208)).heap.size=w.heap.size + 1):=Lib.hid (by simp)
 have HZb:Hid (w.heap.size≠b):=Lib.hid (Ne.symm h.head.old)
 have HZg:Hid (w.heap.size≠g):=Lib.hid (Ne.symm h.body.old)
 have hp:0 < s.pl.length:=by have:=ho.c;omega
 have HA:Hid (Calls Tryz.prog 133 #[.pointer (some ⟨b,0,none⟩),.int .i64 0] (w.alloc (.cells #[.int .u64 0,.int .u64 0] 208)) fun e w'=>e=rdgot (s.get 0) true∧Below (w.alloc (.cells #[.int .u64 0,.int .u64 0] 208)).heap.size (w.alloc (.cells #[.int .u64 0,.int .u64 0] 208)) w'):=Lib.hid (rd_At b g 0 s _ HH.out ho hc)
 have hcl:s.cnt≤100000:=Nat.le_trans ho.c ho.m
 clear h ho
 generalize s.get 0=x at *
 go_enter Tryz.func294,Tryz.ntmps294
 go_wp2_with fail
 refine (HA.out).mono ?_
 rintro e w1 ⟨rfl,hbel⟩
 have HR1:=Lib.hid (HH.out.keep hbel)
 have HB1:=Lib.hid (HB.out.keep hbel)
 have HM1:=Lib.hid (HM.out.below hbel)
 have HS2:Hid (w.heap.size + 1≤w1.heap.size):=Lib.hid (by have:=hbel.size;have:=HS1.out;omega)
 clear hbel HA HH HB HM
 unfold rdgot Rd.agg
 go_wp2_with fail
 have HX:Hid (Blk (w1.alloc (.cells #[.int .u64 (x.t:Int),.int .u64 (x.x:Int)] 208)) w1.heap.size 208 #[.int .u64 (x.t:Int),.int .u64 (x.x:Int)]):=Lib.hid (Blk.new _ _ _)
 have HR2:=Lib.hid (HR1.out.alloc (.cells #[.int .u64 (x.t:Int),.int .u64 (x.x:Int)] 208))
 have HB2:=Lib.hid (HB1.out.alloc (.cells #[.int .u64 (x.t:Int),.int .u64 (x.x:Int)] 208))
 have HM2:=Lib.hid (HM1.out.alloc (.cells #[.int .u64 (x.t:Int),.int .u64 (x.x:Int)] 208))
 have HXb:Hid (w1.heap.size≠b):=Lib.hid (Ne.symm HR1.out.head.old)
 have HXg:Hid (w1.heap.size≠g):=Lib.hid (Ne.symm HR1.out.body.old)
 have HXz:Hid (w1.heap.size≠w.heap.size):=Lib.hid (by have:=HS2.out;omega)
 generalize (w1.alloc (.cells #[.int .u64 (x.t:Int),.int .u64 (x.x:Int)] 208))=wa at *
 generalize w1.heap.size=q at *
 have HC:Hid (Calls Tryz.prog 301 #[.pointer (some ⟨b,0,none⟩),.int .i64 0] wa (RdEPost wa b g (s.put 0 Itm.z))):=Lib.hid (rd_empty b g 0 s wa HR2.out HO.out hp (by omega))
 refine (HC.out).mono ?_
 rintro e w2 ⟨rfl,hat,hmv⟩
 have HR3:=Lib.hid hat
 have HM3:=Lib.hid (HM2.out.trans hmv (.inl rfl))
 have HB3:=Lib.hid (HB2.out.mv hmv HZb.out HZg.out)
 have HX3:=Lib.hid (HX.out.mv hmv HXb.out HXg.out)
 clear hat hmv HC HR2 HM2 HB2 HX
 go_wp2_with fail
 have HC:Hid (Calls Tryz.prog 207 #[.pointer (some ⟨b,0,none⟩),.int .i64 1] w2 fun e w'=>e=.returned (.int .i64 ((s.pos 1:Nat):Int))∧Drawn w2 w'):=Lib.hid (by
  have:=rd_place b g 1 (s.put 0 Itm.z) w2 HR3.out (QS.put_ok HO.out 0 Itm.z) (by rw [QS.put_len];exact hp) (by omega)
  rw [QS.put_pos] at this
  exact this)
 refine (HC.out).mono ?_
 rintro e w3 ⟨rfl,hd⟩
 have HR4:=Lib.hid (RdAt.drawn hd HR3.out)
 have HM4:=Lib.hid (HM3.out.drawn hd)
 have HB4:=Lib.hid (hd.blk HB3.out)
 have HX4:=Lib.hid (hd.blk HX3.out)
 clear hd HC HR3 HM3 HB3 HX3
 have c1:=HR4.out.head.cell (i:=1) (v:=.int .i64 (s.first:Int)) rfl
 have c2:=HR4.out.head.cell (i:=2) (v:=.int .i64 (s.cnt:Int)) rfl
 have f1:=HR4.out.head.free 1
 have f2:=HR4.out.head.free 2
 go_wp2_with fail
 have HR5:Hid (RdAt ((w3.setCell ⟨b,1,none⟩ (.int .i64 ((s.pos 1:Nat):Int))).setCell ⟨b,2,none⟩ (.int .i64 ((s.cnt:Int) - 1))) b g s.shift0):=Lib.hid ⟨by
   have:=(HR4.out.head.set 1 (.int .i64 ((s.pos 1:Nat):Int))).set 2 (.int .i64 ((s.cnt:Int) - 1))
   have e:((s.cnt - 1:Nat):Int)=(s.cnt:Int) - 1:=by omega
   simpa [rdCells,QS.shift0,e,QS.put] using this,
  (HR4.out.body.set_other _ _ (Ne.symm HR4.out.ne)).set_other _ _ (Ne.symm HR4.out.ne)⟩
 have HM5:=Lib.hid ((HM4.out.set (c:=b) (.inl rfl) 1 (.int .i64 ((s.pos 1:Nat):Int))).set (c:=b) (.inl rfl) 2 (.int .i64 ((s.cnt:Int) - 1)))
 have HB5:=Lib.hid ((HB4.out.set_other 1 (.int .i64 ((s.pos 1:Nat):Int)) HZb.out).set_other 2 (.int .i64 ((s.cnt:Int) - 1)) HZb.out)
 have HX5:=Lib.hid ((HX4.out.set_other 1 (.int .i64 ((s.pos 1:Nat):Int)) HXb.out).set_other 2 (.int .i64 ((s.cnt:Int) - 1)) HXb.out)
 generalize ((w3.setCell ⟨b,1,none⟩ (.int .i64 ((s.pos 1:Nat):Int))).setCell ⟨b,2,none⟩ (.int .i64 ((s.cnt:Int) - 1)))=w4 at *
 clear c1 c2 f1 f2 HR4 HM4 HB4 HX4
 refine (rd_narrow b g s.shift0 w4 HR5.out (QS.shift0_ok HO.out hc)).mono ?_
 rintro e w5 ⟨rfl,hat,hmv⟩
 obtain ⟨g',hg',hgq⟩:=hat
 have HR6:=Lib.hid hg'
 have HG6:Hid (g'=g∨w.heap.size < g'):=Lib.hid (by have:=HM5.out.size;have:=HB5.out.lt;omega)
 have HM6:=Lib.hid (HM5.out.trans hmv (.inl rfl))
 have HB6:=Lib.hid (HB5.out.mv hmv HZb.out HZg.out)
 have HX6:=Lib.hid (HX5.out.mv hmv HXb.out HXg.out)
 clear hg' hgq hmv HR5 HM5 HB5 HX5
 have x0:=HX6.out.cell (i:=0) (v:=.int .u64 (x.t:Int)) rfl
 have x1:=HX6.out.cell (i:=1) (v:=.int .u64 (x.x:Int)) rfl
 have r0:=HB6.out.cell (i:=0) (v:=.int .u64 0) rfl
 have fr0:=HB6.out.free 0
 have r1:=HB6.out.cell (i:=1) (v:=.int .u64 0) rfl
 have fr1:=HB6.out.free 1
 go_wp2_with fail
 have F1:=Blk.whole (Itm.cs x) HB6.out rfl
 refine bodyPost_ret (results_cell_tmp rfl _ _ w.heap.size 208 _ _ rfl F1 Tryz.underlying208 rfl (by kernel_rfl)) rfl ⟨rfl,⟨g',⟨?_,?_⟩,?_⟩,?_⟩
 ·exact Blk.sets_other (Ne.symm HZb.out) (Itm.cs x) 0 w5 HR6.out.head
 ·exact Blk.sets_other (by have:=HG6.out;have:=HZg.out;omega) (Itm.cs x) 0 w5 HR6.out.body
 ·have:=HG6.out;omega
 ·exact Mv.sets (.inr (.inr (Nat.le_refl _))) (Itm.cs x) 0 w5 HM6.out
set_option maxHeartbeats 1000000 in
theorem rd_Pop (b g:Nat) (s:QS Rd) (w:World) (h:RdAt w b g s) (ho:s.ok) (hc:0 < s.cnt):
  Calls Tryz.prog 297 #[.pointer (some ⟨b,0,none⟩)] w (RdPost w b g (rdgot (s.get (s.cnt - 1)) true) s.pop):=by
 have HO:=Lib.hid ho
 have HH:=Lib.hid (h.alloc (.cells #[.int .u64 0,.int .u64 0] 208))
 have HB:=Lib.hid (show Blk (w.alloc (.cells #[.int .u64 0,.int .u64 0] 208)) w.heap.size 208 #[.int .u64 0,.int .u64 0] from Blk.new _ _ _)
 have HM:Hid (Mv w (w.alloc (.cells #[.int .u64 0,.int .u64 0] 208)) b g):=Lib.hid ((Mv.refl w b g).alloc _)
 have HS1:Hid ((w.alloc (.cells #[.int .u64 0,.int .u64 0] 208)).heap.size=w.heap.size + 1):=Lib.hid (by simp)
 have HZb:Hid (w.heap.size≠b):=Lib.hid (Ne.symm h.head.old)
 have HZg:Hid (w.heap.size≠g):=Lib.hid (Ne.symm h.body.old)
 have hp:0 < s.pl.length:=by have:=ho.c;omega
 have e:((s.cnt - 1:Nat):Int)=(s.cnt:Int) - 1:=by omega
 have HA:Hid (Calls Tryz.prog 133 #[.pointer (some ⟨b,0,none⟩),.int .i64 ((s.cnt:Int) - 1)] (w.alloc (.cells #[.int .u64 0,.int .u64 0] 208)) fun e w'=>e=rdgot (s.get (s.cnt - 1)) true∧Below (w.alloc (.cells #[.int .u64 0,.int .u64 0] 208)).heap.size (w.alloc (.cells #[.int .u64 0,.int .u64 0] 208)) w'):=Lib.hid (by rw [← e];exact rd_At b g (s.cnt - 1) s _ HH.out ho (by omega))
 have HLn:=Lib.hid (rd_Len b g s (w.alloc (.cells #[.int .u64 0,.int .u64 0] 208)) HH.out)
 have hcl:s.cnt≤100000:=Nat.le_trans ho.c ho.m
 have HE:=Lib.hid e
 clear h ho e
 generalize s.get (s.cnt - 1)=x at *
 go_enter Tryz.func297,Tryz.ntmps297
 go_wp2_with fail
 refine (HLn.out).mono ?_
 rintro e w' ⟨rfl,rfl⟩
 go_wp2_with fail
 refine (HA.out).mono ?_
 rintro e w1 ⟨rfl,hbel⟩
 have HR1:=Lib.hid (HH.out.keep hbel)
 have HB1:=Lib.hid (HB.out.keep hbel)
 have HM1:=Lib.hid (HM.out.below hbel)
 have HS2:Hid (w.heap.size + 1≤w1.heap.size):=Lib.hid (by have:=hbel.size;have:=HS1.out;omega)
 clear hbel HA HH HB HM HLn
 unfold rdgot Rd.agg
 have HX:Hid (Blk (w1.alloc (.cells #[.int .u64 (x.t:Int),.int .u64 (x.x:Int)] 208)) w1.heap.size 208 #[.int .u64 (x.t:Int),.int .u64 (x.x:Int)]):=Lib.hid (Blk.new _ _ _)
 have HR2:=Lib.hid (HR1.out.alloc (.cells #[.int .u64 (x.t:Int),.int .u64 (x.x:Int)] 208))
 have HB2:=Lib.hid (HB1.out.alloc (.cells #[.int .u64 (x.t:Int),.int .u64 (x.x:Int)] 208))
 have HM2:=Lib.hid (HM1.out.alloc (.cells #[.int .u64 (x.t:Int),.int .u64 (x.x:Int)] 208))
 have HXb:Hid (w1.heap.size≠b):=Lib.hid (Ne.symm HR1.out.head.old)
 have HXg:Hid (w1.heap.size≠g):=Lib.hid (Ne.symm HR1.out.body.old)
 have HXz:Hid (w1.heap.size≠w.heap.size):=Lib.hid (by have:=HS2.out;omega)
 have a2:=HR2.out.head.cell (i:=2) (v:=.int .i64 (s.cnt:Int)) rfl
 go_wp2_with fail
 generalize (w1.alloc (.cells #[.int .u64 (x.t:Int),.int .u64 (x.x:Int)] 208))=wa at *
 generalize w1.heap.size=q at *
 have HC:Hid (Calls Tryz.prog 301 #[.pointer (some ⟨b,0,none⟩),.int .i64 ((s.cnt:Int) - 1)] wa (RdEPost wa b g (s.put (s.cnt - 1) Itm.z))):=Lib.hid (by rw [← HE.out];exact rd_empty b g (s.cnt - 1) s wa HR2.out HO.out hp (by omega))
 refine (HC.out).mono ?_
 rintro e w2 ⟨rfl,hat,hmv⟩
 have HR3:=Lib.hid hat
 have HM4:=Lib.hid (HM2.out.trans hmv (.inl rfl))
 have HB4:=Lib.hid (HB2.out.mv hmv HZb.out HZg.out)
 have HX4:=Lib.hid (HX.out.mv hmv HXb.out HXg.out)
 clear hat hmv HC HR2 HM2 HB2 HX a2
 have c2:=HR3.out.head.cell (i:=2) (v:=.int .i64 (s.cnt:Int)) rfl
 have f2:=HR3.out.head.free 2
 go_wp2_with fail
 have HR5:Hid (RdAt (w2.setCell ⟨b,2,none⟩ (.int .i64 ((s.cnt:Int) - 1))) b g s.pop0):=Lib.hid ⟨by
   have:=HR3.out.head.set 2 (.int .i64 ((s.cnt:Int) - 1))
   simpa [rdCells,QS.pop0,HE.out,QS.put] using this,
  HR3.out.body.set_other _ _ (Ne.symm HR3.out.ne)⟩
 have HM5:=Lib.hid (HM4.out.set (c:=b) (.inl rfl) 2 (.int .i64 ((s.cnt:Int) - 1)))
 have HB5:=Lib.hid (HB4.out.set_other 2 (.int .i64 ((s.cnt:Int) - 1)) HZb.out)
 have HX5:=Lib.hid (HX4.out.set_other 2 (.int .i64 ((s.cnt:Int) - 1)) HXb.out)
 generalize (w2.setCell ⟨b,2,none⟩ (.int .i64 ((s.cnt:Int) - 1)))=w4 at *
 clear c2 f2 HR3 HM4 HB4 HX4
 refine (rd_narrow b g s.pop0 w4 HR5.out (QS.pop0_ok HO.out hc)).mono ?_
 rintro e w5 ⟨rfl,hat,hmv⟩
 obtain ⟨g',hg',hgq⟩:=hat
 have HR6:=Lib.hid hg'
 have HG6:Hid (g'=g∨w.heap.size < g'):=Lib.hid (by have:=HM5.out.size;have:=HB5.out.lt;omega)
 have HM6:=Lib.hid (HM5.out.trans hmv (.inl rfl))
 have HB6:=Lib.hid (HB5.out.mv hmv HZb.out HZg.out)
 have HX6:=Lib.hid (HX5.out.mv hmv HXb.out HXg.out)
 clear hg' hgq hmv HR5 HM5 HB5 HX5
 have x0:=HX6.out.cell (i:=0) (v:=.int .u64 (x.t:Int)) rfl
 have x1:=HX6.out.cell (i:=1) (v:=.int .u64 (x.x:Int)) rfl
 have r0:=HB6.out.cell (i:=0) (v:=.int .u64 0) rfl
 have fr0:=HB6.out.free 0
 have r1:=HB6.out.cell (i:=1) (v:=.int .u64 0) rfl
 have fr1:=HB6.out.free 1
 go_wp2_with fail
 have F1:=Blk.whole (Itm.cs x) HB6.out rfl
 refine bodyPost_ret (results_cell_tmp rfl _ _ w.heap.size 208 _ _ rfl F1 Tryz.underlying208 rfl (by kernel_rfl)) rfl ⟨rfl,⟨g',⟨?_,?_⟩,?_⟩,?_⟩
 ·exact Blk.sets_other (Ne.symm HZb.out) (Itm.cs x) 0 w5 HR6.out.head
 ·exact Blk.sets_other (by have:=HG6.out;have:=HZg.out;omega) (Itm.cs x) 0 w5 HR6.out.body
 ·have:=HG6.out;omega
 ·exact Mv.sets (.inr (.inr (Nat.le_refl _))) (Itm.cs x) 0 w5 HM6.out
end Go.Proofs.YteoepabmnbkabaaGreatDoor

set_option linter.unusedVariables false
namespace Go.Proofs.YteoepabmnbkabaaGreatDoor
open Go.RowKit
structure RdNew (w:World) (s:QS Rd) (e:Ending) (w':World):Prop where
 at_:∃b g,e=.returned (.pointer (some ⟨b,0,none⟩))∧RdAt w' b g s∧w.heap.size≤b∧w.heap.size≤g
 bel:Below w.heap.size w w'
set_option maxHeartbeats 1000000 in
theorem rd_New (v:Option Addr) (cap:Nat) (l:List Rd) (w:World) (h:Its w v l) (hn:l.length≤100000):
  Calls Tryz.prog 135 #[.slice v l.length cap] w (RdNew w ⟨l,0,l.length⟩):=by
 have HH:=Lib.hid h
 have hmk:=rd_mk l.length hn
 have hsz:(Tryz.prog.info? 208).map (·.size)=some 2:=by kernel_rfl
 clear h
 have HB:Hid (Below w.heap.size w (w.alloc (.cells (icells (List.replicate l.length (Itm.z (α:=Rd)))) 208))):=Lib.hid ((Below.refl _ _).alloc (Nat.le_refl _) _)
 have HBk:Hid (Blk (w.alloc (.cells (icells (List.replicate l.length (Itm.z (α:=Rd)))) 208)) w.heap.size 208 (icells (List.replicate l.length (Itm.z (α:=Rd))))):=Lib.hid (Blk.new _ _ _)
 have HNc:=Lib.hid (HH.out.keep HB.out)
 have HC1:Hid ((l.flatMap (Itm.cs (α:=Rd))).length=l.length * 2):=Lib.hid (icells_len l)
 have HC2:Hid ((icells (List.replicate l.length (Itm.z (α:=Rd)))).size=l.length * 2):=Lib.hid (by rw [icells_size,List.length_replicate];rfl)
 go_enter Tryz.func135,Tryz.ntmps135
 go_wp2_with ((refine wpList_copy_items rfl (.tmp 7) (.tmp 8) 281 281 rfl 208 Tryz.underlying281 2 (by decide) hsz l.length v l.length cap w.heap.size rfl rfl (icells (List.replicate l.length (Itm.z (α:=Rd)))) 208 HBk.out (l.flatMap (Itm.cs (α:=Rd))) HC1.out HC2.out (fun hp=>(HNc.out).cells hp) (one_items l) w.heap.size w HB.out (Nat.le_refl _) ?_);intro w2 h2 hb2)
 have HW:=Lib.hid hb2
 have H2:Hid (Blk w2 w.heap.size 208 (icells l)):=h2
 clear h2 hb2 hmk
 go_wp2_with fail
 go_ret
 refine ⟨⟨w2.heap.size,w.heap.size,rfl,⟨?_,?_⟩,HW.out.size,Nat.le_refl _⟩,HW.out.alloc HW.out.size _⟩
 ·exact Blk.new _ _ _
 ·exact H2.out.alloc _
end Go.Proofs.YteoepabmnbkabaaGreatDoor

set_option linter.unusedVariables false
namespace Go.Proofs.YteoepabmnbkabaaGreatDoor
open Go.RowKit
def RdRow (w:World) (b g:Nat) (l:List Rd):Prop:=∃q:QS Rd,q.ok∧q.items=l∧RdAt w b g q
theorem RdRow.keep {w w':World} {b g:Nat} {l:List Rd} (h:RdRow w b g l) (k:Below w.heap.size w w'):RdRow w' b g l:=by obtain ⟨q,h1,h2,h3⟩:=h;exact ⟨q,h1,h2,h3.keep k⟩
theorem RdRow.drawn {w w':World} {b g:Nat} {l:List Rd} (h:RdRow w b g l) (k:Drawn w w'):RdRow w' b g l:=h.keep (k.below _)
theorem RdRow.alloc {w:World} {b g:Nat} {l:List Rd} (h:RdRow w b g l) (o:Obj):RdRow (w.alloc o) b g l:=h.keep ((Below.refl _ _).alloc (Nat.le_refl _) _)
theorem RdRow.fr {w w':World} {b g:Nat} {l:List Rd} {L:List Nat} (h:RdRow w b g l) (k:Fr w w' L) (h1:b ∉ L) (h2:g ∉ L):RdRow w' b g l:=by obtain ⟨q,a,c,d⟩:=h;exact ⟨q,a,c,⟨d.head.fr k h1,d.body.fr k h2⟩⟩
theorem RdRow.set_other {w:World} {b g c i:Nat} {u:Value} {l:List Rd} (h:RdRow w b g l) (h1:b≠c) (h2:g≠c):RdRow (w.setCell ⟨c,i,none⟩ u) b g l:=by obtain ⟨q,a,d,e⟩:=h;exact ⟨q,a,d,⟨e.head.set_other i u h1,e.body.set_other i u h2⟩⟩
theorem RdRow.ne {w:World} {b g:Nat} {l:List Rd} (h:RdRow w b g l):b≠g:=by obtain ⟨q,_,_,h3⟩:=h;exact h3.ne
theorem RdRow.lt {w:World} {b g:Nat} {l:List Rd} (h:RdRow w b g l):b < w.heap.size∧g < w.heap.size:=by obtain ⟨q,_,_,h3⟩:=h;exact ⟨h3.head.lt,h3.body.lt⟩
theorem RdRow.len {w:World} {b g:Nat} {l:List Rd} (h:RdRow w b g l):l.length≤100000:=by obtain ⟨q,h1,h2,h3⟩:=h;rw [← h2,QS.len_items];exact Nat.le_trans h1.c h1.m
theorem RdRow.head {w:World} {b g:Nat} {l:List Rd} (h:RdRow w b g l):∃cs,Blk w b 283 cs:=by obtain ⟨q,_,_,h3⟩:=h;exact ⟨_,h3.head⟩
theorem RdRow.body {w:World} {b g:Nat} {l:List Rd} (h:RdRow w b g l):∃cs,Blk w g 208 cs:=by obtain ⟨q,_,_,h3⟩:=h;exact ⟨_,h3.body⟩
structure RdRPost (w:World) (b g:Nat) (v:Ending) (l:List Rd) (e:Ending) (w':World):Prop where
 e:e=v
 at_:∃g',RdRow w' b g' l∧(g'=g∨w.heap.size≤g')
 mv:Fr w w' [b,g]
theorem RdPost.row {w w':World} {b g:Nat} {v:Ending} {s:QS Rd} {l:List Rd} {e:Ending} (h:RdPost w b g v s e w') (ho:s.ok) (hl:s.items=l):RdRPost w b g v l e w':=by
 obtain ⟨h1,⟨g',h2,h3⟩,h4⟩:=h
 exact ⟨h1,⟨g',⟨s,ho,hl,h2⟩,h3⟩,Fr.of_mv h4⟩
theorem rd_at (b g i:Nat) (l:List Rd) (w:World) (h:RdRow w b g l) (hi:i < l.length):
  Calls Tryz.prog 133 #[.pointer (some ⟨b,0,none⟩),.int .i64 (i:Int)] w fun e w'=>e=rdgot (l.getD i Itm.z) true∧Below w.heap.size w w':=by
 obtain ⟨q,h1,rfl,h3⟩:=h
 rw [QS.len_items] at hi
 rw [QS.get_item hi]
 exact rd_At b g i q w h3 h1 hi
theorem rd_at_out (b g:Nat) (i:Int) (l:List Rd) (w:World) (h:RdRow w b g l) (hi:i < 0∨(l.length:Int)≤i):
  Calls Tryz.prog 133 #[.pointer (some ⟨b,0,none⟩),.int .i64 i] w fun e w'=>e=rdgot Itm.z false∧Below w.heap.size w w':=by
 obtain ⟨q,h1,rfl,h3⟩:=h
 rw [QS.len_items] at hi
 exact rd_At_out b g i q w h3 hi
theorem rd_len (b g:Nat) (l:List Rd) (w:World) (h:RdRow w b g l):
  Calls Tryz.prog 206 #[.pointer (some ⟨b,0,none⟩)] w fun e w'=>e=.returned (.int .i64 (l.length:Int))∧w=w':=by
 obtain ⟨q,h1,rfl,h3⟩:=h
 rw [QS.len_items]
 exact rd_Len b g q w h3
theorem rd_push (b g:Nat) (x:Rd) (l:List Rd) (w:World) (h:RdRow w b g l) (hl:l.length≤1000):
  Calls Tryz.prog 298 #[.pointer (some ⟨b,0,none⟩),x.agg] w (RdRPost w b g (.returned (.tuple #[])) (l ++ [x])):=by
 obtain ⟨q,h1,rfl,h3⟩:=h
 rw [QS.len_items] at hl
 exact (rd_Push b g x q w h3 h1 hl).mono fun e w' hp=>hp.row (QS.push_ok h1 hl x) (QS.push_items h1 x)
theorem rd_shift (b g:Nat) (x:Rd) (l:List Rd) (w:World) (h:RdRow w b g (x :: l)):
  Calls Tryz.prog 294 #[.pointer (some ⟨b,0,none⟩)] w (RdRPost w b g (rdgot x true) l):=by
 obtain ⟨q,h1,h2,h3⟩:=h
 have hc:0 < q.cnt:=by rw [← QS.len_items,h2];simp
 have e:q.get 0=x:=by rw [← QS.get_item hc,h2];rfl
 have:=(rd_Shift b g q w h3 h1 hc).mono fun e w' hp=>hp.row (QS.shift_ok h1 hc) (QS.shift_items h1 hc)
 rw [e,h2] at this
 exact this
theorem rd_pop (b g:Nat) (x:Rd) (l:List Rd) (w:World) (h:RdRow w b g (l ++ [x])):
  Calls Tryz.prog 297 #[.pointer (some ⟨b,0,none⟩)] w (RdRPost w b g (rdgot x true) l):=by
 obtain ⟨q,h1,h2,h3⟩:=h
 have hn:q.cnt=l.length + 1:=by rw [← QS.len_items,h2];simp
 have hc:0 < q.cnt:=by omega
 have e:q.get (q.cnt - 1)=x:=by rw [← QS.get_item (by omega),h2,hn];simp [List.getD_eq_getElem?_getD]
 have:=(rd_Pop b g q w h3 h1 hc).mono fun e w' hp=>hp.row (QS.pop_ok h1 hc) (QS.pop_items h1 hc)
 rw [e,h2,hn] at this
 simpa using this
structure RdMade (w:World) (l:List Rd) (e:Ending) (w':World):Prop where
 at_:∃b g,e=.returned (.pointer (some ⟨b,0,none⟩))∧RdRow w' b g l∧w.heap.size≤b∧w.heap.size≤g
 bel:Below w.heap.size w w'
theorem rd_new (v:Option Addr) (cap:Nat) (l:List Rd) (w:World) (h:Its w v l) (hn:l.length≤100000):
  Calls Tryz.prog 135 #[.slice v l.length cap] w (RdMade w l):=
 (rd_New v cap l w h hn).mono fun e w' hp=>by
  obtain ⟨⟨b,g,h1,h2,h3,h4⟩,h5⟩:=hp
  exact ⟨⟨b,g,h1,⟨_,QS.new_ok hn,QS.new_items l,h2⟩,h3,h4⟩,h5⟩
end Go.Proofs.YteoepabmnbkabaaGreatDoor

set_option linter.unusedVariables false
namespace Go.Proofs.YteoepabmnbkabaaGreatDoor
open Go.RowKit
def RS.cells (s:RS) (g:Nat):Array Value:=#[.slice (some ⟨g,0,none⟩) s.pl.length s.pl.length,.int .i64 (s.first:Int),.int .i64 (s.cnt:Int)]
structure KRingAt (w:World) (b g:Nat) (s:RS):Prop where
 head:Blk w b 231 (s.cells g)
 body:Blk w g 138 (kcells s.pl)
theorem KRingAt.below {w w':World} {b g B:Nat} {s:RS} (h:KRingAt w b g s) (k:Below B w w') (hb:b < B) (hg:g < B):KRingAt w' b g s:=⟨h.head.below k hb,h.body.below k hg⟩
theorem KRingAt.keep {w w':World} {b g:Nat} {s:RS} (h:KRingAt w b g s) (k:Below w.heap.size w w'):KRingAt w' b g s:=⟨h.head.keep k,h.body.keep k⟩
theorem KRingAt.drewN {w:World} {b g:Nat} {s:RS} (h:KRingAt w b g s) (n:Nat):KRingAt (w.drewN n) b g s:=⟨h.head,h.body⟩
theorem Drawn.ring {a b:World} (h:Drawn a b) {x g:Nat} {s:RS} (k:KRingAt a x g s):KRingAt b x g s:=⟨h.blk k.head,h.blk k.body⟩
set_option maxHeartbeats 400000 in
theorem kring_place (b g i:Nat) (s:RS) (w:World) (h:KRingAt w b g s) (ho:s.ok) (hp:0 < s.pl.length) (hi:i≤100000):
  Calls Tryz.prog 274 #[.pointer (some ⟨b,0,none⟩),.int .i64 (i:Int)] w fun e w'=>e=.returned (.int .i64 ((s.pos i:Nat):Int))∧Drawn w w':=by
 have h0:=h.head.cell (i:=0) (v:=.slice (some ⟨g,0,none⟩) s.pl.length s.pl.length) rfl
 have h1:=h.head.cell (i:=1) (v:=.int .i64 (s.first:Int)) rfl
 have hf:=ho.f
 have hm:=ho.m
 have hn:(s.pl.length == 0)=false:=beq_false_of_ne (by omega)
 have HE:Hid (((s.pos i:Nat):Int)=((s.first:Int) + (i:Int)) % (s.pl.length:Int)):=Lib.hid (by simp [RS.pos])
 generalize s.pos i=p at *
 clear h ho
 generalize s.pl.length=n at *
 generalize s.first=f at *
 go_enter Tryz.func274,Tryz.ntmps274
 go_wp2_with fail
 go_quiet (fail)
 go_wp2_with fail
 go_ret
 exact ⟨by rw [HE.out];rfl,nq,rfl⟩
theorem kp_info:(Tryz.prog.info? 138).map (fun i=>(i.zero,i.size,i.bytes))=some (some (.pointer none),1,8):=by kernel_rfl
theorem kmade (n:Nat):madeCells (Value.cells (.pointer none)) n=kcells (List.replicate n 0):=by
 apply Array.ext
 ·simp [size_madeCells,kcells]
 ·intro i h1 h2
  simp [madeCells,kcells,pv,Value.cells,Nat.mod_one,pa]
theorem krun_mk (n:Nat) (hn:n≤100000) (w:World):(Instr.makeSlice 229 (.int .i64 (n:Int)) (.int .i64 (n:Int))).run Tryz.prog w=.ok (.slice (some ⟨w.heap.size,0,none⟩) n n) (w.alloc (.cells (kcells (List.replicate n 0)) 138)):=by
 obtain ⟨i0,hi,hz0,hz1,hz2⟩:=info_parts kp_info
 have:=run_make (P:=Tryz.prog) w 229 138 i0 _ Tryz.underlying229 hi hz0 .i64 .i64 n n (by omega) (by omega) (by rw [hz2];omega) (by omega)
 rw [this,hz1]
 simp only [Int.toNat_natCast,Nat.mul_one,kmade]
def KLayRel (w:World) (s:RS) (n k:Nat) (wr:World):Prop:=
 k≤s.cnt∧Blk wr w.heap.size 138 (kcells (s.items.take k ++ List.replicate (n - k) 0))∧Below w.heap.size w wr
theorem klay_put {s:RS} {n k:Nat} (hk:k < s.cnt) (hn:s.cnt≤n):(s.items.take k ++ List.replicate (n - k) 0).set k (s.get k)=s.items.take (k + 1) ++ List.replicate (n - (k + 1)) 0:=by
 have e:s.items[k]? =some (s.get k):=RS.item_at hk
 rw [List.take_add_one,e,List.set_append_right _ _ (by simp [RS.len_items];omega),show n - k=(n - (k + 1)) + 1 by omega,List.replicate_succ]
 have:k - (List.take k s.items).length=0:=by simp [RS.len_items];omega
 rw [this]
 simp
structure KLayPost (w:World) (l:List Nat) (e:Ending) (w':World):Prop where
 e:e=.returned (.slice (some ⟨w.heap.size,0,none⟩) l.length l.length)
 blk:Blk w' w.heap.size 138 (kcells l)
 bel:Below w.heap.size w w'
theorem two_far {w:World} {L k:Nat} {u v1 v2:Value} {p q:Addr} (h1:w.cell? p=some v1) (h2:w.cell? q=some v2) (n1:p.block≠L) (n2:q.block≠L):
  (w.setCell ⟨L,k,none⟩ u).cell? p=some v1∧(w.setCell ⟨L,k,none⟩ u).cell? q=some v2:=by
 rw [World.cell?_setCell_other _ _ _ _ (by intro e;exact n1 (by rw [← e])),World.cell?_setCell_other _ _ _ _ (by intro e;exact n2 (by rw [← e]))]
 exact ⟨h1,h2⟩
set_option maxHeartbeats 1000000 in
theorem kring_lay (b g n:Nat) (s:RS) (w:World) (h:KRingAt w b g s) (ho:s.ok) (hn:s.cnt≤n) (hm:n≤100000):
  Calls Tryz.prog 299 #[.pointer (some ⟨b,0,none⟩),.int .i64 (n:Int)] w (KLayPost w (s.lay n)):=by
 have HH:=Lib.hid h
 have HO:=Lib.hid ho
 have hbl:=h.head.lt
 have hgl:=h.body.lt
 have hmk:=krun_mk n hm
 have h2:=(h.head.alloc (.cells (kcells (List.replicate n 0)) 138)).cell (i:=2) (v:=.int .i64 (s.cnt:Int)) rfl
 clear h ho
 go_enter Tryz.func299,Tryz.ntmps299
 go_wp2_with fail
 go_loopw [13] (fun i wr=>∃k:Nat,i=.int .i64 (k:Int)∧KLayRel w s n k wr) (fun i _=>s.cnt - (intOf i).toNat)
 case atStart=>
  exact ⟨0,rfl,Nat.zero_le _,by simpa using Blk.new _ _ _,(Below.refl _ _).alloc (Nat.le_refl _) _⟩
 case round=>
  obtain ⟨k,rfl,hk,hb1,hbel⟩:=hrel
  have HB:=Lib.hid hb1
  have HW:=Lib.hid hbel
  have HR:=Lib.hid (HH.out.below hbel hbl hgl)
  clear hb1 hbel h2 hmk
  by_cases hlt:k < s.cnt
  ·have hp:0 < s.pl.length:=by have:=HO.out.c;omega
   have hpl:=RS.pos_lt hp k
   have c0:=HR.out.head.drew.cell (i:=0) (v:=.slice (some ⟨g,0,none⟩) s.pl.length s.pl.length) rfl
   have c1:=HR.out.body.drew.cell (i:=s.pos k) (v:=.pointer (pa (s.get k))) (kcells_at hpl)
   have HP:=Lib.hid (kring_place b g k s)
   have hlen:(s.items.take k ++ List.replicate (n - k) 0).length=n:=by simp [RS.len_items];omega
   have c2:=HB.out.drew.cell (i:=k) (kcells_at (by rw [hlen];omega))
   have c3:=HB.out.drew.free k
   have HL:=Lib.hid (klay_put hlt hn)
   have i0:(0:Int)≤(k:Int):=by omega
   have i1:(k:Int) < (n:Int):=by omega
   have i2:k < n:=by omega
   have i3:(0:Int)≤((s.pos k:Nat):Int):=by omega
   have i4:((s.pos k:Nat):Int) < (s.pl.length:Int):=by omega
   clear hlen
   generalize (s.items.take k ++ List.replicate (n - k) 0)=cur at *
   generalize cur.getD k 0=y at *
   generalize s.pos k=p at *
   generalize s.get k=x at *
   go_wp2_with fail
   go_region_held3 (fun w'=>w'.cell? ⟨b,0,none⟩=some (.slice (some ⟨g,0,none⟩) s.pl.length s.pl.length)∧w'.cell? ⟨g,p,none⟩=some (.pointer (pa (x))))
    (first | exact ⟨c0,c1⟩ | exact ⟨e0,e1⟩ | exact two_far e0 e1 (by dsimp;omega) (by dsimp;omega))
    (first | (go_at_call 274;go_split_ands;refine (HP.out _ ((Drawn.drew wr).ring HR.out) HO.out hp (by omega)).mono ?_;rintro e w' ⟨rfl,hd⟩;have HD:=Lib.hid hd;clear hd;have e0:=(HD.out.cell _).trans c0;have e1:=(HD.out.cell _).trans c1;have e2:=(HD.out.cell _).trans c2;have e3:=(HD.out.frozen _).trans c3))
   have hD:Drawn wr w':=(Drawn.drew wr).more HD.out
   have F1:=Lib.hid ((hD.blk HB.out).set k (.pointer (pa (x))))
   have F2:=Lib.hid ((HW.out.trans (hD.below _)).setCell (p:=⟨w.heap.size,k,none⟩) (Nat.le_refl _) (.pointer (pa (x))))
   rw [kcells_set,HL.out] at F1
   generalize (w'.setCell ⟨w.heap.size,k,none⟩ (.pointer (pa (x))))=w2 at *
   clear e0 e1 e2 e3 c0 c1 c2 c3 hD HD HP HL
   go_wp2_with fail
   go_roundw
   case rel=>exact ⟨k + 1,by go_num,by omega,F1.out,F2.out⟩
   case measure=>simp [intOf];omega
  ·obtain rfl:k=s.cnt:=by omega
   have HL:Hid (s.lay n=s.items.take s.cnt ++ List.replicate (n - s.cnt) 0):=Lib.hid (by rw [List.take_of_length_le (by rw [RS.len_items];exact Nat.le_refl _)];rfl)
   have HN:=Lib.hid (RS.len_lay hn)
   go_wp2_with fail
   go_ret
   exact ⟨by rw [HN.out];rfl,by rw [HL.out];exact HB.out,HW.out⟩
end Go.Proofs.YteoepabmnbkabaaGreatDoor

set_option linter.unusedVariables false
namespace Go.Proofs.YteoepabmnbkabaaGreatDoor
open Go.RowKit
theorem KRingAt.ne {w:World} {b g:Nat} {s:RS} (h:KRingAt w b g s):b≠g:=by
 rintro rfl
 have:=h.head;have k:=h.body
 unfold Blk at this k;rw [this] at k;injection k with k;injection k with _ k;exact absurd k (by decide)
structure KPost (w:World) (b g:Nat) (v:Ending) (s:RS) (e:Ending) (w':World):Prop where
 e:e=v
 at_:∃g',KRingAt w' b g' s∧(g'=g∨w.heap.size≤g')
 mv:Mv w w' b g
set_option maxHeartbeats 400000 in
theorem kring_move (b g n:Nat) (s:RS) (w:World) (h:KRingAt w b g s) (ho:s.ok) (hn:s.cnt≤n) (hm:n≤100000):
  Calls Tryz.prog 285 #[.pointer (some ⟨b,0,none⟩),.int .i64 (n:Int)] w (KPost w b g (.returned (.tuple #[])) (s.move n)):=by
 have HH:=Lib.hid h
 have HN:=Lib.hid h.ne
 have HL:=Lib.hid (kring_lay b g n s w h ho hn hm)
 have HE:=Lib.hid (RS.len_lay hn)
 have hbl:=h.head.lt
 clear h ho
 go_enter Tryz.func285,Tryz.ntmps285
 go_wp2_with fail
 refine (HL.out).mono ?_
 rintro e w1 ⟨rfl,hb,hbel⟩
 have HB:=Lib.hid hb
 have HW:=Lib.hid hbel
 have H1:=Lib.hid (HH.out.head.keep hbel)
 have c0:=H1.out.cell (i:=0) (v:=.slice (some ⟨g,0,none⟩) s.pl.length s.pl.length) rfl
 have c1:=H1.out.cell (i:=1) (v:=.int .i64 (s.first:Int)) rfl
 have f0:=H1.out.free 0
 have f1:=H1.out.free 1
 clear hb hbel
 rw [HE.out]
 go_wp2_with fail
 go_end0
 refine ⟨rfl,⟨w.heap.size,⟨?_,?_⟩,.inr (Nat.le_refl _)⟩,((Mv.of_below HW.out b g).set (.inl rfl) _ _).set (.inl rfl) _ _⟩
 ·have:=(H1.out.set 0 (.slice (some ⟨w.heap.size,0,none⟩) n n)).set 1 (.int .i64 0)
  simpa [RS.cells,RS.move,HE.out] using this
 ·exact (HB.out.set_other _ _ (by omega)).set_other _ _ (by omega)
structure KEPost (w:World) (b g:Nat) (s:RS) (e:Ending) (w':World):Prop where
 e:e=.returned (.tuple #[])
 at_:KRingAt w' b g s
 mv:Mv w w' b g
set_option maxHeartbeats 400000 in
theorem kring_empty (b g i:Nat) (s:RS) (w:World) (h:KRingAt w b g s) (ho:s.ok) (hp:0 < s.pl.length) (hi:i≤100000):
  Calls Tryz.prog 275 #[.pointer (some ⟨b,0,none⟩),.int .i64 (i:Int)] w (KEPost w b g (s.put i 0)):=by
 have HH:=Lib.hid h
 have HO:=Lib.hid ho
 have HN:=Lib.hid h.ne
 have hpl:=RS.pos_lt hp i
 have c0:=h.head.drew.cell (i:=0) (v:=.slice (some ⟨g,0,none⟩) s.pl.length s.pl.length) rfl
 have c2:=h.body.drew.cell (i:=s.pos i) (kcells_at hpl)
 have c3:=h.body.drew.free (s.pos i)
 have HP:=Lib.hid (kring_place b g i s)
 have i3:(0:Int)≤((s.pos i:Nat):Int):=by omega
 have i4:((s.pos i:Nat):Int) < (s.pl.length:Int):=by omega
 have HS:Hid ((s.put i 0).pl=s.pl.set (s.pos i) 0):=Lib.hid rfl
 clear h ho
 generalize s.pl.getD (s.pos i) 0=y at *
 generalize s.pos i=p at *
 go_enter Tryz.func275,Tryz.ntmps275
 go_wp2_with fail
 go_region_held3 (fun w'=>w'.cell? ⟨b,0,none⟩=some (.slice (some ⟨g,0,none⟩) s.pl.length s.pl.length))
  (first | exact c0 | exact e0 | exact (two_far e0 e0 HN.out HN.out).1)
  (first | (go_at_call 274;refine (HP.out _ ((Drawn.drew w).ring HH.out) HO.out hp (by omega)).mono ?_;rintro e w' ⟨rfl,hd⟩;have HD:=Lib.hid hd;clear hd;have e0:=(HD.out.cell _).trans c0;have e2:=(HD.out.cell _).trans c2;have e3:=(HD.out.frozen _).trans c3))
 go_end0
 have hD:Drawn w w':=(Drawn.drew w).more HD.out
 refine ⟨rfl,⟨?_,?_⟩,((Mv.refl w b g).drawn hD).set (.inr (.inl rfl)) _ _⟩
 ·have:=(hD.blk HH.out.head).set_other p (.pointer none) (c:=g) HN.out
  simpa [RS.cells,RS.put] using this
 ·have:=(hD.blk HH.out.body).set p (.pointer (pa (0)))
  rw [kcells_set,← HS.out] at this
  exact this
set_option maxHeartbeats 400000 in
theorem kring_Len (b g:Nat) (s:RS) (w:World) (h:KRingAt w b g s):
  Calls Tryz.prog 200 #[.pointer (some ⟨b,0,none⟩)] w fun e w'=>e=.returned (.int .i64 (s.cnt:Int))∧w=w':=by
 have c2:=h.head.cell (i:=2) (v:=.int .i64 (s.cnt:Int)) rfl
 clear h
 go_enter Tryz.func200,Tryz.ntmps200
 go_wp2
 go_ret
 exact ⟨rfl,rfl⟩
end Go.Proofs.YteoepabmnbkabaaGreatDoor

set_option linter.unusedVariables false
namespace Go.Proofs.YteoepabmnbkabaaGreatDoor
open Go.RowKit
theorem KPost.same {w w':World} {b g:Nat} {v:Ending} {s t:RS} {e:Ending} (h:KPost w b g v s e w') (hs:s=t):KPost w b g v t e w':=by subst hs;exact h
set_option maxHeartbeats 400000 in
theorem kring_narrow (b g:Nat) (s:RS) (w:World) (h:KRingAt w b g s) (ho:s.ok):
  Calls Tryz.prog 276 #[.pointer (some ⟨b,0,none⟩)] w (KPost w b g (.returned (.tuple #[])) s.narrow):=by
 have HH:=Lib.hid h
 have HO:=Lib.hid ho
 have c0:=h.head.cell (i:=0) (v:=.slice (some ⟨g,0,none⟩) s.pl.length s.pl.length) rfl
 have c2:=h.head.cell (i:=2) (v:=.int .i64 (s.cnt:Int)) rfl
 have hm:=ho.m
 have hc:=ho.c
 clear h ho
 by_cases a:0 < s.cnt
 ·by_cases d:s.cnt≤s.pl.length / 4
  ·have HE:Hid (s.narrow=s.move (s.pl.length / 2)):=Lib.hid (if_pos ⟨a,d⟩)
   have d1:decide ((s.cnt:Int)≤(s.pl.length:Int) / 4)=true:=by simp;omega
   go_enter Tryz.func276,Tryz.ntmps276
   go_wp2_with fail
   go_quiet (fail)
   have HD:Hid (Drawn w (w.drewN nq)):=Lib.hid ⟨nq,rfl⟩
   have e0:=(HD.out.cell _).trans c0
   generalize w.drewN nq=w1 at *
   go_wp2_with fail
   have e:((s.pl.length:Int) / 2)=((s.pl.length / 2:Nat):Int):=by omega
   rw [e]
   clear e
   refine (kring_move b g (s.pl.length / 2) s w1 (HD.out.ring HH.out) HO.out (by omega) (by omega)).mono ?_
   rintro e w2 ⟨rfl,hat,hmv⟩
   have HA:=Lib.hid hat
   have HM:=Lib.hid hmv
   clear hat hmv
   go_wp2_with fail
   go_end0
   obtain ⟨g',h1,h2⟩:=HA.out
   rw [HE.out]
   exact ⟨rfl,⟨g',h1,by rw [HD.out.heap] at h2;exact h2⟩,((Mv.refl w b g).drawn HD.out).trans HM.out (.inl rfl)⟩
  ·have HE:Hid (s.narrow=s):=Lib.hid (if_neg (fun k=>d k.2))
   have d1:decide ((s.cnt:Int)≤(s.pl.length:Int) / 4)=false:=by simp;omega
   go_enter Tryz.func276,Tryz.ntmps276
   go_wp2_with fail
   go_quiet (fail)
   have HD:Hid (Drawn w (w.drewN nq)):=Lib.hid ⟨nq,rfl⟩
   go_wp2_with fail
   go_end0
   rw [HE.out]
   exact ⟨rfl,⟨g,HD.out.ring HH.out,.inl rfl⟩,(Mv.refl w b g).drawn HD.out⟩
 ·have HE:Hid (s.narrow=s):=Lib.hid (if_neg (fun k=>a k.1))
  have d0:decide ((0:Int) < (s.cnt:Int))=false:=by simp;omega
  have d1:decide (0 < s.cnt)=false:=by simp;omega
  go_enter Tryz.func276,Tryz.ntmps276
  go_wp2_with fail
  go_quiet (fail)
  have HD:Hid (Drawn w (w.drewN nq)):=Lib.hid ⟨nq,rfl⟩
  go_wp2_with fail
  go_end0
  rw [HE.out]
  exact ⟨rfl,⟨g,HD.out.ring HH.out,.inl rfl⟩,(Mv.refl w b g).drawn HD.out⟩
def kgot (x:Nat) (ok:Bool):Ending:=.returned (.tuple #[.pointer (pa (x)),.bool ok])
set_option maxHeartbeats 400000 in
theorem kring_At (b g i:Nat) (s:RS) (w:World) (h:KRingAt w b g s) (ho:s.ok) (hi:i < s.cnt):
  Calls Tryz.prog 201 #[.pointer (some ⟨b,0,none⟩),.int .i64 (i:Int)] w fun e w'=>e=kgot (s.get i) true∧Drawn w w':=by
 have HH:=Lib.hid h
 have HO:=Lib.hid ho
 have hp:0 < s.pl.length:=by have:=ho.c;omega
 have hpl:=RS.pos_lt hp i
 have hc:=ho.c
 have hm:=ho.m
 have c0:=h.head.drew.cell (i:=0) (v:=.slice (some ⟨g,0,none⟩) s.pl.length s.pl.length) rfl
 have c1:=h.body.drew.cell (i:=s.pos i) (v:=.pointer (pa (s.get i))) (kcells_at hpl)
 have HP:=Lib.hid (kring_place b g i s)
 have HL:=Lib.hid (kring_Len b g s w h)
 have i3:(0:Int)≤((s.pos i:Nat):Int):=by omega
 have i4:((s.pos i:Nat):Int) < (s.pl.length:Int):=by omega
 have d0:decide ((i:Int) < 0)=false:=by simp
 have d1:decide (s.cnt≤i)=false:=by simp;omega
 clear h ho
 generalize s.get i=x at *
 generalize s.pos i=p at *
 go_enter Tryz.func201,Tryz.ntmps201
 go_wp2_with (go_at_call 200;refine (HL.out).mono ?_;rintro e w' ⟨rfl,rfl⟩)
 go_region_held3 (fun w'=>w'.cell? ⟨b,0,none⟩=some (.slice (some ⟨g,0,none⟩) s.pl.length s.pl.length)∧w'.cell? ⟨g,p,none⟩=some (.pointer (pa (x))))
  (first | exact ⟨c0,c1⟩ | exact ⟨e0,e1⟩)
  (first | (go_at_call 274;refine (HP.out _ ((Drawn.drew w).ring HH.out) HO.out hp (by omega)).mono ?_;rintro e w' ⟨rfl,hd⟩;have HD:=Lib.hid hd;clear hd;have e0:=(HD.out.cell _).trans c0;have e1:=(HD.out.cell _).trans c1))
 go_wp2_with fail
 go_ret2
 exact ⟨rfl,(Drawn.drew w).more HD.out⟩
theorem kring_At_out (b g:Nat) (i:Int) (s:RS) (w:World) (h:KRingAt w b g s) (hi:i < 0∨(s.cnt:Int)≤i):
  Calls Tryz.prog 201 #[.pointer (some ⟨b,0,none⟩),.int .i64 i] w fun e w'=>e=kgot 0 false∧Drawn w w':=by
 have HL:=Lib.hid (kring_Len b g s w h)
 clear h
 by_cases c:i < 0
 ·have d0:decide (i < 0)=true:=by simpa using c
  go_enter Tryz.func201,Tryz.ntmps201
  go_wp2_with (go_at_call 200;refine (HL.out).mono ?_;rintro e w' ⟨rfl,rfl⟩)
  go_ret2
  exact ⟨rfl,Drawn.refl _⟩
 ·have d0:decide (i < 0)=false:=by simpa using c
  have hj:(s.cnt:Int)≤i:=by omega
  have d1:decide ((s.cnt:Int)≤i)=true:=by simpa using hj
  clear hi
  go_enter Tryz.func201,Tryz.ntmps201
  go_wp2_with (go_at_call 200;refine (HL.out).mono ?_;rintro e w' ⟨rfl,rfl⟩)
  go_ret2
  exact ⟨rfl,Drawn.refl _⟩
end Go.Proofs.YteoepabmnbkabaaGreatDoor

set_option linter.unusedVariables false
namespace Go.Proofs.YteoepabmnbkabaaGreatDoor
open Go.RowKit
set_option maxHeartbeats 1000000 in
theorem kring_Push (b g x:Nat) (s:RS) (w:World) (h:KRingAt w b g s) (ho:s.ok) (hk:s.cnt≤7000):
  Calls Tryz.prog 255 #[.pointer (some ⟨b,0,none⟩),.pointer (pa (x))] w (KPost w b g (.returned (.tuple #[])) (s.push x)):=by
 have HH:=Lib.hid h
 have HO:=Lib.hid ho
 have b0:=h.head.cell (i:=0) (v:=.slice (some ⟨g,0,none⟩) s.pl.length s.pl.length) rfl
 have b2:=h.head.cell (i:=2) (v:=.int .i64 (s.cnt:Int)) rfl
 have hm:=ho.m
 have hc:=ho.c
 clear h ho
 by_cases a:s.cnt=s.pl.length
 ·by_cases z:1≤s.cnt
  ·have HE:Hid (s.wide=s.move (2 * s.cnt)):=Lib.hid (by unfold RS.wide;rw [if_pos a];congr 1;omega)
   have z1:(1:Int) < 2 * (s.cnt:Int):=by omega
   have d1:(s.cnt == s.pl.length)=true:=by simpa using a
   have HA:=Lib.hid a
   clear a
   go_enter Tryz.func255,Tryz.ntmps255
   go_wp2_with fail
   go_quiet (fail)
   have HD:Hid (Drawn w (w.drewN nq)):=Lib.hid ⟨nq,rfl⟩
   have q2:=(HD.out.cell _).trans b2
   generalize w.drewN nq=w1 at *
   go_wp2_with fail
   have HC:Hid (Calls Tryz.prog 285 #[.pointer (some ⟨b,0,none⟩),.int .i64 (2 * (s.cnt:Int))] w1 (KPost w1 b g (.returned (.tuple #[])) (s.move (2 * s.cnt)))):=Lib.hid (by have:=kring_move b g (2 * s.cnt) s w1 (HD.out.ring HH.out) HO.out (by omega) (by omega);simpa using this)
   refine (HC.out).mono ?_
   rintro e w2 ⟨rfl,hat,hmv⟩
   obtain ⟨g2,hg2,hgq⟩:=hat
   rw [← HE.out] at hg2
   have HG:=Lib.hid hg2
   have HQ:Hid (g2=g∨w.heap.size≤g2):=Lib.hid (by rw [HD.out.heap] at hgq;exact hgq)
   have HM2:=Lib.hid (((Mv.refl w b g).drawn HD.out).trans hmv (.inl rfl))
   clear hg2 hgq hmv q2 HE b0 b2 HD HC z1
   have HO2:=Lib.hid (RS.wide_ok HO.out hk)
   have HC2:=Lib.hid (RS.wide_cnt s)
   have HR2:=Lib.hid (RS.wide_room HO.out)
   have HPU:Hid (s.push x=⟨s.wide.pl.set (s.wide.pos s.cnt) x,s.wide.first,s.cnt + 1⟩):=Lib.hid rfl
   generalize s.wide=t at *
   generalize s.push x=u at *
   obtain ⟨t1,t2,t3⟩:=t
   obtain rfl:t3=s.cnt:=HC2.out
   have hr:s.cnt < t1.length:=HR2.out
   have hpl:=RS.pos_lt (s:=⟨t1,t2,s.cnt⟩) (by show 0 < t1.length;omega) s.cnt
   have c0:=HG.out.head.drew.cell (i:=0) (v:=.slice (some ⟨g2,0,none⟩) t1.length t1.length) rfl
   have c2:=HG.out.head.drew.cell (i:=2) (v:=.int .i64 (s.cnt:Int)) rfl
   have c3:=HG.out.body.drew.cell (i:=RS.pos ⟨t1,t2,s.cnt⟩ s.cnt) (kcells_at hpl)
   have c4:=HG.out.body.drew.free (RS.pos ⟨t1,t2,s.cnt⟩ s.cnt)
   have k2:=HG.out.head.drew.free 2
   have HN2:=Lib.hid HG.out.ne
   have HP:=Lib.hid (kring_place b g2 s.cnt ⟨t1,t2,s.cnt⟩)
   have i3:(0:Int)≤((RS.pos ⟨t1,t2,s.cnt⟩ s.cnt:Nat):Int):=by omega
   have i4:((RS.pos ⟨t1,t2,s.cnt⟩ s.cnt:Nat):Int) < (t1.length:Int):=by exact_mod_cast hpl
   have i5:RS.pos ⟨t1,t2,s.cnt⟩ s.cnt < t1.length:=hpl
   clear hpl
   generalize t1.getD (RS.pos ⟨t1,t2,s.cnt⟩ s.cnt) 0=y at *
   generalize RS.pos ⟨t1,t2,s.cnt⟩ s.cnt=p at *
   go_wp2_with fail
   go_region_held3 (fun w'=>w'.cell? ⟨b,0,none⟩=some (.slice (some ⟨g2,0,none⟩) t1.length t1.length)∧w'.cell? ⟨b,2,none⟩=some (.int .i64 (s.cnt:Int)))
    (first | exact ⟨c0,c2⟩ | exact ⟨e0,e2⟩ | exact two_far e0 e2 HN2.out HN2.out)
    (first | (go_at_call 274;refine (HP.out _ ((Drawn.drew w2).ring HG.out) HO2.out (by show 0 < t1.length;omega) (by omega)).mono ?_;rintro e w' ⟨rfl,hd⟩;have HD3:=Lib.hid hd;clear hd;have e0:=(HD3.out.cell _).trans c0;have e2:=(HD3.out.cell _).trans c2;have e3:=(HD3.out.cell _).trans c3;have e4:=(HD3.out.frozen _).trans c4;have e5:=(HD3.out.frozen _).trans k2))
   have hD:Drawn w2 w':=(Drawn.drew w2).more HD3.out
   have F1:=Lib.hid ((hD.blk HG.out.body).set p (.pointer (pa (x))))
   have F2:=Lib.hid ((hD.blk HG.out.head).set_other p (.pointer (pa (x))) HN2.out)
   have F3:=Lib.hid ((HM2.out.drawn hD).set (c:=g2) (by have:=HQ.out;omega) p (.pointer (pa (x))))
   rw [kcells_set] at F1
   generalize (w'.setCell ⟨g2,p,none⟩ (.pointer (pa (x))))=w3 at *
   clear e0 e2 e3 e4 e5 c0 c2 c3 c4 k2 hD HD3 HP i3 i4 i5
   have m2:=F2.out.cell (i:=2) (v:=.int .i64 (s.cnt:Int)) rfl
   have n2:=F2.out.free 2
   go_wp2_with fail
   go_end0
   refine ⟨rfl,⟨g2,⟨?_,?_⟩,HQ.out⟩,F3.out.set (.inl rfl) _ _⟩
   ·have:=F2.out.set 2 (.int .i64 ((s.cnt:Int) + 1))
    rw [HPU.out]
    simpa [RS.cells] using this
   ·rw [HPU.out]
    exact F1.out.set_other _ _ (Ne.symm HN2.out)
  ·have HE:Hid (s.wide=s.move 1):=Lib.hid (by unfold RS.wide;rw [if_pos a];congr 1;omega)
   have z1:2 * (s.cnt:Int)≤1:=by omega
   have d1:(s.cnt == s.pl.length)=true:=by simpa using a
   have HA:=Lib.hid a
   clear a
   go_enter Tryz.func255,Tryz.ntmps255
   go_wp2_with fail
   go_quiet (fail)
   have HD:Hid (Drawn w (w.drewN nq)):=Lib.hid ⟨nq,rfl⟩
   have q2:=(HD.out.cell _).trans b2
   generalize w.drewN nq=w1 at *
   go_wp2_with fail
   have HC:Hid (Calls Tryz.prog 285 #[.pointer (some ⟨b,0,none⟩),.int .i64 1] w1 (KPost w1 b g (.returned (.tuple #[])) (s.move 1))):=Lib.hid (by have:=kring_move b g 1 s w1 (HD.out.ring HH.out) HO.out (by omega) (by omega);simpa using this)
   refine (HC.out).mono ?_
   rintro e w2 ⟨rfl,hat,hmv⟩
   obtain ⟨g2,hg2,hgq⟩:=hat
   rw [← HE.out] at hg2
   have HG:=Lib.hid hg2
   have HQ:Hid (g2=g∨w.heap.size≤g2):=Lib.hid (by rw [HD.out.heap] at hgq;exact hgq)
   have HM2:=Lib.hid (((Mv.refl w b g).drawn HD.out).trans hmv (.inl rfl))
   clear hg2 hgq hmv q2 HE b0 b2 HD HC z1
   have HO2:=Lib.hid (RS.wide_ok HO.out hk)
   have HC2:=Lib.hid (RS.wide_cnt s)
   have HR2:=Lib.hid (RS.wide_room HO.out)
   have HPU:Hid (s.push x=⟨s.wide.pl.set (s.wide.pos s.cnt) x,s.wide.first,s.cnt + 1⟩):=Lib.hid rfl
   generalize s.wide=t at *
   generalize s.push x=u at *
   obtain ⟨t1,t2,t3⟩:=t
   obtain rfl:t3=s.cnt:=HC2.out
   have hr:s.cnt < t1.length:=HR2.out
   have hpl:=RS.pos_lt (s:=⟨t1,t2,s.cnt⟩) (by show 0 < t1.length;omega) s.cnt
   have c0:=HG.out.head.drew.cell (i:=0) (v:=.slice (some ⟨g2,0,none⟩) t1.length t1.length) rfl
   have c2:=HG.out.head.drew.cell (i:=2) (v:=.int .i64 (s.cnt:Int)) rfl
   have c3:=HG.out.body.drew.cell (i:=RS.pos ⟨t1,t2,s.cnt⟩ s.cnt) (kcells_at hpl)
   have c4:=HG.out.body.drew.free (RS.pos ⟨t1,t2,s.cnt⟩ s.cnt)
   have k2:=HG.out.head.drew.free 2
   have HN2:=Lib.hid HG.out.ne
   have HP:=Lib.hid (kring_place b g2 s.cnt ⟨t1,t2,s.cnt⟩)
   have i3:(0:Int)≤((RS.pos ⟨t1,t2,s.cnt⟩ s.cnt:Nat):Int):=by omega
   have i4:((RS.pos ⟨t1,t2,s.cnt⟩ s.cnt:Nat):Int) < (t1.length:Int):=by exact_mod_cast hpl
   have i5:RS.pos ⟨t1,t2,s.cnt⟩ s.cnt < t1.length:=hpl
   clear hpl
   generalize t1.getD (RS.pos ⟨t1,t2,s.cnt⟩ s.cnt) 0=y at *
   generalize RS.pos ⟨t1,t2,s.cnt⟩ s.cnt=p at *
   go_wp2_with fail
   go_region_held3 (fun w'=>w'.cell? ⟨b,0,none⟩=some (.slice (some ⟨g2,0,none⟩) t1.length t1.length)∧w'.cell? ⟨b,2,none⟩=some (.int .i64 (s.cnt:Int)))
    (first | exact ⟨c0,c2⟩ | exact ⟨e0,e2⟩ | exact two_far e0 e2 HN2.out HN2.out)
    (first | (go_at_call 274;refine (HP.out _ ((Drawn.drew w2).ring HG.out) HO2.out (by show 0 < t1.length;omega) (by omega)).mono ?_;rintro e w' ⟨rfl,hd⟩;have HD3:=Lib.hid hd;clear hd;have e0:=(HD3.out.cell _).trans c0;have e2:=(HD3.out.cell _).trans c2;have e3:=(HD3.out.cell _).trans c3;have e4:=(HD3.out.frozen _).trans c4;have e5:=(HD3.out.frozen _).trans k2))
   have hD:Drawn w2 w':=(Drawn.drew w2).more HD3.out
   have F1:=Lib.hid ((hD.blk HG.out.body).set p (.pointer (pa (x))))
   have F2:=Lib.hid ((hD.blk HG.out.head).set_other p (.pointer (pa (x))) HN2.out)
   have F3:=Lib.hid ((HM2.out.drawn hD).set (c:=g2) (by have:=HQ.out;omega) p (.pointer (pa (x))))
   rw [kcells_set] at F1
   generalize (w'.setCell ⟨g2,p,none⟩ (.pointer (pa (x))))=w3 at *
   clear e0 e2 e3 e4 e5 c0 c2 c3 c4 k2 hD HD3 HP i3 i4 i5
   have m2:=F2.out.cell (i:=2) (v:=.int .i64 (s.cnt:Int)) rfl
   have n2:=F2.out.free 2
   go_wp2_with fail
   go_end0
   refine ⟨rfl,⟨g2,⟨?_,?_⟩,HQ.out⟩,F3.out.set (.inl rfl) _ _⟩
   ·have:=F2.out.set 2 (.int .i64 ((s.cnt:Int) + 1))
    rw [HPU.out]
    simpa [RS.cells] using this
   ·rw [HPU.out]
    exact F1.out.set_other _ _ (Ne.symm HN2.out)
 ·have HE:Hid (s.wide=s):=Lib.hid (if_neg a)
  have d1:(s.cnt == s.pl.length)=false:=by simpa using a
  have HA:=Lib.hid a
  clear a
  go_enter Tryz.func255,Tryz.ntmps255
  go_wp2_with fail
  go_quiet (fail)
  have HD:Hid (Drawn w (w.drewN nq)):=Lib.hid ⟨nq,rfl⟩
  have q2:=(HD.out.cell _).trans b2
  have HG:Hid (KRingAt (w.drewN nq) b g s.wide):=Lib.hid (by rw [HE.out];exact HD.out.ring HH.out)
  have HM2:=Lib.hid ((Mv.refl w b g).drawn HD.out)
  obtain ⟨g2,hg2⟩:∃g2,g2=g:=⟨_,rfl⟩
  have HQ:Hid (g2=g∨w.heap.size≤g2):=Lib.hid (.inl hg2)
  rw [← hg2] at HG
  generalize w.drewN nq=w2 at *
  clear hg2 HE b0 b2 HD q2
  have HO2:=Lib.hid (RS.wide_ok HO.out hk)
  have HC2:=Lib.hid (RS.wide_cnt s)
  have HR2:=Lib.hid (RS.wide_room HO.out)
  have HPU:Hid (s.push x=⟨s.wide.pl.set (s.wide.pos s.cnt) x,s.wide.first,s.cnt + 1⟩):=Lib.hid rfl
  generalize s.wide=t at *
  generalize s.push x=u at *
  obtain ⟨t1,t2,t3⟩:=t
  obtain rfl:t3=s.cnt:=HC2.out
  have hr:s.cnt < t1.length:=HR2.out
  have hpl:=RS.pos_lt (s:=⟨t1,t2,s.cnt⟩) (by show 0 < t1.length;omega) s.cnt
  have c0:=HG.out.head.drew.cell (i:=0) (v:=.slice (some ⟨g2,0,none⟩) t1.length t1.length) rfl
  have c2:=HG.out.head.drew.cell (i:=2) (v:=.int .i64 (s.cnt:Int)) rfl
  have c3:=HG.out.body.drew.cell (i:=RS.pos ⟨t1,t2,s.cnt⟩ s.cnt) (kcells_at hpl)
  have c4:=HG.out.body.drew.free (RS.pos ⟨t1,t2,s.cnt⟩ s.cnt)
  have k2:=HG.out.head.drew.free 2
  have HN2:=Lib.hid HG.out.ne
  have HP:=Lib.hid (kring_place b g2 s.cnt ⟨t1,t2,s.cnt⟩)
  have i3:(0:Int)≤((RS.pos ⟨t1,t2,s.cnt⟩ s.cnt:Nat):Int):=by omega
  have i4:((RS.pos ⟨t1,t2,s.cnt⟩ s.cnt:Nat):Int) < (t1.length:Int):=by exact_mod_cast hpl
  have i5:RS.pos ⟨t1,t2,s.cnt⟩ s.cnt < t1.length:=hpl
  clear hpl
  generalize t1.getD (RS.pos ⟨t1,t2,s.cnt⟩ s.cnt) 0=y at *
  generalize RS.pos ⟨t1,t2,s.cnt⟩ s.cnt=p at *
  go_wp2_with fail
  go_region_held3 (fun w'=>w'.cell? ⟨b,0,none⟩=some (.slice (some ⟨g2,0,none⟩) t1.length t1.length)∧w'.cell? ⟨b,2,none⟩=some (.int .i64 (s.cnt:Int)))
   (first | exact ⟨c0,c2⟩ | exact ⟨e0,e2⟩ | exact two_far e0 e2 HN2.out HN2.out)
   (first | (go_at_call 274;refine (HP.out _ ((Drawn.drew w2).ring HG.out) HO2.out (by show 0 < t1.length;omega) (by omega)).mono ?_;rintro e w' ⟨rfl,hd⟩;have HD3:=Lib.hid hd;clear hd;have e0:=(HD3.out.cell _).trans c0;have e2:=(HD3.out.cell _).trans c2;have e3:=(HD3.out.cell _).trans c3;have e4:=(HD3.out.frozen _).trans c4;have e5:=(HD3.out.frozen _).trans k2))
  have hD:Drawn w2 w':=(Drawn.drew w2).more HD3.out
  have F1:=Lib.hid ((hD.blk HG.out.body).set p (.pointer (pa (x))))
  have F2:=Lib.hid ((hD.blk HG.out.head).set_other p (.pointer (pa (x))) HN2.out)
  have F3:=Lib.hid ((HM2.out.drawn hD).set (c:=g2) (by have:=HQ.out;omega) p (.pointer (pa (x))))
  rw [kcells_set] at F1
  generalize (w'.setCell ⟨g2,p,none⟩ (.pointer (pa (x))))=w3 at *
  clear e0 e2 e3 e4 e5 c0 c2 c3 c4 k2 hD HD3 HP i3 i4 i5
  have m2:=F2.out.cell (i:=2) (v:=.int .i64 (s.cnt:Int)) rfl
  have n2:=F2.out.free 2
  go_wp2_with fail
  go_end0
  refine ⟨rfl,⟨g2,⟨?_,?_⟩,HQ.out⟩,F3.out.set (.inl rfl) _ _⟩
  ·have:=F2.out.set 2 (.int .i64 ((s.cnt:Int) + 1))
   rw [HPU.out]
   simpa [RS.cells] using this
  ·rw [HPU.out]
   exact F1.out.set_other _ _ (Ne.symm HN2.out)
end Go.Proofs.YteoepabmnbkabaaGreatDoor

set_option linter.unusedVariables false
namespace Go.Proofs.YteoepabmnbkabaaGreatDoor
open Go.RowKit
theorem RS.put_pos (s:RS) (i x j:Nat):(s.put i x).pos j=s.pos j:=by simp [RS.pos,RS.put]
theorem RS.put_ok {s:RS} (h:s.ok) (i x:Nat):(s.put i x).ok:=⟨by simp only [RS.put,List.length_set];exact h.c,by simp only [RS.put,List.length_set];exact h.f,by simp only [RS.put,List.length_set];exact h.m⟩
theorem RS.put_len (s:RS) (i x:Nat):(s.put i x).pl.length=s.pl.length:=by simp [RS.put]
set_option maxHeartbeats 1000000 in
theorem kring_Shift (b g:Nat) (s:RS) (w:World) (h:KRingAt w b g s) (ho:s.ok) (hc:0 < s.cnt):
  Calls Tryz.prog 202 #[.pointer (some ⟨b,0,none⟩)] w (KPost w b g (kgot (s.get 0) true) s.shift):=by
 have HH:=Lib.hid h
 have HO:=Lib.hid ho
 have hp:0 < s.pl.length:=by have:=ho.c;omega
 have HA:Hid (Calls Tryz.prog 201 #[.pointer (some ⟨b,0,none⟩),.int .i64 0] w fun e w'=>e=kgot (s.get 0) true∧Drawn w w'):=Lib.hid (kring_At b g 0 s w h ho hc)
 have hcl:s.cnt≤100000:=Nat.le_trans ho.c ho.m
 clear h ho
 generalize s.get 0=x at *
 go_enter Tryz.func202,Tryz.ntmps202
 go_wp2_with fail
 refine (HA.out).mono ?_
 rintro e w1 ⟨rfl,hd⟩
 have HD:=Lib.hid hd
 have HR1:=Lib.hid (hd.ring HH.out)
 have HM1:=Lib.hid ((Mv.refl w b g).drawn hd)
 clear hd HA
 unfold kgot
 go_wp2_with fail
 have HC:Hid (Calls Tryz.prog 275 #[.pointer (some ⟨b,0,none⟩),.int .i64 0] w1 (KEPost w1 b g (s.put 0 0))):=Lib.hid (kring_empty b g 0 s w1 HR1.out HO.out hp (by omega))
 refine (HC.out).mono ?_
 rintro e w2 ⟨rfl,hat,hmv⟩
 have HR2:=Lib.hid hat
 have HM2:=Lib.hid (HM1.out.trans hmv (.inl rfl))
 clear hat hmv HC
 go_wp2_with fail
 have HC:Hid (Calls Tryz.prog 274 #[.pointer (some ⟨b,0,none⟩),.int .i64 1] w2 fun e w'=>e=.returned (.int .i64 ((s.pos 1:Nat):Int))∧Drawn w2 w'):=Lib.hid (by
  have:=kring_place b g 1 (s.put 0 0) w2 HR2.out (RS.put_ok HO.out 0 0) (by rw [RS.put_len];exact hp) (by omega)
  rw [RS.put_pos] at this
  exact this)
 refine (HC.out).mono ?_
 rintro e w3 ⟨rfl,hd⟩
 have HR3:=Lib.hid (hd.ring HR2.out)
 have HM3:=Lib.hid (HM2.out.drawn hd)
 clear hd HC
 have c1:=HR3.out.head.cell (i:=1) (v:=.int .i64 (s.first:Int)) rfl
 have c2:=HR3.out.head.cell (i:=2) (v:=.int .i64 (s.cnt:Int)) rfl
 have f1:=HR3.out.head.free 1
 have f2:=HR3.out.head.free 2
 go_wp2_with fail
 have HR4:Hid (KRingAt ((w3.setCell ⟨b,1,none⟩ (.int .i64 ((s.pos 1:Nat):Int))).setCell ⟨b,2,none⟩ (.int .i64 ((s.cnt:Int) - 1))) b g s.shift0):=Lib.hid ⟨by
   have:=(HR3.out.head.set 1 (.int .i64 ((s.pos 1:Nat):Int))).set 2 (.int .i64 ((s.cnt:Int) - 1))
   have e:((s.cnt - 1:Nat):Int)=(s.cnt:Int) - 1:=by omega
   simpa [RS.cells,RS.shift0,e,RS.put] using this,
  (HR3.out.body.set_other _ _ (Ne.symm HR3.out.ne)).set_other _ _ (Ne.symm HR3.out.ne)⟩
 have HM4:=Lib.hid ((HM3.out.set (c:=b) (.inl rfl) 1 (.int .i64 ((s.pos 1:Nat):Int))).set (c:=b) (.inl rfl) 2 (.int .i64 ((s.cnt:Int) - 1)))
 generalize ((w3.setCell ⟨b,1,none⟩ (.int .i64 ((s.pos 1:Nat):Int))).setCell ⟨b,2,none⟩ (.int .i64 ((s.cnt:Int) - 1)))=w4 at *
 clear c1 c2 f1 f2
 refine (kring_narrow b g s.shift0 w4 HR4.out (RS.shift0_ok HO.out hc)).mono ?_
 rintro e w5 ⟨rfl,hat,hmv⟩
 have HR5:=Lib.hid hat
 have HM5:=Lib.hid (HM4.out.trans hmv (.inl rfl))
 have HZ:=Lib.hid HM4.out.size
 clear hat hmv
 go_wp2_with fail
 go_ret2
 refine ⟨rfl,?_,HM5.out⟩
 obtain ⟨g',h1,h2⟩:=HR5.out
 exact ⟨g',h1,by have:=HZ.out;omega⟩
end Go.Proofs.YteoepabmnbkabaaGreatDoor

set_option linter.unusedVariables false
namespace Go.Proofs.YteoepabmnbkabaaGreatDoor
open Go.RowKit
def PNums (w:World) (v:Option Addr) (l:List Nat):Prop:=
 0 < l.length→∃b off,v=some ⟨b,off,none⟩∧b < w.heap.size∧∀i,i < l.length→w.cell? ⟨b,off + i,none⟩=some (pv (l.getD i 0))
theorem PNums.keep {w w':World} {v:Option Addr} {l:List Nat} (h:PNums w v l) (k:Below w.heap.size w w'):PNums w' v l:=by
 intro hp
 obtain ⟨b,off,e,hb,hc⟩:=h hp
 exact ⟨b,off,e,Nat.lt_of_lt_of_le hb k.size,fun i hi=>(k.cell (p:=⟨b,off + i,none⟩) hb).trans (hc i hi)⟩
theorem PNums.of_blk {w:World} {g:Nat} {l:List Nat} (h:Blk w g 138 (kcells l)):PNums w (some ⟨g,0,none⟩) l:=by
 intro _
 refine ⟨g,0,rfl,h.lt,fun i hi=>h.cell ?_⟩
 rw [Nat.zero_add];exact kcells_at hi
theorem kmap_at {l:List Nat} {j:Nat} {u:Value} (h:(l.map pv)[j]? =some u):j < l.length∧u=pv (l.getD j 0):=by
 have hj:j < l.length:=by
  rcases Nat.lt_or_ge j l.length with c | c
  ·exact c
  ·rw [List.getElem?_eq_none (by simpa using c)] at h;cases h
 refine ⟨hj,?_⟩
 simp [hj] at h
 simp [List.getD_eq_getElem?_getD,hj,h]
theorem PNums.cells {w:World} {v:Option Addr} {l:List Nat} (h:PNums w v l) (hp:0 < (l.map pv).length):∃ad,v=some ad∧∀j u,(l.map pv)[j]? =some u→w.cell? (ad.add j)=some u:=by
 obtain ⟨b,off,rfl,_,hc⟩:=h (by simpa using hp)
 refine ⟨_,rfl,fun j u hu=>?_⟩
 obtain ⟨hj,rfl⟩:=kmap_at hu
 rw [Go.WideShapes.add_plain]
 exact hc j hj
theorem one_ptrs (l:List Nat):∀v∈l.map pv,v.oneCell'=true:=by
 intro v hv
 obtain ⟨n,_,rfl⟩:=List.mem_map.1 hv
 rfl
structure KNew (w:World) (s:RS) (e:Ending) (w':World):Prop where
 at_:∃b g,e=.returned (.pointer (some ⟨b,0,none⟩))∧KRingAt w' b g s∧w.heap.size≤b∧w.heap.size≤g
 bel:Below w.heap.size w w'
theorem kp_size:(Tryz.prog.info? 138).map (·.size)=some 1:=by kernel_rfl
set_option maxHeartbeats 400000 in
theorem kring_New (v:Option Addr) (cap:Nat) (l:List Nat) (w:World) (h:PNums w v l) (hn:l.length≤100000):
  Calls Tryz.prog 72 #[.slice v l.length cap] w (KNew w ⟨l,0,l.length⟩):=by
 have HH:=Lib.hid h
 have hmk:=krun_mk l.length hn
 clear h
 go_enter Tryz.func72,Tryz.ntmps72
 have HB:Hid (Below w.heap.size w (w.alloc (.cells (kcells (List.replicate l.length 0)) 138))):=Lib.hid ((Below.refl _ _).alloc (Nat.le_refl _) _)
 have HBk:Hid (Blk (w.alloc (.cells (kcells (List.replicate l.length 0)) 138)) w.heap.size 138 (kcells (List.replicate l.length 0))):=Lib.hid (Blk.new _ _ _)
 have HNc:=Lib.hid (HH.out.keep HB.out)
 go_wp2_with ((refine wpList_copy_splice rfl (.tmp 7) (.tmp 8) 229 229 rfl 138 Tryz.underlying229 kp_size (some ⟨w.heap.size,0,none⟩) v l.length l.length l.length cap rfl rfl w.heap.size 0 ((List.replicate l.length 0).map pv) 138 HBk.out (l.map pv) (by simp) (fun hp=>⟨rfl,(HNc.out).cells hp⟩) (by simp) (one_ptrs l) w.heap.size w HB.out (Nat.le_refl _) ?_);intro w2 h2 hb2)
 have HW:=Lib.hid hb2
 have H2:Hid (Blk w2 w.heap.size 138 (kcells l)):=Lib.hid (by
  have:=h2.out
  rw [show splice (List.map pv (List.replicate l.length 0)) 0 (List.map pv l)=l.map pv by simp [splice]] at this
  exact this)
 clear h2 hb2 hmk
 go_wp2_with fail
 go_ret
 refine ⟨⟨w2.heap.size,w.heap.size,rfl,⟨?_,?_⟩,HW.out.size,Nat.le_refl _⟩,HW.out.alloc HW.out.size _⟩
 ·exact Blk.new _ _ _
 ·exact H2.out.alloc _
end Go.Proofs.YteoepabmnbkabaaGreatDoor

set_option linter.unusedVariables false
namespace Go.Proofs.YteoepabmnbkabaaGreatDoor
open Go.RowKit
def KRow (w:World) (b g:Nat) (l:List Nat):Prop:=∃q:RS,q.ok∧q.items=l∧KRingAt w b g q
theorem KRow.blk2 {w w':World} {b g:Nat} {l:List Nat} (h:KRow w b g l) (k:∀x T cs,(x=b∨x=g)→Blk w x T cs→w'.heap[x]? =w.heap[x]?):KRow w' b g l:=by
 obtain ⟨q,h1,h2,h3,h4⟩:=h
 exact ⟨q,h1,h2,by unfold Blk;rw [k b _ _ (.inl rfl) h3];exact h3,by unfold Blk;rw [k g _ _ (.inr rfl) h4];exact h4⟩
theorem KRow.keep {w w':World} {b g:Nat} {l:List Nat} (h:KRow w b g l) (k:Below w.heap.size w w'):KRow w' b g l:=h.blk2 fun x T cs _ hb=>k.block x hb.lt
theorem KRow.drawn {w w':World} {b g:Nat} {l:List Nat} (h:KRow w b g l) (k:Drawn w w'):KRow w' b g l:=h.keep (k.below _)
theorem KRow.alloc {w:World} {b g:Nat} {l:List Nat} (h:KRow w b g l) (o:Obj):KRow (w.alloc o) b g l:=h.keep ((Below.refl _ _).alloc (Nat.le_refl _) _)
theorem KRow.fr {w w':World} {b g:Nat} {l:List Nat} {L:List Nat} (h:KRow w b g l) (k:Fr w w' L) (h1:b ∉ L) (h2:g ∉ L):KRow w' b g l:=h.blk2 fun x T cs hx hb=>k.block x hb.lt (by rcases hx with rfl | rfl <;> assumption)
theorem KRow.set_other {w:World} {b g c i:Nat} {u:Value} {l:List Nat} (h:KRow w b g l) (h1:b≠c) (h2:g≠c):KRow (w.setCell ⟨c,i,none⟩ u) b g l:=
 h.blk2 fun x T cs hx hb=>Below.heap_setCell _ _ _ _ (by show x≠c;rcases hx with rfl | rfl <;> assumption)
theorem KRow.ne {w:World} {b g:Nat} {l:List Nat} (h:KRow w b g l):b≠g:=by obtain ⟨q,_,_,h3⟩:=h;exact h3.ne
theorem KRow.lt {w:World} {b g:Nat} {l:List Nat} (h:KRow w b g l):b < w.heap.size∧g < w.heap.size:=by obtain ⟨q,_,_,h3⟩:=h;exact ⟨h3.head.lt,h3.body.lt⟩
theorem KRow.head {w:World} {b g:Nat} {l:List Nat} (h:KRow w b g l):∃cs,Blk w b 231 cs:=by obtain ⟨q,_,_,h3⟩:=h;exact ⟨_,h3.head⟩
theorem KRow.body {w:World} {b g:Nat} {l:List Nat} (h:KRow w b g l):∃cs,Blk w g 138 cs:=by obtain ⟨q,_,_,h3⟩:=h;exact ⟨_,h3.body⟩
theorem RS.get_item {s:RS} {i:Nat} (h:i < s.cnt):s.items.getD i 0=s.get i:=by
 rw [List.getD_eq_getElem?_getD,RS.item_at h];rfl
theorem RS.new_items (f:List Nat):(RS.items ⟨f,0,f.length⟩)=f:=by
 apply List.ext_getElem?;intro i
 by_cases c:i < f.length
 ·rw [RS.item_at (s:=⟨f,0,f.length⟩) c]
  simp [RS.get,RS.pos,Nat.mod_eq_of_lt c,List.getD_eq_getElem?_getD,c]
 ·rw [List.getElem?_eq_none (by rw [RS.len_items];show f.length≤i;omega),List.getElem?_eq_none (by omega)]
theorem RS.new_ok {f:List Nat} (h:f.length≤100000):RS.ok ⟨f,0,f.length⟩:=⟨Nat.le_refl _,Nat.zero_le _,h⟩
structure KRPost (w:World) (b g:Nat) (v:Ending) (l:List Nat) (e:Ending) (w':World):Prop where
 e:e=v
 at_:∃g',KRow w' b g' l∧(g'=g∨w.heap.size≤g')
 mv:Fr w w' [b,g]
theorem KPost.row {w w':World} {b g:Nat} {v:Ending} {s:RS} {l:List Nat} {e:Ending} (h:KPost w b g v s e w') (ho:s.ok) (hl:s.items=l):KRPost w b g v l e w':=by
 obtain ⟨h1,⟨g',h2,h3⟩,h4⟩:=h
 exact ⟨h1,⟨g',⟨s,ho,hl,h2⟩,h3⟩,Fr.of_mv h4⟩
theorem k_at (b g i:Nat) (l:List Nat) (w:World) (h:KRow w b g l) (hi:i < l.length):
  Calls Tryz.prog 201 #[.pointer (some ⟨b,0,none⟩),.int .i64 (i:Int)] w fun e w'=>e=kgot (l.getD i 0) true∧Drawn w w':=by
 obtain ⟨q,h1,rfl,h3⟩:=h
 rw [RS.len_items] at hi
 rw [RS.get_item hi]
 exact kring_At b g i q w h3 h1 hi
theorem k_at_out (b g:Nat) (i:Int) (l:List Nat) (w:World) (h:KRow w b g l) (hi:i < 0∨(l.length:Int)≤i):
  Calls Tryz.prog 201 #[.pointer (some ⟨b,0,none⟩),.int .i64 i] w fun e w'=>e=kgot 0 false∧Drawn w w':=by
 obtain ⟨q,h1,rfl,h3⟩:=h
 rw [RS.len_items] at hi
 exact kring_At_out b g i q w h3 hi
theorem k_len (b g:Nat) (l:List Nat) (w:World) (h:KRow w b g l):
  Calls Tryz.prog 200 #[.pointer (some ⟨b,0,none⟩)] w fun e w'=>e=.returned (.int .i64 (l.length:Int))∧w=w':=by
 obtain ⟨q,h1,rfl,h3⟩:=h
 rw [RS.len_items]
 exact kring_Len b g q w h3
theorem k_push (b g:Nat) (x:Nat) (l:List Nat) (w:World) (h:KRow w b g l) (hl:l.length≤7000):
  Calls Tryz.prog 255 #[.pointer (some ⟨b,0,none⟩),pv x] w (KRPost w b g (.returned (.tuple #[])) (l ++ [x])):=by
 obtain ⟨q,h1,rfl,h3⟩:=h
 rw [RS.len_items] at hl
 exact (kring_Push b g x q w h3 h1 hl).mono fun e w' hp=>hp.row (RS.push_ok h1 hl x) (RS.push_items h1 x)
theorem k_shift (b g:Nat) (x:Nat) (l:List Nat) (w:World) (h:KRow w b g (x :: l)):
  Calls Tryz.prog 202 #[.pointer (some ⟨b,0,none⟩)] w (KRPost w b g (kgot x true) l):=by
 obtain ⟨q,h1,h2,h3⟩:=h
 have hc:0 < q.cnt:=by rw [← RS.len_items,h2];simp
 have e:q.get 0=x:=by rw [← RS.get_item hc,h2];rfl
 have:=(kring_Shift b g q w h3 h1 hc).mono fun e w' hp=>hp.row (RS.shift_ok h1 hc) (RS.shift_items h1 hc)
 rw [e,h2] at this
 exact this
structure KMade (w:World) (l:List Nat) (e:Ending) (w':World):Prop where
 at_:∃b g,e=.returned (.pointer (some ⟨b,0,none⟩))∧KRow w' b g l∧w.heap.size≤b∧w.heap.size≤g
 bel:Below w.heap.size w w'
theorem k_new (v:Option Addr) (cap:Nat) (l:List Nat) (w:World) (h:PNums w v l) (hn:l.length≤100000):
  Calls Tryz.prog 72 #[.slice v l.length cap] w (KMade w l):=
 (kring_New v cap l w h hn).mono fun e w' hp=>by
  obtain ⟨⟨b,g,h1,h2,h3,h4⟩,h5⟩:=hp
  exact ⟨⟨b,g,h1,⟨_,RS.new_ok hn,RS.new_items l,h2⟩,h3,h4⟩,h5⟩
end Go.Proofs.YteoepabmnbkabaaGreatDoor
