/- 6 texts put together: what each one says stands ahead of it. -/
import Derived.Test.YteoepabmnbkabaaGreatDoorKS18
import Derived.Test.YteoepabmnbkabaaGreatDoorKS19
import Derived.Test.YteoepabmnbkabaaGreatDoorKS04
import Derived.Outline
import Derived.Test.YteoepabmnbkabaaGreatDoorKS06
import Derived.Maps.AppendAt
import Derived.OwnWalk
set_option linter.unusedVariables false
namespace Go.Proofs.YteoepabmnbkabaaGreatDoor
open Go.RowKit Pl
def fcells (b:Nat) (f:FS):Array Value:=#[.pointer (some ⟨b,0,none⟩),.int .u64 (f.win:Int),.int .u64 (f.t:Int),.bool f.least]
structure FlAt (w:World) (a b g:Nat) (f:FS):Prop where
 head:Blk w a 213 (fcells b f)
 row:RdRow w b g f.l
theorem FlAt.keep {w w':World} {a b g:Nat} {f:FS} (h:FlAt w a b g f) (k:Below w.heap.size w w'):FlAt w' a b g f:=⟨h.head.keep k,h.row.keep k⟩
theorem FlAt.fr {w w':World} {a b g:Nat} {f:FS} {L:List Nat} (h:FlAt w a b g f) (k:Fr w w' L) (h1:a ∉ L) (h2:b ∉ L) (h3:g ∉ L):FlAt w' a b g f:=⟨h.head.fr k h1,h.row.fr k h2 h3⟩
theorem FlAt.ab {w:World} {a b g:Nat} {f:FS} (h:FlAt w a b g f):a≠b:=by obtain ⟨cs,k⟩:=h.row.head;exact h.head.ty k (by decide)
theorem FlAt.ag {w:World} {a b g:Nat} {f:FS} (h:FlAt w a b g f):a≠g:=by obtain ⟨cs,k⟩:=h.row.body;exact h.head.ty k (by decide)
theorem FlAt.lt {w:World} {a b g:Nat} {f:FS} (h:FlAt w a b g f):a < w.heap.size∧b < w.heap.size∧g < w.heap.size:=⟨h.head.lt,h.row.lt.1,h.row.lt.2⟩
structure FPost (w:World) (a b g:Nat) (v:Ending) (f:FS) (e:Ending) (w':World):Prop where
 e:e=v
 at_:∃g',FlAt w' a b g' f∧(g'=g∨w.heap.size≤g')
 fr:Fr w w' [a,b,g]
set_option maxHeartbeats 400000 in
theorem fl_counts (a b g:Nat) (f:FS) (r:Rd) (w:World) (h:FlAt w a b g f) (ho:f.ok) (hr:r.t≤18446744073709551615):
  Calls Tryz.prog 293 #[.pointer (some ⟨a,0,none⟩),r.agg] w fun e w'=>e=.returned (.bool (cnts f.win f.t r))∧Below w.heap.size w w':=by
 unfold Rd.agg
 have HB:=Lib.hid (show Blk (w.alloc (.cells #[.int .u64 (r.t:Int),.int .u64 (r.x:Int)] 208)) w.heap.size 208 #[.int .u64 (r.t:Int),.int .u64 (r.x:Int)] from Blk.new _ _ _)
 have HA:=Lib.hid (h.head.alloc (.cells #[.int .u64 (r.t:Int),.int .u64 (r.x:Int)] 208))
 have HW:Hid (Below w.heap.size w (w.alloc (.cells #[.int .u64 (r.t:Int),.int .u64 (r.x:Int)] 208))):=Lib.hid ((Below.refl _ _).alloc (Nat.le_refl _) _)
 have r0:=HB.out.drew.cell (i:=0) (v:=.int .u64 (r.t:Int)) rfl
 have a1:=HA.out.drew.cell (i:=1) (v:=.int .u64 (f.win:Int)) rfl
 have a2:=HA.out.drew.cell (i:=2) (v:=.int .u64 (f.t:Int)) rfl
 have hw:=ho.win
 clear h ho
 go_enter Tryz.func293,Tryz.ntmps293
 go_wp2_with fail
 generalize (w.alloc (.cells #[.int .u64 (r.t:Int),.int .u64 (r.x:Int)] 208))=wa at *
 go_region_held3 (fun w'=>w'.cell? ⟨w.heap.size,0,none⟩=some (.int .u64 (r.t:Int))∧w'.cell? ⟨a,1,none⟩=some (.int .u64 (f.win:Int))∧w'.cell? ⟨a,2,none⟩=some (.int .u64 (f.t:Int)))
  (first | exact ⟨r0,a1,a2⟩ | exact ⟨cell_al r0 _,cell_al a1 _,cell_al a2 _⟩ | exact ⟨b0,b1,b2⟩ | (trace_state;fail))
  (first | (go_at_call 57;refine (add2_b wa.drew _ _ r.t f.win rfl (by omega) (by omega)).mono ?_;rintro e w' ⟨rfl,hd⟩;have HD:=Lib.hid hd;clear hd;have b0:=(HD.out.cell (p:=⟨w.heap.size,0,none⟩) (World.block_lt_of_cell? _ _ r0)).trans r0;have b1:=(HD.out.cell (p:=⟨a,1,none⟩) (World.block_lt_of_cell? _ _ a1)).trans a1;have b2:=(HD.out.cell (p:=⟨a,2,none⟩) (World.block_lt_of_cell? _ _ a2)).trans a2))
 go_wp2_with fail
 go_ret
 exact ⟨rfl,HW.out.trans ((((Drawn.drew wa).below _).trans (HD.out.mono (Nat.le_refl _))).mono HW.out.size)⟩
theorem bel2 (w:World) (o p:Obj):Below w.heap.size w ((w.alloc o).alloc p):=((Below.refl _ _).alloc (Nat.le_refl _) _).alloc (by simp) _
theorem fl_below (r s:Rd) (w:World):Calls Tryz.prog 303 #[r.agg,s.agg] w fun e w'=>e=.returned (.bool (bt true r s))∧Below w.heap.size w w':=by
 unfold Rd.agg
 go_enter Tryz.func303,Tryz.ntmps303
 go_wp2_with fail
 go_ret
 exact ⟨by simp [bt],bel2 w _ _⟩
theorem fl_above (r s:Rd) (w:World):Calls Tryz.prog 304 #[r.agg,s.agg] w fun e w'=>e=.returned (.bool (bt false r s))∧Below w.heap.size w w':=by
 unfold Rd.agg
 go_enter Tryz.func304,Tryz.ntmps304
 go_wp2_with fail
 go_ret
 exact ⟨by simp [bt],bel2 w _ _⟩
def beats (least:Bool) (r:Rd):Value:=if least then .func (.func 303) #[r.agg] #[] else .func (.func 304) #[r.agg] #[]
theorem fl_better (a b g:Nat) (f:FS) (r:Rd) (w:World) (h:FlAt w a b g f):
  Calls Tryz.prog 295 #[.pointer (some ⟨a,0,none⟩),r.agg] w fun e w'=>e=.returned (beats f.least r)∧Below w.heap.size w w':=by
 unfold beats Rd.agg
 have a3:=(h.head.alloc (.cells #[.int .u64 (r.t:Int),.int .u64 (r.x:Int)] 208)).cell (i:=3) (v:=.bool f.least) rfl
 rcases hl:f.least
 ·rw [hl] at a3
  go_enter Tryz.func295,Tryz.ntmps295
  go_wp2_with fail
  go_ret
  exact ⟨rfl,(Below.refl _ _).alloc (Nat.le_refl _) _⟩
 ·rw [hl] at a3
  go_enter Tryz.func295,Tryz.ntmps295
  go_wp2_with fail
  go_ret
  exact ⟨rfl,(Below.refl _ _).alloc (Nat.le_refl _) _⟩
theorem rd_first (b g:Nat) (l:List Rd) (w:World) (h:RdRow w b g l):
  Calls Tryz.prog 133 #[.pointer (some ⟨b,0,none⟩),.int .i64 0] w fun e w'=>e=rdgot (l.headD Itm.z) (!l.isEmpty)∧Below w.heap.size w w':=by
 rcases l with _ | ⟨x,r⟩
 ·exact rd_at_out b g 0 [] w h (.inr (by simp))
 ·exact rd_at b g 0 (x :: r) w h (by simp)
theorem rd_lastone (b g:Nat) (l:List Rd) (w:World) (h:RdRow w b g l):
  Calls Tryz.prog 133 #[.pointer (some ⟨b,0,none⟩),.int .i64 ((l.length:Int) - 1)] w fun e w'=>e=rdgot (l.getLastD Itm.z) (!l.isEmpty)∧Below w.heap.size w w':=by
 rcases List.eq_nil_or_concat l with rfl | ⟨r,x,rfl⟩
 ·exact rd_at_out b g _ [] w h (.inl (by simp))
 ·have:=rd_at b g r.length (r ++ [x]) w (by simpa using h) (by simp)
  have e:(!(r ++ [x]).isEmpty)=true:=by cases r <;> rfl
  rw [List.concat_eq_append,e]
  simpa [List.getD_eq_getElem?_getD] using this
end Go.Proofs.YteoepabmnbkabaaGreatDoor

set_option linter.unusedVariables false
namespace Go.Proofs.YteoepabmnbkabaaGreatDoor
open Go.RowKit Pl
set_option maxHeartbeats 400000 in
theorem fl_last (a b g:Nat) (f:FS) (w:World) (h:FlAt w a b g f):
  Calls Tryz.prog 296 #[.pointer (some ⟨a,0,none⟩)] w fun e w'=>e=rdgot (f.l.getLastD Itm.z) (!f.l.isEmpty)∧Below w.heap.size w w':=by
 have HB:=Lib.hid (show Blk (w.alloc (.cells #[.int .u64 0,.int .u64 0] 208)) w.heap.size 208 #[.int .u64 0,.int .u64 0] from Blk.new _ _ _)
 have HR:=Lib.hid (h.row.alloc (.cells #[.int .u64 0,.int .u64 0] 208))
 have HA:=Lib.hid (h.head.alloc (.cells #[.int .u64 0,.int .u64 0] 208))
 have HW:Hid (Below w.heap.size w (w.alloc (.cells #[.int .u64 0,.int .u64 0] 208))):=Lib.hid ((Below.refl _ _).alloc (Nat.le_refl _) _)
 have a0:=HA.out.drew.cell (i:=0) (v:=.pointer (some ⟨b,0,none⟩)) rfl
 have HZ:Hid (a≠w.heap.size):=Lib.hid h.head.old
 have hlen:=h.row.len
 clear h
 have HL:=Lib.hid (rd_len b g f.l (w.alloc (.cells #[.int .u64 0,.int .u64 0] 208)).drew (HR.out.drawn (Drawn.drew _)))
 have HQ:=Lib.hid (rd_lastone b g f.l (w.alloc (.cells #[.int .u64 0,.int .u64 0] 208)).drew (HR.out.drawn (Drawn.drew _)))
 generalize f.l.getLastD Itm.z=x at *
 generalize (!f.l.isEmpty)=o at *
 generalize f.l.length=n at *
 have HWR:Hid (IntKind.i64.wrap ((n:Int) - 1)=(n:Int) - 1):=Lib.hid (by rw [IntKind.wrap_i64];omega)
 go_enter Tryz.func296,Tryz.ntmps296
 go_wp2_with fail
 generalize (w.alloc (.cells #[.int .u64 0,.int .u64 0] 208))=wa at *
 go_region_held3 (fun w'=>w'.cell? ⟨a,0,none⟩=some (.pointer (some ⟨b,0,none⟩)))
  (first | exact a0 | exact b0 | exact (far (far b0 HZ.out) HZ.out))
  (first | (go_at_call 206;refine (HL.out).mono ?_;rintro e w' ⟨rfl,rfl⟩) | (go_at_call 133;rw [HWR.out];refine (HQ.out).mono ?_;rintro e w' ⟨rfl,hd⟩;have HD:=Lib.hid hd;clear hd;have HB2:=Lib.hid (HB.out.drew.keep HD.out);have r0:=HB2.out.cell (i:=0) (v:=.int .u64 0) rfl;have r1:=HB2.out.cell (i:=1) (v:=.int .u64 0) rfl;have f0:=HB2.out.free 0;have f1:=HB2.out.free 1;unfold rdgot Rd.agg;have b0:=(HD.out.cell (p:=⟨a,0,none⟩) (World.block_lt_of_cell? _ _ a0)).trans a0))
 go_wp2_with fail
 have F1:=Blk.whole (Itm.cs x) HB2.out rfl
 refine bodyPost_ret (results_cell_tmp rfl _ _ w.heap.size 208 _ _ rfl F1 Tryz.underlying208 rfl (by kernel_rfl)) rfl ⟨rfl,?_⟩
 exact Below.sets (Nat.le_refl _) (Itm.cs x) 0 w' (HW.out.trans ((((Drawn.drew wa).below _).trans (HD.out.mono (Nat.le_refl _))).mono HW.out.size))
end Go.Proofs.YteoepabmnbkabaaGreatDoor

set_option linter.unusedVariables false
namespace Go.Proofs.YteoepabmnbkabaaGreatDoor
open Go.RowKit Pl
def cntOf (w:World) (b:Nat):Nat:=match w.cell? ⟨b,2,none⟩ with | some v=>(intOf v).toNat | none=>0
theorem RdRow.cnt {w:World} {b g:Nat} {l:List Rd} (h:RdRow w b g l):cntOf w b=l.length:=by
 obtain ⟨q,_,h2,h3⟩:=h
 have:=h3.head.cell (i:=2) (v:=.int .i64 (q.cnt:Int)) rfl
 rw [cntOf,this,← h2,QS.len_items];simp [intOf]
def FS.with (f:FS) (l:List Rd):FS:=⟨f.win,f.t,f.least,l⟩
def ForRel (w:World) (a b g:Nat) (f:FS) (vz vo:Value) (wr:World):Prop:=
 ∃(z g':Nat) (l:List Rd),vz=.pointer (some ⟨z,0,none⟩)∧vo=.bool (!l.isEmpty)∧FlAt wr a b g' (f.with l)∧Blk wr z 208 (Itm.cs (l.headD Itm.z)).toArray∧
  l.dropWhile (fun r=>!cnts f.win f.t r)=f.l.dropWhile (fun r=>!cnts f.win f.t r)∧(g'=g∨w.heap.size≤g')∧w.heap.size≤z∧z≠g'∧Fr w wr [a,b,g]∧l.length≤f.l.length∧(∀r∈l,r∈f.l)
theorem FS.with_ok {f:FS} (ho:f.ok) {l:List Rd} (hn:l.length≤f.l.length) (hs:∀r∈l,r∈f.l):(f.with l).ok:=⟨ho.win,ho.t,fun r hr=>ho.l r (hs r hr),Nat.le_trans hn ho.n⟩
set_option maxHeartbeats 1000000 in
theorem fl_forget (a b g:Nat) (f:FS) (w:World) (h:FlAt w a b g f) (ho:f.ok):
  Calls Tryz.prog 281 #[.pointer (some ⟨a,0,none⟩)] w (FPost w a b g (.returned (.tuple #[])) (f.with (f.l.dropWhile fun r=>!cnts f.win f.t r))):=by
 have HH:=Lib.hid h
 have HO:=Lib.hid ho
 have a0:=h.head.cell (i:=0) (v:=.pointer (some ⟨b,0,none⟩)) rfl
 have HQ:=Lib.hid (rd_first b g f.l w h.row)
 have hal:=h.lt
 clear h ho
 generalize hx:f.l.headD Itm.z=x at *
 have HX:=Lib.hid hx
 clear hx
 go_enter Tryz.func281,Tryz.ntmps281
 go_wp2_with fail
 refine (HQ.out).mono ?_
 rintro e w1 ⟨rfl,hb⟩
 have HB:=Lib.hid hb
 have H1:=Lib.hid (HH.out.keep hb)
 clear hb HQ
 unfold rdgot Rd.agg
 go_wp2_with fail
 have R0:Hid (ForRel w a b g f (.pointer (some ⟨w1.heap.size,0,none⟩)) (.bool (!f.l.isEmpty)) (w1.alloc (.cells #[.int .u64 (x.t:Int),.int .u64 (x.x:Int)] 208))):=Lib.hid
  ⟨w1.heap.size,g,f.l,rfl,rfl,⟨H1.out.head.alloc _,H1.out.row.alloc _⟩,by rw [HX.out];exact Blk.new _ _ _,rfl,.inl rfl,HB.out.size,(by have:=H1.out.lt;omega),(Fr.of_below HB.out _).alloc _,Nat.le_refl _,fun _ h=>h⟩
 go_loopw [2,3] (fun vz vo wr=>ForRel w a b g f vz vo wr) (fun _ _ wr=>cntOf wr b)
 case atStart=>exact R0.out
 case round=>
  obtain ⟨z,g',l,rfl,rfl,hf,hz,hd,hg,hzs,hzg,hfr,hn,hs⟩:=hrel
  have HF:=Lib.hid hf
  have HZ:=Lib.hid hz
  have HD:=Lib.hid hd
  have HR:=Lib.hid hfr
  have HG:=Lib.hid hg
  have HS:=Lib.hid hs
  have HN:=Lib.hid hn
  have HOk:=Lib.hid (FS.with_ok HO.out hn hs)
  clear hf hz hd hg hfr hs hn R0
  rcases l with _ | ⟨r,l⟩
  ·go_wp2_with fail
   go_end0
   exact ⟨rfl,⟨g',by rw [← HD.out];exact HF.out,HG.out⟩,HR.out⟩
  ·have HC:=Lib.hid (fl_counts a b g' (f.with (r :: l)) r wr HF.out HOk.out (HOk.out.l r (by simp [FS.with])))
   have z0:=HZ.out.cell (i:=0) (v:=.int .u64 (r.t:Int)) rfl
   have z1:=HZ.out.cell (i:=1) (v:=.int .u64 (r.x:Int)) rfl
   unfold Rd.agg at HC
   go_wp2_with fail
   refine (HC.out).mono ?_
   rintro e w2 ⟨rfl,hb⟩
   have hcc:cnts (f.with (r :: l)).win (f.with (r :: l)).t r=cnts f.win f.t r:=rfl
   rw [hcc]
   clear hcc
   have HF2:=Lib.hid (HF.out.keep hb)
   have HZ2:=Lib.hid (HZ.out.keep hb)
   have HR2:=Lib.hid (HR.out.below hb)
   clear hb HC z0 z1 HZ HR
   by_cases c:cnts f.win f.t r=true
   ·have HE:Hid (f.l.dropWhile (fun r=>!cnts f.win f.t r)=r :: l):=Lib.hid (by rw [← HD.out,List.dropWhile_cons,if_neg (by simp [c])])
    rw [c]
    go_wp2_with fail
    go_end0
    rw [HE.out]
    exact ⟨rfl,⟨g',HF2.out,HG.out⟩,HR2.out⟩
   ·have HD2:Hid (l.dropWhile (fun r=>!cnts f.win f.t r)=f.l.dropWhile (fun r=>!cnts f.win f.t r)):=Lib.hid (by rw [← HD.out,List.dropWhile_cons,if_pos (by simp [c])])
    rw [eq_false_of_ne_true c]
    have a1:=HF2.out.head.cell (i:=0) (v:=.pointer (some ⟨b,0,none⟩)) rfl
    have HSh:=Lib.hid (rd_shift b g' r l w2 HF2.out.row)
    clear HD c
    go_wp2_with fail
    refine (HSh.out).mono ?_
    rintro e w3 ⟨rfl,hat,hfr⟩
    obtain ⟨g2,hrow,hg2⟩:=hat
    have HA3:=Lib.hid (HF2.out.head.fr hfr (by simp;exact ⟨HF2.out.ab,HF2.out.ag⟩))
    have HRow3:=Lib.hid hrow
    have hzb:z≠b:=by obtain ⟨cs,k⟩:=HF2.out.row.head;exact HZ2.out.ty k (by decide)
    have HZ3:=Lib.hid (HZ2.out.fr hfr (by simp;exact ⟨hzb,hzg⟩))
    have HR3:=Lib.hid (HR2.out.trans hfr (by have:=HG.out;intro y hy;simp at hy ⊢;omega))
    have HG3:Hid (g2=g∨w.heap.size≤g2):=Lib.hid (by have:=HG.out;have:=HR2.out.size;omega)
    have z0:=HZ3.out.cell (i:=0) (v:=.int .u64 (r.t:Int)) rfl
    have z1:=HZ3.out.cell (i:=1) (v:=.int .u64 (r.x:Int)) rfl
    clear hrow hg2 hfr HSh a1
    unfold rdgot Rd.agg
    have HZ4:Hid (Blk (w3.alloc (.cells #[.int .u64 (r.t:Int),.int .u64 (r.x:Int)] 208)) w3.heap.size 208 #[.int .u64 (r.t:Int),.int .u64 (r.x:Int)]):=Lib.hid (Blk.new _ _ _)
    have HA4:=Lib.hid (HA3.out.alloc (.cells #[.int .u64 (r.t:Int),.int .u64 (r.x:Int)] 208))
    have HRow4:=Lib.hid (HRow3.out.alloc (.cells #[.int .u64 (r.t:Int),.int .u64 (r.x:Int)] 208))
    have HR4:=Lib.hid (HR3.out.alloc (.cells #[.int .u64 (r.t:Int),.int .u64 (r.x:Int)] 208))
    have HG4:Hid (w3.heap.size≠g2):=Lib.hid (by have:=HRow3.out.lt;omega)
    have HS4:Hid (w.heap.size≤w3.heap.size):=Lib.hid HR3.out.size
    have a1:=HA4.out.cell (i:=0) (v:=.pointer (some ⟨b,0,none⟩)) rfl
    have HF4:=Lib.hid (rd_first b g2 l _ HRow4.out)
    clear HZ3 HA3 HRow3 HR3
    generalize hy:l.headD Itm.z=y at *
    have HY:=Lib.hid hy
    clear hy
    go_wp2_with fail
    refine (HF4.out).mono ?_
    rintro e w5 ⟨rfl,hb⟩
    have HZ5:=Lib.hid (HZ4.out.keep hb)
    have HA5:=Lib.hid (HA4.out.keep hb)
    have HRow5:=Lib.hid (HRow4.out.keep hb)
    have HR5:=Lib.hid (HR4.out.below hb)
    clear hb HF4 HZ4 HA4 HRow4 HR4 a1 z0 z1
    unfold rdgot Rd.agg
    have z0:=HZ5.out.cell (i:=0) (v:=.int .u64 (r.t:Int)) rfl
    have z1:=HZ5.out.cell (i:=1) (v:=.int .u64 (r.x:Int)) rfl
    have f0:=HZ5.out.free 0
    have f1:=HZ5.out.free 1
    generalize w3.heap.size=q at *
    go_wp2_with fail
    have HZ6:Hid (Blk ((w5.setCell ⟨q,0,none⟩ (.int .u64 (y.t:Int))).setCell ⟨q,1,none⟩ (.int .u64 (y.x:Int))) q 208 (Itm.cs y).toArray):=Lib.hid (Blk.whole (Itm.cs y) HZ5.out rfl)
    have hqa:a≠q:=HA5.out.ty HZ5.out (by decide)
    have hqb:b≠q:=by obtain ⟨cs,k⟩:=HRow5.out.head;exact k.ty HZ5.out (by decide)
    have HA6:Hid (Blk ((w5.setCell ⟨q,0,none⟩ (.int .u64 (y.t:Int))).setCell ⟨q,1,none⟩ (.int .u64 (y.x:Int))) a 213 (fcells b (f.with l))):=Lib.hid ((HA5.out.set_other _ _ hqa).set_other _ _ hqa)
    have HRow6:Hid (RdRow ((w5.setCell ⟨q,0,none⟩ (.int .u64 (y.t:Int))).setCell ⟨q,1,none⟩ (.int .u64 (y.x:Int))) b g2 l):=Lib.hid ((HRow5.out.set_other hqb (Ne.symm HG4.out)).set_other hqb (Ne.symm HG4.out))
    have HR6:Hid (Fr w ((w5.setCell ⟨q,0,none⟩ (.int .u64 (y.t:Int))).setCell ⟨q,1,none⟩ (.int .u64 (y.x:Int))) [a,b,g]):=Lib.hid ((HR5.out.set (.inr HS4.out) _ _).set (.inr HS4.out) _ _)
    generalize ((w5.setCell ⟨q,0,none⟩ (.int .u64 (y.t:Int))).setCell ⟨q,1,none⟩ (.int .u64 (y.x:Int)))=w6 at *
    clear z0 z1 f0 f1 HZ5 HA5 HRow5 HR5
    go_roundw
    case rel=>exact ⟨q,g2,l,rfl,rfl,⟨HA6.out,HRow6.out⟩,by rw [HY.out];exact HZ6.out,HD2.out,HG3.out,HS4.out,HG4.out,HR6.out,by have:=HN.out;simp at this;omega,fun s hs=>HS.out s (by simp [hs])⟩
    case measure=>rw [HRow6.out.cnt,HF.out.row.cnt];simp [FS.with]
end Go.Proofs.YteoepabmnbkabaaGreatDoor

set_option linter.unusedVariables false
namespace Go.Proofs.YteoepabmnbkabaaGreatDoor
open Go.RowKit Pl
def EntRel (w:World) (a b g:Nat) (f:FS) (r:Rd) (vz vo:Value) (wr:World):Prop:=
 ∃(z g':Nat) (l:List Rd),vz=.pointer (some ⟨z,0,none⟩)∧vo=.bool (!l.isEmpty)∧FlAt wr a b g' (f.with l)∧Blk wr z 208 (Itm.cs (l.getLastD Itm.z)).toArray∧
  popL (bt f.least r) l=popL (bt f.least r) f.l∧(g'=g∨w.heap.size < g')∧w.heap.size < z∧z≠g'∧Fr w wr [a,b,g]∧Blk wr w.heap.size 208 #[.int .u64 (r.t:Int),.int .u64 (r.x:Int)]∧l.length≤f.l.length∧(∀s∈l,s∈f.l)
set_option maxHeartbeats 2000000 in
theorem fl_enter_least (a b g:Nat) (f:FS) (r:Rd) (w:World) (h:FlAt w a b g f) (ho:f.ok) (hl:f.least=true):
  Calls Tryz.prog 282 #[.pointer (some ⟨a,0,none⟩),r.agg] w (FPost w a b g (.returned (.tuple #[])) (f.with (popL (bt f.least r) f.l ++ [r]))):=by
 have HO:=Lib.hid ho
 have HF0:Hid (FlAt (w.alloc (.cells #[.int .u64 (r.t:Int),.int .u64 (r.x:Int)] 208)) a b g f):=Lib.hid ⟨h.head.alloc _,h.row.alloc _⟩
 have HB0:Hid (Blk (w.alloc (.cells #[.int .u64 (r.t:Int),.int .u64 (r.x:Int)] 208)) w.heap.size 208 #[.int .u64 (r.t:Int),.int .u64 (r.x:Int)]):=Lib.hid (Blk.new _ _ _)
 have HR0:Hid (Fr w (w.alloc (.cells #[.int .u64 (r.t:Int),.int .u64 (r.x:Int)] 208)) [a,b,g]):=Lib.hid ((Fr.refl _ _).alloc _)
 have HS0:Hid ((w.alloc (.cells #[.int .u64 (r.t:Int),.int .u64 (r.x:Int)] 208)).heap.size=w.heap.size + 1):=Lib.hid (by simp)
 have HBt:=Lib.hid (fl_better a b g f r (w.alloc (.cells #[.int .u64 (r.t:Int),.int .u64 (r.x:Int)] 208)) HF0.out)
 have hbe:beats f.least r=.func (.func 303) #[r.agg] #[]:=by rw [hl];rfl
 rw [hbe] at HBt
 clear hbe
 unfold Rd.agg at HBt ⊢
 have hal:=h.lt
 have r0:=HB0.out.cell (i:=0) (v:=.int .u64 (r.t:Int)) rfl
 have r1:=HB0.out.cell (i:=1) (v:=.int .u64 (r.x:Int)) rfl
 clear h ho
 rw [hl]
 go_enter Tryz.func282,Tryz.ntmps282
 go_wp2_with fail
 generalize (w.alloc (.cells #[.int .u64 (r.t:Int),.int .u64 (r.x:Int)] 208))=w0 at *
 refine (HBt.out).mono ?_
 rintro e w1 ⟨rfl,hb⟩
 have HF1:=Lib.hid (HF0.out.keep hb)
 have HB1:=Lib.hid (HB0.out.keep hb)
 have HR1:=Lib.hid (HR0.out.below hb)
 have HS1:Hid (w.heap.size < w1.heap.size):=Lib.hid (by have:=hb.size;have:=HS0.out;omega)
 clear hb HBt HF0 HB0 HR0 HS0 r0 r1
 have HLa:=Lib.hid (fl_last a b g f w1 HF1.out)
 generalize hx:f.l.getLastD Itm.z=x at *
 have HX:=Lib.hid hx
 clear hx
 go_wp2_with fail
 refine (HLa.out).mono ?_
 rintro e w2 ⟨rfl,hb⟩
 have HF2:=Lib.hid (HF1.out.keep hb)
 have HB2:=Lib.hid (HB1.out.keep hb)
 have HR2:=Lib.hid (HR1.out.below hb)
 have HS2:Hid (w.heap.size < w2.heap.size):=Lib.hid (by have:=hb.size;have:=HS1.out;omega)
 clear hb HLa HF1 HB1 HR1 HS1
 unfold rdgot Rd.agg
 have R0:Hid (EntRel w a b g f r (.pointer (some ⟨w2.heap.size,0,none⟩)) (.bool (!f.l.isEmpty)) (w2.alloc (.cells #[.int .u64 (x.t:Int),.int .u64 (x.x:Int)] 208))):=Lib.hid
  ⟨w2.heap.size,g,f.l,rfl,rfl,⟨HF2.out.head.alloc _,HF2.out.row.alloc _⟩,by rw [HX.out];exact Blk.new _ _ _,rfl,.inl rfl,HS2.out,by have:=HF2.out.lt;omega,HR2.out.alloc _,HB2.out.alloc _,Nat.le_refl _,fun _ h=>h⟩
 go_wp2_with fail
 go_loopw [5,6] (fun vz vo wr=>EntRel w a b g f r vz vo wr) (fun _ _ wr=>cntOf wr b)
 case atStart=>exact R0.out
 case round=>
  obtain ⟨z,g',l,rfl,rfl,hf,hz,hd,hg,hzs,hzg,hfr,hbx,hn,hs⟩:=hrel
  have HF:=Lib.hid hf
  have HZ:=Lib.hid hz
  have HD:=Lib.hid hd
  have HR:=Lib.hid hfr
  have HBx:=Lib.hid hbx
  have HG:=Lib.hid hg
  have HS:=Lib.hid hs
  have HN:=Lib.hid hn
  have HOk:=Lib.hid (FS.with_ok HO.out hn hs)
  have hwb:w.heap.size≠b:=by obtain ⟨cs,k⟩:=hf.row.head;exact hbx.ty k (by decide)
  have hwg:w.heap.size≠g':=by omega
  clear hf hz hd hg hfr hs hn hbx R0
  rcases List.eq_nil_or_concat l with rfl | ⟨k,y,rfl⟩
  ·have HE:Hid (popL (bt true r) f.l ++ [r]=([]:List Rd) ++ [r]):=Lib.hid (by rw [← hl,← HD.out];rfl)
   have HRw:=Lib.hid (HF.out.row.drawn (Drawn.drew _))
   have HPu:=Lib.hid (rd_push b g' r [] _ HRw.out (by simp))
   unfold Rd.agg at HPu
   have a1:=HF.out.head.drew.cell (i:=0) (v:=.pointer (some ⟨b,0,none⟩)) rfl
   have r0:=HBx.out.drew.cell (i:=0) (v:=.int .u64 (r.t:Int)) rfl
   have r1:=HBx.out.drew.cell (i:=1) (v:=.int .u64 (r.x:Int)) rfl
   go_wp2_with fail
   go_region_held3 (fun w'=>w'.cell? ⟨a,0,none⟩=some (.pointer (some ⟨b,0,none⟩))∧w'.cell? ⟨w.heap.size,0,none⟩=some (.int .u64 (r.t:Int))∧w'.cell? ⟨w.heap.size,1,none⟩=some (.int .u64 (r.x:Int)))
    (first | exact ⟨a1,r0,r1⟩ | exact ⟨b1,s0,s1⟩)
    (first | (go_at_call 298;refine (HPu.out).mono ?_;rintro e w' ⟨rfl,hat,hfr⟩;have HAt:=Lib.hid hat;have HFr:=Lib.hid hfr;have HA9:=Lib.hid (HF.out.head.drew.fr hfr (by simp;exact ⟨HF.out.ab,HF.out.ag⟩));have HB9:=Lib.hid (HBx.out.drew.fr hfr (by simp;exact ⟨hwb,hwg⟩));clear hat hfr;have b1:=HA9.out.cell (i:=0) (v:=.pointer (some ⟨b,0,none⟩)) rfl;have s0:=HB9.out.cell (i:=0) (v:=.int .u64 (r.t:Int)) rfl;have s1:=HB9.out.cell (i:=1) (v:=.int .u64 (r.x:Int)) rfl))
   go_wp2_with fail
   go_end0
   obtain ⟨g9,hg9,hq9⟩:=HAt.out
   rw [HE.out]
   refine ⟨rfl,⟨g9,⟨HA9.out,hg9⟩,?_⟩,((HR.out.drawn (Drawn.drew _)).trans HFr.out (by have:=HG.out;intro y hy;simp at hy ⊢;omega))⟩
   have h1:=HG.out
   have h2:=HR.out.size
   have h3:(World.drew wr).heap.size=(wr).heap.size:=rfl
   omega
  ·rw [List.concat_eq_append] at HF HZ HD HS HN HOk ⊢
   have hne:(!(k ++ [y]).isEmpty)=true:=by cases k <;> rfl
   have hla:(k ++ [y]).getLastD Itm.z=y:=by simp
   rw [hla] at HZ
   have HCl:=Lib.hid (fl_below r y wr)
   have z0:=HZ.out.cell (i:=0) (v:=.int .u64 (y.t:Int)) rfl
   have z1:=HZ.out.cell (i:=1) (v:=.int .u64 (y.x:Int)) rfl
   unfold Rd.agg at HCl
   rw [hne]
   clear hne hla
   go_wp2_with fail
   refine (HCl.out).mono ?_
   rintro e w3 ⟨rfl,hb⟩
   have HF3:=Lib.hid (HF.out.keep hb)
   have HZ3:=Lib.hid (HZ.out.keep hb)
   have HR3:=Lib.hid (HR.out.below hb)
   have HBx3:=Lib.hid (HBx.out.keep hb)
   clear hb HCl z0 z1 HZ HR HBx
   by_cases c:bt true r y=true
   ·have HD2:Hid (popL (bt f.least r) k=popL (bt f.least r) f.l):=Lib.hid (by rw [← HD.out,popL_snoc,if_pos (by rw [hl];exact c)])
    rw [c]
    have a1:=HF3.out.head.cell (i:=0) (v:=.pointer (some ⟨b,0,none⟩)) rfl
    have HSh:=Lib.hid (rd_pop b g' y k w3 HF3.out.row)
    clear HD c
    go_wp2_with fail
    refine (HSh.out).mono ?_
    rintro e w4 ⟨rfl,hat,hfr⟩
    obtain ⟨g2,hrow,hg2⟩:=hat
    have HA4:=Lib.hid (HF3.out.head.fr hfr (by simp;exact ⟨HF3.out.ab,HF3.out.ag⟩))
    have HRow4:=Lib.hid hrow
    have hzb:z≠b:=by obtain ⟨cs,k⟩:=HF3.out.row.head;exact HZ3.out.ty k (by decide)
    have HZ4:=Lib.hid (HZ3.out.fr hfr (by simp;exact ⟨hzb,hzg⟩))
    have HBx4:=Lib.hid (HBx3.out.fr hfr (by simp;exact ⟨hwb,hwg⟩))
    have HR4:=Lib.hid (HR3.out.trans hfr (by have:=HG.out;intro y hy;simp at hy ⊢;omega))
    have HG4:Hid (g2=g∨w.heap.size < g2):=Lib.hid (by have:=HG.out;have:=HR3.out.size;have:=HBx3.out.lt;omega)
    have z0:=HZ4.out.cell (i:=0) (v:=.int .u64 (y.t:Int)) rfl
    have z1:=HZ4.out.cell (i:=1) (v:=.int .u64 (y.x:Int)) rfl
    clear hrow hg2 hfr HSh a1 HZ3 HBx3 HR3
    unfold rdgot Rd.agg
    have HZ5:Hid (Blk (w4.alloc (.cells #[.int .u64 (y.t:Int),.int .u64 (y.x:Int)] 208)) w4.heap.size 208 #[.int .u64 (y.t:Int),.int .u64 (y.x:Int)]):=Lib.hid (Blk.new _ _ _)
    have HF5:Hid (FlAt (w4.alloc (.cells #[.int .u64 (y.t:Int),.int .u64 (y.x:Int)] 208)) a b g2 (f.with k)):=Lib.hid ⟨HA4.out.alloc _,HRow4.out.alloc _⟩
    have HR5:=Lib.hid (HR4.out.alloc (.cells #[.int .u64 (y.t:Int),.int .u64 (y.x:Int)] 208))
    have HBx5:=Lib.hid (HBx4.out.alloc (.cells #[.int .u64 (y.t:Int),.int .u64 (y.x:Int)] 208))
    have HQ5:Hid (w4.heap.size≠g2):=Lib.hid (by have:=HRow4.out.lt;omega)
    have HS5:Hid (w.heap.size < w4.heap.size):=Lib.hid HBx4.out.lt
    have HLa:=Lib.hid (fl_last a b g2 (f.with k) _ HF5.out)
    clear HA4 HRow4 HR4 HBx4
    generalize hy:(f.with k).l.getLastD Itm.z=v at *
    have HY:Hid (k.getLastD Itm.z=v):=Lib.hid hy
    clear hy
    go_wp2_with fail
    refine (HLa.out).mono ?_
    rintro e w5 ⟨rfl,hb⟩
    have HZ6:=Lib.hid (HZ5.out.keep hb)
    have HF6:=Lib.hid (HF5.out.keep hb)
    have HR6:=Lib.hid (HR5.out.below hb)
    have HBx6:=Lib.hid (HBx5.out.keep hb)
    clear hb HLa HZ5 HF5 HR5 HBx5 z0 z1
    unfold rdgot Rd.agg
    have z0:=HZ6.out.cell (i:=0) (v:=.int .u64 (y.t:Int)) rfl
    have z1:=HZ6.out.cell (i:=1) (v:=.int .u64 (y.x:Int)) rfl
    have f0:=HZ6.out.free 0
    have f1:=HZ6.out.free 1
    generalize w4.heap.size=q at *
    go_wp2_with fail
    have HZ7:Hid (Blk ((w5.setCell ⟨q,0,none⟩ (.int .u64 (v.t:Int))).setCell ⟨q,1,none⟩ (.int .u64 (v.x:Int))) q 208 (Itm.cs v).toArray):=Lib.hid (Blk.whole (Itm.cs v) HZ6.out rfl)
    have hqa:a≠q:=HF6.out.head.ty HZ6.out (by decide)
    have hqb:b≠q:=by obtain ⟨cs,k⟩:=HF6.out.row.head;exact k.ty HZ6.out (by decide)
    have hqw:w.heap.size≠q:=by have:=HS5.out;omega
    have HF7:Hid (FlAt ((w5.setCell ⟨q,0,none⟩ (.int .u64 (v.t:Int))).setCell ⟨q,1,none⟩ (.int .u64 (v.x:Int))) a b g2 (f.with k)):=Lib.hid ⟨(HF6.out.head.set_other _ _ hqa).set_other _ _ hqa,(HF6.out.row.set_other hqb (Ne.symm HQ5.out)).set_other hqb (Ne.symm HQ5.out)⟩
    have HR7:Hid (Fr w ((w5.setCell ⟨q,0,none⟩ (.int .u64 (v.t:Int))).setCell ⟨q,1,none⟩ (.int .u64 (v.x:Int))) [a,b,g]):=Lib.hid ((HR6.out.set (.inr (Nat.le_of_lt HS5.out)) _ _).set (.inr (Nat.le_of_lt HS5.out)) _ _)
    have HBx7:Hid (Blk ((w5.setCell ⟨q,0,none⟩ (.int .u64 (v.t:Int))).setCell ⟨q,1,none⟩ (.int .u64 (v.x:Int))) w.heap.size 208 #[.int .u64 (r.t:Int),.int .u64 (r.x:Int)]):=Lib.hid ((HBx6.out.set_other _ _ hqw).set_other _ _ hqw)
    generalize ((w5.setCell ⟨q,0,none⟩ (.int .u64 (v.t:Int))).setCell ⟨q,1,none⟩ (.int .u64 (v.x:Int)))=w6 at *
    clear z0 z1 f0 f1 HZ6 HF6 HR6 HBx6
    go_roundw
    case rel=>exact ⟨q,g2,k,rfl,rfl,HF7.out,by rw [HY.out];exact HZ7.out,HD2.out,HG4.out,HS5.out,HQ5.out,HR7.out,HBx7.out,by have:=HN.out;simp at this;omega,fun s hs=>HS.out s (by simp [hs])⟩
    case measure=>rw [HF7.out.row.cnt,HF.out.row.cnt];simp [FS.with]
   ·have HE:Hid (popL (bt true r) f.l ++ [r]=(k ++ [y]) ++ [r]):=Lib.hid (by rw [← hl,← HD.out,popL_snoc,if_neg (by rw [hl];exact c)])
    rw [eq_false_of_ne_true c]
    clear c
    have HRw:=Lib.hid (HF3.out.row.drawn (Drawn.drew _))
    have HPu:=Lib.hid (rd_push b g' r (k ++ [y]) _ HRw.out (by have:=HOk.out.n;simpa [FS.with] using this))
    unfold Rd.agg at HPu
    have a1:=HF3.out.head.drew.cell (i:=0) (v:=.pointer (some ⟨b,0,none⟩)) rfl
    have r0:=HBx3.out.drew.cell (i:=0) (v:=.int .u64 (r.t:Int)) rfl
    have r1:=HBx3.out.drew.cell (i:=1) (v:=.int .u64 (r.x:Int)) rfl
    go_wp2_with fail
    go_region_held3 (fun w'=>w'.cell? ⟨a,0,none⟩=some (.pointer (some ⟨b,0,none⟩))∧w'.cell? ⟨w.heap.size,0,none⟩=some (.int .u64 (r.t:Int))∧w'.cell? ⟨w.heap.size,1,none⟩=some (.int .u64 (r.x:Int)))
     (first | exact ⟨a1,r0,r1⟩ | exact ⟨b1,s0,s1⟩)
     (first | (go_at_call 298;refine (HPu.out).mono ?_;rintro e w' ⟨rfl,hat,hfr⟩;have HAt:=Lib.hid hat;have HFr:=Lib.hid hfr;have HA9:=Lib.hid (HF3.out.head.drew.fr hfr (by simp;exact ⟨HF3.out.ab,HF3.out.ag⟩));have HB9:=Lib.hid (HBx3.out.drew.fr hfr (by simp;exact ⟨hwb,hwg⟩));clear hat hfr;have b1:=HA9.out.cell (i:=0) (v:=.pointer (some ⟨b,0,none⟩)) rfl;have s0:=HB9.out.cell (i:=0) (v:=.int .u64 (r.t:Int)) rfl;have s1:=HB9.out.cell (i:=1) (v:=.int .u64 (r.x:Int)) rfl))
    go_wp2_with fail
    go_end0
    obtain ⟨g9,hg9,hq9⟩:=HAt.out
    rw [HE.out]
    refine ⟨rfl,⟨g9,⟨HA9.out,hg9⟩,?_⟩,((HR3.out.drawn (Drawn.drew _)).trans HFr.out (by have:=HG.out;intro y hy;simp at hy ⊢;omega))⟩
    have h1:=HG.out
    have h2:=HR3.out.size
    have h3:(World.drew w3).heap.size=(w3).heap.size:=rfl
    omega
set_option maxHeartbeats 2000000 in
theorem fl_enter_most (a b g:Nat) (f:FS) (r:Rd) (w:World) (h:FlAt w a b g f) (ho:f.ok) (hl:f.least=false):
  Calls Tryz.prog 282 #[.pointer (some ⟨a,0,none⟩),r.agg] w (FPost w a b g (.returned (.tuple #[])) (f.with (popL (bt f.least r) f.l ++ [r]))):=by
 have HO:=Lib.hid ho
 have HF0:Hid (FlAt (w.alloc (.cells #[.int .u64 (r.t:Int),.int .u64 (r.x:Int)] 208)) a b g f):=Lib.hid ⟨h.head.alloc _,h.row.alloc _⟩
 have HB0:Hid (Blk (w.alloc (.cells #[.int .u64 (r.t:Int),.int .u64 (r.x:Int)] 208)) w.heap.size 208 #[.int .u64 (r.t:Int),.int .u64 (r.x:Int)]):=Lib.hid (Blk.new _ _ _)
 have HR0:Hid (Fr w (w.alloc (.cells #[.int .u64 (r.t:Int),.int .u64 (r.x:Int)] 208)) [a,b,g]):=Lib.hid ((Fr.refl _ _).alloc _)
 have HS0:Hid ((w.alloc (.cells #[.int .u64 (r.t:Int),.int .u64 (r.x:Int)] 208)).heap.size=w.heap.size + 1):=Lib.hid (by simp)
 have HBt:=Lib.hid (fl_better a b g f r (w.alloc (.cells #[.int .u64 (r.t:Int),.int .u64 (r.x:Int)] 208)) HF0.out)
 have hbe:beats f.least r=.func (.func 304) #[r.agg] #[]:=by rw [hl];rfl
 rw [hbe] at HBt
 clear hbe
 unfold Rd.agg at HBt ⊢
 have hal:=h.lt
 have r0:=HB0.out.cell (i:=0) (v:=.int .u64 (r.t:Int)) rfl
 have r1:=HB0.out.cell (i:=1) (v:=.int .u64 (r.x:Int)) rfl
 clear h ho
 rw [hl]
 go_enter Tryz.func282,Tryz.ntmps282
 go_wp2_with fail
 generalize (w.alloc (.cells #[.int .u64 (r.t:Int),.int .u64 (r.x:Int)] 208))=w0 at *
 refine (HBt.out).mono ?_
 rintro e w1 ⟨rfl,hb⟩
 have HF1:=Lib.hid (HF0.out.keep hb)
 have HB1:=Lib.hid (HB0.out.keep hb)
 have HR1:=Lib.hid (HR0.out.below hb)
 have HS1:Hid (w.heap.size < w1.heap.size):=Lib.hid (by have:=hb.size;have:=HS0.out;omega)
 clear hb HBt HF0 HB0 HR0 HS0 r0 r1
 have HLa:=Lib.hid (fl_last a b g f w1 HF1.out)
 generalize hx:f.l.getLastD Itm.z=x at *
 have HX:=Lib.hid hx
 clear hx
 go_wp2_with fail
 refine (HLa.out).mono ?_
 rintro e w2 ⟨rfl,hb⟩
 have HF2:=Lib.hid (HF1.out.keep hb)
 have HB2:=Lib.hid (HB1.out.keep hb)
 have HR2:=Lib.hid (HR1.out.below hb)
 have HS2:Hid (w.heap.size < w2.heap.size):=Lib.hid (by have:=hb.size;have:=HS1.out;omega)
 clear hb HLa HF1 HB1 HR1 HS1
 unfold rdgot Rd.agg
 have R0:Hid (EntRel w a b g f r (.pointer (some ⟨w2.heap.size,0,none⟩)) (.bool (!f.l.isEmpty)) (w2.alloc (.cells #[.int .u64 (x.t:Int),.int .u64 (x.x:Int)] 208))):=Lib.hid
  ⟨w2.heap.size,g,f.l,rfl,rfl,⟨HF2.out.head.alloc _,HF2.out.row.alloc _⟩,by rw [HX.out];exact Blk.new _ _ _,rfl,.inl rfl,HS2.out,by have:=HF2.out.lt;omega,HR2.out.alloc _,HB2.out.alloc _,Nat.le_refl _,fun _ h=>h⟩
 go_wp2_with fail
 go_loopw [5,6] (fun vz vo wr=>EntRel w a b g f r vz vo wr) (fun _ _ wr=>cntOf wr b)
 case atStart=>exact R0.out
 case round=>
  obtain ⟨z,g',l,rfl,rfl,hf,hz,hd,hg,hzs,hzg,hfr,hbx,hn,hs⟩:=hrel
  have HF:=Lib.hid hf
  have HZ:=Lib.hid hz
  have HD:=Lib.hid hd
  have HR:=Lib.hid hfr
  have HBx:=Lib.hid hbx
  have HG:=Lib.hid hg
  have HS:=Lib.hid hs
  have HN:=Lib.hid hn
  have HOk:=Lib.hid (FS.with_ok HO.out hn hs)
  have hwb:w.heap.size≠b:=by obtain ⟨cs,k⟩:=hf.row.head;exact hbx.ty k (by decide)
  have hwg:w.heap.size≠g':=by omega
  clear hf hz hd hg hfr hs hn hbx R0
  rcases List.eq_nil_or_concat l with rfl | ⟨k,y,rfl⟩
  ·have HE:Hid (popL (bt false r) f.l ++ [r]=([]:List Rd) ++ [r]):=Lib.hid (by rw [← hl,← HD.out];rfl)
   have HRw:=Lib.hid (HF.out.row.drawn (Drawn.drew _))
   have HPu:=Lib.hid (rd_push b g' r [] _ HRw.out (by simp))
   unfold Rd.agg at HPu
   have a1:=HF.out.head.drew.cell (i:=0) (v:=.pointer (some ⟨b,0,none⟩)) rfl
   have r0:=HBx.out.drew.cell (i:=0) (v:=.int .u64 (r.t:Int)) rfl
   have r1:=HBx.out.drew.cell (i:=1) (v:=.int .u64 (r.x:Int)) rfl
   go_wp2_with fail
   go_region_held3 (fun w'=>w'.cell? ⟨a,0,none⟩=some (.pointer (some ⟨b,0,none⟩))∧w'.cell? ⟨w.heap.size,0,none⟩=some (.int .u64 (r.t:Int))∧w'.cell? ⟨w.heap.size,1,none⟩=some (.int .u64 (r.x:Int)))
    (first | exact ⟨a1,r0,r1⟩ | exact ⟨b1,s0,s1⟩)
    (first | (go_at_call 298;refine (HPu.out).mono ?_;rintro e w' ⟨rfl,hat,hfr⟩;have HAt:=Lib.hid hat;have HFr:=Lib.hid hfr;have HA9:=Lib.hid (HF.out.head.drew.fr hfr (by simp;exact ⟨HF.out.ab,HF.out.ag⟩));have HB9:=Lib.hid (HBx.out.drew.fr hfr (by simp;exact ⟨hwb,hwg⟩));clear hat hfr;have b1:=HA9.out.cell (i:=0) (v:=.pointer (some ⟨b,0,none⟩)) rfl;have s0:=HB9.out.cell (i:=0) (v:=.int .u64 (r.t:Int)) rfl;have s1:=HB9.out.cell (i:=1) (v:=.int .u64 (r.x:Int)) rfl))
   go_wp2_with fail
   go_end0
   obtain ⟨g9,hg9,hq9⟩:=HAt.out
   rw [HE.out]
   refine ⟨rfl,⟨g9,⟨HA9.out,hg9⟩,?_⟩,((HR.out.drawn (Drawn.drew _)).trans HFr.out (by have:=HG.out;intro y hy;simp at hy ⊢;omega))⟩
   have h1:=HG.out
   have h2:=HR.out.size
   have h3:(World.drew wr).heap.size=(wr).heap.size:=rfl
   omega
  ·rw [List.concat_eq_append] at HF HZ HD HS HN HOk ⊢
   have hne:(!(k ++ [y]).isEmpty)=true:=by cases k <;> rfl
   have hla:(k ++ [y]).getLastD Itm.z=y:=by simp
   rw [hla] at HZ
   have HCl:=Lib.hid (fl_above r y wr)
   have z0:=HZ.out.cell (i:=0) (v:=.int .u64 (y.t:Int)) rfl
   have z1:=HZ.out.cell (i:=1) (v:=.int .u64 (y.x:Int)) rfl
   unfold Rd.agg at HCl
   rw [hne]
   clear hne hla
   go_wp2_with fail
   refine (HCl.out).mono ?_
   rintro e w3 ⟨rfl,hb⟩
   have HF3:=Lib.hid (HF.out.keep hb)
   have HZ3:=Lib.hid (HZ.out.keep hb)
   have HR3:=Lib.hid (HR.out.below hb)
   have HBx3:=Lib.hid (HBx.out.keep hb)
   clear hb HCl z0 z1 HZ HR HBx
   by_cases c:bt false r y=true
   ·have HD2:Hid (popL (bt f.least r) k=popL (bt f.least r) f.l):=Lib.hid (by rw [← HD.out,popL_snoc,if_pos (by rw [hl];exact c)])
    rw [c]
    have a1:=HF3.out.head.cell (i:=0) (v:=.pointer (some ⟨b,0,none⟩)) rfl
    have HSh:=Lib.hid (rd_pop b g' y k w3 HF3.out.row)
    clear HD c
    go_wp2_with fail
    refine (HSh.out).mono ?_
    rintro e w4 ⟨rfl,hat,hfr⟩
    obtain ⟨g2,hrow,hg2⟩:=hat
    have HA4:=Lib.hid (HF3.out.head.fr hfr (by simp;exact ⟨HF3.out.ab,HF3.out.ag⟩))
    have HRow4:=Lib.hid hrow
    have hzb:z≠b:=by obtain ⟨cs,k⟩:=HF3.out.row.head;exact HZ3.out.ty k (by decide)
    have HZ4:=Lib.hid (HZ3.out.fr hfr (by simp;exact ⟨hzb,hzg⟩))
    have HBx4:=Lib.hid (HBx3.out.fr hfr (by simp;exact ⟨hwb,hwg⟩))
    have HR4:=Lib.hid (HR3.out.trans hfr (by have:=HG.out;intro y hy;simp at hy ⊢;omega))
    have HG4:Hid (g2=g∨w.heap.size < g2):=Lib.hid (by have:=HG.out;have:=HR3.out.size;have:=HBx3.out.lt;omega)
    have z0:=HZ4.out.cell (i:=0) (v:=.int .u64 (y.t:Int)) rfl
    have z1:=HZ4.out.cell (i:=1) (v:=.int .u64 (y.x:Int)) rfl
    clear hrow hg2 hfr HSh a1 HZ3 HBx3 HR3
    unfold rdgot Rd.agg
    have HZ5:Hid (Blk (w4.alloc (.cells #[.int .u64 (y.t:Int),.int .u64 (y.x:Int)] 208)) w4.heap.size 208 #[.int .u64 (y.t:Int),.int .u64 (y.x:Int)]):=Lib.hid (Blk.new _ _ _)
    have HF5:Hid (FlAt (w4.alloc (.cells #[.int .u64 (y.t:Int),.int .u64 (y.x:Int)] 208)) a b g2 (f.with k)):=Lib.hid ⟨HA4.out.alloc _,HRow4.out.alloc _⟩
    have HR5:=Lib.hid (HR4.out.alloc (.cells #[.int .u64 (y.t:Int),.int .u64 (y.x:Int)] 208))
    have HBx5:=Lib.hid (HBx4.out.alloc (.cells #[.int .u64 (y.t:Int),.int .u64 (y.x:Int)] 208))
    have HQ5:Hid (w4.heap.size≠g2):=Lib.hid (by have:=HRow4.out.lt;omega)
    have HS5:Hid (w.heap.size < w4.heap.size):=Lib.hid HBx4.out.lt
    have HLa:=Lib.hid (fl_last a b g2 (f.with k) _ HF5.out)
    clear HA4 HRow4 HR4 HBx4
    generalize hy:(f.with k).l.getLastD Itm.z=v at *
    have HY:Hid (k.getLastD Itm.z=v):=Lib.hid hy
    clear hy
    go_wp2_with fail
    refine (HLa.out).mono ?_
    rintro e w5 ⟨rfl,hb⟩
    have HZ6:=Lib.hid (HZ5.out.keep hb)
    have HF6:=Lib.hid (HF5.out.keep hb)
    have HR6:=Lib.hid (HR5.out.below hb)
    have HBx6:=Lib.hid (HBx5.out.keep hb)
    clear hb HLa HZ5 HF5 HR5 HBx5 z0 z1
    unfold rdgot Rd.agg
    have z0:=HZ6.out.cell (i:=0) (v:=.int .u64 (y.t:Int)) rfl
    have z1:=HZ6.out.cell (i:=1) (v:=.int .u64 (y.x:Int)) rfl
    have f0:=HZ6.out.free 0
    have f1:=HZ6.out.free 1
    generalize w4.heap.size=q at *
    go_wp2_with fail
    have HZ7:Hid (Blk ((w5.setCell ⟨q,0,none⟩ (.int .u64 (v.t:Int))).setCell ⟨q,1,none⟩ (.int .u64 (v.x:Int))) q 208 (Itm.cs v).toArray):=Lib.hid (Blk.whole (Itm.cs v) HZ6.out rfl)
    have hqa:a≠q:=HF6.out.head.ty HZ6.out (by decide)
    have hqb:b≠q:=by obtain ⟨cs,k⟩:=HF6.out.row.head;exact k.ty HZ6.out (by decide)
    have hqw:w.heap.size≠q:=by have:=HS5.out;omega
    have HF7:Hid (FlAt ((w5.setCell ⟨q,0,none⟩ (.int .u64 (v.t:Int))).setCell ⟨q,1,none⟩ (.int .u64 (v.x:Int))) a b g2 (f.with k)):=Lib.hid ⟨(HF6.out.head.set_other _ _ hqa).set_other _ _ hqa,(HF6.out.row.set_other hqb (Ne.symm HQ5.out)).set_other hqb (Ne.symm HQ5.out)⟩
    have HR7:Hid (Fr w ((w5.setCell ⟨q,0,none⟩ (.int .u64 (v.t:Int))).setCell ⟨q,1,none⟩ (.int .u64 (v.x:Int))) [a,b,g]):=Lib.hid ((HR6.out.set (.inr (Nat.le_of_lt HS5.out)) _ _).set (.inr (Nat.le_of_lt HS5.out)) _ _)
    have HBx7:Hid (Blk ((w5.setCell ⟨q,0,none⟩ (.int .u64 (v.t:Int))).setCell ⟨q,1,none⟩ (.int .u64 (v.x:Int))) w.heap.size 208 #[.int .u64 (r.t:Int),.int .u64 (r.x:Int)]):=Lib.hid ((HBx6.out.set_other _ _ hqw).set_other _ _ hqw)
    generalize ((w5.setCell ⟨q,0,none⟩ (.int .u64 (v.t:Int))).setCell ⟨q,1,none⟩ (.int .u64 (v.x:Int)))=w6 at *
    clear z0 z1 f0 f1 HZ6 HF6 HR6 HBx6
    go_roundw
    case rel=>exact ⟨q,g2,k,rfl,rfl,HF7.out,by rw [HY.out];exact HZ7.out,HD2.out,HG4.out,HS5.out,HQ5.out,HR7.out,HBx7.out,by have:=HN.out;simp at this;omega,fun s hs=>HS.out s (by simp [hs])⟩
    case measure=>rw [HF7.out.row.cnt,HF.out.row.cnt];simp [FS.with]
   ·have HE:Hid (popL (bt false r) f.l ++ [r]=(k ++ [y]) ++ [r]):=Lib.hid (by rw [← hl,← HD.out,popL_snoc,if_neg (by rw [hl];exact c)])
    rw [eq_false_of_ne_true c]
    clear c
    have HRw:=Lib.hid (HF3.out.row.drawn (Drawn.drew _))
    have HPu:=Lib.hid (rd_push b g' r (k ++ [y]) _ HRw.out (by have:=HOk.out.n;simpa [FS.with] using this))
    unfold Rd.agg at HPu
    have a1:=HF3.out.head.drew.cell (i:=0) (v:=.pointer (some ⟨b,0,none⟩)) rfl
    have r0:=HBx3.out.drew.cell (i:=0) (v:=.int .u64 (r.t:Int)) rfl
    have r1:=HBx3.out.drew.cell (i:=1) (v:=.int .u64 (r.x:Int)) rfl
    go_wp2_with fail
    go_region_held3 (fun w'=>w'.cell? ⟨a,0,none⟩=some (.pointer (some ⟨b,0,none⟩))∧w'.cell? ⟨w.heap.size,0,none⟩=some (.int .u64 (r.t:Int))∧w'.cell? ⟨w.heap.size,1,none⟩=some (.int .u64 (r.x:Int)))
     (first | exact ⟨a1,r0,r1⟩ | exact ⟨b1,s0,s1⟩)
     (first | (go_at_call 298;refine (HPu.out).mono ?_;rintro e w' ⟨rfl,hat,hfr⟩;have HAt:=Lib.hid hat;have HFr:=Lib.hid hfr;have HA9:=Lib.hid (HF3.out.head.drew.fr hfr (by simp;exact ⟨HF3.out.ab,HF3.out.ag⟩));have HB9:=Lib.hid (HBx3.out.drew.fr hfr (by simp;exact ⟨hwb,hwg⟩));clear hat hfr;have b1:=HA9.out.cell (i:=0) (v:=.pointer (some ⟨b,0,none⟩)) rfl;have s0:=HB9.out.cell (i:=0) (v:=.int .u64 (r.t:Int)) rfl;have s1:=HB9.out.cell (i:=1) (v:=.int .u64 (r.x:Int)) rfl))
    go_wp2_with fail
    go_end0
    obtain ⟨g9,hg9,hq9⟩:=HAt.out
    rw [HE.out]
    refine ⟨rfl,⟨g9,⟨HA9.out,hg9⟩,?_⟩,((HR3.out.drawn (Drawn.drew _)).trans HFr.out (by have:=HG.out;intro y hy;simp at hy ⊢;omega))⟩
    have h1:=HG.out
    have h2:=HR3.out.size
    have h3:(World.drew w3).heap.size=(w3).heap.size:=rfl
    omega
theorem fl_enter (a b g:Nat) (f:FS) (r:Rd) (w:World) (h:FlAt w a b g f) (ho:f.ok):
  Calls Tryz.prog 282 #[.pointer (some ⟨a,0,none⟩),r.agg] w (FPost w a b g (.returned (.tuple #[])) (f.with (popL (bt f.least r) f.l ++ [r]))):=by
 rcases hl:f.least
 ·have:=fl_enter_most a b g f r w h ho hl
  rw [hl] at this;exact this
 ·have:=fl_enter_least a b g f r w h ho hl
  rw [hl] at this;exact this
end Go.Proofs.YteoepabmnbkabaaGreatDoor

set_option linter.unusedVariables false
namespace Go.Proofs.YteoepabmnbkabaaGreatDoor
open Go.RowKit Pl
set_option maxHeartbeats 1000000 in
theorem fl_To (a b g t:Nat) (f:FS) (w:World) (h:FlAt w a b g f) (ho:f.ok) (ht:t≤18446744073709551615):
  Calls Tryz.prog 233 #[.pointer (some ⟨a,0,none⟩),.int .u64 (t:Int)] w (FPost w a b g (.returned (.int .i64 (f.err t))) (f.to t)):=by
 have HH:=Lib.hid h
 have HO:=Lib.hid ho
 have a2:=h.head.cell (i:=2) (v:=.int .u64 (f.t:Int)) rfl
 have f2:=h.head.free 2
 clear h ho
 by_cases c:t < f.t
 ·have d0:decide (t < f.t)=true:=by simpa using c
  have HE:Hid (f.to t=f∧f.err t=2):=Lib.hid ⟨by unfold FS.to;rw [if_pos c],by unfold FS.err;rw [if_pos c]⟩
  clear c
  go_enter Tryz.func233,Tryz.ntmps233
  go_wp2_with fail
  go_ret
  rw [HE.out.1,HE.out.2]
  exact ⟨rfl,⟨g,HH.out,.inl rfl⟩,Fr.refl _ _⟩
 ·have d0:decide (t < f.t)=false:=by simpa using c
  have HE:Hid (f.to t=(⟨f.win,t,f.least,f.l⟩:FS).with (f.l.dropWhile fun r=>!cnts f.win t r)∧f.err t=0):=Lib.hid ⟨FS.to_t f t c,by unfold FS.err;rw [if_neg c]⟩
  clear c
  go_enter Tryz.func233,Tryz.ntmps233
  go_wp2_with fail
  have HF1:Hid (FlAt (w.setCell ⟨a,2,none⟩ (.int .u64 (t:Int))) a b g ⟨f.win,t,f.least,f.l⟩):=Lib.hid ⟨by have:=HH.out.head.set 2 (.int .u64 (t:Int));simpa [fcells] using this,HH.out.row.set_other (Ne.symm HH.out.ab) (Ne.symm HH.out.ag)⟩
  have HR1:Hid (Fr w (w.setCell ⟨a,2,none⟩ (.int .u64 (t:Int))) [a,b,g]):=Lib.hid ((Fr.refl _ _).set (by simp) _ _)
  generalize (w.setCell ⟨a,2,none⟩ (.int .u64 (t:Int)))=w1 at *
  refine (fl_forget a b g ⟨f.win,t,f.least,f.l⟩ w1 HF1.out ⟨HO.out.win,ht,HO.out.l,HO.out.n⟩).mono ?_
  rintro e w2 ⟨rfl,hat,hfr⟩
  have HA:=Lib.hid hat
  have HF:=Lib.hid hfr
  clear hat hfr
  go_wp2_with fail
  go_ret
  obtain ⟨g',h1,h2⟩:=HA.out
  rw [HE.out.1,HE.out.2]
  exact ⟨rfl,⟨g',h1,by have:=HR1.out.size;omega⟩,HR1.out.trans HF.out (fun y hy=>.inl hy)⟩
theorem FS.err_to (f:FS) (t:Nat):(f.err t=2∧t < f.t)∨(f.err t=0∧¬ t < f.t):=by
 unfold FS.err;split <;> simp_all
set_option maxHeartbeats 1000000 in
theorem fl_Put (a b g t x:Nat) (f:FS) (w:World) (h:FlAt w a b g f) (ho:f.ok) (ht:t≤18446744073709551615):
  Calls Tryz.prog 234 #[.pointer (some ⟨a,0,none⟩),.int .u64 (t:Int),.int .u64 (x:Int)] w (FPost w a b g (.returned (.int .i64 (f.err t))) (f.put t x)):=by
 have HT:=Lib.hid (fl_To a b g t f w h ho ht)
 have HO:=Lib.hid (FS.to_ok ho ht)
 clear h ho
 rcases FS.err_to f t with ⟨e1,c⟩ | ⟨e1,c⟩
 ·rw [e1] at HT ⊢
  have HE:Hid (f.put t x=f.to t):=Lib.hid (by unfold FS.put FS.to;rw [if_pos c,if_pos c])
  clear e1 c
  go_enter Tryz.func234,Tryz.ntmps234
  go_wp2_with fail
  refine (HT.out).mono ?_
  rintro e w2 ⟨rfl,hat,hfr⟩
  have HA:=Lib.hid hat
  have HF:=Lib.hid hfr
  clear hat hfr HT
  go_wp2_with fail
  go_ret
  rw [HE.out]
  exact ⟨rfl,HA.out,HF.out⟩
 ·rw [e1] at HT ⊢
  have HE:Hid (f.put t x=(f.to t).with (popL (bt (f.to t).least ⟨t,x⟩) (f.to t).l ++ [⟨t,x⟩])):=Lib.hid (by rw [FS.put_t f t x c,FS.to_least,FS.to_t f t c];rfl)
  clear e1 c
  generalize f.to t=q at *
  go_enter Tryz.func234,Tryz.ntmps234
  go_wp2_with fail
  refine (HT.out).mono ?_
  rintro e w2 ⟨rfl,hat,hfr⟩
  obtain ⟨g1,hf1,hq1⟩:=hat
  have HF1:=Lib.hid hf1
  have HR1:=Lib.hid hfr
  have HG1:=Lib.hid hq1
  clear hf1 hq1 hfr HT
  have HEn:Hid (Calls Tryz.prog 282 #[.pointer (some ⟨a,0,none⟩),.agg #[.int .u64 (t:Int),.int .u64 (x:Int)]] w2 (FPost w2 a b g1 (.returned (.tuple #[])) (q.with (popL (bt q.least ⟨t,x⟩) q.l ++ [⟨t,x⟩])))):=Lib.hid (fl_enter a b g1 q ⟨t,x⟩ w2 HF1.out HO.out)
  go_wp2_with fail
  refine (HEn.out).mono ?_
  rintro e w3 ⟨rfl,hat,hfr⟩
  have HA:=Lib.hid hat
  have HF:=Lib.hid hfr
  clear hat hfr HEn
  go_wp2_with fail
  go_ret
  obtain ⟨g',h1,h2⟩:=HA.out
  rw [HE.out]
  refine ⟨rfl,⟨g',h1,?_⟩,HR1.out.trans HF.out (by have:=HG1.out;intro y hy;simp at hy ⊢;omega)⟩
  have:=HR1.out.size
  have:=HG1.out
  omega
def bestV (f:FS):Value:=.tuple #[.int .u64 (f.best.x:Int),.int .u64 (f.best.t:Int),.bool f.some]
set_option maxHeartbeats 400000 in
theorem fl_Best (a b g:Nat) (f:FS) (w:World) (h:FlAt w a b g f):
  Calls Tryz.prog 64 #[.pointer (some ⟨a,0,none⟩)] w fun e w'=>e=.returned (bestV f)∧Below w.heap.size w w':=by
 have HQ:=Lib.hid (rd_first b g f.l w h.row)
 have hz:f.l.headD Itm.z=f.best:=rfl
 have hs:(!f.l.isEmpty)=f.some:=rfl
 rw [hz,hs] at HQ
 have a0:=h.head.cell (i:=0) (v:=.pointer (some ⟨b,0,none⟩)) rfl
 clear h hz hs
 unfold bestV
 generalize f.best=x at *
 generalize f.some=o at *
 go_enter Tryz.func64,Tryz.ntmps64
 go_wp2_with fail
 refine (HQ.out).mono ?_
 rintro e w1 ⟨rfl,hb⟩
 have HB:=Lib.hid hb
 clear hb
 unfold rdgot Rd.agg
 go_wp2_with fail
 have HX:Hid (Blk (w1.alloc (.cells #[.int .u64 (x.t:Int),.int .u64 (x.x:Int)] 208)) w1.heap.size 208 #[.int .u64 (x.t:Int),.int .u64 (x.x:Int)]):=Lib.hid (Blk.new _ _ _)
 have x0:=HX.out.cell (i:=0) (v:=.int .u64 (x.t:Int)) rfl
 have x1:=HX.out.cell (i:=1) (v:=.int .u64 (x.x:Int)) rfl
 have HB2:=Lib.hid (HB.out.alloc HB.out.size (.cells #[.int .u64 (x.t:Int),.int .u64 (x.x:Int)] 208))
 generalize (w1.alloc (.cells #[.int .u64 (x.t:Int),.int .u64 (x.x:Int)] 208))=w2 at *
 go_quiet (fail)
 have HD:Hid (Drawn w2 (w2.drewN nq)):=Lib.hid ⟨nq,rfl⟩
 go_wp2_with fail
 go_ret3
 exact ⟨rfl,HB2.out.trans (HD.out.below _)⟩
structure FMade (w:World) (f:FS) (e:Ending) (w':World):Prop where
 at_:∃a b g,e=.returned (.pointer (some ⟨a,0,none⟩))∧FlAt w' a b g f∧w.heap.size≤a∧w.heap.size≤b∧w.heap.size≤g
 bel:Below w.heap.size w w'
set_option maxHeartbeats 400000 in
theorem fl_Least (win:Nat) (w:World):Calls Tryz.prog 68 #[.int .u64 (win:Int)] w (FMade w ⟨win,0,true,[]⟩):=by
 have HN:Hid (Calls Tryz.prog 135 #[.slice none 0 0] w (RdMade w [])):=Lib.hid (rd_new none 0 [] w (Its.none _ _) (by simp))
 go_enter Tryz.func68,Tryz.ntmps68
 go_wp2_with fail
 refine (HN.out).mono ?_
 rintro e w1 ⟨⟨b,g,rfl,hr,hb,hg⟩,hbel⟩
 have HR:=Lib.hid hr
 have HB:=Lib.hid hbel
 clear hr hbel HN
 go_wp2_with fail
 go_ret
 exact ⟨⟨w1.heap.size,b,g,rfl,⟨Blk.new _ _ _,HR.out.alloc _⟩,HB.out.size,hb,hg⟩,HB.out.alloc HB.out.size _⟩
end Go.Proofs.YteoepabmnbkabaaGreatDoor

set_option linter.unusedVariables false
namespace Go.Proofs.YteoepabmnbkabaaGreatDoor
open Go.RowKit
def lcells (rb:Nat) (s:LS):Array Value:=
 #[.pointer (some ⟨rb,0,none⟩),.int .i64 ((outK s.ks).length:Int),.int .u64 ((tot s.ks / M64:Nat):Int),.int .u64 ((tot s.ks % M64:Nat):Int),.bool s.mixed,.int .u64 (s.reorder:Int),.int .u64 (s.next:Int),.int .u64 (s.top:Int),.bool s.topped]
def itemsK (ks:List Kp):List Nat:=ks.map fun k=>k.b + 1
structure LAt (w:World) (b rb g:Nat) (s:LS):Prop where
 head:Blk w b 140 (lcells rb s)
 row:KRow w rb g (itemsK s.ks)
 kept:∀k∈s.ks,Blk w k.b 203 (Kp.cells k.p k.gone)
def blocksL (b rb g:Nat) (s:LS):List Nat:=b :: rb :: g :: s.ks.map Kp.b
theorem LAt.keepX {w w':World} {b rb g:Nat} {s:LS} (h:LAt w b rb g s) (k:∀x T cs,x∈blocksL b rb g s→Blk w x T cs→w'.heap[x]? =w.heap[x]?):LAt w' b rb g s:=by
 refine ⟨?_,h.row.blk2 fun x T cs hx hb=>k x T cs (by rcases hx with rfl | rfl <;> simp [blocksL]) hb,fun x hx=>?_⟩
 ·unfold Blk;rw [k b _ _ (by simp [blocksL]) h.head];exact h.head
 ·unfold Blk;rw [k x.b _ _ (by unfold blocksL;exact List.mem_cons_of_mem _ (List.mem_cons_of_mem _ (List.mem_cons_of_mem _ (List.mem_map_of_mem hx)))) (h.kept x hx)];exact h.kept x hx
theorem LAt.keep {w w':World} {b rb g:Nat} {s:LS} (h:LAt w b rb g s) (k:Below w.heap.size w w'):LAt w' b rb g s:=h.keepX fun x T cs _ hb=>k.block x hb.lt
theorem LAt.drawn {w w':World} {b rb g:Nat} {s:LS} (h:LAt w b rb g s) (k:Drawn w w'):LAt w' b rb g s:=h.keep (k.below _)
theorem LAt.alloc {w:World} {b rb g:Nat} {s:LS} (h:LAt w b rb g s) (o:Obj):LAt (w.alloc o) b rb g s:=h.keep ((Below.refl _ _).alloc (Nat.le_refl _) _)
theorem LAt.fr {w w':World} {b rb g:Nat} {s:LS} {L:List Nat} (h:LAt w b rb g s) (k:Fr w w' L) (hd:∀x∈blocksL b rb g s,x ∉ L):LAt w' b rb g s:=h.keepX fun x T cs hx hb=>k.block x hb.lt (hd x hx)
theorem LAt.lt {w:World} {b rb g:Nat} {s:LS} (h:LAt w b rb g s):∀x∈blocksL b rb g s,x < w.heap.size:=by
 intro x hx
 simp only [blocksL,List.mem_cons,List.mem_map] at hx
 rcases hx with rfl | rfl | rfl | ⟨k,hk,rfl⟩
 ·exact h.head.lt
 ·exact h.row.lt.1
 ·exact h.row.lt.2
 ·exact (h.kept k hk).lt
theorem pk_info:(Tryz.prog.info? 47).map (fun i=>(i.zero,i.size,i.bytes))=some (some (.agg #[.int .u64 0,.int .u64 0,.int .u64 0,.int .u64 0,.int .u64 0,.int .u64 0,.bool false]),7,56):=by kernel_rfl
abbrev pcs (l:List Pk):List Value:=l.flatMap (Itm.cs (α:=Pk))
def PR (w:World) (v:Value) (l:List Pk):Prop:=w.ownsRow 0 47 7 v l.length (pcs l)
theorem PR.nil (w:World):PR w (.slice none 0 0) []:=World.ownsRow_nil w 0 _ 7
theorem PR.same {w w':World} {v:Value} {l:List Pk} (h:PR w v l) (hk:∀g cs,v.ownBlock=some g→Blk w g 47 cs→w'.heap[g]? =w.heap[g]?):PR w' v l:=by
 refine ⟨h.1,?_⟩
 rcases h.2 with c | ⟨g,cap,cur,e,hb,hg,k⟩
 ·exact .inl c
 ·exact .inr ⟨g,cap,cur,e,hb,by rw [hk g cur (by rw [e];rfl) hg];exact hg,k⟩
theorem PR.keep {w w':World} {v:Value} {l:List Pk} (h:PR w v l) (k:Below w.heap.size w w'):PR w' v l:=h.same fun g cs _ hb=>k.block g hb.lt
theorem PR.drawn {w w':World} {v:Value} {l:List Pk} (h:PR w v l) (k:Drawn w w'):PR w' v l:=h.keep (k.below _)
theorem PR.fr {w w':World} {v:Value} {l:List Pk} {L:List Nat} (h:PR w v l) (k:Fr w w' L) (hl:∀g,v.ownBlock=some g→g ∉ L):PR w' v l:=h.same fun g cs e hb=>k.block g hb.lt (hl g e)
theorem PR.blk {w:World} {v:Value} {l:List Pk} (h:PR w v l) {g:Nat} (e:v.ownBlock=some g):∃cs,Blk w g 47 cs:=by
 rcases h.2 with ⟨rfl,_⟩ | ⟨g',cap,cur,rfl,_,hg,_⟩
 ·cases e
 ·simp [Value.ownBlock] at e;subst e;exact ⟨_,hg⟩
theorem PR.form {w:World} {v:Value} {l:List Pk} (h:PR w v l):∃p c,v=.slice p l.length c:=by
 rcases h.2 with ⟨e,k⟩ | ⟨g,cap,cur,e,_⟩
 ·exact ⟨none,0,by rw [e,k]⟩
 ·exact ⟨_,cap,e⟩
theorem PR.its {w:World} {l:List Pk} {p:Option Addr} {n cap:Nat} (h:PR w (.slice p n cap) l):Its w p l:=by
 intro hp
 rcases h.2 with ⟨e,k⟩ | ⟨g,c,cur,e,_,hb,_,_,h3,h4⟩
 ·omega
 ·injection e with e1 e2 e3
  subst e1
  refine ⟨g,0,rfl,Blk.lt hb,fun i j hi hj=>?_⟩
  have k2:Itm.k Pk=7:=rfl
  rw [k2] at hj ⊢
  have e:=iget (α:=Pk) l i j (by rw [k2];exact hj)
  rw [k2] at e
  have hj':j < (Itm.cs (l.getD i Itm.z)).length:=by rw [Itm.len];exact hj
  have e':(pcs l)[i * 7 + j]? =(Itm.cs (l.getD i Itm.z))[j]?:=by rw [e];simp [List.getD_eq_getElem?_getD,hi]
  rw [List.getElem?_eq_getElem hj'] at e' ⊢
  rw [Nat.zero_add]
  refine Blk.cell hb ?_
  rw [← h4,List.getElem?_take_of_lt (by omega)] at e'
  simpa using e'
theorem PR.app {w:World} {l m:List Pk} {n:Nat} {v:Value} (hn:n=l.length + m.length) (h:w.ownsRow 0 47 7 v n (pcs l ++ pcs m)):PR w v (l ++ m):=by
 subst hn
 unfold PR pcs
 rw [List.flatMap_append,List.length_append]
 exact h
theorem sub64_tot (T c:Nat) (hc:c < M64):∃br:Nat,br≤1∧(T + c) / M64=T / M64 + br∧∀w:World,
  (callFunc 184 #[.int .u64 (((T + c) % M64:Nat):Int),.int .u64 (c:Int),.int .u64 0]).run Tryz.prog w=.ok (.value (.tuple #[.int .u64 ((T % M64:Nat):Int),.int .u64 (br:Int)])) w:=by
 have h:=sub_parts T c hc
 have hl:=Nat.mod_lt (T + c) M64_pos
 have hl2:=Nat.mod_lt T M64_pos
 have hM:=M64_eq
 split at h
 ·rename_i k
  refine ⟨1,Nat.le_refl _,h.1,fun w=>?_⟩
  rw [sub64_yes _ _ k (by omega),← h.2]
  have:((T + c) % M64 + 18446744073709551616 - c - 0) % 18446744073709551616=(T + c) % M64 + M64 - c:=by
   clear h hl2
   generalize (T + c) % M64=r at *
   rw [Nat.sub_zero,Nat.mod_eq_of_lt (by omega)];omega
  rw [this];rfl
 ·rename_i k
  refine ⟨0,Nat.zero_le _,h.1,fun w=>?_⟩
  rw [sub64_no _ _ (by omega) (by omega),h.2];rfl
theorem add64_tot (T c:Nat) (hc:c < M64):∃cr:Nat,cr≤1∧(T + c) / M64=T / M64 + cr∧∀w:World,
  (callFunc 116 #[.int .u64 ((T % M64:Nat):Int),.int .u64 (c:Int),.int .u64 0]).run Tryz.prog w=.ok (.value (.tuple #[.int .u64 (((T + c) % M64:Nat):Int),.int .u64 (cr:Int)])) w:=by
 obtain ⟨h1,h2⟩:=add_parts T c hc
 have hl:=Nat.mod_lt (T + c) M64_pos
 have hl2:=Nat.mod_lt T M64_pos
 have hM:=M64_eq
 by_cases k:M64≤T % M64 + c
 ·rw [if_pos k] at h1 h2
  refine ⟨1,Nat.le_refl _,h1,fun w=>?_⟩
  rw [add64_yes _ _ (by omega) (by omega) (by omega) (by omega) (by omega)]
  have:(((T % M64:Nat):Int) + (c:Int) + 0) % 18446744073709551616=(((T + c) % M64:Nat):Int):=by
   rw [h2];omega
  rw [this];rfl
 ·rw [if_neg k] at h1 h2
  refine ⟨0,Nat.zero_le _,h1,fun w=>?_⟩
  rw [add64_no _ _ (by omega) (by omega) (by omega)]
  have:(((T % M64:Nat):Int) + (c:Int))=(((T + c) % M64:Nat):Int):=by
   rw [h2];omega
  rw [this];rfl
end Go.Proofs.YteoepabmnbkabaaGreatDoor
