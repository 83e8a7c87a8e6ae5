/- 1 texts put together: what each one says stands ahead of it. -/
import Derived.Test.YteoepabmnbkabaaGreatDoorKS17
import Derived.StillTailTactics
import Derived.Deep.LoopGhost
set_option linter.unusedVariables false
namespace Go.Proofs.YteoepabmnbkabaaGreatDoor
open Go.RowKit Pl
theorem pk_cells {w:World} {b off:Nat} {l:List Pk} {k:Nat} (h:∀i j,i < l.length→j < Itm.k Pk→w.cell? ⟨b,off + (i * Itm.k Pk + j),none⟩=(Itm.cs (l.getD i Itm.z))[j]?) (hk:k < l.length) {o:Nat} (ho:o=off + k * 7):
  ∀j,j < 7→w.cell? ⟨b,o + j,none⟩=(Pk.cs (l.getD k Itm.z))[j]?:=by
 subst ho
 intro j hj
 have:=h k j hk hj
 rw [← Nat.add_assoc] at this
 exact this
def NewRel (w:World) (q:Pk) (l:List Pk) (k:Nat) (wr:World):Prop:=
 Blk wr w.heap.size 45 #[.int .u64 0,.int .u64 0,.int .u64 0,.int .u64 0,.bool false]∧Blk wr (w.heap.size + 1) 45 (newestS q.st (l.take k)).cells∧Below w.heap.size w wr
set_option maxHeartbeats 2000000 in
theorem ra_newest_more (p:Option Addr) (c:Nat) (q:Pk) (l:List Pk) (w:World) (hl:Its w p (q :: l)) (hc:l.length + 1≤c) (hm:c≤9223372036854775807) (hc1:¬ c=1):
  Calls Tryz.prog 130 #[.slice p (l.length + 1) c] w fun e w'=>e=.returned (.agg (newestS q.st l).cells)∧Below w.heap.size w w':=by
 obtain ⟨b,off,rfl,hb,hcs⟩:=hl (by simp)
 have HC:=Lib.hid hcs
 have H0:=pk_cells (k:=0) hcs (by simp) (o:=off) (by omega)
 have c2:=H0 2 (by omega)
 have c3:=H0 3 (by omega)
 have c4:=H0 4 (by omega)
 have c5:=H0 5 (by omega)
 have c6:=H0 6 (by omega)
 clear hcs H0 hl
 have HZ:=Lib.hid hb
 simp only [List.getD_cons_zero,Pk.cs,List.getElem?_cons_succ,List.getElem?_cons_zero] at c2 c3 c4 c5 c6
 go_enter Tryz.func130,Tryz.ntmps130
 go_wp2_with fail
 go_loopw [13] (fun i wr=>∃k:Nat,i=.int .i64 (k:Int)∧k≤l.length∧NewRel w q l k wr) (fun i _=>l.length - (intOf i).toNat)
 case atStart=>exact ⟨0,rfl,Nat.zero_le _,(Blk.new _ _ _).alloc _,Blk.new1 _ _ _ _,((Below.refl _ _).alloc (Nat.le_refl _) _).alloc (by simp) _⟩
 case round=>
  obtain ⟨k,rfl,hk,h0,h1,h2⟩:=hrel
  have HB0:=Lib.hid h0
  have HB1:=Lib.hid h1
  have HW:=Lib.hid h2
  have hsz:=h2.size
  have hlt1:=h1.lt
  clear h0 h1 h2 c2 c3 c4 c5 c6
  by_cases hlt:k < l.length
  ·have H1:=pk_cells (k:=k + 1) HC.out (by simp;omega) (o:=off + 7 + k * 7) (by omega)
   have d0:=(HW.out.cell (p:=⟨b,_,none⟩) HZ.out).trans (H1 0 (by omega))
   have d1:=(HW.out.cell (p:=⟨b,_,none⟩) HZ.out).trans (H1 1 (by omega))
   have d2:=(HW.out.cell (p:=⟨b,_,none⟩) HZ.out).trans (H1 2 (by omega))
   have d3:=(HW.out.cell (p:=⟨b,_,none⟩) HZ.out).trans (H1 3 (by omega))
   have d4:=(HW.out.cell (p:=⟨b,_,none⟩) HZ.out).trans (H1 4 (by omega))
   have d5:=(HW.out.cell (p:=⟨b,_,none⟩) HZ.out).trans (H1 5 (by omega))
   have d6:=(HW.out.cell (p:=⟨b,_,none⟩) HZ.out).trans (H1 6 (by omega))
   clear H1
   have e:(q :: l).getD (k + 1) Itm.z=l.getD k Itm.z:=by simp [List.getD_eq_getElem?_getD]
   rw [e] at d0 d1 d2 d3 d4 d5 d6
   clear e
   have HT:=Lib.hid (newestS_take q.st hlt)
   generalize l.getD k Itm.z=x at *
   generalize newestS q.st (l.take k)=best at *
   simp only [Pk.cs,List.getElem?_cons_succ,List.getElem?_cons_zero,Nat.add_zero] at d0 d1 d2 d3 d4 d5 d6
   have i0:(0:Int)≤(k:Int):=by omega
   have i1:(k:Int) < (l.length:Int):=by omega
   have t0:=HB1.out.cell (i:=0) (v:=.int .u64 (best.sent:Int)) rfl
   have t1:=HB1.out.cell (i:=1) (v:=.int .u64 (best.first:Int)) rfl
   have t2:=HB1.out.cell (i:=2) (v:=.int .u64 (best.deliv:Int)) rfl
   have t3:=HB1.out.cell (i:=3) (v:=.int .u64 (best.at_:Int)) rfl
   have t4:=HB1.out.cell (i:=4) (v:=.bool best.lim) rfl
   have HO:Hid (∀w,Calls Tryz.prog 204 #[.agg #[.int .u64 (x.sent:Int),.int .u64 (x.first:Int),.int .u64 (x.deliv:Int),.int .u64 (x.at_:Int),.bool x.lim],.agg #[.int .u64 (best.sent:Int),.int .u64 (best.first:Int),.int .u64 (best.deliv:Int),.int .u64 (best.at_:Int),.bool best.lim]] w fun e w'=>e=.returned (.bool (olderB x.st best))∧Below w.heap.size w w'):=Lib.hid (fun w=>ra_older x.st best w)
   obtain ⟨o,ho⟩:∃o,olderB x.st best=o:=⟨_,rfl⟩
   rw [ho] at HO
   have HP:Hid (pickS best x=if o=true then best else x.st):=Lib.hid (by rw [← ho];rfl)
   clear ho
   have HN:=Lib.hid (Blk.new wr 47 #[.int .u64 (x.n:Int),.int .u64 (x.size:Int),.int .u64 (x.sent:Int),.int .u64 (x.first:Int),.int .u64 (x.deliv:Int),.int .u64 (x.at_:Int),.bool x.lim])
   have HA:=Lib.hid ((Below.refl wr.heap.size wr).alloc (Nat.le_refl _) (.cells #[.int .u64 (x.n:Int),.int .u64 (x.size:Int),.int .u64 (x.sent:Int),.int .u64 (x.first:Int),.int .u64 (x.deliv:Int),.int .u64 (x.at_:Int),.bool x.lim] 47))
   go_wp2_with fail
   refine (HO.out _).mono ?_
   rintro e w2 ⟨rfl,hb2⟩
   have HN2:=Lib.hid (HN.out.keep hb2)
   have HA2:=Lib.hid (HA.out.trans (hb2.mono (by simp)))
   clear hb2 t0 t1 t2 t3 t4 d0 d1 d2 d3 d4 d5 d6 HN HA HO
   have HB02:=Lib.hid (HB0.out.keep HA2.out)
   have HB12:=Lib.hid (HB1.out.keep HA2.out)
   have HW2:=Lib.hid (bel_to HW.out HA2.out HW.out.size)
   cases o with
   | true=>
     go_wp2_with fail
     go_roundw
     case rel=>exact ⟨k + 1,by go_num,by omega,HB02.out,by rw [HT.out,HP.out];exact HB12.out,HW2.out⟩
     case measure=>simp [intOf];omega
   | false=>
     have e2:=HN2.out.cell (i:=2) (v:=.int .u64 (x.sent:Int)) rfl
     have e3:=HN2.out.cell (i:=3) (v:=.int .u64 (x.first:Int)) rfl
     have e4:=HN2.out.cell (i:=4) (v:=.int .u64 (x.deliv:Int)) rfl
     have e5:=HN2.out.cell (i:=5) (v:=.int .u64 (x.at_:Int)) rfl
     have e6:=HN2.out.cell (i:=6) (v:=.bool x.lim) rfl
     have t0:=HB12.out.cell (i:=0) (v:=.int .u64 (best.sent:Int)) rfl
     have t1:=HB12.out.cell (i:=1) (v:=.int .u64 (best.first:Int)) rfl
     have t2:=HB12.out.cell (i:=2) (v:=.int .u64 (best.deliv:Int)) rfl
     have t3:=HB12.out.cell (i:=3) (v:=.int .u64 (best.at_:Int)) rfl
     have t4:=HB12.out.cell (i:=4) (v:=.bool best.lim) rfl
     have f0:=HB12.out.free 0
     have f1:=HB12.out.free 1
     have f2:=HB12.out.free 2
     have f3:=HB12.out.free 3
     have f4:=HB12.out.free 4
     have HX:Hid (Blk _ (w.heap.size + 1) 45 x.st.cells):=Lib.hid (Blk.whole [.int .u64 (x.sent:Int),.int .u64 (x.first:Int),.int .u64 (x.deliv:Int),.int .u64 (x.at_:Int),.bool x.lim] HB12.out rfl)
     have HX0:=Lib.hid (Blk.sets_other (g:=w.heap.size + 1) (show w.heap.size≠w.heap.size + 1 by omega) [.int .u64 (x.sent:Int),.int .u64 (x.first:Int),.int .u64 (x.deliv:Int),.int .u64 (x.at_:Int),.bool x.lim] 0 _ HB02.out)
     have HXW:=Lib.hid (Below.sets (show w.heap.size≤w.heap.size + 1 by omega) [.int .u64 (x.sent:Int),.int .u64 (x.first:Int),.int .u64 (x.deliv:Int),.int .u64 (x.at_:Int),.bool x.lim] 0 _ HW2.out)
     go_wp2_with fail
     go_roundw
     case rel=>exact ⟨k + 1,by go_num,by omega,HX0.out,by rw [HT.out,HP.out];exact HX.out,HXW.out⟩
     case measure=>simp [intOf];omega
  ·obtain rfl:k=l.length:=by omega
   rw [List.take_length] at HB1
   generalize hbe:newestS q.st l=best at HB1
   have HE:=Lib.hid hbe
   clear hbe
   have z0:=HB0.out.cell (i:=0) (v:=.int .u64 0) rfl
   have z1:=HB0.out.cell (i:=1) (v:=.int .u64 0) rfl
   have z2:=HB0.out.cell (i:=2) (v:=.int .u64 0) rfl
   have z3:=HB0.out.cell (i:=3) (v:=.int .u64 0) rfl
   have z4:=HB0.out.cell (i:=4) (v:=.bool false) rfl
   have t0:=HB1.out.cell (i:=0) (v:=.int .u64 (best.sent:Int)) rfl
   have t1:=HB1.out.cell (i:=1) (v:=.int .u64 (best.first:Int)) rfl
   have t2:=HB1.out.cell (i:=2) (v:=.int .u64 (best.deliv:Int)) rfl
   have t3:=HB1.out.cell (i:=3) (v:=.int .u64 (best.at_:Int)) rfl
   have t4:=HB1.out.cell (i:=4) (v:=.bool best.lim) rfl
   have f0:=HB0.out.free 0
   have f1:=HB0.out.free 1
   have f2:=HB0.out.free 2
   have f3:=HB0.out.free 3
   have f4:=HB0.out.free 4
   have F1:=Lib.hid (Blk.whole [.int .u64 (best.sent:Int),.int .u64 (best.first:Int),.int .u64 (best.deliv:Int),.int .u64 (best.at_:Int),.bool best.lim] HB0.out rfl)
   have FW:=Lib.hid (Below.sets (Nat.le_refl w.heap.size) [.int .u64 (best.sent:Int),.int .u64 (best.first:Int),.int .u64 (best.deliv:Int),.int .u64 (best.at_:Int),.bool best.lim] 0 _ HW.out)
   go_wp2_with fail
   exact bodyPost_ret (results_cell rfl _ _ w.heap.size 45 _ _ rfl F1.out Tryz.underlying45 rfl (by kernel_rfl)) rfl ⟨by rw [HE.out];rfl,FW.out⟩
set_option maxHeartbeats 2000000 in
theorem ra_newest_one (p:Option Addr) (q:Pk) (w:World) (hl:Its w p [q]):
  Calls Tryz.prog 130 #[.slice p 1 1] w fun e w'=>e=.returned (.agg q.st.cells)∧Below w.heap.size w w':=by
 obtain ⟨b,off,rfl,hb,hcs⟩:=hl (by simp)
 have HC:=Lib.hid hcs
 have H0:=pk_cells (k:=0) hcs (by simp) (o:=off) (by omega)
 have c2:=H0 2 (by omega)
 have c3:=H0 3 (by omega)
 have c4:=H0 4 (by omega)
 have c5:=H0 5 (by omega)
 have c6:=H0 6 (by omega)
 clear hcs H0 hl
 have HZ:=Lib.hid hb
 simp only [List.getD_cons_zero,Pk.cs,List.getElem?_cons_succ,List.getElem?_cons_zero] at c2 c3 c4 c5 c6
 go_enter Tryz.func130,Tryz.ntmps130
 go_wp2_with fail
 go_loopw [13] (fun i wr=>i=.int .i64 0∧NewRel w q [] 0 wr) (fun i _=>0)
 case atStart=>exact ⟨rfl,(Blk.new _ _ _).alloc _,Blk.new1 _ _ _ _,((Below.refl _ _).alloc (Nat.le_refl _) _).alloc (by simp) _⟩
 case round=>
  obtain ⟨rfl,h0,h1,h2⟩:=hrel
  have HB0:=Lib.hid h0
  have HB1:Hid (Blk wr (w.heap.size + 1) 45 q.st.cells):=Lib.hid h1
  have HW:=Lib.hid h2
  clear h0 h1 h2 c2 c3 c4 c5 c6
  have z0:=HB0.out.cell (i:=0) (v:=.int .u64 0) rfl
  have z1:=HB0.out.cell (i:=1) (v:=.int .u64 0) rfl
  have z2:=HB0.out.cell (i:=2) (v:=.int .u64 0) rfl
  have z3:=HB0.out.cell (i:=3) (v:=.int .u64 0) rfl
  have z4:=HB0.out.cell (i:=4) (v:=.bool false) rfl
  have t0:=HB1.out.cell (i:=0) (v:=.int .u64 (q.sent:Int)) rfl
  have t1:=HB1.out.cell (i:=1) (v:=.int .u64 (q.first:Int)) rfl
  have t2:=HB1.out.cell (i:=2) (v:=.int .u64 (q.deliv:Int)) rfl
  have t3:=HB1.out.cell (i:=3) (v:=.int .u64 (q.at_:Int)) rfl
  have t4:=HB1.out.cell (i:=4) (v:=.bool q.lim) rfl
  have f0:=HB0.out.free 0
  have f1:=HB0.out.free 1
  have f2:=HB0.out.free 2
  have f3:=HB0.out.free 3
  have f4:=HB0.out.free 4
  have F1:=Lib.hid (Blk.whole [.int .u64 (q.sent:Int),.int .u64 (q.first:Int),.int .u64 (q.deliv:Int),.int .u64 (q.at_:Int),.bool q.lim] HB0.out rfl)
  have FW:=Lib.hid (Below.sets (Nat.le_refl w.heap.size) [.int .u64 (q.sent:Int),.int .u64 (q.first:Int),.int .u64 (q.deliv:Int),.int .u64 (q.at_:Int),.bool q.lim] 0 _ HW.out)
  go_wp2_with fail
  exact bodyPost_ret (results_cell rfl _ _ w.heap.size 45 _ _ rfl F1.out Tryz.underlying45 rfl (by kernel_rfl)) rfl ⟨rfl,FW.out⟩
theorem ra_newest (p:Option Addr) (c:Nat) (q:Pk) (l:List Pk) (w:World) (hl:Its w p (q :: l)) (hc:l.length + 1≤c) (hm:c≤9223372036854775807):
  Calls Tryz.prog 130 #[.slice p (l.length + 1) c] w fun e w'=>e=.returned (.agg (newestS q.st l).cells)∧Below w.heap.size w w':=by
 by_cases h:c=1
 ·subst h
  obtain rfl:l=[]:=List.eq_nil_of_length_eq_zero (by omega)
  exact ra_newest_one p q w hl
 ·exact ra_newest_more p c q l w hl hc hm h
end Go.Proofs.YteoepabmnbkabaaGreatDoor
