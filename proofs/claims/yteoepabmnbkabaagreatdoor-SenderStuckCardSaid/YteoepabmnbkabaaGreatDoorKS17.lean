/- 4 texts put together: what each one says stands ahead of it. -/
import Derived.Test.YteoepabmnbkabaaGreatDoorKS13
import Derived.Test.YteoepabmnbkabaaGreatDoorKS04
import Derived.Test.YteoepabmnbkabaaGreatDoorKS06
import Derived.BigRegion
import Derived.Deep.RegionHeld3
import Derived.Deep.LoopGhost
import Derived.Test.YteoepabmnbkabaaGreatDoorKS07
import Derived.Deep.RegionWith
import Derived.Deep.DeepCutAuto
import Derived.Deep.CutRange
set_option linter.unusedVariables false
namespace Go.Proofs.YteoepabmnbkabaaGreatDoor
open Go.RowKit Pl
structure BS where
 hi:Nat
 lo:Nat
 bw:Nat
deriving DecidableEq
def BS.cells (b:BS):Array Value:=#[.int .u64 (b.hi:Int),.int .u64 (b.lo:Int),.int .u64 (b.bw:Int)]
structure BS.ok (b:BS):Prop where
 hi:b.hi≤18446744073709551615
 lo:b.lo≤18446744073709551615
 bw:b.bw≤18446744073709551615
def BS.none:BS:=⟨18446744073709551615,18446744073709551615,18446744073709551615⟩
def leftS (x:Nat):Nat:=shareS x 7 10
def orS (x y:Nat):Nat:=if x=18446744073709551615 then y else x
def BS.lose (b:BS) (f r h:Nat):BS:=⟨b.hi,max f (leftS (orS b.lo h)),max r (leftS (orS b.bw r))⟩
def BS.pull (b:BS) (f t:Nat):BS:=⟨max f (leftS t),b.lo,b.bw⟩
def BS.push (b:BS) (n:Nat):BS:=⟨if b.hi=18446744073709551615 then b.hi else min (addS b.hi n) 18446744073709551614,b.lo,b.bw⟩
def BS.short (b:BS):BS:=⟨b.hi,18446744073709551615,18446744073709551615⟩
def mins (x:Nat) (l:List Nat):Nat:=l.foldl min x
def BS.cap (b:BS) (l:List Nat):Nat:=mins (min b.hi b.lo) l
def BS.room (b:BS):Nat:=if b.hi=18446744073709551615 then 18446744073709551615 else shareS b.hi 85 100
def BS.limit (b:BS) (r:Nat):Nat:=min r b.bw
theorem leftS_le (x:Nat):leftS x≤18446744073709551615:=shareS_le _ _ _
theorem mins_app (x:Nat) (l r:List Nat):mins x (l ++ r)=mins (mins x l) r:=by simp [mins]
theorem mins_take (x:Nat) {l:List Nat} {k:Nat} (h:k < l.length):mins x (l.take (k + 1))=min (mins x (l.take k)) (l.getD k 0):=by
 rw [List.take_succ_eq_append_getElem h,mins_app]
 simp [mins,List.getD_eq_getElem?_getD,h]
theorem BS.lose_ok {b:BS} (hb:b.ok) {f r h:Nat} (hf:f≤18446744073709551615) (hr:r≤18446744073709551615):(b.lose f r h).ok:=by
 have h1:=leftS_le (orS b.lo h)
 have h2:=leftS_le (orS b.bw r)
 exact ⟨hb.hi,by dsimp [BS.lose];omega,by dsimp [BS.lose];omega⟩
theorem BS.pull_ok {b:BS} (hb:b.ok) {f t:Nat} (hf:f≤18446744073709551615):(b.pull f t).ok:=by
 have h1:=leftS_le t
 exact ⟨by dsimp [BS.pull];omega,hb.lo,hb.bw⟩
theorem BS.push_ok {b:BS} (hb:b.ok) (n:Nat):(b.push n).ok:=by
 have h1:=hb.hi
 exact ⟨by dsimp [BS.push];split <;> omega,hb.lo,hb.bw⟩
theorem BS.none_ok:BS.none.ok:=⟨Nat.le_refl _,Nat.le_refl _,Nat.le_refl _⟩
def NumsR (w:World) (v:Option Addr) (l:List Nat):Prop:=
 0 < l.length→∃b off,v=some ⟨b,off,none⟩∧b < w.heap.size∧Row w b off l
theorem NumsR.keep {w w':World} {v:Option Addr} {l:List Nat} (h:NumsR w v l) (k:Below w.heap.size w w'):NumsR w' v l:=by
 intro hp
 obtain ⟨b,off,e,hb,hc⟩:=h hp
 exact ⟨b,off,e,Nat.lt_of_lt_of_le hb k.size,fun i hi=>(k.cell (p:=⟨b,off + i,none⟩) hb).trans (hc i hi)⟩
theorem NumsR.none (w:World) (v:Option Addr):NumsR w v []:=fun h=>absurd h (by simp)
theorem bd_left (x:Nat) (hx:x≤18446744073709551615) (w:World):
  Calls Tryz.prog 283 #[.int .u64 (x:Int)] w fun e w'=>e=.returned (.int .u64 ((leftS x:Nat):Int))∧Below w.heap.size w w':=by
 have HS:=Lib.hid (share_b x 7 10 w hx (by omega) (by omega))
 unfold leftS
 generalize shareS x 7 10=q at *
 clear hx
 go_enter Tryz.func283,Tryz.ntmps283
 go_wp2_with fail
 refine (HS.out).mono ?_
 rintro e w' ⟨rfl,hb⟩
 have HB:=Lib.hid hb
 clear hb
 go_wp2_with fail
 go_ret
 exact ⟨rfl,HB.out⟩
theorem bd_None (w:World):
  Calls Tryz.prog 67 #[] w fun e w'=>e=.returned (.agg BS.none.cells)∧Below w.heap.size w w':=by
 have A0:=Lib.hid (Blk.new w 99 #[.int .u64 0,.int .u64 0,.int .u64 0])
 have AW:=Lib.hid ((Below.refl w.heap.size w).alloc (Nat.le_refl _) (.cells #[.int .u64 0,.int .u64 0,.int .u64 0] 99))
 have F1:=Lib.hid (Blk.whole [.int .u64 18446744073709551615,.int .u64 18446744073709551615,.int .u64 18446744073709551615] A0.out rfl)
 have FW:=Lib.hid (Below.sets (Nat.le_refl w.heap.size) [.int .u64 18446744073709551615,.int .u64 18446744073709551615,.int .u64 18446744073709551615] 0 _ AW.out)
 go_enter Tryz.func67,Tryz.ntmps67
 go_wp2_with fail
 first
  | exact bodyPost_ret (results_cell rfl _ _ w.heap.size 99 _ _ rfl F1.out Tryz.underlying99 rfl (by kernel_rfl)) rfl ⟨rfl,FW.out⟩
  | exact bodyPost_ret (results_cell rfl _ _ w.heap.size 99 _ _ rfl (Blk.new w _ _) Tryz.underlying99 rfl (by kernel_rfl)) rfl ⟨rfl,(Below.refl _ _).alloc (Nat.le_refl _) _⟩
set_option maxHeartbeats 400000 in
theorem bd_Short (b:BS) (w:World):
  Calls Tryz.prog 242 #[.agg b.cells] w fun e w'=>e=.returned (.agg b.short.cells)∧Below w.heap.size w w':=by
 obtain ⟨hi,lo,bw⟩:=b
 unfold BS.cells
 dsimp only
 go_enter Tryz.func242,Tryz.ntmps242
 go_wp2_with fail
 exact bodyPost_ret (results_cell rfl _ _ (w.heap.size + 1) 99 _ _ rfl (Blk.new1 w _ _ _) Tryz.underlying99 rfl (by kernel_rfl)) rfl ⟨rfl,((Below.refl _ _).alloc (Nat.le_refl _) _).alloc (by simp) _⟩
set_option maxHeartbeats 1000000 in
theorem bd_Pull (b:BS) (f t:Nat) (w:World) (hf:f≤18446744073709551615) (ht:t≤18446744073709551615):
  Calls Tryz.prog 239 #[.agg b.cells,.int .u64 (f:Int),.int .u64 (t:Int)] w fun e w'=>e=.returned (.agg (b.pull f t).cells)∧Below w.heap.size w w':=by
 have HL:=Lib.hid (fun w=>bd_left t ht w)
 obtain ⟨hi,lo,bw⟩:=b
 have HT:Hid ((BS.pull ⟨hi,lo,bw⟩ f t).cells=#[.int .u64 (max (f:Int) (leftS t:Int)),.int .u64 (lo:Int),.int .u64 (bw:Int)]):=Lib.hid (by
  have e:((max f (leftS t):Nat):Int)=max (f:Int) (leftS t:Int):=by omega
  unfold BS.pull BS.cells;dsimp only;rw [e])
 generalize leftS t=q at *
 clear hf ht
 unfold BS.cells at HT ⊢
 dsimp only at HT ⊢
 go_enter Tryz.func239,Tryz.ntmps239
 go_wp2_with fail
 refine (HL.out _).mono ?_
 rintro e w1 ⟨rfl,h1⟩
 have B0:=Lib.hid (Blk.keep (Blk.alloc (Blk.new w 99 #[.int .u64 (hi:Int),.int .u64 (lo:Int),.int .u64 (bw:Int)]) (.cells #[.int .u64 0,.int .u64 0,.int .u64 0] 99)) h1)
 have B1:=Lib.hid (Blk.keep (Blk.new1 w (.cells #[.int .u64 (hi:Int),.int .u64 (lo:Int),.int .u64 (bw:Int)] 99) 99 #[.int .u64 0,.int .u64 0,.int .u64 0]) h1)
 have BW:=Lib.hid (bel_to (((Below.refl w.heap.size w).alloc (Nat.le_refl _) (.cells #[.int .u64 (hi:Int),.int .u64 (lo:Int),.int .u64 (bw:Int)] 99)).alloc (by simp) (.cells #[.int .u64 0,.int .u64 0,.int .u64 0] 99)) h1 (by simp;omega))
 have HNE:Hid (w.heap.size≠w.heap.size + 1):=Lib.hid (by omega)
 clear h1 HL
 have a0:=B0.out.cell (i:=0) (v:=.int .u64 (hi:Int)) rfl
 have a1:=B0.out.cell (i:=1) (v:=.int .u64 (lo:Int)) rfl
 have a2:=B0.out.cell (i:=2) (v:=.int .u64 (bw:Int)) rfl
 have f0:=B0.out.free 0
 have f1:=B0.out.free 1
 have f2:=B0.out.free 2
 have t0:=B1.out.cell (i:=0) (v:=.int .u64 0) rfl
 have t1:=B1.out.cell (i:=1) (v:=.int .u64 0) rfl
 have t2:=B1.out.cell (i:=2) (v:=.int .u64 0) rfl
 have y0:=B1.out.free 0
 have y1:=B1.out.free 1
 have y2:=B1.out.free 2
 have F1:=Lib.hid (Blk.whole [.int .u64 (max (f:Int) (q:Int):Int),.int .u64 (lo:Int),.int .u64 (bw:Int)] (B1.out.set_other (c:=w.heap.size) 0 (.int .u64 (max (f:Int) (q:Int):Int)) (by omega)) rfl)
 have FW:=Lib.hid (Below.sets (show w.heap.size≤w.heap.size + 1 by omega) [.int .u64 (max (f:Int) (q:Int):Int),.int .u64 (lo:Int),.int .u64 (bw:Int)] 0 _ (BW.out.setCell (p:=⟨w.heap.size,0,none⟩) (Nat.le_refl _) (.int .u64 (max (f:Int) (q:Int):Int))))
 go_wp2_with fail
 exact bodyPost_ret (results_cell rfl _ _ (w.heap.size + 1) 99 _ _ rfl F1.out Tryz.underlying99 rfl (by kernel_rfl)) rfl ⟨by rw [HT.out],FW.out⟩
set_option maxHeartbeats 4000000 in
theorem bd_Lose (b:BS) (f r h:Nat) (w:World) (hb:b.ok) (hf:f≤18446744073709551615) (hr:r≤18446744073709551615) (hh:h≤18446744073709551615):
  Calls Tryz.prog 241 #[.agg b.cells,.int .u64 (f:Int),.int .u64 (r:Int),.int .u64 (h:Int)] w fun e w'=>e=.returned (.agg (b.lose f r h).cells)∧Below w.heap.size w w':=by
 have HL:=Lib.hid (fun x hx w=>bd_left x hx w)
 obtain ⟨hi,lo,bw⟩:=b
 have blo:lo≤18446744073709551615:=hb.lo
 have bbw:bw≤18446744073709551615:=hb.bw
 have HT:Hid ((BS.lose ⟨hi,lo,bw⟩ f r h).cells=#[.int .u64 (hi:Int),.int .u64 (max (f:Int) (leftS (orS lo h):Int)),.int .u64 (max (r:Int) (leftS (orS bw r):Int))]):=Lib.hid (by
  have e1:((max f (leftS (orS lo h)):Nat):Int)=max (f:Int) (leftS (orS lo h):Int):=by omega
  have e2:((max r (leftS (orS bw r)):Nat):Int)=max (r:Int) (leftS (orS bw r):Int):=by omega
  unfold BS.lose BS.cells;dsimp only;rw [e1,e2])
 clear hb hf
 unfold BS.cells at HT ⊢
 dsimp only at HT ⊢
 by_cases c1:lo=18446744073709551615
 ·have t1:((lo:Int) == 18446744073709551615)=true:=by rw [c1];rfl
  have o1:orS lo h=h:=if_pos c1
  rw [o1] at HT
  have H1:=Lib.hid (HL.out h hh)
  generalize leftS h=q1 at *
  clear c1 o1
  by_cases c2:bw=18446744073709551615
  ·have t2:((bw:Int) == 18446744073709551615)=true:=by rw [c2];rfl
   have o2:orS bw r=r:=if_pos c2
   rw [o2] at HT
   have H2:=Lib.hid (HL.out r hr)
   generalize leftS r=q2 at *
   clear c2 o2 HL hr hh blo bbw
   go_enter Tryz.func241,Tryz.ntmps241
   go_wp2_with fail
   refine (H1.out _).mono ?_
   rintro e w1 ⟨rfl,h1⟩
   have B0:=Lib.hid (Blk.keep (Blk.alloc (Blk.new w 99 #[.int .u64 (hi:Int),.int .u64 (h:Int),.int .u64 (r:Int)]) (.cells #[.int .u64 0,.int .u64 0,.int .u64 0] 99)) h1)
   have B1:=Lib.hid (Blk.keep (Blk.new1 w (.cells #[.int .u64 (hi:Int),.int .u64 (h:Int),.int .u64 (r:Int)] 99) 99 #[.int .u64 0,.int .u64 0,.int .u64 0]) h1)
   have BW:=Lib.hid (bel_to (((Below.refl w.heap.size w).alloc (Nat.le_refl _) (.cells #[.int .u64 (hi:Int),.int .u64 (h:Int),.int .u64 (r:Int)] 99)).alloc (by simp) (.cells #[.int .u64 0,.int .u64 0,.int .u64 0] 99)) h1 (by simp;omega))
   have HNE:Hid (w.heap.size≠w.heap.size + 1):=Lib.hid (by omega)
   clear h1 H1
   have a0:=B0.out.cell (i:=0) (v:=.int .u64 (hi:Int)) rfl
   have a1:=B0.out.cell (i:=1) (v:=.int .u64 (h:Int)) rfl
   have a2:=B0.out.cell (i:=2) (v:=.int .u64 (r:Int)) rfl
   have f0:=B0.out.free 0
   have f1:=B0.out.free 1
   have f2:=B0.out.free 2
   go_wp2_with fail
   refine (H2.out _).mono ?_
   rintro e w2 ⟨rfl,h2⟩
   have C0:=Lib.hid (Blk.keep (B0.out.set 1 (.int .u64 (max (f:Int) (q1:Int)))) h2)
   have C1:=Lib.hid (Blk.keep (B1.out.set_other (c:=w.heap.size) 1 (.int .u64 (max (f:Int) (q1:Int))) (by omega)) h2)
   have CW:=Lib.hid (bel_to (BW.out.setCell (p:=⟨w.heap.size,1,none⟩) (Nat.le_refl _) (.int .u64 (max (f:Int) (q1:Int)))) h2 (by have:=BW.out.size;simpa using this))
   clear h2 H2 B0 B1 BW a0 a1 a2 f0 f1 f2
   have a0:=C0.out.cell (i:=0) (v:=.int .u64 (hi:Int)) rfl
   have a1:=C0.out.cell (i:=1) (v:=.int .u64 (max (f:Int) (q1:Int):Int)) rfl
   have a2:=C0.out.cell (i:=2) (v:=.int .u64 (r:Int)) rfl
   have f0:=C0.out.free 0
   have f1:=C0.out.free 1
   have f2:=C0.out.free 2
   have t0:=C1.out.cell (i:=0) (v:=.int .u64 0) rfl
   have t1:=C1.out.cell (i:=1) (v:=.int .u64 0) rfl
   have t2:=C1.out.cell (i:=2) (v:=.int .u64 0) rfl
   have y0:=C1.out.free 0
   have y1:=C1.out.free 1
   have y2:=C1.out.free 2
   have F1:=Lib.hid (Blk.whole [.int .u64 (hi:Int),.int .u64 (max (f:Int) (q1:Int):Int),.int .u64 (max (r:Int) (q2:Int):Int)] (C1.out.set_other (c:=w.heap.size) 2 (.int .u64 (max (r:Int) (q2:Int):Int)) (by omega)) rfl)
   have FW:=Lib.hid (Below.sets (show w.heap.size≤w.heap.size + 1 by omega) [.int .u64 (hi:Int),.int .u64 (max (f:Int) (q1:Int):Int),.int .u64 (max (r:Int) (q2:Int):Int)] 0 _ (CW.out.setCell (p:=⟨w.heap.size,2,none⟩) (Nat.le_refl _) (.int .u64 (max (r:Int) (q2:Int):Int))))
   go_wp2_with fail
   exact bodyPost_ret (results_cell rfl _ _ (w.heap.size + 1) 99 _ _ rfl F1.out Tryz.underlying99 rfl (by kernel_rfl)) rfl ⟨by rw [HT.out],FW.out⟩
  ·have t2:((bw:Int) == 18446744073709551615)=false:=beq_eq_false_iff_ne.2 (by omega)
   have o2:orS bw r=bw:=if_neg c2
   rw [o2] at HT
   have H2:=Lib.hid (HL.out bw bbw)
   generalize leftS bw=q2 at *
   clear c2 o2 HL hr hh blo bbw
   go_enter Tryz.func241,Tryz.ntmps241
   go_wp2_with fail
   refine (H1.out _).mono ?_
   rintro e w1 ⟨rfl,h1⟩
   have B0:=Lib.hid (Blk.keep (Blk.alloc (Blk.new w 99 #[.int .u64 (hi:Int),.int .u64 (h:Int),.int .u64 (bw:Int)]) (.cells #[.int .u64 0,.int .u64 0,.int .u64 0] 99)) h1)
   have B1:=Lib.hid (Blk.keep (Blk.new1 w (.cells #[.int .u64 (hi:Int),.int .u64 (h:Int),.int .u64 (bw:Int)] 99) 99 #[.int .u64 0,.int .u64 0,.int .u64 0]) h1)
   have BW:=Lib.hid (bel_to (((Below.refl w.heap.size w).alloc (Nat.le_refl _) (.cells #[.int .u64 (hi:Int),.int .u64 (h:Int),.int .u64 (bw:Int)] 99)).alloc (by simp) (.cells #[.int .u64 0,.int .u64 0,.int .u64 0] 99)) h1 (by simp;omega))
   have HNE:Hid (w.heap.size≠w.heap.size + 1):=Lib.hid (by omega)
   clear h1 H1
   have a0:=B0.out.cell (i:=0) (v:=.int .u64 (hi:Int)) rfl
   have a1:=B0.out.cell (i:=1) (v:=.int .u64 (h:Int)) rfl
   have a2:=B0.out.cell (i:=2) (v:=.int .u64 (bw:Int)) rfl
   have f0:=B0.out.free 0
   have f1:=B0.out.free 1
   have f2:=B0.out.free 2
   go_wp2_with fail
   refine (H2.out _).mono ?_
   rintro e w2 ⟨rfl,h2⟩
   have C0:=Lib.hid (Blk.keep (B0.out.set 1 (.int .u64 (max (f:Int) (q1:Int)))) h2)
   have C1:=Lib.hid (Blk.keep (B1.out.set_other (c:=w.heap.size) 1 (.int .u64 (max (f:Int) (q1:Int))) (by omega)) h2)
   have CW:=Lib.hid (bel_to (BW.out.setCell (p:=⟨w.heap.size,1,none⟩) (Nat.le_refl _) (.int .u64 (max (f:Int) (q1:Int)))) h2 (by have:=BW.out.size;simpa using this))
   clear h2 H2 B0 B1 BW a0 a1 a2 f0 f1 f2
   have a0:=C0.out.cell (i:=0) (v:=.int .u64 (hi:Int)) rfl
   have a1:=C0.out.cell (i:=1) (v:=.int .u64 (max (f:Int) (q1:Int):Int)) rfl
   have a2:=C0.out.cell (i:=2) (v:=.int .u64 (bw:Int)) rfl
   have f0:=C0.out.free 0
   have f1:=C0.out.free 1
   have f2:=C0.out.free 2
   have t0:=C1.out.cell (i:=0) (v:=.int .u64 0) rfl
   have t1:=C1.out.cell (i:=1) (v:=.int .u64 0) rfl
   have t2:=C1.out.cell (i:=2) (v:=.int .u64 0) rfl
   have y0:=C1.out.free 0
   have y1:=C1.out.free 1
   have y2:=C1.out.free 2
   have F1:=Lib.hid (Blk.whole [.int .u64 (hi:Int),.int .u64 (max (f:Int) (q1:Int):Int),.int .u64 (max (r:Int) (q2:Int):Int)] (C1.out.set_other (c:=w.heap.size) 2 (.int .u64 (max (r:Int) (q2:Int):Int)) (by omega)) rfl)
   have FW:=Lib.hid (Below.sets (show w.heap.size≤w.heap.size + 1 by omega) [.int .u64 (hi:Int),.int .u64 (max (f:Int) (q1:Int):Int),.int .u64 (max (r:Int) (q2:Int):Int)] 0 _ (CW.out.setCell (p:=⟨w.heap.size,2,none⟩) (Nat.le_refl _) (.int .u64 (max (r:Int) (q2:Int):Int))))
   go_wp2_with fail
   exact bodyPost_ret (results_cell rfl _ _ (w.heap.size + 1) 99 _ _ rfl F1.out Tryz.underlying99 rfl (by kernel_rfl)) rfl ⟨by rw [HT.out],FW.out⟩
 ·have t1:((lo:Int) == 18446744073709551615)=false:=beq_eq_false_iff_ne.2 (by omega)
  have o1:orS lo h=lo:=if_neg c1
  rw [o1] at HT
  have H1:=Lib.hid (HL.out lo blo)
  generalize leftS lo=q1 at *
  clear c1 o1
  by_cases c2:bw=18446744073709551615
  ·have t2:((bw:Int) == 18446744073709551615)=true:=by rw [c2];rfl
   have o2:orS bw r=r:=if_pos c2
   rw [o2] at HT
   have H2:=Lib.hid (HL.out r hr)
   generalize leftS r=q2 at *
   clear c2 o2 HL hr hh blo bbw
   go_enter Tryz.func241,Tryz.ntmps241
   go_wp2_with fail
   refine (H1.out _).mono ?_
   rintro e w1 ⟨rfl,h1⟩
   have B0:=Lib.hid (Blk.keep (Blk.alloc (Blk.new w 99 #[.int .u64 (hi:Int),.int .u64 (lo:Int),.int .u64 (r:Int)]) (.cells #[.int .u64 0,.int .u64 0,.int .u64 0] 99)) h1)
   have B1:=Lib.hid (Blk.keep (Blk.new1 w (.cells #[.int .u64 (hi:Int),.int .u64 (lo:Int),.int .u64 (r:Int)] 99) 99 #[.int .u64 0,.int .u64 0,.int .u64 0]) h1)
   have BW:=Lib.hid (bel_to (((Below.refl w.heap.size w).alloc (Nat.le_refl _) (.cells #[.int .u64 (hi:Int),.int .u64 (lo:Int),.int .u64 (r:Int)] 99)).alloc (by simp) (.cells #[.int .u64 0,.int .u64 0,.int .u64 0] 99)) h1 (by simp;omega))
   have HNE:Hid (w.heap.size≠w.heap.size + 1):=Lib.hid (by omega)
   clear h1 H1
   have a0:=B0.out.cell (i:=0) (v:=.int .u64 (hi:Int)) rfl
   have a1:=B0.out.cell (i:=1) (v:=.int .u64 (lo:Int)) rfl
   have a2:=B0.out.cell (i:=2) (v:=.int .u64 (r:Int)) rfl
   have f0:=B0.out.free 0
   have f1:=B0.out.free 1
   have f2:=B0.out.free 2
   go_wp2_with fail
   refine (H2.out _).mono ?_
   rintro e w2 ⟨rfl,h2⟩
   have C0:=Lib.hid (Blk.keep (B0.out.set 1 (.int .u64 (max (f:Int) (q1:Int)))) h2)
   have C1:=Lib.hid (Blk.keep (B1.out.set_other (c:=w.heap.size) 1 (.int .u64 (max (f:Int) (q1:Int))) (by omega)) h2)
   have CW:=Lib.hid (bel_to (BW.out.setCell (p:=⟨w.heap.size,1,none⟩) (Nat.le_refl _) (.int .u64 (max (f:Int) (q1:Int)))) h2 (by have:=BW.out.size;simpa using this))
   clear h2 H2 B0 B1 BW a0 a1 a2 f0 f1 f2
   have a0:=C0.out.cell (i:=0) (v:=.int .u64 (hi:Int)) rfl
   have a1:=C0.out.cell (i:=1) (v:=.int .u64 (max (f:Int) (q1:Int):Int)) rfl
   have a2:=C0.out.cell (i:=2) (v:=.int .u64 (r:Int)) rfl
   have f0:=C0.out.free 0
   have f1:=C0.out.free 1
   have f2:=C0.out.free 2
   have t0:=C1.out.cell (i:=0) (v:=.int .u64 0) rfl
   have t1:=C1.out.cell (i:=1) (v:=.int .u64 0) rfl
   have t2:=C1.out.cell (i:=2) (v:=.int .u64 0) rfl
   have y0:=C1.out.free 0
   have y1:=C1.out.free 1
   have y2:=C1.out.free 2
   have F1:=Lib.hid (Blk.whole [.int .u64 (hi:Int),.int .u64 (max (f:Int) (q1:Int):Int),.int .u64 (max (r:Int) (q2:Int):Int)] (C1.out.set_other (c:=w.heap.size) 2 (.int .u64 (max (r:Int) (q2:Int):Int)) (by omega)) rfl)
   have FW:=Lib.hid (Below.sets (show w.heap.size≤w.heap.size + 1 by omega) [.int .u64 (hi:Int),.int .u64 (max (f:Int) (q1:Int):Int),.int .u64 (max (r:Int) (q2:Int):Int)] 0 _ (CW.out.setCell (p:=⟨w.heap.size,2,none⟩) (Nat.le_refl _) (.int .u64 (max (r:Int) (q2:Int):Int))))
   go_wp2_with fail
   exact bodyPost_ret (results_cell rfl _ _ (w.heap.size + 1) 99 _ _ rfl F1.out Tryz.underlying99 rfl (by kernel_rfl)) rfl ⟨by rw [HT.out],FW.out⟩
  ·have t2:((bw:Int) == 18446744073709551615)=false:=beq_eq_false_iff_ne.2 (by omega)
   have o2:orS bw r=bw:=if_neg c2
   rw [o2] at HT
   have H2:=Lib.hid (HL.out bw bbw)
   generalize leftS bw=q2 at *
   clear c2 o2 HL hr hh blo bbw
   go_enter Tryz.func241,Tryz.ntmps241
   go_wp2_with fail
   refine (H1.out _).mono ?_
   rintro e w1 ⟨rfl,h1⟩
   have B0:=Lib.hid (Blk.keep (Blk.alloc (Blk.new w 99 #[.int .u64 (hi:Int),.int .u64 (lo:Int),.int .u64 (bw:Int)]) (.cells #[.int .u64 0,.int .u64 0,.int .u64 0] 99)) h1)
   have B1:=Lib.hid (Blk.keep (Blk.new1 w (.cells #[.int .u64 (hi:Int),.int .u64 (lo:Int),.int .u64 (bw:Int)] 99) 99 #[.int .u64 0,.int .u64 0,.int .u64 0]) h1)
   have BW:=Lib.hid (bel_to (((Below.refl w.heap.size w).alloc (Nat.le_refl _) (.cells #[.int .u64 (hi:Int),.int .u64 (lo:Int),.int .u64 (bw:Int)] 99)).alloc (by simp) (.cells #[.int .u64 0,.int .u64 0,.int .u64 0] 99)) h1 (by simp;omega))
   have HNE:Hid (w.heap.size≠w.heap.size + 1):=Lib.hid (by omega)
   clear h1 H1
   have a0:=B0.out.cell (i:=0) (v:=.int .u64 (hi:Int)) rfl
   have a1:=B0.out.cell (i:=1) (v:=.int .u64 (lo:Int)) rfl
   have a2:=B0.out.cell (i:=2) (v:=.int .u64 (bw:Int)) rfl
   have f0:=B0.out.free 0
   have f1:=B0.out.free 1
   have f2:=B0.out.free 2
   go_wp2_with fail
   refine (H2.out _).mono ?_
   rintro e w2 ⟨rfl,h2⟩
   have C0:=Lib.hid (Blk.keep (B0.out.set 1 (.int .u64 (max (f:Int) (q1:Int)))) h2)
   have C1:=Lib.hid (Blk.keep (B1.out.set_other (c:=w.heap.size) 1 (.int .u64 (max (f:Int) (q1:Int))) (by omega)) h2)
   have CW:=Lib.hid (bel_to (BW.out.setCell (p:=⟨w.heap.size,1,none⟩) (Nat.le_refl _) (.int .u64 (max (f:Int) (q1:Int)))) h2 (by have:=BW.out.size;simpa using this))
   clear h2 H2 B0 B1 BW a0 a1 a2 f0 f1 f2
   have a0:=C0.out.cell (i:=0) (v:=.int .u64 (hi:Int)) rfl
   have a1:=C0.out.cell (i:=1) (v:=.int .u64 (max (f:Int) (q1:Int):Int)) rfl
   have a2:=C0.out.cell (i:=2) (v:=.int .u64 (bw:Int)) rfl
   have f0:=C0.out.free 0
   have f1:=C0.out.free 1
   have f2:=C0.out.free 2
   have t0:=C1.out.cell (i:=0) (v:=.int .u64 0) rfl
   have t1:=C1.out.cell (i:=1) (v:=.int .u64 0) rfl
   have t2:=C1.out.cell (i:=2) (v:=.int .u64 0) rfl
   have y0:=C1.out.free 0
   have y1:=C1.out.free 1
   have y2:=C1.out.free 2
   have F1:=Lib.hid (Blk.whole [.int .u64 (hi:Int),.int .u64 (max (f:Int) (q1:Int):Int),.int .u64 (max (r:Int) (q2:Int):Int)] (C1.out.set_other (c:=w.heap.size) 2 (.int .u64 (max (r:Int) (q2:Int):Int)) (by omega)) rfl)
   have FW:=Lib.hid (Below.sets (show w.heap.size≤w.heap.size + 1 by omega) [.int .u64 (hi:Int),.int .u64 (max (f:Int) (q1:Int):Int),.int .u64 (max (r:Int) (q2:Int):Int)] 0 _ (CW.out.setCell (p:=⟨w.heap.size,2,none⟩) (Nat.le_refl _) (.int .u64 (max (r:Int) (q2:Int):Int))))
   go_wp2_with fail
   exact bodyPost_ret (results_cell rfl _ _ (w.heap.size + 1) 99 _ _ rfl F1.out Tryz.underlying99 rfl (by kernel_rfl)) rfl ⟨by rw [HT.out],FW.out⟩
set_option maxHeartbeats 1000000 in
theorem bd_Push (b:BS) (n:Nat) (w:World) (hb:b.ok) (hn:n≤18446744073709551615):
  Calls Tryz.prog 180 #[.agg b.cells,.int .u64 (n:Int)] w fun e w'=>e=.returned (.agg (b.push n).cells)∧Below w.heap.size w w':=by
 obtain ⟨hi,lo,bw⟩:=b
 have bhi:hi≤18446744073709551615:=hb.hi
 clear hb
 by_cases c:hi=18446744073709551615
 ·have t1:((hi:Int) == 18446744073709551615)=true:=by rw [c];rfl
  have HT:Hid ((BS.push ⟨hi,lo,bw⟩ n).cells=#[.int .u64 (hi:Int),.int .u64 (lo:Int),.int .u64 (bw:Int)]):=Lib.hid (by unfold BS.push BS.cells;dsimp only;rw [if_pos c])
  clear c
  unfold BS.cells at HT ⊢
  dsimp only at HT ⊢
  go_enter Tryz.func180,Tryz.ntmps180
  go_wp2_with fail
  exact bodyPost_ret (results_cell rfl _ _ (w.heap.size + 1) 99 _ _ rfl (Blk.new1 w _ _ _) Tryz.underlying99 rfl (by kernel_rfl)) rfl ⟨by rw [HT.out],((Below.refl _ _).alloc (Nat.le_refl _) _).alloc (by simp) _⟩
 ·have t1:((hi:Int) == 18446744073709551615)=false:=beq_eq_false_iff_ne.2 (by omega)
  have HA:=Lib.hid (fun W b hW=>add2_b W b 2 hi n hW bhi hn)
  have HT:Hid ((BS.push ⟨hi,lo,bw⟩ n).cells=#[.int .u64 (min (addS hi n:Int) 18446744073709551614),.int .u64 (lo:Int),.int .u64 (bw:Int)]):=Lib.hid (by
   have e:((min (addS hi n) 18446744073709551614:Nat):Int)=min (addS hi n:Int) 18446744073709551614:=by omega
   unfold BS.push BS.cells;dsimp only;rw [if_neg c,e])
  generalize addS hi n=q at *
  clear c bhi hn
  unfold BS.cells at HT ⊢
  dsimp only at HT ⊢
  go_enter Tryz.func180,Tryz.ntmps180
  go_wp2_with fail
  refine (HA.out ((w.alloc (.cells #[.int .u64 (hi:Int),.int .u64 (lo:Int),.int .u64 (bw:Int)] 99)).alloc (.cells #[.int .u64 0,.int .u64 0,.int .u64 0] 99)) _ (by simp)).mono ?_
  rintro e w1 ⟨rfl,h1⟩
  have B0:=Lib.hid (Blk.keep (Blk.alloc (Blk.new w 99 #[.int .u64 (hi:Int),.int .u64 (lo:Int),.int .u64 (bw:Int)]) (.cells #[.int .u64 0,.int .u64 0,.int .u64 0] 99)) h1)
  have B1:=Lib.hid (Blk.keep (Blk.new1 w (.cells #[.int .u64 (hi:Int),.int .u64 (lo:Int),.int .u64 (bw:Int)] 99) 99 #[.int .u64 0,.int .u64 0,.int .u64 0]) h1)
  have BW:=Lib.hid (bel_to (((Below.refl w.heap.size w).alloc (Nat.le_refl _) (.cells #[.int .u64 (hi:Int),.int .u64 (lo:Int),.int .u64 (bw:Int)] 99)).alloc (by simp) (.cells #[.int .u64 0,.int .u64 0,.int .u64 0] 99)) h1 (by simp;omega))
  have HNE:Hid (w.heap.size≠w.heap.size + 1):=Lib.hid (by omega)
  clear h1 HA
  have a0:=B0.out.cell (i:=0) (v:=.int .u64 (hi:Int)) rfl
  have a1:=B0.out.cell (i:=1) (v:=.int .u64 (lo:Int)) rfl
  have a2:=B0.out.cell (i:=2) (v:=.int .u64 (bw:Int)) rfl
  have f0:=B0.out.free 0
  have f1:=B0.out.free 1
  have f2:=B0.out.free 2
  have t0:=B1.out.cell (i:=0) (v:=.int .u64 0) rfl
  have t1:=B1.out.cell (i:=1) (v:=.int .u64 0) rfl
  have t2:=B1.out.cell (i:=2) (v:=.int .u64 0) rfl
  have y0:=B1.out.free 0
  have y1:=B1.out.free 1
  have y2:=B1.out.free 2
  have F1:=Lib.hid (Blk.whole [.int .u64 (min (q:Int) 18446744073709551614:Int),.int .u64 (lo:Int),.int .u64 (bw:Int)] (B1.out.set_other (c:=w.heap.size) 0 (.int .u64 (min (q:Int) 18446744073709551614:Int)) (by omega)) rfl)
  have FW:=Lib.hid (Below.sets (show w.heap.size≤w.heap.size + 1 by omega) [.int .u64 (min (q:Int) 18446744073709551614:Int),.int .u64 (lo:Int),.int .u64 (bw:Int)] 0 _ (BW.out.setCell (p:=⟨w.heap.size,0,none⟩) (Nat.le_refl _) (.int .u64 (min (q:Int) 18446744073709551614:Int))))
  go_wp2_with fail
  exact bodyPost_ret (results_cell rfl _ _ (w.heap.size + 1) 99 _ _ rfl F1.out Tryz.underlying99 rfl (by kernel_rfl)) rfl ⟨by rw [HT.out],FW.out⟩
theorem bd_Room (b:BS) (w:World) (hb:b.ok):
  Calls Tryz.prog 249 #[.agg b.cells] w fun e w'=>e=.returned (.int .u64 (b.room:Int))∧Below w.heap.size w w':=by
 obtain ⟨hi,lo,bw⟩:=b
 have bhi:hi≤18446744073709551615:=hb.hi
 clear hb
 by_cases c:hi=18446744073709551615
 ·have t1:((hi:Int) == 18446744073709551615)=true:=by rw [c];rfl
  have HT:Hid (BS.room ⟨hi,lo,bw⟩=18446744073709551615):=Lib.hid (if_pos c)
  clear c
  unfold BS.cells
  dsimp only
  go_enter Tryz.func249,Tryz.ntmps249
  go_wp2_with fail
  go_ret
  exact ⟨ret_u64 (by rw [HT.out];rfl),(Below.refl _ _).alloc (Nat.le_refl _) _⟩
 ·have t1:((hi:Int) == 18446744073709551615)=false:=beq_eq_false_iff_ne.2 (by omega)
  have HT:Hid (BS.room ⟨hi,lo,bw⟩=shareS hi 85 100):=Lib.hid (if_neg c)
  have HS:=Lib.hid (fun w=>share_b hi 85 100 w bhi (by omega) (by omega))
  generalize shareS hi 85 100=q at *
  clear c bhi
  unfold BS.cells
  dsimp only
  go_enter Tryz.func249,Tryz.ntmps249
  go_wp2_with fail
  refine (HS.out _).mono ?_
  rintro e w1 ⟨rfl,h1⟩
  have HW:=Lib.hid (bel_to ((Below.refl w.heap.size w).alloc (Nat.le_refl _) _) h1 (by simp))
  clear h1
  go_wp2_with fail
  go_ret
  exact ⟨ret_u64 (by rw [HT.out]),HW.out⟩
set_option maxHeartbeats 1000000 in
theorem bd_Cap (b:BS) (v:Option Addr) (cap:Nat) (l:List Nat) (w:World) (hl:l.length≤9223372036854775807) (hrow:NumsR w v l):
  Calls Tryz.prog 254 #[.agg b.cells,.slice v l.length cap] w fun e w'=>e=.returned (.int .u64 (b.cap l:Int))∧Below w.heap.size w w':=by
 obtain ⟨hi,lo,bw⟩:=b
 have HR:=Lib.hid hrow
 have HT:Hid (BS.cap ⟨hi,lo,bw⟩ l=mins (min hi lo) l):=Lib.hid rfl
 have HM:Hid (min (hi:Int) (lo:Int)=((min hi lo:Nat):Int)):=Lib.hid (by omega)
 clear hrow
 unfold BS.cells
 dsimp only
 go_enter Tryz.func254,Tryz.ntmps254
 go_wp2_with fail
 go_loop [5,15] (fun s i=>∃k:Nat,k≤l.length∧i=.int .i64 k∧s=.int .u64 ((mins (min hi lo) (l.take k):Nat):Int)) (fun _ i=>l.length - (intOf i).toNat)
 case atStart=>exact ⟨0,Nat.zero_le _,rfl,by rw [HM.out];rfl⟩
 case round=>
  obtain ⟨k,hk,rfl,rfl⟩:=hrel
  by_cases hlt:k < l.length
  ·obtain ⟨rb,off,rfl,hb,hc⟩:=HR.out (by omega)
   have hcell:=cell_al (hc k hlt) (.cells #[.int .u64 (hi:Int),.int .u64 (lo:Int),.int .u64 (bw:Int)] 99)
   have HS:=Lib.hid (mins_take (min hi lo) hlt)
   clear hb hc
   generalize l.getD k 0=z at *
   generalize mins (min hi lo) (l.take k)=m at *
   go_wp2_with fail
   go_round
   case rel=>exact ⟨k + 1,by omega,by go_num,by rw [HS.out];congr 1;omega⟩
   case measure=>simp [intOf];omega
  ·obtain rfl:k=l.length:=by omega
   go_wp2_with fail
   go_ret
   exact ⟨ret_u64 (by rw [HT.out]),(Below.refl _ _).alloc (Nat.le_refl _) _⟩
theorem bd_Limit (b:BS) (r:Nat) (w:World):
  Calls Tryz.prog 99 #[.agg b.cells,.int .u64 (r:Int)] w fun e w'=>e=.returned (.int .u64 (b.limit r:Int))∧Below w.heap.size w w':=by
 obtain ⟨hi,lo,bw⟩:=b
 have HM:Hid (min (r:Int) (bw:Int)=(BS.limit ⟨hi,lo,bw⟩ r:Int)):=Lib.hid (by unfold BS.limit;dsimp only;omega)
 unfold BS.cells
 dsimp only
 go_enter Tryz.func99,Tryz.ntmps99
 go_wp2_with fail
 go_ret
 exact ⟨ret_u64 HM.out,(Below.refl _ _).alloc (Nat.le_refl _) _⟩
end Go.Proofs.YteoepabmnbkabaaGreatDoor

set_option linter.unusedVariables false
namespace Go.Proofs.YteoepabmnbkabaaGreatDoor
open Go.RowKit Pl
def RaAt (w:World) (b:Nat) (s:RaS):Prop:=Blk w b 146 s.cells
theorem ra_perSecond (d i:Nat) (w:World) (hd:d≤18446744073709551615) (hi:i≤18446744073709551615):
  Calls Tryz.prog 205 #[.int .u64 (d:Int),.int .u64 (i:Int)] w fun e w'=>e=.returned (.int .u64 ((perS d i:Nat):Int))∧Drawn w w':=by
 by_cases c:i=0
 ·subst c
  have hc:(((0:Nat):Int) == 0)=true:=rfl
  go_enter Tryz.func205,Tryz.ntmps205
  go_wp2
  go_ret
  exact ⟨rfl,Drawn.refl _⟩
 ·have hc:((i:Int) == 0)=false:=beq_eq_false_iff_ne.2 (by omega)
  have HN:=Lib.hid c
  have HS:=Lib.hid (fix_Share_n d 1000000 i w hd (by omega) hi)
  clear c
  have HP:Hid (perS d i=shareS d 1000000 i):=Lib.hid (by unfold perS;rw [if_neg HN.out])
  generalize shareS d 1000000 i=q at *
  go_enter Tryz.func205,Tryz.ntmps205
  go_wp2_with (go_at_call 163;refine (HS.out).mono ?_;rintro e w' ⟨rfl,k⟩)
  go_ret
  exact ⟨ret_u64 (by rw [HP.out]),k⟩
theorem ra_older (a b:St) (w:World):
  Calls Tryz.prog 204 #[.agg a.cells,.agg b.cells] w fun e w'=>e=.returned (.bool (olderB a b))∧Below w.heap.size w w':=by
 unfold olderB St.cells
 by_cases c:a.deliv=b.deliv
 ·rw [if_pos c]
  have hc:((a.deliv:Int) == (b.deliv:Int))=true:=by rw [c];simp
  clear c
  go_enter Tryz.func204,Tryz.ntmps204
  go_wp2
  go_ret
  exact ⟨by simp,((Below.refl _ _).alloc (Nat.le_refl _) _).alloc (by simp) _⟩
 ·rw [if_neg c]
  have hc:((a.deliv:Int) == (b.deliv:Int))=false:=beq_eq_false_iff_ne.2 (by omega)
  clear c
  go_enter Tryz.func204,Tryz.ntmps204
  go_wp2
  go_ret
  exact ⟨by simp,((Below.refl _ _).alloc (Nat.le_refl _) _).alloc (by simp) _⟩
theorem ra_New (w:World):Calls Tryz.prog 32 #[] w fun e w'=>e=.returned (.pointer (some ⟨w.heap.size,0,none⟩))∧w.alloc (.cells RaS.zero.cells 146)=w':=by
 go_enter Tryz.func32,Tryz.ntmps32
 go_wp2
 go_ret
 exact ⟨rfl,rfl⟩
theorem ra_Delivered (b:Nat) (s:RaS) (w:World) (h:RaAt w b s):
  Calls Tryz.prog 106 #[.pointer (some ⟨b,0,none⟩)] w fun e w'=>e=.returned (.int .u64 (s.n:Int))∧w=w':=by
 have h0:=Blk.cell h (i:=0) (v:=.int .u64 (s.n:Int)) rfl
 clear h
 go_enter Tryz.func106,Tryz.ntmps106
 go_wp2
 go_ret
 exact ⟨rfl,rfl⟩
theorem ra_Ack_none (b c:Nat) (p:Option Addr) (v:Value) (w:World):
  Calls Tryz.prog 61 #[.pointer (some ⟨b,0,none⟩),v,.slice p 0 c] w fun e w'=>e=.returned (.tuple #[.agg Smp.zero.cells,.bool false])∧Below w.heap.size w w':=by
 have HB:=Lib.hid (Blk.new w 108 Smp.zero.cells)
 have HW:=Lib.hid ((Below.refl w.heap.size w).alloc (Nat.le_refl _) (.cells Smp.zero.cells 108))
 unfold Smp.cells Smp.zero at *
 go_enter Tryz.func61,Tryz.ntmps61
 go_wp2
 exact bodyPost_ret (results_cell_tmp rfl _ _ w.heap.size 108 _ _ rfl HB.out Tryz.underlying108 rfl (by kernel_rfl)) rfl ⟨rfl,HW.out⟩
set_option maxHeartbeats 400000 in
theorem ra_Limit (b fl:Nat) (s:RaS) (w:World) (h:RaAt w b s) (hs:s.ok) (hf:fl≤18446744073709551615):
  Calls Tryz.prog 112 #[.pointer (some ⟨b,0,none⟩),.int .u64 (fl:Int)] w fun e w'=>e=.returned (.tuple #[])∧RaAt w' b (s.limit fl)∧w.grownBy w' (some b):=by
 have h0:=Blk.cell h (i:=0) (v:=.int .u64 (s.n:Int)) rfl
 have h3:=Blk.cell h (i:=3) (v:=.int .u64 (s.mark:Int)) rfl
 have f3:=Blk.free h 3
 have hlt:=Blk.lt h
 have HH:=Lib.hid h
 have hn:=hs.n
 have HA:=Lib.hid (fix_Add2_n w w.heap.size 2 s.n fl rfl hn hf)
 have HB:Hid (Blk (w.alloc (.cells #[.int .u64 (s.n:Int),.int .u64 (fl:Int)] 22)) b 146 s.cells):=Lib.hid (Blk.alloc h _)
 have HL:Hid ((s.limit fl).mark=max (addS s.n fl) 1):=Lib.hid rfl
 have HZ:Hid (s.limit fl=⟨s.n,s.last,s.first,(s.limit fl).mark⟩):=Lib.hid rfl
 clear h hs
 generalize (s.limit fl).mark=M at *
 generalize s.limit fl=s' at *
 generalize addS s.n fl=m at *
 have HM:Hid (max (m:Int) 1=(M:Int)):=Lib.hid (by have:=HL.out;omega)
 go_enter Tryz.func112,Tryz.ntmps112
 go_wp2_with (go_at_call 57;refine (HA.out).mono ?_;rintro e w' ⟨rfl,rfl⟩)
 go_end0
 have:=(Blk.set HH.out 3 (.int .u64 (max (m:Int) 1))).alloc (.cells #[.int .u64 (s.n:Int),.int .u64 (fl:Int)] 22)
 refine ⟨rfl,?_,gr_alloc (gr_set (gr_refl _ _) _ _) _⟩
 rw [HZ.out]
 rw [HM.out] at this ⊢
 exact this
end Go.Proofs.YteoepabmnbkabaaGreatDoor

set_option linter.unusedVariables false
namespace Go.Proofs.YteoepabmnbkabaaGreatDoor
open Go.RowKit Pl
theorem gr_set_new {a w:World} {row:Option Nat} {g:Nat} (h:a.grownBy w row) (hg:a.heap.size≤g) (i:Nat) (u:Value):a.grownBy (w.setCell ⟨g,i,none⟩ u) row:=
 ⟨h.os,h.tape,h.output,Nat.le_trans h.size (by simp [World.setCell]),fun k hk hr=>(Below.heap_setCell _ _ _ _ (by show k≠g;omega)).trans (h.block k hk hr)⟩
theorem gr_sets_new {a:World} {row:Option Nat} {g:Nat} (hg:a.heap.size≤g):∀(vs:List Value) (o:Nat) (w:World),a.grownBy w row→a.grownBy (w.setCells g o vs) row
 | [],_,_,h=>h
 | v :: r,o,w,h=>gr_sets_new hg r (o + 1) _ (gr_set_new h hg o v)
structure StampPost (w:World) (b:Nat) (t:St) (s:RaS) (e:Ending) (w':World):Prop where
 e:e=.returned (.agg t.cells)
 blk:RaAt w' b s
 gr:w.grownBy w' (some b)
set_option maxHeartbeats 2000000 in
theorem ra_Stamp_some (b now fl:Nat) (s:RaS) (w:World) (h:RaAt w b s) (hf:fl≠0):
  Calls Tryz.prog 182 #[.pointer (some ⟨b,0,none⟩),.int .u64 (now:Int),.int .u64 (fl:Int)] w (StampPost w b (s.stampT now) s):=by
 have HB:=Lib.hid (Blk.new w 45 #[.int .u64 0,.int .u64 0,.int .u64 0,.int .u64 0,.bool false])
 have HG:=Lib.hid (gr_alloc (gr_refl w (some b)) (.cells #[.int .u64 0,.int .u64 0,.int .u64 0,.int .u64 0,.bool false] 45))
 have HC:=Lib.hid (Blk.alloc h (.cells #[.int .u64 0,.int .u64 0,.int .u64 0,.int .u64 0,.bool false] 45))
 have HN:Hid (w.heap.size≠b):=Lib.hid (by have:=Blk.lt h;omega)
 have k0:=HC.out.cell (i:=0) (v:=.int .u64 (s.n:Int)) rfl
 have k1:=HC.out.cell (i:=1) (v:=.int .u64 (s.last:Int)) rfl
 have k2:=HC.out.cell (i:=2) (v:=.int .u64 (s.first:Int)) rfl
 have k3:=HC.out.cell (i:=3) (v:=.int .u64 (s.mark:Int)) rfl
 have z0:=HB.out.cell (i:=0) (v:=.int .u64 0) rfl
 have z1:=HB.out.cell (i:=1) (v:=.int .u64 0) rfl
 have z2:=HB.out.cell (i:=2) (v:=.int .u64 0) rfl
 have z3:=HB.out.cell (i:=3) (v:=.int .u64 0) rfl
 have z4:=HB.out.cell (i:=4) (v:=.bool false) rfl
 have y0:=HB.out.free 0
 have y1:=HB.out.free 1
 have y2:=HB.out.free 2
 have y3:=HB.out.free 3
 have y4:=HB.out.free 4
 have hlt:=Blk.lt h
 have hc:((fl:Int) == 0)=false:=beq_eq_false_iff_ne.2 (by omega)
 clear h hf
 obtain ⟨m,hm⟩:∃m:Bool,decide (s.mark≠0)=m:=⟨_,rfl⟩
 have HM:Hid (((s.mark:Int) != 0)=m):=Lib.hid (by rw [← hm];by_cases c:s.mark=0 <;> simp [c])
 have HT:Hid ((s.stampT now).cells=#[.int .u64 (now:Int),.int .u64 (s.first:Int),.int .u64 (s.n:Int),.int .u64 (s.last:Int),.bool m]):=Lib.hid (by unfold RaS.stampT St.cells;rw [hm])
 clear hm
 go_enter Tryz.func182,Tryz.ntmps182
 go_wp2_with fail
 generalize (w.alloc (.cells #[.int .u64 0,.int .u64 0,.int .u64 0,.int .u64 0,.bool false] 45))=wa at *
 go_region
 go_wp2_with fail
 rw [HM.out]
 have F1:=(Blk.whole [.int .u64 (now:Int),.int .u64 (s.first:Int),.int .u64 (s.n:Int),.int .u64 (s.last:Int),.bool m] HB.out rfl).drew
 refine bodyPost_ret (results_cell rfl _ _ w.heap.size 45 _ _ rfl F1 Tryz.underlying45 rfl (by kernel_rfl)) rfl ⟨by rw [HT.out],?_,?_⟩
 ·exact (Blk.sets_other (fun e=>HN.out e.symm) [.int .u64 (now:Int),.int .u64 (s.first:Int),.int .u64 (s.n:Int),.int .u64 (s.last:Int),.bool m] 0 _ HC.out).drew
 ·exact gr_drew (gr_sets_new (Nat.le_refl _) [.int .u64 (now:Int),.int .u64 (s.first:Int),.int .u64 (s.n:Int),.int .u64 (s.last:Int),.bool m] 0 _ HG.out)
set_option maxHeartbeats 2000000 in
theorem ra_Stamp_zero (b now:Nat) (s:RaS) (w:World) (h:RaAt w b s):
  Calls Tryz.prog 182 #[.pointer (some ⟨b,0,none⟩),.int .u64 (now:Int),.int .u64 0] w (StampPost w b ((s.stampS now 0).stampT now) (s.stampS now 0)):=by
 have HN:Hid (w.heap.size≠b):=Lib.hid (by have:=Blk.lt h;omega)
 have HB2:Hid (Blk (((w.setCell ⟨b,2,none⟩ (.int .u64 (now:Int))).setCell ⟨b,1,none⟩ (.int .u64 (now:Int))).alloc (.cells #[.int .u64 0,.int .u64 0,.int .u64 0,.int .u64 0,.bool false] 45)) w.heap.size 45 #[.int .u64 0,.int .u64 0,.int .u64 0,.int .u64 0,.bool false]):=Lib.hid (by
  have:=Blk.new ((w.setCell ⟨b,2,none⟩ (.int .u64 (now:Int))).setCell ⟨b,1,none⟩ (.int .u64 (now:Int))) 45 #[.int .u64 0,.int .u64 0,.int .u64 0,.int .u64 0,.bool false]
  have e:((w.setCell ⟨b,2,none⟩ (.int .u64 (now:Int))).setCell ⟨b,1,none⟩ (.int .u64 (now:Int))).heap.size=w.heap.size:=by simp [World.setCell]
  rw [e] at this
  exact this)
 have HC2:Hid (Blk _ b 146 (s.stampS now 0).cells):=Lib.hid (((Blk.set h 2 (.int .u64 (now:Int))).set 1 (.int .u64 (now:Int))).alloc (.cells #[.int .u64 0,.int .u64 0,.int .u64 0,.int .u64 0,.bool false] 45))
 have HG2:=Lib.hid (gr_alloc (gr_set (gr_set (gr_refl w (some b)) 2 (.int .u64 (now:Int))) 1 (.int .u64 (now:Int))) (.cells #[.int .u64 0,.int .u64 0,.int .u64 0,.int .u64 0,.bool false] 45))
 have h1:=Blk.cell h (i:=1) (v:=.int .u64 (s.last:Int)) rfl
 have h2:=Blk.cell h (i:=2) (v:=.int .u64 (s.first:Int)) rfl
 have hb1:=Blk.free h 1
 have hb2:=Blk.free h 2
 have hlt:=Blk.lt h
 clear h
 obtain ⟨m,hm⟩:∃m:Bool,decide (s.mark≠0)=m:=⟨_,rfl⟩
 have HM:Hid (((s.mark:Int) != 0)=m):=Lib.hid (by rw [← hm];by_cases c:s.mark=0 <;> simp [c])
 have HT:Hid (((s.stampS now 0).stampT now).cells=#[.int .u64 (now:Int),.int .u64 (now:Int),.int .u64 (s.n:Int),.int .u64 (now:Int),.bool m]):=Lib.hid (by unfold RaS.stampT St.cells RaS.stampS;rw [if_pos rfl];simp only [hm])
 clear hm
 go_enter Tryz.func182,Tryz.ntmps182
 go_wp2_with fail
 generalize (((w.setCell ⟨b,2,none⟩ (.int .u64 (now:Int))).setCell ⟨b,1,none⟩ (.int .u64 (now:Int))).alloc (.cells #[.int .u64 0,.int .u64 0,.int .u64 0,.int .u64 0,.bool false] 45))=wb at *
 have k0:=HC2.out.cell (i:=0) (v:=.int .u64 (s.n:Int)) rfl
 have k1:=HC2.out.cell (i:=1) (v:=.int .u64 (now:Int)) rfl
 have k2:=HC2.out.cell (i:=2) (v:=.int .u64 (now:Int)) rfl
 have k3:=HC2.out.cell (i:=3) (v:=.int .u64 (s.mark:Int)) rfl
 have z0:=HB2.out.cell (i:=0) (v:=.int .u64 0) rfl
 have z1:=HB2.out.cell (i:=1) (v:=.int .u64 0) rfl
 have z2:=HB2.out.cell (i:=2) (v:=.int .u64 0) rfl
 have z3:=HB2.out.cell (i:=3) (v:=.int .u64 0) rfl
 have z4:=HB2.out.cell (i:=4) (v:=.bool false) rfl
 have y0:=HB2.out.free 0
 have y1:=HB2.out.free 1
 have y2:=HB2.out.free 2
 have y3:=HB2.out.free 3
 have y4:=HB2.out.free 4
 go_region
 go_wp2_with fail
 rw [HM.out]
 have F1:=(Blk.whole [.int .u64 (now:Int),.int .u64 (now:Int),.int .u64 (s.n:Int),.int .u64 (now:Int),.bool m] HB2.out rfl).drew
 refine bodyPost_ret (results_cell rfl _ _ w.heap.size 45 _ _ rfl F1 Tryz.underlying45 rfl (by kernel_rfl)) rfl ⟨by rw [HT.out],?_,?_⟩
 ·exact (Blk.sets_other (fun e=>HN.out e.symm) [.int .u64 (now:Int),.int .u64 (now:Int),.int .u64 (s.n:Int),.int .u64 (now:Int),.bool m] 0 _ HC2.out).drew
 ·exact gr_drew (gr_sets_new (Nat.le_refl _) [.int .u64 (now:Int),.int .u64 (now:Int),.int .u64 (s.n:Int),.int .u64 (now:Int),.bool m] 0 _ HG2.out)
theorem ra_Stamp (b now fl:Nat) (s:RaS) (w:World) (h:RaAt w b s):
  Calls Tryz.prog 182 #[.pointer (some ⟨b,0,none⟩),.int .u64 (now:Int),.int .u64 (fl:Int)] w (StampPost w b ((s.stampS now fl).stampT now) (s.stampS now fl)):=by
 by_cases c:fl=0
 ·subst c
  exact ra_Stamp_zero b now s w h
 ·have e:s.stampS now fl=s:=by unfold RaS.stampS;rw [if_neg c]
  rw [e]
  exact ra_Stamp_some b now fl s w h c
end Go.Proofs.YteoepabmnbkabaaGreatDoor

set_option linter.unusedVariables false
namespace Go.Proofs.YteoepabmnbkabaaGreatDoor
open Go.RowKit Pl
theorem cell_drew {w:World} {p:Addr} {v:Value} (h:w.cell? p=some v):w.drew.cell? p=some v:=h
theorem far5 {w:World} {b i L k0 k1 k2 k3 k4:Nat} {u0 u1 u2 u3 u4 v:Value} (h:w.cell? ⟨b,i,none⟩=some v) (n:b≠L):(((((w.setCell ⟨L,k0,none⟩ u0).setCell ⟨L,k1,none⟩ u1).setCell ⟨L,k2,none⟩ u2).setCell ⟨L,k3,none⟩ u3).setCell ⟨L,k4,none⟩ u4).cell? ⟨b,i,none⟩=some v:=far (far (far (far (far h n) n) n) n) n
theorem sub1c (a x b cap:Nat) (w:World) (ha:a≤18446744073709551615) (hx:x≤18446744073709551615) (h:w.cell? ⟨b,0,none⟩=some (.int .u64 (x:Int))):
  Calls Tryz.prog 114 #[.int .u64 (a:Int),.slice (some ⟨b,0,none⟩) 1 cap] w fun e w'=>e=.returned (.int .u64 ((subS a x:Nat):Int))∧w=w':=by
 have e:subS a x=lessS a [x]:=by simp [lessS,subS]
 rw [e]
 have:=fix_Sub (a:Int) b 0 cap [x] w (by omega) (by omega) (by simp) (by simp;omega) (fun i hi=>by
  match i,hi with
  | 0,_=>exact h)
 simpa using this
structure SubAt (a x r:Nat):Prop where
 any:∀(b:Nat) (W:World),W.cell? ⟨b,0,none⟩=some (.int .u64 (x:Int))→Calls Tryz.prog 114 #[.int .u64 (a:Int),.slice (some ⟨b,0,none⟩) 1 1] W fun e w'=>e=.returned (.int .u64 (r:Int))∧W=w'
 plain:∀W:World,Calls Tryz.prog 114 #[.int .u64 (a:Int),.slice (some ⟨W.heap.size,0,none⟩) 1 1] (W.alloc (.cells #[.int .u64 (x:Int)] 22)) fun e w'=>e=.returned (.int .u64 (r:Int))∧W.alloc (.cells #[.int .u64 (x:Int)] 22)=w'
 one:∀W:World,Calls Tryz.prog 114 #[.int .u64 (a:Int),.slice (some ⟨W.heap.size,0,none⟩) 1 1] (W.alloc (.cells #[.int .u64 (x:Int)] 22)).drew fun e w'=>e=.returned (.int .u64 (r:Int))∧(W.alloc (.cells #[.int .u64 (x:Int)] 22)).drew=w'
 ahead:∀(W:World) (o:Obj),Calls Tryz.prog 114 #[.int .u64 (a:Int),.slice (some ⟨W.heap.size,0,none⟩) 1 1] ((W.alloc (.cells #[.int .u64 (x:Int)] 22)).alloc o).drew fun e w'=>e=.returned (.int .u64 (r:Int))∧((W.alloc (.cells #[.int .u64 (x:Int)] 22)).alloc o).drew=w'
 behind:∀(W:World) (o:Obj),Calls Tryz.prog 114 #[.int .u64 (a:Int),.slice (some ⟨W.heap.size + 1,0,none⟩) 1 1] ((W.alloc o).alloc (.cells #[.int .u64 (x:Int)] 22)).drew fun e w'=>e=.returned (.int .u64 (r:Int))∧((W.alloc o).alloc (.cells #[.int .u64 (x:Int)] 22)).drew=w'
theorem sub_at (a x:Nat) (ha:a≤18446744073709551615) (hx:x≤18446744073709551615):SubAt a x (subS a x):=
 ⟨fun b W h=>sub1c a x _ 1 _ ha hx h,fun W=>sub1c a x _ 1 _ ha hx (new_cell rfl rfl),fun W=>sub1c a x _ 1 _ ha hx (cell_drew (new_cell rfl rfl)),fun W o=>sub1c a x _ 1 _ ha hx (cell_drew (cell_al (new_cell rfl rfl) _)),fun W o=>sub1c a x _ 1 _ ha hx (cell_drew (new_cell (by simp) rfl))⟩
set_option maxHeartbeats 1000000 in
theorem ra_sample (now n:Nat) (s:St) (w:World) (hnow:now≤18446744073709551615) (hn:n≤18446744073709551615) (hs:s.ok):
  Calls Tryz.prog 131 #[.int .u64 (now:Int),.int .u64 (n:Int),.agg s.cells] w fun e w'=>e=.returned (.agg (smpOf now n s).cells)∧Below w.heap.size w w':=by
 have S1:∀b w,w.cell? ⟨b,0,none⟩=some (.int .u64 (s.deliv:Int))→Calls Tryz.prog 114 #[.int .u64 (n:Int),.slice (some ⟨b,0,none⟩) 1 1] w fun e w'=>e=.returned (.int .u64 ((subS n s.deliv:Nat):Int))∧w=w':=fun b w h=>sub1c n s.deliv b 1 w hn hs.deliv h
 have S2:=sub_at s.sent s.first hs.sent hs.first
 have S3:=sub_at now s.at_ hnow hs.at_
 have S4:=sub_at now s.sent hnow hs.sent
 have S5:∀w,Calls Tryz.prog 205 #[.int .u64 ((subS n s.deliv:Nat):Int),.int .u64 ((ivS now s:Nat):Int)] w fun e w'=>e=.returned (.int .u64 ((perS (subS n s.deliv) (ivS now s):Nat):Int))∧Drawn w w':=fun w=>ra_perSecond _ _ w (by have:=subS_le n s.deliv;omega) (ivS_le hnow hs)
 have HIV:Hid (max ((subS s.sent s.first:Nat):Int) ((subS now s.at_:Nat):Int)=((ivS now s:Nat):Int)):=Lib.hid (by unfold ivS;omega)
 have HT:Hid ((smpOf now n s).cells=#[.int .u64 ((subS n s.deliv:Nat):Int),.int .u64 ((ivS now s:Nat):Int),.int .u64 ((perS (subS n s.deliv) (ivS now s):Nat):Int),.int .u64 ((subS now s.sent:Nat):Int),.bool s.lim]):=Lib.hid rfl
 generalize perS (subS n s.deliv) (ivS now s)=d5 at *
 generalize subS n s.deliv=d1 at *
 generalize subS s.sent s.first=d2 at *
 generalize subS now s.at_=d3 at *
 generalize subS now s.sent=d4 at *
 generalize ivS now s=iv at *
 have H1:=Lib.hid S1
 have H2:=Lib.hid S2
 have H3:=Lib.hid S3
 have H4:=Lib.hid S4
 have H5:=Lib.hid S5
 clear S1 S2 S3 S4 S5 hs
 have A0:=Lib.hid (Blk.new w 45 s.cells)
 have A1:=Lib.hid (Blk.new1 w (.cells s.cells 45) 108 #[.int .u64 0,.int .u64 0,.int .u64 0,.int .u64 0,.bool false])
 have AW:=Lib.hid (((Below.refl w.heap.size w).alloc (Nat.le_refl _) (.cells s.cells 45)).alloc (by simp) (.cells #[.int .u64 0,.int .u64 0,.int .u64 0,.int .u64 0,.bool false] 108))
 have A0':=Lib.hid (A0.out.alloc (.cells #[.int .u64 0,.int .u64 0,.int .u64 0,.int .u64 0,.bool false] 108))
 unfold St.cells at A0 A1 AW A0' ⊢
 have a2:=A0'.out.cell (i:=2) (v:=.int .u64 (s.deliv:Int)) rfl
 go_enter Tryz.func131,Tryz.ntmps131
 go_wp2_with fail
 refine (H1.out _ _ (new_cell (by simp) rfl)).mono ?_
 rintro e w1 ⟨rfl,hw1⟩
 have B0:=Lib.hid (A0'.out.alloc (.cells #[.int .u64 (s.deliv:Int)] 22))
 have B1:=Lib.hid (A1.out.alloc (.cells #[.int .u64 (s.deliv:Int)] 22))
 have BW:=Lib.hid (AW.out.alloc AW.out.size (.cells #[.int .u64 (s.deliv:Int)] 22))
 rw [hw1] at B0 B1 BW
 clear hw1 A0 A1 AW A0' a2 H1
 have b0:=B0.out.cell (i:=0) (v:=.int .u64 (s.sent:Int)) rfl
 have b1:=B0.out.cell (i:=1) (v:=.int .u64 (s.first:Int)) rfl
 have b3:=B0.out.cell (i:=3) (v:=.int .u64 (s.at_:Int)) rfl
 have hlt:=B0.out.lt
 go_upto_region 2 with fail
 go_cut [8] from 14 to 25 (fun v wx=>v=.int .u64 (iv:Int)∧Below w1.heap.size w1 wx)
 case first=>
  have c0:=B0.out.drew.cell (i:=0) (v:=.int .u64 (s.sent:Int)) rfl
  have c1:=B0.out.drew.cell (i:=1) (v:=.int .u64 (s.first:Int)) rfl
  have c3:=B0.out.drew.cell (i:=3) (v:=.int .u64 (s.at_:Int)) rfl
  go_region_held3 (fun w'=>w'.cell? ⟨w.heap.size,0,none⟩=some (.int .u64 (s.sent:Int))∧w'.cell? ⟨w.heap.size,1,none⟩=some (.int .u64 (s.first:Int))∧w'.cell? ⟨w.heap.size,3,none⟩=some (.int .u64 (s.at_:Int)))
   (first | exact ⟨c0,c1,c3⟩ | exact ⟨cell_drew (cell_al b0 _),cell_drew (cell_al b1 _),cell_drew (cell_al b3 _)⟩ | exact ⟨cell_drew (cell_al (cell_al b0 _) _),cell_drew (cell_al (cell_al b1 _) _),cell_drew (cell_al (cell_al b3 _) _)⟩)
   (first | (go_at_call 114;with_reducible refine (H2.out.one _).mono ?_;rintro e w' ⟨rfl,rfl⟩) | (go_at_call 114;with_reducible refine (H2.out.ahead _ _).mono ?_;rintro e w' ⟨rfl,rfl⟩) | (go_at_call 114;with_reducible refine (H2.out.behind _ _).mono ?_;rintro e w' ⟨rfl,rfl⟩) | (go_at_call 114;with_reducible refine (H3.out.one _).mono ?_;rintro e w' ⟨rfl,rfl⟩) | (go_at_call 114;with_reducible refine (H3.out.ahead _ _).mono ?_;rintro e w' ⟨rfl,rfl⟩) | (go_at_call 114;with_reducible refine (H3.out.behind _ _).mono ?_;rintro e w' ⟨rfl,rfl⟩))
  all_goals
   go_wp2_with fail
   go_meet
   exact ⟨by rw [HIV.out],((((Below.refl w1.heap.size w1).alloc (Nat.le_refl _) _).alloc (by simp) _).trans ((Drawn.drew _).below _))⟩
 case rest=>
  obtain ⟨rfl,hbel⟩:=hcut
  have C0:=Lib.hid (B0.out.keep hbel)
  have C1:=Lib.hid (B1.out.keep hbel)
  have CW:=Lib.hid (bel_to BW.out hbel BW.out.size)
  clear hbel B0 B1 BW b0 b1 b3 hlt
  have b0:=C0.out.cell (i:=0) (v:=.int .u64 (s.sent:Int)) rfl
  have b4:=C0.out.cell (i:=4) (v:=.bool s.lim) rfl
  have c0:=cell_drew b0
  have c4:=cell_drew b4
  have hlt:=C0.out.lt
  go_wp2_with fail
  have HNE:Hid (w.heap.size≠w.heap.size + 1):=Lib.hid (by omega)
  go_region_held3 (fun w'=>w'.cell? ⟨w.heap.size,0,none⟩=some (.int .u64 (s.sent:Int))∧w'.cell? ⟨w.heap.size,4,none⟩=some (.bool s.lim))
   (first | with_reducible exact ⟨c0,c4⟩ | with_reducible exact ⟨g0,g4⟩ | with_reducible exact ⟨far5 g0 HNE.out,far5 g4 HNE.out⟩ | with_reducible exact ⟨e0,e4⟩ | with_reducible exact ⟨cell_al e0 _,cell_al e4 _⟩ | with_reducible exact ⟨cell_drew (cell_al b0 _),cell_drew (cell_al b4 _)⟩)
   (first | (go_at_call 205;refine (H5.out _).mono ?_;rintro e w2 ⟨rfl,k⟩;have HK:=Lib.hid k;clear k;have e0:=(HK.out.cell _).trans (by first | exact c0 | exact cell_drew (cell_al b0 _));have e4:=(HK.out.cell _).trans (by first | exact c4 | exact cell_drew (cell_al b4 _));(try (have cc:w2.cell? ⟨wc.heap.size,0,none⟩=some (.int .u64 (s.sent:Int)):=(HK.out.cell _).trans (cell_drew (new_cell rfl rfl))))) | (go_at_call 114;with_reducible refine (H4.out.plain _).mono ?_;rintro e w3 ⟨rfl,hw3⟩;have HW3:Hid (Below wc.heap.size wc w3):=Lib.hid (by rw [← hw3];have q:=((Drawn.drew wc).more HK.out).below wc.heap.size;exact q.alloc q.size _);clear hw3;have D0:=Lib.hid (C0.out.keep HW3.out);have D1:=Lib.hid (C1.out.keep HW3.out);have g0:=D0.out.cell (i:=0) (v:=.int .u64 (s.sent:Int)) rfl;have g4:=D0.out.cell (i:=4) (v:=.bool s.lim) rfl;have t0:=D1.out.cell (i:=0) (v:=.int .u64 0) rfl;have y0:=D1.out.free 0;have t1:=D1.out.cell (i:=1) (v:=.int .u64 0) rfl;have y1:=D1.out.free 1;have t2:=D1.out.cell (i:=2) (v:=.int .u64 0) rfl;have y2:=D1.out.free 2;have t3:=D1.out.cell (i:=3) (v:=.int .u64 0) rfl;have y3:=D1.out.free 3;have t4:=D1.out.cell (i:=4) (v:=.bool false) rfl;have y4:=D1.out.free 4) | (go_at_call 114;with_reducible refine (H4.out.any _ _ cc).mono ?_;rintro e w3 ⟨rfl,hw3⟩;have HW3:Hid (Below wc.heap.size wc w3):=Lib.hid (by rw [← hw3];exact ((Below.refl wc.heap.size wc).alloc (Nat.le_refl _) _).trans (((Drawn.drew _).more HK.out).below _));clear hw3;have D0:=Lib.hid (C0.out.keep HW3.out);have D1:=Lib.hid (C1.out.keep HW3.out);have g0:=D0.out.cell (i:=0) (v:=.int .u64 (s.sent:Int)) rfl;have g4:=D0.out.cell (i:=4) (v:=.bool s.lim) rfl;have t0:=D1.out.cell (i:=0) (v:=.int .u64 0) rfl;have y0:=D1.out.free 0;have t1:=D1.out.cell (i:=1) (v:=.int .u64 0) rfl;have y1:=D1.out.free 1;have t2:=D1.out.cell (i:=2) (v:=.int .u64 0) rfl;have y2:=D1.out.free 2;have t3:=D1.out.cell (i:=3) (v:=.int .u64 0) rfl;have y3:=D1.out.free 3;have t4:=D1.out.cell (i:=4) (v:=.bool false) rfl;have y4:=D1.out.free 4))
  all_goals
   have F1:=Lib.hid (Blk.whole [.int .u64 (d1:Int),.int .u64 (iv:Int),.int .u64 (d5:Int),.int .u64 (d4:Int),.bool s.lim] D1.out rfl)
   have FW:=Lib.hid (Below.sets (show w.heap.size≤w.heap.size + 1 by omega) [.int .u64 (d1:Int),.int .u64 (iv:Int),.int .u64 (d5:Int),.int .u64 (d4:Int),.bool s.lim] 0 _ (bel_to CW.out HW3.out CW.out.size))
   go_wp2_with fail
   exact bodyPost_ret (results_cell rfl _ _ (w.heap.size + 1) 108 _ _ rfl F1.out Tryz.underlying108 rfl (by kernel_rfl)) rfl ⟨by rw [HT.out],FW.out⟩
end Go.Proofs.YteoepabmnbkabaaGreatDoor
