/- 1 texts put together: what each one says stands ahead of it. -/
import Derived.Test.YteoepabmnbkabaaGreatDoorKS22
set_option linter.unusedVariables false
namespace Go.Proofs.YteoepabmnbkabaaGreatDoor
open Go.RowKit Pl
def Ten (w:World) (b:Nat) (f r l st:Bool) (fl tg cp rs el wt:Nat):Prop:=
 w.cell? ⟨b,0,none⟩=some (.bool f)∧w.cell? ⟨b,1,none⟩=some (.bool r)∧w.cell? ⟨b,2,none⟩=some (.bool l)∧w.cell? ⟨b,3,none⟩=some (.bool st)∧
 w.cell? ⟨b,4,none⟩=some (.int .u64 (fl:Int))∧w.cell? ⟨b,5,none⟩=some (.int .u64 (tg:Int))∧w.cell? ⟨b,6,none⟩=some (.int .u64 (cp:Int))∧w.cell? ⟨b,7,none⟩=some (.int .u64 (rs:Int))∧
 w.cell? ⟨b,8,none⟩=some (.int .u64 (el:Int))∧w.cell? ⟨b,9,none⟩=some (.int .u64 (wt:Int))
theorem ten_of {w:World} {b:Nat} {T:TypeId} {f r l st:Bool} {fl tg cp rs el wt:Nat}
  (h:Blk w b T #[.bool f,.bool r,.bool l,.bool st,.int .u64 (fl:Int),.int .u64 (tg:Int),.int .u64 (cp:Int),.int .u64 (rs:Int),.int .u64 (el:Int),.int .u64 (wt:Int)]):Ten w b f r l st fl tg cp rs el wt:=
 ⟨h.cell rfl,h.cell rfl,h.cell rfl,h.cell rfl,h.cell rfl,h.cell rfl,h.cell rfl,h.cell rfl,h.cell rfl,h.cell rfl⟩
def stepS (s:Int) (x:SigS):Int:=
 if s=0 then (if (x.full || x.lossy)=true then 1 else 0)
 else if s=1 then (if x.fl≤x.tg then 2 else 1)
 else if s=2 then (if x.fl≤min x.tg x.cp then 3 else if overS x=true then 4 else 2)
 else if s=3 then (if overS x=true then 4 else 3)
 else if s=4 then (if 1≤x.rs then 5 else 4)
 else if s=5 then (if (x.lossy || (decide (1≤x.rs) && highS x))=true then 2 else 5)
 else if s=6 then (if (overS x && decide (1≤x.rs))=true then (if x.full=true then 3 else 0) else 6)
 else s
theorem next_stale {s:Int} (h:rightI s=true) (h6:(s != 6)=true) {x:SigS} (hx:x.stale=true):nextS s x=6:=by
 unfold nextS
 rw [h,hx,h6]
 exact if_pos rfl
theorem next_step {s:Int} {x:SigS} (h:x.stale=false∨rightI s=false∨s=6):nextS s x=stepS s x:=by
 unfold nextS
 rw [if_neg (by rcases h with h | h | h <;> simp [h])]
 rfl
set_option maxRecDepth 100000 in
set_option maxHeartbeats 4000000 in
theorem next_t0 (f r l:Bool) (fl tg cp rs el wt:Nat) (w:World) (hx:SigS.ok ⟨f,r,l,true,fl,tg,cp,rs,el,wt⟩):
  Calls Tryz.prog 178 #[.int .i64 0,.agg (SigS.cells ⟨f,r,l,true,fl,tg,cp,rs,el,wt⟩)] w fun e w'=>e=.returned (.int .i64 6)∧Below w.heap.size w w':=by
 have HB:=Lib.hid ((Below.refl w.heap.size w).alloc (Nat.le_refl _) (.cells (SigS.cells ⟨f,r,l,true,fl,tg,cp,rs,el,wt⟩) 259))
 have HK:=Lib.hid (Blk.new w 259 (SigS.cells ⟨f,r,l,true,fl,tg,cp,rs,el,wt⟩))
 have HR:=Lib.hid (fun w=>mo_right 0 w)
 rw [show rightI 0=true by decide] at HR
 have HO:=Lib.hid (fun w=>mo_over ⟨f,r,l,true,fl,tg,cp,rs,el,wt⟩ w)
 have HP:=Lib.hid (fun w=>mo_probed ⟨f,r,l,true,fl,tg,cp,rs,el,wt⟩ w)
 have HH:=Lib.hid (fun w=>mo_high ⟨f,r,l,true,fl,tg,cp,rs,el,wt⟩ hx w)
 clear hx
 generalize overS ⟨f,r,l,true,fl,tg,cp,rs,el,wt⟩=bo at *
 generalize highS ⟨f,r,l,true,fl,tg,cp,rs,el,wt⟩=bh at *
 unfold SigS.cells at *
 dsimp only at *
 go_enter Tryz.func178,Tryz.ntmps178
 go_wp2_with fail
 refine (HR.out _).mono ?_
 rintro e w' ⟨rfl,rfl⟩
 go_wp2_with fail
 go_ret
 exact ⟨rfl,HB.out⟩
set_option maxRecDepth 100000 in
set_option maxHeartbeats 4000000 in
theorem next_t1 (f r l:Bool) (fl tg cp rs el wt:Nat) (w:World) (hx:SigS.ok ⟨f,r,l,true,fl,tg,cp,rs,el,wt⟩):
  Calls Tryz.prog 178 #[.int .i64 1,.agg (SigS.cells ⟨f,r,l,true,fl,tg,cp,rs,el,wt⟩)] w fun e w'=>e=.returned (.int .i64 6)∧Below w.heap.size w w':=by
 have HB:=Lib.hid ((Below.refl w.heap.size w).alloc (Nat.le_refl _) (.cells (SigS.cells ⟨f,r,l,true,fl,tg,cp,rs,el,wt⟩) 259))
 have HK:=Lib.hid (Blk.new w 259 (SigS.cells ⟨f,r,l,true,fl,tg,cp,rs,el,wt⟩))
 have HR:=Lib.hid (fun w=>mo_right 1 w)
 rw [show rightI 1=true by decide] at HR
 have HO:=Lib.hid (fun w=>mo_over ⟨f,r,l,true,fl,tg,cp,rs,el,wt⟩ w)
 have HP:=Lib.hid (fun w=>mo_probed ⟨f,r,l,true,fl,tg,cp,rs,el,wt⟩ w)
 have HH:=Lib.hid (fun w=>mo_high ⟨f,r,l,true,fl,tg,cp,rs,el,wt⟩ hx w)
 clear hx
 generalize overS ⟨f,r,l,true,fl,tg,cp,rs,el,wt⟩=bo at *
 generalize highS ⟨f,r,l,true,fl,tg,cp,rs,el,wt⟩=bh at *
 unfold SigS.cells at *
 dsimp only at *
 go_enter Tryz.func178,Tryz.ntmps178
 go_wp2_with fail
 refine (HR.out _).mono ?_
 rintro e w' ⟨rfl,rfl⟩
 go_wp2_with fail
 go_ret
 exact ⟨rfl,HB.out⟩
set_option maxRecDepth 100000 in
set_option maxHeartbeats 4000000 in
theorem next_t2 (f r l:Bool) (fl tg cp rs el wt:Nat) (w:World) (hx:SigS.ok ⟨f,r,l,true,fl,tg,cp,rs,el,wt⟩):
  Calls Tryz.prog 178 #[.int .i64 2,.agg (SigS.cells ⟨f,r,l,true,fl,tg,cp,rs,el,wt⟩)] w fun e w'=>e=.returned (.int .i64 6)∧Below w.heap.size w w':=by
 have HB:=Lib.hid ((Below.refl w.heap.size w).alloc (Nat.le_refl _) (.cells (SigS.cells ⟨f,r,l,true,fl,tg,cp,rs,el,wt⟩) 259))
 have HK:=Lib.hid (Blk.new w 259 (SigS.cells ⟨f,r,l,true,fl,tg,cp,rs,el,wt⟩))
 have HR:=Lib.hid (fun w=>mo_right 2 w)
 rw [show rightI 2=true by decide] at HR
 have HO:=Lib.hid (fun w=>mo_over ⟨f,r,l,true,fl,tg,cp,rs,el,wt⟩ w)
 have HP:=Lib.hid (fun w=>mo_probed ⟨f,r,l,true,fl,tg,cp,rs,el,wt⟩ w)
 have HH:=Lib.hid (fun w=>mo_high ⟨f,r,l,true,fl,tg,cp,rs,el,wt⟩ hx w)
 clear hx
 generalize overS ⟨f,r,l,true,fl,tg,cp,rs,el,wt⟩=bo at *
 generalize highS ⟨f,r,l,true,fl,tg,cp,rs,el,wt⟩=bh at *
 unfold SigS.cells at *
 dsimp only at *
 go_enter Tryz.func178,Tryz.ntmps178
 go_wp2_with fail
 refine (HR.out _).mono ?_
 rintro e w' ⟨rfl,rfl⟩
 go_wp2_with fail
 go_ret
 exact ⟨rfl,HB.out⟩
set_option maxRecDepth 100000 in
set_option maxHeartbeats 4000000 in
theorem next_t3 (f r l:Bool) (fl tg cp rs el wt:Nat) (w:World) (hx:SigS.ok ⟨f,r,l,true,fl,tg,cp,rs,el,wt⟩):
  Calls Tryz.prog 178 #[.int .i64 3,.agg (SigS.cells ⟨f,r,l,true,fl,tg,cp,rs,el,wt⟩)] w fun e w'=>e=.returned (.int .i64 6)∧Below w.heap.size w w':=by
 have HB:=Lib.hid ((Below.refl w.heap.size w).alloc (Nat.le_refl _) (.cells (SigS.cells ⟨f,r,l,true,fl,tg,cp,rs,el,wt⟩) 259))
 have HK:=Lib.hid (Blk.new w 259 (SigS.cells ⟨f,r,l,true,fl,tg,cp,rs,el,wt⟩))
 have HR:=Lib.hid (fun w=>mo_right 3 w)
 rw [show rightI 3=true by decide] at HR
 have HO:=Lib.hid (fun w=>mo_over ⟨f,r,l,true,fl,tg,cp,rs,el,wt⟩ w)
 have HP:=Lib.hid (fun w=>mo_probed ⟨f,r,l,true,fl,tg,cp,rs,el,wt⟩ w)
 have HH:=Lib.hid (fun w=>mo_high ⟨f,r,l,true,fl,tg,cp,rs,el,wt⟩ hx w)
 clear hx
 generalize overS ⟨f,r,l,true,fl,tg,cp,rs,el,wt⟩=bo at *
 generalize highS ⟨f,r,l,true,fl,tg,cp,rs,el,wt⟩=bh at *
 unfold SigS.cells at *
 dsimp only at *
 go_enter Tryz.func178,Tryz.ntmps178
 go_wp2_with fail
 refine (HR.out _).mono ?_
 rintro e w' ⟨rfl,rfl⟩
 go_wp2_with fail
 go_ret
 exact ⟨rfl,HB.out⟩
set_option maxRecDepth 100000 in
set_option maxHeartbeats 4000000 in
theorem next_t4 (f r l:Bool) (fl tg cp rs el wt:Nat) (w:World) (hx:SigS.ok ⟨f,r,l,true,fl,tg,cp,rs,el,wt⟩):
  Calls Tryz.prog 178 #[.int .i64 4,.agg (SigS.cells ⟨f,r,l,true,fl,tg,cp,rs,el,wt⟩)] w fun e w'=>e=.returned (.int .i64 6)∧Below w.heap.size w w':=by
 have HB:=Lib.hid ((Below.refl w.heap.size w).alloc (Nat.le_refl _) (.cells (SigS.cells ⟨f,r,l,true,fl,tg,cp,rs,el,wt⟩) 259))
 have HK:=Lib.hid (Blk.new w 259 (SigS.cells ⟨f,r,l,true,fl,tg,cp,rs,el,wt⟩))
 have HR:=Lib.hid (fun w=>mo_right 4 w)
 rw [show rightI 4=true by decide] at HR
 have HO:=Lib.hid (fun w=>mo_over ⟨f,r,l,true,fl,tg,cp,rs,el,wt⟩ w)
 have HP:=Lib.hid (fun w=>mo_probed ⟨f,r,l,true,fl,tg,cp,rs,el,wt⟩ w)
 have HH:=Lib.hid (fun w=>mo_high ⟨f,r,l,true,fl,tg,cp,rs,el,wt⟩ hx w)
 clear hx
 generalize overS ⟨f,r,l,true,fl,tg,cp,rs,el,wt⟩=bo at *
 generalize highS ⟨f,r,l,true,fl,tg,cp,rs,el,wt⟩=bh at *
 unfold SigS.cells at *
 dsimp only at *
 go_enter Tryz.func178,Tryz.ntmps178
 go_wp2_with fail
 refine (HR.out _).mono ?_
 rintro e w' ⟨rfl,rfl⟩
 go_wp2_with fail
 go_ret
 exact ⟨rfl,HB.out⟩
set_option maxRecDepth 100000 in
set_option maxHeartbeats 4000000 in
theorem next_t5 (f r l:Bool) (fl tg cp rs el wt:Nat) (w:World) (hx:SigS.ok ⟨f,r,l,true,fl,tg,cp,rs,el,wt⟩):
  Calls Tryz.prog 178 #[.int .i64 5,.agg (SigS.cells ⟨f,r,l,true,fl,tg,cp,rs,el,wt⟩)] w fun e w'=>e=.returned (.int .i64 6)∧Below w.heap.size w w':=by
 have HB:=Lib.hid ((Below.refl w.heap.size w).alloc (Nat.le_refl _) (.cells (SigS.cells ⟨f,r,l,true,fl,tg,cp,rs,el,wt⟩) 259))
 have HK:=Lib.hid (Blk.new w 259 (SigS.cells ⟨f,r,l,true,fl,tg,cp,rs,el,wt⟩))
 have HR:=Lib.hid (fun w=>mo_right 5 w)
 rw [show rightI 5=true by decide] at HR
 have HO:=Lib.hid (fun w=>mo_over ⟨f,r,l,true,fl,tg,cp,rs,el,wt⟩ w)
 have HP:=Lib.hid (fun w=>mo_probed ⟨f,r,l,true,fl,tg,cp,rs,el,wt⟩ w)
 have HH:=Lib.hid (fun w=>mo_high ⟨f,r,l,true,fl,tg,cp,rs,el,wt⟩ hx w)
 clear hx
 generalize overS ⟨f,r,l,true,fl,tg,cp,rs,el,wt⟩=bo at *
 generalize highS ⟨f,r,l,true,fl,tg,cp,rs,el,wt⟩=bh at *
 unfold SigS.cells at *
 dsimp only at *
 go_enter Tryz.func178,Tryz.ntmps178
 go_wp2_with fail
 refine (HR.out _).mono ?_
 rintro e w' ⟨rfl,rfl⟩
 go_wp2_with fail
 go_ret
 exact ⟨rfl,HB.out⟩
set_option maxRecDepth 100000 in
set_option maxHeartbeats 4000000 in
theorem next_f0 (f r l:Bool) (fl tg cp rs el wt:Nat) (w:World) (hx:SigS.ok ⟨f,r,l,false,fl,tg,cp,rs,el,wt⟩):
  Calls Tryz.prog 178 #[.int .i64 0,.agg (SigS.cells ⟨f,r,l,false,fl,tg,cp,rs,el,wt⟩)] w fun e w'=>e=.returned (.int .i64 (stepS 0 ⟨f,r,l,false,fl,tg,cp,rs,el,wt⟩))∧Below w.heap.size w w':=by
 have HB:=Lib.hid ((Below.refl w.heap.size w).alloc (Nat.le_refl _) (.cells (SigS.cells ⟨f,r,l,false,fl,tg,cp,rs,el,wt⟩) 259))
 have HK:=Lib.hid (Blk.new w 259 (SigS.cells ⟨f,r,l,false,fl,tg,cp,rs,el,wt⟩))
 have HR:=Lib.hid (fun w=>mo_right 0 w)
 rw [show rightI 0=true by decide] at HR
 have HO:=Lib.hid (fun w=>mo_over ⟨f,r,l,false,fl,tg,cp,rs,el,wt⟩ w)
 have HP:=Lib.hid (fun w=>mo_probed ⟨f,r,l,false,fl,tg,cp,rs,el,wt⟩ w)
 have HH:=Lib.hid (fun w=>mo_high ⟨f,r,l,false,fl,tg,cp,rs,el,wt⟩ hx w)
 clear hx
 generalize overS ⟨f,r,l,false,fl,tg,cp,rs,el,wt⟩=bo at *
 generalize highS ⟨f,r,l,false,fl,tg,cp,rs,el,wt⟩=bh at *
 unfold SigS.cells at *
 dsimp only at *
 cases f <;> cases l
 all_goals
  go_enter Tryz.func178,Tryz.ntmps178
  go_wp2_with fail
  go_ret
  exact ⟨rfl,HB.out⟩
set_option maxRecDepth 100000 in
set_option maxHeartbeats 4000000 in
theorem next_f1 (f r l:Bool) (fl tg cp rs el wt:Nat) (w:World) (hx:SigS.ok ⟨f,r,l,false,fl,tg,cp,rs,el,wt⟩):
  Calls Tryz.prog 178 #[.int .i64 1,.agg (SigS.cells ⟨f,r,l,false,fl,tg,cp,rs,el,wt⟩)] w fun e w'=>e=.returned (.int .i64 (stepS 1 ⟨f,r,l,false,fl,tg,cp,rs,el,wt⟩))∧Below w.heap.size w w':=by
 have HB:=Lib.hid ((Below.refl w.heap.size w).alloc (Nat.le_refl _) (.cells (SigS.cells ⟨f,r,l,false,fl,tg,cp,rs,el,wt⟩) 259))
 have HK:=Lib.hid (Blk.new w 259 (SigS.cells ⟨f,r,l,false,fl,tg,cp,rs,el,wt⟩))
 have HR:=Lib.hid (fun w=>mo_right 1 w)
 rw [show rightI 1=true by decide] at HR
 have HO:=Lib.hid (fun w=>mo_over ⟨f,r,l,false,fl,tg,cp,rs,el,wt⟩ w)
 have HP:=Lib.hid (fun w=>mo_probed ⟨f,r,l,false,fl,tg,cp,rs,el,wt⟩ w)
 have HH:=Lib.hid (fun w=>mo_high ⟨f,r,l,false,fl,tg,cp,rs,el,wt⟩ hx w)
 clear hx
 by_cases c:fl≤tg
 ·have HS:Hid (stepS 1 ⟨f,r,l,false,fl,tg,cp,rs,el,wt⟩=2):=Lib.hid (by unfold stepS;rw [if_neg (by decide),if_pos rfl,if_pos c])
  have t1:decide (fl≤tg)=true:=decide_eq_true c
  clear c
  generalize overS ⟨f,r,l,false,fl,tg,cp,rs,el,wt⟩=bo at *
  generalize highS ⟨f,r,l,false,fl,tg,cp,rs,el,wt⟩=bh at *
  unfold SigS.cells at *
  dsimp only at *
  go_enter Tryz.func178,Tryz.ntmps178
  go_wp2_with fail
  go_ret
  exact ⟨by rw [HS.out];rfl,HB.out⟩
 ·have HS:Hid (stepS 1 ⟨f,r,l,false,fl,tg,cp,rs,el,wt⟩=1):=Lib.hid (by unfold stepS;rw [if_neg (by decide),if_pos rfl,if_neg c])
  have t1:decide (fl≤tg)=false:=decide_eq_false c
  clear c
  generalize overS ⟨f,r,l,false,fl,tg,cp,rs,el,wt⟩=bo at *
  generalize highS ⟨f,r,l,false,fl,tg,cp,rs,el,wt⟩=bh at *
  unfold SigS.cells at *
  dsimp only at *
  go_enter Tryz.func178,Tryz.ntmps178
  go_wp2_with fail
  go_ret
  exact ⟨by rw [HS.out];rfl,HB.out⟩
set_option maxRecDepth 100000 in
set_option maxHeartbeats 4000000 in
theorem next_f2 (f r l:Bool) (fl tg cp rs el wt:Nat) (w:World) (hx:SigS.ok ⟨f,r,l,false,fl,tg,cp,rs,el,wt⟩):
  Calls Tryz.prog 178 #[.int .i64 2,.agg (SigS.cells ⟨f,r,l,false,fl,tg,cp,rs,el,wt⟩)] w fun e w'=>e=.returned (.int .i64 (stepS 2 ⟨f,r,l,false,fl,tg,cp,rs,el,wt⟩))∧Below w.heap.size w w':=by
 have HB:=Lib.hid ((Below.refl w.heap.size w).alloc (Nat.le_refl _) (.cells (SigS.cells ⟨f,r,l,false,fl,tg,cp,rs,el,wt⟩) 259))
 have HK:=Lib.hid (Blk.new w 259 (SigS.cells ⟨f,r,l,false,fl,tg,cp,rs,el,wt⟩))
 have HR:=Lib.hid (fun w=>mo_right 2 w)
 rw [show rightI 2=true by decide] at HR
 have HO:=Lib.hid (fun w=>mo_over ⟨f,r,l,false,fl,tg,cp,rs,el,wt⟩ w)
 have HP:=Lib.hid (fun w=>mo_probed ⟨f,r,l,false,fl,tg,cp,rs,el,wt⟩ w)
 have HH:=Lib.hid (fun w=>mo_high ⟨f,r,l,false,fl,tg,cp,rs,el,wt⟩ hx w)
 clear hx
 by_cases c:fl≤min tg cp
 ·have HS:Hid (stepS 2 ⟨f,r,l,false,fl,tg,cp,rs,el,wt⟩=3):=Lib.hid (by unfold stepS;rw [if_neg (by decide),if_neg (by decide),if_pos rfl,if_pos c])
  have t1:decide ((fl:Int)≤min (tg:Int) (cp:Int))=true:=decide_eq_true (by omega)
  clear c
  generalize overS ⟨f,r,l,false,fl,tg,cp,rs,el,wt⟩=bo at *
  generalize highS ⟨f,r,l,false,fl,tg,cp,rs,el,wt⟩=bh at *
  unfold SigS.cells at *
  dsimp only at *
  go_enter Tryz.func178,Tryz.ntmps178
  go_wp2_with fail
  go_ret
  exact ⟨by rw [HS.out];rfl,HB.out⟩
 ·have HS:Hid (stepS 2 ⟨f,r,l,false,fl,tg,cp,rs,el,wt⟩=if overS ⟨f,r,l,false,fl,tg,cp,rs,el,wt⟩=true then 4 else 2):=Lib.hid (by unfold stepS;rw [if_neg (by decide),if_neg (by decide),if_pos rfl,if_neg c])
  have t1:decide ((fl:Int)≤min (tg:Int) (cp:Int))=false:=decide_eq_false (by omega)
  clear c
  generalize overS ⟨f,r,l,false,fl,tg,cp,rs,el,wt⟩=bo at *
  generalize highS ⟨f,r,l,false,fl,tg,cp,rs,el,wt⟩=bh at *
  unfold SigS.cells at *
  dsimp only at *
  cases bo
  all_goals
   go_enter Tryz.func178,Tryz.ntmps178
   go_wp2_with fail
   refine (HO.out _).mono ?_
   rintro e w1 ⟨rfl,h1⟩
   go_wp2_with fail
   go_ret
   exact ⟨by rw [HS.out];rfl,bel_to HB.out h1 HB.out.size⟩
set_option maxRecDepth 100000 in
set_option maxHeartbeats 4000000 in
theorem next_f3 (f r l:Bool) (fl tg cp rs el wt:Nat) (w:World) (hx:SigS.ok ⟨f,r,l,false,fl,tg,cp,rs,el,wt⟩):
  Calls Tryz.prog 178 #[.int .i64 3,.agg (SigS.cells ⟨f,r,l,false,fl,tg,cp,rs,el,wt⟩)] w fun e w'=>e=.returned (.int .i64 (stepS 3 ⟨f,r,l,false,fl,tg,cp,rs,el,wt⟩))∧Below w.heap.size w w':=by
 have HB:=Lib.hid ((Below.refl w.heap.size w).alloc (Nat.le_refl _) (.cells (SigS.cells ⟨f,r,l,false,fl,tg,cp,rs,el,wt⟩) 259))
 have HK:=Lib.hid (Blk.new w 259 (SigS.cells ⟨f,r,l,false,fl,tg,cp,rs,el,wt⟩))
 have HR:=Lib.hid (fun w=>mo_right 3 w)
 rw [show rightI 3=true by decide] at HR
 have HO:=Lib.hid (fun w=>mo_over ⟨f,r,l,false,fl,tg,cp,rs,el,wt⟩ w)
 have HP:=Lib.hid (fun w=>mo_probed ⟨f,r,l,false,fl,tg,cp,rs,el,wt⟩ w)
 have HH:=Lib.hid (fun w=>mo_high ⟨f,r,l,false,fl,tg,cp,rs,el,wt⟩ hx w)
 clear hx
 have HS:Hid (stepS 3 ⟨f,r,l,false,fl,tg,cp,rs,el,wt⟩=if overS ⟨f,r,l,false,fl,tg,cp,rs,el,wt⟩=true then 4 else 3):=Lib.hid (by unfold stepS;rw [if_neg (by decide),if_neg (by decide),if_neg (by decide),if_pos rfl])
 generalize overS ⟨f,r,l,false,fl,tg,cp,rs,el,wt⟩=bo at *
 generalize highS ⟨f,r,l,false,fl,tg,cp,rs,el,wt⟩=bh at *
 unfold SigS.cells at *
 dsimp only at *
 cases bo
 all_goals
  go_enter Tryz.func178,Tryz.ntmps178
  go_wp2_with fail
  refine (HO.out _).mono ?_
  rintro e w1 ⟨rfl,h1⟩
  go_wp2_with fail
  go_ret
  exact ⟨by rw [HS.out];rfl,bel_to HB.out h1 HB.out.size⟩
set_option maxRecDepth 100000 in
set_option maxHeartbeats 4000000 in
theorem next_f4 (f r l:Bool) (fl tg cp rs el wt:Nat) (w:World) (hx:SigS.ok ⟨f,r,l,false,fl,tg,cp,rs,el,wt⟩):
  Calls Tryz.prog 178 #[.int .i64 4,.agg (SigS.cells ⟨f,r,l,false,fl,tg,cp,rs,el,wt⟩)] w fun e w'=>e=.returned (.int .i64 (stepS 4 ⟨f,r,l,false,fl,tg,cp,rs,el,wt⟩))∧Below w.heap.size w w':=by
 have HB:=Lib.hid ((Below.refl w.heap.size w).alloc (Nat.le_refl _) (.cells (SigS.cells ⟨f,r,l,false,fl,tg,cp,rs,el,wt⟩) 259))
 have HK:=Lib.hid (Blk.new w 259 (SigS.cells ⟨f,r,l,false,fl,tg,cp,rs,el,wt⟩))
 have HR:=Lib.hid (fun w=>mo_right 4 w)
 rw [show rightI 4=true by decide] at HR
 have HO:=Lib.hid (fun w=>mo_over ⟨f,r,l,false,fl,tg,cp,rs,el,wt⟩ w)
 have HP:=Lib.hid (fun w=>mo_probed ⟨f,r,l,false,fl,tg,cp,rs,el,wt⟩ w)
 have HH:=Lib.hid (fun w=>mo_high ⟨f,r,l,false,fl,tg,cp,rs,el,wt⟩ hx w)
 clear hx
 by_cases c:1≤rs
 ·have HS:Hid (stepS 4 ⟨f,r,l,false,fl,tg,cp,rs,el,wt⟩=5):=Lib.hid (by unfold stepS;rw [if_neg (by decide),if_neg (by decide),if_neg (by decide),if_neg (by decide),if_pos rfl,if_pos c])
  have t1:decide ((1:Int)≤(rs:Int))=true:=decide_eq_true (by omega)
  clear c
  generalize overS ⟨f,r,l,false,fl,tg,cp,rs,el,wt⟩=bo at *
  generalize highS ⟨f,r,l,false,fl,tg,cp,rs,el,wt⟩=bh at *
  unfold SigS.cells at *
  dsimp only at *
  go_enter Tryz.func178,Tryz.ntmps178
  go_wp2_with fail
  go_ret
  exact ⟨by rw [HS.out];rfl,HB.out⟩
 ·have HS:Hid (stepS 4 ⟨f,r,l,false,fl,tg,cp,rs,el,wt⟩=4):=Lib.hid (by unfold stepS;rw [if_neg (by decide),if_neg (by decide),if_neg (by decide),if_neg (by decide),if_pos rfl,if_neg c])
  have t1:decide ((1:Int)≤(rs:Int))=false:=decide_eq_false (by omega)
  clear c
  generalize overS ⟨f,r,l,false,fl,tg,cp,rs,el,wt⟩=bo at *
  generalize highS ⟨f,r,l,false,fl,tg,cp,rs,el,wt⟩=bh at *
  unfold SigS.cells at *
  dsimp only at *
  go_enter Tryz.func178,Tryz.ntmps178
  go_wp2_with fail
  go_ret
  exact ⟨by rw [HS.out];rfl,HB.out⟩
set_option maxRecDepth 100000 in
set_option maxHeartbeats 4000000 in
theorem next_f5 (f r l:Bool) (fl tg cp rs el wt:Nat) (w:World) (hx:SigS.ok ⟨f,r,l,false,fl,tg,cp,rs,el,wt⟩):
  Calls Tryz.prog 178 #[.int .i64 5,.agg (SigS.cells ⟨f,r,l,false,fl,tg,cp,rs,el,wt⟩)] w fun e w'=>e=.returned (.int .i64 (stepS 5 ⟨f,r,l,false,fl,tg,cp,rs,el,wt⟩))∧Below w.heap.size w w':=by
 have HB:=Lib.hid ((Below.refl w.heap.size w).alloc (Nat.le_refl _) (.cells (SigS.cells ⟨f,r,l,false,fl,tg,cp,rs,el,wt⟩) 259))
 have HK:=Lib.hid (Blk.new w 259 (SigS.cells ⟨f,r,l,false,fl,tg,cp,rs,el,wt⟩))
 have HR:=Lib.hid (fun w=>mo_right 5 w)
 rw [show rightI 5=true by decide] at HR
 have HO:=Lib.hid (fun w=>mo_over ⟨f,r,l,false,fl,tg,cp,rs,el,wt⟩ w)
 have HP:=Lib.hid (fun w=>mo_probed ⟨f,r,l,false,fl,tg,cp,rs,el,wt⟩ w)
 have HH:=Lib.hid (fun w=>mo_high ⟨f,r,l,false,fl,tg,cp,rs,el,wt⟩ hx w)
 clear hx
 by_cases c:1≤rs
 ·have HS:Hid (stepS 5 ⟨f,r,l,false,fl,tg,cp,rs,el,wt⟩=if (l || (true && highS ⟨f,r,l,false,fl,tg,cp,rs,el,wt⟩))=true then 2 else 5):=Lib.hid (by unfold stepS;rw [if_neg (by decide),if_neg (by decide),if_neg (by decide),if_neg (by decide),if_neg (by decide),if_pos rfl];rw [decide_eq_true c])
  have t1:decide ((1:Int)≤(rs:Int))=true:=decide_eq_true (by omega)
  clear c
  generalize overS ⟨f,r,l,false,fl,tg,cp,rs,el,wt⟩=bo at *
  generalize highS ⟨f,r,l,false,fl,tg,cp,rs,el,wt⟩=bh at *
  unfold SigS.cells at *
  dsimp only at *
  cases l
  ·cases bh
   all_goals
    go_enter Tryz.func178,Tryz.ntmps178
    go_wp2_with fail
    refine (HH.out _).mono ?_
    rintro e w1 ⟨rfl,h1⟩
    go_wp2_with fail
    go_ret
    exact ⟨by rw [HS.out];rfl,bel_to HB.out h1 HB.out.size⟩
  ·go_enter Tryz.func178,Tryz.ntmps178
   go_wp2_with fail
   go_ret
   exact ⟨by rw [HS.out];rfl,HB.out⟩
 ·have HS:Hid (stepS 5 ⟨f,r,l,false,fl,tg,cp,rs,el,wt⟩=if (l || (false && highS ⟨f,r,l,false,fl,tg,cp,rs,el,wt⟩))=true then 2 else 5):=Lib.hid (by unfold stepS;rw [if_neg (by decide),if_neg (by decide),if_neg (by decide),if_neg (by decide),if_neg (by decide),if_pos rfl];rw [decide_eq_false c])
  have t1:decide ((1:Int)≤(rs:Int))=false:=decide_eq_false (by omega)
  clear c
  generalize overS ⟨f,r,l,false,fl,tg,cp,rs,el,wt⟩=bo at *
  generalize highS ⟨f,r,l,false,fl,tg,cp,rs,el,wt⟩=bh at *
  unfold SigS.cells at *
  dsimp only at *
  cases l
  all_goals
   go_enter Tryz.func178,Tryz.ntmps178
   go_wp2_with fail
   go_ret
   exact ⟨by rw [HS.out];rfl,HB.out⟩
set_option maxRecDepth 100000 in
set_option maxHeartbeats 4000000 in
theorem next_t6 (f r l:Bool) (fl tg cp rs el wt:Nat) (w:World) (hx:SigS.ok ⟨f,r,l,true,fl,tg,cp,rs,el,wt⟩):
  Calls Tryz.prog 178 #[.int .i64 6,.agg (SigS.cells ⟨f,r,l,true,fl,tg,cp,rs,el,wt⟩)] w fun e w'=>e=.returned (.int .i64 (stepS 6 ⟨f,r,l,true,fl,tg,cp,rs,el,wt⟩))∧Below w.heap.size w w':=by
 have HB:=Lib.hid ((Below.refl w.heap.size w).alloc (Nat.le_refl _) (.cells (SigS.cells ⟨f,r,l,true,fl,tg,cp,rs,el,wt⟩) 259))
 have HK:=Lib.hid (Blk.new w 259 (SigS.cells ⟨f,r,l,true,fl,tg,cp,rs,el,wt⟩))
 have HR:=Lib.hid (fun w=>mo_right 6 w)
 rw [show rightI 6=true by decide] at HR
 have HO:=Lib.hid (fun w=>mo_over ⟨f,r,l,true,fl,tg,cp,rs,el,wt⟩ w)
 have HP:=Lib.hid (fun w=>mo_probed ⟨f,r,l,true,fl,tg,cp,rs,el,wt⟩ w)
 have HH:=Lib.hid (fun w=>mo_high ⟨f,r,l,true,fl,tg,cp,rs,el,wt⟩ hx w)
 clear hx
 by_cases c:1≤rs
 ·have HS:Hid (stepS 6 ⟨f,r,l,true,fl,tg,cp,rs,el,wt⟩=if (overS ⟨f,r,l,true,fl,tg,cp,rs,el,wt⟩ && true)=true then (if f=true then 3 else 0) else 6):=Lib.hid (by unfold stepS;rw [if_neg (by decide),if_neg (by decide),if_neg (by decide),if_neg (by decide),if_neg (by decide),if_neg (by decide),if_pos rfl];rw [decide_eq_true c])
  have t1:decide ((1:Int)≤(rs:Int))=true:=decide_eq_true (by omega)
  clear c
  generalize overS ⟨f,r,l,true,fl,tg,cp,rs,el,wt⟩=bo at *
  generalize highS ⟨f,r,l,true,fl,tg,cp,rs,el,wt⟩=bh at *
  unfold SigS.cells at *
  dsimp only at *
  cases bo
  ·go_enter Tryz.func178,Tryz.ntmps178
   go_wp2_with fail
   refine (HR.out _).mono ?_
   rintro e w' ⟨rfl,rfl⟩
   go_wp2_with fail
   refine (HO.out _).mono ?_
   rintro e w1 ⟨rfl,h1⟩
   obtain ⟨k0,k1,k2,k3,k4,k5,k6,k7,k8,k9⟩:=ten_of (HK.out.keep h1)
   go_wp2_with fail
   go_ret
   exact ⟨by rw [HS.out];rfl,bel_to HB.out h1 HB.out.size⟩
  ·cases f
   all_goals
    go_enter Tryz.func178,Tryz.ntmps178
    go_wp2_with fail
    refine (HR.out _).mono ?_
    rintro e w' ⟨rfl,rfl⟩
    go_wp2_with fail
    refine (HO.out _).mono ?_
    rintro e w1 ⟨rfl,h1⟩
    obtain ⟨k0,k1,k2,k3,k4,k5,k6,k7,k8,k9⟩:=ten_of (HK.out.keep h1)
    go_wp2_with fail
    refine (HP.out _).mono ?_
    rintro e w2 ⟨rfl,h2⟩
    go_wp2_with fail
    go_ret
    exact ⟨by rw [HS.out];rfl,bel_to (bel_to HB.out h1 HB.out.size) h2 (Nat.le_trans HB.out.size h1.size)⟩
 ·have HS:Hid (stepS 6 ⟨f,r,l,true,fl,tg,cp,rs,el,wt⟩=if (overS ⟨f,r,l,true,fl,tg,cp,rs,el,wt⟩ && false)=true then (if f=true then 3 else 0) else 6):=Lib.hid (by unfold stepS;rw [if_neg (by decide),if_neg (by decide),if_neg (by decide),if_neg (by decide),if_neg (by decide),if_neg (by decide),if_pos rfl];rw [decide_eq_false c])
  have t1:decide ((1:Int)≤(rs:Int))=false:=decide_eq_false (by omega)
  clear c
  generalize overS ⟨f,r,l,true,fl,tg,cp,rs,el,wt⟩=bo at *
  generalize highS ⟨f,r,l,true,fl,tg,cp,rs,el,wt⟩=bh at *
  unfold SigS.cells at *
  dsimp only at *
  cases bo
  all_goals
   go_enter Tryz.func178,Tryz.ntmps178
   go_wp2_with fail
   refine (HR.out _).mono ?_
   rintro e w' ⟨rfl,rfl⟩
   go_wp2_with fail
   refine (HO.out _).mono ?_
   rintro e w1 ⟨rfl,h1⟩
   obtain ⟨k0,k1,k2,k3,k4,k5,k6,k7,k8,k9⟩:=ten_of (HK.out.keep h1)
   go_wp2_with fail
   go_ret
   exact ⟨by rw [HS.out];rfl,bel_to HB.out h1 HB.out.size⟩
set_option maxRecDepth 100000 in
set_option maxHeartbeats 4000000 in
theorem next_to (s:Int) (f r l:Bool) (fl tg cp rs el wt:Nat) (w:World) (hx:SigS.ok ⟨f,r,l,true,fl,tg,cp,rs,el,wt⟩) (hs:s < 0∨6 < s):
  Calls Tryz.prog 178 #[.int .i64 s,.agg (SigS.cells ⟨f,r,l,true,fl,tg,cp,rs,el,wt⟩)] w fun e w'=>e=.returned (.int .i64 (stepS s ⟨f,r,l,true,fl,tg,cp,rs,el,wt⟩))∧Below w.heap.size w w':=by
 have HB:=Lib.hid ((Below.refl w.heap.size w).alloc (Nat.le_refl _) (.cells (SigS.cells ⟨f,r,l,true,fl,tg,cp,rs,el,wt⟩) 259))
 have HK:=Lib.hid (Blk.new w 259 (SigS.cells ⟨f,r,l,true,fl,tg,cp,rs,el,wt⟩))
 have HR:=Lib.hid (fun w=>mo_right s w)
 rw [right_out hs] at HR
 have HO:=Lib.hid (fun w=>mo_over ⟨f,r,l,true,fl,tg,cp,rs,el,wt⟩ w)
 have HP:=Lib.hid (fun w=>mo_probed ⟨f,r,l,true,fl,tg,cp,rs,el,wt⟩ w)
 have HH:=Lib.hid (fun w=>mo_high ⟨f,r,l,true,fl,tg,cp,rs,el,wt⟩ hx w)
 clear hx
 have HS:Hid (stepS s ⟨f,r,l,true,fl,tg,cp,rs,el,wt⟩=s):=Lib.hid (by unfold stepS;rw [if_neg (by omega),if_neg (by omega),if_neg (by omega),if_neg (by omega),if_neg (by omega),if_neg (by omega),if_neg (by omega)])
 have t0:(s == 0)=false:=beq_eq_false_iff_ne.2 (by omega)
 have t1:(s == 1)=false:=beq_eq_false_iff_ne.2 (by omega)
 have t2:(s == 2)=false:=beq_eq_false_iff_ne.2 (by omega)
 have t3:(s == 3)=false:=beq_eq_false_iff_ne.2 (by omega)
 have t4:(s == 4)=false:=beq_eq_false_iff_ne.2 (by omega)
 have t5:(s == 5)=false:=beq_eq_false_iff_ne.2 (by omega)
 have t6:(s == 6)=false:=beq_eq_false_iff_ne.2 (by omega)
 clear hs
 generalize overS ⟨f,r,l,true,fl,tg,cp,rs,el,wt⟩=bo at *
 generalize highS ⟨f,r,l,true,fl,tg,cp,rs,el,wt⟩=bh at *
 unfold SigS.cells at *
 dsimp only at *
 go_enter Tryz.func178,Tryz.ntmps178
 go_wp2_with fail
 refine (HR.out _).mono ?_
 rintro e w' ⟨rfl,rfl⟩
 go_wp2_with fail
 go_ret
 exact ⟨by rw [HS.out];rfl,HB.out⟩
set_option maxRecDepth 100000 in
set_option maxHeartbeats 4000000 in
theorem next_f6 (f r l:Bool) (fl tg cp rs el wt:Nat) (w:World) (hx:SigS.ok ⟨f,r,l,false,fl,tg,cp,rs,el,wt⟩):
  Calls Tryz.prog 178 #[.int .i64 6,.agg (SigS.cells ⟨f,r,l,false,fl,tg,cp,rs,el,wt⟩)] w fun e w'=>e=.returned (.int .i64 (stepS 6 ⟨f,r,l,false,fl,tg,cp,rs,el,wt⟩))∧Below w.heap.size w w':=by
 have HB:=Lib.hid ((Below.refl w.heap.size w).alloc (Nat.le_refl _) (.cells (SigS.cells ⟨f,r,l,false,fl,tg,cp,rs,el,wt⟩) 259))
 have HK:=Lib.hid (Blk.new w 259 (SigS.cells ⟨f,r,l,false,fl,tg,cp,rs,el,wt⟩))
 have HR:=Lib.hid (fun w=>mo_right 6 w)
 rw [show rightI 6=true by decide] at HR
 have HO:=Lib.hid (fun w=>mo_over ⟨f,r,l,false,fl,tg,cp,rs,el,wt⟩ w)
 have HP:=Lib.hid (fun w=>mo_probed ⟨f,r,l,false,fl,tg,cp,rs,el,wt⟩ w)
 have HH:=Lib.hid (fun w=>mo_high ⟨f,r,l,false,fl,tg,cp,rs,el,wt⟩ hx w)
 clear hx
 by_cases c:1≤rs
 ·have HS:Hid (stepS 6 ⟨f,r,l,false,fl,tg,cp,rs,el,wt⟩=if (overS ⟨f,r,l,false,fl,tg,cp,rs,el,wt⟩ && true)=true then (if f=true then 3 else 0) else 6):=Lib.hid (by unfold stepS;rw [if_neg (by decide),if_neg (by decide),if_neg (by decide),if_neg (by decide),if_neg (by decide),if_neg (by decide),if_pos rfl];rw [decide_eq_true c])
  have t1:decide ((1:Int)≤(rs:Int))=true:=decide_eq_true (by omega)
  clear c
  generalize overS ⟨f,r,l,false,fl,tg,cp,rs,el,wt⟩=bo at *
  generalize highS ⟨f,r,l,false,fl,tg,cp,rs,el,wt⟩=bh at *
  unfold SigS.cells at *
  dsimp only at *
  cases bo
  ·go_enter Tryz.func178,Tryz.ntmps178
   go_wp2_with fail
   refine (HO.out _).mono ?_
   rintro e w1 ⟨rfl,h1⟩
   obtain ⟨k0,k1,k2,k3,k4,k5,k6,k7,k8,k9⟩:=ten_of (HK.out.keep h1)
   go_wp2_with fail
   go_ret
   exact ⟨by rw [HS.out];rfl,bel_to HB.out h1 HB.out.size⟩
  ·cases f
   all_goals
    go_enter Tryz.func178,Tryz.ntmps178
    go_wp2_with fail
    refine (HO.out _).mono ?_
    rintro e w1 ⟨rfl,h1⟩
    obtain ⟨k0,k1,k2,k3,k4,k5,k6,k7,k8,k9⟩:=ten_of (HK.out.keep h1)
    go_wp2_with fail
    refine (HP.out _).mono ?_
    rintro e w2 ⟨rfl,h2⟩
    go_wp2_with fail
    go_ret
    exact ⟨by rw [HS.out];rfl,bel_to (bel_to HB.out h1 HB.out.size) h2 (Nat.le_trans HB.out.size h1.size)⟩
 ·have HS:Hid (stepS 6 ⟨f,r,l,false,fl,tg,cp,rs,el,wt⟩=if (overS ⟨f,r,l,false,fl,tg,cp,rs,el,wt⟩ && false)=true then (if f=true then 3 else 0) else 6):=Lib.hid (by unfold stepS;rw [if_neg (by decide),if_neg (by decide),if_neg (by decide),if_neg (by decide),if_neg (by decide),if_neg (by decide),if_pos rfl];rw [decide_eq_false c])
  have t1:decide ((1:Int)≤(rs:Int))=false:=decide_eq_false (by omega)
  clear c
  generalize overS ⟨f,r,l,false,fl,tg,cp,rs,el,wt⟩=bo at *
  generalize highS ⟨f,r,l,false,fl,tg,cp,rs,el,wt⟩=bh at *
  unfold SigS.cells at *
  dsimp only at *
  cases bo
  all_goals
   go_enter Tryz.func178,Tryz.ntmps178
   go_wp2_with fail
   refine (HO.out _).mono ?_
   rintro e w1 ⟨rfl,h1⟩
   obtain ⟨k0,k1,k2,k3,k4,k5,k6,k7,k8,k9⟩:=ten_of (HK.out.keep h1)
   go_wp2_with fail
   go_ret
   exact ⟨by rw [HS.out];rfl,bel_to HB.out h1 HB.out.size⟩
set_option maxRecDepth 100000 in
set_option maxHeartbeats 4000000 in
theorem next_fo (s:Int) (f r l:Bool) (fl tg cp rs el wt:Nat) (w:World) (hx:SigS.ok ⟨f,r,l,false,fl,tg,cp,rs,el,wt⟩) (hs:s < 0∨6 < s):
  Calls Tryz.prog 178 #[.int .i64 s,.agg (SigS.cells ⟨f,r,l,false,fl,tg,cp,rs,el,wt⟩)] w fun e w'=>e=.returned (.int .i64 (stepS s ⟨f,r,l,false,fl,tg,cp,rs,el,wt⟩))∧Below w.heap.size w w':=by
 have HB:=Lib.hid ((Below.refl w.heap.size w).alloc (Nat.le_refl _) (.cells (SigS.cells ⟨f,r,l,false,fl,tg,cp,rs,el,wt⟩) 259))
 have HK:=Lib.hid (Blk.new w 259 (SigS.cells ⟨f,r,l,false,fl,tg,cp,rs,el,wt⟩))
 have HR:=Lib.hid (fun w=>mo_right s w)
 rw [right_out hs] at HR
 have HO:=Lib.hid (fun w=>mo_over ⟨f,r,l,false,fl,tg,cp,rs,el,wt⟩ w)
 have HP:=Lib.hid (fun w=>mo_probed ⟨f,r,l,false,fl,tg,cp,rs,el,wt⟩ w)
 have HH:=Lib.hid (fun w=>mo_high ⟨f,r,l,false,fl,tg,cp,rs,el,wt⟩ hx w)
 clear hx
 have HS:Hid (stepS s ⟨f,r,l,false,fl,tg,cp,rs,el,wt⟩=s):=Lib.hid (by unfold stepS;rw [if_neg (by omega),if_neg (by omega),if_neg (by omega),if_neg (by omega),if_neg (by omega),if_neg (by omega),if_neg (by omega)])
 have t0:(s == 0)=false:=beq_eq_false_iff_ne.2 (by omega)
 have t1:(s == 1)=false:=beq_eq_false_iff_ne.2 (by omega)
 have t2:(s == 2)=false:=beq_eq_false_iff_ne.2 (by omega)
 have t3:(s == 3)=false:=beq_eq_false_iff_ne.2 (by omega)
 have t4:(s == 4)=false:=beq_eq_false_iff_ne.2 (by omega)
 have t5:(s == 5)=false:=beq_eq_false_iff_ne.2 (by omega)
 have t6:(s == 6)=false:=beq_eq_false_iff_ne.2 (by omega)
 clear hs
 generalize overS ⟨f,r,l,false,fl,tg,cp,rs,el,wt⟩=bo at *
 generalize highS ⟨f,r,l,false,fl,tg,cp,rs,el,wt⟩=bh at *
 unfold SigS.cells at *
 dsimp only at *
 go_enter Tryz.func178,Tryz.ntmps178
 go_wp2_with fail
 go_ret
 exact ⟨by rw [HS.out];rfl,HB.out⟩
theorem mo_Next (s:Int) (x:SigS) (hx:x.ok) (w:World):Calls Tryz.prog 178 #[.int .i64 s,.agg x.cells] w fun e w'=>e=.returned (.int .i64 (nextS s x))∧Below w.heap.size w w':=by
 obtain ⟨f,r,l,st,fl,tg,cp,rs,el,wt⟩:=x
 cases st
 ·rw [next_step (Or.inl rfl)]
  revert s
  exact st_cases (next_f0 f r l fl tg cp rs el wt w hx) (next_f1 f r l fl tg cp rs el wt w hx) (next_f2 f r l fl tg cp rs el wt w hx) (next_f3 f r l fl tg cp rs el wt w hx) (next_f4 f r l fl tg cp rs el wt w hx) (next_f5 f r l fl tg cp rs el wt w hx) (next_f6 f r l fl tg cp rs el wt w hx) (fun s hs=>next_fo s f r l fl tg cp rs el wt w hx hs)
 ·revert s
  refine st_cases ?_ ?_ ?_ ?_ ?_ ?_ ?_ (fun s hs=>?_)
  ·rw [next_stale (by decide) (by decide) rfl];exact next_t0 f r l fl tg cp rs el wt w hx
  ·rw [next_stale (by decide) (by decide) rfl];exact next_t1 f r l fl tg cp rs el wt w hx
  ·rw [next_stale (by decide) (by decide) rfl];exact next_t2 f r l fl tg cp rs el wt w hx
  ·rw [next_stale (by decide) (by decide) rfl];exact next_t3 f r l fl tg cp rs el wt w hx
  ·rw [next_stale (by decide) (by decide) rfl];exact next_t4 f r l fl tg cp rs el wt w hx
  ·rw [next_stale (by decide) (by decide) rfl];exact next_t5 f r l fl tg cp rs el wt w hx
  ·rw [next_step (Or.inr (Or.inr rfl))];exact next_t6 f r l fl tg cp rs el wt w hx
  ·rw [next_step (Or.inr (Or.inl (right_out hs)))];exact next_to s f r l fl tg cp rs el wt w hx hs
end Go.Proofs.YteoepabmnbkabaaGreatDoor
