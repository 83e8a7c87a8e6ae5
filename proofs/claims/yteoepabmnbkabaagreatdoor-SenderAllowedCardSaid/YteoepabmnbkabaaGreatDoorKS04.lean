/- 5 texts put together: what each one says stands ahead of it. -/
import Derived.Test.YteoepabmnbkabaaGreatDoorKS03
import Derived.WalkKit
import Derived.WalkLawsBesides
import Derived.Shelf.Spec.BitsCarry
import Derived.Lib.Hide
import Derived.Outline
import Derived.Test.YteoepabmnbkabaaGreatDoorKS02
import Derived.TacticsIn
set_option linter.unusedVariables false
namespace Go.Proofs.YteoepabmnbkabaaGreatDoor
open Go.RowKit Pl
theorem add64_run (x y:Int) (hx:0≤x) (hy:0≤y) (w:World):
  (callFunc 116 #[.int .u64 x,.int .u64 y,.int .u64 0]).run Tryz.prog w=
   .ok (.value (.tuple #[.int .u64 ((x + y + 0) % 18446744073709551616),.int .u64 ((x + y + 0) / 18446744073709551616)])) w:=by
 rw [run_callFunc_extern Tryz.func116 (by kernel_rfl) (by kernel_rfl) (by kernel_rfl) (e:=add64Entry) (by kernel_rfl),run_add64 x y 0 hx hy (by omega) (by omega)]
 rfl
theorem add64_no (x y:Int) (hx:0≤x) (hy:0≤y) (h:x + y≤18446744073709551615) (w:World):
  (callFunc 116 #[.int .u64 x,.int .u64 y,.int .u64 0]).run Tryz.prog w=.ok (.value (.tuple #[.int .u64 (x + y),.int .u64 0])) w:=by
 rw [add64_run x y hx hy,show (x + y + 0) % 18446744073709551616=x + y by omega,show (x + y + 0) / 18446744073709551616=0 by omega]
theorem add64_yes (x y:Int) (hx:0≤x) (hy:0≤y) (hx':x≤18446744073709551615) (hy':y≤18446744073709551615) (h:18446744073709551615 < x + y) (w:World):
  (callFunc 116 #[.int .u64 x,.int .u64 y,.int .u64 0]).run Tryz.prog w=.ok (.value (.tuple #[.int .u64 ((x + y + 0) % 18446744073709551616),.int .u64 1])) w:=by
 rw [add64_run x y hx hy,show (x + y + 0) / 18446744073709551616=1 by omega]
set_option maxHeartbeats 400000 in
theorem fix_Add (b off cap:Nat) (zs:List Nat) (w:World) (hl:zs.length≤9223372036854775807) (hz:∀z∈zs,z≤18446744073709551615) (hrow:Row w b off zs):
  Calls Tryz.prog 57 #[.slice (some ⟨b,off,none⟩) zs.length cap] w fun e w'=>e=.returned (.int .u64 ((sumS zs:Nat):Int))∧w=w':=by
 have HZ:=Lib.hid hz
 have HR:=Lib.hid hrow
 clear hz hrow
 go_enter Tryz.func57,Tryz.ntmps57
 go_wp2
 go_loop [3,10] (fun s i=>∃k:Nat,k≤zs.length∧i=.int .i64 k∧(zs.take k).sum≤18446744073709551615∧s=.int .u64 ((zs.take k).sum:Nat)) (fun _ i=>zs.length - (intOf i).toNat)
 case atStart=>exact ⟨0,Nat.zero_le _,rfl,by simp,by simp⟩
 case round=>
  obtain ⟨k,hk,rfl,hs,rfl⟩:=hrel
  by_cases hlt:k < zs.length
  ·have hcell:=HR.out k hlt
   have hbd:=Row.bd HZ.out k
   have HS:=Lib.hid (take_succ_sum zs k hlt)
   have HL:=Lib.hid (take_sum_le zs (k + 1))
   generalize zs.getD k 0=z at *
   generalize (zs.take k).sum=t at *
   by_cases hc:t + z≤18446744073709551615
   ·have hrun:=add64_no (t:Int) (z:Int) (by omega) (by omega) (by omega)
    go_wp2
    go_round
    case rel=>exact ⟨k + 1,by omega,by go_num,by rw [HS.out];exact hc,by rw [HS.out];simp⟩
    case measure=>simp [intOf];omega
   ·have hrun:=add64_yes (t:Int) (z:Int) (by omega) (by omega) (by omega) (by omega) (by omega)
    go_wp2
    go_ret
    refine ⟨?_,rfl⟩
    have e:sumS zs=18446744073709551615:=by have a:=HS.out;have b:=HL.out;unfold sumS;omega
    rw [e];rfl
  ·go_wp2
   go_ret
   refine ⟨?_,rfl⟩
   have e:(zs.take k).sum=sumS zs:=by rw [List.take_of_length_le (by omega)] at hs ⊢;unfold sumS;omega
   rw [e]
   rfl
theorem new_cell {W:World} {c:Array Value} {t:TypeId} {b i:Nat} {v:Value} (hb:b=W.heap.size) (h:c[i]? =some v):(W.alloc (.cells c t)).cell? ⟨b,i,none⟩=some v:=by
 subst hb;simp [World.cell?_alloc_new,h]
theorem fix_Add2 (W:World) (b cap:Nat) (x y:Int) (hb:b=W.heap.size) (hx0:0≤x) (hx:x≤18446744073709551615) (hy0:0≤y) (hy:y≤18446744073709551615):
  Calls Tryz.prog 57 #[.slice (some ⟨b,0,none⟩) 2 cap] (W.alloc (.cells #[.int .u64 x,.int .u64 y] 22)) fun e w'=>e=.returned (.int .u64 ((addS x.toNat y.toNat:Nat):Int))∧W.alloc (.cells #[.int .u64 x,.int .u64 y] 22)=w':=by
 obtain ⟨x,rfl⟩:=Int.eq_ofNat_of_zero_le hx0
 obtain ⟨y,rfl⟩:=Int.eq_ofNat_of_zero_le hy0
 simp only [Int.toNat_natCast]
 rw [← sumS_two]
 refine fix_Add b 0 cap [x,y] _ (by simp) (by simp;omega) ?_
 intro i hi
 match i,hi with
 | 0,_=>exact new_cell hb (by simp)
 | 1,_=>exact new_cell hb (by simp)
theorem fix_Add2_n (W:World) (b cap x y:Nat) (hb:b=W.heap.size) (hx:x≤18446744073709551615) (hy:y≤18446744073709551615):
  Calls Tryz.prog 57 #[.slice (some ⟨b,0,none⟩) 2 cap] (W.alloc (.cells #[.int .u64 (x:Int),.int .u64 (y:Int)] 22)) fun e w'=>e=.returned (.int .u64 ((addS x y:Nat):Int))∧W.alloc (.cells #[.int .u64 (x:Int),.int .u64 (y:Int)] 22)=w':=by
 have h:=fix_Add2 W b cap (x:Int) (y:Int) hb (by omega) (by omega) (by omega) (by omega)
 simpa only [Int.toNat_natCast] using h
theorem bnext {w a b:World} (h:Below w.heap.size w a) (k:Below a.heap.size a b):Below w.heap.size w b:=h.trans (k.mono h.size)
theorem add2_b (W:World) (b cap x y:Nat) (hb:b=W.heap.size) (hx:x≤18446744073709551615) (hy:y≤18446744073709551615):
  Calls Tryz.prog 57 #[.slice (some ⟨b,0,none⟩) 2 cap] (W.alloc (.cells #[.int .u64 (x:Int),.int .u64 (y:Int)] 22)) fun e w'=>e=.returned (.int .u64 ((addS x y:Nat):Int))∧Below W.heap.size W w':=
 (fix_Add2_n W b cap x y hb hx hy).mono fun _ _ h=>⟨h.1,h.2▸(Below.refl _ _).alloc (Nat.le_refl _) _⟩
end Go.Proofs.YteoepabmnbkabaaGreatDoor

set_option linter.unusedVariables false
namespace Go.Proofs.YteoepabmnbkabaaGreatDoor
open Go.RowKit Pl
structure CS where
 t:Nat
 n:Nat
 p:Bool
def CS.zero:CS:=⟨0,0,false⟩
def CS.cells (s:CS):Array Value:=#[.int .u64 (s.t:Int),.int .u64 (s.n:Int),.bool s.p]
def CS.ok (s:CS):Prop:=s.t≤4398046511104∧s.n≤72057594037927936
def CS.toE (s:CS) (x:Nat):Int:=if s.p=true then 3 else if x < s.t then 2 else if 4398046511104 < x then 3 else 0
def CS.toS (s:CS) (x:Nat):CS:=if s.p=true then s else if x < s.t then s else if 4398046511104 < x then ⟨s.t,s.n,true⟩ else ⟨x,s.n,s.p⟩
def CS.countE (s:CS) (x:Nat):Int:=if s.p=true then 3 else if 72057594037927936 < s.n + x then 3 else 0
def CS.countS (s:CS) (x:Nat):CS:=if s.p=true then s else if 72057594037927936 < s.n + x then ⟨s.t,s.n,true⟩ else ⟨s.t,s.n + x,s.p⟩
theorem CS.to_ok {s:CS} (h:s.ok) (x:Nat):(s.toS x).ok:=by
 unfold CS.toS CS.ok at *
 split
 ·exact h
 ·split
  ·exact h
  ·split
   ·exact h
   ·exact ⟨by dsimp;omega,h.2⟩
theorem CS.count_ok {s:CS} (h:s.ok) (x:Nat):(s.countS x).ok:=by
 unfold CS.countS CS.ok at *
 split
 ·exact h
 ·split
  ·exact h
  ·exact ⟨h.1,by dsimp;omega⟩
theorem clock_New (w:World):Calls Tryz.prog 29 #[] w fun e w'=>e=.returned (.pointer (some ⟨w.heap.size,0,none⟩))∧w.alloc (.cells CS.zero.cells 135)=w':=by
 go_enter Tryz.func29,Tryz.ntmps29
 go_wp2
 go_ret
 exact ⟨rfl,rfl⟩
theorem clock_end (b:Nat) (s:CS) (w:World) (h:Blk w b 135 s.cells):
  Calls Tryz.prog 101 #[.pointer (some ⟨b,0,none⟩)] w fun e w'=>e=.returned (.int .i64 3)∧w.setCell ⟨b,2,none⟩ (.bool true)=w':=by
 have h2:=h.cell (i:=2) (v:=.bool s.p) rfl
 have f2:=h.free 2
 have HH:=Lib.hid h
 clear h
 go_enter Tryz.func101,Tryz.ntmps101
 go_wp2
 go_ret
 exact ⟨rfl,rfl⟩
theorem clock_read (b:Nat) (s:CS) (w:World) (h:Blk w b 135 s.cells):
  Calls Tryz.prog 96 #[.pointer (some ⟨b,0,none⟩)] w fun e w'=>e=.returned (.agg s.cells)∧Below w.heap.size w w':=by
 have h0:=h.cell (i:=0) (v:=.int .u64 s.t) rfl
 have h1:=h.cell (i:=1) (v:=.int .u64 s.n) rfl
 have h2:=h.cell (i:=2) (v:=.bool s.p) rfl
 have HH:=Lib.hid h
 have hlt:=h.lt
 clear h
 go_enter Tryz.func96,Tryz.ntmps96
 go_wp2
 exact bodyPost_ret (v:=.agg s.cells) (by simp [results,Tryz.results96,go_sem,CS.cells]) rfl ⟨rfl,by first | exact ((Below.refl _ _).alloc (Nat.le_refl _) _) | skip⟩
theorem read_f0 (t n:Int) (p:Bool) (w:World):(Instr.field 133 (.agg #[.int .u64 t,.int .u64 n,.bool p]) 0).run Tryz.prog w=.ok (.int .u64 t) w:=by kernel_rfl
theorem read_f2 (t n:Int) (p:Bool) (w:World):(Instr.field 133 (.agg #[.int .u64 t,.int .u64 n,.bool p]) 2).run Tryz.prog w=.ok (.bool p) w:=by kernel_rfl
theorem clock_Time (b:Nat) (s:CS) (w:World) (h:Blk w b 135 s.cells):
  Calls Tryz.prog 43 #[.pointer (some ⟨b,0,none⟩)] w fun e w'=>e=.returned (.int .u64 (s.t:Int))∧Below w.heap.size w w':=by
 have HR:=Lib.hid (clock_read b s w h)
 clear h
 unfold CS.cells at HR
 have hf:=read_f0
 go_enter Tryz.func43,Tryz.ntmps43
 go_wp2_with (go_at_call 96;refine (HR.out).mono ?_;rintro e w' ⟨rfl,hb⟩)
 go_ret
 exact ⟨rfl,hb⟩
theorem clock_Past (b:Nat) (s:CS) (w:World) (h:Blk w b 135 s.cells):
  Calls Tryz.prog 55 #[.pointer (some ⟨b,0,none⟩)] w fun e w'=>e=.returned (.bool s.p)∧Below w.heap.size w w':=by
 have HR:=Lib.hid (clock_read b s w h)
 clear h
 unfold CS.cells at HR
 have hf:=read_f2
 go_enter Tryz.func55,Tryz.ntmps55
 go_wp2_with (go_at_call 96;refine (HR.out).mono ?_;rintro e w' ⟨rfl,hb⟩)
 go_ret
 exact ⟨rfl,hb⟩
structure ClockPost (w:World) (b:Nat) (r:Int) (s:CS) (e:Ending) (w':World):Prop where
 e:e=.returned (.int .i64 r)
 blk:Blk w' b 135 s.cells
 gr:w.grownBy w' (some b)
theorem ret_i64 {a b:Int} (h:a=b):Ending.returned (.int .i64 a)=.returned (.int .i64 b):=by rw [h]
set_option maxHeartbeats 400000 in
theorem clock_To (b x:Nat) (s:CS) (w:World) (h:Blk w b 135 s.cells):
  Calls Tryz.prog 47 #[.pointer (some ⟨b,0,none⟩),.int .u64 (x:Int)] w (ClockPost w b (s.toE x) (s.toS x)):=by
 have h0:=h.cell (i:=0) (v:=.int .u64 s.t) rfl
 have h2:=h.cell (i:=2) (v:=.bool s.p) rfl
 have f0:=h.free 0
 have HH:=Lib.hid h
 have HE:=Lib.hid (clock_end b s w h)
 clear h
 obtain ⟨t,n,p⟩:=s
 dsimp only at *
 cases p with
 | true=>
   go_enter Tryz.func47,Tryz.ntmps47
   go_wp2
   go_ret
   exact ⟨ret_i64 (by simp [CS.toE]),by simpa [CS.toS] using HH.out,gr_refl _ _⟩
 | false=>
   by_cases a:x < t
   ·go_enter Tryz.func47,Tryz.ntmps47
    go_wp2
    go_ret
    exact ⟨ret_i64 (by simp [CS.toE,a]),by simpa [CS.toS,a] using HH.out,gr_refl _ _⟩
   ·by_cases c:4398046511104 < x
    ·have ha:decide ((x:Nat) < t)=false:=by simpa using a
     have hc:decide ((4398046511104:Int) < (x:Int))=true:=by simp;omega
     have HA:=Lib.hid a
     have HC:=Lib.hid c
     clear a c
     go_enter Tryz.func47,Tryz.ntmps47
     go_wp2_with (go_at_call 101;refine (HE.out).mono ?_;rintro e w' ⟨rfl,rfl⟩)
     go_ret
     exact ⟨ret_i64 (by simp [CS.toE,HA.out,HC.out]),by simpa [CS.toS,HA.out,HC.out,CS.cells] using HH.out.set 2 (.bool true),gr_set (gr_refl _ _) _ _⟩
    ·have ha:decide ((x:Nat) < t)=false:=by simpa using a
     have hc:decide ((4398046511104:Int) < (x:Int))=false:=by simp;omega
     have HA:=Lib.hid a
     have HC:=Lib.hid c
     clear a c
     go_enter Tryz.func47,Tryz.ntmps47
     go_wp2
     go_ret
     exact ⟨ret_i64 (by simp [CS.toE,HA.out,HC.out]),by simpa [CS.toS,HA.out,HC.out,CS.cells] using HH.out.set 0 (.int .u64 x),gr_set (gr_refl _ _) _ _⟩
set_option maxHeartbeats 400000 in
theorem clock_Count (b x:Nat) (s:CS) (w:World) (h:Blk w b 135 s.cells) (hx:x≤18446744073709551615) (hs:s.n≤18446744073709551615):
  Calls Tryz.prog 56 #[.pointer (some ⟨b,0,none⟩),.int .u64 (x:Int)] w (ClockPost w b (s.countE x) (s.countS x)):=by
 have h1:=h.cell (i:=1) (v:=.int .u64 s.n) rfl
 have h2:=h.cell (i:=2) (v:=.bool s.p) rfl
 have f1:=h.free 1
 have hlt:=h.lt
 have HH:=Lib.hid h
 clear h
 obtain ⟨t,n,p⟩:=s
 dsimp only at *
 cases p with
 | true=>
   go_enter Tryz.func56,Tryz.ntmps56
   go_wp2
   go_ret
   exact ⟨ret_i64 (by simp [CS.countE]),by simpa [CS.countS] using HH.out,gr_refl _ _⟩
 | false=>
   have HB:=Lib.hid (HH.out.alloc (.cells #[.int .u64 (n:Int),.int .u64 (x:Int)] 22))
   have HS:Hid (addS n x=min (n + x) 18446744073709551615):=Lib.hid rfl
   have HA:=Lib.hid (fix_Add2_n w w.heap.size 2 n x rfl hs hx)
   by_cases c:72057594037927936 < n + x
   ·have hc:decide ((72057594037927936:Int) < ((addS n x:Nat):Int))=true:=by have a:=HS.out;simp;omega
    have HC:=Lib.hid c
    clear c
    generalize addS n x=m at *
    go_enter Tryz.func56,Tryz.ntmps56
    go_wp2_with (first | (go_at_call 57;refine (HA.out).mono ?_;rintro e w' ⟨rfl,rfl⟩) | (go_at_call 101;refine (clock_end b ⟨t,n,false⟩ _ HB.out).mono ?_;rintro e w' ⟨rfl,rfl⟩))
    go_ret
    exact ⟨ret_i64 (by simp [CS.countE,HC.out]),by simpa [CS.countS,HC.out,CS.cells] using (HH.out.set 2 (.bool true)).alloc _,gr_alloc (gr_set (gr_refl _ _) _ _) _⟩
   ·have hc:decide ((72057594037927936:Int) < ((addS n x:Nat):Int))=false:=by have a:=HS.out;simp;omega
    have HM:Hid (addS n x=n + x):=Lib.hid (by have a:=HS.out;omega)
    have HC:=Lib.hid c
    clear c
    generalize addS n x=m at *
    go_enter Tryz.func56,Tryz.ntmps56
    go_wp2_with (go_at_call 57;refine (HA.out).mono ?_;rintro e w' ⟨rfl,rfl⟩)
    go_ret
    exact ⟨ret_i64 (by simp [CS.countE,HC.out]),by simpa [CS.countS,HC.out,CS.cells,HM.out] using (HH.out.set 1 (.int .u64 (m:Int))).alloc (.cells #[.int .u64 (n:Int),.int .u64 (x:Int)] 22),gr_alloc (gr_set (gr_refl _ _) _ _) _⟩
end Go.Proofs.YteoepabmnbkabaaGreatDoor

set_option linter.unusedVariables false
namespace Go.Proofs.YteoepabmnbkabaaGreatDoor
open Go.RowKit Pl
theorem sub64_no (x y:Nat) (h:y≤x) (hx:x≤18446744073709551615) (w:World):
  (callFunc 184 #[.int .u64 x,.int .u64 y,.int .u64 0]).run Tryz.prog w=.ok (.value (.tuple #[.int .u64 ((x - y:Nat):Int),.int .u64 0])) w:=by
 have h0:=run_sub64 (P:=Tryz.prog) x y 0 (by omega) w
 rw [run_callFunc_extern Tryz.func184 (by kernel_rfl) (by kernel_rfl) (by kernel_rfl) (e:=sub64Entry) (by kernel_rfl)]
 rw [show (x + 18446744073709551616 - y - 0) % 18446744073709551616=x - y by omega,if_neg (by omega)] at h0
 exact (congrArg (fun r=>Result.andThen r fun v w'=>.ok (Next.value v) w') h0)
theorem sub64_yes (x y:Nat) (h:x < y) (hx:x≤18446744073709551615) (w:World):
  (callFunc 184 #[.int .u64 x,.int .u64 y,.int .u64 0]).run Tryz.prog w=.ok (.value (.tuple #[.int .u64 (((x + 18446744073709551616 - y - 0) % 18446744073709551616:Nat):Int),.int .u64 1])) w:=by
 have h0:=run_sub64 (P:=Tryz.prog) x y 0 (by omega) w
 rw [run_callFunc_extern Tryz.func184 (by kernel_rfl) (by kernel_rfl) (by kernel_rfl) (e:=sub64Entry) (by kernel_rfl)]
 rw [if_pos (by omega)] at h0
 exact (congrArg (fun r=>Result.andThen r fun v w'=>.ok (Next.value v) w') h0)
theorem lessS_le_row (a:Nat) (zs:List Nat) (h:a≤18446744073709551615) (hs:sumS zs≤a):a - sumS zs=lessS a zs:=by
 unfold sumS at hs ⊢;unfold lessS;omega
theorem lessS_zero (a:Nat) (zs:List Nat) (h:a≤18446744073709551615) (hs:a < sumS zs):lessS a zs=0:=by
 unfold sumS at hs;unfold lessS;omega
theorem fix_Sub (a:Int) (b off cap:Nat) (zs:List Nat) (w:World) (ha0:0≤a) (ha:a≤18446744073709551615) (hl:zs.length≤9223372036854775807) (hz:∀z∈zs,z≤18446744073709551615) (hrow:Row w b off zs):
  Calls Tryz.prog 114 #[.int .u64 a,.slice (some ⟨b,off,none⟩) zs.length cap] w fun e w'=>e=.returned (.int .u64 ((lessS a.toNat zs:Nat):Int))∧w=w':=by
 obtain ⟨n,rfl⟩:=Int.eq_ofNat_of_zero_le ha0
 rw [Int.toNat_natCast]
 have hn:n≤18446744073709551615:=by omega
 have HA:=Lib.hid (fix_Add b off cap zs w hl hz hrow)
 clear hz hrow hl ha0 ha
 by_cases h:sumS zs≤n
 ·have HE:=Lib.hid (lessS_le_row n zs hn h)
  have hrun:=sub64_no n (sumS zs) h hn
  go_enter Tryz.func114,Tryz.ntmps114
  go_wp2_with (go_at_call 57;refine (HA.out).mono ?_;rintro e w' ⟨rfl,rfl⟩)
  go_ret
  exact ⟨ret_u64 (by rw [HE.out]),rfl⟩
 ·have HE:=Lib.hid (lessS_zero n zs hn (by omega))
  have hrun:=sub64_yes n (sumS zs) (by omega) hn
  go_enter Tryz.func114,Tryz.ntmps114
  go_wp2_with (go_at_call 57;refine (HA.out).mono ?_;rintro e w' ⟨rfl,rfl⟩)
  go_ret
  exact ⟨ret_u64 (by rw [HE.out];rfl),rfl⟩
end Go.Proofs.YteoepabmnbkabaaGreatDoor

set_option linter.unusedVariables false
namespace Go.Proofs.YteoepabmnbkabaaGreatDoor
open Go.RowKit
theorem cell_dr {w:World} {p:Addr} {v:Value} (h:w.cell? p=some v):w.drew.cell? p=some v:=h
theorem al_dr (w:World) (o:Obj):Below w.heap.size w (w.alloc o).drew:=((Below.refl _ _).alloc (Nat.le_refl _) o).trans ((Drawn.drew _).below _)
theorem bel_cell {V w:World} {p:Addr} {v:Value} (hb:Below V.heap.size V w) (h:V.cell? p=some v):w.cell? p=some v:=(hb.cell (World.block_lt_of_cell? V p h)).trans h
theorem nc1 (W:World) (x:Nat) (T:TypeId):(W.alloc (.cells #[.int .u64 (x:Int)] T)).drew.cell? ⟨W.heap.size,0,none⟩=some (.int .u64 (x:Int)):=cell_dr (new_cell rfl rfl)
theorem nc1' (W:World) (x:Nat) (T:TypeId):(W.alloc (.cells #[.int .u64 (x:Int)] T)).cell? ⟨W.heap.size,0,none⟩=some (.int .u64 (x:Int)):=new_cell rfl rfl
theorem al_be (w:World) (o:Obj):Below w.heap.size w (w.alloc o):=(Below.refl _ _).alloc (Nat.le_refl _) o
theorem row1 {W:World} {b x:Nat} (h:W.cell? ⟨b,0,none⟩=some (.int .u64 (x:Int))):Row W b 0 [x]:=by
 intro i hi
 match i,hi with
 | 0,_=>exact h
theorem sub_any (a x b:Nat) (ha:a≤18446744073709551615) (hx:x≤18446744073709551615) (W:World) (h:W.cell? ⟨b,0,none⟩=some (.int .u64 (x:Int))):
  Calls Tryz.prog 114 #[.int .u64 (a:Int),.slice (some ⟨b,0,none⟩) 1 1] W fun e w'=>e=.returned (.int .u64 ((Pl.subS a x:Nat):Int))∧W=w':=by
 have:=fix_Sub (a:Int) b 0 1 [x] W (by omega) (by omega) (by simp) (by simp;exact hx) (row1 h)
 simpa [Pl.lessS,Pl.subS] using this
theorem row2 {W:World} {b x y:Nat} (h0:W.cell? ⟨b,0,none⟩=some (.int .u64 (x:Int))) (h1:W.cell? ⟨b,1,none⟩=some (.int .u64 (y:Int))):Row W b 0 [x,y]:=by
 intro i hi
 match i,hi with
 | 0,_=>exact h0
 | 1,_=>exact h1
theorem add_any (x y:Nat) (hx:x≤18446744073709551615) (hy:y≤18446744073709551615) (b:Nat) (W:World) (h0:W.cell? ⟨b,0,none⟩=some (.int .u64 (x:Int))) (h1:W.cell? ⟨b,1,none⟩=some (.int .u64 (y:Int))):
  Calls Tryz.prog 57 #[.slice (some ⟨b,0,none⟩) 2 2] W fun e w'=>e=.returned (.int .u64 ((Pl.addS x y:Nat):Int))∧Below W.heap.size W w':=by
 have:=fix_Add b 0 2 [x,y] W (by simp) (by simp;omega) (row2 h0 h1)
 have e:Pl.sumS [x,y]=Pl.addS x y:=by simp [Pl.sumS,Pl.addS]
 rw [e] at this
 exact this.mono fun e w' q=>⟨q.1,q.2▸Below.refl _ _⟩
theorem nc2 (W:World) (x y:Nat) (T:TypeId):(W.alloc (.cells #[.int .u64 (x:Int),.int .u64 (y:Int)] T)).cell? ⟨W.heap.size,0,none⟩=some (.int .u64 (x:Int))∧(W.alloc (.cells #[.int .u64 (x:Int),.int .u64 (y:Int)] T)).cell? ⟨W.heap.size,1,none⟩=some (.int .u64 (y:Int)):=⟨new_cell rfl rfl,new_cell rfl rfl⟩
end Go.Proofs.YteoepabmnbkabaaGreatDoor

set_option linter.unusedVariables false
namespace Go.Proofs.YteoepabmnbkabaaGreatDoor
open Go.RowKit
theorem sn_Time_nil (w:World):Calls Tryz.prog 15 #[.pointer none] w fun e w'=>e=.returned (.int .u64 0)∧Below w.heap.size w w':=by
 go_enter Tryz.func15,Tryz.ntmps15
 go_wp2
 go_ret
 exact ⟨rfl,Below.refl _ _⟩
theorem sn_Past_nil (w:World):Calls Tryz.prog 23 #[.pointer none] w fun e w'=>e=.returned (.bool false)∧Below w.heap.size w w':=by
 go_enter Tryz.func23,Tryz.ntmps23
 go_wp2
 go_ret
 exact ⟨rfl,Below.refl _ _⟩
theorem sn_InFlight_nil (w:World):Calls Tryz.prog 18 #[.pointer none] w fun e w'=>e=.returned (.int .u64 0)∧Below w.heap.size w w':=by
 go_enter Tryz.func18,Tryz.ntmps18
 go_wp2
 go_ret
 exact ⟨rfl,Below.refl _ _⟩
theorem sn_Waiting_nil (w:World):Calls Tryz.prog 22 #[.pointer none] w fun e w'=>e=.returned (.int .u64 0)∧Below w.heap.size w w':=by
 go_enter Tryz.func22,Tryz.ntmps22
 go_wp2
 go_ret
 exact ⟨rfl,Below.refl _ _⟩
theorem sn_Engine_nil (w:World):Calls Tryz.prog 16 #[.pointer none] w fun e w'=>e=.returned (.pointer none)∧Below w.heap.size w w':=by
 go_enter Tryz.func16,Tryz.ntmps16
 go_wp2
 go_ret
 exact ⟨rfl,Below.refl _ _⟩
theorem sn_Write_nil (w:World):Calls Tryz.prog 24 #[.pointer none,.int .u64 1] w fun e w'=>e=.returned (.int .i64 1)∧Below w.heap.size w w':=by
 go_enter Tryz.func24,Tryz.ntmps24
 go_wp2
 go_ret
 exact ⟨rfl,Below.refl _ _⟩
theorem sn_Tick_nil (w:World):Calls Tryz.prog 20 #[.pointer none,.int .u64 0] w fun e w'=>e=.returned (.tuple #[.slice none 0 0,.int .i64 1])∧Below w.heap.size w w':=by
 go_enter Tryz.func20,Tryz.ntmps20
 go_wp2
 go_ret2
 exact ⟨rfl,Below.refl _ _⟩
theorem sn_Next_nil (w:World):Calls Tryz.prog 21 #[.pointer none] w fun e w'=>e=.returned (.tuple #[.int .u64 0,.bool false])∧Below w.heap.size w w':=by
 go_enter Tryz.func21,Tryz.ntmps21
 go_wp2
 go_ret2
 exact ⟨rfl,Below.refl _ _⟩
theorem sn_Ack_nil (w:World):Calls Tryz.prog 25 #[.pointer none,.int .u64 0,.slice none 0 0] w fun e w'=>e=.returned (.int .i64 1)∧Below w.heap.size w w':=by
 go_enter Tryz.func25,Tryz.ntmps25
 go_wp2
 go_ret
 exact ⟨rfl,Below.refl _ _⟩
end Go.Proofs.YteoepabmnbkabaaGreatDoor
