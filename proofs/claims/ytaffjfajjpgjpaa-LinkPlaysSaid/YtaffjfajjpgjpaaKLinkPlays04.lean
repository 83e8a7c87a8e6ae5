/- 4 texts put together: what each one says stands ahead of it. -/
import Derived.Test.YtaffjfajjpgjpaaKLinkPlays03
import Derived.WalkKit
import Derived.WalkLawsBesides
import Derived.Shelf.Spec.BitsCarry
import Derived.Lib.Hide
import Derived.Outline
import Derived.Test.YtaffjfajjpgjpaaKLinkPlays02
set_option linter.unusedVariables false
namespace Go.Proofs.Ytaffjfajjpgjpaa
open Go.RowKit Pl
theorem add64_run (x y:Int) (hx:0≤x) (hy:0≤y) (w:World):
  (callFunc 58 #[.int .u64 x,.int .u64 y,.int .u64 0]).run Try.prog w=
   .ok (.value (.tuple #[.int .u64 ((x + y + 0) % 18446744073709551616),.int .u64 ((x + y + 0) / 18446744073709551616)])) w:=by
 rw [run_callFunc_extern Try.func58 (by kernel_rfl) (by kernel_rfl) (by kernel_rfl) (e:=add64Entry) (by kernel_rfl),run_add64 x y 0 hx hy (by omega) (by omega)]
 rfl
theorem add64_no (x y:Int) (hx:0≤x) (hy:0≤y) (h:x + y≤18446744073709551615) (w:World):
  (callFunc 58 #[.int .u64 x,.int .u64 y,.int .u64 0]).run Try.prog w=.ok (.value (.tuple #[.int .u64 (x + y),.int .u64 0])) w:=by
 rw [add64_run x y hx hy,show (x + y + 0) % 18446744073709551616=x + y by omega,show (x + y + 0) / 18446744073709551616=0 by omega]
theorem add64_yes (x y:Int) (hx:0≤x) (hy:0≤y) (hx':x≤18446744073709551615) (hy':y≤18446744073709551615) (h:18446744073709551615 < x + y) (w:World):
  (callFunc 58 #[.int .u64 x,.int .u64 y,.int .u64 0]).run Try.prog w=.ok (.value (.tuple #[.int .u64 ((x + y + 0) % 18446744073709551616),.int .u64 1])) w:=by
 rw [add64_run x y hx hy,show (x + y + 0) / 18446744073709551616=1 by omega]
set_option maxHeartbeats 400000 in
theorem fix_Add (b off cap:Nat) (zs:List Nat) (w:World) (hl:zs.length≤9223372036854775807) (hz:∀z∈zs,z≤18446744073709551615) (hrow:Row w b off zs):
  Calls Try.prog 66 #[.slice (some ⟨b,off,none⟩) zs.length cap] w fun e w'=>e=.returned (.int .u64 ((sumS zs:Nat):Int))∧w=w':=by
 have HZ:=Lib.hid hz
 have HR:=Lib.hid hrow
 clear hz hrow
 go_enter Try.func66,Try.ntmps66
 go_wp2
 go_loop [3,10] (fun s i=>∃k:Nat,k≤zs.length∧i=.int .i64 k∧(zs.take k).sum≤18446744073709551615∧s=.int .u64 ((zs.take k).sum:Nat)) (fun _ i=>zs.length - (intOf i).toNat)
 case atStart=>exact ⟨0,Nat.zero_le _,rfl,by simp,by simp⟩
 case round=>
  obtain ⟨k,hk,rfl,hs,rfl⟩:=hrel
  by_cases hlt:k < zs.length
  ·have hcell:=HR.out k hlt
   have hbd:=Row.bd HZ.out k
   have HS:=Lib.hid (take_succ_sum zs k hlt)
   have HL:=Lib.hid (take_sum_le zs (k + 1))
   generalize zs.getD k 0=z at *
   generalize (zs.take k).sum=t at *
   by_cases hc:t + z≤18446744073709551615
   ·have hrun:=add64_no (t:Int) (z:Int) (by omega) (by omega) (by omega)
    go_wp2
    go_round
    case rel=>exact ⟨k + 1,by omega,by go_num,by rw [HS.out];exact hc,by rw [HS.out];simp⟩
    case measure=>simp [intOf];omega
   ·have hrun:=add64_yes (t:Int) (z:Int) (by omega) (by omega) (by omega) (by omega) (by omega)
    go_wp2
    go_ret
    refine ⟨?_,rfl⟩
    have e:sumS zs=18446744073709551615:=by have a:=HS.out;have b:=HL.out;unfold sumS;omega
    rw [e];rfl
  ·go_wp2
   go_ret
   refine ⟨?_,rfl⟩
   have e:(zs.take k).sum=sumS zs:=by rw [List.take_of_length_le (by omega)] at hs ⊢;unfold sumS;omega
   rw [e]
   rfl
theorem new_cell {W:World} {c:Array Value} {t:TypeId} {b i:Nat} {v:Value} (hb:b=W.heap.size) (h:c[i]? =some v):(W.alloc (.cells c t)).cell? ⟨b,i,none⟩=some v:=by
 subst hb;simp [World.cell?_alloc_new,h]
end Go.Proofs.Ytaffjfajjpgjpaa

set_option linter.unusedVariables false
namespace Go.Proofs.Ytaffjfajjpgjpaa
open Go.RowKit
theorem cell_dr {w:World} {p:Addr} {v:Value} (h:w.cell? p=some v):w.drew.cell? p=some v:=h
theorem nc1 (W:World) (x:Nat) (T:TypeId):(W.alloc (.cells #[.int .u64 (x:Int)] T)).drew.cell? ⟨W.heap.size,0,none⟩=some (.int .u64 (x:Int)):=cell_dr (new_cell rfl rfl)
theorem nc1' (W:World) (x:Nat) (T:TypeId):(W.alloc (.cells #[.int .u64 (x:Int)] T)).cell? ⟨W.heap.size,0,none⟩=some (.int .u64 (x:Int)):=new_cell rfl rfl
theorem al_be (w:World) (o:Obj):Below w.heap.size w (w.alloc o):=(Below.refl _ _).alloc (Nat.le_refl _) o
theorem row2 {W:World} {b x y:Nat} (h0:W.cell? ⟨b,0,none⟩=some (.int .u64 (x:Int))) (h1:W.cell? ⟨b,1,none⟩=some (.int .u64 (y:Int))):Row W b 0 [x,y]:=by
 intro i hi
 match i,hi with
 | 0,_=>exact h0
 | 1,_=>exact h1
theorem add_any (x y:Nat) (hx:x≤18446744073709551615) (hy:y≤18446744073709551615) (b:Nat) (W:World) (h0:W.cell? ⟨b,0,none⟩=some (.int .u64 (x:Int))) (h1:W.cell? ⟨b,1,none⟩=some (.int .u64 (y:Int))):
  Calls Try.prog 66 #[.slice (some ⟨b,0,none⟩) 2 2] W fun e w'=>e=.returned (.int .u64 ((Pl.addS x y:Nat):Int))∧Below W.heap.size W w':=by
 have:=fix_Add b 0 2 [x,y] W (by simp) (by simp;omega) (row2 h0 h1)
 have e:Pl.sumS [x,y]=Pl.addS x y:=by simp [Pl.sumS,Pl.addS]
 rw [e] at this
 exact this.mono fun e w' q=>⟨q.1,q.2▸Below.refl _ _⟩
theorem nc2 (W:World) (x y:Nat) (T:TypeId):(W.alloc (.cells #[.int .u64 (x:Int),.int .u64 (y:Int)] T)).cell? ⟨W.heap.size,0,none⟩=some (.int .u64 (x:Int))∧(W.alloc (.cells #[.int .u64 (x:Int),.int .u64 (y:Int)] T)).cell? ⟨W.heap.size,1,none⟩=some (.int .u64 (y:Int)):=⟨new_cell rfl rfl,new_cell rfl rfl⟩
end Go.Proofs.Ytaffjfajjpgjpaa

set_option linter.unusedVariables false
namespace Go.Proofs.Ytaffjfajjpgjpaa
open Go.RowKit Pl
theorem sub64_no (x y:Nat) (h:y≤x) (hx:x≤18446744073709551615) (w:World):
  (callFunc 65 #[.int .u64 x,.int .u64 y,.int .u64 0]).run Try.prog w=.ok (.value (.tuple #[.int .u64 ((x - y:Nat):Int),.int .u64 0])) w:=by
 have h0:=run_sub64 (P:=Try.prog) x y 0 (by omega) w
 rw [run_callFunc_extern Try.func65 (by kernel_rfl) (by kernel_rfl) (by kernel_rfl) (e:=sub64Entry) (by kernel_rfl)]
 rw [show (x + 18446744073709551616 - y - 0) % 18446744073709551616=x - y by omega,if_neg (by omega)] at h0
 exact (congrArg (fun r=>Result.andThen r fun v w'=>.ok (Next.value v) w') h0)
theorem sub64_yes (x y:Nat) (h:x < y) (hx:x≤18446744073709551615) (w:World):
  (callFunc 65 #[.int .u64 x,.int .u64 y,.int .u64 0]).run Try.prog w=.ok (.value (.tuple #[.int .u64 (((x + 18446744073709551616 - y - 0) % 18446744073709551616:Nat):Int),.int .u64 1])) w:=by
 have h0:=run_sub64 (P:=Try.prog) x y 0 (by omega) w
 rw [run_callFunc_extern Try.func65 (by kernel_rfl) (by kernel_rfl) (by kernel_rfl) (e:=sub64Entry) (by kernel_rfl)]
 rw [if_pos (by omega)] at h0
 exact (congrArg (fun r=>Result.andThen r fun v w'=>.ok (Next.value v) w') h0)
theorem lessS_le_row (a:Nat) (zs:List Nat) (h:a≤18446744073709551615) (hs:sumS zs≤a):a - sumS zs=lessS a zs:=by
 unfold sumS at hs ⊢;unfold lessS;omega
theorem lessS_zero (a:Nat) (zs:List Nat) (h:a≤18446744073709551615) (hs:a < sumS zs):lessS a zs=0:=by
 unfold sumS at hs;unfold lessS;omega
theorem fix_Sub (a:Int) (b off cap:Nat) (zs:List Nat) (w:World) (ha0:0≤a) (ha:a≤18446744073709551615) (hl:zs.length≤9223372036854775807) (hz:∀z∈zs,z≤18446744073709551615) (hrow:Row w b off zs):
  Calls Try.prog 59 #[.int .u64 a,.slice (some ⟨b,off,none⟩) zs.length cap] w fun e w'=>e=.returned (.int .u64 ((lessS a.toNat zs:Nat):Int))∧w=w':=by
 obtain ⟨n,rfl⟩:=Int.eq_ofNat_of_zero_le ha0
 rw [Int.toNat_natCast]
 have hn:n≤18446744073709551615:=by omega
 have HA:=Lib.hid (fix_Add b off cap zs w hl hz hrow)
 clear hz hrow hl ha0 ha
 by_cases h:sumS zs≤n
 ·have HE:=Lib.hid (lessS_le_row n zs hn h)
  have hrun:=sub64_no n (sumS zs) h hn
  go_enter Try.func59,Try.ntmps59
  go_wp2_with (go_at_call 66;refine (HA.out).mono ?_;rintro e w' ⟨rfl,rfl⟩)
  go_ret
  exact ⟨ret_u64 (by rw [HE.out]),rfl⟩
 ·have HE:=Lib.hid (lessS_zero n zs hn (by omega))
  have hrun:=sub64_yes n (sumS zs) (by omega) hn
  go_enter Try.func59,Try.ntmps59
  go_wp2_with (go_at_call 66;refine (HA.out).mono ?_;rintro e w' ⟨rfl,rfl⟩)
  go_ret
  exact ⟨ret_u64 (by rw [HE.out];rfl),rfl⟩
end Go.Proofs.Ytaffjfajjpgjpaa

set_option linter.unusedVariables false
namespace Go.Proofs.Ytaffjfajjpgjpaa
open Go.RowKit
theorem row1 {W:World} {b x:Nat} (h:W.cell? ⟨b,0,none⟩=some (.int .u64 (x:Int))):Row W b 0 [x]:=by
 intro i hi
 match i,hi with
 | 0,_=>exact h
theorem sub_any (a x b:Nat) (ha:a≤18446744073709551615) (hx:x≤18446744073709551615) (W:World) (h:W.cell? ⟨b,0,none⟩=some (.int .u64 (x:Int))):
  Calls Try.prog 59 #[.int .u64 (a:Int),.slice (some ⟨b,0,none⟩) 1 1] W fun e w'=>e=.returned (.int .u64 ((Pl.subS a x:Nat):Int))∧W=w':=by
 have:=fix_Sub (a:Int) b 0 1 [x] W (by omega) (by omega) (by simp) (by simp;exact hx) (row1 h)
 simpa [Pl.lessS,Pl.subS] using this
end Go.Proofs.Ytaffjfajjpgjpaa
