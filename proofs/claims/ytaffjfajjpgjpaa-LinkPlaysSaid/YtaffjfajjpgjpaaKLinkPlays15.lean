/- 1 texts put together: what each one says stands ahead of it. -/
import Derived.Test.YtaffjfajjpgjpaaKLinkPlays09
import Derived.Test.YtaffjfajjpgjpaaProg
import Derived.Deep.QuietTactic
import Derived.BigQuiet
import Derived.Deep.LoopGhost
set_option linter.unusedVariables false
namespace Go.Proofs.Ytaffjfajjpgjpaa
open Go.RowKit
theorem its_pk {w:World} {ad:Addr} {l:List Pk} (h:Its w (some ad) l) (hp:0 < l.length):∃b off,ad=⟨b,off,none⟩∧b < w.heap.size∧∀k,k < l.length→∀x,x=l.getD k Itm.z→
  w.cell? ⟨b,off + k * 7,none⟩=some (.int .u64 (x.n:Int))∧w.cell? ⟨b,off + k * 7 + 1,none⟩=some (.int .u64 (x.size:Int))∧w.cell? ⟨b,off + k * 7 + 2,none⟩=some (.int .u64 (x.sent:Int))∧w.cell? ⟨b,off + k * 7 + 3,none⟩=some (.int .u64 (x.first:Int))∧w.cell? ⟨b,off + k * 7 + 4,none⟩=some (.int .u64 (x.deliv:Int))∧w.cell? ⟨b,off + k * 7 + 5,none⟩=some (.int .u64 (x.at_:Int))∧w.cell? ⟨b,off + k * 7 + 6,none⟩=some (.bool x.lim):=by
 obtain ⟨b,off,e,hb,hc⟩:=h hp
 injection e with e
 refine ⟨b,off,e,hb,fun k hk x hx=>?_⟩
 have k7:Itm.k Pk=7:=rfl
 subst hx
 exact ⟨hc k 0 hk (by rw [k7];omega),hc k 1 hk (by rw [k7];omega),hc k 2 hk (by rw [k7];omega),hc k 3 hk (by rw [k7];omega),hc k 4 hk (by rw [k7];omega),hc k 5 hk (by rw [k7];omega),hc k 6 hk (by rw [k7];omega)⟩
set_option maxHeartbeats 1000000 in
theorem Same_any (l:List Pk) (p q:Option Addr) (c d:Nat) (w:World) (hl:Its w p l) (hq:Its w q l) (hm:l.length≤5000):
  Calls Try.prog 13 #[.slice p l.length c,.slice q l.length d] w fun e w'=>e=.returned (.bool true)∧Drawn w w':=by
 have HI:=Lib.hid hl
 have HJ:=Lib.hid hq
 clear hl hq
 go_enter Try.func13,Try.ntmps13
 go_wp2
 go_loopw [5] (fun i wr=>∃k:Nat,i=.int .i64 (k:Int)∧k≤l.length∧Drawn w wr) (fun i _=>l.length - (intOf i).toNat)
 case atStart=>exact ⟨0,rfl,Nat.zero_le _,Drawn.refl w⟩
 case round=>
  obtain ⟨k,rfl,hk,hd⟩:=hrel
  by_cases hlt:k < l.length
  ·obtain ⟨ad,rfl,_⟩:=HI.out.cells (by omega)
   obtain ⟨ae,rfl,_⟩:=HJ.out.cells (by omega)
   obtain ⟨g,off,rfl,_,hc⟩:=its_pk (HI.out.keep (hd.below _)) (by omega)
   obtain ⟨g2,off2,rfl,_,hc2⟩:=its_pk (HJ.out.keep (hd.below _)) (by omega)
   obtain ⟨x,hx⟩:∃x,x=l.getD k Itm.z:=⟨_,rfl⟩
   obtain ⟨a0,a1,a2,a3,a4,a5,a6⟩:=hc k hlt x hx
   obtain ⟨b0,b1,b2,b3,b4,b5,b6⟩:=hc2 k hlt x hx
   have i0:(0:Int)≤(k:Int):=by omega
   have i1:(k:Int) < (l.length:Int):=by omega
   have HD:=Lib.hid hd
   clear hc hc2 hx hd
   go_wp2
   go_quiet (fail)
   go_wp2
   go_roundw
   case rel=>exact ⟨k + 1,by go_num,by omega,HD.out.more ⟨nq,rfl⟩⟩
   case measure=>simp [intOf];omega
  ·obtain rfl:k=l.length:=by omega
   have HD:=Lib.hid hd
   clear hd
   go_wp2
   go_ret
   exact ⟨rfl,HD.out⟩
end Go.Proofs.Ytaffjfajjpgjpaa
