/- 2 texts put together: what each one says stands ahead of it. -/
import Derived.Test.YteoepabmnbkabaaGreatDoorProg
import Derived.Test.YteoepabmnbkabaaGreatDoorKS02
import Derived.Lib.Hide
import Derived.Laws.StructEq
import Derived.BigRegion
set_option linter.unusedVariables false
namespace Go.Proofs.YteoepabmnbkabaaGreatDoor
open Go.RowKit
def rateG:Nat→Nat
 | 0=>277 | 1=>36 | 2=>75 | 3=>100 | 4=>100 | 5=>125 | 6=>100 | _=>0
def flightG:Nat→Nat
 | 0=>200 | 1=>200 | 2=>200 | 3=>200 | 4=>200 | 5=>225 | 6=>50 | _=>0
theorem rateG_le (k:Nat):rateG k≤277:=by unfold rateG;split <;> omega
theorem flightG_le (k:Nat):flightG k≤225:=by unfold flightG;split <;> omega
theorem seven {P:Nat→Prop} (h0:P 0) (h1:P 1) (h2:P 2) (h3:P 3) (h4:P 4) (h5:P 5) (h6:P 6):∀k,k < 7→P k
 | 0,_=>h0 | 1,_=>h1 | 2,_=>h2 | 3,_=>h3 | 4,_=>h4 | 5,_=>h5 | 6,_=>h6
 | n + 7,h=>absurd h (by omega)
end Go.Proofs.YteoepabmnbkabaaGreatDoor

set_option linter.unusedVariables false
namespace Go.Proofs.YteoepabmnbkabaaGreatDoor
open Go.RowKit
def Gl (w:World):Prop:=∀k,k < 7→w.cell? ⟨0,k * 2,none⟩=some (.int .u64 (rateG k:Int))∧w.cell? ⟨0,k * 2 + 1,none⟩=some (.int .u64 (flightG k:Int))
theorem Gl.keep {w w':World} (h:Gl w) (hb:Below w.heap.size w w'):Gl w':=fun k hk=>
 ⟨(hb.cell (p:=⟨0,_,none⟩) (World.block_lt_of_cell? w _ (h k hk).1)).trans (h k hk).1,(hb.cell (p:=⟨0,_,none⟩) (World.block_lt_of_cell? w _ (h k hk).2)).trans (h k hk).2⟩
theorem Gl.alloc {w:World} (h:Gl w) (o:Obj):Gl (w.alloc o):=h.keep ((Below.refl _ _).alloc (Nat.le_refl _) _)
def stG (s:Int):Nat:=if 0≤s∧s < 7 then s.toNat else 7
theorem stG_in (k:Nat) (hk:k < 7):stG k=k:=by unfold stG;rw [if_pos (by omega)];simp
theorem stG_out (s:Int) (h:¬ (0≤s∧s < 7)):stG s=7:=by unfold stG;rw [if_neg h]
theorem stG_cases (s:Int):(∃k:Nat,k < 7∧s=(k:Int))∨¬ (0≤s∧s < 7):=by
 by_cases h:0≤s∧s < 7
 ·exact Or.inl ⟨s.toNat,by omega,by omega⟩
 ·exact Or.inr h
set_option maxHeartbeats 1000000 in
theorem ga_of (s:Int) (w:World) (hg:Gl w):
  Calls Tryz.prog 166 #[.int .i64 s] w fun e w'=>e=.returned (.agg #[.int .u64 (rateG (stG s):Int),.int .u64 (flightG (stG s):Int)])∧Below w.heap.size w w':=by
 rcases stG_cases s with ⟨k,hk,rfl⟩ | h
 ·rw [stG_in k hk]
  have HG:=Lib.hid (hg.alloc (.cells #[.int .u64 0,.int .u64 0] 250) k hk)
  have c0:=HG.out.1
  have c1:=HG.out.2
  have i0:(0:Int)≤(k:Int):=by omega
  have i1:(k:Int) < 7:=by omega
  clear hg hk
  go_enter Tryz.func166,Tryz.ntmps166
  go_wp2
  exact bodyPost_ret (results_cell rfl _ _ w.heap.size 250 _ _ rfl (Blk.new w _ _) Tryz.underlying250 rfl (by kernel_rfl)) rfl ⟨rfl,(Below.refl _ _).alloc (Nat.le_refl _) _⟩
 ·rw [stG_out s h]
  by_cases h0:s < 0
  ·clear h hg
   go_enter Tryz.func166,Tryz.ntmps166
   go_wp2
   exact bodyPost_ret (results_cell rfl _ _ w.heap.size 250 _ _ rfl (Blk.new w _ _) Tryz.underlying250 rfl (by kernel_rfl)) rfl ⟨rfl,(Below.refl _ _).alloc (Nat.le_refl _) _⟩
  ·have h1:7≤s:=by omega
   clear h hg
   go_enter Tryz.func166,Tryz.ntmps166
   go_wp2
   exact bodyPost_ret (results_cell rfl _ _ w.heap.size 250 _ _ rfl (Blk.new w _ _) Tryz.underlying250 rfl (by kernel_rfl)) rfl ⟨rfl,(Below.refl _ _).alloc (Nat.le_refl _) _⟩
end Go.Proofs.YteoepabmnbkabaaGreatDoor
