/- Lemmas. -/
import Derived.WalkLawsBesides
import Derived.Lib.Hide
import Derived.Deep.DeepFit
import Derived.Test.YtjhiooggnpbecaaGreatDoorProg
import Derived.Test.YtjhiooggnpbecaaGreatDoorK401
import Derived.Shelf.Spec.BitsCarry
import Derived.Maps.AppendAt
set_option linter.unusedVariables false
set_option maxHeartbeats 1000000
set_option maxRecDepth 100000
namespace Go.Proofs.YtjhiooggnpbecaaGreatDoor
open Tryz
variable {B j now x:Nat} {row:Option Nat} {T:TypeId} {v:Value} {W a w w':World}
section
instance coeU:Coe Nat Value:=⟨fun n=>.int .u64 (n:Int)⟩
theorem lh {p:Prop} (h:p):Go.RowKit.Hid p:=h
inductive Zo where | z
inductive Mx where | m
def ζ:Zo:=.z
def ω:Mx:=.m
instance coeZ:Coe Zo Value:=⟨fun _=>.int .u64 0⟩
instance coeM:Coe Mx Nat:=⟨fun _=>18446744073709551615⟩
structure Pq where
 b:Nat
 i:Nat
def π (b:Nat):Pq:=⟨b,0⟩
def κ (b i:Nat):Pq:=⟨b,i⟩
instance coeP (b:Nat):CoeDep Pq (π b) Value:=⟨.pointer (some ⟨b,0,none⟩)⟩
instance coeQ (b i:Nat):CoeDep Pq (κ b i) Value:=⟨.pointer (some ⟨b,i,none⟩)⟩
instance coeW:Coe World Nat:=⟨fun w=>w.heap.size⟩
end

section
open Go.RowKit
def Blk (w:World) (b:Nat) (T:TypeId) (cs:Array Value):Prop:=w.heap[b]? =some (.cells cs T (0,0))
theorem Blk.cell {w:World} {b:Nat} {T:TypeId} {cs:Array Value} (h:Blk w b T cs) {i:Nat} {v:Value} (hv:cs[i]? =some v):w.cell? ⟨b,i,none⟩=some v:=by
 unfold Blk at h;simp [World.cell?,h,hv]
theorem Blk.free {b:Nat} {cs:Array Value} (h:Blk w b T cs) (i:Nat):w.frozen? ⟨b,i,none⟩=false:=by
 unfold Blk at h;simp [World.frozen?,h]
theorem Blk.lt {b:Nat} {cs:Array Value} (h:Blk w b T cs):b < w.heap.size:=lt_of_block h
theorem Blk.set {b:Nat} {cs:Array Value} (h:Blk w b T cs) (i:Nat) (u:Value):Blk (w.setCell ⟨b,i,none⟩ u) b T (cs.setIfInBounds i u):=by
 have hlt:=h.lt;unfold Blk at h;have h':w.heap[b]=.cells cs T (0,0):=by simpa [Array.getElem?_eq_getElem hlt] using h
 show (w.heap.modify b _)[b]? =_
 rw [Array.getElem?_eq_getElem (by simpa using hlt),Array.getElem_modify_self,h'];rfl
theorem Blk.set_other {b:Nat} {cs:Array Value} (h:Blk w b T cs) {c:Nat} (i:Nat) (u:Value) (hne:b≠c):Blk (w.setCell ⟨c,i,none⟩ u) b T cs:=by
 unfold Blk;rw [Below.heap_setCell _ _ _ _ hne];exact h
theorem Blk.alloc {w:World} {b:Nat} {T:TypeId} {cs:Array Value} (h:Blk w b T cs) (o:Obj):Blk (w.alloc o) b T cs:=by
 unfold Blk;rw [Below.heap_alloc _ _ _ h.lt];exact h
theorem Blk.new (w:World) (T:TypeId) (cs:Array Value):Blk (w.alloc (.cells cs T)) w.heap.size T cs:=heap_alloc_new w _
theorem Blk.new1 (w:World) (o:Obj) (T:TypeId) (cs:Array Value):Blk ((w.alloc o).alloc (.cells cs T)) (w.heap.size + 1) T cs:=by
 have:=Blk.new (w.alloc o) T cs;simpa using this
theorem Blk.grown {b:Nat} {cs:Array Value} (h:Blk w b T cs) (hg:w.grownBy w' row) (hne:some b≠row):Blk w' b T cs:=by
 unfold Blk;rw [hg.block b h.lt hne];exact h
theorem Blk.below {b:Nat} {cs:Array Value} (h:Blk w b T cs) (hb:Below B w w') (hlt:b < B):Blk w' b T cs:=by
 unfold Blk;rw [hb.block b hlt];exact h
theorem Blk.keep {b:Nat} {cs:Array Value} (h:Blk w b T cs) (hb:Below ↑w w w'):Blk w' b T cs:=h.below hb h.lt
theorem Blk.drew {w:World} {b:Nat} {T:TypeId} {cs:Array Value} (h:Blk w b T cs):Blk w.drew b T cs:=h
theorem bS (w:World) (row:Option Nat):w.grownBy w row:=⟨rfl,rfl,rfl,Nat.le_refl _,fun _ _ _=>rfl⟩
theorem eW {b c:World} (h:a.grownBy b row) (k:b.grownBy c row):a.grownBy c row:=
 ⟨k.os.trans h.os,k.tape.trans h.tape,k.output.trans h.output,Nat.le_trans h.size k.size,fun i hi hr=>(k.block i (Nat.lt_of_lt_of_le hi h.size) hr).trans (h.block i hi hr)⟩
theorem bI {b:Nat} (h:a.grownBy w (some b)) (i:Nat) (u:Value):a.grownBy (w.setCell ⟨b,i,none⟩ u) (some b):=
 eW h ⟨rfl,rfl,rfl,by simp [World.setCell],fun k _ hk=>Below.heap_setCell _ _ _ _ (fun e=>hk (by rw [e]))⟩
theorem eF (h:a.grownBy w row) (o:Obj):a.grownBy (w.alloc o) row:=eW h (World.grownBy_alloc w o row)
theorem eX (h:Below ↑w w w') (row:Option Nat):w.grownBy w' row:=⟨h.os,h.tape,h.output,h.size,fun k hk _=>h.block k hk⟩
theorem dP (h:a.grownBy w row):a.grownBy w.drew row:=⟨h.os,h.tape,h.output,h.size,h.block⟩
theorem aD (h:Below B a w) (k:Below ↑w w w') (hB:B≤↑w):Below B a w':=h.trans (k.mono hB)
def aB (w w':World):Prop:=∃m,w'=w.drewN m
theorem aB.refl (w:World):aB w w:=⟨0,rfl⟩
theorem aB.drew (w:World):aB w w.drew:=⟨1,rfl⟩
theorem aB.more {b c:World} (h:aB a b) (k:aB b c):aB a c:=by
 obtain ⟨m,rfl⟩:=h;obtain ⟨n,rfl⟩:=k;exact ⟨m + n,by rw [World.drewN_drewN]⟩
theorem aB.cell {a b:World} (h:aB a b) (p:Addr):b.cell? p=a.cell? p:=by obtain ⟨m,rfl⟩:=h;rfl
theorem aB.frozen {a b:World} (h:aB a b) (p:Addr):b.frozen? p=a.frozen? p:=by obtain ⟨m,rfl⟩:=h;rfl
theorem aB.heap {a b:World} (h:aB a b):b.heap=a.heap:=by obtain ⟨m,rfl⟩:=h;rfl
theorem aB.blk {b:World} (h:aB a b) {g:Nat} {cs:Array Value} (k:Blk a g T cs):Blk b g T cs:=by obtain ⟨m,rfl⟩:=h;exact k
theorem aB.below {b:World} (h:aB a b) (B:Nat):Below B a b:=by obtain ⟨m,rfl⟩:=h;exact ⟨rfl,rfl,rfl,Nat.le_refl _,fun _ _=>rfl⟩
theorem aI {P:Program} {fn:Func} {p:Tmp} {ty:TypeId} (h:fn.results=#[.cell p ty]) (tmps:Array Value) (w:World) (g:Nat) (T:TypeId) (cs:Array Value) (d:TypeDesc)
  (hp:tmps.getD p undef=↑(π g)) (hg:Blk w g T cs)
  (hu:P.underlying ty=some d) (hd:(match d with | .struct _ | .array _ _=>true | _=>false)=true) (hi:(P.info? ty).map (·.size)=some cs.size):
  (results fn tmps).run P w=.ok (.agg cs) w:=by
 have hp':tmps[p]?.getD undef=↑(π g):=by simpa using hp
 simp [results,h,hp',asAddr,run_loadVar_row w g T ty cs (0,0) d hg hu hd hi]
theorem bH {a b:Int} (h:a=b):Ending.returned (.int .u64 a)=.returned (.int .u64 b):=by rw [h]
end

section
open Go.RowKit Pl
def Row (w:World) (b off:Nat) (zs:List Nat):Prop:=∀i,i < zs.length→w.cell? ⟨b,off + i,none⟩=some ↑(zs.getD i 0:Nat)
theorem nP (zs:List Nat) (k:Nat) (h:k < zs.length):(zs.take (k + 1)).sum=(zs.take k).sum + zs.getD k 0:=by
 rw [List.take_succ_eq_append_getElem h,List.sum_append];simp [List.getD_eq_getElem?_getD,h]
theorem rK (zs:List Nat) (k:Nat):(zs.take k).sum≤zs.sum:=by
 conv=>rhs;rw [← List.take_append_drop k zs,List.sum_append]
 omega
theorem Row.bd {zs:List Nat} (h:∀z∈zs,z≤↑ω) (k:Nat):zs.getD k 0≤18446744073709551615:=by
 rw [List.getD_eq_getElem?_getD];cases e:zs[k]? with
 | none=>simp
 | some z=>exact h z (List.mem_of_getElem? e)

theorem kL (x y:Int) (hx:0≤x) (hy:0≤y) (w:World):
  (callFunc 102 #[.int .u64 x,.int .u64 y,↑ζ]).run prog w=
   .ok (.value (.tuple #[.int .u64 ((x + y + 0) % 18446744073709551616),.int .u64 ((x + y + 0) / 18446744073709551616)])) w:=by
 rw [run_callFunc_extern func102 (by kernel_rfl) (by kernel_rfl) (by kernel_rfl) (e:=add64Entry) (by kernel_rfl),run_add64 x y 0 hx hy (by omega) (by omega)];rfl
theorem rL (x y:Int) (hx:0≤x) (hy:0≤y) (h:x + y≤↑ω) (w:World):
  (callFunc 102 #[.int .u64 x,.int .u64 y,↑ζ]).run prog w=.ok (.value (.tuple #[.int .u64 (x + y),↑ζ])) w:=by
 rw [kL x y hx hy,show (x + y + 0) % 18446744073709551616=x + y by omega,show (x + y + 0) / 18446744073709551616=0 by omega]
theorem oC (x y:Int) (hx:0≤x) (hy:0≤y) (hx':x≤↑ω) (hy':y≤↑ω) (h:18446744073709551615 < x + y) (w:World):
  (callFunc 102 #[.int .u64 x,.int .u64 y,↑ζ]).run prog w=.ok (.value (.tuple #[.int .u64 ((x + y + 0) % 18446744073709551616),.int .u64 1])) w:=by
 rw [kL x y hx hy,show (x + y + 0) / 18446744073709551616=1 by omega]
theorem i6 (b off cap:Nat) (zs:List Nat) (w:World) (hl:zs.length≤9223372036854775807) (hz:∀z∈zs,z≤↑ω) (hrow:Row w b off zs):
  Calls prog 60 #[.slice (some ⟨b,off,none⟩) zs.length cap] w fun e w'=>e=.returned ↑(sumS zs:Nat)∧w=w':=by
 have HZ:=lh hz;have HR:=lh hrow;clear hz hrow;go_enter func60,ntmps60;go_wp2;go_loop [3,10] (fun s i=>∃k:Nat,k≤zs.length∧i=.int .i64 k∧(zs.take k).sum≤↑ω∧s=.int .u64 ((zs.take k).sum:Nat)) (fun _ i=>zs.length - (intOf i).toNat)
 case atStart=>exact ⟨0,Nat.zero_le _,rfl,by simp,by simp⟩
 case round=>
  obtain ⟨k,hk,rfl,hs,rfl⟩:=hrel;by_cases hlt:k < zs.length
  ·have hcell:=HR.out k hlt
   have hbd:=Row.bd HZ.out k;have HS:=lh (nP zs k hlt);have HL:=lh (rK zs (k + 1));generalize zs.getD k 0=z at *;generalize (zs.take k).sum=t at *;by_cases hc:t + z≤↑ω
   ·have hrun:=rL (t:Int) (z:Int) (by omega) (by omega) (by omega)
    go_wp2;go_round
    case rel=>exact ⟨k + 1,by omega,by go_num,by rw [HS.out];exact hc,by rw [HS.out];simp⟩
    case measure=>simp [intOf];omega
   ·have hrun:=oC (t:Int) (z:Int) (by omega) (by omega) (by omega) (by omega) (by omega)
    go_wp2;go_ret;refine ⟨?_,rfl⟩;have e:sumS zs=18446744073709551615:=by have a:=HS.out;have b:=HL.out;unfold sumS;omega
    rw [e];rfl
  ·go_wp2
   go_ret;refine ⟨?_,rfl⟩;have e:(zs.take k).sum=sumS zs:=by rw [List.take_of_length_le (by omega)] at hs ⊢;unfold sumS;omega
   rw [e];rfl
theorem aN {c:Array Value} {t:TypeId} {b i:Nat} (hb:b=W.heap.size) (h:c[i]? =some v):(W.alloc (.cells c t)).cell? ⟨b,i,none⟩=some v:=by
 subst hb;simp [World.cell?_alloc_new,h]
theorem rM (W:World) (b cap:Nat) (x y:Int) (hb:b=W.heap.size) (hx0:0≤x) (hx:x≤↑ω) (hy0:0≤y) (hy:y≤↑ω):
  Calls prog 60 #[.slice (some ⟨b,0,none⟩) 2 cap] (W.alloc (.cells #[.int .u64 x,.int .u64 y] 22)) fun e w'=>e=.returned ↑(addS x.toNat y.toNat:Nat)∧W.alloc (.cells #[.int .u64 x,.int .u64 y] 22)=w':=by
 obtain ⟨x,rfl⟩:=Int.eq_ofNat_of_zero_le hx0;obtain ⟨y,rfl⟩:=Int.eq_ofNat_of_zero_le hy0;simp only [Int.toNat_natCast];rw [← sumS_two];refine i6 b 0 cap [x,y] _ (by simp) (by simp;omega) ?_;intro i hi
 match i,hi with
 | 0,_=>exact aN hb (by simp)
 | 1,_=>exact aN hb (by simp)
theorem gM (W:World) (b cap x y:Nat) (hb:b=W.heap.size) (hx:x≤↑ω) (hy:y≤↑ω):
  Calls prog 60 #[.slice (some ⟨b,0,none⟩) 2 cap] (W.alloc (.cells #[↑x,↑y] 22)) fun e w'=>e=.returned ↑(addS x y:Nat)∧W.alloc (.cells #[↑x,↑y] 22)=w':=by
 have h:=rM W b cap (x:Int) (y:Int) hb (by omega) (by omega) (by omega) (by omega);simpa only [Int.toNat_natCast] using h
theorem MJ {b:World} (h:Below ↑w w a) (k:Below ↑a a b):Below ↑w w b:=h.trans (k.mono h.size)
theorem BJ (W:World) (b cap x y:Nat) (hb:b=W.heap.size) (hx:x≤↑ω) (hy:y≤↑ω):
  Calls prog 60 #[.slice (some ⟨b,0,none⟩) 2 cap] (W.alloc (.cells #[↑x,↑y] 22)) fun e w'=>e=.returned ↑(addS x y:Nat)∧Below ↑W W w':=
 (gM W b cap x y hb hx hy).mono fun _ _ h=>⟨h.1,h.2▸(Below.refl _ _).alloc (Nat.le_refl _) _⟩

structure CS where
 t:Nat
 n:Nat
 p:Bool
def CS.zero:CS:=⟨0,0,false⟩
def CS.cells (s:CS):Array Value:=#[↑s.t,↑s.n,.bool s.p]
def CS.ok (s:CS):Prop:=s.t≤4398046511104∧s.n≤72057594037927936
def CS.toE (s:CS) (x:Nat):Int:=if s.p=true then 3 else if x < s.t then 2 else if 4398046511104 < x then 3 else 0
def CS.toS (s:CS) (x:Nat):CS:=if s.p=true then s else if x < s.t then s else if 4398046511104 < x then ⟨s.t,s.n,true⟩ else ⟨x,s.n,s.p⟩
def CS.countE (s:CS) (x:Nat):Int:=if s.p=true then 3 else if 72057594037927936 < s.n + x then 3 else 0
def CS.countS (s:CS) (x:Nat):CS:=if s.p=true then s else if 72057594037927936 < s.n + x then ⟨s.t,s.n,true⟩ else ⟨s.t,s.n + x,s.p⟩
theorem CS.to_ok {s:CS} (h:s.ok) (x:Nat):(s.toS x).ok:=by
 unfold CS.toS CS.ok at *;split
 ·exact h
 ·split
  ·exact h
  ·split
   ·exact h
   ·exact ⟨by dsimp;omega,h.2⟩
theorem CS.count_ok {s:CS} (h:s.ok) (x:Nat):(s.countS x).ok:=by
 unfold CS.countS CS.ok at *;split
 ·exact h
 ·split
  ·exact h
  ·exact ⟨h.1,by dsimp;omega⟩
theorem x8 (w:World):Calls prog 54 #[] w fun e w'=>e=.returned ↑(π w.heap.size)∧w.alloc (.cells CS.zero.cells 175)=w':=by
 go_enter func54,ntmps54;go_wp2;go_ret;exact ⟨rfl,rfl⟩
theorem oD (b:Nat) (s:CS) (w:World) (h:Blk w b 175 s.cells):
  Calls prog 101 #[↑(π b)] w fun e w'=>e=.returned (.int .i64 3)∧w.setCell ⟨b,2,none⟩ (.bool true)=w':=by
 have h2:=h.cell (i:=2) (v:=.bool s.p) rfl;have f2:=h.free 2;have HH:=lh h;clear h;go_enter func101,ntmps101;go_wp2;go_ret;exact ⟨rfl,rfl⟩
theorem mB (b:Nat) (s:CS) (w:World) (h:Blk w b 175 s.cells):
  Calls prog 85 #[↑(π b)] w fun e w'=>e=.returned (.agg s.cells)∧Below ↑w w w':=by
 have h0:=h.cell (i:=0) (v:=.int .u64 s.t) rfl;have h1:=h.cell (i:=1) (v:=.int .u64 s.n) rfl;have h2:=h.cell (i:=2) (v:=.bool s.p) rfl;have HH:=lh h;have hlt:=h.lt;clear h;go_enter func85,ntmps85;go_wp2;exact bodyPost_ret (v:=.agg s.cells) (by simp [results,Tryz.results85,go_sem,CS.cells]) rfl ⟨rfl,by first | exact ((Below.refl _ _).alloc (Nat.le_refl _) _) | skip⟩
theorem IB (t n:Int) (p:Bool) (w:World):(Instr.field 158 (.agg #[.int .u64 t,.int .u64 n,.bool p]) 0).run prog w=.ok (.int .u64 t) w:=by kernel_rfl
theorem IC (t n:Int) (p:Bool) (w:World):(Instr.field 158 (.agg #[.int .u64 t,.int .u64 n,.bool p]) 2).run prog w=.ok (.bool p) w:=by kernel_rfl
theorem tT (b:Nat) (s:CS) (w:World) (h:Blk w b 175 s.cells):
  Calls prog 49 #[↑(π b)] w fun e w'=>e=.returned ↑s.t∧Below ↑w w w':=by
 have HR:=lh (mB b s w h);clear h;unfold CS.cells at HR;have hf:=IB;go_enter func49,ntmps49;go_wp2_with (go_at_call 85;refine (HR.out).mono ?_;rintro e w' ⟨rfl,hb⟩)
 go_ret;exact ⟨rfl,hb⟩
theorem tU (b:Nat) (s:CS) (w:World) (h:Blk w b 175 s.cells):
  Calls prog 44 #[↑(π b)] w fun e w'=>e=.returned (.bool s.p)∧Below ↑w w w':=by
 have HR:=lh (mB b s w h);clear h;unfold CS.cells at HR;have hf:=IC;go_enter func44,ntmps44;go_wp2_with (go_at_call 85;refine (HR.out).mono ?_;rintro e w' ⟨rfl,hb⟩)
 go_ret;exact ⟨rfl,hb⟩
structure oE (w:World) (b:Nat) (r:Int) (s:CS) (e:Ending) (w':World):Prop where
 e:e=.returned (.int .i64 r)
 blk:Blk w' b 175 s.cells
 gr:w.grownBy w' (some b)
theorem gN {a b:Int} (h:a=b):Ending.returned (.int .i64 a)=.returned (.int .i64 b):=by rw [h]
theorem mC (b x:Nat) (s:CS) (w:World) (h:Blk w b 175 s.cells):
  Calls prog 63 #[↑(π b),↑x] w (oE w b (s.toE x) (s.toS x)):=by
 have h0:=h.cell (i:=0) (v:=.int .u64 s.t) rfl;have h2:=h.cell (i:=2) (v:=.bool s.p) rfl;have f0:=h.free 0;have HH:=lh h;have HE:=lh (oD b s w h);clear h;obtain ⟨t,n,p⟩:=s;dsimp only at *
 cases p with
 | true=>
   go_enter func63,ntmps63;go_wp2;go_ret;exact ⟨gN (by simp [CS.toE]),by simpa [CS.toS] using HH.out,bS _ _⟩
 | false=>
   by_cases a:x < t
   ·go_enter func63,ntmps63
    go_wp2;go_ret;exact ⟨gN (by simp [CS.toE,a]),by simpa [CS.toS,a] using HH.out,bS _ _⟩
   ·by_cases c:4398046511104 < x
    ·have ha:decide ((x:Nat) < t)=false:=by simpa using a
     have hc:decide ((4398046511104:Int) < (x:Int))=true:=by simp;omega
     have HA:=lh a;have HC:=lh c;clear a c;go_enter func63,ntmps63;go_wp2_with (go_at_call 101;refine (HE.out).mono ?_;rintro e w' ⟨rfl,rfl⟩)
     go_ret;exact ⟨gN (by simp [CS.toE,HA.out,HC.out]),by simpa [CS.toS,HA.out,HC.out,CS.cells] using HH.out.set 2 (.bool true),bI (bS _ _) _ _⟩
    ·have ha:decide ((x:Nat) < t)=false:=by simpa using a
     have hc:decide ((4398046511104:Int) < (x:Int))=false:=by simp;omega
     have HA:=lh a;have HC:=lh c;clear a c;go_enter func63,ntmps63;go_wp2;go_ret;exact ⟨gN (by simp [CS.toE,HA.out,HC.out]),by simpa [CS.toS,HA.out,HC.out,CS.cells] using HH.out.set 0 (.int .u64 x),bI (bS _ _) _ _⟩
theorem rN (b x:Nat) (s:CS) (w:World) (h:Blk w b 175 s.cells) (hx:x≤↑ω) (hs:s.n≤↑ω):
  Calls prog 59 #[↑(π b),↑x] w (oE w b (s.countE x) (s.countS x)):=by
 have h1:=h.cell (i:=1) (v:=.int .u64 s.n) rfl;have h2:=h.cell (i:=2) (v:=.bool s.p) rfl;have f1:=h.free 1;have hlt:=h.lt;have HH:=lh h;clear h;obtain ⟨t,n,p⟩:=s;dsimp only at *
 cases p with
 | true=>
   go_enter func59,ntmps59;go_wp2;go_ret;exact ⟨gN (by simp [CS.countE]),by simpa [CS.countS] using HH.out,bS _ _⟩
 | false=>
   have HB:=lh (HH.out.alloc (.cells #[↑n,↑x] 22));have HS:Hid (addS n x=min (n + x) 18446744073709551615):=lh rfl;have HA:=lh (gM w w.heap.size 2 n x rfl hs hx);by_cases c:72057594037927936 < n + x
   ·have hc:decide ((72057594037927936:Int) < ((addS n x:Nat):Int))=true:=by have a:=HS.out;simp;omega
    have HC:=lh c;clear c;generalize addS n x=m at *;go_enter func59,ntmps59;go_wp2_with (first | (go_at_call 60;refine (HA.out).mono ?_;rintro e w' ⟨rfl,rfl⟩) | (go_at_call 101;refine (oD b ⟨t,n,false⟩ _ HB.out).mono ?_;rintro e w' ⟨rfl,rfl⟩))
    go_ret;exact ⟨gN (by simp [CS.countE,HC.out]),by simpa [CS.countS,HC.out,CS.cells] using (HH.out.set 2 (.bool true)).alloc _,eF (bI (bS _ _) _ _) _⟩
   ·have hc:decide ((72057594037927936:Int) < ((addS n x:Nat):Int))=false:=by have a:=HS.out;simp;omega
    have HM:Hid (addS n x=n + x):=lh (by have a:=HS.out;omega);have HC:=lh c;clear c;generalize addS n x=m at *;go_enter func59,ntmps59;go_wp2_with (go_at_call 60;refine (HA.out).mono ?_;rintro e w' ⟨rfl,rfl⟩)
    go_ret;exact ⟨gN (by simp [CS.countE,HC.out]),by simpa [CS.countS,HC.out,CS.cells,HM.out] using (HH.out.set 1 ↑m).alloc (.cells #[↑n,↑x] 22),eF (bI (bS _ _) _ _) _⟩
end

section
open Go.RowKit
class Itm (α:Type) where
 z:α
 k:Nat
 cs:α→List Value
 pos:0 < k
 len:∀x,(cs x).length=k
 one:∀x v,v∈cs x→v.oneCell'=true
variable {α:Type} [Itm α]
structure QS (α:Type) where
 pl:List α
 first:Nat
 cnt:Nat
def QS.pos (s:QS α) (i:Nat):Nat:=(s.first + i) % s.pl.length
def QS.get (s:QS α) (i:Nat):α:=s.pl.getD (s.pos i) Itm.z
def QS.items (s:QS α):List α:=(List.range s.cnt).map s.get
structure QS.ok (s:QS α):Prop where
 c:s.cnt≤s.pl.length
 f:s.first≤s.pl.length
 m:s.pl.length≤100000
def QS.lay (s:QS α) (n:Nat):List α:=s.items ++ List.replicate (n - s.cnt) Itm.z
def QS.move (s:QS α) (n:Nat):QS α:=⟨s.lay n,0,s.cnt⟩
def QS.put (s:QS α) (i:Nat) (x:α):QS α:=⟨s.pl.set (s.pos i) x,s.first,s.cnt⟩
def QS.narrow (s:QS α):QS α:=if 0 < s.cnt∧s.cnt≤s.pl.length / 4 then s.move (s.pl.length / 2) else s
def QS.wide (s:QS α):QS α:=if s.cnt=s.pl.length then s.move (max 1 (2 * s.cnt)) else s
def QS.push (s:QS α) (x:α):QS α:=⟨s.wide.pl.set (s.wide.pos s.cnt) x,s.wide.first,s.cnt + 1⟩
def QS.shift0 (s:QS α):QS α:=⟨(s.put 0 Itm.z).pl,s.pos 1,s.cnt - 1⟩
def QS.pop0 (s:QS α):QS α:=⟨(s.put (s.cnt - 1) Itm.z).pl,s.first,s.cnt - 1⟩
def QS.shift (s:QS α):QS α:=s.shift0.narrow
def QS.pop (s:QS α):QS α:=s.pop0.narrow
theorem QS.len_items (s:QS α):s.items.length=s.cnt:=by simp [QS.items]
theorem QS.len_lay {s:QS α} {n:Nat} (h:s.cnt≤n):(s.lay n).length=n:=by simp [QS.lay,QS.len_items];omega
theorem QS.pos_lt {β:Type} {s:QS β} (h:0 < s.pl.length) (i:Nat):s.pos i < s.pl.length:=Nat.mod_lt _ h
theorem QS.item_at {s:QS α} {i:Nat} (h:i < s.cnt):s.items[i]? =some (s.get i):=by simp [QS.items,h]
theorem vY {n a i:Nat} (hi:i < n) (hj:j < n) (h:(a + i) % n=(a + j) % n):i=j:=by
 rcases Nat.lt_trichotomy i j with c | c | c
 ·have:=Nat.sub_mod_eq_zero_of_mod_eq h.symm
  rw [show a + j - (a + i)=j - i by omega,Nat.mod_eq_of_lt (by omega)] at this;omega
 ·exact c
 ·have:=Nat.sub_mod_eq_zero_of_mod_eq h
  rw [show a + i - (a + j)=i - j by omega,Nat.mod_eq_of_lt (by omega)] at this;omega
theorem QS.items_ext {s t:QS α} (hc:s.cnt=t.cnt) (h:∀i,i < s.cnt→s.get i=t.get i):s.items=t.items:=by
 apply List.ext_getElem?;intro i
 by_cases c:i < s.cnt
 ·rw [QS.item_at c,QS.item_at (by omega),h i c]
 ·rw [List.getElem?_eq_none (by rw [QS.len_items];omega),List.getElem?_eq_none (by rw [QS.len_items];omega)]
theorem QS.move_items {s:QS α} {n:Nat} (h:s.cnt≤n):(s.move n).items=s.items:=by
 refine QS.items_ext rfl fun i hi=>?_;have hi':i < s.cnt:=hi;have e:(s.move n).get i=((s.lay n)[i % (s.lay n).length]?).getD Itm.z:=by simp [QS.get,QS.pos,QS.move,List.getD_eq_getElem?_getD]
 rw [e,QS.len_lay h,Nat.mod_eq_of_lt (by omega),QS.lay,List.getElem?_append_left (by rw [QS.len_items];omega),QS.item_at hi'];rfl
theorem QS.move_ok {s:QS α} {n:Nat} (h:s.cnt≤n) (hn:n≤100000):(s.move n).ok:=by
 have e:=QS.len_lay h;exact ⟨by show s.cnt≤(s.lay n).length;omega,Nat.zero_le _,by show (s.lay n).length≤_;omega⟩
theorem QS.move_len {s:QS α} {n:Nat} (h:s.cnt≤n):(s.move n).pl.length=n:=QS.len_lay h
theorem QS.narrow_items {s:QS α} (h:s.ok):s.narrow.items=s.items:=by
 unfold QS.narrow;split
 ·exact QS.move_items (by have:=h.c;omega)
 ·rfl
theorem QS.narrow_ok {s:QS α} (h:s.ok):s.narrow.ok:=by
 unfold QS.narrow;split
 ·exact QS.move_ok (by have:=h.c;omega) (by have:=h.m;omega)
 ·exact h
theorem QS.wide_items {s:QS α}:s.wide.items=s.items:=by
 unfold QS.wide;split
 ·exact QS.move_items (by omega)
 ·rfl
theorem QS.wide_cnt (s:QS α):s.wide.cnt=s.cnt:=by unfold QS.wide;split <;> rfl
theorem QS.wide_ok {s:QS α} (h:s.ok) (hc:s.cnt≤5500):s.wide.ok:=by
 unfold QS.wide;split
 ·exact QS.move_ok (by omega) (by omega)
 ·exact h
theorem QS.wide_room {s:QS α} (h:s.ok):s.cnt < s.wide.pl.length:=by
 unfold QS.wide;split
 ·rw [QS.move_len (by omega)];omega
 ·have:=h.c;omega
theorem QS.put_get {s:QS α} {i:Nat} {x:α} (hi:i < s.pl.length) (hj:j < s.pl.length):(s.put i x).get j=if i=j then x else s.get j:=by
 have hp:=QS.pos_lt (s:=s) (by omega) i;unfold QS.get QS.put QS.pos at *;simp only [List.length_set,List.getD_eq_getElem?_getD];by_cases c:i=j
 ·subst c
  rw [List.getElem?_set_self hp,if_pos rfl];rfl
 ·rw [List.getElem?_set_ne (fun e=>c (vY hi hj e)),if_neg c]
theorem QS.push_items {s:QS α} (h:s.ok) (x:α):(s.push x).items=s.items ++ [x]:=by
 have hr:=QS.wide_room h;rw [← QS.wide_items (s:=s)];have hc:=QS.wide_cnt s;apply List.ext_getElem?;intro i
 by_cases c:i < s.cnt
 ·rw [QS.item_at (show i < s.cnt + 1 by omega),List.getElem?_append_left (by rw [QS.len_items];omega),QS.item_at (by omega)]
  have:=QS.put_get (s:=s.wide) (i:=s.cnt) (j:=i) (x:=x) hr (by omega);rw [if_neg (by omega)] at this;rw [← this];rfl
 ·by_cases d:i=s.cnt
  ·subst d
   rw [QS.item_at (show s.cnt < s.cnt + 1 by omega),List.getElem?_append_right (by rw [QS.len_items];omega),QS.len_items,hc,Nat.sub_self];have:=QS.put_get (s:=s.wide) (i:=s.cnt) (j:=s.cnt) (x:=x) hr hr;rw [if_pos rfl] at this;show some ((s.wide.put s.cnt x).get s.cnt)=_
   rw [this];rfl
  ·rw [List.getElem?_eq_none (by rw [QS.len_items];show s.cnt + 1≤i;omega),List.getElem?_eq_none (by simp [QS.len_items,hc];omega)]
theorem QS.push_ok {s:QS α} (h:s.ok) (hc:s.cnt≤5500) (x:α):(s.push x).ok:=by
 have hr:=QS.wide_room h;have hw:=QS.wide_ok h hc;exact ⟨by simp only [QS.push,List.length_set];omega,by simp only [QS.push,List.length_set];exact hw.f,by simp only [QS.push,List.length_set];exact hw.m⟩
theorem QS.shift0_ok {s:QS α} (h:s.ok) (hc:0 < s.cnt):s.shift0.ok:=by
 have:=h.c;have:=h.m;have hp:=QS.pos_lt (s:=s) (by omega) 1;exact ⟨by simp only [QS.shift0,QS.put,List.length_set];omega,by simp only [QS.shift0,QS.put,List.length_set];omega,by simp only [QS.shift0,QS.put,List.length_set];omega⟩
theorem QS.pop0_ok {s:QS α} (h:s.ok) (hc:0 < s.cnt):s.pop0.ok:=by
 have:=h.c;have:=h.m;have:=h.f;exact ⟨by simp only [QS.pop0,QS.put,List.length_set];omega,by simp only [QS.pop0,QS.put,List.length_set];omega,by simp only [QS.pop0,QS.put,List.length_set];omega⟩
theorem QS.shift_items {s:QS α} (h:s.ok) (hc:0 < s.cnt):s.shift.items=s.items.drop 1:=by
 have:=h.c;rw [QS.shift,QS.narrow_items (QS.shift0_ok h hc)];apply List.ext_getElem?;intro i
 rw [List.getElem?_drop];by_cases c:i < s.cnt - 1
 ·rw [QS.item_at (show i < s.cnt - 1 from c),QS.item_at (by omega)]
  have e:=QS.put_get (s:=s) (i:=0) (j:=1 + i) (x:=Itm.z) (by omega) (by omega);rw [if_neg (by omega)] at e;rw [← e];simp only [QS.get,QS.shift0,QS.pos,QS.put,List.length_set,Nat.mod_add_mod,Nat.add_assoc]
 ·rw [List.getElem?_eq_none (by rw [QS.len_items];show s.cnt - 1≤i;omega),List.getElem?_eq_none (by rw [QS.len_items];omega)]
theorem QS.pop_items {s:QS α} (h:s.ok) (hc:0 < s.cnt):s.pop.items=s.items.take (s.cnt - 1):=by
 have:=h.c;rw [QS.pop,QS.narrow_items (QS.pop0_ok h hc)];apply List.ext_getElem?;intro i
 by_cases c:i < s.cnt - 1
 ·rw [QS.item_at (show i < s.cnt - 1 from c),List.getElem?_take_of_lt c,QS.item_at (by omega)]
  have e:=QS.put_get (s:=s) (i:=s.cnt - 1) (j:=i) (x:=Itm.z) (by omega) (by omega);rw [if_neg (by omega)] at e;rw [← e];rfl
 ·rw [List.getElem?_eq_none (by rw [QS.len_items];show s.cnt - 1≤i;omega),List.getElem?_eq_none (by rw [List.length_take,QS.len_items];omega)]
theorem QS.shift_ok {s:QS α} (h:s.ok) (hc:0 < s.cnt):s.shift.ok:=QS.narrow_ok (QS.shift0_ok h hc)
theorem QS.pop_ok {s:QS α} (h:s.ok) (hc:0 < s.cnt):s.pop.ok:=QS.narrow_ok (QS.pop0_ok h hc)
theorem QS.put_pos {β:Type} (s:QS β) (i:Nat) (x:β) (j:Nat):(s.put i x).pos j=s.pos j:=by simp [QS.pos,QS.put]
theorem QS.put_ok {β:Type} {s:QS β} (h:s.ok) (i:Nat) (x:β):(s.put i x).ok:=⟨by simp only [QS.put,List.length_set];exact h.c,by simp only [QS.put,List.length_set];exact h.f,by simp only [QS.put,List.length_set];exact h.m⟩
theorem QS.put_len {β:Type} (s:QS β) (i:Nat) (x:β):(s.put i x).pl.length=s.pl.length:=by simp [QS.put]
theorem QS.get_item {s:QS α} {i:Nat} (h:i < s.cnt):s.items.getD i Itm.z=s.get i:=by
 rw [List.getD_eq_getElem?_getD,QS.item_at h];rfl
theorem pI {s:QS α} {n k:Nat} (hk:k < s.cnt) (hn:s.cnt≤n):(s.items.take k ++ List.replicate (n - k) Itm.z).set k (s.get k)=s.items.take (k + 1) ++ List.replicate (n - (k + 1)) Itm.z:=by
 have e:s.items[k]? =some (s.get k):=QS.item_at hk;rw [List.take_add_one,e,List.set_append_right _ _ (by simp [QS.len_items];omega),show n - k=(n - (k + 1)) + 1 by omega,List.replicate_succ];have:k - (List.take k s.items).length=0:=by simp [QS.len_items];omega
 rw [this];simp
theorem QS.new_items (f:List α):(QS.items ⟨f,0,f.length⟩)=f:=by
 apply List.ext_getElem?;intro i
 by_cases c:i < f.length
 ·rw [QS.item_at (s:=⟨f,0,f.length⟩) c]
  simp [QS.get,QS.pos,Nat.mod_eq_of_lt c,List.getD_eq_getElem?_getD,c]
 ·rw [List.getElem?_eq_none (by rw [QS.len_items];show f.length≤i;omega),List.getElem?_eq_none (by omega)]
theorem QS.new_ok {β:Type} {f:List β} (h:f.length≤100000):QS.ok (⟨f,0,f.length⟩:QS β):=⟨Nat.le_refl _,Nat.zero_le _,h⟩
def aJ (l:List α):Array Value:=(l.flatMap Itm.cs).toArray
theorem cL:∀l:List α,(l.flatMap (Itm.cs (α:=α))).length=l.length * Itm.k α
 | []=>by simp
 | x :: l=>by rw [List.flatMap_cons,List.length_append,cL l,Itm.len,List.length_cons,Nat.succ_mul];omega
theorem aS (l:List α):(aJ l).size=l.length * Itm.k α:=by unfold aJ;rw [List.size_toArray];exact cL l
theorem tV:∀(l:List α) (i j:Nat),j < Itm.k α→(l.flatMap (Itm.cs (α:=α)))[i * Itm.k α + j]? =(l[i]?).bind fun x=>(Itm.cs x)[j]?
 | [],i,j,_=>by simp
 | x :: l,0,j,h=>by rw [List.flatMap_cons,Nat.zero_mul,Nat.zero_add,List.getElem?_append_left (by rw [Itm.len];exact h)];rfl
 | x :: l,i + 1,j,h=>by
   rw [List.flatMap_cons,List.getElem?_append_right (by rw [Itm.len,Nat.succ_mul];omega),Itm.len,show (i + 1) * Itm.k α + j - Itm.k α=i * Itm.k α + j by rw [Nat.succ_mul];omega,tV l i j h];rfl
theorem tW (l:List α) (i j:Nat) (h:j < Itm.k α):(aJ l)[i * Itm.k α + j]? =(l[i]?).bind fun x=>(Itm.cs x)[j]?:=by
 simp only [aJ,List.getElem?_toArray];exact tV l i j h
theorem dH {l:List α} {i:Nat} (j:Nat) (h:i < l.length) (hj:j < Itm.k α):(aJ l)[i * Itm.k α + j]? =(Itm.cs (l.getD i Itm.z))[j]?:=by
 rw [tW l i j hj];simp [List.getD_eq_getElem?_getD,h]
theorem mD {l:List α} {a:Array Value} (hs:a.size=l.length * Itm.k α) (h:∀i j,i < l.length→j < Itm.k α→a[i * Itm.k α + j]? =(Itm.cs (l.getD i Itm.z))[j]?):a=aJ l:=by
 apply Array.ext_getElem?;intro m
 by_cases hm:m < l.length * Itm.k α
 ·have hp:=Itm.pos (α:=α)
  have e:=Nat.div_add_mod m (Itm.k α);have hi:m / Itm.k α < l.length:=Nat.div_lt_of_lt_mul (by rw [Nat.mul_comm];exact hm);have hj:=Nat.mod_lt m hp;rw [← e,Nat.mul_comm,h _ _ hi hj,dH _ hi hj]
 ·rw [Array.getElem?_eq_none (by omega),Array.getElem?_eq_none (by rw [aS];omega)]
def pJ (a:Array Value) (off:Nat):List Value→Array Value
 | []=>a
 | v :: vs=>pJ (a.setIfInBounds off v) (off + 1) vs
theorem oF:∀(vs:List Value) (a:Array Value) (off:Nat),(pJ a off vs).size=a.size
 | [],_,_=>rfl
 | v :: vs,a,off=>by rw [pJ,oF vs,Array.size_setIfInBounds]
theorem mE:∀(vs:List Value) (a:Array Value) (off m:Nat),off + vs.length≤a.size→(pJ a off vs)[m]? =if off≤m∧m < off + vs.length then vs[m - off]? else a[m]?
 | [],a,off,m,_=>by rw [pJ,if_neg (by simp)]
 | v :: vs,a,off,m,h=>by
   rw [List.length_cons] at h;rw [pJ,mE vs _ _ m (by rw [Array.size_setIfInBounds];omega),List.length_cons];by_cases c:off=m
   ·subst c
    rw [if_neg (by omega),if_pos (by omega),Array.getElem?_setIfInBounds_self_of_lt (by omega),Nat.sub_self];rfl
   ·rw [Array.getElem?_setIfInBounds_ne c]
    by_cases d:off + 1≤m∧m < off + 1 + vs.length
    ·rw [if_pos d,if_pos (by omega),show m - off=(m - (off + 1)) + 1 by omega,List.getElem?_cons_succ]
    ·rw [if_neg d,if_neg (by omega)]
theorem bN (l:List α) (i:Nat) (x:α) (hi:i < l.length):pJ (aJ l) (i * Itm.k α) (Itm.cs x)=aJ (l.set i x):=by
 have hp:=Itm.pos (α:=α);have hsz:=aS l;have hroom:i * Itm.k α + (Itm.cs x).length≤(aJ l).size:=by
  rw [Itm.len,hsz,← Nat.succ_mul];exact Nat.mul_le_mul_right _ hi
 refine mD (by rw [oF,hsz,List.length_set]) fun m j hm hj=>?_;rw [List.length_set] at hm;rw [mE _ _ _ _ hroom,Itm.len];by_cases c:i=m
 ·subst c
  rw [if_pos (by omega),show i * Itm.k α + j - i * Itm.k α=j by omega];have g:(l.set i x).getD i Itm.z=x:=by simp [List.getD_eq_getElem?_getD,hm]
  rw [g]
 ·have g:(l.set i x).getD m Itm.z=l.getD m Itm.z:=by simp [List.getD_eq_getElem?_getD,List.getElem?_set_ne c]
  rw [g,if_neg,dH j hm hj];rintro ⟨h1,h2⟩;rcases Nat.lt_or_ge i m with d | d
  ·have:=Nat.mul_le_mul_right (Itm.k α) (show i + 1≤m from d)
   rw [Nat.succ_mul] at this;omega
  ·have:=Nat.mul_le_mul_right (Itm.k α) (show m + 1≤i by omega)
   rw [Nat.succ_mul] at this;omega
theorem fD (z:Array Value) (hz:z=(Itm.cs (Itm.z (α:=α))).toArray) (n:Nat):madeCells z (n * Itm.k α)=aJ (List.replicate n (Itm.z (α:=α))):=by
 have hl:z.size=Itm.k α:=by rw [hz,List.size_toArray,Itm.len]
 refine mD (by rw [size_madeCells,List.length_replicate]) fun m j hm hj=>?_;rw [List.length_replicate] at hm;have hlt:m * Itm.k α + j < n * Itm.k α:=by
  have:=Nat.mul_le_mul_right (Itm.k α) (show m + 1≤n from hm);rw [Nat.succ_mul] at this;omega
 have g:(List.replicate n (Itm.z (α:=α))).getD m Itm.z=Itm.z:=by simp [List.getD_eq_getElem?_getD,hm]
 have e1:(m * Itm.k α + j) % Itm.k α=j:=by rw [Nat.mul_comm,Nat.mul_add_mod,Nat.mod_eq_of_lt hj]
 have hj':j < (Itm.cs (Itm.z (α:=α))).length:=by rw [Itm.len];exact hj
 rw [g];unfold madeCells;rw [Array.getElem?_map,Array.getElem?_range,if_pos hlt,Option.map_some,hl,e1,hz,List.getElem!_toArray,List.getElem!_eq_getElem?_getD,List.getElem?_eq_getElem hj'];rfl
theorem kM (l:List α):∀v∈l.flatMap (Itm.cs (α:=α)),v.oneCell'=true:=by
 intro v hv;obtain ⟨x,_,hx⟩:=List.mem_flatMap.1 hv;exact Itm.one x v hx
end

section
structure TS where
 la:Nat
 sm:Nat
 sp:Nat
 so:Bool
 n:Nat
namespace TS
def zero:TS:=⟨0,0,0,false,0⟩
def ok (s:TS):Prop:=s.la≤↑ω∧s.sm≤↑ω∧s.sp≤↑ω∧s.n≤6
def far (a b:Nat):Nat:=max a b - min a b
def put (s:TS) (x:Nat):TS:=if s.so=true then ⟨x,Pl.addS (Pl.mulS 7 s.sm) x / 8,Pl.addS (Pl.mulS 3 s.sp) (far s.sm x) / 4,true,0⟩ else ⟨x,x,x / 2,true,0⟩
def dbl (s:TS):TS:=⟨s.la,s.sm,s.sp,s.so,min (s.n + 1) 6⟩
def lim0 (s:TS):Nat:=if s.so=true then max (Pl.addS s.sm (max (Pl.mulS 4 s.sp) 1000)) 10000 else 1000000
def lim (s:TS):Nat:=Pl.mulS s.lim0 (2 ^ s.n)
def del (s:TS):Nat:=max (Pl.overS 9 (max s.sm s.la) 8) 1000
theorem zero_ok:zero.ok:=⟨by decide,by decide,by decide,by decide⟩
theorem put_ok {s:TS} (h:s.ok) (hx:x≤↑ω):(s.put x).ok:=by
 unfold put ok;split
 ·have h1:=Pl.addS_le (Pl.mulS 7 s.sm) x
  have h2:=Pl.addS_le (Pl.mulS 3 s.sp) (far s.sm x);exact ⟨hx,by dsimp;omega,by dsimp;omega,by dsimp;omega⟩
 ·exact ⟨hx,hx,by dsimp;omega,by dsimp;omega⟩
theorem dbl_ok {s:TS} (h:s.ok):s.dbl.ok:=⟨h.1,h.2.1,h.2.2.1,by unfold dbl;dsimp;omega⟩
theorem lim0_le (s:TS):s.lim0≤18446744073709551615:=by
 unfold lim0;split
 ·have:=Pl.addS_le s.sm (max (Pl.mulS 4 s.sp) 1000)
  omega
 ·omega
theorem lim_le (s:TS):s.lim≤18446744073709551615:=Pl.mulS_le _ _
theorem del_le (s:TS):s.del≤18446744073709551615:=by
 unfold del;have:=Pl.overS_le 9 (max s.sm s.la) 8;omega
def of (L:List Nat) (n:Nat):TS:={L.foldl put zero with n:=n}
theorem put_any (s:TS) (x k:Nat):put {s with n:=k} x=put s x:=by unfold put;rfl
end TS

structure PS where
 r:Nat
 q:Nat
 t:Nat
 s:Nat
namespace PS
def zero:PS:=⟨0,0,0,0⟩
def ok (p:PS):Prop:=p.r≤↑ω∧p.q≤↑ω∧p.t≤↑ω∧p.s≤↑ω
def tickE (p:PS) (now:Nat):Int:=if now < p.t then 2 else 0
def tickS (p:PS) (now r q:Nat):PS:=if now < p.t then p else ⟨r,q,now,min (Pl.addS p.s (Pl.mulS r (now - p.t))) (Pl.mulS q 1000000)⟩
def takeB (p:PS) (x:Nat):Bool:=decide (Pl.mulS x 1000000≤p.s)
def takeS (p:PS) (x:Nat):PS:=if Pl.mulS x 1000000≤p.s then ⟨p.r,p.q,p.t,p.s - Pl.mulS x 1000000⟩ else p
def lack (p:PS) (x:Nat):Nat:=Pl.subS (Pl.mulS x 1000000) p.s
def nextT (p:PS) (x:Nat):Nat:=if p.q < x then 0 else if p.lack x=0 then p.t else if p.r=0 then 0 else Pl.addS p.t (Pl.overS (p.lack x) 1 p.r)
theorem zero_ok:zero.ok:=by unfold ok zero;refine ⟨?_,?_,?_,?_⟩ <;> dsimp <;> omega
theorem tick_ok {p:PS} (h:p.ok) {r q:Nat} (hn:now≤↑ω) (hr:r≤↑ω) (hq:q≤↑ω):(p.tickS now r q).ok:=by
 unfold tickS;split
 ·exact h
 ·exact ⟨hr,hq,hn,Nat.le_trans (Nat.min_le_right _ _) (Pl.mulS_le _ _)⟩
theorem take_ok {p:PS} (h:p.ok) (x:Nat):(p.takeS x).ok:=by
 unfold takeS;split
 ·exact ⟨h.1,h.2.1,h.2.2.1,Nat.le_trans (Nat.sub_le _ _) h.2.2.2⟩
 ·exact h
def small (p:PS):Prop:=p.r≤1048576∧p.q≤1048576∧p.t≤1048576∧p.s≤p.q * 1000000
theorem small.ok {p:PS} (h:p.small):p.ok:=by obtain ⟨a,b,c,d⟩:=h;unfold PS.ok;omega
theorem take_no {p:PS} (c:p.takeB x=false):p.takeS x=p:=by
 unfold takeB at c;unfold takeS;rw [if_neg (of_decide_eq_false c)]
theorem tick_no {p:PS} {r q:Nat} (c:now < p.t):p.tickS now r q=p:=by unfold tickS;rw [if_pos c]
end PS
end

section
open Go.RowKit
def gY:Nat→Nat
 | 0=>277 | 1=>36 | 2=>75 | 3=>100 | 4=>100 | 5=>125 | 6=>100 | _=>0
def dQ:Nat→Nat
 | 0=>200 | 1=>200 | 2=>200 | 3=>200 | 4=>200 | 5=>225 | 6=>50 | _=>0
theorem BK (k:Nat):gY k≤277:=by unfold gY;split <;> omega
theorem tX (k:Nat):dQ k≤225:=by unfold dQ;split <;> omega
theorem PK {P:Nat→Prop} (h0:P 0) (h1:P 1) (h2:P 2) (h3:P 3) (h4:P 4) (h5:P 5) (h6:P 6):∀k,k < 7→P k
 | 0,_=>h0 | 1,_=>h1 | 2,_=>h2 | 3,_=>h3 | 4,_=>h4 | 5,_=>h5 | 6,_=>h6
 | n + 7,h=>absurd h (by omega)

def Gl (w:World):Prop:=∀k,k < 7→w.cell? ⟨0,k * 2,none⟩=some ↑(gY k)∧w.cell? ⟨0,k * 2 + 1,none⟩=some ↑(dQ k)
theorem Gl.keep (h:Gl w) (hb:Below ↑w w w'):Gl w':=fun k hk=>
 ⟨(hb.cell (p:=⟨0,_,none⟩) (World.block_lt_of_cell? w _ (h k hk).1)).trans (h k hk).1,(hb.cell (p:=⟨0,_,none⟩) (World.block_lt_of_cell? w _ (h k hk).2)).trans (h k hk).2⟩
theorem Gl.alloc {w:World} (h:Gl w) (o:Obj):Gl (w.alloc o):=h.keep ((Below.refl _ _).alloc (Nat.le_refl _) _)
def stG (s:Int):Nat:=if 0≤s∧s < 7 then s.toNat else 7
theorem NC (k:Nat) (hk:k < 7):stG k=k:=by unfold stG;rw [if_pos (by omega)];simp
theorem ID (s:Int) (h:¬ (0≤s∧s < 7)):stG s=7:=by unfold stG;rw [if_neg h]
theorem x9 (s:Int):(∃k:Nat,k < 7∧s=(k:Int))∨¬ (0≤s∧s < 7):=by
 by_cases h:0≤s∧s < 7
 ·exact Or.inl ⟨s.toNat,by omega,by omega⟩
 ·exact Or.inr h
theorem MK (s:Int) (w:World) (hg:Gl w):
  Calls prog 87 #[.int .i64 s] w fun e w'=>e=.returned (.agg #[↑(gY (stG s)),↑(dQ (stG s))])∧Below ↑w w w':=by
 rcases x9 s with ⟨k,hk,rfl⟩ | h
 ·rw [NC k hk]
  have HG:=lh (hg.alloc (.cells #[↑ζ,↑ζ] 162) k hk);have c0:=HG.out.1;have c1:=HG.out.2;have i0:(0:Int)≤(k:Int):=by omega
  have i1:(k:Int) < 7:=by omega
  clear hg hk;go_enter func87,ntmps87;go_wp2;exact bodyPost_ret (aI rfl _ _ w.heap.size 162 _ _ rfl (Blk.new w _ _) underlying162 rfl (by kernel_rfl)) rfl ⟨rfl,(Below.refl _ _).alloc (Nat.le_refl _) _⟩
 ·rw [ID s h]
  by_cases h0:s < 0
  ·clear h hg
   go_enter func87,ntmps87;go_wp2;exact bodyPost_ret (aI rfl _ _ w.heap.size 162 _ _ rfl (Blk.new w _ _) underlying162 rfl (by kernel_rfl)) rfl ⟨rfl,(Below.refl _ _).alloc (Nat.le_refl _) _⟩
  ·have h1:7≤s:=by omega
   clear h hg;go_enter func87,ntmps87;go_wp2;exact bodyPost_ret (aI rfl _ _ w.heap.size 162 _ _ rfl (Blk.new w _ _) underlying162 rfl (by kernel_rfl)) rfl ⟨rfl,(Below.refl _ _).alloc (Nat.le_refl _) _⟩

theorem aO {p:Addr} (h:w.cell? p=some v):w.drew.cell? p=some v:=h
theorem cK (w:World) (o:Obj):Below ↑w w (w.alloc o).drew:=((Below.refl _ _).alloc (Nat.le_refl _) o).trans ((aB.drew _).below _)
theorem aA {V:World} {p:Addr} (hb:Below ↑V V w) (h:V.cell? p=some v):w.cell? p=some v:=(hb.cell (World.block_lt_of_cell? V p h)).trans h
theorem nc1 (W:World) (x:Nat) (T:TypeId):(W.alloc (.cells #[↑x] T)).drew.cell? ⟨W.heap.size,0,none⟩=some ↑x:=aO (aN rfl rfl)
theorem eE (W:World) (x:Nat) (T:TypeId):(W.alloc (.cells #[↑x] T)).cell? ⟨W.heap.size,0,none⟩=some ↑x:=aN rfl rfl
theorem aC (w:World) (o:Obj):Below ↑w w (w.alloc o):=(Below.refl _ _).alloc (Nat.le_refl _) o
theorem RB {b y:Nat} (h0:W.cell? ⟨b,0,none⟩=some ↑x) (h1:W.cell? ⟨b,1,none⟩=some ↑y):Row W b 0 [x,y]:=by
 intro i hi
 match i,hi with
 | 0,_=>exact h0
 | 1,_=>exact h1
theorem bU (x y:Nat) (hx:x≤↑ω) (hy:y≤↑ω) (b:Nat) (W:World) (h0:W.cell? ⟨b,0,none⟩=some ↑x) (h1:W.cell? ⟨b,1,none⟩=some ↑y):
  Calls prog 60 #[.slice (some ⟨b,0,none⟩) 2 2] W fun e w'=>e=.returned ↑(Pl.addS x y:Nat)∧Below ↑W W w':=by
 have:=i6 b 0 2 [x,y] W (by simp) (by simp;omega) (RB h0 h1);have e:Pl.sumS [x,y]=Pl.addS x y:=by simp [Pl.sumS,Pl.addS]
 rw [e] at this;exact this.mono fun e w' q=>⟨q.1,q.2▸Below.refl _ _⟩
theorem nc2 (W:World) (x y:Nat) (T:TypeId):(W.alloc (.cells #[↑x,↑y] T)).cell? ⟨W.heap.size,0,none⟩=some ↑x∧(W.alloc (.cells #[↑x,↑y] T)).cell? ⟨W.heap.size,1,none⟩=some ↑y:=⟨aN rfl rfl,aN rfl rfl⟩
end

section
open Go.RowKit Pl
theorem eK:(∀(x y:Nat) (h:y≤x) (hx:x≤↑ω) (w:World),(callFunc 81 #[.int .u64 x,.int .u64 y,↑ζ]).run prog w=.ok (.value (.tuple #[↑(x - y:Nat),↑ζ])) w)∧(∀(x y:Nat) (h:x < y) (hx:x≤↑ω) (w:World),(callFunc 81 #[.int .u64 x,.int .u64 y,↑ζ]).run prog w=.ok (.value (.tuple #[↑((x + 18446744073709551616 - y - 0) % 18446744073709551616:Nat),.int .u64 1])) w):=by
 refine ⟨?_,?_⟩
 have k0v:Hid True:=trivial;rotate_left;rotate_left
 all_goals intro x y h hx w
 all_goals
  have h0:=run_sub64 (P:=prog) x y 0 (by omega) w;rw [run_callFunc_extern func81 (by kernel_rfl) (by kernel_rfl) (by kernel_rfl) (e:=sub64Entry) (by kernel_rfl)];first
  |revert k0v;intro k0v;rw [show (x + 18446744073709551616 - y - 0) % 18446744073709551616=x - y by omega,if_neg (by omega)] at h0
  |rw [if_pos (by omega)] at h0
  exact (congrArg (fun r=>Result.andThen r fun v w'=>.ok (Next.value v) w') h0)
theorem pK (a:Nat) (zs:List Nat) (h:a≤↑ω) (hs:sumS zs≤a):a - sumS zs=lessS a zs:=by
 unfold sumS at hs ⊢;unfold lessS;omega
theorem tY (a:Nat) (zs:List Nat) (h:a≤↑ω) (hs:a < sumS zs):lessS a zs=0:=by
 unfold sumS at hs;unfold lessS;omega
theorem vZ (a:Int) (b off cap:Nat) (zs:List Nat) (w:World) (ha0:0≤a) (ha:a≤↑ω) (hl:zs.length≤9223372036854775807) (hz:∀z∈zs,z≤↑ω) (hrow:Row w b off zs):
  Calls prog 92 #[.int .u64 a,.slice (some ⟨b,off,none⟩) zs.length cap] w fun e w'=>e=.returned ↑(lessS a.toNat zs:Nat)∧w=w':=by
 obtain ⟨n,rfl⟩:=Int.eq_ofNat_of_zero_le ha0;rw [Int.toNat_natCast];have hn:n≤18446744073709551615:=by omega
 have HA:=lh (i6 b off cap zs w hl hz hrow);clear hz hrow hl ha0 ha;by_cases h:sumS zs≤n
 ·have HE:=lh (pK n zs hn h)
  have hrun:=eK.1 n (sumS zs) h hn;go_enter func92,ntmps92;go_wp2_with (go_at_call 60;refine (HA.out).mono ?_;rintro e w' ⟨rfl,rfl⟩)
  go_ret;exact ⟨bH (by rw [HE.out]),rfl⟩
 ·have HE:=lh (tY n zs hn (by omega))
  have hrun:=eK.2 n (sumS zs) (by omega) hn;go_enter func92,ntmps92;go_wp2_with (go_at_call 60;refine (HA.out).mono ?_;rintro e w' ⟨rfl,rfl⟩)
  go_ret;exact ⟨bH (by rw [HE.out];rfl),rfl⟩
end

section
open Go.RowKit
theorem PM {b:Nat} (h:W.cell? ⟨b,0,none⟩=some ↑x):Row W b 0 [x]:=by
 intro i hi
 match i,hi with
 | 0,_=>exact h
theorem i7 (a x b:Nat) (ha:a≤↑ω) (hx:x≤↑ω) (W:World) (h:W.cell? ⟨b,0,none⟩=some ↑x):
  Calls prog 92 #[↑a,.slice (some ⟨b,0,none⟩) 1 1] W fun e w'=>e=.returned ↑(Pl.subS a x:Nat)∧W=w':=by
 have:=vZ (a:Int) b 0 1 [x] W (by omega) (by omega) (by simp) (by simp;exact hx) (PM h);simpa [Pl.lessS,Pl.subS] using this
end
end Go.Proofs.YtjhiooggnpbecaaGreatDoor
