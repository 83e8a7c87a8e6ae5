/- 2 texts put together: what each one says stands ahead of it. -/
import Derived.Test.YteoepabmnbkabaaGreatDoorKS06
import Derived.Test.YteoepabmnbkabaaGreatDoorProg
import Derived.Deep.QuietTactic
import Derived.BigQuiet
import Derived.StillTailTactics
import Derived.Deep.RegionHeld3
import Derived.Deep.LoopGhost
import Derived.Sort.Grow
import Derived.Lib.Hide
import Derived.Maps.AppendAt
import Derived.OwnWalk
set_option linter.unusedVariables false
namespace Go.Proofs.YteoepabmnbkabaaGreatDoor
open Go.RowKit
def cmpN (a b:Nat):Int:=if a < b then -1 else if b < a then 1 else 0
theorem cmpN_neg (a b:Nat):cmpN a b < 0↔a < b:=by by_cases h:a < b <;> by_cases k:b < a <;> simp [cmpN,h,k]
theorem cmpN_in (a b:Nat):-1≤cmpN a b∧cmpN a b≤1:=by by_cases h:a < b <;> by_cases k:b < a <;> simp [cmpN,h,k]
theorem isNaN_any (a:Nat) (w:World):Calls Tryz.prog 269 #[.int .u64 (a:Int)] w fun e w'=>e=.returned (.bool false)∧w=w':=by
 go_enter Tryz.func269,Tryz.ntmps269
 go_wp2
 go_ret
 exact ⟨rfl,rfl⟩
theorem compare_any (a b:Nat) (w:World):Calls Tryz.prog 190 #[.int .u64 (a:Int),.int .u64 (b:Int)] w fun e w'=>e=.returned (.int .i64 (cmpN a b))∧w=w':=by
 have hn:=fun x W=>isNaN_any x W
 by_cases h1:a < b
 ·have e:cmpN a b=-1:=by simp [cmpN,h1]
  rw [e]
  clear e
  go_enter Tryz.func190,Tryz.ntmps190
  go_wp2_with (go_at_call 269;refine (hn _ _).mono ?_;rintro e w' ⟨rfl,rfl⟩)
  go_ret
  exact ⟨rfl,rfl⟩
 ·by_cases h2:b < a
  ·have e:cmpN a b=1:=by simp [cmpN,h1,h2]
   rw [e]
   clear e
   go_enter Tryz.func190,Tryz.ntmps190
   go_wp2_with (go_at_call 269;refine (hn _ _).mono ?_;rintro e w' ⟨rfl,rfl⟩)
   go_ret
   exact ⟨rfl,rfl⟩
  ·have e:cmpN a b=0:=by simp [cmpN,h1,h2]
   rw [e]
   clear e
   go_enter Tryz.func190,Tryz.ntmps190
   go_wp2_with (go_at_call 269;refine (hn _ _).mono ?_;rintro e w' ⟨rfl,rfl⟩)
   go_ret
   exact ⟨rfl,rfl⟩
theorem ends_any (r:Rn) (n:Nat) (w:World):Calls Tryz.prog 258 #[r.agg,.int .u64 (n:Int)] w fun e w'=>e=.returned (.int .i64 (cmpN r.b n))∧Below w.heap.size w w':=by
 have hc:=fun W=>compare_any r.b n W
 obtain ⟨x,y⟩:=r
 unfold Rn.agg
 generalize cmpN y n=c at hc ⊢
 dsimp only at hc ⊢
 go_enter Tryz.func258,Tryz.ntmps258
 go_wp2_with (go_at_call 190;refine (hc _).mono ?_;rintro e w' ⟨rfl,rfl⟩)
 go_ret
 exact ⟨rfl,(Below.refl _ _).alloc (Nat.le_refl _) _⟩
theorem rising_any (r s:Rn) (W:World):Calls Tryz.prog 122 #[r.agg,s.agg] W fun e w'=>e=.returned (.int .i64 (cmpN r.a s.a))∧∃q os',w'=Go.Sort.grow (W.drewN q) os':=by
 have hc:=fun W=>compare_any r.a s.a W
 obtain ⟨x,y⟩:=r
 obtain ⟨z,u⟩:=s
 unfold Rn.agg
 generalize cmpN x z=c at hc ⊢
 dsimp only at hc ⊢
 go_enter Tryz.func122,Tryz.ntmps122
 go_wp2_with (go_at_call 190;refine (hc _).mono ?_;rintro e w' ⟨rfl,rfl⟩)
 go_ret
 exact ⟨rfl,0,_,by rw [Go.Sort.alloc_eq_grow,Go.Sort.alloc_eq_grow,Go.Sort.grow_grow];rfl⟩
theorem wrong_any (r:Rn) (w:World):Calls Tryz.prog 118 #[r.agg] w fun e w'=>e=.returned (.bool (!okB r))∧Below w.heap.size w w':=by
 obtain ⟨x,y⟩:=r
 unfold Rn.agg okB
 dsimp only
 by_cases h1:y < x
 ·have e:(!!(decide (y < x) || decide (y=18446744073709551615)))=true:=by simp [h1]
  rw [e]
  clear e
  have hd:decide ((y:Nat) < x)=true:=by simp [h1]
  go_enter Tryz.func118,Tryz.ntmps118
  go_wp2
  go_ret
  exact ⟨rfl,(Below.refl _ _).alloc (Nat.le_refl _) _⟩
 ·have hd:decide ((y:Nat) < x)=false:=by simp;omega
  obtain ⟨c,hc⟩:∃c,((y:Int) == (18446744073709551615:Int))=c:=⟨_,rfl⟩
  have e:(!!(decide (y < x) || decide (y=18446744073709551615)))=c:=by
   rw [hd,← hc,Bool.eq_iff_iff];simp;omega
  rw [e]
  clear e h1
  go_enter Tryz.func118,Tryz.ntmps118
  go_wp2
  go_ret
  exact ⟨rfl,(Below.refl _ _).alloc (Nat.le_refl _) _⟩
end Go.Proofs.YteoepabmnbkabaaGreatDoor

set_option linter.unusedVariables false
namespace Go.Proofs.YteoepabmnbkabaaGreatDoor
open Go.RowKit
theorem rn_info:(Tryz.prog.info? 59).map (fun i=>(i.zero,i.size,i.bytes))=some (some (.agg #[.int .u64 0,.int .u64 0]),2,16):=by kernel_rfl
abbrev rcs (l:List Rn):List Value:=l.flatMap (Itm.cs (α:=Rn))
def RR (w:World) (v:Value) (l:List Rn):Prop:=w.ownsRow 0 59 2 v l.length (rcs l)
theorem RR.nil (w:World):RR w (.slice none 0 0) []:=World.ownsRow_nil w 0 _ 2
theorem RR.form {w:World} {v:Value} {l:List Rn} (h:RR w v l):(v=.slice none 0 0∧l=[])∨∃g cap,v=.slice (some ⟨g,0,none⟩) l.length cap∧g < w.heap.size:=by
 rcases h.2 with ⟨e,k⟩ | ⟨g,cap,cur,e,_,hg,_⟩
 ·exact .inl ⟨e,List.eq_nil_of_length_eq_zero k⟩
 ·exact .inr ⟨g,cap,e,Blk.lt hg⟩
theorem RR.form1 {w:World} {v:Value} {l:List Rn} (h:RR w v l) (hl:0 < l.length):∃g cap,v=.slice (some ⟨g,0,none⟩) l.length cap∧g < w.heap.size:=by
 rcases h.form with ⟨_,rfl⟩ | k
 ·simp at hl
 ·exact k
theorem RR.inv {w:World} {l:List Rn} {g n cap:Nat} (h:RR w (.slice (some ⟨g,0,none⟩) n cap) l):n=l.length∧∃cur,Blk w g 59 cur∧n≤cap∧cap≤maxLen∧cur.size=cap * 2∧cur.toList.take (n * 2)=rcs l:=by
 rcases h.2 with ⟨e,_⟩ | ⟨g',cap',cur,e,_,hg,h1,h2,h3,h4⟩
 ·cases e
 ·injection e with e e2 e3;injection e with e;injection e with e;subst e;subst e2;subst e3
  exact ⟨rfl,cur,hg,h1,h2,h3,h4⟩
theorem RR.mk {w:World} {l:List Rn} {g n cap:Nat} {cur:Array Value} (h0:n=l.length) (h:Blk w g 59 cur) (h1:n≤cap) (h2:cap≤maxLen) (h3:cur.size=cap * 2) (h4:cur.toList.take (n * 2)=rcs l):RR w (.slice (some ⟨g,0,none⟩) n cap) l:=by
 subst h0
 exact ⟨icells_len (α:=Rn) l,.inr ⟨g,cap,cur,rfl,Nat.zero_le _,h,h1,h2,h3,h4⟩⟩
theorem RR.blk {w:World} {l:List Rn} {g n cap:Nat} (h:RR w (.slice (some ⟨g,0,none⟩) n cap) l):∃cs,Blk w g 59 cs:=by
 obtain ⟨_,cur,hg,_⟩:=h.inv
 exact ⟨cur,hg⟩
theorem RR.same {w w':World} {v:Value} {l:List Rn} (h:RR w v l) (hk:∀g cs,v.ownBlock=some g→Blk w g 59 cs→w'.heap[g]? =w.heap[g]?):RR w' v l:=by
 refine ⟨h.1,?_⟩
 rcases h.2 with c | ⟨g,cap,cur,e,hb,hg,k⟩
 ·exact .inl c
 ·exact .inr ⟨g,cap,cur,e,hb,by rw [hk g cur (by rw [e];rfl) hg];exact hg,k⟩
theorem RR.keep {w w':World} {v:Value} {l:List Rn} (h:RR w v l) (k:Below w.heap.size w w'):RR w' v l:=h.same fun g cs _ hb=>k.block g hb.lt
theorem RR.drew {w:World} {v:Value} {l:List Rn} (h:RR w v l):RR w.drew v l:=h
theorem RR.fr {w w':World} {v:Value} {l:List Rn} {L:List Nat} (h:RR w v l) (k:Fr w w' L) (hl:∀g,v.ownBlock=some g→g ∉ L):RR w' v l:=h.same fun g cs e hb=>k.block g hb.lt (hl g e)
theorem RR.its {w:World} {l:List Rn} {p:Option Addr} {n cap:Nat} (h:RR w (.slice p n cap) l):Its w p l:=by
 intro hp
 obtain ⟨g,c,e,hg⟩:=h.form1 hp
 injection e with e1 e2 e3
 subst e1
 obtain ⟨_,cur,hb,_,_,h3,h4⟩:=h.inv
 refine ⟨g,0,rfl,hg,fun i j hi hj=>?_⟩
 have k2:Itm.k Rn=2:=rfl
 rw [k2] at hj ⊢
 have e:=iget (α:=Rn) l i j (by rw [k2];exact hj)
 rw [k2] at e
 have hj':j < (Itm.cs (l.getD i Itm.z)).length:=by rw [Itm.len];exact hj
 have e':(rcs l)[i * 2 + j]? =(Itm.cs (l.getD i Itm.z))[j]?:=by rw [e];simp [List.getD_eq_getElem?_getD,hi]
 rw [List.getElem?_eq_getElem hj'] at e' ⊢
 rw [Nat.zero_add]
 refine hb.cell ?_
 rw [← h4,List.getElem?_take_of_lt (by omega)] at e'
 simpa using e'
theorem its_two {w:World} {l:List Rn} {ad:Addr} (h:Its w (some ad) l) (hp:0 < l.length):∃b off,ad=⟨b,off,none⟩∧b < w.heap.size∧
  ∀i,i < l.length→w.cell? ⟨b,off + i * 2,none⟩=some (.int .u64 ((l.getD i Itm.z).a:Int))∧w.cell? ⟨b,off + i * 2 + 1,none⟩=some (.int .u64 ((l.getD i Itm.z).b:Int)):=by
 obtain ⟨b,off,e,hb,hc⟩:=h hp
 injection e with e
 refine ⟨b,off,e,hb,fun i hi=>?_⟩
 have k2:Itm.k Rn=2:=rfl
 have a0:=hc i 0 hi (by decide)
 have a1:=hc i 1 hi (by decide)
 rw [k2] at a0 a1
 exact ⟨a0,a1⟩
theorem RR.app {w:World} {l m:List Rn} {n:Nat} {v:Value} (hn:n=l.length + m.length) (h:w.ownsRow 0 59 2 v n (rcs l ++ rcs m)):RR w v (l ++ m):=by
 subst hn
 unfold RR rcs
 rw [List.flatMap_append,List.length_append]
 exact h
theorem wpList_append_rr {w:World} {ops:Array Oper} {rest:List Oper} {o:Oper} {a:Act} {Q:Exit→Act→World→Prop} (hgd:o.guard=none) (s x:Operand)
  (ho:o.op=.call {callee:=.builtin .append,args:=#[s,x],argTypes:=#[36,36]}) (v:Value) (l:List Rn)
  (hs:a.eval s=v) (hv:RR w v l) (p:Option Addr) (m c:Nat) (r:List Rn) (hx:a.eval x=.slice p m c) (hm:r.length=m) (hpos:0 < r.length) (hN:Its w p r) (hb:l.length + r.length≤1000000)
  (h:∀g' cap' w',RR w' (.slice (some ⟨g',0,none⟩) (l.length + r.length) cap') (l ++ r)→w.grownBy w' v.ownBlock→(some g'=v.ownBlock∨g'=w.heap.size)→wpList Tryz.prog ops Q rest (a.put o.dst (.slice (some ⟨g',0,none⟩) (l.length + r.length) cap')) w'):
  wpList Tryz.prog ops Q (o :: rest) a w:=by
 obtain ⟨i0,hi,hz0,hz1,hz2⟩:=info_parts rn_info
 obtain ⟨ad,rfl,hc⟩:=hN.cells hpos
 subst hm
 refine wpList_append_own_at _ hgd s x 36 ho 0 59 i0 (.agg #[.int .u64 0,.int .u64 0]) 2 16 Tryz.underlying36 hi hz0 hz1 hz2 rfl (by decide) v l.length (rcs l) hs hv ad r.length c (rcs r) hx (icells_len (α:=Rn) r) hc ?_ (by unfold maxLen;omega) (by omega) (Nat.zero_le _) ?_
 ·intro u hu
  obtain ⟨x,_,hx⟩:=List.mem_flatMap.1 hu
  exact Itm.one x u hx
 ·intro v' w' hown' hgr hnil hat
  have hR:RR w' v' (l ++ r):=RR.app rfl hown'
  obtain ⟨g',cap',e,_⟩:=hR.form1 (by simp;omega)
  rw [List.length_append] at e
  subst e
  refine h g' cap' w' hR hgr ?_
  rcases hat with k | k
  ·exact .inl k
  ·exact .inr (by simpa [Value.ownBlock] using k)
end Go.Proofs.YteoepabmnbkabaaGreatDoor
