/- 1 texts put together: what each one says stands ahead of it. -/
import Derived.Test.YteoepabmnbkabaaGreatDoorKS20
import Derived.Test.YteoepabmnbkabaaGreatDoorKS29
import Derived.Shelf.SlSorted.Search
import Derived.Deep.QuietTactic
import Derived.BigQuiet
set_option linter.unusedVariables false
namespace Go.Proofs.YteoepabmnbkabaaGreatDoor
open Go.RowKit
def kAt (ks:List Kp) (i:Nat):Kp:=ks.getD i default
theorem kAt_mem {ks:List Kp} {i:Nat} (h:i < ks.length):kAt ks i∈ks:=by
 unfold kAt;rw [List.getD_eq_getElem?_getD,List.getElem?_eq_getElem h];exact List.getElem_mem h
theorem kAt_get {ks:List Kp} {i:Nat} (h:i < ks.length):ks[i]? =some (kAt ks i):=by
 unfold kAt;rw [List.getD_eq_getElem?_getD,List.getElem?_eq_getElem h];rfl
theorem kAt_item {ks:List Kp} {i:Nat} (h:i < ks.length):(itemsK ks).getD i 0=(kAt ks i).b + 1:=by
 unfold itemsK;rw [List.getD_eq_getElem?_getD,List.getElem?_map,kAt_get h];rfl
theorem itemsK_len (ks:List Kp):(itemsK ks).length=ks.length:=by simp [itemsK]
theorem kAt_rise {ks:List Kp} (h:ks.Pairwise fun x y=>x.p.n < y.p.n) {i j:Nat} (hij:i≤j) (hj:j < ks.length):(kAt ks i).p.n≤(kAt ks j).p.n:=by
 rcases Nat.lt_or_ge i j with c | c
 ·have:=List.pairwise_iff_getElem.1 h i j (by omega) hj c
  have e1:=kAt_get (ks:=ks) (i:=i) (by omega)
  have e2:=kAt_get hj
  rw [List.getElem?_eq_getElem (by omega)] at e1
  rw [List.getElem?_eq_getElem hj] at e2
  injection e1 with e1;injection e2 with e2
  rw [← e1,← e2];omega
 ·obtain rfl:i=j:=by omega
  exact Nat.le_refl _
def plc (ks:List Kp) (n:Nat):Nat:=(List.range ks.length).countP (fun i=>!decide (n≤(kAt ks i).p.n))
theorem plc_le (ks:List Kp) (n:Nat):plc ks n≤ks.length:=by
 have:=List.countP_le_length (p:=fun i=>!decide (n≤(kAt ks i).p.n)) (l:=List.range ks.length)
 simpa [plc] using this
theorem range_split (a b:Nat) (h:a≤b):List.range b=List.range a ++ (List.range (b - a)).map (a + ·):=by
 have:=List.range_add (n:=a) (m:=b - a)
 rwa [Nat.add_sub_cancel' h] at this
theorem plc_below {ks:List Kp} (h:ks.Pairwise fun x y=>x.p.n < y.p.n) {n i:Nat} (hi:i < plc ks n):(kAt ks i).p.n < n:=by
 rcases Nat.lt_or_ge (kAt ks i).p.n n with c | c
 ·exact c
 ·exfalso
  have hl:=plc_le ks n
  have e:plc ks n≤i:=by
   unfold plc
   rw [range_split i ks.length (by omega),List.countP_append]
   have z:((List.range (ks.length - i)).map (i + ·)).countP (fun i=>!decide (n≤(kAt ks i).p.n))=0:=by
    rw [List.countP_eq_zero]
    intro j hj
    obtain ⟨k,hk,rfl⟩:=List.mem_map.1 hj
    have:=List.mem_range.1 hk
    have:=kAt_rise h (i:=i) (j:=i + k) (by omega) (by omega)
    simp;omega
   rw [z]
   have:=List.countP_le_length (p:=fun i=>!decide (n≤(kAt ks i).p.n)) (l:=List.range i)
   simpa using this
  omega
theorem plc_above {ks:List Kp} (h:ks.Pairwise fun x y=>x.p.n < y.p.n) {n i:Nat} (hi:plc ks n≤i) (hl:i < ks.length):n≤(kAt ks i).p.n:=by
 rcases Nat.lt_or_ge (kAt ks i).p.n n with c | c
 ·exfalso
  have e:i + 1≤plc ks n:=by
   unfold plc
   rw [range_split (i + 1) ks.length (by omega),List.countP_append]
   have z:(List.range (i + 1)).countP (fun i=>!decide (n≤(kAt ks i).p.n))=i + 1:=by
    have:=List.countP_eq_length (p:=fun i=>!decide (n≤(kAt ks i).p.n)) (l:=List.range (i + 1))
    rw [this.2 ?_]
    ·simp
    ·intro j hj
     have:=List.mem_range.1 hj
     have:=kAt_rise h (i:=j) (j:=i) (by omega) hl
     simp;omega
   omega
  omega
 ·exact c
structure LRd (w:World) (b rb g:Nat) (ks:List Kp):Prop where
 head:∃cs,Blk w b 140 cs∧cs[0]? =some (.pointer (some ⟨rb,0,none⟩))
 row:KRow w rb g (itemsK ks)
 kept:∀k∈ks,∃gn,Blk w k.b 203 (Kp.cells k.p gn)
theorem LAt.rd {w:World} {b rb g:Nat} {s:LS} (h:LAt w b rb g s):LRd w b rb g s.ks:=⟨⟨_,h.head,rfl⟩,h.row,fun k hk=>⟨_,h.kept k hk⟩⟩
theorem LRd.keep {w w':World} {b rb g:Nat} {ks:List Kp} (h:LRd w b rb g ks) (k:Below w.heap.size w w'):LRd w' b rb g ks:=by
 obtain ⟨cs,h1,h2⟩:=h.head
 exact ⟨⟨cs,h1.keep k,h2⟩,h.row.keep k,fun x hx=>by obtain ⟨gn,hg⟩:=h.kept x hx;exact ⟨gn,hg.keep k⟩⟩
theorem LRd.cell0 {w:World} {b rb g:Nat} {ks:List Kp} (h:LRd w b rb g ks):w.cell? ⟨b,0,none⟩=some (.pointer (some ⟨rb,0,none⟩)):=by
 obtain ⟨cs,h1,h2⟩:=h.head;exact h1.cell h2
theorem led_at (b rb g i:Nat) (ks:List Kp) (w:World) (h:LRd w b rb g ks) (hi:i < ks.length):
  Calls Tryz.prog 201 #[.pointer (some ⟨rb,0,none⟩),.int .i64 (i:Int)] w fun e w'=>e=.returned (.tuple #[.pointer (some ⟨(kAt ks i).b,0,none⟩),.bool true])∧Drawn w w':=by
 have:=k_at rb g i (itemsK ks) w h.row (by rw [itemsK_len];exact hi)
 rw [kAt_item hi] at this
 exact this
theorem led_len (b rb g:Nat) (ks:List Kp) (w:World) (h:LRd w b rb g ks):
  Calls Tryz.prog 200 #[.pointer (some ⟨rb,0,none⟩)] w fun e w'=>e=.returned (.int .i64 (ks.length:Int))∧w=w':=by
 have:=k_len rb g (itemsK ks) w h.row
 rw [itemsK_len] at this
 exact this
theorem kcell {W:World} {x:Nat} {T:TypeId} {p:Pk} {gn:Bool} (h:Blk W x T (Kp.cells p gn)):W.cell? ⟨x,0,none⟩=some (.int .u64 (p.n:Int))∧W.cell? ⟨x,1,none⟩=some (.int .u64 (p.size:Int))∧W.cell? ⟨x,2,none⟩=some (.int .u64 (p.sent:Int))∧
  W.cell? ⟨x,3,none⟩=some (.int .u64 (p.first:Int))∧W.cell? ⟨x,4,none⟩=some (.int .u64 (p.deliv:Int))∧W.cell? ⟨x,5,none⟩=some (.int .u64 (p.at_:Int))∧W.cell? ⟨x,6,none⟩=some (.bool p.lim)∧W.cell? ⟨x,7,none⟩=some (.bool gn):=
 ⟨h.cell (i:=0) rfl,h.cell (i:=1) rfl,h.cell (i:=2) rfl,h.cell (i:=3) rfl,h.cell (i:=4) rfl,h.cell (i:=5) rfl,h.cell (i:=6) rfl,h.cell (i:=7) rfl⟩
set_option maxHeartbeats 400000 in
theorem place1 (b rb g bl bn n i:Nat) (ks:List Kp) (w:World) (h:LRd w b rb g ks) (hl:Blk w bl 64 #[.pointer (some ⟨b,0,none⟩)]) (hn:Blk w bn 22 #[.int .u64 (n:Int)]) (hi:i < ks.length):
  Calls Tryz.prog 273 #[.int .i64 (i:Int),.pointer (some ⟨bl,0,none⟩),.pointer (some ⟨bn,0,none⟩)] w fun e w'=>e=.returned (.bool (decide (n≤(kAt ks i).p.n)))∧Drawn w w':=by
 have l0:=hl.cell (i:=0) rfl
 have r0:=h.cell0
 have HA:=Lib.hid (led_at b rb g i ks w h hi)
 obtain ⟨gn,hk⟩:=h.kept _ (kAt_mem hi)
 have HK:=Lib.hid hk
 clear hk
 have HN:=Lib.hid hn
 clear h hl hn hi
 generalize kAt ks i=k at *
 go_enter Tryz.func273,Tryz.ntmps273
 go_wp2_with fail
 refine (HA.out).mono ?_
 rintro e w1 ⟨rfl,hd⟩
 have HD:=Lib.hid hd
 clear hd HA l0 r0
 have n0:=(HD.out.blk HN.out).cell (i:=0) (v:=.int .u64 (n:Int)) rfl
 have k0:=(kcell (HD.out.blk HK.out)).1
 go_wp2_with fail
 go_quiet (fail)
 go_wp2_with fail
 go_ret
 exact ⟨rfl,HD.out.more ⟨nq,rfl⟩⟩
theorem place_any (b rb g n:Nat) (ks:List Kp) (w:World) (h:LRd w b rb g ks) (hs:ks.Pairwise fun x y=>x.p.n < y.p.n) (hlen:ks.length≤6000):
  Calls Tryz.prog 199 #[.pointer (some ⟨b,0,none⟩),.int .u64 (n:Int)] w fun e w'=>e=.returned (.int .i64 ((plc ks n:Nat):Int))∧Below w.heap.size w w':=by
 have W1:Below w.heap.size w ((w.alloc (.cells #[.pointer (some ⟨b,0,none⟩)] 64)).alloc (.cells #[.int .u64 (n:Int)] 22)):=((Below.refl _ _).alloc (Nat.le_refl _) _).alloc (by simp) _
 have h1:=h.keep W1
 have hbl:Blk ((w.alloc (.cells #[.pointer (some ⟨b,0,none⟩)] 64)).alloc (.cells #[.int .u64 (n:Int)] 22)) w.heap.size 64 #[.pointer (some ⟨b,0,none⟩)]:=(Blk.new _ _ _).alloc _
 have hbn:Blk ((w.alloc (.cells #[.pointer (some ⟨b,0,none⟩)] 64)).alloc (.cells #[.int .u64 (n:Int)] 22)) (w.heap.size + 1) 22 #[.int .u64 (n:Int)]:=Blk.new1 _ _ _ _
 have r0:=h1.cell0
 have HL:=Lib.hid (led_len b rb g ks _ h1)
 have HS:Hid (Calls Tryz.prog 272 #[.int .i64 (ks.length:Int),.func (.func 273) #[] #[.pointer (some ⟨w.heap.size,0,none⟩),.pointer (some ⟨w.heap.size + 1,0,none⟩)]] ((w.alloc (.cells #[.pointer (some ⟨b,0,none⟩)] 64)).alloc (.cells #[.int .u64 (n:Int)] 22))
   fun e w'=>e=.returned (.int .i64 ((plc ks n:Nat):Int))∧∃q os,w'=Go.Sort.grow ((((w.alloc (.cells #[.pointer (some ⟨b,0,none⟩)] 64)).alloc (.cells #[.int .u64 (n:Int)] 22))).drewN q) os):=Lib.hid (by
  have:=Any.sort_Search Tryz.searchR 273 #[.pointer (some ⟨w.heap.size,0,none⟩),.pointer (some ⟨w.heap.size + 1,0,none⟩)] ks.length (fun i=>decide (n≤(kAt ks i).p.n)) ((w.alloc (.cells #[.pointer (some ⟨b,0,none⟩)] 64)).alloc (.cells #[.int .u64 (n:Int)] 22))
   (enters_of Tryz.func273 (by kernel_rfl) rfl) (by omega)
   (fun m os i hi=>by
    have B:=below_grown_sl (((w.alloc (.cells #[.pointer (some ⟨b,0,none⟩)] 64)).alloc (.cells #[.int .u64 (n:Int)] 22))).heap.size _ m os (Nat.le_refl _)
    refine (place1 b rb g w.heap.size (w.heap.size + 1) n i ks _ (h1.keep B) (hbl.keep B) (hbn.keep B) hi).mono ?_
    rintro e w' ⟨he,q,rfl⟩
    exact ⟨he,q,#[],by rw [Go.Sort.grow_empty]⟩)
   (fun i j hij hj hp=>by
    have:=kAt_rise hs hij hj
    simp only [decide_eq_true_eq] at hp ⊢;omega)
  exact this)
 clear h h1 hbl hbn hs hlen
 have HW:=Lib.hid W1
 clear W1
 go_enter Tryz.func199,Tryz.ntmps199
 go_wp2_with (go_at_call 200;refine (HL.out).mono ?_;rintro e w' ⟨rfl,rfl⟩)
 refine (HS.out).mono ?_
 rintro e w' ⟨rfl,q,os,rfl⟩
 go_wp2_with fail
 go_ret
 exact ⟨rfl,HW.out.trans (below_grown_sl _ _ q os HW.out.size)⟩
end Go.Proofs.YteoepabmnbkabaaGreatDoor
