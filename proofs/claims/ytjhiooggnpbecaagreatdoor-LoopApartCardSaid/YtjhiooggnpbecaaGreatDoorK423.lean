/- Lemmas. -/
import Derived.Test.YtjhiooggnpbecaaGreatDoorK414
import Derived.Test.YtjhiooggnpbecaaGreatDoorK422
set_option linter.unusedVariables false
set_option maxHeartbeats 400000
namespace Go.Proofs.YtjhiooggnpbecaaGreatDoor
open Tryz
open Go.RowKit
variable {ks:List Kp} {b g i n rb:Nat} {w:World}
def kAt (ks:List Kp) (i:Nat):Kp:=ks.getD i default
theorem qN (h:i < ks.length):kAt ks i∈ks:=by
 unfold kAt;rw [List.getD_eq_getElem?_getD,List.getElem?_eq_getElem h];exact List.getElem_mem h
theorem gT (h:i < ks.length):ks[i]? =some (kAt ks i):=by
 unfold kAt;rw [List.getD_eq_getElem?_getD,List.getElem?_eq_getElem h];rfl
theorem sO (h:i < ks.length):(aP ks).getD i 0=(kAt ks i).b + 1:=by
 unfold aP;rw [List.getD_eq_getElem?_getD,List.getElem?_map,gT h];rfl
theorem dG (ks:List Kp):(aP ks).length=ks.length:=by simp [aP]
theorem kD (h:ks.Pairwise fun x y=>x.p.n < y.p.n) {j:Nat} (hij:i≤j) (hj:j < ks.length):(kAt ks i).p.n≤(kAt ks j).p.n:=by
 rcases Nat.lt_or_ge i j with c | c
 ·have:=List.pairwise_iff_getElem.1 h i j (by omega) hj c
  have e1:=gT (ks:=ks) (i:=i) (by omega);have e2:=gT hj;rw [List.getElem?_eq_getElem (by omega)] at e1;rw [List.getElem?_eq_getElem hj] at e2;injection e1 with e1;injection e2 with e2
  rw [← e1,← e2];omega
 ·obtain rfl:i=j:=by omega
  exact Nat.le_refl _
def plc (ks:List Kp) (n:Nat):Nat:=(List.range ks.length).countP (fun i=>!decide (n≤(kAt ks i).p.n))
theorem E5 (ks:List Kp) (n:Nat):plc ks n≤ks.length:=by
 have:=List.countP_le_length (p:=fun i=>!decide (n≤(kAt ks i).p.n)) (l:=List.range ks.length);simpa [plc] using this
theorem iR (a b:Nat) (h:a≤b):List.range b=List.range a ++ (List.range (b - a)).map (a + ·):=by
 have:=List.range_add (n:=a) (m:=b - a);rwa [Nat.add_sub_cancel' h] at this
theorem zV (h:ks.Pairwise fun x y=>x.p.n < y.p.n) (hi:i < plc ks n):(kAt ks i).p.n < n:=by
 rcases Nat.lt_or_ge (kAt ks i).p.n n with c | c
 ·exact c
 ·exfalso
  have hl:=E5 ks n;have e:plc ks n≤i:=by
   unfold plc;rw [iR i ks.length (by omega),List.countP_append];have z:((List.range (ks.length - i)).map (i + ·)).countP (fun i=>!decide (n≤(kAt ks i).p.n))=0:=by
    rw [List.countP_eq_zero];intro j hj;obtain ⟨k,hk,rfl⟩:=List.mem_map.1 hj;have:=List.mem_range.1 hk;have:=kD h (i:=i) (j:=i + k) (by omega) (by omega);simp;omega
   rw [z];have:=List.countP_le_length (p:=fun i=>!decide (n≤(kAt ks i).p.n)) (l:=List.range i);simpa using this
  omega
theorem zW (h:ks.Pairwise fun x y=>x.p.n < y.p.n) (hi:plc ks n≤i) (hl:i < ks.length):n≤(kAt ks i).p.n:=by
 rcases Nat.lt_or_ge (kAt ks i).p.n n with c | c
 ·exfalso
  have e:i + 1≤plc ks n:=by
   unfold plc;rw [iR (i + 1) ks.length (by omega),List.countP_append];have z:(List.range (i + 1)).countP (fun i=>!decide (n≤(kAt ks i).p.n))=i + 1:=by
    have:=List.countP_eq_length (p:=fun i=>!decide (n≤(kAt ks i).p.n)) (l:=List.range (i + 1));rw [this.2 ?_]
    ·simp
    ·intro j hj
     have:=List.mem_range.1 hj;have:=kD h (i:=j) (j:=i) (by omega) hl;simp;omega
   omega
  omega
 ·exact c
structure LRd (w:World) (b rb g:Nat) (ks:List Kp):Prop where
 head:∃cs,Blk w b 156 cs∧cs[0]? =some (.pointer (some ⟨rb,0,none⟩))
 row:cR w rb g (aP ks)
 kept:∀k∈ks,∃gn,Blk w k.b 208 (Kp.cells k.p gn)
theorem LAt.rd {s:LS} (h:LAt w b rb g s):LRd w b rb g s.ks:=⟨⟨_,h.head,rfl⟩,h.row,fun k hk=>⟨_,h.kept k hk⟩⟩
theorem LRd.keep {w w':World} {b rb g:Nat} {ks:List Kp} (h:LRd w b rb g ks) (k:Below ↑w w w'):LRd w' b rb g ks:=by
 obtain ⟨cs,h1,h2⟩:=h.head;exact ⟨⟨cs,h1.keep k,h2⟩,h.row.keep k,fun x hx=>by obtain ⟨gn,hg⟩:=h.kept x hx;exact ⟨gn,hg.keep k⟩⟩
theorem LRd.cell0 (h:LRd w b rb g ks):w.cell? ⟨b,0,none⟩=some ↑(π rb):=by
 obtain ⟨cs,h1,h2⟩:=h.head;exact h1.cell h2
theorem vB (b rb g i:Nat) (ks:List Kp) (w:World) (h:LRd w b rb g ks) (hi:i < ks.length):
  Calls prog 163 #[↑(π rb),.int .i64 (i:Int)] w fun e w'=>e=.returned (.tuple #[↑(π ((kAt ks i).b)),.bool true])∧aB w w':=by
 have:=PY rb g i (aP ks) w h.row (by rw [dG];exact hi);rw [sO hi] at this;exact this
theorem l9 (b rb g:Nat) (ks:List Kp) (w:World) (h:LRd w b rb g ks):
  Calls prog 162 #[↑(π rb)] w fun e w'=>e=.returned (.int .i64 (ks.length:Int))∧w=w':=by
 have:=MT rb g (aP ks) w h.row;rw [dG] at this;exact this
theorem fH {W:World} {x:Nat} {T:TypeId} {p:Pk} {gn:Bool} (h:Blk W x T (Kp.cells p gn)):W.cell? ⟨x,0,none⟩=some ↑p.n∧W.cell? ⟨x,1,none⟩=some ↑p.size∧W.cell? ⟨x,2,none⟩=some ↑p.sent∧
  W.cell? ⟨x,3,none⟩=some ↑p.first∧W.cell? ⟨x,4,none⟩=some ↑p.deliv∧W.cell? ⟨x,5,none⟩=some ↑p.at_∧W.cell? ⟨x,6,none⟩=some (.bool p.lim)∧W.cell? ⟨x,7,none⟩=some (.bool gn):=
 ⟨h.cell (i:=0) rfl,h.cell (i:=1) rfl,h.cell (i:=2) rfl,h.cell (i:=3) rfl,h.cell (i:=4) rfl,h.cell (i:=5) rfl,h.cell (i:=6) rfl,h.cell (i:=7) rfl⟩
theorem OV (b rb g bl bn n i:Nat) (ks:List Kp) (w:World) (h:LRd w b rb g ks) (hl:Blk w bl 97 #[↑(π b)]) (hn:Blk w bn 22 #[↑n]) (hi:i < ks.length):
  Calls prog 212 #[.int .i64 (i:Int),↑(π bl),↑(π bn)] w fun e w'=>e=.returned (.bool (decide (n≤(kAt ks i).p.n)))∧aB w w':=by
 have l0:=hl.cell (i:=0) rfl;have r0:=h.cell0;have HA:=lh (vB b rb g i ks w h hi);obtain ⟨gn,hk⟩:=h.kept _ (qN hi);have HK:=lh hk;clear hk;have HN:=lh hn;clear h hl hn hi;generalize kAt ks i=k at *;go_enter func212,ntmps212;go_wp2_with fail;refine (HA.out).mono ?_;rintro e w1 ⟨rfl,hd⟩;have HD:=lh hd;clear hd HA l0 r0;have n0:=(HD.out.blk HN.out).cell (i:=0) (v:=↑n) rfl;have k0:=(fH (HD.out.blk HK.out)).1;go_wp2_with fail;go_quiet (fail)
 go_wp2_with fail;go_ret;exact ⟨rfl,HD.out.more ⟨nq,rfl⟩⟩
theorem zX (b rb g n:Nat) (ks:List Kp) (w:World) (h:LRd w b rb g ks) (hs:ks.Pairwise fun x y=>x.p.n < y.p.n) (hlen:ks.length≤6000):
  Calls prog 161 #[↑(π b),↑n] w fun e w'=>e=.returned (.int .i64 ((plc ks n:Nat):Int))∧Below ↑w w w':=by
 have W1:Below ↑w w ((w.alloc (.cells #[↑(π b)] 97)).alloc (.cells #[↑n] 22)):=((Below.refl _ _).alloc (Nat.le_refl _) _).alloc (by simp) _;have h1:=h.keep W1;have hbl:Blk ((w.alloc (.cells #[↑(π b)] 97)).alloc (.cells #[↑n] 22)) w.heap.size 97 #[↑(π b)]:=(Blk.new _ _ _).alloc _;have hbn:Blk ((w.alloc (.cells #[↑(π b)] 97)).alloc (.cells #[↑n] 22)) (w.heap.size + 1) 22 #[↑n]:=Blk.new1 _ _ _ _;have r0:=h1.cell0;have HL:=lh (l9 b rb g ks _ h1);have HS:Hid (Calls prog 211 #[.int .i64 (ks.length:Int),.func (.func 212) #[] #[↑(π w.heap.size),↑(π (w.heap.size + 1))]] ((w.alloc (.cells #[↑(π b)] 97)).alloc (.cells #[↑n] 22))
   fun e w'=>e=.returned (.int .i64 ((plc ks n:Nat):Int))∧∃q os,w'=Go.Sort.grow ((((w.alloc (.cells #[↑(π b)] 97)).alloc (.cells #[↑n] 22))).drewN q) os):=lh (by
  have:=Any.sort_Search Tryz.searchR 212 #[↑(π w.heap.size),↑(π (w.heap.size + 1))] ks.length (fun i=>decide (n≤(kAt ks i).p.n)) ((w.alloc (.cells #[↑(π b)] 97)).alloc (.cells #[↑n] 22))
   (enters_of func212 (by kernel_rfl) rfl) (by omega)
   (fun m os i hi=>by
    have B:=below_grown_sl (((w.alloc (.cells #[↑(π b)] 97)).alloc (.cells #[↑n] 22))).heap.size _ m os (Nat.le_refl _);refine (OV b rb g w.heap.size (w.heap.size + 1) n i ks _ (h1.keep B) (hbl.keep B) (hbn.keep B) hi).mono ?_;rintro e w' ⟨he,q,rfl⟩;exact ⟨he,q,#[],by rw [Go.Sort.grow_empty]⟩)
   (fun i j hij hj hp=>by
    have:=kD hs hij hj;simp only [decide_eq_true_eq] at hp ⊢;omega)
  exact this)
 clear h h1 hbl hbn hs hlen;have HW:=lh W1;clear W1;go_enter func161,ntmps161;go_wp2_with (go_at_call 162;refine (HL.out).mono ?_;rintro e w' ⟨rfl,rfl⟩)
 refine (HS.out).mono ?_;rintro e w' ⟨rfl,q,os,rfl⟩;go_wp2_with fail;go_ret;exact ⟨rfl,HW.out.trans (below_grown_sl _ _ q os HW.out.size)⟩
end Go.Proofs.YtjhiooggnpbecaaGreatDoor
