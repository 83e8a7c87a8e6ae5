/- 2 texts put together: what each one says stands ahead of it. -/
import Derived.Test.YtaffjfajjpgjpaaKLinkPlays04
import Derived.Test.YtaffjfajjpgjpaaKLinkPlays06
import Derived.Deep.RegionHeld3
import Derived.Deep.RegionWith
import Derived.Test.YtaffjfajjpgjpaaKLinkPlays03
set_option linter.unusedVariables false
namespace Go.Proofs.Ytaffjfajjpgjpaa
open Go.RowKit
structure KB where
 n:Nat
 w:Nat
 r:Nat
 t:Nat
namespace KB
def start (r:Nat):KB:=⟨0,0,r,0⟩
def ok (s:KB):Prop:=s.n≤18446744073709551615∧s.w≤18446744073709551615∧s.r≤18446744073709551615∧s.t≤18446744073709551615
def earnS (s:KB) (x:Nat):KB:=⟨Pl.addS s.n x,s.w,s.r,s.t⟩
def toS (s:KB) (now:Nat):KB:=if now≤s.t then s else ⟨Pl.addS s.n (Pl.mulS s.r (now - s.t)),s.w,s.r,now⟩
def spendB (s:KB) (x:Nat):Bool:=decide (x≤s.n)
def spendS (s:KB) (x:Nat):KB:=if x≤s.n then ⟨s.n - x,s.w,s.r,s.t⟩ else s
def takeB (s:KB) (x:Nat):Bool:=s.spendB (Pl.mulS x 1000000)
def takeS (s:KB) (x:Nat):KB:=s.spendS (Pl.mulS x 1000000)
def wasteN (s:KB) (x:Nat):Nat:=min x s.n
def wasteS (s:KB) (x:Nat):KB:=⟨s.n - min x s.n,Pl.addS s.w (min x s.n),s.r,s.t⟩
def cells (s:KB):Array Value:=#[.int .u64 (s.n:Int),.int .u64 (s.w:Int),.int .u64 (s.r:Int),.int .u64 (s.t:Int)]
theorem start_ok {r:Nat} (h:r≤18446744073709551615):(start r).ok:=⟨Nat.zero_le _,Nat.zero_le _,h,Nat.zero_le _⟩
theorem to_ok {s:KB} (h:s.ok) {now:Nat} (hn:now≤18446744073709551615):(s.toS now).ok:=by
 unfold toS
 split
 ·exact h
 ·exact ⟨Pl.addS_le _ _,h.2.1,h.2.2.1,hn⟩
theorem spend_ok {s:KB} (h:s.ok) (x:Nat):(s.spendS x).ok:=by
 unfold spendS
 split
 ·exact ⟨Nat.le_trans (Nat.sub_le _ _) h.1,h.2⟩
 ·exact h
theorem take_ok {s:KB} (h:s.ok) (x:Nat):(s.takeS x).ok:=spend_ok h _
theorem waste_ok {s:KB} (h:s.ok) (x:Nat):(s.wasteS x).ok:=⟨Nat.le_trans (Nat.sub_le _ _) h.1,Pl.addS_le _ _,h.2.2⟩
end KB
structure KPost (w:World) (b:Nat) (r:Value) (s:KB) (e:Ending) (w':World):Prop where
 e:e=.returned r
 blk:Blk w' b 100 s.cells
 gr:w.grownBy w' (some b)
structure KMut (W:World) (b:Nat) (s:KB) (w:World):Prop where
 blk:Blk w b 100 s.cells
 gr:W.grownBy w (some b)
theorem KMut.start {W:World} {b:Nat} {s:KB} (h:Blk W b 100 s.cells):KMut W b s W:=⟨h,gr_refl _ _⟩
theorem KMut.drew {W w:World} {b:Nat} {s:KB} (h:KMut W b s w):KMut W b s w.drew:=⟨h.blk.drew,gr_drew h.gr⟩
theorem KMut.to {W w w':World} {b:Nat} {s:KB} (h:KMut W b s w) (k:Below w.heap.size w w'):KMut W b s w':=⟨h.blk.keep k,gr_trans h.gr (gr_below k _)⟩
theorem KMut.al {W w w':World} {b:Nat} {s:KB} {o:Obj} (h:KMut W b s w) (k:Below (w.alloc o).heap.size (w.alloc o) w'):KMut W b s w':=(h.to (al_be _ _)).to k
theorem KMut.set {W w:World} {b:Nat} {s s':KB} (h:KMut W b s w) (i:Nat) (u:Value) (he:s.cells.setIfInBounds i u=s'.cells):KMut W b s' (w.setCell ⟨b,i,none⟩ u):=
 ⟨he▸h.blk.set i u,gr_set h.gr i u⟩
theorem KMut.post {W w:World} {b:Nat} {s:KB} {v:Value} (h:KMut W b s w):KPost W b v s (.returned v) w:=⟨rfl,h.blk,h.gr⟩
theorem KMut.call {W w w':World} {b:Nat} {s s':KB} {v:Value} {e:Ending} (h:KMut W b s w) (k:KPost w b v s' e w'):KMut W b s' w':=⟨k.blk,gr_trans h.gr k.gr⟩
def KSome (W:World) (b r t:Nat) (w:World):Prop:=∃n z,KMut W b ⟨n,z,r,t⟩ w
theorem ks_of {W w:World} {b n z r t:Nat} (h:Hid (KMut W b ⟨n,z,r,t⟩ w)):Hid (KSome W b r t w):=Lib.hid ⟨n,z,h.out⟩
theorem ks_r {W:World} {b r t:Nat}:(∀w,Hid (KSome W b r t w)→w.cell? ⟨b,2,none⟩=some (.int .u64 (r:Int)))∧(∀w,Hid (KSome W b r t w)→w.cell? ⟨b,3,none⟩=some (.int .u64 (t:Int))):=
 ⟨fun w h=>by obtain ⟨n,z,k⟩:=h.out;exact k.blk.cell rfl,fun w h=>by obtain ⟨n,z,k⟩:=h.out;exact k.blk.cell rfl⟩
theorem bk_New (r:Nat) (w:World):Calls Try.prog 20 #[.int .u64 (r:Int)] w fun e w'=>e=.returned (.pointer (some ⟨w.heap.size,0,none⟩))∧w.alloc (.cells (KB.start r).cells 100)=w':=by
 go_enter Try.func20,Try.ntmps20
 go_wp2
 go_ret
 exact ⟨rfl,rfl⟩
theorem bk_earn (b x:Nat) (s:KB) (W:World) (h:Blk W b 100 s.cells) (ho:s.ok) (hx:x≤18446744073709551615):
  Calls Try.prog 44 #[.pointer (some ⟨b,0,none⟩),.int .u64 (x:Int)] W (KPost W b (.tuple #[]) (s.earnS x)):=by
 have h0:=h.cell (i:=0) (v:=.int .u64 (s.n:Int)) rfl
 have M0:=Lib.hid (KMut.start h)
 have hA:=Lib.hid (add_any s.n x ho.1 hx)
 unfold KB.earnS
 clear h ho hx
 generalize Pl.addS s.n x=z at *
 go_enter Try.func44,Try.ntmps44
 go_wp2_with fail
 refine (hA.out _ _ (nc2 _ _ _ _).1 (nc2 _ _ _ _).2).mono ?_
 rintro e w1 ⟨rfl,hb⟩
 have M1:=Lib.hid (M0.out.al hb)
 have y0:=M1.out.blk.free 0
 have c0:=M1.out.blk.cell (i:=0) (v:=.int .u64 (s.n:Int)) rfl
 have M2:=Lib.hid (M1.out.set (s':=⟨z,s.w,s.r,s.t⟩) 0 (.int .u64 (z:Int)) rfl)
 clear hb
 go_wp2_with fail
 go_end0
 exact M2.out.post
theorem bk_spend (b x:Nat) (s:KB) (W:World) (h:Blk W b 100 s.cells) (ho:s.ok):
  Calls Try.prog 68 #[.pointer (some ⟨b,0,none⟩),.int .u64 (x:Int)] W (KPost W b (.bool (s.spendB x)) (s.spendS x)):=by
 have h0:=h.cell (i:=0) (v:=.int .u64 (s.n:Int)) rfl
 have M0:=Lib.hid (KMut.start h)
 have y0:=h.free 0
 have hn:=ho.1
 unfold KB.spendB KB.spendS
 clear h ho
 by_cases c:x≤s.n
 ·rw [decide_eq_true c,if_pos c]
  have d:decide (s.n < x)=false:=decide_eq_false (by omega)
  have e':(s.n:Int) - (x:Int)=((s.n - x:Nat):Int):=by omega
  have e:IntKind.u64.wrap ((s.n - x:Nat):Int)=((s.n - x:Nat):Int):=by rw [IntKind.wrap_u64];omega
  generalize s.n - x=z at *
  have M2:=Lib.hid (M0.out.set (s':=⟨z,s.w,s.r,s.t⟩) 0 (.int .u64 (z:Int)) rfl)
  clear c hn
  go_enter Try.func68,Try.ntmps68
  go_wp2
  go_ret
  exact M2.out.post
 ·rw [decide_eq_false c,if_neg c]
  have d:decide (s.n < x)=true:=decide_eq_true (by omega)
  clear c hn
  go_enter Try.func68,Try.ntmps68
  go_wp2
  go_ret
  exact M0.out.post
theorem bk_waste_at (b x m:Nat) (s:KB) (W:World) (h:Blk W b 100 s.cells) (ho:s.ok) (hx:x≤18446744073709551615) (hmm:m=x∧x≤s.n∨m=s.n∧s.n < x):
  Calls Try.prog 50 #[.pointer (some ⟨b,0,none⟩),.int .u64 (x:Int)] W (KPost W b (.int .u64 (m:Int)) ⟨s.n - m,Pl.addS s.w m,s.r,s.t⟩):=by
 have h0:=h.cell (i:=0) (v:=.int .u64 (s.n:Int)) rfl
 have h1:=h.cell (i:=1) (v:=.int .u64 (s.w:Int)) rfl
 have M0:=Lib.hid (KMut.start h)
 have y0:=h.free 0
 have hle:m≤s.n:=by omega
 have hn:=ho.1
 have hA:=Lib.hid (add_any s.w m ho.2.1 (by omega))
 have e':(s.n:Int) - (m:Int)=((s.n - m:Nat):Int):=by omega
 have e:IntKind.u64.wrap ((s.n - m:Nat):Int)=((s.n - m:Nat):Int):=by rw [IntKind.wrap_u64];omega
 generalize Pl.addS s.w m=z at *
 generalize s.n - m=y at *
 have M1:=Lib.hid (M0.out.set (s':=⟨y,s.w,s.r,s.t⟩) 0 (.int .u64 (y:Int)) rfl)
 clear h ho hx hle hn
 rcases hmm with ⟨rfl,c⟩ | ⟨rfl,c⟩
 ·have hm:min (m:Int) (s.n:Int)=(m:Int):=by omega
  go_enter Try.func50,Try.ntmps50
  go_wp2_with fail
  refine (hA.out _ _ (new_cell (by simp [World.setCell]) rfl) (new_cell (by simp [World.setCell]) rfl)).mono ?_
  rintro e w1 ⟨rfl,hb⟩
  have M2:=Lib.hid (M1.out.al hb)
  have y1:=M2.out.blk.free 1
  have c1:=M2.out.blk.cell (i:=1) (v:=.int .u64 (s.w:Int)) rfl
  have M3:=Lib.hid (M2.out.set (s':=⟨y,z,s.r,s.t⟩) 1 (.int .u64 (z:Int)) rfl)
  clear hb
  go_wp2_with fail
  go_ret
  exact M3.out.post
 ·have hm:min (x:Int) (s.n:Int)=(s.n:Int):=by omega
  go_enter Try.func50,Try.ntmps50
  go_wp2_with fail
  refine (hA.out _ _ (new_cell (by simp [World.setCell]) rfl) (new_cell (by simp [World.setCell]) rfl)).mono ?_
  rintro e w1 ⟨rfl,hb⟩
  have M2:=Lib.hid (M1.out.al hb)
  have y1:=M2.out.blk.free 1
  have c1:=M2.out.blk.cell (i:=1) (v:=.int .u64 (s.w:Int)) rfl
  have M3:=Lib.hid (M2.out.set (s':=⟨y,z,s.r,s.t⟩) 1 (.int .u64 (z:Int)) rfl)
  clear hb
  go_wp2_with fail
  go_ret
  exact M3.out.post
theorem bk_waste (b x:Nat) (s:KB) (W:World) (h:Blk W b 100 s.cells) (ho:s.ok) (hx:x≤18446744073709551615):
  Calls Try.prog 50 #[.pointer (some ⟨b,0,none⟩),.int .u64 (x:Int)] W (KPost W b (.int .u64 (s.wasteN x:Int)) (s.wasteS x)):=
 bk_waste_at b x (min x s.n) s W h ho hx (by omega)
theorem bk_To (b now:Nat) (s:KB) (W:World) (h:Blk W b 100 s.cells) (ho:s.ok) (hn:now≤18446744073709551615):
  Calls Try.prog 24 #[.pointer (some ⟨b,0,none⟩),.int .u64 (now:Int)] W (KPost W b (.tuple #[]) (s.toS now)):=by
 have h3:=h.cell (i:=3) (v:=.int .u64 (s.t:Int)) rfl
 have M0:=Lib.hid (KMut.start h)
 unfold KB.toS
 by_cases c:now≤s.t
 ·rw [if_pos c]
  have d:decide (now≤s.t)=true:=decide_eq_true c
  clear h ho hn c
  go_enter Try.func24,Try.ntmps24
  go_wp2
  exact bodyPost_ret (v:=.tuple #[]) (by simp [results,Try.results24,go_sem]) rfl M0.out.post
 ·rw [if_neg c]
  have d:decide (now≤s.t)=false:=decide_eq_false c
  have hw:(now:Int) - (s.t:Int)=((now - s.t:Nat):Int):=by omega
  have hww:IntKind.u64.wrap ((now - s.t:Nat):Int)=((now - s.t:Nat):Int):=by rw [IntKind.wrap_u64];omega
  have HM:=Lib.hid (fun w=>fix_Mul_n s.r (now - s.t) w ho.2.2.1 (by omega))
  have HE:Hid (∀w,KMut W b s w→Calls Try.prog 44 #[.pointer (some ⟨b,0,none⟩),.int .u64 ((Pl.mulS s.r (now - s.t):Nat):Int)] w fun e w'=>e=.returned (.tuple #[])∧Hid (KMut W b ⟨Pl.addS s.n (Pl.mulS s.r (now - s.t)),s.w,s.r,s.t⟩ w')):=
   Lib.hid (fun w k=>(bk_earn b _ s w k.blk ho (Pl.mulS_le _ _)).mono fun e w' q=>⟨q.e,Lib.hid (k.call q)⟩)
  have M1:=Lib.hid M0.out.drew
  obtain ⟨r2,r3⟩:=ks_r (W:=W) (b:=b) (r:=s.r) (t:=s.t)
  generalize Pl.addS s.n (Pl.mulS s.r (now - s.t))=z at *
  generalize Pl.mulS s.r (now - s.t)=y at *
  generalize hl:now - s.t=l at *
  clear h ho hn c hl
  go_enter Try.func24,Try.ntmps24
  go_wp2_with fail
  clear h3
  go_region_held3 (fun w'=>Hid (KSome W b s.r s.t w'))
   (first | exact ks_of M1 | assumption)
   (first
    | (go_at_call 45;(refine (HM.out _).mono ?_);rintro e w' ⟨rfl,rfl⟩)
    | (go_at_call 44;(refine (HE.out _ (Hid.out (by assumption))).mono ?_);rintro e w' ⟨rfl,M2⟩;have S2:=ks_of M2))
  all_goals
   have M2:=(‹Hid (KMut W b ⟨z,s.w,s.r,s.t⟩ _)›)
   have y3:=M2.out.blk.free 3
   have c3:=M2.out.blk.cell (i:=3) (v:=.int .u64 (s.t:Int)) rfl
   have M3:=Lib.hid (M2.out.set (s':=⟨z,s.w,s.r,now⟩) 3 (.int .u64 (now:Int)) rfl)
   clear r2 r3
   go_wp2_with fail
   go_end0
   exact M3.out.post
theorem bk_Take (b x:Nat) (s:KB) (W:World) (h:Blk W b 100 s.cells) (ho:s.ok) (hx:x≤18446744073709551615):
  Calls Try.prog 46 #[.pointer (some ⟨b,0,none⟩),.int .u64 (x:Int)] W (KPost W b (.bool (s.takeB x)) (s.takeS x)):=by
 have M0:=Lib.hid (KMut.start h).drew
 have HM:Hid (∀w,Calls Try.prog 45 #[.int .u64 (x:Int),.int .u64 1000000] w fun e w'=>e=.returned (.int .u64 ((Pl.mulS x 1000000:Nat):Int))∧w=w'):=Lib.hid (fun w=>fix_Mul_n x 1000000 w hx (by omega))
 have HE:Hid (∀w,KMut W b s w→Calls Try.prog 68 #[.pointer (some ⟨b,0,none⟩),.int .u64 ((Pl.mulS x 1000000:Nat):Int)] w fun e w'=>e=.returned (.bool (s.takeB x))∧Hid (KMut W b (s.takeS x) w')):=
  Lib.hid (fun w k=>(bk_spend b _ s w k.blk ho).mono fun e w' q=>⟨q.e,Lib.hid (k.call q)⟩)
 clear h ho hx
 generalize s.takeB x=r at *
 generalize s.takeS x=s' at *
 generalize Pl.mulS x 1000000=m at *
 go_enter Try.func46,Try.ntmps46
 go_wp2_with fail
 go_region_held3 (fun w'=>Hid (∃s,KMut W b s w'))
  (first | exact Lib.hid ⟨_,M0.out⟩ | assumption)
  (first
   | (go_at_call 45;(refine (HM.out _).mono ?_);rintro e w' ⟨rfl,rfl⟩)
   | (go_at_call 68;(refine (HE.out _ (Hid.out (by assumption))).mono ?_);rintro e w' ⟨rfl,M2⟩;have S2:Hid (∃s,KMut W b s w'):=Lib.hid ⟨_,M2.out⟩))
 all_goals
  have M2:=(‹Hid (KMut W b s' _)›)
  go_wp2_with fail
  go_ret
  exact M2.out.post
theorem bk_Waste (b x:Nat) (s:KB) (W:World) (h:Blk W b 100 s.cells) (ho:s.ok) (hx:x≤18446744073709551615):
  Calls Try.prog 27 #[.pointer (some ⟨b,0,none⟩),.int .u64 (x:Int)] W (KPost W b (.int .u64 (s.wasteN x:Int)) (s.wasteS x)):=by
 have HE:=Lib.hid (bk_waste b x s W h ho hx)
 generalize s.wasteN x=r at *
 generalize s.wasteS x=s' at *
 clear h ho hx
 go_enter Try.func27,Try.ntmps27
 go_wp2_with fail
 refine HE.out.mono ?_
 rintro e w' k
 obtain rfl:=k.e
 have K:=Lib.hid k
 clear k
 go_wp2_with fail
 go_ret
 exact K.out
theorem bk_Tokens (b:Nat) (s:KB) (w:World) (h:Blk w b 100 s.cells):
  Calls Try.prog 62 #[.pointer (some ⟨b,0,none⟩)] w fun e w'=>e=.returned (.int .u64 (s.n:Int))∧w=w':=by
 have h0:=h.cell (i:=0) (v:=.int .u64 (s.n:Int)) rfl
 clear h
 go_enter Try.func62,Try.ntmps62
 go_wp2
 go_ret
 exact ⟨rfl,rfl⟩
theorem bk_Wasted (b:Nat) (s:KB) (w:World) (h:Blk w b 100 s.cells):
  Calls Try.prog 63 #[.pointer (some ⟨b,0,none⟩)] w fun e w'=>e=.returned (.int .u64 (s.w:Int))∧w=w':=by
 have h1:=h.cell (i:=1) (v:=.int .u64 (s.w:Int)) rfl
 clear h
 go_enter Try.func63,Try.ntmps63
 go_wp2
 go_ret
 exact ⟨rfl,rfl⟩
end Go.Proofs.Ytaffjfajjpgjpaa

set_option linter.unusedVariables false
namespace Go.Proofs.Ytaffjfajjpgjpaa
open Go.RowKit
structure KAt (cs:Array Value) (o:Nat) (s:KB):Prop where
 r:cs[o]? =some (.int .u64 (s.r:Int))
 t:cs[o + 1]? =some (.int .u64 (s.t:Int))
 n:cs[o + 2]? =some (.int .u64 (s.n:Int))
 w:cs[o + 3]? =some (.int .u64 (s.w:Int))
def putK (cs:Array Value) (o:Nat) (s:KB):Array Value:=((cs.setIfInBounds (o + 1) (.int .u64 (s.t:Int))).setIfInBounds (o + 2) (.int .u64 (s.n:Int))).setIfInBounds (o + 3) (.int .u64 (s.w:Int))
theorem set_same {cs:Array Value} {i:Nat} {v:Value} (h:cs[i]? =some v):cs.setIfInBounds i v=cs:=by
 obtain ⟨hlt,he⟩:=Array.getElem?_eq_some_iff.1 h
 apply Array.ext
 ·simp
 ·intro k h1 h2
  rw [Array.getElem_setIfInBounds]
  split
  ·next e=>subst e;exact he.symm
  ·rfl
theorem KAt.same {cs:Array Value} {o:Nat} {s:KB} (h:KAt cs o s):putK cs o s=cs:=by
 unfold putK;rw [set_same h.t,set_same h.n,set_same h.w]
theorem KAt.set2 {cs:Array Value} {o:Nat} {s:KB} (h:KAt cs o s) (n:Nat):cs.setIfInBounds (o + 2) (.int .u64 (n:Int))=putK cs o ⟨n,s.w,s.r,s.t⟩:=by
 unfold putK
 rw [set_same h.t]
 refine (set_same ?_).symm
 rw [Array.getElem?_setIfInBounds,if_neg (by omega)]
 exact h.w
theorem KAt.set21 {cs:Array Value} {o:Nat} {s:KB} (h:KAt cs o s) (n t:Nat):(cs.setIfInBounds (o + 2) (.int .u64 (n:Int))).setIfInBounds (o + 1) (.int .u64 (t:Int))=putK cs o ⟨n,s.w,s.r,t⟩:=by
 unfold putK
 rw [Array.setIfInBounds_comm _ _ (by omega)]
 refine (set_same ?_).symm
 rw [Array.getElem?_setIfInBounds,if_neg (by omega),Array.getElem?_setIfInBounds,if_neg (by omega)]
 exact h.w
theorem KAt.set23 {cs:Array Value} {o:Nat} {s:KB} (h:KAt cs o s) (n w:Nat):(cs.setIfInBounds (o + 2) (.int .u64 (n:Int))).setIfInBounds (o + 3) (.int .u64 (w:Int))=putK cs o ⟨n,w,s.r,s.t⟩:=by
 unfold putK
 rw [set_same h.t]
theorem KAt.put {cs:Array Value} {o:Nat} {s s':KB} (h:KAt cs o s) (hr:s'.r=s.r):KAt (putK cs o s') o s':=by
 have b1:=(Array.getElem?_eq_some_iff.1 h.t).1
 have b2:=(Array.getElem?_eq_some_iff.1 h.n).1
 have b3:=(Array.getElem?_eq_some_iff.1 h.w).1
 unfold putK
 refine ⟨?_,?_,?_,?_⟩
 ·simp only [Array.getElem?_setIfInBounds,Array.size_setIfInBounds]
  rw [if_neg (by omega),if_neg (by omega),if_neg (by omega),hr]
  exact h.r
 ·simp only [Array.getElem?_setIfInBounds,Array.size_setIfInBounds]
  rw [if_neg (by omega),if_neg (by omega),if_pos trivial,if_pos b1]
 ·simp only [Array.getElem?_setIfInBounds,Array.size_setIfInBounds]
  rw [if_neg (by omega),if_pos trivial,if_pos b2]
 ·simp only [Array.getElem?_setIfInBounds,Array.size_setIfInBounds]
  rw [if_pos trivial,if_pos b3]
structure KQ (w:World) (b:Nat) (T:TypeId) (cs:Array Value) (o:Nat) (r:Value) (s:KB) (e:Ending) (w':World):Prop where
 e:e=.returned r
 blk:Blk w' b T (putK cs o s)
 gr:w.grownBy w' (some b)
structure KXo (W:World) (b:Nat) (T:TypeId) (cs:Array Value) (o:Nat) (s:KB) (n:Nat) (w:World):Prop where
 blk:Blk w b T (cs.setIfInBounds (o + 2) (.int .u64 (n:Int)))
 gr:W.grownBy w (some b)
 k:KAt cs o s
theorem KXo.cells {W w:World} {b o n:Nat} {T:TypeId} {cs:Array Value} {s:KB} (h:KXo W b T cs o s n w):w.cell? ⟨b,o,none⟩=some (.int .u64 (s.r:Int))∧w.cell? ⟨b,o + 1,none⟩=some (.int .u64 (s.t:Int))∧w.cell? ⟨b,o + 2,none⟩=some (.int .u64 (n:Int)):=by
 have b2:=(Array.getElem?_eq_some_iff.1 h.k.n).1
 refine ⟨h.blk.cell ?_,h.blk.cell ?_,h.blk.cell ?_⟩
 ·rw [Array.getElem?_setIfInBounds,if_neg (by omega)];exact h.k.r
 ·rw [Array.getElem?_setIfInBounds,if_neg (by omega)];exact h.k.t
 ·rw [Array.getElem?_setIfInBounds,if_pos rfl,if_pos b2]
theorem KXo.start {W:World} {b o:Nat} {T:TypeId} {cs:Array Value} {s:KB} (h:Blk W b T cs) (hk:KAt cs o s):KXo W b T cs o s s.n W.drew:=⟨by rw [set_same hk.n];exact h.drew,gr_drew (gr_refl _ _),hk⟩
theorem KXo.set {W w:World} {b o n:Nat} {T:TypeId} {cs:Array Value} {s:KB} (h:KXo W b T cs o s n w) (z:Nat):KXo W b T cs o s z (w.setCell ⟨b,o + 2,none⟩ (.int .u64 (z:Int))):=by
 refine ⟨?_,gr_set h.gr _ _,h.k⟩
 have:=h.blk.set (o + 2) (.int .u64 (z:Int))
 rwa [Array.setIfInBounds_setIfInBounds] at this
theorem KXo.done {W w:World} {b o n:Nat} {T:TypeId} {cs:Array Value} {s:KB} (h:KXo W b T cs o s n w) (t:Nat):KQ W b T cs o (.tuple #[]) ⟨n,s.w,s.r,t⟩ (.returned (.tuple #[])) (w.setCell ⟨b,o + 1,none⟩ (.int .u64 (t:Int))):=
 ⟨rfl,by have:=h.blk.set (o + 1) (.int .u64 (t:Int));rwa [h.k.set21] at this,gr_set h.gr _ _⟩
def KSo (W:World) (b:Nat) (T:TypeId) (cs:Array Value) (o:Nat) (s:KB) (w:World):Prop:=∃n,KXo W b T cs o s n w
theorem kso_of {W w:World} {b o n:Nat} {T:TypeId} {cs:Array Value} {s:KB} (h:Hid (KXo W b T cs o s n w)):Hid (KSo W b T cs o s w):=Lib.hid ⟨n,h.out⟩
theorem kso_r {W:World} {b o:Nat} {T:TypeId} {cs:Array Value} {s:KB}:(∀w,Hid (KSo W b T cs o s w)→w.cell? ⟨b,o,none⟩=some (.int .u64 (s.r:Int)))∧(∀w,Hid (KSo W b T cs o s w)→w.cell? ⟨b,o + 1,none⟩=some (.int .u64 (s.t:Int))):=
 ⟨fun w h=>by obtain ⟨n,k⟩:=h.out;exact k.cells.1,fun w h=>by obtain ⟨n,k⟩:=h.out;exact k.cells.2.1⟩
theorem rk_To (b o now:Nat) (T:TypeId) (cs:Array Value) (s:KB) (W:World) (h:Blk W b T cs) (hk:KAt cs o s) (ho:s.ok) (hn:now≤18446744073709551615):
  Calls Try.prog 52 #[.pointer (some ⟨b,o,none⟩),.int .u64 (now:Int)] W (KQ W b T cs o (.tuple #[]) (s.toS now)):=by
 have c1:=h.cell hk.t
 unfold KB.toS
 by_cases c:now≤s.t
 ·rw [if_pos c]
  have d:decide (s.t < now)=false:=decide_eq_false (by omega)
  have HH:=Lib.hid (show Blk W b T (putK cs o s) by rw [hk.same];exact h)
  clear h hk ho hn c
  go_enter Try.func52,Try.ntmps52
  go_wp2
  go_end0
  exact ⟨rfl,HH.out,gr_refl _ _⟩
 ·rw [if_neg c]
  have d:decide (s.t < now)=true:=decide_eq_true (by omega)
  have hw:(now:Int) - (s.t:Int)=((now - s.t:Nat):Int):=by omega
  have hww:IntKind.u64.wrap ((now - s.t:Nat):Int)=((now - s.t:Nat):Int):=by rw [IntKind.wrap_u64];omega
  have HX:=Lib.hid (fun w=>ref_Mul s.r (now - s.t) w ho.2.2.1 (by omega))
  have HY:=Lib.hid (fun w=>ref_Add s.n (Pl.mulS s.r (now - s.t)) w ho.1 (Pl.mulS_le _ _))
  have K0:=Lib.hid (KXo.start h hk)
  obtain ⟨r0,r1⟩:=kso_r (W:=W) (b:=b) (T:=T) (cs:=cs) (o:=o) (s:=s)
  generalize Pl.addS s.n (Pl.mulS s.r (now - s.t))=y at *
  generalize Pl.mulS s.r (now - s.t)=x at *
  generalize hl:now - s.t=l at *
  clear h hk ho hn c hl
  go_enter Try.func52,Try.ntmps52
  go_wp2_with fail
  clear c1
  skip
  refine wp_region_held_drew (S:=(fun w'=>Hid (KSo W b T cs o s w'))) (by kernel_rfl) (kso_of K0) (fun hHeld=>?_)
  generalize W.drew=w0 at *
  simp only [List.size_toArray,List.length_cons,List.length_nil,Nat.reduceAdd,Array.replicate_succ,Array.replicate_zero,List.push_toArray,List.nil_append,List.cons_append]
  refine wpAnyH_take (i:=0) (oi:=⟨some 10,_,_,_,_,_⟩) (v:=?v1) rfl (by kernel_rfl) (by kernel_rfl) (by kernel_rfl) (fun _ _ _ h=>h) (Or.inl ⟨by rfl,?y1⟩) (by assumption) ?r1
  case y1=>intro w hSw;clear hSw;go_simp;(try with_reducible rfl)
  simp only [Act.put,List.setIfInBounds_toArray,List.set_cons_zero,List.set_cons_succ]
  refine wpAnyH_take (i:=1) (oi:=⟨some 11,_,_,_,_,_⟩) (v:=?v2) rfl (by kernel_rfl) (by kernel_rfl) (by kernel_rfl) (fun _ _ _ h=>h) (Or.inl ⟨by rfl,?y2⟩) (by assumption) ?r2
  case y2=>intro w hSw;clear hSw;go_simp;(try with_reducible rfl)
  simp only [Act.put,List.setIfInBounds_toArray,List.set_cons_zero,List.set_cons_succ]
  refine wpAnyH_take (i:=2) (oi:=⟨some 12,_,_,_,_,_⟩) (v:=?v3) rfl (by kernel_rfl) (by kernel_rfl) (by kernel_rfl) (fun _ _ _ h=>h) (Or.inl ⟨by rfl,?y3⟩) (by assumption) ?r3
  case y3=>intro w hSw;clear hSw;go_simp;(try with_reducible rfl)
  simp only [Act.put,List.setIfInBounds_toArray,List.set_cons_zero,List.set_cons_succ]
  refine wpAnyH_take (i:=3) (oi:=⟨some 13,_,_,_,_,_⟩) (v:=?v4) rfl (by kernel_rfl) (by kernel_rfl) (by kernel_rfl) (fun _ _ _ h=>h) (Or.inl ⟨by rfl,?y4⟩) (by assumption) ?r4
  case y4=>intro w hSw;clear hSw;go_simp;(try with_reducible rfl)
  simp only [Act.put,List.setIfInBounds_toArray,List.set_cons_zero,List.set_cons_succ]
  refine wpAnyH_take (i:=5) (oi:=⟨some 15,_,_,_,_,_⟩) (v:=?v5) rfl (by kernel_rfl) (by kernel_rfl) (by kernel_rfl) (fun _ _ _ h=>h) (Or.inl ⟨by rfl,?y5⟩) (by assumption) ?r5
  case y5=>intro w hSw;clear hSw;go_simp;(try with_reducible rfl)
  simp only [Act.put,List.setIfInBounds_toArray,List.set_cons_zero,List.set_cons_succ]
  refine wpAnyH_take (i:=6) (oi:=⟨some 16,_,_,_,_,_⟩) (v:=?v6) rfl (by kernel_rfl) (by kernel_rfl) (by kernel_rfl) (fun _ _ _ h=>h) (Or.inl ⟨by rfl,?y6⟩) (by assumption) ?r6
  case y6=>intro w hSw;clear hSw;go_simp;(try with_reducible rfl)
  simp only [Act.put,List.setIfInBounds_toArray,List.set_cons_zero,List.set_cons_succ]
  refine wpAnyH_take (i:=7) (oi:=⟨some 17,_,_,_,_,_⟩) (v:=?v7) rfl (by kernel_rfl) (by kernel_rfl) (by kernel_rfl) (fun _ _ _ h=>h) (Or.inl ⟨by rfl,?y7⟩) (by assumption) ?r7
  case y7=>intro w hSw;clear hSw;go_simp;(try with_reducible rfl)
  simp only [Act.put,List.setIfInBounds_toArray,List.set_cons_zero,List.set_cons_succ]
  refine wpAnyH_take (i:=8) (oi:=⟨some 18,_,_,_,_,_⟩) (v:=?v8) rfl (by kernel_rfl) (by kernel_rfl) (by kernel_rfl) (fun _ _ _ h=>h) (Or.inl ⟨by rfl,?y8⟩) (by assumption) ?r8
  case y8=>intro w hSw;skip;go_simp;(try with_reducible rfl)
  simp only [Act.put,List.setIfInBounds_toArray,List.set_cons_zero,List.set_cons_succ]
  refine wpAnyH_take (i:=9) (oi:=⟨some 19,_,_,_,_,_⟩) (v:=?v9) rfl (by kernel_rfl) (by kernel_rfl) (by kernel_rfl) (fun _ _ _ h=>h) (Or.inl ⟨by rfl,?y9⟩) (by assumption) ?r9
  case y9=>intro w hSw;clear hSw;go_simp;(try with_reducible rfl)
  simp only [Act.put,List.setIfInBounds_toArray,List.set_cons_zero,List.set_cons_succ]
  refine wpAnyH_take (i:=10) (oi:=⟨some 20,_,_,_,_,_⟩) (v:=?v10) rfl (by kernel_rfl) (by kernel_rfl) (by kernel_rfl) (fun _ _ _ h=>h) (Or.inl ⟨by rfl,?y10⟩) (by assumption) ?r10
  case y10=>intro w hSw;clear hSw;go_simp;(try with_reducible rfl)
  simp only [Act.put,List.setIfInBounds_toArray,List.set_cons_zero,List.set_cons_succ]
  refine wpAnyH_take (i:=11) (oi:=⟨some 21,_,_,_,_,_⟩) (v:=?v11) rfl (by kernel_rfl) (by kernel_rfl) (by kernel_rfl) (fun _ _ _ h=>h) (Or.inl ⟨by rfl,?y11⟩) (by assumption) ?r11
  case y11=>intro w hSw;clear hSw;go_simp;(try with_reducible rfl)
  simp only [Act.put,List.setIfInBounds_toArray,List.set_cons_zero,List.set_cons_succ]
  refine wpAnyH_take (i:=12) (oi:=⟨some 22,_,_,_,_,_⟩) (v:=?v12) rfl (by kernel_rfl) (by kernel_rfl) (by kernel_rfl) (fun _ _ _ h=>h) (Or.inl ⟨by rfl,?y12⟩) (by assumption) ?r12
  case y12=>intro w hSw;clear hSw;go_simp;(try with_reducible rfl)
  simp only [Act.put,List.setIfInBounds_toArray,List.set_cons_zero,List.set_cons_succ]
  refine wpAnyH_take (i:=13) (oi:=⟨some 23,_,_,_,_,_⟩) (v:=?v13) rfl (by kernel_rfl) (by kernel_rfl) (by kernel_rfl) (fun _ _ _ h=>h) (Or.inl ⟨by rfl,?y13⟩) (by assumption) ?r13
  case y13=>intro w hSw;skip;go_simp;(try with_reducible rfl)
  simp only [Act.put,List.setIfInBounds_toArray,List.set_cons_zero,List.set_cons_succ]
  refine wpAnyH_take (i:=14) (oi:=⟨some 24,_,_,_,_,_⟩) (v:=?v14) rfl (by kernel_rfl) (by kernel_rfl) (by kernel_rfl) (fun _ _ _ h=>h) (Or.inl ⟨by rfl,?y14⟩) (by assumption) ?r14
  case y14=>intro w hSw;clear hSw;go_simp;(try with_reducible rfl)
  simp only [Act.put,List.setIfInBounds_toArray,List.set_cons_zero,List.set_cons_succ]
  refine wpAnyH_ready (rs:=[4,15]) (by kernel_rfl) (by simp) ?_
  refine AllReadyH.cons (o:=⟨some 14,_,_,_,_,_⟩) rfl (fun K hK=>?_) ?_
  ·have c2:=(Hid.out (by assumption):KXo W b T cs o s s.n _).cells.2.2
   go_simp
   refine hK.out _ _ hHeld (fun hHeld=>?_)
   clear hK
   try simp only [List.setIfInBounds_toArray,List.set_cons_zero,List.set_cons_succ]
   refine wpAnyH_ready (rs:=[15]) (by kernel_rfl) (by simp) ?_
   refine AllReadyH.cons (o:=⟨some 25,_,_,_,_,_⟩) rfl (fun K hK=>?_) AllReadyH.nil
   go_simp
   refine (HX.out _).mono ?_
   rintro e w2 ⟨rfl,rfl⟩
   go_wp2_with fail
   refine hK.out _ _ hHeld (fun hHeld=>?_)
   clear hK
   try simp only [List.setIfInBounds_toArray,List.set_cons_zero,List.set_cons_succ]
   refine wpAnyH_ready (rs:=[16]) (by kernel_rfl) (by simp) ?_
   refine AllReadyH.cons (o:=⟨some 26,_,_,_,_,_⟩) rfl (fun K hK=>?_) AllReadyH.nil
   go_simp
   refine (HY.out _).mono ?_
   rintro e w3 ⟨rfl,rfl⟩
   go_wp2_with fail
   refine hK.out _ _ hHeld (fun hHeld=>?_)
   clear hK
   try simp only [List.setIfInBounds_toArray,List.set_cons_zero,List.set_cons_succ]
   refine wpAnyH_take (i:=17) (oi:=⟨some 27,_,_,_,_,_⟩) (v:=?v15) rfl (by kernel_rfl) (by kernel_rfl) (by kernel_rfl) (fun _ _ _ h=>h) (Or.inl ⟨by rfl,?y15⟩) (by assumption) ?r15
   case y15=>intro w hSw;clear hSw;go_simp;(try with_reducible rfl)
   simp only [Act.put,List.setIfInBounds_toArray,List.set_cons_zero,List.set_cons_succ]
   refine wpAnyH_take (i:=18) (oi:=⟨some 28,_,_,_,_,_⟩) (v:=?v16) rfl (by kernel_rfl) (by kernel_rfl) (by kernel_rfl) (fun _ _ _ h=>h) (Or.inl ⟨by rfl,?y16⟩) (by assumption) ?r16
   case y16=>intro w hSw;clear hSw;go_simp;(try with_reducible rfl)
   simp only [Act.put,List.setIfInBounds_toArray,List.set_cons_zero,List.set_cons_succ]
   refine wpAnyH_ready (rs:=[19]) (by kernel_rfl) (by simp) ?_
   refine AllReadyH.cons (o:=⟨none,_,_,_,_,_⟩) rfl (fun K hK=>?_) AllReadyH.nil
   have g0:=(Hid.out (by assumption):KXo W b T cs o s s.n _)
   have g1:=g0.cells.2.2
   have g2:=g0.blk.free (o + 2)
   have M2:=Lib.hid (g0.set y)
   clear g0
   go_simp
   refine hK.out _ _ (kso_of M2) (fun hHeld=>?_)
   clear hK
   try simp only [List.setIfInBounds_toArray,List.set_cons_zero,List.set_cons_succ]
   refine wpAnyH_done (by kernel_rfl) ?_ _
   have g1:=M2.out.cells.2.1
   have g2:=M2.out.blk.free (o + 1)
   have M3:=Lib.hid (M2.out.done now)
   go_wp2_with fail
   go_end0
   exact M3.out
  refine AllReadyH.cons (o:=⟨some 25,_,_,_,_,_⟩) rfl (fun K hK=>?_) AllReadyH.nil
  go_simp
  refine (HX.out _).mono ?_
  rintro e w2 ⟨rfl,rfl⟩
  go_wp2_with fail
  refine hK.out _ _ hHeld (fun hHeld=>?_)
  clear hK
  try simp only [List.setIfInBounds_toArray,List.set_cons_zero,List.set_cons_succ]
  refine wpAnyH_ready (rs:=[4]) (by kernel_rfl) (by simp) ?_
  refine AllReadyH.cons (o:=⟨some 14,_,_,_,_,_⟩) rfl (fun K hK=>?_) AllReadyH.nil
  have c2:=(Hid.out (by assumption):KXo W b T cs o s s.n _).cells.2.2
  go_simp
  refine hK.out _ _ hHeld (fun hHeld=>?_)
  clear hK
  try simp only [List.setIfInBounds_toArray,List.set_cons_zero,List.set_cons_succ]
  refine wpAnyH_ready (rs:=[16]) (by kernel_rfl) (by simp) ?_
  refine AllReadyH.cons (o:=⟨some 26,_,_,_,_,_⟩) rfl (fun K hK=>?_) AllReadyH.nil
  go_simp
  refine (HY.out _).mono ?_
  rintro e w3 ⟨rfl,rfl⟩
  go_wp2_with fail
  refine hK.out _ _ hHeld (fun hHeld=>?_)
  clear hK
  try simp only [List.setIfInBounds_toArray,List.set_cons_zero,List.set_cons_succ]
  refine wpAnyH_take (i:=17) (oi:=⟨some 27,_,_,_,_,_⟩) (v:=?v17) rfl (by kernel_rfl) (by kernel_rfl) (by kernel_rfl) (fun _ _ _ h=>h) (Or.inl ⟨by rfl,?y17⟩) (by assumption) ?r17
  case y17=>intro w hSw;clear hSw;go_simp;(try with_reducible rfl)
  simp only [Act.put,List.setIfInBounds_toArray,List.set_cons_zero,List.set_cons_succ]
  refine wpAnyH_take (i:=18) (oi:=⟨some 28,_,_,_,_,_⟩) (v:=?v18) rfl (by kernel_rfl) (by kernel_rfl) (by kernel_rfl) (fun _ _ _ h=>h) (Or.inl ⟨by rfl,?y18⟩) (by assumption) ?r18
  case y18=>intro w hSw;clear hSw;go_simp;(try with_reducible rfl)
  simp only [Act.put,List.setIfInBounds_toArray,List.set_cons_zero,List.set_cons_succ]
  refine wpAnyH_ready (rs:=[19]) (by kernel_rfl) (by simp) ?_
  refine AllReadyH.cons (o:=⟨none,_,_,_,_,_⟩) rfl (fun K hK=>?_) AllReadyH.nil
  have g0:=(Hid.out (by assumption):KXo W b T cs o s s.n _)
  have g1:=g0.cells.2.2
  have g2:=g0.blk.free (o + 2)
  have M2:=Lib.hid (g0.set y)
  clear g0
  go_simp
  refine hK.out _ _ (kso_of M2) (fun hHeld=>?_)
  clear hK
  try simp only [List.setIfInBounds_toArray,List.set_cons_zero,List.set_cons_succ]
  refine wpAnyH_done (by kernel_rfl) ?_ _
  have g1:=M2.out.cells.2.1
  have g2:=M2.out.blk.free (o + 1)
  have M3:=Lib.hid (M2.out.done now)
  go_wp2_with fail
  go_end0
  exact M3.out
theorem rk_Take (b o x:Nat) (T:TypeId) (cs:Array Value) (s:KB) (W:World) (h:Blk W b T cs) (hk:KAt cs o s) (ho:s.ok) (hx:x≤18446744073709551615):
  Calls Try.prog 53 #[.pointer (some ⟨b,o,none⟩),.int .u64 (x:Int)] W (KQ W b T cs o (.bool (s.takeB x)) (s.takeS x)):=by
 have c2:=h.cell hk.n
 have f2:=h.free (o + 2)
 have HM:Hid (∀w,Calls Try.prog 73 #[.int .u64 (x:Int),.int .u64 1000000] w fun e w'=>e=.returned (.int .u64 ((Pl.mulS x 1000000:Nat):Int))∧w=w'):=Lib.hid (fun w=>ref_Mul x 1000000 w hx (by omega))
 have hs:=ho.1
 have HS:=Lib.hid (show Blk W b T (putK cs o s) by rw [hk.same];exact h)
 have HH:Hid (∀z:Nat,Blk (W.setCell ⟨b,o + 2,none⟩ (.int .u64 (z:Int))) b T (putK cs o ⟨z,s.w,s.r,s.t⟩)):=Lib.hid (fun z=>by rw [← hk.set2];exact h.set (o + 2) _)
 unfold KB.takeB KB.takeS KB.spendB KB.spendS
 clear h hk ho hx
 by_cases c:Pl.mulS x 1000000≤s.n
 ·rw [decide_eq_true c,if_pos c]
  have d:decide (s.n < Pl.mulS x 1000000)=false:=decide_eq_false (by omega)
  have e:IntKind.u64.wrap ((s.n - Pl.mulS x 1000000:Nat):Int)=((s.n - Pl.mulS x 1000000:Nat):Int):=by rw [IntKind.wrap_u64];omega
  have e':(s.n:Int) - ((Pl.mulS x 1000000:Nat):Int)=((s.n - Pl.mulS x 1000000:Nat):Int):=by omega
  generalize s.n - Pl.mulS x 1000000=z at *
  generalize Pl.mulS x 1000000=m at *
  clear c hs
  go_enter Try.func53,Try.ntmps53
  go_wp2_with (go_at_call 73;(refine (HM.out _).mono ?_);rintro e w' ⟨rfl,rfl⟩)
  go_ret
  exact ⟨rfl,HH.out _,gr_set (gr_refl _ _) _ _⟩
 ·rw [decide_eq_false c,if_neg c]
  have d:decide (s.n < Pl.mulS x 1000000)=true:=decide_eq_true (by omega)
  generalize Pl.mulS x 1000000=m at *
  clear c hs
  go_enter Try.func53,Try.ntmps53
  go_wp2_with (go_at_call 73;(refine (HM.out _).mono ?_);rintro e w' ⟨rfl,rfl⟩)
  go_ret
  exact ⟨rfl,HS.out,gr_refl _ _⟩
theorem rk_Waste (b o x:Nat) (T:TypeId) (cs:Array Value) (s:KB) (W:World) (h:Blk W b T cs) (hk:KAt cs o s) (ho:s.ok) (hx:x≤18446744073709551615):
  Calls Try.prog 56 #[.pointer (some ⟨b,o,none⟩),.int .u64 (x:Int)] W (KQ W b T cs o (.int .u64 (s.wasteN x:Int)) (s.wasteS x)):=by
 have c2:=h.cell hk.n
 have c3:=h.cell hk.w
 have f2:=h.free (o + 2)
 have f3:=h.free (o + 3)
 unfold KB.wasteN KB.wasteS
 have hle:min x s.n≤s.n:=Nat.min_le_right _ _
 have hn:=ho.1
 have HY:=Lib.hid (fun w=>ref_Add s.w (min x s.n) w ho.2.1 (by omega))
 have HH:Hid (∀y z:Nat,Blk ((W.setCell ⟨b,o + 2,none⟩ (.int .u64 (y:Int))).setCell ⟨b,o + 3,none⟩ (.int .u64 (z:Int))) b T (putK cs o ⟨y,z,s.r,s.t⟩)):=Lib.hid (fun y z=>by rw [← hk.set23];exact (h.set (o + 2) _).set (o + 3) _)
 have hmm:min x s.n=x∧x≤s.n∨min x s.n=s.n∧s.n < x:=by omega
 generalize min x s.n=m at *
 have e':(s.n:Int) - (m:Int)=((s.n - m:Nat):Int):=by omega
 have e:IntKind.u64.wrap ((s.n - m:Nat):Int)=((s.n - m:Nat):Int):=by rw [IntKind.wrap_u64];omega
 generalize Pl.addS s.w m=z at *
 generalize s.n - m=y at *
 clear h hk ho hx hle hn
 rcases hmm with ⟨rfl,c⟩ | ⟨rfl,c⟩
 ·have hm:min (m:Int) (s.n:Int)=(m:Int):=by omega
  go_enter Try.func56,Try.ntmps56
  go_wp2_with (go_at_call 10;(refine (HY.out _).mono ?_);rintro e w' ⟨rfl,rfl⟩)
  go_ret
  exact ⟨rfl,HH.out _ _,gr_set (gr_set (gr_refl _ _) _ _) _ _⟩
 ·have hm:min (x:Int) (s.n:Int)=(s.n:Int):=by omega
  go_enter Try.func56,Try.ntmps56
  go_wp2_with (go_at_call 10;(refine (HY.out _).mono ?_);rintro e w' ⟨rfl,rfl⟩)
  go_ret
  exact ⟨rfl,HH.out _ _,gr_set (gr_set (gr_refl _ _) _ _) _ _⟩
theorem KB.to_r (s:KB) (x:Nat):(s.toS x).r=s.r:=by unfold KB.toS;split <;> rfl
theorem KB.take_r (s:KB) (x:Nat):(s.takeS x).r=s.r:=by unfold KB.takeS KB.spendS;split <;> rfl
end Go.Proofs.Ytaffjfajjpgjpaa
