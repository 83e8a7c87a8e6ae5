/- 1 texts put together: what each one says stands ahead of it. -/
import Derived.Test.YtgpmnhhcjccofaaKLinkEnvelope04
import Derived.Test.YtgpmnhhcjccofaaKLinkEnvelope06
import Derived.Deep.RegionHeld3
import Derived.Deep.RegionWith
set_option linter.unusedVariables false
namespace Go.Proofs.Ytgpmnhhcjccofaa
open Go.RowKit
structure KB where
 n:Nat
 w:Nat
 r:Nat
 t:Nat
namespace KB
def start (r:Nat):KB:=⟨0,0,r,0⟩
def ok (s:KB):Prop:=s.n≤18446744073709551615∧s.w≤18446744073709551615∧s.r≤18446744073709551615∧s.t≤18446744073709551615
def earnS (s:KB) (x:Nat):KB:=⟨Pl.addS s.n x,s.w,s.r,s.t⟩
def toS (s:KB) (now:Nat):KB:=if now≤s.t then s else ⟨Pl.addS s.n (Pl.mulS s.r (now - s.t)),s.w,s.r,now⟩
def spendB (s:KB) (x:Nat):Bool:=decide (x≤s.n)
def spendS (s:KB) (x:Nat):KB:=if x≤s.n then ⟨s.n - x,s.w,s.r,s.t⟩ else s
def takeB (s:KB) (x:Nat):Bool:=s.spendB (Pl.mulS x 1000000)
def takeS (s:KB) (x:Nat):KB:=s.spendS (Pl.mulS x 1000000)
def wasteN (s:KB) (x:Nat):Nat:=min x s.n
def wasteS (s:KB) (x:Nat):KB:=⟨s.n - min x s.n,Pl.addS s.w (min x s.n),s.r,s.t⟩
def cells (s:KB):Array Value:=#[.int .u64 (s.n:Int),.int .u64 (s.w:Int),.int .u64 (s.r:Int),.int .u64 (s.t:Int)]
theorem start_ok {r:Nat} (h:r≤18446744073709551615):(start r).ok:=⟨Nat.zero_le _,Nat.zero_le _,h,Nat.zero_le _⟩
theorem to_ok {s:KB} (h:s.ok) {now:Nat} (hn:now≤18446744073709551615):(s.toS now).ok:=by
 unfold toS
 split
 ·exact h
 ·exact ⟨Pl.addS_le _ _,h.2.1,h.2.2.1,hn⟩
theorem spend_ok {s:KB} (h:s.ok) (x:Nat):(s.spendS x).ok:=by
 unfold spendS
 split
 ·exact ⟨Nat.le_trans (Nat.sub_le _ _) h.1,h.2⟩
 ·exact h
theorem take_ok {s:KB} (h:s.ok) (x:Nat):(s.takeS x).ok:=spend_ok h _
theorem waste_ok {s:KB} (h:s.ok) (x:Nat):(s.wasteS x).ok:=⟨Nat.le_trans (Nat.sub_le _ _) h.1,Pl.addS_le _ _,h.2.2⟩
end KB
structure KPost (w:World) (b:Nat) (r:Value) (s:KB) (e:Ending) (w':World):Prop where
 e:e=.returned r
 blk:Blk w' b 107 s.cells
 gr:w.grownBy w' (some b)
structure KMut (W:World) (b:Nat) (s:KB) (w:World):Prop where
 blk:Blk w b 107 s.cells
 gr:W.grownBy w (some b)
theorem KMut.start {W:World} {b:Nat} {s:KB} (h:Blk W b 107 s.cells):KMut W b s W:=⟨h,gr_refl _ _⟩
theorem KMut.drew {W w:World} {b:Nat} {s:KB} (h:KMut W b s w):KMut W b s w.drew:=⟨h.blk.drew,gr_drew h.gr⟩
theorem KMut.to {W w w':World} {b:Nat} {s:KB} (h:KMut W b s w) (k:Below w.heap.size w w'):KMut W b s w':=⟨h.blk.keep k,gr_trans h.gr (gr_below k _)⟩
theorem KMut.al {W w w':World} {b:Nat} {s:KB} {o:Obj} (h:KMut W b s w) (k:Below (w.alloc o).heap.size (w.alloc o) w'):KMut W b s w':=(h.to (al_be _ _)).to k
theorem KMut.set {W w:World} {b:Nat} {s s':KB} (h:KMut W b s w) (i:Nat) (u:Value) (he:s.cells.setIfInBounds i u=s'.cells):KMut W b s' (w.setCell ⟨b,i,none⟩ u):=
 ⟨he▸h.blk.set i u,gr_set h.gr i u⟩
theorem KMut.post {W w:World} {b:Nat} {s:KB} {v:Value} (h:KMut W b s w):KPost W b v s (.returned v) w:=⟨rfl,h.blk,h.gr⟩
theorem KMut.call {W w w':World} {b:Nat} {s s':KB} {v:Value} {e:Ending} (h:KMut W b s w) (k:KPost w b v s' e w'):KMut W b s' w':=⟨k.blk,gr_trans h.gr k.gr⟩
def KSome (W:World) (b r t:Nat) (w:World):Prop:=∃n z,KMut W b ⟨n,z,r,t⟩ w
theorem ks_of {W w:World} {b n z r t:Nat} (h:Hid (KMut W b ⟨n,z,r,t⟩ w)):Hid (KSome W b r t w):=Lib.hid ⟨n,z,h.out⟩
theorem ks_r {W:World} {b r t:Nat}:(∀w,Hid (KSome W b r t w)→w.cell? ⟨b,2,none⟩=some (.int .u64 (r:Int)))∧(∀w,Hid (KSome W b r t w)→w.cell? ⟨b,3,none⟩=some (.int .u64 (t:Int))):=
 ⟨fun w h=>by obtain ⟨n,z,k⟩:=h.out;exact k.blk.cell rfl,fun w h=>by obtain ⟨n,z,k⟩:=h.out;exact k.blk.cell rfl⟩
theorem bk_New (r:Nat) (w:World):Calls Try.prog 27 #[.int .u64 (r:Int)] w fun e w'=>e=.returned (.pointer (some ⟨w.heap.size,0,none⟩))∧w.alloc (.cells (KB.start r).cells 107)=w':=by
 go_enter Try.func27,Try.ntmps27
 go_wp2
 go_ret
 exact ⟨rfl,rfl⟩
theorem bk_earn (b x:Nat) (s:KB) (W:World) (h:Blk W b 107 s.cells) (ho:s.ok) (hx:x≤18446744073709551615):
  Calls Try.prog 53 #[.pointer (some ⟨b,0,none⟩),.int .u64 (x:Int)] W (KPost W b (.tuple #[]) (s.earnS x)):=by
 have h0:=h.cell (i:=0) (v:=.int .u64 (s.n:Int)) rfl
 have M0:=Lib.hid (KMut.start h)
 have hA:=Lib.hid (add_any s.n x ho.1 hx)
 unfold KB.earnS
 clear h ho hx
 generalize Pl.addS s.n x=z at *
 go_enter Try.func53,Try.ntmps53
 go_wp2_with fail
 refine (hA.out _ _ (nc2 _ _ _ _).1 (nc2 _ _ _ _).2).mono ?_
 rintro e w1 ⟨rfl,hb⟩
 have M1:=Lib.hid (M0.out.al hb)
 have y0:=M1.out.blk.free 0
 have c0:=M1.out.blk.cell (i:=0) (v:=.int .u64 (s.n:Int)) rfl
 have M2:=Lib.hid (M1.out.set (s':=⟨z,s.w,s.r,s.t⟩) 0 (.int .u64 (z:Int)) rfl)
 clear hb
 go_wp2_with fail
 go_end0
 exact M2.out.post
theorem bk_spend (b x:Nat) (s:KB) (W:World) (h:Blk W b 107 s.cells) (ho:s.ok):
  Calls Try.prog 75 #[.pointer (some ⟨b,0,none⟩),.int .u64 (x:Int)] W (KPost W b (.bool (s.spendB x)) (s.spendS x)):=by
 have h0:=h.cell (i:=0) (v:=.int .u64 (s.n:Int)) rfl
 have M0:=Lib.hid (KMut.start h)
 have y0:=h.free 0
 have hn:=ho.1
 unfold KB.spendB KB.spendS
 clear h ho
 by_cases c:x≤s.n
 ·rw [decide_eq_true c,if_pos c]
  have d:decide (s.n < x)=false:=decide_eq_false (by omega)
  have e':(s.n:Int) - (x:Int)=((s.n - x:Nat):Int):=by omega
  have e:IntKind.u64.wrap ((s.n - x:Nat):Int)=((s.n - x:Nat):Int):=by rw [IntKind.wrap_u64];omega
  generalize s.n - x=z at *
  have M2:=Lib.hid (M0.out.set (s':=⟨z,s.w,s.r,s.t⟩) 0 (.int .u64 (z:Int)) rfl)
  clear c hn
  go_enter Try.func75,Try.ntmps75
  go_wp2
  go_ret
  exact M2.out.post
 ·rw [decide_eq_false c,if_neg c]
  have d:decide (s.n < x)=true:=decide_eq_true (by omega)
  clear c hn
  go_enter Try.func75,Try.ntmps75
  go_wp2
  go_ret
  exact M0.out.post
theorem bk_waste_at (b x m:Nat) (s:KB) (W:World) (h:Blk W b 107 s.cells) (ho:s.ok) (hx:x≤18446744073709551615) (hmm:m=x∧x≤s.n∨m=s.n∧s.n < x):
  Calls Try.prog 59 #[.pointer (some ⟨b,0,none⟩),.int .u64 (x:Int)] W (KPost W b (.int .u64 (m:Int)) ⟨s.n - m,Pl.addS s.w m,s.r,s.t⟩):=by
 have h0:=h.cell (i:=0) (v:=.int .u64 (s.n:Int)) rfl
 have h1:=h.cell (i:=1) (v:=.int .u64 (s.w:Int)) rfl
 have M0:=Lib.hid (KMut.start h)
 have y0:=h.free 0
 have hle:m≤s.n:=by omega
 have hn:=ho.1
 have hA:=Lib.hid (add_any s.w m ho.2.1 (by omega))
 have e':(s.n:Int) - (m:Int)=((s.n - m:Nat):Int):=by omega
 have e:IntKind.u64.wrap ((s.n - m:Nat):Int)=((s.n - m:Nat):Int):=by rw [IntKind.wrap_u64];omega
 generalize Pl.addS s.w m=z at *
 generalize s.n - m=y at *
 have M1:=Lib.hid (M0.out.set (s':=⟨y,s.w,s.r,s.t⟩) 0 (.int .u64 (y:Int)) rfl)
 clear h ho hx hle hn
 rcases hmm with ⟨rfl,c⟩ | ⟨rfl,c⟩
 ·have hm:min (m:Int) (s.n:Int)=(m:Int):=by omega
  go_enter Try.func59,Try.ntmps59
  go_wp2_with fail
  refine (hA.out _ _ (new_cell (by simp [World.setCell]) rfl) (new_cell (by simp [World.setCell]) rfl)).mono ?_
  rintro e w1 ⟨rfl,hb⟩
  have M2:=Lib.hid (M1.out.al hb)
  have y1:=M2.out.blk.free 1
  have c1:=M2.out.blk.cell (i:=1) (v:=.int .u64 (s.w:Int)) rfl
  have M3:=Lib.hid (M2.out.set (s':=⟨y,z,s.r,s.t⟩) 1 (.int .u64 (z:Int)) rfl)
  clear hb
  go_wp2_with fail
  go_ret
  exact M3.out.post
 ·have hm:min (x:Int) (s.n:Int)=(s.n:Int):=by omega
  go_enter Try.func59,Try.ntmps59
  go_wp2_with fail
  refine (hA.out _ _ (new_cell (by simp [World.setCell]) rfl) (new_cell (by simp [World.setCell]) rfl)).mono ?_
  rintro e w1 ⟨rfl,hb⟩
  have M2:=Lib.hid (M1.out.al hb)
  have y1:=M2.out.blk.free 1
  have c1:=M2.out.blk.cell (i:=1) (v:=.int .u64 (s.w:Int)) rfl
  have M3:=Lib.hid (M2.out.set (s':=⟨y,z,s.r,s.t⟩) 1 (.int .u64 (z:Int)) rfl)
  clear hb
  go_wp2_with fail
  go_ret
  exact M3.out.post
theorem bk_waste (b x:Nat) (s:KB) (W:World) (h:Blk W b 107 s.cells) (ho:s.ok) (hx:x≤18446744073709551615):
  Calls Try.prog 59 #[.pointer (some ⟨b,0,none⟩),.int .u64 (x:Int)] W (KPost W b (.int .u64 (s.wasteN x:Int)) (s.wasteS x)):=
 bk_waste_at b x (min x s.n) s W h ho hx (by omega)
theorem bk_To (b now:Nat) (s:KB) (W:World) (h:Blk W b 107 s.cells) (ho:s.ok) (hn:now≤18446744073709551615):
  Calls Try.prog 31 #[.pointer (some ⟨b,0,none⟩),.int .u64 (now:Int)] W (KPost W b (.tuple #[]) (s.toS now)):=by
 have h3:=h.cell (i:=3) (v:=.int .u64 (s.t:Int)) rfl
 have M0:=Lib.hid (KMut.start h)
 unfold KB.toS
 by_cases c:now≤s.t
 ·rw [if_pos c]
  have d:decide (now≤s.t)=true:=decide_eq_true c
  clear h ho hn c
  go_enter Try.func31,Try.ntmps31
  go_wp2
  exact bodyPost_ret (v:=.tuple #[]) (by simp [results,Try.results31,go_sem]) rfl M0.out.post
 ·rw [if_neg c]
  have d:decide (now≤s.t)=false:=decide_eq_false c
  have hw:(now:Int) - (s.t:Int)=((now - s.t:Nat):Int):=by omega
  have hww:IntKind.u64.wrap ((now - s.t:Nat):Int)=((now - s.t:Nat):Int):=by rw [IntKind.wrap_u64];omega
  have HM:=Lib.hid (fun w=>fix_Mul_n s.r (now - s.t) w ho.2.2.1 (by omega))
  have HE:Hid (∀w,KMut W b s w→Calls Try.prog 53 #[.pointer (some ⟨b,0,none⟩),.int .u64 ((Pl.mulS s.r (now - s.t):Nat):Int)] w fun e w'=>e=.returned (.tuple #[])∧Hid (KMut W b ⟨Pl.addS s.n (Pl.mulS s.r (now - s.t)),s.w,s.r,s.t⟩ w')):=
   Lib.hid (fun w k=>(bk_earn b _ s w k.blk ho (Pl.mulS_le _ _)).mono fun e w' q=>⟨q.e,Lib.hid (k.call q)⟩)
  have M1:=Lib.hid M0.out.drew
  obtain ⟨r2,r3⟩:=ks_r (W:=W) (b:=b) (r:=s.r) (t:=s.t)
  generalize Pl.addS s.n (Pl.mulS s.r (now - s.t))=z at *
  generalize Pl.mulS s.r (now - s.t)=y at *
  generalize hl:now - s.t=l at *
  clear h ho hn c hl
  go_enter Try.func31,Try.ntmps31
  go_wp2_with fail
  clear h3
  go_region_held3 (fun w'=>Hid (KSome W b s.r s.t w'))
   (first | exact ks_of M1 | assumption)
   (first
    | (go_at_call 54;(refine (HM.out _).mono ?_);rintro e w' ⟨rfl,rfl⟩)
    | (go_at_call 53;(refine (HE.out _ (Hid.out (by assumption))).mono ?_);rintro e w' ⟨rfl,M2⟩;have S2:=ks_of M2))
  all_goals
   have M2:=(‹Hid (KMut W b ⟨z,s.w,s.r,s.t⟩ _)›)
   have y3:=M2.out.blk.free 3
   have c3:=M2.out.blk.cell (i:=3) (v:=.int .u64 (s.t:Int)) rfl
   have M3:=Lib.hid (M2.out.set (s':=⟨z,s.w,s.r,now⟩) 3 (.int .u64 (now:Int)) rfl)
   clear r2 r3
   go_wp2_with fail
   go_end0
   exact M3.out.post
theorem bk_Take (b x:Nat) (s:KB) (W:World) (h:Blk W b 107 s.cells) (ho:s.ok) (hx:x≤18446744073709551615):
  Calls Try.prog 55 #[.pointer (some ⟨b,0,none⟩),.int .u64 (x:Int)] W (KPost W b (.bool (s.takeB x)) (s.takeS x)):=by
 have M0:=Lib.hid (KMut.start h).drew
 have HM:Hid (∀w,Calls Try.prog 54 #[.int .u64 (x:Int),.int .u64 1000000] w fun e w'=>e=.returned (.int .u64 ((Pl.mulS x 1000000:Nat):Int))∧w=w'):=Lib.hid (fun w=>fix_Mul_n x 1000000 w hx (by omega))
 have HE:Hid (∀w,KMut W b s w→Calls Try.prog 75 #[.pointer (some ⟨b,0,none⟩),.int .u64 ((Pl.mulS x 1000000:Nat):Int)] w fun e w'=>e=.returned (.bool (s.takeB x))∧Hid (KMut W b (s.takeS x) w')):=
  Lib.hid (fun w k=>(bk_spend b _ s w k.blk ho).mono fun e w' q=>⟨q.e,Lib.hid (k.call q)⟩)
 clear h ho hx
 generalize s.takeB x=r at *
 generalize s.takeS x=s' at *
 generalize Pl.mulS x 1000000=m at *
 go_enter Try.func55,Try.ntmps55
 go_wp2_with fail
 go_region_held3 (fun w'=>Hid (∃s,KMut W b s w'))
  (first | exact Lib.hid ⟨_,M0.out⟩ | assumption)
  (first
   | (go_at_call 54;(refine (HM.out _).mono ?_);rintro e w' ⟨rfl,rfl⟩)
   | (go_at_call 75;(refine (HE.out _ (Hid.out (by assumption))).mono ?_);rintro e w' ⟨rfl,M2⟩;have S2:Hid (∃s,KMut W b s w'):=Lib.hid ⟨_,M2.out⟩))
 all_goals
  have M2:=(‹Hid (KMut W b s' _)›)
  go_wp2_with fail
  go_ret
  exact M2.out.post
theorem bk_Waste (b x:Nat) (s:KB) (W:World) (h:Blk W b 107 s.cells) (ho:s.ok) (hx:x≤18446744073709551615):
  Calls Try.prog 34 #[.pointer (some ⟨b,0,none⟩),.int .u64 (x:Int)] W (KPost W b (.int .u64 (s.wasteN x:Int)) (s.wasteS x)):=by
 have HE:=Lib.hid (bk_waste b x s W h ho hx)
 generalize s.wasteN x=r at *
 generalize s.wasteS x=s' at *
 clear h ho hx
 go_enter Try.func34,Try.ntmps34
 go_wp2_with fail
 refine HE.out.mono ?_
 rintro e w' k
 obtain rfl:=k.e
 have K:=Lib.hid k
 clear k
 go_wp2_with fail
 go_ret
 exact K.out
theorem bk_Tokens (b:Nat) (s:KB) (w:World) (h:Blk w b 107 s.cells):
  Calls Try.prog 42 #[.pointer (some ⟨b,0,none⟩)] w fun e w'=>e=.returned (.int .u64 (s.n:Int))∧w=w':=by
 have h0:=h.cell (i:=0) (v:=.int .u64 (s.n:Int)) rfl
 clear h
 go_enter Try.func42,Try.ntmps42
 go_wp2
 go_ret
 exact ⟨rfl,rfl⟩
theorem bk_Wasted (b:Nat) (s:KB) (w:World) (h:Blk w b 107 s.cells):
  Calls Try.prog 43 #[.pointer (some ⟨b,0,none⟩)] w fun e w'=>e=.returned (.int .u64 (s.w:Int))∧w=w':=by
 have h1:=h.cell (i:=1) (v:=.int .u64 (s.w:Int)) rfl
 clear h
 go_enter Try.func43,Try.ntmps43
 go_wp2
 go_ret
 exact ⟨rfl,rfl⟩
end Go.Proofs.Ytgpmnhhcjccofaa
