/- Lemmas. -/
import Derived.Test.YtjhiooggnpbecaaGreatDoorK215
set_option linter.unusedVariables false
set_option maxHeartbeats 4000000
set_option maxRecDepth 100000
namespace Go.Proofs.YtjhiooggnpbecaaGreatDoor
open Tryz
variable {b:Nat} {v:Value} {W w':World}
section
open Go.RowKit
structure KB where
 n:Nat
 w:Nat
 r:Nat
 t:Nat
namespace KB
def start (r:Nat):KB:=⟨0,0,r,0⟩
def ok (s:KB):Prop:=s.n≤↑ω∧s.w≤↑ω∧s.r≤↑ω∧s.t≤↑ω
def earnS (s:KB) (x:Nat):KB:=⟨Pl.addS s.n x,s.w,s.r,s.t⟩
def toS (s:KB) (now:Nat):KB:=if now≤s.t then s else ⟨Pl.addS s.n (Pl.mulS s.r (now - s.t)),s.w,s.r,now⟩
def spendB (s:KB) (x:Nat):Bool:=decide (x≤s.n)
def spendS (s:KB) (x:Nat):KB:=if x≤s.n then ⟨s.n - x,s.w,s.r,s.t⟩ else s
def takeB (s:KB) (x:Nat):Bool:=s.spendB (Pl.mulS x 1000000)
def takeS (s:KB) (x:Nat):KB:=s.spendS (Pl.mulS x 1000000)
def wasteN (s:KB) (x:Nat):Nat:=min x s.n
def wasteS (s:KB) (x:Nat):KB:=⟨s.n - min x s.n,Pl.addS s.w (min x s.n),s.r,s.t⟩
def cells (s:KB):Array Value:=#[↑s.n,↑s.w,↑s.r,↑s.t]
theorem start_ok {r:Nat} (h:r≤↑ω):(start r).ok:=⟨Nat.zero_le _,Nat.zero_le _,h,Nat.zero_le _⟩
theorem to_ok {s:KB} (h:s.ok) {now:Nat} (hn:now≤↑ω):(s.toS now).ok:=by
 unfold toS;split
 ·exact h
 ·exact ⟨Pl.addS_le _ _,h.2.1,h.2.2.1,hn⟩
theorem spend_ok {s:KB} (h:s.ok) (x:Nat):(s.spendS x).ok:=by
 unfold spendS;split
 ·exact ⟨Nat.le_trans (Nat.sub_le _ _) h.1,h.2⟩
 ·exact h
theorem take_ok {s:KB} (h:s.ok) (x:Nat):(s.takeS x).ok:=spend_ok h _
theorem waste_ok {s:KB} (h:s.ok) (x:Nat):(s.wasteS x).ok:=⟨Nat.le_trans (Nat.sub_le _ _) h.1,Pl.addS_le _ _,h.2.2⟩
end KB
structure iL (w:World) (b:Nat) (r:Value) (s:KB) (e:Ending) (w':World):Prop where
 e:e=.returned r
 blk:Blk w' b 217 s.cells
 gr:w.grownBy w' (some b)
structure dP (W:World) (b:Nat) (s:KB) (w:World):Prop where
 blk:Blk w b 217 s.cells
 gr:W.grownBy w (some b)
theorem dP.start {s:KB} (h:Blk W b 217 s.cells):dP W b s W:=⟨h,bW _ _⟩
theorem dP.drew {W w:World} {b:Nat} {s:KB} (h:dP W b s w):dP W b s w.drew:=⟨h.blk.drew,dW h.gr⟩
theorem dP.to {w:World} {s:KB} (h:dP W b s w) (k:Below ↑w w w'):dP W b s w':=⟨h.blk.keep k,fA h.gr (fB k _)⟩
theorem dP.al {w:World} {s:KB} {o:Obj} (h:dP W b s w) (k:Below (w.alloc o).heap.size (w.alloc o) w'):dP W b s w':=(h.to (aC _ _)).to k
theorem dP.set {W w:World} {b:Nat} {s s':KB} (h:dP W b s w) (i:Nat) (u:Value) (he:s.cells.setIfInBounds i u=s'.cells):dP W b s' (w.setCell ⟨b,i,none⟩ u):=
 ⟨he▸h.blk.set i u,bH h.gr i u⟩
theorem dP.post {w:World} {s:KB} (h:dP W b s w):iL W b v s (.returned v) w:=⟨rfl,h.blk,h.gr⟩
theorem dP.call {w:World} {s s':KB} {e:Ending} (h:dP W b s w) (k:iL w b v s' e w'):dP W b s' w':=⟨k.blk,fA h.gr k.gr⟩
def yC (W:World) (b r t:Nat) (w:World):Prop:=∃n z,dP W b ⟨n,z,r,t⟩ w
theorem OZ {w:World} {n z r t:Nat} (h:Hid (dP W b ⟨n,z,r,t⟩ w)):Hid (yC W b r t w):=lh ⟨n,z,h.out⟩
theorem UC {r t:Nat}:(∀w,Hid (yC W b r t w)→w.cell? ⟨b,2,none⟩=some ↑r)∧(∀w,Hid (yC W b r t w)→w.cell? ⟨b,3,none⟩=some ↑t):=
 ⟨fun w h=>by obtain ⟨n,z,k⟩:=h.out;exact k.blk.cell rfl,fun w h=>by obtain ⟨n,z,k⟩:=h.out;exact k.blk.cell rfl⟩
theorem QT (r:Nat) (w:World):Calls prog 78 #[↑r] w fun e w'=>e=.returned ↑(π w.heap.size)∧w.alloc (.cells (KB.start r).cells 217)=w':=by
 go_enter func78,ntmps78;go_wp2;go_ret;exact ⟨rfl,rfl⟩
theorem L9 (b x:Nat) (s:KB) (W:World) (h:Blk W b 217 s.cells) (ho:s.ok) (hx:x≤↑ω):
  Calls prog 130 #[↑(π b),↑x] W (iL W b (.tuple #[]) (s.earnS x)):=by
 have h0:=h.cell (i:=0) (v:=↑s.n) rfl;have M0:=lh (dP.start h);have hA:=lh (bS s.n x ho.1 hx);unfold KB.earnS;clear h ho hx;generalize Pl.addS s.n x=z at *;go_enter func130,ntmps130;go_wp2_with fail;refine (hA.out _ _ (nc2 _ _ _ _).1 (nc2 _ _ _ _).2).mono ?_;rintro e w1 ⟨rfl,hb⟩;have M1:=lh (M0.out.al hb);have y0:=M1.out.blk.free 0;have c0:=M1.out.blk.cell (i:=0) (v:=↑s.n) rfl;have M2:=lh (M1.out.set (s':=⟨z,s.w,s.r,s.t⟩) 0 ↑z rfl);clear hb;go_wp2_with fail;go_end0
 exact M2.out.post
theorem FP (b x:Nat) (s:KB) (W:World) (h:Blk W b 217 s.cells) (ho:s.ok):
  Calls prog 185 #[↑(π b),↑x] W (iL W b (.bool (s.spendB x)) (s.spendS x)):=by
 have h0:=h.cell (i:=0) (v:=↑s.n) rfl;have M0:=lh (dP.start h);have y0:=h.free 0;have hn:=ho.1;unfold KB.spendB KB.spendS;clear h ho;by_cases c:x≤s.n
 ·rw [decide_eq_true c,if_pos c]
  have d:decide (s.n < x)=false:=decide_eq_false (by omega);have e':(s.n:Int) - (x:Int)=((s.n - x:Nat):Int):=by omega
  have e:IntKind.u64.wrap ((s.n - x:Nat):Int)=((s.n - x:Nat):Int):=by rw [IntKind.wrap_u64];omega
  generalize s.n - x=z at *;have M2:=lh (M0.out.set (s':=⟨z,s.w,s.r,s.t⟩) 0 ↑z rfl);clear c hn;go_enter func185,ntmps185;go_wp2;go_ret;exact M2.out.post
 ·rw [decide_eq_false c,if_neg c]
  have d:decide (s.n < x)=true:=decide_eq_true (by omega);clear c hn;go_enter func185,ntmps185;go_wp2;go_ret;exact M0.out.post
theorem tS (b x m:Nat) (s:KB) (W:World) (h:Blk W b 217 s.cells) (ho:s.ok) (hx:x≤↑ω) (hmm:m=x∧x≤s.n∨m=s.n∧s.n < x):
  Calls prog 137 #[↑(π b),↑x] W (iL W b ↑m ⟨s.n - m,Pl.addS s.w m,s.r,s.t⟩):=by
 have h0:=h.cell (i:=0) (v:=↑s.n) rfl;have h1:=h.cell (i:=1) (v:=↑s.w) rfl;have M0:=lh (dP.start h);have y0:=h.free 0;have hle:m≤s.n:=by omega
 have hn:=ho.1;have hA:=lh (bS s.w m ho.2.1 (by omega));have e':(s.n:Int) - (m:Int)=((s.n - m:Nat):Int):=by omega
 have e:IntKind.u64.wrap ((s.n - m:Nat):Int)=((s.n - m:Nat):Int):=by rw [IntKind.wrap_u64];omega
 generalize Pl.addS s.w m=z at *;generalize s.n - m=y at *;have M1:=lh (M0.out.set (s':=⟨y,s.w,s.r,s.t⟩) 0 ↑y rfl);clear h ho hx hle hn;rcases hmm with ⟨rfl,c⟩ | ⟨rfl,c⟩
 ·have hm:min (m:Int) (s.n:Int)=(m:Int):=by omega
  go_enter func137,ntmps137;go_wp2_with fail;refine (hA.out _ _ (aM (by simp [World.setCell]) rfl) (aM (by simp [World.setCell]) rfl)).mono ?_;rintro e w1 ⟨rfl,hb⟩;have M2:=lh (M1.out.al hb);have y1:=M2.out.blk.free 1;have c1:=M2.out.blk.cell (i:=1) (v:=↑s.w) rfl;have M3:=lh (M2.out.set (s':=⟨y,z,s.r,s.t⟩) 1 ↑z rfl);clear hb;go_wp2_with fail;go_ret;exact M3.out.post
 ·have hm:min (x:Int) (s.n:Int)=(s.n:Int):=by omega
  go_enter func137,ntmps137;go_wp2_with fail;refine (hA.out _ _ (aM (by simp [World.setCell]) rfl) (aM (by simp [World.setCell]) rfl)).mono ?_;rintro e w1 ⟨rfl,hb⟩;have M2:=lh (M1.out.al hb);have y1:=M2.out.blk.free 1;have c1:=M2.out.blk.cell (i:=1) (v:=↑s.w) rfl;have M3:=lh (M2.out.set (s':=⟨y,z,s.r,s.t⟩) 1 ↑z rfl);clear hb;go_wp2_with fail;go_ret;exact M3.out.post
theorem FQ (b x:Nat) (s:KB) (W:World) (h:Blk W b 217 s.cells) (ho:s.ok) (hx:x≤↑ω):
  Calls prog 137 #[↑(π b),↑x] W (iL W b ↑(s.wasteN x) (s.wasteS x)):=
 tS b x (min x s.n) s W h ho hx (by omega)
theorem SR (b now:Nat) (s:KB) (W:World) (h:Blk W b 217 s.cells) (ho:s.ok) (hn:now≤↑ω):
  Calls prog 72 #[↑(π b),↑now] W (iL W b (.tuple #[]) (s.toS now)):=by
 have h3:=h.cell (i:=3) (v:=↑s.t) rfl;have M0:=lh (dP.start h);unfold KB.toS;by_cases c:now≤s.t
 ·rw [if_pos c]
  have d:decide (now≤s.t)=true:=decide_eq_true c;clear h ho hn c;go_enter func72,ntmps72;go_wp2;exact bodyPost_ret (v:=.tuple #[]) (by simp [results,Tryz.results72,go_sem]) rfl M0.out.post
 ·rw [if_neg c]
  have d:decide (now≤s.t)=false:=decide_eq_false c;have hw:(now:Int) - (s.t:Int)=((now - s.t:Nat):Int):=by omega
  have hww:IntKind.u64.wrap ((now - s.t:Nat):Int)=((now - s.t:Nat):Int):=by rw [IntKind.wrap_u64];omega
  have HM:=lh (fun w=>cD s.r (now - s.t) w ho.2.2.1 (by omega));have HE:Hid (∀w,dP W b s w→Calls prog 130 #[↑(π b),↑(Pl.mulS s.r (now - s.t):Nat)] w fun e w'=>e=.returned (.tuple #[])∧Hid (dP W b ⟨Pl.addS s.n (Pl.mulS s.r (now - s.t)),s.w,s.r,s.t⟩ w')):=
   lh (fun w k=>(L9 b _ s w k.blk ho (Pl.mulS_le _ _)).mono fun e w' q=>⟨q.e,lh (k.call q)⟩)
  have M1:=lh M0.out.drew;obtain ⟨r2,r3⟩:=UC (W:=W) (b:=b) (r:=s.r) (t:=s.t);generalize Pl.addS s.n (Pl.mulS s.r (now - s.t))=z at *;generalize Pl.mulS s.r (now - s.t)=y at *;generalize hl:now - s.t=l at *;clear h ho hn c hl;go_enter func72,ntmps72;go_wp2_with fail;clear h3;go_region_held3 (fun w'=>Hid (yC W b s.r s.t w'))
   (first | exact OZ M1 | assumption)
   (first
    | (go_at_call 131;(refine (HM.out _).mono ?_);rintro e w' ⟨rfl,rfl⟩)
    | (go_at_call 130;(refine (HE.out _ (Hid.out (by assumption))).mono ?_);rintro e w' ⟨rfl,M2⟩;have S2:=OZ M2))
  all_goals
   have M2:=(‹Hid (dP W b ⟨z,s.w,s.r,s.t⟩ _)›);have y3:=M2.out.blk.free 3;have c3:=M2.out.blk.cell (i:=3) (v:=↑s.t) rfl;have M3:=lh (M2.out.set (s':=⟨z,s.w,s.r,now⟩) 3 ↑now rfl);clear r2 r3;go_wp2_with fail;go_end0
   exact M3.out.post
theorem MA (b x:Nat) (s:KB) (W:World) (h:Blk W b 217 s.cells) (ho:s.ok) (hx:x≤↑ω):
  Calls prog 132 #[↑(π b),↑x] W (iL W b (.bool (s.takeB x)) (s.takeS x)):=by
 have M0:=lh (dP.start h).drew;have HM:Hid (∀w,Calls prog 131 #[↑x,.int .u64 1000000] w fun e w'=>e=.returned ↑(Pl.mulS x 1000000:Nat)∧w=w'):=lh (fun w=>cD x 1000000 w hx (by omega));have HE:Hid (∀w,dP W b s w→Calls prog 185 #[↑(π b),↑(Pl.mulS x 1000000:Nat)] w fun e w'=>e=.returned (.bool (s.takeB x))∧Hid (dP W b (s.takeS x) w')):=
  lh (fun w k=>(FP b _ s w k.blk ho).mono fun e w' q=>⟨q.e,lh (k.call q)⟩)
 clear h ho hx;generalize s.takeB x=r at *;generalize s.takeS x=s' at *;generalize Pl.mulS x 1000000=m at *;go_enter func132,ntmps132;go_wp2_with fail;go_region_held3 (fun w'=>Hid (∃s,dP W b s w'))
  (first | exact lh ⟨_,M0.out⟩ | assumption)
  (first
   | (go_at_call 131;(refine (HM.out _).mono ?_);rintro e w' ⟨rfl,rfl⟩)
   | (go_at_call 185;(refine (HE.out _ (Hid.out (by assumption))).mono ?_);rintro e w' ⟨rfl,M2⟩;have S2:Hid (∃s,dP W b s w'):=lh ⟨_,M2.out⟩))
 all_goals
  have M2:=(‹Hid (dP W b s' _)›);go_wp2_with fail;go_ret;exact M2.out.post
theorem FR (b x:Nat) (s:KB) (W:World) (h:Blk W b 217 s.cells) (ho:s.ok) (hx:x≤↑ω):
  Calls prog 75 #[↑(π b),↑x] W (iL W b ↑(s.wasteN x) (s.wasteS x)):=by
 have HE:=lh (FQ b x s W h ho hx);generalize s.wasteN x=r at *;generalize s.wasteS x=s' at *;clear h ho hx;go_enter func75,ntmps75;go_wp2_with fail;refine HE.out.mono ?_;rintro e w' k;obtain rfl:=k.e;have K:=lh k;clear k;go_wp2_with fail;go_ret;exact K.out
end

section
open Go.RowKit Pl
def Ten (w:World) (b:Nat) (f r l st:Bool) (fl tg cp rs el wt:Nat):Prop:=
 w.cell? ⟨b,0,none⟩=some (.bool f)∧w.cell? ⟨b,1,none⟩=some (.bool r)∧w.cell? ⟨b,2,none⟩=some (.bool l)∧w.cell? ⟨b,3,none⟩=some (.bool st)∧
 w.cell? ⟨b,4,none⟩=some ↑fl∧w.cell? ⟨b,5,none⟩=some ↑tg∧w.cell? ⟨b,6,none⟩=some ↑cp∧w.cell? ⟨b,7,none⟩=some ↑rs∧
 w.cell? ⟨b,8,none⟩=some ↑el∧w.cell? ⟨b,9,none⟩=some ↑wt
theorem wD {w:World} {T:TypeId} {f r l st:Bool} {fl tg cp rs el wt:Nat}
  (h:Blk w b T #[.bool f,.bool r,.bool l,.bool st,↑fl,↑tg,↑cp,↑rs,↑el,↑wt]):Ten w b f r l st fl tg cp rs el wt:=
 ⟨h.cell rfl,h.cell rfl,h.cell rfl,h.cell rfl,h.cell rfl,h.cell rfl,h.cell rfl,h.cell rfl,h.cell rfl,h.cell rfl⟩
def bE (s:Int) (x:aV):Int:=
 if s=0 then (if (x.full || x.lossy)=true then 1 else 0)
 else if s=1 then (if x.fl≤x.tg then 2 else 1)
 else if s=2 then (if x.fl≤min x.tg x.cp then 3 else if ovS x=true then 4 else 2)
 else if s=3 then (if ovS x=true then 4 else 3)
 else if s=4 then (if 1≤x.rs then 5 else 4)
 else if s=5 then (if (x.lossy || (decide (1≤x.rs) && gG x))=true then 2 else 5)
 else if s=6 then (if (ovS x && decide (1≤x.rs))=true then (if x.full=true then 3 else 0) else 6)
 else s
theorem eR {s:Int} (h:bI s=true) (h6:(s != 6)=true) {x:aV} (hx:x.stale=true):fM s x=6:=by
 unfold fM;rw [h,hx,h6];exact if_pos rfl
theorem lV {s:Int} {x:aV} (h:x.stale=false∨bI s=false∨s=6):fM s x=bE s x:=by
 unfold fM;rw [if_neg (by rcases h with h | h | h <;> simp [h])];rfl
theorem jR:(∀(f r l:Bool) (fl tg cp rs el wt:Nat) (w:World) (hx:aV.ok ⟨f,r,l,false,fl,tg,cp,rs,el,wt⟩),Calls prog 175 #[.int .i64 1,.agg (aV.cells ⟨f,r,l,false,fl,tg,cp,rs,el,wt⟩)] w fun e w'=>e=.returned (.int .i64 (bE 1 ⟨f,r,l,false,fl,tg,cp,rs,el,wt⟩))∧Below ↑w w w')∧(∀(f r l:Bool) (fl tg cp rs el wt:Nat) (w:World) (hx:aV.ok ⟨f,r,l,false,fl,tg,cp,rs,el,wt⟩),Calls prog 175 #[.int .i64 2,.agg (aV.cells ⟨f,r,l,false,fl,tg,cp,rs,el,wt⟩)] w fun e w'=>e=.returned (.int .i64 (bE 2 ⟨f,r,l,false,fl,tg,cp,rs,el,wt⟩))∧Below ↑w w w')∧(∀(f r l:Bool) (fl tg cp rs el wt:Nat) (w:World) (hx:aV.ok ⟨f,r,l,false,fl,tg,cp,rs,el,wt⟩),Calls prog 175 #[.int .i64 4,.agg (aV.cells ⟨f,r,l,false,fl,tg,cp,rs,el,wt⟩)] w fun e w'=>e=.returned (.int .i64 (bE 4 ⟨f,r,l,false,fl,tg,cp,rs,el,wt⟩))∧Below ↑w w w')∧(∀(f r l:Bool) (fl tg cp rs el wt:Nat) (w:World) (hx:aV.ok ⟨f,r,l,false,fl,tg,cp,rs,el,wt⟩),Calls prog 175 #[.int .i64 5,.agg (aV.cells ⟨f,r,l,false,fl,tg,cp,rs,el,wt⟩)] w fun e w'=>e=.returned (.int .i64 (bE 5 ⟨f,r,l,false,fl,tg,cp,rs,el,wt⟩))∧Below ↑w w w'):=by
 refine ⟨?_,?_,?_,?_⟩
 have k0v:Hid True:=trivial;rotate_left;have k1v:Hid True:=trivial;rotate_left;have k2v:Hid True:=trivial;rotate_left;have k3v:Hid True:=trivial;rotate_left
 all_goals intro f r l fl tg cp rs el wt w hx
 all_goals
  have HB:=lh ((Below.refl w.heap.size w).alloc (Nat.le_refl _) (.cells (aV.cells ⟨f,r,l,false,fl,tg,cp,rs,el,wt⟩) 282));have HK:=lh (Blk.new w 282 (aV.cells ⟨f,r,l,false,fl,tg,cp,rs,el,wt⟩));first
  |revert k0v;intro k0v;have HR:=lh (fun w=>cG 1 w);rw [show bI 1=true by decide] at HR
  |revert k1v;intro k1v;have HR:=lh (fun w=>cG 2 w);rw [show bI 2=true by decide] at HR
  |revert k2v;intro k2v;have HR:=lh (fun w=>cG 4 w);rw [show bI 4=true by decide] at HR
  |have HR:=lh (fun w=>cG 5 w);rw [show bI 5=true by decide] at HR
  have HO:=lh (fun w=>kO ⟨f,r,l,false,fl,tg,cp,rs,el,wt⟩ w);have HP:=lh (fun w=>gR ⟨f,r,l,false,fl,tg,cp,rs,el,wt⟩ w);have HH:=lh (fun w=>kP ⟨f,r,l,false,fl,tg,cp,rs,el,wt⟩ hx w);clear hx;first
  |revert k0v;intro k0v;by_cases c:fl≤tg
  |revert k1v;intro k1v;by_cases c:fl≤min tg cp
  |by_cases c:1≤rs
  ·first
   |revert k0v;intro k0v;have HS:Hid (bE 1 ⟨f,r,l,false,fl,tg,cp,rs,el,wt⟩=2):=lh (by unfold bE;rw [if_neg (by decide),if_pos rfl,if_pos c]);have t1:decide (fl≤tg)=true:=decide_eq_true c
   |revert k1v;intro k1v;have HS:Hid (bE 2 ⟨f,r,l,false,fl,tg,cp,rs,el,wt⟩=3):=lh (by unfold bE;rw [if_neg (by decide),if_neg (by decide),if_pos rfl,if_pos c]);have t1:decide ((fl:Int)≤min (tg:Int) (cp:Int))=true:=decide_eq_true (by omega)
   |revert k2v;intro k2v;have HS:Hid (bE 4 ⟨f,r,l,false,fl,tg,cp,rs,el,wt⟩=5):=lh (by unfold bE;rw [if_neg (by decide),if_neg (by decide),if_neg (by decide),if_neg (by decide),if_pos rfl,if_pos c]);have t1:decide ((1:Int)≤(rs:Int))=true:=decide_eq_true (by omega)
   |have HS:Hid (bE 5 ⟨f,r,l,false,fl,tg,cp,rs,el,wt⟩=if (l || (true && gG ⟨f,r,l,false,fl,tg,cp,rs,el,wt⟩))=true then 2 else 5):=lh (by unfold bE;rw [if_neg (by decide),if_neg (by decide),if_neg (by decide),if_neg (by decide),if_neg (by decide),if_pos rfl];rw [decide_eq_true c]);have t1:decide ((1:Int)≤(rs:Int))=true:=decide_eq_true (by omega)
   clear c;generalize ovS ⟨f,r,l,false,fl,tg,cp,rs,el,wt⟩=bo at *;generalize gG ⟨f,r,l,false,fl,tg,cp,rs,el,wt⟩=bh at *;unfold aV.cells at *;dsimp only at *;first
   |revert k3v;intro k3v;cases l
    ·cases bh
     all_goals
      go_enter func175,ntmps175;go_wp2_with fail;refine (HH.out _).mono ?_;rintro e w1 ⟨rfl,h1⟩;go_wp2_with fail;go_ret;exact ⟨by rw [HS.out];rfl,aD HB.out h1 HB.out.size⟩
    ·go_enter func175,ntmps175;go_wp2_with fail;go_ret;exact ⟨by rw [HS.out];rfl,HB.out⟩
   |go_enter func175,ntmps175;go_wp2_with fail;go_ret;exact ⟨by rw [HS.out];rfl,HB.out⟩
  ·first
   |revert k0v;intro k0v;have HS:Hid (bE 1 ⟨f,r,l,false,fl,tg,cp,rs,el,wt⟩=1):=lh (by unfold bE;rw [if_neg (by decide),if_pos rfl,if_neg c]);have t1:decide (fl≤tg)=false:=decide_eq_false c
   |revert k1v;intro k1v;have HS:Hid (bE 2 ⟨f,r,l,false,fl,tg,cp,rs,el,wt⟩=if ovS ⟨f,r,l,false,fl,tg,cp,rs,el,wt⟩=true then 4 else 2):=lh (by unfold bE;rw [if_neg (by decide),if_neg (by decide),if_pos rfl,if_neg c]);have t1:decide ((fl:Int)≤min (tg:Int) (cp:Int))=false:=decide_eq_false (by omega)
   |revert k2v;intro k2v;have HS:Hid (bE 4 ⟨f,r,l,false,fl,tg,cp,rs,el,wt⟩=4):=lh (by unfold bE;rw [if_neg (by decide),if_neg (by decide),if_neg (by decide),if_neg (by decide),if_pos rfl,if_neg c]);have t1:decide ((1:Int)≤(rs:Int))=false:=decide_eq_false (by omega)
   |have HS:Hid (bE 5 ⟨f,r,l,false,fl,tg,cp,rs,el,wt⟩=if (l || (false && gG ⟨f,r,l,false,fl,tg,cp,rs,el,wt⟩))=true then 2 else 5):=lh (by unfold bE;rw [if_neg (by decide),if_neg (by decide),if_neg (by decide),if_neg (by decide),if_neg (by decide),if_pos rfl];rw [decide_eq_false c]);have t1:decide ((1:Int)≤(rs:Int))=false:=decide_eq_false (by omega)
   clear c;generalize ovS ⟨f,r,l,false,fl,tg,cp,rs,el,wt⟩=bo at *;generalize gG ⟨f,r,l,false,fl,tg,cp,rs,el,wt⟩=bh at *;unfold aV.cells at *;dsimp only at *;first
   |revert k1v;intro k1v;cases bo
    all_goals
     go_enter func175,ntmps175;go_wp2_with fail;refine (HO.out _).mono ?_;rintro e w1 ⟨rfl,h1⟩;go_wp2_with fail;go_ret;exact ⟨by rw [HS.out];rfl,aD HB.out h1 HB.out.size⟩
   |revert k3v;intro k3v;cases l
    all_goals
     go_enter func175,ntmps175;go_wp2_with fail;go_ret;exact ⟨by rw [HS.out];rfl,HB.out⟩
   |go_enter func175,ntmps175;go_wp2_with fail;go_ret;exact ⟨by rw [HS.out];rfl,HB.out⟩
theorem eS:(∀(f r l:Bool) (fl tg cp rs el wt:Nat) (w:World) (hx:aV.ok ⟨f,r,l,true,fl,tg,cp,rs,el,wt⟩),Calls prog 175 #[.int .i64 0,.agg (aV.cells ⟨f,r,l,true,fl,tg,cp,rs,el,wt⟩)] w fun e w'=>e=.returned (.int .i64 6)∧Below ↑w w w')∧(∀(f r l:Bool) (fl tg cp rs el wt:Nat) (w:World) (hx:aV.ok ⟨f,r,l,true,fl,tg,cp,rs,el,wt⟩),Calls prog 175 #[.int .i64 1,.agg (aV.cells ⟨f,r,l,true,fl,tg,cp,rs,el,wt⟩)] w fun e w'=>e=.returned (.int .i64 6)∧Below ↑w w w')∧(∀(f r l:Bool) (fl tg cp rs el wt:Nat) (w:World) (hx:aV.ok ⟨f,r,l,true,fl,tg,cp,rs,el,wt⟩),Calls prog 175 #[.int .i64 2,.agg (aV.cells ⟨f,r,l,true,fl,tg,cp,rs,el,wt⟩)] w fun e w'=>e=.returned (.int .i64 6)∧Below ↑w w w')∧(∀(f r l:Bool) (fl tg cp rs el wt:Nat) (w:World) (hx:aV.ok ⟨f,r,l,true,fl,tg,cp,rs,el,wt⟩),Calls prog 175 #[.int .i64 3,.agg (aV.cells ⟨f,r,l,true,fl,tg,cp,rs,el,wt⟩)] w fun e w'=>e=.returned (.int .i64 6)∧Below ↑w w w')∧(∀(f r l:Bool) (fl tg cp rs el wt:Nat) (w:World) (hx:aV.ok ⟨f,r,l,true,fl,tg,cp,rs,el,wt⟩),Calls prog 175 #[.int .i64 4,.agg (aV.cells ⟨f,r,l,true,fl,tg,cp,rs,el,wt⟩)] w fun e w'=>e=.returned (.int .i64 6)∧Below ↑w w w')∧(∀(f r l:Bool) (fl tg cp rs el wt:Nat) (w:World) (hx:aV.ok ⟨f,r,l,true,fl,tg,cp,rs,el,wt⟩),Calls prog 175 #[.int .i64 5,.agg (aV.cells ⟨f,r,l,true,fl,tg,cp,rs,el,wt⟩)] w fun e w'=>e=.returned (.int .i64 6)∧Below ↑w w w')∧(∀(s:Int) (f r l:Bool) (fl tg cp rs el wt:Nat) (w:World) (hx:aV.ok ⟨f,r,l,true,fl,tg,cp,rs,el,wt⟩) (hs:s < 0∨6 < s),Calls prog 175 #[.int .i64 s,.agg (aV.cells ⟨f,r,l,true,fl,tg,cp,rs,el,wt⟩)] w fun e w'=>e=.returned (.int .i64 (bE s ⟨f,r,l,true,fl,tg,cp,rs,el,wt⟩))∧Below ↑w w w'):=by
 refine ⟨?_,?_,?_,?_,?_,?_,?_⟩
 have k0v:Hid True:=trivial;intro f r l fl tg cp rs el wt w hx;rotate_left;have k1v:Hid True:=trivial;intro f r l fl tg cp rs el wt w hx;rotate_left;have k2v:Hid True:=trivial;intro f r l fl tg cp rs el wt w hx;rotate_left;have k3v:Hid True:=trivial;intro f r l fl tg cp rs el wt w hx;rotate_left;have k4v:Hid True:=trivial;intro f r l fl tg cp rs el wt w hx;rotate_left;have k5v:Hid True:=trivial;intro f r l fl tg cp rs el wt w hx;rotate_left;have k6v:Hid True:=trivial;intro s f r l fl tg cp rs el wt w hx hs;rotate_left
 all_goals
  have HB:=lh ((Below.refl w.heap.size w).alloc (Nat.le_refl _) (.cells (aV.cells ⟨f,r,l,true,fl,tg,cp,rs,el,wt⟩) 282));have HK:=lh (Blk.new w 282 (aV.cells ⟨f,r,l,true,fl,tg,cp,rs,el,wt⟩));first
  |revert k0v;intro k0v;have HR:=lh (fun w=>cG 0 w);rw [show bI 0=true by decide] at HR
  |revert k1v;intro k1v;have HR:=lh (fun w=>cG 1 w);rw [show bI 1=true by decide] at HR
  |revert k2v;intro k2v;have HR:=lh (fun w=>cG 2 w);rw [show bI 2=true by decide] at HR
  |revert k3v;intro k3v;have HR:=lh (fun w=>cG 3 w);rw [show bI 3=true by decide] at HR
  |revert k4v;intro k4v;have HR:=lh (fun w=>cG 4 w);rw [show bI 4=true by decide] at HR
  |revert k5v;intro k5v;have HR:=lh (fun w=>cG 5 w);rw [show bI 5=true by decide] at HR
  |have HR:=lh (fun w=>cG s w);rw [fQ hs] at HR
  have HO:=lh (fun w=>kO ⟨f,r,l,true,fl,tg,cp,rs,el,wt⟩ w);have HP:=lh (fun w=>gR ⟨f,r,l,true,fl,tg,cp,rs,el,wt⟩ w);have HH:=lh (fun w=>kP ⟨f,r,l,true,fl,tg,cp,rs,el,wt⟩ hx w);clear hx;first
  |revert k6v;intro k6v;have HS:Hid (bE s ⟨f,r,l,true,fl,tg,cp,rs,el,wt⟩=s):=lh (by unfold bE;rw [if_neg (by omega),if_neg (by omega),if_neg (by omega),if_neg (by omega),if_neg (by omega),if_neg (by omega),if_neg (by omega)]);have t0:(s == 0)=false:=beq_eq_false_iff_ne.2 (by omega);have t1:(s == 1)=false:=beq_eq_false_iff_ne.2 (by omega);have t2:(s == 2)=false:=beq_eq_false_iff_ne.2 (by omega);have t3:(s == 3)=false:=beq_eq_false_iff_ne.2 (by omega);have t4:(s == 4)=false:=beq_eq_false_iff_ne.2 (by omega);have t5:(s == 5)=false:=beq_eq_false_iff_ne.2 (by omega);have t6:(s == 6)=false:=beq_eq_false_iff_ne.2 (by omega);clear hs
  |skip
  generalize ovS ⟨f,r,l,true,fl,tg,cp,rs,el,wt⟩=bo at *;generalize gG ⟨f,r,l,true,fl,tg,cp,rs,el,wt⟩=bh at *;unfold aV.cells at *;dsimp only at *;go_enter func175,ntmps175;go_wp2_with fail;refine (HR.out _).mono ?_;rintro e w' ⟨rfl,rfl⟩;go_wp2_with fail;go_ret;first
  |revert k6v;intro k6v;exact ⟨by rw [HS.out];rfl,HB.out⟩
  |exact ⟨rfl,HB.out⟩
theorem pU:(∀(f r l:Bool) (fl tg cp rs el wt:Nat) (w:World) (hx:aV.ok ⟨f,r,l,true,fl,tg,cp,rs,el,wt⟩),Calls prog 175 #[.int .i64 6,.agg (aV.cells ⟨f,r,l,true,fl,tg,cp,rs,el,wt⟩)] w fun e w'=>e=.returned (.int .i64 (bE 6 ⟨f,r,l,true,fl,tg,cp,rs,el,wt⟩))∧Below ↑w w w')∧(∀(f r l:Bool) (fl tg cp rs el wt:Nat) (w:World) (hx:aV.ok ⟨f,r,l,false,fl,tg,cp,rs,el,wt⟩),Calls prog 175 #[.int .i64 6,.agg (aV.cells ⟨f,r,l,false,fl,tg,cp,rs,el,wt⟩)] w fun e w'=>e=.returned (.int .i64 (bE 6 ⟨f,r,l,false,fl,tg,cp,rs,el,wt⟩))∧Below ↑w w w'):=by
 refine ⟨?_,?_⟩
 have k0v:Hid True:=trivial;rotate_left;rotate_left
 all_goals intro f r l fl tg cp rs el wt w hx
 all_goals
  first
  |revert k0v;intro k0v;have HB:=lh ((Below.refl w.heap.size w).alloc (Nat.le_refl _) (.cells (aV.cells ⟨f,r,l,true,fl,tg,cp,rs,el,wt⟩) 282));have HK:=lh (Blk.new w 282 (aV.cells ⟨f,r,l,true,fl,tg,cp,rs,el,wt⟩))
  |have HB:=lh ((Below.refl w.heap.size w).alloc (Nat.le_refl _) (.cells (aV.cells ⟨f,r,l,false,fl,tg,cp,rs,el,wt⟩) 282));have HK:=lh (Blk.new w 282 (aV.cells ⟨f,r,l,false,fl,tg,cp,rs,el,wt⟩))
  have HR:=lh (fun w=>cG 6 w);rw [show bI 6=true by decide] at HR;first
  |revert k0v;intro k0v;have HO:=lh (fun w=>kO ⟨f,r,l,true,fl,tg,cp,rs,el,wt⟩ w);have HP:=lh (fun w=>gR ⟨f,r,l,true,fl,tg,cp,rs,el,wt⟩ w);have HH:=lh (fun w=>kP ⟨f,r,l,true,fl,tg,cp,rs,el,wt⟩ hx w)
  |have HO:=lh (fun w=>kO ⟨f,r,l,false,fl,tg,cp,rs,el,wt⟩ w);have HP:=lh (fun w=>gR ⟨f,r,l,false,fl,tg,cp,rs,el,wt⟩ w);have HH:=lh (fun w=>kP ⟨f,r,l,false,fl,tg,cp,rs,el,wt⟩ hx w)
  clear hx;by_cases c:1≤rs
  ·first
   |revert k0v;intro k0v;have HS:Hid (bE 6 ⟨f,r,l,true,fl,tg,cp,rs,el,wt⟩=if (ovS ⟨f,r,l,true,fl,tg,cp,rs,el,wt⟩ && true)=true then (if f=true then 3 else 0) else 6):=lh (by unfold bE;rw [if_neg (by decide),if_neg (by decide),if_neg (by decide),if_neg (by decide),if_neg (by decide),if_neg (by decide),if_pos rfl];rw [decide_eq_true c])
   |have HS:Hid (bE 6 ⟨f,r,l,false,fl,tg,cp,rs,el,wt⟩=if (ovS ⟨f,r,l,false,fl,tg,cp,rs,el,wt⟩ && true)=true then (if f=true then 3 else 0) else 6):=lh (by unfold bE;rw [if_neg (by decide),if_neg (by decide),if_neg (by decide),if_neg (by decide),if_neg (by decide),if_neg (by decide),if_pos rfl];rw [decide_eq_true c])
   have t1:decide ((1:Int)≤(rs:Int))=true:=decide_eq_true (by omega);clear c;first
   |revert k0v;intro k0v;generalize ovS ⟨f,r,l,true,fl,tg,cp,rs,el,wt⟩=bo at *;generalize gG ⟨f,r,l,true,fl,tg,cp,rs,el,wt⟩=bh at *
   |generalize ovS ⟨f,r,l,false,fl,tg,cp,rs,el,wt⟩=bo at *;generalize gG ⟨f,r,l,false,fl,tg,cp,rs,el,wt⟩=bh at *
   unfold aV.cells at *;dsimp only at *;cases bo
   ·first
    |revert k0v;intro k0v;go_enter func175,ntmps175;go_wp2_with fail;refine (HR.out _).mono ?_;rintro e w' ⟨rfl,rfl⟩
    |go_enter func175,ntmps175
    go_wp2_with fail;refine (HO.out _).mono ?_;rintro e w1 ⟨rfl,h1⟩;obtain ⟨k0,k1,k2,k3,k4,k5,k6,k7,k8,k9⟩:=wD (HK.out.keep h1);go_wp2_with fail;go_ret;exact ⟨by rw [HS.out];rfl,aD HB.out h1 HB.out.size⟩
   ·cases f
    all_goals
     first
     |revert k0v;intro k0v;go_enter func175,ntmps175;go_wp2_with fail;refine (HR.out _).mono ?_;rintro e w' ⟨rfl,rfl⟩
     |go_enter func175,ntmps175
     go_wp2_with fail;refine (HO.out _).mono ?_;rintro e w1 ⟨rfl,h1⟩;obtain ⟨k0,k1,k2,k3,k4,k5,k6,k7,k8,k9⟩:=wD (HK.out.keep h1);go_wp2_with fail;refine (HP.out _).mono ?_;rintro e w2 ⟨rfl,h2⟩;go_wp2_with fail;go_ret;exact ⟨by rw [HS.out];rfl,aD (aD HB.out h1 HB.out.size) h2 (Nat.le_trans HB.out.size h1.size)⟩
  ·first
   |revert k0v;intro k0v;have HS:Hid (bE 6 ⟨f,r,l,true,fl,tg,cp,rs,el,wt⟩=if (ovS ⟨f,r,l,true,fl,tg,cp,rs,el,wt⟩ && false)=true then (if f=true then 3 else 0) else 6):=lh (by unfold bE;rw [if_neg (by decide),if_neg (by decide),if_neg (by decide),if_neg (by decide),if_neg (by decide),if_neg (by decide),if_pos rfl];rw [decide_eq_false c])
   |have HS:Hid (bE 6 ⟨f,r,l,false,fl,tg,cp,rs,el,wt⟩=if (ovS ⟨f,r,l,false,fl,tg,cp,rs,el,wt⟩ && false)=true then (if f=true then 3 else 0) else 6):=lh (by unfold bE;rw [if_neg (by decide),if_neg (by decide),if_neg (by decide),if_neg (by decide),if_neg (by decide),if_neg (by decide),if_pos rfl];rw [decide_eq_false c])
   have t1:decide ((1:Int)≤(rs:Int))=false:=decide_eq_false (by omega);clear c;first
   |revert k0v;intro k0v;generalize ovS ⟨f,r,l,true,fl,tg,cp,rs,el,wt⟩=bo at *;generalize gG ⟨f,r,l,true,fl,tg,cp,rs,el,wt⟩=bh at *
   |generalize ovS ⟨f,r,l,false,fl,tg,cp,rs,el,wt⟩=bo at *;generalize gG ⟨f,r,l,false,fl,tg,cp,rs,el,wt⟩=bh at *
   unfold aV.cells at *;dsimp only at *;cases bo
   all_goals
    first
    |revert k0v;intro k0v;go_enter func175,ntmps175;go_wp2_with fail;refine (HR.out _).mono ?_;rintro e w' ⟨rfl,rfl⟩
    |go_enter func175,ntmps175
    go_wp2_with fail;refine (HO.out _).mono ?_;rintro e w1 ⟨rfl,h1⟩;obtain ⟨k0,k1,k2,k3,k4,k5,k6,k7,k8,k9⟩:=wD (HK.out.keep h1);go_wp2_with fail;go_ret;exact ⟨by rw [HS.out];rfl,aD HB.out h1 HB.out.size⟩
theorem lW:(∀(f r l:Bool) (fl tg cp rs el wt:Nat) (w:World) (hx:aV.ok ⟨f,r,l,false,fl,tg,cp,rs,el,wt⟩),Calls prog 175 #[.int .i64 0,.agg (aV.cells ⟨f,r,l,false,fl,tg,cp,rs,el,wt⟩)] w fun e w'=>e=.returned (.int .i64 (bE 0 ⟨f,r,l,false,fl,tg,cp,rs,el,wt⟩))∧Below ↑w w w')∧(∀(f r l:Bool) (fl tg cp rs el wt:Nat) (w:World) (hx:aV.ok ⟨f,r,l,false,fl,tg,cp,rs,el,wt⟩),Calls prog 175 #[.int .i64 3,.agg (aV.cells ⟨f,r,l,false,fl,tg,cp,rs,el,wt⟩)] w fun e w'=>e=.returned (.int .i64 (bE 3 ⟨f,r,l,false,fl,tg,cp,rs,el,wt⟩))∧Below ↑w w w')∧(∀(s:Int) (f r l:Bool) (fl tg cp rs el wt:Nat) (w:World) (hx:aV.ok ⟨f,r,l,false,fl,tg,cp,rs,el,wt⟩) (hs:s < 0∨6 < s),Calls prog 175 #[.int .i64 s,.agg (aV.cells ⟨f,r,l,false,fl,tg,cp,rs,el,wt⟩)] w fun e w'=>e=.returned (.int .i64 (bE s ⟨f,r,l,false,fl,tg,cp,rs,el,wt⟩))∧Below ↑w w w'):=by
 refine ⟨?_,?_,?_⟩
 have k0v:Hid True:=trivial;intro f r l fl tg cp rs el wt w hx;rotate_left;have k1v:Hid True:=trivial;intro f r l fl tg cp rs el wt w hx;rotate_left;have k2v:Hid True:=trivial;intro s f r l fl tg cp rs el wt w hx hs;rotate_left
 all_goals
  have HB:=lh ((Below.refl w.heap.size w).alloc (Nat.le_refl _) (.cells (aV.cells ⟨f,r,l,false,fl,tg,cp,rs,el,wt⟩) 282));have HK:=lh (Blk.new w 282 (aV.cells ⟨f,r,l,false,fl,tg,cp,rs,el,wt⟩));first
  |revert k0v;intro k0v;have HR:=lh (fun w=>cG 0 w);rw [show bI 0=true by decide] at HR
  |revert k1v;intro k1v;have HR:=lh (fun w=>cG 3 w);rw [show bI 3=true by decide] at HR
  |have HR:=lh (fun w=>cG s w);rw [fQ hs] at HR
  have HO:=lh (fun w=>kO ⟨f,r,l,false,fl,tg,cp,rs,el,wt⟩ w);have HP:=lh (fun w=>gR ⟨f,r,l,false,fl,tg,cp,rs,el,wt⟩ w);have HH:=lh (fun w=>kP ⟨f,r,l,false,fl,tg,cp,rs,el,wt⟩ hx w);clear hx;first
  |revert k0v;intro k0v
  |revert k1v;intro k1v;have HS:Hid (bE 3 ⟨f,r,l,false,fl,tg,cp,rs,el,wt⟩=if ovS ⟨f,r,l,false,fl,tg,cp,rs,el,wt⟩=true then 4 else 3):=lh (by unfold bE;rw [if_neg (by decide),if_neg (by decide),if_neg (by decide),if_pos rfl])
  |have HS:Hid (bE s ⟨f,r,l,false,fl,tg,cp,rs,el,wt⟩=s):=lh (by unfold bE;rw [if_neg (by omega),if_neg (by omega),if_neg (by omega),if_neg (by omega),if_neg (by omega),if_neg (by omega),if_neg (by omega)]);have t0:(s == 0)=false:=beq_eq_false_iff_ne.2 (by omega);have t1:(s == 1)=false:=beq_eq_false_iff_ne.2 (by omega);have t2:(s == 2)=false:=beq_eq_false_iff_ne.2 (by omega);have t3:(s == 3)=false:=beq_eq_false_iff_ne.2 (by omega);have t4:(s == 4)=false:=beq_eq_false_iff_ne.2 (by omega);have t5:(s == 5)=false:=beq_eq_false_iff_ne.2 (by omega);have t6:(s == 6)=false:=beq_eq_false_iff_ne.2 (by omega);clear hs
  generalize ovS ⟨f,r,l,false,fl,tg,cp,rs,el,wt⟩=bo at *;generalize gG ⟨f,r,l,false,fl,tg,cp,rs,el,wt⟩=bh at *;unfold aV.cells at *;dsimp only at *;first
  |revert k2v;intro k2v;go_enter func175,ntmps175;go_wp2_with fail;go_ret;exact ⟨by rw [HS.out];rfl,HB.out⟩
  |revert k0v;intro k0v;cases f <;> cases l
   all_goals
    go_enter func175,ntmps175;go_wp2_with fail;go_ret;exact ⟨rfl,HB.out⟩
  |cases bo
   all_goals
    go_enter func175,ntmps175;go_wp2_with fail;refine (HO.out _).mono ?_;rintro e w1 ⟨rfl,h1⟩;go_wp2_with fail;go_ret;exact ⟨by rw [HS.out];rfl,aD HB.out h1 HB.out.size⟩
theorem MB (s:Int) (x:aV) (hx:x.ok) (w:World):Calls prog 175 #[.int .i64 s,.agg x.cells] w fun e w'=>e=.returned (.int .i64 (fM s x))∧Below ↑w w w':=by
 obtain ⟨f,r,l,st,fl,tg,cp,rs,el,wt⟩:=x;cases st
 ·rw [lV (Or.inl rfl)]
  revert s
  exact nW (lW.1 f r l fl tg cp rs el wt w hx) (jR.1 f r l fl tg cp rs el wt w hx) (jR.2.1 f r l fl tg cp rs el wt w hx) (lW.2.1 f r l fl tg cp rs el wt w hx) (jR.2.2.1 f r l fl tg cp rs el wt w hx) (jR.2.2.2 f r l fl tg cp rs el wt w hx) (pU.2 f r l fl tg cp rs el wt w hx) (fun s hs=>lW.2.2 s f r l fl tg cp rs el wt w hx hs)
 ·revert s
  refine nW ?_ ?_ ?_ ?_ ?_ ?_ ?_ (fun s hs=>?_)
  ·rw [eR (by decide) (by decide) rfl];exact eS.1 f r l fl tg cp rs el wt w hx
  ·rw [eR (by decide) (by decide) rfl];exact eS.2.1 f r l fl tg cp rs el wt w hx
  ·rw [eR (by decide) (by decide) rfl];exact eS.2.2.1 f r l fl tg cp rs el wt w hx
  ·rw [eR (by decide) (by decide) rfl];exact eS.2.2.2.1 f r l fl tg cp rs el wt w hx
  ·rw [eR (by decide) (by decide) rfl];exact eS.2.2.2.2.1 f r l fl tg cp rs el wt w hx
  ·rw [eR (by decide) (by decide) rfl];exact eS.2.2.2.2.2.1 f r l fl tg cp rs el wt w hx
  ·rw [lV (Or.inr (Or.inr rfl))];exact pU.1 f r l fl tg cp rs el wt w hx
  ·rw [lV (Or.inr (Or.inl (fQ hs)))];exact eS.2.2.2.2.2.2 s f r l fl tg cp rs el wt w hx hs
end
end Go.Proofs.YtjhiooggnpbecaaGreatDoor
