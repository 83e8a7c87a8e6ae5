/- Lemmas. -/
import Derived.Test.YtjhiooggnpbecaaGreatDoorK406
import Derived.Test.YtjhiooggnpbecaaGreatDoorK413
import Derived.Deep.DeepCutAuto
set_option linter.unusedVariables false
set_option maxHeartbeats 2000000
set_option maxRecDepth 100000
namespace Go.Proofs.YtjhiooggnpbecaaGreatDoor
open Tryz
variable {L:List Nat} {c cs:List Value} {B a b g0 i j m o rb t z:Nat} {T:TypeId} {v':Value} {W w w' w0 w1:World}
section
open Go.RowKit Pl
def uS (b:Nat) (f:FS):Array Value:=#[↑(π b),↑f.win,↑f.t,.bool f.least]
structure dD (w:World) (a b g:Nat) (f:FS):Prop where
 head:Blk w a 249 (uS b f)
 row:bK w b g f.l
theorem dD.keep {w w':World} {a b g:Nat} {f:FS} (h:dD w a b g f) (k:Below ↑w w w'):dD w' a b g f:=⟨h.head.keep k,h.row.keep k⟩
theorem dD.fr {w w':World} {a b g:Nat} {f:FS} {L:List Nat} (h:dD w a b g f) (k:Fr w w' L) (h1:a ∉ L) (h2:b ∉ L) (h3:g ∉ L):dD w' a b g f:=⟨h.head.fr k h1,h.row.fr k h2 h3⟩
theorem dD.ab {g:Nat} {f:FS} (h:dD w a b g f):a≠b:=by obtain ⟨cs,k⟩:=h.row.head;exact h.head.ty k (by decide)
theorem dD.ag {g:Nat} {f:FS} (h:dD w a b g f):a≠g:=by obtain ⟨cs,k⟩:=h.row.body;exact h.head.ty k (by decide)
theorem dD.lt {w:World} {a b g:Nat} {f:FS} (h:dD w a b g f):a < w.heap.size∧b < w.heap.size∧g < w.heap.size:=⟨h.head.lt,h.row.lt.1,h.row.lt.2⟩
structure lQ (w:World) (a b g:Nat) (v:Ending) (f:FS) (e:Ending) (w':World):Prop where
 e:e=v
 at_:∃g',dD w' a b g' f∧(g'=g∨w.heap.size≤g')
 fr:Fr w w' [a,b,g]
theorem zB (a b g:Nat) (f:FS) (r:Rd) (w:World) (h:dD w a b g f) (ho:f.ok) (hr:r.t≤↑ω):
  Calls prog 272 #[↑(π a),r.agg] w fun e w'=>e=.returned (.bool (dV f.win f.t r))∧Below ↑w w w':=by
 unfold Rd.agg;have HB:=lh (show Blk (w.alloc (.cells #[↑r.t,↑r.x] 247)) w.heap.size 247 #[↑r.t,↑r.x] from Blk.new _ _ _);have HA:=lh (h.head.alloc (.cells #[↑r.t,↑r.x] 247));have HW:Hid (Below ↑w w (w.alloc (.cells #[↑r.t,↑r.x] 247))):=lh ((Below.refl _ _).alloc (Nat.le_refl _) _);have r0:=HB.out.drew.cell (i:=0) (v:=↑r.t) rfl;have a1:=HA.out.drew.cell (i:=1) (v:=↑f.win) rfl;have a2:=HA.out.drew.cell (i:=2) (v:=↑f.t) rfl;have hw:=ho.win;clear h ho;go_enter func272,ntmps272;go_wp2_with fail;generalize (w.alloc (.cells #[↑r.t,↑r.x] 247))=wa at *;go_region_held3 (fun w'=>w'.cell? ⟨w.heap.size,0,none⟩=some ↑r.t∧w'.cell? ⟨a,1,none⟩=some ↑f.win∧w'.cell? ⟨a,2,none⟩=some ↑f.t)
  (first | exact ⟨r0,a1,a2⟩ | exact ⟨aQ r0 _,aQ a1 _,aQ a2 _⟩ | exact ⟨b0,b1,b2⟩ | (trace_state;fail))
  (first | (go_at_call 60;refine (BJ wa.drew _ _ r.t f.win rfl (by omega) (by omega)).mono ?_;rintro e w' ⟨rfl,hd⟩;have HD:=lh hd;clear hd;have b0:=(HD.out.cell (p:=⟨w.heap.size,0,none⟩) (World.block_lt_of_cell? _ _ r0)).trans r0;have b1:=(HD.out.cell (p:=⟨a,1,none⟩) (World.block_lt_of_cell? _ _ a1)).trans a1;have b2:=(HD.out.cell (p:=⟨a,2,none⟩) (World.block_lt_of_cell? _ _ a2)).trans a2))
 go_wp2_with fail;go_ret;exact ⟨rfl,HW.out.trans ((((aB.drew wa).below _).trans (HD.out.mono (Nat.le_refl _))).mono HW.out.size)⟩
theorem PZ (w:World) (o p:Obj):Below ↑w w ((w.alloc o).alloc p):=((Below.refl _ _).alloc (Nat.le_refl _) _).alloc (by simp) _
theorem DL (r s:Rd) (w:World):Calls prog 282 #[r.agg,s.agg] w fun e w'=>e=.returned (.bool (bt true r s))∧Below ↑w w w':=by
 unfold Rd.agg;go_enter func282,ntmps282;go_wp2_with fail;go_ret;exact ⟨by simp [bt],PZ w _ _⟩
theorem DM (r s:Rd) (w:World):Calls prog 283 #[r.agg,s.agg] w fun e w'=>e=.returned (.bool (bt false r s))∧Below ↑w w w':=by
 unfold Rd.agg;go_enter func283,ntmps283;go_wp2_with fail;go_ret;exact ⟨by simp [bt],PZ w _ _⟩
def wO (least:Bool) (r:Rd):Value:=if least then .func (.func 282) #[r.agg] #[] else .func (.func 283) #[r.agg] #[]
theorem zC (a b g:Nat) (f:FS) (r:Rd) (w:World) (h:dD w a b g f):
  Calls prog 274 #[↑(π a),r.agg] w fun e w'=>e=.returned (wO f.least r)∧Below ↑w w w':=by
 unfold wO Rd.agg;have a3:=(h.head.alloc (.cells #[↑r.t,↑r.x] 247)).cell (i:=3) (v:=.bool f.least) rfl;rcases hl:f.least
 ·rw [hl] at a3
  go_enter func274,ntmps274;go_wp2_with fail;go_ret;exact ⟨rfl,(Below.refl _ _).alloc (Nat.le_refl _) _⟩
 ·rw [hl] at a3
  go_enter func274,ntmps274;go_wp2_with fail;go_ret;exact ⟨rfl,(Below.refl _ _).alloc (Nat.le_refl _) _⟩
theorem mU (b g:Nat) (l:List Rd) (w:World) (h:bK w b g l):
  Calls prog 193 #[↑(π b),.int .i64 0] w fun e w'=>e=dB (l.headD Itm.z) (!l.isEmpty)∧Below ↑w w w':=by
 rcases l with _ | ⟨x,r⟩
 ·exact oI b g 0 [] w h (.inr (by simp))
 ·exact MM b g 0 (x :: r) w h (by simp)
theorem uT (b g:Nat) (l:List Rd) (w:World) (h:bK w b g l):
  Calls prog 193 #[↑(π b),.int .i64 ((l.length:Int) - 1)] w fun e w'=>e=dB (l.getLastD Itm.z) (!l.isEmpty)∧Below ↑w w w':=by
 rcases List.eq_nil_or_concat l with rfl | ⟨r,x,rfl⟩
 ·exact oI b g _ [] w h (.inl (by simp))
 ·have:=MM b g r.length (r ++ [x]) w (by simpa using h) (by simp)
  have e:(!(r ++ [x]).isEmpty)=true:=by cases r <;> rfl
  rw [List.concat_eq_append,e];simpa [List.getD_eq_getElem?_getD] using this

theorem wP (a b g:Nat) (f:FS) (w:World) (h:dD w a b g f):
  Calls prog 275 #[↑(π a)] w fun e w'=>e=dB (f.l.getLastD Itm.z) (!f.l.isEmpty)∧Below ↑w w w':=by
 have HB:=lh (show Blk (w.alloc (.cells #[↑ζ,↑ζ] 247)) w.heap.size 247 #[↑ζ,↑ζ] from Blk.new _ _ _);have HR:=lh (h.row.alloc (.cells #[↑ζ,↑ζ] 247));have HA:=lh (h.head.alloc (.cells #[↑ζ,↑ζ] 247));have HW:Hid (Below ↑w w (w.alloc (.cells #[↑ζ,↑ζ] 247))):=lh ((Below.refl _ _).alloc (Nat.le_refl _) _);have a0:=HA.out.drew.cell (i:=0) (v:=↑(π b)) rfl;have HZ:Hid (a≠w.heap.size):=lh h.head.old;have hlen:=h.row.len;clear h;have HL:=lh (NF b g f.l (w.alloc (.cells #[↑ζ,↑ζ] 247)).drew (HR.out.drawn (aB.drew _)));have HQ:=lh (uT b g f.l (w.alloc (.cells #[↑ζ,↑ζ] 247)).drew (HR.out.drawn (aB.drew _)));generalize f.l.getLastD Itm.z=x at *;generalize (!f.l.isEmpty)=o at *;generalize f.l.length=n at *;have HWR:Hid (IntKind.i64.wrap ((n:Int) - 1)=(n:Int) - 1):=lh (by rw [IntKind.wrap_i64];omega);go_enter func275,ntmps275;go_wp2_with fail;generalize (w.alloc (.cells #[↑ζ,↑ζ] 247))=wa at *;go_region_held3 (fun w'=>w'.cell? ⟨a,0,none⟩=some ↑(π b))
  (first | exact a0 | exact b0 | exact (far (far b0 HZ.out) HZ.out))
  (first | (go_at_call 250;refine (HL.out).mono ?_;rintro e w' ⟨rfl,rfl⟩) | (go_at_call 193;rw [HWR.out];refine (HQ.out).mono ?_;rintro e w' ⟨rfl,hd⟩;have HD:=lh hd;clear hd;have HB2:=lh (HB.out.drew.keep HD.out);have r0:=HB2.out.cell (i:=0) (v:=↑ζ) rfl;have r1:=HB2.out.cell (i:=1) (v:=↑ζ) rfl;have f0:=HB2.out.free 0;have f1:=HB2.out.free 1;unfold dB Rd.agg;have b0:=(HD.out.cell (p:=⟨a,0,none⟩) (World.block_lt_of_cell? _ _ a0)).trans a0))
 go_wp2_with fail;have F1:=Blk.whole (Itm.cs x) HB2.out rfl;refine bodyPost_ret (aF rfl _ _ w.heap.size 247 _ _ rfl F1 underlying247 rfl (by kernel_rfl)) rfl ⟨rfl,?_⟩;exact Below.sets (Nat.le_refl _) (Itm.cs x) 0 w' (HW.out.trans ((((aB.drew wa).below _).trans (HD.out.mono (Nat.le_refl _))).mono HW.out.size))

def wQ (w:World) (b:Nat):Nat:=match w.cell? ⟨b,2,none⟩ with | some v=>(intOf v).toNat | none=>0
theorem bK.cnt {w:World} {b g:Nat} {l:List Rd} (h:bK w b g l):wQ w b=l.length:=by
 obtain ⟨q,_,h2,h3⟩:=h;have:=h3.head.cell (i:=2) (v:=.int .i64 (q.cnt:Int)) rfl;rw [wQ,this,← h2,QS.len_items];simp [intOf]
def FS.with (f:FS) (l:List Rd):FS:=⟨f.win,f.t,f.least,l⟩
def DN (w:World) (a b g:Nat) (f:FS) (vz vo:Value) (wr:World):Prop:=
 ∃(z g':Nat) (l:List Rd),vz=↑(π z)∧vo=.bool (!l.isEmpty)∧dD wr a b g' (f.with l)∧Blk wr z 247 (Itm.cs (l.headD Itm.z)).toArray∧
  l.dropWhile (fun r=>!dV f.win f.t r)=f.l.dropWhile (fun r=>!dV f.win f.t r)∧(g'=g∨w.heap.size≤g')∧↑w≤z∧z≠g'∧Fr w wr [a,b,g]∧l.length≤f.l.length∧(∀r∈l,r∈f.l)
theorem FS.with_ok {f:FS} (ho:f.ok) {l:List Rd} (hn:l.length≤f.l.length) (hs:∀r∈l,r∈f.l):(f.with l).ok:=⟨ho.win,ho.t,fun r hr=>ho.l r (hs r hr),Nat.le_trans hn ho.n⟩
theorem zD (a b g:Nat) (f:FS) (w:World) (h:dD w a b g f) (ho:f.ok):
  Calls prog 259 #[↑(π a)] w (lQ w a b g (.returned (.tuple #[])) (f.with (f.l.dropWhile fun r=>!dV f.win f.t r))):=by
 have HH:=lh h;have HO:=lh ho;have a0:=h.head.cell (i:=0) (v:=↑(π b)) rfl;have HQ:=lh (mU b g f.l w h.row);have hal:=h.lt;clear h ho;generalize hx:f.l.headD Itm.z=x at *;have HX:=lh hx;clear hx;go_enter func259,ntmps259;go_wp2_with fail;refine (HQ.out).mono ?_;rintro e w1 ⟨rfl,hb⟩;have HB:=lh hb;have H1:=lh (HH.out.keep hb);clear hb HQ;unfold dB Rd.agg;go_wp2_with fail;have R0:Hid (DN w a b g f ↑(π w1.heap.size) (.bool (!f.l.isEmpty)) (w1.alloc (.cells #[↑x.t,↑x.x] 247))):=lh
  ⟨w1.heap.size,g,f.l,rfl,rfl,⟨H1.out.head.alloc _,H1.out.row.alloc _⟩,by rw [HX.out];exact Blk.new _ _ _,rfl,.inl rfl,HB.out.size,(by have:=H1.out.lt;omega),(Fr.of_below HB.out _).alloc _,Nat.le_refl _,fun _ h=>h⟩
 go_loopw [2,3] (fun vz vo wr=>DN w a b g f vz vo wr) (fun _ _ wr=>wQ wr b)
 case atStart=>exact R0.out
 case round=>
  obtain ⟨z,g',l,rfl,rfl,hf,hz,hd,hg,hzs,hzg,hfr,hn,hs⟩:=hrel;have HF:=lh hf;have HZ:=lh hz;have HD:=lh hd;have HR:=lh hfr;have HG:=lh hg;have HS:=lh hs;have HN:=lh hn;have HOk:=lh (FS.with_ok HO.out hn hs);clear hf hz hd hg hfr hs hn R0;rcases l with _ | ⟨r,l⟩
  ·go_wp2_with fail
   go_end0
   exact ⟨rfl,⟨g',by rw [← HD.out];exact HF.out,HG.out⟩,HR.out⟩
  ·have HC:=lh (zB a b g' (f.with (r :: l)) r wr HF.out HOk.out (HOk.out.l r (by simp [FS.with])))
   have z0:=HZ.out.cell (i:=0) (v:=↑r.t) rfl;have z1:=HZ.out.cell (i:=1) (v:=↑r.x) rfl;unfold Rd.agg at HC;go_wp2_with fail;refine (HC.out).mono ?_;rintro e w2 ⟨rfl,hb⟩;have hcc:dV (f.with (r :: l)).win (f.with (r :: l)).t r=dV f.win f.t r:=rfl;rw [hcc];clear hcc;have HF2:=lh (HF.out.keep hb);have HZ2:=lh (HZ.out.keep hb);have HR2:=lh (HR.out.below hb);clear hb HC z0 z1 HZ HR;by_cases c:dV f.win f.t r=true
   ·have HE:Hid (f.l.dropWhile (fun r=>!dV f.win f.t r)=r :: l):=lh (by rw [← HD.out,List.dropWhile_cons,if_neg (by simp [c])])
    rw [c];go_wp2_with fail;go_end0
    rw [HE.out];exact ⟨rfl,⟨g',HF2.out,HG.out⟩,HR2.out⟩
   ·have HD2:Hid (l.dropWhile (fun r=>!dV f.win f.t r)=f.l.dropWhile (fun r=>!dV f.win f.t r)):=lh (by rw [← HD.out,List.dropWhile_cons,if_pos (by simp [c])])
    rw [eq_false_of_ne_true c];have a1:=HF2.out.head.cell (i:=0) (v:=↑(π b)) rfl;have HSh:=lh (BU b g' r l w2 HF2.out.row);clear HD c;go_wp2_with fail;refine (HSh.out).mono ?_;rintro e w3 ⟨rfl,hat,hfr⟩;obtain ⟨g2,hrow,hg2⟩:=hat;have HA3:=lh (HF2.out.head.fr hfr (by simp;exact ⟨HF2.out.ab,HF2.out.ag⟩));have HRow3:=lh hrow;have hzb:z≠b:=by obtain ⟨cs,k⟩:=HF2.out.row.head;exact HZ2.out.ty k (by decide)
    have HZ3:=lh (HZ2.out.fr hfr (by simp;exact ⟨hzb,hzg⟩));have HR3:=lh (HR2.out.trans hfr (by have:=HG.out;intro y hy;simp at hy ⊢;omega));have HG3:Hid (g2=g∨w.heap.size≤g2):=lh (by have:=HG.out;have:=HR2.out.size;omega);have z0:=HZ3.out.cell (i:=0) (v:=↑r.t) rfl;have z1:=HZ3.out.cell (i:=1) (v:=↑r.x) rfl;clear hrow hg2 hfr HSh a1;unfold dB Rd.agg;have HZ4:Hid (Blk (w3.alloc (.cells #[↑r.t,↑r.x] 247)) w3.heap.size 247 #[↑r.t,↑r.x]):=lh (Blk.new _ _ _);have HA4:=lh (HA3.out.alloc (.cells #[↑r.t,↑r.x] 247));have HRow4:=lh (HRow3.out.alloc (.cells #[↑r.t,↑r.x] 247));have HR4:=lh (HR3.out.alloc (.cells #[↑r.t,↑r.x] 247));have HG4:Hid (w3.heap.size≠g2):=lh (by have:=HRow3.out.lt;omega);have HS4:Hid (w.heap.size≤↑w3):=lh HR3.out.size;have a1:=HA4.out.cell (i:=0) (v:=↑(π b)) rfl;have HF4:=lh (mU b g2 l _ HRow4.out);clear HZ3 HA3 HRow3 HR3;generalize hy:l.headD Itm.z=y at *;have HY:=lh hy;clear hy;go_wp2_with fail;refine (HF4.out).mono ?_;rintro e w5 ⟨rfl,hb⟩;have HZ5:=lh (HZ4.out.keep hb);have HA5:=lh (HA4.out.keep hb);have HRow5:=lh (HRow4.out.keep hb);have HR5:=lh (HR4.out.below hb);clear hb HF4 HZ4 HA4 HRow4 HR4 a1 z0 z1;unfold dB Rd.agg;have z0:=HZ5.out.cell (i:=0) (v:=↑r.t) rfl;have z1:=HZ5.out.cell (i:=1) (v:=↑r.x) rfl;have f0:=HZ5.out.free 0;have f1:=HZ5.out.free 1;generalize w3.heap.size=q at *;go_wp2_with fail;have HZ6:Hid (Blk ((w5.setCell ⟨q,0,none⟩ ↑y.t).setCell ⟨q,1,none⟩ ↑y.x) q 247 (Itm.cs y).toArray):=lh (Blk.whole (Itm.cs y) HZ5.out rfl);have hqa:a≠q:=HA5.out.ty HZ5.out (by decide);have hqb:b≠q:=by obtain ⟨cs,k⟩:=HRow5.out.head;exact k.ty HZ5.out (by decide)
    have HA6:Hid (Blk ((w5.setCell ⟨q,0,none⟩ ↑y.t).setCell ⟨q,1,none⟩ ↑y.x) a 249 (uS b (f.with l))):=lh ((HA5.out.set_other _ _ hqa).set_other _ _ hqa);have HRow6:Hid (bK ((w5.setCell ⟨q,0,none⟩ ↑y.t).setCell ⟨q,1,none⟩ ↑y.x) b g2 l):=lh ((HRow5.out.set_other hqb (Ne.symm HG4.out)).set_other hqb (Ne.symm HG4.out));have HR6:Hid (Fr w ((w5.setCell ⟨q,0,none⟩ ↑y.t).setCell ⟨q,1,none⟩ ↑y.x) [a,b,g]):=lh ((HR5.out.set (.inr HS4.out) _ _).set (.inr HS4.out) _ _);generalize ((w5.setCell ⟨q,0,none⟩ ↑y.t).setCell ⟨q,1,none⟩ ↑y.x)=w6 at *;clear z0 z1 f0 f1 HZ5 HA5 HRow5 HR5;go_roundw
    case rel=>exact ⟨q,g2,l,rfl,rfl,⟨HA6.out,HRow6.out⟩,by rw [HY.out];exact HZ6.out,HD2.out,HG3.out,HS4.out,HG4.out,HR6.out,by have:=HN.out;simp at this;omega,fun s hs=>HS.out s (by simp [hs])⟩
    case measure=>rw [HRow6.out.cnt,HF.out.row.cnt];simp [FS.with]

def DO (w:World) (a b g:Nat) (f:FS) (r:Rd) (vz vo:Value) (wr:World):Prop:=
 ∃(z g':Nat) (l:List Rd),vz=↑(π z)∧vo=.bool (!l.isEmpty)∧dD wr a b g' (f.with l)∧Blk wr z 247 (Itm.cs (l.getLastD Itm.z)).toArray∧
  eZ (bt f.least r) l=eZ (bt f.least r) f.l∧(g'=g∨w.heap.size < g')∧w.heap.size < z∧z≠g'∧Fr w wr [a,b,g]∧Blk wr w.heap.size 247 #[↑r.t,↑r.x]∧l.length≤f.l.length∧(∀s∈l,s∈f.l)
theorem gF:(∀(a b g:Nat) (f:FS) (r:Rd) (w:World) (h:dD w a b g f) (ho:f.ok) (hl:f.least=true),Calls prog 260 #[↑(π a),r.agg] w (lQ w a b g (.returned (.tuple #[])) (f.with (eZ (bt f.least r) f.l ++ [r]))))∧(∀(a b g:Nat) (f:FS) (r:Rd) (w:World) (h:dD w a b g f) (ho:f.ok) (hl:f.least=false),Calls prog 260 #[↑(π a),r.agg] w (lQ w a b g (.returned (.tuple #[])) (f.with (eZ (bt f.least r) f.l ++ [r])))):=by
 refine ⟨?_,?_⟩
 have k0v:Hid True:=trivial;rotate_left;rotate_left
 all_goals intro a b g f r w h ho hl
 all_goals
  have HO:=lh ho;have HF0:Hid (dD (w.alloc (.cells #[↑r.t,↑r.x] 247)) a b g f):=lh ⟨h.head.alloc _,h.row.alloc _⟩;have HB0:Hid (Blk (w.alloc (.cells #[↑r.t,↑r.x] 247)) w.heap.size 247 #[↑r.t,↑r.x]):=lh (Blk.new _ _ _);have HR0:Hid (Fr w (w.alloc (.cells #[↑r.t,↑r.x] 247)) [a,b,g]):=lh ((Fr.refl _ _).alloc _);have HS0:Hid ((w.alloc (.cells #[↑r.t,↑r.x] 247)).heap.size=w.heap.size + 1):=lh (by simp);have HBt:=lh (zC a b g f r (w.alloc (.cells #[↑r.t,↑r.x] 247)) HF0.out);first
  |revert k0v;intro k0v;have hbe:wO f.least r=.func (.func 282) #[r.agg] #[]:=by rw [hl];rfl
  |have hbe:wO f.least r=.func (.func 283) #[r.agg] #[]:=by rw [hl];rfl
  rw [hbe] at HBt;clear hbe;unfold Rd.agg at HBt ⊢;have hal:=h.lt;have r0:=HB0.out.cell (i:=0) (v:=↑r.t) rfl;have r1:=HB0.out.cell (i:=1) (v:=↑r.x) rfl;clear h ho;rw [hl];go_enter func260,ntmps260;go_wp2_with fail;generalize (w.alloc (.cells #[↑r.t,↑r.x] 247))=w0 at *;refine (HBt.out).mono ?_;rintro e w1 ⟨rfl,hb⟩;have HF1:=lh (HF0.out.keep hb);have HB1:=lh (HB0.out.keep hb);have HR1:=lh (HR0.out.below hb);have HS1:Hid (w.heap.size < w1.heap.size):=lh (by have:=hb.size;have:=HS0.out;omega);clear hb HBt HF0 HB0 HR0 HS0 r0 r1;have HLa:=lh (wP a b g f w1 HF1.out);generalize hx:f.l.getLastD Itm.z=x at *;have HX:=lh hx;clear hx;go_wp2_with fail;refine (HLa.out).mono ?_;rintro e w2 ⟨rfl,hb⟩;have HF2:=lh (HF1.out.keep hb);have HB2:=lh (HB1.out.keep hb);have HR2:=lh (HR1.out.below hb);have HS2:Hid (w.heap.size < w2.heap.size):=lh (by have:=hb.size;have:=HS1.out;omega);clear hb HLa HF1 HB1 HR1 HS1;unfold dB Rd.agg;have R0:Hid (DO w a b g f r ↑(π w2.heap.size) (.bool (!f.l.isEmpty)) (w2.alloc (.cells #[↑x.t,↑x.x] 247))):=lh
   ⟨w2.heap.size,g,f.l,rfl,rfl,⟨HF2.out.head.alloc _,HF2.out.row.alloc _⟩,by rw [HX.out];exact Blk.new _ _ _,rfl,.inl rfl,HS2.out,by have:=HF2.out.lt;omega,HR2.out.alloc _,HB2.out.alloc _,Nat.le_refl _,fun _ h=>h⟩
  go_wp2_with fail;go_loopw [5,6] (fun vz vo wr=>DO w a b g f r vz vo wr) (fun _ _ wr=>wQ wr b);case atStart=>exact R0.out
  case round=>
   obtain ⟨z,g',l,rfl,rfl,hf,hz,hd,hg,hzs,hzg,hfr,hbx,hn,hs⟩:=hrel;have HF:=lh hf;have HZ:=lh hz;have HD:=lh hd;have HR:=lh hfr;have HBx:=lh hbx;have HG:=lh hg;have HS:=lh hs;have HN:=lh hn;have HOk:=lh (FS.with_ok HO.out hn hs);have hwb:w.heap.size≠b:=by obtain ⟨cs,k⟩:=hf.row.head;exact hbx.ty k (by decide)
   have hwg:w.heap.size≠g':=by omega
   clear hf hz hd hg hfr hs hn hbx R0;rcases List.eq_nil_or_concat l with rfl | ⟨k,y,rfl⟩
   ·first
    |revert k0v;intro k0v;have HE:Hid (eZ (bt true r) f.l ++ [r]=([]:List Rd) ++ [r]):=lh (by rw [← hl,← HD.out];rfl)
    |have HE:Hid (eZ (bt false r) f.l ++ [r]=([]:List Rd) ++ [r]):=lh (by rw [← hl,← HD.out];rfl)
    have HRw:=lh (HF.out.row.drawn (aB.drew _));have HPu:=lh (wE b g' r [] _ HRw.out (by simp));unfold Rd.agg at HPu;have a1:=HF.out.head.drew.cell (i:=0) (v:=↑(π b)) rfl;have r0:=HBx.out.drew.cell (i:=0) (v:=↑r.t) rfl;have r1:=HBx.out.drew.cell (i:=1) (v:=↑r.x) rfl;go_wp2_with fail;go_region_held3 (fun w'=>w'.cell? ⟨a,0,none⟩=some ↑(π b)∧w'.cell? ⟨w.heap.size,0,none⟩=some ↑r.t∧w'.cell? ⟨w.heap.size,1,none⟩=some ↑r.x)
     (first | exact ⟨a1,r0,r1⟩ | exact ⟨b1,s0,s1⟩)
     (first | (go_at_call 277;refine (HPu.out).mono ?_;rintro e w' ⟨rfl,hat,hfr⟩;have HAt:=lh hat;have HFr:=lh hfr;have HA9:=lh (HF.out.head.drew.fr hfr (by simp;exact ⟨HF.out.ab,HF.out.ag⟩));have HB9:=lh (HBx.out.drew.fr hfr (by simp;exact ⟨hwb,hwg⟩));clear hat hfr;have b1:=HA9.out.cell (i:=0) (v:=↑(π b)) rfl;have s0:=HB9.out.cell (i:=0) (v:=↑r.t) rfl;have s1:=HB9.out.cell (i:=1) (v:=↑r.x) rfl))
    go_wp2_with fail;go_end0;obtain ⟨g9,hg9,hq9⟩:=HAt.out;rw [HE.out];refine ⟨rfl,⟨g9,⟨HA9.out,hg9⟩,?_⟩,((HR.out.drawn (aB.drew _)).trans HFr.out (by have:=HG.out;intro y hy;simp at hy ⊢;omega))⟩;have h1:=HG.out;have h2:=HR.out.size;have h3:(World.drew wr).heap.size=(wr).heap.size:=rfl;omega
   ·rw [List.concat_eq_append] at HF HZ HD HS HN HOk ⊢;have hne:(!(k ++ [y]).isEmpty)=true:=by cases k <;> rfl
    have hla:(k ++ [y]).getLastD Itm.z=y:=by simp
    rw [hla] at HZ;first
    |revert k0v;intro k0v;have HCl:=lh (DL r y wr)
    |have HCl:=lh (DM r y wr)
    have z0:=HZ.out.cell (i:=0) (v:=↑y.t) rfl;have z1:=HZ.out.cell (i:=1) (v:=↑y.x) rfl;unfold Rd.agg at HCl;rw [hne];clear hne hla;go_wp2_with fail;refine (HCl.out).mono ?_;rintro e w3 ⟨rfl,hb⟩;have HF3:=lh (HF.out.keep hb);have HZ3:=lh (HZ.out.keep hb);have HR3:=lh (HR.out.below hb);have HBx3:=lh (HBx.out.keep hb);clear hb HCl z0 z1 HZ HR HBx;first
    |revert k0v;intro k0v;by_cases c:bt true r y=true
    |by_cases c:bt false r y=true
    ·have HD2:Hid (eZ (bt f.least r) k=eZ (bt f.least r) f.l):=lh (by rw [← HD.out,kR,if_pos (by rw [hl];exact c)]);rw [c];have a1:=HF3.out.head.cell (i:=0) (v:=↑(π b)) rfl;have HSh:=lh (NG b g' y k w3 HF3.out.row);clear HD c;go_wp2_with fail;refine (HSh.out).mono ?_;rintro e w4 ⟨rfl,hat,hfr⟩;obtain ⟨g2,hrow,hg2⟩:=hat;have HA4:=lh (HF3.out.head.fr hfr (by simp;exact ⟨HF3.out.ab,HF3.out.ag⟩));have HRow4:=lh hrow;have hzb:z≠b:=by obtain ⟨cs,k⟩:=HF3.out.row.head;exact HZ3.out.ty k (by decide)
     have HZ4:=lh (HZ3.out.fr hfr (by simp;exact ⟨hzb,hzg⟩));have HBx4:=lh (HBx3.out.fr hfr (by simp;exact ⟨hwb,hwg⟩));have HR4:=lh (HR3.out.trans hfr (by have:=HG.out;intro y hy;simp at hy ⊢;omega));have HG4:Hid (g2=g∨w.heap.size < g2):=lh (by have:=HG.out;have:=HR3.out.size;have:=HBx3.out.lt;omega);have z0:=HZ4.out.cell (i:=0) (v:=↑y.t) rfl;have z1:=HZ4.out.cell (i:=1) (v:=↑y.x) rfl;clear hrow hg2 hfr HSh a1 HZ3 HBx3 HR3;unfold dB Rd.agg;have HZ5:Hid (Blk (w4.alloc (.cells #[↑y.t,↑y.x] 247)) w4.heap.size 247 #[↑y.t,↑y.x]):=lh (Blk.new _ _ _);have HF5:Hid (dD (w4.alloc (.cells #[↑y.t,↑y.x] 247)) a b g2 (f.with k)):=lh ⟨HA4.out.alloc _,HRow4.out.alloc _⟩;have HR5:=lh (HR4.out.alloc (.cells #[↑y.t,↑y.x] 247));have HBx5:=lh (HBx4.out.alloc (.cells #[↑y.t,↑y.x] 247));have HQ5:Hid (w4.heap.size≠g2):=lh (by have:=HRow4.out.lt;omega);have HS5:Hid (w.heap.size < w4.heap.size):=lh HBx4.out.lt;have HLa:=lh (wP a b g2 (f.with k) _ HF5.out);clear HA4 HRow4 HR4 HBx4;generalize hy:(f.with k).l.getLastD Itm.z=v at *;have HY:Hid (k.getLastD Itm.z=v):=lh hy;clear hy;go_wp2_with fail;refine (HLa.out).mono ?_;rintro e w5 ⟨rfl,hb⟩;have HZ6:=lh (HZ5.out.keep hb);have HF6:=lh (HF5.out.keep hb);have HR6:=lh (HR5.out.below hb);have HBx6:=lh (HBx5.out.keep hb);clear hb HLa HZ5 HF5 HR5 HBx5 z0 z1;unfold dB Rd.agg;have z0:=HZ6.out.cell (i:=0) (v:=↑y.t) rfl;have z1:=HZ6.out.cell (i:=1) (v:=↑y.x) rfl;have f0:=HZ6.out.free 0;have f1:=HZ6.out.free 1;generalize w4.heap.size=q at *;go_wp2_with fail;have HZ7:Hid (Blk ((w5.setCell ⟨q,0,none⟩ ↑v.t).setCell ⟨q,1,none⟩ ↑v.x) q 247 (Itm.cs v).toArray):=lh (Blk.whole (Itm.cs v) HZ6.out rfl);have hqa:a≠q:=HF6.out.head.ty HZ6.out (by decide);have hqb:b≠q:=by obtain ⟨cs,k⟩:=HF6.out.row.head;exact k.ty HZ6.out (by decide)
     have hqw:w.heap.size≠q:=by have:=HS5.out;omega
     have HF7:Hid (dD ((w5.setCell ⟨q,0,none⟩ ↑v.t).setCell ⟨q,1,none⟩ ↑v.x) a b g2 (f.with k)):=lh ⟨(HF6.out.head.set_other _ _ hqa).set_other _ _ hqa,(HF6.out.row.set_other hqb (Ne.symm HQ5.out)).set_other hqb (Ne.symm HQ5.out)⟩;have HR7:Hid (Fr w ((w5.setCell ⟨q,0,none⟩ ↑v.t).setCell ⟨q,1,none⟩ ↑v.x) [a,b,g]):=lh ((HR6.out.set (.inr (Nat.le_of_lt HS5.out)) _ _).set (.inr (Nat.le_of_lt HS5.out)) _ _);have HBx7:Hid (Blk ((w5.setCell ⟨q,0,none⟩ ↑v.t).setCell ⟨q,1,none⟩ ↑v.x) w.heap.size 247 #[↑r.t,↑r.x]):=lh ((HBx6.out.set_other _ _ hqw).set_other _ _ hqw);generalize ((w5.setCell ⟨q,0,none⟩ ↑v.t).setCell ⟨q,1,none⟩ ↑v.x)=w6 at *;clear z0 z1 f0 f1 HZ6 HF6 HR6 HBx6;go_roundw;case rel=>exact ⟨q,g2,k,rfl,rfl,HF7.out,by rw [HY.out];exact HZ7.out,HD2.out,HG4.out,HS5.out,HQ5.out,HR7.out,HBx7.out,by have:=HN.out;simp at this;omega,fun s hs=>HS.out s (by simp [hs])⟩
     case measure=>rw [HF7.out.row.cnt,HF.out.row.cnt];simp [FS.with]
    ·first
     |revert k0v;intro k0v;have HE:Hid (eZ (bt true r) f.l ++ [r]=(k ++ [y]) ++ [r]):=lh (by rw [← hl,← HD.out,kR,if_neg (by rw [hl];exact c)])
     |have HE:Hid (eZ (bt false r) f.l ++ [r]=(k ++ [y]) ++ [r]):=lh (by rw [← hl,← HD.out,kR,if_neg (by rw [hl];exact c)])
     rw [eq_false_of_ne_true c];clear c;have HRw:=lh (HF3.out.row.drawn (aB.drew _));have HPu:=lh (wE b g' r (k ++ [y]) _ HRw.out (by have:=HOk.out.n;simpa [FS.with] using this));unfold Rd.agg at HPu;have a1:=HF3.out.head.drew.cell (i:=0) (v:=↑(π b)) rfl;have r0:=HBx3.out.drew.cell (i:=0) (v:=↑r.t) rfl;have r1:=HBx3.out.drew.cell (i:=1) (v:=↑r.x) rfl;go_wp2_with fail;go_region_held3 (fun w'=>w'.cell? ⟨a,0,none⟩=some ↑(π b)∧w'.cell? ⟨w.heap.size,0,none⟩=some ↑r.t∧w'.cell? ⟨w.heap.size,1,none⟩=some ↑r.x)
      (first | exact ⟨a1,r0,r1⟩ | exact ⟨b1,s0,s1⟩)
      (first | (go_at_call 277;refine (HPu.out).mono ?_;rintro e w' ⟨rfl,hat,hfr⟩;have HAt:=lh hat;have HFr:=lh hfr;have HA9:=lh (HF3.out.head.drew.fr hfr (by simp;exact ⟨HF3.out.ab,HF3.out.ag⟩));have HB9:=lh (HBx3.out.drew.fr hfr (by simp;exact ⟨hwb,hwg⟩));clear hat hfr;have b1:=HA9.out.cell (i:=0) (v:=↑(π b)) rfl;have s0:=HB9.out.cell (i:=0) (v:=↑r.t) rfl;have s1:=HB9.out.cell (i:=1) (v:=↑r.x) rfl))
     go_wp2_with fail;go_end0;obtain ⟨g9,hg9,hq9⟩:=HAt.out;rw [HE.out];refine ⟨rfl,⟨g9,⟨HA9.out,hg9⟩,?_⟩,((HR3.out.drawn (aB.drew _)).trans HFr.out (by have:=HG.out;intro y hy;simp at hy ⊢;omega))⟩;have h1:=HG.out;have h2:=HR3.out.size;have h3:(World.drew w3).heap.size=(w3).heap.size:=rfl;omega
theorem DP (a b g:Nat) (f:FS) (r:Rd) (w:World) (h:dD w a b g f) (ho:f.ok):
  Calls prog 260 #[↑(π a),r.agg] w (lQ w a b g (.returned (.tuple #[])) (f.with (eZ (bt f.least r) f.l ++ [r]))):=by
 rcases hl:f.least
 ·have:=gF.2 a b g f r w h ho hl
  rw [hl] at this;exact this
 ·have:=gF.1 a b g f r w h ho hl
  rw [hl] at this;exact this

theorem MV (a b g t:Nat) (f:FS) (w:World) (h:dD w a b g f) (ho:f.ok) (ht:t≤↑ω):
  Calls prog 217 #[↑(π a),↑t] w (lQ w a b g (.returned (.int .i64 (f.err t))) (f.to t)):=by
 have HH:=lh h;have HO:=lh ho;have a2:=h.head.cell (i:=2) (v:=↑f.t) rfl;have f2:=h.head.free 2;clear h ho;by_cases c:t < f.t
 ·have d0:decide (t < f.t)=true:=by simpa using c
  have HE:Hid (f.to t=f∧f.err t=2):=lh ⟨by unfold FS.to;rw [if_pos c],by unfold FS.err;rw [if_pos c]⟩;clear c;go_enter func217,ntmps217;go_wp2_with fail;go_ret;rw [HE.out.1,HE.out.2];exact ⟨rfl,⟨g,HH.out,.inl rfl⟩,Fr.refl _ _⟩
 ·have d0:decide (t < f.t)=false:=by simpa using c
  have HE:Hid (f.to t=(⟨f.win,t,f.least,f.l⟩:FS).with (f.l.dropWhile fun r=>!dV f.win t r)∧f.err t=0):=lh ⟨FS.to_t f t c,by unfold FS.err;rw [if_neg c]⟩;clear c;go_enter func217,ntmps217;go_wp2_with fail;have HF1:Hid (dD (w.setCell ⟨a,2,none⟩ ↑t) a b g ⟨f.win,t,f.least,f.l⟩):=lh ⟨by have:=HH.out.head.set 2 ↑t;simpa [uS] using this,HH.out.row.set_other (Ne.symm HH.out.ab) (Ne.symm HH.out.ag)⟩;have HR1:Hid (Fr w (w.setCell ⟨a,2,none⟩ ↑t) [a,b,g]):=lh ((Fr.refl _ _).set (by simp) _ _);generalize (w.setCell ⟨a,2,none⟩ ↑t)=w1 at *;refine (zD a b g ⟨f.win,t,f.least,f.l⟩ w1 HF1.out ⟨HO.out.win,ht,HO.out.l,HO.out.n⟩).mono ?_;rintro e w2 ⟨rfl,hat,hfr⟩;have HA:=lh hat;have HF:=lh hfr;clear hat hfr;go_wp2_with fail;go_ret;obtain ⟨g',h1,h2⟩:=HA.out;rw [HE.out.1,HE.out.2];exact ⟨rfl,⟨g',h1,by have:=HR1.out.size;omega⟩,HR1.out.trans HF.out (fun y hy=>.inl hy)⟩
theorem FS.err_to (f:FS) (t:Nat):(f.err t=2∧t < f.t)∨(f.err t=0∧¬ t < f.t):=by
 unfold FS.err;split <;> simp_all
theorem DQ (a b g t x:Nat) (f:FS) (w:World) (h:dD w a b g f) (ho:f.ok) (ht:t≤↑ω):
  Calls prog 218 #[↑(π a),↑t,↑x] w (lQ w a b g (.returned (.int .i64 (f.err t))) (f.put t x)):=by
 have HT:=lh (MV a b g t f w h ho ht);have HO:=lh (FS.to_ok ho ht);clear h ho;rcases FS.err_to f t with ⟨e1,c⟩ | ⟨e1,c⟩
 ·rw [e1] at HT ⊢
  have HE:Hid (f.put t x=f.to t):=lh (by unfold FS.put FS.to;rw [if_pos c,if_pos c]);clear e1 c;go_enter func218,ntmps218;go_wp2_with fail;refine (HT.out).mono ?_;rintro e w2 ⟨rfl,hat,hfr⟩;have HA:=lh hat;have HF:=lh hfr;clear hat hfr HT;go_wp2_with fail;go_ret;rw [HE.out];exact ⟨rfl,HA.out,HF.out⟩
 ·rw [e1] at HT ⊢
  have HE:Hid (f.put t x=(f.to t).with (eZ (bt (f.to t).least ⟨t,x⟩) (f.to t).l ++ [⟨t,x⟩])):=lh (by rw [FS.put_t f t x c,FS.to_least,FS.to_t f t c];rfl);clear e1 c;generalize f.to t=q at *;go_enter func218,ntmps218;go_wp2_with fail;refine (HT.out).mono ?_;rintro e w2 ⟨rfl,hat,hfr⟩;obtain ⟨g1,hf1,hq1⟩:=hat;have HF1:=lh hf1;have HR1:=lh hfr;have HG1:=lh hq1;clear hf1 hq1 hfr HT;have HEn:Hid (Calls prog 260 #[↑(π a),.agg #[↑t,↑x]] w2 (lQ w2 a b g1 (.returned (.tuple #[])) (q.with (eZ (bt q.least ⟨t,x⟩) q.l ++ [⟨t,x⟩])))):=lh (DP a b g1 q ⟨t,x⟩ w2 HF1.out HO.out);go_wp2_with fail;refine (HEn.out).mono ?_;rintro e w3 ⟨rfl,hat,hfr⟩;have HA:=lh hat;have HF:=lh hfr;clear hat hfr HEn;go_wp2_with fail;go_ret;obtain ⟨g',h1,h2⟩:=HA.out;rw [HE.out];refine ⟨rfl,⟨g',h1,?_⟩,HR1.out.trans HF.out (by have:=HG1.out;intro y hy;simp at hy ⊢;omega)⟩;have:=HR1.out.size;have:=HG1.out;omega
def wR (f:FS):Value:=.tuple #[↑f.best.x,↑f.best.t,.bool f.some]
theorem wS (a b g:Nat) (f:FS) (w:World) (h:dD w a b g f):
  Calls prog 143 #[↑(π a)] w fun e w'=>e=.returned (wR f)∧Below ↑w w w':=by
 have HQ:=lh (mU b g f.l w h.row);have hz:f.l.headD Itm.z=f.best:=rfl;have hs:(!f.l.isEmpty)=f.some:=rfl;rw [hz,hs] at HQ;have a0:=h.head.cell (i:=0) (v:=↑(π b)) rfl;clear h hz hs;unfold wR;generalize f.best=x at *;generalize f.some=o at *;go_enter func143,ntmps143;go_wp2_with fail;refine (HQ.out).mono ?_;rintro e w1 ⟨rfl,hb⟩;have HB:=lh hb;clear hb;unfold dB Rd.agg;go_wp2_with fail;have HX:Hid (Blk (w1.alloc (.cells #[↑x.t,↑x.x] 247)) w1.heap.size 247 #[↑x.t,↑x.x]):=lh (Blk.new _ _ _);have x0:=HX.out.cell (i:=0) (v:=↑x.t) rfl;have x1:=HX.out.cell (i:=1) (v:=↑x.x) rfl;have HB2:=lh (HB.out.alloc HB.out.size (.cells #[↑x.t,↑x.x] 247));generalize (w1.alloc (.cells #[↑x.t,↑x.x] 247))=w2 at *;go_quiet (fail)
 have HD:Hid (aB w2 (w2.drewN nq)):=lh ⟨nq,rfl⟩;go_wp2_with fail;go_ret3
 exact ⟨rfl,HB2.out.trans (HD.out.below _)⟩
structure P9 (w:World) (f:FS) (e:Ending) (w':World):Prop where
 at_:∃a b g,e=.returned ↑(π a)∧dD w' a b g f∧↑w≤a∧↑w≤b∧↑w≤g
 bel:Below ↑w w w'
theorem DR (win:Nat) (w:World):Calls prog 97 #[↑win] w (P9 w ⟨win,0,true,[]⟩):=by
 have HN:Hid (Calls prog 146 #[.slice none 0 0] w (BV w [])):=lh (NH none 0 [] w (Its.none _ _) (by simp));go_enter func97,ntmps97;go_wp2_with fail;refine (HN.out).mono ?_;rintro e w1 ⟨⟨b,g,rfl,hr,hb,hg⟩,hbel⟩;have HR:=lh hr;have HB:=lh hbel;clear hr hbel HN;go_wp2_with fail;go_ret;exact ⟨⟨w1.heap.size,b,g,rfl,⟨Blk.new _ _ _,HR.out.alloc _⟩,HB.out.size,hb,hg⟩,HB.out.alloc HB.out.size _⟩
end

section
open Go.RowKit
structure QK where
 l:List Pk
 n:Nat
 room:Nat
 dr:Nat
 lost:Nat
namespace QK
def start (r:Nat):QK:=⟨[],0,r,0,0⟩
structure ok (s:QK):Prop where
 n:s.n≤↑ω
 room:s.room≤↑ω
 dr:s.dr≤↑ω
 lost:s.lost≤↑ω
 sz:∀x∈s.l,x.size≤↑ω
def pushQ (s:QK) (p:Pk):QK:=⟨s.l ++ [p],s.n,s.room,s.dr,s.lost⟩
def addQ (s:QK) (p:Pk):QK:=⟨s.l ++ [p],Pl.addS s.n p.size,s.room,s.dr,s.lost⟩
def dropQ (s:QK) (p:Pk):QK:=⟨s.l,s.n,s.room,Pl.addS s.dr 1,Pl.addS s.lost p.size⟩
def putB (s:QK) (p:Pk):Bool:=decide (p.size≤Pl.subS s.room s.n)
def putQ (s:QK) (p:Pk):QK:=if p.size≤Pl.subS s.room s.n then s.addQ p else s.dropQ p
def popQ (s:QK):QK:=⟨s.l.drop 1,s.n,s.room,s.dr,s.lost⟩
def headQ (s:QK):Pk:=s.l.getD 0 Itm.z
def someQ (s:QK):Bool:=!s.l.isEmpty
def shiftQ (s:QK):QK:=⟨s.l.drop 1,Pl.subS s.n s.headQ.size,s.room,s.dr,s.lost⟩
def cells (s:QK) (rb:Nat):Array Value:=#[↑(π rb),↑s.n,↑s.room,↑s.dr,↑s.lost]
theorem start_ok {r:Nat} (h:r≤↑ω):(start r).ok:=⟨Nat.zero_le _,h,Nat.zero_le _,Nat.zero_le _,fun x hx=>by cases hx⟩
theorem add_ok {s:QK} (h:s.ok) {p:Pk} (hp:p.size≤↑ω):(s.addQ p).ok:=⟨Pl.addS_le _ _,h.room,h.dr,h.lost,fun x hx=>by
 rcases List.mem_append.1 hx with c | c
 ·exact h.sz x c
 ·rw [List.mem_singleton.1 c];exact hp⟩
theorem drop_ok {s:QK} (h:s.ok) (p:Pk):(s.dropQ p).ok:=⟨h.n,h.room,Pl.addS_le _ _,Pl.addS_le _ _,h.sz⟩
theorem put_ok {s:QK} (h:s.ok) {p:Pk} (hp:p.size≤↑ω):(s.putQ p).ok:=by
 unfold putQ;split
 ·exact add_ok h hp
 ·exact drop_ok h p
theorem head_ok {s:QK} (h:s.ok):s.headQ.size≤18446744073709551615:=by
 unfold headQ;cases e:s.l with
 | nil=>exact Nat.zero_le _
 | cons x r=>exact h.sz x (by rw [e];simp)
theorem shift_ok {s:QK} (h:s.ok):s.shiftQ.ok:=⟨Nat.le_trans (Pl.subS_le _ _) h.n,h.room,h.dr,h.lost,fun x hx=>h.sz x (List.mem_of_mem_drop hx)⟩
theorem put_len (s:QK) (p:Pk):(s.putQ p).l.length≤s.l.length + 1:=by
 unfold putQ;split
 ·simp [addQ]
 ·exact Nat.le_succ _
end QK
structure QAt (w:World) (b rb g:Nat) (s:QK):Prop where
 head:Blk w b 150 (s.cells rb)
 row:bO w rb g s.l
theorem QAt.keep {w w':World} {b rb g:Nat} {s:QK} (h:QAt w b rb g s) (k:Below ↑w w w'):QAt w' b rb g s:=⟨h.head.keep k,h.row.keep k⟩
theorem QAt.ne {w:World} {b rb g:Nat} {s:QK} (h:QAt w b rb g s):b≠rb∧b≠g∧rb≠g:=by
 obtain ⟨cs,h1⟩:=h.row.head;obtain ⟨ds,h2⟩:=h.row.body;exact ⟨h.head.ty h1 (by decide),h.head.ty h2 (by decide),h.row.ne⟩
theorem QAt.lt {w:World} {b rb g:Nat} {s:QK} (h:QAt w b rb g s):b < w.heap.size∧rb < w.heap.size∧g < w.heap.size:=⟨h.head.lt,h.row.lt⟩
theorem QAt.fr {w w':World} {b rb g:Nat} {s:QK} {L:List Nat} (h:QAt w b rb g s) (k:Fr w w' L) (h1:b ∉ L) (h2:rb ∉ L) (h3:g ∉ L):QAt w' b rb g s:=⟨h.head.fr k h1,h.row.fr k h2 h3⟩
structure eH (W:World) (b rb g0:Nat) (r:Value) (s:QK) (e:Ending) (w:World):Prop where
 e:e=.returned r
 at_:∃g,QAt w b rb g s∧(g=g0∨W.heap.size≤g)
 fr:Fr W w [b,rb,g0]
structure QM (W:World) (b rb g0 z:Nat) (cs:List Value) (s:QK) (w:World):Prop where
 at_:∃g,QAt w b rb g s∧(g=g0∨W.heap.size≤g)∧g≠z
 fr:Fr W w [b,rb,g0]
 box:Blk w z 73 cs.toArray
 lo:↑W≤z
 gz:b < z∧rb < z∧g0 < z
theorem QM.to {s:QK} (h:QM W b rb g0 z cs s w) (k:Below ↑w w w'):QM W b rb g0 z cs s w':=
 ⟨by obtain ⟨g,h1,h2⟩:=h.at_;exact ⟨g,h1.keep k,h2⟩,h.fr.below k,h.box.keep k,h.lo,h.gz⟩
theorem QM.drew {W w:World} {b rb g0 z:Nat} {cs:List Value} {s:QK} (h:QM W b rb g0 z cs s w):QM W b rb g0 z cs s w.drew:=h.to ((aB.drew w).below _)
theorem QM.set {W w:World} {b rb g0 z:Nat} {cs:List Value} {s s':QK} (h:QM W b rb g0 z cs s w) (i:Nat) (u:Value) (he:(s.cells rb).setIfInBounds i u=s'.cells rb) (hl:s.l=s'.l):QM W b rb g0 z cs s' (w.setCell ⟨b,i,none⟩ u):=by
 obtain ⟨g,h1,h2⟩:=h.at_;have n:=h1.ne;exact ⟨⟨g,⟨he▸h1.head.set i u,hl▸h1.row.set_other (Ne.symm n.1) (Ne.symm n.2.1)⟩,h2⟩,h.fr.set (.inl (by simp)) i u,h.box.set_other i u (by have:=h.gz;omega),h.lo,h.gz⟩
theorem QM.head {W w:World} {b rb g0 z:Nat} {cs:List Value} {s:QK} (h:QM W b rb g0 z cs s w):Blk w b 150 (s.cells rb):=by obtain ⟨g,h1,_⟩:=h.at_;exact h1.head
theorem QM.post {s:QK} {v:Value} (h:QM W b rb g0 z cs s w):eH W b rb g0 v s (.returned v) w:=
 ⟨rfl,by obtain ⟨g,h1,h2⟩:=h.at_;exact ⟨g,h1,h2.1⟩,h.fr⟩
theorem QM.start {g:Nat} {s:QK} (h:QAt W b rb g s) (cs:List Value):QM W b rb g W.heap.size cs s (W.alloc (.cells cs.toArray 73)):=
 ⟨⟨g,h.keep (aC _ _),.inl rfl,by have:=h.lt;omega⟩,(Fr.refl _ _).alloc _,Blk.new _ _ _,Nat.le_refl _,h.lt⟩
theorem QM.ring {g:Nat} {s:QK} {l:List Pk} {v e:Ending} (h:QM W b rb g0 z cs s w) (h1:QAt w b rb g s) (h2:(g=g0∨W.heap.size≤g)∧g≠z) (k:fW w rb g v l e w'):QM W b rb g0 z cs ⟨l,s.n,s.room,s.dr,s.lost⟩ w':=by
 obtain ⟨g',k1,k2⟩:=k.at_;have n:=h1.ne;have lt:=h1.lt;have zl:=h.box.lt;have gz:=h.gz;refine ⟨⟨g',⟨h1.head.fr k.mv (by simp [n.1,n.2.1]),k1⟩,by have:=h.fr.size;rcases k2 with c | c;exact c▸h2;omega⟩,h.fr.trans k.mv (fun x hx=>?_),h.box.fr k.mv (by simp;omega),h.lo,gz⟩;have lo:=h.lo;simp at hx ⊢
 omega
theorem QM.call {g:Nat} {s s':QK} {v:Value} {e:Ending} (h:QM W b rb g0 z cs s w) (h1:QAt w b rb g s) (h2:(g=g0∨W.heap.size≤g)∧g≠z) (k:eH w b rb g v s' e w'):QM W b rb g0 z cs s' w':=by
 obtain ⟨g',k1,k2⟩:=k.at_;have zl:=h.box.lt;have gz:=h.gz;refine ⟨⟨g',k1,by have:=h.fr.size;rcases k2 with c | c;exact c▸h2;omega⟩,h.fr.trans k.fr (fun x hx=>?_),h.box.fr k.fr (by simp;omega),h.lo,gz⟩;have lo:=h.lo;simp at hx ⊢
 omega
theorem QM.boxed {w':World} {ds:List Value} {s:QK} (h:QM W b rb g0 z cs s w) (hl:ds.length=cs.length):QM W b rb g0 z ds s (w.setCells z 0 ds):=by
 obtain ⟨g,h1,h2⟩:=h.at_;have zl:=h.box.lt;have gz:=h.gz;have gn:=h2.2;have f:Fr w (w.setCells z 0 ds) [z]:=Fr.sets (.inl (by simp)) ds 0 w (Fr.refl _ _);refine ⟨⟨g,h1.fr f (by simp;omega) (by simp;omega) (by simp;omega),h2⟩,h.fr.trans f (fun x hx=>?_),h.box.whole ds (by simpa using hl),h.lo,gz⟩;have lo:=h.lo;simp at hx ⊢
 omega
def QSo (W:World) (b rb g0 z:Nat) (cs:List Value) (s:QK) (w:World):Prop:=∃n d k,QM W b rb g0 z cs ⟨s.l,n,s.room,d,k⟩ w
theorem qso {n d k r:Nat} {s:QK} {l:List Pk} (h:Hid (QM W b rb g0 z cs ⟨s.l,n,s.room,d,k⟩ w)):Hid (QSo W b rb g0 z cs s w):=lh ⟨n,d,k,h.out⟩
theorem l7 {s:QK} {v:Value} (hv:cs[i]? =some v):∀w,Hid (QSo W b rb g0 z cs s w)→w.cell? ⟨z,i,none⟩=some v:=fun w h=>by
 obtain ⟨n,d,k,h1⟩:=h.out;exact h1.box.cell (by simpa using hv)
theorem RO {s:QK}:(∀w,Hid (QM W b rb g0 z cs s w)→w.cell? ⟨b,0,none⟩=some ↑(π rb))∧(∀w,Hid (QM W b rb g0 z cs s w)→w.cell? ⟨b,1,none⟩=some ↑s.n)∧(∀w,Hid (QM W b rb g0 z cs s w)→w.cell? ⟨b,2,none⟩=some ↑s.room)∧(∀w,Hid (QM W b rb g0 z cs s w)→w.rangeAt z 0 cs):=
 ⟨fun w h=>h.out.head.cell rfl,fun w h=>h.out.head.cell rfl,fun w h=>h.out.head.cell rfl,fun w h=>h.out.box.range0⟩
theorem JN (b rb g0:Nat) (p:Pk) (s:QK) (W:World) (cs:List Value) (hc:Itm.cs p=cs) (hk:s.l.length≤5500):∀w,QM W b rb g0 W.heap.size cs s w→
  Calls prog 248 #[↑(π rb),.agg cs.toArray] w fun e w'=>e=.returned (.tuple #[])∧Hid (QM W b rb g0 W.heap.size cs (s.pushQ p) w'):=fun w h=>by
 obtain ⟨g,h1,h2⟩:=h.at_;have:=JF rb g p s.l w h1.row hk;subst hc;exact this.mono fun e w' k=>⟨k.e,lh (h.ring h1 h2 k)⟩
theorem QA:(∀w,Hid (∃s,QM W b rb g0 z cs s w)→w.cell? ⟨b,0,none⟩=some ↑(π rb))∧(∀w,Hid (∃s,QM W b rb g0 z cs s w)→w.rangeAt z 0 cs):=
 ⟨fun w h=>by obtain ⟨s,k⟩:=h.out;exact k.head.cell rfl,fun w h=>by obtain ⟨s,k⟩:=h.out;exact k.box.range0⟩
theorem wT {s:QK} (h:Hid (QM W b rb g0 z cs s w)):Hid (∃s,QM W b rb g0 z cs s w):=lh ⟨s,h.out⟩
theorem sK:(∀(b rb g0:Nat) (p:Pk) (s:QK) (W:World) (h:QAt W b rb g0 s) (ho:s.ok) (hp:p.size≤↑ω) (hk:s.l.length≤5500),Calls prog 191 #[↑(π b),p.agg] W (eH W b rb g0 (.tuple #[]) (s.addQ p)))∧(∀(b rb g0:Nat) (p:Pk) (s:QK) (W:World) (h:QAt W b rb g0 s) (ho:s.ok) (hp:p.size≤↑ω),Calls prog 190 #[↑(π b),p.agg] W (eH W b rb g0 (.tuple #[]) (s.dropQ p))):=by
 refine ⟨?_,?_⟩
 have k0v:Hid True:=trivial;intro b rb g0 p s W h ho hp hk;rotate_left;have k1v:Hid True:=trivial;intro b rb g0 p s W h ho hp;rotate_left
 all_goals
  first
  |revert k0v;intro k0v;have HC:=lh (JN b rb g0 p s W _ rfl hk);have K0:=lh (QM.start h (Itm.cs p));have hA:=lh (bU s.n p.size ho.n hp);have hx:(Itm.cs p)[1]? =some (.int .u64 (p.size:Int)):=rfl;unfold Pk.agg;go_enter func191,ntmps191;go_wp2_with fail;have hu:=underlying73;have hi:=kQ p
  |have K0:=lh (QM.start h (Itm.cs p));have hA:=lh (bU s.dr 1 ho.dr (by omega));have hB:=lh (bU s.lost p.size ho.lost hp);have hx:(Itm.cs p)[1]? =some (.int .u64 (p.size:Int)):=rfl;have EQ:Hid (s.dropQ p=⟨s.l,s.n,s.room,Pl.addS s.dr 1,Pl.addS s.lost p.size⟩):=lh rfl;unfold Pk.agg;go_enter func190,ntmps190;go_upto_region 1 with fail
  change Code.wp _ _ _ _ (W.alloc (.cells (Itm.cs p).toArray 73));generalize hcs:Itm.cs p=cs at *;first
  |revert k1v;intro k1v;generalize W.alloc (.cells cs.toArray 73)=w0 at *;have h3:=K0.out.head.cell (i:=3) (v:=↑s.dr) rfl;go_wp2_with fail;have K1:=lh (K0.out.to (aC _ (.cells #[↑s.dr,.int .u64 1] 22)));refine (hA.out _ _ (aN (c:=#[↑s.dr,.int .u64 1]) rfl rfl) (aN (c:=#[↑s.dr,.int .u64 1]) rfl rfl)).mono ?_;rintro e w1 ⟨rfl,hb⟩;have K2:=lh (K1.out.to hb);have y3:=K2.out.head.free 3;have c3:=K2.out.head.cell (i:=3) (v:=↑s.dr) rfl;have M0:=lh (K2.out.set (s':=⟨s.l,s.n,s.room,Pl.addS s.dr 1,s.lost⟩) 3 ↑(Pl.addS s.dr 1:Nat) rfl rfl);have R1:=l7 (W:=W) (b:=b) (rb:=rb) (g0:=g0) (z:=W.heap.size) (s:=s) hx;clear hb K1 K2 hcs K0 h ho h3;generalize Pl.addS s.dr 1=q at *;generalize Pl.addS s.lost p.size=y at *;generalize p.size=x at *;generalize s.lost=n at *;go_wp2_with fail;generalize (w1.setCell ⟨b,3,none⟩ ↑q)=w2 at *
  |generalize W.alloc (.cells cs.toArray 73)=w1 at *;have K1:=lh K0.out.drew;obtain ⟨r0,r1⟩:=QA (W:=W) (b:=b) (rb:=rb) (g0:=g0) (z:=W.heap.size) (cs:=cs);refine rhd (S:=(fun w'=>Hid (∃s,QM W b rb g0 W.heap.size cs s w'))) (wT K1) (fun hHeld=>?_);refine' wpAnyH_take (i:=4) (oi:=⟨some 8,_,_,_,_,_⟩) (v:=_) rfl (by kernel_rfl) (by kernel_rfl) (by kernel_rfl) (fun _ _ _ h=>h) (yieldsIf_load_mid (by rfl) _ _ rfl _ _ rfl _ _ ?hS1 hu rfl hi) (by assumption) ?r1;case hS1=>intro w hSw;exact r1 _ hSw
   simp only [Act.put,List.setIfInBounds_toArray,List.set_cons_zero,List.set_cons_succ];refine tkc 0 ?_;refine tkc 1 ?_;refine tkc 2 ?_;refine tks 3 ?_;refine rdy [5] ?_;refine cns (fun K hK=>?_) .nil;go_simp;refine (HC.out _ (Hid.out (by assumption))).mono ?_;rintro e w2 ⟨rfl,K2⟩;go_wp2_with fail;refine bck hK (wT K2) (fun hHeld=>?_);clear hK;refine wpAnyH_done (by kernel_rfl) ?_ _;skip;clear hHeld r0 r1 K1 HC;have R1:=l7 (W:=W) (b:=b) (rb:=rb) (g0:=g0) (z:=W.heap.size) (s:=s.pushQ p) hx;have EQ:Hid (s.addQ p=⟨(s.pushQ p).l,Pl.addS s.n p.size,(s.pushQ p).room,(s.pushQ p).dr,(s.pushQ p).lost⟩):=lh rfl;have M0:Hid (QM W b rb g0 W.heap.size cs ⟨(s.pushQ p).l,s.n,(s.pushQ p).room,(s.pushQ p).dr,(s.pushQ p).lost⟩ w2):=K2;clear K2 hcs K0 h ho;generalize Pl.addS s.n p.size=y at *;generalize p.size=x at *;generalize s.n=n at *;generalize s.pushQ p=s at *;go_wp2_with fail
  have M1:=lh M0.out.drew;refine rhd (S:=(fun w'=>Hid (QSo W b rb g0 W.heap.size cs s w'))) (qso (s:=s) (l:=[]) (r:=0) M1) (fun hHeld=>?_);generalize w2.drew=wd at *;refine tkc 0 ?_;refine tkc 1 ?_;refine tkc 2 ?_;refine tkc 3 ?_;refine tkc 5 ?_;refine tks 6 ?_;refine rdy [4] ?_;refine cns (fun K hK=>?_) .nil;first
  |revert k0v;intro k0v;have c3:=(Hid.out (by assumption):QM W b rb g0 W.heap.size cs ⟨s.l,n,s.room,s.dr,s.lost⟩ _).head.cell (i:=1) (v:=↑n) rfl
  |have c3:=(Hid.out (by assumption):QM W b rb g0 W.heap.size cs ⟨s.l,s.n,s.room,q,n⟩ _).head.cell (i:=4) (v:=↑n) rfl
  go_simp;refine bck hK hHeld (fun hHeld=>?_);clear hK;refine rdy [7] ?_;refine cns (fun K hK=>?_) .nil;first
  |revert k0v;intro k0v;have M3:=lh ((Hid.out (by assumption):QM W b rb g0 W.heap.size cs ⟨s.l,n,s.room,s.dr,s.lost⟩ _).to (aC _ (.cells #[↑n,↑x] 22)))
  |have M3:=lh ((Hid.out (by assumption):QM W b rb g0 W.heap.size cs ⟨s.l,s.n,s.room,q,n⟩ _).to (aC _ (.cells #[↑n,↑x] 22)))
  go_simp;refine bck hK (qso (s:=s) (l:=[]) (r:=0) M3) (fun hHeld=>?_);clear hK;refine rdy [8] ?_;refine cns (fun K hK=>?_) .nil;go_simp;first
  |revert k0v;intro k0v;refine (hA.out _ _ (nc2 _ _ _ _).1 (nc2 _ _ _ _).2).mono ?_;rintro e w4 ⟨rfl,hb⟩;have M4:=lh ((Hid.out (by assumption):QM W b rb g0 W.heap.size cs ⟨s.l,n,s.room,s.dr,s.lost⟩ _).to hb)
  |refine (hB.out _ _ (nc2 _ _ _ _).1 (nc2 _ _ _ _).2).mono ?_;rintro e w4 ⟨rfl,hb⟩;have M4:=lh ((Hid.out (by assumption):QM W b rb g0 W.heap.size cs ⟨s.l,s.n,s.room,q,n⟩ _).to hb)
  go_wp2_with fail;refine bck hK (qso (s:=s) (l:=[]) (r:=0) M4) (fun hHeld=>?_);clear hK;refine tkc 9 ?_;refine tkc 10 ?_;refine rdy [11] ?_;refine cns (fun K hK=>?_) .nil;first
  |revert k0v;intro k0v;have y3:=(Hid.out (by assumption):QM W b rb g0 W.heap.size cs ⟨s.l,n,s.room,s.dr,s.lost⟩ _).head.free 1;have c3:=(Hid.out (by assumption):QM W b rb g0 W.heap.size cs ⟨s.l,n,s.room,s.dr,s.lost⟩ _).head.cell (i:=1) (v:=↑n) rfl;have M6:=lh ((Hid.out (by assumption):QM W b rb g0 W.heap.size cs ⟨s.l,n,s.room,s.dr,s.lost⟩ _).set (s':=⟨s.l,y,s.room,s.dr,s.lost⟩) 1 ↑y rfl rfl)
  |have y3:=(Hid.out (by assumption):QM W b rb g0 W.heap.size cs ⟨s.l,s.n,s.room,q,n⟩ _).head.free 4;have c3:=(Hid.out (by assumption):QM W b rb g0 W.heap.size cs ⟨s.l,s.n,s.room,q,n⟩ _).head.cell (i:=4) (v:=↑n) rfl;have M6:=lh ((Hid.out (by assumption):QM W b rb g0 W.heap.size cs ⟨s.l,s.n,s.room,q,n⟩ _).set (s':=⟨s.l,s.n,s.room,q,y⟩) 4 ↑y rfl rfl)
  go_simp;refine bck hK (qso (s:=s) (l:=[]) (r:=0) M6) (fun hHeld=>?_);clear hK;refine wpAnyH_done (by kernel_rfl) ?_ _;go_end0;rw [EQ.out];exact M6.out.post
theorem JO (b rb g:Nat) (s:QK) (w:World) (h:QAt w b rb g s):
  Calls prog 39 #[↑(π b)] w fun e w'=>e=.returned ↑s.n∧w=w':=by
 have h1:=h.head.cell (i:=1) (v:=↑s.n) rfl;clear h;go_enter func39,ntmps39;go_wp2;go_ret;exact ⟨rfl,rfl⟩
theorem uU (b rb g:Nat) (s:QK) (w:World) (h:QAt w b rb g s):
  Calls prog 37 #[↑(π b)] w fun e w'=>e=.returned (.tuple #[↑s.dr,↑s.lost])∧aB w w':=by
 have h3:=h.head.cell (i:=3) (v:=↑s.dr) rfl;have h4:=h.head.cell (i:=4) (v:=↑s.lost) rfl;clear h;go_enter func37,ntmps37;go_wp2_with fail;go_quiet (fail)
 go_wp2_with fail;go_ret2
 exact ⟨rfl,nq,rfl⟩

theorem DT (rb g:Nat) (l:List Pk) (w:World) (h:bO w rb g l):
  Calls prog 188 #[↑(π rb),.int .i64 0] w fun e w'=>e=cN (l.getD 0 Itm.z) (!l.isEmpty)∧Below ↑w w w':=by
 cases l with
 | nil=>exact yV rb g 0 [] w h (.inr (by simp))
 | cons x r=>exact PU rb g 0 (x :: r) w h (by simp)
theorem qB (rb g:Nat) (l:List Pk) (w:World) (h:bO w rb g l):
  Calls prog 240 #[↑(π rb)] w (fW w rb g (cN (l.getD 0 Itm.z) (!l.isEmpty)) (l.drop 1)):=by
 cases l with
 | nil=>exact nS rb g w h
 | cons x r=>exact DB rb g x r w h
theorem DU (b rb g:Nat) (s:QK) (W:World) (h:QAt W b rb g s):
  Calls prog 136 #[↑(π b)] W fun e w'=>e=cN s.headQ s.someQ∧Below ↑W W w':=by
 have K:=h.keep (aC W (.cells #[↑ζ,↑ζ,↑ζ,↑ζ,↑ζ,↑ζ,.bool false] 73));have h0:=K.head.cell (i:=0) (v:=↑(π rb)) rfl;have HA:Hid (Calls prog 188 #[↑(π rb),.int .i64 0] (W.alloc (.cells #[↑ζ,↑ζ,↑ζ,↑ζ,↑ζ,↑ζ,.bool false] 73)) fun e w'=>e=cN s.headQ s.someQ∧Below (W.alloc (.cells #[↑ζ,↑ζ,↑ζ,↑ζ,↑ζ,↑ζ,.bool false] 73)).heap.size (W.alloc (.cells #[↑ζ,↑ζ,↑ζ,↑ζ,↑ζ,↑ζ,.bool false] 73)) w'):=lh (DT rb g s.l _ K.row);have HB:=lh (Blk.new W 73 #[↑ζ,↑ζ,↑ζ,↑ζ,↑ζ,↑ζ,.bool false]);have HW:=lh (aC W (.cells #[↑ζ,↑ζ,↑ζ,↑ζ,↑ζ,↑ζ,.bool false] 73));clear h K;generalize s.headQ=x at *;generalize s.someQ=q at *;go_enter func136,ntmps136;go_wp2_with fail;refine HA.out.mono ?_;rintro e w1 ⟨rfl,hb⟩;have HB1:=lh (HB.out.keep hb);have HW1:=lh (aD HW.out hb (by simp));clear hb HA h0;generalize (W.alloc (.cells #[↑ζ,↑ζ,↑ζ,↑ζ,↑ζ,↑ζ,.bool false] 73))=w0 at *;have r0:=HB1.out.cell (i:=0) (v:=↑ζ) rfl;have f0:=HB1.out.free 0;have r1:=HB1.out.cell (i:=1) (v:=↑ζ) rfl;have f1:=HB1.out.free 1;have r2:=HB1.out.cell (i:=2) (v:=↑ζ) rfl;have f2:=HB1.out.free 2;have r3:=HB1.out.cell (i:=3) (v:=↑ζ) rfl;have f3:=HB1.out.free 3;have r4:=HB1.out.cell (i:=4) (v:=↑ζ) rfl;have f4:=HB1.out.free 4;have r5:=HB1.out.cell (i:=5) (v:=↑ζ) rfl;have f5:=HB1.out.free 5;have r6:=HB1.out.cell (i:=6) (v:=.bool false) rfl;have f6:=HB1.out.free 6;unfold cN Pk.agg;go_wp2_with fail;have F1:=Blk.whole (Itm.cs x) HB1.out rfl;exact bodyPost_ret (aF rfl _ _ W.heap.size 73 _ _ rfl F1 underlying73 rfl (by kernel_rfl)) rfl ⟨rfl,Below.sets (Nat.le_refl _) (Itm.cs x) 0 w1 HW1.out⟩
theorem JP (b rb g:Nat) (s:QK) (W:World) (h:QAt W b rb g s):
  Calls prog 74 #[↑(π b)] W fun e w'=>e=cN s.headQ s.someQ∧Below ↑W W w':=by
 have K:=h.keep (aC W (.cells #[↑ζ,↑ζ,↑ζ,↑ζ,↑ζ,↑ζ,.bool false] 73));have HA:=lh (DU b rb g s _ K);have HB:=lh (Blk.new W 73 #[↑ζ,↑ζ,↑ζ,↑ζ,↑ζ,↑ζ,.bool false]);have HW:=lh (aC W (.cells #[↑ζ,↑ζ,↑ζ,↑ζ,↑ζ,↑ζ,.bool false] 73));clear h K;generalize s.headQ=x at *;generalize s.someQ=q at *;go_enter func74,ntmps74;go_wp2_with fail;refine HA.out.mono ?_;rintro e w1 ⟨rfl,hb⟩;have HB1:=lh (HB.out.keep hb);have HW1:=lh (aD HW.out hb (by simp));clear hb HA;generalize (W.alloc (.cells #[↑ζ,↑ζ,↑ζ,↑ζ,↑ζ,↑ζ,.bool false] 73))=w0 at *;have r0:=HB1.out.cell (i:=0) (v:=↑ζ) rfl;have f0:=HB1.out.free 0;have r1:=HB1.out.cell (i:=1) (v:=↑ζ) rfl;have f1:=HB1.out.free 1;have r2:=HB1.out.cell (i:=2) (v:=↑ζ) rfl;have f2:=HB1.out.free 2;have r3:=HB1.out.cell (i:=3) (v:=↑ζ) rfl;have f3:=HB1.out.free 3;have r4:=HB1.out.cell (i:=4) (v:=↑ζ) rfl;have f4:=HB1.out.free 4;have r5:=HB1.out.cell (i:=5) (v:=↑ζ) rfl;have f5:=HB1.out.free 5;have r6:=HB1.out.cell (i:=6) (v:=.bool false) rfl;have f6:=HB1.out.free 6;unfold cN Pk.agg;go_wp2_with fail;have F1:=Blk.whole (Itm.cs x) HB1.out rfl;exact bodyPost_ret (aF rfl _ _ W.heap.size 73 _ _ rfl F1 underlying73 rfl (by kernel_rfl)) rfl ⟨rfl,Below.sets (Nat.le_refl _) (Itm.cs x) 0 w1 HW1.out⟩
theorem eH.boxed {s s':QK} {r v:Value} {e:Ending} {o:Obj} (hw:W.alloc o=w0) (h0:QAt W b rb g0 s) (h:eH w0 b rb g0 r s' e w1) (cs:List Value):eH W b rb g0 v s' (.returned v) (w1.setCells W.heap.size 0 cs):=by
 subst hw;obtain ⟨_,⟨g,h1,h2⟩,f⟩:=h;have lt:=h0.lt;have fz:Fr w1 (w1.setCells W.heap.size 0 cs) [W.heap.size]:=Fr.sets (.inl (by simp)) cs 0 w1 (Fr.refl _ _);have e0:(W.alloc o).heap.size=W.heap.size + 1:=by simp
 refine ⟨rfl,⟨g,h1.fr fz (by simp;omega) (by simp;omega) (by simp;omega),by omega⟩,?_⟩;have f0:Fr W w1 [b,rb,g0]:=((Fr.refl W [b,rb,g0]).alloc o).trans f (fun x hx=>.inl hx);exact f0.trans fz (fun x hx=>.inr (by simp at hx;omega))
theorem eH.box {s s':QK} {r:Value} {e:Ending} (h0:QAt W b rb g0 s) (h:eH w0 b rb g0 r s' e w1) {cs:Array Value} (hb:Blk w0 W.heap.size T cs):Blk w1 W.heap.size T cs:=by
 have lt:=h0.lt;exact hb.fr h.fr (by simp;omega)
theorem QM.shifted {s:QK} {v e:Ending} {l:List Pk} (h:QAt W b rb g0 s) (k:fW W rb g0 v l e w) (cs:List Value):QM W b rb g0 w.heap.size cs ⟨l,s.n,s.room,s.dr,s.lost⟩ (w.alloc (.cells cs.toArray 73)):=by
 obtain ⟨g',k1,k2⟩:=k.at_;have n:=h.ne;have lt:=h.lt;have sz:=k.mv.size;have gl:=k1.lt;have q:QAt w b rb g' ⟨l,s.n,s.room,s.dr,s.lost⟩:=⟨h.head.fr k.mv (by simp [n.1,n.2.1]),k1⟩;exact ⟨⟨g',q.keep (aC _ _),k2,by omega⟩,(k.mv.mono (fun x hx=>.inl (by simp at hx ⊢;omega))).alloc _,Blk.new _ _ _,sz,by omega⟩
theorem JQ (b rb g0:Nat) (s:QK) (W:World) (h:QAt W b rb g0 s) (ho:s.ok):
  Calls prog 186 #[↑(π b)] W (eH W b rb g0 (.tuple #[s.headQ.agg,.bool s.someQ]) s.shiftQ):=by
 have H0:=lh h;have K:=h.keep (aC W (.cells #[↑ζ,↑ζ,↑ζ,↑ζ,↑ζ,↑ζ,.bool false] 73));have h0:=K.head.cell (i:=0) (v:=↑(π rb)) rfl;have HA:Hid (Calls prog 240 #[↑(π rb)] (W.alloc (.cells #[↑ζ,↑ζ,↑ζ,↑ζ,↑ζ,↑ζ,.bool false] 73)) (fW (W.alloc (.cells #[↑ζ,↑ζ,↑ζ,↑ζ,↑ζ,↑ζ,.bool false] 73)) rb g0 (cN s.headQ s.someQ) (s.l.drop 1))):=lh (qB rb g0 s.l _ K.row);have HK:=lh K;have HB:=lh (Blk.new W 73 #[↑ζ,↑ζ,↑ζ,↑ζ,↑ζ,↑ζ,.bool false]);have EQ:Hid (s.shiftQ=⟨s.popQ.l,Pl.subS s.n s.headQ.size,s.popQ.room,s.popQ.dr,s.popQ.lost⟩):=lh rfl;have hA:Hid (∀(b:Nat) (W:World),W.cell? ⟨b,0,none⟩=some ↑s.headQ.size→Calls prog 92 #[↑s.n,.slice (some ⟨b,0,none⟩) 1 1] W fun e w'=>e=.returned ↑(Pl.subS s.n s.headQ.size:Nat)∧Below ↑W W w'):=
  lh (fun b W h=>(i7 s.n s.headQ.size b ho.n (QK.head_ok ho) W h).mono fun e w' q=>⟨q.1,q.2▸Below.refl _ _⟩)
 clear h K ho;generalize s.headQ=x at *;generalize s.someQ=q at *;go_enter func186,ntmps186;go_wp2_with fail;refine HA.out.mono ?_;rintro e w1 k;obtain rfl:=k.e;have M0:Hid (QM (W.alloc (.cells #[↑ζ,↑ζ,↑ζ,↑ζ,↑ζ,↑ζ,.bool false] 73)) b rb g0 w1.heap.size (Itm.cs x) ⟨s.popQ.l,s.n,s.popQ.room,s.popQ.dr,s.popQ.lost⟩ (w1.alloc (.cells #[↑x.n,↑x.size,↑x.sent,↑x.first,↑x.deliv,↑x.at_,.bool x.lim] 73))):=lh (QM.shifted HK.out k (Itm.cs x));clear k HA h0 HK;unfold cN Pk.agg;go_upto_region 2 with fail
 have hx:(Itm.cs x)[1]? =some (.int .u64 (x.size:Int)):=rfl;generalize (w1.alloc (.cells #[↑x.n,↑x.size,↑x.sent,↑x.first,↑x.deliv,↑x.at_,.bool x.lim] 73))=w2 at *;generalize w1.heap.size=z at *;generalize hw0:W.alloc (.cells #[↑ζ,↑ζ,↑ζ,↑ζ,↑ζ,↑ζ,.bool false] 73)=w0 at *;have HW0:=lh hw0;clear hw0;generalize hcs:Itm.cs x=cs at *;have HCs:=lh hcs;clear hcs;have R1:=l7 (W:=w0) (b:=b) (rb:=rb) (g0:=g0) (z:=z) (s:=s.popQ) hx;generalize hxs:x.size=xs at *;clear hxs;generalize Pl.subS s.n xs=y at *;generalize s.n=n at *;generalize s.popQ=s2 at *;have M1:=lh M0.out.drew;go_wp2_with fail;refine rhd (S:=(fun w'=>Hid (QSo w0 b rb g0 z cs s2 w'))) (qso (s:=s2) (l:=[]) (r:=0) M1) (fun hHeld=>?_);generalize w2.drew=wd at *;refine tkc 0 ?_;refine tkc 1 ?_;refine tkc 2 ?_;refine tkc 3 ?_;refine tkc 5 ?_;refine tks 6 ?_;refine rdy [4,7] ?_;refine cns (fun K hK=>?k28) ?m28
 case' k28=>
  have c3:=(Hid.out (by assumption):QM w0 b rb g0 z cs ⟨s2.l,n,s2.room,s2.dr,s2.lost⟩ _).head.cell (i:=1) (v:=↑n) rfl;go_simp;refine bck hK hHeld (fun hHeld=>?_);clear hK;refine rdy [7] ?_;refine cns (fun K hK=>?_) .nil;have M3:=lh ((Hid.out (by assumption):QM w0 b rb g0 z cs ⟨s2.l,n,s2.room,s2.dr,s2.lost⟩ _).to (aC _ (.cells #[↑xs] 22)));go_simp;refine bck hK (qso (s:=s2) (l:=[]) (r:=0) M3) (fun hHeld=>?_);clear hK;refine rdy [8] ?_;refine cns (fun K hK=>?_) .nil;go_simp;refine (hA.out _ _ (aN rfl rfl)).mono ?_;rintro e w4 ⟨rfl,hb⟩;have M4:=lh ((Hid.out (by assumption):QM w0 b rb g0 z cs ⟨s2.l,n,s2.room,s2.dr,s2.lost⟩ _).to hb);go_wp2_with fail;refine bck hK (qso (s:=s2) (l:=[]) (r:=0) M4) (fun hHeld=>?_);clear hK;refine tkc 9 ?_;refine tkc 10 ?_;refine rdy [11] ?_;refine cns (fun K hK=>?_) .nil;have y3:=(Hid.out (by assumption):QM w0 b rb g0 z cs ⟨s2.l,n,s2.room,s2.dr,s2.lost⟩ _).head.free 1;have c3:=(Hid.out (by assumption):QM w0 b rb g0 z cs ⟨s2.l,n,s2.room,s2.dr,s2.lost⟩ _).head.cell (i:=1) (v:=↑n) rfl;have M6:=lh ((Hid.out (by assumption):QM w0 b rb g0 z cs ⟨s2.l,n,s2.room,s2.dr,s2.lost⟩ _).set (s':=⟨s2.l,y,s2.room,s2.dr,s2.lost⟩) 1 ↑y rfl rfl);go_simp;refine bck hK (qso (s:=s2) (l:=[]) (r:=0) M6) (fun hHeld=>?_);clear hK;refine wpAnyH_done (by kernel_rfl) ?_ _;skip
 case' m28=>
  refine cns (fun K hK=>?_) .nil;have M3:=lh ((Hid.out (by assumption):QM w0 b rb g0 z cs ⟨s2.l,n,s2.room,s2.dr,s2.lost⟩ _).to (aC _ (.cells #[↑xs] 22)));go_simp;refine bck hK (qso (s:=s2) (l:=[]) (r:=0) M3) (fun hHeld=>?_);clear hK;refine rdy [4] ?_;refine cns (fun K hK=>?_) .nil;have c3:=(Hid.out (by assumption):QM w0 b rb g0 z cs ⟨s2.l,n,s2.room,s2.dr,s2.lost⟩ _).head.cell (i:=1) (v:=↑n) rfl;go_simp;refine bck hK hHeld (fun hHeld=>?_);clear hK;refine rdy [8] ?_;refine cns (fun K hK=>?_) .nil;go_simp;refine (hA.out _ _ (aN rfl rfl)).mono ?_;rintro e w4 ⟨rfl,hb⟩;have M4:=lh ((Hid.out (by assumption):QM w0 b rb g0 z cs ⟨s2.l,n,s2.room,s2.dr,s2.lost⟩ _).to hb);go_wp2_with fail;refine bck hK (qso (s:=s2) (l:=[]) (r:=0) M4) (fun hHeld=>?_);clear hK;refine tkc 9 ?_;refine tkc 10 ?_;refine rdy [11] ?_;refine cns (fun K hK=>?_) .nil;have y3:=(Hid.out (by assumption):QM w0 b rb g0 z cs ⟨s2.l,n,s2.room,s2.dr,s2.lost⟩ _).head.free 1;have c3:=(Hid.out (by assumption):QM w0 b rb g0 z cs ⟨s2.l,n,s2.room,s2.dr,s2.lost⟩ _).head.cell (i:=1) (v:=↑n) rfl;have M6:=lh ((Hid.out (by assumption):QM w0 b rb g0 z cs ⟨s2.l,n,s2.room,s2.dr,s2.lost⟩ _).set (s':=⟨s2.l,y,s2.room,s2.dr,s2.lost⟩) 1 ↑y rfl rfl);go_simp;refine bck hK (qso (s:=s2) (l:=[]) (r:=0) M6) (fun hHeld=>?_);clear hK;refine wpAnyH_done (by kernel_rfl) ?_ _;skip
 all_goals
  generalize (w4.setCell ⟨b,1,none⟩ ↑y)=w5 at *;have P6:eH w0 b rb g0 (.tuple #[]) _ _ w5:=M6.out.post;have HB6:=lh (P6.box H0.out HB.out);have HX6:Hid (Blk w5 z 73 (Itm.cs x).toArray):=lh (HCs.out▸M6.out.box);clear hHeld M4 M0 M1 R1 hA hx;have x0:=HX6.out.cell (i:=0) (v:=↑x.n) rfl;have x1:=HX6.out.cell (i:=1) (v:=↑x.size) rfl;have x2:=HX6.out.cell (i:=2) (v:=↑x.sent) rfl;have x3:=HX6.out.cell (i:=3) (v:=↑x.first) rfl;have x4:=HX6.out.cell (i:=4) (v:=↑x.deliv) rfl;have x5:=HX6.out.cell (i:=5) (v:=↑x.at_) rfl;have x6:=HX6.out.cell (i:=6) (v:=.bool x.lim) rfl;have r0:=HB6.out.cell (i:=0) (v:=↑ζ) rfl;have f0:=HB6.out.free 0;have r1:=HB6.out.cell (i:=1) (v:=↑ζ) rfl;have f1:=HB6.out.free 1;have r2:=HB6.out.cell (i:=2) (v:=↑ζ) rfl;have f2:=HB6.out.free 2;have r3:=HB6.out.cell (i:=3) (v:=↑ζ) rfl;have f3:=HB6.out.free 3;have r4:=HB6.out.cell (i:=4) (v:=↑ζ) rfl;have f4:=HB6.out.free 4;have r5:=HB6.out.cell (i:=5) (v:=↑ζ) rfl;have f5:=HB6.out.free 5;have r6:=HB6.out.cell (i:=6) (v:=.bool false) rfl;have f6:=HB6.out.free 6;go_wp2_with fail;have F1:=Blk.whole (Itm.cs x) HB6.out rfl;rw [EQ.out];exact bodyPost_ret (aF rfl _ _ W.heap.size 73 _ _ rfl F1 underlying73 rfl (by kernel_rfl)) rfl (eH.boxed HW0.out H0.out P6 (Itm.cs x))

theorem DV (b rb g0:Nat) (s:QK) (W:World) (h:QAt W b rb g0 s) (ho:s.ok):
  Calls prog 133 #[↑(π b)] W (eH W b rb g0 (.tuple #[s.headQ.agg,.bool s.someQ]) s.shiftQ):=by
 have H0:=lh h;have HA:=lh (JQ b rb g0 s _ (h.keep (aC W (.cells #[↑ζ,↑ζ,↑ζ,↑ζ,↑ζ,↑ζ,.bool false] 73))) ho);have HB:=lh (Blk.new W 73 #[↑ζ,↑ζ,↑ζ,↑ζ,↑ζ,↑ζ,.bool false]);clear h ho;generalize s.headQ=x at *;generalize s.someQ=q at *;generalize s.shiftQ=s2 at *;go_enter func133,ntmps133;go_wp2_with fail;refine HA.out.mono ?_;rintro e w1 k;have P6:=k;obtain rfl:=P6.e;generalize hw0:W.alloc (.cells #[↑ζ,↑ζ,↑ζ,↑ζ,↑ζ,↑ζ,.bool false] 73)=w0 at *;have HW0:=lh hw0;clear hw0 k HA;have HB6:=lh (P6.box H0.out HB.out);have r0:=HB6.out.cell (i:=0) (v:=↑ζ) rfl;have f0:=HB6.out.free 0;have r1:=HB6.out.cell (i:=1) (v:=↑ζ) rfl;have f1:=HB6.out.free 1;have r2:=HB6.out.cell (i:=2) (v:=↑ζ) rfl;have f2:=HB6.out.free 2;have r3:=HB6.out.cell (i:=3) (v:=↑ζ) rfl;have f3:=HB6.out.free 3;have r4:=HB6.out.cell (i:=4) (v:=↑ζ) rfl;have f4:=HB6.out.free 4;have r5:=HB6.out.cell (i:=5) (v:=↑ζ) rfl;have f5:=HB6.out.free 5;have r6:=HB6.out.cell (i:=6) (v:=.bool false) rfl;have f6:=HB6.out.free 6;unfold Pk.agg;go_wp2_with fail;have F1:=Blk.whole (Itm.cs x) HB6.out rfl;exact bodyPost_ret (aF rfl _ _ W.heap.size 73 _ _ rfl F1 underlying73 rfl (by kernel_rfl)) rfl (eH.boxed HW0.out H0.out P6 (Itm.cs x))
structure QB (w:World) (r:Nat) (e:Ending) (w':World):Prop where
 at_:∃b rb g,e=.returned ↑(π b)∧QAt w' b rb g (QK.start r)∧↑w≤b∧↑w≤rb∧↑w≤g
 bel:Below ↑w w w'
theorem OF (r:Nat) (w:World):Calls prog 79 #[↑r] w (QB w r):=by
 have HN:=lh (N9 none 0 [] w (Its.none _ _) (by simp));go_enter func79,ntmps79;go_wp2_with fail;refine HN.out.mono ?_;rintro e w1 ⟨⟨b,g,rfl,hr,hb,hg⟩,hbel⟩;have HR:=lh hr;have HW:=lh hbel;clear hr hbel HN;go_wp2_with fail;go_ret;exact ⟨⟨_,b,g,rfl,⟨Blk.new _ _ _,HR.out.alloc _⟩,HW.out.size,hb,hg⟩,HW.out.trans ((aC _ _).mono HW.out.size)⟩
theorem wU (s:QK) (ho:s.ok) (b:Nat) (W:World) (h:W.cell? ⟨b,0,none⟩=some ↑s.n):
  Calls prog 92 #[↑s.room,.slice (some ⟨b,0,none⟩) 1 1] W fun e w'=>e=.returned ↑(Pl.subS s.room s.n:Nat)∧Below ↑W W w':=
 (i7 s.room s.n b ho.room ho.n W h).mono fun e w' q=>⟨q.1,q.2▸Below.refl _ _⟩
theorem JR (b rb g0:Nat) (p:Pk) (s:QK) (W:World) (cs:List Value) (hc:Itm.cs p=cs) (ho:s.ok) (hp:p.size≤↑ω) (hk:s.l.length≤5500):∀w,QM W b rb g0 W.heap.size cs s w→
  Calls prog 191 #[↑(π b),.agg cs.toArray] w fun e w'=>e=.returned (.tuple #[])∧Hid (QM W b rb g0 W.heap.size cs (s.addQ p) w'):=fun w h=>by
 obtain ⟨g,h1,h2⟩:=h.at_;have:=sK.1 b rb g p s w h1 ho hp hk;subst hc;exact this.mono fun e w' k=>⟨k.e,lh (h.call h1 h2 k)⟩
theorem DW (b rb g0:Nat) (p:Pk) (s:QK) (W:World) (cs:List Value) (hc:Itm.cs p=cs) (ho:s.ok) (hp:p.size≤↑ω):∀w,QM W b rb g0 W.heap.size cs s w→
  Calls prog 190 #[↑(π b),.agg cs.toArray] w fun e w'=>e=.returned (.tuple #[])∧Hid (QM W b rb g0 W.heap.size cs (s.dropQ p) w'):=fun w h=>by
 obtain ⟨g,h1,h2⟩:=h.at_;have:=sK.2 b rb g p s w h1 ho hp;subst hc;exact this.mono fun e w' k=>⟨k.e,lh (h.call h1 h2 k)⟩
theorem lR:(∀(b rb g0:Nat) (p:Pk) (s:QK) (W:World) (h:QAt W b rb g0 s) (ho:s.ok) (hp:p.size≤↑ω) (c:¬ p.size≤Pl.subS s.room s.n),Calls prog 141 #[↑(π b),p.agg] W (eH W b rb g0 (.bool false) (s.dropQ p)))∧(∀(b rb g0:Nat) (p:Pk) (s:QK) (W:World) (h:QAt W b rb g0 s) (ho:s.ok) (hp:p.size≤↑ω) (hk:s.l.length≤5500) (c:p.size≤Pl.subS s.room s.n),Calls prog 141 #[↑(π b),p.agg] W (eH W b rb g0 (.bool true) (s.addQ p))):=by
 refine ⟨?_,?_⟩
 have k0v:Hid True:=trivial;intro b rb g0 p s W h ho hp c;rotate_left;intro b rb g0 p s W h ho hp hk c;rotate_left
 all_goals
  first
  |revert k0v;intro k0v;have d:decide (Pl.subS s.room s.n < p.size)=true:=decide_eq_true (by omega);have HL:=lh (wU s ho);have HC:=lh (DW b rb g0 p s W _ rfl ho hp)
  |have d:decide (Pl.subS s.room s.n < p.size)=false:=decide_eq_false (by omega);have HL:=lh (wU s ho);have HC:=lh (JR b rb g0 p s W _ rfl ho hp hk)
  have K0:=lh (QM.start h (Itm.cs p));have hx:(Itm.cs p)[1]? =some (.int .u64 (p.size:Int)):=rfl;clear h ho c;unfold Pk.agg;go_enter func141,ntmps141;go_upto_region 3 with fail;change Code.wp _ _ _ _ (W.alloc (.cells (Itm.cs p).toArray 73));generalize W.alloc (.cells (Itm.cs p).toArray 73)=w0 at *;have hu:=underlying73;have hi:=kQ p;have R1:=l7 (W:=W) (b:=b) (rb:=rb) (g0:=g0) (z:=W.heap.size) (s:=s) hx;generalize hcs:Itm.cs p=cs at *;have HCs:=lh hcs;clear hcs hx;first
  |revert k0v;intro k0v;generalize hq:s.dropQ p=s2 at *
  |generalize hq:s.addQ p=s2 at *
  clear hq;generalize Pl.subS s.room s.n=y at *;generalize p.size=x at *;have R2:∀w,Hid (QM W b rb g0 W.heap.size cs s w)→w.cell? ⟨W.heap.size,1,none⟩=some ↑x:=fun w k=>R1 w (qso (r:=0) (l:=[]) k);obtain ⟨_,r1,r2,r3⟩:=RO (W:=W) (b:=b) (rb:=rb) (g0:=g0) (z:=W.heap.size) (cs:=cs) (s:=s);have M0:=lh K0.out.drew;clear K0 R1;go_wp2_with fail;go_region_held3 (fun w'=>Hid (QM W b rb g0 W.heap.size cs s w'))
   (first | exact M0 | exact M2 | exact lh ((Hid.out (by assumption):QM W b rb g0 W.heap.size cs s _).to (aC _ _)) | assumption)
   (first | (go_at_call 92;(first | refine (HL.out _ _ (nc1 _ _ _)).mono ?_ | refine (HL.out _ _ (eE _ _ _)).mono ?_);rintro e w' ⟨rfl,hb⟩;have M2:=lh ((Hid.out (by assumption):QM W b rb g0 W.heap.size cs s _).to hb)))
  all_goals
   first
   |revert k0v;intro k0v;have M3:=(‹Hid (QM W b rb g0 W.heap.size cs s _)›);clear r1 r2 r3 R2 HL d M0;obtain ⟨v0,v1,v2,v3,v4,v5,v6,rfl⟩:∃v0 v1 v2 v3 v4 v5 v6,cs=[v0,v1,v2,v3,v4,v5,v6]:=⟨_,_,_,_,_,_,_,HCs.out.symm⟩;clear HCs hi hu;have HX:=lh M3.out.box;have x0:=HX.out.cell (i:=0) (v:=v0) rfl;have x1:=HX.out.cell (i:=1) (v:=v1) rfl;have x2:=HX.out.cell (i:=2) (v:=v2) rfl;have x3:=HX.out.cell (i:=3) (v:=v3) rfl;have x4:=HX.out.cell (i:=4) (v:=v4) rfl;have x5:=HX.out.cell (i:=5) (v:=v5) rfl;have x6:=HX.out.cell (i:=6) (v:=v6) rfl;go_wp2_with fail;refine (HC.out _ M3.out).mono ?_;rintro e w2 ⟨rfl,K2⟩;go_wp2_with fail;go_ret;exact K2.out.post
   |have M3:=(‹Hid (QM W b rb g0 W.heap.size cs s _)›);clear r1 r2 r3 R2 HL d;obtain ⟨r0,r1⟩:=QA (W:=W) (b:=b) (rb:=rb) (g0:=g0) (z:=W.heap.size) (cs:=cs);go_wp2_with fail;generalize w'=w1 at *;have M1:=lh M3.out.drew;refine rhd (S:=(fun w'=>Hid (∃s,QM W b rb g0 W.heap.size cs s w'))) (wT M1) (fun hHeld=>?_);generalize w1.drew=wd at *;refine' wpAnyH_take (i:=3) (oi:=⟨some 27,_,_,_,_,_⟩) (v:=_) rfl (by kernel_rfl) (by kernel_rfl) (by kernel_rfl) (fun _ _ _ h=>h) (yieldsIf_load_mid (by rfl) _ _ rfl _ _ rfl _ _ ?hS33 hu rfl hi) (by assumption) ?r33;case hS33=>intro w hSw;exact r1 _ hSw
    simp only [Act.put,List.setIfInBounds_toArray,List.set_cons_zero,List.set_cons_succ];refine tkc 0 ?_;refine tkc 1 ?_;refine tkc 2 ?_;refine rdy [4] ?_;refine cns (fun K hK=>?_) .nil;go_simp;refine (HC.out _ (Hid.out (by assumption))).mono ?_;rintro e w2 ⟨rfl,K2⟩;go_wp2_with fail;refine bck hK (wT K2) (fun hHeld=>?_);clear hK;refine wpAnyH_done (by kernel_rfl) ?_ _;go_wp2_with fail;go_ret;exact K2.out.post
theorem OG (b rb g0:Nat) (p:Pk) (s:QK) (W:World) (h:QAt W b rb g0 s) (ho:s.ok) (hp:p.size≤↑ω) (hk:s.l.length≤5500):
  Calls prog 141 #[↑(π b),p.agg] W (eH W b rb g0 (.bool (s.putB p)) (s.putQ p)):=by
 unfold QK.putB QK.putQ;by_cases c:p.size≤Pl.subS s.room s.n
 ·rw [if_pos c,decide_eq_true c];exact lR.2 b rb g0 p s W h ho hp hk c
 ·rw [if_neg c,decide_eq_false c];exact lR.1 b rb g0 p s W h ho hp c

structure BxS where
 delay:Nat
 jit:Nat
 l:List Jp
 last:Nat
def iH (now:Nat) (x:Jp):Bool:=decide (x.due≤now)
namespace BxS
def start (d j:Nat):BxS:=⟨d,j,[],0⟩
structure ok (s:BxS):Prop where
 delay:s.delay≤↑ω
 jit:s.jit≤↑ω
 last:s.last≤↑ω
 due:∀x∈s.l,x.due≤↑ω
def ownT (s:BxS) (now ch:Nat):Nat:=Pl.addS (Pl.addS now s.delay) (min ch s.jit)
def dueB (s:BxS) (now ch:Nat):Nat:=max s.last (s.ownT now ch)
def putB (s:BxS) (p:Pk) (now ch:Nat):BxS:=⟨s.delay,s.jit,s.l ++ [⟨p,s.dueB now ch⟩],s.dueB now ch⟩
def told (s:BxS) (now:Nat):List Pk:=(s.l.takeWhile (iH now)).map Jp.p
def outB (s:BxS) (now:Nat):BxS:=⟨s.delay,s.jit,s.l.dropWhile (iH now),s.last⟩
def pks (s:BxS):List Pk:=s.l.map Jp.p
def nextT (s:BxS):Nat:=(s.l.getD 0 Itm.z).due
def someB (s:BxS):Bool:=!s.l.isEmpty
def cells (s:BxS) (rb:Nat):Array Value:=#[↑s.delay,↑s.jit,↑(π rb),↑s.last]
theorem ownT_le (s:BxS) (now ch:Nat):s.ownT now ch≤18446744073709551615:=Pl.addS_le _ _
theorem dueB_le {s:BxS} (h:s.ok) (now ch:Nat):s.dueB now ch≤18446744073709551615:=by
 have:=h.last;have:=s.ownT_le now ch;unfold dueB;omega
theorem start_ok {d:Nat} (h:d≤↑ω) (k:j≤↑ω):(start d j).ok:=⟨h,k,Nat.zero_le _,fun x hx=>by cases hx⟩
theorem put_ok {s:BxS} (h:s.ok) (p:Pk) (now ch:Nat):(s.putB p now ch).ok:=⟨h.delay,h.jit,dueB_le h now ch,fun x hx=>by
 rcases List.mem_append.1 hx with c | c
 ·exact h.due x c
 ·rw [List.mem_singleton.1 c];exact dueB_le h now ch⟩
theorem out_ok {s:BxS} (h:s.ok) (now:Nat):(s.outB now).ok:=⟨h.delay,h.jit,h.last,fun x hx=>h.due x ((List.dropWhile_sublist _).subset hx)⟩
theorem put_len (s:BxS) (p:Pk) (now ch:Nat):(s.putB p now ch).l.length=s.l.length + 1:=by simp [putB]
theorem out_len (s:BxS) (now:Nat):(s.outB now).l.length≤s.l.length:=(List.dropWhile_sublist _).length_le
theorem told_len (s:BxS) (now:Nat):(s.told now).length≤s.l.length:=by unfold told;rw [List.length_map];exact (List.takeWhile_sublist _).length_le
end BxS
structure dX (w:World) (b rb g:Nat) (s:BxS):Prop where
 head:Blk w b 228 (s.cells rb)
 row:bW w rb g s.l
theorem dX.keep {w w':World} {b rb g:Nat} {s:BxS} (h:dX w b rb g s) (k:Below ↑w w w'):dX w' b rb g s:=⟨h.head.keep k,h.row.keep k⟩
theorem dX.ne {w:World} {b rb g:Nat} {s:BxS} (h:dX w b rb g s):b≠rb∧b≠g∧rb≠g:=by
 obtain ⟨cs,h1⟩:=h.row.head;obtain ⟨ds,h2⟩:=h.row.body;exact ⟨h.head.ty h1 (by decide),h.head.ty h2 (by decide),h.row.ne⟩
theorem dX.lt {w:World} {b rb g:Nat} {s:BxS} (h:dX w b rb g s):b < w.heap.size∧rb < w.heap.size∧g < w.heap.size:=⟨h.head.lt,h.row.lt⟩
theorem dX.fr {w w':World} {b rb g:Nat} {s:BxS} {L:List Nat} (h:dX w b rb g s) (k:Fr w w' L) (h1:b ∉ L) (h2:rb ∉ L) (h3:g ∉ L):dX w' b rb g s:=⟨h.head.fr k h1,h.row.fr k h2 h3⟩
structure DX (W:World) (b rb g0:Nat) (r:Value) (s:BxS) (e:Ending) (w:World):Prop where
 e:e=.returned r
 at_:∃g,dX w b rb g s∧(g=g0∨W.heap.size≤g)
 fr:Fr W w [b,rb,g0]
structure BxM (W:World) (b rb g0 z:Nat) (cs:List Value) (s:BxS) (w:World):Prop where
 at_:∃g,dX w b rb g s∧(g=g0∨W.heap.size≤g)
 fr:Fr W w [b,rb,g0]
 box:Blk w z 73 cs.toArray
 lo:↑W≤z
 gz:b < z∧rb < z∧g0 < z
theorem BxM.to {s:BxS} (h:BxM W b rb g0 z cs s w) (k:Below ↑w w w'):BxM W b rb g0 z cs s w':=
 ⟨by obtain ⟨g,h1,h2⟩:=h.at_;exact ⟨g,h1.keep k,h2⟩,h.fr.below k,h.box.keep k,h.lo,h.gz⟩
theorem BxM.drew {W w:World} {b rb g0 z:Nat} {cs:List Value} {s:BxS} (h:BxM W b rb g0 z cs s w):BxM W b rb g0 z cs s w.drew:=h.to ((aB.drew w).below _)
theorem BxM.set {W w:World} {b rb g0 z:Nat} {cs:List Value} {s s':BxS} (h:BxM W b rb g0 z cs s w) (i:Nat) (u:Value) (he:(s.cells rb).setIfInBounds i u=s'.cells rb) (hl:s.l=s'.l):BxM W b rb g0 z cs s' (w.setCell ⟨b,i,none⟩ u):=by
 obtain ⟨g,h1,h2⟩:=h.at_;have n:=h1.ne;exact ⟨⟨g,⟨he▸h1.head.set i u,hl▸h1.row.set_other (Ne.symm n.1) (Ne.symm n.2.1)⟩,h2⟩,h.fr.set (.inl (by simp)) i u,h.box.set_other i u (by have:=h.gz;omega),h.lo,h.gz⟩
theorem BxM.head {W w:World} {b rb g0 z:Nat} {cs:List Value} {s:BxS} (h:BxM W b rb g0 z cs s w):Blk w b 228 (s.cells rb):=by obtain ⟨g,h1,_⟩:=h.at_;exact h1.head
theorem BxM.post {s:BxS} {v:Value} (h:BxM W b rb g0 z cs s w):DX W b rb g0 v s (.returned v) w:=
 ⟨rfl,by obtain ⟨g,h1,h2⟩:=h.at_;exact ⟨g,h1,h2⟩,h.fr⟩
theorem BxM.start {g:Nat} {s:BxS} (h:dX W b rb g s) (cs:List Value):BxM W b rb g W.heap.size cs s (W.alloc (.cells cs.toArray 73)):=
 ⟨⟨g,h.keep (aC _ _),.inl rfl⟩,(Fr.refl _ _).alloc _,Blk.new _ _ _,Nat.le_refl _,h.lt⟩
theorem BxM.ring {g:Nat} {s:BxS} {l:List Jp} {v e:Ending} (h:BxM W b rb g0 z cs s w) (h1:dX w b rb g s) (h2:g=g0∨W.heap.size≤g) (k:jC w rb g v l e w'):BxM W b rb g0 z cs ⟨s.delay,s.jit,l,s.last⟩ w':=by
 obtain ⟨g',k1,k2⟩:=k.at_;have n:=h1.ne;have lt:=h1.lt;have zl:=h.box.lt;have gz:=h.gz;obtain ⟨ds,hd⟩:=h1.row.body;have nz:z≠g:=h.box.ty hd (by decide);refine ⟨⟨g',⟨h1.head.fr k.mv (by simp [n.1,n.2.1]),k1⟩,by have:=h.fr.size;rcases k2 with c | c;exact c▸h2;omega⟩,h.fr.trans k.mv (fun x hx=>?_),h.box.fr k.mv (by simp;omega),h.lo,gz⟩;simp at hx ⊢
 omega
theorem RP {s:BxS}:(∀w,Hid (BxM W b rb g0 z cs s w)→w.cell? ⟨b,0,none⟩=some ↑s.delay)∧(∀w,Hid (BxM W b rb g0 z cs s w)→w.cell? ⟨b,1,none⟩=some ↑s.jit)∧(∀w,Hid (BxM W b rb g0 z cs s w)→w.cell? ⟨b,2,none⟩=some ↑(π rb))∧(∀w,Hid (BxM W b rb g0 z cs s w)→w.cell? ⟨b,3,none⟩=some ↑s.last):=
 ⟨fun w h=>h.out.head.cell rfl,fun w h=>h.out.head.cell rfl,fun w h=>h.out.head.cell rfl,fun w h=>h.out.head.cell rfl⟩
theorem RQ {d:Nat}:(∀w,Hid (∃l,BxM W b rb g0 z cs ⟨d,j,l,t⟩ w)→w.cell? ⟨b,2,none⟩=some ↑(π rb))∧(∀w,Hid (∃l,BxM W b rb g0 z cs ⟨d,j,l,t⟩ w)→w.cell? ⟨b,3,none⟩=some ↑t):=
 ⟨fun w h=>by obtain ⟨l,k⟩:=h.out;exact k.head.cell rfl,fun w h=>by obtain ⟨l,k⟩:=h.out;exact k.head.cell rfl⟩
theorem QC {d:Nat} {v:Value} (hv:cs[i]? =some v):∀w,Hid (∃l,BxM W b rb g0 z cs ⟨d,j,l,t⟩ w)→w.cell? ⟨z,i,none⟩=some v:=fun w h=>by
 obtain ⟨l,k⟩:=h.out;exact k.box.cell (by simpa using hv)
theorem DY (x y z:Nat) (hx:x≤↑ω) (hy:y≤↑ω) (hz:z≤↑ω) (b:Nat) (W:World) (h0:W.cell? ⟨b,0,none⟩=some ↑x) (h1:W.cell? ⟨b,1,none⟩=some ↑y) (h2:W.cell? ⟨b,2,none⟩=some ↑z):
  Calls prog 60 #[.slice (some ⟨b,0,none⟩) 3 3] W fun e W'=>e=.returned ↑(Pl.addS (Pl.addS x y) z:Nat)∧Below ↑W W W':=by
 have:=i6 b 0 3 [x,y,z] W (by simp) (by simp;omega) (fun i hi=>by
  match i,hi with
  | 0,_=>exact h0
  | 1,_=>exact h1
  | 2,_=>exact h2)
 have e:Pl.sumS [x,y,z]=Pl.addS (Pl.addS x y) z:=by simp [Pl.sumS,Pl.addS];omega
 rw [e] at this;exact this.mono fun e w' q=>⟨q.1,q.2▸Below.refl _ _⟩
theorem JS (W:World) (x y z:Nat) (T:TypeId):(W.alloc (.cells #[↑x,↑y,↑z] T)).cell? ⟨W.heap.size,0,none⟩=some ↑x∧(W.alloc (.cells #[↑x,↑y,↑z] T)).cell? ⟨W.heap.size,1,none⟩=some ↑y∧(W.alloc (.cells #[↑x,↑y,↑z] T)).cell? ⟨W.heap.size,2,none⟩=some ↑z:=⟨aN rfl rfl,aN rfl rfl,aN rfl rfl⟩
theorem DZ (W:World) (x y z:Nat) (T:TypeId):(W.alloc (.cells #[↑x,↑y,↑z] T)).drew.cell? ⟨W.heap.size,0,none⟩=some ↑x∧(W.alloc (.cells #[↑x,↑y,↑z] T)).drew.cell? ⟨W.heap.size,1,none⟩=some ↑y∧(W.alloc (.cells #[↑x,↑y,↑z] T)).drew.cell? ⟨W.heap.size,2,none⟩=some ↑z:=JS W x y z T
theorem JT (b rb g0 z t:Nat) (p:Pk) (s:BxS) (W:World) (cs:List Value) (hk:s.l.length≤5500):∀w,BxM W b rb g0 z cs s w→
  Calls prog 187 #[↑(π rb),(Jp.mk p t).agg] w fun e w'=>e=.returned (.tuple #[])∧Hid (BxM W b rb g0 z cs ⟨s.delay,s.jit,s.l ++ [⟨p,t⟩],s.last⟩ w'):=fun w h=>by
 obtain ⟨g,h1,h2⟩:=h.at_;have:=JI rb g ⟨p,t⟩ s.l w h1.row hk;exact this.mono fun e w' k=>⟨k.e,lh (h.ring h1 h2 k)⟩
theorem OH (b rb g0:Nat) (p:Pk) (now ch:Nat) (s:BxS) (W:World) (h:dX W b rb g0 s) (ho:s.ok) (hn:now≤↑ω) (hc:ch≤↑ω) (hk:s.l.length≤5500):
  Calls prog 134 #[↑(π b),p.agg,↑now,↑ch] W (DX W b rb g0 ↑(s.dueB now ch:Nat) (s.putB p now ch)):=by
 have K0:=lh (BxM.start h (Itm.cs p));have hA:=lh (DY now s.delay (min ch s.jit) hn ho.delay (by omega));have hC:=lh (JT b rb g0 W.heap.size (s.dueB now ch) p ⟨s.delay,s.jit,s.l,s.dueB now ch⟩ W (Itm.cs p) hk);have hmin:(if s.jit < ch then (s.jit:Int) else (ch:Int))=((min ch s.jit:Nat):Int):=by split <;> omega
 have hmx:Hid ((if s.last < s.ownT now ch then ((s.ownT now ch:Nat):Int) else (s.last:Int))=((s.dueB now ch:Nat):Int)):=lh (by unfold BxS.dueB;split <;> omega);have ES:Hid (BxM W b rb g0 W.heap.size (Itm.cs p) ⟨s.delay,s.jit,s.l ++ [⟨p,s.dueB now ch⟩],s.dueB now ch⟩=BxM W b rb g0 W.heap.size (Itm.cs p) (s.putB p now ch)):=lh rfl;have HE:Hid (s.ownT now ch=Pl.addS (Pl.addS now s.delay) (min ch s.jit)):=lh rfl;have hz:=lh (fun i v (hv:(Itm.cs p)[i]? =some v)=>QC (W:=W) (b:=b) (rb:=rb) (g0:=g0) (z:=W.heap.size) (d:=s.delay) (j:=s.jit) (t:=s.dueB now ch) hv);have z0:=hz.out 0 _ rfl;have z1:=hz.out 1 _ rfl;have z2:=hz.out 2 _ rfl;have z3:=hz.out 3 _ rfl;have z4:=hz.out 4 _ rfl;have z5:=hz.out 5 _ rfl;have z6:=hz.out 6 _ rfl;clear hz h ho hn hc hk;obtain ⟨q0,q1,_,q3⟩:=RP (W:=W) (b:=b) (rb:=rb) (g0:=g0) (z:=W.heap.size) (cs:=Itm.cs p) (s:=s);unfold Pk.agg;go_enter func134,ntmps134;go_upto_region 3 with fail
 change Code.wp _ _ _ _ (W.alloc (.cells (Itm.cs p).toArray 73))
 have M0:=lh K0.out.drew;clear K0;generalize W.alloc (.cells (Itm.cs p).toArray 73)=w0 at *;generalize min ch s.jit=m at *;rw [← HE.out] at hA;go_wp2_with fail;go_region_held3 (fun w'=>Hid (BxM W b rb g0 W.heap.size (Itm.cs p) s w'))
  (first | exact M0 | exact M2 | exact lh ((Hid.out (by assumption):BxM W b rb g0 W.heap.size (Itm.cs p) s _).to (aC _ _)) | assumption)
  (first | (go_at_call 60;(first | refine (hA.out _ _ (JS _ _ _ _ _).1 (JS _ _ _ _ _).2.1 (JS _ _ _ _ _).2.2).mono ?_ | refine (hA.out _ _ (DZ _ _ _ _ _).1 (DZ _ _ _ _ _).2.1 (DZ _ _ _ _ _).2.2).mono ?_);rintro e w' ⟨rfl,hb⟩;have M2:=lh ((Hid.out (by assumption):BxM W b rb g0 W.heap.size (Itm.cs p) s _).to hb)))
 all_goals
  have M3:=‹Hid (BxM W b rb g0 W.heap.size (Itm.cs p) s w')›;have c3:=M3.out.head.cell (i:=3) (v:=↑s.last) rfl;have y3:=M3.out.head.free 3;have e4:=hmx.out;have M4:=lh (M3.out.set (s':=⟨s.delay,s.jit,s.l,s.dueB now ch⟩) 3 ↑(s.dueB now ch:Nat) rfl rfl);clear q0 q1 q3 hA M0 M2 M3 hb hmx HE hmin;generalize hD:s.dueB now ch=D at *;clear hD;generalize hT:s.ownT now ch=T at *;clear hT;go_wp2_with fail;clear c3 y3 e4;generalize (w'.setCell ⟨b,3,none⟩ ↑D)=w3 at *;have M5:=lh M4.out.drew;obtain ⟨q2,q3⟩:=RQ (W:=W) (b:=b) (rb:=rb) (g0:=g0) (z:=W.heap.size) (cs:=Itm.cs p) (d:=s.delay) (j:=s.jit) (t:=D);go_region_held3 (fun w'=>Hid (∃l,BxM W b rb g0 W.heap.size (Itm.cs p) ⟨s.delay,s.jit,l,D⟩ w'))
   (first | exact lh ⟨_,K2.out⟩ | exact lh ⟨_,M5.out⟩ | assumption)
   (first | (go_at_call 187;(refine (hC.out _ M5.out).mono ?_);rintro e w2 ⟨rfl,K2⟩))
  all_goals
   have f3:=K2.out.head.cell (i:=3) (v:=↑D) rfl;clear hC z0 z1 z2 z3 z4 z5 z6 q2 q3;go_wp2_with fail;go_ret;rw [ES.out] at K2;exact K2.out.post
theorem D4 (rb g:Nat) (l:List Jp) (w:World) (h:bW w rb g l):
  Calls prog 266 #[↑(π rb),.int .i64 0] w fun e w'=>e=gE (l.getD 0 Itm.z) (!l.isEmpty)∧Below ↑w w w':=by
 cases l with
 | nil=>exact yZ rb g 0 [] w h (.inr (by simp))
 | cons x r=>exact PW rb g 0 (x :: r) w h (by simp)
theorem JU (b rb g:Nat) (s:BxS) (w:World) (h:dX w b rb g s):
  Calls prog 246 #[↑(π b)] w fun e w'=>e=.returned (.tuple #[↑s.nextT,.bool s.someB])∧Below ↑w w w':=by
 have c2:=h.head.cell (i:=2) (v:=↑(π rb)) rfl;have HA:=lh (D4 rb g s.l w h.row);have E1:Hid (s.nextT=(s.l.getD 0 Itm.z).due):=lh rfl;have E2:Hid (s.someB=!s.l.isEmpty):=lh rfl;clear h;generalize s.l.getD 0 Itm.z=x at *;rw [← E2.out] at HA;generalize s.someB=q at *;rw [E1.out];clear E1 E2;go_enter func246,ntmps246;go_wp2_with fail;refine HA.out.mono ?_;rintro e w1 ⟨rfl,hb⟩;have HB:=lh hb;clear hb HA c2;unfold gE Jp.agg;go_wp2_with fail;go_ret2
 exact ⟨rfl,aD HB.out (aC _ _) HB.out.size⟩
structure OI (w:World) (d j:Nat) (e:Ending) (w':World):Prop where
 at_:∃b rb g,e=.returned ↑(π b)∧dX w' b rb g (BxS.start d j)∧↑w≤b∧↑w≤rb∧↑w≤g
 bel:Below ↑w w w'
theorem OJ (d j:Nat) (w:World):Calls prog 80 #[↑d,↑j] w (OI w d j):=by
 have HN:=lh (OD none 0 [] w (Its.none _ _) (by simp));go_enter func80,ntmps80;go_wp2_with fail;refine HN.out.mono ?_;rintro e w1 ⟨⟨b,g,rfl,hr,hb,hg⟩,hbel⟩;have HR:=lh hr;have HW:=lh hbel;clear hr hbel HN;go_wp2_with fail;go_ret;exact ⟨⟨_,b,g,rfl,⟨Blk.new _ _ _,HR.out.alloc _⟩,HW.out.size,hb,hg⟩,HW.out.trans ((aC _ _).mono HW.out.size)⟩

def cI (rb:Nat) (s:LS):Array Value:=
 #[↑(π rb),.int .i64 ((aW s.ks).length:Int),↑(tot s.ks / M64:Nat),↑(tot s.ks % M64:Nat),.bool s.mixed,↑s.reorder,↑s.next,↑s.top,.bool s.topped]
def aP (ks:List Kp):List Nat:=ks.map fun k=>k.b + 1
structure LAt (w:World) (b rb g:Nat) (s:LS):Prop where
 head:Blk w b 156 (cI rb s)
 row:cR w rb g (aP s.ks)
 kept:∀k∈s.ks,Blk w k.b 208 (Kp.cells k.p k.gone)
def aE (b rb g:Nat) (s:LS):List Nat:=b :: rb :: g :: s.ks.map Kp.b
theorem LAt.keepX {g:Nat} {s:LS} (h:LAt w b rb g s) (k:∀x T cs,x∈aE b rb g s→Blk w x T cs→w'.heap[x]? =w.heap[x]?):LAt w' b rb g s:=by
 refine ⟨?_,h.row.blk2 fun x T cs hx hb=>k x T cs (by rcases hx with rfl | rfl <;> simp [aE]) hb,fun x hx=>?_⟩
 ·unfold Blk;rw [k b _ _ (by simp [aE]) h.head];exact h.head
 ·unfold Blk;rw [k x.b _ _ (by unfold aE;exact List.mem_cons_of_mem _ (List.mem_cons_of_mem _ (List.mem_cons_of_mem _ (List.mem_map_of_mem hx)))) (h.kept x hx)];exact h.kept x hx
theorem LAt.keep {g:Nat} {s:LS} (h:LAt w b rb g s) (k:Below ↑w w w'):LAt w' b rb g s:=h.keepX fun x T cs _ hb=>k.block x hb.lt
theorem LAt.drawn {g:Nat} {s:LS} (h:LAt w b rb g s) (k:aB w w'):LAt w' b rb g s:=h.keep (k.below _)
theorem LAt.alloc {w:World} {b rb g:Nat} {s:LS} (h:LAt w b rb g s) (o:Obj):LAt (w.alloc o) b rb g s:=h.keep ((Below.refl _ _).alloc (Nat.le_refl _) _)
theorem LAt.fr {g:Nat} {s:LS} (h:LAt w b rb g s) (k:Fr w w' L) (hd:∀x∈aE b rb g s,x ∉ L):LAt w' b rb g s:=h.keepX fun x T cs hx hb=>k.block x hb.lt (hd x hx)
theorem LAt.lt {w:World} {b rb g:Nat} {s:LS} (h:LAt w b rb g s):∀x∈aE b rb g s,x < w.heap.size:=by
 intro x hx;simp only [aE,List.mem_cons,List.mem_map] at hx;rcases hx with rfl | rfl | rfl | ⟨k,hk,rfl⟩
 ·exact h.head.lt
 ·exact h.row.lt.1
 ·exact h.row.lt.2
 ·exact (h.kept k hk).lt
theorem wV:(prog.info? 73).map (fun i=>(i.zero,i.size,i.bytes))=some (some (.agg #[↑ζ,↑ζ,↑ζ,↑ζ,↑ζ,↑ζ,.bool false]),7,56):=by kernel_rfl
abbrev pcs (l:List Pk):List Value:=l.flatMap (Itm.cs (α:=Pk))
def PR (w:World) (v:Value) (l:List Pk):Prop:=w.ownsRow 0 73 7 v l.length (pcs l)
theorem PR.nil (w:World):PR w (.slice none 0 0) []:=World.ownsRow_nil w 0 _ 7
theorem PR.same {v:Value} {l:List Pk} (h:PR w v l) (hk:∀g cs,v.ownBlock=some g→Blk w g 73 cs→w'.heap[g]? =w.heap[g]?):PR w' v l:=by
 refine ⟨h.1,?_⟩;rcases h.2 with c | ⟨g,cap,cur,e,hb,hg,k⟩
 ·exact .inl c
 ·exact .inr ⟨g,cap,cur,e,hb,by rw [hk g cur (by rw [e];rfl) hg];exact hg,k⟩
theorem PR.keep {v:Value} {l:List Pk} (h:PR w v l) (k:Below ↑w w w'):PR w' v l:=h.same fun g cs _ hb=>k.block g hb.lt
theorem PR.drawn {v:Value} {l:List Pk} (h:PR w v l) (k:aB w w'):PR w' v l:=h.keep (k.below _)
theorem PR.fr {v:Value} {l:List Pk} (h:PR w v l) (k:Fr w w' L) (hl:∀g,v.ownBlock=some g→g ∉ L):PR w' v l:=h.same fun g cs e hb=>k.block g hb.lt (hl g e)
theorem PR.blk {v:Value} {l:List Pk} (h:PR w v l) {g:Nat} (e:v.ownBlock=some g):∃cs,Blk w g 73 cs:=by
 rcases h.2 with ⟨rfl,_⟩ | ⟨g',cap,cur,rfl,_,hg,_⟩
 ·cases e
 ·simp [Value.ownBlock] at e;subst e;exact ⟨_,hg⟩
theorem PR.form {v:Value} {l:List Pk} (h:PR w v l):∃p c,v=.slice p l.length c:=by
 rcases h.2 with ⟨e,k⟩ | ⟨g,cap,cur,e,_⟩
 ·exact ⟨none,0,by rw [e,k]⟩
 ·exact ⟨_,cap,e⟩
theorem PR.its {l:List Pk} {p:Option Addr} {n cap:Nat} (h:PR w (.slice p n cap) l):Its w p l:=by
 intro hp;rcases h.2 with ⟨e,k⟩ | ⟨g,c,cur,e,_,hb,_,_,h3,h4⟩
 ·omega
 ·injection e with e1 e2 e3
  subst e1;refine ⟨g,0,rfl,Blk.lt hb,fun i j hi hj=>?_⟩;have k2:Itm.k Pk=7:=rfl;rw [k2] at hj ⊢;have e:=tV (α:=Pk) l i j (by rw [k2];exact hj);rw [k2] at e;have hj':j < (Itm.cs (l.getD i Itm.z)).length:=by rw [Itm.len];exact hj
  have e':(pcs l)[i * 7 + j]? =(Itm.cs (l.getD i Itm.z))[j]?:=by rw [e];simp [List.getD_eq_getElem?_getD,hi]
  rw [List.getElem?_eq_getElem hj'] at e' ⊢;rw [Nat.zero_add];refine Blk.cell hb ?_;rw [← h4,List.getElem?_take_of_lt (by omega)] at e';simpa using e'
theorem PR.app {l m:List Pk} {n:Nat} {v:Value} (hn:n=l.length + m.length) (h:w.ownsRow 0 73 7 v n (pcs l ++ pcs m)):PR w v (l ++ m):=by
 subst hn;unfold PR pcs;rw [List.flatMap_append,List.length_append];exact h
theorem zE (T c:Nat) (hc:c < M64):∃br:Nat,br≤1∧(T + c) / M64=T / M64 + br∧∀w:World,
  (callFunc 81 #[↑((T + c) % M64:Nat),↑c,↑ζ]).run prog w=.ok (.value (.tuple #[↑(T % M64:Nat),↑br])) w:=by
 have h:=yB T c hc;have hl:=Nat.mod_lt (T + c) eV;have hl2:=Nat.mod_lt T eV;have hM:=pL;split at h
 ·rename_i k
  refine ⟨1,Nat.le_refl _,h.1,fun w=>?_⟩;rw [eK.2 _ _ k (by omega),← h.2];have:((T + c) % M64 + 18446744073709551616 - c - 0) % 18446744073709551616=(T + c) % M64 + M64 - c:=by
   clear h hl2;generalize (T + c) % M64=r at *;rw [Nat.sub_zero,Nat.mod_eq_of_lt (by omega)];omega
  rw [this];rfl
 ·rename_i k
  refine ⟨0,Nat.zero_le _,h.1,fun w=>?_⟩;rw [eK.1 _ _ (by omega) (by omega),h.2];rfl
theorem zF (T c:Nat) (hc:c < M64):∃cr:Nat,cr≤1∧(T + c) / M64=T / M64 + cr∧∀w:World,
  (callFunc 102 #[↑(T % M64:Nat),↑c,↑ζ]).run prog w=.ok (.value (.tuple #[↑((T + c) % M64:Nat),↑cr])) w:=by
 obtain ⟨h1,h2⟩:=oG T c hc;have hl:=Nat.mod_lt (T + c) eV;have hl2:=Nat.mod_lt T eV;have hM:=pL;by_cases k:M64≤T % M64 + c
 ·rw [if_pos k] at h1 h2
  refine ⟨1,Nat.le_refl _,h1,fun w=>?_⟩;rw [oC _ _ (by omega) (by omega) (by omega) (by omega) (by omega)];have:(((T % M64:Nat):Int) + (c:Int) + 0) % 18446744073709551616=(((T + c) % M64:Nat):Int):=by
   rw [h2];omega
  rw [this];rfl
 ·rw [if_neg k] at h1 h2
  refine ⟨0,Nat.zero_le _,h1,fun w=>?_⟩;rw [rL _ _ (by omega) (by omega) (by omega)];have:(((T % M64:Nat):Int) + (c:Int))=(((T + c) % M64:Nat):Int):=by
   rw [h2];omega
  rw [this];rfl

structure kY (cs:Array Value) (o:Nat) (s:QK) (v:Value):Prop where
 r:cs[o]? =some (.int .u64 (s.room:Int))
 v:cs[o + 1]? =some v
 d:cs[o + 2]? =some (.int .u64 (s.dr:Int))
 g:cs[o + 3]? =some (.int .u64 (s.lost:Int))
theorem kY.of {cs:Array Value} {s s':QK} {v:Value} (h:kY cs o s v) (h1:s.room=s'.room) (h2:s.dr=s'.dr) (h3:s.lost=s'.lost):kY cs o s' v:=⟨h1▸h.r,h.v,h2▸h.d,h3▸h.g⟩
def gG (B:Nat) (w:World) (v:Value) (l:List Pk):Prop:=w.ownsRow B 73 7 v l.length (l.flatMap Itm.cs)
def vb (v:Value) (m:Nat):Nat:=v.ownBlock.getD m
theorem gG.nil (B:Nat) (w:World):gG B w (.slice none 0 0) []:=World.ownsRow_nil _ _ _ _
theorem gG.form {v:Value} {l:List Pk} (h:gG B w v l):∃ao cap,v=.slice ao l.length cap∧l.length≤cap∧cap≤maxLen∧Its w ao l∧(0 < l.length→∃g,ao=some ⟨g,0,none⟩∧vb v 0=g):=by
 obtain ⟨hl,h⟩:=h;rcases h with ⟨rfl,hn⟩ | ⟨g,cap,cur,rfl,hb,hg,hnc,hmax,hcs,htake⟩
 ·rw [hn]
  have:l=[]:=List.eq_nil_of_length_eq_zero hn;subst this;exact ⟨none,0,rfl,Nat.le_refl _,by decide,Its.none _ _,fun h=>absurd h (by simp)⟩
 ·refine ⟨some ⟨g,0,none⟩,cap,rfl,hnc,hmax,fun hp=>⟨g,0,rfl,lt_of_block hg,fun i j hi hj=>?_⟩,fun _=>⟨g,rfl,rfl⟩⟩
  have k7:Itm.k Pk=7:=rfl;rw [k7] at hj ⊢;have hlt:i * 7 + j < l.length * 7:=by omega
  have e:(cur.toList.take (l.length * 7))[i * 7 + j]? =(l.flatMap (Itm.cs (α:=Pk)))[i * 7 + j]?:=by rw [htake]
  rw [List.getElem?_take_of_lt hlt,Array.getElem?_toList] at e;have e2:=tV l i j (by rw [k7];exact hj);rw [k7] at e2;have hx:l[i]? =some (l.getD i Itm.z):=by rw [List.getD_eq_getElem?_getD,List.getElem?_eq_getElem hi];rfl
  rw [hx] at e2;rw [Nat.zero_add,← show (l.flatMap (Itm.cs (α:=Pk)))[i * 7 + j]? =(Itm.cs (l.getD i Itm.z))[j]? from e2,← e];have hcur:i * 7 + j < cur.size:=by rw [hcs];have:=Nat.mul_le_mul_right 7 hnc;omega
  rw [Array.getElem?_eq_getElem hcur];exact (show Blk w g 73 cur from hg).cell (Array.getElem?_eq_getElem hcur)
theorem gG.blk {v:Value} {l:List Pk} (h:gG B w v l) (hk:∀g cs,v.ownBlock=some g→Blk w g 73 cs→Blk w' g 73 cs):gG B w' v l:=by
 obtain ⟨hl,h⟩:=h;refine ⟨hl,?_⟩;rcases h with ⟨rfl,hn⟩ | ⟨g,cap,cur,rfl,hb,hg,hr⟩
 ·exact .inl ⟨rfl,hn⟩
 ·exact .inr ⟨g,cap,cur,rfl,hb,hk g cur rfl hg,hr⟩
theorem gG.keep {B:Nat} {w w':World} {v:Value} {l:List Pk} (h:gG B w v l) (k:Below ↑w w w'):gG B w' v l:=h.blk (fun _ _ _ hb=>hb.keep k)
theorem gG.fr {B m:Nat} {w w':World} {v:Value} {l:List Pk} {L:List Nat} (h:gG B w v l) (k:Fr w w' L) (hn:vb v m ∉ L):gG B w' v l:=
 h.blk (fun g cs hg hb=>hb.fr k (by have:vb v m=g:=by unfold vb;rw [hg];rfl
                                    rw [← this];exact hn))
theorem gG.lt {v:Value} {l:List Pk} (h:gG B w v l) (hm:m < w.heap.size):vb v m < w.heap.size:=by
 obtain ⟨hl,h⟩:=h;rcases h with ⟨rfl,hn⟩ | ⟨g,cap,cur,rfl,hb,hg,hr⟩
 ·exact hm
 ·exact lt_of_block hg
theorem gG.base {v:Value} {l:List Pk} (h:gG B w v l) (hm:B≤m):B≤vb v m:=by
 obtain ⟨hl,h⟩:=h;rcases h with ⟨rfl,hn⟩ | ⟨g,cap,cur,rfl,hb,hg,hr⟩
 ·exact hm
 ·exact hb
theorem QD {row:Option Nat} (h:w.grownBy w' row) (hr:∀b,row=some b→b∈L):Fr w w' L:=
 ⟨h.os,h.tape,h.output,h.size,fun k hk hn=>h.block k hk (fun e=>hn (hr k e.symm))⟩
structure OK (W:World) (m o B:Nat) (T:TypeId) (cs:Array Value) (v:Value) (r:Value) (s:QK) (e:Ending) (w:World):Prop where
 e:e=.returned r
 at_:∃v' cs',Blk w m T cs'∧kY cs' o s v'∧cs'.size=cs.size∧(∀i,i < o∨o + 4≤i→cs'[i]? =cs[i]?)∧gG B w v' s.l∧(vb v' m=vb v m∨W.heap.size≤vb v' m)
 fr:Fr W w [m,vb v m]
structure RM (W:World) (m o B z:Nat) (T:TypeId) (cs:Array Value) (v:Value) (c:List Value) (s:QK) (v':Value) (w:World):Prop where
 at_:∃cs',Blk w m T cs'∧kY cs' o s v'∧cs'.size=cs.size∧(∀i,i < o∨o + 4≤i→cs'[i]? =cs[i]?)
 own:gG B w v' s.l
 new:vb v' m=vb v m∨W.heap.size≤vb v' m
 ne:vb v' m≠z
 fr:Fr W w [m,vb v m]
 box:Blk w z 73 c.toArray
 lo:↑W≤z
 mz:m < W.heap.size
theorem RM.post {cs:Array Value} {v r:Value} {s:QK} (h:RM W m o B z T cs v c s v' w):OK W m o B T cs v r s (.returned r) w:=
 ⟨rfl,by obtain ⟨cs',h1,h2,h3,h4⟩:=h.at_;exact ⟨v',cs',h1,h2,h3,h4,h.own,h.new⟩,h.fr⟩
theorem RM.to {cs:Array Value} {v:Value} {s:QK} (h:RM W m o B z T cs v c s v' w) (k:Below ↑w w w'):RM W m o B z T cs v c s v' w':=
 ⟨by obtain ⟨cs',h1,h2⟩:=h.at_;exact ⟨cs',h1.keep k,h2⟩,h.own.keep k,h.new,h.ne,h.fr.below k,h.box.keep k,h.lo,h.mz⟩
theorem RM.start {cs:Array Value} {v:Value} {s:QK} (h:Blk W m T cs) (hk:kY cs o s v) (ho:gG B W v s.l) (c:List Value):RM W m o B W.heap.size T cs v c s v (W.alloc (.cells c.toArray 73)):=
 ⟨⟨cs,h.keep (aC _ _),hk,rfl,fun _ _=>rfl⟩,ho.keep (aC _ _),.inl rfl,Nat.ne_of_lt (ho.lt h.lt),(Fr.refl _ _).alloc _,Blk.new _ _ _,Nat.le_refl _,h.lt⟩
theorem RM.cells {cs:Array Value} {v:Value} {s:QK} (h:RM W m o B z T cs v c s v' w):w.cell? ⟨m,o,none⟩=some ↑s.room∧w.cell? ⟨m,o + 1,none⟩=some v'∧w.cell? ⟨m,o + 2,none⟩=some ↑s.dr∧w.cell? ⟨m,o + 3,none⟩=some ↑s.lost∧∀i,w.frozen? ⟨m,i,none⟩=false:=by
 obtain ⟨cs',h1,h2,_⟩:=h.at_;exact ⟨h1.cell h2.r,h1.cell h2.v,h1.cell h2.d,h1.cell h2.g,fun i=>h1.free i⟩

theorem D5:(prog.info? 73).map (fun i=>(i.zero,i.size,i.bytes))=some (some (.agg #[↑ζ,↑ζ,↑ζ,↑ζ,↑ζ,↑ζ,.bool false]),7,56):=by kernel_rfl
theorem zG {f:Jp→Bool} {pre rest:List Jp} (h1:∀y∈pre,f y=true) (h2:∀y t,rest=y :: t→f y=false):(pre ++ rest).takeWhile f=pre∧(pre ++ rest).dropWhile f=rest:=by
 induction pre with
 | nil=>
   cases rest with
   | nil=>exact ⟨rfl,rfl⟩
   | cons y t=>have:=h2 y t rfl;simp [this]
 | cons y t ih=>
   have:=h1 y (by simp);obtain ⟨a,b⟩:=ih (fun z hz=>h1 z (by simp [hz]));simp [this]
   exact ⟨a,b⟩
end
end Go.Proofs.YtjhiooggnpbecaaGreatDoor
