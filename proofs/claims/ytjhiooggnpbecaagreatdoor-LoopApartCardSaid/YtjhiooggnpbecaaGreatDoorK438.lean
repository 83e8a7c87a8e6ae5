/- Lemmas. -/
import Derived.Test.YtjhiooggnpbecaaGreatDoorK436
import Derived.Test.YtjhiooggnpbecaaGreatDoorK421
import Derived.Test.YtjhiooggnpbecaaGreatDoorK437
set_option linter.unusedVariables false
set_option maxHeartbeats 4000000
set_option maxRecDepth 100000
namespace Go.Proofs.YtjhiooggnpbecaaGreatDoor
open Tryz
open Go.RowKit Cf
variable {P:EP} {s:ES} {x:EvS} {i:Nat} {B:Own} {v:Value} {W:World}
def vL (W:World) (B:Own) (P:EP) (x:EvS) (w:World):Prop:=∃s,aX W B P s x w
theorem cG {w:World} (h:Hid (aX W B P s x w)):Hid (vL W B P x w):=lh ⟨s,h.out⟩
theorem b7 (hv:x.cells[i]? =some v):∀w,Hid (vL W B P x w)→w.cell? ⟨W.heap.size,i,none⟩=some v:=fun w q=>by
 obtain ⟨s,h⟩:=q.out;exact h.ev.cell hv
theorem AR (hv:∀s,(dY P s)[i]? =some v):∀w,Hid (vL W B P x w)→w.cell? ⟨P.b,i,none⟩=some v:=fun w q=>by
 obtain ⟨s,h⟩:=q.out;exact h.at_.e.cell (hv s)
theorem oA (hv:(dY P s)[i]? =some v):∀w,Hid (aX W B P s x w)→w.cell? ⟨P.b,i,none⟩=some v:=fun w q=>q.out.at_.e.cell hv
theorem AS (i:Nat):∀w,Hid (aX W B P s x w)→w.frozen? ⟨P.b,i,none⟩=false:=fun w q=>q.out.at_.e.free i
theorem gW:(∀{B:Own} {P:EP} {s s1 s2 s3 s4 s5 s6 s7:ES} {now sd si sr rt dl ac lo fl best op:Nat} {sl:Bool} {sg:Array Value} {t:Int} {bs7:BS} (W:World) (h:aG W B P s)
  (HCo:∀w,aG w B P s→Calls prog 169 #[↑(π P.b),EvS.val ⟨now,sd,si,sr,rt,sl,false,dl,ac,lo,fl⟩] w (aZ B P (.returned (.tuple #[])) s1 w))
  (HMe:∀w,aG w B P s1→Calls prog 170 #[↑(π P.b),EvS.val ⟨now,sd,si,sr,rt,sl,false,dl,ac,lo,fl⟩] w (aZ B P (.returned (.bool false)) s2 w))
  (HSi:∀w,aG w B P s2→Calls prog 176 #[↑(π P.b),EvS.val ⟨now,sd,si,sr,rt,sl,false,dl,ac,lo,fl⟩,.bool false,.bool false] w fun e w'=>e=.returned (.agg sg)∧Below ↑w w w')
  (HNe:∀w,Calls prog 175 #[.int .i64 s2.st,.agg sg] w fun e w'=>e=.returned (.int .i64 t)∧Below ↑w w w')
  (HTu:∀w,aG w B P s2→Calls prog 174 #[↑(π P.b),↑now,.int .i64 t] w (aZ B P (.returned (.tuple #[])) s6 w))
  (HPs:∀w,Calls prog 177 #[.agg #[↑s6.bs.hi,↑s6.bs.lo,↑s6.bs.bw],↑ac] w fun e w'=>e=.returned (.agg #[↑bs7.hi,↑bs7.lo,↑bs7.bw])∧Below ↑w w w')
  (HOp:∀w,aG w B P s7→Calls prog 178 #[↑(π P.b),↑ac] w fun e w'=>e=.returned ↑op∧Below ↑w w w')
  (zz:((s6.st == 5)=true∧s7={s6 with bs:=bs7})∨((s6.st == 5)=false∧s7=s6)),Calls prog 120 #[↑(π P.b),EvS.val ⟨now,sd,si,sr,rt,sl,false,dl,ac,lo,fl⟩] W (aZ B P (.returned (.tuple #[])) {s7 with cwnd:=op} W))∧(∀{B:Own} {P:EP} {s s1 s2 s3 s4 s5 s6 s7:ES} {now sd si sr rt dl ac lo fl best op:Nat} {sl:Bool} {sg:Array Value} {t:Int} {bs7:BS} (W:World) (h:aG W B P s)
  (HCo:∀w,aG w B P s→Calls prog 169 #[↑(π P.b),EvS.val ⟨now,sd,si,sr,rt,sl,true,dl,ac,lo,fl⟩] w (aZ B P (.returned (.tuple #[])) s1 w))
  (HMe:∀w,aG w B P s1→Calls prog 170 #[↑(π P.b),EvS.val ⟨now,sd,si,sr,rt,sl,true,dl,ac,lo,fl⟩] w (aZ B P (.returned (.bool false)) s2 w))
  (HBe:∀w,aG w B P s2→Calls prog 88 #[↑(π P.y)] w fun e w'=>e=.returned ↑best∧Below ↑w w w')
  (HPu:∀w,aG w B P s2→Calls prog 172 #[↑(π P.p),↑best,.bool false,.bool sl] w fun e w'=>e=(.returned (.tuple #[]))∧aY w B P s4 w')
  (HSi:∀w,aG w B P s4→Calls prog 176 #[↑(π P.b),EvS.val ⟨now,sd,si,sr,rt,sl,true,dl,ac,lo,fl⟩,.bool false,.bool false] w fun e w'=>e=.returned (.agg sg)∧Below ↑w w w')
  (HNe:∀w,Calls prog 175 #[.int .i64 s4.st,.agg sg] w fun e w'=>e=.returned (.int .i64 t)∧Below ↑w w w')
  (HTu:∀w,aG w B P s4→Calls prog 174 #[↑(π P.b),↑now,.int .i64 t] w (aZ B P (.returned (.tuple #[])) s6 w))
  (HPs:∀w,Calls prog 177 #[.agg #[↑s6.bs.hi,↑s6.bs.lo,↑s6.bs.bw],↑ac] w fun e w'=>e=.returned (.agg #[↑bs7.hi,↑bs7.lo,↑bs7.bw])∧Below ↑w w w')
  (HOp:∀w,aG w B P s7→Calls prog 178 #[↑(π P.b),↑ac] w fun e w'=>e=.returned ↑op∧Below ↑w w w')
  (zz:((s6.st == 5)=true∧s7={s6 with bs:=bs7})∨((s6.st == 5)=false∧s7=s6)),Calls prog 120 #[↑(π P.b),EvS.val ⟨now,sd,si,sr,rt,sl,true,dl,ac,lo,fl⟩] W (aZ B P (.returned (.tuple #[])) {s7 with cwnd:=op} W))∧(∀{B:Own} {P:EP} {s s1 s2 s3 s4 s5 s6 s7:ES} {now sd si sr rt dl ac lo fl best op:Nat} {sl:Bool} {sg:Array Value} {t:Int} {bs7:BS} (W:World) (h:aG W B P s)
  (HCo:∀w,aG w B P s→Calls prog 169 #[↑(π P.b),EvS.val ⟨now,sd,si,sr,rt,sl,true,dl,ac,lo,fl⟩] w (aZ B P (.returned (.tuple #[])) s1 w))
  (HMe:∀w,aG w B P s1→Calls prog 170 #[↑(π P.b),EvS.val ⟨now,sd,si,sr,rt,sl,true,dl,ac,lo,fl⟩] w (aZ B P (.returned (.bool true)) s2 w))
  (HSe:∀w,aG w B P s2→Calls prog 171 #[↑(π P.b)] w (aZ B P (.returned (.bool false)) s3 w))
  (HBe:∀w,aG w B P s3→Calls prog 88 #[↑(π P.y)] w fun e w'=>e=.returned ↑best∧Below ↑w w w')
  (HPu:∀w,aG w B P s3→Calls prog 172 #[↑(π P.p),↑best,.bool true,.bool sl] w fun e w'=>e=(.returned (.tuple #[]))∧aY w B P s4 w')
  (HSi:∀w,aG w B P s4→Calls prog 176 #[↑(π P.b),EvS.val ⟨now,sd,si,sr,rt,sl,true,dl,ac,lo,fl⟩,.bool true,.bool false] w fun e w'=>e=.returned (.agg sg)∧Below ↑w w w')
  (HNe:∀w,Calls prog 175 #[.int .i64 s4.st,.agg sg] w fun e w'=>e=.returned (.int .i64 t)∧Below ↑w w w')
  (HTu:∀w,aG w B P s4→Calls prog 174 #[↑(π P.b),↑now,.int .i64 t] w (aZ B P (.returned (.tuple #[])) s6 w))
  (HPs:∀w,Calls prog 177 #[.agg #[↑s6.bs.hi,↑s6.bs.lo,↑s6.bs.bw],↑ac] w fun e w'=>e=.returned (.agg #[↑bs7.hi,↑bs7.lo,↑bs7.bw])∧Below ↑w w w')
  (HOp:∀w,aG w B P s7→Calls prog 178 #[↑(π P.b),↑ac] w fun e w'=>e=.returned ↑op∧Below ↑w w w')
  (zz:((s6.st == 5)=true∧s7={s6 with bs:=bs7})∨((s6.st == 5)=false∧s7=s6)),Calls prog 120 #[↑(π P.b),EvS.val ⟨now,sd,si,sr,rt,sl,true,dl,ac,lo,fl⟩] W (aZ B P (.returned (.tuple #[])) {s7 with cwnd:=op} W))∧(∀{B:Own} {P:EP} {s s1 s2 s3 s4 s5 s6 s7:ES} {now sd si sr rt dl ac lo fl best op:Nat} {sl:Bool} {sg:Array Value} {t:Int} {bs7:BS} (W:World) (h:aG W B P s)
  (HCo:∀w,aG w B P s→Calls prog 169 #[↑(π P.b),EvS.val ⟨now,sd,si,sr,rt,sl,true,dl,ac,lo,fl⟩] w (aZ B P (.returned (.tuple #[])) s1 w))
  (HMe:∀w,aG w B P s1→Calls prog 170 #[↑(π P.b),EvS.val ⟨now,sd,si,sr,rt,sl,true,dl,ac,lo,fl⟩] w (aZ B P (.returned (.bool true)) s2 w))
  (HSe:∀w,aG w B P s2→Calls prog 171 #[↑(π P.b)] w (aZ B P (.returned (.bool true)) s3 w))
  (HBe:∀w,aG w B P s3→Calls prog 88 #[↑(π P.y)] w fun e w'=>e=.returned ↑best∧Below ↑w w w')
  (HPu:∀w,aG w B P s3→Calls prog 172 #[↑(π P.p),↑best,.bool true,.bool sl] w fun e w'=>e=(.returned (.tuple #[]))∧aY w B P s4 w')
  (HYi:∀w,aG w B P s4→Calls prog 173 #[↑(π P.b),EvS.val ⟨now,sd,si,sr,rt,sl,true,dl,ac,lo,fl⟩] w (aZ B P (.returned (.tuple #[])) s5 w))
  (HSi:∀w,aG w B P s5→Calls prog 176 #[↑(π P.b),EvS.val ⟨now,sd,si,sr,rt,sl,true,dl,ac,lo,fl⟩,.bool true,.bool true] w fun e w'=>e=.returned (.agg sg)∧Below ↑w w w')
  (HNe:∀w,Calls prog 175 #[.int .i64 s5.st,.agg sg] w fun e w'=>e=.returned (.int .i64 t)∧Below ↑w w w')
  (HTu:∀w,aG w B P s5→Calls prog 174 #[↑(π P.b),↑now,.int .i64 t] w (aZ B P (.returned (.tuple #[])) s6 w))
  (HPs:∀w,Calls prog 177 #[.agg #[↑s6.bs.hi,↑s6.bs.lo,↑s6.bs.bw],↑ac] w fun e w'=>e=.returned (.agg #[↑bs7.hi,↑bs7.lo,↑bs7.bw])∧Below ↑w w w')
  (HOp:∀w,aG w B P s7→Calls prog 178 #[↑(π P.b),↑ac] w fun e w'=>e=.returned ↑op∧Below ↑w w w')
  (zz:((s6.st == 5)=true∧s7=s6)∨((s6.st == 5)=false∧s7=s6)),Calls prog 120 #[↑(π P.b),EvS.val ⟨now,sd,si,sr,rt,sl,true,dl,ac,lo,fl⟩] W (aZ B P (.returned (.tuple #[])) {s7 with cwnd:=op} W)):=by
 refine ⟨?_,?_,?_,?_⟩
 have k0v:Hid True:=trivial;intro B P s s1 s2 s3 s4 s5 s6 s7 now sd si sr rt dl ac lo fl best op sl sg t bs7 W h HCo HMe HSi HNe HTu HPs HOp zz;rotate_left;have k1v:Hid True:=trivial;intro B P s s1 s2 s3 s4 s5 s6 s7 now sd si sr rt dl ac lo fl best op sl sg t bs7 W h HCo HMe HBe HPu HSi HNe HTu HPs HOp zz;rotate_left;have k2v:Hid True:=trivial;intro B P s s1 s2 s3 s4 s5 s6 s7 now sd si sr rt dl ac lo fl best op sl sg t bs7 W h HCo HMe HSe HBe HPu HSi HNe HTu HPs HOp zz;rotate_left;have k3v:Hid True:=trivial;intro B P s s1 s2 s3 s4 s5 s6 s7 now sd si sr rt dl ac lo fl best op sl sg t bs7 W h HCo HMe HSe HBe HPu HYi HSi HNe HTu HPs HOp zz;rotate_left
 all_goals
  first
  |revert k0v;intro k0v;have M0:=lh (aX.start h ⟨now,sd,si,sr,rt,sl,false,dl,ac,lo,fl⟩)
  |have M0:=lh (aX.start h ⟨now,sd,si,sr,rt,sl,true,dl,ac,lo,fl⟩)
  have HCo:=lh HCo;have HMe:=lh HMe;first
  |revert k0v;intro k0v
  |revert k1v;intro k1v;have HBe:=lh HBe;have HPu:=lh HPu
  |revert k2v;intro k2v;have HSe:=lh HSe;have HBe:=lh HBe;have HPu:=lh HPu
  |have HSe:=lh HSe;have HBe:=lh HBe;have HPu:=lh HPu;have HYi:=lh HYi
  have HSi:=lh HSi;have HNe:=lh HNe;have HTu:=lh HTu;have HPs:=lh HPs;have HOp:=lh HOp;first
  |revert k0v;intro k0v;have v0:=b7 (W:=W) (B:=B) (P:=P) (x:=⟨now,sd,si,sr,rt,sl,false,dl,ac,lo,fl⟩) (i:=0) (v:=↑now) rfl;have v1:=b7 (W:=W) (B:=B) (P:=P) (x:=⟨now,sd,si,sr,rt,sl,false,dl,ac,lo,fl⟩) (i:=1) (v:=↑sd) rfl;have v2:=b7 (W:=W) (B:=B) (P:=P) (x:=⟨now,sd,si,sr,rt,sl,false,dl,ac,lo,fl⟩) (i:=2) (v:=↑si) rfl;have v3:=b7 (W:=W) (B:=B) (P:=P) (x:=⟨now,sd,si,sr,rt,sl,false,dl,ac,lo,fl⟩) (i:=3) (v:=↑sr) rfl;have v4:=b7 (W:=W) (B:=B) (P:=P) (x:=⟨now,sd,si,sr,rt,sl,false,dl,ac,lo,fl⟩) (i:=4) (v:=↑rt) rfl;have v5:=b7 (W:=W) (B:=B) (P:=P) (x:=⟨now,sd,si,sr,rt,sl,false,dl,ac,lo,fl⟩) (i:=5) (v:=.bool sl) rfl;have v6:=b7 (W:=W) (B:=B) (P:=P) (x:=⟨now,sd,si,sr,rt,sl,false,dl,ac,lo,fl⟩) (i:=6) (v:=.bool false) rfl;have v7:=b7 (W:=W) (B:=B) (P:=P) (x:=⟨now,sd,si,sr,rt,sl,false,dl,ac,lo,fl⟩) (i:=7) (v:=↑dl) rfl;have v8:=b7 (W:=W) (B:=B) (P:=P) (x:=⟨now,sd,si,sr,rt,sl,false,dl,ac,lo,fl⟩) (i:=8) (v:=↑ac) rfl;have v9:=b7 (W:=W) (B:=B) (P:=P) (x:=⟨now,sd,si,sr,rt,sl,false,dl,ac,lo,fl⟩) (i:=9) (v:=↑lo) rfl;have v10:=b7 (W:=W) (B:=B) (P:=P) (x:=⟨now,sd,si,sr,rt,sl,false,dl,ac,lo,fl⟩) (i:=10) (v:=↑fl) rfl;have p6:=AR (W:=W) (B:=B) (P:=P) (x:=⟨now,sd,si,sr,rt,sl,false,dl,ac,lo,fl⟩) (i:=6) (v:=↑(π P.p)) (fun _=>rfl);have p11:=AR (W:=W) (B:=B) (P:=P) (x:=⟨now,sd,si,sr,rt,sl,false,dl,ac,lo,fl⟩) (i:=11) (v:=↑(π P.y)) (fun _=>rfl);clear h;unfold EvS.val at HCo HMe HSi ⊢;generalize hX:(EvS.mk now sd si sr rt sl false dl ac lo fl)=X at *;have HE:Hid (X.cells=#[↑now,↑sd,↑si,↑sr,↑rt,.bool sl,.bool false,↑dl,↑ac,↑lo,↑fl]):=lh (by rw [← hX];rfl);clear hX;rw [HE.out] at M0 HCo HMe HSi ⊢
  |revert k3v;intro k3v;have v0:=b7 (W:=W) (B:=B) (P:=P) (x:=⟨now,sd,si,sr,rt,sl,true,dl,ac,lo,fl⟩) (i:=0) (v:=↑now) rfl;have v1:=b7 (W:=W) (B:=B) (P:=P) (x:=⟨now,sd,si,sr,rt,sl,true,dl,ac,lo,fl⟩) (i:=1) (v:=↑sd) rfl;have v2:=b7 (W:=W) (B:=B) (P:=P) (x:=⟨now,sd,si,sr,rt,sl,true,dl,ac,lo,fl⟩) (i:=2) (v:=↑si) rfl;have v3:=b7 (W:=W) (B:=B) (P:=P) (x:=⟨now,sd,si,sr,rt,sl,true,dl,ac,lo,fl⟩) (i:=3) (v:=↑sr) rfl;have v4:=b7 (W:=W) (B:=B) (P:=P) (x:=⟨now,sd,si,sr,rt,sl,true,dl,ac,lo,fl⟩) (i:=4) (v:=↑rt) rfl;have v5:=b7 (W:=W) (B:=B) (P:=P) (x:=⟨now,sd,si,sr,rt,sl,true,dl,ac,lo,fl⟩) (i:=5) (v:=.bool sl) rfl;have v6:=b7 (W:=W) (B:=B) (P:=P) (x:=⟨now,sd,si,sr,rt,sl,true,dl,ac,lo,fl⟩) (i:=6) (v:=.bool true) rfl;have v7:=b7 (W:=W) (B:=B) (P:=P) (x:=⟨now,sd,si,sr,rt,sl,true,dl,ac,lo,fl⟩) (i:=7) (v:=↑dl) rfl;have v8:=b7 (W:=W) (B:=B) (P:=P) (x:=⟨now,sd,si,sr,rt,sl,true,dl,ac,lo,fl⟩) (i:=8) (v:=↑ac) rfl;have v9:=b7 (W:=W) (B:=B) (P:=P) (x:=⟨now,sd,si,sr,rt,sl,true,dl,ac,lo,fl⟩) (i:=9) (v:=↑lo) rfl;have v10:=b7 (W:=W) (B:=B) (P:=P) (x:=⟨now,sd,si,sr,rt,sl,true,dl,ac,lo,fl⟩) (i:=10) (v:=↑fl) rfl;have p6:=AR (W:=W) (B:=B) (P:=P) (x:=⟨now,sd,si,sr,rt,sl,true,dl,ac,lo,fl⟩) (i:=6) (v:=↑(π P.p)) (fun _=>rfl);have p11:=AR (W:=W) (B:=B) (P:=P) (x:=⟨now,sd,si,sr,rt,sl,true,dl,ac,lo,fl⟩) (i:=11) (v:=↑(π P.y)) (fun _=>rfl);clear h;unfold EvS.val at HCo HMe HSi HYi ⊢;generalize hX:(EvS.mk now sd si sr rt sl true dl ac lo fl)=X at *;have HE:Hid (X.cells=#[↑now,↑sd,↑si,↑sr,↑rt,.bool sl,.bool true,↑dl,↑ac,↑lo,↑fl]):=lh (by rw [← hX];rfl);clear hX;rw [HE.out] at M0 HCo HMe HSi HYi ⊢
  |have v0:=b7 (W:=W) (B:=B) (P:=P) (x:=⟨now,sd,si,sr,rt,sl,true,dl,ac,lo,fl⟩) (i:=0) (v:=↑now) rfl;have v1:=b7 (W:=W) (B:=B) (P:=P) (x:=⟨now,sd,si,sr,rt,sl,true,dl,ac,lo,fl⟩) (i:=1) (v:=↑sd) rfl;have v2:=b7 (W:=W) (B:=B) (P:=P) (x:=⟨now,sd,si,sr,rt,sl,true,dl,ac,lo,fl⟩) (i:=2) (v:=↑si) rfl;have v3:=b7 (W:=W) (B:=B) (P:=P) (x:=⟨now,sd,si,sr,rt,sl,true,dl,ac,lo,fl⟩) (i:=3) (v:=↑sr) rfl;have v4:=b7 (W:=W) (B:=B) (P:=P) (x:=⟨now,sd,si,sr,rt,sl,true,dl,ac,lo,fl⟩) (i:=4) (v:=↑rt) rfl;have v5:=b7 (W:=W) (B:=B) (P:=P) (x:=⟨now,sd,si,sr,rt,sl,true,dl,ac,lo,fl⟩) (i:=5) (v:=.bool sl) rfl;have v6:=b7 (W:=W) (B:=B) (P:=P) (x:=⟨now,sd,si,sr,rt,sl,true,dl,ac,lo,fl⟩) (i:=6) (v:=.bool true) rfl;have v7:=b7 (W:=W) (B:=B) (P:=P) (x:=⟨now,sd,si,sr,rt,sl,true,dl,ac,lo,fl⟩) (i:=7) (v:=↑dl) rfl;have v8:=b7 (W:=W) (B:=B) (P:=P) (x:=⟨now,sd,si,sr,rt,sl,true,dl,ac,lo,fl⟩) (i:=8) (v:=↑ac) rfl;have v9:=b7 (W:=W) (B:=B) (P:=P) (x:=⟨now,sd,si,sr,rt,sl,true,dl,ac,lo,fl⟩) (i:=9) (v:=↑lo) rfl;have v10:=b7 (W:=W) (B:=B) (P:=P) (x:=⟨now,sd,si,sr,rt,sl,true,dl,ac,lo,fl⟩) (i:=10) (v:=↑fl) rfl;have p6:=AR (W:=W) (B:=B) (P:=P) (x:=⟨now,sd,si,sr,rt,sl,true,dl,ac,lo,fl⟩) (i:=6) (v:=↑(π P.p)) (fun _=>rfl);have p11:=AR (W:=W) (B:=B) (P:=P) (x:=⟨now,sd,si,sr,rt,sl,true,dl,ac,lo,fl⟩) (i:=11) (v:=↑(π P.y)) (fun _=>rfl);clear h;unfold EvS.val at HCo HMe HSi ⊢;generalize hX:(EvS.mk now sd si sr rt sl true dl ac lo fl)=X at *;have HE:Hid (X.cells=#[↑now,↑sd,↑si,↑sr,↑rt,.bool sl,.bool true,↑dl,↑ac,↑lo,↑fl]):=lh (by rw [← hX];rfl);clear hX;rw [HE.out] at M0 HCo HMe HSi ⊢
  go_enter func120,ntmps120;go_wp2_with fail;first
  |revert k0v;intro k0v;generalize W.alloc (.cells #[↑now,↑sd,↑si,↑sr,↑rt,.bool sl,.bool false,↑dl,↑ac,↑lo,↑fl] 137)=w0 at *
  |generalize W.alloc (.cells #[↑now,↑sd,↑si,↑sr,↑rt,.bool sl,.bool true,↑dl,↑ac,↑lo,↑fl] 137)=w0 at *
  refine (HCo.out _ M0.out.at_).mono ?_;rintro e w1 h1;obtain rfl:=h1.e;have M1:=lh (M0.out.step h1);have X1:=cG M1;clear h1 M0 HCo;go_wp2_with fail;refine (HMe.out _ M1.out.at_).mono ?_;rintro e w2 h1;obtain rfl:=h1.e;have M2:=lh (M1.out.step h1);have X2:=cG M2;clear h1 M1 X1 HMe;go_wp2_with fail;first
  |revert k0v;intro k0v;have M8:=lh M2.out.drew;have X8:=cG M8;have r13:=oA (W:=W) (B:=B) (P:=P) (s:=s2) (x:=X) (i:=13) (v:=.int .i64 s2.st) rfl;clear M2 X2
  |revert k1v;intro k1v;have M4:=lh M2.out.drew;have X4:=cG M4;go_region_held3 (fun w'=>Hid (vL W B P X w'))
    (first | with_reducible exact X4 | with_reducible exact X5 | with_reducible exact X6)
    (first
     | (go_at_call 88;(with_reducible refine (HBe.out _ M4.out.at_).mono ?_);rintro e w4 ⟨rfl,hb⟩;have M5:=lh (M4.out.to hb);have X5:=cG M5;clear hb)
     | (go_at_call 172;(with_reducible refine (HPu.out _ M5.out.at_).mono ?_);rintro e w5 ⟨rfl,hn⟩;have M6:=lh (aY.mi M5.out hn);have X6:=cG M6;clear hn))
   clear M2 X2 M4 X4 M5 X5 HBe HPu;go_wp2_with fail;have M8:=lh M6.out.drew;have X8:=cG M8;have r13:=oA (W:=W) (B:=B) (P:=P) (s:=s4) (x:=X) (i:=13) (v:=.int .i64 s4.st) rfl;clear M6 X6
  |revert k2v;intro k2v;refine (HSe.out _ M2.out.at_).mono ?_;rintro e w3 h1;obtain rfl:=h1.e;have M3:=lh (M2.out.step h1);have X3:=cG M3;clear h1 M2 X2 HSe;go_wp2_with fail;have M4:=lh M3.out.drew;have X4:=cG M4;go_region_held3 (fun w'=>Hid (vL W B P X w'))
    (first | with_reducible exact X4 | with_reducible exact X5 | with_reducible exact X6)
    (first
     | (go_at_call 88;(with_reducible refine (HBe.out _ M4.out.at_).mono ?_);rintro e w4 ⟨rfl,hb⟩;have M5:=lh (M4.out.to hb);have X5:=cG M5;clear hb)
     | (go_at_call 172;(with_reducible refine (HPu.out _ M5.out.at_).mono ?_);rintro e w5 ⟨rfl,hn⟩;have M6:=lh (aY.mi M5.out hn);have X6:=cG M6;clear hn))
   clear M3 X3 M4 X4 M5 X5 HBe HPu;go_wp2_with fail;have M8:=lh M6.out.drew;have X8:=cG M8;have r13:=oA (W:=W) (B:=B) (P:=P) (s:=s4) (x:=X) (i:=13) (v:=.int .i64 s4.st) rfl;clear M6 X6
  |refine (HSe.out _ M2.out.at_).mono ?_;rintro e w3 h1;obtain rfl:=h1.e;have M3:=lh (M2.out.step h1);have X3:=cG M3;clear h1 M2 X2 HSe;go_wp2_with fail;have M4:=lh M3.out.drew;have X4:=cG M4;go_region_held3 (fun w'=>Hid (vL W B P X w'))
    (first | with_reducible exact X4 | with_reducible exact X5 | with_reducible exact X6)
    (first
     | (go_at_call 88;(with_reducible refine (HBe.out _ M4.out.at_).mono ?_);rintro e w4 ⟨rfl,hb⟩;have M5:=lh (M4.out.to hb);have X5:=cG M5;clear hb)
     | (go_at_call 172;(with_reducible refine (HPu.out _ M5.out.at_).mono ?_);rintro e w5 ⟨rfl,hn⟩;have M6:=lh (aY.mi M5.out hn);have X6:=cG M6;clear hn))
   clear M3 X3 M4 X4 M5 X5 HBe HPu;go_wp2_with fail;refine (HYi.out _ M6.out.at_).mono ?_;rintro e w6 h1;obtain rfl:=h1.e;have M7:=lh (M6.out.step h1);have X7:=cG M7;clear h1 M6 X6 HYi;go_wp2_with fail;have M8:=lh M7.out.drew;have X8:=cG M8;have r13:=oA (W:=W) (B:=B) (P:=P) (s:=s5) (x:=X) (i:=13) (v:=.int .i64 s5.st) rfl;clear M7 X7
  refine rhd (S:=(fun w'=>Hid (vL W B P X w'))) X8 (fun hHeld=>?_);refine tkc 0 ?_;refine tkc 1 ?_;refine tks 2 ?_;refine tkc 3 ?_;refine tkc 4 ?_;refine tkc 5 ?_;refine tkc 7 ?_;refine tks 8 ?_;refine tkc 9 ?_;refine tkc 10 ?_;refine rdy [6,11] ?_;refine cns (fun K hK=>?_) ?_
  ·go_simp;refine bck hK hHeld (fun hHeld=>?_);clear hK;refine rdy [11] ?_;refine cns (fun K hK=>?_) .nil;go_simp;first
   |revert k0v;intro k0v;refine (HSi.out _ (Hid.out (by assumption):aX W B P s2 X _).at_).mono ?_
   |revert k3v;intro k3v;refine (HSi.out _ (Hid.out (by assumption):aX W B P s5 X _).at_).mono ?_
   |refine (HSi.out _ (Hid.out (by assumption):aX W B P s4 X _).at_).mono ?_
   rintro e w7 ⟨rfl,hb⟩;first
   |revert k0v;intro k0v;have M9:=lh ((Hid.out (by assumption):aX W B P s2 X _).to hb)
   |revert k3v;intro k3v;have M9:=lh ((Hid.out (by assumption):aX W B P s5 X _).to hb)
   |have M9:=lh ((Hid.out (by assumption):aX W B P s4 X _).to hb)
   go_wp2_with fail;refine bck hK (cG M9) (fun hHeld=>?_);clear hK;refine rdy [12] ?_;refine cns (fun K hK=>?_) .nil;go_simp;refine (HNe.out _).mono ?_;rintro e w8 ⟨rfl,hb⟩;first
   |revert k0v;intro k0v;have M10:=lh ((Hid.out (by assumption):aX W B P s2 X _).to hb)
   |revert k3v;intro k3v;have M10:=lh ((Hid.out (by assumption):aX W B P s5 X _).to hb)
   |have M10:=lh ((Hid.out (by assumption):aX W B P s4 X _).to hb)
   go_wp2_with fail;refine bck hK (cG M10) (fun hHeld=>?_);clear hK;refine rdy [13] ?_;refine cns (fun K hK=>?_) .nil;go_simp;first
   |revert k0v;intro k0v;refine (HTu.out _ (Hid.out (by assumption):aX W B P s2 X _).at_).mono ?_
   |revert k3v;intro k3v;refine (HTu.out _ (Hid.out (by assumption):aX W B P s5 X _).at_).mono ?_
   |refine (HTu.out _ (Hid.out (by assumption):aX W B P s4 X _).at_).mono ?_
   rintro e w9 h1;obtain rfl:=h1.e;first
   |revert k0v;intro k0v;have M11:=lh ((Hid.out (by assumption):aX W B P s2 X _).step h1)
   |revert k3v;intro k3v;have M11:=lh ((Hid.out (by assumption):aX W B P s5 X _).step h1)
   |have M11:=lh ((Hid.out (by assumption):aX W B P s4 X _).step h1)
   go_wp2_with fail;refine bck hK (cG M11) (fun hHeld=>?_);clear hK;refine wpAnyH_done (by kernel_rfl) ?_ _;have X11:=cG M11;have c13:=M11.out.at_.e.cell (i:=13) (v:=.int .i64 s6.st) rfl;rcases zz with ⟨z5,hz⟩ | ⟨z5,hz⟩
   ·first
    |revert k3v;intro k3v;subst hz;go_wp2_with fail;refine (HOp.out _ M11.out.at_).mono ?_;rintro e w12 ⟨rfl,hb⟩;have M14:=lh (M11.out.to hb);have c18:=M14.out.at_.e.cell (i:=18) (v:=↑s7.cwnd) rfl;have y18:=M14.out.at_.e.free 18;have M15:=lh (M14.out.set (s':={s7 with cwnd:=op}) 18 ↑op rfl rfl rfl rfl rfl);clear hb;go_wp2_with fail;go_end0;exact M15.out.post
    |subst hz;have v7a:=M11.out.drew.at_.e.cell (i:=7) (v:=↑s6.bs.hi) rfl;go_wp2_with fail;have M12:=lh M11.out.drew;have X12:=cG M12;have r7:=oA (W:=W) (B:=B) (P:=P) (s:=s6) (x:=X) (i:=7) (v:=↑s6.bs.hi) rfl;have r8:=oA (W:=W) (B:=B) (P:=P) (s:=s6) (x:=X) (i:=8) (v:=↑s6.bs.lo) rfl;have r9:=oA (W:=W) (B:=B) (P:=P) (s:=s6) (x:=X) (i:=9) (v:=↑s6.bs.bw) rfl;have f7:=AS (W:=W) (B:=B) (P:=P) (s:=s6) (x:=X) 7;have f8:=AS (W:=W) (B:=B) (P:=P) (s:=s6) (x:=X) 8;have f9:=AS (W:=W) (B:=B) (P:=P) (s:=s6) (x:=X) 9;go_region_with (first
      | (go_at_call 177;(refine (HPs.out _).mono ?_);rintro e w10 ⟨rfl,hb⟩;have M13:=lh (M12.out.to hb);clear hb))
     all_goals
      have M16:=lh (((M13.out.set (s':={s6 with bs:=⟨bs7.hi,s6.bs.lo,s6.bs.bw⟩}) 7 ↑bs7.hi rfl rfl rfl rfl rfl).set (s':={s6 with bs:=⟨bs7.hi,bs7.lo,s6.bs.bw⟩}) 8 ↑bs7.lo rfl rfl rfl rfl rfl).set (s':={s6 with bs:=bs7}) 9 ↑bs7.bw rfl rfl rfl rfl rfl);have X16:=cG M16;go_wp2_with fail;refine (HOp.out _ M16.out.at_).mono ?_;rintro e w12 ⟨rfl,hb⟩;have M14:=lh (M16.out.to hb);have c18:=M14.out.at_.e.cell (i:=18) (v:=↑s6.cwnd) rfl;have y18:=M14.out.at_.e.free 18;have M15:=lh (M14.out.set (s':={s6 with bs:=bs7,cwnd:=op}) 18 ↑op rfl rfl rfl rfl rfl);clear hb;go_wp2_with fail;go_end0;exact M15.out.post
   ·subst hz;go_wp2_with fail;refine (HOp.out _ M11.out.at_).mono ?_;rintro e w12 ⟨rfl,hb⟩;have M14:=lh (M11.out.to hb);have c18:=M14.out.at_.e.cell (i:=18) (v:=↑s7.cwnd) rfl;have y18:=M14.out.at_.e.free 18;have M15:=lh (M14.out.set (s':={s7 with cwnd:=op}) 18 ↑op rfl rfl rfl rfl rfl);clear hb;go_wp2_with fail;go_end0;exact M15.out.post
  refine cns (fun K hK=>?_) .nil;go_simp;first
  |revert k0v;intro k0v;refine (HSi.out _ (Hid.out (by assumption):aX W B P s2 X _).at_).mono ?_
  |revert k3v;intro k3v;refine (HSi.out _ (Hid.out (by assumption):aX W B P s5 X _).at_).mono ?_
  |refine (HSi.out _ (Hid.out (by assumption):aX W B P s4 X _).at_).mono ?_
  rintro e w7 ⟨rfl,hb⟩;first
  |revert k0v;intro k0v;have M9:=lh ((Hid.out (by assumption):aX W B P s2 X _).to hb)
  |revert k3v;intro k3v;have M9:=lh ((Hid.out (by assumption):aX W B P s5 X _).to hb)
  |have M9:=lh ((Hid.out (by assumption):aX W B P s4 X _).to hb)
  go_wp2_with fail;refine bck hK (cG M9) (fun hHeld=>?_);clear hK;refine rdy [6] ?_;refine cns (fun K hK=>?_) .nil;go_simp;refine bck hK hHeld (fun hHeld=>?_);clear hK;refine rdy [12] ?_;refine cns (fun K hK=>?_) .nil;go_simp;refine (HNe.out _).mono ?_;rintro e w8 ⟨rfl,hb⟩;first
  |revert k0v;intro k0v;have M10:=lh ((Hid.out (by assumption):aX W B P s2 X _).to hb)
  |revert k3v;intro k3v;have M10:=lh ((Hid.out (by assumption):aX W B P s5 X _).to hb)
  |have M10:=lh ((Hid.out (by assumption):aX W B P s4 X _).to hb)
  go_wp2_with fail;refine bck hK (cG M10) (fun hHeld=>?_);clear hK;refine rdy [13] ?_;refine cns (fun K hK=>?_) .nil;go_simp;first
  |revert k0v;intro k0v;refine (HTu.out _ (Hid.out (by assumption):aX W B P s2 X _).at_).mono ?_
  |revert k3v;intro k3v;refine (HTu.out _ (Hid.out (by assumption):aX W B P s5 X _).at_).mono ?_
  |refine (HTu.out _ (Hid.out (by assumption):aX W B P s4 X _).at_).mono ?_
  rintro e w9 h1;obtain rfl:=h1.e;first
  |revert k0v;intro k0v;have M11:=lh ((Hid.out (by assumption):aX W B P s2 X _).step h1)
  |revert k3v;intro k3v;have M11:=lh ((Hid.out (by assumption):aX W B P s5 X _).step h1)
  |have M11:=lh ((Hid.out (by assumption):aX W B P s4 X _).step h1)
  go_wp2_with fail;refine bck hK (cG M11) (fun hHeld=>?_);clear hK;refine wpAnyH_done (by kernel_rfl) ?_ _;have X11:=cG M11;have c13:=M11.out.at_.e.cell (i:=13) (v:=.int .i64 s6.st) rfl;rcases zz with ⟨z5,hz⟩ | ⟨z5,hz⟩
  ·first
   |revert k3v;intro k3v;subst hz;go_wp2_with fail;refine (HOp.out _ M11.out.at_).mono ?_;rintro e w12 ⟨rfl,hb⟩;have M14:=lh (M11.out.to hb);have c18:=M14.out.at_.e.cell (i:=18) (v:=↑s7.cwnd) rfl;have y18:=M14.out.at_.e.free 18;have M15:=lh (M14.out.set (s':={s7 with cwnd:=op}) 18 ↑op rfl rfl rfl rfl rfl);clear hb;go_wp2_with fail;go_end0;exact M15.out.post
   |subst hz;have v7a:=M11.out.drew.at_.e.cell (i:=7) (v:=↑s6.bs.hi) rfl;go_wp2_with fail;have M12:=lh M11.out.drew;have X12:=cG M12;have r7:=oA (W:=W) (B:=B) (P:=P) (s:=s6) (x:=X) (i:=7) (v:=↑s6.bs.hi) rfl;have r8:=oA (W:=W) (B:=B) (P:=P) (s:=s6) (x:=X) (i:=8) (v:=↑s6.bs.lo) rfl;have r9:=oA (W:=W) (B:=B) (P:=P) (s:=s6) (x:=X) (i:=9) (v:=↑s6.bs.bw) rfl;have f7:=AS (W:=W) (B:=B) (P:=P) (s:=s6) (x:=X) 7;have f8:=AS (W:=W) (B:=B) (P:=P) (s:=s6) (x:=X) 8;have f9:=AS (W:=W) (B:=B) (P:=P) (s:=s6) (x:=X) 9;go_region_with (first
     | (go_at_call 177;(refine (HPs.out _).mono ?_);rintro e w10 ⟨rfl,hb⟩;have M13:=lh (M12.out.to hb);clear hb))
    all_goals
     have M16:=lh (((M13.out.set (s':={s6 with bs:=⟨bs7.hi,s6.bs.lo,s6.bs.bw⟩}) 7 ↑bs7.hi rfl rfl rfl rfl rfl).set (s':={s6 with bs:=⟨bs7.hi,bs7.lo,s6.bs.bw⟩}) 8 ↑bs7.lo rfl rfl rfl rfl rfl).set (s':={s6 with bs:=bs7}) 9 ↑bs7.bw rfl rfl rfl rfl rfl);have X16:=cG M16;go_wp2_with fail;refine (HOp.out _ M16.out.at_).mono ?_;rintro e w12 ⟨rfl,hb⟩;have M14:=lh (M16.out.to hb);have c18:=M14.out.at_.e.cell (i:=18) (v:=↑s6.cwnd) rfl;have y18:=M14.out.at_.e.free 18;have M15:=lh (M14.out.set (s':={s6 with bs:=bs7,cwnd:=op}) 18 ↑op rfl rfl rfl rfl rfl);clear hb;go_wp2_with fail;go_end0;exact M15.out.post
  ·subst hz;go_wp2_with fail;refine (HOp.out _ M11.out.at_).mono ?_;rintro e w12 ⟨rfl,hb⟩;have M14:=lh (M11.out.to hb);have c18:=M14.out.at_.e.cell (i:=18) (v:=↑s7.cwnd) rfl;have y18:=M14.out.at_.e.free 18;have M15:=lh (M14.out.set (s':={s7 with cwnd:=op}) 18 ↑op rfl rfl rfl rfl rfl);clear hb;go_wp2_with fail;go_end0;exact M15.out.post
end Go.Proofs.YtjhiooggnpbecaaGreatDoor
