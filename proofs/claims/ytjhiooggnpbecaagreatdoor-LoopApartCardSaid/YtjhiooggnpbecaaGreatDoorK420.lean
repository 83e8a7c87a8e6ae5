/- Lemmas. -/
import Derived.Test.YtjhiooggnpbecaaGreatDoorK418
set_option linter.unusedVariables false
set_option maxHeartbeats 2000000
set_option maxRecDepth 100000
namespace Go.Proofs.YtjhiooggnpbecaaGreatDoor
open Tryz
open Go.RowKit Cf
variable {P:EP} {s:ES} {x:EvS} {i:Nat} {B:Own} {v:Value} {W:World}
theorem ER (hv:x.cells[i]? =some v):∀w,Hid (aX W B P s x w)→w.cell? ⟨W.heap.size,i,none⟩=some v:=fun w q=>q.out.ev.cell hv
theorem EU (hv:(dY P s)[i]? =some v):∀w,Hid (aX W B P s x w)→w.cell? ⟨P.b,i,none⟩=some v:=fun w q=>q.out.at_.e.cell hv
theorem OU (i:Nat):∀w,Hid (aX W B P s x w)→w.frozen? ⟨P.b,i,none⟩=false:=fun w q=>q.out.at_.e.free i
theorem iQ:(∀{B:Own} {k:Nat} {P:EP} {s:ES} (x:EvS) (hx:x.ok) (W:World) (h:aG W B P s) (ho:s.ok k) (hs:s.st=0),Calls prog 173 #[↑(π P.b),x.val] W (aZ B P (.returned (.tuple #[])) {s with bs:=s.bs.pull x.fl s.holds} W))∧(∀{B:Own} {k:Nat} {P:EP} {s:ES} (x:EvS) (hx:x.ok) (W:World) (h:aG W B P s) (ho:s.ok k) (hs:s.st=5),Calls prog 173 #[↑(π P.b),x.val] W (aZ B P (.returned (.tuple #[])) {s with bs:=s.bs.pull x.fl s.holds} W))∧(∀{B:Own} {k:Nat} {P:EP} {s:ES} (x:EvS) (hx:x.ok) (W:World) (h:aG W B P s) (ho:s.ok k) (h0:s.st≠0) (h5:s.st≠5),Calls prog 173 #[↑(π P.b),x.val] W (aZ B P (.returned (.tuple #[])) {s with bs:=s.bs.lose x.sd x.sr s.cwnd} W)):=by
 refine ⟨?_,?_,?_⟩
 have k0v:Hid True:=trivial;intro B k P s x hx W h ho hs;rotate_left;intro B k P s x hx W h ho hs;rotate_left;have k2v:Hid True:=trivial;intro B k P s x hx W h ho h0 h5;rotate_left
 all_goals
  first
  |revert k2v;intro k2v;have z0:(s.st == 0)=false:=beq_eq_false_iff_ne.2 (by omega);have z5:(s.st == 5)=false:=beq_eq_false_iff_ne.2 (by omega);have HP:=lh (fun w=>IW s.bs x.sd x.sr s.cwnd w ho.bs hx.sd hx.sr ho.cwnd)
  |revert k0v;intro k0v;have z0:(s.st == 0)=true:=by rw [hs];rfl
   have HH:=lh (fun w h=>m0 (B:=B) (P:=P) (s:=s) w h ho);have HP:=lh (fun w=>wJ s.bs x.fl s.holds w hx.fl (ES.holds_le s))
  |have z0:(s.st == 0)=false:=beq_eq_false_iff_ne.2 (by omega);have z5:(s.st == 5)=true:=by rw [hs];rfl
   have HH:=lh (fun w h=>m0 (B:=B) (P:=P) (s:=s) w h ho);have HP:=lh (fun w=>wJ s.bs x.fl s.holds w hx.fl (ES.holds_le s))
  have M0:=lh (aX.start h x);have r13:=EU (W:=W) (B:=B) (P:=P) (s:=s) (x:=x) (i:=13) (v:=.int .i64 s.st) rfl;have r7:=EU (W:=W) (B:=B) (P:=P) (s:=s) (x:=x) (i:=7) (v:=↑s.bs.hi) rfl;have r8:=EU (W:=W) (B:=B) (P:=P) (s:=s) (x:=x) (i:=8) (v:=↑s.bs.lo) rfl;have r9:=EU (W:=W) (B:=B) (P:=P) (s:=s) (x:=x) (i:=9) (v:=↑s.bs.bw) rfl;first
  |revert k2v;intro k2v;have r18:=EU (W:=W) (B:=B) (P:=P) (s:=s) (x:=x) (i:=18) (v:=↑s.cwnd) rfl
  |skip
  have f7:=OU (W:=W) (B:=B) (P:=P) (s:=s) (x:=x) 7;have f8:=OU (W:=W) (B:=B) (P:=P) (s:=s) (x:=x) 8;have f9:=OU (W:=W) (B:=B) (P:=P) (s:=s) (x:=x) 9;first
  |revert k2v;intro k2v;have v1:=ER (W:=W) (B:=B) (P:=P) (s:=s) (x:=x) (i:=1) (v:=↑x.sd) rfl;have v3:=ER (W:=W) (B:=B) (P:=P) (s:=s) (x:=x) (i:=3) (v:=↑x.sr) rfl
  |have v10:=ER (W:=W) (B:=B) (P:=P) (s:=s) (x:=x) (i:=10) (v:=↑x.fl) rfl
  unfold EvS.val;clear h ho hx;have HE:Hid (x.cells=#[↑x.now,↑x.sd,↑x.si,↑x.sr,↑x.rt,.bool x.sl,.bool x.sm,↑x.dl,↑x.ac,↑x.lo,↑x.fl]):=lh rfl;rw [HE.out] at M0 ⊢;simp only [BS.cells] at HP;first
  |revert k2v;intro k2v
  |generalize s.holds=hol at *
  go_enter func173,ntmps173;go_wp2_with fail;generalize W.alloc (.cells #[↑x.now,↑x.sd,↑x.si,↑x.sr,↑x.rt,.bool x.sl,.bool x.sm,↑x.dl,↑x.ac,↑x.lo,↑x.fl] 137)=w0 at *;have M1:=lh M0.out.drew;first
  |revert k2v;intro k2v;go_region_with (first
    | (go_at_call 225;(refine (HP.out _).mono ?_);rintro e w2 ⟨rfl,hb⟩;have M3:=lh (M1.out.to hb);clear hb))
  |go_region_with (first
    | (go_at_call 224;(refine (HH.out _ M1.out.at_).mono ?_);rintro e w1 ⟨rfl,hb⟩;have M2:=lh (M1.out.to hb);clear hb)
    | (go_at_call 223;(refine (HP.out _).mono ?_);rintro e w2 ⟨rfl,hb⟩;have M3:=lh (M2.out.to hb);clear hb))
  all_goals
   first
   |revert k2v;intro k2v;have M4:=lh (((M3.out.set (s':={s with bs:=⟨(s.bs.lose x.sd x.sr s.cwnd).hi,s.bs.lo,s.bs.bw⟩}) 7 ↑((s.bs.lose x.sd x.sr s.cwnd).hi) rfl rfl rfl rfl rfl).set (s':={s with bs:=⟨(s.bs.lose x.sd x.sr s.cwnd).hi,(s.bs.lose x.sd x.sr s.cwnd).lo,s.bs.bw⟩}) 8 ↑((s.bs.lose x.sd x.sr s.cwnd).lo) rfl rfl rfl rfl rfl).set (s':={s with bs:=s.bs.lose x.sd x.sr s.cwnd}) 9 ↑((s.bs.lose x.sd x.sr s.cwnd).bw) rfl rfl rfl rfl rfl)
   |have M4:=lh (((M3.out.set (s':={s with bs:=⟨(s.bs.pull x.fl hol).hi,s.bs.lo,s.bs.bw⟩}) 7 ↑((s.bs.pull x.fl hol).hi) rfl rfl rfl rfl rfl).set (s':={s with bs:=⟨(s.bs.pull x.fl hol).hi,(s.bs.pull x.fl hol).lo,s.bs.bw⟩}) 8 ↑((s.bs.pull x.fl hol).lo) rfl rfl rfl rfl rfl).set (s':={s with bs:=s.bs.pull x.fl hol}) 9 ↑((s.bs.pull x.fl hol).bw) rfl rfl rfl rfl rfl)
   clear M0 M1 M3;go_wp2_with fail;go_end0;exact M4.out.post
end Go.Proofs.YtjhiooggnpbecaaGreatDoor
