/- Lemmas. -/
import Derived.Test.YtjhiooggnpbecaaGreatDoorK428
set_option linter.unusedVariables false
set_option maxHeartbeats 2000000
set_option maxRecDepth 100000
namespace Go.Proofs.YtjhiooggnpbecaaGreatDoor
open Tryz
open Go.RowKit
variable {m:Bool} {hi' lo':Int} {s:LS} {kb rb:Nat} {p:Pk}
def LS.push (s:LS) (kb:Nat) (p:Pk) (m:Bool):LS:={s with ks:=s.ks ++ [⟨kb,p,false⟩],mixed:=m,next:=s.next + 1}
def lY (s:LS) (sent:Nat):Bool:=if s.ks=[] then false else s.mixed || decide (sent < (kAt s.ks (s.ks.length - 1)).p.sent)
theorem lI (ks:List Kp) (kb:Nat) (p:Pk):aW (ks ++ [⟨kb,p,false⟩])=aW ks ++ [⟨kb,p,false⟩]:=by unfold aW;rw [List.filter_append];rfl
theorem FI (ks:List Kp) (kb:Nat) (p:Pk):tot (ks ++ [⟨kb,p,false⟩])=tot ks + p.size:=by
 unfold tot cT;rw [lI,List.map_append,lM];simp [kN]
theorem KI {ks:List Kp} (h:ks.Pairwise fun x y=>x.p.sent≤y.p.sent):∀k∈ks,k.p.sent≤(kAt ks (ks.length - 1)).p.sent:=by
 intro k hk;obtain ⟨i,hi,rfl⟩:=List.mem_iff_getElem.1 hk;have e:=gT (ks:=ks) (i:=ks.length - 1) (by omega);rw [List.getElem?_eq_getElem (by omega)] at e;injection e with e
 rw [← e];rcases Nat.lt_or_ge i (ks.length - 1) with c | c
 ·exact List.pairwise_iff_getElem.1 h i (ks.length - 1) hi (by omega) c
 ·have:i=ks.length - 1:=by omega
  subst this;exact Nat.le_refl _
theorem LS.push_ok (h:s.ok) (hp:p.ok) (hn:p.n=s.next) (hx:s.next≤5999) (hb:∀k∈s.ks,k.b≠kb):(s.push kb p (lY s p.sent)).ok:=by
 refine ⟨?_,?_,fun k hk=>?_,fun k hk=>?_,fun hm=>?_,by show s.next + 1≤6000;omega,h.reorder,h.top,h.un⟩
 ·show ((s.ks ++ [(⟨kb,p,false⟩:Kp)]).map Kp.b).Nodup
  rw [List.map_append,List.nodup_append];refine ⟨h.nodup,by simp,fun a ha c hc=>?_⟩;obtain ⟨k,hk,rfl⟩:=List.mem_map.1 ha;simp at hc;subst hc;exact hb k hk
 ·show (s.ks ++ [(⟨kb,p,false⟩:Kp)]).Pairwise _
  rw [List.pairwise_append];refine ⟨h.rise,by simp,fun a ha c hc=>?_⟩;simp at hc;subst hc;have:=h.lt a ha;show a.p.n < p.n;omega
 ·rcases List.mem_append.1 hk with hk | hk
  ·have:=h.lt k hk;show k.p.n < s.next + 1;omega
  ·simp at hk;subst hk;show p.n < s.next + 1;omega
 ·rcases List.mem_append.1 hk with hk | hk
  ·exact h.pk k hk
  ·simp at hk;subst hk;exact hp
 ·show (s.ks ++ [(⟨kb,p,false⟩:Kp)]).Pairwise _
  have hm':lY s p.sent=false:=hm;unfold lY at hm';by_cases c:s.ks=[]
  ·rw [c];simp
  ·rw [if_neg c,Bool.or_eq_false_iff] at hm'
   have hmo:=h.mono hm'.1;rw [List.pairwise_append];refine ⟨hmo,by simp,fun a ha d hd=>?_⟩;simp at hd;subst hd
   have h1:=KI hmo a ha;have h2:=hm'.2;simp at h2
   show a.p.sent≤p.sent
   omega
theorem sU (h1:lo'=((tot s.ks + p.size) % M64:Nat)) (h2:hi'=((tot s.ks + p.size) / M64:Nat)):
  (((((cI rb s).setIfInBounds 6 (.int .u64 ((s.next:Int) + 1))).setIfInBounds 4 (.bool m)).setIfInBounds 1 (.int .i64 (((aW s.ks).length:Int) + 1))).setIfInBounds 3 (.int .u64 lo')).setIfInBounds 2 (.int .u64 hi')=cI rb (s.push kb p m):=by
 subst h1 h2;have e1:(aW (s.push kb p m).ks).length=(aW s.ks).length + 1:=by show (aW (s.ks ++ _)).length=_;rw [lI];simp
 have e2:tot (s.push kb p m).ks=tot s.ks + p.size:=FI _ _ _;unfold cI;rw [e1,e2];simp [LS.push]
structure iV (w:World) (b rb g:Nat) (s:LS) (p:Pk) (e:Ending) (w':World):Prop where
 e:e=.returned ↑s.next
 led:∃g' kb,LAt w' b rb g' (s.push kb p (lY s p.sent))∧(∀k∈s.ks,k.b≠kb)∧(g'=g∨w.heap.size≤g')∧↑w≤kb
 fr:Fr w w' (aE b rb g s)
theorem FJ {w w3 w4:World} {b g:Nat} (h:LAt w b rb g s) (h1:lo'=((tot s.ks + p.size) % M64:Nat)) (h2:hi'=((tot s.ks + p.size) / M64:Nat)) (hm:m=lY s p.sent)
  (F3:Fr w w3 [b]) (B3:Blk w3 b 156 (((cI rb s).setIfInBounds 6 (.int .u64 ((s.next:Int) + 1))).setIfInBounds 4 (.bool m)))
  (hp:kX (w3.alloc (.cells (Kp.cells p false) 208)).drew rb g (.returned (.tuple #[])) (aP s.ks ++ [w3.heap.size + 1]) (.returned (.tuple #[])) w4):
  iV w b rb g s p (.returned ↑s.next) (((w4.setCell ⟨b,1,none⟩ (.int .i64 (((aW s.ks).length:Int) + 1))).setCell ⟨b,3,none⟩ (.int .u64 lo')).setCell ⟨b,2,none⟩ (.int .u64 hi')):=by
 obtain ⟨_,⟨g',k1,k2⟩,k3⟩:=hp;have hsz:=F3.size;have e0:(w3.alloc (.cells (Kp.cells p false) 208)).drew.heap.size=w3.heap.size + 1:=by simp
 rw [e0] at k2;obtain ⟨c1,hc1⟩:=h.row.head;obtain ⟨c2,hc2⟩:=h.row.body;have nb:b ∉ [rb,g]:=by
  have a1:=h.head.ty hc1 (by decide);have a2:=h.head.ty hc2 (by decide);simp [a1,a2]
 have b4:=((B3.alloc (.cells (Kp.cells p false) 208)).drew).fr k3 nb;have b5:=((b4.set 1 (.int .i64 (((aW s.ks).length:Int) + 1))).set 3 (.int .u64 lo')).set 2 (.int .u64 hi');rw [sU (kb:=w3.heap.size) h1 h2] at b5;have f4:Fr w w4 (aE b rb g s):=(((F3.mono (fun x hx=>.inl (by simp at hx;subst hx;simp [aE]))).alloc _).drawn (aB.drew _)).trans k3 (fun x hx=>by simp at hx;rcases hx with rfl | rfl <;> simp [aE]);have f5:=((f4.set (c:=b) (.inl (by simp [aE])) 1 (.int .i64 (((aW s.ks).length:Int) + 1))).set (c:=b) (.inl (by simp [aE])) 3 (.int .u64 lo')).set (c:=b) (.inl (by simp [aE])) 2 (.int .u64 hi');subst hm;have hk4:∀k∈s.ks,Blk w4 k.b 208 (Kp.cells k.p k.gone):=fun k hk=>by
  have a:=h.kept k hk;have a1:=a.fr F3 (by have:=a.ty h.head (by decide);simp [this]);refine ((a1.alloc _).drew).fr k3 ?_;have:=a.ty hc1 (by decide);have:=a.ty hc2 (by decide);simp [*]
 have hn4:Blk w4 w3.heap.size 208 (Kp.cells p false):=((Blk.new w3 208 (Kp.cells p false)).drew).fr k3 (by
  have:=hc1.lt;have:=hc2.lt;simp;omega)
 have hnb:∀{x cs},Blk w4 x 208 cs→x≠b:=fun hx=>hx.ty b4 (by decide);obtain ⟨d1,hd1⟩:=k1.head;obtain ⟨d2,hd2⟩:=k1.body;refine ⟨rfl,⟨g',w3.heap.size,⟨b5,?_,fun k hk=>?_⟩,fun k hk=>?_,?_,hsz⟩,f5⟩
 ·have e:aP (s.push w3.heap.size p (lY s p.sent)).ks=aP s.ks ++ [w3.heap.size + 1]:=by simp [aP,LS.push]
  rw [e];have r1:=hd1.ty b4 (by decide);have r2:=hd2.ty b4 (by decide);exact ((k1.set_other r1 r2).set_other r1 r2).set_other r1 r2
 ·have:Blk w4 k.b 208 (Kp.cells k.p k.gone):=by
   rcases List.mem_append.1 hk with hk | hk
   ·exact hk4 k hk
   ·simp at hk;subst hk;exact hn4
  exact ((this.set_other 1 _ (hnb this)).set_other 3 _ (hnb this)).set_other 2 _ (hnb this)
 ·have:=(h.kept k hk).lt;omega
 ·rcases k2 with k2 | k2
  ·exact .inl k2
  ·right;omega
theorem iW:(∀(b rb g:Nat) (s:LS) (w:World) (h:LAt w b rb g s) (hs:s.ok) (p:Pk) (hp:p.ok) (hpn:p.n=s.next) (hx:s.next≤5999) (hks:s.ks=[]),Calls prog 183 #[↑(π b),↑p.size,.agg #[↑p.sent,↑p.first,↑p.deliv,↑p.at_,.bool p.lim]] w (iV w b rb g s p))∧(∀(b rb g:Nat) (s:LS) (w:World) (h:LAt w b rb g s) (hs:s.ok) (p:Pk) (hp:p.ok) (hpn:p.n=s.next) (hx:s.next≤5999) (hks:s.ks≠[]) (hmx:s.mixed=true),Calls prog 183 #[↑(π b),↑p.size,.agg #[↑p.sent,↑p.first,↑p.deliv,↑p.at_,.bool p.lim]] w (iV w b rb g s p))∧(∀(b rb g:Nat) (s:LS) (w:World) (h:LAt w b rb g s) (hs:s.ok) (p:Pk) (hp:p.ok) (hpn:p.n=s.next) (hx:s.next≤5999) (hks:s.ks≠[]) (hmx:s.mixed=false) (d:Bool) (hd:decide (p.sent < (kAt s.ks (s.ks.length - 1)).p.sent)=d),Calls prog 183 #[↑(π b),↑p.size,.agg #[↑p.sent,↑p.first,↑p.deliv,↑p.at_,.bool p.lim]] w (iV w b rb g s p)):=by
 refine ⟨?_,?_,?_⟩
 have k0v:Hid True:=trivial;intro b rb g s w h hs p hp hpn hx hks;rotate_left;have k1v:Hid True:=trivial;intro b rb g s w h hs p hp hpn hx hks hmx;rotate_left;intro b rb g s w h hs p hp hpn hx hks hmx d hd;rotate_left
 all_goals
  first
  |revert k0v;intro k0v;have HKs:=lh hks
  |have HKs:=lh hks;have HPos:Hid (0 < s.ks.length):=lh (List.length_pos_iff.2 hks);have HLK:=lh (h.kept _ (qN (i:=s.ks.length - 1) (by have:=HPos.out;omega)));have HLb:Hid ((kAt s.ks (s.ks.length - 1)).b≠b):=lh (HLK.out.ty h.head (by decide))
  clear hks;obtain ⟨cr,hcr,hdiv,hadd⟩:=zF (tot s.ks) p.size hp.lt
  have hhi:tot s.ks / M64≤6000:=by
   have:=LS.tot_le hs;have:=Nat.div_le_div_right (c:=M64) this;rwa [Nat.mul_div_cancel _ eV] at this
  have hol:=LS.out_le hs;have hll:s.ks.length≤6000:=Nat.le_trans (LS.len_le hs) hs.next;have HH:=lh h;have HS:=lh hs;have HDiv:=lh hdiv;have HHd:=lh h.head;first
  |revert k0v;intro k0v;have HM:Hid (false=lY s p.sent):=lh (by unfold lY;rw [if_pos HKs.out])
  |revert k1v;intro k1v;have HM:Hid (true=lY s p.sent):=lh (by unfold lY;rw [if_neg HKs.out,hmx];rfl)
  |have HM:Hid (d=lY s p.sent):=lh (by unfold lY;rw [if_neg HKs.out,hmx,hd];rfl)
  have HPn:=lh hpn;have B0:=lh (h.head.alloc (.cells #[↑p.sent,↑p.first,↑p.deliv,↑p.at_,.bool p.lim] 71));have ST0:=lh (Blk.new w 71 #[↑p.sent,↑p.first,↑p.deliv,↑p.at_,.bool p.lim]);have hbn:b≠w.heap.size:=Nat.ne_of_lt h.head.lt;have hnb:w.heap.size≠b:=Ne.symm hbn;have F0:Hid (Fr w (w.alloc (.cells #[↑p.sent,↑p.first,↑p.deliv,↑p.at_,.bool p.lim] 71)) [b]):=lh ((Fr.refl _ _).alloc _);have HR:Hid (∀W,Fr w W [b]→cR W rb g (aP s.ks)):=lh (fun W k=>by
   obtain ⟨c1,hc1⟩:=h.row.head;obtain ⟨c2,hc2⟩:=h.row.body;exact h.row.fr k (by have:=hc1.ty h.head (by decide);simp [this]) (by have:=hc2.ty h.head (by decide);simp [this]))
  have h6:=B0.out.cell (i:=6) (v:=↑s.next) rfl;have f6:=B0.out.free 6;have hwr:IntKind.i64.wrap ((s.ks.length:Int) - 1)=(s.ks.length:Int) - 1:=IntWalk.i64_in _ (by omega);have HWr:=lh hwr;clear h hs hp hdiv hpn hwr;go_enter func183,ntmps183;go_wp2_with fail;generalize (w.alloc (.cells #[↑p.sent,↑p.first,↑p.deliv,↑p.at_,.bool p.lim] 71))=w0 at *;have B1:=lh (B0.out.set 6 (.int .u64 ((s.next:Int) + 1)));have ST1:=lh (ST0.out.set_other (c:=b) 6 (.int .u64 ((s.next:Int) + 1)) hnb);have F1:=lh (F0.out.set (c:=b) (.inl (by simp)) 6 (.int .u64 ((s.next:Int) + 1)));clear B0 ST0 F0 h6 f6;generalize w0.setCell ⟨b,6,none⟩ (.int .u64 ((s.next:Int) + 1))=w1 at *;have l0:w1.cell? ⟨b,0,none⟩=some ↑(π rb):=B1.out.cell (i:=0) rfl;have HL:=lh (fun m=>(MT rb g (aP s.ks) (w1.drewN m) (HR.out _ (F1.out.drawn ⟨m,rfl⟩))).mono (fun e w' (h:e=_∧w1.drewN m=w')=>(⟨by rw [h.1,dG],h.2.symm⟩:e=.returned (.int .i64 (s.ks.length:Int))∧w'=w1.drewN m)));first
  |revert k0v;intro k0v;have HA:Hid (∀m,Calls prog 163 #[↑(π rb),.int .i64 ((s.ks.length:Int) - 1)] (w1.drewN m) fun e w'=>e=.returned (.tuple #[.pointer none,.bool false])∧∃q,w'=(w1.drewN m).drewN q):=lh (fun m=>by
    have:=sJ rb g ((s.ks.length:Int) - 1) (aP s.ks) (w1.drewN m) (HR.out _ (F1.out.drawn ⟨m,rfl⟩)) (.inl (by rw [HKs.out];decide));exact this)
  |have HA:Hid (∀m,Calls prog 163 #[↑(π rb),.int .i64 ((s.ks.length:Int) - 1)] (w1.drewN m) fun e w'=>e=.returned (.tuple #[↑(π ((kAt s.ks (s.ks.length - 1)).b)),.bool true])∧∃q,w'=(w1.drewN m).drewN q):=lh (fun m=>by
    have:=PY rb g (s.ks.length - 1) (aP s.ks) (w1.drewN m) (HR.out _ (F1.out.drawn ⟨m,rfl⟩)) (by rw [dG];have:=HPos.out;omega);rw [sO (by have:=HPos.out;omega)] at this;have e:((s.ks.length - 1:Nat):Int)=(s.ks.length:Int) - 1:=by have:=HPos.out;omega
    rw [e] at this;exact this)
  have hwr:=HWr.out;go_quiet (first | (go_at_call 162;exact Calls.quiet_of_same (HL.out _)) | (go_at_call 163;exact Calls.quiet_of (HA.out _)));clear hwr HL HA l0;have B2:Hid (Blk (w1.drewN nq) b 156 ((cI rb s).setIfInBounds 6 (.int .u64 ((s.next:Int) + 1)))):=lh B1.out;have ST2:Hid (Blk (w1.drewN nq) w.heap.size 71 #[↑p.sent,↑p.first,↑p.deliv,↑p.at_,.bool p.lim]):=lh ST1.out;have F2:=lh (F1.out.drawn ⟨nq,rfl⟩);clear B1 ST1 F1;generalize w1.drewN nq=w2 at *;first
  |revert k0v;intro k0v;have f4:=B2.out.drew.free 4;have m4:w2.drew.cell? ⟨b,4,none⟩=some (.bool s.mixed):=B2.out.drew.cell (i:=4) rfl
  |revert k1v;intro k1v;have LK:=lh (HLK.out.fr F2.out (by simp [HLb.out]));have m6:w2.drew.cell? ⟨(kAt s.ks (s.ks.length - 1)).b,2,none⟩=some ↑((kAt s.ks (s.ks.length - 1)).p.sent):=(fH LK.out.drew).2.2.1;generalize (kAt s.ks (s.ks.length - 1)).b=lb at *;generalize (kAt s.ks (s.ks.length - 1)).p.sent=ls at *;have HMx:=lh hmx;clear hmx;have f4:=B2.out.drew.free 4;have m4:w2.drew.cell? ⟨b,4,none⟩=some (.bool true):=B2.out.drew.cell (i:=4) (by rw [← HMx.out];rfl)
  |have LK:=lh (HLK.out.fr F2.out (by simp [HLb.out]));have m6:w2.drew.cell? ⟨(kAt s.ks (s.ks.length - 1)).b,2,none⟩=some ↑((kAt s.ks (s.ks.length - 1)).p.sent):=(fH LK.out.drew).2.2.1;generalize (kAt s.ks (s.ks.length - 1)).b=lb at *;generalize (kAt s.ks (s.ks.length - 1)).p.sent=ls at *;have HMx:=lh hmx;clear hmx;have f4:=B2.out.drew.free 4;have m4:w2.drew.cell? ⟨b,4,none⟩=some (.bool false):=B2.out.drew.cell (i:=4) (by rw [← HMx.out];rfl)
  have m5:w2.drew.cell? ⟨w.heap.size,0,none⟩=some ↑p.sent:=ST2.out.drew.cell (i:=0) rfl;go_wp2_with fail;go_region;first
  |revert k0v;intro k0v;have B3:=lh ((B2.out.set 4 (.bool false)).drew);have ST3:=lh ((ST2.out.set_other (c:=b) 4 (.bool false) hnb).drew);have F3:=lh ((F2.out.set (c:=b) (.inl (by simp)) 4 (.bool false)).drawn (aB.drew _));clear B2 ST2 F2 f4 m4 m5;generalize (w2.setCell ⟨b,4,none⟩ (.bool false)).drew=w3 at *
  |revert k1v;intro k1v;have B3:=lh ((B2.out.set 4 (.bool true)).drew);have ST3:=lh ((ST2.out.set_other (c:=b) 4 (.bool true) hnb).drew);have F3:=lh ((F2.out.set (c:=b) (.inl (by simp)) 4 (.bool true)).drawn (aB.drew _));clear B2 ST2 F2 f4 m4 m5;generalize (w2.setCell ⟨b,4,none⟩ (.bool true)).drew=w3 at *
  |have B3:=lh ((B2.out.set 4 (.bool d)).drew);have ST3:=lh ((ST2.out.set_other (c:=b) 4 (.bool d) hnb).drew);have F3:=lh ((F2.out.set (c:=b) (.inl (by simp)) 4 (.bool d)).drawn (aB.drew _));clear B2 ST2 F2 f4 m4 m5;generalize (w2.setCell ⟨b,4,none⟩ (.bool d)).drew=w3 at *
  have r0:w3.drew.cell? ⟨b,0,none⟩=some ↑(π rb):=B3.out.drew.cell (i:=0) rfl;have t0:=ST3.out.drew.cell (i:=0) (v:=↑p.sent) rfl;have t1:=ST3.out.drew.cell (i:=1) (v:=↑p.first) rfl;have t2:=ST3.out.drew.cell (i:=2) (v:=↑p.deliv) rfl;have t3:=ST3.out.drew.cell (i:=3) (v:=↑p.at_) rfl;have t4:=ST3.out.drew.cell (i:=4) (v:=.bool p.lim) rfl;have R0:=lh r0;have T0:=lh t0;have T1:=lh t1;have T2:=lh t2;have T3:=lh t3;have T4:=lh t4;have hkc:(Kp.cells p false)=#[↑s.next,↑p.size,↑p.sent,↑p.first,↑p.deliv,↑p.at_,.bool p.lim,.bool false]:=by rw [← HPn.out];rfl
  have HP:Hid (Calls prog 239 #[↑(π rb),↑(π w3.heap.size)] (w3.alloc (.cells #[↑s.next,↑p.size,↑p.sent,↑p.first,↑p.deliv,↑p.at_,.bool p.lim,.bool false] 208)).drew
    (kX (w3.alloc (.cells (Kp.cells p false) 208)).drew rb g (.returned (.tuple #[])) (aP s.ks ++ [w3.heap.size + 1]))):=lh (by
   rw [← hkc];exact OE rb g (w3.heap.size + 1) (aP s.ks) _ (((HR.out _ F3.out).alloc _).drawn (aB.drew _)) (by rw [dG];omega))
  clear hkc;go_wp2_with fail;go_region_held3 (fun w'=>w'.cell? ⟨b,0,none⟩=some ↑(π rb)∧w'.cell? ⟨w.heap.size,0,none⟩=some ↑p.sent∧w'.cell? ⟨w.heap.size,1,none⟩=some ↑p.first∧w'.cell? ⟨w.heap.size,2,none⟩=some ↑p.deliv∧w'.cell? ⟨w.heap.size,3,none⟩=some ↑p.at_∧w'.cell? ⟨w.heap.size,4,none⟩=some (.bool p.lim))
   (first | exact ⟨r0,t0,t1,t2,t3,t4⟩ | exact ⟨aQ (w:=w3) R0.out _,aQ (w:=w3) T0.out _,aQ (w:=w3) T1.out _,aQ (w:=w3) T2.out _,aQ (w:=w3) T3.out _,aQ (w:=w3) T4.out _⟩ | exact ⟨z0,q0,q1,q2,q3,q4⟩)
   (first | (go_at_call 239;refine (HP.out).mono ?_;intro e w4 hpo;obtain rfl:=hpo.e;have HPo:=lh hpo;clear hpo;have B4:=lh (((B3.out.alloc _).drew).fr HPo.out.mv (fun hm=>by (obtain ⟨c1,hc1⟩:=HH.out.row.head);(obtain ⟨c2,hc2⟩:=HH.out.row.body);have a1:=HH.out.head.ty hc1 (by decide);have a2:=HH.out.head.ty hc2 (by decide);simp [a1,a2] at hm));have ST4:=lh (((ST3.out.alloc _).drew).fr HPo.out.mv (fun hm=>by (obtain ⟨c1,hc1⟩:=HH.out.row.head);(obtain ⟨c2,hc2⟩:=HH.out.row.body);have a1:=hc1.lt;have a2:=hc2.lt;simp at hm;omega));have z0:=B4.out.cell (i:=0) (v:=↑(π rb)) rfl;have q0:=ST4.out.cell (i:=0) (v:=↑p.sent) rfl;have q1:=ST4.out.cell (i:=1) (v:=↑p.first) rfl;have q2:=ST4.out.cell (i:=2) (v:=↑p.deliv) rfl;have q3:=ST4.out.cell (i:=3) (v:=↑p.at_) rfl;have q4:=ST4.out.cell (i:=4) (v:=.bool p.lim) rfl))
  have l1:w4.cell? ⟨b,1,none⟩=some (.int .i64 ((aW s.ks).length:Int)):=B4.out.cell (i:=1) rfl;have l2:w4.cell? ⟨b,2,none⟩=some ↑(tot s.ks / M64:Nat):=B4.out.cell (i:=2) rfl;have l3:w4.cell? ⟨b,3,none⟩=some ↑(tot s.ks % M64:Nat):=B4.out.cell (i:=3) rfl;have g1:=B4.out.free 1;have g2:=B4.out.free 2;have g3:=B4.out.free 3;have SE:=lh (FJ (lo':=(((tot s.ks + p.size) % M64:Nat):Int)) (hi':=((tot s.ks / M64:Nat):Int) + (cr:Int)) HH.out rfl (by rw [HDiv.out];simp) HM.out F3.out B3.out HPo.out);clear z0 q0 q1 q2 q3 q4 r0 t0 t1 t2 t3 t4 R0 T0 T1 T2 T3 T4 HP HH HS HHd HDiv B3 ST3 F3 HR HM hbn hnb;generalize (aW s.ks).length=o at *;generalize tot s.ks / M64=hi at *;generalize tot s.ks % M64=lo at *;generalize (tot s.ks + p.size) % M64=lo' at *;go_wp2_with fail;go_ret;exact SE.out
theorem FK (b rb g:Nat) (s:LS) (w:World) (h:LAt w b rb g s) (hs:s.ok) (p:Pk) (hp:p.ok) (hpn:p.n=s.next) (hx:s.next≤5999):
  Calls prog 183 #[↑(π b),↑p.size,.agg #[↑p.sent,↑p.first,↑p.deliv,↑p.at_,.bool p.lim]] w (iV w b rb g s p):=by
 by_cases hks:s.ks=[]
 ·exact iW.1 b rb g s w h hs p hp hpn hx hks
 ·cases hmx:s.mixed
  ·exact iW.2.2 b rb g s w h hs p hp hpn hx hks hmx _ rfl
  ·exact iW.2.1 b rb g s w h hs p hp hpn hx hks hmx
end Go.Proofs.YtjhiooggnpbecaaGreatDoor
