/- 3 texts put together: what each one says stands ahead of it. -/
import Derived.Test.YteoepabmnbkabaaGreatDoorKS25
import Derived.Test.YteoepabmnbkabaaGreatDoorKS26
import Derived.Test.YteoepabmnbkabaaGreatDoorKS24
set_option linter.unusedVariables false
namespace Go.Proofs.YteoepabmnbkabaaGreatDoor
open Go.RowKit Cf
def MutX (W:World) (B:Nat) (P:EP) (x:EvS) (w:World):Prop:=∃s,MutI W B P s x w
theorem mu_of {W w:World} {B:Nat} {P:EP} {s:ES} {x:EvS} (h:Hid (MutI W B P s x w)):Hid (MutX W B P x w):=Lib.hid ⟨s,h.out⟩
theorem mu_ev {W:World} {B:Nat} {P:EP} {x:EvS} {i:Nat} {v:Value} (hv:x.cells[i]? =some v):∀w,Hid (MutX W B P x w)→w.cell? ⟨W.heap.size,i,none⟩=some v:=fun w q=>by
 obtain ⟨s,h⟩:=q.out
 exact h.ev.cell hv
theorem mu_p {W:World} {B:Nat} {P:EP} {x:EvS} {i:Nat} {v:Value} (hv:∀s,(ecells P s)[i]? =some v):∀w,Hid (MutX W B P x w)→w.cell? ⟨P.b,i,none⟩=some v:=fun w q=>by
 obtain ⟨s,h⟩:=q.out
 exact h.at_.e.cell (hv s)
theorem mu_e {W:World} {B:Nat} {P:EP} {s:ES} {x:EvS} {i:Nat} {v:Value} (hv:(ecells P s)[i]? =some v):∀w,Hid (MutI W B P s x w)→w.cell? ⟨P.b,i,none⟩=some v:=fun w q=>q.out.at_.e.cell hv
theorem mu_f {W:World} {B:Nat} {P:EP} {s:ES} {x:EvS} (i:Nat):∀w,Hid (MutI W B P s x w)→w.frozen? ⟨P.b,i,none⟩=false:=fun w q=>q.out.at_.e.free i
set_option maxHeartbeats 4000000 in
set_option maxRecDepth 100000 in
theorem en_On_ff {B:Nat} {P:EP} {s s1 s2 s3 s4 s5 s6 s7:ES} {now sd si sr rt dl ac lo fl best op:Nat} {sl:Bool} {sg:Array Value} {t:Int} {bs7:BS} (W:World) (h:EngAt W B P s)
  (HCo:∀w,EngAt w B P s→Calls Tryz.prog 172 #[.pointer (some ⟨P.b,0,none⟩),EvS.val ⟨now,sd,si,sr,rt,sl,false,dl,ac,lo,fl⟩] w (EPost B P (.returned (.tuple #[])) s1 w))
  (HMe:∀w,EngAt w B P s1→Calls Tryz.prog 173 #[.pointer (some ⟨P.b,0,none⟩),EvS.val ⟨now,sd,si,sr,rt,sl,false,dl,ac,lo,fl⟩] w (EPost B P (.returned (.bool false)) s2 w))
  (HSi:∀w,EngAt w B P s2→Calls Tryz.prog 179 #[.pointer (some ⟨P.b,0,none⟩),EvS.val ⟨now,sd,si,sr,rt,sl,false,dl,ac,lo,fl⟩,.bool false,.bool false] w fun e w'=>e=.returned (.agg sg)∧Below w.heap.size w w')
  (HNe:∀w,Calls Tryz.prog 178 #[.int .i64 s2.st,.agg sg] w fun e w'=>e=.returned (.int .i64 t)∧Below w.heap.size w w')
  (HTu:∀w,EngAt w B P s2→Calls Tryz.prog 177 #[.pointer (some ⟨P.b,0,none⟩),.int .u64 (now:Int),.int .i64 t] w (EPost B P (.returned (.tuple #[])) s6 w))
  (HPs:∀w,Calls Tryz.prog 180 #[.agg #[.int .u64 (s6.bs.hi:Int),.int .u64 (s6.bs.lo:Int),.int .u64 (s6.bs.bw:Int)],.int .u64 (ac:Int)] w fun e w'=>e=.returned (.agg #[.int .u64 (bs7.hi:Int),.int .u64 (bs7.lo:Int),.int .u64 (bs7.bw:Int)])∧Below w.heap.size w w')
  (HOp:∀w,EngAt w B P s7→Calls Tryz.prog 181 #[.pointer (some ⟨P.b,0,none⟩),.int .u64 (ac:Int)] w fun e w'=>e=.returned (.int .u64 (op:Int))∧Below w.heap.size w w')
  (zz:((s6.st == 5)=true∧s7={s6 with bs:=bs7})∨((s6.st == 5)=false∧s7=s6))
  :Calls Tryz.prog 107 #[.pointer (some ⟨P.b,0,none⟩),EvS.val ⟨now,sd,si,sr,rt,sl,false,dl,ac,lo,fl⟩] W (EPost B P (.returned (.tuple #[])) {s7 with cwnd:=op} W):=by
 have M0:=Lib.hid (MutI.start h ⟨now,sd,si,sr,rt,sl,false,dl,ac,lo,fl⟩)
 have HCo:=Lib.hid HCo
 have HMe:=Lib.hid HMe
 have HSi:=Lib.hid HSi
 have HNe:=Lib.hid HNe
 have HTu:=Lib.hid HTu
 have HPs:=Lib.hid HPs
 have HOp:=Lib.hid HOp
 have v0:=mu_ev (W:=W) (B:=B) (P:=P) (x:=⟨now,sd,si,sr,rt,sl,false,dl,ac,lo,fl⟩) (i:=0) (v:=.int .u64 (now:Int)) rfl
 have v1:=mu_ev (W:=W) (B:=B) (P:=P) (x:=⟨now,sd,si,sr,rt,sl,false,dl,ac,lo,fl⟩) (i:=1) (v:=.int .u64 (sd:Int)) rfl
 have v2:=mu_ev (W:=W) (B:=B) (P:=P) (x:=⟨now,sd,si,sr,rt,sl,false,dl,ac,lo,fl⟩) (i:=2) (v:=.int .u64 (si:Int)) rfl
 have v3:=mu_ev (W:=W) (B:=B) (P:=P) (x:=⟨now,sd,si,sr,rt,sl,false,dl,ac,lo,fl⟩) (i:=3) (v:=.int .u64 (sr:Int)) rfl
 have v4:=mu_ev (W:=W) (B:=B) (P:=P) (x:=⟨now,sd,si,sr,rt,sl,false,dl,ac,lo,fl⟩) (i:=4) (v:=.int .u64 (rt:Int)) rfl
 have v5:=mu_ev (W:=W) (B:=B) (P:=P) (x:=⟨now,sd,si,sr,rt,sl,false,dl,ac,lo,fl⟩) (i:=5) (v:=.bool sl) rfl
 have v6:=mu_ev (W:=W) (B:=B) (P:=P) (x:=⟨now,sd,si,sr,rt,sl,false,dl,ac,lo,fl⟩) (i:=6) (v:=.bool false) rfl
 have v7:=mu_ev (W:=W) (B:=B) (P:=P) (x:=⟨now,sd,si,sr,rt,sl,false,dl,ac,lo,fl⟩) (i:=7) (v:=.int .u64 (dl:Int)) rfl
 have v8:=mu_ev (W:=W) (B:=B) (P:=P) (x:=⟨now,sd,si,sr,rt,sl,false,dl,ac,lo,fl⟩) (i:=8) (v:=.int .u64 (ac:Int)) rfl
 have v9:=mu_ev (W:=W) (B:=B) (P:=P) (x:=⟨now,sd,si,sr,rt,sl,false,dl,ac,lo,fl⟩) (i:=9) (v:=.int .u64 (lo:Int)) rfl
 have v10:=mu_ev (W:=W) (B:=B) (P:=P) (x:=⟨now,sd,si,sr,rt,sl,false,dl,ac,lo,fl⟩) (i:=10) (v:=.int .u64 (fl:Int)) rfl
 have p6:=mu_p (W:=W) (B:=B) (P:=P) (x:=⟨now,sd,si,sr,rt,sl,false,dl,ac,lo,fl⟩) (i:=6) (v:=.pointer (some ⟨P.p,0,none⟩)) (fun _=>rfl)
 have p11:=mu_p (W:=W) (B:=B) (P:=P) (x:=⟨now,sd,si,sr,rt,sl,false,dl,ac,lo,fl⟩) (i:=11) (v:=.pointer (some ⟨P.y,0,none⟩)) (fun _=>rfl)
 clear h
 unfold EvS.val at HCo HMe HSi ⊢
 generalize hX:(EvS.mk now sd si sr rt sl false dl ac lo fl)=X at *
 have HE:Hid (X.cells=#[.int .u64 (now:Int),.int .u64 (sd:Int),.int .u64 (si:Int),.int .u64 (sr:Int),.int .u64 (rt:Int),.bool sl,.bool false,.int .u64 (dl:Int),.int .u64 (ac:Int),.int .u64 (lo:Int),.int .u64 (fl:Int)]):=Lib.hid (by rw [← hX];rfl)
 clear hX
 rw [HE.out] at M0 HCo HMe HSi ⊢
 go_enter Tryz.func107,Tryz.ntmps107
 go_wp2_with fail
 generalize W.alloc (.cells #[.int .u64 (now:Int),.int .u64 (sd:Int),.int .u64 (si:Int),.int .u64 (sr:Int),.int .u64 (rt:Int),.bool sl,.bool false,.int .u64 (dl:Int),.int .u64 (ac:Int),.int .u64 (lo:Int),.int .u64 (fl:Int)] 110)=w0 at *
 refine (HCo.out _ M0.out.at_).mono ?_
 rintro e w1 h1
 obtain rfl:=h1.e
 have M1:=Lib.hid (M0.out.step h1)
 have X1:=mu_of M1
 clear h1 M0 HCo
 go_wp2_with fail
 refine (HMe.out _ M1.out.at_).mono ?_
 rintro e w2 h1
 obtain rfl:=h1.e
 have M2:=Lib.hid (M1.out.step h1)
 have X2:=mu_of M2
 clear h1 M1 X1 HMe
 go_wp2_with fail
 have M8:=Lib.hid M2.out.drew
 have X8:=mu_of M8
 have r13:=mu_e (W:=W) (B:=B) (P:=P) (s:=s2) (x:=X) (i:=13) (v:=.int .i64 s2.st) rfl
 clear M2 X2
 refine wp_region_held_drew (S:=(fun w'=>Hid (MutX W B P X w'))) (by kernel_rfl) X8 (fun hHeld=>?_)
 simp only [List.size_toArray,List.length_cons,List.length_nil,Nat.reduceAdd,Array.replicate_succ,Array.replicate_zero,List.push_toArray,List.nil_append,List.cons_append]
 refine wpAnyH_take (i:=0) (oi:=⟨some 39,_,_,_,_,_⟩) (v:=?v1) rfl (by kernel_rfl) (by kernel_rfl) (by kernel_rfl) (fun _ _ _ h=>h) (Or.inl ⟨by rfl,?y1⟩) (by assumption) ?r1
 case y1=>intro w hSw;clear hSw;go_simp;(try with_reducible rfl)
 simp only [Act.put,List.setIfInBounds_toArray,List.set_cons_zero,List.set_cons_succ]
 refine wpAnyH_take (i:=1) (oi:=⟨some 40,_,_,_,_,_⟩) (v:=?v2) rfl (by kernel_rfl) (by kernel_rfl) (by kernel_rfl) (fun _ _ _ h=>h) (Or.inl ⟨by rfl,?y2⟩) (by assumption) ?r2
 case y2=>intro w hSw;clear hSw;go_simp;(try with_reducible rfl)
 simp only [Act.put,List.setIfInBounds_toArray,List.set_cons_zero,List.set_cons_succ]
 refine wpAnyH_take (i:=2) (oi:=⟨some 41,_,_,_,_,_⟩) (v:=?v3) rfl (by kernel_rfl) (by kernel_rfl) (by kernel_rfl) (fun _ _ _ h=>h) (Or.inl ⟨by rfl,?y3⟩) (by assumption) ?r3
 case y3=>intro w hSw;skip;go_simp;(try with_reducible rfl)
 simp only [Act.put,List.setIfInBounds_toArray,List.set_cons_zero,List.set_cons_succ]
 refine wpAnyH_take (i:=3) (oi:=⟨some 42,_,_,_,_,_⟩) (v:=?v4) rfl (by kernel_rfl) (by kernel_rfl) (by kernel_rfl) (fun _ _ _ h=>h) (Or.inl ⟨by rfl,?y4⟩) (by assumption) ?r4
 case y4=>intro w hSw;clear hSw;go_simp;(try with_reducible rfl)
 simp only [Act.put,List.setIfInBounds_toArray,List.set_cons_zero,List.set_cons_succ]
 refine wpAnyH_take (i:=4) (oi:=⟨some 43,_,_,_,_,_⟩) (v:=?v5) rfl (by kernel_rfl) (by kernel_rfl) (by kernel_rfl) (fun _ _ _ h=>h) (Or.inl ⟨by rfl,?y5⟩) (by assumption) ?r5
 case y5=>intro w hSw;clear hSw;go_simp;(try with_reducible rfl)
 simp only [Act.put,List.setIfInBounds_toArray,List.set_cons_zero,List.set_cons_succ]
 refine wpAnyH_take (i:=5) (oi:=⟨some 44,_,_,_,_,_⟩) (v:=?v6) rfl (by kernel_rfl) (by kernel_rfl) (by kernel_rfl) (fun _ _ _ h=>h) (Or.inl ⟨by rfl,?y6⟩) (by assumption) ?r6
 case y6=>intro w hSw;clear hSw;go_simp;(try with_reducible rfl)
 simp only [Act.put,List.setIfInBounds_toArray,List.set_cons_zero,List.set_cons_succ]
 refine wpAnyH_take (i:=7) (oi:=⟨some 46,_,_,_,_,_⟩) (v:=?v7) rfl (by kernel_rfl) (by kernel_rfl) (by kernel_rfl) (fun _ _ _ h=>h) (Or.inl ⟨by rfl,?y7⟩) (by assumption) ?r7
 case y7=>intro w hSw;clear hSw;go_simp;(try with_reducible rfl)
 simp only [Act.put,List.setIfInBounds_toArray,List.set_cons_zero,List.set_cons_succ]
 refine wpAnyH_take (i:=8) (oi:=⟨some 47,_,_,_,_,_⟩) (v:=?v8) rfl (by kernel_rfl) (by kernel_rfl) (by kernel_rfl) (fun _ _ _ h=>h) (Or.inl ⟨by rfl,?y8⟩) (by assumption) ?r8
 case y8=>intro w hSw;skip;go_simp;(try with_reducible rfl)
 simp only [Act.put,List.setIfInBounds_toArray,List.set_cons_zero,List.set_cons_succ]
 refine wpAnyH_take (i:=9) (oi:=⟨some 48,_,_,_,_,_⟩) (v:=?v9) rfl (by kernel_rfl) (by kernel_rfl) (by kernel_rfl) (fun _ _ _ h=>h) (Or.inl ⟨by rfl,?y9⟩) (by assumption) ?r9
 case y9=>intro w hSw;clear hSw;go_simp;(try with_reducible rfl)
 simp only [Act.put,List.setIfInBounds_toArray,List.set_cons_zero,List.set_cons_succ]
 refine wpAnyH_take (i:=10) (oi:=⟨some 49,_,_,_,_,_⟩) (v:=?v10) rfl (by kernel_rfl) (by kernel_rfl) (by kernel_rfl) (fun _ _ _ h=>h) (Or.inl ⟨by rfl,?y10⟩) (by assumption) ?r10
 case y10=>intro w hSw;clear hSw;go_simp;(try with_reducible rfl)
 simp only [Act.put,List.setIfInBounds_toArray,List.set_cons_zero,List.set_cons_succ]
 refine wpAnyH_ready (rs:=[6,11]) (by kernel_rfl) (by simp) ?_
 refine AllReadyH.cons (o:=⟨some 45,_,_,_,_,_⟩) rfl (fun K hK=>?_) ?_
 ·go_simp
  refine hK.out _ _ hHeld (fun hHeld=>?_)
  clear hK
  try simp only [List.setIfInBounds_toArray,List.set_cons_zero,List.set_cons_succ]
  refine wpAnyH_ready (rs:=[11]) (by kernel_rfl) (by simp) ?_
  refine AllReadyH.cons (o:=⟨some 50,_,_,_,_,_⟩) rfl (fun K hK=>?_) AllReadyH.nil
  go_simp
  refine (HSi.out _ (Hid.out (by assumption):MutI W B P s2 X _).at_).mono ?_
  rintro e w7 ⟨rfl,hb⟩
  have M9:=Lib.hid ((Hid.out (by assumption):MutI W B P s2 X _).to hb)
  go_wp2_with fail
  refine hK.out _ _ (mu_of M9) (fun hHeld=>?_)
  clear hK
  try simp only [List.setIfInBounds_toArray,List.set_cons_zero,List.set_cons_succ]
  refine wpAnyH_ready (rs:=[12]) (by kernel_rfl) (by simp) ?_
  refine AllReadyH.cons (o:=⟨some 51,_,_,_,_,_⟩) rfl (fun K hK=>?_) AllReadyH.nil
  go_simp
  refine (HNe.out _).mono ?_
  rintro e w8 ⟨rfl,hb⟩
  have M10:=Lib.hid ((Hid.out (by assumption):MutI W B P s2 X _).to hb)
  go_wp2_with fail
  refine hK.out _ _ (mu_of M10) (fun hHeld=>?_)
  clear hK
  try simp only [List.setIfInBounds_toArray,List.set_cons_zero,List.set_cons_succ]
  refine wpAnyH_ready (rs:=[13]) (by kernel_rfl) (by simp) ?_
  refine AllReadyH.cons (o:=⟨some 52,_,_,_,_,_⟩) rfl (fun K hK=>?_) AllReadyH.nil
  go_simp
  refine (HTu.out _ (Hid.out (by assumption):MutI W B P s2 X _).at_).mono ?_
  rintro e w9 h1
  obtain rfl:=h1.e
  have M11:=Lib.hid ((Hid.out (by assumption):MutI W B P s2 X _).step h1)
  go_wp2_with fail
  refine hK.out _ _ (mu_of M11) (fun hHeld=>?_)
  clear hK
  try simp only [List.setIfInBounds_toArray,List.set_cons_zero,List.set_cons_succ]
  refine wpAnyH_done (by kernel_rfl) ?_ _
  have X11:=mu_of M11
  have c13:=M11.out.at_.e.cell (i:=13) (v:=.int .i64 s6.st) rfl
  rcases zz with ⟨z5,hz⟩ | ⟨z5,hz⟩
  ·subst hz
   have v7a:=M11.out.drew.at_.e.cell (i:=7) (v:=.int .u64 (s6.bs.hi:Int)) rfl
   go_wp2_with fail
   have M12:=Lib.hid M11.out.drew
   have X12:=mu_of M12
   have r7:=mu_e (W:=W) (B:=B) (P:=P) (s:=s6) (x:=X) (i:=7) (v:=.int .u64 (s6.bs.hi:Int)) rfl
   have r8:=mu_e (W:=W) (B:=B) (P:=P) (s:=s6) (x:=X) (i:=8) (v:=.int .u64 (s6.bs.lo:Int)) rfl
   have r9:=mu_e (W:=W) (B:=B) (P:=P) (s:=s6) (x:=X) (i:=9) (v:=.int .u64 (s6.bs.bw:Int)) rfl
   have f7:=mu_f (W:=W) (B:=B) (P:=P) (s:=s6) (x:=X) 7
   have f8:=mu_f (W:=W) (B:=B) (P:=P) (s:=s6) (x:=X) 8
   have f9:=mu_f (W:=W) (B:=B) (P:=P) (s:=s6) (x:=X) 9
   go_region_with (first
    | (go_at_call 180;(refine (HPs.out _).mono ?_);rintro e w10 ⟨rfl,hb⟩;have M13:=Lib.hid (M12.out.to hb);clear hb))
   all_goals
    have M16:=Lib.hid (((M13.out.set (s':={s6 with bs:=⟨bs7.hi,s6.bs.lo,s6.bs.bw⟩}) 7 (.int .u64 (bs7.hi:Int)) rfl rfl rfl rfl rfl).set (s':={s6 with bs:=⟨bs7.hi,bs7.lo,s6.bs.bw⟩}) 8 (.int .u64 (bs7.lo:Int)) rfl rfl rfl rfl rfl).set (s':={s6 with bs:=bs7}) 9 (.int .u64 (bs7.bw:Int)) rfl rfl rfl rfl rfl)
    have X16:=mu_of M16
    go_wp2_with fail
    refine (HOp.out _ M16.out.at_).mono ?_
    rintro e w12 ⟨rfl,hb⟩
    have M14:=Lib.hid (M16.out.to hb)
    have c18:=M14.out.at_.e.cell (i:=18) (v:=.int .u64 (s6.cwnd:Int)) rfl
    have y18:=M14.out.at_.e.free 18
    have M15:=Lib.hid (M14.out.set (s':={s6 with bs:=bs7,cwnd:=op}) 18 (.int .u64 (op:Int)) rfl rfl rfl rfl rfl)
    clear hb
    go_wp2_with fail
    go_end0
    exact M15.out.post
  ·subst hz
   go_wp2_with fail
   refine (HOp.out _ M11.out.at_).mono ?_
   rintro e w12 ⟨rfl,hb⟩
   have M14:=Lib.hid (M11.out.to hb)
   have c18:=M14.out.at_.e.cell (i:=18) (v:=.int .u64 (s7.cwnd:Int)) rfl
   have y18:=M14.out.at_.e.free 18
   have M15:=Lib.hid (M14.out.set (s':={s7 with cwnd:=op}) 18 (.int .u64 (op:Int)) rfl rfl rfl rfl rfl)
   clear hb
   go_wp2_with fail
   go_end0
   exact M15.out.post
 refine AllReadyH.cons (o:=⟨some 50,_,_,_,_,_⟩) rfl (fun K hK=>?_) AllReadyH.nil
 go_simp
 refine (HSi.out _ (Hid.out (by assumption):MutI W B P s2 X _).at_).mono ?_
 rintro e w7 ⟨rfl,hb⟩
 have M9:=Lib.hid ((Hid.out (by assumption):MutI W B P s2 X _).to hb)
 go_wp2_with fail
 refine hK.out _ _ (mu_of M9) (fun hHeld=>?_)
 clear hK
 try simp only [List.setIfInBounds_toArray,List.set_cons_zero,List.set_cons_succ]
 refine wpAnyH_ready (rs:=[6]) (by kernel_rfl) (by simp) ?_
 refine AllReadyH.cons (o:=⟨some 45,_,_,_,_,_⟩) rfl (fun K hK=>?_) AllReadyH.nil
 go_simp
 refine hK.out _ _ hHeld (fun hHeld=>?_)
 clear hK
 try simp only [List.setIfInBounds_toArray,List.set_cons_zero,List.set_cons_succ]
 refine wpAnyH_ready (rs:=[12]) (by kernel_rfl) (by simp) ?_
 refine AllReadyH.cons (o:=⟨some 51,_,_,_,_,_⟩) rfl (fun K hK=>?_) AllReadyH.nil
 go_simp
 refine (HNe.out _).mono ?_
 rintro e w8 ⟨rfl,hb⟩
 have M10:=Lib.hid ((Hid.out (by assumption):MutI W B P s2 X _).to hb)
 go_wp2_with fail
 refine hK.out _ _ (mu_of M10) (fun hHeld=>?_)
 clear hK
 try simp only [List.setIfInBounds_toArray,List.set_cons_zero,List.set_cons_succ]
 refine wpAnyH_ready (rs:=[13]) (by kernel_rfl) (by simp) ?_
 refine AllReadyH.cons (o:=⟨some 52,_,_,_,_,_⟩) rfl (fun K hK=>?_) AllReadyH.nil
 go_simp
 refine (HTu.out _ (Hid.out (by assumption):MutI W B P s2 X _).at_).mono ?_
 rintro e w9 h1
 obtain rfl:=h1.e
 have M11:=Lib.hid ((Hid.out (by assumption):MutI W B P s2 X _).step h1)
 go_wp2_with fail
 refine hK.out _ _ (mu_of M11) (fun hHeld=>?_)
 clear hK
 try simp only [List.setIfInBounds_toArray,List.set_cons_zero,List.set_cons_succ]
 refine wpAnyH_done (by kernel_rfl) ?_ _
 have X11:=mu_of M11
 have c13:=M11.out.at_.e.cell (i:=13) (v:=.int .i64 s6.st) rfl
 rcases zz with ⟨z5,hz⟩ | ⟨z5,hz⟩
 ·subst hz
  have v7a:=M11.out.drew.at_.e.cell (i:=7) (v:=.int .u64 (s6.bs.hi:Int)) rfl
  go_wp2_with fail
  have M12:=Lib.hid M11.out.drew
  have X12:=mu_of M12
  have r7:=mu_e (W:=W) (B:=B) (P:=P) (s:=s6) (x:=X) (i:=7) (v:=.int .u64 (s6.bs.hi:Int)) rfl
  have r8:=mu_e (W:=W) (B:=B) (P:=P) (s:=s6) (x:=X) (i:=8) (v:=.int .u64 (s6.bs.lo:Int)) rfl
  have r9:=mu_e (W:=W) (B:=B) (P:=P) (s:=s6) (x:=X) (i:=9) (v:=.int .u64 (s6.bs.bw:Int)) rfl
  have f7:=mu_f (W:=W) (B:=B) (P:=P) (s:=s6) (x:=X) 7
  have f8:=mu_f (W:=W) (B:=B) (P:=P) (s:=s6) (x:=X) 8
  have f9:=mu_f (W:=W) (B:=B) (P:=P) (s:=s6) (x:=X) 9
  go_region_with (first
   | (go_at_call 180;(refine (HPs.out _).mono ?_);rintro e w10 ⟨rfl,hb⟩;have M13:=Lib.hid (M12.out.to hb);clear hb))
  all_goals
   have M16:=Lib.hid (((M13.out.set (s':={s6 with bs:=⟨bs7.hi,s6.bs.lo,s6.bs.bw⟩}) 7 (.int .u64 (bs7.hi:Int)) rfl rfl rfl rfl rfl).set (s':={s6 with bs:=⟨bs7.hi,bs7.lo,s6.bs.bw⟩}) 8 (.int .u64 (bs7.lo:Int)) rfl rfl rfl rfl rfl).set (s':={s6 with bs:=bs7}) 9 (.int .u64 (bs7.bw:Int)) rfl rfl rfl rfl rfl)
   have X16:=mu_of M16
   go_wp2_with fail
   refine (HOp.out _ M16.out.at_).mono ?_
   rintro e w12 ⟨rfl,hb⟩
   have M14:=Lib.hid (M16.out.to hb)
   have c18:=M14.out.at_.e.cell (i:=18) (v:=.int .u64 (s6.cwnd:Int)) rfl
   have y18:=M14.out.at_.e.free 18
   have M15:=Lib.hid (M14.out.set (s':={s6 with bs:=bs7,cwnd:=op}) 18 (.int .u64 (op:Int)) rfl rfl rfl rfl rfl)
   clear hb
   go_wp2_with fail
   go_end0
   exact M15.out.post
 ·subst hz
  go_wp2_with fail
  refine (HOp.out _ M11.out.at_).mono ?_
  rintro e w12 ⟨rfl,hb⟩
  have M14:=Lib.hid (M11.out.to hb)
  have c18:=M14.out.at_.e.cell (i:=18) (v:=.int .u64 (s7.cwnd:Int)) rfl
  have y18:=M14.out.at_.e.free 18
  have M15:=Lib.hid (M14.out.set (s':={s7 with cwnd:=op}) 18 (.int .u64 (op:Int)) rfl rfl rfl rfl rfl)
  clear hb
  go_wp2_with fail
  go_end0
  exact M15.out.post
set_option maxHeartbeats 4000000 in
set_option maxRecDepth 100000 in
theorem en_On_tf {B:Nat} {P:EP} {s s1 s2 s3 s4 s5 s6 s7:ES} {now sd si sr rt dl ac lo fl best op:Nat} {sl:Bool} {sg:Array Value} {t:Int} {bs7:BS} (W:World) (h:EngAt W B P s)
  (HCo:∀w,EngAt w B P s→Calls Tryz.prog 172 #[.pointer (some ⟨P.b,0,none⟩),EvS.val ⟨now,sd,si,sr,rt,sl,true,dl,ac,lo,fl⟩] w (EPost B P (.returned (.tuple #[])) s1 w))
  (HMe:∀w,EngAt w B P s1→Calls Tryz.prog 173 #[.pointer (some ⟨P.b,0,none⟩),EvS.val ⟨now,sd,si,sr,rt,sl,true,dl,ac,lo,fl⟩] w (EPost B P (.returned (.bool false)) s2 w))
  (HBe:∀w,EngAt w B P s2→Calls Tryz.prog 162 #[.pointer (some ⟨P.y,0,none⟩)] w fun e w'=>e=.returned (.int .u64 (best:Int))∧Below w.heap.size w w')
  (HPu:∀w,EngAt w B P s2→Calls Tryz.prog 175 #[.pointer (some ⟨P.p,0,none⟩),.int .u64 (best:Int),.bool false,.bool sl] w fun e w'=>e=(.returned (.tuple #[]))∧MutN w B P s4 w')
  (HSi:∀w,EngAt w B P s4→Calls Tryz.prog 179 #[.pointer (some ⟨P.b,0,none⟩),EvS.val ⟨now,sd,si,sr,rt,sl,true,dl,ac,lo,fl⟩,.bool false,.bool false] w fun e w'=>e=.returned (.agg sg)∧Below w.heap.size w w')
  (HNe:∀w,Calls Tryz.prog 178 #[.int .i64 s4.st,.agg sg] w fun e w'=>e=.returned (.int .i64 t)∧Below w.heap.size w w')
  (HTu:∀w,EngAt w B P s4→Calls Tryz.prog 177 #[.pointer (some ⟨P.b,0,none⟩),.int .u64 (now:Int),.int .i64 t] w (EPost B P (.returned (.tuple #[])) s6 w))
  (HPs:∀w,Calls Tryz.prog 180 #[.agg #[.int .u64 (s6.bs.hi:Int),.int .u64 (s6.bs.lo:Int),.int .u64 (s6.bs.bw:Int)],.int .u64 (ac:Int)] w fun e w'=>e=.returned (.agg #[.int .u64 (bs7.hi:Int),.int .u64 (bs7.lo:Int),.int .u64 (bs7.bw:Int)])∧Below w.heap.size w w')
  (HOp:∀w,EngAt w B P s7→Calls Tryz.prog 181 #[.pointer (some ⟨P.b,0,none⟩),.int .u64 (ac:Int)] w fun e w'=>e=.returned (.int .u64 (op:Int))∧Below w.heap.size w w')
  (zz:((s6.st == 5)=true∧s7={s6 with bs:=bs7})∨((s6.st == 5)=false∧s7=s6))
  :Calls Tryz.prog 107 #[.pointer (some ⟨P.b,0,none⟩),EvS.val ⟨now,sd,si,sr,rt,sl,true,dl,ac,lo,fl⟩] W (EPost B P (.returned (.tuple #[])) {s7 with cwnd:=op} W):=by
 have M0:=Lib.hid (MutI.start h ⟨now,sd,si,sr,rt,sl,true,dl,ac,lo,fl⟩)
 have HCo:=Lib.hid HCo
 have HMe:=Lib.hid HMe
 have HBe:=Lib.hid HBe
 have HPu:=Lib.hid HPu
 have HSi:=Lib.hid HSi
 have HNe:=Lib.hid HNe
 have HTu:=Lib.hid HTu
 have HPs:=Lib.hid HPs
 have HOp:=Lib.hid HOp
 have v0:=mu_ev (W:=W) (B:=B) (P:=P) (x:=⟨now,sd,si,sr,rt,sl,true,dl,ac,lo,fl⟩) (i:=0) (v:=.int .u64 (now:Int)) rfl
 have v1:=mu_ev (W:=W) (B:=B) (P:=P) (x:=⟨now,sd,si,sr,rt,sl,true,dl,ac,lo,fl⟩) (i:=1) (v:=.int .u64 (sd:Int)) rfl
 have v2:=mu_ev (W:=W) (B:=B) (P:=P) (x:=⟨now,sd,si,sr,rt,sl,true,dl,ac,lo,fl⟩) (i:=2) (v:=.int .u64 (si:Int)) rfl
 have v3:=mu_ev (W:=W) (B:=B) (P:=P) (x:=⟨now,sd,si,sr,rt,sl,true,dl,ac,lo,fl⟩) (i:=3) (v:=.int .u64 (sr:Int)) rfl
 have v4:=mu_ev (W:=W) (B:=B) (P:=P) (x:=⟨now,sd,si,sr,rt,sl,true,dl,ac,lo,fl⟩) (i:=4) (v:=.int .u64 (rt:Int)) rfl
 have v5:=mu_ev (W:=W) (B:=B) (P:=P) (x:=⟨now,sd,si,sr,rt,sl,true,dl,ac,lo,fl⟩) (i:=5) (v:=.bool sl) rfl
 have v6:=mu_ev (W:=W) (B:=B) (P:=P) (x:=⟨now,sd,si,sr,rt,sl,true,dl,ac,lo,fl⟩) (i:=6) (v:=.bool true) rfl
 have v7:=mu_ev (W:=W) (B:=B) (P:=P) (x:=⟨now,sd,si,sr,rt,sl,true,dl,ac,lo,fl⟩) (i:=7) (v:=.int .u64 (dl:Int)) rfl
 have v8:=mu_ev (W:=W) (B:=B) (P:=P) (x:=⟨now,sd,si,sr,rt,sl,true,dl,ac,lo,fl⟩) (i:=8) (v:=.int .u64 (ac:Int)) rfl
 have v9:=mu_ev (W:=W) (B:=B) (P:=P) (x:=⟨now,sd,si,sr,rt,sl,true,dl,ac,lo,fl⟩) (i:=9) (v:=.int .u64 (lo:Int)) rfl
 have v10:=mu_ev (W:=W) (B:=B) (P:=P) (x:=⟨now,sd,si,sr,rt,sl,true,dl,ac,lo,fl⟩) (i:=10) (v:=.int .u64 (fl:Int)) rfl
 have p6:=mu_p (W:=W) (B:=B) (P:=P) (x:=⟨now,sd,si,sr,rt,sl,true,dl,ac,lo,fl⟩) (i:=6) (v:=.pointer (some ⟨P.p,0,none⟩)) (fun _=>rfl)
 have p11:=mu_p (W:=W) (B:=B) (P:=P) (x:=⟨now,sd,si,sr,rt,sl,true,dl,ac,lo,fl⟩) (i:=11) (v:=.pointer (some ⟨P.y,0,none⟩)) (fun _=>rfl)
 clear h
 unfold EvS.val at HCo HMe HSi ⊢
 generalize hX:(EvS.mk now sd si sr rt sl true dl ac lo fl)=X at *
 have HE:Hid (X.cells=#[.int .u64 (now:Int),.int .u64 (sd:Int),.int .u64 (si:Int),.int .u64 (sr:Int),.int .u64 (rt:Int),.bool sl,.bool true,.int .u64 (dl:Int),.int .u64 (ac:Int),.int .u64 (lo:Int),.int .u64 (fl:Int)]):=Lib.hid (by rw [← hX];rfl)
 clear hX
 rw [HE.out] at M0 HCo HMe HSi ⊢
 go_enter Tryz.func107,Tryz.ntmps107
 go_wp2_with fail
 generalize W.alloc (.cells #[.int .u64 (now:Int),.int .u64 (sd:Int),.int .u64 (si:Int),.int .u64 (sr:Int),.int .u64 (rt:Int),.bool sl,.bool true,.int .u64 (dl:Int),.int .u64 (ac:Int),.int .u64 (lo:Int),.int .u64 (fl:Int)] 110)=w0 at *
 refine (HCo.out _ M0.out.at_).mono ?_
 rintro e w1 h1
 obtain rfl:=h1.e
 have M1:=Lib.hid (M0.out.step h1)
 have X1:=mu_of M1
 clear h1 M0 HCo
 go_wp2_with fail
 refine (HMe.out _ M1.out.at_).mono ?_
 rintro e w2 h1
 obtain rfl:=h1.e
 have M2:=Lib.hid (M1.out.step h1)
 have X2:=mu_of M2
 clear h1 M1 X1 HMe
 go_wp2_with fail
 have M4:=Lib.hid M2.out.drew
 have X4:=mu_of M4
 go_region_held3 (fun w'=>Hid (MutX W B P X w'))
  (first | with_reducible exact X4 | with_reducible exact X5 | with_reducible exact X6)
  (first
   | (go_at_call 162;(with_reducible refine (HBe.out _ M4.out.at_).mono ?_);rintro e w4 ⟨rfl,hb⟩;have M5:=Lib.hid (M4.out.to hb);have X5:=mu_of M5;clear hb)
   | (go_at_call 175;(with_reducible refine (HPu.out _ M5.out.at_).mono ?_);rintro e w5 ⟨rfl,hn⟩;have M6:=Lib.hid (MutN.mi M5.out hn);have X6:=mu_of M6;clear hn))
 clear M2 X2 M4 X4 M5 X5 HBe HPu
 go_wp2_with fail
 have M8:=Lib.hid M6.out.drew
 have X8:=mu_of M8
 have r13:=mu_e (W:=W) (B:=B) (P:=P) (s:=s4) (x:=X) (i:=13) (v:=.int .i64 s4.st) rfl
 clear M6 X6
 refine wp_region_held_drew (S:=(fun w'=>Hid (MutX W B P X w'))) (by kernel_rfl) X8 (fun hHeld=>?_)
 simp only [List.size_toArray,List.length_cons,List.length_nil,Nat.reduceAdd,Array.replicate_succ,Array.replicate_zero,List.push_toArray,List.nil_append,List.cons_append]
 refine wpAnyH_take (i:=0) (oi:=⟨some 39,_,_,_,_,_⟩) (v:=?v11) rfl (by kernel_rfl) (by kernel_rfl) (by kernel_rfl) (fun _ _ _ h=>h) (Or.inl ⟨by rfl,?y11⟩) (by assumption) ?r11
 case y11=>intro w hSw;clear hSw;go_simp;(try with_reducible rfl)
 simp only [Act.put,List.setIfInBounds_toArray,List.set_cons_zero,List.set_cons_succ]
 refine wpAnyH_take (i:=1) (oi:=⟨some 40,_,_,_,_,_⟩) (v:=?v12) rfl (by kernel_rfl) (by kernel_rfl) (by kernel_rfl) (fun _ _ _ h=>h) (Or.inl ⟨by rfl,?y12⟩) (by assumption) ?r12
 case y12=>intro w hSw;clear hSw;go_simp;(try with_reducible rfl)
 simp only [Act.put,List.setIfInBounds_toArray,List.set_cons_zero,List.set_cons_succ]
 refine wpAnyH_take (i:=2) (oi:=⟨some 41,_,_,_,_,_⟩) (v:=?v13) rfl (by kernel_rfl) (by kernel_rfl) (by kernel_rfl) (fun _ _ _ h=>h) (Or.inl ⟨by rfl,?y13⟩) (by assumption) ?r13
 case y13=>intro w hSw;skip;go_simp;(try with_reducible rfl)
 simp only [Act.put,List.setIfInBounds_toArray,List.set_cons_zero,List.set_cons_succ]
 refine wpAnyH_take (i:=3) (oi:=⟨some 42,_,_,_,_,_⟩) (v:=?v14) rfl (by kernel_rfl) (by kernel_rfl) (by kernel_rfl) (fun _ _ _ h=>h) (Or.inl ⟨by rfl,?y14⟩) (by assumption) ?r14
 case y14=>intro w hSw;clear hSw;go_simp;(try with_reducible rfl)
 simp only [Act.put,List.setIfInBounds_toArray,List.set_cons_zero,List.set_cons_succ]
 refine wpAnyH_take (i:=4) (oi:=⟨some 43,_,_,_,_,_⟩) (v:=?v15) rfl (by kernel_rfl) (by kernel_rfl) (by kernel_rfl) (fun _ _ _ h=>h) (Or.inl ⟨by rfl,?y15⟩) (by assumption) ?r15
 case y15=>intro w hSw;clear hSw;go_simp;(try with_reducible rfl)
 simp only [Act.put,List.setIfInBounds_toArray,List.set_cons_zero,List.set_cons_succ]
 refine wpAnyH_take (i:=5) (oi:=⟨some 44,_,_,_,_,_⟩) (v:=?v16) rfl (by kernel_rfl) (by kernel_rfl) (by kernel_rfl) (fun _ _ _ h=>h) (Or.inl ⟨by rfl,?y16⟩) (by assumption) ?r16
 case y16=>intro w hSw;clear hSw;go_simp;(try with_reducible rfl)
 simp only [Act.put,List.setIfInBounds_toArray,List.set_cons_zero,List.set_cons_succ]
 refine wpAnyH_take (i:=7) (oi:=⟨some 46,_,_,_,_,_⟩) (v:=?v17) rfl (by kernel_rfl) (by kernel_rfl) (by kernel_rfl) (fun _ _ _ h=>h) (Or.inl ⟨by rfl,?y17⟩) (by assumption) ?r17
 case y17=>intro w hSw;clear hSw;go_simp;(try with_reducible rfl)
 simp only [Act.put,List.setIfInBounds_toArray,List.set_cons_zero,List.set_cons_succ]
 refine wpAnyH_take (i:=8) (oi:=⟨some 47,_,_,_,_,_⟩) (v:=?v18) rfl (by kernel_rfl) (by kernel_rfl) (by kernel_rfl) (fun _ _ _ h=>h) (Or.inl ⟨by rfl,?y18⟩) (by assumption) ?r18
 case y18=>intro w hSw;skip;go_simp;(try with_reducible rfl)
 simp only [Act.put,List.setIfInBounds_toArray,List.set_cons_zero,List.set_cons_succ]
 refine wpAnyH_take (i:=9) (oi:=⟨some 48,_,_,_,_,_⟩) (v:=?v19) rfl (by kernel_rfl) (by kernel_rfl) (by kernel_rfl) (fun _ _ _ h=>h) (Or.inl ⟨by rfl,?y19⟩) (by assumption) ?r19
 case y19=>intro w hSw;clear hSw;go_simp;(try with_reducible rfl)
 simp only [Act.put,List.setIfInBounds_toArray,List.set_cons_zero,List.set_cons_succ]
 refine wpAnyH_take (i:=10) (oi:=⟨some 49,_,_,_,_,_⟩) (v:=?v20) rfl (by kernel_rfl) (by kernel_rfl) (by kernel_rfl) (fun _ _ _ h=>h) (Or.inl ⟨by rfl,?y20⟩) (by assumption) ?r20
 case y20=>intro w hSw;clear hSw;go_simp;(try with_reducible rfl)
 simp only [Act.put,List.setIfInBounds_toArray,List.set_cons_zero,List.set_cons_succ]
 refine wpAnyH_ready (rs:=[6,11]) (by kernel_rfl) (by simp) ?_
 refine AllReadyH.cons (o:=⟨some 45,_,_,_,_,_⟩) rfl (fun K hK=>?_) ?_
 ·go_simp
  refine hK.out _ _ hHeld (fun hHeld=>?_)
  clear hK
  try simp only [List.setIfInBounds_toArray,List.set_cons_zero,List.set_cons_succ]
  refine wpAnyH_ready (rs:=[11]) (by kernel_rfl) (by simp) ?_
  refine AllReadyH.cons (o:=⟨some 50,_,_,_,_,_⟩) rfl (fun K hK=>?_) AllReadyH.nil
  go_simp
  refine (HSi.out _ (Hid.out (by assumption):MutI W B P s4 X _).at_).mono ?_
  rintro e w7 ⟨rfl,hb⟩
  have M9:=Lib.hid ((Hid.out (by assumption):MutI W B P s4 X _).to hb)
  go_wp2_with fail
  refine hK.out _ _ (mu_of M9) (fun hHeld=>?_)
  clear hK
  try simp only [List.setIfInBounds_toArray,List.set_cons_zero,List.set_cons_succ]
  refine wpAnyH_ready (rs:=[12]) (by kernel_rfl) (by simp) ?_
  refine AllReadyH.cons (o:=⟨some 51,_,_,_,_,_⟩) rfl (fun K hK=>?_) AllReadyH.nil
  go_simp
  refine (HNe.out _).mono ?_
  rintro e w8 ⟨rfl,hb⟩
  have M10:=Lib.hid ((Hid.out (by assumption):MutI W B P s4 X _).to hb)
  go_wp2_with fail
  refine hK.out _ _ (mu_of M10) (fun hHeld=>?_)
  clear hK
  try simp only [List.setIfInBounds_toArray,List.set_cons_zero,List.set_cons_succ]
  refine wpAnyH_ready (rs:=[13]) (by kernel_rfl) (by simp) ?_
  refine AllReadyH.cons (o:=⟨some 52,_,_,_,_,_⟩) rfl (fun K hK=>?_) AllReadyH.nil
  go_simp
  refine (HTu.out _ (Hid.out (by assumption):MutI W B P s4 X _).at_).mono ?_
  rintro e w9 h1
  obtain rfl:=h1.e
  have M11:=Lib.hid ((Hid.out (by assumption):MutI W B P s4 X _).step h1)
  go_wp2_with fail
  refine hK.out _ _ (mu_of M11) (fun hHeld=>?_)
  clear hK
  try simp only [List.setIfInBounds_toArray,List.set_cons_zero,List.set_cons_succ]
  refine wpAnyH_done (by kernel_rfl) ?_ _
  have X11:=mu_of M11
  have c13:=M11.out.at_.e.cell (i:=13) (v:=.int .i64 s6.st) rfl
  rcases zz with ⟨z5,hz⟩ | ⟨z5,hz⟩
  ·subst hz
   have v7a:=M11.out.drew.at_.e.cell (i:=7) (v:=.int .u64 (s6.bs.hi:Int)) rfl
   go_wp2_with fail
   have M12:=Lib.hid M11.out.drew
   have X12:=mu_of M12
   have r7:=mu_e (W:=W) (B:=B) (P:=P) (s:=s6) (x:=X) (i:=7) (v:=.int .u64 (s6.bs.hi:Int)) rfl
   have r8:=mu_e (W:=W) (B:=B) (P:=P) (s:=s6) (x:=X) (i:=8) (v:=.int .u64 (s6.bs.lo:Int)) rfl
   have r9:=mu_e (W:=W) (B:=B) (P:=P) (s:=s6) (x:=X) (i:=9) (v:=.int .u64 (s6.bs.bw:Int)) rfl
   have f7:=mu_f (W:=W) (B:=B) (P:=P) (s:=s6) (x:=X) 7
   have f8:=mu_f (W:=W) (B:=B) (P:=P) (s:=s6) (x:=X) 8
   have f9:=mu_f (W:=W) (B:=B) (P:=P) (s:=s6) (x:=X) 9
   go_region_with (first
    | (go_at_call 180;(refine (HPs.out _).mono ?_);rintro e w10 ⟨rfl,hb⟩;have M13:=Lib.hid (M12.out.to hb);clear hb))
   all_goals
    have M16:=Lib.hid (((M13.out.set (s':={s6 with bs:=⟨bs7.hi,s6.bs.lo,s6.bs.bw⟩}) 7 (.int .u64 (bs7.hi:Int)) rfl rfl rfl rfl rfl).set (s':={s6 with bs:=⟨bs7.hi,bs7.lo,s6.bs.bw⟩}) 8 (.int .u64 (bs7.lo:Int)) rfl rfl rfl rfl rfl).set (s':={s6 with bs:=bs7}) 9 (.int .u64 (bs7.bw:Int)) rfl rfl rfl rfl rfl)
    have X16:=mu_of M16
    go_wp2_with fail
    refine (HOp.out _ M16.out.at_).mono ?_
    rintro e w12 ⟨rfl,hb⟩
    have M14:=Lib.hid (M16.out.to hb)
    have c18:=M14.out.at_.e.cell (i:=18) (v:=.int .u64 (s6.cwnd:Int)) rfl
    have y18:=M14.out.at_.e.free 18
    have M15:=Lib.hid (M14.out.set (s':={s6 with bs:=bs7,cwnd:=op}) 18 (.int .u64 (op:Int)) rfl rfl rfl rfl rfl)
    clear hb
    go_wp2_with fail
    go_end0
    exact M15.out.post
  ·subst hz
   go_wp2_with fail
   refine (HOp.out _ M11.out.at_).mono ?_
   rintro e w12 ⟨rfl,hb⟩
   have M14:=Lib.hid (M11.out.to hb)
   have c18:=M14.out.at_.e.cell (i:=18) (v:=.int .u64 (s7.cwnd:Int)) rfl
   have y18:=M14.out.at_.e.free 18
   have M15:=Lib.hid (M14.out.set (s':={s7 with cwnd:=op}) 18 (.int .u64 (op:Int)) rfl rfl rfl rfl rfl)
   clear hb
   go_wp2_with fail
   go_end0
   exact M15.out.post
 refine AllReadyH.cons (o:=⟨some 50,_,_,_,_,_⟩) rfl (fun K hK=>?_) AllReadyH.nil
 go_simp
 refine (HSi.out _ (Hid.out (by assumption):MutI W B P s4 X _).at_).mono ?_
 rintro e w7 ⟨rfl,hb⟩
 have M9:=Lib.hid ((Hid.out (by assumption):MutI W B P s4 X _).to hb)
 go_wp2_with fail
 refine hK.out _ _ (mu_of M9) (fun hHeld=>?_)
 clear hK
 try simp only [List.setIfInBounds_toArray,List.set_cons_zero,List.set_cons_succ]
 refine wpAnyH_ready (rs:=[6]) (by kernel_rfl) (by simp) ?_
 refine AllReadyH.cons (o:=⟨some 45,_,_,_,_,_⟩) rfl (fun K hK=>?_) AllReadyH.nil
 go_simp
 refine hK.out _ _ hHeld (fun hHeld=>?_)
 clear hK
 try simp only [List.setIfInBounds_toArray,List.set_cons_zero,List.set_cons_succ]
 refine wpAnyH_ready (rs:=[12]) (by kernel_rfl) (by simp) ?_
 refine AllReadyH.cons (o:=⟨some 51,_,_,_,_,_⟩) rfl (fun K hK=>?_) AllReadyH.nil
 go_simp
 refine (HNe.out _).mono ?_
 rintro e w8 ⟨rfl,hb⟩
 have M10:=Lib.hid ((Hid.out (by assumption):MutI W B P s4 X _).to hb)
 go_wp2_with fail
 refine hK.out _ _ (mu_of M10) (fun hHeld=>?_)
 clear hK
 try simp only [List.setIfInBounds_toArray,List.set_cons_zero,List.set_cons_succ]
 refine wpAnyH_ready (rs:=[13]) (by kernel_rfl) (by simp) ?_
 refine AllReadyH.cons (o:=⟨some 52,_,_,_,_,_⟩) rfl (fun K hK=>?_) AllReadyH.nil
 go_simp
 refine (HTu.out _ (Hid.out (by assumption):MutI W B P s4 X _).at_).mono ?_
 rintro e w9 h1
 obtain rfl:=h1.e
 have M11:=Lib.hid ((Hid.out (by assumption):MutI W B P s4 X _).step h1)
 go_wp2_with fail
 refine hK.out _ _ (mu_of M11) (fun hHeld=>?_)
 clear hK
 try simp only [List.setIfInBounds_toArray,List.set_cons_zero,List.set_cons_succ]
 refine wpAnyH_done (by kernel_rfl) ?_ _
 have X11:=mu_of M11
 have c13:=M11.out.at_.e.cell (i:=13) (v:=.int .i64 s6.st) rfl
 rcases zz with ⟨z5,hz⟩ | ⟨z5,hz⟩
 ·subst hz
  have v7a:=M11.out.drew.at_.e.cell (i:=7) (v:=.int .u64 (s6.bs.hi:Int)) rfl
  go_wp2_with fail
  have M12:=Lib.hid M11.out.drew
  have X12:=mu_of M12
  have r7:=mu_e (W:=W) (B:=B) (P:=P) (s:=s6) (x:=X) (i:=7) (v:=.int .u64 (s6.bs.hi:Int)) rfl
  have r8:=mu_e (W:=W) (B:=B) (P:=P) (s:=s6) (x:=X) (i:=8) (v:=.int .u64 (s6.bs.lo:Int)) rfl
  have r9:=mu_e (W:=W) (B:=B) (P:=P) (s:=s6) (x:=X) (i:=9) (v:=.int .u64 (s6.bs.bw:Int)) rfl
  have f7:=mu_f (W:=W) (B:=B) (P:=P) (s:=s6) (x:=X) 7
  have f8:=mu_f (W:=W) (B:=B) (P:=P) (s:=s6) (x:=X) 8
  have f9:=mu_f (W:=W) (B:=B) (P:=P) (s:=s6) (x:=X) 9
  go_region_with (first
   | (go_at_call 180;(refine (HPs.out _).mono ?_);rintro e w10 ⟨rfl,hb⟩;have M13:=Lib.hid (M12.out.to hb);clear hb))
  all_goals
   have M16:=Lib.hid (((M13.out.set (s':={s6 with bs:=⟨bs7.hi,s6.bs.lo,s6.bs.bw⟩}) 7 (.int .u64 (bs7.hi:Int)) rfl rfl rfl rfl rfl).set (s':={s6 with bs:=⟨bs7.hi,bs7.lo,s6.bs.bw⟩}) 8 (.int .u64 (bs7.lo:Int)) rfl rfl rfl rfl rfl).set (s':={s6 with bs:=bs7}) 9 (.int .u64 (bs7.bw:Int)) rfl rfl rfl rfl rfl)
   have X16:=mu_of M16
   go_wp2_with fail
   refine (HOp.out _ M16.out.at_).mono ?_
   rintro e w12 ⟨rfl,hb⟩
   have M14:=Lib.hid (M16.out.to hb)
   have c18:=M14.out.at_.e.cell (i:=18) (v:=.int .u64 (s6.cwnd:Int)) rfl
   have y18:=M14.out.at_.e.free 18
   have M15:=Lib.hid (M14.out.set (s':={s6 with bs:=bs7,cwnd:=op}) 18 (.int .u64 (op:Int)) rfl rfl rfl rfl rfl)
   clear hb
   go_wp2_with fail
   go_end0
   exact M15.out.post
 ·subst hz
  go_wp2_with fail
  refine (HOp.out _ M11.out.at_).mono ?_
  rintro e w12 ⟨rfl,hb⟩
  have M14:=Lib.hid (M11.out.to hb)
  have c18:=M14.out.at_.e.cell (i:=18) (v:=.int .u64 (s7.cwnd:Int)) rfl
  have y18:=M14.out.at_.e.free 18
  have M15:=Lib.hid (M14.out.set (s':={s7 with cwnd:=op}) 18 (.int .u64 (op:Int)) rfl rfl rfl rfl rfl)
  clear hb
  go_wp2_with fail
  go_end0
  exact M15.out.post
set_option maxHeartbeats 4000000 in
set_option maxRecDepth 100000 in
theorem en_On_tt {B:Nat} {P:EP} {s s1 s2 s3 s4 s5 s6 s7:ES} {now sd si sr rt dl ac lo fl best op:Nat} {sl:Bool} {sg:Array Value} {t:Int} {bs7:BS} (W:World) (h:EngAt W B P s)
  (HCo:∀w,EngAt w B P s→Calls Tryz.prog 172 #[.pointer (some ⟨P.b,0,none⟩),EvS.val ⟨now,sd,si,sr,rt,sl,true,dl,ac,lo,fl⟩] w (EPost B P (.returned (.tuple #[])) s1 w))
  (HMe:∀w,EngAt w B P s1→Calls Tryz.prog 173 #[.pointer (some ⟨P.b,0,none⟩),EvS.val ⟨now,sd,si,sr,rt,sl,true,dl,ac,lo,fl⟩] w (EPost B P (.returned (.bool true)) s2 w))
  (HSe:∀w,EngAt w B P s2→Calls Tryz.prog 174 #[.pointer (some ⟨P.b,0,none⟩)] w (EPost B P (.returned (.bool false)) s3 w))
  (HBe:∀w,EngAt w B P s3→Calls Tryz.prog 162 #[.pointer (some ⟨P.y,0,none⟩)] w fun e w'=>e=.returned (.int .u64 (best:Int))∧Below w.heap.size w w')
  (HPu:∀w,EngAt w B P s3→Calls Tryz.prog 175 #[.pointer (some ⟨P.p,0,none⟩),.int .u64 (best:Int),.bool true,.bool sl] w fun e w'=>e=(.returned (.tuple #[]))∧MutN w B P s4 w')
  (HSi:∀w,EngAt w B P s4→Calls Tryz.prog 179 #[.pointer (some ⟨P.b,0,none⟩),EvS.val ⟨now,sd,si,sr,rt,sl,true,dl,ac,lo,fl⟩,.bool true,.bool false] w fun e w'=>e=.returned (.agg sg)∧Below w.heap.size w w')
  (HNe:∀w,Calls Tryz.prog 178 #[.int .i64 s4.st,.agg sg] w fun e w'=>e=.returned (.int .i64 t)∧Below w.heap.size w w')
  (HTu:∀w,EngAt w B P s4→Calls Tryz.prog 177 #[.pointer (some ⟨P.b,0,none⟩),.int .u64 (now:Int),.int .i64 t] w (EPost B P (.returned (.tuple #[])) s6 w))
  (HPs:∀w,Calls Tryz.prog 180 #[.agg #[.int .u64 (s6.bs.hi:Int),.int .u64 (s6.bs.lo:Int),.int .u64 (s6.bs.bw:Int)],.int .u64 (ac:Int)] w fun e w'=>e=.returned (.agg #[.int .u64 (bs7.hi:Int),.int .u64 (bs7.lo:Int),.int .u64 (bs7.bw:Int)])∧Below w.heap.size w w')
  (HOp:∀w,EngAt w B P s7→Calls Tryz.prog 181 #[.pointer (some ⟨P.b,0,none⟩),.int .u64 (ac:Int)] w fun e w'=>e=.returned (.int .u64 (op:Int))∧Below w.heap.size w w')
  (zz:((s6.st == 5)=true∧s7={s6 with bs:=bs7})∨((s6.st == 5)=false∧s7=s6))
  :Calls Tryz.prog 107 #[.pointer (some ⟨P.b,0,none⟩),EvS.val ⟨now,sd,si,sr,rt,sl,true,dl,ac,lo,fl⟩] W (EPost B P (.returned (.tuple #[])) {s7 with cwnd:=op} W):=by
 have M0:=Lib.hid (MutI.start h ⟨now,sd,si,sr,rt,sl,true,dl,ac,lo,fl⟩)
 have HCo:=Lib.hid HCo
 have HMe:=Lib.hid HMe
 have HSe:=Lib.hid HSe
 have HBe:=Lib.hid HBe
 have HPu:=Lib.hid HPu
 have HSi:=Lib.hid HSi
 have HNe:=Lib.hid HNe
 have HTu:=Lib.hid HTu
 have HPs:=Lib.hid HPs
 have HOp:=Lib.hid HOp
 have v0:=mu_ev (W:=W) (B:=B) (P:=P) (x:=⟨now,sd,si,sr,rt,sl,true,dl,ac,lo,fl⟩) (i:=0) (v:=.int .u64 (now:Int)) rfl
 have v1:=mu_ev (W:=W) (B:=B) (P:=P) (x:=⟨now,sd,si,sr,rt,sl,true,dl,ac,lo,fl⟩) (i:=1) (v:=.int .u64 (sd:Int)) rfl
 have v2:=mu_ev (W:=W) (B:=B) (P:=P) (x:=⟨now,sd,si,sr,rt,sl,true,dl,ac,lo,fl⟩) (i:=2) (v:=.int .u64 (si:Int)) rfl
 have v3:=mu_ev (W:=W) (B:=B) (P:=P) (x:=⟨now,sd,si,sr,rt,sl,true,dl,ac,lo,fl⟩) (i:=3) (v:=.int .u64 (sr:Int)) rfl
 have v4:=mu_ev (W:=W) (B:=B) (P:=P) (x:=⟨now,sd,si,sr,rt,sl,true,dl,ac,lo,fl⟩) (i:=4) (v:=.int .u64 (rt:Int)) rfl
 have v5:=mu_ev (W:=W) (B:=B) (P:=P) (x:=⟨now,sd,si,sr,rt,sl,true,dl,ac,lo,fl⟩) (i:=5) (v:=.bool sl) rfl
 have v6:=mu_ev (W:=W) (B:=B) (P:=P) (x:=⟨now,sd,si,sr,rt,sl,true,dl,ac,lo,fl⟩) (i:=6) (v:=.bool true) rfl
 have v7:=mu_ev (W:=W) (B:=B) (P:=P) (x:=⟨now,sd,si,sr,rt,sl,true,dl,ac,lo,fl⟩) (i:=7) (v:=.int .u64 (dl:Int)) rfl
 have v8:=mu_ev (W:=W) (B:=B) (P:=P) (x:=⟨now,sd,si,sr,rt,sl,true,dl,ac,lo,fl⟩) (i:=8) (v:=.int .u64 (ac:Int)) rfl
 have v9:=mu_ev (W:=W) (B:=B) (P:=P) (x:=⟨now,sd,si,sr,rt,sl,true,dl,ac,lo,fl⟩) (i:=9) (v:=.int .u64 (lo:Int)) rfl
 have v10:=mu_ev (W:=W) (B:=B) (P:=P) (x:=⟨now,sd,si,sr,rt,sl,true,dl,ac,lo,fl⟩) (i:=10) (v:=.int .u64 (fl:Int)) rfl
 have p6:=mu_p (W:=W) (B:=B) (P:=P) (x:=⟨now,sd,si,sr,rt,sl,true,dl,ac,lo,fl⟩) (i:=6) (v:=.pointer (some ⟨P.p,0,none⟩)) (fun _=>rfl)
 have p11:=mu_p (W:=W) (B:=B) (P:=P) (x:=⟨now,sd,si,sr,rt,sl,true,dl,ac,lo,fl⟩) (i:=11) (v:=.pointer (some ⟨P.y,0,none⟩)) (fun _=>rfl)
 clear h
 unfold EvS.val at HCo HMe HSi ⊢
 generalize hX:(EvS.mk now sd si sr rt sl true dl ac lo fl)=X at *
 have HE:Hid (X.cells=#[.int .u64 (now:Int),.int .u64 (sd:Int),.int .u64 (si:Int),.int .u64 (sr:Int),.int .u64 (rt:Int),.bool sl,.bool true,.int .u64 (dl:Int),.int .u64 (ac:Int),.int .u64 (lo:Int),.int .u64 (fl:Int)]):=Lib.hid (by rw [← hX];rfl)
 clear hX
 rw [HE.out] at M0 HCo HMe HSi ⊢
 go_enter Tryz.func107,Tryz.ntmps107
 go_wp2_with fail
 generalize W.alloc (.cells #[.int .u64 (now:Int),.int .u64 (sd:Int),.int .u64 (si:Int),.int .u64 (sr:Int),.int .u64 (rt:Int),.bool sl,.bool true,.int .u64 (dl:Int),.int .u64 (ac:Int),.int .u64 (lo:Int),.int .u64 (fl:Int)] 110)=w0 at *
 refine (HCo.out _ M0.out.at_).mono ?_
 rintro e w1 h1
 obtain rfl:=h1.e
 have M1:=Lib.hid (M0.out.step h1)
 have X1:=mu_of M1
 clear h1 M0 HCo
 go_wp2_with fail
 refine (HMe.out _ M1.out.at_).mono ?_
 rintro e w2 h1
 obtain rfl:=h1.e
 have M2:=Lib.hid (M1.out.step h1)
 have X2:=mu_of M2
 clear h1 M1 X1 HMe
 go_wp2_with fail
 refine (HSe.out _ M2.out.at_).mono ?_
 rintro e w3 h1
 obtain rfl:=h1.e
 have M3:=Lib.hid (M2.out.step h1)
 have X3:=mu_of M3
 clear h1 M2 X2 HSe
 go_wp2_with fail
 have M4:=Lib.hid M3.out.drew
 have X4:=mu_of M4
 go_region_held3 (fun w'=>Hid (MutX W B P X w'))
  (first | with_reducible exact X4 | with_reducible exact X5 | with_reducible exact X6)
  (first
   | (go_at_call 162;(with_reducible refine (HBe.out _ M4.out.at_).mono ?_);rintro e w4 ⟨rfl,hb⟩;have M5:=Lib.hid (M4.out.to hb);have X5:=mu_of M5;clear hb)
   | (go_at_call 175;(with_reducible refine (HPu.out _ M5.out.at_).mono ?_);rintro e w5 ⟨rfl,hn⟩;have M6:=Lib.hid (MutN.mi M5.out hn);have X6:=mu_of M6;clear hn))
 clear M3 X3 M4 X4 M5 X5 HBe HPu
 go_wp2_with fail
 have M8:=Lib.hid M6.out.drew
 have X8:=mu_of M8
 have r13:=mu_e (W:=W) (B:=B) (P:=P) (s:=s4) (x:=X) (i:=13) (v:=.int .i64 s4.st) rfl
 clear M6 X6
 refine wp_region_held_drew (S:=(fun w'=>Hid (MutX W B P X w'))) (by kernel_rfl) X8 (fun hHeld=>?_)
 simp only [List.size_toArray,List.length_cons,List.length_nil,Nat.reduceAdd,Array.replicate_succ,Array.replicate_zero,List.push_toArray,List.nil_append,List.cons_append]
 refine wpAnyH_take (i:=0) (oi:=⟨some 39,_,_,_,_,_⟩) (v:=?v21) rfl (by kernel_rfl) (by kernel_rfl) (by kernel_rfl) (fun _ _ _ h=>h) (Or.inl ⟨by rfl,?y21⟩) (by assumption) ?r21
 case y21=>intro w hSw;clear hSw;go_simp;(try with_reducible rfl)
 simp only [Act.put,List.setIfInBounds_toArray,List.set_cons_zero,List.set_cons_succ]
 refine wpAnyH_take (i:=1) (oi:=⟨some 40,_,_,_,_,_⟩) (v:=?v22) rfl (by kernel_rfl) (by kernel_rfl) (by kernel_rfl) (fun _ _ _ h=>h) (Or.inl ⟨by rfl,?y22⟩) (by assumption) ?r22
 case y22=>intro w hSw;clear hSw;go_simp;(try with_reducible rfl)
 simp only [Act.put,List.setIfInBounds_toArray,List.set_cons_zero,List.set_cons_succ]
 refine wpAnyH_take (i:=2) (oi:=⟨some 41,_,_,_,_,_⟩) (v:=?v23) rfl (by kernel_rfl) (by kernel_rfl) (by kernel_rfl) (fun _ _ _ h=>h) (Or.inl ⟨by rfl,?y23⟩) (by assumption) ?r23
 case y23=>intro w hSw;skip;go_simp;(try with_reducible rfl)
 simp only [Act.put,List.setIfInBounds_toArray,List.set_cons_zero,List.set_cons_succ]
 refine wpAnyH_take (i:=3) (oi:=⟨some 42,_,_,_,_,_⟩) (v:=?v24) rfl (by kernel_rfl) (by kernel_rfl) (by kernel_rfl) (fun _ _ _ h=>h) (Or.inl ⟨by rfl,?y24⟩) (by assumption) ?r24
 case y24=>intro w hSw;clear hSw;go_simp;(try with_reducible rfl)
 simp only [Act.put,List.setIfInBounds_toArray,List.set_cons_zero,List.set_cons_succ]
 refine wpAnyH_take (i:=4) (oi:=⟨some 43,_,_,_,_,_⟩) (v:=?v25) rfl (by kernel_rfl) (by kernel_rfl) (by kernel_rfl) (fun _ _ _ h=>h) (Or.inl ⟨by rfl,?y25⟩) (by assumption) ?r25
 case y25=>intro w hSw;clear hSw;go_simp;(try with_reducible rfl)
 simp only [Act.put,List.setIfInBounds_toArray,List.set_cons_zero,List.set_cons_succ]
 refine wpAnyH_take (i:=5) (oi:=⟨some 44,_,_,_,_,_⟩) (v:=?v26) rfl (by kernel_rfl) (by kernel_rfl) (by kernel_rfl) (fun _ _ _ h=>h) (Or.inl ⟨by rfl,?y26⟩) (by assumption) ?r26
 case y26=>intro w hSw;clear hSw;go_simp;(try with_reducible rfl)
 simp only [Act.put,List.setIfInBounds_toArray,List.set_cons_zero,List.set_cons_succ]
 refine wpAnyH_take (i:=7) (oi:=⟨some 46,_,_,_,_,_⟩) (v:=?v27) rfl (by kernel_rfl) (by kernel_rfl) (by kernel_rfl) (fun _ _ _ h=>h) (Or.inl ⟨by rfl,?y27⟩) (by assumption) ?r27
 case y27=>intro w hSw;clear hSw;go_simp;(try with_reducible rfl)
 simp only [Act.put,List.setIfInBounds_toArray,List.set_cons_zero,List.set_cons_succ]
 refine wpAnyH_take (i:=8) (oi:=⟨some 47,_,_,_,_,_⟩) (v:=?v28) rfl (by kernel_rfl) (by kernel_rfl) (by kernel_rfl) (fun _ _ _ h=>h) (Or.inl ⟨by rfl,?y28⟩) (by assumption) ?r28
 case y28=>intro w hSw;skip;go_simp;(try with_reducible rfl)
 simp only [Act.put,List.setIfInBounds_toArray,List.set_cons_zero,List.set_cons_succ]
 refine wpAnyH_take (i:=9) (oi:=⟨some 48,_,_,_,_,_⟩) (v:=?v29) rfl (by kernel_rfl) (by kernel_rfl) (by kernel_rfl) (fun _ _ _ h=>h) (Or.inl ⟨by rfl,?y29⟩) (by assumption) ?r29
 case y29=>intro w hSw;clear hSw;go_simp;(try with_reducible rfl)
 simp only [Act.put,List.setIfInBounds_toArray,List.set_cons_zero,List.set_cons_succ]
 refine wpAnyH_take (i:=10) (oi:=⟨some 49,_,_,_,_,_⟩) (v:=?v30) rfl (by kernel_rfl) (by kernel_rfl) (by kernel_rfl) (fun _ _ _ h=>h) (Or.inl ⟨by rfl,?y30⟩) (by assumption) ?r30
 case y30=>intro w hSw;clear hSw;go_simp;(try with_reducible rfl)
 simp only [Act.put,List.setIfInBounds_toArray,List.set_cons_zero,List.set_cons_succ]
 refine wpAnyH_ready (rs:=[6,11]) (by kernel_rfl) (by simp) ?_
 refine AllReadyH.cons (o:=⟨some 45,_,_,_,_,_⟩) rfl (fun K hK=>?_) ?_
 ·go_simp
  refine hK.out _ _ hHeld (fun hHeld=>?_)
  clear hK
  try simp only [List.setIfInBounds_toArray,List.set_cons_zero,List.set_cons_succ]
  refine wpAnyH_ready (rs:=[11]) (by kernel_rfl) (by simp) ?_
  refine AllReadyH.cons (o:=⟨some 50,_,_,_,_,_⟩) rfl (fun K hK=>?_) AllReadyH.nil
  go_simp
  refine (HSi.out _ (Hid.out (by assumption):MutI W B P s4 X _).at_).mono ?_
  rintro e w7 ⟨rfl,hb⟩
  have M9:=Lib.hid ((Hid.out (by assumption):MutI W B P s4 X _).to hb)
  go_wp2_with fail
  refine hK.out _ _ (mu_of M9) (fun hHeld=>?_)
  clear hK
  try simp only [List.setIfInBounds_toArray,List.set_cons_zero,List.set_cons_succ]
  refine wpAnyH_ready (rs:=[12]) (by kernel_rfl) (by simp) ?_
  refine AllReadyH.cons (o:=⟨some 51,_,_,_,_,_⟩) rfl (fun K hK=>?_) AllReadyH.nil
  go_simp
  refine (HNe.out _).mono ?_
  rintro e w8 ⟨rfl,hb⟩
  have M10:=Lib.hid ((Hid.out (by assumption):MutI W B P s4 X _).to hb)
  go_wp2_with fail
  refine hK.out _ _ (mu_of M10) (fun hHeld=>?_)
  clear hK
  try simp only [List.setIfInBounds_toArray,List.set_cons_zero,List.set_cons_succ]
  refine wpAnyH_ready (rs:=[13]) (by kernel_rfl) (by simp) ?_
  refine AllReadyH.cons (o:=⟨some 52,_,_,_,_,_⟩) rfl (fun K hK=>?_) AllReadyH.nil
  go_simp
  refine (HTu.out _ (Hid.out (by assumption):MutI W B P s4 X _).at_).mono ?_
  rintro e w9 h1
  obtain rfl:=h1.e
  have M11:=Lib.hid ((Hid.out (by assumption):MutI W B P s4 X _).step h1)
  go_wp2_with fail
  refine hK.out _ _ (mu_of M11) (fun hHeld=>?_)
  clear hK
  try simp only [List.setIfInBounds_toArray,List.set_cons_zero,List.set_cons_succ]
  refine wpAnyH_done (by kernel_rfl) ?_ _
  have X11:=mu_of M11
  have c13:=M11.out.at_.e.cell (i:=13) (v:=.int .i64 s6.st) rfl
  rcases zz with ⟨z5,hz⟩ | ⟨z5,hz⟩
  ·subst hz
   have v7a:=M11.out.drew.at_.e.cell (i:=7) (v:=.int .u64 (s6.bs.hi:Int)) rfl
   go_wp2_with fail
   have M12:=Lib.hid M11.out.drew
   have X12:=mu_of M12
   have r7:=mu_e (W:=W) (B:=B) (P:=P) (s:=s6) (x:=X) (i:=7) (v:=.int .u64 (s6.bs.hi:Int)) rfl
   have r8:=mu_e (W:=W) (B:=B) (P:=P) (s:=s6) (x:=X) (i:=8) (v:=.int .u64 (s6.bs.lo:Int)) rfl
   have r9:=mu_e (W:=W) (B:=B) (P:=P) (s:=s6) (x:=X) (i:=9) (v:=.int .u64 (s6.bs.bw:Int)) rfl
   have f7:=mu_f (W:=W) (B:=B) (P:=P) (s:=s6) (x:=X) 7
   have f8:=mu_f (W:=W) (B:=B) (P:=P) (s:=s6) (x:=X) 8
   have f9:=mu_f (W:=W) (B:=B) (P:=P) (s:=s6) (x:=X) 9
   go_region_with (first
    | (go_at_call 180;(refine (HPs.out _).mono ?_);rintro e w10 ⟨rfl,hb⟩;have M13:=Lib.hid (M12.out.to hb);clear hb))
   all_goals
    have M16:=Lib.hid (((M13.out.set (s':={s6 with bs:=⟨bs7.hi,s6.bs.lo,s6.bs.bw⟩}) 7 (.int .u64 (bs7.hi:Int)) rfl rfl rfl rfl rfl).set (s':={s6 with bs:=⟨bs7.hi,bs7.lo,s6.bs.bw⟩}) 8 (.int .u64 (bs7.lo:Int)) rfl rfl rfl rfl rfl).set (s':={s6 with bs:=bs7}) 9 (.int .u64 (bs7.bw:Int)) rfl rfl rfl rfl rfl)
    have X16:=mu_of M16
    go_wp2_with fail
    refine (HOp.out _ M16.out.at_).mono ?_
    rintro e w12 ⟨rfl,hb⟩
    have M14:=Lib.hid (M16.out.to hb)
    have c18:=M14.out.at_.e.cell (i:=18) (v:=.int .u64 (s6.cwnd:Int)) rfl
    have y18:=M14.out.at_.e.free 18
    have M15:=Lib.hid (M14.out.set (s':={s6 with bs:=bs7,cwnd:=op}) 18 (.int .u64 (op:Int)) rfl rfl rfl rfl rfl)
    clear hb
    go_wp2_with fail
    go_end0
    exact M15.out.post
  ·subst hz
   go_wp2_with fail
   refine (HOp.out _ M11.out.at_).mono ?_
   rintro e w12 ⟨rfl,hb⟩
   have M14:=Lib.hid (M11.out.to hb)
   have c18:=M14.out.at_.e.cell (i:=18) (v:=.int .u64 (s7.cwnd:Int)) rfl
   have y18:=M14.out.at_.e.free 18
   have M15:=Lib.hid (M14.out.set (s':={s7 with cwnd:=op}) 18 (.int .u64 (op:Int)) rfl rfl rfl rfl rfl)
   clear hb
   go_wp2_with fail
   go_end0
   exact M15.out.post
 refine AllReadyH.cons (o:=⟨some 50,_,_,_,_,_⟩) rfl (fun K hK=>?_) AllReadyH.nil
 go_simp
 refine (HSi.out _ (Hid.out (by assumption):MutI W B P s4 X _).at_).mono ?_
 rintro e w7 ⟨rfl,hb⟩
 have M9:=Lib.hid ((Hid.out (by assumption):MutI W B P s4 X _).to hb)
 go_wp2_with fail
 refine hK.out _ _ (mu_of M9) (fun hHeld=>?_)
 clear hK
 try simp only [List.setIfInBounds_toArray,List.set_cons_zero,List.set_cons_succ]
 refine wpAnyH_ready (rs:=[6]) (by kernel_rfl) (by simp) ?_
 refine AllReadyH.cons (o:=⟨some 45,_,_,_,_,_⟩) rfl (fun K hK=>?_) AllReadyH.nil
 go_simp
 refine hK.out _ _ hHeld (fun hHeld=>?_)
 clear hK
 try simp only [List.setIfInBounds_toArray,List.set_cons_zero,List.set_cons_succ]
 refine wpAnyH_ready (rs:=[12]) (by kernel_rfl) (by simp) ?_
 refine AllReadyH.cons (o:=⟨some 51,_,_,_,_,_⟩) rfl (fun K hK=>?_) AllReadyH.nil
 go_simp
 refine (HNe.out _).mono ?_
 rintro e w8 ⟨rfl,hb⟩
 have M10:=Lib.hid ((Hid.out (by assumption):MutI W B P s4 X _).to hb)
 go_wp2_with fail
 refine hK.out _ _ (mu_of M10) (fun hHeld=>?_)
 clear hK
 try simp only [List.setIfInBounds_toArray,List.set_cons_zero,List.set_cons_succ]
 refine wpAnyH_ready (rs:=[13]) (by kernel_rfl) (by simp) ?_
 refine AllReadyH.cons (o:=⟨some 52,_,_,_,_,_⟩) rfl (fun K hK=>?_) AllReadyH.nil
 go_simp
 refine (HTu.out _ (Hid.out (by assumption):MutI W B P s4 X _).at_).mono ?_
 rintro e w9 h1
 obtain rfl:=h1.e
 have M11:=Lib.hid ((Hid.out (by assumption):MutI W B P s4 X _).step h1)
 go_wp2_with fail
 refine hK.out _ _ (mu_of M11) (fun hHeld=>?_)
 clear hK
 try simp only [List.setIfInBounds_toArray,List.set_cons_zero,List.set_cons_succ]
 refine wpAnyH_done (by kernel_rfl) ?_ _
 have X11:=mu_of M11
 have c13:=M11.out.at_.e.cell (i:=13) (v:=.int .i64 s6.st) rfl
 rcases zz with ⟨z5,hz⟩ | ⟨z5,hz⟩
 ·subst hz
  have v7a:=M11.out.drew.at_.e.cell (i:=7) (v:=.int .u64 (s6.bs.hi:Int)) rfl
  go_wp2_with fail
  have M12:=Lib.hid M11.out.drew
  have X12:=mu_of M12
  have r7:=mu_e (W:=W) (B:=B) (P:=P) (s:=s6) (x:=X) (i:=7) (v:=.int .u64 (s6.bs.hi:Int)) rfl
  have r8:=mu_e (W:=W) (B:=B) (P:=P) (s:=s6) (x:=X) (i:=8) (v:=.int .u64 (s6.bs.lo:Int)) rfl
  have r9:=mu_e (W:=W) (B:=B) (P:=P) (s:=s6) (x:=X) (i:=9) (v:=.int .u64 (s6.bs.bw:Int)) rfl
  have f7:=mu_f (W:=W) (B:=B) (P:=P) (s:=s6) (x:=X) 7
  have f8:=mu_f (W:=W) (B:=B) (P:=P) (s:=s6) (x:=X) 8
  have f9:=mu_f (W:=W) (B:=B) (P:=P) (s:=s6) (x:=X) 9
  go_region_with (first
   | (go_at_call 180;(refine (HPs.out _).mono ?_);rintro e w10 ⟨rfl,hb⟩;have M13:=Lib.hid (M12.out.to hb);clear hb))
  all_goals
   have M16:=Lib.hid (((M13.out.set (s':={s6 with bs:=⟨bs7.hi,s6.bs.lo,s6.bs.bw⟩}) 7 (.int .u64 (bs7.hi:Int)) rfl rfl rfl rfl rfl).set (s':={s6 with bs:=⟨bs7.hi,bs7.lo,s6.bs.bw⟩}) 8 (.int .u64 (bs7.lo:Int)) rfl rfl rfl rfl rfl).set (s':={s6 with bs:=bs7}) 9 (.int .u64 (bs7.bw:Int)) rfl rfl rfl rfl rfl)
   have X16:=mu_of M16
   go_wp2_with fail
   refine (HOp.out _ M16.out.at_).mono ?_
   rintro e w12 ⟨rfl,hb⟩
   have M14:=Lib.hid (M16.out.to hb)
   have c18:=M14.out.at_.e.cell (i:=18) (v:=.int .u64 (s6.cwnd:Int)) rfl
   have y18:=M14.out.at_.e.free 18
   have M15:=Lib.hid (M14.out.set (s':={s6 with bs:=bs7,cwnd:=op}) 18 (.int .u64 (op:Int)) rfl rfl rfl rfl rfl)
   clear hb
   go_wp2_with fail
   go_end0
   exact M15.out.post
 ·subst hz
  go_wp2_with fail
  refine (HOp.out _ M11.out.at_).mono ?_
  rintro e w12 ⟨rfl,hb⟩
  have M14:=Lib.hid (M11.out.to hb)
  have c18:=M14.out.at_.e.cell (i:=18) (v:=.int .u64 (s7.cwnd:Int)) rfl
  have y18:=M14.out.at_.e.free 18
  have M15:=Lib.hid (M14.out.set (s':={s7 with cwnd:=op}) 18 (.int .u64 (op:Int)) rfl rfl rfl rfl rfl)
  clear hb
  go_wp2_with fail
  go_end0
  exact M15.out.post
set_option maxHeartbeats 4000000 in
set_option maxRecDepth 100000 in
theorem en_On_ttt {B:Nat} {P:EP} {s s1 s2 s3 s4 s5 s6 s7:ES} {now sd si sr rt dl ac lo fl best op:Nat} {sl:Bool} {sg:Array Value} {t:Int} {bs7:BS} (W:World) (h:EngAt W B P s)
  (HCo:∀w,EngAt w B P s→Calls Tryz.prog 172 #[.pointer (some ⟨P.b,0,none⟩),EvS.val ⟨now,sd,si,sr,rt,sl,true,dl,ac,lo,fl⟩] w (EPost B P (.returned (.tuple #[])) s1 w))
  (HMe:∀w,EngAt w B P s1→Calls Tryz.prog 173 #[.pointer (some ⟨P.b,0,none⟩),EvS.val ⟨now,sd,si,sr,rt,sl,true,dl,ac,lo,fl⟩] w (EPost B P (.returned (.bool true)) s2 w))
  (HSe:∀w,EngAt w B P s2→Calls Tryz.prog 174 #[.pointer (some ⟨P.b,0,none⟩)] w (EPost B P (.returned (.bool true)) s3 w))
  (HBe:∀w,EngAt w B P s3→Calls Tryz.prog 162 #[.pointer (some ⟨P.y,0,none⟩)] w fun e w'=>e=.returned (.int .u64 (best:Int))∧Below w.heap.size w w')
  (HPu:∀w,EngAt w B P s3→Calls Tryz.prog 175 #[.pointer (some ⟨P.p,0,none⟩),.int .u64 (best:Int),.bool true,.bool sl] w fun e w'=>e=(.returned (.tuple #[]))∧MutN w B P s4 w')
  (HYi:∀w,EngAt w B P s4→Calls Tryz.prog 176 #[.pointer (some ⟨P.b,0,none⟩),EvS.val ⟨now,sd,si,sr,rt,sl,true,dl,ac,lo,fl⟩] w (EPost B P (.returned (.tuple #[])) s5 w))
  (HSi:∀w,EngAt w B P s5→Calls Tryz.prog 179 #[.pointer (some ⟨P.b,0,none⟩),EvS.val ⟨now,sd,si,sr,rt,sl,true,dl,ac,lo,fl⟩,.bool true,.bool true] w fun e w'=>e=.returned (.agg sg)∧Below w.heap.size w w')
  (HNe:∀w,Calls Tryz.prog 178 #[.int .i64 s5.st,.agg sg] w fun e w'=>e=.returned (.int .i64 t)∧Below w.heap.size w w')
  (HTu:∀w,EngAt w B P s5→Calls Tryz.prog 177 #[.pointer (some ⟨P.b,0,none⟩),.int .u64 (now:Int),.int .i64 t] w (EPost B P (.returned (.tuple #[])) s6 w))
  (HPs:∀w,Calls Tryz.prog 180 #[.agg #[.int .u64 (s6.bs.hi:Int),.int .u64 (s6.bs.lo:Int),.int .u64 (s6.bs.bw:Int)],.int .u64 (ac:Int)] w fun e w'=>e=.returned (.agg #[.int .u64 (bs7.hi:Int),.int .u64 (bs7.lo:Int),.int .u64 (bs7.bw:Int)])∧Below w.heap.size w w')
  (HOp:∀w,EngAt w B P s7→Calls Tryz.prog 181 #[.pointer (some ⟨P.b,0,none⟩),.int .u64 (ac:Int)] w fun e w'=>e=.returned (.int .u64 (op:Int))∧Below w.heap.size w w')
  (zz:((s6.st == 5)=true∧s7=s6)∨((s6.st == 5)=false∧s7=s6))
  :Calls Tryz.prog 107 #[.pointer (some ⟨P.b,0,none⟩),EvS.val ⟨now,sd,si,sr,rt,sl,true,dl,ac,lo,fl⟩] W (EPost B P (.returned (.tuple #[])) {s7 with cwnd:=op} W):=by
 have M0:=Lib.hid (MutI.start h ⟨now,sd,si,sr,rt,sl,true,dl,ac,lo,fl⟩)
 have HCo:=Lib.hid HCo
 have HMe:=Lib.hid HMe
 have HSe:=Lib.hid HSe
 have HBe:=Lib.hid HBe
 have HPu:=Lib.hid HPu
 have HYi:=Lib.hid HYi
 have HSi:=Lib.hid HSi
 have HNe:=Lib.hid HNe
 have HTu:=Lib.hid HTu
 have HPs:=Lib.hid HPs
 have HOp:=Lib.hid HOp
 have v0:=mu_ev (W:=W) (B:=B) (P:=P) (x:=⟨now,sd,si,sr,rt,sl,true,dl,ac,lo,fl⟩) (i:=0) (v:=.int .u64 (now:Int)) rfl
 have v1:=mu_ev (W:=W) (B:=B) (P:=P) (x:=⟨now,sd,si,sr,rt,sl,true,dl,ac,lo,fl⟩) (i:=1) (v:=.int .u64 (sd:Int)) rfl
 have v2:=mu_ev (W:=W) (B:=B) (P:=P) (x:=⟨now,sd,si,sr,rt,sl,true,dl,ac,lo,fl⟩) (i:=2) (v:=.int .u64 (si:Int)) rfl
 have v3:=mu_ev (W:=W) (B:=B) (P:=P) (x:=⟨now,sd,si,sr,rt,sl,true,dl,ac,lo,fl⟩) (i:=3) (v:=.int .u64 (sr:Int)) rfl
 have v4:=mu_ev (W:=W) (B:=B) (P:=P) (x:=⟨now,sd,si,sr,rt,sl,true,dl,ac,lo,fl⟩) (i:=4) (v:=.int .u64 (rt:Int)) rfl
 have v5:=mu_ev (W:=W) (B:=B) (P:=P) (x:=⟨now,sd,si,sr,rt,sl,true,dl,ac,lo,fl⟩) (i:=5) (v:=.bool sl) rfl
 have v6:=mu_ev (W:=W) (B:=B) (P:=P) (x:=⟨now,sd,si,sr,rt,sl,true,dl,ac,lo,fl⟩) (i:=6) (v:=.bool true) rfl
 have v7:=mu_ev (W:=W) (B:=B) (P:=P) (x:=⟨now,sd,si,sr,rt,sl,true,dl,ac,lo,fl⟩) (i:=7) (v:=.int .u64 (dl:Int)) rfl
 have v8:=mu_ev (W:=W) (B:=B) (P:=P) (x:=⟨now,sd,si,sr,rt,sl,true,dl,ac,lo,fl⟩) (i:=8) (v:=.int .u64 (ac:Int)) rfl
 have v9:=mu_ev (W:=W) (B:=B) (P:=P) (x:=⟨now,sd,si,sr,rt,sl,true,dl,ac,lo,fl⟩) (i:=9) (v:=.int .u64 (lo:Int)) rfl
 have v10:=mu_ev (W:=W) (B:=B) (P:=P) (x:=⟨now,sd,si,sr,rt,sl,true,dl,ac,lo,fl⟩) (i:=10) (v:=.int .u64 (fl:Int)) rfl
 have p6:=mu_p (W:=W) (B:=B) (P:=P) (x:=⟨now,sd,si,sr,rt,sl,true,dl,ac,lo,fl⟩) (i:=6) (v:=.pointer (some ⟨P.p,0,none⟩)) (fun _=>rfl)
 have p11:=mu_p (W:=W) (B:=B) (P:=P) (x:=⟨now,sd,si,sr,rt,sl,true,dl,ac,lo,fl⟩) (i:=11) (v:=.pointer (some ⟨P.y,0,none⟩)) (fun _=>rfl)
 clear h
 unfold EvS.val at HCo HMe HSi HYi ⊢
 generalize hX:(EvS.mk now sd si sr rt sl true dl ac lo fl)=X at *
 have HE:Hid (X.cells=#[.int .u64 (now:Int),.int .u64 (sd:Int),.int .u64 (si:Int),.int .u64 (sr:Int),.int .u64 (rt:Int),.bool sl,.bool true,.int .u64 (dl:Int),.int .u64 (ac:Int),.int .u64 (lo:Int),.int .u64 (fl:Int)]):=Lib.hid (by rw [← hX];rfl)
 clear hX
 rw [HE.out] at M0 HCo HMe HSi HYi ⊢
 go_enter Tryz.func107,Tryz.ntmps107
 go_wp2_with fail
 generalize W.alloc (.cells #[.int .u64 (now:Int),.int .u64 (sd:Int),.int .u64 (si:Int),.int .u64 (sr:Int),.int .u64 (rt:Int),.bool sl,.bool true,.int .u64 (dl:Int),.int .u64 (ac:Int),.int .u64 (lo:Int),.int .u64 (fl:Int)] 110)=w0 at *
 refine (HCo.out _ M0.out.at_).mono ?_
 rintro e w1 h1
 obtain rfl:=h1.e
 have M1:=Lib.hid (M0.out.step h1)
 have X1:=mu_of M1
 clear h1 M0 HCo
 go_wp2_with fail
 refine (HMe.out _ M1.out.at_).mono ?_
 rintro e w2 h1
 obtain rfl:=h1.e
 have M2:=Lib.hid (M1.out.step h1)
 have X2:=mu_of M2
 clear h1 M1 X1 HMe
 go_wp2_with fail
 refine (HSe.out _ M2.out.at_).mono ?_
 rintro e w3 h1
 obtain rfl:=h1.e
 have M3:=Lib.hid (M2.out.step h1)
 have X3:=mu_of M3
 clear h1 M2 X2 HSe
 go_wp2_with fail
 have M4:=Lib.hid M3.out.drew
 have X4:=mu_of M4
 go_region_held3 (fun w'=>Hid (MutX W B P X w'))
  (first | with_reducible exact X4 | with_reducible exact X5 | with_reducible exact X6)
  (first
   | (go_at_call 162;(with_reducible refine (HBe.out _ M4.out.at_).mono ?_);rintro e w4 ⟨rfl,hb⟩;have M5:=Lib.hid (M4.out.to hb);have X5:=mu_of M5;clear hb)
   | (go_at_call 175;(with_reducible refine (HPu.out _ M5.out.at_).mono ?_);rintro e w5 ⟨rfl,hn⟩;have M6:=Lib.hid (MutN.mi M5.out hn);have X6:=mu_of M6;clear hn))
 clear M3 X3 M4 X4 M5 X5 HBe HPu
 go_wp2_with fail
 refine (HYi.out _ M6.out.at_).mono ?_
 rintro e w6 h1
 obtain rfl:=h1.e
 have M7:=Lib.hid (M6.out.step h1)
 have X7:=mu_of M7
 clear h1 M6 X6 HYi
 go_wp2_with fail
 have M8:=Lib.hid M7.out.drew
 have X8:=mu_of M8
 have r13:=mu_e (W:=W) (B:=B) (P:=P) (s:=s5) (x:=X) (i:=13) (v:=.int .i64 s5.st) rfl
 clear M7 X7
 refine wp_region_held_drew (S:=(fun w'=>Hid (MutX W B P X w'))) (by kernel_rfl) X8 (fun hHeld=>?_)
 simp only [List.size_toArray,List.length_cons,List.length_nil,Nat.reduceAdd,Array.replicate_succ,Array.replicate_zero,List.push_toArray,List.nil_append,List.cons_append]
 refine wpAnyH_take (i:=0) (oi:=⟨some 39,_,_,_,_,_⟩) (v:=?v31) rfl (by kernel_rfl) (by kernel_rfl) (by kernel_rfl) (fun _ _ _ h=>h) (Or.inl ⟨by rfl,?y31⟩) (by assumption) ?r31
 case y31=>intro w hSw;clear hSw;go_simp;(try with_reducible rfl)
 simp only [Act.put,List.setIfInBounds_toArray,List.set_cons_zero,List.set_cons_succ]
 refine wpAnyH_take (i:=1) (oi:=⟨some 40,_,_,_,_,_⟩) (v:=?v32) rfl (by kernel_rfl) (by kernel_rfl) (by kernel_rfl) (fun _ _ _ h=>h) (Or.inl ⟨by rfl,?y32⟩) (by assumption) ?r32
 case y32=>intro w hSw;clear hSw;go_simp;(try with_reducible rfl)
 simp only [Act.put,List.setIfInBounds_toArray,List.set_cons_zero,List.set_cons_succ]
 refine wpAnyH_take (i:=2) (oi:=⟨some 41,_,_,_,_,_⟩) (v:=?v33) rfl (by kernel_rfl) (by kernel_rfl) (by kernel_rfl) (fun _ _ _ h=>h) (Or.inl ⟨by rfl,?y33⟩) (by assumption) ?r33
 case y33=>intro w hSw;skip;go_simp;(try with_reducible rfl)
 simp only [Act.put,List.setIfInBounds_toArray,List.set_cons_zero,List.set_cons_succ]
 refine wpAnyH_take (i:=3) (oi:=⟨some 42,_,_,_,_,_⟩) (v:=?v34) rfl (by kernel_rfl) (by kernel_rfl) (by kernel_rfl) (fun _ _ _ h=>h) (Or.inl ⟨by rfl,?y34⟩) (by assumption) ?r34
 case y34=>intro w hSw;clear hSw;go_simp;(try with_reducible rfl)
 simp only [Act.put,List.setIfInBounds_toArray,List.set_cons_zero,List.set_cons_succ]
 refine wpAnyH_take (i:=4) (oi:=⟨some 43,_,_,_,_,_⟩) (v:=?v35) rfl (by kernel_rfl) (by kernel_rfl) (by kernel_rfl) (fun _ _ _ h=>h) (Or.inl ⟨by rfl,?y35⟩) (by assumption) ?r35
 case y35=>intro w hSw;clear hSw;go_simp;(try with_reducible rfl)
 simp only [Act.put,List.setIfInBounds_toArray,List.set_cons_zero,List.set_cons_succ]
 refine wpAnyH_take (i:=5) (oi:=⟨some 44,_,_,_,_,_⟩) (v:=?v36) rfl (by kernel_rfl) (by kernel_rfl) (by kernel_rfl) (fun _ _ _ h=>h) (Or.inl ⟨by rfl,?y36⟩) (by assumption) ?r36
 case y36=>intro w hSw;clear hSw;go_simp;(try with_reducible rfl)
 simp only [Act.put,List.setIfInBounds_toArray,List.set_cons_zero,List.set_cons_succ]
 refine wpAnyH_take (i:=7) (oi:=⟨some 46,_,_,_,_,_⟩) (v:=?v37) rfl (by kernel_rfl) (by kernel_rfl) (by kernel_rfl) (fun _ _ _ h=>h) (Or.inl ⟨by rfl,?y37⟩) (by assumption) ?r37
 case y37=>intro w hSw;clear hSw;go_simp;(try with_reducible rfl)
 simp only [Act.put,List.setIfInBounds_toArray,List.set_cons_zero,List.set_cons_succ]
 refine wpAnyH_take (i:=8) (oi:=⟨some 47,_,_,_,_,_⟩) (v:=?v38) rfl (by kernel_rfl) (by kernel_rfl) (by kernel_rfl) (fun _ _ _ h=>h) (Or.inl ⟨by rfl,?y38⟩) (by assumption) ?r38
 case y38=>intro w hSw;skip;go_simp;(try with_reducible rfl)
 simp only [Act.put,List.setIfInBounds_toArray,List.set_cons_zero,List.set_cons_succ]
 refine wpAnyH_take (i:=9) (oi:=⟨some 48,_,_,_,_,_⟩) (v:=?v39) rfl (by kernel_rfl) (by kernel_rfl) (by kernel_rfl) (fun _ _ _ h=>h) (Or.inl ⟨by rfl,?y39⟩) (by assumption) ?r39
 case y39=>intro w hSw;clear hSw;go_simp;(try with_reducible rfl)
 simp only [Act.put,List.setIfInBounds_toArray,List.set_cons_zero,List.set_cons_succ]
 refine wpAnyH_take (i:=10) (oi:=⟨some 49,_,_,_,_,_⟩) (v:=?v40) rfl (by kernel_rfl) (by kernel_rfl) (by kernel_rfl) (fun _ _ _ h=>h) (Or.inl ⟨by rfl,?y40⟩) (by assumption) ?r40
 case y40=>intro w hSw;clear hSw;go_simp;(try with_reducible rfl)
 simp only [Act.put,List.setIfInBounds_toArray,List.set_cons_zero,List.set_cons_succ]
 refine wpAnyH_ready (rs:=[6,11]) (by kernel_rfl) (by simp) ?_
 refine AllReadyH.cons (o:=⟨some 45,_,_,_,_,_⟩) rfl (fun K hK=>?_) ?_
 ·go_simp
  refine hK.out _ _ hHeld (fun hHeld=>?_)
  clear hK
  try simp only [List.setIfInBounds_toArray,List.set_cons_zero,List.set_cons_succ]
  refine wpAnyH_ready (rs:=[11]) (by kernel_rfl) (by simp) ?_
  refine AllReadyH.cons (o:=⟨some 50,_,_,_,_,_⟩) rfl (fun K hK=>?_) AllReadyH.nil
  go_simp
  refine (HSi.out _ (Hid.out (by assumption):MutI W B P s5 X _).at_).mono ?_
  rintro e w7 ⟨rfl,hb⟩
  have M9:=Lib.hid ((Hid.out (by assumption):MutI W B P s5 X _).to hb)
  go_wp2_with fail
  refine hK.out _ _ (mu_of M9) (fun hHeld=>?_)
  clear hK
  try simp only [List.setIfInBounds_toArray,List.set_cons_zero,List.set_cons_succ]
  refine wpAnyH_ready (rs:=[12]) (by kernel_rfl) (by simp) ?_
  refine AllReadyH.cons (o:=⟨some 51,_,_,_,_,_⟩) rfl (fun K hK=>?_) AllReadyH.nil
  go_simp
  refine (HNe.out _).mono ?_
  rintro e w8 ⟨rfl,hb⟩
  have M10:=Lib.hid ((Hid.out (by assumption):MutI W B P s5 X _).to hb)
  go_wp2_with fail
  refine hK.out _ _ (mu_of M10) (fun hHeld=>?_)
  clear hK
  try simp only [List.setIfInBounds_toArray,List.set_cons_zero,List.set_cons_succ]
  refine wpAnyH_ready (rs:=[13]) (by kernel_rfl) (by simp) ?_
  refine AllReadyH.cons (o:=⟨some 52,_,_,_,_,_⟩) rfl (fun K hK=>?_) AllReadyH.nil
  go_simp
  refine (HTu.out _ (Hid.out (by assumption):MutI W B P s5 X _).at_).mono ?_
  rintro e w9 h1
  obtain rfl:=h1.e
  have M11:=Lib.hid ((Hid.out (by assumption):MutI W B P s5 X _).step h1)
  go_wp2_with fail
  refine hK.out _ _ (mu_of M11) (fun hHeld=>?_)
  clear hK
  try simp only [List.setIfInBounds_toArray,List.set_cons_zero,List.set_cons_succ]
  refine wpAnyH_done (by kernel_rfl) ?_ _
  have X11:=mu_of M11
  have c13:=M11.out.at_.e.cell (i:=13) (v:=.int .i64 s6.st) rfl
  rcases zz with ⟨z5,hz⟩ | ⟨z5,hz⟩
  ·subst hz
   go_wp2_with fail
   refine (HOp.out _ M11.out.at_).mono ?_
   rintro e w12 ⟨rfl,hb⟩
   have M14:=Lib.hid (M11.out.to hb)
   have c18:=M14.out.at_.e.cell (i:=18) (v:=.int .u64 (s7.cwnd:Int)) rfl
   have y18:=M14.out.at_.e.free 18
   have M15:=Lib.hid (M14.out.set (s':={s7 with cwnd:=op}) 18 (.int .u64 (op:Int)) rfl rfl rfl rfl rfl)
   clear hb
   go_wp2_with fail
   go_end0
   exact M15.out.post
  ·subst hz
   go_wp2_with fail
   refine (HOp.out _ M11.out.at_).mono ?_
   rintro e w12 ⟨rfl,hb⟩
   have M14:=Lib.hid (M11.out.to hb)
   have c18:=M14.out.at_.e.cell (i:=18) (v:=.int .u64 (s7.cwnd:Int)) rfl
   have y18:=M14.out.at_.e.free 18
   have M15:=Lib.hid (M14.out.set (s':={s7 with cwnd:=op}) 18 (.int .u64 (op:Int)) rfl rfl rfl rfl rfl)
   clear hb
   go_wp2_with fail
   go_end0
   exact M15.out.post
 refine AllReadyH.cons (o:=⟨some 50,_,_,_,_,_⟩) rfl (fun K hK=>?_) AllReadyH.nil
 go_simp
 refine (HSi.out _ (Hid.out (by assumption):MutI W B P s5 X _).at_).mono ?_
 rintro e w7 ⟨rfl,hb⟩
 have M9:=Lib.hid ((Hid.out (by assumption):MutI W B P s5 X _).to hb)
 go_wp2_with fail
 refine hK.out _ _ (mu_of M9) (fun hHeld=>?_)
 clear hK
 try simp only [List.setIfInBounds_toArray,List.set_cons_zero,List.set_cons_succ]
 refine wpAnyH_ready (rs:=[6]) (by kernel_rfl) (by simp) ?_
 refine AllReadyH.cons (o:=⟨some 45,_,_,_,_,_⟩) rfl (fun K hK=>?_) AllReadyH.nil
 go_simp
 refine hK.out _ _ hHeld (fun hHeld=>?_)
 clear hK
 try simp only [List.setIfInBounds_toArray,List.set_cons_zero,List.set_cons_succ]
 refine wpAnyH_ready (rs:=[12]) (by kernel_rfl) (by simp) ?_
 refine AllReadyH.cons (o:=⟨some 51,_,_,_,_,_⟩) rfl (fun K hK=>?_) AllReadyH.nil
 go_simp
 refine (HNe.out _).mono ?_
 rintro e w8 ⟨rfl,hb⟩
 have M10:=Lib.hid ((Hid.out (by assumption):MutI W B P s5 X _).to hb)
 go_wp2_with fail
 refine hK.out _ _ (mu_of M10) (fun hHeld=>?_)
 clear hK
 try simp only [List.setIfInBounds_toArray,List.set_cons_zero,List.set_cons_succ]
 refine wpAnyH_ready (rs:=[13]) (by kernel_rfl) (by simp) ?_
 refine AllReadyH.cons (o:=⟨some 52,_,_,_,_,_⟩) rfl (fun K hK=>?_) AllReadyH.nil
 go_simp
 refine (HTu.out _ (Hid.out (by assumption):MutI W B P s5 X _).at_).mono ?_
 rintro e w9 h1
 obtain rfl:=h1.e
 have M11:=Lib.hid ((Hid.out (by assumption):MutI W B P s5 X _).step h1)
 go_wp2_with fail
 refine hK.out _ _ (mu_of M11) (fun hHeld=>?_)
 clear hK
 try simp only [List.setIfInBounds_toArray,List.set_cons_zero,List.set_cons_succ]
 refine wpAnyH_done (by kernel_rfl) ?_ _
 have X11:=mu_of M11
 have c13:=M11.out.at_.e.cell (i:=13) (v:=.int .i64 s6.st) rfl
 rcases zz with ⟨z5,hz⟩ | ⟨z5,hz⟩
 ·subst hz
  go_wp2_with fail
  refine (HOp.out _ M11.out.at_).mono ?_
  rintro e w12 ⟨rfl,hb⟩
  have M14:=Lib.hid (M11.out.to hb)
  have c18:=M14.out.at_.e.cell (i:=18) (v:=.int .u64 (s7.cwnd:Int)) rfl
  have y18:=M14.out.at_.e.free 18
  have M15:=Lib.hid (M14.out.set (s':={s7 with cwnd:=op}) 18 (.int .u64 (op:Int)) rfl rfl rfl rfl rfl)
  clear hb
  go_wp2_with fail
  go_end0
  exact M15.out.post
 ·subst hz
  go_wp2_with fail
  refine (HOp.out _ M11.out.at_).mono ?_
  rintro e w12 ⟨rfl,hb⟩
  have M14:=Lib.hid (M11.out.to hb)
  have c18:=M14.out.at_.e.cell (i:=18) (v:=.int .u64 (s7.cwnd:Int)) rfl
  have y18:=M14.out.at_.e.free 18
  have M15:=Lib.hid (M14.out.set (s':={s7 with cwnd:=op}) 18 (.int .u64 (op:Int)) rfl rfl rfl rfl rfl)
  clear hb
  go_wp2_with fail
  go_end0
  exact M15.out.post
end Go.Proofs.YteoepabmnbkabaaGreatDoor

set_option linter.unusedVariables false
namespace Go.Proofs.YteoepabmnbkabaaGreatDoor
open Go.RowKit Cf
theorem bool_st (n:Int) (a:Int):((n == a)=true∧n=a)∨((n == a)=false∧n≠a):=by
 by_cases h:n=a
 ·exact Or.inl ⟨beq_iff_eq.2 h,h⟩
 ·exact Or.inr ⟨beq_eq_false_iff_ne.2 h,h⟩
theorem en_On {B k:Nat} {P:EP} {s:ES} (x:EvS) (hx:x.ok) (W:World) (h:EngAt W B P s) (ho:s.ok k) (hk:k≤900):
  Calls Tryz.prog 107 #[.pointer (some ⟨P.b,0,none⟩),x.val] W (EPost B P (.returned (.tuple #[])) (s.on x) W):=by
 have o1:=ES.count_ok ho x
 have o2:=ES.mea_ok o1 hx hk
 have o3:=ES.e3_ok ho hx hk
 have o4:=ES.e4_ok ho hx hk
 have o5:=ES.e5_ok ho hx hk
 have o6:=ES.e6_ok ho hx hk
 have o7:=ES.e7_ok ho hx hk
 have HCo:=fun w h=>en_count (B:=B) (P:=P) (s:=s) x hx w h ho
 have HMe:=fun w h=>en_measure (B:=B) (P:=P) x hx w h o1 hk
 have HSe:=fun w h=>en_settle (B:=B) (P:=P) (s:=(s.count x).mea x) w h o2
 have HBe:=fun w (h:EngAt w B P (s.e3 x))=>cy_Best P.y (s.e3 x).y w h.y
 have HPu:∀ov sl w,EngAt w B P (s.e3 x)→Calls Tryz.prog 175 #[.pointer (some ⟨P.p,0,none⟩),.int .u64 ((s.e3 x).y.best:Int),.bool ov,.bool sl] w fun e w'=>e=.returned (.tuple #[])∧MutN w B P ((s.e3 x).pput ov sl) w':=fun ov sl w h=>
  (pi_Put P.p (s.e3 x).y.best ov sl (s.e3 x).p w h.p o3.p (CY.best_le o3.ya o3.yt)).mono fun e w' q=>⟨q.1,MutN.pi h q.2.1 q.2.2⟩
 have HYi:=fun w h=>en_yield (B:=B) (P:=P) (s:=s.e4 x) x hx w h o4
 have HSi:=fun ov lo w h=>en_signal (B:=B) (P:=P) (s:=s.e5 x) x hx ov lo w h o5
 have HNe:=fun ov lo w=>mo_Next (s.e5 x).st ((s.e5 x).sig x ov lo) (ES.sig_ok o5 hx ov lo) w
 have HTu:=fun t w h=>en_turn (B:=B) (P:=P) (s:=s.e5 x) x.now t w h o5
 have HPs:=fun w=>bd_Push (s.e6 x).bs x.ac w o6.bs hx.ac
 have HOp:=fun w h=>en_open (B:=B) (P:=P) (s:=s.e7 x) x.ac hx.ac w h o7
 have e7:s.el x=false→(((s.e6 x).st == 5)=true∧s.e7 x={s.e6 x with bs:=(s.e6 x).bs.push x.ac})∨(((s.e6 x).st == 5)=false∧s.e7 x=s.e6 x):=fun hl=>by
  rcases bool_st (s.e6 x).st 5 with ⟨a,b⟩ | ⟨a,b⟩
  ·exact Or.inl ⟨a,by unfold ES.e7;rw [if_pos ⟨b,hl⟩];rfl⟩
  ·exact Or.inr ⟨a,by unfold ES.e7;rw [if_neg (fun q=>b q.1)]⟩
 have e7':s.el x=true→(((s.e6 x).st == 5)=true∧s.e7 x=s.e6 x)∨(((s.e6 x).st == 5)=false∧s.e7 x=s.e6 x):=fun hl=>by
  have:s.e7 x=s.e6 x:=by unfold ES.e7;rw [if_neg (fun q=>by rw [hl] at q;exact absurd q.2 (by simp))]
  rcases bool_st (s.e6 x).st 5 with ⟨a,b⟩ | ⟨a,b⟩
  ·exact Or.inl ⟨a,this⟩
  ·exact Or.inr ⟨a,this⟩
 have e3n:s.eo x=false→(s.count x).mea x=s.e3 x:=fun q=>by
  have q':(s.count x).over x=false:=q
  unfold ES.e3;rw [q'];rfl
 have e3y:s.eo x=true→((s.count x).mea x).settle=s.e3 x:=fun q=>by
  have q':(s.count x).over x=true:=q
  unfold ES.e3;rw [if_pos q']
 have e4n:x.sm=false→s.e3 x=s.e4 x:=fun q=>by unfold ES.e4;rw [q];rfl
 have e4y:x.sm=true→(s.e3 x).pput (s.eo x) x.sl=s.e4 x:=fun q=>by unfold ES.e4;rw [if_pos q]
 have e5n:s.el x=false→s.e4 x=s.e5 x:=fun q=>by unfold ES.e5;rw [q];rfl
 have e5y:s.el x=true→(s.e4 x).yield x=s.e5 x:=fun q=>by unfold ES.e5;rw [if_pos q]
 have e6:∀ov lo,s.eo x=ov→s.el x=lo→(s.e5 x).turn x.now (nextS (s.e5 x).st ((s.e5 x).sig x ov lo))=s.e6 x:=fun ov lo a b=>by unfold ES.e6;rw [a,b]
 have hel:s.el x=(s.eo x && ((s.count x).mea x).lossy):=rfl
 have hov:s.eo x=(x.sm && (s.count x).n.ackB (Pl.subS x.dl x.sd)):=rfl
 have hme:(s.count x).over x=s.eo x:=rfl
 rw [hme] at HMe
 clear hme
 show Calls Tryz.prog 107 #[.pointer (some ⟨P.b,0,none⟩),x.val] W (EPost B P (.returned (.tuple #[])) {s.e7 x with cwnd:=(s.e7 x).open x.ac} W)
 generalize heo:s.eo x=ov at *
 generalize hlo:s.el x=lo at *
 generalize hll:((s.count x).mea x).lossy=ll at *
 clear heo hlo hll o1 o2 o3 o4 o5 o6 o7
 generalize (s.count x).mea x=s2 at *
 generalize s.count x=s1 at *
 generalize s.e3 x=s3 at *
 generalize s.e4 x=s4 at *
 generalize s.e5 x=s5 at *
 generalize s.e6 x=s6 at *
 generalize s.e7 x=s7 at *
 obtain ⟨now,sd,si,sr,rt,sl,sm,dl,ac,lo',fl⟩:=x
 cases sm with
 | false=>
   obtain rfl:ov=false:=hov
   obtain rfl:lo=false:=by rw [hel];rfl
   obtain rfl:=e3n rfl
   obtain rfl:=e4n rfl
   obtain rfl:=e5n rfl
   have q6:=e6 false false rfl rfl
   exact en_On_ff (best:=0) (s3:=s2) (s4:=s2) (s5:=s2) W h HCo HMe (HSi false false) (HNe false false) (fun w h=>q6▸HTu _ w h) HPs HOp (e7 rfl)
 | true=>
   cases ov with
   | false=>
     obtain rfl:lo=false:=by rw [hel];rfl
     obtain rfl:=e3n rfl
     obtain rfl:=e4y rfl
     obtain rfl:=e5n rfl
     have q6:=e6 false false rfl rfl
     exact en_On_tf (s3:=s2) (s5:=s2) W h HCo HMe HBe (HPu false sl) (HSi false false) (HNe false false) (fun w h=>q6▸HTu _ w h) HPs HOp (e7 rfl)
   | true=>
     obtain rfl:lo=ll:=by rw [hel];rfl
     obtain rfl:=e3y rfl
     obtain rfl:=e4y rfl
     cases lo with
     | false=>
       obtain rfl:=e5n rfl
       have q6:=e6 true false rfl rfl
       exact en_On_tt (s5:=s2) W h HCo HMe HSe HBe (HPu true sl) (HSi true false) (HNe true false) (fun w h=>q6▸HTu _ w h) HPs HOp (e7 rfl)
     | true=>
       obtain rfl:=e5y rfl
       have q6:=e6 true true rfl rfl
       exact en_On_ttt (bs7:=s6.bs.push ac) W h HCo HMe HSe HBe (HPu true sl) HYi (HSi true true) (HNe true true) (fun w h=>q6▸HTu _ w h) HPs HOp (e7' rfl)
structure NewPost (W:World) (c:Setup) (e:Ending) (w:World):Prop where
 at_:∃P:EP,e=.returned (.tuple #[.pointer (some ⟨P.b,0,none⟩),.int .i64 0])∧EngAt w W.heap.size P (ES.new c)
 bel:Below W.heap.size W w
structure NewI (W:World) (c:Setup) (w:World):Prop where
 b:Blk w W.heap.size 24 (ccells c)
 bel:Below W.heap.size W w
theorem ni_k {W w w':World} {c:Setup} (h:Hid (NewI W c w)) (k:Below w.heap.size w w'):Hid (NewI W c w'):=Lib.hid ⟨h.out.b.keep k,bel_to h.out.bel k h.out.bel.size⟩
theorem ni_r {W:World} {c:Setup} {i:Nat} {v:Value} (hv:(ccells c)[i]? =some v):∀w,Hid (NewI W c w)→w.cell? ⟨W.heap.size,i,none⟩=some v:=fun w q=>q.out.b.cell hv
theorem Gl.lt {w:World} (h:Gl w):0 < w.heap.size:=World.block_lt_of_cell? w _ (h 0 (by omega)).1
theorem FlAt.below {w w':World} {a b g:Nat} {f:FS} (h:FlAt w a b g f) (k:Below w.heap.size w w'):FlAt w' a b g f:=h.keep k
set_option maxHeartbeats 2000000 in
theorem en_New_ok (c:Setup) (hc:∀i,c i≤18446744073709551615) (hr:rightC c=true) (W:World) (hg:Gl W):
  Calls Tryz.prog 28 #[.agg (ccells c)] W (NewPost W c):=by
 have HR:=Lib.hid (fun w=>conf_Right c hc w)
 have HE:=Lib.hid (fun w=>pi_Empty w)
 have HN:=Lib.hid (fun w=>bd_None w)
 have HL:=Lib.hid (fun w=>fl_Least (c 3) w)
 have HY:=Lib.hid (fun w=>cy_New w)
 have HC:=Lib.hid (fun w=>ct_New w)
 have HF:=Lib.hid (fun w=>conf_First c w hc)
 have HG:=Lib.hid hg
 have N0:Hid (NewI W c (W.alloc (.cells (ccells c) 24))):=Lib.hid ⟨Blk.new W _ _,al_be _ _⟩
 rw [hr] at HR
 have r0:=ni_r (W:=W) (c:=c) (i:=0) (v:=.int .u64 (c 0:Int)) rfl
 have r1:=ni_r (W:=W) (c:=c) (i:=1) (v:=.int .u64 (c 1:Int)) rfl
 have r2:=ni_r (W:=W) (c:=c) (i:=2) (v:=.int .u64 (c 2:Int)) rfl
 have r3:=ni_r (W:=W) (c:=c) (i:=3) (v:=.int .u64 (c 3:Int)) rfl
 have r4:=ni_r (W:=W) (c:=c) (i:=4) (v:=.int .u64 (c 4:Int)) rfl
 have r5:=ni_r (W:=W) (c:=c) (i:=5) (v:=.int .u64 (c 5:Int)) rfl
 clear hg hr hc
 have HX:Hid (ccells c=#[.int .u64 (c 0:Int),.int .u64 (c 1:Int),.int .u64 (c 2:Int),.int .u64 (c 3:Int),.int .u64 (c 4:Int),.int .u64 (c 5:Int)]):=Lib.hid rfl
 generalize hq:firstC c=fc at *
 rw [HX.out] at N0 HR HF ⊢
 simp only [BS.cells] at HN
 go_enter Tryz.func28,Tryz.ntmps28
 go_wp2_with fail
 refine (HR.out _).mono ?_
 rintro e w1 ⟨rfl,hb⟩
 have N1:=ni_k N0 hb
 clear N0 hb HR
 go_wp2_with fail
 have N2:=ni_k N1 ((Drawn.drew w1).below _)
 go_region_held3 (fun w'=>Hid (NewI W c w'))
  (first | with_reducible exact N2 | with_reducible exact N3 | with_reducible exact N4 | with_reducible exact N5 | with_reducible exact N6 | with_reducible exact N7 | with_reducible exact N8 | exact ni_k N8 (al_be _ _))
  (first
   | (go_at_call 66;(with_reducible refine (HE.out _).mono ?_);rintro e w2 ⟨rfl,hb⟩;have N3:Hid (NewI W c w2):=(by subst hb;exact ni_k N2 (al_be _ _));have P3:Hid (Blk w2 w1.heap.size 222 Pi.zero.cells):=(by subst hb;exact Lib.hid (Blk.new _ _ _));have Z3:Hid (w2.heap.size=w1.heap.size + 1):=(by subst hb;exact Lib.hid (by simp));clear hb)
   | (go_at_call 67;(with_reducible refine (HN.out _).mono ?_);rintro e w3 ⟨rfl,hb⟩;have N4:=ni_k N3 hb;have P4:=Lib.hid (P3.out.keep hb);clear hb)
   | (go_at_call 68;(with_reducible refine (HL.out _).mono ?_);rintro e w4 hp;obtain ⟨fa,fb,fg,rfl,hfl,hsa,hsb,hsg⟩:=hp.at_;have N5:=ni_k N4 hp.bel;have P5:=Lib.hid (P4.out.keep hp.bel);have F5:=Lib.hid hfl;have A5:=Lib.hid (show W.heap.size≤fa∧W.heap.size≤fb∧W.heap.size≤fg from ⟨Nat.le_trans N4.out.bel.size hsa,Nat.le_trans N4.out.bel.size hsb,Nat.le_trans N4.out.bel.size hsg⟩);clear hp hfl hsa hsb hsg)
   | (go_at_call 69;(with_reducible refine (HY.out _).mono ?_);rintro e w5 ⟨rfl,hy,hb⟩;have N6:=ni_k N5 hb;have P6:=Lib.hid (P5.out.keep hb);have F6:=Lib.hid (F5.out.keep hb);have Y6:=Lib.hid hy;clear hb hy)
   | (go_at_call 70;(with_reducible refine (HC.out _).mono ?_);rintro e w6 ⟨rfl,hb⟩;have K6:Hid (Below w5.heap.size w5 w6):=(by subst hb;exact Lib.hid (al_be _ _));have C7:Hid (Blk w6 w5.heap.size 228 Ct.zero.cells):=(by subst hb;exact Lib.hid (Blk.new _ _ _));have N7:=ni_k N6 K6.out;have P7:=Lib.hid (P6.out.keep K6.out);have F7:=Lib.hid (F6.out.keep K6.out);have Y7:=Lib.hid (Blk.keep Y6.out K6.out);clear hb)
   | (go_at_call 71;(with_reducible refine (HF.out _).mono ?_);rintro e w7 ⟨rfl,hb⟩;have N8:=ni_k N7 hb;have P8:=Lib.hid (P7.out.keep hb);have F8:=Lib.hid (F7.out.keep hb);have Y8:=Lib.hid (Blk.keep Y7.out hb);have C8:=Lib.hid (C7.out.keep hb);clear hb))
 have sz:=N8.out.bel.size
 have s1:=N1.out.bel.size
 have s5:=N5.out.bel.size
 have s4:=N4.out.bel.size
 have s6:=N6.out.bel.size
 have EA:EngAt (w7.alloc (.cells (ecells ⟨w7.heap.size,w1.heap.size,fa,fb,w4.heap.size,w5.heap.size⟩ (ES.new c)) 105)) W.heap.size ⟨w7.heap.size,w1.heap.size,fa,fb,w4.heap.size,w5.heap.size⟩ (ES.new c):=
  ⟨Blk.new _ _ _,P8.out.keep (al_be _ _),⟨fg,A5.out.2.2,F8.out.keep (al_be _ _)⟩,Blk.keep Y8.out (al_be _ _),C8.out.keep (al_be _ _),
   Gl.below (B:=W.heap.size) HG.out (bel_to N8.out.bel (al_be _ _) sz) HG.out.lt,HG.out.lt,⟨sz,s1,A5.out.1,A5.out.2.1,s5,s6⟩⟩
 have EB:=bel_to N8.out.bel (al_be w7 (.cells (ecells ⟨w7.heap.size,w1.heap.size,fa,fb,w4.heap.size,w5.heap.size⟩ (ES.new c)) 105)) sz
 subst hq
 clear N1 N2 N3 N4 N5 N6 N7 N8 P3 P4 P5 P6 P7 P8 F5 F6 F7 F8 Y6 Y7 Y8 C7 C8 K6 A5 Z3 HE HN HL HY HC HF
 go_wp2_with fail
 go_ret2
 exact ⟨⟨_,rfl,EA⟩,EB⟩
end Go.Proofs.YteoepabmnbkabaaGreatDoor

set_option linter.unusedVariables false
namespace Go.Proofs.YteoepabmnbkabaaGreatDoor
open Go.RowKit Cf
theorem over_wide {l r:Nat} (hr:0 < r) (hl:l≤4398046511104):l≤r * Pl.overS l 1 r∧Pl.overS l 1 r≤4398046511104:=by
 unfold Pl.overS
 rw [if_neg (by omega),Nat.mul_one]
 have hm:=Nat.div_add_mod (l + (r - 1)) r
 have hlt:=Nat.mod_lt (l + (r - 1)) hr
 have hle:(l + (r - 1)) / r≤l:=by
  rw [Nat.div_le_iff_le_mul hr]
  have:l≤l * r:=Nat.le_mul_of_pos_right _ hr
  omega
 have e:min ((l + (r - 1)) / r) 18446744073709551615=(l + (r - 1)) / r:=by omega
 rw [e]
 refine ⟨?_,by omega⟩
 generalize r * ((l + (r - 1)) / r)=z at *
 omega
theorem PS.then_wide {p:PS} (hr:p.r≤1099511627776) (hq:p.q≤4194240) (ht:p.t≤4398046511104) (hs:p.s≤p.q * 1000000) {x:Nat} (hx:x≤p.q) (h0:0 < p.r):
  p.nextB x=true∧p.t≤p.nextT x∧(p.tickS (p.nextT x) p.r p.q).takeB x=true:=by
 have em:Pl.mulS x 1000000=x * 1000000:=by unfold Pl.mulS;omega
 have el:p.lack x=x * 1000000 - p.s:=by unfold PS.lack Pl.subS;rw [em]
 have eq:Pl.mulS p.q 1000000=p.q * 1000000:=by unfold Pl.mulS;omega
 have hxq:x * 1000000≤p.q * 1000000:=by omega
 unfold PS.nextB PS.nextT
 have hq':¬ p.q < x:=by omega
 have hr':¬ p.r=0:=by omega
 by_cases c:p.lack x=0
 ·simp only [if_neg hq',if_pos c]
  refine ⟨trivial,Nat.le_refl _,?_⟩
  unfold PS.takeB PS.tickS
  rw [if_neg (by omega),em,eq]
  apply decide_eq_true
  dsimp only
  rw [Nat.sub_self]
  unfold Pl.addS Pl.mulS
  omega
 ·simp only [if_neg hq',if_neg c,if_neg hr']
  obtain ⟨o1,o2⟩:=over_wide (l:=p.lack x) h0 (by omega)
  generalize Pl.overS (p.lack x) 1 p.r=d at *
  have e3:Pl.addS p.t d=p.t + d:=by unfold Pl.addS;omega
  rw [e3]
  refine ⟨trivial,Nat.le_add_right _ _,?_⟩
  unfold PS.takeB PS.tickS
  rw [if_neg (by omega),em,eq]
  apply decide_eq_true
  dsimp only
  rw [show p.t + d - p.t=d by omega]
  unfold Pl.addS Pl.mulS
  generalize p.r * d=z at *
  omega
theorem SN.pre_none {s:SN} {now:Nat} (ho:s.L.out=[]) (hw:s.w≤18446744073709551615):s.pre now=s.tim now:=by
 have hl:(s.tim now).lostL=[]:=by show s.L.out.filter _=[];rw [ho];rfl
 have hk:(s.tim now).keptL=s.L.out:=by show s.L.out.filter _=s.L.out;rw [ho];rfl
 have hls:(s.tim now).loss=s.tim now:=by
  unfold SN.loss
  rw [hl,hk,if_neg (by simp)]
  have e:Pl.addS (s.tim now).w (sumP 0 [])=s.w:=by
   show min (s.w + 0) 18446744073709551615=s.w
   omega
  rw [e]
  rfl
 unfold SN.pre
 rw [hl,hls]
 rfl
theorem SN.stuck {c:Setup} {k m d:Nat} {s:SN} (h:s.ok c k m d) (hr:rightC c=true) (hpr:s.p.r=s.e.pace) (hpq:s.p.q=s.e.quant) (hw:0 < s.w) (ho:s.L.out=[]) (hp:s.c.p=false):
  s.nextB=true∧s.c.t≤s.nextT∨s.p.t < s.c.t:=by
 by_cases q:s.p.t < s.c.t
 ·exact .inr q
 ·left
  have hm:=right_mss hr
  have hfl:s.L.fl=0:=by unfold PL.fl;rw [ho];rfl
  have hsz:s.size≤c 0:=by unfold SN.size;rw [h.ec];omega
  have hf:s.fits=true:=by
   have:=h.fr.cl
   unfold SN.fits
   rw [hfl]
   simp only [Bool.and_eq_true,decide_eq_true_eq]
   refine ⟨hw,?_⟩
   unfold Pl.addS
   omega
  have h1:=h.fr.ql
  have h2:=h.fr.pl
  obtain ⟨a1,a2,a3⟩:=PS.then_wide (p:=s.p) h.pr h.pq (Nat.le_trans h.pt h.cl.1) h.ps (x:=s.size) (by omega) (by omega)
  unfold SN.nextB SN.nextT
  rw [hp,hf]
  refine ⟨by simpa using a1,?_⟩
  rw [if_pos (by decide)]
  omega
theorem SN.stuck_goes {c:Setup} {k m d:Nat} {s:SN} (h:s.ok c k m d) (hr:rightC c=true) (hpr:s.p.r=s.e.pace) (hpq:s.p.q=s.e.quant) (hpt:s.p.t=s.c.t) (hw:0 < s.w) (ho:s.L.out=[]) (hp:s.c.p=false) (hn:s.nextT≤4398046511104):
  s.c.toE s.nextT=0∧s.tickL s.nextT≠[]:=by
 have hm:=right_mss hr
 have hfl:s.L.fl=0:=by unfold PL.fl;rw [ho];rfl
 have hsz:s.size≤c 0:=by unfold SN.size;rw [h.ec];omega
 have hf:s.fits=true:=by
  have:=h.fr.cl
  unfold SN.fits
  rw [hfl]
  simp only [Bool.and_eq_true,decide_eq_true_eq]
  refine ⟨hw,?_⟩
  unfold Pl.addS
  omega
 have h1:=h.fr.ql
 have h2:=h.fr.pl
 have hsm:=h.small
 obtain ⟨a1,a2,a3⟩:=PS.then_wide (p:=s.p) h.pr h.pq (Nat.le_trans h.pt h.cl.1) h.ps (x:=s.size) (by omega) (by omega)
 have et:s.nextT=s.p.nextT s.size:=by unfold SN.nextT;rw [hp,hf];rfl
 rw [et] at hn ⊢
 have hte:s.c.toE (s.p.nextT s.size)=0:=by
  unfold CS.toE
  rw [hp,if_neg (by decide),if_neg (by omega),if_neg (by omega)]
 refine ⟨hte,?_⟩
 unfold SN.tickL
 rw [if_pos hte]
 generalize s.p.nextT s.size=t at *
 have hpre:=SN.pre_none (now:=t) ho (show s.w≤18446744073709551615 by omega)
 have hpc:s.paced t={s.tim t with p:=s.p.tickS t s.p.r s.p.q}:=by
  unfold SN.paced
  rw [hpre,hpr,hpq]
  rfl
 rw [hpc]
 have hgo:SN.goes {s.tim t with p:=s.p.tickS t s.p.r s.p.q}=true:=by
  show (s.fits && (s.p.tickS t s.p.r s.p.q).takeB s.size)=true
  rw [hf,a3];rfl
 have hw':SN.w {s.tim t with p:=s.p.tickS t s.p.r s.p.q}=s.w:=rfl
 unfold SN.run
 rw [hw']
 obtain ⟨n,hn'⟩:∃n,s.w=n + 1:=⟨s.w - 1,by omega⟩
 rw [hn',SN.gos,if_pos hgo]
 simp
end Go.Proofs.YteoepabmnbkabaaGreatDoor
