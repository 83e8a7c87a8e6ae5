/- 6 texts put together: what each one says stands ahead of it. -/
import Derived.Test.YteoepabmnbkabaaGreatDoorKS24
set_option linter.unusedVariables false
namespace Go.Proofs.YteoepabmnbkabaaGreatDoor
open Go.RowKit Cf
theorem quo2 (c:Nat) (hc:c≤18446744073709551615):IntKind.u64.wrap ((c:Int) / 2)=((c / 2:Nat):Int):=by rw [IntKind.wrap_u64];omega
set_option maxHeartbeats 1000000 in
theorem en_stale {B k:Nat} {P:EP} {s:ES} (now:Nat) (hn:now≤18446744073709551615) (W:World) (h:EngAt W B P s) (ho:s.ok k):
  Calls Tryz.prog 248 #[.pointer (some ⟨P.b,0,none⟩),.int .u64 (now:Int)] W fun e w'=>e=.returned (.bool (s.stale now))∧Below W.heap.size W w':=by
 obtain ⟨g,_,hf⟩:=h.f
 have HB:=Lib.hid (fl_Best P.a P.r g s.f W hf)
 clear hf
 have c10:=h.e.cell (i:=10) (v:=.pointer (some ⟨P.a,0,none⟩)) rfl
 have bt:=FS.best_t ho.f
 have be:=ho.ended
 have bc:=ho.c 3
 have HS:=Lib.hid (fun b w hw=>sub_any now (max s.f.best.t s.ended) b hn (by omega) w hw)
 have I0:=Lib.hid (EngI.start h)
 have hm:max (s.f.best.t:Int) (s.ended:Int)=((max s.f.best.t s.ended:Nat):Int):=by omega
 have hq:=quo2 (s.c 3) bc
 unfold ES.stale
 unfold bestV at HB
 clear h ho bt be bc hn
 generalize Pl.subS now (max s.f.best.t s.ended)=q at *
 generalize max s.f.best.t s.ended=m at *
 generalize s.f.best=x at *
 generalize s.f.some=o at *
 cases o with
 | false=>
   go_enter Tryz.func248,Tryz.ntmps248
   go_wp2_with fail
   refine (HB.out).mono ?_
   rintro e w1 ⟨rfl,h1⟩
   have I1:=Lib.hid (I0.out.to h1)
   clear h1 I0 HB c10
   go_wp2_with fail
   go_region
   go_wp2
   go_ret
   exact ⟨rfl,I1.out.drew.bel⟩
 | true=>
   go_enter Tryz.func248,Tryz.ntmps248
   go_wp2_with fail
   refine (HB.out).mono ?_
   rintro e w1 ⟨rfl,h1⟩
   have I1:=Lib.hid (I0.out.to h1)
   clear h1 I0 HB c10
   go_wp2_with fail
   have I2:=Lib.hid I1.out.drew
   go_region_held3 (fun w'=>w'.cell? ⟨P.b,20,none⟩=some (.int .u64 (s.ended:Int))∧w'.cell? ⟨P.b,3,none⟩=some (.int .u64 (s.c 3:Int))∧Hid (EngI W B P s w'))
    (first | exact ei_e30 I2 | exact ei_e3 (by assumption) (al_dr _ _) | exact ei_e3 (by assumption) hb)
    (first
     | (go_at_call 114;go_split_ands;(refine (HS.out _ _ (by first | exact cell_dr (new_cell rfl rfl) | exact new_cell rfl rfl)).mono ?_);rintro e w' ⟨rfl,rfl⟩))
   all_goals
    have hd:decide ((s.c 3:Int) / 2 < (q:Int))=decide (s.c 3 / 2 < q):=decide_eq_decide.2 (by omega)
    have HD:=Lib.hid hd
    clear hd hq hm
    go_wp2
    go_ret
    exact ⟨by rw [HD.out];rfl,(Hid.out (by assumption):EngI W B P s _).bel⟩
structure SigI (W:World) (B:Nat) (P:EP) (s:ES) (x:EvS) (w:World):Prop where
 at0:EngAt W B P s
 bel:Below W.heap.size W w
 ev:Blk w W.heap.size 110 x.cells
 re:∃cs,cs.size=10∧Blk w (W.heap.size + 1) 259 cs
theorem SigI.at_ {W w:World} {B:Nat} {P:EP} {s:ES} {x:EvS} (h:SigI W B P s x w):EngAt w B P s:=h.at0.keep h.bel
theorem SigI.to {W w w':World} {B:Nat} {P:EP} {s:ES} {x:EvS} (h:SigI W B P s x w) (k:Below w.heap.size w w'):SigI W B P s x w':=
 ⟨h.at0,bel_to h.bel k h.bel.size,h.ev.keep k,by obtain ⟨cs,a,b⟩:=h.re;exact ⟨cs,a,b.keep k⟩⟩
theorem SigI.set {W w:World} {B:Nat} {P:EP} {s:ES} {x:EvS} (h:SigI W B P s x w) (i:Nat) (u:Value):SigI W B P s x (w.setCell ⟨W.heap.size + 1,i,none⟩ u):=
 ⟨h.at0,h.bel.setCell (p:=⟨W.heap.size + 1,i,none⟩) (Nat.le_succ _) u,h.ev.set_other i u (by omega),by obtain ⟨cs,a,b⟩:=h.re;exact ⟨_,by simpa using a,b.set i u⟩⟩
theorem sig_k {W w w':World} {B:Nat} {P:EP} {s:ES} {x:EvS} (h:Hid (SigI W B P s x w)) (k:Below w.heap.size w w'):Hid (SigI W B P s x w'):=h.out.to k
theorem sig_r {W:World} {B:Nat} {P:EP} {s:ES} {x:EvS}:(∀w,Hid (SigI W B P s x w)→w.cell? ⟨W.heap.size,0,none⟩=some (.int .u64 (x.now:Int)))∧(∀w,Hid (SigI W B P s x w)→w.cell? ⟨W.heap.size,10,none⟩=some (.int .u64 (x.fl:Int)))∧(∀w,Hid (SigI W B P s x w)→w.cell? ⟨P.b,6,none⟩=some (.pointer (some ⟨P.p,0,none⟩)))∧(∀w,Hid (SigI W B P s x w)→w.cell? ⟨P.b,7,none⟩=some (.int .u64 (s.bs.hi:Int)))∧(∀w,Hid (SigI W B P s x w)→w.cell? ⟨P.b,8,none⟩=some (.int .u64 (s.bs.lo:Int)))∧(∀w,Hid (SigI W B P s x w)→w.cell? ⟨P.b,9,none⟩=some (.int .u64 (s.bs.bw:Int)))∧(∀w,Hid (SigI W B P s x w)→w.cell? ⟨P.b,15,none⟩=some (.int .u64 (s.rounds:Int)))∧(∀w,Hid (SigI W B P s x w)→w.cell? ⟨P.b,14,none⟩=some (.int .u64 (s.began:Int)))∧(∀w,Hid (SigI W B P s x w)→w.cell? ⟨P.b,13,none⟩=some (.int .i64 s.st))∧(∀w,Hid (SigI W B P s x w)→w.cell? ⟨P.b,11,none⟩=some (.pointer (some ⟨P.y,0,none⟩)))∧(∀w,Hid (SigI W B P s x w)→w.cell? ⟨P.b,4,none⟩=some (.int .u64 (s.c 4:Int))):=
 ⟨fun w q=>q.out.ev.cell rfl,fun w q=>q.out.ev.cell rfl,fun w q=>q.out.at_.e.cell rfl,fun w q=>q.out.at_.e.cell rfl,fun w q=>q.out.at_.e.cell rfl,fun w q=>q.out.at_.e.cell rfl,fun w q=>q.out.at_.e.cell rfl,fun w q=>q.out.at_.e.cell rfl,fun w q=>q.out.at_.e.cell rfl,fun w q=>q.out.at_.e.cell rfl,fun w q=>q.out.at_.e.cell rfl⟩
theorem nc3 (W:World) (b x:Nat) (T:TypeId) (hb:b=W.heap.size):(W.alloc (.cells #[.int .u64 (x:Int)] T)).cell? ⟨b,0,none⟩=some (.int .u64 (x:Int)):=by subst hb;exact new_cell rfl rfl
theorem Blk.row {w:World} {g:Nat} {T:TypeId} {old:Array Value} (h:Blk w g T old) (cs:Array Value):Blk (w.setRow g cs) g T cs:=setRow_heap w g old cs T (0,0) h
theorem Blk.row_other {w:World} {b g:Nat} {T:TypeId} {cs:Array Value} (h:Blk w b T cs) (hne:b≠g) (ds:Array Value):Blk (w.setRow g ds) b T cs:=(setRow_other w g b ds hne).trans h
theorem sig_row {W w:World} {B:Nat} {P:EP} {s:ES} {x:EvS} (h:Hid (SigI W B P s x w)) (cs:Array Value) (hc:cs.size=10):Hid (SigI W B P s x (w.setRow (W.heap.size + 1) cs)):=
 Lib.hid ⟨h.out.at0,below_setRow h.out.bel (Nat.le_succ _) cs,h.out.ev.row_other (by omega) cs,by obtain ⟨ds,_,q⟩:=h.out.re;exact ⟨cs,hc,q.row cs⟩⟩
set_option maxRecDepth 100000 in
set_option maxHeartbeats 4000000 in
theorem en_signal {B k:Nat} {P:EP} {s:ES} (x:EvS) (hx:x.ok) (ov lo:Bool) (W:World) (h:EngAt W B P s) (ho:s.ok k):
  Calls Tryz.prog 179 #[.pointer (some ⟨P.b,0,none⟩),x.val,.bool ov,.bool lo] W fun e w'=>e=.returned (.agg (s.sig x ov lo).cells)∧Below W.heap.size W w':=by
 have HFu:Hid (∀w,EngAt w B P s→Calls Tryz.prog 237 #[.pointer (some ⟨P.p,0,none⟩)] w fun e w'=>e=.returned (.bool s.p.full)∧Below w.heap.size w w'):=Lib.hid (fun w hw=>(pi_Full P.p s.p w hw.p).mono fun e w' q=>⟨q.1,q.2▸Below.refl _ _⟩)
 have HSt:=Lib.hid (fun w hw=>en_stale (B:=B) (P:=P) (s:=s) x.now hx.now w hw ho)
 have HHo:=Lib.hid (fun w hw=>en_holds (B:=B) (P:=P) (s:=s) w hw ho)
 have HRo:=Lib.hid (fun w (_:EngAt w B P s)=>bd_Room s.bs w ho.bs)
 have HSu:Hid (∀b w,w.cell? ⟨b,0,none⟩=some (.int .u64 (s.began:Int))→Calls Tryz.prog 114 #[.int .u64 (x.now:Int),.slice (some ⟨b,0,none⟩) 1 1] w fun e w'=>e=.returned (.int .u64 ((Pl.subS x.now s.began:Nat):Int))∧Below w.heap.size w w'):=Lib.hid (fun b w hw=>(sub_any x.now s.began b hx.now ho.began w hw).mono fun e w' q=>⟨q.1,q.2▸Below.refl _ _⟩)
 have HCo:Hid (∀w,EngAt w B P s→Calls Tryz.prog 251 #[.pointer (some ⟨P.y,0,none⟩)] w fun e w'=>e=.returned (.int .u64 (s.y.n:Int))∧Below w.heap.size w w'):=Lib.hid (fun w hw=>(cy_Count P.y s.y w hw.y).mono fun e w' q=>⟨q.1,q.2▸Below.refl _ _⟩)
 have HWa:Hid (∀w,EngAt w B P s→Calls Tryz.prog 250 #[.int .i64 s.st,.int .u64 (s.y.n:Int),.int .u64 (s.c 4:Int)] w fun e w'=>e=.returned (.int .u64 ((waitS s.st s.y.n (s.c 4):Nat):Int))∧Below w.heap.size w w'):=Lib.hid (fun w _=>(mo_Wait s.st s.y.n (s.c 4) w ho.yn).mono fun e w' q=>⟨q.1,q.2▸Below.refl _ _⟩)
 have I0:Hid (SigI W B P s x ((W.alloc (.cells x.cells 110)).alloc (.cells #[.bool false,.bool false,.bool false,.bool false,.int .u64 0,.int .u64 0,.int .u64 0,.int .u64 0,.int .u64 0,.int .u64 0] 259)).drew):=Lib.hid
  ((show SigI W B P s x ((W.alloc (.cells x.cells 110)).alloc (.cells #[.bool false,.bool false,.bool false,.bool false,.int .u64 0,.int .u64 0,.int .u64 0,.int .u64 0,.int .u64 0,.int .u64 0] 259)) from
    ⟨h,((Below.refl _ _).alloc (Nat.le_refl _) _).alloc (by simp) _,(Blk.new W _ _).alloc _,⟨_,rfl,Blk.new1 W _ _ _⟩⟩).to ((Drawn.drew _).below _))
 have HT:Hid ((s.sig x ov lo).cells=#[.bool s.p.full,.bool ov,.bool lo,.bool (s.stale x.now),.int .u64 (x.fl:Int),.int .u64 (s.holds:Int),.int .u64 (s.bs.room:Int),.int .u64 (s.rounds:Int),.int .u64 ((Pl.subS x.now s.began:Nat):Int),.int .u64 ((waitS s.st s.y.n (s.c 4):Nat):Int)]):=Lib.hid rfl
 clear h ho hx
 unfold EvS.cells at I0
 unfold EvS.val EvS.cells
 simp only [BS.cells] at HRo
 generalize waitS s.st s.y.n (s.c 4)=d9 at *
 generalize Pl.subS x.now s.began=d8 at *
 generalize s.bs.room=d6 at *
 generalize s.holds=d5 at *
 generalize s.stale x.now=d3 at *
 generalize s.p.full=d0 at *
 go_enter Tryz.func179,Tryz.ntmps179
 obtain ⟨rr0,rr1,rr2,rr3,rr4,rr5,rr6,rr7,rr8,rr9,rr10⟩:=sig_r (W:=W) (B:=B) (P:=P) (s:=s) (x:=x)
 go_wp2_with fail
 refine wp_region_noPanic ?_
 refine wp_region_held_drew (S:=(fun w'=>Hid (SigI W B P s x w'))) (by kernel_rfl) I0 (fun hHeld=>?_)
 simp only [List.size_toArray,List.length_cons,List.length_nil,Nat.reduceAdd,Array.replicate_succ,Array.replicate_zero,List.push_toArray,List.nil_append,List.cons_append]
 refine wpAnyH_take (i:=0) (oi:=⟨some 9,_,_,_,_,_⟩) (v:=?v1) rfl (by kernel_rfl) (by kernel_rfl) (by kernel_rfl) (fun _ _ _ h=>h) (Or.inl ⟨by rfl,?y1⟩) (by assumption) ?r1
 case y1=>intro w hSw;clear hSw;go_simp;(try with_reducible rfl)
 simp only [Act.put,List.setIfInBounds_toArray,List.set_cons_zero,List.set_cons_succ]
 refine wpAnyH_take (i:=1) (oi:=⟨some 10,_,_,_,_,_⟩) (v:=?v2) rfl (by kernel_rfl) (by kernel_rfl) (by kernel_rfl) (fun _ _ _ h=>h) (Or.inl ⟨by rfl,?y2⟩) (by assumption) ?r2
 case y2=>intro w hSw;clear hSw;go_simp;(try with_reducible rfl)
 simp only [Act.put,List.setIfInBounds_toArray,List.set_cons_zero,List.set_cons_succ]
 refine wpAnyH_take (i:=2) (oi:=⟨some 11,_,_,_,_,_⟩) (v:=?v3) rfl (by kernel_rfl) (by kernel_rfl) (by kernel_rfl) (fun _ _ _ h=>h) (Or.inl ⟨by rfl,?y3⟩) (by assumption) ?r3
 case y3=>intro w hSw;clear hSw;go_simp;(try with_reducible rfl)
 simp only [Act.put,List.setIfInBounds_toArray,List.set_cons_zero,List.set_cons_succ]
 refine wpAnyH_take (i:=3) (oi:=⟨some 12,_,_,_,_,_⟩) (v:=?v4) rfl (by kernel_rfl) (by kernel_rfl) (by kernel_rfl) (fun _ _ _ h=>h) (Or.inl ⟨by rfl,?y4⟩) (by assumption) ?r4
 case y4=>intro w hSw;skip;go_simp;(try with_reducible rfl)
 simp only [Act.put,List.setIfInBounds_toArray,List.set_cons_zero,List.set_cons_succ]
 refine wpAnyH_take (i:=5) (oi:=⟨some 14,_,_,_,_,_⟩) (v:=?v5) rfl (by kernel_rfl) (by kernel_rfl) (by kernel_rfl) (fun _ _ _ h=>h) (Or.inl ⟨by rfl,?y5⟩) (by assumption) ?r5
 case y5=>intro w hSw;clear hSw;go_simp;(try with_reducible rfl)
 simp only [Act.put,List.setIfInBounds_toArray,List.set_cons_zero,List.set_cons_succ]
 refine wpAnyH_take (i:=6) (oi:=⟨some 15,_,_,_,_,_⟩) (v:=?v6) rfl (by kernel_rfl) (by kernel_rfl) (by kernel_rfl) (fun _ _ _ h=>h) (Or.inl ⟨by rfl,?y6⟩) (by assumption) ?r6
 case y6=>intro w hSw;clear hSw;go_simp;(try with_reducible rfl)
 simp only [Act.put,List.setIfInBounds_toArray,List.set_cons_zero,List.set_cons_succ]
 refine wpAnyH_take (i:=7) (oi:=⟨some 16,_,_,_,_,_⟩) (v:=?v7) rfl (by kernel_rfl) (by kernel_rfl) (by kernel_rfl) (fun _ _ _ h=>h) (Or.inl ⟨by rfl,?y7⟩) (by assumption) ?r7
 case y7=>intro w hSw;clear hSw;go_simp;(try with_reducible rfl)
 simp only [Act.put,List.setIfInBounds_toArray,List.set_cons_zero,List.set_cons_succ]
 refine wpAnyH_take (i:=8) (oi:=⟨some 17,_,_,_,_,_⟩) (v:=?v8) rfl (by kernel_rfl) (by kernel_rfl) (by kernel_rfl) (fun _ _ _ h=>h) (Or.inl ⟨by rfl,?y8⟩) (by assumption) ?r8
 case y8=>intro w hSw;clear hSw;go_simp;(try with_reducible rfl)
 simp only [Act.put,List.setIfInBounds_toArray,List.set_cons_zero,List.set_cons_succ]
 refine wpAnyH_take (i:=9) (oi:=⟨some 18,_,_,_,_,_⟩) (v:=?v9) rfl (by kernel_rfl) (by kernel_rfl) (by kernel_rfl) (fun _ _ _ h=>h) (Or.inl ⟨by rfl,?y9⟩) (by assumption) ?r9
 case y9=>intro w hSw;skip;go_simp;(try with_reducible rfl)
 simp only [Act.put,List.setIfInBounds_toArray,List.set_cons_zero,List.set_cons_succ]
 refine wpAnyH_take (i:=11) (oi:=⟨some 20,_,_,_,_,_⟩) (v:=?v10) rfl (by kernel_rfl) (by kernel_rfl) (by kernel_rfl) (fun _ _ _ h=>h) (Or.inl ⟨by rfl,?y10⟩) (by assumption) ?r10
 case y10=>intro w hSw;clear hSw;go_simp;(try with_reducible rfl)
 simp only [Act.put,List.setIfInBounds_toArray,List.set_cons_zero,List.set_cons_succ]
 refine wpAnyH_take (i:=12) (oi:=⟨some 21,_,_,_,_,_⟩) (v:=?v11) rfl (by kernel_rfl) (by kernel_rfl) (by kernel_rfl) (fun _ _ _ h=>h) (Or.inl ⟨by rfl,?y11⟩) (by assumption) ?r11
 case y11=>intro w hSw;skip;go_simp;(try with_reducible rfl)
 simp only [Act.put,List.setIfInBounds_toArray,List.set_cons_zero,List.set_cons_succ]
 refine wpAnyH_take (i:=13) (oi:=⟨some 22,_,_,_,_,_⟩) (v:=?v12) rfl (by kernel_rfl) (by kernel_rfl) (by kernel_rfl) (fun _ _ _ h=>h) (Or.inl ⟨by rfl,?y12⟩) (by assumption) ?r12
 case y12=>intro w hSw;clear hSw;go_simp;(try with_reducible rfl)
 simp only [Act.put,List.setIfInBounds_toArray,List.set_cons_zero,List.set_cons_succ]
 refine wpAnyH_take (i:=15) (oi:=⟨some 24,_,_,_,_,_⟩) (v:=?v13) rfl (by kernel_rfl) (by kernel_rfl) (by kernel_rfl) (fun _ _ _ h=>h) (Or.inl ⟨by rfl,?y13⟩) (by assumption) ?r13
 case y13=>intro w hSw;clear hSw;go_simp;(try with_reducible rfl)
 simp only [Act.put,List.setIfInBounds_toArray,List.set_cons_zero,List.set_cons_succ]
 refine wpAnyH_take (i:=16) (oi:=⟨some 25,_,_,_,_,_⟩) (v:=?v14) rfl (by kernel_rfl) (by kernel_rfl) (by kernel_rfl) (fun _ _ _ h=>h) (Or.inl ⟨by rfl,?y14⟩) (by assumption) ?r14
 case y14=>intro w hSw;clear hSw;go_simp;(try with_reducible rfl)
 simp only [Act.put,List.setIfInBounds_toArray,List.set_cons_zero,List.set_cons_succ]
 refine wpAnyH_take (i:=17) (oi:=⟨some 26,_,_,_,_,_⟩) (v:=?v15) rfl (by kernel_rfl) (by kernel_rfl) (by kernel_rfl) (fun _ _ _ h=>h) (Or.inl ⟨by rfl,?y15⟩) (by assumption) ?r15
 case y15=>intro w hSw;clear hSw;go_simp;(try with_reducible rfl)
 simp only [Act.put,List.setIfInBounds_toArray,List.set_cons_zero,List.set_cons_succ]
 refine wpAnyH_take (i:=18) (oi:=⟨some 27,_,_,_,_,_⟩) (v:=?v16) rfl (by kernel_rfl) (by kernel_rfl) (by kernel_rfl) (fun _ _ _ h=>h) (Or.inl ⟨by rfl,?y16⟩) (by assumption) ?r16
 case y16=>intro w hSw;skip;go_simp;(try with_reducible rfl)
 simp only [Act.put,List.setIfInBounds_toArray,List.set_cons_zero,List.set_cons_succ]
 refine wpAnyH_take (i:=20) (oi:=⟨some 29,_,_,_,_,_⟩) (v:=?v17) rfl (by kernel_rfl) (by kernel_rfl) (by kernel_rfl) (fun _ _ _ h=>h) (Or.inl ⟨by rfl,?y17⟩) (by assumption) ?r17
 case y17=>intro w hSw;clear hSw;go_simp;(try with_reducible rfl)
 simp only [Act.put,List.setIfInBounds_toArray,List.set_cons_zero,List.set_cons_succ]
 refine wpAnyH_take (i:=21) (oi:=⟨some 30,_,_,_,_,_⟩) (v:=?v18) rfl (by kernel_rfl) (by kernel_rfl) (by kernel_rfl) (fun _ _ _ h=>h) (Or.inl ⟨by rfl,?y18⟩) (by assumption) ?r18
 case y18=>intro w hSw;clear hSw;go_simp;(try with_reducible rfl)
 simp only [Act.put,List.setIfInBounds_toArray,List.set_cons_zero,List.set_cons_succ]
 refine wpAnyH_take (i:=22) (oi:=⟨some 31,_,_,_,_,_⟩) (v:=?v19) rfl (by kernel_rfl) (by kernel_rfl) (by kernel_rfl) (fun _ _ _ h=>h) (Or.inl ⟨by rfl,?y19⟩) (by assumption) ?r19
 case y19=>intro w hSw;clear hSw;go_simp;(try with_reducible rfl)
 simp only [Act.put,List.setIfInBounds_toArray,List.set_cons_zero,List.set_cons_succ]
 refine wpAnyH_take (i:=23) (oi:=⟨some 32,_,_,_,_,_⟩) (v:=?v20) rfl (by kernel_rfl) (by kernel_rfl) (by kernel_rfl) (fun _ _ _ h=>h) (Or.inl ⟨by rfl,?y20⟩) (by assumption) ?r20
 case y20=>intro w hSw;skip;go_simp;(try with_reducible rfl)
 simp only [Act.put,List.setIfInBounds_toArray,List.set_cons_zero,List.set_cons_succ]
 refine wpAnyH_take (i:=24) (oi:=⟨some 33,_,_,_,_,_⟩) (v:=?v21) rfl (by kernel_rfl) (by kernel_rfl) (by kernel_rfl) (fun _ _ _ h=>h) (Or.inl ⟨by rfl,?y21⟩) (by assumption) ?r21
 case y21=>intro w hSw;clear hSw;go_simp;(try with_reducible rfl)
 simp only [Act.put,List.setIfInBounds_toArray,List.set_cons_zero,List.set_cons_succ]
 refine wpAnyH_take (i:=25) (oi:=⟨some 34,_,_,_,_,_⟩) (v:=?v22) rfl (by kernel_rfl) (by kernel_rfl) (by kernel_rfl) (fun _ _ _ h=>h) (Or.inl ⟨by rfl,?y22⟩) (by assumption) ?r22
 case y22=>intro w hSw;skip;go_simp;(try with_reducible rfl)
 simp only [Act.put,List.setIfInBounds_toArray,List.set_cons_zero,List.set_cons_succ]
 refine wpAnyH_take (i:=26) (oi:=⟨some 35,_,_,_,_,_⟩) (v:=?v23) rfl (by kernel_rfl) (by kernel_rfl) (by kernel_rfl) (fun _ _ _ h=>h) (Or.inl ⟨by rfl,?y23⟩) (by assumption) ?r23
 case y23=>intro w hSw;clear hSw;go_simp;(try with_reducible rfl)
 simp only [Act.put,List.setIfInBounds_toArray,List.set_cons_zero,List.set_cons_succ]
 refine wpAnyH_take (i:=27) (oi:=⟨some 36,_,_,_,_,_⟩) (v:=?v24) rfl (by kernel_rfl) (by kernel_rfl) (by kernel_rfl) (fun _ _ _ h=>h) (Or.inl ⟨by rfl,?y24⟩) (by assumption) ?r24
 case y24=>intro w hSw;clear hSw;go_simp;(try with_reducible rfl)
 simp only [Act.put,List.setIfInBounds_toArray,List.set_cons_zero,List.set_cons_succ]
 refine wpAnyH_take (i:=28) (oi:=⟨some 37,_,_,_,_,_⟩) (v:=?v25) rfl (by kernel_rfl) (by kernel_rfl) (by kernel_rfl) (fun _ _ _ h=>h) (Or.inl ⟨by rfl,?y25⟩) (by assumption) ?r25
 case y25=>intro w hSw;clear hSw;go_simp;(try with_reducible rfl)
 simp only [Act.put,List.setIfInBounds_toArray,List.set_cons_zero,List.set_cons_succ]
 refine wpAnyH_take (i:=29) (oi:=⟨some 38,_,_,_,_,_⟩) (v:=?v26) rfl (by kernel_rfl) (by kernel_rfl) (by kernel_rfl) (fun _ _ _ h=>h) (Or.inl ⟨by rfl,?y26⟩) (by assumption) ?r26
 case y26=>intro w hSw;skip;go_simp;(try with_reducible rfl)
 simp only [Act.put,List.setIfInBounds_toArray,List.set_cons_zero,List.set_cons_succ]
 refine wpAnyH_take (i:=32) (oi:=⟨some 41,_,_,_,_,_⟩) (v:=?v27) rfl (by kernel_rfl) (by kernel_rfl) (by kernel_rfl) (fun _ _ _ h=>h) (Or.inl ⟨by rfl,?y27⟩) (by assumption) ?r27
 case y27=>intro w hSw;clear hSw;go_simp;(try with_reducible rfl)
 simp only [Act.put,List.setIfInBounds_toArray,List.set_cons_zero,List.set_cons_succ]
 refine wpAnyH_take (i:=33) (oi:=⟨some 42,_,_,_,_,_⟩) (v:=?v28) rfl (by kernel_rfl) (by kernel_rfl) (by kernel_rfl) (fun _ _ _ h=>h) (Or.inl ⟨by rfl,?y28⟩) (by assumption) ?r28
 case y28=>intro w hSw;clear hSw;go_simp;(try with_reducible rfl)
 simp only [Act.put,List.setIfInBounds_toArray,List.set_cons_zero,List.set_cons_succ]
 refine wpAnyH_take (i:=34) (oi:=⟨some 43,_,_,_,_,_⟩) (v:=?v29) rfl (by kernel_rfl) (by kernel_rfl) (by kernel_rfl) (fun _ _ _ h=>h) (Or.inl ⟨by rfl,?y29⟩) (by assumption) ?r29
 case y29=>intro w hSw;clear hSw;go_simp;(try with_reducible rfl)
 simp only [Act.put,List.setIfInBounds_toArray,List.set_cons_zero,List.set_cons_succ]
 refine wpAnyH_take (i:=35) (oi:=⟨some 44,_,_,_,_,_⟩) (v:=?v30) rfl (by kernel_rfl) (by kernel_rfl) (by kernel_rfl) (fun _ _ _ h=>h) (Or.inl ⟨by rfl,?y30⟩) (by assumption) ?r30
 case y30=>intro w hSw;skip;go_simp;(try with_reducible rfl)
 simp only [Act.put,List.setIfInBounds_toArray,List.set_cons_zero,List.set_cons_succ]
 refine wpAnyH_take (i:=36) (oi:=⟨some 45,_,_,_,_,_⟩) (v:=?v31) rfl (by kernel_rfl) (by kernel_rfl) (by kernel_rfl) (fun _ _ _ h=>h) (Or.inl ⟨by rfl,?y31⟩) (by assumption) ?r31
 case y31=>intro w hSw;clear hSw;go_simp;(try with_reducible rfl)
 simp only [Act.put,List.setIfInBounds_toArray,List.set_cons_zero,List.set_cons_succ]
 refine wpAnyH_take (i:=37) (oi:=⟨some 46,_,_,_,_,_⟩) (v:=?v32) rfl (by kernel_rfl) (by kernel_rfl) (by kernel_rfl) (fun _ _ _ h=>h) (Or.inl ⟨by rfl,?y32⟩) (by assumption) ?r32
 case y32=>intro w hSw;clear hSw;go_simp;(try with_reducible rfl)
 simp only [Act.put,List.setIfInBounds_toArray,List.set_cons_zero,List.set_cons_succ]
 refine wpAnyH_take (i:=38) (oi:=⟨some 47,_,_,_,_,_⟩) (v:=?v33) rfl (by kernel_rfl) (by kernel_rfl) (by kernel_rfl) (fun _ _ _ h=>h) (Or.inl ⟨by rfl,?y33⟩) (by assumption) ?r33
 case y33=>intro w hSw;clear hSw;go_simp;(try with_reducible rfl)
 simp only [Act.put,List.setIfInBounds_toArray,List.set_cons_zero,List.set_cons_succ]
 refine wpAnyH_take (i:=39) (oi:=⟨some 48,_,_,_,_,_⟩) (v:=?v34) rfl (by kernel_rfl) (by kernel_rfl) (by kernel_rfl) (fun _ _ _ h=>h) (Or.inl ⟨by rfl,?y34⟩) (by assumption) ?r34
 case y34=>intro w hSw;skip;go_simp;(try with_reducible rfl)
 simp only [Act.put,List.setIfInBounds_toArray,List.set_cons_zero,List.set_cons_succ]
 refine wpAnyH_take (i:=41) (oi:=⟨some 50,_,_,_,_,_⟩) (v:=?v35) rfl (by kernel_rfl) (by kernel_rfl) (by kernel_rfl) (fun _ _ _ h=>h) (Or.inl ⟨by rfl,?y35⟩) (by assumption) ?r35
 case y35=>intro w hSw;clear hSw;go_simp;(try with_reducible rfl)
 simp only [Act.put,List.setIfInBounds_toArray,List.set_cons_zero,List.set_cons_succ]
 refine wpAnyH_take (i:=42) (oi:=⟨some 51,_,_,_,_,_⟩) (v:=?v36) rfl (by kernel_rfl) (by kernel_rfl) (by kernel_rfl) (fun _ _ _ h=>h) (Or.inl ⟨by rfl,?y36⟩) (by assumption) ?r36
 case y36=>intro w hSw;clear hSw;go_simp;(try with_reducible rfl)
 simp only [Act.put,List.setIfInBounds_toArray,List.set_cons_zero,List.set_cons_succ]
 refine wpAnyH_take (i:=43) (oi:=⟨some 52,_,_,_,_,_⟩) (v:=?v37) rfl (by kernel_rfl) (by kernel_rfl) (by kernel_rfl) (fun _ _ _ h=>h) (Or.inl ⟨by rfl,?y37⟩) (by assumption) ?r37
 case y37=>intro w hSw;clear hSw;go_simp;(try with_reducible rfl)
 simp only [Act.put,List.setIfInBounds_toArray,List.set_cons_zero,List.set_cons_succ]
 refine wpAnyH_take (i:=44) (oi:=⟨some 53,_,_,_,_,_⟩) (v:=?v38) rfl (by kernel_rfl) (by kernel_rfl) (by kernel_rfl) (fun _ _ _ h=>h) (Or.inl ⟨by rfl,?y38⟩) (by assumption) ?r38
 case y38=>intro w hSw;clear hSw;go_simp;(try with_reducible rfl)
 simp only [Act.put,List.setIfInBounds_toArray,List.set_cons_zero,List.set_cons_succ]
 refine wpAnyH_take (i:=45) (oi:=⟨some 54,_,_,_,_,_⟩) (v:=?v39) rfl (by kernel_rfl) (by kernel_rfl) (by kernel_rfl) (fun _ _ _ h=>h) (Or.inl ⟨by rfl,?y39⟩) (by assumption) ?r39
 case y39=>intro w hSw;skip;go_simp;(try with_reducible rfl)
 simp only [Act.put,List.setIfInBounds_toArray,List.set_cons_zero,List.set_cons_succ]
 refine wpAnyH_ready (rs:=[4,30]) (by kernel_rfl) (by simp) ?_
 refine AllReadyH.cons (o:=⟨some 13,_,_,_,_,_⟩) rfl (fun K hK=>?_) ?_
 ·go_simp
  refine (HFu.out _ hHeld.out.at_).mono ?_
  rintro e w1 ⟨rfl,hb⟩
  (first | (with_reducible have cc:=bel_cell hb (nc1 _ s.began _)) | (with_reducible have cc:=bel_cell hb (nc1' _ s.began _)) | (with_reducible have cc:=bel_cell hb cc) | (with_reducible have cc:=bel_cell hb (nc3 _ (W.heap.size + 1 + 1) s.began _ (by simp))) | (with_reducible have cc:=bel_cell hb (cell_dr (nc3 _ (W.heap.size + 1 + 1) s.began _ (by simp)))) | skip)
  go_wp2_with fail
  refine hK.out _ _ (sig_k hHeld hb) (fun hHeld=>?_)
  clear hK
  try simp only [List.setIfInBounds_toArray,List.set_cons_zero,List.set_cons_succ]
  refine wpAnyH_ready (rs:=[10,30]) (by kernel_rfl) (by simp) ?_
  refine AllReadyH.cons (o:=⟨some 19,_,_,_,_,_⟩) rfl (fun K hK=>?_) ?_
  ·go_simp
   refine (HSt.out _ hHeld.out.at_).mono ?_
   rintro e w1 ⟨rfl,hb⟩
   (first | (with_reducible have cc:=bel_cell hb (nc1 _ s.began _)) | (with_reducible have cc:=bel_cell hb (nc1' _ s.began _)) | (with_reducible have cc:=bel_cell hb cc) | (with_reducible have cc:=bel_cell hb (nc3 _ (W.heap.size + 1 + 1) s.began _ (by simp))) | (with_reducible have cc:=bel_cell hb (cell_dr (nc3 _ (W.heap.size + 1 + 1) s.began _ (by simp)))) | skip)
   go_wp2_with fail
   refine hK.out _ _ (sig_k hHeld hb) (fun hHeld=>?_)
   clear hK
   try simp only [List.setIfInBounds_toArray,List.set_cons_zero,List.set_cons_succ]
   refine wpAnyH_ready (rs:=[14,30]) (by kernel_rfl) (by simp) ?_
   refine AllReadyH.cons (o:=⟨some 23,_,_,_,_,_⟩) rfl (fun K hK=>?_) ?_
   ·go_simp
    refine (HHo.out _ hHeld.out.at_).mono ?_
    rintro e w1 ⟨rfl,hb⟩
    (first | (with_reducible have cc:=bel_cell hb (nc1 _ s.began _)) | (with_reducible have cc:=bel_cell hb (nc1' _ s.began _)) | (with_reducible have cc:=bel_cell hb cc) | (with_reducible have cc:=bel_cell hb (nc3 _ (W.heap.size + 1 + 1) s.began _ (by simp))) | (with_reducible have cc:=bel_cell hb (cell_dr (nc3 _ (W.heap.size + 1 + 1) s.began _ (by simp)))) | skip)
    go_wp2_with fail
    refine hK.out _ _ (sig_k hHeld hb) (fun hHeld=>?_)
    clear hK
    try simp only [List.setIfInBounds_toArray,List.set_cons_zero,List.set_cons_succ]
    refine wpAnyH_ready (rs:=[19,30]) (by kernel_rfl) (by simp) ?_
    refine AllReadyH.cons (o:=⟨some 28,_,_,_,_,_⟩) rfl (fun K hK=>?_) ?_
    ·go_simp
     refine (HRo.out _ hHeld.out.at_).mono ?_
     rintro e w1 ⟨rfl,hb⟩
     (first | (with_reducible have cc:=bel_cell hb (nc1 _ s.began _)) | (with_reducible have cc:=bel_cell hb (nc1' _ s.began _)) | (with_reducible have cc:=bel_cell hb cc) | (with_reducible have cc:=bel_cell hb (nc3 _ (W.heap.size + 1 + 1) s.began _ (by simp))) | (with_reducible have cc:=bel_cell hb (cell_dr (nc3 _ (W.heap.size + 1 + 1) s.began _ (by simp)))) | skip)
     go_wp2_with fail
     refine hK.out _ _ (sig_k hHeld hb) (fun hHeld=>?_)
     clear hK
     try simp only [List.setIfInBounds_toArray,List.set_cons_zero,List.set_cons_succ]
     refine wpAnyH_ready (rs:=[30]) (by kernel_rfl) (by simp) ?_
     refine AllReadyH.cons (o:=⟨some 39,_,_,_,_,_⟩) rfl (fun K hK=>?_) AllReadyH.nil
     go_simp
     refine hK.out _ _ (sig_k hHeld (al_be _ _)) (fun hHeld=>?_)
     clear hK
     try simp only [List.setIfInBounds_toArray,List.set_cons_zero,List.set_cons_succ]
     refine wpAnyH_ready (rs:=[31]) (by kernel_rfl) (by simp) ?_
     refine AllReadyH.cons (o:=⟨some 40,_,_,_,_,_⟩) rfl (fun K hK=>?_) AllReadyH.nil
     go_simp
     refine (HSu.out _ _ (by first | with_reducible exact cc | (simp at cc;exact cc) | with_reducible exact nc1 _ _ _ | with_reducible exact nc1' _ _ _)).mono ?_
     rintro e w1 ⟨rfl,hb⟩
     go_wp2_with fail
     refine hK.out _ _ (sig_k hHeld hb) (fun hHeld=>?_)
     clear hK
     try simp only [List.setIfInBounds_toArray,List.set_cons_zero,List.set_cons_succ]
     refine wpAnyH_ready (rs:=[40]) (by kernel_rfl) (by simp) ?_
     refine AllReadyH.cons (o:=⟨some 49,_,_,_,_,_⟩) rfl (fun K hK=>?_) AllReadyH.nil
     go_simp
     refine (HCo.out _ hHeld.out.at_).mono ?_
     rintro e w1 ⟨rfl,hb⟩
     (first | (with_reducible have cc:=bel_cell hb (nc1 _ s.began _)) | (with_reducible have cc:=bel_cell hb (nc1' _ s.began _)) | (with_reducible have cc:=bel_cell hb cc) | (with_reducible have cc:=bel_cell hb (nc3 _ (W.heap.size + 1 + 1) s.began _ (by simp))) | (with_reducible have cc:=bel_cell hb (cell_dr (nc3 _ (W.heap.size + 1 + 1) s.began _ (by simp)))) | skip)
     go_wp2_with fail
     refine hK.out _ _ (sig_k hHeld hb) (fun hHeld=>?_)
     clear hK
     try simp only [List.setIfInBounds_toArray,List.set_cons_zero,List.set_cons_succ]
     refine wpAnyH_ready (rs:=[46]) (by kernel_rfl) (by simp) ?_
     refine AllReadyH.cons (o:=⟨some 55,_,_,_,_,_⟩) rfl (fun K hK=>?_) AllReadyH.nil
     go_simp
     refine (HWa.out _ hHeld.out.at_).mono ?_
     rintro e w1 ⟨rfl,hb⟩
     (first | (with_reducible have cc:=bel_cell hb (nc1 _ s.began _)) | (with_reducible have cc:=bel_cell hb (nc1' _ s.began _)) | (with_reducible have cc:=bel_cell hb cc) | (with_reducible have cc:=bel_cell hb (nc3 _ (W.heap.size + 1 + 1) s.began _ (by simp))) | (with_reducible have cc:=bel_cell hb (cell_dr (nc3 _ (W.heap.size + 1 + 1) s.began _ (by simp)))) | skip)
     go_wp2_with fail
     refine hK.out _ _ (sig_k hHeld hb) (fun hHeld=>?_)
     clear hK
     try simp only [List.setIfInBounds_toArray,List.set_cons_zero,List.set_cons_succ]
     refine wpAnyH_take (i:=47) (oi:=⟨some 56,_,_,_,_,_⟩) (v:=?v40) rfl (by kernel_rfl) (by kernel_rfl) (by kernel_rfl) (fun _ _ _ h=>h) (Or.inl ⟨by rfl,?y40⟩) (by assumption) ?r40
     case y40=>intro w hSw;clear hSw;go_simp;(try with_reducible rfl)
     simp only [Act.put,List.setIfInBounds_toArray,List.set_cons_zero,List.set_cons_succ]
     refine wpAnyH_ready (rs:=[48]) (by kernel_rfl) (by simp) ?_
     refine AllReadyH.cons (o:=⟨none,_,_,_,_,_⟩) rfl (fun K hK=>?_) AllReadyH.nil
     obtain ⟨cs,hsz,hre⟩:=hHeld.out.re
     rw [if_pos (by rfl)]
     refine wp_store_row _ _ _ rfl (W.heap.size + 1) #[.bool d0,.bool ov,.bool lo,.bool d3,.int .u64 (x.fl:Int),.int .u64 (d5:Int),.int .u64 (d6:Int),.int .u64 (s.rounds:Int),.int .u64 (d8:Int),.int .u64 (d9:Int)] rfl rfl _ cs hre (by kernel_rfl) hsz (by simp [Value.oneCell']) ?_
     refine hK.out _ _ (sig_row hHeld #[.bool d0,.bool ov,.bool lo,.bool d3,.int .u64 (x.fl:Int),.int .u64 (d5:Int),.int .u64 (d6:Int),.int .u64 (s.rounds:Int),.int .u64 (d8:Int),.int .u64 (d9:Int)] rfl) (fun hHeld=>?_)
     clear hK
     try simp only [List.setIfInBounds_toArray,List.set_cons_zero,List.set_cons_succ]
     refine wpAnyH_done (by kernel_rfl) ?_ _
     refine NoPanic.normal ?_
     have F1:=Lib.hid (Blk.row hre #[.bool d0,.bool ov,.bool lo,.bool d3,.int .u64 (x.fl:Int),.int .u64 (d5:Int),.int .u64 (d6:Int),.int .u64 (s.rounds:Int),.int .u64 (d8:Int),.int .u64 (d9:Int)])
     have FW:=Lib.hid hHeld.out.bel
     go_wp2_with fail
     exact bodyPost_ret (results_cell rfl _ _ (W.heap.size + 1) 259 _ _ rfl F1.out Tryz.underlying259 rfl (by kernel_rfl)) rfl ⟨by rw [HT.out],FW.out⟩
    refine AllReadyH.cons (o:=⟨some 39,_,_,_,_,_⟩) rfl (fun K hK=>?_) AllReadyH.nil
    go_simp
    refine hK.out _ _ (sig_k hHeld (al_be _ _)) (fun hHeld=>?_)
    clear hK
    try simp only [List.setIfInBounds_toArray,List.set_cons_zero,List.set_cons_succ]
    refine wpAnyH_ready (rs:=[19]) (by kernel_rfl) (by simp) ?_
    refine AllReadyH.cons (o:=⟨some 28,_,_,_,_,_⟩) rfl (fun K hK=>?_) AllReadyH.nil
    go_simp
    refine (HRo.out _ hHeld.out.at_).mono ?_
    rintro e w1 ⟨rfl,hb⟩
    (first | (with_reducible have cc:=bel_cell hb (nc1 _ s.began _)) | (with_reducible have cc:=bel_cell hb (nc1' _ s.began _)) | (with_reducible have cc:=bel_cell hb cc) | (with_reducible have cc:=bel_cell hb (nc3 _ (W.heap.size + 1 + 1) s.began _ (by simp))) | (with_reducible have cc:=bel_cell hb (cell_dr (nc3 _ (W.heap.size + 1 + 1) s.began _ (by simp)))) | skip)
    go_wp2_with fail
    refine hK.out _ _ (sig_k hHeld hb) (fun hHeld=>?_)
    clear hK
    try simp only [List.setIfInBounds_toArray,List.set_cons_zero,List.set_cons_succ]
    refine wpAnyH_ready (rs:=[31]) (by kernel_rfl) (by simp) ?_
    refine AllReadyH.cons (o:=⟨some 40,_,_,_,_,_⟩) rfl (fun K hK=>?_) AllReadyH.nil
    go_simp
    refine (HSu.out _ _ (by first | with_reducible exact cc | (simp at cc;exact cc) | with_reducible exact nc1 _ _ _ | with_reducible exact nc1' _ _ _)).mono ?_
    rintro e w1 ⟨rfl,hb⟩
    go_wp2_with fail
    refine hK.out _ _ (sig_k hHeld hb) (fun hHeld=>?_)
    clear hK
    try simp only [List.setIfInBounds_toArray,List.set_cons_zero,List.set_cons_succ]
    refine wpAnyH_ready (rs:=[40]) (by kernel_rfl) (by simp) ?_
    refine AllReadyH.cons (o:=⟨some 49,_,_,_,_,_⟩) rfl (fun K hK=>?_) AllReadyH.nil
    go_simp
    refine (HCo.out _ hHeld.out.at_).mono ?_
    rintro e w1 ⟨rfl,hb⟩
    (first | (with_reducible have cc:=bel_cell hb (nc1 _ s.began _)) | (with_reducible have cc:=bel_cell hb (nc1' _ s.began _)) | (with_reducible have cc:=bel_cell hb cc) | (with_reducible have cc:=bel_cell hb (nc3 _ (W.heap.size + 1 + 1) s.began _ (by simp))) | (with_reducible have cc:=bel_cell hb (cell_dr (nc3 _ (W.heap.size + 1 + 1) s.began _ (by simp)))) | skip)
    go_wp2_with fail
    refine hK.out _ _ (sig_k hHeld hb) (fun hHeld=>?_)
    clear hK
    try simp only [List.setIfInBounds_toArray,List.set_cons_zero,List.set_cons_succ]
    refine wpAnyH_ready (rs:=[46]) (by kernel_rfl) (by simp) ?_
    refine AllReadyH.cons (o:=⟨some 55,_,_,_,_,_⟩) rfl (fun K hK=>?_) AllReadyH.nil
    go_simp
    refine (HWa.out _ hHeld.out.at_).mono ?_
    rintro e w1 ⟨rfl,hb⟩
    (first | (with_reducible have cc:=bel_cell hb (nc1 _ s.began _)) | (with_reducible have cc:=bel_cell hb (nc1' _ s.began _)) | (with_reducible have cc:=bel_cell hb cc) | (with_reducible have cc:=bel_cell hb (nc3 _ (W.heap.size + 1 + 1) s.began _ (by simp))) | (with_reducible have cc:=bel_cell hb (cell_dr (nc3 _ (W.heap.size + 1 + 1) s.began _ (by simp)))) | skip)
    go_wp2_with fail
    refine hK.out _ _ (sig_k hHeld hb) (fun hHeld=>?_)
    clear hK
    try simp only [List.setIfInBounds_toArray,List.set_cons_zero,List.set_cons_succ]
    refine wpAnyH_take (i:=47) (oi:=⟨some 56,_,_,_,_,_⟩) (v:=?v41) rfl (by kernel_rfl) (by kernel_rfl) (by kernel_rfl) (fun _ _ _ h=>h) (Or.inl ⟨by rfl,?y41⟩) (by assumption) ?r41
    case y41=>intro w hSw;clear hSw;go_simp;(try with_reducible rfl)
    simp only [Act.put,List.setIfInBounds_toArray,List.set_cons_zero,List.set_cons_succ]
    refine wpAnyH_ready (rs:=[48]) (by kernel_rfl) (by simp) ?_
    refine AllReadyH.cons (o:=⟨none,_,_,_,_,_⟩) rfl (fun K hK=>?_) AllReadyH.nil
    obtain ⟨cs,hsz,hre⟩:=hHeld.out.re
    rw [if_pos (by rfl)]
    refine wp_store_row _ _ _ rfl (W.heap.size + 1) #[.bool d0,.bool ov,.bool lo,.bool d3,.int .u64 (x.fl:Int),.int .u64 (d5:Int),.int .u64 (d6:Int),.int .u64 (s.rounds:Int),.int .u64 (d8:Int),.int .u64 (d9:Int)] rfl rfl _ cs hre (by kernel_rfl) hsz (by simp [Value.oneCell']) ?_
    refine hK.out _ _ (sig_row hHeld #[.bool d0,.bool ov,.bool lo,.bool d3,.int .u64 (x.fl:Int),.int .u64 (d5:Int),.int .u64 (d6:Int),.int .u64 (s.rounds:Int),.int .u64 (d8:Int),.int .u64 (d9:Int)] rfl) (fun hHeld=>?_)
    clear hK
    try simp only [List.setIfInBounds_toArray,List.set_cons_zero,List.set_cons_succ]
    refine wpAnyH_done (by kernel_rfl) ?_ _
    refine NoPanic.normal ?_
    have F1:=Lib.hid (Blk.row hre #[.bool d0,.bool ov,.bool lo,.bool d3,.int .u64 (x.fl:Int),.int .u64 (d5:Int),.int .u64 (d6:Int),.int .u64 (s.rounds:Int),.int .u64 (d8:Int),.int .u64 (d9:Int)])
    have FW:=Lib.hid hHeld.out.bel
    go_wp2_with fail
    exact bodyPost_ret (results_cell rfl _ _ (W.heap.size + 1) 259 _ _ rfl F1.out Tryz.underlying259 rfl (by kernel_rfl)) rfl ⟨by rw [HT.out],FW.out⟩
   refine AllReadyH.cons (o:=⟨some 39,_,_,_,_,_⟩) rfl (fun K hK=>?_) AllReadyH.nil
   go_simp
   refine hK.out _ _ (sig_k hHeld (al_be _ _)) (fun hHeld=>?_)
   clear hK
   try simp only [List.setIfInBounds_toArray,List.set_cons_zero,List.set_cons_succ]
   refine wpAnyH_ready (rs:=[14]) (by kernel_rfl) (by simp) ?_
   refine AllReadyH.cons (o:=⟨some 23,_,_,_,_,_⟩) rfl (fun K hK=>?_) AllReadyH.nil
   go_simp
   refine (HHo.out _ hHeld.out.at_).mono ?_
   rintro e w1 ⟨rfl,hb⟩
   (first | (with_reducible have cc:=bel_cell hb (nc1 _ s.began _)) | (with_reducible have cc:=bel_cell hb (nc1' _ s.began _)) | (with_reducible have cc:=bel_cell hb cc) | (with_reducible have cc:=bel_cell hb (nc3 _ (W.heap.size + 1 + 1) s.began _ (by simp))) | (with_reducible have cc:=bel_cell hb (cell_dr (nc3 _ (W.heap.size + 1 + 1) s.began _ (by simp)))) | skip)
   go_wp2_with fail
   refine hK.out _ _ (sig_k hHeld hb) (fun hHeld=>?_)
   clear hK
   try simp only [List.setIfInBounds_toArray,List.set_cons_zero,List.set_cons_succ]
   refine wpAnyH_ready (rs:=[19]) (by kernel_rfl) (by simp) ?_
   refine AllReadyH.cons (o:=⟨some 28,_,_,_,_,_⟩) rfl (fun K hK=>?_) AllReadyH.nil
   go_simp
   refine (HRo.out _ hHeld.out.at_).mono ?_
   rintro e w1 ⟨rfl,hb⟩
   (first | (with_reducible have cc:=bel_cell hb (nc1 _ s.began _)) | (with_reducible have cc:=bel_cell hb (nc1' _ s.began _)) | (with_reducible have cc:=bel_cell hb cc) | (with_reducible have cc:=bel_cell hb (nc3 _ (W.heap.size + 1 + 1) s.began _ (by simp))) | (with_reducible have cc:=bel_cell hb (cell_dr (nc3 _ (W.heap.size + 1 + 1) s.began _ (by simp)))) | skip)
   go_wp2_with fail
   refine hK.out _ _ (sig_k hHeld hb) (fun hHeld=>?_)
   clear hK
   try simp only [List.setIfInBounds_toArray,List.set_cons_zero,List.set_cons_succ]
   refine wpAnyH_ready (rs:=[31]) (by kernel_rfl) (by simp) ?_
   refine AllReadyH.cons (o:=⟨some 40,_,_,_,_,_⟩) rfl (fun K hK=>?_) AllReadyH.nil
   go_simp
   refine (HSu.out _ _ (by first | with_reducible exact cc | (simp at cc;exact cc) | with_reducible exact nc1 _ _ _ | with_reducible exact nc1' _ _ _)).mono ?_
   rintro e w1 ⟨rfl,hb⟩
   go_wp2_with fail
   refine hK.out _ _ (sig_k hHeld hb) (fun hHeld=>?_)
   clear hK
   try simp only [List.setIfInBounds_toArray,List.set_cons_zero,List.set_cons_succ]
   refine wpAnyH_ready (rs:=[40]) (by kernel_rfl) (by simp) ?_
   refine AllReadyH.cons (o:=⟨some 49,_,_,_,_,_⟩) rfl (fun K hK=>?_) AllReadyH.nil
   go_simp
   refine (HCo.out _ hHeld.out.at_).mono ?_
   rintro e w1 ⟨rfl,hb⟩
   (first | (with_reducible have cc:=bel_cell hb (nc1 _ s.began _)) | (with_reducible have cc:=bel_cell hb (nc1' _ s.began _)) | (with_reducible have cc:=bel_cell hb cc) | (with_reducible have cc:=bel_cell hb (nc3 _ (W.heap.size + 1 + 1) s.began _ (by simp))) | (with_reducible have cc:=bel_cell hb (cell_dr (nc3 _ (W.heap.size + 1 + 1) s.began _ (by simp)))) | skip)
   go_wp2_with fail
   refine hK.out _ _ (sig_k hHeld hb) (fun hHeld=>?_)
   clear hK
   try simp only [List.setIfInBounds_toArray,List.set_cons_zero,List.set_cons_succ]
   refine wpAnyH_ready (rs:=[46]) (by kernel_rfl) (by simp) ?_
   refine AllReadyH.cons (o:=⟨some 55,_,_,_,_,_⟩) rfl (fun K hK=>?_) AllReadyH.nil
   go_simp
   refine (HWa.out _ hHeld.out.at_).mono ?_
   rintro e w1 ⟨rfl,hb⟩
   (first | (with_reducible have cc:=bel_cell hb (nc1 _ s.began _)) | (with_reducible have cc:=bel_cell hb (nc1' _ s.began _)) | (with_reducible have cc:=bel_cell hb cc) | (with_reducible have cc:=bel_cell hb (nc3 _ (W.heap.size + 1 + 1) s.began _ (by simp))) | (with_reducible have cc:=bel_cell hb (cell_dr (nc3 _ (W.heap.size + 1 + 1) s.began _ (by simp)))) | skip)
   go_wp2_with fail
   refine hK.out _ _ (sig_k hHeld hb) (fun hHeld=>?_)
   clear hK
   try simp only [List.setIfInBounds_toArray,List.set_cons_zero,List.set_cons_succ]
   refine wpAnyH_take (i:=47) (oi:=⟨some 56,_,_,_,_,_⟩) (v:=?v42) rfl (by kernel_rfl) (by kernel_rfl) (by kernel_rfl) (fun _ _ _ h=>h) (Or.inl ⟨by rfl,?y42⟩) (by assumption) ?r42
   case y42=>intro w hSw;clear hSw;go_simp;(try with_reducible rfl)
   simp only [Act.put,List.setIfInBounds_toArray,List.set_cons_zero,List.set_cons_succ]
   refine wpAnyH_ready (rs:=[48]) (by kernel_rfl) (by simp) ?_
   refine AllReadyH.cons (o:=⟨none,_,_,_,_,_⟩) rfl (fun K hK=>?_) AllReadyH.nil
   obtain ⟨cs,hsz,hre⟩:=hHeld.out.re
   rw [if_pos (by rfl)]
   refine wp_store_row _ _ _ rfl (W.heap.size + 1) #[.bool d0,.bool ov,.bool lo,.bool d3,.int .u64 (x.fl:Int),.int .u64 (d5:Int),.int .u64 (d6:Int),.int .u64 (s.rounds:Int),.int .u64 (d8:Int),.int .u64 (d9:Int)] rfl rfl _ cs hre (by kernel_rfl) hsz (by simp [Value.oneCell']) ?_
   refine hK.out _ _ (sig_row hHeld #[.bool d0,.bool ov,.bool lo,.bool d3,.int .u64 (x.fl:Int),.int .u64 (d5:Int),.int .u64 (d6:Int),.int .u64 (s.rounds:Int),.int .u64 (d8:Int),.int .u64 (d9:Int)] rfl) (fun hHeld=>?_)
   clear hK
   try simp only [List.setIfInBounds_toArray,List.set_cons_zero,List.set_cons_succ]
   refine wpAnyH_done (by kernel_rfl) ?_ _
   refine NoPanic.normal ?_
   have F1:=Lib.hid (Blk.row hre #[.bool d0,.bool ov,.bool lo,.bool d3,.int .u64 (x.fl:Int),.int .u64 (d5:Int),.int .u64 (d6:Int),.int .u64 (s.rounds:Int),.int .u64 (d8:Int),.int .u64 (d9:Int)])
   have FW:=Lib.hid hHeld.out.bel
   go_wp2_with fail
   exact bodyPost_ret (results_cell rfl _ _ (W.heap.size + 1) 259 _ _ rfl F1.out Tryz.underlying259 rfl (by kernel_rfl)) rfl ⟨by rw [HT.out],FW.out⟩
  refine AllReadyH.cons (o:=⟨some 39,_,_,_,_,_⟩) rfl (fun K hK=>?_) AllReadyH.nil
  go_simp
  refine hK.out _ _ (sig_k hHeld (al_be _ _)) (fun hHeld=>?_)
  clear hK
  try simp only [List.setIfInBounds_toArray,List.set_cons_zero,List.set_cons_succ]
  refine wpAnyH_ready (rs:=[10]) (by kernel_rfl) (by simp) ?_
  refine AllReadyH.cons (o:=⟨some 19,_,_,_,_,_⟩) rfl (fun K hK=>?_) AllReadyH.nil
  go_simp
  refine (HSt.out _ hHeld.out.at_).mono ?_
  rintro e w1 ⟨rfl,hb⟩
  (first | (with_reducible have cc:=bel_cell hb (nc1 _ s.began _)) | (with_reducible have cc:=bel_cell hb (nc1' _ s.began _)) | (with_reducible have cc:=bel_cell hb cc) | (with_reducible have cc:=bel_cell hb (nc3 _ (W.heap.size + 1 + 1) s.began _ (by simp))) | (with_reducible have cc:=bel_cell hb (cell_dr (nc3 _ (W.heap.size + 1 + 1) s.began _ (by simp)))) | skip)
  go_wp2_with fail
  refine hK.out _ _ (sig_k hHeld hb) (fun hHeld=>?_)
  clear hK
  try simp only [List.setIfInBounds_toArray,List.set_cons_zero,List.set_cons_succ]
  refine wpAnyH_ready (rs:=[14]) (by kernel_rfl) (by simp) ?_
  refine AllReadyH.cons (o:=⟨some 23,_,_,_,_,_⟩) rfl (fun K hK=>?_) AllReadyH.nil
  go_simp
  refine (HHo.out _ hHeld.out.at_).mono ?_
  rintro e w1 ⟨rfl,hb⟩
  (first | (with_reducible have cc:=bel_cell hb (nc1 _ s.began _)) | (with_reducible have cc:=bel_cell hb (nc1' _ s.began _)) | (with_reducible have cc:=bel_cell hb cc) | (with_reducible have cc:=bel_cell hb (nc3 _ (W.heap.size + 1 + 1) s.began _ (by simp))) | (with_reducible have cc:=bel_cell hb (cell_dr (nc3 _ (W.heap.size + 1 + 1) s.began _ (by simp)))) | skip)
  go_wp2_with fail
  refine hK.out _ _ (sig_k hHeld hb) (fun hHeld=>?_)
  clear hK
  try simp only [List.setIfInBounds_toArray,List.set_cons_zero,List.set_cons_succ]
  refine wpAnyH_ready (rs:=[19]) (by kernel_rfl) (by simp) ?_
  refine AllReadyH.cons (o:=⟨some 28,_,_,_,_,_⟩) rfl (fun K hK=>?_) AllReadyH.nil
  go_simp
  refine (HRo.out _ hHeld.out.at_).mono ?_
  rintro e w1 ⟨rfl,hb⟩
  (first | (with_reducible have cc:=bel_cell hb (nc1 _ s.began _)) | (with_reducible have cc:=bel_cell hb (nc1' _ s.began _)) | (with_reducible have cc:=bel_cell hb cc) | (with_reducible have cc:=bel_cell hb (nc3 _ (W.heap.size + 1 + 1) s.began _ (by simp))) | (with_reducible have cc:=bel_cell hb (cell_dr (nc3 _ (W.heap.size + 1 + 1) s.began _ (by simp)))) | skip)
  go_wp2_with fail
  refine hK.out _ _ (sig_k hHeld hb) (fun hHeld=>?_)
  clear hK
  try simp only [List.setIfInBounds_toArray,List.set_cons_zero,List.set_cons_succ]
  refine wpAnyH_ready (rs:=[31]) (by kernel_rfl) (by simp) ?_
  refine AllReadyH.cons (o:=⟨some 40,_,_,_,_,_⟩) rfl (fun K hK=>?_) AllReadyH.nil
  go_simp
  refine (HSu.out _ _ (by first | with_reducible exact cc | (simp at cc;exact cc) | with_reducible exact nc1 _ _ _ | with_reducible exact nc1' _ _ _)).mono ?_
  rintro e w1 ⟨rfl,hb⟩
  go_wp2_with fail
  refine hK.out _ _ (sig_k hHeld hb) (fun hHeld=>?_)
  clear hK
  try simp only [List.setIfInBounds_toArray,List.set_cons_zero,List.set_cons_succ]
  refine wpAnyH_ready (rs:=[40]) (by kernel_rfl) (by simp) ?_
  refine AllReadyH.cons (o:=⟨some 49,_,_,_,_,_⟩) rfl (fun K hK=>?_) AllReadyH.nil
  go_simp
  refine (HCo.out _ hHeld.out.at_).mono ?_
  rintro e w1 ⟨rfl,hb⟩
  (first | (with_reducible have cc:=bel_cell hb (nc1 _ s.began _)) | (with_reducible have cc:=bel_cell hb (nc1' _ s.began _)) | (with_reducible have cc:=bel_cell hb cc) | (with_reducible have cc:=bel_cell hb (nc3 _ (W.heap.size + 1 + 1) s.began _ (by simp))) | (with_reducible have cc:=bel_cell hb (cell_dr (nc3 _ (W.heap.size + 1 + 1) s.began _ (by simp)))) | skip)
  go_wp2_with fail
  refine hK.out _ _ (sig_k hHeld hb) (fun hHeld=>?_)
  clear hK
  try simp only [List.setIfInBounds_toArray,List.set_cons_zero,List.set_cons_succ]
  refine wpAnyH_ready (rs:=[46]) (by kernel_rfl) (by simp) ?_
  refine AllReadyH.cons (o:=⟨some 55,_,_,_,_,_⟩) rfl (fun K hK=>?_) AllReadyH.nil
  go_simp
  refine (HWa.out _ hHeld.out.at_).mono ?_
  rintro e w1 ⟨rfl,hb⟩
  (first | (with_reducible have cc:=bel_cell hb (nc1 _ s.began _)) | (with_reducible have cc:=bel_cell hb (nc1' _ s.began _)) | (with_reducible have cc:=bel_cell hb cc) | (with_reducible have cc:=bel_cell hb (nc3 _ (W.heap.size + 1 + 1) s.began _ (by simp))) | (with_reducible have cc:=bel_cell hb (cell_dr (nc3 _ (W.heap.size + 1 + 1) s.began _ (by simp)))) | skip)
  go_wp2_with fail
  refine hK.out _ _ (sig_k hHeld hb) (fun hHeld=>?_)
  clear hK
  try simp only [List.setIfInBounds_toArray,List.set_cons_zero,List.set_cons_succ]
  refine wpAnyH_take (i:=47) (oi:=⟨some 56,_,_,_,_,_⟩) (v:=?v43) rfl (by kernel_rfl) (by kernel_rfl) (by kernel_rfl) (fun _ _ _ h=>h) (Or.inl ⟨by rfl,?y43⟩) (by assumption) ?r43
  case y43=>intro w hSw;clear hSw;go_simp;(try with_reducible rfl)
  simp only [Act.put,List.setIfInBounds_toArray,List.set_cons_zero,List.set_cons_succ]
  refine wpAnyH_ready (rs:=[48]) (by kernel_rfl) (by simp) ?_
  refine AllReadyH.cons (o:=⟨none,_,_,_,_,_⟩) rfl (fun K hK=>?_) AllReadyH.nil
  obtain ⟨cs,hsz,hre⟩:=hHeld.out.re
  rw [if_pos (by rfl)]
  refine wp_store_row _ _ _ rfl (W.heap.size + 1) #[.bool d0,.bool ov,.bool lo,.bool d3,.int .u64 (x.fl:Int),.int .u64 (d5:Int),.int .u64 (d6:Int),.int .u64 (s.rounds:Int),.int .u64 (d8:Int),.int .u64 (d9:Int)] rfl rfl _ cs hre (by kernel_rfl) hsz (by simp [Value.oneCell']) ?_
  refine hK.out _ _ (sig_row hHeld #[.bool d0,.bool ov,.bool lo,.bool d3,.int .u64 (x.fl:Int),.int .u64 (d5:Int),.int .u64 (d6:Int),.int .u64 (s.rounds:Int),.int .u64 (d8:Int),.int .u64 (d9:Int)] rfl) (fun hHeld=>?_)
  clear hK
  try simp only [List.setIfInBounds_toArray,List.set_cons_zero,List.set_cons_succ]
  refine wpAnyH_done (by kernel_rfl) ?_ _
  refine NoPanic.normal ?_
  have F1:=Lib.hid (Blk.row hre #[.bool d0,.bool ov,.bool lo,.bool d3,.int .u64 (x.fl:Int),.int .u64 (d5:Int),.int .u64 (d6:Int),.int .u64 (s.rounds:Int),.int .u64 (d8:Int),.int .u64 (d9:Int)])
  have FW:=Lib.hid hHeld.out.bel
  go_wp2_with fail
  exact bodyPost_ret (results_cell rfl _ _ (W.heap.size + 1) 259 _ _ rfl F1.out Tryz.underlying259 rfl (by kernel_rfl)) rfl ⟨by rw [HT.out],FW.out⟩
 refine AllReadyH.cons (o:=⟨some 39,_,_,_,_,_⟩) rfl (fun K hK=>?_) AllReadyH.nil
 go_simp
 refine hK.out _ _ (sig_k hHeld (al_be _ _)) (fun hHeld=>?_)
 clear hK
 try simp only [List.setIfInBounds_toArray,List.set_cons_zero,List.set_cons_succ]
 refine wpAnyH_ready (rs:=[4]) (by kernel_rfl) (by simp) ?_
 refine AllReadyH.cons (o:=⟨some 13,_,_,_,_,_⟩) rfl (fun K hK=>?_) AllReadyH.nil
 go_simp
 refine (HFu.out _ hHeld.out.at_).mono ?_
 rintro e w1 ⟨rfl,hb⟩
 (first | (with_reducible have cc:=bel_cell hb (nc1 _ s.began _)) | (with_reducible have cc:=bel_cell hb (nc1' _ s.began _)) | (with_reducible have cc:=bel_cell hb cc) | (with_reducible have cc:=bel_cell hb (nc3 _ (W.heap.size + 1 + 1) s.began _ (by simp))) | (with_reducible have cc:=bel_cell hb (cell_dr (nc3 _ (W.heap.size + 1 + 1) s.began _ (by simp)))) | skip)
 go_wp2_with fail
 refine hK.out _ _ (sig_k hHeld hb) (fun hHeld=>?_)
 clear hK
 try simp only [List.setIfInBounds_toArray,List.set_cons_zero,List.set_cons_succ]
 refine wpAnyH_ready (rs:=[10]) (by kernel_rfl) (by simp) ?_
 refine AllReadyH.cons (o:=⟨some 19,_,_,_,_,_⟩) rfl (fun K hK=>?_) AllReadyH.nil
 go_simp
 refine (HSt.out _ hHeld.out.at_).mono ?_
 rintro e w1 ⟨rfl,hb⟩
 (first | (with_reducible have cc:=bel_cell hb (nc1 _ s.began _)) | (with_reducible have cc:=bel_cell hb (nc1' _ s.began _)) | (with_reducible have cc:=bel_cell hb cc) | (with_reducible have cc:=bel_cell hb (nc3 _ (W.heap.size + 1 + 1) s.began _ (by simp))) | (with_reducible have cc:=bel_cell hb (cell_dr (nc3 _ (W.heap.size + 1 + 1) s.began _ (by simp)))) | skip)
 go_wp2_with fail
 refine hK.out _ _ (sig_k hHeld hb) (fun hHeld=>?_)
 clear hK
 try simp only [List.setIfInBounds_toArray,List.set_cons_zero,List.set_cons_succ]
 refine wpAnyH_ready (rs:=[14]) (by kernel_rfl) (by simp) ?_
 refine AllReadyH.cons (o:=⟨some 23,_,_,_,_,_⟩) rfl (fun K hK=>?_) AllReadyH.nil
 go_simp
 refine (HHo.out _ hHeld.out.at_).mono ?_
 rintro e w1 ⟨rfl,hb⟩
 (first | (with_reducible have cc:=bel_cell hb (nc1 _ s.began _)) | (with_reducible have cc:=bel_cell hb (nc1' _ s.began _)) | (with_reducible have cc:=bel_cell hb cc) | (with_reducible have cc:=bel_cell hb (nc3 _ (W.heap.size + 1 + 1) s.began _ (by simp))) | (with_reducible have cc:=bel_cell hb (cell_dr (nc3 _ (W.heap.size + 1 + 1) s.began _ (by simp)))) | skip)
 go_wp2_with fail
 refine hK.out _ _ (sig_k hHeld hb) (fun hHeld=>?_)
 clear hK
 try simp only [List.setIfInBounds_toArray,List.set_cons_zero,List.set_cons_succ]
 refine wpAnyH_ready (rs:=[19]) (by kernel_rfl) (by simp) ?_
 refine AllReadyH.cons (o:=⟨some 28,_,_,_,_,_⟩) rfl (fun K hK=>?_) AllReadyH.nil
 go_simp
 refine (HRo.out _ hHeld.out.at_).mono ?_
 rintro e w1 ⟨rfl,hb⟩
 (first | (with_reducible have cc:=bel_cell hb (nc1 _ s.began _)) | (with_reducible have cc:=bel_cell hb (nc1' _ s.began _)) | (with_reducible have cc:=bel_cell hb cc) | (with_reducible have cc:=bel_cell hb (nc3 _ (W.heap.size + 1 + 1) s.began _ (by simp))) | (with_reducible have cc:=bel_cell hb (cell_dr (nc3 _ (W.heap.size + 1 + 1) s.began _ (by simp)))) | skip)
 go_wp2_with fail
 refine hK.out _ _ (sig_k hHeld hb) (fun hHeld=>?_)
 clear hK
 try simp only [List.setIfInBounds_toArray,List.set_cons_zero,List.set_cons_succ]
 refine wpAnyH_ready (rs:=[31]) (by kernel_rfl) (by simp) ?_
 refine AllReadyH.cons (o:=⟨some 40,_,_,_,_,_⟩) rfl (fun K hK=>?_) AllReadyH.nil
 go_simp
 refine (HSu.out _ _ (by first | with_reducible exact cc | (simp at cc;exact cc) | with_reducible exact nc1 _ _ _ | with_reducible exact nc1' _ _ _)).mono ?_
 rintro e w1 ⟨rfl,hb⟩
 go_wp2_with fail
 refine hK.out _ _ (sig_k hHeld hb) (fun hHeld=>?_)
 clear hK
 try simp only [List.setIfInBounds_toArray,List.set_cons_zero,List.set_cons_succ]
 refine wpAnyH_ready (rs:=[40]) (by kernel_rfl) (by simp) ?_
 refine AllReadyH.cons (o:=⟨some 49,_,_,_,_,_⟩) rfl (fun K hK=>?_) AllReadyH.nil
 go_simp
 refine (HCo.out _ hHeld.out.at_).mono ?_
 rintro e w1 ⟨rfl,hb⟩
 (first | (with_reducible have cc:=bel_cell hb (nc1 _ s.began _)) | (with_reducible have cc:=bel_cell hb (nc1' _ s.began _)) | (with_reducible have cc:=bel_cell hb cc) | (with_reducible have cc:=bel_cell hb (nc3 _ (W.heap.size + 1 + 1) s.began _ (by simp))) | (with_reducible have cc:=bel_cell hb (cell_dr (nc3 _ (W.heap.size + 1 + 1) s.began _ (by simp)))) | skip)
 go_wp2_with fail
 refine hK.out _ _ (sig_k hHeld hb) (fun hHeld=>?_)
 clear hK
 try simp only [List.setIfInBounds_toArray,List.set_cons_zero,List.set_cons_succ]
 refine wpAnyH_ready (rs:=[46]) (by kernel_rfl) (by simp) ?_
 refine AllReadyH.cons (o:=⟨some 55,_,_,_,_,_⟩) rfl (fun K hK=>?_) AllReadyH.nil
 go_simp
 refine (HWa.out _ hHeld.out.at_).mono ?_
 rintro e w1 ⟨rfl,hb⟩
 (first | (with_reducible have cc:=bel_cell hb (nc1 _ s.began _)) | (with_reducible have cc:=bel_cell hb (nc1' _ s.began _)) | (with_reducible have cc:=bel_cell hb cc) | (with_reducible have cc:=bel_cell hb (nc3 _ (W.heap.size + 1 + 1) s.began _ (by simp))) | (with_reducible have cc:=bel_cell hb (cell_dr (nc3 _ (W.heap.size + 1 + 1) s.began _ (by simp)))) | skip)
 go_wp2_with fail
 refine hK.out _ _ (sig_k hHeld hb) (fun hHeld=>?_)
 clear hK
 try simp only [List.setIfInBounds_toArray,List.set_cons_zero,List.set_cons_succ]
 refine wpAnyH_take (i:=47) (oi:=⟨some 56,_,_,_,_,_⟩) (v:=?v44) rfl (by kernel_rfl) (by kernel_rfl) (by kernel_rfl) (fun _ _ _ h=>h) (Or.inl ⟨by rfl,?y44⟩) (by assumption) ?r44
 case y44=>intro w hSw;clear hSw;go_simp;(try with_reducible rfl)
 simp only [Act.put,List.setIfInBounds_toArray,List.set_cons_zero,List.set_cons_succ]
 refine wpAnyH_ready (rs:=[48]) (by kernel_rfl) (by simp) ?_
 refine AllReadyH.cons (o:=⟨none,_,_,_,_,_⟩) rfl (fun K hK=>?_) AllReadyH.nil
 obtain ⟨cs,hsz,hre⟩:=hHeld.out.re
 rw [if_pos (by rfl)]
 refine wp_store_row _ _ _ rfl (W.heap.size + 1) #[.bool d0,.bool ov,.bool lo,.bool d3,.int .u64 (x.fl:Int),.int .u64 (d5:Int),.int .u64 (d6:Int),.int .u64 (s.rounds:Int),.int .u64 (d8:Int),.int .u64 (d9:Int)] rfl rfl _ cs hre (by kernel_rfl) hsz (by simp [Value.oneCell']) ?_
 refine hK.out _ _ (sig_row hHeld #[.bool d0,.bool ov,.bool lo,.bool d3,.int .u64 (x.fl:Int),.int .u64 (d5:Int),.int .u64 (d6:Int),.int .u64 (s.rounds:Int),.int .u64 (d8:Int),.int .u64 (d9:Int)] rfl) (fun hHeld=>?_)
 clear hK
 try simp only [List.setIfInBounds_toArray,List.set_cons_zero,List.set_cons_succ]
 refine wpAnyH_done (by kernel_rfl) ?_ _
 refine NoPanic.normal ?_
 have F1:=Lib.hid (Blk.row hre #[.bool d0,.bool ov,.bool lo,.bool d3,.int .u64 (x.fl:Int),.int .u64 (d5:Int),.int .u64 (d6:Int),.int .u64 (s.rounds:Int),.int .u64 (d8:Int),.int .u64 (d9:Int)])
 have FW:=Lib.hid hHeld.out.bel
 go_wp2_with fail
 exact bodyPost_ret (results_cell rfl _ _ (W.heap.size + 1) 259 _ _ rfl F1.out Tryz.underlying259 rfl (by kernel_rfl)) rfl ⟨by rw [HT.out],FW.out⟩
end Go.Proofs.YteoepabmnbkabaaGreatDoor

set_option linter.unusedVariables false
namespace Go.Proofs.YteoepabmnbkabaaGreatDoor
open Go.RowKit Cf
theorem EngAt.set {w:World} {B:Nat} {P:EP} {s s':ES} (h:EngAt w B P s) (i:Nat) (u:Value) (he:(ecells P s).setIfInBounds i u=ecells P s') (hp:s'.p=s.p) (hf:s'.f=s.f) (hy:s'.y=s.y) (hn:s'.n=s.n):
  EngAt (w.setCell ⟨P.b,i,none⟩ u) B P s':=
 ⟨he▸h.e.set i u,hp▸h.p.set_other i u (h.p.ty h.e (by decide)),by
  obtain ⟨g,hg,k⟩:=h.f
  obtain ⟨c1,k1⟩:=k.row.head
  obtain ⟨c2,k2⟩:=k.row.body
  exact ⟨g,hg,hf▸⟨k.head.set_other i u (k.head.ty h.e (by decide)),k.row.set_other (k1.ty h.e (by decide)) (k2.ty h.e (by decide))⟩⟩,
  hy▸Blk.set_other h.y i u (Blk.ty h.y h.e (by decide)),hn▸h.n.set_other i u (h.n.ty h.e (by decide)),
  h.gl.below (B:=B) ((Below.refl _ _).setCell (p:=⟨P.b,i,none⟩) h.own.1 u) h.lo,h.lo,h.own⟩
structure EPost (B:Nat) (P:EP) (v:Ending) (s':ES) (W:World) (e:Ending) (w:World):Prop where
 e:e=v
 at_:EngAt w B P s'
 bel:Below B W w
 kt:KT W w
structure MutI (W:World) (B:Nat) (P:EP) (s:ES) (x:EvS) (w:World):Prop where
 at_:EngAt w B P s
 bel:Below B W w
 kt:KT W w
 ev:Blk w W.heap.size 110 x.cells
theorem MutI.to {W w w':World} {B:Nat} {P:EP} {s:ES} {x:EvS} (h:MutI W B P s x w) (k:Below w.heap.size w w'):MutI W B P s x w':=
 ⟨h.at_.keep k,bel_to h.bel k h.at_.size,h.kt.trans (KT.below k),h.ev.keep k⟩
theorem MutI.drew {W w:World} {B:Nat} {P:EP} {s:ES} {x:EvS} (h:MutI W B P s x w):MutI W B P s x w.drew:=h.to ((Drawn.drew w).below _)
theorem MutI.start {W:World} {B:Nat} {P:EP} {s:ES} (h:EngAt W B P s) (x:EvS):MutI W B P s x (W.alloc (.cells x.cells 110)):=
 ⟨h.keep ((Below.refl _ _).alloc (Nat.le_refl _) _),(Below.refl _ _).alloc h.size _,KT.below ((Below.refl _ _).alloc (Nat.le_refl _) _),Blk.new W _ _⟩
theorem MutI.set {W w:World} {B:Nat} {P:EP} {s s':ES} {x:EvS} (h:MutI W B P s x w) (i:Nat) (u:Value) (he:(ecells P s).setIfInBounds i u=ecells P s') (hp:s'.p=s.p) (hf:s'.f=s.f) (hy:s'.y=s.y) (hn:s'.n=s.n):
  MutI W B P s' x (w.setCell ⟨P.b,i,none⟩ u):=
 ⟨h.at_.set i u he hp hf hy hn,h.bel.setCell (p:=⟨P.b,i,none⟩) h.at_.own.1 u,h.kt.set h.at_.e (by decide) i u,h.ev.set_other i u (h.ev.ty h.at_.e (by decide))⟩
theorem MutI.step {W w w':World} {B:Nat} {P:EP} {s s':ES} {x:EvS} {v e:Ending} (h:MutI W B P s x w) (k:EPost B P v s' w e w'):MutI W B P s' x w':=
 ⟨k.at_,h.bel.trans k.bel,h.kt.trans k.kt,k.kt _ (by decide) _ _ h.ev⟩
theorem MutI.post {W w:World} {B:Nat} {P:EP} {s:ES} {x:EvS} {v:Ending} (h:MutI W B P s x w):EPost B P v s W v w:=⟨rfl,h.at_,h.bel,h.kt⟩
theorem MutI.al {W w w':World} {B:Nat} {P:EP} {s:ES} {x:EvS} {q:Obj} (h:MutI W B P s x w) (k:Below (w.alloc q).heap.size (w.alloc q) w'):MutI W B P s x w':=(h.to (al_be _ _)).to k
theorem MutI.ald {W w w':World} {B:Nat} {P:EP} {s:ES} {x:EvS} {q:Obj} (h:MutI W B P s x w) (k:Below (w.alloc q).drew.heap.size (w.alloc q).drew w'):MutI W B P s x w':=(h.to (al_dr _ _)).to k
set_option maxHeartbeats 1000000 in
theorem en_count {B k:Nat} {P:EP} {s:ES} (x:EvS) (hx:x.ok) (W:World) (h:EngAt W B P s) (ho:s.ok k):
  Calls Tryz.prog 172 #[.pointer (some ⟨P.b,0,none⟩),x.val] W (EPost B P (.returned (.tuple #[])) (s.count x) W):=by
 have HA:=Lib.hid (add_any s.acked x.ac ho.acked hx.ac)
 have HL:=Lib.hid (add_any s.lost x.lo ho.lost hx.lo)
 have M0:=Lib.hid (MutI.start h x)
 unfold EvS.val
 clear h ho hx
 have HE:Hid (x.cells=#[.int .u64 (x.now:Int),.int .u64 (x.sd:Int),.int .u64 (x.si:Int),.int .u64 (x.sr:Int),.int .u64 (x.rt:Int),.bool x.sl,.bool x.sm,.int .u64 (x.dl:Int),.int .u64 (x.ac:Int),.int .u64 (x.lo:Int),.int .u64 (x.fl:Int)]):=Lib.hid rfl
 rw [HE.out] at M0 ⊢
 go_enter Tryz.func172,Tryz.ntmps172
 go_wp2_with fail
 generalize W.alloc (.cells #[.int .u64 (x.now:Int),.int .u64 (x.sd:Int),.int .u64 (x.si:Int),.int .u64 (x.sr:Int),.int .u64 (x.rt:Int),.bool x.sl,.bool x.sm,.int .u64 (x.dl:Int),.int .u64 (x.ac:Int),.int .u64 (x.lo:Int),.int .u64 (x.fl:Int)] 110)=w0 at *
 have M1:=Lib.hid M0.out.drew
 have e8:=M1.out.ev.cell (i:=8) (v:=.int .u64 (x.ac:Int)) rfl
 have c16:=(M1.out.at_).e.cell (i:=16) (v:=.int .u64 (s.acked:Int)) rfl
 go_region_with (first
  | (go_at_call 57;(refine (HA.out _ _ (by first | exact (nc2 _ _ _ _).1 | exact cell_dr (nc2 _ _ _ _).1) (by first | exact (nc2 _ _ _ _).2 | exact cell_dr (nc2 _ _ _ _).2)).mono ?_);rintro e w2 ⟨rfl,hb⟩;have M2:Hid (MutI W B P _ x w2):=(by first | exact Lib.hid (M1.out.al hb) | exact Lib.hid (M1.out.ald hb));have d16:=M2.out.at_.e.cell (i:=16) (v:=.int .u64 (s.acked:Int)) rfl;have y16:=M2.out.at_.e.free 16))
 all_goals
  have M3:=Lib.hid (M2.out.set (s':={s with acked:=Pl.addS s.acked x.ac}) 16 (.int .u64 ((Pl.addS s.acked x.ac:Nat):Int)) rfl rfl rfl rfl rfl)
  clear M0 M1 M2 e8 c16 d16 y16 hb
  generalize w2.setCell ⟨P.b,16,none⟩ (.int .u64 ((Pl.addS s.acked x.ac:Nat):Int))=w3 at *
  go_wp2_with fail
  have M4:=Lib.hid M3.out.drew
  have e9:=M4.out.ev.cell (i:=9) (v:=.int .u64 (x.lo:Int)) rfl
  have c17:=M4.out.at_.e.cell (i:=17) (v:=.int .u64 (s.lost:Int)) rfl
  go_region_with (first
   | (go_at_call 57;(refine (HL.out _ _ (by first | exact (nc2 _ _ _ _).1 | exact cell_dr (nc2 _ _ _ _).1) (by first | exact (nc2 _ _ _ _).2 | exact cell_dr (nc2 _ _ _ _).2)).mono ?_);rintro e w2 ⟨rfl,hb⟩;have M5:Hid (MutI W B P _ x w2):=(by first | exact Lib.hid (M4.out.al hb) | exact Lib.hid (M4.out.ald hb));have d17:=M5.out.at_.e.cell (i:=17) (v:=.int .u64 (s.lost:Int)) rfl;have y17:=M5.out.at_.e.free 17))
  all_goals
   have M6:=Lib.hid (M5.out.set (s':=s.count x) 17 (.int .u64 ((Pl.addS s.lost x.lo:Nat):Int)) rfl rfl rfl rfl rfl)
   go_wp2_with fail
   go_end0
   exact M6.out.post
end Go.Proofs.YteoepabmnbkabaaGreatDoor

set_option linter.unusedVariables false
namespace Go.Proofs.YteoepabmnbkabaaGreatDoor
open Go.RowKit Cf
structure MutN (W:World) (B:Nat) (P:EP) (s:ES) (w:World):Prop where
 at_:EngAt w B P s
 bel:Below B W w
 kt:KT W w
theorem MutN.to {W w w':World} {B:Nat} {P:EP} {s:ES} (h:MutN W B P s w) (k:Below w.heap.size w w'):MutN W B P s w':=
 ⟨h.at_.keep k,bel_to h.bel k h.at_.size,h.kt.trans (KT.below k)⟩
theorem MutN.drew {W w:World} {B:Nat} {P:EP} {s:ES} (h:MutN W B P s w):MutN W B P s w.drew:=h.to ((Drawn.drew w).below _)
theorem MutN.start {W:World} {B:Nat} {P:EP} {s:ES} (h:EngAt W B P s):MutN W B P s W:=⟨h,Below.refl _ _,KT.refl _⟩
theorem MutN.set {W w:World} {B:Nat} {P:EP} {s s':ES} (h:MutN W B P s w) (i:Nat) (u:Value) (he:(ecells P s).setIfInBounds i u=ecells P s') (hp:s'.p=s.p) (hf:s'.f=s.f) (hy:s'.y=s.y) (hn:s'.n=s.n):
  MutN W B P s' (w.setCell ⟨P.b,i,none⟩ u):=
 ⟨h.at_.set i u he hp hf hy hn,h.bel.setCell (p:=⟨P.b,i,none⟩) h.at_.own.1 u,h.kt.set h.at_.e (by decide) i u⟩
theorem MutN.post {W w:World} {B:Nat} {P:EP} {s:ES} {v:Ending} (h:MutN W B P s w):EPost B P v s W v w:=⟨rfl,h.at_,h.bel,h.kt⟩
theorem MutN.al {W w w':World} {B:Nat} {P:EP} {s:ES} {q:Obj} (h:MutN W B P s w) (k:Below (w.alloc q).heap.size (w.alloc q) w'):MutN W B P s w':=(h.to (al_be _ _)).to k
theorem MutN.ald {W w w':World} {B:Nat} {P:EP} {s:ES} {q:Obj} (h:MutN W B P s w) (k:Below (w.alloc q).drew.heap.size (w.alloc q).drew w'):MutN W B P s w':=(h.to (al_dr _ _)).to k
theorem nc2e (W:World) (b x:Nat) (y:Int) (T:TypeId) (hb:b=W.heap.size):(W.alloc (.cells #[.int .u64 (x:Int),.int .u64 y] T)).cell? ⟨b,0,none⟩=some (.int .u64 (x:Int))∧(W.alloc (.cells #[.int .u64 (x:Int),.int .u64 y] T)).cell? ⟨b,1,none⟩=some (.int .u64 y):=by subst hb;exact ⟨new_cell rfl rfl,new_cell rfl rfl⟩
theorem MutN.mi {W w w':World} {B:Nat} {P:EP} {s s':ES} {x:EvS} (h:MutI W B P s x w) (k:MutN w B P s' w'):MutI W B P s' x w':=
 ⟨k.at_,h.bel.trans k.bel,h.kt.trans k.kt,k.kt _ (by decide) _ _ h.ev⟩
theorem MutN.cat {W w w':World} {B:Nat} {P:EP} {s s':ES} (h:MutN W B P s w) (k:MutN w B P s' w'):MutN W B P s' w':=⟨k.at_,h.bel.trans k.bel,h.kt.trans k.kt⟩
theorem Fr.of_gr {w w':World} {c:Nat} (g:w.grownBy w' (some c)):Fr w w' [c]:=⟨g.os,g.tape,g.output,g.size,fun k hk hl=>g.block k hk (by simpa using hl)⟩
theorem MutN.cy {w w':World} {B:Nat} {P:EP} {s:ES} {y':CY} (h:EngAt w B P s) (hy:CyAt w' P.y y') (g:w.grownBy w' (some P.y)):MutN w B P {s with y:=y'} w':=by
 have k:=Fr.of_gr g
 have hb:Below B w w':=bel_gr (Below.refl _ _) g h.size h.own.2.2.2.2.1
 refine ⟨⟨h.e.fr k (by simpa using h.e.ty h.y (by decide)),h.p.fr k (by simpa using h.p.ty h.y (by decide)),?_,hy,h.n.fr k (by simpa using h.n.ty h.y (by decide)),h.gl.below hb h.lo,h.lo,h.own⟩,hb,KT.gr g h.y (by decide)⟩
 obtain ⟨g',hg,q⟩:=h.f
 obtain ⟨c1,k1⟩:=q.row.head
 obtain ⟨c2,k2⟩:=q.row.body
 exact ⟨g',hg,q.fr k (by simpa using q.head.ty h.y (by decide)) (by simpa using k1.ty h.y (by decide)) (by simpa using k2.ty h.y (by decide))⟩
theorem MutN.ct {w w':World} {B:Nat} {P:EP} {s:ES} {n':Ct} (h:EngAt w B P s) (hy:Blk w' P.n 228 n'.cells) (g:w.grownBy w' (some P.n)):MutN w B P {s with n:=n'} w':=by
 have k:=Fr.of_gr g
 have hb:Below B w w':=bel_gr (Below.refl _ _) g h.size h.own.2.2.2.2.2
 refine ⟨⟨h.e.fr k (by simpa using h.e.ty h.n (by decide)),h.p.fr k (by simpa using h.p.ty h.n (by decide)),?_,Blk.fr h.y k (by simpa using Blk.ty h.y h.n (by decide)),hy,h.gl.below hb h.lo,h.lo,h.own⟩,hb,KT.gr g h.n (by decide)⟩
 obtain ⟨g',hg,q⟩:=h.f
 obtain ⟨c1,k1⟩:=q.row.head
 obtain ⟨c2,k2⟩:=q.row.body
 exact ⟨g',hg,q.fr k (by simpa using q.head.ty h.n (by decide)) (by simpa using k1.ty h.n (by decide)) (by simpa using k2.ty h.n (by decide))⟩
theorem MutN.pi {w w':World} {B:Nat} {P:EP} {s:ES} {p':Pi} (h:EngAt w B P s) (hy:Blk w' P.p 222 p'.cells) (g:w.grownBy w' (some P.p)):MutN w B P {s with p:=p'} w':=by
 have k:=Fr.of_gr g
 have hb:Below B w w':=bel_gr (Below.refl _ _) g h.size h.own.2.1
 refine ⟨⟨h.e.fr k (by simpa using h.e.ty h.p (by decide)),hy,?_,Blk.fr h.y k (by simpa using Blk.ty h.y h.p (by decide)),h.n.fr k (by simpa using h.n.ty h.p (by decide)),h.gl.below hb h.lo,h.lo,h.own⟩,hb,KT.gr g h.p (by decide)⟩
 obtain ⟨g',hg,q⟩:=h.f
 obtain ⟨c1,k1⟩:=q.row.head
 obtain ⟨c2,k2⟩:=q.row.body
 exact ⟨g',hg,q.fr k (by simpa using q.head.ty h.p (by decide)) (by simpa using k1.ty h.p (by decide)) (by simpa using k2.ty h.p (by decide))⟩
theorem MutN.fl {w w':World} {B g:Nat} {P:EP} {s:ES} {f':FS} {v e:Ending} (h:EngAt w B P s) (hg:B≤g) (hf:FlAt w P.a P.r g s.f) (k:FPost w P.a P.r g v f' e w'):MutN w B P {s with f:=f'} w':=by
 obtain ⟨g',hf',hg'⟩:=k.at_
 obtain ⟨c1,k1⟩:=hf.row.head
 obtain ⟨c2,k2⟩:=hf.row.body
 have hB:=h.size
 have hb:Below B w w':=bel_fr (Below.refl _ _) k.fr hB (by
  intro x hx
  simp only [List.mem_cons,List.not_mem_nil,or_false] at hx
  rcases hx with rfl | rfl | rfl
  ·exact h.own.2.2.1
  ·exact h.own.2.2.2.1
  ·exact hg)
 refine ⟨⟨h.e.fr k.fr ?_,h.p.fr k.fr ?_,⟨g',by omega,hf'⟩,Blk.fr h.y k.fr ?_,h.n.fr k.fr ?_,h.gl.below hb h.lo,h.lo,h.own⟩,hb,fun T hT b cs q=>q.fr k.fr ?_⟩
 ·simpa using ⟨h.e.ty hf.head (by decide),h.e.ty k1 (by decide),h.e.ty k2 (by decide)⟩
 ·simpa using ⟨h.p.ty hf.head (by decide),h.p.ty k1 (by decide),h.p.ty k2 (by decide)⟩
 ·simpa using ⟨Blk.ty h.y hf.head (by decide),Blk.ty h.y k1 (by decide),Blk.ty h.y k2 (by decide)⟩
 ·simpa using ⟨h.n.ty hf.head (by decide),h.n.ty k1 (by decide),h.n.ty k2 (by decide)⟩
 ·simpa using ⟨q.ty hf.head (fun e=>hT (e▸by decide)),q.ty k1 (fun e=>hT (e▸by decide)),q.ty k2 (fun e=>hT (e▸by decide))⟩
theorem ms_settle {W w:World} {B:Nat} {P:EP} {s:ES} (h:Hid (MutN W B P s w)):w.cell? ⟨P.b,17,none⟩=some (.int .u64 (s.lost:Int))∧w.cell? ⟨P.b,5,none⟩=some (.int .u64 (s.c 5:Int))∧Hid (MutN W B P s w):=
 ⟨h.out.at_.e.cell rfl,h.out.at_.e.cell rfl,h⟩
set_option maxHeartbeats 1000000 in
theorem en_settle {B k:Nat} {P:EP} {s:ES} (W:World) (h:EngAt W B P s) (ho:s.ok k):
  Calls Tryz.prog 174 #[.pointer (some ⟨P.b,0,none⟩)] W (EPost B P (.returned (.bool s.lossy)) s.settle W):=by
 have HA:=Lib.hid (add_any s.acked s.lost ho.acked ho.lost)
 have HR:Hid (∀(b:Nat) (W:World),W.cell? ⟨b,0,none⟩=some (.int .u64 (s.rounds:Int))→W.cell? ⟨b,1,none⟩=some (.int .u64 1)→Calls Tryz.prog 57 #[.slice (some ⟨b,0,none⟩) 2 2] W fun e w'=>e=.returned (.int .u64 ((Pl.addS s.rounds 1:Nat):Int))∧Below W.heap.size W w'):=Lib.hid (add_any s.rounds 1 ho.rounds (by omega))
 have HM:Hid (∀w,Calls Tryz.prog 165 #[.int .u64 (s.lost:Int),.int .u64 1000] w fun e w'=>e=.returned (.int .u64 ((Pl.mulS s.lost 1000:Nat):Int))∧w=w'):=Lib.hid (fun w=>fix_Mul_n s.lost 1000 w ho.lost (by omega))
 have HN:=Lib.hid (fun w=>fix_Mul_n (s.c 5) (Pl.addS s.acked s.lost) w (ho.c 5) (Pl.addS_le _ _))
 have hd:decide (Pl.mulS (s.c 5) (Pl.addS s.acked s.lost) < Pl.mulS s.lost 1000)=s.lossy:=rfl
 have M0:=Lib.hid (MutN.start h).drew
 clear h ho
 generalize s.lossy=lossy at *
 generalize Pl.mulS (s.c 5) (Pl.addS s.acked s.lost)=m2 at *
 generalize Pl.mulS s.lost 1000=m1 at *
 go_enter Tryz.func174,Tryz.ntmps174
 go_wp2_with fail
 have c16:=M0.out.at_.e.cell (i:=16) (v:=.int .u64 (s.acked:Int)) rfl
 have c17:=M0.out.at_.e.cell (i:=17) (v:=.int .u64 (s.lost:Int)) rfl
 go_region_with (first
  | (go_at_call 57;(refine (HA.out _ _ (by first | exact (nc2 _ _ _ _).1 | exact cell_dr (nc2 _ _ _ _).1) (by first | exact (nc2 _ _ _ _).2 | exact cell_dr (nc2 _ _ _ _).2)).mono ?_);rintro e w2 ⟨rfl,hb⟩;have M2:Hid (MutN W B P _ w2):=(by first | exact Lib.hid (M0.out.al hb) | exact Lib.hid (M0.out.ald hb));))
 all_goals
  clear M0 c16 c17 hb HA
  go_wp2_with fail
  have M3:=Lib.hid M2.out.drew
  go_region_held3 (fun w'=>w'.cell? ⟨P.b,17,none⟩=some (.int .u64 (s.lost:Int))∧w'.cell? ⟨P.b,5,none⟩=some (.int .u64 (s.c 5:Int))∧Hid (MutN W B P s w'))
   (first | exact ms_settle M3)
   (first
    | (go_at_call 165;go_split_ands;(with_reducible refine (HM.out _).mono ?_);rintro e w' ⟨rfl,rfl⟩)
    | (go_at_call 165;go_split_ands;(with_reducible refine (HN.out _).mono ?_);rintro e w' ⟨rfl,rfl⟩))
  go_split_ands
  have M4:Hid (MutN W B P s w2):=M2
  have y15:=M4.out.at_.e.free 15
  have y16:=M4.out.at_.e.free 16
  have y17:=M4.out.at_.e.free 17
  have d15:=M4.out.at_.e.cell (i:=15) (v:=.int .u64 (s.rounds:Int)) rfl
  have d16:=M4.out.at_.e.cell (i:=16) (v:=.int .u64 (s.acked:Int)) rfl
  have d17:=M4.out.at_.e.cell (i:=17) (v:=.int .u64 (s.lost:Int)) rfl
  have M5:=Lib.hid ((M4.out.set (s':={s with acked:=0}) 16 (.int .u64 0) rfl rfl rfl rfl rfl).set (s':={s with acked:=0,lost:=0}) 17 (.int .u64 0) rfl rfl rfl rfl rfl)
  go_wp2_with fail
  refine (HR.out _ _ (by exact (nc2e _ _ _ _ _ (by simp)).1) (by exact (nc2e _ _ _ _ _ (by simp)).2)).mono ?_
  rintro e w6 ⟨rfl,hb⟩
  have M6:Hid (MutN W B P {s with acked:=0,lost:=0} w6):=(by first | exact Lib.hid (M5.out.al hb) | exact Lib.hid (M5.out.ald hb) | exact Lib.hid (M5.out.drew.al hb) | exact Lib.hid (M5.out.drew.ald hb))
  have z15:=M6.out.at_.e.cell (i:=15) (v:=.int .u64 (s.rounds:Int)) rfl
  have q15:=M6.out.at_.e.free 15
  have M7:=Lib.hid (M6.out.set (s':=s.settle) 15 (.int .u64 ((Pl.addS s.rounds 1:Nat):Int)) rfl rfl rfl rfl rfl)
  clear M2 M3 M4 M5 M6 hb y15 y16 y17 d15 d16 d17
  go_wp2_with fail
  go_ret
  exact ⟨rfl,M7.out.at_,M7.out.bel,M7.out.kt⟩
end Go.Proofs.YteoepabmnbkabaaGreatDoor

set_option linter.unusedVariables false
namespace Go.Proofs.YteoepabmnbkabaaGreatDoor
open Go.RowKit Cf
theorem mi_ev {W:World} {B:Nat} {P:EP} {s:ES} {x:EvS} {i:Nat} {v:Value} (hv:x.cells[i]? =some v):∀w,Hid (MutI W B P s x w)→w.cell? ⟨W.heap.size,i,none⟩=some v:=fun w q=>q.out.ev.cell hv
theorem mi_e {W:World} {B:Nat} {P:EP} {s:ES} {x:EvS} {i:Nat} {v:Value} (hv:(ecells P s)[i]? =some v):∀w,Hid (MutI W B P s x w)→w.cell? ⟨P.b,i,none⟩=some v:=fun w q=>q.out.at_.e.cell hv
theorem mi_f {W:World} {B:Nat} {P:EP} {s:ES} {x:EvS} (i:Nat):∀w,Hid (MutI W B P s x w)→w.frozen? ⟨P.b,i,none⟩=false:=fun w q=>q.out.at_.e.free i
set_option maxHeartbeats 2000000 in
theorem en_yield0 {B k:Nat} {P:EP} {s:ES} (x:EvS) (hx:x.ok) (W:World) (h:EngAt W B P s) (ho:s.ok k) (hs:s.st=0):
  Calls Tryz.prog 176 #[.pointer (some ⟨P.b,0,none⟩),x.val] W (EPost B P (.returned (.tuple #[])) {s with bs:=s.bs.pull x.fl s.holds} W):=by
 have z0:(s.st == 0)=true:=by rw [hs];rfl
 have HH:=Lib.hid (fun w h=>en_holds (B:=B) (P:=P) (s:=s) w h ho)
 have HP:=Lib.hid (fun w=>bd_Pull s.bs x.fl s.holds w hx.fl (ES.holds_le s))
 have M0:=Lib.hid (MutI.start h x)
 have r13:=mi_e (W:=W) (B:=B) (P:=P) (s:=s) (x:=x) (i:=13) (v:=.int .i64 s.st) rfl
 have r7:=mi_e (W:=W) (B:=B) (P:=P) (s:=s) (x:=x) (i:=7) (v:=.int .u64 (s.bs.hi:Int)) rfl
 have r8:=mi_e (W:=W) (B:=B) (P:=P) (s:=s) (x:=x) (i:=8) (v:=.int .u64 (s.bs.lo:Int)) rfl
 have r9:=mi_e (W:=W) (B:=B) (P:=P) (s:=s) (x:=x) (i:=9) (v:=.int .u64 (s.bs.bw:Int)) rfl
 have f7:=mi_f (W:=W) (B:=B) (P:=P) (s:=s) (x:=x) 7
 have f8:=mi_f (W:=W) (B:=B) (P:=P) (s:=s) (x:=x) 8
 have f9:=mi_f (W:=W) (B:=B) (P:=P) (s:=s) (x:=x) 9
 have v10:=mi_ev (W:=W) (B:=B) (P:=P) (s:=s) (x:=x) (i:=10) (v:=.int .u64 (x.fl:Int)) rfl
 unfold EvS.val
 clear h ho hx
 have HE:Hid (x.cells=#[.int .u64 (x.now:Int),.int .u64 (x.sd:Int),.int .u64 (x.si:Int),.int .u64 (x.sr:Int),.int .u64 (x.rt:Int),.bool x.sl,.bool x.sm,.int .u64 (x.dl:Int),.int .u64 (x.ac:Int),.int .u64 (x.lo:Int),.int .u64 (x.fl:Int)]):=Lib.hid rfl
 rw [HE.out] at M0 ⊢
 simp only [BS.cells] at HP
 generalize s.holds=hol at *
 go_enter Tryz.func176,Tryz.ntmps176
 go_wp2_with fail
 generalize W.alloc (.cells #[.int .u64 (x.now:Int),.int .u64 (x.sd:Int),.int .u64 (x.si:Int),.int .u64 (x.sr:Int),.int .u64 (x.rt:Int),.bool x.sl,.bool x.sm,.int .u64 (x.dl:Int),.int .u64 (x.ac:Int),.int .u64 (x.lo:Int),.int .u64 (x.fl:Int)] 110)=w0 at *
 have M1:=Lib.hid M0.out.drew
 go_region_with (first
  | (go_at_call 240;(refine (HH.out _ M1.out.at_).mono ?_);rintro e w1 ⟨rfl,hb⟩;have M2:=Lib.hid (M1.out.to hb);clear hb)
  | (go_at_call 239;(refine (HP.out _).mono ?_);rintro e w2 ⟨rfl,hb⟩;have M3:=Lib.hid (M2.out.to hb);clear hb))
 all_goals
  have M4:=Lib.hid (((M3.out.set (s':={s with bs:=⟨(s.bs.pull x.fl hol).hi,s.bs.lo,s.bs.bw⟩}) 7 (.int .u64 ((s.bs.pull x.fl hol).hi:Int)) rfl rfl rfl rfl rfl).set (s':={s with bs:=⟨(s.bs.pull x.fl hol).hi,(s.bs.pull x.fl hol).lo,s.bs.bw⟩}) 8 (.int .u64 ((s.bs.pull x.fl hol).lo:Int)) rfl rfl rfl rfl rfl).set (s':={s with bs:=s.bs.pull x.fl hol}) 9 (.int .u64 ((s.bs.pull x.fl hol).bw:Int)) rfl rfl rfl rfl rfl)
  clear M0 M1 M3
  go_wp2_with fail
  go_end0
  exact M4.out.post
set_option maxHeartbeats 2000000 in
theorem en_yield5 {B k:Nat} {P:EP} {s:ES} (x:EvS) (hx:x.ok) (W:World) (h:EngAt W B P s) (ho:s.ok k) (hs:s.st=5):
  Calls Tryz.prog 176 #[.pointer (some ⟨P.b,0,none⟩),x.val] W (EPost B P (.returned (.tuple #[])) {s with bs:=s.bs.pull x.fl s.holds} W):=by
 have z0:(s.st == 0)=false:=beq_eq_false_iff_ne.2 (by omega)
 have z5:(s.st == 5)=true:=by rw [hs];rfl
 have HH:=Lib.hid (fun w h=>en_holds (B:=B) (P:=P) (s:=s) w h ho)
 have HP:=Lib.hid (fun w=>bd_Pull s.bs x.fl s.holds w hx.fl (ES.holds_le s))
 have M0:=Lib.hid (MutI.start h x)
 have r13:=mi_e (W:=W) (B:=B) (P:=P) (s:=s) (x:=x) (i:=13) (v:=.int .i64 s.st) rfl
 have r7:=mi_e (W:=W) (B:=B) (P:=P) (s:=s) (x:=x) (i:=7) (v:=.int .u64 (s.bs.hi:Int)) rfl
 have r8:=mi_e (W:=W) (B:=B) (P:=P) (s:=s) (x:=x) (i:=8) (v:=.int .u64 (s.bs.lo:Int)) rfl
 have r9:=mi_e (W:=W) (B:=B) (P:=P) (s:=s) (x:=x) (i:=9) (v:=.int .u64 (s.bs.bw:Int)) rfl
 have f7:=mi_f (W:=W) (B:=B) (P:=P) (s:=s) (x:=x) 7
 have f8:=mi_f (W:=W) (B:=B) (P:=P) (s:=s) (x:=x) 8
 have f9:=mi_f (W:=W) (B:=B) (P:=P) (s:=s) (x:=x) 9
 have v10:=mi_ev (W:=W) (B:=B) (P:=P) (s:=s) (x:=x) (i:=10) (v:=.int .u64 (x.fl:Int)) rfl
 unfold EvS.val
 clear h ho hx
 have HE:Hid (x.cells=#[.int .u64 (x.now:Int),.int .u64 (x.sd:Int),.int .u64 (x.si:Int),.int .u64 (x.sr:Int),.int .u64 (x.rt:Int),.bool x.sl,.bool x.sm,.int .u64 (x.dl:Int),.int .u64 (x.ac:Int),.int .u64 (x.lo:Int),.int .u64 (x.fl:Int)]):=Lib.hid rfl
 rw [HE.out] at M0 ⊢
 simp only [BS.cells] at HP
 generalize s.holds=hol at *
 go_enter Tryz.func176,Tryz.ntmps176
 go_wp2_with fail
 generalize W.alloc (.cells #[.int .u64 (x.now:Int),.int .u64 (x.sd:Int),.int .u64 (x.si:Int),.int .u64 (x.sr:Int),.int .u64 (x.rt:Int),.bool x.sl,.bool x.sm,.int .u64 (x.dl:Int),.int .u64 (x.ac:Int),.int .u64 (x.lo:Int),.int .u64 (x.fl:Int)] 110)=w0 at *
 have M1:=Lib.hid M0.out.drew
 go_region_with (first
  | (go_at_call 240;(refine (HH.out _ M1.out.at_).mono ?_);rintro e w1 ⟨rfl,hb⟩;have M2:=Lib.hid (M1.out.to hb);clear hb)
  | (go_at_call 239;(refine (HP.out _).mono ?_);rintro e w2 ⟨rfl,hb⟩;have M3:=Lib.hid (M2.out.to hb);clear hb))
 all_goals
  have M4:=Lib.hid (((M3.out.set (s':={s with bs:=⟨(s.bs.pull x.fl hol).hi,s.bs.lo,s.bs.bw⟩}) 7 (.int .u64 ((s.bs.pull x.fl hol).hi:Int)) rfl rfl rfl rfl rfl).set (s':={s with bs:=⟨(s.bs.pull x.fl hol).hi,(s.bs.pull x.fl hol).lo,s.bs.bw⟩}) 8 (.int .u64 ((s.bs.pull x.fl hol).lo:Int)) rfl rfl rfl rfl rfl).set (s':={s with bs:=s.bs.pull x.fl hol}) 9 (.int .u64 ((s.bs.pull x.fl hol).bw:Int)) rfl rfl rfl rfl rfl)
  clear M0 M1 M3
  go_wp2_with fail
  go_end0
  exact M4.out.post
set_option maxHeartbeats 2000000 in
theorem en_yieldn {B k:Nat} {P:EP} {s:ES} (x:EvS) (hx:x.ok) (W:World) (h:EngAt W B P s) (ho:s.ok k) (h0:s.st≠0) (h5:s.st≠5):
  Calls Tryz.prog 176 #[.pointer (some ⟨P.b,0,none⟩),x.val] W (EPost B P (.returned (.tuple #[])) {s with bs:=s.bs.lose x.sd x.sr s.cwnd} W):=by
 have z0:(s.st == 0)=false:=beq_eq_false_iff_ne.2 (by omega)
 have z5:(s.st == 5)=false:=beq_eq_false_iff_ne.2 (by omega)
 have HP:=Lib.hid (fun w=>bd_Lose s.bs x.sd x.sr s.cwnd w ho.bs hx.sd hx.sr ho.cwnd)
 have M0:=Lib.hid (MutI.start h x)
 have r13:=mi_e (W:=W) (B:=B) (P:=P) (s:=s) (x:=x) (i:=13) (v:=.int .i64 s.st) rfl
 have r7:=mi_e (W:=W) (B:=B) (P:=P) (s:=s) (x:=x) (i:=7) (v:=.int .u64 (s.bs.hi:Int)) rfl
 have r8:=mi_e (W:=W) (B:=B) (P:=P) (s:=s) (x:=x) (i:=8) (v:=.int .u64 (s.bs.lo:Int)) rfl
 have r9:=mi_e (W:=W) (B:=B) (P:=P) (s:=s) (x:=x) (i:=9) (v:=.int .u64 (s.bs.bw:Int)) rfl
 have r18:=mi_e (W:=W) (B:=B) (P:=P) (s:=s) (x:=x) (i:=18) (v:=.int .u64 (s.cwnd:Int)) rfl
 have f7:=mi_f (W:=W) (B:=B) (P:=P) (s:=s) (x:=x) 7
 have f8:=mi_f (W:=W) (B:=B) (P:=P) (s:=s) (x:=x) 8
 have f9:=mi_f (W:=W) (B:=B) (P:=P) (s:=s) (x:=x) 9
 have v1:=mi_ev (W:=W) (B:=B) (P:=P) (s:=s) (x:=x) (i:=1) (v:=.int .u64 (x.sd:Int)) rfl
 have v3:=mi_ev (W:=W) (B:=B) (P:=P) (s:=s) (x:=x) (i:=3) (v:=.int .u64 (x.sr:Int)) rfl
 unfold EvS.val
 clear h ho hx
 have HE:Hid (x.cells=#[.int .u64 (x.now:Int),.int .u64 (x.sd:Int),.int .u64 (x.si:Int),.int .u64 (x.sr:Int),.int .u64 (x.rt:Int),.bool x.sl,.bool x.sm,.int .u64 (x.dl:Int),.int .u64 (x.ac:Int),.int .u64 (x.lo:Int),.int .u64 (x.fl:Int)]):=Lib.hid rfl
 rw [HE.out] at M0 ⊢
 simp only [BS.cells] at HP
 go_enter Tryz.func176,Tryz.ntmps176
 go_wp2_with fail
 generalize W.alloc (.cells #[.int .u64 (x.now:Int),.int .u64 (x.sd:Int),.int .u64 (x.si:Int),.int .u64 (x.sr:Int),.int .u64 (x.rt:Int),.bool x.sl,.bool x.sm,.int .u64 (x.dl:Int),.int .u64 (x.ac:Int),.int .u64 (x.lo:Int),.int .u64 (x.fl:Int)] 110)=w0 at *
 have M1:=Lib.hid M0.out.drew
 go_region_with (first
  | (go_at_call 241;(refine (HP.out _).mono ?_);rintro e w2 ⟨rfl,hb⟩;have M3:=Lib.hid (M1.out.to hb);clear hb))
 all_goals
  have M4:=Lib.hid (((M3.out.set (s':={s with bs:=⟨(s.bs.lose x.sd x.sr s.cwnd).hi,s.bs.lo,s.bs.bw⟩}) 7 (.int .u64 ((s.bs.lose x.sd x.sr s.cwnd).hi:Int)) rfl rfl rfl rfl rfl).set (s':={s with bs:=⟨(s.bs.lose x.sd x.sr s.cwnd).hi,(s.bs.lose x.sd x.sr s.cwnd).lo,s.bs.bw⟩}) 8 (.int .u64 ((s.bs.lose x.sd x.sr s.cwnd).lo:Int)) rfl rfl rfl rfl rfl).set (s':={s with bs:=s.bs.lose x.sd x.sr s.cwnd}) 9 (.int .u64 ((s.bs.lose x.sd x.sr s.cwnd).bw:Int)) rfl rfl rfl rfl rfl)
  clear M0 M1 M3
  go_wp2_with fail
  go_end0
  exact M4.out.post
end Go.Proofs.YteoepabmnbkabaaGreatDoor

set_option linter.unusedVariables false
namespace Go.Proofs.YteoepabmnbkabaaGreatDoor
open Go.RowKit Cf
theorem en_turn_same {B:Nat} {P:EP} {s:ES} (now:Nat) (t:Int) (W:World) (h:EngAt W B P s) (hn:t=s.st):
  Calls Tryz.prog 177 #[.pointer (some ⟨P.b,0,none⟩),.int .u64 (now:Int),.int .i64 t] W (EPost B P (.returned (.tuple #[])) s W):=by
 have z0:(t == s.st)=true:=beq_iff_eq.2 hn
 have M0:=Lib.hid (MutN.start h)
 have g13:=M0.out.at_.e.cell (i:=13) (v:=.int .i64 s.st) rfl
 clear h hn
 go_enter Tryz.func177,Tryz.ntmps177
 go_wp2_with fail
 exact bodyPost_ret (v:=.tuple #[]) (by simp [results,Tryz.results177,go_sem]) rfl M0.out.post
set_option maxHeartbeats 1000000 in
theorem en_turn_none {B k:Nat} {P:EP} {s:ES} (now:Nat) (t:Int) (W:World) (h:EngAt W B P s) (ho:s.ok k) (hn:t≠s.st) (h6:s.st≠6) (t6:t≠6) (t4:t≠4) (h5:¬ (s.st=5∧t=2)):
  Calls Tryz.prog 177 #[.pointer (some ⟨P.b,0,none⟩),.int .u64 (now:Int),.int .i64 t] W (EPost B P (.returned (.tuple #[])) {s with st:=t,began:=now,rounds:=0} W):=by
 have z0:(t == s.st)=false:=beq_eq_false_iff_ne.2 (hn)
 have z1:(s.st == 6)=false:=beq_eq_false_iff_ne.2 (h6)
 have z2:(t == 6)=false:=beq_eq_false_iff_ne.2 (t6)
 have z3:(t == 4)=false:=beq_eq_false_iff_ne.2 (t4)
 have zz:(s.st == 5)=false∨((s.st == 5)=true∧(t == 2)=false):=by
  by_cases e5:s.st=5
  ·exact Or.inr ⟨beq_iff_eq.2 e5,beq_eq_false_iff_ne.2 (fun e2=>h5 ⟨e5,e2⟩)⟩
  ·exact Or.inl (beq_eq_false_iff_ne.2 e5)
 have M0:=Lib.hid (MutN.start h)
 have g13:=M0.out.at_.e.cell (i:=13) (v:=.int .i64 s.st) rfl
 have MF:=M0
 have y13:=MF.out.at_.e.free 13
 have y14:=MF.out.at_.e.free 14
 have y15:=MF.out.at_.e.free 15
 have d13:=MF.out.at_.e.cell (i:=13) (v:=.int .i64 s.st) rfl
 have d14:=MF.out.at_.e.cell (i:=14) (v:=.int .u64 (s.began:Int)) rfl
 have d15:=MF.out.at_.e.cell (i:=15) (v:=.int .u64 (s.rounds:Int)) rfl
 have MZ:=Lib.hid (((MF.out.set (s':={s with st:=t}) 13 (.int .i64 t) rfl rfl rfl rfl rfl).set (s':={s with st:=t,began:=now}) 14 (.int .u64 (now:Int)) rfl rfl rfl rfl rfl).set (s':={s with st:=t,began:=now,rounds:=0}) 15 (.int .u64 0) rfl rfl rfl rfl rfl)
 clear h ho hn h6 t6 t4 h5
 rcases zz with z4 | ⟨z4,z5⟩
 all_goals
  go_enter Tryz.func177,Tryz.ntmps177
  go_wp2_with fail
  go_end0
  exact MZ.out.post
set_option maxHeartbeats 1000000 in
theorem en_turn_kept {B k:Nat} {P:EP} {s:ES} (now:Nat) (t:Int) (W:World) (h:EngAt W B P s) (ho:s.ok k) (hn:t≠s.st) (h6:s.st≠6) (t6:t=6):
  Calls Tryz.prog 177 #[.pointer (some ⟨P.b,0,none⟩),.int .u64 (now:Int),.int .i64 t] W (EPost B P (.returned (.tuple #[])) {{s with kept:=s.cwnd} with st:=t,began:=now,rounds:=0} W):=by
 have z0:(t == s.st)=false:=beq_eq_false_iff_ne.2 (hn)
 have z1:(s.st == 6)=false:=beq_eq_false_iff_ne.2 (h6)
 have z2:(t == 6)=true:=beq_iff_eq.2 t6
 have M0:=Lib.hid (MutN.start h)
 have g13:=M0.out.at_.e.cell (i:=13) (v:=.int .i64 s.st) rfl
 have g18:=M0.out.at_.e.cell (i:=18) (v:=.int .u64 (s.cwnd:Int)) rfl
 have g19:=M0.out.at_.e.cell (i:=19) (v:=.int .u64 (s.kept:Int)) rfl
 have y19:=M0.out.at_.e.free 19
 have MF:=Lib.hid (M0.out.set (s':={s with kept:=s.cwnd}) 19 (.int .u64 (s.cwnd:Int)) rfl rfl rfl rfl rfl)
 clear h ho hn h6 t6
 go_enter Tryz.func177,Tryz.ntmps177
 have y13:=MF.out.at_.e.free 13
 have y14:=MF.out.at_.e.free 14
 have y15:=MF.out.at_.e.free 15
 have d13:=MF.out.at_.e.cell (i:=13) (v:=.int .i64 s.st) rfl
 have d14:=MF.out.at_.e.cell (i:=14) (v:=.int .u64 (s.began:Int)) rfl
 have d15:=MF.out.at_.e.cell (i:=15) (v:=.int .u64 (s.rounds:Int)) rfl
 have MZ:=Lib.hid (((MF.out.set (s':={{s with kept:=s.cwnd} with st:=t}) 13 (.int .i64 t) rfl rfl rfl rfl rfl).set (s':={{s with kept:=s.cwnd} with st:=t,began:=now}) 14 (.int .u64 (now:Int)) rfl rfl rfl rfl rfl).set (s':={{s with kept:=s.cwnd} with st:=t,began:=now,rounds:=0}) 15 (.int .u64 0) rfl rfl rfl rfl rfl)
 go_wp2_with fail
 go_end0
 exact MZ.out.post
set_option maxHeartbeats 1000000 in
theorem en_turn_short {B k:Nat} {P:EP} {s:ES} (now:Nat) (t:Int) (W:World) (h:EngAt W B P s) (ho:s.ok k) (hn:t≠s.st) (h6:s.st≠6) (t4:t=4):
  Calls Tryz.prog 177 #[.pointer (some ⟨P.b,0,none⟩),.int .u64 (now:Int),.int .i64 t] W (EPost B P (.returned (.tuple #[])) {{s with bs:=s.bs.short} with st:=t,began:=now,rounds:=0} W):=by
 have z0:(t == s.st)=false:=beq_eq_false_iff_ne.2 (hn)
 have z1:(s.st == 6)=false:=beq_eq_false_iff_ne.2 (h6)
 have z2:(t == 6)=false:=beq_eq_false_iff_ne.2 (by omega)
 have z3:(t == 4)=true:=beq_iff_eq.2 t4
 have M0:=Lib.hid (MutN.start h)
 have g13:=M0.out.at_.e.cell (i:=13) (v:=.int .i64 s.st) rfl
 have g7:=M0.out.at_.e.cell (i:=7) (v:=.int .u64 (s.bs.hi:Int)) rfl
 have g8:=M0.out.at_.e.cell (i:=8) (v:=.int .u64 (s.bs.lo:Int)) rfl
 have g9:=M0.out.at_.e.cell (i:=9) (v:=.int .u64 (s.bs.bw:Int)) rfl
 have HS:=Lib.hid (fun w=>bd_Short s.bs w)
 simp only [BS.cells] at HS
 clear h ho hn h6 t4
 go_enter Tryz.func177,Tryz.ntmps177
 go_wp2_with fail
 refine (HS.out _).mono ?_
 rintro e w1 ⟨rfl,hb⟩
 have M1:=Lib.hid (M0.out.to hb)
 have r7:=M1.out.at_.e.cell (i:=7) (v:=.int .u64 (s.bs.hi:Int)) rfl
 have r8:=M1.out.at_.e.cell (i:=8) (v:=.int .u64 (s.bs.lo:Int)) rfl
 have r9:=M1.out.at_.e.cell (i:=9) (v:=.int .u64 (s.bs.bw:Int)) rfl
 have y7:=M1.out.at_.e.free 7
 have y8:=M1.out.at_.e.free 8
 have y9:=M1.out.at_.e.free 9
 have MF:=Lib.hid (((M1.out.set (s':={s with bs:=⟨(s.bs.short).hi,s.bs.lo,s.bs.bw⟩}) 7 (.int .u64 ((s.bs.short).hi:Int)) rfl rfl rfl rfl rfl).set (s':={s with bs:=⟨(s.bs.short).hi,(s.bs.short).lo,s.bs.bw⟩}) 8 (.int .u64 ((s.bs.short).lo:Int)) rfl rfl rfl rfl rfl).set (s':={s with bs:=s.bs.short}) 9 (.int .u64 ((s.bs.short).bw:Int)) rfl rfl rfl rfl rfl)
 clear hb
 have y13:=MF.out.at_.e.free 13
 have y14:=MF.out.at_.e.free 14
 have y15:=MF.out.at_.e.free 15
 have d13:=MF.out.at_.e.cell (i:=13) (v:=.int .i64 s.st) rfl
 have d14:=MF.out.at_.e.cell (i:=14) (v:=.int .u64 (s.began:Int)) rfl
 have d15:=MF.out.at_.e.cell (i:=15) (v:=.int .u64 (s.rounds:Int)) rfl
 have MZ:=Lib.hid (((MF.out.set (s':={{s with bs:=s.bs.short} with st:=t}) 13 (.int .i64 t) rfl rfl rfl rfl rfl).set (s':={{s with bs:=s.bs.short} with st:=t,began:=now}) 14 (.int .u64 (now:Int)) rfl rfl rfl rfl rfl).set (s':={{s with bs:=s.bs.short} with st:=t,began:=now,rounds:=0}) 15 (.int .u64 0) rfl rfl rfl rfl rfl)
 go_wp2_with fail
 go_end0
 exact MZ.out.post
set_option maxHeartbeats 1000000 in
theorem en_turn_next {B k:Nat} {P:EP} {s:ES} (now:Nat) (t:Int) (W:World) (h:EngAt W B P s) (ho:s.ok k) (h5:s.st=5) (t2:t=2):
  Calls Tryz.prog 177 #[.pointer (some ⟨P.b,0,none⟩),.int .u64 (now:Int),.int .i64 t] W (EPost B P (.returned (.tuple #[])) {{s with y:=s.y.next} with st:=t,began:=now,rounds:=0} W):=by
 have z0:(t == s.st)=false:=beq_eq_false_iff_ne.2 (by omega)
 have z1:(s.st == 6)=false:=beq_eq_false_iff_ne.2 (by omega)
 have z2:(t == 6)=false:=beq_eq_false_iff_ne.2 (by omega)
 have z3:(t == 4)=false:=beq_eq_false_iff_ne.2 (by omega)
 have z4:(s.st == 5)=true:=beq_iff_eq.2 h5
 have z5:(t == 2)=true:=beq_iff_eq.2 t2
 have M0:=Lib.hid (MutN.start h)
 have g13:=M0.out.at_.e.cell (i:=13) (v:=.int .i64 s.st) rfl
 have g11:=M0.out.at_.e.cell (i:=11) (v:=.pointer (some ⟨P.y,0,none⟩)) rfl
 have HN:=Lib.hid (cy_Next P.y s.y W h.y)
 clear ho h5 t2
 go_enter Tryz.func177,Tryz.ntmps177
 go_wp2_with fail
 refine (HN.out).mono ?_
 rintro e w1 ⟨rfl,hy,hg⟩
 have MF:=Lib.hid (MutN.cy h hy hg)
 clear h hy hg
 have y13:=MF.out.at_.e.free 13
 have y14:=MF.out.at_.e.free 14
 have y15:=MF.out.at_.e.free 15
 have d13:=MF.out.at_.e.cell (i:=13) (v:=.int .i64 s.st) rfl
 have d14:=MF.out.at_.e.cell (i:=14) (v:=.int .u64 (s.began:Int)) rfl
 have d15:=MF.out.at_.e.cell (i:=15) (v:=.int .u64 (s.rounds:Int)) rfl
 have MZ:=Lib.hid (((MF.out.set (s':={{s with y:=s.y.next} with st:=t}) 13 (.int .i64 t) rfl rfl rfl rfl rfl).set (s':={{s with y:=s.y.next} with st:=t,began:=now}) 14 (.int .u64 (now:Int)) rfl rfl rfl rfl rfl).set (s':={{s with y:=s.y.next} with st:=t,began:=now,rounds:=0}) 15 (.int .u64 0) rfl rfl rfl rfl rfl)
 go_wp2_with fail
 go_end0
 exact MZ.out.post
set_option maxHeartbeats 1000000 in
theorem en_turn_ended {B k:Nat} {P:EP} {s:ES} (now:Nat) (t:Int) (W:World) (h:EngAt W B P s) (ho:s.ok k) (hn:t≠s.st) (h6:s.st=6):
  Calls Tryz.prog 177 #[.pointer (some ⟨P.b,0,none⟩),.int .u64 (now:Int),.int .i64 t] W (EPost B P (.returned (.tuple #[])) {{s with ended:=now,cwnd:=max s.cwnd s.kept} with st:=t,began:=now,rounds:=0} W):=by
 have z0:(t == s.st)=false:=beq_eq_false_iff_ne.2 (hn)
 have z1:(s.st == 6)=true:=beq_iff_eq.2 h6
 have M0:=Lib.hid (MutN.start h)
 have g13:=M0.out.at_.e.cell (i:=13) (v:=.int .i64 s.st) rfl
 have g20:=M0.out.at_.e.cell (i:=20) (v:=.int .u64 (s.ended:Int)) rfl
 have y20:=M0.out.at_.e.free 20
 have hm:max (s.cwnd:Int) (s.kept:Int)=((max s.cwnd s.kept:Nat):Int):=by omega
 have M1:=Lib.hid (M0.out.set (s':={s with ended:=now}) 20 (.int .u64 (now:Int)) rfl rfl rfl rfl rfl)
 have MF:=Lib.hid (M1.out.set (s':={s with ended:=now,cwnd:=max s.cwnd s.kept}) 18 (.int .u64 ((max s.cwnd s.kept:Nat):Int)) rfl rfl rfl rfl rfl).drew
 have g18:=M1.out.at_.e.cell (i:=18) (v:=.int .u64 (s.cwnd:Int)) rfl
 have g19:=M1.out.at_.e.cell (i:=19) (v:=.int .u64 (s.kept:Int)) rfl
 have y18:=M1.out.at_.e.free 18
 clear h ho hn h6
 go_enter Tryz.func177,Tryz.ntmps177
 go_wp2_with fail
 generalize W.setCell ⟨P.b,20,none⟩ (.int .u64 (now:Int))=w1 at *
 go_region
 have y13:=M1.out.at_.e.free 13
 have y14:=M1.out.at_.e.free 14
 have y15:=M1.out.at_.e.free 15
 have d13:=M1.out.at_.e.cell (i:=13) (v:=.int .i64 s.st) rfl
 have d14:=M1.out.at_.e.cell (i:=14) (v:=.int .u64 (s.began:Int)) rfl
 have d15:=M1.out.at_.e.cell (i:=15) (v:=.int .u64 (s.rounds:Int)) rfl
 have MZ:=Lib.hid (((MF.out.set (s':={{s with ended:=now,cwnd:=max s.cwnd s.kept} with st:=t}) 13 (.int .i64 t) rfl rfl rfl rfl rfl).set (s':={{s with ended:=now,cwnd:=max s.cwnd s.kept} with st:=t,began:=now}) 14 (.int .u64 (now:Int)) rfl rfl rfl rfl rfl).set (s':={{s with ended:=now,cwnd:=max s.cwnd s.kept} with st:=t,began:=now,rounds:=0}) 15 (.int .u64 0) rfl rfl rfl rfl rfl)
 go_wp2_with fail
 go_end0
 exact MZ.out.post
end Go.Proofs.YteoepabmnbkabaaGreatDoor

set_option linter.unusedVariables false
namespace Go.Proofs.YteoepabmnbkabaaGreatDoor
open Go.RowKit Cf
theorem en_turn {B k:Nat} {P:EP} {s:ES} (now:Nat) (t:Int) (W:World) (h:EngAt W B P s) (ho:s.ok k):
  Calls Tryz.prog 177 #[.pointer (some ⟨P.b,0,none⟩),.int .u64 (now:Int),.int .i64 t] W (EPost B P (.returned (.tuple #[])) (s.turn now t) W):=by
 unfold ES.turn
 by_cases hn:t=s.st
 ·rw [if_pos hn];exact en_turn_same now t W h hn
 ·rw [if_neg hn]
  unfold ES.side
  by_cases h6:s.st=6
  ·rw [if_pos h6];exact en_turn_ended now t W h ho hn h6
  ·rw [if_neg h6]
   by_cases t6:t=6
   ·rw [if_pos t6];exact en_turn_kept now t W h ho hn h6 t6
   ·rw [if_neg t6]
    by_cases t4:t=4
    ·rw [if_pos t4];exact en_turn_short now t W h ho hn h6 t4
    ·rw [if_neg t4]
     by_cases h5:s.st=5∧t=2
     ·rw [if_pos h5];exact en_turn_next now t W h ho h5.1 h5.2
     ·rw [if_neg h5];exact en_turn_none now t W h ho hn h6 t6 t4 h5
theorem en_yield {B k:Nat} {P:EP} {s:ES} (x:EvS) (hx:x.ok) (W:World) (h:EngAt W B P s) (ho:s.ok k):
  Calls Tryz.prog 176 #[.pointer (some ⟨P.b,0,none⟩),x.val] W (EPost B P (.returned (.tuple #[])) (s.yield x) W):=by
 unfold ES.yield
 by_cases h0:s.st=0
 ·rw [if_pos (Or.inl h0)];exact en_yield0 x hx W h ho h0
 ·by_cases h5:s.st=5
  ·rw [if_pos (Or.inr h5)];exact en_yield5 x hx W h ho h5
  ·rw [if_neg (by simp [h0,h5])];exact en_yieldn x hx W h ho h0 h5
end Go.Proofs.YteoepabmnbkabaaGreatDoor
