/- 4 texts put together: what each one says stands ahead of it. -/
import Derived.Test.YtljganehlagnoaaKMeterMore05
import Derived.Test.YtljganehlagnoaaKMeterMore06
set_option linter.unusedVariables false
namespace Go.Proofs.Ytljganehlagnoaa
open Go.RowKit
theorem al_be (w:World) (o:Obj):Below w.heap.size w (w.alloc o):=(Below.refl _ _).alloc (Nat.le_refl _) o
theorem al_be2 (w:World) (o q:Obj):Below w.heap.size w ((w.alloc o).alloc q):=(al_be w o).alloc (by simp) q
theorem mt_within (room n:Nat) (w:World) (hn:n≤65536):Calls Try.prog 17 #[.int .u64 (room:Int),.int .i64 (n:Int)] w fun e w'=>e=.returned (.bool (decide (room≤72057594037927936)))∧w=w':=by
 have d1:decide ((n:Int)≤65536)=true:=decide_eq_true (by omega)
 obtain ⟨q,hq⟩:∃q,q=decide (room≤72057594037927936):=⟨_,rfl⟩
 have d0:decide ((room:Int)≤(72057594037927936:Int))=q:=by rw [hq];apply decide_eq_decide.2;omega
 rw [← hq]
 clear hq hn
 cases q with
 | false=>
   go_enter Try.func17,Try.ntmps17
   go_wp2
   go_ret
   exact ⟨rfl,rfl⟩
 | true=>
   go_enter Try.func17,Try.ntmps17
   go_wp2
   go_ret
   exact ⟨rfl,rfl⟩
theorem mt_queue (r:Rw) (w:World) (hr:r.le 18446744073709551615) (h:r.d + r.s≤r.c):Calls Try.prog 23 #[r.agg] w fun e w'=>e=.returned (.int .u64 ((r.c - r.d - r.s:Nat):Int))∧Below w.heap.size w w':=by
 have d1:(r.c:Int) - (r.d:Int)=((r.c - r.d:Nat):Int):=by omega
 have d3:((r.c - r.d:Nat):Int) - (r.s:Int)=((r.c - r.d - r.s:Nat):Int):=by omega
 have b1:r.c≤18446744073709551615:=by obtain ⟨_,_,_,_,_⟩:=hr;omega
 have d2:IntKind.u64.wrap ((r.c - r.d:Nat):Int)=((r.c - r.d:Nat):Int):=by rw [IntKind.wrap_u64];omega
 have d4:IntKind.u64.wrap ((r.c - r.d - r.s:Nat):Int)=((r.c - r.d - r.s:Nat):Int):=by rw [IntKind.wrap_u64];omega
 unfold Rw.agg
 generalize r.c - r.d - r.s=k2 at *
 generalize r.c - r.d=k1 at *
 clear hr h b1
 go_enter Try.func23,Try.ntmps23
 go_wp2_with fail
 go_ret
 exact ⟨rfl,al_be _ _⟩
theorem mt_tokens (r:Rw) (w:World) (hr:r.le 18446744073709551615) (h:r.s + r.w≤r.g):Calls Try.prog 24 #[r.agg] w fun e w'=>e=.returned (.int .u64 ((r.g - r.s - r.w:Nat):Int))∧Below w.heap.size w w':=by
 have d1:(r.g:Int) - (r.s:Int)=((r.g - r.s:Nat):Int):=by omega
 have d3:((r.g - r.s:Nat):Int) - (r.w:Int)=((r.g - r.s - r.w:Nat):Int):=by omega
 have b1:r.g≤18446744073709551615:=by obtain ⟨_,_,_,_,_⟩:=hr;omega
 have d2:IntKind.u64.wrap ((r.g - r.s:Nat):Int)=((r.g - r.s:Nat):Int):=by rw [IntKind.wrap_u64];omega
 have d4:IntKind.u64.wrap ((r.g - r.s - r.w:Nat):Int)=((r.g - r.s - r.w:Nat):Int):=by rw [IntKind.wrap_u64];omega
 unfold Rw.agg
 generalize r.g - r.s - r.w=k2 at *
 generalize r.g - r.s=k1 at *
 clear hr h b1
 go_enter Try.func24,Try.ntmps24
 go_wp2_with fail
 go_ret
 exact ⟨rfl,al_be _ _⟩
theorem mt_filled (r q:Rw) (w:World) (hr:r.le 18446744073709551615) (h:r.d + q.s≤r.c):Calls Try.prog 29 #[r.agg,q.agg] w fun e w'=>e=.returned (.int .u64 ((r.c - r.d - q.s:Nat):Int))∧Below w.heap.size w w':=by
 have d1:(r.c:Int) - (r.d:Int)=((r.c - r.d:Nat):Int):=by omega
 have d3:((r.c - r.d:Nat):Int) - (q.s:Int)=((r.c - r.d - q.s:Nat):Int):=by omega
 have b1:r.c≤18446744073709551615:=hr.2.1
 have d2:IntKind.u64.wrap ((r.c - r.d:Nat):Int)=((r.c - r.d:Nat):Int):=by rw [IntKind.wrap_u64];omega
 have d4:IntKind.u64.wrap ((r.c - r.d - q.s:Nat):Int)=((r.c - r.d - q.s:Nat):Int):=by rw [IntKind.wrap_u64];omega
 unfold Rw.agg
 generalize r.c - r.d - q.s=k2 at *
 generalize r.c - r.d=k1 at *
 clear hr h b1
 go_enter Try.func29,Try.ntmps29
 go_wp2_with fail
 go_ret
 exact ⟨rfl,al_be2 _ _ _⟩
theorem mt_numbers (r:Rw) (w:World):Calls Try.prog 30 #[r.agg] w fun e w'=>e=.returned r.agg∧Below w.heap.size w w':=by
 unfold Rw.agg
 go_enter Try.func30,Try.ntmps30
 go_wp2_with fail
 exact bodyPost_ret (results_cell rfl _ _ (w.heap.size + 1) 64 _ _ rfl (Blk.new1 w _ _ _) Try.underlying64 rfl (by kernel_rfl)) rfl ⟨rfl,al_be2 _ _ _⟩
end Go.Proofs.Ytljganehlagnoaa

set_option linter.unusedVariables false
namespace Go.Proofs.Ytljganehlagnoaa
open Go.RowKit
theorem Blk.new2 (w:World) (o q:Obj) (T:TypeId) (cs:Array Value):Blk (((w.alloc o).alloc q).alloc (.cells cs T)) (w.heap.size + 1 + 1) T cs:=by
 have:=Blk.new ((w.alloc o).alloc q) T cs
 simpa [Nat.add_assoc] using this
def Rw.cells (r:Rw):Array Value:=#[.int .u64 (r.g:Int),.int .u64 (r.c:Int),.int .u64 (r.d:Int),.int .u64 (r.s:Int),.int .u64 (r.w:Int)]
def Tn.cells (t:Tn):Array Value:=#[.int .u64 (t.g:Int),.int .u64 (t.c:Int),.int .u64 (t.w:Int)]
structure BhI (W:World) (a b c:Nat) (r:Rw) (t:Tn) (w:World):Prop where
 r:Blk w a 51 r.cells
 t:Blk w b 49 t.cells
 o:Blk w c 51 #[.int .u64 0,.int .u64 0,.int .u64 0,.int .u64 0,.int .u64 0]
 ba:W.heap.size≤a∧a < c
 bel:Below W.heap.size W w
theorem BhI.to {W w w':World} {a b c:Nat} {r:Rw} {t:Tn} (h:BhI W a b c r t w) (k:Below w.heap.size w w'):BhI W a b c r t w':=
 ⟨h.r.keep k,h.t.keep k,h.o.keep k,h.ba,bel_to h.bel k h.bel.size⟩
theorem BhI.ne {W w:World} {a b c:Nat} {r:Rw} {t:Tn} (h:BhI W a b c r t w):a≠b∧a≠c:=⟨h.r.ty h.t (by decide),by have:=h.ba;omega⟩
theorem BhI.set {W w:World} {a b c:Nat} {r q:Rw} {t:Tn} (h:BhI W a b c r t w) (i:Nat) (v:Value) (e:r.cells.setIfInBounds i v=q.cells):BhI W a b c q t (w.setCell ⟨a,i,none⟩ v):=
 ⟨by rw [← e];exact h.r.set i v,h.t.set_other i v h.ne.1.symm,h.o.set_other i v h.ne.2.symm,h.ba,h.bel.setCell h.ba.1 v⟩
theorem bh_r {W:World} {a b c:Nat} {r:Rw} {t:Tn}:(∀w,Hid (BhI W a b c r t w)→w.cell? ⟨a,0,none⟩=some (.int .u64 (r.g:Int)))∧(∀w,Hid (BhI W a b c r t w)→w.cell? ⟨a,1,none⟩=some (.int .u64 (r.c:Int)))∧(∀w,Hid (BhI W a b c r t w)→w.cell? ⟨a,2,none⟩=some (.int .u64 (r.d:Int)))∧(∀w,Hid (BhI W a b c r t w)→w.cell? ⟨a,3,none⟩=some (.int .u64 (r.s:Int)))∧(∀w,Hid (BhI W a b c r t w)→w.cell? ⟨a,4,none⟩=some (.int .u64 (r.w:Int))):=
 ⟨fun w h=>h.out.r.cell rfl,fun w h=>h.out.r.cell rfl,fun w h=>h.out.r.cell rfl,fun w h=>h.out.r.cell rfl,fun w h=>h.out.r.cell rfl⟩
theorem bh_t {W:World} {a b c:Nat} {r:Rw} {t:Tn}:(∀w,Hid (BhI W a b c r t w)→w.cell? ⟨b,0,none⟩=some (.int .u64 (t.g:Int)))∧(∀w,Hid (BhI W a b c r t w)→w.cell? ⟨b,1,none⟩=some (.int .u64 (t.c:Int)))∧(∀w,Hid (BhI W a b c r t w)→w.cell? ⟨b,2,none⟩=some (.int .u64 (t.w:Int))):=
 ⟨fun w h=>h.out.t.cell rfl,fun w h=>h.out.t.cell rfl,fun w h=>h.out.t.cell rfl⟩
theorem bh_o {W w:World} {a b c:Nat} {r:Rw} {t:Tn} (h:Hid (BhI W a b c r t w)):(w.cell? ⟨c,0,none⟩=some (.int .u64 0)∧w.cell? ⟨c,1,none⟩=some (.int .u64 0)∧w.cell? ⟨c,2,none⟩=some (.int .u64 0)∧w.cell? ⟨c,3,none⟩=some (.int .u64 0)∧w.cell? ⟨c,4,none⟩=some (.int .u64 0))∧∀i,w.frozen? ⟨c,i,none⟩=false:=
 ⟨⟨h.out.o.cell rfl,h.out.o.cell rfl,h.out.o.cell rfl,h.out.o.cell rfl,h.out.o.cell rfl⟩,h.out.o.free⟩
theorem bh_queue (W:World) (a b c:Nat) (r:Rw) (t:Tn) (hr:r.le 18446744073709551615) (h:r.d + r.s≤r.c) (w:World) (k:Hid (BhI W a b c r t w)):Calls Try.prog 23 #[r.agg] w fun e w'=>e=.returned (.int .u64 ((r.c - r.d - r.s:Nat):Int))∧Hid (BhI W a b c r t w'):=
 (mt_queue r w hr h).mono fun e w' q=>⟨q.1,Lib.hid (k.out.to q.2)⟩
theorem bh_tokens (W:World) (a b c:Nat) (r:Rw) (t:Tn) (hr:r.le 18446744073709551615) (h:r.s + r.w≤r.g) (w:World) (k:Hid (BhI W a b c r t w)):Calls Try.prog 24 #[r.agg] w fun e w'=>e=.returned (.int .u64 ((r.g - r.s - r.w:Nat):Int))∧Hid (BhI W a b c r t w'):=
 (mt_tokens r w hr h).mono fun e w' q=>⟨q.1,Lib.hid (k.out.to q.2)⟩
theorem bh_post {W w:World} {a b c:Nat} {r:Rw} {t:Tn} (h:Hid (BhI W a b c r t w)):∃w',w'=w.setCells c 0 r.cs∧Blk w' c 51 r.cells∧Below W.heap.size W w':=
 ⟨_,rfl,h.out.o.whole r.cs rfl,Below.sets (by have:=h.out.ba;omega) r.cs 0 _ h.out.bel⟩
set_option maxRecDepth 100000 in
set_option maxHeartbeats 1000000 in
theorem mt_behind (room:Nat) (r:Rw) (t:Tn) (W:World) (hr:r.le 1125899906842624) (ht:t.le 1099511627776) (ho:r.ok room) (hroom:room≤72057594037927936):
  Calls Try.prog 18 #[r.agg,.int .u64 (room:Int),t.agg] W fun e w'=>e=.returned (r.behind room t).agg∧Below W.heap.size W w':=by
 obtain ⟨e0,e1,e2,e3,e4⟩:=Rw.behind_mk room r t
 have HB:Hid ((r.behind room t).agg=.agg (r.behind room t).cells):=Lib.hid rfl
 have HB2:=Lib.hid (Rw.behind_le ho hr ht)
 have ok2:=ho.behind t
 obtain ⟨k,hk⟩:∃k,k=keptR room r t:=⟨_,rfl⟩
 obtain ⟨sv,hs⟩:∃s,s=servR room r t:=⟨_,rfl⟩
 obtain ⟨wv,hw⟩:∃s,s=wastR room r t:=⟨_,rfl⟩
 have hk':k=min t.c (room - (r.c - r.d - r.s)):=hk
 have hs':sv=min (r.c - r.d - r.s + k) (r.g - r.s - r.w + t.g):=by rw [hs,hk];rfl
 have hw':wv=if r.c - r.d - r.s + k - sv=0 then min t.w (r.g - r.s - r.w + t.g - sv) else 0:=by rw [hw,hk,hs];rfl
 rw [← hk] at e2
 rw [← hs] at e3
 rw [← hw] at e4
 obtain ⟨g1,hg1⟩:∃x,x=r.g + t.g:=⟨_,rfl⟩
 obtain ⟨c1,hc1⟩:∃x,x=r.c + t.c:=⟨_,rfl⟩
 obtain ⟨ek,hek⟩:∃x,x=t.c - k:=⟨_,rfl⟩
 obtain ⟨d1,hd1⟩:∃x,x=r.d + ek:=⟨_,rfl⟩
 obtain ⟨s1,hs1⟩:∃x,x=r.s + sv:=⟨_,rfl⟩
 obtain ⟨w3,hw3⟩:∃x,x=r.w + wv:=⟨_,rfl⟩
 rw [← hg1] at e0
 rw [← hc1] at e1
 rw [← hek,← hd1] at e2
 rw [← hs1] at e3
 rw [← hw3] at e4
 have HX:Hid (r.behind room t=⟨g1,c1,d1,s1,w3⟩):=Lib.hid (Rw.ext' e0 e1 e2 e3 e4)
 rw [HX.out] at HB HB2 ok2 ⊢
 clear e0 e1 e2 e3 e4 hk hs hw HX
 obtain ⟨o1,o2,o3,o4⟩:=ho
 obtain ⟨p1,p2,p3,p4⟩:=ok2
 obtain ⟨l0,l1,l2,l3,l4⟩:=hr
 obtain ⟨m0,m1,m2⟩:=ht
 simp only at p1 p2 p3
 have HQ:=Lib.hid (bh_queue W W.heap.size (W.heap.size + 1) (W.heap.size + 1 + 1) r t ⟨by omega,by omega,by omega,by omega,by omega⟩ o1)
 have HQ1:=Lib.hid (bh_queue W W.heap.size (W.heap.size + 1) (W.heap.size + 1 + 1) ⟨g1,c1,d1,r.s,r.w⟩ t ⟨by dsimp;omega,by dsimp;omega,by dsimp;omega,by dsimp;omega,by dsimp;omega⟩ (by dsimp;omega))
 have HT1:=Lib.hid (bh_tokens W W.heap.size (W.heap.size + 1) (W.heap.size + 1 + 1) ⟨g1,c1,d1,r.s,r.w⟩ t ⟨by dsimp;omega,by dsimp;omega,by dsimp;omega,by dsimp;omega,by dsimp;omega⟩ (by dsimp;omega))
 have HQ2:=Lib.hid (bh_queue W W.heap.size (W.heap.size + 1) (W.heap.size + 1 + 1) ⟨g1,c1,d1,s1,r.w⟩ t ⟨by dsimp;omega,by dsimp;omega,by dsimp;omega,by dsimp;omega,by dsimp;omega⟩ (by dsimp;omega))
 have HT2:=Lib.hid (bh_tokens W W.heap.size (W.heap.size + 1) (W.heap.size + 1 + 1) ⟨g1,c1,d1,s1,r.w⟩ t ⟨by dsimp;omega,by dsimp;omega,by dsimp;omega,by dsimp;omega,by dsimp;omega⟩ (by dsimp;omega))
 have i1:IntKind.u64.wrap ((room:Int) - ((r.c - r.d - r.s:Nat):Int))=((room - (r.c - r.d - r.s):Nat):Int):=by rw [IntKind.wrap_u64];omega
 have i2:(if room - (r.c - r.d - r.s) < t.c then ((room - (r.c - r.d - r.s):Nat):Int) else (t.c:Int))=(k:Int):=by rw [hk'];split <;> omega
 have i3:(r.g:Int) + (t.g:Int)=(g1:Int):=by omega
 have i4:(r.c:Int) + (t.c:Int)=(c1:Int):=by omega
 have i5:(t.c:Int) - (k:Int)=(ek:Int):=by omega
 have i6:(r.d:Int) + (ek:Int)=(d1:Int):=by omega
 have i7:(if g1 - r.s - r.w < c1 - d1 - r.s then ((g1 - r.s - r.w:Nat):Int) else ((c1 - d1 - r.s:Nat):Int))=(sv:Int):=by split <;> omega
 have i8:(r.s:Int) + (sv:Int)=(s1:Int):=by omega
 have i9:(r.w:Int) + (wv:Int)=(w3:Int):=by omega
 have j3:IntKind.u64.wrap (g1:Int)=(g1:Int):=by rw [IntKind.wrap_u64];omega
 have j4:IntKind.u64.wrap (c1:Int)=(c1:Int):=by rw [IntKind.wrap_u64];omega
 have j5:IntKind.u64.wrap (ek:Int)=(ek:Int):=by rw [IntKind.wrap_u64];omega
 have j6:IntKind.u64.wrap (d1:Int)=(d1:Int):=by rw [IntKind.wrap_u64];omega
 have j7:IntKind.u64.wrap (s1:Int)=(s1:Int):=by rw [IntKind.wrap_u64];omega
 have j8:IntKind.u64.wrap (w3:Int)=(w3:Int):=by rw [IntKind.wrap_u64];omega
 have HW:Hid ((c1 - d1 - s1=0→(if g1 - s1 - r.w < t.w then ((g1 - s1 - r.w:Nat):Int) else (t.w:Int))=(wv:Int))∧(c1 - d1 - s1≠0→r.w=w3)):=Lib.hid ⟨fun h=>by rw [if_pos (by omega)] at hw';split <;> omega,fun h=>by rw [if_neg (by omega)] at hw';omega⟩
 clear hk' hs' hw' hg1 hc1 hek hd1 hs1 hw3 o1 o2 o3 o4 p1 p2 p3 p4 l0 l1 l2 l3 l4 m0 m1 m2 hroom HB2
 have A0:=Blk.alloc (Blk.alloc (Blk.new W 51 r.cells) (.cells t.cells 49)) (.cells #[.int .u64 0,.int .u64 0,.int .u64 0,.int .u64 0,.int .u64 0] 51)
 have A1:=Blk.alloc (Blk.new1 W (.cells r.cells 51) 49 t.cells) (.cells #[.int .u64 0,.int .u64 0,.int .u64 0,.int .u64 0,.int .u64 0] 51)
 have A2:=Blk.new2 W (.cells r.cells 51) (.cells t.cells 49) 51 #[.int .u64 0,.int .u64 0,.int .u64 0,.int .u64 0,.int .u64 0]
 have A3:Below W.heap.size W (((W.alloc (.cells r.cells 51)).alloc (.cells t.cells 49)).alloc (.cells #[.int .u64 0,.int .u64 0,.int .u64 0,.int .u64 0,.int .u64 0] 51)):=(al_be2 W (.cells r.cells 51) (.cells t.cells 49)).alloc (by simp;omega) _
 have MA:Hid (BhI W W.heap.size (W.heap.size + 1) (W.heap.size + 1 + 1) r t (((W.alloc (.cells r.cells 51)).alloc (.cells t.cells 49)).alloc (.cells #[.int .u64 0,.int .u64 0,.int .u64 0,.int .u64 0,.int .u64 0] 51))):=Lib.hid ⟨A0,A1,A2,⟨Nat.le_refl _,by omega⟩,A3⟩
 clear A0 A1 A2 A3
 unfold Rw.cells Tn.cells at MA
 unfold Rw.agg at HQ HQ1 HT1 HQ2 HT2 ⊢
 unfold Tn.agg
 dsimp only at HQ1 HT1 HQ2 HT2
 go_enter Try.func18,Try.ntmps18
 go_wp2_with fail
 generalize ((W.alloc (.cells #[.int .u64 (r.g:Int),.int .u64 (r.c:Int),.int .u64 (r.d:Int),.int .u64 (r.s:Int),.int .u64 (r.w:Int)] 51)).alloc (.cells #[.int .u64 (t.g:Int),.int .u64 (t.c:Int),.int .u64 (t.w:Int)] 49)).alloc (.cells #[.int .u64 0,.int .u64 0,.int .u64 0,.int .u64 0,.int .u64 0] 51)=w0 at *
 obtain ⟨r0,r1,r2,r3,r4⟩:=bh_r (W:=W) (a:=W.heap.size) (b:=W.heap.size + 1) (c:=W.heap.size + 1 + 1) (r:=r) (t:=t)
 obtain ⟨t0,t1,t2⟩:=bh_t (W:=W) (a:=W.heap.size) (b:=W.heap.size + 1) (c:=W.heap.size + 1 + 1) (r:=r) (t:=t)
 have M0:Hid (BhI W W.heap.size (W.heap.size + 1) (W.heap.size + 1 + 1) r t w0.drew):=Lib.hid (MA.out.to ((Drawn.drew _).below _))
 clear MA
 refine wp_region_chain (S:=(fun w'=>Hid (BhI W W.heap.size (W.heap.size + 1) (W.heap.size + 1 + 1) r t w'))) 7 (by kernel_rfl) (by kernel_rfl) (by kernel_rfl) M0 ?_
 generalize w0.drew=wd at *
 simp only [List.size_toArray,List.length_cons,List.length_nil,Nat.reduceAdd,Array.replicate_succ,Array.replicate_zero,List.push_toArray,List.nil_append,List.cons_append]
 refine Chain.take (i:=0) (oi:=⟨some 8,_,_,_,_,_⟩) (v:=?v1) rfl (by kernel_rfl) (by kernel_rfl) (Or.inl ⟨by rfl,?y1⟩) ?rest1
 case y1=>intro w hSw;clear hSw;go_simp;(try with_reducible rfl)
 simp only [Act.put,List.setIfInBounds_toArray,List.set_cons_zero,List.set_cons_succ]
 refine Chain.take (i:=1) (oi:=⟨some 9,_,_,_,_,_⟩) (v:=?v2) rfl (by kernel_rfl) (by kernel_rfl) (Or.inl ⟨by rfl,?y2⟩) ?rest2
 case y2=>intro w hSw;go_simp;(try with_reducible rfl)
 simp only [Act.put,List.setIfInBounds_toArray,List.set_cons_zero,List.set_cons_succ]
 refine Chain.take (i:=2) (oi:=⟨some 10,_,_,_,_,_⟩) (v:=?v3) rfl (by kernel_rfl) (by kernel_rfl) (Or.inl ⟨by rfl,?y3⟩) ?rest3
 case y3=>intro w hSw;clear hSw;go_simp;(try with_reducible rfl)
 simp only [Act.put,List.setIfInBounds_toArray,List.set_cons_zero,List.set_cons_succ]
 refine Chain.take (i:=3) (oi:=⟨some 11,_,_,_,_,_⟩) (v:=?v4) rfl (by kernel_rfl) (by kernel_rfl) (Or.inl ⟨by rfl,?y4⟩) ?rest4
 case y4=>intro w hSw;go_simp;(try with_reducible rfl)
 simp only [Act.put,List.setIfInBounds_toArray,List.set_cons_zero,List.set_cons_succ]
 refine' Chain.call (i:=4) (oi:=⟨some 12,_,_,_,_,_⟩) _ _ rfl (by kernel_rfl) (by kernel_rfl) (by rfl) ?he5 (fun w hS=>HQ.out w hS) ?rest5
 case he5=>intro w;go_simp
 simp only [Act.put,List.setIfInBounds_toArray,List.set_cons_zero,List.set_cons_succ]
 refine Chain.take (i:=5) (oi:=⟨some 13,_,_,_,_,_⟩) (v:=?v6) rfl (by kernel_rfl) (by kernel_rfl) (Or.inl ⟨by rfl,?y6⟩) ?rest6
 case y6=>intro w hSw;clear hSw;go_simp;(try with_reducible rfl)
 simp only [Act.put,List.setIfInBounds_toArray,List.set_cons_zero,List.set_cons_succ]
 refine Chain.take (i:=6) (oi:=⟨some 14,_,_,_,_,_⟩) (v:=?v7) rfl (by kernel_rfl) (by kernel_rfl) (Or.inl ⟨by rfl,?y7⟩) ?rest7
 case y7=>intro w hSw;clear hSw;go_simp;(try with_reducible rfl)
 simp only [Act.put,List.setIfInBounds_toArray,List.set_cons_zero,List.set_cons_succ]
 refine Chain.last (by kernel_rfl) (fun w hSw=>?_)
 refine wpAnyH_ready (rs:=[7]) (by kernel_rfl) (by simp) ?_
 refine AllReadyH.cons (o:=⟨some 7,_,_,_,_,_⟩) rfl (fun K hK=>?_) AllReadyH.nil
 go_simp
 refine hK.out _ _ trivial (fun _=>?_)
 clear hK
 try simp only [List.setIfInBounds_toArray,List.set_cons_zero,List.set_cons_succ]
 refine wpAnyH_done (by kernel_rfl) ?_ _
 skip
 have q0:=r0 _ hSw
 have q1:=r1 _ hSw
 have q2:=r2 _ hSw
 have u0:=t0 _ hSw
 have u1:=t1 _ hSw
 have y0:=hSw.out.r.free 0
 have y1:=hSw.out.r.free 1
 have y2:=hSw.out.r.free 2
 have ne:=hSw.out.ne.1
 have S1:=Lib.hid (((hSw.out.set (q:=⟨g1,r.c,r.d,r.s,r.w⟩) 0 (.int .u64 (g1:Int)) rfl).set (q:=⟨g1,c1,r.d,r.s,r.w⟩) 1 (.int .u64 (c1:Int)) rfl).set (q:=⟨g1,c1,d1,r.s,r.w⟩) 2 (.int .u64 (d1:Int)) rfl)
 clear r0 r1 r2 r3 r4 t0 t1 t2 hSw
 go_wp2_with fail
 generalize ((w.setCell ⟨W.heap.size,0,none⟩ (.int .u64 (g1:Int))).setCell ⟨W.heap.size,1,none⟩ (.int .u64 (c1:Int))).setCell ⟨W.heap.size,2,none⟩ (.int .u64 (d1:Int))=w1 at *
 obtain ⟨r0,r1,r2,r3,r4⟩:=bh_r (W:=W) (a:=W.heap.size) (b:=W.heap.size + 1) (c:=W.heap.size + 1 + 1) (r:=⟨g1,c1,d1,r.s,r.w⟩) (t:=t)
 dsimp only at r0 r1 r2 r3 r4
 have M1:Hid (BhI W W.heap.size (W.heap.size + 1) (W.heap.size + 1 + 1) ⟨g1,c1,d1,r.s,r.w⟩ t w1.drew):=Lib.hid (S1.out.to ((Drawn.drew _).below _))
 clear S1 q0 q1 q2 u0 u1 y0 y1 y2 ne
 refine wp_region_chain (S:=(fun w'=>Hid (BhI W W.heap.size (W.heap.size + 1) (W.heap.size + 1 + 1) ⟨g1,c1,d1,r.s,r.w⟩ t w'))) 9 (by kernel_rfl) (by kernel_rfl) (by kernel_rfl) M1 ?_
 generalize w1.drew=wd at *
 simp only [List.size_toArray,List.length_cons,List.length_nil,Nat.reduceAdd,Array.replicate_succ,Array.replicate_zero,List.push_toArray,List.nil_append,List.cons_append]
 refine Chain.take (i:=0) (oi:=⟨some 35,_,_,_,_,_⟩) (v:=?v8) rfl (by kernel_rfl) (by kernel_rfl) (Or.inl ⟨by rfl,?y8⟩) ?rest8
 case y8=>intro w hSw;clear hSw;go_simp;(try with_reducible rfl)
 simp only [Act.put,List.setIfInBounds_toArray,List.set_cons_zero,List.set_cons_succ]
 refine Chain.take (i:=1) (oi:=⟨some 36,_,_,_,_,_⟩) (v:=?v9) rfl (by kernel_rfl) (by kernel_rfl) (Or.inl ⟨by rfl,?y9⟩) ?rest9
 case y9=>intro w hSw;go_simp;(try with_reducible rfl)
 simp only [Act.put,List.setIfInBounds_toArray,List.set_cons_zero,List.set_cons_succ]
 refine Chain.take (i:=2) (oi:=⟨some 37,_,_,_,_,_⟩) (v:=?v10) rfl (by kernel_rfl) (by kernel_rfl) (Or.inl ⟨by rfl,?y10⟩) ?rest10
 case y10=>intro w hSw;go_simp;(try with_reducible rfl)
 simp only [Act.put,List.setIfInBounds_toArray,List.set_cons_zero,List.set_cons_succ]
 refine' Chain.call (i:=3) (oi:=⟨some 38,_,_,_,_,_⟩) _ _ rfl (by kernel_rfl) (by kernel_rfl) (by rfl) ?he11 (fun w hS=>HQ1.out w hS) ?rest11
 case he11=>intro w;go_simp
 simp only [Act.put,List.setIfInBounds_toArray,List.set_cons_zero,List.set_cons_succ]
 refine Chain.take (i:=4) (oi:=⟨some 39,_,_,_,_,_⟩) (v:=?v12) rfl (by kernel_rfl) (by kernel_rfl) (Or.inl ⟨by rfl,?y12⟩) ?rest12
 case y12=>intro w hSw;go_simp;(try with_reducible rfl)
 simp only [Act.put,List.setIfInBounds_toArray,List.set_cons_zero,List.set_cons_succ]
 refine' Chain.call (i:=5) (oi:=⟨some 40,_,_,_,_,_⟩) _ _ rfl (by kernel_rfl) (by kernel_rfl) (by rfl) ?he13 (fun w hS=>HT1.out w hS) ?rest13
 case he13=>intro w;go_simp
 simp only [Act.put,List.setIfInBounds_toArray,List.set_cons_zero,List.set_cons_succ]
 refine Chain.take (i:=6) (oi:=⟨some 41,_,_,_,_,_⟩) (v:=?v14) rfl (by kernel_rfl) (by kernel_rfl) (Or.inl ⟨by rfl,?y14⟩) ?rest14
 case y14=>intro w hSw;clear hSw;go_simp;(try with_reducible rfl)
 simp only [Act.put,List.setIfInBounds_toArray,List.set_cons_zero,List.set_cons_succ]
 refine Chain.take (i:=7) (oi:=⟨some 42,_,_,_,_,_⟩) (v:=?v15) rfl (by kernel_rfl) (by kernel_rfl) (Or.inl ⟨by rfl,?y15⟩) ?rest15
 case y15=>intro w hSw;clear hSw;go_simp;(try with_reducible rfl)
 simp only [Act.put,List.setIfInBounds_toArray,List.set_cons_zero,List.set_cons_succ]
 refine Chain.take (i:=8) (oi:=⟨some 43,_,_,_,_,_⟩) (v:=?v16) rfl (by kernel_rfl) (by kernel_rfl) (Or.inl ⟨by rfl,?y16⟩) ?rest16
 case y16=>intro w hSw;clear hSw;go_simp;(try with_reducible rfl)
 simp only [Act.put,List.setIfInBounds_toArray,List.set_cons_zero,List.set_cons_succ]
 refine Chain.last (by kernel_rfl) (fun w hSw=>?_)
 refine wpAnyH_ready (rs:=[9]) (by kernel_rfl) (by simp) ?_
 refine AllReadyH.cons (o:=⟨none,_,_,_,_,_⟩) rfl (fun K hK=>?_) AllReadyH.nil
 have g3:=hSw.out.r.free 3
 have q3:=r3 _ hSw
 have M2:=Lib.hid (hSw.out.set (q:=⟨g1,c1,d1,s1,r.w⟩) 3 (.int .u64 (s1:Int)) rfl)
 clear hSw
 go_simp
 refine hK.out _ _ trivial (fun _=>?_)
 clear hK
 try simp only [List.setIfInBounds_toArray,List.set_cons_zero,List.set_cons_succ]
 refine wpAnyH_done (by kernel_rfl) ?_ _
 skip
 generalize w.setCell ⟨W.heap.size,3,none⟩ (.int .u64 (s1:Int))=w2 at *
 clear r0 r1 r2 r3 r4 M1 HQ HQ1 HT1 i1 i2 i3 i4 i5 i6 i7 i8 j3 j4 j5 j6 j7 q3 g3
 have q0:=M2.out.r.cell (i:=0) (v:=.int .u64 (g1:Int)) rfl
 have q1:=M2.out.r.cell (i:=1) (v:=.int .u64 (c1:Int)) rfl
 have q2:=M2.out.r.cell (i:=2) (v:=.int .u64 (d1:Int)) rfl
 have q3:=M2.out.r.cell (i:=3) (v:=.int .u64 (s1:Int)) rfl
 have q4:=M2.out.r.cell (i:=4) (v:=.int .u64 (r.w:Int)) rfl
 go_wp2_with fail
 refine (HQ2.out _ M2).mono ?_
 rintro e w3_1 ⟨rfl,M3⟩
 clear HQ2 M2 q0 q1 q2 q3 q4
 by_cases hz:c1 - d1 - s1=0
 ·have i7:=HW.out.1 hz
  have M4:Hid (BhI W W.heap.size (W.heap.size + 1) (W.heap.size + 1 + 1) ⟨g1,c1,d1,s1,r.w⟩ t w3_1.drew):=Lib.hid (M3.out.to ((Drawn.drew _).below _))
  obtain ⟨r0,r1,r2,r3,r4⟩:=bh_r (W:=W) (a:=W.heap.size) (b:=W.heap.size + 1) (c:=W.heap.size + 1 + 1) (r:=⟨g1,c1,d1,s1,r.w⟩) (t:=t)
  obtain ⟨t0,t1,t2⟩:=bh_t (W:=W) (a:=W.heap.size) (b:=W.heap.size + 1) (c:=W.heap.size + 1 + 1) (r:=⟨g1,c1,d1,s1,r.w⟩) (t:=t)
  dsimp only at r0 r1 r2 r3 r4
  rw [hz]
  clear M3 HW hz
  go_wp2_with fail
  refine wp_region_chain (S:=(fun w'=>Hid (BhI W W.heap.size (W.heap.size + 1) (W.heap.size + 1 + 1) ⟨g1,c1,d1,s1,r.w⟩ t w'))) 9 (by kernel_rfl) (by kernel_rfl) (by kernel_rfl) M4 ?_
  generalize w3_1.drew=wd at *
  simp only [List.size_toArray,List.length_cons,List.length_nil,Nat.reduceAdd,Array.replicate_succ,Array.replicate_zero,List.push_toArray,List.nil_append,List.cons_append]
  refine Chain.take (i:=0) (oi:=⟨some 47,_,_,_,_,_⟩) (v:=?v17) rfl (by kernel_rfl) (by kernel_rfl) (Or.inl ⟨by rfl,?y17⟩) ?rest17
  case y17=>intro w hSw;clear hSw;go_simp;(try with_reducible rfl)
  simp only [Act.put,List.setIfInBounds_toArray,List.set_cons_zero,List.set_cons_succ]
  refine Chain.take (i:=1) (oi:=⟨some 48,_,_,_,_,_⟩) (v:=?v18) rfl (by kernel_rfl) (by kernel_rfl) (Or.inl ⟨by rfl,?y18⟩) ?rest18
  case y18=>intro w hSw;go_simp;(try with_reducible rfl)
  simp only [Act.put,List.setIfInBounds_toArray,List.set_cons_zero,List.set_cons_succ]
  refine Chain.take (i:=2) (oi:=⟨some 49,_,_,_,_,_⟩) (v:=?v19) rfl (by kernel_rfl) (by kernel_rfl) (Or.inl ⟨by rfl,?y19⟩) ?rest19
  case y19=>intro w hSw;clear hSw;go_simp;(try with_reducible rfl)
  simp only [Act.put,List.setIfInBounds_toArray,List.set_cons_zero,List.set_cons_succ]
  refine Chain.take (i:=3) (oi:=⟨some 50,_,_,_,_,_⟩) (v:=?v20) rfl (by kernel_rfl) (by kernel_rfl) (Or.inl ⟨by rfl,?y20⟩) ?rest20
  case y20=>intro w hSw;go_simp;(try with_reducible rfl)
  simp only [Act.put,List.setIfInBounds_toArray,List.set_cons_zero,List.set_cons_succ]
  refine Chain.take (i:=4) (oi:=⟨some 51,_,_,_,_,_⟩) (v:=?v21) rfl (by kernel_rfl) (by kernel_rfl) (Or.inl ⟨by rfl,?y21⟩) ?rest21
  case y21=>intro w hSw;go_simp;(try with_reducible rfl)
  simp only [Act.put,List.setIfInBounds_toArray,List.set_cons_zero,List.set_cons_succ]
  refine' Chain.call (i:=5) (oi:=⟨some 52,_,_,_,_,_⟩) _ _ rfl (by kernel_rfl) (by kernel_rfl) (by rfl) ?he22 (fun w hS=>HT2.out w hS) ?rest22
  case he22=>intro w;go_simp
  simp only [Act.put,List.setIfInBounds_toArray,List.set_cons_zero,List.set_cons_succ]
  refine Chain.take (i:=6) (oi:=⟨some 53,_,_,_,_,_⟩) (v:=?v23) rfl (by kernel_rfl) (by kernel_rfl) (Or.inl ⟨by rfl,?y23⟩) ?rest23
  case y23=>intro w hSw;clear hSw;go_simp;(try with_reducible rfl)
  simp only [Act.put,List.setIfInBounds_toArray,List.set_cons_zero,List.set_cons_succ]
  refine Chain.take (i:=7) (oi:=⟨some 54,_,_,_,_,_⟩) (v:=?v24) rfl (by kernel_rfl) (by kernel_rfl) (Or.inl ⟨by rfl,?y24⟩) ?rest24
  case y24=>intro w hSw;clear hSw;go_simp;(try with_reducible rfl)
  simp only [Act.put,List.setIfInBounds_toArray,List.set_cons_zero,List.set_cons_succ]
  refine Chain.take (i:=8) (oi:=⟨some 55,_,_,_,_,_⟩) (v:=?v25) rfl (by kernel_rfl) (by kernel_rfl) (Or.inl ⟨by rfl,?y25⟩) ?rest25
  case y25=>intro w hSw;clear hSw;go_simp;(try with_reducible rfl)
  simp only [Act.put,List.setIfInBounds_toArray,List.set_cons_zero,List.set_cons_succ]
  refine Chain.last (by kernel_rfl) (fun w hSw=>?_)
  refine wpAnyH_ready (rs:=[9]) (by kernel_rfl) (by simp) ?_
  refine AllReadyH.cons (o:=⟨none,_,_,_,_,_⟩) rfl (fun K hK=>?_) AllReadyH.nil
  have g4:=hSw.out.r.free 4
  have q4:=r4 _ hSw
  have M5:=Lib.hid (hSw.out.set (q:=⟨g1,c1,d1,s1,w3⟩) 4 (.int .u64 (w3:Int)) rfl)
  clear hSw
  go_simp
  refine hK.out _ _ trivial (fun _=>?_)
  clear hK
  try simp only [List.setIfInBounds_toArray,List.set_cons_zero,List.set_cons_succ]
  refine wpAnyH_done (by kernel_rfl) ?_ _
  skip
  generalize w.setCell ⟨W.heap.size,4,none⟩ (.int .u64 (w3:Int))=w4 at *
  clear r0 r1 r2 r3 r4 t0 t1 t2 q4 g4 i9 i7 j8 HT2 M4
  have q0:=M5.out.r.cell (i:=0) (v:=.int .u64 (g1:Int)) rfl
  have q1:=M5.out.r.cell (i:=1) (v:=.int .u64 (c1:Int)) rfl
  have q2:=M5.out.r.cell (i:=2) (v:=.int .u64 (d1:Int)) rfl
  have q3:=M5.out.r.cell (i:=3) (v:=.int .u64 (s1:Int)) rfl
  have q4:=M5.out.r.cell (i:=4) (v:=.int .u64 (w3:Int)) rfl
  obtain ⟨⟨z0,z1,z2,z3,z4⟩,y⟩:=bh_o M5
  have y0:=y 0
  have y1:=y 1
  have y2:=y 2
  have y3:=y 3
  have y4:=y 4
  obtain ⟨wz,hwz,Z1,Z2⟩:=bh_post M5
  have Z3:=Lib.hid Z1
  have Z4:=Lib.hid Z2
  subst hwz
  clear y Z1 Z2 M5
  go_wp2_with fail
  exact bodyPost_ret (results_cell rfl _ _ (W.heap.size + 1 + 1) 51 _ _ rfl Z3.out Try.underlying51 rfl (by kernel_rfl)) rfl ⟨rfl,Z4.out⟩
 ·have hw:=HW.out.2 hz
  obtain ⟨q,hq⟩:∃q,q=c1 - d1 - s1:=⟨_,rfl⟩
  rw [← hq] at hz ⊢
  have dz:((q:Int) == 0)=false:=by simp;omega
  have M5:Hid (BhI W W.heap.size (W.heap.size + 1) (W.heap.size + 1 + 1) ⟨g1,c1,d1,s1,w3⟩ t w3_1):=by rw [← hw];exact M3
  clear HT2 HW i9 j8 hz hq hw M3
  have q0:=M5.out.r.cell (i:=0) (v:=.int .u64 (g1:Int)) rfl
  have q1:=M5.out.r.cell (i:=1) (v:=.int .u64 (c1:Int)) rfl
  have q2:=M5.out.r.cell (i:=2) (v:=.int .u64 (d1:Int)) rfl
  have q3:=M5.out.r.cell (i:=3) (v:=.int .u64 (s1:Int)) rfl
  have q4:=M5.out.r.cell (i:=4) (v:=.int .u64 (w3:Int)) rfl
  obtain ⟨⟨z0,z1,z2,z3,z4⟩,y⟩:=bh_o M5
  have y0:=y 0
  have y1:=y 1
  have y2:=y 2
  have y3:=y 3
  have y4:=y 4
  obtain ⟨wz,hwz,Z1,Z2⟩:=bh_post M5
  have Z3:=Lib.hid Z1
  have Z4:=Lib.hid Z2
  subst hwz
  clear y Z1 Z2 M5
  go_wp2_with fail
  exact bodyPost_ret (results_cell rfl _ _ (W.heap.size + 1 + 1) 51 _ _ rfl Z3.out Try.underlying51 rfl (by kernel_rfl)) rfl ⟨rfl,Z4.out⟩
end Go.Proofs.Ytljganehlagnoaa

set_option linter.unusedVariables false
namespace Go.Proofs.Ytljganehlagnoaa
open Go.RowKit
def Rw.nth (r:Rw):Nat→Nat
 | 0=>r.g
 | 1=>r.c
 | 2=>r.d
 | 3=>r.s
 | _=>r.w
theorem falls_stop {a r:Rw} {k:Nat} (h:up1 (a.nth k) (r.nth k)=false):fallsR a r=true:=by
 unfold fallsR
 match k,h with
 | 0,h=>rw [show up1 a.g r.g=false from h];rfl
 | 1,h=>rw [show up1 a.c r.c=false from h];simp
 | 2,h=>rw [show up1 a.d r.d=false from h];simp
 | 3,h=>rw [show up1 a.s r.s=false from h];simp
 | (n + 4),h=>rw [show up1 a.w r.w=false from h];simp
theorem falls_none {a r:Rw} (h:∀i,i < 5→up1 (a.nth i) (r.nth i)=true):fallsR a r=false:=by
 unfold fallsR
 rw [show up1 a.g r.g=true from h 0 (by omega),show up1 a.c r.c=true from h 1 (by omega),show up1 a.d r.d=true from h 2 (by omega),show up1 a.s r.s=true from h 3 (by omega),show up1 a.w r.w=true from h 4 (by omega)];rfl
theorem up_less {x y:Nat} (h:y < x):up1 x y=false:=by unfold up1;rw [decide_eq_false (by omega)];rfl
theorem up_far {x y:Nat} (h:1099511627776 < y - x):up1 x y=false:=by unfold up1;rw [decide_eq_false (show ¬ y - x≤1099511627776 by omega),Bool.and_false]
theorem up_ok {x y:Nat} (h:x≤y) (k:y - x≤1099511627776):up1 x y=true:=by unfold up1;rw [decide_eq_true h,decide_eq_true k];rfl
theorem five {k:Nat} (h:k < 5):k=0∨k=1∨k=2∨k=3∨k=4:=by omega
set_option maxRecDepth 100000 in
set_option maxHeartbeats 1000000 in
theorem mt_falls (r a:Rw) (W:World) (hr:r.le 18446744073709551615):Calls Try.prog 28 #[r.agg,a.agg] W fun e w'=>e=.returned (.bool (fallsR a r))∧Below W.heap.size W w':=by
 have HR:=Lib.hid hr
 have HN1:=Lib.hid (fun w=>mt_numbers a w)
 have HN2:=Lib.hid (fun w=>mt_numbers r w)
 have A0:=Blk.alloc (Blk.new W 51 r.cells) (.cells a.cells 51)
 have A1:=Blk.new1 W (.cells r.cells 51) 51 a.cells
 have BB:=Lib.hid (al_be2 W (.cells r.cells 51) (.cells a.cells 51))
 clear hr
 unfold Rw.cells at A0 A1 BB
 unfold Rw.agg at HN1 HN2 ⊢
 go_enter Try.func28,Try.ntmps28
 go_wp2_with fail
 generalize (W.alloc (.cells #[.int .u64 (r.g:Int),.int .u64 (r.c:Int),.int .u64 (r.d:Int),.int .u64 (r.s:Int),.int .u64 (r.w:Int)] 51)).alloc (.cells #[.int .u64 (a.g:Int),.int .u64 (a.c:Int),.int .u64 (a.d:Int),.int .u64 (a.s:Int),.int .u64 (a.w:Int)] 51)=w1 at *
 have B0:=Lib.hid A0
 have B1:=Lib.hid A1
 clear A0 A1
 refine (HN1.out _).mono ?_
 rintro e w2 ⟨rfl,hb⟩
 have C0:=(B0.out.keep hb).alloc (.cells #[.int .u64 (a.g:Int),.int .u64 (a.c:Int),.int .u64 (a.d:Int),.int .u64 (a.s:Int),.int .u64 (a.w:Int)] 64)
 have C1:=Blk.new w2 64 #[.int .u64 (a.g:Int),.int .u64 (a.c:Int),.int .u64 (a.d:Int),.int .u64 (a.s:Int),.int .u64 (a.w:Int)]
 have CB:Below W.heap.size W (w2.alloc (.cells #[.int .u64 (a.g:Int),.int .u64 (a.c:Int),.int .u64 (a.d:Int),.int .u64 (a.s:Int),.int .u64 (a.w:Int)] 64)):=(bel_to BB.out hb BB.out.size).alloc (bel_to BB.out hb BB.out.size).size _
 clear hb B0 B1 BB HN1
 have q0:=C0.cell (i:=0) (v:=.int .u64 (r.g:Int)) rfl
 have q1:=C0.cell (i:=1) (v:=.int .u64 (r.c:Int)) rfl
 have q2:=C0.cell (i:=2) (v:=.int .u64 (r.d:Int)) rfl
 have q3:=C0.cell (i:=3) (v:=.int .u64 (r.s:Int)) rfl
 have q4:=C0.cell (i:=4) (v:=.int .u64 (r.w:Int)) rfl
 go_wp2_with fail
 generalize w2.alloc (.cells #[.int .u64 (a.g:Int),.int .u64 (a.c:Int),.int .u64 (a.d:Int),.int .u64 (a.s:Int),.int .u64 (a.w:Int)] 64)=w3 at *
 generalize w2.heap.size=z at *
 refine (HN2.out _).mono ?_
 rintro e w4 ⟨rfl,hb⟩
 have D1:=Lib.hid (C1.keep hb)
 have DB:=Lib.hid (bel_to CB hb CB.size)
 clear C0 C1 CB q0 q1 q2 q3 q4 hb HN2
 go_wp2_with fail
 go_loopw [12] (fun i wr=>∃k:Nat,i=.int .i64 (k:Int)∧k≤5∧(∀i,i < k→up1 (a.nth i) (r.nth i)=true)∧wr=w4) (fun i _=>5 - (intOf i).toNat)
 case atStart=>exact ⟨0,rfl,by omega,fun i hi=>by omega,rfl⟩
 case round=>
  obtain ⟨k,rfl,hk,hall,rfl⟩:=hrel
  have HAll:=Lib.hid hall
  have HBe:=DB
  clear hall
  by_cases hlt:k < 5
  ·have h0:=D1.out.cell (i:=0) (v:=.int .u64 (a.g:Int)) rfl
   have h1:=D1.out.cell (i:=1) (v:=.int .u64 (a.c:Int)) rfl
   have h2:=D1.out.cell (i:=2) (v:=.int .u64 (a.d:Int)) rfl
   have h3:=D1.out.cell (i:=3) (v:=.int .u64 (a.s:Int)) rfl
   have h4:=D1.out.cell (i:=4) (v:=.int .u64 (a.w:Int)) rfl
   have h5:=five hlt
   clear hlt hk
   rcases h5 with rfl | rfl | rfl | rfl | rfl
   ·have hix:∀w,(Instr.index 64 (.agg #[.int .u64 (r.g:Int),.int .u64 (r.c:Int),.int .u64 (r.d:Int),.int .u64 (r.s:Int),.int .u64 (r.w:Int)]) (.int .i64 0)).run Try.prog w=.ok (.int .u64 (r.g:Int)) w:=fun w=>by kernel_rfl
    by_cases c1:r.g < a.g
    ·have HF:Hid (fallsR a r=true):=Lib.hid (falls_stop (k:=0) (up_less c1))
     go_wp2_with fail
     go_ret
     exact ⟨by rw [HF.out];rfl,HBe.out⟩
    ·by_cases c2:1099511627776 < r.g - a.g
     ·have HF:Hid (fallsR a r=true):=Lib.hid (falls_stop (k:=0) (up_far c2))
      have d1:(r.g:Int) - (a.g:Int)=((r.g - a.g:Nat):Int):=by omega
      have d2:IntKind.u64.wrap ((r.g - a.g:Nat):Int)=((r.g - a.g:Nat):Int):=by rw [IntKind.wrap_u64];have:=HR.out.1;omega
      have d3:decide ((1099511627776:Int) < ((r.g - a.g:Nat):Int))=true:=decide_eq_true (by omega)
      clear c2
      generalize r.g - a.g=e at *
      go_wp2_with fail
      go_ret
      exact ⟨by rw [HF.out];rfl,HBe.out⟩
     ·have HU:=Lib.hid (up_ok (show a.g≤r.g by omega) (show r.g - a.g≤1099511627776 by omega))
      have d1:(r.g:Int) - (a.g:Int)=((r.g - a.g:Nat):Int):=by omega
      have d2:IntKind.u64.wrap ((r.g - a.g:Nat):Int)=((r.g - a.g:Nat):Int):=by rw [IntKind.wrap_u64];have:=HR.out.1;omega
      have d3:decide ((1099511627776:Int) < ((r.g - a.g:Nat):Int))=false:=decide_eq_false (by omega)
      clear c2
      generalize r.g - a.g=e at *
      go_wp2_with fail
      go_roundw
      case rel=>exact ⟨1,by go_num,by omega,fun i hi=>by
       rcases Nat.lt_or_ge i 0 with c | c
       ·exact HAll.out i c
       ·obtain rfl:i=0:=by omega
        exact HU.out,trivial⟩
      case measure=>simp [intOf]
   ·have hix:∀w,(Instr.index 64 (.agg #[.int .u64 (r.g:Int),.int .u64 (r.c:Int),.int .u64 (r.d:Int),.int .u64 (r.s:Int),.int .u64 (r.w:Int)]) (.int .i64 1)).run Try.prog w=.ok (.int .u64 (r.c:Int)) w:=fun w=>by kernel_rfl
    by_cases c1:r.c < a.c
    ·have HF:Hid (fallsR a r=true):=Lib.hid (falls_stop (k:=1) (up_less c1))
     go_wp2_with fail
     go_ret
     exact ⟨by rw [HF.out];rfl,HBe.out⟩
    ·by_cases c2:1099511627776 < r.c - a.c
     ·have HF:Hid (fallsR a r=true):=Lib.hid (falls_stop (k:=1) (up_far c2))
      have d1:(r.c:Int) - (a.c:Int)=((r.c - a.c:Nat):Int):=by omega
      have d2:IntKind.u64.wrap ((r.c - a.c:Nat):Int)=((r.c - a.c:Nat):Int):=by rw [IntKind.wrap_u64];have:=HR.out.2.1;omega
      have d3:decide ((1099511627776:Int) < ((r.c - a.c:Nat):Int))=true:=decide_eq_true (by omega)
      clear c2
      generalize r.c - a.c=e at *
      go_wp2_with fail
      go_ret
      exact ⟨by rw [HF.out];rfl,HBe.out⟩
     ·have HU:=Lib.hid (up_ok (show a.c≤r.c by omega) (show r.c - a.c≤1099511627776 by omega))
      have d1:(r.c:Int) - (a.c:Int)=((r.c - a.c:Nat):Int):=by omega
      have d2:IntKind.u64.wrap ((r.c - a.c:Nat):Int)=((r.c - a.c:Nat):Int):=by rw [IntKind.wrap_u64];have:=HR.out.2.1;omega
      have d3:decide ((1099511627776:Int) < ((r.c - a.c:Nat):Int))=false:=decide_eq_false (by omega)
      clear c2
      generalize r.c - a.c=e at *
      go_wp2_with fail
      go_roundw
      case rel=>exact ⟨2,by go_num,by omega,fun i hi=>by
       rcases Nat.lt_or_ge i 1 with c | c
       ·exact HAll.out i c
       ·obtain rfl:i=1:=by omega
        exact HU.out,trivial⟩
      case measure=>simp [intOf]
   ·have hix:∀w,(Instr.index 64 (.agg #[.int .u64 (r.g:Int),.int .u64 (r.c:Int),.int .u64 (r.d:Int),.int .u64 (r.s:Int),.int .u64 (r.w:Int)]) (.int .i64 2)).run Try.prog w=.ok (.int .u64 (r.d:Int)) w:=fun w=>by kernel_rfl
    by_cases c1:r.d < a.d
    ·have HF:Hid (fallsR a r=true):=Lib.hid (falls_stop (k:=2) (up_less c1))
     go_wp2_with fail
     go_ret
     exact ⟨by rw [HF.out];rfl,HBe.out⟩
    ·by_cases c2:1099511627776 < r.d - a.d
     ·have HF:Hid (fallsR a r=true):=Lib.hid (falls_stop (k:=2) (up_far c2))
      have d1:(r.d:Int) - (a.d:Int)=((r.d - a.d:Nat):Int):=by omega
      have d2:IntKind.u64.wrap ((r.d - a.d:Nat):Int)=((r.d - a.d:Nat):Int):=by rw [IntKind.wrap_u64];have:=HR.out.2.2.1;omega
      have d3:decide ((1099511627776:Int) < ((r.d - a.d:Nat):Int))=true:=decide_eq_true (by omega)
      clear c2
      generalize r.d - a.d=e at *
      go_wp2_with fail
      go_ret
      exact ⟨by rw [HF.out];rfl,HBe.out⟩
     ·have HU:=Lib.hid (up_ok (show a.d≤r.d by omega) (show r.d - a.d≤1099511627776 by omega))
      have d1:(r.d:Int) - (a.d:Int)=((r.d - a.d:Nat):Int):=by omega
      have d2:IntKind.u64.wrap ((r.d - a.d:Nat):Int)=((r.d - a.d:Nat):Int):=by rw [IntKind.wrap_u64];have:=HR.out.2.2.1;omega
      have d3:decide ((1099511627776:Int) < ((r.d - a.d:Nat):Int))=false:=decide_eq_false (by omega)
      clear c2
      generalize r.d - a.d=e at *
      go_wp2_with fail
      go_roundw
      case rel=>exact ⟨3,by go_num,by omega,fun i hi=>by
       rcases Nat.lt_or_ge i 2 with c | c
       ·exact HAll.out i c
       ·obtain rfl:i=2:=by omega
        exact HU.out,trivial⟩
      case measure=>simp [intOf]
   ·have hix:∀w,(Instr.index 64 (.agg #[.int .u64 (r.g:Int),.int .u64 (r.c:Int),.int .u64 (r.d:Int),.int .u64 (r.s:Int),.int .u64 (r.w:Int)]) (.int .i64 3)).run Try.prog w=.ok (.int .u64 (r.s:Int)) w:=fun w=>by kernel_rfl
    by_cases c1:r.s < a.s
    ·have HF:Hid (fallsR a r=true):=Lib.hid (falls_stop (k:=3) (up_less c1))
     go_wp2_with fail
     go_ret
     exact ⟨by rw [HF.out];rfl,HBe.out⟩
    ·by_cases c2:1099511627776 < r.s - a.s
     ·have HF:Hid (fallsR a r=true):=Lib.hid (falls_stop (k:=3) (up_far c2))
      have d1:(r.s:Int) - (a.s:Int)=((r.s - a.s:Nat):Int):=by omega
      have d2:IntKind.u64.wrap ((r.s - a.s:Nat):Int)=((r.s - a.s:Nat):Int):=by rw [IntKind.wrap_u64];have:=HR.out.2.2.2.1;omega
      have d3:decide ((1099511627776:Int) < ((r.s - a.s:Nat):Int))=true:=decide_eq_true (by omega)
      clear c2
      generalize r.s - a.s=e at *
      go_wp2_with fail
      go_ret
      exact ⟨by rw [HF.out];rfl,HBe.out⟩
     ·have HU:=Lib.hid (up_ok (show a.s≤r.s by omega) (show r.s - a.s≤1099511627776 by omega))
      have d1:(r.s:Int) - (a.s:Int)=((r.s - a.s:Nat):Int):=by omega
      have d2:IntKind.u64.wrap ((r.s - a.s:Nat):Int)=((r.s - a.s:Nat):Int):=by rw [IntKind.wrap_u64];have:=HR.out.2.2.2.1;omega
      have d3:decide ((1099511627776:Int) < ((r.s - a.s:Nat):Int))=false:=decide_eq_false (by omega)
      clear c2
      generalize r.s - a.s=e at *
      go_wp2_with fail
      go_roundw
      case rel=>exact ⟨4,by go_num,by omega,fun i hi=>by
       rcases Nat.lt_or_ge i 3 with c | c
       ·exact HAll.out i c
       ·obtain rfl:i=3:=by omega
        exact HU.out,trivial⟩
      case measure=>simp [intOf]
   ·have hix:∀w,(Instr.index 64 (.agg #[.int .u64 (r.g:Int),.int .u64 (r.c:Int),.int .u64 (r.d:Int),.int .u64 (r.s:Int),.int .u64 (r.w:Int)]) (.int .i64 4)).run Try.prog w=.ok (.int .u64 (r.w:Int)) w:=fun w=>by kernel_rfl
    by_cases c1:r.w < a.w
    ·have HF:Hid (fallsR a r=true):=Lib.hid (falls_stop (k:=4) (up_less c1))
     go_wp2_with fail
     go_ret
     exact ⟨by rw [HF.out];rfl,HBe.out⟩
    ·by_cases c2:1099511627776 < r.w - a.w
     ·have HF:Hid (fallsR a r=true):=Lib.hid (falls_stop (k:=4) (up_far c2))
      have d1:(r.w:Int) - (a.w:Int)=((r.w - a.w:Nat):Int):=by omega
      have d2:IntKind.u64.wrap ((r.w - a.w:Nat):Int)=((r.w - a.w:Nat):Int):=by rw [IntKind.wrap_u64];have:=HR.out.2.2.2.2;omega
      have d3:decide ((1099511627776:Int) < ((r.w - a.w:Nat):Int))=true:=decide_eq_true (by omega)
      clear c2
      generalize r.w - a.w=e at *
      go_wp2_with fail
      go_ret
      exact ⟨by rw [HF.out];rfl,HBe.out⟩
     ·have HU:=Lib.hid (up_ok (show a.w≤r.w by omega) (show r.w - a.w≤1099511627776 by omega))
      have d1:(r.w:Int) - (a.w:Int)=((r.w - a.w:Nat):Int):=by omega
      have d2:IntKind.u64.wrap ((r.w - a.w:Nat):Int)=((r.w - a.w:Nat):Int):=by rw [IntKind.wrap_u64];have:=HR.out.2.2.2.2;omega
      have d3:decide ((1099511627776:Int) < ((r.w - a.w:Nat):Int))=false:=decide_eq_false (by omega)
      clear c2
      generalize r.w - a.w=e at *
      go_wp2_with fail
      go_roundw
      case rel=>exact ⟨5,by go_num,by omega,fun i hi=>by
       rcases Nat.lt_or_ge i 4 with c | c
       ·exact HAll.out i c
       ·obtain rfl:i=4:=by omega
        exact HU.out,trivial⟩
      case measure=>simp [intOf]
  ·obtain rfl:k=5:=by omega
   have HF:Hid (fallsR a r=false):=Lib.hid (falls_none HAll.out)
   go_wp2_with fail
   go_ret
   exact ⟨by rw [HF.out];rfl,HBe.out⟩
theorem mt_is1 (room:Nat) (r a:Rw) (W:World) (hr:r.le 18446744073709551615):Calls Try.prog 25 #[r.agg,.int .i64 1,.int .u64 (room:Int),a.agg] W fun e w'=>e=.returned (.bool (fallsR a r))∧Below W.heap.size W w':=by
 have HF:=Lib.hid (fun w=>mt_falls r a w hr)
 have A0:=Blk.alloc (Blk.new W 51 r.cells) (.cells a.cells 51)
 have A1:=Blk.new1 W (.cells r.cells 51) 51 a.cells
 have BB:=Lib.hid (al_be2 W (.cells r.cells 51) (.cells a.cells 51))
 unfold Rw.cells at A0 A1 BB
 have r0:=A0.cell (i:=0) (v:=.int .u64 (r.g:Int)) rfl
 have a0:=A1.cell (i:=0) (v:=.int .u64 (a.g:Int)) rfl
 have r1:=A0.cell (i:=1) (v:=.int .u64 (r.c:Int)) rfl
 have a1:=A1.cell (i:=1) (v:=.int .u64 (a.c:Int)) rfl
 have r2:=A0.cell (i:=2) (v:=.int .u64 (r.d:Int)) rfl
 have a2:=A1.cell (i:=2) (v:=.int .u64 (a.d:Int)) rfl
 have r3:=A0.cell (i:=3) (v:=.int .u64 (r.s:Int)) rfl
 have a3:=A1.cell (i:=3) (v:=.int .u64 (a.s:Int)) rfl
 have r4:=A0.cell (i:=4) (v:=.int .u64 (r.w:Int)) rfl
 have a4:=A1.cell (i:=4) (v:=.int .u64 (a.w:Int)) rfl
 clear hr A0 A1
 unfold Rw.agg at HF ⊢
 generalize fallsR a r=q at *
 go_enter Try.func25,Try.ntmps25
 go_wp2_with fail
 refine (HF.out _).mono ?_
 rintro e w2 ⟨rfl,hb⟩
 have BC:=Lib.hid (bel_to BB.out hb BB.out.size)
 clear hb
 go_wp2_with fail
 go_ret
 exact ⟨rfl,BC.out⟩
theorem mt_is2 (room:Nat) (r a:Rw) (W:World) (hr:r.le 1126999418470400) (ha:a.le 1126999418470400):Calls Try.prog 25 #[r.agg,.int .i64 2,.int .u64 (room:Int),a.agg] W fun e w'=>e=.returned (.bool (roomR room a r))∧Below W.heap.size W w':=by
 have A0:=Blk.alloc (Blk.new W 51 r.cells) (.cells a.cells 51)
 have A1:=Blk.new1 W (.cells r.cells 51) 51 a.cells
 have BB:=Lib.hid (al_be2 W (.cells r.cells 51) (.cells a.cells 51))
 unfold Rw.cells at A0 A1 BB
 have r0:=A0.cell (i:=0) (v:=.int .u64 (r.g:Int)) rfl
 have a0:=A1.cell (i:=0) (v:=.int .u64 (a.g:Int)) rfl
 have r1:=A0.cell (i:=1) (v:=.int .u64 (r.c:Int)) rfl
 have a1:=A1.cell (i:=1) (v:=.int .u64 (a.c:Int)) rfl
 have r2:=A0.cell (i:=2) (v:=.int .u64 (r.d:Int)) rfl
 have a2:=A1.cell (i:=2) (v:=.int .u64 (a.d:Int)) rfl
 have r3:=A0.cell (i:=3) (v:=.int .u64 (r.s:Int)) rfl
 have a3:=A1.cell (i:=3) (v:=.int .u64 (a.s:Int)) rfl
 have r4:=A0.cell (i:=4) (v:=.int .u64 (r.w:Int)) rfl
 have a4:=A1.cell (i:=4) (v:=.int .u64 (a.w:Int)) rfl
 have d1:(r.d:Int) + (a.s:Int)=((r.d + a.s:Nat):Int):=by omega
 have d2:IntKind.u64.wrap ((r.d + a.s:Nat):Int)=((r.d + a.s:Nat):Int):=by rw [IntKind.wrap_u64];have:=hr.2.2.1;have:=ha.2.2.2.1;omega
 by_cases c1:r.c < r.d + a.s
 ·have HE:Hid (roomR room a r=true):=Lib.hid (by unfold roomR;rw [decide_eq_true c1];rfl)
  clear hr ha A0 A1
  unfold Rw.agg
  generalize r.d + a.s=k at *
  go_enter Try.func25,Try.ntmps25
  go_wp2_with fail
  go_ret
  exact ⟨by rw [HE.out];rfl,BB.out⟩
 ·have HE:Hid (roomR room a r=decide (room < r.c - r.d - a.s)):=Lib.hid (by unfold roomR;rw [decide_eq_false c1];rfl)
  have HC:=Lib.hid (fun w=>mt_filled r a w (hr.mono (by omega)) (by omega))
  unfold Rw.agg at HC ⊢
  clear hr ha
  generalize r.d + a.s=k at *
  generalize r.c - r.d - a.s=f at *
  have d3:decide ((room:Int) < (f:Int))=decide (room < f):=by apply decide_eq_decide.2;omega
  go_enter Try.func25,Try.ntmps25
  go_wp2_with fail
  generalize (W.alloc (.cells #[.int .u64 (r.g:Int),.int .u64 (r.c:Int),.int .u64 (r.d:Int),.int .u64 (r.s:Int),.int .u64 (r.w:Int)] 51)).alloc (.cells #[.int .u64 (a.g:Int),.int .u64 (a.c:Int),.int .u64 (a.d:Int),.int .u64 (a.s:Int),.int .u64 (a.w:Int)] 51)=w1 at *
  refine (HC.out _).mono ?_
  rintro e w2 ⟨rfl,hb⟩
  have BC:=Lib.hid (bel_to BB.out hb BB.out.size)
  have A2:=A0.keep hb
  have A3:=A1.keep hb
  clear hb
  clear r0 r1 r2 r3 r4 a0 a1 a2 a3 a4 BB A0 A1
  go_wp2_with fail
  go_ret
  exact ⟨by rw [HE.out];rfl,BC.out⟩
theorem mt_is3 (room:Nat) (r a:Rw) (W:World) (hr:r.le 1126999418470400) (h:r.d + a.s≤r.c):Calls Try.prog 25 #[r.agg,.int .i64 3,.int .u64 (room:Int),a.agg] W fun e w'=>e=.returned (.bool (dropR room a r))∧Below W.heap.size W w':=by
 have A0:=Blk.alloc (Blk.new W 51 r.cells) (.cells a.cells 51)
 have A1:=Blk.new1 W (.cells r.cells 51) 51 a.cells
 have BB:=Lib.hid (al_be2 W (.cells r.cells 51) (.cells a.cells 51))
 unfold Rw.cells at A0 A1 BB
 have r0:=A0.cell (i:=0) (v:=.int .u64 (r.g:Int)) rfl
 have a0:=A1.cell (i:=0) (v:=.int .u64 (a.g:Int)) rfl
 have r1:=A0.cell (i:=1) (v:=.int .u64 (r.c:Int)) rfl
 have a1:=A1.cell (i:=1) (v:=.int .u64 (a.c:Int)) rfl
 have r2:=A0.cell (i:=2) (v:=.int .u64 (r.d:Int)) rfl
 have a2:=A1.cell (i:=2) (v:=.int .u64 (a.d:Int)) rfl
 have r3:=A0.cell (i:=3) (v:=.int .u64 (r.s:Int)) rfl
 have a3:=A1.cell (i:=3) (v:=.int .u64 (a.s:Int)) rfl
 have r4:=A0.cell (i:=4) (v:=.int .u64 (r.w:Int)) rfl
 have a4:=A1.cell (i:=4) (v:=.int .u64 (a.w:Int)) rfl
 by_cases c1:a.d < r.d
 ·have HE:Hid (dropR room a r=decide (r.c - r.d - a.s < room)):=Lib.hid (by unfold dropR;rw [decide_eq_true c1];simp)
  have HC:=Lib.hid (fun w=>mt_filled r a w (hr.mono (by omega)) h)
  unfold Rw.agg at HC ⊢
  clear hr h
  generalize r.c - r.d - a.s=f at *
  have d3:decide ((f:Int) < (room:Int))=decide (f < room):=by apply decide_eq_decide.2;omega
  go_enter Try.func25,Try.ntmps25
  go_wp2_with fail
  generalize (W.alloc (.cells #[.int .u64 (r.g:Int),.int .u64 (r.c:Int),.int .u64 (r.d:Int),.int .u64 (r.s:Int),.int .u64 (r.w:Int)] 51)).alloc (.cells #[.int .u64 (a.g:Int),.int .u64 (a.c:Int),.int .u64 (a.d:Int),.int .u64 (a.s:Int),.int .u64 (a.w:Int)] 51)=w1 at *
  refine (HC.out _).mono ?_
  rintro e w2 ⟨rfl,hb⟩
  have BC:=Lib.hid (bel_to BB.out hb BB.out.size)
  have A2:=A0.keep hb
  have A3:=A1.keep hb
  clear hb
  clear r0 r1 r2 r3 r4 a0 a1 a2 a3 a4 BB A0 A1
  go_wp2_with fail
  go_ret
  exact ⟨by rw [HE.out];rfl,BC.out⟩
 ·have HE:Hid (dropR room a r=false):=Lib.hid (by unfold dropR;rw [decide_eq_false c1];rfl)
  clear hr h A0 A1
  unfold Rw.agg
  go_enter Try.func25,Try.ntmps25
  go_wp2_with fail
  go_ret
  exact ⟨by rw [HE.out];rfl,BB.out⟩
theorem mt_is4 (room:Nat) (r a:Rw) (W:World) (hr:r.le 1126999418470400) (h:r.d≤r.c):Calls Try.prog 25 #[r.agg,.int .i64 4,.int .u64 (room:Int),a.agg] W fun e w'=>e=.returned (.bool (serveR r))∧Below W.heap.size W w':=by
 have A0:=Blk.alloc (Blk.new W 51 r.cells) (.cells a.cells 51)
 have A1:=Blk.new1 W (.cells r.cells 51) 51 a.cells
 have BB:=Lib.hid (al_be2 W (.cells r.cells 51) (.cells a.cells 51))
 unfold Rw.cells at A0 A1 BB
 have r0:=A0.cell (i:=0) (v:=.int .u64 (r.g:Int)) rfl
 have a0:=A1.cell (i:=0) (v:=.int .u64 (a.g:Int)) rfl
 have r1:=A0.cell (i:=1) (v:=.int .u64 (r.c:Int)) rfl
 have a1:=A1.cell (i:=1) (v:=.int .u64 (a.c:Int)) rfl
 have r2:=A0.cell (i:=2) (v:=.int .u64 (r.d:Int)) rfl
 have a2:=A1.cell (i:=2) (v:=.int .u64 (a.d:Int)) rfl
 have r3:=A0.cell (i:=3) (v:=.int .u64 (r.s:Int)) rfl
 have a3:=A1.cell (i:=3) (v:=.int .u64 (a.s:Int)) rfl
 have r4:=A0.cell (i:=4) (v:=.int .u64 (r.w:Int)) rfl
 have a4:=A1.cell (i:=4) (v:=.int .u64 (a.w:Int)) rfl
 have d1:(r.c:Int) - (r.d:Int)=((r.c - r.d:Nat):Int):=by omega
 have d2:IntKind.u64.wrap ((r.c - r.d:Nat):Int)=((r.c - r.d:Nat):Int):=by rw [IntKind.wrap_u64];have:=hr.2.1;omega
 have d3:(r.s:Int) + (r.w:Int)=((r.s + r.w:Nat):Int):=by omega
 have d4:IntKind.u64.wrap ((r.s + r.w:Nat):Int)=((r.s + r.w:Nat):Int):=by rw [IntKind.wrap_u64];have:=hr.2.2.2.1;have:=hr.2.2.2.2;omega
 by_cases c1:r.c - r.d < r.s
 ·have HE:Hid (serveR r=true):=Lib.hid (by unfold serveR;rw [decide_eq_true c1];rfl)
  clear hr h A0 A1
  unfold Rw.agg
  generalize r.s + r.w=k at *
  generalize r.c - r.d=f at *
  go_enter Try.func25,Try.ntmps25
  go_wp2_with fail
  go_ret
  exact ⟨by rw [HE.out];rfl,BB.out⟩
 ·have HE:Hid (serveR r=decide (r.g < r.s + r.w)):=Lib.hid (by unfold serveR;rw [decide_eq_false c1];rfl)
  clear hr h A0 A1
  unfold Rw.agg
  generalize r.s + r.w=k at *
  generalize r.c - r.d=f at *
  have d5:decide ((r.g:Int) < (k:Int))=decide (r.g < k):=by apply decide_eq_decide.2;omega
  go_enter Try.func25,Try.ntmps25
  go_wp2_with fail
  go_ret
  exact ⟨by rw [HE.out];rfl,BB.out⟩
theorem mt_is5 (room:Nat) (r a:Rw) (W:World) (hr:r.le 1126999418470400) (h:r.d + r.s≤r.c) (h2:r.s + r.w≤r.g):Calls Try.prog 25 #[r.agg,.int .i64 5,.int .u64 (room:Int),a.agg] W fun e w'=>e=.returned (.bool (idleR a r))∧Below W.heap.size W w':=by
 have HQ:=Lib.hid (fun w=>mt_queue r w (hr.mono (by omega)) h)
 have HT:=Lib.hid (fun w=>mt_tokens r w (hr.mono (by omega)) h2)
 have A0:=Blk.alloc (Blk.new W 51 r.cells) (.cells a.cells 51)
 have A1:=Blk.new1 W (.cells r.cells 51) 51 a.cells
 have BB:=Lib.hid (al_be2 W (.cells r.cells 51) (.cells a.cells 51))
 unfold Rw.cells at A0 A1 BB
 have r0:=A0.cell (i:=0) (v:=.int .u64 (r.g:Int)) rfl
 have a0:=A1.cell (i:=0) (v:=.int .u64 (a.g:Int)) rfl
 have r1:=A0.cell (i:=1) (v:=.int .u64 (r.c:Int)) rfl
 have a1:=A1.cell (i:=1) (v:=.int .u64 (a.c:Int)) rfl
 have r2:=A0.cell (i:=2) (v:=.int .u64 (r.d:Int)) rfl
 have a2:=A1.cell (i:=2) (v:=.int .u64 (a.d:Int)) rfl
 have r3:=A0.cell (i:=3) (v:=.int .u64 (r.s:Int)) rfl
 have a3:=A1.cell (i:=3) (v:=.int .u64 (a.s:Int)) rfl
 have r4:=A0.cell (i:=4) (v:=.int .u64 (r.w:Int)) rfl
 have a4:=A1.cell (i:=4) (v:=.int .u64 (a.w:Int)) rfl
 by_cases c1:0 < r.c - r.d - r.s
 ·by_cases c2:0 < r.g - r.s - r.w
  ·have HE:Hid (idleR a r=true):=Lib.hid (by unfold idleR;rw [decide_eq_true c1,decide_eq_true c2];rfl)
   clear hr h h2
   unfold Rw.agg at HQ HT ⊢
   generalize r.c - r.d - r.s=k at *
   generalize r.g - r.s - r.w=f at *
   go_enter Try.func25,Try.ntmps25
   go_wp2_with fail
   generalize (W.alloc (.cells #[.int .u64 (r.g:Int),.int .u64 (r.c:Int),.int .u64 (r.d:Int),.int .u64 (r.s:Int),.int .u64 (r.w:Int)] 51)).alloc (.cells #[.int .u64 (a.g:Int),.int .u64 (a.c:Int),.int .u64 (a.d:Int),.int .u64 (a.s:Int),.int .u64 (a.w:Int)] 51)=w1 at *
   refine (HQ.out _).mono ?_
   rintro e w2 ⟨rfl,hb⟩
   have BC:=Lib.hid (bel_to BB.out hb BB.out.size)
   have A2:=A0.keep hb
   have A3:=A1.keep hb
   clear hb
   clear r0 r1 r2 r3 r4 a0 a1 a2 a3 a4 BB A0 A1
   have r0:=A2.cell (i:=0) (v:=.int .u64 (r.g:Int)) rfl
   have a0:=A3.cell (i:=0) (v:=.int .u64 (a.g:Int)) rfl
   have r1:=A2.cell (i:=1) (v:=.int .u64 (r.c:Int)) rfl
   have a1:=A3.cell (i:=1) (v:=.int .u64 (a.c:Int)) rfl
   have r2:=A2.cell (i:=2) (v:=.int .u64 (r.d:Int)) rfl
   have a2:=A3.cell (i:=2) (v:=.int .u64 (a.d:Int)) rfl
   have r3:=A2.cell (i:=3) (v:=.int .u64 (r.s:Int)) rfl
   have a3:=A3.cell (i:=3) (v:=.int .u64 (a.s:Int)) rfl
   have r4:=A2.cell (i:=4) (v:=.int .u64 (r.w:Int)) rfl
   have a4:=A3.cell (i:=4) (v:=.int .u64 (a.w:Int)) rfl
   go_wp2_with fail
   refine (HT.out _).mono ?_
   rintro e w3 ⟨rfl,hb⟩
   have BD:=Lib.hid (bel_to BC.out hb BC.out.size)
   have A4:=A2.keep hb
   clear hb BC
   go_wp2_with fail
   go_ret
   exact ⟨by rw [HE.out];rfl,BD.out⟩
  ·have HE:Hid (idleR a r=decide (a.w < r.w)):=Lib.hid (by unfold idleR;rw [decide_eq_true c1,decide_eq_false c2];simp)
   have d5:decide ((a.w:Int) < (r.w:Int))=decide (a.w < r.w):=by apply decide_eq_decide.2;omega
   clear hr h h2
   unfold Rw.agg at HQ HT ⊢
   generalize r.c - r.d - r.s=k at *
   generalize r.g - r.s - r.w=f at *
   go_enter Try.func25,Try.ntmps25
   go_wp2_with fail
   generalize (W.alloc (.cells #[.int .u64 (r.g:Int),.int .u64 (r.c:Int),.int .u64 (r.d:Int),.int .u64 (r.s:Int),.int .u64 (r.w:Int)] 51)).alloc (.cells #[.int .u64 (a.g:Int),.int .u64 (a.c:Int),.int .u64 (a.d:Int),.int .u64 (a.s:Int),.int .u64 (a.w:Int)] 51)=w1 at *
   refine (HQ.out _).mono ?_
   rintro e w2 ⟨rfl,hb⟩
   have BC:=Lib.hid (bel_to BB.out hb BB.out.size)
   have A2:=A0.keep hb
   have A3:=A1.keep hb
   clear hb
   clear r0 r1 r2 r3 r4 a0 a1 a2 a3 a4 BB A0 A1
   have r0:=A2.cell (i:=0) (v:=.int .u64 (r.g:Int)) rfl
   have a0:=A3.cell (i:=0) (v:=.int .u64 (a.g:Int)) rfl
   have r1:=A2.cell (i:=1) (v:=.int .u64 (r.c:Int)) rfl
   have a1:=A3.cell (i:=1) (v:=.int .u64 (a.c:Int)) rfl
   have r2:=A2.cell (i:=2) (v:=.int .u64 (r.d:Int)) rfl
   have a2:=A3.cell (i:=2) (v:=.int .u64 (a.d:Int)) rfl
   have r3:=A2.cell (i:=3) (v:=.int .u64 (r.s:Int)) rfl
   have a3:=A3.cell (i:=3) (v:=.int .u64 (a.s:Int)) rfl
   have r4:=A2.cell (i:=4) (v:=.int .u64 (r.w:Int)) rfl
   have a4:=A3.cell (i:=4) (v:=.int .u64 (a.w:Int)) rfl
   go_wp2_with fail
   refine (HT.out _).mono ?_
   rintro e w3 ⟨rfl,hb⟩
   have BD:=Lib.hid (bel_to BC.out hb BC.out.size)
   have r4:=(A2.keep hb).cell (i:=4) (v:=.int .u64 (r.w:Int)) rfl
   have a4:=(A3.keep hb).cell (i:=4) (v:=.int .u64 (a.w:Int)) rfl
   clear hb BC
   go_wp2_with fail
   go_ret
   exact ⟨by rw [HE.out];rfl,BD.out⟩
 ·have HE:Hid (idleR a r=false):=Lib.hid (by unfold idleR;rw [decide_eq_false c1];rfl)
  clear hr h h2
  unfold Rw.agg at HQ ⊢
  generalize r.c - r.d - r.s=k at *
  go_enter Try.func25,Try.ntmps25
  go_wp2_with fail
  generalize (W.alloc (.cells #[.int .u64 (r.g:Int),.int .u64 (r.c:Int),.int .u64 (r.d:Int),.int .u64 (r.s:Int),.int .u64 (r.w:Int)] 51)).alloc (.cells #[.int .u64 (a.g:Int),.int .u64 (a.c:Int),.int .u64 (a.d:Int),.int .u64 (a.s:Int),.int .u64 (a.w:Int)] 51)=w1 at *
  refine (HQ.out _).mono ?_
  rintro e w2 ⟨rfl,hb⟩
  have BC:=Lib.hid (bel_to BB.out hb BB.out.size)
  have A2:=A0.keep hb
  have A3:=A1.keep hb
  clear hb
  clear r0 r1 r2 r3 r4 a0 a1 a2 a3 a4 BB A0 A1
  go_wp2_with fail
  go_ret
  exact ⟨by rw [HE.out];rfl,BC.out⟩
end Go.Proofs.Ytljganehlagnoaa

set_option linter.unusedVariables false
namespace Go.Proofs.Ytljganehlagnoaa
open Go.RowKit
structure ClRel (room:Nat) (a r:Rw) (k:Nat):Prop where
 h1:2≤k→fallsR a r=false
 h2:3≤k→roomR room a r=false
 h3:4≤k→dropR room a r=false
 h4:5≤k→serveR r=false
 h5:6≤k→idleR a r=false
structure TwoR (W:World) (r a:Rw) (w:World):Prop where
 r:Blk w W.heap.size 51 r.cells
 a:Blk w (W.heap.size + 1) 51 a.cells
 bel:Below W.heap.size W w
theorem TwoR.to {W w w':World} {r a:Rw} (h:TwoR W r a w) (k:Below w.heap.size w w'):TwoR W r a w':=⟨h.r.keep k,h.a.keep k,bel_to h.bel k h.bel.size⟩
theorem falls_le {a r:Rw} (h:fallsR a r=false) (ha:a.le 1125899906842624):r.le 1126999418470400:=by
 obtain ⟨k0,k1,k2,k3,k4⟩:=(falls_iff a r).1 h
 obtain ⟨a0,a1,a2,a3,a4⟩:=ha
 exact ⟨by omega,by omega,by omega,by omega,by omega⟩
theorem room_not {room:Nat} {a r:Rw} (h:roomR room a r=false):r.d + a.s≤r.c:=by
 unfold roomR at h
 rw [Bool.or_eq_false_iff,decide_eq_false_iff_not,decide_eq_false_iff_not] at h
 omega
theorem serve_not {r:Rw} (h:serveR r=false):r.s≤r.c - r.d∧r.s + r.w≤r.g:=by
 unfold serveR at h
 rw [Bool.or_eq_false_iff,decide_eq_false_iff_not,decide_eq_false_iff_not] at h
 omega
theorem six {k:Nat} (h1:1≤k) (h:k < 6):k=1∨k=2∨k=3∨k=4∨k=5:=by omega
set_option maxRecDepth 100000 in
set_option maxHeartbeats 1000000 in
theorem mt_clause (room:Nat) (r a:Rw) (W:World) (hr:r.le 18446744073709551615) (ha:a.le 1125899906842624):Calls Try.prog 19 #[r.agg,.int .u64 (room:Int),a.agg] W fun e w'=>e=.returned (.int .i64 (clauseR room a r:Int))∧Below W.heap.size W w':=by
 have HR:=Lib.hid hr
 have HA:=Lib.hid ha
 have H0:Hid (TwoR W r a ((W.alloc (.cells #[.int .u64 (r.g:Int),.int .u64 (r.c:Int),.int .u64 (r.d:Int),.int .u64 (r.s:Int),.int .u64 (r.w:Int)] 51)).alloc (.cells #[.int .u64 (a.g:Int),.int .u64 (a.c:Int),.int .u64 (a.d:Int),.int .u64 (a.s:Int),.int .u64 (a.w:Int)] 51))):=Lib.hid ⟨Blk.alloc (Blk.new W 51 r.cells) (.cells a.cells 51),Blk.new1 W (.cells r.cells 51) 51 a.cells,al_be2 W (.cells r.cells 51) (.cells a.cells 51)⟩
 clear hr ha
 unfold Rw.agg
 go_enter Try.func19,Try.ntmps19
 go_wp2_with fail
 generalize (W.alloc (.cells #[.int .u64 (r.g:Int),.int .u64 (r.c:Int),.int .u64 (r.d:Int),.int .u64 (r.s:Int),.int .u64 (r.w:Int)] 51)).alloc (.cells #[.int .u64 (a.g:Int),.int .u64 (a.c:Int),.int .u64 (a.d:Int),.int .u64 (a.s:Int),.int .u64 (a.w:Int)] 51)=w1 at *
 go_loopw [7] (fun c wr=>∃k:Nat,c=.int .i64 (k:Int)∧1≤k∧k≤6∧ClRel room a r k∧Hid (TwoR W r a wr)) (fun c _=>6 - (intOf c).toNat)
 case atStart=>exact ⟨1,rfl,by omega,by omega,⟨fun h=>by omega,fun h=>by omega,fun h=>by omega,fun h=>by omega,fun h=>by omega⟩,H0⟩
 case round=>
  obtain ⟨k,rfl,hk1,hk,hC,HT⟩:=hrel
  have HC:=Lib.hid hC
  clear hC H0
  by_cases hlt:k < 6
  ·have h5:=six hk1 hlt
   clear hlt hk hk1
   have q0:=HT.out.r.cell (i:=0) (v:=.int .u64 (r.g:Int)) rfl
   have q1:=HT.out.r.cell (i:=1) (v:=.int .u64 (r.c:Int)) rfl
   have q2:=HT.out.r.cell (i:=2) (v:=.int .u64 (r.d:Int)) rfl
   have q3:=HT.out.r.cell (i:=3) (v:=.int .u64 (r.s:Int)) rfl
   have q4:=HT.out.r.cell (i:=4) (v:=.int .u64 (r.w:Int)) rfl
   have b0:=HT.out.a.cell (i:=0) (v:=.int .u64 (a.g:Int)) rfl
   have b1:=HT.out.a.cell (i:=1) (v:=.int .u64 (a.c:Int)) rfl
   have b2:=HT.out.a.cell (i:=2) (v:=.int .u64 (a.d:Int)) rfl
   have b3:=HT.out.a.cell (i:=3) (v:=.int .u64 (a.s:Int)) rfl
   have b4:=HT.out.a.cell (i:=4) (v:=.int .u64 (a.w:Int)) rfl
   rcases h5 with rfl | rfl | rfl | rfl | rfl
   ·have HI:Hid (∀w,Calls Try.prog 25 #[r.agg,.int .i64 1,.int .u64 (room:Int),a.agg] w fun e w'=>e=.returned (.bool (fallsR a r))∧Below w.heap.size w w'):=Lib.hid (fun w=>by
     have hC:=HC.out
     have hr:=HR.out
     have ha:=HA.out
     exact mt_is1 room r a w hr)
    unfold Rw.agg at HI
    go_wp2_with fail
    refine (HI.out _).mono ?_
    rintro e w2 ⟨rfl,hb⟩
    have H2:=Lib.hid (HT.out.to hb)
    clear hb HI q0 q1 q2 q3 q4 b0 b1 b2 b3 b4 HT
    cases hq:fallsR a r with
    | true=>
      have HE:Hid (clauseR room a r=1):=Lib.hid (by have hC:=HC.out;unfold clauseR;rw [hq];simp)
      clear hq HC
      go_wp2_with fail
      go_ret
      exact ⟨by rw [HE.out];rfl,H2.out.bel⟩
    | false=>
      have HQ:=Lib.hid hq
      clear hq
      go_wp2_with fail
      go_roundw
      case rel=>exact ⟨2,by go_num,by omega,by omega,⟨fun _=>HQ.out,fun h=>by omega,fun h=>by omega,fun h=>by omega,fun h=>by omega⟩,H2⟩
      case measure=>simp [intOf]
   ·have HI:Hid (∀w,Calls Try.prog 25 #[r.agg,.int .i64 2,.int .u64 (room:Int),a.agg] w fun e w'=>e=.returned (.bool (roomR room a r))∧Below w.heap.size w w'):=Lib.hid (fun w=>by
     have hC:=HC.out
     have hr:=HR.out
     have ha:=HA.out
     exact mt_is2 room r a w (falls_le (hC.h1 (by omega)) ha) (ha.mono (by omega)))
    unfold Rw.agg at HI
    go_wp2_with fail
    refine (HI.out _).mono ?_
    rintro e w2 ⟨rfl,hb⟩
    have H2:=Lib.hid (HT.out.to hb)
    clear hb HI q0 q1 q2 q3 q4 b0 b1 b2 b3 b4 HT
    cases hq:roomR room a r with
    | true=>
      have HE:Hid (clauseR room a r=2):=Lib.hid (by have hC:=HC.out;unfold clauseR;rw [hC.h1 (by omega),hq];simp)
      clear hq HC
      go_wp2_with fail
      go_ret
      exact ⟨by rw [HE.out];rfl,H2.out.bel⟩
    | false=>
      have HQ:=Lib.hid hq
      clear hq
      go_wp2_with fail
      go_roundw
      case rel=>exact ⟨3,by go_num,by omega,by omega,⟨fun _=>HC.out.h1 (by omega),fun _=>HQ.out,fun h=>by omega,fun h=>by omega,fun h=>by omega⟩,H2⟩
      case measure=>simp [intOf]
   ·have HI:Hid (∀w,Calls Try.prog 25 #[r.agg,.int .i64 3,.int .u64 (room:Int),a.agg] w fun e w'=>e=.returned (.bool (dropR room a r))∧Below w.heap.size w w'):=Lib.hid (fun w=>by
     have hC:=HC.out
     have hr:=HR.out
     have ha:=HA.out
     exact mt_is3 room r a w (falls_le (hC.h1 (by omega)) ha) (room_not (hC.h2 (by omega))))
    unfold Rw.agg at HI
    go_wp2_with fail
    refine (HI.out _).mono ?_
    rintro e w2 ⟨rfl,hb⟩
    have H2:=Lib.hid (HT.out.to hb)
    clear hb HI q0 q1 q2 q3 q4 b0 b1 b2 b3 b4 HT
    cases hq:dropR room a r with
    | true=>
      have HE:Hid (clauseR room a r=3):=Lib.hid (by have hC:=HC.out;unfold clauseR;rw [hC.h1 (by omega),hC.h2 (by omega),hq];simp)
      clear hq HC
      go_wp2_with fail
      go_ret
      exact ⟨by rw [HE.out];rfl,H2.out.bel⟩
    | false=>
      have HQ:=Lib.hid hq
      clear hq
      go_wp2_with fail
      go_roundw
      case rel=>exact ⟨4,by go_num,by omega,by omega,⟨fun _=>HC.out.h1 (by omega),fun _=>HC.out.h2 (by omega),fun _=>HQ.out,fun h=>by omega,fun h=>by omega⟩,H2⟩
      case measure=>simp [intOf]
   ·have HI:Hid (∀w,Calls Try.prog 25 #[r.agg,.int .i64 4,.int .u64 (room:Int),a.agg] w fun e w'=>e=.returned (.bool (serveR r))∧Below w.heap.size w w'):=Lib.hid (fun w=>by
     have hC:=HC.out
     have hr:=HR.out
     have ha:=HA.out
     exact mt_is4 room r a w (falls_le (hC.h1 (by omega)) ha) (by have:=room_not (hC.h2 (by omega));omega))
    unfold Rw.agg at HI
    go_wp2_with fail
    refine (HI.out _).mono ?_
    rintro e w2 ⟨rfl,hb⟩
    have H2:=Lib.hid (HT.out.to hb)
    clear hb HI q0 q1 q2 q3 q4 b0 b1 b2 b3 b4 HT
    cases hq:serveR r with
    | true=>
      have HE:Hid (clauseR room a r=4):=Lib.hid (by have hC:=HC.out;unfold clauseR;rw [hC.h1 (by omega),hC.h2 (by omega),hC.h3 (by omega),hq];simp)
      clear hq HC
      go_wp2_with fail
      go_ret
      exact ⟨by rw [HE.out];rfl,H2.out.bel⟩
    | false=>
      have HQ:=Lib.hid hq
      clear hq
      go_wp2_with fail
      go_roundw
      case rel=>exact ⟨5,by go_num,by omega,by omega,⟨fun _=>HC.out.h1 (by omega),fun _=>HC.out.h2 (by omega),fun _=>HC.out.h3 (by omega),fun _=>HQ.out,fun h=>by omega⟩,H2⟩
      case measure=>simp [intOf]
   ·have HI:Hid (∀w,Calls Try.prog 25 #[r.agg,.int .i64 5,.int .u64 (room:Int),a.agg] w fun e w'=>e=.returned (.bool (idleR a r))∧Below w.heap.size w w'):=Lib.hid (fun w=>by
     have hC:=HC.out
     have hr:=HR.out
     have ha:=HA.out
     exact mt_is5 room r a w (falls_le (hC.h1 (by omega)) ha) (by have:=room_not (hC.h2 (by omega));have:=serve_not (hC.h4 (by omega));omega) (serve_not (hC.h4 (by omega))).2)
    unfold Rw.agg at HI
    go_wp2_with fail
    refine (HI.out _).mono ?_
    rintro e w2 ⟨rfl,hb⟩
    have H2:=Lib.hid (HT.out.to hb)
    clear hb HI q0 q1 q2 q3 q4 b0 b1 b2 b3 b4 HT
    cases hq:idleR a r with
    | true=>
      have HE:Hid (clauseR room a r=5):=Lib.hid (by have hC:=HC.out;unfold clauseR;rw [hC.h1 (by omega),hC.h2 (by omega),hC.h3 (by omega),hC.h4 (by omega),hq];simp)
      clear hq HC
      go_wp2_with fail
      go_ret
      exact ⟨by rw [HE.out];rfl,H2.out.bel⟩
    | false=>
      have HQ:=Lib.hid hq
      clear hq
      go_wp2_with fail
      go_roundw
      case rel=>exact ⟨6,by go_num,by omega,by omega,⟨fun _=>HC.out.h1 (by omega),fun _=>HC.out.h2 (by omega),fun _=>HC.out.h3 (by omega),fun _=>HC.out.h4 (by omega),fun _=>HQ.out⟩,H2⟩
      case measure=>simp [intOf]
  ·obtain rfl:k=6:=by omega
   have HE:Hid (clauseR room a r=0):=Lib.hid (by have hC:=HC.out;unfold clauseR;rw [hC.h1 (by omega),hC.h2 (by omega),hC.h3 (by omega),hC.h4 (by omega),hC.h5 (by omega)];rfl)
   go_wp2_with fail
   go_ret
   exact ⟨by rw [HE.out];rfl,HT.out.bel⟩
end Go.Proofs.Ytljganehlagnoaa
