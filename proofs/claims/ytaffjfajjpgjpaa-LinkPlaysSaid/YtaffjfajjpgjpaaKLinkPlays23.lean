/- 1 texts put together: what each one says stands ahead of it. -/
import Derived.Test.YtaffjfajjpgjpaaKLinkPlays22
import Derived.Deep.QuietTactic
set_option linter.unusedVariables false
namespace Go.Proofs.Ytaffjfajjpgjpaa
open Go.RowKit
structure OwnL (W:World) (p:PL) (s:LS) (w:World):Prop where
 at_:LkAt w p s
 lo:∀x∈p.l,W.heap.size≤x
 bel:Below W.heap.size W w
theorem OwnL.to {W w w':World} {p:PL} {s:LS} (h:OwnL W p s w) (k:Below w.heap.size w w'):OwnL W p s w':=⟨h.at_.keep k,h.lo,bel_to h.bel k h.bel.size⟩
theorem LI.new {w w':World} {p:PL} {s:LS} (h:LI w p s w'):∃p',p'.b=p.b∧LkAt w' p' s∧∀x∈p'.l,x∈p.l∨w.heap.size≤x:=by
 obtain ⟨g,i,h1,h2,h3⟩:=h.at_
 refine ⟨p.at_ g i,rfl,h1,fun x hx=>?_⟩
 simp only [PL.l,PL.at_,List.mem_cons,List.not_mem_nil,or_false] at hx ⊢
 rcases hx with c | c | c | c | c | c | c | c
 ·exact .inl (.inl c)
 ·exact .inl (.inr (.inl c))
 ·exact .inl (.inr (.inr (.inl c)))
 ·exact .inl (.inr (.inr (.inr (.inl c))))
 ·rcases h2 with d | d
  ·exact .inl (.inr (.inr (.inr (.inr (.inl (c.trans d))))))
  ·exact .inr (c▸d)
 ·exact .inl (.inr (.inr (.inr (.inr (.inr (.inl c))))))
 ·exact .inl (.inr (.inr (.inr (.inr (.inr (.inr (.inl c)))))))
 ·rcases h3 with d | d
  ·exact .inl (.inr (.inr (.inr (.inr (.inr (.inr (.inr (c.trans d))))))))
  ·exact .inr (c▸d)
theorem OwnL.li {W w w':World} {p:PL} {s s':LS} (h:OwnL W p s w) (k:LI w p s' w'):∃p',p'.b=p.b∧OwnL W p' s' w'∧∀x∈p'.l,x∈p.l∨w.heap.size≤x:=by
 obtain ⟨p',h1,h2,h3⟩:=k.new
 have sz:=h.bel.size
 exact ⟨p',h1,⟨h2,fun x hx=>(h3 x hx).elim (h.lo x) (Nat.le_trans sz),bel_fr h.bel k.fr sz h.lo⟩,h3⟩
def OwnE (W:World) (b:Nat) (s:LS) (w:World):Prop:=∃p,p.b=b∧OwnL W p s w
theorem OwnE.to {W w w':World} {b:Nat} {s:LS} (h:OwnE W b s w) (k:Below w.heap.size w w'):OwnE W b s w':=by
 obtain ⟨p,h1,h2⟩:=h
 exact ⟨p,h1,h2.to k⟩
theorem OwnE.bel {W w:World} {b:Nat} {s:LS} (h:OwnE W b s w):Below W.heap.size W w:=by
 obtain ⟨p,h1,h2⟩:=h
 exact h2.bel
theorem oe_New (r d j b0:Nat) (W:World) (h:rightP r d j b0=true):Calls Try.prog 6 #[.agg #[.int .u64 (r:Int),.int .u64 (d:Int),.int .u64 (j:Int),.int .u64 (b0:Int)]] W fun e w'=>∃b,e=.returned (.tuple #[.pointer (some ⟨b,0,none⟩),.int .i64 0])∧Hid (OwnE W b (LS.start r d j b0) w'):=
 (lk_New r d j b0 W h).mono fun e w' k=>by
  obtain ⟨⟨p,he,h1,h2⟩,h3⟩:=k
  exact ⟨p.b,he,Lib.hid ⟨p,rfl,h1,h2,h3⟩⟩
theorem oe_Send (W:World) (b:Nat) (s:LS) (N:Nat) (l:List Pk) (ao:Option Addr) (cap:Nat) (wr w:World) (h:OwnE W b s wr) (k:Below wr.heap.size wr w) (ho:s.ok N) (hi:Its w ao l) (ha:0 < l.length→∀a,ao=some a→wr.heap.size≤a.block) (hz:∀x∈l,x.size≤18446744073709551615) (hN:N + l.length≤5000):
  Calls Try.prog 15 #[.pointer (some ⟨b,0,none⟩),.slice ao l.length cap] w fun e w'=>e=.returned (.int .i64 (s.kept l:Int))∧Hid (OwnE W b (s.sends l) w'):=by
 obtain ⟨p,rfl,h1⟩:=h
 have h2:=h1.to k
 refine (lk_Send p s N l ao cap w h2.at_ ho hi (fun hp a e hm=>?_) hz hN).mono fun e w' q=>⟨q.e,Lib.hid ?_⟩
 ·have:=h1.at_.lt _ hm
  have:=ha hp a e
  omega
 ·obtain ⟨p',e1,e2,_⟩:=h2.li q.li
  exact ⟨p',e1,e2⟩
theorem oe_Tick (W:World) (b:Nat) (s:LS) (now waste:Nat) (cs:List Nat) (ao:Option Addr) (cap:Nat) (wr w:World) (h:OwnE W b s wr) (k:Below wr.heap.size wr w) (ho:s.ok 5000) (hn:s.t≤now) (hm:now≤18446744073709551615) (hw:waste≤18446744073709551615) (ha:∀p:PL,(∀x∈p.l,W.heap.size≤x∧x < wr.heap.size)→Away w p ao cs cap):
  Calls Try.prog 11 #[.pointer (some ⟨b,0,none⟩),.int .u64 (now:Int),.int .u64 (waste:Int),.slice ao cs.length cap] w fun e w'=>∃v,e=.returned (.tuple #[v,.int .i64 0])∧Hid (SOwn 65 w.heap.size w' v (s.tickOut now waste cs))∧Hid (OwnE W b (s.tick now waste cs) w'):=by
 obtain ⟨p,rfl,h1⟩:=h
 have h2:=h1.to k
 refine (lk_Tick p s now waste cs ao cap w h2.at_ ho hn hm hw (ha p (fun x hx=>⟨h1.lo x hx,h1.at_.lt x hx⟩))).mono fun e w' q=>?_
 obtain ⟨v,he,hv⟩:=q.e
 obtain ⟨p',e1,e2,_⟩:=h2.li q.li
 exact ⟨v,he,Lib.hid hv,Lib.hid ⟨p',e1,e2⟩⟩
theorem away_nil (w:World) (p:PL) (ao:Option Addr) (cap:Nat) (hc:cap≤9223372036854775807):Away w p ao [] cap:=⟨Nus.nil _ _,fun h=>absurd h (by simp),fun h=>absurd h (by simp),(fun c h=>nomatch h),Nat.zero_le _,hc⟩
theorem oe_Tick_no (W:World) (b:Nat) (s:LS) (now waste:Nat) (v:Value) (w:World) (h:OwnE W b s w) (hn:now < s.t):
  Calls Try.prog 11 #[.pointer (some ⟨b,0,none⟩),.int .u64 (now:Int),.int .u64 (waste:Int),v] w fun e w'=>e=.returned (.tuple #[.slice none 0 0,.int .i64 2])∧w=w':=by
 obtain ⟨p,rfl,h1⟩:=h
 exact lk_Tick_no p s now waste v w h1.at_ hn
theorem oe_Next (W:World) (b:Nat) (s:LS) (w:World) (h:OwnE W b s w):Calls Try.prog 18 #[.pointer (some ⟨b,0,none⟩)] w fun e w'=>e=.returned (.tuple #[.int .u64 (s.j.nextT:Int),.bool s.j.someB])∧Below w.heap.size w w':=by
 obtain ⟨p,rfl,h1⟩:=h
 exact lk_Next p s w h1.at_
theorem oe_Count (W:World) (b:Nat) (s:LS) (N:Nat) (w:World) (h:OwnE W b s w) (ho:s.ok N) (hN:N≤5000):Calls Try.prog 19 #[.pointer (some ⟨b,0,none⟩)] w fun e w'=>e=.returned s.countV∧Below w.heap.size w w':=by
 obtain ⟨p,rfl,h1⟩:=h
 exact lk_Count p s w N h1.at_ ho hN
def alP:List Pk:=[⟨1,1000,0,0,0,0,false⟩,⟨2,600,0,0,0,0,false⟩,⟨3,500,0,0,0,0,false⟩]
def al0:LS:=LS.start 1000000 100 10 1500
def al1:LS:=al0.sends alP
def al2:LS:=al1.tick 1000 9 [3]
def al3:LS:=al2.tick 1103 0 []
theorem al_ok:al0.ok 0∧al1.ok 5000∧al2.ok 5000∧al3.ok 5000:=by
 have h0:al0.ok 0:=LS.start_okL (by omega) (by omega) (by omega) (by omega)
 have h1:al1.ok 5000:=(h0.sends (l:=alP) (by decide)).more (by decide)
 have h2:al2.ok 5000:=h1.tick (by omega) _ _
 exact ⟨h0,h1,h2,h2.tick (by omega) _ _⟩
theorem al_facts:al0.kept alP=2∧al1.t=0∧al1.tickOut 1000 9 [3]=[]∧al2.t=1000∧al2.j.nextT=1103∧al2.j.someB=true∧al2.tickOut 1103 0 []=[⟨1,1000,0,0,0,0,false⟩]∧al3.t=1103:=by
 refine ⟨?_,?_,?_,?_,?_,?_,?_,?_⟩ <;> decide +kernel
theorem al_count:LS.told al3.came=2100∧al3.q.lost=600∧al3.q.n=500∧LS.told al3.served=1000∧LS.told (al3.served - al3.deliv)=0∧LS.told al3.deliv=1000:=by
 refine ⟨?_,?_,?_,?_,?_,?_⟩ <;> decide +kernel
theorem al_its (w:World):Its (w.alloc (.cells (icells alP) 65)) (some ⟨w.heap.size,0,none⟩) alP:=Its.of_blk (Blk.new _ _ _)
theorem al_away (W w1:World):∀p:PL,(∀x∈p.l,W.heap.size≤x∧x < w1.heap.size)→Away (w1.alloc (.cells #[.int .u64 3] 22)) p (some ⟨w1.heap.size,0,none⟩) [3] 1:=fun p hp=>by
 refine ⟨fun _=>⟨w1.heap.size,0,rfl,by simp,fun i hi=>?_⟩,fun _ a e hm=>?_,fun _ a e=>?_,by decide,by decide,by omega⟩
 ·match i,hi with
  | 0,_=>exact new_cell rfl rfl
 ·cases e
  have:=(hp _ hm).2
  exact Nat.lt_irrefl _ this
 ·cases e
  simp
set_option maxRecDepth 100000 in
set_option maxHeartbeats 2000000 in
theorem alive21 (W:World):Calls Try.prog 5 #[] W fun e w'=>e=.returned (.bool true)∧Below W.heap.size W w':=by
 obtain ⟨o0,o1,o2,o3⟩:=al_ok
 obtain ⟨f0,f1,f2,f3,f4,f5,f6,f7⟩:=al_facts
 have O0:=Lib.hid o0
 have O1:=Lib.hid o1
 have O2:=Lib.hid o2
 have O3:=Lib.hid o3
 have F0:=Lib.hid f0
 have F1:=Lib.hid f1
 have F2:=Lib.hid f2
 have F3:=Lib.hid f3
 have F4:=Lib.hid f4
 have F5:=Lib.hid f5
 have F6:=Lib.hid f6
 have F7:=Lib.hid f7
 have FC:=Lib.hid al_count
 clear o0 o1 o2 o3 f0 f1 f2 f3 f4 f5 f6 f7
 go_enter Try.func5,Try.ntmps5
 go_wp2_with fail
 refine (oe_New 1000000 100 10 1500 W (by decide)).mono ?_
 rintro e w0 ⟨b,rfl,H0⟩
 have H0:Hid (OwnE W b al0 w0):=H0
 go_wp2_with fail
 refine (oe_Send W b al0 0 alP (some ⟨w0.heap.size,0,none⟩) 3 w0 _ H0.out (al_be _ _) O0.out (al_its w0) (fun _ a ha=>by cases ha;exact Nat.le_refl _) (by decide) (by decide)).mono ?_
 rintro e w1 ⟨rfl,H1⟩
 rw [F0.out]
 have H1:Hid (OwnE W b al1 w1):=H1
 clear H0 F0 O0
 go_wp2_with fail
 refine (oe_Tick W b al1 1000 9 [3] (some ⟨w1.heap.size,0,none⟩) 1 w1 _ H1.out (al_be _ _) O1.out (by rw [F1.out];omega) (by omega) (by omega) (al_away W w1)).mono ?_
 rintro e w2 ⟨v2,rfl,V2,H2⟩
 rw [F2.out] at V2
 have H2:Hid (OwnE W b al2 w2):=H2
 obtain ⟨a2,cp2,rfl,_⟩:=V2.out.form
 clear H1 F1 F2 O1 V2
 go_wp2_with fail
 refine (oe_Next W b al2 w2 H2.out).mono ?_
 rintro e w3 ⟨rfl,hb⟩
 rw [F4.out,F5.out]
 have H3:=Lib.hid (H2.out.to hb)
 clear H2 hb F4 F5
 go_wp2_with fail
 refine (oe_Tick W b al2 1103 0 [] none 0 w3 _ H3.out (Below.refl _ _) O2.out (by rw [F3.out];omega) (by omega) (by omega) (fun p _=>away_nil _ p none 0 (by omega))).mono ?_
 rintro e w4 ⟨v4,rfl,V4,H4⟩
 rw [F6.out] at V4
 have H4:Hid (OwnE W b al3 w4):=H4
 obtain ⟨a4,cp4,rfl,_,_,hit,hg⟩:=V4.out.form
 obtain ⟨g,rfl,_⟩:=hg (by decide)
 obtain ⟨g',off',e4,_,hcs⟩:=its_pk hit (by decide)
 cases e4
 have hc0:=(hcs 0 (by decide) ⟨1,1000,0,0,0,0,false⟩ rfl).1
 clear H3 F3 F6 O2 V4 hit hg hcs
 go_wp2_with fail
 refine (oe_Tick_no W b al3 5 0 (.slice none 0 0) w4 H4.out (by rw [F7.out];omega)).mono ?_
 rintro e w5 ⟨rfl,rfl⟩
 clear F7
 go_wp2_with fail
 refine (oe_Count W b al3 5000 w4 H4.out O3.out (Nat.le_refl _)).mono ?_
 rintro e w6 ⟨rfl,hb⟩
 have HB:=Lib.hid (H4.out.to hb).bel
 unfold LS.countV
 rw [FC.out.1,FC.out.2.1,FC.out.2.2.1,FC.out.2.2.2.1,FC.out.2.2.2.2.1,FC.out.2.2.2.2.2]
 clear hb H4 FC O3
 go_wp2_with fail
 go_ret
 exact ⟨rfl,HB.out⟩
end Go.Proofs.Ytaffjfajjpgjpaa
