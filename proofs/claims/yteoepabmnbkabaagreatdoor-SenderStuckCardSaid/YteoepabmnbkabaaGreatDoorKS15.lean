/- 1 texts put together: what each one says stands ahead of it. -/
import Derived.Test.YteoepabmnbkabaaGreatDoorKS10
import Derived.Test.YteoepabmnbkabaaGreatDoorKS13
import Derived.Test.YteoepabmnbkabaaGreatDoorKS14
import Derived.Deep.RegionHeld3
set_option linter.unusedVariables false
namespace Go.Proofs.YteoepabmnbkabaaGreatDoor
open Go.RowKit Go.Shelf Cf Pl
def defC:Setup:=fun k=>[1500,10,3,10000000,200000,20].getD k.val 0
set_option maxRecDepth 100000 in
theorem conf_Default (w:World):Calls Tryz.prog 26 #[] w fun e w'=>e=.returned (.agg (ccells defC))∧Below w.heap.size w w':=by
 go_enter Tryz.func26,Tryz.ntmps26
 go_wp2
 exact bodyPost_ret (v:=.agg (ccells defC)) (by simp [results,Tryz.results26,go_sem,ccells,show defC 0=1500 from rfl,show defC 1=10 from rfl,show defC 2=3 from rfl,show defC 3=10000000 from rfl,show defC 4=200000 from rfl,show defC 5=20 from rfl]) rfl ⟨rfl,(Below.refl _ _).alloc (Nat.le_refl _) _⟩
theorem conf_packets (c:Setup) (n:Nat) (w:World) (hc:c 0≤18446744073709551615) (hn:n≤18446744073709551615):
  Calls Tryz.prog 97 #[.agg (ccells c),.int .u64 (n:Int)] w fun e w'=>e=.returned (.int .u64 (mulS n (c 0):Nat))∧Below w.heap.size w w':=by
 have HM:=Lib.hid (fix_Mul_n n (c 0) (w.alloc (.cells (ccells c) 24)) hn hc)
 simp only [ccells] at HM ⊢
 go_enter Tryz.func97,Tryz.ntmps97
 go_wp2_with (go_at_call 165;refine HM.out.mono ?_;rintro e w1 ⟨rfl,rfl⟩)
 go_ret
 exact ⟨rfl,(Below.refl _ _).alloc (Nat.le_refl _) _⟩
theorem conf_Flight (r t:Nat) (w:World) (hr:r≤18446744073709551615) (ht:t≤18446744073709551615):
  Calls Tryz.prog 284 #[.int .u64 (r:Int),.int .u64 (t:Int)] w fun e w'=>e=.returned (.int .u64 (overS r t 1000000:Nat))∧Below w.heap.size w w':=by
 have HM:=Lib.hid (fix_Over_pl r t 1000000 w hr ht (by omega))
 go_enter Tryz.func284,Tryz.ntmps284
 go_wp2_with (go_at_call 170;refine HM.out.mono ?_;rintro e w1 ⟨rfl,hb⟩)
 go_ret
 exact ⟨rfl,hb⟩
theorem bel_drew' (W:World):Below W.heap.size W W.drew:=⟨rfl,rfl,rfl,Nat.le_refl _,fun _ _=>rfl⟩
structure QuS (w:World) (c:Setup) (w':World):Prop where
 b:Blk w' w.heap.size 24 (ccells c)
 g:Below w.heap.size w w'
theorem QuS.keep {w w1 w2:World} {c:Setup} (h:QuS w c w1) (hb:Below w1.heap.size w1 w2):QuS w c w2:=⟨h.b.keep hb,bel_to h.g hb h.g.size⟩
theorem qs_cells {w w':World} {c:Setup} (h:QuS w c w'):w'.cell? ⟨w.heap.size,0,none⟩=some (.int .u64 (c 0:Int))∧w'.cell? ⟨w.heap.size,1,none⟩=some (.int .u64 (c 1:Int))∧w'.cell? ⟨w.heap.size,2,none⟩=some (.int .u64 (c 2:Int))∧w'.cell? ⟨w.heap.size,3,none⟩=some (.int .u64 (c 3:Int))∧w'.cell? ⟨w.heap.size,4,none⟩=some (.int .u64 (c 4:Int))∧w'.cell? ⟨w.heap.size,5,none⟩=some (.int .u64 (c 5:Int))∧Hid (QuS w c w'):=
 ⟨ccell h.b 0,ccell h.b 1,ccell h.b 2,ccell h.b 3,ccell h.b 4,ccell h.b 5,h⟩
theorem quant_val (r p2 p64:Nat) (hr:r≤18446744073709551615):(min (max (IntKind.u64.wrap ((r:Int) / 1000)) (p2:Int)) (p64:Int))=((min (max (r / 1000) p2) p64:Nat):Int):=by
 have h:IntKind.u64.wrap ((r:Int) / 1000)=((r / 1000:Nat):Int):=by rw [IntKind.wrap_u64];omega
 rw [h]
 omega
def quantumC (m r:Nat):Nat:=min (max (r / 1000) (mulS 2 m)) (mulS 64 m)
set_option maxRecDepth 100000 in
set_option maxHeartbeats 1000000 in
theorem conf_Quantum (c:Setup) (r:Nat) (w:World) (hc:c 0≤18446744073709551615) (hr:r≤18446744073709551615):
  Calls Tryz.prog 44 #[.agg (ccells c),.int .u64 (r:Int)] w fun e w'=>e=.returned (.int .u64 (quantumC (c 0) r:Nat))∧Below w.heap.size w w':=by
 have h2:∀w',Calls Tryz.prog 97 #[.agg (ccells c),.int .u64 2] w' fun e w''=>e=.returned (.int .u64 (mulS 2 (c 0):Nat))∧Below w'.heap.size w' w'':=fun w'=>conf_packets c 2 w' hc (by omega)
 have h64:∀w',Calls Tryz.prog 97 #[.agg (ccells c),.int .u64 64] w' fun e w''=>e=.returned (.int .u64 (mulS 64 (c 0):Nat))∧Below w'.heap.size w' w'':=fun w'=>conf_packets c 64 w' hc (by omega)
 have H2:=Lib.hid h2
 have H64:=Lib.hid h64
 have B0:=Lib.hid (Blk.new w 24 (ccells c))
 have G0:=Lib.hid ((Below.refl w.heap.size w).alloc (Nat.le_refl _) (.cells (ccells c) 24))
 clear hc h2 h64
 unfold quantumC
 generalize mulS 2 (c 0)=p2 at *
 generalize mulS 64 (c 0)=p64 at *
 simp only [ccells] at H2 H64 B0 G0 ⊢
 go_enter Tryz.func44,Tryz.ntmps44
 go_wp2_with fail
 generalize w.alloc (.cells #[.int .u64 (c 0:Int),.int .u64 (c 1:Int),.int .u64 (c 2:Int),.int .u64 (c 3:Int),.int .u64 (c 4:Int),.int .u64 (c 5:Int)] 24)=w0 at *
 have C0':QuS w c w0.drew:=⟨B0.out.drew,bel_to G0.out (bel_drew' w0) G0.out.size⟩
 have q:=qs_cells C0'
 clear C0'
 go_region_held3 (fun w'=>w'.cell? ⟨w.heap.size,0,none⟩=some (.int .u64 (c 0:Int))∧w'.cell? ⟨w.heap.size,1,none⟩=some (.int .u64 (c 1:Int))∧w'.cell? ⟨w.heap.size,2,none⟩=some (.int .u64 (c 2:Int))∧w'.cell? ⟨w.heap.size,3,none⟩=some (.int .u64 (c 3:Int))∧w'.cell? ⟨w.heap.size,4,none⟩=some (.int .u64 (c 4:Int))∧w'.cell? ⟨w.heap.size,5,none⟩=some (.int .u64 (c 5:Int))∧Hid (QuS w c w'))
  (first | exact q | assumption | (go_split_ands;exact qs_cells (QuS.keep (Hid.out (by assumption)) hb)) | (go_split_ands;exact qs_cells (Hid.out (by assumption))))
  (first
   | (go_at_call 97;((with_reducible refine (H2.out _).mono ?_);rintro e w' ⟨rfl,hb⟩))
   | (go_at_call 97;((with_reducible refine (H64.out _).mono ?_);rintro e w' ⟨rfl,hb⟩)))
 all_goals
  go_split_ands
  have hq:=(Hid.out ‹Hid (QuS w c w')›).g
  go_wp2
  go_ret
  exact ⟨ret_u64 (quant_val r p2 p64 hr),hq⟩
end Go.Proofs.YteoepabmnbkabaaGreatDoor
