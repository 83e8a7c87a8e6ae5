/- 4 texts put together: what each one says stands ahead of it. -/
import Derived.Test.YtljganehlagnoaaKMeterAll08
import Derived.Test.YtljganehlagnoaaKMeterAll10
import Derived.Test.YtljganehlagnoaaKMeterAll05
set_option linter.unusedVariables false
namespace Go.Proofs.Ytljganehlagnoaa
open Go.RowKit
end Go.Proofs.Ytljganehlagnoaa

set_option linter.unusedVariables false
namespace Go.Proofs.Ytljganehlagnoaa
open Go.RowKit
end Go.Proofs.Ytljganehlagnoaa

set_option linter.unusedVariables false
namespace Go.Proofs.Ytljganehlagnoaa
open Go.RowKit
theorem own_its {α:Type} [Itm α] {T:TypeId} {B:Nat} {w:World} {v:Value} {l:List α} (h:SOwn T B w v l):∃ao cap,v=.slice ao l.length cap∧Its w ao l:=by
 obtain ⟨ao,cap,e,_,_,hi,_⟩:=h.form
 exact ⟨ao,cap,e,hi⟩
end Go.Proofs.Ytljganehlagnoaa

set_option linter.unusedVariables false
namespace Go.Proofs.Ytljganehlagnoaa
open Go.RowKit
set_option maxRecDepth 100000 in
set_option maxHeartbeats 4000000 in
theorem MeterAll_walk (room:Nat) (ao:Option Addr) (len cap:Nat) (bo:Option Addr) (blen bcap:Nat) (l:List Tn) (x:List Rw) (W:World) (hr:room≤18446744073709551615) (hin:InT W ao len l) (hix:InR W bo blen x):
  Calls Try.prog 5 #[.int .u64 (room:Int),.slice ao len cap,.slice bo blen bcap] W fun e w'=>e=.returned (.bool true)∧Below W.heap.size W w':=by
 obtain ⟨rfl,hi,hb⟩:=hin
 obtain ⟨rfl,hix,hbx⟩:=hix
 by_cases hl:l.length≤200
 case neg=>
  have d0:decide ((200:Int) < (l.length:Int))=true:=decide_eq_true (by omega)
  go_enter Try.func5,Try.ntmps5
  go_wp2_with fail
  refine (alive22 _).mono ?_
  rintro e w9 ⟨rfl,hb⟩
  have B9:=Lib.hid hb
  clear hb
  go_wp2_with fail
  go_ret
  exact ⟨rfl,B9.out⟩
 have d0:decide ((200:Int) < (l.length:Int))=false:=decide_eq_false (by omega)
 by_cases hx:x.length≤200
 case neg=>
  have d1:decide ((200:Int) < (x.length:Int))=true:=decide_eq_true (by omega)
  go_enter Try.func5,Try.ntmps5
  go_wp2_with fail
  refine (alive22 _).mono ?_
  rintro e w9 ⟨rfl,hb⟩
  have B9:=Lib.hid (bel_to (Lib.hid (Below.refl W.heap.size W)).out hb (Lib.hid (Below.refl W.heap.size W)).out.size)
  clear hb
  go_wp2_with fail
  go_ret
  exact ⟨rfl,B9.out⟩
 have d1:decide ((200:Int) < (x.length:Int))=false:=decide_eq_false (by omega)
 have HX:=Lib.hid hix
 have HR:=Lib.hid (mt_Run room l ao cap W hi hl hb)
 have HRC:=Lib.hid (fun (h:runE room l=0) ao cap w hi=>mt_Check room (runR room l) ao cap w hi (Nat.le_trans run_len hl) (run_le hl))
 have HE:=Lib.hid (fun (h:runE room l=0)=>run_check h)
 have HC:=Lib.hid (fun w hi=>mt_Check room x bo bcap w hi hx hbx)
 have HT:=Lib.hid (fun w hi=>mt_Turns x bo bcap w hi hx hbx)
 have HK:=Lib.hid (fun (h:(chkR room x).2=0)=>check_run h)
 have HR2:=Lib.hid (fun ao cap w hi=>mt_Run room (turnsR Rw.z x) ao cap w hi (by rw [turnsR_len];exact hx) (turnsR_le x _ hbx))
 have HS:=Lib.hid (fun ao cap w hi=>lw_rows x ao cap w hi hx)
 have HQ:=Lib.hid (fun p q c d w hi hj=>lw_same x p q c d w hi hj hx)
 have HT2:Hid (runE room l=0∨runE room l=1):=Lib.hid (by unfold runE;split <;> simp)
 clear hi hb hix hbx
 go_enter Try.func5,Try.ntmps5
 go_wp2_with fail
 refine HR.out.mono ?_
 rintro e w1 ⟨v1,rfl,ho1,hb1⟩
 have B1:=Lib.hid hb1
 have X1:=Lib.hid (HX.out.keep hb1)
 obtain ⟨p1,c1,rfl,hi1⟩:=own_its ho1
 have I1:=Lib.hid hi1
 clear HR ho1 hb1 hi1 HX
 rcases HT2.out with he | he
 ·have hrc:=HRC.out he
  have hee:=HE.out he
  rw [he]
  rw [hee.1] at hrc
  have HRC2:=Lib.hid hrc
  have HLe:=Lib.hid hee.2
  clear HRC HE HT2 he hrc hee
  go_wp2_with fail
  refine (HRC2.out _ _ _ I1.out).mono ?_
  rintro e w2 ⟨rfl,hb2⟩
  have B2:=Lib.hid (bel_to B1.out hb2 B1.out.size)
  have X2:=Lib.hid (X1.out.keep hb2)
  have hle:=HLe.out
  have dq:((((runR room l).length:Nat):Int) == ((l.length:Nat):Int))=true:=by rw [hle];simp
  rw [hle]
  clear hb2 B1 X1 HRC2 I1 hle dq HLe
  go_wp2_with fail
  refine (HC.out _ X2.out).mono ?_
  rintro e w3 ⟨rfl,hb3⟩
  have B3:=Lib.hid (bel_to B2.out hb3 B2.out.size)
  have X3:=Lib.hid (X2.out.keep hb3)
  clear hb3 B2 X2 HC
  by_cases hc:(chkR room x).2=0
  case neg=>
   obtain ⟨cn,hcn⟩:∃c,c=(chkR room x).2:=⟨_,rfl⟩
   rw [← hcn] at hc ⊢
   have dz:((cn:Int) == 0)=false:=by simp;omega
   clear hc hcn
   go_wp2_with fail
   refine (alive22 _).mono ?_
   rintro e w9 ⟨rfl,hb⟩
   have B9:=Lib.hid (bel_to B3.out hb B3.out.size)
   clear hb
   go_wp2_with fail
   go_ret
   exact ⟨rfl,B9.out⟩
  have hk:=HK.out hc
  have hr2:=HR2.out
  rw [hk.1,hk.2] at hr2
  have HR3:=Lib.hid hr2
  rw [hc]
  clear hk hr2 HR2 HK hc
  go_wp2_with fail
  refine (HT.out _ X3.out).mono ?_
  rintro e w4 ⟨v4,rfl,ho4,hb4⟩
  have B4:=Lib.hid (bel_to B3.out hb4 B3.out.size)
  have X4:=Lib.hid (X3.out.keep hb4)
  obtain ⟨p4,c4,rfl,hi4⟩:=own_its ho4
  clear hb4 B3 X3 HT ho4
  go_wp2_with fail
  refine (HR3.out _ _ _ hi4).mono ?_
  rintro e w5 ⟨v5,rfl,ho5,hb5⟩
  have B5:=Lib.hid (bel_to B4.out hb5 B4.out.size)
  have X5:=Lib.hid (X4.out.keep hb5)
  obtain ⟨p5,c5,rfl,hi5⟩:=own_its ho5
  clear hb5 B4 X4 HR3 ho5 hi4
  go_wp2_with fail
  refine (HS.out _ _ _ hi5).mono ?_
  rintro e w6 ⟨v6,rfl,ho6,hb6⟩
  have B6:=Lib.hid (bel_to B5.out hb6 B5.out.size)
  have X6:=Lib.hid (X5.out.keep hb6)
  have O6:=Lib.hid ho6
  clear hb6 B5 X5 ho6 hi5
  obtain ⟨p6,c6,rfl,_⟩:=own_its O6.out
  go_wp2_with fail
  refine (HS.out _ _ _ X6.out).mono ?_
  rintro e w7 ⟨v7,rfl,ho7,hb7⟩
  have B7:=Lib.hid (bel_to B6.out hb7 B6.out.size)
  obtain ⟨q6,d6,e6,hi6⟩:=own_its (O6.out.keep hb7)
  injection e6 with e6 _ e7
  subst e6 e7
  obtain ⟨p7,c7,rfl,hi7⟩:=own_its ho7
  clear hb7 B6 X6 HS ho7 O6
  go_wp2_with fail
  refine (HQ.out _ _ _ _ _ hi6 hi7).mono ?_
  rintro e w8 ⟨rfl,hd⟩
  have B8:=Lib.hid (B7.out.trans (hd.below _))
  clear hi6 hi7 hd B7 HQ
  go_wp2_with fail
  refine (alive22 _).mono ?_
  rintro e w9 ⟨rfl,hb⟩
  have B9:=Lib.hid (bel_to B8.out hb B8.out.size)
  clear hb
  go_wp2_with fail
  go_ret
  exact ⟨rfl,B9.out⟩
 ·have hne:runE room l=1:=he
  rw [hne]
  clear HRC HE HT2 he hne I1
  go_wp2_with fail
  refine (HC.out _ X1.out).mono ?_
  rintro e w3 ⟨rfl,hb3⟩
  have B3:=Lib.hid (bel_to B1.out hb3 B1.out.size)
  have X3:=Lib.hid (X1.out.keep hb3)
  clear hb3 B1 X1 HC
  by_cases hc:(chkR room x).2=0
  case neg=>
   obtain ⟨cn,hcn⟩:∃c,c=(chkR room x).2:=⟨_,rfl⟩
   rw [← hcn] at hc ⊢
   have dz:((cn:Int) == 0)=false:=by simp;omega
   clear hc hcn
   go_wp2_with fail
   refine (alive22 _).mono ?_
   rintro e w9 ⟨rfl,hb⟩
   have B9:=Lib.hid (bel_to B3.out hb B3.out.size)
   clear hb
   go_wp2_with fail
   go_ret
   exact ⟨rfl,B9.out⟩
  have hk:=HK.out hc
  have hr2:=HR2.out
  rw [hk.1,hk.2] at hr2
  have HR3:=Lib.hid hr2
  rw [hc]
  clear hk hr2 HR2 HK hc
  go_wp2_with fail
  refine (HT.out _ X3.out).mono ?_
  rintro e w4 ⟨v4,rfl,ho4,hb4⟩
  have B4:=Lib.hid (bel_to B3.out hb4 B3.out.size)
  have X4:=Lib.hid (X3.out.keep hb4)
  obtain ⟨p4,c4,rfl,hi4⟩:=own_its ho4
  clear hb4 B3 X3 HT ho4
  go_wp2_with fail
  refine (HR3.out _ _ _ hi4).mono ?_
  rintro e w5 ⟨v5,rfl,ho5,hb5⟩
  have B5:=Lib.hid (bel_to B4.out hb5 B4.out.size)
  have X5:=Lib.hid (X4.out.keep hb5)
  obtain ⟨p5,c5,rfl,hi5⟩:=own_its ho5
  clear hb5 B4 X4 HR3 ho5 hi4
  go_wp2_with fail
  refine (HS.out _ _ _ hi5).mono ?_
  rintro e w6 ⟨v6,rfl,ho6,hb6⟩
  have B6:=Lib.hid (bel_to B5.out hb6 B5.out.size)
  have X6:=Lib.hid (X5.out.keep hb6)
  have O6:=Lib.hid ho6
  clear hb6 B5 X5 ho6 hi5
  obtain ⟨p6,c6,rfl,_⟩:=own_its O6.out
  go_wp2_with fail
  refine (HS.out _ _ _ X6.out).mono ?_
  rintro e w7 ⟨v7,rfl,ho7,hb7⟩
  have B7:=Lib.hid (bel_to B6.out hb7 B6.out.size)
  obtain ⟨q6,d6,e6,hi6⟩:=own_its (O6.out.keep hb7)
  injection e6 with e6 _ e7
  subst e6 e7
  obtain ⟨p7,c7,rfl,hi7⟩:=own_its ho7
  clear hb7 B6 X6 HS ho7 O6
  go_wp2_with fail
  refine (HQ.out _ _ _ _ _ hi6 hi7).mono ?_
  rintro e w8 ⟨rfl,hd⟩
  have B8:=Lib.hid (B7.out.trans (hd.below _))
  clear hi6 hi7 hd B7 HQ
  go_wp2_with fail
  refine (alive22 _).mono ?_
  rintro e w9 ⟨rfl,hb⟩
  have B9:=Lib.hid (bel_to B8.out hb B8.out.size)
  clear hb
  go_wp2_with fail
  go_ret
  exact ⟨rfl,B9.out⟩
end Go.Proofs.Ytljganehlagnoaa
