import Derived.Test.YtjhiooggnpbecaaGreatDoorCards
import Derived.Test.YtjhiooggnpbecaaGreatDoorTie
import Derived.Test.YtjhiooggnpbecaaGreatDoorK451
import Derived.Test.YtjhiooggnpbecaaGreatDoorK453
import Derived.ShutString
set_option maxRecDepth 100000
namespace Go.Proofs.YtjhiooggnpbecaaGreatDoor.loopApart
open Go.Proofs.Tryz
open Go.ChangeShapes Go.WideShapes Go.ChangeAt Go.RowKit
set_option linter.unusedVariables false
theorem own:ownKnob prog.godebug=none:=by kernel_rfl
theorem laidOut:laidOutB prog=true:=by kernel_rfl
theorem witness_row (os:Os) {H:Type} (enc:TypeId × Value→H):
  (OpenSpec.ofChange Rows.loopApartSpec).preRow enc prog Tryz.f4 Rows.loopApartRow.domain false Rows.loopApartRow.laid ((jI os).forCall (fun _ _=>0) ⟨#[],#[.agg #[↑ζ,↑ζ,↑ζ,↑ζ,↑ζ,↑ζ],.agg #[↑ζ,↑ζ,↑ζ,↑ζ],.slice none 0 0],[]⟩).memory #[.agg #[↑ζ,↑ζ,↑ζ,↑ζ,↑ζ,↑ζ],.agg #[↑ζ,↑ζ,↑ζ,↑ζ],.slice none 0 0]:=by
 have hw:(DataW.whole enc prog ((jI os).forCall (fun _ _=>0) ⟨#[],#[.agg #[↑ζ,↑ζ,↑ζ,↑ζ,↑ζ,↑ζ],.agg #[↑ζ,↑ζ,↑ζ,↑ζ],.slice none 0 0],[]⟩).memory Tryz.f4.params.toList (OpenSpec.ofChange Rows.loopApartSpec).vars false (#[.agg #[↑ζ,↑ζ,↑ζ,↑ζ,↑ζ,↑ζ],.agg #[↑ζ,↑ζ,↑ζ,↑ζ],.slice none 0 0]:Array Value).toList 8).map (fun x=>(x.1,x.2.1))=
   some ([.agg [.lit (.int .u64 0),.lit (.int .u64 0),.lit (.int .u64 0),.lit (.int .u64 0),.lit (.int .u64 0),.lit (.int .u64 0)],.agg [.lit (.int .u64 0),.lit (.int .u64 0),.lit (.int .u64 0),.lit (.int .u64 0)],.nil],[]):=by kernel_rfl
 obtain ⟨⟨x1,x2,x3⟩,hx,hx1⟩:=Option.map_eq_some_iff.1 hw;simp only [Prod.mk.injEq] at hx1;obtain ⟨rfl,rfl⟩:=hx1;exact OpenSpec.preRow_of_cond 8 hx (by kernel_rfl) (fun k hk=>by cases hk) (by kernel_rfl) (IA os _)
theorem lifted (os:Os) (started:os.Started) (H:Type) (enc:TypeId × Value→H):
  ReturnsInHanded {} Tryz.checked os 4 .any ((OpenSpec.ofChange Rows.loopApartSpec).preRow enc prog Tryz.f4 Rows.loopApartRow.domain false Rows.loopApartRow.laid) (Rows.loopApartSpec.post enc prog Tryz.f4 false true false false):=by
 refine returnsInHanded_of_row (C:=Tryz.checked) (s:=OpenSpec.ofChange Rows.loopApartSpec) (F:=fun _ _ _=>0) own started (by kernel_rfl) func4
  (witness_row_atRef (enc:=enc) (C:=Tryz.checked) false (jI os) #[.agg #[↑ζ,↑ζ,↑ζ,↑ζ,↑ζ,↑ζ],.agg #[↑ζ,↑ζ,↑ζ,↑ζ],.slice none 0 0] rfl (by kernel_rfl) (by kernel_rfl) (by kernel_rfl) (witness_row os enc)) ?_
 intro W base args ds gs before hval0 hW hcnd _ _ hL hS _;have hval:∀(j:Nat) t v,Tryz.f4.params[j]? =some t→args[j]? =some v→Value.okWide prog W .any base t v:=hval0;have hW':=hW;obtain ⟨p,q,hA0,hV,rfl,hfz,hnd⟩:=hW;have hA:DataW.TrodAll enc prog W 0 (fun _=>true) true Tryz.f4.params.toList args.toList ds p:=hA0;rw [Tryz.params4] at hA hval;obtain ⟨v0,vs0,d0,ds0,p0,q0,hargs,rfl,rfl,h0,r0⟩:=trodAll_cons hA;obtain ⟨v1,vs1,d1,ds1,p1,q1,rfl,rfl,rfl,h1,r1⟩:=trodAll_cons r0;obtain ⟨v2,vs2,d2,ds2,p2,q2,rfl,rfl,rfl,h2,r2⟩:=trodAll_cons r1;obtain ⟨rfl,rfl,rfl⟩:=trodAll_nil r2;obtain rfl:args=#[v0,v1,v2]:=by cases args;simp_all
 obtain ⟨rfl,rfl⟩:=trodVars_none hV;have hL':laidMet prog Rows.loopApartRow.laid W:=hL;have hg:Gl W:=RA hL';have k0:=h0;have lt0:∀x∈p0,x.block < W.heap.size:=by obtain ⟨m,hm⟩:=k0;exact DataW.trod_lt m _ _ _ hm
 have k1:=h1;have lt1:∀x∈p1,x.block < W.heap.size:=by obtain ⟨m,hm⟩:=k1;exact DataW.trod_lt m _ _ _ hm
 have k2:=h2;have lt2:∀x∈p2,x.block < W.heap.size:=by obtain ⟨m,hm⟩:=k2;exact DataW.trod_lt m _ _ _ hm
 obtain ⟨c,hin0,rfl⟩:=MI (hval 0 24 v0 rfl rfl) h0;obtain ⟨r,d,j,b0,hin1,rfl⟩:=LZ (hval 1 26 v1 rfl rfl) h1;obtain ⟨a2,len2,cap2,rfl⟩:=okWide_slice underlying27 (hval 2 27 v2 rfl rfl);obtain ⟨fuel2,hf2⟩:=h2;obtain ⟨l,b,off,hin2⟩:=G9 hf2;clear hA0 hval0;refine (LoopApart_walk a2 len2 cap2 c r d j b0 l b off W hin0 hin1 hin2 hg).mono fun e W' ⟨he,bel⟩=>?_;subst he;exact ⟨_,rfl,_,_,_,[],_,[],hW',trodAll_mk1 (shut_bool underlying4 _),(trodAll_cons_mk (Below.trod laidOut (by kernel_rfl) (of_decide_eq_true (by kernel_rfl)) k0 bel lt0) (trodAll_cons_mk (Below.trod laidOut (by kernel_rfl) (of_decide_eq_true (by kernel_rfl)) k1 bel lt1) (trodAll_cons_mk (Below.trod laidOut (by kernel_rfl) (of_decide_eq_true (by kernel_rfl)) k2 bel lt2) trodAll_mk0))),rfl,bel.frame _,fun h=>by cases h⟩
theorem fn_:prog.funcNamed Rows.loopApartRow.func=some 4:=by kernel_rfl
theorem fa:Rows.loopApartRow.wf (OpenSpec.ofChange Rows.loopApartSpec)=true:=by kernel_rfl
theorem fb:(Rows.loopApartRow.inPlace == prog.inPlace 4)=true:=by kernel_rfl
theorem fc:(Rows.loopApartRow.unfollowed == prog.unfollowed 4)=true:=by kernel_rfl
theorem fd:(Rows.loopApartRow.recurses == prog.recurses 4)=true:=by kernel_rfl
theorem fe:(Rows.loopApartRow.named == prog.varsNamed 4)=true:=by kernel_rfl
theorem ff:(prog.stops == [])=true:=by kernel_rfl
theorem fg:(prog.stopKnobs == [])=true:=by kernel_rfl
theorem fh:laidOutB prog=true:=by kernel_rfl
theorem fi:mapsRowed prog=true:=by kernel_rfl
theorem ga:Rows.loopApartRow.wfByText (OpenSpec.ofChange Rows.loopApartSpec)=true:=by kernel_rfl
theorem gb:false=Rows.loopApartRow.goesBy prog:=by kernel_rfl
theorem gc:prog.mainIs=some (Rows.loopApartCard.stood.harness.1,Rows.loopApartCard.stood.harness.2.toList):=by kernel_rfl
theorem gd:Rows.loopApartCard.stood.looks=prog.looks []:=by kernel_rfl
theorem ge:([24,26,27].all fun u=>!prog.wantsStandIn u)=true:=by kernel_rfl
theorem closed:joinedFacts prog 4 Tryz.f4 Rows.loopApartSpec Rows.loopApartRow=true:=by
 unfold joinedFacts;rw [fa,fb,fc,fd,fe,ff,fg,fh,fi]
 kernel_rfl
theorem over:Rows.loopApartRow.holds Tryz.pinned (OpenSpec.ofChange Rows.loopApartSpec):=
 OpenClaim.holds_of_wide 4 Tryz.f4 rfl rfl rfl rfl rfl rfl rfl ⟨rfl,rfl,rfl,rfl,rfl⟩ rfl rfl rfl rfl rfl fn_ func4 closed
  (of_decide_eq_true (by kernel_rfl)) (by unfold Func.isWrapper;first | (rw [if_pos (by decide +kernel)];kernel_rfl) | (rw [if_neg (by decide +kernel)];exact ⟨rfl,rfl⟩))
  (fun os started H enc _=>by rw [OpenClaim.pre_eq_preRow];exact lifted os started H enc)
theorem proved:Rows.LoopApartCardSaid:=
 Claim7.holds_tied_plain_at .later [] Rows.loopApartCard.laidKinds true Rows.loopApartCard.stood.harness Rows.loopApartCard.stood.looks
  over (fun _ h=>by cases h) ga (fun _ h=>by cases h) loopApart_row_tie rfl ⟨rfl,rfl⟩ gc rfl
  (fun f fn hf hfn=>by
   obtain rfl:f=4:=Option.some.inj (fn_.symm.trans hf) |>.symm
   obtain rfl:fn=Tryz.f4:=(Option.some.inj (func4.symm.trans hfn)).symm;exact ⟨gd,fun j t ht=>by
    rw [Tryz.params4] at ht;have hm:t∈[24,26,27]:=by simpa using Array.mem_of_getElem? ht
    exact (show prog.wantsStandIn t=false by simpa using List.all_eq_true.1 ge t hm)⟩)
  gb
#print axioms proved
end Go.Proofs.YtjhiooggnpbecaaGreatDoor.loopApart
