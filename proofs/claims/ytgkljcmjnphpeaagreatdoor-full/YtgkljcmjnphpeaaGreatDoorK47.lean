/- For every three numbers, foliokeep.Full returns true: proved for the program as the row says it, with no condition beyond the card's own. -/
import Derived.Test.YtgkljcmjnphpeaaGreatDoorTie
import Derived.Lay
import Derived.Test.YtgkljcmjnphpeaaGreatDoorK46
set_option linter.unusedVariables false
set_option linter.unusedSimpArgs false
set_option maxHeartbeats 1000000
set_option maxRecDepth 100000
namespace Go.Proofs.YtgkljcmjnphpeaaGreatDoor
open Go.RowKit
section
open Go.ChangeShapes Go.WideShapes Go.ChangeAt Go.ChangeMaps Go.RowKit
theorem smf(os:Os)(args:Array Value):laidMet Tryz.prog Rows.fullRow.laid ((World.laidAll Tryz.prog os Rows.fullRow.laid).forCall (fun _ _=>0) ⟨#[],args,[]⟩).memory:=laidMet_laidAll _ (by kernel_rfl) (by kernel_rfl)
theorem pf:(Rows.fullRow.laid.all fun x=>x.2.handleName?.isNone)=true:=by kernel_rfl
theorem ful(os:Os)(started:os.Started)(H:Type)(enc:TypeId × Value→H) :
  ReturnsInHanded {} Tryz.checked os 11 .any (fun w args=>(Rows.fullSpec.pre enc Tryz.prog Tryz.f11 [] false w args∧laidMetH Tryz.prog Rows.fullRow.laid w)∧sizedMet enc Tryz.prog Tryz.f11 (OpenSpec.ofChange Rows.fullSpec) false w args)
   (Rows.fullSpec.post enc Tryz.prog Tryz.f11 false true false false):=by
 refine hs_ (C:= Tryz.checked) (X:=fun w _=>laidMetH Tryz.prog Rows.fullRow.laid w) (fun _ _ _ hh h=>h.of_heap hh) Tryz.ownE started (by kernel_rfl) Tryz.func11
  (ChangeSpec.witness_shaped (enc:=enc) (C:= Tryz.checked) (os:=os) (X:=fun w _=>laidMetH Tryz.prog Rows.fullRow.laid w) false (World.laidAll Tryz.prog os Rows.fullRow.laid) #[.int .i64 0,.int .i64 0,.int .i64 0] 8 (World.laidAll_os _ _ _) (World.shaped_of_ZipB (by kernel_rfl) (by kernel_rfl)) (by kernel_rfl) (by kernel_rfl) (by kernel_rfl) (by rw[MakeChecks.laidMetH_plain _ _ _ pf];exact smf os _)) ?_
 intro W base args ds gs before hval0 hW hsz0 hL hS
 have hval:∀(j:Nat) t v,Tryz.f11.params[j]?=some t→args[j]?=some v→Value.okWide Tryz.prog W .any base t v:=hval0
 have hW':=hW
 obtain⟨p,q,hA0,hV,rfl,_,_⟩:=hW
 have hA:DataW.TrodAll enc Tryz.prog W 0 (fun _=>true) true Tryz.f11.params.toList args.toList ds p:=hA0
 rw[Tryz.params11]at hA hval
 have hL2:laidMet Tryz.prog Rows.fullRow.laid W:=by rw[MakeChecks.laidMetH_plain _ _ _ pf]at hL;exact hL
 have hE:=eol hL2 hS
 obtain⟨v0,v1,v2,d0,d1,d2,p0,p1,p2,rfl,rfl,rfl,h0,h1,h2⟩:=trodAll_three hA
 obtain⟨rfl,rfl⟩:=trodVars_none hV
 obtain⟨nn,rfl,rfl,rfl,wn⟩:=open_int Tryz.underlying3 (hval 0 3 v0 rfl rfl) h0
 obtain⟨cc,rfl,rfl,rfl,wc⟩:=open_int Tryz.underlying3 (hval 1 3 v1 rfl rfl) h1
 obtain⟨mm,rfl,rfl,rfl,wm⟩:=open_int Tryz.underlying3 (hval 2 3 v2 rfl rfl) h2
 clear hA0 hval0
 simp only[List.append_nil]at hW'
 refine(fuo nn cc mm (iwE wn) (iwE wc) (iwE wm) hE).mono fun e W' ⟨he,hB⟩=>?_
 subst he
 refine⟨_,rfl,_,_,_,[],_,[],hW',?_,trodAll_mk3 (shut_int Tryz.underlying3 wn) (shut_int Tryz.underlying3 wc) (shut_int Tryz.underlying3 wm),rfl,hB.frame _,fun h=>by cases h⟩
 exact trodAll_mk1 (shut_bool Tryz.underlying4 _)
theorem fr:Rows.FullSaid:=
 OpenClaim.holds_of_wide 11 Tryz.f11 rfl rfl rfl rfl rfl rfl rfl ⟨rfl,rfl,rfl,rfl,rfl⟩ rfl rfl rfl rfl rfl fn_ Tryz.func11 ff fi fw
  (fun os started H enc _=>ful os started H enc)
end
section
open Go
theorem full_card:Rows.FullCardSaid:=
 Claim7.holds_tied_plain_at .later [] [.data,.data,.data,.data,.sentinel,.sentinel,.data,.pinned] true Rows.fullCard.stood.harness true
  fr (fun _ h=>by cases h) fuw (fun _ h=>by cases h) full_row_tie rfl ⟨rfl,rfl⟩ fum rfl
  (fun f fn hf hfn=>by
   obtain rfl:f = 11:=Option.some.inj (fn_.symm.trans hf) |>.symm
   obtain rfl:fn = Tryz.f11:=(Option.some.inj (Tryz.func11.symm.trans hfn)).symm
   exact⟨fl0,fun j t ht=>by
    rw[Tryz.params11]at ht
    have hm:t∈[3,3,3]:=by simpa using Array.mem_of_getElem? ht
    have hall:([3,3,3].all fun u => !Tryz.prog.wantsStandIn u)=true:=by kernel_rfl
    exact(show Tryz.prog.wantsStandIn t=false by simpa using List.all_eq_true.1 hall t hm)⟩)
  fg
end
end Go.Proofs.YtgkljcmjnphpeaaGreatDoor
