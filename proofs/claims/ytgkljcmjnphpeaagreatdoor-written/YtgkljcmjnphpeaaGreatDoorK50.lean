/- For every list of numbers, foliokeep.Written returns true and its argument reads as before: proved for the program as the row says it, with no condition beyond the card's own. -/
import Derived.Test.YtgkljcmjnphpeaaGreatDoorTie
import Derived.Lay
import Derived.Test.YtgkljcmjnphpeaaGreatDoorK49
set_option linter.unusedVariables false
set_option linter.unusedSimpArgs false
set_option maxHeartbeats 1000000
set_option maxRecDepth 100000
namespace Go.Proofs.YtgkljcmjnphpeaaGreatDoor
open Go.RowKit
section
open Go.ChangeShapes Go.WideShapes Go.ChangeAt Go.ChangeMaps Go.RowKit
theorem Li(b:Os)(a:Array Value):laidMet Tryz.prog Rows.writtenRow.laid ((World.laidAll Tryz.prog b Rows.writtenRow.laid).forCall (λ_ _=>0) ⟨#[],a,[]⟩).memory:=laidMet_laidAll _ (by kernel_rfl) (by kernel_rfl)
theorem pw:(Rows.writtenRow.laid.all λa=>a.2.handleName?.isNone)=true:=by kernel_rfl
theorem L9(d:Os)(ac:d.Started)(y:Type)(enc:TypeId × Value->y) :
  ReturnsInHanded {} Tryz.checked d 8 .any (λc e=>(Rows.writtenSpec.pre enc Tryz.prog Tryz.f8 [] false c e/\laidMetH Tryz.prog Rows.writtenRow.laid c)/\sizedMet enc Tryz.prog Tryz.f8 (OpenSpec.ofChange Rows.writtenSpec) false c e)
   (Rows.writtenSpec.post enc Tryz.prog Tryz.f8 false true false false):=by
 refine Jb (C:= Tryz.checked) (X:=λc _=>laidMetH Tryz.prog Rows.writtenRow.laid c) (λ_ _ _ S h=>h.of_heap S) Tryz.ownE ac (by kernel_rfl) Tryz.func8
  (ChangeSpec.witness_shaped (enc:=enc) (C:= Tryz.checked) (os:=d) (X:=λc _=>laidMetH Tryz.prog Rows.writtenRow.laid c) false (World.laidAll Tryz.prog d Rows.writtenRow.laid) #[.slice none 0 0] 8 (World.laidAll_os _ _ _) (World.shaped_of_ZipB (by kernel_rfl) (by kernel_rfl)) (by kernel_rfl) (by kernel_rfl) (by kernel_rfl) (by rw[MakeChecks.laidMetH_plain _ _ _ pw];exact Li d _)) ?_
 intro a A e D gs ad v t W s J;have u:∀(j:Nat) m x,Tryz.f8.params[j]?=some m->e[j]?=some x->Value.okWide Tryz.prog a .any A m x:=v;have i:=t;obtain⟨l,al,q,K,rfl,_,_⟩:=t;have p:DataW.TrodAll enc Tryz.prog a 0 (λ_=>true) true Tryz.f8.params.toList e.toList D l:=q;rw[Tryz.params8]at p u;have H:laidMet Tryz.prog Rows.writtenRow.laid a:=by rw[MakeChecks.laidMetH_plain _ _ _ pw]at s;exact s
 have G:=IQ H J;obtain⟨v0,B,rfl,rfl,o⟩:=trodAll_one p;obtain⟨rfl,rfl⟩:=trodVars_none K;obtain⟨g,k,f,rfl⟩:=okWide_slice dq (u 0 52 v0 rfl rfl);clear q v;simp only[ct]at i;have U:∀n∈l,n.block<a.heap.size:=λn Y=>by simpa using i.lt n (by simp[Y])
 obtain⟨zs,hz,Q,V,T,O⟩:=JL o;have hr:reachBytes<2^47:=reachBytes_lt;have P:f<=9223372036854775807:=by
  rcases O with N | ⟨el,sp,rfl,N⟩;·omega
  ·have:=sized_slice (j:=0) (t:= 52) (e:= 3) W (by kernel_rfl) rfl dq;have M : Tryz.checked.prog.bytesOf 3=8:= Tryz.bytesN;rw[M]at this;omega
 have I:zN a.heap.size a (.slice g k f):=by refine⟨g,k,f,rfl,T,P,λw hi=>?_⟩;obtain⟨b,Z,e1,e2,F⟩:=Q w (by omega);have:=V w (by omega);exact⟨b,Z,_,e1,e2,F,this.1,this.2⟩
 refine(L_ G I).mono λE z ⟨R,r⟩=>?_;subst R;have L:DataW.Trod enc Tryz.prog z 0 (λb=>decide (b<a.heap.size)) true 52 (.slice g k f) B l:=
  Below.trod Tryz.laidOutE (by kernel_rfl) (of_decide_eq_true (by kernel_rfl)) o r U
 refine⟨_,rfl,_,_,_,[],_,[],i,?_,trodAll_mk1 L,rfl,r.frame _,λh=>by cases h⟩;exact trodAll_mk1 (shut_bool Tryz.underlying4 _)
theorem Ma:Rows.WrittenSaid:=
 OpenClaim.holds_of_wide 8 Tryz.f8 rfl rfl rfl rfl rfl rfl rfl ⟨rfl,rfl,rfl,rfl,rfl⟩ rfl rfl rfl rfl rfl wn Tryz.func8 L0 LO ww
  (λc d a b _=>L9 c d a b)
end
section
open Go
theorem written_card:Rows.WrittenCardSaid:=
 Claim7.holds_tied_plain_at .later [] [.data,.data,.data,.data,.sentinel,.sentinel,.data,.pinned] true Rows.writtenCard.stood.harness true
  Ma (λ_ a=>by cases a) Mb (λ_ a=>by cases a) written_row_tie rfl ⟨rfl,rfl⟩ wm rfl
  (λd e g h=>by
   obtain rfl:d = 8:=dy (wn.symm.trans g) |>.symm;obtain rfl:e = Tryz.f8:=(dy (Tryz.func8.symm.trans h)).symm;exact⟨LP,λk b c=>by
    rw[Tryz.params8]at c;have i:b∈[52]:=by simpa using Array.mem_of_getElem? c
    have f:([52].all λj => !Tryz.prog.wantsStandIn j)=true:=by kernel_rfl
    exact(show Tryz.prog.wantsStandIn b=false by simpa using dF.1 f b i)⟩)
  wg
end
end Go.Proofs.YtgkljcmjnphpeaaGreatDoor
