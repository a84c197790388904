/- For every document, right or wrong, of whatever depth, foliolaw.Writes returns true and its argument reads as before: proved for the program as the row says it, with no condition beyond the card's own. -/
import Derived.Test.YtgkljcmjnphpeaaGreatDoorK11
import Derived.Test.YtgkljcmjnphpeaaGreatDoorTie
import Derived.Lay
set_option linter.unusedVariables false
set_option linter.unusedSimpArgs false
set_option maxHeartbeats 1000000
set_option maxRecDepth 100000
open List renaming length->G
open Go.Value renaming agg->Bc,int->I,slice->Z
open Bool renaming true->CD,false->CS
open Go.Proofs.Tryz renaming prog->DG
open Option renaming none->N,some->O
open Go.IntKind renaming i64->U
open Go renaming World->vz,Value->wg
open Go.Proofs.Tryz
namespace Go.Proofs.YtgkljcmjnphpeaaGreatDoor
open Go.RowKit
section
open Go.ChangeShapes Go.WideShapes Go.ChangeAt Go.ChangeMaps Go.RowKit
theorem Qa{a:vz}{c d:DataW Unit}(f:laidMet DG [("math/bits.deBruijn32tab",c),("math/bits.deBruijn64tab",d),("internal/strconv.uint64pow10",Rows.laid_internal_strconv_uint64pow10)] a):pR a.heap.size a:=by have e:laidMet DG (("internal/strconv.uint64pow10",Lib.tabData .u64 Lib.pow10Tab)::[]) a:=f.tail.tail;have b:=Lib.tabIs_of_head Tryz.gPow Tryz.gPowT underlying275 underlying234 Tryz.cellsU Tryz.cellsP e;exact⟨b,aA a _ (b.cell Tryz.gPow 0 bF)⟩
theorem CW{c a b:wg}(h:c.cells.toList=[a,b]):c=Bc #[a,b]:=by
 cases c with
 |agg d=>have h:d.toList=[a,b]:=h;rw[<-h]
 |_=>simp[Value.cells]at h
theorem Tp(b:Os)(a:Array wg):laidMet DG Rows.writesRow.laid ((World.laidAll DG b Rows.writesRow.laid).forCall (λ_ _=>0) ⟨#[],a,[]⟩).memory:=laidMet_laidAll _ aG aG
theorem pw:(Rows.writesRow.laid.all λa=>a.2.handleName?.isNone)=CD:=by kernel_rfl
theorem Um(os:Os)(ad:os.Started)(w:Type)(enc:TypeId×wg->w):ReturnsInHanded {} Tryz.checked os 5 .any (λa e=>(Rows.writesSpec.pre enc DG f5 [] CS a e/\laidMetH DG Rows.writesRow.laid a)/\sizedMet enc DG f5 (OpenSpec.ofChange Rows.writesSpec) CS a e)
   (Rows.writesSpec.post enc DG f5 CS CD CS CS):=by
 refine QS (C:= Tryz.checked) (X:=λa _=>laidMetH DG Rows.writesRow.laid a) (λ_ _ _ M h=>h.of_heap M) Tryz.ownE ad aG func5
  (ChangeSpec.witness_shaped (enc:=enc) (C:= Tryz.checked) (os:=os) (X:=λa _=>laidMetH DG Rows.writesRow.laid a) CS (World.laidAll DG os Rows.writesRow.laid) #[Bc #[Z N 0 0,I U 0]] 8 (World.laidAll_os _ _ _) (World.shaped_of_ZipB aG aG) aG aG aG (by rw[MakeChecks.laidMetH_plain _ _ _ pw];exact Tp os _)) ?_
 intro c z e A gs al t s T r hS;have aa:∀(g:Nat) j v,f5.params[g]?=O j->e[g]?=O v->Value.okWide DG c .any z j v:=t;have f:=s;obtain⟨i,a0,p,F,rfl,_,_⟩:=s;have o:DataW.TrodAll enc DG c 0 (λ_=>CD) CD f5.params.toList e.toList A i:=p;rw[Tryz.params5]at o aa;have D:laidMet DG Rows.writesRow.laid c:=by rw[MakeChecks.laidMetH_plain _ _ _ pw]at r;exact r
 have B:=Qa D;obtain⟨v0,m,rfl,rfl,n⟩:=trodAll_one o;obtain⟨rfl,rfl⟩:=trodVars_none F;clear p t;simp only[bP]at f;have Q:∀l∈i,l.block<c.heap.size:=λl hx=>by simpa using f.lt l (by simp[hx])
 obtain⟨k,oa,x,oc,ac,P,V,S,L,E⟩:=od n (λu R=>by have:=bG.1 T u (DataW.weights_mem_each (j:=0) (t:= 31) (d:=m) aG rfl u R);simpa using this)
 have W:=CW V;subst W;refine(Ue P B S L E).m λao y ⟨K,q⟩=>?_;subst K;have J:DataW.Trod enc DG y 0 (λb=>decide (b<c.heap.size)) CD 31 (Bc #[Z oa (G x) oc,I U ac]) m i:=
  Below.trod Tryz.laidOutE aG (of_decide_eq_true aG) n q Q
 refine⟨_,rfl,_,_,_,[],_,[],f,?_,trodAll_mk1 J,rfl,q.frame _,λh=>by cases h⟩;exact trodAll_mk1 (shut_bool underlying4 _)
theorem Up:Rows.WritesSaid:=
 OpenClaim.holds_of_wide 5 f5 rfl rfl rfl rfl rfl rfl rfl ⟨rfl,rfl,rfl,rfl,rfl⟩ rfl rfl rfl rfl rfl wn func5 Uk T_ ww
  (λc d a b _=>Um c d a b)
end
section
open Go
theorem writes_card:Rows.WritesCardSaid:=
 Claim7.holds_tied_plain_at .later [] [.data,.data,.data] CD Rows.writesCard.stood.harness CD
  Up (λ_ h=>by cases h) Uq (λ_ h=>by cases h) writes_row_tie rfl ⟨rfl,rfl⟩ Un rfl
  (λc d f g=>by
   obtain rfl:c = 5:=d9 (wn.s.t f) |>.s;obtain rfl:d = f5:=(d9 (func5.s.t g)).s;exact⟨Ua,λk a b=>by
    rw[Tryz.params5]at b;have i:a∈[31]:=by simpa using Array.mem_of_getElem? b
    have e:([31].all λj=> !Tryz.prog.wantsStandIn j)=CD:=aG;exact(show Tryz.prog.wantsStandIn a=CS by simpa using bG.1 e a i)⟩)
  Ul
end
