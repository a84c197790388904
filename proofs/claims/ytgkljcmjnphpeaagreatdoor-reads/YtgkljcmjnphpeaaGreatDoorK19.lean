/- For every string and every number, foliolaw.Reads returns true: proved for the program as the row says it, with no condition beyond the card's own. -/
import Derived.Test.YtgkljcmjnphpeaaGreatDoorK18
import Derived.Test.YtgkljcmjnphpeaaGreatDoorTie
import Derived.Lay
set_option linter.unusedVariables false
set_option linter.unusedSimpArgs false
set_option maxHeartbeats 1000000
set_option maxRecDepth 100000
open Go renaming Value->GI,World->Gr
open Go.Value renaming int->I,string->MV
open Option renaming some->O
open Bool renaming false->P2,true->PV
open Go.Proofs.Tryz renaming prog->Qe
open Go.IntKind renaming i64->U
open Go.Proofs.Tryz
namespace Go.Proofs.YtgkljcmjnphpeaaGreatDoor
open Go.RowKit
section
open Go.ChangeShapes Go.WideShapes Go.ChangeAt Go.ChangeMaps Go.RowKit
theorem Tryz.gOrdR : Tryz.prog.globalNamed "folio/filters.lengthOrder" = O 1:=by kernel_rfl
theorem Tryz.gOrdRT:(Tryz.prog.globals[1]?).map (·.type)=O 285:=by kernel_rfl
theorem Tryz.cellsOR : Tryz.prog.cellsOf 285=19:=by kernel_rfl
theorem Ng{a:Gr}{g h n f o p b:DataW Unit}(i:laidMet Qe [("math/bits.deBruijn32tab",g),("math/bits.deBruijn64tab",h),("internal/strconv.uint64pow10",n),("unicode/utf8.acceptRanges",f),("strconv.ErrRange",o),("strconv.ErrSyntax",p),("folio/filters.lengthOrder",Rows.laid_folio_filters_lengthOrder),("unicode/utf8.first",b)] a):QU a:=by
 have k:laidMet Qe (("folio/filters.lengthOrder",Lib.tabData U [16,17,18,0,8,7,9,6,10,5,11,4,12,3,13,2,14,1,15])::[("unicode/utf8.first",b)]) a:=i.tail.tail.tail.tail.tail.tail;have l:=Lib.tabIs_of_head Tryz.gOrdR Tryz.gOrdRT underlying285 fD Tryz.cellsN Tryz.cellsOR k;have c:oV a:=λe d=>by rw[l.cell Tryz.gOrdR e d];have m:∀j:Fin 19,([16,17,18,0,8,7,9,6,10,5,11,4,12,3,13,2,14,1,15]:List Int).getD j.val 0=(nth lQ j.val:Nat):=cO;rw[m ⟨e,d⟩]
 exact⟨c,aC a _ (c 0 Y)⟩
theorem Pi(b:Os)(a:Array GI):laidMet Qe Rows.readsRow.laid ((World.laidAll Qe b Rows.readsRow.laid).forCall (λ_ _=>0) ⟨#[],a,[]⟩).memory:=laidMet_laidAll _ aG aG
theorem pr:(Rows.readsRow.laid.all λa=>a.2.handleName?.isNone)=PV:=by kernel_rfl
theorem N6(os:Os)(J:os.Started)(q:Type)(enc:TypeId×GI->q):ReturnsInHanded {} Tryz.checked os 6 .any (λa b=>(Rows.readsSpec.pre enc Qe f6 [] P2 a b/\laidMetH Qe Rows.readsRow.laid a)/\sizedMet enc Qe f6 (OpenSpec.ofChange Rows.readsSpec) P2 a b)
   (Rows.readsSpec.post enc Qe f6 P2 PV P2 P2):=by
 refine Fp (C:= Tryz.checked) (X:=λa _=>laidMetH Qe Rows.readsRow.laid a) (λ_ _ _ A h=>h.of_heap A) Tryz.ownE J aG func6
  (ChangeSpec.witness_shaped (enc:=enc) (C:= Tryz.checked) (os:=os) (X:=λa _=>laidMetH Qe Rows.readsRow.laid a) P2 (World.laidAll Qe os Rows.readsRow.laid) #[MV {data:=#[]},I U 0] 8 (World.laidAll_os _ _ _) (World.shaped_of_ZipB aG aG) aG aG aG (by rw[MakeChecks.laidMetH_plain _ _ _ pr];exact Pi os _)) ?_
 intro c r b s W R o m D k w;have d:∀(e:Nat) f p,f6.params[e]?=O f->b[e]?=O p->Value.okWide Qe c .any r f p:=o;have n:=m;obtain⟨F,aa,j,x,rfl,_,_⟩:=m;have i:DataW.TrodAll enc Qe c 0 (λ_=>PV) PV f6.params.toList b.toList s F:=j;rw[Tryz.params6]at i d;have l:laidMet Qe Rows.readsRow.laid c:=by rw[MakeChecks.laidMetH_plain _ _ _ pr]at k;exact k
 have v:=LI l w;have B:QU c:=Ng l;obtain⟨K,L,S,T,p0,p1,rfl,rfl,rfl,t,h1⟩:=trodAll_two i;obtain⟨rfl,rfl⟩:=trodVars_none x;obtain⟨g,rfl,rfl,rfl,M⟩:=open_string dJ (d 0 9 K rfl rfl) t;obtain⟨E,rfl,rfl,rfl,P⟩:=open_int fD (d 1 3 L rfl rfl) h1;clear j o;simp only[cF]at n;have y:g.size<=140737488351232:=by have:=sized_string (j:=0) (t:= 9) D aG rfl;exact this
 refine(Gs g E y v B).m λV Q ⟨z,u⟩=>?_;subst z;refine⟨_,rfl,_,_,_,[],_,[],n,?_,trodAll_mk2 (shut_string dJ M) (shut_int fD P),rfl,u.frame _,λh=>by cases h⟩;exact trodAll_mk1 (shut_bool underlying4 _)
theorem Og:Rows.ReadsSaid:=
 OpenClaim.holds_of_wide 6 f6 rfl rfl rfl rfl rfl rfl rfl ⟨rfl,rfl,rfl,rfl,rfl⟩ rfl rfl rfl rfl rfl rn func6 NU NV NZ
  (λc d a b _=>N6 c d a b)
end
section
open Go
theorem reads_card:Rows.ReadsCardSaid:=
 Claim7.holds_tied_plain_at .later [] [.data,.data,.data,.data,.sentinel,.sentinel,.data,.pinned] PV Rows.readsCard.stood.harness PV
  Og (λ_ h=>by cases h) OC (λ_ h=>by cases h) reads_row_tie rfl ⟨rfl,rfl⟩ NW rfl
  (λc d f g=>by
   obtain rfl:c = 6:=dq (rn.s.t f) |>.s;obtain rfl:d = f6:=(dq (func6.s.t g)).s;exact⟨Gj,λk a b=>by
    rw[Tryz.params6]at b;have i:a∈[9,3]:=by simpa using Array.mem_of_getElem? b
    have e:([9,3].all λj=> !Tryz.prog.wantsStandIn j)=PV:=aG;exact(show Tryz.prog.wantsStandIn a=P2 by simpa using cN.1 e a i)⟩)
  N4
end
