import Derived.Lib.Bytealg
import Derived.Test.YtgkljcmjnphpeaaGreatDoorK02
import Derived.Deep.CutBlock
set_option linter.defProp false
set_option linter.unusedVariables false
set_option linter.unusedSimpArgs false
set_option maxHeartbeats 4000000
set_option maxRecDepth 100000
open List renaming length->G
open Go renaming Value->GI,World->Gr,Calls->K8,Addr->L2,Ending->MB
open Go.Value renaming int->I,pointer->M2,string->MV,agg->N1,bool->OV,tuple->OW,slice->Z
open Go.RowKit renaming Hid->L1,Below->LT
open Option renaming none->N,some->O
open Bool renaming false->P2,true->PV
open Or renaming inl->P3,inr->P4
open Go.Obj renaming cells->Pp
open Go.Ending renaming returned->Ps
open Go.Proofs.Tryz renaming prog->Qe
open Go.IntKind renaming i64->U
open Go.Proofs.Tryz
namespace Go.Proofs.YtgkljcmjnphpeaaGreatDoor
open Go.RowKit
section
variable{w c:Gr}
def jo(a:ByteArray):Bool:=decide (a.size<=60) && !(a.data.toList.contains 0)
def jt(a:List (List Nat))(b:Nat):Bool:=decide (G a=b)&&(a.all λd=>jo (ge d))&&decide ((a.map ge).Nodup)
def ke(a:Int)(pD:Nat):Bool:=(decide (pD=0)||decide (a.tmod 10≠0))&&decide (pD<=5)&&decide (-999999999<=a/\a<=999999999)
def kX(a:ByteArray):Bool:=decide (a={data:=#[76,101,110,103,116,104]})||decide (a={data:=#[70,105,108,116,101,114]})||decide (a={data:=#[68,101,99,111,100,101,80,97,114,109,115]})
def j5{α:Type}(a:gk α):Bool:=jt a.keys a.items.length&&decide ((ge a.text).size<=20000)&&decide (a.filters.length<=4)&&(a.keys.all λd=> !kX (ge d))&&(a.filters.all λb=>decide (1<=b/\b<=4))
def kA{α:Type}(a:gk α):Bool:=match a.kind with
 |0=>PV
 |6=>PV
 |9=>PV
 |1=>decide (0<=a.n/\a.n<=1)
 |2=>decide (-2147483648<=a.n/\a.n<=2147483647)
 |3=>ke a.n a.places
 |4=>jo (ge a.text)
 |5=>decide ((ge a.text).size<=4000)
 |7=>jt a.keys a.items.length
 |8=>j5 a
 |_=>P2
def j9{α:Type}(a:gk α):Bool:=
 (decide (a.kind=1\/a.kind=2\/a.kind=9\/a.kind=3)||decide (a.n=0))&&(decide (a.kind=3)||decide (a.places=0))&&(decide (a.kind=4\/a.kind=5\/a.kind=8)||decide (a.text=[])) &&
 (decide (a.kind=6\/a.kind=7\/a.kind=8)||decide (a.items=[]))&&(decide (a.kind=7\/a.kind=8)||decide (a.keys=[]))&&(decide (a.kind=8)||decide (a.filters=[]))
def lz{α:Type}(objs a b:Nat)(V:gk α):Bool:=decide (b+V.items.length<=2000) && !(decide (V.kind=8/\1<a)) && !(decide (V.kind=9/\¬(1<=V.n/\V.n<=(objs:Int))))&&j9 V&&kA V
def kg(objs:Nat):(k:Nat)->Nat->List (VT k)->Option Nat
 |0,a,_=>O a
 |k+1,a,b=>b.foldlM (λ(a:Nat) (V:gk (VT k))=>if lz objs (12-k) a V=PV then kg objs k (a+V.items.length) V.items else N) a
def jb(a:List (VT 12))(b:Int):Bool:=decide (1<=G a/\G a<=100)&&decide (1<=b/\b<=(G a:Int))&&decide ((a[(b-1).toNat]?).map (λd:VT 12=>gk.kind (α:=VT 11) d)=O 7)&&(kg (G a) 12 (G a) a).isSome
def I9:∀a:List UInt8,(Lib.indexByte a 0<0)↔a.contains 0=P2
 | []=>by simp[Lib.indexByte]
 |b::a=>by
  have k:=I9 a;have j:∀a:List UInt8,-1<=Lib.indexByte a 0:=by
   intro a;induction a with
   |nil=>simp[Lib.indexByte]
   |cons b a l=>
    unfold Lib.indexByte;split;·omega
    ·split;·omega
     ·omega
  have h1:=j a;unfold Lib.indexByte;by_cases d:b=0;·subst d;simp
  ·have f:(b==0)=P2:=by simpa using d
   have g:¬(0=b):=λh=>d h.s;rw[f,List.contains_cons];have i:((0:UInt8)==b)=P2:=by simpa using g
   rw[i,Bool.false_or,<-k];by_cases e:Lib.indexByte a 0 = -1;·simp[e]
   ·have:(Lib.indexByte a 0 == -1)=P2:=by simpa using e
    rw[this];simp only[Bool.false_eq_true,if_false];omega
def Mb(a:ByteArray)(w:Gr):K8 Qe 286 #[MV a,I .u8 0] w λe c=>e=Ps (I U (Lib.indexByte a.data.toList 0))/\c=w:=by
 have h1:K8 Qe 318 #[MV a,I .u8 0] w λe c=>e=Ps (I U (Lib.indexByte a.data.toList 0))/\c=w:=by
  go_in
  go_wp2;rw[run_callFunc_extern func333 aG aG aG (e:=Extern.BytealgIndexByte.indexByte) aG,Lib.run_indexByteString];simp only[Result.andThen];rw[Oper.upon_value];go_wp2;go_ret;exact⟨rfl,rfl⟩
 have d:=H h1
 go_in
 go_wp2_with fail;apply d.o.m;rintro e c ⟨rfl,b⟩;have b:=b.s;subst b;go_wp2;go_ret;exact⟨rfl,rfl⟩
def I8(a:ByteArray)(w:Gr):K8 Qe 231 #[MV a] w λg c=>g=Ps (OV (jo a))/\c=w:=by
 by_cases h:a.size<=60
 ·have d:=I9 a.data.toList;have j:=H (Mb a w);generalize Lib.indexByte a.data.toList 0=i at *;have h2:jo a=decide (i<0):=by
   unfold jo;rw[aB h,bX];by_cases f:i<0;·rw[d.1 f];simp[f]
   ·have b:a.data.toList.contains 0=PV:=by
     cases b:a.data.toList.contains 0 with
     |true=>rfl
     |false=>exact absurd (d.2 b) f
    rw[b];simp;omega
  rw[h2];clear d h2
  go_in
  go_wp2_with fail;apply j.o.m;rintro g c ⟨rfl,e⟩;have e:=e.s;subst e;go_wp2;go_ret;exact⟨rfl,rfl⟩
 ·have h2:jo a=P2:=by unfold jo;rw[ar h];rfl
  rw[h2]
  go_in
  go_wp2;go_ret;exact⟨rfl,rfl⟩
def Hd(a d b:Int)(w:Gr):K8 Qe 63 #[I U a,I U d,I U b] w λe c=>e=Ps (OV (decide (d<=a/\a<=b)))/\c=w:=by
 by_cases h:d<=a/\a<=b;·rw[aB h];exact ou a d b w h.1 h.2
 ·rw[ar h];exact qP a d b w Y
def Fw(a:Int)(d:Nat)(w:Gr):K8 Qe 230 #[I U a,I U d] w λf c=>f=Ps (OV (ke a d))/\c=w:=by
 have l:=H (Hd a (-999999999) 999999999 w);by_cases h:d<=5
 ·have g:=H (ou (d:Int) 0 5 w Y Y);by_cases i:d=0
  ·have h2:ke a d=decide (-999999999<=a/\a<=999999999):=by unfold ke;rw[aB h,aB i];rfl
   rw[h2];generalize decide (-999999999<=a/\a<=999999999)=m at *;subst i;go_enter fI,fF;go_wp2_with fail;apply g.o.m;rintro f c ⟨rfl,b⟩;have b:=b.s;subst b;go_wp2_with fail;apply l.o.m;rintro f c ⟨rfl,b⟩;have b:=b.s;subst b;go_wp2;go_ret;exact⟨rfl,rfl⟩
  ·have t1:((d:Int)==0)=P2:=eB;by_cases e:a.tmod 10=0
   ·have h2:ke a d=P2:=by unfold ke;rw[ar i,ar vj];rfl
    rw[h2];have j:(a.tmod 10==0)=PV:=by simp[e]
    have k:(a.tmod 10 != 0)=P2:=by simp[e]
    go_enter fI,fF;go_wp2;go_ret;exact⟨rfl,rfl⟩
   ·have h2:ke a d=decide (-999999999<=a/\a<=999999999):=by unfold ke;rw[aB h,aB e,Bool.or_true];rfl
    rw[h2];generalize decide (-999999999<=a/\a<=999999999)=m at *;have j:(a.tmod 10==0)=P2:=by simp[e]
    have k:(a.tmod 10 != 0)=PV:=by simp[e]
    go_enter fI,fF;go_wp2_with fail;apply g.o.m;rintro f c ⟨rfl,b⟩;have b:=b.s;subst b;go_wp2_with fail;apply l.o.m;rintro f c ⟨rfl,b⟩;have b:=b.s;subst b;go_wp2;go_ret;exact⟨rfl,rfl⟩
 ·have g:=H (qP (d:Int) 0 5 w Y);have h2:ke a d=P2:=by unfold ke;rw[ar h,Bool.and_false];rfl
  rw[h2];have t1:((d:Int)==0)=P2:=eB;by_cases e:a.tmod 10=0
  ·have j:(a.tmod 10==0)=PV:=by simp[e]
   have k:(a.tmod 10 != 0)=P2:=by simp[e]
   go_enter fI,fF;go_wp2;go_ret;exact⟨rfl,rfl⟩
  ·have j:(a.tmod 10==0)=P2:=by simp[e]
   have k:(a.tmod 10 != 0)=PV:=by simp[e]
   go_enter fI,fF;go_wp2_with fail;apply g.o.m;rintro f c ⟨rfl,b⟩;have b:=b.s;subst b;go_wp2;go_ret;exact⟨rfl,rfl⟩
end
section
open Go.RowKit Go.Maps Go.WideMaps
variable{w d:Gr}
def nj(a:List Nat):Lit:=.string (ge a).data.toList
def Kh(a b:List Nat):(nj a).sameKey (nj b)=decide (ge a=ge b):=by unfold nj;simp only[Lit.sameKey];rw[bC,beq_iff_eq,cm];exact⟨λh=>e_ (Array.toList_inj.1 h),λh=>by rw[h]⟩
def Hy:∀(c:List Lit) (a:List Lit),(c.foldl addKey a).length<=G a+G c
 | [],a=>eA
 |b::r,a=>by
  rw[eJ];have:=Hy r (addKey a b);have h2:(addKey a b).length<=G a+1:=by unfold addKey;split<;>simp
  simp only[aj];omega
def Hw:∀(i a:List (List Nat)),((i.map nj).foldl addKey (a.map nj)).length=G a+G i↔(i.map ge).Nodup/\∀f∈i,ge f∉a.map ge
 | [],a=>eA
 |f::r,a=>by
  rw[bF,eJ];have k:(a.map nj).any (λc=>c.sameKey (nj f))=PV↔ge f∈a.map ge:=by
   rw[List.any_map,List.any_eq_true,cT];constructor
   ·rintro⟨c,b,h⟩;simp only[Function.comp_apply,Kh,cm]at h;exact⟨c,b,h⟩
   ·rintro⟨c,b,h⟩;refine⟨c,b,?_⟩;simp only[Function.comp_apply,Kh,cm];exact h
  by_cases g:ge f∈a.map ge
  ·have e1:addKey (a.map nj) (nj f)=a.map nj:=by unfold addKey;rw[ai (k.2 g)]
   rw[e1];have:=Hy (r.map nj) (a.map nj);simp only[aw,aj]at *;constructor;·intro h;omega
   ·rintro⟨_,h⟩;exact absurd g (h f eA)
  ·have e1:addKey (a.map nj) (nj f)=(a++[f]).map nj:=by unfold addKey;rw[ah (λh=>g (k.1 h))];simp
   rw[e1];have j:=Hw r (a++[f]);rw[ak]at j;simp only[aj,bF,List.nodup_cons];rw[show (G a)+(G r+1)=G a+(0+1)+G r by omega];rw[aj,aI]at j;rw[j];constructor
   ·rintro⟨h1,h2⟩;refine⟨⟨λe=>?_,h1⟩,λc b=>?_⟩
    ·obtain⟨c,b,l⟩:=cT.1 e;exact h2 c b (by simp[l])
    ·rcases cQ.1 b with rfl|b;·exact g
     ·intro e;exact h2 c b (by rw[bK];exact List.mem_append_left _ e)
   ·rintro⟨⟨h1,h2⟩,h3⟩;refine⟨h2,λc b e=>?_⟩;rw[bK,bG]at e;rcases e with e|e;·exact h3 c (by simp[b]) e
    ·simp at e;exact h1 (cT.2 ⟨c,b,e⟩)
def Pb(a:List (List Nat)):(Maps.size (setOf (H:=Unit) (.agg []) (a.map nj))=G a)↔(a.map ge).Nodup:=by rw[size_setOf _ _ (λe b=>by obtain⟨c,_,rfl⟩:=cT.1 b;trivial)];have:=Hw a [];simp only[dY,aI,bH,List.not_mem_nil,not_false_eq_true,implies_true,and_true]at this;exact this
def kS:Keyed Qe 9:=string_keyed dJ
def I7{bd:Nat->Prop}{k:Nat}{a1:GI}{a:gk (VT k)}(h:gF bd (k+1) w a1 a)(bx:a.keys.length<=200000):K8 Qe 232 #[a1] w λy d=>y=Ps (OV (jt a.keys a.items.length))/\LT w.heap.size w d:=by
 obtain⟨iv,kv,fv,vs,g,bv,bo,b1,ao,bm⟩:=h.parts;obtain⟨n,p,rfl⟩:=jp bo.1;obtain⟨B,q,rfl⟩:=jp ao.1;obtain⟨j,l,rfl⟩:=jp bm.1;have HK:=H ao;rw[bv]at g;obtain⟨b,hn⟩:∃b,a.keys.length=b:=⟨_,rfl⟩;obtain⟨D,al⟩:∃D,a.items.length=D:=⟨_,rfl⟩;have b0:b<=200000:=Y;rw[hn,al]at g;rw[al];unfold nV at g;generalize (a.kind:Int)=r at g;generalize a.n=s at g;generalize (a.places:Int)=t at g;generalize ge a.text=u at g;generalize a.filters.length=m at g;subst g;obtain⟨C,X⟩:∃C,jt a.keys D=C:=⟨_,rfl⟩;rw[X];have E:=H X;have i:=H hn;unfold jt at E;rw[i.o]at E;by_cases a0:b=D
 ·subst a0;rw[aB (rfl:b=b),bX]at E;have B1:L1 (LT w.heap.size w (w.alloc (Pp #[I U r,I U s,I U t,MV u,Z n b p,Z B b q,Z j m l] 67))):=(aq _ _).alloc (ag _) _;have a3:L1 ((w.alloc (Pp #[I U r,I U s,I U t,MV u,Z n b p,Z B b q,Z j m l] 67)).heap[w.heap.size]?=O (Pp #[I U r,I U s,I U t,MV u,Z n b p,Z B b q,Z j m l] 67 (0,0))):=bn _ _;have bz:=@run_makeMap Qe;have a6:L1 (((w.alloc (Pp #[I U r,I U s,I U t,MV u,Z n b p,Z B b q,Z j m l] 67)).alloc (.map #[] 0)).ownsMap Qe 9 (unitElem (H:=Unit)) (w.heap.size+1) 0 (.map [])):=by have:=World.ownsMap_made (H:=Unit) (w.alloc (Pp #[I U r,I U s,I U t,MV u,Z n b p,Z B b q,Z j m l] 67)) Qe 9 unitElem;rw[aL]at this;exact this
  go_in
  go_wp2;go_loopw [17] (λT wr=>∃(e:Nat),e<=b/\T=I U e/\L1 (wr.ownsMap Qe 9 (unitElem (H:=Unit)) (w.heap.size+1) e (setOf (.agg []) ((a.keys.take e).map nj)))/\L1 (LT w.heap.size w wr)/\L1 (wr.heap[w.heap.size]?=O (Pp #[I U r,I U s,I U t,MV u,Z n b p,Z B b q,Z j m l] 67 (0,0)))/\L1 ((((a.keys.drop e).all λf=>jo (ge f))&&decide ((a.keys.map ge).Nodup))=C)) (λT _=>b-(intOf T).toNat)
  case atStart=>exact⟨0,aH _,rfl,by simpa[setOf]using a6,B1.alloc eA _,mA _ a3,E⟩
  case round=>
   obtain⟨e,z,rfl,P,v,Q,x⟩:=hrel;rcases aV z with z|z
   ·subst z;have e1:=bD (by rw[i.o];exact ag _);have e2:=bS (by rw[i.o];exact ag _);rw[e1]at P;rw[e2]at x;have L:=Pb a.keys;rw[i.o]at L;obtain⟨M,hz⟩:∃M,Maps.size (setOf (H:=Unit) (.agg []) (a.keys.map nj))=M:=⟨_,rfl⟩;rw[hz]at L;have bf:C=((M:Int)==(e:Int)):=by
     rw[<-x.o];by_cases J:(a.keys.map ge).Nodup;·rw[aB J,L.2 J];simp
     ·rw[ar J];have:M≠e:=λy=>J (L.1 y);simp;omega
    have a9:=H bf;have HZ:=H hz;have d5:=r_ Q;go_wp2_with (first
     | (at_len;refine wpList_len_own _ rfl _ 265 rfl 9 266 underlying265 (unitElem (H:=Unit)) (w.heap.size+1) e _ rfl P ?_;rw[HZ.o])
     |go_in)
    go_ret;exact⟨by rw[a9.o];rfl,v⟩
   ·obtain⟨f,K⟩:∃f,a.keys[e]?=O f:=⟨_,af (by rw[i.o];exact z)⟩;have bi:a.keys.drop e=f::a.keys.drop (e+1):=by rw[aW (by rw[i.o];exact z)];congr 1;rw[af (by rw[i.o];exact z)]at K;simpa using K
    have bt:a.keys.take (e+1)=a.keys.take e++[f]:=by rw[du,K];rfl
    rw[bi,cZ]at x;obtain⟨W,c,ac,aa⟩:=uL HK.1 (show(a.keys.map λf=>MV (ge f))[e]?=O (MV (ge f))by rw[aY,K];rfl);rw[i.o]at ac;cases ac;have dk:wr.cell? ⟨W,e,N⟩=O (MV (ge f)):=by rw[v.o.cell (aC w _ aa)];exact aa
    have F:=H (I8 (ge f));have bb:L1 (setOf (H:=Unit) (.agg []) ((a.keys.take (e+1)).map nj)=(setOf (.agg []) ((a.keys.take e).map nj)).put (nj f) (.agg [])):=by unfold Hid;rw[bt,bK];exact setOf_snoc _ _ _
    have a5:L1 ((ge f).size<=60->keyOf Qe 9 (MV (ge f))=O (nj f)):=λh=>keyOf_string_mk dJ oi;have bq:jo (ge f)=PV->(ge f).size<=60:=λh=>by unfold jo at h;simp at h;exact h.1
    have a7:=H bq;generalize nj f=bw at *;generalize ge f=V at *;by_cases S:jo V=PV
    ·rw[S]at F x;have a4:=H (a5 (a7 S));go_wp2_with fail;apply(F _).m;rintro y w2 ⟨rfl,A⟩;have A:=A.s;subst A;go_wp2_with (first
      | (at_mapUpdate;refine wpList_mapUpdate_own _ rfl _ _ _ 265 rfl 9 266 kS underlying265 (unitElem (H:=Unit)) (w.heap.size+1) e _ rfl P oi _ _ _ rfl rfl a4 _ [] unitElem_mk ?_;intro w1 bs ad)
      |go_in)
     have a8:L1 (w1.ownsMap Qe 9 (unitElem (H:=Unit)) (w.heap.size+1) (e+1) (setOf (.agg []) ((a.keys.take (e+1)).map nj))):=by unfold Hid;rw[bb.o];exact bs
     have a2:=H (v.grown ad v.size (λb2 hj=>by cases hj;omega));have bc:L1 (w1.heap[w.heap.size]?=O (Pp #[I U r,I U s,I U t,MV u,Z n b p,Z (O ⟨W,0,N⟩) b q,Z j m l] 67 (0,0))):=by unfold Hid;rw[ad.block _ (ae Q.o) (λy=>by have:=dq y;omega)];exact Q
     go_wp2;go_roundw
     case rel=>exact⟨e+1,Y,by first|rfl|(congr 1),a8,a2,bc,x⟩
     case measure=>simp[intOf];omega
    ·have br:jo V=P2:=by simpa using S
     rw[br]at F x;have R:C=P2:=x.o.s;have ba:=H R;go_wp2_with fail;apply(F _).m;rintro y w2 ⟨rfl,A⟩;have A:=A.s;subst A;go_wp2;go_ret;exact⟨by rw[ba.o];rfl,v⟩
 ·have R:C=P2:=by rw[<-E.o,ar a0];rfl
  rw[R];have t1:(((b:Int) != (D:Int)))=PV:=eB;have hb:=(aq w.heap.size w).alloc (ag _) (Pp #[I U r,I U s,I U t,MV u,Z n D p,Z B b q,Z j m l] 67);have v:=H hb
  go_in
  go_wp2;go_ret;exact⟨rfl,v⟩
end
section
variable{w a:Gr}
def pY(b:ByteArray)(c:List UInt8):(b.toList==c)=decide (b=⟨c.toArray⟩):=by rw[bC,beq_iff_eq,cm,de];exact⟨λh=>e_ (by rw[<-h,Array.toArray_toList]),λh=>by rw[h]⟩
def Fx{a5:Nat->Prop}{k:Nat}{ad:GI}{d:gk (VT k)}(h:gF a5 (k+1) w ad d)(a6:d.keys.length<=200000)(a9:d.filters.length<=200000):K8 Qe 233 #[ad] w λu a=>u=Ps (OV (j5 d))/\LT w.heap.size w a:=by
 obtain⟨iv,kv,fv,vs,s,bb,a7,bc,a0,ao⟩:=h.parts;have HD:L1 (∀E:Gr,LT w.heap.size w E->K8 Qe 232 #[ad] E λu a=>u=Ps (OV (jt d.keys d.items.length))/\LT E.heap.size E a):=
  λE b=>I7 (gF.keep (k+1) h (λF _ hg=>b.block F hg)) a6
 obtain⟨S,T,rfl⟩:=jp a7.1;obtain⟨W,X,rfl⟩:=jp a0.1;obtain⟨Q,R,rfl⟩:=jp ao.1;have HK:=H a0;have a3:=H ao;obtain⟨f,hR⟩:∃f,j5 d=f:=⟨_,rfl⟩;rw[hR];have i:=H hR;unfold j5 at i;obtain⟨q,hn⟩:∃q,d.keys.length=q:=⟨_,rfl⟩;obtain⟨e,hf⟩:∃e,d.filters.length=e:=⟨_,rfl⟩;have ba:q<=200000:=Y;have a8:e<=200000:=Y;rw[hn,hf]at s;rw[hf]at i;unfold nV at s;generalize (d.kind:Int)=kd at s;generalize d.n=nn at s;generalize (d.places:Int)=pp at s;generalize ge d.text=L at s i;generalize (G vs)=V at s;subst s;have C:=H hn;have B:=H hf;have B1:L1 (LT w.heap.size w (w.alloc (Pp #[I U kd,I U nn,I U pp,MV L,Z S V T,Z W q X,Z Q e R] 67))):=(aq _ _).alloc (ag _) _;have a2:L1 ((w.alloc (Pp #[I U kd,I U nn,I U pp,MV L,Z S V T,Z W q X,Z Q e R] 67)).heap[w.heap.size]?=O (Pp #[I U kd,I U nn,I U pp,MV L,Z S V T,Z W q X,Z Q e R] 67 (0,0))):=bn _ _;have M:=H (HD _ B1);cases hd:jt d.keys d.items.length with
 |false=>
  rw[hd]at M i;have D:L1 (f=P2):=i.o.s
  go_in
  go_wp2_with fail;apply M.o.m;rintro u w2 ⟨rfl,P⟩;have g:=H (B1.t (P.m eA));go_wp2;go_ret;exact⟨by rw[D.o];rfl,g⟩
 |true=>
  rw[hd,bX]at i;rw[hd]at M
  go_in
  go_wp2_with fail;apply M.o.m;rintro u w2 ⟨rfl,P⟩;have g:=H (B1.t (P.m eA));have aa:w2.heap[w.heap.size]?=O (Pp #[I U kd,I U nn,I U pp,MV L,Z S V T,Z W q X,Z Q e R] 67 (0,0)):=by rw[P.block _ eA];exact a2
  have d3:=s_ aa;have d5:=r_ aa;have d6:=uy aa;by_cases ht:L.size<=20000
  ·rw[aB ht,bX]at i;by_cases al:e<=4
   ·rw[aB al,bX]at i;go_wp2;go_loopw [25] (λz wr=>∃(l:Nat),l<=q/\z=I U l/\wr=w2/\L1 ((((d.keys.drop l).all λn=> !kX (ge n))&&(d.filters.all λe=>decide (1<=e/\e<=4)))=f)) (λz _=>q-(intOf z).toNat)
    case atStart=>exact⟨0,aH _,rfl,rfl,i⟩
    case round=>
     obtain⟨l,x,rfl,rfl,r⟩:=hrel;rcases aV x with x|x
     ·subst x;have e2:=bS (by rw[C.o];exact ag _);have a4:L1 ((d.filters.all λe=>decide (1<=e/\e<=4))=f):=by unfold Hid;rw[<-r.o,e2];rfl
      go_wp2;go_loopw [43] (λz wx=>∃(j:Nat),j<=e/\z=I U j/\wx=wr/\L1 (((d.filters.drop j).all λe=>decide (1<=e/\e<=4))=f)) (λz _=>e-(intOf z).toNat)
      case atStart=>exact⟨0,aH _,rfl,rfl,a4⟩
      case round=>
       obtain⟨j,v,rfl,rfl,t⟩:=hrel;rcases aV v with v|v
       ·subst v;have e2:=bS (by rw[B.o];exact ag _);have p:L1 (f=PV):=by unfold Hid;rw[<-t.o,e2];rfl
        go_wp2;go_ret;exact⟨by rw[p.o];rfl,g⟩
       ·obtain⟨A,hx⟩:∃A,d.filters[j]?=O A:=⟨_,af (by rw[B.o];exact v)⟩;have ac:d.filters.drop j=A::d.filters.drop (j+1):=by rw[aW (by rw[B.o];exact v)];congr 1;rw[af (by rw[B.o];exact v)]at hx;simpa using hx
        rw[ac,cZ]at t;obtain⟨F,c,K,J⟩:=uL a3.1 (show(d.filters.map λe:Nat=>I U e)[j]?=O (I U A)by rw[aY,hx];rfl);rw[B.o]at K;cases K;have dk:wr.cell? ⟨F,j,N⟩=O (I U A):=by rw[g.o.cell (aC w _ J)];exact J
        by_cases a1:1<=A/\A<=4
        ·rw[aB a1,bX]at t;go_wp2_with fail;apply(ou _ 1 4 _ Y Y).m;rintro u w3 ⟨rfl,y⟩;have y:=y.s;subst y;go_wp2;go_roundw
         case rel=>first|exact⟨j+1,Y,by first|rfl|(congr 1),rfl,t⟩|exact⟨j+1,Y,by first|rfl|(congr 1),trivial,t⟩
         case measure=>simp[intOf];omega
        ·rw[ar a1,Bool.false_and]at t;have p:=H t.s;go_wp2_with fail;apply(qP _ 1 4 _ Y).m;rintro u w3 ⟨rfl,y⟩;have y:=y.s;subst y;go_wp2;go_ret;exact⟨by rw[p.o];rfl,g⟩
     ·obtain⟨n,hs⟩:∃n,d.keys[l]?=O n:=⟨_,af (by rw[C.o];exact x)⟩;have ac:d.keys.drop l=n::d.keys.drop (l+1):=by rw[aW (by rw[C.o];exact x)];congr 1;rw[af (by rw[C.o];exact x)]at hs;simpa using hs
      rw[ac,cZ]at r;obtain⟨F,c,K,J⟩:=uL HK.1 (show(d.keys.map λn=>MV (ge n))[l]?=O (MV (ge n))by rw[aY,hs];rfl);rw[C.o]at K;cases K;have dk:wr.cell? ⟨F,l,N⟩=O (MV (ge n)):=by rw[g.o.cell (aC w _ J)];exact J
      generalize ge n=m at *;by_cases h1:m={data:=#[76,101,110,103,116,104]}
      ·have p:L1 (f=P2):=by unfold Hid;rw[<-r.o];unfold kX;rw[aB h1];rfl
       have c1:(m.toList==[76,101,110,103,116,104])=PV:=by rw[pY,bT];exact h1
       go_wp2;go_ret;exact⟨by rw[p.o];rfl,g⟩
      ·have c1:(m.toList==[76,101,110,103,116,104])=P2:=by rw[pY,bk];exact h1
       by_cases h2:m={data:=#[70,105,108,116,101,114]}
       ·have p:L1 (f=P2):=by unfold Hid;rw[<-r.o];unfold kX;rw[aB h2,Bool.or_true];rfl
        have c2:(m.toList==[70,105,108,116,101,114])=PV:=by rw[pY,bT];exact h2
        go_wp2;go_ret;exact⟨by rw[p.o];rfl,g⟩
       ·have c2:(m.toList==[70,105,108,116,101,114])=P2:=by rw[pY,bk];exact h2
        by_cases h3:m={data:=#[68,101,99,111,100,101,80,97,114,109,115]}
        ·have p:L1 (f=P2):=by unfold Hid;rw[<-r.o];unfold kX;rw[aB h3,Bool.or_true];rfl
         have c3:(m.toList==[68,101,99,111,100,101,80,97,114,109,115])=PV:=by rw[pY,bT];exact h3
         go_wp2;go_ret;exact⟨by rw[p.o];rfl,g⟩
        ·have c3:(m.toList==[68,101,99,111,100,101,80,97,114,109,115])=P2:=by rw[pY,bk];exact h3
         have hb:kX m=P2:=by unfold kX;rw[ar h1,ar h2,ar h3];rfl
         rw[hb,Bool.not_false,bX]at r;go_wp2;go_roundw
         case rel=>first|exact⟨l+1,Y,by first|rfl|(congr 1),rfl,r⟩|exact⟨l+1,Y,by first|rfl|(congr 1),trivial,r⟩
         case measure=>simp[intOf];omega
   ·have D:L1 (f=P2):=by unfold Hid;rw[<-i.o,ar al];rfl
    go_wp2;go_ret;exact⟨by rw[D.o];rfl,g⟩
  ·have D:L1 (f=P2):=by unfold Hid;rw[<-i.o,ar ht];rfl
   go_wp2;go_ret;exact⟨by rw[D.o];rfl,g⟩
end
section
variable{w w':Gr}
def kY(a:ByteArray):Bool:=decide (a={data:=#[76,101,110,103,116,104]})||decide (a={data:=#[70,105,108,116,101,114]})
def h_{a:Type}(c:List (List Nat×a)):List (List Nat×a):=c.filter λb=> !kY (ge b.1)
def jg{k:Nat}(a:gk (VT k)):Option (gk (VT k)):=(ii a).map λb=>⟨8,0,0,[],(h_ (a.keys.zip a.items)).map Prod.snd,(h_ (a.keys.zip a.items)).map Prod.fst,b⟩
def sj{e:Type}(b:List (List Nat×e))(a:Nat)(k:List Nat)(d:e)(h:b[a]?=O (k,d)):h_ (b.take (a+1))=h_ (b.take a)++(if kY (ge k)=PV then[]else[(k,d)]):=by
 unfold h_;rw[du,h,List.filter_append];congr 1;by_cases c:kY (ge k)=PV;·simp[c]
 ·simp[c]
def qi{b:Type}(a:List (List Nat×b)):(h_ a).length<=G a:=List.length_filter_le _ _
def qj{o p:Type}{R:o->p->Prop}:∀(a:List (List Nat)) (d:List o) (e:List p),G d=G e->(∀(c:Nat) (f:o) (g:p),d[c]?=O f->e[c]?=O g->R f g) ->(h_ (a.zip d)).map Prod.fst=(h_ (a.zip e)).map Prod.fst/\(h_ (a.zip d)).length=(h_ (a.zip e)).length/\∀(c:Nat) (f:o) (g:p),((h_ (a.zip d)).map Prod.snd)[c]?=O f->((h_ (a.zip e)).map Prod.snd)[c]?=O g->R f g
 | [],d,e,_,_=>⟨rfl,rfl,λc f g h=>by simp[h_]at h⟩
 |k::a,[],[],_,_=>⟨rfl,rfl,λc f g h=>by simp[h_]at h⟩
 |k::a,[],g::e,h,_=>by cases h
 |k::a,f::d,[],h,_=>by cases h
 |k::a,f::d,g::e,h,q=>by
  have n:=qj (R:=R) a d e oT (λc i b l m=>q (c+1) i b (by simpa using l) (by simpa using m));have e1:∀{s:Type} (i:s) (r:List s),h_ ((k::a).zip (i::r))=if kY (ge k)=PV then h_ (a.zip r)else(k,i)::h_ (a.zip r):=λi r=>by unfold h_;rw[List.zip_cons_cons,List.filter_cons];by_cases j:kY (ge k)=PV<;>simp[j]
  rw[e1,e1];by_cases j:kY (ge k)=PV;·rw[ai j,ai j];exact n
  ·rw[ah j,ah j];refine⟨by rw[bF,bF,n.1],by simp[n.2.1],λc i b l m=>?_⟩;cases c with
   |zero=>simp at l m;subst l;subst m;exact q 0 _ _ rfl rfl
   |succ c=>exact n.2.2 c i b (by simpa using l) (by simpa using m)
def qw(c:Nat->Prop)(k:Nat)(e:Option (VT k))(w:Gr)(a:MB)(w':Gr):Prop:=
 LT w.heap.size w w'/\match e with
  |some d=>∃b,a=Ps b/\gF c k w' b d
  |none=>a=gU 4
def qw.none_{c:Nat->Prop}{k:Nat}{a:Option (VT k)}(b:LT w.heap.size w w')(h:a=N):qw c k a w (gU 4) w':=by subst h;exact⟨b,rfl⟩
def qw.some_{P:Nat->Prop}{k:Nat}{c:Option (VT k)}{a:VT k}{v:GI}(b:LT w.heap.size w w')(h:c=O a)(d:gF P k w' v a):qw P k c w (Ps v) w':=by subst h;exact⟨b,v,rfl,d⟩
structure St(q:Gr)(A:GI)(w:Gr)(f:GI)(d:List GI)(t:GI)(p:List (List Nat)):Prop where
 below:LT q.heap.size q w
 vb:w.heap[q.heap.size]?=O (Pp #[I U 8,I U 0,I U 0,MV {data:=#[]},f,t,A] 67 (0,0))
 own:w.ownsRow (q.heap.size+1) 67 7 f (G d) (d.flatMap cellsOf)
 ownk:w.ownsRow (q.heap.size+1) 9 1 t (G p) (p.map λs=>MV (ge s))
variable{q:Gr}{A f t:GI}{d:List GI}{p:List (List Nat)}
def St.step(h:St q A w f d t p)(b:LT w.heap.size w w'):St q A w' f d t p:=
 ⟨h.below.t (b.m h.below.size),by rw[b.block _ (ae h.vb)];exact h.vb,wV h.own b,wV h.ownk b⟩
def St.alloc(h:St q A w f d t p)(a:Obj):St q A (w.alloc a) f d t p:=h.step ((aq _ _).alloc (ag _) a)
def St.drew(h:St q A w f d t p):St q A w.drew f d t p:=h.step (aq _ _).drew
def St.key(h:St q A w f d t p){s:List Nat}{g:GI}
  (j:w'.ownsRow (q.heap.size+1) 9 1 g (G p+1) ((p.map λs=>MV (ge s))++[MV (ge s)])) (c:w.grownBy w' t.ownBlock):St q A (w'.setCell ⟨q.heap.size,5,N⟩ g) f d g (p++[s]):=by
 have l:=ae h.vb;have i:=h.ownk.lt;have m:w'.heap[q.heap.size]?=O (Pp #[I U 8,I U 0,I U 0,MV {data:=#[]},f,t,A] 67 (0,0)):=by rw[c.block _ l (λb=>by have:=i _ b.s;omega)];exact h.vb
 refine⟨⟨c.os.t h.below.os,c.tape.t h.below.tape,c.output.t h.below.output,by have:=c.size;have:=h.below.size;simp[World.setCell];omega,λe h1=>?_⟩,?_,?_,?_⟩
 ·rw[kW _ (by show e≠q.heap.size;omega),c.block e vx (λb=>by have:=i _ b.s;omega)];exact h.below.block e h1
 ·rw[lV _ m];rfl
 ·have:=h.own.kept c (by
   cases k:f.ownBlock with
   |none=>exact P3 rfl
   |some e=>refine P4 (λb=>?_);exact xT h.own h.ownk cO e k b.s)
  exact aR this (λb=>absurd (this.lt (q.heap.size) b).1 Y) g
 ·rw[ak,bK];have:=aR (a:=⟨q.heap.size,5,N⟩) j (λb=>absurd (j.lt (q.heap.size) b).1 Y) g;simpa using this
def St.item(h:St q A w f d t p){x:GI}{g:GI}
  (j:w'.ownsRow (q.heap.size+1) 67 7 g (G d+1) (d.flatMap cellsOf++cellsOf x)) (c:w.grownBy w' f.ownBlock):St q A (w'.setCell ⟨q.heap.size,4,N⟩ g) g (d++[x]) t p:=by
 have l:=ae h.vb;have i:=h.own.lt;have m:w'.heap[q.heap.size]?=O (Pp #[I U 8,I U 0,I U 0,MV {data:=#[]},f,t,A] 67 (0,0)):=by rw[c.block _ l (λb=>by have:=i _ b.s;omega)];exact h.vb
 refine⟨⟨c.os.t h.below.os,c.tape.t h.below.tape,c.output.t h.below.output,by have:=c.size;have:=h.below.size;simp[World.setCell];omega,λe h1=>?_⟩,?_,?_,?_⟩
 ·rw[kW _ (by show e≠q.heap.size;omega),c.block e vx (λb=>by have:=i _ b.s;omega)];exact h.below.block e h1
 ·rw[lV _ m];rfl
 ·rw[ak,dE];have:=aR (a:=⟨q.heap.size,4,N⟩) j (λb=>absurd (j.lt (q.heap.size) b).1 Y) g;simpa using this
 ·have:=h.ownk.kept c (by
   cases k:t.ownBlock with
   |none=>exact P3 rfl
   |some e=>refine P4 (λb=>?_);exact xT h.own h.ownk cO e b.s k)
  exact aR this (λb=>absurd (this.lt (q.heap.size) b).1 Y) g
def oB(g c:Nat)(h:Gr)(f:GI)(e:Array Bool)(b:Gr):Prop:=(e.getD g P2=P2->b.cell? ⟨c,4,N⟩=O f)/\∀a,a<c->b.heap[a]?=h.heap[a]?
def oB.set{a s i:Nat}{e:Gr}{f:GI}{b:Array Bool}{c:Gr}(g:i≠a):oB a s e f b c↔oB a s e f (b.setIfInBounds i PV) c:=by unfold oB;rw[eE P2 g]
def tZ{w w':Gr}{a:L2}{b:GI}(h:w.cell? a=O b)(c:w'.heap[a.block]?=w.heap[a.block]?):w'.cell? a=O b:=by unfold World.cell? at *;rw[c];exact h
def OO{y:Nat->Prop}{k:Nat}{bd:GI}{e:gk (VT k)}(h:gF y (k+1) w bd e)(hl:e.keys.length=e.items.length)(b5:A6 (k:=k+1) e):K8 Qe 259 #[bd] w (qw (λa=>y a\/w.heap.size<=a) (k+1) (jg e) w):=by
 obtain⟨i0,hi,d4,d5,d6⟩:=bu iV;obtain⟨j0,gi,c3,c4,c5⟩:=bu iS;obtain⟨f,t,A,d,L,d0,ca,d1,cd,dl⟩:=h.parts;have HC:L1 (∀T:Gr,LT w.heap.size w T->K8 Qe 310 #[bd] T (sH (ii e) T)):=
  λT b=>LP (gF.keep (k+1) h (λa _ g=>b.block a g)) hl b5
 obtain⟨ia,ic,rfl⟩:=jp ca.1;obtain⟨ka,kc,rfl⟩:=jp cd.1;obtain⟨fa,fc,rfl⟩:=jp dl.1;have HI:=H ca;have HK:=H cd;have HV:=H d1;obtain⟨j,hn⟩:∃j,G d=j:=⟨_,rfl⟩;have cc:e.keys.length=j:=Y;have eu:j<=200000:=by have:=b5.1;omega
 rw[cc,hn]at L;unfold nV at L;generalize (e.kind:Int)=kd at L;generalize e.n=nn at L;generalize (e.places:Int)=pp at L;generalize ge e.text=tt at L;generalize e.filters.length=fl at L;subst L;have F:=H (And.intro hn (And.intro cc (And.intro hl d0)));have B2:L1 (LT w.heap.size w ((w.alloc (Pp #[I U kd,I U nn,I U pp,MV tt,Z ia j ic,Z ka j kc,Z fa fl fc] 67)).alloc (Pp gG 67))):=
  ((aq _ _).alloc (ag _) _).alloc eA _
 have a5:=H (HC _ B2);have cj:L1 (((w.alloc (Pp #[I U kd,I U nn,I U pp,MV tt,Z ia j ic,Z ka j kc,Z fa fl fc] 67)).alloc (Pp gG 67)).heap[w.heap.size]?=O (Pp #[I U kd,I U nn,I U pp,MV tt,Z ia j ic,Z ka j kc,Z fa fl fc] 67 (0,0))):=mA _ (bn _ _);have cs:L1 (((w.alloc (Pp #[I U kd,I U nn,I U pp,MV tt,Z ia j ic,Z ka j kc,Z fa fl fc] 67)).alloc (Pp gG 67)).heap[w.heap.size+1]?=O (Pp gG 67 (0,0))):=by have:=bn (w.alloc (Pp #[I U kd,I U nn,I U pp,MV tt,Z ia j ic,Z ka j kc,Z fa fl fc] 67)) (Pp gG 67);rw[aL]at this;exact this
 obtain⟨bo,hR⟩:∃bo,jg e=bo:=⟨_,rfl⟩;have HR:=H hR;unfold jg at HR;rw[hR];unfold gG at a5;cases e1:ii e with
 |none=>
  rw[e1]at a5 HR
  go_in
  go_wp2_with fail;apply a5.o.m;rintro V i ⟨b2,h2⟩;simp only[]at h2;subst h2;exact⟨rfl,.none_ (B2.t (b2.m eB)) HR.s⟩
 |some fs=>
  rw[e1]at a5 HR;simp only[aZ]at HR
  go_in
  go_wp2_with fail;apply a5.o.m;rintro V i ⟨b2,eb,rfl,a7⟩;obtain⟨B,C,rfl⟩:=jp a7;have BB:=H (B2.t (b2.m eB));have br:i.heap[w.heap.size]?=O (Pp #[I U kd,I U nn,I U pp,MV tt,Z ia j ic,Z ka j kc,Z fa fl fc] 67 (0,0)):=by have hh:=cj.o;unfold gG at hh;rw[b2.block _ eB];exact hh
  have dr:i.heap[w.heap.size+1]?=O (Pp gG 67 (0,0)):=by have hh:=cs.o;unfold gG at hh;rw[b2.block _ eA];exact hh
  have cp:=H a7;have ck:=H br;have b3:=H dr;have ek:∀cg:Obj,(i.alloc cg).cell? ⟨w.heap.size,5,N⟩=O (Z ka j kc):=λcg=>by rw[World.cell?_alloc_lt _ _ _ (ae br),iI br];rfl
  generalize dc:G fs=z at *;have co:=H dc;have cu:L1 (St i (Z B z C) (i.alloc (Pp #[I U 8,I U 0,I U 0,MV {data:=#[]},Z N 0 0,Z N 0 0,Z B z C] 67)) (Z N 0 0) [] (Z N 0 0) []):=
   ⟨(aq _ _).alloc (ag _) _,bn _ _,aX _ _ _ _,aX _ _ _ _⟩
  have d2:=ae b3;go_wp2;go_loopw [12] (λP wr=>∃(m:Nat) (f t:GI),m<=j/\P=I U m/\L1 (St i (Z B z C) wr f ((h_ ((e.keys.zip d).take m)).map Prod.snd) t ((h_ ((e.keys.zip d).take m)).map Prod.fst))) (λP _=>j-(intOf P).toNat)
  case atStart=>exact⟨0,_,_,aH _,rfl,cu⟩
  case round=>
   obtain⟨m,f,t,hm,rfl,r⟩:=hrel;obtain⟨ea,ec,bv⟩:=jp r.o.own;obtain⟨oa,oc,bw⟩:=jp r.o.ownk;rcases aV hm with hm|hm
   ·subst hm;have e1:(e.keys.zip d).take m=e.keys.zip d:=bD (by rw[fp];have:=F.o;omega);rw[e1]at r bv bw;have dw:=r.o.vb;have o:wr.heap[w.heap.size+1]?=O (Pp gG 67 (0,0)):=by rw[r.o.below.block _ d2];exact b3
    subst bv;subst bw;generalize eo:((h_ (e.keys.zip d)).map Prod.snd).length=bb at *;generalize ep:((h_ (e.keys.zip d)).map Prod.fst).length=bc at *;have cr:=H o;unfold gG at o;obtain⟨v0,v1,v2,v3,v4,v5,v6⟩:=qu dw;have r0:=mC o;have f0:=jR 0 o;have r1:=n5 o;have f1:=jR 1 o;have r2:=rZ o;have f2:=jR 2 o;have r3:=s_ o;have f3:=jR 3 o;have r4:=qZ o;have f4:=jR 4 o;have r5:=r_ o;have f5:=jR 5 o;have r6:=uy o;have f6:=jR 6 o;go_wp2;have hf:=pq cr (I U 8) (I U 0) (I U 0) (MV {data:=#[]}) (Z ea bb ec) (Z oa bc oc) (Z B z C);have ho:=lX wr (w.heap.size+1) (I U 8) (I U 0) (I U 0) (MV {data:=#[]}) (Z ea bb ec) (Z oa bc oc) (Z B z C);refine av (v:=N1 #[I U 8,I U 0,I U 0,MV {data:=#[]},Z ea bb ec,Z oa bc oc,Z B z C]) ?_ rfl ?_;·exact aE results259 _ _ (w.heap.size+1) 67 _ _ _ rfl hf aK rfl aG
    obtain⟨p1,p2,p3⟩:=qj (R:=λu s=>gF y k w u s) e.keys d e.items vy HV;have hT:=r.o;have J:=BB.o.t (hT.below.m BB.size);have a8:=λa h1 h2=>ho.block a h2 h1;refine .some_ ?_ HR.s ⟨Z ea bb ec,Z oa bc oc,Z B z C,(h_ (e.keys.zip d)).map Prod.snd,rfl,?_,?_,?_,?_,?_⟩;·exact⟨ho.os.t J.os,ho.tape.t J.tape,ho.output.t J.output,aA J.size ho.size,λa g=>(a8 a Y (aQ g J.size)).t (J.block a g)⟩
    ·show((h_ (e.keys.zip d)).map Prod.snd).length=((h_ (e.keys.zip e.items)).map Prod.snd).length;rw[aw,aw,p2]
    ·refine jz.keep (w:=wr) (P:=λa=>(y a/\a<w.heap.size)\/i.heap.size<=a) (jz.of hT.own (λa g=>P4 (by have:=(hT.own.lt a g).1;omega))) (λa g a2=>a8 a Y a2) |>.m (λa g _=>by rcases g with g|g;exact P3 g.1;exact P4 Y)
    ·intro P u s M hy;refine gF.m k (gF.keep k (gF.m (Q:=λa=>y a/\a<w.heap.size) k (p3 P u s M hy) (λa h1 h2=>⟨h1,h2⟩)) (λa g a2=>?_)) (λa g _=>P3 g.1);exact(a8 a Y (aQ g.2 J.size)).t (J.block a g.2)
    ·show jz _ _ 9 1 _ ((h_ (e.keys.zip e.items)).map Prod.fst).length (((h_ (e.keys.zip e.items)).map Prod.fst).map λb0=>MV (ge b0));rw[<-p1];refine jz.keep (w:=wr) (P:=λa=>(y a/\a<w.heap.size)\/i.heap.size<=a) (jz.of hT.ownk (λa g=>P4 (by have:=(hT.ownk.lt a g).1;omega))) (λa g a2=>a8 a Y a2) |>.m (λa g _=>by rcases g with g|g;exact P3 g.1;exact P4 Y)
    ·have a7:=wV cp (b:=hT.below);show jz _ _ 3 1 _ (G fs) _;rw[co.o];refine jz.keep (w:=wr) (P:=λa=>w.heap.size+2<=a) (jz.of a7 (λa g=>by have:=(a7.lt a g).1;simp at this;omega)) (λa g a2=>a8 a Y a2) |>.m (λa g _=>P4 Y)
   ·obtain⟨u,M⟩:∃u,d[m]?=O u:=⟨_,af vy⟩;obtain⟨s,hy⟩:∃s,e.items[m]?=O s:=⟨_,af vy⟩;obtain⟨R,cb⟩:∃R,e.keys[m]?=O R:=⟨_,af vy⟩;have c7:∀u∈d,(cellsOf u).length=7:=λu M=>by obtain⟨P,dn,dp⟩:=cK M;obtain⟨s,hy⟩:∃s,e.items[P]?=O s:=⟨_,af vy⟩;exact(HV P u s (by rw[af dn,dp]) hy).cells.1
    obtain⟨a,c,b8,ev,ee,em,K⟩:=Dp HI.1 c7 cO M;rw[F.o.1]at b8;cases b8;obtain⟨g2,c2,b9,b7⟩:=uL HK.1 (show(e.keys.map λb0=>MV (ge b0))[m]?=O (MV (ge R))by rw[aY,cb];rfl);rw[F.o.2.1]at b9;cases b9;have cv:=H (HV m u s M hy).cells;obtain⟨k0,k1,k2,k3,ja,jl,jc,a3,kl,a4,ao,a1,a0,E⟩:=gF.form (HV m u s M hy);have HZ:=H (sj (e.keys.zip d) m R u (by rw[eW];exact⟨cb,M⟩));have bi:=H (show(h_ ((e.keys.zip d).take m)).length<=j from aA (qi _) pt);have en:a<w.heap.size:=aC w _ (K 0 _ (by rw[E];rfl));have D:∀{ba:L2} {al:GI},w.cell? ba=O al->i.cell? ba=O al:=λ{ba al} h=>by rw[BB.o.cell (aC w ba h)];exact h
    have D0:L1 (i.cell? ⟨a,m*7,N⟩=O (I U k0)):=D (K 0 _ (by rw[E];rfl));have D1:=H (D (K 1 _ (by rw[E];rfl)));have D2:=H (D (K 2 _ (by rw[E];rfl)));have D3:=H (D (K 3 _ (by rw[E];rfl)));have D4:=H (D (K 4 _ (by rw[E];rfl)));have D5:=H (D (K 5 _ (by rw[E];rfl)));have D6:=H (D (K 6 _ (by rw[E];rfl)));have dk:wr.cell? ⟨g2,m,N⟩=O (MV (ge R)):=by rw[r.o.below.cell (by have:=aC i _ (D b7);exact this)];exact D b7
    subst E;generalize e7:h_ ((e.keys.zip d).take m)=zz at *;obtain⟨v,n⟩:∃v,ge R=v:=⟨_,rfl⟩;rw[n]at HZ dk;have ct:=H n;by_cases h1:v={data:=#[76,101,110,103,116,104]}
    ·have ad:kY v=PV:=by unfold kY;rw[aB h1];rfl
     have S:=H (HZ.t (by rw[ai ad,cF]));have c1:(v.toList==[76,101,110,103,116,104])=PV:=by rw[pY,bT];exact h1
     go_wp2;go_roundw
     case rel=>exact⟨m+1,_,_,Y,by first|rfl|(congr 1),by rw[S.o];exact r⟩
     case measure=>simp[intOf];omega
    ·have c1:(v.toList==[76,101,110,103,116,104])=P2:=by rw[pY,bk];exact h1
     by_cases h2:v={data:=#[70,105,108,116,101,114]}
     ·have ad:kY v=PV:=by unfold kY;rw[aB h2,Bool.or_true]
      have S:=H (HZ.t (by rw[ai ad,cF]));have c2:(v.toList==[70,105,108,116,101,114])=PV:=by rw[pY,bT];exact h2
      clear HZ h1 h2 ad;go_wp2;go_roundw
      case rel=>exact⟨m+1,_,_,Y,by first|rfl|(congr 1),by rw[S.o];exact r⟩
      case measure=>simp[intOf];omega
     ·have ad:kY v=P2:=by unfold kY;rw[ar h1,ar h2];rfl
      have S:=H (HZ.t (by rw[ah (by rw[ad];decide)]));have c2:(v.toList==[70,105,108,116,101,114])=P2:=by rw[pY,bk];exact h2
      have cw:L1 ((h_ ((e.keys.zip d).take (m+1))).map Prod.fst=zz.map Prod.fst++[R]):=by unfold Hid;rw[S.o,bK];rfl
      have cx:L1 ((h_ ((e.keys.zip d).take (m+1))).map Prod.snd=zz.map Prod.snd++[N1 #[I U k0,I U k1,I U k2,MV k3,Z ja jl jc,Z a3 kl a4,Z ao a1 a0]]):=by unfold Hid;rw[S.o,bK];rfl
      have eq:(zz.map Prod.fst).length<=j:=by rw[aw];exact bi
      have es:(zz.map Prod.snd).length<=j:=by rw[aw];exact bi
      clear S HZ bi;generalize zz.map Prod.fst=zf at *;generalize zz.map Prod.snd=zs at *;have q5:=r_ r.vb;have d3:=ae r.vb;subst bw;clear h1 h2 ad;generalize b6:G zf=c0 at *;have b1:=H b6;clear b6;go_wp2_with (at_builtin;refine a_ _ rfl (.tmp 24) (.tmp 26) 38 rfl (i.heap.size+1) 9 j0 (MV {data:=#[]}) 1 16 fy gi c3 c4 c5 rfl cO _ (G zf) _ rfl (r.o.ownk.alloc _) ⟨wr.heap.size,0,N⟩ 1 1 [MV v] rfl rfl ?hnews ?hone ?h63 ?hby ?hbs ?_)
      case hnews=>intro cf al hu;rw[pR,iI (bn wr _)];simpa using hu
      case hone=>intro al hu;simp at hu;subst hu;rfl
      case h63=>unfold maxLen;rw[b1.o];omega
      case hby=>rw[b1.o];omega
      case hbs=>simp;omega
      intro v6 w6 bz bs _;have a9:=H ((r.alloc _).key (by rw[ct.o];exact bz) bs);have bx:w6.heap[i.heap.size]?=O (Pp #[I U 8,I U 0,I U 0,MV {data:=#[]},f,Z oa c0 oc,Z B z C] 67 (0,0)):=by rw[bs.block _ eB (λV=>by have:=(r.o.ownk.lt _ V.s).1;omega),heap_alloc_old _ _ d3];exact r.vb
      have c8:=r_ bx;have db:=jR 5 bx;obtain⟨cy,c6,ds⟩:=jp bz;subst ds;clear bz bs bx;go_wp2_with fail;generalize w6.setCell ⟨i.heap.size,5,N⟩ (Z cy _ c6)=w7 at *;have cl:L1 (oB 10 i.heap.size i f (Array.replicate 11 P2) w7.drew):=⟨λ_=>iI a9.drew.vb,λa g=>a9.drew.below.block a g⟩;have ci:L1 (i.cell? ⟨w.heap.size,4,N⟩=O (Z (O ⟨a,0,N⟩) j ic)):=by unfold Hid;rw[iI ck.o];rfl
      clear c8 db q5 c1 c2 dk;refine om (oB 10 i.heap.size i f) aG ?_;intro l;have n:=cl.o;refine tj 0 l n λl n=>?_;refine tl 1 l n (λl n=>?_) (y:=λT hW=>by obtain⟨bm,bq,hL,a6⟩:=hW;have da:=a6.1 (by cases h9:bm.getD 10 P2 with|false=>rfl|true=>exact absurd (bq.came 2 10 aG h9) wl);go_simp;try(with_reducible rfl));refine tj 2 l n λl n=>?_;refine tl 3 l n (λl n=>?_) (y:=λT hW=>by obtain⟨bm,bq,hL,a6⟩:=hW;have da:=tZ ci (a6.2 _ p7);go_simp;try(with_reducible rfl));refine tj 4 l n λl n=>?_;refine tj 5 l n λl n=>?_;refine tl 6 l n (λl n=>?_) (y:=λT hW=>by obtain⟨bm,bq,hL,a6⟩:=hW;have ac:=a6.2 a Y;have e0:=tZ D0 ac;have e1:=tZ D1 ac;have e2:=tZ D2 ac;have e3:=tZ D3 ac;have e4:=tZ D4 ac;have e5:=tZ D5 ac;have e6:=tZ D6 ac;go_simp;try(with_reducible rfl));refine on 7 l λK' X=>?_;go_simp;have x:=H (a9.drew.alloc (Pp #[I U k0,I U k1,I U k2,MV k3,Z ja jl jc,Z a3 kl a4,Z ao a1 a0] 67));have ex:=ae a9.vb;have cn:L1 (oB 10 i.heap.size i f #[PV,PV,PV,PV,PV,PV,PV,PV,P2,P2,P2] (w7.drew.alloc (Pp #[I U k0,I U k1,I U k2,MV k3,Z ja jl jc,Z a3 kl a4,Z ao a1 a0] 67))):=⟨λ_=>iI x.vb,λa g=>x.below.block a g⟩;refine X _ _ cn (λW aa=>?_);have l:=W;have n:=aa
      (try simp only[jd])
      refine on 8 l λK' X=>?_;refine Bz rfl (.tmp 30) (.tmp 36) 29 rfl (i.heap.size+1) 67 i0 _ 7 112 dx hi d4 d5 d6 rfl cO f (G zs) (zs.flatMap cellsOf) (by rw[bv];rfl) x.o.own ⟨w7.heap.size,0,N⟩ 1 1 [I U k0,I U k1,I U k2,MV k3,Z ja jl jc,Z a3 kl a4,Z ao a1 a0] rfl rfl ?hnews ?hone ?h63 ?hby ?hbs ?_
      case hnews=>intro cf al hu;rw[pR];show(w7.alloc (Pp #[I U k0,I U k1,I U k2,MV k3,Z ja jl jc,Z a3 kl a4,Z ao a1 a0] 67)).cell? ⟨w7.heap.size,cf,N⟩=O al;rw[iI (bn w7 _)];simpa using hu
      case hone=>exact cv.2
      case h63=>unfold maxLen;omega
      case hby=>omega
      case hbs=>simp;omega
      intro v9 w9 ch bt ey;have H9:L1 (St i (Z B z C) (w9.setCell ⟨i.heap.size,4,N⟩ v9) v9 (zs++[N1 #[I U k0,I U k1,I U k2,MV k3,Z ja jl jc,Z a3 kl a4,Z ao a1 a0]]) _ (zf++[R])):=x.o.item ch bt;have ce:=(bt.block i.heap.size (ae x.vb) (λV=>by have:=(x.o.own.lt _ V.s).1;omega)).t x.vb;have b4:=qZ ce;have el:=jR 4 ce;have bf:=H (λa g=>by exact(bt.block a (Nat.lt_trans g (ae x.vb)) (λV=>by have:=(x.o.own.lt _ V.s).1;omega)).t (x.below.block a g))
      obtain⟨d7,c9,dv⟩:=jp ch;subst dv;refine X _ _ ⟨λ_=>b4,bf⟩ (λW aa=>?_);have l:=W;have n:=aa
      (try simp only[jd])
      refine on 9 l λK' X=>?_;go_simp;refine X _ _ ⟨λ_=>b4,bf⟩ (λW aa=>?_);have l:=W;have n:=aa
      (try simp only[jd])
      refine on 10 l λK' X=>?_;go_simp;refine X _ _ ⟨λh9=>(by cases h9),λa g=>by rw[kW _ (by show a≠i.heap.size;omega)];exact bf a g⟩ (λW aa=>?_);have l:=W;have n:=aa
      (try simp only[jd])
      refine oh aG ?_ _;go_wp2;go_roundw
      case rel=>exact⟨m+1,_,_,Y,by first|rfl|(congr 1),by rw[cw.o,cx.o];exact H9⟩
      case measure=>simp[intOf];omega
end
def uv{m:Type}{b:List Nat->Option (m×List Nat)}(j:∀r l a,b r=O (l,a)->G a+1<=G r):∀(d:Nat) (r a:List Nat) (c:List m),jV b d r=O (c,a)->G c+G a<=G r
 |0,r,a,c,h=>by cases h
 |d+1,r,a,c,h=>by
  simp only[jV]at h;have p:=iz r;cases f:f_ [93] (f9 r)with
  |some s=>rw[f]at h;simp at h;have:=(gD f).1;rw[h.1,<-h.2];simp;omega
  |none=>
   rw[f]at h;simp only[]at h;cases g:b (f9 r)with
   |none=>rw[g]at h;cases h
   |some o=>
    obtain⟨l,k⟩:=o;rw[g]at h;simp only[]at h;cases e:jV b d k with
    |none=>rw[e]at h;cases h
    |some i=>obtain⟨i,n⟩:=i;rw[e]at h;simp at h;have q:=uv j d k n i e;have:=j _ _ _ g;obtain⟨h1,h2⟩:=h;subst h1;subst h2;simp only[aj];omega
def uu{l:Type}{c:List Nat->Option (l×List Nat)}{n:l->Prop}{m:Nat}(p:∀r e a,c r=O (e,a)->G a<=G r)(o:∀r e a,c r=O (e,a)->G r<=m->n e):∀(i:Nat) (r a:List Nat) (g:List l),jV c i r=O (g,a)->G r<=m->∀b∈g,n b
 |0,r,a,g,h,_=>by cases h
 |i+1,r,a,g,h,v=>by
  simp only[jV]at h;have w:=iz r;cases q:f_ [93] (f9 r)with
  |some x=>rw[q]at h;simp at h;rw[h.1];intro b d;cases d
  |none=>
   rw[q]at h;simp only[]at h;cases f:c (f9 r)with
   |none=>rw[f]at h;cases h
   |some b=>
    obtain⟨e,s⟩:=b;rw[f]at h;simp only[]at h;cases j:jV c i s with
    |none=>rw[j]at h;cases h
    |some k=>
     obtain⟨k,u⟩:=k;rw[j]at h;simp at h;have h3:=p _ _ _ f;have t:=uu p o i s u k j Y;have:=o _ _ _ f Y;obtain⟨h1,h2⟩:=h;subst h1;intro b d;rcases cQ.1 d with rfl|d;·exact this
     ·exact t b d
def uB{p:Type}{c:List Nat->Option (p×List Nat)}{s:p->Prop}{q:Nat}(u:∀r e a,c r=O (e,a)->G a<=G r)(t:∀r e a,c r=O (e,a)->G r<=q->s e):∀(i:Nat) (r a:List Nat) (g:List (List Nat)×List p),js c i r=O (g,a)->G r<=q->∀b∈g.2,s b
 |0,r,a,g,h,_=>by cases h
 |i+1,r,a,g,h,B=>by
  simp only[js]at h;have C:=iz r;cases v:f_ [62,62] (f9 r)with
  |some n=>rw[v]at h;simp at h;rw[<-h.1];intro b d;cases d
  |none=>
   rw[v]at h;simp only[]at h;cases j:f_ [47] (f9 r)with
   |none=>rw[j]at h;cases h
   |some n=>
    rw[j]at h;simp only[]at h;have D:=(gD j).1;cases m:j7 n with
    |none=>rw[m]at h;cases h
    |some A=>
     obtain⟨k,w⟩:=A;rw[m]at h;simp only[]at h;have E:=jN n 0 0 k w m;cases f:c w with
     |none=>rw[f]at h;cases h
     |some b=>
      obtain⟨e,x⟩:=b;rw[f]at h;simp only[]at h;cases l:js c i x with
      |none=>rw[l]at h;cases h
      |some o=>
       obtain⟨o,z⟩:=o;rw[l]at h;simp at h;have h3:=u _ _ _ f;have y:=uB u t i x z o l Y;have:=t _ _ _ f Y;obtain⟨h1,h2⟩:=h;subst h1;intro b d;rcases cQ.1 d with rfl|d;·exact this
       ·exact y b d
def mL(b:Nat):{k:Nat}->VT k->Prop
 |0,_=>True
 |_+1,a=>(gk.items a).length<=b/\(gk.keys a).length<=b/\(gk.kind a=7->(gk.keys a).length=(gk.items a).length)/\gk.kind a≠8/\(gk.filters a)=[]/\∀c∈gk.items a,mL b c
def mL.leaf(b k a:Nat)(d:Int)(e:Nat)(f:List Nat)(h:a≠8):mL b (k:=k+1) (jj (VT k) a d e f):=
 ⟨aH _,aH _,λ_=>rfl,h,rfl,λg c=>by cases c⟩
def mL.few:∀{k:Nat} {a:VT k},mL 200000 a->A6 a
 |0,_,_=>trivial
 |k+1,a,h=>⟨h.1,h.2.1,λc b=>mL.few (h.2.2.2.2.2 c b)⟩
def l_{d:Nat}:∀{k:Nat} {r a:List Nat} {f:VT k},gj k r=O (f,a)->G r<=d->mL d f
 |0,r,a,f,h,_=>by cases h
 |k+1,r,a,f,h,w=>by
  have q:∀r c a,gj k r=O (c,a)->G a+1<=G r:=λr c a h=>iQ h;have p:∀r c a,gj k r=O (c,a)->G a<=G r:=λr c a h=>by have:=iQ h;omega
  have o:∀r c a,gj k r=O (c,a)->G r<=d->mL d c:=λr c a h s=>l_ h s;simp only[gj]at h;have x:=iz r;cases h1:f_ [91] (f9 r)with
  |some b=>
   rw[h1]at h;simp only[]at h;have t:=(gD h1).1;cases h2:jV (gj k) (G b+1) b with
   |none=>rw[h2]at h;cases h
   |some e=>rw[h2]at h;obtain⟨j,v⟩:=e;have g:=uv q _ _ _ _ h2;have i:=uu p o _ _ _ _ h2 Y;cases h;exact⟨by show (G j)<=d;omega,aH _,λh=>(by cases h),by show 6≠8;decide,rfl,i⟩
  |none=>
   rw[h1]at h;simp only[]at h;cases h3:f_ [60,60] (f9 r)with
   |some b=>
    rw[h3]at h;simp only[]at h;have t:=(gD h3).1;cases h2:js (gj k) (G b+1) b with
    |none=>rw[h2]at h;cases h
    |some e=>rw[h2]at h;obtain⟨⟨u,j⟩,v⟩:=e;have g:=mW q _ _ _ _ h2;have i:=uB p o _ _ _ _ h2 Y;simp only[]at g;cases h;exact⟨by show (G j)<=d;omega,by show (G u)<=d;omega,λ_=>g.1,by show 7≠8;decide,rfl,i⟩
   |none=>
    rw[h3]at h;simp only[]at h;cases l:f_ [60] (f9 r)with
    |some b=>
     rw[l]at h;simp only[]at h;cases h2:jQ b with
     |none=>rw[h2]at h;cases h
     |some e=>rw[h2]at h;cases h;exact mL.leaf _ _ _ _ _ _ cO
    |none=>
     rw[l]at h;simp only[]at h;cases m:f_ [40] (f9 r)with
     |some b=>
      rw[m]at h;simp only[]at h;cases h2:j3 b with
      |none=>rw[h2]at h;cases h
      |some e=>rw[h2]at h;cases h;exact mL.leaf _ _ _ _ _ _ cO
     |none=>
      rw[m]at h;simp only[]at h;cases n:f_ [47] (f9 r)with
      |some b=>
       rw[n]at h;simp only[]at h;cases h2:j7 b with
       |none=>rw[h2]at h;cases h
       |some e=>rw[h2]at h;cases h;exact mL.leaf _ _ _ _ _ _ cO
      |none=>
       rw[n]at h;simp only[]at h;unfold i7 at h;split at h;·cases h;exact mL.leaf _ _ _ _ _ _ cO
       ·split at h;·cases h;exact mL.leaf _ _ _ _ _ _ cO
        ·split at h;·cases h;exact mL.leaf _ _ _ _ _ _ cO
         ·split at h
          ·split at h;·cases h;exact mL.leaf _ _ _ _ _ _ cO
           ·cases h;exact mL.leaf _ _ _ _ _ _ cO
          ·split at h;·cases h;exact mL.leaf _ _ _ _ _ _ cO
           ·cases h
def ju{k:Nat}(c:gk (VT k))(r:List Nat):Option ((gk (VT k)×List Nat)×List Nat):=
 match(f_ [10] r).or (f_ [13,10] r)with
 |none=>N
 |some b=>match itemOf {data:=#[76,101,110,103,116,104]} 2 c with
  |none=>N
  |some a=>if 0<=pC a/\pC a<=(G b:Int)then
    match f_ [10] (b.drop (pC a).toNat)with
    |none=>N
    |some d=>if d.takeWhile pB=[101,110,100,115,116,114,101,97,109]then
      match jg c with
      |none=>N
      |some e=>O ((e,b.take (pC a).toNat),d.dropWhile pB)
     else N
   else N
def iY(r:List Nat):Option ((VT 12×List Nat)×List Nat):=match gj 12 r with
 |none=>N
 |some (V,q)=>if gk.kind (α:=VT 11) V=7 then
   match gg [115,116,114,101,97,109] q with
   |some a=>ju (k:=11) V a
   |none=>O ((V,[]),q)
  else O ((V,[]),q)
def jS(a:Nat)(r:List Nat):Option ((VT 12×List Nat)×List Nat):=
 match gg (gE a) r with
 |none=>N
 |some b=>match gg [48] b with
  |none=>N
  |some c=>match gg [111,98,106] c with
   |none=>N
   |some d=>match iY d with
    |none=>N
    |some (g,e)=>match gg [101,110,100,111,98,106] e with
     |none=>N
     |some f=>O (g,f)
def pM{k:Nat}{b:gk (VT k)}{r a:List Nat}{f:gk (VT k)×List Nat}(h:ju b r=O (f,a)):G a<=G r:=by
 unfold ju at h;split at h;·cases h
 ·next d e1=>
  have h1:G d<=G r:=by
   cases e2:f_ [10] r with
   |some g=>rw[e2]at e1;cases e1;have:=(gD e2).1;omega
   |none=>rw[e2]at e1;have:=(gD (s:=[13,10]) (by simpa using e1)).1;omega
  split at h;·cases h
  ·split at h
   ·split at h;·cases h
    ·next e c=>
     have h3:=(gD c).1;rw[au]at h3;split at h
     ·split at h;·cases h
      ·cases h;have:=lx (p:=pB) e;omega
     ·cases h
   ·cases h
def pK{r q:List Nat}{x:VT 12×List Nat}(h:iY r=O (x,q)):G q+1<=G r:=by
 unfold iY at h;split at h;·cases h
 ·next a b e1=>
  have h1:=iQ e1;split at h
  ·split at h
   ·next c e2=>have h2:=gQ e2;have h3:=pM h;omega
   ·cases h;exact h1
  ·cases h;exact h1
def nU{d:Nat}{r a:List Nat}{e:VT 12×List Nat}(h:jS d r=O (e,a)):G a+1<=G r:=by
 unfold jS at h;split at h;·cases h
 ·next f e1=>
  split at h;·cases h
  ·next g e2=>
   split at h;·cases h
   ·next i b=>
    split at h;·cases h
    ·next l j e4=>
     split at h;·cases h
     ·next k c=>cases h;have:=gQ e1;have:=gQ e2;have:=gQ b;have:=pK e4;have:=gQ c;omega
section
variable{B bs cap:Nat}{ao:Option L2}{data:List Nat}{a d f:GI}{w w':Gr}{q r:List Nat}
def qI.only{l:List Nat}{v:GI}(h:qI w B l v)(k:gB bs w w')(n:B<=bs)(o:B<=w.heap.size):qI w' B l v:=by obtain⟨b,m,c,e,h1,h2,h3,g⟩:=h;refine⟨b,m,c,e,h1,h2,h3,λi j=>?_⟩;exact tZ (g i j) (k.block _ (by show b<_;omega) (by show b≠bs;omega))
def gF.only{P:Nat->Prop}{k:Nat}{v:GI}{V:VT k}(h:gF P k w v V)(b:∀g,P g->g≠bs)(i:gB bs w w'):gF P k w' v V:=
 gF.keep k h (λg c e=>i.block g e (b g c))
def DC(B:Nat)(e:Nat->Prop)(k:Nat)(w:Gr)(c:gk (VT k)×List Nat)(g:GI):Prop:=
 ∃b pv,g=OW #[b,pv]/\gF e (k+1) w b c.1/\qI w B c.2 pv
def qD{e:Func}{i k:Tmp}{j:TypeId}(h:e.results=#[.cell i j,.tmp k])(b:Array GI)(w:Gr)(g:Nat)(c:Array GI)
  (m:b.getD i undef=M2 (O ⟨g,0,N⟩)) (l:(loadVar j ⟨g,0,N⟩).run Qe w=.ok (N1 c) w):(results e b).run Qe w=.ok (OW #[N1 c,b.getD k undef]) w:=by
 rw[results_cell_tmp h,m];simp[asAddr,l]
def GU{D:Nat->Prop}{k:Nat}{bm:GI}{u:gk (VT k)}(h:Sc B bs ao cap data a d f w r)(hv:gF D (k+1) w bm u)(hP:∀e,D e->e≠bs)(hl:u.keys.length=u.items.length)(cl:A6 (k:=k+1) u):K8 Qe 193 #[M2 (O ⟨bs,0,N⟩),bm] w (kB B bs ao cap data a d f (DC B (λe=>D e\/w.heap.size<=e) k) (ju u r) w):=by
 obtain⟨k0,k1,k2,k3,ja,jl,jc,bf,kl,bi,bb,fl,bc,da⟩:=gF.form hv;have db:=h.env;have dc:=h.lt;have A:=H h.hb;obtain⟨c4,hR⟩:∃c4,ju u r=c4:=⟨_,rfl⟩;rw[hR];have c:=H hR;unfold ju at c;have HI:L1 (∀E:Gr,gB bs w E->K8 Qe 198 #[bm,MV {data:=#[76,101,110,103,116,104]},I U 2] E (pO D k (itemOf {data:=#[76,101,110,103,116,104]} 2 u) E)):=
  λE cu=>Fr (gF.only hv hP cu) hl cl.1 {data:=#[76,101,110,103,116,104]} 2
 have ca:L1 (∀E:Gr,gB bs w E->K8 Qe 259 #[bm] E (qw (λe=>(D e/\e<w.heap.size)\/E.heap.size<=e) (k+1) (jg u) E)):=
  λE cu=>OO (gF.only (gF.m (Q:=λe=>D e/\e<w.heap.size) (k+1) hv (λe h1 h2=>⟨h1,h2⟩)) (λe l=>hP e l.1) cu) hl cl
 subst da;have b2:LT w.heap.size w ((w.alloc (Pp #[I U k0,I U k1,I U k2,MV k3,Z ja jl jc,Z bf kl bi,Z bb fl bc] 67)).alloc (Pp gG 67)):=((aq _ _).alloc (ag _) _).alloc eA _;have ck:((w.alloc (Pp #[I U k0,I U k1,I U k2,MV k3,Z ja jl jc,Z bf kl bi,Z bb fl bc] 67)).alloc (Pp gG 67)).heap[w.heap.size]?=O (Pp #[I U k0,I U k1,I U k2,MV k3,Z ja jl jc,Z bf kl bi,Z bb fl bc] 67 (0,0)):=mA _ (bn _ _);have g:((w.alloc (Pp #[I U k0,I U k1,I U k2,MV k3,Z ja jl jc,Z bf kl bi,Z bb fl bc] 67)).alloc (Pp gG 67)).heap[w.heap.size+1]?=O (Pp gG 67 (0,0)):=by have:=bn (w.alloc (Pp #[I U k0,I U k1,I U k2,MV k3,Z ja jl jc,Z bf kl bi,Z bb fl bc] 67)) (Pp gG 67);simpa using this
 obtain⟨w2,cp⟩:∃w2,(w.alloc (Pp #[I U k0,I U k1,I U k2,MV k3,Z ja jl jc,Z bf kl bi,Z bb fl bc] 67)).alloc (Pp gG 67)=w2:=⟨_,rfl⟩;have cr:=cp;unfold gG at cr;rw[cp]at b2 ck g;have H1:=H (vt (h.other b2) {data:=#[10]} cO cO);rw[show bl {data:=#[10]}=[10]from rfl]at H1;have KW:=H (gB.of_below (b:=bs) b2);have b1:=H ck;have b6:=H g;have c3:=H cr;clear h hv hP hl cl hR b2 ck g cp cr;cases e1:f_ [10] r with
 |some q=>
  rw[e1]at H1 c;simp only[Option.some_or]at c
  go_in
  go_wp2_with fail;rw[c3.o];apply H1.o.m;rintro j w3 ⟨rfl,h1,o1⟩;have b7:=H (show Sc B bs ao cap data a d f w3 q from h1);have bo:=b1;have bq:=b6;have K2:=KW;have V:=H ((o1.block _ (ae bo) Y).t bo);have a7:=H ((o1.block _ (ae bq) Y).t bq);have K:=H (K2.t o1);go_wp2_with fail;apply(oe _).m;rintro j w' ⟨rfl,i⟩;have i:=i.s;subst i;have b5:=H (HI w3 K);obtain⟨d0,d1,d2,d3,d4,d5,d6⟩:=qu V;go_wp2_with fail;apply b5.o.m;rintro j w4 ⟨b4,y⟩;cases e4:itemOf {data:=#[76,101,110,103,116,104]} 2 u with
  |none=>rw[e4]at y c;simp only[]at y;subst y;exact⟨rfl,.none_ c.s (K.t (.of_below b4))⟩
  |some aa=>
   rw[e4]at y c;obtain⟨S,rfl,ct⟩:=y;simp only[]at c;obtain⟨py,ya,yl,yc,cw,c1,cy,cx,c2,c0,rfl⟩:=gF.form2 ct;have o4:gB bs w3 w4:=.of_below b4;have a4:=H ((o4.block _ (ae V) Y).t V);have a8:=H ((o4.block _ (ae a7) Y).t a7);have K4:=H (K.t o4);have bt:=H (b7.o.other b4);generalize ge (tO aa)=ty;generalize (kO aa:Int)=ky;generalize c9:pC aa=s at *;have c8:=EC (I U ky) (I U py) (MV ty) (Z ya yl yc) (Z cw c1 cy) (Z cx c2 c0) s;by_cases hn:0<=s/\s<=(G q:Int)
   ·rw[ai hn]at c;obtain⟨p,rfl⟩:∃p:Nat,s=(p:Int):=⟨s.toNat,Y⟩;have co:p<=G q:=Y;rw[Int.toNat_natCast]at c;have HT:=H (AB bt p co);go_wp2_with fail;apply HT.o.m;rintro j w5 ⟨pv,rfl,bw,h5,o5⟩;have a5:=H ((o5.block _ (ae a4) Y).t a4);have a9:=H ((o5.block _ (ae a8) Y).t a8);have K5:=H (K4.t o5);have cb:=H bw;have v:=H (vt h5 {data:=#[10]} cO cO);rw[show bl {data:=#[10]}=[10]from rfl]at v;have ch:=h5.env;obtain⟨cg,cv,c5,rfl,_⟩:=bw;generalize (q.take p).length=ln at *;cases e6:f_ [10] (q.drop p)with
    |none=>rw[e6]at v c;go_wp2_with fail;apply v.o.m;rintro j w6 ⟨rfl,M,t⟩;have L:=H (K5.t t);go_wp2_with fail;apply(nZ _).m;rintro j w' ⟨rfl,i⟩;have i:=i.s;subst i;exact⟨rfl,.none_ c.s L⟩
    |some z=>
     rw[e6]at v c;simp only[]at c;go_wp2_with fail;apply v.o.m;rintro j w6 ⟨rfl,M,t⟩;have a6:=H ((t.block _ (ae a5) Y).t a5);have ba:=H ((t.block _ (ae a9) Y).t a9);have L:=H (K5.t t);have cc:=H (cb.o.only t A ch);have T:=H (GY (show Sc B bs ao cap data a d f w6 z from M));have ci:=M.env;have b3:=H (λS hx=>(show Sc B bs ao cap data a d f w6 z from M).bytes S hx);by_cases J:z.takeWhile pB=[101,110,100,115,116,114,101,97,109]
     ·rw[ai J]at c;rw[J,show ge [101,110,100,115,116,114,101,97,109]={data:=#[101,110,100,115,116,114,101,97,109]}from rfl]at T;go_wp2_with fail;apply T.o.m;rintro j R ⟨rfl,X,n⟩;have bx:=H ((n.block _ (ae a6) Y).t a6);have W:=H ((n.block _ (ae ba) Y).t ba);have x:=H (L.t n);have b0:=H (cc.o.only n A ci);have bz:=H X;have cj:=X.env;go_wp2_with fail;apply(oe _).m;rintro j w' ⟨rfl,i⟩;have i:=i.s;subst i;obtain⟨d0,d1,d2,d3,d4,d5,d6⟩:=qu bx;have C:=H (ca R x);clear ca;cases e8:jg u with
      |none=>rw[e8]at C c;go_wp2_with fail;apply C.o.m;rintro j w8 ⟨F,h8⟩;simp only[]at h8;subst h8;exact⟨rfl,.none_ c.s (x.t (.of_below F))⟩
      |some cf=>
       rw[e8]at C c;simp only[]at c;go_wp2_with fail;apply C.o.m;rintro j w8 ⟨F,sv,rfl,bd⟩;have o8:gB bs R w8:=.of_below F;have br:=H ((o8.block _ (ae W) Y).t W);have m:=H (x.t o8);have cd:=H (b0.o.only o8 A cj);have b9:=H (bz.o.other F);have ce:=H bd;have c7:=ae W;obtain⟨z0,z1,z2,z3,za,zl,zc,ac,a2,a0,al,a3,a1,rfl⟩:=gF.form bd;have g:=br.o;unfold gG at g;have r0:=mC g;have f0:=jR 0 g;have r1:=n5 g;have f1:=jR 1 g;have r2:=rZ g;have f2:=jR 2 g;have r3:=s_ g;have f3:=jR 3 g;have r4:=qZ g;have f4:=jR 4 g;have r5:=r_ g;have f5:=jR 5 g;have r6:=uy g;have f6:=jR 6 g;clear bd F o8 C b0 bz d0 d1 d2 d3 d4 d5 d6 g e8 bx a6 a5 a4 V W ba a9 a8 a7;go_wp2;have hf:=pq br (I U z0) (I U z1) (I U z2) (MV z3) (Z za zl zc) (Z ac a2 a0) (Z al a3 a1);have o:=lX w8 (w.heap.size+1) (I U z0) (I U z1) (I U z2) (MV z3) (Z za zl zc) (Z ac a2 a0) (Z al a3 a1);refine av (v:=OW #[N1 #[I U z0,I U z1,I U z2,MV z3,Z za zl zc,Z ac a2 a0,Z al a3 a1],Z (O ⟨cg,cv,N⟩) ln c5]) ?_ rfl ?_;·exact qD results193 _ _ (w.heap.size+1) _ rfl (run_loadVar_row _ (w.heap.size+1) 67 67 _ _ _ hf aK rfl aG)
       have P:=λe h1 h2=>o.block e h2 h1;refine .some_ c.s ⟨_,_,rfl,?_,?_⟩ ?_ ?_;·exact gF.m (k+1) (gF.keep (P:=λe=>(D e/\e<w.heap.size)\/R.heap.size<=e) (k+1) ce (λe l cn=>P e (by rcases l with l|l<;>omega) cn)) (λe l _=>by rcases l with l|l;exact P3 l.1;exact P4 Y)
       ·exact cd.o.only o (by have:=A.o;omega) (by have:=m.o.size;omega)
       ·have h:=b9.o;have bv:=m.o.size;have c6:=A.o;exact⟨h.hb,by rw[P _ Y Y];exact h.blk,h.dat.other (λe l=>P e Y Y),h.byt,h.len,h.lc,h.le,h.suf,h.ad⟩
       ·have bv:=m.o.size;exact⟨o.os.t m.o.os,o.tape.t m.tape,o.output.t m.o.output,aA bv o.size,λe h1 h2=>(P e Y Y).t (m.block e h1 h2)⟩
     ·rw[ah J]at c;have t1:((ge (z.takeWhile pB)).toList==[101,110,100,115,116,114,101,97,109])=P2:=by rw[pY,bk];intro j;refine J (Bx (λS hx=>b3 S ((dG pB).subset hx)) cO (j.t rfl))
      generalize ge (z.takeWhile pB)=cf at *;clear J;go_wp2_with fail;apply T.o.m;rintro j R ⟨rfl,X,n⟩;have x:=H (L.t n);clear X n T;go_wp2_with fail;apply(nZ _).m;rintro j w' ⟨rfl,i⟩;have i:=i.s;subst i;exact⟨rfl,.none_ c.s x⟩
   ·rw[ah hn]at c;have HT:=H (GZ bt s Y);go_wp2_with fail;apply HT.o.m;rintro j w5 ⟨rfl,m5,cs⟩;exact⟨rfl,.none_ c.s (K4.t (.of_below (by rw[cs];exact u_ _ _)))⟩
 |none=>
  rw[e1]at H1 c;simp only[Option.none_or]at c
  go_in
  go_wp2_with fail;rw[c3.o];apply H1.o.m;rintro j w9 ⟨rfl,h1,o9⟩;have H2:=H (vt (show Sc B bs ao cap data a d f w9 r from h1) {data:=#[13,10]} cO cO);rw[show bl {data:=#[13,10]}=[13,10]from rfl]at H2;have K9:=H (KW.t o9);have bo:=H ((o9.block _ (ae b1) Y).t b1);have bq:=H ((o9.block _ (ae b6) Y).t b6);cases e2:f_ [13,10] r with
  |none=>rw[e2]at H2 c;go_wp2_with fail;apply H2.o.m;rintro j w3 ⟨rfl,h3,o3⟩;have K:=H (K9.t o3);go_wp2_with fail;apply(nZ _).m;rintro j w' ⟨rfl,i⟩;have i:=i.s;subst i;exact⟨rfl,.none_ c.s K⟩
  |some q=>
   rw[e2]at H2 c;simp only[]at c;go_wp2_with fail;apply H2.o.m;rintro j w3 ⟨rfl,h3,o1⟩;have b7:=H (show Sc B bs ao cap data a d f w3 q from h3);have K2:=K9;have V:=H ((o1.block _ (ae bo) Y).t bo);have a7:=H ((o1.block _ (ae bq) Y).t bq);have K:=H (K2.t o1);go_wp2_with fail;apply(oe _).m;rintro j w' ⟨rfl,i⟩;have i:=i.s;subst i;have b5:=H (HI w3 K);obtain⟨d0,d1,d2,d3,d4,d5,d6⟩:=qu V;go_wp2_with fail;apply b5.o.m;rintro j w4 ⟨b4,y⟩;cases e4:itemOf {data:=#[76,101,110,103,116,104]} 2 u with
   |none=>rw[e4]at y c;simp only[]at y;subst y;exact⟨rfl,.none_ c.s (K.t (.of_below b4))⟩
   |some aa=>
    rw[e4]at y c;obtain⟨S,rfl,ct⟩:=y;simp only[]at c;obtain⟨py,ya,yl,yc,cw,c1,cy,cx,c2,c0,rfl⟩:=gF.form2 ct;have o4:gB bs w3 w4:=.of_below b4;have a4:=H ((o4.block _ (ae V) Y).t V);have a8:=H ((o4.block _ (ae a7) Y).t a7);have K4:=H (K.t o4);have bt:=H (b7.o.other b4);generalize ge (tO aa)=ty;generalize (kO aa:Int)=ky;generalize c9:pC aa=s at *;have c8:=EC (I U ky) (I U py) (MV ty) (Z ya yl yc) (Z cw c1 cy) (Z cx c2 c0) s;by_cases hn:0<=s/\s<=(G q:Int)
    ·rw[ai hn]at c;obtain⟨p,rfl⟩:∃p:Nat,s=(p:Int):=⟨s.toNat,Y⟩;have co:p<=G q:=Y;rw[Int.toNat_natCast]at c;have HT:=H (AB bt p co);go_wp2_with fail;apply HT.o.m;rintro j w5 ⟨pv,rfl,bw,h5,o5⟩;have a5:=H ((o5.block _ (ae a4) Y).t a4);have a9:=H ((o5.block _ (ae a8) Y).t a8);have K5:=H (K4.t o5);have cb:=H bw;have v:=H (vt h5 {data:=#[10]} cO cO);rw[show bl {data:=#[10]}=[10]from rfl]at v;have ch:=h5.env;obtain⟨cg,cv,c5,rfl,_⟩:=bw;generalize (q.take p).length=ln at *;cases e6:f_ [10] (q.drop p)with
     |none=>rw[e6]at v c;go_wp2_with fail;apply v.o.m;rintro j w6 ⟨rfl,M,t⟩;have L:=H (K5.t t);go_wp2_with fail;apply(nZ _).m;rintro j w' ⟨rfl,i⟩;have i:=i.s;subst i;exact⟨rfl,.none_ c.s L⟩
     |some z=>
      rw[e6]at v c;simp only[]at c;go_wp2_with fail;apply v.o.m;rintro j w6 ⟨rfl,M,t⟩;have a6:=H ((t.block _ (ae a5) Y).t a5);have ba:=H ((t.block _ (ae a9) Y).t a9);have L:=H (K5.t t);have cc:=H (cb.o.only t A ch);have T:=H (GY (show Sc B bs ao cap data a d f w6 z from M));have ci:=M.env;have b3:=H (λS hx=>(show Sc B bs ao cap data a d f w6 z from M).bytes S hx);by_cases J:z.takeWhile pB=[101,110,100,115,116,114,101,97,109]
      ·rw[ai J]at c;rw[J,show ge [101,110,100,115,116,114,101,97,109]={data:=#[101,110,100,115,116,114,101,97,109]}from rfl]at T;go_wp2_with fail;apply T.o.m;rintro j R ⟨rfl,X,n⟩;have bx:=H ((n.block _ (ae a6) Y).t a6);have W:=H ((n.block _ (ae ba) Y).t ba);have x:=H (L.t n);have b0:=H (cc.o.only n A ci);have bz:=H X;have cj:=X.env;go_wp2_with fail;apply(oe _).m;rintro j w' ⟨rfl,i⟩;have i:=i.s;subst i;obtain⟨d0,d1,d2,d3,d4,d5,d6⟩:=qu bx;have C:=H (ca R x);cases e8:jg u with
       |none=>rw[e8]at C c;go_wp2_with fail;apply C.o.m;rintro j w8 ⟨F,h8⟩;simp only[]at h8;subst h8;exact⟨rfl,.none_ c.s (x.t (.of_below F))⟩
       |some cf=>
        rw[e8]at C c;simp only[]at c;go_wp2_with fail;apply C.o.m;rintro j w8 ⟨F,sv,rfl,bd⟩;have o8:gB bs R w8:=.of_below F;have br:=H ((o8.block _ (ae W) Y).t W);have m:=H (x.t o8);have cd:=H (b0.o.only o8 A cj);have b9:=H (bz.o.other F);have ce:=H bd;have c7:=ae W;obtain⟨z0,z1,z2,z3,za,zl,zc,ac,a2,a0,al,a3,a1,rfl⟩:=gF.form bd;have g:=br.o;unfold gG at g;have r0:=mC g;have f0:=jR 0 g;have r1:=n5 g;have f1:=jR 1 g;have r2:=rZ g;have f2:=jR 2 g;have r3:=s_ g;have f3:=jR 3 g;have r4:=qZ g;have f4:=jR 4 g;have r5:=r_ g;have f5:=jR 5 g;have r6:=uy g;have f6:=jR 6 g;go_wp2;have hf:=pq br (I U z0) (I U z1) (I U z2) (MV z3) (Z za zl zc) (Z ac a2 a0) (Z al a3 a1);have o:=lX w8 (w.heap.size+1) (I U z0) (I U z1) (I U z2) (MV z3) (Z za zl zc) (Z ac a2 a0) (Z al a3 a1);refine av (v:=OW #[N1 #[I U z0,I U z1,I U z2,MV z3,Z za zl zc,Z ac a2 a0,Z al a3 a1],Z (O ⟨cg,cv,N⟩) ln c5]) ?_ rfl ?_;·exact qD results193 _ _ (w.heap.size+1) _ rfl (run_loadVar_row _ (w.heap.size+1) 67 67 _ _ _ hf aK rfl aG)
        have P:=λe h1 h2=>o.block e h2 h1;refine .some_ c.s ⟨_,_,rfl,?_,?_⟩ ?_ ?_;·exact gF.m (k+1) (gF.keep (P:=λe=>(D e/\e<w.heap.size)\/R.heap.size<=e) (k+1) ce (λe l cn=>P e (by rcases l with l|l<;>omega) cn)) (λe l _=>by rcases l with l|l;exact P3 l.1;exact P4 Y)
        ·exact cd.o.only o (by have:=A.o;omega) (by have:=m.o.size;omega)
        ·have h:=b9.o;have bv:=m.o.size;have c6:=A.o;exact⟨h.hb,by rw[P _ Y Y];exact h.blk,h.dat.other (λe l=>P e Y Y),h.byt,h.len,h.lc,h.le,h.suf,h.ad⟩
        ·have bv:=m.o.size;exact⟨o.os.t m.o.os,o.tape.t m.tape,o.output.t m.o.output,aA bv o.size,λe h1 h2=>(P e Y Y).t (m.block e h1 h2)⟩
      ·rw[ah J]at c;have t1:((ge (z.takeWhile pB)).toList==[101,110,100,115,116,114,101,97,109])=P2:=by rw[pY,bk];intro j;refine J (Bx (λS hx=>b3 S ((dG pB).subset hx)) cO (j.t rfl))
       generalize ge (z.takeWhile pB)=cf at *;go_wp2_with fail;apply T.o.m;rintro j R ⟨rfl,X,n⟩;have x:=H (L.t n);go_wp2_with fail;apply(nZ _).m;rintro j w' ⟨rfl,i⟩;have i:=i.s;subst i;exact⟨rfl,.none_ c.s x⟩
    ·rw[ah hn]at c;have HT:=H (GZ bt s Y);go_wp2_with fail;apply HT.o.m;rintro j w5 ⟨rfl,m5,cs⟩;exact⟨rfl,.none_ c.s (K4.t (.of_below (by rw[cs];exact u_ _ _)))⟩
end
section
variable{w d:Gr}
def Mc{aa:Nat->Prop}{k:Nat}{x:GI}{a:gk (VT k)}(h:gF aa (k+1) w x a)(T:a.keys.length<=200000)(ac:a.filters.length<=200000):K8 Qe 177 #[x] w λg d=>g=Ps (OV (kA a))/\LT w.heap.size w d:=by
 obtain⟨iv,kv,fv,vs,s,a1,W,ad,X,V⟩:=h.parts;have F:L1 (∀f:Gr,LT w.heap.size w f->K8 Qe 232 #[x] f λg d=>g=Ps (OV (jt a.keys a.items.length))/\LT f.heap.size f d):=
  λf b=>I7 (gF.keep (k+1) h (λB _ C=>b.block B C)) T
 have J:L1 (∀f:Gr,LT w.heap.size w f->K8 Qe 233 #[x] f λg d=>g=Ps (OV (j5 a))/\LT f.heap.size f d):=
  λf b=>Fx (gF.keep (k+1) h (λB _ C=>b.block B C)) T ac
 obtain⟨ia,ic,rfl⟩:=jp W.1;obtain⟨ka,kc,rfl⟩:=jp X.1;obtain⟨fa,fc,rfl⟩:=jp V.1;clear h V W X ad;obtain⟨A,i⟩:∃A,kA a=A:=⟨_,rfl⟩;rw[i];unfold kA at i;unfold nV at s;generalize hD:jt a.keys a.items.length=al at *;generalize ao:j5 a=St at *;have q:=H (I8 (ge a.text));have r:=H (Fw a.n a.places);generalize jo (ge a.text)=NM at *;generalize ke a.n a.places=RL at *;generalize a.n=n at *;generalize a.places=pp at *;generalize ge a.text=E at *;generalize a.filters.length=fl at s;generalize a.keys.length=kl at s;generalize (G vs)=il at s;generalize a0:a.kind=c at *;subst s;have l:L1 (LT w.heap.size w (w.alloc (Pp #[I U c,I U n,I U pp,MV E,Z ia il ic,Z ka kl kc,Z fa fl fc] 67))):=(aq _ _).alloc (ag _) _;have p:=H (F _ l);have m:=H (J _ l);clear F J;by_cases K:c=0
 ·subst K;have e:=H i.s;clear p m q r;go_enter dS,dK;go_wp2;go_ret;exact⟨by rw[e.o];rfl,l⟩
 have t0:((c:Int)==0)=P2:=eB;by_cases P:c=6
 ·subst P;have e:=H i.s;clear p m q r;go_enter dS,dK;go_wp2;go_ret;exact⟨by rw[e.o];rfl,l⟩
 have t6:((c:Int)==6)=P2:=eB;by_cases S:c=9
 ·subst S;have e:=H i.s;clear p m q r;go_enter dS,dK;go_wp2;go_ret;exact⟨by rw[e.o];rfl,l⟩
 have t9:((c:Int)==9)=P2:=eB;by_cases h1:c=1
 ·subst h1;have e:=H i.s;clear p m q r;generalize v:decide (0<=n/\n<=1)=D at *;have z:L1 (∀f:Gr,K8 Qe 63 #[I U n,I U (0),I U (1)] f λg d=>g=Ps (OV D)/\d=f):=λf=>by rw[<-v];exact Hd n (0) (1) f
  go_enter dS,dK;go_wp2_with fail;apply(z _).m;rintro g t ⟨rfl,j⟩;have j:=j.s;subst j;go_wp2;go_ret;exact⟨by rw[e.o];rfl,l⟩
 have t1:((c:Int)==1)=P2:=eB;by_cases h2:c=2
 ·subst h2;have e:=H i.s;clear i;generalize v:decide (-2147483648<=n/\n<=2147483647)=D at *;have z:L1 (∀f:Gr,K8 Qe 63 #[I U n,I U (-2147483648),I U (2147483647)] f λg d=>g=Ps (OV D)/\d=f):=λf=>by rw[<-v];exact Hd n (-2147483648) (2147483647) f
  clear v;go_enter dS,dK;go_wp2_with fail;apply(z _).m;rintro g t ⟨rfl,j⟩;have j:=j.s;subst j;go_wp2;go_ret;exact⟨by rw[e.o];rfl,l⟩
 have t2:((c:Int)==2)=P2:=eB;by_cases h3:c=3
 ·subst h3;have e:=H i.s;clear p m q;go_enter dS,dK;go_wp2_with fail;apply(r _).m;rintro g t ⟨rfl,j⟩;have j:=j.s;subst j;go_wp2;go_ret;exact⟨by rw[e.o];rfl,l⟩
 have t3:((c:Int)==3)=P2:=eB;by_cases L:c=4
 ·subst L;have e:=H i.s;clear p m r;go_enter dS,dK;go_wp2_with fail;apply(q _).m;rintro g t ⟨rfl,j⟩;have j:=j.s;subst j;go_wp2;go_ret;exact⟨by rw[e.o];rfl,l⟩
 have t4:((c:Int)==4)=P2:=eB;by_cases M:c=5
 ·subst M;have e:=H i.s;clear p m q r;go_enter dS,dK;go_wp2;go_ret;refine⟨?_,l⟩;rw[e.o];show Ps (OV (decide ((E.size:Int)<=4000)))=Ps (OV (decide (E.size<=4000)));congr 2;rw[cJ];omega
 have t5:((c:Int)==5)=P2:=eB;by_cases Q:c=7
 ·subst Q;have e:=H i.s;clear m q r;go_enter dS,dK;go_wp2_with fail;apply p.o.m;rintro g t ⟨rfl,u⟩;have y:=H (l.t (u.m eA));go_wp2;go_ret;exact⟨by rw[e.o];rfl,y⟩
 have t7:((c:Int)==7)=P2:=eB;by_cases R:c=8
 ·subst R;have e:=H i.s;clear i;go_enter dS,dK;go_wp2_with fail;apply m.o.m;rintro g t ⟨rfl,u⟩;have y:=H (l.t (u.m eA));clear u;go_wp2;go_ret;exact⟨by rw[e.o];rfl,y⟩
 have t8:((c:Int)==8)=P2:=eB;have e:L1 (A=P2):=by
  unfold Hid;rw[<-i];match c,K,h1,h2,h3,L,M,P,Q,R,S with
  |0,h,_,_,_,_,_,_,_,_,_=>exact absurd rfl h
  |1,_,h,_,_,_,_,_,_,_,_=>exact absurd rfl h
  |2,_,_,h,_,_,_,_,_,_,_=>exact absurd rfl h
  |3,_,_,_,h,_,_,_,_,_,_=>exact absurd rfl h
  |4,_,_,_,_,h,_,_,_,_,_=>exact absurd rfl h
  |5,_,_,_,_,_,h,_,_,_,_=>exact absurd rfl h
  |6,_,_,_,_,_,_,h,_,_,_=>exact absurd rfl h
  |7,_,_,_,_,_,_,_,h,_,_=>exact absurd rfl h
  |8,_,_,_,_,_,_,_,_,h,_=>exact absurd rfl h
  |9,_,_,_,_,_,_,_,_,_,h=>exact absurd rfl h
  |a2+10,_,_,_,_,_,_,_,_,_,_=>rfl
 generalize (c:Int)=a3 at *;go_enter dS,dK;go_wp2;go_ret;exact⟨by rw[e.o];rfl,l⟩
def Dt(a:List Nat):(ge a).size=G a:=by unfold ge;show(a.map UInt8.ofNat).toArray.size=_;simp
def Pf{a:ByteArray}(h:a.size=0):a={data:=#[]}:=e_ (Array.eq_empty_of_size_eq_zero h)
def rq(a b c:Bool)(e:Nat):Bool:=a&&b&&c&&decide (e=0)
def Fv{V:Nat->Prop}{k:Nat}{T:GI}{a:gk (VT k)}(h:gF V (k+1) w T a)(hi:a.items.length<=200000)(W:a.keys.length<=200000)(X:a.filters.length<=200000):K8 Qe 176 #[T] w λx d=>x=Ps (OV (j9 a))/\LT w.heap.size w d:=by
 obtain⟨iv,kv,fv,vs,B,ac,P,ad,Q,M⟩:=h.parts;obtain⟨C,D,rfl⟩:=jp P.1;obtain⟨E,F,rfl⟩:=jp Q.1;obtain⟨y,z,rfl⟩:=jp M.1;clear h M P Q ad;obtain⟨r,s⟩:∃r,j9 a=r:=⟨_,rfl⟩;rw[s];unfold j9 at s;unfold nV at B;have e1:(decide (a.text=[]))=decide ((ge a.text).size=0):=by rw[cJ,Dt,bM]
 have e2:∀{S:Decidable (a.items=[])},(@decide (a.items=[]) S)=decide (a.items.length=0):=by intro S;rw[cJ,bM]
 have L:(decide (a.keys=[]))=decide (a.keys.length=0):=by rw[cJ,bM]
 have e4:(decide (a.filters=[]))=decide (a.filters.length=0):=by rw[cJ,bM]
 rw[e1,e2,L,e4]at s;clear e1 e2 L e4;rw[ac]at B;generalize a.n=nn at *;generalize a.places=pp at *;generalize ge a.text=tt at *;generalize a.filters.length=e at *;generalize a.keys.length=g at *;generalize a.items.length=f at *;generalize a.kind=c at *;subst B;obtain⟨b,R⟩:∃b,(c:Int)=b:=⟨_,rfl⟩;rw[R];have v:=H s;have t:L1 (∀K:Array GI,LT w.heap.size w (w.alloc (Pp K 67))):=λK=>(aq _ _).alloc (ag _) _;clear s
 go_in
 go_upto_block 0 with fail
 go_cut []from 5 (λwx=>∃(n:Int) (p:Nat) (q:ByteArray) (C:Option L2) (f D:Nat) (E:Option L2) (g F:Nat) (y:Option L2) (e z:Nat),L1 (wx=w.alloc (Pp #[I U b,I U n,I U p,MV q,Z C f D,Z E g F,Z y e z] 67))/\L1 (r=rq (decide (n=0)) (decide (p=0)) (decide (q.size=0)) (f+g+e))/\f<=200000/\g<=200000/\e<=200000)
 case first=>
  rcases(by omega:(c=1/\b=1)\/(c=2/\b=2)\/(c=9/\b=9)\/(c=3/\b=3)\/(c=4/\b=4)\/(c=5/\b=5)\/(c=6/\b=6)\/(c=7/\b=7)\/(c=8/\b=8)\/¬(c=1\/c=2\/c=9\/c=3\/c=4\/c=5\/c=6\/c=7\/c=8))with⟨rfl,rfl⟩|⟨rfl,rfl⟩|⟨rfl,rfl⟩|⟨rfl,rfl⟩|⟨rfl,rfl⟩|⟨rfl,rfl⟩|⟨rfl,rfl⟩|⟨rfl,rfl⟩|⟨rfl,rfl⟩|h
  rotate_right
  ·have t1:(b==1)=P2/\(b==2)=P2/\(b==9)=P2/\(b==3)=P2/\(b==4)=P2/\(b==5)=P2/\(b==6)=P2/\(b==7)=P2/\(b==8)=P2:=eB;obtain⟨t1,t2,t3,t4,t5,t6,t7,t8,t9⟩:=t1;simp only[not_or]at h;go_wp2
   go_meet
   case rel=>exact⟨_,_,_,_,_,_,_,_,_,_,_,_,rfl,by rw[<-v.o];unfold Hid rq;rw[bC];simp[and_assoc,h],Y,Y,Y⟩
  all_goals
   go_wp2
   go_meet
   case rel=>exact⟨_,_,_,_,_,_,_,_,_,_,_,_,rfl,by rw[<-v.o];unfold Hid rq;rw[bC];simp[and_assoc]<;>(intros;rfl),Y,Y,Y⟩
 case rest=>
 obtain⟨n,p,q,C,f,D,E,g,F,y,e,z,J,l,b1,b2,b3⟩:=hcut;have hw:=J.o;subst hw;have j:L1 (rq (decide (n=0)) (decide (p=0)) (decide (q.size=0)) (f+g+e)=P2->r=P2):=λh=>l.t h;clear v J hi W X R;by_cases u:n=0
 ·subst u;by_cases A:p=0
  ·subst A;by_cases m:q.size=0
   ·have aa:=Pf m;clear m;subst aa;have i:L1 (r=decide (f+g+e=0)):=l.o.t rfl;clear j l;go_wp2;go_ret;refine⟨?_,t _⟩;rw[i.o];show Ps (OV ((f:Int)+(g:Int)+(e:Int)==0))=_;congr 2;rw[bC];simp;omega
   ·have al:(q.toList==[])=P2:=by rw[pY,bk];intro x;rw[x]at m;exact m rfl
    have i:=H (j (by unfold rq;simp[m]));clear j l m;go_wp2;go_ret;exact⟨by rw[i.o];rfl,t _⟩
  ·have tp:((p:Int)==0)=P2:=eB;have i:=H (j (by unfold rq;simp[A]));clear j l A;go_wp2;go_ret;exact⟨by rw[i.o];rfl,t _⟩
 ·have tn:(n==0)=P2:=by simpa using u
  have i:=H (j (by unfold rq;simp[u]));clear j l u;go_wp2;go_ret;exact⟨by rw[i.o];rfl,t _⟩
def pF(wb objs a:Nat)(w:Gr):Prop:=w.heap[wb]?=O (Pp #[I U objs,I U a] 118 (0,0))
def sY(b f:Nat)(e:Option Nat)(w:Gr)(a:MB)(d:Gr):Prop:=
 gB b w d/\match e with
  |some c=>a=Ps (OV PV)/\pF b f c d
  |none=>a=Ps (OV P2)
def sY.no{b c:Nat}{a:Option Nat}(h:a=N)(k:gB b w d):sY b c a w (Ps (OV P2)) d:=by subst h;exact⟨k,rfl⟩
def sY.yes{a e b:Nat}{c:Option Nat}(h:c=O b)(k:gB a w d)(f:pF a e b d):sY a e c w (Ps (OV PV)) d:=by subst h;exact⟨k,rfl,f⟩
def qv:{k:Nat}->VT k->Prop
 |0,_=>True
 |_+1,a=>(gk.items a).length<=200000/\(gk.keys a).length<=200000/\(gk.filters a).length<=200000/\∀b∈gk.items a,qv b
def tP(e f k:Nat):Prop:=
 ∀(a:Gr) (g:Nat->Prop) (b:List (VT k)) (i:GI) (c:Nat),1<=c->c<=2000->kG g k 0 b a i->(∀h,g h->h≠e)->(∀j∈b,qv j)->G b<=200000->pF e f c a ->K8 Qe 92 #[M2 (O ⟨e,0,N⟩),i,I U (13-k:Nat)] a (sY e f (kg f k c b) a)
def gF.onlyX{b:Nat->Prop}{k c:Nat}{e:GI}{V:VT k}(h:gF b k w e V)(f:∀a,b a->a≠c)(j:gB c w d):gF b k d e V:=
 gF.keep k h (λa g i=>j.block a i (f a g))
def gF.kids{b:Nat->Prop}{k:Nat}{V:gk (VT k)}{e f g i c o j:GI}(h:gF b (k+1) w (N1 #[e,f,g,i,c,o,j]) V):kG b k 0 V.items w c:=by obtain⟨t,u,q,p,a,n,m,l,s,r⟩:=gF.parts h;unfold nV at a;injection a with a;simp at a;obtain⟨_,_,_,_,rfl,_,_⟩:=a;exact⟨p,m.1,n,l⟩
def xu(f:Nat)(e b:L2)(g h:GI)(c:Array Bool)(a:Gr):Prop:=(c.getD f P2=P2->a.cell? e=O g)/\a.cell? b=O h
def xu.set{a i:Nat}{f b:L2}{g h:GI}{c:Array Bool}{e:Gr}(j:i≠a):xu a f b g h c e↔xu a f b g h (c.setIfInBounds i PV) e:=by unfold xu;rw[eE P2 j]
def xL{a:Array Bool}{b:Nat}(h:a.getD b PV=P2):a.getD b P2=P2:=by
 rcases bU b a.size with c|c;·simp[c]at h ⊢;exact h
 ·simp[Nat.not_lt.2 c]at h
def Ir{w:Gr}{b:Nat}{a e f g i j k:GI}{c:TypeId}(h:w.heap[b]?=O (Pp #[a,e,f,g,i,j,k] c (0,0))):w.cell? ⟨b,0,N⟩=O a:=iI h
def Iu{w:Gr}{b:Nat}{e a f g i j k:GI}{c:TypeId}(h:w.heap[b]?=O (Pp #[e,a,f,g,i,j,k] c (0,0))):w.cell? ⟨b,1,N⟩=O a:=iI h
def Iv{w:Gr}{b:Nat}{e f a g i j k:GI}{c:TypeId}(h:w.heap[b]?=O (Pp #[e,f,a,g,i,j,k] c (0,0))):w.cell? ⟨b,2,N⟩=O a:=iI h
def Iw{w:Gr}{b:Nat}{e f g a i j k:GI}{c:TypeId}(h:w.heap[b]?=O (Pp #[e,f,g,a,i,j,k] c (0,0))):w.cell? ⟨b,3,N⟩=O a:=iI h
def Fb{w:Gr}{b:Nat}{e f g i a j k:GI}{c:TypeId}(h:w.heap[b]?=O (Pp #[e,f,g,i,a,j,k] c (0,0))):w.cell? ⟨b,4,N⟩=O a:=iI h
def Ix{w:Gr}{b:Nat}{e f g i j a k:GI}{c:TypeId}(h:w.heap[b]?=O (Pp #[e,f,g,i,j,a,k] c (0,0))):w.cell? ⟨b,5,N⟩=O a:=iI h
def Iy{w:Gr}{b:Nat}{e f g i j k a:GI}{c:TypeId}(h:w.heap[b]?=O (Pp #[e,f,g,i,j,k,a] c (0,0))):w.cell? ⟨b,6,N⟩=O a:=iI h
def zU{c g k nodes:Nat}{a5:Nat->Prop}{a1:GI}{e:gk (VT k)}(hk:k<=11)(ih:tP c g k)(hv:gF a5 (k+1) w a1 e)(hP:∀al,a5 al->al≠c)(B:qv (k:=k+1) e)(l:pF c g nodes w)(cg:1<=nodes)(ch:nodes<=2000)(ck:g<=100000):K8 Qe 130 #[M2 (O ⟨c,0,N⟩),a1,I U (12-k:Nat)] w (sY c g (if lz g (12-k) nodes e=PV then kg g k (nodes+e.items.length) e.items else N) w):=by
 obtain⟨iv,kv,fv,vs,a0,b6,bz,ci,b0,bx⟩:=hv.parts;obtain⟨r,s,rfl⟩:=jp bz.1;obtain⟨L,M,rfl⟩:=jp b0.1;obtain⟨F,J,rfl⟩:=jp bx.1;have cl:=ae l;have b9:L1 (∀a:Gr,gB c w a->K8 Qe 176 #[a1] a λA d=>A=Ps (OV (j9 e))/\LT a.heap.size a d):=
  λa C=>Fv (gF.onlyX hv hP C) B.1 B.2.1 B.2.2.1
 have ca:L1 (∀a:Gr,gB c w a->K8 Qe 177 #[a1] a λA d=>A=Ps (OV (kA e))/\LT a.heap.size a d):=
  λa C=>Mc (gF.onlyX hv hP C) B.2.1 B.2.2.1
 have ce:=B.1;rw[b6]at a0;obtain⟨q,bv⟩:∃q,12-k=q:=⟨_,rfl⟩;have a9:L1 (∀(a:Gr) (Q:Nat),gB c w a->1<=Q->Q<=2000->pF c g Q a->K8 Qe 92 #[M2 (O ⟨c,0,N⟩),Z r e.items.length s,I U ((q+1:Nat):Int)] a (sY c g (kg g k Q e.items) a)):=
  λa Q C h1 h2 h3=>by have b3:=gF.onlyX hv hP C;rw[a0]at b3;have:=ih a a5 e.items (Z r e.items.length s) Q h1 h2 (gF.kids b3) hP B.2.2.2 B.1 h3;rw[show 13-k=q+1 by omega]at this;exact this
 rw[bv];obtain⟨z,o⟩:∃z,(if lz g q nodes e=PV then kg g k (nodes+e.items.length) e.items else N)=z:=⟨_,rfl⟩;rw[o];unfold lz at o;unfold nV at a0;have ba:L1 (∀a:Gr,gB c w a->nodes+e.items.length<=2000->pF c g (nodes+e.items.length) a->K8 Qe 92 #[M2 (O ⟨c,0,N⟩),Z r e.items.length s,I U ((q+1:Nat):Int)] a (sY c g (kg g k (nodes+e.items.length) e.items) a)):=
  λa C h1 h2=>a9 a _ C Y h1 h2
 clear a9;generalize kg g k (nodes+e.items.length) e.items=WR at *;generalize j9 e=BB at *;generalize kA e=RR at *;generalize e.n=p at *;generalize e.places=R at *;generalize ge e.text=S at *;generalize e.filters.length=K at *;generalize e.keys.length=P at *;generalize cf:e.items.length=j at *;generalize e.kind=n at *;subst a0;have cj:1<=q/\q<=12:=Y;clear hv hP B ci b0 bx bz ih bv hk cf;have E:LT w.heap.size w (w.alloc (Pp #[I U n,I U p,I U R,MV S,Z r j s,Z L P M,Z F K J] 67)):=(aq _ _).alloc (ag _) _;have ao:(w.alloc (Pp #[I U n,I U p,I U R,MV S,Z r j s,Z L P M,Z F K J] 67)).heap[w.heap.size]?=O (Pp #[I U n,I U p,I U R,MV S,Z r j s,Z L P M,Z F K J] 67 (0,0)):=bn _ _;have X:(w.alloc (Pp #[I U n,I U p,I U R,MV S,Z r j s,Z L P M,Z F K J] 67)).heap[c]?=O (Pp #[I U g,I U nodes] 118 (0,0)):=mA _ l;have x:L1 (xu 10 ⟨c,1,N⟩ ⟨w.heap.size,4,N⟩ (I U nodes) (Z r j s) (Array.replicate 11 P2) (w.alloc (Pp #[I U n,I U p,I U R,MV S,Z r j s,Z L P M,Z F K J] 67)).drew):=⟨λ_=>by show(w.alloc _).cell? _=_;rw[iI X];rfl,by show(w.alloc _).cell? _=_;rw[iI ao];rfl⟩;have bt:=n5 X;have bw:=jR 1 X;obtain⟨D,a7⟩:∃D,w.alloc (Pp #[I U n,I U p,I U R,MV S,Z r j s,Z L P M,Z F K J] 67)=D:=⟨_,rfl⟩;rw[a7]at E ao X x bt bw;have K2:L1 (gB c w ((D.setCell ⟨c,1,N⟩ (I U ((nodes:Int)+(j:Int)))).drew)):=gB.setCell (w:=w) (w':=D) ⟨E.os,E.tape,E.output,E.size,λal hg _=>E.block al hg⟩ 1 _ |>.t (.of_below (aq _ _).drew)
 have ac:L1 (pF c g (nodes+j) ((D.setCell ⟨c,1,N⟩ (I U ((nodes:Int)+(j:Int)))).drew)):=by unfold Hid pF;show(D.setCell ⟨c,1,N⟩ (I U ((nodes:Int)+(j:Int)))).heap[c]?=_;rw[lV _ X];rfl
 have ad:L1 (((D.setCell ⟨c,1,N⟩ (I U ((nodes:Int)+(j:Int)))).drew).heap[w.heap.size]?=O (Pp #[I U n,I U p,I U R,MV S,Z r j s,Z L P M,Z F K J] 67 (0,0))):=by unfold Hid;show(D.setCell ⟨c,1,N⟩ (I U ((nodes:Int)+(j:Int)))).heap[w.heap.size]?=_;rw[kW _ (by show w.heap.size≠c;omega)];exact ao
 have cc:IntKind.i64.wrap ((nodes:Int)+(j:Int))=(nodes:Int)+(j:Int):=by rw[aU];omega
 have bb:=H a7;clear E ao X a7
 go_in
 go_wp2_with fail;rw[bb.o];refine om (xu 10 ⟨c,1,N⟩ ⟨w.heap.size,4,N⟩ (I U nodes) (Z r j s)) aG ?_;intro f;have i:=x.o;refine tj 0 f i λf i=>?_;refine tj 1 f i λf i=>?_;refine tj 2 f i λf i=>?_;refine tl 3 f i (λf i=>?_) (y:=λa hW=>by obtain⟨bo,br,hL,a6⟩:=hW;have cd:=a6.1 (by cases u:bo.getD 10 P2 with|false=>rfl|true=>exact absurd (br.came 2 10 aG u) wS);go_simp;try(with_reducible rfl));refine tj 4 f i λf i=>?_;refine tl 5 f i (λf i=>?_) (y:=λa hW=>by obtain⟨bo,br,hL,a6⟩:=hW;have cd:=a6.2;go_simp;try(with_reducible rfl));refine tj 6 f i λf i=>?_;refine tj 7 f i λf i=>?_;refine tj 8 f i λf i=>?_;refine tj 9 f i λf i=>?_;refine on 10 f λK' hK=>?_;go_simp;refine hK _ _ ⟨λu=>(by cases u),iI ad⟩ (λbq bs=>?_);clear f i hK K';have f:=bq;have i:=bs;clear bq bs
 (try simp only[jd])
 refine oh aG ?_ _;clear f i;generalize (D.setCell ⟨c,1,N⟩ (I U ((nodes:Int)+(j:Int)))).drew=w2 at *;clear bt bw x l bb cc;have q1:=n5 ac;have q0:=mC ac;obtain⟨d0,d1,d2,d3,d4,d5,d6⟩:=qu ad;by_cases h1:nodes+j<=2000
 ·rw[aB h1,bX]at o;have b8:=H (λa C h=>ba a C h1 h);have Q1:=H (ou ((nodes+j:Nat):Int) 1 2000 w2 Y Y);have Q2:=H (ou (q:Int) 1 12 w2 Y Y);generalize ((nodes+j:Nat):Int)=zn at *;generalize nodes+j=ni at *;clear ba h1 cg ch ce b6;go_wp2_with fail;apply Q1.o.m;rintro A w3 ⟨rfl,l⟩;have l:=l.s;subst l;go_wp2_with fail;apply Q2.o.m;rintro A w3 ⟨rfl,l⟩;have l:=l.s;subst l;clear Q1 Q2
  go_upto_region 5 with fail
  obtain⟨C8,h8⟩:∃a2,decide (n=8/\1<q)=a2:=⟨_,rfl⟩;rw[h8]at o;go_cut [27]from 28 (λb wx=>b=OV C8/\wx=w2)
  case first=>
   by_cases h:n=8
   ·have t8:((n:Int)==8)=PV:=eB;go_wp2
    go_meet
    case rel=>exact⟨by rw[<-h8];simp[h];try omega,rfl⟩
   ·have t8:((n:Int)==8)=P2:=eB;go_wp2
    go_meet
    case rel=>exact⟨by rw[<-h8];simp[h];try omega,rfl⟩
  case rest=>
  obtain⟨rfl,l⟩:=hcut;have l:=l.s;subst l;cases C8 with
  |true=>
   have m:L1 (z=N):=by unfold Hid;rw[<-o];rfl
   clear o;go_wp2;go_ret;exact .no m K2
  |false=>
  go_upto_region 7 with fail
  obtain⟨C9,u⟩:∃a2,decide (n=9/\¬(1<=p/\p<=(g:Int)))=a2:=⟨_,rfl⟩;rw[u]at o;go_cut [35]from 36 (λb wx=>b=OV C9/\∃aa,wx=w2.drewN aa)
  case first=>
   by_cases h:n=9
   ·have t9:((n:Int)==9)=PV:=eB;by_cases V:1<=p/\p<=(g:Int)
    ·have a4:=H (λa=>ou p 1 g a V.1 V.2);have x:L1 (C9=P2):=by unfold Hid;rw[<-u];simp[h,V]
     clear u h V;go_quiet ((go_at_call 63;exact bj (a4 _)));go_wp2
     go_meet
     case rel=>exact⟨by rw[x.o],_,rfl⟩
    ·have a4:=H (λa=>qP p 1 g a Y);have x:L1 (C9=PV):=by unfold Hid;rw[<-u];simp[h,V]
     clear u h V;go_quiet ((go_at_call 63;exact bj (a4 _)));go_wp2
     go_meet
     case rel=>exact⟨by rw[x.o],_,rfl⟩
   ·have t9:((n:Int)==9)=P2:=eB;have x:L1 (C9=P2):=by unfold Hid;rw[<-u];simp[h]
    clear u h;go_quiet (fail);go_wp2
    go_meet
    case rel=>exact⟨by rw[x.o],_,rfl⟩
  case rest=>
  obtain⟨rfl,aa,b7⟩:=hcut;cases C9 with
  |true=>
   have m:L1 (z=N):=by unfold Hid;rw[<-o];rfl
   have T:=H (K2.drewN aa);clear o;go_wp2;go_ret;exact .no m T
  |false=>
  have t:L1 ((w2.drewN aa).heap[w.heap.size]?=O (Pp _ _ _)):=ad;have a3:L1 (pF c g _ (w2.drewN aa)):=ac;have T:=H (K2.drewN aa);have m:L1 ((if(BB&&RR)=PV then WR else N)=z):=by unfold Hid;rw[<-o];rfl
  rw[<-b7]at T a3 t;clear b7 d0 d1 d2 d3 d4 d5 d6 q0 q1 K2 ac ad o;have b1:=ae t;have bc:=H (b9 wc T);have d0:=Ir t;have d1:=Iu t;have d2:=Iv t;have d3:=Iw t;have d4:=Fb t;have d5:=Ix t;have d6:=Iy t;go_wp2_with fail;apply bc.o.m;rintro A w4 ⟨rfl,b4⟩;have K4:=H (T.t (.of_below b4));have v:=H ((b4.block _ b1).t t);have bf:L1 (pF c g _ w4):=(b4.block c Y).t a3;clear b4 d0 d1 d2 d3 d4 d5 d6 bc T t a3 b1;cases BB with
  |false=>have m:L1 (z=N):=m.o.s;go_wp2;go_ret;exact .no m K4
  |true=>
  have b2:=ae v;have bd:=H (ca w4 K4);have d0:=Ir v;have d1:=Iu v;have d2:=Iv v;have d3:=Iw v;have d4:=Fb v;have d5:=Ix v;have d6:=Iy v;go_wp2_with fail;apply bd.o.m;rintro A w5 ⟨rfl,b5⟩;have K5:=H (K4.t (.of_below b5));have bm:=H ((b5.block _ b2).t v);have bi:L1 (pF c g _ w5):=(b5.block c Y).t bf;clear b5 d0 d1 d2 d3 d4 d5 d6 bd K4 v bf b2;cases RR with
  |false=>have m:L1 (z=N):=m.o.s;go_wp2;go_ret;exact .no m K5
  |true=>
  have m:L1 (z=WR):=m.o.s;have e4:=Fb bm;have a8:=H (b8 w5 K5 bi);rw[show((q+1:Nat):Int)=(q:Int)+1 from rfl]at a8;clear bm bi;go_wp2_with fail;apply a8.o.m;rintro A w6 ⟨o6,W⟩;have K6:=H (K5.t o6);clear o6;cases WR with
  |none=>simp only[]at W;subst W;go_wp2;go_ret;exact .no m K6
  |some Q=>obtain⟨rfl,W⟩:=W;have cb:=H W;clear W;go_wp2;go_ret;exact .yes m K6 cb
 ·have m:L1 (z=N):=by unfold Hid;rw[<-o,ar h1];rfl
  clear o;go_wp2_with fail;apply(qP _ 1 2000 _ Y).m;rintro A w3 ⟨rfl,l⟩;have l:=l.s;subst l;go_wp2;go_ret;exact .no m K2
def mH(objs k a:Nat)(V:gk (VT k)):Option Nat:=if lz objs (12-k) a V=PV then kg objs k (a+V.items.length) V.items else N
def qr(a k c:Nat)(b:VT (k+1))(e:List (VT (k+1))):kg a (k+1) c (b::e)=match mH a k c b with|none=>N|some f=>kg a (k+1) f e:=by show(mH a k c b >>= λf=>kg a (k+1) f e)=_;cases mH a k c b<;>rfl
def uU(f:Nat):∀(k a:Nat) (e:List (VT k)) (b:Nat),kg f k a e=O b->a<=b/\(a<=2000->b<=2000)
 |0,a,e,b,h=>by cases h;exact⟨ag _,id⟩
 |k+1,a,[],b,h=>by cases h;exact⟨ag _,id⟩
 |k+1,a,i::e,b,h=>by
  rw[qr]at h;cases c:mH f k a i with
  |none=>rw[c]at h;cases h
  |some j=>
   rw[c]at h;have h2:=uU f (k+1) j e b h;unfold mH at c;split at c
   ·next g=>
    have h1:=uU f k _ _ _ c;have h3:a+(gk.items i).length<=2000:=by unfold lz at g;simp at g;exact g.1.1.1.1
    exact⟨Y,λ_=>h2.2 (h1.2 h3)⟩
   ·cases c
def rQ{objs k e c:Nat}{V:gk (VT k)}(a:mH objs k e V=O c):e<=c/\c<=2000:=by
 unfold mH at a;split at a
 ·next b=>
  have h1:=uU objs k _ _ _ a;have h3:e+(gk.items V).length<=2000:=by unfold lz at b;simp at b;exact b.1.1.1.1
  exact⟨Y,h1.2 h3⟩
 ·cases a
def kG.apart{i:Nat->Prop}{k b g o n:Nat}{j:List (VT k)}{f:GI}(h:kG i k b j w f)(e:pF g o n w)(a:Nat)(m:f.ownBlock=O a):a≠g:=by obtain⟨q,h1,_,_⟩:=h;obtain⟨_,c,p,l⟩:=tN h1 a m;rintro rfl;unfold pF at e;rw[l]at e;simp at e
def KE{u a k:Nat}(hk:k<=11)(bf:a<=100000)(h1:tP u a k):tP u a (k+1):=by
 intro v bi i bm P bc bd F hP hF ba hw;obtain⟨p,hR⟩:∃p,kg a (k+1) P i=p:=⟨_,rfl⟩;rw[hR];obtain⟨va,vc,al⟩:=F.len;have a4:=F.apart hw;have HV:=H F;have a1:=H a4;have H1:=H h1;have W:=H hP;have HF:=H hF;have HW:=H hw;have HR:=H hR;obtain⟨q,hn⟩:∃q,G i=q:=⟨_,rfl⟩;rw[hn]at al ba;have r:=H hn;subst al;rw[show 13-(k+1)=12-k by omega];obtain⟨s,ac⟩:∃s,12-k=s:=⟨_,rfl⟩;rw[ac];have y:=H ac
 go_in
 go_wp2;go_loopw [11] (λK wr=>∃(f b:Nat),f<=q/\K=I U f/\1<=b/\b<=2000/\L1 (gB u v wr)/\L1 (pF u a b wr)/\L1 (kg a (k+1) b (i.drop f)=p)) (λK _=>q-(intOf K).toNat)
 case atStart=>exact⟨0,P,aH _,rfl,bc,bd,gB.refl _ _,HW,HR⟩
 case round=>
  obtain⟨f,b,j,rfl,a5,a6,z,S,B⟩:=hrel;rcases aV j with j|j
  ·subst j;have C:L1 (p=O b):=by unfold Hid;rw[<-B.o,bS (by rw[r.o];exact ag _)];rfl
   go_wp2;go_ret;exact .yes C z S
  ·obtain⟨e,x⟩:∃e,i[f]?=O e:=⟨_,af (by rw[r.o];exact j)⟩;have a7:i.drop f=e::i.drop (f+1):=by rw[aW (by rw[r.o];exact j)];congr 1;rw[af (by rw[r.o];exact j)]at x;simpa using x
   rw[a7,qr]at B;obtain⟨t,c,bo,ad,_,_,hx,m⟩:=HV.o.at x;rw[r.o]at ad;cases ad;have a9:=a1.o t rfl;have bb:=cI x;have a8:=HF.o e bb;obtain⟨M,k1,k2,k3,ja,jl,jc,ao,kl,a0,X,fl,aa,g⟩:=gF.form hx;have l:∀{L:Nat} {R:GI},v.cell? ⟨t,L,N⟩=O R->wr.cell? ⟨t,L,N⟩=O R:=λ{L R} h=>by rw[World.cell?_of_block (w:=v) (z.o.block t (aC v _ h) a9)];exact h
   have d0:wr.cell? ⟨t,f*7,N⟩=O (I U M):=l (m 0 _ (by rw[g];rfl));have d1:=l (m 1 _ (by rw[g];rfl));have d2:=l (m 2 _ (by rw[g];rfl));have d3:=l (m 3 _ (by rw[g];rfl));have d4:=l (m 4 _ (by rw[g];rfl));have d5:=l (m 5 _ (by rw[g];rfl));have d6:=l (m 6 _ (by rw[g];rfl));have bA:LT wr.heap.size wr (wr.alloc (Pp #[I U M,I U k1,I U k2,MV k3,Z ja jl jc,Z ao kl a0,Z X fl aa] 67)):=(aq _ _).alloc (ag _) _;have oA:=z.o.t (.of_below bA);have A:=H (zU (nodes:=b) hk H1 (gF.onlyX hx W oA) W a8 (show pF u a b (wr.alloc (Pp #[I U M,I U k1,I U k2,MV k3,Z ja jl jc,Z ao kl a0,Z X fl aa] 67))from mA _ S) a5 a6 bf);rw[y.o]at A;have D:L1 ((match(if lz a s b e=PV then kg a k (b+(gk.items e).length) (gk.items e)else N)with|none=>N|some q=>kg a (k+1) q (i.drop (f+1)))=p):=by have:=B;unfold mH at this;rw[y.o]at this;exact this
   have HB:L1 (∀n,(if lz a s b e=PV then kg a k (b+(gk.items e).length) (gk.items e)else N)=O n->b<=n/\n<=2000):=λn J=>by refine rQ (objs:=a) (k:=k) (V:=e) ?_;unfold mH;rw[y.o];exact J
   have T:=H oA;subst g;generalize (if lz a s b e=PV then kg a k (b+(gk.items e).length) (gk.items e)else N)=SW at *;cases SW with
   |none=>have C:L1 (p=N):=D.o.s;go_wp2_with fail;apply A.o.m;rintro a3 w2 ⟨Q,h2⟩;simp only[]at h2;subst h2;have E:=H (T.t Q);go_wp2;go_ret;exact .no C E
   |some n=>
    have J:=HB.o n rfl;simp only[]at D;go_wp2_with fail;apply A.o.m;rintro a3 w2 ⟨Q,rfl,h2⟩;have E:=H (T.t Q);have a2:=H h2;go_wp2;go_roundw
    case rel=>exact⟨f+1,n,Y,by first|rfl|(congr 1),Y,J.2,E,a2,D⟩
    case measure=>simp[intOf];omega
def az{c b:Nat}:tP c b 0:=by
 intro e m g s a q r h n hF p i;cases g with
 |cons l _=>exact l.elim
 |nil=>
  obtain⟨j,k,rfl⟩:=h.len;have f:=H i;rw[show kg b 0 a []=O a from rfl];show K8 Qe 92 #[M2 (O ⟨c,0,N⟩),Z j 0 k,I U 13] e (sY c b (O a) e)
  go_in
  go_wp2;refine wp_loop_rounds 1 ?_;rw[rounds_succ];go_wp2;go_ret;exact .yes rfl (gB.refl _ _) f
def H_{wb objs:Nat}(a:objs<=100000):∀(k:Nat),k<=12->tP wb objs k
 |0,_=>az
 |k+1,h=>KE Y a (H_ a k Y)
def yC{B:Nat->Prop}{g:List (VT 12)}{root:Int}{D:GI}(h:kG B 12 0 g w D)(hF:∀i∈g,qv i)(hl:G g<=200000):K8 Qe 61 #[N1 #[D,I U root]] w λk d=>k=Ps (OV (jb g root))/\LT w.heap.size w d:=by
 have h2:kG (λe=>B e/\e<w.heap.size) 12 0 g w D:=h.m (λe h1 h2=>⟨h1,h2⟩);have A:=H h2;obtain⟨oa,p,rfl⟩:=h.len;obtain⟨a,y⟩:∃a,G g=a:=⟨_,rfl⟩;rw[y]at hl A;obtain⟨l,f⟩:∃l,jb g root=l:=⟨_,rfl⟩;rw[f,y];unfold jb at f;rw[y]at f;have z:=H y;have S:=H hF;have v:L1 (LT w.heap.size w (w.alloc (Pp #[Z oa a p,I U root] 31))):=(aq _ _).alloc (ag _) _;by_cases P:1<=a/\a<=100
 ·rw[aB P,bX]at f;have s:=H (λm=>ou (a:Int) 1 100 m Y Y);by_cases Q:1<=root/\root<=(a:Int)
  ·rw[aB Q,bX]at f;obtain⟨r,rfl⟩:∃r:Nat,root=(r:Int)+1:=⟨(root-1).toNat,Y⟩;rw[show((r:Int)+1-1).toNat=r by omega]at f;have aa:r<a:=Y;have x:=H (λm=>ou ((r:Int)+1) 1 (a:Int) m Y Y);obtain⟨i,R⟩:∃i,g[r]?=O i:=⟨_,af (by rw[z.o];exact aa)⟩;rw[R]at f;obtain⟨e,c,a0,M,_,_,hx,ad⟩:=A.o.at R;rw[z.o]at M;cases M;obtain⟨pp,ia,il,ic,ka,kl,kc,fa,fl,fc,rfl⟩:=gF.form2 hx;have V:(w.alloc (Pp #[Z (O ⟨e,0,N⟩) a p,I U ((r:Int)+1)] 31)).cell? ⟨e,r*7,N⟩=O (I U (kO i:Int)):=by have:=ad 0 _ rfl;rw[dZ]at this;rw[World.cell?_alloc_lt _ _ _ (aC w _ this)];exact this
   have al:IntKind.i64.wrap ((r:Int)+1-1)=(r:Int):=by rw[aU];omega
   have X:(O i).map (λT:VT 12=>gk.kind (α:=VT 11) T)=O (kO i):=rfl;rw[X]at f;by_cases K:kO i=7
   ·rw[K]at f V;rw[aB rfl,bX]at f;have ac:pF (w.heap.size+1) a a ((w.alloc (Pp #[Z (O ⟨e,0,N⟩) a p,I U ((r:Int)+1)] 31)).alloc (Pp #[I U a,I U a] 118)):=by have:=bn (w.alloc (Pp #[Z (O ⟨e,0,N⟩) a p,I U ((r:Int)+1)] 31)) (Pp #[I U a,I U a] 118);rw[aL]at this;exact this
    have F:LT w.heap.size w ((w.alloc (Pp #[Z (O ⟨e,0,N⟩) a p,I U ((r:Int)+1)] 31)).alloc (Pp #[I U a,I U a] 118)):=v.o.alloc eA _;have W:=H_ (wb:=w.heap.size+1) (objs:=a) Y 12 (ag _) _ (λe=>B e/\e<w.heap.size) g (Z (O ⟨e,0,N⟩) a p) a Y Y (A.keep F) (λe C=>Y) S (by rw[z.o];omega) ac;have E:=H W;have n:=H F;rw[show((13-12:Nat):Int)=1 from rfl]at E
    go_in
    go_wp2_with fail;apply(s _).m;rintro k q ⟨rfl,b⟩;have b:=b.s;subst b;go_wp2_with fail;apply(x _).m;rintro k q ⟨rfl,b⟩;have b:=b.s;subst b;go_wp2_with fail;apply E.o.m;rintro k w4 ⟨u,t⟩;have J:L1 (LT w.heap.size w w4):=⟨u.os.t n.o.os,u.tape.t n.tape,u.output.t n.o.output,aA n.size u.size,λe C=>(u.block e (aQ C n.size) Y).t (n.block e C)⟩;cases L:kg a 12 a g with
    |none=>rw[L]at t f;simp only[]at t;subst t;have j:L1 (l=P2):=f.s;go_wp2;go_ret;exact⟨by rw[j.o];rfl,J⟩
    |some a1=>rw[L]at t f;obtain⟨rfl,_⟩:=t;have j:L1 (l=PV):=f.s;go_wp2;go_ret;exact⟨by rw[j.o];rfl,J⟩
   ·have j:L1 (l=P2):=by unfold Hid;rw[<-f,ar (by simpa using K)];rfl
    have ao:((kO i:Int) != 7)=PV:=eB;generalize (kO i:Int)=ky at *
    go_in
    go_wp2_with fail;apply(s _).m;rintro k q ⟨rfl,b⟩;have b:=b.s;subst b;go_wp2_with fail;apply(x _).m;rintro k q ⟨rfl,b⟩;have b:=b.s;subst b;go_wp2;go_ret;exact⟨by rw[j.o];rfl,v⟩
  ·have j:L1 (l=P2):=by unfold Hid;rw[<-f,ar Q];rfl
   have x:=H (λm=>qP root 1 (a:Int) m Y)
   go_in
   go_wp2_with fail;apply(s _).m;rintro k q ⟨rfl,b⟩;have b:=b.s;subst b;go_wp2_with fail;apply(x _).m;rintro k q ⟨rfl,b⟩;have b:=b.s;subst b;go_wp2;go_ret;exact⟨by rw[j.o];rfl,v⟩
 ·have j:L1 (l=P2):=by unfold Hid;rw[<-f,ar P];rfl
  have s:=H (λm=>qP (a:Int) 1 100 m Y)
  go_in
  go_wp2_with fail;apply(s _).m;rintro k q ⟨rfl,b⟩;have b:=b.s;subst b;go_wp2;go_ret;exact⟨by rw[j.o];rfl,v⟩
end
