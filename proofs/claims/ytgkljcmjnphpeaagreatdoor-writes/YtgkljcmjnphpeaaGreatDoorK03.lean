import Derived.Test.YtgkljcmjnphpeaaGreatDoorK02
import Derived.Laws.CopyOwn
set_option linter.defProp false
set_option linter.unusedVariables false
set_option linter.unusedSimpArgs false
set_option maxHeartbeats 4000000
set_option maxRecDepth 100000
open List renaming length->G
open Go.Value renaming pointer->A3,tuple->BG,agg->Bc,bool->Bs,int->I,slice->Z,string->y7
open Go.Obj renaming cells->BV
open Go.Ending renaming returned->BX
open Or renaming inl->C1,inr->C2
open Bool renaming true->CD,false->CS
open Go.Proofs.Tryz renaming prog->DG
open List renaming replicate->DJ
open Option renaming none->N,some->O
open Go.IntKind renaming i64->U
open Go renaming World->vz,Addr->wT,Value->wg,Calls->wh,Ending->xc,Act->xq
open Go.RowKit renaming Below->wm,Hid->wt
open Go.Proofs.Tryz
namespace Go.Proofs.YtgkljcmjnphpeaaGreatDoor
open Go.RowKit
section
variable{w:vz}
def nj(b:List Nat):Nat->Nat
 |0=>0
 |a+1=>256*nj b a+nth b a
def MF(b:List Nat)(a:Nat)(h:G b<=a):nth b a=0:=by simp[nth,List.getElem?_eq_none h]
def M6(a:List Nat)(h:∀c,c<G a->nth a c<256):∀k,k<=4->nj a k<=256^k-1
 |0,_=>by simp[nj]
 |k+1,g=>by
  have d:=M6 a h k Y;have e:nth a k<256:=by
   rcases cW k (G a) with b|b;·exact h k b
   ·rw[MF a k b];omega
  have f:0<256^k:=Nat.pow_pos Y;rw[c_];unfold nj;omega
def JQ(a:List Nat)(h:∀c,c<G a->nth a c<256)(k:Nat)(b:k<=4):nj a k<=4294967295:=by have d:=M6 a h k b;have e:256^k<=256^4:=aY Y b;omega
def oG(a:List Nat):List Nat:=if 4<=G a/\nj a 4=0 then[122]else(jv (nj a 4)).take (min 4 (G a)+1)
def ge(a:ByteArray)(b:Nat)(c:nj (bl a) 4=b):oG (bl a)=if 4<=a.size/\b=0 then[122]else(jv b).take (min 4 a.size+1):=by unfold oG;rw[c,mC]
def dn(a:Nat)(h:a<=4294967295):∀k,k<5->nth (jv a) k=33+a/85^(4-k)%85/\a/85^(4-k)/85=a/85^(5-k):=by
 intro k c;have b:a/52200625%85=a/52200625:=dR Y;match k,c with
 |0,_=>exact⟨by show 33+a/52200625=33+a/52200625%85;rw[b],by rw[cR]⟩
 |1,_=>exact⟨rfl,by rw[cR]⟩
 |2,_=>exact⟨rfl,by rw[cR]⟩
 |3,_=>exact⟨rfl,by rw[cR]⟩
 |4,_=>exact⟨by show 33+a%85=33+a/1%85;rw[Nat.div_one],by rw[cR]⟩
def ot{e:vz}{d c:Nat}{b:List Nat}(i:e.heap[c]?=O (BV (uI b).toArray 5 (0,0)))(j:G b=5)(a:Nat)(m:a<=4)(h:d<=c)(g:wg)(k:g=Z (O ⟨c,0,N⟩) (a+1) 5):e.ownsRow d 5 1 g (b.take (a+1)).length ((b.take (a+1)).map λl:Nat=>I .u8 (l:Int)):=by
 subst k;have f:(b.take (a+1)).length=a+1:=by rw[ax];omega
 rw[f];refine⟨by rw[aq,f,Nat.mul_one],C2 ⟨c,5,_,rfl,h,i,Y,by unfold maxLen;omega,by simp[uI,j],?_⟩⟩;simp[uI,List.map_take]
def Ll(a b:Nat)(h:¬(a=4/\b=0)):a≠4\/(a=4/\b≠0):=by omega
def PM(c:ByteArray)(h0:0<c.size):wh DG 71 #[y7 c] w λbf w'=>∃ba,bf=BX ba/\w'.ownsRow w.heap.size 5 1 ba (oG (bl c)).length ((oG (bl c)).map λx:Nat=>I .u8 (x:Int))/\wm w.heap.size w w':=by
 obtain⟨i0,Q,a2,a3,a4⟩:=bR infoByte;have HV:=H (JQ (bl c) (λj Q=>by rw[mC]at Q;exact lJ c j Q));have HS:wt (∀k,nj (bl c) (k+1)=256*nj (bl c) k+nth (bl c) k):=λk=>rfl;obtain⟨f,hV⟩:∃f,nj (bl c) 4=f:=⟨_,rfl⟩;have a6:=H hV;obtain⟨a5,hG⟩:∃a5,oG (bl c)=a5:=⟨_,rfl⟩;rw[hG];have a1:=H hG
 go_in
 by_cases hX:4<c.size
 ·have hc:(4:Int)<c.size:=Y;go_wp2;go_loopw [4,5] (λs j wr=>∃k:Nat,k<=4/\j=I U k/\s=I U (nj (bl c) k:Nat)/\wr=w) (λ_ j _=>4-(intOf j).toNat)
  case atStart=>exact⟨0,Y,rfl,rfl,rfl⟩
  case round=>
   obtain⟨k,hk,rfl,rfl,rfl⟩:=hrel;have hv:=HV.o k hk;have hs:=HS.o k;by_cases c4:k<4
   ·have bb:(k:Int)<4:=Y;by_cases ck:k<4
    ·have a7:(k:Int)<4:=Y;have aa:k<c.size:=Y;have bc:(k:Int)<c.size:=Y;have hx:=rT c k aa;have hb:=lJ c k aa;generalize nth (bl c) k=b at *;generalize nj (bl c) k=s at *;have W:=H hs;go_wp2;go_roundw
     case rel=>exact⟨k+1,Y,by go_num,by rw[W.o];go_num,by trivial⟩
     case measure=>exact eT
    ·exact absurd c4 ck
   ·obtain rfl:k=4:=Y;rw[a6.o]at hv ⊢;have HB:=H hv;have ad:=H (ge c f hV);by_cases cz:4=4/\f=0
    ·have bd:((4:Int)==4)=CD:=by first|rfl|(simp;omega)
     have q:oG (bl c)=[122]:=by rw[ad.o,ak Y]
     have A:=H (a1.s.t q);go_wp2;go_ret;rw[A.o];exact⟨_,rfl,Ip (ag _) [122] cO,(ar _ _).alloc (ag _) _⟩
    ·have q:oG (bl c)=(jv f).take (4+1):=by rw[ad.o,aj Y,show min 4 c.size=4 by omega]
     have A:=H (a1.s.t q);have P:=HB.o;have a0:=H (dn f P);rcases Ll 4 f cz with r|⟨r,c'⟩;·exact absurd rfl r
     ·have ao:=H r;have c1:((4:Int)==4)=CD:=by first|rfl|(simp;omega)
      have c2:((f:Int)==0)=CS:=eS;obtain⟨l,al⟩:∃l,l=wr:=⟨_,rfl⟩;subst al;go_wp2_with (at_make;refine wpList_make_full _ rfl _ _ 23 rfl l.heap.size 5 i0 (I .u8 0) 1 az Q a2 a3 U U _ _ 5 rfl rfl Y Y pr lB (ag _) ?_;intro w1 M q);have v:=H (rm M);have E:=H ((ar _ _).grown q (ag _) (λk h=>by cases h));clear M q;obtain⟨g,u⟩:∃g,l.heap.size=g:=⟨_,rfl⟩;have B:=H u;rw[u]at v ⊢;clear u;go_loopw [4,7] (λs j D=>∃(k:Nat) (i:List Nat),k<=5/\j=I U ((k:Int)-1)/\s=I U (f/85^(5-k):Nat)/\D.heap[g]?=O (BV (uI i).toArray 5 (0,0))/\wt (G i=5)/\wt (∀d,k<=d->d<5->nth i d=nth (jv f) d)/\wt (wm l.heap.size l D)) (λ_ j _=>(intOf j+1).toNat)
      case atStart=>exact⟨5,DJ 5 0,Y,rfl,cO,v,by simp[wt],λd h1 t=>Y,E⟩
      clear v E
      case round=>
       obtain⟨k,i,a9,rfl,rfl,n,m,y,z⟩:=hrel;by_cases X:k=0
       ·subst X;have hE:=Bk _ _ (by rw[m.o];rfl) (λd L=>y d (aw _) (by rw[m.o]at L;exact L));subst hE;have T:=H n;clear n;go_wp2;go_ret;rw[A.o];exact⟨_,rfl,ot T rfl 4 Y o0 _ vf,z⟩
       ·obtain⟨a,rfl⟩:∃a,k=a+1:=⟨k-1,Y⟩;obtain⟨x,hx⟩:∃x,wr.cell? ⟨g,a,N⟩=O x:=by rw[cb n];exact⟨_,bX (by simp[uI,m.o];omega)⟩
        have fx:wr.frozen? ⟨g,a,N⟩=CS:=pA n;obtain⟨F,J⟩:=a0.o a Y;have ei:((a+1:Nat):Int)-1=a:=Y;rw[ei];rw[show 5-(a+1)=4-a by omega]at *;obtain⟨e,K⟩:∃e,f/85^(4-a)=e:=⟨_,rfl⟩;have a8:e<=4294967295:=by rw[<-K];exact aJ (Nat.div_le_self _ _) P
        rw[K]at F J ⊢;have S:=H J;have gt:(e:Int).tmod 85=(e:Int)%85:=cM Y;have gw:IntKind.u8.wrap (33+(e:Int)%85)=((33+e%85:Nat):Int):=by rw[cA];omega
        have V:wt ((wr.setCell ⟨g,a,N⟩ (I .u8 ((33+e%85:Nat):Int))).heap[g]?=O (BV (uI (i.set a (33+e%85))).toArray 5 (0,0))):=by unfold Hid;rw[nu _ n];simp[uI,List.map_set]
        have R:=H (z.setCell (p:=⟨g,a,N⟩) o0 (I .u8 ((33+e%85:Nat):Int)));have C:wt ((i.set a (33+e%85)).length=5/\∀d,a<=d->d<5->nth (i.set a (33+e%85)) d=nth (jv f) d):=by
         refine⟨by rw[dZ];exact m,λd h1 t=>?_⟩;by_cases r:d=a;·subst r;rw[Bo _ _ _ (by rw[m.o];exact t),F]
         ·rw[Bm _ _ _ _ (λh=>r h.s)];exact y d Y t
        go_wp2;go_roundw
        case rel=>exact⟨a,_,Y,by go_num,by rw[<-S.o];go_num,V,C.1,C.2,R⟩
        case measure=>simp[intOf]
 ·have hc:¬(4:Int)<c.size:=Y;go_wp2;go_loopw [4,5] (λs j wr=>∃k:Nat,k<=4/\j=I U k/\s=I U (nj (bl c) k:Nat)/\wr=w) (λ_ j _=>4-(intOf j).toNat)
  case atStart=>exact⟨0,Y,rfl,rfl,rfl⟩
  case round=>
   obtain⟨k,hk,rfl,rfl,rfl⟩:=hrel;have hv:=HV.o k hk;have hs:=HS.o k;by_cases c4:k<4
   ·have bb:(k:Int)<4:=Y;by_cases ck:k<c.size
    ·have a7:(k:Int)<(c.size:Int):=Y;have aa:k<c.size:=Y;have bc:(k:Int)<c.size:=Y;have hx:=rT c k aa;have hb:=lJ c k aa;generalize nth (bl c) k=b at *;generalize nj (bl c) k=s at *;have W:=H hs;go_wp2;go_roundw
     case rel=>exact⟨k+1,Y,by go_num,by rw[W.o];go_num,by trivial⟩
     case measure=>exact eT
    ·have a7:¬(k:Int)<(c.size:Int):=Y;have hz:nth (bl c) k=0:=MF _ _ (by rw[mC];omega);rw[hz]at hs;generalize nj (bl c) k=s at *;have W:=H hs;go_wp2;go_roundw
     case rel=>exact⟨k+1,Y,by go_num,by rw[W.o];go_num,by trivial⟩
     case measure=>exact eT
   ·obtain rfl:k=4:=Y;rw[a6.o]at hv ⊢;have HB:=H hv;have ad:=H (ge c f hV);by_cases cz:c.size=4/\f=0
    ·have bd:(((c.size:Int):Int)==4)=CD:=by first|rfl|(simp;omega)
     have q:oG (bl c)=[122]:=by rw[ad.o,ak Y]
     have A:=H (a1.s.t q);go_wp2;go_ret;rw[A.o];exact⟨_,rfl,Ip (ag _) [122] cO,(ar _ _).alloc (ag _) _⟩
    ·have q:oG (bl c)=(jv f).take (c.size+1):=by rw[ad.o,aj Y,show min 4 c.size=c.size by omega]
     have A:=H (a1.s.t q);have P:=HB.o;have a0:=H (dn f P);rcases Ll c.size f cz with r|⟨r,c'⟩
     ·have c1:((c.size:Int)==4)=CS:=eS;obtain⟨l,al⟩:∃l,l=wr:=⟨_,rfl⟩;subst al;go_wp2_with (at_make;refine wpList_make_full _ rfl _ _ 23 rfl l.heap.size 5 i0 (I .u8 0) 1 az Q a2 a3 U U _ _ 5 rfl rfl Y Y pr lB (ag _) ?_;intro w1 M q);have v:=H (rm M);have E:=H ((ar _ _).grown q (ag _) (λk h=>by cases h));clear M q;obtain⟨g,u⟩:∃g,l.heap.size=g:=⟨_,rfl⟩;have B:=H u;rw[u]at v ⊢;clear u;go_loopw [4,7] (λs j D=>∃(k:Nat) (i:List Nat),k<=5/\j=I U ((k:Int)-1)/\s=I U (f/85^(5-k):Nat)/\D.heap[g]?=O (BV (uI i).toArray 5 (0,0))/\wt (G i=5)/\wt (∀d,k<=d->d<5->nth i d=nth (jv f) d)/\wt (wm l.heap.size l D)) (λ_ j _=>(intOf j+1).toNat)
      case atStart=>exact⟨5,DJ 5 0,Y,rfl,cO,v,by simp[wt],λd h1 t=>Y,E⟩
      clear v E
      case round=>
       obtain⟨k,i,a9,rfl,rfl,n,m,y,z⟩:=hrel;by_cases X:k=0
       ·subst X;have hE:=Bk _ _ (by rw[m.o];rfl) (λd L=>y d (aw _) (by rw[m.o]at L;exact L));subst hE;have T:=H n;clear n;go_wp2;go_ret;rw[A.o];exact⟨_,rfl,ot T rfl c.size Y o0 _ vf,z⟩
       ·obtain⟨a,rfl⟩:∃a,k=a+1:=⟨k-1,Y⟩;obtain⟨x,hx⟩:∃x,wr.cell? ⟨g,a,N⟩=O x:=by rw[cb n];exact⟨_,bX (by simp[uI,m.o];omega)⟩
        have fx:wr.frozen? ⟨g,a,N⟩=CS:=pA n;obtain⟨F,J⟩:=a0.o a Y;have ei:((a+1:Nat):Int)-1=a:=Y;rw[ei];rw[show 5-(a+1)=4-a by omega]at *;obtain⟨e,K⟩:∃e,f/85^(4-a)=e:=⟨_,rfl⟩;have a8:e<=4294967295:=by rw[<-K];exact aJ (Nat.div_le_self _ _) P
        rw[K]at F J ⊢;have S:=H J;have gt:(e:Int).tmod 85=(e:Int)%85:=cM Y;have gw:IntKind.u8.wrap (33+(e:Int)%85)=((33+e%85:Nat):Int):=by rw[cA];omega
        have V:wt ((wr.setCell ⟨g,a,N⟩ (I .u8 ((33+e%85:Nat):Int))).heap[g]?=O (BV (uI (i.set a (33+e%85))).toArray 5 (0,0))):=by unfold Hid;rw[nu _ n];simp[uI,List.map_set]
        have R:=H (z.setCell (p:=⟨g,a,N⟩) o0 (I .u8 ((33+e%85:Nat):Int)));have C:wt ((i.set a (33+e%85)).length=5/\∀d,a<=d->d<5->nth (i.set a (33+e%85)) d=nth (jv f) d):=by
         refine⟨by rw[dZ];exact m,λd h1 t=>?_⟩;by_cases r:d=a;·subst r;rw[Bo _ _ _ (by rw[m.o];exact t),F]
         ·rw[Bm _ _ _ _ (λh=>r h.s)];exact y d Y t
        go_wp2;go_roundw
        case rel=>exact⟨a,_,Y,by go_num,by rw[<-S.o];go_num,V,C.1,C.2,R⟩
        case measure=>simp[intOf]
     ·have ao:=H r;have c1:(((c.size:Int):Int)==4)=CD:=by first|rfl|(simp;omega)
      have c2:((f:Int)==0)=CS:=eS;obtain⟨l,al⟩:∃l,l=wr:=⟨_,rfl⟩;subst al;go_wp2_with (at_make;refine wpList_make_full _ rfl _ _ 23 rfl l.heap.size 5 i0 (I .u8 0) 1 az Q a2 a3 U U _ _ 5 rfl rfl Y Y pr lB (ag _) ?_;intro w1 M q);have v:=H (rm M);have E:=H ((ar _ _).grown q (ag _) (λk h=>by cases h));clear M q;obtain⟨g,u⟩:∃g,l.heap.size=g:=⟨_,rfl⟩;have B:=H u;rw[u]at v ⊢;clear u;go_loopw [4,7] (λs j D=>∃(k:Nat) (i:List Nat),k<=5/\j=I U ((k:Int)-1)/\s=I U (f/85^(5-k):Nat)/\D.heap[g]?=O (BV (uI i).toArray 5 (0,0))/\wt (G i=5)/\wt (∀d,k<=d->d<5->nth i d=nth (jv f) d)/\wt (wm l.heap.size l D)) (λ_ j _=>(intOf j+1).toNat)
      case atStart=>exact⟨5,DJ 5 0,Y,rfl,cO,v,by simp[wt],λd h1 t=>Y,E⟩
      clear v E
      case round=>
       obtain⟨k,i,a9,rfl,rfl,n,m,y,z⟩:=hrel;by_cases X:k=0
       ·subst X;have hE:=Bk _ _ (by rw[m.o];rfl) (λd L=>y d (aw _) (by rw[m.o]at L;exact L));subst hE;have T:=H n;clear n;go_wp2;go_ret;rw[A.o];exact⟨_,rfl,ot T rfl c.size Y o0 _ vf,z⟩
       ·obtain⟨a,rfl⟩:∃a,k=a+1:=⟨k-1,Y⟩;obtain⟨x,hx⟩:∃x,wr.cell? ⟨g,a,N⟩=O x:=by rw[cb n];exact⟨_,bX (by simp[uI,m.o];omega)⟩
        have fx:wr.frozen? ⟨g,a,N⟩=CS:=pA n;obtain⟨F,J⟩:=a0.o a Y;have ei:((a+1:Nat):Int)-1=a:=Y;rw[ei];rw[show 5-(a+1)=4-a by omega]at *;obtain⟨e,K⟩:∃e,f/85^(4-a)=e:=⟨_,rfl⟩;have a8:e<=4294967295:=by rw[<-K];exact aJ (Nat.div_le_self _ _) P
        rw[K]at F J ⊢;have S:=H J;have gt:(e:Int).tmod 85=(e:Int)%85:=cM Y;have gw:IntKind.u8.wrap (33+(e:Int)%85)=((33+e%85:Nat):Int):=by rw[cA];omega
        have V:wt ((wr.setCell ⟨g,a,N⟩ (I .u8 ((33+e%85:Nat):Int))).heap[g]?=O (BV (uI (i.set a (33+e%85))).toArray 5 (0,0))):=by unfold Hid;rw[nu _ n];simp[uI,List.map_set]
        have R:=H (z.setCell (p:=⟨g,a,N⟩) o0 (I .u8 ((33+e%85:Nat):Int)));have C:wt ((i.set a (33+e%85)).length=5/\∀d,a<=d->d<5->nth (i.set a (33+e%85)) d=nth (jv f) d):=by
         refine⟨by rw[dZ];exact m,λd h1 t=>?_⟩;by_cases r:d=a;·subst r;rw[Bo _ _ _ (by rw[m.o];exact t),F]
         ·rw[Bm _ _ _ _ (λh=>r h.s)];exact y d Y t
        go_wp2;go_roundw
        case rel=>exact⟨a,_,Y,by go_num,by rw[<-S.o];go_num,V,C.1,C.2,R⟩
        case measure=>simp[intOf]
def QI(a:List Nat):0<(oG a).length/\(oG a).length<=5:=by
 unfold oG;split;·simp
 ·rw[ax];simp[jv];omega
def eg(e:List Nat)(h:0<G e):jD e=oG e++jD (e.drop 4):=by
 match e,h with
 | [a],_=>
  have f:nj [a] 4=kj a 0 0 0:=by simp[nj,nth,kj];omega
  unfold oG;rw[f,aj cO];rfl
 | [a,b],_=>
  have f:nj [a,b] 4=kj a b 0 0:=by simp[nj,nth,kj];omega
  unfold oG;rw[f,aj cO];rfl
 | [a,b,c],_=>
  have f:nj [a,b,c] 4=kj a b c 0:=by simp[nj,nth,kj];omega
  unfold oG;rw[f,aj cO];rfl
 |a::b::c::d::e,_=>
  have f:nj (a::b::c::d::e) 4=kj a b c d:=by simp[nj,nth,kj];omega
  have i:(4<=(a::b::c::d::e).length/\kj a b c d=0)=(a=0/\b=0/\c=0/\d=0):=by simp only[ai,kj,eq_iff_iff];omega
  have j:min 4 (a::b::c::d::e).length+1=5:=by simp only[ai];omega
  have k:oG (a::b::c::d::e)=if a=0/\b=0/\c=0/\d=0 then[122]else jv (kj a b c d):=by
   unfold oG;rw[f,j];by_cases g:a=0/\b=0/\c=0/\d=0;·rw[ak g,ak (i▸g)]
   ·rw[aj g,aj (λh=>g (i▸h))];rfl
  rw[k];rfl
def IP(a:ByteArray)(k:Nat):(a.extract k a.size).size=a.size-k:=by rw[<-mC,Cl,aU,mC]
def Md{w:vz}{d e:Int}:∀(b:Nat) (c:wg),([I .u8 d,I .u8 e]:List wg)[b]?=O c->(w.alloc (BV #[I .u8 d,I .u8 e] 5)).cell? ((⟨w.heap.size,0,N⟩:wT).add b)=O c:=by
 intro b c a;match b,a with
 |0,a=>show(w.alloc _).cell? ⟨w.heap.size,0+0,N⟩=_;rw[World.cell?_alloc_new];exact a
 |1,a=>show(w.alloc _).cell? ⟨w.heap.size,0+1,N⟩=_;rw[World.cell?_alloc_new];exact a
 |b+2,a=>simp at a
def El(a:ByteArray)(hS:a.size<=200000):wh DG 36 #[I U 2,y7 a] w λd X=>d=BX (y7 (gj (jD (bl a))))/\Kept 5 w.heap.size [] w X:=by
 obtain⟨F,u,C,D,E⟩:=bR infoByte;have v:=H (mC a);obtain⟨c,t⟩:∃c,w.heap.size=c:=⟨_,rfl⟩;rw[t];have J:=H t
 go_in
 go_wp2;go_loopw [5,7] (λW o wr=>∃(k:Nat) (b:List Nat),k<=a.size+3/\o=I U k/\wr.ownsRow c 5 1 W (G b) (b.map λd:Nat=>I .u8 (d:Int))/\wt (G b<=2*k/\b++jD ((bl a).drop k)=jD (bl a))/\Kept 5 c [] w wr) (λ_ o _=>a.size+3-(intOf o).toNat)
 case atStart=>exact⟨0,[],aw _,rfl,bI _ _ _ _,⟨cO,cO⟩,Kept.refl _ _ _ _⟩
 case round=>
  obtain⟨k,b,hk,rfl,m,f,q⟩:=hrel;have ao:=q.size;have A:wt (c<=wr.heap.size):=by have:=J.o;unfold Hid;omega
  by_cases ad:k<a.size
  ·have S:(k:Int)<a.size:=Y;have al:(k:Int)<=a.size:=Y;go_wp2_with fail;refine(PM (a.extract k a.size) (by rw[IP];omega)).m ?_;rintro aa w1 ⟨v1,rfl,ho1,i⟩;rw[Cl]at ho1;have R:=QI ((bl a).drop k);have z:=eg ((bl a).drop k) (by rw[aU,v.o];omega);rw[eq]at z;generalize oG ((bl a).drop k)=e at *;obtain⟨j,M,rfl,hg⟩:=yJ ho1 Y;have y:=wK m i;have V:=Kept.thenBelow q i;have T:wt (c<=w1.heap.size):=by have:=A.o;have:=i.size;unfold Hid;omega
   have h:=H R;have L:=H z;have K:=H ho1;go_wp2_with (at_builtin;refine aX _ rfl (.tmp 44) (.tmp 48) 23 rfl c 5 F (I .u8 0) 1 1 az u C D E rfl bF _ _ _ rfl y ⟨j,0,N⟩ (G e) M (e.map λd:Nat=>I .u8 (d:Int)) rfl cO ?hnews ?hone ?h63 ?hby ?hbs ?_)
   case hnews=>exact K.cells (g:=j) rfl
   case hone=>intro a0 B;simp at B;obtain⟨d,_,rfl⟩:=B;rfl
   case h63=>have:=f.o.1;have:=h.o;unfold maxLen;omega
   case hby=>have:=f.o.1;have:=h.o;omega
   case hbs=>have:=T.o;omega
   intro r s n l _;have p:=V.grown l (oQ y);have g:s.ownsRow c 5 1 r (b++e).length ((b++e).map λd:Nat=>I .u8 (d:Int)):=by rw[aI,ab];exact n
   have Q:wt ((b++e).length<=2*(k+4)/\(b++e)++jD ((bl a).drop (k+4))=jD (bl a)):=by refine⟨by have:=f.o.1;have:=h.o;rw[ab];omega,?_⟩;rw[<-f.o.2,L.o,au]
   go_wp2;go_roundw
   case rel=>exact⟨k+4,_,Y,by go_num,g,Q,p⟩
   case measure=>exact eT
  ·have S:¬(k:Int)<a.size:=Y;have P:wt (b++[126,62]=jD (bl a)):=by have:=f.o.2;rw[cY (by rw[v.o];omega)]at this;exact this
   have x:=H f.1;go_wp2_with (at_builtin;refine aX _ rfl (.tmp 50) (.tmp 51) 23 rfl c 5 F (I .u8 0) 1 1 az u C D E rfl bF _ _ _ rfl (m.alloc _) ⟨wr.heap.size,0,N⟩ 2 2 [I .u8 126,I .u8 62] rfl rfl Md ?c2 ?c3 ?c4 ?c5 ?_)
   case c2=>exact⟨rfl,rfl⟩
   case c3=>have:=x.o;unfold maxLen;omega
   case c4=>have:=x.o;omega
   case c5=>have:=A.o;simp;omega
   intro r s n l _;have p:=(q.alloc _).grown l (oQ (m.alloc _));have g:s.ownsRow c 5 1 r (b++[126,62]).length ((b++[126,62]).map λd:Nat=>I .u8 (d:Int)):=by rw[aI,ab];exact n
   rw[P.o]at g;have ac:=AU g;go_wp2;go_ret;exact⟨rfl,p⟩
def Kd(a:List Nat)(h:0<G a):kw a (129-0) 0=iQ a:=Eu Y ⟨h,Y,rfl⟩
def Ou(a:ByteArray)(n:0<a.size)(A:a.size<=200000):wh DG 72 #[y7 a] w λt z=>t=BX (I U (iQ (bl a):Nat))/\wm w.heap.size w z:=by
 have p:=H (mC a);have m:=H (Kd (bl a) (by rw[mC];exact n));generalize u:iQ (bl a)=r at *;clear u
 go_in
 go_wp2;go_loopw [3] (λj wr=>∃k:Nat,k<=128/\k<=a.size/\j=I U k/\wt (kw (bl a) (129-k) k=r)/\wm w.heap.size w wr) (λj _=>128-(intOf j).toNat)
 case atStart=>exact⟨0,Y,Y,rfl,m,ar _ _⟩
 clear m
 case round=>
  obtain⟨k,i,B,rfl,d,g⟩:=hrel;by_cases l:k<a.size
  ·have v:decide ((k:Int)<a.size)=CD:=eS;by_cases q:k<128
   ·have x:decide ((k:Int)<128)=CD:=eS;have C:=rT a k l;have D:=rT a 0 n;have E:(k:Int)<a.size:=Y;by_cases f:nth (bl a) k=nth (bl a) 0
    ·have c:=d.o;rw[Eu i ⟨by rw[p.o];exact l,q,f⟩]at c;have e:=H c;have y:((nth (bl a) k:Int)==(nth (bl a) 0:Int))=CD:=by simp[f]
     generalize nth (bl a) k=s at *;generalize nth (bl a) 0=b at *;clear f c d;go_wp2_with fail;go_quiet (fail);go_wp2;go_roundw
     case rel=>exact⟨k+1,Y,Y,by go_num,e,ud g _⟩
     case measure=>exact eT
    ·have c:=d.o;rw[FI i (λh=>f h.2.2)]at c;have e:=H c;have y:((nth (bl a) k:Int)==(nth (bl a) 0:Int))=CS:=eS;generalize nth (bl a) k=s at *;generalize nth (bl a) 0=b at *;clear f c d;go_wp2_with fail;go_quiet (fail);go_wp2;go_ret;exact⟨by rw[e.o];rfl,ud g _⟩
   ·have x:decide ((k:Int)<128)=CS:=eS;have c:=d.o;rw[FI i (λh=>q h.2.1)]at c;have e:=H c;clear c d;go_wp2_with fail;go_quiet (fail);go_wp2;go_ret;exact⟨by rw[e.o];rfl,ud g _⟩
  ·have v:decide ((k:Int)<a.size)=CS:=eS;have c:=d.o;rw[FI i (λh=>l (by have:=h.1;rw[p.o]at this;exact this))]at c;have e:=H c;clear c d;go_wp2_with fail;go_quiet (fail);go_wp2;go_ret;exact⟨by rw[e.o];rfl,ud g _⟩
def Ow(a:ByteArray)(B:a.size<=200000):wh DG 73 #[y7 a] w λs A=>s=BX (I U (jF (bl a):Nat))/\wm w.heap.size w A:=by
 have i:=H (mC a);have p:wt (lM (bl a) (129-0) 0=jF (bl a)):=rfl;generalize t:jF (bl a)=q at *;clear t
 go_in
 go_wp2;go_loopw [3] (λm wr=>∃k:Nat,k<=128/\k<=a.size/\m=I U k/\wt (lM (bl a) (129-k) k=q)/\wm w.heap.size w wr) (λm _=>128-(intOf m).toNat)
 case atStart=>exact⟨0,Y,Y,rfl,p,ar _ _⟩
 clear p
 case round=>
  obtain⟨k,g,C,rfl,d,f⟩:=hrel;by_cases l:k<a.size
  ·have u:(k:Int)<a.size:=Y;by_cases v:k=128
   ·have c:=d.o;rw[Fv g (λh=>Y)]at c;have e:=H c;have x:((k:Int)==128)=CD:=eS;clear c d v;go_wp2_with fail;go_quiet (fail);go_wp2;go_ret;exact⟨by rw[e.o];rfl,ud f _⟩
   ·have x:((k:Int)==128)=CS:=eS;have D:IntKind.i64.wrap ((k:Int)+1)=(k:Int)+1:=by rw[bu];omega
    by_cases n:k+1<a.size
    ·have y:decide ((k:Int)+1<a.size)=CD:=eS;have K:(k:Int)+1<a.size:=Y;have J:(0:Int)<=(k:Int)+1:=Y;have F:=rT a (k+1) n;have E:=rT a k l;by_cases j:nth (bl a) k=nth (bl a) (k+1)
     ·have c:=d.o;rw[Fv g (λh=>h.2.2 ⟨by rw[i.o];exact n,j⟩)]at c;have e:=H c;have z:((nth (bl a) k:Int)==(nth (bl a) (k+1):Int))=CD:=by simp[j]
      generalize nth (bl a) (k+1)=b at *;generalize nth (bl a) k=r at *;clear j c d;go_wp2_with fail;go_quiet (fail);go_wp2;go_ret;exact⟨by rw[e.o];rfl,ud f _⟩
     ·have c:=d.o;rw[DS g ⟨by rw[i.o];exact l,Y,λh=>j h.2⟩]at c;have e:=H c;have z:((nth (bl a) k:Int)==(nth (bl a) (k+1):Int))=CS:=eS;generalize nth (bl a) (k+1)=b at *;generalize nth (bl a) k=r at *;clear j c d;go_wp2_with fail;go_quiet (fail);go_wp2;go_roundw
      case rel=>exact⟨k+1,Y,Y,by go_num,e,ud f _⟩
      case measure=>exact eT
    ·have y:decide ((k:Int)+1<a.size)=CS:=eS;have c:=d.o;rw[DS g ⟨by rw[i.o];exact l,Y,λh=>n (by have:=h.1;rw[i.o]at this;exact this)⟩]at c;have e:=H c;clear c d;go_wp2_with fail;go_quiet (fail);go_wp2;go_roundw
     case rel=>exact⟨k+1,Y,Y,by go_num,e,ud f _⟩
     case measure=>exact eT
  ·have u:¬(k:Int)<a.size:=Y;obtain rfl:k=a.size:=Y;have c:=d.o;rw[Fv g (λh=>by have:=h.1;rw[i.o]at this;exact l this)]at c;have e:=H c;clear c d;go_wp2;go_ret;exact⟨by rw[e.o];rfl,f⟩
def Iy:∀(c d:Nat) (a:List Nat),G a<c->G a<d->js c a=js d a
 |0,_,_,h,_=>Y
 |_,0,_,_,h=>Y
 |c+1,d+1,a,h,f=>by
  unfold js;by_cases e:G a=0;·rw[ak e,ak e]
  ·rw[aj e,aj e];by_cases b:1<iQ a
   ·have:=ny a Y;rw[ak b,ak b,Iy c d _ mO mO]
   ·have:=nW a Y b;rw[aj b,aj b,Iy c d _ mO mO]
def Je(a:List Nat)(h:0<G a)(b:1<iQ a):je a=[257-iQ a,nth a 0]++je (a.drop (iQ a)):=by
 have:=ny a h;unfold je;rw[show js (G a+1) a=_ from rfl];conv=>lhs;unfold js
 rw[aj Y,ak b,Iy (G a) ((a.drop (iQ a)).length+1) _ mO Y];rfl
def P0(a:List Nat)(h:0<G a)(b:¬1<iQ a):je a=[jF a-1]++(a.take (jF a)++je (a.drop (jF a))):=by
 have:=nW a h b;unfold je;conv=>lhs;unfold js
 rw[aj Y,aj b,Iy (G a) ((a.drop (jF a)).length+1) _ mO Y];rfl
def Tj(b:ByteArray)(k a:Nat)(h:k+a<=b.size):(b.extract k (k+a)).size=a:=by rw[<-mC,bp b k a h,ax,aU,mC];omega
def Pm{w:vz}{d:Int}:∀(b:Nat) (c:wg),([I .u8 d]:List wg)[b]?=O c->(w.alloc (BV #[I .u8 d] 5)).cell? ((⟨w.heap.size,0,N⟩:wT).add b)=O c:=by
 intro b c a;match b,a with
 |0,a=>show(w.alloc _).cell? ⟨w.heap.size,0+0,N⟩=_;rw[World.cell?_alloc_new];exact a
 |b+1,a=>simp at a
def Sv(a:ByteArray)(hS:a.size<=200000):wh DG 36 #[I U 3,y7 a] w λg w'=>g=BX (y7 (gj (je (bl a))))/\Kept 5 w.heap.size [] w w':=by
 obtain⟨z,t,x,r,y⟩:=bR infoByte;have u:=H (mC a);obtain⟨e,W⟩:∃e,w.heap.size=e:=⟨_,rfl⟩;rw[W];have HB:=H W
 go_in
 go_wp2;go_loopw [5,8] (λbh R wr=>∃(k:Nat) (d:List Nat),k<=a.size/\R=I U k/\wr.ownsRow e 5 1 bh (G d) (d.map λg:Nat=>I .u8 (g:Int))/\wt (G d<=2*k/\d++je ((bl a).drop k)=je (bl a))/\Kept 5 e [] w wr) (λ_ R _=>a.size-(intOf R).toNat)
 case atStart=>exact⟨0,[],aw _,rfl,bI _ _ _ _,⟨cO,cO⟩,Kept.refl _ _ _ _⟩
 case round=>
  obtain⟨k,d,hk,rfl,P,i,S⟩:=hrel;have bs:=S.size;have ao:wt (e<=wr.heap.size):=by have:=HB.o;unfold Hid;omega
  by_cases a7:k<a.size
  ·have a8:(k:Int)<a.size:=Y;have br:(k:Int)<=a.size:=Y;have v:0<((bl a).drop k).length:=by rw[aU,u.o];omega
   have aa:wt (((bl a).drop k).length=a.size-k):=by unfold Hid;rw[aU,u.o]
   have al:=ny ((bl a).drop k) v;rw[aa.o]at al;have B:=H (Ou (w:=wr) (a.extract k a.size) (by rw[IP];omega) (by rw[IP];omega));rw[Cl]at B;have D:=H (Je ((bl a).drop k) v);have V:=H (P0 ((bl a).drop k) v);have ad:=H (λa3=>by have:=nW _ v a3;rw[aa.o]at this;exact this);have a9:nth ((bl a).drop k) 0=nth (bl a) k:=by simp[nth]
   have hx:=rT a k a7;rw[a9]at D;generalize nth (bl a) k=b at *;obtain⟨f,hn⟩:∃f,iQ ((bl a).drop k)=f:=⟨_,rfl⟩;rw[hn]at al B D V ad;go_wp2_with fail;apply B.o.m;rintro a5 T ⟨rfl,J⟩;have Q:=wK P J;have k1:=Kept.thenBelow S J;have a0:wt (e<=T.heap.size):=by have:=ao.o;have:=J.size;unfold Hid;omega
   by_cases l:1<f
   ·have a4:(1:Int)<f:=Y;have gw:IntKind.u8.wrap (257-(f:Int))=((257-f:Nat):Int):=by rw[cA];omega
    have n:=D.o l;rw[eq]at n;have E:=H n;go_wp2_with (at_builtin;refine aX _ rfl (.tmp 64) (.tmp 71) 23 rfl e 5 z (I .u8 0) 1 1 az t x r y rfl bF _ _ _ rfl (Q.alloc _) ⟨T.heap.size,0,N⟩ 2 2 ([257-f,b].map λg:Nat=>I .u8 (g:Int)) rfl rfl Md ?c2 ?c3 ?c4 ?c5 ?_)
    case c2=>intro bf q;simp at q;rcases q with rfl|rfl<;>rfl
    case c3=>have:=i.o.1;unfold maxLen;omega
    case c4=>have:=i.o.1;omega
    case c5=>have:=a0.o;simp;omega
    intro A o m M _;have s:=(k1.alloc _).grown M (oQ (Q.alloc _));have j:o.ownsRow e 5 1 A (d++[257-f,b]).length ((d++[257-f,b]).map λg:Nat=>I .u8 (g:Int)):=by rw[aI,ab];exact m
    have L:wt ((d++[257-f,b]).length<=2*(k+f)/\(d++[257-f,b])++je ((bl a).drop (k+f))=je (bl a)):=by refine⟨by have:=i.o.1;rw[ab];simp;omega,?_⟩;rw[<-i.o.2,E.o,au]
    go_wp2;go_roundw
    case rel=>exact⟨k+f,_,Y,by go_num,j,L,s⟩
    case measure=>exact eT
   ·have a4:¬(1:Int)<f:=Y;have C:=H (Ow (w:=T) (a.extract k a.size) (by rw[IP];omega));rw[Cl]at C;obtain⟨m1,m2,m3⟩:=ad.o l;have n:=V.o l;rw[eq]at n;obtain⟨c,hm⟩:∃c,jF ((bl a).drop k)=c:=⟨_,rfl⟩;rw[hm]at C m1 m2 m3 n;have E:=H n;have gw:IntKind.u8.wrap ((c:Int)-1)=((c-1:Nat):Int):=by rw[cA];omega
    go_wp2_with fail;apply C.o.m;rintro a5 o ⟨rfl,K⟩;have m:=wK Q K;have s:=Kept.thenBelow k1 K;have a1:wt (e<=o.heap.size):=by have:=a0.o;have:=K.size;unfold Hid;omega
    have tok:True:=trivial;go_wp2_with (at_builtin;have _t:=tok;refine aX _ rfl (.tmp 77) (.tmp 81) 23 rfl e 5 z (I .u8 0) 1 1 az t x r y rfl bF _ _ _ rfl (m.alloc _) ⟨o.heap.size,0,N⟩ 1 1 ([c-1].map λg:Nat=>I .u8 (g:Int)) rfl rfl ?c1 ?c2 ?c3 ?c4 ?c5 ?_)
    case c1=>exact Pm
    case c2=>intro bf q;simp at q;subst q;rfl
    case c3=>have:=i.o.1;unfold maxLen;omega
    case c4=>have:=i.o.1;omega
    case c5=>have:=a1.o;simp;omega
    intro A w3 j X _;have k3:=(s.alloc _).grown X (oQ (m.alloc _));have bd:wt (e<=w3.heap.size):=by have:=a1.o;have:=X.size;unfold Hid;simp at this;omega
    have q1:(k:Int)+c<=a.size:=Y;have q2:(k:Int)<=(k:Int)+c:=Y;have q3:((k:Int)+(c:Int)).toNat=k+c:=Y;have bc:wt (∀F:vz,Src DG 1 9 (y7 (a.extract k (k+c))) c (uI (((bl a).drop k).take c)) F):=λF=>by have h:=Src.ofString (w:=F) dC (a.extract k (k+c));rw[Tj a k c Y,OB,bp a k c Y]at h;exact h
    have a2:wt ((((bl a).drop k).take c).length=c):=by unfold Hid;rw[ax,aU,u.o];omega
    generalize ((bl a).drop k).take c=p at *;go_wp2_with (at_builtin;refine AC rfl (.tmp 83) (.tmp 89) 23 9 rfl e 5 z (I .u8 0) 1 az t x r y rfl _ _ _ rfl j (y7 (a.extract k (k+c))) c (uI p) rfl (by rw[r];exact bc _) Y ?h63 ?hby ?hbs ?_)
    case h63=>have:=i.o.1;unfold maxLen;omega
    case hby=>have:=i.o.1;omega
    case hbs=>exact bd
    intro v4 w4 ba a6;have k4:=k3.grown a6 (oQ j);have bb:w4.ownsRow e 5 1 v4 (d++[c-1]++p).length ((d++[c-1]++p).map λg:Nat=>I .u8 (g:Int)):=by rw[aI,aI,ab,ab,a2.o,au];exact ba
    have L:wt ((d++[c-1]++p).length<=2*(k+c)/\(d++[c-1]++p)++je ((bl a).drop (k+c))=je (bl a)):=by refine⟨by have:=i.o.1;rw[ab,ab,a2.o];simp;omega,?_⟩;rw[<-i.o.2,E.o,au,au]
    go_wp2;go_roundw
    case rel=>exact⟨k+c,_,Y,by go_num,bb,L,k4⟩
    case measure=>exact eT
  ·have a8:¬(k:Int)<a.size:=Y;have hE:wt (d++[128]=je (bl a)):=by have:=i.o.2;rw[cY (by rw[u.o];omega)]at this;exact this
   have ac:=H i.1;go_wp2_with (at_builtin;refine aX _ rfl (.tmp 94) (.tmp 95) 23 rfl e 5 z (I .u8 0) 1 1 az t x r y rfl bF _ _ _ rfl (P.alloc _) ⟨wr.heap.size,0,N⟩ 1 1 [I .u8 128] rfl rfl ?c1 ?c2 ?c3 ?c4 ?c5 ?_)
   case c2=>rfl
   case c3=>have:=ac.o;unfold maxLen;omega
   case c4=>have:=ac.o;omega
   case c5=>have:=ao.o;simp;omega
   intro A o m M _;have s:=(S.alloc _).grown M (oQ (P.alloc _));have j:o.ownsRow e 5 1 A (d++[128]).length ((d++[128]).map λg:Nat=>I .u8 (g:Int)):=by rw[aI,ab];exact m
   rw[hE.o]at j;have bm:=AU j;go_wp2;go_ret;exact⟨rfl,s⟩
end
section
variable{d:List Nat}{a:Nat}
def ah{b f:Nat}{r:List Nat}(h:d.drop b=f::r):b<G d/\nth d b=f/\d.drop (b+1)=r:=by
 have e:b<G d:=by
  rcases cW b (G d) with c|c;·exact c
  ·rw[cY c]at h;cases h
 rw[b_ e]at h;simp only[List.cons.injEq]at h;exact⟨e,by rw[<-h.1];simp[nth,e],h.2⟩
def ae{b:Nat}(h:d.drop b=[]):G d<=b:=List.drop_eq_nil_iff.1 h
def CC{b c:Nat}{r:List Nat}(h:d.drop b=c::r)(f:wB c=CS):iU d b=b:=GS (λe=>by rw[(ah h).2.1,f]at e;cases e.2)
def Tk{b:Nat}(h:d.drop b=[]):iU d b=b:=GS (λc=>by have:=ae h;omega)
def JY{c:Nat}{b:List Nat}(h:d.drop c=[]):tP d c b=.ok b:=by unfold tP;rw[Tk h,aj (by have:=ae h;omega)]
def Ma(b:Nat)(h:b<16):wB (gR b)=CS/\gR b≠62:=by have:∀b:Fin 16,wB (gR b.val)=CS/\gR b.val≠62:=bF;exact this ⟨b,h⟩
def Mb:∀(e:List Nat) (f:Nat) (g:List Nat) (h:Nat),d.drop f=iL e++[62]->(∀k∈e,k<256)->G g+G e<=a->G e<h->Cr d a h f g=.ok (g++e)
 | [],f,g,h+1,c,_,_,_=>by have c:d.drop f=62::[]:=c;obtain⟨o,j,i⟩:=ah c;unfold Cr;rw[CC c bF,aj Y,j,ak rfl,JY i,bP]
 |b::e,f,g,h+1,c,l,s,r=>by rw[qD]at c;have c:d.drop f=gR (b/16)::(gR (b%16)::(iL e++[62])):=c;obtain⟨o,j,i⟩:=ah c;obtain⟨u,p,q⟩:=ah i;have v:=l b cO;have m:=Ma (b/16) Y;have n:=Ma (b%16) Y;simp only[ai]at s r;unfold Cr;rw[CC c m.1,aj Y,j,aj m.2,sh _ Y];simp only[];rw[CC i n.1,aj Y,p,aj n.2,sh _ Y];simp only[];rw[ak Y,Mb e (f+1+1) (g++[16*(b/16)+b%16]) h q (λk t=>l k (by simp[t])) eS Y];rw[show 16*(b/16)+b%16=b by omega];simp
def JT:∀(f:Nat) (b:List Nat) (e:Nat) (h:List Nat) (j:Nat),d.drop e=js f b->G b<f->(∀m∈b,m<256)->G h+G b<=a->(js f b).length<j->rD d a j e h=.ok (h++b)
 |0,b,e,h,j,_,A,_,_,_=>Y
 |f+1,b,e,h,0,_,_,_,_,i=>Y
 |f+1,b,e,h,j+1,g,A,s,M,i=>by
  unfold js at g i;by_cases q:G b=0
  ·rw[ak q]at g;obtain⟨n,x,y⟩:=ah g;have:=ae y;obtain rfl:=cD.1 q;unfold rD;rw[aj Y,x,ak rfl,aj Y,bP]
  ·rw[aj q]at g i;by_cases n:1<iQ b
   ·rw[ak n]at g i;simp only[ai]at i;obtain⟨J,K,L⟩:=ny b Y;have E:=rK b 128 1 (λl o=>by rw[show l=0 by omega]);generalize D:iQ b=c at *;obtain⟨t,p,k⟩:=ah g;obtain⟨u,v,w⟩:=ah k;unfold rD;rw[aj Y,p,aj Y,aj Y,ak u,show 257-(257-c)=c by omega,ak Y,v];have C:DJ c (nth b 0)=b.take c:=by
     apply List.ext_getElem?;intro l;rw[List.getElem?_replicate];by_cases o:l<c
     ·rw[ak o,dq o,af Y];have:=E l (by unfold iQ at D;omega);rw[<-this];simp[nth,show l<G b by omega]
     ·rw[aj o,List.getElem?_eq_none mH]
    rw[C,JT f (b.drop c) (e+2) (h++b.take c) j w mO (λm r=>s m (dW r)) (by rw[ab,ax,aU];omega) Y];rw[au,cQ]
   ·rw[aj n]at g i;simp only[ai,ab]at i;obtain⟨J,K,L⟩:=nW b Y n;generalize jF b=c at *;obtain⟨t,p,k⟩:=ah g;have B:e+1+c<=G d:=by have:=cX List.length k;rw[aU,ab,ax]at this;omega
    have F:(d.drop (e+1)).take c=b.take c:=by rw[k,List.take_append_of_le_length mH,List.take_take,Nat.min_self]
    have z:d.drop (e+1+c)=js f (b.drop c):=by rw[<-eq,k,List.drop_append_of_le_length mH,List.drop_take,eJ,List.take_zero,cU]
    unfold rD;rw[aj Y,p,aj Y,ak Y,show c-1+1=c by omega,ak B,ak Y,F];rw[JT f (b.drop c) (e+1+c) (h++b.take c) j z mO (λm r=>s m (dW r)) (by rw[ab,ax,aU];omega) Y];rw[au,cQ]
def Cs{b:Nat}(h:33<=b):wB b=CS:=by unfold wB;simp only[Bool.or_eq_false_iff,beq_eq_false_iff_ne];omega
def yE{c b k h e:Nat}{i r:List Nat}(g:d.drop c=b::r)(f:33<=b)(l:b<=117)(o:k<4):aD d a (e+1) c k h i=aD d a e (c+1) (k+1) (h*85+(b-33)) i:=by
 obtain⟨m,j,n⟩:=ah g;conv=>lhs;unfold aD
 rw[CC g (Cs f),aj Y,j,aj Y,ak ⟨f,l⟩,aj Y]
def dig_last{f b j g c:Nat}{e r:List Nat}(i:d.drop f=b::r)(h:33<=b)(l:b<=117)(m:j*85+(b-33)=c)(q:c<4294967296)(n:G e+4<=a):aD d a (g+1) f 4 j e=aD d a g (f+1) 0 0 (e++aO c):=by
 obtain⟨o,k,p⟩:=ah i;conv=>lhs;unfold aD
 rw[CC i (Cs h),aj Y,k,aj Y,ak ⟨h,l⟩,ak rfl,m,aj Y,ak n]
def Jc{f k b m:Nat}{c:List Nat}(e:d.drop f=[126,62])(p:2<=k)(q:k<=4)(r:rJ b k<4294967296)(n:G c+(k-1)<=a):aD d a (m+1) f k b c=.ok (c++(aO (rJ b k)).take (k-1)):=by obtain⟨o,g,h⟩:=ah e;obtain⟨i,j,l⟩:=ah h;unfold aD;rw[CC e bF,aj Y,g,aj Y,aj Y,ak ⟨rfl,i,j,Y⟩,aj Y,aj Y,ak n,JY l]
def KQ{f b:Nat}{e:List Nat}(c:d.drop f=jD ([]:List Nat))(p:∀n∈([]:List Nat),n<256)(q:G e+([]:List Nat).length<=a)(g:(jD ([]:List Nat)).length<b):aD d a b f 0 0 e=.ok (e++([]:List Nat)):=by obtain⟨b,rfl⟩:∃m,b=m+1:=⟨b-1,by have g:2<b:=g;omega⟩;have c:d.drop f=[126,62]:=c;obtain⟨o,h,i⟩:=ah c;obtain⟨j,k,l⟩:=ah i;unfold aD;rw[CC c bF,aj Y,h,aj Y,aj Y,ak ⟨rfl,j,k,Y⟩,ak rfl,JY l,bP]
def de(b:Nat):∃c e f g h,jv b=[c,e,f,g,h]:=⟨_,_,_,_,_,rfl⟩
def CR{i g:Nat}{h:List Nat}{b:Nat}(f:d.drop i=jD [b])(z:∀o∈[b],o<256)(B:G h+[b].length<=a)(s:(jD [b]).length<g):aD d a g i 0 0 h=.ok (h++[b]):=by obtain⟨g,rfl⟩:∃x,g=x+3:=⟨g-3,by have s:4<g:=s;omega⟩;have r:=z b cO;obtain⟨n,j⟩:=Ew r;have y:=BS r (show 0<256 by omega) (show 0<256 by omega) (show 0<256 by omega);have m:=dr y;have f:d.drop i=(jv (kj b 0 0 0)).take 2++[126,62]:=f;generalize kj b 0 0 0=v at *;obtain⟨c,e,k,l,C,A⟩:=de v;rw[A]at f m n j;have f:d.drop i=c::e::[126,62]:=f;obtain⟨_,_,p⟩:=ah f;obtain⟨_,_,w⟩:=ah p;have t:33<=c/\c<=117:=m 0 Y;have u:33<=e/\e<=117:=m 1 Y;have n:wL c e k l 2<=4294967295:=n;have j:(aO (wL c e k l 2)).take 1=[b]:=j;have q:rJ ((0*85+(c-33))*85+(e-33)) 2=wL c e k l 2:=rfl;rw[yE f t.1 t.2 Y,yE p u.1 u.2 Y,Jc w Y Y (by rw[q];omega) (by simp at B;omega),q];exact cX (λo=>Except.ok (h++o)) j
def CT{l i:Nat}{k:List Nat}{b c:Nat}(h:d.drop l=jD [b,c])(v:∀p∈[b,c],p<256)(F:G k+[b,c].length<=a)(w:(jD [b,c]).length<i):aD d a i l 0 0 k=.ok (k++[b,c]):=by obtain⟨i,rfl⟩:∃C,i=C+4:=⟨i-4,by have w:5<i:=w;omega⟩;have t:=v b cO;have u:=v c cO;obtain⟨o,m⟩:=Ex t u;have D:=BS t u (show 0<256 by omega) (show 0<256 by omega);have j:=dr D;have h:d.drop l=(jv (kj b c 0 0)).take 3++[126,62]:=h;generalize kj b c 0 0=A at *;obtain⟨e,f,g,n,J,E⟩:=de A;rw[E]at h j o m;have h:d.drop l=e::f::g::[126,62]:=h;obtain⟨_,_,q⟩:=ah h;obtain⟨_,_,r⟩:=ah q;obtain⟨_,_,B⟩:=ah r;have x:33<=e/\e<=117:=j 0 Y;have y:33<=f/\f<=117:=j 1 Y;have z:33<=g/\g<=117:=j 2 Y;have o:wL e f g n 3<=4294967295:=o;have m:(aO (wL e f g n 3)).take 2=[b,c]:=m;have s:rJ (((0*85+(e-33))*85+(f-33))*85+(g-33)) 3=wL e f g n 3:=rfl;rw[yE h x.1 x.2 Y,yE q y.1 y.2 Y,yE r z.1 z.2 Y,Jc B Y Y (by rw[s];omega) (by simp at F;omega),s];exact cX (λp=>Except.ok (k++p)) m
def CU{n k:Nat}{m:List Nat}{b c e:Nat}(j:d.drop n=jD [b,c,e])(p:∀r∈[b,c,e],r<256)(M:G m+[b,c,e].length<=a)(z:(jD [b,c,e]).length<k):aD d a k n 0 0 m=.ok (m++[b,c,e]):=by obtain⟨k,rfl⟩:∃J,k=J+5:=⟨k-5,by have z:6<k:=z;omega⟩;have w:=p b cO;have x:=p c cO;have y:=p e cO;obtain⟨q,o⟩:=Ey w x y;have K:=BS w x y (show 0<256 by omega);have l:=dr K;have j:d.drop n=(jv (kj b c e 0)).take 4++[126,62]:=j;generalize kj b c e 0=E at *;obtain⟨f,g,h,i,P,L⟩:=de E;rw[L]at j l q o;have j:d.drop n=f::g::h::i::[126,62]:=j;obtain⟨_,_,s⟩:=ah j;obtain⟨_,_,t⟩:=ah s;obtain⟨_,_,u⟩:=ah t;obtain⟨_,_,F⟩:=ah u;have A:33<=f/\f<=117:=l 0 Y;have B:33<=g/\g<=117:=l 1 Y;have C:33<=h/\h<=117:=l 2 Y;have D:33<=i/\i<=117:=l 3 Y;have q:wL f g h i 4<=4294967295:=q;have o:(aO (wL f g h i 4)).take 3=[b,c,e]:=o;have v:rJ ((((0*85+(f-33))*85+(g-33))*85+(h-33))*85+(i-33)) 4=wL f g h i 4:=rfl;rw[yE j A.1 A.2 Y,yE s B.1 B.2 Y,yE t C.1 C.2 Y,yE u D.1 D.2 Y,Jc F Y Y (by rw[v];omega) (by simp at M;omega),v];exact cX (λr=>Except.ok (m++r)) o
def CV{M:Nat}(L:∀(b:List Nat) (j:Nat) (k:List Nat) (c:Nat),G b<=M->d.drop j=jD b->(∀m∈b,m<256)->G k+G b<=a->(jD b).length<c->aD d a c j 0 0 k=.ok (k++b)){e f g h:Nat}{b:List Nat}{j c:Nat}{k:List Nat}(hl:(e::f::g::h::b).length<=M+1)(i:d.drop j=jD (e::f::g::h::b))(o:∀m∈(e::f::g::h::b),m<256)(hm:G k+(e::f::g::h::b).length<=a)(l:(jD (e::f::g::h::b)).length<c):aD d a c j 0 0 k=.ok (k++(e::f::g::h::b)):=by
 have B:=o e cO;have C:=o f cO;have D:=o g cO;have E:=o h cO;have J:∀m∈b,m<256:=λm hx=>o m (by simp[hx]);simp only[ai]at hl hm;have i:d.drop j=(if e=0/\f=0/\g=0/\h=0 then[122]else jv (kj e f g h))++jD b:=i;have l:((if e=0/\f=0/\g=0/\h=0 then[122]else jv (kj e f g h))++jD b).length<c:=l;by_cases v:e=0/\f=0/\g=0/\h=0
 ·rw[ak v]at i l;rw[ab]at l;have ac:1+(jD b).length<c:=l;obtain⟨c,rfl⟩:∃u,c=u+1:=⟨c-1,Y⟩;obtain⟨rfl,rfl,rfl,rfl⟩:=v;have i:d.drop j=122::jD b:=i;obtain⟨a1,V,W⟩:=ah i;have e1:aD d a (c+1) j 0 0 k=aD d a c (j+1) 0 0 (k++[0,0,0,0]):=by
   conv=>lhs;unfold aD
   rw[CC i bF,aj Y,V,ak ⟨rfl,rfl⟩,ak Y]
  rw[e1,L b (j+1) (k++[0,0,0,0]) c Y W J eS Y];simp
 ·rw[aj v]at i l;rw[ab]at l;obtain⟨c,rfl⟩:∃u,c=u+5:=⟨c-5,by have:(jv (kj e f g h)).length=5:=rfl;omega⟩;have h5:(jv (kj e f g h)).length=5:=rfl;rw[h5]at l;have F:=BS B C D E;have n:=dr F;have K:=PU F;have ho:=RX B C D E;generalize kj e f g h=w at *;obtain⟨p,q,r,s,t,hg⟩:=de w;rw[hg]at i n K;have i:d.drop j=p::q::r::s::t::jD b:=i;obtain⟨_,_,x⟩:=ah i;obtain⟨_,_,y⟩:=ah x;obtain⟨_,_,z⟩:=ah y;obtain⟨_,_,A⟩:=ah z;obtain⟨_,_,X⟩:=ah A;have P:33<=p/\p<=117:=n 0 Y;have Q:33<=q/\q<=117:=n 1 Y;have R:33<=r/\r<=117:=n 2 Y;have S:33<=s/\s<=117:=n 3 Y;have T:33<=t/\t<=117:=n 4 Y;have aa:((((0*85+(p-33))*85+(q-33))*85+(r-33))*85+(s-33))*85+(t-33)=w:=K;rw[yE i P.1 P.2 Y,yE x Q.1 Q.2 Y,yE y R.1 R.2 Y,yE z S.1 S.2 Y,dig_last A T.1 T.2 aa Y Y,ho];rw[L b (j+1+1+1+1+1) (k++[e,f,g,h]) c Y X J eS Y];simp
def KJ:∀(m:Nat) (g:List Nat) (k:Nat) (i:List Nat) (j:Nat),G g<=m->d.drop k=jD g->(∀p∈g,p<256)->G i+G g<=a->(jD g).length<j->aD d a j k 0 0 i=.ok (i++g)
 |0,g,k,i,j,h,c,b,f,e=>by obtain rfl:=cD.1 (Nat.le_zero.1 h);exact KQ c b f e
 |m+1,g,k,i,j,h,c,b,f,e=>by
  match g,h,c,b,f,e with
  | [],_,c,b,f,e=>exact KQ c b f e
  | [l],_,c,b,f,e=>exact CR c b f e
  | [l,n],_,c,b,f,e=>exact CT c b f e
  | [l,n,o],_,c,b,f,e=>exact CU c b f e
  |l::n::o::q::g,h,c,b,f,e=>exact CV (KJ m) h c b f e
def ue{i:Nat->Nat->List Bool->List Nat->Except Nat (List Bool×List Nat)->Prop}{e:Nat}{b c:List Nat}(f:∀j∈b,j<256)(g:G b<=a)(h:(e=1/\c=iL b++[62])\/(e=2/\c=jD b)\/(e=3/\c=je b)):yf i e a c (.ok b):=by
 rcases h with⟨rfl,rfl⟩|⟨rfl,rfl⟩|⟨rfl,rfl⟩;·exact C1 ⟨rfl,Mb b 0 [] _ rfl f pd (by simp[mn];omega)⟩
 ·exact C2 (C1 ⟨rfl,KJ _ b 0 [] _ (ag _) rfl f pd (Nat.lt_succ_self _)⟩)
 ·exact C2 (C2 (C1 ⟨rfl,JT _ b 0 [] _ rfl (Nat.lt_succ_self _) f pd (Nat.lt_succ_self _)⟩))
end
section
variable{B g e b cap:Nat}{d:List Nat}{a:Nat}{w:vz}{p:Nat}{h:wg}{c:List Nat}
def lH:Nat->List Nat->List Nat
 |0,_=>[]
 |i+1,f=>if (G f)=0 then[]else if 1<iQ f then(257-iQ f)::nth f 0::lH i (f.drop (iQ f))else(jF f-1)::(f.take (jF f)++lH i (f.drop (jF f)))
def pj:∀(f:Nat) (i:List Nat),js f i=lH f i++[128]
 |0,i=>rfl
 |f+1,i=>by
  unfold js lH;split;·rfl
  ·split;·rw[pj f];rfl
   ·rw[pj f];simp
def oM:∀(i:Nat) (f:List Nat),(lH i f).length<=2*G f
 |0,f=>by simp[lH]
 |i+1,f=>by
  unfold lH;split;·simp
  ·rename_i m;have k:0<G f:=Y;split
   ·rename_i l;have:=ny f k;have j:=oM i (f.drop (iQ f));rw[aU]at j;simp only[ai];omega
   ·rename_i l;have:=nW f k l;have j:=oM i (f.drop (jF f));rw[aU]at j;simp only[ai,ab,ax];omega
def nT:∀(k:Nat) (j:List Nat),(∀i∈j,i<256)->∀i∈lH k j,i<256
 |0,j,_=>by simp[lH]
 |k+1,j,l=>by
  unfold lH;split;·simp
  ·rename_i r;have m:0<G j:=Y;split
   ·rename_i q;have:=ny j m;intro i f;rcases cJ.1 f with rfl|f;·omega
    rcases cJ.1 f with rfl|f;·exact l _ (by simp[nth,m])
    ·exact nT k _ (λo n=>l o (dW n)) i f
   ·rename_i q;have:=nW j m q;intro i f;rcases cJ.1 f with rfl|f;·omega
    rcases aZ.1 f with f|f;·exact l i (cN f)
    ·exact nT k _ (λo n=>l o (dW n)) i f
end
section
variable{w:vz}{B cap:Nat}{ao:Option wT}{f:List Nat}
def D_(a b c d:Nat)(g:a<256)(h:b<256)(i:c<256)(j:d<256):bits .or .u32 (bits .or .u32 (bits .or .u32 ((a*16777216:Nat):Int) ((b*65536:Nat):Int)) ((c*256:Nat):Int)) ((d:Nat):Int)=((kj a b c d:Nat):Int):=by
 rw[u32_or_nat _ _ Y Y];have e1:a*16777216 ||| b*65536=a*16777216+b*65536:=by have:=Ir (b*65536) a 24 Y;rw[Nat.or_comm,show a*16777216=a*2^24 by omega,this];omega
 rw[e1,u32_or_nat _ _ Y Y];have e2:(a*16777216+b*65536) ||| c*256=a*16777216+b*65536+c*256:=by have:=Ir (c*256) (a*256+b) 16 Y;rw[Nat.or_comm,show a*16777216+b*65536=(a*256+b)*2^16 by omega,this];omega
 rw[e2,u32_or_nat _ _ Y Y];have e:(a*16777216+b*65536+c*256) ||| d=a*16777216+b*65536+c*256+d:=by have:=Ir d (a*65536+b*256+c) 8 Y;rw[Nat.or_comm,show a*16777216+b*65536+c*256=(a*65536+b*256+c)*2^8 by omega,this];omega
 rw[e];rfl
def r9(a:Nat):Nat->List Nat
 |0=>[0,0,0,0,0]
 |k+1=>(r9 a k).set (4-k) (33+a/85^k%85)
def PE{a:Nat}(h:a<=4294967295):r9 a 5=jv a:=by have:a/52200625%85=a/52200625:=Y;show[33+a/85^4%85,33+a/85^3%85,33+a/85^2%85,33+a/85^1%85,33+a/85^0%85]=jv a;unfold jv;simp only[show(85:Nat)^4=52200625 from rfl,show(85:Nat)^3=614125 from rfl,show(85:Nat)^2=7225 from rfl,show(85:Nat)^1=85 from rfl,show(85:Nat)^0=1 from rfl,Nat.div_one,this]
def PG(a k:Nat):(r9 a k).length=5:=by
 induction k with
 |zero=>rfl
 |succ k b=>simp[r9,b]
def Om(c d e h:Nat)(q:c<256)(r:d<256)(s:e<256)(t:h<256)(w:vz):wh DG 200 #[Bc #[I .u8 c,I .u8 d,I .u8 e,I .u8 h]] w λa0 w'=>a0=BX (Bc (bV (jv (kj c d e h))).toArray)/\wm w.heap.size w w':=by
 have M:=D_ c d e h q r s t;have Q:=BS q r s t;have ac:=H (PE Q);generalize kj c d e h=a at *;have a7:bits .or .u32 (bits .or .u32 (bits .or .u32 ((c:Int)*16777216) ((d:Int)*65536)) ((e:Int)*256)) (h:Int)=(a:Int):=by rw[show(c:Int)*16777216=((c*16777216:Nat):Int)by omega,show(d:Int)*65536=((d*65536:Nat):Int)by omega,show(e:Int)*256=((e*256:Nat):Int)by omega];exact M
 clear M
 go_in
 go_wp2;generalize m:World.alloc (World.alloc (World.alloc w _) _) _=l;have C:wm w.heap.size w l:=by rw[<-m];exact((((ar _ _).alloc (ag _) _).alloc cO _).alloc eS _)
 have E:l.heap[w.heap.size+1+1]?=O (BV #[I .u8 0,I .u8 0,I .u8 0,I .u8 0,I .u8 0] 184 (0,0)):=by rw[<-m];have:=bn ((w.alloc (BV #[I .u8 c,I .u8 d,I .u8 e,I .u8 h] 153)).alloc (BV #[I .u8 0,I .u8 0,I .u8 0,I .u8 0,I .u8 0] 184 (0,0))) (BV #[I .u8 0,I .u8 0,I .u8 0,I .u8 0,I .u8 0] 184 (0,0));simpa using this
 have D:l.heap[w.heap.size+1+1]?=O (BV (bV (r9 a 0)).toArray 184 (0,0)):=E;have F:l.heap[w.heap.size+1]?=O (BV #[I .u8 0,I .u8 0,I .u8 0,I .u8 0,I .u8 0] 184 (0,0)):=by rw[<-m];have:=nt (BV #[I .u8 0,I .u8 0,I .u8 0,I .u8 0,I .u8 0] 184 (0,0)) (bn (w.alloc (BV #[I .u8 c,I .u8 d,I .u8 e,I .u8 h] 153)) (BV #[I .u8 0,I .u8 0,I .u8 0,I .u8 0,I .u8 0] 184 (0,0)));simpa using this
 have aa:=H C;have V:=H D;have T:=H F;clear m C D E F a7 q r s t;go_loopw [3,5] (λba b wr=>∃k:Nat,k<=5/\b=I U (4-(k:Int))/\ba=I .u32 (a/85^k:Nat)/\wr.heap[w.heap.size+1+1]?=O (BV (bV (r9 a k)).toArray 184 (0,0))/\wr.heap[w.heap.size+1]?=O (BV #[I .u8 0,I .u8 0,I .u8 0,I .u8 0,I .u8 0] 184 (0,0))/\wm w.heap.size w wr) (λ_ b _=>(intOf b+1).toNat)
 case atStart=>exact⟨0,Y,rfl,by rw[Nat.pow_zero,Nat.div_one],V,T,aa⟩
 case round=>
  obtain⟨k,hk,rfl,rfl,i,j,bl⟩:=hrel;have z:wt (∀n,n=33+a/85^k%85->r9 a (k+1)=(r9 a k).set (4-k) n):=λn hD=>by rw[hD];rfl
  have HQ:wt (a/85^(k+1)=a/85^k/85):=by unfold Hid;rw[cR,c_]
  have hX:a/85^k<=4294967295:=aJ (Nat.div_le_self _ _) Q;generalize a/85^k=g at *;have L:=PG a k;by_cases bb:k<5
  ·obtain⟨b,u⟩:∃b,b=4-k:=⟨_,rfl⟩;have A:(4:Int)-k=(b:Int):=Y;rw[A];have J:b<5:=Y;obtain⟨R,hx⟩:∃R,wr.cell? ⟨w.heap.size+1+1,b,N⟩=O R:=by rw[cb i];exact⟨_,bX (by simp[bV,L];omega)⟩
   have fx:wr.frozen? ⟨w.heap.size+1+1,b,N⟩=CS:=pA i;have HN:wt ((wr.setCell ⟨w.heap.size+1+1,b,N⟩ (I .u8 (33+(g:Int)%85))).heap[w.heap.size+1+1]?=O (BV (bV (r9 a (k+1))).toArray 184 (0,0))):=by unfold Hid;rw[show(33+(g:Int)%85)=((33+g%85:Nat):Int)by omega,z.o (33+g%85) rfl,nu _ i,<-u];exact cX (λS=>O (Obj.cells S 184 (0,0))) (OM (r9 a k) b (33+g%85))
   have ad:wt ((wr.setCell ⟨w.heap.size+1+1,b,N⟩ (I .u8 (33+(g:Int)%85))).heap[w.heap.size+1]?=O (BV #[I .u8 0,I .u8 0,I .u8 0,I .u8 0,I .u8 0] 184 (0,0))):=by unfold Hid;rw[lK _ Y];exact j
   have W:=H (bl.setCell (p:=⟨w.heap.size+1+1,b,N⟩) (show w.heap.size<=w.heap.size+1+1 by omega) (I .u8 (33+(g:Int)%85)));have al:=H u;clear i j bl z L A u;go_wp2;go_roundw
   case rel=>exact⟨k+1,Y,by have:=al.o;congr 1;omega,by rw[HQ.o];exact cX (I .u32) (show((g:Int)/85)=((g/85:Nat):Int)by omega),HN,ad,W⟩
   case measure=>simp[intOf]
  ·obtain rfl:k=5:=Y;have a5:(4:Int)-((5:Nat):Int) = -1:=Y;rw[a5];rw[ac.o]at i;have x:(bV (jv a)).length=5:=by unfold bV;rw[aq];rfl
   have a3:=SM i;have J:wt ((Tryz.prog.info? 184).map (·.size)=O (bV (jv a)).length):=by unfold Hid;rw[x];kernel_rfl
   have P:=List.size_toArray.t x;have K:wt ((Tryz.prog.info? 184).map (·.size)=O (bV (jv a)).toArray.size):=by unfold Hid;rw[P];kernel_rfl
   have a8:wt (wr.there (w.heap.size+1) 0 (bV (jv a)).toArray.size):=by unfold Hid;rw[P];intro bc hj;refine⟨?_,pA j⟩;rw[cb j,bZ,bX (by simpa using hj)];rfl
   have a6:(bV (jv a)).toArray.all (·.oneCell')=CD:=by simp[bV,Value.oneCell']
   have a9:(#[I .u8 0,I .u8 0,I .u8 0,I .u8 0,I .u8 0]:Array wg).size=5:=rfl;have a4:=H (Ep (vs:=bV (jv a)) j (a9.t x.s));have a2:=H (xi (w.heap.size+1) w.heap.size Y (bV (jv a)) 0 _ _ bl);generalize a1:bV (jv a)=y at *;have X:=H a1;go_wp2_with (first|(refine wpList_load_mid rfl 184 (.tmp 4) rfl (w.heap.size+1+1) 0 rfl _ _ a3 underlying184 rfl J ?_)|(refine dt rfl 184 (.tmp 2) (.tmp 36) rfl (w.heap.size+1) 0 y.toArray rfl rfl a8 K a6 ?_));refine aK (v:=Bc y.toArray) ?_ rfl ⟨by rw[X.o],a2⟩;exact bk results200 _ _ (w.heap.size+1) 184 _ _ _ rfl a4 underlying184 rfl K
def Bv{B:Nat}{c:TypeId}{k:Nat}{g:wg}{e:Nat}{j:List wg}{w i:vz}(h:w.ownsRow B c k g e j)(b:wm w.heap.size w i):i.ownsRow B c k g e j:=by
 obtain⟨o,a⟩:=h;refine⟨o,?_⟩;rcases a with a|⟨n,l,m,e1,e2,d,p⟩;·exact C1 a
 ·exact C2 ⟨n,l,m,e1,e2,by rw[b.block _ (ap d)];exact d,p⟩
def Kept.thenB{e B:Nat}{a:List Nat}{c b d:vz}(h:Kept e B a c b)(k:wm b.heap.size b d):Kept e B a c d:=
 h.t ⟨k.os,k.tape,k.output,k.size,λi j _ g _=>by rw[k.block i (ap g)];exact g⟩
def pJ(a b c d e:Nat):List Nat:=if e=4/\a=0/\b=0/\c=0/\d=0 then[122]else(jv (kj a b c d)).take (e+1)
def SQ(b:Nat)(a:vz):(Instr.sliceAt 184 (A3 (O ⟨b,0,N⟩)) N (O (I U 2)) N).run DG a=.ok (Z (O ⟨b,0,N⟩) 2 5) a:=by kernel_rfl
def SU(b:Nat)(a:vz):(Instr.sliceAt 184 (A3 (O ⟨b,0,N⟩)) N (O (I U 3)) N).run DG a=.ok (Z (O ⟨b,0,N⟩) 3 5) a:=by kernel_rfl
def SV(b:Nat)(a:vz):(Instr.sliceAt 184 (A3 (O ⟨b,0,N⟩)) N (O (I U 4)) N).run DG a=.ok (Z (O ⟨b,0,N⟩) 4 5) a:=by kernel_rfl
def SX(b:Nat)(a:vz):(Instr.sliceAt 184 (A3 (O ⟨b,0,N⟩)) N (O (I U 5)) N).run DG a=.ok (Z (O ⟨b,0,N⟩) 5 5) a:=by kernel_rfl
def Nm(b a:Nat)(d:1<=a)(e:a<=4)(c:vz):(Instr.sliceAt 184 (A3 (O ⟨b,0,N⟩)) N (O (I U ((a:Int)+1))) N).run DG c=.ok (Z (O ⟨b,0,N⟩) (a+1) 5) c:=by
 obtain rfl|rfl|rfl|rfl:a=1\/a=2\/a=3\/a=4:=Y;·exact SQ b c
 ·exact SU b c
 ·exact SV b c
 ·exact SX b c
def Ls(a b c d:Nat)(i:a<256)(j:b<256)(k:c<256)(l:d<256)(g:Bool)(m:decide (a=0/\b=0/\c=0/\d=0)=g)(e:vz):(Op.equalIn 10000 153 (Bc #[I .u8 (a:Int),I .u8 (b:Int),I .u8 (c:Int),I .u8 (d:Int)]) (Bc #[I .u8 0,I .u8 0,I .u8 0,I .u8 0])).run DG e=.ok g e:=by
 have:=S7 a b c d 0 0 0 0 i j k l Y Y Y Y e;have h:decide ([a,b,c,d]=[0,0,0,0])=g:=by rw[<-m];simp
 rw[h]at this;exact this
def DW{w:vz}:∀b c,([122].map λd:Nat=>I .u8 (d:Int))[b]?=O c->(w.alloc (BV #[I .u8 122] 5)).cell? ((⟨w.heap.size,0,N⟩:wT).add b)=O c:=by
 intro b c a;match b,a with
 |0,a=>rw[sK,World.cell?_alloc_new];exact a
 |b+1,a=>simp at a
def Oo(a8:wg)(l:List Nat)(al:w.ownsRow B 5 1 a8 (G l) (l.map λm:Nat=>I .u8 (m:Int)))(hB:B<=w.heap.size)(hx:G l<=1000000)(g i j k c:Nat)(h0:g<256)(h1:i<256)(h2:j<256)(h3:k<256)(hn:1<=c)(a6:c<=4):wh DG 144 #[a8,Bc #[I .u8 g,I .u8 i,I .u8 j,I .u8 k],I U c] w λC w'=>∃r,C=BX r/\w'.ownsRow B 5 1 r (l++pJ g i j k c).length ((l++pJ g i j k c).map λm:Nat=>I .u8 (m:Int))/\Kept 5 B [] w w':=by
 obtain⟨i0,hi,a1,a2,a3⟩:=bR infoByte;obtain⟨z,A,rfl⟩:=ke al;have v:=H al;clear al;by_cases E:c=4/\g=0/\i=0/\j=0/\k=0
 ·have T:pJ g i j k c=[122]:=by unfold pJ;rw[ak E]
  rw[T];obtain⟨rfl,rfl,rfl,rfl,rfl⟩:=E;have a9:∀a5,(Op.equalIn 10000 153 (Bc #[I .u8 0,I .u8 0,I .u8 0,I .u8 0]) (Bc #[I .u8 0,I .u8 0,I .u8 0,I .u8 0])).run DG a5=.ok CD a5:=Ls 0 0 0 0 h0 h1 h2 h3 CD bF
  go_in
  go_wp2_with (at_builtin;refine aX _ rfl (.tmp 15) (.tmp 16) 23 rfl B 5 i0 (I .u8 0) 1 1 az hi a1 a2 a3 rfl bF (Z z (G l) A) (G l) _ rfl ((v.alloc _).alloc _) ⟨w.heap.size+1,0,N⟩ 1 1 ([122].map λm:Nat=>I .u8 (m:Int)) rfl rfl ?hnews ?hone ?h63 ?hby ?hbs ?_)
  case hnews=>have C:w.heap.size+1=(w.alloc (BV #[I .u8 0,I .u8 0,I .u8 0,I .u8 0] 153)).heap.size:=cO;rw[C];exact DW
  case hone=>intro ac d;simp at d;subst d;rfl
  case h63=>unfold maxLen;omega
  case hby=>omega
  case hbs=>simp;omega
  intro r w2 D t _;have x:=(((Kept.refl 5 B [] w).alloc _).alloc _).grown t (oQ ((v.alloc _).alloc _));clear t;go_wp2;go_ret;refine⟨r,rfl,?_,x⟩;rw[aI,ab];exact D
 ·have T:pJ g i j k c=(jv (kj g i j k)).take (c+1):=by unfold pJ;rw[aj E]
  rw[T];have S:((jv (kj g i j k)).take (c+1)).length=c+1:=by rw[ax];show min (c+1) 5=_;omega
  have ad:=H (Om g i j k h0 h1 h2 h3);have M:(jv (kj g i j k)).length=5:=rfl;generalize jv (kj g i j k)=b at *;clear T;by_cases a7:c=4
  ·have a9:=Ls g i j k h0 h1 h2 h3 CS (av (λh=>E ⟨a7,h⟩));have e4:((c:Int)==4)=CD:=eS;clear a7 E
   go_in
   go_wp2_with fail;apply ad _ |>.m
   rintro C a ⟨rfl,p⟩;have J:=H (Bv (v.alloc (BV #[I .u8 (g:Int),I .u8 (i:Int),I .u8 (j:Int),I .u8 (k:Int)] 153)) p);have F:=H (Kept.thenB ((Kept.refl 5 B [] w).alloc (BV #[I .u8 (g:Int),I .u8 (i:Int),I .u8 (j:Int),I .u8 (k:Int)] 153)) p);have ba:B<=a.heap.size:=by have:=p.size;simp at this;omega
   clear p v ad;have n:(bV b).toArray.all (·.oneCell')=CD:=by simp[bV,Value.oneCell']
   have u:(bV b).toArray.size=5:=by simp[bV,M]
   have R:wt ((Tryz.prog.info? 184).map (·.size)=O (bV b).toArray.size):=by unfold Hid;rw[u];kernel_rfl
   have q:(a.alloc (BV #[I .u8 0,I .u8 0,I .u8 0,I .u8 0,I .u8 0] 184 (0,0))).heap[a.heap.size]?=O (BV #[I .u8 0,I .u8 0,I .u8 0,I .u8 0,I .u8 0] 184 (0,0)):=bn _ _;have W:wt ((a.alloc (BV #[I .u8 0,I .u8 0,I .u8 0,I .u8 0,I .u8 0] 184 (0,0))).there a.heap.size 0 (bV b).toArray.size):=by unfold Hid;rw[u];intro a4 hj;refine⟨?_,pA q⟩;rw[cb q,bZ,bX (by simpa using hj)];rfl
   have Q:=H (Ep (vs:=bV b) q (by simp[bV,M]));have V:wt (((a.alloc (BV #[I .u8 0,I .u8 0,I .u8 0,I .u8 0,I .u8 0] 184 (0,0))).setCells a.heap.size 0 (bV b)).heap.size=a.heap.size+1):=by unfold Hid;rw[BA];simp
   have s:wt (wm a.heap.size a ((a.alloc (BV #[I .u8 0,I .u8 0,I .u8 0,I .u8 0,I .u8 0] 184 (0,0))).setCells a.heap.size 0 (bV b))):=H (xi _ _ (ag _) _ _ _ _ ((ar _ _).alloc (ag _) _));clear q u;have bb:=Nm a.heap.size c hn a6;have K:wt (∀e,(a.alloc (BV #[I .u8 0,I .u8 0,I .u8 0,I .u8 0,I .u8 0] 184 (0,0))).setCells a.heap.size 0 (bV b)=e->e.ownsRow B 5 1 (Z z (G l) A) (G l) (l.map λm:Nat=>I .u8 (m:Int))/\e.heap[a.heap.size]?=O (BV (bV b).toArray 184 (0,0))/\Kept 5 B [] w e/\e.heap.size=a.heap.size+1):=by intro e hW;subst hW;exact⟨Bv J s,Q,Kept.thenB F s,V⟩
   clear Q V s J F;go_wp2_with (first|(refine dt rfl 184 (.tmp 7) (.tmp 19) rfl a.heap.size 0 (bV b).toArray rfl rfl W R n ?_;generalize P:World.setCells (a.alloc _) a.heap.size 0 (bV b)=e;obtain⟨o2,L,X,aa⟩:=K.o e P;have y:=H o2;have BK:=H L;have KP:=H X;have SZ:=H aa;clear P o2 L X aa K W R n)|(at_builtin;refine aX _ rfl (.tmp 20) (.tmp 23) 23 rfl B 5 i0 (I .u8 0) 1 1 az hi a1 a2 a3 rfl bF (Z z (G l) A) (G l) _ rfl y ⟨a.heap.size,0,N⟩ (c+1) 5 (bV (b.take (c+1))) rfl (by unfold bV;rw[aq,S,Nat.mul_one]) ?hnews ?hone ?h63 ?hby ?hbs ?_))
   case hnews=>
    intro a4 ac d;rw[sK,cb BK.o];unfold bV at d ⊢;rw[List.map_take,fg]at d;split at d;·simpa using d
    ·cases d
   case hone=>intro ac d;obtain⟨m,_,rfl⟩:=cE.1 d;rfl
   case h63=>unfold maxLen;omega
   case hby=>omega
   case hbs=>have:=SZ.o;omega
   intro r w2 D t _;have x:=H (KP.grown t (oQ y));have R2:=H D;go_wp2;go_ret;refine⟨r,rfl,?_,x⟩;rw[aI,ab,S];exact R2
  ·have e4:((c:Int)==4)=CS:=eS
   go_in
   go_wp2_with fail;apply ad _ |>.m
   rintro C a ⟨rfl,p⟩;have J:=H (Bv (v.alloc (BV #[I .u8 (g:Int),I .u8 (i:Int),I .u8 (j:Int),I .u8 (k:Int)] 153)) p);have F:=H (Kept.thenB ((Kept.refl 5 B [] w).alloc (BV #[I .u8 (g:Int),I .u8 (i:Int),I .u8 (j:Int),I .u8 (k:Int)] 153)) p);have ba:B<=a.heap.size:=by have:=p.size;simp at this;omega
   have n:(bV b).toArray.all (·.oneCell')=CD:=by simp[bV,Value.oneCell']
   have u:(bV b).toArray.size=5:=by simp[bV,M]
   have R:wt ((Tryz.prog.info? 184).map (·.size)=O (bV b).toArray.size):=by unfold Hid;rw[u];kernel_rfl
   have q:(a.alloc (BV #[I .u8 0,I .u8 0,I .u8 0,I .u8 0,I .u8 0] 184 (0,0))).heap[a.heap.size]?=O (BV #[I .u8 0,I .u8 0,I .u8 0,I .u8 0,I .u8 0] 184 (0,0)):=bn _ _;have W:wt ((a.alloc (BV #[I .u8 0,I .u8 0,I .u8 0,I .u8 0,I .u8 0] 184 (0,0))).there a.heap.size 0 (bV b).toArray.size):=by unfold Hid;rw[u];intro a4 hj;refine⟨?_,pA q⟩;rw[cb q,bZ,bX (by simpa using hj)];rfl
   have Q:=H (Ep (vs:=bV b) q (by simp[bV,M]));have V:wt (((a.alloc (BV #[I .u8 0,I .u8 0,I .u8 0,I .u8 0,I .u8 0] 184 (0,0))).setCells a.heap.size 0 (bV b)).heap.size=a.heap.size+1):=by unfold Hid;rw[BA];simp
   have s:wt (wm a.heap.size a ((a.alloc (BV #[I .u8 0,I .u8 0,I .u8 0,I .u8 0,I .u8 0] 184 (0,0))).setCells a.heap.size 0 (bV b))):=H (xi _ _ (ag _) _ _ _ _ ((ar _ _).alloc (ag _) _));have bb:=Nm a.heap.size c hn a6;have K:wt (∀e,(a.alloc (BV #[I .u8 0,I .u8 0,I .u8 0,I .u8 0,I .u8 0] 184 (0,0))).setCells a.heap.size 0 (bV b)=e->e.ownsRow B 5 1 (Z z (G l) A) (G l) (l.map λm:Nat=>I .u8 (m:Int))/\e.heap[a.heap.size]?=O (BV (bV b).toArray 184 (0,0))/\Kept 5 B [] w e/\e.heap.size=a.heap.size+1):=by intro e hW;subst hW;exact⟨Bv J s,Q,Kept.thenB F s,V⟩
   go_wp2_with (first|(refine dt rfl 184 (.tmp 7) (.tmp 19) rfl a.heap.size 0 (bV b).toArray rfl rfl W R n ?_;generalize P:World.setCells (a.alloc _) a.heap.size 0 (bV b)=e;obtain⟨o2,L,X,aa⟩:=K.o e P;have y:=H o2;have BK:=H L;have KP:=H X;have SZ:=H aa)|(at_builtin;refine aX _ rfl (.tmp 20) (.tmp 23) 23 rfl B 5 i0 (I .u8 0) 1 1 az hi a1 a2 a3 rfl bF (Z z (G l) A) (G l) _ rfl y ⟨a.heap.size,0,N⟩ (c+1) 5 (bV (b.take (c+1))) rfl (by unfold bV;rw[aq,S,Nat.mul_one]) ?hnews ?hone ?h63 ?hby ?hbs ?_))
   case hnews=>
    intro a4 ac d;rw[sK,cb BK.o];unfold bV at d ⊢;rw[List.map_take,fg]at d;split at d;·simpa using d
    ·cases d
   case hone=>intro ac d;obtain⟨m,_,rfl⟩:=cE.1 d;rfl
   case h63=>unfold maxLen;omega
   case hby=>omega
   case hbs=>have:=SZ.o;omega
   intro r w2 D t _;have x:=H (KP.grown t (oQ y));have R2:=H D;go_wp2;go_ret;refine⟨r,rfl,?_,x⟩;rw[aI,ab,S];exact R2
def P_(a:List Nat)(h:0<G a):jD a=pJ (nth a 0) (nth a 1) (nth a 2) (nth a 3) (min (G a) 4)++jD (a.drop (min (G a) 4)):=by
 match a,h with
 | [b],_=>rfl
 | [b,c],_=>rfl
 | [b,c,d],_=>rfl
 |b::c::d::e::a,_=>
  have i:min (b::c::d::e::a).length 4=4:=cO;rw[i];show(if b=0/\c=0/\d=0/\e=0 then[122]else jv (kj b c d e))++jD a=pJ b c d e 4++jD a;congr 1;unfold pJ;by_cases g:b=0/\c=0/\d=0/\e=0;·rw[ak g,ak ⟨rfl,g⟩]
  ·rw[aj g,aj (λh=>g h.2)];rfl
def R9(b c d e a:Nat)(g:1<=a)(h:a<=4):(pJ b c d e a).length<=a+1:=by
 unfold pJ;split;·simp<;>omega
 ·rw[ax];omega
def QH(a:List Nat)(h:0<G a):((bV (a.take 4))++([I .u8 0,I .u8 0,I .u8 0,I .u8 0]:List wg).drop (bV (a.take 4)).length)=[I .u8 (nth a 0:Nat),I .u8 (nth a 1:Nat),I .u8 (nth a 2:Nat),I .u8 (nth a 3:Nat)]:=by
 match a,h with
 | [b],_=>rfl
 | [b,c],_=>rfl
 | [b,c,d],_=>rfl
 |b::c::d::e::a,_=>rfl
def Ik{b:List Nat}(h:∀a,a<G b->nth b a<256)(a:Nat):nth b a<256:=by
 by_cases c:a<G b;·exact h a c
 ·have:nth b a=0:=by simp[nth,List.getElem?_eq_none (show (G b)<=a by omega)]
  omega
def PW{b d:Nat}(hd:qi w B (O ⟨b,d,N⟩) f)(hB:B<=w.heap.size)(V:∀i,i<G f->nth f i<256)(len:G f<=200000)(lc:G f<=cap/\cap<=9223372036854775807):wh DG 102 #[Z (O ⟨b,d,N⟩) (G f) cap] w λq w'=>∃g,q=BX g/\w'.ownsRow B 5 1 g (jD f).length ((jD f).map λv:Nat=>I .u8 (v:Int))/\Kept 5 B [] w w':=by
 obtain⟨i0,t,bd,E,bf⟩:=bR infoByte;have Q:wt (jD (f.drop 0)=jD f):=H rfl;have HD:=H hd;have al:=H V;generalize jD f=a6 at *;clear hd V
 go_in
 go_wp2;go_loopw [0,3] (λy g wr=>∃(c:Nat) (e:List Nat) (K:wT),c<=G f/\y=Z (O K) (G f-c) (cap-c)/\(c<G f->K=⟨b,d+c,N⟩)/\wt (e++jD (f.drop c)=a6)/\G e<=2*c/\wr.ownsRow B 5 1 g (G e) (e.map λv:Nat=>I .u8 (v:Int))/\Kept 5 B [] w wr) (λy _ _=>sL y)
 case atStart=>exact⟨0,[],⟨b,d,N⟩,Y,rfl,λ_=>rfl,Q,cO,bI _ _ _ _,Kept.refl _ _ _ _⟩
 clear Q
 case round=>
  obtain⟨c,e,K,hp,rfl,a9,x,bv,C,F⟩:=hrel;obtain⟨S,W,rfl⟩:=ke C;have m:=H C;have o:=H F;have bx:=F.size;clear C F;by_cases hz:c<G f
  ·obtain rfl:=a9 hz;have L:=H ((HD.kept o cO).drop c);have l:wt (∀i,i<(f.drop c).length->nth (f.drop c) i<256):=by intro i t;rw[aU]at t;have:=al.o (c+i) Y;simpa[nth,fK]using this
   have z:G f-c=(f.drop c).length:=by rw[aU]
   have a2:wt (∀n,(f.drop c).drop n=f.drop (c+n)):=λn=>by rw[eq]
   rw[z];generalize f.drop c=a at *;have a5:=H z;have X:0<G a:=Y;have br:G a<=200000:=Y;have bh:G a<=cap-c:=Y;clear z;have R:=H (P_ a X);have M:=H (QH a X);obtain⟨n,u⟩:∃n,n=min (G a) 4:=⟨_,rfl⟩;have j:(bV (a.take 4)).length=n:=by unfold bV;rw[aq,ax,Nat.min_comm];exact u.s
   rw[<-u]at R;have bt:1<=n/\n<=4/\n<=G a:=Y;have q0:=Ik l 0;have q1:=Ik l 1;have q2:=Ik l 2;have q3:=Ik l 3;have A:(wr.alloc (BV #[I .u8 0,I .u8 0,I .u8 0,I .u8 0] 153 (0,0))).heap[wr.heap.size]?=O (BV #[I .u8 0,I .u8 0,I .u8 0,I .u8 0] 153 (0,0)):=bn _ _;have ad:wt (∀k g,(bV (a.take 4))[k]?=O g->(wr.alloc (BV #[I .u8 0,I .u8 0,I .u8 0,I .u8 0] 153 (0,0))).cell? ((⟨b,d+c,N⟩:wT).add k)=O g):=by have a7:qi (wr.alloc (BV #[I .u8 0,I .u8 0,I .u8 0,I .u8 0] 153 (0,0))) B (O ⟨b,d+c,N⟩) a:=L.o.below ((ar _ _).alloc (ag _) _);intro k g D;obtain⟨hj,rfl⟩:=ay.1 D;rw[j]at hj;obtain⟨b',o',e1,_,e3⟩:=a7 k Y;cases e1;rw[I4,e3];simp[bV,nth,af (show k<G a by omega)]
   have aa:wt (∀h,(wr.alloc (BV #[I .u8 0,I .u8 0,I .u8 0,I .u8 0] 153 (0,0))).setRow wr.heap.size (List.take 0 (#[I .u8 0,I .u8 0,I .u8 0,I .u8 0]:Array wg).toList++(bV (a.take 4)++List.drop (0+(bV (a.take 4)).length) (#[I .u8 0,I .u8 0,I .u8 0,I .u8 0]:Array wg).toList)).toArray=h ->h.heap[wr.heap.size]?=O (BV #[I .u8 (nth a 0:Nat),I .u8 (nth a 1:Nat),I .u8 (nth a 2:Nat),I .u8 (nth a 3:Nat)] 153 (0,0))/\wm wr.heap.size wr h):=by
    intro h r;subst r;refine⟨?_,below_setRow ((ar _ _).alloc (ag _) _) (ag _) _⟩;rw[setRow_heap _ _ _ _ _ _ A];have q:(List.take 0 (#[I .u8 0,I .u8 0,I .u8 0,I .u8 0]:Array wg).toList++(bV (a.take 4)++List.drop (0+(bV (a.take 4)).length) (#[I .u8 0,I .u8 0,I .u8 0,I .u8 0]:Array wg).toList))=[I .u8 (nth a 0:Nat),I .u8 (nth a 1:Nat),I .u8 (nth a 2:Nat),I .u8 (nth a 3:Nat)]:=by rw[List.take_zero,cU,bZ];exact M
    rw[q]
   have s:=run_copy_row (P:= DG) (wr.alloc (BV #[I .u8 0,I .u8 0,I .u8 0,I .u8 0] 153 (0,0))) 23 23 3 5 wr.heap.size 0 4 4 ⟨b,d+c,N⟩ (G a) (cap-c) #[I .u8 0,I .u8 0,I .u8 0,I .u8 0] 153 (bV (a.take 4)) az (by rw[t];simp[E]) A (by rw[j];exact u) ad (by rw[j];show 0+n<=4;omega) (by intro g D;obtain⟨v,_,rfl⟩:=cE.1 D;rfl);generalize r:World.setRow _ wr.heap.size _=h at s;obtain⟨T,p⟩:=aa.o h r;rw[j]at s;have bm:(Builtin.copy_ #[23,23] 3 #[Z (O ⟨wr.heap.size,0,N⟩) 4 4,Z (O ⟨b,d+c,N⟩) (G a) (cap-c)]).run DG (wr.alloc (BV #[I .u8 0,I .u8 0,I .u8 0,I .u8 0] 153))=.ok (I U n) h:=s;have OO:=H (wK m p);have K2:=H (Kept.thenBelow o p);have bb:B<=h.heap.size:=by have:=p.size;omega
   obtain⟨g0,g1,g2,g3⟩:=Lg T;have a4:=H (R9 (nth a 0) (nth a 1) (nth a 2) (nth a 3) n Y Y);have a1:=H (Oo (B:=B) (Z S (G e) W) e OO bb Y (nth a 0) (nth a 1) (nth a 2) (nth a 3) n q0 q1 q2 q3 Y Y);clear A M s r aa ad T p m o u j L;generalize nth a 0=x0 at *;generalize nth a 1=x1 at *;generalize nth a 2=x2 at *;generalize nth a 3=x3 at *;go_wp2_with fail;apply a1.o.m;rintro q w3 ⟨v3,rfl,J,k3⟩;have O3:=H J;obtain⟨a3,c3,rfl⟩:=ke J;clear J;go_wp2;go_roundw
   case rel=>
    have hL:=a5.o;have bw:=a4.o;refine⟨c+n,e++pJ x0 x1 x2 x3 n,if cap-c=n then⟨b,d+c,N⟩else⟨b,d+c+n,N⟩,Y,?_,?_,?_,?_,by have:=O3.o;rw[ab]at this ⊢;exact this,K2.t k3⟩
    ·rw[show (G f)-(c+n)=G a-n by omega,show cap-(c+n)=cap-c-n by omega];split<;>rfl
    ·intro bs;rw[aj Y,eO]
    ·rw[<-a2.o,<-x.o,R.o,au];exact H rfl
    ·rw[ab];omega
   case measure=>simp[sL];omega
  ·obtain rfl:c=G f:=Y;have a8:jD (f.drop (G f))=[126,62]:=by rw[fF];rfl
   rw[a8]at x;rw[eJ];have bc:=H (Src.ofString (P:= DG) wr (tx:= 9) dC {data:=#[126,62]});go_wp2_with (at_builtin;refine AC rfl (.tmp 19) (.const (y7 {data:=#[126,62]})) 23 9 rfl B 5 i0 (I .u8 0) 1 az t bd E bf rfl (Z S (G e) W) (G e) _ rfl m (y7 {data:=#[126,62]}) 2 (bV [126,62]) rfl (by rw[E];exact bc) Y lB Y Y ?_);intro v' w2 ba ac;have k2:=o.o.grown ac (oQ m);clear ac;go_wp2;go_ret;refine⟨v',rfl,?_,k2⟩;rw[<-x.o,aI,ab];exact ba
end
def Ox(a b:List Bool)(c:Nat)(h:8*c<=G a):iW (a++b) c=iW a c:=by unfold iW;refine List.map_congr_left (λe d=>?_);rw[List.mem_range]at d;rw[List.drop_append_of_le_length Y,List.take_append_of_le_length mO]
def N9(b a:Nat)(h:a<2^b):ix (gg b a)=a:=by rw[rP,dR h]
def sb{f:Nat->Nat->List Bool->List Nat->Except Nat (List Bool×List Nat)->Prop}{o e:Nat}{r c:List Bool}{d a:List Nat}(b:Bool)(h:SA e r d a c):kK f o e (b::(gg 2 0++r)) d (.ok (c,d++a)):=by
 obtain⟨p,q,j,k,s,l⟩:=h;refine C2 (C1 ⟨by simp[gM],?_,?_⟩)
 ·show ix (((gg 2 0++r)).take 2)=0;rw[List.take_left' oi];decide
 show mu e ((gg 2 0++r).drop 2) d=_;rw[d8 oi];unfold mu;rw[k];have e1:(gg 16 (G a)++(gg 16 (65535-G a)++(gH a++c))).take 16=gg 16 (G a):=List.take_left' oi;have e2:(gg 16 (G a)++(gg 16 (65535-G a)++(gH a++c))).drop 16=gg 16 (65535-G a)++(gH a++c):=d8 oi;have g:(gg 16 (65535-G a)++(gH a++c)).take 16=gg 16 (65535-G a):=List.take_left' oi;have i:(gg 16 (G a)++(gg 16 (65535-G a)++(gH a++c))).drop 32=gH a++c:=by rw[show(32:Nat)=16+16 from rfl,<-eq,e2];exact d8 oi
 rw[e1,e2,g,i,N9 16 (G a) Y,N9 16 (65535-G a) Y];have m:iW (gH a++c) (G a)=a:=by rw[Ox _ _ _ pg,KR a (MC j) _ (ag _),dE]
 have n:(gH a++c).drop (8*G a)=c:=d8 (by rw[gW]);rw[aj pI,aj (by simp only[ab,gW];omega),ak l,m,n]
def OJ{f:Nat->Nat->List Bool->List Nat->Except Nat (List Bool×List Nat)->Prop}{e d:Nat}{r b:List Bool}{a c:List Nat}(h:pF e d r a b c):jS f e d r a (.ok (b,c)):=by
 refine h (λr a b c=>jS f e d r a (.ok (b,c))) ?_ ?_ ?_
 ·intro r b a c h;refine jS.stop ?_ rfl;refine C2 (C2 (C1 ⟨by simp[gM],?_,?_⟩))
  ·show ix (((gg 2 1++r)).take 2)=1;rw[List.take_left' oi];decide
  ·show iA iM e d ((gg 2 1++r).drop 2) a _;rw[d8 oi];exact h
 ·intro r b a g h;exact jS.stop (sb CD h) rfl
 ·intro r b j a i g h k;exact jS.more (sb CS h) rfl k
def FSx(a bl:List Nat):Prop:=∀(b:Nat) (c:List Nat),G a<=b->∃r,pF 32768 b (gH (bl++c)) [] r a/\r.drop (G r%8)=gH c
def NE(b:List Nat):∀c∈tG b,c<256:=by intro c a;have h:=IK b;unfold tG at a;simp only[cJ,eZ,or_false]at a;rcases a with rfl|rfl|rfl|rfl<;>omega
def TL{d:Nat->Nat->List Bool->List Nat->Except Nat (List Bool×List Nat)->Prop}{a bl:List Nat}(h:FSx a bl)(c:Nat)(g:G a<=c):yf d 4 c (qP a bl) (.ok a):=by
 obtain⟨r,f,i⟩:=h c (tG a) g;refine C2 (C2 (C2 ⟨rfl,C2 ⟨r,a,C2 ⟨?_,?_⟩,?_⟩⟩))
 ·unfold qP;rw[au,jH];refine⟨by rw[ab,gW];simp,?_⟩;rw[List.take_append_of_le_length (by rw[gW];simp),List.drop_append_of_le_length (by rw[gW];simp),List.take_append_of_le_length (by rw[aU,gW];simp)];unfold kM;decide +kernel
 ·unfold qP;rw[au,jH,List.take_append_of_le_length (by rw[gW];simp),d8 (by rw[gW];rfl)];have e:2^(ix ((gH [120,156]).take 8)/16+8)=32768:=by decide +kernel
  rw[e];exact OJ f
 ·unfold qS;have b:(tG a).length=4:=rfl;rw[i,ak ⟨by rw[gW,b],by rw[KR _ (NE a) _ (by rw[b];omega),<-b,dE]⟩]
section
variable{w:vz}{B cap:Nat}{a:List Nat}{f:Option wT}
def Ao(b:Bool)(c:List Nat):List Bool:=b::(gg 2 0++(DJ 5 CS++(gg 16 (G c)++(gg 16 (65535-G c)++gH c))))
def GR(b:Bool)(c:List Nat):(Ao b c).length=40+8*G c:=by unfold Ao;simp only[ai,ab,gM,bj,gW];omega
def Np(c:List Bool)(h:G c%8=0)(b:Bool)(e:Nat)(i:gg 1 e=[b])(d:List Nat):c++gg 1 e++gg 2 0++DJ ((8-(c++gg 1 e++gg 2 0).length%8)%8) CS++gg 16 (G d)++gg 16 (65535-G d)++gH d=c++Ao b d:=by
 have g:(8-(c++gg 1 e++gg 2 0).length%8)%8=5:=by simp only[ab,gM];omega
 rw[g,i];unfold Ao;simp only[au,bH,cU]
def tI(g:List Bool)(pre:List Nat):Prop:=∀(c:Nat) (b e:List Bool) (d:List Nat),G pre<=c->G b%8=0->pF 32768 c b pre e d->pF 32768 c (g++b) [] e d
def NT(c:List Bool)(b g:List Nat)(e:Nat)(h:0<G b)(i:G b<=65535)(j:∀d,d<G b->nth b d<256)(k:G c%8=0)(l:G g+G b<=e):SA e (DJ 5 CS++(gg 16 (G b)++(gg 16 (65535-G b)++(gH b++c)))) g b c:=by
 refine⟨h,i,j,?_,k,l⟩;have m:(DJ 5 CS++(gg 16 (G b)++(gg 16 (65535-G b)++(gH b++c)))).length%8=5:=by simp only[ab,bj,gM,gW];omega
 rw[m,d8 (by rw[bj])]
def tI.more{d:List Bool}{pre:List Nat}(h:tI d pre)(b:List Nat)(l:0<G b)(m:G b<=65535)(n:∀g,g<G b->nth b g<256):tI (d++Ao CS b) (pre++b):=by
 intro i c r' q e p o;rw[ab]at e;rw[au];refine h i _ r' q Y ?_ ?_;·rw[ab,GR];omega
 ·have j:Ao CS b++c=CS::(gg 2 0++(DJ 5 CS++(gg 16 (G b)++(gg 16 (65535-G b)++(gH b++c))))):=by unfold Ao;simp only[bH,au]
  rw[j];have k:=NT c b pre i l m n p e;exact .moreStored b k.h0 k.h1 k.h2 k.h3 k.h4 k.h5 o
def tI.last{d:List Bool}{pre j:List Nat}(h:tI d pre)(b:List Nat)(n:0<G b)(o:G b<=65535)(p:∀g,g<G b->nth b g<256)(q:nJ j 0 (d++Ao CD b)):FSx (pre++b) j:=by
 obtain⟨_,r,s,l⟩:=q;intro i c e;rw[ab]at e;refine⟨gH c,?_,by rw[gW,show(8*G c)%8=0 by omega,fX]⟩;rw[jH,l,show(8-0)%8=0 from rfl,List.replicate_zero,bP,au];refine h i _ _ _ Y (by rw[ab,GR,gW];omega) ?_;have m:Ao CD b++gH c=CD::(gg 2 0++(DJ 5 CS++(gg 16 (G b)++(gg 16 (65535-G b)++(gH b++gH c))))):=by unfold Ao;simp only[bH,au]
 rw[m];have k:=NT (gH c) b pre i n o p pg e;exact .lastStored b k.h0 k.h1 k.h2 k.h3 k.h4 k.h5
def tI.nil:tI [] []:=λ_ _ _ _ _ _ h=>h
def MG(c:List Nat)(k b:Nat)(h:b<k):nth (c.take k) b=nth c b:=by unfold nth;rw[aL,aL,dq h]
def Mz(b:List Nat)(k c:Nat):nth (b.drop k) c=nth b (k+c):=by unfold nth;rw[aL,aL,fK]
def qi.takeN{c:List Nat}(h:qi w B f c)(k:Nat):qi w B f (c.take k):=by intro g e;rw[ax]at e;obtain⟨b,i,e1,e2,d⟩:=h g Y;exact⟨b,i,e1,e2,by rw[MG _ _ _ Y];exact d⟩
def qi.dropN{d:List Nat}{b c:Nat}(h:qi w B (O ⟨b,c,N⟩) d)(k:Nat):qi w B (O ⟨b,c+k,N⟩) (d.drop k):=by intro i g;rw[aU]at g;obtain⟨j,l,e1,e2,e⟩:=h (k+i) Y;cases e1;exact⟨b,c+k,rfl,e2,by rw[Mz,eO];exact e⟩
def Ns:wg->Nat
 | Z _ b _=>b
 |_=>0
structure CM(W0:vz)(a:List Nat)(S j:Nat)(bs:List Bool)(pre D:List Nat)(f:Option wT)(c:Nat)(wr:vz):Prop where
 cut:a=pre++D
 dat:qi wr S f D
 byt:∀i,i<G D->nth D i<256
 non:f=N->c=0
 lc:G D<=c/\c<=9223372036854775807
 wx:Wx S S 190 [] wr bs
 ok:tI bs pre
 bl:G bs=j*524320
 pl:G pre=j*65535
 pos:0<G a->0<G D
 kept:Kept 5 S [S] W0 wr
structure yZ(a out:List Nat):Prop where
 tos:0<G a->FSx a out
 few:G out=G a+5*(if (G a)=0 then 1 else(G a+65534)/65535)
 byt:∀x∈out,x<256
def Ut(R:qi w B f a)(hB:B<=w.heap.size)(L:∀e,e<G a->nth a e<256)(len:G a<=200000)(lc:G a<=cap/\cap<=9223372036854775807)(W:f=N->cap=0):wh DG 148 #[Z f (G a) cap] w λs A=>∃(q:wg) (i:List Nat),s=BX q/\A.ownsRow w.heap.size 5 1 q (G i) (i.map λac:Nat=>I .u8 (ac:Int))/\wm w.heap.size w A/\yZ a i:=by
 have hx:Wx w.heap.size w.heap.size 190 [] (w.alloc (BV #[Z N 0 0,I U 0] 190)) []:=⟨Z N 0 0,[],0,⟨ag _,bF,bn _ _,bI _ _ _ _⟩,nJ.nil⟩;have S:qi (w.alloc (BV #[Z N 0 0,I U 0] 190)) w.heap.size f a:=by intro e m;obtain⟨b,t,e1,e2,M⟩:=R e m;exact⟨b,t,e1,Y,by rw[World.cell?_alloc_lt _ _ _ oT];exact M⟩
 have D:=H (show CM (w.alloc (BV #[Z N 0 0,I U 0] 190)) a w.heap.size 0 [] [] a f cap (w.alloc (BV #[Z N 0 0,I U 0] 190))from⟨rfl,S,L,W,lc,hx,.nil,rfl,rfl,id,Kept.refl _ _ _ _⟩);have u:=H (show wm w.heap.size w (w.alloc (BV #[Z N 0 0,I U 0] 190))from(ar _ _).alloc (ag _) _)
 go_in
 go_wp2;generalize w.alloc (BV #[Z N 0 0,I U 0] 190)=v at *;go_loopw [0] (λr wr=>∃(n:Nat) (k:List Bool) (pre c:List Nat) (f:Option wT) (g:Nat),r=Z f (G c) g/\CM v a w.heap.size n k pre c f g wr) (λr _=>Ns r)
 case atStart=>exact⟨0,[],[],a,f,cap,rfl,D⟩
 case round=>
  obtain⟨n,k,pre,c,ad,g,rfl,h⟩:=hrel;have d:=H h;have a0:G a=G pre+G c:=by rw[h.cut,ab]
  have al:=h.bl;have a2:=h.pl;have hj:n<=3:=Y;have ao:=h.lc;by_cases a1:65535<G c
  ·have V:(65535:Int)<G c:=Y;obtain⟨b,t,rfl,l,_⟩:=h.dat.at Y;have y:(c.take 65535).length=65535:=by rw[ax];omega
   have T:(c.drop 65535).length=G c-65535:=by rw[aU]
   have z:∀e,e<(c.take 65535).length->nth (c.take 65535) e<256:=λe m=>by rw[y]at m;rw[MG _ _ _ m];exact h.byt e Y
   have j:=H (Nq (cap:=g) h.wx 0 Y (h.dat.takeN 65535) z Y cO Y);rw[Np k Y CS 0 rfl,y]at j;go_wp2_with fail;apply j.o.m;rintro s C ⟨rfl,Q,p⟩;have E:=H (show CM v a w.heap.size (n+1) (k++Ao CS (c.take 65535)) (pre++c.take 65535) (c.drop 65535) (O ⟨b,t+65535,N⟩) (g-65535) C from
    ⟨by rw[au,cQ];exact d.cut,(d.dat.kept p cO).dropN _,λe m=>by rw[Mz];exact d.byt _ Y,cO,Y,Q,d.o.ok.more _ Y Y z,by rw[ab,GR];omega,by rw[ab];omega,λ_=>Y,d.kept.t p⟩)
   go_wp2;go_roundw
   case rel=>exact⟨n+1,_,_,_,_,_,by rw[T],E⟩
   case measure=>simp[Ns];omega
  ·have V:¬(65535:Int)<G c:=Y;have j:=H (Nq (cap:=g) h.wx 1 Y h.dat h.byt Y h.non Y);rw[Np k Y CD 1 rfl]at j;go_wp2_with fail;apply j.o.m;rintro s C ⟨rfl,⟨q,i,aa,x,l⟩,p⟩;have o:=x.c0;obtain rfl:aa=0:=by rw[<-l.2.1,ab,GR];omega
   have X:=Hq l;rw[ab,GR]at X;have K:=H (show yZ a i from⟨λP=>by rw[d.o.cut];exact d.o.ok.last c (d.pos P) Y d.byt l,by
    rcases d_ (G a) with o|o;·rw[ak o];omega
    ·rw[aj Y];have:=d.o.pos o;omega,l.2.2.1⟩)
   have F:=H (u.t ((d.kept.t p).below u.size cO));have J:=H x.own;go_wp2;go_ret;exact⟨q,i,rfl,J,F,K⟩
structure ye(a bl:List Nat):Prop where
 few:G bl<=G a+5*((G a+65534)/65535)+5
 alike:rX a->8*G bl<=44+19*((G a+257)/258)
def Tl{b:List Nat}(h:yZ a b)(len:G a<=200000):G a+5<=G b/\G b<=G a+20/\G b<=G a+5*((G a+65534)/65535)+5:=by
 have d:=h.few;by_cases c:G a=0;·rw[ak c]at d;omega
 ·rw[aj c]at d;omega
def PX(hd:qi w B f a)(hB:B<=w.heap.size)(a8:∀br,br<G a->nth a br<256)(len:G a<=200000)(lc:G a<=cap/\cap<=9223372036854775807)(hn:f=N->cap=0):wh DG 104 #[Z f (G a) cap] w λv w'=>∃(bs:wg) (bl:List Nat),v=BX bs/\w'.ownsRow w.heap.size 5 1 bs (qP a bl).length ((qP a bl).map λb:Nat=>I .u8 (b:Int))/\wm w.heap.size w w'/\FSx a bl/\2<=G bl/\G bl<=G a+30/\(∀b∈bl,b<256)/\ye a bl:=by
 obtain⟨Q,K,L,M,P⟩:=bR infoByte;have H1:=H (PJ hd hB a8 Y lc);have X:=H hd;have T:=H a8
 go_in
 go_wp2_with fail;apply H1.o.m;rintro v w1 ⟨b0,i,b4,eb,rfl,a3,b1,F,bc,bb,ba⟩;have V:=H ba;clear ba;have a9:=H (R8 F bc).unp;have ao:=Hq F;rw[Qf]at ao;have bf:=H F.2.2.1;obtain⟨a1,c1,rfl⟩:=ke a3;have a7:=H a3;have R:=H b1;have bh:=b1.size;clear a3 b1 F bc H1;have bd:2<=G i:=Y;have A:=H (And.intro ao bb);clear ao bb;go_wp2_with fail;apply(Ut (X.below R) Y T len lc hn).m;rintro v l ⟨b3,j,rfl,a4,b2,al⟩;have n:=H (Tl al len);obtain⟨a2,c2,rfl⟩:=ke a4;have O1:=H (wK a7 b2);have O2:=H (RN a4 (B':=w.heap.size) bh);have s:=H (R.t (b2.m bh));have W:=H al;have aa:=H (X.below s);have bm:=s.o.size;clear a4 b2 a7 R al X;by_cases hc:G j<G i
 ·have bv:(G j:Int)<G i:=Y;have bw:0<G a:=by have:=A.o;have:=n.o;omega
  have g:=H (And.intro (W.tos bw) (And.intro (show 2<=G j by have:=n.o;omega) (And.intro (show (G j)<=G a+30 by have:=n.o;omega) (And.intro W.byt (show ye a j from⟨by have:=n.o;omega,λha=>by have:=A.o;have:=V.o ha;omega⟩)))));have q:=O2;obtain⟨c,ac,x⟩:∃c,a2=O ⟨c,0,N⟩/\w.heap.size<=c:=by obtain⟨c,bt,ad,x⟩:=yJ q (by have:=g.o.2.1;omega);cases ad;exact⟨c,rfl,x⟩
  subst ac;go_wp2_with fail;apply(NX f cap a (B:=B) Y aa Y T).m;rintro v w3 ⟨rfl,m,rfl⟩;unfold GY;have D:=H (((q.alloc m).alloc (BV #[I .u8 ((iI a).2/256:Nat),I .u8 ((iI a).2%256:Nat),I .u8 ((iI a).1/256:Nat),I .u8 ((iI a).1%256:Nat)] 153)).alloc (BV #[I .u8 120,I .u8 156] 5));have J:=H (((s.alloc bm m).alloc eS (BV #[I .u8 ((iI a).2/256:Nat),I .u8 ((iI a).2%256:Nat),I .u8 ((iI a).1/256:Nat),I .u8 ((iI a).1%256:Nat)] 153)).alloc eS (BV #[I .u8 120,I .u8 156] 5));have C:=H (Ip (w:=(l.alloc m).alloc (BV #[I .u8 ((iI a).2/256:Nat),I .u8 ((iI a).2%256:Nat),I .u8 ((iI a).1/256:Nat),I .u8 ((iI a).1%256:Nat)] 153)) (B:=w.heap.size) eS [120,156] cO);have E:=H (nt (BV #[I .u8 120,I .u8 156] 5) (bn (l.alloc m) (BV #[I .u8 ((iI a).2/256:Nat),I .u8 ((iI a).2%256:Nat),I .u8 ((iI a).1/256:Nat),I .u8 ((iI a).1%256:Nat)] 153)));have tok:True:=trivial;go_wp2_with (at_builtin;have _t:=tok;refine aX _ rfl (.tmp 19) (.tmp 20) 23 rfl w.heap.size 5 Q (I .u8 0) 1 1 az K L M P rfl bF (Z (O ⟨l.heap.size+1+1,0,N⟩) 2 2) 2 ([120,156].map λb:Nat=>I .u8 (b:Int)) rfl ?hown ⟨c,0,N⟩ (G j) c2 (j.map λb:Nat=>I .u8 (b:Int)) rfl cO ?hnews ?hone ?h63 ?hby ?hbs ?_)
  case hown=>simpa using C.o
  case hnews=>exact D.cells (g:=c) rfl
  case hone=>intro z d;simp at d;obtain⟨b,_,rfl⟩:=d;rfl
  case h63=>have:=g.o.2.2.1;unfold maxLen;omega
  case hby=>have:=g.o.2.2.1;omega
  case hbs=>simp;omega
  intro v1 p r e _;have a0:=H (show p.heap[l.heap.size+1]?=O (BV #[I .u8 ((iI a).2/256:Nat),I .u8 ((iI a).2%256:Nat),I .u8 ((iI a).1/256:Nat),I .u8 ((iI a).1%256:Nat)] 153 (0,0))by rw[e.block _ cO (by simp[Value.ownBlock])];simpa using E.o)
  have t:=H (show wm w.heap.size w p from J.o.t ⟨e.os,e.tape,e.output,e.size,λk y=>e.block k eS tc⟩);have u:=H r;obtain⟨a6,c6,rfl⟩:=ke r;clear r e J C E D q s aa;have bx:=t.o.size;go_wp2_with (at_builtin;refine aX _ rfl (.tmp 22) (.tmp 23) 23 rfl w.heap.size 5 Q (I .u8 0) 1 1 az K L M P rfl bF (Z a6 (2+G j) c6) (2+G j) _ rfl u ⟨l.heap.size+1,0,N⟩ 4 4 ((tG a).map λb:Nat=>I .u8 (b:Int)) rfl rfl ?hnews ?hone ?h63 ?hby ?hbs ?_)
  case hnews=>intro bz z d;rw[sK,cb a0.o];simpa[tG]using d
  case hone=>intro z d;simp at d;obtain⟨b,_,rfl⟩:=d;rfl
  case h63=>have:=g.o.2.2.1;unfold maxLen;omega
  case hby=>have:=g.o.2.2.1;omega
  case hbs=>omega
  intro v7 w7 a5 h _;have S:=t.o.t (show wm w.heap.size p w7 from⟨h.os,h.tape,h.output,h.size,λk y=>h.block k Y (ML u y)⟩);clear h;go_wp2;go_ret;refine⟨v7,j,rfl,?_,S,g⟩;unfold qP;rw[aI,aI,ab,ab];exact a5
 ·have bv:¬(G j:Int)<G i:=Y;have g:=H (And.intro a9 (And.intro (show 2<=G i from bd) (And.intro (show (G i)<=G a+30 by have:=n.o;omega) (And.intro bf (show ye a i from⟨by have:=n.o;omega,λha=>by have:=A.o;have:=V.o ha;omega⟩)))));have q:=O1;clear O1 O2 A n W a9 bf bd hn V;obtain⟨c,ac,x⟩:∃c,a1=O ⟨c,0,N⟩/\w.heap.size<=c:=by obtain⟨c,bt,ad,x⟩:=yJ q (by have:=g.o.2.1;omega);cases ad;exact⟨c,rfl,x⟩
  subst ac;go_wp2_with fail;apply(NX f cap a (B:=B) Y aa Y T).m;rintro v w3 ⟨rfl,m,rfl⟩;unfold GY;have D:=H (((q.alloc m).alloc (BV #[I .u8 ((iI a).2/256:Nat),I .u8 ((iI a).2%256:Nat),I .u8 ((iI a).1/256:Nat),I .u8 ((iI a).1%256:Nat)] 153)).alloc (BV #[I .u8 120,I .u8 156] 5));have J:=H (((s.alloc bm m).alloc eS (BV #[I .u8 ((iI a).2/256:Nat),I .u8 ((iI a).2%256:Nat),I .u8 ((iI a).1/256:Nat),I .u8 ((iI a).1%256:Nat)] 153)).alloc eS (BV #[I .u8 120,I .u8 156] 5));have C:=H (Ip (w:=(l.alloc m).alloc (BV #[I .u8 ((iI a).2/256:Nat),I .u8 ((iI a).2%256:Nat),I .u8 ((iI a).1/256:Nat),I .u8 ((iI a).1%256:Nat)] 153)) (B:=w.heap.size) eS [120,156] cO);have E:=H (nt (BV #[I .u8 120,I .u8 156] 5) (bn (l.alloc m) (BV #[I .u8 ((iI a).2/256:Nat),I .u8 ((iI a).2%256:Nat),I .u8 ((iI a).1/256:Nat),I .u8 ((iI a).1%256:Nat)] 153)));have tok:True:=trivial;go_wp2_with (at_builtin;have _t:=tok;refine aX _ rfl (.tmp 19) (.tmp 20) 23 rfl w.heap.size 5 Q (I .u8 0) 1 1 az K L M P rfl bF (Z (O ⟨l.heap.size+1+1,0,N⟩) 2 2) 2 ([120,156].map λb:Nat=>I .u8 (b:Int)) rfl ?hown ⟨c,0,N⟩ (G i) c1 (i.map λb:Nat=>I .u8 (b:Int)) rfl cO ?hnews ?hone ?h63 ?hby ?hbs ?_;clear tok)
  case hown=>simpa using C.o
  case hnews=>exact D.cells (g:=c) rfl
  case hone=>intro z d;simp at d;obtain⟨b,_,rfl⟩:=d;rfl
  case h63=>have:=g.o.2.2.1;unfold maxLen;omega
  case hby=>have:=g.o.2.2.1;omega
  case hbs=>simp;omega
  intro v1 p r e _;have a0:=H (show p.heap[l.heap.size+1]?=O (BV #[I .u8 ((iI a).2/256:Nat),I .u8 ((iI a).2%256:Nat),I .u8 ((iI a).1/256:Nat),I .u8 ((iI a).1%256:Nat)] 153 (0,0))by rw[e.block _ cO (by simp[Value.ownBlock])];simpa using E.o)
  have t:=H (show wm w.heap.size w p from J.o.t ⟨e.os,e.tape,e.output,e.size,λk y=>e.block k eS tc⟩);have u:=H r;obtain⟨a6,c6,rfl⟩:=ke r;have bx:=t.o.size;go_wp2_with (at_builtin;refine aX _ rfl (.tmp 22) (.tmp 23) 23 rfl w.heap.size 5 Q (I .u8 0) 1 1 az K L M P rfl bF (Z a6 (2+G i) c6) (2+G i) _ rfl u ⟨l.heap.size+1,0,N⟩ 4 4 ((tG a).map λb:Nat=>I .u8 (b:Int)) rfl rfl ?hnews ?hone ?h63 ?hby ?hbs ?_)
  case hnews=>intro bz z d;rw[sK,cb a0.o];simpa[tG]using d
  case hone=>intro z d;simp at d;obtain⟨b,_,rfl⟩:=d;rfl
  case h63=>have:=g.o.2.2.1;unfold maxLen;omega
  case hby=>have:=g.o.2.2.1;omega
  case hbs=>omega
  intro v7 w7 a5 h _;have S:=t.o.t (show wm w.heap.size p w7 from⟨h.os,h.tape,h.output,h.size,λk y=>h.block k Y (ML u y)⟩);go_wp2;go_ret;refine⟨v7,i,rfl,?_,S,g⟩;unfold qP;rw[aI,aI,ab,ab];exact a5
end
section
variable{w:vz}
def AR(a:ByteArray)(c:xc):Prop:=∃b:Bool,c=BX (Bs b)/\(b=CD->rX (bl a))
def Ov(a:ByteArray)(C:a.size<=1000000):wh DG 78 #[y7 a] w λu z=>AR a u/\wm w.heap.size w z:=by
 have q:wt (∀c,c<1->c<a.size->nth (bl a) c=nth (bl a) 0):=λc i _=>by obtain rfl:c=0:=Y;rfl
 have m:=H (mC a)
 go_in
 go_wp2;go_loopw [3] (λc wr=>∃k:Nat,1<=k/\k<=a.size+1/\c=I U k/\wt (∀c,c<k->c<a.size->nth (bl a) c=nth (bl a) 0)/\wm w.heap.size w wr) (λc _=>a.size+1-(intOf c).toNat)
 case atStart=>exact⟨1,Y,Y,rfl,q,ar _ _⟩
 case round=>
  obtain⟨k,D,E,rfl,d,l⟩:=hrel;by_cases x:k<a.size
  ·have y:(k:Int)<a.size:=Y;have A:(0:Int)<a.size:=Y;have n:=rT a k x;have p:=rT a 0 Y;by_cases j:nth (bl a) k=nth (bl a) 0
   ·have s:wt (∀c,c<k+1->c<a.size->nth (bl a) c=nth (bl a) 0):=λc B v=>by
     by_cases t:c=k;·subst t;exact j
     ·exact d c Y v
    have h:((nth (bl a) k:Int)==(nth (bl a) 0:Int))=CD:=by simp[j]
    obtain⟨e,f⟩:∃e,nth (bl a) k=e:=⟨_,rfl⟩;obtain⟨b,g⟩:∃b,nth (bl a) 0=b:=⟨_,rfl⟩;rw[f]at n h;rw[g]at p h;clear j d f g;go_wp2_with fail;go_quiet (fail);go_wp2;go_roundw
    case rel=>exact⟨k+1,Y,Y,by go_num,s,ud l _⟩
    case measure=>exact eT
   ·have h:((nth (bl a) k:Int)==(nth (bl a) 0:Int))=CS:=eS;obtain⟨e,f⟩:∃e,nth (bl a) k=e:=⟨_,rfl⟩;obtain⟨b,g⟩:∃b,nth (bl a) 0=b:=⟨_,rfl⟩;rw[f]at n h;rw[g]at p h;clear j d f g;go_wp2_with fail;go_quiet (fail);go_wp2;go_ret;exact⟨⟨CS,rfl,cO⟩,ud l _⟩
  ·have y:¬(k:Int)<a.size:=Y;have r:wt (rX (bl a)):=λc i=>d c (by rw[m.o]at i;omega) (by rw[m.o]at i;exact i);clear d;go_wp2;go_ret;exact⟨⟨CD,rfl,λ_=>r⟩,l⟩
def GF(a b:Nat)(c d:Int)(e:c=(a:Int))(f:d=(b:Int)):Int.tdiv c d=((a/b:Nat):Int):=by subst e;subst f;rfl
def Tg(c:Nat)(a:ByteArray)(n:a.size<=1000000)(q:c<=a.size+11+(a.size+65534)/65535*5)(h:rX (bl a)->c<=60+a.size/100):wh DG 38 #[I U c,y7 a] w λg p=>g=BX (Bs CD)/\wm w.heap.size w p:=by
 have d:=H h;clear h;have x:Int.tdiv ((a.size:Int)+65534) 65535=(((a.size+65534)/65535:Nat):Int):=GF (a.size+65534) 65535 _ _ Y rfl;have y:Int.tdiv (a.size:Int) 100=((a.size/100:Nat):Int):=GF a.size 100 _ _ rfl rfl;have u:(a.size+65534)/65535<=20:=Y;have v:a.size/100<=10000:=Y;generalize l:(a.size+65534)/65535=j at *;generalize m:a.size/100=k at *;clear l m;have t:¬((a.size:Int)+11+(j:Int)*5<(c:Int)):=Y
 go_in
 go_wp2_with fail;apply(Ov a n).m;rintro g z ⟨⟨b,rfl,i⟩,f⟩;have e:=H i;clear i;cases b
 ·clear d e;go_wp2;go_ret;exact⟨rfl,f⟩
 ·have r:=d.o (e rfl);have s:(c:Int)<=60+(k:Int):=Y;clear d e;go_wp2;go_ret;exact⟨rfl,f⟩
def Jf(a bl:List Nat):(qP a bl).length=G bl+6:=by unfold qP tG;simp
def Qk{c bl:List Nat}(h:∀b∈bl,b<256):∀b∈qP c bl,b<256:=by
 intro b a;unfold qP at a;rcases aZ.1 a with a|a
 ·rcases aZ.1 a with a|a;·simp at a;omega
  ·exact h b a
 ·exact NE c b a
end
end Go.Proofs.YtgkljcmjnphpeaaGreatDoor
namespace Go
section
section
variable{P:Program}(w:vz)
def rW{A:Array Oper}{B:List Oper}{g:Oper}{l:xq}{v:Exit->xq->vz->Prop}(R:g.guard=N)(s x:Operand)(n:TypeId)
  (W:g.op=.call { callee:=.builtin .append,args:=#[s,x],argTypes:=#[n,n]})
  (m:Nat) (c:TypeId) (d:TypeInfo) (u:wg) (a q:Nat) (ht:P.underlying n=O (.slice c)) (S:P.info? c=O d) (hz:d.zero=O u)
  (aa:d.size=a) (M:d.bytes=q) (al:u.cells.size=a) (ac:0<a)
  (i:wg) (e:Nat) (t:List wg) (hs:l.eval s=i) (X:w.ownsRow m c a i e t)
  (p:wT) (b y:Nat) (f:List wg) (hx:l.eval x=Z (O p) b y) (T:G f=b*a) (V:∀z o,f[z]?=O o->w.cell? (p.add z)=O o) (C:∀o∈f,o.oneCell'=CD)
  (J:e+b<=maxLen) (Q:(e+b)*q<=140737488355328) (L:m<=w.heap.size)
  (h:∀j k,k.ownsRow m c a j (e+b) (t++f)->w.grownBy k i.ownBlock->(∀r,j.ownBlock=O r->i.ownBlock=O r\/w.heap.size<=r)->wpList P A v B (l.put g.dst j) k):wpList P A v (g::B) l w:=by
 refine fG R λao K=>?_;obtain⟨j,k,hr,D,E,F⟩:=GQ (P:=P) (w:=w) m n g.type c d u a q ht S hz aa M al ac i e t X p b y f T V C J Q L;unfold Oper.wp execOp;simp only[W,resolve,invoke,builtin,Sem.run_bind,Sem.run_pure,fM,fQ,bM,ew,hs,hx,hr];exact K _ _ (h j k D E F)
def CH{F:Array Oper}{J:List Oper}{g:Oper}{o:xq}{D:Exit->xq->vz->Prop}(W:g.guard=N)(K L:Operand)(i j:TypeId)
  (ho:g.op=.call { callee:=.builtin .append,args:=#[K,L],argTypes:=#[i,j]})
  (p:Nat) (d:TypeId) (f:TypeInfo) (t:P.underlying i=O (.slice d)) (u:P.underlying j=O .string) (q:P.info? d=O f) (C:f.zero=O (I .u8 0))
  (s:f.size=1) (A:f.bytes=1)
  (k:wg) (c:Nat) (v:List wg) (hs:o.eval K=k) (m:w.ownsRow p d 1 k c v) (a:ByteArray) (hx:o.eval L=y7 a)
  (z:c+a.size<=maxLen) (E:c+a.size<=140737488355328) (V:p<=w.heap.size)
  (h:∀l n,n.ownsRow p d 1 l (c+a.size) (v++Lib.strCells a)->w.grownBy n k.ownBlock->(∀b,l.ownBlock=O b->k.ownBlock=O b\/w.heap.size<=b)->wpList P F D J (o.put g.dst l) n):wpList P F D (g::J) o w:=by
 refine fG W λal T=>?_;obtain⟨l,n,r,Q,R,_⟩:=Lib.run_append_own_string (P:=P) w p i j g.type d f t u q C s A k c v m a z E V;have S:∀b,l.ownBlock=O b->k.ownBlock=O b\/w.heap.size<=b:=by
  intro b B;have a0:c+a.size<=9223372036854775807:=by simp only[maxLen]at z;omega
  rcases m.2 with⟨rfl,rfl⟩|⟨y,x,M,rfl,_,X,_,_,ao,_⟩
  ·have ad:=dh (by have:=m.1;omega);subst ad;obtain⟨v2,w2,e,k2,_⟩:=Lib.run_append_own_string (P:=P) w w.heap.size i j g.type d f t u q C s A (Z N 0 0) 0 [] (bI _ _ _ _) a z E (ag _);rw[r]at e;injection e with e1 e2;subst e1;exact C2 (k2.lt b B).1
  ·by_cases ac:c+a.size<=x
   ·have e:=Lib.run_append_room_string (P:=P) w i j g.type d f t u q s y c x M X a ac Y;rw[r]at e;injection e with e1 e2;subst e1;exact C1 B
   ·have aa:=m.cells (g:=y) rfl;have e:=Lib.run_append_grow_string (P:=P) w i j g.type d f (I .u8 0) t u q C ⟨y,0,N⟩ c x v (by rw[s];exact m.1) aa a Y Y (by rw[A];exact fD Y Y);rw[r]at e;injection e with e1 e2;subst e1;simp[Value.ownBlock]at B;exact C2 Y
 unfold Oper.wp execOp;simp only[ho,resolve,invoke,builtin,Sem.run_bind,Sem.run_pure,fM,fQ,bM,ew,hs,hx,r];exact T _ _ (h l n Q R S)
end
end
end Go
namespace Go.Proofs.YtgkljcmjnphpeaaGreatDoor
open Go.RowKit
section
variable{w w':vz}{B bf:Nat}{A q:wg}{d r:List Nat}
def nU(a:List Nat):List wg:=a.map λb:Nat=>I .u8 (b:Int)
structure jg(B bf:Nat)(w:vz)(A q:wg)(d r:List Nat):Prop where
 hb:B<=bf
 blk:w.heap[bf]?=O (BV #[A,q] 122 (0,0))
 oo:w.ownsRow B 5 1 A (G d) (nU d)
 po:w.ownsRow B 3 1 q (G r) (r.map λx:Nat=>I U x)
def xk(w:vz)(bf f:Nat):Prop:=∃a:Array wg,∃c e,w.heap[bf]?=O (BV a c e)/\∃b,a[0]?=O b/\b.ownBlock=O f
structure iP(B bf:Nat)(w w':vz):Prop extends Kept 5 B [bf] w w' where
 prot:bf<w.heap.size->∀g o,w.heap[g]?=O o->g≠bf->¬xk w bf g->w'.heap[g]?=O o/\¬xk w' bf g
def xk.same{w w':vz}{bf a:Nat}(h:w'.heap[bf]?=w.heap[bf]?):xk w' bf a↔xk w bf a:=by unfold xk;rw[h]
def xk.of{w:vz}{bf c:Nat}{b j:wg}{f:TypeId}{g:Nat×Nat}(h:w.heap[bf]?=O (BV #[b,j] f g)):xk w bf c↔b.ownBlock=O c:=by
 constructor
 ·rintro⟨k,l,m,a,n,e,i⟩;rw[h]at a;simp at a;obtain⟨rfl,_,_⟩:=a;simp at e;subst e;exact i
 ·intro a;exact⟨_,_,_,h,b,rfl,a⟩
def iP.refl(B bf:Nat)(w:vz):iP B bf w w:=⟨Kept.refl _ _ _ _,λ_ b c h _ a=>⟨h,a⟩⟩
def iP.t{a b c:vz}(h:iP B bf a b)(k:iP B bf b c):iP B bf a c:=
 ⟨Kept.t h.toKept k.toKept,λf e i m g n=>by obtain⟨j,l⟩:=h.prot f e i m g n;exact k.prot (aF f h.size) e i j g l⟩
def iP.of_below{b:Nat}(h:wm w.heap.size w w'):iP B bf w w' :=
 ⟨⟨h.os,h.tape,h.output,h.size,λk j _ c _=>by rw[h.block k (ap c)];exact c⟩,λf e j a _ g=>⟨by rw[h.block e (ap a)];exact a,λi=>g ((xk.same (h.block bf f)).1 i)⟩⟩
def iP.alloc(h:iP B bf w w')(a:Obj):iP B bf w (w'.alloc a):=h.t (iP.of_below (b:=0) ((ar _ _).alloc (ag _) a))
def iP.grown{c g:vz}{e:Option Nat}{n F:wg}{b:TypeId}{p:Nat×Nat}(k:iP B bf w c)(l:c.heap[bf]?=O (BV #[n,F] b p))(f:c.grownBy g e)(C:∀a,e=O a->B<=a/\∃o s,c.heap[a]?=O (BV o 5 s))(u:e≠O bf)(D:∀a,e=O a->n.ownBlock=O a\/w.heap.size<=a):iP B bf w g:=by
 refine⟨Kept.grown k.toKept f C,λv a E m x y=>?_⟩;obtain⟨h,i⟩:=k.prot v a E m x y;have t:=f.block bf (ap l) (λb=>u b.s);refine⟨?_,λz=>i ((xk.same t).1 z)⟩;rw[f.block a (ap h) (λb=>?_)];·exact h
 ·rcases D a b.s with j|j;·exact i ((xk.of l).2 j)
  ·have:=ap m;omega
def iP.setV{c:vz}{l m b:wg}{e:TypeId}{f:Nat×Nat}(k:iP B bf w c)(h:c.heap[bf]?=O (BV #[l,m] e f))(v:∀a,b.ownBlock=O a->l.ownBlock=O a\/w.heap.size<=a):iP B bf w (c.setCell ⟨bf,0,N⟩ b):=by
 refine⟨Kept.setCell k.toKept cO b,λs a x i j t=>?_⟩;obtain⟨n,o⟩:=k.prot s a x i j t;have p:(c.setCell ⟨bf,0,N⟩ b).heap[bf]?=O (BV #[b,m] e f):=by rw[nu _ h];rfl
 refine⟨by rw[lK _ (by show a≠bf;exact j)];exact n,λu=>?_⟩;rcases v a ((xk.of p).1 u)with g|g;·exact o ((xk.of h).2 g)
 ·have:=ap i;omega
def jg.lt(h:jg B bf w A q d r):bf<w.heap.size:=ap h.blk
def jg.bw(h:jg B bf w A q d r):B<=w.heap.size:=eX (eV h.hb h.lt)
def jg.ne(h:jg B bf w A q d r)(a:Nat)(c:A.ownBlock=O a):a≠bf:=by rintro rfl;obtain⟨_,e,f,b⟩:=oQ h.oo a c;rw[h.blk]at b;simp at b
def FD{b B c j i:Nat}{f:wg}{l:List wg}{g:List Nat}(h:w.ownsRow b c j f i l)(k:Kept 5 B g w w')(t:c ≠ 5)(p:∀a,f.ownBlock=O a->a∉g):w'.ownsRow b c j f i l:=by
 obtain⟨o,e⟩:=h;refine⟨o,?_⟩;rcases e with e|⟨a,m,n,e1,e2,u,s⟩;·exact C1 e
 ·exact C2 ⟨a,m,n,e1,e2,k.block a _ (p a (by rw[e1];rfl)) u (C2 λv x h=>by cases h;exact t rfl),s⟩
def jg.grow{i e:vz}(h:jg B bf w A q d r)(k:iP B bf w i)(D:i.heap[bf]?=w.heap[bf]?)(C:i.ownsRow B 5 1 A (G d) (nU d))(s:i.grownBy e A.ownBlock){b:wg}{p:Nat}{f:List Nat}(P:∀a,b.ownBlock=O a->A.ownBlock=O a\/w.heap.size<=a)(u:e.ownsRow B 5 1 b (G d+p) (nU d++nU f))(L:G f=p):jg B bf (e.setCell ⟨bf,0,N⟩ b) b q (d++f) r/\iP B bf w (e.setCell ⟨bf,0,N⟩ b):=by
 have m:=D.t h.blk;have n:e.heap[bf]?=O (BV #[A,q] 122 (0,0)):=by rw[s.block bf (ap m) (λg=>h.ne bf g.s rfl)];exact m
 have Q:=k.grown m s (oQ C) (λg=>h.ne bf g rfl) (λa g=>C1 g);have v:=Q.setV n P;have E:(e.setCell ⟨bf,0,N⟩ b).heap[bf]?=O (BV #[b,q] 122 (0,0)):=by rw[nu _ n];rfl
 have M:∀a,b.ownBlock=O a->a≠bf:=λa o=>by rintro rfl;obtain⟨_,j,y,c⟩:=oQ u a o;rw[n]at c;simp at c
 refine⟨⟨h.hb,E,?_,?_⟩,v⟩
 ·have K:(d++f).length=G d+p:=by rw[ab,L]
  have F:nU (d++f)=nU d++nU f:=by unfold nU;rw[aI]
  rw[K,F];obtain⟨z,l⟩:=u;refine⟨z,?_⟩;rcases l with l|⟨a,j,x,e1,e2,J,c⟩;·exact C1 l
  ·exact C2 ⟨a,j,x,e1,e2,by rw[lK _ (by show a≠bf;exact M a (by rw[e1];rfl))];exact J,c⟩
 ·refine FD h.po v.toKept bF (λa o t=>?_);simp at t;subst t;obtain⟨_,j,y,c⟩:=oQ h.po a o;rw[h.blk]at c;simp at c
def Gy{b f i g:Nat}{e:wg}{j:List wg}(h:w.ownsRow b f i e g j)(p:wT)(t:wg)(s:∀a,e.ownBlock=O a->a≠p.block):(w.setCell p t).ownsRow b f i e g j:=by
 obtain⟨m,c⟩:=h;refine⟨m,?_⟩;rcases c with c|⟨a,k,l,e1,e2,o,n⟩;·exact C1 c
 ·exact C2 ⟨a,k,l,e1,e2,by rw[eB _ _ _ _ (s a (by rw[e1];rfl))];exact o,n⟩
def Ez(a:ByteArray):Lib.strCells a=nU (bl a):=by unfold Lib.strCells nU bl;rw[dy];rfl
def kY(a:List ByteArray):List Nat:=a.flatMap bl
def KC{e cap:Nat}{u:Array wg}{texts:List ByteArray}(h:jg B bf w A q d r)(l:w.heap[e]?=O (BV u 9 (0,0)))(X:∀(D:Nat) (b:ByteArray),texts[D]?=O b->u[D]?=O (y7 b))(W:G texts<=cap)(a3:cap<=1000000)(ac:G d+(kY texts).length<=500000000):wh DG 96 #[A3 (O ⟨bf,0,N⟩),Z (O ⟨e,0,N⟩) (G texts) cap] w λf w'=>f=BX (BG #[])/\∃a1,jg B bf w' a1 q (d++kY texts) r/\iP B bf w w':=by
 obtain⟨i1,Q,R,S,T⟩:=bR infoByte;have F:=H h;have ad:e≠bf:=by rintro rfl;rw[h.blk]at l;simp at l
 have J:=H l;have K:=H X;have L:=H ac;obtain⟨i,y⟩:∃i,G texts=i:=⟨_,rfl⟩;have t:=H y;rw[y]at W ⊢
 go_in
 go_wp2;go_loopw [5,8] (λ_ m wr=>∃(a:Nat) (p:wg),a<=i/\m=I U a/\wt (jg B bf wr p q (d++kY (texts.take a)) r)/\wt (iP B bf w wr)) (λ_ m _=>i-(intOf m).toNat)
 case atStart=>exact⟨0,A,aw _,rfl,by show jg B bf w A q (d++[]) r;rw[bP];exact F,iP.refl _ _ _⟩
 case round=>
  obtain⟨a,p,g,rfl,c,j⟩:=hrel;rcases aC g with g|g
  ·subst g;go_wp2
   go_end0
   refine⟨rfl,p,?_,j⟩;have:=c.o;rw[show texts.take a=texts from aP (by rw[t.o];exact ag _)]at this;exact this
  ·obtain⟨b,C⟩:∃b,texts[a]?=O b:=⟨_,af (by rw[t.o];exact g)⟩;have V:=j.o.block e _ (by simpa using ad) J (C2 λa2 fz f=>by cases f);have a5:wr.cell? ⟨e,a,N⟩=O (y7 b):=by rw[cb V];exact K a b C
   have z:kY (texts.take (a+1))=kY (texts.take a)++bl b:=by unfold kY;rw[cP,C,cK];simp
   have aa:(kY (texts.take (a+1))).length<=(kY texts).length:=by unfold kY;rw[<-cQ (a+1) texts,cK,ab];simp
   have a4:(d++kY (texts.take a)).length+b.size<=500000000:=by have:=L.o;rw[z,ab,mC]at aa;rw[ab];omega
   obtain⟨va,vc,rfl⟩:=ke c.o.oo;have k:=c.o.blk;have P:=H z;generalize al:d++kY (texts.take a)=E at *;have M:=H al;have c0:=nw k;go_wp2_with (at_builtin;refine CH _ rfl (.tmp 16) (.tmp 17) 23 9 rfl B 5 i1 az dC Q R S T _ (G E) _ rfl c.o.oo b rfl ?h63 ?hby ?hbs ?_)
   case h63=>unfold maxLen;omega
   case hby=>omega
   case hbs=>exact c.bw
   intro v6 w6 n x a0;have v:w6.heap[bf]?=O (BV #[Z va (G E) vc,q] 122 (0,0)):=by rw[x.block bf (ap k) (λf=>c.o.ne bf f.s rfl)];exact k
   rw[Ez]at n;have s:=H (c.grow (iP.refl _ _ _) rfl c.o.oo x a0 n (mC b));obtain⟨a6,a7,ao⟩:=ke n;subst ao;have c6:=nw v;have f6:=lQ 0 v;go_wp2;go_roundw
   case rel=>exact⟨a+1,_,Y,by first|rfl|(congr 1),by rw[P.o,<-au,M.o];exact s.1,j.t s.2⟩
   case measure=>exact eT
def jg.alloc(h:jg B bf w A q d r)(a:Obj):jg B bf (w.alloc a) A q d r:=⟨h.hb,nt _ h.blk,h.oo.alloc _,h.po.alloc _⟩
def nP(h:jg B bf w A q d r)(a:ByteArray)(j:G d+a.size<=500000000):wh DG 96 #[A3 (O ⟨bf,0,N⟩),Z (O ⟨w.heap.size,0,N⟩) 1 1] (w.alloc (BV #[y7 a] 9)) λe w'=>e=BX (BG #[])/\∃c,jg B bf w' c q (d++bl a) r/\iP B bf w w':=by
 have:=KC (texts:=[a]) (cap:=1) (h.alloc (BV #[y7 a] 9)) (bn w _) (λf k b=>by
  match f,b with
  |0,b=>cases b;rfl
  |f+1,b=>simp at b) cO bF rO
 apply this.m;rintro e w' ⟨rfl,c,g,i⟩;refine⟨rfl,c,?_,((iP.refl B bf w).alloc _).t i⟩;simpa[kY]using g
def AL(h:jg B bf w A q d r)(b c:ByteArray)(k:G d+(b.size+c.size)<=500000000):wh DG 96 #[A3 (O ⟨bf,0,N⟩),Z (O ⟨w.heap.size,0,N⟩) 2 2] (w.alloc (BV #[y7 b,y7 c] 9)) λf w'=>f=BX (BG #[])/\∃e,jg B bf w' e q (d++(bl b++bl c)) r/\iP B bf w w':=by
 have:=KC (texts:=[b,c]) (cap:=2) (h.alloc (BV #[y7 b,y7 c] 9)) (bn w _) (λg l a=>by
  match g,a with
  |0,a=>cases a;rfl
  |1,a=>cases a;rfl
  |g+2,a=>simp at a) cO bF rO
 apply this.m;rintro f w' ⟨rfl,e,i,j⟩;refine⟨rfl,e,?_,((iP.refl B bf w).alloc _).t j⟩;simpa[kY]using i
def AO(h:jg B bf w A q d r)(b c e:ByteArray)(l:G d+(b.size+(c.size+e.size))<=500000000):wh DG 96 #[A3 (O ⟨bf,0,N⟩),Z (O ⟨w.heap.size,0,N⟩) 3 3] (w.alloc (BV #[y7 b,y7 c,y7 e] 9)) λg w'=>g=BX (BG #[])/\∃f,jg B bf w' f q (d++(bl b++(bl c++bl e))) r/\iP B bf w w':=by
 have:=KC (texts:=[b,c,e]) (cap:=3) (h.alloc (BV #[y7 b,y7 c,y7 e] 9)) (bn w _) (λi m a=>by
  match i,a with
  |0,a=>cases a;rfl
  |1,a=>cases a;rfl
  |2,a=>cases a;rfl
  |i+3,a=>simp at a) cO bF rO
 apply this.m;rintro g w' ⟨rfl,f,j,k⟩;refine⟨rfl,f,?_,((iP.refl B bf w).alloc _).t k⟩;simpa[kY]using j
def jg.set{b:vz}{x v:wg}{i:List Nat}(h:jg B bf w A q d r)(k:iP B bf w b)(f:b.heap[bf]?=O (BV #[x,q] 122 (0,0)))(u:∀a,v.ownBlock=O a->x.ownBlock=O a\/w.heap.size<=a)(t:b.ownsRow B 5 1 v (G i) (nU i)):jg B bf (b.setCell ⟨bf,0,N⟩ v) v q i r/\iP B bf w (b.setCell ⟨bf,0,N⟩ v):=by
 have m:=k.setV f u;have p:(b.setCell ⟨bf,0,N⟩ v).heap[bf]?=O (BV #[v,q] 122 (0,0)):=by rw[nu _ f];rfl
 refine⟨⟨h.hb,p,?_,?_⟩,m⟩
 ·obtain⟨o,e⟩:=t;refine⟨o,?_⟩;rcases e with e|⟨a,j,n,e1,e2,g,c⟩;·exact C1 e
  ·refine C2 ⟨a,j,n,e1,e2,?_,c⟩;rw[lK _ (by show a≠bf;rintro rfl;rw[f]at g;simp at g)];exact g
 ·refine FD h.po m.toKept bF (λa s l=>?_);simp at l;subst l;obtain⟨_,j,y,c⟩:=oQ h.po a s;rw[h.blk]at c;simp at c
def yj{w:vz}{c:Nat}:∀(a:Nat) (b:wg),(nU [c])[a]?=O b->(w.alloc (BV #[I .u8 (c:Nat)] 5)).cell? ((⟨w.heap.size,0,N⟩:wT).add a)=O b:=by
 intro a b h;match a,h with
 |0,h=>cases h;rw[sK,cb (bn w _)];rfl
 |a+1,h=>simp[nU]at h
def Fq{w:vz}{a:Nat}{e:Obj}(h:a<w.heap.size):(w.alloc e).heap[a]?=w.heap[a]?:=by obtain⟨c,b⟩:∃c,w.heap[a]?=O c:=⟨_,bX h⟩;rw[b];exact nt _ b
def KL(g:wg)(c:List Nat)(j:w.ownsRow B 5 1 g (G c) (c.map λa:Nat=>I .u8 (a:Int)))(M:B<=w.heap.size)(P:G c<=1000000000)(b:Nat)(i:b<256):wh DG 143 #[g,I .u8 b] w λn w'=>∃h C,n=BX h/\w'.ownsRow B 5 1 h (G c+2) ((c.map λa:Nat=>I .u8 (a:Int))++([gR (b/16),gR (b%16)].map λa:Nat=>I .u8 (a:Int)))/\(w.alloc C).grownBy w' g.ownBlock/\(∀e,h.ownBlock=O e->g.ownBlock=O e\/w.heap.size<=e):=by
 obtain⟨z,s,v,x,y⟩:=bR infoByte;have E:0<=(b:Int)/16:=Y;have F:(b:Int)/16<16:=Y;have J:bits .and .u8 (b:Int) 15=((b%16:Nat):Int):=by have:=u8_and_nat b 15 i Y;rw[nat_mask4]at this;exact this
 have K:(b:Int)%16<16:=Y;have L:0<=(b:Int)%16:=Y;have e1:((b:Int)/16).toNat=b/16:=Y;have e2:((b:Int)%16).toNat=b%16:=Y;have l:=H e1;have m:=H e2;clear e1 e2
 go_in
 go_wp2_with fail;go_region_law (refine Tc rfl (.tmp 5) (.tmp 12) 23 rfl B 5 z (I .u8 0) 1 1 az s v x y rfl bF g (G c) _ rfl (ed (j.alloc _)) ⟨w.heap.size,0,N⟩ 2 2 ([gR (b/16),gR (b%16)].map λa:Nat=>I .u8 (a:Int)) rfl cO ?hnews ?hone ?h63 ?hby ?hb ?_;(case hnews=>refine Jz ?_ ?_<;>simp only[l.o,m.o]<;>exact cX _ (Gf _ Y _));(case hone=>intro Q k;simp at k;rcases k with rfl|rfl<;>rfl);(case h63=>unfold maxLen;omega);(case hby=>omega);(case hb=>simp;omega);intro h R t f u);all_goals (clear j)
 all_goals go_wp2
 all_goals go_ret
 all_goals exact⟨h,_,rfl,t,⟨f.os,f.tape,f.output,f.size,f.block⟩,λe p=>(u e p).imp id (λD=>aJ cO D)⟩
def i8(b:Nat):List Nat:=if iN b=CD/\b≠35 then[b]else[35,gR (b/16),gR (b%16)]
def gN(l:List Nat):List Nat:=47::l.flatMap i8
def qJ(b:Nat):(i8 b).length<=3:=by unfold i8;split<;>simp
def Oa(h:jg B bf w A q d r)(f:ByteArray)(b4:G d+3*f.size+1<=500000000):wh DG 182 #[A3 (O ⟨bf,0,N⟩),y7 f] w λc w'=>c=BX (BG #[])/\∃b0,jg B bf w' b0 q (d++gN (bl f)) r/\iP B bf w w':=by
 obtain⟨i1,gi,a9,ba,bb⟩:=bR infoByte;have HP:=H (nP h {data:=#[47]} (by show (G d)+1<=_;omega));have HS:wt (∀R,R<f.size->∃Q:R<f.size,(f[R]'Q).toNat=nth (bl f) R):=λR Q=>⟨Q,rT f R Q⟩;obtain⟨a0,hn⟩:∃a0,f.size=a0:=⟨_,rfl⟩;have HN:=H hn;have b6:a0<=500000000:=Y;clear h
 go_in
 go_wp2_with fail;apply HP.o.m;rintro c w1 ⟨rfl,b1,h1,k1⟩;have H1:=H h1;have K1:=H k1;clear h1 k1 HP;go_wp2_with fail;go_loopw [4,5,11] (λ_ _ iv wr=>∃(i:Nat) (bh:wg),i<=a0/\iv=I U i/\wt (jg B bf wr bh q (d++gN ((bl f).take i)) r)/\wt (iP B bf w wr)) (λ_ _ iv _=>a0-(intOf iv).toNat)
 case atStart=>exact⟨0,b1,aw _,rfl,H1,K1⟩
 case round=>
  obtain⟨i,bh,hm,rfl,e,HK⟩:=hrel;rcases aC hm with hm|hm
  ·subst hm;go_wp2
   go_end0
   refine⟨rfl,bh,?_,HK⟩;have:=e.o;rw[show(bl f).take i=bl f from aP (by rw[mC,HN.o];exact ag _)]at this;exact this
  ·obtain⟨Q,hb⟩:=HS.o i Y;have hx:(bl f)[i]?=O (nth (bl f) i):=by simp[nth,af (show i<(bl f).length by rw[mC];omega)]
   have bt:gN ((bl f).take (i+1))=gN ((bl f).take i)++i8 (nth (bl f) i):=by unfold gN;rw[cP,hx,cK];simp
   have br:=lJ f i Q;have b5:(d++gN ((bl f).take i)).length+3<=500000000:=by
    have:∀ao:List Nat,(gN ao).length<=3*G ao+1:=λao=>by
     unfold gN;induction ao with
     |nil=>simp
     |cons bz ao ih=>have:=qJ bz;simp only[cG,ai,ab]at ih ⊢;omega
    have h2:=this ((bl f).take i);rw[ax,mC]at h2;rw[ab];omega
   obtain⟨L,M,rfl⟩:=ke e.o.oo;have t:=e.o.blk;have a8:=H bt;generalize bs:d++gN ((bl f).take i)=a at *;have a7:=H bs;clear bs bt hx;generalize nth (bl f) i=b at *;have hB:=e.o.bw;have c0:=nw t;by_cases D:iN b=CD/\b≠35
   ·have t2:((b:Int) != 35)=CD:=eS;have z:=H (Mh b);rw[D.1]at z;have a3:wt (i8 b=[b]):=by unfold Hid i8;rw[ak D]
    clear D;go_wp2_with fail;apply(z _).m;rintro c w' ⟨rfl,l⟩;have l:=l.s;subst l;go_wp2_with (at_builtin;refine rW _ rfl (.tmp 27) (.tmp 29) 23 rfl B 5 i1 (I .u8 0) 1 1 az gi a9 ba bb rfl bF _ (G a) _ rfl (e.o.oo.alloc _) ⟨wr.heap.size,0,N⟩ 1 1 (nU [b]) rfl rfl ?hnews ?hone ?h63 ?hby ?hbs ?_)
    case hnews=>exact yj
    case hone=>intro bv x;simp[nU]at x;subst x;rfl
    case h63=>unfold maxLen;omega
    case hby=>omega
    case hbs=>simp;omega
    intro S P j k y;have n:P.heap[bf]?=O (BV #[Z L (G a) M,q] 122 (0,0)):=by rw[k.block bf vj (λc=>e.o.ne bf c.s rfl)];exact nt _ t
    have v:=H (e.grow ((iP.refl B bf wr).alloc _) (Fq e.lt) (e.o.oo.alloc _) k (λg u=>(y g u).imp id (λbx=>Y)) j rfl);obtain⟨T,V,ac⟩:=ke j;subst ac;have c6:=nw n;have f6:=lQ 0 n;clear j k y n t;go_wp2;go_roundw
    case rel=>exact⟨i+1,_,Y,by first|rfl|(congr 1),by rw[a8.o,<-au,a7.o,a3.o];exact v.1,HK.t v.2⟩
    case measure=>exact eT
   ·have a3:wt (i8 b=[35,gR (b/16),gR (b%16)]):=by unfold Hid i8;rw[aj D]
    have z:=H (Mh b);cases aa:iN b with
    |false=>
     rw[aa]at z;clear aa;clear D;go_wp2_with fail;apply(z _).m;rintro c w' ⟨rfl,l⟩;have l:=l.s;subst l;go_wp2_with (at_builtin;refine rW _ rfl (.tmp 37) (.tmp 38) 23 rfl B 5 i1 (I .u8 0) 1 1 az gi a9 ba bb rfl bF _ (G a) _ rfl (e.o.oo.alloc _) ⟨wr.heap.size,0,N⟩ 1 1 (nU [35]) rfl rfl ?hnews ?hone ?h63 ?hby ?hbs ?_)
     case hnews=>exact yj
     case hone=>intro bv x;simp[nU]at x;subst x;rfl
     case h63=>unfold maxLen;omega
     case hby=>omega
     case hbs=>simp;omega
     intro S P j k y;have n:P.heap[bf]?=O (BV #[Z L (G a) M,q] 122 (0,0)):=by rw[k.block bf vj (λc=>e.o.ne bf c.s rfl)];exact nt _ t
     have J:=((iP.refl B bf wr).alloc _).grown (nt _ t) k (oQ (e.o.oo.alloc _)) (λc=>e.ne bf c rfl) (λg c=>C1 c);have a1:P.ownsRow B 5 1 S (a++[35]).length ((a++[35]).map λbm:Nat=>I .u8 (bm:Int)):=by rw[ab,aI];exact j
     have bd:=aJ hB J.size;have a4:=H (KL S (a++[35]) a1 bd (by rw[ab];simp;omega) b br);obtain⟨T,V,ac⟩:=ke j;subst ac;have a6:=H (λm=>oQ (j.alloc m));have a5:=H n;have X:=H J;have W:=H y;clear j a1 k n J y;go_wp2_with fail;apply a4.o.m;rintro c w7 ⟨v7,m,rfl,K,C,al⟩;have p:=nt m a5;have E:(Z T (G a+1) V).ownBlock≠O bf:=λc=>by
      rcases W.o bf c with h|h;·exact e.ne bf h rfl
      ·have:=e.o.lt;omega
     have s:w7.heap[bf]?=O (BV #[Z L (G a) M,q] 122 (0,0)):=by rw[C.block bf (ap p) (λc=>E c.s)];exact p
     have a2:w7.ownsRow B 5 1 v7 (a++i8 b).length (nU (a++i8 b)):=by
      rw[a3.o];have:a++[35,gR (b/16),gR (b%16)]=(a++[35])++[gR (b/16),gR (b%16)]:=cO;have bc:((a++[35])++[gR (b/16),gR (b%16)]).length=(a++[35]).length+2:=by rw[ab];rfl
      rw[this,bc];unfold nU;rw[aI];exact K
     have F:∀g,(Z T (G a+1) V).ownBlock=O g->(Z L (G a) M).ownBlock=O g\/wr.heap.size<=g:=λg u=>(W g u).imp id (λbx=>Y);have k7:=(X.alloc m).grown p C (a6 m) E F;have v:=H (e.set k7 s (λg u=>by
      rcases al g u with h|h;·exact F g h
      ·exact C2 (aJ X.size h)) a2)
     obtain⟨b2,b3,ad⟩:=ke K;generalize (a++[35]).length+2=n7 at ad;subst ad;have c6:=nw s;have f6:=lQ 0 s;clear K a2 s k7 t C al F E p;go_wp2;go_roundw
     case rel=>exact⟨i+1,_,Y,by first|rfl|(congr 1),by rw[a8.o,<-au,a7.o];exact v.1,HK.t v.2⟩
     case measure=>exact eT
    |true=>
     have t2:((b:Int) != 35)=CS:=by have:=Classical.byContradiction λh=>D ⟨aa,h⟩;subst this;rfl
     rw[aa]at z;clear aa;clear D;go_wp2_with fail;apply(z _).m;rintro c w' ⟨rfl,l⟩;have l:=l.s;subst l;go_wp2_with (at_builtin;refine rW _ rfl (.tmp 37) (.tmp 38) 23 rfl B 5 i1 (I .u8 0) 1 1 az gi a9 ba bb rfl bF _ (G a) _ rfl (e.o.oo.alloc _) ⟨wr.heap.size,0,N⟩ 1 1 (nU [35]) rfl rfl ?hnews ?hone ?h63 ?hby ?hbs ?_)
     case hnews=>exact yj
     case hone=>intro bv x;simp[nU]at x;subst x;rfl
     case h63=>unfold maxLen;omega
     case hby=>omega
     case hbs=>simp;omega
     intro S P j k y;have n:P.heap[bf]?=O (BV #[Z L (G a) M,q] 122 (0,0)):=by rw[k.block bf vj (λc=>e.o.ne bf c.s rfl)];exact nt _ t
     have J:=((iP.refl B bf wr).alloc _).grown (nt _ t) k (oQ (e.o.oo.alloc _)) (λc=>e.ne bf c rfl) (λg c=>C1 c);have a1:P.ownsRow B 5 1 S (a++[35]).length ((a++[35]).map λbm:Nat=>I .u8 (bm:Int)):=by rw[ab,aI];exact j
     have bd:=aJ hB J.size;have a4:=H (KL S (a++[35]) a1 bd (by rw[ab];simp;omega) b br);obtain⟨T,V,ac⟩:=ke j;subst ac;have a6:=H (λm=>oQ (j.alloc m));have a5:=H n;have X:=H J;have W:=H y;clear j a1 k n J y;go_wp2_with fail;apply a4.o.m;rintro c w7 ⟨v7,m,rfl,K,C,al⟩;have p:=nt m a5;have E:(Z T (G a+1) V).ownBlock≠O bf:=λc=>by
      rcases W.o bf c with h|h;·exact e.ne bf h rfl
      ·have:=e.o.lt;omega
     have s:w7.heap[bf]?=O (BV #[Z L (G a) M,q] 122 (0,0)):=by rw[C.block bf (ap p) (λc=>E c.s)];exact p
     have a2:w7.ownsRow B 5 1 v7 (a++i8 b).length (nU (a++i8 b)):=by
      rw[a3.o];have:a++[35,gR (b/16),gR (b%16)]=(a++[35])++[gR (b/16),gR (b%16)]:=cO;have bc:((a++[35])++[gR (b/16),gR (b%16)]).length=(a++[35]).length+2:=by rw[ab];rfl
      rw[this,bc];unfold nU;rw[aI];exact K
     have F:∀g,(Z T (G a+1) V).ownBlock=O g->(Z L (G a) M).ownBlock=O g\/wr.heap.size<=g:=λg u=>(W g u).imp id (λbx=>Y);have k7:=(X.alloc m).grown p C (a6 m) E F;have v:=H (e.set k7 s (λg u=>by
      rcases al g u with h|h;·exact F g h
      ·exact C2 (aJ X.size h)) a2)
     obtain⟨b2,b3,ad⟩:=ke K;generalize (a++[35]).length+2=n7 at ad;subst ad;have c6:=nw s;have f6:=lQ 0 s;clear K a2 s k7 t C al F E p;go_wp2;go_roundw
     case rel=>exact⟨i+1,_,Y,by first|rfl|(congr 1),by rw[a8.o,<-au,a7.o];exact v.1,HK.t v.2⟩
     case measure=>exact eT
end
section
structure Sn(a:Nat)(S:ByteArray)(w:vz)(p:Nat)(s:Option (List Nat)):Prop where
 blk:w.heap[a]?=O (BV #[y7 S,I U p,Bs s.isNone] 146 (0,0))
 lp:p<=S.size
 ls:S.size<=200000
 rest:∀r,s=O r->(bl S).drop p=r
variable{a:Nat}{S:ByteArray}{w f:vz}{p:Nat}{s:Option (List Nat)}
def Sn.c0(h:Sn a S w p s):w.cell? ⟨a,0,N⟩=O (y7 S):=cb h.blk
def Sn.c1(h:Sn a S w p s):w.cell? ⟨a,1,N⟩=O (I U p):=cb h.blk
def Sn.c2(h:Sn a S w p s):w.cell? ⟨a,2,N⟩=O (Bs s.isNone):=cb h.blk
def Sn.fz(h:Sn a S w p s)(b:Nat):w.frozen? ⟨a,b,N⟩=CS:=pA h.blk
def Sn.lt(h:Sn a S w p s):a<w.heap.size:=ap h.blk
def Sn.other(h:Sn a S w p s)(b:wm w.heap.size w f):Sn a S f p s:=⟨by rw[b.block _ h.lt];exact h.blk,h.lp,h.ls,h.rest⟩
def Sn.drewN(h:Sn a S w p s)(b:Nat):Sn a S (w.drewN b) p s:=⟨h.blk,h.lp,h.ls,h.rest⟩
def Sn.at_(h:Sn a S w p s)(b:Nat)(c:b<=S.size){t:Option (List Nat)}(e:t.isNone=s.isNone)(d:∀r,t=O r->(bl S).drop b=r):Sn a S (w.setCell ⟨a,1,N⟩ (I U b)) b t:=
 ⟨by rw[nu _ h.blk,e];rfl,c,h.ls,d⟩
def Sn.bad(h:Sn a S w p s):Sn a S (w.setCell ⟨a,2,N⟩ (Bs CD)) p N:=
 ⟨by rw[nu _ h.blk];rfl,h.lp,h.ls,λ_ b=>by cases b⟩
def Sn.len{r:List Nat}(h:Sn a S w p (O r)):G r=S.size-p:=by rw[<-h.rest r rfl,aU,mC]
def Sn.bytes{r:List Nat}(h:Sn a S w p (O r)):∀b∈r,b<256:=λb c=>Lb S b (by rw[<-h.rest r rfl]at c;exact dW c)
def Sn.cons{b:Nat}{r:List Nat}(h:Sn a S w p (O (b::r))):p<S.size/\nth (bl S) p=b:=by
 have d:=h.len;have e:=h.rest _ rfl;have c:p<S.size:=by simp only[ai]at d;omega
 refine⟨c,?_⟩;have:((bl S).drop p)[0]?=(b::r)[0]?:=by rw[e]
 rw[fK]at this;unfold nth;rw[aL,show p=p+0 by omega,this];rfl
def Sn.nil(h:Sn a S w p (O [])):p=S.size:=by have b:=h.len;have:=h.lp;simp only[aB]at b;omega
def kG:Option (List Nat)->Int
 |some (b::_)=>(b:Nat)
 |_=> -1
def xg(h:Sn a S w p s):wh DG 167 #[A3 (O ⟨a,0,N⟩)] w λi f=>i=BX (I U (kG s))/\∃l,f=w.drewN l:=by
 have m:=h.c0;have n:=h.c1;have d:=h.c2;match s,h with
 |none,h=>
  simp only[Option.isNone_none]at d;clear h
  go_in
  go_wp2_with fail;go_quiet (fail);go_wp2;go_ret;exact⟨rfl,nq,rfl⟩
 |some [],h=>
  simp only[Option.isNone_some]at d;have c:=h.nil;have g:decide (S.size<=p)=CD:=eS;clear h c
  go_in
  go_wp2_with fail;go_quiet (fail);go_wp2;go_ret;exact⟨rfl,nq,rfl⟩
 |some (b::r),h=>
  simp only[Option.isNone_some]at d;obtain⟨c,e⟩:=h.cons;have g:decide ((S.size:Int)<=(p:Int))=CS:=eS;have k:=rT S p c;have j:=lJ S p c;rw[e]at k j;have o:(p:Int)<S.size:=Y;clear h e
  go_in
  go_wp2_with fail;go_quiet (fail);go_wp2_with fail;go_quiet (fail);go_wp2;go_ret;exact⟨rfl,_,World.drewN_drewN _ _ _⟩
end
section
variable{a:Nat}{S:ByteArray}{w w':vz}{p:Nat}{s:Option (List Nat)}
def kJ(a:Nat)(S:ByteArray)(w w':vz)(s:Option (List Nat)):Prop:=(∃b,Sn a S w' b s)/\iJ a w w'
def kJ.t{b c:vz}{t:Option (List Nat)}(h:kJ a S w b s)(k:kJ a S b c t):kJ a S w c t:=⟨k.1,h.2.t k.2⟩
def kJ.drewN(h:kJ a S w w' s)(b:Nat):kJ a S w (w'.drewN b) s:=by obtain⟨⟨q,h⟩,c⟩:=h;exact⟨⟨q,h.drewN b⟩,c.drewN b⟩
def Sn.toS(h:Sn a S w p s):kJ a S w w s:=⟨⟨p,h⟩,iJ.refl _ _⟩
def yI(h:Sn a S w p s):wh DG 168 #[A3 (O ⟨a,0,N⟩)] w λd w'=>d=BX (BG #[])/\Sn a S w' (min (p+1) S.size) (s.map List.tail)/\iJ a w w':=by
 have i:=h.c0;have j:=h.c1;have k:=h.fz 1;have n:=h.ls;have m:=h.lp;by_cases l:p<S.size
 ·have g:(p:Int)<S.size:=Y;have c:wt (∀e,Sn a S ((w.drewN e).setCell ⟨a,1,N⟩ (I U (p+1:Nat))) (min (p+1) S.size) (s.map List.tail)):=λe=>by
   rw[show min (p+1) S.size=p+1 by omega];refine(h.drewN e).at_ (p+1) Y (by cases s<;>rfl) (λr b=>?_);cases s with
   |none=>cases b
   |some f=>simp only[bK,Option.some.injEq]at b;rw[<-b,<-h.rest f rfl,List.tail_drop]
  clear h
  go_in
  go_wp2_with fail;go_quiet (fail);go_wp2
  go_end0
  exact⟨rfl,c nq,((iJ.refl _ _).drewN nq).setCell _ _⟩
 ·have g:¬(p:Int)<S.size:=Y;have d:p=S.size:=Y;have c:wt (Sn a S w (min (p+1) S.size) (s.map List.tail)):=by
   unfold Hid;rw[show min (p+1) S.size=p by omega];refine⟨by rw[h.blk,show(s.map List.tail).isNone=s.isNone by cases s<;>rfl],h.lp,h.ls,λr b=>?_⟩;cases s with
   |none=>cases b
   |some f=>simp only[bK,Option.some.injEq]at b;have:=h.rest f rfl;rw[cY (by rw[mC];omega)]at this ⊢;rw[<-b,<-this];rfl
  clear h d
  go_in
  go_wp2_with fail;go_quiet (fail);go_wp2
  go_end0
  exact⟨rfl,c.drewN nq,(iJ.refl _ _).drewN nq⟩
def tZ(h:Sn a S w p s):wh DG 127 #[A3 (O ⟨a,0,N⟩)] w λc w'=>c=BX (BG #[])/\Sn a S w' p N/\iJ a w w':=by
 have e:=h.fz 2;have d:=h.c2;have b:=H h.bad;clear h
 go_in
 go_wp2
 go_end0
 exact⟨rfl,b,(iJ.refl _ _).setCell _ _⟩
def cS(c:List Nat)(s:Option (List Nat)):Option (List Nat):=match s.bind (gh c)with
 |some b=>O b
 |none=>s
def cB(b:List Nat)(s:Option (List Nat)):Bool:=(s.bind (gh b)).isSome
def Du{S b:ByteArray}{p:Nat}(h:p+b.size<=S.size):decide (S.extract p (p+b.size)=b)=(bl b).isPrefixOf ((bl S).drop p):=by
 rw[Iw,bO,mC,<-bp S p b.size h];constructor
 ·intro c;refine⟨?_,by rw[c]⟩;rw[aU,mC];omega
 ·rintro⟨_,c⟩;rw[<-yN (S.extract p (p+b.size)),c,yN]
def zT(h:Sn a S w p s)(t:ByteArray)(C:t.size<=1000000):wh DG 166 #[A3 (O ⟨a,0,N⟩),y7 t] w λm w'=>m=BX (Bs (cB (bl t) s))/\kJ a S w w' (cS (bl t) s):=by
 have u:=h.c0;have v:=h.c1;have g:=h.c2;have x:=h.fz 1;have E:=h.ls;have D:=h.lp;have e:=H h;cases s with
 |none=>
  simp only[Option.isNone_none]at g;clear h
  go_in
  go_wp2_with fail;go_quiet (fail);go_wp2;go_ret;exact⟨rfl,⟨⟨p,e.drewN nq⟩,(iJ.refl _ _).drewN nq⟩⟩
 |some r=>
  simp only[Option.isNone_some]at g;have n:IntKind.i64.wrap ((p:Int)+(t.size:Int))=((p+t.size:Nat):Int):=by rw[bu];omega
  by_cases i:p+t.size<=S.size
  ·have l:decide ((S.size:Int)<(p:Int)+(t.size:Int))=CS:=eS;have d:=H (Du i);have j:=h.rest r rfl;rw[j]at d;have y:(0:Int)<=(p:Int)+(t.size:Int):=Y;have z:(p:Int)+(t.size:Int)<=(S.size:Int):=Y;have B:(p:Int)<=(p:Int)+(t.size:Int):=Y;have A:((p:Int)+(t.size:Int)).toNat=p+t.size:=Y;clear h j n;cases b:(bl t).isPrefixOf r with
   |false=>
    have c:wt (cB (bl t) (O r)=CS/\cS (bl t) (O r)=O r):=by unfold Hid cB cS;simp[takes_none b]
    rw[b]at d;have e2:((S.extract p (p+t.size)).toList==t.toList)=CS:=by rw[tQ];exact d
    clear b d
    go_in
    go_wp2_with fail;go_quiet (fail);go_wp2;go_ret;rw[c.o.1,c.o.2];exact⟨rfl,⟨⟨p,e.drewN nq⟩,(iJ.refl _ _).drewN nq⟩⟩
   |true=>
    have c:wt (cB (bl t) (O r)=CD/\cS (bl t) (O r)=O (r.drop (bl t).length)):=by unfold Hid cB cS;simp[takes_some b]
    rw[b]at d;have k:wt (∀f,Sn a S ((w.drewN f).setCell ⟨a,1,N⟩ (I U ((p:Int)+(t.size:Int)))) (p+t.size) (O (r.drop (bl t).length))):=λf=>
     by rw[<-Int.natCast_add];exact(e.drewN f).at_ _ i rfl (λq b=>by have:=e.o.rest r rfl;cases b;rw[<-this,eq,mC])
    have e2:((S.extract p (p+t.size)).toList==t.toList)=CD:=by rw[tQ];exact d
    clear b d
    go_in
    go_wp2_with fail;go_quiet (fail);go_wp2;go_ret;rw[c.o.1,c.o.2];exact⟨rfl,⟨⟨_,k nq⟩,((iJ.refl _ _).drewN nq).setCell _ _⟩⟩
  ·have l:decide ((S.size:Int)<(p:Int)+(t.size:Int))=CD:=eS;have c:wt (cB (bl t) (O r)=CS/\cS (bl t) (O r)=O r):=by
    have b:(bl t).isPrefixOf r=CS:=by rw[Iw,du,mC,h.len];omega
    unfold Hid cB cS;simp[takes_none b]
   clear h
   go_in
   go_wp2_with fail;go_quiet (fail);go_wp2;go_ret;rw[c.o.1,c.o.2];exact⟨rfl,⟨⟨p,e.drewN nq⟩,(iJ.refl _ _).drewN nq⟩⟩
def Fs{t:List Nat}{q:List Nat}(h:s.bind (gh t)=O q):cB t s=CD/\cS t s=O q:=by unfold cB cS;rw[h];exact⟨rfl,rfl⟩
def A7{t:List Nat}(h:s.bind (gh t)=N):cB t s=CS/\cS t s=s:=by unfold cB cS;rw[h];exact⟨rfl,rfl⟩
def Bl(h:Sn a S w p s)(b:ByteArray)(j:b.size<=1000000):wh DG 122 #[A3 (O ⟨a,0,N⟩),y7 b] w λd w'=>d=BX (BG #[])/\kJ a S w w' (s.bind (gh (bl b))):=by
 have c:=H (zT h b j);clear h;cases f:s.bind (gh (bl b))with
 |some n=>
  rw[(Fs f).1,(Fs f).2]at c
  go_in
  go_wp2_with fail;apply c.o.m;rintro d m ⟨rfl,e⟩;go_wp2
  go_end0
  exact⟨rfl,e⟩
 |none=>
  rw[(A7 f).1,(A7 f).2]at c
  go_in
  go_wp2_with fail;apply c.o.m;rintro d m ⟨rfl,⟨q,e⟩,k⟩;have g:=H (tZ e);clear e;go_wp2_with fail;apply g.o.m;rintro d r ⟨rfl,i,l⟩;go_wp2
  go_end0
  exact⟨rfl,⟨_,i⟩,k.t l⟩
def mV(s:Option (List Nat)):Option (List Nat):=s.map λr=>(iq r).getD r
def nL(s:Option (List Nat)):Bool:=(s.bind iq).isSome
def xZ{c b:Nat}{r:List Nat}:gh [c] (b::r)=if b=c then O r else N:=by
 unfold gh;by_cases h:b=c;·subst h;simp
 ·simp[List.isPrefixOf,h];exact λd=>h d.s
def Q4(s:Option (List Nat)):cS [10] (cS [13] s)=mV s/\(cB [13] s||cB [10] (cS [13] s))=nL s:=by
 match s with
 |none=>exact⟨rfl,rfl⟩
 |some []=>exact⟨rfl,rfl⟩
 |some [b]=>
  unfold mV nL cS cB iq;simp only[Option.bind_some,bK,xZ];by_cases h:b=13;·subst h;exact⟨rfl,rfl⟩
  ·by_cases c:b=10;·subst c;exact⟨rfl,rfl⟩
   ·simp[h,c,gh,List.isPrefixOf];exact⟨by rw[aj (λd=>c d.s)],λd=>c d.s⟩
 |some (b::e::r)=>
  unfold mV nL cS cB iq;have g:gh [13,10] (b::e::r)=if b=13/\e=10 then O r else N:=by
   unfold gh;by_cases f:b=13
   ·by_cases c:e=10;·subst f c;simp
    ·simp[List.isPrefixOf,f,c];exact λd=>c d.s
   ·simp[List.isPrefixOf,f];exact λd=>absurd d.s f
  simp only[Option.bind_some,bK,xZ,g];by_cases h:b=13
  ·subst h;by_cases c:e=10;·subst c;simp[xZ]
   ·simp[c,xZ]
  ·by_cases c:b=10;·subst c;simp[xZ]
   ·simp[h,c,xZ]
def Il(h:Sn a S w p s):wh DG 173 #[A3 (O ⟨a,0,N⟩)] w λe w'=>e=BX (Bs (nL s))/\kJ a S w w' (mV s):=by
 have b:=H (zT h {data:=#[13]} bF);have d:=H (Q4 s);clear h;rw[show bl {data:=#[13]}=[13]from rfl]at b
 go_in
 go_wp2_with fail;apply b.o.m;rintro e n ⟨rfl,⟨m,g⟩,l⟩;have c:=H (zT g {data:=#[10]} bF);rw[show bl {data:=#[10]}=[10]from rfl]at c;clear g b;go_wp2_with fail;apply c.o.m;rintro e q ⟨rfl,f⟩;rw[d.o.1]at f;have k:=H d.2;generalize cB [10] (cS [13] s)=j at *;generalize cB [13] s=i at *;clear d c;cases i<;>cases j;all_goals (
  go_wp2;go_ret;exact⟨by rw[<-k.o];rfl,⟨f.1,l.t f.2⟩⟩)
def Sn.posOf(h:Sn a S w p s):posOf a w=p:=by unfold Go.Proofs.YtgkljcmjnphpeaaGreatDoor.posOf;rw[h.c1];simp[intOf]
def RE{g:List Nat}(h:Sn a S w p (O g)):wh DG 123 #[A3 (O ⟨a,0,N⟩)] w λe w'=>e=BX (BG #[])/\kJ a S w w' (O (gq g)):=by
 have T:=H h
 go_in
 go_wp2;go_loopw [2] (λW wr=>∃(b:Bool) (P:Nat) (r:List Nat),W=Bs b/\wt (Sn a S wr P (O r))/\wt (jX b r=gq g)/\wt (iJ a w wr)) (λ_ wr=>S.size-posOf a wr)
 case atStart=>exact⟨CS,p,g,rfl,T,rfl,iJ.refl _ _⟩
 case round=>
  obtain⟨b,P,r,rfl,d,C,m⟩:=hrel;have E:=H (xg d);have B:=H d.posOf;cases r with
  |nil=>
   have A:wt ([]=gq g):=by unfold Hid;rw[<-C.o];cases b<;>rfl
   go_wp2_with fail;apply E.o.m;rintro e Q ⟨rfl,f,rfl⟩;simp only[kG];go_wp2
   go_end0
   refine⟨rfl,?_⟩;rw[<-A.o];exact⟨⟨_,d.drewN f⟩,m.drewN f⟩
  |cons c r=>
   have hc:=d.o.bytes c cO;have j:=λV=>IJ c V;go_wp2_with fail;apply E.o.m;rintro e Q ⟨rfl,M,rfl⟩;simp only[kG];have F:=H (xg (d.drewN M));simp only[kG]at F;have cw:IntKind.u8.wrap (c:Int)=(c:Int):=by rw[cA];omega
   go_wp2_with fail;apply F.o.m;rintro e Q ⟨rfl,X,rfl⟩;rw[World.drewN_drewN];generalize M+X=f;cases b with
   |true=>
    have q:wt (∀v:Bool,(v=CD↔(c:Int)≠10/\(c:Int)≠13)->jX v r=gq g):=λv L=>by
     rw[<-C.o];simp only[jX];by_cases J:c=10\/c=13
     ·rw[ak J];cases v;·rfl
      ·have:=L.1 rfl;omega
     ·rw[aj J];cases v;·have:=L.2 Y;cases this
      ·rfl
    go_wp2_with (go_at_call 150;apply(j _).m;rintro e D ⟨rfl,rfl⟩);all_goals (
     have t:=H (yI (d.drewN f));apply t.o.m;rintro e R ⟨rfl,i,x⟩;have l:=H i.posOf;have n:=H d.cons.1;have k:=H i;have u:=H ((m.drewN f).t x);go_wp2;go_roundw
     case rel=>exact⟨_,_,_,rfl,k,q _ (by simp[*]),u⟩
     case measure=>have:=n.o;rw[l.o,B.o];omega)
   |false=>
    have y:=H C;simp only[jX]at y;cases K:((c:Int)==37)with
    |true=>
     have q:wt (jX CD r=gq g):=by
      have h:c=37:=by simp at K;omega
      unfold Hid;rw[<-y.o,aj (by rw[h];decide),ak h]
     go_wp2_with (go_at_call 150;apply(j _).m;rintro e D ⟨rfl,rfl⟩);have t:=H (yI (d.drewN f));apply t.o.m;rintro e R ⟨rfl,i,x⟩;have l:=H i.posOf;have n:=H d.cons.1;have k:=H i;have u:=H ((m.drewN f).t x);go_wp2;go_roundw
     case rel=>exact⟨_,_,_,rfl,k,q,u⟩
     case measure=>have:=n.o;rw[l.o,B.o];omega
    |false=>
     have aa:¬c=37:=by simp at K;omega
     cases z:wB c with
     |true=>
      have q:wt (jX CS r=gq g):=by unfold Hid;rw[<-y.o,ak z]
      rw[z]at j;go_wp2_with (go_at_call 150;apply(j _).m;rintro e D ⟨rfl,rfl⟩);have t:=H (yI (d.drewN f));apply t.o.m;rintro e R ⟨rfl,i,x⟩;have l:=H i.posOf;have n:=H d.cons.1;have k:=H i;have u:=H ((m.drewN f).t x);go_wp2;go_roundw
      case rel=>exact⟨_,_,_,rfl,k,q,u⟩
      case measure=>have:=n.o;rw[l.o,B.o];omega
     |false=>
      have A:wt (c::r=gq g):=by unfold Hid;rw[<-y.o,aj (by rw[z];decide),aj aa]
      rw[z]at j;go_wp2_with (go_at_call 150;apply(j _).m;rintro e D ⟨rfl,rfl⟩)
      (try simp only[Exit.inBlock,Exit.then]);refine aK (results_none rfl _ _ _) rfl ?_
      refine⟨rfl,?_⟩;rw[<-A.o];exact⟨⟨_,d.drewN f⟩,m.drewN f⟩
def D3(h:Sn a S w p s):wh DG 123 #[A3 (O ⟨a,0,N⟩)] w λb w'=>b=BX (BG #[])/\kJ a S w w' (s.map gq):=by
 cases s with
 |some r=>exact RE h
 |none=>
  have e:=H (xg h);have d:=H h
  go_in
  go_wp2;go_loopw [2] (λ_ wr=>wr=w) (λ_ wr=>0)
  case atStart=>rfl
  case round=>
   subst hrel;go_wp2_with fail;apply e.o.m;rintro b f ⟨rfl,c,rfl⟩;simp only[kG];go_wp2
   go_end0
   exact⟨rfl,⟨⟨_,d.drewN c⟩,(iJ.refl _ _).drewN c⟩⟩
def Nh(e:Nat)(w:vz):wh DG 129 #[I .u8 e] w λm w'=>m=BX (Bs (p_ e))/\w'=w:=by
 have r:wt (∀b:Nat,b<10->nth (bl {data:=#[40,41,60,62,91,93,123,125,47,37]}) b=e->p_ e=CD):=λb g j=>by subst j;have:∀b:Nat,b<10->p_ (nth (bl {data:=#[40,41,60,62,91,93,123,125,47,37]}) b)=CD:=bF;exact this b g
 have q:wt ((∀b:Nat,b<10->nth (bl {data:=#[40,41,60,62,91,93,123,125,47,37]}) b≠e)->p_ e=CS):=λh=>by have t:=h 0 Y;have u:=h 1 Y;have x:=h 2 Y;have y:=h 3 Y;have z:=h 4 Y;have A:=h 5 Y;have B:=h 6 Y;have C:=h 7 Y;have D:=h 8 Y;have E:=h 9 Y;have j:bl {data:=#[40,41,60,62,91,93,123,125,47,37]}=[40,41,60,62,91,93,123,125,47,37]:=rfl;rw[j]at t u x y z A B C D E;simp[nth]at t u x y z A B C D E;simp[p_];omega
 obtain⟨d,f⟩:∃d:ByteArray,d={data:=#[40,41,60,62,91,93,123,125,47,37]}:=⟨_,rfl⟩;rw[<-f]at r q;have Q:d.size=10:=by rw[f];rfl
 go_in
 rw[<-f];clear f;go_wp2;go_loopw [3] (λl wr=>∃c:Nat,c<=10/\l=I U (c:Nat)/\wr=w/\wt (∀b,b<c->nth (bl d) b≠e)) (λl _=>10-(intOf l).toNat)
 case atStart=>exact⟨0,Y,rfl,rfl,λb g=>absurd g (Nat.not_lt_zero _)⟩
 case round=>
  obtain⟨c,K,rfl,rfl,n⟩:=hrel;rcases aC K with v|L
  ·have i:=H (q (by rw[<-v];exact n));have J:decide ((c:Int)<10)=CS:=eS;clear v;go_wp2;go_ret;rw[i.o];exact⟨rfl,rfl⟩
  ·have J:decide ((c:Int)<10)=CD:=eS;have R:=rT d c Y;have M:=lJ d c Y;have P:(c:Int)<d.size:=Y;cases k:((nth (bl d) c:Int)==(e:Int))with
   |true=>have i:=H (r c L (by simp at k;omega));go_wp2;go_ret;rw[i.o];exact⟨rfl,rfl⟩
   |false=>
    have F:wt (∀b,b<c+1->nth (bl d) b≠e):=λb g=>by
     by_cases h:b<c;·exact n b h
     ·have:b=c:=Y;subst this;intro m;simp at k;exact k (by rw[m])
    go_wp2;go_roundw
    case rel=>exact⟨c+1,Y,rfl,trivial,F⟩
    case measure=>exact eT
def pS:Option (List Nat)->Bool
 |some (b::_)=>pB b
 |_=>CS
def Fx(h:Sn a S w p s):wh DG 169 #[A3 (O ⟨a,0,N⟩)] w λi w'=>i=BX (Bs (pS s))/\∃c,w'=w.drewN c:=by
 have j:=H (xg h);have x:=h.c0;have y:=h.c1;match s,h with
 |none,h=>
  go_in
  go_wp2_with fail;apply j.o.m;rintro i n ⟨rfl,c,rfl⟩;simp only[kG];go_wp2;go_ret;exact⟨rfl,c,rfl⟩
 |some [],h=>
  go_in
  go_wp2_with fail;apply j.o.m;rintro i n ⟨rfl,c,rfl⟩;simp only[kG];go_wp2;go_ret;exact⟨rfl,c,rfl⟩
 |some (b::r),h=>
  obtain⟨m,z⟩:=h.cons;have E:=rT S p m;have A:=lJ S p m;rw[z]at E A;have F:(p:Int)<S.size:=Y
  go_in
  go_wp2_with fail;apply j.o.m;rintro i n ⟨rfl,c,rfl⟩;simp only[kG];have J:decide ((b:Int)<0)=CS:=cO;have f:(w.drewN c).cell? ⟨a,0,N⟩=O (y7 S):=x;have g:(w.drewN c).cell? ⟨a,1,N⟩=O (I U p):=y;obtain⟨e,d⟩:∃e,w.drewN c=e:=⟨_,rfl⟩;rw[d]at f g;rw[d];have q:=H d;go_wp2_with fail;have C:wt (pS (O (b::r))=(!wB b && !p_ b)):=rfl;have D:=λk=>IJ b k;have B:=λk=>Nh b k;generalize wB b=v at *;generalize p_ b=u at *;go_quiet ((go_at_call 150;exact dA (D _)));have f:(e.drewN nq).cell? ⟨a,0,N⟩=O (y7 S):=f;have g:(e.drewN nq).cell? ⟨a,1,N⟩=O (I U p):=g;obtain⟨l,d⟩:∃l,e.drewN nq=l:=⟨_,rfl⟩;rw[d]at f g;rw[d];have t:=H d;go_wp2_with fail;go_quiet ((go_at_call 129;exact dA (B _)));cases v<;>cases u;all_goals (
   go_wp2;go_ret;refine⟨?_,_,by rw[<-t.o,<-q.o,World.drewN_drewN,World.drewN_drewN]⟩;rw[C.o];rfl)
end
section
variable{w:vz}
def MQ{w:vz}{c:Nat}(d:c<=w.heap.size)(a:List Nat)(e:G a<=100):(w.alloc (BV (a.map λb:Nat=>I .u8 (b:Int)).toArray 5)).ownsRow c 5 1 (Z (O ⟨w.heap.size,0,N⟩) (G a) (G a)) (G a) (a.map λb:Nat=>I .u8 (b:Int)):=by refine⟨cO,C2 ⟨w.heap.size,G a,_,rfl,d,bn _ _,ag _,by unfold maxLen;omega,cO,?_⟩⟩;rw[aP cO]
def QQ{w:vz}{f b g:Nat}{d h i:Int}(j:d=f)(k:h=b)(l:i=g):∀c e,([f,b,g].map λd:Nat=>I .u8 (d:Int))[c]?=O e->(w.alloc (BV #[I .u8 d,I .u8 h,I .u8 i] 5)).drew.cell? ((⟨w.heap.size,0,N⟩:wT).add c)=O e:=by
 subst j k l;intro c e a;match c,a with
 |0,a=>show(w.alloc _).cell? ⟨w.heap.size,0+0,N⟩=_;rw[World.cell?_alloc_new];exact a
 |1,a=>show(w.alloc _).cell? ⟨w.heap.size,0+1,N⟩=_;rw[World.cell?_alloc_new];exact a
 |2,a=>show(w.alloc _).cell? ⟨w.heap.size,0+2,N⟩=_;rw[World.cell?_alloc_new];exact a
 |c+3,a=>simp at a
def wname_take{l:List Nat}{k:Nat}(h:k<G l):gN (l.take (k+1))=gN (l.take k)++i8 (nth l k):=by unfold gN;rw[bN h,cK,bH,show nth l k=l[k]by simp[nth,h]];simp only[cG,List.flatMap_nil,bP]
def wname_few(l:List Nat):(gN l).length<=3*G l+1:=by
 unfold gN;rw[ai];induction l with
 |nil=>simp
 |cons a l b=>rw[cG,ab];have:=qJ a;simp only[ai]at *;omega
def Na(a:ByteArray)(hS:a.size<=100000000):wh DG 86 #[y7 a] w λd w'=>d=BX (y7 (gj (gN (bl a))))/\Kept 5 w.heap.size [] w w':=by
 obtain⟨i0,R,V,W,X⟩:=bR infoByte;have y:=H (mC a);have J:=H (MQ (ag w.heap.size) [47] cO);have K:wt (Kept 5 w.heap.size [] w (w.alloc (BV #[I .u8 47] 5))):=(Kept.refl _ _ _ _).alloc _;obtain⟨c,v⟩:∃c,w.heap.size=c:=⟨_,rfl⟩;rw[v]at J K ⊢;have F:=H v;clear v
 go_in
 go_wp2;rw[F.o];go_loopw [3,4] (λD C wr=>∃k:Nat,k<=a.size/\C=I U k/\wt (wr.ownsRow c 5 1 D (gN ((bl a).take k)).length ((gN ((bl a).take k)).map λd:Nat=>I .u8 (d:Int)))/\wt (Kept 5 c [] w wr)) (λ_ C _=>a.size-(intOf C).toNat)
 case atStart=>exact⟨0,aw _,rfl,J,K⟩
 case round=>
  obtain⟨k,hk,rfl,i,g⟩:=hrel;have S:wt (c<=wr.heap.size):=by have:=F.o;have:=g.o.size;unfold Hid;omega
  have n:wt ((gN ((bl a).take k)).length<=3*k+1):=by have:=wname_few ((bl a).take k);rw[ax,y.o]at this;unfold Hid;omega
  by_cases z:k<a.size
  ·have ac:(k:Int)<a.size:=Y;have hx:=rT a k z;have P:=lJ a k z;have e1:=H (wname_take (l:=bl a) (k:=k) (by rw[y.o];exact z));generalize nth (bl a) k=b at *;have HM:=H (Nh b);go_wp2_with fail;apply(HM _).m;rintro al E ⟨rfl,rfl⟩
   go_upto_region 7 with fail
   obtain⟨e,hC⟩:∃e,decide (¬(iN b=CD/\b≠35))=e:=⟨_,rfl⟩;have q:=H hC;go_cut [31]from 8 to 44 (λD wx=>D=Bs e/\wx=E)
   case first=>
    have p:wt (e=(decide (b<33)||decide (126<b)||decide (b=35)||p_ b)):=by
     unfold Hid;rw[<-q.o];have hw:33<=b->wB b=CS:=by intro h;unfold wB;simp;omega
     unfold iN pB;by_cases u:b<33;·simp[u]<;>omega
     ·rw[hw Y];by_cases L:126<b;·simp[u,L]<;>omega
      ·by_cases M:b=35;·simp[M]
       ·cases p_ b<;>simp[u,L,M]<;>omega
    by_cases t:b<33
    ·have t1:(b:Int)<33:=Y;go_wp2
     go_meet
     case rel=>exact⟨by rw[p.o];simp[t],rfl⟩
    ·have t1:decide ((b:Int)<33)=CS:=eS;by_cases j:126<b
     ·have t2:(126:Int)<b:=Y;go_wp2
      go_meet
      case rel=>exact⟨by rw[p.o];simp[j],rfl⟩
     ·have t2:decide ((126:Int)<(b:Int))=CS:=eS;by_cases m:b=35
      ·have t3:((b:Int)==35)=CD:=eS;go_wp2
       go_meet
       case rel=>exact⟨by rw[p.o];simp[m],rfl⟩
      ·have t3:((b:Int)==35)=CS:=eS;go_wp2
       go_meet
       case rel=>exact⟨by rw[p.o];simp[t,j,m],rfl⟩
   case rest=>
   obtain⟨rfl,x⟩:=hcut;have x:=x.s;subst x;cases e with
   |true=>
    have B:i8 b=[35,gR (b/16),gR (b%16)]:=by unfold i8;rw[aj (of_decide_eq_true q.o)]
    rw[B]at e1;have g1:0<=(b:Int)/16:=Y;have g2:(b:Int)/16<16:=Y;have g4:(b:Int)%16<16:=Y;have g5:0<=(b:Int)%16:=Y;have E1:wt (((b:Int)/16).toNat=b/16):=by unfold Hid;omega
    have E2:wt (((b:Int)%16).toNat=b%16):=by unfold Hid;omega
    have gw:IntKind.u8.wrap ((b:Int)/16)=(b:Int)/16:=by rw[cA];omega
    have gt:(b:Int).tmod 16=(b:Int)%16:=cM Y;go_wp2_with fail;go_region_law (refine Cy rfl (.tmp 32) (.tmp 39) 23 rfl c 5 i0 (I .u8 0) 1 1 az R V W X rfl bF _ _ _ rfl (ed (i.alloc _)) ⟨E.heap.size,0,N⟩ 3 3 ([35,gR (b/16),gR (b%16)].map λd:Nat=>I .u8 (d:Int)) rfl cO ?hnews ?hone ?h63 ?hby ?hb ?_;(case hnews=>refine QQ rfl ?_ ?_<;>simp only[E1.o,E2.o]<;>exact cX _ (Gf _ Y _));(case hone=>intro a0 T;simp at T;rcases T with rfl|rfl|rfl<;>rfl);(case h63=>have:=n.o;unfold maxLen;omega);(case hby=>have:=n.o;omega);(case hb=>have:=S.o;simp;omega);intro v' w2 A Q _);all_goals (have s:=H (((g.alloc _).drew).grown Q (oQ (ed (i.alloc _)))))
    all_goals (rw[<-aI,<-e1.o,show(gN ((bl a).take k)).length+3=(gN ((bl a).take (k+1))).length by rw[e1.o];simp]at A)
    all_goals (have r:=H A)
    all_goals clear A Q
    all_goals go_wp2
    all_goals go_roundw
    all_goals first|exact⟨k+1,Y,by go_num,r,s⟩|(simp[intOf];omega)
   |false=>
    have B:i8 b=[b]:=by unfold i8;rw[ak (Classical.not_not.1 (of_decide_eq_false q.o))]
    rw[B]at e1;have f:=i.o;go_wp2_with (at_builtin;refine aX _ rfl (.tmp 41) (.tmp 43) 23 rfl c 5 i0 (I .u8 0) 1 1 az R V W X rfl bF _ _ _ rfl (f.alloc _) ⟨E.heap.size,0,N⟩ 1 1 [I .u8 b] rfl rfl ?c1 ?c2 ?c3 ?c4 ?c5 ?_)
    case c2=>rfl
    case c3=>have:=n.o;unfold maxLen;omega
    case c4=>have:=n.o;omega
    case c5=>have:=S.o;simp;omega
    intro v' w2 ad aa _;have s:=H ((g.alloc _).grown aa (oQ (f.alloc _)));have r:wt (w2.ownsRow c 5 1 v' (gN ((bl a).take (k+1))).length ((gN ((bl a).take (k+1))).map λd:Nat=>I .u8 (d:Int))):=by unfold Hid;rw[e1.o,aI,ab];exact ad
    go_wp2;go_roundw
    case rel=>exact⟨k+1,Y,by go_num,r,s⟩
    case measure=>exact eT
  ·obtain rfl:k=a.size:=Y;have ac:¬(a.size:Int)<a.size:=Y;have f:=i.o;rw[<-y.o,dE]at f;have ao:=AU f;go_wp2;go_ret;exact⟨rfl,g⟩
end
section
variable{w q:vz}{B f:Nat}{s p:wg}{k r:List Nat}
def jx(b:Nat):List Nat:=if b=40\/b=41\/b=92 then[92,b]else if 32<=b/\b<=126 then[b]else[92,48+b/64,48+b/8%8,48+b%8]
def kX(l:List Nat):List Nat:=40::l.flatMap jx
def lI(a:List Nat):List Nat:=kX a++[41]
def tz(b:Nat):(jx b).length<=4:=by
 unfold jx;split;· simp
 ·split<;>simp
def nY{w:vz}{d b:Nat}:∀(a:Nat) (c:wg),(nU [d,b])[a]?=O c->(w.alloc (BV #[I .u8 (d:Nat),I .u8 (b:Nat)] 5)).cell? ((⟨w.heap.size,0,N⟩:wT).add a)=O c:=by
 intro a c h;match a,h with
 |0,h=>cases h;rw[sK,cb (bn w _)];rfl
 |1,h=>cases h;rw[sK,cb (bn w _)];rfl
 |a+2,h=>simp[nU]at h
def DX{w:vz}{d b e g:Nat}{j l m i:Int}(o:j=d)(t:l=b)(u:m=e)(n:i=g):∀(a:Nat) (c:wg),(nU [d,b,e,g])[a]?=O c->(w.alloc (BV #[I .u8 j,I .u8 l,I .u8 m,I .u8 i] 5)).cell? ((⟨w.heap.size,0,N⟩:wT).add a)=O c:=by
 subst o t u n;intro a c h;match a,h with
 |0,h=>cases h;rw[sK,cb (bn w _)];rfl
 |1,h=>cases h;rw[sK,cb (bn w _)];rfl
 |2,h=>cases h;rw[sK,cb (bn w _)];rfl
 |3,h=>cases h;rw[sK,cb (bn w _)];rfl
 |a+4,h=>simp[nU]at h
def Uh(h:jg B f w s p k r)(d:ByteArray)(bb:G k+4*d.size+2<=500000000):wh DG 183 #[A3 (O ⟨f,0,N⟩),y7 d] w λj q=>j=BX (BG #[])/\∃a7,jg B f q a7 p (k++lI (bl d)) r/\iP B f w q:=by
 obtain⟨S,M,P,Q,R⟩:=bR infoByte;have HP:=H (nP h {data:=#[40]} (by show (G k)+1<=_;omega));have HS:wt (∀J,J<d.size->∃F:J<d.size,(d[J]'F).toNat=nth (bl d) J):=λJ F=>⟨F,rT d J F⟩;have a2:wt (∀c,(kX ((bl d).take c)).length<=4*c+1):=λc=>by
  have:∀T:List Nat,(kX T).length<=4*G T+1:=λT=>by
   unfold kX;induction T with
   |nil=>simp
   |cons a6 T ih=>have:=tz a6;simp only[cG,ai,ab]at ih ⊢;omega
  have h2:=this ((bl d).take c);rw[ax]at h2;omega
 obtain⟨V,hn⟩:∃V,d.size=V:=⟨_,rfl⟩;have HN:=H hn;have bf:V<=500000000:=Y;clear h
 go_in
 go_wp2_with fail;apply HP.o.m;rintro j w1 ⟨rfl,a8,h1,k1⟩;have H1:=H h1;have K1:=H k1;clear h1 k1 HP;go_wp2_with fail;go_loopw [4,5,11,36,57] (λ_ _ iv _ _ wr=>∃(c:Nat) (a5:wg),c<=V/\iv=I U c/\wt (jg B f wr a5 p (k++kX ((bl d).take c)) r)/\wt (iP B f w wr)) (λ_ _ iv _ _ _=>V-(intOf iv).toNat)
 case atStart=>exact⟨0,a8,aw _,rfl,H1,K1⟩
 case round=>
  obtain⟨c,a5,hm,rfl,a,E⟩:=hrel;rcases aC hm with hm|hm
  ·subst hm;have bc:=a2.o c;have ao:=H (nP a {data:=#[41]} (by rw[ab];show _+1<=_;omega));rw[show(bl d).take c=bl d from aP (by rw[mC,HN.o];exact ag _),au]at ao;go_wp2_with fail;apply ao.o.m;rintro j w9 ⟨rfl,a9,h9,k9⟩;have H9:=H h9;have K9:=H (E.t k9);clear h9 k9 ao;go_wp2
   go_end0
   exact⟨rfl,a9,H9,K9⟩
  ·obtain⟨F,hb⟩:=HS.o c Y;have hx:(bl d)[c]?=O (nth (bl d) c):=by simp[nth,af (show c<(bl d).length by rw[mC];omega)]
   have a4:kX ((bl d).take (c+1))=kX ((bl d).take c)++jx (nth (bl d) c):=by unfold kX;rw[cP,hx,cK];simp
   have ba:=lJ d c F;have bd:(k++kX ((bl d).take c)).length+4<=500000000:=by have h2:=a2.o c;rw[ab];omega
   obtain⟨W,X,rfl⟩:=ke a.o.oo;have u:=a.o.blk;have L:=H a4;generalize a3:k++kX ((bl d).take c)=v at *;have K:=H a3;clear a3 a4 hx;generalize nth (bl d) c=b at *;have hB:=a.o.bw;have c0:=nw u;by_cases t:b=40\/b=41\/b=92
   ·have C:wt (jx b=[92,b]):=by unfold Hid jx;rw[ak t]
    rcases t with t|t|t
    ·have t1:((b:Int)==40)=CD:=eS;clear t;go_wp2_with (at_builtin;refine rW _ rfl (.tmp 51) (.tmp 53) 23 rfl B 5 S (I .u8 0) 1 1 az M P Q R rfl bF _ (G v) _ rfl (a.o.oo.alloc _) ⟨wr.heap.size,0,N⟩ 2 2 (nU [92,b]) rfl rfl ?hnews ?hone ?h63 ?hby ?hbs ?_)
     case hnews=>exact nY
     case hone=>intro aa m;simp[nU]at m;rcases m with rfl|rfl<;>rfl
     case h63=>unfold maxLen;omega
     case hby=>omega
     case hbs=>simp;omega
     intro v6 A i g n;have e:A.heap[f]?=O (BV #[Z W (G v) X,p] 122 (0,0)):=by rw[g.block f p7 (λj=>a.o.ne f j.s rfl)];exact nt _ u
     have l:=H (a.grow ((iP.refl B f wr).alloc _) (Fq a.lt) (a.o.oo.alloc _) g (λx y=>(n x y).imp id (λal=>Y)) i rfl);obtain⟨ac,ad,z⟩:=ke i;subst z;have c6:=nw e;have f6:=lQ 0 e;clear i g n e u;go_wp2;go_roundw
     case rel=>exact⟨c+1,_,Y,by first|rfl|(congr 1),by rw[L.o,<-au,K.o,C.o];exact l.1,E.t l.2⟩
     case measure=>exact eT
    ·have t1:((b:Int)==40)=CS:=eS;have t2:((b:Int)==41)=CD:=eS;clear t;go_wp2_with (at_builtin;refine rW _ rfl (.tmp 51) (.tmp 53) 23 rfl B 5 S (I .u8 0) 1 1 az M P Q R rfl bF _ (G v) _ rfl (a.o.oo.alloc _) ⟨wr.heap.size,0,N⟩ 2 2 (nU [92,b]) rfl rfl ?hnews ?hone ?h63 ?hby ?hbs ?_)
     case hnews=>exact nY
     case hone=>intro aa m;simp[nU]at m;rcases m with rfl|rfl<;>rfl
     case h63=>unfold maxLen;omega
     case hby=>omega
     case hbs=>simp;omega
     intro v6 A i g n;have e:A.heap[f]?=O (BV #[Z W (G v) X,p] 122 (0,0)):=by rw[g.block f p7 (λj=>a.o.ne f j.s rfl)];exact nt _ u
     have l:=H (a.grow ((iP.refl B f wr).alloc _) (Fq a.lt) (a.o.oo.alloc _) g (λx y=>(n x y).imp id (λal=>Y)) i rfl);obtain⟨ac,ad,z⟩:=ke i;subst z;have c6:=nw e;have f6:=lQ 0 e;clear i g n e u;go_wp2;go_roundw
     case rel=>exact⟨c+1,_,Y,by first|rfl|(congr 1),by rw[L.o,<-au,K.o,C.o];exact l.1,E.t l.2⟩
     case measure=>exact eT
    ·have t1:((b:Int)==40)=CS:=eS;have t2:((b:Int)==41)=CS:=eS;have t3:((b:Int)==92)=CD:=eS;clear t;go_wp2_with (at_builtin;refine rW _ rfl (.tmp 51) (.tmp 53) 23 rfl B 5 S (I .u8 0) 1 1 az M P Q R rfl bF _ (G v) _ rfl (a.o.oo.alloc _) ⟨wr.heap.size,0,N⟩ 2 2 (nU [92,b]) rfl rfl ?hnews ?hone ?h63 ?hby ?hbs ?_)
     case hnews=>exact nY
     case hone=>intro aa m;simp[nU]at m;rcases m with rfl|rfl<;>rfl
     case h63=>unfold maxLen;omega
     case hby=>omega
     case hbs=>simp;omega
     intro v6 A i g n;have e:A.heap[f]?=O (BV #[Z W (G v) X,p] 122 (0,0)):=by rw[g.block f p7 (λj=>a.o.ne f j.s rfl)];exact nt _ u
     have l:=H (a.grow ((iP.refl B f wr).alloc _) (Fq a.lt) (a.o.oo.alloc _) g (λx y=>(n x y).imp id (λal=>Y)) i rfl);obtain⟨ac,ad,z⟩:=ke i;subst z;have c6:=nw e;have f6:=lQ 0 e;clear i g n e u;go_wp2;go_roundw
     case rel=>exact⟨c+1,_,Y,by first|rfl|(congr 1),by rw[L.o,<-au,K.o,C.o];exact l.1,E.t l.2⟩
     case measure=>exact eT
   ·have t1:((b:Int)==40)=CS:=eS;have t2:((b:Int)==41)=CS:=eS;have t3:((b:Int)==92)=CS:=eS;by_cases h4:32<=b/\b<=126
    ·have C:wt (jx b=[b]):=by unfold Hid jx;rw[aj t,ak h4]
     have a0:=H (λa1=>T7 (b:Int) 32 126 a1 Y Y);clear t h4;go_wp2_with fail;apply(a0 _).m;rintro j q ⟨rfl,D⟩;have D:=D.s;subst D;go_wp2_with (at_builtin;refine rW _ rfl (.tmp 64) (.tmp 66) 23 rfl B 5 S (I .u8 0) 1 1 az M P Q R rfl bF _ (G v) _ rfl (a.o.oo.alloc _) ⟨wr.heap.size,0,N⟩ 1 1 (nU [b]) rfl rfl ?hnews ?hone ?h63 ?hby ?hbs ?_)
     case hnews=>exact yj
     case hone=>intro aa m;simp[nU]at m;subst m;rfl
     case h63=>unfold maxLen;omega
     case hby=>omega
     case hbs=>simp;omega
     intro v6 A i g n;have e:A.heap[f]?=O (BV #[Z W (G v) X,p] 122 (0,0)):=by rw[g.block f p7 (λj=>a.o.ne f j.s rfl)];exact nt _ u
     have l:=H (a.grow ((iP.refl B f wr).alloc _) (Fq a.lt) (a.o.oo.alloc _) g (λx y=>(n x y).imp id (λal=>Y)) i rfl);obtain⟨ac,ad,z⟩:=ke i;subst z;have c6:=nw e;have f6:=lQ 0 e;clear i g n e u;go_wp2;go_roundw
     case rel=>exact⟨c+1,_,Y,by first|rfl|(congr 1),by rw[L.o,<-au,K.o,C.o];exact l.1,E.t l.2⟩
     case measure=>exact eT
    ·have C:wt (jx b=[92,48+b/64,48+b/8%8,48+b%8]):=by unfold Hid jx;rw[aj t,aj h4]
     have a0:=H (λa1=>T6 (b:Int) 32 126 a1 Y);clear t h4;go_wp2_with fail;apply(a0 _).m;rintro j q ⟨rfl,D⟩;have D:=D.s;subst D;go_wp2_with (at_builtin;refine rW _ rfl (.tmp 21) (.tmp 32) 23 rfl B 5 S (I .u8 0) 1 1 az M P Q R rfl bF _ (G v) _ rfl (a.o.oo.alloc _) ⟨wr.heap.size,0,N⟩ 4 4 (nU [92,48+b/64,48+b/8%8,48+b%8]) rfl rfl ?hnews ?hone ?h63 ?hby ?hbs ?_)
     case hnews=>exact DX rfl Y Y Y
     case hone=>intro aa m;simp[nU]at m;rcases m with rfl|rfl|rfl|rfl<;>rfl
     case h63=>unfold maxLen;omega
     case hby=>omega
     case hbs=>simp;omega
     intro v6 A i g n;have e:A.heap[f]?=O (BV #[Z W (G v) X,p] 122 (0,0)):=by rw[g.block f p7 (λj=>a.o.ne f j.s rfl)];exact nt _ u
     have l:=H (a.grow ((iP.refl B f wr).alloc _) (Fq a.lt) (a.o.oo.alloc _) g (λx y=>(n x y).imp id (λal=>Y)) i rfl);obtain⟨ac,ad,z⟩:=ke i;subst z;have c6:=nw e;have f6:=lQ 0 e;clear i g n e u;go_wp2;go_roundw
     case rel=>exact⟨c+1,_,Y,by first|rfl|(congr 1),by rw[L.o,<-au,K.o,C.o];exact l.1,E.t l.2⟩
     case measure=>exact eT
end
section
variable{w:vz}
def nl{e:TypeId}{c:List wg}:∀(a:Nat) (b:wg),c[a]?=O b->(w.alloc (BV c.toArray e)).cell? ((⟨w.heap.size,0,N⟩:wT).add a)=O b:=by intro a b d;rw[show((⟨w.heap.size,0,N⟩:wT).add a)=⟨w.heap.size,a,N⟩by simp[Addr.add];omega,World.cell?_alloc_new];simpa using d
def wquo_take{l:List Nat}{k:Nat}(h:k<G l):kX (l.take (k+1))=kX (l.take k)++jx (nth l k):=by unfold kX;rw[bN h,cK,bH,show nth l k=l[k]by simp[nth,h]];simp only[cG,List.flatMap_nil,bP]
def wquoB_few(b:Nat):(jx b).length<=4:=by
 unfold jx;split;·simp
 ·split<;>simp
def wquo_few(l:List Nat):(kX l).length<=4*G l+1:=by
 unfold kX;rw[ai];induction l with
 |nil=>simp
 |cons a l b=>rw[cG,ab];have:=wquoB_few a;simp only[ai]at *;omega
def J6(a:ByteArray)(hS:a.size<=100000000):wh DG 87 #[y7 a] w λc w'=>c=BX (y7 (gj (lI (bl a))))/\Kept 5 w.heap.size [] w w':=by
 obtain⟨E,y,B,C,D⟩:=bR infoByte;have z:=H (mC a);have R:=H (MQ (ag w.heap.size) [40] cO);have S:wt (Kept 5 w.heap.size [] w (w.alloc (BV #[I .u8 40] 5))):=(Kept.refl _ _ _ _).alloc _;obtain⟨d,K⟩:∃d,w.heap.size=d:=⟨_,rfl⟩;rw[K]at R S ⊢;have Q:=H K;clear K
 go_in
 go_wp2;rw[Q.o];go_loopw [3,4] (λx M wr=>∃k:Nat,k<=a.size/\M=I U k/\wt (wr.ownsRow d 5 1 x (kX ((bl a).take k)).length ((kX ((bl a).take k)).map λc:Nat=>I .u8 (c:Int)))/\wt (Kept 5 d [] w wr)) (λ_ M _=>a.size-(intOf M).toNat)
 case atStart=>exact⟨0,aw _,rfl,R,S⟩
 case round=>
  obtain⟨k,hk,rfl,W,r⟩:=hrel;have A:wt (d<=wr.heap.size):=by have:=Q.o;have:=r.o.size;unfold Hid;omega
  have f:wt ((kX ((bl a).take k)).length<=4*k+1):=by have:=wquo_few ((bl a).take k);rw[ax,z.o]at this;unfold Hid;omega
  have g:=W.o;by_cases L:k<a.size
  ·have X:(k:Int)<a.size:=Y;have hx:=rT a k L;have hb:=lJ a k L;have e1:=H (wquo_take (l:=bl a) (k:=k) (by rw[z.o];exact L));generalize nth (bl a) k=b at *;have J:wt (∀{j:wg} {m:vz} (F:List Nat),jx b=F->m.ownsRow d 5 1 j ((kX ((bl a).take k)).length+G F) (((kX ((bl a).take k)).map λc:Nat=>I .u8 (c:Int))++F.map λc:Nat=>I .u8 (c:Int))->m.ownsRow d 5 1 j (kX ((bl a).take (k+1))).length ((kX ((bl a).take (k+1))).map λc:Nat=>I .u8 (c:Int))):=by intro j m F ac h;rw[e1.o,ac,aI,ab];exact h
   by_cases v:b=40\/b=41\/b=92
   ·have hq:jx b=[92,b]:=by unfold jx;rw[ak v]
    have t:=H hq
    go_upto_region 7 with fail
    go_cut [20]from 7 to 54 (λx P=>x=Bs CD/\P=wr)
    case first=>
     rcases v with rfl|rfl|rfl;all_goals
      go_wp2
      go_meet
      case rel=>exact⟨rfl,rfl⟩
    case rest=>
    obtain⟨rfl,n⟩:=hcut;have n:=n.s;subst n;go_wp2_with (at_builtin;refine aX _ rfl (.tmp 31) (.tmp 33) 23 rfl d 5 E (I .u8 0) 1 1 az y B C D rfl bF _ _ _ rfl (g.alloc _) ⟨wr.heap.size,0,N⟩ 2 2 ([92,b].map λc:Nat=>I .u8 (c:Int)) rfl rfl nl ?c2 ?c3 ?c4 ?c5 ?_)
    case c2=>simp[Value.oneCell']
    case c3=>have:=f.o;unfold maxLen;omega
    case c4=>have:=f.o;omega
    case c5=>have:=A.o;simp;omega
    intro j m q p _;have u:=H ((r.alloc _).grown p (oQ (g.alloc _)));have s:=H (J _ t q);go_wp2;go_roundw
    case rel=>exact⟨k+1,Y,by go_num,s,u⟩
    case measure=>exact eT
   ·have t1:((b:Int)==40)=CS:=eS;have t2:((b:Int)==41)=CS:=eS;have t3:((b:Int)==92)=CS:=eS;by_cases e:32<=b/\b<=126
    ·have V:decide ((b:Int)<32)=CS:=eS;have t5:decide ((126:Int)<(b:Int))=CS:=eS;have t:wt (jx b=[b]):=by unfold Hid jx;rw[aj v,ak e]
     go_wp2_with (at_builtin;refine aX _ rfl (.tmp 16) (.tmp 18) 23 rfl d 5 E (I .u8 0) 1 1 az y B C D rfl bF _ _ _ rfl (g.alloc _) ⟨wr.heap.size,0,N⟩ 1 1 ([b].map λc:Nat=>I .u8 (c:Int)) rfl rfl nl ?c2 ?c3 ?c4 ?c5 ?_)
     case c2=>intro al T;simp at T;subst T;rfl
     case c3=>have:=f.o;unfold maxLen;omega
     case c4=>have:=f.o;omega
     case c5=>have:=A.o;simp;omega
     intro j m q p _;have u:=H ((r.alloc _).grown p (oQ (g.alloc _)));have s:=H (J _ t q);go_wp2;go_roundw
     case rel=>exact⟨k+1,Y,by go_num,s,u⟩
     case measure=>exact eT
    ·have t:wt (jx b=[92,48+b/64,48+b/8%8,48+b%8]):=by unfold Hid jx;rw[aj v,aj e]
     have d1:(b:Int).tdiv 64=(b:Int)/64:=Int.tdiv_eq_ediv_of_nonneg Y;have d2:(b:Int).tdiv 8=(b:Int)/8:=Int.tdiv_eq_ediv_of_nonneg Y;have d3:((b:Int)/8).tmod 8=(b:Int)/8%8:=cM Y;have d4:(b:Int).tmod 8=(b:Int)%8:=cM Y;have x1:IntKind.u8.wrap ((b:Int)/64)=(b:Int)/64:=by rw[cA];omega
     have x2:IntKind.u8.wrap ((b:Int)/8)=(b:Int)/8:=by rw[cA];omega
     have x3:IntKind.u8.wrap (48+(b:Int)/64)=((48+b/64:Nat):Int):=by rw[cA];omega
     have x4:IntKind.u8.wrap (48+(b:Int)/8%8)=((48+b/8%8:Nat):Int):=by rw[cA];omega
     have x5:IntKind.u8.wrap (48+(b:Int)%8)=((48+b%8:Nat):Int):=by rw[cA];omega
     go_upto_region 9 with fail
     go_cut [35]from 7 to 54 (λx P=>x=Bs CD/\P=wr)
     case first=>
      by_cases i:b<32
      ·have V:(b:Int)<32:=Y;go_wp2
       go_meet
       case rel=>exact⟨rfl,rfl⟩
      ·have V:decide ((b:Int)<32)=CS:=eS;have t5:(126:Int)<b:=Y;go_wp2
       go_meet
       case rel=>exact⟨rfl,rfl⟩
     case rest=>
     obtain⟨rfl,n⟩:=hcut;have n:=n.s;subst n;go_wp2_with (at_builtin;refine aX _ rfl (.tmp 42) (.tmp 53) 23 rfl d 5 E (I .u8 0) 1 1 az y B C D rfl bF _ _ _ rfl (g.alloc _) ⟨wr.heap.size,0,N⟩ 4 4 ([92,48+b/64,48+b/8%8,48+b%8].map λc:Nat=>I .u8 (c:Int)) rfl rfl nl ?c2 ?c3 ?c4 ?c5 ?_)
     case c2=>simp[Value.oneCell']
     case c3=>have:=f.o;unfold maxLen;omega
     case c4=>have:=f.o;omega
     case c5=>have:=A.o;simp;omega
     intro j m q p _;have u:=H ((r.alloc _).grown p (oQ (g.alloc _)));have s:=H (J _ t q);go_wp2;go_roundw
     case rel=>exact⟨k+1,Y,by go_num,s,u⟩
     case measure=>exact eT
  ·obtain rfl:k=a.size:=Y;have X:¬(a.size:Int)<a.size:=Y;rw[<-z.o,dE]at g f;rw[z.o]at f;go_wp2_with (at_builtin;refine aX _ rfl (.tmp 55) (.tmp 56) 23 rfl d 5 E (I .u8 0) 1 1 az y B C D rfl bF _ _ _ rfl (g.alloc _) ⟨wr.heap.size,0,N⟩ 1 1 [I .u8 41] rfl rfl ?c1 ?c2 ?c3 ?c4 ?c5 ?_)
   case c2=>rfl
   case c3=>have:=f.o;unfold maxLen;omega
   case c4=>have:=f.o;omega
   case c5=>have:=A.o;simp;omega
   intro j m q p _;have k2:=H ((r.alloc _).grown p (oQ (g.alloc _)));have aa:m.ownsRow d 5 1 j (lI (bl a)).length ((lI (bl a)).map λc:Nat=>I .u8 (c:Int)):=by unfold lI;rw[aI,ab];exact q
   have ad:=AU aa;go_wp2;go_ret;exact⟨rfl,k2⟩
end
section
variable{w a:vz}{B bf:Nat}{d g:wg}{c f:List Nat}
def gU(n:Int):List Nat:=if n<0 then 45::gJ n.natAbs else gJ n.toNat
def iD(k n:Nat):List Nat:=DJ (k-(gJ n).length) 48++gJ n
def jg.below(h:jg B bf w d g c f)(b:wm w.heap.size w a):jg B bf a d g c f:=⟨h.hb,by rw[b.block bf h.lt];exact h.blk,ym h.oo b,ym h.po b⟩
def Lc(b:Nat):bl (gj (gJ b))=gJ b:=by rw[Nt];unfold bl gJ;rfl
def Hn(b e:ByteArray):bl (b++e)=bl b++bl e:=by unfold bl;simp
def C6(k:Nat):bl ⟨(Lib.repeatL [48] k).toArray⟩=DJ k 48:=by
 unfold bl;simp only[];induction k with
 |zero=>rfl
 |succ k b=>rw[eI,<-b];rfl
def Hb{b:Nat}(m:pR b w)(p:b<=w.heap.size)(n:Int)(j : -9223372036854775808<=n)(l:n<=9223372036854775807):wh DG 97 #[I U n] w λi a=>∃e,i=BX (y7 e)/\bl e=gU n/\wm w.heap.size w a:=by
 apply(Tryz.strconv_Itoa n j l w m.pow).m;rintro i a ⟨rfl,k,o,rfl⟩;refine⟨_,rfl,?_,bg w k o⟩;unfold bl gU Lib.itoa gJ;simp only[];by_cases h:n<0;·rw[ak h,ak h];rfl
 ·rw[aj h,aj h]
def M0{p:Nat}(h:pR p w)(A:p<=w.heap.size)(b k:Nat)(K:b<=9223372036854775807)(E:k<=100):wh DG 133 #[I U b,I U k] w λn a=>∃j,n=BX (y7 j)/\bl j=iD k b/\wm w.heap.size w a:=by
 have q:=H (io h A b Y);have F:(gJ b).length<=19:=xe 18 b Y;have M:(gj (gJ b)).size=(gJ b).length:=Kh _;have v:=H (Lc b);have x:wt (iD k b=DJ (k-(gJ b).length) 48++gJ b):=rfl;generalize gj (gJ b)=j at *;generalize iD k b=C at *;generalize z:(gJ b).length=e at *;have J:IntKind.i64.wrap ((k:Int)-(j.size:Int))=(k:Int)-(e:Int):=by rw[bu];omega
 clear h z
 go_in
 go_wp2_with fail;apply q.o.m;rintro n P ⟨rfl,r⟩;have m:=H r;clear r q;go_wp2_with fail;rw[show max (0:Int) ((k:Int)-(e:Int))=((k-e:Nat):Int)by omega];refine(Tryz.strings_Repeat {data:=#[48]} (k-e) _ Y (by simp[ByteArray.size];omega)).m ?_;rintro n Q ⟨t,s⟩;obtain⟨i,l⟩:∃i:ByteArray,⟨(Lib.repeatL [48] (k-e)).toArray⟩=i:=⟨_,rfl⟩;have L:i.size<=100:=by rw[<-l];simp[ByteArray.size,Lib.repeatL_length];omega
 have y:wt (bl i=DJ (k-e) 48):=by unfold Hid;rw[<-l];exact C6 _
 rw[show({data:=#[48]}:ByteArray).data.toList=[48]from rfl,l]at t;subst t;have u:=H (m.t (s.m m.size));have D:¬9223372036854775807<i.size+j.size:=Y;clear s m l;go_wp2;go_ret;exact⟨_,rfl,by rw[Hn,y.o,v.o,x.o],u⟩
end
