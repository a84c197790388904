import Derived.Test.YtgkljcmjnphpeaaGreatDoorK11
set_option linter.defProp false
set_option linter.unusedVariables false
set_option linter.unusedSimpArgs false
set_option maxHeartbeats 8000000
set_option maxRecDepth 100000
open List renaming length->G
open Go renaming World->Gr,Calls->K8,Ending->MB
open Go.Value renaming int->I,pointer->M2,string->MV,bool->OV,tuple->OW
open Go.RowKit renaming Hid->L1
open Option renaming none->N,some->O
open Bool renaming false->P2,true->PV
open Or renaming inl->P3,inr->P4
open Go.Ending renaming returned->Ps
open Go.Proofs.Tryz renaming prog->Qe
open List renaming replicate->Qf
open Go.IntKind renaming i64->U
open Go.Proofs.Tryz
namespace Go.Proofs.YtgkljcmjnphpeaaGreatDoor
open Go.RowKit
section
variable{w w':Gr}
def PI(a:List Nat)(c:Int)(d:Int)(b:Bool):Prop:=match jm a with
 |some (e,k)=>c=e/\d=(k:Nat)/\b=PV
 |none=>b=P2
def nR(l:List Nat)(w:Gr)(d:MB)(w':Gr):Prop:=(∃a c b,d=Ps (OW #[I U a,I U c,OV b])/\PI l a c b)/\w'=w
def nR.no{l:List Nat}{a p:Int}(h:jm l=N):nR l w (Ps (OW #[I U a,I U p,OV P2])) w:=⟨⟨a,p,P2,rfl,by unfold PI;rw[h]⟩,rfl⟩
def nR.yes{l:List Nat}{a b c:Int}{k:Nat}(h:jm l=O (c,k))(d:a=c)(e:b=(k:Nat)):nR l w (Ps (OW #[I U a,I U b,OV PV])) w:=⟨⟨a,b,PV,rfl,by unfold PI;rw[h];exact⟨d,e,rfl⟩⟩,rfl⟩
def PT(d:List Nat)(g:Int)(f b e:Nat):Prop:=
 (e=0/\f=G d/\b=0/\d.all gH=PV/\(G d<=18->g=(iO d:Nat))) \/
 (∃c a,d=c++46::a/\c.all gH=PV/\f=G c/\1<=e/\b+e=G a+1/\(e=1->a.all gH=PV/\(G c+G a<=18->g=(iO (c++a):Nat)))/\(2<=e->(46:Nat)∈a))
def PT.start:PT [] 0 0 0 0:=P3 ⟨rfl,rfl,rfl,rfl,λ_=>rfl⟩
def PT.point{a:List Nat}{j:Int}{d b i:Nat}(h:PT a j d b i):PT (a++[46]) j d b (i+1):=by
 rcases h with⟨h1,h2,h3,e,f⟩|⟨k,l,h1,h2,h3,e,f,m,n⟩;·exact P4 ⟨a,[],rfl,e,h2,Y,eB,λ_=>⟨rfl,λg=>by simp at g ⊢;exact f g⟩,λc=>Y⟩
 ·exact P4 ⟨k,l++[46],by rw[h1];simp,h2,h3,Y,eB,λc=>Y,λ_=>eA⟩
def sg(a:Int)(c:Nat):Int:=if a<1152921504606846976 then wrap64 (wrap64 (10*a)+((c:Int)-48))else a
def IC{a:List Nat}{b:Int}{c:Nat}(j:G a+1<=18)(d:a.all gH=PV)(i:48<=c/\c<=57)(f:b=(iO a:Nat)):sg b c=(iO (a++[c]):Nat):=by have e:=Em a 17 Y (λh g=>by have:=cN.1 d h g;simp[gH]at this;omega);have:iO a<100000000000000000:=e;unfold sg;rw[En,ai Y,f];simp only[wrap64];omega
def Cx{c:Nat}(a:48<=c/\c<=57):gH c=PV:=by simp[gH];omega
def PT.front{d:List Nat}{j:Int}{e b c:Nat}(h:PT d j e b 0)(g:48<=c/\c<=57):PT (d++[c]) (sg j c) (e+1) b 0:=by
 rcases h with⟨h1,h2,h3,a,f⟩|⟨k,l,h1,h2,h3,a,f,m,n⟩
 ·refine P3 ⟨rfl,eB,h3,by rw[List.all_append,a];simp[Cx g],λi=>?_⟩;rw[ak,ej]at i;exact IC i a g (f Y)
 ·omega
def PT.back{e:List Nat}{j:Int}{f b c d:Nat}(h:PT e j f b d)(p:d≠0)(i:48<=c/\c<=57):PT (e++[c]) (sg j c) f (b+1) d:=by
 rcases h with⟨h1,h2,h3,g,m⟩|⟨k,l,h1,h2,h3,g,m,a,n⟩;·omega
 ·refine P4 ⟨k,l++[c],by rw[h1];simp,h2,h3,g,eB,λh=>⟨by rw[List.all_append,(a h).1];simp[Cx i],λo=>?_⟩,λh=>by simp[n h]⟩;rw[ak,ej]at o;rw[<-bZ];exact IC (by rw[ak];omega) (by rw[List.all_append,h2,(a h).1];rfl) i ((a h).2 Y)
def PT.none_{e:List Nat}{v:Int}{a b c:Nat}(h:PT (fZ e).2 v a b c)(j:¬(c=1/\a<=9/\b<=9/\1<=a+b)):jm e=N:=by
 rcases h with⟨h1,h2,h3,d,f⟩|⟨l,m,h1,h2,h3,d,f,q,g⟩
 ·refine tE (λh=>?_);have:=cN.1 d 46 h;cases this
 ·rw[nW h1 h2,ah];rintro⟨i,n,o,p⟩;by_cases k:c=1;·exact j ⟨k,Y,Y,Y⟩
  ·have:=cN.1 i 46 (g Y);cases this
def pQ(d:List Nat)(e b:Nat):Prop:=∃c a k,jm d=O (if(fZ d).1=[45]then -(iO (c++iu (a++Qf k 48)):Int)else(iO (c++iu (a++Qf k 48)):Int),(iu (a++Qf k 48)).length)/\e=iO (c++a)/\b=G a/\e<1000000000000000000/\a.all gH=PV
def PT.trim{g:List Nat}{k:Int}{c b j:Nat}(h:PT (fZ g).2 k c b j)(p:j=1/\c<=9/\b<=9/\1<=c+b):∃i:Nat,k=(i:Nat)/\pQ g i b:=by
 rcases h with⟨h1,h2,h3,m,n⟩|⟨e,f,h1,h2,h3,m,n,o,r⟩;·omega
 ·obtain⟨d,q⟩:=o p.1;refine⟨_,q Y,e,f,0,?_,rfl,Y,?_,d⟩;·rw[nW h1 h2,ai ⟨d,Y,Y,Y⟩];simp
  ·exact Em (e++f) 18 (by rw[ak];omega) (λl a=>by
    rcases bG.1 a with a|a;·have:=cN.1 h2 l a;simp[gH]at this;omega
    ·have:=cN.1 d l a;simp[gH]at this;omega)
def PN(a:List Nat)(k:Nat):iu (a++Qf k 48)=iu a:=by
 unfold iu;rw[List.reverse_append,List.reverse_replicate];congr 1;induction k with
 |zero=>rfl
 |succ k b=>rw[eY,cP,bP];exact b
def pQ.go{g:List Nat}{e b:Nat}(h:pQ g e b)(o:0<b)(p:e%10=0):pQ g (e/10) (b-1):=by obtain⟨i,a,k,h1,h2,h3,n,d⟩:=h;obtain⟨a,f,rfl⟩:∃j f,a=j++[f]:=⟨a.dropLast,a.getLast (by intro c;rw[c]at h3;simp at h3;omega),(List.dropLast_concat_getLast _).s⟩;rw[List.all_append,bN]at d;have m:=d.2;simp[gH]at m;rw[<-bZ,En]at h2;have l:f=48:=Y;subst l;rw[bZ,List.singleton_append,<-eY]at h1;exact⟨i,a,k+1,h1,Y,by simp at h3;omega,Y,d.1⟩
def pQ.stop{e:List Nat}{c b:Nat}(h:pQ e c b)(g:¬(0<b/\c%10=0)):jm e=O (if(fZ e).1=[45]then -(c:Int)else(c:Int),b):=by
 obtain⟨j,d,k,h1,h2,h3,l,m⟩:=h;have i:iu (d++Qf k 48)=d:=by
  rw[PN];obtain⟨f,a,n⟩:=px d;cases f with
  |zero=>rw[List.replicate_zero,cF]at a;exact a.s
  |succ f=>exfalso;apply g;rw[List.replicate_succ',<-bZ]at a;refine⟨by rw[h3,a];simp;omega,?_⟩;rw[h2,a,<-bZ,En];omega
 rw[h1,i,h2,h3]
def Gp(f:ByteArray)(hT:f.size<=200001):K8 Qe 284 #[MV f] w (nR (bl f) w):=by
 have hl:=mK f;obtain⟨i,V⟩:∃i,bl f=i:=⟨_,rfl⟩;rw[V];have HL:=H hl;have B:=H V;have e0:(f.toList==[])=decide (i=[]):=by rw[<-V];rw[de,bC,beq_iff_eq,cm];unfold bl;exact List.map_eq_nil_iff.s
 have P:L1 (∀(b:Nat) (n:List Nat),i=b::n->0<f.size/\∀h:0<f.size,(f[0]'h).toNat=b/\b<256/\bl (f.extract 1 f.size)=n):=λb n T=>by
  have s:0<f.size:=by rw[<-HL.o,B.o,T];simp
  refine⟨s,λh=>?_⟩;have h1:=s8 f 0 s;have h2:=lN f 0 s;rw[B.o,T]at h1 h2;exact⟨h1,h2,by rw[E8,B.o,T];rfl⟩
 go_in
 go_upto_region 1 with fail
 go_cut [5]from 11 (λX u=>X=OV (decide ((fZ i).1=[45]))/\u=w)
 case first=>
  cases i with
  |nil=>
   simp only[decide_true]at e0;go_wp2
   go_meet
   case rel=>exact⟨rfl,rfl⟩
  |cons b n=>
   have e0:(f.toList==[])=P2:=by rw[e0];rfl
   obtain⟨s,x⟩:=P.o b n rfl;obtain⟨h1,h2,_⟩:=x s;by_cases p:b=45
   ·have t1:((b:Int)==45)=PV:=eB;have m:L1 (decide ((fZ (b::n)).1=[45])=PV):=by unfold Hid;simp[fZ,p]
    go_wp2
    go_meet
    case rel=>exact⟨by rw[m.o],rfl⟩
   ·have t1:((b:Int)==45)=P2:=eB;have m:L1 (decide ((fZ (b::n)).1=[45])=P2):=by unfold Hid;simp only[fZ];split<;>simp[p]
    go_wp2
    go_meet
    case rel=>exact⟨by rw[m.o],rfl⟩
 case rest=>
 obtain⟨rfl,rfl⟩:=hcut;generalize y:decide ((fZ i).1=[45])=mb;have a1:=H y
 go_upto_region 2 with fail
 go_cut [29]from 11 (λX u=>X=OV (decide ((fZ i).1≠[]))/\u=wc)
 case first=>
  cases i with
  |nil=>
   simp only[decide_true]at e0;go_wp2
   go_meet
   case rel=>exact⟨rfl,rfl⟩
  |cons b n=>
   have e0:(f.toList==[])=P2:=by rw[e0];rfl
   obtain⟨s,x⟩:=P.o b n rfl;obtain⟨h1,h2,_⟩:=x s;by_cases p:b=45
   ·have t1:((b:Int)==45)=PV:=eB;have m:L1 (decide ((fZ (b::n)).1≠[])=PV):=by unfold Hid;simp[fZ,p]
    go_wp2
    go_meet
    case rel=>exact⟨by rw[m.o],rfl⟩
   ·have t1:((b:Int)==45)=P2:=eB;by_cases aa:b=43
    ·have t:((b:Int)==43)=PV:=eB;have m:L1 (decide ((fZ (b::n)).1≠[])=PV):=by unfold Hid;simp[fZ,aa]
     go_wp2
     go_meet
     case rel=>exact⟨by rw[m.o],rfl⟩
    ·have t:((b:Int)==43)=P2:=eB;have m:L1 (decide ((fZ (b::n)).1≠[])=P2):=by unfold Hid;simp[fZ,p,aa]
     go_wp2
     go_meet
     case rel=>exact⟨by rw[m.o],rfl⟩
 case rest=>
 obtain⟨rfl,rfl⟩:=hcut;generalize a8:decide ((fZ i).1≠[])=nb;have K:=H a8
 go_upto_if 29 with fail
 go_cut [0]from 11 (λsv u=>∃S:ByteArray,sv=MV S/\S.size<=200001/\L1 (bl S=(fZ i).2)/\u=wc)
 case first=>
  by_cases z:(fZ i).1=[]
  ·have m:L1 (bl f=(fZ i).2):=by
    unfold Hid;rw[B.o];cases i with
    |nil=>rfl
    |cons b n=>
     by_cases h:b=43\/b=45;·simp[fZ,h]at z
     ·simp[fZ,h]
   have t1:nb=P2:=by rw[<-K.o];simp[z]
   subst t1;go_wp2
   go_meet
   case rel=>exact⟨f,rfl,hT,m,rfl⟩
  ·have t1:nb=PV:=by rw[<-K.o];simp[z]
   clear K;subst t1;cases i with
   |nil=>exact absurd rfl z
   |cons b n=>
    obtain⟨s,x⟩:=P.o b n rfl;obtain⟨_,_,h3⟩:=x s;have m:L1 (bl (f.extract 1 f.size)=(fZ (b::n)).2):=by
     unfold Hid;rw[h3];by_cases h:b=43\/b=45;·simp[fZ,h]
     ·simp[fZ,h]at z
    have bc:(1:Int)<=f.size:=Y;have HZ:L1 ((f.extract 1 f.size).size<=200001):=by unfold Hid;rw[ByteArray.size_extract];omega
    clear z x h3;go_wp2
    go_meet
    case rel=>exact⟨_,rfl,HZ,m,rfl⟩
 case rest=>
 obtain⟨g,rfl,hU,HU,rfl⟩:=hcut;clear P B HL e0 hT K;have ba:=mK g;go_wp2_with fail;go_loopw [6,7,8,9,10] (λnv fv E pv W wr=>∃(j:Int) (e b d a:Nat),nv=I U j/\fv=I U (e:Nat)/\E=I U (b:Nat)/\pv=I U (d:Nat)/\W=I U (a:Nat)/\a<=g.size/\e+b+d=a/\wr=wc/\L1 (PT ((bl g).take a) j e b d)) (λ_ _ _ _ W _=>g.size-(intOf W).toNat)
 case atStart=>exact⟨0,0,0,0,0,rfl,rfl,rfl,rfl,rfl,Y,Y,rfl,PT.start⟩
 case round=>
  obtain⟨j,e,b,d,a,rfl,rfl,rfl,rfl,rfl,hi,a9,rfl,q⟩:=hrel;rcases aV hi with he|al
  ·have a6:¬(a:Int)<g.size:=Y;have m:L1 ((bl g).take a=(fZ i).2):=by unfold Hid;rw[bD Y,HU.o]
   rw[m.o]at q;clear he ba;by_cases F:d=1/\e<=9/\b<=9/\1<=e+b
   ·obtain⟨l,rfl,ao⟩:=q.o.trim F;have D:=H ao;have t1:((d:Int) != 1)=P2:=eB;have t:decide ((9:Int)<(e:Int))=P2:=eB;have R:decide ((9:Int)<(b:Int))=P2:=eB;have t4:(wrap64 ((e:Int)+(b:Int))==0)=P2:=by simp only[wrap64];simp;omega
    have ad:b<=9:=F.2.2.1;clear F ao q m a9;generalize wr=W0 at *;go_wp2_with fail;go_loopw [6,8] (λnv E wr=>∃(l b:Nat),nv=I U (l:Nat)/\E=I U (b:Nat)/\b<=9/\wr=W0/\L1 (pQ i l b)) (λ_ E _=>(intOf E).toNat)
    case atStart=>exact⟨l,b,rfl,rfl,ad,rfl,D⟩
    case round=>
     obtain⟨l,b,rfl,rfl,ad,rfl,D⟩:=hrel;have bi:l<1000000000000000000:=by obtain⟨_,_,_,_,_,_,h,_⟩:=D.o;exact h
     have a7:((l:Int)).tmod 10=((l%10:Nat):Int):=by rw[dh Y];omega
     have a5:((l:Int)).tdiv 10=((l/10:Nat):Int):=by rw[Int.tdiv_eq_ediv_of_nonneg Y];omega
     by_cases v:0<b/\l%10=0
     ·have a3:=H (D.go v.1 v.2);have t1:decide ((0:Int)<(b:Int))=PV:=eB;have t:(((l%10:Nat):Int)==0)=PV:=eB;have a0:=H (show(b:Int)-1=((b-1:Nat):Int)by omega);have a4:=v.1;clear v;have bm:l/10<1000000000000000000:=Y;generalize l%10=nm at *;generalize l/10=nd at *;go_wp2;go_roundw
      case rel=>exact⟨nd,b-1,rfl,by rw[<-a0.o],Y,trivial,a3⟩
      case measure=>simp[intOf];omega
     ·have M:=H (D.stop v);have y:=a1.o
      go_upto_region 22 with fail
      go_cut [101]from 95 to 105 (λtv u=>tv=OV P2/\u=wr)
      case first=>
       by_cases a4:0<b
       ·have t1:decide ((0:Int)<(b:Int))=PV:=eB;have t:(((l%10:Nat):Int)==0)=P2:=eB;clear v;generalize l%10=nm at *;go_wp2
        go_meet
        case rel=>exact⟨rfl,rfl⟩
       ·have t1:decide ((0:Int)<(b:Int))=P2:=eB;clear v;go_wp2
        go_meet
        case rel=>exact⟨rfl,rfl⟩
      case rest=>
       obtain⟨rfl,rfl⟩:=hcut;clear v a7 a5;cases mb with
       |true=>
        have p:(fZ i).1=[45]:=by simpa using y
        rw[ai p]at M;clear y p;go_wp2
        go_ret3
        exact nR.yes M rfl rfl
       |false=>
        have p:¬(fZ i).1=[45]:=by simpa using y
        rw[ah p]at M;clear y p;go_wp2
        go_ret3
        exact nR.yes M rfl rfl
   ·have L:=H (q.none_ F)
    go_upto_region 20 with fail
    go_cut [94]from 11 (λtv u=>tv=OV PV/\u=wr)
    case first=>
     by_cases h1:d=1
     ·have t1:((d:Int) != 1)=P2:=eB;by_cases h2:9<e
      ·have t:decide ((9:Int)<(e:Int))=PV:=eB;clear h1;go_wp2
       go_meet
       case rel=>exact⟨rfl,rfl⟩
      ·have t:decide ((9:Int)<(e:Int))=P2:=eB;by_cases h3:9<b
       ·have R:decide ((9:Int)<(b:Int))=PV:=eB;clear h1;go_wp2
        go_meet
        case rel=>exact⟨rfl,rfl⟩
       ·have R:decide ((9:Int)<(b:Int))=P2:=eB;have t4:(wrap64 ((e:Int)+(b:Int))==0)=PV:=by simp only[wrap64];simp;omega
        have T4:=H (show((e:Int)+(b:Int)==0)=PV by simp;omega);clear h1 F;go_wp2
        go_meet
        case rel=>exact⟨by rw[T4.o],rfl⟩
     ·have t1:((d:Int) != 1)=PV:=eB;clear h1;go_wp2
      go_meet
      case rel=>exact⟨rfl,rfl⟩
    case rest=>
     obtain⟨rfl,rfl⟩:=hcut;go_wp2
     go_ret3
     exact nR.no L
  ·have a6:(a:Int)<g.size:=Y;have x:=s8 g a al;have bf:=lN g a al;have C:=H (DL (l:=bl g) (k:=a) Y);have a2:L1 (nth (bl g) a∈bl g):=by unfold Hid;rw[show nth (bl g) a=(bl g)[a]'Y by simp[nth,show a<(bl g).length by omega]];exact cq _
   generalize nth (bl g) a=c at *;by_cases ac:c=46
   ·have t1:((c:Int)==46)=PV:=eB;have bb:((c:Int) != 46)=P2:=eB;have r:L1 (PT ((bl g).take (a+1)) j e b (d+1)):=by unfold Hid;rw[C.o,ac];exact q.point
    go_wp2;go_roundw
    case rel=>exact⟨j,e,b,d+1,a+1,rfl,rfl,rfl,rfl,rfl,Y,Y,trivial,r⟩
    case measure=>simp[intOf];omega
   ·have t1:((c:Int)==46)=P2:=eB;have bb:((c:Int) != 46)=PV:=eB;by_cases Q:48<=c/\c<=57
    ·have t:decide ((c:Int)<48)=P2:=eB;have R:decide ((57:Int)<(c:Int))=P2:=eB;have bo:IntKind.u8.wrap ((c:Int)-48)=(c:Int)-48:=by rw[cE];omega
     by_cases hv:j<1152921504606846976
     ·have t4:decide (j<1152921504606846976)=PV:=eB;have A:L1 (sg j c=wrap64 (wrap64 (10*j)+((c:Int)-48))):=by unfold Hid sg;rw[ai hv]
      by_cases J:d=0
      ·have t5:((d:Int)==0)=PV:=eB;have r:L1 (PT ((bl g).take (a+1)) (wrap64 (wrap64 (10*j)+((c:Int)-48))) (e+1) b d):=by unfold Hid;rw[C.o,<-A.o];subst J;exact q.front Q
       go_wp2;go_roundw
       case rel=>exact⟨_,e+1,b,d,a+1,rfl,rfl,rfl,rfl,rfl,Y,Y,trivial,r⟩
       case measure=>simp[intOf];omega
      ·have t5:((d:Int)==0)=P2:=eB;have r:L1 (PT ((bl g).take (a+1)) (wrap64 (wrap64 (10*j)+((c:Int)-48))) e (b+1) d):=by unfold Hid;rw[C.o,<-A.o];exact q.back J Q
       go_wp2;go_roundw
       case rel=>exact⟨_,e,b+1,d,a+1,rfl,rfl,rfl,rfl,rfl,Y,Y,trivial,r⟩
       case measure=>simp[intOf];omega
     ·have t4:decide (j<1152921504606846976)=P2:=eB;have A:L1 (sg j c=j):=by unfold Hid sg;rw[ah hv]
      by_cases J:d=0
      ·have t5:((d:Int)==0)=PV:=eB;have r:L1 (PT ((bl g).take (a+1)) j (e+1) b d):=by
        have:PT ((bl g).take (a+1)) (sg j c) (e+1) b d:=by rw[C.o];subst J;exact q.front Q
        rw[A.o]at this;exact this
       go_wp2;go_roundw
       case rel=>exact⟨_,e+1,b,d,a+1,rfl,rfl,rfl,rfl,rfl,Y,Y,trivial,r⟩
       case measure=>simp[intOf];omega
      ·have t5:((d:Int)==0)=P2:=eB;have r:L1 (PT ((bl g).take (a+1)) j e (b+1) d):=by
        have:PT ((bl g).take (a+1)) (sg j c) e (b+1) d:=by rw[C.o];exact q.back J Q
        rw[A.o]at this;exact this
       go_wp2;go_roundw
       case rel=>exact⟨_,e,b+1,d,a+1,rfl,rfl,rfl,rfl,rfl,Y,Y,trivial,r⟩
       case measure=>simp[intOf];omega
    ·have L:L1 (jm i=N):=by have hm:=a2.o;rw[HU.o]at hm;exact ug hm (by cases hh:gH c with|false=>rfl|true=>simp[gH]at hh;omega) ac
     by_cases bd:c<48
     ·have t:decide ((c:Int)<48)=PV:=eB;go_wp2
      go_ret3
      exact nR.no L
     ·have t:decide ((c:Int)<48)=P2:=eB;have R:decide ((57:Int)<(c:Int))=PV:=eB;go_wp2
      go_ret3
      exact nR.no L
end
section
variable{d:Nat}{S:ByteArray}{w w':Gr}{p:Nat}{s:Option (List Nat)}
def kJ(s:Option (List Nat)):List Nat:=(s.map gn).getD []
def mJ(s:Option (List Nat)):Option (List Nat):=s.map gm
def rk(c b:Nat)(a r:List Nat):Prop:=∃pre,c+G pre=b/\a=pre++r/\a.takeWhile pB=pre++r.takeWhile pB/\a.dropWhile pB=r.dropWhile pB
def rk.next{e c b:Nat}{f r:List Nat}(h:rk e c f (b::r))(a:pB b=PV):rk e (c+1) f r:=by obtain⟨pre,h1,h2,h3,g⟩:=h;exact⟨pre++[b],eB,by simp[h2],by rw[h3,cL,a];simp,by rw[g,bP,a];simp⟩
def Bq(h:Sn d S w p s):K8 Qe 124 #[M2 (O ⟨d,0,N⟩)] w λl w'=>l=Ps (MV (ge (kJ s)))/\jP d S w w' (mJ s):=by
 have F:=H (uF h)
 go_in
 go_wp2_with fail;apply F.o.m;rintro l V ⟨rfl,⟨i,h1⟩,R⟩;have P:=h1.c1;have m:=H h1;have lp:=h1.lp;have y:=H R;cases s with
 |none=>
  have k:=H (Bp m);have M:=m.o.c0;go_wp2_with fail;go_loopw [] (λwr=>wr=V) (λwr=>0)
  case atStart=>rfl
  case round=>
   subst hrel;go_wp2_with fail;apply k.o.m;rintro l B ⟨rfl,a,rfl⟩;simp only[pS,Option.map_none];have e0:(wr.drewN a).cell? ⟨d,0,N⟩=O (MV S):=M;have e1:(wr.drewN a).cell? ⟨d,1,N⟩=O (I U i):=P;obtain⟨q,j⟩:∃q,wr.drewN a=q:=⟨_,rfl⟩;rw[j]at e0 e1;rw[j];have t:=H j;have Q:(i:Int)<=S.size:=Y;go_wp2_with fail;go_quiet (fail);go_wp2;go_ret;refine⟨?_,⟨⟨i,?_⟩,?_⟩⟩;·rfl
   ·rw[<-t.o];exact(m.drewN a).drewN nq
   ·rw[<-t.o];exact((y.drewN a).drewN nq)
 |some r=>
  go_wp2_with fail;go_loopw [] (λwr=>∃(e:Nat) (c:List Nat),L1 (Sn d S wr e (O c))/\L1 (rk i e (f9 r) c)/\L1 (gB d w wr)) (λwr=>S.size-posOf d wr)
  case atStart=>exact⟨i,f9 r,m,⟨[],rfl,rfl,rfl,rfl⟩,y⟩
  case round=>
   obtain⟨e,c,g,n,v⟩:=hrel;have k:=H (Bp g);have D:=H g.posOf;have X:=g.o.lp;cases f:pS (O c)with
   |true=>
    rw[f]at k;match c,g,n,f with
    | [],_,_,f=>cases f
    |b::c,g,n,f=>
    go_wp2_with fail;apply k.o.m;rintro l B ⟨rfl,a,rfl⟩;have J:=H (vK (g.drewN a));have x:=H g.cons.1;go_wp2_with fail;apply J.o.m;rintro l w3 ⟨rfl,h3,T⟩;have E:=H h3.posOf;have C:=H h3;have L:=H ((v.drewN a).t T);have K:L1 (rk i (min (e+1) S.size) (f9 r) c):=by have:=x.o;unfold Hid;rw[show min (e+1) S.size=e+1 by omega];exact n.next f
    go_wp2;go_roundw
    case rel=>exact⟨_,_,C,K,L⟩
    case measure=>have:=x.o;rw[E.o,D.o];omega
   |false=>
    rw[f]at k;have e0:=g.o.c0;have e1:=g.o.c1;go_wp2_with fail;apply k.o.m;rintro l B ⟨rfl,a,rfl⟩;have e0:(wr.drewN a).cell? ⟨d,0,N⟩=O (MV S):=e0;have e1:(wr.drewN a).cell? ⟨d,1,N⟩=O (I U e):=e1;obtain⟨q,j⟩:∃q,wr.drewN a=q:=⟨_,rfl⟩;rw[j]at e0 e1;rw[j];have t:=H j;have u:L1 (S.extract i e=ge (kJ (O r))/\O c=mJ (O r)):=by
     obtain⟨pre,h1,h2,h3,z⟩:=n.o;have A:c.takeWhile pB=[]/\c.dropWhile pB=c:=by
      match c,f with
      | [],_=>exact⟨rfl,rfl⟩
      |b::c,f=>exact⟨by rw[cL,show pB b=P2 from f];rfl,by rw[bP,show pB b=P2 from f];rfl⟩
     rw[A.1,cF]at h3;rw[A.2]at z;refine⟨?_,?_⟩
     ·rw[<-uN (S.extract i e),<-h1,bp S i (G pre) Y,m.o.rest _ rfl,h2,List.take_left];simp only[kJ,aZ,Option.getD_some,gn,h3]
     ·simp only[mJ,aZ,gm,z]
    have W:(i:Int)<=e:=by obtain⟨pre,h1,_⟩:=n.o;omega
    have Q:(e:Int)<=S.size:=Y;go_wp2_with fail;go_quiet (fail);go_wp2;go_ret;refine⟨?_,?_⟩;·rw[<-u.o.1];rfl
    ·rw[<-u.o.2,<-t.o];exact⟨⟨e,(g.drewN a).drewN nq⟩,(v.drewN a).drewN nq⟩
def Bo(h:Sn d S w p s)(b:ByteArray)(q:b.size<=1000000):K8 Qe 170 #[M2 (O ⟨d,0,N⟩),MV b] w λa w'=>a=Ps (OW #[])/\jP d S w w' (if kJ s=bl b then mJ s else N):=by
 have e:=H (Bq h);have i:L1 (∀f∈kJ s,f<256):=λf g=>by
  cases s with
  |none=>cases g
  |some r=>
   have h1:=dG pB |>.subset g
   exact h.bytes f ((GP r).subset h1)
 have e1:((ge (kJ s)).toList==b.toList)=decide (kJ s=bl b):=by rw[ng,cJ];exact⟨λa=>Bx i (xH b) (a.t (uN b).s),λa=>by rw[a,uN]⟩
 generalize ge (kJ s)=n at e e1;by_cases c:kJ s=bl b
 ·rw[ai c];rw[aB c]at e1
  go_in
  go_wp2_with fail;apply e.o.m;rintro a m ⟨rfl,h1⟩;go_wp2
  go_end0
  exact⟨rfl,h1⟩
 ·rw[ah c];rw[ar c]at e1
  go_in
  go_wp2_with fail;apply e.o.m;rintro a m ⟨rfl,⟨t,h1⟩,k⟩;have j:=H (qW h1);go_wp2_with fail;apply j.o.m;rintro a u ⟨rfl,h2,l⟩;go_wp2
  go_end0
  exact⟨rfl,⟨_,h2⟩,k.t l⟩
def two:List Nat->Option (Nat×List Nat)
 |c::e::r=>match gI c,gI e with
  |some a,O b=>O (16*a+b,r)
  |_,_=>N
 |_=>N
def sL(d:Nat)(S:ByteArray)(c:Option (Nat×List Nat))(w:Gr)(b:MB)(w':Gr):Prop:=match c with
 |some (a,e)=>b=Ps (I U (a:Nat))/\jP d S w w' (O e)
 |none=>(∃a:Int,b=Ps (I U a) /\ -1000<=a/\a<=1000)/\jP d S w w' N
def GE(c:Nat):mM (c:Int)=match gI c with|some a=>(a:Nat)|none=> -1:=by
 unfold mM gI;repeat' split
 all_goals first|rfl|omega|(simp_all;omega)|simp_all
def CI(s:Option (List Nat)) : -1<=jO s:=by unfold jO;split<;>omega
def ML{r:List Nat}(h:∀a∈r,a<256):jO (O r)<256:=by
 cases r with
 |nil=>decide
 |cons b c=>have:=h b eA;show(b:Int)<256;omega
def Sn.now(h:Sn d S w p s):jO s<256:=by
 cases s with
 |none=>decide
 |some r=>exact ML h.bytes
def AO(s:Option (List Nat)):match s.bind two with
  |some (a,g)=>0<=mM (jO s)/\0<=mM (jO (s.map List.tail))/\16*mM (jO s)+mM (jO (s.map List.tail))=(a:Nat)/\(s.map List.tail).map List.tail=O g/\a<256
  |none=>mM (jO s)<0\/mM (jO (s.map List.tail))<0:=by
 match s with
 |none=>exact P3 cO
 |some []=>exact P3 cO
 |some [c]=>exact P4 (by show mM (-1)<0;decide)
 |some (c::h::r)=>
  simp only[Option.bind_some,aZ,List.tail_cons,jO,two,GE];cases e:gI c with
  |none=>exact P3 eA
  |some i=>
   cases f:gI h with
   |none=>exact P4 eA
   |some b=>have:=vH e;have:=vH f;exact⟨eA,eA,eA,rfl,Y⟩
def Kc{c:Int}(f : -1<=c)(h:c<256) : -1<=mM c/\mM c<=15:=by
 rcases Int.lt_or_le c 0 with h1|h1
 ·have:c = -1:=Y;subst this;decide
 ·obtain⟨b,rfl⟩:=Int.eq_ofNat_of_zero_le h1;rw[GE];cases a:gI b with
  |none=>simp
  |some e=>have:=vH a;simp;omega
def sL.none_{a:Option (Nat×List Nat)}{n:Int}(h:a=N)(h1 : -1000<=n/\n<=1000)(k:jP d S w w' N):sL d S a w (Ps (I U n)) w':=by subst h;exact⟨⟨n,rfl,h1⟩,k⟩
def MS(h:Sn d S w p s):K8 Qe 282 #[M2 (O ⟨d,0,N⟩)] w (sL d S (s.bind two) w):=by
 have i:=H (AO s);have B:=H (uk h);have z:=H h;have k:=h.now;have r:=CI s;have aa:=Kc r k;have Q:=yb (jO s) r k;generalize jO s=J at *
 go_in
 go_wp2_with fail;apply B.o.m;rintro c w1 ⟨rfl,v,rfl⟩;go_wp2_with fail;apply(Q _).m;rintro c w' ⟨rfl,rfl⟩;have D:=H (vK (z.drewN v));go_wp2_with fail;apply D.o.m;rintro c w2 ⟨rfl,h2,T⟩;have C:=H (uk h2);have u:=h2.now;have t:=CI (s.map List.tail);have ac:=Kc t u;have R:=yb (jO (s.map List.tail)) t u;have A:=H h2;have F:=H (((gB.refl d w).drewN v).t T);generalize jO (s.map List.tail)=K at *;go_wp2_with fail;apply C.o.m;rintro c w3 ⟨rfl,x,rfl⟩;go_wp2_with fail;apply(R _).m;rintro c w' ⟨rfl,rfl⟩;have E:=H (vK (A.drewN x));go_wp2_with fail;apply E.o.m;rintro c w4 ⟨rfl,L,V⟩;have m:=H L;have j:=H ((F.drewN x).t V);generalize mM J=a at *;generalize mM K=b at *;cases l:s.bind two with
 |some X=>obtain⟨a0,a1⟩:=X;rw[l]at i;obtain⟨q,M,k,P,ad⟩:=i.o;rw[P]at m;have t1:decide (a<0)=P2:=eB;have W:decide (b<0)=P2:=eB;have e:=H l;go_wp2;go_ret;rw[e.o];refine⟨?_,⟨_,m⟩,j⟩;rw[<-k];rfl
 |none=>
  rw[l]at i;have n:=H (qW m);have e:=H l;have al:IntKind.i64.wrap (16*a)=16*a:=by rw[aU];omega
  have ao:IntKind.i64.wrap (16*a+b)=16*a+b:=by rw[aU];omega
  rcases i.o with q|M
  ·have t1:decide (a<0)=PV:=eB;go_wp2_with fail;apply n.o.m;rintro c y ⟨rfl,f,g⟩;go_wp2;go_ret;exact sL.none_ e ⟨Y,Y⟩ ⟨⟨_,f⟩,j.t g⟩
  ·have W:decide (b<0)=PV:=eB;by_cases q:a<0
   ·have t1:decide (a<0)=PV:=eB;go_wp2_with fail;apply n.o.m;rintro c y ⟨rfl,f,g⟩;go_wp2;go_ret;exact sL.none_ e ⟨Y,Y⟩ ⟨⟨_,f⟩,j.t g⟩
   ·have t1:decide (a<0)=P2:=eB;go_wp2_with fail;apply n.o.m;rintro c y ⟨rfl,f,g⟩;go_wp2;go_ret;exact sL.none_ e ⟨Y,Y⟩ ⟨⟨_,f⟩,j.t g⟩
end
