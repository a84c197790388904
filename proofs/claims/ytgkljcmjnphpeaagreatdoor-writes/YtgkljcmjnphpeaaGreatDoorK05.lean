import Derived.Test.YtgkljcmjnphpeaaGreatDoorK04
set_option linter.defProp false
set_option linter.unusedVariables false
set_option linter.unusedSimpArgs false
set_option maxHeartbeats 8000000
set_option maxRecDepth 100000
open List renaming length->G
open Go.Value renaming pointer->A3,tuple->BG,bool->Bs,int->I,string->y7
open Go.Ending renaming returned->BX
open Or renaming inl->C1,inr->C2
open Bool renaming true->CD,false->CS
open Go.Proofs.Tryz renaming prog->DG
open List renaming replicate->DJ
open Option renaming none->N,some->O
open Go.IntKind renaming i64->U
open Go renaming World->vz,Calls->wh,Ending->xc
open Go.RowKit renaming Hid->wt
open Go.Proofs.Tryz
namespace Go.Proofs.YtgkljcmjnphpeaaGreatDoor
open Go.RowKit
section
variable{w w':vz}
def PI(a:List Nat)(c:Int)(d:Int)(b:Bool):Prop:=match kf a with
 |some (e,k)=>c=e/\d=(k:Nat)/\b=CD
 |none=>b=CS
def qB(l:List Nat)(w:vz)(d:xc)(w':vz):Prop:=(∃a c b,d=BX (BG #[I U a,I U c,Bs b])/\PI l a c b)/\w'=w
def qB.no{l:List Nat}{a b:Int}(h:kf l=N):qB l w (BX (BG #[I U a,I U b,Bs CS])) w:=⟨⟨a,b,CS,rfl,by unfold PI;rw[h]⟩,rfl⟩
def qB.yes{l:List Nat}{a b c:Int}{k:Nat}(h:kf l=O (c,k))(d:a=c)(e:b=(k:Nat)):qB l w (BX (BG #[I U a,I U b,Bs CD])) w:=⟨⟨a,b,CD,rfl,by unfold PI;rw[h];exact⟨d,e,rfl⟩⟩,rfl⟩
def PT(d:List Nat)(g:Int)(f b e:Nat):Prop:=
 (e=0/\f=G d/\b=0/\d.all gX=CD/\(G d<=18->g=(iC d:Nat))) \/
 (∃c a,d=c++46::a/\c.all gX=CD/\f=G c/\1<=e/\b+e=G a+1/\(e=1->a.all gX=CD/\(G c+G a<=18->g=(iC (c++a):Nat)))/\(2<=e->(46:Nat)∈a))
def PT.start:PT [] 0 0 0 0:=C1 ⟨rfl,rfl,rfl,rfl,λ_=>rfl⟩
def PT.point{a:List Nat}{l:Int}{d b k:Nat}(h:PT a l d b k):PT (a++[46]) l d b (k+1):=by
 rcases h with⟨e,c,f,g,i⟩|⟨m,n,e,c,f,g,i,p,q⟩;·exact C2 ⟨a,[],rfl,g,c,Y,eS,λ_=>⟨rfl,λj=>by simp at j ⊢;exact i j⟩,λo=>Y⟩
 ·exact C2 ⟨m,n++[46],by rw[e];simp,c,f,Y,eS,λo=>Y,λ_=>cO⟩
def uP(a:Int)(b:Nat):Int:=if a<1152921504606846976 then wrap64 (wrap64 (10*a)+((b:Int)-48))else a
def Ln{a:List Nat}{c:Int}{b:Nat}(j:G a+1<=18)(d:a.all gX=CD)(i:48<=b/\b<=57)(f:c=(iC a:Nat)):uP c b=(iC (a++[b]):Nat):=by have e:=Ii a 17 Y (λh g=>by have:=bG.1 d h g;simp[gX]at this;omega);have:iC a<100000000000000000:=e;unfold uP;rw[Ij,ak Y,f];simp only[wrap64];omega
def Mf{a:Nat}(b:48<=a/\a<=57):gX a=CD:=by simp[gX];omega
def PT.front{d:List Nat}{k:Int}{e b a:Nat}(h:PT d k e b 0)(i:48<=a/\a<=57):PT (d++[a]) (uP k a) (e+1) b 0:=by
 rcases h with⟨l,m,f,c,g⟩|⟨n,o,l,m,f,c,g,p,q⟩
 ·refine C1 ⟨rfl,eS,f,by rw[List.all_append,c];simp[Mf i],λj=>?_⟩;rw[ab,dU]at j;exact Ln j c i (g Y)
 ·omega
def PT.back{f:List Nat}{m:Int}{g b a e:Nat}(h:PT f m g b e)(s:e≠0)(l:48<=a/\a<=57):PT (f++[a]) (uP m a) g (b+1) e:=by
 rcases h with⟨i,c,j,k,p⟩|⟨n,o,i,c,j,k,p,d,q⟩;·omega
 ·refine C2 ⟨n,o++[a],by rw[i];simp,c,j,k,eS,λh=>⟨by rw[List.all_append,(d h).1];simp[Mf l],λr=>?_⟩,λh=>by simp[q h]⟩;rw[ab,dU]at r;rw[<-au];exact Ln (by rw[ab];omega) (by rw[List.all_append,c,(d h).1];rfl) l ((d h).2 Y)
def PT.none_{g:List Nat}{o:Int}{a b c:Nat}(h:PT (gA g).2 o a b c)(m:¬(c=1/\a<=9/\b<=9/\1<=a+b)):kf g=N:=by
 rcases h with⟨d,e,i,f,j⟩|⟨p,q,d,e,i,f,j,u,k⟩
 ·refine wj (λh=>?_);have:=bG.1 f 46 h;cases this
 ·rw[qE d e,aj];rintro⟨l,r,s,t⟩;by_cases n:c=1;·exact m ⟨n,Y,Y,Y⟩
  ·have:=bG.1 l 46 (k Y);cases this
def sJ(d:List Nat)(e b:Nat):Prop:=∃c a k,kf d=O (if(gA d).1=[45]then -(iC (c++iB (a++DJ k 48)):Int)else(iC (c++iB (a++DJ k 48)):Int),(iB (a++DJ k 48)).length)/\e=iC (c++a)/\b=G a/\e<1000000000000000000/\a.all gX=CD
def PT.trim{j:List Nat}{m:Int}{c b l:Nat}(h:PT (gA j).2 m c b l)(s:l=1/\c<=9/\b<=9/\1<=c+b):∃k:Nat,m=(k:Nat)/\sJ j k b:=by
 rcases h with⟨i,d,o,p,q⟩|⟨f,g,i,d,o,p,q,r,u⟩;·omega
 ·obtain⟨e,t⟩:=r s.1;refine⟨_,t Y,f,g,0,?_,rfl,Y,?_,e⟩;·rw[qE i d,ak ⟨e,Y,Y,Y⟩];simp
  ·exact Ii (f++g) 18 (by rw[ab];omega) (λn a=>by
    rcases aZ.1 a with a|a;·have:=bG.1 d n a;simp[gX]at this;omega
    ·have:=bG.1 e n a;simp[gX]at this;omega)
def TJ(a:List Nat)(k:Nat):iB (a++DJ k 48)=iB a:=by
 unfold iB;rw[List.reverse_append,List.reverse_replicate];congr 1;induction k with
 |zero=>rfl
 |succ k b=>rw[eI,bH,dT];exact b
def sJ.go{i:List Nat}{e b:Nat}(h:sJ i e b)(r:0<b)(s:e%10=0):sJ i (e/10) (b-1):=by obtain⟨j,a,k,g,n,c,q,d⟩:=h;obtain⟨a,f,rfl⟩:∃l f,a=l++[f]:=⟨a.dropLast,a.getLast (by intro m;rw[m]at c;simp at c;omega),(List.dropLast_concat_getLast _).s⟩;rw[List.all_append,a_]at d;have p:=d.2;simp[gX]at p;rw[<-au,Ij]at n;have o:f=48:=Y;subst o;rw[au,List.singleton_append,<-eI]at g;exact⟨j,a,k+1,g,Y,by simp at c;omega,Y,d.1⟩
def sJ.stop{e:List Nat}{c b:Nat}(h:sJ e c b)(l:¬(0<b/\c%10=0)):kf e=O (if(gA e).1=[45]then -(c:Int)else(c:Int),b):=by
 obtain⟨n,d,k,j,f,g,o,p⟩:=h;have m:iB (d++DJ k 48)=d:=by
  rw[TJ];obtain⟨i,a,q⟩:=rN d;cases i with
  |zero=>rw[List.replicate_zero,bP]at a;exact a.s
  |succ i=>exfalso;apply l;rw[List.replicate_succ',<-au]at a;refine⟨by rw[g,a];simp;omega,?_⟩;rw[f,a,<-au,Ij];omega
 rw[j,m,f,g]
def SL(e:ByteArray)(hT:e.size<=200001):wh DG 284 #[y7 e] w (qB (bl e) w):=by
 have hl:=mC e;obtain⟨i,hs⟩:∃i,bl e=i:=⟨_,rfl⟩;rw[hs];have HL:=H hl;have D:=H hs;have e0:(e.toList==[])=decide (i=[]):=by rw[<-hs];rw[dI,cH,beq_iff_eq,cL];unfold bl;exact List.map_eq_nil_iff.s
 have S:wt (∀(b:Nat) (n:List Nat),i=b::n->0<e.size/\∀h:0<e.size,(e[0]'h).toNat=b/\b<256/\bl (e.extract 1 e.size)=n):=λb n X=>by
  have t:0<e.size:=by rw[<-HL.o,D.o,X];simp
  refine⟨t,λh=>?_⟩;have u:=rT e 0 t;have K:=lJ e 0 t;rw[D.o,X]at u K;exact⟨u,K,by rw[Cl,D.o,X];rfl⟩
 go_in
 go_upto_region 1 with fail
 go_cut [5]from 11 (λmv x=>mv=Bs (decide ((gA i).1=[45]))/\x=w)
 case first=>
  cases i with
  |nil=>
   simp only[decide_true]at e0;go_wp2
   go_meet
   case rel=>exact⟨rfl,rfl⟩
  |cons b n=>
   have e0:(e.toList==[])=CS:=by rw[e0];rfl
   obtain⟨t,z⟩:=S.o b n rfl;obtain⟨u,K,_⟩:=z t;by_cases q:b=45
   ·have p:((b:Int)==45)=CD:=eS;have m:wt (decide ((gA (b::n)).1=[45])=CD):=by unfold Hid;simp[gA,q]
    go_wp2
    go_meet
    case rel=>exact⟨by rw[m.o],rfl⟩
   ·have p:((b:Int)==45)=CS:=eS;have m:wt (decide ((gA (b::n)).1=[45])=CS):=by unfold Hid;simp only[gA];split<;>simp[q]
    go_wp2
    go_meet
    case rel=>exact⟨by rw[m.o],rfl⟩
 case rest=>
 obtain⟨rfl,rfl⟩:=hcut;generalize A:decide ((gA i).1=[45])=mb;have a1:=H A
 go_upto_region 2 with fail
 go_cut [29]from 11 (λmv x=>mv=Bs (decide ((gA i).1≠[]))/\x=wc)
 case first=>
  cases i with
  |nil=>
   simp only[decide_true]at e0;go_wp2
   go_meet
   case rel=>exact⟨rfl,rfl⟩
  |cons b n=>
   have e0:(e.toList==[])=CS:=by rw[e0];rfl
   obtain⟨t,z⟩:=S.o b n rfl;obtain⟨u,K,_⟩:=z t;by_cases q:b=45
   ·have p:((b:Int)==45)=CD:=eS;have m:wt (decide ((gA (b::n)).1≠[])=CD):=by unfold Hid;simp[gA,q]
    go_wp2
    go_meet
    case rel=>exact⟨by rw[m.o],rfl⟩
   ·have p:((b:Int)==45)=CS:=eS;by_cases aa:b=43
    ·have v:((b:Int)==43)=CD:=eS;have m:wt (decide ((gA (b::n)).1≠[])=CD):=by unfold Hid;simp[gA,aa]
     go_wp2
     go_meet
     case rel=>exact⟨by rw[m.o],rfl⟩
    ·have v:((b:Int)==43)=CS:=eS;have m:wt (decide ((gA (b::n)).1≠[])=CS):=by unfold Hid;simp[gA,q,aa]
     go_wp2
     go_meet
     case rel=>exact⟨by rw[m.o],rfl⟩
 case rest=>
 obtain⟨rfl,rfl⟩:=hcut;generalize a8:decide ((gA i).1≠[])=nb;have P:=H a8
 go_upto_if 29 with fail
 go_cut [0]from 11 (λsv x=>∃W:ByteArray,sv=y7 W/\W.size<=200001/\wt (bl W=(gA i).2)/\x=wc)
 case first=>
  by_cases B:(gA i).1=[]
  ·have m:wt (bl e=(gA i).2):=by
    unfold Hid;rw[D.o];cases i with
    |nil=>rfl
    |cons b n=>
     by_cases h:b=43\/b=45;·simp[gA,h]at B
     ·simp[gA,h]
   have p:nb=CS:=by rw[<-P.o];simp[B]
   subst p;go_wp2
   go_meet
   case rel=>exact⟨e,rfl,hT,m,rfl⟩
  ·have p:nb=CD:=by rw[<-P.o];simp[B]
   clear P;subst p;cases i with
   |nil=>exact absurd rfl B
   |cons b n=>
    obtain⟨t,z⟩:=S.o b n rfl;obtain⟨_,_,h3⟩:=z t;have m:wt (bl (e.extract 1 e.size)=(gA (b::n)).2):=by
     unfold Hid;rw[h3];by_cases h:b=43\/b=45;·simp[gA,h]
     ·simp[gA,h]at B
    have bc:(1:Int)<=e.size:=Y;have HZ:wt ((e.extract 1 e.size).size<=200001):=by unfold Hid;rw[ByteArray.size_extract];omega
    clear B z h3;go_wp2
    go_meet
    case rel=>exact⟨_,rfl,HZ,m,rfl⟩
 case rest=>
 obtain⟨f,rfl,hU,HU,rfl⟩:=hcut;clear S D HL e0 hT P;have ba:=mC f;go_wp2_with fail;go_loopw [6,7,8,9,10] (λnv fv J pv iv wr=>∃(j:Int) (d b c a:Nat),nv=I U j/\fv=I U (d:Nat)/\J=I U (b:Nat)/\pv=I U (c:Nat)/\iv=I U (a:Nat)/\a<=f.size/\d+b+c=a/\wr=wc/\wt (PT ((bl f).take a) j d b c)) (λ_ _ _ _ iv _=>f.size-(intOf iv).toNat)
 case atStart=>exact⟨0,0,0,0,0,rfl,rfl,rfl,rfl,rfl,Y,Y,rfl,PT.start⟩
 case round=>
  obtain⟨j,d,b,c,a,rfl,rfl,rfl,rfl,rfl,hi,a9,rfl,r⟩:=hrel;rcases aC hi with he|al
  ·have a6:¬(a:Int)<f.size:=Y;have m:wt ((bl f).take a=(gA i).2):=by unfold Hid;rw[aP Y,HU.o]
   rw[m.o]at r;clear he ba;by_cases L:c=1/\d<=9/\b<=9/\1<=d+b
   ·obtain⟨l,rfl,ao⟩:=r.o.trim L;have F:=H ao;have p:((c:Int) != 1)=CS:=eS;have v:decide ((9:Int)<(d:Int))=CS:=eS;have V:decide ((9:Int)<(b:Int))=CS:=eS;have t4:(wrap64 ((d:Int)+(b:Int))==0)=CS:=by simp only[wrap64];simp;omega
    have ad:b<=9:=L.2.2.1;clear L ao r m a9;generalize wr=W0 at *;go_wp2_with fail;go_loopw [6,8] (λnv J wr=>∃(l b:Nat),nv=I U (l:Nat)/\J=I U (b:Nat)/\b<=9/\wr=W0/\wt (sJ i l b)) (λ_ J _=>(intOf J).toNat)
    case atStart=>exact⟨l,b,rfl,rfl,ad,rfl,F⟩
    case round=>
     obtain⟨l,b,rfl,rfl,ad,rfl,F⟩:=hrel;have bh:l<1000000000000000000:=by obtain⟨_,_,_,_,_,_,h,_⟩:=F.o;exact h
     have a7:((l:Int)).tmod 10=((l%10:Nat):Int):=by rw[cM Y];omega
     have a5:((l:Int)).tdiv 10=((l/10:Nat):Int):=by rw[Int.tdiv_eq_ediv_of_nonneg Y];omega
     by_cases y:0<b/\l%10=0
     ·have a3:=H (F.go y.1 y.2);have p:decide ((0:Int)<(b:Int))=CD:=eS;have v:(((l%10:Nat):Int)==0)=CD:=eS;have a0:=H (show(b:Int)-1=((b-1:Nat):Int)by omega);have a4:=y.1;clear y;have bm:l/10<1000000000000000000:=Y;generalize l%10=nm at *;generalize l/10=nd at *;go_wp2;go_roundw
      case rel=>exact⟨nd,b-1,rfl,by rw[<-a0.o],Y,trivial,a3⟩
      case measure=>exact eT
     ·have R:=H (F.stop y);have A:=a1.o
      go_upto_region 22 with fail
      go_cut [101]from 95 to 105 (λtv x=>tv=Bs CS/\x=wr)
      case first=>
       by_cases a4:0<b
       ·have p:decide ((0:Int)<(b:Int))=CD:=eS;have v:(((l%10:Nat):Int)==0)=CS:=eS;clear y;generalize l%10=nm at *;go_wp2
        go_meet
        case rel=>exact⟨rfl,rfl⟩
       ·have p:decide ((0:Int)<(b:Int))=CS:=eS;clear y;go_wp2
        go_meet
        case rel=>exact⟨rfl,rfl⟩
      case rest=>
       obtain⟨rfl,rfl⟩:=hcut;clear y a7 a5;cases mb with
       |true=>
        have q:(gA i).1=[45]:=by simpa using A
        rw[ak q]at R;clear A q;go_wp2
        go_ret3
        exact qB.yes R rfl rfl
       |false=>
        have q:¬(gA i).1=[45]:=by simpa using A
        rw[aj q]at R;clear A q;go_wp2
        go_ret3
        exact qB.yes R rfl rfl
   ·have Q:=H (r.none_ L)
    go_upto_region 20 with fail
    go_cut [94]from 11 (λtv x=>tv=Bs CD/\x=wr)
    case first=>
     by_cases u:c=1
     ·have p:((c:Int) != 1)=CS:=eS;by_cases K:9<d
      ·have v:decide ((9:Int)<(d:Int))=CD:=eS;clear u;go_wp2
       go_meet
       case rel=>exact⟨rfl,rfl⟩
      ·have v:decide ((9:Int)<(d:Int))=CS:=eS;by_cases h3:9<b
       ·have V:decide ((9:Int)<(b:Int))=CD:=eS;clear u;go_wp2
        go_meet
        case rel=>exact⟨rfl,rfl⟩
       ·have V:decide ((9:Int)<(b:Int))=CS:=eS;have t4:(wrap64 ((d:Int)+(b:Int))==0)=CD:=by simp only[wrap64];simp;omega
        have T4:=H (show((d:Int)+(b:Int)==0)=CD by simp;omega);clear u L;go_wp2
        go_meet
        case rel=>exact⟨by rw[T4.o],rfl⟩
     ·have p:((c:Int) != 1)=CD:=eS;clear u;go_wp2
      go_meet
      case rel=>exact⟨rfl,rfl⟩
    case rest=>
     obtain⟨rfl,rfl⟩:=hcut;go_wp2
     go_ret3
     exact qB.no Q
  ·have a6:(a:Int)<f.size:=Y;have z:=rT f a al;have bf:=lJ f a al;have E:=H (N0 (l:=bl f) (k:=a) Y);have a2:wt (nth (bl f) a∈bl f):=by unfold Hid;rw[show nth (bl f) a=(bl f)[a]'Y by simp[nth,show a<(bl f).length by omega]];exact cI _
   generalize nth (bl f) a=g at *;by_cases ac:g=46
   ·have p:((g:Int)==46)=CD:=eS;have bb:((g:Int) != 46)=CS:=eS;have s:wt (PT ((bl f).take (a+1)) j d b (c+1)):=by unfold Hid;rw[E.o,ac];exact r.point
    go_wp2;go_roundw
    case rel=>exact⟨j,d,b,c+1,a+1,rfl,rfl,rfl,rfl,rfl,Y,Y,trivial,s⟩
    case measure=>exact eT
   ·have p:((g:Int)==46)=CS:=eS;have bb:((g:Int) != 46)=CD:=eS;by_cases T:48<=g/\g<=57
    ·have v:decide ((g:Int)<48)=CS:=eS;have V:decide ((57:Int)<(g:Int))=CS:=eS;have br:IntKind.u8.wrap ((g:Int)-48)=(g:Int)-48:=by rw[cA];omega
     by_cases hv:j<1152921504606846976
     ·have t4:decide (j<1152921504606846976)=CD:=eS;have C:wt (uP j g=wrap64 (wrap64 (10*j)+((g:Int)-48))):=by unfold Hid uP;rw[ak hv]
      by_cases M:c=0
      ·have t5:((c:Int)==0)=CD:=eS;have s:wt (PT ((bl f).take (a+1)) (wrap64 (wrap64 (10*j)+((g:Int)-48))) (d+1) b c):=by unfold Hid;rw[E.o,<-C.o];subst M;exact r.front T
       go_wp2;go_roundw
       case rel=>exact⟨_,d+1,b,c,a+1,rfl,rfl,rfl,rfl,rfl,Y,Y,trivial,s⟩
       case measure=>exact eT
      ·have t5:((c:Int)==0)=CS:=eS;have s:wt (PT ((bl f).take (a+1)) (wrap64 (wrap64 (10*j)+((g:Int)-48))) d (b+1) c):=by unfold Hid;rw[E.o,<-C.o];exact r.back M T
       go_wp2;go_roundw
       case rel=>exact⟨_,d,b+1,c,a+1,rfl,rfl,rfl,rfl,rfl,Y,Y,trivial,s⟩
       case measure=>exact eT
     ·have t4:decide (j<1152921504606846976)=CS:=eS;have C:wt (uP j g=j):=by unfold Hid uP;rw[aj hv]
      by_cases M:c=0
      ·have t5:((c:Int)==0)=CD:=eS;have s:wt (PT ((bl f).take (a+1)) j (d+1) b c):=by
        have:PT ((bl f).take (a+1)) (uP j g) (d+1) b c:=by rw[E.o];subst M;exact r.front T
        rw[C.o]at this;exact this
       go_wp2;go_roundw
       case rel=>exact⟨_,d+1,b,c,a+1,rfl,rfl,rfl,rfl,rfl,Y,Y,trivial,s⟩
       case measure=>exact eT
      ·have t5:((c:Int)==0)=CS:=eS;have s:wt (PT ((bl f).take (a+1)) j d (b+1) c):=by
        have:PT ((bl f).take (a+1)) (uP j g) d (b+1) c:=by rw[E.o];exact r.back M T
        rw[C.o]at this;exact this
       go_wp2;go_roundw
       case rel=>exact⟨_,d,b+1,c,a+1,rfl,rfl,rfl,rfl,rfl,Y,Y,trivial,s⟩
       case measure=>exact eT
    ·have Q:wt (kf i=N):=by have hm:=a2.o;rw[HU.o]at hm;exact wY hm (by cases hh:gX g with|false=>rfl|true=>simp[gX]at hh;omega) ac
     by_cases bd:g<48
     ·have v:decide ((g:Int)<48)=CD:=eS;go_wp2
      go_ret3
      exact qB.no Q
     ·have v:decide ((g:Int)<48)=CS:=eS;have V:decide ((57:Int)<(g:Int))=CD:=eS;go_wp2
      go_ret3
      exact qB.no Q
end
section
variable{d:Nat}{S:ByteArray}{w w':vz}{p:Nat}{s:Option (List Nat)}
def lW(s:Option (List Nat)):List Nat:=(s.map gI).getD []
def oO(s:Option (List Nat)):Option (List Nat):=s.map gE
def uj(c b:Nat)(a r:List Nat):Prop:=∃pre,c+G pre=b/\a=pre++r/\a.takeWhile pB=pre++r.takeWhile pB/\a.dropWhile pB=r.dropWhile pB
def uj.next{e c b:Nat}{f r:List Nat}(h:uj e c f (b::r))(a:pB b=CD):uj e (c+1) f r:=by obtain⟨pre,k,g,i,j⟩:=h;exact⟨pre++[b],eS,by simp[g],by rw[i,dJ,a];simp,by rw[j,dT,a];simp⟩
def Fz(h:Sn d S w p s):wh DG 124 #[A3 (O ⟨d,0,N⟩)] w λl w'=>l=BX (y7 (gj (lW s)))/\kJ d S w w' (oO s):=by
 have K:=H (D3 h)
 go_in
 go_wp2_with fail;apply K.o.m;rintro l w1 ⟨rfl,⟨i,m⟩,W⟩;have R:=m.c1;have n:=H m;have lp:=m.lp;have A:=H W;cases s with
 |none=>
  have k:=H (Fx n);have Q:=n.o.c0;go_wp2_with fail;go_loopw [] (λwr=>wr=w1) (λwr=>0)
  case atStart=>rfl
  case round=>
   subst hrel;go_wp2_with fail;apply k.o.m;rintro l D ⟨rfl,a,rfl⟩;simp only[pS,Option.map_none];have e0:(wr.drewN a).cell? ⟨d,0,N⟩=O (y7 S):=Q;have e1:(wr.drewN a).cell? ⟨d,1,N⟩=O (I U i):=R;obtain⟨t,j⟩:∃t,wr.drewN a=t:=⟨_,rfl⟩;rw[j]at e0 e1;rw[j];have v:=H j;have V:(i:Int)<=S.size:=Y;go_wp2_with fail;go_quiet (fail);go_wp2;go_ret;refine⟨?_,⟨⟨i,?_⟩,?_⟩⟩;·rfl
   ·rw[<-v.o];exact(n.drewN a).drewN nq
   ·rw[<-v.o];exact((A.drewN a).drewN nq)
 |some r=>
  go_wp2_with fail;go_loopw [] (λwr=>∃(e:Nat) (c:List Nat),wt (Sn d S wr e (O c))/\wt (uj i e (gq r) c)/\wt (iJ d w wr)) (λwr=>S.size-posOf d wr)
  case atStart=>exact⟨i,gq r,n,⟨[],rfl,rfl,rfl,rfl⟩,A⟩
  case round=>
   obtain⟨e,c,g,q,y⟩:=hrel;have k:=H (Fx g);have F:=H g.posOf;have hq:=g.o.lp;cases f:pS (O c)with
   |true=>
    rw[f]at k;match c,g,q,f with
    | [],_,_,f=>cases f
    |b::c,g,q,f=>
    go_wp2_with fail;apply k.o.m;rintro l D ⟨rfl,a,rfl⟩;have L:=H (yI (g.drewN a));have z:=H g.cons.1;go_wp2_with fail;apply L.o.m;rintro l w3 ⟨rfl,u,X⟩;have J:=H u.posOf;have E:=H u;have P:=H ((y.drewN a).t X);have M:wt (uj i (min (e+1) S.size) (gq r) c):=by have:=z.o;unfold Hid;rw[show min (e+1) S.size=e+1 by omega];exact q.next f
    go_wp2;go_roundw
    case rel=>exact⟨_,_,E,M,P⟩
    case measure=>have:=z.o;rw[J.o,F.o];omega
   |false=>
    rw[f]at k;have e0:=g.o.c0;have e1:=g.o.c1;go_wp2_with fail;apply k.o.m;rintro l D ⟨rfl,a,rfl⟩;have e0:(wr.drewN a).cell? ⟨d,0,N⟩=O (y7 S):=e0;have e1:(wr.drewN a).cell? ⟨d,1,N⟩=O (I U e):=e1;obtain⟨t,j⟩:∃t,wr.drewN a=t:=⟨_,rfl⟩;rw[j]at e0 e1;rw[j];have v:=H j;have x:wt (S.extract i e=gj (lW (O r))/\O c=oO (O r)):=by
     obtain⟨pre,m,T,u,B⟩:=q.o;have C:c.takeWhile pB=[]/\c.dropWhile pB=c:=by
      match c,f with
      | [],_=>exact⟨rfl,rfl⟩
      |b::c,f=>exact⟨by rw[dJ,show pB b=CS from f];rfl,by rw[dT,show pB b=CS from f];rfl⟩
     rw[C.1,bP]at u;rw[C.2]at B;refine⟨?_,?_⟩
     ·rw[<-yN (S.extract i e),<-m,bp S i (G pre) Y,n.o.rest _ rfl,T,List.take_left];simp only[lW,bK,Option.getD_some,gI,u]
     ·simp only[oO,bK,gE,B]
    have aa:(i:Int)<=e:=by obtain⟨pre,m,_⟩:=q.o;omega
    have V:(e:Int)<=S.size:=Y;go_wp2_with fail;go_quiet (fail);go_wp2;go_ret;refine⟨?_,?_⟩;·rw[<-x.o.1];rfl
    ·rw[<-x.o.2,<-v.o];exact⟨⟨e,(g.drewN a).drewN nq⟩,(y.drewN a).drewN nq⟩
def Fw(h:Sn d S w p s)(b:ByteArray)(u:b.size<=1000000):wh DG 170 #[A3 (O ⟨d,0,N⟩),y7 b] w λa w'=>a=BX (BG #[])/\kJ d S w w' (if lW s=bl b then oO s else N):=by
 have f:=H (Fz h);have j:wt (∀g∈lW s,g<256):=λg i=>by
  cases s with
  |none=>cases i
  |some r=>
   have c:=fP pB |>.subset i
   exact h.bytes g ((Kg r).subset c)
 have e1:((gj (lW s)).toList==b.toList)=decide (lW s=bl b):=by rw[tQ,bO];exact⟨λa=>Nu j (Lb b) (a.t (yN b).s),λa=>by rw[a,yN]⟩
 generalize gj (lW s)=t at f e1;by_cases e:lW s=bl b
 ·rw[ak e];rw[aH e]at e1
  go_in
  go_wp2_with fail;apply f.o.m;rintro a q ⟨rfl,c⟩;go_wp2
  go_end0
  exact⟨rfl,c⟩
 ·rw[aj e];rw[av e]at e1
  go_in
  go_wp2_with fail;apply f.o.m;rintro a q ⟨rfl,⟨v,c⟩,m⟩;have k:=H (tZ c);go_wp2_with fail;apply k.o.m;rintro a x ⟨rfl,l,n⟩;go_wp2
  go_end0
  exact⟨rfl,⟨_,l⟩,m.t n⟩
def two:List Nat->Option (Nat×List Nat)
 |c::e::r=>match iG c,iG e with
  |some a,O b=>O (16*a+b,r)
  |_,_=>N
 |_=>N
def vv(d:Nat)(S:ByteArray)(c:Option (Nat×List Nat))(w:vz)(b:xc)(w':vz):Prop:=match c with
 |some (a,e)=>b=BX (I U (a:Nat))/\kJ d S w w' (O e)
 |none=>(∃a:Int,b=BX (I U a) /\ -1000<=a/\a<=1000)/\kJ d S w w' N
def J_(a:Nat):oS (a:Int)=match iG a with|some b=>(b:Nat)|none=> -1:=by
 unfold oS iG;repeat' split
 all_goals first|rfl|omega|(simp_all;omega)|simp_all
def Gm(s:Option (List Nat)) : -1<=kG s:=by unfold kG;split<;>omega
def Rq{r:List Nat}(h:∀a∈r,a<256):kG (O r)<256:=by
 cases r with
 |nil=>decide
 |cons b c=>have:=h b cO;show(b:Int)<256;omega
def Sn.now(h:Sn d S w p s):kG s<256:=by
 cases s with
 |none=>decide
 |some r=>exact Rq h.bytes
def EQ(s:Option (List Nat)):match s.bind two with
  |some (a,g)=>0<=oS (kG s)/\0<=oS (kG (s.map List.tail))/\16*oS (kG s)+oS (kG (s.map List.tail))=(a:Nat)/\(s.map List.tail).map List.tail=O g/\a<256
  |none=>oS (kG s)<0\/oS (kG (s.map List.tail))<0:=by
 match s with
 |none=>exact C1 bF
 |some []=>exact C1 bF
 |some [c]=>exact C2 (by show oS (-1)<0;decide)
 |some (c::h::r)=>
  simp only[Option.bind_some,bK,List.tail_cons,kG,two,J_];cases e:iG c with
  |none=>exact C1 cO
  |some i=>
   cases f:iG h with
   |none=>exact C2 cO
   |some b=>have:=yG e;have:=yG f;exact⟨cO,cO,cO,rfl,Y⟩
def Nx{a:Int}(g : -1<=a)(h:a<256) : -1<=oS a/\oS a<=15:=by
 rcases Int.lt_or_le a 0 with b|b
 ·have:a = -1:=Y;subst this;decide
 ·obtain⟨e,rfl⟩:=Int.eq_ofNat_of_zero_le b;rw[J_];cases c:iG e with
  |none=>simp
  |some f=>have:=yG c;simp;omega
def vv.none_{b:Option (Nat×List Nat)}{a:Int}(h:b=N)(c : -1000<=a/\a<=1000)(k:kJ d S w w' N):vv d S b w (BX (I U a)) w':=by subst h;exact⟨⟨a,rfl,c⟩,k⟩
def RC(h:Sn d S w p s):wh DG 282 #[A3 (O ⟨d,0,N⟩)] w (vv d S (s.bind two) w):=by
 have i:=H (EQ s);have D:=H (xg h);have B:=H h;have k:=h.now;have u:=Gm s;have ac:=Nx u k;have T:=BI (kG s) u k;generalize kG s=L at *
 go_in
 go_wp2_with fail;apply D.o.m;rintro c w1 ⟨rfl,y,rfl⟩;go_wp2_with fail;apply(T _).m;rintro c w' ⟨rfl,rfl⟩;have F:=H (yI (B.drewN y));go_wp2_with fail;apply F.o.m;rintro c w2 ⟨rfl,q,W⟩;have E:=H (xg q);have x:=q.now;have v:=Gm (s.map List.tail);have ad:=Nx v x;have V:=BI (kG (s.map List.tail)) v x;have C:=H q;have K:=H (((iJ.refl d w).drewN y).t W);generalize kG (s.map List.tail)=M at *;go_wp2_with fail;apply E.o.m;rintro c w3 ⟨rfl,z,rfl⟩;go_wp2_with fail;apply(V _).m;rintro c w' ⟨rfl,rfl⟩;have J:=H (yI (C.drewN z));go_wp2_with fail;apply J.o.m;rintro c w4 ⟨rfl,P,X⟩;have m:=H P;have j:=H ((K.drewN z).t X);generalize oS L=a at *;generalize oS M=b at *;cases l:s.bind two with
 |some aa=>obtain⟨a1,a2⟩:=aa;rw[l]at i;obtain⟨t,Q,k,R,al⟩:=i.o;rw[R]at m;have r:decide (a<0)=CS:=eS;have t2:decide (b<0)=CS:=eS;have e:=H l;go_wp2;go_ret;rw[e.o];refine⟨?_,⟨_,m⟩,j⟩;rw[<-k];rfl
 |none=>
  rw[l]at i;have n:=H (tZ m);have e:=H l;have ao:IntKind.i64.wrap (16*a)=16*a:=by rw[bu];omega
  have a0:IntKind.i64.wrap (16*a+b)=16*a+b:=by rw[bu];omega
  rcases i.o with t|Q
  ·have r:decide (a<0)=CD:=eS;go_wp2_with fail;apply n.o.m;rintro c A ⟨rfl,f,g⟩;go_wp2;go_ret;exact vv.none_ e ⟨Y,Y⟩ ⟨⟨_,f⟩,j.t g⟩
  ·have t2:decide (b<0)=CD:=eS;by_cases t:a<0
   ·have r:decide (a<0)=CD:=eS;go_wp2_with fail;apply n.o.m;rintro c A ⟨rfl,f,g⟩;go_wp2;go_ret;exact vv.none_ e ⟨Y,Y⟩ ⟨⟨_,f⟩,j.t g⟩
   ·have r:decide (a<0)=CS:=eS;go_wp2_with fail;apply n.o.m;rintro c A ⟨rfl,f,g⟩;go_wp2;go_ret;exact vv.none_ e ⟨Y,Y⟩ ⟨⟨_,f⟩,j.t g⟩
end
