import Derived.Test.YtgkljcmjnphpeaaGreatDoorK03
set_option linter.defProp false
set_option linter.unusedVariables false
set_option linter.unusedSimpArgs false
set_option maxHeartbeats 4000000
set_option maxRecDepth 100000
open List renaming length->G
open Go.Value renaming pointer->A3,tuple->BG,bool->Bs,int->I,string->y7
open Go.Ending renaming returned->BX
open Or renaming inl->C1,inr->C2
open Bool renaming true->CD,false->CS
open Go.Proofs.Tryz renaming prog->DG
open List renaming replicate->DJ
open Option renaming none->N,some->O
open Go.IntKind renaming i64->U
open Go renaming World->vz,Value->wg,Calls->wh,Ending->xc
open Go.RowKit renaming Below->wm,Hid->wt
open Go.Proofs.Tryz
namespace Go.Proofs.YtgkljcmjnphpeaaGreatDoor
open Go.RowKit
section
variable{w d:vz}{B c:Nat}{j i:wg}{a f:List Nat}
def pR.low{e:Nat}(h:pR e w)(b:wm e w d):pR e d:=by refine⟨?_,h.lp⟩;have:=h.pow;unfold Lib.TabIs World.var? at this ⊢;rw[Tryz.gPow]at this ⊢;simp only[Option.bind_some]at this ⊢;rw[b.block _ h.lp];exact this
def pR.outk{e:Nat}(h:pR e w)(m:e<=B)(l:jg B c w j i a f)(k:iP B c w d):pR e d:=by have b:=Kept.below k.toKept l.bw (λn g=>by simp at g;subst g;exact l.hb);exact h.low (b.m m)
def kB(e b:Nat):List Nat:=(iD (b+1) e).take ((iD (b+1) e).length-b)++(46::(iD (b+1) e).drop ((iD (b+1) e).length-b))++(if b=0 then[48]else[])
def jQ(b:Int)(e:Nat):List Nat:=if b<0 then 45::kB b.natAbs e else kB b.toNat e
def oL(k n:Nat)(h:n<10^10)(b:k<=10):k<=(iD k n).length/\(iD k n).length<=10:=by unfold iD;have:=xe 9 n h;rw[ab,bj];omega
def AB(b e:Nat)(h:b<10^10)(k:e<=5):(kB b e).length<=12:=by unfold kB;have g:=oL (e+1) b h Y;simp only[ab,ai,ax,aU];split<;>simp<;>omega
def Kz{s:Nat}(he:pR s w)(hE:s<=w.heap.size)(a7:s<=B)(h:jg B c w j i a f)(m:Int)(g:Nat)(bw : -999999999<=m)(bx:m<=999999999)(hp:g<=5)(bt:G a+40<=500000000):wh DG 181 #[A3 (O ⟨c,0,N⟩),I U m,I U g] w λu d=>u=BX (BG #[])/\∃bc,jg B c d bc i (a++jQ m g) f/\iP B c w d:=by
 obtain⟨n,hm⟩:∃n,m.natAbs=n:=⟨_,rfl⟩;have bv:n<=999999999:=Y;have a2:wt (∀t,iP B c w t->pR s t->s<=t.heap.size->wh DG 133 #[I U n,I U ((g+1:Nat):Int)] t λu d=>∃e,u=BX (y7 e)/\bl e=iD (g+1) n/\wm t.heap.size t d):=λt _ A h2=>M0 A h2 n (g+1) Y Y;have J:=H h;have L:=H (And.intro he hE);have b6:IntKind.i64.wrap ((g:Int)+1)=((g+1:Nat):Int):=by rw[bu];omega
 obtain⟨br,bs⟩:=oL (g+1) n Y Y;have ad:wt (∀e,bl e=iD (g+1) n->bl (e.extract 0 (e.size-g))++(46::bl (e.extract (e.size-g) e.size))++(if g=0 then[48]else[])=kB n g):=λe k=>by
  have W:e.size=(iD (g+1) n).length:=by rw[<-k,mC]
  have e1:bl (e.extract 0 (e.size-g))=(bl e).take (e.size-g):=by have:=bp e 0 (e.size-g) Y;rw[bZ,fX]at this;exact this
  rw[e1,Cl,k,W];rfl
 have a5:wt (jQ m g=(if m<0 then[45]else[])++kB n g):=by
  unfold Hid jQ;by_cases r:m<0;·rw[ak r,ak r,hm];rfl
  ·rw[aj r,aj r,show m.toNat=n by omega];rfl
 generalize jQ m g=T at *;generalize kB n g=WA at *;generalize iD (g+1) n=a6 at *;clear he h
 go_in
 go_upto_if 9 with fail
 go_cut [1]from 8 (λnv F=>∃(bm:wg),nv=I U n/\wt (jg B c F bm i (a++(if m<0 then[45]else[])) f)/\wt (iP B c w F)/\wt (pR s F/\s<=F.heap.size))
 case first=>
  by_cases r:m<0
  ·have t0:decide (m<0)=CD:=by simpa using r
   have aa:=H (nP J {data:=#[45]} (by show _+1<=_;omega));have bz:IntKind.i64.wrap (-m)=(n:Int):=by rw[bu];omega
   have b0 : -m=(n:Int):=Y;have M:=H r;clear r;rw[t0];go_wp2_with fail;apply aa.o.m;rintro u E ⟨rfl,bd,A,D⟩;have K:=H A;have S:=H D;have ao:pR s E/\s<=E.heap.size:=⟨L.o.1.outk a7 J D,aJ L.2 D.size⟩;have z:=H ao;clear A D aa ao;go_wp2
   go_meet
   case rel=>exact⟨bd,rfl,by rw[ak M.o];exact K,S,z⟩
  ·have t0:decide (m<0)=CS:=by simpa using r
   have a8:m=(n:Int):=Y;have M:=H r;clear r;rw[t0];go_wp2
   go_meet
   case rel=>exact⟨j,by rw[<-a8],by rw[aj (by have:=M.o;omega),bP];exact J,iP.refl _ _ _,L⟩
 case rest=>
  obtain⟨v1,rfl,HH,HK,z⟩:=hcut;have a3:=H (a2 wc HK z.1 z.2);have b7:(a++(if m<0 then[45]else[])).length<=G a+1:=by rw[ab];split<;>simp
  have al:wt (a++T=(a++(if m<0 then[45]else[]))++WA):=by unfold Hid;rw[a5.o,au]
  generalize a++(if m<0 then[45]else[])=X at *;go_wp2_with fail;apply a3.o.m;rintro u E ⟨e,rfl,k,V⟩;have K:=H (HH.below V);have S:=H (HK.t (iP.of_below (b:=0) V));have Q:=H (ad e k);have W:e.size=G a6:=by rw[<-k,mC]
  obtain⟨q,a9⟩:∃q,e.size=q:=⟨_,rfl⟩;obtain⟨p,b3⟩:∃p,p+g=q:=⟨q-g,Y⟩;have b5:IntKind.i64.wrap ((q:Int)-(g:Int))=(p:Int):=by rw[bu];omega
  have b4:(q:Int)-(g:Int)=(p:Int):=Y;have b2:(p:Int)<=(q:Int):=Y;rw[a9,show q-g=p by omega]at Q;have b8:q<=10:=Y;clear V ad k W;go_wp2_with fail;have H2:=H (K.below (ar _ _).drew);have K2:=H (S.t (iP.of_below (b:=0) (ar _ _).drew));generalize a1:E.drew=w2 at H2 K2;have a4:=H a1;clear a1;refine AX (λ_ _=>True) aG ?_;rw[a4.o];intro l;have k:=H (show True from trivial);refine tj 0 l k λl k=>?_;refine tj 1 l k λl k=>?_;refine tj 2 l k λl k=>?_;refine tj 3 l k λl k=>?_;refine tj 4 l k λl k=>?_;refine tj 5 l k λl k=>?_;refine tj 6 l k λl k=>?_;refine on 7 l λR x=>?_;go_simp;refine x _ _ trivial (λv y=>?_);clear l k x R;have l:=v;have k:=y;clear v y
  (try simp only[lr])
  refine on 8 l λR x=>?_;go_simp;have ba:(e.extract 0 p).size<=10:=by rw[ByteArray.size_extract];omega
  have bb:(e.extract p q).size<=10:=by rw[ByteArray.size_extract];omega
  refine(AO H2 (e.extract 0 p) {data:=#[46]} (e.extract p q) (by show _+(_+(1+_))<=_;omega)).m ?_;rintro u w3 ⟨rfl,bf,h3,k3⟩;have H3:=H h3;have K3:=H (K2.t k3);clear h3 k3 ba bb;refine x _ _ trivial (λv y=>?_);clear l k x R;have l:=v;have k:=y;clear v y
  (try simp only[lr])
  refine uX aG ?_ _;clear l k;by_cases C:g=0
  ·have t1:((g:Int)==0)=CD:=eS;have a0:(X++(bl (e.extract 0 p)++(bl {data:=#[46]}++bl (e.extract p q)))).length+1<=500000000:=by simp only[ab,mC,ByteArray.size_extract];show _+(_+(1+_))+1<=_;omega
   have ac:=H (nP H3 {data:=#[48]} a0);have P:wt (X++(bl (e.extract 0 p)++(bl {data:=#[46]}++bl (e.extract p q)))++bl {data:=#[48]}=a++T):=by unfold Hid;rw[al.o,<-Q.o,ak C];simp[bl]
   clear C a0;go_wp2_with fail;apply ac.o.m;rintro u w4 ⟨rfl,bh,h4,k4⟩;have H4:=H h4;have K4:=H (K3.t k4);clear h4 k4 ac;go_wp2
   go_end0
   exact⟨rfl,bh,by rw[<-P.o];exact H4,K4⟩
  ·have t1:((g:Int)==0)=CS:=eS;have P:wt (X++(bl (e.extract 0 p)++(bl {data:=#[46]}++bl (e.extract p q)))=a++T):=by unfold Hid;rw[al.o,<-Q.o,aj C];simp[bl]
   clear C;go_wp2
   go_end0
   exact⟨rfl,bf,by rw[<-P.o];exact H3,K3⟩
end
section
variable{w d:vz}
def q9(l:List Nat)(n:Int)(b:Bool):Prop:=(b=CD↔l.all gX=CD/\1<=G l/\G l<=10)/\(b=CD->n=(iC l:Nat)) /\ -9223372036854775808<=n/\n<=9223372036854775807
def Ij(a:List Nat)(b:Nat):iC (a++[b])=10*iC a+(b-48):=by unfold iC;rw[List.foldl_append];rfl
def N0{l:List Nat}{k:Nat}(h:k<G l):l.take (k+1)=l.take k++[nth l k]:=by rw[cP,show nth l k=l[k]by simp[nth,h]];simp[h]
def Mv:∀(a:List Nat) (c:Nat),(∀e∈a,e<58)->a.foldl (λg b=>10*g+(b-48)) c<(c+1)*10^(G a)
 | [],c,_=>cO
 |b::a,c,h=>by have i:=Mv a (10*c+(b-48)) (λe f=>h e (by simp[f]));have j:=h b cO;have k:(10*c+(b-48)+1)*10^(G a)<=((c+1)*10)*10^(G a):=dx _ Y;rw[fj,ai,c_,dK (10^(G a)) 10,<-dS];omega
def Ii(a:List Nat)(k:Nat)(b:G a<=k)(h:∀c∈a,c<58):iC a<10^k:=by have e:=Mv a 0 h;have f:10^(G a)<=10^k:=aY Y b;unfold iC;omega
def wQ(l:List Nat)(w:vz)(c:xc)(d:vz):Prop:=(∃a b,c=BX (BG #[I U a,Bs b])/\q9 l a b)/\d=w
def wQ.mk{l:List Nat}{n:Int}{b:Bool}(h:q9 l n b):wQ l w (BX (BG #[I U n,Bs b])) w:=⟨⟨n,b,rfl,h⟩,rfl⟩
def q9.no{l:List Nat}{a:Int}(h:¬(l.all gX=CD/\1<=G l/\G l<=10))(b : -9223372036854775808<=a)(c:a<=9223372036854775807):q9 l a CS:=⟨⟨λh=>by simp at h,λe=>absurd e h⟩,λh=>by simp at h,b,c⟩
def q9.yes{l:List Nat}{a:Int}(h:l.all gX=CD/\1<=G l/\G l<=10)(e:a=(iC l:Nat))(b : -9223372036854775808<=a)(c:a<=9223372036854775807):q9 l a CD:=⟨⟨λ_=>h,λ_=>rfl⟩,λ_=>e,b,c⟩
def J0(a:ByteArray)(R:a.size<=300000):wh DG 317 #[y7 a] w (wQ (bl a) w):=by
 have m:=mC a
 go_in
 go_wp2;go_loopw [4,5] (λL t wr=>∃(g:Int) (b:Nat),L=I U g/\t=I U (b:Nat)/\b<=a.size /\ -9223372036854775808<=g/\g<=9223372036854775807/\wr=w/\wt (∀e∈(bl a).take b,gX e=CD)/\wt (b<=10->g=(iC ((bl a).take b):Nat))) (λ_ t _=>a.size-(intOf t).toNat)
 case atStart=>exact⟨0,0,rfl,rfl,Y,Y,Y,rfl,λe f=>by simp at f,λ_=>rfl⟩
 case round=>
  obtain⟨g,b,rfl,rfl,J,r,s,rfl,j,p⟩:=hrel;rcases aC J with F|q
  ·have q:¬(b:Int)<a.size:=Y;have D:wt ((bl a).take b=bl a):=by unfold Hid;rw[aP Y]
   rw[D.o]at j p;have z:wt ((bl a).all gX=CD):=by unfold Hid;rw[bG];exact j
   have i:=H m;clear F m;by_cases M:1<=a.size
   ·have n:decide ((1:Int)<=(a.size:Int))=CD:=eS;by_cases P:a.size<=10
    ·have u:decide ((a.size:Int)<=10)=CD:=eS;go_wp2
     go_ret2
     exact wQ.mk (.yes ⟨z,by rw[i.o];omega,by rw[i.o];omega⟩ (p Y) r s)
    ·have u:decide ((a.size:Int)<=10)=CS:=eS;go_wp2
     go_ret2
     exact wQ.mk (.no (λh=>by have:=h.2.2;rw[i.o]at this;omega) r s)
   ·have n:decide ((1:Int)<=(a.size:Int))=CS:=eS;go_wp2
    go_ret2
    exact wQ.mk (.no (λh=>by have:=h.2.1;rw[i.o]at this;omega) r s)
  ·have V:(b:Int)<a.size:=Y;have f:=rT a b q;have S:=lJ a b q;have x:=H (N0 (l:=bl a) (k:=b) Y);have B:wt (nth (bl a) b∈bl a):=by unfold Hid;rw[show nth (bl a) b=(bl a)[b]'Y by simp[nth,show b<(bl a).length by omega]];exact cI _
   have i:=H m;generalize nth (bl a) b=c at *;clear m;by_cases E:48<=c/\c<=57
   ·have n:decide ((c:Int)<48)=CS:=eS;have u:decide ((57:Int)<(c:Int))=CS:=eS;have W:IntKind.u8.wrap ((c:Int)-48)=(c:Int)-48:=by rw[cA];omega
    have A:wt (∀e∈(bl a).take (b+1),gX e=CD):=by
     unfold Hid;rw[x.o];intro e f;rcases aZ.1 f with h|h;·exact j e h
     ·rw[cZ]at h;subst h;simp[gX];omega
    have C:wt (b+1<=10->wrap64 (wrap64 (10*g)+((c:Int)-48))=(iC ((bl a).take (b+1)):Nat)):=λh=>by have K:=p.o Y;have T:=Ii ((bl a).take b) 9 mH (λe f=>by have:=j.o e f;simp[gX]at this;omega);rw[x.o,Ij,K];simp only[wrap64];omega
    have y:wt (∀e:Int,-9223372036854775808<=wrap64 e/\wrap64 e<=9223372036854775807):=λe=>by simp only[wrap64];omega
    clear E;go_wp2;go_roundw
    case rel=>exact⟨_,b+1,rfl,rfl,Y,(y _).1,(y _).2,trivial,A,C⟩
    case measure=>exact eT
   ·have v:wt (¬(bl a).all gX=CD):=λh=>by rw[bG]at h;have:=h c B;simp[gX]at this;omega
    by_cases Q:c<48
    ·have n:decide ((c:Int)<48)=CD:=eS;go_wp2
     go_ret2
     exact wQ.mk (.no (λh=>absurd h.1 v) Y Y)
    ·have n:decide ((c:Int)<48)=CS:=eS;have u:decide ((57:Int)<(c:Int))=CD:=eS;go_wp2
     go_ret2
     exact wQ.mk (.no (λh=>absurd h.1 v) Y Y)
def sI(l:List Nat)(w:vz)(a:xc)(d:vz):Prop:=(∃n b,a=BX (BG #[I U n,Bs b])/\WI l n b)/\d=w
def sI.mk{l:List Nat}{n:Int}{b:Bool}(h:WI l n b):sI l w (BX (BG #[I U n,Bs b])) w:=⟨⟨n,b,rfl,h⟩,rfl⟩
def q9.whole{l:List Nat}{n:Int}{b:Bool}(h:q9 (gA l).2 n b):WI l (if(gA l).1=[45]then wrap64 (-n)else n) b:=by
 obtain⟨g,p,s,t⟩:=h;unfold WI jZ na;by_cases a:b=CD
 ·obtain⟨c,f,j⟩:=g.1 a;have k:=p a;have u:=Ii (gA l).2 10 j (λr q=>by rw[bG]at c;have:=c r q;simp[gX]at this;omega)
  rw[ak ⟨f,j⟩,ak ⟨λo=>by rw[o]at f;simp at f,c⟩];refine⟨?_,a⟩;split;·rw[k];simp only[wrap64];omega
  ·exact k
 ·have i:b=CS:=by simpa using a
  by_cases e:1<=(gA l).2.length/\(gA l).2.length<=10
  ·rw[ak e,aj (λm=>a (g.2 ⟨m.2,e⟩))];exact i
  ·rw[aj e];exact i
def J2(a:ByteArray)(D:a.size<=200001):wh DG 283 #[y7 a] w (sI (bl a) w):=by
 have i:=mC a;cases c:bl a with
 |nil=>
  have n:a.size=0:=by rw[<-i,c];rfl
  have g:=H (J0 (w:=w) a Y);rw[c]at g;have e0:a.toList=[]:=by rw[dI];have v:(a.data.toList.map UInt8.toNat)=[]:=c;exact List.map_eq_nil_iff.1 v
  clear i c
  go_in
  go_wp2_with fail;apply g.o.m;rintro m r ⟨⟨e,b,rfl,f⟩,rfl⟩;go_wp2
  go_ret2
  exact sI.mk (q9.whole (l:=[]) f)
 |cons b j=>
  have n:0<a.size:=by rw[<-i,c];simp
  have z:=rT a 0 n;have x:=lJ a 0 n;have s:nth (bl a) 0=b:=by rw[c];rfl
  rw[s]at z x;have e0:(a.toList==[])=CS:=by
   rw[dI];cases y:a.data.toList with
   |nil=>
    have:a.size=0:=by rw[<-i];unfold bl;rw[y];rfl
    omega
   |cons E l=>rfl
  have t:bl (a.extract 1 a.size)=j:=by rw[Cl,c];rfl
  have g:=H (J0 (w:=w) a Y);have k:=H (J0 (w:=w) (a.extract 1 a.size) (by rw[ByteArray.size_extract];omega));rw[c]at g;rw[t]at k;have C:(1:Int)<=a.size:=Y;clear i c s t;by_cases q:b=45
  ·have A:((b:Int)==45)=CD:=eS
   go_in
   go_wp2_with fail;apply k.o.m;rintro m r ⟨⟨e,h,rfl,f⟩,rfl⟩;go_wp2
   go_ret2
   have:=q9.whole (l:=b::j) (n:=e) (b:=h) (by simp only[gA,ak (C2 q:b=43\/b=45)];exact f);simp only[gA,ak (C2 q:b=43\/b=45)]at this;rw[ak (by rw[q])]at this;exact sI.mk this
  ·have A:((b:Int)==45)=CS:=eS;by_cases p:b=43
   ·have B:((b:Int)==43)=CD:=eS
    go_in
    go_wp2_with fail;apply k.o.m;rintro m r ⟨⟨e,h,rfl,f⟩,rfl⟩;go_wp2
    go_ret2
    have:=q9.whole (l:=b::j) (n:=e) (b:=h) (by simp only[gA,ak (C1 p:b=43\/b=45)];exact f);simp only[gA,ak (C1 p:b=43\/b=45)]at this;rw[aj (by rw[p];decide)]at this;exact sI.mk this
   ·have B:((b:Int)==43)=CS:=eS
    go_in
    go_wp2_with fail;apply g.o.m;rintro m r ⟨⟨e,h,rfl,f⟩,rfl⟩;go_wp2
    go_ret2
    have:=q9.whole (l:=b::j) (n:=e) (b:=h) (by simp only[gA,aj (λu=>by omega:¬(b=43\/b=45))];exact f);simp only[gA,aj (λu=>by omega:¬(b=43\/b=45))]at this;rw[aj bF]at this;exact sI.mk this
end
def EM{a b:List Nat}(c:a.all gX=CD):(a++46::b).takeWhile (λb=>b != 46)=a/\(a++46::b).dropWhile (λb=>b != 46)=46::b:=by
 induction a with
 |nil=>exact⟨rfl,rfl⟩
 |cons h a g=>
  simp only[dD,a_]at c;have d:(h != 46)=CD:=by have:=c.1;simp[gX]at this;simp;omega
  obtain⟨e,f⟩:=g c.2;exact⟨by rw[bH,dJ,d,ak rfl,e],by rw[bH,dT,d,ak rfl,f]⟩
def rN(b:List Nat):∃k,b=iB b++DJ k 48/\∀c∈(iB b).getLast?,c≠48:=by
 unfold iB;have h:=List.takeWhile_append_dropWhile (p:=λb:Nat=>b==48) (l:=b.reverse);refine⟨(b.reverse.takeWhile λb=>b==48).length,?_,?_⟩
 ·have f:b.reverse.takeWhile (λb=>b==48)=DJ (b.reverse.takeWhile λb=>b==48).length 48:=by rw[List.eq_replicate_iff];exact⟨rfl,λc a=>by have:=bG.1 (List.all_takeWhile (p:=λb:Nat=>b==48) (l:=b.reverse)) c a;simpa using this⟩
  have e:=cX List.reverse h;rw[List.reverse_append,List.reverse_reverse,f,List.reverse_replicate]at e;exact e.s
 ·intro c a;rw[List.getLast?_reverse]at a;cases d:b.reverse.dropWhile (λb=>b==48)with
  |nil=>rw[d]at a;cases a
  |cons i g=>rw[d]at a;cases a;have:=List.head?_dropWhile_not (λb:Nat=>b==48) b.reverse;rw[d]at this;simpa using this
def CX{b:List Nat}:(iB b).all gX=b.all gX:=by
 obtain⟨k,h,_⟩:=rN b;have:b.all gX=(iB b++DJ k 48).all gX:=by rw[<-h]
 rw[this,List.all_append];have a:(DJ k 48).all gX=CD:=by rw[bG];intro d c;rw[List.eq_of_mem_replicate c];decide
 rw[a,Bool.and_true]
def DU(a:List Nat):iC (48::a)=iC a:=rfl
def qE{c a b:List Nat}(m:(gA c).2=a++46::b)(g:a.all gX=CD):kf c =
  if b.all gX=CD/\G a<=9/\G b<=9/\1<=G a+G b then O (if(gA c).1=[45]then -(iC (a++iB b):Int)else(iC (a++iB b):Int),(iB b).length)else N:=by
 obtain⟨j,k⟩:=EM (b:=b) g;have n:(gA c).1=[]\/(gA c).1=[43]\/(gA c).1=[45]:=by
  cases c with
  |nil=>exact C1 rfl
  |cons i o=>
   by_cases h:i=43\/i=45;·simp only[gA,ak h];rcases h with rfl|rfl<;>simp
   ·simp only[gA,aj h];exact C1 trivial
 have l:gA ((gA c).1++48::(a++iB b))=((gA c).1,48::(a++iB b)):=by rcases n with h|h|h<;>rw[h]<;>rfl
 unfold kf;rw[m,k];simp only[j];by_cases f:1<=max (G a) (G b)/\max (G a) (G b)<=9
 ·rw[ak f];unfold na;rw[l];simp only[dD,List.all_append,g,CX,show gX 48=CD from rfl,cC,DU];by_cases e:b.all gX=CD;·rw[ak (show(48::(a++iB b))≠[]/\b.all gX=CD from⟨cO,e⟩),ak (show b.all gX=CD/\G a<=9/\G b<=9/\1<=G a+G b from⟨e,Y,Y,Y⟩)];rfl
  ·rw[aj (show ¬((48::(a++iB b))≠[]/\b.all gX=CD)from λd=>e d.2),aj (show ¬(b.all gX=CD/\G a<=9/\G b<=9/\1<=G a+G b)from λd=>e d.1)];rfl
 ·rw[aj f,aj (λd=>f Y)]
def zq:∀l:List Nat,(46:Nat)∉l->l.dropWhile (λb=>b != 46)=[]
 | [],_=>rfl
 |d::l,h=>by
  have c:(d != 46)=CD:=by simp;rintro rfl;exact h cO
  rw[dT,c,ak rfl];exact zq l (λa=>h (by simp[a]))
def wj{l:List Nat}(h:(46:Nat)∉(gA l).2):kf l=N:=by have:=zq _ h;unfold kf;rw[this]
def wY{l:List Nat}{c:Nat}(a:c∈(gA l).2)(e:gX c=CS)(k:c≠46):kf l=N:=by
 have g:=List.takeWhile_append_dropWhile (p:=λb:Nat=>b != 46) (l:=(gA l).2);cases f:(gA l).2.dropWhile (λb=>b != 46)with
 |nil=>unfold kf;rw[f]
 |cons o b=>
  have n:o=46:=by have:=List.head?_dropWhile_not (λb:Nat=>b != 46) (gA l).2;rw[f]at this;simpa using this
  subst n;rw[f]at g;by_cases d:((gA l).2.takeWhile λb=>b != 46).all gX=CD
  ·rw[qE g.s d,aj];rintro⟨i,_⟩;rw[<-g,aZ,cJ]at a;rw[bG]at d i;rcases a with a|a|a;·rw[d c a]at e;cases e
   ·exact k a
   ·rw[i c a]at e;cases e
  ·unfold kf;rw[f];simp only[];split
   ·have m:(gA ((gA l).1++48::(((gA l).2.takeWhile λb=>b != 46)++iB b))).2=48::(((gA l).2.takeWhile λb=>b != 46)++iB b):=by
     cases l with
     |nil=>rfl
     |cons j q=>
      by_cases h:j=43\/j=45;·simp only[gA,ak h];rcases h with rfl|rfl<;>rfl
      ·simp only[gA,aj h];rfl
    unfold na;rw[aj];·rfl
    ·rintro⟨_,h⟩;rw[m,dD,List.all_append]at h;simp only[a_]at h;exact d h.2.1
   ·rfl
