import Derived.Test.YtgkljcmjnphpeaaGreatDoorK38
import Derived.Test.YtgkljcmjnphpeaaGreatDoorK31
set_option linter.unusedVariables false
set_option linter.unusedSimpArgs false
namespace Go.Proofs.YtgkljcmjnphpeaaGreatDoor
open Go.RowKit
def kH(a:List Nat):Prop:=∀b∈a,48<=b/\b<=57
theorem kH.all{a:List Nat}(c:kH a):a.all j6=true:=by rw[dF];intro b d;have:=c b d;simp[j6];omega
theorem xL:∀{a b:List Nat},kH a->(a++46::b).takeWhile (λc=>c != 46)=a/\(a++46::b).dropWhile (λc=>c != 46)=46::b
 | [],b,_=>by simp
 |e::a,b,d=>by
  have i:=d e (aQ ..);have ih:=xL (b:=b) (λh g=>d h (aV _ g):kH a);have f:(e != 46)=true:=by simp;omega
  simp only[cj,eg,cE,f,if_true];exact⟨by rw[ih.1],ih.2⟩
theorem uD{d c:List Nat}(g:d=[]\/d=[45])(f:c≠[])(e:∀b a,c=b::a->48<=b/\b<=57):gA (d++c)=(d,c):=by
 rcases g with rfl | rfl
 ·obtain⟨b,a,rfl⟩:=c_ f;have:=e b a rfl;show(if b=43\/b=45 then([b],a)else([],b::a))=_;rw[au (by omega)]
 ·rfl
theorem Bo{b:List Nat}{a:Nat}(c:a≠48):jk (b++[a])=b++[a]:=by unfold jk;rw[List.reverse_append,List.reverse_singleton,List.singleton_append,cE,au (by simpa using c),List.reverse_cons,List.reverse_reverse]
theorem yx(b:Nat):∃c,iP b=c++[48+b%10]:=by
 by_cases a:b<10;·exact⟨[],by rw[qX a,ew a];rfl⟩
 ·exact⟨_,rT a⟩
theorem vh{a d b:List Nat}{g:Nat}(k:a=[]\/a=[45])(i:kH d)(q:d≠[])(x:kH b)(t:jN (d++jk b)=g)(y:d.length<=9/\b.length<=9)(s:kH (jk b)) :
  lh (a++(d++46::b))=some (if a=[45]then -(g:Int)else(g:Int),(jk b).length)/\jQ (a++(d++46::b))=none:=by
 obtain⟨e,f,rfl⟩:=c_ q;have v:=i e (aQ ..);have j:gA (a++(e::f++46::b))=(a,e::f++46::b):=uD k (by simp) (λm w h=>by cases h;exact v);have r:gA (a++48::(e::f++jk b))=(a,48::(e::f++jk b)):=uD k (by simp) (λm w h=>by cases h;omega);obtain⟨o,p⟩:=xL (b:=b) i;constructor
 ·unfold lh;rw[j];simp only[];rw[p,o];simp only[];rw[aA ⟨by rw[ag];omega,by omega⟩];unfold kI;rw[r];simp only[];rw[aA ⟨by simp,by
   apply kH.all;intro l c;rcases bT.1 c with rfl | c;·omega
   ·rcases bH.1 c with c | c;·exact i l c
    ·exact s l c⟩]
  have u:jN (48::(e::f++jk b))=g:=by rw[<-t];rfl
  rw[u];rfl
 ·unfold jQ;split
  ·unfold kI;rw[j];simp only[];rw[au];intro n;have:=n.2;rw[dF]at this;exact absurd (this 46 (by simp)) (by decide)
  ·rfl
theorem tH{f:Int}{a:Nat}(F : -999999999<=f)(G:f<=999999999)(L:a<=5)(h3:a=0\/f%10≠0) :
  ∃u e b:List Nat,(u=[]\/u=[45])/\kH e/\e≠[]/\kH b/\jF f a=u++(e++46::b)/\lh (jF f a)=some (f,a)/\jQ (jF f a)=none:=by
 have C:∀d:Nat,d<=999999999->(a=0\/d%10≠0)->∃e b:List Nat,kH e/\e≠[]/\kH b/\kQ d a=e++46::b/\jN (e++jk b)=d/\(e.length<=9/\b.length<=9)/\kH (jk b)/\(jk b).length=a:=by
  intro d K h3;have I:=nN 8 d (by omega);have H:1<=(iP d).length:=eP.2 (oD d).1;obtain⟨s,B⟩:∃s,jO (a+1) d=s:=⟨_,rfl⟩;have h:s=List.replicate (a+1-(iP d).length) 48++iP d:=by rw[<-B];rfl
  have z:jN s=d:=by rw[h,uX,rY]
  have J:s.length=(a+1-(iP d).length)+(iP d).length:=by rw[h,ab,bW]
  have v:kH s:=by
   intro b c;rw[h]at c;rcases bH.1 c with c | c;·rw[List.eq_of_mem_replicate c];omega
   ·exact(oD d).2 b c
  have g:kQ d a=s.take (s.length-a)++46::(s.drop (s.length-a)++(if a=0 then[48]else[])):=by unfold kQ;rw[B];simp
  have w:kH (s.take (s.length-a)):=λb c=>v b (cK c);have x:s.take (s.length-a)≠[]:=by intro D;have:=cq List.length D;rw[ax]at this;simp at this;omega
  by_cases A:a=0
  ·subst A;refine⟨_,_,w,x,?_,g,?_,⟨by rw[ax];omega,by simp⟩,?_,?_⟩
   ·rw[aA rfl,Nat.sub_zero,dY];intro b c;simp at c;omega
   ·rw[aA rfl,Nat.sub_zero,dY,dM,cC,show jk [48]=[]from rfl,ct,z]
   ·rw[aA rfl,Nat.sub_zero,dY];intro b c;rw[cC,show jk [48]=[]from rfl]at c;cases c
   ·rw[aA rfl,Nat.sub_zero,dY];rfl
  ·rw[au A,ct]at g;have c:kH (s.drop (s.length-a)):=λb c=>v b (cW c);have l:jk (s.drop (s.length-a))=s.drop (s.length-a):=by obtain⟨M,E⟩:=yx d;rw[E,<-ak]at h;rw[h];rw[List.drop_append_of_le_length (by simp;omega)];exact Bo (by omega)
   refine⟨_,_,w,x,c,g,?_,⟨by rw[ax];omega,by rw[aU];omega⟩,?_,?_⟩;·rw[l,cI,z]
   ·rw[l];exact c
   ·rw[l,aU];omega
 by_cases y:f<0
 ·obtain⟨e,b,i,j,k,m,n,o,p,q⟩:=C f.natAbs (by omega) (by omega);have g:jF f a=[45]++(e++46::b):=by unfold jF;rw[aA y,m];rfl
  obtain⟨r,t⟩:=vh (Or.inr rfl) i j k n o p;refine⟨[45],e,b,Or.inr rfl,i,j,k,g,?_,by rw[g];exact t⟩;rw[g,r,aA rfl,q];congr 2;omega
 ·obtain⟨e,b,i,j,k,m,n,o,p,q⟩:=C f.toNat (by omega) (by omega);have g:jF f a=[]++(e++46::b):=by unfold jF;rw[au y,m];rfl
  obtain⟨r,t⟩:=vh (Or.inl rfl) i j k n o p;refine⟨[],e,b,Or.inl rfl,i,j,k,g,?_,by rw[g];exact t⟩;rw[g,r,au (by simp),q];congr 2;omega
theorem vf{d c b:List Nat}(h:d=[]\/d=[45])(f:kH c)(i:c≠[])(g:kH b):kE (d++(c++46::b)):=by
 refine⟨by simp,λe a=>?_⟩;rcases bH.1 a with a | a
 ·rcases h with rfl | rfl;·cases a
  ·simp at a;subst a;rfl
 ·rcases bH.1 a with a | a;·exact sQ (f e a)
  ·rcases bT.1 a with rfl | a;·rfl
   ·exact sQ (g e a)
section
theorem zE{k:Nat}(a:List (List Nat))(b:List (VT k)):iu (k:=k+1) (⟨7,0,0,[],b,a,[]⟩:gz (VT k))=60::60::(iC ((a.zip b).map λc=>ir c.1++(32::iu (k:=k) c.2))++[62,62]):=rfl
theorem un{k:Nat}(a:List (VT k)):iu (k:=k+1) (⟨6,0,0,[],a,[],[]⟩:gz (VT k))=91::(iC (a.map λb=>iu (k:=k) b)++[93]):=rfl
theorem uj(a:Nat)(s:List Nat)(c:jN s≠a):iP a≠s:=λb=>c (by rw[<-b,rY])
theorem zJ:∀{k:Nat} {h:VT k} {r:List Nat},kL h->mc r->gY (iu h++r)=none/\gF [82] (iu h++r)=none
 |0,_,_,j,_=>j.elim
 |k+1,h,r,j,g=>by
  have mk:∀{b:Nat} (e:List Nat),pB b=false->lM b=false->b≠37->gY (b::e)=none/\gF [82] (b::e)=none:=λe c f h3=>⟨r7 c f h3,sC c f h3 (by simp)⟩;rcases j with rfl | ⟨a,q,rfl⟩ | ⟨a,c,f,rfl⟩ | ⟨a,l,c,f,h3,o,rfl⟩ | ⟨e,c,rfl⟩ | ⟨e,c,rfl⟩ | ⟨y,c,rfl⟩ | ⟨C,y,c,f,h3,rfl⟩ | ⟨a,A,c,rfl⟩;·exact qG (s:=[110,117,108,108]) (mz (by simp) (by decide)) g.np (by simp) (by simp)
  ·rcases q with rfl | rfl;·exact qG (s:=[102,97,108,115,101]) (mz (by simp) (by decide)) g.np (by simp) (by simp)
   ·exact qG (s:=[116,114,117,101]) (mz (by simp) (by decide)) g.np (by simp) (by simp)
  ·refine qG (vO a) g.np (λd=>?_) (λ_=>g.r82);obtain⟨b,e,p,B⟩:=vN a;have n:b::e=[82]:=p.symm.trans d;cases n;omega
  ·obtain⟨z,m,b,t,u,v,w,x,_⟩:=tH c f h3 o;show gY (jF a l++r)=none/\gF [82] (jF a l++r)=none;rw[x];have i:(46:Nat)∈z++(m++46::b):=by simp
   refine qG (vf t u v w) g.np (λd=>?_) (λd=>?_);·rw[d]at i;simp at i
   ·rw[d]at i;simp at i
  ·exact mk _ (by decide) (by decide) (by decide)
  ·exact mk _ (by decide) (by decide) (by decide)
  ·exact mk _ (by decide) (by decide) (by decide)
  ·exact mk _ (by decide) (by decide) (by decide)
  ·show gY ((iE (a:Int)++[32,48,32,82])++r)=none/\gF [82] ((iE (a:Int)++[32,48,32,82])++r)=none;rw[ox,ak];exact qG (oL a) (jj.cons (by decide)) (λd=>by have:=(oD a).2 82 (by rw[d];simp);omega) (λd=>absurd d (uj a [48] (by show 0≠a;omega)))
theorem zK:∀{k:Nat} {h:VT k},kL h->∃b a,iu h=b::a/\lM b=false/\b≠37/\b≠93/\b≠62
 |0,_,c=>c.elim
 |k+1,h,c=>by
  have f:∀{b:Nat},(b=45\/48<=b/\b<=57)->lM b=false/\b≠37/\b≠93/\b≠62:=λ{b} c=>by
   have g:pB b=true:=by
    rcases c with rfl | c;· rfl
    ·exact sQ c
   exact⟨(vg g).1,(tU g).2.2.2.2.2.2,(tU g).2.2.2.2.1,(tU g).2.2.2.2.2.1⟩
  rcases c with rfl | ⟨e,p,rfl⟩ | ⟨e,d,i,rfl⟩ | ⟨e,y,d,i,h3,o,rfl⟩ | ⟨a,d,rfl⟩ | ⟨a,d,rfl⟩ | ⟨t,d,rfl⟩ | ⟨x,t,d,i,h3,rfl⟩ | ⟨e,v,d,rfl⟩;·exact⟨110,_,rfl,by decide⟩
  ·rcases p with rfl | rfl;·exact⟨102,_,rfl,by decide⟩
   ·exact⟨116,_,rfl,by decide⟩
  ·obtain⟨b,a,j,l⟩:=vN e;exact⟨b,a,j,f l⟩
  ·obtain⟨z,u,b,q,r,s,w,m,_⟩:=tH d i h3 o;obtain⟨n,a,rfl⟩:=c_ s;rcases q with rfl | rfl;·exact⟨n,_,m,f (Or.inr (r n (aQ ..)))⟩
   ·exact⟨45,_,m,f (Or.inl rfl)⟩
  ·exact⟨47,_,rfl,by decide⟩
  ·exact⟨40,_,rfl,by decide⟩
  ·exact⟨91,_,rfl,by decide⟩
  ·exact⟨60,_,rfl,by decide⟩
  ·obtain⟨b,a,j,l⟩:=vN (e:Int);exact⟨b,a++[32,48,32,82],by show iE (e:Int)++[32,48,32,82]=_;rw[j];rfl,f l⟩
abbrev IHw(k:Nat):Prop:=∀(V:VT k) (r:List Nat),kL V->mc r->gI k (iu V++r)=some (V,r)
section
variable{k:Nat}(r:List Nat)
def j4(c:List (VT k))(r:List Nat):List Nat:=((c.map λb=>iu (k:=k) b).flatMap λb=>32::b)++93::r
theorem uy:∀(b:List (VT k)),(∀c∈b,kL c)->mc (j4 b r)
 | [],_=>.mark (by decide) (by decide) (by decide)
 |c::b,d=>by
  have g:=uy b (λj f=>d j (aV _ f));obtain⟨h,i⟩:=zJ (d c (aQ ..)) g;have e:j4 (c::b) r=32::(iu c++j4 b r):=by simp[j4]
  rw[e];exact .white (by decide) h i
theorem uB(a:IHw k)(r:List Nat){d:VT k}{c:List (VT k)}{g:Nat}(f:kL d)(j:∀p∈c,kL p)(l:j3 (gI k) g (j4 c r)=some (c,r)):j3 (gI k) (g+1) (iu d++j4 c r)=some (d::c,r):=by
 obtain⟨b,q,e,o,h,i,_⟩:=zK f;have n:=a d (j4 c r) f (uy r c j);have m:gG (iu d++j4 c r)=iu d++j4 c r:=by rw[e];exact jz o h
 rw[j3,m,show gH [93] (iu d++j4 c r)=none by rw[e];exact kA (eG i)];simp only[];rw[n];simp only[];rw[l];rfl
theorem qT(a:IHw k)(r:List Nat):∀(b:List (VT k)) (e:Nat),(∀d∈b,kL d)->b.length<e->j3 (gI k) e (j4 b r)=some (b,r)
 | [],0,_,c=>by simp at c
 | [],e+1,_,_=>by rw[j3,show gG (j4 [] r)=93::r from jz (by decide) (by decide),show gH [93] (93::r)=some r from nu [93] r]
 |d::b,0,_,c=>by simp at c
 |d::b,e+1,c,l=>by
  have i:j4 (d::b) r=32::(iu d++j4 b r):=by simp[j4]
  have j:=qT a r b e (λg f=>c g (aV _ f)) (by simp only[ag]at l;omega);have h:=uB a r (c d (aQ ..)) (λg f=>c g (aV _ f)) j;rw[i];rw[j3]at h ⊢;rw[qu (by decide)];exact h
theorem ux:∀b:List (VT k),b.length<(j4 b r).length
 | []=>by simp[j4]
 |c::b=>by
  have:=ux b;have d:j4 (c::b) r=32::(iu c++j4 b r):=by simp[j4]
  rw[d,ag,ag,ab];omega
def mg(d:List (List Nat × VT k))(r:List Nat):List Nat:=((d.map λb=>ir b.1++(32::iu (k:=k) b.2)).flatMap λc=>32::c)++62::62::r
theorem tc(b:List Nat × VT k)(c:List (List Nat × VT k)):mg (b::c) r=32::(47::(b.1.flatMap i9++(32::(iu b.2++mg c r)))):=by simp[mg,ir]
theorem yv(b:List (List Nat × VT k)):mc (mg b r):=by
 cases b with
 |nil=>exact .mark (by decide) (by decide) (by decide)
 |cons c b=>rw[tc];exact .white (by decide) (r7 (by decide) (by decide) (by decide)) (sC (by decide) (by decide) (by decide) (by simp))
theorem zx{b:VT k}{c:List Nat}(e:kL b)(d:gI k (iu b++c)=some (b,c)):gI k (32::(iu b++c))=some (b,c):=by
 cases k with
 |zero=>exact e.elim
 |succ k=>rw[q_ (by decide)];exact d
theorem uK(a:IHw k)(r:List Nat){b:List Nat × VT k}{c:List (List Nat × VT k)}{e:Nat}(g:∀f∈b.1,0<f/\f<256)(d:kL b.2)(h:jh (gI k) e (mg c r)=some ((c.map Prod.fst,c.map Prod.snd),r)) :
  jh (gI k) (e+1) (47::(b.1.flatMap i9++(32::(iu b.2++mg c r))))=some (((b::c).map Prod.fst,(b::c).map Prod.snd),r):=by
 rw[td (th (jj.cons (by decide)) b.1 g) (zx d (a b.2 _ d (yv r c))),h];rfl
theorem qW(a:IHw k)(r:List Nat):∀(b:List (List Nat × VT k)) (d:Nat),(∀e∈b,(∀h∈e.1,0<h/\h<256)/\kL e.2)->b.length<d->jh (gI k) d (mg b r)=some ((b.map Prod.fst,b.map Prod.snd),r)
 | [],0,_,c=>by simp at c
 | [],d+1,_,_=>xn d r
 |e::b,0,_,c=>by simp at c
 |e::b,d+1,c,i=>by have g:=c e (aQ ..);have f:=uK a r g.1 g.2 (qW a r b d (λl j=>c l (aV _ j)) (by simp only[ag]at i;omega));rw[tc];rw[jh]at f ⊢;rw[qu (by decide)];exact f
theorem uH:∀b:List (List Nat × VT k),b.length<(mg b r).length
 | []=>by simp[mg]
 |c::b=>by have:=uH b;rw[tc];simp only[ag,ab];omega
end
theorem sH{k:Nat}{s r:List Nat}(a:kE s)(b:jj r):gI (k+1) (s++r)=jA (VT k) (s++r)/\iA (s++r)=s/\iZ (s++r)=r:=⟨vI a,(p6 a b).1,(p6 a b).2⟩
theorem zy{k:Nat}{s r:List Nat}{b:Int}{c:Nat}(h:kE s)(g:jj r)(i:jQ s=none)(a:lh s=some (b,c)):gI (k+1) (s++r)=some (hJ (VT k) 3 b c [],r):=by
 obtain⟨e1,e2,d⟩:=sH (k:=k) h g;rw[e1];unfold jA;rw[e2,d,i,a];have e:s≠[110,117,108,108]:=by rintro rfl;cases a
 have f:s≠[102,97,108,115,101]:=by rintro rfl;cases a
 have h3:s≠[116,114,117,101]:=by rintro rfl;cases a
 rw[au e,au f,au h3]
theorem zu{r:List Nat}(a:jj r):gY ([32,48,32,82]++r)=some r:=by unfold gY;show(gF [48] (32::48::32::82::r)).bind _=_;rw[mi (by decide),show gF [48] (48::32::82::r)=some (32::82::r)from lJ (s:=[48]) (mz (by simp) (by decide)) (jj.cons (by decide))];show gF [82] (32::82::r)=_;rw[mi (by decide)];exact lJ (s:=[82]) (mz (by simp) (by decide)) a
theorem tF:∀{k:Nat} (g:VT k) (r:List Nat),kL g->mc r->gI k (iu g++r)=some (g,r)
 |0,_,_,v,_=>v.elim
 |k+1,g,r,v,h=>by
  have ih:∀(g:VT k) (r:List Nat),kL g->mc r->gI k (iu g++r)=some (g,r):=λg r=>tF g r;rcases v with rfl | ⟨j,x,rfl⟩ | ⟨j,d,o,rfl⟩ | ⟨j,L,d,o,h3,C,rfl⟩ | ⟨a,d,rfl⟩ | ⟨a,d,rfl⟩ | ⟨c,d,rfl⟩ | ⟨m,c,d,o,h3,rfl⟩ | ⟨j,N,d,rfl⟩
  ·obtain⟨e1,e2,n⟩:=sH (k:=k) (s:=[110,117,108,108]) (mz (by simp) (by decide)) h.np;refine e1.trans ?_;unfold jA;rw[e2,n,aA rfl];rfl
  ·rcases x with rfl | rfl
   ·obtain⟨e1,e2,n⟩:=sH (k:=k) (s:=[102,97,108,115,101]) (mz (by simp) (by decide)) h.np;refine e1.trans ?_;unfold jA;rw[e2,n,au (by simp),aA rfl];rfl
   ·obtain⟨e1,e2,n⟩:=sH (k:=k) (s:=[116,114,117,101]) (mz (by simp) (by decide)) h.np;refine e1.trans ?_;unfold jA;rw[e2,n,au (by simp),au (by simp),aA rfl];rfl
  ·exact xN (vO j) h.np (zG d o) h.ref
  ·obtain⟨O,M,b,E,F,G,H,I,J,K⟩:=tH d o h3 C;exact zy (s:=jF j L) (by rw[I];exact vf E F G H) h.np K J
  ·show gI (k+1) (47::(a.flatMap i9++r))=_;exact Bp (th h.np a d)
  ·show gI (k+1) (40::((a.flatMap jV++[41])++r))=_;rw[ak];exact Bq (A9 d r)
  ·have q:∀a:List Nat,iu (k:=k+1) (⟨6,0,0,[],c,[],[]⟩:gz (VT k))++r=91::a->j3 (gI k) (a.length+1) a=some (c,r)->gI (k+1) (91::a)=some ((⟨6,0,0,[],c,[],[]⟩:gz (VT k)),r):=by intro a _ w;unfold gI;rw[jz (by decide) (by decide),show gH [91] (91::a)=some a from nu [91] a];show(j3 (gI k) (a.length+1) a).map _=_;rw[w];rfl
   cases c with
   |nil=>exact q (93::r) rfl (qT ih r [] _ (by simp) (by simp))
   |cons t c =>
    have l:iu (k:=k+1) (⟨6,0,0,[],t::c,[],[]⟩:gz (VT k))++r=91::(iu t++j4 c r):=by rw[un];simp[iC,j4]
    have p:∀e∈c,kL e:=λe i=>d e (aV _ i);have x:=ux r c;refine Eq.trans (cq _ l) (q _ l (uB ih r (d t (aQ ..)) p (qT ih r c _ p ?_)));rw[ab];omega
  ·obtain⟨f,y⟩:∃f,m.zip c=f:=⟨_,rfl⟩;have z:f.map Prod.fst=m:=by rw[<-y,List.map_fst_zip (by omega)]
   have p:f.map Prod.snd=c:=by rw[<-y,List.map_snd_zip (by omega)]
   have i:∀e∈f,(∀B∈e.1,0<B/\B<256)/\kL e.2:=λe i=>⟨o e.1 (by rw[<-z];exact List.mem_map_of_mem i),h3 e.2 (by rw[<-p];exact List.mem_map_of_mem i)⟩;have q:∀a:List Nat,jh (gI k) (a.length+1) a=some ((f.map Prod.fst,f.map Prod.snd),r)->gI (k+1) (60::60::a)=some ((⟨7,0,0,[],c,m,[]⟩:gz (VT k)),r):=by intro a w;unfold gI;rw[jz (by decide) (by decide),kA (by decide),show gH [60,60] (60::60::a)=some a from nu [60,60] a];show(jh (gI k) (a.length+1) a).map _=_;rw[w,z,p];rfl
   have u:=zE m c;rw[y]at u;cases f with
   |nil =>
    have l:iu (k:=k+1) (⟨7,0,0,[],c,m,[]⟩:gz (VT k))++r=60::60::mg (k:=k) [] r:=by rw[u];rfl
    exact(cq _ l).trans (q _ (qW ih r [] _ (by simp) (by simp)))
   |cons e f =>
    have l:iu (k:=k+1) (⟨7,0,0,[],c,m,[]⟩:gz (VT k))++r=60::60::(47::(e.1.flatMap i9++(32::(iu e.2++mg f r)))):=by rw[u];simp[iC,mg,ir]
    have A:=i e (aQ ..);have x:=uH r f;refine(cq _ l).trans (q _ (uK ih r A.1 A.2 (qW ih r f _ (λt D=>i t (aV _ D)) ?_)));simp only[ag,ab];omega
  ·show gI (k+1) ((iE (j:Int)++[32,48,32,82])++r)=_;rw[ox,ak];exact xO (oL j) (jj.cons (by decide)) (sE d) (zu h.np)
end
section
theorem vF{a r:List Nat}(f:kE a)(e:jj r)(c:a≠[82])(d:a≠[48]):mc (10::(a++r)):=
 .white (by decide) (qG f e c (λb=>absurd b d)).1 (qG f e c (λb=>absurd b d)).2
theorem rv{a:VT 12}(b:kL a):tL (iu a) (a,[]):=by
 intro r;have c:mc (10::([101,110,100,111,98,106]++(10::r))):=vF (mz (by simp) (by decide)) (jj.cons (by decide)) (by simp) (by simp);unfold lN;rw[q_ rfl,tF a _ b c];simp only[];split;·rw[mi rfl,tB (mz (by simp) (by decide)) (jj.cons (by decide)) (by decide)]
 ·rfl
section
variable{β:Type}
theorem vd(a:ByteArray)(c b:List (List Nat × β)):je a (c++b)=je a c++je a b:=by simp[je]
theorem ve{c:ByteArray}{b:List (List Nat × β)}(d:∀a∈b,gC a.1≠c):je c b=[]:=by unfold je;rw[List.filter_eq_nil_iff.2 (λa e=>by simpa using d a e)];rfl
theorem yD(a b:List (List Nat × β)):gW (a++b)=gW a++gW b:=by simp[gW]
theorem wD{a:List (List Nat × β)}(c:∀b∈a,jy (gC b.1)=false):gW a=a:=by unfold gW;exact List.filter_eq_self.2 (λb d=>by simp[c b d])
theorem r_(a:β):je { data:=#[76,101,110,103,116,104] } [([76,101,110,103,116,104],a)]=[a]/\je { data:=#[70,105,108,116,101,114] } [([76,101,110,103,116,104],a)]=[]/\gW [([76,101,110,103,116,104],a)]=[]:=⟨rfl,rfl,rfl⟩
theorem sh(a b:β):je { data:=#[76,101,110,103,116,104] } [([76,101,110,103,116,104],a),([70,105,108,116,101,114],b)]=[a]/\je { data:=#[70,105,108,116,101,114] } [([76,101,110,103,116,104],a),([70,105,108,116,101,114],b)]=[b]/\gW [([76,101,110,103,116,104],a),([70,105,108,116,101,114],b)]=[]:=⟨rfl,rfl,rfl⟩
end
theorem yL{a:Nat}(b:1<=a/\a<=4):lY (gC (bl (i5 a)))=a:=by
 have:a=1\/a=2\/a=3\/a=4:=by omega
 rcases this with rfl | rfl | rfl | rfl<;>rfl
theorem uO:∀b:List Nat,(∀a∈b,1<=a/\a<=4)->lL (b.map λa=>(4,bl (i5 a)))=some b
 | [],_=>rfl
 |a::b,c=>by have d:=c a (aQ ..);rw[bJ,lL,yL d,aA ⟨rfl,d.1⟩,uO b (λf e=>c f (aV _ e))];rfl
structure oS(V:gz (VT 11)):Prop where
 keys:V.keys.length=V.items.length
 kb:∀s∈V.keys,∀x∈s,0<x/\x<256
 own:∀s∈V.keys,jy (gC s)=false
 items:∀y∈V.items,kL y
 fil:∀f∈V.filters,1<=f/\f<=4
theorem kL.names{a:List Nat}:kL (namesV 9 a):=by refine Or.inr (Or.inr (Or.inr (Or.inr (Or.inr (Or.inr (Or.inl ⟨_,?_,rfl⟩))))));intro d b;obtain⟨c,_,rfl⟩:=cv.1 b;refine Or.inr (Or.inr (Or.inr (Or.inr (Or.inl ⟨_,?_,rfl⟩))));unfold i5;split<;>decide
theorem kL.len{n:Nat}(a:n<10^10):kL (k:=11) (hJ (VT 10) 2 (n:Int) 0 []:VT 11):=Or.inr (Or.inr (Or.inl ⟨_,by omega,by omega,rfl⟩))
theorem wQ(b:List Nat)(c:Nat)(e:c<10^10):(skeys b).length=(sitems 9 b c).length/\(∀g∈skeys b,∀f∈g,0<f/\f<256)/\∀d∈sitems 9 b c,kL d:=by
 unfold skeys sitems;split;·exact⟨rfl,by decide,λd a=>by rcases cc.1 a with rfl;exact kL.len e⟩
 ·refine⟨rfl,by decide,λd a=>?_⟩;rcases bT.1 a with rfl | a;·exact kL.len e
  ·rcases cc.1 a with rfl;exact kL.names
theorem oS.rt{a:gz (VT 11)}(e:oS a){d:Nat}(j:d<10^10):kL (k:=12) (sdict 9 a d):=by
 obtain⟨h,i,h3⟩:=wQ a.filters d j;refine Or.inr (Or.inr (Or.inr (Or.inr (Or.inr (Or.inr (Or.inr (Or.inl ⟨a.keys++skeys a.filters,a.items++sitems 9 a.filters d,?_,?_,?_,rfl⟩)))))));·rw[ab,ab,e.keys,h]
 ·intro f b;rcases bH.1 b with b | b;·exact e.kb f b
  ·exact i f b
 ·intro g c;rcases bH.1 c with c | c;·exact e.items g c
  ·exact h3 g c
theorem oS.zip{V:gz (VT 11)}(b:oS V)(a:Nat):(V.keys++skeys V.filters).zip (V.items++sitems 9 V.filters a)=V.keys.zip V.items++(skeys V.filters).zip (sitems 9 V.filters a):=List.zip_append b.keys
theorem oS.zown{V:gz (VT 11)}(b:oS V):∀a∈V.keys.zip V.items,jy (gC a.1)=false:=λa c=>b.own a.1 (fW c).1
theorem u6{b:ByteArray}(a:jy b=false):b≠{ data:=#[76,101,110,103,116,104] }/\b≠{ data:=#[70,105,108,116,101,114] }:=by unfold jy at a;simp only[Bool.or_eq_false_iff,bG]at a;exact a
theorem wz{k b:Nat}{c:ByteArray}{V:gz (VT k)}{a:VT k}(d:jC c V.keys V.items=[a])(e:kO a=b):itemOf c b V=some a:=by unfold itemOf;rw[d];exact aA e
theorem yz{k:Nat}{V:gz (VT k)}(a:jC { data:=#[70,105,108,116,101,114] } V.keys V.items=[]):jx V=some []:=by unfold jx jt;rw[a];rfl
theorem yA{k:Nat}{V:gz (VT k)}{a:VT k}(b:jC { data:=#[70,105,108,116,101,114] } V.keys V.items=[a])(c:kO a=6):jx V=lL (iK a):=by unfold jx jt;rw[b];simp only[];rw[au (by omega),aA c]
theorem oS.item{V:gz (VT 11)}(b:oS V)(a:Nat):itemOf { data:=#[76,101,110,103,116,104] } 2 (sdict 9 V a)=some (hJ (VT 10) 2 (a:Int) 0 []:VT 11):=by
 have c:jC { data:=#[76,101,110,103,116,104] } (V.keys++skeys V.filters) (V.items++sitems 9 V.filters a)=[(hJ (VT 10) 2 (a:Int) 0 []:VT 11)]:=by
  unfold jC;rw[b.zip,vd,ve (λe d=>(u6 (b.zown e d)).1),cC];unfold skeys sitems;split;·exact(r_ _).1
  ·exact(sh _ _).1
 exact wz (V:=sdict 9 V a) c rfl
theorem oS.of{a:gz (VT 11)}(c:oS a)(b:Nat):j_ (k:=11) (sdict 9 a b)=some (⟨8,0,0,[],a.items,a.keys,a.filters⟩:gz (VT 11)):=by
 have e:jC { data:=#[70,105,108,116,101,114] } (a.keys++skeys a.filters) (a.items++sitems 9 a.filters b)=je { data:=#[70,105,108,116,101,114] } ((skeys a.filters).zip (sitems 9 a.filters b)):=by unfold jC;rw[c.zip,vd,ve (λj i=>(u6 (c.zown j i)).2),cC]
 have f:jx (k:=11) (sdict 9 a b)=some a.filters:=by
  by_cases d:a.filters=[]
  ·have e1:je { data:=#[70,105,108,116,101,114] } ((skeys a.filters).zip (sitems 9 a.filters b))=[]:=by unfold skeys sitems;rw[aA d,aA d];exact(r_ _).2.1
   rw[d];exact yz (V:=sdict 9 a b) (e.trans e1)
  ·have e1:je { data:=#[70,105,108,116,101,114] } ((skeys a.filters).zip (sitems 9 a.filters b))=[namesV 9 a.filters]:=by unfold skeys sitems;rw[au d,au d];exact(sh _ _).2.1
   have e2:iK (namesV 9 a.filters)=a.filters.map λg=>(4,bl (i5 g)):=by exact dZ
   rw[yA (V:=sdict 9 a b) (e.trans e1) rfl,e2];exact uO _ c.fil
 have h:gW ((a.keys++skeys a.filters).zip (a.items++sitems 9 a.filters b))=a.keys.zip a.items:=by
  rw[c.zip,yD,wD c.zown];have e1:gW ((skeys a.filters).zip (sitems 9 a.filters b))=[]:=by
   unfold skeys sitems;split;·exact(r_ _).2.2
   ·exact(sh _ _).2.2
  rw[e1,ct]
 unfold j_;rw[f];show some (⟨8,0,0,[],(gW ((a.keys++skeys a.filters).zip (a.items++sitems 9 a.filters b))).map Prod.snd,(gW ((a.keys++skeys a.filters).zip (a.items++sitems 9 a.filters b))).map Prod.fst,a.filters⟩:gz (VT 11))=_;rw[h,List.map_snd_zip (by have:=c.keys;omega),List.map_fst_zip (by have:=c.keys;omega)]
theorem qr{b:gz (VT 11)}(c:oS b){a:List Nat}(e:a.length<10^10):tL (wstream 9 b a) ((⟨8,0,0,[],b.items,b.keys,b.filters⟩:gz (VT 11)),a):=by
 intro r;have d:10::(wstream 9 b a++(10::([101,110,100,111,98,106]++(10::r))))=10::(iu (k:=12) (sdict 9 b a.length)++(10::([115,116,114,101,97,109]++(10::(a++(10::([101,110,100,115,116,114,101,97,109]++(10::([101,110,100,111,98,106]++(10::r)))))))))):=by unfold wstream;simp
 rw[d];unfold lN;rw[q_ rfl,tF (k:=12) (sdict 9 b a.length) _ (c.rt e) (vF (mz (by simp) (by decide)) (jj.cons (by decide)) (by simp) (by simp))];simp only[];rw[aA (by rfl),mi rfl,lJ (mz (by simp) (by decide)) (jj.cons (by decide))];simp only[];unfold l6;have i:gH [10] (10::(a++(10::([101,110,100,115,116,114,101,97,109]++(10::([101,110,100,111,98,106]++(10::r)))))))=some (a++(10::([101,110,100,115,116,114,101,97,109]++(10::([101,110,100,111,98,106]++(10::r)))))):=nu [10] _;rw[i];simp only[Option.some_or];rw[c.item];simp only[];have f:rZ (k:=11) (hJ (VT 10) 2 (a.length:Int) 0 [])=(a.length:Int):=rfl;rw[f,aA (by rw[ab];omega),Int.toNat_natCast,List.drop_left,List.take_left];have j:gH [10] (10::([101,110,100,115,116,114,101,97,109]++(10::([101,110,100,111,98,106]++(10::r)))))=some ([101,110,100,115,116,114,101,97,109]++(10::([101,110,100,111,98,106]++(10::r)))):=nu [10] _;rw[j];simp only[];obtain⟨g,h⟩:=tC (s:=[101,110,100,115,116,114,101,97,109]) (r:=10::([101,110,100,111,98,106]++(10::r))) (by decide) (jj.cons (by decide));rw[g,h,aA rfl,c.of];rfl
end
section
theorem lS.bytes{c:List (List Nat)}(f:lS c)(k:c.length<=4):∀d∈c,∀b∈d,0<b/\b<256:=by
 intro d i b a;obtain⟨j,h,rfl⟩:=cA i;obtain⟨l,e,_,g⟩:=f j _ (ai h);rw[e]at a;rcases bT.1 a with rfl | a;·omega
 ·exact g b a
theorem lS.len{a:List (List Nat)}(c:lS a):∀s∈a,s.length<=6:=by intro s e;obtain⟨i,d,rfl⟩:=cA e;obtain⟨g,b,f,_⟩:=c i _ (ai d);rw[b,ag];omega
theorem lS.dict{a:List (List Nat)}{l:Nat}(e:lS a)(r:a.length<=4)(s:a.length=l):lu a l=true:=by
 have g:=e.bytes r;have p:(a.all λc=>jM (gC c))=true:=by
  rw[dF];intro c k;unfold jM;have v:=e.len c k;have o:(gC c).data.toList.contains 0=false:=by rw[Bool.eq_false_iff];intro h;simp only[gC,List.contains_iff_mem,cv]at h;obtain⟨d,b,f⟩:=h;have:=g c k d b;have e2:=cq UInt8.toNat f;simp at e2;omega
  rw[um,o];simp;omega
 have q:(a.map gC).Nodup:=by unfold List.Nodup;rw[List.pairwise_map,List.pairwise_iff_getElem];intro t u i j w f;have e2:=z_ (λd b=>(g _ (df i) d b).2) (λd b=>(g _ (df j) d b).2) f;obtain⟨x,m,_⟩:=e t _ (ai i);obtain⟨y,n,_⟩:=e u _ (ai j);rw[m,n]at e2;have:=(List.cons.inj e2).1;omega
 unfold lu;rw[p,aL q,aL s];rfl
section
variable{o:Nat}
theorem lU.rt(a:o<=6){k:Nat}{f:gz (VT k)}(h:lU o f):kL (k:=k+1) f:=by
 rcases h with rfl | ⟨c,j,rfl⟩ | ⟨c,b,g,rfl⟩ | ⟨c,l,b,g,h3,i,rfl⟩ | ⟨e,d,b,rfl⟩ | ⟨e,d,b,rfl⟩ | ⟨c,d,b,rfl⟩;·exact Or.inl rfl
 ·exact Or.inr (Or.inl ⟨c,j,rfl⟩)
 ·exact Or.inr (Or.inr (Or.inl ⟨c,by omega,by omega,rfl⟩))
 ·exact Or.inr (Or.inr (Or.inr (Or.inl ⟨c,l,b,g,h3,i,rfl⟩)))
 ·exact Or.inr (Or.inr (Or.inr (Or.inr (Or.inl ⟨e,b,rfl⟩))))
 ·exact Or.inr (Or.inr (Or.inr (Or.inr (Or.inr (Or.inl ⟨e,b,rfl⟩)))))
 ·exact Or.inr (Or.inr (Or.inr (Or.inr (Or.inr (Or.inr (Or.inr (Or.inr ⟨c,d,by omega,rfl⟩)))))))
theorem hH.rt(a:o<=6):∀(d k:Nat) {c:VT k},hH o d k c->kL c
 |_,0,_,b=>by cases ‹Nat› <;> exact b.elim
 |0,k+1,c,b=>lU.rt a b
 |d+1,k+1,c,b=>by
  rcases b with b | ⟨f,h,i,rfl⟩ | ⟨l,f,h,i,h3,j,rfl⟩;·exact lU.rt a b
  ·exact Or.inr (Or.inr (Or.inr (Or.inr (Or.inr (Or.inr (Or.inl ⟨f,λg e=>hH.rt a d k (i g e),rfl⟩))))))
  ·exact Or.inr (Or.inr (Or.inr (Or.inr (Or.inr (Or.inr (Or.inr (Or.inl ⟨l,f,h,h3.bytes (by omega),λg e=>hH.rt a d k (j g e),rfl⟩)))))))
def p8:Nat->Nat
 |0=>120
 |b+1=>252+4*p8 b
def pI:Nat->Nat
 |0=>0
 |b+1=>4+4*pI b
theorem Ah(b:Nat):120<=p8 b:=by induction b with | zero=>exact af _ | succ b ih=>unfold p8;omega
structure rG(o:Nat){k:Nat}(m c:Nat)(V:gz (VT k)):Prop where
 wok:sI (k:=k+1) V
 few:ph (k:=k+1) V
 keys:KO (k:=k+1) V
 len:ii (k:=k+1) V<=m
 one:∀nodes deep,nodes+c<=2000->kG o deep nodes V=true
 its:V.items.length<=4
theorem lU.items{k:Nat}{V:gz (VT k)}(d:lU o V):V.items=[]:=by rcases d with rfl | ⟨n,h,rfl⟩ | ⟨n,b,e,rfl⟩ | ⟨n,p,b,e,h3,g,rfl⟩ | ⟨f,c,b,rfl⟩ | ⟨f,c,b,rfl⟩ | ⟨n,c,b,rfl⟩<;>rfl
theorem pW{k c:Nat}{b:Int}{e:Nat}{d:List Nat}(v:c<=5\/c=9)(w : -9999999999<=b/\b<=9999999999)(h3:c=3 -> -999999999<=b/\b<=999999999/\e<=5)(x:d.length<=5)(n:∀s∈d,s<256)(q:lO (hJ (VT k) c b e d)=true)(p:lX (hJ (VT k) c b e d)=true)(m:c=9->1<=b/\b<=(o:Int)):rG o 120 4 (hJ (VT k) c b e d):=by
 refine⟨⟨by show c<=7\/c=9;omega,by show _<=b/\b<=_;omega,h3,λ_=>rfl,n,λy r=>(by cases r),λi f=>(by cases f)⟩,⟨aE _,aE _,aE _,λi f=>(by cases f)⟩,⟨Or.inl rfl,λi f=>(by cases f)⟩,?_,λh j u=>?_,aE _⟩
 ·show 100+4*d.length+0+0<=120;omega
 ·unfold kG;rw[q,p];have e1:decide (h+(hJ (VT k) c b e d).items.length<=2000)=true:=aL (show h+0<=2000 by omega);have e2:decide ((hJ (VT k) c b e d).kind=8/\1<j)=false:=a_ (λg=>by have t:c=8:=g.1;omega);have l:decide ((hJ (VT k) c b e d).kind=9/\¬ (1<=(hJ (VT k) c b e d).n/\(hJ (VT k) c b e d).n<=(o:Int)))=false:=a_ (λg=>g.2 (m g.1));rw[e1,e2,l];rfl
theorem lU.mp(a:o<=6){k:Nat}{m:gz (VT k)}(n:lU o m):rG o 120 4 m:=by
 rcases n with rfl | ⟨d,q,rfl⟩ | ⟨d,c,h,rfl⟩ | ⟨d,p,c,h,h3,l,rfl⟩ | ⟨f,g,c,rfl⟩ | ⟨f,g,c,rfl⟩ | ⟨d,g,c,rfl⟩;·exact pW (by omega) (by omega) (by omega) (aE _) (λe b=>by cases b) rfl rfl (by omega)
 ·exact pW (by omega) (by omega) (by omega) (aE _) (λe b=>by cases b) (aL (by show 0<=d/\d<=1;omega)) rfl (by omega)
 ·exact pW (by omega) (by omega) (by omega) (aE _) (λe b=>by cases b) (aL ⟨c,h⟩) rfl (by omega)
 ·refine pW (by omega) (by omega) (λ_=>⟨c,h,h3⟩) (aE _) (λe b=>by cases b) ?_ rfl (by omega);show kD d p=true;unfold kD;rw[aL h3,aL (⟨c,h⟩ : -999999999<=d/\d<=999999999)];rcases l with rfl | l;·rfl
  ·have:d.tmod 10≠0:=λj=>l ((zv d).1 j);rw[aL this];simp
 ·refine pW (by omega) (by omega) (by omega) g (λe b=>(c e b).2) ?_ rfl (by omega);show jM (gC f)=true;have i:(gC f).data.toList.contains 0=false:=by rw[Bool.eq_false_iff];intro i;simp only[gC,List.contains_iff_mem,cv]at i;obtain⟨e,b,j⟩:=i;have:=c e b;have e2:=cq UInt8.toNat j;simp at e2;omega
  unfold jM;rw[um,i,aL (show f.length<=60 by omega)];rfl
 ·exact pW (by omega) (by omega) (by omega) g c (aL (by show(gC f).size<=4000;rw[um];omega)) rfl (by omega)
 ·exact pW (by omega) (by omega) (by omega) (aE _) (λe b=>by cases b) rfl rfl (λ_=>⟨by omega,by omega⟩)
theorem qN{α:Type}{d:α->Nat}{b e:Nat}{c:List α}(f:∀h∈c,d h<=b)(g:c.length<=e):(c.map d).sum<=e*b:=by have i:=Proofs.YtgkljcmjnphpeaaGreatDoor.sum_le d b c f;have j:=Nat.mul_le_mul_left b g;rw[dT e b];omega
theorem uG{k e m:Nat}{d:List (VT k)}{c:List (List Nat)}(i:e=6/\c=[]\/e=7/\c.length=d.length)(s:d.length<=4)(l:lS c)(h:∀f∈d,sI f/\ph f/\KO f/\ii f<=m):rG o (252+4*m) 4 (⟨e,0,0,[],d,c,[]⟩:gz (VT k)):=by
 have j:c.length<=4:=by
  rcases i with⟨_,rfl⟩ | ⟨_,b⟩;· simp
  ·omega
 refine⟨⟨by show e<=7\/e=9;omega,by show _<=(0:Int)/\(0:Int)<=_;omega,λb=>by have b:e=3:=b;omega,λb=>by have b:e=7:=b;show c.length=d.length;omega,λu p=>(by cases p),λg x u p=>(l.bytes j g x u p).2,λf b=>(h f b).1⟩,⟨by show d.length<=_;omega,by show c.length<=_;omega,aE _,λf b=>(h f b).2.1⟩,⟨?_,λf b=>(h f b).2.2.1⟩,?_,λt v z=>?_,s⟩
 ·rcases i with⟨_,rfl⟩ | ⟨_,b⟩;·exact Or.inl rfl
  ·exact Or.inr (by show d.length<=c.length;omega)
 ·show 100+4*0+(d.map λf=>10+ii (k:=k) f).sum+(c.map λg=>10+3*g.length).sum<=_;have r:(d.map λf=>10+ii (k:=k) f).sum<=4*(10+m):=qN (λf b=>by have:=(h f b).2.2.2;omega) s;have y:(c.map λg=>10+3*g.length).sum<=4*28:=qN (λg b=>by have:=l.len g b;omega) j;omega
 ·unfold kG;have e1:decide (t+(⟨e,0,0,[],d,c,[]⟩:gz (VT k)).items.length<=2000)=true:=aL (by show t+d.length<=2000;omega);have e2:decide ((⟨e,0,0,[],d,c,[]⟩:gz (VT k)).kind=8/\1<v)=false:=a_ (λb=>by have r:e=8:=b.1;omega);have w:decide ((⟨e,0,0,[],d,c,[]⟩:gz (VT k)).kind=9/\¬ (1<=(⟨e,0,0,[],d,c,[]⟩:gz (VT k)).n/\(⟨e,0,0,[],d,c,[]⟩:gz (VT k)).n<=(o:Int)))=false:=a_ (λb=>by have r:e=9:=b.1;omega);have q:lX (⟨e,0,0,[],d,c,[]⟩:gz (VT k))=true/\lO (⟨e,0,0,[],d,c,[]⟩:gz (VT k))=true:=by
   rcases i with⟨rfl,rfl⟩ | ⟨rfl,b⟩;·exact⟨by simp[lX],rfl⟩
   ·exact⟨by simp[lX],l.dict j b⟩
  rw[e1,e2,w,q.1,q.2];rfl
theorem hH.mp(a:o<=6):∀(c k:Nat) {f:VT (k+1)},hH o c (k+1) f->rG o (p8 c) 4 (show gz (VT k)from f)
 |0,k,f,e=>lU.mp a e
 |c+1,k,f,e=>by
  have l:∀d:List (VT k),(∀b∈d,hH o c k b)->∀b∈d,sI b/\ph b/\KO b/\ii b<=p8 c:=λd i b j=>by
   cases k with
   |zero=>cases c<;>exact(i b j).elim
   |succ k=>have m:=hH.mp a c k (i b j);exact⟨m.wok,m.few,m.keys,m.len⟩
  rcases e with e | ⟨d,g,h,rfl⟩ | ⟨r,d,g,h,h3,n,rfl⟩
  ·have m:=lU.mp a e;exact⟨m.wok,m.few,m.keys,aD m.len (Ah _),m.one,m.its⟩
  ·exact uG (Or.inl ⟨rfl,rfl⟩) g (λq s p=>by simp at p) (l d h)
  ·exact uG (Or.inr ⟨rfl,g⟩) h h3 (l d n)
theorem q9{k c c':Nat}:∀(d:List (VT (k+1))) (b:Nat),(∀f∈d,∀b,b+c'<=2000->∃e,kq o k b f=some e/\e<=b+c)->b+d.length*c+c'<=2000->∃h,jD o (k+1) b d=some h/\h<=b+d.length*c
 | [],b,_,_=>⟨b,rfl,by simp⟩
 |f::d,b,g,l=>by rw[ag,Nat.succ_mul]at l;obtain⟨e,e1,n⟩:=g f (aQ ..) b (by omega);obtain⟨m,e2,p⟩:=q9 d e (λi j=>g i (aV _ j)) (by omega);refine⟨m,?_,by rw[ag,Nat.succ_mul];omega⟩;rw[oP,e1];exact e2
theorem vK(k b:Nat):jD o k b []=some b:=by cases k<;>rfl
theorem hH.step(a:o<=6):∀(c k:Nat) {e:VT (k+1)},hH o c (k+1) e->∀b,b+(2*pI c+4)<=2000->∃g,kq o k b e=some g/\g<=b+pI c
 |0,k,e,f,b,s=>by refine⟨b,?_,by simp⟩;have i:gz.items (α:=VT k) e=[]:=lU.items f;unfold kq;rw[aA ((lU.mp a f).one b _ (by omega))];show jD o k (b+(gz.items (α:=VT k) e).length) (gz.items (α:=VT k) e)=_;rw[i];exact vK k b
 |c+1,k,e,f,b,s=>by
  have j:=(hH.mp a (c+1) k f).one b (12-k) (by omega);unfold kq;rw[aA j];clear j;have m:∀d:List (VT k),d.length<=4->(∀v∈d,hH o c k v)->∃g,jD o k (b+d.length) d=some g/\g<=b+pI (c+1):=λd r t=>by
   have w:pI (c+1)=4+4*pI c:=rfl;cases k with
   |zero=>exact⟨_,rfl,by omega⟩
   |succ k=>have x:=cM (pI c) r;obtain⟨u,e2,h⟩:=q9 d (b+d.length) (λn q=>hH.step a c k (t n q)) (by omega);exact⟨u,e2,by omega⟩
  rcases f with f | ⟨d,l,h,rfl⟩ | ⟨y,d,l,h,h3,p,rfl⟩
  ·have i:gz.items (α:=VT k) e=[]:=lU.items f;show ∃g,jD o k (b+(gz.items (α:=VT k) e).length) (gz.items (α:=VT k) e)=some g/\_;rw[i];exact⟨b,vK k b,by omega⟩
  ·exact m d l h
  ·exact m d h p
end
end
end Go.Proofs.YtgkljcmjnphpeaaGreatDoor
