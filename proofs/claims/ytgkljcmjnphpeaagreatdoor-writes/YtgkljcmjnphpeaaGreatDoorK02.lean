import Derived.Test.YtgkljcmjnphpeaaGreatDoorK01
set_option linter.defProp false
set_option linter.unusedVariables false
set_option linter.unusedSimpArgs false
set_option maxHeartbeats 2000000
set_option maxRecDepth 100000
open List renaming length->G
open Go.Value renaming pointer->A3,tuple->BG,agg->Bc,bool->Bs,int->I,slice->Z,string->y7
open Go.Obj renaming cells->BV
open Go.Ending renaming returned->BX
open Or renaming inl->C1,inr->C2
open Bool renaming true->CD,false->CS
open Go.Proofs.Tryz renaming prog->DG
open List renaming replicate->DJ
open Option renaming none->N,some->O
open Go.IntKind renaming i64->U
open Go renaming World->vz,Addr->wT,Value->wg,Calls->wh
open Go.RowKit renaming Below->wm,Hid->wt
open Go.Proofs.Tryz
namespace Go.Proofs.YtgkljcmjnphpeaaGreatDoor
open Go.RowKit
def kh(a:Nat->Nat)(d:List Nat):Nat->Nat->Nat->Nat->List Bool->Option (Nat×List Bool)
 |0,_,_,_,_=>N
 |_+1,_,_,_,[]=>N
 |e+1,len,c,place,b::r=>if 2*c+b.toNat<a len then O (d.getD (place+(2*c+b.toNat)) 0,r)else kh a d e (len+1) (2*c+b.toNat-a len) (place+a len) r
def Ah(a c:List Nat):∀(k len code first place:Nat) (r:List Bool),first<=code->kP a c k len code first place r=kh (λe=>a.getD e 0) c k len (code-first) place r
 |0,_,_,_,_,_,_=>by simp[kP,kh]
 |k+1,len,code,first,place,[],_=>by simp[kP,kh]
 |k+1,len,code,first,place,b::r,h=>by
  simp only[kP,kh];have f:2*(code-first)+b.toNat=2*code+b.toNat-2*first:=Y
  by_cases d:2*code+b.toNat<2*first+a.getD len 0
  ·rw[ak d,ak Y];congr 3;omega
  ·rw[aj d,aj Y,Ah a c k _ _ _ _ r Y];congr 1;omega
def vE(a b:List Nat)(r:List Bool):kg a b r=kh (λc=>a.getD c 0) b 15 1 0 0 r:=Ah a b 15 1 0 0 0 r (ag _)
def Ag(d e:Nat->Nat)(f:List Nat):∀(k len c place:Nat) (r:List Bool),(∀a,len<=a->a<len+k->d a=e a)->kh d f k len c place r=kh e f k len c place r
 |0,_,_,_,_,_=>rfl
 |k+1,len,c,place,[],_=>rfl
 |k+1,len,c,place,b::r,h=>by
  simp only[kh];rw[h len (ag _) Y];split;·rfl
  ·exact Ag d e f k _ _ _ r (λa g i=>h a Y Y)
def k_:List Bool->Nat->Nat
 | [],a=>a
 |b::r,a=>k_ r (2*a+b.toNat)
def vU:∀(c:List Bool) (a k:Nat),k_ c (a+k)=k_ c a+2^(G c)*k
 | [],a,k=>by simp[k_]
 |b::c,a,k=>by simp only[k_,ai,c_];rw[show 2*(a+k)+b.toNat=(2*a+b.toNat)+2*k by omega,vU c _ (2*k)];rw[dS]
def vT:∀(c:List Bool) (a:Nat),k_ c a<2^(G c)*(a+1)
 | [],a=>by simp[k_]
 |b::c,a=>by
  have h:=vT c (2*a+b.toNat);have e:b.toNat<=1:=by cases b<;>decide
  have d:2^(G c)*(2*a+b.toNat+1)<=2^(G c)*(2*(a+1)):=Nat.mul_le_mul_left _ Y;simp only[k_,ai,c_];rw[dS];omega
def zH:∀(d c:List Bool) (a:Nat),G d=G c->k_ d a=k_ c a->d=c
 | [],[],_,_,_=>rfl
 | [],_::_,_,h,_=>by simp at h
 |_::_,[],_,h,_=>by simp at h
 |b::d,e::c,a,h,i=>by
  simp only[ai,Nat.add_right_cancel_iff]at h;simp only[k_]at i;have l:b=e:=by
   have m:=vT d (2*a+b.toNat);have o:=vT c (2*a+e.toNat);have j:∀(g:List Bool) (f:Nat),2^(G g)*f<=k_ g f:=λg f=>by have:=vU g 0 f;rw[bZ]at this;omega
   have k:=j d (2*a+b.toNat);have n:=j c (2*a+e.toNat);rw[h]at m k;cases b<;>cases e<;>simp only[Bool.toNat_false,Bool.toNat_true,eD]at *
   ·have:2^(G c)*(2*a+1)<=2^(G c)*(2*a+1):=ag _;omega
   ·omega
  subst l;rw[zH d c _ h i]
def xJ(b:Nat):∀a c,k_ (gG b a) c=2^a*c+b%2^a
 |0,c=>by simp[gG,k_,Nat.mod_one]
 |a+1,c=>by
  simp only[gG,k_];rw[xJ b a,c_,Nat.mod_mul];have:(b >>> a%2==1).toNat=b/2^a%2:=by rw[Nat.shiftRight_eq_div_pow];have:=dY (b/2^a);rcases this with h|h<;>simp[h]
  rw[this,Nat.mul_add,dS];omega
def qt(b:Nat):∀a,(gG b a).length=a
 |0=>rfl
 |a+1=>by simp[gG,qt b a]
def nH(c:Nat->Nat):Nat->Nat->Nat->List Bool->Option (Nat×List Bool)
 |_,_,_,[]=>N
 |0,_,a,b::r=>O (2*a+b.toNat,r)
 |d+1,len,a,b::r=>if 2*a+b.toNat<c len then N else nH c d (len+1) (2*a+b.toNat-c len) r
def kR(a:Nat->Nat):Nat->Nat->Nat
 |0,_=>0
 |b+1,len=>2^(b+1)*a len+kR a b (len+1)
def vO(f:Nat->Nat):∀(g len c:Nat) (r:List Bool) (l:Nat) (k:List Bool),
  nH f g len c r=O (l,k)↔∃a,G a=g+1/\r=a++k/\k_ a c=l+kR f g len
 |g,len,c,[],l,k=>by
  constructor;·intro h;cases g<;>simp[nH]at h
  ·rintro⟨a,d,e,_⟩;have:=cX List.length e;simp at this;omega
 |0,len,c,b::r,l,k=>by
  constructor
  ·intro h;simp only[nH,Option.some.injEq,Prod.mk.injEq]at h;exact⟨[b],rfl,by rw[h.2];rfl,by simp[k_,kR,h.1]⟩
  ·rintro⟨a,d,e,j⟩;match a,d with
   | [i],_=>simp only[bH,cU,List.cons.injEq]at e;simp only[k_,kR,eD]at j;simp only[nH,e.1,e.2,j]
 |g+1,len,c,b::r,l,k=>by
  have m:=vO f g (len+1) (2*c+b.toNat-f len) r l k;constructor
  ·intro h;simp only[nH]at h;by_cases i:2*c+b.toNat<f len;·rw[ak i]at h;cases h
   ·rw[aj i]at h;obtain⟨a,d,e,j⟩:=m.1 h;refine⟨b::a,by simp[d],by rw[e];rfl,?_⟩;simp only[k_,kR];have:=vU a (2*c+b.toNat-f len) (f len);rw[Nat.sub_add_cancel Y,j,d]at this;omega
  ·rintro⟨a,d,e,j⟩;match a,d with
   |i::a,d=>
    simp only[bH,List.cons.injEq]at e;obtain⟨rfl,e⟩:=e;simp only[ai,Nat.add_right_cancel_iff]at d;simp only[k_,kR]at j;have o:=vT a (2*c+b.toNat);rw[d]at o;have n:¬2*c+b.toNat<f len:=by intro i;have:2^(g+1)*(2*c+b.toNat+1)<=2^(g+1)*f len:=Nat.mul_le_mul_left _ i;omega
    simp only[nH];rw[aj n];refine m.2 ⟨a,d,e,?_⟩;have:=vU a (2*c+b.toNat-f len) (f len);rw[Nat.sub_add_cancel Y,d]at this;omega
def uF(c:Nat->Nat)(e:List Nat):∀(k len d place:Nat) (r:List Bool),(∀a,len<=a->c a=0)->kh c e k len d place r=N
 |0,_,_,_,_,_=>rfl
 |k+1,len,d,place,[],_=>rfl
 |k+1,len,d,place,b::r,h=>by simp only[kh];rw[aj (by rw[h len (ag _)];omega)];exact uF c e k _ _ _ r (λa f=>h a Y)
def mI(a:Nat->Nat):Nat->Nat->Nat
 |0,_=>0
 |b+1,len=>a len+mI a b (len+1)
def Ai(a:Nat->Nat)(g:List Nat)(d:Nat)(l:∀e,d<e->a e=0):∀(f len c place k:Nat) (r:List Bool),len+f=d->f<k ->kh (λe=>if e=d then a d+1 else a e) g k len c place r =
    match nH a f len c r with
    |some (s,q)=>if s=a d then O (g.getD (place+mI a f len+a d) 0,q)else kh a g k len c place r
    |none=>kh a g k len c place r
 |f,len,c,place,0,r,i,j=>Y
 |f,len,c,place,k+1,[],i,j=>by cases f<;>simp[nH,kh]
 |0,len,c,place,k+1,b::r,i,j=>by
  obtain rfl:len=d:=Y;simp only[kh,nH,mI,if_true,eD];by_cases h:2*c+b.toNat=a len;·rw[ak h,ak Y,h]
  ·rw[aj h];by_cases n:2*c+b.toNat<a len;·rw[ak n,ak Y]
   ·rw[aj n,aj Y];rw[uF _ g k (len+1) _ _ r (λe o=>by rw[aj Y];exact l e Y),uF a g k (len+1) _ _ r (λe o=>l e Y)]
 |f+1,len,c,place,k+1,b::r,i,j=>by
  have p:len≠d:=Y;simp only[kh,nH,aj p];by_cases m:2*c+b.toNat<a len;·simp only[ak m]
  ·simp only[aj m];rw[Ai a g d l f (len+1) _ (place+a len) k r Y Y];simp only[mI,eO]
def xP(c:Nat->Nat)(n:List Nat)(h:Nat)(p:∀i,h<i->c i=0):∀(e len d place k:Nat) (r:List Bool) (f:Nat) (g:List Bool),len+e=h->e<k->nH c e len d r=O (f,g)->c h<=f->kh c n k len d place r=N
 |e,len,d,place,0,r,f,g,l,m,_,_=>Y
 |e,len,d,place,k+1,[],f,g,l,m,a,_=>rfl
 |0,len,d,place,k+1,b::r,f,g,l,m,a,o=>by obtain rfl:len=h:=Y;simp only[nH,Option.some.injEq,Prod.mk.injEq]at a;simp only[kh];rw[aj Y];exact uF c n k (len+1) _ _ r (λi q=>p i Y)
 |e+1,len,d,place,k+1,b::r,f,g,l,m,a,o=>by
  simp only[nH]at a;by_cases j:2*d+b.toNat<c len;·rw[ak j]at a;cases a
  ·rw[aj j]at a;simp only[kh];rw[aj j];exact xP c n h p e (len+1) _ _ k r f g Y Y a o
def gL(T:List (Int×Int))(a:Nat)(b:Bool):Int:=if b then(T.getD a (0,0)).2 else(T.getD a (0,0)).1
def kn(T:List (Int×Int))(a:Nat)(b:Bool)(c:Int):List (Int×Int):=T.set a (if b then((T.getD a (0,0)).1,c)else(c,(T.getD a (0,0)).2))
def iY(a:List (Int×Int)):Nat->List Bool->Option (Nat×List Bool)
 |_,[]=>N
 |c,b::r=>if gL a c b<0 then O ((-1-gL a c b).toNat,r)else if gL a c b=0 then N else iY a (gL a c b).toNat r
def jr(T:List (Int×Int)):List Bool->Option Nat
 | []=>O 0
 |b::c=>match jr T c with
  |none=>N
  |some a=>if 0<gL T a b then O (gL T a b).toNat else N
structure mq(T:List (Int×Int))(m:Nat):Prop where
 pos:0<G T
 lt:∀a b,a<G T->gL T a b<G T
 one:∀a b a' b',a<G T->a'<G T->0<gL T a b->gL T a b=gL T a' b'->a=a'/\b=b'
 deep:∀u a,jr T u=O a->G u<m
def jC{e:List (Int×Int)}{a:Nat}{b:Bool}{f:Int}(i:a<G e)(c:Nat)(d:Bool):gL (kn e a b f) c d=if a=c/\b=d then f else gL e c d:=by
 unfold gL kn;by_cases h:a=c
 ·subst h;simp only[aL,List.getElem?_set_self i,Option.getD_some,true_and];cases b<;>cases d<;>simp
 ·have j:¬(a=c/\b=d):=λg=>h g.1;simp only[aL,List.getElem?_set_ne h,aj j]
def l_(T:List (Int×Int))(a:Nat)(b:Bool)(c:Int):(kn T a b c).length=G T:=by simp[kn]
def s7{T:List (Int×Int)}{a:Nat}(h:G T<=a)(b:Bool):gL T a b=0:=by unfold gL;simp only[aL,List.getElem?_eq_none h,Option.getD_none];cases b<;>rfl
def pX{T:List (Int×Int)}(a:Nat)(b:Bool):gL (T++[(0,0)]) a b=gL T a b:=by
 by_cases h:a<G T;·unfold gL;simp only[aL,aR h]
 ·rw[s7 (T:=T) Y];unfold gL;simp only[aL];rw[aW Y];by_cases c:a-G T=0;·rw[c];cases b<;>rfl
  ·rw[List.getElem?_eq_none eS];cases b<;>rfl
def qX{c:List (Int×Int)}{j:Nat}(h:mq c j):∀e d,jr c e=O d->d<G c
 | [],d,a=>by simp only[jr,Option.some.injEq]at a;have:=h.pos;omega
 |b::e,d,a=>by
  simp only[jr]at a;cases g:jr c e with
  |none=>rw[g]at a;cases a
  |some f=>
   rw[g]at a;simp only[]at a;by_cases i:0<gL c f b
   ·rw[ak i]at a;simp only[Option.some.injEq]at a;have:=h.lt f b (qX h e f g);omega
   ·rw[aj i]at a;cases a
def xO{a:List (Int×Int)}{o:Nat}(h:mq a o):∀e f g,jr a e=O g->jr a f=O g->e=f
 | [],[],_,_,_=>rfl
 | [],b::f,g,e1,e2=>by
  simp only[jr,Option.some.injEq]at e1 e2;cases c:jr a f with
  |none=>rw[c]at e2;cases e2
  |some k=>
   rw[c]at e2;simp only[]at e2;by_cases d:0<gL a k b;·rw[ak d]at e2;simp only[Option.some.injEq]at e2;omega
   ·rw[aj d]at e2;cases e2
 |b::e,[],g,e1,e2=>by
  simp only[jr,Option.some.injEq]at e1 e2;cases c:jr a e with
  |none=>rw[c]at e1;cases e1
  |some k=>
   rw[c]at e1;simp only[]at e1;by_cases d:0<gL a k b;·rw[ak d]at e1;simp only[Option.some.injEq]at e1;omega
   ·rw[aj d]at e1;cases e1
 |b::e,d::f,g,e1,e2=>by
  simp only[jr]at e1 e2;cases c:jr a e with
  |none=>rw[c]at e1;cases e1
  |some i=>
   cases j:jr a f with
   |none=>rw[j]at e2;cases e2
   |some l=>
    rw[c]at e1;rw[j]at e2;simp only[]at e1 e2;by_cases m:0<gL a i b
    ·by_cases n:0<gL a l d
     ·rw[ak m]at e1;rw[ak n]at e2;simp only[Option.some.injEq]at e1 e2;obtain⟨rfl,rfl⟩:=h.one i b l d (qX h e i c) (qX h f l j) m Y;rw[xO h e f i c j]
     ·rw[aj n]at e2;cases e2
    ·rw[aj m]at e1;cases e1
def yt{T:List (Int×Int)}{o:Nat}(h:mq T o){d:Nat}{b:Bool}(m:d<G T)(k:gL T d b=0):∀(a:List Bool) (c:Nat),c<G T->iY (kn (T++[(0,0)]) d b (G T)) c a=iY T c a
 | [],c,_=>rfl
 |g::a,c,n=>by
  have l:d<(T++[(0,0)]).length:=eS;simp only[iY,jC l,pX];by_cases i:d=c/\b=g
  ·obtain⟨rfl,rfl⟩:=i;simp only[true_and,if_true,k,Int.lt_irrefl,if_false];rw[aj Y,aj qq];have j:∀a,iY (kn (T++[(0,0)]) d b (G T)) (G T) a=N:=by
    intro a;cases a with
    |nil=>rfl
    |cons p a=>
     have j:¬(d=G T/\b=p):=by rintro⟨i,_⟩;omega
     simp only[iY,jC l,pX,aj j,s7 (ag (G T))];simp
   rw[show((G T:Int)).toNat=G T by omega];exact j a
  ·rw[aj i];by_cases e:gL T c g<0;·rw[ak e,ak e]
   ·rw[aj e,aj e];by_cases f:gL T c g=0;·rw[ak f,ak f]
    ·rw[aj f,aj f];exact yt h m k a _ (by have:=h.lt c g n;omega)
def Cv{c:List (Int×Int)}{r:Nat}(h:mq c r){d:Nat}{b:Bool}(n:d<G c)(o:gL c d b=0):∀(e:List Bool) (f:Nat),jr (kn (c++[(0,0)]) d b (G c)) e=O f->jr c e=O f\/(f=G c/\∃k,e=b::k/\jr c k=O d)
 | [],f,a=>C1 a
 |m::e,f,a=>by
  have p:d<(c++[(0,0)]).length:=eS;simp only[jr]at a ⊢;cases j:jr (kn (c++[(0,0)]) d b (G c)) e with
  |none=>rw[j]at a;cases a
  |some l=>
   rw[j]at a;simp only[jC p,pX]at a;rcases Cv h n o e l j with i|⟨rfl,k,rfl,i⟩
   ·by_cases g:d=l/\b=m
    ·obtain⟨rfl,rfl⟩:=g;simp only[true_and,if_true]at a;rw[ak qq]at a;simp only[Option.some.injEq]at a;exact C2 ⟨Y,e,rfl,i⟩
    ·rw[aj g]at a;rw[i];exact C1 a
   ·have q:¬(d=G c/\b=m):=by rintro⟨g,_⟩;omega
    simp only[aj q,s7 (ag (G c))]at a;simp at a
def xN{c:List (Int×Int)}{n:Nat}(h:mq c n){d:Nat}{b:Bool}(k:d<G c)(j:gL c d b=0):∀(e:List Bool) (f:Nat),jr c e=O f->jr (kn (c++[(0,0)]) d b (G c)) e=O f
 | [],f,a=>a
 |o::e,f,a=>by
  have l:d<(c++[(0,0)]).length:=eS;simp only[jr]at a ⊢;cases g:jr c e with
  |none=>rw[g]at a;cases a
  |some i=>
   rw[g]at a;rw[xN h k j e i g];simp only[jC l,pX]at a ⊢;have m:¬(d=i/\b=o):=by rintro⟨rfl,rfl⟩;rw[j]at a;simp at a
   simp only[aj m];exact a
def mq.grow{a:List (Int×Int)}{q:Nat}(h:mq a q){o:List Bool}{e:Nat}{b:Bool}(s:jr a o=O e)(y:G o+1<q)(x:gL a e b=0):mq (kn (a++[(0,0)]) e b (G a)) q:=by
 have w:=qX h o e s;have n:e<(a++[(0,0)]).length:=eS;have r:(kn (a++[(0,0)]) e b (G a)).length=G a+1:=by rw[l_];simp
 refine⟨Y,?_,?_,?_⟩
 ·intro c g A;rw[r]at A ⊢;rw[jC n,pX];split;·omega
  ·by_cases d:c<G a;·have:=h.lt c g d;omega
   ·rw[s7 Y];omega
 ·intro c g i p k v l f;rw[r]at k v;rw[jC n,pX]at l;rw[jC n,jC n,pX,pX]at f;have t:=λc g=>by
   by_cases d:c<G a;·exact h.lt c g d
   ·rw[s7 Y];have:=h.pos;omega
  by_cases m:e=c/\b=g
  ·by_cases j:e=i/\b=p;·exact⟨m.1.s.t j.1,m.2.s.t j.2⟩
   ·rw[ak m,aj j]at f;have:=t i p;omega
  ·rw[aj m]at l f;by_cases j:e=i/\b=p
   ·rw[ak j]at f;have:=t c g;omega
   ·rw[aj j]at f;have B:c<G a:=by
     rcases cW c (G a) with d|d;·exact d
     ·rw[s7 d]at l;omega
    have C:i<G a:=by
     rcases cW i (G a) with d|d;·exact d
     ·rw[f,s7 d]at l;omega
    exact h.one c g i p B C l f
 ·intro u c z;rcases Cv h w x u c z with k|⟨rfl,D,rfl,k⟩;·exact h.deep u c k
  ·rw[xO h D o e k s];simpa using y
def pY(b:List (Int×Int)):Nat->List Bool->Option Nat
 |a,[]=>O a
 |a,c::d=>if 0<gL b a c then pY b (gL b a c).toNat d else N
def zz(a:List (Int×Int))(c:Bool):∀(d:List Bool) (b:Nat),pY a b (d++[c])=match pY a b d with
  |none=>N
  |some k=>if 0<gL a k c then O (gL a k c).toNat else N
 | [],b=>by simp only[cU,pY]
 |f::d,b=>by
  simp only[bH,pY];by_cases e:0<gL a b f;·simp only[ak e];exact zz a c d _
  ·simp only[aj e]
def vD(b:List (Int×Int)):∀a,jr b a=pY b 0 a.reverse
 | []=>rfl
 |c::a=>by rw[List.reverse_cons,zz,<-vD b a];rfl
def pZ(a:List (Int×Int))(e:Nat)(b:Bool):Nat->List Bool->Option (List Bool)
 |_,[]=>N
 |c,d::f=>if e=c/\b=d then O f else if 0<gL a c d then pZ a e b (gL a c d).toNat f else N
def zG{g:List (Int×Int)}{i:Nat}{b:Bool}:∀(e:List Bool) (a:Nat) (c:List Bool),pZ g i b a e=O c->∃f,e=f++b::c/\pY g a f=O i
 | [],a,c,h=>by simp[pZ]at h
 |k::e,a,c,h=>by
  simp only[pZ]at h;by_cases d:i=a/\b=k
  ·rw[ak d]at h;simp only[Option.some.injEq]at h;exact⟨[],by rw[d.2,h];rfl,by rw[pY,d.1]⟩
  ·rw[aj d]at h;by_cases j:0<gL g a k
   ·rw[ak j]at h;obtain⟨f,l,m⟩:=zG e _ c h;exact⟨k::f,by rw[l];rfl,by simp only[pY,ak j];exact m⟩
   ·rw[aj j]at h;cases h
def zF{c:List (Int×Int)}{d:Nat}{b:Bool}(k:gL c d b=0)(g:List Bool):∀(e:List Bool) (a:Nat),pY c a e=O d->pZ c d b a (e++b::g)=O g
 | [],a,h=>by simp only[pY,Option.some.injEq]at h;simp only[cU,pZ,h,true_and,if_true]
 |i::e,a,h=>by
  simp only[pY]at h;by_cases f:0<gL c a i
  ·rw[ak f]at h;have j:¬(d=a/\b=i):=by rintro⟨rfl,rfl⟩;omega
   simp only[bH,pZ,aj j,ak f];exact zF k g e _ h
  ·rw[aj f]at h;cases h
def AF{c:List (Int×Int)}{e:Nat}{b:Bool}{g:Nat}(k:e<G c)(l:gL c e b=0):∀(f:List Bool) (a:Nat),iY (kn c e b (-1-(g:Int))) a f=match pZ c e b a f with
   |some m=>O (g,m)
   |none=>iY c a f
 | [],a=>by simp[iY,pZ]
 |d::f,a=>by
  simp only[iY,pZ,jC k];by_cases i:e=a/\b=d
  ·simp only[ak i];rw[ak Y,show(-1-(-1-(g:Int))).toNat=g by omega]
  ·simp only[aj i];by_cases h:gL c a d<0
   ·have:¬0<gL c a d:=Y;simp only[ak h,aj this]
   ·by_cases j:gL c a d=0
    ·have:¬0<gL c a d:=Y;simp only[aj h,ak j,aj this]
    ·have:0<gL c a d:=Y;simp only[aj h,aj j,ak this];exact AF k l f _
def E7{c:List (Int×Int)}{q:Nat}(h:mq c q){g:List Bool}{e:Nat}{b:Bool}{i:Nat}(f:jr c g=O e)(j:gL c e b=0)(d:List Bool):(∀a,d=g.reverse++b::a->iY (kn c e b (-1-(i:Int))) 0 d=O (i,a))/\((∀a,d≠g.reverse++b::a)->iY (kn c e b (-1-(i:Int))) 0 d=iY c 0 d):=by
 have m:=qX h g e f;rw[AF m j d 0];constructor
 ·rintro a rfl;rw[vD]at f;rw[zF j a _ 0 f]
 ·intro o;cases n:pZ c e b 0 d with
  |none=>rfl
  |some a=>
   obtain⟨r,k,l⟩:=zG d 0 a n;have p:jr c r.reverse=O e:=by rw[vD,List.reverse_reverse];exact l
   have:=xO h _ _ _ p f;exact absurd (by rw[k,<-this,List.reverse_reverse]) (o a)
def z9{a:List (Int×Int)}{d:Nat}{b:Bool}{i:Nat}(f:d<G a)(g:gL a d b=0):∀c,jr (kn a d b (-1-(i:Int))) c=jr a c
 | []=>rfl
 |j::c=>by
  simp only[jr];rw[z9 f g c];cases jr a c with
  |none=>rfl
  |some h=>
   simp only[jC f];by_cases e:d=h/\b=j
   ·obtain⟨rfl,rfl⟩:=e;simp only[true_and,if_true,g];rw[aj Y,aj Y]
   ·simp only[aj e]
def mq.leaf{f:List (Int×Int)}{q:Nat}(h:mq f q){c:Nat}{b:Bool}{t:Nat}(e:c<G f)(s:gL f c b=0):mq (kn f c b (-1-(t:Int))) q:=by
 refine⟨by rw[l_];exact h.pos,?_,?_,?_⟩
 ·intro a i p;rw[l_]at p ⊢;rw[jC e];split;·omega
  ·exact h.lt a i p
 ·intro a i j r m n g d;rw[l_]at m n;rw[jC e]at g;rw[jC e,jC e]at d;by_cases k:c=a/\b=i;·rw[ak k]at g;omega
  ·rw[aj k]at g d;by_cases l:c=j/\b=r;·rw[ak l]at d;omega
   ·rw[aj l]at d;exact h.one a i j r m n g d
 ·intro u a o;rw[z9 e s]at o;exact h.deep u a o
def mq.m{b:List (Int×Int)}{m n:Nat}(h:mq b m)(c:m<=n):mq b n:=⟨h.pos,h.lt,h.one,λe a d=>aF (h.deep e a d) c⟩
def wC(a:List (Int×Int))(d:List Bool):∀(c:List Bool) (b k:Nat),pY a b c=O k->iY a b (c++d)=iY a k d
 | [],b,k,h=>by simp only[pY,Option.some.injEq]at h;rw[h];rfl
 |e::c,b,k,h=>by
  simp only[pY]at h;by_cases f:0<gL a b e
  ·rw[ak f]at h;have g:¬gL a b e<0:=Y;have i:¬gL a b e=0:=Y;simp only[bH,iY,aj g,aj i];exact wC a d c _ k h
  ·rw[aj f]at h;cases h
def lg(s:Nat):List (Int×Int)->Nat->List Bool->List (Int×Int)
 |T,_,[]=>T
 |T,a,[b]=>kn T a b (-1-(s:Int))
 |T,a,b::c::r=>if gL T a b=0 then lg s (kn (T++[(0,0)]) a b (G T)) (G T) (c::r)else lg s T (gL T a b).toNat (c::r)
def xR(m:Nat):∀(k:List Bool) (T:List (Int×Int)) (j:Nat) (d:List Bool) (a:Nat),mq T j->jr T d=O a->k≠[]->G d+G k=j->(∀c,iY T 0 (d.reverse++(k++c))=N) ->mq (lg m T a k) j/\∀e,(∀c,e=d.reverse++(k++c)->iY (lg m T a k) 0 e=O (m,c))/\((∀c,e≠d.reverse++(k++c))->iY (lg m T a k) 0 e=iY T 0 e)
 | [],T,j,d,a,_,_,h,_,_=>absurd rfl h
 | [b],T,j,d,a,h,f,_,o,p=>by
  have n:=qX h d a f;have q:=f;rw[vD]at q;have i:gL T a b=0:=by
   have g:=p [];rw[wC T _ _ 0 a q]at g;simp only[bP,iY]at g;by_cases u:gL T a b<0;·rw[ak u]at g;cases g
   ·by_cases y:gL T a b=0;·exact y
    ·exfalso;have B:jr T (b::d)=O (gL T a b).toNat:=by simp only[jr,f];rw[ak Y]
     have:=h.deep _ _ B;simp at this o;omega
  refine⟨h.leaf n i,λe=>?_⟩;exact E7 h f i e
 |b::u::r,T,j,d,a,h,f,_,o,p=>by
  have n:=qX h d a f;have q:=f;rw[vD]at q;have C:¬gL T a b<0:=by intro x;have g:=p [];rw[wC T _ _ 0 a q]at g;simp only[bH,iY]at g;rw[ak x]at g;cases g
  simp only[lg];by_cases i:gL T a b=0
  ·rw[ak i];have A:a<(T++[(0,0)]).length:=eS;have z:=h.grow f (by simp at o;omega) i;have w:jr (kn (T++[(0,0)]) a b (G T)) (b::d)=O (G T):=by simp only[jr,xN h n i d a f,jC A,true_and,if_true];rw[ak qq];simp
   have t:=xR m (u::r) _ j (b::d) (G T) z w cO (by simp at o ⊢;omega) (λc=>by rw[yt h n i _ 0 h.pos];have:=p c;simpa using this)
   refine⟨t.1,λe=>?_⟩;have s:=t.2 e;constructor
   ·intro c l;exact s.1 c (by rw[l];simp)
   ·intro l;rw[s.2 (λc v=>l c (by rw[v];simp)),yt h n i e 0 h.pos]
  ·rw[aj i];have w:jr T (b::d)=O (gL T a b).toNat:=by simp only[jr,f];rw[ak Y]
   have t:=xR m (u::r) T j (b::d) _ h w cO (by simp at o ⊢;omega) (λc=>by have:=p c;simpa using this)
   refine⟨t.1,λe=>?_⟩;have s:=t.2 e;constructor
   ·intro c l;exact s.1 c (by rw[l];simp)
   ·intro l;exact s.2 (λc v=>l c (by rw[v];simp))
def mq.start:mq [(0,0)] 1:=by
 have d:∀a b,gL [(0,0)] a b=0:=λa b=>by have:=pX (T:=[]) a b;rw[cU]at this;rw[this,s7 cO]
 refine⟨cO,λa b _=>by rw[d];simp,λa b g i _ _ h _=>by rw[d]at h;omega,λe a c=>?_⟩;cases e with
 |nil=>simp
 |cons j e=>
  simp only[jr]at c;cases f:jr [(0,0)] e with
  |none=>rw[f]at c;cases c
  |some k=>rw[f]at c;simp only[d]at c;simp at c
def E8(a:List Bool):iY [(0,0)] 0 a=N:=by
 cases a with
 |nil=>rfl
 |cons b a=>
  have c:gL [(0,0)] 0 b=0:=by cases b<;>rfl
  simp[iY,c]
def EO{e:List (Int×Int)}{b:Nat->Nat}{j:List Nat}{a s:Nat}(J:1<=a)(K:a<=15)(r:∀i,a<i->b i=0)(h:mq e a)(n:∀d,iY e 0 d=kh b j 15 1 0 0 d)
  {code:Nat} (o:code=b a+kR b (a-1) 1) (z:code<2^a) (B:j.getD (mI b (a-1) 1+b a) 0=s):mq (lg s e 0 (gG code a)) a/\∀d,iY (lg s e 0 (gG code a)) 0 d=kh (λi=>if i=a then b a+1 else b i) j 15 1 0 0 d:=by
 have p:=qt code a;have q:k_ (gG code a) 0=code:=by rw[xJ,dR z];omega
 have l:∀c,nH b (a-1) 1 0 (gG code a++c)=O (b a,c):=λc=>by rw[vO];exact⟨gG code a,Y,rfl,by rw[q];exact o⟩
 have A:∀c,iY e 0 (gG code a++c)=N:=λc=>by rw[n];exact xP b j a r (a-1) 1 0 0 15 _ (b a) c Y Y (l c) (ag _)
 obtain⟨v,w⟩:=xR s (gG code a) e a [] 0 h rfl (by intro g;rw[g]at p;simp at p;omega) eS (λc=>by simpa using A c);refine⟨v,λd=>?_⟩;have m:=w d;rw[Ai b j a r (a-1) 1 0 0 15 d Y Y];cases f:nH b (a-1) 1 0 d with
 |none=>
  rw[m.2 (λc g=>by
   have e2:d=gG code a++c:=by simpa using g
   rw[e2,l c]at f;cases f)]
  exact n d
 |some E=>
  obtain⟨D,c⟩:=E;simp only[];by_cases k:D=b a
  ·rw[ak k];subst k;obtain⟨u,F,x,y⟩:=(vO b (a-1) 1 0 d _ c).1 f;have C:u=gG code a:=zH u _ 0 Y (by rw[y,q];exact o.s);subst C;rw[m.1 c (by simpa using x)];rw[bZ,B]
  ·rw[aj k,m.2 (λt g=>by
    have e2:d=gG code a++t:=by simpa using g
    rw[e2,l t]at f;simp only[Option.some.injEq,Prod.mk.injEq]at f;exact k f.1.s)]
   exact n d
section
variable{B b:Nat}{S:ByteArray}{d:Nat}{w:vz}{p:Nat}{j:wg}{f:List Nat}{e:Nat}
def qC(w:vz)(k:Nat)(a:List (Int×Int)):Prop:=
 ∃i g h l m,w.heap[k]?=O (BV #[Z (O ⟨i,0,N⟩) (G a) g] 252 l)/\w.heap[i]?=O (BV h 249 m)/\G a<=g/\G a<=100000/\g<=9223372036854775807 /\
  ∀c,c<G a->h[2*c]?=O (I U (gL a c CS))/\h[2*c+1]?=O (I U (gL a c CD))
def qC.kept{a:Nat}{q:List (Int×Int)}{u:vz}{c:List Nat}(h:qC w a q)(k:Kept 5 B c w u)(t:∀C∈c,∃i m,w.heap[C]?=O (BV i 106 m)):qC u a q:=by
 obtain⟨g,i,v,m,x,r,s,y⟩:=h;have z:a∉c:=λo=>by obtain⟨l,n,e⟩:=t a o;rw[r]at e;simp at e
 have A:g∉c:=λo=>by obtain⟨l,n,e⟩:=t g o;rw[s]at e;simp at e
 exact⟨g,i,v,m,x,k.block a _ z r (C2 (by intro l n e;simp at e)),k.block g _ A s (C2 (by intro l n e;simp at e)),y⟩
def kH.isIn(h:kH B b S d w p j f e):∀a∈[b],∃c g,w.heap[a]?=O (BV c 106 g):=by
 intro a i;obtain rfl:a=b:=by simpa using i
 exact⟨_,_,h.blk⟩
def CN(h:Option (Nat×List Bool))(S:ByteArray)(g c a e:Nat):Prop:=match h with
 |some (i,r)=>c=i/\e=0/\hH S a=r/\a<=8*S.size
 |none=>e=5/\c<=g
def Bz(h:kH B b S d w p j f 0)(c:p<8*S.size):wh DG 112 #[A3 (O ⟨b,0,N⟩),I U 1] w λg a=>g=BX (I U (((nth (bl S) (p/8)).testBit (p%8)).toNat:Nat))/\kH B b S d a (p+1) j f 0/\Kept 5 B [b] w a:=by
 have:=Nb h 1 Y Y;rw[JX S p c]at this;simpa[ix]using this
def SI(h:kH B b S d w p j f 0)(hp:p<=8*S.size){K:Nat}{c:List (Int×Int)}{bf C:Nat}(hT:qC w K c)(hG:mq c bf)(hM:∀aa l,-1-(C:Int)<=gL c aa l)(bh:C<=1000):wh DG 272 #[A3 (O ⟨b,0,N⟩),A3 (O ⟨K,0,N⟩)] w λl w'=>∃a0 a e,l=BX (I U (a0:Nat))/\kH B b S d w' a j f e/\CN (iY c 0 (hH S p)) S C a0 a e/\Kept 5 B [b] w w':=by
 generalize hR:iY c 0 (hH S p)=X;have y:=H hG;have HM:=H hM
 go_in
 go_wp2;go_loopw [5] (λaa wr=>∃k a e:Nat,aa=I U k/\k<G c/\kH B b S d wr a j f e/\a<=8*S.size/\wt ((e=0/\iY c k (hH S a)=X)\/(e=5/\X=N))/\qC wr K c/\Kept 5 B [b] w wr) (λ_ wr=>if errOf b wr=0 then 8*S.size+1-posOf b wr else 0)
 case atStart=>exact⟨0,p,0,rfl,y.pos,h,hp,C1 ⟨rfl,hR⟩,hT,Kept.refl _ _ _ _⟩
 case round=>
  obtain⟨k,a,e,rfl,D,r,hq,W,hT,L⟩:=hrel;have P:=H r.posOf;have M:=H r.errOf;have c4:=r.c4;rcases W.o with⟨rfl,m⟩|⟨rfl,m⟩
  ·obtain⟨a8,a1,a3,fz,a6,t1,t2,t3,t4,t5,t6⟩:=hT;have ad:wt (qC wr K c):=⟨a8,a1,a3,fz,a6,t1,t2,t3,t4,t5,t6⟩;have br:(k:Int)<G c:=Y;by_cases al:a<8*S.size
   ·have J:=H (Bz r al);rw[JX S a al]at m;have z:=H m;generalize (nth (bl S) (a/8)).testBit (a%8)=l at *;go_wp2_with fail;apply J.o.m;rintro ac w1 ⟨rfl,Q,x⟩;have q:=H (ad.kept x r.isIn);obtain⟨g',c',a4,a5,a7,R,T,s3,s4,s5,F⟩:=q.o;have bb:=nw R;have a9:w1.cell? ⟨g',k*2+l.toNat,N⟩=O (I U (gL c k l)):=by
     rw[cb T,dK];cases l;·exact(F k D).1
     ·exact(F k D).2
    have bc:=HM.o k l;have ba:=y.o.lt k l D;have i:=H Q;have s:=H (L.t x);have bs:l.toNat<=1:=by cases l<;>decide
    have n:=z.o;simp only[iY]at n;generalize hE:gL c k l=g at *;by_cases c1:g<0
    ·rw[ak c1]at n;have A:=H n;have hv:((-1:Int)-g).toNat<=C:=Y;go_wp2;go_ret;refine⟨(-1-g).toNat,a+1,0,ri Y,i,?_,s⟩;rw[<-A.o];exact⟨rfl,rfl,rfl,Y⟩
    ·rw[aj c1]at n;by_cases t:g=0
     ·rw[ak t]at n;subst t;have A:=H n;go_wp2_with fail;apply(ro i 5 Y).m;rintro ac w2 ⟨rfl,v,E⟩;rw[rz]at v;have u:=H v.errOf;have V:=H (q.kept E i.isIn);go_wp2;go_roundw
      case rel=>exact⟨0,a+1,5,rfl,y.pos,v,Y,C2 ⟨rfl,A.s⟩,V,s.t E⟩
      case measure=>rw[P.o,M.o,u.o];simp;omega
     ·rw[aj t]at n;have A:=H n;have a2:(g==0)=CS:=by simp;exact t
      have u:=H i.errOf;have m3:=H i.posOf;clear n;go_wp2;go_roundw
      case rel=>exact⟨g.toNat,a+1,0,by go_num,Y,i,Y,C1 ⟨rfl,A⟩,q,s⟩
      case measure=>rw[P.o,M.o,u.o,m3.o];simp;omega
   ·have J:=H (Nc r 1 Y Y);have ao:hH S a=[]:=dh ob;rw[ao]at m;have z:wt (X=N):=by
     have h0:iY c k []=N:=by simp[iY]
     rw[h0]at m;exact m.s
    clear m W ao;go_wp2_with fail;apply J.o.m;rintro ac w1 ⟨rfl,Q,x⟩;have q:=H (ad.kept x r.isIn);obtain⟨g',c',a4,a5,a7,R,T,s3,s4,s5,F⟩:=q.o;have bb:=nw R;have a9:w1.cell? ⟨g',k*2,N⟩=O (I U (gL c k CS)):=by rw[cb T,dK];exact(F k D).1
    have bc:=HM.o k CS;have ba:=y.o.lt k CS D;have i:=H Q;have s:=H (L.t x);clear Q x L R T F J;generalize hE:gL c k CS=g at *;by_cases c1:g<0
    ·have hv:((-1:Int)-g).toNat<=C:=Y;go_wp2;go_ret;refine⟨(-1-g).toNat,a,5,ri Y,i,?_,s⟩;rw[z.o];exact⟨rfl,hv⟩
    ·by_cases t:g=0
     ·subst t;go_wp2_with fail;apply(ro i 5 Y).m;rintro ac w2 ⟨rfl,v,E⟩;rw[FF Y]at v;have u:=H v.errOf;have V:=H (q.kept E i.isIn);go_wp2;go_roundw
      case rel=>exact⟨0,a,5,rfl,y.pos,v,Y,C2 ⟨rfl,z⟩,V,s.t E⟩
      case measure=>rw[P.o,M.o,u.o];simp;omega
     ·have a2:(g==0)=CS:=by simp;exact t
      have u:=H i.errOf;go_wp2;go_roundw
      case rel=>exact⟨g.toNat,a,5,by go_num,Y,i,Y,C2 ⟨rfl,z⟩,q,s⟩
      case measure=>rw[P.o,M.o,u.o];simp;omega
  ·have bm:((5:Int)==0)=CS:=bF;have bd:=H m;clear m W;go_wp2;go_ret;exact⟨0,a,5,rfl,r,by rw[bd.o];exact⟨rfl,aw _⟩,L⟩
end
def lX(a:List (Int×Int))(e:Nat)(c:List Bool)(d:Nat):Prop:=∃b,mq a d/\jr a b=O e/\c≠[]/\G b+G c=d/\∀f,iY a 0 (b.reverse++(c++f))=N
def lX.lt{b:List (Int×Int)}{a:Nat}{z:List Bool}{e:Nat}(h:lX b a z e):a<G b:=by obtain⟨f,c,d,_⟩:=h;exact qX c f a d
def lX.nonneg{c:List (Int×Int)}{d j:Nat}{b:Bool}{r:List Bool}(h:lX c d (b::r) j):0<=gL c d b:=by
 obtain⟨l,a,i,_,k,g⟩:=h;have f:=i;rw[vD]at f;rcases Int.lt_or_le (gL c d b) 0 with e|e
 ·have a:=g [];rw[wC c _ _ 0 d f]at a;simp only[bH,iY]at a;rw[ak e]at a;cases a
 ·exact e
def lX.zero{a:List (Int×Int)}{c k:Nat}{b g:Bool}{r:List Bool}(h:lX a c (b::g::r) k)(e:gL a c b=0):lX (kn (a++[(0,0)]) c b (G a)) (G a) (g::r) k:=by
 obtain⟨d,h,f,_,j,n⟩:=h;have i:=qX h d c f;have m:c<(a++[(0,0)]).length:=eS;have l:=h.grow f (by simp at j;omega) e;have o:jr (kn (a++[(0,0)]) c b (G a)) (b::d)=O (G a):=by simp only[jr,xN h i e d c f,jC m,true_and,if_true];rw[ak qq];simp
 exact⟨b::d,l,o,cO,by simp at j ⊢;omega,λp=>by rw[yt h i e _ 0 h.pos];have:=n p;simpa using this⟩
def lX.on{a:List (Int×Int)}{c e:Nat}{b d:Bool}{r:List Bool}(h:lX a c (b::d::r) e)(n:gL a c b≠0):lX a (gL a c b).toNat (d::r) e:=by
 have m:=h.nonneg;obtain⟨f,h,k,_,g,i⟩:=h;have j:jr a (b::f)=O (gL a c b).toNat:=by simp only[jr,k];rw[ak Y]
 exact⟨b::f,h,j,cO,by simp at g ⊢;omega,λl=>by have:=i l;simpa using this⟩
def wu{e:Nat}{a:List (Int×Int)}{c:Nat}{b d:Bool}{r:List Bool}(f:gL a c b=0):lg e a c (b::d::r)=lg e (kn (a++[(0,0)]) c b (G a)) (G a) (d::r):=by simp only[lg,ak f]
def xS{e:Nat}{a:List (Int×Int)}{c:Nat}{b d:Bool}{r:List Bool}(f:gL a c b≠0):lg e a c (b::d::r)=lg e a (gL a c b).toNat (d::r):=by simp only[lg,aj f]
def lO(b:List (Int×Int)):List wg:=b.flatMap λa=>[I U a.1,I U a.2]
def Cp(a:List (Int×Int)):(lO a).length=G a*2:=by
 induction a with
 |nil=>rfl
 |cons b a d=>
  have c:lO (b::a)=[I U b.1,I U b.2]++lO a:=by simp[lO]
  rw[c,ab,d];show 2+G a*2=(G a+1)*2;omega
def uv(a b:List (Int×Int)):lO (a++b)=lO a++lO b:=by simp[lO]
def rH:∀(a:List (Int×Int)) (c:Nat) (b:Bool),c<G a->(lO a)[c*2+b.toNat]?=O (I U (gL a c b))
 | [],c,b,h=>by simp at h
 |d::a,0,b,_=>by cases b<;>rfl
 |d::a,c+1,b,h=>by
  have g:=rH a c b lT;have e:lO (d::a)=[I U d.1,I U d.2]++lO a:=by simp[lO]
  have e2:(c+1)*2+b.toNat=2+(c*2+b.toNat):=Y;rw[e,e2,aW (by show 2<=_;omega)];have f:gL (d::a) (c+1) b=gL a c b:=by unfold gL;simp
  rw[f,<-g];congr 1;simp
def tJ:∀(c:List (Int×Int)) (a:Nat) (b:Bool) (d:Int),a<G c->lO (kn c a b d)=(lO c).set (a*2+b.toNat) (I U d)
 | [],a,b,d,h=>by simp at h
 |g::c,0,b,d,_=>by cases b<;>rfl
 |g::c,a+1,b,d,h=>by
  have j:=tJ c a b d lT;have i:∀e f,lO (e::f)=[I U e.1,I U e.2]++lO f:=λe f=>by simp[lO]
  have e1:kn (g::c) (a+1) b d=g::kn c a b d:=by unfold kn;simp
  have e2:(a+1)*2+b.toNat=(a*2+b.toNat)+1+1:=Y;rw[e1,i,i,j,e2];rfl
section
structure lD(B b:Nat)(w:vz)(v:wg)(T:List (Int×Int)):Prop where
 hb:B<=b
 blk:w.heap[b]?=O (BV #[v] 252 (0,0))
 own:w.ownsRow B 249 2 v (G T) (lO T)
variable{B b:Nat}{w:vz}{v:wg}{T:List (Int×Int)}
def OT(a c:Nat):((a:Int)/2^c).tmod 2=((a >>> c%2==1).toNat:Nat):=by
 have e1:((a:Int)/2^c)=((a/2^c:Nat):Int):=by rw[Int.natCast_ediv,Int.natCast_pow];rfl
 have e2:(((a/2^c:Nat):Int)).tmod 2=((a/2^c%2:Nat):Int):=by rw[cM (Int.natCast_nonneg _)];rfl
 rw[e1,e2,Nat.shiftRight_eq_div_pow];have:=dY (a/2^c);rcases this with h|h<;>simp[h]
def infoPair:(Tryz.prog.info? 249).map (λa=>(a.zero,a.size,a.bytes))=O (O (Bc #[I U 0,I U 0]),2,16):=by kernel_rfl
def lD.lt(h:lD B b w v T)(k:0<G T):∃g d,v=Z (O ⟨g,0,N⟩) (G T) d/\B<=g/\g≠b/\G T<=d/\(∀j,w.frozen? ⟨g,j,N⟩=CS)/\(∀a c,a<G T->w.cell? ⟨g,a*2+c.toNat,N⟩=O (I U (gL T a c))):=by
 obtain⟨g,d,rfl,n⟩:=yJ h.own k;have o:g≠b:=by intro i;subst i;obtain⟨_,f,q,e⟩:=oQ h.own g rfl;rw[h.blk]at e;simp at e
 rcases h.own.2 with⟨e1,_⟩|⟨r,p,f,e1,_,e,m,_⟩;·cases e1
 cases e1;refine⟨g,d,rfl,n,o,m,λj=>h.own.frozenAt j,λa c l=>?_⟩;have s:c.toNat<=1:=by cases c<;>decide
 rw[h.own.cellAt _ Y];exact rH T a c l
def lD.set{d e:Nat}(h:lD B b w (Z (O ⟨d,0,N⟩) (G T) e) T)(g:d≠b)(a:Nat)(x:Bool)(c:Int)(f:a<G T):lD B b (w.setCell ⟨d,a*2+x.toNat,N⟩ (I U c)) (Z (O ⟨d,0,N⟩) (kn T a x c).length e) (kn T a x c):=by
 refine⟨h.hb,?_,?_⟩;·rw[lK _ (Ne.s g),l_];exact h.blk
 ·have:=(h.own.stored (a*2+x.toNat) (I U c)).1;rw[l_,tJ T a x c f];exact this
def lD.drew(h:lD B b w v T):lD B b w.drew v T:=⟨h.hb,h.blk,h.own⟩
def lD.grow{a:vz}{c:wg}{f:Obj}(h:lD B b w v T)(g:a.ownsRow B 249 2 c (G T+1) (lO T++[I U 0,I U 0]))(j:(w.alloc f).grownBy a v.ownBlock):lD B b (a.setCell ⟨b,0,N⟩ c) c (T++[(0,0)]):=by
 have d:(w.alloc f).heap[b]?=O (BV #[v] 252 (0,0)):=nt _ h.blk;have e:a.heap[b]?=O (BV #[v] 252 (0,0)):=by rw[j.block b (ap d) (λi=>xM h.own h.blk bF i.s)];exact d
 refine⟨h.hb,?_,?_⟩;·rw[nu _ e];rfl
 ·rw[ab,uv];exact bJ g (xM g e bF) _
def DV{w:vz}:∀c d,([I U 0,I U 0]:List wg)[c]?=O d->(w.alloc (BV #[I U 0,I U 0] 249)).cell? ((⟨w.heap.size,0,N⟩:wT).add c)=O d:=by
 intro c d a;match c,a with
 |0,a=>exact(World.cell?_alloc_new _ _ _ _).t a
 |1,a=>exact(World.cell?_alloc_new _ _ _ _).t a
 |c+2,a=>simp at a
def Ia(code a:Nat):gG code (a+1)=(code >>> a%2==1)::gG code a:=rfl
def TK(h:lD B b w v T)(hB:B<=w.heap.size)(code e i a0:Nat)(hn:1<=e/\e<=15)(b5:code<32768)(hs:i<=1000)(bm:lX T 0 (gG code e) a0)(cd:G T+e<=100000):wh DG 271 #[A3 (O ⟨b,0,N⟩),I U code,I U e,I U i] w λd w'=>d=BX (BG #[])/\∃C,lD B b w' C (lg i T 0 (gG code e))/\(lg i T 0 (gG code e)).length<=G T+e/\wm B w w':=by
 obtain⟨i0,hi,bs,bt,bv⟩:=bR infoPair;obtain⟨s,hR⟩:∃s,lg i T 0 (gG code e)=s:=⟨_,rfl⟩;rw[hR]
 go_in
 go_wp2;go_loopw [8,9] (λva Q wr=>∃(g c:Nat) (C:wg) (a:List (Int×Int)),va=I U c/\Q=I U ((g:Int)-1)/\1<=g/\g<=e/\lD B b wr C a/\wt (lX a c (gG code g) a0/\lg i a c (gG code g)=s)/\G a+g<=G T+e/\wm B w wr) (λ_ Q _=>(intOf Q+1).toNat)
 case atStart=>exact⟨e,0,v,T,rfl,rfl,hn.1,ag _,h,⟨bm,hR⟩,ag _,ar _ _⟩
 case round=>
  obtain⟨g,c,C,a,rfl,rfl,b7,b8,A,HP,cc,bl⟩:=hrel;obtain⟨k,rfl⟩:∃k,g=k+1:=⟨g-1,Y⟩;have ek:((k+1:Nat):Int)-1=(k:Int):=Y;rw[ek];have cf:=bl.size;obtain⟨q,f⟩:=HP.o;rw[Ia]at q f;have S:=H (OT code k);have ha:=q.lt;obtain⟨K,z,br,bc,bf,bz,b6,a9⟩:=A.lt Y;subst br;have b4:=nw A.blk;generalize (code >>> k%2==1)=d at *;have cg:d.toNat<=1:=by cases d<;>decide
  have a7:=a9 c d ha;have b3:=S.o;have b0:(c:Int)<G a:=Y;have j:=H A;have V:=H bl;by_cases hk:k=0
  ·subst hk;have ad:kn a c d (-1-(i:Int))=s:=f;have W:=H (A.set bf c d (-1-(i:Int)) ha);rw[ad]at W;have ca:G s=G a:=by rw[<-ad,l_]
   have B1:=H (bl.setCell (p:=⟨K,c*2+d.toNat,N⟩) bc (I U (-1-(i:Int))));have b2:(code:Int)%2=(d.toNat:Nat):=by have h1:=S.o;rw[cM cO]at h1;simpa using h1
   generalize t:d.toNat=y at *;go_wp2;refine aK (v:=BG #[]) (by simp[results,results271,go_sem]) rfl ?_;exact⟨rfl,_,W,Y,B1⟩
  ·obtain⟨x,rfl⟩:∃x,k=x+1:=⟨k-1,Y⟩;rw[Ia]at q f;have b9:(((x+1:Nat):Int)==0)=CS:=eS;have ce:=q.nonneg;by_cases n:gL a c d=0
   ·have u:=q.zero n;rw[wu n]at f;rw[<-Ia]at u f;rw[n]at a7;have E:=H (And.intro u f);generalize t:d.toNat=y at *;generalize hK:x+1=F at *;go_wp2_with (at_builtin;refine aX _ rfl (.tmp 47) (.tmp 49) 250 rfl B 249 i0 (Bc #[I U 0,I U 0]) 2 16 underlying250 hi bs bt bv rfl bF (Z (O ⟨K,0,N⟩) (G a) z) (G a) _ rfl (j.o.own.alloc _) ⟨wr.heap.size,0,N⟩ 1 1 [I U 0,I U 0] rfl rfl ?hnews ?hone ?h63 ?hby ?hbs ?_)
    case hnews=>exact DV
    case hone=>intro ci hu;simp at hu;subst hu;rfl
    case h63=>unfold maxLen;omega
    case hby=>omega
    case hbs=>simp;omega
    intro v2 D bw M _;have al:=j.o.grow bw M;have a5:wm B w (D.setCell ⟨b,0,N⟩ v2):=((V.alloc Y _).grown M eS (λk a6=>(j.o.own.lt k a6).1)).setCell (p:=⟨b,0,N⟩) j.hb _;have ao:D.heap[b]?=O (BV #[Z (O ⟨K,0,N⟩) (G a) z] 252 (0,0)):=by have hb:(wr.alloc (BV #[I U 0,I U 0] 249)).heap[b]?=_:=nt _ j.blk;rw[M.block b (ap hb) (λz=>xM j.o.own j.o.blk bF z.s)];exact hb
    have q0:=nw ao;have q1:=lQ 0 ao;obtain⟨m,J,P,bd,bh,aa,bb,L⟩:=al.lt cO;rw[ab]at P aa L;simp only[dU]at P aa L;subst P;have a8:=L c d Y;have ba:=bb (c*2+d.toNat);rw[t]at a8 ba;have a3:=H al;have a2:=H a5;have b1:(c:Int)<(G a:Int)+1:=Y;have l:(a++[((0:Int),(0:Int))]).length=G a+1:=cO;have a4:wt (lD B b (D.setCell ⟨b,0,N⟩ (Z (O ⟨m,0,N⟩) (G a+1) J)) (Z (O ⟨m,0,N⟩) (a++[((0:Int),(0:Int))]).length J) (a++[(0,0)])):=by rw[l];exact a3
    have r:=H ((a4.set bh c d (G a:Int) (by rw[l];omega)).drew);have R:=H ((a2.setCell (p:=⟨m,c*2+d.toNat,N⟩) bd (I U (G a:Int))).drew);rw[l_,l]at r;rw[t]at r R;go_wp2_with fail;go_region;generalize ((D.setCell ⟨b,0,N⟩ (Z (O ⟨m,0,N⟩) (G a+1) J)).setCell ⟨m,c*2+y,N⟩ (I U (G a:Int))).drew=W4 at *;have z0:=nw r.blk;have z1:W4.cell? ⟨m,c*2+y,N⟩=O (I U (G a:Int)):=by obtain⟨g5,c5,X,_,_,_,_,ac⟩:=r.o.lt (by rw[l_,l];omega);rw[l_,l]at X ac;cases X;have:=ac c d Y;rw[jC (by rw[l];omega),ak ⟨rfl,rfl⟩,t]at this;exact this
    go_wp2;go_roundw
    case rel=>refine⟨F,G a,_,_,rfl,by go_num,Y,Y,r,E,?_,R⟩;rw[l_,l];omega
    case measure=>simp[intOf]<;>omega
   ·have u:=q.on n;rw[xS n]at f;rw[<-Ia]at u f;have E:=H (And.intro u f);have bx:(gL a c d==0)=CS:=by simp;exact n
    generalize t:d.toNat=y at *;generalize hK:x+1=F at *;generalize gL a c d=a1 at *;go_wp2;go_roundw
    case rel=>exact⟨F,a1.toNat,_,a,by go_num,by go_num,Y,Y,j,E,Y,V⟩
    case measure=>simp[intOf]<;>omega
end
def xU(b:Nat->Nat):∀(a len:Nat),kR b (a+1) len=2*(kR b a len+b (len+a))
 |0,len=>by simp[kR]
 |a+1,len=>by
  have c:=xU b a (len+1);rw[kR,c];conv=>rhs;rw[kR]
  rw[c_ 2 (a+1),show len+1+a=len+(a+1)by omega];have:2^(a+1)*2*b len=2*(2^(a+1)*b len):=by rw[dK (2^(a+1)) 2,dS]
  omega
def Al(c d:Nat->Nat):∀(b len:Nat),(∀a,len<=a->a<len+b->c a=d a)->kR c b len=kR d b len
 |0,_,_=>rfl
 |b+1,len,h=>by rw[kR,kR,h len (ag _) Y,Al c d b (len+1) (λa e f=>h a Y Y)]
def zX(c d:Nat->Nat):∀(b len:Nat),(∀a,len<=a->a<len+b->c a=d a)->mI c b len=mI d b len
 |0,_,_=>rfl
 |b+1,len,h=>by rw[mI,mI,h len (ag _) Y,zX c d b (len+1) (λa e f=>h a Y Y)]
def jE(b:List Nat)(a s k:Nat):Nat:=if k<a then b.count k else if k=a then(b.take s).count a else 0
def um(b:List Nat)(a s:Nat):∀k,a<k->jE b a s k=0:=λk h=>by unfold jE;rw[aj Y,aj Y]
def Da(b:List Nat)(a c:Nat):jE b a c a=(b.take c).count a:=by unfold jE;rw[aj Y,ak rfl]
def Db(b:List Nat)(a k:Nat):jE b (a+1) 0 k=jE b a (G b) k:=by
 unfold jE;rw[dE,List.take_zero];by_cases c:k<a;·rw[ak Y,ak c]
 ·by_cases d:k=a;·subst d;rw[ak Y,aj Y,ak rfl]
  ·rw[aj Y,aj c,aj d];split<;>simp
def Aw{l:List Nat}{s:Nat}(c:s<G l)(b:Nat):(l.take (s+1)).count b=(l.take s).count b+(if l.getD s 0=b then 1 else 0):=by
 rw[bN c,eG];have:l.getD s 0=l[s]:=by simp[aL,c]
 rw[this];by_cases a:l[s]=b;·rw[ak a];simp[a]
 ·rw[aj a];simp[a]
def zd{c:List Nat}{a s:Nat}(e:s<G c)(h:c.getD s 0=a)(k:Nat):jE c a (s+1) k=if k=a then jE c a s a+1 else jE c a s k:=by
 unfold jE;by_cases b:k<a;·rw[ak b,aj Y,ak b]
 ·by_cases d:k=a
  ·subst d;rw[aj b,ak rfl,ak rfl,aj Y,ak rfl,Aw e,ak h]
  ·rw[aj b,aj d,aj d,aj b,aj d]
def A6{c:List Nat}{a d:Nat}(f:d<G c)(h:c.getD d 0≠a)(k:Nat):jE c a (d+1) k=jE c a d k:=by
 unfold jE;by_cases e:k=a
 ·subst e;rw[aj Y,ak rfl,aj Y,ak rfl,Aw f,aj h];rfl
 ·by_cases b:k<a;·rw[ak b,ak b]
  ·rw[aj b,aj e,aj b,aj e]
def lL(a:Nat->Nat):Nat->Nat
 |0=>0
 |k+1=>lL a k+a (k+1)*2^(14-k)
def zK(b c:Nat->Nat)(h:∀k,b k<=c k):∀a,lL b a<=lL c a
 |0=>ag _
 |a+1=>Nat.add_le_add (zK b c h a) (dx _ (h (a+1)))
def xK(b c:Nat->Nat):∀a,(∀k,1<=k->k<=a->b k=c k)->lL b a=lL c a
 |0,_=>rfl
 |a+1,h=>by rw[lL,lL,xK b c a (λk d e=>h k d Y),h (a+1) Y Y]
def yi(c:Nat->Nat)(b:Nat):∀a,(∀k,b<k->c k=0)->b<=a->lL c a=lL c b
 |0,_,h=>by rw[show b=0 by omega]
 |a+1,d,h=>by
  by_cases e:b=a+1;·rw[e]
  ·rw[lL,d (a+1) Y,Nat.zero_mul,eD];exact yi c b a d Y
def xu(b:Nat->Nat):∀a,1<=a->a<=15->(b a+kR b (a-1) 1)*2^(15-a)=lL b a
 |0,h,_=>Y
 |1,_,_=>by simp[kR,lL]
 |a+2,_,h=>by
  have d:=xu b (a+1) Y Y;rw[show a+2-1=a+1 by omega,xU b a 1,lL,<-d];rw[show a+1-1=a by omega,show 1+a=a+1 by omega,show 14-(a+1)=15-(a+2)by omega];rw[show 15-(a+1)=(15-(a+2))+1 by omega,c_,Nat.add_mul];generalize 2^(15-(a+2))=c;rw[show a+1+1=a+2 from rfl];have e1:2*(kR b a 1+b (a+1))*c=(b (a+1)+kR b a 1)*(c*2):=by rw[Nat.add_comm (b (a+1)),dK c 2,<-dS,dK 2]
  omega
def Dh{b:Nat->Nat}{a:Nat}(f:1<=a)(g:a<=15)(h:lL b a+2^(15-a)<=32768):b a+kR b (a-1) 1<2^a:=by
 have i:=xu b a f g;have e2:2^a*2^(15-a)=32768:=by rw[<-Nat.pow_add,show a+(15-a)=15 by omega]
 have j:0<2^(15-a):=Nat.pos_of_ne_zero cO;generalize 2^(15-a)=e at *;generalize b a+kR b (a-1) 1=d at *;rcases cW d (2^a)with c|c;·exact c
 ·have:2^a*e<=d*e:=dx _ c;omega
def mz(a:List Nat):List Nat:=(fT a (G a)).2
def qQ(l:List Nat)(k:Nat):Nat:=pre (cz l) (nth l k)+(l.take k).count (nth l k)
def EJ(l:List Nat)(k:Nat)(a:k<G l):(l.take k).count (nth l k)<l.count (nth l k):=by
 have b:l=l.take k++(nth l k::l.drop (k+1)):=by
  have:nth l k=l[k]:=by simp[nth,a]
  rw[this,<-b_ a,cQ]
 have c:=cX (List.count (nth l k)) b;rw[eG,List.count_cons_self]at c;omega
def EL(c:List Nat)(d:Nat){a b:Nat}(h:a<=b):(c.take a).count d<=(c.take b).count d:=by
 have:c.take a=(c.take b).take a:=by rw[List.take_take,dQ h]
 rw[this];exact List.Sublist.count_le d (List.take_sublist _ _)
def zY{l:List Nat}(e:∀c,c<G l->nth l c<16){k:Nat}(a:k<G l)(d:0<nth l k):qQ l k<pre (cz l) (nth l k+1):=by have b:=e k a;rw[qQ,Ei (cz l) (nth l k) (by rw[xx];exact b),Fy _ _ d b];have:=EJ l k a;omega
def Eb{l:List Nat}(d:∀e,e<G l->nth l e<16){s k:Nat}(t:s<k)(m:k<G l)(g:0<nth l s)(h:0<nth l k):qQ l k≠qQ l s:=by
 by_cases f:nth l k=nth l s
 ·unfold qQ;rw[f];have i:=Aw (l:=l) (s:=s) Y (nth l s);have j:l.getD s 0=nth l s:=rfl;rw[ak j]at i;have r:=EL l (nth l s) (a:=s+1) (b:=k) Y;omega
 ·have n:=zY d m h;have o:=zY d (show s<G l by omega) g;have p:pre (cz l) (nth l k)<=qQ l k:=Nat.le_add_right _ _;have q:pre (cz l) (nth l s)<=qQ l s:=Nat.le_add_right _ _;rcases cW (nth l k) (nth l s)with c|c;·have:=Ix (cz l) (nth l k+1) (nth l s) c;omega
  ·have:=Ix (cz l) (nth l s+1) (nth l k) Y;omega
def zw{b:List Nat}(d:∀l,l<G b->nth b l<16){a:Nat}(h:a<G b)(e:0<nth b a):∀c,a+1+c<=G b->nth (fT b (a+1+c)).2 (qQ b a)=a
 |0,_=>by obtain⟨o,n,f⟩:=F6 b d a Y;have k:=Lu b d a h e;have g:nth (fT b a).1 (nth b a)=qQ b a:=f _ e (d a h);rw[eD,fT,aj Y];simp only[];rw[g]at k ⊢;exact Bo _ _ _ (by rw[n];exact k)
 |c+1,p=>by
  have m:=zw d h e c Y;have j:a+1+c<G b:=Y;obtain⟨_,_,f⟩:=F6 b d (a+1+c) Y;rw[show a+1+(c+1)=(a+1+c)+1 by omega,fT];by_cases i:nth b (a+1+c)=0;·rw[ak i];exact m
  ·rw[aj i];simp only[];have g:nth (fT b (a+1+c)).1 (nth b (a+1+c))=qQ b (a+1+c):=f _ Y (d _ j);rw[g,Bm _ _ _ _ (Eb d Y j e Y)];exact m
def Et{a:List Nat}(e:∀c,c<G a->nth a c<16){b:Nat}(f:b<G a)(d:0<nth a b):(mz a).getD (qQ a b) 0=b:=by have:=zw e f d (G a-(b+1)) Y;rw[show b+1+(G a-(b+1))=G a by omega]at this;exact this
def Ab(b:List Nat)(c:G b=16):∀(a len:Nat),len+a<=16->pre b (len+a)=pre b len+mI (λk=>nth b k) a len
 |0,len,_=>by simp[mI]
 |a+1,len,h=>by have:=Ab b c a (len+1) Y;rw[show len+(a+1)=len+1+a by omega,this,Ei b len Y,mI];omega
def Eg{a:List Nat}(i:∀d,d<G a->nth a d<16){b c:Nat}(j:1<=b)(f:b<=15)(h:nth a c=b):mI (jE a b c) (b-1) 1+jE a b c b=qQ a c:=by
 rw[Da,qQ,h];have e1:=Ab (cz a) (xx a) (b-1) 1 Y;rw[show 1+(b-1)=b by omega]at e1;have e2:pre (cz a) 1=0:=by have:=Ei (cz a) 0 (by rw[xx];omega);rw[JK]at this;rw[this];simp[pre]
 rw[e1,e2,bZ];congr 1;refine zX _ _ _ _ (λk e g=>?_);rw[Fy a k Y Y];unfold jE;rw[ak Y]
def pV(T:List (Int×Int))(a:Nat):Prop:=∀b c,-1-(a:Int)<=gL T b c
def Dt(T:List (Int×Int))(a:Nat)(b:Bool)(e:Int)(c:Nat)(d:Bool):gL (kn T a b e) c d=e\/gL (kn T a b e) c d=gL T c d:=by
 by_cases h:a<G T
 ·rw[jC h];split;·exact C1 rfl
  ·exact C2 rfl
 ·right;unfold kn;rw[List.set_eq_of_length_le Y]
def pV.upd{T:List (Int×Int)}{a:Nat}(h:pV T a)(e:Nat)(b:Bool){d:Int}(i : -1-(a:Int)<=d):pV (kn T e b d) a:=by
 intro f g;rcases Dt T e b d f g with c|c;·rw[c];exact i
 ·rw[c];exact h f g
def pV.set{f c:Nat}(e:f<=c):∀(j:List Bool) (T:List (Int×Int)) (a:Nat),pV T c->pV (lg f T a j) c
 | [],T,a,h=>h
 | [b],T,a,h=>h.upd a b Y
 |b::d::r,T,a,h=>by
  simp only[lg];split
  ·refine pV.set e (d::r) _ _ (pV.upd (λg i=>?_) a b Y);rw[pX];exact h g i
  ·exact pV.set e (d::r) _ _ h
def pV.start(c:Nat):pV [(0,0)] c:=by intro d b;have a:=pX (T:=[]) d b;rw[cU]at a;rw[a,s7 cO];omega
structure n6(l:List Nat)(n s:Nat)(T:List (Int×Int))(full code:Nat):Prop where
 gi:mq T n
 eb:pV T (G l)
 wk:∀v,iY T 0 v=kh (jE l n s) (mz l) 15 1 0 0 v
 fu:full=lL (jE l n s) 15
 co:code=jE l n s n+kR (jE l n s) (n-1) 1
 le:full<=32768
 sz:G T<=1+15*((n-1)*G l+s)
def n6.start(c:List Nat):n6 c 1 0 [(0,0)] 0 0:=by
 have a:∀k,1<=k->jE c 1 0 k=0:=λk b=>by unfold jE;rw[aj Y];split<;>simp
 refine⟨mq.start,pV.start _,λf=>?_,?_,?_,Y,cO⟩
 ·rw[E8,uF];exact λe d=>a e d
 ·rw[yi _ 0 15 (λk b=>a k b) Y];rfl
 ·rw[a 1 Y];simp[kR]
def n6.skip{a:List Nat}{d b f code:Nat}{e:List (Int×Int)}(h:n6 a d b e f code)(i:b<G a)(g:nth a b≠d):n6 a d (b+1) e f code:=by
 have c:=funext λk=>A6 i g k;refine⟨h.gi,h.eb,?_,?_,?_,h.le,by have:=h.sz;omega⟩;·rw[c];exact h.wk
 ·rw[c];exact h.fu
 ·rw[c];exact h.co
def n6.next{l:List Nat}{b e code:Nat}{d:List (Int×Int)}(h:n6 l b (G l) d e code)(f:1<=b):n6 l (b+1) 0 d e (2*code):=by
 have c:=funext λk=>Db l b k;refine⟨h.gi.m Y,h.eb,?_,?_,?_,h.le,?_⟩;·rw[c];exact h.wk
 ·rw[c];exact h.fu
 ·rw[c,h.co,um l b (G l) (b+1) Y,bZ];obtain⟨a,rfl⟩:∃a,b=a+1:=⟨b-1,Y⟩;rw[show a+1+1-1=a+1 by omega,show a+1-1=a by omega,xU,Nat.add_comm 1 a];omega
 ·have:=h.sz;obtain⟨a,rfl⟩:∃a,b=a+1:=⟨b-1,Y⟩;rw[show a+1+1-1=a+1 by omega,Nat.add_mul];rw[show a+1-1=a by omega]at this;omega
def zJ(c:Nat->Nat)(b:Nat)(e:1<=b):∀a,b<=a->lL (λk=>if k=b then c b+1 else c k) a=lL c a+2^(15-b)
 |0,h=>Y
 |a+1,h=>by
  by_cases d:b=a+1
  ·subst d;rw[lL,lL,ak rfl,xK _ c a (λk _ f=>aj Y),Nat.add_mul,Nat.one_mul];rw[show 14-a=15-(a+1)by omega];omega
  ·rw[lL,lL,aj Y,zJ c b e a Y];omega
def n6.over{b:List Nat}{a c d code:Nat}{e:List (Int×Int)}(h:n6 b a c e d code)(g:1<=a)(i:a<=15)(m:c<G b)(l:nth b c=a)(o:32768<d+2^(15-a)):32768<lL (λk=>b.count k) 15:=by
 have f:=funext λk=>zd m l k;have e2:=zJ (jE b a c) a g 15 i;rw[<-f,<-h.fu]at e2;have n:lL (jE b a (c+1)) 15<=lL (λk=>b.count k) 15:=by
  refine zK _ _ (λk=>?_) 15;unfold jE;split;·exact ag _
  ·split;·rename_i j;rw[j];exact List.Sublist.count_le a (List.take_sublist _ _)
   ·exact aw _
 omega
def ui(a:List (Int×Int))(code b:Nat):Prop:=mq a b/\∀c,iY a 0 (gG code b++c)=N
def n6.more{b:List Nat}(j:∀p,p<G b->nth b p<16){n a e code:Nat}{c:List (Int×Int)}(h:n6 b n a c e code)(f:1<=n)(d:n<=15)(o:a<G b)(l:nth b a=n)(m:e+2^(15-n)<=32768):ui c code n/\code<2^n/\((lg a c 0 (gG code n)).length<=G c+n->n6 b n (a+1) (lg a c 0 (gG code n)) (e+2^(15-n)) (code+1)):=by
 have s:e=lL (jE b n a) n:=by rw[h.fu,yi _ n 15 (um b n a) d]
 have i:code<2^n:=by rw[h.co];exact Dh f d (by rw[<-s];exact m)
 have g:=funext λk=>zd o l k;have t:k_ (gG code n) 0=code:=by rw[xJ,dR i];omega
 have x:=qt code n;obtain⟨q,r⟩:=EO f d (um b n a) h.gi h.wk h.co i (s:=a) (by rw[Eg j f d l];exact Et j o Y);refine⟨⟨h.gi,λu=>?_⟩,i,λy=>⟨q,h.eb.set Y _ _ _,?_,?_,?_,m,?_⟩⟩
 ·rw[h.wk];refine xP (jE b n a) (mz b) n (um b n a) (n-1) 1 0 0 15 _ (jE b n a n) u Y Y ?_ (ag _);rw[vO];exact⟨gG code n,Y,rfl,by rw[t];exact h.co⟩
 ·intro v;rw[r v,g]
 ·rw[g,zJ _ n f 15 d,<-h.fu]
 ·rw[g,h.co];simp only[if_true];rw[Al _ (jE b n a) (n-1) 1 (λk _ w=>aj Y)];omega
 ·have:=h.sz;omega
def n6.code_le{b:List Nat}{a c g code:Nat}{e:List (Int×Int)}(h:n6 b a c e g code)(i:1<=a)(d:a<=15):code<=32768:=by have f:=xu (jE b a c) a i d;rw[<-h.co,<-yi _ a 15 (um b a c) d,<-h.fu]at f;have j:0<2^(15-a):=Nat.pos_of_ne_zero cO;have:=Nat.le_mul_of_pos_right code j;have:=h.le;omega
def n6.done{a:List Nat}(j:∀f,f<G a->nth a f<16){d code:Nat}{b:List (Int×Int)}(h:n6 a 16 0 b d code):d=lL (λk=>a.count k) 15/\(∀v,iY b 0 v=kg (cz a) (mz a) v)/\mq b 16:=by
 have c:∀k,1<=k->k<=15->jE a 16 0 k=a.count k:=λk e i=>by unfold jE;rw[ak Y]
 refine⟨by rw[h.fu];exact xK _ _ 15 c,λv=>?_,h.gi⟩;rw[h.wk,vE];refine Ag _ _ _ 15 1 0 0 v (λg e i=>?_);rw[c g e Y];exact(Fy a g Y Y).s
section
variable{B d:Nat}{w:vz}{v:wg}{T:List (Int×Int)}
def lD.toIn(h:lD B d w v T)(m:0<G T)(p:G T<=100000):qC w d T:=by
 obtain⟨l,k,rfl,t⟩:=yJ h.own m;rcases h.own.2 with⟨e1,_⟩|⟨s,r,f,e1,_,j,n,q,_⟩;·cases e1
 cases e1;refine⟨l,k,f,_,_,h.blk,j,n,p,by unfold maxLen at q;omega,λc o=>?_⟩;have i:∀a:Bool,f[c*2+a.toNat]?=O (I U (gL T c a)):=λa=>by
  have u:a.toNat<=1:=by cases a<;>decide
  have g:=h.own.cellAt (c*2+a.toNat) Y;rw[cb j]at g;rw[g];exact rH T c a o
 have e:=i CS;have b:=i CD;rw[dK]at e b;exact⟨e,b⟩
def SetPre0.pre{code a:Nat}(f:1<=a)(h:ui T code a):lX T 0 (gG code a) a:=by have b:=qt code a;exact⟨[],h.1,rfl,by intro c;rw[c]at b;simp at b;omega,by simp[b],λe=>by simpa using h.2 e⟩
def vG(a:List Nat)(T:List (Int×Int))(b:Nat):Prop:=
 (b=lL (λk=>a.count k) 15/\b<=32768/\mq T 16/\pV T (G a)/\∀v,iY T 0 v=kg (cz a) (mz a) v)\/(32768<b/\32768<lL (λk=>a.count k) 15)
def L8(q u z:Nat)(a:List Nat)(S:∀m,m<G a->nth a m<16)(hn:G a<=320)(hg:q<w.heap.size)(Q:∀m,m<G a->w.cell? ⟨q,u+m,N⟩=O (I U (nth a m:Nat)))(ba:G a<=z/\z<=9223372036854775807):wh DG 208 #[Z (O ⟨q,u,N⟩) (G a) z] w λac w'=>∃(d:Nat) (T:List (Int×Int)) (c:Nat),ac=BX (BG #[A3 (O ⟨d,0,N⟩),I U c])/\qC w' d T/\w.heap.size<=d/\wm w.heap.size w w'/\vG a T c:=by
 have M:=H S;have HC:=H Q;clear S Q
 go_in
 go_wp2;have X:=World.ownsRow_lit (base:=w.heap.size) (e:= 249) (size:=2) w #[I U 0,I U 0] 1 (ag _) lB rfl;have aa:lD w.heap.size (w.heap.size+1) ((w.alloc (BV #[I U 0,I U 0] 249)).alloc (BV #[Z (O ⟨w.heap.size,0,N⟩) 1 1] 252)) (Z (O ⟨w.heap.size,0,N⟩) 1 1) [(0,0)]:=by refine⟨Y,?_,X.alloc _⟩;have:=bn (w.alloc (BV #[I U 0,I U 0] 249)) (BV #[Z (O ⟨w.heap.size,0,N⟩) 1 1] 252);simpa using this
 have P:wm w.heap.size w ((w.alloc (BV #[I U 0,I U 0] 249)).alloc (BV #[Z (O ⟨w.heap.size,0,N⟩) 1 1] 252)):=((ar _ _).alloc (ag _) _).alloc cO _;go_loopw [5,6,7] (λJ F K wr=>∃(b c code:Nat) (j:wg) (T:List (Int×Int)),J=I U c/\F=I U code/\K=I U b/\1<=b/\b<=16/\lD w.heap.size (w.heap.size+1) wr j T/\wt (n6 a b 0 T c code)/\code<=65536/\wm w.heap.size w wr) (λ_ _ K _=>16-(intOf K).toNat)
 case atStart=>exact⟨1,0,0,_,_,rfl,rfl,rfl,Y,Y,aa,n6.start a,Y,P⟩
 clear aa P X
 case round=>
  obtain⟨b,c,code,j,T,rfl,rfl,rfl,k,a8,i,g,R,bl⟩:=hrel;have D:=g.o.le;by_cases r:b<=15
  ·have bb:(b:Int)<=15:=Y;go_wp2;go_loopw [5,6,8] (λJ F L wr=>∃(f c code:Nat) (j:wg) (T:List (Int×Int)),J=I U c/\F=I U code/\L=I U f/\f<=G a/\lD w.heap.size (w.heap.size+1) wr j T/\wt (n6 a b f T c code)/\wm w.heap.size w wr) (λ_ _ L _=>G a-(intOf L).toNat)
   case atStart=>exact⟨0,c,code,j,T,rfl,rfl,rfl,Y,i,g,bl⟩
   clear i g bl D R
   case round=>
    obtain⟨f,c,code,j,T,rfl,rfl,rfl,bd,i,g,bl⟩:=hrel;have D:=g.o.le;have R:=g.o.code_le k r;by_cases t:f<G a
    ·have bc:(f:Int)<G a:=Y;have a4:wr.cell? ⟨q,u+f,N⟩=O (I U (nth a f:Nat)):=by rw[bl.cell (p:=⟨q,u+f,N⟩) hg];exact HC f t
     by_cases l:nth a f=b
     ·have V:((nth a f:Int)==(b:Int))=CD:=by simp[l]
      rw[l]at a4;obtain⟨h,s⟩:∃h,2^(15-b)=h:=⟨_,rfl⟩;have a0:2^(15-b)<=2^14:=aY Y Y;have eP:wrap64 ((2:Int)^(15-b))=(h:Int):=by
       have e3:((2:Int)^(15-b))=((2^(15-b):Nat):Int):=by rw[Int.natCast_pow];rfl
       rw[e3,s]at *;unfold wrap64;omega
      rw[s]at a0;have y:=H (g.o.over k r t l);have x:=H (g.more M k r t l);rw[s]at y x;have A:=g.o.sz;have C:=g.o.gi.pos;have a9:G T<=90000:=by have h2:(b-1)*G a<=14*320:=Nat.mul_le_mul Y hn;omega
      clear A s V l;by_cases W:32768<c+h
      ·have a5:(32768:Int)<(c:Int)+(h:Int):=Y;go_wp2;refine aK (v:=BG #[A3 (O ⟨w.heap.size+1,0,N⟩),I U (c+h:Nat)]) (by simp[results,results208,go_sem]) rfl ?_;exact⟨w.heap.size+1,T,c+h,rfl,i.toIn C Y,Y,bl,C2 ⟨W,y W⟩⟩
      ·have a5:¬(32768:Int)<(c:Int)+(h:Int):=Y;obtain⟨m1,m2,m3⟩:=x.o Y;have ad:=H m3;have a2:code<32768:=by have:2^b<=2^15:=aY Y r;omega
       have al:=H (TK i bl.size code b f b ⟨k,r⟩ a2 Y (SetPre0.pre k m1) Y);clear m1 m2 m3 x y i;go_wp2_with fail;apply al.o.m;rintro ac w2 ⟨rfl,v2,a6,a3,b2⟩;have n:=H (ad a3);go_wp2;go_roundw
       case rel=>exact⟨f+1,c+h,code+1,v2,_,by go_num,by go_num,by go_num,Y,a6,n,bl.t b2⟩
       case measure=>exact eT
     ·have V:((nth a f:Int)==(b:Int))=CS:=eS;have n:=H (g.skip t l);generalize nth a f=a7 at *;go_wp2;go_roundw
      case rel=>exact⟨f+1,c,code,j,T,rfl,rfl,by go_num,Y,i,n,bl⟩
      case measure=>exact eT
    ·obtain rfl:f=G a:=Y;have n:=H (g.next k);go_wp2;go_roundw
     case rel=>exact⟨b+1,c,2*code,j,T,rfl,by go_num,by go_num,Y,Y,i,n,Y,bl⟩
     case measure=>exact eT
  ·obtain rfl:b=16:=Y;have E:=g.o.done M;have A:=g.o.sz;have C:=g.o.gi.pos;have ao:=g.o.eb;have a1:G T<=100000:=by rw[show 16-1=15 from rfl]at A;omega
   go_wp2;refine aK (v:=BG #[A3 (O ⟨w.heap.size+1,0,N⟩),I U c]) (by simp[results,results208,go_sem]) rfl ?_;exact⟨w.heap.size+1,T,c,rfl,i.toIn C a1,Y,bl,C1 ⟨E.1,D,E.2.2,ao,E.2.1⟩⟩
end
section
variable{B b:Nat}{S:ByteArray}{d:Nat}{w:vz}{p:Nat}{l:wg}{f:List Nat}{e:Nat}
def nM(a c:Nat):Nat:=if c<2*a then 0 else c/a-1
def nN(a g c:Nat):Nat:=if c<2*a then g+c else g+(a+c%a)*2^(c/a-1)
def Rj:∀a:Fin 29,8<=a.val->wrap64 (3+wrap64 ((4+(a.val:Int)%4)*2^(a.val/4-1)))=(nN 4 3 a.val:Nat)/\(a.val:Int)/4-1=(nM 4 a.val:Nat):=by decide +kernel
def Rl:∀a:Fin 33,4<=a.val->wrap64 (1+wrap64 ((2+(a.val:Int)%2)*2^(a.val/2-1)))=(nN 2 1 a.val:Nat)/\(a.val:Int)/2-1=(nM 2 a.val:Nat):=by decide +kernel
def Ri(a:Nat)(h:a<29)(w:vz):wh DG 273 #[I U a,I U 4,I U 3] w λn m=>n=BX (BG #[I U (nM 4 a:Nat),I U (nN 4 3 a:Nat)])/\∃i,m=w.drewN i:=by
 by_cases q:a<8
 ·have g:(a:Int)<8:=Y;have e1:nM 4 a=0:=by unfold nM;rw[ak Y]
  have e2:((nN 4 3 a:Nat):Int)=3+(a:Int):=by unfold nN;rw[ak Y];omega
  rw[e1,e2]
  go_in
  go_wp2;refine aK (v:=BG #[I U (0:Nat),I U (3+(a:Int))]) (by simp[results,results273,go_sem]) rfl ⟨rfl,0,rfl⟩
 ·have g:¬(a:Int)<8:=Y;have c:=H (Rj ⟨a,h⟩ (by show 8<=a;omega));simp only[]at c;have r:0<=(a:Int)/4-1:=Y;have s:(a:Int)/4-1<7:=Y
  go_in
  go_wp2_with fail;go_quiet (fail);go_wp2;obtain⟨j,k⟩:=c.o;refine aK (v:=BG #[I U (nM 4 a:Nat),I U (nN 4 3 a:Nat)]) ?_ rfl ⟨rfl,nq,rfl⟩;simp[results,results273,go_sem,j,k]
def mo(a:Nat)(h:a<33)(w:vz):wh DG 273 #[I U a,I U 2,I U 1] w λn m=>n=BX (BG #[I U (nM 2 a:Nat),I U (nN 2 1 a:Nat)])/\∃i,m=w.drewN i:=by
 by_cases q:a<4
 ·have g:(a:Int)<4:=Y;have e1:nM 2 a=0:=by unfold nM;rw[ak Y]
  have e2:((nN 2 1 a:Nat):Int)=1+(a:Int):=by unfold nN;rw[ak Y];omega
  rw[e1,e2]
  go_in
  go_wp2;refine aK (v:=BG #[I U (0:Nat),I U (1+(a:Int))]) (by simp[results,results273,go_sem]) rfl ⟨rfl,0,rfl⟩
 ·have g:¬(a:Int)<4:=Y;have c:=H (Rl ⟨a,h⟩ (by show 4<=a;omega));simp only[]at c;have r:0<=(a:Int)/2-1:=Y;have s:(a:Int)/2-1<16:=Y
  go_in
  go_wp2_with fail;go_quiet (fail);go_wp2;obtain⟨j,k⟩:=c.o;refine aK (v:=BG #[I U (nM 2 a:Nat),I U (nN 2 1 a:Nat)]) ?_ rfl ⟨rfl,nq,rfl⟩;simp[results,results273,go_sem,j,k]
def Rh:∀a:Fin 286,257<=a.val->a.val≠285->nM 4 (a.val-257)=(gQ a.val).2/\nN 4 3 (a.val-257)=(gQ a.val).1:=by decide +kernel
def Rg:∀a:Fin 30,nM 2 a.val=(gF a.val).2/\nN 2 1 a.val=(gF a.val).1:=by decide +kernel
def Pn(h:kH B b S d w p l f e)(D:e≠0)(a c n:Nat)(P:a<=100000)(M:c<=1000000)(Q:n<=32768):wh DG 274 #[A3 (O ⟨b,0,N⟩),I U a,I U c,I U n] w λs v=>s=BX (BG #[])/\kH B b S d v p l f e/\Kept 5 B [b] w v:=by
 have z:=h.c2;have K:=h.c4;obtain⟨E,R,u⟩:=ke h.own;rw[u]at z;clear u;have L:((e:Int)==0)=CS:=eS;have q:=H (ro h 5 Y);rw[FF D]at q;have T:∀i:vz,kH B b S d i p l f e->Kept 5 B [b] w i->kH B b S d i p l f e/\Kept 5 B [b] w i:=λi x b=>⟨x,b⟩;by_cases F:G f<c
 ·have y:(G f:Int)<c:=Y
  go_in
  go_wp2_with fail;apply q.o.m;rintro s r ⟨rfl,g,m⟩;have C:=g.c4;go_wp2;go_loopw [8] (λk wr=>k=I U 0/\wr=r) (λ_ _=>0)
  case atStart=>exact⟨rfl,rfl⟩
  case round=>
   obtain⟨rfl,rfl⟩:=hrel;by_cases t:0<a
   ·have j:(0:Int)<a:=Y;go_wp2
    go_end0
    exact⟨rfl,g,m⟩
   ·have j:¬(0:Int)<a:=Y;go_wp2
    go_end0
    exact⟨rfl,g,m⟩
 ·have y:¬(G f:Int)<c:=Y;by_cases J:n<c
  ·have A:(n:Int)<c:=Y
   go_in
   go_wp2_with fail;apply q.o.m;rintro s r ⟨rfl,g,m⟩;have C:=g.c4;go_wp2;go_loopw [8] (λk wr=>k=I U 0/\wr=r) (λ_ _=>0)
   case atStart=>exact⟨rfl,rfl⟩
   case round=>
    obtain⟨rfl,rfl⟩:=hrel;by_cases t:0<a
    ·have j:(0:Int)<a:=Y;go_wp2
     go_end0
     exact⟨rfl,g,m⟩
    ·have j:¬(0:Int)<a:=Y;go_wp2
     go_end0
     exact⟨rfl,g,m⟩
  ·have A:¬(n:Int)<c:=Y
   go_in
   go_wp2;go_loopw [8] (λk wr=>k=I U 0/\wr=w) (λ_ _=>0)
   case atStart=>exact⟨rfl,rfl⟩
   case round=>
    obtain⟨rfl,rfl⟩:=hrel;by_cases t:0<a
    ·have j:(0:Int)<a:=Y;go_wp2
     go_end0
     exact⟨rfl,h,Kept.refl _ _ _ _⟩
    ·have j:¬(0:Int)<a:=Y;go_wp2
     go_end0
     exact⟨rfl,h,Kept.refl _ _ _ _⟩
def Pj(h:kH B b S d w p l f 0)(c a g:Nat)(F:c<=100000)(E:a<=1000000)(J:g<=32768)(u:G f<a\/g<a):wh DG 274 #[A3 (O ⟨b,0,N⟩),I U c,I U a,I U g] w λq n=>q=BX (BG #[])/\kH B b S d n p l f 5/\Kept 5 B [b] w n:=by
 have s:=h.c2;obtain⟨z,K,k⟩:=ke h.own;rw[k]at s;clear k;have j:=H (ro h 5 Y);rw[rz]at j;have v:(G f:Int)<a\/(¬(G f:Int)<a/\(g:Int)<a):=Y;clear u;rcases v with r|⟨r,A⟩;all_goals
  go_in
  go_wp2_with fail;apply j.o.m;rintro q y ⟨rfl,i,m⟩;have D:=i.c4;go_wp2;go_loopw [8] (λx wr=>x=I U 0/\wr=y) (λ_ _=>0)
  case atStart=>exact⟨rfl,rfl⟩
  case round=>
   obtain⟨rfl,rfl⟩:=hrel;by_cases C:0<c
   ·have t:(0:Int)<c:=Y;go_wp2
    go_end0
    exact⟨rfl,i,m⟩
   ·have t:¬(0:Int)<c:=Y;go_wp2
    go_end0
    exact⟨rfl,i,m⟩
def Dg(g:Nat)(j:1<=g)(k:g<=G f)(i:∀c∈f,c<256):∀h,∀c∈kE g h f,c<256
 |0,c,a=>i c a
 |h+1,c,a=>by
  rw[sY]at a;rcases aZ.1 a with a|a;·exact Dg g j k i h c a
  ·simp only[cZ]at a;have m:=rC g h f;rw[a,aL,af Y];exact Dg g j k i h _ (cI _)
def Pt(h:kH B b S d w p l f 0)(i g u:Nat)(hn:i<=100000)(aa:1<=g)(X:g<=G f)(hw:g<=u)(a5:u<=32768)(W:∀m∈f,m<256):wh DG 274 #[A3 (O ⟨b,0,N⟩),I U i,I U g,I U u] w λm L=>m=BX (BG #[])/\∃n c k,kH B b S d L p n c k/\((G f+i<=d/\c=kE g i f/\k=0)\/(d<G f+i/\k=6))/\Kept 5 B [b] w L:=by
 have C:=h.c2;have lm:=h.lm;have lo:=h.lo;obtain⟨ao,oc,K⟩:=ke h.own;rw[K]at C;clear K;have c1:¬(G f:Int)<g:=Y;have c3:¬(u:Int)<g:=Y;have M:wt (∀a,a<=i->∀{m},m∈kE g a f->m<256):=λa _ m t=>Dg g aa X W a m t
 go_in
 go_wp2;go_loopw [8] (λz wr=>∃(a k:Nat) (n:wg) (c:List Nat),z=I U a/\a<=i/\kH B b S d wr p n c k/\wt ((G f+a<=d/\c=kE g a f/\k=0)\/(d<G f+a/\k=6))/\Kept 5 B [b] w wr) (λz _=>i-(intOf z).toNat)
 case atStart=>exact⟨0,0,l,f,rfl,aw _,h,C1 ⟨Y,rfl,rfl⟩,Kept.refl _ _ _ _⟩
 clear h C
 case round=>
  obtain⟨a,k,n,c,rfl,hj,r,v,A⟩:=hrel;have d4:=r.c4;by_cases cj:a<i
  ·have R:(a:Int)<i:=Y;rcases v.o with⟨ad,s,rfl⟩|⟨ad,rfl⟩
   ·have J:G c=G f+a:=by rw[s,rC]
    have x:=H (sY g a f);rw[<-s]at x;obtain⟨a0,a6,ac,_⟩:=yJ r.own Y;subst ac;have d2:=r.c2;obtain⟨j,E⟩:∃j,G c-g=j:=⟨_,rfl⟩;have y:j<G c:=Y;have t:=r.own.cellAt j Y;rw[aE,af y]at t;simp only[bK]at t;have F:c.getD (G c-g) 0=c[j]:=by rw[E,aL,af y];rfl
    rw[F]at x;have V:=M.o a Y (by rw[<-s];exact cI y);generalize T:c[j]=q at *;have a4:IntKind.i64.wrap ((G c:Int)-(g:Int))=(j:Int):=by rw[bu];omega
    have a2:(0:Int)<=(j:Int):=Y;have a3:(j:Int)<(G c:Int):=Y;have P:=H J;clear T v s F E J;go_wp2_with fail;go_region_with (go_at_call 108;apply(yS (r.drewN 1) _ q (by first|rfl|omega) V).m;rintro m w3 ⟨rfl,al,r3,k3⟩);all_goals have Q:wt (((G f+(a+1)<=d/\(pQ d q (c,0)).1=kE g (a+1) f/\(pQ d q (c,0)).2=0)\/(d<G f+(a+1)/\(pQ d q (c,0)).2=6))):=(by
     have h1:=P.o;by_cases D:G c+1<=d;·rw[Eo D,x.o];exact C1 ⟨Y,rfl,rfl⟩
     ·rw[FG D];exact C2 ⟨Y,rfl⟩)
    all_goals go_wp2
    all_goals go_roundw
    all_goals first|exact⟨a+1,_,al,_,by go_num,Y,r3,Q,(A.drewN 1).t k3⟩|(simp[intOf];omega)
   ·have a1:((6:Int)==0)=CS:=bF;go_wp2
    go_end0
    exact⟨rfl,n,c,6,r,C2 ⟨Y,rfl⟩,A⟩
  ·obtain rfl:a=i:=Y;have R:¬(a:Int)<a:=Y;go_wp2
   go_end0
   exact⟨rfl,n,c,k,r,v,A⟩
def Cb(S:ByteArray)(c a e i h g:Nat):Prop:=
 (e≠0/\i=0/\h=a/\g=e)\/(e=0/\a+c<=8*S.size/\i=ix ((hH S a).take c)/\h=a+c/\g=0)\/(e=0/\8*S.size<a+c/\i=0/\h=a/\g=5)
def xh(h:kH B b S d w p l f e)(a:Nat)(j:a<=16):wh DG 112 #[A3 (O ⟨b,0,N⟩),I U a] w λg c=>∃m s o,g=BX (I U (m:Nat))/\kH B b S d c s l f o/\wt (Cb S a p e m s o)/\m<2^a/\Kept 5 B [b] w c:=by
 have q:0<2^a:=Nat.pos_of_ne_zero cO;by_cases i:e=0
 ·subst i;by_cases n:p+a<=8*S.size
  ·apply(Nb h a j n).m;rintro g c ⟨rfl,r,k⟩;refine⟨_,_,0,rfl,r,C2 (C1 ⟨rfl,n,rfl,rfl,rfl⟩),?_,k⟩;have:=pU ((hH S p).take a);rw[ax,sq,dQ Y]at this;exact this
  ·apply(Nc h a j Y).m;rintro g c ⟨rfl,r,k⟩;exact⟨0,_,5,rfl,r,C2 (C2 ⟨rfl,Y,rfl,rfl,rfl⟩),q,k⟩
 ·apply(Su h i a j).m;rintro g c ⟨rfl,r,k⟩;exact⟨0,_,e,rfl,r,C1 ⟨i,rfl,rfl,rfl⟩,q,k⟩
def S0(h:kH B b S d w p l f e)(k:e≠0){a:Nat} :
  wh DG 272 #[A3 (O ⟨b,0,N⟩),A3 (O ⟨a,0,N⟩)] w λg c=>g=BX (I U (0:Nat))/\c=w:=by
 have j:=h.c4;have m:((e:Int)==0)=CS:=eS
 go_in
 go_wp2;go_loopw [5] (λi wr=>wr=w) (λ_ _=>0)
 case atStart=>rfl
 case round=>subst hrel;go_wp2;go_ret;exact⟨rfl,rfl⟩
structure oE(w:vz)(bt:Nat)(cs ss:List Nat)(M:Nat):Prop where
 ex:∃T m,qC w bt T/\mq T m/\pV T M/\∀v,iY T 0 v=kg cs ss v
def oE.kept{j:vz}{c a:Nat}{g i:List Nat}(h:oE w c g i a)(k:Kept 5 B [b] w j)(r:kH B b S d w p l f e):oE j c g i a:=by obtain⟨m,q,n,o⟩:=h.ex;exact⟨m,q,n.kept k r.isIn,o⟩
def KH(h j:List Nat)(S:ByteArray)(c e k g a:Nat):Prop:=
 (e≠0/\k=0/\g=c/\a=e)\/(e=0/\∃i,kg h j (hH S c)=O (k,i)/\a=0/\hH S g=i/\g<=8*S.size)\/(e=0/\kg h j (hH S c)=N/\a=5)
def J7(h:kH B b S d w p l f e)(J:e=0->p<=8*S.size){t q:Nat}{j n:List Nat}(F:oE w t j n q)(E:q<=1000):wh DG 272 #[A3 (O ⟨b,0,N⟩),A3 (O ⟨t,0,N⟩)] w λg o=>∃i x u,g=BX (I U (i:Nat))/\kH B b S d o x l f u/\wt (KH j n S p e i x u)/\(i<=q\/wt (∃m,kg j n (hH S p)=O (i,m)))/\Kept 5 B [b] w o:=by
 by_cases s:e=0
 ·subst s;obtain⟨M,P,y,z,A,v⟩:=F.ex;apply(SI h (J rfl) y z A E).m;rintro g o ⟨i,K,e,rfl,r,a,k⟩;refine⟨i,K,e,rfl,r,?_,?_,k⟩
  ·rw[v]at a;cases c:kg j n (hH S p)with
   |none=>rw[c]at a;exact C2 (C2 ⟨rfl,c,a.1⟩)
   |some g=>obtain⟨L,m⟩:=g;rw[c]at a;obtain⟨rfl,rfl,C,D⟩:=a;exact C2 (C1 ⟨rfl,m,c,rfl,C,D⟩)
  ·rw[v]at a;cases c:kg j n (hH S p)with
   |none=>rw[c]at a;exact C1 a.2
   |some g=>obtain⟨L,m⟩:=g;rw[c]at a;obtain⟨rfl,_⟩:=a;exact C2 ⟨m,rfl⟩
 ·apply(S0 h s).m;rintro g o ⟨rfl,rfl⟩;exact⟨0,p,e,rfl,h,C1 ⟨s,rfl,rfl,rfl⟩,C1 (aw _),Kept.refl _ _ _ _⟩
def CA(d h c j:Nat)(a:List Nat)(e:Nat)(i:List Nat)(g:Nat):Prop:=
 (e≠0/\i=a/\g=e)\/(e=0/\(G a<c\/j<c)/\g=5)\/(e=0/\c<=G a/\c<=j/\((G a+h<=d/\i=kE c h a/\g=0)\/(d<G a+h/\g=6)))
def Ht(h:kH B b S d w p l f e)(g a c:Nat)(q:g<=100000)(z:1<=a)(v:a<=1000000)(s:c<=32768)(x:∀i∈f,i<256):wh DG 274 #[A3 (O ⟨b,0,N⟩),I U g,I U a,I U c] w λi j=>i=BX (BG #[])/\∃t n m,kH B b S d j p t n m/\wt (CA d g a c f e n m)/\Kept 5 B [b] w j:=by
 by_cases o:e=0
 ·subst o;by_cases u:G f<a\/c<a
  ·apply(Pj h g a c q v s u).m;rintro i j ⟨rfl,r,k⟩;exact⟨rfl,_,_,_,r,C2 (C1 ⟨rfl,u,rfl⟩),k⟩
  ·apply(Pt h g a c q z Y Y s x).m;rintro i j ⟨rfl,t,n,m,r,y,k⟩;exact⟨rfl,t,n,m,r,C2 (C2 ⟨rfl,Y,Y,y⟩),k⟩
 ·apply(Pn h o g a c q v s).m;rintro i j ⟨rfl,r,k⟩;exact⟨rfl,_,_,_,r,C1 ⟨o,rfl,rfl⟩,k⟩
end
section
variable{B b:Nat}{S:ByteArray}{f:Nat}{w:vz}{p:Nat}{i:wg}{g:List Nat}{e:Nat}
section
variable{c:nK}{a:Nat}{r d:List Bool}{o e:List Nat}{b:Except Nat (List Bool×List Nat)}
def pe{m:Nat}(h:iA c a f r o b)(l:iO c a f r o=.error m):b=.error m:=by
 rcases h.parted with⟨s,j,k⟩|⟨q,n,j,k⟩|⟨q,n,j,k⟩;·rw[l]at j;cases j;exact k
 ·rw[l]at j;cases j
 ·rw[l]at j;cases j
def M8(h:iA c a f r o b)(l:iO c a f r o=.ok (CS,d,e)):b=.ok (d,e):=by
 rcases h.parted with⟨q,j,k⟩|⟨n,m,j,k⟩|⟨n,m,j,k⟩;·rw[l]at j;cases j
 ·rw[l]at j;cases j;exact k
 ·rw[l]at j;cases j
def pm(h:iA c a f r o b)(l:iO c a f r o=.ok (CD,d,e)):iA c a f d e b:=by
 rcases h.parted with⟨q,j,k⟩|⟨n,m,j,k⟩|⟨n,m,j,k⟩;·rw[l]at j;cases j
 ·rw[l]at j;cases j
 ·rw[l]at j;cases j;exact k
def Sb(h:kg c.cs c.ss r=N):iO c a f r o=.error 5:=by unfold iO;rw[h]
def part_lit{j:Nat}(h:kg c.cs c.ss r=O (j,d))(k:j<256):iO c a f r o=if (G o)+1<=f then .ok (CD,d,o++[j])else .error 6:=by unfold iO;rw[h];simp only[ak k]
def JS(h:kg c.cs c.ss r=O (256,d)):iO c a f r o=.ok (CS,d,o):=by unfold iO;rw[h];simp
def R6{j:Nat}(h:kg c.cs c.ss r=O (j,d))(k:285<j):iO c a f r o=.error 5:=by unfold iO;rw[h];simp only[];rw[aj Y,aj Y,ak k]
end
def IR{j:nK}{v:Nat}{k P:List Nat}{d A n:Nat}(hs:kg j.cs j.ss (hH S A)=O (d,hH S n))(h1:257<=d)(h2:d<=285)(a0:n<=8*S.size)
  {s Q e2 c u z o l C W t:Nat} (b1:Cb S (gQ d).2 n 0 s Q e2) (s2:KH j.cd j.sd S Q e2 c u z) (m:o=if 29<c then qT 5 z else z) (E:Cb S (nM 2 c) u o l C W) (x:CA f ((gQ d).1+s) (nN 2 1 c+l) v k W P t):(t=0->iO j v f (hH S A) k=.ok (CD,hH S C,P)/\C<=8*S.size/\P=kE (nN 2 1 c+l) ((gQ d).1+s) k/\nN 2 1 c+l<=G k)/\(t≠0->iO j v f (hH S A) k=.error t):=by
 have a:iO j v f (hH S A) k=match mg (gQ d).2 (hH S n)with
   |none=>.error 5
   |some (s,r)=>match kg j.cd j.sd r with
    |none=>.error 5
    |some (c,r)=>if 29<c then .error 5 else match mg (gF c).2 r with
     |none=>.error 5
     |some (l,r)=>
      if(gF c).1+l<=G k/\(gF c).1+l<=v then
       if (G k)+((gQ d).1+s)<=f then .ok (CD,r,kE ((gF c).1+l) ((gQ d).1+s) k)else .error 6
      else .error 5:=by
  unfold iO;rw[hs];simp only[];rw[aj Y,aj Y,aj Y];rfl
 have R:o≠0->t=o:=λhn=>by
  rcases E with⟨_,_,_,h⟩|⟨h,_⟩|⟨h,_⟩;·rcases x with⟨_,_,q⟩|⟨q,_⟩|⟨q,_⟩<;>omega
  ·exact absurd h hn
  ·exact absurd h hn
 have aa:∀D,D=0\/D=5->qT 5 D=5:=λD hz=>by unfold qT;split<;>omega
 rcases b1 with⟨h,_⟩|⟨_,ad,rfl,rfl,rfl⟩|⟨_,ad,rfl,rfl,rfl⟩;·exact absurd rfl h
 ·have L:mg (gQ d).2 (hH S n)=O (ix ((hH S n).take (gQ d).2),hH S (n+(gQ d).2)):=by unfold mg;rw[ak ob,yo]
  rw[L]at a;simp only[]at a;rcases s2 with⟨h,_⟩|⟨_,r',K,rfl,rfl,a1⟩|⟨_,K,rfl⟩;·exact absurd rfl h
  ·rw[K]at a;simp only[]at a;by_cases T:29<c
   ·rw[ak T]at m a;rw[rz]at m;have:=R Y;exact⟨λh=>Y,λ_=>by rw[a,this,m]⟩
   ·rw[aj T]at m a;subst m;obtain⟨V,y⟩:=Rg ⟨c,Y⟩;simp only[]at V y;rw[V]at E;rw[y]at x;rcases E with⟨h,_⟩|⟨_,al,rfl,rfl,rfl⟩|⟨_,al,rfl,rfl,rfl⟩;·exact absurd rfl h
    ·have M:mg (gF c).2 (hH S u)=O (ix ((hH S u).take (gF c).2),hH S (u+(gF c).2)):=by unfold mg;rw[ak ob,yo]
     rw[M]at a;simp only[]at a;rcases x with⟨h,_⟩|⟨_,ao,rfl⟩|⟨_,F,X,⟨g3,rfl,rfl⟩|⟨g3,rfl⟩⟩;·exact absurd rfl h
     ·rw[aj Y]at a;exact⟨λh=>Y,λ_=>a⟩
     ·rw[ak ⟨F,X⟩,ak g3]at a;exact⟨λ_=>⟨a,Y,by rw[y],by rw[y];exact F⟩,λh=>absurd rfl h⟩
     ·rw[ak ⟨F,X⟩,aj Y]at a;exact⟨λh=>Y,λ_=>a⟩
    ·have M:mg (gF c).2 (hH S C)=N:=by unfold mg;rw[aj ob]
     rw[M]at a;rcases x with⟨_,_,q⟩|⟨q,_⟩|⟨q,_⟩
     ·subst q;exact⟨λh=>Y,λ_=>a⟩
     ·omega
     ·omega
  ·rw[K]at a;simp only[]at a;have J:o=5:=by
    rw[m];split;·exact aa 5 (C2 rfl)
    ·rfl
   have:=R Y;exact⟨λh=>Y,λ_=>by rw[a,this,J]⟩
 ·have L:mg (gQ d).2 (hH S Q)=N:=by unfold mg;rw[aj ob]
  rw[L]at a;simp only[]at a;have ac:z=5:=by rcases s2 with⟨_,_,_,h⟩|⟨h,_⟩|⟨h,_⟩<;>omega
  have J:o=5:=by
   rw[m,ac];split;·exact aa 5 (C2 rfl)
   ·rfl
  have:=R Y;exact⟨λh=>Y,λ_=>by rw[a,this,J]⟩
end
section
variable{B b:Nat}{S:ByteArray}{most:Nat}{w:vz}{p:Nat}{f:wg}{a:List Nat}{e:Nat}
def sF(S:ByteArray)(i:Except Nat (List Bool×List Nat))(g:Nat)(d:List Nat)(e:Nat):Prop:=match i with
 | .ok (r,h)=>e=0/\d=h/\hH S g=r/\g<=8*S.size/\∀j∈d,j<256
 | .error c=>e=c/\c≠0
def Hi(S:ByteArray)(h:nK)(i most:Nat)(g:Except Nat (List Bool×List Nat))(d:Nat)(c:List Nat)(e:Nat):Prop:=
 (e=0/\d<=8*S.size/\iA h i most (hH S d) c g/\∀j∈c,j<256)\/(e≠0/\g=.error e)
def Mt:∀c:Fin 33,1<=nN 2 1 c.val/\nN 2 1 c.val<=200000:=by decide +kernel
def JC:gQ 285=(258,0):=by decide +kernel
def S1(h:kH B b S most w p f a 0){c:nK}{s b1 b2 M:Nat}(hM:M<=1000)(hw:s<=32768)(hT:oE w b1 c.cs c.ss M)(hD:oE w b2 c.cd c.sd 32)(ct:∀r l r',kg c.cs c.ss r=O (l,r')->l<=1000)(cq:∀r l r',kg c.cd c.sd r=O (l,r')->l<=32)
  {b5:Except Nat (List Bool×List Nat)} (cv:Hi S c s most b5 p a 0):wh DG 209 #[A3 (O ⟨b,0,N⟩),A3 (O ⟨b1,0,N⟩),A3 (O ⟨b2,0,N⟩),I U s] w λn i=>n=BX (BG #[])/\∃q a6 m e,kH B b S most i q a6 m e/\sF S b5 q m e/\Kept 5 B [b] w i:=by
 have ce:=H ct;have b6:=H cq
 go_in
 go_wp2;go_loopw [8] (λ_ wr=>∃(q:Nat) (a6:wg) (m:List Nat) (e:Nat),kH B b S most wr q a6 m e/\wt (Hi S c s most b5 q m e)/\oE wr b1 c.cs c.ss M/\oE wr b2 c.cd c.sd 32/\Kept 5 B [b] w wr) (λ_ wr=>if errOf b wr=0 then 8*S.size+1-posOf b wr else 0)
 case atStart=>exact⟨p,f,a,0,h,cv,hT,hD,Kept.refl _ _ _ _⟩
 case round=>
  obtain⟨q,a6,m,e,r,ci,hT,hD,kk⟩:=hrel;have mr:=H r.posOf;have me:=H r.errOf;have c4:=r.c4;rcases ci.o with⟨rfl,hq,hP,cp⟩|⟨he,hR⟩
  ·have C:=H hP;have aa:=H cp;have cg:=H (J7 r (λ_=>hq) hT hM);have ck:wt (∀i,Kept 5 B [b] wr i->oE i b1 c.cs c.ss M/\oE i b2 c.cd c.sd 32):=λi k=>⟨hT.kept k r,hD.kept k r⟩;go_wp2_with fail;apply cg.o.m;rintro n w1 ⟨l,q1,e1,rfl,r1,cj,db,k1⟩;have d4:=r1.c4;rcases cj.o with⟨h0,_⟩|⟨_,r',bf,rfl,bd,a5⟩|⟨_,bf,rfl⟩;·exact absurd rfl h0
   ·subst bd;have c9:=ce.o _ _ _ bf;have da:q<q1:=by have:=qd bf;rw[sq,sq]at this;omega
    have HS:=H bf;have R1:=H r1;have K1:=H (kk.t k1);have br:=H (λi k=>ck i (k1.t k));by_cases c1:l<256
    ·have cl:(l:Int)<256:=Y;have cn:((l:Int)==256)=CS:=eS;have bm:=H (GP R1 l c1);by_cases cr:G m+1<=most
     ·rw[Eo cr]at bm;have ac:=H (pm C ((part_lit HS c1).t (ak cr)));go_wp2_with fail;apply bm.o.m;rintro n w2 ⟨rfl,c0,r2,k2⟩;have m2:=H r2.errOf;have m3:=H r2.posOf;go_wp2;go_roundw
      case rel=>
       obtain⟨W,X⟩:=br.o w2 k2;exact⟨_,_,_,0,r2,C1 ⟨rfl,a5,ac,λc5 hy=>by
        rcases aZ.1 hy with hy|hy;·exact aa c5 hy
        ·simp at hy;omega⟩,W,X,K1.t k2⟩
      case measure=>rw[mr.o,me.o,m2.o,m3.o];simp;omega
     ·rw[FG cr]at bm;have ac:=H (pe C ((part_lit HS c1).t (aj cr)));go_wp2_with fail;apply bm.o.m;rintro n w2 ⟨rfl,c0,r2,k2⟩;have m2:=H r2.errOf;go_wp2;go_roundw
      case rel=>obtain⟨W,X⟩:=br.o w2 k2;exact⟨_,_,_,6,r2,C2 ⟨Y,ac⟩,W,X,K1.t k2⟩
      case measure=>rw[mr.o,me.o,m2.o];simp;omega
    ·by_cases c2:l=256
     ·subst c2;have ac:=H (M8 C (JS HS));go_wp2;refine aK (v:=BG #[]) tW rfl ?_;exact⟨rfl,q1,a6,m,0,R1,by rw[ac.o];exact⟨rfl,rfl,rfl,a5,aa⟩,K1⟩
     ·have cl:¬(l:Int)<256:=Y;have cn:((l:Int)==256)=CS:=eS;by_cases c3:285<l
      ·have co:(285:Int)<l:=Y;have ac:=H (pe C (R6 HS c3));go_wp2_with fail;apply(ro R1 5 Y).m;rintro n w2 ⟨rfl,r2,k2⟩;rw[rz]at r2;go_wp2;refine aK (v:=BG #[]) tW rfl ?_;exact⟨rfl,_,_,_,_,r2,by rw[ac.o];exact⟨rfl,Y⟩,K1.t k2⟩
      ·have co:¬(285:Int)<l:=Y;have es:(l:Int)-257=((l-257:Nat):Int):=Y;have b9:=Mp ⟨l,Y⟩ (by show 257<=l;omega);simp only[]at b9;have bh:=H (Ri (l-257) Y);by_cases b8:l=285
       ·subst b8;rw[show 285-257=28 from rfl]at bh;rw[JC]at b9;have ba:(gQ 285).2=0:=by rw[JC]
        have bb:(gQ 285).1=258:=by rw[JC]
        go_wp2_with fail;apply(bh _).m;rintro n w2 ⟨rfl,ad,rfl⟩;have R2:=H (R1.drewN ad);have K2:=H (K1.drewN ad);have a7:=H (λi k=>br i (((Kept.refl _ _ _ _).drewN ad).t k));generalize w1.drewN ad=w2 at *;go_wp2_with fail;apply(xh (R2) 0 Y).m;rintro n w3 ⟨x3,q3,e3,rfl,r3,B3,cx,k3⟩;have cy:x3<32:=by have:2^0<=2^5:=aY Y Y;omega
        have bv:=(a7 w3 k3).2;have bs:=H (J7 r3 (λh0=>by
         rcases B3.o with⟨h,_⟩|⟨_,h2,_,rfl,_⟩|⟨_,_,_,_,h5⟩;·exact absurd rfl h
         ·exact h2
         ·omega) bv Y)
        go_wp2_with fail;apply bs.o.m;rintro n w4 ⟨g,q4,D,rfl,r4,S4,bx,k4⟩;have cw:g<=32:=by
         rcases bx with h|h;·exact h
         ·obtain⟨r',bd⟩:=h.o;exact b6 _ _ _ bd
        have K4:=H (((K2.t k3)).t k4);have a8:=H (λi k=>a7 i ((k3.t k4).t k));have bc:nM 2 g<=15:=by unfold nM;split<;>omega
        have bw:=Mt ⟨g,Y⟩;simp only[]at bw;by_cases a9:29<g
        ·have bt:(29:Int)<g:=Y;go_wp2_with fail;apply(ro r4 5 Y).m;rintro n w5 ⟨rfl,r5,k5⟩;have E3:qT 5 D=if 29<g then qT 5 D else D:=by rw[ak a9]
         have K5:=H (K4.t k5);have a0:=H (λi k=>a8 i (k5.t k));have ao:=H (mo g Y);generalize a2:nM 2 g=E at *;generalize a3:nN 2 1 g=u at *;go_wp2_with fail;apply(ao _).m;rintro n w6 ⟨rfl,z,rfl⟩;go_wp2_with fail;apply(xh (r5.drewN z) E Y).m;rintro n w7 ⟨o,V,e7,rfl,r7,B7,bz,Q⟩;have b0:o<32768:=by have:2^E<=2^15:=aY Y bc;omega
         have K7:=H ((K5.drewN z).t Q);have a1:=H (λi k=>a0 i (((Kept.refl _ _ _ _).drewN z).t (Q.t k)));have al:=H (Ht r7 (258+x3) (u+o) s Y Y Y hw aa);go_wp2_with fail;apply al.o.m;rintro n w8 ⟨rfl,b4,T,j,A,C8,R⟩;have t:wt ((j=0->iO c s most (hH S q) m=.ok (CD,hH S V,T)/\V<=8*S.size/\T=kE (u+o) (258+x3) m/\u+o<=G m)/\(j≠0->iO c s most (hH S q) m=.error j)):=by have F:=B3.o;have J:=B7.o;have x:=C8.o;rw[<-a2]at J;rw[<-a3]at x ⊢;rw[<-bb]at x ⊢;rw[<-ba]at F;exact IR HS Y Y a5 F S4 E3 J x
         have m8:=H A.errOf;have m9:=H A.posOf;go_wp2;go_roundw
         case rel=>
          obtain⟨W,X⟩:=a1.o w8 R;refine⟨_,_,_,j,A,?_,W,X,K7.t R⟩;by_cases d:j=0
          ·obtain⟨y,K,L,P⟩:=t.o.1 d;exact C1 ⟨d,K,pm C y,by rw[L];exact Dg _ Y P aa _⟩
          ·exact C2 ⟨d,pe C (t.2 d)⟩
         case measure=>
          rw[mr.o,me.o,m8.o,m9.o];by_cases d:j=0
          ·obtain⟨y,K,L,P⟩:=t.o.1 d;have a4:=mp y;rw[sq,sq]at a4;simp only[if_true,ak d];omega
          ·simp only[if_true,aj d];omega
        ·have bt:¬(29:Int)<g:=Y;have r5:=r4;have E3:D=if 29<g then qT 5 D else D:=by rw[aj a9]
         have K5:=K4;have a0:=a8;have ao:=H (mo g Y);generalize a2:nM 2 g=E at *;generalize a3:nN 2 1 g=u at *;go_wp2_with fail;apply(ao _).m;rintro n w6 ⟨rfl,z,rfl⟩;go_wp2_with fail;apply(xh (r5.drewN z) E Y).m;rintro n w7 ⟨o,V,e7,rfl,r7,B7,bz,Q⟩;have b0:o<32768:=by have:2^E<=2^15:=aY Y bc;omega
         have K7:=H ((K5.drewN z).t Q);have a1:=H (λi k=>a0 i (((Kept.refl _ _ _ _).drewN z).t (Q.t k)));have al:=H (Ht r7 (258+x3) (u+o) s Y Y Y hw aa);go_wp2_with fail;apply al.o.m;rintro n w8 ⟨rfl,b4,T,j,A,C8,R⟩;have t:wt ((j=0->iO c s most (hH S q) m=.ok (CD,hH S V,T)/\V<=8*S.size/\T=kE (u+o) (258+x3) m/\u+o<=G m)/\(j≠0->iO c s most (hH S q) m=.error j)):=by have F:=B3.o;have J:=B7.o;have x:=C8.o;rw[<-a2]at J;rw[<-a3]at x ⊢;rw[<-bb]at x ⊢;rw[<-ba]at F;exact IR HS Y Y a5 F S4 E3 J x
         have m8:=H A.errOf;have m9:=H A.posOf;go_wp2;go_roundw
         case rel=>
          obtain⟨W,X⟩:=a1.o w8 R;refine⟨_,_,_,j,A,?_,W,X,K7.t R⟩;by_cases d:j=0
          ·obtain⟨y,K,L,P⟩:=t.o.1 d;exact C1 ⟨d,K,pm C y,by rw[L];exact Dg _ Y P aa _⟩
          ·exact C2 ⟨d,pe C (t.2 d)⟩
         case measure=>
          rw[mr.o,me.o,m8.o,m9.o];by_cases d:j=0
          ·obtain⟨y,K,L,P⟩:=t.o.1 d;have a4:=mp y;rw[sq,sq]at a4;simp only[if_true,ak d];omega
          ·simp only[if_true,aj d];omega
       ·obtain⟨ca,cc⟩:=Rh ⟨l,Y⟩ (by show 257<=l;omega) b8;simp only[]at ca cc;rw[ca,cc]at bh;have c6:((l:Int)==285)=CS:=eS;generalize ba:(gQ l).2=LN at *;generalize bb:(gQ l).1=LV at *;go_wp2_with fail;apply(bh _).m;rintro n w2 ⟨rfl,ad,rfl⟩;have R2:=H (R1.drewN ad);have K2:=H (K1.drewN ad);have a7:=H (λi k=>br i (((Kept.refl _ _ _ _).drewN ad).t k));generalize w1.drewN ad=w2 at *;go_wp2_with fail;apply(xh (R2) LN Y).m;rintro n w3 ⟨x3,q3,e3,rfl,r3,B3,cx,k3⟩;have cy:x3<32:=by have:2^LN<=2^5:=aY Y Y;omega
        have bv:=(a7 w3 k3).2;have bs:=H (J7 r3 (λh0=>by
         rcases B3.o with⟨h,_⟩|⟨_,h2,_,rfl,_⟩|⟨_,_,_,_,h5⟩;·exact absurd rfl h
         ·exact h2
         ·omega) bv Y)
        go_wp2_with fail;apply bs.o.m;rintro n w4 ⟨g,q4,D,rfl,r4,S4,bx,k4⟩;have cw:g<=32:=by
         rcases bx with h|h;·exact h
         ·obtain⟨r',bd⟩:=h.o;exact b6 _ _ _ bd
        have K4:=H (((K2.t k3)).t k4);have a8:=H (λi k=>a7 i ((k3.t k4).t k));have bc:nM 2 g<=15:=by unfold nM;split<;>omega
        have bw:=Mt ⟨g,Y⟩;simp only[]at bw;by_cases a9:29<g
        ·have bt:(29:Int)<g:=Y;go_wp2_with fail;apply(ro r4 5 Y).m;rintro n w5 ⟨rfl,r5,k5⟩;have E3:qT 5 D=if 29<g then qT 5 D else D:=by rw[ak a9]
         have K5:=H (K4.t k5);have a0:=H (λi k=>a8 i (k5.t k));have ao:=H (mo g Y);generalize a2:nM 2 g=E at *;generalize a3:nN 2 1 g=u at *;go_wp2_with fail;apply(ao _).m;rintro n w6 ⟨rfl,z,rfl⟩;go_wp2_with fail;apply(xh (r5.drewN z) E Y).m;rintro n w7 ⟨o,V,e7,rfl,r7,B7,bz,Q⟩;have b0:o<32768:=by have:2^E<=2^15:=aY Y bc;omega
         have K7:=H ((K5.drewN z).t Q);have a1:=H (λi k=>a0 i (((Kept.refl _ _ _ _).drewN z).t (Q.t k)));have al:=H (Ht r7 (LV+x3) (u+o) s Y Y Y hw aa);go_wp2_with fail;apply al.o.m;rintro n w8 ⟨rfl,b4,T,j,A,C8,R⟩;have t:wt ((j=0->iO c s most (hH S q) m=.ok (CD,hH S V,T)/\V<=8*S.size/\T=kE (u+o) (LV+x3) m/\u+o<=G m)/\(j≠0->iO c s most (hH S q) m=.error j)):=by have F:=B3.o;have J:=B7.o;have x:=C8.o;rw[<-a2]at J;rw[<-a3]at x ⊢;rw[<-bb]at x ⊢;rw[<-ba]at F;exact IR HS Y Y a5 F S4 E3 J x
         have m8:=H A.errOf;have m9:=H A.posOf;go_wp2;go_roundw
         case rel=>
          obtain⟨W,X⟩:=a1.o w8 R;refine⟨_,_,_,j,A,?_,W,X,K7.t R⟩;by_cases d:j=0
          ·obtain⟨y,K,L,P⟩:=t.o.1 d;exact C1 ⟨d,K,pm C y,by rw[L];exact Dg _ Y P aa _⟩
          ·exact C2 ⟨d,pe C (t.2 d)⟩
         case measure=>
          rw[mr.o,me.o,m8.o,m9.o];by_cases d:j=0
          ·obtain⟨y,K,L,P⟩:=t.o.1 d;have a4:=mp y;rw[sq,sq]at a4;simp only[if_true,ak d];omega
          ·simp only[if_true,aj d];omega
        ·have bt:¬(29:Int)<g:=Y;have r5:=r4;have E3:D=if 29<g then qT 5 D else D:=by rw[aj a9]
         have K5:=K4;have a0:=a8;have ao:=H (mo g Y);generalize a2:nM 2 g=E at *;generalize a3:nN 2 1 g=u at *;go_wp2_with fail;apply(ao _).m;rintro n w6 ⟨rfl,z,rfl⟩;go_wp2_with fail;apply(xh (r5.drewN z) E Y).m;rintro n w7 ⟨o,V,e7,rfl,r7,B7,bz,Q⟩;have b0:o<32768:=by have:2^E<=2^15:=aY Y bc;omega
         have K7:=H ((K5.drewN z).t Q);have a1:=H (λi k=>a0 i (((Kept.refl _ _ _ _).drewN z).t (Q.t k)));have al:=H (Ht r7 (LV+x3) (u+o) s Y Y Y hw aa);go_wp2_with fail;apply al.o.m;rintro n w8 ⟨rfl,b4,T,j,A,C8,R⟩;have t:wt ((j=0->iO c s most (hH S q) m=.ok (CD,hH S V,T)/\V<=8*S.size/\T=kE (u+o) (LV+x3) m/\u+o<=G m)/\(j≠0->iO c s most (hH S q) m=.error j)):=by have F:=B3.o;have J:=B7.o;have x:=C8.o;rw[<-a2]at J;rw[<-a3]at x ⊢;rw[<-bb]at x ⊢;rw[<-ba]at F;exact IR HS Y Y a5 F S4 E3 J x
         have m8:=H A.errOf;have m9:=H A.posOf;go_wp2;go_roundw
         case rel=>
          obtain⟨W,X⟩:=a1.o w8 R;refine⟨_,_,_,j,A,?_,W,X,K7.t R⟩;by_cases d:j=0
          ·obtain⟨y,K,L,P⟩:=t.o.1 d;exact C1 ⟨d,K,pm C y,by rw[L];exact Dg _ Y P aa _⟩
          ·exact C2 ⟨d,pe C (t.2 d)⟩
         case measure=>
          rw[mr.o,me.o,m8.o,m9.o];by_cases d:j=0
          ·obtain⟨y,K,L,P⟩:=t.o.1 d;have a4:=mp y;rw[sq,sq]at a4;simp only[if_true,ak d];omega
          ·simp only[if_true,aj d];omega
   ·have ac:=H (pe C (Sb bf));go_wp2;refine aK (v:=BG #[]) tW rfl ?_;exact⟨rfl,_,_,_,_,r1,by rw[ac.o];exact⟨rfl,Y⟩,kk.t k1⟩
  ·have c7:((e:Int)==0)=CS:=eS;have cf:=H hR;go_wp2
   go_end0
   exact⟨rfl,q,a6,m,e,r,by rw[cf.o];exact⟨rfl,he⟩,kk⟩
def oE.below{m:vz}{d M:Nat}{g l:List Nat}(h:oE w d g l M)(k:wm w.heap.size w m):oE m d g l M:=by obtain⟨n,v,⟨s,c,o,q,r,i,j,t⟩,u⟩:=h.ex;exact⟨n,v,⟨s,c,o,q,r,by rw[k.block _ (ap i)];exact i,by rw[k.block _ (ap j)];exact j,t⟩,u⟩
def DY{w:vz}{h:Int}:∀d g,([I U h]:List wg)[d]?=O g->(w.alloc (BV #[I U h] 3)).cell? ((⟨w.heap.size,0,N⟩:wT).add d)=O g:=by
 intro d g c;match d,c with
 |0,c=>exact(World.cell?_alloc_new _ _ _ _).t c
 |d+1,c=>simp at c
def SJ(t:wg)(d:List Nat)(u:w.ownsRow B 3 1 t (G d) (jI d))(W:B<=w.heap.size)(g h:Nat)(hn:g<=1000)(X:G d<=10000):wh DG 207 #[t,I U g,I U h] w λQ x=>∃v,Q=BX v/\x.ownsRow B 3 1 v (G d+g) (jI (d++DJ g h))/\Kept 3 B [] w x:=by
 obtain⟨M,E,J,K,L⟩:=bR infoInt
 go_in
 go_wp2;go_loopw [0,7] (λP m wr=>∃c:Nat,c<=g/\m=I U c/\wr.ownsRow B 3 1 P (G d+c) (jI (d++DJ c h))/\Kept 3 B [] w wr) (λ_ m _=>g-(intOf m).toNat)
 case atStart=>exact⟨0,aw _,rfl,by simpa using u,Kept.refl _ _ _ _⟩
 clear u
 case round=>
  obtain⟨c,hj,rfl,l,k⟩:=hrel;have aa:=k.size;obtain⟨A,C,rfl⟩:=ke l;have j:=H l;have n:=H k;clear l k;by_cases V:c<g
  ·have D:(c:Int)<g:=Y;go_wp2_with (at_builtin;refine aX _ rfl (.tmp 13) (.tmp 15) 52 rfl B 3 M (I U 0) 1 8 dF E J K L rfl bF (Z A (G d+c) C) (G d+c) _ rfl (j.alloc _) ⟨wr.heap.size,0,N⟩ 1 1 [I U h] rfl rfl ?hnews ?hone ?h63 ?hby ?hbs ?_)
   case hnews=>exact DY
   case hone=>intro ac s;simp at s;subst s;rfl
   case h63=>unfold maxLen;omega
   case hby=>omega
   case hbs=>simp;omega
   intro v2 w2 i r _;have y:=H ((n.alloc _).grown r (oQ (j.alloc _)));have q:jI (d++DJ c h)++[I U h]=jI (d++DJ (c+1) h):=by rw[List.replicate_succ',<-au];simp[jI]
   rw[q]at i;have z:=H i;obtain⟨R,T,F⟩:=ke i;subst F;clear i r q;go_wp2;go_roundw
   case rel=>exact⟨c+1,Y,by go_num,z,y⟩
   case measure=>exact eT
  ·obtain rfl:c=g:=Y;have D:¬(c:Int)<c:=Y;go_wp2;go_ret;exact⟨_,rfl,j,n⟩
def GZ(l:Nat->Nat)(g:List Nat)(j:Nat)(o:∀i∈g,i<=j):∀(k len c place:Nat) (r:List Bool) (d:Nat) (m:List Bool),kh l g k len c place r=O (d,m)->d<=j
 |0,_,_,_,_,_,_,h=>by simp[kh]at h
 |k+1,_,_,_,[],_,_,h=>by simp[kh]at h
 |k+1,len,c,place,i::r,d,m,h=>by
  simp only[kh]at h;by_cases n:2*c+i.toNat<l len
  ·rw[ak n]at h;simp only[Option.some.injEq,Prod.mk.injEq]at h;rw[<-h.1,aL];by_cases q:place+(2*c+i.toNat)<G g;·rw[af q];exact o _ (cI q)
   ·rw[List.getElem?_eq_none Y];exact aw _
  ·rw[aj n]at h;exact GZ l g j o k _ _ _ r d m h
def NQ{j g:List Nat}{c:Nat}(k:∀l∈g,l<=c)(r:List Bool)(d:Nat)(i:List Bool)(h:kg j g r=O (d,i)):d<=c:=by rw[vE]at h;exact GZ _ g c k _ _ _ _ r d i h
def fk:lL (λk=>j_.count k) 15=32768/\lL (λk=>j9.count k) 15=32768:=by decide +kernel
def LD:(∀c∈mL,c<=288)/\(∀c∈mK,c<=32):=by decide +kernel
def LA:([]++DJ 144 8++DJ 112 9++DJ 24 7++DJ 8 8=j_)/\[]++DJ 32 5=j9:=⟨rfl,rfl⟩
def Lz:(∀c,c<288->nth j_ c<16)/\∀c,c<32->nth j9 c<16:=by
 have g:∀c:Fin 288,nth j_ c.val<16:=by decide +kernel
 have h:∀c:Fin 32,nth j9 c.val<16:=by decide +kernel
 exact⟨λc d=>g ⟨c,d⟩,λc d=>h ⟨c,d⟩⟩
def vG.ok{l:List Nat}{c:List (Int×Int)}{g d:Nat}(h:vG l c g)(n:qC w d c)(o:lL (λk=>l.count k) 15<=32768):oE w d (cz l) (mz l) (G l):=by
 rcases h with⟨_,_,i,j,m⟩|⟨_,h⟩;·exact⟨c,16,n,i,j,m⟩
 ·omega
def GK(h:wg)(c g:List Nat)(q:w.ownsRow B 3 1 h (G c) (jI c))(l:B<=w.heap.size)(d i:Nat)(n:c++DJ d i=g)(o:d<=1000)(m:G c<=10000):wh DG 207 #[h,I U d,I U i] w λr k=>∃j,r=BX j/\k.ownsRow B 3 1 j (G g) (jI g)/\Kept 3 B [] w k:=by
 subst n;rw[ab,bj];exact SJ h c q l d i o m
def JO{k:Nat}{j:wg}{L:List Nat}{i:Nat}(h:w.ownsRow k 3 1 j i (jI L))(r:i=G L)(l:0<G L):∃d c,j=Z (O ⟨d,0,N⟩) (G L) c/\d<w.heap.size/\(∀g,g<G L->w.cell? ⟨d,0+g,N⟩=O (I U (nth L g:Nat)))/\G L<=c/\c<=9223372036854775807:=by
 subst r;obtain⟨d,c,rfl,v⟩:=yJ h l;rcases h.2 with⟨e1,_⟩|⟨u,s,t,e1,_,n,m,q,_⟩;·cases e1
 cases e1;refine⟨d,c,rfl,ap n,λg o=>?_,m,by unfold maxLen at q;omega⟩;rw[bZ,h.cellAt g Y];simp[jI,nth,o]
def SE(l m n d g:List Nat)(b1:G d=288)(aa:G g=32)(cf:G l<=1000)(cg:G m<=1000)(ci:G n<=1000)(bb:wt ([]++DJ 144 8=l))(bc:wt (l++DJ 112 9=m))(bd:wt (m++DJ 24 7=n))(a1:wt (n++DJ 8 8=d))(a2:wt ([]++DJ 32 5=g))(b2:∀i,i<G d->nth d i<16)(b3:∀i,i<G g->nth g i<16)
  (bz:lL (λk=>d.count k) 15<=32768) (b0:lL (λk=>g.count k) 15<=32768) (bf:∀r q C,kg (cz d) (mz d) r=O (q,C)->q<=1000) (br:∀r q C,kg (cz g) (mz g) r=O (q,C)->q<=32)
  (h:kH B b S most w p f a 0) {D:Nat} (hw:D<=32768) {ac:Except Nat (List Bool×List Nat)} (b4:Hi S ⟨cz d,mz d,cz g,mz g⟩ D most ac p a 0):wh DG 152 #[A3 (O ⟨b,0,N⟩),I U D] w λj w'=>j=BX (BG #[])/\∃t ca A e,kH B b S most w' t ca A e/\sF S ac t A e/\Kept 5 B [b] w w':=by
 have N2:=H aa;have n1:G d<=320/\0<G d:=Y;have n2:G g<=320/\0<G g:=Y;clear b1 aa;have ad:=H bf;have al:=H br;have a5:=H b4;have ao:=H bz;have a0:=H b0;have a3:=H b2;have a4:=H b3
 go_in
 go_wp2_with fail;apply(GK (B:=w.heap.size) (Z N 0 0) [] l (bI _ _ _ _) (ag _) 144 8 bb Y cO).m;rintro j w1 ⟨v1,rfl,o1,x⟩;have u:=x.size;go_wp2_with fail;apply(GK v1 l m o1 u 112 9 bc Y Y).m;rintro j w2 ⟨v2,rfl,o2,y⟩;have E:=y.size;go_wp2_with fail;apply(GK v2 m n o2 (aJ u E) 24 7 bd Y Y).m;rintro j w3 ⟨v3,rfl,o3,z⟩;have z3:=z.size;go_wp2_with fail;apply(GK v3 n d o3 (aJ u (aJ E z3)) 8 8 a1 Y Y).m;rintro j w4 ⟨v4,rfl,o4,k4⟩;have F:=H ((((x.t y).t z).t k4).below (ag _) cO);have O4:=H o4;have z4:=F.o.size;clear o1 o2 o3 o4 x y z k4 u E z3;go_wp2_with fail;apply(GK (B:=w4.heap.size) (Z N 0 0) [] g (bI _ _ _ _) (ag _) 32 5 a2 Y cO).m;rintro j w5 ⟨v5,rfl,o5,k5⟩;have R:=k5.below (ag _) cO;obtain⟨g1,c1,b8,bx,bv,bh,bm⟩:=JO (kH.ofBelow.own_below' O4 R) rfl Y;obtain⟨V,c2,b9,X,bw,bs,bt⟩:=JO o5 rfl Y;subst b8 b9;have v:=H (F.t (R.m z4));have L:=H (L8 g1 0 c1 d a3 Y bx bv ⟨bh,bm⟩);have P:=H bw;go_wp2_with fail;apply L.o.m;rintro j w6 ⟨cd,T1,f1,rfl,t1,cj,s,W⟩;have a7:=H (W.ok t1 ao);have J:=H (v.t (s.m v.size));have G2:=H (L8 (w:=w6) V 0 c2 g a4 Y (aF X s.size) (λi hi=>by rw[s.cell (p:=⟨V,0+i,N⟩) X];exact P i hi) ⟨bs,bt⟩);clear t1 s W L P v;go_wp2_with fail;apply G2.o.m;rintro j w7 ⟨ce,T2,f2,rfl,t2,ck,T,ba⟩;have Q:=ba.ok t2 a0;have a8:=a7.o.below T;have K:=H (J.t (T.m J.size));have R7:=h.ofBelow K;rw[N2.o]at Q;have a6:=H (S1 R7 (c:=⟨cz d,mz d,cz g,mz g⟩) (M:=G d) Y hw a8 Q ad al a5);go_wp2_with fail;apply a6.o.m;rintro j w8 ⟨rfl,t,cc,o8,e8,r8,a9,k8⟩;go_wp2
 go_end0
 refine⟨rfl,t,cc,o8,e8,r8,a9,?_⟩;have o:=K.o;exact Kept.t ⟨o.os,o.tape,o.output,o.size,λi A _ ho _=>by rw[o.block i (ap ho)];exact ho⟩ k8
def Ng(h:kH B b S most w p f a 0){k:Nat}(s:k<=32768){n:Except Nat (List Bool×List Nat)}(q:Hi S iM k most n p a 0):wh DG 152 #[A3 (O ⟨b,0,N⟩),I U k] w λu o=>u=BX (BG #[])/\∃m t l e,kH B b S most o m t l e/\sF S n m l e/\Kept 5 B [b] w o:=by
 have e1:mz j_=mL:=by unfold mz;rw[Ie];exact Co.2.1
 have e2:mz j9=mK:=by unfold mz;rw[Hw];exact Co.2.2.2
 refine SE _ _ _ j_ j9 Ie Hw u0 u0 u0 rfl rfl rfl LA.1 LA.2 (λg c=>Lz.1 g (by rw[Ie]at c;exact c)) (λg c=>Lz.2 g (by rw[Hw]at c;exact c)) (by rw[fk.1];omega) (by rw[fk.2];omega) ?_ ?_ h s ?_;·rw[e1];exact λr j i d=>aJ (NQ LD.1 r j i d) Y
 ·rw[e2];exact λr j i d=>NQ LD.2 r j i d
 ·rw[e1,e2,Co.1,Co.2.2.1];exact q
end
def iW(r:List Bool)(b:Nat):List Nat:=(List.range b).map λa=>ix ((r.drop (8*a)).take 8)
def mu(b:Nat)(r:List Bool)(a:List Nat):Except Nat (List Bool×List Nat):=
 if(r.drop (G r%8)).length<32 then .error 5
 else if ix ((r.drop (G r%8)).take 16)+ix (((r.drop (G r%8)).drop 16).take 16)≠65535\/((r.drop (G r%8)).drop 32).length<8*ix ((r.drop (G r%8)).take 16)then .error 5
 else if (G a)+ix ((r.drop (G r%8)).take 16)<=b then .ok (((r.drop (G r%8)).drop 32).drop (8*ix ((r.drop (G r%8)).take 16)),a++iW ((r.drop (G r%8)).drop 32) (ix ((r.drop (G r%8)).take 16)))
 else .error 6
section
variable{B b:Nat}{S:ByteArray}{a:Nat}{w:vz}{p:Nat}{d:wg}{c:List Nat}{e:Nat}
def Sz(S:ByteArray)(k:Nat)(h:k<S.size):ix ((hH S (8*k)).take 8)=nth (bl S) k:=by
 have e1:∀f,f<=8->(hH S (8*k)).take f=(jz (nth (bl S) k)).take f:=by
  intro f;induction f with
  |zero=>intro _;rfl
  |succ f m=>
   intro j;rw[tr S (8*k) f Y,m Y];have g:(8*k+f)/8=k:=Y;have i:(8*k+f)%8=f:=Y;rw[g,i];have l:f<(jz (nth (bl S) k)).length:=by rw[mj];omega
   rw[bN l];congr 2;match f,j with
   |0,_=>rfl
   |1,_=>rfl
   |2,_=>rfl
   |3,_=>rfl
   |4,_=>rfl
   |5,_=>rfl
   |6,_=>rfl
   |7,_=>rfl
 rw[e1 8 (ag _),aP (by rw[mj];exact ag _)];exact qZ _ (lJ S k h)
def Oy(S:ByteArray)(f i:Nat)(h:f+i<=S.size):iW (hH S (8*f)) i=((bl S).drop f).take i:=by
 have j:(((bl S).drop f).take i).length=i:=by rw[ax,aU,mC];omega
 apply List.ext_getElem;·rw[j];simp[iW]
 ·intro g l k;rw[j]at k;have e:(iW (hH S (8*f)) i)[g]=ix (((hH S (8*f)).drop (8*g)).take 8):=by simp[iW]
  rw[e,yo,show 8*f+8*g=8*(f+g)by omega,Sz S (f+g) Y,List.getElem_take,List.getElem_drop];simp[nth,af (show f+g<(bl S).length by rw[mC];omega)]
def GL(h:kH B b S a w p d c 0)(hp:p<=8*S.size)(b4:∀C∈c,C<256){A:Except Nat (List Bool×List Nat)}(a9:mu a (hH S p) c=A):wh DG 151 #[A3 (O ⟨b,0,N⟩)] w λC w'=>C=BX (BG #[])/\∃ad J ac e,kH B b S a w' ad J ac e/\sF S A ad ac e/\Kept 5 B [b] w w':=by
 obtain⟨k,hK⟩:∃k,(p+7)/8=k:=⟨_,rfl⟩;have ls:=h.ls;have ci:8*k<=8*S.size:=Y;have b3:(hH S p).drop ((hH S p).length%8)=hH S (8*k):=by rw[yo,sq];congr 1;omega
 unfold mu at a9;rw[b3]at a9;have a3:=H a9;have c1:=h.c1;have f1:=h.fz 1;have R0:=H (h.set1 (8*k) Y);have K0:=H ((Kept.refl 5 B [b] w).setCell (p:=⟨b,1,N⟩) cO (I U ((8*k:Nat):Int)));have eK:((8*k:Nat):Int)=((p:Int)+7)/8*8:=Y;rw[eK]at R0 K0;have bv:=H b4
 go_in
 go_wp2_with fail;apply(xh R0 16 Y).m;rintro C w2 ⟨f,q2,e2,rfl,r2,B2,br,k2⟩;have ct:f<65536:=by simpa using br
 go_wp2_with fail;apply(xh r2 16 Y).m;rintro C w3 ⟨x,z,e3,rfl,q,X,bm,k3⟩;have cq:x<65536:=by simpa using bm
 have R:=H ((K0.t k2).t k3);have L:=H q;have d0:=q.c0;have d1:=q.c1;have d4:=q.c4;have cw:=q.lp;have cv:=q.le;clear K0 k2 k3 r2 q R0 c1 f1 br bm;have bh:∀(E:vz) (a1:Nat),a1=5->wt (kH B b S a E z d c a1)->wt (A=.error 5)->wt (Kept 5 B [b] w E)->∃ad J ac e,kH B b S a E ad J ac e/\sF S A ad ac e/\Kept 5 B [b] w E:=by intro E a1 hE v hx hk;subst hE;exact⟨z,d,c,5,v,by rw[hx.o];exact⟨rfl,Y⟩,hk⟩
 have t:=H bh;clear bh;by_cases h3:e3=0
 ·have b8:f=ix ((hH S (8*k)).take 16)/\x=ix (((hH S (8*k)).drop 16).take 16)/\z=8*k+32/\8*k+32<=8*S.size:=by
   rcases B2.o with⟨s,_⟩|⟨_,a7,P,a0,aa⟩|⟨_,a7,P,a0,aa⟩;·exact absurd rfl s
   ·rcases X.o with⟨s,_⟩|⟨_,bd,hm,a8,M⟩|⟨_,bd,_,_,M⟩;·exact absurd aa s
    ·rw[a0,<-yo]at hm;exact⟨P,hm,Y,Y⟩
    ·omega
   ·rcases X.o with⟨_,_,_,M⟩|⟨s,_⟩|⟨s,_⟩<;>omega
  obtain⟨P,hm,a8,cp⟩:=b8;have v:=a3.o;rw[aj ob,<-P,<-hm,yo,sq]at v;have HR:=H v;subst h3;clear v P hm B2 X a3;by_cases cs:f+x=65535
  ·have a5:(f:Int)+(x:Int)=65535:=Y;by_cases cl:8*S.size<z+8*f
   ·have a4:decide (8*(S.size:Int)<(z:Int)+8*(f:Int))=CD:=eS;have o:wt (A=.error 5):=by have l:=HR.o;rw[ak (C2 Y)]at l;exact l.s
    clear a8;go_wp2_with fail;go_quiet (fail);go_wp2_with fail;apply(ro (L.drewN nq) 5 Y).m;rintro C u ⟨rfl,i,Q⟩;rw[rz]at i;have n:=(R.drewN nq).t Q;have g4:=i.c4;go_wp2;go_loopw [4] (λm wr=>m=I U 0/\wr=u) (λ_ _=>0)
    case atStart=>exact⟨rfl,rfl⟩
    case round=>
     obtain⟨rfl,rfl⟩:=hrel;by_cases cn:0<f
     ·have F:(0:Int)<f:=Y;go_wp2
      go_end0
      exact⟨rfl,t _ _ rfl i o n⟩
     ·have F:¬(0:Int)<f:=Y;go_wp2
      go_end0
      exact⟨rfl,t _ _ rfl i o n⟩
   ·have a4:decide (8*(S.size:Int)<(z:Int)+8*(f:Int))=CS:=eS;have a2:wt ((if (G c)+f<=a then Except.ok ((hH S (8*k+32)).drop (8*f),c++iW (hH S (8*k+32)) f)else Except.error 6)=A):=by have l:=HR.o;rw[aj Y]at l;exact l
    obtain⟨j,ce⟩:∃j,k+4=j:=⟨_,rfl⟩;have b6:j+f<=S.size:=Y;have HB:wt (G c+f<=a->sF S A (8*(j+f)) (c++((bl S).drop j).take f) 0):=by
     intro b7;have l:=a2.o;rw[ak b7,show 8*k+32=8*j by omega,yo,Oy S j f b6]at l;rw[<-l];refine⟨rfl,rfl,by congr 1;omega,Y,λcd hy=>?_⟩;rcases aZ.1 hy with hy|hy;·exact bv cd hy
     ·have ca:=dW (cN hy);obtain⟨m,hi,rfl⟩:=cF ca;rw[mC]at hi;have:=lJ S m hi;simpa[nth,mC,hi]using this
    have ba:wt (a<G c+f->A=.error 6):=λhf=>by have l:=a2.o;rw[aj Y]at l;exact l.s
    have b2:z=8*(j+0):=Y;have lo:=L.o.lo;clear HR a2;go_wp2_with fail;go_quiet (fail);obtain⟨u,ao⟩:∃E,w3.drewN nq=E:=⟨_,rfl⟩;have V:=H (L.drewN nq);have K4:=H (R.drewN nq);rw[ao]at V K4 ⊢;rw[b2]at V;go_wp2;go_loopw [4] (λm wr=>∃(g e':Nat) (J:wg) (y:List Nat),m=I U g/\g<=f/\kH B b S a wr (8*(j+g)) J y e'/\wt ((G c+g<=a/\y=c++((bl S).drop j).take g/\e'=0)\/(a<G c+f/\e'=6))/\Kept 5 B [b] w wr) (λm _=>f-(intOf m).toNat)
    case atStart=>exact⟨0,0,d,c,rfl,aw _,V,C1 ⟨Y,cO,rfl⟩,K4⟩
    case round=>
     obtain⟨g,e',J,y,rfl,hj,r,HC,kk⟩:=hrel;have d4:=r.c4;by_cases cj:g<f
     ·have b1:(g:Int)<f:=Y;rcases HC.o with⟨W,ho,rfl⟩|⟨W,rfl⟩
      ·have bs:G y=G c+g:=by rw[ho,ab,ax,aU,mC];omega
       have HT:=H (N4 (bl S) j g (by rw[mC];omega));have bf:j+g<S.size:=Y;have hX:=lJ S (j+g) bf;have HO:=H ho;have bw:=H bs;obtain⟨K,bb⟩:∃K,j+g=K:=⟨_,rfl⟩;obtain⟨T,hQ⟩:∃T,8*(j+g)=T:=⟨_,rfl⟩;have bc:8*(j+(g+1))=T+8:=Y;have bx:=H bc;have HQ:=H hQ;have d0:=r.c0;have d1:=r.c1;have f1:=r.fz 1;rw[hQ]at d1;have wq:IntKind.i64.wrap ((T:Int)/8)=(K:Int):=by rw[bu];omega
       have cg:(K:Int)<S.size:=Y;have ck:T<=100000000:=Y;have b0:=H r;have KK:=H kk;rw[bb]at hX HT;have b9:=λhh=>rT S K hh;have cf:K<S.size:=Y;generalize nth (bl S) K=al at *;clear r kk ho bs HC hQ bc bb bf;go_wp2_with fail;go_region_with (go_at_call 108;apply(yS (b0.drewN 1) _ al (by first|rfl|(rw[b9])|omega) hX).m;rintro C w3 ⟨rfl,cc,q,k3⟩);all_goals
        have g1:=q.c1;have g2:=q.fz 1;rw[HQ.o]at g1;have V:=H (q.set1 (8*(j+(g+1))) Y);have K4:=H (((KK.drewN 1).t k3).setCell (p:=⟨b,1,N⟩) cO (I U ((8*(j+(g+1)):Nat):Int)));have eQ:((8*(j+(g+1)):Nat):Int)=(T:Int)+8:=by have:=bx.o;omega
        rw[eQ]at V K4;have bz:wt (((G c+(g+1)<=a/\(pQ a al (y,0)).1=c++((bl S).drop j).take (g+1)/\(pQ a al (y,0)).2=0)\/(a<G c+f/\(pQ a al (y,0)).2=6))):=(by
         have l:=bw.o;by_cases cr:G y+1<=a;·rw[Eo cr,HT.o,<-au,<-HO.o];exact C1 ⟨Y,rfl,rfl⟩
         ·rw[FG cr];exact C2 ⟨Y,rfl⟩)
        clear q k3 eQ;go_wp2;go_roundw
        case rel=>exact⟨g+1,_,cc,_,by go_num,Y,V,bz,K4⟩
        case measure=>exact eT
      ·have co:((6:Int)==0)=CS:=bF;go_wp2
       go_end0
       exact⟨rfl,_,J,y,6,r,by rw[ba.o W];exact⟨rfl,Y⟩,kk⟩
     ·obtain rfl:g=f:=Y;have b1:¬(g:Int)<g:=Y;go_wp2
      go_end0
      rcases HC.o with⟨W,rfl,rfl⟩|⟨W,rfl⟩;·exact⟨rfl,_,J,_,0,r,HB W,kk⟩
      ·exact⟨rfl,_,J,y,6,r,by rw[ba.o W];exact⟨rfl,Y⟩,kk⟩
  ·obtain⟨D,a6⟩:∃D,f+x=D:=⟨_,rfl⟩;have ws:IntKind.i64.wrap ((f:Int)+(x:Int))=(D:Int):=by rw[bu];omega
   have a5:((D:Int) != 65535)=CD:=eS;clear a6;have o:wt (A=.error 5):=by have l:=HR.o;rw[ak (C1 cs)]at l;exact l.s
   clear a8;go_wp2_with fail;go_quiet (fail);go_wp2_with fail;apply(ro (L.drewN nq) 5 Y).m;rintro C u ⟨rfl,i,Q⟩;rw[rz]at i;have n:=(R.drewN nq).t Q;have g4:=i.c4;go_wp2;go_loopw [4] (λm wr=>m=I U 0/\wr=u) (λ_ _=>0)
   case atStart=>exact⟨rfl,rfl⟩
   case round=>
    obtain⟨rfl,rfl⟩:=hrel;by_cases cn:0<f
    ·have F:(0:Int)<f:=Y;go_wp2
     go_end0
     exact⟨rfl,t _ _ rfl i o n⟩
    ·have F:¬(0:Int)<f:=Y;go_wp2
     go_end0
     exact⟨rfl,t _ _ rfl i o n⟩
 ·have b5:e3=5/\A=.error 5:=by
   have v:=a3.o;rcases B2.o with⟨s,_⟩|⟨_,a7,P,a0,aa⟩|⟨_,a7,P,a0,aa⟩;·exact absurd rfl s
   ·rcases X.o with⟨s,_⟩|⟨_,_,_,_,M⟩|⟨_,bd,_,_,M⟩;·exact absurd aa s
    ·exact absurd M h3
    ·rw[ak ob]at v;exact⟨M,v.s⟩
   ·rcases X.o with⟨_,_,_,M⟩|⟨s,_⟩|⟨s,_⟩
    ·rw[ak ob]at v;exact⟨Y,v.s⟩
    ·omega
    ·omega
  obtain⟨rfl,bt⟩:=b5;have o:=H bt;have n0:((5:Int)==0)=CS:=bF;clear bt h3;by_cases cs:f+x=65535
  ·have a5:(f:Int)+(x:Int)=65535:=Y;by_cases cl:8*S.size<z+8*f
   ·have a4:decide (8*(S.size:Int)<(z:Int)+8*(f:Int))=CD:=eS;go_wp2_with fail;go_quiet (fail);go_wp2_with fail;apply(ro (L.drewN nq) 5 Y).m;rintro C u ⟨rfl,i,Q⟩;rw[FF Y]at i;have n:=(R.drewN nq).t Q;have g4:=i.c4;go_wp2;go_loopw [4] (λm wr=>m=I U 0/\wr=u) (λ_ _=>0)
    case atStart=>exact⟨rfl,rfl⟩
    case round=>
     obtain⟨rfl,rfl⟩:=hrel;by_cases cn:0<f
     ·have F:(0:Int)<f:=Y;go_wp2
      go_end0
      exact⟨rfl,t _ _ rfl i o n⟩
     ·have F:¬(0:Int)<f:=Y;go_wp2
      go_end0
      exact⟨rfl,t _ _ rfl i o n⟩
   ·have a4:decide (8*(S.size:Int)<(z:Int)+8*(f:Int))=CS:=eS;go_wp2_with fail;go_quiet (fail);obtain⟨u,ao⟩:∃E,w3.drewN nq=E:=⟨_,rfl⟩;have i:=L.o.drewN nq;have n:=R.o.drewN nq;rw[ao]at i n ⊢;have g4:=i.c4;clear ao;go_wp2;go_loopw [4] (λm wr=>m=I U 0/\wr=u) (λ_ _=>0)
    case atStart=>exact⟨rfl,rfl⟩
    case round=>
     obtain⟨rfl,rfl⟩:=hrel;by_cases cn:0<f
     ·have F:(0:Int)<f:=Y;go_wp2
      go_end0
      exact⟨rfl,t _ _ rfl i o n⟩
     ·have F:¬(0:Int)<f:=Y;go_wp2
      go_end0
      exact⟨rfl,t _ _ rfl i o n⟩
  ·obtain⟨D,a6⟩:∃D,f+x=D:=⟨_,rfl⟩;have ws:IntKind.i64.wrap ((f:Int)+(x:Int))=(D:Int):=by rw[bu];omega
   have a5:((D:Int) != 65535)=CD:=eS;clear a6;go_wp2_with fail;go_quiet (fail);go_wp2_with fail;apply(ro (L.drewN nq) 5 Y).m;rintro C u ⟨rfl,i,Q⟩;rw[FF Y]at i;have n:=(R.drewN nq).t Q;have g4:=i.c4;go_wp2;go_loopw [4] (λm wr=>m=I U 0/\wr=u) (λ_ _=>0)
   case atStart=>exact⟨rfl,rfl⟩
   case round=>
    obtain⟨rfl,rfl⟩:=hrel;by_cases cn:0<f
    ·have F:(0:Int)<f:=Y;go_wp2
     go_end0
     exact⟨rfl,t _ _ rfl i o n⟩
    ·have F:¬(0:Int)<f:=Y;go_wp2
     go_end0
     exact⟨rfl,t _ _ rfl i o n⟩
end
section
section
def iA.shorter{i:nK}{l k:Nat}{r a:List Bool}{c b:List Nat}(h:iA i l k r c (.ok (a,b))):G a<G r:=by have:=h (λr c g=>∀a b,g=.ok (a,b)->G a<G r) (λr c m _ a b h=>by cases h) (λr c a b d f e h=>by cases h;exact mp d) (λr c a b g d j f e h=>Nat.lt_trans (j f e h) (mp d));exact this a b rfl
def kK(e:Nat->Nat->List Bool->List Nat->Except Nat (List Bool×List Nat)->Prop)(d b:Nat)(r:List Bool)(c:List Nat)(a:Except Nat (List Bool×List Nat)):Prop:=
 (G r<3/\a=.error 5)\/(3<=G r/\ix ((r.drop 1).take 2)=0/\mu b (r.drop 3) c=a)\/(3<=G r/\ix ((r.drop 1).take 2)=1/\iA iM d b (r.drop 3) c a) \/
  (3<=G r/\ix ((r.drop 1).take 2)=2/\e d b (r.drop 3) c a)\/(3<=G r/\ix ((r.drop 1).take 2)=3/\a=.error 5)
def ry(b:Nat->Nat->List Bool->List Nat->Except Nat (List Bool×List Nat)->Prop):Prop:=∀(e most:Nat) (r a:List Bool) (c d:List Nat),b e most r c (.ok (a,d))->G a<G r
def mX(r:List Bool):Nat:=ix (r.take 1)
def Er{b:Nat}{r a:List Bool}{c d:List Nat}(h:mu b r c=.ok (a,d)):G a<=G r:=by
 unfold mu at h;split at h;·cases h
 split at h;·cases h
 split at h
 ·simp only[Except.ok.injEq,Prod.mk.injEq]at h;rw[<-h.1];simp only[aU];omega
 ·cases h
def kK.shorter{a:Nat->Nat->List Bool->List Nat->Except Nat (List Bool×List Nat)->Prop}(d:ry a){i e:Nat}{r c:List Bool}{f g:List Nat}(h:kK a i e r f (.ok (c,g))):G c<G r/\3<=G r:=by
 have j:(r.drop 3).length=G r-3:=aU;rcases h with⟨_,h⟩|⟨b,_,h⟩|⟨b,_,h⟩|⟨b,_,h⟩|⟨_,_,h⟩;·cases h
 ·have:=Er h;omega
 ·have:=h.shorter;omega
 ·have:=d _ _ _ _ _ _ h;omega
 ·cases h
def jS(f:Nat->Nat->List Bool->List Nat->Except Nat (List Bool×List Nat)->Prop)(h g:Nat)(r:List Bool)(a:List Nat)(e:Except Nat (List Bool×List Nat)):Prop:=
 ∀b:List Bool->List Nat->Except Nat (List Bool×List Nat)->Prop,
  (∀r a i,kK f h g r a (.error i)->b r a (.error i)) ->(∀r a d c,kK f h g r a (.ok (d,c))->mX r=1->b r a (.ok (d,c))) ->(∀r a d c e,kK f h g r a (.ok (d,c))->mX r=0->b d c e->b r a e)->b r a e
section
variable{d:Nat->Nat->List Bool->List Nat->Except Nat (List Bool×List Nat)->Prop}{a b:Nat}{r r':List Bool}{o f:List Nat}{c:Except Nat (List Bool×List Nat)}
def jS.err{e:Nat}(h:kK d a b r o (.error e)):jS d a b r o (.error e):=λ_ g _ _=>g _ _ _ h
def jS.stop(h:kK d a b r o (.ok (r',f)))(g:mX r=1):jS d a b r o (.ok (r',f)):=λ_ _ e _=>e _ _ _ _ h g
def jS.more(h:kK d a b r o (.ok (r',f)))(l:mX r=0)(k:jS d a b r' f c):jS d a b r o c:=λg i j e=>e _ _ _ _ _ h l (k g i j e)
def Ca(d:Nat->Nat->List Bool->List Nat->Except Nat (List Bool×List Nat)->Prop)(a b:Nat)(r:List Bool)(o:List Nat)(c:Except Nat (List Bool×List Nat)):Prop:=
 (∃e,kK d a b r o (.error e)/\c=.error e)\/(∃r' f,kK d a b r o (.ok (r',f))/\mX r=1/\c=.ok (r',f))\/(∃r' f,kK d a b r o (.ok (r',f))/\mX r=0/\jS d a b r' f c)
def jS.parted(h:jS d a b r o c):Ca d a b r o c:=
 (h (λr o c=>jS d a b r o c/\Ca d a b r o c)
  (λ_ _ j e=>⟨.err e,C1 ⟨j,e,rfl⟩⟩) (λ_ _ r' f e g=>⟨.stop e g,C2 (C1 ⟨r',f,e,g,rfl⟩)⟩) (λ_ _ r' f _ e g i=>⟨.more e g i.1,C2 (C2 ⟨r',f,e,g,i.1⟩)⟩)).2
end
def vV(r:List Bool):mX r=0\/mX r=1:=by
 have b:=pU (r.take 1);unfold mX;have:(r.take 1).length<=1:=by rw[ax];omega
 rcases cW (r.take 1).length 1 with h|h
 ·have a:(r.take 1).length=0:=Y;rw[a]at b;omega
 ·have a:(r.take 1).length=1:=Y;rw[a]at b;omega
def kM(a b:Nat):Prop:=a%16=8/\a/16<=7/\(256*a+b)%31=0/\b/32%2=0
def ru(b:Nat->Nat->List Bool->List Nat->Except Nat (List Bool×List Nat)->Prop)(c:Nat)(r:List Bool)(a:Except Nat (List Bool×List Nat)):Prop:=
 (¬(16<=G r/\kM (ix (r.take 8)) (ix ((r.drop 8).take 8)))/\a=.error 5)\/((16<=G r/\kM (ix (r.take 8)) (ix ((r.drop 8).take 8)))/\jS b (2^(ix (r.take 8)/16+8)) c (r.drop 16) [] a)
end
end
section
variable{a:Nat->Nat->List Bool->List Nat->Except Nat (List Bool×List Nat)->Prop}{B b:Nat}{S:ByteArray}{most:Nat}{w:vz}{p:Nat}{f:wg}{d:List Nat}{e:Nat}
def yY(a:Nat->Nat->List Bool->List Nat->Except Nat (List Bool×List Nat)->Prop):Prop:=∀(B b:Nat) (S:ByteArray) (most:Nat) (w:vz) (p:Nat) (f:wg) (d:List Nat),kH B b S most w p f d 0->p<=8*S.size->(∀g∈d,g<256)->∀(c:Nat),c<=32768->∀(j:Except Nat (List Bool×List Nat)),a c most (hH S p) d j ->wh DG 153 #[A3 (O ⟨b,0,N⟩),I U c] w λg k=>g=BX (BG #[])/\∃i l h e,kH B b S most k i l h e/\sF S j i h e/\Kept 5 B [b] w k
def wO(a:Nat->Nat->List Bool->List Nat->Except Nat (List Bool×List Nat)->Prop)(S:ByteArray)(j most:Nat)(h:Except Nat (List Bool×List Nat))(i g:Nat)(c:List Nat)(e:Nat):Prop:=
 (e=0/\i=0/\g<=8*S.size/\jS a j most (hH S g) c h/\(∀k∈c,k<256)/\j<=32768)\/(e=0/\i=1/\sF S h g c 0)\/(e≠0/\h=.error e)
def Hm{n g j:Nat}{k:Except Nat (List Bool×List Nat)}{i:List Nat}(h:wO a S n most k g j i e)(m:¬(g=0/\e=0)):sF S k j i e:=by
 rcases h with⟨c,l,_⟩|⟨rfl,_,h⟩|⟨c,rfl⟩;·exact absurd ⟨l,c⟩ m
 ·exact h
 ·exact⟨rfl,c⟩
def OI{i n r e1 s e2 j:Nat}{m:Except Nat (List Bool×List Nat)}(v:Cb S 8 0 0 i r e1)(o:Cb S 8 r e1 n s e2)(l:ru a most (hH S 0) m)(g:(kM i n/\j=e2)\/(¬kM i n/\j=qT 5 e2)):wO a S (2^(i/16+8)) most m 0 s [] j:=by
 have A:(hH S 0).length=8*S.size:=by rw[sq];omega
 have q:(hH S 0).length<16->m=.error 5:=λC=>by
  rcases l with⟨_,h⟩|⟨⟨h,_⟩,_⟩;·exact h
  ·omega
 rcases v with⟨h,_⟩|⟨_,y,rfl,rfl,rfl⟩|⟨_,y,rfl,rfl,rfl⟩;·exact absurd rfl h
 ·rcases o with⟨h,_⟩|⟨_,z,rfl,rfl,rfl⟩|⟨_,z,rfl,rfl,rfl⟩;·exact absurd rfl h
  ·have u:hH S (0+8)=(hH S 0).drop 8:=by rw[yo]
   have t:hH S (0+8+8)=(hH S 0).drop 16:=by rw[yo]
   rw[u]at g;rcases g with⟨c,rfl⟩|⟨c,rfl⟩
   ·rcases l with⟨h,_⟩|⟨_,h⟩;·exact absurd ⟨Y,c⟩ h
    ·refine C1 ⟨rfl,rfl,Y,by rw[t];exact h,cO,?_⟩;have x:=c.2.1;generalize ix ((hH S 0).take 8)/16=k at x;exact aJ (aY Y (show k+8<=15 by omega)) bF
   ·rcases l with⟨_,rfl⟩|⟨⟨_,h⟩,_⟩;·exact C2 (C2 ⟨by simp[qT],by simp[qT]⟩)
    ·exact absurd h c
  ·have:=q Y;subst this;rcases g with⟨c,rfl⟩|⟨c,rfl⟩<;>exact C2 (C2 ⟨by simp[qT],by simp[qT]⟩)
 ·have:=q Y;subst this;rcases o with⟨_,rfl,rfl,rfl⟩|⟨h,_⟩|⟨h,_⟩;·rcases g with⟨c,rfl⟩|⟨c,rfl⟩<;>exact C2 (C2 ⟨by simp[qT],by simp[qT]⟩)
  ·cases h
  ·cases h
def FL(a:Nat->Nat->List Bool->List Nat->Except Nat (List Bool×List Nat)->Prop)(S:ByteArray)(j most:Nat)(q:Except Nat (List Bool×List Nat))(i:List Nat)(o l h c e:Nat):Prop:=
 (e≠0/\q=.error e)\/(e=0/\c<=8*S.size/\o<c/\h<4/\(∀r∈i,r<256)/\j<=32768/\(l=0\/l=1) /\
  (∃g,(h=0->mu most (hH S c) i=g)/\(h=1->iA iM j most (hH S c) i g)/\(h=2->a j most (hH S c) i g)/\(h=3->g=.error 5) /\
   ∀m n k,sF S g m n k->wO a S j most q l m n k/\(k=0->o<m)))
def KW(n:ry a){s E K g F e1 J e2:Nat}{r:Except Nat (List Bool×List Nat)}{v:List Nat}(h:wO a S s most r 0 g v 0)(Q:Cb S 1 g 0 E F e1)(y:Cb S 2 F e1 K J e2):FL a S s most r v g E K J e2:=by
 rcases h with⟨_,_,hq,z,V,D⟩|⟨_,h,_⟩|⟨h,_⟩
 ·have aa:=sq S g;have C:(hH S g).length<3->r=.error 5:=λac=>by
   rcases z.parted with⟨e,c,rfl⟩|⟨x,k,c,_⟩|⟨x,k,c,_⟩
   ·rcases c with⟨_,h⟩|⟨i,_⟩|⟨i,_⟩|⟨i,_⟩|⟨i,_⟩;·exact h
    all_goals omega
   ·have:=(kK.shorter n c);omega
   ·have:=(kK.shorter n c);omega
  rcases Q with⟨h,_⟩|⟨_,l1,rfl,rfl,rfl⟩|⟨_,l1,rfl,rfl,rfl⟩;·exact absurd rfl h
  ·rcases y with⟨h,_⟩|⟨_,l2,rfl,rfl,rfl⟩|⟨_,l2,rfl,rfl,rfl⟩;·exact absurd rfl h
   ·have M:hH S (g+1)=(hH S g).drop 1:=by rw[yo]
    have L:hH S (g+1+2)=(hH S g).drop 3:=by rw[yo]
    have R:ix ((hH S (g+1)).take 2)<4:=by have:=pU ((hH S (g+1)).take 2);rw[ax,sq,dQ Y]at this;exact this
    refine C2 ⟨rfl,Y,Y,R,V,D,vV _,?_⟩;have X:∃q,kK a s most (hH S g) v q/\∀m k l,sF S q m k l->wO a S s most r (mX (hH S g)) m k l/\(l=0->g<m):=by
     rcases z.parted with⟨e,c,rfl⟩|⟨x,k,c,t,rfl⟩|⟨x,k,c,t,T⟩
     ·refine⟨_,c,λm k l j=>?_⟩;obtain⟨rfl,o⟩:=j;exact⟨C2 (C2 ⟨o,rfl⟩),λh=>absurd h o⟩
     ·refine⟨_,c,λm o1 l j=>?_⟩;have P:=j.1;subst P;refine⟨C2 (C1 ⟨rfl,t,j⟩),λ_=>?_⟩;obtain⟨_,_,rfl,A,_⟩:=j;have:=(kK.shorter n c).1;rw[sq,sq]at this;omega
     ·refine⟨_,c,λm o1 l j=>?_⟩;obtain⟨rfl,rfl,rfl,A,W⟩:=j;refine⟨C1 ⟨rfl,t,A,T,W,D⟩,λ_=>?_⟩;have:=(kK.shorter n c).1;rw[sq,sq]at this;omega
    obtain⟨q,c,o⟩:=X;refine⟨q,?_,?_,?_,?_,o⟩<;>intro hs<;>rw[M]at hs<;>(try rw[L])<;>rcases c with⟨i,h⟩|⟨i,u,h⟩|⟨i,u,h⟩|⟨i,u,h⟩|⟨i,u,h⟩<;>first|exact h|omega
   ·have:=C Y;exact C1 ⟨cO,this⟩
  ·have:=C Y;rcases y with⟨_,rfl,rfl,rfl⟩|⟨h,_⟩|⟨h,_⟩;·exact C1 ⟨cO,this⟩
   ·cases h
   ·cases h
 ·cases h
 ·exact absurd rfl h
def SN(hO:ry a)(hC:yY a)(h:kH B b S most w 0 f [] 0){ao:Except Nat (List Bool×List Nat)}(b1:ru a most (hH S 0) ao):wh DG 111 #[A3 (O ⟨b,0,N⟩)] w λn w'=>n=BX (BG #[])/\∃m u l e,kH B b S most w' m u l e/\sF S ao m l e/\Kept 5 B [b] w w':=by
 have bd:=H b1;have bc:=H hO;have bb:=H hC;clear hO hC
 go_in
 go_wp2_with fail;apply(xh h 8 Y).m;rintro n w1 ⟨g,q1,e1,rfl,r1,B1,b4,k1⟩;have b7:g<256:=by simpa using b4
 go_wp2_with fail;apply(xh r1 8 Y).m;rintro n w2 ⟨x,q2,e2,rfl,r2,B2,b5,k2⟩;have b8:x<256:=by simpa using b5
 have HH:wt (∀e3,((kM g x/\e3=e2)\/(¬kM g x/\e3=qT 5 e2))->wO a S (2^(g/16+8)) most ao 0 q2 [] e3):=λe3 h3=>OI B1 B2 bd h3;have K2:=H (k1.t k2)
 go_upto_region 3 with fail
 go_cut [35]from 15 (λa1 wx=>∃a0:Bool,a1=Bs a0/\wt (a0=CD↔¬kM g x)/\wx=w2)
 case first=>
  by_cases g1:g%16=8
  ·have bm:((g:Int)%16 != 8)=CS:=eS;by_cases g2:g/16<=7
   ·have br:¬(7:Int)<(g:Int)/16:=Y;by_cases g3:(256*g+x)%31=0
    ·have bs:((256*(g:Int)+x)%31 != 0)=CS:=eS;by_cases g4:x/32%2=0
     ·have bt:((x:Int)/32%2 != 0)=CS:=eS;go_wp2
      go_meet
      case rel=>exact⟨CS,rfl,⟨λh=>(by cases h),λh=>(absurd (show kM g x from⟨g1,g2,g3,g4⟩) h)⟩,rfl⟩
     ·have bt:((x:Int)/32%2 != 0)=CD:=eS;go_wp2
      go_meet
      case rel=>exact⟨CD,rfl,⟨λh=>((λac:kM g x=>g4 ac.2.2.2)),λh=>(rfl)⟩,rfl⟩
    ·have bs:((256*(g:Int)+x)%31 != 0)=CD:=eS;go_wp2
     go_meet
     case rel=>exact⟨CD,rfl,⟨λh=>((λac:kM g x=>g3 ac.2.2.1)),λh=>(rfl)⟩,rfl⟩
   ·have br:(7:Int)<(g:Int)/16:=Y;go_wp2
    go_meet
    case rel=>exact⟨CD,rfl,⟨λh=>((λac:kM g x=>g2 ac.2.1)),λh=>(rfl)⟩,rfl⟩
  ·have bm:((g:Int)%16 != 8)=CD:=eS;go_wp2
   go_meet
   case rel=>exact⟨CD,rfl,⟨λh=>((λac:kM g x=>g1 ac.1)),λh=>(rfl)⟩,rfl⟩
 case rest=>
  obtain⟨a0,rfl,HT,rfl⟩:=hcut;cases a0
  ·have hg:=Classical.byContradiction λh=>(by cases HT.2 h)
   obtain⟨C,hW⟩:∃C,wc=C:=⟨_,rfl⟩;have R3:=H (show kH B b S most C q2 f [] e2 by rw[<-hW];exact r2);have K3:=H (show Kept 5 B [b] w C by rw[<-hW];exact K2);have T:=H (HH e2 (C1 ⟨hg,rfl⟩));obtain⟨X,hE⟩:∃X,e2=X:=⟨_,rfl⟩;rw[hE]at R3 T
   (try rw[hW])
   have hk:g/16<16:=Y;have ek:(g:Int)/16=((g/16:Nat):Int):=Y;rw[ek];generalize g/16=k at *;go_wp2;go_loopw [5,6] (λvw vi wr=>∃i:Nat,i<=k+8/\vw=I U (2^i:Nat)/\vi=I U i/\wr=C) (λ_ vi _=>k+8-(intOf vi).toNat)
   case atStart=>exact⟨0,Y,rfl,rfl,rfl⟩
   case round=>
    obtain⟨i,hi,rfl,rfl,rfl⟩:=hrel;have hp:2^i<=2^23:=aY Y Y;have a2:(2:Nat)^23=8388608:=bF;rw[a2]at hp;by_cases a1:i<k+8
    ·have c':(i:Int)<(k:Int)+8:=Y;have HP:=H (c_ 2 i);generalize 2^i=al at *;go_wp2;go_roundw
     case rel=>exact⟨i+1,Y,by rw[HP.o];simp;omega,by go_num,trivial⟩
     case measure=>exact eT
    ·have c':¬(i:Int)<(k:Int)+8:=Y;obtain rfl:i=k+8:=Y;generalize 2^(k+8)=al at *;go_wp2;go_loopw [7,8] (λvl _ wr=>∃(y m:Nat) (u:wg) (l:List Nat) (e:Nat),vl=I U y/\y<=1/\kH B b S most wr m u l e/\wt (wO a S al most ao y m l e)/\Kept 5 B [b] w wr) (λ_ _ wr=>if errOf b wr=0 then 8*S.size+1-posOf b wr else 0)
     case atStart=>exact⟨0,q2,f,[],X,rfl,Y,R3,T,K3⟩
     case round=>
      obtain⟨y,m,u,l,e,rfl,hl,r,V,kk⟩:=hrel;have K:=H r.posOf;have J:=H r.errOf;have c4:=r.c4;by_cases cl:y=0
      ·subst cl;by_cases ce:e=0
       ·subst ce;have b0:m<=8*S.size:=by
         rcases V.o with⟨_,_,h,_⟩|⟨_,h,_⟩|⟨h,_⟩;·exact h
         ·cases h
         ·exact absurd rfl h
        go_wp2_with fail;apply(xh r 1 Y).m;rintro n w4 ⟨s,q4,e4,rfl,r4,B4,a9,k4⟩;have bw:s<2:=by simpa using a9
        go_wp2_with fail;apply(xh r4 2 Y).m;rintro n w5 ⟨R,q5,e5,rfl,v,B5,ba,k5⟩;have b3:R<4:=by simpa using ba
        have d4:=v.c4;have A:=H ((kk.t k4).t k5);have HM:=H (KW bc V B4 B5);have F:s<=1:=Y;rcases HM.o with⟨he,hR⟩|⟨rfl,ad,bz,b2,a3,hw,bx,rr,a5,a6,a7,a8,hn⟩
        ·have bv:((e5:Int) != 0)=CD:=eS;have m5:=H v.errOf;have HR:=H hR;go_wp2;go_roundw
         case rel=>exact⟨s,q5,u,l,e5,rfl,F,v,C2 (C2 ⟨he,HR⟩),A⟩
         case measure=>rw[J.o,K.o,m5.o,aj he,ak rfl];omega
        ·have W:=H hn;have H0:=H a5;have H1:=H a6;have H2:=H a7;have T:=H a8;have aa:=H a3;have a4:R=0\/R=1\/R=2\/R=3:=Y;rcases a4 with rfl|rfl|rfl|rfl
         ·go_wp2_with fail;apply(GL v ad aa (H0 cO)).m;rintro n w6 ⟨rfl,Q,M,L,E,c,D,q⟩;have j:=W.o _ _ _ D;have o:=H j.1;have z:=H j.2;have t:=H c.errOf;have P:=H c.posOf;go_wp2;go_roundw
          case rel=>exact⟨s,Q,M,L,E,rfl,F,c,o,A.t q⟩
          case measure=>
           rw[J.o,K.o,t.o,P.o,ak rfl];have:=z.o;split;·have:=this Y;omega
           ·omega
         ·go_wp2_with fail;apply(Ng v hw (C1 ⟨rfl,ad,H1 cO,aa⟩)).m;rintro n w6 ⟨rfl,Q,M,L,E,c,D,q⟩;have j:=W.o _ _ _ D;have o:=H j.1;have z:=H j.2;have t:=H c.errOf;have P:=H c.posOf;go_wp2;go_roundw
          case rel=>exact⟨s,Q,M,L,E,rfl,F,c,o,A.t q⟩
          case measure=>
           rw[J.o,K.o,t.o,P.o,ak rfl];have:=z.o;split;·have:=this Y;omega
           ·omega
         ·go_wp2_with fail;apply(bb _ _ _ _ _ _ _ _ v ad aa _ hw _ (H2 cO)).m;rintro n w6 ⟨rfl,Q,M,L,E,c,D,q⟩;have j:=W.o _ _ _ D;have o:=H j.1;have z:=H j.2;have t:=H c.errOf;have P:=H c.posOf;go_wp2;go_roundw
          case rel=>exact⟨s,Q,M,L,E,rfl,F,c,o,A.t q⟩
          case measure=>
           rw[J.o,K.o,t.o,P.o,ak rfl];have:=z.o;split;·have:=this Y;omega
           ·omega
         ·go_wp2_with fail;apply(ro v 5 Y).m;rintro n w6 ⟨rfl,c,q⟩;rw[rz]at c;have j:=W.o q5 l 5 (by rw[T.o cO];exact⟨rfl,Y⟩);have o:=H j.1;have t:=H c.errOf;go_wp2;go_roundw
          case rel=>exact⟨s,q5,u,l,5,rfl,F,c,o,A.t q⟩
          case measure=>rw[J.o,K.o,t.o,aj Y,ak rfl];omega
       ·have bf:((e:Int)==0)=CS:=eS;go_wp2
        go_end0
        exact⟨rfl,m,u,l,e,r,Hm V (λh=>ce h.2),kk⟩
      ·have bh:((y:Int)==0)=CS:=eS;go_wp2
       go_end0
       exact⟨rfl,m,u,l,e,r,Hm V (λh=>cl h.1),kk⟩
  ·have hg:=HT.o.1 rfl;go_wp2_with fail;apply(ro r2 5 Y).m;rintro n w3 ⟨rfl,r3,k3⟩;obtain⟨C,hW⟩:∃C,w3=C:=⟨_,rfl⟩;have R3:=H (show kH B b S most C q2 f [] (qT 5 e2)by rw[<-hW];exact r3);have K3:=H (show Kept 5 B [b] w C by rw[<-hW];exact(K2.t k3));have T:=H (HH (qT 5 e2) (C2 ⟨hg,rfl⟩));obtain⟨X,hE⟩:∃X,(qT 5 e2)=X:=⟨_,rfl⟩;rw[hE]at R3 T
   (try rw[hW])
   have hk:g/16<16:=Y;have ek:(g:Int)/16=((g/16:Nat):Int):=Y;rw[ek];generalize g/16=k at *;go_wp2;go_loopw [5,6] (λvw vi wr=>∃i:Nat,i<=k+8/\vw=I U (2^i:Nat)/\vi=I U i/\wr=C) (λ_ vi _=>k+8-(intOf vi).toNat)
   case atStart=>exact⟨0,Y,rfl,rfl,rfl⟩
   case round=>
    obtain⟨i,hi,rfl,rfl,rfl⟩:=hrel;have hp:2^i<=2^23:=aY Y Y;have a2:(2:Nat)^23=8388608:=bF;rw[a2]at hp;by_cases a1:i<k+8
    ·have c':(i:Int)<(k:Int)+8:=Y;have HP:=H (c_ 2 i);generalize 2^i=al at *;go_wp2;go_roundw
     case rel=>exact⟨i+1,Y,by rw[HP.o];simp;omega,by go_num,trivial⟩
     case measure=>exact eT
    ·have c':¬(i:Int)<(k:Int)+8:=Y;obtain rfl:i=k+8:=Y;generalize 2^(k+8)=al at *;go_wp2;go_loopw [7,8] (λvl _ wr=>∃(y m:Nat) (u:wg) (l:List Nat) (e:Nat),vl=I U y/\y<=1/\kH B b S most wr m u l e/\wt (wO a S al most ao y m l e)/\Kept 5 B [b] w wr) (λ_ _ wr=>if errOf b wr=0 then 8*S.size+1-posOf b wr else 0)
     case atStart=>exact⟨0,q2,f,[],X,rfl,Y,R3,T,K3⟩
     case round=>
      obtain⟨y,m,u,l,e,rfl,hl,r,V,kk⟩:=hrel;have K:=H r.posOf;have J:=H r.errOf;have c4:=r.c4;by_cases cl:y=0
      ·subst cl;by_cases ce:e=0
       ·subst ce;have b0:m<=8*S.size:=by
         rcases V.o with⟨_,_,h,_⟩|⟨_,h,_⟩|⟨h,_⟩;·exact h
         ·cases h
         ·exact absurd rfl h
        go_wp2_with fail;apply(xh r 1 Y).m;rintro n w4 ⟨s,q4,e4,rfl,r4,B4,a9,k4⟩;have bw:s<2:=by simpa using a9
        go_wp2_with fail;apply(xh r4 2 Y).m;rintro n w5 ⟨R,q5,e5,rfl,v,B5,ba,k5⟩;have b3:R<4:=by simpa using ba
        have d4:=v.c4;have A:=H ((kk.t k4).t k5);have HM:=H (KW bc V B4 B5);have F:s<=1:=Y;rcases HM.o with⟨he,hR⟩|⟨rfl,ad,bz,b2,a3,hw,bx,rr,a5,a6,a7,a8,hn⟩
        ·have bv:((e5:Int) != 0)=CD:=eS;have m5:=H v.errOf;have HR:=H hR;go_wp2;go_roundw
         case rel=>exact⟨s,q5,u,l,e5,rfl,F,v,C2 (C2 ⟨he,HR⟩),A⟩
         case measure=>rw[J.o,K.o,m5.o,aj he,ak rfl];omega
        ·have W:=H hn;have H0:=H a5;have H1:=H a6;have H2:=H a7;have T:=H a8;have aa:=H a3;have a4:R=0\/R=1\/R=2\/R=3:=Y;rcases a4 with rfl|rfl|rfl|rfl
         ·go_wp2_with fail;apply(GL v ad aa (H0 cO)).m;rintro n w6 ⟨rfl,Q,M,L,E,c,D,q⟩;have j:=W.o _ _ _ D;have o:=H j.1;have z:=H j.2;have t:=H c.errOf;have P:=H c.posOf;go_wp2;go_roundw
          case rel=>exact⟨s,Q,M,L,E,rfl,F,c,o,A.t q⟩
          case measure=>
           rw[J.o,K.o,t.o,P.o,ak rfl];have:=z.o;split;·have:=this Y;omega
           ·omega
         ·go_wp2_with fail;apply(Ng v hw (C1 ⟨rfl,ad,H1 cO,aa⟩)).m;rintro n w6 ⟨rfl,Q,M,L,E,c,D,q⟩;have j:=W.o _ _ _ D;have o:=H j.1;have z:=H j.2;have t:=H c.errOf;have P:=H c.posOf;go_wp2;go_roundw
          case rel=>exact⟨s,Q,M,L,E,rfl,F,c,o,A.t q⟩
          case measure=>
           rw[J.o,K.o,t.o,P.o,ak rfl];have:=z.o;split;·have:=this Y;omega
           ·omega
         ·go_wp2_with fail;apply(bb _ _ _ _ _ _ _ _ v ad aa _ hw _ (H2 cO)).m;rintro n w6 ⟨rfl,Q,M,L,E,c,D,q⟩;have j:=W.o _ _ _ D;have o:=H j.1;have z:=H j.2;have t:=H c.errOf;have P:=H c.posOf;go_wp2;go_roundw
          case rel=>exact⟨s,Q,M,L,E,rfl,F,c,o,A.t q⟩
          case measure=>
           rw[J.o,K.o,t.o,P.o,ak rfl];have:=z.o;split;·have:=this Y;omega
           ·omega
         ·go_wp2_with fail;apply(ro v 5 Y).m;rintro n w6 ⟨rfl,c,q⟩;rw[rz]at c;have j:=W.o q5 l 5 (by rw[T.o cO];exact⟨rfl,Y⟩);have o:=H j.1;have t:=H c.errOf;go_wp2;go_roundw
          case rel=>exact⟨s,q5,u,l,5,rfl,F,c,o,A.t q⟩
          case measure=>rw[J.o,K.o,t.o,aj Y,ak rfl];omega
       ·have bf:((e:Int)==0)=CS:=eS;go_wp2
        go_end0
        exact⟨rfl,m,u,l,e,r,Hm V (λh=>ce h.2),kk⟩
      ·have bh:((y:Int)==0)=CS:=eS;go_wp2
       go_end0
       exact⟨rfl,m,u,l,e,r,Hm V (λh=>cl h.1),kk⟩
end
def sM(r:List Bool):Nat->Nat
 |0=>0
 |a+1=>256*sM r a+ix ((r.drop (8*a)).take 8)
def qS(r:List Bool)(a:List Nat):Except Nat (List Nat):=
 if(r.drop (G r%8)).length=32/\iW (r.drop (G r%8)) 4=tG a then .ok a else .error 5
def vo(a:Nat->Nat->List Bool->List Nat->Except Nat (List Bool×List Nat)->Prop)(c:Nat)(r:List Bool)(f:Except Nat (List Nat)):Prop:=
 (∃b,ru a c r (.error b)/\f=.error b)\/(∃e d,ru a c r (.ok (e,d))/\f=qS e d)
def ul(r:List Bool)(b:List Nat):sM r 4=65536*(iI b).2+(iI b).1↔iW r 4=tG b:=by
 have i:=IK b;have a:∀k,ix ((r.drop k).take 8)<256:=λk=>by
  have a:=pU ((r.drop k).take 8);have d:((r.drop k).take 8).length<=8:=by rw[ax];omega
  have h:2^((r.drop k).take 8).length<=2^8:=aY Y d;omega
 have e:=a 8;have f:=a 16;have g:=a 24;have c:iW r 4=[ix ((r.drop 0).take 8),ix ((r.drop 8).take 8),ix ((r.drop 16).take 8),ix ((r.drop 24).take 8)]:=rfl;have e2:sM r 4=256*(256*(256*(256*0+ix ((r.drop 0).take 8))+ix ((r.drop 8).take 8))+ix ((r.drop 16).take 8))+ix ((r.drop 24).take 8):=rfl;rw[c,e2,tG];simp only[List.cons.injEq,and_true];omega
section
variable{B b:Nat}{S:ByteArray}{most:Nat}{w:vz}{p:Nat}{d:wg}{a:List Nat}{e:Nat}
def CQ(h:Except Nat (List Nat))(f:List Nat)(e:Nat):Prop:=match h with
 | .ok g=>e=0/\f=g/\∀i∈f,i<256
 | .error c=>e=c/\c≠0
def yz(S:ByteArray)(c e0 f h g e:Nat):Prop:=
 (e0≠0/\e=e0)\/(e0=0/\e=0/\g=c+8*f/\g<=8*S.size/\h=sM (hH S c) f)\/(e0=0/\e=5/\8*S.size<c+32)
def yz.step{q0 e0 g l q v k i:Nat}(h:yz S q0 e0 g l q e)(n:g<4)(f:Cb S 8 q e v k i):yz S q0 e0 (g+1) (256*l+v) k i:=by
 rcases h with⟨c,rfl⟩|⟨rfl,rfl,rfl,o,rfl⟩|⟨rfl,rfl,m⟩
 ·rcases f with⟨_,_,_,h⟩|⟨h,_⟩|⟨h,_⟩;·exact C1 ⟨c,h⟩
  ·exact absurd h c
  ·exact absurd h c
 ·rcases f with⟨h,_⟩|⟨_,j,rfl,rfl,rfl⟩|⟨_,j,rfl,rfl,rfl⟩;·exact absurd rfl h
  ·refine C2 (C1 ⟨rfl,rfl,Y,j,?_⟩);rw[sM,yo]
  ·exact C2 (C2 ⟨rfl,rfl,Y⟩)
 ·rcases f with⟨_,_,_,h⟩|⟨h,_⟩|⟨h,_⟩;·exact C2 (C2 ⟨rfl,h,m⟩)
  ·cases h
  ·cases h
def Nv{o:Except Nat (List Bool×List Nat)}{q:Except Nat (List Nat)}{l q0 e0 u t i e2:Nat}{c:List Nat}(r:sF S o l c e0)(y:q0=(l+7)/8*8)(z:(∃e,o=.error e/\q=.error e)\/(∃n m,o=.ok (n,m)/\q=qS n m))
  (h:yz S q0 e0 4 u t i) (f:e2=if u=65536*(iI c).2+(iI c).1/\t=8*S.size then i else qT 5 i):CQ q c e2:=by
 have s:∀k,k≠0->i=k->e2=k:=λk A h=>by
  rw[f];split;·exact h
  ·unfold qT;rw[aj Y];exact h
 rcases z with⟨F,rfl,rfl⟩|⟨n,m,rfl,rfl⟩
 ·obtain⟨rfl,j⟩:=r;rcases h with⟨_,h⟩|⟨h,_⟩|⟨h,_⟩;·exact⟨s _ j h,j⟩
  ·exact absurd h j
  ·exact absurd h j
 ·obtain⟨rfl,rfl,rfl,D,v⟩:=r;have e1:(hH S l).drop ((hH S l).length%8)=hH S q0:=by rw[yo,sq,y];congr 1;omega
  have x:=sq S q0;unfold qS;rw[e1,x];rcases h with⟨h,_⟩|⟨_,rfl,rfl,E,rfl⟩|⟨_,rfl,C⟩;·exact absurd rfl h
  ·by_cases g:sM (hH S q0) 4=65536*(iI c).2+(iI c).1/\q0+8*4=8*S.size
   ·rw[ak g]at f;rw[ak ⟨Y,(ul _ _).1 g.1⟩];exact⟨f,rfl,v⟩
   ·rw[aj g]at f;rw[aj (λh=>g ⟨(ul _ _).2 h.2,Y⟩)];exact⟨f,bF⟩
  ·rw[aj (λh=>Y)];exact⟨s 5 bF rfl,bF⟩
end
section
variable{f:Nat->Nat->List Bool->List Nat->Except Nat (List Bool×List Nat)->Prop}{B b:Nat}{S:ByteArray}{d:Nat}{w:vz}{p:Nat}{m:wg}{l:List Nat}{e:Nat}
def SG(hO:ry f)(hC:yY f)(h:kH B b S d w 0 m [] 0){aa:Except Nat (List Nat)}(b0:vo f d (hH S 0) aa):wh DG 77 #[A3 (O ⟨b,0,N⟩)] w λo w'=>o=BX (BG #[])/\∃J b3 a e,kH B b S d w' J b3 a e/\CQ aa a e/\Kept 5 B [b] w w':=by
 obtain⟨P,bw,HR⟩:∃P,ru f d (hH S 0) P/\wt ((∃e,P=.error e/\aa=.error e)\/(∃r' o',P=.ok (r',o')/\aa=qS r' o')):=by
  rcases b0 with⟨e,h,rfl⟩|⟨r',a,h,rfl⟩;·exact⟨_,h,C1 ⟨e,rfl,rfl⟩⟩
  ·exact⟨_,h,C2 ⟨r',a,rfl,rfl⟩⟩
 have HO:=H (SN hO hC h bw);clear hO hC
 go_in
 go_wp2_with fail;apply HO.o.m;rintro o w1 ⟨rfl,J,b7,a,e1,C,bs,k1⟩;have BR:=H bs;have c1:=C.c1;have f1:=C.fz 1;have ls:=C.ls;have lp:=C.lp;have lo:=C.lo;have lm:=C.lm;obtain⟨j,hK⟩:∃j,(J+7)/8=j:=⟨_,rfl⟩;have n:=C.set1 (8*j) Y;have v:=k1.setCell (p:=⟨b,1,N⟩) cO (I U ((8*j:Nat):Int));have eK:((8*j:Nat):Int)=((J:Int)+7)/8*8:=Y;rw[eK]at n v;have v:=H v;have HK:=H hK;have b4:8*j<=8*S.size+8:=Y;obtain⟨ao,oc,bz⟩:=ke n.own;subst bz;by_cases M:e1=0
 ·have bx:∀o∈a,o<256:=by
   have:=BR.o;unfold sF at this;subst M;cases P with
   |error b1=>exact absurd this.1.s this.2
   |ok o=>exact this.2.2.2.2
  have bm:=H bx;have b6:J<=8*S.size:=by
   have:=BR.o;unfold sF at this;subst M;cases P with
   |error b1=>exact absurd this.1.s this.2
   |ok o=>exact this.2.2.2.1
  have bv:8*j<=8*S.size:=by have:=HK.o;omega
  go_wp2;obtain⟨D,hW⟩:∃D,w1.setCell ⟨b,1,N⟩ (I U (((J:Int)+7)/8*8))=D:=⟨_,rfl⟩;rw[hW]at n v ⊢;have d2:=n.c2;go_loopw [2,3,4] (λal a0 E wr=>∃k:Nat,k<=G a/\E=I U k/\al=I U (iI (a.take k)).1/\a0=I U (iI (a.take k)).2/\wr=D) (λ_ _ E _=>G a-(intOf E).toNat)
  case atStart=>exact⟨0,aw _,rfl,rfl,rfl,rfl⟩
  case round=>
   obtain⟨k,hk,rfl,rfl,rfl,rfl⟩:=hrel;have hs:=IK (a.take k);by_cases Q:k<G a
   ·have a4:(k:Int)<G a:=Y;obtain⟨bt,b2,R,_⟩:=yJ n.own Y;simp only[Value.slice.injEq]at R;obtain⟨rfl,_,rfl⟩:=R;have T:=n.own.cellAt k Y;rw[aE,af Q]at T;simp only[bK]at T;have b5:=bm.o _ (cI Q);have bf:=H (Nn (a.take k) a[k]);have bh:wt (a.take (k+1)=a.take k++[a[k]]):=by rw[bN Q];exact rfl
    generalize hX:a[k]=br at *;generalize hA:(iI (a.take k)).1=X at *;generalize a3:(iI (a.take k)).2=BB at *;have HA:=H hA;have HB:=H a3;go_wp2;go_roundw
    case rel=>
     refine⟨k+1,Y,by go_num,?_,?_,trivial⟩
     ·rw[bh.o,bf.o];simp
     ·rw[bh.o,bf.o];simp
    case measure=>exact eT
   ·have a4:¬(k:Int)<G a:=Y;obtain rfl:k=G a:=Y;rw[dE]at hs ⊢;generalize hA:(iI a).1=X at *;generalize a3:(iI a).2=BB at *;have HA:=H hA;have HB:=H a3;go_wp2;go_loopw [5,6] (λvs K wr=>∃(c g i e:Nat),vs=I U g/\K=I U c/\c<=4/\g<256^c/\kH B b S d wr i (Z ao (G a) oc) a e/\wt (yz S (8*j) e1 c g i e)/\Kept 5 B [b] w wr) (λ_ K _=>4-(intOf K).toNat)
    case atStart=>exact⟨0,0,8*j,e1,rfl,rfl,Y,bF,n,C2 (C1 ⟨M,M,Y,bv,by simp[sM]⟩),v⟩
    case round=>
     obtain⟨c,g,i,e,rfl,rfl,hj,a7,r,u,V⟩:=hrel;have a5:256^c<=256^4:=aY Y hj;have a2:(256:Nat)^4=4294967296:=bF;rw[a2]at a5;by_cases cj:c<4
     ·have a1:(c:Int)<4:=Y;have HP:=H (c_ 256 c);have ac:=H a7;have a6:g<4294967296:=Y;go_wp2_with fail;apply(xh r 8 Y).m;rintro o w4 ⟨W,q4,e4,rfl,r4,B4,a8,k4⟩;have hv:W<256:=by simpa using a8
      have ad:=H (u.step cj B4);go_wp2;go_roundw
      case rel=>refine⟨c+1,256*g+W,q4,e4,by go_num,by go_num,Y,?_,r4,ad,V.t k4⟩;have:=ac.o;rw[HP.o];omega
      case measure=>exact eT
     ·have a1:¬(c:Int)<4:=Y;obtain rfl:c=4:=Y;have a6:g<4294967296:=Y;have d0:=r.c0;have d1:=r.c1;have L:=H (λe2 (he:e2=if g=65536*(iI a).2+(iI a).1/\i=8*S.size then e else qT 5 e)=>Nv BR (q0:=8*j) (by have:=HK.o;omega) HR u he);have A:=H r;have x:=H V;have bb:wt (e1≠0->e≠0):=λh=>by
       rcases u.o with⟨s,h2⟩|⟨s,_⟩|⟨s,_⟩;·omega
       ·exact absurd s h
       ·exact absurd s h
      rw[HA.o,HB.o]at L;by_cases t1:g=65536*BB+X
      ·have a9:((g:Int) != 65536*(BB:Int)+(X:Int))=CS:=eS;by_cases t2:i=8*S.size
       ·have ba:((i:Int) != 8*(S.size:Int))=CS:=eS;have q:=H (L e (by rw[ak ⟨t1,t2⟩]));go_wp2_with fail;go_quiet (fail);go_wp2
        go_end0
        exact⟨rfl,_,_,_,_,A.drewN nq,q,x.drewN nq⟩
       ·have ba:((i:Int) != 8*(S.size:Int))=CD:=eS;have q:=H (L (qT 5 e) (by rw[aj (λh=>t2 h.2)]));go_wp2_with fail;go_quiet (fail);go_wp2_with fail;apply(ro (A.drewN nq) 5 Y).m;rintro o w5 ⟨rfl,t,F⟩;go_wp2
        go_end0
        exact⟨rfl,_,_,_,_,t,q,(x.drewN nq).t F⟩
      ·have a9:((g:Int) != 65536*(BB:Int)+(X:Int))=CD:=eS;have q:=H (L (qT 5 e) (by rw[aj (λh=>t1 h.1)]));go_wp2_with fail;go_quiet (fail);go_wp2_with fail;apply(ro (A.drewN nq) 5 Y).m;rintro o w5 ⟨rfl,t,F⟩;go_wp2
       go_end0
       exact⟨rfl,_,_,_,_,t,q,(x.drewN nq).t F⟩
 ·go_wp2;obtain⟨D,hW⟩:∃D,w1.setCell ⟨b,1,N⟩ (I U (((J:Int)+7)/8*8))=D:=⟨_,rfl⟩;rw[hW]at n v ⊢;have d2:=n.c2;go_loopw [2,3,4] (λal a0 E wr=>∃(k:Nat) (y z:Int),k<=G a/\E=I U k/\al=I U y/\a0=I U z/\(-65521<y/\y<65521 /\ -65521<z/\z<65521)/\wr=D) (λ_ _ E _=>G a-(intOf E).toNat)
  case atStart=>exact⟨0,1,0,aw _,rfl,rfl,rfl,Y,rfl⟩
  case round=>
   obtain⟨k,y,z,hk,rfl,rfl,rfl,hb,rfl⟩:=hrel;by_cases Q:k<G a
   ·have a4:(k:Int)<G a:=Y;obtain⟨bt,b2,R,_⟩:=yJ n.own Y;simp only[Value.slice.injEq]at R;obtain⟨rfl,_,rfl⟩:=R;have T:=n.own.cellAt k Y;rw[aE,af Q]at T;simp only[bK]at T;generalize a[k]=br at *;go_wp2;go_roundw
    case rel=>refine⟨k+1,_,_,Y,by go_num,rfl,rfl,?_,trivial⟩;exact⟨Int.lt_tmod_of_pos _ bF,Int.tmod_lt_of_pos _ bF,Int.lt_tmod_of_pos _ bF,Int.tmod_lt_of_pos _ bF⟩
    case measure=>exact eT
   ·have a4:¬(k:Int)<G a:=Y;obtain rfl:k=G a:=Y;go_wp2;go_loopw [5,6] (λvs K wr=>∃(c g i e:Nat),vs=I U g/\K=I U c/\c<=4/\g<256^c/\kH B b S d wr i (Z ao (G a) oc) a e/\wt (yz S (8*j) e1 c g i e)/\Kept 5 B [b] w wr) (λ_ K _=>4-(intOf K).toNat)
    case atStart=>exact⟨0,0,8*j,e1,rfl,rfl,Y,bF,n,C1 ⟨M,rfl⟩,v⟩
    case round=>
     obtain⟨c,g,i,e,rfl,rfl,hj,a7,r,u,V⟩:=hrel;have a5:256^c<=256^4:=aY Y hj;have a2:(256:Nat)^4=4294967296:=bF;rw[a2]at a5;by_cases cj:c<4
     ·have a1:(c:Int)<4:=Y;have HP:=H (c_ 256 c);have ac:=H a7;have a6:g<4294967296:=Y;go_wp2_with fail;apply(xh r 8 Y).m;rintro o w4 ⟨W,q4,e4,rfl,r4,B4,a8,k4⟩;have hv:W<256:=by simpa using a8
      have ad:=H (u.step cj B4);go_wp2;go_roundw
      case rel=>refine⟨c+1,256*g+W,q4,e4,by go_num,by go_num,Y,?_,r4,ad,V.t k4⟩;have:=ac.o;rw[HP.o];omega
      case measure=>exact eT
     ·have a1:¬(c:Int)<4:=Y;obtain rfl:c=4:=Y;have a6:g<4294967296:=Y;have d0:=r.c0;have d1:=r.c1;have L:=H (λe2 (he:e2=if g=65536*(iI a).2+(iI a).1/\i=8*S.size then e else qT 5 e)=>Nv BR (q0:=8*j) (by have:=HK.o;omega) HR u he);have A:=H r;have x:=H V;have bb:wt (e1≠0->e≠0):=λh=>by
       rcases u.o with⟨s,h2⟩|⟨s,_⟩|⟨s,_⟩;·omega
       ·exact absurd s h
       ·exact absurd s h
      have bc:e≠0:=bb.o M;have q:=H (L e (by unfold qT;rw[aj bc,ite_self]));have bd:qT 5 e=e:=by simp[qT,bc]
      by_cases t1:(g:Int)=65536*z+y
      ·have a9:((g:Int) != 65536*z+y)=CS:=eS;by_cases t2:i=8*S.size
       ·have ba:((i:Int) != 8*(S.size:Int))=CS:=eS;go_wp2_with fail;go_quiet (fail);go_wp2
        go_end0
        exact⟨rfl,_,_,_,_,A.drewN nq,q,x.drewN nq⟩
       ·have ba:((i:Int) != 8*(S.size:Int))=CD:=eS;go_wp2_with fail;go_quiet (fail);go_wp2_with fail;apply(ro (A.drewN nq) 5 Y).m;rintro o w5 ⟨rfl,t,F⟩;rw[bd]at t;go_wp2
        go_end0
        exact⟨rfl,_,_,_,_,t,q,(x.drewN nq).t F⟩
      ·have a9:((g:Int) != 65536*z+y)=CD:=eS;go_wp2_with fail;go_quiet (fail);go_wp2_with fail;apply(ro (A.drewN nq) 5 Y).m;rintro o w5 ⟨rfl,t,F⟩;rw[bd]at t;go_wp2
       go_end0
       exact⟨rfl,_,_,_,_,t,q,(x.drewN nq).t F⟩
end
section
variable{B b:Nat}{S:ByteArray}{most:Nat}{w:vz}{p:Nat}{c:wg}{a:List Nat}{e:Nat}
def Oj(j:List Nat)(most h:Nat)(f:Except Nat (List Nat))(d k i:Nat)(l:List Nat)(e:Nat):Prop:=
 (e=0/\d<=h/\k<=4/\i<85^k/\∃g,aD j most g d k i l=f/\h-d<g)\/(e≠0/\f=.error e)
def GC{d k:Nat}(f:k<=4)(h:d<85^k):d<52200625:=by have:85^k<=85^4:=aY Y f;omega
def padTo:Nat->Nat->Nat
 |0,d=>d
 |f+1,d=>padTo f (85*d+84)
def Ee(d k:Nat)(f:2<=k)(g:k<=4):padTo (5-k) d=rJ d k:=by
 obtain rfl|rfl|rfl:k=2\/k=3\/k=4:=Y;·simp[padTo,rJ];omega
 ·simp[padTo,rJ];omega
 ·simp[padTo,rJ];omega
def Se{f d:Nat}(g:d<=5)(h:f<85^d):f<4437053125:=by have:85^d<=85^5:=aY Y g;omega
def Sm(h:kH B b S most w p c a 0)(hp:p<=S.size)(a1:Except Nat (List Nat))(a2:Nat)(hf:S.size-p<a2)(hR:aD (bl S) most a2 p 0 0 a=a1):wh DG 75 #[A3 (O ⟨b,0,N⟩)] w λg w'=>g=BX (BG #[])/\∃p' aa q e,kH B b S most w' p' aa q e/\yy a1 q e/\Kept 5 B [b] w w':=by
 have hl:=mC S
 go_in
 go_wp2;go_loopw [2,3] (λvn vk wr=>∃(F:Nat) (aa:wg) (q:List Nat) (e k n:Nat),vn=I U n/\vk=I U k/\kH B b S most wr F aa q e/\wt (Oj (bl S) most S.size a1 F k n q e)/\Kept 5 B [b] w wr) (λ_ _ wr=>if errOf b wr=0 then S.size+1-posOf b wr else 0)
 case atStart=>exact⟨p,c,a,0,0,0,rfl,rfl,h,C1 ⟨rfl,hp,Y,cO,a2,hR,hf⟩,Kept.refl _ _ _ _⟩
 case round=>
  obtain⟨F,aa,q,e,k,n,rfl,rfl,r,bb,y⟩:=hrel;have D:=H r.posOf;have C:=H r.errOf;have c4:=r.c4;rcases bb.o with⟨rfl,hq,hk,hv,f',u,b2⟩|⟨he,hR⟩
  ·obtain⟨ad,rfl⟩:∃ad,f'=ad+1:=⟨f'-1,Y⟩;have HV:=H hv;have b7:=GC hk hv;have z:=H (FJ r hq);have lo:=r.lo;have ls:=r.ls;simp only[aD]at u;by_cases V:(bl S).length<=iU (bl S) F
   ·rw[ak V]at u;rw[IOx V,IM V]at z;have o:=H u;go_wp2_with fail;apply z.o.m;rintro g K ⟨rfl,f,m⟩;go_wp2_with fail;go_quiet (fail);go_wp2_with fail;apply(ro (f.drewN nq) 5 Y).m;rintro g J ⟨rfl,d,i⟩;rw[rz]at d;have j:=H d.errOf;go_wp2;go_roundw
    case rel=>exact⟨_,_,_,5,_,n,rfl,rfl,d,C2 ⟨Y,o.s⟩,((y.t m).drewN nq).t i⟩
    case measure=>rw[D.o,C.o,j.o];simp;omega
   ·rw[aj V]at u;rw[Ka V,J9 V]at z;have hX:nth (bl S) (iU (bl S) F)<256:=lJ S _ Y;have a4:iU (bl S) F+1<=S.size:=Y;have b6:F<=iU (bl S) F:=Kc _ _;generalize nth (bl S) (iU (bl S) F)=t at *;generalize hK:iU (bl S) F=v at *;by_cases c2:t=122/\k=0
    ·rw[ak c2]at u;obtain⟨rfl,rfl⟩:=c2;have o:=H u;go_wp2_with fail;apply z.o.m;rintro g K ⟨rfl,f,m⟩;have s:=H (Jq f 0 4 Y Y);rw[show s8 0 0=0 from rfl,show(wJ 0).take 4=[0,0,0,0]from rfl]at s;have br:n=0:=by have:=HV.o;simp at this;omega
     subst br;by_cases E:G q+4<=most
     ·rw[FH most [0,0,0,0] q E]at s;have x:=H (o.s.t (ak E));go_wp2_with fail;apply s.o.m;rintro g J ⟨rfl,a0,d,i⟩;have j:=H d.errOf;have m3:=H d.posOf;go_wp2;go_roundw
      case rel=>exact⟨_,_,_,0,0,0,rfl,rfl,d,C1 ⟨rfl,a4,Y,cO,ad,x.s,Y⟩,(y.t m).t i⟩
      case measure=>rw[D.o,C.o,j.o,m3.o];simp;omega
     ·have al:=rf most [0,0,0,0] q lo eS;have x:=H (o.s.t (aj E));generalize mJ most [0,0,0,0] (q,0)=a5 at *;go_wp2_with fail;apply s.o.m;rintro g J ⟨rfl,a0,d,i⟩;rw[al]at d;have j:=H d.errOf;go_wp2;go_roundw
      case rel=>exact⟨_,_,_,6,0,0,rfl,rfl,d,C2 ⟨Y,x⟩,(y.t m).t i⟩
      case measure=>rw[D.o,C.o,j.o];simp;omega
    ·rw[aj c2]at u;by_cases c3:33<=t/\t<=117
     ·rw[ak c3]at u;have d1:((t:Int)==122)=CS:=eS;have d2:(33:Int)<=t:=Y;have d3:(t:Int)<=117:=Y;obtain⟨l,hN⟩:∃l,n*85+(t-33)=l:=⟨_,rfl⟩;have eN:(85:Int)*n+t-33=l:=Y;rw[hN]at u;have b0:l<=4500000000:=Y;by_cases c6:k=4
      ·rw[ak c6]at u;subst c6;have o:=H u;go_wp2_with fail;apply z.o.m;rintro g K ⟨rfl,f,m⟩;have s:=H (Jq f l 4 Y Y);by_cases L:4294967296<=l
       ·have x:=H (o.s.t (ak L));have Q:s8 l 0=5:=by unfold s8;rw[ak L,rz]
        rw[Q,J4 most _ Y]at s;go_wp2_with fail;apply s.o.m;rintro g J ⟨rfl,a0,d,i⟩;have j:=H d.errOf;go_wp2;go_roundw
        case rel=>exact⟨_,_,_,5,0,0,rfl,rfl,d,C2 ⟨Y,x⟩,(y.t m).t i⟩
        case measure=>rw[D.o,C.o,j.o];simp;omega
       ·have ac:=H (o.s.t (aj L));have Q:s8 l 0=0:=by unfold s8;rw[aj L]
        have a3:(wJ l).take 4=aO l:=by rw[LH Y];rfl
        have ao:(aO l).length=4:=rfl;rw[Q,a3]at s;by_cases E:G q+4<=most
        ·rw[FH most _ q (by rw[ao];exact E)]at s;have x:=H (ac.t (ak E));go_wp2_with fail;apply s.o.m;rintro g J ⟨rfl,a0,d,i⟩;have j:=H d.errOf;have m3:=H d.posOf;go_wp2;go_roundw
         case rel=>exact⟨_,_,_,0,0,0,rfl,rfl,d,C1 ⟨rfl,a4,Y,cO,ad,x.s,Y⟩,(y.t m).t i⟩
         case measure=>rw[D.o,C.o,j.o,m3.o];simp;omega
        ·have al:=rf most (aO l) q lo (by rw[ao];omega);have x:=H (ac.t (aj E));generalize mJ most (aO l) (q,0)=a5 at *;go_wp2_with fail;apply s.o.m;rintro g J ⟨rfl,a0,d,i⟩;rw[al]at d;have j:=H d.errOf;go_wp2;go_roundw
         case rel=>exact⟨_,_,_,6,0,0,rfl,rfl,d,C2 ⟨Y,x⟩,(y.t m).t i⟩
         case measure=>rw[D.o,C.o,j.o];simp;omega
      ·rw[aj c6]at u;have o:=H u;have bc:wt (l<85^(k+1)):=by have h1:=HV.o;unfold Hid;rw[c_];omega
       have d5:((k:Int)+1==5)=CS:=eS;go_wp2_with fail;apply z.o.m;rintro g K ⟨rfl,f,m⟩;have j:=H f.errOf;have m3:=H f.posOf;go_wp2;go_roundw
       case rel=>exact⟨_,_,_,0,k+1,l,by go_num,by go_num,f,C1 ⟨rfl,a4,Y,bc,ad,o,Y⟩,y.t m⟩
       case measure=>rw[D.o,C.o,j.o,m3.o];simp;omega
     ·rw[aj c3]at u;by_cases c8:t=126/\v+1<(bl S).length/\nth (bl S) (v+1)=62/\k≠1
      ·rw[ak c8]at u;obtain⟨rfl,b4,bh,b3⟩:=c8;have b5:((v:Int)+1)<S.size:=Y;have hx:=rT S (v+1) Y;rw[bh]at hx;have bw:((k:Int)==1)=CS:=eS;have o:=H u;go_wp2_with fail;apply z.o.m;rintro g K ⟨rfl,f,m⟩;have W:=f.c0;have X:=f.c1;have g2:=f.fz 1;have R1:=H f;have K1:=H (y.t m);go_wp2_with fail;go_quiet (fail);have R2:=H ((R1.drewN nq).set1 (v+2) Y);have K2:=H ((K1.drewN nq).setCell (p:=⟨b,1,N⟩) cO (I U ((v+2:Nat):Int)));have eK:((v+2:Nat):Int)=(v:Int)+1+1:=Y;rw[eK]at R2 K2;go_wp2;go_loopw [2,5] (λvn vi a7=>∃A M:Nat,vn=I U M/\vi=I U A/\A<=5/\wt (M<85^A)/\wt (padTo (5-A) M=padTo (5-k) n)/\kH B b S most a7 (v+2) aa q 0/\Kept 5 B [b] w a7) (λ_ vi _=>5-(intOf vi).toNat)
       case atStart=>exact⟨k,n,rfl,rfl,Y,HV,rfl,R2,K2⟩
       case round=>
        obtain⟨A,M,rfl,rfl,bm,HN,HP,d,i⟩:=hrel;have hn:=Se bm HN;by_cases ci:A<5
        ·have bt:(A:Int)<5:=Y;have a8:wt (85*M+84<85^(A+1)):=by have h1:=HN.o;unfold Hid;rw[c_];omega
         have a9:wt (padTo (5-(A+1)) (85*M+84)=padTo (5-k) n):=by have h1:=HP.o;rw[show 5-A=(5-(A+1))+1 by omega]at h1;exact h1
         go_wp2;go_roundw
         case rel=>exact⟨A+1,85*M+84,by go_num,by go_num,Y,a8,a9,d,i⟩
         case measure=>exact eT
        ·obtain rfl:A=5:=Y;obtain rfl:M=padTo (5-k) n:=HP.o;by_cases ck:k=0
         ·rw[ak ck]at o;subst ck;go_wp2_with fail;apply(Em d Y).m;rintro g w3 ⟨rfl,P,R⟩;go_wp2;refine aK (v:=BG #[]) qw rfl ?_;exact⟨rfl,_,_,_,_,P,by rw[<-o.o];exact Iz _ _ _,i.t R⟩
         ·rw[aj ck,<-Ee n k Y hk]at o;have bv:(0:Int)<k:=Y;have ek:(k:Int)-1=((k-1:Nat):Int):=Y;have s:=H (Jq d (padTo (5-k) n) (k-1) Y Y);generalize padTo (5-k) n=l at *;by_cases L:4294967296<=l
          ·have x:=H (o.s.t (ak L));have Q:s8 l 0=5:=by unfold s8;rw[ak L,rz]
           rw[Q,J4 most _ Y]at s;go_wp2_with fail;apply s.o.m;rintro g w3 ⟨rfl,a6,P,R⟩;go_wp2_with fail;apply(Em P Y).m;rintro g w4 ⟨rfl,T,k4⟩;rw[JU Y]at T;go_wp2;refine aK (v:=BG #[]) qw rfl ?_;exact⟨rfl,_,_,_,_,T,by rw[x.o];exact⟨rfl,Y⟩,(i.t R).t k4⟩
          ·have ac:=H (o.s.t (aj L));have Q:s8 l 0=0:=by unfold s8;rw[aj L]
           have a3:wJ l=aO l:=LH Y;have ao:((aO l).take (k-1)).length=k-1:=by rw[ax];show min (k-1) 4=_;omega
           rw[Q,a3]at s;by_cases E:G q+(k-1)<=most
           ·rw[FH most _ q (by rw[ao];exact E)]at s;have x:=H (ac.t (ak E));go_wp2_with fail;apply s.o.m;rintro g w3 ⟨rfl,a6,P,R⟩;go_wp2_with fail;apply(Em P Y).m;rintro g w4 ⟨rfl,T,k4⟩;go_wp2;refine aK (v:=BG #[]) qw rfl ?_;exact⟨rfl,_,_,_,_,T,by rw[x.o];exact Iz _ _ _,(i.t R).t k4⟩
           ·have al:=rf most ((aO l).take (k-1)) q lo (by rw[ao];omega);have x:=H (ac.t (aj E));generalize mJ most ((aO l).take (k-1)) (q,0)=a5 at *;go_wp2_with fail;apply s.o.m;rintro g w3 ⟨rfl,a6,P,R⟩;rw[al]at P;go_wp2_with fail;apply(Em P Y).m;rintro g w4 ⟨rfl,T,k4⟩;rw[JU Y]at T;go_wp2;refine aK (v:=BG #[]) qw rfl ?_;exact⟨rfl,_,_,_,_,T,by rw[x.o];exact⟨rfl,Y⟩,(i.t R).t k4⟩
      ·rw[aj c8]at u;have o:=H u;by_cases e1:t=126
       ·subst e1;by_cases e2:v+1<(bl S).length
        ·have bd:((v:Int)+1)<S.size:=Y;have hx:=rT S (v+1) Y;by_cases e3:nth (bl S) (v+1)=62
         ·rw[e3]at hx;have e4:k=1:=by
           rcases Nat.decEq k 1 with h|h;·exact absurd ⟨rfl,e2,e3,h⟩ c8
           ·exact h
          subst e4;go_wp2_with fail;apply z.o.m;rintro g K ⟨rfl,f,m⟩;have W:=f.c0;have X:=f.c1;go_wp2_with fail;go_quiet (fail);go_wp2_with fail;apply(ro (f.drewN nq) 5 Y).m;rintro g J ⟨rfl,d,i⟩;rw[rz]at d;have j:=H d.errOf;go_wp2;go_roundw
          case rel=>exact⟨_,_,_,5,_,n,rfl,rfl,d,C2 ⟨Y,o.s⟩,((y.t m).drewN nq).t i⟩
          case measure=>rw[D.o,C.o,j.o];simp;omega
         ·have hy:nth (bl S) (v+1)<256:=lJ S _ Y;have bz:((nth (bl S) (v+1):Int)==62)=CS:=eS;generalize nth (bl S) (v+1)=bs at *;go_wp2_with fail;apply z.o.m;rintro g K ⟨rfl,f,m⟩;have W:=f.c0;have X:=f.c1;go_wp2_with fail;go_quiet (fail);go_wp2_with fail;apply(ro (f.drewN nq) 5 Y).m;rintro g J ⟨rfl,d,i⟩;rw[rz]at d;have j:=H d.errOf;go_wp2;go_roundw
          case rel=>exact⟨_,_,_,5,_,n,rfl,rfl,d,C2 ⟨Y,o.s⟩,((y.t m).drewN nq).t i⟩
          case measure=>rw[D.o,C.o,j.o];simp;omega
        ·have bd:decide (((v:Int)+1)<S.size)=CS:=eS;go_wp2_with fail;apply z.o.m;rintro g K ⟨rfl,f,m⟩;have W:=f.c0;have X:=f.c1;go_wp2_with fail;go_quiet (fail);go_wp2_with fail;apply(ro (f.drewN nq) 5 Y).m;rintro g J ⟨rfl,d,i⟩;rw[rz]at d;have j:=H d.errOf;go_wp2;go_roundw
         case rel=>exact⟨_,_,_,5,_,n,rfl,rfl,d,C2 ⟨Y,o.s⟩,((y.t m).drewN nq).t i⟩
         case measure=>rw[D.o,C.o,j.o];simp;omega
       ·have bx:((t:Int)==126)=CS:=eS;rcases cW t 33 with bf|bf
        ·have d2:¬(33:Int)<=t:=Y;have d1:((t:Int)==122)=CS:=eS;go_wp2_with fail;apply z.o.m;rintro g K ⟨rfl,f,m⟩;have W:=f.c0;have X:=f.c1;go_wp2_with fail;go_quiet (fail);go_wp2_with fail;apply(ro (f.drewN nq) 5 Y).m;rintro g J ⟨rfl,d,i⟩;rw[rz]at d;have j:=H d.errOf;go_wp2;go_roundw
         case rel=>exact⟨_,_,_,5,_,n,rfl,rfl,d,C2 ⟨Y,o.s⟩,((y.t m).drewN nq).t i⟩
         case measure=>rw[D.o,C.o,j.o];simp;omega
        ·have d2:(33:Int)<=t:=Y;have d3:¬(t:Int)<=117:=Y;by_cases e5:t=122
         ·have d0:((k:Int)==0)=CS:=eS;subst e5;go_wp2_with fail;apply z.o.m;rintro g K ⟨rfl,f,m⟩;have W:=f.c0;have X:=f.c1;go_wp2_with fail;go_quiet (fail);go_wp2_with fail;apply(ro (f.drewN nq) 5 Y).m;rintro g J ⟨rfl,d,i⟩;rw[rz]at d;have j:=H d.errOf;go_wp2;go_roundw
          case rel=>exact⟨_,_,_,5,_,n,rfl,rfl,d,C2 ⟨Y,o.s⟩,((y.t m).drewN nq).t i⟩
          case measure=>rw[D.o,C.o,j.o];simp;omega
         ·have d1:((t:Int)==122)=CS:=eS;go_wp2_with fail;apply z.o.m;rintro g K ⟨rfl,f,m⟩;have W:=f.c0;have X:=f.c1;go_wp2_with fail;go_quiet (fail);go_wp2_with fail;apply(ro (f.drewN nq) 5 Y).m;rintro g J ⟨rfl,d,i⟩;rw[rz]at d;have j:=H d.errOf;go_wp2;go_roundw
          case rel=>exact⟨_,_,_,5,_,n,rfl,rfl,d,C2 ⟨Y,o.s⟩,((y.t m).drewN nq).t i⟩
          case measure=>rw[D.o,C.o,j.o];simp;omega
  ·have b1:((e:Int)==0)=CS:=eS;have ba:=H hR;go_wp2
   go_end0
   exact⟨rfl,F,aa,q,e,r,by rw[ba.o];exact⟨rfl,he⟩,y⟩
def yf(h:Nat->Nat->List Bool->List Nat->Except Nat (List Bool×List Nat)->Prop)(f most:Nat)(d:List Nat)(g:Except Nat (List Nat)):Prop:=
 (f=1/\Cr d most (G d+1) 0 []=g)\/(f=2/\aD d most (G d+1) 0 0 0 []=g)\/(f=3/\rD d most (G d+1) 0 []=g)\/(f=4/\vo h most (gH d) g)
def GJ:Except Nat (List Nat)->wg
 | .ok d=>BG #[y7 (gj d),I U 0]
 | .error f=>BG #[y7 {data:=#[]},I U (f:Nat)]
def kH.start(f:S.size<=10000000)(d:most<=1000000):kH w.heap.size w.heap.size S most (w.alloc (BV #[y7 S,I U 0,Z N 0 0,I U most,I U 0] 106 (0,0))) 0 (Z N 0 0) [] 0:=
 ⟨ag _,bn _ _,bI _ _ _ _,d,f,Y,aw _,Y⟩
def SC(S:ByteArray):hH S 0=gH (bl S):=by rw[hH,fX]
def II(d l:Nat)(y:1<=d/\d<=4)(D:S.size<=10000000)(z:most<=1000000){j:Except Nat (List Nat)}
  (hF:l=(if d=1 then 74 else if d=2 then 75 else if d=3 then 76 else 77))
  (o:wh DG l #[A3 (O ⟨w.heap.size,0,N⟩)] (w.alloc (BV #[y7 S,I U 0,Z N 0 0,I U most,I U 0] 106 (0,0))) λh g=>h=BX (BG #[])/\∃s q i e,kH w.heap.size w.heap.size S most g s q i e/\yy j i e/\Kept 5 w.heap.size [w.heap.size] (w.alloc (BV #[y7 S,I U 0,Z N 0 0,I U most,I U 0] 106 (0,0))) g):wh DG 37 #[I U d,y7 S,I U most] w λh g=>h=BX (GJ j)/\wm w.heap.size w g:=by
 have t:d=1\/d=2\/d=3\/d=4:=Y;rcases t with rfl|rfl|rfl|rfl;all_goals
  simp only[if_true,if_false,Nat.reduceEqDiff]at hF;subst hF;have m:=H o;clear o
  go_in
  go_wp2_with fail;apply m.o.m;rintro h J ⟨rfl,s,q,i,e,r,n,k⟩;have f:=H (QZ k);have u:=r.c2;have v:=r.c4;clear m k;cases j with
  |ok E=>
   obtain⟨rfl,rfl⟩:=n;have x:=AU r.own;go_wp2
   go_ret2
   exact⟨rfl,f⟩
  |error F=>
   obtain⟨rfl,A⟩:=n;have C:((e:Int) != 0)=CD:=eS;go_wp2_with fail;go_quiet (fail);go_wp2
   go_ret2
   exact⟨rfl,⟨f.o.os,f.tape,f.o.output,f.size,f.block⟩⟩
def ur{d:Except Nat (List Nat)}{f:List Nat}{e:Nat}(h:CQ d f e):yy d f e:=by
 cases d with
 |ok g=>exact⟨h.1,h.2.1⟩
 |error i=>exact h
def Sl{OW:Nat->Nat->List Bool->List Nat->Except Nat (List Bool×List Nat)->Prop}(n:ry OW)(m:yY OW)(i:Nat)(f:S.size<=10000000)(d:most<=1000000){res:Except Nat (List Nat)}(o:yf OW i most (bl S) res):wh DG 37 #[I U i,y7 S,I U most] w λl j=>l=BX (GJ res)/\wm w.heap.size w j:=by
 have v:=mC S;have g:=kH.start (S:=S) (most:=most) (w:=w) f d;rcases o with⟨rfl,h⟩|⟨rfl,h⟩|⟨rfl,h⟩|⟨rfl,h⟩;·exact II 1 74 Y f d rfl (SH g Y res _ Y h)
 ·exact II 2 75 Y f d rfl (Sm g Y res _ Y h)
 ·exact II 3 76 Y f d rfl (SP g Y res _ Y h)
 ·refine II 4 77 Y f d rfl ((SG n m g (by rw[SC];exact h)).m ?_);rintro l j ⟨rfl,u,t,s,e,r,q,k⟩;exact⟨rfl,u,t,s,e,r,ur q,k⟩
end
section
variable{B s q o k j:Nat}{d:List Nat}{g:Nat}{c:List wg}{w:vz}{p f left a:Nat}{t:wg}{m:List Nat}
def Mu:∀e:List Bool,gg (G e) (ix e)=e
 | []=>rfl
 |b::e=>by
  simp only[ai,ix,gg];have e1:(b.toNat+2*ix e)%2=b.toNat:=by cases b<;>simp<;>omega
  have e2:(b.toNat+2*ix e)/2=ix e:=by cases b<;>simp<;>omega
  rw[e1,e2,Mu e];cases b<;>rfl
def Rn(b:Nat)(r:List Bool)(h:b<=G r):gg b (ix (r.take b))=r.take b:=by
 have:=Mu (r.take b)
 rwa [ax,dQ h]at this
def OA(r:List Bool)(b:Nat):iW r (b+1)=iW r b++[ix ((r.drop (8*b)).take 8)]:=by simp[iW,List.range_succ]
def Oz(r:List Bool)(b:Nat):(iW r b).length=b:=by simp[iW]
def N8(r:List Bool):ix (r.take 8)<256:=by
 have h:=pU (r.take 8);have b:(r.take 8).length<=8:=by rw[ax];omega
 have e:2^(r.take 8).length<=2^8:=aY Y b;omega
def I8(r:List Bool)(h:Nat):∀e∈iW r h,e<256:=by intro e b;simp only[iW,cE]at b;obtain⟨i,_,rfl⟩:=b;exact N8 _
def bits8_num(b:Nat)(h:b<256):jz b=gg 8 b:=by
 have:∀b:Fin 256,jz b.val=gg 8 b.val:=by decide +kernel
 exact this ⟨b,h⟩
def F1(r:List Bool):∀b,8*b<=G r->gH (iW r b)=r.take (8*b)
 |0,_=>by simp[iW,gH]
 |b+1,h=>by
  have i:=F1 r b Y;rw[OA];have e:gH (iW r b++[ix ((r.drop (8*b)).take 8)])=gH (iW r b)++jz (ix ((r.drop (8*b)).take 8)):=by simp[gH]
  rw[e,i,bits8_num _ (N8 _),Rn 8 _ mO];rw[show 8*(b+1)=8*b+8 by omega,List.take_add]
def MD{b:List Nat}(h:∀l∈b,l<256)(e:Nat)(i:e<G b):nth b e<256:=by
 have:nth b e=b[e]:=by simp[nth,af i]
 rw[this];exact h _ (cI i)
end
def OG(a b:List Nat):gH (a++b)=gH a++gH b:=by simp[gH]
def KR(a:List Nat)(f:∀e∈a,e<256)(b:Nat)(h:b<=G a):iW (gH a) b=a.take b:=by
 have e1:gH (iW (gH a) b)=(gH a).take (8*b):=F1 _ b pg;have e2:(gH a).take (8*b)=gH (a.take b):=by
  conv=>lhs;rw[<-cQ b a,OG]
  exact List.take_left' (by rw[gW,ax];omega)
 refine KY _ _ (by rw[Oz,ax];omega) (λd c=>MD (I8 _ _) d c) (λd c=>MD (λe g=>f e (cN g)) d c) (e1.t e2)
section
variable{w:vz}
def uI(a:List Nat):List wg:=a.map λb:Nat=>I .u8 (b:Int)
def OB(a:ByteArray):byteCells a=uI (bl a):=by simp[byteCells,uI,bl]
def rm{c:vz}{d b a:Nat}(h:c.ownsRow d 5 1 (Z (O ⟨b,0,N⟩) a a) a (madeCells (Value.cells (I .u8 0)) (a*1)).toList):c.heap[b]?=O (BV (uI (DJ a 0)).toArray 5 (0,0)):=by
 rcases h.2 with⟨g,_⟩|⟨m,cap,e,l,_,j,_,_,i,k⟩;·cases g
 cases l;have f:e.toList=(madeCells (Value.cells (I .u8 0)) (a*1)).toList:=by rw[<-k,aP (by rw[dH,i];omega)]
 have e2:(madeCells (Value.cells (I .u8 0)) (a*1)).toList=uI (DJ a 0):=by
  show(madeCells #[I .u8 0] (a*1)).toList=_;rw[Nat.mul_one];apply List.ext_getElem;·simp[madeCells,uI]
  ·intro p n o;simp[madeCells,uI,Nat.mod_one]
 rw[j];congr 2;rw[<-e2,<-f]
def rh(a:ByteArray)(hS:a.size<=200000):wh DG 36 #[I U 1,y7 a] w λe P=>e=BX (y7 (gj (iL (bl a)++[62])))/\Kept 5 w.heap.size [] w P:=by
 obtain⟨B,r,y,z,A⟩:=bR infoByte;have g:=H (mC a);obtain⟨c,h⟩:∃c,w.heap.size=c:=⟨_,rfl⟩;rw[h];have F:=H h;clear h
 go_in
 go_wp2;go_loopw [5,6] (λM j wr=>∃k:Nat,k<=a.size/\j=I U k/\wr.ownsRow c 5 1 M (iL ((bl a).take k)).length ((iL ((bl a).take k)).map λe:Nat=>I .u8 (e:Int))/\Kept 5 c [] w wr) (λ_ j _=>a.size-(intOf j).toNat)
 case atStart=>exact⟨0,aw _,rfl,bI _ _ _ _,Kept.refl _ _ _ _⟩
 case round=>
  obtain⟨k,hk,rfl,d,l⟩:=hrel;have ac:=l.size;have v:wt (c<=wr.heap.size):=by have:=F.o;unfold Hid;omega
  have f:wt ((iL ((bl a).take k)).length=2*k):=by unfold Hid;rw[mn,ax,g.o];omega
  by_cases i:k<a.size
  ·have K:(k:Int)<a.size:=Y;have hx:=rT a k i;have n:=lJ a k i;have e1:wt (iL ((bl a).take (k+1))=iL ((bl a).take k)++[gR (nth (bl a) k/16),gR (nth (bl a) k%16)]):=by
    have m:k<(bl a).length:=by rw[g.o];exact i
    unfold Hid;rw[bN m,rj];simp[iL,nth,m]
   generalize nth (bl a) k=b at *;have R:0<=(b:Int)/16:=Y;have S:(b:Int)/16<16:=Y;have T:(b:Int)%16<16:=Y;have V:0<=(b:Int)%16:=Y;have D:wt (((b:Int)/16).toNat=b/16):=by unfold Hid;omega
   have E:wt (((b:Int)%16).toNat=b%16):=by unfold Hid;omega
   have X:IntKind.u8.wrap ((b:Int)/16)=(b:Int)/16:=by rw[cA];omega
   have W:(b:Int).tmod 16=(b:Int)%16:=cM Y;go_wp2_with fail;go_region_law (refine Cy rfl (.tmp 19) (.tmp 30) 23 rfl c 5 B (I .u8 0) 1 1 az r y z A rfl bF _ _ _ rfl (ed (d.alloc _)) ⟨wr.heap.size,0,N⟩ 2 2 ([gR (b/16),gR (b%16)].map λe:Nat=>I .u8 (e:Int)) rfl cO ?hnews ?hone ?h63 ?hby ?hb ?_;(case hnews=>refine Jz ?_ ?_<;>simp only[D.o,E.o]<;>exact cX _ (Gf _ Y _));(case hone=>intro ad x;simp at x;rcases x with rfl|rfl<;>rfl);(case h63=>have:=f.o;unfold maxLen;omega);(case hby=>have:=f.o;omega);(case hb=>have:=v.o;simp;omega);intro C w1 s p _);all_goals (have J:=((l.alloc _).drew).grown p (oQ (ed (d.alloc _))))
   all_goals (clear d p)
   all_goals (rw[<-aI,<-e1.o,show(iL ((bl a).take k)).length+2=(iL ((bl a).take (k+1))).length by rw[e1.o];simp]at s)
   all_goals go_wp2
   all_goals go_roundw
   all_goals first|exact⟨k+1,Y,by go_num,s,J⟩|(simp[intOf];omega)
  ·obtain rfl:k=a.size:=Y;rw[<-g.o,dE]at d f;rw[g.o]at f;have K:¬(a.size:Int)<a.size:=Y;go_wp2_with (at_builtin;refine aX _ rfl (.tmp 32) (.tmp 33) 23 rfl c 5 B (I .u8 0) 1 1 az r y z A rfl bF _ _ _ rfl (d.alloc _) ⟨wr.heap.size,0,N⟩ 1 1 [I .u8 62] rfl rfl ?c1 ?c2 ?c3 ?c4 ?c5 ?_)
   case c2=>rfl
   case c3=>have:=f.o;unfold maxLen;omega
   case c4=>have:=f.o;omega
   case c5=>have:=v.o;simp;omega
   intro C Q t q _;have L:=(l.alloc _).grown q (oQ (d.alloc _));have u:Q.ownsRow c 5 1 C (iL (bl a)++[62]).length ((iL (bl a)++[62]).map λe:Nat=>I .u8 (e:Int)):=by rw[aI,ab];exact t
   have aa:=AU u;clear q d t u;go_wp2;go_ret;exact⟨rfl,L⟩
end
