import Derived.Test.YtgkljcmjnphpeaaGreatDoorK06
set_option linter.defProp false
set_option linter.unusedVariables false
set_option linter.unusedSimpArgs false
set_option maxHeartbeats 2000000
set_option maxRecDepth 100000
open List renaming length->G
open Go renaming Value->GI,World->Gr,Calls->K8,Addr->L2
open Go.Value renaming int->I,pointer->M2,agg->N1,tuple->OW,slice->Z
open Go.RowKit renaming Hid->L1,Below->LT
open Option renaming none->N,some->O
open Bool renaming false->P2,true->PV
open Or renaming inl->P3,inr->P4
open Go.Obj renaming cells->Pp
open Go.Ending renaming returned->Ps
open Go.Proofs.Tryz renaming prog->Qe
open List renaming replicate->Qf
open Go.IntKind renaming i64->U
open Go.Proofs.Tryz
namespace Go.Proofs.YtgkljcmjnphpeaaGreatDoor
open Go.RowKit
def jF(a:Nat->Nat)(d:List Nat):Nat->Nat->Nat->Nat->List Bool->Option (Nat×List Bool)
 |0,_,_,_,_=>N
 |_+1,_,_,_,[]=>N
 |e+1,len,c,place,b::r=>if 2*c+b.toNat<a len then O (d.getD (place+(2*c+b.toNat)) 0,r)else jF a d e (len+1) (2*c+b.toNat-a len) (place+a len) r
def xi(a d:List Nat):∀(k len code first place:Nat) (r:List Bool),first<=code->jB a d k len code first place r=jF (λe=>a.getD e 0) d k len (code-first) place r
 |0,_,_,_,_,_,_=>by simp[jB,jF]
 |k+1,len,code,first,place,[],_=>by simp[jB,jF]
 |k+1,len,code,first,place,b::r,h=>by
  simp only[jB,jF];have f:2*(code-first)+b.toNat=2*code+b.toNat-2*first:=Y
  by_cases c:2*code+b.toNat<2*first+a.getD len 0
  ·rw[ai c,ai Y];congr 3;omega
  ·rw[ah c,ah Y,xi a d k _ _ _ _ r Y];congr 1;omega
def sU(a b:List Nat)(r:List Bool):gN a b r=jF (λc=>a.getD c 0) b 15 1 0 0 r:=xi a b 15 1 0 0 0 r (ag _)
def xh(d e:Nat->Nat)(f:List Nat):∀(k len c place:Nat) (r:List Bool),(∀a,len<=a->a<len+k->d a=e a)->jF d f k len c place r=jF e f k len c place r
 |0,_,_,_,_,_=>rfl
 |k+1,len,c,place,[],_=>rfl
 |k+1,len,c,place,b::r,h=>by
  simp only[jF];rw[h len (ag _) Y];split;·rfl
  ·exact xh d e f k _ _ _ r (λa h1 h2=>h a Y Y)
def j6:List Bool->Nat->Nat
 | [],a=>a
 |b::r,a=>j6 r (2*a+b.toNat)
def tq:∀(c:List Bool) (a k:Nat),j6 c (a+k)=j6 c a+2^(G c)*k
 | [],a,k=>by simp[j6]
 |b::c,a,k=>by simp only[j6,aj,cY];rw[show 2*(a+k)+b.toNat=(2*a+b.toNat)+2*k by omega,tq c _ (2*k)];rw[dR]
def th:∀(c:List Bool) (a:Nat),j6 c a<2^(G c)*(a+1)
 | [],a=>by simp[j6]
 |b::c,a=>by
  have h:=th c (2*a+b.toNat);have d:b.toNat<=1:=by cases b<;>decide
  have h2:2^(G c)*(2*a+b.toNat+1)<=2^(G c)*(2*(a+1)):=Nat.mul_le_mul_left _ Y;simp only[j6,aj,cY];rw[dR];omega
def wI:∀(e d:List Bool) (a:Nat),G e=G d->j6 e a=j6 d a->e=d
 | [],[],_,_,_=>rfl
 | [],_::_,_,h,_=>by simp at h
 |_::_,[],_,h,_=>by simp at h
 |b::e,c::d,a,h,i=>by
  simp only[aj,Nat.add_right_cancel_iff]at h;simp only[j6]at i;have l:b=c:=by
   have m:=th e (2*a+b.toNat);have o:=th d (2*a+c.toNat);have j:∀(g:List Bool) (f:Nat),2^(G g)*f<=j6 g f:=λg f=>by have:=tq g 0 f;rw[bH]at this;omega
   have k:=j e (2*a+b.toNat);have n:=j d (2*a+c.toNat);rw[h]at m k;cases b<;>cases c<;>simp only[Bool.toNat_false,Bool.toNat_true,dZ]at *
   ·have:2^(G d)*(2*a+1)<=2^(G d)*(2*a+1):=ag _;omega
   ·omega
  subst l;rw[wI e d _ h i]
def uD(b:Nat):∀a c,j6 (gS b a) c=2^a*c+b%2^a
 |0,c=>by simp[gS,j6,Nat.mod_one]
 |a+1,c=>by
  simp only[gS,j6];rw[uD b a,cY,Nat.mod_mul];have:(b >>> a%2==1).toNat=b/2^a%2:=by rw[Nat.shiftRight_eq_div_pow];have:=dM (b/2^a);rcases this with h|h<;>simp[h]
  rw[this,Nat.mul_add,dR];omega
def nM(b:Nat):∀a,(gS b a).length=a
 |0=>rfl
 |a+1=>by simp[gS,nM b a]
def lY(c:Nat->Nat):Nat->Nat->Nat->List Bool->Option (Nat×List Bool)
 |_,_,_,[]=>N
 |0,_,a,b::r=>O (2*a+b.toNat,r)
 |d+1,len,a,b::r=>if 2*a+b.toNat<c len then N else lY c d (len+1) (2*a+b.toNat-c len) r
def jT(a:Nat->Nat):Nat->Nat->Nat
 |0,_=>0
 |b+1,len=>2^(b+1)*a len+jT a b (len+1)
def vg(e:Nat->Nat):∀(f len d:Nat) (r:List Bool) (i:Nat) (g:List Bool),
  lY e f len d r=O (i,g)↔∃a,G a=f+1/\r=a++g/\j6 a d=i+jT e f len
 |f,len,d,[],i,g=>by
  constructor;·intro h;cases f<;>simp[lY]at h
  ·rintro⟨a,h1,h2,_⟩;have:=dV List.length h2;simp at this;omega
 |0,len,d,b::r,i,g=>by
  constructor
  ·intro h;simp only[lY,Option.some.injEq,Prod.mk.injEq]at h;exact⟨[b],rfl,by rw[h.2];rfl,by simp[j6,jT,h.1]⟩
  ·rintro⟨a,h1,h2,h3⟩;match a,h1 with
   | [c],_=>simp only[cP,eL,List.cons.injEq]at h2;simp only[j6,jT,dZ]at h3;simp only[lY,h2.1,h2.2,h3]
 |f+1,len,d,b::r,i,g=>by
  have j:=vg e f (len+1) (2*d+b.toNat-e len) r i g;constructor
  ·intro h;simp only[lY]at h;by_cases c:2*d+b.toNat<e len;·rw[ai c]at h;cases h
   ·rw[ah c]at h;obtain⟨a,h1,h2,h3⟩:=j.1 h;refine⟨b::a,by simp[h1],by rw[h2];rfl,?_⟩;simp only[j6,jT];have:=tq a (2*d+b.toNat-e len) (e len);rw[Nat.sub_add_cancel Y,h3,h1]at this;omega
  ·rintro⟨a,h1,h2,h3⟩;match a,h1 with
   |c::a,h1=>
    simp only[cP,List.cons.injEq]at h2;obtain⟨rfl,h2⟩:=h2;simp only[aj,Nat.add_right_cancel_iff]at h1;simp only[j6,jT]at h3;have l:=th a (2*d+b.toNat);rw[h1]at l;have k:¬2*d+b.toNat<e len:=by intro c;have:2^(f+1)*(2*d+b.toNat+1)<=2^(f+1)*e len:=Nat.mul_le_mul_left _ c;omega
    simp only[lY];rw[ah k];refine j.2 ⟨a,h1,h2,?_⟩;have:=tq a (2*d+b.toNat-e len) (e len);rw[Nat.sub_add_cancel Y,h1]at this;omega
def rP(c:Nat->Nat)(e:List Nat):∀(k len d place:Nat) (r:List Bool),(∀a,len<=a->c a=0)->jF c e k len d place r=N
 |0,_,_,_,_,_=>rfl
 |k+1,len,d,place,[],_=>rfl
 |k+1,len,d,place,b::r,h=>by simp only[jF];rw[ah (by rw[h len (ag _)];omega)];exact rP c e k _ _ _ r (λa f=>h a Y)
def lC(a:Nat->Nat):Nat->Nat->Nat
 |0,_=>0
 |b+1,len=>a len+lC a b (len+1)
def xj(a:Nat->Nat)(h:List Nat)(e:Nat)(j:∀f,e<f->a f=0):∀(g len d place k:Nat) (r:List Bool),len+g=e->g<k ->jF (λf=>if f=e then a e+1 else a f) h k len d place r =
    match lY a g len d r with
    |some (p,o)=>if p=a e then O (h.getD (place+lC a g len+a e) 0,o)else jF a h k len d place r
    |none=>jF a h k len d place r
 |g,len,d,place,0,r,h1,h2=>Y
 |g,len,d,place,k+1,[],h1,h2=>by cases g<;>simp[lY,jF]
 |0,len,d,place,k+1,b::r,h1,h2=>by
  obtain rfl:len=e:=Y;simp only[jF,lY,lC,if_true,dZ];by_cases i:2*d+b.toNat=a len;·rw[ai i,ai Y,i]
  ·rw[ah i];by_cases l:2*d+b.toNat<a len;·rw[ai l,ai Y]
   ·rw[ah l,ah Y];rw[rP _ h k (len+1) _ _ r (λf m=>by rw[ah Y];exact j f Y),rP a h k (len+1) _ _ r (λf m=>j f Y)]
 |g+1,len,d,place,k+1,b::r,h1,h2=>by
  have n:len≠e:=Y;simp only[jF,lY,ah n];by_cases c:2*d+b.toNat<a len;·simp only[ai c]
  ·simp only[ah c];rw[xj a h e j g (len+1) _ (place+a len) k r Y Y];simp only[lC,dQ]
def uM(a:Nat->Nat)(j:List Nat)(h:Nat)(m:∀i,h<i->a i=0):∀(e len d place k:Nat) (r:List Bool) (f:Nat) (g:List Bool),len+e=h->e<k->lY a e len d r=O (f,g)->a h<=f->jF a j k len d place r=N
 |e,len,d,place,0,r,f,g,h1,h2,_,_=>Y
 |e,len,d,place,k+1,[],f,g,h1,h2,h3,_=>rfl
 |0,len,d,place,k+1,b::r,f,g,h1,h2,h3,l=>by obtain rfl:len=h:=Y;simp only[lY,Option.some.injEq,Prod.mk.injEq]at h3;simp only[jF];rw[ah Y];exact rP a j k (len+1) _ _ r (λi n=>m i Y)
 |e+1,len,d,place,k+1,b::r,f,g,h1,h2,h3,l=>by
  simp only[lY]at h3;by_cases c:2*d+b.toNat<a len;·rw[ai c]at h3;cases h3
  ·rw[ah c]at h3;simp only[jF];rw[ah c];exact uM a j h m e (len+1) _ _ k r f g Y Y h3 l
def gy(T:List (Int×Int))(a:Nat)(b:Bool):Int:=if b then(T.getD a (0,0)).2 else(T.getD a (0,0)).1
def jH(T:List (Int×Int))(a:Nat)(b:Bool)(c:Int):List (Int×Int):=T.set a (if b then((T.getD a (0,0)).1,c)else(c,(T.getD a (0,0)).2))
def iE(a:List (Int×Int)):Nat->List Bool->Option (Nat×List Bool)
 |_,[]=>N
 |c,b::r=>if gy a c b<0 then O ((-1-gy a c b).toNat,r)else if gy a c b=0 then N else iE a (gy a c b).toNat r
def iW(T:List (Int×Int)):List Bool->Option Nat
 | []=>O 0
 |b::c=>match iW T c with
  |none=>N
  |some a=>if 0<gy T a b then O (gy T a b).toNat else N
structure kZ(T:List (Int×Int))(m:Nat):Prop where
 pos:0<G T
 lt:∀a b,a<G T->gy T a b<G T
 one:∀a b a' b',a<G T->a'<G T->0<gy T a b->gy T a b=gy T a' b'->a=a'/\b=b'
 deep:∀u a,iW T u=O a->G u<m
def jf{f:List (Int×Int)}{a:Nat}{b:Bool}{g:Int}(i:a<G f)(d:Nat)(e:Bool):gy (jH f a b g) d e=if a=d/\b=e then g else gy f d e:=by
 unfold gy jH;by_cases h:a=d
 ·subst h;simp only[ax,List.getElem?_set_self i,Option.getD_some,true_and];cases b<;>cases e<;>simp
 ·have j:¬(a=d/\b=e):=λc=>h c.1;simp only[ax,List.getElem?_set_ne h,ah j]
def kT(T:List (Int×Int))(a:Nat)(b:Bool)(c:Int):(jH T a b c).length=G T:=by simp[jH]
def qd{T:List (Int×Int)}{a:Nat}(h:G T<=a)(b:Bool):gy T a b=0:=by unfold gy;simp only[ax,List.getElem?_eq_none h,Option.getD_none];cases b<;>rfl
def nx{T:List (Int×Int)}(a:Nat)(b:Bool):gy (T++[(0,0)]) a b=gy T a b:=by
 by_cases h:a<G T;·unfold gy;simp only[ax,aP h]
 ·rw[qd (T:=T) Y];unfold gy;simp only[ax];rw[aF Y];by_cases h2:a-G T=0;·rw[h2];cases b<;>rfl
  ·rw[List.getElem?_eq_none eB];cases b<;>rfl
def oL{d:List (Int×Int)}{j:Nat}(h:kZ d j):∀f e,iW d f=O e->e<G d
 | [],e,a=>by simp only[iW,Option.some.injEq]at a;have:=h.pos;omega
 |b::f,e,a=>by
  simp only[iW]at a;cases i:iW d f with
  |none=>rw[i]at a;cases a
  |some g=>
   rw[i]at a;simp only[]at a;by_cases c:0<gy d g b
   ·rw[ai c]at a;simp only[Option.some.injEq]at a;have:=h.lt g b (oL h f g i);omega
   ·rw[ah c]at a;cases a
def uK{a:List (Int×Int)}{o:Nat}(h:kZ a o):∀e f g,iW a e=O g->iW a f=O g->e=f
 | [],[],_,_,_=>rfl
 | [],b::f,g,e1,e2=>by
  simp only[iW,Option.some.injEq]at e1 e2;cases d:iW a f with
  |none=>rw[d]at e2;cases e2
  |some k=>
   rw[d]at e2;simp only[]at e2;by_cases c:0<gy a k b;·rw[ai c]at e2;simp only[Option.some.injEq]at e2;omega
   ·rw[ah c]at e2;cases e2
 |b::e,[],g,e1,e2=>by
  simp only[iW,Option.some.injEq]at e1 e2;cases d:iW a e with
  |none=>rw[d]at e1;cases e1
  |some k=>
   rw[d]at e1;simp only[]at e1;by_cases c:0<gy a k b;·rw[ai c]at e1;simp only[Option.some.injEq]at e1;omega
   ·rw[ah c]at e1;cases e1
 |b::e,c::f,g,e1,e2=>by
  simp only[iW]at e1 e2;cases d:iW a e with
  |none=>rw[d]at e1;cases e1
  |some i=>
   cases j:iW a f with
   |none=>rw[j]at e2;cases e2
   |some l=>
    rw[d]at e1;rw[j]at e2;simp only[]at e1 e2;by_cases m:0<gy a i b
    ·by_cases n:0<gy a l c
     ·rw[ai m]at e1;rw[ai n]at e2;simp only[Option.some.injEq]at e1 e2;obtain⟨rfl,rfl⟩:=h.one i b l c (oL h e i d) (oL h f l j) m Y;rw[uK h e f i d j]
     ·rw[ah n]at e2;cases e2
    ·rw[ah m]at e1;cases e1
def vA{T:List (Int×Int)}{o:Nat}(h:kZ T o){e:Nat}{b:Bool}(m:e<G T)(k:gy T e b=0):∀(a:List Bool) (d:Nat),d<G T->iE (jH (T++[(0,0)]) e b (G T)) d a=iE T d a
 | [],d,_=>rfl
 |i::a,d,n=>by
  have l:e<(T++[(0,0)]).length:=eB;simp only[iE,jf l,nx];by_cases c:e=d/\b=i
  ·obtain⟨rfl,rfl⟩:=c;simp only[true_and,if_true,k,Int.lt_irrefl,if_false];rw[ah Y,ah xt];have j:∀a,iE (jH (T++[(0,0)]) e b (G T)) (G T) a=N:=by
    intro a;cases a with
    |nil=>rfl
    |cons p a=>
     have j:¬(e=G T/\b=p):=by rintro⟨c,_⟩;omega
     simp only[iE,jf l,nx,ah j,qd (ag (G T))];simp
   rw[show((G T:Int)).toNat=G T by omega];exact j a
  ·rw[ah c];by_cases f:gy T d i<0;·rw[ai f,ai f]
   ·rw[ah f,ah f];by_cases g:gy T d i=0;·rw[ai g,ai g]
    ·rw[ah g,ah g];exact vA h m k a _ (by have:=h.lt d i n;omega)
def yM{d:List (Int×Int)}{q:Nat}(h:kZ d q){e:Nat}{b:Bool}(m:e<G d)(n:gy d e b=0):∀(f:List Bool) (g:Nat),iW (jH (d++[(0,0)]) e b (G d)) f=O g->iW d f=O g\/(g=G d/\∃j,f=b::j/\iW d j=O e)
 | [],g,a=>P3 a
 |l::f,g,a=>by
  have o:e<(d++[(0,0)]).length:=eB;simp only[iW]at a ⊢;cases i:iW (jH (d++[(0,0)]) e b (G d)) f with
  |none=>rw[i]at a;cases a
  |some k=>
   rw[i]at a;simp only[jf o,nx]at a;rcases yM h m n f k i with h1|⟨rfl,j,rfl,h1⟩
   ·by_cases c:e=k/\b=l
    ·obtain⟨rfl,rfl⟩:=c;simp only[true_and,if_true]at a;rw[ai xt]at a;simp only[Option.some.injEq]at a;exact P4 ⟨Y,f,rfl,h1⟩
    ·rw[ah c]at a;rw[h1];exact P3 a
   ·have p:¬(e=G d/\b=l):=by rintro⟨c,_⟩;omega
    simp only[ah p,qd (ag (G d))]at a;simp at a
def uJ{c:List (Int×Int)}{n:Nat}(h:kZ c n){d:Nat}{b:Bool}(k:d<G c)(j:gy c d b=0):∀(e:List Bool) (f:Nat),iW c e=O f->iW (jH (c++[(0,0)]) d b (G c)) e=O f
 | [],f,a=>a
 |o::e,f,a=>by
  have l:d<(c++[(0,0)]).length:=eB;simp only[iW]at a ⊢;cases g:iW c e with
  |none=>rw[g]at a;cases a
  |some i=>
   rw[g]at a;rw[uJ h k j e i g];simp only[jf l,nx]at a ⊢;have m:¬(d=i/\b=o):=by rintro⟨rfl,rfl⟩;rw[j]at a;simp at a
   simp only[ah m];exact a
def kZ.grow{a:List (Int×Int)}{n:Nat}(h:kZ a n){l:List Bool}{e:Nat}{b:Bool}(p:iW a l=O e)(u:G l+1<n)(t:gy a e b=0):kZ (jH (a++[(0,0)]) e b (G a)) n:=by
 have s:=oL h l e p;have k:e<(a++[(0,0)]).length:=eB;have o:(jH (a++[(0,0)]) e b (G a)).length=G a+1:=by rw[kT];simp
 refine⟨Y,?_,?_,?_⟩
 ·intro d x w;rw[o]at w ⊢;rw[jf k,nx];split;·omega
  ·by_cases c:d<G a;·have:=h.lt d x c;omega
   ·rw[qd Y];omega
 ·intro d x g m h1 h2 h3 f;rw[o]at h1 h2;rw[jf k,nx]at h3;rw[jf k,jf k,nx,nx]at f;have q:=λd x=>by
   by_cases c:d<G a;·exact h.lt d x c
   ·rw[qd Y];have:=h.pos;omega
  by_cases j:e=d/\b=x
  ·by_cases i:e=g/\b=m;·exact⟨j.1.s.t i.1,j.2.s.t i.2⟩
   ·rw[ai j,ah i]at f;have:=q g m;omega
  ·rw[ah j]at h3 f;by_cases i:e=g/\b=m
   ·rw[ai i]at f;have:=q d x;omega
   ·rw[ah i]at f;have y:d<G a:=by
     rcases bU d (G a) with c|c;·exact c
     ·rw[qd c]at h3;omega
    have z:g<G a:=by
     rcases bU g (G a) with c|c;·exact c
     ·rw[f,qd c]at h3;omega
    exact h.one d x g m y z h3 f
 ·intro r d v;rcases yM h s t r d v with h1|⟨rfl,A,rfl,h1⟩;·exact h.deep r d h1
  ·rw[uK h A l e h1 p];simpa using u
def nA(b:List (Int×Int)):Nat->List Bool->Option Nat
 |a,[]=>O a
 |a,c::d=>if 0<gy b a c then nA b (gy b a c).toNat d else N
def wH(a:List (Int×Int))(d:Bool):∀(e:List Bool) (b:Nat),nA a b (e++[d])=match nA a b e with
  |none=>N
  |some k=>if 0<gy a k d then O (gy a k d).toNat else N
 | [],b=>by simp only[eL,nA]
 |f::e,b=>by
  simp only[cP,nA];by_cases c:0<gy a b f;·simp only[ai c];exact wH a d e _
  ·simp only[ah c]
def sR(b:List (Int×Int)):∀a,iW b a=nA b 0 a.reverse
 | []=>rfl
 |c::a=>by rw[List.reverse_cons,wH,<-sR b a];rfl
def nB(a:List (Int×Int))(e:Nat)(b:Bool):Nat->List Bool->Option (List Bool)
 |_,[]=>N
 |c,d::f=>if e=c/\b=d then O f else if 0<gy a c d then nB a e b (gy a c d).toNat f else N
def wK{g:List (Int×Int)}{i:Nat}{b:Bool}:∀(e:List Bool) (a:Nat) (d:List Bool),nB g i b a e=O d->∃f,e=f++b::d/\nA g a f=O i
 | [],a,d,h=>by simp[nB]at h
 |k::e,a,d,h=>by
  simp only[nB]at h;by_cases c:i=a/\b=k
  ·rw[ai c]at h;simp only[Option.some.injEq]at h;exact⟨[],by rw[c.2,h];rfl,by rw[nA,c.1]⟩
  ·rw[ah c]at h;by_cases j:0<gy g a k
   ·rw[ai j]at h;obtain⟨f,h1,h2⟩:=wK e _ d h;exact⟨k::f,by rw[h1];rfl,by simp only[nA,ai j];exact h2⟩
   ·rw[ah j]at h;cases h
def wJ{d:List (Int×Int)}{e:Nat}{b:Bool}(k:gy d e b=0)(i:List Bool):∀(f:List Bool) (a:Nat),nA d a f=O e->nB d e b a (f++b::i)=O i
 | [],a,h=>by simp only[nA,Option.some.injEq]at h;simp only[eL,nB,h,true_and,if_true]
 |j::f,a,h=>by
  simp only[nA]at h;by_cases g:0<gy d a j
  ·rw[ai g]at h;have c:¬(e=a/\b=j):=by rintro⟨rfl,rfl⟩;omega
   simp only[cP,nB,ah c,ai g];exact wJ k i f _ h
  ·rw[ah g]at h;cases h
def yS{d:List (Int×Int)}{f:Nat}{b:Bool}{h:Nat}(k:f<G d)(l:gy d f b=0):∀(g:List Bool) (a:Nat),iE (jH d f b (-1-(h:Int))) a g=match nB d f b a g with
   |some m=>O (h,m)
   |none=>iE d a g
 | [],a=>by simp[iE,nB]
 |e::g,a=>by
  simp only[iE,nB,jf k];by_cases c:f=a/\b=e
  ·simp only[ai c];rw[ai Y,show(-1-(-1-(h:Int))).toNat=h by omega]
  ·simp only[ah c];by_cases i:gy d a e<0
   ·have:¬0<gy d a e:=Y;simp only[ai i,ah this]
   ·by_cases j:gy d a e=0
    ·have:¬0<gy d a e:=Y;simp only[ah i,ai j,ah this]
    ·have:0<gy d a e:=Y;simp only[ah i,ah j,ai this];exact yS k l g _
def DQ{c:List (Int×Int)}{o:Nat}(h:kZ c o){g:List Bool}{e:Nat}{b:Bool}{i:Nat}(f:iW c g=O e)(j:gy c e b=0)(d:List Bool):(∀a,d=g.reverse++b::a->iE (jH c e b (-1-(i:Int))) 0 d=O (i,a))/\((∀a,d≠g.reverse++b::a)->iE (jH c e b (-1-(i:Int))) 0 d=iE c 0 d):=by
 have k:=oL h g e f;rw[yS k j d 0];constructor
 ·rintro a rfl;rw[sR]at f;rw[wJ j a _ 0 f]
 ·intro m;cases l:nB c e b 0 d with
  |none=>rfl
  |some a=>
   obtain⟨p,h1,h2⟩:=wK d 0 a l;have n:iW c p.reverse=O e:=by rw[sR,List.reverse_reverse];exact h2
   have:=uK h _ _ _ n f;exact absurd (by rw[h1,<-this,List.reverse_reverse]) (m a)
def xd{a:List (Int×Int)}{e:Nat}{b:Bool}{i:Nat}(f:e<G a)(g:gy a e b=0):∀d,iW (jH a e b (-1-(i:Int))) d=iW a d
 | []=>rfl
 |j::d=>by
  simp only[iW];rw[xd f g d];cases iW a d with
  |none=>rfl
  |some h=>
   simp only[jf f];by_cases c:e=h/\b=j
   ·obtain⟨rfl,rfl⟩:=c;simp only[true_and,if_true,g];rw[ah Y,ah Y]
   ·simp only[ah c]
def kZ.leaf{f:List (Int×Int)}{n:Nat}(h:kZ f n){c:Nat}{b:Bool}{q:Nat}(e:c<G f)(p:gy f c b=0):kZ (jH f c b (-1-(q:Int))) n:=by
 refine⟨by rw[kT];exact h.pos,?_,?_,?_⟩
 ·intro a g m;rw[kT]at m ⊢;rw[jf e];split;·omega
  ·exact h.lt a g m
 ·intro a g i o h1 h2 h3 d;rw[kT]at h1 h2;rw[jf e]at h3;rw[jf e,jf e]at d;by_cases j:c=a/\b=g;·rw[ai j]at h3;omega
  ·rw[ah j]at h3 d;by_cases k:c=i/\b=o;·rw[ai k]at d;omega
   ·rw[ah k]at d;exact h.one a g i o h1 h2 h3 d
 ·intro r a l;rw[xd e p]at l;exact h.deep r a l
def kZ.m{T:List (Int×Int)}{m n:Nat}(h:kZ T m)(b:m<=n):kZ T n:=⟨h.pos,h.lt,h.one,λd a c=>aQ (h.deep d a c) b⟩
def vz(a:List (Int×Int))(e:List Bool):∀(d:List Bool) (b k:Nat),nA a b d=O k->iE a b (d++e)=iE a k e
 | [],b,k,h=>by simp only[nA,Option.some.injEq]at h;rw[h];rfl
 |f::d,b,k,h=>by
  simp only[nA]at h;by_cases c:0<gy a b f
  ·rw[ai c]at h;have g:¬gy a b f<0:=Y;have i:¬gy a b f=0:=Y;simp only[cP,iE,ah g,ah i];exact vz a e d _ k h
  ·rw[ah c]at h;cases h
def j8(s:Nat):List (Int×Int)->Nat->List Bool->List (Int×Int)
 |T,_,[]=>T
 |T,a,[b]=>jH T a b (-1-(s:Int))
 |T,a,b::c::r=>if gy T a b=0 then j8 s (jH (T++[(0,0)]) a b (G T)) (G T) (c::r)else j8 s T (gy T a b).toNat (c::r)
def tG(m:Nat):∀(k:List Bool) (T:List (Int×Int)) (j:Nat) (e:List Bool) (a:Nat),kZ T j->iW T e=O a->k≠[]->G e+G k=j->(∀d,iE T 0 (e.reverse++(k++d))=N) ->kZ (j8 m T a k) j/\∀f,(∀d,f=e.reverse++(k++d)->iE (j8 m T a k) 0 f=O (m,d))/\((∀d,f≠e.reverse++(k++d))->iE (j8 m T a k) 0 f=iE T 0 f)
 | [],T,j,e,a,_,_,h,_,_=>absurd rfl h
 | [b],T,j,e,a,h,g,_,o,p=>by
  have n:=oL h e a g;have q:=g;rw[sR]at q;have i:gy T a b=0:=by
   have h1:=p [];rw[vz T _ _ 0 a q]at h1;simp only[cF,iE]at h1;by_cases c:gy T a b<0;·rw[ai c]at h1;cases h1
   ·by_cases x:gy T a b=0;·exact x
    ·exfalso;have z:iW T (b::e)=O (gy T a b).toNat:=by simp only[iW,g];rw[ai Y]
     have:=h.deep _ _ z;simp at this o;omega
  refine⟨h.leaf n i,λf=>?_⟩;exact DQ h g i f
 |b::c::r,T,j,e,a,h,g,_,o,p=>by
  have n:=oL h e a g;have q:=g;rw[sR]at q;have A:¬gy T a b<0:=by intro w;have h1:=p [];rw[vz T _ _ 0 a q]at h1;simp only[cP,iE]at h1;rw[ai w]at h1;cases h1
  simp only[j8];by_cases i:gy T a b=0
  ·rw[ai i];have y:a<(T++[(0,0)]).length:=eB;have h2:=h.grow g (by simp at o;omega) i;have v:iW (jH (T++[(0,0)]) a b (G T)) (b::e)=O (G T):=by simp only[iW,uJ h n i e a g,jf y,true_and,if_true];rw[ai xt];simp
   have t:=tG m (c::r) _ j (b::e) (G T) h2 v eA (by simp at o ⊢;omega) (λd=>by rw[vA h n i _ 0 h.pos];have:=p d;simpa using this)
   refine⟨t.1,λf=>?_⟩;have s:=t.2 f;constructor
   ·intro d l;exact s.1 d (by rw[l];simp)
   ·intro l;rw[s.2 (λd u=>l d (by rw[u];simp)),vA h n i f 0 h.pos]
  ·rw[ah i];have v:iW T (b::e)=O (gy T a b).toNat:=by simp only[iW,g];rw[ai Y]
   have t:=tG m (c::r) T j (b::e) _ h v eA (by simp at o ⊢;omega) (λd=>by have:=p d;simpa using this)
   refine⟨t.1,λf=>?_⟩;have s:=t.2 f;constructor
   ·intro d l;exact s.1 d (by rw[l];simp)
   ·intro l;exact s.2 (λd u=>l d (by rw[u];simp))
def kZ.start:kZ [(0,0)] 1:=by
 have d:∀a b,gy [(0,0)] a b=0:=λa b=>by have:=nx (T:=[]) a b;rw[eL]at this;rw[this,qd eA]
 refine⟨eA,λa b _=>by rw[d];simp,λa b g i _ _ h _=>by rw[d]at h;omega,λe a c=>?_⟩;cases e with
 |nil=>simp
 |cons j e=>
  simp only[iW]at c;cases f:iW [(0,0)] e with
  |none=>rw[f]at c;cases c
  |some k=>rw[f]at c;simp only[d]at c;simp at c
def A4(a:List Bool):iE [(0,0)] 0 a=N:=by
 cases a with
 |nil=>rfl
 |cons b a=>
  have c:gy [(0,0)] 0 b=0:=by cases b<;>rfl
  simp[iE,c]
def AJ{e:List (Int×Int)}{b:Nat->Nat}{j:List Nat}{a s:Nat}(D:1<=a)(E:a<=15)(r:∀i,a<i->b i=0)(h:kZ e a)(n:∀d,iE e 0 d=jF b j 15 1 0 0 d)
  {code:Nat} (o:code=b a+jT b (a-1) 1) (x:code<2^a) (z:j.getD (lC b (a-1) 1+b a) 0=s):kZ (j8 s e 0 (gS code a)) a/\∀d,iE (j8 s e 0 (gS code a)) 0 d=jF (λi=>if i=a then b a+1 else b i) j 15 1 0 0 d:=by
 have p:=nM code a;have q:j6 (gS code a) 0=code:=by rw[uD,ed x];omega
 have l:∀c,lY b (a-1) 1 0 (gS code a++c)=O (b a,c):=λc=>by rw[vg];exact⟨gS code a,Y,rfl,by rw[q];exact o⟩
 have y:∀c,iE e 0 (gS code a++c)=N:=λc=>by rw[n];exact uM b j a r (a-1) 1 0 0 15 _ (b a) c Y Y (l c) (ag _)
 obtain⟨v,w⟩:=tG s (gS code a) e a [] 0 h rfl (by intro g;rw[g]at p;simp at p;omega) eB (λc=>by simpa using y c);refine⟨v,λd=>?_⟩;have m:=w d;rw[xj b j a r (a-1) 1 0 0 15 d Y Y];cases f:lY b (a-1) 1 0 d with
 |none=>
  rw[m.2 (λc g=>by
   have e2:d=gS code a++c:=by simpa using g
   rw[e2,l c]at f;cases f)]
  exact n d
 |some C=>
  obtain⟨B,c⟩:=C;simp only[];by_cases k:B=b a
  ·rw[ai k];subst k;obtain⟨u,h1,h2,h3⟩:=(vg b (a-1) 1 0 d _ c).1 f;have A:u=gS code a:=wI u _ 0 Y (by rw[h3,q];exact o.s);subst A;rw[m.1 c (by simpa using h2)];rw[bH,z]
  ·rw[ah k,m.2 (λt g=>by
    have e2:d=gS code a++t:=by simpa using g
    rw[e2,l t]at f;simp only[Option.some.injEq,Prod.mk.injEq]at f;exact k f.1.s)]
   exact n d
section
variable{B b:Nat}{S:ByteArray}{d:Nat}{w:Gr}{p:Nat}{j:GI}{f:List Nat}{e:Nat}
def nS(w:Gr)(k:Nat)(a:List (Int×Int)):Prop:=
 ∃i c h l m,w.heap[k]?=O (Pp #[Z (O ⟨i,0,N⟩) (G a) c] 252 l)/\w.heap[i]?=O (Pp h 249 m)/\G a<=c/\G a<=100000/\c<=9223372036854775807 /\
  ∀g,g<G a->h[2*g]?=O (I U (gy a g P2))/\h[2*g+1]?=O (I U (gy a g PV))
def nS.kept{a:Nat}{q:List (Int×Int)}{s:Gr}{g:List Nat}(h:nS w a q)(k:gb 5 B g w s)(r:∀y∈g,∃c m,w.heap[y]?=O (Pp c 106 m)):nS s a q:=by
 obtain⟨i,c,t,m,u,h1,h2,h3⟩:=h;have v:a∉g:=λo=>by obtain⟨l,n,e⟩:=r a o;rw[h1]at e;simp at e
 have x:i∉g:=λo=>by obtain⟨l,n,e⟩:=r i o;rw[h2]at e;simp at e
 exact⟨i,c,t,m,u,k.block a _ v h1 (P4 (by intro l n e;simp at e)),k.block i _ x h2 (P4 (by intro l n e;simp at e)),h3⟩
def jx.isIn(h:jx B b S d w p j f e):∀a∈[b],∃c g,w.heap[a]?=O (Pp c 106 g):=by
 intro a i;obtain rfl:a=b:=by simpa using i
 exact⟨_,_,h.blk⟩
def SR(h:Option (Nat×List Bool))(S:ByteArray)(g c a e:Nat):Prop:=match h with
 |some (i,r)=>c=i/\e=0/\gC S a=r/\a<=8*S.size
 |none=>e=5/\c<=g
def xX(h:jx B b S d w p j f 0)(c:p<8*S.size):K8 Qe 112 #[M2 (O ⟨b,0,N⟩),I U 1] w λg a=>g=Ps (I U (((nth (bl S) (p/8)).testBit (p%8)).toNat:Nat))/\jx B b S d a (p+1) j f 0/\gb 5 B [b] w a:=by
 have:=JM h 1 Y Y;rw[Gh S p c]at this;simpa[gw]using this
def Gm(h:jx B b S d w p j f 0)(hp:p<=8*S.size){L:Nat}{g:List (Int×Int)}{bd D:Nat}(hT:nS w L g)(hG:kZ g bd)(hM:∀aa m,-1-(D:Int)<=gy g aa m)(bf:D<=1000):K8 Qe 272 #[M2 (O ⟨b,0,N⟩),M2 (O ⟨L,0,N⟩)] w λm w'=>∃a0 a e,m=Ps (I U (a0:Nat))/\jx B b S d w' a j f e/\SR (iE g 0 (gC S p)) S D a0 a e/\gb 5 B [b] w w':=by
 generalize hR:iE g 0 (gC S p)=X;have z:=H hG;have HM:=H hM
 go_in
 go_wp2;go_loopw [5] (λaa wr=>∃k a e:Nat,aa=I U k/\k<G g/\jx B b S d wr a j f e/\a<=8*S.size/\L1 ((e=0/\iE g k (gC S a)=X)\/(e=5/\X=N))/\nS wr L g/\gb 5 B [b] w wr) (λ_ wr=>if errOf b wr=0 then 8*S.size+1-posOf b wr else 0)
 case atStart=>exact⟨0,p,0,rfl,z.pos,h,hp,P3 ⟨rfl,hR⟩,hT,gb.refl _ _ _ _⟩
 case round=>
  obtain⟨k,a,e,rfl,E,r,hq,W,hT,M⟩:=hrel;have Q:=H r.posOf;have P:=H r.errOf;have c4:=r.c4;rcases W.o with⟨rfl,n⟩|⟨rfl,n⟩
  ·obtain⟨a7,c,a2,fz,a5,t1,t2,t3,t4,t5,t6⟩:=hT;have ad:L1 (nS wr L g):=⟨a7,c,a2,fz,a5,t1,t2,t3,t4,t5,t6⟩;have bm:(k:Int)<G g:=Y;by_cases al:a<8*S.size
   ·have K:=H (xX r al);rw[Gh S a al]at n;have A:=H n;generalize (nth (bl S) (a/8)).testBit (a%8)=m at *;go_wp2_with fail;apply K.o.m;rintro ac w1 ⟨rfl,R,y⟩;have s:=H (ad.kept y r.isIn);obtain⟨g',c',a3,a4,a6,s1,T,s3,s4,s5,J⟩:=s.o;have ba:=mC s1;have a8:w1.cell? ⟨g',k*2+m.toNat,N⟩=O (I U (gy g k m)):=by
     rw[iI T,dD];cases m;·exact(J k E).1
     ·exact(J k E).2
    have bb:=HM.o k m;have a9:=z.o.lt k m E;have l:=H R;have t:=H (M.t y);have bo:m.toNat<=1:=by cases m<;>decide
    have q:=A.o;simp only[iE]at q;generalize hE:gy g k m=i at *;by_cases c1:i<0
    ·rw[ai c1]at q;have C:=H q;have hv:((-1:Int)-i).toNat<=D:=Y;go_wp2;go_ret;refine⟨(-1-i).toNat,a+1,0,ri Y,l,?_,t⟩;rw[<-C.o];exact⟨rfl,rfl,rfl,Y⟩
    ·rw[ah c1]at q;by_cases u:i=0
     ·rw[ai u]at q;subst u;have C:=H q;go_wp2_with fail;apply(ro l 5 Y).m;rintro ac w2 ⟨rfl,x,F⟩;rw[rz]at x;have v:=H x.errOf;have V:=H (s.kept F l.isIn);go_wp2;go_roundw
      case rel=>exact⟨0,a+1,5,rfl,z.pos,x,Y,P4 ⟨rfl,C.s⟩,V,t.t F⟩
      case measure=>rw[Q.o,P.o,v.o];simp;omega
     ·rw[ah u]at q;have C:=H q;have a1:(i==0)=P2:=by simp;exact u
      have v:=H l.errOf;have m3:=H l.posOf;clear q;go_wp2;go_roundw
      case rel=>exact⟨i.toNat,a+1,0,by go_num,Y,l,Y,P3 ⟨rfl,C⟩,s,t⟩
      case measure=>rw[Q.o,P.o,v.o,m3.o];simp;omega
   ·have K:=H (JN r 1 Y Y);have ao:gC S a=[]:=dF eC;rw[ao]at n;have A:L1 (X=N):=by
     have h0:iE g k []=N:=by simp[iE]
     rw[h0]at n;exact n.s
    clear n W ao;go_wp2_with fail;apply K.o.m;rintro ac w1 ⟨rfl,R,y⟩;have s:=H (ad.kept y r.isIn);obtain⟨g',c',a3,a4,a6,s1,T,s3,s4,s5,J⟩:=s.o;have ba:=mC s1;have a8:w1.cell? ⟨g',k*2,N⟩=O (I U (gy g k P2)):=by rw[iI T,dD];exact(J k E).1
    have bb:=HM.o k P2;have a9:=z.o.lt k P2 E;have l:=H R;have t:=H (M.t y);clear R y M s1 T J K;generalize hE:gy g k P2=i at *;by_cases c1:i<0
    ·have hv:((-1:Int)-i).toNat<=D:=Y;go_wp2;go_ret;refine⟨(-1-i).toNat,a,5,ri Y,l,?_,t⟩;rw[A.o];exact⟨rfl,hv⟩
    ·by_cases u:i=0
     ·subst u;go_wp2_with fail;apply(ro l 5 Y).m;rintro ac w2 ⟨rfl,x,F⟩;rw[re Y]at x;have v:=H x.errOf;have V:=H (s.kept F l.isIn);go_wp2;go_roundw
      case rel=>exact⟨0,a,5,rfl,z.pos,x,Y,P4 ⟨rfl,A⟩,V,t.t F⟩
      case measure=>rw[Q.o,P.o,v.o];simp;omega
     ·have a1:(i==0)=P2:=by simp;exact u
      have v:=H l.errOf;go_wp2;go_roundw
      case rel=>exact⟨i.toNat,a,5,by go_num,Y,l,Y,P4 ⟨rfl,A⟩,s,t⟩
      case measure=>rw[Q.o,P.o,v.o];simp;omega
  ·have bi:((5:Int)==0)=P2:=cO;have bc:=H n;clear n W;go_wp2;go_ret;exact⟨0,a,5,rfl,r,by rw[bc.o];exact⟨rfl,aH _⟩,M⟩
end
def kK(a:List (Int×Int))(e:Nat)(c:List Bool)(d:Nat):Prop:=∃b,kZ a d/\iW a b=O e/\c≠[]/\G b+G c=d/\∀f,iE a 0 (b.reverse++(c++f))=N
def kK.lt{b:List (Int×Int)}{a:Nat}{e:List Bool}{c:Nat}(h:kK b a e c):a<G b:=by obtain⟨d,h1,h2,_⟩:=h;exact oL h1 d a h2
def kK.nonneg{a:List (Int×Int)}{c i:Nat}{b:Bool}{r:List Bool}(h:kK a c (b::r) i):0<=gy a c b:=by
 obtain⟨k,h1,g,_,j,f⟩:=h;have e:=g;rw[sR]at e;rcases Int.lt_or_le (gy a c b) 0 with d|d
 ·have h1:=f [];rw[vz a _ _ 0 c e]at h1;simp only[cP,iE]at h1;rw[ai d]at h1;cases h1
 ·exact d
def kK.zero{a:List (Int×Int)}{d k:Nat}{b c:Bool}{r:List Bool}(h:kK a d (b::c::r) k)(f:gy a d b=0):kK (jH (a++[(0,0)]) d b (G a)) (G a) (c::r) k:=by
 obtain⟨e,h,g,_,j,m⟩:=h;have i:=oL h e d g;have l:d<(a++[(0,0)]).length:=eB;have h2:=h.grow g (by simp at j;omega) f;have n:iW (jH (a++[(0,0)]) d b (G a)) (b::e)=O (G a):=by simp only[iW,uJ h i f e d g,jf l,true_and,if_true];rw[ai xt];simp
 exact⟨b::e,h2,n,eA,by simp at j ⊢;omega,λo=>by rw[vA h i f _ 0 h.pos];have:=m o;simpa using this⟩
def kK.on{a:List (Int×Int)}{d e:Nat}{b c:Bool}{r:List Bool}(h:kK a d (b::c::r) e)(n:gy a d b≠0):kK a (gy a d b).toNat (c::r) e:=by
 have m:=h.nonneg;obtain⟨f,h,k,_,g,i⟩:=h;have j:iW a (b::f)=O (gy a d b).toNat:=by simp only[iW,k];rw[ai Y]
 exact⟨b::f,h,j,eA,by simp at g ⊢;omega,λl=>by have:=i l;simpa using this⟩
def tH{e:Nat}{a:List (Int×Int)}{d:Nat}{b c:Bool}{r:List Bool}(f:gy a d b=0):j8 e a d (b::c::r)=j8 e (jH (a++[(0,0)]) d b (G a)) (G a) (c::r):=by simp only[j8,ai f]
def uO{e:Nat}{a:List (Int×Int)}{d:Nat}{b c:Bool}{r:List Bool}(f:gy a d b≠0):j8 e a d (b::c::r)=j8 e a (gy a d b).toNat (c::r):=by simp only[j8,ah f]
def lE(b:List (Int×Int)):List GI:=b.flatMap λa=>[I U a.1,I U a.2]
def rH(a b:List (Int×Int)):lE (a++b)=lE a++lE b:=by simp[lE]
def oZ:∀(a:List (Int×Int)) (c:Nat) (b:Bool),c<G a->(lE a)[c*2+b.toNat]?=O (I U (gy a c b))
 | [],c,b,h=>by simp at h
 |d::a,0,b,_=>by cases b<;>rfl
 |d::a,c+1,b,h=>by
  have g:=oZ a c b oT;have e:lE (d::a)=[I U d.1,I U d.2]++lE a:=by simp[lE]
  have e2:(c+1)*2+b.toNat=2+(c*2+b.toNat):=Y;rw[e,e2,aF (by show 2<=_;omega)];have f:gy (d::a) (c+1) b=gy a c b:=by unfold gy;simp
  rw[f,<-g];congr 1;simp
def qK:∀(c:List (Int×Int)) (a:Nat) (b:Bool) (d:Int),a<G c->lE (jH c a b d)=(lE c).set (a*2+b.toNat) (I U d)
 | [],a,b,d,h=>by simp at h
 |g::c,0,b,d,_=>by cases b<;>rfl
 |g::c,a+1,b,d,h=>by
  have j:=qK c a b d oT;have i:∀e f,lE (e::f)=[I U e.1,I U e.2]++lE f:=λe f=>by simp[lE]
  have e1:jH (g::c) (a+1) b d=g::jH c a b d:=by unfold jH;simp
  have e2:(a+1)*2+b.toNat=(a*2+b.toNat)+1+1:=Y;rw[e1,i,i,j,e2];rfl
section
structure kw(B b:Nat)(w:Gr)(v:GI)(T:List (Int×Int)):Prop where
 hb:B<=b
 blk:w.heap[b]?=O (Pp #[v] 252 (0,0))
 own:w.ownsRow B 249 2 v (G T) (lE T)
variable{B b:Nat}{w:Gr}{v:GI}{T:List (Int×Int)}
def KR(c a:Nat):((c:Int)/2^a).tmod 2=((c >>> a%2==1).toNat:Nat):=by
 have e1:((c:Int)/2^a)=((c/2^a:Nat):Int):=by rw[Int.natCast_ediv,Int.natCast_pow];rfl
 have e2:(((c/2^a:Nat):Int)).tmod 2=((c/2^a%2:Nat):Int):=by rw[dh (Int.natCast_nonneg _)];rfl
 rw[e1,e2,Nat.shiftRight_eq_div_pow];have:=dM (c/2^a);rcases this with h|h<;>simp[h]
def infoPair:(Tryz.prog.info? 249).map (λa=>(a.zero,a.size,a.bytes))=O (O (N1 #[I U 0,I U 0]),2,16):=by kernel_rfl
def kw.lt(h:kw B b w v T)(k:0<G T):∃g c,v=Z (O ⟨g,0,N⟩) (G T) c/\B<=g/\g≠b/\G T<=c/\(∀f,w.frozen? ⟨g,f,N⟩=P2)/\(∀a d,a<G T->w.cell? ⟨g,a*2+d.toNat,N⟩=O (I U (gy T a d))):=by
 obtain⟨g,c,rfl,n⟩:=uH h.own k;have o:g≠b:=by intro j;subst j;obtain⟨_,i,q,e⟩:=tN h.own g rfl;rw[h.blk]at e;simp at e
 rcases h.own.2 with⟨e1,_⟩|⟨r,p,i,e1,_,e,m,_⟩;·cases e1
 cases e1;refine⟨g,c,rfl,n,o,m,λf=>h.own.frozenAt f,λa d l=>?_⟩;have s:d.toNat<=1:=by cases d<;>decide
 rw[h.own.cellAt _ Y];exact oZ T a d l
def kw.set{f c:Nat}(h:kw B b w (Z (O ⟨f,0,N⟩) (G T) c) T)(i:f≠b)(a:Nat)(d:Bool)(e:Int)(g:a<G T):kw B b (w.setCell ⟨f,a*2+d.toNat,N⟩ (I U e)) (Z (O ⟨f,0,N⟩) (jH T a d e).length c) (jH T a d e):=by
 refine⟨h.hb,?_,?_⟩;·rw[kW _ (fW i),kT];exact h.blk
 ·have:=(h.own.stored (a*2+d.toNat) (I U e)).1;rw[kT,qK T a d e g];exact this
def kw.drew(h:kw B b w v T):kw B b w.drew v T:=⟨h.hb,h.blk,h.own⟩
def kw.grow{a:Gr}{d:GI}{g:Obj}(h:kw B b w v T)(i:a.ownsRow B 249 2 d (G T+1) (lE T++[I U 0,I U 0]))(j:(w.alloc g).grownBy a v.ownBlock):kw B b (a.setCell ⟨b,0,N⟩ d) d (T++[(0,0)]):=by
 have e:(w.alloc g).heap[b]?=O (Pp #[v] 252 (0,0)):=mA _ h.blk;have f:a.heap[b]?=O (Pp #[v] 252 (0,0)):=by rw[j.block b (ae e) (λc=>own_ne h.own h.blk cO c.s)];exact e
 refine⟨h.hb,?_,?_⟩;·rw[lV _ f];rfl
 ·rw[ak,rH];exact aR i (own_ne i f cO) _
def zJ{w:Gr}:∀c d,([I U 0,I U 0]:List GI)[c]?=O d->(w.alloc (Pp #[I U 0,I U 0] 249)).cell? ((⟨w.heap.size,0,N⟩:L2).add c)=O d:=by
 intro c d a;match c,a with
 |0,a=>exact(World.cell?_alloc_new _ _ _ _).t a
 |1,a=>exact(World.cell?_alloc_new _ _ _ _).t a
 |c+2,a=>simp at a
def Ee(code a:Nat):gS code (a+1)=(code >>> a%2==1)::gS code a:=rfl
def PO(h:kw B b w v T)(hB:B<=w.heap.size)(code f j a0:Nat)(hn:1<=f/\f<=15)(b3:code<32768)(hs:j<=1000)(bm:kK T 0 (gS code f) a0)(ca:G T+f<=100000):K8 Qe 271 #[M2 (O ⟨b,0,N⟩),I U code,I U f,I U j] w λe w'=>e=Ps (OW #[])/\∃C,kw B b w' C (j8 j T 0 (gS code f))/\(j8 j T 0 (gS code f)).length<=G T+f/\LT B w w':=by
 obtain⟨i0,hi,bq,br,bs⟩:=bu infoPair;obtain⟨t,hR⟩:∃t,j8 j T 0 (gS code f)=t:=⟨_,rfl⟩;rw[hR]
 go_in
 go_wp2;go_loopw [8,9] (λva Q wr=>∃(i d:Nat) (C:GI) (a:List (Int×Int)),va=I U d/\Q=I U ((i:Int)-1)/\1<=i/\i<=f/\kw B b wr C a/\L1 (kK a d (gS code i) a0/\j8 j a d (gS code i)=t)/\G a+i<=G T+f/\LT B w wr) (λ_ Q _=>(intOf Q+1).toNat)
 case atStart=>exact⟨f,0,v,T,rfl,rfl,hn.1,ag _,h,⟨bm,hR⟩,ag _,aq _ _⟩
 case round=>
  obtain⟨i,d,C,a,rfl,rfl,b5,b6,A,HP,b9,bl⟩:=hrel;obtain⟨k,rfl⟩:∃k,i=k+1:=⟨i-1,Y⟩;have ek:((k+1:Nat):Int)-1=(k:Int):=Y;rw[ek];have cc:=bl.size;obtain⟨r,g⟩:=HP.o;rw[Ee]at r g;have S:=H (KR code k);have ha:=r.lt;obtain⟨K,c,bo,bc,bf,bw,b4,a9⟩:=A.lt Y;subst bo;have b2:=mC A.blk;generalize (code >>> k%2==1)=e at *;have cd:e.toNat<=1:=by cases e<;>decide
  have a7:=a9 d e ha;have b1:=S.o;have bx:(d:Int)<G a:=Y;have l:=H A;have V:=H bl;by_cases hk:k=0
  ·subst hk;have ad:jH a d e (-1-(j:Int))=t:=g;have W:=H (A.set bf d e (-1-(j:Int)) ha);rw[ad]at W;have b8:G t=G a:=by rw[<-ad,kT]
   have B1:=H (bl.setCell (p:=⟨K,d*2+e.toNat,N⟩) bc (I U (-1-(j:Int))));have b0:(code:Int)%2=(e.toNat:Nat):=by have h1:=S.o;rw[dh eA]at h1;simpa using h1
   generalize u:e.toNat=z at *;go_wp2;refine av (v:=OW #[]) (by simp[results,results271,go_sem]) rfl ?_;exact⟨rfl,_,W,Y,B1⟩
  ·obtain⟨y,rfl⟩:∃y,k=y+1:=⟨k-1,Y⟩;rw[Ee]at r g;have b7:(((y+1:Nat):Int)==0)=P2:=eB;have cb:=r.nonneg;by_cases q:gy a d e=0
   ·have x:=r.zero q;rw[tH q]at g;rw[<-Ee]at x g;rw[q]at a7;have E:=H (And.intro x g);generalize u:e.toNat=z at *;generalize hK:y+1=F at *;go_wp2_with (at_builtin;refine a_ _ rfl (.tmp 47) (.tmp 49) 250 rfl B 249 i0 (N1 #[I U 0,I U 0]) 2 16 underlying250 hi bq br bs rfl cO (Z (O ⟨K,0,N⟩) (G a) c) (G a) _ rfl (l.o.own.alloc _) ⟨wr.heap.size,0,N⟩ 1 1 [I U 0,I U 0] rfl rfl ?hnews ?hone ?h63 ?hby ?hbs ?_)
    case hnews=>exact zJ
    case hone=>intro ce hu;simp at hu;subst hu;rfl
    case h63=>unfold maxLen;omega
    case hby=>omega
    case hbs=>simp;omega
    intro v2 D bt M _;have al:=l.o.grow bt M;have a5:LT B w (D.setCell ⟨b,0,N⟩ v2):=((V.alloc Y _).grown M eB (λk a6=>(l.o.own.lt k a6).1)).setCell (p:=⟨b,0,N⟩) l.hb _;have ao:D.heap[b]?=O (Pp #[Z (O ⟨K,0,N⟩) (G a) c] 252 (0,0)):=by have hb:(wr.alloc (Pp #[I U 0,I U 0] 249)).heap[b]?=_:=mA _ l.blk;rw[M.block b (ae hb) (λc=>own_ne l.o.own l.o.blk cO c.s)];exact hb
    have q0:=mC ao;have q1:=jR 0 ao;obtain⟨n,J,P,bd,bi,aa,bb,L⟩:=al.lt eA;rw[ak]at P aa L;simp only[ej]at P aa L;subst P;have a8:=L d e Y;have ba:=bb (d*2+e.toNat);rw[u]at a8 ba;have a3:=H al;have a2:=H a5;have bz:(d:Int)<(G a:Int)+1:=Y;have m:(a++[((0:Int),(0:Int))]).length=G a+1:=eA;have a4:L1 (kw B b (D.setCell ⟨b,0,N⟩ (Z (O ⟨n,0,N⟩) (G a+1) J)) (Z (O ⟨n,0,N⟩) (a++[((0:Int),(0:Int))]).length J) (a++[(0,0)])):=by rw[m];exact a3
    have s:=H ((a4.set bi d e (G a:Int) (by rw[m];omega)).drew);have R:=H ((a2.setCell (p:=⟨n,d*2+e.toNat,N⟩) bd (I U (G a:Int))).drew);rw[kT,m]at s;rw[u]at s R;go_wp2_with fail;go_region;generalize ((D.setCell ⟨b,0,N⟩ (Z (O ⟨n,0,N⟩) (G a+1) J)).setCell ⟨n,d*2+z,N⟩ (I U (G a:Int))).drew=W4 at *;have z0:=mC s.blk;have z1:W4.cell? ⟨n,d*2+z,N⟩=O (I U (G a:Int)):=by obtain⟨g5,c5,X,_,_,_,_,ac⟩:=s.o.lt (by rw[kT,m];omega);rw[kT,m]at X ac;cases X;have:=ac d e Y;rw[jf (by rw[m];omega),ai ⟨rfl,rfl⟩,u]at this;exact this
    go_wp2;go_roundw
    case rel=>refine⟨F,G a,_,_,rfl,by go_num,Y,Y,s,E,?_,R⟩;rw[kT,m];omega
    case measure=>simp[intOf]<;>omega
   ·have x:=r.on q;rw[uO q]at g;rw[<-Ee]at x g;have E:=H (And.intro x g);have bv:(gy a d e==0)=P2:=by simp;exact q
    generalize u:e.toNat=z at *;generalize hK:y+1=F at *;generalize gy a d e=a1 at *;go_wp2;go_roundw
    case rel=>exact⟨F,a1.toNat,_,a,by go_num,by go_num,Y,Y,l,E,Y,V⟩
    case measure=>simp[intOf]<;>omega
end
def uP(b:Nat->Nat):∀(a len:Nat),jT b (a+1) len=2*(jT b a len+b (len+a))
 |0,len=>by simp[jT]
 |a+1,len=>by
  have c:=uP b a (len+1);rw[jT,c];conv=>rhs;rw[jT]
  rw[cY 2 (a+1),show len+1+a=len+(a+1)by omega];have:2^(a+1)*2*b len=2*(2^(a+1)*b len):=by rw[dD (2^(a+1)) 2,dR]
  omega
def xm(c d:Nat->Nat):∀(b len:Nat),(∀a,len<=a->a<len+b->c a=d a)->jT c b len=jT d b len
 |0,_,_=>rfl
 |b+1,len,h=>by rw[jT,jT,h len (ag _) Y,xm c d b (len+1) (λa h1 h2=>h a Y Y)]
def wY(c d:Nat->Nat):∀(b len:Nat),(∀a,len<=a->a<len+b->c a=d a)->lC c b len=lC d b len
 |0,_,_=>rfl
 |b+1,len,h=>by rw[lC,lC,h len (ag _) Y,wY c d b (len+1) (λa h1 h2=>h a Y Y)]
def jh(b:List Nat)(a s k:Nat):Nat:=if k<a then b.count k else if k=a then(b.take s).count a else 0
def rB(b:List Nat)(a s:Nat):∀k,a<k->jh b a s k=0:=λk h=>by unfold jh;rw[ah Y,ah Y]
def ze(b:List Nat)(a c:Nat):jh b a c a=(b.take c).count a:=by unfold jh;rw[ah Y,ai rfl]
def zg(b:List Nat)(a k:Nat):jh b (a+1) 0 k=jh b a (G b) k:=by
 unfold jh;rw[fB,List.take_zero];by_cases h1:k<a;·rw[ai Y,ai h1]
 ·by_cases h2:k=a;·subst h2;rw[ai Y,ah Y,ai rfl]
  ·rw[ah Y,ah h1,ah h2];split<;>simp
def uQ{l:List Nat}{s:Nat}(b:s<G l)(a:Nat):(l.take (s+1)).count a=(l.take s).count a+(if l.getD s 0=a then 1 else 0):=by
 rw[bJ b,dW];have:l.getD s 0=l[s]:=by simp[ax,b]
 rw[this];by_cases c:l[s]=a;·rw[ai c];simp[c]
 ·rw[ah c];simp[c]
def wv{b:List Nat}{a s:Nat}(c:s<G b)(h:b.getD s 0=a)(k:Nat):jh b a (s+1) k=if k=a then jh b a s a+1 else jh b a s k:=by
 unfold jh;by_cases h1:k<a;·rw[ai h1,ah Y,ai h1]
 ·by_cases h2:k=a
  ·subst h2;rw[ah h1,ai rfl,ai rfl,ah Y,ai rfl,uQ c,ai h]
  ·rw[ah h1,ah h2,ah h2,ah h1,ah h2]
def xJ{b:List Nat}{a c:Nat}(d:c<G b)(h:b.getD c 0≠a)(k:Nat):jh b a (c+1) k=jh b a c k:=by
 unfold jh;by_cases h2:k=a
 ·subst h2;rw[ah Y,ai rfl,ah Y,ai rfl,uQ d,ah h];rfl
 ·by_cases h1:k<a;·rw[ai h1,ai h1]
  ·rw[ah h1,ah h2,ah h1,ah h2]
def jG(a:Nat->Nat):Nat->Nat
 |0=>0
 |k+1=>jG a k+a (k+1)*2^(14-k)
def wM(b c:Nat->Nat)(h:∀k,b k<=c k):∀a,jG b a<=jG c a
 |0=>ag _
 |a+1=>Nat.add_le_add (wM b c h a) (dB _ (h (a+1)))
def nN(b c:Nat->Nat):∀a,(∀k,1<=k->k<=a->b k=c k)->jG b a=jG c a
 |0,_=>rfl
 |a+1,h=>by rw[jG,jG,nN b c a (λk h1 h2=>h k h1 Y),h (a+1) Y Y]
def tA(d:Nat->Nat)(b:Nat):∀a,(∀k,b<k->d k=0)->b<=a->jG d a=jG d b
 |0,_,h=>by rw[show b=0 by omega]
 |a+1,e,h=>by
  by_cases c:b=a+1;·rw[c]
  ·rw[jG,e (a+1) Y,Nat.zero_mul,dZ];exact tA d b a e Y
def uA(b:Nat->Nat):∀a,1<=a->a<=15->(b a+jT b (a-1) 1)*2^(15-a)=jG b a
 |0,h,_=>Y
 |1,_,_=>by simp[jT,jG]
 |a+2,_,h=>by
  have d:=uA b (a+1) Y Y;rw[show a+2-1=a+1 by omega,uP b a 1,jG,<-d];rw[show a+1-1=a by omega,show 1+a=a+1 by omega,show 14-(a+1)=15-(a+2)by omega];rw[show 15-(a+1)=(15-(a+2))+1 by omega,cY,Nat.add_mul];generalize 2^(15-(a+2))=c;rw[show a+1+1=a+2 from rfl];have e1:2*(jT b a 1+b (a+1))*c=(b (a+1)+jT b a 1)*(c*2):=by rw[Nat.add_comm (b (a+1)),dD c 2,<-dR,dD 2]
  omega
def zi{b:Nat->Nat}{a:Nat}(h1:1<=a)(f:a<=15)(h:jG b a+2^(15-a)<=32768):b a+jT b (a-1) 1<2^a:=by
 have g:=uA b a h1 f;have e2:2^a*2^(15-a)=32768:=by rw[<-Nat.pow_add,show a+(15-a)=15 by omega]
 have i:0<2^(15-a):=Nat.pos_of_ne_zero eA;generalize 2^(15-a)=e at *;generalize b a+jT b (a-1) 1=d at *;rcases bU d (2^a)with c|c;·exact c
 ·have:2^a*e<=d*e:=dB _ c;omega
def gz(a:List Nat):List Nat:=(fT a (G a)).2
def n_(l:List Nat)(k:Nat):Nat:=pre (cz l) (nth l k)+(l.take k).count (nth l k)
def AG(l:List Nat)(k:Nat)(a:k<G l):(l.take k).count (nth l k)<l.count (nth l k):=by
 have b:l=l.take k++(nth l k::l.drop (k+1)):=by
  have:nth l k=l[k]:=by simp[nth,a]
  rw[this,<-aW a,dd]
 have c:=dV (List.count (nth l k)) b;rw[dW,List.count_cons_self]at c;omega
def AH(c:List Nat)(d:Nat){a b:Nat}(h:a<=b):(c.take a).count d<=(c.take b).count d:=by
 have:c.take a=(c.take b).take a:=by rw[List.take_take,b_ h]
 rw[this];exact List.Sublist.count_le d (List.take_sublist _ _)
def wZ{l:List Nat}(e:∀c,c<G l->nth l c<16){k:Nat}(a:k<G l)(d:0<nth l k):n_ l k<pre (cz l) (nth l k+1):=by have b:=e k a;rw[n_,xV (cz l) (nth l k) (by rw[qU];exact b),wU _ _ d b];have:=AG l k a;omega
def zX{l:List Nat}(d:∀e,e<G l->nth l e<16){s k:Nat}(p:s<k)(h:k<G l)(g:0<nth l s)(h1:0<nth l k):n_ l k≠n_ l s:=by
 by_cases f:nth l k=nth l s
 ·unfold n_;rw[f];have h2:=uQ (l:=l) (s:=s) Y (nth l s);have h3:l.getD s 0=nth l s:=rfl;rw[ai h3]at h2;have o:=AH l (nth l s) (a:=s+1) (b:=k) Y;omega
 ·have i:=wZ d h h1;have j:=wZ d (show s<G l by omega) g;have m:pre (cz l) (nth l k)<=n_ l k:=Nat.le_add_right _ _;have n:pre (cz l) (nth l s)<=n_ l s:=Nat.le_add_right _ _;rcases bU (nth l k) (nth l s)with c|c;·have:=Ey (cz l) (nth l k+1) (nth l s) c;omega
  ·have:=Ey (cz l) (nth l s+1) (nth l k) Y;omega
def wD{b:List Nat}(e:∀k,k<G b->nth b k<16){a:Nat}(h:a<G b)(f:0<nth b a):∀d,a+1+d<=G b->nth (fT b (a+1+d)).2 (n_ b a)=a
 |0,_=>by obtain⟨h1,h2,h3⟩:=Bb b e a Y;have j:=IOx b e a h f;have g:nth (fT b a).1 (nth b a)=n_ b a:=h3 _ f (e a h);rw[dZ,fT,ah Y];simp only[];rw[g]at j ⊢;exact zL _ _ _ (by rw[h2];exact j)
 |d+1,m=>by
  have l:=wD e h f d Y;have i:a+1+d<G b:=Y;obtain⟨_,_,h3⟩:=Bb b e (a+1+d) Y;rw[show a+1+(d+1)=(a+1+d)+1 by omega,fT];by_cases c:nth b (a+1+d)=0;·rw[ai c];exact l
  ·rw[ah c];simp only[];have g:nth (fT b (a+1+d)).1 (nth b (a+1+d))=n_ b (a+1+d):=h3 _ Y (e _ i);rw[g,yG _ _ _ _ (zX e Y i f Y)];exact l
def Au{a:List Nat}(e:∀c,c<G a->nth a c<16){b:Nat}(f:b<G a)(d:0<nth a b):(gz a).getD (n_ a b) 0=b:=by have:=wD e f d (G a-(b+1)) Y;rw[show b+1+(G a-(b+1))=G a by omega]at this;exact this
def xf(c:List Nat)(b:G c=16):∀(a len:Nat),len+a<=16->pre c (len+a)=pre c len+lC (λk=>nth c k) a len
 |0,len,_=>by simp[lC]
 |a+1,len,h=>by have:=xf c b a (len+1) Y;rw[show len+(a+1)=len+1+a by omega,this,xV c len Y,lC];omega
def Ad{a:List Nat}(f:∀d,d<G a->nth a d<16){b c:Nat}(g:1<=b)(e:b<=15)(h:nth a c=b):lC (jh a b c) (b-1) 1+jh a b c b=n_ a c:=by
 rw[ze,n_,h];have e1:=xf (cz a) (qU a) (b-1) 1 Y;rw[show 1+(b-1)=b by omega]at e1;have e2:pre (cz a) 1=0:=by have:=xV (cz a) 0 (by rw[qU];omega);rw[CJ]at this;rw[this];simp[pre]
 rw[e1,e2,bH];congr 1;refine wY _ _ _ _ (λk h1 h2=>?_);rw[wU a k Y Y];unfold jh;rw[ai Y]
def m_(T:List (Int×Int))(a:Nat):Prop:=∀b c,-1-(a:Int)<=gy T b c
def zm(T:List (Int×Int))(a:Nat)(b:Bool)(e:Int)(c:Nat)(d:Bool):gy (jH T a b e) c d=e\/gy (jH T a b e) c d=gy T c d:=by
 by_cases h:a<G T
 ·rw[jf h];split;·exact P3 rfl
  ·exact P4 rfl
 ·right;unfold jH;rw[List.set_eq_of_length_le Y]
def m_.upd{T:List (Int×Int)}{a:Nat}(h:m_ T a)(e:Nat)(b:Bool){d:Int}(i : -1-(a:Int)<=d):m_ (jH T e b d) a:=by
 intro f g;rcases zm T e b d f g with c|c;·rw[c];exact i
 ·rw[c];exact h f g
def m_.set{s d:Nat}(e:s<=d):∀(i:List Bool) (T:List (Int×Int)) (a:Nat),m_ T d->m_ (j8 s T a i) d
 | [],T,a,h=>h
 | [b],T,a,h=>h.upd a b Y
 |b::c::r,T,a,h=>by
  simp only[j8];split
  ·refine m_.set e (c::r) _ _ (m_.upd (λf g=>?_) a b Y);rw[nx];exact h f g
  ·exact m_.set e (c::r) _ _ h
def m_.start(c:Nat):m_ [(0,0)] c:=by intro d b;have a:=nx (T:=[]) d b;rw[eL]at a;rw[a,qd eA];omega
structure mj(l:List Nat)(n s:Nat)(T:List (Int×Int))(full code:Nat):Prop where
 gi:kZ T n
 eb:m_ T (G l)
 wk:∀v,iE T 0 v=jF (jh l n s) (gz l) 15 1 0 0 v
 fu:full=jG (jh l n s) 15
 co:code=jh l n s n+jT (jh l n s) (n-1) 1
 le:full<=32768
 sz:G T<=1+15*((n-1)*G l+s)
def mj.start(c:List Nat):mj c 1 0 [(0,0)] 0 0:=by
 have a:∀k,1<=k->jh c 1 0 k=0:=λk b=>by unfold jh;rw[ah Y];split<;>simp
 refine⟨kZ.start,m_.start _,λf=>?_,?_,?_,Y,eA⟩
 ·rw[A4,rP];exact λe d=>a e d
 ·rw[tA _ 0 15 (λk b=>a k b) Y];rfl
 ·rw[a 1 Y];simp[jT]
def mj.skip{a:List Nat}{d b f code:Nat}{e:List (Int×Int)}(h:mj a d b e f code)(i:b<G a)(g:nth a b≠d):mj a d (b+1) e f code:=by
 have c:=funext λk=>xJ i g k;refine⟨h.gi,h.eb,?_,?_,?_,h.le,by have:=h.sz;omega⟩;·rw[c];exact h.wk
 ·rw[c];exact h.fu
 ·rw[c];exact h.co
def mj.next{l:List Nat}{b e code:Nat}{d:List (Int×Int)}(h:mj l b (G l) d e code)(h1:1<=b):mj l (b+1) 0 d e (2*code):=by
 have c:=funext λk=>zg l b k;refine⟨h.gi.m Y,h.eb,?_,?_,?_,h.le,?_⟩;·rw[c];exact h.wk
 ·rw[c];exact h.fu
 ·rw[c,h.co,rB l b (G l) (b+1) Y,bH];obtain⟨a,rfl⟩:∃a,b=a+1:=⟨b-1,Y⟩;rw[show a+1+1-1=a+1 by omega,show a+1-1=a by omega,uP,Nat.add_comm 1 a];omega
 ·have:=h.sz;obtain⟨a,rfl⟩:∃a,b=a+1:=⟨b-1,Y⟩;rw[show a+1+1-1=a+1 by omega,Nat.add_mul];rw[show a+1-1=a by omega]at this;omega
def uE(d:Nat->Nat)(b:Nat)(h1:1<=b):∀a,b<=a->jG (λk=>if k=b then d b+1 else d k) a=jG d a+2^(15-b)
 |0,h=>Y
 |a+1,h=>by
  by_cases c:b=a+1
  ·subst c;rw[jG,jG,ai rfl,nN _ d a (λk _ e=>ah Y),Nat.add_mul,Nat.one_mul];rw[show 14-a=15-(a+1)by omega];omega
  ·rw[jG,jG,ah Y,uE d b h1 a Y];omega
def mj.over{b:List Nat}{a c d code:Nat}{e:List (Int×Int)}(h:mj b a c e d code)(h1:1<=a)(g:a<=15)(l:c<G b)(j:nth b c=a)(n:32768<d+2^(15-a)):32768<jG (λk=>b.count k) 15:=by
 have f:=funext λk=>wv l j k;have e2:=uE (jh b a c) a h1 15 g;rw[<-f,<-h.fu]at e2;have m:jG (jh b a (c+1)) 15<=jG (λk=>b.count k) 15:=by
  refine wM _ _ (λk=>?_) 15;unfold jh;split;·exact ag _
  ·split;·rename_i i;rw[i];exact List.Sublist.count_le a (List.take_sublist _ _)
   ·exact aH _
 omega
def rh(a:List (Int×Int))(code b:Nat):Prop:=kZ a b/\∀c,iE a 0 (gS code b++c)=N
def mj.more{c:List Nat}(j:∀o,o<G c->nth c o<16){a b f code:Nat}{d:List (Int×Int)}(h:mj c a b d f code)(h1:1<=a)(e:a<=15)(n:b<G c)(l:nth c b=a)(m:f+2^(15-a)<=32768):rh d code a/\code<2^a/\((j8 b d 0 (gS code a)).length<=G d+a->mj c a (b+1) (j8 b d 0 (gS code a)) (f+2^(15-a)) (code+1)):=by
 have r:f=jG (jh c a b) a:=by rw[h.fu,tA _ a 15 (rB c a b) e]
 have i:code<2^a:=by rw[h.co];exact zi h1 e (by rw[<-r];exact m)
 have g:=funext λk=>wv n l k;have s:j6 (gS code a) 0=code:=by rw[uD,ed i];omega
 have w:=nM code a;obtain⟨p,q⟩:=AJ h1 e (rB c a b) h.gi h.wk h.co i (s:=b) (by rw[Ad j h1 e l];exact Au j n Y);refine⟨⟨h.gi,λt=>?_⟩,i,λx=>⟨p,h.eb.set Y _ _ _,?_,?_,?_,m,?_⟩⟩
 ·rw[h.wk];refine uM (jh c a b) (gz c) a (rB c a b) (a-1) 1 0 0 15 _ (jh c a b a) t Y Y ?_ (ag _);rw[vg];exact⟨gS code a,Y,rfl,by rw[s];exact h.co⟩
 ·intro v;rw[q v,g]
 ·rw[g,uE _ a h1 15 e,<-h.fu]
 ·rw[g,h.co];simp only[if_true];rw[xm _ (jh c a b) (a-1) 1 (λk _ u=>ah Y)];omega
 ·have:=h.sz;omega
def mj.code_le{b:List Nat}{a c g code:Nat}{e:List (Int×Int)}(h:mj b a c e g code)(h1:1<=a)(d:a<=15):code<=32768:=by have f:=uA (jh b a c) a h1 d;rw[<-h.co,<-tA _ a 15 (rB b a c) d,<-h.fu]at f;have i:0<2^(15-a):=Nat.pos_of_ne_zero eA;have:=Nat.le_mul_of_pos_right code i;have:=h.le;omega
def mj.done{a:List Nat}(g:∀e,e<G a->nth a e<16){d code:Nat}{b:List (Int×Int)}(h:mj a 16 0 b d code):d=jG (λk=>a.count k) 15/\(∀v,iE b 0 v=gN (cz a) (gz a) v)/\kZ b 16:=by
 have c:∀k,1<=k->k<=15->jh a 16 0 k=a.count k:=λk h1 h2=>by unfold jh;rw[ai Y]
 refine⟨by rw[h.fu];exact nN _ _ 15 c,λv=>?_,h.gi⟩;rw[h.wk,sU];refine xh _ _ _ 15 1 0 0 v (λf h1 h2=>?_);rw[c f h1 Y];exact(wU a f Y Y).s
section
variable{B d:Nat}{w:Gr}{v:GI}{T:List (Int×Int)}
def kw.toIn(h:kw B d w v T)(l:0<G T)(o:G T<=100000):nS w d T:=by
 obtain⟨k,c,rfl,s⟩:=uH h.own l;rcases h.own.2 with⟨e1,_⟩|⟨r,q,g,e1,_,j,m,p,_⟩;·cases e1
 cases e1;refine⟨k,c,g,_,_,h.blk,j,m,o,by unfold maxLen at p;omega,λe n=>?_⟩;have i:∀a:Bool,g[e*2+a.toNat]?=O (I U (gy T e a)):=λa=>by
  have t:a.toNat<=1:=by cases a<;>decide
  have h1:=h.own.cellAt (e*2+a.toNat) Y;rw[iI j]at h1;rw[h1];exact oZ T e a n
 have f:=i P2;have b:=i PV;rw[dD]at f b;exact⟨f,b⟩
def SetPre0.pre{code a:Nat}(f:1<=a)(h:rh T code a):kK T 0 (gS code a) a:=by have b:=nM code a;exact⟨[],h.1,rfl,by intro c;rw[c]at b;simp at b;omega,by simp[b],λe=>by simpa using h.2 e⟩
def pA(a:List Nat)(T:List (Int×Int))(b:Nat):Prop:=
 (b=jG (λk=>a.count k) 15/\b<=32768/\kZ T 16/\m_ T (G a)/\∀v,iE T 0 v=gN (cz a) (gz a) v)\/(32768<b/\32768<jG (λk=>a.count k) 15)
def Cq(n t y:Nat)(a:List Nat)(R:∀l,l<G a->nth a l<16)(hn:G a<=320)(hg:n<w.heap.size)(P:∀l,l<G a->w.cell? ⟨n,t+l,N⟩=O (I U (nth a l:Nat)))(a9:G a<=y/\y<=9223372036854775807):K8 Qe 208 #[Z (O ⟨n,t,N⟩) (G a) y] w λaa w'=>∃(d:Nat) (T:List (Int×Int)) (c:Nat),aa=Ps (OW #[M2 (O ⟨d,0,N⟩),I U c])/\nS w' d T/\w.heap.size<=d/\LT w.heap.size w w'/\pA a T c:=by
 have L:=H R;have HC:=H P;clear R P
 go_in
 go_wp2;have W:=World.ownsRow_lit (base:=w.heap.size) (e:= 249) (size:=2) w #[I U 0,I U 0] 1 (ag _) oi rfl;have X:kw w.heap.size (w.heap.size+1) ((w.alloc (Pp #[I U 0,I U 0] 249)).alloc (Pp #[Z (O ⟨w.heap.size,0,N⟩) 1 1] 252)) (Z (O ⟨w.heap.size,0,N⟩) 1 1) [(0,0)]:=by refine⟨Y,?_,W.alloc _⟩;have:=bn (w.alloc (Pp #[I U 0,I U 0] 249)) (Pp #[Z (O ⟨w.heap.size,0,N⟩) 1 1] 252);simpa using this
 have M:LT w.heap.size w ((w.alloc (Pp #[I U 0,I U 0] 249)).alloc (Pp #[Z (O ⟨w.heap.size,0,N⟩) 1 1] 252)):=((aq _ _).alloc (ag _) _).alloc eA _;go_loopw [5,6,7] (λF E J wr=>∃(b c code:Nat) (j:GI) (T:List (Int×Int)),F=I U c/\E=I U code/\J=I U b/\1<=b/\b<=16/\kw w.heap.size (w.heap.size+1) wr j T/\L1 (mj a b 0 T c code)/\code<=65536/\LT w.heap.size w wr) (λ_ _ J _=>16-(intOf J).toNat)
 case atStart=>exact⟨1,0,0,_,_,rfl,rfl,rfl,Y,Y,X,mj.start a,Y,M⟩
 clear X M W
 case round=>
  obtain⟨b,c,code,j,T,rfl,rfl,rfl,h1,a7,i,g,Q,bl⟩:=hrel;have C:=g.o.le;by_cases q:b<=15
  ·have ba:(b:Int)<=15:=Y;go_wp2;go_loopw [5,6,8] (λF E K wr=>∃(f c code:Nat) (j:GI) (T:List (Int×Int)),F=I U c/\E=I U code/\K=I U f/\f<=G a/\kw w.heap.size (w.heap.size+1) wr j T/\L1 (mj a b f T c code)/\LT w.heap.size w wr) (λ_ _ K _=>G a-(intOf K).toNat)
   case atStart=>exact⟨0,c,code,j,T,rfl,rfl,rfl,Y,i,g,bl⟩
   clear i g bl C Q
   case round=>
    obtain⟨f,c,code,j,T,rfl,rfl,rfl,bc,i,g,bl⟩:=hrel;have C:=g.o.le;have Q:=g.o.code_le h1 q;by_cases s:f<G a
    ·have bb:(f:Int)<G a:=Y;have a3:wr.cell? ⟨n,t+f,N⟩=O (I U (nth a f:Nat)):=by rw[bl.cell (p:=⟨n,t+f,N⟩) hg];exact HC f s
     by_cases k:nth a f=b
     ·have S:((nth a f:Int)==(b:Int))=PV:=by simp[k]
      rw[k]at a3;obtain⟨h,r⟩:∃h,2^(15-b)=h:=⟨_,rfl⟩;have ao:2^(15-b)<=2^14:=aJ Y Y;have eP:wrap64 ((2:Int)^(15-b))=(h:Int):=by
       have e3:((2:Int)^(15-b))=((2^(15-b):Nat):Int):=by rw[Int.natCast_pow];rfl
       rw[e3,r]at *;unfold wrap64;omega
      rw[r]at ao;have x:=H (g.o.over h1 q s k);have u:=H (g.more L h1 q s k);rw[r]at x u;have z:=g.o.sz;have A:=g.o.gi.pos;have a8:G T<=90000:=by have h2:(b-1)*G a<=14*320:=Nat.mul_le_mul Y hn;omega
      clear z r S k;by_cases V:32768<c+h
      ·have a4:(32768:Int)<(c:Int)+(h:Int):=Y;go_wp2;refine av (v:=OW #[M2 (O ⟨w.heap.size+1,0,N⟩),I U (c+h:Nat)]) (by simp[results,results208,go_sem]) rfl ?_;exact⟨w.heap.size+1,T,c+h,rfl,i.toIn A Y,Y,bl,P4 ⟨V,x V⟩⟩
      ·have a4:¬(32768:Int)<(c:Int)+(h:Int):=Y;obtain⟨m1,m2,m3⟩:=u.o Y;have ac:=H m3;have a1:code<32768:=by have:2^b<=2^15:=aJ Y q;omega
       have ad:=H (PO i bl.size code b f b ⟨h1,q⟩ a1 Y (SetPre0.pre h1 m1) Y);clear m1 m2 m3 u x i;go_wp2_with fail;apply ad.o.m;rintro aa w2 ⟨rfl,v2,a5,a2,b2⟩;have m:=H (ac a2);go_wp2;go_roundw
       case rel=>exact⟨f+1,c+h,code+1,v2,_,by go_num,by go_num,by go_num,Y,a5,m,bl.t b2⟩
       case measure=>simp[intOf];omega
     ·have S:((nth a f:Int)==(b:Int))=P2:=eB;have m:=H (g.skip s k);generalize nth a f=a6 at *;go_wp2;go_roundw
      case rel=>exact⟨f+1,c,code,j,T,rfl,rfl,by go_num,Y,i,m,bl⟩
      case measure=>simp[intOf];omega
    ·obtain rfl:f=G a:=Y;have m:=H (g.next h1);go_wp2;go_roundw
     case rel=>exact⟨b+1,c,2*code,j,T,rfl,by go_num,by go_num,Y,Y,i,m,Y,bl⟩
     case measure=>simp[intOf];omega
  ·obtain rfl:b=16:=Y;have D:=g.o.done L;have z:=g.o.sz;have A:=g.o.gi.pos;have al:=g.o.eb;have a0:G T<=100000:=by rw[show 16-1=15 from rfl]at z;omega
   go_wp2;refine av (v:=OW #[M2 (O ⟨w.heap.size+1,0,N⟩),I U c]) (by simp[results,results208,go_sem]) rfl ?_;exact⟨w.heap.size+1,T,c,rfl,i.toIn A a0,Y,bl,P3 ⟨D.1,C,D.2.2,al,D.2.1⟩⟩
end
section
variable{B b:Nat}{S:ByteArray}{d:Nat}{w:Gr}{p:Nat}{l:GI}{f:List Nat}{e:Nat}
def l8(a c:Nat):Nat:=if c<2*a then 0 else c/a-1
def l9(a g c:Nat):Nat:=if c<2*a then g+c else g+(a+c%a)*2^(c/a-1)
def MH:∀a:Fin 29,8<=a.val->wrap64 (3+wrap64 ((4+(a.val:Int)%4)*2^(a.val/4-1)))=(l9 4 3 a.val:Nat)/\(a.val:Int)/4-1=(l8 4 a.val:Nat):=by decide +kernel
def MI:∀a:Fin 33,4<=a.val->wrap64 (1+wrap64 ((2+(a.val:Int)%2)*2^(a.val/2-1)))=(l9 2 1 a.val:Nat)/\(a.val:Int)/2-1=(l8 2 a.val:Nat):=by decide +kernel
def MF(a:Nat)(i:a<29)(w:Gr):K8 Qe 273 #[I U a,I U 4,I U 3] w λq n=>q=Ps (OW #[I U (l8 4 a:Nat),I U (l9 4 3 a:Nat)])/\∃j,n=w.drewN j:=by
 by_cases c:a<8
 ·have h:(a:Int)<8:=Y;have e1:l8 4 a=0:=by unfold l8;rw[ai Y]
  have e2:((l9 4 3 a:Nat):Int)=3+(a:Int):=by unfold l9;rw[ai Y];omega
  rw[e1,e2]
  go_in
  go_wp2;refine av (v:=OW #[I U (0:Nat),I U (3+(a:Int))]) (by simp[results,results273,go_sem]) rfl ⟨rfl,0,rfl⟩
 ·have h:¬(a:Int)<8:=Y;have g:=H (MH ⟨a,i⟩ (by show 8<=a;omega));simp only[]at g;have r:0<=(a:Int)/4-1:=Y;have s:(a:Int)/4-1<7:=Y
  go_in
  go_wp2_with fail;go_quiet (fail);go_wp2;obtain⟨k,m⟩:=g.o;refine av (v:=OW #[I U (l8 4 a:Nat),I U (l9 4 3 a:Nat)]) ?_ rfl ⟨rfl,nq,rfl⟩;simp[results,results273,go_sem,k,m]
def mo(a:Nat)(i:a<33)(w:Gr):K8 Qe 273 #[I U a,I U 2,I U 1] w λq n=>q=Ps (OW #[I U (l8 2 a:Nat),I U (l9 2 1 a:Nat)])/\∃j,n=w.drewN j:=by
 by_cases c:a<4
 ·have h:(a:Int)<4:=Y;have e1:l8 2 a=0:=by unfold l8;rw[ai Y]
  have e2:((l9 2 1 a:Nat):Int)=1+(a:Int):=by unfold l9;rw[ai Y];omega
  rw[e1,e2]
  go_in
  go_wp2;refine av (v:=OW #[I U (0:Nat),I U (1+(a:Int))]) (by simp[results,results273,go_sem]) rfl ⟨rfl,0,rfl⟩
 ·have h:¬(a:Int)<4:=Y;have g:=H (MI ⟨a,i⟩ (by show 4<=a;omega));simp only[]at g;have r:0<=(a:Int)/2-1:=Y;have s:(a:Int)/2-1<16:=Y
  go_in
  go_wp2_with fail;go_quiet (fail);go_wp2;obtain⟨k,m⟩:=g.o;refine av (v:=OW #[I U (l8 2 a:Nat),I U (l9 2 1 a:Nat)]) ?_ rfl ⟨rfl,nq,rfl⟩;simp[results,results273,go_sem,k,m]
def MD:∀a:Fin 286,257<=a.val->a.val≠285->l8 4 (a.val-257)=(gu a.val).2/\l9 4 3 (a.val-257)=(gu a.val).1:=by decide +kernel
def MC:∀a:Fin 30,l8 2 a.val=(gq a.val).2/\l9 2 1 a.val=(gq a.val).1:=by decide +kernel
def Lj(h:jx B b S d w p l f e)(D:e≠0)(a c n:Nat)(P:a<=100000)(M:c<=1000000)(Q:n<=32768):K8 Qe 274 #[M2 (O ⟨b,0,N⟩),I U a,I U c,I U n] w λs v=>s=Ps (OW #[])/\jx B b S d v p l f e/\gb 5 B [b] w v:=by
 have z:=h.c2;have K:=h.c4;obtain⟨E,R,u⟩:=jp h.own;rw[u]at z;clear u;have L:((e:Int)==0)=P2:=eB;have q:=H (ro h 5 Y);rw[re D]at q;have T:∀i:Gr,jx B b S d i p l f e->gb 5 B [b] w i->jx B b S d i p l f e/\gb 5 B [b] w i:=λi x b=>⟨x,b⟩;by_cases F:G f<c
 ·have y:(G f:Int)<c:=Y
  go_in
  go_wp2_with fail;apply q.o.m;rintro s r ⟨rfl,g,m⟩;have C:=g.c4;go_wp2;go_loopw [8] (λk wr=>k=I U 0/\wr=r) (λ_ _=>0)
  case atStart=>exact⟨rfl,rfl⟩
  case round=>
   obtain⟨rfl,rfl⟩:=hrel;by_cases t:0<a
   ·have j:(0:Int)<a:=Y;go_wp2
    go_end0
    exact⟨rfl,g,m⟩
   ·have j:¬(0:Int)<a:=Y;go_wp2
    go_end0
    exact⟨rfl,g,m⟩
 ·have y:¬(G f:Int)<c:=Y;by_cases J:n<c
  ·have A:(n:Int)<c:=Y
   go_in
   go_wp2_with fail;apply q.o.m;rintro s r ⟨rfl,g,m⟩;have C:=g.c4;go_wp2;go_loopw [8] (λk wr=>k=I U 0/\wr=r) (λ_ _=>0)
   case atStart=>exact⟨rfl,rfl⟩
   case round=>
    obtain⟨rfl,rfl⟩:=hrel;by_cases t:0<a
    ·have j:(0:Int)<a:=Y;go_wp2
     go_end0
     exact⟨rfl,g,m⟩
    ·have j:¬(0:Int)<a:=Y;go_wp2
     go_end0
     exact⟨rfl,g,m⟩
  ·have A:¬(n:Int)<c:=Y
   go_in
   go_wp2;go_loopw [8] (λk wr=>k=I U 0/\wr=w) (λ_ _=>0)
   case atStart=>exact⟨rfl,rfl⟩
   case round=>
    obtain⟨rfl,rfl⟩:=hrel;by_cases t:0<a
    ·have j:(0:Int)<a:=Y;go_wp2
     go_end0
     exact⟨rfl,h,gb.refl _ _ _ _⟩
    ·have j:¬(0:Int)<a:=Y;go_wp2
     go_end0
     exact⟨rfl,h,gb.refl _ _ _ _⟩
def Lh(h:jx B b S d w p l f 0)(c a g:Nat)(F:c<=100000)(E:a<=1000000)(J:g<=32768)(u:G f<a\/g<a):K8 Qe 274 #[M2 (O ⟨b,0,N⟩),I U c,I U a,I U g] w λq n=>q=Ps (OW #[])/\jx B b S d n p l f 5/\gb 5 B [b] w n:=by
 have s:=h.c2;obtain⟨z,K,k⟩:=jp h.own;rw[k]at s;clear k;have j:=H (ro h 5 Y);rw[rz]at j;have v:(G f:Int)<a\/(¬(G f:Int)<a/\(g:Int)<a):=Y;clear u;rcases v with r|⟨r,A⟩;all_goals
  go_in
  go_wp2_with fail;apply j.o.m;rintro q y ⟨rfl,i,m⟩;have D:=i.c4;go_wp2;go_loopw [8] (λx wr=>x=I U 0/\wr=y) (λ_ _=>0)
  case atStart=>exact⟨rfl,rfl⟩
  case round=>
   obtain⟨rfl,rfl⟩:=hrel;by_cases C:0<c
   ·have t:(0:Int)<c:=Y;go_wp2
    go_end0
    exact⟨rfl,i,m⟩
   ·have t:¬(0:Int)<c:=Y;go_wp2
    go_end0
    exact⟨rfl,i,m⟩
def yx(g:Nat)(h1:1<=g)(h2:g<=G f)(i:∀c∈f,c<256):∀h,∀c∈iP g h f,c<256
 |0,c,a=>i c a
 |h+1,c,a=>by
  rw[oE]at a;rcases bG.1 a with a|a;·exact yx g h1 h2 i h c a
  ·simp only[cU]at a;have j:=mD g h f;rw[a,ax,af Y];exact yx g h1 h2 i h _ (cq _)
def Ll(h:jx B b S d w p l f 0)(i g u:Nat)(hn:i<=100000)(aa:1<=g)(X:g<=G f)(hw:g<=u)(a5:u<=32768)(W:∀m∈f,m<256):K8 Qe 274 #[M2 (O ⟨b,0,N⟩),I U i,I U g,I U u] w λm L=>m=Ps (OW #[])/\∃n c k,jx B b S d L p n c k/\((G f+i<=d/\c=iP g i f/\k=0)\/(d<G f+i/\k=6))/\gb 5 B [b] w L:=by
 have C:=h.c2;have lm:=h.lm;have lo:=h.lo;obtain⟨ao,oc,K⟩:=jp h.own;rw[K]at C;clear K;have c1:¬(G f:Int)<g:=Y;have c3:¬(u:Int)<g:=Y;have M:L1 (∀a,a<=i->∀{m},m∈iP g a f->m<256):=λa _ m t=>yx g aa X W a m t
 go_in
 go_wp2;go_loopw [8] (λz wr=>∃(a k:Nat) (n:GI) (c:List Nat),z=I U a/\a<=i/\jx B b S d wr p n c k/\L1 ((G f+a<=d/\c=iP g a f/\k=0)\/(d<G f+a/\k=6))/\gb 5 B [b] w wr) (λz _=>i-(intOf z).toNat)
 case atStart=>exact⟨0,0,l,f,rfl,aH _,h,P3 ⟨Y,rfl,rfl⟩,gb.refl _ _ _ _⟩
 clear h C
 case round=>
  obtain⟨a,k,n,c,rfl,hj,r,v,A⟩:=hrel;have d4:=r.c4;by_cases cj:a<i
  ·have R:(a:Int)<i:=Y;rcases v.o with⟨ad,s,rfl⟩|⟨ad,rfl⟩
   ·have J:G c=G f+a:=by rw[s,mD]
    have x:=H (oE g a f);rw[<-s]at x;obtain⟨a0,a6,ac,_⟩:=uH r.own Y;subst ac;have d2:=r.c2;obtain⟨j,E⟩:∃j,G c-g=j:=⟨_,rfl⟩;have y:j<G c:=Y;have t:=r.own.cellAt j Y;rw[aY,af y]at t;simp only[aZ]at t;have F:c.getD (G c-g) 0=c[j]:=by rw[E,ax,af y];rfl
    rw[F]at x;have V:=M.o a Y (by rw[<-s];exact cq y);generalize T:c[j]=q at *;have a4:IntKind.i64.wrap ((G c:Int)-(g:Int))=(j:Int):=by rw[aU];omega
    have a2:(0:Int)<=(j:Int):=Y;have a3:(j:Int)<(G c:Int):=Y;have P:=H J;clear T v s F E J;go_wp2_with fail;go_region_with (go_at_call 108;apply(vR (r.drewN 1) _ q (by first|rfl|omega) V).m;rintro m w3 ⟨rfl,al,r3,k3⟩);all_goals have Q:L1 (((G f+(a+1)<=d/\(nl d q (c,0)).1=iP g (a+1) f/\(nl d q (c,0)).2=0)\/(d<G f+(a+1)/\(nl d q (c,0)).2=6))):=(by
     have h1:=P.o;by_cases D:G c+1<=d;·rw[Aj D,x.o];exact P3 ⟨Y,rfl,rfl⟩
     ·rw[Bt D];exact P4 ⟨Y,rfl⟩)
    all_goals go_wp2
    all_goals go_roundw
    all_goals first|exact⟨a+1,_,al,_,by go_num,Y,r3,Q,(A.drewN 1).t k3⟩|(simp[intOf];omega)
   ·have a1:((6:Int)==0)=P2:=cO;go_wp2
    go_end0
    exact⟨rfl,n,c,6,r,P4 ⟨Y,rfl⟩,A⟩
  ·obtain rfl:a=i:=Y;have R:¬(a:Int)<a:=Y;go_wp2
   go_end0
   exact⟨rfl,n,c,k,r,v,A⟩
def tR(S:ByteArray)(c a e i h g:Nat):Prop:=
 (e≠0/\i=0/\h=a/\g=e)\/(e=0/\a+c<=8*S.size/\i=gw ((gC S a).take c)/\h=a+c/\g=0)\/(e=0/\8*S.size<a+c/\i=0/\h=a/\g=5)
def rL(h:jx B b S d w p l f e)(a:Nat)(m:a<=16):K8 Qe 112 #[M2 (O ⟨b,0,N⟩),I U a] w λi g=>∃n s o,i=Ps (I U (n:Nat))/\jx B b S d g s l f o/\L1 (tR S a p e n s o)/\n<2^a/\gb 5 B [b] w g:=by
 have q:0<2^a:=Nat.pos_of_ne_zero eA;by_cases j:e=0
 ·subst j;by_cases c:p+a<=8*S.size
  ·apply(JM h a m c).m;rintro i g ⟨rfl,r,k⟩;refine⟨_,_,0,rfl,r,P4 (P3 ⟨rfl,c,rfl,rfl,rfl⟩),?_,k⟩;have:=jk ((gC S p).take a);rw[ay,nX,b_ Y]at this;exact this
  ·apply(JN h a m Y).m;rintro i g ⟨rfl,r,k⟩;exact⟨0,_,5,rfl,r,P4 (P4 ⟨rfl,Y,rfl,rfl,rfl⟩),q,k⟩
 ·apply(NP h j a m).m;rintro i g ⟨rfl,r,k⟩;exact⟨0,_,e,rfl,r,P3 ⟨j,rfl,rfl,rfl⟩,q,k⟩
def NS(h:jx B b S d w p l f e)(k:e≠0){a:Nat} :
  K8 Qe 272 #[M2 (O ⟨b,0,N⟩),M2 (O ⟨a,0,N⟩)] w λg c=>g=Ps (I U (0:Nat))/\c=w:=by
 have j:=h.c4;have m:((e:Int)==0)=P2:=eB
 go_in
 go_wp2;go_loopw [5] (λi wr=>wr=w) (λ_ _=>0)
 case atStart=>rfl
 case round=>subst hrel;go_wp2;go_ret;exact⟨rfl,rfl⟩
structure jU(w:Gr)(bt:Nat)(cs ss:List Nat)(M:Nat):Prop where
 ex:∃T m,nS w bt T/\kZ T m/\m_ T M/\∀v,iE T 0 v=gN cs ss v
def jU.kept{j:Gr}{c a:Nat}{g i:List Nat}(h:jU w c g i a)(k:gb 5 B [b] w j)(r:jx B b S d w p l f e):jU j c g i a:=by obtain⟨m,n,h1,h2⟩:=h.ex;exact⟨m,n,h1.kept k r.isIn,h2⟩
def SA(h j:List Nat)(S:ByteArray)(c e k g a:Nat):Prop:=
 (e≠0/\k=0/\g=c/\a=e)\/(e=0/\∃i,gN h j (gC S c)=O (k,i)/\a=0/\gC S g=i/\g<=8*S.size)\/(e=0/\gN h j (gC S c)=N/\a=5)
def EF(h:jx B b S d w p l f e)(D:e=0->p<=8*S.size){t q:Nat}{j n:List Nat}(C:jU w t j n q)(A:q<=1000):K8 Qe 272 #[M2 (O ⟨b,0,N⟩),M2 (O ⟨t,0,N⟩)] w λg o=>∃i x u,g=Ps (I U (i:Nat))/\jx B b S d o x l f u/\L1 (SA j n S p e i x u)/\(i<=q\/L1 (∃m,gN j n (gC S p)=O (i,m)))/\gb 5 B [b] w o:=by
 by_cases s:e=0
 ·subst s;obtain⟨J,K,h1,h2,h3,v⟩:=C.ex;apply(Gm h (D rfl) h1 h2 h3 A).m;rintro g o ⟨i,E,e,rfl,r,a,k⟩;refine⟨i,E,e,rfl,r,?_,?_,k⟩
  ·rw[v]at a;cases c:gN j n (gC S p)with
   |none=>rw[c]at a;exact P4 (P4 ⟨rfl,c,a.1⟩)
   |some g=>obtain⟨F,m⟩:=g;rw[c]at a;obtain⟨rfl,rfl,y,z⟩:=a;exact P4 (P3 ⟨rfl,m,c,rfl,y,z⟩)
  ·rw[v]at a;cases c:gN j n (gC S p)with
   |none=>rw[c]at a;exact P3 a.2
   |some g=>obtain⟨F,m⟩:=g;rw[c]at a;obtain⟨rfl,_⟩:=a;exact P4 ⟨m,rfl⟩
 ·apply(NS h s).m;rintro g o ⟨rfl,rfl⟩;exact⟨0,p,e,rfl,h,P3 ⟨s,rfl,rfl,rfl⟩,P3 (aH _),gb.refl _ _ _ _⟩
def CA(d h c j:Nat)(a:List Nat)(e:Nat)(i:List Nat)(g:Nat):Prop:=
 (e≠0/\i=a/\g=e)\/(e=0/\(G a<c\/j<c)/\g=5)\/(e=0/\c<=G a/\c<=j/\((G a+h<=d/\i=iP c h a/\g=0)\/(d<G a+h/\g=6)))
def D8(h:jx B b S d w p l f e)(i a g:Nat)(s:i<=100000)(z:1<=a)(v:a<=1000000)(t:g<=32768)(x:∀j∈f,j<256):K8 Qe 274 #[M2 (O ⟨b,0,N⟩),I U i,I U a,I U g] w λj m=>j=Ps (OW #[])/\∃u o n,jx B b S d m p u o n/\L1 (CA d i a g f e o n)/\gb 5 B [b] w m:=by
 by_cases q:e=0
 ·subst q;by_cases c:G f<a\/g<a
  ·apply(Lh h i a g s v t c).m;rintro j m ⟨rfl,r,k⟩;exact⟨rfl,_,_,_,r,P4 (P3 ⟨rfl,c,rfl⟩),k⟩
  ·apply(Ll h i a g s z Y Y t x).m;rintro j m ⟨rfl,u,o,n,r,y,k⟩;exact⟨rfl,u,o,n,r,P4 (P4 ⟨rfl,Y,Y,y⟩),k⟩
 ·apply(Lj h q i a g s v t).m;rintro j m ⟨rfl,r,k⟩;exact⟨rfl,_,_,_,r,P3 ⟨q,rfl,rfl⟩,k⟩
end
section
variable{B b:Nat}{S:ByteArray}{f:Nat}{w:Gr}{p:Nat}{i:GI}{g:List Nat}{e:Nat}
section
variable{c:iA}{a:Nat}{r d:List Bool}{o e:List Nat}{b:Except Nat (List Bool×List Nat)}
def zZ{k:Nat}(h:gR c a f r o b)(j:gY c a f r o=.error k):b=.error k:=by
 rcases h.parted with⟨n,h1,h2⟩|⟨m,l,h1,h2⟩|⟨m,l,h1,h2⟩;·rw[j]at h1;cases h1;exact h2
 ·rw[j]at h1;cases h1
 ·rw[j]at h1;cases h1
def F5(h:gR c a f r o b)(j:gY c a f r o=.ok (P2,d,e)):b=.ok (d,e):=by
 rcases h.parted with⟨m,h1,h2⟩|⟨l,k,h1,h2⟩|⟨l,k,h1,h2⟩;·rw[j]at h1;cases h1
 ·rw[j]at h1;cases h1;exact h2
 ·rw[j]at h1;cases h1
def pm(h:gR c a f r o b)(j:gY c a f r o=.ok (PV,d,e)):gR c a f d e b:=by
 rcases h.parted with⟨m,h1,h2⟩|⟨l,k,h1,h2⟩|⟨l,k,h1,h2⟩;·rw[j]at h1;cases h1
 ·rw[j]at h1;cases h1
 ·rw[j]at h1;cases h1;exact h2
def Nw(h:gN c.cs c.ss r=N):gY c a f r o=.error 5:=by unfold gY;rw[h]
def part_lit{j:Nat}(h:gN c.cs c.ss r=O (j,d))(k:j<256):gY c a f r o=if (G o)+1<=f then .ok (PV,d,o++[j])else .error 6:=by unfold gY;rw[h];simp only[ai k]
def NC(h:gN c.cs c.ss r=O (256,d)):gY c a f r o=.ok (P2,d,o):=by unfold gY;rw[h];simp
def Np{j:Nat}(h:gN c.cs c.ss r=O (j,d))(k:285<j):gY c a f r o=.error 5:=by unfold gY;rw[h];simp only[];rw[ah Y,ah Y,ai k]
end
def EO{c:iA}{v:Nat}{k P:List Nat}{j A n:Nat}(hs:gN c.cs c.ss (gC S A)=O (j,gC S n))(h1:257<=j)(h2:j<=285)(a0:n<=8*S.size)
  {s Q e2 d u z o l C e4 t:Nat} (b1:tR S (gu j).2 n 0 s Q e2) (s2:SA c.cd c.sd S Q e2 d u z) (m:o=if 29<d then nE 5 z else z) (E:tR S (l8 2 d) u o l C e4) (x:CA f ((gu j).1+s) (l9 2 1 d+l) v k e4 P t):(t=0->gY c v f (gC S A) k=.ok (PV,gC S C,P)/\C<=8*S.size/\P=iP (l9 2 1 d+l) ((gu j).1+s) k/\l9 2 1 d+l<=G k)/\(t≠0->gY c v f (gC S A) k=.error t):=by
 have a:gY c v f (gC S A) k=match iL (gu j).2 (gC S n)with
   |none=>.error 5
   |some (s,r)=>match gN c.cd c.sd r with
    |none=>.error 5
    |some (d,r)=>if 29<d then .error 5 else match iL (gq d).2 r with
     |none=>.error 5
     |some (l,r)=>
      if(gq d).1+l<=G k/\(gq d).1+l<=v then
       if (G k)+((gu j).1+s)<=f then .ok (PV,r,iP ((gq d).1+l) ((gu j).1+s) k)else .error 6
      else .error 5:=by
  unfold gY;rw[hs];simp only[];rw[ah Y,ah Y,ah Y];rfl
 have R:o≠0->t=o:=λhn=>by
  rcases E with⟨_,_,_,h⟩|⟨h,_⟩|⟨h,_⟩;·rcases x with⟨_,_,q⟩|⟨q,_⟩|⟨q,_⟩<;>omega
  ·exact absurd h hn
  ·exact absurd h hn
 have aa:∀D,D=0\/D=5->nE 5 D=5:=λD hz=>by unfold nE;split<;>omega
 rcases b1 with⟨h,_⟩|⟨_,ad,rfl,rfl,rfl⟩|⟨_,ad,rfl,rfl,rfl⟩;·exact absurd rfl h
 ·have L:iL (gu j).2 (gC S n)=O (gw ((gC S n).take (gu j).2),gC S (n+(gu j).2)):=by unfold iL;rw[ai eC,sS]
  rw[L]at a;simp only[]at a;rcases s2 with⟨h,_⟩|⟨_,r',K,rfl,rfl,a1⟩|⟨_,K,rfl⟩;·exact absurd rfl h
  ·rw[K]at a;simp only[]at a;by_cases T:29<d
   ·rw[ai T]at m a;rw[rz]at m;have:=R Y;exact⟨λh=>Y,λ_=>by rw[a,this,m]⟩
   ·rw[ah T]at m a;subst m;obtain⟨V,y⟩:=MC ⟨d,Y⟩;simp only[]at V y;rw[V]at E;rw[y]at x;rcases E with⟨h,_⟩|⟨_,al,rfl,rfl,rfl⟩|⟨_,al,rfl,rfl,rfl⟩;·exact absurd rfl h
    ·have M:iL (gq d).2 (gC S u)=O (gw ((gC S u).take (gq d).2),gC S (u+(gq d).2)):=by unfold iL;rw[ai eC,sS]
     rw[M]at a;simp only[]at a;rcases x with⟨h,_⟩|⟨_,ao,rfl⟩|⟨_,F,W,⟨X,rfl,rfl⟩|⟨X,rfl⟩⟩;·exact absurd rfl h
     ·rw[ah Y]at a;exact⟨λh=>Y,λ_=>a⟩
     ·rw[ai ⟨F,W⟩,ai X]at a;exact⟨λ_=>⟨a,Y,by rw[y],by rw[y];exact F⟩,λh=>absurd rfl h⟩
     ·rw[ai ⟨F,W⟩,ah Y]at a;exact⟨λh=>Y,λ_=>a⟩
    ·have M:iL (gq d).2 (gC S C)=N:=by unfold iL;rw[ah eC]
     rw[M]at a;rcases x with⟨_,_,q⟩|⟨q,_⟩|⟨q,_⟩
     ·subst q;exact⟨λh=>Y,λ_=>a⟩
     ·omega
     ·omega
  ·rw[K]at a;simp only[]at a;have J:o=5:=by
    rw[m];split;·exact aa 5 (P4 rfl)
    ·rfl
   have:=R Y;exact⟨λh=>Y,λ_=>by rw[a,this,J]⟩
 ·have L:iL (gu j).2 (gC S Q)=N:=by unfold iL;rw[ah eC]
  rw[L]at a;simp only[]at a;have ac:z=5:=by rcases s2 with⟨_,_,_,h⟩|⟨h,_⟩|⟨h,_⟩<;>omega
  have J:o=5:=by
   rw[m,ac];split;·exact aa 5 (P4 rfl)
   ·rfl
  have:=R Y;exact⟨λh=>Y,λ_=>by rw[a,this,J]⟩
end
section
variable{B b:Nat}{S:ByteArray}{most:Nat}{w:Gr}{p:Nat}{f:GI}{a:List Nat}{e:Nat}
def pE(S:ByteArray)(i:Except Nat (List Bool×List Nat))(g:Nat)(d:List Nat)(e:Nat):Prop:=match i with
 | .ok (r,h)=>e=0/\d=h/\gC S g=r/\g<=8*S.size/\∀j∈d,j<256
 | .error c=>e=c/\c≠0
def DS(S:ByteArray)(c:iA)(i most:Nat)(h:Except Nat (List Bool×List Nat))(g:Nat)(d:List Nat)(e:Nat):Prop:=
 (e=0/\g<=8*S.size/\gR c i most (gC S g) d h/\∀j∈d,j<256)\/(e≠0/\h=.error e)
def Je:∀c:Fin 33,1<=l9 2 1 c.val/\l9 2 1 c.val<=200000:=by decide +kernel
def FA:gu 285=(258,0):=by decide +kernel
def J3(h:jx B b S most w p f a 0){c:iA}{s b1 b2 M:Nat}(hM:M<=1000)(hw:s<=32768)(hT:jU w b1 c.cs c.ss M)(hD:jU w b2 c.cd c.sd 32)(cl:∀r l r',gN c.cs c.ss r=O (l,r')->l<=1000)(ck:∀r l r',gN c.cd c.sd r=O (l,r')->l<=32)
  {bz:Except Nat (List Bool×List Nat)} (cn:DS S c s most bz p a 0):K8 Qe 209 #[M2 (O ⟨b,0,N⟩),M2 (O ⟨b1,0,N⟩),M2 (O ⟨b2,0,N⟩),I U s] w λn i=>n=Ps (OW #[])/\∃q a5 m e,jx B b S most i q a5 m e/\pE S bz q m e/\gb 5 B [b] w i:=by
 have b9:=H cl;have b0:=H ck
 go_in
 go_wp2;go_loopw [8] (λ_ wr=>∃(q:Nat) (a5:GI) (m:List Nat) (e:Nat),jx B b S most wr q a5 m e/\L1 (DS S c s most bz q m e)/\jU wr b1 c.cs c.ss M/\jU wr b2 c.cd c.sd 32/\gb 5 B [b] w wr) (λ_ wr=>if errOf b wr=0 then 8*S.size+1-posOf b wr else 0)
 case atStart=>exact⟨p,f,a,0,h,cn,hT,hD,gb.refl _ _ _ _⟩
 case round=>
  obtain⟨q,a5,m,e,r,cc,hT,hD,kk⟩:=hrel;have mr:=H r.posOf;have me:=H r.errOf;have c4:=r.c4;rcases cc.o with⟨rfl,hq,hP,cj⟩|⟨he,hR⟩
  ·have C:=H hP;have X:=H cj;have cb:=H (EF r (λ_=>hq) hT hM);have cf:L1 (∀i,gb 5 B [b] wr i->jU i b1 c.cs c.ss M/\jU i b2 c.cd c.sd 32):=λi k=>⟨hT.kept k r,hD.kept k r⟩;go_wp2_with fail;apply cb.o.m;rintro n w1 ⟨l,q1,e1,rfl,r1,ce,c5,k1⟩;have d4:=r1.c4;rcases ce.o with⟨h0,_⟩|⟨_,r',bd,rfl,bc,a4⟩|⟨_,bd,rfl⟩;·exact absurd rfl h0
   ·subst bc;have cy:=b9.o _ _ _ bd;have c0:q<q1:=by have:=lU bd;rw[nX,nX]at this;omega
    have HS:=H bd;have R1:=H r1;have K1:=H (kk.t k1);have bm:=H (λi k=>cf i (k1.t k));by_cases c1:l<256
    ·have cg:(l:Int)<256:=Y;have ch:((l:Int)==256)=P2:=eB;have bi:=H (Dq R1 l c1);by_cases cr:G m+1<=most
     ·rw[Aj cr]at bi;have aa:=H (pm C ((part_lit HS c1).t (ai cr)));go_wp2_with fail;apply bi.o.m;rintro n w2 ⟨rfl,cu,r2,k2⟩;have m2:=H r2.errOf;have m3:=H r2.posOf;go_wp2;go_roundw
      case rel=>
       obtain⟨t1,V⟩:=bm.o w2 k2;exact⟨_,_,_,0,r2,P3 ⟨rfl,a4,aa,λcv hy=>by
        rcases bG.1 hy with hy|hy;·exact X cv hy
        ·simp at hy;omega⟩,t1,V,K1.t k2⟩
      case measure=>rw[mr.o,me.o,m2.o,m3.o];simp;omega
     ·rw[Bt cr]at bi;have aa:=H (zZ C ((part_lit HS c1).t (ah cr)));go_wp2_with fail;apply bi.o.m;rintro n w2 ⟨rfl,cu,r2,k2⟩;have m2:=H r2.errOf;go_wp2;go_roundw
      case rel=>obtain⟨t1,V⟩:=bm.o w2 k2;exact⟨_,_,_,6,r2,P4 ⟨Y,aa⟩,t1,V,K1.t k2⟩
      case measure=>rw[mr.o,me.o,m2.o];simp;omega
    ·by_cases c2:l=256
     ·subst c2;have aa:=H (F5 C (NC HS));go_wp2;refine av (v:=OW #[]) CD rfl ?_;exact⟨rfl,q1,a5,m,0,R1,by rw[aa.o];exact⟨rfl,rfl,rfl,a4,X⟩,K1⟩
     ·have cg:¬(l:Int)<256:=Y;have ch:((l:Int)==256)=P2:=eB;by_cases c3:285<l
      ·have ci:(285:Int)<l:=Y;have aa:=H (zZ C (Np HS c3));go_wp2_with fail;apply(ro R1 5 Y).m;rintro n w2 ⟨rfl,r2,k2⟩;rw[rz]at r2;go_wp2;refine av (v:=OW #[]) CD rfl ?_;exact⟨rfl,_,_,_,_,r2,by rw[aa.o];exact⟨rfl,Y⟩,K1.t k2⟩
      ·have ci:¬(285:Int)<l:=Y;have es:(l:Int)-257=((l-257:Nat):Int):=Y;have b5:=yE ⟨l,Y⟩ (by show 257<=l;omega);simp only[]at b5;have bf:=H (MF (l-257) Y);by_cases b4:l=285
       ·subst b4;rw[show 285-257=28 from rfl]at bf;rw[FA]at b5;have a9:(gu 285).2=0:=by rw[FA]
        have ba:(gu 285).1=258:=by rw[FA]
        go_wp2_with fail;apply(bf _).m;rintro n w2 ⟨rfl,ac,rfl⟩;have R2:=H (R1.drewN ac);have K2:=H (K1.drewN ac);have a6:=H (λi k=>bm i (((gb.refl _ _ _ _).drewN ac).t k));generalize w1.drewN ac=w2 at *;go_wp2_with fail;apply(rL (R2) 0 Y).m;rintro n w3 ⟨W,q3,e3,rfl,r3,B3,cp,k3⟩;have ct:W<32:=by have:2^0<=2^5:=aJ Y Y;omega
        have br:=(a6 w3 k3).2;have bo:=H (EF r3 (λh0=>by
         rcases B3.o with⟨h,_⟩|⟨_,h2,_,rfl,_⟩|⟨_,_,_,_,h5⟩;·exact absurd rfl h
         ·exact h2
         ·omega) br Y)
        go_wp2_with fail;apply bo.o.m;rintro n w4 ⟨g,q4,e4,rfl,r4,S4,bt,k4⟩;have co:g<=32:=by
         rcases bt with h|h;·exact h
         ·obtain⟨r',bc⟩:=h.o;exact b0 _ _ _ bc
        have K4:=H (((K2.t k3)).t k4);have a7:=H (λi k=>a6 i ((k3.t k4).t k));have bb:l8 2 g<=15:=by unfold l8;split<;>omega
        have bs:=Je ⟨g,Y⟩;simp only[]at bs;by_cases a8:29<g
        ·have bq:(29:Int)<g:=Y;go_wp2_with fail;apply(ro r4 5 Y).m;rintro n w5 ⟨rfl,r5,k5⟩;have E3:nE 5 e4=if 29<g then nE 5 e4 else e4:=by rw[ai a8]
         have K5:=H (K4.t k5);have ao:=H (λi k=>a7 i (k5.t k));have al:=H (mo g Y);generalize a1:l8 2 g=D at *;generalize a2:l9 2 1 g=u at *;go_wp2_with fail;apply(al _).m;rintro n w6 ⟨rfl,z,rfl⟩;go_wp2_with fail;apply(rL (r5.drewN z) D Y).m;rintro n w7 ⟨o,T,e7,rfl,r7,B7,bv,P⟩;have bw:o<32768:=by have:2^D<=2^15:=aJ Y bb;omega
         have K7:=H ((K5.drewN z).t P);have a0:=H (λi k=>ao i (((gb.refl _ _ _ _).drewN z).t (P.t k)));have ad:=H (D8 r7 (258+W) (u+o) s Y Y Y hw X);go_wp2_with fail;apply ad.o.m;rintro n w8 ⟨rfl,bx,R,j,A,C8,Q⟩;have t:L1 ((j=0->gY c s most (gC S q) m=.ok (PV,gC S T,R)/\T<=8*S.size/\R=iP (u+o) (258+W) m/\u+o<=G m)/\(j≠0->gY c s most (gC S q) m=.error j)):=by have E:=B3.o;have F:=B7.o;have x:=C8.o;rw[<-a1]at F;rw[<-a2]at x ⊢;rw[<-ba]at x ⊢;rw[<-a9]at E;exact EO HS Y Y a4 E S4 E3 F x
         have m8:=H A.errOf;have m9:=H A.posOf;go_wp2;go_roundw
         case rel=>
          obtain⟨t1,V⟩:=a0.o w8 Q;refine⟨_,_,_,j,A,?_,t1,V,K7.t Q⟩;by_cases d:j=0
          ·obtain⟨y,J,K,L⟩:=t.o.1 d;exact P3 ⟨d,J,pm C y,by rw[K];exact yx _ Y L X _⟩
          ·exact P4 ⟨d,zZ C (t.2 d)⟩
         case measure=>
          rw[mr.o,me.o,m8.o,m9.o];by_cases d:j=0
          ·obtain⟨y,J,K,L⟩:=t.o.1 d;have a3:=j4 y;rw[nX,nX]at a3;simp only[if_true,ai d];omega
          ·simp only[if_true,ah d];omega
        ·have bq:¬(29:Int)<g:=Y;have r5:=r4;have E3:e4=if 29<g then nE 5 e4 else e4:=by rw[ah a8]
         have K5:=K4;have ao:=a7;have al:=H (mo g Y);generalize a1:l8 2 g=D at *;generalize a2:l9 2 1 g=u at *;go_wp2_with fail;apply(al _).m;rintro n w6 ⟨rfl,z,rfl⟩;go_wp2_with fail;apply(rL (r5.drewN z) D Y).m;rintro n w7 ⟨o,T,e7,rfl,r7,B7,bv,P⟩;have bw:o<32768:=by have:2^D<=2^15:=aJ Y bb;omega
         have K7:=H ((K5.drewN z).t P);have a0:=H (λi k=>ao i (((gb.refl _ _ _ _).drewN z).t (P.t k)));have ad:=H (D8 r7 (258+W) (u+o) s Y Y Y hw X);go_wp2_with fail;apply ad.o.m;rintro n w8 ⟨rfl,bx,R,j,A,C8,Q⟩;have t:L1 ((j=0->gY c s most (gC S q) m=.ok (PV,gC S T,R)/\T<=8*S.size/\R=iP (u+o) (258+W) m/\u+o<=G m)/\(j≠0->gY c s most (gC S q) m=.error j)):=by have E:=B3.o;have F:=B7.o;have x:=C8.o;rw[<-a1]at F;rw[<-a2]at x ⊢;rw[<-ba]at x ⊢;rw[<-a9]at E;exact EO HS Y Y a4 E S4 E3 F x
         have m8:=H A.errOf;have m9:=H A.posOf;go_wp2;go_roundw
         case rel=>
          obtain⟨t1,V⟩:=a0.o w8 Q;refine⟨_,_,_,j,A,?_,t1,V,K7.t Q⟩;by_cases d:j=0
          ·obtain⟨y,J,K,L⟩:=t.o.1 d;exact P3 ⟨d,J,pm C y,by rw[K];exact yx _ Y L X _⟩
          ·exact P4 ⟨d,zZ C (t.2 d)⟩
         case measure=>
          rw[mr.o,me.o,m8.o,m9.o];by_cases d:j=0
          ·obtain⟨y,J,K,L⟩:=t.o.1 d;have a3:=j4 y;rw[nX,nX]at a3;simp only[if_true,ai d];omega
          ·simp only[if_true,ah d];omega
       ·obtain⟨b6,b8⟩:=MD ⟨l,Y⟩ (by show 257<=l;omega) b4;simp only[]at b6 b8;rw[b6,b8]at bf;have cw:((l:Int)==285)=P2:=eB;generalize a9:(gu l).2=LN at *;generalize ba:(gu l).1=LV at *;go_wp2_with fail;apply(bf _).m;rintro n w2 ⟨rfl,ac,rfl⟩;have R2:=H (R1.drewN ac);have K2:=H (K1.drewN ac);have a6:=H (λi k=>bm i (((gb.refl _ _ _ _).drewN ac).t k));generalize w1.drewN ac=w2 at *;go_wp2_with fail;apply(rL (R2) LN Y).m;rintro n w3 ⟨W,q3,e3,rfl,r3,B3,cp,k3⟩;have ct:W<32:=by have:2^LN<=2^5:=aJ Y Y;omega
        have br:=(a6 w3 k3).2;have bo:=H (EF r3 (λh0=>by
         rcases B3.o with⟨h,_⟩|⟨_,h2,_,rfl,_⟩|⟨_,_,_,_,h5⟩;·exact absurd rfl h
         ·exact h2
         ·omega) br Y)
        go_wp2_with fail;apply bo.o.m;rintro n w4 ⟨g,q4,e4,rfl,r4,S4,bt,k4⟩;have co:g<=32:=by
         rcases bt with h|h;·exact h
         ·obtain⟨r',bc⟩:=h.o;exact b0 _ _ _ bc
        have K4:=H (((K2.t k3)).t k4);have a7:=H (λi k=>a6 i ((k3.t k4).t k));have bb:l8 2 g<=15:=by unfold l8;split<;>omega
        have bs:=Je ⟨g,Y⟩;simp only[]at bs;by_cases a8:29<g
        ·have bq:(29:Int)<g:=Y;go_wp2_with fail;apply(ro r4 5 Y).m;rintro n w5 ⟨rfl,r5,k5⟩;have E3:nE 5 e4=if 29<g then nE 5 e4 else e4:=by rw[ai a8]
         have K5:=H (K4.t k5);have ao:=H (λi k=>a7 i (k5.t k));have al:=H (mo g Y);generalize a1:l8 2 g=D at *;generalize a2:l9 2 1 g=u at *;go_wp2_with fail;apply(al _).m;rintro n w6 ⟨rfl,z,rfl⟩;go_wp2_with fail;apply(rL (r5.drewN z) D Y).m;rintro n w7 ⟨o,T,e7,rfl,r7,B7,bv,P⟩;have bw:o<32768:=by have:2^D<=2^15:=aJ Y bb;omega
         have K7:=H ((K5.drewN z).t P);have a0:=H (λi k=>ao i (((gb.refl _ _ _ _).drewN z).t (P.t k)));have ad:=H (D8 r7 (LV+W) (u+o) s Y Y Y hw X);go_wp2_with fail;apply ad.o.m;rintro n w8 ⟨rfl,bx,R,j,A,C8,Q⟩;have t:L1 ((j=0->gY c s most (gC S q) m=.ok (PV,gC S T,R)/\T<=8*S.size/\R=iP (u+o) (LV+W) m/\u+o<=G m)/\(j≠0->gY c s most (gC S q) m=.error j)):=by have E:=B3.o;have F:=B7.o;have x:=C8.o;rw[<-a1]at F;rw[<-a2]at x ⊢;rw[<-ba]at x ⊢;rw[<-a9]at E;exact EO HS Y Y a4 E S4 E3 F x
         have m8:=H A.errOf;have m9:=H A.posOf;go_wp2;go_roundw
         case rel=>
          obtain⟨t1,V⟩:=a0.o w8 Q;refine⟨_,_,_,j,A,?_,t1,V,K7.t Q⟩;by_cases d:j=0
          ·obtain⟨y,J,K,L⟩:=t.o.1 d;exact P3 ⟨d,J,pm C y,by rw[K];exact yx _ Y L X _⟩
          ·exact P4 ⟨d,zZ C (t.2 d)⟩
         case measure=>
          rw[mr.o,me.o,m8.o,m9.o];by_cases d:j=0
          ·obtain⟨y,J,K,L⟩:=t.o.1 d;have a3:=j4 y;rw[nX,nX]at a3;simp only[if_true,ai d];omega
          ·simp only[if_true,ah d];omega
        ·have bq:¬(29:Int)<g:=Y;have r5:=r4;have E3:e4=if 29<g then nE 5 e4 else e4:=by rw[ah a8]
         have K5:=K4;have ao:=a7;have al:=H (mo g Y);generalize a1:l8 2 g=D at *;generalize a2:l9 2 1 g=u at *;go_wp2_with fail;apply(al _).m;rintro n w6 ⟨rfl,z,rfl⟩;go_wp2_with fail;apply(rL (r5.drewN z) D Y).m;rintro n w7 ⟨o,T,e7,rfl,r7,B7,bv,P⟩;have bw:o<32768:=by have:2^D<=2^15:=aJ Y bb;omega
         have K7:=H ((K5.drewN z).t P);have a0:=H (λi k=>ao i (((gb.refl _ _ _ _).drewN z).t (P.t k)));have ad:=H (D8 r7 (LV+W) (u+o) s Y Y Y hw X);go_wp2_with fail;apply ad.o.m;rintro n w8 ⟨rfl,bx,R,j,A,C8,Q⟩;have t:L1 ((j=0->gY c s most (gC S q) m=.ok (PV,gC S T,R)/\T<=8*S.size/\R=iP (u+o) (LV+W) m/\u+o<=G m)/\(j≠0->gY c s most (gC S q) m=.error j)):=by have E:=B3.o;have F:=B7.o;have x:=C8.o;rw[<-a1]at F;rw[<-a2]at x ⊢;rw[<-ba]at x ⊢;rw[<-a9]at E;exact EO HS Y Y a4 E S4 E3 F x
         have m8:=H A.errOf;have m9:=H A.posOf;go_wp2;go_roundw
         case rel=>
          obtain⟨t1,V⟩:=a0.o w8 Q;refine⟨_,_,_,j,A,?_,t1,V,K7.t Q⟩;by_cases d:j=0
          ·obtain⟨y,J,K,L⟩:=t.o.1 d;exact P3 ⟨d,J,pm C y,by rw[K];exact yx _ Y L X _⟩
          ·exact P4 ⟨d,zZ C (t.2 d)⟩
         case measure=>
          rw[mr.o,me.o,m8.o,m9.o];by_cases d:j=0
          ·obtain⟨y,J,K,L⟩:=t.o.1 d;have a3:=j4 y;rw[nX,nX]at a3;simp only[if_true,ai d];omega
          ·simp only[if_true,ah d];omega
   ·have aa:=H (zZ C (Nw bd));go_wp2;refine av (v:=OW #[]) CD rfl ?_;exact⟨rfl,_,_,_,_,r1,by rw[aa.o];exact⟨rfl,Y⟩,kk.t k1⟩
  ·have cx:((e:Int)==0)=P2:=eB;have ca:=H hR;go_wp2
   go_end0
   exact⟨rfl,q,a5,m,e,r,by rw[ca.o];exact⟨rfl,he⟩,kk⟩
def jx.keptI{g:Gr}{i:Nat}(h:jx B b S most w p f a e)(k:gb 3 i [] w g):jx B b S most g p f a e:=by
 refine⟨h.hb,k.block b _ eA h.blk (P4 wg),?_,h.lm,h.ls,h.lp,h.lo,h.le⟩;obtain⟨h1,h2⟩:=h.own;refine⟨h1,?_⟩;rcases h2 with h2|⟨d,c,j,e1,e2,n,m⟩;·exact P3 h2
 ·exact P4 ⟨d,c,j,e1,e2,k.block d _ eA n (P4 wg),m⟩
def jU.keptI{m:Gr}{n d g:Nat}{i l:List Nat}(h:jU w d i l g)(k:gb 3 n [] w m):jU m d i l g:=by obtain⟨o,x,⟨j,c,r,s,u,h1,h2,h3⟩,v⟩:=h.ex;exact⟨o,x,⟨j,c,r,s,u,k.block d _ eA h1 (P4 (by intro q t e;simp at e)),k.block j _ eA h2 (P4 (by intro q t e;simp at e)),h3⟩,v⟩
def jU.below{i:Gr}{d M:Nat}{cs g:List Nat}(h:jU w d cs g M)(k:LT w.heap.size w i):jU i d cs g M:=by obtain⟨j,r,⟨o,c,l,m,n,h1,h2,h3⟩,q⟩:=h.ex;exact⟨j,r,⟨o,c,l,m,n,by rw[k.block _ (ae h1)];exact h1,by rw[k.block _ (ae h2)];exact h2,h3⟩,q⟩
def Bm{w:Gr}{h:Int}:∀d g,([I U h]:List GI)[d]?=O g->(w.alloc (Pp #[I U h] 3)).cell? ((⟨w.heap.size,0,N⟩:L2).add d)=O g:=by
 intro d g c;match d,c with
 |0,c=>exact(World.cell?_alloc_new _ _ _ _).t c
 |d+1,c=>simp at c
def ED(t:GI)(d:List Nat)(u:w.ownsRow B 3 1 t (G d) (gL d))(W:B<=w.heap.size)(g h:Nat)(hn:g<=1000)(X:G d<=10000):K8 Qe 207 #[t,I U g,I U h] w λQ x=>∃v,Q=Ps v/\x.ownsRow B 3 1 v (G d+g) (gL (d++Qf g h))/\gb 3 B [] w x:=by
 obtain⟨M,E,J,K,L⟩:=bu infoInt
 go_in
 go_wp2;go_loopw [0,7] (λP m wr=>∃c:Nat,c<=g/\m=I U c/\wr.ownsRow B 3 1 P (G d+c) (gL (d++Qf c h))/\gb 3 B [] w wr) (λ_ m _=>g-(intOf m).toNat)
 case atStart=>exact⟨0,aH _,rfl,by simpa using u,gb.refl _ _ _ _⟩
 clear u
 case round=>
  obtain⟨c,hj,rfl,l,k⟩:=hrel;have aa:=k.size;obtain⟨A,C,rfl⟩:=jp l;have j:=H l;have n:=H k;clear l k;by_cases V:c<g
  ·have D:(c:Int)<g:=Y;go_wp2_with (at_builtin;refine a_ _ rfl (.tmp 13) (.tmp 15) 52 rfl B 3 M (I U 0) 1 8 cG E J K L rfl cO (Z A (G d+c) C) (G d+c) _ rfl (j.alloc _) ⟨wr.heap.size,0,N⟩ 1 1 [I U h] rfl rfl ?hnews ?hone ?h63 ?hby ?hbs ?_)
   case hnews=>exact Bm
   case hone=>intro ac s;simp at s;subst s;rfl
   case h63=>unfold maxLen;omega
   case hby=>omega
   case hbs=>simp;omega
   intro v2 w2 i r _;have y:=H ((n.alloc _).grown r (tN (j.alloc _)));have q:gL (d++Qf c h)++[I U h]=gL (d++Qf (c+1) h):=by rw[List.replicate_succ',<-bZ];simp[gL]
   rw[q]at i;have z:=H i;obtain⟨R,T,F⟩:=jp i;subst F;clear i r q;go_wp2;go_roundw
   case rel=>exact⟨c+1,Y,by go_num,z,y⟩
   case measure=>simp[intOf];omega
  ·obtain rfl:c=g:=Y;have D:¬(c:Int)<c:=Y;go_wp2;go_ret;exact⟨_,rfl,j,n⟩
def DF(m:Nat->Nat)(i:List Nat)(l:Nat)(o:∀j∈i,j<=l):∀(k len d place:Nat) (r:List Bool) (g:Nat) (n:List Bool),jF m i k len d place r=O (g,n)->g<=l
 |0,_,_,_,_,_,_,h=>by simp[jF]at h
 |k+1,_,_,_,[],_,_,h=>by simp[jF]at h
 |k+1,len,d,place,j::r,g,n,h=>by
  simp only[jF]at h;by_cases c:2*d+j.toNat<m len
  ·rw[ai c]at h;simp only[Option.some.injEq,Prod.mk.injEq]at h;rw[<-h.1,ax];by_cases q:place+(2*d+j.toNat)<G i;·rw[af q];exact o _ (cq q)
   ·rw[List.getElem?_eq_none Y];exact aH _
  ·rw[ah c]at h;exact DF m i l o k _ _ _ r g n h
def GQ{i d:List Nat}{K:Nat}(j:∀k∈d,k<=K)(r:List Bool)(c:Nat)(g:List Bool)(h:gN i d r=O (c,g)):c<=K:=by rw[sU]at h;exact DF _ d K j _ _ _ _ r c g h
def fk:jG (λk=>jE.count k) 15=32768/\jG (λk=>jD.count k) 15=32768:=by decide +kernel
def IX:(∀c∈lZ,c<=288)/\(∀c∈mR,c<=32):=by decide +kernel
def IP:([]++Qf 144 8++Qf 112 9++Qf 24 7++Qf 8 8=jE)/\[]++Qf 32 5=jD:=⟨rfl,rfl⟩
def IR:(∀c,c<288->nth jE c<16)/\∀c,c<32->nth jD c<16:=by
 have h1:∀c:Fin 288,nth jE c.val<16:=by decide +kernel
 have h2:∀c:Fin 32,nth jD c.val<16:=by decide +kernel
 exact⟨λc d=>h1 ⟨c,d⟩,λc d=>h2 ⟨c,d⟩⟩
def pA.ok{c:List Nat}{d:List (Int×Int)}{i g:Nat}(h:pA c d i)(j:nS w g d)(l:jG (λk=>c.count k) 15<=32768):jU w g (cz c) (gz c) (G c):=by
 rcases h with⟨_,_,h1,h2,h3⟩|⟨_,h⟩;·exact⟨d,16,j,h1,h2,h3⟩
 ·omega
def Dk(h:GI)(c g:List Nat)(q:w.ownsRow B 3 1 h (G c) (gL c))(l:B<=w.heap.size)(d i:Nat)(n:c++Qf d i=g)(o:d<=1000)(m:G c<=10000):K8 Qe 207 #[h,I U d,I U i] w λr k=>∃j,r=Ps j/\k.ownsRow B 3 1 j (G g) (gL g)/\gb 3 B [] w k:=by
 subst n;rw[ak,bI];exact ED h c q l d i o m
def Es{k:Nat}{j:GI}{L:List Nat}{i:Nat}(h:w.ownsRow k 3 1 j i (gL L))(r:i=G L)(l:0<G L):∃d c,j=Z (O ⟨d,0,N⟩) (G L) c/\d<w.heap.size/\(∀g,g<G L->w.cell? ⟨d,0+g,N⟩=O (I U (nth L g:Nat)))/\G L<=c/\c<=9223372036854775807:=by
 subst r;obtain⟨d,c,rfl,v⟩:=uH h l;rcases h.2 with⟨e1,_⟩|⟨u,s,t,e1,_,n,m,q,_⟩;·cases e1
 cases e1;refine⟨d,c,rfl,ae n,λg o=>?_,m,by unfold maxLen at q;omega⟩;rw[bH,h.cellAt g Y];simp[gL,nth,o]
def N3(l m n d g:List Nat)(bx:G d=288)(aa:G g=32)(cb:G l<=1000)(cc:G m<=1000)(cd:G n<=1000)(bb:L1 ([]++Qf 144 8=l))(bc:L1 (l++Qf 112 9=m))(bd:L1 (m++Qf 24 7=n))(a1:L1 (n++Qf 8 8=d))(a2:L1 ([]++Qf 32 5=g))(bz:∀i,i<G d->nth d i<16)(b0:∀i,i<G g->nth g i<16)
  (bv:jG (λk=>d.count k) 15<=32768) (bw:jG (λk=>g.count k) 15<=32768) (bf:∀r q C,gN (cz d) (gz d) r=O (q,C)->q<=1000) (bo:∀r q C,gN (cz g) (gz g) r=O (q,C)->q<=32)
  (h:jx B b S most w p f a 0) {D:Nat} (hw:D<=32768) {ac:Except Nat (List Bool×List Nat)} (b1:DS S ⟨cz d,gz d,cz g,gz g⟩ D most ac p a 0):K8 Qe 152 #[M2 (O ⟨b,0,N⟩),I U D] w λj w'=>j=Ps (OW #[])/\∃t b4 A e,jx B b S most w' t b4 A e/\pE S ac t A e/\gb 5 B [b] w w':=by
 have N2:=H aa;have n1:G d<=320/\0<G d:=Y;have n2:G g<=320/\0<G g:=Y;clear bx aa;have ad:=H bf;have al:=H bo;have a5:=H b1;have ao:=H bv;have a0:=H bw;have a3:=H bz;have a4:=H b0
 go_in
 go_wp2_with fail;apply(Dk (B:=w.heap.size) (Z N 0 0) [] l (aX _ _ _ _) (ag _) 144 8 bb Y eA).m;rintro j w1 ⟨v1,rfl,o1,x⟩;have u:=x.size;go_wp2_with fail;apply(Dk v1 l m o1 u 112 9 bc Y Y).m;rintro j w2 ⟨v2,rfl,o2,y⟩;have E:=y.size;go_wp2_with fail;apply(Dk v2 m n o2 (aA u E) 24 7 bd Y Y).m;rintro j w3 ⟨v3,rfl,o3,z⟩;have z3:=z.size;go_wp2_with fail;apply(Dk v3 n d o3 (aA u (aA E z3)) 8 8 a1 Y Y).m;rintro j w4 ⟨v4,rfl,o4,k4⟩;have F:=H ((((x.t y).t z).t k4).below (ag _) eA);have O4:=H o4;have z4:=F.o.size;clear o1 o2 o3 o4 x y z k4 u E z3;go_wp2_with fail;apply(Dk (B:=w4.heap.size) (Z N 0 0) [] g (aX _ _ _ _) (ag _) 32 5 a2 Y eA).m;rintro j w5 ⟨v5,rfl,o5,k5⟩;have R:=k5.below (ag _) eA;obtain⟨g1,c1,b2,hg1,bs,bi,bm⟩:=Es (jx.ofBelow.own_below' O4 R) rfl Y;obtain⟨V,c2,b3,X,bt,bq,br⟩:=Es o5 rfl Y;subst b2 b3;have v:=H (F.t (R.m z4));have L:=H (Cq g1 0 c1 d a3 Y hg1 bs ⟨bi,bm⟩);have P:=H bt;go_wp2_with fail;apply L.o.m;rintro j w6 ⟨b9,T1,f1,rfl,t1,ce,s,W⟩;have a7:=H (W.ok t1 ao);have J:=H (v.t (s.m v.size));have G2:=H (Cq (w:=w6) V 0 c2 g a4 Y (aQ X s.size) (λi hi=>by rw[s.cell (p:=⟨V,0+i,N⟩) X];exact P i hi) ⟨bq,br⟩);clear t1 s W L P v;go_wp2_with fail;apply G2.o.m;rintro j w7 ⟨ca,T2,f2,rfl,t2,cf,T,ba⟩;have Q:=ba.ok t2 a0;have a8:=a7.o.below T;have K:=H (J.t (T.m J.size));have R7:=h.ofBelow K;rw[N2.o]at Q;have a6:=H (J3 R7 (c:=⟨cz d,gz d,cz g,gz g⟩) (M:=G d) Y hw a8 Q ad al a5);go_wp2_with fail;apply a6.o.m;rintro j w8 ⟨rfl,t,b8,o8,e8,r8,a9,k8⟩;go_wp2
 go_end0
 refine⟨rfl,t,b8,o8,e8,r8,a9,?_⟩;have o:=K.o;exact gb.t ⟨o.os,o.tape,o.output,o.size,λi A _ ho _=>by rw[o.block i (ae ho)];exact ho⟩ k8
def JR(h:jx B b S most w p f a 0){k:Nat}(s:k<=32768){n:Except Nat (List Bool×List Nat)}(q:DS S jJ k most n p a 0):K8 Qe 152 #[M2 (O ⟨b,0,N⟩),I U k] w λu o=>u=Ps (OW #[])/\∃m t l e,jx B b S most o m t l e/\pE S n m l e/\gb 5 B [b] w o:=by
 have e1:gz jE=lZ:=by unfold gz;rw[Eh];exact yz.2.1
 have e2:gz jD=mR:=by unfold gz;rw[D_];exact yz.2.2.2
 refine N3 _ _ _ jE jD Eh D_ DJ DJ DJ rfl rfl rfl IP.1 IP.2 (λg c=>IR.1 g (by rw[Eh]at c;exact c)) (λg c=>IR.2 g (by rw[D_]at c;exact c)) (by rw[fk.1];omega) (by rw[fk.2];omega) ?_ ?_ h s ?_;·rw[e1];exact λr j i d=>aA (GQ IX.1 r j i d) Y
 ·rw[e2];exact λr j i d=>GQ IX.2 r j i d
 ·rw[e1,e2,yz.1,yz.2.2.1];exact q
end
def ie(r:List Bool)(b:Nat):List Nat:=(List.range b).map λa=>gw ((r.drop (8*a)).take 8)
def jw(b:Nat)(r:List Bool)(a:List Nat):Except Nat (List Bool×List Nat):=
 if(r.drop (G r%8)).length<32 then .error 5
 else if gw ((r.drop (G r%8)).take 16)+gw (((r.drop (G r%8)).drop 16).take 16)≠65535\/((r.drop (G r%8)).drop 32).length<8*gw ((r.drop (G r%8)).take 16)then .error 5
 else if (G a)+gw ((r.drop (G r%8)).take 16)<=b then .ok (((r.drop (G r%8)).drop 32).drop (8*gw ((r.drop (G r%8)).take 16)),a++ie ((r.drop (G r%8)).drop 32) (gw ((r.drop (G r%8)).take 16)))
 else .error 6
section
variable{B b:Nat}{S:ByteArray}{a:Nat}{w:Gr}{p:Nat}{d:GI}{c:List Nat}{e:Nat}
def NT(S:ByteArray)(k:Nat)(h:k<S.size):gw ((gC S (8*k)).take 8)=nth (bl S) k:=by
 have e1:∀f,f<=8->(gC S (8*k)).take f=(jY (nth (bl S) k)).take f:=by
  intro f;induction f with
  |zero=>intro _;rfl
  |succ f m=>
   intro j;rw[tr S (8*k) f Y,m Y];have g:(8*k+f)/8=k:=Y;have i:(8*k+f)%8=f:=Y;rw[g,i];have l:f<(jY (nth (bl S) k)).length:=by rw[jC];omega
   rw[bJ l];congr 2;match f,j with
   |0,_=>rfl
   |1,_=>rfl
   |2,_=>rfl
   |3,_=>rfl
   |4,_=>rfl
   |5,_=>rfl
   |6,_=>rfl
   |7,_=>rfl
 rw[e1 8 (ag _),bD (by rw[jC];exact ag _)];exact mI _ (lN S k h)
def KF(S:ByteArray)(f i:Nat)(h:f+i<=S.size):ie (gC S (8*f)) i=((bl S).drop f).take i:=by
 have j:(((bl S).drop f).take i).length=i:=by rw[ay,au,mK];omega
 apply List.ext_getElem;·rw[j];simp[ie]
 ·intro g h1 h2;rw[j]at h2;have e:(ie (gC S (8*f)) i)[g]=gw (((gC S (8*f)).drop (8*g)).take 8):=by simp[ie]
  rw[e,sS,show 8*f+8*g=8*(f+g)by omega,NT S (f+g) Y,List.getElem_take,List.getElem_drop];simp[nth,af (show f+g<(bl S).length by rw[mK];omega)]
def Dn(h:jx B b S a w p d c 0)(hp:p<=8*S.size)(b2:∀A∈c,A<256){z:Except Nat (List Bool×List Nat)}(a9:jw a (gC S p) c=z):K8 Qe 151 #[M2 (O ⟨b,0,N⟩)] w λA w'=>A=Ps (OW #[])/\∃ad F ac e,jx B b S a w' ad F ac e/\pE S z ad ac e/\gb 5 B [b] w w':=by
 obtain⟨k,hK⟩:∃k,(p+7)/8=k:=⟨_,rfl⟩;have ls:=h.ls;have ce:8*k<=8*S.size:=Y;have b1:(gC S p).drop ((gC S p).length%8)=gC S (8*k):=by rw[sS,nX];congr 1;omega
 unfold jw at a9;rw[b1]at a9;have a3:=H a9;have c1:=h.c1;have f1:=h.fz 1;have R0:=H (h.set1 (8*k) Y);have K0:=H ((gb.refl 5 B [b] w).setCell (p:=⟨b,1,N⟩) eA (I U ((8*k:Nat):Int)));have eK:((8*k:Nat):Int)=((p:Int)+7)/8*8:=Y;rw[eK]at R0 K0;have bs:=H b2
 go_in
 go_wp2_with fail;apply(rL R0 16 Y).m;rintro A w2 ⟨f,q2,e2,rfl,r2,B2,bo,k2⟩;have ck:f<65536:=by simpa using bo
 go_wp2_with fail;apply(rL r2 16 Y).m;rintro A w3 ⟨v,y,e3,rfl,o,W,bm,k3⟩;have ci:v<65536:=by simpa using bm
 have Q:=H ((K0.t k2).t k3);have K:=H o;have d0:=o.c0;have d1:=o.c1;have d4:=o.c4;have cp:=o.lp;have co:=o.le;clear K0 k2 k3 r2 o R0 c1 f1 bo bm;have bi:∀(D:Gr) (a1:Nat),a1=5->L1 (jx B b S a D y d c a1)->L1 (z=.error 5)->L1 (gb 5 B [b] w D)->∃ad F ac e,jx B b S a D ad F ac e/\pE S z ad ac e/\gb 5 B [b] w D:=by intro D a1 hE u hx hk;subst hE;exact⟨y,d,c,5,u,by rw[hx.o];exact⟨rfl,Y⟩,hk⟩
 have s:=H bi;clear bi;by_cases h3:e3=0
 ·have b6:f=gw ((gC S (8*k)).take 16)/\v=gw (((gC S (8*k)).drop 16).take 16)/\y=8*k+32/\8*k+32<=8*S.size:=by
   rcases B2.o with⟨q,_⟩|⟨_,a7,M,a0,aa⟩|⟨_,a7,M,a0,aa⟩;·exact absurd rfl q
   ·rcases W.o with⟨q,_⟩|⟨_,bd,hm,a8,L⟩|⟨_,bd,_,_,L⟩;·exact absurd aa q
    ·rw[a0,<-sS]at hm;exact⟨M,hm,Y,Y⟩
    ·omega
   ·rcases W.o with⟨_,_,_,L⟩|⟨q,_⟩|⟨q,_⟩<;>omega
  obtain⟨M,hm,a8,ch⟩:=b6;have u:=a3.o;rw[ah eC,<-M,<-hm,sS,nX]at u;have HR:=H u;subst h3;clear u M hm B2 W a3;by_cases cs:f+v=65535
  ·have a5:(f:Int)+(v:Int)=65535:=Y;by_cases cl:8*S.size<y+8*f
   ·have a4:decide (8*(S.size:Int)<(y:Int)+8*(f:Int))=PV:=eB;have n:L1 (z=.error 5):=by have h1:=HR.o;rw[ai (P4 Y)]at h1;exact h1.s
    clear a8;go_wp2_with fail;go_quiet (fail);go_wp2_with fail;apply(ro (K.drewN nq) 5 Y).m;rintro A t ⟨rfl,i,P⟩;rw[rz]at i;have m:=(Q.drewN nq).t P;have g4:=i.c4;go_wp2;go_loopw [4] (λl wr=>l=I U 0/\wr=t) (λ_ _=>0)
    case atStart=>exact⟨rfl,rfl⟩
    case round=>
     obtain⟨rfl,rfl⟩:=hrel;by_cases cn:0<f
     ·have E:(0:Int)<f:=Y;go_wp2
      go_end0
      exact⟨rfl,s _ _ rfl i n m⟩
     ·have E:¬(0:Int)<f:=Y;go_wp2
      go_end0
      exact⟨rfl,s _ _ rfl i n m⟩
   ·have a4:decide (8*(S.size:Int)<(y:Int)+8*(f:Int))=P2:=eB;have a2:L1 ((if (G c)+f<=a then Except.ok ((gC S (8*k+32)).drop (8*f),c++ie (gC S (8*k+32)) f)else Except.error 6)=z):=by have h1:=HR.o;rw[ah Y]at h1;exact h1
    obtain⟨j,cb⟩:∃j,k+4=j:=⟨_,rfl⟩;have b4:j+f<=S.size:=Y;have HB:L1 (G c+f<=a->pE S z (8*(j+f)) (c++((bl S).drop j).take f) 0):=by
     intro b5;have h1:=a2.o;rw[ai b5,show 8*k+32=8*j by omega,sS,KF S j f b4]at h1;rw[<-h1];refine⟨rfl,rfl,by congr 1;omega,Y,λca hy=>?_⟩;rcases bG.1 hy with hy|hy;·exact bs ca hy
     ·have b8:=dA (dj hy);obtain⟨l,hi,rfl⟩:=cK b8;rw[mK]at hi;have:=lN S l hi;simpa[nth,mK,hi]using this
    have ba:L1 (a<G c+f->z=.error 6):=λhf=>by have h1:=a2.o;rw[ah Y]at h1;exact h1.s
    have b0:y=8*(j+0):=Y;have lo:=K.o.lo;clear HR a2;go_wp2_with fail;go_quiet (fail);obtain⟨t,ao⟩:∃D,w3.drewN nq=D:=⟨_,rfl⟩;have T:=H (K.drewN nq);have X:=H (Q.drewN nq);rw[ao]at T X ⊢;rw[b0]at T;go_wp2;go_loopw [4] (λl wr=>∃(g e':Nat) (F:GI) (x:List Nat),l=I U g/\g<=f/\jx B b S a wr (8*(j+g)) F x e'/\L1 ((G c+g<=a/\x=c++((bl S).drop j).take g/\e'=0)\/(a<G c+f/\e'=6))/\gb 5 B [b] w wr) (λl _=>f-(intOf l).toNat)
    case atStart=>exact⟨0,0,d,c,rfl,aH _,T,P3 ⟨Y,eA,rfl⟩,X⟩
    case round=>
     obtain⟨g,e',F,x,rfl,hj,r,HC,kk⟩:=hrel;have d4:=r.c4;by_cases cj:g<f
     ·have bz:(g:Int)<f:=Y;rcases HC.o with⟨V,ho,rfl⟩|⟨V,rfl⟩
      ·have bq:G x=G c+g:=by rw[ho,ak,ay,au,mK];omega
       have HT:=H (Kq (bl S) j g (by rw[mK];omega));have bf:j+g<S.size:=Y;have hX:=lN S (j+g) bf;have HO:=H ho;have bt:=H bq;obtain⟨J,bb⟩:∃J,j+g=J:=⟨_,rfl⟩;obtain⟨R,hQ⟩:∃R,8*(j+g)=R:=⟨_,rfl⟩;have bc:8*(j+(g+1))=R+8:=Y;have bv:=H bc;have HQ:=H hQ;have d0:=r.c0;have d1:=r.c1;have f1:=r.fz 1;rw[hQ]at d1;have wq:IntKind.i64.wrap ((R:Int)/8)=(J:Int):=by rw[aU];omega
       have cd:(J:Int)<S.size:=Y;have cf:R<=100000000:=Y;have bx:=H r;have KK:=H kk;rw[bb]at hX HT;have b7:=λhh=>s8 S J hh;have cc:J<S.size:=Y;generalize nth (bl S) J=al at *;clear r kk ho bq HC hQ bc bb bf;go_wp2_with fail;go_region_with (go_at_call 108;apply(vR (bx.drewN 1) _ al (by first|rfl|(rw[b7])|omega) hX).m;rintro A w3 ⟨rfl,b9,o,k3⟩);all_goals
        have g1:=o.c1;have g2:=o.fz 1;rw[HQ.o]at g1;have T:=H (o.set1 (8*(j+(g+1))) Y);have X:=H (((KK.drewN 1).t k3).setCell (p:=⟨b,1,N⟩) eA (I U ((8*(j+(g+1)):Nat):Int)));have eQ:((8*(j+(g+1)):Nat):Int)=(R:Int)+8:=by have:=bv.o;omega
        rw[eQ]at T X;have bw:L1 (((G c+(g+1)<=a/\(nl a al (x,0)).1=c++((bl S).drop j).take (g+1)/\(nl a al (x,0)).2=0)\/(a<G c+f/\(nl a al (x,0)).2=6))):=(by
         have h1:=bt.o;by_cases cr:G x+1<=a;·rw[Aj cr,HT.o,<-bZ,<-HO.o];exact P3 ⟨Y,rfl,rfl⟩
         ·rw[Bt cr];exact P4 ⟨Y,rfl⟩)
        clear o k3 eQ;go_wp2;go_roundw
        case rel=>exact⟨g+1,_,b9,_,by go_num,Y,T,bw,X⟩
        case measure=>simp[intOf];omega
      ·have cg:((6:Int)==0)=P2:=cO;go_wp2
       go_end0
       exact⟨rfl,_,F,x,6,r,by rw[ba.o V];exact⟨rfl,Y⟩,kk⟩
     ·obtain rfl:g=f:=Y;have bz:¬(g:Int)<g:=Y;go_wp2
      go_end0
      rcases HC.o with⟨V,rfl,rfl⟩|⟨V,rfl⟩;·exact⟨rfl,_,F,_,0,r,HB V,kk⟩
      ·exact⟨rfl,_,F,x,6,r,by rw[ba.o V];exact⟨rfl,Y⟩,kk⟩
  ·obtain⟨C,a6⟩:∃C,f+v=C:=⟨_,rfl⟩;have ws:IntKind.i64.wrap ((f:Int)+(v:Int))=(C:Int):=by rw[aU];omega
   have a5:((C:Int) != 65535)=PV:=eB;clear a6;have n:L1 (z=.error 5):=by have h1:=HR.o;rw[ai (P3 cs)]at h1;exact h1.s
   clear a8;go_wp2_with fail;go_quiet (fail);go_wp2_with fail;apply(ro (K.drewN nq) 5 Y).m;rintro A t ⟨rfl,i,P⟩;rw[rz]at i;have m:=(Q.drewN nq).t P;have g4:=i.c4;go_wp2;go_loopw [4] (λl wr=>l=I U 0/\wr=t) (λ_ _=>0)
   case atStart=>exact⟨rfl,rfl⟩
   case round=>
    obtain⟨rfl,rfl⟩:=hrel;by_cases cn:0<f
    ·have E:(0:Int)<f:=Y;go_wp2
     go_end0
     exact⟨rfl,s _ _ rfl i n m⟩
    ·have E:¬(0:Int)<f:=Y;go_wp2
     go_end0
     exact⟨rfl,s _ _ rfl i n m⟩
 ·have b3:e3=5/\z=.error 5:=by
   have u:=a3.o;rcases B2.o with⟨q,_⟩|⟨_,a7,M,a0,aa⟩|⟨_,a7,M,a0,aa⟩;·exact absurd rfl q
   ·rcases W.o with⟨q,_⟩|⟨_,_,_,_,L⟩|⟨_,bd,_,_,L⟩;·exact absurd aa q
    ·exact absurd L h3
    ·rw[ai eC]at u;exact⟨L,u.s⟩
   ·rcases W.o with⟨_,_,_,L⟩|⟨q,_⟩|⟨q,_⟩
    ·rw[ai eC]at u;exact⟨Y,u.s⟩
    ·omega
    ·omega
  obtain⟨rfl,br⟩:=b3;have n:=H br;have n0:((5:Int)==0)=P2:=cO;clear br h3;by_cases cs:f+v=65535
  ·have a5:(f:Int)+(v:Int)=65535:=Y;by_cases cl:8*S.size<y+8*f
   ·have a4:decide (8*(S.size:Int)<(y:Int)+8*(f:Int))=PV:=eB;go_wp2_with fail;go_quiet (fail);go_wp2_with fail;apply(ro (K.drewN nq) 5 Y).m;rintro A t ⟨rfl,i,P⟩;rw[re Y]at i;have m:=(Q.drewN nq).t P;have g4:=i.c4;go_wp2;go_loopw [4] (λl wr=>l=I U 0/\wr=t) (λ_ _=>0)
    case atStart=>exact⟨rfl,rfl⟩
    case round=>
     obtain⟨rfl,rfl⟩:=hrel;by_cases cn:0<f
     ·have E:(0:Int)<f:=Y;go_wp2
      go_end0
      exact⟨rfl,s _ _ rfl i n m⟩
     ·have E:¬(0:Int)<f:=Y;go_wp2
      go_end0
      exact⟨rfl,s _ _ rfl i n m⟩
   ·have a4:decide (8*(S.size:Int)<(y:Int)+8*(f:Int))=P2:=eB;go_wp2_with fail;go_quiet (fail);obtain⟨t,ao⟩:∃D,w3.drewN nq=D:=⟨_,rfl⟩;have i:=K.o.drewN nq;have m:=Q.o.drewN nq;rw[ao]at i m ⊢;have g4:=i.c4;clear ao;go_wp2;go_loopw [4] (λl wr=>l=I U 0/\wr=t) (λ_ _=>0)
    case atStart=>exact⟨rfl,rfl⟩
    case round=>
     obtain⟨rfl,rfl⟩:=hrel;by_cases cn:0<f
     ·have E:(0:Int)<f:=Y;go_wp2
      go_end0
      exact⟨rfl,s _ _ rfl i n m⟩
     ·have E:¬(0:Int)<f:=Y;go_wp2
      go_end0
      exact⟨rfl,s _ _ rfl i n m⟩
  ·obtain⟨C,a6⟩:∃C,f+v=C:=⟨_,rfl⟩;have ws:IntKind.i64.wrap ((f:Int)+(v:Int))=(C:Int):=by rw[aU];omega
   have a5:((C:Int) != 65535)=PV:=eB;clear a6;go_wp2_with fail;go_quiet (fail);go_wp2_with fail;apply(ro (K.drewN nq) 5 Y).m;rintro A t ⟨rfl,i,P⟩;rw[re Y]at i;have m:=(Q.drewN nq).t P;have g4:=i.c4;go_wp2;go_loopw [4] (λl wr=>l=I U 0/\wr=t) (λ_ _=>0)
   case atStart=>exact⟨rfl,rfl⟩
   case round=>
    obtain⟨rfl,rfl⟩:=hrel;by_cases cn:0<f
    ·have E:(0:Int)<f:=Y;go_wp2
     go_end0
     exact⟨rfl,s _ _ rfl i n m⟩
    ·have E:¬(0:Int)<f:=Y;go_wp2
     go_end0
     exact⟨rfl,s _ _ rfl i n m⟩
end
