import Derived.Test.YtgkljcmjnphpeaaGreatDoorK07
set_option linter.defProp false
set_option linter.unusedVariables false
set_option linter.unusedSimpArgs false
set_option maxHeartbeats 8000000
set_option maxRecDepth 100000
open List renaming length->G
open Go.Value renaming pointer->A3,tuple->BG,agg->Bc,bool->Bs,int->I,slice->Z,string->y7
open Go.Obj renaming cells->BV
open Go.Ending renaming returned->BX
open Or renaming inl->C1,inr->C2
open Bool renaming true->CD,false->CS
open Go.Proofs.Tryz renaming prog->DG
open List renaming replicate->DJ
open Option renaming none->N,some->O
open Go.IntKind renaming i64->U
open Go renaming World->vz,Addr->wT,Value->wg,Calls->wh,Ending->xc,Act->xq
open Go.RowKit renaming Below->wm,Hid->wt
open Go.Proofs.Tryz
namespace Go.Proofs.YtgkljcmjnphpeaaGreatDoor
open Go.RowKit
section
variable{w t:vz}{B f:Nat}{r q:wg}{d j:List Nat}
def UD{a:Nat}{nn:Int}{pp:Int}{tx:ByteArray}{ia ka fa:Option wT}{ni ic nk kc nf fc:Nat}(n:pR a w)(u:a<=B)(h:jg B f w r q d j)(v:G d+100<=500000000):wh DG 132 #[A3 (O ⟨f,0,N⟩),Bc #[I U 0,I U nn,I U pp,y7 tx,Z ia ni ic,Z ka nk kc,Z fa nf fc]] w (mZ B f w q d j [110,117,108,108]):=by
 have c:=h.alloc (BV #[I U 0,I U nn,I U pp,y7 tx,Z ia ni ic,Z ka nk kc,Z fa nf fc] 67);have g:iP B f w (w.alloc (BV #[I U 0,I U nn,I U pp,y7 tx,Z ia ni ic,Z ka nk kc,Z fa nf fc] 67)):=(iP.refl B f w).alloc _;have l:=H g;have b:=H (nP c {data:=#[110,117,108,108]} (by show _+4<=_;omega));rw[aV]at b;clear n h c g;go_enter eL,eF;go_wp2_with fail;apply b.o.m;rintro s x ⟨rfl,p,e,i⟩;have k:=H e;have m:=H (l.t i);clear e i;go_wp2
 go_end0
 exact⟨rfl,p,k,m⟩
def UB{b:Nat}{nn:Int}{pp:Int}{tx:ByteArray}{ia ka fa:Option wT}{ni ic nk kc nf fc:Nat}(s:pR b w)(v:b<=B)(h:jg B f w r q d j)(y:(nn==1)=CS)(x:G d+100<=500000000):wh DG 132 #[A3 (O ⟨f,0,N⟩),Bc #[I U 1,I U nn,I U pp,y7 tx,Z ia ni ic,Z ka nk kc,Z fa nf fc]] w (mZ B f w q d j [102,97,108,115,101]):=by
 have e:=h.alloc (BV #[I U 1,I U nn,I U pp,y7 tx,Z ia ni ic,Z ka nk kc,Z fa nf fc] 67);have i:iP B f w (w.alloc (BV #[I U 1,I U nn,I U pp,y7 tx,Z ia ni ic,Z ka nk kc,Z fa nf fc] 67)):=(iP.refl B f w).alloc _;have m:=H i;have c:=H (nP e {data:=#[102,97,108,115,101]} (by show _+5<=_;omega));rw[aV]at c;clear s h e i;go_enter eL,eF;go_wp2_with fail;apply(Lt _ _).m;rintro p z ⟨rfl,a⟩;have a:=a.s;subst a;go_wp2_with fail;apply c.o.m;rintro p A ⟨rfl,u,g,k⟩;have l:=H g;have n:=H (m.t k);clear g k;go_wp2
 go_end0
 exact⟨rfl,u,l,n⟩
def UG{b:Nat}{pp:Int}{tx:ByteArray}{ia ka fa:Option wT}{ni ic nk kc nf fc:Nat}(s:pR b w)(v:b<=B)(h:jg B f w r q d j)(x:G d+100<=500000000):wh DG 132 #[A3 (O ⟨f,0,N⟩),Bc #[I U 1,I U 1,I U pp,y7 tx,Z ia ni ic,Z ka nk kc,Z fa nf fc]] w (mZ B f w q d j [116,114,117,101]):=by
 have e:=h.alloc (BV #[I U 1,I U 1,I U pp,y7 tx,Z ia ni ic,Z ka nk kc,Z fa nf fc] 67);have i:iP B f w (w.alloc (BV #[I U 1,I U 1,I U pp,y7 tx,Z ia ni ic,Z ka nk kc,Z fa nf fc] 67)):=(iP.refl B f w).alloc _;have m:=H i;have c:=H (nP e {data:=#[116,114,117,101]} (by show _+4<=_;omega));rw[aV]at c;clear s h e i;go_enter eL,eF;go_wp2_with fail;apply(Lt _ _).m;rintro p y ⟨rfl,a⟩;have a:=a.s;subst a;go_wp2_with fail;apply c.o.m;rintro p z ⟨rfl,u,g,k⟩;have l:=H g;have n:=H (m.t k);clear g k;go_wp2
 go_end0
 exact⟨rfl,u,l,n⟩
def UC{i:Nat}{nn:Int}{pp:Int}{tx:ByteArray}{ia ka fa:Option wT}{ni ic nk kc nf fc:Nat}(u:pR i w)(s:i<=B)(h:jg B f w r q d j)(x : -9223372036854775808<=nn)(y:nn<=9223372036854775807)(M:G d+100<=500000000):wh DG 132 #[A3 (O ⟨f,0,N⟩),Bc #[I U 2,I U nn,I U pp,y7 tx,Z ia ni ic,Z ka nk kc,Z fa nf fc]] w (mZ B f w q d j (gU nn)):=by
 have c:=h.alloc (BV #[I U 2,I U nn,I U pp,y7 tx,Z ia ni ic,Z ka nk kc,Z fa nf fc] 67);have g:iP B f w (w.alloc (BV #[I U 2,I U nn,I U pp,y7 tx,Z ia ni ic,Z ka nk kc,Z fa nf fc] 67)):=(iP.refl B f w).alloc _;have v:=u.outk s h g;have K:=aJ s c.bw;have m:=H g;have k:=H (Hb v K nn x y);have A:=H c;clear u h c g v;go_enter eL,eF;go_wp2_with fail;apply k.o.m;rintro J Q ⟨n,rfl,e,a⟩;have C:=H (A.below a);have E:=H (m.t (iP.of_below (b:=0) a));have P:n.size<=20:=by rw[<-mC,e];exact jp x y
 have l:=H (nP C n Y);rw[e]at l;clear a k m e;go_wp2_with fail;apply l.o.m;rintro J R ⟨rfl,L,p,z⟩;have D:=H p;have F:=H (E.t z);clear p z;go_wp2
 go_end0
 exact⟨rfl,L,D,F⟩
def Ui{A:Nat}{a:Int}{y:Int}{z:ByteArray}{l p e:Option wT}{v m x s u g:Nat}(L:pR A w)(K:A<=B)(h:jg B f w r q d j)(P : -9223372036854775808<=a)(Q:a<=9223372036854775807)(al:G d+100<=500000000):wh DG 132 #[A3 (O ⟨f,0,N⟩),Bc #[I U 9,I U a,I U y,y7 z,Z l v m,Z p x s,Z e u g]] w (mZ B f w q d j (gU a++[32,48,32,82])):=by
 have i:=h.alloc (BV #[I U 9,I U a,I U y,y7 z,Z l v m,Z p x s,Z e u g] 67);have n:iP B f w (w.alloc (BV #[I U 9,I U a,I U y,y7 z,Z l v m,Z p x s,Z e u g] 67)):=(iP.refl B f w).alloc _;have M:=L.outk K h n;have ac:=aJ K i.bw;have E:=H n;have C:=H (Hb M ac a P Q);have S:=H i;clear L h i n M;go_enter eL,eF;go_wp2_with fail;apply C.o.m;rintro aa w2 ⟨F,rfl,k,c⟩;have T:=H (S.below c);have W:=H (E.t (iP.of_below (b:=0) c));have ao:F.size<=20:=by rw[<-mC,k];exact jp P Q
 have D:=H (AL T F {data:=#[32,48,32,82]} (by show _+(_+4)<=_;omega));rw[k]at D;clear c C E k;go_wp2_with fail;apply D.o.m;rintro aa w9 ⟨rfl,ad,J,R⟩;have V:=H J;have X:=H (W.t R);clear J R;go_wp2
 go_end0
 exact⟨rfl,ad,V,X⟩
def UE{g:Nat}{nn:Int}{pp:Int}{tx:ByteArray}{ia ka fa:Option wT}{ni ic nk kc nf fc:Nat}{a:Nat}(l:pR g w)(c:g<=B)(h:jg B f w r q d j)(n:pp=(a:Int))(A:a<=5)(y : -999999999<=nn)(z:nn<=999999999)(E:G d+100<=500000000):wh DG 132 #[A3 (O ⟨f,0,N⟩),Bc #[I U 3,I U nn,I U pp,y7 tx,Z ia ni ic,Z ka nk kc,Z fa nf fc]] w (mZ B f w q d j (jQ nn a)):=by
 have b:=h.alloc (BV #[I U 3,I U nn,I U pp,y7 tx,Z ia ni ic,Z ka nk kc,Z fa nf fc] 67);have e:iP B f w (w.alloc (BV #[I U 3,I U nn,I U pp,y7 tx,Z ia ni ic,Z ka nk kc,Z fa nf fc] 67)):=(iP.refl B f w).alloc _;have m:=l.outk c h e;have x:=aJ c b.bw;have u:=H e;have i:=H (Kz m x c b nn a y z A Y);rw[<-n]at i;clear n;clear l h b e m;go_enter eL,eF;go_wp2_with fail;apply i.o.m;rintro D F ⟨rfl,C,k,p⟩;have s:=H k;have v:=H (u.t p);clear k p;go_wp2
 go_end0
 exact⟨rfl,C,s,v⟩
def Ub{a:Nat}{nn:Int}{pp:Int}{tx:ByteArray}{ia ka fa:Option wT}{ni ic nk kc nf fc:Nat}(n:pR a w)(u:a<=B)(h:jg B f w r q d j)(v:G d+100+4*tx.size<=500000000):wh DG 132 #[A3 (O ⟨f,0,N⟩),Bc #[I U 4,I U nn,I U pp,y7 tx,Z ia ni ic,Z ka nk kc,Z fa nf fc]] w (mZ B f w q d j (gN (bl tx))):=by
 have b:=h.alloc (BV #[I U 4,I U nn,I U pp,y7 tx,Z ia ni ic,Z ka nk kc,Z fa nf fc] 67);have e:iP B f w (w.alloc (BV #[I U 4,I U nn,I U pp,y7 tx,Z ia ni ic,Z ka nk kc,Z fa nf fc] 67)):=(iP.refl B f w).alloc _;have l:=H e;have k:=H (Oa b tx Y);clear n h b e;go_enter eL,eF;go_wp2_with fail;apply k.o.m;rintro s x ⟨rfl,p,c,g⟩;have i:=H c;have m:=H (l.t g);clear c g;go_wp2
 go_end0
 exact⟨rfl,p,i,m⟩
def UF{a:Nat}{nn:Int}{pp:Int}{tx:ByteArray}{ia ka fa:Option wT}{ni ic nk kc nf fc:Nat}(n:pR a w)(u:a<=B)(h:jg B f w r q d j)(v:G d+100+4*tx.size<=500000000):wh DG 132 #[A3 (O ⟨f,0,N⟩),Bc #[I U 5,I U nn,I U pp,y7 tx,Z ia ni ic,Z ka nk kc,Z fa nf fc]] w (mZ B f w q d j (lI (bl tx))):=by
 have b:=h.alloc (BV #[I U 5,I U nn,I U pp,y7 tx,Z ia ni ic,Z ka nk kc,Z fa nf fc] 67);have e:iP B f w (w.alloc (BV #[I U 5,I U nn,I U pp,y7 tx,Z ia ni ic,Z ka nk kc,Z fa nf fc] 67)):=(iP.refl B f w).alloc _;have l:=H e;have k:=H (Uh b tx Y);clear n h b e;go_enter eL,eF;go_wp2_with fail;apply k.o.m;rintro s x ⟨rfl,p,c,g⟩;have i:=H c;have m:=H (l.t g);clear c g;go_wp2
 go_end0
 exact⟨rfl,p,i,m⟩
def Uz{x:Nat}{p:Int}{s:Int}{u:ByteArray}{e i b:Option wT}{m g n k l c:Nat}{D:List Nat}(L:pR x w)(R:x<=B)(h:jg B f w r q d j)(A:∀(a:vz) (M:wg),jg B f a M q d j->iP B f w a->wh DG 184 #[A3 (O ⟨f,0,N⟩),Bc #[I U 6,I U p,I U s,y7 u,Z e m g,Z i n k,Z b l c]] a (mZ B f a q d j D)):wh DG 132 #[A3 (O ⟨f,0,N⟩),Bc #[I U 6,I U p,I U s,y7 u,Z e m g,Z i n k,Z b l c]] w (mZ B f w q d j D):=by
 have y:=h.alloc (BV #[I U 6,I U p,I U s,y7 u,Z e m g,Z i n k,Z b l c] 67);have v:iP B f w (w.alloc (BV #[I U 6,I U p,I U s,y7 u,Z e m g,Z i n k,Z b l c] 67)):=(iP.refl B f w).alloc _;have J:=H v;have F:=H (A _ r y v);clear L h y v A;go_enter eL,eF;go_wp2_with fail;apply F.o.m;rintro Q S ⟨rfl,P,z,C⟩;have E:=H z;have K:=H (J.t C);clear z C;go_wp2
 go_end0
 exact⟨rfl,P,E,K⟩
def UA{x:Nat}{p:Int}{s:Int}{u:ByteArray}{e i b:Option wT}{m g n k l c:Nat}{D:List Nat}(L:pR x w)(R:x<=B)(h:jg B f w r q d j)(A:∀(a:vz) (M:wg),jg B f a M q d j->iP B f w a->wh DG 134 #[A3 (O ⟨f,0,N⟩),Bc #[I U 7,I U p,I U s,y7 u,Z e m g,Z i n k,Z b l c]] a (mZ B f a q d j D)):wh DG 132 #[A3 (O ⟨f,0,N⟩),Bc #[I U 7,I U p,I U s,y7 u,Z e m g,Z i n k,Z b l c]] w (mZ B f w q d j D):=by
 have y:=h.alloc (BV #[I U 7,I U p,I U s,y7 u,Z e m g,Z i n k,Z b l c] 67);have v:iP B f w (w.alloc (BV #[I U 7,I U p,I U s,y7 u,Z e m g,Z i n k,Z b l c] 67)):=(iP.refl B f w).alloc _;have J:=H v;have F:=H (A _ r y v);clear L h y v A;go_enter eL,eF;go_wp2_with fail;apply F.o.m;rintro Q S ⟨rfl,P,z,C⟩;have E:=H z;have K:=H (J.t C);clear z C;go_wp2
 go_end0
 exact⟨rfl,P,E,K⟩
def Hg:∀k:Nat,WO k
 |0=>λB f S w r q d j T a1 V _ _ _ h _ _=>h.elim
 |k+1=>λB f S w r q d j T a1 V e c h A K J=>by
  have ad:=A;obtain⟨s,u,v,x,o,p,rfl,a3,a4,a2⟩:=iR.split (V:=V) ad;have a5:G d+100+4*(f_.text V).length<=500000000:=by have:gV (k:=k+1) V=100+4*(f_.text V).length+((f_.items V).map λE=>10+gV E).sum+((f_.keys V).map λa0=>10+3*G a0).sum:=rfl;omega
  have g:G d+100<=500000000:=Y;have a6:(gj (f_.text V)).size=(f_.text V).length:=IL _;have F:=vJ _ K.2.2.2.2.1;obtain⟨L,i,C,D,M,P,Q⟩:=K;have al:gT (k:=k+1) V=match f_.kind V with
    |0=>[110,117,108,108]
    |1=>if f_.n V=1 then[116,114,117,101]else[102,97,108,115,101]
    |2=>gU (f_.n V)
    |3=>jQ (f_.n V) (f_.places V)
    |4=>gN (f_.text V)
    |5=>lI (f_.text V)
    |6=>91::(gY ((f_.items V).map λE=>gT (k:=k) E)++[93])
    |7=>60::60::(gY (((f_.keys V).zip (f_.items V)).map λR=>gN R.1++(32::gT (k:=k) R.2))++[62,62])
    |9=>gU (f_.n V)++[32,48,32,82]
    |_=>[]:=rfl
  rw[al];have ac:f_.kind V=0\/f_.kind V=1\/f_.kind V=2\/f_.kind V=3\/f_.kind V=4\/f_.kind V=5\/f_.kind V=6\/f_.kind V=7\/f_.kind V=9:=Y;rcases ac with a|a|a|a|a|a|a|a|a;·rw[a];exact UD e c h g
  ·rw[a];by_cases z:f_.n V=1;·rw[z];exact UG e c h g
   ·simp only[aj z];exact UB e c h (by simpa using z) g
  ·rw[a];exact UC e c h i.1 i.2 g
  ·rw[a];obtain⟨X,b,aa⟩:=C a;exact UE e c h rfl aa X b g
  ·rw[a];have:=Ub (nn:=f_.n V) (pp:=(f_.places V:Int)) (tx:=gj (f_.text V)) (ia:=s) (ni:=(f_.items V).length) (ic:=u) (ka:=v) (nk:=(f_.keys V).length) (kc:=x) (fa:=o) (nf:=(f_.filters V).length) (fc:=p) e c h Y;rw[F]at this;exact this
  ·rw[a];have:=UF (nn:=f_.n V) (pp:=(f_.places V:Int)) (tx:=gj (f_.text V)) (ia:=s) (ni:=(f_.items V).length) (ic:=u) (ka:=v) (nk:=(f_.keys V).length) (kc:=x) (fa:=o) (nf:=(f_.filters V).length) (fc:=p) e c h Y;rw[F]at this;exact this
  ·rw[a];refine Uz e c h (λW ao y m=>?_);have l:=iR.outk (k+1) A h m;rw[a]at l;exact Kx (V:=V) (Hg k) (e.outk c h m) c y l ⟨L,i,C,D,M,P,Q⟩ J
  ·rw[a];refine UA e c h (λW ao y m=>?_);have l:=iR.outk (k+1) A h m;rw[a]at l;exact Ks (V:=V) (Hg k) (e.outk c h m) c y l ⟨L,i,C,D,M,P,Q⟩ (D a) J
  ·rw[a];exact Ui e c h i.1 i.2 g
def jd(a:Nat):List Nat:=iD 10 a++[32,48,48,48,48,48,32,110,32,10]
def j6(n:Nat):List Nat:=[120,114,101,102,10,48,32]++(gU ((n:Int)+1)++[10,48,48,48,48,48,48,48,48,48,48,32,54,53,53,51,53,32,102,32,10])
def kQ(j:List Nat):List Nat:=j6 (G j)++j.flatMap jd
def tu(a:Nat)(h:a<10^10):(jd a).length=20:=by unfold jd;have:=oL 10 a h (ag _);simp only[ab,ai,aB];omega
def vd(n:Nat)(h:n<9223372036854775807):(j6 n).length<=48:=by unfold j6;have:=jp (n:=((n:Int)+1)) Y Y;simp only[ab,ai,aB];omega
def Ud{x:Nat}(L:pR x w)(E:x<=B)(h:jg B f w r q d j)(al:∀c∈j,c<10^10)(a5:G d+100+20*G j<=500000000):wh DG 94 #[A3 (O ⟨f,0,N⟩)] w (mZ B f w q d j (kQ j)):=by
 obtain⟨R,S,a8⟩:=ke h.po;subst a8;obtain⟨a,u⟩:∃a,G j=a:=⟨_,rfl⟩;have K:=h.blk;rw[u]at K a5 ⊢;have n:=H u;have T:=H (Hb L (aJ E h.bw) ((a:Int)+1) Y Y);have c1:=rU K;have a1:wt (∀z,iP B f w z->pR x z):=λz k=>L.outk E h k;have W:=H al;have a0:wt (jg B f w r (Z R a S) d j):=by have:=h;rw[u]at this;exact this
 clear h L al K u
 go_in
 go_wp2_with fail;apply T.o.m;rintro D w1 ⟨aa,rfl,F,A⟩;have br:aa.size<=20:=by rw[<-mC,F];exact jp Y Y
 have i:=H (AO (a0.below A) {data:=#[120,114,101,102,10,48,32]} aa {data:=#[10,48,48,48,48,48,48,48,48,48,48,32,54,53,53,51,53,32,102,32,10]} (by show _+(7+(_+21))<=_;omega));rw[F]at i;have X:wt (iP B f w w1):=iP.of_below (b:=0) A;clear A T F c1;go_wp2_with fail;apply i.o.m;rintro D w2 ⟨rfl,Q,s,k2⟩;have ad:=s.blk;have c2:=rU ad;have H2:wt (jg B f w2 Q (Z R a S) (d++j6 a) j):=s;have K2:=H (X.t k2);clear s k2 i X ad;go_wp2_with fail;go_loopw [3,19] (λ_ P wr=>∃(e:Nat) (v:wg),e<=a/\P=I U e/\wt (jg B f wr v (Z R a S) (d++(j6 a++(j.take e).flatMap jd)) j)/\wt (iP B f w wr)) (λ_ P _=>a-(intOf P).toNat)
 case atStart=>exact⟨0,Q,aw _,rfl,by show jg B f w2 Q _ (d++(j6 a++[])) j;rw[bP];exact H2,K2⟩
 case round=>
  obtain⟨e,v,m,rfl,p,y⟩:=hrel;rcases aC m with m|m
  ·subst m;go_wp2
   go_end0
   refine⟨rfl,v,?_,y⟩;have:=p.o;rw[show j.take e=j from aP (by rw[n.o];exact ag _)]at this;show jg B f _ v _ (d++(j6 (G j)++j.flatMap jd)) j;rw[n.o];exact this
  ·obtain⟨c,g⟩:∃c,j[e]?=O c:=⟨_,af (by rw[n.o];exact m)⟩;have a7:=W.o c (aQ g);have ao:(j.map λbc:Nat=>I U bc)[e]?=O (I U c):=by rw[aE,g];rfl
   have M:=p.o.po;rw[n.o]at M;obtain⟨bf,bd,a4,ba⟩:=En M ao;cases a4;have a3:((j.take e).flatMap jd).length<=20*e:=by
    have:∀l:List Nat,(∀c∈l,c<10^10)->(l.flatMap jd).length=20*G l:=λl hl=>by
     induction l with
     |nil=>rfl
     |cons ac l ih=>have h1:=tu ac (hl ac cO);have s:=ih (λc g=>hl c (by simp[g]));simp only[cG,ab,ai];omega
    rw[this _ (λc g=>W.o c (cN g)),ax];omega
   have a9:=vd a Y;have bh:(d++(j6 a++(j.take e).flatMap jd)).length+20<=500000000:=by simp only[ab];omega
   have a2:wt (d++(j6 a++(j.take (e+1)).flatMap jd)=d++(j6 a++(j.take e).flatMap jd)++jd c):=by unfold Hid;rw[cP,g,cK];simp
   have V:=H (M0 (a1 wr y) (aJ E p.bw) c 10 Y bF);generalize a6:d++(j6 a++(j.take e).flatMap jd)=o1 at *;clear a6 g ao M a3 a9;go_wp2_with fail;apply V.o.m;rintro D w3 ⟨S3,rfl,J,C⟩;have bm:S3.size<=10:=by rw[<-mC,J];exact(oL 10 c a7 (ag _)).2
   have i:=H (AL (p.below C) S3 {data:=#[32,48,48,48,48,48,32,110,32,10]} (by show _+(_+10)<=_;omega));rw[J]at i;have K3:=H (y.t (iP.of_below (b:=0) C));clear C V J ba;go_wp2_with fail;apply i.o.m;rintro D w4 ⟨rfl,bb,h4,k4⟩;have H4:wt (jg B f w4 bb _ (o1++jd c) j):=h4;have K4:=H (K3.t k4);clear h4 k4 i K3;go_wp2;go_roundw
   case rel=>exact⟨e+1,_,Y,by first|rfl|(congr 1),by rw[a2.o];exact H4,K4⟩
   case measure=>exact eT
def tD(n a:Int):VT 2:=(⟨7,0,0,[],[ik (VT 0) 2 n 0 [],ik (VT 0) 9 a 0 []],[[83,105,122,101],[82,111,111,116]],[]⟩:f_ (VT 1))
def TB{n g:Int}(u : -9223372036854775808<=n/\n<=9223372036854775807)(v : -9223372036854775808<=g/\g<=9223372036854775807):uN (k:=2) (tD n g):=by
 have m:∀(b:Nat) (i:Int),(b=2\/b=9)->(-9223372036854775808<=i/\i<=9223372036854775807)->uN (k:=1) (ik (VT 0) b i 0 []):=λb i y x=>⟨by show b<=7\/b=9;omega,x,λl=>by have l:b=3:=l;omega,λ_=>rfl,λp e=>(by cases e),λo c=>(by cases c),λs a=>by cases a⟩
 refine⟨C1 (ag 7),by show _<=(0:Int)/\(0:Int)<=_;omega,λh=>by have h:(7:Nat)=3:=h;omega,λ_=>rfl,λp e=>(by cases e),λo c p e=>?_,λs a=>?_⟩
 ·have c:o∈[[83,105,122,101],[82,111,111,116]]:=c;simp at c;rcases c with rfl|rfl<;>simp at e<;>omega
 ·have a:s∈([ik (VT 0) 2 n 0 [],ik (VT 0) 9 g 0 []]:List (f_ (VT 0))):=a;rcases cJ.1 a with a|a;·exact a▸m 2 n (C1 rfl) u
  ·exact(cZ.1 a)▸m 9 g (C2 rfl) v
def Tz(w:vz)(n e:Int):iR (λ_=>True) 2 ((w.alloc (BV #[y7 {data:=#[83,105,122,101]},y7 {data:=#[82,111,111,116]}] 9)).alloc (BV #[I U 2,I U n,I U 0,y7 {data:=#[]},Z N 0 0,Z N 0 0,Z N 0 0,I U 9,I U e,I U 0,y7 {data:=#[]},Z N 0 0,Z N 0 0,Z N 0 0] 67))
  (Bc #[I U 7,I U 0,I U 0,y7 {data:=#[]},Z (O ⟨w.heap.size+1,0,N⟩) 2 2,Z (O ⟨w.heap.size,0,N⟩) 2 2,Z N 0 0]) (tD n e):=by
 have g:=bn (w.alloc (BV #[y7 {data:=#[83,105,122,101]},y7 {data:=#[82,111,111,116]}] 9)) (BV #[I U 2,I U n,I U 0,y7 {data:=#[]},Z N 0 0,Z N 0 0,Z N 0 0,I U 9,I U e,I U 0,y7 {data:=#[]},Z N 0 0,Z N 0 0,Z N 0 0] 67);have i:=nt (BV #[I U 2,I U n,I U 0,y7 {data:=#[]},Z N 0 0,Z N 0 0,Z N 0 0,I U 9,I U e,I U 0,y7 {data:=#[]},Z N 0 0,Z N 0 0,Z N 0 0] 67) (bn w (BV #[y7 {data:=#[83,105,122,101]},y7 {data:=#[82,111,111,116]}] 9));rw[aV]at g;refine⟨Z (O ⟨w.heap.size+1,0,N⟩) 2 2,Z (O ⟨w.heap.size,0,N⟩) 2 2,Z N 0 0,[Bc #[I U 2,I U n,I U 0,y7 {data:=#[]},Z N 0 0,Z N 0 0,Z N 0 0],Bc #[I U 9,I U e,I U 0,y7 {data:=#[]},Z N 0 0,Z N 0 0,Z N 0 0]],rfl,rfl,j4.of (b:=0) ⟨rfl,C2 ⟨_,_,_,rfl,aw _,g,ag _,bF,rfl,rfl⟩⟩ (λ_ _=>trivial),?_,j4.of (b:=0) ⟨rfl,C2 ⟨_,_,_,rfl,aw _,i,ag _,bF,rfl,rfl⟩⟩ (λ_ _=>trivial),j4.nil _ _ _ _⟩;intro h k l a c;match h,a,c with
 |0,a,c=>cases a;cases c;exact iR.leaf 0 2 n 0 []
 |1,a,c=>cases a;cases c;exact iR.leaf 0 9 e 0 []
 |h+2,a,c=>simp at a
def wtrail(n a:Int):List Nat:=[116,114,97,105,108,101,114,10]++([60,60,47,83,105,122,101,32]++(gU n++([32,47,82,111,111,116,32]++(gU a++([32,48,32,82]++[62,62])))))++[10]
def TC(n a:Int):60::60::(gY (((f_.keys (α:=VT 1) (tD n a)).zip (f_.items (α:=VT 1) (tD n a))).map λb=>gN b.1++(32::gT (k:=1) b.2))++[62,62])=[60,60,47,83,105,122,101,32]++(gU n++([32,47,82,111,111,116,32]++(gU a++([32,48,32,82]++[62,62])))):=by have c:gN [83,105,122,101]=[47,83,105,122,101]:=bF;have e:gN [82,111,111,116]=[47,82,111,111,116]:=bF;show 60::60::(((gN [83,105,122,101]++(32::gU n))++((32::(gN [82,111,111,116]++(32::(gU a++[32,48,32,82]))))++[]))++[62,62])=_;rw[c,e];simp
def TA(n a:Int):gV (k:=2) (tD n a)=364:=by rfl
def Uy{c:Nat}{root:Int}(E:pR c w)(C:c<=B)(h:jg B f w r q d j)(S:G j<=1000000)(J : -9223372036854775808<=root/\root<=9223372036854775807)(aa:G d+400<=500000000):wh DG 95 #[A3 (O ⟨f,0,N⟩),I U root] w (mZ B f w q d j (wtrail ((G j:Int)+1) root)):=by
 obtain⟨X,pc,T⟩:=ke h.po;subst T;obtain⟨a,m⟩:∃a,G j=a:=⟨_,rfl⟩;rw[m]at S;have b:=H (nP h {data:=#[116,114,97,105,108,101,114,10]} (by show _+8<=_;omega));rw[m]at b ⊢;have P:wt (∀i,iP B f w i->pR c i):=λi k=>E.outk C h k;have g:=H J;clear h E m J
 go_in
 go_wp2_with fail;apply b.o.m;rintro x s ⟨rfl,al,l,n⟩;have D:=l.blk;have F:(d++bl {data:=#[116,114,97,105,108,101,114,10]}).length=G d+8:=by rw[ab];rfl
 have y:=(l.alloc (BV #[y7 {data:=#[83,105,122,101]},y7 {data:=#[82,111,111,116]}] 9)).alloc (BV #[I U 2,I U ((a:Int)+1),I U 0,y7 {data:=#[]},Z N 0 0,Z N 0 0,Z N 0 0,I U 9,I U root,I U 0,y7 {data:=#[]},Z N 0 0,Z N 0 0,Z N 0 0] 67);have p:=((iP.refl B f s).alloc (BV #[y7 {data:=#[83,105,122,101]},y7 {data:=#[82,111,111,116]}] 9)).alloc (BV #[I U 2,I U ((a:Int)+1),I U 0,y7 {data:=#[]},Z N 0 0,Z N 0 0,Z N 0 0,I U 9,I U root,I U 0,y7 {data:=#[]},Z N 0 0,Z N 0 0,Z N 0 0] 67);have e:=H (Ks (V:=tD ((a:Int)+1) root) (Hg 1) (P _ (n.t p)) C y (Tz s _ _) (TB Y g) rfl (by rw[F,TA];omega));rw[TC]at e;have u:=H (n.t p);have R:(s.alloc (BV #[y7 {data:=#[83,105,122,101]},y7 {data:=#[82,111,111,116]}] 9)).cell? ⟨f,1,N⟩=O (Z X a pc):=cb (nt _ D);clear l n y p b;go_wp2_with fail;apply e.o.m;rintro x w3 ⟨rfl,ao,z,K⟩;have v:=H (u.t K);have ac:=jp (n:=(a:Int)+1) Y Y;have ad:=jp (n:=root) g.1 g.2;have b:=H (nP z {data:=#[10]} (by show _+1<=_;rw[ab,F];simp only[ab,ai,aB];omega))
 clear z K e u D R;go_wp2_with fail;apply b.o.m;rintro x w4 ⟨rfl,W,A,L⟩;have M:=H A;have Q:=H (v.t L);clear A L b v;go_wp2
 go_end0
 refine⟨rfl,W,?_,Q⟩;have:=M.o;rw[au,au,show bl {data:=#[116,114,97,105,108,101,114,10]}=[116,114,97,105,108,101,114,10]from rfl,show bl {data:=#[10]}=[10]from rfl,<-au [116,114,97,105,108,101,114,10]]at this;exact this
end
section
variable{a k:Nat}{S:ByteArray}{w b:vz}{p:Nat}{s t:Option (List Nat)}
def oW:List Nat:=[48,48,48,48,48,48,48,48,48,48,32,54,53,53,51,53,32,102]
def nC(c:Nat):List Nat:=kN c++[32,48,48,48,48,48,32,110]
def lP(d:List (List Nat))(s:Option (List Nat)):Option (List Nat):=d.foldl (λs c=>s.bind (jj c)) s
def Q3(d:List (List Nat))(c:List Nat)(s:Option (List Nat)):lP (d++[c]) s=(lP d s).bind (jj c):=by unfold lP;rw[List.foldl_append];rfl
def JB(c:List (List Nat)):lP c N=N:=by
 induction c with
 |nil=>rfl
 |cons e c d=>exact d
def Mm:∀(c:List Nat) (r:List Nat),lP (c.map nC) (O r)=jR c r
 | [],r=>rfl
 |p::c,r=>by
  show lP (c.map nC) (jj (nC p) r)=jR (p::c) r;cases h:jj (nC p) r with
  |none=>rw[JB,tableLines_none c p r h]
  |some d=>rw[Mm c d,tableLines_some c p r d h]
def FT(a:Nat)(w:vz)(pv:wg)(e:List Nat):Prop:=∃f g,pv=Z f (G e) g/\∀d,d<G e->∃c,f=O ⟨c,0,N⟩/\c≠a/\c<w.heap.size/\w.cell? ⟨c,d,N⟩=O (I U (nth e d:Nat))
def ti(c:List Nat)(s:Option (List Nat)):s.bind (jj c)=(if cB [32,10] (s.bind (gh c))then cS [32,10] (s.bind (gh c))else if cB [13,10] (s.bind (gh c))then cS [13,10] (s.bind (gh c))else N):=by
 cases s with
 |none=>rfl
 |some r=>
  show jj c r=_;simp only[Option.bind_some];unfold jj cB cS;cases gh c r with
  |none=>rfl
  |some d=>
   simp only[Option.bind_some];cases gh [32,10] d with
   |some e=>rfl
   |none=>
    cases gh [13,10] d with
    |some e=>rfl
    |none=>rfl
def RB{pv:wg}{c:List Nat}(h:Sn a S w p s)(hp:FT a w pv c)(hl:G c<=200000)(hb:∀d,d<G c->nth c d<=200000):wh DG 125 #[A3 (O ⟨a,0,N⟩),pv] w λg b=>g=BX (BG #[])/\kJ a S w b (lP (oW::c.map nC) (s.bind (gh ([10,48,32]++gJ (G c+1)++[10])))):=by
 have ba:=H hp;obtain⟨pa,pc,rfl,bd⟩:=hp;have ac:=H (Cw (G c+1) Y w);have b3:(gj (gJ (G c+1))).size<=19:=by rw[lu];exact xe 18 _ Y
 have bb:wt (bl (({data:=#[10,48,32]}:ByteArray)++gj (gJ (G c+1))++({data:=#[10]}:ByteArray))=[10,48,32]++gJ (G c+1)++[10]):=by
  unfold Hid;have:({data:=#[10,48,32]}:ByteArray)++gj (gJ (G c+1))++({data:=#[10]}:ByteArray)=gj ([10,48,32]++gJ (G c+1)++[10]):=by rw[pE,pE];rfl
  rw[this];exact vJ _ (λM r=>by
   rcases aZ.1 r with m|m
   ·rcases aZ.1 m with i|i;·simp at i;omega
    ·exact Hu _ M i
   ·simp at m;omega)
 have ao:=H (Bl h (({data:=#[10,48,32]}:ByteArray)++gj (gJ (G c+1))++({data:=#[10]}:ByteArray)) vy);rw[bb.o]at ao;generalize b2:s.bind (gh ([10,48,32]++gJ (G c+1)++[10]))=u at *;generalize gj (gJ (G c+1))=bv at *;have a8:=H (λ(d:Nat) (hi:d<G c) (bc:vz)=>J1 (nth c d) (by have:=hb d hi;omega) bc);have aa:=H bd;have a4:=H hb;obtain⟨j,V⟩:∃j,G c=j:=⟨_,rfl⟩;rw[V]at aa hl;have b4:IntKind.i64.wrap ((j:Int)+1)=((j+1:Nat):Int):=by rw[bu];omega
 rw[V]at ac ba ⊢;have y:=H V
 go_in
 go_wp2_with fail;apply ac.o.m;rintro g w0 ⟨rfl,q⟩;have q:=q.s;subst q;go_wp2_with fail;apply ao.o.m;rintro g w1 ⟨rfl,k1⟩;have K1:=H k1;go_wp2_with fail;go_loopw [4] (λJ wr=>∃e:Nat,e<=j+1/\J=I U ((e:Int)-1)/\wt (kJ a S w wr (lP ((oW::c.map nC).take e) u))) (λJ _=>j+1-((intOf J)+1).toNat)
 case atStart=>exact⟨0,Y,rfl,K1⟩
 case round=>
  obtain⟨e,hj,rfl,P⟩:=hrel;obtain⟨⟨p2,i⟩,o2⟩:=P.o;rcases aC hj with he|bz
  ·have t1:decide ((e:Int)-1<(j:Int))=CS:=eS;have HE:wt (lP ((oW::c.map nC).take e) u=lP (oW::c.map nC) u):=by unfold Hid;rw[aP (by rw[ai,aq,y.o];omega)]
   go_wp2
   go_end0
   rw[<-HE.o];exact⟨rfl,P⟩
  ·have t1:decide ((e:Int)-1<(j:Int))=CD:=eS;obtain⟨f,T⟩:∃f,(oW::c.map nC)[e]?=O f:=⟨_,af (by rw[ai,aq,y.o];omega)⟩;have l:wt (lP ((oW::c.map nC).take (e+1)) u=(lP ((oW::c.map nC).take e) u).bind (jj f)):=by unfold Hid;rw[cP,T,show(O f).toList=[f]from rfl,Q3]
   have al:=H T;have X:=H i;have R:=H o2;generalize lP ((oW::c.map nC).take e) u=K at *;obtain⟨n,W⟩:∃n,lP ((oW::c.map nC).take (e+1)) u=n:=⟨_,rfl⟩;rw[W]at l;have Q:=H W;clear W;clear T i o2 P;rw[ti]at l
   go_upto_if 22 with fail
   go_cut [4]from 15 to 48 (λJ wx=>J=I U ((e:Int)-1)/\wt (kJ a S w wx (K.bind (gh f))))
   case first=>
    by_cases a2:e=0
    ·have a3:(e:Int)-1<0:=Y;have a6:wt (f=oW):=by have:=al.o;rw[a2]at this;cases this;rfl
     have B:=H (Bl X {data:=#[48,48,48,48,48,48,48,48,48,48,32,54,53,53,51,53,32,102]} bF);rw[show bl {data:=#[48,48,48,48,48,48,48,48,48,48,32,54,53,53,51,53,32,102]}=oW from rfl,<-a6.o]at B;clear a2;go_wp2_with fail;apply B.o.m;rintro g L ⟨rfl,z⟩;have D:wt (kJ a S w L (K.bind (gh f))):=⟨z.1,R.t z.2⟩;clear z;go_wp2
     go_meet
     case rel=>exact⟨rfl,D⟩
    ·have a3:¬(e:Int)-1<0:=Y;obtain⟨d,bt⟩:∃d,(e:Int)-1=(d:Nat):=⟨e-1,Y⟩;have bs:e=d+1:=Y;have F:d<j:=Y;have a5:wt (f=nC (nth c d)):=by have:=al.o;rw[bs,eY,aE,af sk]at this;simp only[bK,Option.some.injEq]at this;rw[<-this];congr 1;unfold nth;rw[aL,af sk];rfl
     obtain⟨a0,rfl,br,bm,bh⟩:=aa.o d F;have bw:wr.cell? ⟨a0,d,N⟩=O (I U (nth c d:Nat)):=by rw[World.cell?_of_block (w:=w) (R.o.block a0 bm br)];exact bh
     have a9:=H (a8 d sk);have b0:=a4.o d sk;have HB:wt (bl (gj (kN (nth c d))++({data:=#[32,48,48,48,48,48,32,110]}:ByteArray))=f):=by
      unfold Hid;rw[a5.o];have:gj (kN (nth c d))++({data:=#[32,48,48,48,48,48,32,110]}:ByteArray)=gj (nC (nth c d)):=by unfold nC;rw[pE];rfl
      rw[this];exact vJ _ (λM r=>by
       unfold nC at r;rcases aZ.1 r with m|m
       ·unfold kN at m;rcases aZ.1 m with i|i;·rw[List.eq_of_mem_replicate i];omega
        ·exact Hu _ M i
       ·simp at m;omega)
     have b1:(gj (kN (nth c d))).size<=40:=by rw[lu];unfold kN;have:=xe 18 (nth c d) Y;rw[ab,bj];omega
     have B:=H (Bl X (gj (kN (nth c d))++({data:=#[32,48,48,48,48,48,32,110]}:ByteArray)) vy);rw[HB.o]at B;have bx:(d:Int)<(j:Int):=Y;generalize gj (kN (nth c d))=PD at *;generalize nth c d=pi at *;have ad:=H bt;rw[ad.o]at a3 ⊢;go_wp2_with fail;apply(a9 _).m;rintro g L ⟨rfl,q⟩;have q:=q.s;subst q;go_wp2_with fail;apply B.o.m;rintro g L ⟨rfl,z⟩;have D:wt (kJ a S w L (K.bind (gh f))):=⟨z.1,R.t z.2⟩;go_wp2
     go_meet
     case rel=>exact⟨by rw[ad.o],D⟩
   case rest=>
    obtain⟨rfl,D⟩:=hcut;obtain⟨⟨p3,h3⟩,o3⟩:=D.o;have x:=H (zT h3 {data:=#[32,10]} bF);rw[show bl {data:=#[32,10]}=[32,10]from rfl]at x;have O3:=H o3;generalize K.bind (gh f)=v at *;cases E:cB [32,10] v with
    |true=>
     rw[E]at x l;have C:wt (n=cS [32,10] v):=by unfold Hid;rw[l.o];rfl
     go_wp2_with fail;apply x.o.m;rintro g w4 ⟨rfl,k4⟩;have K4:wt (kJ a S w w4 n):=by unfold Hid;rw[C.o];exact⟨k4.1,O3.t k4.2⟩
     go_wp2;go_roundw
     case rel=>exact⟨e+1,Y,by congr 1;omega,by unfold Hid;rw[Q.o];exact K4⟩
     case measure=>exact eT
    |false=>
     rw[E]at x l;have bf:cS [32,10] v=v:=by
      unfold cB at E;cases r:v.bind (gh [32,10])with
      |none=>exact(A7 r).2
      |some M=>rw[r]at E;cases E
     rw[bf]at x;go_wp2_with fail;apply x.o.m;rintro g w4 ⟨rfl,⟨p4,h4⟩,o4⟩;have A:=H (zT h4 {data:=#[13,10]} bF);rw[show bl {data:=#[13,10]}=[13,10]from rfl]at A;have O4:=H (O3.t o4);cases a1:cB [13,10] v with
     |true=>
      rw[a1]at A l;have C:wt (n=cS [13,10] v):=by unfold Hid;rw[l.o];rfl
      go_wp2_with fail;apply A.o.m;rintro g w5 ⟨rfl,k5⟩;have K5:wt (kJ a S w w5 n):=by unfold Hid;rw[C.o];exact⟨k5.1,O4.t k5.2⟩
      go_wp2;go_roundw
      case rel=>exact⟨e+1,Y,by congr 1;omega,by unfold Hid;rw[Q.o];exact K5⟩
      case measure=>exact eT
     |false=>
      rw[a1]at A l;have C:wt (n=N):=by unfold Hid;rw[l.o];rfl
      go_wp2_with fail;apply A.o.m;rintro g w5 ⟨rfl,⟨p5,h5⟩,o5⟩;have a7:=H (tZ h5);have O5:=H (O4.t o5);go_wp2_with fail;apply a7.o.m;rintro g w6 ⟨rfl,h6,o6⟩;have K6:wt (kJ a S w w6 n):=by unfold Hid;rw[C.o];exact⟨⟨_,h6⟩,O5.t o6⟩
      go_wp2;go_roundw
      case rel=>exact⟨e+1,Y,by congr 1;omega,by unfold Hid;rw[Q.o];exact K6⟩
      case measure=>exact eT
end
section
variable{w a:vz}
def fname(b:Nat):ByteArray:=if b=1 then{data:=#[65,83,67,73,73,72,101,120,68,101,99,111,100,101]} else if b=2 then{data:=#[65,83,67,73,73,56,53,68,101,99,111,100,101]} else if b=3 then{data:=#[82,117,110,76,101,110,103,116,104,68,101,99,111,100,101]} else{data:=#[70,108,97,116,101,68,101,99,111,100,101]}
def JV(b:Nat)(i:b<=100000)(w:vz):wh DG 89 #[I U (b:Nat)] w λg a=>g=BX (y7 (fname b))/\a=w:=by
 rcases(show b=1\/b=2\/b=3\/(b≠1/\b≠2/\b≠3)by omega)with rfl|rfl|rfl|⟨c,d,e⟩
 rotate_right
 ·have e1:((b:Int)==1)=CS:=eS;have e2:((b:Int)==2)=CS:=eS;have h:((b:Int)==3)=CS:=eS;have f:wt (fname b={data:=#[70,108,97,116,101,68,101,99,111,100,101]}):=by unfold Hid fname;rw[aj c,aj d,aj e]
  clear c d e
  go_in
  go_wp2;go_ret;rw[f.o];exact⟨rfl,rfl⟩
 all_goals
  go_in
  go_wp2;go_ret;exact⟨rfl,rfl⟩
end
section
variable{w w':vz}{B bf:Nat}{t y:wg}{d r:List Nat}
def jg.place{c:wg}{l:Nat}(h:jg B bf w t y d r)(o:w'.ownsRow B 3 1 c (G r+1) ((r.map λD:Nat=>I U D)++[I U l]))(b:w.grownBy w' y.ownBlock):jg B bf (w'.setCell ⟨bf,1,N⟩ c) t c d (r++[l])/\wm B w (w'.setCell ⟨bf,1,N⟩ c):=by
 have z:∀a,y.ownBlock=O a->a≠bf:=λa b=>by rintro rfl;obtain⟨_,g,q,e⟩:=oQ h.po a b;rw[h.blk]at e;simp at e
 have m:w'.heap[bf]?=O (BV #[t,y] 122 (0,0)):=by rw[b.block bf h.lt (λf=>z bf f.s rfl)];exact h.blk
 have u:(w'.setCell ⟨bf,1,N⟩ c).heap[bf]?=O (BV #[t,c] 122 (0,0)):=by rw[nu _ m];rfl
 have A:∀a,c.ownBlock=O a->a≠bf:=λa v=>by rintro rfl;obtain⟨_,g,q,e⟩:=oQ o a v;rw[m]at e;simp at e
 have C:w'.ownsRow B 5 1 t (G d) (nU d):=by
  obtain⟨s,i⟩:=h.oo;refine⟨s,?_⟩;rcases i with i|⟨a,g,p,e1,e2,j,e⟩;·exact C1 i
  ·refine C2 ⟨a,g,p,e1,e2,?_,e⟩;rw[b.block a (ap j) (λf=>?_)];·exact j
   ·obtain⟨_,E,F,n⟩:=oQ h.po a f.s;rw[j]at n;simp at n
 refine⟨⟨h.hb,u,Gy C _ _ (λa b=>h.ne a b),?_⟩,?_⟩
 ·have:=Gy o ⟨bf,1,N⟩ c A;rw[ab,aI];exact this
 ·refine Below.setCell (p:=⟨bf,1,N⟩) ⟨b.os,b.tape,b.output,b.size,λk x=>b.block k (aF x h.bw) (λf=>?_)⟩ h.hb c;have:=(oQ h.po k f.s).1;omega
def QV:(Tryz.prog.info? 3).map (λa=>(a.zero,a.size,a.bytes))=O (O (I U 0),1,8):=by kernel_rfl
def Gp{w:vz}{c:Nat}:∀(a:Nat) (b:wg),[I U c][a]?=O b->(w.alloc (BV #[I U (c:Nat)] 3)).cell? ((⟨w.heap.size,0,N⟩:wT).add a)=O b:=by
 intro a b h;match a,h with
 |0,h=>cases h;rw[sK,cb (bn w _)];rfl
 |a+1,h=>simp at h
def wohead(n:Int):List Nat:=gU n++[32,48,32,111,98,106,10]
def wint_pos(b:Int):0<(gU b).length:=by
 have h:∀a,0<(gJ a).length:=λa=>by unfold gJ;rw[aq,Lib.decDigits];split<;>simp
 unfold gU;split;·simp
 ·exact h _
structure AZ(B bf:Nat)(t:wg)(d:List Nat)(Y:vz->wg->List Nat->Prop):Prop where
 hb:B<=bf
 form:∃va vc,t=Z va (G d) vc
 blk:∀{W:vz} {p:wg} {l:List Nat},Y W p l->W.heap[bf]?=O (BV #[t,p] 122 (0,0))
 po:∀{W:vz} {p:wg} {l:List Nat},Y W p l->W.ownsRow B 3 1 p (G l) (l.map λx:Nat=>I U x)
 below:∀{W W':vz} {p:wg} {l:List Nat},Y W p l->wm W.heap.size W W'->Y W' p l
 place:∀{W W':vz} {p:wg} {l:List Nat} {v:wg} {q:Nat},Y W p l->W'.ownsRow B 3 1 v (G l+1) ((l.map λx:Nat=>I U x)++[I U q])->W.grownBy W' p.ownBlock->Y (W'.setCell ⟨bf,1,N⟩ v) v (l++[q])/\wm B W (W'.setCell ⟨bf,1,N⟩ v)
 put:∀{W:vz} {p:wg} {l:List Nat},Y W p l->∀S T:ByteArray,0<S.size->G d+(S.size+T.size)<=500000000->wh DG 96 #[A3 (O ⟨bf,0,N⟩),Z (O ⟨W.heap.size,0,N⟩) 2 2] (W.alloc (BV #[y7 S,y7 T] 9)) λe w'=>e=BX (BG #[])/\∃ov',jg B bf w' ov' p (d++(bl S++bl T)) l/\iP B bf W w'
def AZ.bw{b:vz->wg->List Nat->Prop}(c:AZ B bf t d b){a:vz}{p:wg}{e:List Nat}(h:b a p e):B<=a.heap.size:=eX (eV c.hb (ap (c.blk h)))
def AZ.alloc{a:vz->wg->List Nat->Prop}(s:AZ B bf t d a){W:vz}{p:wg}{b:List Nat}(h:a W p b)(c:Obj):a (W.alloc c) p b:=s.below h ((ar _ _).alloc (ag _) c)
def AZ.da{a:vz->wg->List Nat->Prop}(f:AZ B bf t d a){b:vz}{p:wg}{c:List Nat}(h:a b p c)(e:Obj):a (b.drew.alloc e) p c:=f.alloc (f.below h (ar _ _).drew) e
def Od{ad:Nat}{R:List Nat->Prop}{ao:Nat}{z:Int}{f u v:Int}{x:ByteArray}{k m i:Option wT}{q l s n p j:Nat}(he:pR ad w)(hR:∀g,R g->G g<=ao)(a4:ad<=B){a1:vz->wg->List Nat->Prop}(a:AZ B bf t d a1)(h:a1 w y r)(X : -9223372036854775808<=z)(aa:z<=9223372036854775807)(ce:G r<=1000000)(cc:G d+100+ao<=500000000)
  (bd:∀(c:vz) (o1 Q:wg),jg B bf c o1 Q (d++wohead z) (r++[G d])->wm B w c->wh DG (bif f==8 then 131 else 132) #[A3 (O ⟨bf,0,N⟩),Bc #[I U f,I U u,I U v,y7 x,Z k q l,Z m s n,Z i p j]] c λb w'=>∃g,R g/\mZ B bf c Q (d++wohead z) (r++[G d]) g b w'):wh DG 93 #[A3 (O ⟨bf,0,N⟩),I U z,Bc #[I U f,I U u,I U v,y7 x,Z k q l,Z m s n,Z i p j]] w λb w'=>b=BX (BG #[])/\∃g o1 Q,R g/\jg B bf w' o1 Q (d++(wohead z++(g++[10,101,110,100,111,98,106,10]))) (r++[G d])/\wm B w w':=by
 obtain⟨i0,hi,b5,b6,b7⟩:=bR QV;obtain⟨D,E,bt⟩:=ke (a.po h);subst bt;obtain⟨va,vc,bs⟩:=a.form;subst bs;have A:=a.alloc h (BV #[I U f,I U u,I U v,y7 x,Z k q l,Z m s n,Z i p j] 67);have b1:wm B w (w.alloc (BV #[I U f,I U u,I U v,y7 x,Z k q l,Z m s n,Z i p j] 67)):=(ar _ _).alloc (a.bw h) _;have bx:(w.alloc (BV #[I U f,I U u,I U v,y7 x,Z k q l,Z m s n,Z i p j] 67)).heap[w.heap.size]?=O (BV #[I U f,I U u,I U v,y7 x,Z k q l,Z m s n,Z i p j] 67 (0,0)):=bn _ _;have al:=H (ap (a.blk h))
 go_in
 go_wp2_with fail;generalize b9:w.alloc (BV #[I U f,I U u,I U v,y7 x,Z k q l,Z m s n,Z i p j] 67)=K at *;have c0:=nw (a.blk A);have c1:=rU (a.blk A);have H1:=H A;have bc:=a.bw A;have a9:wt (∀c,(K.drew.alloc (BV #[I U (G d:Int)] 3)).grownBy c (Z D (G r) E).ownBlock->c.heap[bf]?=O (BV #[Z va (G d) vc,Z D (G r) E] 122 (0,0))):=λc e=>by
  have C:=a.da A (BV #[I U (G d:Int)] 3);rw[e.block bf (ap (a.blk C)) (λb=>by obtain⟨_,a2,bb,J⟩:=oQ (a.po C) bf b.s;rw[a.blk C]at J;simp at J)]
  exact a.blk C
 have ba:wt (∀c,(K.drew.alloc (BV #[I U (G d:Int)] 3)).grownBy c (Z D (G r) E).ownBlock->c.heap[w.heap.size]?=O (BV #[I U f,I U u,I U v,y7 x,Z k q l,Z m s n,Z i p j] 67 (0,0))):=λc e=>by
  have C:=a.da A (BV #[I U (G d:Int)] 3);have ac:(K.drew.alloc (BV #[I U (G d:Int)] 3)).heap[w.heap.size]?=O (BV #[I U f,I U u,I U v,y7 x,Z k q l,Z m s n,Z i p j] 67 (0,0)):=nt _ bx;rw[e.block _ (ap ac) (λb=>by obtain⟨_,a2,bb,J⟩:=oQ (a.po C) _ b.s;rw[ac]at J;simp at J)]
  exact ac
 have b8:(K.alloc (BV #[I U (G d:Int)] 3)).cell? ⟨bf,1,N⟩=O (Z D (G r) E):=by rw[cb (a.blk (a.alloc A _))];rfl
 go_region_law (refine Cy rfl (.tmp 10) (.tmp 16) 52 rfl B 3 i0 (I U 0) 1 8 dF hi b5 b6 b7 rfl bF (Z D (G r) E) (G r) _ rfl (a.po (a.da H1 _)) ⟨K.heap.size,0,N⟩ 1 1 [I U (G d:Int)] rfl rfl ?hnews ?hone ?h63 ?hby ?hb ?_;(case hnews=>exact Gp);(case hone=>intro ci hu;simp at hu;subst hu;rfl);(case h63=>unfold maxLen;omega);(case hby=>omega);(case hb=>simp;omega);intro v6 F a8 W _;have HG:=H (a.place (a.da H1 (BV #[I U (G d:Int)] 3)) a8 W);have a5:=a9.o F W;have HX:=H (ba F W);have c6:F.cell? ⟨bf,1,N⟩=O (Z D (G r) E):=(cb a5);have f6:F.frozen? ⟨bf,1,N⟩=CS:=pA a5;obtain⟨a6,e6,bv⟩:=ke a8;subst bv);all_goals (
  have a7:(F.setCell ⟨bf,1,N⟩ (Z a6 (G r+1) e6)).heap[w.heap.size]?=O (BV #[I U f,I U u,I U v,y7 x,Z k q l,Z m s n,Z i p j] 67 (0,0)):=by rw[lK _ (by have:=al.o;omega)];exact HX
  have P:=HG.o.1;have b2:=((b1.drew.alloc (by exact bc) _).t HG.2);go_wp2_with fail;generalize ca:F.setCell ⟨bf,1,N⟩ (Z a6 (G r+1) e6)=w2 at *;apply(Hb (he.low (b2.m a4)) (aJ a4 (a.bw P)) z X aa).m;rintro b w3 ⟨a0,rfl,V,M⟩;have cf:a0.size<=20:=by rw[<-mC,V];exact jp X aa
  have L:=H (a.put (a.below P M) a0 {data:=#[32,48,32,111,98,106,10]} (by rw[<-mC,V];exact wint_pos z) (by show _+(_+7)<=_;omega));rw[V]at L;have bz:=(M.block _ (ap a7)).t a7;have B3:=H (b2.t (M.m (a.bw P)));have bh:=a.bw (a.below P M);go_wp2_with fail;apply L.o.m;rintro b w4 ⟨rfl,o4,S,k4⟩;have b0:=k4.block _ _ (by simp;have:=al.o;omega) bz (C2 λa2 fz b=>by cases b);have b4:=B3.o.t (Kept.below k4.toKept bh (λa3 e=>by simp at e;subst e;exact S.hb));have HB:=H (bd w4 o4 _ S b4);have B4:=H b4;have bm:=S.bw;obtain⟨d0,d1,d2,d3,d4,d5,d6⟩:=A5 b0;cases hk:(f==8);all_goals
   rw[hk]at HB;go_wp2_with fail;apply HB.o.m;rintro b w5 ⟨g,hm,rfl,o5,T,k5⟩;have cd:=hR g hm;have HM:=H hm;have cg:=jp X aa;have L:=H (nP T {data:=#[10,101,110,100,111,98,106,10]} (by show _+8<=_;unfold wohead;simp only[ab,ai,aB];omega));have B5:=H (B4.t (Kept.below k5.toKept bm (λa3 e=>by simp at e;subst e;exact T.hb)));have br:=T.bw;go_wp2_with fail;apply L.o.m;rintro b w7 ⟨rfl,o7,h7,k7⟩;have H7:=H h7;have B7:=H (B5.t (Kept.below k7.toKept br (λa3 e=>by simp at e;subst e;exact h7.hb)));go_wp2
   go_end0
   have h9:=H7.o;rw[au,au]at h9;exact⟨rfl,g,o7,_,HM,h9,B7⟩)
def jg.st(f:B<=bf)(g:∃j k,t=Z j (G d) k):AZ B bf t d (λe p i=>jg B bf e t p d i):=⟨f,g,λh=>h.blk,λh=>h.po,λh b=>h.below b,λh=>h.place,λh a c _=>AL h a c⟩
def Kw{k:Nat}{f:List Nat->Prop}{l:Nat}{b:Int}{i z A:Int}{C:ByteArray}{o q m:Option wT}{v p x s u n:Nat}(J:pR k w)(E:∀a,f a->G a<=l)(D:k<=B)(h:jg B bf w t y d r)(L : -9223372036854775808<=b)(M:b<=9223372036854775807)(P:G r<=1000000)(K:G d+100+l<=500000000)
  (F:∀(c:vz) (j e:wg),jg B bf c j e (d++wohead b) (r++[G d])->wm B w c->wh DG (bif i==8 then 131 else 132) #[A3 (O ⟨bf,0,N⟩),Bc #[I U i,I U z,I U A,y7 C,Z o v p,Z q x s,Z m u n]] c λg w'=>∃a,f a/\mZ B bf c e (d++wohead b) (r++[G d]) a g w'):wh DG 93 #[A3 (O ⟨bf,0,N⟩),I U b,Bc #[I U i,I U z,I U A,y7 C,Z o v p,Z q x s,Z m u n]] w λg w'=>g=BX (BG #[])/\∃a j e,f a/\jg B bf w' j e (d++(wohead b++(a++[10,101,110,100,111,98,106,10]))) (r++[G d])/\wm B w w':=Od J E D (jg.st h.hb (ke h.oo)) h L M P K F
end
section
variable{b:Nat}{S:ByteArray}{w d:vz}{p:Nat}{s t:Option (List Nat)}
def j7(s:ByteArray):Nat:=if fname 1=s then 1 else if fname 2=s then 2 else if fname 3=s then 3 else 4
def Dy(s:ByteArray):rI s=if fname (j7 s)=s then j7 s else 0:=by
 have e1:ii 1=fname 1:=rfl;have e2:ii 2=fname 2:=rfl;have f:ii 3=fname 3:=rfl;have g:ii 4=fname 4:=rfl;simp only[rI,zP,j7,e1,e2,f,g];by_cases a:fname 1=s;·simp only[ak a]
 ·simp only[aj a];by_cases c:fname 2=s;·simp only[ak c]
  ·simp only[aj c];by_cases e:fname 3=s;·simp only[ak e]
   ·simp only[aj e]
def sQ(s:ByteArray):1<=j7 s/\j7 s<=4:=by
 unfold j7;repeat' split
 all_goals omega
def ut{s:ByteArray}{a:Nat}(g:1<=a)(h:a<=4)(c:∀e,1<=e->e<a->fname e≠s)(f:a=4\/fname a=s):j7 s=a:=by
 unfold j7;rcases(show a=1\/a=2\/a=3\/a=4 by omega)with rfl|rfl|rfl|rfl;·rw[ak (f.resolve_left Y)]
 ·rw[aj (c 1 Y Y),ak (f.resolve_left Y)]
 ·rw[aj (c 1 Y Y),aj (c 2 Y Y),ak (f.resolve_left Y)]
 ·rw[aj (c 1 Y Y),aj (c 2 Y Y),aj (c 3 Y Y)]
def lz{k:Nat}(a:VT k):List (Nat×List Nat):=if kO a=6 then iK a else[kt a]
def l8(a:Nat×List Nat):Bool:=decide (a.1=4)&&decide (fname (j7 (gj a.2))=gj a.2)
def rF:∀c,l7 c=if c.all l8=CD then O (c.map λa=>j7 (gj a.2))else N
 | []=>rfl
 |a::c=>by
  rw[l7,rF c,dD,Dy];by_cases e:a.1=4
  ·by_cases f:fname (j7 (gj a.2))=gj a.2
   ·have g:=(sQ (gj a.2)).1;rw[ak f,ak ⟨e,g⟩];have:l8 a=CD:=by unfold l8;rw[aH e,aH f];rfl
    rw[this,cC];split<;>rfl
   ·rw[aj f,aj Y];have:l8 a=CS:=by unfold l8;rw[av f,Bool.and_false]
    rw[this,Bool.false_and];rfl
  ·rw[aj (λh=>e h.1)];have:l8 a=CS:=by unfold l8;rw[av e,Bool.false_and]
   rw[this,Bool.false_and];rfl
def uu(c:Nat)(a:List (Nat×List Nat))(s:Option (List Nat)):Option (List Nat):=if(a=[]\/c<=4)/\a.all l8=CD then s else N
def Ql(c:Nat)(g:List (Nat×List Nat))(i:Nat×List Nat)(s:Option (List Nat)):uu c (g++[i]) s=if l8 i=CD/\c<=4 then uu c g s else N:=by
 unfold uu;rw[List.all_append];simp only[dD,List.all_nil,Bool.and_true,a_];by_cases a:c<=4
 ·by_cases f:l8 i=CD
  ·rw[ak (⟨f,a⟩:_/\_)];by_cases e:g.all l8=CD;·rw[ak ⟨C2 a,e,f⟩,ak ⟨C2 a,e⟩]
   ·rw[aj (λh=>e h.2.1),aj (λh=>e h.2)]
  ·rw[aj (λh=>f h.2.2),aj (λh=>f h.1)]
 ·rw[aj (λh=>h.1.elim (λj=>by simp at j) a),aj (λh=>a h.2)]
def AY(b:Nat)(w:vz)(i:wg)(g:List (Nat×List Nat)):Prop:=∃f h,i=Z f (G g) h/\∀c e,g[c]?=O e->∃a,f=O ⟨a,0,N⟩/\a≠b/\a<w.heap.size/\w.cell? ⟨a,c*7,N⟩=O (I U (e.1:Int))/\w.cell? ⟨a,c*7+3,N⟩=O (y7 (gj e.2))
def AY.only{v:wg}{l:List (Nat×List Nat)}(h:AY b w v l)(f:iJ b w d):AY b d v l:=by obtain⟨a,c,m,n⟩:=h;refine⟨a,c,m,λi x o=>?_⟩;obtain⟨g,e1,e2,e,j,k⟩:=n i x o;exact⟨g,e1,e2,aF e f.size,by rw[World.cell?_of_block (w:=w) (f.block g e e2)];exact j,by rw[World.cell?_of_block (w:=w) (f.block g e e2)];exact k⟩
def AY.of{j:wg}{i:List (Nat×List Nat)}(h:vt i w j)(o:Sn b S w p s):AY b w j i:=by
 obtain⟨k,l,c⟩:=h.len;refine⟨k,l,c,λg J q=>?_⟩;obtain⟨m,r,e,E,F,y,A,z,B,D,C,u,x,v,f⟩:=h.at q;rw[c]at e;injection e with e1;have a:=f 0 _ rfl;refine⟨m,e1,λn=>?_,aA w _ a,a,f 3 _ rfl⟩;subst n;rw[cb o.blk]at a;match g,a with
 |0,a=>cases a
 |g+1,a=>rw[Array.getElem?_eq_none eS]at a;cases a
def RQ{e wr:vz}{g f n m:Nat}{j:wg}{o:List wg}(h:wr.ownsRow g f n j m o)(q:e.heap.size<=g)(c:wr.grownBy d j.ownBlock)(a:iJ b e wr):iJ b e d :=
 ⟨c.os.t a.os,c.tape.t a.tape,c.output.t a.output,aJ a.size c.size,λi k l=>(c.block i (by have:=a.size;omega) (λf=>by have:=(h.lt _ f.s).1;omega)).t (a.block i k l)⟩
def Sn.grown{wr:vz}{c a j i:Nat}{e:wg}{k:List wg}(h:Sn b S wr p s)(g:wr.ownsRow c a j e i k)(l:b<c)(f:wr.grownBy d e.ownBlock):Sn b S d p s:=
 ⟨by rw[f.block _ h.lt (λa=>by have:=(g.lt _ a.s).1;omega)];exact h.blk,h.lp,h.ls,h.rest⟩
def Rx{ct:Nat->Prop}{k:Nat}{ca:wg}{e:VT k}(h:Sn b S w p s)(hv:iR ct k w ca e)(cw:(lz e).length<=200000):wh DG 229 #[A3 (O ⟨b,0,N⟩),ca] w λb0 d=>∃z,b0=BX z/\d.ownsRow w.heap.size 3 1 z (lz e).length ((lz e).map λc=>I U ((j7 (gj c.2):Nat):Int))/\kJ b S w d (uu (lz e).length (lz e) s):=by
 obtain⟨i0,cy,c8,c9,da⟩:=bR Mg;obtain⟨pp,iv,kv,z,rfl,b8,⟨L,P,M,rfl⟩,⟨ka,kl,kc,rfl⟩,W,fl,X,rfl⟩:=hv.items;have di:=h.lt;obtain⟨f,aa⟩:∃f,(w.alloc (BV #[I U (kO e:Int),I U (tK e),I U pp,y7 (gj (tO e)),Z L P M,Z ka kl kc,Z W fl X] 67)).alloc (BV #[I U (kO e:Int),I U (tK e),I U pp,y7 (gj (tO e)),Z L P M,Z ka kl kc,Z W fl X] 67)=f:=⟨_,rfl⟩;have b1:wm w.heap.size w f:=by rw[<-aa];exact((ar _ _).alloc (ag _) _).alloc cO _
 have c4:f.heap.size=w.heap.size+2:=by rw[<-aa];simp
 have x1:f.heap[w.heap.size+1]?=O (BV #[I U (kO e:Int),I U (tK e),I U pp,y7 (gj (tO e)),Z L P M,Z ka kl kc,Z W fl X] 67 (0,0)):=by rw[<-aa];have:=bn (w.alloc (BV #[I U (kO e:Int),I U (tK e),I U pp,y7 (gj (tO e)),Z L P M,Z ka kl kc,Z W fl X] 67)) (BV #[I U (kO e:Int),I U (tK e),I U pp,y7 (gj (tO e)),Z L P M,Z ka kl kc,Z W fl X] 67);rw[aV]at this;exact this
 have bc:wt (kO e=6->AY b f (Z L P M) (lz e)):=λy=>by unfold lz;rw[ak y];exact(AY.of b8 h).only (.of_below b1)
 have bb:wt (kO e≠6->AY b f (Z (O ⟨w.heap.size+1,0,N⟩) 1 1) (lz e)):=λy=>by
  unfold lz;rw[aj y];refine⟨_,_,rfl,λa c A=>?_⟩;match a,A with
  |0,A=>cases A;exact⟨_,rfl,Y,Y,cb x1,cb x1⟩
  |a+1,A=>simp at A
 have cq:=H (h.other b1);have cd:=H b1;have bz:=H aa;obtain⟨j,hN⟩:∃j,(lz e).length=j:=⟨_,rfl⟩;rw[hN]at cw ⊢;have HN:=H hN;generalize lz e=n at *;clear h hv b8 b1 x1 aa hN
 go_in
 go_upto_if 13 with fail
 go_cut [5]from 9 (λlv D=>wt (AY b f lv n)/\D=f)
 case first=>
  by_cases y:kO e=6
  ·have e6:((kO e:Int)==6)=CD:=by rw[y];rfl
   have Q:=H (bc y);clear y bc bb;go_wp2
   go_meet
   case rel=>exact⟨Q,bz⟩
  ·have e6:((kO e:Int)==6)=CS:=eS;have Q:=H (bb y);go_wp2
   go_meet
   case rel=>exact⟨Q,bz⟩
 case rest=>
 obtain⟨Q,r⟩:=hcut;have r:=r.s;subst r;obtain⟨la,lc,rfl,c1⟩:=Q.o;rw[HN.o];have ck:wt (iJ b f f):=iJ.refl _ _;have cg:=H c1;have cn:wt (f.ownsRow f.heap.size 3 1 (Z N 0 0) 0 ((n.take 0).map λc=>I U ((j7 (gj c.2):Nat):Int))):=bI _ _ _ _;go_wp2_with fail;go_loopw [6,7] (λov iv wr=>∃(a:Nat) (C:Nat) (t:Option (List Nat)),a<=j/\iv=I U a/\wt (wr.ownsRow f.heap.size 3 1 ov a ((n.take a).map λc=>I U ((j7 (gj c.2):Nat):Int)))/\wt (iJ b f wr)/\wt (Sn b S wr C t)/\wt (t=uu j (n.take a) s)) (λ_ iv _=>j-(intOf iv).toNat)
 case atStart=>exact⟨0,_,s,aw _,rfl,cn,ck,cq,by simp[wt,uu]⟩
 case round=>
  obtain⟨a,C,t,hi,rfl,T,R,HS,HT⟩:=hrel;obtain⟨oa,oc,c2⟩:=ke T;subst c2;rcases aC hi with hi|hi
  ·subst hi;have dd:¬(a:Int)<(a:Int):=Y;have cv:n.take a=n:=aP (by have:=HN.o;omega);rw[cv]at T HT;go_wp2;go_ret;refine⟨_,rfl,Bq T (show w.heap.size<=f.heap.size by omega),⟨C,by rw[<-HT.o];exact HS⟩,(iJ.of_below cd).t R⟩
  ·have dg:(a:Int)<(j:Int):=Y;obtain⟨c,A⟩:∃c,n[a]?=O c:=⟨_,af (by have:=HN.o;omega)⟩;obtain⟨m,rfl,b7,b6,b3,b4⟩:=cg.o a c A;have c0:wr.cell? ⟨m,a*7,N⟩=O (I U (c.1:Int)):=by rw[World.cell?_of_block (w:=f) (R.o.block m b6 b7)];exact b3
   have V:wr.cell? ⟨m,a*7+3,N⟩=O (y7 (gj c.2)):=by rw[World.cell?_of_block (w:=f) (R.o.block m b6 b7)];exact b4
   have bx:wt (n.take (a+1)=n.take a++[c]):=by unfold Hid;rw[cP,A];rfl
   have K:wt (l8 c=(decide (c.1=4)&&decide (fname (j7 (gj c.2))=gj c.2))):=rfl;obtain⟨g,hX⟩:∃g,gj c.2=g:=⟨_,rfl⟩;obtain⟨u,b9⟩:∃u,c.1=u:=⟨_,rfl⟩;rw[hX]at V K;rw[b9]at c0 K;have HX:=H hX;clear b3 b4 hX b9 A;obtain⟨w9,c7⟩:∃w9,w9=wr:=⟨_,rfl⟩;subst c7
   go_upto_block 2 with fail
   go_cut [8]from 16 to 62 (λz D=>z=I U (j7 g:Nat)/\∃B,D=w9.drewN B)
   case first=>
    go_wp2_with fail;go_loopw [8] (λz wq=>∃(i B:Nat),z=I U (i:Nat)/\1<=i/\i<=4/\wt (∀m,1<=m->m<i->fname m≠g)/\wq=w9.drewN B) (λz _=>4-(intOf z).toNat)
    case atStart=>exact⟨1,0,rfl,Y,Y,(λm h1 h2=>Y),rfl⟩
    case round=>
     obtain⟨i,B,rfl,b2,a6,HF,a8⟩:=hrel;have e3:wr.cell? ⟨m,a*7+3,N⟩=O (y7 g):=by rw[a8];exact V
     have a4:=H a8;clear a8 V c0;rcases aC a6 with v|v
     ·have hd:decide ((i:Int)<4)=CS:=eS;have HE:=H (ut b2 a6 HF (C1 v));clear v;go_wp2_with fail;go_quiet (fail);go_wp2
      go_meet
      case rel=>exact⟨by rw[HE.o],_,by rw[a4.o];exact World.drewN_drewN _ _ _⟩
     ·have hd:decide ((i:Int)<4)=CD:=eS;have x:=H (λa5=>JV i Y a5);by_cases q:fname i=g
      ·have HE:=H (ut b2 a6 HF (C2 q));obtain⟨l,E⟩:∃l,fname i=l:=⟨_,rfl⟩;rw[E]at x q;have a9:(l.toList==g.toList)=CD:=by rw[q];simp
       clear E q;go_wp2_with fail;go_quiet ((go_at_call 89;exact dA (x _)));go_wp2
       go_meet
       case rel=>exact⟨by rw[HE.o],_,by rw[a4.o];exact World.drewN_drewN _ _ _⟩
      ·have ce:wt (∀m,1<=m->m<i+1->fname m≠g):=λm h1 h2=>by
        rcases aC (show m<=i by omega)with h3|h3;·rw[h3];exact q
        ·exact HF m h1 h3
       obtain⟨l,E⟩:∃l,fname i=l:=⟨_,rfl⟩;rw[E]at x q;have a9:(l.toList==g.toList)=CS:=by rw[tQ];simpa using q
       clear E q;go_wp2_with fail;go_quiet ((go_at_call 89;exact dA (x _)));go_wp2;go_roundw
       case rel=>exact⟨i+1,_,rfl,Y,Y,ce,by rw[a4.o];exact World.drewN_drewN _ _ _⟩
       case measure=>exact eT
   case rest=>
   obtain⟨rfl,B,r⟩:=hcut;obtain⟨F,c6⟩:∃F,F=wc:=⟨_,rfl⟩;subst c6;have e0:F.cell? ⟨m,a*7,N⟩=O (I U u):=by rw[r];exact c0
   have e3:F.cell? ⟨m,a*7+3,N⟩=O (y7 g):=by rw[r];exact V
   have bw:wt (Sn b S F C t):=by rw[r];exact HS.drewN B
   have bs:wt (F.ownsRow f.heap.size 3 1 (Z oa a oc) a ((n.take a).map λc=>I U ((j7 (gj c.2):Nat):Int))):=by rw[r];exact T
   have bm:wt (iJ b f F):=by rw[r];exact R.drewN B
   have cx:=sQ g;have x:=H (λa5=>JV (j7 g) Y a5);have bd:=HT;obtain⟨i,hf⟩:∃i,j7 g=i:=⟨_,rfl⟩;rw[hf]at x K cx;rw[hf];obtain⟨l,E⟩:∃l,fname i=l:=⟨_,rfl⟩;rw[E]at x K;have cf:=H hf;clear r c0 V HS T R hf E
   go_upto_region 11 with fail
   go_cut [56]from 16 to 62 (λbv D=>bv=Bs (!decide (u=4/\l=g/\j<=4))/\∃B,D=F.drewN B)
   case first=>
    by_cases v:u=4
    ·have k4:((u:Int) != 4)=CS:=by rw[v];rfl
     by_cases q:l=g
     ·have a9:(l.toList==g.toList)=CD:=by rw[q];simp
      by_cases ad:j<=4
      ·have n4:decide (4<(j:Int))=CS:=eS;have J:wt (decide (u=4/\l=g/\j<=4)=CD):=aH ⟨v,q,ad⟩;clear v q ad;go_quiet ((go_at_call 89;exact dA (x _)));go_wp2
       go_meet
       case rel=>exact⟨by rw[J.o];rfl,_,rfl⟩
      ·have n4:decide (4<(j:Int))=CD:=eS;have J:wt (decide (u=4/\l=g/\j<=4)=CS):=av (λh=>ad h.2.2);clear v q ad;go_quiet ((go_at_call 89;exact dA (x _)));go_wp2
       go_meet
       case rel=>exact⟨by rw[J.o];rfl,_,rfl⟩
     ·have a9:(l.toList==g.toList)=CS:=by rw[tQ];simpa using q
      have J:wt (decide (u=4/\l=g/\j<=4)=CS):=av (λh=>q h.2.1);clear v q;go_quiet ((go_at_call 89;exact dA (x _)));go_wp2
      go_meet
      case rel=>exact⟨by rw[J.o];rfl,_,rfl⟩
    ·have k4:((u:Int) != 4)=CD:=eS;have J:wt (decide (u=4/\l=g/\j<=4)=CS):=av (λh=>v h.1);clear v;go_quiet (fail);go_wp2
     go_meet
     case rel=>exact⟨by rw[J.o];rfl,_,rfl⟩
   case rest=>
   obtain⟨rfl,m2,r⟩:=hcut;obtain⟨w7,c5⟩:∃w7,w7=wc:=⟨_,rfl⟩;subst c5;have bt:wt (Sn b S w7 C t):=by rw[r];exact bw.drewN _
   have br:wt (w7.ownsRow f.heap.size 3 1 (Z oa a oc) a ((n.take a).map λc=>I U ((j7 (gj c.2):Nat):Int))):=by rw[r];exact bs
   have bh:wt (iJ b f w7):=by rw[r];exact bm.drewN _
   have ao:wt (decide (u=4/\l=g/\j<=4)=CD↔(l8 c=CD/\j<=4)):=by unfold Hid;rw[K.o];simp[and_assoc]
   have ac:wt (uu j (n.take (a+1)) s=if decide (u=4/\l=g/\j<=4)=CD then t else N):=by
    unfold Hid;rw[bx.o,Ql,bd.o];by_cases hh:l8 c=CD/\j<=4;·rw[ak hh,ak (ao.o.2 hh)]
    ·rw[aj hh,aj (λh=>hh (ao.o.1 h))]
   generalize decide (u=4/\l=g/\j<=4)=cc at *;clear r e0 e3 bw bs bm ao K HT bd
   go_upto_if 56 with fail
   go_cut []from 16 to 62 (λD=>∃C,wt (Sn b S D C (uu j (n.take (a+1)) s))/\wt (D.ownsRow f.heap.size 3 1 (Z oa a oc) a ((n.take a).map λc=>I U ((j7 (gj c.2):Nat):Int)))/\wt (iJ b f D))
   case first=>
    cases cc with
    |true=>
     have a3:wt (uu j (n.take (a+1)) s=t):=ac.o;clear ac;go_wp2
     go_meet
     case rel=>exact⟨C,by rw[a3.o];exact bt,br,bh⟩
    |false=>
     have a3:wt (uu j (n.take (a+1)) s=N):=ac.o;have cj:=H (tZ bt);clear ac;go_wp2_with fail;apply cj.o.m;rintro b0 w6 ⟨rfl,y,o6⟩;have a2:=H y;have a1:=H (Bw br o6 Y);have a0:=H (bh.t o6);go_wp2
     go_meet
     case rel=>exact⟨C,by rw[a3.o];exact a2,a1,a0⟩
   case rest=>
   obtain⟨q5,cs,cp,bf⟩:=hcut;have cr:=H (cs.o.other ((ar wc.heap.size wc).alloc (ag _) (BV #[I U (i:Nat)] 3)));have co:=H (ym cp ((ar wc.heap.size wc).alloc (ag _) (BV #[I U (i:Nat)] 3)));have cl:wt (iJ b f (wc.alloc (BV #[I U (i:Nat)] 3))):=bf.o.t (.of_below ((ar wc.heap.size wc).alloc (ag _) _));have a7:=co.o;have dj:=bf.o.size;have ci:wt (∀(ba:Nat) (al:wg),[I U (i:Nat)][ba]?=O al->(wc.alloc (BV #[I U (i:Nat)] 3)).cell? ((⟨wc.heap.size,0,N⟩:wT).add ba)=O al):=by intro ba al hu;rw[sK,cb (bn wc _)];simpa using hu
   go_wp2_with (at_builtin;refine rW _ rfl (.tmp 59) (.tmp 61) 52 rfl f.heap.size 3 i0 _ 1 8 dF cy c8 c9 da rfl bF (Z oa a oc) a ((n.take a).map λc=>I U ((j7 (gj c.2):Nat):Int)) rfl a7 ⟨wc.heap.size,0,N⟩ 1 1 [I U (i:Nat)] rfl rfl ci ?hone ?h63 ?hby ?hbs ?_)
   case hone=>intro al hu;simp at hu;subst hu;rfl
   case h63=>unfold maxLen;omega
   case hby=>omega
   case hbs=>simp;omega
   intro db w6 dc b5 dk;have a0:=H (RQ a7 (ag _) b5 cl);have a2:=H (cr.grown a7 Y b5);have a1:wt (w6.ownsRow f.heap.size 3 1 db (a+1) ((n.take (a+1)).map λc=>I U ((j7 (gj c.2):Nat):Int))):=by unfold Hid;rw[c4,bx.o,aI,bM,ew,HX.o,cf.o,List.map_take];exact dc
   go_wp2;go_roundw
   case rel=>exact⟨a+1,q5,_,Y,rfl,a1,a0,a2,rfl⟩
   case measure=>exact eT
end
section
variable{w w':vz}
structure Pu(w:vz)(k:Array wg)(a0 a3 a6:wg)(wr:vz)(d:wg)(vs:List wg)(j:wg)(f:List (List Nat))(l:Array wg):Prop where
 below:wm w.heap.size w wr
 b0:wr.heap[w.heap.size]?=O (BV k 67 (0,0))
 b1:wr.heap[w.heap.size+1]?=O (BV iZ 67 (0,0))
 b2:wr.heap[w.heap.size+2]?=O (BV iZ 67 (0,0))
 b3:wr.heap[w.heap.size+3]?=O (BV #[a0,I U 0,I U 0,a3,d,j,a6] 67 (0,0))
 b4:wr.heap[w.heap.size+4]?=O (BV l 67 (0,0))
 own:wr.ownsRow (w.heap.size+5) 67 7 d (G vs) (vs.flatMap cellsOf)
 ownk:wr.ownsRow (w.heap.size+5) 9 1 j (G f) (f.map λs=>y7 (gj s))
variable{wr:vz}{k l:Array wg}{a0 a3 a6 d j:wg}{vs:List wg}{f:List (List Nat)}
def Pu.step(h:Pu w k a0 a3 a6 wr d vs j f l)(b:wm wr.heap.size wr w'):Pu w k a0 a3 a6 w' d vs j f l:=
 ⟨h.below.t (b.m h.below.size),by rw[b.block _ (ap h.b0)];exact h.b0,by rw[b.block _ (ap h.b1)];exact h.b1,by rw[b.block _ (ap h.b2)];exact h.b2,by rw[b.block _ (ap h.b3)];exact h.b3,by rw[b.block _ (ap h.b4)];exact h.b4,ym h.own b,ym h.ownk b⟩
def Pu.alloc(h:Pu w k a0 a3 a6 wr d vs j f l)(a:Obj):Pu w k a0 a3 a6 (wr.alloc a) d vs j f l:=h.step ((ar _ _).alloc (ag _) a)
def Pu.drew(h:Pu w k a0 a3 a6 wr d vs j f l):Pu w k a0 a3 a6 wr.drew d vs j f l:=h.step (ar _ _).drew
def Cq{i:wg}{a m:Nat}{r:wg}{e:Obj}{b:Nat}(c:wr.heap[a]?=O e)(q:∀h,i.ownBlock=O h->b<=h)(p:wr.grownBy w' i.ownBlock)(s:a<b){g:Nat}(o:a≠g):(w'.setCell ⟨g,m,N⟩ r).heap[a]?=O e:=by rw[lK _ o,p.block _ (ap c) (λn=>by have:=q _ n.s;omega)];exact c
def Pu.key(h:Pu w k a0 a3 a6 wr d vs j f l){s:List Nat}{i:wg}
  (m:w'.ownsRow (w.heap.size+5) 9 1 i (G f+1) ((f.map λs=>y7 (gj s))++[y7 (gj s)])) (b:wr.grownBy w' j.ownBlock):Pu w k a0 a3 a6 (w'.setCell ⟨w.heap.size+3,5,N⟩ i) d vs i (f++[s]) l:=by
 have e:=λg c=>(h.ownk.lt g c).1;have o:w'.heap[w.heap.size+3]?=O (BV #[a0,I U 0,I U 0,a3,d,j,a6] 67 (0,0)):=by rw[b.block _ (ap h.b3) (λc=>by have:=e _ c.s;omega)];exact h.b3
 refine⟨⟨b.os.t h.below.os,b.tape.t h.below.tape,b.output.t h.below.output,by have:=b.size;have:=h.below.size;simp[World.setCell];omega,λg n=>?_⟩,Cq h.b0 e b Y Y,Cq h.b1 e b Y Y,Cq h.b2 e b Y Y,by rw[nu _ o];rfl,Cq h.b4 e b Y Y,?_,?_⟩
 ·rw[lK _ (by show g≠w.heap.size+3;omega),b.block g vr (λc=>by have:=e _ c.s;omega)];exact h.below.block g n
 ·have:=h.own.kept b (MJ h.own h.ownk bF);exact bJ this (λc=>absurd (this.lt _ c).1 sp) i
 ·rw[ab,aI];have:=bJ (a:=⟨w.heap.size+3,5,N⟩) m (λc=>absurd (m.lt _ c).1 sp) i;simpa using this
def Pu.item(h:Pu w k a0 a3 a6 wr d vs j f l){x:wg}{i:wg}
  (m:w'.ownsRow (w.heap.size+5) 67 7 i (G vs+1) (vs.flatMap cellsOf++cellsOf x)) (b:wr.grownBy w' d.ownBlock):Pu w k a0 a3 a6 (w'.setCell ⟨w.heap.size+3,4,N⟩ i) i (vs++[x]) j f l:=by
 have e:=λg c=>(h.own.lt g c).1;have o:w'.heap[w.heap.size+3]?=O (BV #[a0,I U 0,I U 0,a3,d,j,a6] 67 (0,0)):=by rw[b.block _ (ap h.b3) (λc=>by have:=e _ c.s;omega)];exact h.b3
 refine⟨⟨b.os.t h.below.os,b.tape.t h.below.tape,b.output.t h.below.output,by have:=b.size;have:=h.below.size;simp[World.setCell];omega,λg n=>?_⟩,Cq h.b0 e b Y Y,Cq h.b1 e b Y Y,Cq h.b2 e b Y Y,by rw[nu _ o];rfl,Cq h.b4 e b Y Y,?_,?_⟩
 ·rw[lK _ (by show g≠w.heap.size+3;omega),b.block g vr (λc=>by have:=e _ c.s;omega)];exact h.below.block g n
 ·rw[ab,cK];have:=bJ (a:=⟨w.heap.size+3,4,N⟩) m (λc=>absurd (m.lt _ c).1 sp) i;simpa using this
 ·have:=h.ownk.kept b (MJ h.ownk h.own bF);exact bJ this (λc=>absurd (this.lt _ c).1 sp) i
def Pu.found{A B C D E F J:wg}(h:Pu w k a0 a3 a6 wr d vs j f #[A,B,C,D,E,F,J])(e g i m n o p:wg):Pu w k a0 a3 a6 (((((((wr.setCell ⟨w.heap.size+4,0,N⟩ e).setCell ⟨w.heap.size+4,1,N⟩ g).setCell ⟨w.heap.size+4,2,N⟩ i).setCell ⟨w.heap.size+4,3,N⟩ m).setCell ⟨w.heap.size+4,4,N⟩ n).setCell ⟨w.heap.size+4,5,N⟩ o).setCell ⟨w.heap.size+4,6,N⟩ p) d vs j f #[e,g,i,m,n,o,p]:=by
 have b:=qu wr (w.heap.size+4) e g i m n o p;have L:=ap h.b4;have a:∀{c v x:Nat} {y:wg} {z:List wg} {r:vz} (u:Nat) (q:wg),r.ownsRow (w.heap.size+5) c x y v z->(r.setCell ⟨w.heap.size+4,u,N⟩ q).ownsRow (w.heap.size+5) c x y v z:=λu q t=>bJ t (λc=>absurd (t.lt _ c).1 (by show ¬(w.heap.size+5<=w.heap.size+4);omega)) q
 refine⟨⟨b.os.t h.below.os,b.tape.t h.below.tape,b.output.t h.below.output,aJ h.below.size b.size,λs K=>(b.block s Y Y).t (h.below.block s K)⟩,by rw[b.block _ (ap h.b0) Y];exact h.b0,by rw[b.block _ (ap h.b1) Y];exact h.b1,by rw[b.block _ (ap h.b2) Y];exact h.b2,by rw[b.block _ (ap h.b3) Y];exact h.b3,Ak h.b4 e g i m n o p,?_,?_⟩;·exact a _ _ (a _ _ (a _ _ (a _ _ (a _ _ (a _ _ (a _ _ h.own))))))
 ·exact a _ _ (a _ _ (a _ _ (a _ _ (a _ _ (a _ _ (a _ _ h.ownk))))))
end
section
variable{w d:vz}
def S5{k:Func}{f g l:Tmp}{b:TypeId}(h:k.results=#[.cell f b,.cell g b,.tmp l])(a:Array wg)(w:vz)(c e:Nat)(i j:Array wg)
  (o:a.getD f undef=A3 (O ⟨c,0,N⟩)) (q:a.getD g undef=A3 (O ⟨e,0,N⟩)) (m:(loadVar b ⟨c,0,N⟩).run DG w=.ok (Bc i) w) (n:(loadVar b ⟨e,0,N⟩).run DG w=.ok (Bc j) w):(results k a).run DG w=.ok (BG #[Bc i,Bc j,a.getD l undef]) w:=by
 have p:a[f]?.getD undef=A3 (O ⟨c,0,N⟩):=by simpa using o
 have r:a[g]?.getD undef=A3 (O ⟨e,0,N⟩):=by simpa using q
 simp[results,h,p,r,asAddr,m,n]
def Pu.done{wr:vz}{W X:Array wg}{S T V P Q:wg}{K:List wg}{F:List (List Nat)}(h:Pu w W S T V wr P K Q F X)(k l m n o p q x y z A B C D:wg){c:vz}(s:c=((((((((((((((wr.setCell ⟨w.heap.size+1,0,N⟩ k).setCell ⟨w.heap.size+1,1,N⟩ l).setCell ⟨w.heap.size+1,2,N⟩ m).setCell ⟨w.heap.size+1,3,N⟩ n).setCell ⟨w.heap.size+1,4,N⟩ o).setCell ⟨w.heap.size+1,5,N⟩ p).setCell ⟨w.heap.size+1,6,N⟩ q).setCell ⟨w.heap.size+2,0,N⟩ x).setCell ⟨w.heap.size+2,1,N⟩ y).setCell ⟨w.heap.size+2,2,N⟩ z).setCell ⟨w.heap.size+2,3,N⟩ A).setCell ⟨w.heap.size+2,4,N⟩ B).setCell ⟨w.heap.size+2,5,N⟩ C).setCell ⟨w.heap.size+2,6,N⟩ D)):wm w.heap.size w c/\c.heap[w.heap.size+1]?=O (BV #[k,l,m,n,o,p,q] 67 (0,0))/\c.heap[w.heap.size+2]?=O (BV #[x,y,z,A,B,C,D] 67 (0,0))/\c.ownsRow (w.heap.size+5) 67 7 P (G K) (K.flatMap cellsOf)/\c.ownsRow (w.heap.size+5) 9 1 Q (G F) (F.map λaa=>y7 (gj aa)):=by
 have e:=qu wr (w.heap.size+1) k l m n o p q;have e1:=uG h.b1 k l m n o p q;obtain⟨u,L⟩:∃u,(((((((wr.setCell ⟨w.heap.size+1,0,N⟩ k).setCell ⟨w.heap.size+1,1,N⟩ l).setCell ⟨w.heap.size+1,2,N⟩ m).setCell ⟨w.heap.size+1,3,N⟩ n).setCell ⟨w.heap.size+1,4,N⟩ o).setCell ⟨w.heap.size+1,5,N⟩ p).setCell ⟨w.heap.size+1,6,N⟩ q)=u:=⟨_,rfl⟩;have a:∀{f i j b:Nat} {v:wg} {r:List wg} {c:vz} (M:Nat) (J:wg),b<w.heap.size+5->c.ownsRow (w.heap.size+5) f j v i r->(c.setCell ⟨b,M,N⟩ J).ownsRow (w.heap.size+5) f j v i r:=λM J hb t=>bJ t (λf=>absurd (t.lt _ f).1 (Nat.not_le.2 hb)) J
 have R:∀{f i j:Nat} {v:wg} {r:List wg},wr.ownsRow (w.heap.size+5) f j v i r->u.ownsRow (w.heap.size+5) f j v i r:=λt=>by rw[<-L];exact a _ _ Y (a _ _ Y (a _ _ Y (a _ _ Y (a _ _ Y (a _ _ Y (a _ _ Y t))))))
 rw[L]at e e1 s;have h2:=(e.block _ (ap h.b2) Y).t h.b2;have g:=qu u (w.heap.size+2) x y z A B C D;have e2:=uG h2 x y z A B C D;rw[<-s]at g e2;refine⟨⟨g.os.t (e.os.t h.below.os),g.tape.t (e.tape.t h.below.tape),g.output.t (e.output.t h.below.output),aJ h.below.size (aJ e.size g.size),λE h1=>(g.block E (by have:=h.below.size;have:=e.size;omega) Y).t ((e.block E vr Y).t (h.below.block E h1))⟩,by rw[g.block _ (ap e1) Y];exact e1,e2,?_,?_⟩
 ·rw[s];exact a _ _ Y (a _ _ Y (a _ _ Y (a _ _ Y (a _ _ Y (a _ _ Y (a _ _ Y (R h.own)))))))
 ·rw[s];exact a _ _ Y (a _ _ Y (a _ _ Y (a _ _ Y (a _ _ Y (a _ _ Y (a _ _ Y (R h.ownk)))))))
def iy{a:Type}(b:ByteArray)(e:List (List Nat×a)):List (List Nat×a):=e.filter λc=> !decide (gj c.1=b)
def nh{a:Type}(b:ByteArray)(e:List (List Nat×a)):List (List Nat×a):=e.filter λc=>decide (gj c.1=b)
def uW{f:Type}(a:ByteArray)(c:List (List Nat×f))(b:Nat)(k:List Nat)(e:f)(h:c[b]?=O (k,e)):iy a (c.take (b+1))=iy a (c.take b)++(if gj k=a then[]else[(k,e)]):=by
 unfold iy;rw[cP,h,List.filter_append];congr 1;by_cases g:gj k=a<;>simp[g]
def vS{f:Type}(a:ByteArray)(c:List (List Nat×f))(b:Nat)(k:List Nat)(e:f)(h:c[b]?=O (k,e)):nh a (c.take (b+1))=nh a (c.take b)++(if gj k=a then[(k,e)]else[]):=by
 unfold nh;rw[cP,h,List.filter_append];congr 1;by_cases g:gj k=a<;>simp[g]
def vC(a:List (List Nat×wg)):wg:=((a.map Prod.snd).getLast?).getD (Bc iZ)
def Ni{l nn pp:Int}{m S:ByteArray}{ia:Option wT}{n nI ic:Nat}{ka:Option wT}{kc:Nat}{i:Option wT}{k j:Nat}{c:List wg}{e:List (List Nat)}
  (hI:w.ownsRow 0 67 7 (Z ia nI ic) nI (c.flatMap cellsOf)) (hK:w.ownsRow 0 9 1 (Z ka n kc) n (e.map λad=>y7 (gj ad))) (bz:G c=nI) (br:G e=n) (dv:n<=nI) (hn:n<=200001) (hF:∀u∈c,n5 u):wh DG 172 #[Bc #[I U l,I U nn,I U pp,y7 m,Z ia nI ic,Z ka n kc,Z i k j],y7 S] w λQ d=>
   ∃V kv fd,Q=BX (BG #[Bc #[I U l,I U 0,I U 0,y7 m,V,kv,Z i k j],fd,I U ((nh S (e.zip c)).length:Nat)])/\wm w.heap.size w d/\fd=vC (nh S (e.zip c)) /\
    d.ownsRow (w.heap.size+5) 67 7 V (iy S (e.zip c)).length (((iy S (e.zip c)).map Prod.snd).flatMap cellsOf)/\d.ownsRow (w.heap.size+5) 9 1 kv (iy S (e.zip c)).length (((iy S (e.zip c)).map Prod.fst).map λad=>y7 (gj ad)):=by
 obtain⟨i0,hi,c3,c4,c5⟩:=bR iV;obtain⟨j0,gi,cs,ct,cw⟩:=bR iS;have HI:=H hI;have HK:=H hK;have HF:=H hF;have HL:=H (And.intro bz br);clear hI hK hF bz br;obtain⟨bx,a7⟩:∃bx:Array wg,#[I U l,I U nn,I U pp,y7 m,Z ia nI ic,Z ka n kc,Z i k j]=bx:=⟨_,rfl⟩;have c9:=H a7;have bb:wt (Pu w #[I U l,I U nn,I U pp,y7 m,Z ia nI ic,Z ka n kc,Z i k j] (I U l) (y7 m) (Z i k j) (((((w.alloc (BV #[I U l,I U nn,I U pp,y7 m,Z ia nI ic,Z ka n kc,Z i k j] 67)).alloc (BV iZ 67)).alloc (BV iZ 67)).alloc (BV #[I U l,I U 0,I U 0,y7 m,Z N 0 0,Z N 0 0,Z i k j] 67)).alloc (BV iZ 67)) (Z N 0 0) [] (Z N 0 0) [] iZ):=by
  rw[a7];refine⟨((((((ar _ _).alloc (ag _) _).alloc cO _).alloc eS _).alloc eS _).alloc eS _),?_,?_,?_,?_,?_,bI _ _ _ _,bI _ _ _ _⟩;·exact nt _ (nt _ (nt _ (nt _ (bn _ _))))
  ·exact nt _ (nt _ (nt _ (by have:=bn (w.alloc (BV bx 67)) (BV iZ 67);rw[aV]at this;exact this)))
  ·exact nt _ (nt _ (by have:=bn ((w.alloc (BV bx 67)).alloc (BV iZ 67)) (BV iZ 67);rw[aV,aV]at this;exact this))
  ·exact nt _ (by have:=bn (((w.alloc (BV bx 67)).alloc (BV iZ 67)).alloc (BV iZ 67)) (BV #[I U l,I U 0,I U 0,y7 m,Z N 0 0,Z N 0 0,Z i k j] 67);rw[aV,aV,aV]at this;exact this)
  ·have:=bn ((((w.alloc (BV bx 67)).alloc (BV iZ 67)).alloc (BV iZ 67)).alloc (BV #[I U l,I U 0,I U 0,y7 m,Z N 0 0,Z N 0 0,Z i k j] 67)) (BV iZ 67);rw[aV,aV,aV,aV]at this;exact this
 clear a7;unfold iZ at bb
 go_in
 go_wp2;rw[show w.heap.size+1+1=w.heap.size+2 from rfl,show w.heap.size+2+1=w.heap.size+3 from rfl,show w.heap.size+3+1=w.heap.size+4 from rfl];go_loopw [9,10] (λcv ba wr=>∃(a:Nat) (V kv:wg) (q0 q1 q2:Int) (q3:ByteArray) (qa:Option wT) (ql qc:Nat) (ra:Option wT) (rl rc:Nat) (sa:Option wT) (sl sc:Nat),a<=n/\cv=I U ((nh S ((e.zip c).take a)).length:Nat)/\ba=I U a/\wt (Pu w #[I U l,I U nn,I U pp,y7 m,Z ia nI ic,Z ka n kc,Z i k j] (I U l) (y7 m) (Z i k j) wr V ((iy S ((e.zip c).take a)).map Prod.snd) kv ((iy S ((e.zip c).take a)).map Prod.fst) #[I U q0,I U q1,I U q2,y7 q3,Z qa ql qc,Z ra rl rc,Z sa sl sc])/\wt (Bc #[I U q0,I U q1,I U q2,y7 q3,Z qa ql qc,Z ra rl rc,Z sa sl sc]=vC (nh S ((e.zip c).take a)))) (λcv ba _=>n-(intOf ba).toNat)
 case atStart=>exact⟨0,_,_,_,_,_,_,_,_,_,_,_,_,_,_,_,aw _,rfl,rfl,bb,rfl⟩
 case round=>
  obtain⟨a,V,kv,q0,q1,q2,q3,qa,ql,qc,ra,rl,rc,sa,sl,sc,hm,rfl,rfl,f,a5⟩:=hrel;obtain⟨ea,ec,a8⟩:=ke f.o.own;obtain⟨oa,oc,a9⟩:=ke f.o.ownk;have d5:=uO f.b0;rcases aC hm with hm|hm
  ·subst hm;have e1:(e.zip c).take a=e.zip c:=aP (by rw[eH];have:=HL.o;omega);rw[e1]at f a8 a9 a5;rw[e1];have dd:¬(a:Int)<(a:Int):=Y;have b:=f.o;subst a8;subst a9;generalize di:((iy S (e.zip c)).map Prod.snd).length=b6 at *;generalize dj:((iy S (e.zip c)).map Prod.fst).length=b7 at *;obtain⟨v0,v1,v2,v3,v4,v5,v6⟩:=A5 b.b3;obtain⟨y0,y1,y2,y3,y4,y5,y6⟩:=A5 b.b4;have r0:=nw b.b1;have d7:=lQ 0 b.b1;have r1:=rU b.b1;have eb:=lQ 1 b.b1;have r2:=yB b.b1;have ei:=lQ 2 b.b1;have r3:=yg b.b1;have ej:=lQ 3 b.b1;have r4:=vK b.b1;have ek:=lQ 4 b.b1;have r5:=uO b.b1;have el:=lQ 5 b.b1;have r6:=vL b.b1;have em:=lQ 6 b.b1;have s0:=nw b.b2;have en:=lQ 0 b.b2;have s1:=rU b.b2;have eo:=lQ 1 b.b2;have s2:=yB b.b2;have er:=lQ 2 b.b2;have s3:=yg b.b2;have es:=lQ 3 b.b2;have s4:=vK b.b2;have et:=lQ 4 b.b2;have s5:=uO b.b2;have eu:=lQ 5 b.b2;have s6:=vL b.b2;have ev:=lQ 6 b.b2;go_wp2;go_region;all_goals go_wp2
   obtain⟨a2,hW⟩:∃a2,a2=((((((((((((((wr.setCell ⟨w.heap.size+1,0,N⟩ (I U l)).setCell ⟨w.heap.size+1,1,N⟩ (I U 0)).setCell ⟨w.heap.size+1,2,N⟩ (I U 0)).setCell ⟨w.heap.size+1,3,N⟩ (y7 m)).setCell ⟨w.heap.size+1,4,N⟩ (Z ea b6 ec)).setCell ⟨w.heap.size+1,5,N⟩ (Z oa b7 oc)).setCell ⟨w.heap.size+1,6,N⟩ (Z i k j)).setCell ⟨w.heap.size+2,0,N⟩ (I U q0)).setCell ⟨w.heap.size+2,1,N⟩ (I U q1)).setCell ⟨w.heap.size+2,2,N⟩ (I U q2)).setCell ⟨w.heap.size+2,3,N⟩ (y7 q3)).setCell ⟨w.heap.size+2,4,N⟩ (Z qa ql qc)).setCell ⟨w.heap.size+2,5,N⟩ (Z ra rl rc)).setCell ⟨w.heap.size+2,6,N⟩ (Z sa sl sc)):=⟨_,rfl⟩;rw[<-hW];obtain⟨f1,f2,f3,f4,f5⟩:=f.o.done _ _ _ _ _ _ _ _ _ _ _ _ _ _ hW;have g2:a2.drew.heap[w.heap.size+1]?=_:=f2;have g3:a2.drew.heap[w.heap.size+2]?=_:=f3;refine aK (v:=BG #[Bc #[I U l,I U 0,I U 0,y7 m,Z ea b6 ec,Z oa b7 oc,Z i k j],Bc #[I U q0,I U q1,I U q2,y7 q3,Z qa ql qc,Z ra rl rc,Z sa sl sc],I U ((nh S (e.zip c)).length:Nat)]) ?_ rfl ?_;·exact S5 results172 _ _ (w.heap.size+1) (w.heap.size+2) _ _ rfl rfl (run_loadVar_row _ (w.heap.size+1) 67 67 _ _ _ g2 bq rfl aG) (run_loadVar_row _ (w.heap.size+2) 67 67 _ _ _ g3 bq rfl aG)
   ·refine⟨_,_,_,rfl,f1.drew,a5,?_,?_⟩;·have:=f4;rw[aq]at this;exact this
    ·have:=f5;rw[aq]at this;exact this
  ·obtain⟨u,hx⟩:∃u,c[a]?=O u:=⟨_,af (by have:=HL.o;omega)⟩;obtain⟨s,bh⟩:∃s,e[a]?=O s:=⟨_,af (by have:=HL.o;omega)⟩;have cx:∀u∈c,(cellsOf u).length=7:=λu hx=>by obtain⟨_,_,_,_,_,_,_,_,_,_,_,_,_,rfl⟩:=HF.o u hx;rfl
   have hI:=HI.o;rw[<-HL.o.1]at hI;obtain⟨A,da,bf,d0,dc,dg,q⟩:=rp hI cx bF hx;rw[HL.o.1]at bf;cases bf;obtain⟨g2,c2,c1,c0⟩:=En HK (show(e.map λad=>y7 (gj ad))[a]?=O (y7 (gj s))by rw[aE,bh];rfl);cases c1;obtain⟨r,E,F,J,B,D,C,K,M,L,x,z,y,p⟩:=HF.o u (aQ hx);have b5:(e.zip c)[a]?=O (s,u):=by rw[dP];exact⟨bh,hx⟩
   have HZ:=H (uW S (e.zip c) a s u b5);have HH:=H (vS S (e.zip c) a s u b5);have T:∀{a3:wT} {t:wg},w.cell? a3=O t->wr.cell? a3=O t:=λ{a3 t} h=>by rw[f.o.below.cell (aA w a3 h)];exact h
   have dk:=T c0;have d4:=vK f.b0;have W:A<w.heap.size:=aA w _ (q 0 _ (by rw[p];rfl));have e0:wr.cell? ⟨A,a*7,N⟩=O (I U r):=T (q 0 _ (by rw[p];rfl));have e1:=T (q 1 _ (by rw[p];rfl));have e2:=T (q 2 _ (by rw[p];rfl));have e3:=T (q 3 _ (by rw[p];rfl));have e4:=T (q 4 _ (by rw[p];rfl));have e5:=T (q 5 _ (by rw[p];rfl));have e6:=T (q 6 _ (by rw[p];rfl));have ca:wt (w.cell? ⟨A,a*7,N⟩=O (I U r)):=q 0 _ (by rw[p];rfl);have cc:=H (q 1 _ (by rw[p];rfl));have cd:=H (q 2 _ (by rw[p];rfl));have ce:=H (q 3 _ (by rw[p];rfl));have cf:=H (q 4 _ (by rw[p];rfl));have cg:=H (q 5 _ (by rw[p];rfl));have ci:=H (q 6 _ (by rw[p];rfl));have dp:(a:Int)<(n:Int):=Y;have ds:(a:Int)<(nI:Int):=Y;subst p;have db:(nh S ((e.zip c).take a)).length<=200001:=aJ (List.length_filter_le _ _) mH;have d1:(iy S ((e.zip c).take a)).length<=a:=aJ (List.length_filter_le _ _) mH;by_cases X:gj s=S
   ·have a1:=H (HZ.t (by rw[ak X,bP]));have al:=H (HH.t (by rw[ak X]));have bm:((gj s).toList==S.toList)=CD:=by rw[X];simp
    have y0:=nw f.b4;have ex:=lQ 0 f.b4;have y1:=rU f.b4;have ey:=lQ 1 f.b4;have y2:=yB f.b4;have ez:=lQ 2 f.b4;have y3:=yg f.b4;have e7:=lQ 3 f.b4;have y4:=vK f.b4;have e8:=lQ 4 f.b4;have y5:=uO f.b4;have e9:=lQ 5 f.b4;have y6:=vL f.b4;have fb:=lQ 6 f.b4;rw[X]at dk;go_wp2;go_roundw
    case rel=>
     refine⟨a+1,V,kv,r,E,F,J,B,D,C,K,M,L,x,z,y,Y,?_,by first|rfl|(congr 1),?_,?_⟩;·rw[al.o,ab];rfl
     ·rw[a1.o];exact f.found _ _ _ _ _ _ _
     ·unfold Hid;rw[al.o];unfold vC;simp
    case measure=>exact eT
   ·have a1:=H (HZ.t (by rw[aj X]));have al:=H (HH.t (by rw[aj X,bP]));have bm:((gj s).toList==S.toList)=CS:=by rw[Bool.eq_false_iff];intro Q;rw[beq_iff_eq]at Q;exact X (eC (by rw[dI,dI]at Q;exact Array.toList_inj.1 Q))
    have q5:=uO f.b3;obtain⟨P,b⟩:∃P,gj s=P:=⟨_,rfl⟩;rw[b]at dk bm;have cj:=H b;have d2:=ap f.b4;have co:wt ((iy S ((e.zip c).take (a+1))).map Prod.fst=(iy S ((e.zip c).take a)).map Prod.fst++[s]):=by unfold Hid;rw[a1.o,aI];rfl
    have cp:wt ((iy S ((e.zip c).take (a+1))).map Prod.snd=(iy S ((e.zip c).take a)).map Prod.snd++[Bc #[I U r,I U E,I U F,y7 J,Z B D C,Z K M L,Z x z y]]):=by unfold Hid;rw[a1.o,aI];rfl
    have dl:((iy S ((e.zip c).take a)).map Prod.fst).length<=n:=by rw[aq];omega
    have dm:((iy S ((e.zip c).take a)).map Prod.snd).length<=n:=by rw[aq];omega
    generalize (iy S ((e.zip c).take a)).map Prod.fst=zf at *;generalize (iy S ((e.zip c).take a)).map Prod.snd=zs at *;subst a9;generalize cy:G zf=ac at *;have a4:=H cy;have d6:(wr.alloc (BV #[y7 P] 9)).cell? ⟨w.heap.size+3,5,N⟩=O (Z oa ac oc):=by rw[cb (f.o.alloc _).b3];rfl
    have ck:wt (∀aa t,[y7 P][aa]?=O t->(wr.drew.alloc (BV #[y7 P] 9)).cell? ((⟨wr.heap.size,0,N⟩:wT).add aa)=O t):=by intro aa t R;rw[sK,cb (show(wr.drew.alloc (BV #[y7 P] 9)).heap[wr.heap.size]?=_ from bn wr.drew _)];simpa using R
    go_upto_region 10 with fail
    go_cut []from 19 to 59 (λwx=>∃(ao:Option wT) (a0:Nat),wt (Pu w #[I U l,I U nn,I U pp,y7 m,Z (O ⟨A,0,N⟩) nI ic,Z (O ⟨g2,0,N⟩) n kc,Z i k j] (I U l) (y7 m) (Z i k j) wx V zs (Z ao (ac+1) a0) (zf++[s]) #[I U q0,I U q1,I U q2,y7 q3,Z qa ql qc,Z ra rl rc,Z sa sl sc]))
    case first=>
     go_region_law (refine Cy rfl (.tmp 41) (.tmp 47) 38 rfl (w.heap.size+5) 9 j0 (y7 {data:=#[]}) 1 16 dz gi cs ct cw rfl bF _ (G zf) _ rfl (f.drew.alloc _).ownk ⟨wr.heap.size,0,N⟩ 1 1 [y7 P] rfl rfl ?hnews ?hone ?h63 ?hby ?hb ?_;(case hnews=>exact ck);(case hone=>intro t R;simp at R;subst R;rfl);(case h63=>unfold maxLen;rw[a4.o];omega);(case hby=>rw[a4.o];omega);(case hb=>simp;omega);intro v6 w6 b8 bc _;have g:=H ((f.drew.alloc (BV #[y7 P] 9)).key (s:=s) (by rw[cj.o];exact b8) bc);have bs:w6.heap[w.heap.size+3]?=O (BV #[I U l,I U 0,I U 0,y7 m,V,Z oa ac oc,Z i k j] 67 (0,0)):=(by rw[bc.block _ (ap (f.o.drew.alloc (BV #[y7 P] 9)).b3) (λQ=>by have:=(f.o.ownk.lt _ Q.s).1;omega)];exact(f.drew.alloc _).b3);have c6:w6.cell? ⟨w.heap.size+3,5,N⟩=O (Z oa ac oc):=(cb bs);have f6:w6.frozen? ⟨w.heap.size+3,5,N⟩=CS:=pA bs;obtain⟨ao,a0,bt⟩:=ke b8;rw[a4.o]at bt;subst bt);all_goals (
      go_wp2
      go_meet
      case rel=>exact⟨_,_,g⟩)
    case rest=>
     obtain⟨ao,a0,g⟩:=hcut;have p0:wc.cell? ⟨A,a*7,N⟩=O (I U r):=by rw[g.o.below.cell W];exact ca
     have p1:wc.cell? ⟨A,a*7+1,N⟩=O (I U E):=by rw[g.o.below.cell W];exact cc
     have p2:wc.cell? ⟨A,a*7+2,N⟩=O (I U F):=by rw[g.o.below.cell W];exact cd
     have p3:wc.cell? ⟨A,a*7+3,N⟩=O (y7 J):=by rw[g.o.below.cell W];exact ce
     have p4:wc.cell? ⟨A,a*7+4,N⟩=O (Z B D C):=by rw[g.o.below.cell W];exact cf
     have p5:wc.cell? ⟨A,a*7+5,N⟩=O (Z K M L):=by rw[g.o.below.cell W];exact cg
     have p6:wc.cell? ⟨A,a*7+6,N⟩=O (Z x z y):=by rw[g.o.below.cell W];exact ci
     have d4:=vK g.b0;subst a8;generalize c7:G zs=zl at *;have a6:=H c7;have q4:=vK g.b3;have d3:(wc.alloc (BV #[I U r,I U E,I U F,y7 J,Z B D C,Z K M L,Z x z y] 67)).cell? ⟨w.heap.size+3,4,N⟩=O (Z ea zl ec):=by rw[cb (g.o.alloc _).b3];rfl
     have h7:=ap g.b4;have cl:wt (∀(aa:Nat) (t:wg),[I U r,I U E,I U F,y7 J,Z B D C,Z K M L,Z x z y][aa]?=O t->(wc.drew.alloc (BV #[I U r,I U E,I U F,y7 J,Z B D C,Z K M L,Z x z y] 67)).cell? ((⟨wc.heap.size,0,N⟩:wT).add aa)=O t):=by intro aa t R;rw[sK,cb (show(wc.drew.alloc (BV #[I U r,I U E,I U F,y7 J,Z B D C,Z K M L,Z x z y] 67)).heap[wc.heap.size]?=_ from bn wc.drew _)];simpa using R
     go_upto_region 11 with fail
     go_region_law (refine Cy rfl (.tmp 51) (.tmp 57) 29 rfl (w.heap.size+5) 67 i0 _ 7 112 dw hi c3 c4 c5 rfl bF _ (G zs) _ rfl (g.drew.alloc _).own ⟨wc.heap.size,0,N⟩ 1 1 [I U r,I U E,I U F,y7 J,Z B D C,Z K M L,Z x z y] rfl rfl ?hnews ?hone ?h63 ?hby ?hb ?_;(case hnews=>exact cl);(case hone=>intro t R;simp at R;rcases R with rfl|rfl|rfl|rfl|rfl|rfl|rfl<;>rfl);(case h63=>unfold maxLen;rw[a6.o];omega);(case hby=>rw[a6.o];omega);(case hb=>simp;omega);intro v8 w8 b9 bd _;have cn:=H ((g.drew.alloc (BV #[I U r,I U E,I U F,y7 J,Z B D C,Z K M L,Z x z y] 67)).item (x:=Bc #[I U r,I U E,I U F,y7 J,Z B D C,Z K M L,Z x z y]) b9 bd);have bv:w8.heap[w.heap.size+3]?=O (BV #[I U l,I U 0,I U 0,y7 m,Z ea zl ec,Z ao (ac+1) a0,Z i k j] 67 (0,0)):=(by rw[bd.block _ (ap (g.o.drew.alloc (BV #[I U r,I U E,I U F,y7 J,Z B D C,Z K M L,Z x z y] 67)).b3) (λQ=>by have:=(g.o.own.lt _ Q.s).1;omega)];exact(g.drew.alloc _).b3);have c8:w8.cell? ⟨w.heap.size+3,4,N⟩=O (Z ea zl ec):=(cb bv);have f8:w8.frozen? ⟨w.heap.size+3,4,N⟩=CS:=pA bv;obtain⟨cq,cr,bw⟩:=ke b9;rw[a6.o]at bw;subst bw);all_goals (
      go_wp2;go_roundw
      case rel=>
       refine⟨a+1,Z cq (zl+1) cr,Z ao (ac+1) a0,q0,q1,q2,q3,qa,ql,qc,ra,rl,rc,sa,sl,sc,Y,by rw[al.o],by first|rfl|(congr 1),?_,?_⟩;rotate_left;·unfold Hid;rw[al.o];exact a5
       ·rw[co.o,cp.o];exact cn
      case measure=>exact eT)
def te{q s:Type}{R:q->s->Prop}(c:ByteArray):∀(a:List (List Nat)) (f:List q) (g:List s),G f=G g->(∀(e:Nat) (i:q) (j:s),f[e]?=O i->g[e]?=O j->R i j) ->(iy c (a.zip f)).map Prod.fst=(iy c (a.zip g)).map Prod.fst/\(iy c (a.zip f)).length=(iy c (a.zip g)).length/\∀(e:Nat) (i:q) (j:s),((iy c (a.zip f)).map Prod.snd)[e]?=O i->((iy c (a.zip g)).map Prod.snd)[e]?=O j->R i j
 | [],f,g,_,_=>⟨rfl,rfl,λe i j h=>by simp[iy]at h⟩
 |k::a,[],[],_,_=>⟨rfl,rfl,λe i j h=>by simp[iy]at h⟩
 |k::a,[],j::g,h,_=>by cases h
 |k::a,i::f,[],h,_=>by cases h
 |k::a,i::f,j::g,h,t=>by
  have p:=te (R:=R) c a f g lT (λe l b n o=>t (e+1) l b pn (by simpa using o));have e1:∀{u:Type} (l:u) (r:List u),iy c ((k::a).zip (l::r))=if gj k=c then iy c (a.zip r)else(k,l)::iy c (a.zip r):=λl r=>by unfold iy;rw[List.zip_cons_cons,List.filter_cons];by_cases m:gj k=c<;>simp[m]
  rw[e1,e1];by_cases m:gj k=c;·rw[ak m,ak m];exact p
  ·rw[aj m,aj m];refine⟨by rw[bM,bM,p.1],by simp[p.2.1],λe l b n o=>?_⟩;cases e with
   |zero=>simp at n o;subst n;subst o;exact t 0 _ _ rfl rfl
   |succ e=>exact p.2.2 e l b pn (by simpa using o)
def l9{α:Type}(S:ByteArray)(a:f_ α):f_ α:=⟨a.kind,0,0,a.text,(iy S (a.keys.zip a.items)).map Prod.snd,(iy S (a.keys.zip a.items)).map Prod.fst,a.filters⟩
def px(b:Nat->Prop)(k:Nat)(w:vz)(a:wg)(c:List (VT k)):Prop:=match c.getLast? with
 |none=>a=Bc iZ
 |some e=>iR b k w a e
def LC:n5 (Bc iZ):=⟨0,0,0,{data:=#[]},N,0,0,N,0,0,N,0,0,rfl⟩
def px.form{b:Nat->Prop}{k:Nat}{a:wg}{c:List (VT k)}(h:px b k w a c):n5 a:=by
 unfold px at h;split at h;·rw[h];exact LC
 ·exact iR.form h
def px.imp{b c:Nat->Prop}{k:Nat}{a:wg}{e:List (VT k)}(h:px b k w a e)(g:∀f,iR b k w a f->iR c k d a f):px c k d a e:=by
 unfold px at h ⊢;split at h;·exact h
 ·exact g _ h
def px.one{c:Nat->Prop}{k:Nat}{f g:Int}{j l m n o:wg}{e:List (VT k)}{b:VT k}(h:px c k w (Bc #[I U f,I U g,j,l,m,n,o]) e)(i:e=[b]):f=kO b/\g=tK b:=by subst i;obtain⟨z,s,u,t,v,y,x,p,r,q,a⟩:=iR.form2 (show iR c k w _ b from h);injection a with a;injection a with a;injection a with e0 a;injection a with e1 a;injection e0 with _ e0;injection e1 with _ e1;exact⟨e0,e1⟩
def rV{i:Nat->Prop}{k:Nat}{J:wg}{a:f_ (VT k)}(S:ByteArray)(h:iR i (k+1) w J a)(X:a.keys.length<=a.items.length)(Q:a.keys.length<=200001):wh DG 172 #[J,y7 S] w λx d=>∃K o,x=BX (BG #[K,o,I U ((iu S a.keys a.items).length:Nat)])/\wm w.heap.size w d /\
   iR (λc=>i c\/w.heap.size<=c) (k+1) d K (l9 S a)/\px i k d o (iu S a.keys a.items):=by
 obtain⟨iv,kv,W,f,rfl,E,A,q,B,hF⟩:=h.parts;obtain⟨ia,ic,rfl⟩:=ke A.1;obtain⟨ka,kc,rfl⟩:=ke B.1;obtain⟨y,z,rfl⟩:=ke hF.1;refine(Ni (S:=S) (nI:=G f) (n:=a.keys.length) A.1 B.1 rfl rfl Y Q (λe j=>?_)).m ?_
 ·obtain⟨m,l,M⟩:=cF j;have L:f[m]?=O e:=by rw[af l,M]
  exact iR.form (q m e _ L (af Y))
 ·rintro x d ⟨F,u,o,rfl,s,rfl,l,C⟩;have r:=te (R:=λe g=>iR i k w e g) S a.keys f a.items E q;have v:=ta (R:=λe g=>iR i k w e g) S a.keys f a.items E q;have D:∀{e:wg} {g:VT k},iR i k w e g->iR i k d e g:=λj=>iR.keep k j (λc _ p=>s.block c p);refine⟨nV (l9 S a) F u (Z y a.filters.length z),vC (nh S (a.keys.zip f)),?_,s,?_,?_⟩;rotate_left
  ·refine⟨F,u,Z y _ z,(iy S (a.keys.zip f)).map Prod.snd,rfl,?_,?_,λm e g j T=>?_,?_,?_⟩
   ·show _=((iy S (a.keys.zip a.items)).map Prod.snd).length;rw[aq,aq,r.2.1]
   ·refine j4.of (by rw[aq];exact l) (λc b=>C2 ?_);have:=(l.lt c b).1;omega
   ·exact iR.m k (D (r.2.2 m e g j T)) (λc b _=>C1 b)
   ·show j4 _ d 9 1 u ((iy S (a.keys.zip a.items)).map Prod.fst).length (((iy S (a.keys.zip a.items)).map Prod.fst).map λV=>y7 (gj V));rw[<-r.1,aq];refine j4.of C (λc b=>C2 ?_);have:=(C.lt c b).1;omega
   ·exact(hF.keep (λc _ p=>s.block c p)).m (λc b _=>C1 b)
  ·have P:vC (nh S (a.keys.zip f))=((iu S a.keys f).getLast?).getD (Bc iZ):=rfl;rw[P];unfold px;have t:=v.1;cases b:(iu S a.keys a.items).getLast? with
   |none=>rw[List.getLast?_eq_none_iff]at b;rw[b]at t;have:=cD.1 t;rw[this];rfl
   |some g=>rw[List.getLast?_eq_getElem?]at b;have aa:=(ay.1 b).1;rw[List.getLast?_eq_getElem?,af Y];exact D (v.2 _ _ g (af Y) (by rw[t];exact b))
  ·have:(nh S (a.keys.zip f)).length=(iu S a.keys a.items).length:=by rw[<-v.1];show _=((nh S (a.keys.zip f)).map Prod.snd).length;rw[aq]
   rw[this];rfl
def rG{b:Nat}{k:wg}(S:ByteArray)(h:GV b w k):wh DG 172 #[k,y7 S] w λe d=>∃(l a:wg) (c:Nat),e=BX (BG #[l,a,I U (c:Nat)])/\wm w.heap.size w d/\n5 l/\n5 a:=by
 obtain⟨T,n,X,v,K,V,B,m,j,rfl,g,f,i,⟨u,C⟩,y,A,z,rfl⟩:=h;obtain⟨D,F,rfl⟩:=ke g.1;obtain⟨M,Q,rfl⟩:=ke i.1;apply(Ni (S:=S) (nI:=G m) (n:=G j) g.1 i.1 rfl rfl u Y f).m;rintro e d ⟨L,W,a,rfl,q,rfl,s,t⟩;obtain⟨E,J,rfl⟩:=ke s;obtain⟨P,R,rfl⟩:=ke t;refine⟨_,_,_,rfl,q,⟨_,_,_,_,_,_,_,_,_,_,_,_,_,rfl⟩,?_⟩;unfold vC;cases r:((nh S (j.zip m)).map Prod.snd).getLast? with
 |none=>exact LC
 |some aa=>have o:=List.mem_of_getLast? r;obtain⟨⟨x,c⟩,p,rfl⟩:=cE.1 o;exact f _ (eA (List.mem_filter.1 p).1).2
def KV(b:Nat)(k:Nat)(w:vz)(c:wg)(f:Option (VT (k+1))):Prop:=match f with
 |none=>GV b w c
 |some a=>iR (λe=>b<=e) (k+1) w c a/\(f_.keys (α:=VT k) a).length<=(f_.items (α:=VT k) a).length/\(f_.keys (α:=VT k) a).length<=200001
def KV.below{b k:Nat}{v:wg}{e:Option (VT (k+1))}(h:KV b k w v e)(f:wm w.heap.size w d):KV b k d v e:=by
 cases e with
 |none=>exact GV.keep h (λa _ c=>f.block a c)
 |some g=>exact⟨iR.keep _ h.1 (λa _ c=>f.block a c),h.2⟩
def rA{b k:Nat}{q:wg}{p:Option (VT (k+1))}(f:ByteArray)(h:KV b k w q p):wh DG 172 #[q,y7 f] w λj d=>∃(e c:wg) (g:Nat),j=BX (BG #[e,c,I U (g:Nat)])/\wm w.heap.size w d/\n5 e/\n5 c /\
   ∀a:f_ (VT k),p=O a->g=(iu f a.keys a.items).length/\px (λr=>b<=r) k d c (iu f a.keys a.items):=by
 cases p with
 |none=>exact(rG f h).m λj d ⟨e,c,g,l,m,n,i⟩=>⟨e,c,g,l,m,n,i,λa o=>by cases o⟩
 |some a=>refine(rV f h.1 h.2.1 h.2.2).m λj d ⟨e,c,l,m,n,i⟩=>⟨e,c,_,l,m,iR.form n,i.form,λs o=>?_⟩;cases o;exact⟨rfl,i⟩
end
section
variable{d:Nat}{S:ByteArray}{w g:vz}{p:Nat}{s t:Option (List Nat)}
def kL:ByteArray:={data:=#[76,101,110,103,116,104]}
def kF:ByteArray:={data:=#[70,105,108,116,101,114]}
def yd{b c:Type}:∀a:List (b×c),(a.map Prod.fst).zip (a.map Prod.snd)=a
 | []=>rfl
 |e::a=>by rw[bM,bM,List.zip_cons_cons,yd a]
def zI:kL≠kF:=by decide
def DN{c:Type}(b:List (List Nat×c)):jW b=iy kF (iy kL b):=by unfold jW iy;rw[List.filter_filter];congr 1;funext a;show(!(decide (gj a.1=kL)||decide (gj a.1=kF)))=_;cases decide (gj a.1=kL)<;>cases decide (gj a.1=kF)<;>rfl
def GD{e:Type}(c:List (List Nat×e)):kC kF (iy kL c)=kC kF c:=by
 unfold kC iy;rw[List.filter_filter];congr 1;congr 1;funext b;by_cases h:gj b.1=kF
 ·have:¬gj b.1=kL:=by rw[h];exact λa=>zI a.s
  simp[h];exact λa=>zI a.s
 ·simp[h]
def lR{α:Type}(a:f_ α):f_ α:=l9 kF (l9 kL a)
def uC{b:Type}(a:f_ b):iu kF (l9 kL a).keys (l9 kL a).items=iu kF a.keys a.items:=by unfold iu l9;rw[yd,GD]
def sU{b:Type}(a:f_ b):(lR a).items=(jW (a.keys.zip a.items)).map Prod.snd/\(lR a).keys=(jW (a.keys.zip a.items)).map Prod.fst/\(lR a).filters=a.filters:=by unfold lR l9;simp only[];rw[yd,DN];exact⟨rfl,rfl,trivial⟩
def tY{k:Nat}(c:f_ (VT k)):iH c=match iu kF c.keys c.items with
  | []=>O []
  | [a]=>l7 (lz a)
  |_=>N:=by
 unfold iH l6;show(match(match iu kF c.keys c.items with|[]=>O []|[a]=>if kO a=4 then O [kt a]else if kO a=6 then O (iK a)else N|_=>N)with|none=>N|some i=>l7 i)=_;match iu kF c.keys c.items with
 | []=>rfl
 | [a]=>
  simp only[lz];by_cases f:kO a=4;·rw[ak f,aj Y]
  ·rw[aj f];by_cases e:kO a=6;·rw[ak e,ak e]
   ·rw[aj e,aj e];simp only[l7];rw[aj (λh=>f h.1)]
 |j::b::i=>rfl
def rL(a:Int)(t:Option (List Nat)):Option (List Nat×List Nat):=((cS [13] t).bind (gh [10])).bind λb=>if a<=(G b:Int)then(gh [10,101,110,100,115,116,114,101,97,109] (b.drop a.toNat)).bind λc=>if pS (O c)=CD then N else O (b.take a.toNat,c)else N
def PA(r:List Nat):(cS [13] (O r)).bind (gh [10])=(gh [10] r).or (gh [13,10] r):=by
 unfold cS;match r with
 | []=>rfl
 | [b]=>
  simp only[Option.bind_some,xZ];by_cases h:b=13;·subst h;rfl
  ·by_cases a:b=10;·subst a;rfl
   ·rw[aj h,aj a];simp only[Option.bind_some,xZ,aj a];unfold gh;simp[List.isPrefixOf]
 |b::c::r=>
  have i:gh [13,10] (b::c::r)=if b=13/\c=10 then O r else N:=by
   unfold gh;by_cases e:b=13
   ·by_cases a:c=10;·subst e a;simp
    ·simp[List.isPrefixOf,e,a];exact λf=>a f.s
   ·simp[List.isPrefixOf,e];exact λf=>absurd f.s e
  simp only[Option.bind_some,xZ,i];by_cases h:b=13
  ·subst h;by_cases a:c=10;·subst a;simp[xZ]
   ·simp[a,xZ]
  ·by_cases a:b=10;·subst a;simp[xZ]
   ·simp[h,a,xZ]
def takes_app{a b r:List Nat}:gh (a++b) r=(gh a r).bind (gh b):=by
 unfold gh;induction a generalizing r with
 |nil=>simp
 |cons e a c=>
  cases r with
  |nil=>simp
  |cons f r=>
   by_cases h:e=f
   ·subst h;have:=@c r;simp only[bH,List.isPrefixOf_cons_cons,beq_self_eq_true,cC,ai,List.drop_succ_cons]at this ⊢;exact this
   ·simp[List.isPrefixOf,h]
def tw{E:List Nat}(l:∀c∈E,pB c=CD):∀(a:List Nat) (t:List Nat),(∀c∈a,pB c=CD)->((gh a t).bind λk=>if pS (O k)=CD then N else O k)=if t.takeWhile pB=a then O (t.dropWhile pB)else N
 | [],t,_=>by
  show(if pS (O t)=CD then N else O t)=_;cases t with
  |nil=>rfl
  |cons b t=>
   show(if pB b=CD then N else O (b::t))=_;by_cases h:pB b=CD;·rw[ak h,dJ,ak h,aj cO]
   ·rw[aj h,dJ,aj h,ak rfl,dT,aj h]
 |c::a,[],h=>by show(N:Option (List Nat))=_;rw[aj cO]
 |c::a,b::t,h=>by
  have n:=tw l a t (λo m=>h o (cu _ m));have j:=h c (bU ..);rw[show c::a=[c]++a from rfl,takes_app,xZ];by_cases i:b=c
  ·subst i;rw[ak rfl,Option.bind_some,n,dJ,ak j,dT,ak j];by_cases f:t.takeWhile pB=a;·rw[ak f,ak (by rw[f];rfl)]
   ·rw[aj f,aj (λe=>f (by injection e))]
  ·rw[aj i,Option.bind_none,Option.bind_none,aj];rw[dJ];split;·intro e;injection e with e1;exact i e1
   ·intro e;cases e
def NU{k:Nat}(a:f_ (VT k))(r:List Nat)(b:VT k)(v:iu kL a.keys a.items=[b])(o:kO b=2)(n:0<=tK b):kA a r=(rL (tK b) (O r)).bind λi=>(kq a).map λm=>((m,i.1),i.2):=by
 unfold kA rL;rw[PA];cases(gh [10] r).or (gh [13,10] r)with
 |none=>rfl
 |some l=>
  have q:itemOf {data:=#[76,101,110,103,116,104]} 2 a=O b:=by unfold itemOf;rw[show iu {data:=#[76,101,110,103,116,104]} a.keys a.items=[b]from v];simp only[];rw[ak o]
  simp only[q,Option.bind_some];by_cases c:tK b<=(G l:Int)
  ·rw[ak ⟨n,c⟩,ak c,show([10,101,110,100,115,116,114,101,97,109]:List Nat)=[10]++[101,110,100,115,116,114,101,97,109]from rfl,takes_app];cases gh [10] (l.drop (tK b).toNat)with
   |none=>rfl
   |some t=>
    simp only[Option.bind_some];have:=tw (E:=[]) (λi u=>by cases u) [101,110,100,115,116,114,101,97,109] t bF;by_cases j:t.takeWhile pB=[101,110,100,115,116,114,101,97,109]
    ·rw[ak j]at this ⊢;cases e:gh [101,110,100,115,116,114,101,97,109] t with
     |none=>rw[e]at this;cases this
     |some x=>
      rw[e]at this;simp only[Option.bind_some]at this ⊢;split at this;·cases this
      ·next f=>rw[aj f];simp only[Option.some.injEq]at this;rw[<-this];simp only[Option.bind_some];cases kq a<;>rfl
    ·rw[aj j]at this ⊢;cases e:gh [101,110,100,115,116,114,101,97,109] t with
     |none=>rfl
     |some x=>
      rw[e]at this;simp only[Option.bind_some]at this ⊢;split at this;·next f=>rw[ak f];rfl
      ·cases this
  ·rw[aj (λh=>c h.2),aj c];rfl
def Tw{k:Nat}(c:f_ (VT k))(r:List Nat)(h:∀b,iu kL c.keys c.items=[b]->kO b=2->0<=tK b->False):kA c r=N:=by
 unfold kA;cases(gh [10] r).or (gh [13,10] r)with
 |none=>rfl
 |some j=>
  simp only[];cases a:itemOf {data:=#[76,101,110,103,116,104]} 2 c with
  |none=>rfl
  |some b=>
   simp only[];rw[aj];intro e;unfold itemOf at a;split at a
   ·next l i=>
    split at a;·next f=>cases a;exact h b i f e.1
    ·cases a
   ·cases a
def Fu(a:List Nat)(s:Option (List Nat)):(if lW s=a then oO s else N)=s.bind (gx a):=by
 cases s with
 |none=>show(if _ then N else N)=N;split<;>rfl
 |some r=>rfl
def Q9(s:Option (List Nat)):(if nL s=CD then mV s else N)=s.bind iq:=by
 cases s with
 |none=>rfl
 |some r=>unfold nL mV;simp only[Option.bind_some,bK];cases iq r<;>rfl
def tS(c b:Nat)(s:Option (List Nat)):Option Int:=s.bind λr=>(nZ c r).bind λa=>(mU b a.2).map λ_=>a.1
def wV(a:Nat)(t:Option (List Nat)):Option (List Nat):=(mV (((((t.bind (gx [115,116,97,114,116,120,114,101,102])).bind (gx (gJ a))).bind iq).bind (gh [37,37,69,79,70])))).bind λb=>if b=[]then O []else N
def Lq(a:Nat)(b:List Nat):wV a (O b)=mU a b:=by
 unfold wV mU mV;simp only[Option.bind_some];cases gx [115,116,97,114,116,120,114,101,102] b with
 |none=>rfl
 |some c=>
  simp only[Option.bind_some];cases gx (gJ a) c with
  |none=>rfl
  |some e=>
   simp only[Option.bind_some];cases iq e with
   |none=>rfl
   |some f=>
    simp only[Option.bind_some];cases gh [37,37,69,79,70] f with
    |none=>rfl
    |some h=>rfl
def TH(b c:Nat)(s:Option (List Nat)):tS b c s=(qr 11 (((s.bind (gx [116,114,97,105,108,101,114])).map gq).bind (gh [60,60]))).bind λa=>(lU b (show f_ (VT 11)from a.1)).bind λe=>(mU c a.2).map λ_=>e:=by
 unfold tS;cases s with
 |none=>rfl
 |some r=>
  simp only[Option.bind_some];unfold nZ;cases gx [116,114,97,105,108,101,114] r with
  |none=>rfl
  |some f=>
   simp only[bK,Option.bind_some];cases gh [60,60] (gq f)with
   |none=>rfl
   |some t=>
    simp only[qr,Option.bind_some];cases jy (gC 11) (G t+1) t with
    |none=>rfl
    |some a=>
     simp only[bK,Option.bind_some];cases lU b ⟨7,0,0,[],a.1.2,a.1.1,[]⟩with
     |none=>rfl
     |some e=>rfl
def TG{z A:Nat->Prop}{V:f_ (VT 11)}{J K:vz}{n o q m:Nat}{r u v x:Int}{L M P Q R T W X y5 y6:wg}(a:o=(iu {data:=#[83,105,122,101]} V.keys V.items).length)(k:px z 11 J (Bc #[I U r,I U u,L,M,P,Q,R]) (iu {data:=#[83,105,122,101]} V.keys V.items))
  (c:q=(iu {data:=#[82,111,111,116]} V.keys V.items).length) (l:px A 11 K (Bc #[I U v,I U x,T,W,X,y5,y6]) (iu {data:=#[82,111,111,116]} V.keys V.items)) (E:m=V.keys.length):lU n V=if o=1/\q=1/\m=2/\r=2/\u=((n+1:Nat):Int)/\v=9 then O x else N:=by
 unfold lU itemOf;rw[<-E];by_cases e:m=2
 ·rw[ak e];match hp:iu {data:=#[83,105,122,101]} V.keys V.items,a,k with
  | [],a,_=>rw[aj (by simp at a;omega)]
  |B::b::F,a,_=>rw[aj (by simp at a;omega)]
  | [y],a,k=>
   obtain⟨e0,e1⟩:=k.one rfl;simp only[];by_cases i:kO y=2
   ·rw[ak i];simp only[];by_cases f:tK y=((n+1:Nat):Int)
    ·rw[ak f];match hq:iu {data:=#[82,111,111,116]} V.keys V.items,c,l with
     | [],c,_=>rw[aj (by simp at c;omega)];rfl
     |B::b::F,c,_=>rw[aj (by simp at c;omega)];rfl
     | [aa],c,l=>
      obtain⟨C,D⟩:=l.one rfl;simp only[];by_cases j:kO aa=9;·rw[ak j,ak ⟨a,c,e,by rw[e0,i];rfl,by rw[e1,f],by rw[C,j];rfl⟩,D];rfl
      ·rw[aj j,aj (λh=>j (by have:=h.2.2.2.2.2;omega))];rfl
    ·rw[aj f,aj (λh=>f (by rw[<-e1];exact h.2.2.2.2.1))]
   ·rw[aj i,aj (λh=>i (by have:=h.2.2.2.1;omega))]
 ·rw[aj e,aj (λh=>e h.2.2.1)]
def FX(d:Nat)(S:ByteArray)(a:Option Int)(w:vz)(c:xc)(g:vz):Prop:=∃(b:Int) (t:Option (List Nat)),c=BX (I U b)/\kJ d S w g t/\((t=N/\a=N)\/(t=O []/\a=O b))
def RF(h:Sn d S w p s)(m j:Nat)(hn:m<=200000)(ha:j<=200000):wh DG 126 #[A3 (O ⟨d,0,N⟩),I U (m:Nat),I U (j:Nat)] w (FX d S (tS m j s) w):=by
 have f3:=h.lt;have H1:=H (Fw h {data:=#[116,114,97,105,108,101,114]} bF);rw[show bl {data:=#[116,114,97,105,108,101,114]}=[116,114,97,105,108,101,114]from rfl,Fu]at H1;obtain⟨a9,i⟩:∃a9,tS m j s=a9:=⟨_,rfl⟩;rw[i];rw[TH]at i;generalize s.bind (gx [116,114,97,105,108,101,114])=s1 at *;have HR:=H i;clear h i
 go_in
 go_wp2_with fail;apply H1.o.m;rintro b w1 ⟨rfl,⟨p1,e⟩,o1⟩;have O1:=H o1;have H2:=H (D3 e);clear e o1 H1;go_wp2_with fail;apply H2.o.m;rintro b w2 ⟨rfl,⟨p2,u⟩,o2⟩;have O2:=H (O1.t o2);have H3:=H (Bl u {data:=#[60,60]} bF);rw[show bl {data:=#[60,60]}=[60,60]from rfl]at H3;clear u o2 H2 O1;go_wp2_with fail;apply H3.o.m;rintro b w3 ⟨rfl,⟨p3,l⟩,o3⟩;have O3:=H (O2.t o3);generalize (s1.map gq).bind (gh [60,60])=V at *;have H4:=H (MA (k:=11) (ag _) (JM 11 Y) l);have ct:wt (∀c a,qr 11 V=O (c,a)->(f_.keys (α:=VT 11) c).length=(f_.items (α:=VT 11) c).length/\(f_.keys (α:=VT 11) c).length<=200001):=λc a b=>by
  cases V with
  |none=>cases b
  |some r=>simp only[qr,Option.bind_some,Option.map_eq_some_iff]at b;obtain⟨cg,e1,e2⟩:=b;cases e2;have:=qp (f:=gC 11) (λr gi a h=>jY h) _ _ _ _ e1;have h5:=l.len;have h6:=l.ls;exact⟨this.1,by show cg.1.1.length<=_;omega⟩
 clear l o3 H3 O2;go_wp2_with fail;apply H4.o.m;intro b R dk;obtain⟨n0,n1,n2,ao,ja,jl,jc,ka,x,kc,fa,fl,fc,t4,rfl,⟨⟨p4,h4⟩,o4⟩,bf⟩:=py.any dk;have bt:=H (O3.t o4);have bs:wt (KV w3.heap.size 11 R (Bc #[I U n0,I U n1,I U n2,y7 ao,Z ja jl jc,Z ka x kc,Z fa fl fc]) ((qr 11 V).map Prod.fst)):=by
  rcases bf with⟨e,u,l⟩|⟨c,a,e,u,l⟩;·rw[e];exact l
  ·have:=ct.o c a e;rw[e];exact⟨l,Nat.le_of_eq this.1,this.2⟩
 have c4:wt (t4=(qr 11 V).map Prod.snd):=by
  rcases bf with⟨e,u,l⟩|⟨c,a,e,u,l⟩;·rw[e];exact u
  ·rw[e];exact u
 have cs:wt (∀c a,qr 11 V=O (c,a)->x=(f_.keys (α:=VT 11) c).length):=λc a b=>by
  rcases bf with⟨e,u,l⟩|⟨V',q',e,u,l⟩;·rw[e]at b;cases b
  ·rw[e]at b;cases b;obtain⟨iv,kv,fv,vs,e1,_,_,_,hK,_⟩:=iR.parts (V:=c) l;obtain⟨f5,f6,rfl⟩:=ke hK.1;simp[nV]at e1;exact e1.2.2.2.2.2.1.2.1
 have bW:wm R.heap.size R (R.alloc (BV #[I U n0,I U n1,I U n2,y7 ao,Z ja jl jc,Z ka x kc,Z fa fl fc] 67)):=(ar _ _).alloc (ag _) _;have H5:=H (rA {data:=#[83,105,122,101]} (bs.below bW));have c2:=H h4;have cq:=H bW;have bx:wt ((R.alloc (BV #[I U n0,I U n1,I U n2,y7 ao,Z ja jl jc,Z ka x kc,Z fa fl fc] 67)).heap[R.heap.size]?=O (BV #[I U n0,I U n1,I U n2,y7 ao,Z ja jl jc,Z ka x kc,Z fa fl fc] 67 (0,0))):=bn _ _;clear h4 o4 dk bf H4 bW O3;go_wp2_with fail;apply H5.o.m;rintro b W ⟨v5,f0,c5,rfl,b5,e4,e3,di⟩;obtain⟨a0,a1,a2,a3,aa,al,ac,ba,dg,bc,ca,cl,cc,rfl⟩:=e4;obtain⟨E,F,k2,k3,da,dl,dc,ea,el,ec,ga,gl,gc,rfl⟩:=e3;have cr:=H di;have a7:=H (cq.t (b5.m cO));have bz:wt (W.heap[R.heap.size]?=O (BV #[I U n0,I U n1,I U n2,y7 ao,Z ja jl jc,Z ka x kc,Z fa fl fc] 67 (0,0))):=by unfold Hid;rw[b5.block _ (ap bx.o)];exact bx
 clear b5 di H5 bx cq;obtain⟨T,bb⟩:∃T,(W.alloc (BV #[I U a0,I U a1,I U a2,y7 a3,Z aa al ac,Z ba dg bc,Z ca cl cc] 67)).alloc (BV #[I U E,I U F,I U k2,y7 k3,Z da dl dc,Z ea el ec,Z ga gl gc] 67)=T:=⟨_,rfl⟩;have y:wm W.heap.size W T:=by rw[<-bb];exact((ar _ _).alloc (ag _) _).alloc cO _
 have ci:=(y.block _ (ap bz)).t bz;have dp:T.heap[W.heap.size+1]?=O (BV #[I U E,I U F,I U k2,y7 k3,Z da dl dc,Z ea el ec,Z ga gl gc] 67 (0,0)):=by rw[<-bb];have:=bn (W.alloc (BV #[I U a0,I U a1,I U a2,y7 a3,Z aa al ac,Z ba dg bc,Z ca cl cc] 67)) (BV #[I U E,I U F,I U k2,y7 k3,Z da dl dc,Z ea el ec,Z ga gl gc] 67);rw[aV]at this;exact this
 have H6:=H (rA {data:=#[82,111,111,116]} ((bs.below a7).below y));obtain⟨d0,d1,d2,d3,d4,d5,d6⟩:=A5 ci;have c8:=H bb;have b4:=H ci;have b8:=H dp;have a8:=H (a7.t (y.m (by have:=a7.o.size;omega)));clear bb ci dp y bz
 go_upto_region 6 with fail
 rw[c8.o];go_wp2_with fail;apply H6.o.m;rintro b J ⟨v6,f1,c6,rfl,y,e8,e7,dj⟩;obtain⟨b0,b1,b2,b3,ha,hl,L,ia,il,ic,la,ll,lc,rfl⟩:=e8;obtain⟨B,C,r2,r3,ma,ml,mc,oa,ol,oc,pa,pl,pc,rfl⟩:=e7;obtain⟨A,bd⟩:∃A,(J.alloc (BV #[I U b0,I U b1,I U b2,y7 b3,Z ha hl L,Z ia il ic,Z la ll lc] 67)).alloc (BV #[I U B,I U C,I U r2,y7 r3,Z ma ml mc,Z oa ol oc,Z pa pl pc] 67)=A:=⟨_,rfl⟩;have b7:wm T.heap.size T A:=by rw[<-bd];exact(y.alloc y.size _).alloc (by simp;have:=y.size;omega) _
 have ds:=(b7.block _ (ap b4)).t b4;have cj:=(b7.block _ (ap b8)).t b8;have ck:A.heap[J.heap.size+1]?=O (BV #[I U B,I U C,I U r2,y7 r3,Z ma ml mc,Z oa ol oc,Z pa pl pc] 67 (0,0)):=by rw[<-bd];have:=bn (J.alloc (BV #[I U b0,I U b1,I U b2,y7 b3,Z ha hl L,Z ia il ic,Z la ll lc] 67)) (BV #[I U B,I U C,I U r2,y7 r3,Z ma ml mc,Z oa ol oc,Z pa pl pc] 67);rw[aV]at this;exact this
 have g5:=uO ds;have g0:=nw cj;have g1:=rU cj;have g9:=nw ck;have dd:=H ck;have em:=H bd;have br:=H (a8.t (b7.m (by have:=a8.o.size;omega)));have c3:=H (c2.o.other br);have cw:=H (bt.t (.of_below br));have cv:wt (J.heap.size+1≠d):=by have e:=bt.o.size;have u:=a8.o.size;have l:=y.size;unfold Hid;omega
 obtain⟨n,D⟩:∃n,(!decide (c5=1/\c6=1/\x=2/\E=2/\F=((m+1:Nat):Int)/\B=9))=n:=⟨_,rfl⟩;have ek:wt ((∃z,(if n=CD then N else t4)=z/\((wV j z=N/\a9=N)\/(wV j z=O []/\a9=O C)))):=by
  refine⟨_,rfl,?_⟩;have i:=HR.o;cases M:qr 11 V with
  |none=>
   rw[M]at i;have e:t4=N:=by rw[c4.o,M];rfl
   left;rw[e];exact⟨by cases n<;>rfl,i.s⟩
  |some cg=>
   obtain⟨c,a⟩:=cg;rw[M]at i;have e:t4=O a:=by rw[c4.o,M];rfl
   have e5:=cr.o c (by rw[M];rfl);have e6:=dj c (by rw[M];rfl);have fd:=TG (n:=m) (V:=c) e5.1 e5.2 e6.1 e6.2 (cs c a M);simp only[Option.bind_some]at i;rw[show lU m (show f_ (VT 11)from c)=_ from fd]at i;rw[<-D];by_cases L:c5=1/\c6=1/\x=2/\E=2/\F=((m+1:Nat):Int)/\B=9
   ·rw[ak L]at i;rw[aH L,e];simp only[Option.bind_some]at i;show(wV j (O a)=N/\_)\/(wV j (O a)=O []/\_);rw[Lq];cases v:mU j a with
    |none=>rw[v]at i;exact C1 ⟨rfl,i.s⟩
    |some gs=>
     rw[v]at i;refine C2 ⟨?_,i.s⟩;rw[<-Lq]at v;unfold wV at v;cases hz:mV (((((O a).bind (gx [115,116,97,114,116,120,114,101,102])).bind (gx (gJ j))).bind iq).bind (gh [37,37,69,79,70]))with
     |none=>rw[hz]at v;cases v
     |some z2=>
      rw[hz]at v;simp only[Option.bind_some]at v;split at v;·rw[<-v]
      ·cases v
   ·rw[aj L]at i;rw[av L];exact C1 ⟨rfl,i.s⟩
 clear dj y b7 ds cj ck bd d0 d1 d2 d3 d4 d5 d6 H6 cr bs cs ct HR c8 b4 b8 a7 a8 br bt c2
 go_upto_region 7 with fail
 rw[em.o];have f4:IntKind.i64.wrap ((m:Int)+1)=(m:Int)+1:=by rw[bu];omega
 go_cut [63]from 15 (λbv wx=>bv=Bs n/\wx=A)
 case first=>
  by_cases q0:c5=1
  ·have m0:((c5:Int) != 1)=CS:=eS;by_cases q1:c6=1
   ·have m1:((c6:Int) != 1)=CS:=eS;by_cases q2:x=2
    ·have m2:((x:Int) != 2)=CS:=eS;by_cases q3:E=2
     ·have m3:(E != 2)=CS:=eS;by_cases q4:F=((m+1:Nat):Int)
      ·have m4:(F != (m:Int)+1)=CS:=eS;by_cases q5:B=9
       ·have m5:(B != 9)=CS:=eS;have q:wt (n=CS):=by rw[<-D,aH ⟨q0,q1,q2,q3,q4,q5⟩];rfl
        go_wp2
        go_meet
        case rel=>exact⟨by rw[q.o],rfl⟩
       ·have m5:(B != 9)=CD:=eS;have q:wt (n=CD):=by rw[<-D,av (λh=>q5 h.2.2.2.2.2)];rfl
        go_wp2
        go_meet
        case rel=>exact⟨by rw[q.o],rfl⟩
      ·have m4:(F != (m:Int)+1)=CD:=eS;have q:wt (n=CD):=by rw[<-D,av (λh=>q4 h.2.2.2.2.1)];rfl
       go_wp2
       go_meet
       case rel=>exact⟨by rw[q.o],rfl⟩
     ·have m3:(E != 2)=CD:=eS;have q:wt (n=CD):=by rw[<-D,av (λh=>q3 h.2.2.2.1)];rfl
      go_wp2
      go_meet
      case rel=>exact⟨by rw[q.o],rfl⟩
    ·have m2:((x:Int) != 2)=CD:=eS;have q:wt (n=CD):=by rw[<-D,av (λh=>q2 h.2.2.1)];rfl
     go_wp2
     go_meet
     case rel=>exact⟨by rw[q.o],rfl⟩
   ·have m1:((c6:Int) != 1)=CD:=eS;have q:wt (n=CD):=by rw[<-D,av (λh=>q1 h.2.1)];rfl
    go_wp2
    go_meet
    case rel=>exact⟨by rw[q.o],rfl⟩
  ·have m0:((c5:Int) != 1)=CD:=eS;have q:wt (n=CD):=by rw[<-D,av (λh=>q0 h.1)];rfl
   go_wp2
   go_meet
   case rel=>exact⟨by rw[q.o],rfl⟩
 case rest=>
 obtain⟨rfl,ce⟩:=hcut;have ce:=ce.s;subst ce;obtain⟨z,e9,ez⟩:=ek.o;have c7:=H e9;have X:=H ez
 go_upto_if 63 with fail
 go_cut []from 15 (λwx=>wt (kJ d S A wx z))
 case first=>
  cases n with
  |true=>
   have HE:wt (z=N):=c7.o.s;have ad:=H (tZ c3);go_wp2_with fail;apply ad.o.m;rintro b w8 ⟨rfl,h8,o8⟩;have K:wt (kJ d S A w8 z):=by rw[HE.o];exact⟨⟨_,h8⟩,o8⟩
   go_wp2
   go_meet
   case rel=>exact K
  |false=>
   have HE:wt (z=t4):=c7.o.s;have K:wt (kJ d S A A z):=by rw[HE.o];exact c3.toS
   go_wp2
   go_meet
   case rel=>exact K
 case rest=>
 obtain⟨w8,fm⟩:∃w8,w8=wc:=⟨_,rfl⟩;subst fm;obtain⟨⟨p8,h8⟩,o8⟩:=hcut.o;have O8:=H o8;have H9:=H (Fw h8 {data:=#[115,116,97,114,116,120,114,101,102]} bF);rw[show bl {data:=#[115,116,97,114,116,120,114,101,102]}=[115,116,97,114,116,120,114,101,102]from rfl,Fu]at H9;go_wp2_with fail;apply H9.o.m;rintro b w9 ⟨rfl,⟨p9,h9⟩,o9⟩;have O9:=H (O8.t o9);have d7:=H (Cw j Y w9);have cn:=H (Fw h9 (gj (gJ j)) (by rw[lu];exact aJ (xe 18 _ Y) bF));rw[show bl (gj (gJ j))=gJ j from vJ _ (Hu j),Fu]at cn;generalize gj (gJ j)=DA at *;go_wp2_with fail;apply d7.o.m;rintro b gp ⟨rfl,hw⟩;have hw:=hw.s;subst hw;go_wp2_with fail;apply cn.o.m;rintro b gk ⟨rfl,⟨f8,eu⟩,fq⟩;have en:=H (O9.t fq);have co:=H (Il eu);obtain⟨Q,fb⟩:∃Q,(z.bind (gx [115,116,97,114,116,120,114,101,102])).bind (gx (gJ j))=Q:=⟨_,rfl⟩;unfold wV at X;rw[fb]at co X;go_wp2_with fail;apply co.o.m;rintro b bh ⟨rfl,⟨gb,ev⟩,fs⟩;have eo:=H (en.t fs);have cx:=H ev;rw[<-Q9]at X;generalize f2:nL Q=LB at *
 go_upto_if 75 with fail
 go_cut []from 15 (λwx=>wt (kJ d S bh wx (if LB=CD then mV Q else N)))
 case first=>
  cases LB with
  |true=>
   have K:wt (kJ d S bh bh (if CD=CD then mV Q else N)):=cx.o.toS;go_wp2
   go_meet
   case rel=>exact K
  |false=>
   have ad:=H (tZ cx);go_wp2_with fail;apply ad.o.m;rintro b bm ⟨rfl,cd,cf⟩;have K:wt (kJ d S bh bm (if CS=CD then mV Q else N)):=⟨⟨_,cd⟩,cf⟩;go_wp2
   go_meet
   case rel=>exact K
 case rest=>
 obtain⟨bm,fi⟩:∃bm,bm=wc:=⟨_,rfl⟩;subst fi;generalize (if LB=CD then mV Q else N)=t9 at *;obtain⟨⟨gd,cd⟩,cf⟩:=hcut.o;have er:=H (eo.t cf);have cp:=H (Bl cd {data:=#[37,37,69,79,70]} bF);rw[show bl {data:=#[37,37,69,79,70]}=[37,37,69,79,70]from rfl]at cp;go_wp2_with fail;apply cp.o.m;rintro b gm ⟨rfl,⟨gf,ex⟩,fu⟩;have es:=H (er.t fu);have dv:=H (Il ex);go_wp2_with fail;apply dv.o.m;rintro b a6 ⟨rfl,⟨a5,a4⟩,fw⟩;have b9:=H (es.t fw);generalize mV (t9.bind (gh [37,37,69,79,70]))=P at *;generalize nL (t9.bind (gh [37,37,69,79,70]))=fz at *;have c0:=a4.c0;have c1:=a4.c1;have cy:=H a4;have c9:wt (a6.heap[J.heap.size+1]?=O (BV #[I U B,I U C,I U r2,y7 r3,Z ma ml mc,Z oa ol oc,Z pa pl pc] 67 (0,0))):=by unfold Hid;rw[b9.o.block _ (ap dd.o) cv.o];exact dd
 have HP:wt (∀a,P=O a->(a5=S.size↔a=[])):=λa hq=>by
  subst hq;have:=a4.len;constructor;·intro b;exact cD.1 Y
  ·intro b;subst b;exact a4.nil
 by_cases hp:a5=S.size
 ·have hd:((a5:Int) != (S.size:Int))=CS:=by rw[hp];simp
  have bw:wt (P.bind (λa=>if a=[]then O []else N)=P):=by
   cases P with
   |none=>rfl
   |some a=>have:=(HP a rfl).1 hp;subst this;rfl
  go_wp2_with fail;go_quiet (fail);have g1:(a6.drewN nq).cell? ⟨J.heap.size+1,1,N⟩=O (I U C):=(cb c9).t rfl;generalize hW:a6.drewN nq=et at *;have HW:=H hW;go_wp2;go_ret;refine⟨C,P,rfl,⟨⟨a5,by rw[<-HW.o];exact cy.drewN nq⟩,by rw[<-HW.o];exact cw.t (b9.drewN nq)⟩,?_⟩;have:=X.o;rw[bw.o]at this;exact this
 ·have hd:((a5:Int) != (S.size:Int))=CD:=eS;have bw:wt (P.bind (λa=>if a=[]then O []else N)=(N:Option (List Nat))):=by
   cases P with
   |none=>rfl
   |some a=>show(if a=[]then O []else N)=N;rw[aj (λb=>hp ((HP.o a rfl).2 b))]
  go_wp2_with fail;go_quiet (fail);have ad:=H (tZ (cy.drewN nq));have eb:=H (b9.drewN nq);have db:wt ((a6.drewN nq).heap[J.heap.size+1]?=_):=c9.o;generalize hW:a6.drewN nq=et at *;go_wp2_with fail;apply ad.o.m;rintro b fx ⟨rfl,ey,dm⟩;have g1:fx.cell? ⟨J.heap.size+1,1,N⟩=O (I U C):=by rw[cb ((dm.block _ (ap db.o) cv.o).t db.o)];rfl
  have ej:=H ey;have ei:=H (cw.t (eb.t dm));go_wp2;go_ret;refine⟨C,N,rfl,⟨⟨_,ej⟩,ei⟩,C1 ⟨rfl,?_⟩⟩;have:=X.o;rw[bw.o]at this;rcases this with h|h;·exact h.2
  ·cases h.1
end
section
variable{w a:vz}
def Bd:{k:Nat}->VT k->Prop
 |0,_=>True
 |_+1,b=>f_.kind b<=9/\(-9223372036854775808<=f_.n b/\f_.n b<=9223372036854775807)/\f_.places b<=1000000/\(gj (f_.text b)).size<=300000/\(f_.items b).length<=200001/\(f_.keys b).length<=200001/\(f_.filters b).length<=200001/\(∀c,c<(f_.keys b).length->(gj ((f_.keys b).getD c [])).size<=300000)/\(∀d∈f_.filters b,d<=100000)/\∀e∈f_.items b,Bd e
end
def qo{c:Option (List Nat×List Nat)}{g:List Nat->List Nat}{d f:List Nat}(h:(c.map λa=>(g a.1,a.2))=O (d,f)):∃e,c=O (e,f)/\d=g e:=by
 cases c with
 |none=>cases h
 |some a=>obtain⟨i,b⟩:=a;cases h;exact⟨i,rfl,rfl⟩
def tC:∀(r:List Nat) (d e:Nat) (c a:List Nat),ir d e r=O (c,a)->G c+G a<=G r
 | [],d,e,c,a,h=>by
  match d,h with
  |0,h=>simp[ir]at h;simp[h.1,h.2]
  |l+1,h=>simp[ir]at h
 |b::r,d,e,c,a,h=>by
  match d,h with
  |0,h=>
   simp only[ir]at h;split at h;·simp at h;rw[<-h.2,h.1];simp
   ·split at h;·cases h
    ·split at h;·have:=tC r 1 0 c a h;simp only[ai];omega
     ·obtain⟨i,f,rfl⟩:=qo (g:=λj=>b::j) h;have:=tC r 0 0 i a f;simp only[ai];omega
  |1,h=>
   simp only[ir]at h;split at h;·cases h
   ·have:=tC r 2 _ c a h;simp only[ai];omega
  |l+2,h=>
   simp only[ir]at h;split at h;·cases h
   ·next k _=>
    split at h;·cases h
    ·obtain⟨i,f,rfl⟩:=qo (g:=λj=>(16*e+k)::j) h;have:=tC r 0 0 i a f;simp only[ai];omega
def xI:∀(r c a:List Nat),j8 r=O (c,a)->G c+G a<=G r
 | [],c,a,h=>by cases h
 |b::r,c,a,h=>by
  simp only[j8]at h;split at h;·have:=xI r c a h;simp only[ai];omega
  ·split at h;·simp at h;rw[<-h.2,h.1];simp
   ·split at h;·cases h
    ·next f _=>obtain⟨e,d,rfl⟩:=qo (g:=λi=>f::i) h;have:=xI r e a d;simp only[ai];omega
def z8:∀a:List Nat,(jL a).length<=G a
 | []=>ag _
 | [c]=>ag _
 |c::b::a=>by have:=z8 a;simp only[jL,ai];omega
def rS:∀(f i:Nat) (r j d:List Nat),jN f i r=O (j,d)->G j+G d<=G r
 |0,i,r,j,d,h=>by simp[jN]at h
 |f+1,i,r,j,d,h=>by
  rw[jN.eq_def]at h;simp only[]at h;cases m:iq r with
  |some n=>rw[m]at h;obtain⟨c,a,rfl⟩:=qo (g:=λe=>10::e) h;have:=rS f i n c d a;have:=Id m;simp only[ai];omega
  |none=>
   rw[m]at h;cases r with
   |nil=>cases h
   |cons b k=>
    simp only[]at h;split at h
    ·cases l:jk k with
     |none=>rw[l]at h;cases h
     |some p=>obtain⟨o,n⟩:=p;rw[l]at h;obtain⟨c,a,rfl⟩:=qo (g:=λe=>o++e) h;have:=rS f i n c d a;have:=Hp l;simp only[ai,ab];omega
    ·split at h
     ·obtain⟨c,a,rfl⟩:=qo (g:=λe=>b::e) h;have:=rS f _ k c d a;simp only[ai];omega
     ·split at h
      ·split at h;·simp at h;rw[<-h.2,h.1];simp
       ·obtain⟨c,a,rfl⟩:=qo (g:=λe=>b::e) h;have:=rS f _ k c d a;simp only[ai];omega
      ·obtain⟨c,a,rfl⟩:=qo (g:=λe=>b::e) h;have:=rS f _ k c d a;simp only[ai];omega
def zk{l:List Nat}(a:l.all gX=CD):iC l+1<=10^(G l):=by have:=Mw l 0 (λc b=>by have:=bG.1 a c b;simp[gX]at this;omega) a;rw[bZ,Nat.one_mul]at this;exact this
def Fa{b:List Nat}{a:Int}(h:jZ b=O a) : -1000000000000000000<=a/\a<=1000000000000000000:=by
 unfold jZ na at h;split at h
 ·next f=>
  split at h
  ·next c=>have d:=zk c.2;have e:10^(gA b).2.length<=10^18:=aY Y Y;simp only[Option.some.injEq]at h;split at h<;>omega
  ·cases h
 ·cases h
def Ek{l:List Nat}{c:Int}{d:Nat}(h:kf l=O (c,d)):(-1000000000000000000<=c/\c<=1000000000000000000)/\d<=9:=by
 unfold kf at h;split at h;·cases h
 ·next j b m=>
  split at h
  ·next n=>
   simp only[Option.map_eq_some_iff,Prod.mk.injEq]at h;obtain⟨p,a,rfl,rfl⟩:=h;have o:(iB b).length<=G b:=by unfold iB;rw[List.length_reverse];have:=(List.dropWhile_sublist (l:=b.reverse) (λb=>b==48)).length_le;rw[List.length_reverse]at this;exact this
   refine⟨?_,Y⟩;unfold na at a;rw[Pi]at a;split at a
   ·next i=>
    have e:(((gA l).2.takeWhile λb=>b != 46)++iB b).all gX=CD:=by have:=i.2;rw[dD,a_]at this;exact this.2
    have f:=zk e;rw[ab]at f;have k:10^(((gA l).2.takeWhile λb=>b != 46).length+(iB b).length)<=10^18:=aY Y Y;have g:iC (48::(((gA l).2.takeWhile λb=>b != 46)++iB b))=iC (((gA l).2.takeWhile λb=>b != 46)++iB b):=rfl;simp only[Option.some.injEq]at a;rw[g]at a;split at a<;>omega
   ·cases a
  ·cases h
def Bd.leaf{k d:Nat}{a:Int}{b:Nat}{c:List Nat}(e:d<=9)(j : -1000000000000000000<=a/\a<=1000000000000000000)(l:b<=9)(m:G c<=200000):Bd (k:=k+1) (ik (VT k) d a b c):=
 ⟨e,by show _<=a/\a<=_;omega,by show b<=_;omega,by show(gj c).size<=_;rw[lu];omega,aw _,aw _,aw _,(λn g=>by cases g),(λi f=>by cases f),λo h=>by cases h⟩
def zb:(-1000000000000000000:Int)<=0/\(0:Int)<=1000000000000000000:=by decide
def Gx:(-1000000000000000000:Int)<=1/\(1:Int)<=1000000000000000000:=by decide
def zo{u:Type}{d:List Nat->Option (u×List Nat)}(o:∀r t b,d r=O (t,b)->G b<=G r):∀(f:Nat) (r b:List Nat) (e:List (List Nat)×List u),jy d f r=O (e,b)->∀g∈e.1,G g<=G r
 |0,r,b,e,h=>by cases h
 |f+1,r,b,e,h=>by
  simp only[jy]at h;have z:=jM r;cases p:gh [62,62] (gq r)with
  |some n=>rw[p]at h;simp at h;intro g a;rw[<-h.1]at a;cases a
  |none=>
   rw[p]at h;simp only[]at h;cases i:gh [47] (gq r)with
   |none=>rw[i]at h;cases h
   |some n=>
    rw[i]at h;simp only[]at h;have w:=(gZ i).1;cases m:ld n with
    |none=>rw[m]at h;cases h
    |some c=>
     obtain⟨k,q⟩:=c;rw[m]at h;simp only[]at h;have x:=tC n 0 0 k q m;cases l:d q with
     |none=>rw[l]at h;cases h
     |some c=>
      obtain⟨t,s⟩:=c;rw[l]at h;simp only[]at h;have y:=o _ _ _ l;cases j:jy d f s with
      |none=>rw[j]at h;cases h
      |some c=>
       rw[j]at h;have v:=zo o f s c.2 c.1 j;cases h;intro g a;rcases cJ.1 a with rfl|a;·omega
       ·have:=v g a;omega
def tR:∀{k:Nat} {r b:List Nat} {m:VT k},gC k r=O (m,b)->G r<=200000->Bd m
 |0,r,b,m,h,_=>by cases h
 |k+1,r,b,m,h,F=>by
  have B:∀r d b,gC k r=O (d,b)->G b+1<=G r:=λr d b h=>jY h;have w:∀r d b,gC k r=O (d,b)->G b<=G r:=λr d b h=>by have:=jY h;omega
  have g:∀r d b,gC k r=O (d,b)->G r<=200000->Bd d:=λr d b h D=>tR h D;simp only[gC]at h;have J:=jM r;cases q:gh [91] (gq r)with
  |some c=>
   rw[q]at h;simp only[]at h;have o:=(gZ q).1;cases a:kS (gC k) (G c+1) c with
   |none=>rw[a]at h;cases h
   |some e=>rw[a]at h;obtain⟨f,p⟩:=e;have j:=xr B _ _ _ _ a;have n:=xo w g _ _ _ _ a Y;cases h;exact⟨by show 6<=9;decide,⟨by show _<=(0:Int);decide,by show(0:Int)<=_;decide⟩,by show 0<=_;decide,by show(gj []).size<=_;decide,by show (G f)<=_;omega,aw _,aw _,(λy i=>by cases i),(λC g=>by cases g),n⟩
  |none=>
   rw[q]at h;simp only[]at h;cases s:gh [60,60] (gq r)with
   |some c=>
    rw[s]at h;simp only[]at h;have o:=(gZ s).1;cases a:jy (gC k) (G c+1) c with
    |none=>rw[a]at h;cases h
    |some e=>rw[a]at h;obtain⟨⟨z,f⟩,p⟩:=e;have j:=qp B _ _ _ _ a;have n:=xG w g _ _ _ _ a Y;have A:=zo w _ _ _ _ a;simp only[]at j A;cases h;refine⟨by show 7<=9;decide,⟨by show _<=(0:Int);decide,by show(0:Int)<=_;decide⟩,by show 0<=_;decide,by show(gj []).size<=_;decide,by show (G f)<=_;omega,by show (G z)<=_;omega,aw _,λy i=>?_,(λC g=>by cases g),n⟩;show(gj (z.getD y [])).size<=_;rw[lu,aL,af i];have i:y<G z:=i;have:=A _ (cI i);simp only[Option.getD_some];omega
   |none=>
    rw[s]at h;simp only[]at h;cases t:gh [60] (gq r)with
    |some c=>
     rw[t]at h;simp only[]at h;have o:=(gZ t).1;unfold lF at h;cases a:j8 c with
     |none=>rw[a]at h;cases h
     |some e=>obtain⟨f,p⟩:=e;rw[a]at h;cases h;have j:=xI _ _ _ a;have n:=z8 f;exact Bd.leaf bF zb bF (by simp only[];omega)
    |none=>
     rw[t]at h;simp only[]at h;cases u:gh [40] (gq r)with
     |some c=>
      rw[u]at h;simp only[]at h;have o:=(gZ u).1;cases a:lq c with
      |none=>rw[a]at h;cases h
      |some e=>obtain⟨f,p⟩:=e;rw[a]at h;cases h;have j:=rS _ _ _ _ _ a;exact Bd.leaf bF zb bF (by simp only[];omega)
     |none=>
      rw[u]at h;simp only[]at h;cases v:gh [47] (gq r)with
      |some c=>
       rw[v]at h;simp only[]at h;have o:=(gZ v).1;cases a:ld c with
       |none=>rw[a]at h;cases h
       |some e=>obtain⟨f,p⟩:=e;rw[a]at h;cases h;have j:=tC _ _ _ _ _ a;exact Bd.leaf bF zb bF (by simp only[];omega)
      |none=>
       rw[v]at h;simp only[]at h;unfold iX at h;split at h;·cases h;exact Bd.leaf bF zb bF bF
       ·split at h;·cases h;exact Bd.leaf bF zb bF bF
        ·split at h;·cases h;exact Bd.leaf bF Gx bF bF
         ·split at h
          ·next E x=>
           have l:=Fa x;split at h;·cases h;exact Bd.leaf bF l bF bF
           ·cases h;exact Bd.leaf bF l bF bF
          ·split at h
           ·next E K x=>have l:=Ek x;cases h;exact Bd.leaf bF l.1 l.2 bF
           ·cases h
section
variable{w a:vz}
def Bd.gb:∀(k:Nat) {b:VT k},Bd b->GB (nX k b)
 |0,_,_=>trivial
 |k+1,b,⟨q,h,r,i,s,t,u,j,l,g⟩=>by
  refine⟨⟨by show wH (f_.kind (α:=VT k) b:Int);unfold wH;omega,h,by show wH (f_.places (α:=VT k) b:Int);unfold wH;omega⟩,aJ i bF,?_,?_,?_,λv n=>?_,λe m=>?_,λx o=>?_⟩;·show((f_.items (α:=VT k) b).map (nX k)).length<=_;rw[aq];omega
  ·show((f_.keys (α:=VT k) b).map gj).length<=_;rw[aq];omega
  ·show((f_.filters (α:=VT k) b).map λe:Nat=>(e:Int)).length<=_;rw[aq];omega
  ·obtain⟨d,c,rfl⟩:=cE.1 n;obtain⟨p,f,rfl⟩:=cF c;have:=j p f;rw[aL,af f]at this;exact aJ this bF
  ·obtain⟨d,c,rfl⟩:=cE.1 m;have:=l d c;unfold wH;omega
  ·obtain⟨d,c,rfl⟩:=cE.1 o;exact Bd.gb k (g d c)
def oZ.itG{m:Nat->Prop}{b:Nat}{e:List (VT 12)}{l:wg}(h:oZ m 12 b e w l):∃f i,l=Z f (e.map (nX 12)).length i/\nD (ku (λc=>c<w.heap.size) 12) (λc=>c<w.heap.size) w f (e.map (nX 12)):=by
 obtain⟨f,i,rfl⟩:=h.len;refine⟨f,i,by rw[aq],λp M d=>?_⟩;rw[aE]at d;cases g:e[p]? with
 |none=>rw[g]at d;cases d
 |some t=>rw[g]at d;cases d;obtain⟨c,u,s,e1,_,_,k,j⟩:=h.at g;cases e1;obtain⟨C,D,E,F,z,B,A,J,L,K,v,y,x,o⟩:=ku.form (iR.gin 12 k);exact⟨c,0,s,rfl,aA w _ (j 0 _ (by rw[o];rfl)),λq r n=>by rw[bZ];exact j q r n,ku.m 12 (iR.gin 12 k) (λc _ h=>h)⟩
def QY{f:Nat->Prop}{b:List (VT 12)}{d:Int}{c:wg}(h:oZ f 12 0 b w c)(j:∀e∈b,GB (nX 12 e))(n:G b<=200000):wh DG 61 #[Bc #[c,I U d]] w λi a=>i=BX (Bs (jh b d))/\wm w.heap.size w a:=by obtain⟨o,p,rfl,l⟩:=h.itG;rw[<-qW];exact L7 l (λe m=>by obtain⟨g,k,rfl⟩:=cE.1 m;exact j g k) (by rw[aq];omega)
def Sh{f:Nat->Prop}{b:List (VT 12)}{d:Int}{c:wg}(h:oZ f 12 0 b w c)(hF:∀e∈b,Bd e)(m:G b<=200000):wh DG 41 #[Bc #[c,I U d]] w λi a=>i=BX (Bs (jh b d))/\wm w.heap.size w a:=by obtain⟨n,o,rfl,k⟩:=h.itG;rw[<-qW];exact LI k (λe l=>by obtain⟨g,j,rfl⟩:=cE.1 l;exact Bd.gb 12 (hF g j)) (by rw[aq];omega)
end
end Go.Proofs.YtgkljcmjnphpeaaGreatDoor
namespace Go
section
section
variable{P:Program}(w:vz)
def G8{t:Array Oper}{u:List Oper}{g:Oper}{j:xq}{o:Exit->xq->vz->Prop}(E:g.guard=N)(v x:Operand)(l e:TypeId)
  (L:g.op=.call { callee:=.builtin .append,args:=#[v,x],argTypes:=#[l,e]})
  (p:Nat) (c:TypeId) (f:TypeInfo) (S:P.underlying l=O (.slice c)) (T:P.underlying e=O .string) (J:P.info? c=O f) (X:f.zero=O (I .u8 0))
  (R:f.size=1) (B:f.bytes=1)
  (d a:Nat) (i:List wg) (Q:j.eval v=Z (O ⟨d,0,N⟩) a a) (r:G i=a) (W:∀s e,i[s]?=O e->w.cell? ((⟨d,0,N⟩:wT).add s)=O e) (b:ByteArray) (V:j.eval x=y7 b) (h0:0<b.size)
  (y:a+b.size<=maxLen) (ad:a+b.size<=140737488355328) (A:p<=w.heap.size)
  (h:∀m n,n.ownsRow p c 1 m (a+b.size) (i++Lib.strCells b)->w.grownBy n N->(∀d,m.ownBlock=O d->w.heap.size<=d)->wpList P t o u (j.put g.dst m) n):wpList P t o (g::u) j w:=by
 refine fG E λac z=>?_;have M:=Lib.run_append_grow_string (P:=P) w l e g.type c f (I .u8 0) S T J X ⟨d,0,N⟩ a a i (by rw[R];omega) W b Y Y (by rw[B];exact fD Y Y);have q:(i++Lib.strCells b).length=(a+b.size)*1:=by rw[ab,r,Lib.strCells_length,Nat.mul_one]
 have F:=grownCap_ge w (a+b.size) a c;have C:=fL w (a+b.size) a c y;unfold Oper.wp execOp;simp only[L,resolve,invoke,builtin,Sem.run_bind,Sem.run_pure,fM,fQ,bM,ew,Q,V,M];refine z _ _ (h _ _ ⟨q,.inr ⟨w.heap.size,_,_,rfl,A,heap_alloc_new w.drew _,F,C,?_,?_⟩⟩ ⟨rfl,rfl,rfl,cO,λk K _=>heap_alloc_old w.drew _ K⟩ (λg' D=>by simp[Value.ownBlock]at D;omega))
 ·have aa:(I IntKind.u8 0).cells.size=1:=rfl;simp only[Array.size_append,dN,size_zeroCells,aa,r,Lib.strCells_length];omega
 ·simp only[Array.toList_append,au];rw[<-au,<-q];exact List.take_left
end
end
end Go
namespace Go.Proofs.YtgkljcmjnphpeaaGreatDoor
open Go.RowKit
section
variable{w w':vz}{B bf:Nat}{r q:wg}{a d:List Nat}
structure qz(B bf gm:Nat)(w:vz)(r q:wg)(a d:List Nat):Prop where
 hb:B<=bf
 hv:r=Z (O ⟨gm,0,N⟩) (G a) (G a)
 blk:w.heap[bf]?=O (BV #[r,q] 122 (0,0))
 mrk:∃f,w.heap[gm]?=O (BV (nU a).toArray 5 f)
 gb:B<=gm
 po:w.ownsRow B 3 1 q (G d) (d.map λx:Nat=>I U x)
def qz.lt{b:Nat}(h:qz B bf b w r q a d):bf<w.heap.size:=ap h.blk
def qz.bw{b:Nat}(h:qz B bf b w r q a d):B<=w.heap.size:=eX (eV h.hb h.lt)
def qz.below{c:Nat}(h:qz B bf c w r q a d)(b:wm w.heap.size w w'):qz B bf c w' r q a d:=by obtain⟨f,e⟩:=h.mrk;exact⟨h.hb,h.hv,(b.block bf h.lt).t h.blk,⟨f,(b.block c (ap e)).t e⟩,h.gb,ym h.po b⟩
def qz.alloc{b:Nat}(h:qz B bf b w r q a d)(c:Obj):qz B bf b (w.alloc c) r q a d:=h.below ((ar _ _).alloc (ag _) c)
def qz.place{g:Nat}{e:wg}{m:Nat}(h:qz B bf g w r q a d)(p:w'.ownsRow B 3 1 e (G d+1) ((d.map λA:Nat=>I U A)++[I U m]))(c:w.grownBy w' q.ownBlock):qz B bf g (w'.setCell ⟨bf,1,N⟩ e) r e a (d++[m])/\wm B w (w'.setCell ⟨bf,1,N⟩ e):=by
 have y:∀b,q.ownBlock=O b->b≠bf:=λb c=>by rintro rfl;obtain⟨_,n,l,f⟩:=oQ h.po b c;rw[h.blk]at f;simp at f
 obtain⟨l,j⟩:=h.mrk;have u:g≠bf:=by rintro rfl;rw[h.blk]at j;simp at j
 have o:w'.heap[bf]?=O (BV #[r,q] 122 (0,0)):=by rw[c.block bf h.lt (λi=>y bf i.s rfl)];exact h.blk
 have s:(w'.setCell ⟨bf,1,N⟩ e).heap[bf]?=O (BV #[r,e] 122 (0,0)):=by rw[nu _ o];rfl
 have x:w'.heap[g]?=O (BV (nU a).toArray 5 l):=by
  rw[c.block g (ap j) (λi=>by obtain⟨_,n,C,f⟩:=oQ h.po g i.s;rw[j]at f;simp at f)]
  exact j
 have z:∀b,e.ownBlock=O b->b≠bf:=λb t=>by rintro rfl;obtain⟨_,n,l,f⟩:=oQ p b t;rw[o]at f;simp at f
 refine⟨⟨h.hb,h.hv,s,⟨l,by rw[lK _ (by show g≠bf;exact u)];exact x⟩,h.gb,?_⟩,?_⟩
 ·have:=Gy p ⟨bf,1,N⟩ e z;rw[ab,aI];exact this
 ·refine Below.setCell (p:=⟨bf,1,N⟩) ⟨c.os,c.tape,c.output,c.size,λk v=>c.block k (aF v h.bw) (λi=>?_)⟩ h.hb e;have:=(oQ h.po k i.s).1;omega
def KB{y m cap:Nat}{ac:Array wg}{texts:List ByteArray}{S:ByteArray}(h:qz B bf y w r q a d)(z:w.heap[m]?=O (BV ac 9 (0,0)))(a1:∀(a6:Nat) (f:ByteArray),texts[a6]?=O f->ac[a6]?=O (y7 f))(bh:G texts<=cap)(b8:cap<=1000000)(a2:G a+(kY texts).length<=500000000)(K:texts[0]?=O S)(a0:0<S.size):wh DG 96 #[A3 (O ⟨bf,0,N⟩),Z (O ⟨m,0,N⟩) (G texts) cap] w λb w'=>b=BX (BG #[])/\∃b3,jg B bf w' b3 q (a++kY texts) d/\iP B bf w w':=by
 obtain⟨i1,gi,ad,al,ao⟩:=bR infoByte;have j:=H h;have W:=H (And.intro K a0);have b0:=(ay.1 K).1;have bx:m≠bf:=by rintro rfl;rw[h.blk]at z;simp at z
 have X:=H z;have HC:=H a1;have HL:=H a2;obtain⟨D,L⟩:∃D,G texts=D:=⟨_,rfl⟩;have HN:=H L;rw[L]at bh b0 ⊢;clear h z a1 L a2 K a0
 go_in
 go_wp2;go_loopw [5,8] (λ_ R wr=>∃(c:Nat) (E:wg),c<=D/\R=I U c/\wt ((c=0/\wr=w/\E=r)\/(0<c/\jg B bf wr E q (a++kY (texts.take c)) d))/\wt (iP B bf w wr)) (λ_ R _=>D-(intOf R).toNat)
 case atStart=>exact⟨0,r,aw _,rfl,C1 ⟨rfl,rfl,rfl⟩,iP.refl _ _ _⟩
 case round=>
  obtain⟨c,E,v,rfl,g,F⟩:=hrel;rcases g.o with⟨br,Q,b1⟩|⟨b9,ba⟩
  ·subst br;have Q:=Q.s;subst Q;subst b1;have p:=W.o.1;have b2:w.cell? ⟨m,0,N⟩=O (y7 S):=by rw[cb X.o];exact HC 0 S p
   have n:kY (texts.take (0+1))=bl S:=by unfold kY;rw[cP,p];simp
   have A:(kY (texts.take (0+1))).length<=(kY texts).length:=by
    have b:=cQ (0+1) texts;have e2:kY texts=kY (texts.take (0+1))++kY (texts.drop (0+1)):=by unfold kY;rw[<-cK,b]
    rw[e2,ab];omega
   have a3:G a+S.size<=500000000:=by have:=HL.o;rw[n,mC]at A;omega
   have e:=j.o.blk;have a5:=j.o.hv;obtain⟨fm,bs⟩:=j.o.mrk;have J:=H n;have bb:=W.o.2;obtain⟨on,M⟩:∃on,on=G a:=⟨_,rfl⟩;have aa:=H M;rw[<-M]at a5 a3;subst a5;have a7:wt (∀(T:Nat) (V:wg),(nU a)[T]?=O V->w.cell? ((⟨y,0,N⟩:wT).add T)=O V):=λT V hu=>by rw[sK,cb bs];simpa using hu
   clear A n p M;have c0:=nw e;have f0:=lQ 0 e;go_wp2_with (at_builtin;refine G8 _ rfl (.tmp 16) (.tmp 17) 23 9 rfl B 5 i1 az dC gi ad al ao y on (nU a) rfl (by rw[aa.o];simp[nU]) a7 S rfl bb ?h63 ?hby ?hbs ?_)
   case h63=>unfold maxLen;omega
   case hby=>omega
   case hbs=>exact j.bw
   intro l x s u C;have k:x.heap[bf]?=O (BV #[Z (O ⟨y,0,N⟩) on on,q] 122 (0,0)):=by rw[u.block bf (ap e) (λb=>by cases b)];exact e
   have k6:=(iP.refl B bf w).grown e u (λi b=>by cases b) (λb=>by cases b) (λi b=>by cases b);have ks:=k6.setV k (λi b=>C2 (C i b));have bc:(x.setCell ⟨bf,0,N⟩ l).heap[bf]?=O (BV #[l,q] 122 (0,0)):=by rw[nu _ k];rfl
   have bv:∀i,l.ownBlock=O i->i≠bf:=λi b=>by have:=C i b;have:=j.o.lt;omega
   have b4:jg B bf (x.setCell ⟨bf,0,N⟩ l) l q (a++bl S) d:=by
    refine⟨j.hb,bc,?_,?_⟩
    ·have:=Gy s ⟨bf,0,N⟩ l bv;rw[Ez,aa.o]at this;rw[ab,mC];unfold nU at this ⊢;rw[aI];exact this
    ·refine FD j.po ks.toKept bF (λi bm a4=>?_);simp at a4;subst a4;obtain⟨_,a9,b7,hc⟩:=oQ j.po i bm;rw[e]at hc;simp at hc
   have t:=H (And.intro b4 ks);obtain⟨b5,b6,P⟩:=ke s;subst P;have c6:=nw k;have f6:=lQ 0 k;go_wp2;go_roundw
   case rel=>exact⟨0+1,_,Y,by first|rfl|(congr 1),C2 ⟨Y,by rw[J.o];exact t.1⟩,t.2⟩
   case measure=>exact eT
  have g:=H ba;rcases aC v with v|v
  ·subst v;go_wp2
   go_end0
   refine⟨rfl,E,?_,F⟩;have:=g.o;rw[show texts.take c=texts from aP (by rw[HN.o];exact ag _)]at this;exact this
  ·obtain⟨f,p⟩:∃f,texts[c]?=O f:=⟨_,af (by rw[HN.o];exact v)⟩;have bd:=F.o.block m _ (by simpa using bx) X (C2 λa9 fz b=>by cases b);have b2:wr.cell? ⟨m,c,N⟩=O (y7 f):=by rw[cb bd];exact HC c f p
   have n:kY (texts.take (c+1))=kY (texts.take c)++bl f:=by unfold kY;rw[cP,p,cK];simp
   have A:(kY (texts.take (c+1))).length<=(kY texts).length:=by unfold kY;rw[<-cQ (c+1) texts,cK,ab];simp
   have a3:(a++kY (texts.take c)).length+f.size<=500000000:=by have:=HL.o;rw[n,ab,mC]at A;rw[ab];omega
   obtain⟨va,vc,rfl⟩:=ke g.o.oo;have e:=g.o.blk;have J:=H n;generalize bz:a++kY (texts.take c)=o1 at *;have a8:=H bz;have c0:=nw e;have f0:=lQ 0 e;go_wp2_with (at_builtin;refine CH _ rfl (.tmp 16) (.tmp 17) 23 9 rfl B 5 i1 az dC gi ad al ao _ (G o1) _ rfl g.o.oo f rfl ?h63 ?hby ?hbs ?_)
   case h63=>unfold maxLen;omega
   case hby=>omega
   case hbs=>exact g.bw
   intro l x s u C;have k:x.heap[bf]?=O (BV #[Z va (G o1) vc,q] 122 (0,0)):=by rw[u.block bf (ap e) (λb=>g.o.ne bf b.s rfl)];exact e
   rw[Ez]at s;have t:=H (g.grow (iP.refl _ _ _) rfl g.o.oo u C s (mC f));obtain⟨b5,b6,P⟩:=ke s;subst P;have c6:=nw k;have f6:=lQ 0 k;go_wp2;go_roundw
   case rel=>exact⟨c+1,_,Y,by first|rfl|(congr 1),C2 ⟨Y,by rw[J.o,<-au,a8.o];exact t.1⟩,F.t t.2⟩
   case measure=>exact eT
def wM{i:Nat}(h:qz B bf i w r q a d)(S c:ByteArray)(l:0<S.size)(m:G a+(S.size+c.size)<=500000000):wh DG 96 #[A3 (O ⟨bf,0,N⟩),Z (O ⟨w.heap.size,0,N⟩) 2 2] (w.alloc (BV #[y7 S,y7 c] 9)) λf w'=>f=BX (BG #[])/\∃e,jg B bf w' e q (a++(bl S++bl c)) d/\iP B bf w w':=by
 have:=KB (S:=S) (texts:=[S,c]) (cap:=2) (h.alloc (BV #[y7 S,y7 c] 9)) (bn w _) (λg n b=>by
  match g,b with
  |0,b=>cases b;rfl
  |1,b=>cases b;rfl
  |g+2,b=>simp at b) cO bF rO
 apply(this rfl l).m;rintro f w' ⟨rfl,e,j,k⟩;refine⟨rfl,e,?_,((iP.refl B bf w).alloc _).t k⟩;simpa[kY]using j
def qz.st{e:Nat}(f:B<=bf)(g:∃j k,r=Z j (G a) k):AZ B bf r a (λc p i=>qz B bf e c r p a i):=⟨f,g,λh=>h.blk,λh=>h.po,λh b=>h.below b,λh=>h.place,λh=>wM h⟩
def TQ{l D:Nat}{g:List Nat->Prop}{m:Nat}{c:Int}{j z A:Int}{C:ByteArray}{p t n:Option wT}{x s y u v o:Nat}(K:pR l w)(F:∀b,g b->G b<=m)(E:l<=B)(h:qz B bf D w r q a d)(M : -9223372036854775808<=c)(P:c<=9223372036854775807)(Q:G d<=1000000)(L:G a+100+m<=500000000)
  (J:∀(e:vz) (k f:wg),jg B bf e k f (a++wohead c) (d++[G a])->wm B w e->wh DG (bif j==8 then 131 else 132) #[A3 (O ⟨bf,0,N⟩),Bc #[I U j,I U z,I U A,y7 C,Z p x s,Z t y u,Z n v o]] e λi w'=>∃b,g b/\mZ B bf e f (a++wohead c) (d++[G a]) b i w'):wh DG 93 #[A3 (O ⟨bf,0,N⟩),I U c,Bc #[I U j,I U z,I U A,y7 C,Z p x s,Z t y u,Z n v o]] w λi w'=>i=BX (BG #[])/\∃b k f,g b/\jg B bf w' k f (a++(wohead c++(b++[10,101,110,100,111,98,106,10]))) (d++[G a])/\wm B w w':=Od K F E (qz.st h.hb ⟨_,_,h.hv⟩) h M P Q L J
end
def cm{b:vz}{a n c:Nat}{e:Array wg}{f:Nat×Nat}(g:b.heap[a]?=O (BV e 5 f)):∃d,(convert 23 23 (Z (O ⟨a,0,N⟩) n c)).run DG b=.ok (Z (O ⟨a,0,N⟩) n c) d/\(∃h,d.heap[a]?=O (BV e 5 h))/\iJ a b d/\d.heap.size=b.heap.size:=by
 refine⟨b.freeze ⟨a,e.size,N⟩ 1,?_,?_,?_,by unfold World.freeze;simp⟩
 ·have i:b.shape? a=O (5,e.size):=by unfold World.shape?;rw[g]
  simp[convert,run_underlying az,run_underlying eU,markStringish,i]
 ·unfold World.freeze;obtain⟨o,l⟩:=f;simp[eW,g]
 ·refine⟨rfl,rfl,rfl,?_,?_⟩;·unfold World.freeze;simp
  ·intro k m j;unfold World.freeze;simp[eW,Ne.s j]
section
variable{w l:vz}
def bo(w:vz):wh DG 43 #[] w λc l=>c=BX nR/\wm w.heap.size w l:=by
 have b:wt (∀a:Array wg,wm w.heap.size w (w.alloc (BV a 67))):=λa=>(ar _ _).alloc (ag _) _
 go_in
 go_wp2;exact aK (v:=nR) (bk results43 _ _ w.heap.size 67 _ _ _ rfl (heap_alloc_new w _) bq rfl aG) rfl ⟨rfl,b _⟩
def yV:{k:Nat}->GT k->Prop
 |0,_=>True
 |_+1,a=>(GN.items a).length<=1256584717421/\(GN.keys a).length<=8796093021952/\(GN.filters a).length<=17592186043904/\∀b∈GN.items a,yV b
def xj:wg:=Bc iZ
def qe.lower{k c d b:Nat}{e:wg}{a:GT k}(h:qe k c b w e a)(t:d<=c):qe k d b w e a:=by
 cases k with
 |zero=>cases h
 |succ k=>obtain⟨j,gk,i,f,s,g,q,o,p,n,⟨u,r⟩,m⟩:=h;exact⟨j,gk,i,f,s,g,q,o,p,n,⟨Y,r⟩,m⟩
def rn{k:Nat}(h:List (GT k))(e c d:Nat)(wr:vz):Prop:=∃(L:List wg) (b:Nat->Nat),G L=e+3/\qM wr c L/\c<b 0/\(∀a,b a<=b (a+1))/\(∀a,b a<=wr.heap.size)/\(∀(a:Nat) (f:wg) (g:GT k),a<d->L[a]?=O f->h[a]?=O g->qe k (b a) (b (a+1)) wr f g)/\∀a,e<=a->a<d->L[a]?=O nR
def rn.below{k:Nat}{e:List (GT k)}{n a i:Nat}{wr j:vz}(h:rn e n a i wr)(b:wm wr.heap.size wr j):rn e n a i j:=by obtain⟨m,c,p,f,q,r,g,s,t⟩:=h;have v:=b.size;refine⟨m,c,p,f.keep (b.block a (ap f.1)),q,r,λd=>aJ (g d) v,λd A y hi x z=>?_,t⟩;exact qe.keep k (s d A y hi x z) (λo _ u=>b.block o (aF u (g _)))
def rn.start{k:Nat}{d:List (GT k)}{c b:Nat}{wr:vz}(h:qM wr b (DJ (c+3) xj)):rn d c b 0 wr:=
 ⟨_,λ_=>wr.heap.size,cO,h,ap h.1,λ_=>ag _,λ_=>ag _,λe _ _ a=>absurd a (Nat.not_lt_zero _),λe _ a=>absurd a (Nat.not_lt_zero _)⟩
def rn.put{k:Nat}{e:List (GT k)}{c a m:Nat}{wr:vz}{d:wg}(h:rn e c a m wr)(C:m<c+3)(x:rB d):rn e c a m (wr.setCells a (m*7) (cellsOf d)):=by
 obtain⟨n,o,p,q,r,f,s,t,u⟩:=h;refine⟨n.set m d,o,by rw[dZ];exact p,q.set Y x,r,f,λi=>by rw[BA];exact s i,λi A z b j y=>?_,λi v b=>?_⟩
 ·rw[List.getElem?_set_ne Y]at j;exact qe.keep k (t i A z b j y) (λg B _=>yM _ (by have:=uR f (aw i);omega) _ _ _)
 ·rw[List.getElem?_set_ne Y];exact u i v b
def rn.behind{k:Nat}{d:List (GT k)}{c e b:Nat}{wr:vz}(h:rn d c e b wr)(C:b<c+3)(g:c<=b)(A:G d=c):rn d c e (b+1) (wr.setCells e (b*7) (cellsOf nR)):=by
 obtain⟨m,n,p,q,r,f,s,t,u⟩:=h;refine⟨m.set b nR,n,by rw[dZ];exact p,q.set Y Ho,r,f,λa=>by rw[BA];exact s a,λa y x v j i=>?_,λa g v=>?_⟩
 ·have:=(ay.1 i).1;rw[List.getElem?_set_ne Y]at j;exact qe.keep k (t a y x Y j i) (λz B _=>yM _ (by have:=uR f (aw a);omega) _ _ _)
 ·by_cases o:a=b;·subst o;rw[List.getElem?_set_self Y]
  ·rw[List.getElem?_set_ne Y];exact u a g Y
def rn.item{k:Nat}{o:List (GT k)}{r j c:Nat}{wr e:vz}{x:wg}{z:GT k}(h:rn o r j c wr)(R:c<r)(b:wm wr.heap.size wr e)(K:o[c]?=O z)(y:qe k wr.heap.size e.heap.size e x z):rn o r j (c+1) (e.setCells j (c*7) (cellsOf x)):=by
 obtain⟨A,s,B,u,C,v,i,D,P⟩:=h;have J:=ap u.1;have T:=b.size;obtain⟨f,d,g⟩:∃f:Nat->Nat,(∀a,a<=c->f a=s a)/\∀a,c<a->f a=e.heap.size:=⟨λa=>if a<=c then s a else e.heap.size,λa m=>ak m,λa m=>aj Y⟩;refine⟨A.set c x,f,by rw[dZ];exact B,(u.keep (b.block j J)).set Y y.form,by rw[d 0 (aw _)];exact C,λa=>?_,λa=>?_,λa M L m n q=>?_,λa S m=>Y⟩
 ·have:=i a;by_cases p:a+1<=c;·rw[d a Y,d _ p];exact v a
  ·rw[g (a+1) Y];by_cases e2:a<=c;·rw[d a e2];omega
   ·rw[g a Y];exact ag _
 ·rw[BA];have:=i a;by_cases e2:a<=c;·rw[d a e2];omega
  ·rw[g a Y];exact ag _
 ·have Q:=uR v (aw a);by_cases p:a=c
  ·subst p;rw[List.getElem?_set_self Y]at n;cases n;rw[K]at q;cases q;rw[d _ (ag _),g _ (Nat.lt_succ_self _)];exact qe.keep k (y.lower (i a)) (λt E _=>yM _ Y _ _ _)
  ·rw[List.getElem?_set_ne Y]at n;rw[d _ Y,d _ Y];refine qe.keep k (D a M L Y n q) (λt E F=>?_);rw[yM _ Y];exact b.block t (aF F (i _))
def rn.there{k:Nat}{c:List (GT k)}{b a m:Nat}{wr:vz}(h:rn c b a m wr){j:Nat}(g:j<b+3):wr.there a (j*7) 7:=by obtain⟨L,e,f,d,_⟩:=h;exact d.there Y
def Tryz.info7:(Tryz.prog.info? 67).map (·.size)=O 7:=by kernel_rfl
def N7{k:vz}{m g a:Nat}(h:k.ownsRow m 67 7 (Z (O ⟨g,0,N⟩) a a) a (madeCells xj.cells (a*7)).toList):qM k g (DJ a xj):=by
 have d:rB xj:=⟨_,_,_,_,_,_,_,_,_,_,_,_,_,rfl⟩;rcases h.2 with⟨q,_⟩|⟨A,z,n,y,_,t,_,_,s,x⟩;·cases q
 cases y;have o:n.toList=(madeCells xj.cells (a*7)).toList:=by rw[<-x,aP (by rw[dH,s];exact ag _)]
 have u:=flat_len (L:=DJ a xj) (λe c=>by rw[List.eq_of_mem_replicate c];exact d.seven);rw[bj]at u;have e2:(madeCells xj.cells (a*7)).toList=(DJ a xj).flatMap cellsOf:=by
  apply List.ext_getElem?;intro b;by_cases v:b<a*7
  ·have p:(madeCells xj.cells (a*7)).toList[b]?=O (xj.cells[b%7]!):=by rw[dG,madeCells,Array.getElem?_map,Array.getElem?_range,ak v];rfl
   have j:=Nat.mod_lt b (show 0<7 by omega);have f:=flat_get (L:=DJ a xj) (i:=b/7) (x:=xj) (λe c=>by rw[List.eq_of_mem_replicate c];exact d.seven) (by rw[List.getElem?_replicate,ak Y]) j;rw[show b/7*7+b%7=b by omega]at f;rw[p,f];generalize b%7=r at j;rcases(by omega:r=0\/r=1\/r=2\/r=3\/r=4\/r=5\/r=6)with rfl|rfl|rfl|rfl|rfl|rfl|rfl<;>rfl
  ·rw[List.getElem?_eq_none (by rw[dH,size_madeCells];omega),List.getElem?_eq_none Y]
 exact⟨by rw[t,<-e2,<-o],λe c=>by rw[List.eq_of_mem_replicate c];exact d⟩
def CO(k:Nat):Prop:=∀(a:vz) (b:wg) (V:GT k),ku (λe=>e<a.heap.size) k a b V->GB V->yV V ->wh DG 44 #[b] a λd l=>∃c,d=BX c/\qe k a.heap.size l.heap.size l c V/\wm a.heap.size a l
def rn.lt{k:Nat}{b:List (GT k)}{e a d:Nat}{wr:vz}(h:rn b e a d wr):a<wr.heap.size:=by obtain⟨f,g,i,c,_⟩:=h;exact ap c.1
def rn.fin{k:Nat}{g:List (GT k)}{b j:Nat}{wr:vz}(h:rn g b j (b+3) wr)(A:G g=b):∃(m:List wg) (c:Nat->Nat),G m=b/\qM wr j (m++[nR,nR,nR])/\j<c 0/\(∀a,c a<=c (a+1))/\(∀a,c a<=wr.heap.size)/\∀(a:Nat) (e:wg) (f:GT k),m[a]?=O e->g[a]?=O f->qe k (c a) (c (a+1)) wr e f:=by
 obtain⟨d,c,z,r,s,t,u,v,x⟩:=h;have y:d=d.take b++[nR,nR,nR]:=by
  apply List.ext_getElem?;intro a;by_cases p:a<b;·rw[aR mH,dq p]
  ·rw[aW mH,ax,show a-min b (G d)=a-b by omega];by_cases q:a<b+3
   ·rw[x a Y q];rcases(by omega:a-b=0\/a-b=1\/a-b=2)with i|i|i<;>rw[i]<;>rfl
   ·rw[List.getElem?_eq_none Y,List.getElem?_eq_none eS]
 refine⟨d.take b,c,by rw[ax];omega,by rw[<-y];exact r,s,t,u,λa e f n o=>?_⟩;have B:=(ay.1 o).1;rw[dq Y]at n;exact v a e f Y n o
def infoIntG:(Tryz.prog.info? 3).map (λa=>(a.zero,a.size,a.bytes))=O (O (I U 0),1,8):=by kernel_rfl
def IC{g:Type}(b:List g)(f e:g){c a:Nat}(hF:G b=c)(d:b[a]?=O e):(b.take a++DJ (c-a) f).set a e=b.take (a+1)++DJ (c-(a+1)) f:=by
 have i:=(ay.1 d).1;have h:(b.take a).length=a:=by rw[ax];omega
 rw[fO _ _ Y,h,eJ,show c-a=(c-(a+1))+1 by omega,eI,List.set_cons_zero,cP,d];simp
def Lj{e:vz}{f d a c:Nat}{b:wg}(o:b.cells=#[b])(h:e.ownsRow f c 1 (Z (O ⟨d,0,N⟩) a a) a (madeCells b.cells (a*1)).toList):e.heap[d]?=O (BV (DJ a b).toArray c (0,0)):=by
 rcases h.2 with⟨i,_⟩|⟨q,p,g,n,_,k,_,_,j,m⟩;·cases i
 cases n;have e1:g.toList=(madeCells b.cells (a*1)).toList:=by rw[<-m,aP (by rw[dH,j];exact ag _)]
 rw[o,toList_madeCells_one,Nat.mul_one]at e1;rw[k,<-e1]
def I7{wr:vz}{a:Nat}{e:Array wg}{d:TypeId}(h:wr.heap[a+1]?=O (BV e d (0,0)))(f b g:wg):(((wr.setCell ⟨a,4,N⟩ f).setCell ⟨a,5,N⟩ b).setCell ⟨a,6,N⟩ g).heap[a+1]?=O (BV e d (0,0)):=by have c:a+1≠a:=Y;rw[lK _ c,lK _ c,lK _ c];exact h
def Pb{wr:vz}{a:Nat}{r:Array wg}{m:TypeId}(h:wr.heap[a+1]?=O (BV r m (0,0)))(v:r.size=7)(n o p q f b g:wg)(d:vz)(s:((((wr.setCell ⟨a,4,N⟩ f).setCell ⟨a,5,N⟩ b).setCell ⟨a,6,N⟩ g).setCells (a+1) 0 [n,o,p,q,f,b,g])=d):d.heap[a+1]?=O (BV #[n,o,p,q,f,b,g] m (0,0))/\d.heap.size=wr.heap.size/\(∀c,c≠a->c≠a+1->d.heap[c]?=wr.heap[c]?)/\∀e,e<=a->∀k,wm e k wr->wm e k d:=by
 subst s;refine⟨Ep (I7 h f b g) (by rw[v];rfl),by rw[BA];simp,λc i t=>by rw[yM _ t,lK _ i,lK _ i,lK _ i],λe j k u=>?_⟩;exact xi _ _ Y _ _ _ _ (((u.setCell j _).setCell j _).setCell j _)
def Pd{wr:vz}{a:Nat}{e:Array wg}{i:TypeId}(h:wr.heap[a+1]?=O (BV e i (0,0)))(g:e.size=7)(c b d:wg):(((wr.setCell ⟨a,4,N⟩ c).setCell ⟨a,5,N⟩ b).setCell ⟨a,6,N⟩ d).there (a+1) 0 7:=λj f=>by refine⟨?_,pA (I7 h c b d)⟩;rw[cb (I7 h c b d),bZ,bX (by rw[g];exact f)];rfl
def Py{k:Nat}(ih:CO k):CO (k+1):=by
 intro w hl V hv gl g0;obtain⟨i0,hi,em,cg,ci⟩:=bR iV;obtain⟨⟨b0,b1,b2⟩,b3,b4,b5,b6,b7,b8,b9⟩:=gl;obtain⟨m1,m2,m3,m4⟩:=g0;obtain⟨ia,ic,ka,kc,fa,fc,M,dl,dm,dg⟩:=ku.parts (V:=V) hv;unfold qf at M;have fb:=H dl;have fd:=H dm;have ex:=H dg;have et:=H b9;have fm:=H m4;have e9:=H ih;obtain⟨g,ca⟩:∃g,(GN.items (α:=GT k) V).length=g:=⟨_,rfl⟩;obtain⟨j,cc⟩:∃j,(GN.keys (α:=GT k) V).length=j:=⟨_,rfl⟩;obtain⟨i,bv⟩:∃i,(GN.filters (α:=GT k) V).length=i:=⟨_,rfl⟩;have T:=H ca;have X:=H cc;have S:=H bv;rw[ca]at M b4 m1;rw[cc]at M b5 m2;rw[bv]at M b6 m3;clear hv dl dm dg b7 b8 b9 m4 ih ca cc bv b0 b1 b2 b3 b4 b5 b6;have e8:wt (∀a1 c1 a2 c2 a3 c3,qf (show GN (GT k)from V) a1 c1 a2 c2 a3 c3=Bc #[I U (GN.kind (α:=GT k) V),I U (GN.n (α:=GT k) V),I U (GN.places (α:=GT k) V),y7 (GN.text (α:=GT k) V),Z a1 g c1,Z a2 j c2,Z a3 i c3]):=λa1 c1 a2 c2 a3 c3=>by rw[<-T.o,<-X.o,<-S.o];rfl
 generalize GN.kind (α:=GT k) V=kd at *;generalize GN.n (α:=GT k) V=nn at *;generalize GN.places (α:=GT k) V=pp at *;generalize GN.text (α:=GT k) V=tt at *;subst M;obtain⟨r,aa⟩:∃r,(w.alloc (BV #[I U kd,I U nn,I U pp,y7 tt,Z ia g ic,Z ka j kc,Z fa i fc] 67)).alloc (BV #[I U 0,I U 0,I U 0,y7 {data:=#[]},Z N 0 0,Z N 0 0,Z N 0 0] 67)=r:=⟨_,rfl⟩;have ga:=H aa;have B2:wt (wm w.heap.size w r):=by unfold Hid;rw[<-aa];exact((ar _ _).alloc (ag _) _).alloc cO _
 have cw:wt (r.heap.size=w.heap.size+2):=by unfold Hid;rw[<-aa];simp
 have X0:wt (r.heap[w.heap.size]?=O (BV #[I U kd,I U nn,I U pp,y7 tt,Z ia g ic,Z ka j kc,Z fa i fc] 67 (0,0))):=by unfold Hid;rw[<-aa];exact nt _ (bn _ _)
 have X1:wt (r.heap[w.heap.size+1]?=O (BV #[I U 0,I U 0,I U 0,y7 {data:=#[]},Z N 0 0,Z N 0 0,Z N 0 0] 67 (0,0))):=by unfold Hid;rw[<-aa];have:=bn (w.alloc (BV #[I U kd,I U nn,I U pp,y7 tt,Z ia g ic,Z ka j kc,Z fa i fc] 67)) (BV #[I U 0,I U 0,I U 0,y7 {data:=#[]},Z N 0 0,Z N 0 0,Z N 0 0] 67);rw[aV]at this;exact this
 clear aa
 go_in
 obtain⟨K,hN⟩:∃K,g+3=K:=⟨_,rfl⟩;have eN:(g:Int)+3=K:=Y;go_wp2_with (at_make;rw[ga.o];refine wpList_make_full _ rfl _ _ 29 rfl r.heap.size 67 i0 xj 7 dw hi em cg U U _ _ K rfl rfl Y Y (by rw[ci];omega) lB (ag _) ?_;intro w1 dv di);have cd:=N7 dv;have bc:=(ar _ _).grown di (ag _) (λk h=>by cases h);obtain⟨b,bx⟩:∃b,r.heap.size=b:=⟨_,rfl⟩;rw[bx]at cd bc ⊢;have cy:=H cd;have cj:=H bc;have HG:=H bx;have a6:=H hN;clear dv di cd bc bx em cg ci hi;go_loopw [4] (λs wr=>∃a:Nat,a<=K/\s=I U a/\wt (rn (GN.items (α:=GT k) V) g b a wr)/\wt (wm b r wr)) (λs _=>K-(intOf s).toNat)
 case atStart=>exact⟨0,aw _,rfl,rn.start (by rw[a6.o];exact cy),cj⟩
 case round=>
  obtain⟨a,hm,rfl,HC,HB⟩:=hrel;rcases aC hm with gv|ba
  ·subst gv;have L:¬(a:Int)<(a:Int):=Y;obtain⟨s0,si,eo,er,es⟩:=bR iS;obtain⟨P,ha⟩:∃P:vz,P=wr:=⟨_,rfl⟩;subst ha;have a9:w.heap.size<b/\w.heap.size+1<b:=by have:=cw.o;have:=HG.o;omega
   have gp:=HC.o.lt;have Y0:=H ((HB.block _ a9.1).t X0);have Y1:=H ((HB.block _ a9.2).t X1);have d5:=uO Y0;have c4:=H (B2.t (HB.o.m Y));clear cj cy hm L eN;obtain⟨t,br⟩:∃t,j+3=t:=⟨_,rfl⟩;have gd:(j:Int)+3=t:=Y;go_wp2_with (at_make;refine wpList_make_full _ rfl _ _ 38 rfl P.heap.size 9 s0 (y7 {data:=#[]}) 1 dz si eo er U U _ _ t rfl rfl Y Y (by rw[es];omega) lB (ag _) ?_;intro w3 d7 dj);have ce:=Lj rfl d7;have bf:=(ar _ _).grown dj (ag _) (λk h=>by cases h);obtain⟨gk,bz⟩:∃gk,P.heap.size=gk:=⟨_,rfl⟩;rw[bz]at ce bf gp ⊢;have c0:=H ce;have ck:=H bf;have ez:=H bz;have cr:=H br;obtain⟨x,al⟩:∃x:List wg,(GN.keys (α:=GT k) V).map y7++DJ 3 (y7 sS)=x:=⟨_,rfl⟩;have a8:wt (G x=t):=by unfold Hid;rw[<-al,ab,aq,X.o,bj,br]
   have f2:=H al;have fu:wt (∀f p,(GN.keys (α:=GT k) V)[f]?=O p->x[f]?=O (y7 p)):=λf p h=>by rw[<-al,aR (by rw[aq];exact(ay.1 h).1),aE,h];rfl
   have fv:wt (∀f,j<=f->f<t->x[f]?=O (y7 {data:=#[115,112,97,114,101]})):=λf h1 h2=>by rw[<-al,aW (by rw[aq,X.o];exact h1),aq,X.o,List.getElem?_replicate,ak Y];rfl
   clear d7 dj ce bf bz br al d5 eo er es si;go_loopw [6] (λs wx=>∃d:Nat,d<=t/\s=I U d/\wt (wx.heap[gk]?=O (BV (x.take d++DJ (t-d) (y7 {data:=#[]})).toArray 9 (0,0)))/\wt (wm gk P wx)) (λs _=>t-(intOf s).toNat)
   case atStart=>exact⟨0,aw _,rfl,c0,ck⟩
   case round=>
    obtain⟨d,hq,rfl,W,E⟩:=hrel;have Z0:=H ((E.block _ (show w.heap.size<gk by omega)).t Y0);have d5:=uO Z0;rcases aC hq with g6|ba
    ·subst g6;have L:¬(d:Int)<(d:Int):=Y;obtain⟨Q,hb⟩:∃Q:vz,Q=wr:=⟨_,rfl⟩;subst hb;obtain⟨f0,fi,c8,c9,da⟩:=bR infoIntG;have cp:wt (Q.heap[gk]?=O (BV x.toArray 9 (0,0))):=by unfold Hid;rw[W.o,eJ,List.replicate_zero,bP,aP (by rw[a8.o];exact ag _)]
     have gs:=ap cp;have Z1:=H ((E.block _ (show w.heap.size+1<gk by omega)).t Y1);have d6:=vL Z0;have c5:=H (c4.t (E.o.m Y));clear ck c0 hq L gd d5 W;obtain⟨u,bs⟩:∃u,i+3=u:=⟨_,rfl⟩;have ho:(i:Int)+3=u:=Y;go_wp2_with (at_make;refine wpList_make_full _ rfl _ _ 52 rfl Q.heap.size 3 f0 (I U 0) 1 dF fi c8 c9 U U _ _ u rfl rfl Y Y (by rw[da];omega) lB (ag _) ?_;intro w4 eb dk);have cf:=Lj rfl eb;have bh:=(ar _ _).grown dk (ag _) (λk h=>by cases h);obtain⟨m,bw⟩:∃m,Q.heap.size=m:=⟨_,rfl⟩;rw[bw]at cf bh gs ⊢;have f8:=H cf;have eu:=H bh;have ey:=H bw;have cs:=H bs;obtain⟨v,ad⟩:∃v:List wg,(GN.filters (α:=GT k) V).map (I U)++DJ 3 (I U 77)=v:=⟨_,rfl⟩;have a7:wt (G v=u):=by unfold Hid;rw[<-ad,ab,aq,S.o,bj,bs]
     have f1:=H ad;have fw:wt (∀f bm,(GN.filters (α:=GT k) V)[f]?=O bm->v[f]?=O (I U bm)):=λf bm h=>by rw[<-ad,aR (by rw[aq];exact(ay.1 h).1),aE,h];rfl
     have fx:wt (∀f,i<=f->f<u->v[f]?=O (I U 77)):=λf h1 h2=>by rw[<-ad,aW (by rw[aq,S.o];exact h1),aq,S.o,List.getElem?_replicate,ak Y]
     clear eb dk cf bh bw bs ad d6 c8 c9 da fi;go_loopw [8] (λs wx=>∃c:Nat,c<=u/\s=I U c/\wt (wx.heap[m]?=O (BV (v.take c++DJ (u-c) (I U 0)).toArray 3 (0,0)))/\wt (wm m Q wx)) (λs _=>u-(intOf s).toNat)
     case atStart=>exact⟨0,aw _,rfl,f8,eu⟩
     case round=>
      obtain⟨c,hp,rfl,R,z⟩:=hrel;have T0:=H ((z.block _ (show w.heap.size<m by omega)).t Z0);have d6:=vL T0;rcases aC hp with g2|ba
      ·subst g2;have L:¬(c:Int)<(c:Int):=Y;have cg:g<=a:=by have:=a6.o;omega
       have ci:j<=d:=by have:=cr.o;omega
       have h3:i<=c:=by have:=cs.o;omega
       have T1:=H ((z.block _ (show w.heap.size+1<m by omega)).t Z1);obtain⟨d0,d1,d2,d3,d4,d5⟩:=I9 T0;obtain⟨f4,f5,f6⟩:=Lv 4 5 6 T0;have e4:=nw T1;have co:wt (wr.heap[m]?=O (BV v.toArray 3 (0,0))):=by unfold Hid;rw[R.o,eJ,List.replicate_zero,bP,aP (by rw[a7.o];exact ag _)]
       have c6:=H (Pb T1 rfl (I U kd) (I U nn) (I U pp) (y7 tt));have cx:=H (Pd T1 rfl);clear R hp
       go_upto_region 25 with fail
       have f3:=H (cx (Z (O ⟨b,0,N⟩) g a) (Z (O ⟨gk,0,N⟩) j d) (Z (O ⟨m,0,N⟩) i c));have gc:=H (c6 (Z (O ⟨b,0,N⟩) g a) (Z (O ⟨gk,0,N⟩) j d) (Z (O ⟨m,0,N⟩) i c));have x0:(((wr.setCell ⟨w.heap.size,4,N⟩ (Z (O ⟨b,0,N⟩) g a)).setCell ⟨w.heap.size,5,N⟩ (Z (O ⟨gk,0,N⟩) j d)).setCell ⟨w.heap.size,6,N⟩ (Z (O ⟨m,0,N⟩) i c)).heap[w.heap.size]?=O (BV #[I U kd,I U nn,I U pp,y7 tt,Z (O ⟨b,0,N⟩) g a,Z (O ⟨gk,0,N⟩) j d,Z (O ⟨m,0,N⟩) i c] 67 (0,0)):=by rw[nu _ (nu _ (nu _ T0.o))];rfl
       clear d0 d1 d2 d3 d4 d5 d6 f4 f5 f6 e4 cx c6;generalize ((wr.setCell ⟨w.heap.size,4,N⟩ (Z (O ⟨b,0,N⟩) g a)).setCell ⟨w.heap.size,5,N⟩ (Z (O ⟨gk,0,N⟩) j d)).setCell ⟨w.heap.size,6,N⟩ (Z (O ⟨m,0,N⟩) i c)=wy at *;have X9:=H x0;obtain⟨d0,d1,d2,d3,d4,d5,d6⟩:=A5 X9;clear x0;go_wp2_with (refine dt rfl 67 (.tmp 2) (.tmp 110) rfl (w.heap.size+1) 0 _ rfl rfl f3 Tryz.info7 mG ?_;generalize ej:World.setCells _ _ _ _=wz;have HZ:=H (gc wz ej);clear ej);have dd:qe (k+1) w.heap.size wz.heap.size wz (qf (show GN (GT k)from V) (O ⟨b,0,N⟩) a (O ⟨gk,0,N⟩) d (O ⟨m,0,N⟩) c) V:=by
        obtain⟨z1,z2,z3,z4⟩:=HZ.o;have gt:a=(show GN (GT k)from V).items.length+3:=by have:=a6.o;have:=T.o;show a=(GN.items (α:=GT k) V).length+3;omega
        have g5:d=(show GN (GT k)from V).keys.length+3:=by have:=cr.o;have:=X.o;show d=(GN.keys (α:=GT k) V).length+3;omega
        have g1:c=(show GN (GT k)from V).filters.length+3:=by have:=cs.o;have:=S.o;show c=(GN.filters (α:=GT k) V).length+3;omega
        have hC:=HC.o;rw[<-a6.o]at hC;obtain⟨xs,c7,hc,hf,hh,ek,hj,hk⟩:=hC.fin T;have en:∀e,w.heap.size+1<e->e<gk->wz.heap[e]?=P.heap[e]?:=λe h1 h2=>by rw[z3 e Y Y,z.o.block e Y,E.o.block e Y]
        have h0:=ez.o;have hz:=ey.o;have hw:=ap co;have h5:∀f,c7 f<=gk:=λf=>by have:=hj f;omega
        refine⟨b,gk,m,c7,xs,by rw[gt,g5,g1],by rw[hc];exact T.s,hf.keep (en b Y Y),?_,?_,⟨Y,hh,ek,h5 _,Y,Y⟩,λf hn D hx hy=>?_⟩;·rw[z3 gk Y Y,z.o.block gk Y,cp.o,<-f2.o]
        ·rw[z3 m Y Y,co.o,<-f1.o]
        ·have:=uR ek (aw f);exact qe.keep k (hk f hn D hx hy) (λe h1 h2=>en e Y (by have:=h5 (f+1);omega))
       rw[e8.o]at dd;have hB:=HZ.o.2.2.2 w.heap.size (ag _) w (c5.t (z.o.m Y));refine aK (v:=Bc #[I U kd,I U nn,I U pp,y7 tt,Z (O ⟨b,0,N⟩) g a,Z (O ⟨gk,0,N⟩) j d,Z (O ⟨m,0,N⟩) i c]) ?_ rfl ⟨_,rfl,dd,hB⟩;exact bk results44 _ _ (w.heap.size+1) 67 _ _ _ rfl HZ.1 bq rfl aG
      ·have L:(c:Int)<(u:Int):=Y;have cq:∃y,wr.cell? ⟨m,c,N⟩=O y:=by rw[cb R.o,ch];exact⟨_,af (by have:=a7.o;rw[ab,ax,bj];omega)⟩
       obtain⟨y,cq⟩:=cq;have fq:wr.frozen? ⟨m,c,N⟩=CS:=pA R;by_cases g3:c<i
       ·have g4:(c:Int)<(i:Int):=Y;obtain⟨p,hs⟩:∃p,(GN.filters (α:=GT k) V)[c]?=O p:=⟨_,af (by rw[S.o];exact g3)⟩;obtain⟨e,a5,rfl,a0,ao⟩:=ex.o c p hs;have gm:wr.cell? ⟨e,a5+c,N⟩=O (I U p):=by rw[World.cell?_of_block (w:=Q) (z.o.block e Y),World.cell?_of_block (w:=w) (c5.o.block e a0)];exact ao
        clear ao;have F:=H (IC v (I U 0) _ a7 (fw c p hs));go_wp2;go_roundw
        case rel=>refine⟨c+1,Y,by go_num,?_,(z.setCell (ag _) _).setCell (ag _) _⟩;unfold Hid;rw[nu _ (nu _ R.o),List.setIfInBounds_toArray,List.setIfInBounds_toArray,List.set_set,F.o]
        case measure=>exact eT
       ·have g4:¬(c:Int)<(i:Int):=Y;have F:=H (IC v (I U 0) _ a7 (fx c Y ba));go_wp2;go_roundw
        case rel=>refine⟨c+1,Y,by go_num,?_,z.setCell (ag _) _⟩;unfold Hid;rw[nu _ R.o,List.setIfInBounds_toArray,F.o]
        case measure=>exact eT
    ·have L:(d:Int)<(t:Int):=Y;have cq:∃y,wr.cell? ⟨gk,d,N⟩=O y:=by rw[cb W.o,ch];exact⟨_,af (by have:=a8.o;rw[ab,ax,bj];omega)⟩
     obtain⟨y,cq⟩:=cq;have fq:wr.frozen? ⟨gk,d,N⟩=CS:=pA W;by_cases g7:d<j
     ·have g9:(d:Int)<(j:Int):=Y;obtain⟨p,hs⟩:∃p,(GN.keys (α:=GT k) V)[d]?=O p:=⟨_,af (by rw[X.o];exact g7)⟩;obtain⟨e,a5,rfl,a0,ao⟩:=fd.o d p hs;have gm:wr.cell? ⟨e,a5+d,N⟩=O (y7 p):=by rw[World.cell?_of_block (w:=P) (E.o.block e Y),World.cell?_of_block (w:=w) (c4.o.block e a0)];exact ao
      clear ao;have F:=H (IC x (y7 {data:=#[]}) _ a8 (fu d p hs));go_wp2;go_roundw
      case rel=>refine⟨d+1,Y,by go_num,?_,(E.setCell (ag _) _).setCell (ag _) _⟩;unfold Hid;rw[nu _ (nu _ W.o),List.setIfInBounds_toArray,List.setIfInBounds_toArray,List.set_set,F.o]
      case measure=>exact eT
     ·have g9:¬(d:Int)<(j:Int):=Y;have F:=H (IC x (y7 {data:=#[]}) _ a8 (fv d Y ba));go_wp2;go_roundw
      case rel=>refine⟨d+1,Y,by go_num,?_,E.setCell (ag _) _⟩;unfold Hid;rw[nu _ W.o,List.setIfInBounds_toArray,F.o]
      case measure=>exact eT
  ·have L:(a:Int)<(K:Int):=Y;have a9:w.heap.size<b:=by have:=cw.o;have:=HG.o;omega
   go_wp2_with fail;apply(bo _).m;rintro q wb ⟨rfl,bb⟩;have gb:=H (HB.t (bb.m (eX HC.lt)));have H1:=H (HC.below bb);have hT:=H1.o.there (j:=a) Y;have ac:wt (∀wc,wb.setCells b (a*7) (cellsOf nR)=wc->rn (GN.items (α:=GT k) V) g b a wc/\wm b r wc):=λwc q=>by rw[<-q];exact⟨H1.put Y Ho,xi _ _ (ag _) _ _ _ _ gb⟩
   have ct:wt (∀wc,wb.setCells b (a*7) (cellsOf nR)=wc->wc.cell? ⟨w.heap.size,4,N⟩=O (Z ia g ic)):=λwc q=>by rw[cb (((ac.o wc q).2.block _ a9).t X0.o)];rfl
   clear bb;by_cases ds:a<g
   ·have gw:(a:Int)<(g:Int):=Y;obtain⟨D,hy⟩:∃D,(GN.items (α:=GT k) V)[a]?=O D:=⟨_,af (by rw[T.o];exact ds)⟩;have dp:=aQ hy;obtain⟨e,a5,xv,rfl,a0,B,hx⟩:=fb.o a D hy;obtain⟨k0,k1,k2,k3,ja,jl,jc,h4,h7,h6,hr,hu,ht,C⟩:=ku.form hx;have A:wt (∀wc,wb.setCells b (a*7) (cellsOf nR)=wc->∀(a4:Nat) (y:wg),w.cell? ⟨e,a4,N⟩=O y->wc.cell? ⟨e,a4,N⟩=O y):=λwc q a4 y h=>by rw[World.cell?_of_block (w:=r) ((ac.o wc q).2.block e Y),World.cell?_of_block (w:=w) (B2.o.block e a0)];exact h
    have q0:w.cell? ⟨e,a5+a*7,N⟩=O (I U k0):=B 0 _ (by rw[C];rfl);have q1:=B 1 _ (by rw[C];rfl);have q2:=B 2 _ (by rw[C];rfl);have q3:=B 3 _ (by rw[C];rfl);have q4:=B 4 _ (by rw[C];rfl);have q5:=B 5 _ (by rw[C];rfl);have q6:=B 6 _ (by rw[C];rfl);have cl:=H (λwc q=>by have dc:=B2.o.t ((ac wc q).2.m Y);exact e9 wc xv D (ku.m k (ku.keep k hx (λe hg _=>dc.block e hg)) (λe hg _=>aF hg dc.size)) (et D dp) (fm D dp))
    subst C;go_wp2_with (refine dt rfl 67 (.tmp 23) (.tmp 22) rfl b (a*7) _ rfl rfl hT Tryz.info7 mG ?_;generalize o:World.setCells _ _ _ _=wc;have d4:=ct.o wc o;have r0:=A.o wc o _ _ q0;have r1:=A.o wc o _ _ q1;have r2:=A.o wc o _ _ q2;have r3:=A.o wc o _ _ q3;have r4:=A.o wc o _ _ q4;have r5:=A.o wc o _ _ q5;have r6:=A.o wc o _ _ q6;have cn:=H (cl wc o);have J:=H (ac wc o);clear o q0 q1 q2 q3 q4 q5 q6 hT);apply cn.o.m;rintro q wd ⟨v',rfl,bt,bd⟩;have ev:=H bt;obtain⟨j0,j1,j2,j3,ea,el,ec,e2,e3,e4,e5,e6,e7,M⟩:=bt.form;subst M;have db:=(J.1.below bd).there (j:=a) Y;have fz:wt (∀we,wd.setCells b (a*7) (cellsOf (Bc #[I U j0,I U j1,I U j2,y7 j3,Z ea el ec,Z e2 e3 e4,Z e5 e6 e7]))=we->rn (GN.items (α:=GT k) V) g b (a+1) we/\wm b r we):=λwe q=>by rw[<-q];exact⟨J.1.item ds bd hy ev,xi _ _ (ag _) _ _ _ _ (J.2.t (bd.m (eX J.1.lt)))⟩
    clear bt bd cn cl A r0 r1 r2 r3 r4 r5 r6 hx B hy;go_wp2_with (refine dt rfl 67 (.tmp 37) (.tmp 36) rfl b (a*7) _ rfl rfl db Tryz.info7 mG ?_;generalize ei:World.setCells _ _ _ _=we;have cv:=H (fz we ei);clear ei db);go_roundw
    case rel=>exact⟨a+1,Y,by go_num,cv.1,cv.2⟩
    case measure=>exact eT
   ·have gw:¬(a:Int)<(g:Int):=Y;have fs:wt (∀wc,wb.setCells b (a*7) (cellsOf nR)=wc->rn (GN.items (α:=GT k) V) g b (a+1) wc/\wm b r wc):=λwc q=>by refine⟨?_,(ac wc q).2⟩;rw[<-q];exact H1.behind Y Y T
    go_wp2_with (refine dt rfl 67 (.tmp 23) (.tmp 22) rfl b (a*7) _ rfl rfl hT Tryz.info7 mG ?_;generalize o:World.setCells _ _ _ _=wc;have d4:=ct.o wc o;have J:=H (fs wc o);clear o hT);go_roundw
    case rel=>exact⟨a+1,Y,by go_num,J.1,J.2⟩
    case measure=>exact eT
def Lk:∀k,CO k
 |0=>λb c a h=>by cases h
 |k+1=>Py (Lk k)
end
