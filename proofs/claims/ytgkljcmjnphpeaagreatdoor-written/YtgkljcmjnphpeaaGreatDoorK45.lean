import Derived.Test.YtgkljcmjnphpeaaGreatDoorK44
set_option linter.unusedVariables false
set_option linter.unusedSimpArgs false
set_option maxHeartbeats 4000000
set_option maxRecDepth 100000
namespace Go.Proofs.YtgkljcmjnphpeaaGreatDoor
open Go.RowKit
section
variable{w a:World}
def GM(w:World)(f:Except Nat (List Nat))(b:Ending)(a:World):Prop:=match f with
 | .ok c=>∃d,b=.returned d/\a.ownsRow w.heap.size 5 1 d c.length (l_ c)/\Below w.heap.size w a
 | .error e=>b=gU e/\Below w.heap.size w a
structure tJ(D:Nat->Nat->List Nat->Except Nat (List Nat)->Prop)(Q:World->Prop):Prop where
 call:∀(w:World) (v:Value) (f most:Nat) (d:List Nat) (res:Except Nat (List Nat)),qQ f->nx w v d->most<=1000000->Q w->D f most d res->Calls Tryz.prog 80 #[.int .i64 f,v,.int .i64 most] w (GM w res)
 keep:∀(w a:World),Q w->Below w.heap.size w a->Q a
 byt:∀(f most:Nat) (d l:List Nat),D f most d (.ok l)->∀x∈l,x<256
def nZ(e:Nat->Nat->List Nat->Except Nat (List Nat)->Prop):List Nat->List Nat->Nat->Except Nat (List Nat)->Prop
 | [],b,c,d=>d=(if b.length<=c then(if b.length<=20000 then .ok b else .error 4)else .error 6)
 |f::h,b,c,d=>(∃m,e f c b (.ok m)/\nZ e h m c d)\/(∃g,e f c b (.error g)/\d=.error g)
def ug(w:World)(e:Except Nat (List Nat))(b:Ending)(a:World):Prop:=Below w.heap.size w a/\match e with
 | .ok c=>b=.returned (.string (gC c))
 | .error d=>b=gU d
theorem ug.ok_{d:Except Nat (List Nat)}{c:List Nat}(b:Below w.heap.size w a)(e:d=.ok c):ug w d (.returned (.string (gC c))) a:=by subst e;exact⟨b,rfl⟩
theorem ug.no_{d:Except Nat (List Nat)}{c:Nat}(b:Below w.heap.size w a)(e:d=.error c):ug w d (gU c) a:=by subst e;exact⟨b,rfl⟩
theorem uo{C:Nat->Nat->List Nat->Except Nat (List Nat)->Prop}{E:World->Prop}(N:tJ C E){G:Option Addr}{M m:Nat}{h:List nU}{pv:Value}{F:List Nat}{B:Except Nat (List Nat)}(R:kZ w.heap.size w (.slice G h.length M) h)(a1:h.length<=1000000)(T:nx w pv F)(S:m<=1000000)(O:E w)(P:nZ C (h.map λf=>f.1) F m B) :
  Calls Tryz.prog 100 #[.slice G h.length M,pv,.int .i64 (m:Nat)] w (ug w B):=by
 have y:=gv N;have J:=gv R;have X:=gv T;have Y:=gv O;have HU:=gv P;obtain⟨z,A⟩:∃z,h.length=z:=⟨_,rfl⟩;have K:=gv A;rw[A]at a1 ⊢;rw[A]at J;clear N R T O P A;go_enter Tryz.func100,Tryz.ntmps100;go_wp2;go_loopw [7,13] (λa4 H wr=>∃(j:Nat) (k:List Nat),j<=z/\H=.int .i64 (j:Int)/\Hid (nx wr a4 k)/\Hid (Below w.heap.size w wr)/\Hid (E wr)/\Hid (nZ C ((h.drop j).map λf=>f.1) k m B)) (λ_ H _=>z-(intOf H).toNat)
 case atStart=>exact⟨0,F,aE _,rfl,X,aj _ _,Y,HU⟩
 case round =>
  obtain⟨j,k,t,rfl,v,l,D,L⟩:=hrel;obtain⟨va,vc,a3,_⟩:=v.o.sl;subst a3;rcases bN t with t | t
  ·subst t;have d:=L.o;rw[dt (by rw[K.o];exact af _)]at d;have d:B=(if k.length<=m then(if k.length<=20000 then .ok k else .error 4)else .error 6):=d;obtain⟨r,p⟩:∃r,r=k.length:=⟨_,rfl⟩;have HL:=gv p;rw[<-p]at d ⊢;by_cases e:r<=m
   ·rw[aA e]at d;by_cases i:r<=20000
    ·rw[aA i]at d;have n:=gv d;have a6:(convert 23 9 (.slice va r vc)).run Tryz.prog wr=.ok (.string (gC k)) wr:=by obtain⟨⟨ao,al,g,hd,_⟩,_⟩:=v.o;cases g;rw[p];exact Fc hd
     clear d p;go_wp2_with (first | (go_at_call 63;refine(pG _ _ _ _ (by omega) (by omega)).mono ?_;rintro g a ⟨rfl,c⟩;have c:=c.symm;subst c) | (go_at_call 63;refine(sF _ _ _ _ (by omega)).mono ?_;rintro g a ⟨rfl,c⟩;have c:=c.symm;subst c));refine(oq _).mono ?_;rintro g a ⟨rfl,c⟩;have c:=c.symm;subst c;go_wp2;go_ret;exact .ok_ l.o n.o
    ·rw[au i]at d;have n:=gv d;clear d p;go_wp2_with (first | (go_at_call 63;refine(pG _ _ _ _ (by omega) (by omega)).mono ?_;rintro g a ⟨rfl,c⟩;have c:=c.symm;subst c) | (go_at_call 63;refine(sF _ _ _ _ (by omega)).mono ?_;rintro g a ⟨rfl,c⟩;have c:=c.symm;subst c));refine(sn _).mono ?_;rintro g a ⟨rfl,c⟩;have c:=c.symm;subst c;exact⟨rfl,.no_ l.o n.o⟩
   ·rw[au e]at d;have n:=gv d;clear d p;go_wp2_with (first | (go_at_call 63;refine(pG _ _ _ _ (by omega) (by omega)).mono ?_;rintro g a ⟨rfl,c⟩;have c:=c.symm;subst c) | (go_at_call 63;refine(sF _ _ _ _ (by omega)).mono ?_;rintro g a ⟨rfl,c⟩;have c:=c.symm;subst c));exact⟨rfl,.no_ l.o n.o⟩
  ·obtain⟨f,u⟩:∃f,h[j]?.getD nU.one=f:=⟨_,rfl⟩;have q:j<h.length:=by rw[K.o];exact t
   have Q:h.drop j=f::h.drop (j+1):=by rw[bU q];rw[ai q]at u;simp at u;rw[u]
   have a0:∃b,G=some ⟨b,0,none⟩/\wr.cell? ⟨b,j,none⟩=some (.int .i64 (f.1:Nat)):=by
    rcases J.o.below l.o with⟨e,i⟩ | ⟨b,al,e,i,h3⟩;·rw[i]at q;simp at q
    ·cases e;refine⟨b,rfl,?_⟩;rw[h3 j q,u]
   obtain⟨b,rfl,hc⟩:=a0;have d:=L.o;rw[Q]at d;clear u Q q;rcases d with⟨U,e,i⟩ | ⟨a7,e,i⟩
   ·have x:=gv (y.o.call wr _ f.1 m k _ f.2 v.o S D.o e);have ac:=gv i;have W:Hid (∀a5∈U,a5<256):=y.o.byt _ _ _ _ e;clear e i;go_wp2_with fail;refine x.o.mono ?_;rintro g w1 ⟨v1,rfl,I,s⟩;obtain⟨a8,a9,a2⟩:=i_ I;subst a2;have V:=gv (nx.own I W.o);have ad:=gv (l.o.trans (s.mono l.o.size));have Z:=gv (y.o.keep _ _ D.o s);clear I s x;go_wp2;go_roundw
    case rel=>exact⟨j+1,U,by omega,by first | rfl | (congr 1),V,ad,Z,ac⟩
    case measure=>simp[intOf];omega
   ·have x:=gv (y.o.call wr _ f.1 m k _ f.2 v.o S D.o e);have n:=gv i;clear e i;go_wp2_with fail;refine x.o.mono ?_;rintro g w1 ⟨rfl,s⟩;exact⟨rfl,.no_ (l.o.trans (s.mono l.o.size)) n.o⟩
end
section
variable{w:World}
structure FE(f:Nat)(d enc:List Nat):Prop where
 ok:zL f d enc
 byd:∀x∈d,x<256
 run:f=3->enc=jX d
 hex:f=1->enc=iH d++[62]
 a85:f=2->enc=jn d
 fla:f=4->∃bl,ud d bl/\enc=pr d bl
theorem FE.one{a:Nat}{d e1 e2:List Nat}(b:FE a d e1)(c:FE a d e2)(i:1<=a/\a<=4):e1=e2:=by
 obtain rfl | rfl | rfl | rfl:a=1\/a=2\/a=3\/a=4:=by omega
 ·rw[b.hex rfl,c.hex rfl]
 ·rw[b.a85 rfl,c.a85 rfl]
 ·rw[b.run rfl,c.run rfl]
 ·obtain⟨g,e,rfl⟩:=b.fla rfl;obtain⟨h,f,rfl⟩:=c.fla rfl;rw[e.one f]
def FD(e b:Nat)(d:List Nat)(c:Except Nat (List Nat)):Prop:=∃a,zL e a d/\(∀f∈a,f<256)/\((a.length<=b/\c=.ok a)\/(b<a.length/\c=.error 6))
theorem Ay:rC FE 65535:=by
 refine⟨λw a l d ⟨C,D⟩ x r=>?_,λl d c e=>e.ok.byt,λl d c e=>by have:=e.ok.len;omega⟩;obtain⟨⟨ao,cap,rfl,m,s,t,v⟩,i⟩:=x;have o:∀p,p<d.length->nth d p<256:=λp u=>AV i p u;obtain rfl | rfl | rfl | rfl:l=1\/l=2\/l=3\/l=4:=by omega
 ·have:=AA (w:=w) (ao:=ao) (n:=d.length) (cap:=cap) (P:=λa f=>∃c,f.ownsRow w.heap.size 5 1 a c.length (l_ c)/\Below w.heap.size w f/\FE 1 d c) ((IK ao cap d (af _) m (by omega) o).mono (by
   rintro j f ⟨a,rfl,g,h⟩;have r:(iH d++[62]).length=2*d.length+1:=by simp[jw]
   exact⟨a,rfl,iH d++[62],by rw[r];exact g,h.below (af _) (by simp),CY i,i,λe=>by omega,λ_=>rfl,λe=>by omega,λe=>by omega⟩))
  refine this.mono ?_;rintro j f ⟨a,rfl,c,g,h,k⟩;exact⟨a,c,rfl,g,h,k⟩
 ·have:=AB (w:=w) (ao:=ao) (n:=d.length) (cap:=cap) (P:=λa f=>∃c,f.ownsRow w.heap.size 5 1 a c.length (l_ c)/\Below w.heap.size w f/\FE 2 d c) (by
   by_cases q:0<d.length
   ·obtain⟨b,B,rfl,_,_⟩:=m.at q;refine(IG m (af _) o (by omega) ⟨s,t⟩).mono ?_;rintro j f ⟨a,rfl,g,h⟩;exact⟨a,rfl,jn d,g,h.below (af _) (by simp),AE i,i,λe=>by omega,λe=>by omega,λ_=>rfl,λe=>by omega⟩
   ·obtain rfl:d=[]:=cG (by omega);refine(IE cap).mono ?_;rintro j f ⟨a,rfl,g,h⟩;exact⟨a,rfl,[126,62],g,h.below (af _) (by simp),AE (data:=[]) i,i,λe=>by omega,λe=>by omega,λ_=>rfl,λe=>by omega⟩)
  refine this.mono ?_;rintro j f ⟨a,rfl,c,g,h,k⟩;exact⟨a,c,rfl,g,h,k⟩
 ·have:=xr (w:=w) (ao:=ao) (n:=d.length) (cap:=cap) (P:=λa f=>∃c,f.ownsRow w.heap.size 5 1 a c.length (l_ c)/\Below w.heap.size w f/\FE 3 d c) (by
   by_cases q:0<d.length
   ·obtain⟨b,B,rfl,_,_⟩:=m.at q;refine(Fj m (af _) o (by omega) ⟨s,t⟩).mono ?_;rintro j f ⟨a,rfl,g,h⟩;exact⟨a,rfl,jX d,g,h.below (af _) (by simp),AF i,i,λ_=>rfl,λe=>by omega,λe=>by omega,λe=>by omega⟩
   ·obtain rfl:d=[]:=cG (by omega);refine(IM cap).mono ?_;rintro j f ⟨a,rfl,g,h⟩;exact⟨a,rfl,[128],g,h.below (af _) (by simp),AF (data:=[]) i,i,λ_=>rfl,λe=>by omega,λe=>by omega,λe=>by omega⟩)
  refine this.mono ?_;rintro j f ⟨a,rfl,c,g,h,k⟩;exact⟨a,c,rfl,g,h,k⟩
 ·have:=AC (w:=w) (ao:=ao) (n:=d.length) (cap:=cap) (P:=λa f=>∃c,f.ownsRow w.heap.size 5 1 a c.length (l_ c)/\Below w.heap.size w f/\FE 4 d c) ((IJ m (af _) o r ⟨s,t⟩ v).mono (by rintro j f ⟨a,bl,rfl,g,h,k,E,y,z,A⟩;exact⟨a,rfl,pr d bl,g,h,CZ i k y z,i,λe=>by omega,λe=>by omega,λe=>by omega,λ_=>⟨bl,A,rfl⟩⟩))
  refine this.mono ?_;rintro j f ⟨a,rfl,c,g,h,k⟩;exact⟨a,c,rfl,g,h,k⟩
theorem Aw:tJ FD (λ_=>True):=by
 refine⟨λw E l most f D ⟨z,A⟩ t i _ n=>?_,λ_ _ _ _=>trivial,λl most f C m=>?_⟩
 ·obtain⟨k,hF,h,p⟩:=n;obtain⟨⟨y,a,rfl,q,v,x,B⟩,j⟩:=t;obtain⟨b,e,rfl,s,o⟩:=q.at hF.pos;have g:zM w b e a f:=⟨s,o,λu r=>AV j u r,v,x⟩;rcases p with⟨d,rfl⟩ | ⟨d,rfl⟩;·exact hF.ok w b e a most g i d
  ·exact hF.cap w b e a most g d i
 ·obtain⟨k,hF,h,⟨_,c⟩ | ⟨_,c⟩⟩:=m;·cases c;exact h
  ·cases c
theorem pu(j:Nat):∀(b a d:List Nat),mL FE b a d->(∀m∈a,m<256)->a.length<=20000->2^b.length*(a.length+36)<=j->nZ FD b d j (.ok a)
 | [],a,d,c,k,h,i=>by have c:d=a:=c;subst c;show _=_;rw[aA (by simp at i;omega),aA h]
 |l::b,a,d,c,k,h,i=>by obtain⟨e,f,g⟩:=c;have o:e.length+36<=2^b.length*(a.length+36):=pack_len b a e f;rw[ag,dG,dT (2^b.length) 2,eM]at i;exact Or.inl ⟨e,⟨e,g.ok,g.byd,Or.inl ⟨by omega,rfl⟩⟩,pu j b a e f k h (by omega)⟩
 where
 pack_len:∀(b a d:List Nat),mL FE b a d->d.length+36<=2^b.length*(a.length+36)
 | [],a,d,c=>by have c:d=a:=c;subst c;simp
 |l::b,a,d,c=>by obtain⟨e,f,g⟩:=c;have h3:=pack_len b a e f;have n:=g.ok.len;rw[ag,dG,dT (2^b.length) 2,eM];omega
end
section
variable{w w':World}
def sT{k:Nat}(y:VT (k+1))(a:List Nat):VT (k+1):=({ (show gz (VT k)from y)with text:=a }:gz (VT k))
theorem Fs{e f g m h i j s:Value}:∀(a:List Value) (c:Nat),(∀d∈a,(cellsOf d).length=7)->a[c]?=some (.agg #[e,f,g,m,h,i,j])->(a.set c (.agg #[e,f,g,s,h,i,j])).flatMap cellsOf=(a.flatMap cellsOf).set (c*7+3) s
 | [],c,_,b=>by simp at b
 |d::a,0,_,b=>by simp at b;subst b;rfl
 |d::a,c+1,l,b=>by have k:=l d (aQ ..);have ih:=Fs (s:=s) a c (λo n=>l o (aV _ n)) (by simpa using b);rw[List.set_cons_succ,cH,cH,ih,ft _ _ (by rw[k];omega),k];congr 2;omega
theorem gR.text{a:Nat->Prop}{k:Nat}{i:Value}{y:VT (k+1)}(m:gR a (k+1) w i y)(h:List Nat):∃b c d j e f g,i=.agg #[b,c,d,j,e,f,g]/\gR a (k+1) w (.agg #[b,c,d,.string (gC h),e,f,g]) (sT y h):=by obtain⟨s,t,l,u,n,o,h3,p,q,r⟩:=m;exact⟨_,_,_,_,_,_,_,n,s,t,l,u,rfl,o,h3,p,q,r⟩
theorem kK.text{f:Nat->Prop}{k b g n c:Nat}{h:List (VT (k+1))}(D:kK f (k+1) b h w (.slice (some ⟨g,0,none⟩) n c)){m:Nat}{y:VT (k+1)}(l:h[m]?=some y)(H:∀a,f a->a≠g)(e:List Nat) :
  kK f (k+1) b (h.set m (sT y e)) (w.setCell ⟨g,m*7+3,none⟩ (.string (gC e))) (.slice (some ⟨g,0,none⟩) n c):=by
 obtain⟨p,E,F,h3⟩:=D;have N:=(aX.1 l).1;obtain⟨d,i⟩:∃d,p[m]?=some d:=⟨_,ai (by omega)⟩;have T:=h3 m d y i l;obtain⟨u,v,x,Z,z,A,B,U,P⟩:=T.text e;subst U;have G:∀d∈p,(cellsOf d).length=7:=λd i=>by obtain⟨t,L,M⟩:=cA i;obtain⟨y,l⟩:∃y,h[t]?=some y:=⟨_,ai (by omega)⟩;exact(h3 t d y (by rw[ai L,M]) l).cells.1
 have r:∀a,f a->a<w.heap.size->(w.setCell ⟨g,m*7+3,none⟩ (.string (gC e))).heap[a]?=w.heap[a]?:=λa Q _=>jL _ (H a Q);refine⟨p.set m (.agg #[u,v,x,.string (gC e),z,A,B]),?_,by rw[eF,eF,F],λs X Y j o=>?_⟩
 ·rw[eF,Fs p m G i];obtain⟨V,W⟩:=E;refine⟨by rw[eF];exact V,?_⟩;rcases W with⟨q,_⟩ | ⟨a,c',C,q,I,K,O,J,R,S⟩;·cases q
  ·cases q;refine Or.inr ⟨g,c,C.setIfInBounds (m*7+3) (.string (gC e)),rfl,I,by rw[lq _ K],O,J,by rw[fM];exact R,?_⟩;rw[Array.toList_setIfInBounds,<-S,List.take_set]
 ·by_cases c:s=m
  ·subst c;rw[List.getElem?_set_self (by omega)]at j;rw[List.getElem?_set_self N]at o;cases j;cases o;exact gR.keep (k+1) P r
  ·rw[List.getElem?_set_ne (eG c)]at j o;exact gR.keep (k+1) (h3 s X Y j o) r
def UA(c:Nat->Nat->List Nat->Except Nat (List Nat)->Prop):List (VT 12 × List Nat)->Nat->Except Nat (List (VT 12))->Prop
 | [],_,b=>b=.ok []
 |a::f,d,b =>
  (gz.kind (α:=VT 11) a.1≠8/\∃r,UA c f d r/\b=r.map (a.1 :: ·)) \/
  (gz.kind (α:=VT 11) a.1=8/\((∃e r,nZ c (gz.filters (α:=VT 11) a.1) a.2 d (.ok e)/\UA c f (d-e.length) r/\b=r.map (sT (k:=11) a.1 e :: ·))\/(∃g,nZ c (gz.filters (α:=VT 11) a.1) a.2 d (.error g)/\b=.error g)))
theorem nZ.le{f:Nat->Nat->List Nat->Except Nat (List Nat)->Prop}:∀(e d:List Nat) (b:Nat) (c:List Nat),nZ f e d b (.ok c)->c.length<=b
 | [],d,b,c,a=>by
  unfold nZ at a;split at a
  ·split at a;·cases a;assumption
   ·cases a
  ·cases a
 |g::e,d,b,c,a=>by
  rcases a with⟨m,_,a⟩ | ⟨h,_,a⟩;·exact nZ.le e m b c a
  ·cases a
def xU(w:World)(f:Except Nat (List (VT 12)))(g:Int)(a:Ending)(w':World):Prop:=
 Below w.heap.size w w'/\match f with
  | .ok c=>∃b,a=.returned (.agg #[b,.int .i64 g])/\kK (λd=>w.heap.size<=d) 12 w.heap.size c w' b
  | .error e=>a=gU e
theorem xU.no_{c:Except Nat (List (VT 12))}{e:Int}{a:Nat}(b:Below w.heap.size w w')(d:c=.error a):xU w c e (gU a) w':=by subst d;exact⟨b,rfl⟩
theorem xU.ok_{d:Except Nat (List (VT 12))}{a:List (VT 12)}{e:Int}{c:Value}(b:Below w.heap.size w w')(g:d=.ok a)(h:kK (λf=>w.heap.size<=f) 12 w.heap.size a w' c):xU w d e (.returned (.agg #[c,.int .i64 e])) w':=by subst g;exact⟨b,_,rfl,h⟩
end
def oZ:List (VT 12)->List (List Nat)->Prop
 | [],[]=>True
 |a::b,c::m=>BO FE 9 a c/\oZ b m
 |_,_=>False
theorem lR.list:∀{e:List (VT 12)} {ms:List (List Nat)},ms.length=e.length->(∀(b:Nat) (c:List Nat) (d:VT 12),ms[b]?=some c->e[b]?=some d->BO FE 9 d c)->oZ e ms
 | [],[],_,_=>trivial
 |g::k,c::m,a,f=>⟨f 0 c g rfl rfl,lR.list (by simpa using a) (λb d j h i=>f (b+1) d j h i)⟩
 | [],_::_,a,_=>by simp at a
 |_::_,[],a,_=>by simp at a
theorem mL.one:∀(a c d b:List Nat),(∀e∈a,1<=e/\e<=4)->mL FE a c d->mL FE a c b->d=b
 | [],c,d,b,_,f,k=>Eq.trans f (Eq.symm k)
 |e::a,c,d,b,g,f,k=>by obtain⟨o,h,i⟩:=f;obtain⟨n,l,m⟩:=k;obtain rfl:=mL.one a c o n (λp j=>g p (aV _ j)) h l;exact FE.one i m (g e (aQ ..))
theorem oZ.one{o:Nat}:∀{f:List (VT 12)} {h b:List (List Nat)},(∀d∈f,jT o d)->oZ f h->oZ f b->h=b
 | [],[],[],_,_,_=>rfl
 |d::v,x::w,s::n,j,a,k=>by
  rw[oZ.one (λl m=>j l (aV _ m)) a.2 k.2];congr 1;rcases a.1 with⟨c,t,q,_,_,rfl⟩ | ⟨c,rfl⟩
  ·rcases k.1 with⟨_,u,r,_,_,rfl⟩ | ⟨g,_⟩
   ·have p:∀i∈gz.filters (α:=VT 11) d,1<=i/\i<=4:=by
     rcases j d (aQ ..)with e | ⟨s,e,rfl⟩ | e;·exact absurd c (hH.kind e)
     ·cases c
     ·exact e.2.2.2.2.2.2.2.2.2.2
    rw[mL.one _ _ _ _ p q r]
   ·exact absurd c g
  ·rcases k.1 with⟨g,_⟩ | ⟨_,rfl⟩;·exact absurd g c
   ·rfl
 | [],_::_,_,_,a,_=>a.elim
 | [],[],_::_,_,_,k=>k.elim
 |_::_,[],_,_,a,_=>a.elim
 |_::_,_::_,[],_,_,k=>k.elim
theorem Ge(f:Nat):∀(g a c:List Nat),mL FE g a c->a.length<=20000->(nZ FD g c f (.ok a)/\a.length<=f)\/nZ FD g c f (.error 6)
 | [],a,c,h,i=>by
  have h:c=a:=h;subst h;by_cases d:c.length<=f
  ·refine Or.inl ⟨?_,d⟩;show _=_;rw[aA d,aA i]
  ·refine Or.inr ?_;show _=_;rw[au d]
 |m::g,a,c,h,i=>by
  obtain⟨b,j,e⟩:=h;by_cases d:b.length<=f
  ·rcases Ge f g a b j i with⟨k,l⟩ | k;·exact Or.inl ⟨Or.inl ⟨b,⟨b,e.ok,e.byd,Or.inl ⟨d,rfl⟩⟩,k⟩,l⟩
   ·exact Or.inr (Or.inl ⟨b,⟨b,e.ok,e.byd,Or.inl ⟨d,rfl⟩⟩,k⟩)
  ·exact Or.inr (Or.inr ⟨6,⟨b,e.ok,e.byd,Or.inr ⟨by omega,rfl⟩⟩,rfl⟩)
theorem oZ.back{p:Nat}(s:p<=6):∀{n:List (VT 12)} {ms:List (List Nat)},(∀a∈n,jT p a)->oZ n ms->∃l,nw ms l/\(∀c,i8 n+608<=c->UA FD l c (.ok n))/\(∀c,c<i8 n->UA FD l c (.error 6))/\(∀e∈l,jT p e.1/\∀b∈e.2,b<256)/\l.map (λe=>kO e.1)=n.map kO
 | [],[],_,_=>⟨[],trivial,λ_ _=>rfl,λc h=>(by simp[i8]at h),λe g=>(by cases g),rfl⟩
 |a::j,S::m,x,h=>by
  obtain⟨l,t,u,h3,v,w⟩:=oZ.back s (λz I=>x z (aV _ I)) h.2;have i:=x a (aQ ..);rcases h.1 with⟨d,G,y,T,r,rfl⟩ | ⟨d,rfl⟩
  ·have q:nL p a:=by
    rcases i with i | ⟨e,i,rfl⟩ | i;·exact absurd d (hH.kind i)
    ·cases d
    ·exact i
   have N:=nL.st s q;have H:jT p (⟨8,0,0,[],gz.items (α:=VT 11) a,gz.keys (α:=VT 11) a,gz.filters (α:=VT 11) a⟩:gz (VT 11)):=by obtain⟨_,_,_,C,D,E,F,_,_,A,B⟩:=q;exact Or.inr (Or.inr ⟨rfl,rfl,rfl,C,D,E,F,aE _,λS P=>(by cases P),A,B⟩)
   obtain⟨_,Q,R,_,_,_,_,W,O,K,U⟩:=q;have L:2^(gz.filters (α:=VT 11) a).length<=2^3:=cy (by omega) K;have V:=Nat.mul_le_mul L (show(gz.text (α:=VT 11) a).length+36<=76 by omega);have o:i8 (a::j)=(gz.text (α:=VT 11) a).length+i8 j:=by rw[i8];congr 1;exact aA d
   have J:sT (k:=11) (⟨8,0,0,[],gz.items (α:=VT 11) a,gz.keys (α:=VT 11) a,gz.filters (α:=VT 11) a⟩:gz (VT 11)) (gz.text (α:=VT 11) a)=a:=by show(⟨8,0,0,gz.text (α:=VT 11) a,gz.items (α:=VT 11) a,gz.keys (α:=VT 11) a,gz.filters (α:=VT 11) a⟩:gz (VT 11))=a;rw[<-d,<-Q,<-R];rfl
   refine⟨((⟨8,0,0,[],gz.items (α:=VT 11) a,gz.keys (α:=VT 11) a,gz.filters (α:=VT 11) a⟩:gz (VT 11)),G)::l,⟨qr N (by omega),t⟩,λc f=>?_,λc f=>?_,λe g=>?_,?_⟩
   ·rw[o]at f;have M:2^(gz.filters (α:=VT 11) a).length*((gz.text (α:=VT 11) a).length+36)<=c:=by omega
    refine Or.inr ⟨rfl,Or.inl ⟨gz.text (α:=VT 11) a,.ok j,pu c _ _ _ y O (by omega) M,u _ (by omega),?_⟩⟩;show Except.ok (a::j)=Except.ok (sT (k:=11) _ _::j);rw[J]
   ·rw[o]at f;rcases Ge c _ _ _ y (by omega)with⟨k,X⟩ | k;·exact Or.inr ⟨rfl,Or.inl ⟨_,.error 6,k,h3 _ (by omega),rfl⟩⟩
    ·exact Or.inr ⟨rfl,Or.inr ⟨6,k,rfl⟩⟩
   ·rcases bT.1 g with rfl | g;·exact⟨H,r⟩
    ·exact v e g
   ·rw[bJ,bJ,w];congr 1;exact d.symm
  ·have o:i8 (a::j)=i8 j:=by have:n6 a=0:=au d;rw[i8,this,b_]
   refine⟨(a,[])::l,⟨rv (jT.rt s i d),t⟩,λc f=>?_,λc f=>?_,λe g=>?_,by rw[bJ,bJ,w]⟩
   ·rw[o]at f;exact Or.inl ⟨d,.ok j,u c f,rfl⟩
   ·rw[o]at f;exact Or.inl ⟨d,.error 6,h3 c f,rfl⟩
   ·rcases bT.1 g with rfl | g;·exact⟨i,λb r=>by cases r⟩
    ·exact v e g
 | [],_::_,_,h=>h.elim
 |_::_,[],_,h=>h.elim
end Go.Proofs.YtgkljcmjnphpeaaGreatDoor
namespace Go
section
section
variable{P:Program}(w:World)
theorem Bt{t:Array Oper}{u:List Oper}{g:Oper}{i:Act}{n:Exit->Act->World->Prop}(E:g.guard=none)(v x:Operand)(j e:TypeId)
  (I:g.op=.call { callee:=.builtin .append,args:=#[v,x],argTypes:=#[j,e] })
  (o:Nat) (c:TypeId) (f:TypeInfo) (M:P.underlying j=some (.slice c)) (N:P.underlying e=some .string) (G:P.info? c=some f) (R:f.zero=some (.int .u8 0))
  (L:f.size=1) (B:f.bytes=1)
  (d a:Nat) (h:List Value) (K:i.eval v=.slice (some ⟨d,0,none⟩) a a) (r:h.length=a) (Q:∀s e,h[s]?=some e->w.cell? ((⟨d,0,none⟩:Addr).add s)=some e) (b:ByteArray) (O:i.eval x=.string b) (V:0<b.size)
  (p:a+b.size<=maxLen) (W:a+b.size<=140737488355328) (A:o<=w.heap.size)
  (y:∀l m,m.ownsRow o c 1 l (a+b.size) (h++Lib.strCells b)->w.grownBy m none->(∀d,l.ownBlock=some d->w.heap.size<=d)->wpList P t n u (i.put g.dst l) m):wpList P t n (g::u) i w:=by
 refine fh E λT z=>?_;have X:a+b.size<=9223372036854775807:=by simp only[maxLen]at p;omega
 have J:=Lib.run_append_grow_string (P:=P) w j e g.type c f (.int .u8 0) M N G R ⟨d,0,none⟩ a a h (by rw[L];omega) Q b (by omega) (by omega) (by rw[B];exact eV (by omega) (by omega));have q:(h++Lib.strCells b).length=(a+b.size)*1:=by rw[ab,r,Lib.strCells_length,Nat.mul_one]
 have F:=grownCap_ge w (a+b.size) a c;have C:grownCap w (a+b.size) a c<=maxLen:=fY w (a+b.size) a c p;unfold Oper.wp execOp;simp only[I,resolve,invoke,builtin,Sem.run_bind,Sem.run_pure,eH,eR,bJ,dR,K,O,J];refine z _ _ (y _ _ ⟨q,.inr ⟨w.heap.size,_,_,rfl,A,heap_alloc_new w.drew _,F,C,?_,?_⟩⟩ ⟨rfl,rfl,rfl,by simp,λk H _=>heap_alloc_old w.drew _ H⟩ (λU D=>by simp[Value.ownBlock]at D;omega))
 ·have S:(Value.int IntKind.u8 0).cells.size=1:=rfl;simp only[Array.size_append,dS,size_zeroCells,S,r,Lib.strCells_length];omega
 ·simp only[Array.toList_append,ak];rw[<-ak,<-q];exact List.take_left
end
end
end Go
namespace Go.Proofs.YtgkljcmjnphpeaaGreatDoor
open Go.RowKit
section
variable{w w':World}{B bf:Nat}{q l:Value}{a d:List Nat}
theorem wint_pos(e:Int):0<(iE e).length:=by
 have c:∀b,0<(iL b).length:=λb=>by unfold iL;rw[av,Lib.decDigits];split<;>simp
 unfold iE;split;·simp
 ·exact c _
structure n8(B bf gm:Nat)(w:World)(q l:Value)(a d:List Nat):Prop where
 hb:B<=bf
 hv:q=.slice (some ⟨gm,0,none⟩) a.length a.length
 blk:w.heap[bf]?=some (.cells #[q,l] 122 (0,0))
 mrk:∃f,w.heap[gm]?=some (.cells (l_ a).toArray 5 f)
 gb:B<=gm
 po:w.ownsRow B 3 1 l d.length (d.map λx:Nat=>.int .i64 (x:Int))
theorem n8.lt{b:Nat}(c:n8 B bf b w q l a d):bf<w.heap.size:=ae c.blk
theorem n8.bw{c:Nat}(b:n8 B bf c w q l a d):B<=w.heap.size:=e_ (dD b.hb b.lt)
theorem n8.below{e:Nat}(c:n8 B bf e w q l a d)(b:Below w.heap.size w w'):n8 B bf e w' q l a d:=by obtain⟨g,f⟩:=c.mrk;exact⟨c.hb,c.hv,(b.block bf c.lt).trans c.blk,⟨g,(b.block e (ae f)).trans f⟩,c.gb,vV c.po b⟩
theorem n8.alloc{b:Nat}(e:n8 B bf b w q l a d)(c:Obj):n8 B bf b (w.alloc c) q l a d:=e.below ((aj _ _).alloc (af _) c)
theorem n8.drew{c:Nat}(b:n8 B bf c w q l a d):n8 B bf c w.drew q l a d:=⟨b.hb,b.hv,b.blk,b.mrk,b.gb,b.po⟩
theorem n8.place{h:Nat}{f:Value}{n:Nat}(b:n8 B bf h w q l a d)(r:w'.ownsRow B 3 1 f (d.length+1) ((d.map λA:Nat=>.int .i64 (A:Int))++[.int .i64 (n:Int)]))(e:w.grownBy w' l.ownBlock) :
  n8 B bf h (w'.setCell ⟨bf,1,none⟩ f) q f a (d++[n])/\Below B w (w'.setCell ⟨bf,1,none⟩ f):=by
 have y:∀c,l.ownBlock=some c->c≠bf:=λc e=>by rintro rfl;obtain⟨_,o,m,g⟩:=nR b.po c e;rw[b.blk]at g;simp at g
 obtain⟨m,j⟩:=b.mrk;have u:h≠bf:=by rintro rfl;rw[b.blk]at j;simp at j
 have p:w'.heap[bf]?=some (.cells #[q,l] 122 (0,0)):=by rw[e.block bf b.lt (λi=>y bf i.symm rfl)];exact b.blk
 have s:(w'.setCell ⟨bf,1,none⟩ f).heap[bf]?=some (.cells #[q,f] 122 (0,0)):=by rw[lq _ p];rfl
 have x:w'.heap[h]?=some (.cells (l_ a).toArray 5 m):=by
  rw[e.block h (ae j) (λi=>by obtain⟨_,o,C,g⟩:=nR b.po h i.symm;rw[j]at g;simp at g)]
  exact j
 have z:∀c,f.ownBlock=some c->c≠bf:=λc t=>by rintro rfl;obtain⟨_,o,m,g⟩:=nR r c t;rw[p]at g;simp at g
 refine⟨⟨b.hb,b.hv,s,⟨m,by rw[jL _ (by show h≠bf;exact u)];exact x⟩,b.gb,?_⟩,?_⟩
 ·have:=A8 r ⟨bf,1,none⟩ f z;rw[ab,aH];exact this
 ·refine Below.setCell (p:=⟨bf,1,none⟩) ⟨e.os,e.tape,e.output,e.size,λk v=>e.block k (aC v b.bw) (λi=>?_)⟩ b.hb f;have:=(nR b.po k i.symm).1;omega
theorem EB{A m cap:Nat}{G:Array Value}{texts:List ByteArray}{S:ByteArray}(H:n8 B bf A w q l a d)(C:w.heap[m]?=some (.cells G 9 (0,0)))(a2:∀(ba:Nat) (f:ByteArray),texts[ba]?=some f->G[ba]?=some (.string f))(bn:texts.length<=cap)(b4:cap<=1000000)(a3:a.length+(jU texts).length<=500000000)(I:texts[0]?=some S)(al:0<S.size) :
  Calls Tryz.prog 96 #[.pointer (some ⟨bf,0,none⟩),.slice (some ⟨m,0,none⟩) texts.length cap] w λb w'=>b=.returned (.tuple #[])/\∃b0,iR B bf w' b0 l (a++jU texts) d/\h_ B bf w w':=by
 obtain⟨i1,Y,Z,ac,ad⟩:=bu Tryz.infoByte;have j:=gv H;have R:=gv (And.intro I al);have bv:0<texts.length:=(aX.1 I).1;have bs:m≠bf:=by rintro rfl;rw[H.blk]at C;simp at C
 have T:=gv C;have U:=gv a2;have V:=gv a3;obtain⟨D,J⟩:∃D,texts.length=D:=⟨_,rfl⟩;have W:=gv J;rw[J]at bn bv ⊢;clear H C a2 J a3 I al;go_enter Tryz.func96,Tryz.ntmps96;go_wp2;go_loopw [5,8] (λ_ N wr=>∃(c:Nat) (z:Value),c<=D/\N=.int .i64 (c:Int)/\Hid ((c=0/\wr=w/\z=q)\/(0<c/\iR B bf wr z l (a++jU (texts.take c)) d))/\Hid (h_ B bf w wr)) (λ_ N _=>D-(intOf N).toNat)
 case atStart=>exact⟨0,q,aE _,rfl,Or.inl ⟨rfl,rfl,rfl⟩,h_.refl _ _ _⟩
 case round =>
  obtain⟨c,z,y,rfl,g,E⟩:=hrel;rcases g.o with⟨br,M,bx⟩ | ⟨b5,ao⟩
  ·subst br;have M:=M.symm;subst M;subst bx;have r:=R.o.1;have bz:w.cell? ⟨m,0,none⟩=some (.string S):=by rw[cb T.o];exact U.o 0 S r
   have p:jU (texts.take (0+1))=bl S:=by unfold jU;rw[cP,r];simp
   have x:(jU (texts.take (0+1))).length<=(jU texts).length:=by
    have b:=cI (0+1) texts;have e2:jU texts=jU (texts.take (0+1))++jU (texts.drop (0+1)):=by unfold jU;rw[<-cx,b]
    rw[e2,ab];omega
   have a4:a.length+S.size<=500000000:=by have:=V.o;rw[p,nM]at x;omega
   have e:=j.o.blk;have a9:=j.o.hv;obtain⟨fm,a6⟩:=j.o.mrk;have F:=gv p;have bm:=R.o.2;obtain⟨on,K⟩:∃on,on=a.length:=⟨_,rfl⟩;have X:=gv K;rw[<-K]at a9 a4;subst a9;have bc:Hid (∀(O:Nat) (Q:Value),(l_ a)[O]?=some Q->w.cell? ((⟨A,0,none⟩:Addr).add O)=some Q):=λO Q hu=>by rw[aa,cb a6];simpa using hu
   clear x p r K;have c0:=mb e;have f0:=ix 0 e;go_wp2_with (at_builtin;refine Bt _ rfl (.tmp 16) (.tmp 17) 23 9 rfl B 5 i1 aq cN Y Z ac ad A on (l_ a) rfl (by rw[X.o];simp[l_]) bc.o S rfl bm ?h63 ?hby ?hbs ?_)
   case h63=>unfold maxLen;omega
   case hby=>omega
   case hbs=>exact j.o.bw
   intro s u k n t;have i:u.heap[bf]?=some (.cells #[.slice (some ⟨A,0,none⟩) on on,l] 122 (0,0)):=by rw[n.block bf (ae e) (λb=>by cases b)];exact e
   have k6:h_ B bf w u:=(h_.refl B bf w).grown e n (λh b=>by cases b) (λb=>by cases b) (λh b=>by cases b);have P:=k6.setV i (λh b=>Or.inr (t h b));have a0:(u.setCell ⟨bf,0,none⟩ s).heap[bf]?=some (.cells #[s,l] 122 (0,0)):=by rw[lq _ i];rfl
   have a7:∀h,s.ownBlock=some h->h≠bf:=λh b=>by have:=t h b;have:=j.o.lt;omega
   have bb:iR B bf (u.setCell ⟨bf,0,none⟩ s) s l (a++bl S) d:=by
    refine⟨j.o.hb,a0,?_,?_⟩
    ·have:=A8 k ⟨bf,0,none⟩ s a7;rw[zm,X.o]at this;rw[ab,nM];unfold l_ at this ⊢;rw[aH];exact this
    ·refine zY j.o.po P.togD (by decide) (λh bq a5=>?_);simp at a5;subst a5;obtain⟨_,bi,b3,hc⟩:=nR j.o.po h bq;rw[e]at hc;simp at hc
   have v:=gv (And.intro bb P);obtain⟨b1,b2,L⟩:=i_ k;subst L;have c6:=mb i;have f6:=ix 0 i;clear k n t i e k6 P a0 a7 bb a6;go_wp2;go_roundw
   case rel=>exact⟨0+1,_,by omega,by first | rfl | (congr 1),Or.inr ⟨by omega,by rw[F.o];exact v.o.1⟩,v.o.2⟩
   case measure=>simp[intOf];omega
  have g:Hid (iR B bf wr z l (a++jU (texts.take c)) d):=ao;clear ao;rcases bN y with y | y
  ·subst y;go_wp2
   go_end0
   refine⟨rfl,z,?_,E.o⟩;have:=g.o;rw[show texts.take c=texts from aY (by rw[W.o];exact af _)]at this;exact this
  ·obtain⟨f,r⟩:∃f,texts[c]?=some f:=⟨_,ai (by rw[W.o];exact y)⟩;have a1:wr.heap[m]?=some (.cells G 9 (0,0)):=E.o.block m _ (by simpa using bs) T.o (Or.inr λbi fz b=>by cases b);have bz:wr.cell? ⟨m,c,none⟩=some (.string f):=by rw[cb a1];exact U.o c f r
   have p:jU (texts.take (c+1))=jU (texts.take c)++bl f:=by unfold jU;rw[cP,r,cx];simp
   have x:(jU (texts.take (c+1))).length<=(jU texts).length:=by unfold jU;rw[<-cI (c+1) texts,cx,ab];simp
   have a4:(a++jU (texts.take c)).length+f.size<=500000000:=by have:=V.o;rw[p,ab,nM]at x;rw[ab];omega
   obtain⟨va,vc,rfl⟩:=i_ g.o.oo;have e:=g.o.blk;have F:=gv p;clear a1 p x;generalize a8:a++jU (texts.take c)=o1 at *;have bd:=gv a8;clear a8 r;have c0:=mb e;have f0:=ix 0 e;go_wp2_with (at_builtin;refine xQ _ rfl (.tmp 16) (.tmp 17) 23 9 rfl B 5 i1 aq cN Y Z ac ad _ o1.length _ rfl g.o.oo f rfl ?h63 ?hby ?hbs ?_)
   case h63=>unfold maxLen;omega
   case hby=>omega
   case hbs=>exact g.o.bw
   intro s u k n t;have i:u.heap[bf]?=some (.cells #[.slice va o1.length vc,l] 122 (0,0)):=by rw[n.block bf (ae e) (λb=>g.o.ne bf b.symm rfl)];exact e
   rw[zm]at k;have v:=gv (g.o.grow (h_.refl _ _ _) rfl g.o.oo n t k (nM f));obtain⟨b1,b2,L⟩:=i_ k;subst L;have c6:=mb i;have f6:=ix 0 i;clear k n t i e;go_wp2;go_roundw
   case rel=>exact⟨c+1,_,by omega,by first | rfl | (congr 1),Or.inr ⟨by omega,by rw[F.o,<-ak,bd.o];exact v.o.1⟩,E.o.trans v.o.2⟩
   case measure=>simp[intOf];omega
theorem wM{h:Nat}(i:n8 B bf h w q l a d)(S c:ByteArray)(m:0<S.size)(n:a.length+(S.size+c.size)<=500000000) :
  Calls Tryz.prog 96 #[.pointer (some ⟨bf,0,none⟩),.slice (some ⟨w.heap.size,0,none⟩) 2 2] (w.alloc (.cells #[.string S,.string c] 9)) λf w'=>f=.returned (.tuple #[])/\∃e,iR B bf w' e l (a++(bl S++bl c)) d/\h_ B bf w w':=by
 have:=EB (S:=S) (texts:=[S,c]) (cap:=2) (i.alloc (.cells #[.string S,.string c] 9)) (jd w _) (λg o b=>by
  match g,b with
  |0,b=>cases b;rfl
  |1,b=>cases b;rfl
  |g+2,b=>simp at b) (by simp) (by decide) (by simp[jU,nM];omega)
 refine(this rfl m).mono ?_;rintro f w' ⟨rfl,e,j,k⟩;refine⟨rfl,e,?_,((h_.refl B bf w).alloc _).trans k⟩;simpa[jU]using j
theorem LG{a1 gm:Nat}{T:List Nat->Prop}{a3:Nat}{y:Int}{f t u:Int}{v:ByteArray}{j m h:Option Addr}{r k s n p i:Nat}(he:lD a1 w)(hR:∀g,T g->g.length<=a3)(a8:a1<=B)(E:n8 B bf gm w q l a d)(ac : -9223372036854775808<=y)(ad:y<=9223372036854775807)(cg:d.length<=1000000)(b9:a.length+100+a3<=500000000)
  (a9:∀(c:World) (o1 O:Value),iR B bf c o1 O (a++wohead y) (d++[a.length])->Below B w c->Calls Tryz.prog (bif f==8 then 131 else 132) #[.pointer (some ⟨bf,0,none⟩),.agg #[.int .i64 f,.int .i64 t,.int .i64 u,.string v,.slice j r k,.slice m s n,.slice h p i]] c λb w'=>∃g,T g/\lV B bf c O (a++wohead y) (d++[a.length]) g b w') :
  Calls Tryz.prog 93 #[.pointer (some ⟨bf,0,none⟩),.int .i64 y,.agg #[.int .i64 f,.int .i64 t,.int .i64 u,.string v,.slice j r k,.slice m s n,.slice h p i]] w λb w'=>b=.returned (.tuple #[])/\∃g o1 O,T g/\iR B bf w' o1 O (a++(wohead y++(g++[10,101,110,100,111,98,106,10]))) (d++[a.length])/\Below B w w':=by
 obtain⟨i0,hi,b5,b6,b7⟩:=bu FK;obtain⟨A,C,bz⟩:=i_ E.po;subst bz;obtain⟨P,Q,bx⟩:∃P Q,q=.slice P a.length Q:=⟨_,_,E.hv⟩;subst bx;have x:=E.alloc (.cells #[.int .i64 f,.int .i64 t,.int .i64 u,.string v,.slice j r k,.slice m s n,.slice h p i] 67);have b1:Below B w (w.alloc (.cells #[.int .i64 f,.int .i64 t,.int .i64 u,.string v,.slice j r k,.slice m s n,.slice h p i] 67)):=(aj _ _).alloc E.bw _;have ba:(w.alloc (.cells #[.int .i64 f,.int .i64 t,.int .i64 u,.string v,.slice j r k,.slice m s n,.slice h p i] 67)).heap[w.heap.size]?=some (.cells #[.int .i64 f,.int .i64 t,.int .i64 u,.string v,.slice j r k,.slice m s n,.slice h p i] 67 (0,0)):=jd _ _;have a2:Hid (bf<w.heap.size):=E.lt;go_enter Tryz.func93,Tryz.ntmps93;go_wp2_with fail;generalize b8:w.alloc (.cells #[.int .i64 f,.int .i64 t,.int .i64 u,.string v,.slice j r k,.slice m s n,.slice h p i] 67)=G at *;have c0:=mb x.blk;have c1:=oB x.blk;have H1:=gv x;have bq:B<=G.heap.size:=x.bw;have bd:Hid (∀c,(G.drew.alloc (.cells #[.int .i64 (a.length:Int)] 3)).grownBy c (Value.slice A d.length C).ownBlock->c.heap[bf]?=some (.cells #[.slice P a.length Q,.slice A d.length C] 122 (0,0))):=λc e=>by
  have F:=x.drew.alloc (.cells #[.int .i64 (a.length:Int)] 3);rw[e.block bf F.lt (λb=>by obtain⟨_,a5,bn,J⟩:=nR F.po bf b.symm;rw[F.blk]at J;simp at J)]
  exact F.blk
 have bi:Hid (∀c,(G.drew.alloc (.cells #[.int .i64 (a.length:Int)] 3)).grownBy c (Value.slice A d.length C).ownBlock->c.heap[w.heap.size]?=some (.cells #[.int .i64 f,.int .i64 t,.int .i64 u,.string v,.slice j r k,.slice m s n,.slice h p i] 67 (0,0))):=λc e=>by
  have F:=x.drew.alloc (.cells #[.int .i64 (a.length:Int)] 3);have al:(G.drew.alloc (.cells #[.int .i64 (a.length:Int)] 3)).heap[w.heap.size]?=some (.cells #[.int .i64 f,.int .i64 t,.int .i64 u,.string v,.slice j r k,.slice m s n,.slice h p i] 67 (0,0)):=l9 _ ba;rw[e.block _ (ae al) (λb=>by obtain⟨_,a5,bn,J⟩:=nR F.po _ b.symm;rw[al]at J;simp at J)]
  exact al
 have bm:(G.alloc (.cells #[.int .i64 (a.length:Int)] 3)).cell? ⟨bf,1,none⟩=some (.slice A d.length C):=oB (x.alloc _).blk;clear x E;go_region_law (refine Ab rfl (.tmp 10) (.tmp 16) 52 rfl B 3 i0 (.int .i64 0) 1 8 dq hi b5 b6 b7 rfl (by decide) (.slice A d.length C) d.length _ rfl (H1.o.drew.alloc _).po ⟨G.heap.size,0,none⟩ 1 1 [.int .i64 (a.length:Int)] rfl rfl ?hnews ?hone ?h63 ?hby ?hb ?_;(case hnews=>exact xw);(case hone=>intro cl hu;simp at hu;subst hu;rfl);(case h63=>unfold maxLen;omega);(case hby=>omega);(case hb=>simp;omega);intro v6 z a0 N _;have S:=gv ((H1.o.drew.alloc (.cells #[.int .i64 (a.length:Int)] 3)).place a0 N);have Z:z.heap[bf]?=some (.cells #[.slice P a.length Q,.slice A d.length C] 122 (0,0)):=bd.o z N;have HX:=gv (bi.o z N);have c6:z.cell? ⟨bf,1,none⟩=some (.slice A d.length C):=(cb Z);have f6:z.frozen? ⟨bf,1,none⟩=false:=nP Z;obtain⟨U,X,b0⟩:=i_ a0;subst b0;clear a0 N Z);all_goals (
  have ao:(z.setCell ⟨bf,1,none⟩ (.slice U (d.length+1) X)).heap[w.heap.size]?=some (.cells #[.int .i64 f,.int .i64 t,.int .i64 u,.string v,.slice j r k,.slice m s n,.slice h p i] 67 (0,0)):=by rw[jL _ (by have:=a2.o;omega)];exact HX.o
  have I:=S.o.1;have V:Below B w (z.setCell ⟨bf,1,none⟩ (.slice U (d.length+1) X)):=((b1.drew.alloc (by exact bq) _).trans S.o.2);clear S HX c6 f6;go_wp2_with fail;generalize br:z.setCell ⟨bf,1,none⟩ (.slice U (d.length+1) X)=w2 at *;refine(Af (he.low (V.mono a8)) (aD a8 I.bw) y ac ad).mono ?_;rintro b w3 ⟨a4,rfl,M,H⟩;have ch:a4.size<=20:=by rw[<-nM,M];exact jg ac ad
  have D:=gv (wM (I.below H) a4 { data:=#[32,48,32,111,98,106,10] } (by rw[<-nM,M];exact wint_pos y) (by show _+(_+7)<=_;omega));rw[M]at D;have bb:w3.heap[w.heap.size]?=_:=(H.block _ (ae ao)).trans ao;have B3:=gv (V.trans (H.mono I.bw));have bs:B<=w3.heap.size:=(I.below H).bw;clear M H I V ao br ba c0 c1 bm;go_wp2_with fail;refine D.o.mono ?_;rintro b w4 ⟨rfl,o4,K,k4⟩;have bc:w4.heap[w.heap.size]?=_:=k4.block _ _ (by simp;have:=a2.o;omega) bb (Or.inr λa5 fz b=>by cases b);have W:Below B w w4:=B3.o.trans (gD.below k4.togD bs (λa7 e=>by simp at e;subst e;exact K.hb));have R:=gv (a9 w4 o4 _ K W);have B4:=gv W;have bt:=K.bw;obtain⟨d0,d1,d2,d3,d4,d5,d6⟩:=oX bc;clear bb bc k4 K W D a9;cases hk:(f==8);all_goals
   rw[hk]at R;go_wp2_with fail;refine R.o.mono ?_;rintro b w5 ⟨g,hm,rfl,o5,L,k5⟩;have cd:=hR g hm;have HM:=gv hm;have ck:=jg ac ad;have D:=gv (ma L { data:=#[10,101,110,100,111,98,106,10] } (by show _+8<=_;unfold wohead;simp only[ab,ag,aw];omega));have B5:=gv (B4.o.trans (gD.below k5.togD bt (λa7 e=>by simp at e;subst e;exact L.hb)));have bv:=L.bw;clear L k5 R d0 d1 d2 d3 d4 d5 d6;go_wp2_with fail;refine D.o.mono ?_;rintro b w7 ⟨rfl,o7,Y,k7⟩;have H7:=gv Y;have B7:=gv (B5.o.trans (gD.below k7.togD bv (λa7 e=>by simp at e;subst e;exact Y.hb)));clear Y k7 D;go_wp2
   go_end0
   have h9:=H7.o;rw[ak,ak]at h9;exact⟨rfl,g,o7,_,HM.o,h9,B7.o⟩)
end
theorem Hy{b:World}{a n c:Nat}{e:Array Value}{f:Nat × Nat}(g:b.heap[a]?=some (.cells e 5 f)):∃d,(convert 23 23 (.slice (some ⟨a,0,none⟩) n c)).run Tryz.prog b=.ok (.slice (some ⟨a,0,none⟩) n c) d/\(∃h,d.heap[a]?=some (.cells e 5 h))/\gQ a b d/\d.heap.size=b.heap.size:=by
 refine⟨b.freeze ⟨a,e.size,none⟩ 1,?_,?_,?_,by unfold World.freeze;simp⟩
 ·have i:b.shape? a=some (5,e.size):=by unfold World.shape?;rw[g]
  simp[convert,run_underlying aq,run_underlying dH,markStringish,i]
 ·unfold World.freeze;obtain⟨o,l⟩:=f;simp[eC,g]
 ·refine⟨rfl,rfl,rfl,?_,?_⟩;·unfold World.freeze;simp
  ·intro k m j;unfold World.freeze;simp[eC,eG j]
end Go.Proofs.YtgkljcmjnphpeaaGreatDoor
