import Derived.Test.YtgkljcmjnphpeaaGreatDoorK08
import Derived.ProofKit
import Derived.OpenShut
import Derived.RangeFuncNested
import Derived.RangeFuncBound
import Derived.Shelf.RegionOpen
import Derived.OwnWalkIn
import Derived.LoopNIn
import Derived.LoopIn
set_option linter.unusedVariables false
set_option linter.unusedSimpArgs false
set_option maxHeartbeats 8000000
set_option maxRecDepth 100000
set_option linter.defProp false
def Go.CallsIn.m:=@Go.CallsIn.mono
def Go.YieldAt.m:=@Go.YieldAt.mono
def Go.RoundIn.m:=@Go.RoundIn.mono
def Go.KeepsOthers.t:=@Go.KeepsOthers.trans
open List renaming length->G
open Go.Value renaming pointer->A3,tuple->BG,agg->Bc,bool->Bs,int->I,slice->Z,string->y7
open Go.Obj renaming cells->BV
open Go.Ending renaming returned->BX
open Or renaming inl->C1,inr->C2
open Bool renaming true->CD,false->CS
open Go.Proofs.Tryz renaming prog->DG
open List renaming replicate->DJ
open Option renaming none->N,some->O
open Go.IntKind renaming i64->U
open Go renaming World->vz,Addr->wT,Value->wg,Calls->wh,Ending->xc,Act->xq
open Go.RowKit renaming Below->wm,Hid->wt
open Go.Proofs.Tryz
namespace Go.Proofs.YtgkljcmjnphpeaaGreatDoor
open Go.RowKit
section
variable{w w':vz}
def yW(w:vz)(a b:wg):Prop:=wh DG 45 #[a,b] w λc w'=>c=BX (Bs CD)/\wm w.heap.size w w'
def Js{k:Nat}(ih:∀(a3 a4:Nat->Prop) (w:vz) (al b:wg) (l:GT k),ku a3 k w al l->ku a4 k w b l->GB l->yW w al b)
  {a3 a4:Nat->Prop} {al b:wg} {l:GN (GT k)} (ha:ku a3 (k+1) w al l) (E:ku a4 (k+1) w b l) (cg:GB (k:=k+1) l):yW w al b:=by
 unfold yW;obtain⟨_,_,ci,cj,cf,_,_,ca⟩:=cg;obtain⟨W,K,ka,kc,P,R,rfl,b8,b9,b7⟩:=ha.parts;obtain⟨X,L,kb,lc,Q,S,rfl,cd,ce,cc⟩:=E.parts;unfold qf;have cx:=ci;have c0:=cj;have cw:=cf;have bs:=H ca;have bm:=H b8;have bv:=H cd;have br:=H b9;have bw:=H ce;have bh:=H b7;have bt:=H cc;have IH:=H ih;generalize cl:l.items.length=j at *;generalize cn:l.keys.length=p at *;generalize ck:l.filters.length=o at *;have bz:=H cl;have b0:=H cn;have bx:=H ck;generalize l.kind=u at *;generalize l.n=v at *;generalize l.places=z at *;generalize l.text=A at *
 go_in
 go_wp2;have b2:wm w.heap.size w ((w.alloc (BV #[I U u,I U v,I U z,y7 A,Z W j K,Z ka p kc,Z P o R] 67)).alloc (BV #[I U u,I U v,I U z,y7 A,Z X j L,Z kb p lc,Z Q o S] 67)):=((ar _ _).alloc (ag _) _).alloc cO _;have bc:((w.alloc (BV #[I U u,I U v,I U z,y7 A,Z W j K,Z ka p kc,Z P o R] 67)).alloc (BV #[I U u,I U v,I U z,y7 A,Z X j L,Z kb p lc,Z Q o S] 67)).heap[w.heap.size]?=O (BV #[I U u,I U v,I U z,y7 A,Z W j K,Z ka p kc,Z P o R] 67 (0,0)):=nt _ (bn _ _);have a8:((w.alloc (BV #[I U u,I U v,I U z,y7 A,Z W j K,Z ka p kc,Z P o R] 67)).alloc (BV #[I U u,I U v,I U z,y7 A,Z X j L,Z kb p lc,Z Q o S] 67)).heap[w.heap.size+1]?=O (BV #[I U u,I U v,I U z,y7 A,Z X j L,Z kb p lc,Z Q o S] 67 (0,0)):=by have:=bn (w.alloc (BV #[I U u,I U v,I U z,y7 A,Z W j K,Z ka p kc,Z P o R] 67)) (BV #[I U u,I U v,I U z,y7 A,Z X j L,Z kb p lc,Z Q o S] 67);rw[aV]at this;exact this
 generalize (w.alloc (BV #[I U u,I U v,I U z,y7 A,Z W j K,Z ka p kc,Z P o R] 67)).alloc (BV #[I U u,I U v,I U z,y7 A,Z X j L,Z kb p lc,Z Q o S] 67)=q at b2 bc a8 ⊢;have ac:=H b2;have a1:=H bc;have a2:=H a8;have a5:=ap a8;go_loopw [5] (λC wr=>∃(f:Nat),f<=p/\C=I U f/\wt (wm q.heap.size q wr)) (λC _=>p-(intOf C).toNat)
 case atStart=>exact⟨0,aw _,rfl,ar _ _⟩
 case round=>
  obtain⟨f,B,rfl,g⟩:=hrel;have c5:wr.cell? ⟨w.heap.size,5,N⟩=O (Z ka p kc):=by rw[g.o.cell sw,cb a1.o];rfl
  have e5:wr.cell? ⟨w.heap.size+1,5,N⟩=O (Z kb p lc):=by rw[g.o.cell a5,cb a2.o];rfl
  rcases aC B with B|B
  ·subst B;go_wp2;have M:=g;generalize wr=w3 at *;go_loopw [6] (λC wr=>∃(f:Nat),f<=o/\C=I U f/\wt (wm q.heap.size q wr)) (λC _=>o-(intOf C).toNat)
   case atStart=>exact⟨0,aw _,rfl,M⟩
   case round=>
    obtain⟨f,B,rfl,g⟩:=hrel;have c6:wr.cell? ⟨w.heap.size,6,N⟩=O (Z P o R):=by rw[g.o.cell sw,cb a1.o];rfl
    have e6:wr.cell? ⟨w.heap.size+1,6,N⟩=O (Z Q o S):=by rw[g.o.cell a5,cb a2.o];rfl
    rcases aC B with B|B
    ·subst B;go_wp2;have ad:=g;generalize wr=w4 at *;go_loopw [7,8] (λC _ wr=>∃(f:Nat),f<=j/\C=I U f/\wt (wm q.heap.size q wr)) (λC _ _=>j-(intOf C).toNat)
     case atStart=>exact⟨0,aw _,rfl,ad⟩
     case round=>
      obtain⟨c,hj,rfl,g⟩:=hrel;have c4:wr.cell? ⟨w.heap.size,4,N⟩=O (Z W j K):=by rw[g.o.cell sw,cb a1.o];rfl
      have e4:wr.cell? ⟨w.heap.size+1,4,N⟩=O (Z X j L):=by rw[g.o.cell a5,cb a2.o];rfl
      rcases aC hj with hj|hj
      ·subst hj;go_wp2;go_ret;exact⟨rfl,ac.t (g.o.m Y)⟩
      ·obtain⟨D,hy⟩:∃D,l.items[c]?=O D:=⟨_,af (by rw[bz.o];exact hj)⟩;obtain⟨i,x,bf,rfl,_,T,hx⟩:=bm.o c D hy;obtain⟨s,y,x2,rfl,_,V,bd⟩:=bv.o c D hy;obtain⟨k0,k1,k2,k3,ja,jl,co,cp,kl,cq,b1,fl,b3,F⟩:=ku.form hx;obtain⟨l0,l1,l2,l3,la,ll,cs,cr,ml,ct,b5,gl,b6,J⟩:=ku.form bd;have HD:wt (∀a,wm q.heap.size q a->a.cell? ⟨i,x+c*7,N⟩=O (I U k0)/\a.cell? ⟨i,x+c*7+1,N⟩=O (I U k1)/\a.cell? ⟨i,x+c*7+2,N⟩=O (I U k2)/\a.cell? ⟨i,x+c*7+3,N⟩=O (y7 k3)/\a.cell? ⟨i,x+c*7+4,N⟩=O (Z ja jl co)/\a.cell? ⟨i,x+c*7+5,N⟩=O (Z cp kl cq)/\a.cell? ⟨i,x+c*7+6,N⟩=O (Z b1 fl b3)):=λa m=>by
        have r:∀{c:Nat} {aa:wg},w.cell? ⟨i,c,N⟩=O aa->a.cell? ⟨i,c,N⟩=O aa:=λ{c aa} h=>by rw[(ac.o.t (m.m Y)).cell (aA w _ h)];exact h
        exact⟨r (T 0 _ (by rw[F];rfl)),r (T 1 _ (by rw[F];rfl)),r (T 2 _ (by rw[F];rfl)),r (T 3 _ (by rw[F];rfl)),r (T 4 _ (by rw[F];rfl)),r (T 5 _ (by rw[F];rfl)),r (T 6 _ (by rw[F];rfl))⟩
       have HE:wt (∀a,wm q.heap.size q a->a.cell? ⟨s,y+c*7,N⟩=O (I U l0)/\a.cell? ⟨s,y+c*7+1,N⟩=O (I U l1)/\a.cell? ⟨s,y+c*7+2,N⟩=O (I U l2)/\a.cell? ⟨s,y+c*7+3,N⟩=O (y7 l3)/\a.cell? ⟨s,y+c*7+4,N⟩=O (Z la ll cs)/\a.cell? ⟨s,y+c*7+5,N⟩=O (Z cr ml ct)/\a.cell? ⟨s,y+c*7+6,N⟩=O (Z b5 gl b6)):=λa m=>by
        have r:∀{c:Nat} {aa:wg},w.cell? ⟨s,c,N⟩=O aa->a.cell? ⟨s,c,N⟩=O aa:=λ{c aa} h=>by rw[(ac.o.t (m.m Y)).cell (aA w _ h)];exact h
        exact⟨r (V 0 _ (by rw[J];rfl)),r (V 1 _ (by rw[J];rfl)),r (V 2 _ (by rw[J];rfl)),r (V 3 _ (by rw[J];rfl)),r (V 4 _ (by rw[J];rfl)),r (V 5 _ (by rw[J];rfl)),r (V 6 _ (by rw[J];rfl))⟩
       have a9:wt (∀a,wm q.heap.size q a->a.cell? ⟨w.heap.size,4,N⟩=O (Z (O ⟨i,x,N⟩) j K)/\a.cell? ⟨w.heap.size+1,4,N⟩=O (Z (O ⟨s,y,N⟩) j L)):=λa m=>⟨by rw[m.cell sw,cb a1.o];rfl,by rw[m.cell a5,cb a2.o];rfl⟩;have ba:wt (∀a,wm q.heap.size q a->yW a bf x2):=λa m=>by have bb:=ac.o.t (m.m Y);exact IH a3 a4 a bf x2 D (ku.keep k hx (λi _ hg=>bb.block i hg)) (ku.keep k bd (λi _ hg=>bb.block i hg)) (bs D (aQ hy))
       unfold yW at ba;subst F;subst J;have cy:IntKind.i64.wrap ((c:Int)+1)=((c+1:Nat):Int):=by rw[bu];omega
       go_wp2;refine AX (λ_ a=>wm q.heap.size q a) aG ?_;intro d;have e:=g.o.drew;refine tj 0 d e λd e=>?_;refine tl 1 d e (λd e=>?_) (y:=λa m=>by obtain⟨_,_,_,E⟩:=m;obtain⟨q4,r4⟩:=a9.o a E;go_simp;try(with_reducible rfl));refine tj 2 d e λd e=>?_;refine tj 3 d e λd e=>?_;refine tl 4 d e (λd e=>?_) (y:=λa m=>by obtain⟨_,_,_,E⟩:=m;obtain⟨q0,q1,q2,q3,q4,q5,q6⟩:=HD.o a E;go_simp;try(with_reducible rfl));refine tj 5 d e λd e=>?_;refine tl 6 d e (λd e=>?_) (y:=λa m=>by obtain⟨_,_,_,E⟩:=m;obtain⟨q4,r4⟩:=a9.o a E;go_simp;try(with_reducible rfl));refine tj 7 d e λd e=>?_;refine tj 8 d e λd e=>?_;refine tl 9 d e (λd e=>?_) (y:=λa m=>by obtain⟨_,_,_,E⟩:=m;obtain⟨q0,q1,q2,q3,q4,q5,q6⟩:=HE.o a E;go_simp;try(with_reducible rfl));refine on 10 d λK' hK=>?_;go_simp;apply(ba _ g.drew).m;rintro cv w4 ⟨rfl,b4⟩;have ad:=H (g.drew.t (b4.m (by simpa using g.o.size)));refine hK _ _ ad (λa6 a7=>?_);have d:=a6;have e:=a7
       (try simp only[lr])
       refine on 11 d λK' hK=>?_;go_simp;refine hK _ _ ad (λa6 a7=>?_);have d:=a6;have e:=a7
       (try simp only[lr])
       refine uX aG ?_ _;go_wp2;go_roundw
       case rel=>exact⟨c+1,Y,by first|rfl|(congr 1),ad⟩
       case measure=>exact eT
    ·obtain⟨t,hf⟩:∃t,l.filters[f]?=O t:=⟨_,af (by rw[bx.o];exact B)⟩;obtain⟨i,x,rfl,_,ao⟩:=bh.o f t hf;obtain⟨s,y,rfl,_,a0⟩:=bt.o f t hf;have M:=ac.o.t (g.o.m Y);have y1:wr.cell? ⟨i,x+f,N⟩=O (I U t):=by rw[M.cell (aA w _ ao)];exact ao
     have y2:wr.cell? ⟨s,y+f,N⟩=O (I U t):=by rw[M.cell (aA w _ a0)];exact a0
     go_wp2;go_quiet (fail);go_wp2;go_roundw
     case rel=>exact⟨f+1,Y,by first|rfl|(congr 1),bQ g _⟩
     case measure=>exact eT
  ·obtain⟨t,hf⟩:∃t,l.keys[f]?=O t:=⟨_,af (by rw[b0.o];exact B)⟩;obtain⟨i,x,rfl,_,ao⟩:=br.o f t hf;obtain⟨s,y,rfl,_,a0⟩:=bw.o f t hf;have M:=ac.o.t (g.o.m Y);have y1:wr.cell? ⟨i,x+f,N⟩=O (y7 t):=by rw[M.cell (aA w _ ao)];exact ao
   have y2:wr.cell? ⟨s,y+f,N⟩=O (y7 t):=by rw[M.cell (aA w _ a0)];exact a0
   go_wp2;go_quiet (fail);go_wp2;go_roundw
   case rel=>exact⟨f+1,Y,by first|rfl|(congr 1),bQ g _⟩
   case measure=>exact eT
def Jl:∀(k:Nat) (d e:Nat->Prop) (w:vz) (c b:wg) (a:GT k),ku d k w c a->ku e k w b a->GB a->yW w c b
 |0,d,e,w,c,b,a,h,_,_=>h.elim
 |k+1,d,e,w,c,b,a,f,g,i=>Js (Jl k) f g i
structure jA(lo hi:Nat)(w w':vz):Prop where
 os:w'.os=w.os
 tape:w'.tape=w.tape
 output:w'.output=w.output
 size:w.heap.size<=w'.heap.size
 block:∀g,g<w.heap.size->(g<lo\/hi<=g)->w'.heap[g]?=w.heap[g]?
def jA.refl(b a:Nat)(w:vz):jA b a w w:=⟨rfl,rfl,rfl,ag _,λ_ _ _=>rfl⟩
def jA.t{lo hi:Nat}{c y d:vz}(h:jA lo hi c y)(k:jA lo hi y d):jA lo hi c d:=
 ⟨k.os.t h.os,k.tape.t h.tape,k.output.t h.output,aJ h.size k.size,λb hi a=>(k.block b (aF hi h.size) a).t (h.block b hi a)⟩
def jA.of_below{lo hi:Nat}{a y:vz}(b:wm a.heap.size a y):jA lo hi a y:=⟨b.os,b.tape,b.output,b.size,λc d _=>b.block c d⟩
def jA.wide{c a d b:Nat}{e y:vz}(h:jA c a e y)(i:d<=c)(j:a<=b):jA d b e y:=⟨h.os,h.tape,h.output,h.size,λf g k=>h.block f g Y⟩
def jA.setCells{e b c f:Nat}{g d:vz}{vs:List wg}(h:jA e b g d)(j:e<=c)(k:c<b):jA e b g (d.setCells c f vs):=by have a:=xi c 0 (aw _) vs f d d (ar _ _);exact⟨a.os.t h.os,a.tape.t h.tape,a.output.t h.output,by rw[BA];exact h.size,λi b a=>by rw[yM _ Y];exact h.block i b a⟩
def jA.setCell{c b a g:Nat}{d y:vz}{v:wg}(h:jA c b d y)(e:c<=a)(f:a<b):jA c b d (y.setCell ⟨a,g,N⟩ v):=h.setCells (vs:=[v]) e f
def CL(k:Nat):Prop:=∀(a:vz) (d b:Nat) (e:wg) (c:GT k),qe k d b a e c->GB c->b<=a.heap.size ->wh DG 46 #[e] a λf w'=>f=BX (Bs CD)/\jA d b a w'
def C3:GT 1:=(⟨77,0,0,{data:=#[115,112,97,114,101]},[],[],[]⟩:GN (GT 0))
def KZ(c:Nat->Prop)(w:vz):ku c 1 w nR C3:=⟨N,0,N,0,N,0,rfl,(λa b h=>by cases h),(λa b h=>by cases h),(λa b h=>by cases h)⟩
def A4:GB C3:=⟨⟨by unfold wH;show(-9223372036854775808:Int)<=77/\(77:Int)<=_;omega,by unfold wH;show(-9223372036854775808:Int)<=0/\(0:Int)<=_;omega,by unfold wH;show(-9223372036854775808:Int)<=0/\(0:Int)<=_;omega⟩,bF,bF,bF,bF,(λa h=>by cases h),(λa h=>by cases h),(λa h=>by cases h)⟩
def NA(w:vz):yW w nR nR:=Jl 1 (λ_=>True) (λ_=>True) w nR nR C3 (KZ _ _) (KZ _ _) A4
def rZ{k:Nat}(e:List (GT k))(xs:List wg)(c:Nat->Nat)(f m:Nat)(wr:vz):Prop:=∃b:List wg,G b=G xs+3/\qM wr f b/\(∀a,m<=a->b[a]?=(xs++[nR,nR,nR])[a]?)/\∀(a:Nat) (d:wg) (y:GT k),m<=a->xs[a]?=O d->e[a]?=O y->qe k (c a) (c (a+1)) wr d y
def rZ.only{k:Nat}{b:List (GT k)}{xs:List wg}{c:Nat->Nat}{a m:Nat}{wr n:vz}(h:rZ b xs c a m wr)(e:∀i,c i<=c (i+1))(z:a<c 0)(s:∀i,i<=G b->c i<=wr.heap.size)(l:jA (c m) (c (m+1)) wr n):rZ b xs c a (m+1) n:=by obtain⟨L,o,d,p,q⟩:=h;have C:=uR e (aw m);refine⟨L,o,d.keep (l.block a (ap d.1) (C1 Y)),λi f=>p i Y,λi x y f t j=>?_⟩;have r:=(ay.1 j).1;have u:=uR e f;have v:=s (i+1) r;exact qe.keep k (q i x y Y t j) (λg A B=>l.block g Y (C2 Y))
def rZ.below{k:Nat}{d:List (GT k)}{l:List wg}{c:Nat->Nat}{e i:Nat}{wr j:vz}(h:rZ d l c e i wr)(r:∀a,a<=G d->c a<=wr.heap.size)(b:wm wr.heap.size wr j):rZ d l c e i j:=by obtain⟨m,o,f,p,q⟩:=h;refine⟨m,o,f.keep (b.block e (ap f.1)),p,λa t y hi s g=>?_⟩;have u:=r (a+1) (ay.1 g).1;exact qe.keep k (q a t y hi s g) (λn v x=>b.block n Y)
def rZ.put{k:Nat}{d:List (GT k)}{xs:List wg}{a:Nat->Nat}{b m:Nat}{wr:vz}(h:rZ d xs a b (m+1) wr)(o:∀i,a i<=a (i+1))(t:b<a 0)(v:m<G xs+3):rZ d xs a b (m+1) (wr.setCells b (m*7) (cellsOf nR)):=by obtain⟨e,f,j,l,n⟩:=h;refine⟨e.set m nR,by rw[dZ];exact f,j.set Y Ho,λi c=>by rw[List.getElem?_set_ne Y];exact l i c,λi r s c p q=>?_⟩;have:=uR o (aw i);exact qe.keep k (n i r s c p q) (λg u _=>yM _ Y _ _ _)
def rZ.skip{k:Nat}{b:List (GT k)}{f:List wg}{c:Nat->Nat}{d e:Nat}{wr:vz}(h:rZ b f c d e wr):rZ b f c d (e+1) wr:=by obtain⟨g,i,j,l,m⟩:=h;exact⟨g,i,j,λa n=>l a Y,λa o y n=>m a o y Y⟩
def rZ.there{k:Nat}{b:List (GT k)}{xs:List wg}{c:Nat->Nat}{a m:Nat}{wr:vz}(h:rZ b xs c a m wr){j:Nat}(f:j<G xs+3):wr.there a (j*7) 7:=by obtain⟨L,e,d,_⟩:=h;exact d.there Y
def rZ.lt{k:Nat}{b:List (GT k)}{f:List wg}{c:Nat->Nat}{a e:Nat}{wr:vz}(h:rZ b f c a e wr):a<wr.heap.size:=by obtain⟨g,i,d,_⟩:=h;exact ap d.1
def rZ.cell{k:Nat}{g:List (GT k)}{f:List wg}{c:Nat->Nat}{b a:Nat}{wr:vz}(h:rZ g f c b a wr){e d:wg}{j:Nat}(n:(f++[nR,nR,nR])[a]?=O e)(m:(cellsOf e)[j]?=O d):wr.cell? ⟨b,a*7+j,N⟩=O d:=by obtain⟨o,p,i,l,_⟩:=h;exact i.cell (by rw[l a (ag _)];exact n) m
def La{xs:List wg}{m:Nat}(b:G xs<=m)(c:m<G xs+3):(xs++[nR,nR,nR])[m]?=O nR:=by rw[aW b];rcases(by omega:m-G xs=0\/m-G xs=1\/m-G xs=2)with a|a|a<;>rw[a]<;>rfl
def Tv{k:Nat}(ih:CL k):CL (k+1):=by
 intro w y q em d dm dl es;obtain⟨_,_,b4,b5,b6,_,_,b9⟩:=dl;obtain⟨c,gk,l,p,u,ci,hl,ce,cf,cd,⟨o1,o2,o3,o4,o5,o6⟩,hc⟩:=dm;have ct:=H ih;have cl:=H b9;have a6:=H o3;have cv:=H cf;have co:=H cd;obtain⟨g,R⟩:∃g,(GN.items (α:=GT k) d).length=g:=⟨_,rfl⟩;obtain⟨f,bf⟩:∃f,(GN.keys (α:=GT k) d).length=f:=⟨_,rfl⟩;obtain⟨e,bd⟩:∃e,(GN.filters (α:=GT k) d).length=e:=⟨_,rfl⟩;have bt:=H R;have bv:=H bf;have bs:=H bd;have a9:wt (G u=g):=by unfold Hid;rw[hl];exact R
 have er:p g<=gk:=by rw[<-R];exact o4
 have a4:wt (∀a,a<=(GN.items (α:=GT k) d).length->p a<=gk):=λa q=>by have:=uR o3 q;rw[R]at this;omega
 have eo:=uR o3 (aw g);have c3:wt (rZ (GN.items (α:=GT k) d) u p c 0 w):=⟨u++[nR,nR,nR],cO,ce,λ_ _=>rfl,λa K D _ hx hy=>hc a K D hx hy⟩;rw[R]at b4;rw[bf]at b5;rw[bd]at b6;have eb:em=Bc #[I U (GN.kind (α:=GT k) d),I U (GN.n (α:=GT k) d),I U (GN.places (α:=GT k) d),y7 (GN.text (α:=GT k) d),Z (O ⟨c,0,N⟩) g (g+3),Z (O ⟨gk,0,N⟩) f (f+3),Z (O ⟨l,0,N⟩) e (e+3)]:=by rw[ci,<-R,<-bf,<-bd];rfl
 generalize GN.kind (α:=GT k) d=kd at *;generalize GN.n (α:=GT k) d=nn at *;generalize GN.places (α:=GT k) d=pp at *;generalize GN.text (α:=GT k) d=tt at *;clear ci hc cf cd ce o3 o4 b9 ih hl R bf bd;subst eb;obtain⟨z,bh⟩:∃z,w.alloc (BV #[I U kd,I U nn,I U pp,y7 tt,Z (O ⟨c,0,N⟩) g (g+3),Z (O ⟨gk,0,N⟩) f (f+3),Z (O ⟨l,0,N⟩) e (e+3)] 67)=z:=⟨_,rfl⟩;have c7:=H bh;have B2:wt (wm w.heap.size w z):=by unfold Hid;rw[<-bh];exact(ar _ _).alloc (ag _) _
 have X0:wt (z.heap[w.heap.size]?=O (BV #[I U kd,I U nn,I U pp,y7 tt,Z (O ⟨c,0,N⟩) g (g+3),Z (O ⟨gk,0,N⟩) f (f+3),Z (O ⟨l,0,N⟩) e (e+3)] 67 (0,0))):=by unfold Hid;rw[<-bh];exact bn _ _
 clear bh;have n1:¬(g:Int)+3<(g:Int)+3:=Y;have n2:¬(f:Int)+3<(f:Int)+3:=Y;have n3:¬(e:Int)+3<(e:Int)+3:=Y
 go_in
 go_wp2;rw[c7.o];have c4:=H (c3.below (λa q=>by have:=a4.o a q;omega) B2);have T:=H (ap X0);go_loopw [6,7,8,9] (λa1 x _ _ wr=>∃b:Nat,b<=g+3/\a1=Bs CD/\x=I U b/\wt (rZ (GN.items (α:=GT k) d) u p c b wr)/\wt (jA y gk z wr)) (λ_ x _ _ _=>g+3-(intOf x).toNat)
 case atStart=>exact⟨0,aw _,rfl,rfl,c4,jA.refl _ _ _⟩
 case round=>
  obtain⟨b,hm,rfl,rfl,v,V⟩:=hrel;have Y0:=H ((V.block _ T (C2 Y)).t X0);have d4:=vK Y0;have c8:=H (ap Y0);have a5:wt (∀a,a<=(GN.items (α:=GT k) d).length->p a<=wr.heap.size):=λa q=>by have:=a4.o a q;have:=c8.o;omega
  rcases aC hm with d0|X
  ·subst d0;have hd:¬((g:Int)+3)<(g:Int)+3:=Y;obtain⟨wa,ec⟩:∃wa:vz,wa=wr:=⟨_,rfl⟩;subst ec;have cw:=H ((V.block gk (by have:=T.o;omega) (C2 (ag _))).t ((B2.block gk Y).t cv));have cp:=H ((V.block l (by have:=T.o;omega) (C2 Y)).t ((B2.block l Y).t co));have cy:=H (V.wide (ag y) (show gk<=l by omega));obtain⟨E,b0⟩:∃E:List wg,(GN.keys (α:=GT k) d).map y7++DJ 3 (y7 sS)=E:=⟨_,rfl⟩;obtain⟨A,bz⟩:∃A:List wg,(GN.filters (α:=GT k) d).map (I U)++DJ 3 (I U 77)=A:=⟨_,rfl⟩;have c6:wt (G E=f+3):=by unfold Hid;rw[<-b0,ab,aq,bv.o,bj]
   have c5:wt (G A=e+3):=by unfold Hid;rw[<-bz,ab,aq,bs.o,bj]
   have c1:wt (∀a,f<=a->a<f+3->E[a]?=O (y7 {data:=#[115,112,97,114,101]})):=λa h1 h2=>by rw[<-b0,aW (by rw[aq,bv.o];exact h1),aq,bv.o,List.getElem?_replicate,ak Y];rfl
   have c2:wt (∀a,e<=a->a<e+3->A[a]?=O (I U 77)):=λa h1 h2=>by rw[<-bz,aW (by rw[aq,bs.o];exact h1),aq,bs.o,List.getElem?_replicate,ak Y]
   have cx:wt (wa.heap[gk]?=O (BV E.toArray 9 (0,0))):=by unfold Hid;rw[cw.o,<-b0]
   have cr:wt (wa.heap[l]?=O (BV A.toArray 3 (0,0))):=by unfold Hid;rw[cp.o,<-bz]
   go_wp2;go_loopw [6,10] (λa1 x r=>∃j:Nat,j<=f+3/\a1=Bs CD/\x=I U j/\wt (∃al:List wg,G al=f+3/\r.heap[gk]?=O (BV al.toArray 9 (0,0))/\∀a,j<=a->al[a]?=E[a]?)/\wt (jA y l z r)/\wt (r.heap[l]?=O (BV A.toArray 3 (0,0)))) (λ_ x _=>f+3-(intOf x).toNat)
   case atStart=>exact⟨0,aw _,rfl,rfl,⟨E,c6,cx,λ_ _=>rfl⟩,cy,cr⟩
   case round=>
    obtain⟨j,hq,rfl,rfl,HK,a8,b7⟩:=hrel;have Z0:=H ((a8.block _ T (C2 Y)).t X0);have d5:=uO Z0;obtain⟨al,di,dj,dk⟩:=HK.o;have a3:=H dj;have ca:=H dk;have b8:=H di;rcases aC hq with d7|X
    ·subst d7;have dp:¬((f:Int)+3)<(f:Int)+3:=Y;obtain⟨wk,ei⟩:∃wk:vz,wk=wr:=⟨_,rfl⟩;subst ei;have c0:=H (a8.wide (ag y) (show l<=q by omega));go_wp2;go_loopw [6,11] (λa1 x r=>∃m:Nat,m<=e+3/\a1=Bs CD/\x=I U m/\wt (∃ac:List wg,G ac=e+3/\r.heap[l]?=O (BV ac.toArray 3 (0,0))/\∀a,m<=a->ac[a]?=A[a]?)/\wt (jA y q z r)) (λ_ x _=>e+3-(intOf x).toNat)
     case atStart=>exact⟨0,aw _,rfl,rfl,⟨A,c5,b7,λ_ _=>rfl⟩,c0⟩
     case round=>
      obtain⟨m,hp,rfl,rfl,HF,a7⟩:=hrel;have T0:=H ((a7.block _ T (C2 Y)).t X0);have d6:=vL T0;obtain⟨ac,dc,dd,dg⟩:=HF.o;have a2:=H dd;have b3:=H dg;have b2:=H dc;rcases aC hp with d2|X
      ·subst d2;have ds:¬((e:Int)+3)<(e:Int)+3:=Y;have cs:=H ((jA.of_below (lo:=y) (hi:=q) B2).t a7);go_wp2;go_ret;exact⟨rfl,cs⟩
      ·have ds:(m:Int)<(e:Int)+3:=Y;have fq:wr.frozen? ⟨l,m,N⟩=CS:=pA a2;have L:wt (∀o,∃F':List wg,G F'=e+3/\(wr.setCell ⟨l,m,N⟩ o).heap[l]?=O (BV F'.toArray 3 (0,0))/\∀a,m+1<=a->F'[a]?=A[a]?):=λo=>⟨ac.set m o,by rw[dZ];exact b2,by rw[nu _ a2.o,List.setIfInBounds_toArray],λa q=>by rw[List.getElem?_set_ne Y];exact b3 a Y⟩
       by_cases et:m<e
       ·have d3:(m:Int)<(e:Int):=Y;have P:∃o,wr.cell? ⟨l,m,N⟩=O o:=⟨_,by rw[cb a2.o,ch];exact af (by rw[b2.o];exact X)⟩;obtain⟨o,P⟩:=P;go_wp2;go_roundw
        case rel=>exact⟨m+1,Y,rfl,by go_num,L _,a7.setCell Y o6⟩
        case measure=>exact eT
       ·have d3:¬(m:Int)<(e:Int):=Y;have P:wr.cell? ⟨l,m,N⟩=O (I U 77):=by rw[cb a2.o,ch,b3.o m (ag _),c2.o m Y X]
        go_wp2;go_roundw
        case rel=>exact⟨m+1,Y,rfl,by go_num,L _,a7.setCell Y o6⟩
        case measure=>exact eT
    ·have dp:(j:Int)<(f:Int)+3:=Y;have fq:wr.frozen? ⟨gk,j,N⟩=CS:=pA a3;have L:wt (∀o,(∃W:List wg,G W=f+3/\(wr.setCell ⟨gk,j,N⟩ o).heap[gk]?=O (BV W.toArray 9 (0,0))/\∀a,j+1<=a->W[a]?=E[a]?)/\(wr.setCell ⟨gk,j,N⟩ o).heap[l]?=O (BV A.toArray 3 (0,0))):=λo=>⟨⟨al.set j o,by rw[dZ];exact b8,by rw[nu _ a3.o,List.setIfInBounds_toArray],λa q=>by rw[List.getElem?_set_ne Y];exact ca a Y⟩,by rw[lK _ (show l≠gk by omega)];exact b7⟩
     by_cases eu:j<f
     ·have ea:(j:Int)<(f:Int):=Y;have P:∃o,wr.cell? ⟨gk,j,N⟩=O o:=⟨_,by rw[cb a3.o,ch];exact af (by rw[b8.o];exact X)⟩;obtain⟨o,P⟩:=P;go_wp2;go_roundw
      case rel=>exact⟨j+1,Y,rfl,by go_num,(L _).1,a8.setCell Y o5,(L _).2⟩
      case measure=>exact eT
     ·have ea:¬(j:Int)<(f:Int):=Y;have P:wr.cell? ⟨gk,j,N⟩=O (y7 {data:=#[115,112,97,114,101]}):=by rw[cb a3.o,ch,ca.o j (ag _),c1.o j Y X]
      go_wp2;go_roundw
      case rel=>exact⟨j+1,Y,rfl,by go_num,(L _).1,a8.setCell Y o5,(L _).2⟩
      case measure=>exact eT
  ·have hd:(b:Int)<(g:Int)+3:=Y;have a0:b<G u+3:=by have:=a9.o;omega
   by_cases ao:b<g
   ·have d1:(b:Int)<(g:Int):=Y;obtain⟨D,hy⟩:∃D,(GN.items (α:=GT k) d)[b]?=O D:=⟨_,af (by rw[bt.o];exact ao)⟩;obtain⟨K,hx⟩:∃K,u[b]?=O K:=⟨_,af (by rw[a9.o];exact ao)⟩;have C:(u++[nR,nR,nR])[b]?=O K:=by rw[aR (by rw[a9.o];exact ao)];exact hx
    have cc:qe k (p b) (p (b+1)) wr K D:=by obtain⟨en,_,_,_,h4⟩:=v.o;exact h4 b K D (ag _) hx hy
    have dv:=a5.o (b+1) (by rw[bt.o];exact ao);have cn:=H (ct wr (p b) (p (b+1)) K D cc (cl D (aQ hy)) dv);have ck:wt (∀r,jA (p b) (p (b+1)) wr r->rZ (GN.items (α:=GT k) d) u p c (b+1) r/\jA y gk z r):=λr cj=>by have h1:=a4.o (b+1) (by rw[bt.o];exact ao);have h2:=uR a6 (aw b);exact⟨v.o.only a6 o2 a5 cj,V.t (cj.wide Y h1)⟩
    obtain⟨k0,k1,k2,k3,ja,jl,jc,ej,el,ek,c9,db,da,J⟩:=cc.form;have q0:wr.cell? ⟨c,b*7,N⟩=O (I U k0):=v.o.cell C (j:=0) (by rw[J];rfl);have q1:wr.cell? ⟨c,b*7+1,N⟩=O (I U k1):=v.o.cell C (by rw[J];rfl);have q2:wr.cell? ⟨c,b*7+2,N⟩=O (I U k2):=v.o.cell C (by rw[J];rfl);have q3:wr.cell? ⟨c,b*7+3,N⟩=O (y7 k3):=v.o.cell C (by rw[J];rfl);have q4:wr.cell? ⟨c,b*7+4,N⟩=O (Z ja jl jc):=v.o.cell C (by rw[J];rfl);have q5:wr.cell? ⟨c,b*7+5,N⟩=O (Z ej el ek):=v.o.cell C (by rw[J];rfl);have q6:wr.cell? ⟨c,b*7+6,N⟩=O (Z c9 db da):=v.o.cell C (by rw[J];rfl);subst J;go_wp2_with fail;apply cn.o.m;rintro F r ⟨rfl,ox⟩;have M:=H (ck r ox);go_wp2_with fail;apply(bo _).m;rintro F wb ⟨rfl,bb⟩;have bw:wt (∀a,a<=(GN.items (α:=GT k) d).length->p a<=r.heap.size):=λa q=>by have:=a4.o a q;have:=M.o.2.size;have:=T.o;omega
    have H1:=H (M.1.below bw bb);have H2:=H (M.2.t (.of_below bb));have hT:=H1.o.there (j:=b) a0;have bx:wt (∀t,wb.setCells c (b*7) (cellsOf nR)=t->rZ (GN.items (α:=GT k) d) u p c (b+1) t/\jA y gk z t):=λt F=>by rw[<-F];exact⟨H1.put a6 o2 a0,H2.setCells o1 Y⟩
    go_wp2_with (refine dt rfl 67 (.tmp 94) (.tmp 93) rfl c (b*7) _ rfl rfl hT Tryz.info7 mG ?_;generalize b1:World.setCells _ _ _ _=t;have ad:=H (bx t b1));go_roundw
    case rel=>exact⟨b+1,Y,rfl,by go_num,ad.1,ad.2⟩
    case measure=>exact eT
   ·have d1:¬(b:Int)<(g:Int):=Y;have C:=La (xs:=u) (m:=b) (by have:=a9.o;omega) a0;have HD:wt (∀i,wm wr.heap.size wr i->i.cell? ⟨c,b*7,N⟩=O (I U 77)/\i.cell? ⟨c,b*7+1,N⟩=O (I U 0)/\i.cell? ⟨c,b*7+2,N⟩=O (I U 0)/\i.cell? ⟨c,b*7+3,N⟩=O (y7 {data:=#[115,112,97,114,101]})/\i.cell? ⟨c,b*7+4,N⟩=O (Z N 0 0)/\i.cell? ⟨c,b*7+5,N⟩=O (Z N 0 0)/\i.cell? ⟨c,b*7+6,N⟩=O (Z N 0 0)):=λi Q=>by
     have S:∀{aa:Nat} {o:wg},(cellsOf nR)[aa]?=O o->i.cell? ⟨c,b*7+aa,N⟩=O o:=λ{aa o} h=>by rw[Q.cell v.o.lt];exact v.cell C h
     exact⟨@S 0 _ rfl,S rfl,S rfl,S rfl,S rfl,S rfl,S rfl⟩
    have bw:wt (∀i,wm wr.heap.size wr i->rZ (GN.items (α:=GT k) d) u p c (b+1) i/\jA y gk z i/\∀a,a<=(GN.items (α:=GT k) d).length->p a<=i.heap.size):=λi Q=>⟨(v.below a5 Q).skip,V.t (.of_below Q),λa q=>aJ (a5 a q) Q.size⟩;go_wp2;refine AX (λ_ i=>wm wr.heap.size wr i) aG ?_;intro s;have B:=(ar wr.heap.size wr).drew;refine tj 0 s B λs B=>?_;refine tj 1 s B λs B=>?_;refine tj 2 s B λs B=>?_;refine tl 3 s B (λs B=>?_) (y:=λi Q=>by obtain⟨_,_,_,hb⟩:=Q;obtain⟨q0,q1,q2,q3,q4,q5,q6⟩:=HD.o i hb;go_simp;try(with_reducible rfl));refine on 4 s λW hK=>?_;go_simp;apply(bo _).m;rintro F w4 ⟨rfl,b4⟩;have bm:=H ((ar wr.heap.size wr).drew.t b4);refine hK _ _ bm (λba bc=>?_);have s:=ba;have B:=bc
    (try simp only[lr])
    refine on 5 s λW hK=>?_;go_simp;have cg:=NA w4;unfold yW at cg;apply cg.m;rintro F w5 ⟨rfl,b5⟩;have br:=H (bm.t (b5.m bm.size));refine hK _ _ br (λba bc=>?_);have s:=ba;have B:=bc
    (try simp only[lr])
    refine on 6 s λW hK=>?_;go_simp;refine hK _ _ br (λba bc=>?_)
    (try simp only[lr])
    refine uX aG ?_ _;have M:=H (bw w5 br);go_wp2_with fail;apply(bo _).m;rintro F wb ⟨rfl,bb⟩;have H1:=H (M.1.below M.2.2 bb);have H2:=H (M.2.1.t (.of_below bb));have hT:=H1.o.there (j:=b) a0;have bx:wt (∀t,wb.setCells c (b*7) (cellsOf nR)=t->rZ (GN.items (α:=GT k) d) u p c (b+1) t/\jA y gk z t):=λt F=>by rw[<-F];exact⟨H1.put a6 o2 a0,H2.setCells o1 Y⟩
    go_wp2_with (refine dt rfl 67 (.tmp 94) (.tmp 93) rfl c (b*7) _ rfl rfl hT Tryz.info7 mG ?_;generalize b1:World.setCells _ _ _ _=t;have ad:=H (bx t b1));go_roundw
    case rel=>exact⟨b+1,Y,rfl,by go_num,ad.1,ad.2⟩
    case measure=>exact eT
def NS:∀k,CL k
 |0=>λb d c e a h=>by cases h
 |k+1=>Tv (NS k)
end
section
variable{w d:vz}{R:xc->vz->Prop}{f:Nat}{D:Bool}{s z l q:wg}
def Fg(a:Int)(w:vz):wh DG 35 #[I U a] w λb d=>b=BX (I U a)/\d=w:=by
 go_in
 go_wp2;go_ret;exact⟨rfl,rfl⟩
def tN:Nat->Code->Code
 |0,a=>a
 |c+1,.seq _ b=>tN c b
 |_+1,a=>a
def wI(R:xc->vz->Prop)(a f:Nat)(D:Bool)(s z l q:wg)(w:vz):Prop:=∀(b t8 t9 c r a4 bh b2 ce cr cy c0 c1 c2 c3 c4 c5 c6 c7 c8 c9 da db dc dd dg di dj dk dl dm dp ds dv d0 d1 d2 d3 d4 d5 d6 d7 ea eb ec ei ej ek el em en eo er es et eu ev ex ey ez e3 e4 e5 e6 e7 e8 e9 fa fb fc fd fi fl fm fq fs fu fv fw fx fz f0 f1 f2 f3 f4 f5 f6 f8 ga gb e g h i j k m n o p t u v x y A B C E F J K L M P Q S T V W X aa ac ad al ao a0 a1 a2 a3 a5 a6 a7 a8 a9 ba bb bc bd bf bm br bs bt bv bw bx bz b0 b1 b3 b4 b5 b6 b7 b8 b9 ca cc cd cf cg ci cj ck cl cn co cp cq cs ct cv cw cx:wg),Code.wp DG (tN a (f16.body.getD .skip)) (bodyPost DG f16 R) { tmps:=#[b,A3 (O ⟨f,0,N⟩),Z N 0 0,Bs CS,Bs D,s,z,Bs CD,t8,t9,c,r,l,q,a4,bh,b2,ce,cr,cy,c0,c1,c2,c3,c4,c5,c6,c7,c8,c9,da,db,dc,dd,dg,di,dj,dk,dl,dm,dp,ds,dv,d0,d1,d2,d3,d4,d5,d6,d7,ea,eb,ec,ei,ej,ek,el,em,en,eo,er,es,et,eu,ev,ex,ey,ez,e3,e4,e5,e6,e7,e8,e9,fa,fb,fc,fd,fi,fl,fm,fq,fs,fu,fv,fw,fx,fz,f0,f1,f2,f3,f4,f5,f6,f8,ga,gb,e,g,h,i,j,k,m,n,o,p,t,u,v,x,y,A,B,C,E,F,J,K,L,M,P,Q,S,T,V,W,X,aa,ac,ad,al,ao,a0,a1,a2,a3,a5,a6,a7,a8,a9,ba,bb,bc,bd,bf,bm,br,bs,bt,bv,bw,bx,bz,b0,b1,b3,b4,b5,b6,b7,b8,b9,ca,cc,cd,cf,cg,ci,cj,ck,cl,cn,co,cp,cq,cs,ct,cv,cw,cx],defers:=[]} w
def Ux(a:∀d,wm w.heap.size w d->R (BX (BG #[Z N 0 0,Bs CD])) d):wI R 10 f CS s z (Z N 0 0) (I U 2) w:=by
 have b:=H (a w (ar _ _));clear a;unfold wI;intros;conv=>arg 2;simp only[f16,Option.getD_some,tN]
 go_wp2_with (go_at_call 35;apply(Fg _ _).m;rintro c d ⟨rfl,rfl⟩);exact b
def Uw{k:Option wT}{g m:Nat}{n:Int}(b:w.heap[f]?=O (BV #[Z k g m,I U n] 31 (0,0)))(i:wh DG 47 #[Bc #[Z k g m,I U n]] w λa d=>a=BX (Bs CD)/\wm w.heap.size w d)
  (j:∀d,wm w.heap.size w d->R (BX (BG #[Z N 0 0,Bs CD])) d):wI R 10 f CD s z (Z N 0 0) (I U 3) w:=by
 have e:=H j;have c:=H i;have r:=nw b;have t:=rU b;clear j i b;unfold wI;intros;conv=>arg 2;simp only[f16,Option.getD_some,tN]
 go_wp2_with (go_at_call 35;apply(Fg _ _).m;rintro a d ⟨rfl,rfl⟩);apply c.o.m;rintro a u ⟨rfl,h⟩;have p:=H (e u h);clear h e c r t;go_wp2_with (go_at_call 35;apply(Fg _ _).m;rintro a d ⟨rfl,rfl⟩);exact p
def Uv{p b:Option wT}{j oc g c:Nat}{r:Int}(e:w.heap[f]?=O (BV #[Z p j oc,I U r] 31 (0,0)))(m:wh DG 48 #[Z b g c,Bc #[Z p j oc,I U r]] w λa d=>a=BX (Bs CD)/\wm w.heap.size w d)
  (n:∀d,wm w.heap.size w d->R (BX (BG #[Z b g c,Bs CD])) d):wI R 10 f CD s z (Z b g c) (I U 0) w:=by
 have i:=H n;have h:=H m;have u:=nw e;have v:=rU e;clear n m e;unfold wI;intros;conv=>arg 2;simp only[f16,Option.getD_some,tN]
 go_wp2_with (go_at_call 35;apply(Fg _ _).m;rintro a d ⟨rfl,rfl⟩);apply h.o.m;rintro a x ⟨rfl,k⟩;have t:=H (i x k);clear k i h u v;go_wp2_with (go_at_call 35;apply(Fg _ _).m;rintro a d ⟨rfl,rfl⟩);exact t
def Fe{k J F c hi:Nat}{Vs:List (GT k)}{u:List wg}{m:Nat->Nat}{P:Nat->Prop}{oa:Option wT}{oc:Nat}{root:Int}
  (g:rZ Vs u m c 0 w) (br:G u=J) (bd:G Vs=J) (hM:F=J+3) (hN:J<=1256584717421) (hc:∀n,m n<=m (n+1)) (hg:c<m 0) (a6:∀n,m n<=hi) (ct:hi<=w.heap.size)
  (bh:nD (ku P k) P w oa Vs) (hP:∀o,P o->o<c) (hB:∀p∈Vs,GB p) (hx:w.heap[f]?=O (BV #[Z oa J oc,I U root] 31 (0,0))) (cc:f<c)
  (hT:∀A,jA c hi w A->wI R 10 f D s (Z (O ⟨c,0,N⟩) F F) l q A):wI R 9 f D s (Z (O ⟨c,0,N⟩) F F) l q w:=by
 have bz:=H g;have ao:=H br;have bc:=H bd;have HM:=H hM;have HC:=H hc;have a2:=H a6;have bx:=H bh;have HP:=H hP;have HB:=H hB;have HX:=H hx;have HT:=H hT;have ce:=ap hx;have bf:=aF hg (a6 0);have cs:F<=1256584717424:=Y;clear hM g br bd hc a6 bh hP hB hx hT;unfold wI;intros;conv=>arg 2;simp only[f16,Option.getD_some,tN]
 go_wp2;go_loopw [7,14,15,16] (λcq iv _ _ wr=>∃b:Nat,b<=F/\cq=Bs CD/\iv=I U b/\wt (rZ Vs u m c b wr)/\wt (jA c hi w wr)) (λ_ iv _ _ _=>F-(intOf iv).toNat)
 case atStart=>exact⟨0,aw _,rfl,rfl,bz,jA.refl _ _ _⟩
 case round=>
  obtain⟨b,hm,rfl,rfl,S,E⟩:=hrel;have Y0:=H ((E.block f ce (C1 cc)).t HX);have d0:=nw Y0;have ac:wt (∀n,n<=G Vs->m n<=wr.heap.size):=λn _=>by have:=a2.o n;have:=E.o.size;omega
  rcases aC hm with cg|cv
  ·subst cg;have hd:¬(b:Int)<(b:Int):=Y;have HQ:=H (HT wr E);repeat' first|(refine ‹∀(b2:xq) (w:vz),Code.wp DG (.seq (.seq (.region 30 _ _) _) _) _ b2 w->_› _ _ ?_;apply HQ)|go_values|go_skip|go_guarded|go_step|go_upon
  ·have hd:(b:Int)<(F:Int):=Y;have al:b<G u+3:=by have:=ao.o;have:=HM.o;omega
   by_cases a0:b<J
   ·have ci:(b:Int)<(J:Int):=Y;obtain⟨p,hy⟩:∃p,Vs[b]?=O p:=⟨_,af (by rw[bc.o];exact a0)⟩;obtain⟨B,hx⟩:∃B,u[b]?=O B:=⟨_,af (by rw[ao.o];exact a0)⟩;have a8:(u++[nR,nR,nR])[b]?=O B:=by rw[aR (by rw[ao.o];exact a0)];exact hx
    have a5:qe k (m b) (m (b+1)) wr B p:=by obtain⟨cr,_,_,_,h4⟩:=S.o;exact h4 b B p (ag _) hx hy
    have cf:=ac.o (b+1) (by rw[bc.o];exact a0);obtain⟨o,x,xv,rfl,ca,aa,bs⟩:=bx.o b p hy;have cd:=HP.o o ca;obtain⟨k0,k1,k2,k3,ja,jl,jc,cj,cl,ck,b3,b7,b6,M⟩:=a5.form;obtain⟨l0,l1,l2,l3,la,ll,co,cn,ml,cp,b8,gl,b9,Q⟩:=ku.form bs;have a9:=HB.o p (aQ hy);have ba:wt (∀a,wm wr.heap.size wr a->yW a B xv):=λa i=>by refine Jl k _ P a B xv p (qe.gin k (qe.keep k a5 (λV _ L=>i.block V Y))) (ku.keep k bs (λV h1 L=>?_)) a9;have h3:=HP.o V h1;rw[i.block V (aF L E.o.size),E.o.block V L (C1 h3)]
    unfold yW at ba;have b0:wt (∀a,wm wr.heap.size wr a->wh DG 46 #[B] a λv d=>v=BX (Bs CD)/\jA (m b) (m (b+1)) a d):=λa i=>NS k a (m b) (m (b+1)) B p (qe.keep k a5 (λV _ L=>i.block V Y)) a9 (aJ cf i.size)
    have HD:wt (∀a,wm wr.heap.size wr a->a.cell? ⟨c,b*7,N⟩=O (I U k0)/\a.cell? ⟨c,b*7+1,N⟩=O (I U k1)/\a.cell? ⟨c,b*7+2,N⟩=O (I U k2)/\a.cell? ⟨c,b*7+3,N⟩=O (y7 k3)/\a.cell? ⟨c,b*7+4,N⟩=O (Z ja jl jc)/\a.cell? ⟨c,b*7+5,N⟩=O (Z cj cl ck)/\a.cell? ⟨c,b*7+6,N⟩=O (Z b3 b7 b6)):=λa i=>by
     have j:∀{r:Nat} {y:wg},(cellsOf B)[r]?=O y->a.cell? ⟨c,b*7+r,N⟩=O y:=λ{r y} h=>by rw[i.cell S.o.lt];exact S.cell a8 h
     exact⟨@j 0 _ (by rw[M];rfl),j (by rw[M];rfl),j (by rw[M];rfl),j (by rw[M];rfl),j (by rw[M];rfl),j (by rw[M];rfl),j (by rw[M];rfl)⟩
    have HE:wt (∀a,wm wr.heap.size wr a->a.cell? ⟨o,x+b*7,N⟩=O (I U l0)/\a.cell? ⟨o,x+b*7+1,N⟩=O (I U l1)/\a.cell? ⟨o,x+b*7+2,N⟩=O (I U l2)/\a.cell? ⟨o,x+b*7+3,N⟩=O (y7 l3)/\a.cell? ⟨o,x+b*7+4,N⟩=O (Z la ll co)/\a.cell? ⟨o,x+b*7+5,N⟩=O (Z cn ml cp)/\a.cell? ⟨o,x+b*7+6,N⟩=O (Z b8 gl b9)):=λa i=>by
     have j:∀{r:Nat} {y:wg},w.cell? ⟨o,r,N⟩=O y->a.cell? ⟨o,r,N⟩=O y:=λ{r y} h=>by have L:=aA w _ h;rw[World.cell?_of_block (w:=wr) (i.block o (aF L E.o.size)),World.cell?_of_block (w:=w) (E.o.block o L (C1 cd))];exact h
     exact⟨j (aa 0 _ (by rw[Q];rfl)),j (aa 1 _ (by rw[Q];rfl)),j (aa 2 _ (by rw[Q];rfl)),j (aa 3 _ (by rw[Q];rfl)),j (aa 4 _ (by rw[Q];rfl)),j (aa 5 _ (by rw[Q];rfl)),j (aa 6 _ (by rw[Q];rfl))⟩
    have bw:wt (∀a,wm wr.heap.size wr a->a.cell? ⟨f,0,N⟩=O (Z (O ⟨o,x,N⟩) J oc)):=λa i=>by rw[i.cell (ap Y0.o)];exact d0
    have bv:wt (∀a,wm wr.heap.size wr a->∀A,jA (m b) (m (b+1)) a A->rZ Vs u m c (b+1) A/\jA c hi w A):=λa i A x=>by have h1:=a2.o (b+1);have L:=uR HC (aw b);exact⟨(S.below ac i).only HC hg (λn hi=>aJ (ac n hi) i.size) x,(E.t (.of_below i)).t (x.wide Y h1)⟩
    subst M;subst Q;go_wp2;refine AX (λ_ a=>wm wr.heap.size wr a) aG ?_;intro e;have g:=(ar wr.heap.size wr).drew;refine tj 0 e g λe g=>?_;refine tj 1 e g λe g=>?_;refine tj 2 e g λe g=>?_;refine tl 3 e g (λe g=>?_) (y:=λa i=>by obtain⟨_,_,_,hb⟩:=i;obtain⟨q0,q1,q2,q3,q4,q5,q6⟩:=HD.o a hb;go_simp;try(with_reducible rfl));refine tj 4 e g λe g=>?_;refine tl 5 e g (λe g=>?_) (y:=λa i=>by obtain⟨_,_,_,hb⟩:=i;have q0:=bw.o a hb;go_simp;try(with_reducible rfl));refine tj 6 e g λe g=>?_;refine tj 7 e g λe g=>?_;refine tl 8 e g (λe g=>?_) (y:=λa i=>by obtain⟨_,_,_,hb⟩:=i;obtain⟨q0,q1,q2,q3,q4,q5,q6⟩:=HE.o a hb;go_simp;try(with_reducible rfl));refine on 9 e λK' K=>?_;go_simp;apply(ba _ (ar wr.heap.size wr).drew).m;rintro v w4 ⟨rfl,b4⟩;have C:=H ((ar wr.heap.size wr).drew.t b4);refine K _ _ C (λW X=>?_);have e:=W;have g:=X
    (try simp only[lr])
    refine on 10 e λK' K=>?_;go_simp;refine K _ _ C (λW X=>?_)
    (try simp only[lr])
    refine uX aG ?_ _;have b1:=H (b0 w4 C);have bt:=H (bv w4 C);obtain⟨q0,q1,q2,q3,q4,q5,q6⟩:=HD.o w4 C;go_wp2_with fail;apply b1.o.m;rintro v A ⟨rfl,ox⟩;have T:=H (bt A ox);go_wp2_with fail;apply(bo _).m;rintro v wb ⟨rfl,bb⟩;have a3:wt (∀n,n<=G Vs->m n<=A.heap.size):=λn _=>by have:=a2.o n;have:=T.o.2.size;omega
    have H1:=H (T.1.below a3 bb);have H2:=H (T.2.t (.of_below bb));have hT:=H1.o.there (j:=b) al;have a4:wt (∀t,wb.setCells c (b*7) (cellsOf nR)=t->rZ Vs u m c (b+1) t/\jA c hi w t):=λt v=>by rw[<-v];exact⟨H1.put HC hg al,H2.setCells (ag _) bf⟩
    go_wp2_with (refine dt rfl 67 (.tmp 142) (.tmp 141) rfl c (b*7) _ rfl rfl hT Tryz.info7 mG ?_;generalize a7:World.setCells _ _ _ _=t;have ad:=H (a4 t a7));go_roundw
    case rel=>exact⟨b+1,Y,rfl,by go_num,ad.1,ad.2⟩
    case measure=>exact eT
   ·have ci:¬(b:Int)<(J:Int):=Y;have a8:=La (xs:=u) (m:=b) (by have:=ao.o;omega) al;have HD:wt (∀a,wm wr.heap.size wr a->a.cell? ⟨c,b*7,N⟩=O (I U 77)/\a.cell? ⟨c,b*7+1,N⟩=O (I U 0)/\a.cell? ⟨c,b*7+2,N⟩=O (I U 0)/\a.cell? ⟨c,b*7+3,N⟩=O (y7 {data:=#[115,112,97,114,101]})/\a.cell? ⟨c,b*7+4,N⟩=O (Z N 0 0)/\a.cell? ⟨c,b*7+5,N⟩=O (Z N 0 0)/\a.cell? ⟨c,b*7+6,N⟩=O (Z N 0 0)):=λa i=>by
     have j:∀{r:Nat} {y:wg},(cellsOf nR)[r]?=O y->a.cell? ⟨c,b*7+r,N⟩=O y:=λ{r y} h=>by rw[i.cell S.o.lt];exact S.cell a8 h
     exact⟨@j 0 _ rfl,j rfl,j rfl,j rfl,j rfl,j rfl,j rfl⟩
    have a3:wt (∀a,wm wr.heap.size wr a->rZ Vs u m c (b+1) a/\jA c hi w a/\∀n,n<=G Vs->m n<=a.heap.size):=λa i=>⟨(S.below ac i).skip,E.t (.of_below i),λn hi=>aJ (ac n hi) i.size⟩;go_wp2;refine AX (λ_ a=>wm wr.heap.size wr a) aG ?_;intro e;have g:=(ar wr.heap.size wr).drew;refine tj 0 e g λe g=>?_;refine tj 1 e g λe g=>?_;refine tj 2 e g λe g=>?_;refine tl 3 e g (λe g=>?_) (y:=λa i=>by obtain⟨_,_,_,hb⟩:=i;obtain⟨q0,q1,q2,q3,q4,q5,q6⟩:=HD.o a hb;go_simp;try(with_reducible rfl));refine on 4 e λK' K=>?_;go_simp;apply(bo _).m;rintro v w4 ⟨rfl,b4⟩;have C:=H ((ar wr.heap.size wr).drew.t b4);refine K _ _ C (λW X=>?_);have e:=W;have g:=X
    (try simp only[lr])
    refine on 5 e λK' K=>?_;go_simp;have bm:=NA w4;unfold yW at bm;apply bm.m;rintro v w5 ⟨rfl,b5⟩;have a1:=H (C.t (b5.m C.size));refine K _ _ a1 (λW X=>?_);have e:=W;have g:=X
    (try simp only[lr])
    refine on 6 e λK' K=>?_;go_simp;refine K _ _ a1 (λW X=>?_)
    (try simp only[lr])
    refine uX aG ?_ _;have T:=H (a3 w5 a1);go_wp2_with fail;apply(bo _).m;rintro v wb ⟨rfl,bb⟩;have H1:=H (T.1.below T.2.2 bb);have H2:=H (T.2.1.t (.of_below bb));have hT:=H1.o.there (j:=b) al;have a4:wt (∀t,wb.setCells c (b*7) (cellsOf nR)=t->rZ Vs u m c (b+1) t/\jA c hi w t):=λt v=>by rw[<-v];exact⟨H1.put HC hg al,H2.setCells (ag _) bf⟩
    go_wp2_with (refine dt rfl 67 (.tmp 142) (.tmp 141) rfl c (b*7) _ rfl rfl hT Tryz.info7 mG ?_;generalize a7:World.setCells _ _ _ _=t;have ad:=H (a4 t a7));go_roundw
    case rel=>exact⟨b+1,Y,rfl,by go_num,ad.1,ad.2⟩
    case measure=>exact eT
def Qd{b:Program}{w:vz}{a:Operand->wg}{g:Oper}(h c e:Nat)(m n:Operand)(o:g.op=.build h #[(c,m),(e,n)]){j k i:wg}(r:a m=j)(t:a n=k)(p:(Instr.build h #[(c,j),(e,k)]).run b w=.ok i w):(execOp a g).run b w=.ok (.value i) w:=by simp[execOp,o,r,t,p,Result.andThen]
def Sq(b:Option wT)(e c:Nat)(r:Int)(a:vz):(Instr.build 31 #[(0,Z b e c),(1,I U r)]).run DG a=.ok (Bc #[Z b e c,I U r]) a:=by kernel_rfl
def AP{n e u oc:Nat}{oa:Option wT}{root:Int}{X:wg->Int->vz->Prop}(aa:n<=e)(W:e<=1256584717424)(x:w.heap[f]?=O (BV #[Z oa n oc,I U root] 31 (0,0)))
  (g:∀c,wm w.heap.size w c->wh DG 24 #[Bc #[Z (O ⟨u,0,N⟩) n e,I U root]] c λE d=>∃j k,E=BX (BG #[j,I U k])/\wm c.heap.size c d/\X j k d)
  (P:∀j k d,wm w.heap.size w d->X j k d->wI R 9 f D s (Z (O ⟨u,0,N⟩) e e) j (I U k) d):wI R 8 f D s (Z (O ⟨u,0,N⟩) e e) l q w:=by
 have K:=H g;have J:=H P;have C:wt (∀c,wm w.heap.size w c->c.cell? ⟨f,0,N⟩=O (Z oa n oc)/\c.cell? ⟨f,1,N⟩=O (I U root)):=λc g=>by rw[g.cell (ap x),g.cell (ap x),cb x,cb x];exact⟨rfl,rfl⟩
 have n1:(n:Int)<=(e:Int):=Y;unfold wI;intros;conv=>arg 2;simp only[f16,Option.getD_some,tN]
 go_wp2;refine AX (λ_ c=>wm w.heap.size w c) aG ?_;intro a;have b:=(ar w.heap.size w).drew;refine tj 0 a b λa b=>?_;refine tj 1 a b λa b=>?_;refine tl 2 a b (λa b=>?_) (y:=λc g=>by obtain⟨_,_,_,B⟩:=g;obtain⟨S,T⟩:=C.o c B;go_simp;try(with_reducible rfl));refine tj 3 a b λa b=>?_;refine tj 4 a b λa b=>?_;refine tj 5 a b λa b=>?_;refine tl 6 a b (λa b=>?_) (y:=λc g=>by obtain⟨_,_,_,B⟩:=g;obtain⟨S,T⟩:=C.o c B;go_simp;try(with_reducible rfl));refine yO (i:=7) (v:=Bc #[Z (O ⟨u,0,N⟩) n e,I U root]) rfl aG aG aG (λ_ _ _ h=>h) (λ_ _ h=>h) (λ_ _ h=>h) a (C1 ⟨by rfl,?_⟩) b ?_
 ·intro c g;exact Qd 31 0 1 (.tmp 91) (.tmp 93) rfl rfl rfl (Sq _ _ _ _ c)
 clear a b;intro a b;(try simp only[lr])
 refine on 8 a λA m=>?_;go_simp;apply(K _ (ar w.heap.size w).drew).m;rintro E V ⟨j,k,rfl,M,Q⟩;have t:=H ((ar w.heap.size w).drew.t M);refine m _ _ t (λp r=>?_);have a:=p;have b:=r
 (try simp only[lr])
 refine on 9 a λA m=>?_;go_simp;refine m _ _ t (λp r=>?_);have a:=p;have b:=r
 (try simp only[lr])
 refine tj 10 a b λa b=>?_;refine tj 11 a b λa b=>?_;refine on 12 a λA m=>?_;go_simp;refine m _ _ t (λp r=>?_);have a:=p;have b:=r
 (try simp only[lr])
 refine on 13 a λA m=>?_;go_simp;refine m _ _ t (λp r=>?_)
 (try simp only[lr])
 refine uX aG ?_ _;have F:=H (J j k V t Q);repeat' first|(refine ‹∀(L:xq) (w:vz),Code.wp DG (.seq (.seq (.region 19 _ _) _) _) _ L w->_› _ _ ?_;apply F)|go_values|go_skip|go_guarded|go_step|go_upon
def G_{k c j b:Nat}{m:List (GT k)}{P:Nat->Prop}{T:Option wT}{oc:Nat}{b1:Int}(hV:qM w b (DJ (c+3) xj))(ad:G m=c)(hM:j=c+3)(hN:c<=1256584717421)
  (a2:nD (ku P k) P w T m) (hP:∀g,P g->g<b) (hB:∀n∈m,GB n) (hK:∀n∈m,yV n) (y:w.heap[f]?=O (BV #[Z T c oc,I U b1] 31 (0,0))) (ao:f<b)
  (x:∀W,wm b w W->rn m c b j W->wI R 8 f D s (Z (O ⟨b,0,N⟩) j j) l q W):wI R 7 f D s (Z (O ⟨b,0,N⟩) j j) l q w:=by
 have HV:=H hV;have ac:=H ad;have HM:=H hM;have ba:=H a2;have K:=H hP;have a6:=H hB;have a7:=H hK;have X0:=H y;have HT:=H x;have b5:j<=1256584717424:=Y;clear hM hV ad a2 hP hB hK y x;unfold wI;intros;conv=>arg 2;simp only[f16,Option.getD_some,tN]
 go_wp2;go_loopw [11] (λS wr=>∃a:Nat,a<=j/\S=I U a/\wt (rn m c b a wr)/\wt (wm b w wr)) (λS _=>j-(intOf S).toNat)
 case atStart=>exact⟨0,aw _,rfl,rn.start HV,ar _ _⟩
 case round=>
  obtain⟨a,hm,rfl,J,F⟩:=hrel;have Y0:=H ((F.block f ao).t X0);rcases aC hm with bv|b6
  ·subst bv;have hd:¬(a:Int)<(a:Int):=Y;have HQ:=H (HT wr F J);repeat' first|(refine ‹∀(bf:xq) (w:vz),Code.wp DG (.seq (.region 18 _ _) _) _ bf w->_› _ _ ?_;apply HQ)|go_values|go_skip|go_guarded|go_step|go_upon
  ·have hd:(a:Int)<(j:Int):=Y;go_wp2_with fail;apply(bo _).m;rintro e C ⟨rfl,bb⟩;have bc:=H (F.t (bb.m (eX J.lt)));have E:=H (J.below bb);have B:a<c+3:=by have:=HM.o;omega
   have x:=E.o.there (j:=a) B;have u:wt (∀wc,C.setCells b (a*7) (cellsOf nR)=wc->rn m c b a wc/\wm b w wc):=λwc e=>by rw[<-e];exact⟨E.put B Ho,xi _ _ (ag _) _ _ _ _ bc⟩
   have X:wt (∀wc,C.setCells b (a*7) (cellsOf nR)=wc->wc.cell? ⟨f,0,N⟩=O (Z T c oc)):=λwc e=>by rw[cb (((u.o wc e).2.block _ ao).t X0.o)];rfl
   by_cases a1:a<c
   ·have bw:(a:Int)<(c:Int):=Y;obtain⟨n,Q⟩:∃n,m[a]?=O n:=⟨_,af (by rw[ac.o];exact a1)⟩;have a0:=aQ Q;obtain⟨g,b0,xv,rfl,br,t,y⟩:=ba.o a n Q;have bs:=K.o g br;obtain⟨k0,k1,k2,k3,ja,jl,jc,b7,b9,b8,b2,b4,b3,o⟩:=ku.form y;have p:wt (∀wc,C.setCells b (a*7) (cellsOf nR)=wc->∀(A:Nat) (V:wg),w.cell? ⟨g,A,N⟩=O V->wc.cell? ⟨g,A,N⟩=O V):=λwc e A V h=>by rw[World.cell?_of_block (w:=w) ((u.o wc e).2.block g bs)];exact h
    have q0:w.cell? ⟨g,b0+a*7,N⟩=O (I U k0):=t 0 _ (by rw[o];rfl);have q1:=t 1 _ (by rw[o];rfl);have q2:=t 2 _ (by rw[o];rfl);have q3:=t 3 _ (by rw[o];rfl);have q4:=t 4 _ (by rw[o];rfl);have q5:=t 5 _ (by rw[o];rfl);have q6:=t 6 _ (by rw[o];rfl);have a4:=H (λwc e=>by have bm:=(u wc e).2;have bt:=(u wc e).1.lt;exact Lk k wc xv n (ku.m k (ku.keep k y (λg M _=>bm.block g (K g M))) (λg M _=>Nat.lt_trans (K g M) bt)) (a6 n a0) (a7 n a0))
    subst o;go_wp2_with (refine dt rfl 67 (.tmp 71) (.tmp 70) rfl b (a*7) _ rfl rfl x Tryz.info7 mG ?_;generalize i:World.setCells _ _ _ _=wc;have d4:=X.o wc i;have r0:=p.o wc i _ _ q0;have r1:=p.o wc i _ _ q1;have r2:=p.o wc i _ _ q2;have r3:=p.o wc i _ _ q3;have r4:=p.o wc i _ _ q4;have r5:=p.o wc i _ _ q5;have r6:=p.o wc i _ _ q6;have a5:=H (a4 wc i);have r:=H (u wc i));apply a5.o.m;rintro e wd ⟨v',rfl,al,L⟩;have a3:=H al;obtain⟨j0,j1,j2,j3,ea,el,ec,e2,e3,e4,e5,e6,e7,bx⟩:=al.form;subst bx;have bh:=(r.1.below L).there (j:=a) B;have a9:wt (∀v,wd.setCells b (a*7) (cellsOf (Bc #[I U j0,I U j1,I U j2,y7 j3,Z ea el ec,Z e2 e3 e4,Z e5 e6 e7]))=v->rn m c b (a+1) v/\wm b w v):=λv e=>by rw[<-e];exact⟨r.1.item a1 L Q a3,xi _ _ (ag _) _ _ _ _ (r.2.t (L.m (eX r.1.lt)))⟩
    go_wp2_with (refine dt rfl 67 (.tmp 85) (.tmp 84) rfl b (a*7) _ rfl rfl bh Tryz.info7 mG ?_;generalize bz:World.setCells _ _ _ _=v;have aa:=H (a9 v bz));go_roundw
    case rel=>exact⟨a+1,Y,by go_num,aa.1,aa.2⟩
    case measure=>exact eT
   ·have bw:¬(a:Int)<(c:Int):=Y;have a8:wt (∀wc,C.setCells b (a*7) (cellsOf nR)=wc->rn m c b (a+1) wc/\wm b w wc):=λwc e=>by refine⟨?_,(u wc e).2⟩;rw[<-e];exact E.behind B Y ac
    go_wp2_with (refine dt rfl 67 (.tmp 71) (.tmp 70) rfl b (a*7) _ rfl rfl x Tryz.info7 mG ?_;generalize i:World.setCells _ _ _ _=wc;have d4:=X.o wc i;have r:=H (a8 wc i));go_roundw
    case rel=>exact⟨a+1,Y,by go_num,r.1,r.2⟩
    case measure=>exact eT
def iJ.lowW{b a:Nat}{e g:vz}(h:iJ b e g)(m:a<=b)(c:wm a w e)(k:a<=w.heap.size):wm a w g:=
 c.t ⟨h.os,h.tape,h.output,h.size,λi j=>h.block i (aF j (aJ k c.size)) Y⟩
def QB{k:Nat}{a:List (GT k)}{b:Int}(h:2000<(a.map (ie k)).sum):jm a b=CS:=by unfold jm;rw[av (p:=(a.map (ie k)).sum<=2000) Y,Bool.and_false,Bool.and_false]
def nD.belowG{k:Nat}{e:Option wT}{c:List (GT k)}(h:nD (ku (λa=>a<w.heap.size) k) (λa=>a<w.heap.size) w e c)(b:wm w.heap.size w d):nD (ku (λa=>a<d.heap.size) k) (λa=>a<d.heap.size) d e c:=λo t n=>by obtain⟨a,p,r,e1,e2,g,i⟩:=(h.keep (λa j _=>b.block a j):nD (ku (λa=>a<w.heap.size) k) (λa=>a<w.heap.size) d e c) o t n;exact⟨a,p,r,e1,aF e2 b.size,g,ku.m k i (λu m _=>aF m b.size)⟩
def Fk{k a:Nat}{e:List (GT k)}{r:Option wT}{m:Nat}{g:Int}(a4:nD (ku (λp=>p<w.heap.size) k) (λp=>p<w.heap.size) w r e)(hF:∀n∈e,GB n)(a1:G e=a)(hN:a<=1256584717421)
  (a3:jm e g=CS->∀ad,wm w.heap.size w ad->wh DG 24 #[Bc #[Z r a m,I U g]] ad λo d=>o=BX (BG #[Z N 0 0,I U 2])/\wm ad.heap.size ad d)
  (hR:jm e g=CS->∀d,wm w.heap.size w d->R (BX (BG #[Z N 0 0,Bs CD])) d)
  (hT:∀j f s wx,w.heap.size<=f->f<j->wm w.heap.size w wx->qM wx j (DJ (a+3) xj)->wx.heap[f]?=O (BV #[Z r a m,I U g] 31 (0,0))->wI R 7 f (jm e g) s (Z (O ⟨j,0,N⟩) (a+3) (a+3)) undef undef wx):wh DG 16 #[Bc #[Z r a m,I U g]] w R:=by
 obtain⟨i0,hi,b1,b3,b4⟩:=bR iV;have a0:=H a4;have HF:=H hF;have cc:=H a1;obtain⟨y,al⟩:∃y,w.alloc (BV #[Z r a m,I U g] 31)=y:=⟨_,rfl⟩;have B1:wt (wm w.heap.size w y):=by unfold Hid;rw[<-al];exact(ar _ _).alloc (ag _) _
 have X1:wt (y.heap[w.heap.size]?=O (BV #[Z r a m,I U g] 31 (0,0))):=by unfold Hid;rw[<-al];exact bn _ _
 have ao:wt (wh DG 41 #[Bc #[Z r a m,I U g]] y λo d=>o=BX (Bs (jm e g))/\wm y.heap.size y d):=by have:=LI (root:=g) (oc:=m) (a4.belowG B1) hF Y;rw[a1]at this;exact this
 obtain⟨D,hD⟩:∃D,jm e g=D:=⟨_,rfl⟩;rw[hD]at ao a3 hR hT;have b6:=H hD;have S:=H a3;have T:=H hR;have W:=H hT;have bd:=H al;clear a4 hF a1 hD a3 hR hT al
 go_in
 go_wp2_with fail;try rw[bd.o]
 apply ao.o.m;rintro o w2 ⟨rfl,b2⟩;obtain⟨i,hL⟩:∃i,w2.heap.size=i:=⟨_,rfl⟩;obtain⟨A,E⟩:∃A,w2.alloc (BV #[I U 6000] 3)=A:=⟨_,rfl⟩;have ci:=b2.size;have bv:=ap X1;have B3:wt (wm w.heap.size w A):=by unfold Hid;rw[<-E];exact(B1.t (b2.m Y)).alloc Y _
 have X3:wt (A.heap[w.heap.size]?=O (BV #[Z r a m,I U g] 31 (0,0))):=by unfold Hid;rw[<-E];exact nt _ (by rw[b2.block _ bv];exact X1)
 have L3:wt (oU i 6000 A):=by unfold Hid oU;rw[<-E,<-hL];exact bn _ _
 have d0:(w2.alloc (BV #[I U 6000] 3)).cell? ⟨w.heap.size,0,N⟩=O (Z r a m):=by rw[E,cb X3.o];rfl
 have bf:=H E;have bh:w.heap.size<i:=Y;clear E b2 ao ci bv;obtain⟨ac,hM⟩:∃ac,a+3=ac:=⟨_,rfl⟩;have eM:(a:Int)+3=ac:=Y;go_wp2_with (at_make;rw[bf.o];refine wpList_make_full _ rfl _ _ 29 rfl A.heap.size 67 i0 xj 7 dw hi b1 b3 U U _ _ ac rfl rfl Y Y (by rw[b4];omega) lB (ag _) ?_;intro w4 bz bs);have a6:=N7 bz;have M:=(ar _ _).grown bs (ag _) (λk h=>by cases h);obtain⟨j,bt⟩:∃j,A.heap.size=j:=⟨_,rfl⟩;rw[bt]at a6 M ⊢;have cf:i<j:=by have:=ap L3;omega
 have bm:w.heap.size<j:=Y;have B4:=H (B3.t (M.m Y));have X4:=H ((M.block _ bm).t X3);have L4:wt (oU i 6000 w4):=(M.block _ cf).t L3;have X:=H a6;have ba:=H hM;clear bz bs a6 M d0 bt b1 b3 b4 hi hL B3 X3 L3 bf bd B1 X1 hM eM;go_loopw [7,8] (λcl iv wr=>∃c:Nat,c<=a/\cl=Bs (decide (((e.take c).map (ie k)).sum<6000))/\iv=I U c/\wt (iJ i w4 wr)/\wt (oU i ((6000-((e.take c).map (ie k)).sum:Nat):Int) wr)) (λ_ iv _=>a-(intOf iv).toNat)
 case atStart=>exact⟨0,aw _,rfl,rfl,iJ.refl _ _,L4⟩
 case round=>
  obtain⟨c,hm,rfl,rfl,B,J⟩:=hrel;obtain⟨F,a5⟩:∃F,((e.take c).map (ie k)).sum=F:=⟨_,rfl⟩;rw[a5]at J ⊢;have bb:=H a5;have t:=H (B.lowW (eX bh) B4 (ag _));have K:=H ((B.block _ (ap X4) (Nat.ne_of_lt bh)).t X4);have d0:=nw K;clear a5;by_cases bx:F<6000
  ·rw[aH bx];rcases aC hm with cj|bw
   ·have C:=H (W j w.heap.size (A3 (O ⟨i,0,N⟩)) wr (ag _) bm t (by rw[ba.o];exact X.keep (B.block j (ap X.1) Y)) K);rw[ba.o]at C;have hd:¬(c:Int)<(a:Int):=Y;clear W a0 HF S T J B t K X;repeat' first|(refine ‹∀(cd:xq) (w:vz),Code.wp DG (.seq (.seq (.region 12 _ _) _) _) _ cd w->_› _ _ ?_;apply C)|go_values|go_skip|go_guarded|go_step|go_upon
   ·have hd:(c:Int)<(a:Int):=Y;obtain⟨n,hy⟩:∃n,e[c]?=O n:=⟨_,af (by rw[cc.o];exact bw)⟩;obtain⟨p,ck,xv,rfl,cg,v,hx⟩:=a0.o c n hy;obtain⟨P,a2⟩:∃P,6000-F=P:=⟨_,rfl⟩;rw[a2]at J;have ca:=H (L6 (L:=i) k wr (λp=>p<w.heap.size) xv n P Y Y (ku.keep k hx (λg' br _=>t.block g' br)) (λg' br=>Y) (HF n (aQ hy)) J);obtain⟨k0,k1,k2,k3,ja,jl,jc,cq,cs,cr,cn,cp,co,x⟩:=ku.form hx;have u:∀{a7:Nat} {a8:wg},w.cell? ⟨p,a7,N⟩=O a8->wr.cell? ⟨p,a7,N⟩=O a8:=λ{a7 a8} h=>by rw[t.o.cell cg];exact h
    have q0:wr.cell? ⟨p,ck+c*7,N⟩=O (I U k0):=u (v 0 _ (by rw[x];rfl));have q1:=u (v 1 _ (by rw[x];rfl));have q2:=u (v 2 _ (by rw[x];rfl));have q3:=u (v 3 _ (by rw[x];rfl));have q4:=u (v 4 _ (by rw[x];rfl));have q5:=u (v 5 _ (by rw[x];rfl));have q6:=u (v 6 _ (by rw[x];rfl));subst x;have b0:=L_ (ie k) e c n hy;have bc:wt (((e.take (c+1)).map (ie k)).sum=F+ie k n):=by unfold Hid;rw[b0,bb.o]
    have a9:=H a2;generalize ie k n=cy at *;clear hy v hx u b0 a2 W S T;go_wp2_with fail;apply ca.o.m;rintro o Q ⟨rfl,o5,h5⟩;have b9:=H (B.t o5);have b8:wt (oU i ((6000-((e.take (c+1)).map (ie k)).sum:Nat):Int) Q):=by unfold Hid;rw[bc.o,show 6000-(F+cy)=P-cy by have:=a9.o;omega];exact h5
    have b7:wt (Bs (decide (cy<P))=Bs (decide (((e.take (c+1)).map (ie k)).sum<6000))):=by unfold Hid;rw[bc.o];exact cX Bs (bO.2 (by have:=a9.o;omega))
    clear h5 o5;go_wp2;go_roundw
    case rel=>exact⟨c+1,Y,b7,by go_num,b9,b8⟩
    case measure=>exact eT
  ·rw[av bx];have ce:D=CS:=by rw[<-b6.o];refine QB ?_;have:=Jt (ie k) e c;rw[bb.o]at this;omega
   subst ce;have aa:=H (S rfl wr t);have V:wt (∀d,wm wr.heap.size wr d->R (BX (BG #[Z N 0 0,Bs CD])) d):=λd b=>T rfl d (t.t (b.m t.size));have d1:=rU K;clear W a0 HF S T J B t K X;rcases aC hm with cj|bw
   ·have hd:¬(c:Int)<(a:Int):=Y;go_wp2_with fail;apply aa.o.m;rintro o Q ⟨rfl,L⟩;have C:=H (V Q L);clear L V aa d0 d1;go_wp2_with (go_at_call 35;apply(Fg _ _).m;rintro o d ⟨rfl,rfl⟩);exact C
   ·have hd:(c:Int)<(a:Int):=Y;go_wp2_with fail;apply aa.o.m;rintro o Q ⟨rfl,L⟩;have C:=H (V Q L);clear L V aa d0 d1;go_wp2_with (go_at_call 35;apply(Fg _ _).m;rintro o d ⟨rfl,rfl⟩);exact C
end
section
open Go.ChangeShapes Go.WideShapes Go.ChangeAt Go.ChangeMaps Go.RowKit
variable{H:Type}{p:TypeId×wg->H}{W:vz}
def Ms{α:Type}{R:Nat->α->Prop}:∀b:Nat,(∀a,a<b->∃c,R a c)->∃e:List α,G e=b/\∀(a:Nat) (c:α),e[a]?=O c->R a c
 |0,_=>⟨[],rfl,λa c h=>by simp at h⟩
 |b+1,h=>by
  obtain⟨e,f,i⟩:=Ms b (λa j=>h a Y);obtain⟨l,k⟩:=h b Y;refine⟨e++[l],by simp[f],λa c d=>?_⟩;by_cases j:a<b;·rw[aR Y]at d;exact i a c d
  ·rw[aW Y]at d;have:=(ay.1 d).1;simp at this;have g:a=b:=Y;subst g;rw[f,eJ]at d;cases d;exact k
def Ay{d:Type}:∀{c:List d},G c=2->∃a b,c=[a,b]
 | [a,b],_=>⟨a,b,rfl⟩
def NR{i:Type}:∀{h:List i},G h=7->∃a b c d e f g,h=[a,b,c,d,e,f,g]
 | [a,b,c,d,e,f,g],_=>⟨a,b,c,d,e,f,g,rfl⟩
def Ku{P:Program}{e:TypeId}:∀{b:List (DataW H)} {a:DataW H},a∈b->∀c∈a.weights P e,c∈DataW.weightsAll P e b
 |f::b,a,h,c,d=>by
  rw[DataW.weightsAll,aZ];rcases cJ.1 h with rfl|h;·exact C1 d
  ·exact C2 (Ku h c d)
def Tryz.cellsV : Tryz.prog.cellsOf 67=7:=by kernel_rfl
def Tryz.bytesV : Tryz.prog.bytesOf 67=112:=by kernel_rfl
def Tryz.bytesSU : Tryz.prog.bytesOf 9=16:=by kernel_rfl
def Tryz.bytesNU : Tryz.prog.bytesOf 3=8:=by kernel_rfl
def Tryz.cellsNU : Tryz.prog.cellsOf 3=1:=by kernel_rfl
def Tryz.cellsSU : Tryz.prog.cellsOf 9=1:=by kernel_rfl
def Tryz.cellsLU : Tryz.prog.cellsOf 29=1 /\ Tryz.prog.cellsOf 38=1 /\ Tryz.prog.cellsOf 52=1 /\ Tryz.prog.cellsOf 31=2:=⟨aG,aG,aG,aG⟩
def Ic{a:Int}(h:(Lit.int U a).wf=CD):wH a:=by simp[Lit.wf,IntKind.min,IntKind.max,IntKind.signed,IntKind.bits]at h;unfold wH;omega
def KE(H:Type)(p:TypeId×wg->H)(W:vz)(k:Nat):Prop:=∀(c:Nat) (b:List wg) (d:DataW H×List MemPlace),c<=2*k->DataW.trod p DG W 0 (λ_=>CD) CD c 67 b=O d->(∀f∈d.1.weights DG 67,f<=reachBytes) ->∃a:GT k,ku (λe=>e<W.heap.size) k W (Bc b.toArray) a/\GB a/\yV a
def MW{k:Nat}(ih:KE H p W k){B:Nat}{A:wg}{L:DataW H×List MemPlace}(hf:B<=2*k+1)(h:DataW.trod p DG W 0 (λ_=>CD) CD B 29 [A]=O L)(E:∀g∈L.1.weights DG 29,g<=reachBytes):∃(J:Option wT) (s:List (GT k)) (ic:Nat),A=Z J (G s) ic/\nD (ku (λq=>q<W.heap.size) k) (λq=>q<W.heap.size) W J s/\(∀f∈s,GB f/\yV f)/\G s<=1256584717421:=by
 rcases DataW.trod_slice dw h with⟨w,F⟩|⟨m,len,M,t,K,g,a1,w,F,hb,hl,hm,a2,x,a4,a3⟩
 ·cases w;exact⟨N,[],0,rfl,(λa f h=>by cases h),(λf h=>by cases h),aw _⟩
 ·cases w;subst F;rw[Tryz.cellsV]at x;have ad:(G t+G K)*112<=reachBytes:=by have:=E ((G t+G K)*112) (by simp[DataW.weights,dw,Tryz.bytesV]);exact this
  unfold reachBytes at ad;have ac:∀f∈t,∀g∈f.1.weights DG 67,g<=reachBytes:=λf u g X=>E g (by have:g∈DataW.weightsAll DG 67 (t.map (·.1)):=Ku (List.mem_map_of_mem u) g X;simp[DataW.weights,dw,this])
  have D:∀{a:Nat} {c:List wg},W.cells? 0 (m.add (a*7)) 7=O c->G c=7/\∀j,j<7->W.cell? ((m.add (a*7)).add j)=c[j]?:=λ{a c} e=>by unfold World.cells? at e;rw[ak (aw _)]at e;exact⟨by simpa using mapM_some_length e,λj z=>mapM_some_get e j j (by simp[z])⟩
  have ao:0<len->∃b d,m=⟨b,d,N⟩:=λhp=>by
   have l:=x 0 hp;rw[af Y]at l;cases e:W.cells? 0 (m.add (0*7)) 7 with
   |none=>rw[e]at l;cases l
   |some c=>
    have r:=@D 0 _ e;have n:=r.2 0 Y;rw[af (by have:=r.1;omega)]at n;obtain⟨b,d,a0⟩:=m;have aa:a0=N:=by simpa[Addr.add]using World.cell?_spot n
    subst aa;exact⟨b,d,rfl⟩
  have al:∀a,a<len->∃i:GT k,∃(b d:Nat) (c:List wg),m=⟨b,d,N⟩/\b<W.heap.size/\(∀(j:Nat) (o:wg),c[j]?=O o->W.cell? ⟨b,d+a*7+j,N⟩=O o)/\ku (λq=>q<W.heap.size) k W (Bc c.toArray) i/\GB i/\yV i:=λa y=>by
   obtain⟨b,d,rfl⟩:=ao Y;have l:=x a y;rw[af Y]at l;cases e:W.cells? 0 ((⟨b,d,N⟩:wT).add (a*7)) 7 with
   |none=>rw[e]at l;cases l
   |some c=>
    rw[e]at l;have T:DataW.trod p DG W 0 (λ_=>CD) CD g 67 c=O t[a]:=l;obtain⟨i,v1,v2,v3⟩:=ih g c t[a] Y T (ac _ (cI _));have r:=@D a _ e;refine⟨i,b,d,c,rfl,?_,λj o v=>?_,v1,v2,v3⟩
    ·have n:=r.2 0 Y;rw[add_plain,add_plain,af (by have:=r.1;omega)]at n;exact aA W _ n
    ·have z:j<7:=by have:=(ay.1 v).1;have:=r.1;omega
     have n:=r.2 j z;rw[add_plain,add_plain,v]at n;exact n
  obtain⟨s,V,C⟩:=Ms (α:=GT k) (R:=λa i=>∃(b d:Nat) (c:List wg),m=⟨b,d,N⟩/\b<W.heap.size/\(∀(j:Nat) (o:wg),c[j]?=O o->W.cell? ⟨b,d+a*7+j,N⟩=O o)/\ku (λq=>q<W.heap.size) k W (Bc c.toArray) i/\GB i/\yV i) len al;refine⟨O m,s,M,by rw[V],λa f u=>?_,λf u=>?_,Y⟩
  ·obtain⟨b,d,c,e1,e2,P,Q,_⟩:=C a f u;exact⟨b,d,Bc c.toArray,by rw[e1],e2,λj o v=>P j o (by simpa[cellsOf,Value.cells]using v),Q⟩
  ·obtain⟨a,y⟩:=List.mem_iff_getElem?.1 u;obtain⟨b,d,c,_,_,_,_,S⟩:=C a f y;exact S
def RV{v:Nat}{l:wg}{t:DataW H×List MemPlace}(h:DataW.trod p DG W 0 (λ_=>CD) CD v 38 [l]=O t)(o:∀C∈t.1.weights DG 38,C<=reachBytes):∃(s:Option wT) (f:List ByteArray) (B:Nat),l=Z s (G f) B/\n8 (λw=>w<W.heap.size) W s f/\(∀a∈f,a.size<=140737488355328)/\G f<=8796093021952:=by
 rcases open_strings dz dC Tryz.cellsSU h with⟨i,r⟩|⟨k,len,u,c,i,_,J,n,A,r,m,_⟩
 ·cases i;exact⟨N,[],0,rfl,(λj F h=>by cases h),(λF h=>by cases h),aw _⟩
 ·cases i;subst r;simp only[if_true]at A;have q:((strs (H:=H) (c.take len)).length+(strs (H:=H) (c.drop len)).length)*16<=reachBytes:=by have:=o (((strs (H:=H) (c.take len)).length+(strs (H:=H) (c.drop len)).length)*16) (by simp[DataW.weights,dz,Tryz.bytesSU]);exact this
  unfold reachBytes at q;simp only[strs,aq,ax,aU]at q;refine⟨O k,c.take len,u,by rw[ax,dQ Y],λj a d=>?_,λa d=>?_,by rw[ax];omega⟩
  ·have y:=(ay.1 d).1;rw[ax]at y;have e:=m j Y;have x:=m 0 Y;obtain⟨b,D,E⟩:=k;have z:E=N:=by simpa[Addr.add]using World.cell?_spot x
   subst z;rw[add_plain]at e;refine⟨b,D,rfl,aA W _ e,?_⟩;rw[dq Y]at d;have g:c.getD j ByteArray.empty=a:=by rw[aL,d];rfl
   rw[g]at e;exact e
  ·have:=o a.data.toList.length (by have n:(DataW.lit (.string a.data.toList):DataW H)∈strs (c.take len):=cE.2 ⟨a,d,rfl⟩;have:=Ku (P:= DG) (e:= 9) n a.data.toList.length (by simp[DataW.weights]);simp only[DataW.weights,dz,cJ,aZ];exact C2 (C1 this))
   unfold reachBytes at this;have g:a.data.toList.length=a.size:=by rw[dH];rfl
   omega
def RS{v:Nat}{k:wg}{q:DataW H×List MemPlace}(h:DataW.trod p DG W 0 (λ_=>CD) CD v 52 [k]=O q)(A:∀D∈q.1.weights DG 52,D<=reachBytes):∃(l:Option wT) (d:List Int) (u:Nat),k=Z l (G d) u/\q8 (λw=>w<W.heap.size) W l d/\(∀t∈d,wH t)/\G d<=17592186043904:=by
 rcases open_ints dF eR Tryz.cellsNU h with⟨f,o⟩|⟨j,len,r,a,f,_,K,L,C,o,m,B⟩
 ·cases f;exact⟨N,[],0,rfl,(λg J h=>by cases h),(λJ h=>by cases h),aw _⟩
 ·cases f;subst o;simp only[if_true]at C;have n:((lits (H:=H) U (a.take len)).length+(lits (H:=H) U (a.drop len)).length)*8<=reachBytes:=by have:=A (((lits (H:=H) U (a.take len)).length+(lits (H:=H) U (a.drop len)).length)*8) (by simp[DataW.weights,dF,Tryz.bytesNU]);exact this
  unfold reachBytes at n;simp only[lits,aq,ax,aU]at n;refine⟨O j,a.take len,r,by rw[ax,dQ Y],λg i c=>?_,λi c=>Ic (B i (cN c)),by rw[ax];omega⟩;have y:=(ay.1 c).1;rw[ax]at y;have e:=m g Y;have x:=m 0 Y;obtain⟨b,E,F⟩:=j;have z:F=N:=by simpa[Addr.add]using World.cell?_spot x
  subst z;rw[add_plain]at e;refine⟨b,E,rfl,aA W _ e,?_⟩;rw[dq Y]at c;have s:a.getD g 0=i:=by rw[aL,c];rfl
  rw[s]at e;exact e
def A_{i:List wg}{e:Array Field}{n:List (DataW H×List MemPlace)}{l:Nat}(r:∀(b:Nat) (a:Field),e[b]?=O a->DataW.trod p DG W 0 (λ_=>CD) CD l a.type ((i.drop a.offset).take (Tryz.prog.cellsOf a.type))=n[b]?)
  (b:Nat) {d:TypeId} {g:wg} {m:DataW H×List MemPlace} (c:(e[b]?).map (λa=>(a.type,a.offset))=O (d,b)) (o : Tryz.prog.cellsOf d=1) (q:i[b]?=O g) (s:n[b]?=O m):DataW.trod p DG W 0 (λ_=>CD) CD l d [g]=O m:=by
 cases f:e[b]? with
 |none=>rw[f]at c;cases c
 |some a=>rw[f]at c;have h:=r b a f;have j:=d9 c;rw[show a.type=d from cX Prod.fst j,show a.offset=b from cX Prod.snd j,o,s]at h;have k:=(ay.1 q);rw[b_ k.1,List.take_succ_cons,List.take_zero,k.2]at h;exact h
def MS:∀k,KE H p W k
 |0=>λo t ad M h=>by have:o=0:=Y;subst this;cases h
 |k+1=>λo t ad M h V=>by
  obtain⟨xs,b,ao,X,r,ac,a⟩:=DataW.trod_struct bq h;subst X;rw[Tryz.cellsV]at r;obtain⟨c0,c1,c2,c3,c4,c5,c6,rfl⟩:=NR r;obtain⟨x0,x1,x2,x3,x4,x5,x6,rfl⟩:=NR ac;obtain⟨l1,l2,l3,_⟩:= Tryz.cellsLU;have v:=A_ a 0 rfl Tryz.cellsNU rfl rfl;have w:=A_ a 1 rfl Tryz.cellsNU rfl rfl;have x:=A_ a 2 rfl Tryz.cellsNU rfl rfl;have y:=A_ a 3 rfl Tryz.cellsSU rfl rfl;have z:=A_ a 4 rfl l1 rfl rfl;have A:=A_ a 5 rfl l2 rfl rfl;have B:=A_ a 6 rfl l3 rfl rfl;have d:∀(j:Nat) (i:TypeId) (e:DataW H),[3,3,3,9,29,38,52][j]?=O i->[x0.1,x1.1,x2.1,x3.1,x4.1,x5.1,x6.1][j]?=O e->∀b∈e.weights DG i,b<=reachBytes:=λj i e f L b T=>V b (by have:=DataW.weights_mem_each f L b T;simpa[DataW.weights,bq]using this)
  obtain⟨kd,e0,_,w0⟩:=DataW.trod_int eR v;obtain⟨nn,e1,_,w1⟩:=DataW.trod_int eR w;obtain⟨pp,e2,_,w2⟩:=DataW.trod_int eR x;obtain⟨c,u,aa,w3⟩:=DataW.trod_string dC y;cases e0;cases e1;cases e2;cases u;obtain⟨ia,m,ic,rfl,E,q,K⟩:=MW (MS k) Y z (d 4 _ _ rfl rfl);obtain⟨ka,s,kc,rfl,J,R,S⟩:=RV A (d 5 _ _ rfl rfl);obtain⟨C,n,D,rfl,F,P,Q⟩:=RS B (d 6 _ _ rfl rfl);have f:c.size<=140737488355328:=by
   have:=d 3 _ _ rfl rfl c.data.toList.length (by rw[aa];simp[DataW.weights]);unfold reachBytes at this;have al:c.data.toList.length=c.size:=by rw[dH];rfl
   omega
  refine⟨(⟨kd,nn,pp,c,m,s,n⟩:GN (GT k)),⟨ia,ic,ka,kc,C,D,rfl,E,J,F⟩,⟨⟨Ic w0,Ic w1,Ic w2⟩,f,?_,?_,?_,R,P,λl g=>(q l g).1⟩,⟨K,S,Q,λl g=>(q l g).2⟩⟩;·show (G m)<=_;omega
  ·show (G s)<=_;omega
  ·show (G n)<=_;omega
def od{e:wg}{d:DataW H}{D:List MemPlace}(h:DataW.Trod p DG W 0 (λ_=>CD) CD 31 e d D)(v:∀b∈d.weights DG 31,b<=reachBytes):∃(k:Nat) (l:Option wT) (a:List (GT k)) (C:Nat) (E:Int),0<k/\e.cells.toList=[Z l (G a) C,I U E]/\nD (ku (λc=>c<W.heap.size) k) (λc=>c<W.heap.size) W l a/\(∀m∈a,GB m/\yV m)/\G a<=1256584717421:=by
 obtain⟨R,h⟩:=h;obtain⟨T,b,S,w,f,x,g⟩:=DataW.trod_struct ft h;obtain⟨rfl,rfl⟩:=Prod.mk.inj w;obtain⟨A,_,_,B⟩:= Tryz.cellsLU;rw[B]at f;generalize e.cells.toList=Q at *;obtain⟨L,M,rfl⟩:=Ay f;obtain⟨J,K,rfl⟩:=Ay x;have o:=A_ g 0 rfl A rfl rfl;have q:=A_ g 1 rfl Tryz.cellsNU rfl rfl;obtain⟨F,e1,_,_⟩:=DataW.trod_int eR q;cases e1;obtain⟨y,n,z,rfl,r,s,t⟩:=MW (MS (b+1)) Y o (λi u=>v i (by have:=DataW.weights_mem_each (P:= DG) (ts:=[29,3]) (ds:=[J.1,K.1]) (j:=0) rfl rfl i u;simpa[DataW.weights,ft]using this))
 exact⟨b+1,y,n,z,F,Y,rfl,r,s,t⟩
end
section
open Go.RowKit Go.Shelf
attribute [local go_sem] Oper.semAt_some
def vh(a:Nat):Prop:=1<=a/\a<=4
def vh.le{a:Nat}(h:vh a):1<=a/\a<=4:=h
def qx:Type:={ a:Nat // vh a }
def qx.one:qx:=⟨4,by unfold vh;omega⟩
def qN(a:List qx)(k:Nat):List (Nat×qx):=(List.range k).map λb=>(G a-1-b,a[G a-1-b]?.getD qx.one)
def OD(a:List qx)(k:Nat):qN a (k+1)=qN a k++[(G a-1-k,a[G a-1-k]?.getD qx.one)]:=by simp[qN,List.range_succ]
def KS(a:List qx)(k:Nat):(qN a k).length=k:=by simp[qN]
def OC(a:List qx):(qN a (G a)).map (λd=>d.2)=a.reverse:=by
 apply List.ext_getElem;·simp[qN]
 ·intro c b e;simp[qN]at b;have:G a-1-c<G a:=Y;simp[qN,this]
def oD(g:Nat)(e:vz)(d:wg)(a:List qx):Prop:=
 (d=Z N 0 0/\a=[])\/∃b f,d=Z (O ⟨b,0,N⟩) (G a) f/\b<g/\∀c,c<G a->e.cell? ⟨b,c,N⟩=O (I U ((a[c]?.getD qx.one).1:Nat))
def oD.below{a:Nat}{c B:vz}(h:wm a c B){g:wg}{d:List qx}:oD a c g d->oD a B g d
 | .inl e=>.inl e
 | .inr ⟨b,cap,e,f,i⟩=>.inr ⟨b,cap,e,f,λj k=>(h.cell (p:=⟨b,j,N⟩) f).t (i j k)⟩
def ug(d a:Nat)(b c:vz):Prop:=wm d b c/\c.heap[a]?=b.heap[a]?
def KU{b a:Nat}{c d e:vz}(h:ug b a c d)(k:ug b a d e):ug b a c e:=⟨h.1.t k.1,k.2.t h.2⟩
def OE{f e:Nat}{d:vz}(l:f<=d.heap.size)(m:e<d.heap.size)(a:vz)(b:Nat)(c g:Obj)(k:d.heap.size<=b)(h:a.heap[b]?=O c)(i:c.isCells=CS)(j:c.isWalk=CS):ug f e a (a.putObj b g):=
 ⟨belowK_b l a b c g k h i j,World.putObj_heap_other Y⟩
def OP(j:Fence)(o:Nat)(z:j.fn 287)(Q:j.round=N)(hn:1<=o)(v i q b len x:Nat)(h:List qx)(M:G h=len)(al:len<=1000000)(E:b<q)(f r:List (Nat×qx)->vz->Prop)
  (D:∀pre d a,f pre a->G pre<len->YieldAt j (o-1) DG v #[I U (d.1:Int),I U (d.2.1:Nat)] a λg e=>(g=BX (Bs CD)/\f (pre++[d]) e/\ug q i a e)\/(g=BX (Bs CS)/\r (pre++[d]) e))
  (a:vz) (s:a.heap[i]?=O (BV #[Z (O ⟨b,0,N⟩) len x] 52 (0,0))) (F:∀n,n<len->a.cell? ⟨b,n,N⟩=O (I U ((h[n]?.getD qx.one).1:Nat))) (y:f [] a):CallsIn j o DG 287 #[.func (.yield v) #[] #[],A3 (O ⟨i,0,N⟩)] a λg e=>(∃S,g=BX S) /\
   ((∃w,w=qN h len/\f w e)\/(∃pre,True/\r pre e)):=by
 refine callsIn_of_wp func287 rfl z ?_ Q;simp only[ntmps287,dN,ai,aB,Nat.reduceAdd,Nat.reduceSub,fy,fA,List.push_toArray,fH,cU,bH];have aa:=nw s
 gi_wp2
 gi_loopw [3] (λm wr=>∃k:Nat,k<=len/\m=I U ((len:Int)-1-k)/\f (qN h k) wr/\ug q i a wr)
  (λm _=>(intOf m+1).toNat)
 case atStart=>exact⟨0,aw _,cO,y,ar _ _,rfl⟩
 case round=>
  obtain⟨k,K,rfl,t,l⟩:=hrel;have ac:=nw (l.2.t s);rcases aC K with rfl|P
  ·rw[show((k:Int)-1-k) = -1 by omega]
   gi_wp2
   go_end0
   exact⟨⟨_,rfl⟩,.inl ⟨_,rfl,t⟩⟩
  ·obtain⟨c,hm⟩:∃c,k+1+c=len:=⟨len-(k+1),Y⟩;rw[show((len:Int)-1-k)=(c:Int)by omega];have J:=(l.1.cell (p:=⟨b,c,N⟩) E).t (F c Y);obtain⟨d,u⟩:∃d,h[c]?.getD qx.one=d:=⟨_,rfl⟩;rw[u]at J;obtain⟨X,ao,V,W,R,C⟩:=D _ (c,d) wr t (by rw[KS];exact P);dsimp only at R;have ad:c<len:=Y
   gi_wp2
   apply C.m;rintro g T (⟨rfl,A,L⟩|⟨rfl,B⟩)
   ·gi_wp2
    go_roundw
    case rel=>exact⟨k+1,Y,by congr 1;omega,by rw[OD,M,show len-1-k=c by omega,u];exact A,KU l L⟩
    case measure=>simp[intOf]
   ·gi_wp2
    refine aK (results_none rfl _ _ _) rfl ?_;exact⟨⟨_,rfl⟩,.inr ⟨_,trivial,B⟩⟩
def OZ(a:Fence)(m:Nat)(h:a.fn 287)(j:a.round=N)(l d:Nat)(b:List (Nat×qx)->vz->Prop)(c:vz)(o:c.cell? ⟨d,0,N⟩=O (Z N 0 0))(g:b [] c):CallsIn a m DG 287 #[.func (.yield l) #[] #[],A3 (O ⟨d,0,N⟩)] c λf e=>(∃n,f=BX n)/\b [] e:=by
 refine callsIn_of_wp func287 rfl h ?_ j;simp only[ntmps287,dN,ai,aB,Nat.reduceAdd,Nat.reduceSub,fy,fA,List.push_toArray,fH,cU,bH]
 gi_wp2
 gi_loopw [3] (λk wr=>k=I U (-1)/\b [] wr) (λ_ _=>0)
 case atStart=>exact⟨rfl,g⟩
 case round=>
  obtain⟨rfl,i⟩:=hrel
  gi_wp2
  go_end0
  exact⟨⟨_,rfl⟩,i⟩
def OS(a:Fence)(h:Nat)(f:a.fn 234)(g:a.round=N)(c:Option wT)(len d:Nat)(b:vz):CallsIn a h DG 234 #[Z c len d] b λe i=>e=BX (.func (.func 287) #[] #[A3 (O ⟨b.heap.size,0,N⟩)])/\i=b.alloc (BV #[Z c len d] 52):=by
 refine callsIn_of_wp func234 rfl f ?_ g;simp only[ntmps234,dN,ai,aB,Nat.reduceAdd,Nat.reduceSub,fy,fA,List.push_toArray,fH,cU,bH]
 gi_wp2
 go_ret;exact⟨rfl,rfl⟩
def Pc(d:Fence)(e:Nat)(k:d.fn 287)(o:d.round=N)(A:1<=e)(c f:Nat)(q:wg)(a:List qx)(C:G a<=1000000)(g:vz)(B:f<=g.heap.size)
  (m:g.heap[c]?=O (BV #[q] 52 (0,0))) (u:oD f g q a):SeqStopsK d e DG 287 #[A3 (O ⟨c,0,N⟩)] (λr:Nat×qx=>#[I U (r.1:Int),I U (r.2.1:Nat)]) (ug f c) (λD=>D=qN a (G a))
   (λpre=>True) (G a) g:=λp h s i l _ _ v j=>by
 have n:=(l.block c (ap m)).t m;rcases u.below (l.m B)with⟨rfl,rfl⟩|⟨b,t,rfl,w,x⟩;·exact(OZ d e k o p c h i (cb n) j).m λF E ⟨y,z⟩=>⟨y,.inl ⟨_,rfl,z⟩⟩
 ·exact OP d e k o A p c f b (G a) t a rfl C w h s v i n x j
end
section
open Go.RowKit Go.Shelf
attribute [local go_sem] Oper.semAt_some
variable{w a:vz}
structure qU(w:vz)(v:wg)(l:List Nat):Prop where
 sl:∃ao cap,v=Z ao (G l) cap/\qi w w.heap.size ao l/\G l<=cap/\cap<=9223372036854775807/\(ao=N->cap=0)
 byt:∀x∈l,x<256
structure ve(E:Nat->List Nat->List Nat->Prop)(M:Nat):Prop where
 call:∀(w:vz) (v:wg) (f:Nat) (d:List Nat),vh f->qU w v d->G d<=M->wh DG 70 #[I U f,v] w λe a=>∃u enc,e=BX u/\a.ownsRow w.heap.size 5 1 u (G enc) (nU enc)/\wm w.heap.size w a/\E f d enc
 byt:∀(f:Nat) (d enc:List Nat),E f d enc->∀x∈enc,x<256
 len:∀(f:Nat) (d enc:List Nat),E f d enc->G enc<=2*G d+36
def mi(d:Nat->List Nat->List Nat->Prop):List Nat->List Nat->List Nat->Prop
 | [],b,c=>c=b
 |f::g,b,c=>∃e,mi d g b e/\d f e c
def Mx{b:List Nat}{d:Array wg}{e:Nat}{g:TypeId}{h:Nat×Nat}(j:w.heap[e]?=O (BV d g h))(i:d.toList.take (G b)=nU b)(c:Nat)(f:c<G b):w.cell? ⟨e,0+c,N⟩=O (I .u8 (nth b c:Nat)):=by rw[bZ,cb j,<-dG,<-dq f,i];simp[nU,nth,af f]
def qU.own{e:Nat}{v:wg}{l:List Nat}(h:w.ownsRow e 5 1 v (G l) (nU l))(k:∀x∈l,x<256):qU w v l:=by
 refine⟨?_,k⟩;rcases h.2 with⟨i,j⟩|⟨g,f,p,e1,e2,c,o,n,q,m⟩
 ·have:=cD.1 j;subst this;exact⟨N,0,i,λd b=>absurd b cO,ag _,Y,λ_=>rfl⟩
 ·refine⟨_,f,e1,λd b=>⟨g,0,rfl,ap c,Mx c oz d b⟩,o,n,λh=>by cases h⟩
def qU.below{v:wg}{g:List Nat}(h:qU w v g)(b:wm w.heap.size w a):qU a v g:=by obtain⟨⟨ao,cap,e,m,j⟩,l⟩:=h;refine⟨⟨ao,cap,e,λf hi=>?_,j⟩,l⟩;obtain⟨c,i,e2,d,k⟩:=m f hi;exact⟨c,i,e2,aF d b.size,(b.cell (p:=⟨c,i+f,N⟩) d).t k⟩
def Hj(h:Nat->List Nat->List Nat->Prop)(c:Nat)(g:List Nat)(w:vz)(pre:List (Nat×qx))(b:vz):Prop:=
 (∃e d,(b.cell? ⟨c,0,N⟩=O e/\b.frozen? ⟨c,0,N⟩=CS)/\qU b e d/\mi h (pre.map λi=>i.2.1).reverse g d/\G d+36<=2^(G pre)*(G g+36)/\c+1<b.heap.size/\(∀f,e.ownBlock=O f->w.heap.size<=f))/\wm w.heap.size w b
def qU.grown{f:wg}{d:List Nat}{e:Option Nat}(h:qU w f d)(c:w.grownBy a e)(s:∀r,e=O r->∃b:Obj,w.heap[r]?=O b/\b.isCells=CS):qU a f d:=by obtain⟨⟨g,j,k,p,l⟩,o⟩:=h;refine⟨⟨g,j,k,λt q=>?_,l⟩,o⟩;obtain⟨i,b,e2,m,n⟩:=p t q;exact⟨i,b,e2,aF m c.size,cell_kept n c s⟩
def Hj.own(g:Nat->List Nat->List Nat->Prop)(f:Nat)(q:List Nat)(w:vz)(c:Nat)(o:w.heap.size<=c):OwnFrom c (Hj g f q w):=
 OwnFrom.and (Own.from (λs r c t p b d=>by obtain⟨v,h,⟨e,i⟩,j,k,l,m,n⟩:=p;exact⟨v,h,⟨cell_kept e b d,(frozen_kept e b d).t i⟩,j.grown b d,k,l,aF m b.size,n⟩) _) (ownFrom_below (ag _) o)
def Sd{C:Nat->List Nat->List Nat->Prop}{A:Nat}(hE:ve C A){c:List Nat}{d:Option wT}{f e:Nat}{l:List qx}(hb:∀g∈c,g<256)(hl:G c<=1000000)(bd:oD w.heap.size w (Z d f e) l)(b5:G l<=20)(hM:2^(G l)*(G c+36)<=2*A)(b4:G c<=A)
  {kd nn pp:Int} {ia ka:Option wT} {ni ic nk kc:Nat} :
  wh DG 178 #[Bc #[I U kd,I U nn,I U pp,y7 (gj c),Z ia ni ic,Z ka nk kc,Z d f e]] w λq a=>∃s m,q=BX s/\qU a s m/\(∀o,s.ownBlock=O o->w.heap.size<=o)/\wm w.heap.size w a/\mi C (l.map λg=>g.1) c m/\G m+36<=2^(G l)*(G c+36):=by
 have D:=H hE;have HM:=H hM;have Q:=H hb;have a4:=H bd;refine(callsIn_wide (n:=3)).1 ?_;refine callsIn_of_wp_marks func178 rfl trivial ?_ rfl;simp only[ntmps178,dN,ai,aB,Nat.reduceAdd,Nat.reduceSub,fy,fA,List.push_toArray,fH,cU,bH];obtain⟨j,b,a7,a8,ba,J,al,a9⟩:=Pk c Q hl (w.alloc (BV #[I U kd,I U nn,I U pp,y7 (gj c),Z ia ni ic,Z ka nk kc,Z d f e] 67));have V:=((ar _ _).alloc (ag _) _).t (J.m cO);have hx:=(J.block _ cO).t (bn _ _);have b9:(b.alloc (BV #[Z (O ⟨w.heap.size+1,0,N⟩) (G c) j] 23)).cell? ⟨w.heap.size,6,N⟩=O (Z d f e):=cb (nt _ hx);have bs:(w.alloc (BV #[I U kd,I U nn,I U pp,y7 (gj c),Z ia ni ic,Z ka nk kc,Z d f e] 67)).heap.size=w.heap.size+1:=cO;rw[bs]at ba a9 al J;have a2:=H al
 gi_wp2_with fail
 refine⟨trivial,(OS Fence.wide 2 trivial rfl _ _ _ _).m ?_⟩;rintro q a ⟨rfl,rfl⟩
 gi_wp2_with fail
 have bD:((b.alloc (BV #[Z (O ⟨w.heap.size+1,0,N⟩) (G c) j] 23)).alloc (BV #[Z d f e] 52)).heap[b.heap.size]?=O (BV #[Z (O ⟨w.heap.size+1,0,N⟩) (G c) j] 23 (0,0)):=nt _ (bn _ _);have bS:((b.alloc (BV #[Z (O ⟨w.heap.size+1,0,N⟩) (G c) j] 23)).alloc (BV #[Z d f e] 52)).heap[b.heap.size+1]?=O (BV #[Z d f e] 52 (0,0)):=by
  have:=bn (b.alloc (BV #[Z (O ⟨w.heap.size+1,0,N⟩) (G c) j] 23)) (BV #[Z d f e] 52)
  rwa [aV]at this
 have W:wm b.heap.size b ((b.alloc (BV #[Z (O ⟨w.heap.size+1,0,N⟩) (G c) j] 23)).alloc (BV #[Z d f e] 52)):=((ar _ _).alloc (ag _) _).alloc cO _;have b8:((b.alloc (BV #[Z (O ⟨w.heap.size+1,0,N⟩) (G c) j] 23)).alloc (BV #[Z d f e] 52)).heap.size=b.heap.size+2:=cO;generalize ((b.alloc (BV #[Z (O ⟨w.heap.size+1,0,N⟩) (G c) j] 23)).alloc (BV #[Z d f e] 52))=S at *;have a0:=V.size;have X:=V.t (W.m a0);have bb:qU S (Z (O ⟨w.heap.size+1,0,N⟩) (G c) j) c:=by refine qU.below (w:=b) ⟨⟨_,j,rfl,a2,a7,a8,λh=>by cases h⟩,Q⟩ W
 refine wpIn_rangeFunc_ownG rfl Y (gf:= 287) (lb:=#[A3 (O ⟨b.heap.size+1,0,N⟩)]) rfl trivial (enters_of func287 aG rfl)
  (Pc Fence.wide 2 trivial rfl Y (b.heap.size+1) w.heap.size (Z d f e) l Y S Y bS (a4.below X)) KU (OE Y Y) (ar _ _) (λ_=>rfl)
  (Hj C b.heap.size c w)
  (λ_ _ _=>False)
  (Hj.own _ _ _ _ _ Y)
  (λ_ _ _ _ _ hs _ _=>hs)
  ⟨⟨_,c,⟨cb bD,pA bD⟩,bb,rfl,cO,Y,λo y=>by cases y;exact e_ _⟩,X⟩
  (λg=>{ tmps:=#[Bc #[I U kd,I U nn,I U pp,y7 (gj c),Z ia ni ic,Z ka nk kc,Z d f e],A3 (O ⟨w.heap.size,0,N⟩),Z N 0 0,A3 (O ⟨b.heap.size,0,N⟩),undef,I U (g.2.1:Nat),A3 (O ⟨w.heap.size,3,N⟩),y7 (gj c),Z (O ⟨w.heap.size+1,0,N⟩) (G c) j,A3 (O ⟨w.heap.size,6,N⟩),Z d f e,.func (.func 287) #[] #[A3 (O ⟨b.heap.size+1,0,N⟩)],I U (g.1:Int),I U (g.2.1:Nat),undef,undef,undef,undef],defers:=[]}) ?assign ?body ?done ?stop
 case assign=>
  intro a1 g i bz v
  gi_wp2
  exact v
 case body=>
  rintro a1 pre g i ⟨⟨s,m,⟨L,ao⟩,K,B,x,a5,_⟩,u⟩ b7;have bm:G m<=A:=by have h1:2^(G pre+1)<=2^(G l):=aY Y Y;have h2:=dx (G c+36) h1;have h3:=HM.o;rw[c_,dK (2^(G pre)) 2,dS]at h2;omega
  have HC:=H (D.call i s g.2.1 m g.2.2 K bm);have HP:=H B;have a3:=H x;have ac:b.heap.size<i.heap.size:=aA i _ L
  gi_wp2_with fail
  refine⟨trivial,(CallsIn.inRound a1 (callsIn_wide.2 HC)).m ?_⟩;rintro q T ⟨bx,aa,rfl,P,F,a6⟩;have bt:=(F.cell (p:=⟨b.heap.size,0,N⟩) ac).t L;have bc:=(F.frozen (p:=⟨b.heap.size,0,N⟩) ac).t ao;have bv:=Gy P ⟨b.heap.size,0,N⟩ bx (λo y=>by have:=(P.lt o y).1;show o≠b.heap.size;omega);obtain⟨ua,uc,rfl⟩:=ke P;have R:=H bv;have t:=H F;have E:=H a6
  gi_wp2
  have hk:KeepsOthers i T:=⟨t.size,λk M h _=>(t.block k (ap h)).t h⟩;have ad:wm w.heap.size i (T.setCell ⟨b.heap.size,0,N⟩ (Z ua (G aa) uc)):=(t.o.m u.size).setCell (p:=⟨b.heap.size,0,N⟩) a0 _;have b6:=D.o.len _ _ _ E;have x:=a3.o;refine⟨(hk.t (KeepsOthers.setCell _ _ _)).from _,⟨ad,?_⟩,⟨⟨_,aa,⟨World.cell?_setCell_same' _ _ _ (by rw[bt];rfl),by rw[World.frozen?_setCell];exact bc⟩,qU.own R (D.byt _ _ _ E),?_,?_⟩,u.t ad⟩⟩
  ·rw[eB _ _ _ _ (by show b.heap.size+1≠b.heap.size;omega)];exact t.block _ a5
  ·rw[aI,List.reverse_append];exact⟨m,HP,E⟩
  ·refine⟨?_,by rw[World.size_setCell];have:=t.o.size;omega,λo y=>by have:=(R.lt o y).1;have:=u.size;omega⟩;rw[ab,dU,c_,dK (2^(G pre)) 2,dS];omega
 case done=>
  rintro z ys i hD rfl ⟨⟨s,m,⟨L,ao⟩,K,B,x,_,br⟩,u⟩ v
  gi_wp2
  refine⟨cO,.inl ⟨_,_,rfl,run_takeDeferred v,?_⟩⟩;have bf:=grownBy_putObj' i z (.deferred N);have bh:∀r,O z=O r->∃M:Obj,i.heap[r]?=O M/\M.isCells=CS:=λr q=>by cases q;exact⟨_,v,rfl⟩
  refine⟨_,results_tmp rfl _ _ _,s,m,rfl,K.grown bf bh,br,u.t (belowK_b (w:=w) (ag _) i z _ _ Y v rfl rfl),?_,?_⟩
  ·have q:(qN l (G l)).map (λg=>g.2.1)=(l.map λg=>g.1).reverse:=by rw[<-List.map_reverse,<-OC,dy];rfl
   rw[q,List.reverse_reverse]at B;exact B
  ·rw[KS]at x;exact x
 case stop=>rintro z b0 pre i _ _ h _;exact h.elim
end
