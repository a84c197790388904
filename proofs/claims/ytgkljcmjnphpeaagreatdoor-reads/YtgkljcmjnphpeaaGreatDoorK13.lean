import Derived.Test.YtgkljcmjnphpeaaGreatDoorK12
import Derived.Test.YtgkljcmjnphpeaaGreatDoorK02
set_option linter.defProp false
set_option linter.unusedVariables false
set_option linter.unusedSimpArgs false
set_option maxHeartbeats 8000000
set_option maxRecDepth 100000
open List renaming length->G
open Go renaming Value->GI,World->Gr,Calls->K8,Addr->L2,Ending->MB
open Go.Value renaming int->I,pointer->M2,string->MV,agg->N1,bool->OV,slice->Z
open Go.RowKit renaming Hid->L1,Below->LT
open Option renaming none->N,some->O
open Bool renaming false->P2,true->PV
open Or renaming inl->P3,inr->P4
open Go.Obj renaming cells->Pp
open Go.Ending renaming returned->Ps
open Go.Proofs.Tryz renaming prog->Qe
open Go.IntKind renaming i64->U
open Go.Proofs.Tryz
namespace Go.Proofs.YtgkljcmjnphpeaaGreatDoor
open Go.RowKit
section
variable{f:Nat}{S:ByteArray}{w w' g:Gr}{p:Nat}{s:Option (List Nat)}{i:GI}{d:List Nat}
def gP(s:Option (List Nat)):Nat:=match s with
 |some r=>G r+1
 |none=>0
def mS(f:Nat)(S:ByteArray)(w:Gr):Nat:=match w.cell? ⟨f,2,N⟩with
 |some (OV PV)=>0
 |_=>S.size-posOf f w+1
def Sn.mS(h:Sn f S w p s):mS f S w=gP s:=by
 unfold Go.Proofs.YtgkljcmjnphpeaaGreatDoor.mS;rw[h.c2,h.posOf];cases s with
 |none=>rfl
 |some r=>simp only[Option.isNone_some];show _=G r+1;rw[h.len]
structure Bg(E:TypeId)(F:Nat->GI)(g:Gr)(f:Nat)(S:ByteArray)(w:Gr)(s:Option (List Nat))(i:GI)(d:List Nat):Prop where
 sc:∃p,Sn f S w p s
 own:w.ownsRow g.heap.size E 1 i (G d) (d.map F)
 only:gB f g w
 lt:f<g.heap.size
 few:G d+gP s<=200001
abbrev Bn:=Bg 5 (λa:Nat=>I .u8 (a:Int))
variable{E:TypeId}{F:Nat->GI}
def Bg.start(h:Sn f S w p s):Bg E F w f S w s (Z N 0 0) []:=
 ⟨⟨p,h⟩,aX _ _ _ _,gB.refl _ _,h.lt,by
  have:=h.ls;cases s with
  |none=>simp[gP]
  |some r=>have:=h.len;simp[gP];omega⟩
def Bg.step{t:Option (List Nat)}(h:Bg E F g f S w s i d)(k:jP f S w w' t)(a:gP t<=gP s):Bg E F g f S w' t i d:=
 ⟨k.1,uf h.own k.2 h.lt,h.only.t k.2,h.lt,by have:=h.few;omega⟩
def Bg.drewN(h:Bg E F g f S w s i d)(n:Nat):Bg E F g f S (w.drewN n) s i d:=by obtain⟨p,k⟩:=h.sc;exact h.step (k.toS.drewN n) (ag _)
def Bg.alloc(h:Bg E F g f S w s i d)(a:Obj):Bg E F g f S (w.alloc a) s i d:=by obtain⟨p,k⟩:=h.sc;exact h.step ⟨⟨p,k.other ((aq _ _).alloc (ag _) a)⟩,.of_below ((aq _ _).alloc (ag _) a)⟩ (ag _)
def Bg.sz(h:Bg E F g f S w s i d):g.heap.size<=w.heap.size:=h.only.size
def Bg.app(h:Bg E F g f S w s i d){j:GI}{xs:List Nat}{e:Nat}(m:e=G d+G xs)(n:w'.ownsRow g.heap.size E 1 j e ((d.map F)++(xs.map F)))(a:w.grownBy w' i.ownBlock)
  (o:G d+G xs+gP s<=200001):Bg E F g f S w' s j (d++xs):=by
 subst m;have c:=λk b=>a.block k (by have:=h.sz;omega) (CU h.own b);obtain⟨p,k⟩:=h.sc;refine⟨⟨p,⟨by rw[c _ h.lt];exact k.blk,k.lp,k.ls,k.rest⟩⟩,?_,?_,h.lt,by rw[ak];omega⟩;·rw[ak,bK];exact n
 ·exact⟨a.os.t h.only.os,a.tape.t h.only.tape,a.output.t h.only.output,aA h.sz a.size,λk b l=>(c k b).t (h.only.block k b l)⟩
def kV(f:Nat)(S:ByteArray){c:Type}(j:Gr->c->GI->Prop)(e:Gr->GI->Prop)(h:Option (c×List Nat))(w:Gr)(b:MB)(w':Gr):Prop:=match h with
 |some (a,q)=>∃v,b=Ps v/\j w' a v/\jP f S w w' (O q)
 |none=>∃v,b=Ps v/\e w' v/\jP f S w w' N
def kV.some_{b:Type}{e:Gr->b->GI->Prop}{j:Gr->GI->Prop}{c:Option (b×List Nat)}{a:b}{q:List Nat}{v:GI}(h:c=O (a,q))(l:e w' a v)(k:jP f S w w' (O q)):kV f S e j c w (Ps v) w':=by subst h;exact⟨v,rfl,l,k⟩
def kV.none_{α:Type}{e:Gr->α->GI->Prop}{a:Gr->GI->Prop}{b:Option (α×List Nat)}{v:GI}(h:b=N)(c:a w' v)(k:jP f S w w' N):kV f S e a b w (Ps v) w':=by subst h;exact⟨v,rfl,c,k⟩
def aS(_:Gr)(b:GI):Prop:=∃a:ByteArray,b=MV a/\a.size<=200001
def nP(a:Option (List Nat×List Nat))(d:List Nat)(s:Option (List Nat)):Prop:=match s with
 |some r=>jr d (gK 0 0 r)=a
 |none=>a=N
def namePart(b:Nat)(a:List Nat):Option (Nat×List Nat):=
 if b<33\/126<b then N else if b=35 then(two a).filter (λc=>c.1 != 0)else O (b,a)
def name_part{b:Nat}{j:List Nat}(l:pB b=PV):gK 0 0 (b::j)=(namePart b j).bind λa=>(gK 0 0 a.2).map λh=>(a.1::h.1,h.2):=by
 unfold namePart;simp only[gK,l,Bool.true_eq_false,if_false];by_cases h1:b<33\/126<b;·rw[ai h1,ai h1];rfl
 ·rw[ah h1,ah h1];by_cases h2:b=35
  ·rw[ai h2,ai h2];match j with
   | []=>rfl
   | [a]=>simp only[gK,two];cases gI a<;>rfl
   |a::h::r=>
    simp only[gK,two];cases gI a with
    |none=>rfl
    |some k=>
     simp only[];cases gI h with
     |none=>rfl
     |some c=>
      simp only[Option.filter];by_cases e:16*k+c=0;·rw[ai e,ah (by rw[e];decide)];rfl
      ·rw[ah e,ai (bne_iff_ne.2 e)];rfl
  ·rw[ah h2,ah h2];rfl
def nP.part{a:Option (List Nat×List Nat)}{b:Nat}{c:List Nat}(h:nP a d (O (b::c)))(l:pB b=PV):match namePart b c with
  |some (j,e)=>nP a (d++[j]) (O e)
  |none=>a=N:=by
 have h1:jr d (gK 0 0 (b::c))=a:=h;rw[name_part l]at h1;cases k:namePart b c with
 |none=>rw[k]at h1;exact h1.s
 |some m=>obtain⟨j,e⟩:=m;rw[k]at h1;show jr (d++[j]) (gK 0 0 e)=a;rw[<-vQ];exact h1
def two_len{r j:List Nat}{e:Nat}(h:two r=O (e,j)):G j+2=G r/\e<256:=by
 match r with
 | []=>cases h
 | [k]=>cases h
 |k::l::r=>
  simp only[two]at h;cases a:gI k with
  |none=>rw[a]at h;cases h
  |some m=>
   cases c:gI l with
   |none=>rw[a,c]at h;cases h
   |some b=>rw[a,c]at h;cases h;have:=vH a;have:=vH c;exact⟨eA,Y⟩
def Jm(h:Sn f S w p s):K8 Qe 225 #[M2 (O ⟨f,0,N⟩)] w (kV f S pZ aS (s.bind j7) w):=by
 obtain⟨i0,hi,br,bs,bt⟩:=bu infoByte;have a7:=H (Bg.start h:Bn w f S w s _ _);obtain⟨n,hR⟩:∃n,s.bind j7=n:=⟨_,rfl⟩;rw[hR];have j:L1 (nP n [] s):=by
  unfold Hid;rw[<-hR];cases s with
  |none=>rfl
  |some r=>show jr [] (gK 0 0 r)=gK 0 0 r;unfold jr;cases gK 0 0 r<;>simp
 go_in
 go_wp2;go_loopw [3] (λi wr=>∃(B:Option (List Nat)) (d:List Nat),L1 (Bn w f S wr B i d)/\L1 (nP n d B)) (λ_ wr=>mS f S wr)
 case atStart=>exact⟨s,[],a7,j⟩
 case round=>
  obtain⟨B,d,t,j⟩:=hrel;obtain⟨p,al⟩:=t.o.sc;have z:=H (Bp al);have HM:=H al.mS;have K:=H al;cases k:pS B with
  |false=>
   rw[k]at z;have bf:=λao=>yP (t.drewN ao).own;have a6:(ge d).size=G d:=by unfold ge;simp[ByteArray.size]
   have bw:=t.o.few;obtain⟨ad,hT⟩:∃ad,ge d=ad:=⟨_,rfl⟩;rw[hT]at bf a6;have HT:=H hT;go_wp2_with fail;apply z.o.m;rintro u w1 ⟨rfl,ao,rfl⟩;go_wp2;go_ret;have q:=t.o.drewN ao;match B,j,k,q with
   |none,j,_,q=>exact kV.none_ j ⟨ad,rfl,Y⟩ ⟨q.sc,q.only⟩
   |some [],j,_,q=>refine kV.some_ (a:=d) (q:=[]) ?_ (by rw[pZ,HT.o];rfl) ⟨q.sc,q.only⟩;have:=j.o;unfold nP at this;simp only[gK,jr,aZ,cF]at this;exact this.s
   |some (b::r),j,k,q=>refine kV.some_ (a:=d) (q:=b::r) ?_ (by rw[pZ,HT.o];rfl) ⟨q.sc,q.only⟩;have this:jr d (gK 0 0 (b::r))=n:=j.o;rw[nameS_end (q:=b::r) k]at this;simp only[jr,aZ,cF]at this;exact this.s
  |true=>
   match B,j,k,t,z,HM,K with
   |none,_,k,_,_,_,_=>cases k
   |some [],_,k,_,_,_,_=>cases k
   |some (b::r),j,k,t,z,HM,K=>
   rw[k]at z;have a2:=H (j.part k);have hb:=K.o.bytes b eA;go_wp2_with fail;apply z.o.m;rintro u w1 ⟨rfl,X,rfl⟩;have a1:=H (uk (K.drewN X));simp only[jO]at a1;go_wp2_with fail;apply a1.o.m;rintro u w1 ⟨rfl,m2,rfl⟩;have bc:=H (vK ((K.drewN X).drewN m2));have bb:=H ((t.drewN X).drewN m2);generalize (wr.drewN X).drewN m2=W2 at *;go_wp2_with fail;apply bc.o.m;rintro u w3 ⟨rfl,h3,o3⟩;have ac:=H (bb.step ⟨⟨_,h3⟩,o3⟩ pg);have H3:=H h3;simp only[aZ,List.tail_cons]at ac H3;have a8:=H (t.few)
   go_upto_region 7 with fail
   go_cut [21]from 6 to 36 (λtv P=>tv=OV (decide (b<33\/126<b))/\P=w3)
   case first=>
    by_cases h1:b<33
    ·have t1:decide ((b:Int)<33)=PV:=eB;go_wp2
     go_meet
     case rel=>exact⟨by simp[h1],rfl⟩
    ·have t1:decide ((b:Int)<33)=P2:=eB;have t2:decide ((126:Int)<(b:Int))=decide (b<33\/126<b):=by rw[cJ];omega
     go_wp2
     go_meet
     case rel=>exact⟨by simp[h1],rfl⟩
   case rest=>
   obtain⟨rfl,rfl⟩:=hcut
   go_upto_if 21 with fail
   go_cut [5]from 6 to 36 (λcv P=>cv=I U (b:Nat)/\∃C:Option (List Nat),L1 (Bn w f S P C u3 d)/\L1 (C=if b<33\/126<b then N else O r))
   case first=>
    by_cases x:b<33\/126<b
    ·have v:=H (qW H3);rw[aB x];go_wp2_with fail;apply v.o.m;rintro u w4 ⟨rfl,h4,o4⟩;have y:=H (ac.step ⟨⟨_,h4⟩,o4⟩ pg);go_wp2
     go_meet
     case rel=>exact⟨rfl,N,y,by unfold Hid;rw[ai x]⟩
    ·rw[ar x];go_wp2
     go_meet
     case rel=>exact⟨rfl,O r,ac,by unfold Hid;rw[ah x]⟩
   case rest=>
    obtain⟨rfl,t1,y,a3⟩:=hcut
    go_upto_if 25 with fail
    go_cut [5]from 6 to 36 (λcv P=>∃(c:Int) (C:Option (List Nat)),cv=I U c/\L1 (Bn w f S P C u3 d)/\gP C<=G r+1/\L1 (∃e:Nat,e<256/\IntKind.u8.wrap c=(e:Int)/\nP n (d++[e]) C))
    case first=>
     by_cases a5:b=35
     ·have t2:((b:Int)==35)=PV:=eB;have h2:=a3.o;have h1:=a2.o;unfold namePart at h1;rw[ah Y]at h1 h2;rw[ai a5]at h1;subst h2;have D:=H h1;obtain⟨p4,bo⟩:=y.o.sc;have L:=H (MS bo);simp only[Option.bind_some]at L;cases V:two r with
      |some a0=>
       obtain⟨l,M⟩:=a0;have bx:=two_len V;rw[V]at L D;go_wp2_with fail;apply L.o.m;rintro u w5 ⟨rfl,W⟩;have m:=H (y.step W pI);by_cases A:l=0
       ·have t3:((l:Int)==0)=PV:=eB;have J:L1 (n=N):=by have:=D.o;simp only[Option.filter,A]at this;exact this
        obtain⟨p5,T⟩:=m.o.sc;have v:=H (qW T);go_wp2_with fail;apply v.o.m;rintro u w6 ⟨rfl,R,o6⟩;have aa:=H (m.step ⟨⟨_,R⟩,o6⟩ pg);go_wp2
        go_meet
        case rel=>exact⟨_,N,rfl,aa,by simp[gP],⟨l,Y,by rw[cE];omega,J⟩⟩
       ·have t3:((l:Int)==0)=P2:=eB;have J:L1 (nP n (d++[l]) (O M)):=by have:=D.o;simp only[Option.filter,bne_iff_ne.2 A,if_true]at this;exact this
        go_wp2
        go_meet
        case rel=>exact⟨_,O M,rfl,m,by simp only[gP];omega,⟨l,Y,by rw[cE];omega,J⟩⟩
      |none=>
       rw[V]at L D;clear V;have J:L1 (n=N):=D.o;go_wp2_with fail;apply L.o.m;rintro u w5 ⟨⟨l,rfl,bz,b0⟩,W⟩;have m:=H (y.step W pg);clear W;have a4:L1 (∃e:Nat,e<256/\IntKind.u8.wrap l=(e:Int)/\nP n (d++[e]) N):=
        ⟨(IntKind.u8.wrap l).toNat,by rw[cE];omega,by rw[cE];omega,J⟩
       by_cases A:l=0
       ·have t3:(l==0)=PV:=by simp[A]
        obtain⟨p5,T⟩:=m.o.sc;have v:=H (qW T);clear T A;go_wp2_with fail;apply v.o.m;rintro u w6 ⟨rfl,R,o6⟩;have aa:=H (m.step ⟨⟨_,R⟩,o6⟩ pg);clear R o6;go_wp2
        go_meet
        case rel=>exact⟨_,N,rfl,aa,by simp[gP],a4⟩
       ·have t3:(l==0)=P2:=by simp[A]
        go_wp2
        go_meet
        case rel=>exact⟨_,N,rfl,m,by simp[gP],a4⟩
     ·have t2:((b:Int)==35)=P2:=eB;have Q:L1 (gP t1<=G r+1/\∃e:Nat,e<256/\IntKind.u8.wrap (b:Int)=(e:Int)/\nP n (d++[e]) t1):=by
       have h1:=a2.o;have h2:=a3.o;unfold namePart at h1;unfold Hid;by_cases x:b<33\/126<b
       ·rw[ai x]at h1 h2;subst h2;exact⟨by simp[gP],b,hb,by rw[cE];omega,h1⟩
       ·rw[ah x]at h1 h2;rw[ah a5]at h1;subst h2;exact⟨by simp[gP],b,hb,by rw[cE];omega,h1⟩
      go_wp2
      go_meet
      case rel=>exact⟨_,t1,rfl,y,Q.1,Q.2⟩
    case rest=>
     obtain⟨c,t2,rfl,m,bm,Q⟩:=hcut;obtain⟨e,hz,b1,v⟩:=Q.o;have ba:=H v;have bd:=a8.o;have a6:=m.o.sz;simp only[gP,aj]at bd;go_wp2_with (at_builtin;refine a_ _ rfl (.tmp 32) (.tmp 35) 23 rfl w.heap.size 5 i0 (I .u8 0) 1 1 bB hi br bs bt rfl cO u3 (G d) _ rfl (m.alloc _).own ⟨wc.heap.size,0,N⟩ 1 1 ([e].map λa0:Nat=>I .u8 (a0:Int)) rfl rfl (Bu.one_news e wc) ?hone ?h63 ?hby ?hbs ?_)
     case hone=>intro b2 hu;simp at hu;subst hu;rfl
     case h63=>unfold maxLen;omega
     case hby=>omega
     case hbs=>simp;omega
     intro v6 w6 bv bi _;have H6:=H ((m.alloc _).app (xs:=[e]) eA bv bi pf);obtain⟨p6,bq⟩:=H6.o.sc;have a9:=H bq.mS;go_wp2;go_roundw
     case rel=>exact⟨_,d++[e],H6,ba⟩
     case measure=>rw[HM.o,a9.o];simp only[gP,aj]at bm ⊢;omega
end
section
variable{y:Nat}{S:ByteArray}{w w' B:Gr}{p:Nat}{s:Option (List Nat)}{A:GI}{v:List Nat}
def sZ:List Nat->Int
 | []=> -1
 |a::_=>(a:Nat)
def pG(y:Nat)(S:ByteArray)(c:Option (List Nat×List Nat))(w:Gr)(b:MB)(w':Gr):Prop:=match c with
 |some (l,d)=>b=Ps (I U (sZ l))/\jP y S w w' (O d)
 |none=>(∃a:Int,b=Ps (I U a) /\ -1000<=a/\a<=1000)/\jP y S w w' N
def pG.some_{a:Option (List Nat×List Nat)}{l q:List Nat}(h:a=O (l,q))(k:jP y S w w' (O q)):pG y S a w (Ps (I U (sZ l))) w':=by subst h;exact⟨rfl,k⟩
def pG.none_{a:Option (List Nat×List Nat)}{n:Int}(h:a=N)(h1 : -1000<=n/\n<=1000)(k:jP y S w w' N):pG y S a w (Ps (I U n)) w':=by subst h;exact⟨⟨n,rfl,h1⟩,k⟩
def vp(s:Option (List Nat)):Bool:=match s with
 |some r=>oH r
 |none=>P2
def CP(s:Option (List Nat)):vp s=(decide (48<=jO s)&&decide (jO s<=55)):=by
 match s with
 |none=>rfl
 |some []=>rfl
 |some (b::r)=>show(decide (48<=b)&&decide (b<=55))=(decide ((48:Int)<=(b:Int))&&decide ((b:Int)<=55));rw[bC];simp only[bN,bT];omega
def rJ(k a:Nat)(s:Option (List Nat)):Nat×Option (List Nat):=match s with
 |some r=>((jZ k a r).1,O (jZ k a r).2)
 |none=>(a,N)
def M7{k a:Nat}(h:k=0\/vp s=P2):rJ k a s=(a,s):=by
 cases s with
 |none=>rfl
 |some r=>
  unfold rJ;cases k with
  |zero=>simp[jZ]
  |succ k=>
   rcases h with h|h;·cases h
   ·have:oH r=P2:=h;simp[jZ,this]
def xR{k a:Nat}(h:vp s=PV):rJ (k+1) a s=rJ k (8*a+(jO s-48).toNat) (s.map List.tail):=by
 match s with
 |none=>cases h
 |some []=>cases h
 |some (b::r)=>have h1:oH (b::r)=PV:=h;simp only[rJ,jZ,h1,if_true,aZ,List.tail_cons,List.headD_cons,jO];have:((b:Int)-48).toNat=b-48:=Y;rw[this]
def et(a:Nat)(h:a<8):jv (nth (bl {data:=#[110,114,116,98,102,40,41,92]}) a)=O (nth (bl {data:=#[10,13,9,8,12,40,41,92]}) a):=by have:∀a:Nat,a<8->jv (nth (bl {data:=#[110,114,116,98,102,40,41,92]}) a)=O (nth (bl {data:=#[10,13,9,8,12,40,41,92]}) a):=cO;exact this a h
def LJ{b:Nat}(h:∀g:Nat,g<8->nth (bl {data:=#[110,114,116,98,102,40,41,92]}) g≠b):jv b=N:=by have a:=h 0 Y;have h1:=h 1 Y;have h2:=h 2 Y;have h3:=h 3 Y;have c:=h 4 Y;have d:=h 5 Y;have e:=h 6 Y;have f:=h 7 Y;have i:bl {data:=#[110,114,116,98,102,40,41,92]}=[110,114,116,98,102,40,41,92]:=rfl;rw[i]at a h1 h2 h3 c d e f;simp[nth]at a h1 h2 h3 c d e f;unfold jv;rw[ah Y,ah Y,ah Y,ah Y,ah Y,ah Y]
def KQ(h1:l7 s=P2)(h2:vp s=PV){a:Nat}{c:Option (List Nat)}(h3:rJ 3 0 s=(a,c)):(a<=255->∃b,c=O b/\s.bind iG=O ([a],b))/\(255<a->s.bind iG=N):=by
 cases s with
 |none=>cases h2
 |some r=>
  have d:gJ r=N:=by
   cases i:gJ r with
   |none=>rfl
   |some j=>unfold l7 at h1;simp[i]at h1
  have e:oH r=PV:=h2;unfold rJ at h3;simp only[Prod.mk.injEq]at h3;obtain⟨h3,f⟩:=h3;have g:iG r=if(jZ 3 0 r).1<=255 then O ([(jZ 3 0 r).1],(jZ 3 0 r).2)else N:=by unfold iG;rw[d];show(if oH r=PV then _ else _)=_;rw[ai e];rfl
  show(_->∃b,_/\iG r=_)/\(_->iG r=_);rw[g];subst h3;exact⟨λh=>⟨_,f.s,by rw[ai h]⟩,λh=>by rw[ah Y]⟩
def Cp(s:Option (List Nat)):Option (List Nat×List Nat):=match s with
 |some (b::r)=>(jv b).map λc=>([c],r)
 |_=>N
def KP(h1:l7 s=P2)(h2:vp s=P2):s.bind iG=Cp s:=by
 match s with
 |none=>rfl
 |some []=>rfl
 |some (b::r)=>
  have a:gJ (b::r)=N:=by
   cases e:gJ (b::r)with
   |none=>rfl
   |some f=>unfold l7 at h1;simp[e]at h1
  have d:oH (b::r)=P2:=h2;show iG (b::r)=(jv b).map λc=>([c],r);unfold iG;rw[a];show(if oH (b::r)=PV then _ else _)=_;rw[ah (by rw[d];decide)];show(match jv b with|none=>N|some c=>O ([c],r))=_;cases jv b<;>rfl
def MO(h:Sn y S w p s):K8 Qe 285 #[M2 (O ⟨y,0,N⟩)] w (pG y S (s.bind iG) w):=by
 obtain⟨ad,hR⟩:∃ad,s.bind iG=ad:=⟨_,rfl⟩;rw[hR];have T:=H (Ep h);cases x:l7 s with
 |true=>
  have HE:L1 (∃t,ad=O ([],t)/\lK s=O t):=by
   unfold Hid;cases s with
   |none=>cases x
   |some r=>
    cases Q:gJ r with
    |none=>unfold l7 at x;simp[Q]at x
    |some t=>exact⟨t,by rw[<-hR];simp[iG,Q],by unfold lK;simp[Q]⟩
  rw[x]at T;clear h hR
  go_in
  go_wp2_with fail;apply T.o.m;rintro f w1 ⟨rfl,k1⟩;go_wp2;go_ret;obtain⟨t,h1,h2⟩:=HE.o;rw[h2]at k1;exact pG.some_ h1 k1
 |false=>
  have bi:L1 (lK s=s):=by
   unfold Hid lK;cases s with
   |none=>rfl
   |some r=>
    cases Q:gJ r with
    |none=>simp[Q]
    |some t=>unfold l7 at x;simp[Q]at x
  rw[x,bi.o]at T;have a0:=H (λ(h2:vp s=PV) (D:Nat) (E:Option (List Nat)) (h3:rJ 3 0 s=(D,E))=>KQ x h2 h3);have al:=H (λh2=>KP x h2);rw[hR]at a0 al;obtain⟨D,E,br⟩:∃D E,rJ 3 0 s=(D,E):=⟨_,_,rfl⟩;have W:=H br;clear h x hR bi br;obtain⟨n,hM⟩:∃n:ByteArray,n={data:=#[110,114,116,98,102,40,41,92]}:=⟨_,rfl⟩;obtain⟨L,a4⟩:∃L:ByteArray,L={data:=#[10,13,9,8,12,40,41,92]}:=⟨_,rfl⟩;have HY:=H et;have HN:=H (λb=>@LJ b);rw[<-hM]at HY HN;rw[<-a4]at HY;have bc:n.size=8:=by rw[hM];rfl
  have bd:L.size=8:=by rw[a4];rfl
  have bq:=H (And.intro bc bd);clear bc bd
  go_in
  rw[<-hM,<-a4];clear hM a4;go_wp2_with fail;apply T.o.m;rintro f w1 ⟨rfl,⟨p1,h1⟩,o1⟩;have z:=H (uk h1);have H1:=H h1;have O1:=H o1;have b9:=CI s;have b7:=h1.now;clear h1 o1 T;go_wp2_with fail;apply z.o.m;rintro f w2 ⟨rfl,m2,rfl⟩;have H2:=H (H1.drewN m2);have O2:=H (O1.drewN m2);generalize w1.drewN m2=W2 at *;clear z H1 O1;have g:=H (show jO s=jO s from rfl);go_wp2_with fail;go_loopw [5,6] (λnv kv wr=>∃(e k p3:Nat) (a:Option (List Nat)),nv=I U (e:Nat)/\kv=I U (k:Nat)/\k<=3/\e<8^k/\L1 (Sn y S wr p3 a)/\L1 (gB y w wr)/\L1 (rJ (3-k) e a=(D,E))/\L1 (k=0->a=s)/\L1 (0<k->vp s=PV)) (λ_ _ wr=>mS y S wr)
  case atStart=>exact⟨0,0,p1,s,rfl,rfl,Y,Y,H2,O2,W,λ_=>rfl,λh=>absurd h Y⟩
  case round=>
   obtain⟨e,k,p3,a,rfl,rfl,hk,hn,u,X,HQ,a2,a3⟩:=hrel;have z:=H (uk u);have HM:=H u.mS;have ca:=CI a;have b8:=u.o.now;by_cases i:k<3/\vp a=PV
   ·have J:=i.2;rw[CP,bN,bT,bT]at J;have a8:L1 (rJ (3-(k+1)) (8*e+(jO a-48).toNat) (a.map List.tail)=(D,E)):=by unfold Hid;rw[<-HQ.o,show 3-k=(3-(k+1))+1 by omega,xR i.2]
    have b2:L1 (vp s=PV):=by
     rcases eg k with F|F
     ·have:=a2.o F;unfold Hid;rw[<-this];exact i.2
     ·exact a3 F
    have bb:8^k<=64:=by
     have:k<=2:=Y;calc 8^k<=8^2:=aJ Y this
      _=64:=rfl
    have bt:gP (a.map List.tail)<gP a:=by
     match a,i.2 with
     |none,h=>cases h
     |some [],h=>cases h
     |some (b::r),_=>simp[gP]
    have ba:8*e+(jO a-48).toNat<8^(k+1):=Y;have a5:=H ba;have t1:decide ((k:Int)<3)=PV:=eB;obtain⟨q,a9⟩:∃q:Nat,jO a=(q:Int):=⟨(jO a).toNat,Y⟩;rw[a9]at z a8 a5 J ba;rw[show((q:Int)-48).toNat=q-48 by omega]at a8 a5;have t2:decide ((48:Int)<=(q:Int))=PV:=eB;have t3:decide ((q:Int)<=(55:Int))=PV:=eB;have cj:e<64:=Y;have b1:=H (show(8*(e:Int)+(q:Int)-48=((8*e+(q-48):Nat):Int))by omega);have bw:=H i;have bz:=H bt;have bs:=a9;clear i a9 bb bt ba ca b8;have bf:=H bs;clear bs;go_wp2_with fail;apply z.o.m;rintro f w3 ⟨rfl,m,rfl⟩;have V:=H (uk (u.drewN m));rw[bf.o]at V;go_wp2_with fail;apply V.o.m;rintro f w3 ⟨rfl,M,rfl⟩;have aa:=H ((u.drewN m).drewN M);have C:=H ((X.drewN m).drewN M);generalize (wr.drewN m).drewN M=W4 at *;have a7:=H (uk aa);rw[bf.o]at a7;go_wp2_with fail;apply a7.o.m;rintro f w3 ⟨rfl,m5,rfl⟩;have ac:=H (vK (aa.drewN m5));have O3:=H (C.drewN m5);generalize W4.drewN m5=W3 at *;clear z V a7 C aa;go_wp2_with fail;apply ac.o.m;rintro f w4 ⟨rfl,P,o4⟩;have b0:=H P.mS;have R:=H P;have C:=H (O3.t o4);clear P o4 ac O3;go_wp2;go_roundw
    case rel=>exact⟨8*e+(q-48),k+1,_,a.map List.tail,by rw[<-b1.o],rfl,by have:=bw.o.1;omega,a5,R,C,a8,λh=>absurd h Y,λ_=>b2⟩
    case measure=>rw[HM.o,b0.o];exact bz
   ·have HX:L1 (D=e/\E=a):=by
     have:=HQ.o;rw[M7 (by
      rcases bU k 3 with h|h;·exact P4 (by cases h2:vp a with|false=>rfl|true=>exact absurd ⟨h,h2⟩ i)
      ·exact P3 Y)]at this
     cases this;exact⟨rfl,rfl⟩
    have bm:=W.o
    go_upto_region 7 with fail
    go_cut [24]from 13 to 34 (λtv wx=>tv=OV P2/\L1 (Sn y S wx p3 a)/\L1 (gB y w wx))
    case first=>
     rcases bU k 3 with h3|h3
     ·have t1:decide ((k:Int)<3)=PV:=eB;have J:vp a=P2:=by cases h2:vp a with|false=>rfl|true=>exact absurd ⟨h3,h2⟩ i
      rw[CP]at J;clear i;by_cases b6:48<=jO a
      ·have t2:decide ((48:Int)<=jO a)=PV:=eB;have t3:decide (jO a<=(55:Int))=P2:=by simpa[b6]using J
       go_wp2_with fail;apply z.o.m;rintro f w3 ⟨rfl,m,rfl⟩;have V:=H (uk (u.drewN m));go_wp2_with fail;apply V.o.m;rintro f w3 ⟨rfl,M,rfl⟩;have aa:=H ((u.drewN m).drewN M);have C:=H ((X.drewN m).drewN M);generalize (wr.drewN m).drewN M=W4 at *;go_wp2
       go_meet
       case rel=>exact⟨rfl,aa,C⟩
      ·have t2:decide ((48:Int)<=jO a)=P2:=eB;go_wp2_with fail;apply z.o.m;rintro f w3 ⟨rfl,m,rfl⟩;go_wp2
       go_meet
       case rel=>exact⟨rfl,u.drewN m,X.drewN m⟩
     ·have t1:decide ((k:Int)<3)=P2:=eB;go_wp2
      go_meet
      case rel=>exact⟨rfl,u,X⟩
    case rest=>
     obtain⟨rfl,a1,ao⟩:=hcut;clear u X z HM;rcases eg k with F|F
     ·have bv:=a2.o F;have J:vp s=P2:=by
       cases h2:vp s with
       |false=>rfl
       |true=>exact absurd ⟨Y,by rw[bv];exact h2⟩ i
      have bo:=H (al J);subst bv;subst F;clear i J a2 a3 HX HQ al a0 W bm g hn;have ac:=H (vK a1);have bc:=bq.o.1;have bd:=bq.o.2;go_wp2_with fail;apply ac.o.m;rintro f w4 ⟨rfl,P,o4⟩;have R:=H P;have C:=H (ao.t o4);clear P o4 ac ao;obtain⟨c,hc⟩:∃c,jO a=c:=⟨_,rfl⟩;rw[hc];rw[hc]at b9 b7;have g:=H hc;clear hc;go_wp2_with fail;go_loopw [7] (λiv wr=>∃d:Nat,d<=8/\iv=I U (d:Nat)/\wr=w4/\L1 (∀j,j<d->(nth (bl n) j:Int)≠c)) (λiv _=>8-(intOf iv).toNat)
      case atStart=>exact⟨0,Y,rfl,rfl,λj hj=>absurd hj (Nat.not_lt_zero _)⟩
      case round=>
       obtain⟨d,hi,rfl,rfl,HI⟩:=hrel;rcases aV hi with b4|cb
       ·have K:L1 (ad=N):=by
         unfold Hid;rw[bo.o];match a,g with
         |none,_=>rfl
         |some [],_=>rfl
         |some (b::r),g=>have:=HN.o b (λj hj f=>HI j Y (by rw[f];exact g));simp[Cp,this]
        have q:decide ((d:Int)<8)=P2:=eB;clear b4;have a6:=H (qW R);go_wp2_with fail;apply a6.o.m;rintro f w5 ⟨rfl,h5,o5⟩;go_wp2;go_ret;exact pG.none_ K ⟨Y,Y⟩ ⟨⟨_,h5⟩,C.t o5⟩
       ·have q:decide ((d:Int)<8)=PV:=eB;have hx:=s8 n d Y;have ce:=lN n d Y;have ck:=s8 L d Y;have cd:=lN L d Y;have cg:(d:Int)<n.size:=Y;have ch:(d:Int)<L.size:=Y;have b3:=H (HY d cb);cases he:(c==(nth (bl n) d:Int))with
        |true=>
         have K:L1 (∃t,ad=O ([nth (bl L) d],t)/\a.map List.tail=O t):=by
          unfold Hid;rw[bo.o];have cf:c=(nth (bl n) d:Int):=by simpa using he
          match a,g with
          |none,g=>have:=g.o;simp only[jO]at this;omega
          |some [],g=>have:=g.o;simp only[jO]at this;omega
          |some (b::r),g=>
           have hb:b=nth (bl n) d:=by have:=g.o;simp only[jO]at this;omega
           refine⟨r,?_,rfl⟩;show(jv b).map _=_;rw[hb,b3.o];rfl
         clear HI;go_wp2;go_ret;obtain⟨t,h1,h2⟩:=K.o;rw[h2]at R;exact pG.some_ h1 ⟨⟨_,R⟩,C⟩
        |false=>
         have bx:L1 (∀j,j<d+1->(nth (bl n) j:Int)≠c):=λj hj=>by
          by_cases h:j<d;·exact HI j h
          ·have:j=d:=Y;subst this;intro cc;simp at he;exact he cc.s
         go_wp2;go_roundw
         case rel=>exact⟨d+1,Y,rfl,trivial,bx⟩
         case measure=>simp[intOf];omega
     ·obtain⟨e1,e2⟩:=HX.o;have HB:=H (a0 (a3 F) D E W);rw[e1,e2]at HB;have bb:8^k<=512:=by
       calc 8^k<=8^3:=aJ Y hk
        _=512:=rfl
      have ci:e<512:=Y;have t1:decide ((0:Int)<(k:Int))=PV:=eB;clear HX HQ al a0 W bm a2 a3 i e1 e2 hn bb;by_cases b5:e<=255
      ·have t2:decide ((255:Int)<(e:Int))=P2:=eB;have K:=H (HB.1 b5);go_wp2;go_ret;obtain⟨t,h1,h2⟩:=K.o;rw[h1]at a1;exact pG.some_ (l:=[e]) h2 ⟨⟨_,a1⟩,ao⟩
      ·have t2:decide ((255:Int)<(e:Int))=PV:=eB;have K:=H (HB.2 Y);have a6:=H (qW a1);go_wp2_with fail;apply a6.o.m;rintro f w5 ⟨rfl,h5,o5⟩;go_wp2;go_ret;exact pG.none_ K ⟨Y,Y⟩ ⟨⟨_,h5⟩,ao.t o5⟩
def nJ(a:Option (List Nat×List Nat))(v:List Nat)(c:Nat)(s:Option (List Nat)):Prop:=match s with
 |some r=>∃b,G r<b/\jr v (iC b c r)=a
 |none=>a=N
def nJ.nil{c:Option (List Nat×List Nat)}{f:Nat}(h:nJ c v f s)(d:jO s<0):c=N:=by
 match s,h with
 |none,h=>exact h
 |some [],h=>obtain⟨a,e,h⟩:=h;obtain⟨a,rfl⟩:∃g,a=g+1:=⟨a-1,by simp at e;omega⟩;rw[<-h];rfl
 |some (b::r),_=>simp only[jO]at d;omega
def nJ.line{d:Option (List Nat×List Nat)}{e:Nat}(h:nJ d v e s)(c:l7 s=PV):nJ d (v++[10]) e (lK s)/\gP (lK s)<gP s:=by
 cases s with
 |none=>cases c
 |some r=>
  cases b:gJ r with
  |none=>unfold l7 at c;simp[b]at c
  |some q=>
   obtain⟨a,i,h⟩:=h;obtain⟨a,rfl⟩:∃f,a=f+1:=⟨a-1,Y⟩;have j:=Bl b;have g:lK (O r)=O q:=by unfold lK;simp[b]
   rw[g];refine⟨⟨a,Y,?_⟩,by simp only[gP];omega⟩;rw[<-h,<-EZ];simp only[iC,b];rfl
def strPart(a b:Nat)(c:List Nat):Option (Nat×List Nat×List Nat):=
 if b=92 then(iG c).map λd=>(a,d.1,d.2)else if b=40 then O (a+1,[b],c)else if b=41 then O (a-1,[b],c)else O (a,[b],c)
def nJ.part{e:Option (List Nat×List Nat)}{c b:Nat}{d:List Nat}(h:nJ e v c (O (b::d)))(m:l7 (O (b::d))=P2)(x:1<=c):match strPart c b d with
  |none=>e=N
  |some (o,n,i)=>if o=0 then e=O (v,d)else nJ e (v++n) o (O i):=by
 obtain⟨a,t,h⟩:=h;obtain⟨a,rfl⟩:∃r,a=r+1:=⟨a-1,Y⟩;have g:gJ (b::d)=N:=by
  cases g:gJ (b::d)with
  |none=>rfl
  |some q=>unfold l7 at m;simp[g]at m
 simp only[iC,g]at h;simp only[aj]at t;unfold strPart;by_cases l:b=92
 ·rw[ai l]at h ⊢;cases f:iG d with
  |none=>rw[f]at h;exact h.s
  |some q=>
   obtain⟨n,i⟩:=q;rw[f]at h;have u:=Cb f;show if c=0 then _ else _
   rw[ah Y];exact⟨a,by show (G i)<a;omega,by rw[<-h,<-EZ]⟩
 ·rw[ah l]at h ⊢;by_cases j:b=40
  ·rw[ai j]at h ⊢;show if c+1=0 then _ else _
   rw[ah Y];exact⟨a,Y,by rw[<-h,vQ]⟩
  ·rw[ah j]at h ⊢;by_cases k:b=41
   ·rw[ai k]at h ⊢;show if c-1=0 then _ else _
    by_cases h1:c=1
    ·rw[ai h1]at h;rw[ai Y];rw[<-h];simp[jr]
    ·rw[ah h1]at h;rw[ah Y];exact⟨a,Y,by rw[<-h,vQ]⟩
   ·rw[ah k]at h ⊢;show if c=0 then _ else _
    rw[ah Y];exact⟨a,Y,by rw[<-h,vQ]⟩
def Lb{r e j:List Nat}(h:iG r=O (e,j))(d:∀g∈r,g<256):e=[]\/∃i,i<256/\e=[i]:=by
 unfold iG at h;cases f:gJ r with
 |some g=>rw[f]at h;cases h;exact P3 rfl
 |none=>
  rw[f]at h;simp only[]at h;split at h
  ·split at h;·next h1=>cases h;exact P4 ⟨_,Y,rfl⟩
   ·cases h
  ·match r,h,d with
   | [],h,_=>cases h
   |b::k,h,d=>
    simp only[]at h;cases a:jv b with
    |none=>rw[a]at h;cases h
    |some c=>
     rw[a]at h;cases h;refine P4 ⟨c,?_,rfl⟩;have:=d b eA;unfold jv at a;repeat' split at a
     all_goals (cases a;try omega)
def mP(d:Option (List Nat×List Nat))(v r:List Nat)(a:Nat)(c:Int)(b:Option (List Nat)):Prop:=
 gP b<=G r+1/\∃e:Nat,e<256/\(0<=c->IntKind.u8.wrap c=(e:Int))/\(a=0->d=O (v,r)/\b=O r)/\(a≠0->0<=c->nJ d (v++[e]) a b)/\(a≠0->c<0->nJ d v a b)
def mP.byte{a:Option (List Nat×List Nat)}{r:List Nat}{d b:Nat}(e:b<256)(h:if d=0 then a=O (v,r)else nJ a (v++[b]) d (O r)):mP a v r d (b:Nat) (O r):=
 ⟨ag _,b,e,λ_=>by rw[cE];omega,λc=>by rw[ai c]at h;exact⟨h,rfl⟩,λc _=>by rw[ah c]at h;exact h,λ_ f=>Y⟩
def mP.none_{a:Option (List Nat×List Nat)}{r:List Nat}{b:Nat}{c:Int}(e:1<=b)(h:a=N):mP a v r b c N:=
 ⟨by simp[gP],(IntKind.u8.wrap c).toNat,by rw[cE];omega,λ_=>by rw[cE];omega,λd=>Y,λ_ _=>h,λ_ _=>h⟩
def mP.beh{f:Option (List Nat×List Nat)}{r b e:List Nat}{d:Nat}(k:1<=d)(i:b=[]\/∃c,c<256/\b=[c])(l:G e<=G r)(h:nJ f (v++b) d (O e)):mP f v r d (sZ b) (O e):=by
 rcases i with rfl|⟨c,j,rfl⟩;·refine⟨by simp only[gP];omega,0,Y,λa=>absurd a cO,λa=>Y,λ_ a=>absurd a cO,λ_ _=>by rw[cF]at h;exact h⟩
 ·refine⟨by simp only[gP];omega,c,j,λ_=>by simp only[sZ];rw[cE];omega,λa=>Y,λ_ _=>h,λ_ g=>by simp only[sZ]at g;omega⟩
def KM{a:List Nat}(c:a=[]\/∃b,b<256/\a=[b]) : -1<=sZ a/\sZ a<256:=by
 rcases c with rfl|⟨b,d,rfl⟩;·decide
 ·simp only[sZ];omega
def xQ(h:Sn y S w p s):K8 Qe 227 #[M2 (O ⟨y,0,N⟩)] w (kV y S pZ aS (s.bind j3) w):=by
 obtain⟨i0,hi,bm,bo,bq⟩:=bu infoByte;have a8:=H (Bg.start h:Bn w y S w s _ _);obtain⟨l,hR⟩:∃l,s.bind j3=l:=⟨_,rfl⟩;rw[hR];have k:L1 (nJ l [] 1 s):=by
  unfold Hid;rw[<-hR];cases s with
  |none=>rfl
  |some r=>refine⟨G r+1,Y,?_⟩;show jr [] (iC (G r+1) 1 r)=j3 r;unfold jr j3;cases iC (G r+1) 1 r<;>simp
 go_in
 go_wp2;go_loopw [3,4] (λA dv wr=>∃(n:Option (List Nat)) (v:List Nat) (a:Nat),dv=I U (a:Nat)/\1<=a/\a+gP n<=300000/\L1 (Bn w y S wr n A v)/\L1 (nJ l v a n)) (λ_ _ wr=>mS y S wr)
 case atStart=>refine⟨s,[],1,rfl,Y,?_,a8,k⟩;have:=a8.o.few;omega
 case round=>
  obtain⟨n,v,a,rfl,ho,a4,t,k⟩:=hrel;obtain⟨p,a5⟩:=t.o.sc;have q:=H (uk a5);have F:=H a5.mS;have L:=H a5;by_cases f:jO n<0
  ·have al:=H (k.o.nil f);have t1:decide (jO n<0)=PV:=eB;go_wp2_with fail;apply q.o.m;rintro m w1 ⟨rfl,z,rfl⟩;have bt:=H (qW (L.o.drewN z));go_wp2_with fail;apply bt.o.m;rintro m w2 ⟨rfl,h2,o2⟩;go_wp2;go_ret;exact kV.none_ al.o ⟨_,rfl,by simp[ByteArray.size]⟩ ⟨⟨_,h2⟩,(t.o.only.drewN z).t o2⟩
  ·match n,f,t,k,q,F,L,a4 with
   |none,f,_,_,_,_,_,_=>exact absurd cO f
   |some [],f,_,_,_,_,_,_=>exact absurd cO f
   |some (b::r),f,t,k,q,F,L,a4=>
   have hb:=L.o.bytes b eA;have t1:decide ((b:Int)<0)=P2:=eA;have b1:=t.o.few;simp only[jO]at q;go_wp2_with fail;apply q.o.m;rintro m w1 ⟨rfl,z,rfl⟩;have X:=H (Ep (L.o.drewN z));have a9:=H (t.o.drewN z);generalize wr.drewN z=W1 at *;cases u:l7 (O (b::r))with
   |true=>
    have ad:=H (k.o.line u);rw[u]at X;go_wp2_with fail;apply X.o.m;rintro m w2 ⟨rfl,k2⟩;have K:=H (a9.o.step k2 (ew ad.o.2));have a0:=ad.o.2;have bw:=H ad.o.1;have b2:=K.o.sz;generalize lK (O (b::r))=t2 at *;go_wp2_with (at_builtin;refine a_ _ rfl (.tmp 16) (.tmp 17) 23 rfl w.heap.size 5 i0 (I .u8 0) 1 1 bB hi bm bo bq rfl cO u3 (G v) _ rfl (K.o.alloc _).own ⟨w2.heap.size,0,N⟩ 1 1 ([10].map λW:Nat=>I .u8 (W:Int)) rfl rfl (Bu.one_news 10 w2) ?hone ?h63 ?hby ?hbs ?_)
    case hone=>intro b4 T;simp at T;subst T;rfl
    case h63=>unfold maxLen;omega
    case hby=>omega
    case hbs=>simp;omega
    intro v6 w6 a6 ao _;have C:=H ((K.o.alloc _).app (xs:=[10]) eA a6 ao pf);obtain⟨p6,R⟩:=C.o.sc;have J:=H R.mS;go_wp2;go_roundw
    case rel=>exact⟨t2,v++[10],a,rfl,ho,Y,C,bw⟩
    case measure=>rw[F.o,J.o];exact a0
   |false=>
    have e:=H (k.o.part u ho);have bs:L1 (lK (O (b::r))=O (b::r)):=by
     cases hq:gJ (b::r)with
     |none=>unfold Hid lK;simp[hq]
     |some a7=>unfold l7 at u;simp[hq]at u
    rw[u,bs.o]at X;go_wp2_with fail;apply X.o.m;rintro m w2 ⟨rfl,⟨p2,h2⟩,o2⟩;have bz:=H (vK h2);have K:=H (a9.o.step ⟨⟨p2,h2⟩,o2⟩ (ag _));go_wp2_with fail;apply bz.o.m;rintro m w3 ⟨rfl,h3,o3⟩;have j:=H (K.o.step ⟨⟨_,h3⟩,o3⟩ pg);simp only[aZ,List.tail_cons]at j
    go_upto_block 2 with fail
    go_cut [4,5]from 7 to 44 (λdv cv wx=>∃(i:Nat) (c:Int) (t':Option (List Nat)),dv=I U (i:Nat)/\cv=I U c/\i<=a+1 /\ -1000<=c/\c<=1000/\L1 (Bn w y S wx t' u3 v)/\L1 (mP l v r i c t'))
    case first=>
     unfold strPart at e;by_cases P:b=92
     ·have o:=H (e.o);rw[ai P]at o;have a1:((b:Int)==40)=P2:=eB;have a2:((b:Int)==41)=P2:=eB;have a3:((b:Int)==92)=PV:=eB;obtain⟨p3,bf⟩:=j.o.sc;have D:=H (MO bf);have br:=H bf.bytes;simp only[Option.bind_some]at D;cases Q:iG r with
      |some W=>
       obtain⟨b3,a7⟩:=W;rw[Q]at D o;have x:=Lb Q br.o;have b8:=Cb Q;have g:L1 (mP l v r a (sZ b3) (O a7)):=by have:=o.o;simp only[aZ]at this;rw[ah Y]at this;exact mP.beh ho x Y this
       have b5:=KM x;go_wp2_with fail;apply D.o.m;rintro m w4 ⟨rfl,V⟩;have d:=H (j.o.step V pI);clear V;go_wp2
       go_meet
       case rel=>exact⟨a,_,O a7,rfl,rfl,Y,Y,Y,d,g⟩
      |none=>
       rw[Q]at D o;have al:L1 (l=N):=o.o;clear Q o;go_wp2_with fail;apply D.o.m;rintro m w4 ⟨⟨cd,rfl,b9,ca⟩,V⟩;have d:=H (j.o.step V pg);clear V;go_wp2
       go_meet
       case rel=>exact⟨a,_,N,rfl,rfl,Y,Y,Y,d,mP.none_ ho al.o⟩
     ·rw[ah P]at e;have a3:((b:Int)==92)=P2:=eB;by_cases M:b=40
      ·rw[ai M]at e;have a1:((b:Int)==40)=PV:=eB;have g:=H (mP.byte hb e.o);clear M P;go_wp2
       go_meet
       case rel=>exact⟨a+1,_,O r,rfl,rfl,Y,Y,Y,j,g⟩
      ·rw[ah M]at e;have a1:((b:Int)==40)=P2:=eB;by_cases aa:b=41
       ·rw[ai aa]at e;have a2:((b:Int)==41)=PV:=eB;have g:=H (mP.byte hb e.o);have bv:=H (show(a:Int)-1=((a-1:Nat):Int)by omega);clear M P aa;go_wp2
        go_meet
        case rel=>exact⟨a-1,_,O r,by rw[<-bv.o],rfl,Y,Y,Y,j,g⟩
       ·rw[ah aa]at e;have a2:((b:Int)==41)=P2:=eB;have g:=H (mP.byte hb e.o);clear M P aa;go_wp2
        go_meet
        case rel=>exact⟨a,_,O r,rfl,rfl,Y,Y,Y,j,g⟩
    case rest=>
     obtain⟨i,c,t2,rfl,rfl,cb,b6,b7,d,g⟩:=hcut;clear j e k q;obtain⟨a0,ac,hz,bi,bb,bc,bd⟩:=g.o;have E:=H a0;simp only[gP,aj]at b1 a4;by_cases h0:i=0
     ·obtain⟨hr,rfl⟩:=bb h0;have bx:=H hr;have a1:((i:Int)==0)=PV:=eB;have b0:=yP d.o.own;obtain⟨ba,hT⟩:∃ba,ge v=ba:=⟨_,rfl⟩;rw[hT]at b0;have HT:=H hT;clear hT bc bd hr bi bb h0;go_wp2;go_ret;exact kV.some_ bx.o (by rw[pZ,HT.o];rfl) ⟨d.o.sc,d.o.only⟩
     ·have a1:((i:Int)==0)=P2:=eB;by_cases f:0<=c
      ·have a2:decide ((0:Int)<=c)=PV:=eB;have cc:=bi f;have HN:=H (bc h0 f);have b2:=d.o.sz;go_wp2_with (at_builtin;refine a_ _ rfl (.tmp 40) (.tmp 43) 23 rfl w.heap.size 5 i0 (I .u8 0) 1 1 bB hi bm bo bq rfl cO u3 (G v) _ rfl (d.o.alloc _).own ⟨wc.heap.size,0,N⟩ 1 1 ([ac].map λW:Nat=>I .u8 (W:Int)) rfl rfl (Bu.one_news ac wc) ?hone ?h63 ?hby ?hbs ?_)
       case hone=>intro b4 T;simp at T;subst T;rfl
       case h63=>unfold maxLen;omega
       case hby=>omega
       case hbs=>simp;omega
       intro v6 w6 a6 ao _;have C:=H ((d.o.alloc _).app (xs:=[ac]) eA a6 ao (by have:=E.o;simp only[aj,aI];omega));obtain⟨p6,R⟩:=C.o.sc;have J:=H R.mS;go_wp2;go_roundw
       case rel=>exact⟨t2,v++[ac],i,rfl,Y,by have:=E.o;omega,C,HN⟩
       case measure=>have:=E.o;rw[F.o,J.o];simp only[gP,aj]at this ⊢;omega
      ·have a2:decide ((0:Int)<=c)=P2:=eB;have HN:=H (bd h0 Y);obtain⟨p6,R⟩:=d.o.sc;have J:=H R.mS;go_wp2;go_roundw
       case rel=>exact⟨t2,v,i,rfl,Y,by have:=E.o;omega,d,HN⟩
       case measure=>have:=E.o;rw[F.o,J.o];simp only[gP,aj]at this ⊢;omega
def tX(a:Option (List Nat×List Nat))(b:List Nat)(s:Option (List Nat)):Prop:=match s with
 |some r=>jr b (ij r)=a
 |none=>a=N
abbrev Bh:=Bg 3 (λa:Nat=>I U a)
def Bh.one_news(c:Nat)(d:Gr):∀b e,([c].map λf:Nat=>I U f)[b]?=O e->(d.alloc (Pp #[I U (c:Nat)] 3)).cell? ((⟨d.heap.size,0,N⟩:L2).add b)=O e:=by
 intro b e a;rw[pR];match b,a with
 |0,a=>exact(iI (bn d _)).t a
 |b+1,a=>simp at a
def L5{b:Nat}(h:mf b=PV):gI b=N:=by
 have:b<33:=by simp[mf]at h;omega
 unfold gI;rw[ah Y,ah Y,ah Y]
def MQ(h:Sn y S w p s):K8 Qe 228 #[M2 (O ⟨y,0,N⟩)] w (kV y S pZ aS (s.bind jQ) w):=by
 obtain⟨i0,C,cx,cy,c0⟩:=bu infoByte;obtain⟨j0,hj,b0,b1,b2⟩:=bu infoInt;have b4:=H (Bg.start h:Bh w y S w s _ _);obtain⟨l,hR⟩:∃l,s.bind ij=l:=⟨_,rfl⟩;have cc:L1 (s.bind jQ=l.map λg=>(ip g.1,g.2)):=by unfold Hid;rw[<-hR];cases s<;>rfl
 have n:L1 (tX l [] s):=by
  unfold Hid;rw[<-hR];cases s with
  |none=>rfl
  |some r=>show jr [] (ij r)=ij r;unfold jr;cases ij r<;>simp
 rw[cc.o]
 go_in
 go_wp2;go_loopw [3] (λlv wr=>∃(q:Option (List Nat)) (d:List Nat),L1 (Bh w y S wr q lv d)/\L1 (tX l d q)/\L1 (sW d)) (λ_ wr=>mS y S wr)
 case atStart=>exact⟨s,[],b4,n,λg x=>by cases x⟩
 case round=>
  obtain⟨q,d,P,n,ac⟩:=hrel;obtain⟨p,a2⟩:=P.o.sc;have b7:=H (uk a2);have HM:=H a2.mS;have a7:=H a2;have a9:=CI q;have ao:=a2.now;have ba:=P.o.few;have m:=yb (jO q) a9 ao;go_wp2_with fail;apply b7.o.m;rintro a8 w1 ⟨rfl,bd,rfl⟩;have ce:=H (vK (a7.drewN bd));have ca:=H (P.drewN bd);generalize wr.drewN bd=W1 at *;go_wp2_with fail;apply ce.o.m;rintro a8 w2 ⟨rfl,h2,o2⟩;have i:=H (ca.step ⟨⟨_,h2⟩,o2⟩ (by cases q with|none=>simp[gP]|some r=>simp[gP]));have M:=H h2;by_cases bc:jO q<0
  ·have a6:L1 (l=N):=by
    match q,n,bc with
    |none,n,_=>exact n
    |some [],n,_=>have:=n.o;exact this.s
    |some (b::r),_,h=>simp only[jO]at h;omega
   have E:jO q = -1:=Y;rw[E,Ay]at m;rw[E];have a4:=H (qW M);go_wp2_with (go_at_call 107;apply(m _).m;rintro g w' ⟨rfl,rfl⟩);apply a4.o.m;rintro a8 w3 ⟨rfl,h3,o3⟩;go_wp2;go_ret;exact kV.none_ (by rw[a6.o];rfl) ⟨_,rfl,by simp[ByteArray.size]⟩ ⟨⟨_,h3⟩,i.o.only.t o3⟩
  ·match q,bc,P,n,HM,a7,ba,m,a9,ao,i,M with
   |none,E,_,_,_,_,_,_,_,_,_,_=>exact absurd cO E
   |some [],E,_,_,_,_,_,_,_,_,_,_=>exact absurd cO E
   |some (b::r),bc,P,n,HM,a7,ba,m,a9,ao,i,M=>
   simp only[jO,GE]at m ao ⊢;simp only[aZ,List.tail_cons]at i M;simp only[gP,aj]at ba;have hb:b<256:=Y;have Q:L1 (jr d (ij (b::r))=l):=n.o;simp only[ij]at Q;have R:=λcg=>EH b cg;have cw:IntKind.u8.wrap (b:Int)=(b:Int):=by rw[cE];omega
   by_cases al:b=62
   ·have cb:L1 (l=O (d,r)):=by unfold Hid;rw[<-Q.o,al];simp[show mf 62=P2 from rfl,jr]
    have t1:((b:Int)==62)=PV:=by rw[al];rfl
    obtain⟨ua,uc,co⟩:=jp i.o.own;subst co;have cn:=i.o.sz;go_wp2_with (at_builtin;refine a_ _ rfl (.tmp 38) (.tmp 39) 52 rfl w.heap.size 3 j0 (I U 0) 1 8 cG hj b0 b1 b2 rfl cO (Z ua (G d) uc) (G d) _ rfl (i.alloc _).own ⟨w2.heap.size,0,N⟩ 1 1 ([0].map λg:Nat=>I U g) rfl rfl (Bh.one_news 0 w2) ?hone ?h63 ?hby ?hbs ?_)
    case hone=>rfl
    case h63=>unfold maxLen;omega
    case hby=>omega
    case hbs=>first|omega|(simp;omega)
    intro v6 z bf bb _;have aa:=H ((i.alloc _).app (xs:=[0]) eA bf bb (by simp only[gP,aj,aI];omega));obtain⟨a,V⟩:∃a,a=if (G d)%2=1 then d++[0]else d:=⟨_,rfl⟩
    have b9:L1 ((l.map λg=>(ip g.1,g.2))=O (ip a,r)):=by
     unfold Hid;rw[cb.o,V];split;·next D=>rw[pairs_pad d D];rfl
     ·rfl
    have ad:L1 (G a%2=0/\G a<=G d+1/\G d<=G a):=by
     unfold Hid;rw[V];split;·simp;omega
     ·omega
    have bi:L1 (sW a):=by
     unfold Hid;rw[V];split;·exact ac.snoc Y
     ·exact ac
    have b8:L1 (∀f,f<G a->nth (d++[0]) f=nth a f):=λf C=>by
     rw[V]at C ⊢;split;·rfl
     ·next D=>rw[ah D]at C;unfold nth;rw[ax,ax,aP C]
    have bm:L1 (∀f,f<G a->∃u c,v6=Z (O ⟨u,0,N⟩) (G d+1) c/\u<z.heap.size/\z.cell? ⟨u,f,N⟩=O (I U (nth a f:Nat))):=λf C=>by obtain⟨u,c,h1,h2,h3,_⟩:=Es (L:=d++[0]) aa.o.own rfl eA;have c7:=ad.o;refine⟨u,c,by rw[h1];simp,h2,?_⟩;have:=h3 f eB;rw[b8.o f C,bH]at this;exact this
    have a5:=H (Ew (G a/2) a (by have:=ad.o;omega));have b6:=H (show(∀f:Nat,f%2=0->(f+1<G d+1↔f<G a))from λf he=>by
     rw[V];split;·simp;omega
     ·omega)
    have c4:G a<=200001:=by have:=ad.o;omega
    have bo:L1 (Jn w y z a v6 z 0 (Z N 0 0)):=⟨aX _ _ _ _,aq _ _⟩;obtain⟨da,dc,bx⟩:=jp aa.o.own;rw[ak,ej]at bx;subst bx;generalize ch:G d+1=T at *;clear ch;go_wp2;go_loopw [7,8] (λA f wr=>∃k p:Nat,2*k<=G a/\L1 (p=2*k)/\f=I U (p:Nat)/\L1 (Jn w y z a (Z da T dc) wr k A)) (λ_ f _=>G a-(intOf f).toNat)
    case atStart=>exact⟨0,0,Y,H rfl,rfl,bo⟩
    clear bo
    case round=>
     obtain⟨k,p,hk,HP,rfl,t⟩:=hrel;have D:=HP.o;have a0:=b6.o p Y;by_cases a1:p<G a
     ·have cl:(p:Int)+1<(T:Int):=by have:=a0.2 a1;omega
      have ci:=ad.o.1;obtain⟨u,c,hv,hg,bt⟩:=bm.o p a1;obtain⟨g',c',cp,_,bv⟩:=bm.o (p+1) Y;cases hv;cases cp;have d0:=(t.keep.cell (p:=⟨u,p,N⟩) hg).t bt;have d1:=(t.keep.cell (p:=⟨u,p+1,N⟩) hg).t bv;have ha:=bi.o.nth p a1;have hb:=bi.o.nth (p+1) Y;have bq:L1 (nth (ip a) k=16*nth a p+nth a (p+1)):=by unfold Hid;rw[D];exact Eu k a Y
      clear bt bv a0;generalize nth a p=j at *;generalize nth a (p+1)=b at *;obtain⟨X,b3⟩:∃X,16*j+b=X:=⟨_,rfl⟩;rw[b3]at bq;have c1:IntKind.u8.wrap (16*(j:Int)+(b:Int))=(X:Int):=by rw[cE];omega
      have ck:=t.o.keep.size;have c8:(p:Int)<(T:Int):=Y;have cv:((p:Int)+1).toNat=p+1:=Y;have cr:(0:Int)<=(p:Int)+1:=Y;have c5:(p:Int)<=200001:=Y;have c6:k<=200001:=Y;have cu:IntKind.i64.wrap ((p:Int)+1)=(p:Int)+1:=by rw[aU];omega
      have cs:IntKind.i64.wrap (16*(j:Int))=16*(j:Int):=by rw[aU];omega
      have ct:IntKind.i64.wrap (16*(j:Int)+(b:Int))=16*(j:Int)+(b:Int):=by rw[aU];omega
      have br:=H (show p+1<G a by omega);clear D b3 ci;go_wp2_with fail;go_region_law (refine Dv rfl (.tmp 48) (.tmp 61) 23 rfl z.heap.size 5 i0 (I .u8 0) 1 1 bB C cx cy c0 rfl cO u7 k _ rfl (fL (t.o.own.alloc _)) ⟨wr.heap.size,0,N⟩ 1 1 ([X].map λg:Nat=>I .u8 (g:Int)) rfl rfl ?hnews ?hone ?h63 ?hby ?hb ?_;(case hnews=>exact Bu.one_news X wr);(case hone=>intro c3 W;simp at W;subst W;rfl);(case h63=>unfold maxLen;omega);(case hby=>omega);(case hb=>simp;omega);intro v' w8 bz F _);all_goals (
       have H8:L1 (Jn w y z a (Z (O ⟨u,0,N⟩) T dc) w8 (k+1) v'):=by refine⟨?_,(((t.keep.alloc ck _).drew).t ⟨F.os,F.tape,F.output,F.size,λc2 hj=>F.block c2 eB (CU t.o.own hj)⟩)⟩;rw[G7 (by rw[a5.o];have:=HP.o;have:=br.o;omega),bK,bq.o];exact bz
       clear bz F;go_wp2)
      all_goals go_roundw
      all_goals first|exact⟨k+1,p+2,by have:=HP.o;have:=br.o;omega,by have:=HP.o;unfold Hid;omega,by go_num,H8⟩|(clear cv cu cs ct cr c1;simp[intOf];omega)
     ·have cl:¬(p:Int)+1<(T:Int):=by intro h;exact a1 (a0.1 Y)
      have cj:k=G a/2:=Y;have c9:(p:Int)<=200001:=Y;clear D a0;have bw:=yP (l:=(ip a).take k) (by have:=t.o.own;rw[ay,a5.o,<-cj,Nat.min_self];exact this);have cf:L1 ((ip a).take k=ip a):=by unfold Hid;rw[bD (by rw[a5.o];omega)]
      rw[cf.o]at bw;obtain⟨bs,hT⟩:∃bs,ge (ip a)=bs:=⟨_,rfl⟩;rw[hT]at bw;have HT:=H hT;clear hT;obtain⟨p6,J⟩:=aa.o.sc;have cd:=H J;clear J;go_wp2;go_ret;exact kV.some_ b9 (by rw[pZ,HT.o];rfl) ⟨⟨p6,cd.o.other t.keep⟩,aa.o.only.t (.of_below t.keep)⟩
   ·have t1:((b:Int)==62)=P2:=eB;cases K:mf b with
    |true=>
     have x:=L5 K;have HN:L1 (tX l d (O r)):=by unfold Hid tX;rw[<-Q.o,K];rfl
     rw[x]at m;rw[K]at R;obtain⟨p6,J⟩:=i.o.sc;have a3:=H J.mS;go_wp2_with (first|(go_at_call 107;apply(m _).m;rintro g w' ⟨rfl,e⟩;have e:=e.s;subst e)|(go_at_call 150;apply(R _).m;rintro g w' ⟨rfl,e⟩;have e:=e.s;subst e));go_roundw
     case rel=>exact⟨O r,d,i,HN,ac⟩
     case measure=>rw[HM.o,a3.o];simp[gP]
    |false=>
     rw[K]at R;cases x:gI b with
     |none=>
      have a6:L1 (l=N):=by unfold Hid;rw[<-Q.o,K,x,ah cO,ah al];rfl
      rw[x]at m;have a4:=H (qW M);go_wp2_with (first|(go_at_call 107;apply(m _).m;rintro g w' ⟨rfl,e⟩;have e:=e.s;subst e)|(go_at_call 150;apply(R _).m;rintro g w' ⟨rfl,e⟩;have e:=e.s;subst e));apply a4.o.m;rintro a8 w3 ⟨rfl,h3,o3⟩;go_wp2;go_ret;exact kV.none_ (by rw[a6.o];rfl) ⟨_,rfl,by simp[ByteArray.size]⟩ ⟨⟨_,h3⟩,i.o.only.t o3⟩
     |some j=>
      have ha:=vH x;have HN:L1 (tX l (d++[j]) (O r)):=by show jr (d++[j]) (ij r)=l;rw[<-Q.o,K,x,ah cO,ah al,<-vQ]
      rw[x]at m;simp only[]at m;have t2:decide ((j:Int)<0)=P2:=eA;have b5:=H (ac.snoc ha);have cn:=i.o.sz;go_wp2_with (first|(go_at_call 107;apply(m _).m;rintro g w' ⟨rfl,e⟩;have e:=e.s;subst e)|(go_at_call 150;apply(R _).m;rintro g w' ⟨rfl,e⟩;have e:=e.s;subst e)|(at_builtin;refine a_ _ rfl (.tmp 34) (.tmp 36) 52 rfl w.heap.size 3 j0 (I U 0) 1 8 cG hj b0 b1 b2 rfl cO u3 (G d) _ rfl (i.alloc _).own ⟨w2.heap.size,0,N⟩ 1 1 ([j].map λg:Nat=>I U g) rfl rfl (Bh.one_news j w2) ?hone ?h63 ?hby ?hbs ?_))
      case hone=>intro c3 W;simp at W;subst W;rfl
      case h63=>unfold maxLen;omega
      case hby=>omega
      case hbs=>simp;omega
      intro v6 z bf bb _;have H6:=H ((i.alloc _).app (xs:=[j]) eA bf bb (by simp only[gP,aj,aI];omega));obtain⟨p6,J⟩:=H6.o.sc;have a3:=H J.mS;go_wp2;go_roundw
      case rel=>exact⟨O r,d++[j],H6,HN,b5⟩
      case measure=>rw[HM.o,a3.o];simp[gP]
end
section
variable{a k:Nat}{S:ByteArray}{w w' c:Gr}{p:Nat}{s t:Option (List Nat)}
def mi(r:GI):Prop:=∃(m o q:Int) (b:ByteArray) (g:Option L2) (i h:Nat) (j:Option L2) (n l:Nat) (d:Option L2) (f e:Nat),r=N1 #[I U m,I U o,I U q,MV b,Z g i h,Z j n l,Z d f e]
def GV(b:Nat)(w:Gr)(r:GI):Prop:=∃(q n p:Int) (j:ByteArray) (h i g:GI) (d:List GI) (f:List (List Nat)),r=N1 #[I U q,I U n,I U p,MV j,h,i,g] /\
 jz (λe=>b<=e) w 67 7 h (G d) (d.flatMap cellsOf)/\(∀u∈d,mi u)/\jz (λe=>b<=e) w 9 1 i (G f) (f.map λs=>MV (ge s))/\(G f<=G d/\G d<=200001)/\∃l o m,g=Z l o m
def GV.leaf(b:Nat)(w:Gr)(e f p:Int)(d:ByteArray):GV b w (N1 #[I U e,I U f,I U p,MV d,Z N 0 0,Z N 0 0,Z N 0 0]):=
 ⟨e,f,p,d,_,_,_,[],[],rfl,jz.nil _ _ _ _,(λh g=>by cases g),jz.nil _ _ _ _,⟨ag _,aH _⟩,N,0,0,rfl⟩
def mV(a:Nat)(S:ByteArray)(k:Nat)(f:Option (VT k×List Nat))(w:Gr)(d:MB)(w':Gr):Prop:=
 kV a S (λw' b v=>gF (λe=>w.heap.size<=e) k w' v b) (λw' v=>GV w.heap.size w' v) f w d w'
def yF(e:Sn a S c p t)(d:gB a w c)(n:c.heap[w.heap.size]?=O (Pp gG 67 (0,0)))(f g h i:GI)(q:a<w.heap.size):let l:=((((((c.setCell ⟨w.heap.size,0,N⟩ f).setCell ⟨w.heap.size,1,N⟩ g).setCell ⟨w.heap.size,2,N⟩ h).setCell ⟨w.heap.size,3,N⟩ i).setCell ⟨w.heap.size,4,N⟩ (Z N 0 0)).setCell ⟨w.heap.size,5,N⟩ (Z N 0 0)).setCell ⟨w.heap.size,6,N⟩ (Z N 0 0)
  l.heap[w.heap.size]?=O (Pp #[f,g,h,i,Z N 0 0,Z N 0 0,Z N 0 0] 67 (0,0))/\jP a S w l t:=by
 have b:=lX c w.heap.size f g h i (Z N 0 0) (Z N 0 0) (Z N 0 0);have m:=e.lt;have o:=d.size;refine⟨pq n _ _ _ _ _ _ _,⟨p,⟨by rw[b.block _ m Y];exact e.blk,e.lp,e.ls,e.rest⟩⟩,?_⟩;exact⟨b.os.t d.os,b.tape.t d.tape,b.output.t d.output,aA o b.size,λj h1 h2=>(b.block j Y Y).t (d.block j h1 h2)⟩
def sF{d:Gr}{b:Nat}(h:d.heap[b]?=O (Pp gG 67 (0,0))):(d.cell? ⟨b,0,N⟩=O (I U 0)/\d.cell? ⟨b,1,N⟩=O (I U 0)/\d.cell? ⟨b,2,N⟩=O (I U 0)/\d.cell? ⟨b,3,N⟩=O (MV {data:=#[]})/\d.cell? ⟨b,4,N⟩=O (Z N 0 0)/\d.cell? ⟨b,5,N⟩=O (Z N 0 0)/\d.cell? ⟨b,6,N⟩=O (Z N 0 0)) /\
  d.frozen? ⟨b,0,N⟩=P2/\d.frozen? ⟨b,1,N⟩=P2/\d.frozen? ⟨b,2,N⟩=P2/\d.frozen? ⟨b,3,N⟩=P2/\d.frozen? ⟨b,4,N⟩=P2/\d.frozen? ⟨b,5,N⟩=P2/\d.frozen? ⟨b,6,N⟩=P2:=
 ⟨⟨iI h,iI h,iI h,iI h,iI h,iI h,iI h⟩,nG h,nG h,nG h,nG h,nG h,nG h,nG h⟩
def EQ{r:List Nat}(h:Sn a S w p (O r)):∀b∈gn r,b<256:=λb d=>h.bytes b (Hc d)
def Hf(h:Sn a S w p s):(kJ s).length<=200000:=by
 cases s with
 |none=>simp[kJ]
 |some r=>have h1:=(dG (l:=f9 r) pB).length_le;have h2:=iz r;have h3:=h.len;have b:=h.ls;show((f9 r).takeWhile pB).length<=_;omega
def Kt(h:Sn a S w p s):∀b∈kJ s,b<256:=by
 cases s with
 |none=>intro b d;cases d
 |some r=>exact EQ h
def PW(b:Type)(s:Option (List Nat)):s.bind (i7 b) =
  if kJ s=[110,117,108,108]then(mJ s).map λe=>(jj b 0 0 0 [],e)
  else if kJ s=[116,114,117,101]then(mJ s).map λe=>(jj b 1 1 0 [],e)
  else if kJ s=[102,97,108,115,101]then(mJ s).map λe=>(jj b 1 0 0 [],e)
  else match kE (kJ s)with
   |some d=>(mJ s).map λe=>match iM e with
    |some g=>(jj b 9 d 0 [],g)
    |none=>(jj b 2 d 0 [],e)
   |none=>match jm (kJ s)with
    |some (d,p)=>(mJ s).map λe=>(jj b 3 d p [],e)
    |none=>N:=by
 cases s with
 |none=>rfl
 |some r=>
  show i7 b r=_;unfold i7;show _=if gn r=[110,117,108,108]then O (jj b 0 0 0 [],gm r)
   else if gn r=[116,114,117,101]then O (jj b 1 1 0 [],gm r)
   else if gn r=[102,97,108,115,101]then O (jj b 1 0 0 [],gm r)
   else match kE (gn r)with
    |some d=>O (match iM (gm r)with
     |some g=>(jj b 9 d 0 [],g)
     |none=>(jj b 2 d 0 [],gm r))
    |none=>match jm (gn r)with
     |some (d,p)=>O (jj b 3 d p [],gm r)
     |none=>N
  by_cases f:gn r=[110,117,108,108];·rw[ai f,ai f]
  ·rw[ah f,ah f];by_cases h1:gn r=[102,97,108,115,101];·rw[ai h1,ah (by rw[h1];decide),ai h1]
   ·rw[ah h1];by_cases h2:gn r=[116,114,117,101];·rw[ai h2,ai h2]
    ·rw[ah h2,ah h2,ah h1];cases kE (gn r)with
     |some d=>simp only[];cases iM (gm r)<;>rfl
     |none=>rfl
def ER(k:Nat)(s:Option (List Nat)):Option (VT (k+1)×List Nat):=s.bind (i7 (VT k))
def PR(k:Nat)(s:Option (List Nat)):ER k s =
  if kJ s=[110,117,108,108]then(mJ s).map λb=>(jj (VT k) 0 0 0 [],b)
  else if kJ s=[116,114,117,101]then(mJ s).map λb=>(jj (VT k) 1 1 0 [],b)
  else if kJ s=[102,97,108,115,101]then(mJ s).map λb=>(jj (VT k) 1 0 0 [],b)
  else match kE (kJ s)with
   |some d=>(mJ s).map λb=>match iM b with
    |some e=>(jj (VT k) 9 d 0 [],e)
    |none=>(jj (VT k) 2 d 0 [],b)
   |none=>match jm (kJ s)with
    |some (d,p)=>(mJ s).map λb=>(jj (VT k) 3 d p [],b)
    |none=>N:=PW (VT k) s
def FJ(h:Sn a S w p s):K8 Qe 226 #[M2 (O ⟨a,0,N⟩)] w (mV a S (k+1) (ER k s) w):=by
 have j:=H h.lt;have BW:L1 (LT w.heap.size w (w.alloc (Pp gG 67))):=(aq _ _).alloc (ag _) _;have H0:=H (h.other BW);have HZ:L1 ((w.alloc (Pp gG 67)).heap[w.heap.size]?=O (Pp gG 67 (0,0))):=bn _ _;have W:=H (Bq H0);have b8:=Hf h;have HQ:=H (Kt h);obtain⟨q,hR⟩:∃q,ER k s=q:=⟨_,rfl⟩;rw[hR];have e:=H hR;rw[PR]at e;obtain⟨i,a6⟩:∃i,kJ s=i:=⟨_,rfl⟩;rw[a6]at W b8 HQ e;obtain⟨u,hT⟩:∃u,ge i=u:=⟨_,rfl⟩;have C:bl u=i:=by rw[<-hT];exact ui _ HQ
 have bb:u.size<=200001:=by rw[sb,C];omega
 rw[hT]at W;have bx:=H a6;generalize bc:w.alloc (Pp gG 67)=b0 at *;have bz:L1 (w.alloc (Pp #[I U 0,I U 0,I U 0,MV {data:=#[]},Z N 0 0,Z N 0 0,Z N 0 0] 67)=b0):=bc;have bd:(u.toList==[110,117,108,108])=decide (i=[110,117,108,108]):=by rw[sD,C];rfl
 have bf:(u.toList==[102,97,108,115,101])=decide (i=[102,97,108,115,101]):=by rw[sD,C];rfl
 have bi:(u.toList==[116,114,117,101])=decide (i=[116,114,117,101]):=by rw[sD,C];rfl
 have a0:=H (λW'=>Oa (w:=W') u bb);have ac:=H (λW'=>Gp (w:=W') u bb);rw[C]at a0 ac;clear h hR hT bc C a6
 go_in
 go_wp2_with fail;rw[bz.o];apply W.o.m;rintro R c ⟨rfl,⟨V,h1⟩,k1⟩;have g:=H h1;have z:=H ((gB.of_below BW).t k1);have a4:c.heap[w.heap.size]?=O (Pp gG 67 (0,0)):=by rw[k1.block _ (ae HZ.o) (by have:=j.o;omega)];exact HZ
 clear h1 k1 W;go_wp2_with fail;apply(a0 _).m;rintro R w' ⟨⟨m,cb,rfl,D⟩,A⟩;have A:=A.s;subst A;go_wp2_with fail;apply(ac _).m;rintro R w' ⟨⟨aa,pl,cc,rfl,bm⟩,A⟩;have A:=A.s;subst A;have K:=H D;have E:=H bm;clear a0 ac D bm;obtain⟨⟨r0,r1,r2,r3,r4,r5,r6⟩,X,f1,f2,f3,f4,f5,f6⟩:=sF a4;have n:=H a4;clear a4;have F:L1 (i≠[]->∃b,mJ s=O b):=λh=>by
  cases s with
  |none=>exact absurd bx.s h
  |some r=>exact⟨_,rfl⟩
 by_cases M:i=[110,117,108,108]
 ·rw[aB M]at bd;obtain⟨b,l⟩:=F.o (by rw[M];simp);have f:L1 (q=O (jj (VT k) 0 0 0 [],b)):=by unfold Hid;rw[<-e.o,ai M,l];rfl
  rw[l]at g;have d:=H (yF g z n (I U 0) (I U 0) (I U 0) (MV {data:=#[]}) j);go_wp2;refine av (v:=N1 #[I U 0,I U 0,I U 0,MV {data:=#[]},Z N 0 0,Z N 0 0,Z N 0 0]) ?_ rfl ?_;·exact aE results226 _ _ w.heap.size 67 _ _ _ rfl d.1 aK rfl aG
  exact kV.some_ f (gF.leaf k 0 0 0 []) d.2
 rw[ah M]at e;rw[ar M]at bd;by_cases P:i=[116,114,117,101]
 ·rw[aB P]at bi;obtain⟨b,l⟩:=F.o (by rw[P];simp);have f:L1 (q=O (jj (VT k) 1 1 0 [],b)):=by unfold Hid;rw[<-e.o,ai P,l];rfl
  rw[l]at g;have d:=H (yF g z n (I U 1) (I U 1) (I U 0) (MV {data:=#[]}) j);go_wp2;refine av (v:=N1 #[I U 1,I U 1,I U 0,MV {data:=#[]},Z N 0 0,Z N 0 0,Z N 0 0]) ?_ rfl ?_;·exact aE results226 _ _ w.heap.size 67 _ _ _ rfl d.1 aK rfl aG
  exact kV.some_ f (gF.leaf k 1 1 0 []) d.2
 rw[ah P]at e;rw[ar P]at bi;by_cases Q:i=[102,97,108,115,101]
 ·rw[aB Q]at bf;obtain⟨b,l⟩:=F.o (by rw[Q];simp);have f:L1 (q=O (jj (VT k) 1 0 0 [],b)):=by unfold Hid;rw[<-e.o,ai Q,l];rfl
  rw[l]at g;have d:=H (yF g z n (I U 1) (I U 0) (I U 0) (MV {data:=#[]}) j);go_wp2;refine av (v:=N1 #[I U 1,I U 0,I U 0,MV {data:=#[]},Z N 0 0,Z N 0 0,Z N 0 0]) ?_ rfl ?_;·exact aE results226 _ _ w.heap.size 67 _ _ _ rfl d.1 aK rfl aG
  exact kV.some_ f (gF.leaf k 1 0 0 []) d.2
 rw[ah Q]at e;rw[ar Q]at bf;unfold kj at K;unfold PI at E;cases D:kE i with
 |some v=>
  rw[D]at K e;obtain⟨b,l⟩:=F.o (by rintro rfl;cases D);obtain⟨b7,a1⟩:=K.o;subst b7 a1;rw[l]at g e;simp only[aZ]at e;have d1:=g.o.c1;have al:=H (Bq g);have a2:kJ (O b)=gn b:=rfl;have a3:mJ (O b)=O (gm b):=rfl;have bt:=H (EQ g);rw[a2,a3]at al;obtain⟨T2,a9⟩:∃T2,ge (gn b)=T2:=⟨_,rfl⟩;have bs:(T2.toList==[48])=decide (gn b=[48]):=by rw[sD,<-a9,ui _ bt.o];rfl
  rw[a9]at al;have a7:L1 (∀(x:Gr) (p2:Nat) (t2:List Nat),Sn a S x p2 (O t2)->gB a c x->iM b=N->x.frozen? ⟨a,1,N⟩=P2/\x.cell? ⟨a,1,N⟩=O (I U p2)/\Sn a S (x.setCell ⟨a,1,N⟩ (I U V)) V (O b)/\gB a w (x.setCell ⟨a,1,N⟩ (I U V))/\(x.setCell ⟨a,1,N⟩ (I U V)).heap[w.heap.size]?=O (Pp gG 67 (0,0))/\q=O (jj (VT k) 2 m 0 [],b)):=λx p2 t2 h2 B y=>by
   have ca:=j.o;refine⟨h2.fz 1,h2.c1,h2.at_ V g.lp rfl (λr y=>by cases y;exact g.rest _ rfl),(z.t B).setCell _ _,?_,?_⟩;·rw[kW _ Y,B.block _ (ae n.o) Y];exact n
   ·rw[<-e.o,y]
  go_wp2_with fail;apply al.o.m;rintro R w2 ⟨rfl,⟨p2,h2⟩,B⟩;have ad:=H h2;have O2:=H B;by_cases T:gn b=[48]
  ·rw[aB T]at bs;have ao:=H (Bq ad);have a2:kJ (O (gm b))=gn (gm b):=rfl;have a3:mJ (O (gm b))=O (gm (gm b)):=rfl;have bv:=H (EQ ad);rw[a2,a3]at ao;obtain⟨T3,ba⟩:∃T3,ge (gn (gm b))=T3:=⟨_,rfl⟩;have bo:(T3.toList==[82])=decide (gn (gm b)=[82]):=by rw[sD,<-ba,ui _ bv.o];rfl
   rw[ba]at ao;go_wp2_with fail;apply ao.o.m;rintro R w3 ⟨rfl,⟨p3,h3⟩,o3⟩;have a8:=H h3;have O3:=H (O2.t o3);by_cases y:gn (gm b)=[82]
   ·rw[aB y]at bo;have J:L1 (iM b=O (gm (gm b))):=by unfold Hid iM gg;rw[ai T];show(if _ then _ else _)=_;rw[ai y]
    have f:L1 (q=O (jj (VT k) 9 m 0 [],gm (gm b))):=by unfold Hid;rw[<-e.o,J.o]
    have br:w3.heap[w.heap.size]?=O (Pp gG 67 (0,0)):=by have:=j.o;rw[O3.o.block _ (ae n.o) Y];exact n
    obtain⟨⟨r0,r1,r2,r3,r4,r5,r6⟩,X,f1,f2,f3,f4,f5,f6⟩:=sF br;have d:=H (yF a8 (z.t O3) br (I U 9) (I U m) (I U 0) (MV {data:=#[]}) j);go_wp2;refine av (v:=N1 #[I U 9,I U m,I U 0,MV {data:=#[]},Z N 0 0,Z N 0 0,Z N 0 0]) ?_ rfl ?_;·exact aE results226 _ _ w.heap.size 67 _ _ _ rfl d.1 aK rfl aG
    exact kV.some_ f (gF.leaf k 9 m 0 []) d.2
   ·rw[ar y]at bo;have J:L1 (iM b=N):=by unfold Hid iM gg;rw[ai T];show(if _ then _ else _)=_;rw[ah y]
    obtain⟨b1,b2,b3,b4,L,b6⟩:=a7.o _ _ _ a8 O3 J;have f:=H b6;obtain⟨⟨r0,r1,r2,r3,r4,r5,r6⟩,X,f1,f2,f3,f4,f5,f6⟩:=sF L;have d:=H (yF b3 b4 L (I U 2) (I U m) (I U 0) (MV {data:=#[]}) j);go_wp2;refine av (v:=N1 #[I U 2,I U m,I U 0,MV {data:=#[]},Z N 0 0,Z N 0 0,Z N 0 0]) ?_ rfl ?_;·exact aE results226 _ _ w.heap.size 67 _ _ _ rfl d.1 aK rfl aG
    exact kV.some_ f (gF.leaf k 2 m 0 []) d.2
  ·rw[ar T]at bs;have J:L1 (iM b=N):=by unfold Hid iM gg;rw[ah T];rfl
   obtain⟨b1,b2,b3,b4,L,b6⟩:=a7.o _ _ _ ad O2 J;have f:=H b6;obtain⟨⟨r0,r1,r2,r3,r4,r5,r6⟩,X,f1,f2,f3,f4,f5,f6⟩:=sF L;have d:=H (yF b3 b4 L (I U 2) (I U m) (I U 0) (MV {data:=#[]}) j);go_wp2;refine av (v:=N1 #[I U 2,I U m,I U 0,MV {data:=#[]},Z N 0 0,Z N 0 0,Z N 0 0]) ?_ rfl ?_;·exact aE results226 _ _ w.heap.size 67 _ _ _ rfl d.1 aK rfl aG
   exact kV.some_ f (gF.leaf k 2 m 0 []) d.2
 |none=>
  rw[D]at K e;have a1:=K.o;subst a1;simp only[]at e;cases a5:jm i with
  |some b9=>
   obtain⟨v,pp⟩:=b9;rw[a5]at E e;obtain⟨b,l⟩:=F.o (by rintro rfl;cases a5);obtain⟨hm,hp,hb⟩:=E.o;subst hm hp hb;rw[l]at g e;have f:L1 (q=O (jj (VT k) 3 aa pp [],b)):=e.o.s;have d:=H (yF g z n (I U 3) (I U aa) (I U (pp:Nat)) (MV {data:=#[]}) j);go_wp2;refine av (v:=N1 #[I U 3,I U aa,I U (pp:Nat),MV {data:=#[]},Z N 0 0,Z N 0 0,Z N 0 0]) ?_ rfl ?_;·exact aE results226 _ _ w.heap.size 67 _ _ _ rfl d.1 aK rfl aG
   exact kV.some_ f (gF.leaf k 3 aa pp []) d.2
  |none=>
   rw[a5]at E e;have hb:=E.o;subst hb;have f:L1 (q=N):=e.o.s;have bw:=H (qW g);go_wp2_with fail;apply bw.o.m;rintro R w2 ⟨rfl,h2,B⟩;have bq:w2.heap[w.heap.size]?=O (Pp gG 67 (0,0)):=by have:=j.o;rw[B.block _ (ae n.o) Y];exact n
   obtain⟨⟨r0,r1,r2,r3,r4,r5,r6⟩,X,f1,f2,f3,f4,f5,f6⟩:=sF bq;have d:=H (yF h2 (z.t B) bq (I U 0) (I U 0) (I U 0) (MV {data:=#[]}) j);go_wp2;refine av (v:=N1 #[I U 0,I U 0,I U 0,MV {data:=#[]},Z N 0 0,Z N 0 0,Z N 0 0]) ?_ rfl ?_;·exact aE results226 _ _ w.heap.size 67 _ _ _ rfl d.1 aK rfl aG
   exact kV.none_ f (GV.leaf _ _ 0 0 0 _) d.2
end
section
structure Am(d:Gr)(o:Nat)(S:ByteArray)(K:Nat)(w:Gr)(t:Option (List Nat))(m:GI)(l:List GI)(f:GI)(n:List (List Nat)):Prop where
 sc:∃p,Sn o S w p t
 only:gB o d w
 lt:o<d.heap.size
 rb:w.heap[d.heap.size]?=O (Pp gG 67 (0,0))
 vb:w.heap[d.heap.size+1]?=O (Pp #[I U K,I U 0,I U 0,MV {data:=#[]},m,f,Z N 0 0] 67 (0,0))
 own:w.ownsRow (d.heap.size+2) 67 7 m (G l) (l.flatMap cellsOf)
 ownk:w.ownsRow (d.heap.size+2) 9 1 f (G n) (n.map λs=>MV (ge s))
 c7:∀x∈l,mi x
 few:G l+gP t<=200001
 fewk:G n+gP t<=200001
def TV(b k:Nat)(i:Gr)(h g:GI)(d:List GI)(Vs:List (VT k)):Prop:=G d=G Vs/\∀(c:Nat) (e:GI) (f:VT k),d[c]?=O e->Vs[c]?=O f->gF (λa=>b<=a/\h.ownBlock≠O a/\g.ownBlock≠O a) k i e f
variable{d:Gr}{o K k:Nat}{S:ByteArray}{w w':Gr}{t t':Option (List Nat)}{m f:GI}{l:List GI}{Vs:List (VT k)}{n:List (List Nat)}
def Am.step(h:Am d o S K w t m l f n)(b:jP o S w w' t')(s:gP t'<=gP t):Am d o S K w' t' m l f n/\(TV (d.heap.size+2) k w m f l Vs->TV (d.heap.size+2) k w' m f l Vs):=by
 have r:=h.lt;have c:∀a,d.heap.size<=a->a<w.heap.size->w'.heap[a]?=w.heap[a]?:=λa g e=>b.2.block a e Y;refine⟨⟨b.1,h.only.t b.2,h.lt,?_,?_,uf h.own b.2 Y,uf h.ownk b.2 Y,h.c7,by have:=h.few;omega,by have:=h.fewk;omega⟩,λtv=>⟨tv.1,λp q y i j=>?_⟩⟩;·rw[c _ (ag _) (ae h.rb)];exact h.rb
 ·rw[c _ Y (ae h.vb)];exact h.vb
 ·exact gF.keep k (tv.2 p q y i j) (λa g e=>c a Y e)
def Am.below(h:Am d o S K w t m l f n)(b:LT w.heap.size w w'):Am d o S K w' t m l f n/\(TV (d.heap.size+2) k w m f l Vs->TV (d.heap.size+2) k w' m f l Vs):=by obtain⟨p,a⟩:=h.sc;exact h.step ⟨⟨p,a.other b⟩,.of_below b⟩ (ag _)
def Am.item(h:Am d o S K w t m l f n){x:GI}(R:mi x){g:GI}
  (E:w'.ownsRow (d.heap.size+2) 67 7 g (G l+1) (l.flatMap cellsOf++cellsOf x)) (p:w.grownBy w' m.ownBlock) (J:G l+1+gP t<=200001):Am d o S K (w'.setCell ⟨d.heap.size+1,4,N⟩ g) t g (l++[x]) f n/\∀{v:VT k} {Px:Nat->Prop},(∀b,Px b->d.heap.size+2<=b/\m.ownBlock≠O b/\f.ownBlock≠O b)->gF Px k w x v->(∀b,g.ownBlock=O b->m.ownBlock=O b\/w.heap.size<=b)->TV (d.heap.size+2) k w m f l Vs->TV (d.heap.size+2) k (w'.setCell ⟨d.heap.size+1,4,N⟩ g) g f (l++[x]) (Vs++[v]):=by
 have aa:=h.lt;have M:=ae h.vb;have C:=h.own.lt;have D:∀b,b<w.heap.size->m.ownBlock≠O b->b≠d.heap.size+1->(w'.setCell ⟨d.heap.size+1,4,N⟩ g).heap[b]?=w.heap[b]?:=λb h1 h2 h3=>by rw[kW _ h3,p.block b h1 (λe=>h2 e.s)]
 have y:∀b,b<d.heap.size+1->(w'.setCell ⟨d.heap.size+1,4,N⟩ g).heap[b]?=w.heap[b]?:=λb h1=>D b Y (λe=>by have:=C b e;omega) Y;have P:w'.heap[d.heap.size+1]?=O (Pp #[I U K,I U 0,I U 0,MV {data:=#[]},m,f,Z N 0 0] 67 (0,0)):=by rw[p.block _ M (λe=>by have:=C _ e.s;omega)];exact h.vb
 obtain⟨V,u⟩:=h.sc;refine⟨⟨⟨V,⟨by rw[y _ Y];exact u.blk,u.lp,u.ls,u.rest⟩⟩,?_,h.lt,by rw[y _ Y];exact h.rb,?_,?_,?_,?_,by rw[ak];exact J,h.fewk⟩,?_⟩;·exact⟨p.os.t h.only.os,p.tape.t h.only.tape,p.output.t h.only.output,by have:=p.size;simp[World.setCell];omega,λb h1 h2=>(y b Y).t (h.only.block b h1 h2)⟩
 ·rw[lV _ P];rfl
 ·rw[ak,dE];have:=aR (a:=⟨d.heap.size+1,4,N⟩) E (λe=>absurd (E.lt (d.heap.size+1) e).1 Y) g;simpa using this
 ·have:=h.ownk.kept p (by
   cases L:f.ownBlock with
   |none=>exact P3 rfl
   |some b=>refine P4 (λe=>?_);exact xT h.own h.ownk cO b e.s L)
  exact aR this (λe=>absurd (this.lt (d.heap.size+1) e).1 Y) g
 ·intro W q;rcases bG.1 q with q|q;·exact h.c7 W q
  ·rw[cU]at q;subst q;exact R
 ·intro v Px s Q F tv;refine⟨by rw[ak,ak,tv.1];rfl,?_⟩;intro z A B i j;have T:gF (λb=>d.heap.size+2<=b/\m.ownBlock≠O b/\f.ownBlock≠O b/\g.ownBlock≠O b) k w A B:=by
   rcases bU z (G l) with c|c
   ·rw[aP c]at i;rw[aP Bc]at j;refine gF.m k (tv.2 z A B i j) (λb h1 h2=>⟨h1.1,h1.2.1,h1.2.2,λe=>?_⟩);rcases F b e with r|r;·exact h1.2.1 r
    ·omega
   ·rw[aF c]at i;rw[aF Bc]at j;rw[<-tv.1]at j;obtain⟨rfl,rfl⟩:x=A/\v=B:=by
     match X:z-G l,i,j with
     |0,i,j=>exact⟨by simpa using i,by simpa using j⟩
     |ac+1,i,j=>simp at i
    refine gF.m k Q (λb h1 h2=>⟨(s b h1).1,(s b h1).2.1,(s b h1).2.2,λe=>?_⟩);rcases F b e with r|r;·exact(s b h1).2.1 r
    ·omega
  refine gF.m k (gF.keep k T (λb h1 h2=>D b h2 h1.2.1 Y)) (λb h1 _=>⟨h1.1,h1.2.2.2,h1.2.2.1⟩)
def Am.key(h:Am d o S K w t m l f n){s:List Nat}{e:GI}
  (z:w'.ownsRow (d.heap.size+2) 9 1 e (G n+1) ((n.map λs=>MV (ge s))++[MV (ge s)])) (g:w.grownBy w' f.ownBlock) (E:∀b,e.ownBlock=O b->f.ownBlock=O b\/w.heap.size<=b) (A:G n+1+gP t<=200001):Am d o S K (w'.setCell ⟨d.heap.size+1,5,N⟩ e) t m l e (n++[s])/\(TV (d.heap.size+2) k w m f l Vs->TV (d.heap.size+2) k (w'.setCell ⟨d.heap.size+1,5,N⟩ e) m e l Vs)/\∀{i:GI} {j:VT k} {Px:Nat->Prop},(∀b,Px b->d.heap.size+2<=b/\f.ownBlock≠O b)->gF Px k w i j->gF Px k (w'.setCell ⟨d.heap.size+1,5,N⟩ e) i j:=by
 have P:=h.lt;have C:=ae h.vb;have y:=h.ownk.lt;have r:∀b,b<w.heap.size->f.ownBlock≠O b->b≠d.heap.size+1->(w'.setCell ⟨d.heap.size+1,5,N⟩ e).heap[b]?=w.heap[b]?:=λb h1 h2 h3=>by rw[kW _ h3,g.block b h1 (λc=>h2 c.s)]
 have q:∀b,b<d.heap.size+1->(w'.setCell ⟨d.heap.size+1,5,N⟩ e).heap[b]?=w.heap[b]?:=λb h1=>r b Y (λc=>by have:=y b c;omega) Y;have D:w'.heap[d.heap.size+1]?=O (Pp #[I U K,I U 0,I U 0,MV {data:=#[]},m,f,Z N 0 0] 67 (0,0)):=by rw[g.block _ C (λc=>by have:=y _ c.s;omega)];exact h.vb
 obtain⟨M,p⟩:=h.sc;refine⟨⟨⟨M,⟨by rw[q _ Y];exact p.blk,p.lp,p.ls,p.rest⟩⟩,?_,h.lt,by rw[q _ Y];exact h.rb,?_,?_,?_,h.c7,h.few,by rw[ak];exact A⟩,?_,?_⟩;·exact⟨g.os.t h.only.os,g.tape.t h.only.tape,g.output.t h.only.output,by have:=g.size;simp[World.setCell];omega,λb h1 h2=>(q b Y).t (h.only.block b h1 h2)⟩
 ·rw[lV _ D];rfl
 ·have:=h.own.kept g (by
   cases B:m.ownBlock with
   |none=>exact P3 rfl
   |some b=>refine P4 (λc=>?_);exact xT h.own h.ownk cO b B c.s)
  exact aR this (λc=>absurd (this.lt (d.heap.size+1) c).1 Y) e
 ·rw[ak,bK];have:=aR (a:=⟨d.heap.size+1,5,N⟩) z (λc=>absurd (z.lt (d.heap.size+1) c).1 Y) e;simpa using this
 ·intro tv;refine⟨tv.1,?_⟩;intro J i j u F;have L:gF (λb=>d.heap.size+2<=b/\m.ownBlock≠O b/\f.ownBlock≠O b/\e.ownBlock≠O b) k w i j:=by
   refine gF.m k (tv.2 J i j u F) (λb h1 h2=>⟨h1.1,h1.2.1,h1.2.2,λc=>?_⟩);rcases E b c with v|v;·exact h1.2.2 v
   ·omega
  refine gF.m k (gF.keep k L (λb h1 h2=>r b h2 h1.2.2.1 Y)) (λb h1 _=>⟨h1.1,h1.2.1,h1.2.2.2⟩)
 ·intro i j Px x u;exact gF.keep k u (λb h1 h2=>r b h2 (x b h1).2 (by have:=(x b h1).1;omega))
end
section
variable{a:Gr}{j K k:Nat}{S:ByteArray}{w w':Gr}{t z:Option (List Nat)}{c d:GI}{f:List GI}{Vs:List (VT k)}{l:List (List Nat)}
def kV.str{e:Option (List Nat×List Nat)}{i:MB}(h:kV j S pZ aS e w i w'):∃(g:List Nat) (t:Option (List Nat)),i=Ps (MV (ge g))/\jP j S w w' t/\((e=N/\t=N)\/∃b,e=O (g,b)/\t=O b):=by
 unfold kV at h;cases e with
 |none=>obtain⟨n,rfl,⟨m,rfl,_⟩,h3⟩:=h;exact⟨bl m,N,by rw[uN],h3,P3 ⟨rfl,rfl⟩⟩
 |some o=>obtain⟨g,b⟩:=o;obtain⟨n,rfl,h2,h3⟩:=h;exact⟨g,O b,by rw[h2],h3,P4 ⟨b,rfl,rfl⟩⟩
def mV.any{v:Option (VT k×List Nat)}{B:MB}(h:mV j S k v w B w'):∃(x y A:Int) (m:ByteArray) (o:Option L2) (q p:Nat) (r:Option L2) (u s:Nat) (b:Option L2) (g e:Nat) (t:Option (List Nat)),B=Ps (N1 #[I U x,I U y,I U A,MV m,Z o q p,Z r u s,Z b g e])/\jP j S w w' t/\((v=N/\t=N/\GV w.heap.size w' (N1 #[I U x,I U y,I U A,MV m,Z o q p,Z r u s,Z b g e]))\/∃n i,v=O (n,i)/\t=O i/\gF (λC=>w.heap.size<=C) k w' (N1 #[I U x,I U y,I U A,MV m,Z o q p,Z r u s,Z b g e]) n):=by
 unfold mV kV at h;cases v with
 |none=>obtain⟨J,rfl,h2,h3⟩:=h;have D:=h2;obtain⟨kd,aa,ac,m,c,d,T,f,l,rfl,E,_,F,_,b,g,e,rfl⟩:=h2;obtain⟨M,Q,rfl⟩:=jp E.1;obtain⟨P,R,rfl⟩:=jp F.1;exact⟨_,_,_,_,_,_,_,_,_,_,_,_,_,N,rfl,h3,P3 ⟨rfl,rfl,D⟩⟩
 |some L=>obtain⟨n,i⟩:=L;obtain⟨J,rfl,h2,h3⟩:=h;obtain⟨V,W,X,k3,o,q,p,r,u,s,b,g,e,rfl⟩:=gF.form h2;exact⟨_,_,_,_,_,_,_,_,_,_,_,_,_,O i,rfl,h3,P4 ⟨n,i,rfl,rfl,h2⟩⟩
def Er(u v x:Int)(g:ByteArray)(n:Option L2)(p o:Nat)(q:Option L2)(s r:Nat)(h:Option L2)(m i:Nat):∀e∈cellsOf (N1 #[I U u,I U v,I U x,MV g,Z n p o,Z q s r,Z h m i]),e.oneCell'=PV:=by intro e b;simp[cellsOf,Value.cells]at b;rcases b with rfl|rfl|rfl|rfl|rfl|rfl|rfl<;>rfl
def fo(r s u:Int)(b:ByteArray)(i:Option L2)(n m:Nat)(o:Option L2)(q p:Nat)(e:Option L2)(h g:Nat):mi (N1 #[I U r,I U s,I U u,MV b,Z i n m,Z o q p,Z e h g]):=
 ⟨r,s,u,b,i,n,m,o,q,p,e,h,g,rfl⟩
def GV.keep{b:Nat}{i:GI}(h:GV b w i)(g:∀e,b<=e->e<w.heap.size->w'.heap[e]?=w.heap[e]?):GV b w' i:=by obtain⟨s,u,p,m,c,d,n,f,l,h1,h2,h3,o,q,r⟩:=h;exact⟨s,u,p,m,c,d,n,f,l,h1,h2.keep g,h3,o.keep g,q,r⟩
def Am.fin(h:Am a j S K w t c f d l):let i:=((((((w.setCell ⟨a.heap.size,0,N⟩ (I U K)).setCell ⟨a.heap.size,1,N⟩ (I U 0)).setCell ⟨a.heap.size,2,N⟩ (I U 0)).setCell ⟨a.heap.size,3,N⟩ (MV {data:=#[]})).setCell ⟨a.heap.size,4,N⟩ c).setCell ⟨a.heap.size,5,N⟩ d).setCell ⟨a.heap.size,6,N⟩ (Z N 0 0)
  i.heap[a.heap.size]?=O (Pp #[I U K,I U 0,I U 0,MV {data:=#[]},c,d,Z N 0 0] 67 (0,0))/\jP j S a i t /\
   (G l<=G f->GV a.heap.size i (N1 #[I U K,I U 0,I U 0,MV {data:=#[]},c,d,Z N 0 0])) /\
   (∀{k:Nat} {Vs:List (VT k)},TV (a.heap.size+2) k w c d f Vs->gF (λb=>a.heap.size<=b) (k+1) i (N1 #[I U K,I U 0,I U 0,MV {data:=#[]},c,d,Z N 0 0]) (⟨K,0,0,[],Vs,l,[]⟩:gk (VT k))):=by
 intro i;have g:gB a.heap.size w i:=lX w a.heap.size (I U K) (I U 0) (I U 0) (MV {data:=#[]}) c d (Z N 0 0);have L:=h.lt;have A:=h.only.size;obtain⟨E,m⟩:=h.sc;have y:=m.lt;have M:=ae h.vb;have n:∀{o q p:Nat} {v:GI} {r:List GI},w.ownsRow (a.heap.size+2) o q v p r->i.ownsRow (a.heap.size+2) o q v p r:=λu=>uf u g Y;refine⟨pq h.rb _ _ _ _ _ _ _,⟨⟨E,⟨by rw[g.block _ y Y];exact m.blk,m.lp,m.ls,m.rest⟩⟩,?_⟩,λx=>?_,λ{k Vs} tv=>?_⟩;·exact⟨g.os.t h.only.os,g.tape.t h.only.tape,g.output.t h.only.output,aA A g.size,λb h1 h2=>(g.block b Y Y).t (h.only.block b h1 h2)⟩
 ·exact⟨K,0,0,_,c,d,_,f,l,rfl,jz.of (n h.own) (λb e=>by have:=(h.own.lt b e).1;omega),h.c7,jz.of (n h.ownk) (λb e=>by have:=(h.ownk.lt b e).1;omega),⟨x,by have:=h.few;omega⟩,N,0,0,rfl⟩
 ·exact⟨c,d,Z N 0 0,f,rfl,tv.1,jz.of (n h.own) (λb e=>by have:=(h.own.lt b e).1;omega),λD F J B C=>gF.m k (gF.keep k (tv.2 D F J B C) (λb e s=>g.block b s Y)) (λb e _=>Y),jz.of (n h.ownk) (λb e=>by have:=(h.ownk.lt b e).1;omega),jz.nil _ _ _ _⟩
def yW(b k:Nat)(e:Option ((List (List Nat)×List (VT k))×List Nat))(w:Gr)(t:Option (List Nat))(c:GI)(f:List GI)(d:GI)(l:List (List Nat)):Prop:=G l=G f/\match t with
 |some r=>∃Vs,TV b k w c d f Vs/\∃g,G r<g/\qx l Vs (js (gj k) g r)=e
 |none=>e=N
def B0(j:Nat)(S:ByteArray)(k:Nat):Prop:=∀(b:Gr) (g:Nat) (e:Option (List Nat)),Sn j S b g e->K8 Qe 174 #[M2 (O ⟨j,0,N⟩),I U (12-k:Nat)] b (mV j S k (e.bind (gj k)) b)
end
section
variable{f:Gr}{d K k:Nat}{S:ByteArray}{w w':Gr}{p:Nat}{s t z:Option (List Nat)}{l n:GI}{c:List GI}{Vs:List (VT k)}{b:List (List Nat)}
def DZ{W:Gr}{a0 a1 a2 a3 a4 a5 a6:GI}:∀(a:Nat) (e:GI),[a0,a1,a2,a3,a4,a5,a6][a]?=O e->(W.alloc (Pp #[a0,a1,a2,a3,a4,a5,a6] 67)).cell? ((⟨W.heap.size,0,N⟩:L2).add a)=O e:=by intro a e g;rw[pR,iI (bn W _)];simpa using g
def yf{W:Gr}{a:GI}:∀(e:Nat) (g:GI),[a][e]?=O g->(W.alloc (Pp #[a] 9)).cell? ((⟨W.heap.size,0,N⟩:L2).add e)=O g:=by intro e g h;rw[pR,iI (bn W _)];simpa using h
def Am.cells(h:Am f d S K w t l c n b):w.cell? ⟨f.heap.size+1,0,N⟩=O (I U K)/\w.cell? ⟨f.heap.size+1,1,N⟩=O (I U 0)/\w.cell? ⟨f.heap.size+1,2,N⟩=O (I U 0)/\w.cell? ⟨f.heap.size+1,3,N⟩=O (MV {data:=#[]})/\w.cell? ⟨f.heap.size+1,4,N⟩=O l/\w.cell? ⟨f.heap.size+1,5,N⟩=O n/\w.cell? ⟨f.heap.size+1,6,N⟩=O (Z N 0 0):=
 ⟨iI h.vb,iI h.vb,iI h.vb,iI h.vb,iI h.vb,iI h.vb,iI h.vb⟩
def nL(k:Nat)(s:Option (List Nat)):Option (VT (k+1)×List Nat):=s.bind λr=>(js (gj k) (G r+1) r).map λa=>((⟨7,0,0,[],a.1.2,a.1.1,[]⟩:gk (VT k)),a.2)
def Jl(hk:k<=11)(ih:B0 d S k)(h:Sn d S w p s):K8 Qe 171 #[M2 (O ⟨d,0,N⟩),I U (11-k:Nat)] w (mV d S (k+1) (nL k s) w):=by
 obtain⟨i0,hi,es,eu,ev⟩:=bu iV;obtain⟨j0,ji,ex,ey,e3⟩:=bu iS;have IH:=H ih;have cy:=H h;have gf:=h.ls;obtain⟨aa,hR⟩:∃aa:Option ((List (List Nat)×List (VT k))×List Nat),aa=s.bind λr=>js (gj k) (G r+1) r:=⟨_,rfl⟩;have cd:L1 (nL k s=aa.map λbd=>((⟨7,0,0,[],bd.1.2,bd.1.1,[]⟩:gk (VT k)),bd.2)):=by unfold Hid nL;rw[hR];cases s<;>rfl
 rw[cd.o];have b2:LT w.heap.size w ((w.alloc (Pp gG 67)).alloc (Pp #[I U 7,I U 0,I U 0,MV {data:=#[]},Z N 0 0,Z N 0 0,Z N 0 0] 67)):=((aq _ _).alloc (ag _) _).alloc eA _;have b1:L1 (Am w d S 7 ((w.alloc (Pp gG 67)).alloc (Pp #[I U 7,I U 0,I U 0,MV {data:=#[]},Z N 0 0,Z N 0 0,Z N 0 0] 67)) s (Z N 0 0) [] (Z N 0 0) []):=by
  have cu:=bn (w.alloc (Pp gG 67)) (Pp #[I U 7,I U 0,I U 0,MV {data:=#[]},Z N 0 0,Z N 0 0,Z N 0 0] 67);rw[aL]at cu;have bo:gP s<=200001:=by
   cases s with
   |none=>simp[gP]
   |some r=>have:=h.len;simp only[gP];omega
  exact⟨⟨p,h.other b2⟩,.of_below b2,h.lt,mA _ (bn _ _),cu,aX _ _ _ _,aX _ _ _ _,(λbd q=>by cases q),by simpa using bo,by simpa using bo⟩
 have b6:L1 (yW (w.heap.size+2) k aa ((w.alloc (Pp gG 67)).alloc (Pp #[I U 7,I U 0,I U 0,MV {data:=#[]},Z N 0 0,Z N 0 0,Z N 0 0] 67)) s (Z N 0 0) [] (Z N 0 0) []):=by
  refine⟨rfl,?_⟩;rw[hR];cases s with
  |none=>rfl
  |some r=>refine⟨[],⟨rfl,λgt bd g3 q _=>by simp at q⟩,G r+1,Y,?_⟩;show qx [] [] _=js (gj k) (G r+1) r;unfold qx;cases js (gj k) (G r+1) r<;>simp
 generalize ci:(w.alloc (Pp gG 67)).alloc (Pp #[I U 7,I U 0,I U 0,MV {data:=#[]},Z N 0 0,Z N 0 0,Z N 0 0] 67)=W0 at *;have cg:L1 ((w.alloc (Pp #[I U 0,I U 0,I U 0,MV {data:=#[]},Z N 0 0,Z N 0 0,Z N 0 0] 67)).alloc (Pp #[I U 7,I U 0,I U 0,MV {data:=#[]},Z N 0 0,Z N 0 0,Z N 0 0] 67)=W0):=ci;clear ci b2 hR h ih cd cy
 go_in
 go_wp2_with fail;rw[cg.o];go_loopw [] (λwr=>∃(t:Option (List Nat)) (l n:GI) (c:List GI) (b:List (List Nat)),L1 (Am w d S 7 wr t l c n b)/\L1 (yW (w.heap.size+2) k aa wr t l c n b)) (λwr=>mS d S wr)
 case atStart=>exact⟨s,_,_,[],[],b1,b6⟩
 clear b1 b6 cg
 case round=>
  obtain⟨t,l,n,c,b,X,HD⟩:=hrel;obtain⟨p,bq⟩:=X.o.sc;have c2:=bq.c2;have HM:=H bq.mS;have dc:=H bq;clear bq;cases t with
  |none=>
   simp only[Option.isNone_none]at c2;have db:L1 (aa=N):=HD.o.2;have bt:=H (Nat.le_of_eq HD.1);obtain⟨v0,v1,v2,v3,v4,v5,v6⟩:=Am.cells X;obtain⟨⟨r0,r1,r2,r3,r4,r5,r6⟩,f0,f1,f2,f3,f4,f5,f6⟩:=sF X.rb;have HF:=H (Am.fin X);obtain⟨ia,ic,bm⟩:=jp X.o.own;obtain⟨i,j,bc⟩:=jp X.o.ownk;subst bm bc;go_wp2;refine av (v:=N1 #[I U 7,I U 0,I U 0,MV {data:=#[]},Z ia (G c) ic,Z i (G b) j,Z N 0 0]) ?_ rfl ?_;·exact aE results171 _ _ w.heap.size 67 _ _ _ rfl HF.1 aK rfl aG
   exact kV.none_ (by rw[db.o];rfl) (HF.2.2.1 bt) HF.2.1
  |some r=>
   simp only[Option.isNone_some]at c2;have ce:=H (uF dc);simp only[aZ]at ce;have b7:=H (And.intro X.few X.fewk);obtain⟨Vs,eo,bs,hm,d7⟩:=HD.o.2;have dk:=H eo;obtain⟨bs,rfl⟩:∃br,bs=br+1:=⟨bs-1,Y⟩;have bi:=H d7;have bt:=H HD.1;have c6:=H hm;go_wp2_with fail;apply ce.o.m;rintro m w1 ⟨rfl,k1⟩;have gp:=iz r;obtain⟨a1,e6⟩:=X.o.step (k:=k) (Vs:=Vs) k1 pI;have b3:=H a1;have cf:=H (e6 dk);obtain⟨p1,h1⟩:=k1.1;have HC:=H (wT h1 {data:=#[62,62]} cO);rw[show bl {data:=#[62,62]}=[62,62]from rfl]at HC;simp only[js]at bi;cases ht:f_ [62,62] (f9 r)with
   |some ao=>
    have ck:=Ba (s:=O (f9 r)) (t:=[62,62]) (q:=ao) ht;rw[ck.1,ck.2]at HC;have da:L1 (aa=O ((b,Vs),ao)):=by unfold Hid;rw[<-bi.o,ht];simp[qx]
    have gi:=(gD ht).1;go_wp2_with fail;apply HC.o.m;rintro m w2 ⟨rfl,k2⟩;obtain⟨a2,bz⟩:=b3.o.step (k:=k) (Vs:=Vs) k2 pI;have ad:=H a2;have bv:=H (bz cf);obtain⟨v0,v1,v2,v3,v4,v5,v6⟩:=Am.cells ad;obtain⟨⟨r0,r1,r2,r3,r4,r5,r6⟩,f0,f1,f2,f3,f4,f5,f6⟩:=sF ad.rb;have HF:=H (Am.fin ad);obtain⟨ia,ic,bm⟩:=jp ad.o.own;obtain⟨i,j,bc⟩:=jp ad.o.ownk;subst bm bc;go_wp2;refine av (v:=N1 #[I U 7,I U 0,I U 0,MV {data:=#[]},Z ia (G c) ic,Z i (G b) j,Z N 0 0]) ?_ rfl ?_;·exact aE results171 _ _ w.heap.size 67 _ _ _ rfl HF.1 aK rfl aG
    exact kV.some_ (by rw[da.o];rfl) (HF.2.2.2 bv) HF.2.1
   |none=>
    have cj:=xK (s:=O (f9 r)) (t:=[62,62]) ht;rw[cj.1,cj.2]at HC;rw[ht]at bi;go_wp2_with fail;apply HC.o.m;rintro m w2 ⟨rfl,k2⟩;obtain⟨a2,bz⟩:=b3.o.step (k:=k) (Vs:=Vs) k2 (ag _);have ad:=H a2;have bv:=H (bz cf);obtain⟨p2,h2⟩:=k2.1;have ca:=H (xP h2 {data:=#[47]} cO);rw[show bl {data:=#[47]}=[47]from rfl]at ca;go_wp2_with fail;apply ca.o.m;rintro m w3 ⟨rfl,k3⟩;obtain⟨a3,e8⟩:=ad.o.step (k:=k) (Vs:=Vs) k3 (by
     show gP (f_ [47] (f9 r))<=_;cases q:f_ [47] (f9 r)with
     |none=>simp[gP]
     |some q1=>have:=(gD q).1;simp only[gP];simp at this;omega)
    have b5:=H a3;have dl:=H (e8 bv);obtain⟨p3,h3⟩:=k3.1;have cb:=H (Jm h3);simp only[Option.bind_some]at cb b5;go_wp2_with fail;apply cb.o.m;intro m w4 ee;obtain⟨T,t4,rfl,k4,co⟩:=kV.str ee;have cc:=H co;have b8:L1 (gP t4<=gP (f_ [47] (f9 r))/\gP t4+1<=gP (O r)):=by
     rcases co with⟨_,rfl⟩|⟨ao,h1,rfl⟩;·exact⟨by simp[gP],by simp[gP]⟩
     ·cases q:f_ [47] (f9 r)with
      |none=>rw[q]at h1;cases h1
      |some q1=>rw[q]at h1;have h2:=jN _ 0 0 _ _ (show gK 0 0 q1=O (T,ao)from h1);have h3:=(gD q).1;simp only[aj,aI]at h3;exact⟨by simp only[gP];omega,by simp only[gP];omega⟩
    obtain⟨a4,e9⟩:=b5.o.step (k:=k) (Vs:=Vs) k4 b8.1;have a9:=H a4;have dn:=H (e9 dl);obtain⟨p4,h4⟩:=k4.1;have dw:=H (IH w4 p4 t4 h4);have fx:((11-k:Nat):Int)+1=((12-k:Nat):Int):=Y;have fv:11-k<=11:=Y;go_wp2_with fail;apply dw.o.m;intro m g ek;obtain⟨F,J,L,u,B,D,C,i,E,j,x,A,y,t5,rfl,k5,cp⟩:=mV.any ek;have b9:L1 (gP t5<=gP t4):=by
     rcases cp with⟨_,rfl,_⟩|⟨ac,ao,h1,rfl,_⟩;·simp[L1,gP]
     ·cases t4 with
      |none=>cases h1
      |some q2=>have:=iQ h1;simp only[L1,gP];omega
    obtain⟨a5,fb⟩:=a9.o.step (k:=k) (Vs:=Vs) k5 b9;have dp:=H (fb dn);have c9:=H cp;have bw:=λe R=>(a9.o.ownk.lt e R).2;have eb:=λe R=>(a9.o.own.lt e R).2;have gl:=k5.2.size;have gr:=ae a9.vb;have bb:LT g.heap.size g ((g.alloc (Pp #[I U F,I U J,I U L,MV u,Z B D C,Z i E j,Z x A y] 67)).alloc (Pp #[MV (ge T)] 9)):=((aq _ _).alloc (ag _) _).alloc eA _;obtain⟨a6,fd⟩:=a5.below (k:=k) (Vs:=Vs) bb;have V:=H a6;have dr:=H (fd dp);have c0:=H bb;have eq:((g.alloc (Pp #[I U F,I U J,I U L,MV u,Z B D C,Z i E j,Z x A y] 67)).alloc (Pp #[MV (ge T)] 9)).heap[g.heap.size]?=O (Pp #[I U F,I U J,I U L,MV u,Z B D C,Z i E j,Z x A y] 67 (0,0)):=mA _ (bn _ _);have d2:=H eq;have d5:=a6.cells.2.2.2.2.2.1;have e5:(g.alloc (Pp #[I U F,I U J,I U L,MV u,Z B D C,Z i E j,Z x A y] 67)).cell? ⟨w.heap.size+1,5,N⟩=O n:=(iI (mA _ a5.vb)).t rfl;have f8:=a9.o.fewk;have fz:=a9.o.few;have gc:=b8.o.2;have gd:=b9.o;have ga:=V.o.fewk;obtain⟨va,vc,bc⟩:=jp V.o.ownk;have fu:=H bc;have d4:w.heap.size+2<=((g.alloc (Pp #[I U F,I U J,I U L,MV u,Z B D C,Z i E j,Z x A y] 67)).alloc (Pp #[MV (ge T)] 9)).heap.size:=eB;have c7:L1 (∀(br:Nat) (b0:GI),[MV (ge T)][br]?=O b0->((g.alloc (Pp #[I U F,I U J,I U L,MV u,Z B D C,Z i E j,Z x A y] 67)).alloc (Pp #[MV (ge T)] 9)).cell? ((⟨g.heap.size+1,0,N⟩:L2).add br)=O b0):=by have:=yf (W:=g.alloc (Pp #[I U F,I U J,I U L,MV u,Z B D C,Z i E j,Z x A y] 67)) (a:=MV (ge T));rw[aL]at this;exact this
    have el:=V.o.ownk;subst bc;go_wp2_with (at_builtin;refine uT _ rfl (.tmp 29) (.tmp 31) 38 rfl (w.heap.size+2) 9 j0 _ 1 16 fy ji ex ey e3 rfl cO (Z va (G b) vc) (G b) (b.map λs=>MV (ge s)) rfl el ⟨g.heap.size+1,0,N⟩ 1 1 [MV (ge T)] rfl rfl c7 ?hone ?h63 ?hby ?hbs ?_)
    case hone=>intro b0 hu;simp at hu;subst hu;rfl
    case h63=>unfold maxLen;omega
    case hby=>omega
    case hbs=>exact d4
    intro gv M cw ba ct;obtain⟨a7,fi,fs⟩:=V.o.key (k:=k) (Vs:=Vs) (s:=T) cw ba (λe R=>by simpa[aL]using ct e R) (by have:=b7.o;omega);have d6:=ba.size;simp only[aL]at d6;have gs:M.frozen? ⟨w.heap.size+1,5,N⟩=P2:=by have h1:=(ba.block (w.heap.size+1) eB (λm=>by have:=(V.o.ownk.lt _ m.s).1;omega)).t V.vb;exact nG h1
    have fw:M.cell? ⟨w.heap.size+1,5,N⟩=O (Z va (G b) vc):=by have h1:=(ba.block (w.heap.size+1) eB (λm=>by have:=(V.o.ownk.lt _ m.s).1;omega)).t V.vb;exact iI h1
    obtain⟨P,Q,ec⟩:=jp cw;subst ec;have al:(M.setCell ⟨w.heap.size+1,5,N⟩ (Z P (G b+1) Q)).heap[g.heap.size]?=O (Pp #[I U F,I U J,I U L,MV u,Z B D C,Z i E j,Z x A y] 67 (0,0)):=by rw[kW _ Y,ba.block _ eB (λm=>by have:=bw _ m.s;omega)];exact d2
    have y1:(M.setCell ⟨w.heap.size+1,5,N⟩ (Z P (G b+1) Q)).cell? ⟨g.heap.size,1,N⟩=O (I U J):=iI al;have y0:(M.setCell ⟨w.heap.size+1,5,N⟩ (Z P (G b+1) Q)).cell? ⟨g.heap.size,0,N⟩=O (I U F):=iI al;have y2:(M.setCell ⟨w.heap.size+1,5,N⟩ (Z P (G b+1) Q)).cell? ⟨g.heap.size,2,N⟩=O (I U L):=iI al;have y3:(M.setCell ⟨w.heap.size+1,5,N⟩ (Z P (G b+1) Q)).cell? ⟨g.heap.size,3,N⟩=O (MV u):=iI al;have y4:(M.setCell ⟨w.heap.size+1,5,N⟩ (Z P (G b+1) Q)).cell? ⟨g.heap.size,4,N⟩=O (Z B D C):=iI al;have y5:(M.setCell ⟨w.heap.size+1,5,N⟩ (Z P (G b+1) Q)).cell? ⟨g.heap.size,5,N⟩=O (Z i E j):=iI al;have y6:(M.setCell ⟨w.heap.size+1,5,N⟩ (Z P (G b+1) Q)).cell? ⟨g.heap.size,6,N⟩=O (Z x A y):=iI al;have c4:M.cell? ⟨w.heap.size+1,4,N⟩=O l:=by have h1:=(ba.block (w.heap.size+1) eB (λm=>by have:=(V.o.ownk.lt _ m.s).1;omega)).t V.vb;exact iI h1
    have ds:=H (fi dr);have c3:L1 (∀e,(Z P (G b+1) Q).ownBlock=O e->e<w4.heap.size\/g.heap.size<=e):=λe R=>by
     rcases ct e R with h1|h1;·exact P3 (bw e h1)
     ·exact P4 Y
    have d0:L1 (∀ac,gF (λe=>w4.heap.size<=e) k g (N1 #[I U F,I U J,I U L,MV u,Z B D C,Z i E j,Z x A y]) ac->gF (λe=>w4.heap.size<=e/\e<g.heap.size) k (M.setCell ⟨w.heap.size+1,5,N⟩ (Z P (G b+1) Q)) (N1 #[I U F,I U J,I U L,MV u,Z B D C,Z i E j,Z x A y]) ac):=λac hv=>fs (Px:=λe=>w4.heap.size<=e/\e<g.heap.size) (λe R=>⟨Y,λm=>by have:=bw e m;omega⟩) (gF.keep k (gF.m k hv (λe h1 h2=>⟨h1,h2⟩)) (λe h1 h2=>c0.block e h1.2))
    have cr:(M.setCell ⟨w.heap.size+1,5,N⟩ (Z P (G b+1) Q)).heap.size=M.heap.size:=by simp[World.setCell]
    have f7:=a7.few;have ch:=((aq (M.setCell ⟨w.heap.size+1,5,N⟩ (Z P (G b+1) Q)).heap.size (M.setCell ⟨w.heap.size+1,5,N⟩ (Z P (G b+1) Q))).alloc (ag _) (Pp #[I U F,I U J,I U L,MV u,Z B D C,Z i E j,Z x A y] 67));obtain⟨a8,fr⟩:=a7.below (k:=k) (Vs:=Vs) ch;have bf:=H a8;have dv:=H (fr ds);have d1:=H (λac hv=>gF.keep k (d0 ac hv) (λe h1 h2=>ch.block e h2))
    have cn:=DZ (W:=M.setCell ⟨w.heap.size+1,5,N⟩ (Z P (G b+1) Q)) (a0:=I U F) (a1:=I U J) (a2:=I U L) (a3:=MV u) (a4:=Z B D C) (a5:=Z i E j) (a6:=Z x A y);rw[cr]at cn;have c8:=H cn;obtain⟨ua,uc,bm⟩:=jp bf.o.own;have em:=bf.o.own;subst bm;go_wp2_with (at_builtin;refine uT _ rfl (.tmp 35) (.tmp 37) 29 rfl (w.heap.size+2) 67 i0 _ 7 112 dx hi es eu ev rfl cO (Z ua (G c) uc) (G c) (c.flatMap cellsOf) rfl em ⟨M.heap.size,0,N⟩ 1 1 [I U F,I U J,I U L,MV u,Z B D C,Z i E j,Z x A y] rfl rfl c8 ?hone ?h63 ?hby ?hbs ?_)
    case hone=>exact Er F J L u B D C i E j x A y
    case h63=>unfold maxLen;omega
    case hby=>omega
    case hbs=>simp;omega
    intro cv w9 cx cl ep;have bo:G c+1+gP t5<=200001:=by have:=b7.o;omega
    obtain⟨d3,e7⟩:=bf.o.item (k:=k) (Vs:=Vs) (x:=N1 #[I U F,I U J,I U L,MV u,Z B D C,Z i E j,Z x A y]) (fo F J L u B D C i E j x A y) cx cl bo;have b4:=H d3;have c1:L1 (yW (w.heap.size+2) k aa (w9.setCell ⟨w.heap.size+1,4,N⟩ cv) t5 cv (c++[N1 #[I U F,I U J,I U L,MV u,Z B D C,Z i E j,Z x A y]]) (Z P (G b+1) Q) (b++[T])):=by
     refine⟨by rw[ak,ak,bt.o];rfl,?_⟩;rcases c9.o with⟨h1,rfl,_⟩|⟨ac,ao,h1,rfl,hv⟩
     ·show aa=N;have:=bi.o;rcases cc.o with⟨h2,rfl⟩|⟨q2,h2,rfl⟩
      ·cases q:f_ [47] (f9 r)with
       |none=>rw[q]at this;exact this.s
       |some q1=>rw[q]at this h2;simp only[Option.bind_some]at h2;simp only[h2]at this;exact this.s
      ·cases q:f_ [47] (f9 r)with
       |none=>rw[q]at h2;cases h2
       |some q1=>rw[q]at this h2;simp only[Option.bind_some]at h1 h2;simp only[h2,h1]at this;exact this.s
     ·rcases cc.o with⟨h2,rfl⟩|⟨q2,h2,rfl⟩;·cases h1
      ·have bx:=bi.o;cases q:f_ [47] (f9 r)with
       |none=>rw[q]at h2;cases h2
       |some q1=>
        rw[q]at bx h2;simp only[Option.bind_some]at h1 h2;simp only[h2,h1]at bx;refine⟨Vs++[ac],e7 (Px:=λe=>w4.heap.size<=e/\e<g.heap.size) (λe R=>⟨Y,λm=>by have:=eb e m;omega,λm=>by have:=c3.o e m;omega⟩) (d1 ac hv) (λe R=>by simpa[aL,cr]using ep e R) dv,bs,?_,?_⟩
        ·have h3:=iQ h1;have h4:=jN _ 0 0 _ _ (show gK 0 0 q1=O (T,q2)from h2);have h5:=(gD q).1;have h6:=c6.o;simp only[aj,aI]at h5;omega
        ·rw[<-bx,Hr]
    have cs:=(cl.block (w.heap.size+1) (by simp[World.setCell];omega) (λm=>by have:=(bf.o.own.lt _ m.s).1;omega)).t bf.vb;have g4:=jR 4 cs;have g5:w9.cell? ⟨w.heap.size+1,4,N⟩=O (Z ua (G c) uc):=iI cs;obtain⟨g1,g2,ea⟩:=jp cx;subst ea;obtain⟨g0,en⟩:=b4.o.sc;have c5:=H en.mS;go_wp2;go_roundw
    case rel=>exact⟨t5,_,_,_,_,b4,c1⟩
    case measure=>rw[HM.o,c5.o];omega
end
def Kp{c b:Nat}{a:List Nat}:f_ [c] (b::a)=if b=c then O a else N:=uR
def DG{c a b:Nat}{d:List Nat}:f_ [c,a] (b::d)=if b=c then f_ [a] d else N:=by
 unfold f_;by_cases h:b=c;·subst h;simp[List.isPrefixOf]
 ·simp[List.isPrefixOf,h];exact λe=>absurd e.s h
def Jv{b:Nat}(h:pB b=PV):b≠91/\b≠60/\b≠40/\b≠47:=by refine⟨?_,?_,?_,?_⟩<;>(rintro rfl;revert h;decide)
def PZ(a:Type)(r:List Nat):i7 a (f9 r)=i7 a r:=by unfold i7 gn gm;simp only[jq]
def PX(d:Type){a:List Nat}(h:pS (O a)=P2)(c:f9 a=a):i7 d a=N:=by
 have h1:gn a=[]:=by
  unfold gn;rw[c];cases a with
  |nil=>rfl
  |cons b e=>rw[cL,show pB b=P2 from h];rfl
 unfold i7;rw[h1];rfl
def value_word{k:Nat}{a:List Nat}(d:f9 a=a)(h:pS (O a)=PV):gj (k+1) a=i7 (VT k) a:=by
 cases a with
 |nil=>cases h
 |cons b e=>obtain⟨h1,h2,h3,c⟩:=Jv (show pB b=PV from h);unfold gj;rw[d];simp only[Kp,DG,ah h1,ah h2,ah h3,ah c];rfl
def qX(k:Nat):List Nat->Option (VT (k+1)×List Nat)
 | []=>N
 |b::c=>if b=91 then(jV (gj k) (G c+1) c).map λa=>((⟨6,0,0,[],a.1,[],[]⟩:gk (VT k)),a.2)
  else if b=60 then(match f_ [60] c with
   |some d=>(js (gj k) (G d+1) d).map λa=>((⟨7,0,0,[],a.1.2,a.1.1,[]⟩:gk (VT k)),a.2)
   |none=>(jQ c).map λa=>(jj (VT k) 5 0 0 a.1,a.2))
  else if b=40 then(j3 c).map λa=>(jj (VT k) 5 0 0 a.1,a.2)
  else if b=47 then(j7 c).map λa=>(jj (VT k) 4 0 0 a.1,a.2)
  else N
def vm{k:Nat}{a:List Nat}(d:f9 a=a)(h:pS (O a)=P2):gj (k+1) a=qX k a:=by
 have e:=PX (VT k) h d;cases a with
 |nil=>exact(show gj (k+1) []=i7 (VT k) []from rfl).t e
 |cons b f=>
  unfold gj qX;rw[d];simp only[Kp,DG];by_cases h1:b=91;·rw[ai h1,ai h1]
  ·rw[ah h1,ah h1];by_cases h2:b=60
   ·simp only[ai h2];cases f_ [60] f<;>rfl
   ·simp only[ah h2];by_cases h3:b=40;·simp only[ai h3]
    ·simp only[ah h3];by_cases c:b=47;·simp only[ai c]
     ·simp only[ah c];exact e
def AV(k:Nat){a:List Nat}(h:j7 a=N):qX k (47::a)=N:=by show((j7 a).map λb=>(jj (VT k) 4 0 0 b.1,b.2))=N;rw[h];rfl
def AW(k:Nat){a b c:List Nat}(h:j7 a=O (b,c)):qX k (47::a)=O (jj (VT k) 4 0 0 b,c):=by show((j7 a).map λd=>(jj (VT k) 4 0 0 d.1,d.2))=_;rw[h];rfl
def AX(k:Nat){a:List Nat}(h:j3 a=N):qX k (40::a)=N:=by show((j3 a).map λb=>(jj (VT k) 5 0 0 b.1,b.2))=N;rw[h];rfl
def AY(k:Nat){a b c:List Nat}(h:j3 a=O (b,c)):qX k (40::a)=O (jj (VT k) 5 0 0 b,c):=by show((j3 a).map λd=>(jj (VT k) 5 0 0 d.1,d.2))=_;rw[h];rfl
def DN(k:Nat){b:List Nat}(h:f_ [60] b=N):qX k (60::b)=((jQ b).map λa=>((jj (VT k) 5 0 0 a.1:VT (k+1)),a.2)):=by
 have d:qX k (60::b)=match f_ [60] b with
   |some c=>((js (gj k) (G c+1) c).map λa=>(((⟨7,0,0,[],a.1.2,a.1.1,[]⟩:gk (VT k)):VT (k+1)),a.2))
   |none=>((jQ b).map λa=>((jj (VT k) 5 0 0 a.1:VT (k+1)),a.2)):=rfl
 rw[d,h];rfl
def AR(k:Nat){a:List Nat}(b:f_ [60] a=N)(h:jQ a=N):qX k (60::a)=N:=(DN k b).t (by rw[h];rfl)
def AU(k:Nat){a b c:List Nat}(d:f_ [60] a=N)(h:jQ a=O (b,c)):qX k (60::a)=O (jj (VT k) 5 0 0 b,c):=(DN k d).t (by rw[h];rfl)
def AP(k:Nat){a:List Nat}(h:jV (gj k) (G a+1) a=N):qX k (91::a)=N:=by show((jV (gj k) (G a+1) a).map λb=>((⟨6,0,0,[],b.1,[],[]⟩:gk (VT k)),b.2))=N;rw[h];rfl
def AQ(k:Nat){a c:List Nat}{b:List (VT k)}(h:jV (gj k) (G a+1) a=O (b,c)):qX k (91::a)=O ((⟨6,0,0,[],b,[],[]⟩:gk (VT k)),c):=by show((jV (gj k) (G a+1) a).map λd=>((⟨6,0,0,[],d.1,[],[]⟩:gk (VT k)),d.2))=_;rw[h];rfl
