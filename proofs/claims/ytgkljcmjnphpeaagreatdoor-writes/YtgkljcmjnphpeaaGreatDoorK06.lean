import Derived.Test.YtgkljcmjnphpeaaGreatDoorK05
set_option linter.defProp false
set_option linter.unusedVariables false
set_option linter.unusedSimpArgs false
set_option maxHeartbeats 8000000
set_option maxRecDepth 100000
open List renaming length->G
open Go.Value renaming pointer->A3,tuple->BG,agg->Bc,bool->Bs,int->I,slice->Z,string->y7
open Go.Obj renaming cells->BV
open Go.Ending renaming returned->BX
open Or renaming inl->C1,inr->C2
open Bool renaming true->CD,false->CS
open Go.Proofs.Tryz renaming prog->DG
open List renaming replicate->DJ
open Option renaming none->N,some->O
open Go.IntKind renaming i64->U
open Go renaming World->vz,Addr->wT,Value->wg,Calls->wh,Ending->xc
open Go.RowKit renaming Below->wm,Hid->wt
open Go.Proofs.Tryz
namespace Go.Proofs.YtgkljcmjnphpeaaGreatDoor
open Go.RowKit
section
variable{f:Nat}{S:ByteArray}{w w' g:vz}{p:Nat}{s:Option (List Nat)}{i:wg}{d:List Nat}
def ij(s:Option (List Nat)):Nat:=match s with
 |some r=>G r+1
 |none=>0
def mS(f:Nat)(S:ByteArray)(w:vz):Nat:=match w.cell? ⟨f,2,N⟩with
 |some (Bs CD)=>0
 |_=>S.size-posOf f w+1
def Sn.mS(h:Sn f S w p s):mS f S w=ij s:=by
 unfold Go.Proofs.YtgkljcmjnphpeaaGreatDoor.mS;rw[h.c2,h.posOf];cases s with
 |none=>rfl
 |some r=>simp only[Option.isNone_some];show _=G r+1;rw[h.len]
structure Bg(E:TypeId)(F:Nat->wg)(g:vz)(f:Nat)(S:ByteArray)(w:vz)(s:Option (List Nat))(i:wg)(d:List Nat):Prop where
 sc:∃p,Sn f S w p s
 own:w.ownsRow g.heap.size E 1 i (G d) (d.map F)
 only:iJ f g w
 lt:f<g.heap.size
 few:G d+ij s<=200001
abbrev Bn:=Bg 5 (λa:Nat=>I .u8 (a:Int))
variable{E:TypeId}{F:Nat->wg}
def Bg.start(h:Sn f S w p s):Bg E F w f S w s (Z N 0 0) []:=
 ⟨⟨p,h⟩,bI _ _ _ _,iJ.refl _ _,h.lt,by
  have:=h.ls;cases s with
  |none=>simp[ij]
  |some r=>have:=h.len;simp[ij];omega⟩
def Bg.step{t:Option (List Nat)}(h:Bg E F g f S w s i d)(k:kJ f S w w' t)(a:ij t<=ij s):Bg E F g f S w' t i d:=
 ⟨k.1,Bw h.own k.2 h.lt,h.only.t k.2,h.lt,by have:=h.few;omega⟩
def Bg.drewN(h:Bg E F g f S w s i d)(a:Nat):Bg E F g f S (w.drewN a) s i d:=by obtain⟨p,k⟩:=h.sc;exact h.step (k.toS.drewN a) (ag _)
def Bg.alloc(h:Bg E F g f S w s i d)(a:Obj):Bg E F g f S (w.alloc a) s i d:=by obtain⟨p,k⟩:=h.sc;exact h.step ⟨⟨p,k.other ((ar _ _).alloc (ag _) a)⟩,.of_below ((ar _ _).alloc (ag _) a)⟩ (ag _)
def Bg.sz(h:Bg E F g f S w s i d):g.heap.size<=w.heap.size:=h.only.size
def Bg.app(h:Bg E F g f S w s i d){j:wg}{xs:List Nat}{e:Nat}(m:e=G d+G xs)(n:w'.ownsRow g.heap.size E 1 j e ((d.map F)++(xs.map F)))(a:w.grownBy w' i.ownBlock)
  (o:G d+G xs+ij s<=200001):Bg E F g f S w' s j (d++xs):=by
 subst m;have c:=λk b=>a.block k (by have:=h.sz;omega) (MR h.own b);obtain⟨p,k⟩:=h.sc;refine⟨⟨p,⟨by rw[c _ h.lt];exact k.blk,k.lp,k.ls,k.rest⟩⟩,?_,?_,h.lt,by rw[ab];omega⟩;·rw[ab,aI];exact n
 ·exact⟨a.os.t h.only.os,a.tape.t h.only.tape,a.output.t h.only.output,aJ h.sz a.size,λk b l=>(c k b).t (h.only.block k b l)⟩
def mh(f:Nat)(S:ByteArray){c:Type}(j:vz->c->wg->Prop)(e:vz->wg->Prop)(h:Option (c×List Nat))(w:vz)(b:xc)(w':vz):Prop:=match h with
 |some (a,q)=>∃v,b=BX v/\j w' a v/\kJ f S w w' (O q)
 |none=>∃v,b=BX v/\e w' v/\kJ f S w w' N
def mh.some_{b:Type}{e:vz->b->wg->Prop}{j:vz->wg->Prop}{c:Option (b×List Nat)}{a:b}{q:List Nat}{v:wg}(h:c=O (a,q))(l:e w' a v)(k:kJ f S w w' (O q)):mh f S e j c w (BX v) w':=by subst h;exact⟨v,rfl,l,k⟩
def mh.none_{e:Type}{l:vz->e->wg->Prop}{b:vz->wg->Prop}{c:Option (e×List Nat)}{a:wg}(h:c=N)(j:b w' a)(k:kJ f S w w' N):mh f S l b c w (BX a) w':=by subst h;exact⟨a,rfl,j,k⟩
def aS(_:vz)(b:wg):Prop:=∃a:ByteArray,b=y7 a/\a.size<=200001
def qy(a:Option (List Nat×List Nat))(d:List Nat)(s:Option (List Nat)):Prop:=match s with
 |some r=>m_ d (ir 0 0 r)=a
 |none=>a=N
def namePart(b:Nat)(a:List Nat):Option (Nat×List Nat):=
 if b<33\/126<b then N else if b=35 then(two a).filter (λc=>c.1 != 0)else O (b,a)
def name_part{b:Nat}{k:List Nat}(n:pB b=CD):ir 0 0 (b::k)=(namePart b k).bind λa=>(ir 0 0 a.2).map λj=>(a.1::j.1,j.2):=by
 unfold namePart;simp only[ir,n,Bool.true_eq_false,if_false];by_cases c:b<33\/126<b;·rw[ak c,ak c];rfl
 ·rw[aj c,aj c];by_cases e:b=35
  ·rw[ak e,ak e];match k with
   | []=>rfl
   | [a]=>simp only[ir,two];cases iG a<;>rfl
   |a::j::r=>
    simp only[ir,two];cases iG a with
    |none=>rfl
    |some l=>
     simp only[];cases iG j with
     |none=>rfl
     |some m=>
      simp only[Option.filter];by_cases h:16*l+m=0;·rw[ak h,aj (by rw[h];decide)];rfl
      ·rw[aj h,ak (bne_iff_ne.2 h)];rfl
  ·rw[aj e,aj e];rfl
def qy.part{a:Option (List Nat×List Nat)}{b:Nat}{e:List Nat}(h:qy a d (O (b::e)))(m:pB b=CD):match namePart b e with
  |some (k,j)=>qy a (d++[k]) (O j)
  |none=>a=N:=by
 have c:m_ d (ir 0 0 (b::e))=a:=h;rw[name_part m]at c;cases l:namePart b e with
 |none=>rw[l]at c;exact c.s
 |some n=>obtain⟨k,j⟩:=n;rw[l]at c;show m_ (d++[k]) (ir 0 0 j)=a;rw[<-FZ];exact c
def two_len{r j:List Nat}{e:Nat}(h:two r=O (e,j)):G j+2=G r/\e<256:=by
 match r with
 | []=>cases h
 | [k]=>cases h
 |k::l::r=>
  simp only[two]at h;cases a:iG k with
  |none=>rw[a]at h;cases h
  |some m=>
   cases c:iG l with
   |none=>rw[a,c]at h;cases h
   |some b=>rw[a,c]at h;cases h;have:=yG a;have:=yG c;exact⟨cO,Y⟩
def Gs(h:Sn f S w p s):wh DG 225 #[A3 (O ⟨f,0,N⟩)] w (mh f S wZ aS (s.bind ld) w):=by
 obtain⟨i0,hi,bv,bw,bx⟩:=bR infoByte;have a8:=H (Bg.start h:Bn w f S w s _ _);obtain⟨n,hR⟩:∃n,s.bind ld=n:=⟨_,rfl⟩;rw[hR];have j:wt (qy n [] s):=by
  unfold Hid;rw[<-hR];cases s with
  |none=>rfl
  |some r=>show m_ [] (ir 0 0 r)=ir 0 0 r;unfold m_;cases ir 0 0 r<;>simp
 go_in
 go_wp2;go_loopw [3] (λi wr=>∃(C:Option (List Nat)) (d:List Nat),wt (Bn w f S wr C i d)/\wt (qy n d C)) (λ_ wr=>mS f S wr)
 case atStart=>exact⟨s,[],a8,j⟩
 case round=>
  obtain⟨C,d,t,j⟩:=hrel;obtain⟨p,ao⟩:=t.o.sc;have A:=H (Fx ao);have HM:=H ao.mS;have L:=H ao;cases k:pS C with
  |false=>
   rw[k]at A;have bh:=λa0=>AU (t.drewN a0).own;have a7:(gj d).size=G d:=by unfold gj;simp[ByteArray.size]
   have b0:=t.o.few;obtain⟨ad,hT⟩:∃ad,gj d=ad:=⟨_,rfl⟩;rw[hT]at bh a7;have HT:=H hT;go_wp2_with fail;apply A.o.m;rintro u w1 ⟨rfl,a0,rfl⟩;go_wp2;go_ret;have q:=t.o.drewN a0;match C,j,k,q with
   |none,j,_,q=>exact mh.none_ j ⟨ad,rfl,Y⟩ ⟨q.sc,q.only⟩
   |some [],j,_,q=>refine mh.some_ (a:=d) (q:=[]) ?_ (by rw[wZ,HT.o];rfl) ⟨q.sc,q.only⟩;have:=j.o;unfold qy at this;simp only[ir,m_,bK,bP]at this;exact this.s
   |some (b::r),j,k,q=>refine mh.some_ (a:=d) (q:=b::r) ?_ (by rw[wZ,HT.o];rfl) ⟨q.sc,q.only⟩;have this:m_ d (ir 0 0 (b::r))=n:=j.o;rw[nameS_end (q:=b::r) k]at this;simp only[m_,bK,bP]at this;exact this.s
  |true=>
   match C,j,k,t,A,HM,L with
   |none,_,k,_,_,_,_=>cases k
   |some [],_,k,_,_,_,_=>cases k
   |some (b::r),j,k,t,A,HM,L=>
   rw[k]at A;have a3:=H (j.part k);have hb:=L.o.bytes b cO;go_wp2_with fail;apply A.o.m;rintro u w1 ⟨rfl,m1,rfl⟩;have a2:=H (xg (L.drewN m1));simp only[kG]at a2;go_wp2_with fail;apply a2.o.m;rintro u w1 ⟨rfl,m2,rfl⟩;have bd:=H (yI ((L.drewN m1).drewN m2));have bc:=H ((t.drewN m1).drewN m2);generalize (wr.drewN m1).drewN m2=W2 at *;go_wp2_with fail;apply bd.o.m;rintro u w3 ⟨rfl,h3,o3⟩;have ac:=H (bc.step ⟨⟨_,h3⟩,o3⟩ mT);have H3:=H h3;simp only[bK,List.tail_cons]at ac H3;have a9:=H (t.few)
   go_upto_region 7 with fail
   go_cut [21]from 6 to 36 (λtv R=>tv=Bs (decide (b<33\/126<b))/\R=w3)
   case first=>
    by_cases e:b<33
    ·have Q:decide ((b:Int)<33)=CD:=eS;go_wp2
     go_meet
     case rel=>exact⟨by simp[e],rfl⟩
    ·have Q:decide ((b:Int)<33)=CS:=eS;have t2:decide ((126:Int)<(b:Int))=decide (b<33\/126<b):=by rw[bO];omega
     go_wp2
     go_meet
     case rel=>exact⟨by simp[e],rfl⟩
   case rest=>
   obtain⟨rfl,rfl⟩:=hcut
   go_upto_if 21 with fail
   go_cut [5]from 6 to 36 (λcv R=>cv=I U (b:Nat)/\∃D:Option (List Nat),wt (Bn w f S R D u3 d)/\wt (D=if b<33\/126<b then N else O r))
   case first=>
    by_cases y:b<33\/126<b
    ·have v:=H (tZ H3);rw[aH y];go_wp2_with fail;apply v.o.m;rintro u w4 ⟨rfl,h4,o4⟩;have z:=H (ac.step ⟨⟨_,h4⟩,o4⟩ mT);go_wp2
     go_meet
     case rel=>exact⟨rfl,N,z,by unfold Hid;rw[ak y]⟩
    ·rw[av y];go_wp2
     go_meet
     case rel=>exact⟨rfl,O r,ac,by unfold Hid;rw[aj y]⟩
   case rest=>
    obtain⟨rfl,Q,z,a4⟩:=hcut
    go_upto_if 25 with fail
    go_cut [5]from 6 to 36 (λcv R=>∃(al:Int) (D:Option (List Nat)),cv=I U al/\wt (Bn w f S R D u3 d)/\ij D<=G r+1/\wt (∃c:Nat,c<256/\IntKind.u8.wrap al=(c:Int)/\qy n (d++[c]) D))
    case first=>
     by_cases a6:b=35
     ·have t2:((b:Int)==35)=CD:=eS;have x:=a4.o;have e:=a3.o;unfold namePart at e;rw[aj Y]at e x;rw[ak a6]at e;subst x;have J:=H e;obtain⟨p4,bs⟩:=z.o.sc;have M:=H (RC bs);simp only[Option.bind_some]at M;cases X:two r with
      |some a1=>
       obtain⟨l,P⟩:=a1;have b1:=two_len X;rw[X]at M J;go_wp2_with fail;apply M.o.m;rintro u w5 ⟨rfl,k5⟩;have m:=H (z.step k5 oj);by_cases B:l=0
       ·have t3:((l:Int)==0)=CD:=eS;have K:wt (n=N):=by have:=J.o;simp only[Option.filter,B]at this;exact this
        obtain⟨p5,W⟩:=m.o.sc;have v:=H (tZ W);go_wp2_with fail;apply v.o.m;rintro u w6 ⟨rfl,V,o6⟩;have aa:=H (m.step ⟨⟨_,V⟩,o6⟩ mT);go_wp2
        go_meet
        case rel=>exact⟨_,N,rfl,aa,by simp[ij],⟨l,Y,by rw[cA];omega,K⟩⟩
       ·have t3:((l:Int)==0)=CS:=eS;have K:wt (qy n (d++[l]) (O P)):=by have:=J.o;simp only[Option.filter,bne_iff_ne.2 B,if_true]at this;exact this
        go_wp2
        go_meet
        case rel=>exact⟨_,O P,rfl,m,by simp only[ij];omega,⟨l,Y,by rw[cA];omega,K⟩⟩
      |none=>
       rw[X]at M J;clear X;have K:wt (n=N):=J.o;go_wp2_with fail;apply M.o.m;rintro u w5 ⟨⟨l,rfl,b2,b3⟩,k5⟩;have m:=H (z.step k5 mT);clear k5;have a5:wt (∃c:Nat,c<256/\IntKind.u8.wrap l=(c:Int)/\qy n (d++[c]) N):=
        ⟨(IntKind.u8.wrap l).toNat,by rw[cA];omega,by rw[cA];omega,K⟩
       by_cases B:l=0
       ·have t3:(l==0)=CD:=by simp[B]
        obtain⟨p5,W⟩:=m.o.sc;have v:=H (tZ W);clear W B;go_wp2_with fail;apply v.o.m;rintro u w6 ⟨rfl,V,o6⟩;have aa:=H (m.step ⟨⟨_,V⟩,o6⟩ mT);clear V o6;go_wp2
        go_meet
        case rel=>exact⟨_,N,rfl,aa,by simp[ij],a5⟩
       ·have t3:(l==0)=CS:=by simp[B]
        go_wp2
        go_meet
        case rel=>exact⟨_,N,rfl,m,by simp[ij],a5⟩
     ·have t2:((b:Int)==35)=CS:=eS;have T:wt (ij Q<=G r+1/\∃c:Nat,c<256/\IntKind.u8.wrap (b:Int)=(c:Int)/\qy n (d++[c]) Q):=by
       have e:=a3.o;have x:=a4.o;unfold namePart at e;unfold Hid;by_cases y:b<33\/126<b
       ·rw[ak y]at e x;subst x;exact⟨by simp[ij],b,hb,by rw[cA];omega,e⟩
       ·rw[aj y]at e x;rw[aj a6]at e;subst x;exact⟨by simp[ij],b,hb,by rw[cA];omega,e⟩
      go_wp2
      go_meet
      case rel=>exact⟨_,Q,rfl,z,T.1,T.2⟩
    case rest=>
     obtain⟨al,t2,rfl,m,br,T⟩:=hcut;obtain⟨c,hz,b4,v⟩:=T.o;have bb:=H v;have bf:=a9.o;have a7:=m.o.sz;simp only[ij,ai]at bf;go_wp2_with (at_builtin;refine aX _ rfl (.tmp 32) (.tmp 35) 23 rfl w.heap.size 5 i0 (I .u8 0) 1 1 az hi bv bw bx rfl bF u3 (G d) _ rfl (m.alloc _).own ⟨wc.heap.size,0,N⟩ 1 1 ([c].map λa1:Nat=>I .u8 (a1:Int)) rfl rfl (Bu.one_news c wc) ?hone ?h63 ?hby ?hbs ?_)
     case hone=>intro b5 hu;simp at hu;subst hu;rfl
     case h63=>unfold maxLen;omega
     case hby=>omega
     case hbs=>simp;omega
     intro v6 w6 bz bm _;have H6:=H ((m.alloc _).app (xs:=[c]) cO bz bm (by simp only[ai,aB];omega));obtain⟨p6,bt⟩:=H6.o.sc;have ba:=H bt.mS;go_wp2;go_roundw
     case rel=>exact⟨_,d++[c],H6,bb⟩
     case measure=>rw[HM.o,ba.o];simp only[ij,ai]at br ⊢;omega
end
section
variable{y:Nat}{S:ByteArray}{w w' B:vz}{p:Nat}{s:Option (List Nat)}{A:wg}{v:List Nat}
def vH:List Nat->Int
 | []=> -1
 |a::_=>(a:Nat)
def rY(y:Nat)(S:ByteArray)(c:Option (List Nat×List Nat))(w:vz)(b:xc)(w':vz):Prop:=match c with
 |some (l,d)=>b=BX (I U (vH l))/\kJ y S w w' (O d)
 |none=>(∃a:Int,b=BX (I U a) /\ -1000<=a/\a<=1000)/\kJ y S w w' N
def rY.some_{a:Option (List Nat×List Nat)}{l q:List Nat}(h:a=O (l,q))(k:kJ y S w w' (O q)):rY y S a w (BX (I U (vH l))) w':=by subst h;exact⟨rfl,k⟩
def rY.none_{b:Option (List Nat×List Nat)}{a:Int}(h:b=N)(c : -1000<=a/\a<=1000)(k:kJ y S w w' N):rY y S b w (BX (I U a)) w':=by subst h;exact⟨⟨a,rfl,c⟩,k⟩
def yl(s:Option (List Nat)):Bool:=match s with
 |some r=>oH r
 |none=>CS
def Gu(s:Option (List Nat)):yl s=(decide (48<=kG s)&&decide (kG s<=55)):=by
 match s with
 |none=>rfl
 |some []=>rfl
 |some (b::r)=>show(decide (48<=b)&&decide (b<=55))=(decide ((48:Int)<=(b:Int))&&decide ((b:Int)<=55));rw[cH];simp only[a_,bT];omega
def uB(k a:Nat)(s:Option (List Nat)):Nat×Option (List Nat):=match s with
 |some r=>((lA k a r).1,O (lA k a r).2)
 |none=>(a,N)
def RK{k a:Nat}(h:k=0\/yl s=CS):uB k a s=(a,s):=by
 cases s with
 |none=>rfl
 |some r=>
  unfold uB;cases k with
  |zero=>simp[lA]
  |succ k=>
   rcases h with h|h;·cases h
   ·have:oH r=CS:=h;simp[lA,this]
def Br{k a:Nat}(h:yl s=CD):uB (k+1) a s=uB k (8*a+(kG s-48).toNat) (s.map List.tail):=by
 match s with
 |none=>cases h
 |some []=>cases h
 |some (b::r)=>have c:oH (b::r)=CD:=h;simp only[uB,lA,c,if_true,bK,List.tail_cons,List.headD_cons,kG];have:((b:Int)-48).toNat=b-48:=Y;rw[this]
def Qc(a:Nat)(h:a<8):lk (nth (bl {data:=#[110,114,116,98,102,40,41,92]}) a)=O (nth (bl {data:=#[10,13,9,8,12,40,41,92]}) a):=by have:∀a:Nat,a<8->lk (nth (bl {data:=#[110,114,116,98,102,40,41,92]}) a)=O (nth (bl {data:=#[10,13,9,8,12,40,41,92]}) a):=bF;exact this a h
def Qb{b:Nat}(h:∀k:Nat,k<8->nth (bl {data:=#[110,114,116,98,102,40,41,92]}) k≠b):lk b=N:=by have a:=h 0 Y;have c:=h 1 Y;have d:=h 2 Y;have e:=h 3 Y;have f:=h 4 Y;have g:=h 5 Y;have i:=h 6 Y;have j:=h 7 Y;have l:bl {data:=#[110,114,116,98,102,40,41,92]}=[110,114,116,98,102,40,41,92]:=rfl;rw[l]at a c d e f g i j;simp[nth]at a c d e f g i j;unfold lk;rw[aj Y,aj Y,aj Y,aj Y,aj Y,aj Y]
def O_(e:nL s=CS)(f:yl s=CD){b:Nat}{d:Option (List Nat)}(a:uB 3 0 s=(b,d)):(b<=255->∃c,d=O c/\s.bind jk=O ([b],c))/\(255<b->s.bind jk=N):=by
 cases s with
 |none=>cases f
 |some r=>
  have g:iq r=N:=by
   cases l:iq r with
   |none=>rfl
   |some m=>unfold nL at e;simp[l]at e
  have i:oH r=CD:=f;unfold uB at a;simp only[Prod.mk.injEq]at a;obtain⟨a,j⟩:=a;have k:jk r=if(lA 3 0 r).1<=255 then O ([(lA 3 0 r).1],(lA 3 0 r).2)else N:=by unfold jk;rw[g];show(if oH r=CD then _ else _)=_;rw[ak i];rfl
  show(_->∃c,_/\jk r=_)/\(_->jk r=_);rw[k];subst a;exact⟨λh=>⟨_,j.s,by rw[ak h]⟩,λh=>by rw[aj Y]⟩
def F5(s:Option (List Nat)):Option (List Nat×List Nat):=match s with
 |some (b::r)=>(lk b).map λa=>([a],r)
 |_=>N
def OQ(c:nL s=CS)(e:yl s=CS):s.bind jk=F5 s:=by
 match s with
 |none=>rfl
 |some []=>rfl
 |some (b::r)=>
  have d:iq (b::r)=N:=by
   cases g:iq (b::r)with
   |none=>rfl
   |some h=>unfold nL at c;simp[g]at c
  have f:oH (b::r)=CS:=e;show jk (b::r)=(lk b).map λa=>([a],r);unfold jk;rw[d];show(if oH (b::r)=CD then _ else _)=_;rw[aj (by rw[f];decide)];show(match lk b with|none=>N|some a=>O ([a],r))=_;cases lk b<;>rfl
def Ru(h:Sn y S w p s):wh DG 285 #[A3 (O ⟨y,0,N⟩)] w (rY y S (s.bind jk) w):=by
 obtain⟨al,hR⟩:∃al,s.bind jk=al:=⟨_,rfl⟩;rw[hR];have W:=H (Il h);cases z:nL s with
 |true=>
  have HE:wt (∃t,al=O ([],t)/\mV s=O t):=by
   unfold Hid;cases s with
   |none=>cases z
   |some r=>
    cases T:iq r with
    |none=>unfold nL at z;simp[T]at z
    |some t=>exact⟨t,by rw[<-hR];simp[jk,T],by unfold mV;simp[T]⟩
  rw[z]at W;clear h hR
  go_in
  go_wp2_with fail;apply W.o.m;rintro f w1 ⟨rfl,k1⟩;go_wp2;go_ret;obtain⟨t,x,e⟩:=HE.o;rw[e]at k1;exact rY.some_ x k1
 |false=>
  have bm:wt (mV s=s):=by
   unfold Hid mV;cases s with
   |none=>rfl
   |some r=>
    cases T:iq r with
    |none=>simp[T]
    |some t=>unfold nL at z;simp[T]at z
  rw[z,bm.o]at W;have a1:=H (λ(e:yl s=CD) (E:Nat) (F:Option (List Nat)) (h3:uB 3 0 s=(E,F))=>O_ z e h3);have ao:=H (λe=>OQ z e);rw[hR]at a1 ao;obtain⟨E,F,bv⟩:∃E F,uB 3 0 s=(E,F):=⟨_,_,rfl⟩;have aa:=H bv;clear h z hR bm bv;obtain⟨n,hM⟩:∃n:ByteArray,n={data:=#[110,114,116,98,102,40,41,92]}:=⟨_,rfl⟩;obtain⟨M,a5⟩:∃M:ByteArray,M={data:=#[10,13,9,8,12,40,41,92]}:=⟨_,rfl⟩;have HY:=H Qc;have HN:=H (λb=>@Qb b);rw[<-hM]at HY HN;rw[<-a5]at HY;have bd:n.size=8:=by rw[hM];rfl
  have bf:M.size=8:=by rw[a5];rfl
  have bt:=H (And.intro bd bf);clear bd bf
  go_in
  rw[<-hM,<-a5];clear hM a5;go_wp2_with fail;apply W.o.m;rintro f w1 ⟨rfl,⟨p1,x⟩,o1⟩;have C:=H (xg x);have H1:=H x;have O1:=H o1;have cd:=Gm s;have ca:=x.now;clear x o1 W;go_wp2_with fail;apply C.o.m;rintro f w2 ⟨rfl,m2,rfl⟩;have H2:=H (H1.drewN m2);have O2:=H (O1.drewN m2);generalize w1.drewN m2=W2 at *;clear C H1 O1;have g:=H (show kG s=kG s from rfl);go_wp2_with fail;go_loopw [5,6] (λnv kv wr=>∃(d k p3:Nat) (a:Option (List Nat)),nv=I U (d:Nat)/\kv=I U (k:Nat)/\k<=3/\d<8^k/\wt (Sn y S wr p3 a)/\wt (iJ y w wr)/\wt (uB (3-k) d a=(E,F))/\wt (k=0->a=s)/\wt (0<k->yl s=CD)) (λ_ _ wr=>mS y S wr)
  case atStart=>exact⟨0,0,p1,s,rfl,rfl,Y,Y,H2,O2,aa,λ_=>rfl,λh=>absurd h Y⟩
  case round=>
   obtain⟨d,k,p3,a,rfl,rfl,hk,hn,u,HO,HQ,a3,a4⟩:=hrel;have C:=H (xg u);have HM:=H u.mS;have ce:=Gm a;have cc:=u.o.now;by_cases i:k<3/\yl a=CD
   ·have K:=i.2;rw[Gu,a_,bT,bT]at K;have a9:wt (uB (3-(k+1)) (8*d+(kG a-48).toNat) (a.map List.tail)=(E,F)):=by unfold Hid;rw[<-HQ.o,show 3-k=(3-(k+1))+1 by omega,Br i.2]
    have b5:wt (yl s=CD):=by
     rcases d_ k with J|J
     ·have:=a3.o J;unfold Hid;rw[<-this];exact i.2
     ·exact a4 J
    have bc:8^k<=64:=by
     have:k<=2:=Y;calc 8^k<=8^2:=aY Y this
      _=64:=rfl
    have bx:ij (a.map List.tail)<ij a:=by
     match a,i.2 with
     |none,h=>cases h
     |some [],h=>cases h
     |some (b::r),_=>simp[ij]
    have bb:8*d+(kG a-48).toNat<8^(k+1):=Y;have a6:=H bb;have t1:decide ((k:Int)<3)=CD:=eS;obtain⟨q,ba⟩:∃q:Nat,kG a=(q:Int):=⟨(kG a).toNat,Y⟩;rw[ba]at C a9 a6 K bb;rw[show((q:Int)-48).toNat=q-48 by omega]at a9 a6;have t2:decide ((48:Int)<=(q:Int))=CD:=eS;have t3:decide ((q:Int)<=(55:Int))=CD:=eS;have cp:d<64:=Y;have b4:=H (show(8*(d:Int)+(q:Int)-48=((8*d+(q-48):Nat):Int))by omega);have b0:=H i;have b2:=H bx;have bw:=ba;clear i ba bc bx bb ce cc;have bh:=H bw;clear bw;go_wp2_with fail;apply C.o.m;rintro f w3 ⟨rfl,m,rfl⟩;have X:=H (xg (u.drewN m));rw[bh.o]at X;go_wp2_with fail;apply X.o.m;rintro f w3 ⟨rfl,P,rfl⟩;have ac:=H ((u.drewN m).drewN P);have D:=H ((HO.drewN m).drewN P);generalize (wr.drewN m).drewN P=W4 at *;have a8:=H (xg ac);rw[bh.o]at a8;go_wp2_with fail;apply a8.o.m;rintro f w3 ⟨rfl,m5,rfl⟩;have ad:=H (yI (ac.drewN m5));have O3:=H (D.drewN m5);generalize W4.drewN m5=W3 at *;clear C X a8 D ac;go_wp2_with fail;apply ad.o.m;rintro f w4 ⟨rfl,R,o4⟩;have b3:=H R.mS;have V:=H R;have D:=H (O3.t o4);clear R o4 ad O3;go_wp2;go_roundw
    case rel=>exact⟨8*d+(q-48),k+1,_,a.map List.tail,by rw[<-b4.o],rfl,by have:=b0.o.1;omega,a6,V,D,a9,λh=>absurd h Y,λ_=>b5⟩
    case measure=>rw[HM.o,b3.o];exact b2
   ·have HX:wt (E=d/\F=a):=by
     have:=HQ.o;rw[RK (by
      rcases cW k 3 with h|h;·exact C2 (by cases e:yl a with|false=>rfl|true=>exact absurd ⟨h,e⟩ i)
      ·exact C1 Y)]at this
     cases this;exact⟨rfl,rfl⟩
    have br:=aa.o
    go_upto_region 7 with fail
    go_cut [24]from 13 to 34 (λtv wx=>tv=Bs CS/\wt (Sn y S wx p3 a)/\wt (iJ y w wx))
    case first=>
     rcases cW k 3 with h3|h3
     ·have t1:decide ((k:Int)<3)=CD:=eS;have K:yl a=CS:=by cases e:yl a with|false=>rfl|true=>exact absurd ⟨h3,e⟩ i
      rw[Gu]at K;clear i;by_cases b9:48<=kG a
      ·have t2:decide ((48:Int)<=kG a)=CD:=eS;have t3:decide (kG a<=(55:Int))=CS:=by simpa[b9]using K
       go_wp2_with fail;apply C.o.m;rintro f w3 ⟨rfl,m,rfl⟩;have X:=H (xg (u.drewN m));go_wp2_with fail;apply X.o.m;rintro f w3 ⟨rfl,P,rfl⟩;have ac:=H ((u.drewN m).drewN P);have D:=H ((HO.drewN m).drewN P);generalize (wr.drewN m).drewN P=W4 at *;go_wp2
       go_meet
       case rel=>exact⟨rfl,ac,D⟩
      ·have t2:decide ((48:Int)<=kG a)=CS:=eS;go_wp2_with fail;apply C.o.m;rintro f w3 ⟨rfl,m,rfl⟩;go_wp2
       go_meet
       case rel=>exact⟨rfl,u.drewN m,HO.drewN m⟩
     ·have t1:decide ((k:Int)<3)=CS:=eS;go_wp2
      go_meet
      case rel=>exact⟨rfl,u,HO⟩
    case rest=>
     obtain⟨rfl,a2,a0⟩:=hcut;clear u HO C HM;rcases d_ k with J|J
     ·have bz:=a3.o J;have K:yl s=CS:=by
       cases e:yl s with
       |false=>rfl
       |true=>exact absurd ⟨Y,by rw[bz];exact e⟩ i
      have bs:=H (ao K);subst bz;subst J;clear i K a3 a4 HX HQ ao a1 aa br g hn;have ad:=H (yI a2);have bd:=bt.o.1;have bf:=bt.o.2;go_wp2_with fail;apply ad.o.m;rintro f w4 ⟨rfl,R,o4⟩;have V:=H R;have D:=H (a0.t o4);clear R o4 ad a0;obtain⟨Q,hc⟩:∃Q,kG a=Q:=⟨_,rfl⟩;rw[hc];rw[hc]at cd ca;have g:=H hc;clear hc;go_wp2_with fail;go_loopw [7] (λiv wr=>∃c:Nat,c<=8/\iv=I U (c:Nat)/\wr=w4/\wt (∀j,j<c->(nth (bl n) j:Int)≠Q)) (λiv _=>8-(intOf iv).toNat)
      case atStart=>exact⟨0,Y,rfl,rfl,λj hj=>absurd hj (Nat.not_lt_zero _)⟩
      case round=>
       obtain⟨c,hi,rfl,rfl,HI⟩:=hrel;rcases aC hi with b7|cf
       ·have L:wt (al=N):=by
         unfold Hid;rw[bs.o];match a,g with
         |none,_=>rfl
         |some [],_=>rfl
         |some (b::r),g=>have:=HN.o b (λj hj f=>HI j Y (by rw[f];exact g));simp[F5,this]
        have q:decide ((c:Int)<8)=CS:=eS;clear b7;have a7:=H (tZ V);go_wp2_with fail;apply a7.o.m;rintro f w5 ⟨rfl,h5,o5⟩;go_wp2;go_ret;exact rY.none_ L ⟨Y,Y⟩ ⟨⟨_,h5⟩,D.t o5⟩
       ·have q:decide ((c:Int)<8)=CD:=eS;have hx:=rT n c Y;have cj:=lJ n c Y;have cq:=rT M c Y;have ci:=lJ M c Y;have cl:(c:Int)<n.size:=Y;have cn:(c:Int)<M.size:=Y;have b6:=H (HY c cf);cases he:(Q==(nth (bl n) c:Int))with
        |true=>
         have L:wt (∃t,al=O ([nth (bl M) c],t)/\a.map List.tail=O t):=by
          unfold Hid;rw[bs.o];have ck:Q=(nth (bl n) c:Int):=by simpa using he
          match a,g with
          |none,g=>have:=g.o;simp only[kG]at this;omega
          |some [],g=>have:=g.o;simp only[kG]at this;omega
          |some (b::r),g=>
           have hb:b=nth (bl n) c:=by have:=g.o;simp only[kG]at this;omega
           refine⟨r,?_,rfl⟩;show(lk b).map _=_;rw[hb,b6.o];rfl
         clear HI;go_wp2;go_ret;obtain⟨t,x,e⟩:=L.o;rw[e]at V;exact rY.some_ x ⟨⟨_,V⟩,D⟩
        |false=>
         have b1:wt (∀j,j<c+1->(nth (bl n) j:Int)≠Q):=λj hj=>by
          by_cases h:j<c;·exact HI j h
          ·have:j=c:=Y;subst this;intro cg;simp at he;exact he cg.s
         go_wp2;go_roundw
         case rel=>exact⟨c+1,Y,rfl,trivial,b1⟩
         case measure=>exact eT
     ·obtain⟨e1,e2⟩:=HX.o;have HB:=H (a1 (a4 J) E F aa);rw[e1,e2]at HB;have bc:8^k<=512:=by
       calc 8^k<=8^3:=aY Y hk
        _=512:=rfl
      have co:d<512:=Y;have t1:decide ((0:Int)<(k:Int))=CD:=eS;clear HX HQ ao a1 aa br a3 a4 i e1 e2 hn bc;by_cases b8:d<=255
      ·have t2:decide ((255:Int)<(d:Int))=CS:=eS;have L:=H (HB.1 b8);go_wp2;go_ret;obtain⟨t,x,e⟩:=L.o;rw[x]at a2;exact rY.some_ (l:=[d]) e ⟨⟨_,a2⟩,a0⟩
      ·have t2:decide ((255:Int)<(d:Int))=CD:=eS;have L:=H (HB.2 Y);have a7:=H (tZ a2);go_wp2_with fail;apply a7.o.m;rintro f w5 ⟨rfl,h5,o5⟩;go_wp2;go_ret;exact rY.none_ L ⟨Y,Y⟩ ⟨⟨_,h5⟩,a0.t o5⟩
def qn(a:Option (List Nat×List Nat))(v:List Nat)(c:Nat)(s:Option (List Nat)):Prop:=match s with
 |some r=>∃b,G r<b/\m_ v (jN b c r)=a
 |none=>a=N
def qn.nil{a:Option (List Nat×List Nat)}{e:Nat}(h:qn a v e s)(c:kG s<0):a=N:=by
 match s,h with
 |none,h=>exact h
 |some [],h=>obtain⟨f,d,h⟩:=h;obtain⟨f,rfl⟩:∃g,f=g+1:=⟨f-1,by simp at d;omega⟩;rw[<-h];rfl
 |some (b::r),_=>simp only[kG]at c;omega
def qn.line{d:Option (List Nat×List Nat)}{e:Nat}(h:qn d v e s)(c:nL s=CD):qn d (v++[10]) e (mV s)/\ij (mV s)<ij s:=by
 cases s with
 |none=>cases c
 |some r=>
  cases b:iq r with
  |none=>unfold nL at c;simp[b]at c
  |some i=>
   obtain⟨a,j,h⟩:=h;obtain⟨a,rfl⟩:∃f,a=f+1:=⟨a-1,Y⟩;have k:=Id b;have g:mV (O r)=O i:=by unfold mV;simp[b]
   rw[g];refine⟨⟨a,Y,?_⟩,by simp only[ij];omega⟩;rw[<-h,<-KM];simp only[jN,b];rfl
def strPart(a b:Nat)(c:List Nat):Option (Nat×List Nat×List Nat):=
 if b=92 then(jk c).map λd=>(a,d.1,d.2)else if b=40 then O (a+1,[b],c)else if b=41 then O (a-1,[b],c)else O (a,[b],c)
def qn.part{e:Option (List Nat×List Nat)}{c b:Nat}{d:List Nat}(h:qn e v c (O (b::d)))(n:nL (O (b::d))=CS)(z:1<=c):match strPart c b d with
  |none=>e=N
  |some (q,o,i)=>if q=0 then e=O (v,d)else qn e (v++o) q (O i):=by
 obtain⟨a,u,h⟩:=h;obtain⟨a,rfl⟩:∃t,a=t+1:=⟨a-1,Y⟩;have g:iq (b::d)=N:=by
  cases g:iq (b::d)with
  |none=>rfl
  |some r=>unfold nL at n;simp[g]at n
 simp only[jN,g]at h;simp only[ai]at u;unfold strPart;by_cases m:b=92
 ·rw[ak m]at h ⊢;cases f:jk d with
  |none=>rw[f]at h;exact h.s
  |some r=>
   obtain⟨o,i⟩:=r;rw[f]at h;have x:=Hp f;show if c=0 then _ else _
   rw[aj Y];exact⟨a,by show (G i)<a;omega,by rw[<-h,<-KM]⟩
 ·rw[aj m]at h ⊢;by_cases k:b=40
  ·rw[ak k]at h ⊢;show if c+1=0 then _ else _
   rw[aj Y];exact⟨a,Y,by rw[<-h,FZ]⟩
  ·rw[aj k]at h ⊢;by_cases l:b=41
   ·rw[ak l]at h ⊢;show if c-1=0 then _ else _
    by_cases j:c=1
    ·rw[ak j]at h;rw[ak Y];rw[<-h];simp[m_]
    ·rw[aj j]at h;rw[aj Y];exact⟨a,Y,by rw[<-h,FZ]⟩
   ·rw[aj l]at h ⊢;show if c=0 then _ else _
    rw[aj Y];exact⟨a,Y,by rw[<-h,FZ]⟩
def O7{r d j:List Nat}(h:jk r=O (d,j))(c:∀f∈r,f<256):d=[]\/∃g,g<256/\d=[g]:=by
 unfold jk at h;cases e:iq r with
 |some f=>rw[e]at h;cases h;exact C1 rfl
 |none=>
  rw[e]at h;simp only[]at h;split at h
  ·split at h;·next k=>cases h;exact C2 ⟨_,Y,rfl⟩
   ·cases h
  ·match r,h,c with
   | [],h,_=>cases h
   |b::l,h,c=>
    simp only[]at h;cases a:lk b with
    |none=>rw[a]at h;cases h
    |some i=>
     rw[a]at h;cases h;refine C2 ⟨i,?_,rfl⟩;have:=c b cO;unfold lk at a;repeat' split at a
     all_goals (cases a;try omega)
def oY(d:Option (List Nat×List Nat))(v r:List Nat)(a:Nat)(b:Int)(c:Option (List Nat)):Prop:=
 ij c<=G r+1/\∃e:Nat,e<256/\(0<=b->IntKind.u8.wrap b=(e:Int))/\(a=0->d=O (v,r)/\c=O r)/\(a≠0->0<=b->qn d (v++[e]) a c)/\(a≠0->b<0->qn d v a c)
def oY.byte{a:Option (List Nat×List Nat)}{r:List Nat}{d b:Nat}(e:b<256)(h:if d=0 then a=O (v,r)else qn a (v++[b]) d (O r)):oY a v r d (b:Nat) (O r):=
 ⟨ag _,b,e,λ_=>by rw[cA];omega,λc=>by rw[ak c]at h;exact⟨h,rfl⟩,λc _=>by rw[aj c]at h;exact h,λ_ f=>Y⟩
def oY.none_{a:Option (List Nat×List Nat)}{r:List Nat}{c:Nat}{b:Int}(e:1<=c)(h:a=N):oY a v r c b N:=
 ⟨by simp[ij],(IntKind.u8.wrap b).toNat,by rw[cA];omega,λ_=>by rw[cA];omega,λd=>Y,λ_ _=>h,λ_ _=>h⟩
def oY.beh{f:Option (List Nat×List Nat)}{r b e:List Nat}{d:Nat}(k:1<=d)(i:b=[]\/∃c,c<256/\b=[c])(l:G e<=G r)(h:qn f (v++b) d (O e)):oY f v r d (vH b) (O e):=by
 rcases i with rfl|⟨c,j,rfl⟩;·refine⟨by simp only[ij];omega,0,Y,λa=>absurd a bF,λa=>Y,λ_ a=>absurd a bF,λ_ _=>by rw[bP]at h;exact h⟩
 ·refine⟨by simp only[ij];omega,c,j,λ_=>by simp only[vH];rw[cA];omega,λa=>Y,λ_ _=>h,λ_ g=>by simp only[vH]at g;omega⟩
def OL{a:List Nat}(c:a=[]\/∃b,b<256/\a=[b]) : -1<=vH a/\vH a<256:=by
 rcases c with rfl|⟨b,d,rfl⟩;·decide
 ·simp only[vH];omega
def Bp(h:Sn y S w p s):wh DG 227 #[A3 (O ⟨y,0,N⟩)] w (mh y S wZ aS (s.bind lq) w):=by
 obtain⟨i0,hi,bm,br,bs⟩:=bR infoByte;have a8:=H (Bg.start h:Bn w y S w s _ _);obtain⟨l,hR⟩:∃l,s.bind lq=l:=⟨_,rfl⟩;rw[hR];have j:wt (qn l [] 1 s):=by
  unfold Hid;rw[<-hR];cases s with
  |none=>rfl
  |some r=>refine⟨G r+1,Y,?_⟩;show m_ [] (jN (G r+1) 1 r)=lq r;unfold m_ lq;cases jN (G r+1) 1 r<;>simp
 go_in
 go_wp2;go_loopw [3,4] (λA dv wr=>∃(n:Option (List Nat)) (v:List Nat) (a:Nat),dv=I U (a:Nat)/\1<=a/\a+ij n<=300000/\wt (Bn w y S wr n A v)/\wt (qn l v a n)) (λ_ _ wr=>mS y S wr)
 case atStart=>refine⟨s,[],1,rfl,Y,?_,a8,j⟩;have:=a8.o.few;omega
 case round=>
  obtain⟨n,v,a,rfl,ho,a4,t,j⟩:=hrel;obtain⟨p,a5⟩:=t.o.sc;have q:=H (xg a5);have F:=H a5.mS;have L:=H a5;by_cases e:kG n<0
  ·have al:=H (j.o.nil e);have t1:decide (kG n<0)=CD:=eS;go_wp2_with fail;apply q.o.m;rintro m w1 ⟨rfl,z,rfl⟩;have bw:=H (tZ (L.o.drewN z));go_wp2_with fail;apply bw.o.m;rintro m w2 ⟨rfl,h2,o2⟩;go_wp2;go_ret;exact mh.none_ al.o ⟨_,rfl,by simp[ByteArray.size]⟩ ⟨⟨_,h2⟩,(t.o.only.drewN z).t o2⟩
  ·match n,e,t,j,q,F,L,a4 with
   |none,e,_,_,_,_,_,_=>exact absurd bF e
   |some [],e,_,_,_,_,_,_=>exact absurd bF e
   |some (b::r),e,t,j,q,F,L,a4=>
   have hb:=L.o.bytes b cO;have t1:decide ((b:Int)<0)=CS:=cO;have b3:=t.o.few;simp only[kG]at q;go_wp2_with fail;apply q.o.m;rintro m w1 ⟨rfl,z,rfl⟩;have X:=H (Il (L.o.drewN z));have a9:=H (t.o.drewN z);generalize wr.drewN z=W1 at *;cases u:nL (O (b::r))with
   |true=>
    have ad:=H (j.o.line u);rw[u]at X;go_wp2_with fail;apply X.o.m;rintro m w2 ⟨rfl,k2⟩;have K:=H (a9.o.step k2 (eX ad.o.2));have a0:=ad.o.2;have bz:=H ad.o.1;have b4:=K.o.sz;generalize mV (O (b::r))=t2 at *;go_wp2_with (at_builtin;refine aX _ rfl (.tmp 16) (.tmp 17) 23 rfl w.heap.size 5 i0 (I .u8 0) 1 1 az hi bm br bs rfl bF u3 (G v) _ rfl (K.o.alloc _).own ⟨w2.heap.size,0,N⟩ 1 1 ([10].map λW:Nat=>I .u8 (W:Int)) rfl rfl (Bu.one_news 10 w2) ?hone ?h63 ?hby ?hbs ?_)
    case hone=>intro b6 T;simp at T;subst T;rfl
    case h63=>unfold maxLen;omega
    case hby=>omega
    case hbs=>simp;omega
    intro v6 w6 a6 ao _;have C:=H ((K.o.alloc _).app (xs:=[10]) cO a6 ao (by simp only[ai,aB];omega));obtain⟨p6,R⟩:=C.o.sc;have J:=H R.mS;go_wp2;go_roundw
    case rel=>exact⟨t2,v++[10],a,rfl,ho,Y,C,bz⟩
    case measure=>rw[F.o,J.o];exact a0
   |false=>
    have d:=H (j.o.part u ho);have bv:wt (mV (O (b::r))=O (b::r)):=by
     cases hq:iq (b::r)with
     |none=>unfold Hid mV;simp[hq]
     |some a7=>unfold nL at u;simp[hq]at u
    rw[u,bv.o]at X;go_wp2_with fail;apply X.o.m;rintro m w2 ⟨rfl,⟨p2,h2⟩,o2⟩;have b1:=H (yI h2);have K:=H (a9.o.step ⟨⟨p2,h2⟩,o2⟩ (ag _));go_wp2_with fail;apply b1.o.m;rintro m w3 ⟨rfl,h3,o3⟩;have i:=H (K.o.step ⟨⟨_,h3⟩,o3⟩ mT);simp only[bK,List.tail_cons]at i
    go_upto_block 2 with fail
    go_cut [4,5]from 7 to 44 (λdv cv wx=>∃(g:Nat) (k:Int) (t':Option (List Nat)),dv=I U (g:Nat)/\cv=I U k/\g<=a+1 /\ -1000<=k/\k<=1000/\wt (Bn w y S wx t' u3 v)/\wt (oY l v r g k t'))
    case first=>
     unfold strPart at d;by_cases P:b=92
     ·have o:=H (d.o);rw[ak P]at o;have a1:((b:Int)==40)=CS:=eS;have a2:((b:Int)==41)=CS:=eS;have a3:((b:Int)==92)=CD:=eS;obtain⟨p3,bf⟩:=i.o.sc;have D:=H (Ru bf);have bt:=H bf.bytes;simp only[Option.bind_some]at D;cases Q:jk r with
      |some W=>
       obtain⟨b5,a7⟩:=W;rw[Q]at D o;have x:=O7 Q bt.o;have ca:=Hp Q;have f:wt (oY l v r a (vH b5) (O a7)):=by have:=o.o;simp only[bK]at this;rw[aj Y]at this;exact oY.beh ho x Y this
       have b7:=OL x;go_wp2_with fail;apply D.o.m;rintro m w4 ⟨rfl,V⟩;have c:=H (i.o.step V oj);clear V;go_wp2
       go_meet
       case rel=>exact⟨a,_,O a7,rfl,rfl,Y,Y,Y,c,f⟩
      |none=>
       rw[Q]at D o;have al:wt (l=N):=o.o;clear Q o;go_wp2_with fail;apply D.o.m;rintro m w4 ⟨⟨cg,rfl,cc,cd⟩,V⟩;have c:=H (i.o.step V mT);clear V;go_wp2
       go_meet
       case rel=>exact⟨a,_,N,rfl,rfl,Y,Y,Y,c,oY.none_ ho al.o⟩
     ·rw[aj P]at d;have a3:((b:Int)==92)=CS:=eS;by_cases M:b=40
      ·rw[ak M]at d;have a1:((b:Int)==40)=CD:=eS;have f:=H (oY.byte hb d.o);clear M P;go_wp2
       go_meet
       case rel=>exact⟨a+1,_,O r,rfl,rfl,Y,Y,Y,i,f⟩
      ·rw[aj M]at d;have a1:((b:Int)==40)=CS:=eS;by_cases aa:b=41
       ·rw[ak aa]at d;have a2:((b:Int)==41)=CD:=eS;have f:=H (oY.byte hb d.o);have bx:=H (show(a:Int)-1=((a-1:Nat):Int)by omega);clear M P aa;go_wp2
        go_meet
        case rel=>exact⟨a-1,_,O r,by rw[<-bx.o],rfl,Y,Y,Y,i,f⟩
       ·rw[aj aa]at d;have a2:((b:Int)==41)=CS:=eS;have f:=H (oY.byte hb d.o);clear M P aa;go_wp2
        go_meet
        case rel=>exact⟨a,_,O r,rfl,rfl,Y,Y,Y,i,f⟩
    case rest=>
     obtain⟨g,k,t2,rfl,rfl,ce,b8,b9,c,f⟩:=hcut;clear i d j q;obtain⟨a0,ac,hz,bh,bb,bc,bd⟩:=f.o;have E:=H a0;simp only[ij,ai]at b3 a4;by_cases h0:g=0
     ·obtain⟨hr,rfl⟩:=bb h0;have b0:=H hr;have a1:((g:Int)==0)=CD:=eS;have b2:=AU c.o.own;obtain⟨ba,hT⟩:∃ba,gj v=ba:=⟨_,rfl⟩;rw[hT]at b2;have HT:=H hT;clear hT bc bd hr bh bb h0;go_wp2;go_ret;exact mh.some_ b0.o (by rw[wZ,HT.o];rfl) ⟨c.o.sc,c.o.only⟩
     ·have a1:((g:Int)==0)=CS:=eS;by_cases e:0<=k
      ·have a2:decide ((0:Int)<=k)=CD:=eS;have cf:=bh e;have HN:=H (bc h0 e);have b4:=c.o.sz;go_wp2_with (at_builtin;refine aX _ rfl (.tmp 40) (.tmp 43) 23 rfl w.heap.size 5 i0 (I .u8 0) 1 1 az hi bm br bs rfl bF u3 (G v) _ rfl (c.o.alloc _).own ⟨wc.heap.size,0,N⟩ 1 1 ([ac].map λW:Nat=>I .u8 (W:Int)) rfl rfl (Bu.one_news ac wc) ?hone ?h63 ?hby ?hbs ?_)
       case hone=>intro b6 T;simp at T;subst T;rfl
       case h63=>unfold maxLen;omega
       case hby=>omega
       case hbs=>simp;omega
       intro v6 w6 a6 ao _;have C:=H ((c.o.alloc _).app (xs:=[ac]) cO a6 ao (by have:=E.o;simp only[ai,aB];omega));obtain⟨p6,R⟩:=C.o.sc;have J:=H R.mS;go_wp2;go_roundw
       case rel=>exact⟨t2,v++[ac],g,rfl,Y,by have:=E.o;omega,C,HN⟩
       case measure=>have:=E.o;rw[F.o,J.o];simp only[ij,ai]at this ⊢;omega
      ·have a2:decide ((0:Int)<=k)=CS:=eS;have HN:=H (bd h0 Y);obtain⟨p6,R⟩:=c.o.sc;have J:=H R.mS;go_wp2;go_roundw
       case rel=>exact⟨t2,v,g,rfl,Y,by have:=E.o;omega,c,HN⟩
       case measure=>have:=E.o;rw[F.o,J.o];simp only[ij,ai]at this ⊢;omega
def wP(a:Option (List Nat×List Nat))(b:List Nat)(s:Option (List Nat)):Prop:=match s with
 |some r=>m_ b (j8 r)=a
 |none=>a=N
abbrev Bh:=Bg 3 (λa:Nat=>I U a)
def Bh.one_news(e:Nat)(c:vz):∀b d,([e].map λf:Nat=>I U f)[b]?=O d->(c.alloc (BV #[I U (e:Nat)] 3)).cell? ((⟨c.heap.size,0,N⟩:wT).add b)=O d:=by
 intro b d a;rw[sK];match b,a with
 |0,a=>exact(cb (bn c _)).t a
 |b+1,a=>simp at a
def QR{b:Nat}(h:wB b=CD):iG b=N:=by
 have:b<33:=by simp[wB]at h;omega
 unfold iG;rw[aj Y,aj Y,aj Y]
def Ry(h:Sn y S w p s):wh DG 228 #[A3 (O ⟨y,0,N⟩)] w (mh y S wZ aS (s.bind lF) w):=by
 obtain⟨i0,z,c3,c4,c5⟩:=bR infoByte;obtain⟨j0,hj,b3,b4,b5⟩:=bR infoInt;have b7:=H (Bg.start h:Bh w y S w s _ _);obtain⟨j,hR⟩:∃j,s.bind j8=j:=⟨_,rfl⟩;have cg:wt (s.bind lF=j.map λf=>(jL f.1,f.2)):=by unfold Hid;rw[<-hR];cases s<;>rfl
 have m:wt (wP j [] s):=by
  unfold Hid;rw[<-hR];cases s with
  |none=>rfl
  |some r=>show m_ [] (j8 r)=j8 r;unfold m_;cases j8 r<;>simp
 rw[cg.o]
 go_in
 go_wp2;go_loopw [3] (λlv wr=>∃(n:Option (List Nat)) (c:List Nat),wt (Bh w y S wr n lv c)/\wt (wP j c n)/\wt (Digs c)) (λ_ wr=>mS y S wr)
 case atStart=>exact⟨s,[],b7,m,λf u=>by cases u⟩
 case round=>
  obtain⟨n,c,M,m,ac⟩:=hrel;obtain⟨p,a3⟩:=M.o.sc;have ca:=H (xg a3);have HM:=H a3.mS;have a8:=H a3;have ba:=Gm n;have a0:=a3.now;have bb:=M.o.few;have l:=BI (kG n) ba a0;go_wp2_with fail;apply ca.o.m;rintro a9 w1 ⟨rfl,bf,rfl⟩;have cj:=H (yI (a8.drewN bf));have ce:=H (M.drewN bf);generalize wr.drewN bf=W1 at *;go_wp2_with fail;apply cj.o.m;rintro a9 w2 ⟨rfl,h2,o2⟩;have g:=H (ce.step ⟨⟨_,h2⟩,o2⟩ (by cases n with|none=>simp[ij]|some r=>simp[ij]));have K:=H h2;by_cases bd:kG n<0
  ·have a7:wt (j=N):=by
    match n,m,bd with
    |none,m,_=>exact m
    |some [],m,_=>have:=m.o;exact this.s
    |some (b::r),_,h=>simp only[kG]at h;omega
   have D:kG n = -1:=Y;rw[D,Kb]at l;rw[D];have a5:=H (tZ K);go_wp2_with (go_at_call 107;apply(l _).m;rintro f w' ⟨rfl,rfl⟩);apply a5.o.m;rintro a9 w3 ⟨rfl,T,o3⟩;go_wp2;go_ret;exact mh.none_ (by rw[a7.o];rfl) ⟨_,rfl,by simp[ByteArray.size]⟩ ⟨⟨_,T⟩,g.o.only.t o3⟩
  ·match n,bd,M,m,HM,a8,bb,l,ba,a0,g,K with
   |none,D,_,_,_,_,_,_,_,_,_,_=>exact absurd bF D
   |some [],D,_,_,_,_,_,_,_,_,_,_=>exact absurd bF D
   |some (b::r),bd,M,m,HM,a8,bb,l,ba,a0,g,K=>
   simp only[kG,J_]at l a0 ⊢;simp only[bK,List.tail_cons]at g K;simp only[ij,ai]at bb;have hb:b<256:=Y;have P:wt (m_ c (j8 (b::r))=j):=m.o;simp only[j8]at P;have Q:=λcl=>IJ b cl;have cw:IntKind.u8.wrap (b:Int)=(b:Int):=by rw[cA];omega
   by_cases ao:b=62
   ·have cf:wt (j=O (c,r)):=by unfold Hid;rw[<-P.o,ao];simp[show wB 62=CS from rfl,m_]
    have t1:((b:Int)==62)=CD:=by rw[ao];rfl
    obtain⟨ua,uc,ct⟩:=ke g.o.own;subst ct;have cs:=g.o.sz;go_wp2_with (at_builtin;refine aX _ rfl (.tmp 38) (.tmp 39) 52 rfl w.heap.size 3 j0 (I U 0) 1 8 dF hj b3 b4 b5 rfl bF (Z ua (G c) uc) (G c) _ rfl (g.alloc _).own ⟨w2.heap.size,0,N⟩ 1 1 ([0].map λf:Nat=>I U f) rfl rfl (Bh.one_news 0 w2) ?hone ?h63 ?hby ?hbs ?_)
    case hone=>rfl
    case h63=>unfold maxLen;omega
    case hby=>omega
    case hbs=>first|omega|(simp;omega)
    intro v6 x bh bc _;have aa:=H ((g.alloc _).app (xs:=[0]) cO bh bc (by simp only[ij,ai,aB];omega));obtain⟨a,V⟩:∃a,a=if (G c)%2=1 then c++[0]else c:=⟨_,rfl⟩
    have cd:wt ((j.map λf=>(jL f.1,f.2))=O (jL a,r)):=by
     unfold Hid;rw[cf.o,V];split;·next C=>rw[pairs_pad c C];rfl
     ·rfl
    have ad:wt (G a%2=0/\G a<=G c+1/\G c<=G a):=by
     unfold Hid;rw[V];split;·simp;omega
     ·omega
    have bm:wt (Digs a):=by
     unfold Hid;rw[V];split;·exact ac.snoc Y
     ·exact ac
    have cc:wt (∀e,e<G a->nth (c++[0]) e=nth a e):=λe z=>by
     rw[V]at z ⊢;split;·rfl
     ·next C=>rw[aj C]at z;unfold nth;rw[aL,aL,aR z]
    have br:wt (∀e,e<G a->∃t al,v6=Z (O ⟨t,0,N⟩) (G c+1) al/\t<x.heap.size/\x.cell? ⟨t,e,N⟩=O (I U (nth a e:Nat))):=λe z=>by obtain⟨t,al,h1,h2,T,_⟩:=JO (L:=c++[0]) aa.o.own rfl cO;have dg:=ad.o;refine⟨t,al,by rw[h1];simp,h2,?_⟩;have:=T e eS;rw[cc.o e z,bZ]at this;exact this
    have a6:=H (M5 (G a/2) a (by have:=ad.o;omega));have b9:=H (show(∀e:Nat,e%2=0->(e+1<G c+1↔e<G a))from λe he=>by
     rw[V];split;·simp;omega
     ·omega)
    have c9:G a<=200001:=by have:=ad.o;omega
    have bs:wt (Jn w y x a v6 x 0 (Z N 0 0)):=⟨bI _ _ _ _,ar _ _⟩;obtain⟨da,dc,b1⟩:=ke aa.o.own;rw[ab,dU]at b1;subst b1;generalize cn:G c+1=R at *;clear cn;go_wp2;go_loopw [7,8] (λA e wr=>∃k p:Nat,2*k<=G a/\wt (p=2*k)/\e=I U (p:Nat)/\wt (Jn w y x a (Z da R dc) wr k A)) (λ_ e _=>G a-(intOf e).toNat)
    case atStart=>exact⟨0,0,Y,H rfl,rfl,bs⟩
    clear bs
    case round=>
     obtain⟨k,p,hk,HP,rfl,q⟩:=hrel;have C:=HP.o;have a1:=b9.o p Y;by_cases a2:p<G a
     ·have cr:(p:Int)+1<(R:Int):=by have:=a1.2 a2;omega
      have co:=ad.o.1;obtain⟨t,al,hv,hg,bx⟩:=br.o p a2;obtain⟨g',c',cv,_,bz⟩:=br.o (p+1) Y;cases hv;cases cv;have d0:=(q.keep.cell (p:=⟨t,p,N⟩) hg).t bx;have d1:=(q.keep.cell (p:=⟨t,p+1,N⟩) hg).t bz;have ha:=bm.o.nth p a2;have hb:=bm.o.nth (p+1) Y;have bt:wt (nth (jL a) k=16*nth a p+nth a (p+1)):=by unfold Hid;rw[C];exact M3 k a Y
      clear bx bz a1;generalize nth a p=i at *;generalize nth a (p+1)=b at *;obtain⟨X,b6⟩:∃X,16*i+b=X:=⟨_,rfl⟩;rw[b6]at bt;have c6:IntKind.u8.wrap (16*(i:Int)+(b:Int))=(X:Int):=by rw[cA];omega
      have cq:=q.o.keep.size;have di:(p:Int)<(R:Int):=Y;have c2:((p:Int)+1).toNat=p+1:=Y;have cx:(0:Int)<=(p:Int)+1:=Y;have db:(p:Int)<=200001:=Y;have dd:k<=200001:=Y;have c1:IntKind.i64.wrap ((p:Int)+1)=(p:Int)+1:=by rw[bu];omega
      have cy:IntKind.i64.wrap (16*(i:Int))=16*(i:Int):=by rw[bu];omega
      have c0:IntKind.i64.wrap (16*(i:Int)+(b:Int))=16*(i:Int)+(b:Int):=by rw[bu];omega
      have bv:=H (show p+1<G a by omega);clear C b6 co;go_wp2_with fail;go_region_law (refine Cy rfl (.tmp 48) (.tmp 61) 23 rfl x.heap.size 5 i0 (I .u8 0) 1 1 az z c3 c4 c5 rfl bF u7 k _ rfl (ed (q.o.own.alloc _)) ⟨wr.heap.size,0,N⟩ 1 1 ([X].map λf:Nat=>I .u8 (f:Int)) rfl rfl ?hnews ?hone ?h63 ?hby ?hb ?_;(case hnews=>exact Bu.one_news X wr);(case hone=>intro c8 W;simp at W;subst W;rfl);(case h63=>unfold maxLen;omega);(case hby=>omega);(case hb=>simp;omega);intro v' w8 b2 E _);all_goals (
       have H8:wt (Jn w y x a (Z (O ⟨t,0,N⟩) R dc) w8 (k+1) v'):=by refine⟨?_,(((q.keep.alloc cq _).drew).t ⟨E.os,E.tape,E.output,E.size,λc7 hj=>E.block c7 eS (MR q.o.own hj)⟩)⟩;rw[Kl (by rw[a6.o];have:=HP.o;have:=bv.o;omega),aI,bt.o];exact b2
       clear b2 E;go_wp2)
      all_goals go_roundw
      all_goals first|exact⟨k+1,p+2,by have:=HP.o;have:=bv.o;omega,by have:=HP.o;unfold Hid;omega,by go_num,H8⟩|(clear c2 c1 cy c0 cx c6;simp[intOf];omega)
     ·have cr:¬(p:Int)+1<(R:Int):=by intro h;exact a2 (a1.1 Y)
      have cp:k=G a/2:=Y;have dj:(p:Int)<=200001:=Y;clear C a1;have b0:=AU (l:=(jL a).take k) (by have:=q.o.own;rw[ax,a6.o,<-cp,Nat.min_self];exact this);have ck:wt ((jL a).take k=jL a):=by unfold Hid;rw[aP (by rw[a6.o];omega)]
      rw[ck.o]at b0;obtain⟨bw,hT⟩:∃bw,gj (jL a)=bw:=⟨_,rfl⟩;rw[hT]at b0;have HT:=H hT;clear hT;obtain⟨p6,F⟩:=aa.o.sc;have ci:=H F;clear F;go_wp2;go_ret;exact mh.some_ cd (by rw[wZ,HT.o];rfl) ⟨⟨p6,ci.o.other q.keep⟩,aa.o.only.t (.of_below q.keep)⟩
   ·have t1:((b:Int)==62)=CS:=eS;cases J:wB b with
    |true=>
     have u:=QR J;have HN:wt (wP j c (O r)):=by unfold Hid wP;rw[<-P.o,J];rfl
     rw[u]at l;rw[J]at Q;obtain⟨p6,F⟩:=g.o.sc;have a4:=H F.mS;go_wp2_with (first|(go_at_call 107;apply(l _).m;rintro f w' ⟨rfl,d⟩;have d:=d.s;subst d)|(go_at_call 150;apply(Q _).m;rintro f w' ⟨rfl,d⟩;have d:=d.s;subst d));go_roundw
     case rel=>exact⟨O r,c,g,HN,ac⟩
     case measure=>rw[HM.o,a4.o];simp[ij]
    |false=>
     rw[J]at Q;cases u:iG b with
     |none=>
      have a7:wt (j=N):=by unfold Hid;rw[<-P.o,J,u,aj bF,aj ao];rfl
      rw[u]at l;have a5:=H (tZ K);go_wp2_with (first|(go_at_call 107;apply(l _).m;rintro f w' ⟨rfl,d⟩;have d:=d.s;subst d)|(go_at_call 150;apply(Q _).m;rintro f w' ⟨rfl,d⟩;have d:=d.s;subst d));apply a5.o.m;rintro a9 w3 ⟨rfl,T,o3⟩;go_wp2;go_ret;exact mh.none_ (by rw[a7.o];rfl) ⟨_,rfl,by simp[ByteArray.size]⟩ ⟨⟨_,T⟩,g.o.only.t o3⟩
     |some i=>
      have ha:=yG u;have HN:wt (wP j (c++[i]) (O r)):=by show m_ (c++[i]) (j8 r)=j;rw[<-P.o,J,u,aj bF,aj ao,<-FZ]
      rw[u]at l;simp only[]at l;have t2:decide ((i:Int)<0)=CS:=cO;have b8:=H (ac.snoc ha);have cs:=g.o.sz;go_wp2_with (first|(go_at_call 107;apply(l _).m;rintro f w' ⟨rfl,d⟩;have d:=d.s;subst d)|(go_at_call 150;apply(Q _).m;rintro f w' ⟨rfl,d⟩;have d:=d.s;subst d)|(at_builtin;refine aX _ rfl (.tmp 34) (.tmp 36) 52 rfl w.heap.size 3 j0 (I U 0) 1 8 dF hj b3 b4 b5 rfl bF u3 (G c) _ rfl (g.alloc _).own ⟨w2.heap.size,0,N⟩ 1 1 ([i].map λf:Nat=>I U f) rfl rfl (Bh.one_news i w2) ?hone ?h63 ?hby ?hbs ?_))
      case hone=>intro c8 W;simp at W;subst W;rfl
      case h63=>unfold maxLen;omega
      case hby=>omega
      case hbs=>simp;omega
      intro v6 x bh bc _;have H6:=H ((g.alloc _).app (xs:=[i]) cO bh bc (by simp only[ij,ai,aB];omega));obtain⟨p6,F⟩:=H6.o.sc;have a4:=H F.mS;go_wp2;go_roundw
      case rel=>exact⟨O r,c++[i],H6,HN,b8⟩
      case measure=>rw[HM.o,a4.o];simp[ij]
end
section
variable{a k:Nat}{S:ByteArray}{w w' c:vz}{p:Nat}{s t:Option (List Nat)}
def n5(r:wg):Prop:=∃(m o q:Int) (b:ByteArray) (g:Option wT) (i h:Nat) (j:Option wT) (n l:Nat) (d:Option wT) (f e:Nat),r=Bc #[I U m,I U o,I U q,y7 b,Z g i h,Z j n l,Z d f e]
def GV(b:Nat)(w:vz)(r:wg):Prop:=∃(q n p:Int) (j:ByteArray) (h i g:wg) (d:List wg) (f:List (List Nat)),r=Bc #[I U q,I U n,I U p,y7 j,h,i,g] /\
 j4 (λe=>b<=e) w 67 7 h (G d) (d.flatMap cellsOf)/\(∀u∈d,n5 u)/\j4 (λe=>b<=e) w 9 1 i (G f) (f.map λs=>y7 (gj s))/\(G f<=G d/\G d<=200001)/\∃l o m,g=Z l o m
def GV.leaf(b:Nat)(w:vz)(e f p:Int)(d:ByteArray):GV b w (Bc #[I U e,I U f,I U p,y7 d,Z N 0 0,Z N 0 0,Z N 0 0]):=
 ⟨e,f,p,d,_,_,_,[],[],rfl,j4.nil _ _ _ _,(λh g=>by cases g),j4.nil _ _ _ _,⟨ag _,aw _⟩,N,0,0,rfl⟩
def py(a:Nat)(S:ByteArray)(k:Nat)(f:Option (VT k×List Nat))(w:vz)(d:xc)(w':vz):Prop:=
 mh a S (λw' b v=>iR (λe=>w.heap.size<=e) k w' v b) (λw' v=>GV w.heap.size w' v) f w d w'
def Cu(e:Sn a S c p t)(d:iJ a w c)(q:c.heap[w.heap.size]?=O (BV iZ 67 (0,0)))(f g h i:wg)(u:a<w.heap.size):let l:=((((((c.setCell ⟨w.heap.size,0,N⟩ f).setCell ⟨w.heap.size,1,N⟩ g).setCell ⟨w.heap.size,2,N⟩ h).setCell ⟨w.heap.size,3,N⟩ i).setCell ⟨w.heap.size,4,N⟩ (Z N 0 0)).setCell ⟨w.heap.size,5,N⟩ (Z N 0 0)).setCell ⟨w.heap.size,6,N⟩ (Z N 0 0)
  l.heap[w.heap.size]?=O (BV #[f,g,h,i,Z N 0 0,Z N 0 0,Z N 0 0] 67 (0,0))/\kJ a S w l t:=by
 have b:=qu c w.heap.size f g h i (Z N 0 0) (Z N 0 0) (Z N 0 0);have o:=e.lt;have r:=d.size;refine⟨uG q _ _ _ _ _ _ _,⟨p,⟨by rw[b.block _ o Y];exact e.blk,e.lp,e.ls,e.rest⟩⟩,?_⟩;exact⟨b.os.t d.os,b.tape.t d.tape,b.output.t d.output,aJ r b.size,λj m n=>(b.block j Y Y).t (d.block j m n)⟩
def zc{d:vz}{b:Nat}(h:d.heap[b]?=O (BV iZ 67 (0,0))):(d.cell? ⟨b,0,N⟩=O (I U 0)/\d.cell? ⟨b,1,N⟩=O (I U 0)/\d.cell? ⟨b,2,N⟩=O (I U 0)/\d.cell? ⟨b,3,N⟩=O (y7 {data:=#[]})/\d.cell? ⟨b,4,N⟩=O (Z N 0 0)/\d.cell? ⟨b,5,N⟩=O (Z N 0 0)/\d.cell? ⟨b,6,N⟩=O (Z N 0 0)) /\
  d.frozen? ⟨b,0,N⟩=CS/\d.frozen? ⟨b,1,N⟩=CS/\d.frozen? ⟨b,2,N⟩=CS/\d.frozen? ⟨b,3,N⟩=CS/\d.frozen? ⟨b,4,N⟩=CS/\d.frozen? ⟨b,5,N⟩=CS/\d.frozen? ⟨b,6,N⟩=CS:=
 ⟨⟨cb h,cb h,cb h,cb h,cb h,cb h,cb h⟩,pA h,pA h,pA h,pA h,pA h,pA h,pA h⟩
def IV{r:List Nat}(h:Sn a S w p (O r)):∀b∈gI r,b<256:=λb d=>h.bytes b (TR d)
def Kv(h:Sn a S w p s):(lW s).length<=200000:=by
 cases s with
 |none=>simp[lW]
 |some r=>have b:=(fP (l:=gq r) pB).length_le;have d:=jM r;have e:=h.len;have f:=h.ls;show((gq r).takeWhile pB).length<=_;omega
def N_(h:Sn a S w p s):∀b∈lW s,b<256:=by
 cases s with
 |none=>intro b d;cases d
 |some r=>exact IV h
def Ug(b:Type)(s:Option (List Nat)):s.bind (iX b) =
  if lW s=[110,117,108,108]then(oO s).map λe=>(ik b 0 0 0 [],e)
  else if lW s=[116,114,117,101]then(oO s).map λe=>(ik b 1 1 0 [],e)
  else if lW s=[102,97,108,115,101]then(oO s).map λe=>(ik b 1 0 0 [],e)
  else match jZ (lW s)with
   |some d=>(oO s).map λe=>match g_ e with
    |some i=>(ik b 9 d 0 [],i)
    |none=>(ik b 2 d 0 [],e)
   |none=>match kf (lW s)with
    |some (d,p)=>(oO s).map λe=>(ik b 3 d p [],e)
    |none=>N:=by
 cases s with
 |none=>rfl
 |some r=>
  show iX b r=_;unfold iX;show _=if gI r=[110,117,108,108]then O (ik b 0 0 0 [],gE r)
   else if gI r=[116,114,117,101]then O (ik b 1 1 0 [],gE r)
   else if gI r=[102,97,108,115,101]then O (ik b 1 0 0 [],gE r)
   else match jZ (gI r)with
    |some d=>O (match g_ (gE r)with
     |some i=>(ik b 9 d 0 [],i)
     |none=>(ik b 2 d 0 [],gE r))
    |none=>match kf (gI r)with
     |some (d,p)=>O (ik b 3 d p [],gE r)
     |none=>N
  by_cases g:gI r=[110,117,108,108];·rw[ak g,ak g]
  ·rw[aj g,aj g];by_cases f:gI r=[102,97,108,115,101];·rw[ak f,aj (by rw[f];decide),ak f]
   ·rw[aj f];by_cases h:gI r=[116,114,117,101];·rw[ak h,ak h]
    ·rw[aj h,aj h,aj f];cases jZ (gI r)with
     |some d=>simp only[];cases g_ (gE r)<;>rfl
     |none=>rfl
def wS(k:Nat)(s:Option (List Nat)):Option (VT (k+1)×List Nat):=s.bind (iX (VT k))
def TS(k:Nat)(s:Option (List Nat)):wS k s =
  if lW s=[110,117,108,108]then(oO s).map λb=>(ik (VT k) 0 0 0 [],b)
  else if lW s=[116,114,117,101]then(oO s).map λb=>(ik (VT k) 1 1 0 [],b)
  else if lW s=[102,97,108,115,101]then(oO s).map λb=>(ik (VT k) 1 0 0 [],b)
  else match jZ (lW s)with
   |some d=>(oO s).map λb=>match g_ b with
    |some e=>(ik (VT k) 9 d 0 [],e)
    |none=>(ik (VT k) 2 d 0 [],b)
   |none=>match kf (lW s)with
    |some (d,p)=>(oO s).map λb=>(ik (VT k) 3 d p [],b)
    |none=>N:=Ug (VT k) s
def Rz(h:Sn a S w p s):wh DG 226 #[A3 (O ⟨a,0,N⟩)] w (py a S (k+1) (wS k s) w):=by
 have j:=H h.lt;have BW:wt (wm w.heap.size w (w.alloc (BV iZ 67))):=(ar _ _).alloc (ag _) _;have H0:=H (h.other BW);have HZ:wt ((w.alloc (BV iZ 67)).heap[w.heap.size]?=O (BV iZ 67 (0,0))):=bn _ _;have X:=H (Fz H0);have ca:=Kv h;have HQ:=H (N_ h);obtain⟨q,hR⟩:∃q,wS k s=q:=⟨_,rfl⟩;rw[hR];have e:=H hR;rw[TS]at e;obtain⟨i,a6⟩:∃i,lW s=i:=⟨_,rfl⟩;rw[a6]at X ca HQ e;obtain⟨u,hT⟩:∃u,gj i=u:=⟨_,rfl⟩;have D:bl u=i:=by rw[<-hT];exact vJ _ HQ
 have bb:u.size<=200001:=by rw[Td,D];omega
 rw[hT]at X;have b0:=H a6;generalize bc:w.alloc (BV iZ 67)=b8 at *;have b7:wt (w.alloc (BV #[I U 0,I U 0,I U 0,y7 {data:=#[]},Z N 0 0,Z N 0 0,Z N 0 0] 67)=b8):=bc;have bd:(u.toList==[110,117,108,108])=decide (i=[110,117,108,108]):=by rw[xV,D];rfl
 have bf:(u.toList==[102,97,108,115,101])=decide (i=[102,97,108,115,101]):=by rw[xV,D];rfl
 have bh:(u.toList==[116,114,117,101])=decide (i=[116,114,117,101]):=by rw[xV,D];rfl
 have a0:=H (λW'=>J2 (w:=W') u bb);have ac:=H (λW'=>SL (w:=W') u bb);rw[D]at a0 ac;clear h hR hT bc D a6
 go_in
 go_wp2_with fail;rw[b7.o];apply X.o.m;rintro T c ⟨rfl,⟨W,h1⟩,k1⟩;have g:=H h1;have z:=H ((iJ.of_below BW).t k1);have a4:c.heap[w.heap.size]?=O (BV iZ 67 (0,0)):=by rw[k1.block _ (ap HZ.o) (by have:=j.o;omega)];exact HZ
 clear h1 k1 X;go_wp2_with fail;apply(a0 _).m;rintro T w' ⟨⟨m,ce,rfl,E⟩,B⟩;have B:=B.s;subst B;go_wp2_with fail;apply(ac _).m;rintro T w' ⟨⟨aa,pl,cf,rfl,bm⟩,B⟩;have B:=B.s;subst B;have L:=H E;have F:=H bm;clear a0 ac E bm;obtain⟨⟨r0,r1,r2,r3,r4,r5,r6⟩,f0,f1,f2,f3,f4,f5,f6⟩:=zc a4;have n:=H a4;clear a4;have J:wt (i≠[]->∃b,oO s=O b):=λh=>by
  cases s with
  |none=>exact absurd b0.s h
  |some r=>exact⟨_,rfl⟩
 by_cases P:i=[110,117,108,108]
 ·rw[aH P]at bd;obtain⟨b,l⟩:=J.o (by rw[P];simp);have f:wt (q=O (ik (VT k) 0 0 0 [],b)):=by unfold Hid;rw[<-e.o,ak P,l];rfl
  rw[l]at g;have d:=H (Cu g z n (I U 0) (I U 0) (I U 0) (y7 {data:=#[]}) j);go_wp2;refine aK (v:=Bc #[I U 0,I U 0,I U 0,y7 {data:=#[]},Z N 0 0,Z N 0 0,Z N 0 0]) ?_ rfl ?_;·exact bk results226 _ _ w.heap.size 67 _ _ _ rfl d.1 bq rfl aG
  exact mh.some_ f (iR.leaf k 0 0 0 []) d.2
 rw[aj P]at e;rw[av P]at bd;by_cases Q:i=[116,114,117,101]
 ·rw[aH Q]at bh;obtain⟨b,l⟩:=J.o (by rw[Q];simp);have f:wt (q=O (ik (VT k) 1 1 0 [],b)):=by unfold Hid;rw[<-e.o,ak Q,l];rfl
  rw[l]at g;have d:=H (Cu g z n (I U 1) (I U 1) (I U 0) (y7 {data:=#[]}) j);go_wp2;refine aK (v:=Bc #[I U 1,I U 1,I U 0,y7 {data:=#[]},Z N 0 0,Z N 0 0,Z N 0 0]) ?_ rfl ?_;·exact bk results226 _ _ w.heap.size 67 _ _ _ rfl d.1 bq rfl aG
  exact mh.some_ f (iR.leaf k 1 1 0 []) d.2
 rw[aj Q]at e;rw[av Q]at bh;by_cases R:i=[102,97,108,115,101]
 ·rw[aH R]at bf;obtain⟨b,l⟩:=J.o (by rw[R];simp);have f:wt (q=O (ik (VT k) 1 0 0 [],b)):=by unfold Hid;rw[<-e.o,ak R,l];rfl
  rw[l]at g;have d:=H (Cu g z n (I U 1) (I U 0) (I U 0) (y7 {data:=#[]}) j);go_wp2;refine aK (v:=Bc #[I U 1,I U 0,I U 0,y7 {data:=#[]},Z N 0 0,Z N 0 0,Z N 0 0]) ?_ rfl ?_;·exact bk results226 _ _ w.heap.size 67 _ _ _ rfl d.1 bq rfl aG
  exact mh.some_ f (iR.leaf k 1 0 0 []) d.2
 rw[aj R]at e;rw[av R]at bf;unfold WI at L;unfold PI at F;cases E:jZ i with
 |some v=>
  rw[E]at L e;obtain⟨b,l⟩:=J.o (by rintro rfl;cases E);obtain⟨b9,a1⟩:=L.o;subst b9 a1;rw[l]at g e;simp only[bK]at e;have d1:=g.o.c1;have al:=H (Fz g);have a2:lW (O b)=gI b:=rfl;have a3:oO (O b)=O (gE b):=rfl;have bw:=H (IV g);rw[a2,a3]at al;obtain⟨T2,a9⟩:∃T2,gj (gI b)=T2:=⟨_,rfl⟩;have bv:(T2.toList==[48])=decide (gI b=[48]):=by rw[xV,<-a9,vJ _ bw.o];rfl
  rw[a9]at al;have a7:wt (∀(x:vz) (p2:Nat) (t2:List Nat),Sn a S x p2 (O t2)->iJ a c x->g_ b=N->x.frozen? ⟨a,1,N⟩=CS/\x.cell? ⟨a,1,N⟩=O (I U p2)/\Sn a S (x.setCell ⟨a,1,N⟩ (I U W)) W (O b)/\iJ a w (x.setCell ⟨a,1,N⟩ (I U W))/\(x.setCell ⟨a,1,N⟩ (I U W)).heap[w.heap.size]?=O (BV iZ 67 (0,0))/\q=O (ik (VT k) 2 m 0 [],b)):=λx p2 t2 A C y=>by
   have cd:=j.o;refine⟨A.fz 1,A.c1,A.at_ W g.lp rfl (λr y=>by cases y;exact g.rest _ rfl),(z.t C).setCell _ _,?_,?_⟩;·rw[lK _ Y,C.block _ (ap n.o) Y];exact n
   ·rw[<-e.o,y]
  go_wp2_with fail;apply al.o.m;rintro T w2 ⟨rfl,⟨p2,A⟩,C⟩;have ad:=H A;have O2:=H C;by_cases V:gI b=[48]
  ·rw[aH V]at bv;have ao:=H (Fz ad);have a2:lW (O (gE b))=gI (gE b):=rfl;have a3:oO (O (gE b))=O (gE (gE b)):=rfl;have bx:=H (IV ad);rw[a2,a3]at ao;obtain⟨T3,ba⟩:∃T3,gj (gI (gE b))=T3:=⟨_,rfl⟩;have br:(T3.toList==[82])=decide (gI (gE b)=[82]):=by rw[xV,<-ba,vJ _ bx.o];rfl
   rw[ba]at ao;go_wp2_with fail;apply ao.o.m;rintro T w3 ⟨rfl,⟨p3,h3⟩,o3⟩;have a8:=H h3;have O3:=H (O2.t o3);by_cases y:gI (gE b)=[82]
   ·rw[aH y]at br;have K:wt (g_ b=O (gE (gE b))):=by unfold Hid g_ gx;rw[ak V];show(if _ then _ else _)=_;rw[ak y]
    have f:wt (q=O (ik (VT k) 9 m 0 [],gE (gE b))):=by unfold Hid;rw[<-e.o,K.o]
    have bt:w3.heap[w.heap.size]?=O (BV iZ 67 (0,0)):=by have:=j.o;rw[O3.o.block _ (ap n.o) Y];exact n
    obtain⟨⟨r0,r1,r2,r3,r4,r5,r6⟩,f0,f1,f2,f3,f4,f5,f6⟩:=zc bt;have d:=H (Cu a8 (z.t O3) bt (I U 9) (I U m) (I U 0) (y7 {data:=#[]}) j);go_wp2;refine aK (v:=Bc #[I U 9,I U m,I U 0,y7 {data:=#[]},Z N 0 0,Z N 0 0,Z N 0 0]) ?_ rfl ?_;·exact bk results226 _ _ w.heap.size 67 _ _ _ rfl d.1 bq rfl aG
    exact mh.some_ f (iR.leaf k 9 m 0 []) d.2
   ·rw[av y]at br;have K:wt (g_ b=N):=by unfold Hid g_ gx;rw[ak V];show(if _ then _ else _)=_;rw[aj y]
    obtain⟨b1,b2,b3,b4,M,b6⟩:=a7.o _ _ _ a8 O3 K;have f:=H b6;obtain⟨⟨r0,r1,r2,r3,r4,r5,r6⟩,f0,f1,f2,f3,f4,f5,f6⟩:=zc M;have d:=H (Cu b3 b4 M (I U 2) (I U m) (I U 0) (y7 {data:=#[]}) j);go_wp2;refine aK (v:=Bc #[I U 2,I U m,I U 0,y7 {data:=#[]},Z N 0 0,Z N 0 0,Z N 0 0]) ?_ rfl ?_;·exact bk results226 _ _ w.heap.size 67 _ _ _ rfl d.1 bq rfl aG
    exact mh.some_ f (iR.leaf k 2 m 0 []) d.2
  ·rw[av V]at bv;have K:wt (g_ b=N):=by unfold Hid g_ gx;rw[aj V];rfl
   obtain⟨b1,b2,b3,b4,M,b6⟩:=a7.o _ _ _ ad O2 K;have f:=H b6;obtain⟨⟨r0,r1,r2,r3,r4,r5,r6⟩,f0,f1,f2,f3,f4,f5,f6⟩:=zc M;have d:=H (Cu b3 b4 M (I U 2) (I U m) (I U 0) (y7 {data:=#[]}) j);go_wp2;refine aK (v:=Bc #[I U 2,I U m,I U 0,y7 {data:=#[]},Z N 0 0,Z N 0 0,Z N 0 0]) ?_ rfl ?_;·exact bk results226 _ _ w.heap.size 67 _ _ _ rfl d.1 bq rfl aG
   exact mh.some_ f (iR.leaf k 2 m 0 []) d.2
 |none=>
  rw[E]at L e;have a1:=L.o;subst a1;simp only[]at e;cases a5:kf i with
  |some cc=>
   obtain⟨v,pp⟩:=cc;rw[a5]at F e;obtain⟨b,l⟩:=J.o (by rintro rfl;cases a5);obtain⟨hm,hp,hb⟩:=F.o;subst hm hp hb;rw[l]at g e;have f:wt (q=O (ik (VT k) 3 aa pp [],b)):=e.o.s;have d:=H (Cu g z n (I U 3) (I U aa) (I U (pp:Nat)) (y7 {data:=#[]}) j);go_wp2;refine aK (v:=Bc #[I U 3,I U aa,I U (pp:Nat),y7 {data:=#[]},Z N 0 0,Z N 0 0,Z N 0 0]) ?_ rfl ?_;·exact bk results226 _ _ w.heap.size 67 _ _ _ rfl d.1 bq rfl aG
   exact mh.some_ f (iR.leaf k 3 aa pp []) d.2
  |none=>
   rw[a5]at F e;have hb:=F.o;subst hb;have f:wt (q=N):=e.o.s;have bz:=H (tZ g);go_wp2_with fail;apply bz.o.m;rintro T w2 ⟨rfl,A,C⟩;have bs:w2.heap[w.heap.size]?=O (BV iZ 67 (0,0)):=by have:=j.o;rw[C.block _ (ap n.o) Y];exact n
   obtain⟨⟨r0,r1,r2,r3,r4,r5,r6⟩,f0,f1,f2,f3,f4,f5,f6⟩:=zc bs;have d:=H (Cu A (z.t C) bs (I U 0) (I U 0) (I U 0) (y7 {data:=#[]}) j);go_wp2;refine aK (v:=Bc #[I U 0,I U 0,I U 0,y7 {data:=#[]},Z N 0 0,Z N 0 0,Z N 0 0]) ?_ rfl ?_;·exact bk results226 _ _ w.heap.size 67 _ _ _ rfl d.1 bq rfl aG
   exact mh.none_ f (GV.leaf _ _ 0 0 0 _) d.2
end
section
structure Am(d:vz)(q:Nat)(S:ByteArray)(K:Nat)(w:vz)(t:Option (List Nat))(m:wg)(l:List wg)(f:wg)(o:List (List Nat)):Prop where
 sc:∃p,Sn q S w p t
 only:iJ q d w
 lt:q<d.heap.size
 rb:w.heap[d.heap.size]?=O (BV iZ 67 (0,0))
 vb:w.heap[d.heap.size+1]?=O (BV #[I U K,I U 0,I U 0,y7 {data:=#[]},m,f,Z N 0 0] 67 (0,0))
 own:w.ownsRow (d.heap.size+2) 67 7 m (G l) (l.flatMap cellsOf)
 ownk:w.ownsRow (d.heap.size+2) 9 1 f (G o) (o.map λs=>y7 (gj s))
 c7:∀x∈l,n5 x
 few:G l+ij t<=200001
 fewk:G o+ij t<=200001
def TV(b k:Nat)(i:vz)(h g:wg)(d:List wg)(Vs:List (VT k)):Prop:=G d=G Vs/\∀(c:Nat) (e:wg) (f:VT k),d[c]?=O e->Vs[c]?=O f->iR (λa=>b<=a/\h.ownBlock≠O a/\g.ownBlock≠O a) k i e f
variable{d:vz}{q K k:Nat}{S:ByteArray}{w n:vz}{t t':Option (List Nat)}{m f:wg}{l:List wg}{Vs:List (VT k)}{o:List (List Nat)}
def Am.step(h:Am d q S K w t m l f o)(b:kJ q S w n t')(v:ij t'<=ij t):Am d q S K n t' m l f o/\(TV (d.heap.size+2) k w m f l Vs->TV (d.heap.size+2) k n m f l Vs):=by
 have u:=h.lt;have c:∀a,d.heap.size<=a->a<w.heap.size->n.heap[a]?=w.heap[a]?:=λa g e=>b.2.block a e Y;refine⟨⟨b.1,h.only.t b.2,h.lt,?_,?_,Bw h.own b.2 Y,Bw h.ownk b.2 Y,h.c7,by have:=h.few;omega,by have:=h.fewk;omega⟩,λtv=>⟨tv.1,λp r s i j=>?_⟩⟩;·rw[c _ (ag _) (ap h.rb)];exact h.rb
 ·rw[c _ Y (ap h.vb)];exact h.vb
 ·exact iR.keep k (tv.2 p r s i j) (λa g e=>c a Y e)
def Am.below(h:Am d q S K w t m l f o)(b:wm w.heap.size w n):Am d q S K n t m l f o/\(TV (d.heap.size+2) k w m f l Vs->TV (d.heap.size+2) k n m f l Vs):=by obtain⟨p,a⟩:=h.sc;exact h.step ⟨⟨p,a.other b⟩,.of_below b⟩ (ag _)
def Am.item(h:Am d q S K w t m l f o){x:wg}(X:n5 x){g:wg}
  (L:n.ownsRow (d.heap.size+2) 67 7 g (G l+1) (l.flatMap cellsOf++cellsOf x)) (r:w.grownBy n m.ownBlock) (Q:G l+1+ij t<=200001):Am d q S K (n.setCell ⟨d.heap.size+1,4,N⟩ g) t g (l++[x]) f o/\∀{A:VT k} {Px:Nat->Prop},(∀b,Px b->d.heap.size+2<=b/\m.ownBlock≠O b/\f.ownBlock≠O b)->iR Px k w x A->(∀b,g.ownBlock=O b->m.ownBlock=O b\/w.heap.size<=b)->TV (d.heap.size+2) k w m f l Vs->TV (d.heap.size+2) k (n.setCell ⟨d.heap.size+1,4,N⟩ g) g f (l++[x]) (Vs++[A]):=by
 have al:=h.lt;have T:=ap h.vb;have F:=h.own.lt;have J:∀b,b<w.heap.size->m.ownBlock≠O b->b≠d.heap.size+1->(n.setCell ⟨d.heap.size+1,4,N⟩ g).heap[b]?=w.heap[b]?:=λb c p P=>by rw[lK _ P,r.block b c (λe=>p e.s)]
 have B:∀b,b<d.heap.size+1->(n.setCell ⟨d.heap.size+1,4,N⟩ g).heap[b]?=w.heap[b]?:=λb c=>J b Y (λe=>by have:=F b e;omega) Y;have V:n.heap[d.heap.size+1]?=O (BV #[I U K,I U 0,I U 0,y7 {data:=#[]},m,f,Z N 0 0] 67 (0,0)):=by rw[r.block _ T (λe=>by have:=F _ e.s;omega)];exact h.vb
 obtain⟨ac,z⟩:=h.sc;refine⟨⟨⟨ac,⟨by rw[B _ Y];exact z.blk,z.lp,z.ls,z.rest⟩⟩,?_,h.lt,by rw[B _ Y];exact h.rb,?_,?_,?_,?_,by rw[ab];exact Q,h.fewk⟩,?_⟩;·exact⟨r.os.t h.only.os,r.tape.t h.only.tape,r.output.t h.only.output,by have:=r.size;simp[World.setCell];omega,λb c p=>(B b Y).t (h.only.block b c p)⟩
 ·rw[nu _ V];rfl
 ·rw[ab,cK];have:=bJ (a:=⟨d.heap.size+1,4,N⟩) L (λe=>absurd (L.lt (d.heap.size+1) e).1 Y) g;simpa using this
 ·have:=h.ownk.kept r (by
   cases R:f.ownBlock with
   |none=>exact C1 rfl
   |some b=>refine C2 (λe=>?_);exact Gz h.own h.ownk bF b e.s R)
  exact bJ this (λe=>absurd (this.lt (d.heap.size+1) e).1 Y) g
 ·intro ad s;rcases aZ.1 s with s|s;·exact h.c7 ad s
  ·rw[cZ]at s;subst s;exact X
 ·intro A Px y W M tv;refine⟨by rw[ab,ab,tv.1];rfl,?_⟩;intro C D E i j;have aa:iR (λb=>d.heap.size+2<=b/\m.ownBlock≠O b/\f.ownBlock≠O b/\g.ownBlock≠O b) k w D E:=by
   rcases cW C (G l) with u|u
   ·rw[aR u]at i;rw[aR (by rw[<-tv.1];exact u)]at j;refine iR.m k (tv.2 C D E i j) (λb c p=>⟨c.1,c.2.1,c.2.2,λe=>?_⟩);rcases M b e with v|v;·exact c.2.1 v
    ·omega
   ·rw[aW u]at i;rw[aW (by rw[<-tv.1];exact u)]at j;rw[<-tv.1]at j;obtain⟨rfl,rfl⟩:x=D/\A=E:=by
     match hj:C-G l,i,j with
     |0,i,j=>exact⟨by simpa using i,by simpa using j⟩
     |ao+1,i,j=>simp at i
    refine iR.m k W (λb c p=>⟨(y b c).1,(y b c).2.1,(y b c).2.2,λe=>?_⟩);rcases M b e with v|v;·exact(y b c).2.1 v
    ·omega
  refine iR.m k (iR.keep k aa (λb c p=>J b p c.2.1 Y)) (λb c _=>⟨c.1,c.2.2.2,c.2.2.1⟩)
def Am.key(h:Am d q S K w t m l f o){s:List Nat}{g:wg}
  (C:n.ownsRow (d.heap.size+2) 9 1 g (G o+1) ((o.map λs=>y7 (gj s))++[y7 (gj s)])) (j:w.grownBy n f.ownBlock) (M:∀b,g.ownBlock=O b->f.ownBlock=O b\/w.heap.size<=b) (E:G o+1+ij t<=200001):Am d q S K (n.setCell ⟨d.heap.size+1,5,N⟩ g) t m l g (o++[s])/\(TV (d.heap.size+2) k w m f l Vs->TV (d.heap.size+2) k (n.setCell ⟨d.heap.size+1,5,N⟩ g) m g l Vs)/\∀{p:wg} {r:VT k} {Px:Nat->Prop},(∀b,Px b->d.heap.size+2<=b/\f.ownBlock≠O b)->iR Px k w p r->iR Px k (n.setCell ⟨d.heap.size+1,5,N⟩ g) p r:=by
 have V:=h.lt;have J:=ap h.vb;have B:=h.ownk.lt;have x:∀b,b<w.heap.size->f.ownBlock≠O b->b≠d.heap.size+1->(n.setCell ⟨d.heap.size+1,5,N⟩ g).heap[b]?=w.heap[b]?:=λb c i D=>by rw[lK _ D,j.block b c (λe=>i e.s)]
 have v:∀b,b<d.heap.size+1->(n.setCell ⟨d.heap.size+1,5,N⟩ g).heap[b]?=w.heap[b]?:=λb c=>x b Y (λe=>by have:=B b e;omega) Y;have L:n.heap[d.heap.size+1]?=O (BV #[I U K,I U 0,I U 0,y7 {data:=#[]},m,f,Z N 0 0] 67 (0,0)):=by rw[j.block _ J (λe=>by have:=B _ e.s;omega)];exact h.vb
 obtain⟨T,u⟩:=h.sc;refine⟨⟨⟨T,⟨by rw[v _ Y];exact u.blk,u.lp,u.ls,u.rest⟩⟩,?_,h.lt,by rw[v _ Y];exact h.rb,?_,?_,?_,h.c7,h.few,by rw[ab];exact E⟩,?_,?_⟩;·exact⟨j.os.t h.only.os,j.tape.t h.only.tape,j.output.t h.only.output,by have:=j.size;simp[World.setCell];omega,λb c i=>(v b Y).t (h.only.block b c i)⟩
 ·rw[nu _ L];rfl
 ·have:=h.own.kept j (by
   cases F:m.ownBlock with
   |none=>exact C1 rfl
   |some b=>refine C2 (λe=>?_);exact Gz h.own h.ownk bF b F e.s)
  exact bJ this (λe=>absurd (this.lt (d.heap.size+1) e).1 Y) g
 ·rw[ab,aI];have:=bJ (a:=⟨d.heap.size+1,5,N⟩) C (λe=>absurd (C.lt (d.heap.size+1) e).1 Y) g;simpa using this
 ·intro tv;refine⟨tv.1,?_⟩;intro Q p r y P;have R:iR (λb=>d.heap.size+2<=b/\m.ownBlock≠O b/\f.ownBlock≠O b/\g.ownBlock≠O b) k w p r:=by
   refine iR.m k (tv.2 Q p r y P) (λb c i=>⟨c.1,c.2.1,c.2.2,λe=>?_⟩);rcases M b e with z|z;·exact c.2.2 z
   ·omega
  refine iR.m k (iR.keep k R (λb c i=>x b i c.2.2.1 Y)) (λb c _=>⟨c.1,c.2.1,c.2.2.2⟩)
 ·intro p r Px A y;exact iR.keep k y (λb c i=>x b i (A b c).2 (by have:=(A b c).1;omega))
end
section
variable{a:vz}{j K k:Nat}{S:ByteArray}{w w':vz}{t z:Option (List Nat)}{c d:wg}{f:List wg}{Vs:List (VT k)}{l:List (List Nat)}
def mh.str{e:Option (List Nat×List Nat)}{m:xc}(h:mh j S wZ aS e w m w'):∃(g:List Nat) (t:Option (List Nat)),m=BX (y7 (gj g))/\kJ j S w w' t/\((e=N/\t=N)\/∃b,e=O (g,b)/\t=O b):=by
 unfold mh at h;cases e with
 |none=>obtain⟨p,rfl,⟨n,rfl,_⟩,i⟩:=h;exact⟨bl n,N,by rw[yN],i,C1 ⟨rfl,rfl⟩⟩
 |some q=>obtain⟨g,b⟩:=q;obtain⟨p,rfl,o,i⟩:=h;exact⟨g,O b,by rw[o],i,C2 ⟨b,rfl,rfl⟩⟩
def py.any{x:Option (VT k×List Nat)}{D:xc}(h:py j S k x w D w'):∃(A B C:Int) (n:ByteArray) (p:Option wT) (r q:Nat) (s:Option wT) (v u:Nat) (b:Option wT) (g e:Nat) (t:Option (List Nat)),D=BX (Bc #[I U A,I U B,I U C,y7 n,Z p r q,Z s v u,Z b g e])/\kJ j S w w' t/\((x=N/\t=N/\GV w.heap.size w' (Bc #[I U A,I U B,I U C,y7 n,Z p r q,Z s v u,Z b g e]))\/∃o m,x=O (o,m)/\t=O m/\iR (λE=>w.heap.size<=E) k w' (Bc #[I U A,I U B,I U C,y7 n,Z p r q,Z s v u,Z b g e]) o):=by
 unfold py mh at h;cases x with
 |none=>obtain⟨M,rfl,i,y⟩:=h;have F:=i;obtain⟨kd,aa,ac,n,c,d,W,f,l,rfl,J,_,L,_,b,g,e,rfl⟩:=i;obtain⟨Q,T,rfl⟩:=ke J.1;obtain⟨R,V,rfl⟩:=ke L.1;exact⟨_,_,_,_,_,_,_,_,_,_,_,_,_,N,rfl,y,C1 ⟨rfl,rfl,F⟩⟩
 |some P=>obtain⟨o,m⟩:=P;obtain⟨M,rfl,i,y⟩:=h;obtain⟨X,k1,k2,k3,p,r,q,s,v,u,b,g,e,rfl⟩:=iR.form i;exact⟨_,_,_,_,_,_,_,_,_,_,_,_,_,O m,rfl,y,C2 ⟨o,m,rfl,rfl,i⟩⟩
def Iq(u v x:Int)(g:ByteArray)(n:Option wT)(p o:Nat)(q:Option wT)(s r:Nat)(h:Option wT)(m i:Nat):∀e∈cellsOf (Bc #[I U u,I U v,I U x,y7 g,Z n p o,Z q s r,Z h m i]),e.oneCell'=CD:=by intro e b;simp[cellsOf,Value.cells]at b;rcases b with rfl|rfl|rfl|rfl|rfl|rfl|rfl<;>rfl
def fo(r s u:Int)(b:ByteArray)(i:Option wT)(n m:Nat)(o:Option wT)(q p:Nat)(e:Option wT)(h g:Nat):n5 (Bc #[I U r,I U s,I U u,y7 b,Z i n m,Z o q p,Z e h g]):=
 ⟨r,s,u,b,i,n,m,o,q,p,e,h,g,rfl⟩
def GV.keep{b:Nat}{v:wg}(h:GV b w v)(g:∀e,b<=e->e<w.heap.size->w'.heap[e]?=w.heap[e]?):GV b w' v:=by obtain⟨y,n,p,i,c,d,m,f,l,o,q,r,s,u,x⟩:=h;exact⟨y,n,p,i,c,d,m,f,l,o,q.keep g,r,s.keep g,u,x⟩
def Am.fin(h:Am a j S K w t c f d l):let i:=((((((w.setCell ⟨a.heap.size,0,N⟩ (I U K)).setCell ⟨a.heap.size,1,N⟩ (I U 0)).setCell ⟨a.heap.size,2,N⟩ (I U 0)).setCell ⟨a.heap.size,3,N⟩ (y7 {data:=#[]})).setCell ⟨a.heap.size,4,N⟩ c).setCell ⟨a.heap.size,5,N⟩ d).setCell ⟨a.heap.size,6,N⟩ (Z N 0 0)
  i.heap[a.heap.size]?=O (BV #[I U K,I U 0,I U 0,y7 {data:=#[]},c,d,Z N 0 0] 67 (0,0))/\kJ j S a i t /\
   (G l<=G f->GV a.heap.size i (Bc #[I U K,I U 0,I U 0,y7 {data:=#[]},c,d,Z N 0 0])) /\
   (∀{k:Nat} {Vs:List (VT k)},TV (a.heap.size+2) k w c d f Vs->iR (λb=>a.heap.size<=b) (k+1) i (Bc #[I U K,I U 0,I U 0,y7 {data:=#[]},c,d,Z N 0 0]) (⟨K,0,0,[],Vs,l,[]⟩:f_ (VT k))):=by
 intro i;have g:iJ a.heap.size w i:=qu w a.heap.size (I U K) (I U 0) (I U 0) (y7 {data:=#[]}) c d (Z N 0 0);have P:=h.lt;have C:=h.only.size;obtain⟨J,m⟩:=h.sc;have B:=m.lt;have Q:=ap h.vb;have n:∀{o q p:Nat} {v:wg} {r:List wg},w.ownsRow (a.heap.size+2) o q v p r->i.ownsRow (a.heap.size+2) o q v p r:=λy=>Bw y g Y;refine⟨uG h.rb _ _ _ _ _ _ _,⟨⟨J,⟨by rw[g.block _ B Y];exact m.blk,m.lp,m.ls,m.rest⟩⟩,?_⟩,λA=>?_,λ{k Vs} tv=>?_⟩;·exact⟨g.os.t h.only.os,g.tape.t h.only.tape,g.output.t h.only.output,aJ C g.size,λb s u=>(g.block b Y Y).t (h.only.block b s u)⟩
 ·exact⟨K,0,0,_,c,d,_,f,l,rfl,j4.of (n h.own) (λb e=>by have:=(h.own.lt b e).1;omega),h.c7,j4.of (n h.ownk) (λb e=>by have:=(h.ownk.lt b e).1;omega),⟨A,by have:=h.few;omega⟩,N,0,0,rfl⟩
 ·exact⟨c,d,Z N 0 0,f,rfl,tv.1,j4.of (n h.own) (λb e=>by have:=(h.own.lt b e).1;omega),λF L M D E=>iR.m k (iR.keep k (tv.2 F L M D E) (λb e x=>g.block b x Y)) (λb e _=>Y),j4.of (n h.ownk) (λb e=>by have:=(h.ownk.lt b e).1;omega),j4.nil _ _ _ _⟩
def CK(b k:Nat)(e:Option ((List (List Nat)×List (VT k))×List Nat))(w:vz)(t:Option (List Nat))(c:wg)(f:List wg)(d:wg)(l:List (List Nat)):Prop:=G l=G f/\match t with
 |some r=>∃Vs,TV b k w c d f Vs/\∃g,G r<g/\xn l Vs (jy (gC k) g r)=e
 |none=>e=N
def FY(j:Nat)(S:ByteArray)(k:Nat):Prop:=∀(b:vz) (g:Nat) (e:Option (List Nat)),Sn j S b g e->wh DG 174 #[A3 (O ⟨j,0,N⟩),I U (12-k:Nat)] b (py j S k (e.bind (gC k)) b)
end
section
variable{d:vz}{c K k:Nat}{S:ByteArray}{w w':vz}{p:Nat}{s t n:Option (List Nat)}{f l:wg}{vs:List wg}{Vs:List (VT k)}{b:List (List Nat)}
def Hs{W:vz}{a0 a1 a2 a3 a4 a5 a6:wg}:∀(a:Nat) (e:wg),[a0,a1,a2,a3,a4,a5,a6][a]?=O e->(W.alloc (BV #[a0,a1,a2,a3,a4,a5,a6] 67)).cell? ((⟨W.heap.size,0,N⟩:wT).add a)=O e:=by intro a e g;rw[sK,cb (bn W _)];simpa using g
def Tq{W:vz}{a:wg}:∀(e:Nat) (g:wg),[a][e]?=O g->(W.alloc (BV #[a] 9)).cell? ((⟨W.heap.size,0,N⟩:wT).add e)=O g:=by intro e g h;rw[sK,cb (bn W _)];simpa using h
def Am.cells(h:Am d c S K w t f vs l b):w.cell? ⟨d.heap.size+1,0,N⟩=O (I U K)/\w.cell? ⟨d.heap.size+1,1,N⟩=O (I U 0)/\w.cell? ⟨d.heap.size+1,2,N⟩=O (I U 0)/\w.cell? ⟨d.heap.size+1,3,N⟩=O (y7 {data:=#[]})/\w.cell? ⟨d.heap.size+1,4,N⟩=O f/\w.cell? ⟨d.heap.size+1,5,N⟩=O l/\w.cell? ⟨d.heap.size+1,6,N⟩=O (Z N 0 0):=
 ⟨cb h.vb,cb h.vb,cb h.vb,cb h.vb,cb h.vb,cb h.vb,cb h.vb⟩
def qr(k:Nat)(s:Option (List Nat)):Option (VT (k+1)×List Nat):=s.bind λr=>(jy (gC k) (G r+1) r).map λa=>((⟨7,0,0,[],a.1.2,a.1.1,[]⟩:f_ (VT k)),a.2)
def MA(hk:k<=11)(ih:FY c S k)(h:Sn c S w p s):wh DG 171 #[A3 (O ⟨c,0,N⟩),I U (11-k:Nat)] w (py c S (k+1) (qr k s) w):=by
 obtain⟨i0,hi,eu,ev,ex⟩:=bR iV;obtain⟨j0,ji,ey,ez,e3⟩:=bR iS;have IH:=H ih;have c5:=H h;have gc:=h.ls;obtain⟨aa,hR⟩:∃aa:Option ((List (List Nat)×List (VT k))×List Nat),aa=s.bind λr=>jy (gC k) (G r+1) r:=⟨_,rfl⟩;have cg:wt (qr k s=aa.map λbd=>((⟨7,0,0,[],bd.1.2,bd.1.1,[]⟩:f_ (VT k)),bd.2)):=by unfold Hid qr;rw[hR];cases s<;>rfl
 rw[cg.o];have b2:wm w.heap.size w ((w.alloc (BV iZ 67)).alloc (BV #[I U 7,I U 0,I U 0,y7 {data:=#[]},Z N 0 0,Z N 0 0,Z N 0 0] 67)):=((ar _ _).alloc (ag _) _).alloc cO _;have b4:wt (Am w c S 7 ((w.alloc (BV iZ 67)).alloc (BV #[I U 7,I U 0,I U 0,y7 {data:=#[]},Z N 0 0,Z N 0 0,Z N 0 0] 67)) s (Z N 0 0) [] (Z N 0 0) []):=by
  have cy:=bn (w.alloc (BV iZ 67)) (BV #[I U 7,I U 0,I U 0,y7 {data:=#[]},Z N 0 0,Z N 0 0,Z N 0 0] 67);rw[aV]at cy;have br:ij s<=200001:=by
   cases s with
   |none=>simp[ij]
   |some r=>have:=h.len;simp only[ij];omega
  exact⟨⟨p,h.other b2⟩,.of_below b2,h.lt,nt _ (bn _ _),cy,bI _ _ _ _,bI _ _ _ _,(λbd x=>by cases x),by simpa using br,by simpa using br⟩
 have b8:wt (CK (w.heap.size+2) k aa ((w.alloc (BV iZ 67)).alloc (BV #[I U 7,I U 0,I U 0,y7 {data:=#[]},Z N 0 0,Z N 0 0,Z N 0 0] 67)) s (Z N 0 0) [] (Z N 0 0) []):=by
  refine⟨rfl,?_⟩;rw[hR];cases s with
  |none=>rfl
  |some r=>refine⟨[],⟨rfl,λgm bd gw x _=>by simp at x⟩,G r+1,Y,?_⟩;show xn [] [] _=jy (gC k) (G r+1) r;unfold xn;cases jy (gC k) (G r+1) r<;>simp
 generalize cn:(w.alloc (BV iZ 67)).alloc (BV #[I U 7,I U 0,I U 0,y7 {data:=#[]},Z N 0 0,Z N 0 0,Z N 0 0] 67)=W0 at *;have ck:wt ((w.alloc (BV #[I U 0,I U 0,I U 0,y7 {data:=#[]},Z N 0 0,Z N 0 0,Z N 0 0] 67)).alloc (BV #[I U 7,I U 0,I U 0,y7 {data:=#[]},Z N 0 0,Z N 0 0,Z N 0 0] 67)=W0):=cn;clear cn b2 hR h ih cg c5
 go_in
 go_wp2_with fail;rw[ck.o];go_loopw [] (λwr=>∃(t:Option (List Nat)) (f l:wg) (vs:List wg) (b:List (List Nat)),wt (Am w c S 7 wr t f vs l b)/\wt (CK (w.heap.size+2) k aa wr t f vs l b)) (λwr=>mS c S wr)
 case atStart=>exact⟨s,_,_,[],[],b4,b8⟩
 clear b4 b8 ck
 case round=>
  obtain⟨t,f,l,vs,b,HA,HD⟩:=hrel;obtain⟨p,bs⟩:=HA.o.sc;have c2:=bs.c2;have HM:=H bs.mS;have dj:=H bs;clear bs;cases t with
  |none=>
   simp only[Option.isNone_none]at c2;have di:wt (aa=N):=HD.o.2;have bw:=H (Nat.le_of_eq HD.1);obtain⟨v0,v1,v2,v3,v4,v5,v6⟩:=Am.cells HA;obtain⟨⟨r0,r1,r2,r3,r4,r5,r6⟩,f0,f1,f2,f3,f4,f5,f6⟩:=zc HA.rb;have HF:=H (Am.fin HA);obtain⟨ia,ic,bm⟩:=ke HA.o.own;obtain⟨m,q,bc⟩:=ke HA.o.ownk;subst bm bc;go_wp2;refine aK (v:=Bc #[I U 7,I U 0,I U 0,y7 {data:=#[]},Z ia (G vs) ic,Z m (G b) q,Z N 0 0]) ?_ rfl ?_;·exact bk results171 _ _ w.heap.size 67 _ _ _ rfl HF.1 bq rfl aG
   exact mh.none_ (by rw[di.o];rfl) (HF.2.2.1 bw) HF.2.1
  |some r=>
   simp only[Option.isNone_some]at c2;have ci:=H (D3 dj);simp only[bK]at ci;have b9:=H (And.intro HA.few HA.fewk);obtain⟨Vs,er,bv,hm,eb⟩:=HD.o.2;have dk:=H er;obtain⟨bv,rfl⟩:∃bt,bv=bt+1:=⟨bv-1,Y⟩;have bh:=H eb;have bw:=H HD.1;have da:=H hm;go_wp2_with fail;apply ci.o.m;rintro u w1 ⟨rfl,k1⟩;have gi:=jM r;obtain⟨a1,e4⟩:=HA.o.step (k:=k) (Vs:=Vs) k1 oj;have b5:=H a1;have cj:=H (e4 dk);obtain⟨p1,g⟩:=k1.1;have HC:=H (zT g {data:=#[62,62]} bF);rw[show bl {data:=#[62,62]}=[62,62]from rfl]at HC;simp only[jy]at bh;cases ht:gh [62,62] (gq r)with
   |some ao=>
    have cp:=Fs (s:=O (gq r)) (t:=[62,62]) (q:=ao) ht;rw[cp.1,cp.2]at HC;have dg:wt (aa=O ((b,Vs),ao)):=by unfold Hid;rw[<-bh.o,ht];simp[xn]
    have gd:=(gZ ht).1;go_wp2_with fail;apply HC.o.m;rintro u w2 ⟨rfl,k2⟩;obtain⟨a2,b1⟩:=b5.o.step (k:=k) (Vs:=Vs) k2 oj;have ad:=H a2;have bx:=H (b1 cj);obtain⟨v0,v1,v2,v3,v4,v5,v6⟩:=Am.cells ad;obtain⟨⟨r0,r1,r2,r3,r4,r5,r6⟩,f0,f1,f2,f3,f4,f5,f6⟩:=zc ad.rb;have HF:=H (Am.fin ad);obtain⟨ia,ic,bm⟩:=ke ad.o.own;obtain⟨m,q,bc⟩:=ke ad.o.ownk;subst bm bc;go_wp2;refine aK (v:=Bc #[I U 7,I U 0,I U 0,y7 {data:=#[]},Z ia (G vs) ic,Z m (G b) q,Z N 0 0]) ?_ rfl ?_;·exact bk results171 _ _ w.heap.size 67 _ _ _ rfl HF.1 bq rfl aG
    exact mh.some_ (by rw[dg.o];rfl) (HF.2.2.2 bx) HF.2.1
   |none=>
    have co:=A7 (s:=O (gq r)) (t:=[62,62]) ht;rw[co.1,co.2]at HC;rw[ht]at bh;go_wp2_with fail;apply HC.o.m;rintro u w2 ⟨rfl,k2⟩;obtain⟨a2,b1⟩:=b5.o.step (k:=k) (Vs:=Vs) k2 (ag _);have ad:=H a2;have bx:=H (b1 cj);obtain⟨p2,i⟩:=k2.1;have cd:=H (Bl i {data:=#[47]} bF);rw[show bl {data:=#[47]}=[47]from rfl]at cd;go_wp2_with fail;apply cd.o.m;rintro u w3 ⟨rfl,k3⟩;obtain⟨a3,e7⟩:=ad.o.step (k:=k) (Vs:=Vs) k3 (by
     show ij (gh [47] (gq r))<=_;cases x:gh [47] (gq r)with
     |none=>simp[ij]
     |some q1=>have:=(gZ x).1;simp only[ij];simp at this;omega)
    have b7:=H a3;have dl:=H (e7 bx);obtain⟨p3,h3⟩:=k3.1;have ce:=H (Gs h3);simp only[Option.bind_some]at ce b7;go_wp2_with fail;apply ce.o.m;intro u w4 ek;obtain⟨V,t4,rfl,k4,cs⟩:=mh.str ek;have cf:=H cs;have ca:wt (ij t4<=ij (gh [47] (gq r))/\ij t4+1<=ij (O r)):=by
     rcases cs with⟨_,rfl⟩|⟨ao,g,rfl⟩;·exact⟨by simp[ij],by simp[ij]⟩
     ·cases x:gh [47] (gq r)with
      |none=>rw[x]at g;cases g
      |some q1=>rw[x]at g;have i:=kU _ 0 0 _ _ (show ir 0 0 q1=O (V,ao)from g);have h3:=(gZ x).1;simp only[ai,aB]at h3;exact⟨by simp only[ij];omega,by simp only[ij];omega⟩
    obtain⟨a4,e8⟩:=b7.o.step (k:=k) (Vs:=Vs) k4 ca.1;have a9:=H a4;have dm:=H (e8 dl);obtain⟨p4,h4⟩:=k4.1;have d1:=H (IH w4 p4 t4 h4);have fv:((11-k:Nat):Int)+1=((12-k:Nat):Int):=Y;have fs:11-k<=11:=Y;go_wp2_with fail;apply d1.o.m;intro u j el;obtain⟨J,L,M,y,C,E,D,m,F,q,z,B,A,t5,rfl,k5,ct⟩:=py.any el;have cc:wt (ij t5<=ij t4):=by
     rcases ct with⟨_,rfl,_⟩|⟨ac,ao,g,rfl,_⟩;·simp[wt,ij]
     ·cases t4 with
      |none=>cases g
      |some q2=>have:=jY g;simp only[wt,ij];omega
    obtain⟨a5,e9⟩:=a9.o.step (k:=k) (Vs:=Vs) k5 cc;have dp:=H (e9 dm);have dd:=H ct;have bz:=λe T=>(a9.o.ownk.lt e T).2;have ei:=λe T=>(a9.o.own.lt e T).2;have gf:=k5.2.size;have gk:=ap a9.vb;have bb:wm j.heap.size j ((j.alloc (BV #[I U J,I U L,I U M,y7 y,Z C E D,Z m F q,Z z B A] 67)).alloc (BV #[y7 (gj V)] 9)):=((ar _ _).alloc (ag _) _).alloc cO _;obtain⟨a6,fb⟩:=a5.below (k:=k) (Vs:=Vs) bb;have X:=H a6;have ds:=H (fb dp);have c6:=H bb;have et:((j.alloc (BV #[I U J,I U L,I U M,y7 y,Z C E D,Z m F q,Z z B A] 67)).alloc (BV #[y7 (gj V)] 9)).heap[j.heap.size]?=O (BV #[I U J,I U L,I U M,y7 y,Z C E D,Z m F q,Z z B A] 67 (0,0)):=nt _ (bn _ _);have d4:=H et;have d5:=a6.cells.2.2.2.2.2.1;have e5:(j.alloc (BV #[I U J,I U L,I U M,y7 y,Z C E D,Z m F q,Z z B A] 67)).cell? ⟨w.heap.size+1,5,N⟩=O l:=(cb (nt _ a5.vb)).t rfl;have fz:=a9.o.fewk;have fw:=a9.o.few;have ga:=ca.o.2;have gb:=cc.o;have f8:=X.o.fewk;obtain⟨va,vc,bc⟩:=ke X.o.ownk;have fq:=H bc;have d7:w.heap.size+2<=((j.alloc (BV #[I U J,I U L,I U M,y7 y,Z C E D,Z m F q,Z z B A] 67)).alloc (BV #[y7 (gj V)] 9)).heap.size:=eS;have db:wt (∀(bt:Nat) (b3:wg),[y7 (gj V)][bt]?=O b3->((j.alloc (BV #[I U J,I U L,I U M,y7 y,Z C E D,Z m F q,Z z B A] 67)).alloc (BV #[y7 (gj V)] 9)).cell? ((⟨j.heap.size+1,0,N⟩:wT).add bt)=O b3):=by have:=Tq (W:=j.alloc (BV #[I U J,I U L,I U M,y7 y,Z C E D,Z m F q,Z z B A] 67)) (a:=y7 (gj V));rw[aV]at this;exact this
    have em:=X.o.ownk;subst bc;go_wp2_with (at_builtin;refine rW _ rfl (.tmp 29) (.tmp 31) 38 rfl (w.heap.size+2) 9 j0 _ 1 16 dz ji ey ez e3 rfl bF (Z va (G b) vc) (G b) (b.map λs=>y7 (gj s)) rfl em ⟨j.heap.size+1,0,N⟩ 1 1 [y7 (gj V)] rfl rfl db ?hone ?h63 ?hby ?hbs ?_)
    case hone=>intro b3 hu;simp at hu;subst hu;rfl
    case h63=>unfold maxLen;omega
    case hby=>omega
    case hbs=>exact d7
    intro gp P c1 ba cx;obtain⟨a7,fd,fm⟩:=X.o.key (k:=k) (Vs:=Vs) (s:=V) c1 ba (λe T=>by simpa[aV]using cx e T) (by have:=b9.o;omega);have ea:=ba.size;simp only[aV]at ea;have gl:P.frozen? ⟨w.heap.size+1,5,N⟩=CS:=by have g:=(ba.block (w.heap.size+1) eS (λu=>by have:=(X.o.ownk.lt _ u.s).1;omega)).t X.vb;exact pA g
    have fu:P.cell? ⟨w.heap.size+1,5,N⟩=O (Z va (G b) vc):=by have g:=(ba.block (w.heap.size+1) eS (λu=>by have:=(X.o.ownk.lt _ u.s).1;omega)).t X.vb;exact cb g
    obtain⟨Q,R,ej⟩:=ke c1;subst ej;have al:(P.setCell ⟨w.heap.size+1,5,N⟩ (Z Q (G b+1) R)).heap[j.heap.size]?=O (BV #[I U J,I U L,I U M,y7 y,Z C E D,Z m F q,Z z B A] 67 (0,0)):=by rw[lK _ Y,ba.block _ eS (λu=>by have:=bz _ u.s;omega)];exact d4
    have y1:(P.setCell ⟨w.heap.size+1,5,N⟩ (Z Q (G b+1) R)).cell? ⟨j.heap.size,1,N⟩=O (I U L):=cb al;have y0:(P.setCell ⟨w.heap.size+1,5,N⟩ (Z Q (G b+1) R)).cell? ⟨j.heap.size,0,N⟩=O (I U J):=cb al;have y2:(P.setCell ⟨w.heap.size+1,5,N⟩ (Z Q (G b+1) R)).cell? ⟨j.heap.size,2,N⟩=O (I U M):=cb al;have y3:(P.setCell ⟨w.heap.size+1,5,N⟩ (Z Q (G b+1) R)).cell? ⟨j.heap.size,3,N⟩=O (y7 y):=cb al;have y4:(P.setCell ⟨w.heap.size+1,5,N⟩ (Z Q (G b+1) R)).cell? ⟨j.heap.size,4,N⟩=O (Z C E D):=cb al;have y5:(P.setCell ⟨w.heap.size+1,5,N⟩ (Z Q (G b+1) R)).cell? ⟨j.heap.size,5,N⟩=O (Z m F q):=cb al;have y6:(P.setCell ⟨w.heap.size+1,5,N⟩ (Z Q (G b+1) R)).cell? ⟨j.heap.size,6,N⟩=O (Z z B A):=cb al;have c4:P.cell? ⟨w.heap.size+1,4,N⟩=O f:=by have g:=(ba.block (w.heap.size+1) eS (λu=>by have:=(X.o.ownk.lt _ u.s).1;omega)).t X.vb;exact cb g
    have dv:=H (fd ds);have c8:wt (∀e,(Z Q (G b+1) R).ownBlock=O e->e<w4.heap.size\/j.heap.size<=e):=λe T=>by
     rcases cx e T with g|g;·exact C1 (bz e g)
     ·exact C2 Y
    have d2:wt (∀ac,iR (λe=>w4.heap.size<=e) k j (Bc #[I U J,I U L,I U M,y7 y,Z C E D,Z m F q,Z z B A]) ac->iR (λe=>w4.heap.size<=e/\e<j.heap.size) k (P.setCell ⟨w.heap.size+1,5,N⟩ (Z Q (G b+1) R)) (Bc #[I U J,I U L,I U M,y7 y,Z C E D,Z m F q,Z z B A]) ac):=λac hv=>fm (Px:=λe=>w4.heap.size<=e/\e<j.heap.size) (λe T=>⟨Y,λu=>by have:=bz e u;omega⟩) (iR.keep k (iR.m k hv (λe g i=>⟨g,i⟩)) (λe g i=>c6.block e g.2))
    have cv:(P.setCell ⟨w.heap.size+1,5,N⟩ (Z Q (G b+1) R)).heap.size=P.heap.size:=by simp[World.setCell]
    have fx:=a7.few;have cl:=((ar (P.setCell ⟨w.heap.size+1,5,N⟩ (Z Q (G b+1) R)).heap.size (P.setCell ⟨w.heap.size+1,5,N⟩ (Z Q (G b+1) R))).alloc (ag _) (BV #[I U J,I U L,I U M,y7 y,Z C E D,Z m F q,Z z B A] 67));obtain⟨a8,fi⟩:=a7.below (k:=k) (Vs:=Vs) cl;have bf:=H a8;have d0:=H (fi dv);have d3:=H (λac hv=>iR.keep k (d2 ac hv) (λe g i=>cl.block e i))
    have cr:=Hs (W:=P.setCell ⟨w.heap.size+1,5,N⟩ (Z Q (G b+1) R)) (a0:=I U J) (a1:=I U L) (a2:=I U M) (a3:=y7 y) (a4:=Z C E D) (a5:=Z m F q) (a6:=Z z B A);rw[cv]at cr;have dc:=H cr;obtain⟨ua,uc,bm⟩:=ke bf.o.own;have en:=bf.o.own;subst bm;go_wp2_with (at_builtin;refine rW _ rfl (.tmp 35) (.tmp 37) 29 rfl (w.heap.size+2) 67 i0 _ 7 112 dw hi eu ev ex rfl bF (Z ua (G vs) uc) (G vs) (vs.flatMap cellsOf) rfl en ⟨P.heap.size,0,N⟩ 1 1 [I U J,I U L,I U M,y7 y,Z C E D,Z m F q,Z z B A] rfl rfl dc ?hone ?h63 ?hby ?hbs ?_)
    case hone=>exact Iq J L M y C E D m F q z B A
    case h63=>unfold maxLen;omega
    case hby=>omega
    case hbs=>simp;omega
    intro c0 w9 c3 cq es;have br:G vs+1+ij t5<=200001:=by have:=b9.o;omega
    obtain⟨d6,e6⟩:=bf.o.item (k:=k) (Vs:=Vs) (x:=Bc #[I U J,I U L,I U M,y7 y,Z C E D,Z m F q,Z z B A]) (fo J L M y C E D m F q z B A) c3 cq br;have b6:=H d6;have c7:wt (CK (w.heap.size+2) k aa (w9.setCell ⟨w.heap.size+1,4,N⟩ c0) t5 c0 (vs++[Bc #[I U J,I U L,I U M,y7 y,Z C E D,Z m F q,Z z B A]]) (Z Q (G b+1) R) (b++[V])):=by
     refine⟨by rw[ab,ab,bw.o];rfl,?_⟩;rcases dd.o with⟨g,rfl,_⟩|⟨ac,ao,g,rfl,hv⟩
     ·show aa=N;have:=bh.o;rcases cf.o with⟨i,rfl⟩|⟨q2,i,rfl⟩
      ·cases x:gh [47] (gq r)with
       |none=>rw[x]at this;exact this.s
       |some q1=>rw[x]at this i;simp only[Option.bind_some]at i;simp only[i]at this;exact this.s
      ·cases x:gh [47] (gq r)with
       |none=>rw[x]at i;cases i
       |some q1=>rw[x]at this i;simp only[Option.bind_some]at g i;simp only[i,g]at this;exact this.s
     ·rcases cf.o with⟨i,rfl⟩|⟨q2,i,rfl⟩;·cases g
      ·have b0:=bh.o;cases x:gh [47] (gq r)with
       |none=>rw[x]at i;cases i
       |some q1=>
        rw[x]at b0 i;simp only[Option.bind_some]at g i;simp only[i,g]at b0;refine⟨Vs++[ac],e6 (Px:=λe=>w4.heap.size<=e/\e<j.heap.size) (λe T=>⟨Y,λu=>by have:=ei e u;omega,λu=>by have:=c8.o e u;omega⟩) (d3 ac hv) (λe T=>by simpa[aV,cv]using es e T) d0,bv,?_,?_⟩
        ·have h3:=jY g;have h4:=kU _ 0 0 _ _ (show ir 0 0 q1=O (V,q2)from i);have h5:=(gZ x).1;have h6:=da.o;simp only[ai,aB]at h5;omega
        ·rw[<-b0,Ol]
    have cw:=(cq.block (w.heap.size+1) (by simp[World.setCell];omega) (λu=>by have:=(bf.o.own.lt _ u.s).1;omega)).t bf.vb;have g4:=lQ 4 cw;have g5:w9.cell? ⟨w.heap.size+1,4,N⟩=O (Z ua (G vs) uc):=cb cw;obtain⟨gt,gv,ec⟩:=ke c3;subst ec;obtain⟨gs,eo⟩:=b6.o.sc;have c9:=H eo.mS;go_wp2;go_roundw
    case rel=>exact⟨t5,_,_,_,_,b6,c7⟩
    case measure=>rw[HM.o,c9.o];omega
end
def NZ{a b:Nat}{c:List Nat}:gh [a] (b::c)=if b=a then O c else N:=xZ
def G3{a c b:Nat}{d:List Nat}:gh [a,c] (b::d)=if b=a then gh [c] d else N:=by
 unfold gh;by_cases h:b=a;·subst h;simp[List.isPrefixOf]
 ·simp[List.isPrefixOf,h];exact λe=>absurd e.s h
def MZ{b:Nat}(h:pB b=CD):b≠91/\b≠60/\b≠40/\b≠47:=by refine⟨?_,?_,?_,?_⟩<;>(rintro rfl;revert h;decide)
def Ur(a:Type)(r:List Nat):iX a (gq r)=iX a r:=by unfold iX gI gE;simp only[kV]
def Uc(e:Type){a:List Nat}(h:pS (O a)=CS)(d:gq a=a):iX e a=N:=by
 have c:gI a=[]:=by
  unfold gI;rw[d];cases a with
  |nil=>rfl
  |cons b f=>rw[dJ,show pB b=CS from h];rfl
 unfold iX;rw[c];rfl
def value_word{k:Nat}{a:List Nat}(g:gq a=a)(h:pS (O a)=CD):gC (k+1) a=iX (VT k) a:=by
 cases a with
 |nil=>cases h
 |cons b i=>obtain⟨c,d,e,f⟩:=MZ (show pB b=CD from h);unfold gC;rw[g];simp only[NZ,G3,aj c,aj d,aj e,aj f];rfl
def t_(k:Nat):List Nat->Option (VT (k+1)×List Nat)
 | []=>N
 |b::c=>if b=91 then(kS (gC k) (G c+1) c).map λa=>((⟨6,0,0,[],a.1,[],[]⟩:f_ (VT k)),a.2)
  else if b=60 then(match gh [60] c with
   |some d=>(jy (gC k) (G d+1) d).map λa=>((⟨7,0,0,[],a.1.2,a.1.1,[]⟩:f_ (VT k)),a.2)
   |none=>(lF c).map λa=>(ik (VT k) 5 0 0 a.1,a.2))
  else if b=40 then(lq c).map λa=>(ik (VT k) 5 0 0 a.1,a.2)
  else if b=47 then(ld c).map λa=>(ik (VT k) 4 0 0 a.1,a.2)
  else N
def vm{k:Nat}{a:List Nat}(g:gq a=a)(h:pS (O a)=CS):gC (k+1) a=t_ k a:=by
 have i:=Uc (VT k) h g;cases a with
 |nil=>exact(show gC (k+1) []=iX (VT k) []from rfl).t i
 |cons b j=>
  unfold gC t_;rw[g];simp only[NZ,G3];by_cases c:b=91;·rw[ak c,ak c]
  ·rw[aj c,aj c];by_cases d:b=60
   ·simp only[ak d];cases gh [60] j<;>rfl
   ·simp only[aj d];by_cases e:b=40;·simp only[ak e]
    ·simp only[aj e];by_cases f:b=47;·simp only[ak f]
     ·simp only[aj f];exact i
def EX(k:Nat){a:List Nat}(h:ld a=N):t_ k (47::a)=N:=by show((ld a).map λb=>(ik (VT k) 4 0 0 b.1,b.2))=N;rw[h];rfl
def EY(k:Nat){a b c:List Nat}(h:ld a=O (b,c)):t_ k (47::a)=O (ik (VT k) 4 0 0 b,c):=by show((ld a).map λd=>(ik (VT k) 4 0 0 d.1,d.2))=_;rw[h];rfl
def EZ(k:Nat){a:List Nat}(h:lq a=N):t_ k (40::a)=N:=by show((lq a).map λb=>(ik (VT k) 5 0 0 b.1,b.2))=N;rw[h];rfl
def E0(k:Nat){a b c:List Nat}(h:lq a=O (b,c)):t_ k (40::a)=O (ik (VT k) 5 0 0 b,c):=by show((lq a).map λd=>(ik (VT k) 5 0 0 d.1,d.2))=_;rw[h];rfl
def G5(k:Nat){b:List Nat}(h:gh [60] b=N):t_ k (60::b)=((lF b).map λa=>((ik (VT k) 5 0 0 a.1:VT (k+1)),a.2)):=by
 have d:t_ k (60::b)=match gh [60] b with
   |some c=>((jy (gC k) (G c+1) c).map λa=>(((⟨7,0,0,[],a.1.2,a.1.1,[]⟩:f_ (VT k)):VT (k+1)),a.2))
   |none=>((lF b).map λa=>((ik (VT k) 5 0 0 a.1:VT (k+1)),a.2)):=rfl
 rw[d,h];rfl
def EV(k:Nat){a:List Nat}(b:gh [60] a=N)(h:lF a=N):t_ k (60::a)=N:=(G5 k b).t (by rw[h];rfl)
def EW(k:Nat){a b c:List Nat}(d:gh [60] a=N)(h:lF a=O (b,c)):t_ k (60::a)=O (ik (VT k) 5 0 0 b,c):=(G5 k d).t (by rw[h];rfl)
def ET(k:Nat){a:List Nat}(h:kS (gC k) (G a+1) a=N):t_ k (91::a)=N:=by show((kS (gC k) (G a+1) a).map λb=>((⟨6,0,0,[],b.1,[],[]⟩:f_ (VT k)),b.2))=N;rw[h];rfl
def EU(k:Nat){a c:List Nat}{b:List (VT k)}(h:kS (gC k) (G a+1) a=O (b,c)):t_ k (91::a)=O ((⟨6,0,0,[],b,[],[]⟩:f_ (VT k)),c):=by show((kS (gC k) (G a+1) a).map λd=>((⟨6,0,0,[],d.1,[],[]⟩:f_ (VT k)),d.2))=_;rw[h];rfl
section
variable{z:vz}{d K k:Nat}{S:ByteArray}{w w' u:vz}{p:Nat}{s t C:Option (List Nat)}{f A:wg}{a:List wg}{B:List (List Nat)}
def KN(h:Sn d S w p s):Am w d S 0 ((w.alloc (BV iZ 67)).alloc (BV iZ 67)) s (Z N 0 0) [] (Z N 0 0) []:=by
 have b:wm w.heap.size w ((w.alloc (BV iZ 67)).alloc (BV iZ 67)):=((ar _ _).alloc (ag _) _).alloc cO _;have e:=bn (w.alloc (BV iZ 67)) (BV iZ 67);rw[aV]at e;have i:=h.ls;have c:ij s<=200001:=by
  cases s with
  |none=>simp[ij]
  |some r=>have:=h.len;simp only[ij];omega
 exact⟨⟨p,h.other b⟩,.of_below b,h.lt,nt _ (bn _ _),e,bI _ _ _ _,bI _ _ _ _,(λj g=>by cases g),by simpa using c,by simpa using c⟩
def Gt(E:kJ d S w u t)(D:u.heap[w.heap.size]?=O (BV iZ 67 (0,0)))(g h i j l m n:wg)(J:d<w.heap.size):let c:=((((((u.setCell ⟨w.heap.size,0,N⟩ g).setCell ⟨w.heap.size,1,N⟩ h).setCell ⟨w.heap.size,2,N⟩ i).setCell ⟨w.heap.size,3,N⟩ j).setCell ⟨w.heap.size,4,N⟩ l).setCell ⟨w.heap.size,5,N⟩ m).setCell ⟨w.heap.size,6,N⟩ n
  c.heap[w.heap.size]?=O (BV #[g,h,i,j,l,m,n] 67 (0,0))/\kJ d S w c t/\∀b,b≠w.heap.size->c.heap[b]?=u.heap[b]?:=by
 intro c;have q:iJ w.heap.size u c:=qu u w.heap.size g h i j l m n;obtain⟨⟨p,o⟩,e⟩:=E;have F:=e.size;have r:∀b,b≠w.heap.size->c.heap[b]?=u.heap[b]?:=λb y=>by
  show(((((((u.setCell ⟨w.heap.size,0,N⟩ g).setCell ⟨w.heap.size,1,N⟩ h).setCell ⟨w.heap.size,2,N⟩ i).setCell ⟨w.heap.size,3,N⟩ j).setCell ⟨w.heap.size,4,N⟩ l).setCell ⟨w.heap.size,5,N⟩ m).setCell ⟨w.heap.size,6,N⟩ n).heap[b]?=_
  iterate 7 rw[lK _ y]
 refine⟨uG D _ _ _ _ _ _ _,⟨⟨p,⟨by rw[r _ Y];exact o.blk,o.lp,o.ls,o.rest⟩⟩,?_⟩,r⟩;exact⟨q.os.t e.os,q.tape.t e.tape,q.output.t e.output,aJ F q.size,λb v x=>(r b Y).t (e.block b v x)⟩
def nz:FY d S 0:=by
 intro w p s h;have j:=H (KN h);have J:wt ((s.bind (gC 0))=N):=by unfold Hid;cases s<;>rfl
 rw[J.o];generalize aa:(w.alloc (BV iZ 67)).alloc (BV iZ 67)=W0 at *;have P:wt ((w.alloc (BV #[I U 0,I U 0,I U 0,y7 {data:=#[]},Z N 0 0,Z N 0 0,Z N 0 0] 67)).alloc (BV #[I U 0,I U 0,I U 0,y7 {data:=#[]},Z N 0 0,Z N 0 0,Z N 0 0] 67)=W0):=aa;obtain⟨p0,h0⟩:=j.o.sc;have L:=H (D3 h0)
 go_in
 go_wp2_with fail;rw[P.o];apply L.o.m;rintro b u ⟨rfl,q⟩;obtain⟨p1,h1⟩:=q.1;have y:=H (tZ h1);have Q:=H q.2;go_wp2_with fail;apply y.o.m;rintro b w2 ⟨rfl,m,o2⟩;have F:=H (Fx m);have r:=H m;have R:=H (Q.t o2);go_wp2_with fail;apply F.o.m;rintro b w3 ⟨rfl,g,rfl⟩;simp only[pS];have l:=H (zT (r.drewN g) {data:=#[60,60]} bF);rw[show cB (bl {data:=#[60,60]}) N=CS from rfl,show cS (bl {data:=#[60,60]}) N=N from rfl]at l;have T:=H (R.drewN g);generalize w2.drewN g=W3 at *;go_wp2_with fail;apply l.o.m;rintro b w4 ⟨rfl,⟨p4,n⟩,o4⟩;have E:=H (xg n);have x:=H n;have V:=H (T.t o4);go_wp2_with fail;apply E.o.m;rintro b w5 ⟨rfl,i,rfl⟩;simp only[kG];have M:=H (yI (x.drewN i));have W:=H (V.drewN i);generalize w4.drewN i=W5 at *;go_wp2_with fail;apply M.o.m;rintro b w6 ⟨rfl,h6,o6⟩;have D:=H (tZ h6);have X:=H (W.t o6);go_wp2_with fail;apply D.o.m;rintro b w7 ⟨rfl,h7,o7⟩;obtain⟨e,_⟩:=j.o.step (k:=0) (Vs:=[]) (t':=N) ⟨⟨_,h7⟩,X.t o7⟩ mT;obtain⟨v0,v1,v2,v3,v4,v5,v6⟩:=Am.cells e;obtain⟨⟨r0,r1,r2,r3,r4,r5,r6⟩,f0,f1,f2,f3,f4,f5,f6⟩:=zc e.rb;have c:=H (Am.fin e);go_wp2;refine aK (v:=Bc #[I U 0,I U 0,I U 0,y7 {data:=#[]},Z N 0 0,Z N 0 0,Z N 0 0]) ?_ rfl ?_;·exact bk results174 _ _ w.heap.size 67 _ _ _ rfl c.1 bq rfl aG
 exact mh.none_ rfl (c.2.2.1 (ag _)) c.2.1
def py.hand{o e:vz}{b:Nat}{m:Option (VT k×List Nat)}{v:wg}(L:(m=N/\t=N/\GV b o v)\/∃g n,m=O (g,n)/\t=O n/\iR (λc=>b<=c) k o v g)(Q:w.heap.size<b)(q:∀c,c≠w.heap.size->e.heap[c]?=o.heap[c]?)(r:kJ d S w e t):py d S k m w (BX v) e:=by
 rcases L with⟨i,rfl,j⟩|⟨g,n,i,rfl,j⟩
 ·refine mh.none_ i ?_ r;have l:=j.keep (w':=e) (λc l _=>q c Y);obtain⟨M,P,p,x,f,A,J,a,B,e1,e2,y,D,E,F⟩:=l;exact⟨M,P,p,x,f,A,J,a,B,e1,e2.m (λc h _=>Y),y,D.m (λc h _=>Y),E,F⟩
 ·exact mh.some_ i (iR.m k (iR.keep k j (λc l _=>q c Y)) (λc h _=>Y)) r
def TM(s:Option (List Nat)):s.bind (gC (k+1))=(s.map gq).bind (gC (k+1)):=by
 cases s with
 |none=>rfl
 |some r=>show gC (k+1) r=gC (k+1) (gq r);unfold gC;simp only[kV,Ur]
def Am.kind(h:Am z d S K w t f a A B)(e:Nat):Am z d S e (w.setCell ⟨z.heap.size+1,0,N⟩ (I U e)) t f a A B:=by
 have n:=h.lt;have o:=h.only.size;obtain⟨p,c⟩:=h.sc;have i:∀b,b≠z.heap.size+1->(w.setCell ⟨z.heap.size+1,0,N⟩ (I U e)).heap[b]?=w.heap[b]?:=λb m=>lK _ m;refine⟨⟨p,⟨by rw[i _ Y];exact c.blk,c.lp,c.ls,c.rest⟩⟩,?_,h.lt,by rw[i _ Y];exact h.rb,by rw[nu _ h.vb];rfl,?_,?_,h.c7,h.few,h.fewk⟩;·exact⟨h.only.os,h.only.tape,h.only.output,by simp[World.setCell];omega,λb j l=>(i b Y).t (h.only.block b j l)⟩
 ·exact bJ h.own (λg=>absurd (h.own.lt _ g).1 (by show ¬_;simp)) _
 ·exact bJ h.ownk (λg=>absurd (h.ownk.lt _ g).1 (by show ¬_;simp)) _
def JA{r g c:List Nat}(h:lF r=O (g,c)):G c<=G r:=by
 unfold lF at h;cases b:j8 r with
 |none=>rw[b]at h;cases h
 |some e=>rw[b]at h;cases h;exact oI r e.1 e.2 b
def Am.text(h:Am z d S K w t f a A B)(i:ByteArray):let b:=w.setCell ⟨z.heap.size+1,3,N⟩ (y7 i)
  b.heap[z.heap.size+1]?=O (BV #[I U K,I U 0,I U 0,y7 i,f,A,Z N 0 0] 67 (0,0))/\kJ d S z b t/\b.heap[z.heap.size]?=O (BV iZ 67 (0,0)):=by
 intro b;have n:=h.lt;have o:=h.only.size;obtain⟨p,c⟩:=h.sc;have e:∀g,g≠z.heap.size+1->b.heap[g]?=w.heap[g]?:=λg m=>lK _ m;refine⟨by show(w.setCell _ _).heap[_]?=_;rw[nu _ h.vb];rfl,⟨⟨p,⟨by rw[e _ Y];exact c.blk,c.lp,c.ls,c.rest⟩⟩,?_⟩,by rw[e _ Y];exact h.rb⟩;exact⟨h.only.os,h.only.tape,h.only.output,by show _<=(w.setCell _ _).heap.size;simp[World.setCell];omega,λg j l=>(e g Y).t (h.only.block g j l)⟩
def Ko{c:vz}{b:Nat}{e g i j l m n:wg}(h:c.heap[b]?=O (BV #[e,g,i,j,l,m,n] 67 (0,0))):c.cell? ⟨b,0,N⟩=O e/\c.cell? ⟨b,1,N⟩=O g/\c.cell? ⟨b,2,N⟩=O i/\c.cell? ⟨b,3,N⟩=O j/\c.cell? ⟨b,4,N⟩=O l/\c.cell? ⟨b,5,N⟩=O m/\c.cell? ⟨b,6,N⟩=O n:=
 ⟨cb h,cb h,cb h,cb h,cb h,cb h,cb h⟩
def CJ(b k:Nat)(c:Option (List (VT k)×List Nat))(w:vz)(t:Option (List Nat))(f:wg)(a:List wg):Prop:=match t with
 |some r=>∃e,TV b k w f (Z N 0 0) a e/\∃g,G r<g/\yA e (kS (gC k) g r)=c
 |none=>c=N
def ns(hk:k<=11)(ih:FY d S k):FY d S (k+1):=by
 intro w p s h;rw[show 12-(k+1)=11-k by omega];obtain⟨i0,hi,fq,fs,fu⟩:=bR iV;have IH:=H ih;have cs:=H (KN h);have ci:=h.lt;obtain⟨bm,hR⟩:∃bm,s.bind (gC (k+1))=bm:=⟨_,rfl⟩;rw[hR];rw[TM]at hR;have HR:=H hR;have bv:wt (∀e,s.map gq=O e->gq e=e):=λe hq=>by
  cases s with
  |none=>cases hq
  |some r=>cases hq;exact kV r
 clear h ih hR;generalize d1:(w.alloc (BV iZ 67)).alloc (BV iZ 67)=W0 at *;have dm:wt ((w.alloc (BV #[I U 0,I U 0,I U 0,y7 {data:=#[]},Z N 0 0,Z N 0 0,Z N 0 0] 67)).alloc (BV #[I U 0,I U 0,I U 0,y7 {data:=#[]},Z N 0 0,Z N 0 0,Z N 0 0] 67)=W0):=d1;obtain⟨p0,h0⟩:=cs.o.sc;have ca:=H (D3 h0);have fz:decide ((12:Int)<=((11-k:Nat):Int))=CS:=eS;clear d1 h0
 go_in
 go_wp2_with fail;rw[dm.o];apply ca.o.m;rintro j u ⟨rfl,k1⟩;obtain⟨a1,_⟩:=cs.o.step (k:=0) (Vs:=[]) k1 (by
  cases s with
  |none=>simp[ij]
  |some r=>have:=jM r;simp only[bK,ij];omega)
 have bs:=H a1;obtain⟨p1,c⟩:=k1.1;have H1:=H c;have HP:=H (Fx c);clear a1 k1 c ca cs dm;generalize d4:s.map gq=Q at *;have e3:=H d4;clear d4;cases T:pS Q with
 |true=>
  rw[T]at HP;obtain⟨e,rfl⟩:∃e,Q=O e:=by
   cases Q with
   |none=>cases T
   |some e=>exact⟨e,rfl⟩
  have al:=bv.o e rfl;have ez:wt (bm=wS k (O e)):=by unfold Hid;rw[<-HR.o];exact value_word al T
  have b5:(O e).bind (gh [60,60])=N:=by
   cases e with
   |nil=>cases T
   |cons b t=>show gh [60,60] (b::t)=N;rw[G3,aj (MZ (show pB b=CD from T)).2.1]
  clear HR T;go_wp2_with fail;apply HP.o.m;rintro j w2 ⟨rfl,m2,rfl⟩;have R:=H (zT (H1.drewN m2) {data:=#[60,60]} bF);rw[show bl {data:=#[60,60]}=[60,60]from rfl,(A7 b5).1,(A7 b5).2]at R;obtain⟨a2,_⟩:=bs.o.step (k:=0) (Vs:=[]) (H1.toS.drewN m2) (ag _);have ad:=H a2;generalize u.drewN m2=W2 at *;clear a2 bs H1 HP b5;go_wp2_with fail;apply R.o.m;rintro j w3 ⟨rfl,k3⟩;obtain⟨a3,_⟩:=ad.o.step (k:=0) (Vs:=[]) k3 (ag _);have bt:=H a3;obtain⟨p3,h3⟩:=k3.1;have e7:=H (Rz (k:=k) h3);clear a3 k3 h3 R ad;go_wp2_with fail;apply e7.o.m;intro j w9 cj;obtain⟨L,M,P,l,x,D,y,E,J,F,m,q,n,t9,rfl,k9,br⟩:=py.any cj;have cy:ij t9<=ij (O e):=by
   rcases br with⟨_,rfl,_⟩|⟨ac,q',c,rfl,_⟩;·simp[ij]
   ·have:=sE (α:=VT k) (show iX (VT k) e=O (ac,q')from c);simp only[ij];omega
  rw[<-ez.o]at br;obtain⟨a9,_⟩:=bt.o.step (k:=0) (Vs:=[]) k9 cy;have b6:=a9.rb;obtain⟨⟨r0,r1,r2,r3,r4,r5,r6⟩,f0,f1,f2,f3,f4,f5,f6⟩:=zc b6;have i:=H (Gt ⟨a9.sc,a9.only⟩ b6 (I U L) (I U M) (I U P) (y7 l) (Z x D y) (Z E J F) (Z m q n) ci);have HV:=H (py.hand br (by have:=ap bt.vb;omega) i.2.2 i.2.1);clear a9 b6 br k9 cj;go_wp2;refine aK (v:=Bc #[I U L,I U M,I U P,y7 l,Z x D y,Z E J F,Z m q n]) ?_ rfl ?_;·exact bk results174 _ _ w.heap.size 67 _ _ _ rfl i.1 bq rfl aG
  exact HV
 |false=>
  rw[T]at HP;go_wp2_with fail;apply HP.o.m;rintro j w2 ⟨rfl,m2,rfl⟩;have R:=H (zT (H1.drewN m2) {data:=#[60,60]} bF);rw[show bl {data:=#[60,60]}=[60,60]from rfl]at R;obtain⟨a2,_⟩:=bs.o.step (k:=0) (Vs:=[]) (H1.toS.drewN m2) (ag _);have ad:=H a2;generalize u.drewN m2=W2 at *;clear a2 bs H1 HP;cases bd:Q.bind (gh [60,60])with
  |some t=>
   rw[(Fs bd).1,(Fs bd).2]at R;have db:wt (bm=qr k (O t)/\G t<=200000/\ij (O t)<=ij Q):=by
    unfold Hid;have fi:=ad.o.few;cases Q with
    |none=>cases bd
    |some e=>
     have al:=bv.o e rfl;have bf:gh [60,60] e=O t:=bd;have hl:=(gZ bf).1;refine⟨?_,by simp only[aB,ij]at fi;simp only[ai,aB]at hl;omega,by simp only[ij];omega⟩;rw[<-HR.o];show gC (k+1) e=_;rw[vm al T];cases e with
     |nil=>cases bf
     |cons b e=>
      rw[G3]at bf;by_cases hb:b=60
      ·rw[ak hb]at bf;show(if b=91 then _ else if b=60 then _ else _)=_;rw[aj Y,ak hb,bf];rfl
      ·rw[aj hb]at bf;cases bf
   clear HR T bd;go_wp2_with fail;apply R.o.m;rintro j w3 ⟨rfl,k3⟩;obtain⟨a3,_⟩:=ad.o.step (k:=0) (Vs:=[]) k3 db.2.2;have bt:=H a3;obtain⟨p3,h3⟩:=k3.1;have eo:=H (MA hk IH h3);clear a3 k3 h3 R ad;go_wp2_with fail;apply eo.o.m;intro j w9 cj;obtain⟨L,M,P,l,x,D,y,E,J,F,m,q,n,t9,rfl,k9,br⟩:=py.any cj;have cy:ij t9<=ij (O t):=by
    rcases br with⟨_,rfl,_⟩|⟨ac,q',c,rfl,_⟩;·simp[ij]
    ·cases hx:jy (gC k) (G t+1) t with
     |none=>unfold qr at c;simp only[Option.bind_some,hx]at c;cases c
     |some c5=>unfold qr at c;simp only[Option.bind_some,hx,bK]at c;have h2:=sP (λr v e h=>by have:=jY h;omega) _ _ _ _ (show jy (gC k) (G t+1) t=O (c5.1,c5.2)from hx);cases c;simp only[ij];omega
   rw[<-db.o.1]at br;obtain⟨a9,_⟩:=bt.o.step (k:=0) (Vs:=[]) k9 cy;have b6:=a9.rb;obtain⟨⟨r0,r1,r2,r3,r4,r5,r6⟩,f0,f1,f2,f3,f4,f5,f6⟩:=zc b6;have i:=H (Gt ⟨a9.sc,a9.only⟩ b6 (I U L) (I U M) (I U P) (y7 l) (Z x D y) (Z E J F) (Z m q n) ci);have HV:=H (py.hand br (by have:=ap bt.vb;omega) i.2.2 i.2.1);clear a9 b6 br k9 cj;go_wp2;refine aK (v:=Bc #[I U L,I U M,I U P,y7 l,Z x D y,Z E J F,Z m q n]) ?_ rfl ?_;·exact bk results174 _ _ w.heap.size 67 _ _ _ rfl i.1 bq rfl aG
   exact HV
  |none=>
   rw[(A7 bd).1,(A7 bd).2]at R;go_wp2_with fail;apply R.o.m;rintro j w3 ⟨rfl,k3⟩;obtain⟨a3,_⟩:=ad.o.step (k:=0) (Vs:=[]) k3 (ag _);have bt:=H a3;obtain⟨p3,h3⟩:=k3.1;have da:=H (xg h3);have H3:=H h3;have e9:=h3.now;clear a3 k3 h3 R ad;go_wp2_with fail;apply da.o.m;rintro j w4 ⟨rfl,m4,rfl⟩;have dd:=H (yI (H3.drewN m4));obtain⟨a4,_⟩:=bt.o.step (k:=0) (Vs:=[]) (H3.toS.drewN m4) (ag _);have b7:=H a4;generalize w3.drewN m4=W4 at *;clear a4 da H3 bt;go_wp2_with fail;apply dd.o.m;rintro j w5 ⟨rfl,h5,o5⟩;obtain⟨a5,_⟩:=b7.o.step (k:=0) (Vs:=[]) (t':=Q.map List.tail) ⟨⟨_,h5⟩,o5⟩ (by cases Q with|none=>simp[ij]|some r=>simp[ij]);have bh:=H a5;have H5:=H h5;clear a5 h5 o5 dd b7;by_cases bw:kG Q≠47/\kG Q≠40/\kG Q≠60/\kG Q≠91
   ·have cd:wt (bm=N):=by
     unfold Hid;rw[<-HR.o];match Q,T,bw,bv with
     |none,_,_,_=>rfl
     |some [],T,_,bv=>show gC (k+1) []=N;rw[vm rfl T];rfl
     |some (b::e),T,hb,bv=>show gC (k+1) (b::e)=N;simp only[kG]at hb;rw[vm (bv.o _ rfl) T];show(if b=91 then _ else if b=60 then _ else if b=40 then _ else if b=47 then _ else _)=_;rw[aj Y,aj Y,aj Y,aj Y]
    have b1:(kG Q==47)=CS:=eS;have b2:(kG Q==40)=CS:=eS;have b3:(kG Q==60)=CS:=eS;have b4:(kG Q==91)=CS:=eS;have c9:=H (tZ H5);clear bw T bd HR;generalize kG Q=fx at *;go_wp2_with fail;apply c9.o.m;rintro j w7 ⟨rfl,h7,o7⟩;obtain⟨a7,_⟩:=bh.o.step (k:=0) (Vs:=[]) (t':=N) ⟨⟨_,h7⟩,o7⟩ mT;obtain⟨v0,v1,v2,v3,v4,v5,v6⟩:=Am.cells a7;obtain⟨⟨r0,r1,r2,r3,r4,r5,r6⟩,f0,f1,f2,f3,f4,f5,f6⟩:=zc a7.rb;have i:=H (Am.fin a7);clear h7 o7 a7 c9;go_wp2;refine aK (v:=Bc #[I U 0,I U 0,I U 0,y7 {data:=#[]},Z N 0 0,Z N 0 0,Z N 0 0]) ?_ rfl ?_;·exact bk results174 _ _ w.heap.size 67 _ _ _ rfl i.1 bq rfl aG
    exact mh.none_ cd (i.2.2.1 (ag _)) i.2.1
   ·obtain⟨b,e,rfl⟩:∃b e,Q=O (b::e):=by
     match Q,bw with
     |none,h=>exact absurd ⟨bF,bF,bF,bF⟩ h
     |some [],h=>exact absurd ⟨bF,bF,bF,bF⟩ h
     |some (b::e),_=>exact⟨b,e,rfl⟩
    have aa:wt (gC (k+1) (b::e)=bm):=HR.o;rw[vm (bv.o _ rfl) T]at aa;simp only[kG]at bw e9 ⊢;simp only[bK,List.tail_cons]at bh H5;have bf:=λhb=>by have:gh [60,60] (b::e)=N:=bd;rw[G3,ak hb]at this;exact this
    have ce:=H bf;clear bd bf T HR bv e3;have e0:=bh.o.cells.1;have e8:=lQ 0 bh.vb;by_cases cf:b=47
    ·have b1:((b:Int)==47)=CD:=eS;rw[cf]at aa;clear bw cf;have ba:=H (bh.kind 4);obtain⟨pk,al⟩:=ba.o.sc;have ao:=H (Gs al);simp only[Option.bind_some]at ao;clear al H5 ce;go_wp2_with fail;apply ao.o.m;intro j w6 bx;obtain⟨X,t6,rfl,k6,bb⟩:=mh.str bx;obtain⟨a6,_⟩:=ba.o.step (k:=0) (Vs:=[]) k6 (by
      rcases bb with⟨_,rfl⟩|⟨q',c,rfl⟩;·simp[ij]
      ·have:=kU _ 0 0 _ _ (show ir 0 0 e=O (X,q')from c);simp only[ij];omega)
     have g3:=lQ 3 a6.vb;have dv:=a6.cells.2.2.2.1;obtain⟨b0,bz,bc⟩:=a6.text (gj X);obtain⟨v0,v1,v2,v3,v4,v5,v6⟩:=Ko b0;obtain⟨⟨r0,r1,r2,r3,r4,r5,r6⟩,f0,f1,f2,f3,f4,f5,f6⟩:=zc bc;have i:=H (Gt bz bc (I U 4) (I U 0) (I U 0) (y7 (gj X)) (Z N 0 0) (Z N 0 0) (Z N 0 0) ci);have cc:=H bb;clear a6 b0 bz bc bb bx k6 ao;go_wp2;refine aK (v:=Bc #[I U 4,I U 0,I U 0,y7 (gj X),Z N 0 0,Z N 0 0,Z N 0 0]) ?_ rfl ?_;·exact bk results174 _ _ w.heap.size 67 _ _ _ rfl i.1 bq rfl aG
     rcases cc.o with⟨c,rfl⟩|⟨q',c,rfl⟩;·exact mh.none_ (aa.s.t (EX k c)) (GV.leaf _ _ 4 0 0 _) i.2.1
     ·exact mh.some_ (aa.s.t (EY k c)) (iR.leaf k 4 0 0 X) i.2.1
    have b1:((b:Int)==47)=CS:=eS;by_cases cl:b=40
    ·have b2:((b:Int)==40)=CD:=eS;rw[cl]at aa;clear bw cf cl;have ba:=H (bh.kind 5);obtain⟨pk,al⟩:=ba.o.sc;have ao:=H (Bp al);simp only[Option.bind_some]at ao;clear al H5 ce;go_wp2_with fail;apply ao.o.m;intro j w6 bx;obtain⟨X,t6,rfl,k6,bb⟩:=mh.str bx;obtain⟨a6,_⟩:=ba.o.step (k:=0) (Vs:=[]) k6 (by
      rcases bb with⟨_,rfl⟩|⟨q',c,rfl⟩;·simp[ij]
      ·have:=mP _ _ _ _ _ (show jN (G e+1) 1 e=O (X,q')from c);simp only[ij];omega)
     have g3:=lQ 3 a6.vb;have dv:=a6.cells.2.2.2.1;obtain⟨b0,bz,bc⟩:=a6.text (gj X);obtain⟨v0,v1,v2,v3,v4,v5,v6⟩:=Ko b0;obtain⟨⟨r0,r1,r2,r3,r4,r5,r6⟩,f0,f1,f2,f3,f4,f5,f6⟩:=zc bc;have i:=H (Gt bz bc (I U 5) (I U 0) (I U 0) (y7 (gj X)) (Z N 0 0) (Z N 0 0) (Z N 0 0) ci);have cc:=H bb;clear a6 b0 bz bc bb bx k6 ao;go_wp2;refine aK (v:=Bc #[I U 5,I U 0,I U 0,y7 (gj X),Z N 0 0,Z N 0 0,Z N 0 0]) ?_ rfl ?_;·exact bk results174 _ _ w.heap.size 67 _ _ _ rfl i.1 bq rfl aG
     rcases cc.o with⟨c,rfl⟩|⟨q',c,rfl⟩;·exact mh.none_ (aa.s.t (EZ k c)) (GV.leaf _ _ 5 0 0 _) i.2.1
     ·exact mh.some_ (aa.s.t (E0 k c)) (iR.leaf k 5 0 0 X) i.2.1
    have b2:((b:Int)==40)=CS:=eS;by_cases cn:b=60
    ·have b3:((b:Int)==60)=CD:=eS;rw[cn]at aa;have dg:=H (ce cn);clear bw cf cl cn;have ba:=H (bh.kind 5);obtain⟨pk,al⟩:=ba.o.sc;have ao:=H (Ry al);simp only[Option.bind_some]at ao;clear al H5 ce;go_wp2_with fail;apply ao.o.m;intro j w6 bx;obtain⟨X,t6,rfl,k6,bb⟩:=mh.str bx;obtain⟨a6,_⟩:=ba.o.step (k:=0) (Vs:=[]) k6 (by
      rcases bb with⟨_,rfl⟩|⟨q',c,rfl⟩;·simp[ij]
      ·have:=JA c;simp only[ij];omega)
     have g3:=lQ 3 a6.vb;have dv:=a6.cells.2.2.2.1;obtain⟨b0,bz,bc⟩:=a6.text (gj X);obtain⟨v0,v1,v2,v3,v4,v5,v6⟩:=Ko b0;obtain⟨⟨r0,r1,r2,r3,r4,r5,r6⟩,f0,f1,f2,f3,f4,f5,f6⟩:=zc bc;have i:=H (Gt bz bc (I U 5) (I U 0) (I U 0) (y7 (gj X)) (Z N 0 0) (Z N 0 0) (Z N 0 0) ci);have cc:=H bb;clear a6 b0 bz bc bb bx k6 ao;go_wp2;refine aK (v:=Bc #[I U 5,I U 0,I U 0,y7 (gj X),Z N 0 0,Z N 0 0,Z N 0 0]) ?_ rfl ?_;·exact bk results174 _ _ w.heap.size 67 _ _ _ rfl i.1 bq rfl aG
     rcases cc.o with⟨c,rfl⟩|⟨q',c,rfl⟩;·exact mh.none_ (aa.s.t (EV k dg c)) (GV.leaf _ _ 5 0 0 _) i.2.1
     ·exact mh.some_ (aa.s.t (EW k dg c)) (iR.leaf k 5 0 0 X) i.2.1
    have b3:((b:Int)==60)=CS:=eS;have d0:b=91:=Y;have b4:((b:Int)==91)=CD:=eS;rw[d0]at aa;clear bw cf cl cn d0 ce;have ba:=H (bh.kind 6);obtain⟨RA,co⟩:∃RA,kS (gC k) (G e+1) e=RA:=⟨_,rfl⟩;have cd:wt (RA=N->bm=N):=λh=>by rw[<-aa.o];exact ET k (co.t h)
    have ct:wt (∀g q',RA=O (g,q')->bm=O ((⟨6,0,0,[],g,[],[]⟩:f_ (VT k)),q')):=λg q' h=>by rw[<-aa.o];exact EU k (co.t h)
    have c7:wt (CJ (w.heap.size+2) k RA (w5.setCell ⟨w.heap.size+1,0,N⟩ (I U ((6:Nat):Int))) (O e) (Z N 0 0) []):=by refine⟨[],⟨rfl,λgk fw c5 hx _=>by simp at hx⟩,G e+1,Y,?_⟩;rw[<-co];unfold yA;cases kS (gC k) (G e+1) e<;>simp
    clear co aa H5;go_wp2_with fail;go_loopw [] (λwr=>∃(t:Option (List Nat)) (f:wg) (a:List wg),wt (Am w d S 6 wr t f a (Z N 0 0) [])/\wt (CJ (w.heap.size+2) k RA wr t f a)) (λwr=>mS d S wr)
    case atStart=>exact⟨O e,_,[],ba,c7⟩
    clear ba c7 bh e0 e8
    case round=>
     obtain⟨t,f,a,HA,HD⟩:=hrel;obtain⟨p,cq⟩:=HA.o.sc;have c2:=cq.c2;have HM:=H cq.mS;have dc:=H cq;clear cq;cases t with
     |none=>
      simp only[Option.isNone_none]at c2;have ev:=H (cd HD);clear HD cd ct;obtain⟨v0,v1,v2,v3,v4,v5,v6⟩:=Am.cells HA;obtain⟨⟨r0,r1,r2,r3,r4,r5,r6⟩,f0,f1,f2,f3,f4,f5,f6⟩:=zc HA.rb;have i:=H (Am.fin HA);obtain⟨ia,ic,cg⟩:=ke HA.o.own;subst cg;go_wp2;refine aK (v:=Bc #[I U 6,I U 0,I U 0,y7 {data:=#[]},Z ia (G a) ic,Z N 0 0,Z N 0 0]) ?_ rfl ?_;·exact bk results174 _ _ w.heap.size 67 _ _ _ rfl i.1 bq rfl aG
      exact mh.none_ ev (i.2.2.1 (aw _)) i.2.1
     |some r=>
      simp only[Option.isNone_some]at c2;have ca:=H (D3 dc);simp only[bK]at ca;have er:=H HA.few;obtain⟨g,d7,cr,hm,d2⟩:=HD.o;have di:=H d7;obtain⟨cr,rfl⟩:∃fv,cr=fv+1:=⟨cr-1,Y⟩;have b9:=H d2;have eu:=H hm;clear d7 d2 hm HD;go_wp2_with fail;apply ca.o.m;rintro j u ⟨rfl,k1⟩;have gf:=jM r;obtain⟨a1,ec⟩:=HA.o.step (k:=k) (Vs:=g) k1 oj;have bs:=H a1;have cv:=H (ec di);obtain⟨p1,c⟩:=k1.1;have R:=H (zT c {data:=#[93]} bF);rw[show bl {data:=#[93]}=[93]from rfl]at R;clear a1 ec k1 c ca HA di dc c2;simp only[kS]at b9;cases ht:gh [93] (gq r)with
      |some q2=>
       have cw:=Fs (s:=O (gq r)) (t:=[93]) (q:=q2) ht;rw[cw.1,cw.2]at R;have ey:wt (bm=O ((⟨6,0,0,[],g,[],[]⟩:f_ (VT k)),q2)):=by refine ct g q2 ?_;rw[<-b9.o,ht];simp[yA]
       have gc:=(gZ ht).1;clear ht cw b9;go_wp2_with fail;apply R.o.m;rintro j w2 ⟨rfl,k2⟩;obtain⟨a2,ej⟩:=bs.o.step (k:=k) (Vs:=g) k2 oj;have ad:=H a2;have e4:=H (ej cv);clear a2 ej k2 R cd ct;obtain⟨v0,v1,v2,v3,v4,v5,v6⟩:=Am.cells ad;obtain⟨⟨r0,r1,r2,r3,r4,r5,r6⟩,f0,f1,f2,f3,f4,f5,f6⟩:=zc ad.rb;have i:=H (Am.fin ad);obtain⟨ia,ic,cg⟩:=ke ad.o.own;subst cg;go_wp2;refine aK (v:=Bc #[I U 6,I U 0,I U 0,y7 {data:=#[]},Z ia (G a) ic,Z N 0 0,Z N 0 0]) ?_ rfl ?_;·exact bk results174 _ _ w.heap.size 67 _ _ _ rfl i.1 bq rfl aG
       exact mh.some_ ey (i.2.2.2 e4) i.2.1
      |none=>
       have b5:=A7 (s:=O (gq r)) (t:=[93]) ht;rw[b5.1,b5.2]at R;rw[ht]at b9;clear b5 ht;go_wp2_with fail;apply R.o.m;rintro j w4 ⟨rfl,k4⟩;obtain⟨a4,ek⟩:=bs.o.step (k:=k) (Vs:=g) k4 (ag _);have b7:=H a4;have e5:=H (ek cv);obtain⟨p4,h4⟩:=k4.1;have dk:=H (IH w4 p4 _ h4);have f8:((11-k:Nat):Int)+1=((12-k:Nat):Int):=Y;clear a4 ek k4 h4 R bs cv;go_wp2_with fail;apply dk.o.m;intro j w5 d3;obtain⟨L,M,P,l,x,D,y,E,J,F,m,q,n,t5,rfl,k5,cp⟩:=py.any d3;have es:wt (ij t5+1<=ij (O r)):=by
        rcases cp with⟨_,rfl,_⟩|⟨ac,q3,c,rfl,_⟩;·simp[wt,ij]
        ·have:=jY (show gC k (gq r)=O (ac,q3)from c);simp only[wt,ij];omega
       obtain⟨a5,el⟩:=b7.o.step (k:=k) (Vs:=g) k5 (by
        rcases cp with⟨_,rfl,_⟩|⟨ac,q3,c,rfl,_⟩;·simp[ij]
        ·have:=jY (show gC k (gq r)=O (ac,q3)from c);simp only[ij];omega)
       have e6:=H (el e5);have ex:=H cp;have fd:=λV hg=>(b7.o.own.lt V hg).2;have gd:=k5.2.size;have gi:=ap b7.vb;have ds:wm w5.heap.size w5 ((w5.alloc (BV #[I U L,I U M,I U P,y7 l,Z x D y,Z E J F,Z m q n] 67)).alloc (BV #[I U L,I U M,I U P,y7 l,Z x D y,Z E J F,Z m q n] 67)):=((ar _ _).alloc (ag _) _).alloc cO _;obtain⟨a8,em⟩:=a5.below (k:=k) (Vs:=g) ds;have b8:=H a8;have dj:=H (em e6);have c4:(w5.alloc (BV #[I U L,I U M,I U P,y7 l,Z x D y,Z E J F,Z m q n] 67)).cell? ⟨w.heap.size+1,4,N⟩=O f:=(cb (nt _ a5.vb)).t rfl;have dl:wt (∀ac,iR (λV=>w4.heap.size<=V) k w5 (Bc #[I U L,I U M,I U P,y7 l,Z x D y,Z E J F,Z m q n]) ac->iR (λV=>w4.heap.size<=V/\V<w5.heap.size) k ((w5.alloc (BV #[I U L,I U M,I U P,y7 l,Z x D y,Z E J F,Z m q n] 67)).alloc (BV #[I U L,I U M,I U P,y7 l,Z x D y,Z E J F,Z m q n] 67)) (Bc #[I U L,I U M,I U P,y7 l,Z x D y,Z E J F,Z m q n]) ac):=λac hv=>iR.keep k (iR.m k hv (λV c h2=>⟨c,h2⟩)) (λV c h2=>ds.block V c.2)
       have c0:=Hs (W:=w5.alloc (BV #[I U L,I U M,I U P,y7 l,Z x D y,Z E J F,Z m q n] 67)) (a0:=I U L) (a1:=I U M) (a2:=I U P) (a3:=y7 l) (a4:=Z x D y) (a5:=Z E J F) (a6:=Z m q n);rw[aV]at c0;have c8:=H c0;obtain⟨ua,uc,cg⟩:=ke b8.o.own;have fm:=b8.o.own;have ga:=er.o;have gb:=es.o;subst cg;clear a5 el a8 em c0 cp d3 dk k5;go_wp2_with (at_builtin;refine rW _ rfl (.tmp 75) (.tmp 77) 29 rfl (w.heap.size+2) 67 i0 _ 7 112 dw hi fq fs fu rfl bF (Z ua (G a) uc) (G a) (a.flatMap cellsOf) rfl fm ⟨w5.heap.size+1,0,N⟩ 1 1 [I U L,I U M,I U P,y7 l,Z x D y,Z E J F,Z m q n] rfl rfl c8 ?hone ?h63 ?hby ?hbs ?_)
       case hone=>exact Iq L M P l x D y E J F m q n
       case h63=>unfold maxLen;omega
       case hby=>omega
       case hbs=>simp;omega
       intro eb w9 c3 cx ea;obtain⟨dp,ei⟩:=b8.o.item (k:=k) (Vs:=g) (x:=Bc #[I U L,I U M,I U P,y7 l,Z x D y,Z E J F,Z m q n]) (fo L M P l x D y E J F m q n) c3 cx Y;have c6:=H dp;have en:wt (CJ (w.heap.size+2) k RA (w9.setCell ⟨w.heap.size+1,4,N⟩ eb) t5 eb (a++[Bc #[I U L,I U M,I U P,y7 l,Z x D y,Z E J F,Z m q n]])):=by
        rcases ex.o with⟨c,rfl,_⟩|⟨ac,q3,c,rfl,hv⟩
        ·show RA=N;have:=b9.o;have ck:gC k (gq r)=N:=c;simp only[ck]at this;exact this.s
        ·have d6:=b9.o;have ck:gC k (gq r)=O (ac,q3):=c;simp only[ck]at d6;refine⟨g++[ac],ei (Px:=λV=>w4.heap.size<=V/\V<w5.heap.size) (λV hg=>⟨Y,λj=>by have:=fd V j;omega,λj=>by cases j⟩) (dl ac hv) (λV hg=>by simpa[aV]using ea V hg) dj,cr,?_,?_⟩
         ·have h3:=jY ck;have h6:=eu.o;omega
         ·rw[<-d6,Ot]
       have c1:=(cx.block (w.heap.size+1) eS (λj=>by have:=(b8.o.own.lt _ j.s).1;omega)).t b8.vb;have g4:=lQ 4 c1;have g5:w9.cell? ⟨w.heap.size+1,4,N⟩=O (Z ua (G a) uc):=cb c1;obtain⟨gm,gp,fb⟩:=ke c3;subst fb;obtain⟨gl,d5⟩:=c6.o.sc;have et:=H d5.mS;clear c3 cx ea dp ei c1 b8 dj dl c8 d5;go_wp2;go_roundw
       case rel=>exact⟨t5,_,_,c6,en⟩
       case measure=>rw[HM.o,et.o];omega
end
section
variable{c k:Nat}{S:ByteArray}{w b:vz}{p:Nat}{s t:Option (List Nat)}
def JM:∀k,k<=12->FY c S k
 |0,_=>nz
 |k+1,h=>ns Y (JM k Y)
def yQ{a:Nat}(h:a<10):gJ a=[48+a]:=by
 unfold gJ;rw[Lib.decDigits,dif_pos h];match a,h with
 |0,_=>rfl
 |1,_=>rfl
 |2,_=>rfl
 |3,_=>rfl
 |4,_=>rfl
 |5,_=>rfl
 |6,_=>rfl
 |7,_=>rfl
 |8,_=>rfl
 |9,_=>rfl
 |a+10,h=>omega
def Ft{a:Nat}(h:¬a<10):gJ a=gJ (a/10)++gJ (a%10):=by
 rw[yQ (show a%10<10 by omega)];unfold gJ;conv=>lhs;rw[Lib.decDigits,dif_neg h,aI]
 congr 1;have:a%10<10:=Y;generalize a%10=d at *;match d,this with
 |0,_=>rfl
 |1,_=>rfl
 |2,_=>rfl
 |3,_=>rfl
 |4,_=>rfl
 |5,_=>rfl
 |6,_=>rfl
 |7,_=>rfl
 |8,_=>rfl
 |9,_=>rfl
 |d+10,h=>omega
def lu(a:List Nat):(gj a).size=G a:=by unfold gj;simp[ByteArray.size]
def Cw:∀(a:Nat),a<9223372036854775808->∀w:vz,wh DG 51 #[I U (a:Nat)] w λe b=>e=BX (y7 (gj (gJ a)))/\b=w:=by
 intro a;induction a using Nat.strongRecOn with
 |_ a f=>
  intro K w;by_cases g:a<10
  ·have e:=yQ g;have j:({data:=#[48,49,50,51,52,53,54,55,56,57]}:ByteArray).extract a (a+1)=gj [48+a]:=by
    match a,g with
    |0,_=>rfl
    |1,_=>rfl
    |2,_=>rfl
    |3,_=>rfl
    |4,_=>rfl
    |5,_=>rfl
    |6,_=>rfl
    |7,_=>rfl
    |8,_=>rfl
    |9,_=>rfl
    |a+10,h=>omega
   rw[e,<-j];have v:decide ((a:Int)<0)=CS:=cO;have x:decide ((a:Int)<10)=CD:=eS;have B:(a:Int)<=(a:Int)+1:=Y;have C:(a:Int)+1<=10:=Y;clear f e j
   go_in
   go_wp2;go_ret;exact⟨rfl,rfl⟩
  ·have l:=H (f (a/10) Y Y);have m:=H (f (a%10) Y Y);have J:((a:Int)).tmod 10=((a%10:Nat):Int):=by rw[cM Y];omega
   have F:((a:Int)).tdiv 10=((a/10:Nat):Int):=by rw[Int.tdiv_eq_ediv_of_nonneg Y];omega
   have i:wt (gj (gJ a)=gj (gJ (a/10))++gj (gJ (a%10))):=by unfold Hid;rw[Ft g,pE]
   rw[i.o];have v:decide ((a:Int)<0)=CS:=cO;have x:decide ((a:Int)<10)=CS:=eS;have L:a/10<9223372036854775808:=Y;have D:(gj (gJ (a/10))).size<=19:=by rw[lu];exact xe 18 _ Y
   have E:(gj (gJ (a%10))).size<=19:=by rw[lu];exact xe 18 _ Y
   generalize n:a/10=r at *;generalize q:a%10=u at *;generalize gj (gJ r)=z at *;generalize gj (gJ u)=A at *;clear f n q i
   go_in
   go_wp2_with fail;apply(l _).m;rintro e y ⟨rfl,d⟩;have d:=d.s;subst d;go_wp2_with fail;apply(m _).m;rintro e y ⟨rfl,d⟩;have d:=d.s;subst d;go_wp2;go_ret;exact⟨rfl,rfl⟩
def J1(d:Nat)(q:d<9223372036854775808)(w:vz):wh DG 52 #[I U (d:Nat),I U 10] w λl b=>l=BX (y7 (gj (kN d)))/\b=w:=by
 have m:=H (Cw d q w);have u:=xe 18 d Y
 go_in
 go_wp2_with fail;apply m.o.m;rintro l z ⟨rfl,f⟩;have f:=f.s;subst f;go_wp2_with fail;go_loopw [5] (λg wr=>∃(e:Nat) (a:ByteArray),g=y7 a/\wt (a=gj (DJ e 48++gJ d))/\a.size=e+(gJ d).length/\(e=0\/e+(gJ d).length<=10)/\wr=w) (λg _=>match g with|y7 a=>10-a.size|_=>0)
 case atStart=>exact⟨0,_,rfl,by unfold Hid;rfl,by unfold gj;simp[ByteArray.size],C1 rfl,rfl⟩
 case round=>
  obtain⟨e,a,rfl,i,y,v,rfl⟩:=hrel;by_cases x:a.size<10
  ·have r:decide ((a.size:Int)<10)=CD:=eS;have j:wt (({data:=#[48]}:ByteArray)++a=gj (DJ (e+1) 48++gJ d)):=by unfold Hid;rw[i.o];exact(pE [48] (DJ e 48++gJ d)).s
   have h:wt ((({data:=#[48]}:ByteArray)++a).size=e+1+(gJ d).length):=by unfold Hid;rw[j.o];unfold gj;simp[ByteArray.size]
   go_wp2;go_roundw
   case rel=>exact⟨e+1,_,rfl,j,h,C2 Y,trivial⟩
   case measure=>show 10-(({data:=#[48]}:ByteArray)++a).size<10-a.size;rw[h.o];omega
  ·have r:decide ((a.size:Int)<10)=CS:=eS;have n:wt (a=gj (kN d)):=by unfold Hid;rw[i.o];unfold kN;rw[show 10-(gJ d).length=e by omega]
   go_wp2;go_ret;rw[<-n.o];exact⟨rfl,rfl⟩
end
section
variable{w:vz}
def IA(n:Int)(i : -9223372036854775807<=n)(j:n<=9223372036854775807)(w:vz):wh DG 51 #[I U n] w λc g=>c=BX (y7 (gj (gU n)))/\g=w:=by
 by_cases d:n<0
 ·obtain⟨a,l⟩:∃a:Nat,-n=a:=⟨n.natAbs,Y⟩;have e:=H (Cw a Y w);have b:IntKind.i64.wrap (-n)=(a:Int):=by rw[bu];omega
  have f:wt (({data:=#[45]}:ByteArray)++gj (gJ a)=gj (gU n)):=by unfold Hid gU;rw[ak d,show n.natAbs=a by omega];exact(pE [45] (gJ a)).s
  have k:(gj (gJ a)).size<=19:=by rw[lu];exact xe 18 _ Y
  rw[<-f.o];generalize gj (gJ a)=h at *
  go_in
  go_wp2_with fail;apply e.o.m;rintro c m ⟨rfl,b⟩;have b:=b.s;subst b;go_wp2;go_ret;exact⟨rfl,rfl⟩
 ·obtain⟨a,rfl⟩:=Int.eq_ofNat_of_zero_le (by omega:0<=n);have:=Cw a Y w;unfold gU;rw[aj d];exact this
def GM(b k:Nat)(m:b<9223372036854775808)(r:k<=1000)(w:vz):wh DG 52 #[I U (b:Nat),I U (k:Nat)] w λi p=>i=BX (y7 (gj (iD k b)))/\p=w:=by
 have j:=H (Cw b m w)
 go_in
 go_wp2_with fail;apply j.o.m;rintro i u ⟨rfl,d⟩;have d:=d.s;subst d;go_wp2_with fail;go_loopw [5] (λe wr=>∃(c:Nat) (a:ByteArray),e=y7 a/\wt (a=gj (DJ c 48++gJ b))/\a.size=c+(gJ b).length/\(c=0\/c+(gJ b).length<=k)/\wr=w) (λe _=>match e with|y7 a=>k-a.size|_=>0)
 case atStart=>exact⟨0,_,rfl,by unfold Hid;rfl,by unfold gj;simp[ByteArray.size],C1 rfl,rfl⟩
 case round=>
  obtain⟨c,a,rfl,g,t,q,rfl⟩:=hrel;by_cases s:a.size<k
  ·have n:decide ((a.size:Int)<(k:Int))=CD:=eS;have h:wt (({data:=#[48]}:ByteArray)++a=gj (DJ (c+1) 48++gJ b)):=by unfold Hid;rw[g.o];exact(pE [48] (DJ c 48++gJ b)).s
   have f:wt ((({data:=#[48]}:ByteArray)++a).size=c+1+(gJ b).length):=by unfold Hid;rw[h.o];unfold gj;simp[ByteArray.size]
   go_wp2;go_roundw
   case rel=>exact⟨c+1,_,rfl,h,f,C2 Y,trivial⟩
   case measure=>show k-(({data:=#[48]}:ByteArray)++a).size<k-a.size;rw[f.o];omega
  ·have n:decide ((a.size:Int)<(k:Int))=CS:=eS;have l:wt (a=gj (iD k b)):=by unfold Hid;rw[g.o];unfold iD;rw[show k-(gJ b).length=c by omega]
   go_wp2;go_ret;rw[<-l.o];exact⟨rfl,rfl⟩
def wrealA_zero(a:Nat):kB a 0=gJ a++[46,48]:=by
 have b:iD 1 a=gJ a:=by
  unfold iD;have:1<=(gJ a).length:=by
   by_cases h:a<10;·rw[yQ h];simp
   ·rw[Ft h,ab,yQ (show a%10<10 by omega)];simp
  rw[show 1-(gJ a).length=0 by omega];rfl
 unfold kB;rw[bZ,b];simp
def J5(g:Int)(a:Nat)(W : -999999999<=g)(X:g<=999999999)(hp:a<=5)(w:vz):wh DG 85 #[I U g,I U a] w λr L=>r=BX (y7 (gj (jQ g a)))/\∃c,L=w.drewN c:=by
 obtain⟨c,B⟩:∃c,g.natAbs=c:=⟨_,rfl⟩;obtain⟨i,k⟩:∃i,gj (if g<0 then[45]else[])=i:=⟨_,rfl⟩;have x:wt (gj (jQ g a)=i++gj (kB c a)):=by
  unfold Hid jQ;rw[<-k];by_cases f:g<0;·rw[ak f,ak f,B];exact pE [45] _
  ·rw[aj f,aj f,show g.toNat=c by omega];exact pE [] _
 have v:=H (Cw c Y);have p:=H (GM c (a+1) Y Y);have E:IntKind.i64.wrap ((a:Int)+1)=((a+1:Nat):Int):=by rw[bu];omega
 obtain⟨z,A⟩:=oL (a+1) c Y Y;have q:wt (∀d,gj (iD (a+1) c)=d->a≠0->d.extract 0 (d.size-a)++{data:=#[46]}++d.extract (d.size-a) d.size=gj (kB c a)):=λd D f=>by
  have y:bl d=iD (a+1) c:=by rw[<-D];unfold iD;rw[pE,Hn,Lc,vJ _ (λac K=>by rw[List.eq_of_mem_replicate K];omega)]
  have F:d.size=(iD (a+1) c).length:=by rw[<-y,mC]
  have e1:bl (d.extract 0 (d.size-a))=(bl d).take (d.size-a):=by have:=bp d 0 (d.size-a) Y;rw[bZ,fX]at this;exact this
  rw[<-yN (_++_++_),Hn,Hn,e1,Cl,y,F];unfold kB;rw[aj f,bP,au];rfl
 have u:∀d,gj (iD (a+1) c)=d->d.size=(iD (a+1) c).length:=λd h=>by rw[<-h,lu]
 rw[x.o];obtain⟨m,s⟩:∃m,i++gj (kB c a)=m:=⟨_,rfl⟩;rw[s];have l:=H s;have V:c<=999999999:=Y;clear s
 go_in
 go_upto_if 8 with fail
 go_cut [0,5]from 7 (λC b P=>C=I U c/\b=y7 i/\P=w)
 case first=>
  by_cases f:g<0
  ·have j:IntKind.i64.wrap (-g)=(c:Int):=by rw[bu];omega
   rw[ak f]at k;go_wp2
   go_meet
   case rel=>exact⟨rfl,by rw[<-k];rfl,rfl⟩
  ·rw[aj f]at k;go_wp2
   go_meet
   case rel=>exact⟨by congr 1;omega,by rw[<-k];rfl,rfl⟩
 case rest=>
 obtain⟨rfl,rfl,t⟩:=hcut;have t:=t.s;subst t;have S:i.size<=1:=by rw[<-k,lu];split<;>simp
 clear k B x;by_cases f:a=0
 ·subst f;have l:wt (i++gj (gJ c)++{data:=#[46,48]}=m):=by unfold Hid;rw[<-l.o,wrealA_zero,pE,<-ByteArray.append_assoc];rfl
  have R:(gj (gJ c)).size<=19:=by rw[lu];exact xe 18 _ Y
  generalize gj (gJ c)=Q at *;clear p q u z A E;go_wp2_with fail;apply(v _).m;rintro r M ⟨rfl,j⟩;have j:=j.s;subst j;go_wp2;go_ret;exact⟨by rw[<-l.o];rfl,0,rfl⟩
 ·have t0:((a:Int)==0)=CS:=eS;obtain⟨e,n⟩:∃e,gj (iD (a+1) c)=e:=⟨_,rfl⟩;have J:=u e n;have l:wt (i++e.extract 0 (e.size-a)++{data:=#[46]}++e.extract (e.size-a) e.size=m):=by unfold Hid;rw[<-l.o,<-q.o e n f,<-ByteArray.append_assoc,<-ByteArray.append_assoc]
  rw[n]at p;have x1:IntKind.i64.wrap ((e.size:Int)-(a:Int))=((e.size-a:Nat):Int):=by rw[bu];omega
  have x2:((e.size-a:Nat):Int)<=(e.size:Int):=Y;have T:e.size<=30:=Y;generalize hq:e.size-a=aa at *;clear u q n z A J v;go_wp2_with fail;apply(p _).m;rintro r M ⟨rfl,j⟩;have j:=j.s;subst j;go_wp2_with fail;go_quiet (fail);go_wp2;go_ret;exact⟨by rw[<-l.o];rfl,_,rfl⟩
end
section
variable{w d:vz}{B j:Nat}{p r:wg}{a q:List Nat}
def gY:List (List Nat)->List Nat
 | []=>[]
 |c::b=>c++b.flatMap λe=>32::e
def u9(b:List (List Nat))(c:List Nat):gY (b++[c])=gY b++((if (G b)=0 then[]else[32])++c):=by
 cases b with
 |nil=>simp[gY]
 |cons e b=>simp[gY]
def gT:{k:Nat}->VT k->List Nat
 |0,_=>[]
 |k+1,V=>match f_.kind V with
  |0=>[110,117,108,108]
  |1=>if f_.n V=1 then[116,114,117,101]else[102,97,108,115,101]
  |2=>gU (f_.n V)
  |3=>jQ (f_.n V) (f_.places V)
  |4=>gN (f_.text V)
  |5=>lI (f_.text V)
  |6=>91::(gY ((f_.items V).map λc=>gT (k:=k) c)++[93])
  |7=>60::60::(gY (((f_.keys V).zip (f_.items V)).map λb=>gN b.1++(32::gT (k:=k) b.2))++[62,62])
  |9=>gU (f_.n V)++[32,48,32,82]
  |_=>[]
def gV:{k:Nat}->VT k->Nat
 |0,_=>0
 |k+1,V=>100+4*(f_.text V).length+((f_.items V).map λc=>10+gV (k:=k) c).sum+((f_.keys V).map λb=>10+3*G b).sum
def uN:{k:Nat}->VT k->Prop
 |0,_=>True
 |k+1,b=>(f_.kind b<=7\/f_.kind b=9)/\(-9223372036854775808<=f_.n b/\f_.n b<=9223372036854775807)/\(f_.kind b=3 -> -999999999<=f_.n b/\f_.n b<=999999999/\f_.places b<=5)/\(f_.kind b=7->(f_.keys b).length=(f_.items b).length)/\(∀c∈f_.text b,c<256)/\(∀e∈f_.keys b,∀c∈e,c<256)/\∀f∈f_.items b,uN (k:=k) f
def iR.outk{e:Nat->Prop}:∀(k:Nat) {t:wg} {V:VT k},iR e k w t V->jg B j w p r a q->iP B j w d->iR e k d t V
 |0,_,_,h,_,_=>h
 |k+1,t,V,h,x,m=>by
  obtain⟨R,S,y,T,z,A,C,D,E,F⟩:=h;have o:∀{c s n:Nat} {i:wg} {u:List wg},c ≠ 5->c ≠ 122->j4 e w c s i n u->j4 e d c s i n u:=λ{c s n i u} J K g=>by
   have L:∀b,i.ownBlock=O b->b∉[j]:=λb f v=>by simp at v;subst v;obtain⟨_,aa,ac,l⟩:=oQ g.1 b f;rw[x.blk]at l;simp at l;exact K l.2.1.s
   exact⟨FD g.1 m.toKept J L,λb f=>⟨(g.2 b f).1,aF (g.2 b f).2 m.size⟩⟩
  exact⟨R,S,y,T,z,A,o bF bF C,λQ W X M P=>iR.outk k (D Q W X M P) x m,o bF bF E,o bF bF F⟩
def Oc(h:jg B j w p r a q)(b:Nat)(v:b<=9223372036854775807)(u:G a+1<=500000000):wh DG 186 #[A3 (O ⟨j,0,N⟩),I U b] w λf d=>f=BX (BG #[])/\∃n,jg B j d n r (a++(if b=0 then[]else[32])) q/\iP B j w d:=by
 by_cases c:b=0
 ·rw[ak c,bP];have t:¬0<b:=Y;have k:=H h;clear h c
  go_in
  go_wp2
  go_end0
  exact⟨rfl,p,k,iP.refl _ _ _⟩
 ·rw[aj c];have t:0<b:=Y;have e:=H (nP h {data:=#[32]} (by show _+1<=_;omega));clear h c
  go_in
  go_wp2_with fail;apply e.o.m;rintro f x ⟨rfl,s,g,i⟩;have l:=H g;have m:=H i;clear g i e;go_wp2
  go_end0
  exact⟨rfl,s,l,m⟩
def Lt(b:Bool)(w:vz):wh DG 180 #[Bs b] w λc d=>c=BX (y7 (if b=CD then{data:=#[116,114,117,101]} else{data:=#[102,97,108,115,101]}))/\d=w:=by
 cases b
 ·go_in
  go_wp2;go_ret;exact⟨rfl,rfl⟩
 ·go_in
  go_wp2;go_ret;exact⟨rfl,rfl⟩
end
def mQ:∀a:List (List Nat),(gY a).length<=(a.map λb=>G b+1).sum
 | []=>ag _
 |b::a=>by
  have:∀a:List (List Nat),(a.flatMap λd=>32::d).length=(a.map λb=>G b+1).sum:=λa=>by
   induction a with
   |nil=>rfl
   |cons e a c=>rw[cG,ab,c,bM,cT];simp
  rw[gY,ab,this a,bM,cT];omega
def oB{c:Type}{f g:c->Nat}:∀a:List c,(∀b∈a,f b<=g b)->(a.map f).sum<=(a.map g).sum
 | [],_=>ag _
 |b::a,h=>by have i:=h b (bU ..);have j:=oB a (λe d=>h e (cu _ d));rw[bM,bM,cT,cT];omega
def qY{d e:Type}{f:d->Nat}{g:e->Nat}:∀(a:List d) (b:List e),((a.zip b).map λc=>f c.1+g c.2).sum<=(a.map f).sum+(b.map g).sum
 | [],b=>cO
 |h::a,[]=>cO
 |h::a,i::b=>by have:=qY (f:=f) (g:=g) a b;simp only[List.zip_cons_cons,bM,cT];omega
def jp{n:Int}(a : -9223372036854775808<=n)(b:n<=9223372036854775807):(gU n).length<=20:=by
 unfold gU;split
 ·have:=xe 18 n.natAbs Y;simp only[ai];omega
 ·have:=xe 18 n.toNat Y;omega
def mR(a:List Nat):(gN a).length<=3*G a+1:=by
 unfold gN;induction a with
 |nil=>simp
 |cons b a c=>have:=qJ b;simp only[cG,ai,ab]at c ⊢;omega
def Fj(a:List Nat):(lI a).length<=4*G a+2:=by
 unfold lI kX;have:∀a:List Nat,(a.flatMap jx).length<=4*G a:=λa=>by
  induction a with
  |nil=>simp
  |cons b a c=>have:=tz b;simp only[cG,ai,ab]at c ⊢;omega
 have:=this a;simp only[ab,ai,aB];omega
def B_{a:Int}{b:Nat}(d : -999999999<=a)(e:a<=999999999)(c:b<=5):(jQ a b).length<=13:=by
 unfold jQ;split
 ·have:=AB a.natAbs b Y c;simp only[ai];omega
 ·have:=AB a.toNat b Y c;omega
def mM:∀{k:Nat} {a:VT k},uN a->(gT a).length<=gV a
 |0,a,_=>ag _
 |k+1,a,h=>by
  obtain⟨r,d,m,s,t,u,n⟩:=h;have x:((f_.items a).map λc=>(gT (k:=k) c).length+1).sum<=((f_.items a).map λc=>10+gV (k:=k) c).sum:=oB _ λc p=>by have:=mM (n c p);omega
  unfold gT gV;split;·simp;omega
  ·split<;>simp<;>omega
  ·have:=jp d.1 d.2;omega
  ·next o=>obtain⟨i,b,j⟩:=m o;have:=B_ i b j;omega
  ·have:=mR (f_.text a);omega
  ·have:=Fj (f_.text a);omega
  ·have:=mQ ((f_.items a).map λc=>gT (k:=k) c);rw[dy]at this;have l:((λe:List Nat=>G e+1) ∘ λc=>gT (k:=k) c)=λc=>(gT (k:=k) c).length+1:=rfl;rw[l]at this;simp only[ai,ab,aB];omega
  ·have:=mQ (((f_.keys a).zip (f_.items a)).map λz=>gN z.1++(32::gT (k:=k) z.2));rw[dy]at this;have v:(((f_.keys a).zip (f_.items a)).map ((λe:List Nat=>G e+1) ∘ λz=>gN z.1++(32::gT (k:=k) z.2))).sum<=(((f_.keys a).zip (f_.items a)).map λz=>(10+3*z.1.length)+((gT (k:=k) z.2).length+1)).sum:=oB _ λz y=>by have:=mR z.1;simp only[Function.comp,ab,ai];omega
   have w:=qY (f:=λq:List Nat=>10+3*G q) (g:=λc=>(gT (k:=k) c).length+1) (f_.keys a) (f_.items a);simp only[ai,ab,aB];omega
  ·have:=jp d.1 d.2;simp only[ab,ai,aB];omega
  ·simp
section
variable{w q:vz}{B d:Nat}{r p:wg}{a j:List Nat}
def mZ(B d:Nat)(w:vz)(p:wg)(a j c:List Nat)(b:xc)(q:vz):Prop:=b=BX (BG #[])/\∃e,jg B d q e p (a++c) j/\iP B d w q
def WO(k:Nat):Prop:=∀(B d b:Nat) (w:vz) (r p:wg) (a j:List Nat) (e:Nat->Prop) (c:wg) (V:VT k),pR b w->b<=B->jg B d w r p a j->iR e k w c V->uN V->G a+gV V<=500000000 ->wh DG 132 #[A3 (O ⟨d,0,N⟩),c] w (mZ B d w p a j (gT V))
def oZ.outk{c:Nat->Prop}{k b:Nat}{e:List (VT k)}{n:wg}(h:oZ c k b e w n)(m:jg B d w r p a j)(i:iP B d w q):oZ c k b e q n:=by obtain⟨A,f,s,t⟩:=h;refine⟨A,FD f i.toKept bF (λo u l=>?_),s,λy z C v x=>iR.outk k (t y z C v x) m i⟩;simp at l;subst l;obtain⟨_,D,E,g⟩:=oQ f o u;rw[m.blk]at g;simp at g
def wjoin_take{g:Type}(f:g->List Nat)(c:List g)(b:Nat)(e:g)(h:c[b]?=O e):gY ((c.take (b+1)).map f)=gY ((c.take b).map f)++((if b=0 then[]else[32])++f e):=by rw[cP,h,aI];show gY (_++[f e])=_;rw[u9,aq,ax];have i:=(ay.1 h).1;rw[dQ Y]
def sum_take{g:Type}(f:g->Nat):∀(b:List g) (e:Nat) (c:g),b[e]?=O c->((b.take e).map f).sum+f c<=(b.map f).sum
 | [],e,c,h=>by simp at h
 |i::b,0,c,h=>by cases h;simp
 |i::b,e+1,c,h=>by have:=sum_take f b e c lT;simp only[List.take_succ_cons,bM,cT];omega
def Kx{k P:Nat}(ih:WO k){W:Nat->Prop}{M:wg}{V:f_ (VT k)}(he:pR P w)(a1:P<=B)(h:jg B d w r p a j)(hv:iR W (k+1) w M V)(a5:uN (k:=k+1) V)(b2:G a+gV (k:=k+1) V<=500000000):wh DG 184 #[A3 (O ⟨d,0,N⟩),M] w (mZ B d w p a j (91::(gY (V.items.map λb=>gT b)++[93]))):=by
 obtain⟨ia,ic,ka,kc,fa,fc,rfl,aa,b1,b0⟩:=hv.split;have cg:V.items.length<=9223372036854775807:=by obtain⟨xs,i,F,_⟩:=aa;rw[<-F];exact JP i
 have bd:=H aa;have bm:=H ih;have bh:=H he;have ad:=H a5.2.2.2.2.2.2;have R:wt (G a+100+(V.items.map λb=>10+gV b).sum<=500000000):=by unfold Hid;have:gV (k:=k+1) V=100+4*V.text.length+(V.items.map λb=>10+gV b).sum+(V.keys.map λce=>10+3*G ce).sum:=rfl;omega
 have bt:wt (∀c,(gY ((V.items.take c).map λb=>gT b)).length<=((V.items.take c).map λb=>10+gV b).sum):=λc=>by have i:=mQ ((V.items.take c).map λb=>gT b);rw[dy]at i;refine aJ i (oB _ λb l=>?_);have:=mM (ad b (cN l));simp only[Function.comp];omega
 generalize a4:V.items.length=L at *;have S:=H a4;clear hv a5 b2 aa b1 b0 ih he a4;generalize (V.kind:Int)=kd at *;generalize V.n=nn at *;generalize (V.places:Int)=pp at *;generalize gj V.text=tx at *;generalize V.keys.length=nk at *;generalize V.filters.length=nf at *;have a7:(w.alloc (BV #[I U kd,I U nn,I U pp,y7 tx,Z ia L ic,Z ka nk kc,Z fa nf fc] 67)).heap[w.heap.size]?=O (BV #[I U kd,I U nn,I U pp,y7 tx,Z ia L ic,Z ka nk kc,Z fa nf fc] 67 (0,0)):=bn _ _;have i:=h.alloc (BV #[I U kd,I U nn,I U pp,y7 tx,Z ia L ic,Z ka nk kc,Z fa nf fc] 67);have T:=H (nP i {data:=#[91]} (by have:=R.o;show _+1<=_;omega));rw[aV]at T;have bf:wt (∀X,iP B d w X->pR P X):=λX k=>bh.o.outk a1 h k;have br:=H h
 go_in
 go_wp2_with fail;apply T.o.m;rintro g w1 ⟨rfl,b9,a0,e⟩;have a8:=e.block _ _ (by simp;have:=h.lt;omega) a7 (C2 λao fz g=>by cases g);have K1:=H (((iP.refl B d w).alloc _).t e);have H1:=H a0;have c4:=vK a8;clear a7 i a0 e T a8 h;go_wp2_with fail;go_loopw [4,5,12] (λ_ _ iv wr=>∃(c:Nat) (M:wg),c<=L/\iv=I U c/\wt (jg B d wr M p (a++(91::gY ((V.items.take c).map λb=>gT b))) j)/\wt (iP B d w wr)) (λ_ _ iv _=>L-(intOf iv).toNat)
 case atStart=>exact⟨0,b9,aw _,rfl,H1,K1⟩
 case round=>
  obtain⟨c,M,J,rfl,E,Q⟩:=hrel;have a6:=bt.o c;rcases aC J with J|J
  ·subst J;have b5:=aP (by rw[S.o];exact ag _);rw[b5]at E a6;have a3:(a++(91::gY (V.items.map λb=>gT b))).length+1<=500000000:=by have:=R.o;simp only[ab,ai];omega
   have al:=H (nP E {data:=#[93]} a3);have bs:wt (a++(91::gY (V.items.map λb=>gT b))++bl {data:=#[93]}=a++(91::(gY (V.items.map λb=>gT b)++[93]))):=by unfold Hid;simp[bl]
   go_wp2_with fail;apply al.o.m;rintro g w9 ⟨rfl,cd,h9,k9⟩;have H9:=H h9;have K9:=H (Q.t k9);clear h9 k9 al;go_wp2
   go_end0
   exact⟨rfl,cd,by rw[<-bs.o];exact H9,K9⟩
  ·obtain⟨b,l⟩:∃b,V.items[c]?=O b:=⟨_,af (by rw[S.o];exact J)⟩;have b4:=sum_take (λb=>10+gV b) V.items c b l;have b6:=wjoin_take (λb=>gT b) V.items c b l;obtain⟨bz,ao,ci,a2,_,_,hx,f⟩:=(bd.o.outk br Q).at l;rw[S.o]at a2;cases a2;have b8:=ad.o b (aQ l);obtain⟨m,e,y,z,u,x,v,A,D,C,n,t,s,b7⟩:=iR.form hx;subst b7;have d0:wr.cell? ⟨bz,c*7,N⟩=O (I U m):=f 0 _ rfl;have d1:=f 1 _ rfl;have d2:=f 2 _ rfl;have d3:=f 3 _ rfl;have d4:=f 4 _ rfl;have d5:=f 5 _ rfl;have d6:=f 6 _ rfl;have a3:(a++(91::gY ((V.items.take c).map λb=>gT b))).length+1+gV b<=500000000:=by have:=R.o;simp only[ab,ai];omega
   have F:=E.o.alloc (BV #[I U m,I U e,I U y,y7 z,Z u x v,Z A D C,Z n t s] 67);have bc:iP B d w (wr.alloc (BV #[I U m,I U e,I U y,y7 z,Z u x v,Z A D C,Z n t s] 67)):=Q.o.alloc _;have a9:(wr.alloc (BV #[I U m,I U e,I U y,y7 z,Z u x v,Z A D C,Z n t s] 67)).heap[wr.heap.size]?=O (BV #[I U m,I U e,I U y,y7 z,Z u x v,Z A D C,Z n t s] 67 (0,0)):=bn _ _;have bb:iR W k (wr.alloc (BV #[I U m,I U e,I U y,y7 z,Z u x v,Z A D C,Z n t s] 67)) (Bc #[I U m,I U e,I U y,y7 z,Z u x v,Z A D C,Z n t s]) b:=iR.outk k hx E ((iP.refl B d wr).alloc _);have ac:=H (Oc F c Y Y);have H2:=H F;have K2:=H bc;have bw:=H a9;have bx:=H bb;have bv:=H b6;have b3:(a++(91::gY ((V.items.take c).map λb=>gT b))++(if c=0 then[]else[32])).length+gV b<=500000000:=by
    have cf:(if c=0 then[]else[32]:List Nat).length<=1:=by split<;>simp
    rw[ab];omega
   clear hx f l F bc a9 bb b4 a6;go_wp2_with fail;apply ac.o.m;rintro g w3 ⟨rfl,ca,h3,K⟩;have ba:=K.block _ _ (by simp;have:=E.o.lt;omega) bw (C2 λao fz g=>by cases g);have HV:=H (bm B d P w3 ca p _ j W _ b (bf w3 (K2.t K)) a1 h3 (iR.outk k bx H2 K) b8 b3);have K3:=H (K2.t K);obtain⟨e0,e1,e2,e3,e4,e5,e6⟩:=A5 ba;clear h3 K ba ac;go_wp2_with fail;apply HV.o.m;rintro g w5 ⟨rfl,cc,h5,k5⟩;have H5:=H h5;have K5:=H (K3.t k5);clear h5 k5 HV;go_wp2;go_roundw
   case rel=>
    have hr:a++(91::gY ((V.items.take (c+1)).map λb=>gT b))=a++(91::gY ((V.items.take c).map λb=>gT b))++(if c=0 then[]else[32])++gT b:=by rw[bv.o];simp
    exact⟨c+1,cc,Y,by first|rfl|(congr 1),by rw[hr];exact H5,K5⟩
   case measure=>exact eT
end
def jt:(k:Nat)->VT k->Nat
 |0,_=>1
 |k+1,V=>1+((f_.items (α:=VT k) V).map (jt k)).sum
def lG(b:Nat):(k:Nat)->VT k->Bool
 |0,_=>CD
 |k+1,a=> !(decide (f_.kind (α:=VT k) a=8/\1<12-k)) && !(decide (f_.kind (α:=VT k) a=9/\¬(1<=f_.n (α:=VT k) a/\f_.n (α:=VT k) a<=(b:Int))))&&lx (α:=VT k) a&&lE (α:=VT k) a&&(f_.items (α:=VT k) a).all (lG b k)
def Df:∀(k:Nat) (a:VT k),1<=jt k a
 |0,_=>ag _
 |k+1,a=>by unfold jt;omega
def sN{k:Nat}:∀a:List (VT k),G a<=(a.map (jt k)).sum
 | []=>cO
 |b::a=>by have:=sN a;have:=Df k b;simp only[bM,cT,ai];omega
def yb(d:Nat):∀(k:Nat) (c:List (VT k)) (e:Nat),e<=2000 ->rR d k e c=if(c.all (lG d k))=CD/\e+(c.map (jt k)).sum<=2000+G c then O (e+(c.map (jt k)).sum-G c)else N
 |0,c,e,m=>by
  have j:(c.map (jt 0)).sum=G c:=by
   induction c with
   |nil=>rfl
   |cons i c t=>simp only[bM,cT,ai,t];unfold jt;omega
  have f:c.all (lG d 0)=CD:=by rw[bG];intro x _;rfl
  rw[j,f,ak ⟨rfl,Y⟩];unfold rR;congr 1;omega
 |k+1,[],e,m=>by unfold rR;simp only[List.all_nil,ew,List.sum_nil,aB];rw[ak ⟨trivial,Y⟩];rfl
 |k+1,a::c,e,m=>by
  have s:rR d (k+1) e (a::c)=(if s_ (α:=VT k) d (12-k) e a=CD then rR d k (e+(f_.items (α:=VT k) a).length) (f_.items (α:=VT k) a)else N).bind λo=>rR d (k+1) o c:=rfl;rw[s];have q:jt (k+1) a=1+((f_.items (α:=VT k) a).map (jt k)).sum:=rfl;have r:lG d (k+1) a=(!(decide (f_.kind (α:=VT k) a=8/\1<12-k)) && !(decide (f_.kind (α:=VT k) a=9/\¬(1<=f_.n (α:=VT k) a/\f_.n (α:=VT k) a<=(d:Int))))&&lx (α:=VT k) a&&lE (α:=VT k) a&&(f_.items (α:=VT k) a).all (lG d k)):=rfl;have j:s_ (α:=VT k) d (12-k) e a=(decide (e+(f_.items (α:=VT k) a).length<=2000)&&(!(decide (f_.kind (α:=VT k) a=8/\1<12-k)) && !(decide (f_.kind (α:=VT k) a=9/\¬(1<=f_.n (α:=VT k) a/\f_.n (α:=VT k) a<=(d:Int))))&&lx (α:=VT k) a&&lE (α:=VT k) a)):=by unfold s_;simp only[Bool.and_assoc]
  rw[dD,r,j,bM,cT,q,ai];generalize (!(decide (f_.kind (α:=VT k) a=8/\1<12-k)) && !(decide (f_.kind (α:=VT k) a=9/\¬(1<=f_.n (α:=VT k) a/\f_.n (α:=VT k) a<=(d:Int))))&&lx (α:=VT k) a&&lE (α:=VT k) a)=p;have v:=sN (f_.items (α:=VT k) a);have w:=sN c;cases p with
  |false=>simp
  |true=>
   by_cases f:e+(f_.items (α:=VT k) a).length<=2000
   ·rw[aH f,Bool.and_true,ak rfl,yb d k _ _ f,cC];cases u:(f_.items (α:=VT k) a).all (lG d k)with
    |false=>simp
    |true=>
     generalize ((f_.items (α:=VT k) a).map (jt k)).sum=i at *;generalize (f_.items (α:=VT k) a).length=b at *;by_cases l:e+b+i<=2000+b
     ·rw[ak ⟨rfl,l⟩,Option.bind_some,yb d (k+1) c _ Y];rw[cC];by_cases g:(c.all (lG d (k+1)))=CD/\e+(1+i+(c.map (jt (k+1))).sum)<=2000+(G c+1);·rw[ak g,ak ⟨g.1,Y⟩];congr 1;omega
      ·rw[aj g,aj (λh=>g ⟨h.1,Y⟩)]
     ·rw[aj (λh=>l h.2),aj (λh=>l Y)];rfl
   ·rw[av f,Bool.false_and,aj cO,aj (λh=>f Y)];rfl
def pC(a:List (VT 12))(c:Int):jh a c=(decide (1<=G a/\G a<=100)&&decide (1<=c/\c<=(G a:Int))&&decide ((a[(c-1).toNat]?).map (λd:VT 12=>f_.kind (α:=VT 11) d)=O 7)&&(a.all (lG (G a) 12)&&decide ((a.map (jt 12)).sum<=2000))):=by
 unfold jh;by_cases h:G a<=100
 ·rw[yb _ _ _ _ Y];congr 1;by_cases b:(a.all (lG (G a) 12))=CD/\G a+(a.map (jt 12)).sum<=2000+G a;·rw[ak b,b.1,aH Y];rfl
  ·rw[aj b];cases e:a.all (lG (G a) 12)with
   |false=>rfl
   |true=>rw[av (λf=>b ⟨e,Y⟩)];rfl
 ·rw[av (λb=>h b.2)];rfl
section
variable{w w':vz}{P Q:Nat->Prop}
structure GN(α:Type) where
 kind:Int
 n:Int
 places:Int
 text:ByteArray
 items:List α
 keys:List ByteArray
 filters:List Int
def GT:Nat->Type
 |0=>Empty
 |k+1=>GN (GT k)
def n8(P:Nat->Prop)(w:vz)(d:Option wT)(e:List ByteArray):Prop:=∀(a:Nat) (c:ByteArray),e[a]?=O c->∃g b,d=O ⟨g,b,N⟩/\P g/\w.cell? ⟨g,b+a,N⟩=O (y7 c)
def q8(P:Nat->Prop)(w:vz)(e:Option wT)(f:List Int):Prop:=∀(c:Nat) (b:Int),f[c]?=O b->∃a d,e=O ⟨a,d,N⟩/\P a/\w.cell? ⟨a,d+c,N⟩=O (I U b)
def qf{α:Type}(a:GN α)(d:Option wT)(e:Nat)(f:Option wT)(g:Nat)(b:Option wT)(c:Nat):wg:=Bc #[I U a.kind,I U a.n,I U a.places,y7 a.text,Z d a.items.length e,Z f a.keys.length g,Z b a.filters.length c]
def nD{α:Type}(h:vz->wg->α->Prop)(P:Nat->Prop)(w:vz)(i:Option wT)(j:List α):Prop:=
 ∀(b:Nat) (g:α),j[b]?=O g->∃a d f,i=O ⟨a,d,N⟩/\P a/\(∀(c:Nat) (e:wg),(cellsOf f)[c]?=O e->w.cell? ⟨a,d+b*7+c,N⟩=O e)/\h w f g
def ku(P:Nat->Prop):(k:Nat)->vz->wg->GT k->Prop
 |0,_,_,_=>False
 |k+1,w,g,V=>∃(b:Option wT) (e:Nat) (c:Option wT) (f:Nat) (a:Option wT) (d:Nat),g=qf (show GN (GT k)from V) b e c f a d/\nD (ku P k) P w b (show GN (GT k)from V).items/\n8 P w c (show GN (GT k)from V).keys/\q8 P w a (show GN (GT k)from V).filters
def wH(a:Int):Prop:= -9223372036854775808<=a/\a<=9223372036854775807
def GB:{k:Nat}->GT k->Prop
 |0,_=>True
 |_+1,V=>(wH (GN.kind V)/\wH (GN.n V)/\wH (GN.places V))/\(GN.text V).size<=140737488355328/\(GN.items V).length<=140737488355328/\(GN.keys V).length<=140737488355328/\(GN.filters V).length<=140737488355328/\(∀b∈GN.keys V,b.size<=140737488355328)/\(∀a∈GN.filters V,wH a)/\∀c∈GN.items V,GB c
def n8.keep{b:Option wT}{e:List ByteArray}(h:n8 P w b e)(g:∀a,P a->a<w.heap.size->w'.heap[a]?=w.heap[a]?):n8 P w' b e:=λj l i=>by obtain⟨a,k,f,d,c⟩:=h j l i;exact⟨a,k,f,d,by rw[World.cell?_of_block (w:=w) (g a d (aA w _ c))];exact c⟩
def q8.keep{b:Option wT}{e:List Int}(h:q8 P w b e)(g:∀a,P a->a<w.heap.size->w'.heap[a]?=w.heap[a]?):q8 P w' b e:=λj l i=>by obtain⟨a,k,f,d,c⟩:=h j l i;exact⟨a,k,f,d,by rw[World.cell?_of_block (w:=w) (g a d (aA w _ c))];exact c⟩
def ku.form{k:Nat}{g:wg}{j:GT k}(h:ku P k w g j):∃(n p q:Int) (i:ByteArray) (c:Option wT) (m d:Nat) (e:Option wT) (o f:Nat) (a:Option wT) (l b:Nat),g=Bc #[I U n,I U p,I U q,y7 i,Z c m d,Z e o f,Z a l b]:=by
 cases k with
 |zero=>cases h
 |succ k=>obtain⟨c,d,e,f,a,b,rfl,_⟩:=h;exact⟨_,_,_,_,_,_,_,_,_,_,_,_,_,rfl⟩
def ku.keep:∀(k:Nat) {v:wg} {V:GT k},ku P k w v V->(∀a,P a->a<w.heap.size->w'.heap[a]?=w.heap[a]?)->ku P k w' v V
 |0,_,_,h,_=>h
 |k+1,v,V,h,b=>by
  obtain⟨r,s,u,x,f,g,d,j,m,l⟩:=h;refine⟨r,s,u,x,f,g,d,λq y p=>?_,m.keep b,l.keep b⟩;obtain⟨a,z,B,e,c,i,o⟩:=j q y p;exact⟨a,z,B,e,c,λt A n=>by have:=i t A n;rw[World.cell?_of_block (w:=w) (b a c (aA w _ this))];exact this,ku.keep k o b⟩
def ku.m:∀(k:Nat) {v:wg} {V:GT k},ku P k w v V->(∀a,P a->a<w.heap.size->Q a)->ku Q k w v V
 |0,_,_,h,_=>h
 |k+1,v,V,h,i=>by
  obtain⟨ia,ic,ka,kc,l,m,e,hi,o,n⟩:=h;refine⟨ia,ic,ka,kc,l,m,e,λf y q=>?_,λf s h=>?_,λf s h=>?_⟩
  ·obtain⟨a,g,r,c,d,b,j⟩:=hi f y q;obtain⟨C,D,E,F,z,B,A,J,L,K,t,x,u,p⟩:=ku.form j;exact⟨a,g,r,c,i a d (aA w _ (b 0 _ (by rw[p];rfl))),b,ku.m k j i⟩
  ·obtain⟨a,g,c,d,b⟩:=o f s h;exact⟨a,g,c,i a d (aA w _ b),b⟩
  ·obtain⟨a,g,c,d,b⟩:=n f s h;exact⟨a,g,c,i a d (aA w _ b),b⟩
def ku.parts{k:Nat}{d:wg}{V:GN (GT k)}(h:ku P (k+1) w d V):∃(b:Option wT) (f:Nat) (c:Option wT) (g:Nat) (a:Option wT) (e:Nat),d=qf V b f c g a e/\nD (ku P k) P w b V.items/\n8 P w c V.keys/\q8 P w a V.filters:=h
def nD.keep{k:Nat}{b:Option wT}{e:List (GT k)}(h:nD (ku P k) P w b e)(d:∀a,P a->a<w.heap.size->w'.heap[a]?=w.heap[a]?):nD (ku P k) P w' b e:=λm y l=>by
 obtain⟨a,o,q,f,c,g,j⟩:=h m y l;exact⟨a,o,q,f,c,λn p i=>by have:=g n p i;rw[World.cell?_of_block (w:=w) (d a c (aA w _ this))];exact this,ku.keep k j d⟩
def i9(a:List ByteArray)(b:Nat):Bool:=decide (G a=b)&&a.all i7&&decide a.Nodup
def jO(a:Int)(oq:Int):Bool:=(decide (oq=0)||decide (a.tmod 10≠0))&&decide (0<=oq/\oq<=5)&&decide (-999999999<=a/\a<=999999999)
def jP(f:Nat)(d:Nat)(c:List ByteArray)(b:List Int):Bool:=i9 c d&&decide (f<=20000)&&decide (G b<=4)&&(c.all λe=> !lj e)&&(b.all λa=>decide (1<=a/\a<=4))
def jT{α:Type}(a:GN α):Bool:=
 if a.kind=0\/a.kind=6\/a.kind=9 then CD
 else if a.kind=1 then decide (0<=a.n/\a.n<=1)
 else if a.kind=2 then decide (-2147483648<=a.n/\a.n<=2147483647)
 else if a.kind=3 then jO a.n a.places
 else if a.kind=4 then i7 a.text
 else if a.kind=5 then decide (a.text.size<=4000)
 else if a.kind=7 then i9 a.keys a.items.length
 else if a.kind=8 then jP a.text.size a.items.length a.keys a.filters
 else CS
def oe(a d e:Int)(f c k b:Nat):Bool:=
 (decide (a=1\/a=2\/a=9\/a=3)||decide (d=0))&&(decide (a=3)||decide (e=0))&&(decide (a=4\/a=5\/a=8)||decide (f=0)) &&
 (decide (a=6\/a=7\/a=8)||decide (c=0))&&(decide (a=7\/a=8)||decide (k=0))&&(decide (a=8)||decide (b=0))
def j5{α:Type}(V:GN α):Bool:=oe V.kind V.n V.places V.text.size V.items.length V.keys.length V.filters.length
def ie:(k:Nat)->GT k->Nat
 |0,_=>1
 |k+1,V=>1+((GN.items (α:=GT k) V).map (ie k)).sum
def mD{α:Type}(b a:Nat)(V:GN α):Bool:= !(decide (V.kind=8/\1<a)) && !(decide (V.kind=9/\¬(1<=V.n/\V.n<=(b:Int))))&&jT V
def jw(b:Nat):(k:Nat)->Nat->GT k->Bool
 |0,_,_=>CD
 |k+1,a,V=>decide (a<=12)&&(j5 (α:=GT k) V&&(mD (α:=GT k) b a V&&(GN.items (α:=GT k) V).all (jw b k (a+1))))
def ly:{k:Nat}->GT k->Int
 |0,_=>0
 |_+1,a=>GN.kind a
def jm{k:Nat}(Vs:List (GT k))(root:Int):Bool:=decide (1<=G Vs/\G Vs<=100)&&decide (1<=root/\root<=(G Vs:Int))&&decide ((Vs[(root-1).toNat]?).map ly=O 7)&&(Vs.all (jw (G Vs) k 1)&&decide ((Vs.map (ie k)).sum<=2000))
def Gb:∀(k:Nat) (a:GT k),1<=ie k a
 |0,_=>ag _
 |k+1,a=>by unfold ie;omega
def vP{k:Nat}:∀a:List (GT k),G a<=(a.map (ie k)).sum
 | []=>cO
 |b::a=>by have:=vP a;have:=Gb k b;simp only[bM,cT,ai];omega
end
section
variable{w b:vz}
def LL(a:ByteArray):i7 a=(decide (a.size<=60)&&decide (∀c,c<a.size->nth (bl a) c≠0)):=by
 unfold i7;congr 1;rw[cH];simp only[Bool.not_eq_true',bT,List.contains_eq_mem,du];have i:(0:UInt8)∈a.data.toList↔(0:Nat)∈bl a:=by
  unfold bl;rw[cE];constructor;·intro h;exact⟨0,h,rfl⟩
  ·rintro⟨f,h,d⟩;have:f=0:=UInt8.toNat_inj.1 (by rw[d];rfl);rw[<-this];exact h
 rw[i];constructor
 ·intro h c e d;apply h;rw[<-d,show nth (bl a) c=(bl a)[c]'(by rw[mC];exact e)by simp[nth,show c<(bl a).length by rw[mC];exact e]];exact cI _
 ·intro h g;obtain⟨c,e,d⟩:=cF g;refine h c (by rw[<-mC];exact e) ?_;rw[show nth (bl a) c=(bl a)[c]by simp[nth,e],d]
def LK(a:ByteArray)(t:a.size<=140737488355328)(w:vz):wh DG 119 #[y7 a] w λq b=>q=BX (Bs (i7 a))/\b=w:=by
 rw[LL]
 go_in
 go_wp2;go_loopw [3] (λi wr=>∃d:Nat,d<=a.size/\i=I U (d:Nat)/\wr=w/\wt (∀c,c<d->nth (bl a) c≠0)) (λi _=>a.size-(intOf i).toNat)
 case atStart=>exact⟨0,Y,rfl,rfl,λc l=>absurd l (Nat.not_lt_zero _)⟩
 case round=>
  obtain⟨d,r,rfl,rfl,j⟩:=hrel;rcases aC r with k|g
  ·have e:wt (decide (∀c,c<a.size->nth (bl a) c≠0)=CD):=by unfold Hid;rw[cL];rw[<-k];exact j
   have p:¬(d:Int)<a.size:=Y;have m:wt (decide ((a.size:Int)<=60)=decide (a.size<=60)):=by unfold Hid;rw[bO];omega
   clear k;go_wp2;go_ret;rw[e.o,Bool.and_true];exact⟨by rw[<-m.o];rfl,rfl⟩
  ·have p:(d:Int)<a.size:=Y;have v:=rT a d g;have u:=lJ a d g;cases f:((nth (bl a) d:Int)==0)with
   |true=>
    have e:wt (decide (∀c,c<a.size->nth (bl a) c≠0)=CS):=by unfold Hid;rw[du];intro h;exact h d g (by simp at f;omega)
    go_wp2;go_ret;rw[e.o,Bool.and_false];exact⟨rfl,rfl⟩
   |false=>
    have n:wt (∀c,c<d+1->nth (bl a) c≠0):=λc l=>by
     by_cases h:c<d;·exact j c h
     ·have:c=d:=Y;subst this;intro s;simp at f;exact f (by rw[s])
    go_wp2;go_roundw
    case rel=>exact⟨d+1,Y,rfl,trivial,n⟩
    case measure=>exact eT
def I0(c:List ByteArray)(d:Nat):Prop:=(∀a,a<d->i7 (c.getD a ⟨#[]⟩)=CD)/\∀a k,k<a->a<d->c.getD k ⟨#[]⟩≠c.getD a ⟨#[]⟩
def Dz{c:List ByteArray}{a:Nat}(h:a<G c):c.getD a ⟨#[]⟩=c[a]:=by rw[aL,af h];rfl
def Ji{c:List ByteArray}{a:Nat}(h:a<G c):c[a]?=O (c.getD a ⟨#[]⟩):=by rw[Dz h,af h]
def Qt{a:List ByteArray}{e:Nat}(h:I0 a (G a)):i9 a e=decide (G a=e):=by
 unfold i9;have f:a.all i7=CD:=by rw[bG];intro m k;obtain⟨d,c,rfl⟩:=cF k;have:=h.1 d c;rw[Dz c]at this;exact this
 have g:a.Nodup:=by rw[List.nodup_iff_pairwise_ne,List.pairwise_iff_getElem];intro l d i c j;have:=h.2 d l j c;rw[Dz i,Dz c]at this;simpa using this
 rw[f,aH g];simp
def Qs{a:List ByteArray}{f c:Nat}(d:c<G a)(h:i7 (a.getD c ⟨#[]⟩)=CS):i9 a f=CS:=by
 unfold i9;have e:a.all i7=CS:=by rw[List.all_eq_false];exact⟨a[c],cI d,by rw[Dz d]at h;simp[h]⟩
 rw[e];simp
def Qr{a:List ByteArray}{i c k:Nat}(d:c<G a)(f:k<c)(h:a.getD k ⟨#[]⟩=a.getD c ⟨#[]⟩):i9 a i=CS:=by
 unfold i9;have e:¬a.Nodup:=by rw[List.nodup_iff_pairwise_ne,List.pairwise_iff_getElem];intro g;have:=g k c Y d f;rw[Dz d,Dz (show k<G a by omega)]at h;exact this lT
 rw[av e];simp
def LJ{ka:Option wT}{kc t:Nat}{d:List ByteArray}{ao:Nat->Prop}(h:n8 ao w ka d)(hl:G d<=140737488355328)(hn:t<=140737488355328)(hs:∀a4∈d,a4.size<=140737488355328):wh DG 120 #[Z ka (G d) kc,I U (t:Nat)] w λr b=>r=BX (Bs (i9 d t))/\∃j,b=w.drewN j:=by
 obtain⟨q,E⟩:∃q,i9 d t=q:=⟨_,rfl⟩;rw[E];have A:=H E;obtain⟨e,L⟩:∃e,G d=e:=⟨_,rfl⟩;have g:=H L;rw[L]at hl ⊢;have T:=H h;have HS:=H hs;clear E L h hs
 go_in
 go_wp2;go_loopw [5] (λP wr=>∃a j:Nat,a<=e/\P=I U (a:Nat)/\wr=w.drewN j/\wt (I0 d a)) (λP _=>e-(intOf P).toNat)
 case atStart=>exact⟨0,0,Y,rfl,rfl,⟨λc f=>absurd f (Nat.not_lt_zero _),λc k v f=>absurd f (Nat.not_lt_zero _)⟩⟩
 case round=>
  obtain⟨a,j,hi,rfl,x,z⟩:=hrel;have B:=H x;rcases aC hi with X|s
  ·have a0:¬(a:Int)<(e:Int):=Y;have n:wt (q=((e:Int)==(t:Int))):=by unfold Hid;rw[<-A.o,Qt (by rw[g.o,<-X];exact z.o),g.o,cH,cL,beq_iff_eq];omega
   clear X x;go_wp2;go_ret;rw[n.o];exact⟨rfl,j,B⟩
  ·have a0:(a:Int)<(e:Int):=Y;obtain⟨W,aa,rfl,_,hc⟩:=T.o a (d.getD a ⟨#[]⟩) (Ji sg);have a2:wr.cell? ⟨W,aa+a,N⟩=O (y7 (d.getD a ⟨#[]⟩)):=by rw[x];exact hc
   have o:=H (LK (d.getD a ⟨#[]⟩) (HS _ (aQ (Ji sg))));obtain⟨l,F⟩:∃l,d.getD a ⟨#[]⟩=l:=⟨_,rfl⟩;rw[F]at a2 o;have p:=H F;clear hc F x;cases m:i7 l with
   |false=>
    rw[m]at o;have n:wt (q=CS):=by unfold Hid;rw[<-A.o];exact Qs sg (by rw[p.o];exact m)
    clear m;go_wp2_with fail;apply(o _).m;rintro r w1 ⟨rfl,i⟩;have i:=i.s;subst i;go_wp2;go_ret;rw[n.o];exact⟨rfl,j,B⟩
   |true=>
    rw[m]at o;have al:=H m;clear m;go_wp2_with fail;apply(o _).m;rintro r w1 ⟨rfl,i⟩;have i:=i.s;subst i;go_wp2_with fail;go_loopw [7] (λQ wx=>∃k y:Nat,k<=a/\Q=I U (k:Nat)/\wx=w.drewN y/\wt (∀c,c<k->d.getD c ⟨#[]⟩≠l)) (λQ _=>a-(intOf Q).toNat)
    case atStart=>exact⟨0,j,Y,rfl,B,λc f=>absurd f (Nat.not_lt_zero _)⟩
    case round=>
     obtain⟨k,y,v,rfl,M,S⟩:=hrel;have C:=H M;have R:wt (∀k,k<e->wr.cell? ⟨W,aa+k,N⟩=O (y7 (d.getD k ⟨#[]⟩))):=λk v=>by obtain⟨g',o',r,_,a1⟩:=T.o k (d.getD k ⟨#[]⟩) (Ji (by rw[g.o];exact v));cases r;rw[M];exact a1
     clear M;rcases aC v with K|K
     ·have d2:¬(k:Int)<(a:Int):=Y;have ac:wt (I0 d (a+1)):=by
       refine⟨λc f=>?_,λc k2 a3 f=>?_⟩
       ·by_cases h:c<a;·exact z.1 c h
        ·have:c=a:=Y;rw[this,p.o];exact al
       ·by_cases h:c<a;·exact z.2 c k2 a3 h
        ·have:c=a:=Y;subst this;rw[p.o];exact S k2 Y
      clear K;go_wp2;go_roundw
      case rel=>exact⟨a+1,y,Y,rfl,C,ac⟩
      case measure=>exact eT
     ·have d2:(k:Int)<(a:Int):=Y;have d3:(k:Int)<(e:Int):=Y;have q1:=R.o k Y;have q2:=R.o a s;rw[p.o]at q2;obtain⟨D,J⟩:∃D,d.getD k ⟨#[]⟩=D:=⟨_,rfl⟩;rw[J]at q1;have V:=H J;clear J;cases u:(D.toList==l.toList)with
      |true=>
       have n:wt (q=CS):=by unfold Hid;rw[<-A.o];refine Qr sg K ?_;rw[V.o,p.o];rw[tQ]at u;simpa using u
       go_wp2_with fail;go_quiet (fail);go_wp2;go_ret;rw[n.o];exact⟨rfl,_,by rw[C.o,World.drewN_drewN]⟩
      |false=>
       have ad:wt (∀c,c<k+1->d.getD c ⟨#[]⟩≠l):=λc f=>by
        by_cases h:c<k;·exact S c h
        ·have:c=k:=Y;subst this;rw[V.o];rw[tQ]at u;simpa using u
       go_wp2_with fail;go_quiet (fail);go_wp2;go_roundw
       case rel=>exact⟨k+1,y+nq,Y,rfl,by rw[C.o,World.drewN_drewN],ad⟩
       case measure=>exact eT
end
