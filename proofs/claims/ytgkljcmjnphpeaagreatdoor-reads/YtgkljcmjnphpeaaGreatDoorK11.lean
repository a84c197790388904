import Derived.Test.YtgkljcmjnphpeaaGreatDoorK10
set_option linter.defProp false
set_option linter.unusedVariables false
set_option linter.unusedSimpArgs false
set_option maxHeartbeats 4000000
set_option maxRecDepth 100000
open List renaming length->G
open Go renaming World->Gr,Calls->K8,Ending->MB
open Go.Value renaming int->I,pointer->M2,string->MV,bool->OV,tuple->OW
open Go.RowKit renaming Hid->L1
open Option renaming none->N,some->O
open Bool renaming false->P2,true->PV
open Or renaming inl->P3,inr->P4
open Go.Ending renaming returned->Ps
open Go.Proofs.Tryz renaming prog->Qe
open List renaming replicate->Qf
open Go.IntKind renaming i64->U
open Go.Proofs.Tryz
namespace Go.Proofs.YtgkljcmjnphpeaaGreatDoor
open Go.RowKit
section
variable{a:Nat}{S:ByteArray}{w w':Gr}{p:Nat}{s:Option (List Nat)}
def jP(a:Nat)(S:ByteArray)(w w':Gr)(s:Option (List Nat)):Prop:=(∃b,Sn a S w' b s)/\gB a w w'
def jP.t{b c:Gr}{t:Option (List Nat)}(h:jP a S w b s)(k:jP a S b c t):jP a S w c t:=⟨k.1,h.2.t k.2⟩
def jP.drewN(h:jP a S w w' s)(n:Nat):jP a S w (w'.drewN n) s:=by obtain⟨⟨q,h⟩,b⟩:=h;exact⟨⟨q,h.drewN n⟩,b.drewN n⟩
def Sn.toS(h:Sn a S w p s):jP a S w w s:=⟨⟨p,h⟩,gB.refl _ _⟩
def vK(h:Sn a S w p s):K8 Qe 168 #[M2 (O ⟨a,0,N⟩)] w λd w'=>d=Ps (OW #[])/\Sn a S w' (min (p+1) S.size) (s.map List.tail)/\gB a w w':=by
 have i:=h.c0;have j:=h.c1;have k:=h.fz 1;have n:=h.ls;have m:=h.lp;by_cases l:p<S.size
 ·have g:(p:Int)<S.size:=Y;have c:L1 (∀e,Sn a S ((w.drewN e).setCell ⟨a,1,N⟩ (I U (p+1:Nat))) (min (p+1) S.size) (s.map List.tail)):=λe=>by
   rw[show min (p+1) S.size=p+1 by omega];refine(h.drewN e).at_ (p+1) Y (by cases s<;>rfl) (λr b=>?_);cases s with
   |none=>cases b
   |some f=>simp only[aZ,Option.some.injEq]at b;rw[<-b,<-h.rest f rfl,List.tail_drop]
  clear h
  go_in
  go_wp2_with fail;go_quiet (fail);go_wp2
  go_end0
  exact⟨rfl,c nq,((gB.refl _ _).drewN nq).setCell _ _⟩
 ·have g:¬(p:Int)<S.size:=Y;have d:p=S.size:=Y;have c:L1 (Sn a S w (min (p+1) S.size) (s.map List.tail)):=by
   unfold Hid;rw[show min (p+1) S.size=p by omega];refine⟨by rw[h.blk,show(s.map List.tail).isNone=s.isNone by cases s<;>rfl],h.lp,h.ls,λr b=>?_⟩;cases s with
   |none=>cases b
   |some f=>simp only[aZ,Option.some.injEq]at b;have:=h.rest f rfl;rw[bS (by rw[mK];omega)]at this ⊢;rw[<-b,<-this];rfl
  clear h d
  go_in
  go_wp2_with fail;go_quiet (fail);go_wp2
  go_end0
  exact⟨rfl,c.drewN nq,(gB.refl _ _).drewN nq⟩
def qW(h:Sn a S w p s):K8 Qe 127 #[M2 (O ⟨a,0,N⟩)] w λc w'=>c=Ps (OW #[])/\Sn a S w' p N/\gB a w w':=by
 have e:=h.fz 2;have d:=h.c2;have b:=H h.bad;clear h
 go_in
 go_wp2
 go_end0
 exact⟨rfl,b,(gB.refl _ _).setCell _ _⟩
def cS(c:List Nat)(s:Option (List Nat)):Option (List Nat):=match s.bind (f_ c)with
 |some b=>O b
 |none=>s
def qT(b:List Nat)(s:Option (List Nat)):Bool:=(s.bind (f_ b)).isSome
def zo{S b:ByteArray}{p:Nat}(h:p+b.size<=S.size):decide (S.extract p (p+b.size)=b)=(bl b).isPrefixOf ((bl S).drop p):=by
 rw[Br,cJ,mK,<-bp S p b.size h];constructor
 ·intro c;refine⟨?_,by rw[c]⟩;rw[au,mK];omega
 ·rintro⟨_,c⟩;rw[<-uN (S.extract p (p+b.size)),c,uN]
def wT(h:Sn a S w p s)(t:ByteArray)(C:t.size<=1000000):K8 Qe 166 #[M2 (O ⟨a,0,N⟩),MV t] w λm w'=>m=Ps (OV (qT (bl t) s))/\jP a S w w' (cS (bl t) s):=by
 have u:=h.c0;have v:=h.c1;have g:=h.c2;have x:=h.fz 1;have E:=h.ls;have D:=h.lp;have e:=H h;cases s with
 |none=>
  simp only[Option.isNone_none]at g;clear h
  go_in
  go_wp2_with fail;go_quiet (fail);go_wp2;go_ret;exact⟨rfl,⟨⟨p,e.drewN nq⟩,(gB.refl _ _).drewN nq⟩⟩
 |some r=>
  simp only[Option.isNone_some]at g;have n:IntKind.i64.wrap ((p:Int)+(t.size:Int))=((p+t.size:Nat):Int):=by rw[aU];omega
  by_cases i:p+t.size<=S.size
  ·have l:decide ((S.size:Int)<(p:Int)+(t.size:Int))=P2:=eB;have d:=H (zo i);have j:=h.rest r rfl;rw[j]at d;have y:(0:Int)<=(p:Int)+(t.size:Int):=Y;have z:(p:Int)+(t.size:Int)<=(S.size:Int):=Y;have B:(p:Int)<=(p:Int)+(t.size:Int):=Y;have A:((p:Int)+(t.size:Int)).toNat=p+t.size:=Y;clear h j n;cases b:(bl t).isPrefixOf r with
   |false=>
    have c:L1 (qT (bl t) (O r)=P2/\cS (bl t) (O r)=O r):=by unfold Hid qT cS;simp[takes_none b]
    rw[b]at d;have e2:((S.extract p (p+t.size)).toList==t.toList)=P2:=by rw[ng];exact d
    clear b d
    go_in
    go_wp2_with fail;go_quiet (fail);go_wp2;go_ret;rw[c.o.1,c.o.2];exact⟨rfl,⟨⟨p,e.drewN nq⟩,(gB.refl _ _).drewN nq⟩⟩
   |true=>
    have c:L1 (qT (bl t) (O r)=PV/\cS (bl t) (O r)=O (r.drop (bl t).length)):=by unfold Hid qT cS;simp[takes_some b]
    rw[b]at d;have k:L1 (∀f,Sn a S ((w.drewN f).setCell ⟨a,1,N⟩ (I U ((p:Int)+(t.size:Int)))) (p+t.size) (O (r.drop (bl t).length))):=λf=>
     by rw[<-Int.natCast_add];exact(e.drewN f).at_ _ i rfl (λq b=>by have:=e.o.rest r rfl;cases b;rw[<-this,di,mK])
    have e2:((S.extract p (p+t.size)).toList==t.toList)=PV:=by rw[ng];exact d
    clear b d
    go_in
    go_wp2_with fail;go_quiet (fail);go_wp2;go_ret;rw[c.o.1,c.o.2];exact⟨rfl,⟨⟨_,k nq⟩,((gB.refl _ _).drewN nq).setCell _ _⟩⟩
  ·have l:decide ((S.size:Int)<(p:Int)+(t.size:Int))=PV:=eB;have c:L1 (qT (bl t) (O r)=P2/\cS (bl t) (O r)=O r):=by
    have b:(bl t).isPrefixOf r=P2:=by rw[Br,bk,mK,h.len];omega
    unfold Hid qT cS;simp[takes_none b]
   clear h
   go_in
   go_wp2_with fail;go_quiet (fail);go_wp2;go_ret;rw[c.o.1,c.o.2];exact⟨rfl,⟨⟨p,e.drewN nq⟩,(gB.refl _ _).drewN nq⟩⟩
def Ba{t:List Nat}{q:List Nat}(h:s.bind (f_ t)=O q):qT t s=PV/\cS t s=O q:=by unfold qT cS;rw[h];exact⟨rfl,rfl⟩
def xK{t:List Nat}(h:s.bind (f_ t)=N):qT t s=P2/\cS t s=s:=by unfold qT cS;rw[h];exact⟨rfl,rfl⟩
def xP(h:Sn a S w p s)(b:ByteArray)(g:b.size<=1000000):K8 Qe 122 #[M2 (O ⟨a,0,N⟩),MV b] w λd w'=>d=Ps (OW #[])/\jP a S w w' (s.bind (f_ (bl b))):=by
 have c:=H (wT h b g);clear h;cases e:s.bind (f_ (bl b))with
 |some l=>
  rw[(Ba e).1,(Ba e).2]at c
  go_in
  go_wp2_with fail;apply c.o.m;rintro d k ⟨rfl,h1⟩;go_wp2
  go_end0
  exact⟨rfl,h1⟩
 |none=>
  rw[(xK e).1,(xK e).2]at c
  go_in
  go_wp2_with fail;apply c.o.m;rintro d k ⟨rfl,⟨m,h1⟩,i⟩;have f:=H (qW h1);clear h1;go_wp2_with fail;apply f.o.m;rintro d n ⟨rfl,h2,j⟩;go_wp2
  go_end0
  exact⟨rfl,⟨_,h2⟩,i.t j⟩
def lK(s:Option (List Nat)):Option (List Nat):=s.map λr=>(gJ r).getD r
def l7(s:Option (List Nat)):Bool:=(s.bind gJ).isSome
def uR{c b:Nat}{r:List Nat}:f_ [c] (b::r)=if b=c then O r else N:=by
 unfold f_;by_cases h:b=c;·subst h;simp
 ·simp[List.isPrefixOf,h];exact λd=>h d.s
def Mk(s:Option (List Nat)):cS [10] (cS [13] s)=lK s/\(qT [13] s||qT [10] (cS [13] s))=l7 s:=by
 match s with
 |none=>exact⟨rfl,rfl⟩
 |some []=>exact⟨rfl,rfl⟩
 |some [b]=>
  unfold lK l7 cS qT gJ;simp only[Option.bind_some,aZ,uR];by_cases h:b=13;·subst h;exact⟨rfl,rfl⟩
  ·by_cases h2:b=10;·subst h2;exact⟨rfl,rfl⟩
   ·simp[h,h2,f_,List.isPrefixOf];exact⟨by rw[ah (λd=>h2 d.s)],λd=>h2 d.s⟩
 |some (b::c::r)=>
  unfold lK l7 cS qT gJ;have e:f_ [13,10] (b::c::r)=if b=13/\c=10 then O r else N:=by
   unfold f_;by_cases h1:b=13
   ·by_cases h2:c=10;·subst h1 h2;simp
    ·simp[List.isPrefixOf,h1,h2];exact λd=>h2 d.s
   ·simp[List.isPrefixOf,h1];exact λd=>absurd d.s h1
  simp only[Option.bind_some,aZ,uR,e];by_cases h:b=13
  ·subst h;by_cases h2:c=10;·subst h2;simp[uR]
   ·simp[h2,uR]
  ·by_cases h2:b=10;·subst h2;simp[uR]
   ·simp[h,h2,uR]
def Ep(h:Sn a S w p s):K8 Qe 173 #[M2 (O ⟨a,0,N⟩)] w λe w'=>e=Ps (OV (l7 s))/\jP a S w w' (lK s):=by
 have b:=H (wT h {data:=#[13]} cO);have d:=H (Mk s);clear h;rw[show bl {data:=#[13]}=[13]from rfl]at b
 go_in
 go_wp2_with fail;apply b.o.m;rintro e l ⟨rfl,⟨k,h1⟩,j⟩;have c:=H (wT h1 {data:=#[10]} cO);rw[show bl {data:=#[10]}=[10]from rfl]at c;clear h1 b;go_wp2_with fail;apply c.o.m;rintro e m ⟨rfl,h2⟩;rw[d.o.1]at h2;have i:=H d.2;generalize qT [10] (cS [13] s)=g at *;generalize qT [13] s=f at *;clear d c;cases f<;>cases g;all_goals (
  go_wp2;go_ret;exact⟨by rw[<-i.o];rfl,⟨h2.1,j.t h2.2⟩⟩)
def Sn.posOf(h:Sn a S w p s):posOf a w=p:=by unfold Go.Proofs.YtgkljcmjnphpeaaGreatDoor.posOf;rw[h.c1];simp[intOf]
def MU{g:List Nat}(h:Sn a S w p (O g)):K8 Qe 123 #[M2 (O ⟨a,0,N⟩)] w λe w'=>e=Ps (OW #[])/\jP a S w w' (O (f9 g)):=by
 have R:=H h
 go_in
 go_wp2;go_loopw [2] (λV wr=>∃(b:Bool) (M:Nat) (r:List Nat),V=OV b/\L1 (Sn a S wr M (O r))/\L1 (je b r=f9 g)/\L1 (gB a w wr)) (λ_ wr=>S.size-posOf a wr)
 case atStart=>exact⟨P2,p,g,rfl,R,rfl,gB.refl _ _⟩
 case round=>
  obtain⟨b,M,r,rfl,d,B,l⟩:=hrel;have D:=H (uk d);have A:=H d.posOf;cases r with
  |nil=>
   have z:L1 ([]=f9 g):=by unfold Hid;rw[<-B.o];cases b<;>rfl
   go_wp2_with fail;apply D.o.m;rintro e P ⟨rfl,f,rfl⟩;simp only[jO];go_wp2
   go_end0
   refine⟨rfl,?_⟩;rw[<-z.o];exact⟨⟨_,d.drewN f⟩,l.drewN f⟩
  |cons c r=>
   have hc:=d.o.bytes c eA;have i:=λT=>EH c T;go_wp2_with fail;apply D.o.m;rintro e P ⟨rfl,L,rfl⟩;simp only[jO];have E:=H (uk (d.drewN L));simp only[jO]at E;have cw:IntKind.u8.wrap (c:Int)=(c:Int):=by rw[cE];omega
   go_wp2_with fail;apply E.o.m;rintro e P ⟨rfl,W,rfl⟩;rw[World.drewN_drewN];generalize L+W=f;cases b with
   |true=>
    have n:L1 (∀u:Bool,(u=PV↔(c:Int)≠10/\(c:Int)≠13)->je u r=f9 g):=λu K=>by
     rw[<-B.o];simp only[je];by_cases F:c=10\/c=13
     ·rw[ai F];cases u;·rfl
      ·have:=K.1 rfl;omega
     ·rw[ah F];cases u;·have:=K.2 Y;cases this
      ·rfl
    go_wp2_with (go_at_call 150;apply(i _).m;rintro e C ⟨rfl,rfl⟩);all_goals (
     have q:=H (vK (d.drewN f));apply q.o.m;rintro e Q ⟨rfl,h2,v⟩;have k:=H h2.posOf;have m:=H d.cons.1;have j:=H h2;have t:=H ((l.drewN f).t v);go_wp2;go_roundw
     case rel=>exact⟨_,_,_,rfl,j,n _ (by simp[*]),t⟩
     case measure=>have:=m.o;rw[k.o,A.o];omega)
   |false=>
    have x:=H B;simp only[je]at x;cases J:((c:Int)==37)with
    |true=>
     have n:L1 (je PV r=f9 g):=by
      have h:c=37:=by simp at J;omega
      unfold Hid;rw[<-x.o,ah (by rw[h];decide),ai h]
     go_wp2_with (go_at_call 150;apply(i _).m;rintro e C ⟨rfl,rfl⟩);have q:=H (vK (d.drewN f));apply q.o.m;rintro e Q ⟨rfl,h2,v⟩;have k:=H h2.posOf;have m:=H d.cons.1;have j:=H h2;have t:=H ((l.drewN f).t v);go_wp2;go_roundw
     case rel=>exact⟨_,_,_,rfl,j,n,t⟩
     case measure=>have:=m.o;rw[k.o,A.o];omega
    |false=>
     have X:¬c=37:=by simp at J;omega
     cases y:mf c with
     |true=>
      have n:L1 (je P2 r=f9 g):=by unfold Hid;rw[<-x.o,ai y]
      rw[y]at i;go_wp2_with (go_at_call 150;apply(i _).m;rintro e C ⟨rfl,rfl⟩);have q:=H (vK (d.drewN f));apply q.o.m;rintro e Q ⟨rfl,h2,v⟩;have k:=H h2.posOf;have m:=H d.cons.1;have j:=H h2;have t:=H ((l.drewN f).t v);go_wp2;go_roundw
      case rel=>exact⟨_,_,_,rfl,j,n,t⟩
      case measure=>have:=m.o;rw[k.o,A.o];omega
     |false=>
      have z:L1 (c::r=f9 g):=by unfold Hid;rw[<-x.o,ah (by rw[y];decide),ah X]
      rw[y]at i;go_wp2_with (go_at_call 150;apply(i _).m;rintro e C ⟨rfl,rfl⟩)
      (try simp only[Exit.inBlock,Exit.then]);refine av (results_none rfl _ _ _) rfl ?_
      refine⟨rfl,?_⟩;rw[<-z.o];exact⟨⟨_,d.drewN f⟩,l.drewN f⟩
def uF(h:Sn a S w p s):K8 Qe 123 #[M2 (O ⟨a,0,N⟩)] w λb w'=>b=Ps (OW #[])/\jP a S w w' (s.map f9):=by
 cases s with
 |some r=>exact MU h
 |none=>
  have e:=H (uk h);have d:=H h
  go_in
  go_wp2;go_loopw [2] (λ_ wr=>wr=w) (λ_ wr=>0)
  case atStart=>rfl
  case round=>
   subst hrel;go_wp2_with fail;apply e.o.m;rintro b f ⟨rfl,c,rfl⟩;simp only[jO];go_wp2
   go_end0
   exact⟨rfl,⟨⟨_,d.drewN c⟩,(gB.refl _ _).drewN c⟩⟩
def N9(c:Nat)(w:Gr):K8 Qe 129 #[I .u8 c] w λm w'=>m=Ps (OV (n9 c))/\w'=w:=by
 have r:L1 (∀b:Nat,b<10->nth (bl {data:=#[40,41,60,62,91,93,123,125,47,37]}) b=c->n9 c=PV):=λb g j=>by subst j;have:∀b:Nat,b<10->n9 (nth (bl {data:=#[40,41,60,62,91,93,123,125,47,37]}) b)=PV:=cO;exact this b g
 have q:L1 ((∀b:Nat,b<10->nth (bl {data:=#[40,41,60,62,91,93,123,125,47,37]}) b≠c)->n9 c=P2):=λh=>by have t:=h 0 Y;have h1:=h 1 Y;have h2:=h 2 Y;have h3:=h 3 Y;have v:=h 4 Y;have x:=h 5 Y;have y:=h 6 Y;have z:=h 7 Y;have A:=h 8 Y;have B:=h 9 Y;have j:bl {data:=#[40,41,60,62,91,93,123,125,47,37]}=[40,41,60,62,91,93,123,125,47,37]:=rfl;rw[j]at t h1 h2 h3 v x y z A B;simp[nth]at t h1 h2 h3 v x y z A B;simp[n9];omega
 obtain⟨e,f⟩:∃e:ByteArray,e={data:=#[40,41,60,62,91,93,123,125,47,37]}:=⟨_,rfl⟩;rw[<-f]at r q;have L:e.size=10:=by rw[f];rfl
 go_in
 rw[<-f];clear f;go_wp2;go_loopw [3] (λl wr=>∃d:Nat,d<=10/\l=I U (d:Nat)/\wr=w/\L1 (∀b,b<d->nth (bl e) b≠c)) (λl _=>10-(intOf l).toNat)
 case atStart=>exact⟨0,Y,rfl,rfl,λb g=>absurd g (Nat.not_lt_zero _)⟩
 case round=>
  obtain⟨d,E,rfl,rfl,n⟩:=hrel;rcases aV E with u|F
  ·have i:=H (q (by rw[<-u];exact n));have D:decide ((d:Int)<10)=P2:=eB;clear u;go_wp2;go_ret;rw[i.o];exact⟨rfl,rfl⟩
  ·have D:decide ((d:Int)<10)=PV:=eB;have M:=s8 e d Y;have J:=lN e d Y;have K:(d:Int)<e.size:=Y;cases k:((nth (bl e) d:Int)==(c:Int))with
   |true=>have i:=H (r d F (by simp at k;omega));go_wp2;go_ret;rw[i.o];exact⟨rfl,rfl⟩
   |false=>
    have C:L1 (∀b,b<d+1->nth (bl e) b≠c):=λb g=>by
     by_cases h:b<d;·exact n b h
     ·have:b=d:=Y;subst this;intro m;simp at k;exact k (by rw[m])
    go_wp2;go_roundw
    case rel=>exact⟨d+1,Y,rfl,trivial,C⟩
    case measure=>simp[intOf];omega
def pS:Option (List Nat)->Bool
 |some (b::_)=>pB b
 |_=>P2
def Bp(h:Sn a S w p s):K8 Qe 169 #[M2 (O ⟨a,0,N⟩)] w λi w'=>i=Ps (OV (pS s))/\∃c,w'=w.drewN c:=by
 have j:=H (uk h);have x:=h.c0;have y:=h.c1;match s,h with
 |none,h=>
  go_in
  go_wp2_with fail;apply j.o.m;rintro i n ⟨rfl,c,rfl⟩;simp only[jO];go_wp2;go_ret;exact⟨rfl,c,rfl⟩
 |some [],h=>
  go_in
  go_wp2_with fail;apply j.o.m;rintro i n ⟨rfl,c,rfl⟩;simp only[jO];go_wp2;go_ret;exact⟨rfl,c,rfl⟩
 |some (b::r),h=>
  obtain⟨m,z⟩:=h.cons;have E:=s8 S p m;have A:=lN S p m;rw[z]at E A;have F:(p:Int)<S.size:=Y
  go_in
  go_wp2_with fail;apply j.o.m;rintro i n ⟨rfl,c,rfl⟩;simp only[jO];have t0:decide ((b:Int)<0)=P2:=eA;have f:(w.drewN c).cell? ⟨a,0,N⟩=O (MV S):=x;have g:(w.drewN c).cell? ⟨a,1,N⟩=O (I U p):=y;obtain⟨e,d⟩:∃e,w.drewN c=e:=⟨_,rfl⟩;rw[d]at f g;rw[d];have q:=H d;go_wp2_with fail;have C:L1 (pS (O (b::r))=(!mf b && !n9 b)):=rfl;have D:=λk=>EH b k;have B:=λk=>N9 b k;generalize mf b=v at *;generalize n9 b=u at *;go_quiet ((go_at_call 150;exact bj (D _)));have f:(e.drewN nq).cell? ⟨a,0,N⟩=O (MV S):=f;have g:(e.drewN nq).cell? ⟨a,1,N⟩=O (I U p):=g;obtain⟨l,d⟩:∃l,e.drewN nq=l:=⟨_,rfl⟩;rw[d]at f g;rw[d];have t:=H d;go_wp2_with fail;go_quiet ((go_at_call 129;exact bj (B _)));cases v<;>cases u;all_goals (
   go_wp2;go_ret;refine⟨?_,_,by rw[<-t.o,<-q.o,World.drewN_drewN,World.drewN_drewN]⟩;rw[C.o];rfl)
end
section
variable{w d:Gr}
def oO(l:List Nat)(n:Int)(b:Bool):Prop:=(b=PV↔l.all gH=PV/\1<=G l/\G l<=10)/\(b=PV->n=(iO l:Nat)) /\ -9223372036854775808<=n/\n<=9223372036854775807
def En(a:List Nat)(b:Nat):iO (a++[b])=10*iO a+(b-48):=by unfold iO;rw[List.foldl_append];rfl
def DL{l:List Nat}{k:Nat}(h:k<G l):l.take (k+1)=l.take k++[nth l k]:=by rw[du,show nth l k=l[k]by simp[nth,h]];simp[h]
def Jk:∀(a:List Nat) (c:Nat),(∀e∈a,e<58)->a.foldl (λg b=>10*g+(b-48)) c<(c+1)*10^(G a)
 | [],c,_=>eA
 |b::a,c,h=>by have h1:=Jk a (10*c+(b-48)) (λe f=>h e (by simp[f]));have h2:=h b eA;have h3:(10*c+(b-48)+1)*10^(G a)<=((c+1)*10)*10^(G a):=dB _ Y;rw[eJ,aj,cY,dD (10^(G a)) 10,<-dR];omega
def Em(a:List Nat)(k:Nat)(b:G a<=k)(h:∀c∈a,c<58):iO a<10^k:=by have h1:=Jk a 0 h;have h2:10^(G a)<=10^k:=aJ Y b;unfold iO;omega
def tY(l:List Nat)(w:Gr)(c:MB)(d:Gr):Prop:=(∃a b,c=Ps (OW #[I U a,OV b])/\oO l a b)/\d=w
def tY.mk{l:List Nat}{n:Int}{b:Bool}(h:oO l n b):tY l w (Ps (OW #[I U n,OV b])) w:=⟨⟨n,b,rfl,h⟩,rfl⟩
def oO.no{l:List Nat}{a:Int}(h:¬(l.all gH=PV/\1<=G l/\G l<=10))(h1 : -9223372036854775808<=a)(h2:a<=9223372036854775807):oO l a P2:=⟨⟨λh=>by simp at h,λb=>absurd b h⟩,λh=>by simp at h,h1,h2⟩
def oO.yes{l:List Nat}{a:Int}(h:l.all gH=PV/\1<=G l/\G l<=10)(b:a=(iO l:Nat))(h1 : -9223372036854775808<=a)(h2:a<=9223372036854775807):oO l a PV:=⟨⟨λ_=>h,λ_=>rfl⟩,λ_=>b,h1,h2⟩
def Gk(a:ByteArray)(M:a.size<=300000):K8 Qe 317 #[MV a] w (tY (bl a) w):=by
 have m:=mK a
 go_in
 go_wp2;go_loopw [4,5] (λK s wr=>∃(g:Int) (b:Nat),K=I U g/\s=I U (b:Nat)/\b<=a.size /\ -9223372036854775808<=g/\g<=9223372036854775807/\wr=w/\L1 (∀e∈(bl a).take b,gH e=PV)/\L1 (b<=10->g=(iO ((bl a).take b):Nat))) (λ_ s _=>a.size-(intOf s).toNat)
 case atStart=>exact⟨0,0,rfl,rfl,Y,Y,Y,rfl,λe f=>by simp at f,λ_=>rfl⟩
 case round=>
  obtain⟨g,b,rfl,rfl,F,q,r,rfl,j,n⟩:=hrel;rcases aV F with E|p
  ·have p:¬(b:Int)<a.size:=Y;have C:L1 ((bl a).take b=bl a):=by unfold Hid;rw[bD Y]
   rw[C.o]at j n;have y:L1 ((bl a).all gH=PV):=by unfold Hid;rw[cN];exact j
   have i:=H m;clear E m;by_cases h1:1<=a.size
   ·have t1:decide ((1:Int)<=(a.size:Int))=PV:=eB;by_cases h2:a.size<=10
    ·have t:decide ((a.size:Int)<=10)=PV:=eB;go_wp2
     go_ret2
     exact tY.mk (.yes ⟨y,by rw[i.o];omega,by rw[i.o];omega⟩ (n Y) q r)
    ·have t:decide ((a.size:Int)<=10)=P2:=eB;go_wp2
     go_ret2
     exact tY.mk (.no (λh=>by have:=h.2.2;rw[i.o]at this;omega) q r)
   ·have t1:decide ((1:Int)<=(a.size:Int))=P2:=eB;go_wp2
    go_ret2
    exact tY.mk (.no (λh=>by have:=h.2.1;rw[i.o]at this;omega) q r)
  ·have R:(b:Int)<a.size:=Y;have f:=s8 a b p;have P:=lN a b p;have v:=H (DL (l:=bl a) (k:=b) Y);have A:L1 (nth (bl a) b∈bl a):=by unfold Hid;rw[show nth (bl a) b=(bl a)[b]'Y by simp[nth,show b<(bl a).length by omega]];exact cq _
   have i:=H m;generalize nth (bl a) b=c at *;clear m;by_cases D:48<=c/\c<=57
   ·have t1:decide ((c:Int)<48)=P2:=eB;have t:decide ((57:Int)<(c:Int))=P2:=eB;have S:IntKind.u8.wrap ((c:Int)-48)=(c:Int)-48:=by rw[cE];omega
    have z:L1 (∀e∈(bl a).take (b+1),gH e=PV):=by
     unfold Hid;rw[v.o];intro e f;rcases bG.1 f with h|h;·exact j e h
     ·rw[cU]at h;subst h;simp[gH];omega
    have B:L1 (b+1<=10->wrap64 (wrap64 (10*g)+((c:Int)-48))=(iO ((bl a).take (b+1)):Nat)):=λh=>by have J:=n.o Y;have Q:=Em ((bl a).take b) 9 pt (λe f=>by have:=j.o e f;simp[gH]at this;omega);rw[v.o,En,J];simp only[wrap64];omega
    have x:L1 (∀e:Int,-9223372036854775808<=wrap64 e/\wrap64 e<=9223372036854775807):=λe=>by simp only[wrap64];omega
    clear D;go_wp2;go_roundw
    case rel=>exact⟨_,b+1,rfl,rfl,Y,(x _).1,(x _).2,trivial,z,B⟩
    case measure=>simp[intOf];omega
   ·have u:L1 (¬(bl a).all gH=PV):=λh=>by rw[cN]at h;have:=h c A;simp[gH]at this;omega
    by_cases L:c<48
    ·have t1:decide ((c:Int)<48)=PV:=eB;go_wp2
     go_ret2
     exact tY.mk (.no (λh=>absurd h.1 u) Y Y)
    ·have t1:decide ((c:Int)<48)=P2:=eB;have t:decide ((57:Int)<(c:Int))=PV:=eB;go_wp2
     go_ret2
     exact tY.mk (.no (λh=>absurd h.1 u) Y Y)
def pP(l:List Nat)(w:Gr)(a:MB)(d:Gr):Prop:=(∃n b,a=Ps (OW #[I U n,OV b])/\kj l n b)/\d=w
def pP.mk{l:List Nat}{n:Int}{b:Bool}(h:kj l n b):pP l w (Ps (OW #[I U n,OV b])) w:=⟨⟨n,b,rfl,h⟩,rfl⟩
def oO.whole{l:List Nat}{n:Int}{b:Bool}(h:oO (fZ l).2 n b):kj l (if(fZ l).1=[45]then wrap64 (-n)else n) b:=by
 obtain⟨h1,h2,h3,q⟩:=h;unfold kj kE kU;by_cases a:b=PV
 ·obtain⟨e,g,j⟩:=h1.1 a;have k:=h2 a;have r:=Em (fZ l).2 10 j (λp o=>by rw[cN]at e;have:=e p o;simp[gH]at this;omega)
  rw[ai ⟨g,j⟩,ai ⟨λm=>by rw[m]at g;simp at g,e⟩];refine⟨?_,a⟩;split;·rw[k];simp only[wrap64];omega
  ·exact k
 ·have i:b=P2:=by simpa using a
  by_cases f:1<=(fZ l).2.length/\(fZ l).2.length<=10
  ·rw[ai f,ah (λc=>a (h1.2 ⟨c.2,f⟩))];exact i
  ·rw[ah f];exact i
def Oa(a:ByteArray)(B:a.size<=200001):K8 Qe 283 #[MV a] w (pP (bl a) w):=by
 have j:=mK a;cases e:bl a with
 |nil=>
  have p:a.size=0:=by rw[<-j,e];rfl
  have h:=H (Gk (w:=w) a Y);rw[e]at h;have e0:a.toList=[]:=by rw[de];have h2:(a.data.toList.map UInt8.toNat)=[]:=e;exact List.map_eq_nil_iff.1 h2
  clear j e
  go_in
  go_wp2_with fail;apply h.o.m;rintro n s ⟨⟨f,b,rfl,g⟩,rfl⟩;go_wp2
  go_ret2
  exact pP.mk (oO.whole (l:=[]) g)
 |cons b k=>
  have p:0<a.size:=by rw[<-j,e];simp
  have y:=s8 a 0 p;have v:=lN a 0 p;have t:nth (bl a) 0=b:=by rw[e];rfl
  rw[t]at y v;have e0:(a.toList==[])=P2:=by
   rw[de];cases x:a.data.toList with
   |nil=>
    have:a.size=0:=by rw[<-j];unfold bl;rw[x];rfl
    omega
   |cons C l=>rfl
  have u:bl (a.extract 1 a.size)=k:=by rw[E8,e];rfl
  have h:=H (Gk (w:=w) a Y);have m:=H (Gk (w:=w) (a.extract 1 a.size) (by rw[ByteArray.size_extract];omega));rw[e]at h;rw[u]at m;have A:(1:Int)<=a.size:=Y;clear j e t u;by_cases r:b=45
  ·have t1:((b:Int)==45)=PV:=eB
   go_in
   go_wp2_with fail;apply m.o.m;rintro n s ⟨⟨f,i,rfl,g⟩,rfl⟩;go_wp2
   go_ret2
   have:=oO.whole (l:=b::k) (n:=f) (b:=i) (by simp only[fZ,ai (P4 r:b=43\/b=45)];exact g);simp only[fZ,ai (P4 r:b=43\/b=45)]at this;rw[ai (by rw[r])]at this;exact pP.mk this
  ·have t1:((b:Int)==45)=P2:=eB;by_cases q:b=43
   ·have z:((b:Int)==43)=PV:=eB
    go_in
    go_wp2_with fail;apply m.o.m;rintro n s ⟨⟨f,i,rfl,g⟩,rfl⟩;go_wp2
    go_ret2
    have:=oO.whole (l:=b::k) (n:=f) (b:=i) (by simp only[fZ,ai (P3 q:b=43\/b=45)];exact g);simp only[fZ,ai (P3 q:b=43\/b=45)]at this;rw[ah (by rw[q];decide)]at this;exact pP.mk this
   ·have z:((b:Int)==43)=P2:=eB
    go_in
    go_wp2_with fail;apply h.o.m;rintro n s ⟨⟨f,i,rfl,g⟩,rfl⟩;go_wp2
    go_ret2
    have:=oO.whole (l:=b::k) (n:=f) (b:=i) (by simp only[fZ,ah (λc=>by omega:¬(b=43\/b=45))];exact g);simp only[fZ,ah (λc=>by omega:¬(b=43\/b=45))]at this;rw[ah cO]at this;exact pP.mk this
end
def AL{a b:List Nat}(c:a.all gH=PV):(a++46::b).takeWhile (λb=>b != 46)=a/\(a++46::b).dropWhile (λb=>b != 46)=46::b:=by
 induction a with
 |nil=>exact⟨rfl,rfl⟩
 |cons f a e=>
  simp only[cZ,bN]at c;have d:(f != 46)=PV:=by have:=c.1;simp[gH]at this;simp;omega
  obtain⟨h1,h2⟩:=e c.2;exact⟨by rw[cP,cL,d,ai rfl,h1],by rw[cP,bP,d,ai rfl,h2]⟩
def px(b:List Nat):∃k,b=iu b++Qf k 48/\∀c∈(iu b).getLast?,c≠48:=by
 unfold iu;have h:=List.takeWhile_append_dropWhile (p:=λb:Nat=>b==48) (l:=b.reverse);refine⟨(b.reverse.takeWhile λb=>b==48).length,?_,?_⟩
 ·have h2:b.reverse.takeWhile (λb=>b==48)=Qf (b.reverse.takeWhile λb=>b==48).length 48:=by rw[List.eq_replicate_iff];exact⟨rfl,λc a=>by have:=cN.1 (List.all_takeWhile (p:=λb:Nat=>b==48) (l:=b.reverse)) c a;simpa using this⟩
  have h3:=dV List.reverse h;rw[List.reverse_append,List.reverse_reverse,h2,List.reverse_replicate]at h3;exact h3.s
 ·intro c a;rw[List.getLast?_reverse]at a;cases d:b.reverse.dropWhile (λb=>b==48)with
  |nil=>rw[d]at a;cases a
  |cons f e=>rw[d]at a;cases a;have:=List.head?_dropWhile_not (λb:Nat=>b==48) b.reverse;rw[d]at this;simpa using this
def y_{b:List Nat}:(iu b).all gH=b.all gH:=by
 obtain⟨k,h,_⟩:=px b;have:b.all gH=(iu b++Qf k 48).all gH:=by rw[<-h]
 rw[this,List.all_append];have h2:(Qf k 48).all gH=PV:=by rw[cN];intro c a;rw[List.eq_of_mem_replicate a];decide
 rw[h2,Bool.and_true]
def zH(a:List Nat):iO (48::a)=iO a:=rfl
def nW{d a b:List Nat}(k:(fZ d).2=a++46::b)(g:a.all gH=PV):jm d =
  if b.all gH=PV/\G a<=9/\G b<=9/\1<=G a+G b then O (if(fZ d).1=[45]then -(iO (a++iu b):Int)else(iO (a++iu b):Int),(iu b).length)else N:=by
 obtain⟨h1,h2⟩:=AL (b:=b) g;have l:(fZ d).1=[]\/(fZ d).1=[43]\/(fZ d).1=[45]:=by
  cases d with
  |nil=>exact P3 rfl
  |cons i m=>
   by_cases h:i=43\/i=45;·simp only[fZ,ai h];rcases h with rfl|rfl<;>simp
   ·simp only[fZ,ah h];exact P3 trivial
 have j:fZ ((fZ d).1++48::(a++iu b))=((fZ d).1,48::(a++iu b)):=by rcases l with h|h|h<;>rw[h]<;>rfl
 unfold jm;rw[k,h2];simp only[h1];by_cases f:1<=max (G a) (G b)/\max (G a) (G b)<=9
 ·rw[ai f];unfold kU;rw[j];simp only[cZ,List.all_append,g,y_,show gH 48=PV from rfl,bX,zH];by_cases e:b.all gH=PV;·rw[ai (show(48::(a++iu b))≠[]/\b.all gH=PV from⟨eA,e⟩),ai (show b.all gH=PV/\G a<=9/\G b<=9/\1<=G a+G b from⟨e,Y,Y,Y⟩)];rfl
  ·rw[ah (show ¬((48::(a++iu b))≠[]/\b.all gH=PV)from λc=>e c.2),ah (show ¬(b.all gH=PV/\G a<=9/\G b<=9/\1<=G a+G b)from λc=>e c.1)];rfl
 ·rw[ah f,ah (λc=>f Y)]
def wC:∀l:List Nat,(46:Nat)∉l->l.dropWhile (λb=>b != 46)=[]
 | [],_=>rfl
 |d::l,h=>by
  have a:(d != 46)=PV:=by simp;rintro rfl;exact h eA
  rw[bP,a,ai rfl];exact wC l (λc=>h (by simp[c]))
def tE{l:List Nat}(h:(46:Nat)∉(fZ l).2):jm l=N:=by have:=wC _ h;unfold jm;rw[this]
def ug{l:List Nat}{c:Nat}(a:c∈(fZ l).2)(e:gH c=P2)(k:c≠46):jm l=N:=by
 have g:=List.takeWhile_append_dropWhile (p:=λb:Nat=>b != 46) (l:=(fZ l).2);cases f:(fZ l).2.dropWhile (λb=>b != 46)with
 |nil=>unfold jm;rw[f]
 |cons o b=>
  have n:o=46:=by have:=List.head?_dropWhile_not (λb:Nat=>b != 46) (fZ l).2;rw[f]at this;simpa using this
  subst n;rw[f]at g;by_cases d:((fZ l).2.takeWhile λb=>b != 46).all gH=PV
  ·rw[nW g.s d,ah];rintro⟨i,_⟩;rw[<-g,bG,cQ]at a;rw[cN]at d i;rcases a with a|a|a;·rw[d c a]at e;cases e
   ·exact k a
   ·rw[i c a]at e;cases e
  ·unfold jm;rw[f];simp only[];split
   ·have m:(fZ ((fZ l).1++48::(((fZ l).2.takeWhile λb=>b != 46)++iu b))).2=48::(((fZ l).2.takeWhile λb=>b != 46)++iu b):=by
     cases l with
     |nil=>rfl
     |cons j q=>
      by_cases h:j=43\/j=45;·simp only[fZ,ai h];rcases h with rfl|rfl<;>rfl
      ·simp only[fZ,ah h];rfl
    unfold kU;rw[ah];·rfl
    ·rintro⟨_,h⟩;rw[m,cZ,List.all_append]at h;simp only[bN]at h;exact d h.2.1
   ·rfl
