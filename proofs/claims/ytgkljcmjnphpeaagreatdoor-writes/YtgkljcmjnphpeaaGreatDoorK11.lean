import Derived.Test.YtgkljcmjnphpeaaGreatDoorK10
import Derived.Lib.SlBytesConst
import Derived.LaidMore
import Derived.Stop.LaidErr
import Derived.Test.YtgkljcmjnphpeaaGreatDoorCards
import Derived.SevenTiedAt
set_option linter.defProp false
set_option linter.unusedVariables false
set_option linter.unusedSimpArgs false
set_option maxHeartbeats 8000000
set_option maxRecDepth 100000
open List renaming length->G
open Go.Value renaming pointer->A3,tuple->BG,agg->Bc,bool->Bs,int->I,slice->Z,string->y7
open Go.Obj renaming cells->BV
open Go.Ending renaming returned->BX
open Or renaming inl->C1,inr->C2
open Bool renaming true->CD,false->CS
open Go.Proofs.Tryz renaming prog->DG
open List renaming replicate->DJ
open Option renaming none->N,some->O
open Go.IntKind renaming i64->U
open Go renaming World->vz,Addr->wT,Value->wg,Calls->wh,Ending->xc
open Go.RowKit renaming Below->wm,Hid->wt
open Go.Proofs.Tryz
namespace Go.Proofs.YtgkljcmjnphpeaaGreatDoor
open Go.RowKit
section
variable{w u:vz}
structure Rw(w:vz)(db:Nat)(S:ByteArray)(wx:vz)(t:Option (List Nat))(ov:wg)(vs:List wg)(rt:Int)(pv:wg)(ps:List Nat):Prop where
 below:wm w.heap.size w wx
 rb:wx.heap[w.heap.size]?=O (BV #[Z N 0 0,I U 0] 31 (0,0))
 sn:∃p,Sn (w.heap.size+1) S wx p t
 dlt:w.heap.size+2<=db
 dbk:wx.heap[db]?=O (BV #[ov,I U rt] 31 (0,0))
 own:wx.ownsRow (db+1) 67 7 ov (G vs) (vs.flatMap cellsOf)
 ownp:wx.ownsRow (db+1) 3 1 pv (G ps) (ps.map λp:Nat=>I U p)
 frm:∀x∈vs,n5 x
 few:G vs+ij t<=200001
 fewp:G ps+ij t<=200001
 pls:∀p∈ps,p<=200000
section
variable{d:Nat}{S:ByteArray}{f:vz}{t:Option (List Nat)}{l m:wg}{n:List wg}{s:Int}{o:List Nat}{Vs:List (VT 12)}
def Rw.step{t':Option (List Nat)}(h:Rw w d S f t l n s m o)(k:kJ (w.heap.size+1) S f u t')(x:ij t'<=ij t):Rw w d S u t' l n s m o/\(TV (d+1) 12 f l m n Vs->TV (d+1) 12 u l m n Vs):=by have c:=h.dlt;have j:=h.below.size;refine⟨⟨⟨k.2.os.t h.below.os,k.2.tape.t h.below.tape,k.2.output.t h.below.output,aJ j k.2.size,λa b=>(k.2.block a Y Y).t (h.below.block a b)⟩,by rw[k.2.block _ (ap h.rb) Y];exact h.rb,k.1,c,by rw[k.2.block _ (ap h.dbk) Y];exact h.dbk,Bw h.own k.2 Y,Bw h.ownp k.2 Y,h.frm,by have:=h.few;omega,by have:=h.fewp;omega,h.pls⟩,λtv=>⟨tv.1,λp q r g i=>iR.keep 12 (tv.2 p q r g i) (λa v e=>k.2.block a e Y)⟩⟩
def Rw.belowS(h:Rw w d S f t l n s m o)(b:wm f.heap.size f u):Rw w d S u t l n s m o/\(TV (d+1) 12 f l m n Vs->TV (d+1) 12 u l m n Vs):=by obtain⟨c,a⟩:=h.sn;exact h.step ⟨⟨c,a.other b⟩,.of_below b⟩ (ag _)
def Rw.place(h:Rw w d S f t l n s m o){k:Nat}{p:wg}(D:k<=200000)(A:G o+1+ij t<=200001)(C:u.ownsRow (d+1) 3 1 p (G o+1) ((o.map λk:Nat=>I U k)++[I U k]))(i:f.grownBy u m.ownBlock)(F:∀a,p.ownBlock=O a->m.ownBlock=O a\/f.heap.size<=a):Rw w d S u t l n s p (o++[k])/\(TV (d+1) 12 f l m n Vs->TV (d+1) 12 u l p n Vs):=by
 have z:=h.dlt;have K:=h.below.size;have E:=h.ownp.lt;have x:∀a,a<f.heap.size->m.ownBlock≠O a->u.heap[a]?=f.heap[a]?:=λa b g=>i.block a b (λe=>g e.s);have q:∀a,a<d+1->a<f.heap.size->u.heap[a]?=f.heap[a]?:=λa b g=>x a g (λe=>by have:=E a e;omega);obtain⟨P,j⟩:=h.sn;refine⟨⟨⟨i.os.t h.below.os,i.tape.t h.below.tape,i.output.t h.below.output,aJ K i.size,λa b=>(q a Y Y).t (h.below.block a b)⟩,by rw[q _ Y (ap h.rb)];exact h.rb,⟨P,by rw[q _ Y j.lt];exact j.blk,j.lp,j.ls,j.rest⟩,z,by rw[q _ Y (ap h.dbk)];exact h.dbk,?_,?_,h.frm,h.few,?_,?_⟩,λtv=>⟨tv.1,λL y r J c=>?_⟩⟩
 ·exact h.own.kept i (by
   cases B:l.ownBlock with
   |none=>exact C1 rfl
   |some a=>exact C2 (λe=>Gz h.own h.ownp bF a B e.s))
 ·rw[ab,aI];exact C
 ·rw[ab];exact A
 ·intro r c;rcases aZ.1 c with c|c;·exact h.pls r c
  ·rw[cZ]at c;subst c;exact D
 ·have M:iR (λa=>d+1<=a/\l.ownBlock≠O a/\m.ownBlock≠O a/\p.ownBlock≠O a) 12 f y r:=iR.m 12 (tv.2 L y r J c) (λa b g=>⟨b.1,b.2.1,b.2.2,λe=>by
   rcases F a e with v|v;·exact b.2.2 v
   ·omega⟩)
  exact iR.m 12 (iR.keep 12 M (λa b g=>x a g b.2.2.1)) (λa b _=>⟨b.1,b.2.1,b.2.2.2⟩)
def Rw.item(h:Rw w d S f t l n s m o){x:wg}(W:n5 x)(R:G n+1+ij t<=200001){g:wg}(K:u.ownsRow (d+1) 67 7 g (G n+1) (n.flatMap cellsOf++cellsOf x))(p:f.grownBy u l.ownBlock)(L:∀b,g.ownBlock=O b->l.ownBlock=O b\/f.heap.size<=b):Rw w d S (u.setCell ⟨d,0,N⟩ g) t g (n++[x]) s m o/\∀{A:VT 12} {Px:Nat->Prop},(∀b,Px b->d+1<=b/\l.ownBlock≠O b/\m.ownBlock≠O b)->iR Px 12 f x A->TV (d+1) 12 f l m n Vs->TV (d+1) 12 (u.setCell ⟨d,0,N⟩ g) g m (n++[x]) (Vs++[A]):=by
 have P:=h.dlt;have q:=h.below.size;have J:=h.own.lt;have F:∀b,b<f.heap.size->l.ownBlock≠O b->b≠d->(u.setCell ⟨d,0,N⟩ g).heap[b]?=f.heap[b]?:=λb c k M=>by rw[lK _ M,p.block b c (λe=>k e.s)]
 have B:∀b,b<d->b<f.heap.size->(u.setCell ⟨d,0,N⟩ g).heap[b]?=f.heap[b]?:=λb c k=>F b k (λe=>by have:=J b e;omega) Y;have Q:u.heap[d]?=O (BV #[l,I U s] 31 (0,0)):=by rw[p.block _ (ap h.dbk) (λe=>by have:=J _ e.s;omega)];exact h.dbk
 obtain⟨aa,y⟩:=h.sn;refine⟨⟨⟨p.os.t h.below.os,p.tape.t h.below.tape,p.output.t h.below.output,by have:=p.size;simp[World.setCell];omega,λb c=>(B b Y Y).t (h.below.block b c)⟩,by rw[B _ Y (ap h.rb)];exact h.rb,⟨aa,by rw[B _ Y y.lt];exact y.blk,y.lp,y.ls,y.rest⟩,P,?_,?_,?_,?_,?_,h.fewp,h.pls⟩,?_⟩;·rw[nu _ Q];rfl
 ·rw[ab,cK];have:=bJ (a:=⟨d,0,N⟩) K (λe=>absurd (K.lt d e).1 Y) g;simpa using this
 ·have:=h.ownp.kept p (by
   cases T:m.ownBlock with
   |none=>exact C1 rfl
   |some b=>exact C2 (λe=>Gz h.own h.ownp bF b e.s T))
  exact bJ this (λe=>absurd (this.lt d e).1 Y) g
 ·intro ac q;rcases aZ.1 q with q|q;·exact h.frm ac q
  ·rw[cZ]at q;subst q;exact W
 ·rw[ab];exact R
 ·intro A Px z V tv;refine⟨by rw[ab,ab,tv.1];rfl,?_⟩;intro C D E i j;have X:iR (λb=>d+1<=b/\l.ownBlock≠O b/\m.ownBlock≠O b/\g.ownBlock≠O b) 12 f D E:=by
   rcases cW C (G n) with r|r
   ·rw[aR r]at i;rw[aR (by rw[<-tv.1];exact r)]at j;refine iR.m 12 (tv.2 C D E i j) (λb c k=>⟨c.1,c.2.1,c.2.2,λe=>?_⟩);rcases L b e with v|v;·exact c.2.1 v
    ·omega
   ·rw[aW r]at i;rw[aW (by rw[<-tv.1];exact r)]at j;rw[<-tv.1]at j;obtain⟨rfl,rfl⟩:x=D/\A=E:=by
     match hj:C-G n,i,j with
     |0,i,j=>exact⟨by simpa using i,by simpa using j⟩
     |ad+1,i,j=>simp at i
    refine iR.m 12 V (λb c k=>⟨(z b c).1,(z b c).2.1,(z b c).2.2,λe=>?_⟩);rcases L b e with v|v;·exact(z b c).2.1 v
    ·omega
  refine iR.m 12 (iR.keep 12 X (λb c k=>F b k c.2.1 Y)) (λb c _=>⟨c.1,c.2.2.2,c.2.2.1⟩)
def FV(b:List Nat)(d:Nat)(f:vz)(t:Option (List Nat))(l:wg)(n:List wg)(m:wg)(o:List Nat):Prop:=match t with
 |none=>qL b
 |some r=>∃a:List (VT 12×List Nat),TV (d+1) 12 f l m n (a.map nA)/\(∀c∈a,uh c)/\Pg b a o r
def KG(b:List Nat)(d:Nat)(f:vz)(t:Option (List Nat))(l:wg)(n:List wg)(m:wg)(s:Int):Prop:=(t=N/\qL b)\/∃a:List (VT 12×List Nat),t=O []/\TV (d+1) 12 f l m n (a.map nA)/\(∀c∈a,uh c)/\jK b=O (a,s)
end
end
section
variable{w s:vz}
def FU(w:vz)(e:List Nat)(i:xc)(s:vz):Prop:=wm w.heap.size w s/\∃b ok,i=BX (BG #[b,Bs ok])/\((ok=CS/\qL e/\∃g j h k,b=Bc #[Z g j h,I U k])\/(ok=CD/\∃a d c,b=Bc #[c,I U d]/\jK e=O (a,d)/\jh (a.map Prod.fst) d=CD/\(∀l∈a,uh l)/\oZ (λf=>w.heap.size<=f/\c.ownBlock≠O f) 12 w.heap.size (a.map nA) s c))
section
variable{b:Nat}{S:ByteArray}{d:vz}{t:Option (List Nat)}{k j:wg}{l:List wg}{m:Int}{f:List Nat}{Vs:List (VT 12)}
def Rw.plin(h:Rw w b S d t k l m j f):FT (w.heap.size+1) d j f:=by
 obtain⟨n,o,c⟩:=ke h.ownp;refine⟨n,o,c,λi g=>?_⟩;obtain⟨e,u,a,q⟩:=En h.ownp (show(f.map λr:Nat=>I U r)[i]?=O (I U (nth f i:Nat))by rw[aE,af g];unfold nth;rw[aL,af g];rfl)
 have p:=h.ownp.lt e (by rw[a];rfl);have v:=h.dlt;rw[c]at a;injection a with e1;exact⟨e,e1,Y,p.2,q⟩
def Rw.root(h:Rw w b S d t k l m j f)(e:Int):Rw w b S (d.setCell ⟨b,1,N⟩ (I U e)) t k l e j f/\(TV (b+1) 12 d k j l Vs->TV (b+1) 12 (d.setCell ⟨b,1,N⟩ (I U e)) k j l Vs):=by have i:=h.dlt;have r:=h.below.size;have a:iJ b d (d.setCell ⟨b,1,N⟩ (I U e)):=(iJ.refl _ _).setCell 1 _;obtain⟨v,o⟩:=h.sn;refine⟨⟨⟨a.os.t h.below.os,a.tape.t h.below.tape,a.output.t h.below.output,aJ r a.size,λc g=>(a.block c Y Y).t (h.below.block c g)⟩,by rw[a.block _ (ap h.rb) Y];exact h.rb,⟨v,o.onlyS a Y⟩,i,by rw[nu _ h.dbk];rfl,Bw h.own a Y,Bw h.ownp a Y,h.frm,h.few,h.fewp,h.pls⟩,λtv=>⟨tv.1,λu x y p q=>iR.keep 12 (tv.2 u x y p q) (λc z n=>a.block c n Y)⟩⟩
end
def Rw.fin{p:Nat}{o:ByteArray}{f v W:vz}{t:Option (List Nat)}{j:Option wT}{g k:Nat}{pv:wg}{u:List wg}{e:Int}{P:List Nat}{l:List (VT 12×List Nat)}{m:Bool}(h:Rw w p o f t (Z j g k) u e pv P)(c:wm f.heap.size f v)(z:W=(v.setCell ⟨w.heap.size,0,N⟩ (Z j g k)).setCell ⟨w.heap.size,1,N⟩ (I U e))
  (C:TV (p+1) 12 f (Z j g k) pv u (l.map nA)) (F:∀x∈l,uh x) (A:jK (bl o)=O (l,e)) (B:jh (l.map Prod.fst) e=m):W.heap[w.heap.size]?=O (BV #[Z j g k,I U e] 31 (0,0))/\FU w (bl o) (BX (BG #[Bc #[Z j g k,I U e],Bs m])) W:=by
 have d:iJ w.heap.size v W:=by rw[z];exact((iJ.refl _ _).setCell 0 _).setCell 1 _
 have Q:=(c.block _ (ap h.rb)).t h.rb;have i:=h.below;have S:=h.dlt;have D:=i.size;have E:=c.size;have b:wm w.heap.size w W:=⟨d.os.t (c.os.t i.os),d.tape.t (c.tape.t i.tape),d.output.t (c.output.t i.output),aJ D (aJ E d.size),λa r=>(d.block a Y Y).t ((c.block a Y).t (i.block a r))⟩;refine⟨by rw[z];exact Cz Q _ _,b,_,m,rfl,?_⟩;cases m with
 |false=>refine C1 ⟨rfl,λV T y=>?_,_,_,_,_,rfl⟩;rw[A]at y;cases y;exact B
 |true=>have M:∀a,p+1<=a->a<f.heap.size->W.heap[a]?=f.heap[a]?:=λa n q=>(d.block a Y Y).t (c.block a q);refine C2 ⟨rfl,l,e,_,rfl,A,B,F,u,Bq (FC (ym h.own c) d (λa r=>by have:=(h.own.lt a r).1;omega)) Y,C.1,λL x R J K=>?_⟩;exact iR.m 12 (iR.keep 12 (C.2 L x R J K) (λa n q=>M a n.1 q)) (λa n _=>⟨Y,n.2.1⟩)
def FM(n o:wg):Prop:=∃(a h i:Int) (j:ByteArray) (e:Option wT) (g f:Nat) (k:Option wT) (m l:Nat) (b:Option wT) (d c:Nat),n=Bc #[I U a,I U h,I U i,y7 j,Z e g f,Z k m l,Z b d c]/\o=Bc #[I U a,I U h,I U i,y7 (if a=8 then{data:=#[]} else j),Z e g f,Z k m l,Z b d c]
def FM.vin{f:Nat->Prop}{j l:wg}{a:VT 12×List Nat}(h:FM j l)(b:iR f 12 w j (nA a))(o:uh a):iR f 12 w l a.1:=by
 obtain⟨i,A,B,C,x,z,y,D,F,E,t,v,u,rfl,rfl⟩:=h;by_cases d:f_.kind (α:=VT 11) a.1=8
 ·have c:nA a=sT (k:=11) a.1 a.2:=by unfold nA;rw[ak d]
  rw[c]at b;have e:i=8:=by obtain⟨p,q,n,r,e2,_⟩:=iR.parts (V:=(sT (k:=11) a.1 a.2:f_ (VT 11))) b;simp[nV]at e2;rw[e2.1];show((f_.kind (α:=VT 11) a.1:Nat):Int)=8;omega
  rw[ak e];have g:=iR.textTo (V:=(sT (k:=11) a.1 a.2:f_ (VT 11))) b [];have m:({ (sT (k:=11) a.1 a.2:f_ (VT 11))with text:=[]}:f_ (VT 11))=a.1:=by have:=o.2.1 d;show({ (show f_ (VT 11)from a.1)with text:=[]}:f_ (VT 11))=a.1;rw[<-this];rfl
  rw[m]at g;exact g
 ·have c:nA a=a.1:=by unfold nA;rw[aj d]
  rw[c]at b;have e:i≠8:=by obtain⟨p,q,n,r,e2,_⟩:=iR.parts (V:=(a.1:f_ (VT 11))) b;simp[nV]at e2;rw[e2.1];omega
  rw[aj e];exact b
def RJ{r d:List Nat}{e:VT 12×List Nat}(h:sR (O r)=O (e,d)):G d+1<=G r:=by
 unfold sR at h;simp only[Option.bind_some]at h;cases a:gx [48] r with
 |none=>rw[a]at h;cases h
 |some j=>
  rw[a]at h;simp only[Option.bind_some]at h;cases b:gx [111,98,106] j with
  |none=>rw[b]at h;cases h
  |some k=>
   rw[b]at h;simp only[Option.bind_some]at h;cases c:jo k with
   |none=>rw[c]at h;cases h
   |some f=>rw[c]at h;simp only[Option.bind_some,Option.map_eq_some_iff]at h;obtain⟨p,g,i⟩:=h;cases i;have l:=jf a;have m:=jf b;have n:=sj (x:=f.1) (q:=f.2) c;have o:=jf g;omega
def Ej(g:ByteArray)(hS:g.size<=200000):wh DG 83 #[y7 g] w (FU w (bl g)):=by
 obtain⟨i0,hf,h5,h7,e9⟩:=bR iV;obtain⟨j0,mk,ml,mm,mr⟩:=bR Mg;have m4:=mC g;obtain⟨W1,co⟩:∃W1,(w.alloc (BV #[Z N 0 0,I U 0] 31)).alloc (BV #[y7 g,I U 0,Bs CS] 146)=W1:=⟨_,rfl⟩;have b1:wm w.heap.size w W1:=by rw[<-co];exact((ar _ _).alloc (ag _) _).alloc cO _
 have x0:W1.heap[w.heap.size]?=O (BV #[Z N 0 0,I U 0] 31 (0,0)):=by rw[<-co];exact nt _ (bn _ _)
 have x1:Sn (w.heap.size+1) g W1 0 (O (bl g)):=by refine⟨?_,aw _,hS,λr hr=>by cases hr;rfl⟩;rw[<-co];have:=bn (w.alloc (BV #[Z N 0 0,I U 0] 31)) (BV #[y7 g,I U 0,Bs CS] 146);rw[aV]at this;exact this
 have H2:=H (Bl x1 {data:=#[37,80,68,70,45,49,46,52,10]} bF);rw[show bl {data:=#[37,80,68,70,45,49,46,52,10]}=[37,80,68,70,45,49,46,52,10]from rfl]at H2;simp only[Option.bind_some]at H2;have cd:=H b1;have ej:=H x0;have gp:=H co;clear b1 x0 x1 co
 go_in
 go_upto_region 2 with fail
 rw[gp.o];go_wp2_with fail;apply H2.o.m;rintro i w2 ⟨rfl,A⟩;obtain⟨m,lc⟩:∃m,w2.heap.size=m:=⟨_,rfl⟩;obtain⟨s1,dg⟩:∃s1,gh [37,80,68,70,45,49,46,52,10] (bl g)=s1:=⟨_,rfl⟩;rw[dg]at A;obtain⟨W3,c6⟩:∃W3,w2.alloc (BV #[Z N 0 0,I U 0] 31)=W3:=⟨_,rfl⟩;have a7:wt (Rw w m g W3 s1 (Z N 0 0) [] 0 (Z N 0 0) []):=by
  obtain⟨⟨p2,j⟩,o2⟩:=A;have b3:wm w2.heap.size w2 W3:=by rw[<-c6];exact(ar _ _).alloc (ag _) _
  have d:=cd.o.size;have hl:=ap ej;have e9:=j.lt;have cq:ij s1<=200001:=by
   cases s1 with
   |none=>simp[ij]
   |some r=>have:=j.len;simp only[ij];omega
  refine⟨⟨b3.os.t (o2.os.t cd.o.os),b3.tape.t (o2.tape.t cd.tape),b3.output.t (o2.output.t cd.o.output),by have:=o2.size;have:=b3.size;omega,λa hg=>(b3.block a Y).t ((o2.block a Y Y).t (cd.block a hg))⟩,by rw[b3.block _ Y,o2.block _ hl Y];exact ej,⟨p2,j.other b3⟩,Y,by rw[<-c6,<-lc];exact bn _ _,bI _ _ _ _,bI _ _ _ _,(λc n=>by cases n),by simpa using cq,by simpa using cq,λc n=>by cases n⟩
 have d3:wt (FV (bl g) m W3 s1 (Z N 0 0) [] (Z N 0 0) []):=by
  unfold Hid FV;cases s1 with
  |none=>exact Tr dg
  |some r=>exact⟨[],⟨rfl,λy c ad n _=>by simp at n⟩,(λc n=>by cases n),Pg.start dg⟩
 have gs:=H c6;clear A dg c6 gp H2 ej cd
 go_upto_region 4 with fail
 rw[gs.o];clear gs
 go_upto_block 0 with fail
 go_cut [6]from 13 (λpv wx=>∃(bd:Option (List Nat)) (ov:wg) (e:List wg) (b:List Nat) (u:Int),wt (Rw w m g wx bd ov e u pv b)/\wt (KG (bl g) m wx bd ov e pv u))
 case first=>
  go_wp2_with fail;go_loopw [6] (λpv wr=>∃(bd:Option (List Nat)) (ov:wg) (e:List wg) (b:List Nat),wt (Rw w m g wr bd ov e 0 pv b)/\wt (G e=G b)/\wt (FV (bl g) m wr bd ov e pv b)) (λ_ wr=>mS (w.heap.size+1) g wr)
  case atStart=>exact⟨s1,_,[],[],a7,rfl,d3⟩
  clear a7 d3
  case round=>
   obtain⟨bd,ov,e,b,x,ky,HI⟩:=hrel;obtain⟨ib,di⟩:=x.o.sn;have c2:=di.c2;have HM:=H di.mS;have gb:=H di;obtain⟨pa,pc,l3⟩:=ke x.o.ownp;subst l3;clear di;cases bd with
   |none=>
    simp only[Option.isNone_none]at c2;go_wp2
    go_meet
    case rel=>exact⟨N,ov,e,b,0,x,C1 ⟨rfl,HI⟩⟩
   |some r=>
    simp only[Option.isNone_some]at c2;obtain⟨q,bm,b6,ey⟩:=HI.o;have c4:=H bm;have c0:=H b6;have f5:=H ey;have f6:=H ey.1;have d6:=H (D3 gb);simp only[bK]at d6;have nb:=jM r;have kv:=H gb.len;have lm:=x.o.fewp;have lf:=x.o.few;simp only[ij]at lm lf;clear bm b6 ey HI;go_wp2_with fail;apply d6.o.m;rintro i w1 ⟨rfl,z⟩;obtain⟨r1,ih⟩:=x.o.step (Vs:=q.map nA) z oj;have f8:=H r1;have gf:=H (ih c4);obtain⟨p1,d⟩:=z.1;have d1:=d.c1;have hm:p1=(bl g).length-(gq r).length:=by have:=d.len;have:=d.lp;omega
    have f4:=H hm;have ho:p1<=200000:=by have:=d.lp;omega
    have ei:=H (Fz d);have ds:=H (IV d);clear r1 ih z d d6 x c4 c2 hm;have d7:wt (lW (O (gq r))=gI (gq r)/\oO (O (gq r))=O (gE (gq r))):=⟨rfl,rfl⟩;rw[d7.o.1,d7.o.2]at ei;go_wp2_with fail;apply ei.o.m;rintro i w3 ⟨rfl,k3⟩;have nm:(gE (gq r)).length<=(gq r).length:=(Hd _).length_le;obtain⟨r3,iz⟩:=f8.o.step (Vs:=q.map nA) k3 oj;have a7:=H r3;have eb:=H (iz gf);obtain⟨p3,h3⟩:=k3.1;have c3:=H h3;have e1:((gj (gI (gq r))).toList==([120,114,101,102]:List UInt8))=decide (gI (gq r)=[120,114,101,102]):=by rw[xV,vJ _ ds.o];rfl
    have cy:wt (∀cx:List Nat,(∀c∈cx,c<256)->((gj (gI (gq r))).toList==(gj cx).toList)=decide (gI (gq r)=cx)):=λcx hD=>by rw[tQ,bO];exact⟨λi=>Nu ds hD i,λi=>by rw[i]⟩
    obtain⟨TW,g0⟩:∃TW,gj (gI (gq r))=TW:=⟨_,rfl⟩;rw[g0]at e1 cy ⊢;clear r3 iz k3 h3 ei f8 gf d1 g0 ds d7;by_cases n:gI (gq r)=[120,114,101,102]
    ·rw[aH n]at e1;have fq:=H (f5.table n);rw[<-f4.o]at fq;have gc:=H (RB c3 a7.plin (by have:=a7.o.fewp;simp only[ij]at this;omega) (λy hi=>a7.pls _ (by unfold nth;rw[aL,af hi];exact cI hi)))
     clear n cy;go_wp2_with fail;apply gc.o.m;rintro i w4 ⟨rfl,k4⟩;generalize lP (oW::b.map nC) ((O (gE (gq r))).bind (gh ([10,48,32]++gJ (G b+1)++[10])))=t4 at *;have fw:=H k4;obtain⟨p4,h4⟩:=k4.1;have gd:=H (RF h4 (G b) p1 (by have:=a7.o.fewp;simp only[ij]at this;omega) ho);clear k4 h4 gc;go_wp2_with fail;apply gd.o.m;rintro i w5 ⟨b9,t5,rfl,k5,ez⟩;have h9:=fw.o.t k5;have cq:ij t5<=ij (O (gE (gq r))):=by rcases ez with⟨h,_⟩|⟨h,_⟩<;>rw[h]<;>simp[ij]
     obtain⟨r5,cv⟩:=a7.o.step (Vs:=q.map nA) h9 cq;obtain⟨r6,cw⟩:=r5.root (Vs:=q.map nA) b9;have g1:=rU r5.dbk;have g2:=lQ 1 r5.dbk;have l:=H r6;have dv:wt (KG (bl g) m (w5.setCell ⟨m,1,N⟩ (I U b9)) t5 ov e (Z pa (G b) pc) b9):=by
      have hd:=fq.o;rw[<-f6.o]at hd;rcases ez with⟨h,hT⟩|⟨h,hT⟩;·rw[hT]at hd;exact C1 ⟨h,.of_none hd⟩
      ·rw[hT]at hd;exact C2 ⟨q,h,cw (cv eb),c0,hd⟩
     clear r5 cv r6 cw k5 ez h9 gd fw cq;go_wp2
     go_meet
     case rel=>exact⟨t5,ov,e,b,b9,l,dv⟩
    ·rw[av n]at e1;have ck:=H (f5.o.object n);rw[<-f4.o,<-f6.o]at ck;have ll:=a7.o.fewp;have lo:=a7.o.few;simp only[ij]at ll lo;have ci:=H (Cw (G b+1) Y w3);have e2:=cy.o (gJ (G b+1)) (Hu _);have nk:IntKind.i64.wrap ((G b:Int)+1)=((G b+1:Nat):Int):=by rw[bu];omega
     obtain⟨DD,gw⟩:∃DD,gj (gJ (G b+1))=DD:=⟨_,rfl⟩;rw[gw]at e2 ci;obtain⟨bf,hG⟩:∃bf,(!decide (gI (gq r)=gJ (G b+1)/\G b<100))=bf:=⟨_,rfl⟩;clear n cy gw
     go_upto_region 12 with fail
     go_cut [53]from 19 to 67 (λbv wx=>bv=Bs bf/\wx=w3)
     case first=>
      by_cases q0:gI (gq r)=gJ (G b+1)
      ·rw[aH q0]at e2;by_cases q1:G b<100
       ·have m1:decide (100<=(G b:Int))=CS:=eS;have HD:wt (bf=CS):=by rw[<-hG,aH ⟨q0,q1⟩];rfl
        clear hG q0 q1;go_wp2_with fail;apply ci.o.m;rintro i s ⟨rfl,hw⟩;have hw:=hw.s;subst hw;go_wp2
        go_meet
        case rel=>exact⟨by rw[HD.o],rfl⟩
       ·have m1:decide (100<=(G b:Int))=CD:=eS;have HD:wt (bf=CD):=by rw[<-hG,av (λh=>q1 h.2)];rfl
        clear hG q0 q1;go_wp2_with fail;apply ci.o.m;rintro i s ⟨rfl,hw⟩;have hw:=hw.s;subst hw;go_wp2
        go_meet
        case rel=>exact⟨by rw[HD.o],rfl⟩
      ·rw[av q0]at e2;have HD:wt (bf=CD):=by rw[<-hG,av (λh=>q0 h.1)];rfl
       clear hG q0;go_wp2_with fail;apply ci.o.m;rintro i s ⟨rfl,hw⟩;have hw:=hw.s;subst hw;go_wp2
       go_meet
       case rel=>exact⟨by rw[HD.o],rfl⟩
     case rest=>
     obtain⟨rfl,b7⟩:=hcut;have b7:=b7.s;subst b7;obtain⟨D,cs⟩:∃D,(if bf=CD then N else O (gE (gq r)))=D:=⟨_,rfl⟩;have d5:wt ((sR D=N/\qL (bl g)/\D=N)\/(D=O (gE (gq r))/\gI (gq r)=gJ (G b+1))):=by
      by_cases hq:gI (gq r)=gJ (G b+1)/\G b<100
      ·rw[aH hq]at hG;subst hG;exact C2 ⟨cs.s,hq.1⟩
      ·rw[av hq]at hG;subst hG;have j:D=N:=cs.s;refine C1 ⟨by rw[j];rfl,?_,j⟩;by_cases hp:gI (gq r)=gJ (G b+1);·exact ck.2.1 (Nat.le_of_not_lt λh=>hq ⟨hp,h⟩)
       ·exact ck.1 hp
     have d4:wt (ij D<=ij (O (gE (gq r)))):=by unfold Hid;rw[<-cs];cases bf<;>simp[ij]
     have fs:wt (G b+1+ij D<=200001/\G e+1+ij D<=200001):=by
      rcases d5.o with⟨_,_,h⟩|⟨h,hq⟩;·rw[h];simp only[wt,ij];omega
      ·have d:(gI (gq r)).length+(gE (gq r)).length=(gq (gq r)).length:=by unfold gI gE;rw[<-ab,List.takeWhile_append_dropWhile]
       have j:1<=(gJ (G b+1)).length:=by
        by_cases gv:G b+1<10;·rw[yQ gv];exact ag _
        ·rw[Ft gv,ab,yQ (Nat.mod_lt _ Y)];simp
       rw[hq,kV]at d;rw[h];simp only[wt,ij];omega
     have ea:=H cs;clear hG cs e1 e2 ci
     go_upto_if 53 with fail
     go_cut []from 19 to 67 (λwx=>wt (kJ (w.heap.size+1) g w3 wx D))
     case first=>
      cases bf with
      |true=>
       have HE:wt (D=N):=ea.o.s;have kb:=H (tZ c3);go_wp2_with fail;apply kb.o.m;rintro i w4 ⟨rfl,h4,o4⟩;have K4:wt (kJ (w.heap.size+1) g w3 w4 D):=by rw[HE.o];exact⟨⟨_,h4⟩,o4⟩
       clear h4 o4;go_wp2
       go_meet
       case rel=>exact K4
      |false=>
       have HE:wt (D=O (gE (gq r))):=ea.o.s;have K4:wt (kJ (w.heap.size+1) g w3 w3 D):=by rw[HE.o];exact c3.toS
       go_wp2
       go_meet
       case rel=>exact K4
     case rest=>
     obtain⟨w4,mc⟩:∃w4,w4=wc:=⟨_,rfl⟩;subst mc;obtain⟨r4,i1⟩:=a7.o.step (Vs:=q.map nA) hcut d4;have C:wm w4.heap.size w4 (w4.alloc (BV #[I U (p1:Nat)] 3)):=(ar _ _).alloc (ag _) _;obtain⟨r5,cv⟩:=r4.belowS (Vs:=q.map nA) C;have ga:=H r5;have gi:=H (cv (i1 eb));have hk:=r5.ownp;have lv:=d4.o;simp only[ij]at lv;have nd:=ap r4.dbk;have fz:wt (∀(t:Nat) (a8:wg),[I U (p1:Nat)][t]?=O a8->(w4.alloc (BV #[I U (p1:Nat)] 3)).cell? ((⟨w4.heap.size,0,N⟩:wT).add t)=O a8):=by intro t a8 hu;rw[sK,cb (bn w4 _)];simpa using hu
     clear r4 i1 r5 cv C hcut a7 eb c3 ea;go_wp2_with (at_builtin;refine rW _ rfl (.tmp 56) (.tmp 58) 52 rfl (m+1) 3 j0 _ 1 8 dF mk ml mm mr rfl bF (Z pa (G b) pc) (G b) (b.map λib:Nat=>I U ib) rfl hk ⟨w4.heap.size,0,N⟩ 1 1 [I U (p1:Nat)] rfl rfl fz ?hone ?h63 ?hby ?hbs ?_)
     case hone=>first|rfl|(intro a8 hu;simp at hu;subst hu;rfl)
     case h63=>unfold maxLen;omega
     case hby=>omega
     case hbs=>first|omega|(simp;omega)
     intro nv E fb hc dj;obtain⟨r6,cw⟩:=ga.o.place (Vs:=q.map nA) ho fs.1 fb hc (λa hg=>by simpa[aV]using dj a hg);have l:=H r6;have gk:=H (cw gi);obtain⟨p6,h6⟩:=r6.sn;have f3:=H (RD h6);obtain⟨ms,mv,l4⟩:=ke fb;subst l4;clear r6 cw h6 fb hc dj hk fz ga gi;go_wp2_with fail;apply f3.o.m;rintro i w7 ⟨v7,t7,rfl,⟨K,L,M,P,aa,al,ac,C,ao,bc,ca,cl,cc,rfl⟩,k7,e7⟩;have es:ij t7<=ij D/\(ij t7+1<=ij D\/ij t7=0):=by
      rcases e7 with⟨h,_⟩|⟨c,fi,d,j,_⟩;·rw[h];simp[ij]
      ·rw[j];cases D with
       |none=>cases d
       |some q1=>have:=RJ d;simp only[ij];omega
     obtain⟨r7,i2⟩:=l.o.step (Vs:=q.map nA) k7 es.1;have ia:=l.o.own.lt;have ne:=ap l.dbk;have ic:=l.o.ownp.lt;obtain⟨W8,c8⟩:∃W8,(w7.alloc (BV #[I U K,I U L,I U M,y7 P,Z aa al ac,Z C ao bc,Z ca cl cc] 67)).alloc (BV #[I U K,I U L,I U M,y7 P,Z aa al ac,Z C ao bc,Z ca cl cc] 67)=W8:=⟨_,rfl⟩;have b8:wm w7.heap.size w7 W8:=by rw[<-c8];exact((ar _ _).alloc (ag _) _).alloc cO _
     obtain⟨r8,i3⟩:=r7.belowS (Vs:=q.map nA) b8;have bz:=H r8;have gl:=H (i3 (i2 gk));have gm:wt (∀c,iR (λa=>E.heap.size<=a) 12 w7 (Bc #[I U K,I U L,I U M,y7 P,Z aa al ac,Z C ao bc,Z ca cl cc]) (nA c)->iR (λa=>E.heap.size<=a/\a<w7.heap.size) 12 W8 (Bc #[I U K,I U L,I U M,y7 P,Z aa al ac,Z C ao bc,Z ca cl cc]) (nA c)):=λc hv=>iR.keep 12 (iR.m 12 hv (λa d j=>⟨d,j⟩)) (λa d _=>b8.block a d.2);have ks:=H e7;have fx:=H es;have ec:=H c8;have d0:=nw r7.dbk;have m2:(w7.alloc (BV #[I U K,I U L,I U M,y7 P,Z aa al ac,Z C ao bc,Z ca cl cc] 67)).cell? ⟨m,0,N⟩=O ov:=cb (nt _ r7.dbk);have nf:=ap r7.dbk;have kk:=H ia;have kp:=H ic;obtain⟨oa,oc,bx⟩:=ke bz.o.own;have ex:=bz.o.own;subst bx;have f2:wt (∀(t:Nat) (a8:wg),[I U K,I U L,I U M,y7 P,Z aa al ac,Z C ao bc,Z ca cl cc][t]?=O a8->W8.cell? ((⟨w7.heap.size+1,0,N⟩:wT).add t)=O a8):=by have:=Hs (W:=w7.alloc (BV #[I U K,I U L,I U M,y7 P,Z aa al ac,Z C ao bc,Z ca cl cc] 67)) (a0:=I U K) (a1:=I U L) (a2:=I U M) (a3:=y7 P) (a4:=Z aa al ac) (a5:=Z C ao bc) (a6:=Z ca cl cc);rw[aV,c8]at this;exact this
     clear r7 i2 r8 i3 k7 e7 es b8 ia ic f3 l gk c8;have m6:=bz.o.few;have hh:=Iq K L M P aa al ac C ao bc ca cl cc;have ev:=f2.o;rw[<-ec.o]at ex ev;go_wp2_with (at_builtin;refine rW _ rfl (.tmp 63) (.tmp 65) 29 rfl (m+1) 67 i0 _ 7 112 dw hf h5 h7 e9 rfl bF (Z oa (G e) oc) (G e) (e.flatMap cellsOf) rfl ex ⟨w7.heap.size+1,0,N⟩ 1 1 [I U K,I U L,I U M,y7 P,Z aa al ac,Z C ao bc,Z ca cl cc] rfl rfl ev ?hone ?h63 ?hby ?hbs ?_)
     case hone=>exact hh
     case h63=>unfold maxLen;omega
     case hby=>omega
     case hbs=>first|omega|(simp;omega)
     intro dl F fd dc dk;rw[ec.o]at dc;have hz:∀a,dl.ownBlock=O a->(Z oa (G e) oc).ownBlock=O a\/W8.heap.size<=a:=λa hg=>by rw[<-ec.o];simpa[aV]using dk a hg
     have le:G e+1+ij t7<=200001:=by have:=fs.o.2;have:=fx.o.1;omega
     obtain⟨fm,il⟩:=bz.o.item (Vs:=q.map nA) (x:=Bc #[I U K,I U L,I U M,y7 P,Z aa al ac,Z C ao bc,Z ca cl cc]) (fo K L M P aa al ac C ao bc ca cl cc) le fd dc hz;have eo:=(dc.block m (ap bz.dbk) (λi=>by have:=(bz.o.own.lt _ i.s).1;omega)).t bz.dbk;have g4:=lQ 0 eo;have g5:F.cell? ⟨m,0,N⟩=O (Z oa (G e) oc):=cb eo;have kr:=H fm;have ji:wt (FV (bl g) m (F.setCell ⟨m,0,N⟩ dl) t7 dl (e++[Bc #[I U K,I U L,I U M,y7 P,Z aa al ac,Z C ao bc,Z ca cl cc]]) (Z ms (G b+1) mv) (b++[p1])):=by
      unfold Hid FV;rcases ks.o with⟨h,g6⟩|⟨c,fi,d,j,h3,h4⟩
      ·subst h;rcases d5.o with⟨_,hn,_⟩|⟨j,_⟩;·exact hn
       ·rw[j]at g6;exact ck.2.2.1 g6
      ·subst j;rcases d5.o with⟨hn,_,_⟩|⟨j,hq⟩;·rw[hn]at d;cases d
       ·rw[j]at d;refine⟨q++[c],?_,?_,ck.2.2.2 c fi hq d⟩
        ·rw[aI];exact il (Px:=λa=>E.heap.size<=a/\a<w7.heap.size) (λa hg=>⟨Y,λi=>by have:=kk.o a i;omega,λi=>by have:=kp.o a i;omega⟩) (gm c h3) gl
        ·intro ad hy;rcases aZ.1 hy with hy|hy;·exact c0 ad hy
         ·rw[cZ]at hy;subst hy;exact RI d (by have:=kv.o;omega) h4
     have j3:wt (mS (w.heap.size+1) g (F.setCell ⟨m,0,N⟩ dl)=ij t7):=by obtain⟨fi,hq⟩:=fm.sn;exact hq.mS
     obtain⟨nn,np,l2⟩:=ke fd;subst l2;clear fm il fd dc dk hz eo ex ev f2 gl gm hh;go_wp2;go_roundw
     case rel=>exact⟨t7,_,e++[Bc #[I U K,I U L,I U M,y7 P,Z aa al ac,Z C ao bc,Z ca cl cc]],b++[p1],kr,by unfold Hid;rw[ab,ab,ky.o];rfl,ji⟩
     case measure=>rw[HM.o,j3.o];have:=fx.o;have:=d4.o;simp only[ij]at *;omega
 case rest=>
 obtain⟨bd,ov,e,b,u,x,HE⟩:=hcut;obtain⟨w5,md⟩:∃w5,w5=wc:=⟨_,rfl⟩;subst md;have d1:=rU x.dbk;obtain⟨f,cp⟩:∃f,w5.heap.size=f:=⟨_,rfl⟩;obtain⟨W6,c7⟩:∃W6,w5.alloc (BV #[Z N 0 0,I U u] 31)=W6:=⟨_,rfl⟩;have dp:wt (wm f w5 W6):=by rw[<-cp,<-c7];exact(ar _ _).alloc (ag _) _
 have ek:wt (W6.heap[f]?=O (BV #[Z N 0 0,I U u] 31 (0,0))):=by rw[<-cp,<-c7];exact bn _ _
 have gt:=H c7;have g9:=ap x.dbk;rw[cp]at g9;obtain⟨J,hN⟩:∃J,G e=J:=⟨_,rfl⟩;have m3:J<=200001:=by have:=x.o.few;omega
 have cr:=x.o.own;obtain⟨oa,oc,bx⟩:=ke x.o.own;rw[hN]at bx;have HN:=H hN;clear c7 a7 d3 cr
 go_upto_region 18 with fail
 rw[gt.o];clear gt d1
 go_upto_block 2 with fail
 go_cut []from 13 (λwx=>∃(bv:wg) (k:List wg),wt (wm f w5 wx)/\wt (wx.heap[f]?=O (BV #[bv,I U u] 31 (0,0)))/\wt (wx.ownsRow (f+1) 67 7 bv (G k) (k.flatMap cellsOf))/\wt (G k=J)/\wt (∀(t:Nat) (c ad:wg),e[t]?=O c->k[t]?=O ad->FM c ad))
 case first=>
  go_wp2_with fail;go_loopw [11] (λiv wr=>∃(y:Nat) (bv:wg) (k:List wg),y<=J/\iv=I U y/\wt (wm f w5 wr)/\wt (wr.heap[f]?=O (BV #[bv,I U u] 31 (0,0)))/\wt (wr.ownsRow (f+1) 67 7 bv (G k) (k.flatMap cellsOf))/\wt (G k=y)/\wt (∀(t:Nat) (c ad:wg),e[t]?=O c->k[t]?=O ad->FM c ad)) (λiv _=>J-(intOf iv).toNat)
  case atStart=>exact⟨0,_,[],aw _,rfl,dp,ek,bI _ _ _ _,rfl,(λt c ad _ hy=>by simp at hy)⟩
  clear dp ek
  case round=>
   obtain⟨y,bv,k,hi,rfl,HB,HX,HO,HL,HC⟩:=hrel;have er:=(HB.block m g9).t x.dbk;have d0:=nw er;rcases aC hi with hi|hi
   ·subst hi;have m5:¬(y:Int)<(y:Int):=Y;subst bx;clear er;go_wp2
    go_meet
    case rel=>exact⟨bv,k,HB,HX,HO,HL,HC⟩
   ·obtain⟨c,n⟩:∃c,e[y]?=O c:=⟨_,af (by have:=HN.o;omega)⟩;obtain⟨p,z,A,k3,T,W,V,X,kl,kc,Q,S,R,a9⟩:=x.o.frm c (aQ n);have g3:∀c∈e,(cellsOf c).length=7:=λc n=>by obtain⟨_,_,_,_,_,_,_,_,_,_,_,_,_,rfl⟩:=x.o.frm c n;rfl
    obtain⟨a,c5,dd,l0,lb,ls,bh⟩:=rp x.o.own g3 bF n;have b5:a<f:=by rw[<-cp];exact aA w5 _ (bh 0 _ (by rw[a9];rfl))
    rw[HN.o]at dd;rw[dd]at bx;injection bx with ho1 _ ho2;subst ho1;subst ho2;rw[dd]at d0;have bt:∀{cn:wT} {a8:wg},cn.block<f->w5.cell? cn=O a8->wr.cell? cn=O a8:=λ{cn a8} hb h=>by rw[HB.o.cell hb];exact h
    have e0:wr.cell? ⟨a,y*7,N⟩=O (I U p):=bt b5 (bh 0 _ (by rw[a9];rfl));have e1:=bt b5 (bh 1 _ (by rw[a9];rfl));have e2:=bt b5 (bh 2 _ (by rw[a9];rfl));have e3:=bt b5 (bh 3 _ (by rw[a9];rfl));have e4:=bt b5 (bh 4 _ (by rw[a9];rfl));have e5:=bt b5 (bh 5 _ (by rw[a9];rfl));have e6:=bt b5 (bh 6 _ (by rw[a9];rfl));have m9:(y:Int)<(J:Int):=Y;have k8:=H a9;have k9:=H n;clear bt bh g3 ls l0 lb er n a9 dd;obtain⟨F,dk⟩:∃F,F=wr:=⟨_,rfl⟩;subst dk
    go_upto_if 85 with fail
    go_cut []from 71 to 92 (λwx=>∃B:ByteArray,wt (B=if p=8 then{data:=#[]} else k3)/\wx=F.alloc (BV #[I U p,I U z,I U A,y7 B,Z T W V,Z X kl kc,Z Q S R] 67))
    case first=>
     by_cases h8:p=8
     ·have m8:(p==8)=CD:=eS;have d2:wt (({data:=#[]}:ByteArray)=if p=8 then{data:=#[]} else k3):=by unfold Hid;rw[ak h8]
      clear h8 e0 e1 e2 e3 e4 e5 e6 d0;go_wp2
      go_meet
      case rel=>exact⟨_,d2,rfl⟩
     ·have m8:(p==8)=CS:=eS;have d2:wt (k3=if p=8 then{data:=#[]} else k3):=by unfold Hid;rw[aj h8]
      clear h8 e0 e1 e2 e3 e4 e5 e6 d0;go_wp2
      go_meet
      case rel=>exact⟨_,d2,rfl⟩
    case rest=>
    obtain⟨B,kx,b7⟩:=hcut;have b7:=b7.s;subst b7;have b1:wm F.heap.size F (F.alloc (BV #[I U p,I U z,I U A,y7 B,Z T W V,Z X kl kc,Z Q S R] 67)):=(ar _ _).alloc (ag _) _;have b2:wm F.heap.size F ((F.alloc (BV #[I U p,I U z,I U A,y7 B,Z T W V,Z X kl kc,Z Q S R] 67)).alloc (BV #[I U p,I U z,I U A,y7 B,Z T W V,Z X kl kc,Z Q S R] 67)):=b1.alloc cO _;have f0:(F.alloc (BV #[I U p,I U z,I U A,y7 B,Z T W V,Z X kl kc,Z Q S R] 67)).cell? ⟨f,0,N⟩=O bv:=cb (nt _ HX);have cr:=ym HO b2;have km:=H cr;have cg:=H b2;have eu:=Hs (W:=F.alloc (BV #[I U p,I U z,I U A,y7 B,Z T W V,Z X kl kc,Z Q S R] 67)) (a0:=I U p) (a1:=I U z) (a2:=I U A) (a3:=y7 B) (a4:=Z T W V) (a5:=Z X kl kc) (a6:=Z Q S R);rw[aV]at eu;have bw:=Iq p z A B T W V X kl kc Q S R;have ni:=ap HX;obtain⟨va,vc,en⟩:=ke HO;subst en;have m7:G k<=200001:=by rw[HL.o];omega
    clear b1 b2 e0 e1 e2 e3 e4 e5 e6 d0;go_wp2_with (at_builtin;refine rW _ rfl (.tmp 88) (.tmp 90) 29 rfl (f+1) 67 i0 _ 7 112 dw hf h5 h7 e9 rfl bF (Z va (G k) vc) (G k) (k.flatMap cellsOf) rfl cr ⟨F.heap.size+1,0,N⟩ 1 1 [I U p,I U z,I U A,y7 B,Z T W V,Z X kl kc,Z Q S R] rfl rfl eu ?hone ?h63 ?hby ?hbs ?_)
    case hone=>first|exact bw|exact⟨rfl,rfl,rfl,rfl,rfl,rfl,rfl⟩
    case h63=>unfold maxLen;omega
    case hby=>omega
    case hbs=>first|omega|(simp;omega)
    intro b4 cf dm ce mb;have g7:=λa hg=>(HO.lt a hg).1;have et:∀a,a<=f->cf.heap[a]?=F.heap[a]?:=λa hg=>(ce.block a eS (λi=>by have:=g7 a i.s;omega)).t (cg.block a Y);have c9:=(et f (ag _)).t HX;have g4:=lQ 0 c9;have g5:cf.cell? ⟨f,0,N⟩=O (Z va (G k) vc):=cb c9;have i4:wt (wm f w5 (cf.setCell ⟨f,0,N⟩ b4)):=⟨ce.os.t (cg.o.os.t HB.o.os),ce.tape.t (cg.tape.t HB.tape),ce.output.t (cg.o.output.t HB.o.output),by have d:=ce.size;have j:=cg.o.size;have h3:=HB.o.size;show _<=(cf.setCell ⟨f,0,N⟩ b4).heap.size;simp only[aV,World.setCell]at *;simp;omega,λa hg=>by rw[lK _ (show a≠f by omega),et a Y];exact HB.block a hg⟩;have kz:wt ((cf.setCell ⟨f,0,N⟩ b4).heap[f]?=O (BV #[b4,I U u] 31 (0,0))):=by unfold Hid;rw[nu _ c9];rfl
    have kd:wt ((cf.setCell ⟨f,0,N⟩ b4).ownsRow (f+1) 67 7 b4 (k++[Bc #[I U p,I U z,I U A,y7 B,Z T W V,Z X kl kc,Z Q S R]]).length ((k++[Bc #[I U p,I U z,I U A,y7 B,Z T W V,Z X kl kc,Z Q S R]]).flatMap cellsOf)):=by unfold Hid;rw[ab,cK];have:=bJ (a:=⟨f,0,N⟩) dm (λi=>absurd (dm.lt f i).1 Y) b4;rw[show([Bc #[I U p,I U z,I U A,y7 B,Z T W V,Z X kl kc,Z Q S R]].flatMap cellsOf)=[I U p,I U z,I U A,y7 B,Z T W V,Z X kl kc,Z Q S R]from rfl];exact this
    have i5:wt (∀(t:Nat) (c ad:wg),e[t]?=O c->(k++[Bc #[I U p,I U z,I U A,y7 B,Z T W V,Z X kl kc,Z Q S R]])[t]?=O ad->FM c ad):=λt x2 y2 e8 br=>by
     rcases cW t (G k) with c5|c5
     ·rw[aR c5]at br;exact HC t x2 y2 e8 br
     ·rw[aW c5]at br;match hj:t-G k,br with
      |0,br=>
       have:t=y:=by have:=HL.o;omega
       subst this;rw[k9.o]at e8;cases e8;simp at br;subst br;exact⟨p,z,A,k3,T,W,V,X,kl,kc,Q,S,R,k8,by rw[kx.o]⟩
      |j2+1,br=>simp at br
    obtain⟨n0,n1,la⟩:=ke dm;subst la;clear dm ce mb et c9 cr eu bw g7 km;go_wp2;go_roundw
    case rel=>exact⟨y+1,_,k++[Bc #[I U p,I U z,I U A,y7 B,Z T W V,Z X kl kc,Z Q S R]],Y,rfl,i4,kz,kd,by unfold Hid;rw[ab,HL.o];rfl,i5⟩
    case measure=>exact eT
 case rest=>
 obtain⟨bv,k,HB,HX,HO,HL,HC⟩:=hcut;obtain⟨E,dj⟩:∃E,E=wc:=⟨_,rfl⟩;subst dj;have em:wm w5.heap.size w5 E:=by rw[cp];exact HB
 have dv:wt ((bd=N/\qL (bl g))\/∃q:List (VT 12×List Nat),bd=O []/\TV (m+1) 12 E ov u6 e (q.map nA)/\(∀c∈q,uh c)/\jK (bl g)=O (q,u)):=by
  rcases HE.o with h|⟨q,d,j,h3,h4⟩;·exact C1 h
  ·exact C2 ⟨q,d,(x.belowS em).2 j,h3,h4⟩
 have l:=H (x.belowS (Vs:=[]) em).1;obtain⟨p6,h6⟩:=l.o.sn;have c2:=h6.c2;have d0:=nw l.dbk;have d1:=rU l.dbk;have b0:=nw HX;have b1:=rU HX;have r0:=nw l.rb;have r1:=rU l.rb;have f0:=lQ 0 l.rb;have f1:=lQ 1 l.rb;clear em HE x h6 dp ek;rcases dv.o with⟨ht,l1⟩|⟨q,ht,bm,b6,ha⟩
 ·subst ht;simp only[Option.isNone_none]at c2;subst bx;have o7:iJ w.heap.size E ((E.setCell ⟨w.heap.size,0,N⟩ (Z oa J oc)).setCell ⟨w.heap.size,1,N⟩ (I U u)).drew:=(((iJ.refl _ _).setCell 0 _).setCell 1 _).t (iJ.drew _);have x7:((E.setCell ⟨w.heap.size,0,N⟩ (Z oa J oc)).setCell ⟨w.heap.size,1,N⟩ (I U u)).drew.heap[w.heap.size]?=O (BV #[Z oa J oc,I U u] 31 (0,0)):=Cz l.rb _ _;have k6:=H x7;have cj:=H o7;clear x7 o7;go_wp2_with fail;go_region;generalize ((E.setCell ⟨w.heap.size,0,N⟩ (Z oa J oc)).setCell ⟨w.heap.size,1,N⟩ (I U u)).drew=W7 at *;go_wp2;refine aK (v:=BG #[Bc #[Z oa J oc,I U u],Bs CS]) ?_ rfl ?_;·exact GH results83 _ _ w.heap.size _ rfl (run_loadVar_row _ w.heap.size 31 31 _ _ _ k6 ft rfl aG)
  ·have hb:=l.o.below;exact⟨⟨cj.o.os.t hb.os,cj.tape.t hb.tape,cj.o.output.t hb.output,aJ hb.size cj.size,λa hg=>(cj.block a (by have:=hb.size;omega) Y).t (hb.block a hg)⟩,_,CS,rfl,C1 ⟨rfl,l1,_,_,_,_,rfl⟩⟩
 ·subst ht;simp only[Option.isNone_some]at c2;have hs:oZ (λa=>m+1<=a) 12 0 (q.map Prod.fst) E bv:=by
   refine⟨k,Bq HO (aw _),?_,λy ad m0 hy hX=>?_⟩;·rw[aq,HL.o,<-HN.o,bm.1,aq]
   ·rw[aE]at hX;cases ct:q[y]? with
    |none=>rw[ct]at hX;cases hX
    |some b9=>
     rw[ct]at hX;cases hX;have lw:y<G e:=by have:=(ay.1 ct).1;have j:=bm.1;rw[aq]at j;omega
     have h0:=af lw;have hv:=bm.2 y e[y] (nA b9) h0 (by rw[aE,ct];rfl);exact iR.m 12 ((HC y e[y] ad h0 hy).vin hv (b6 b9 (aQ ct))) (λa d j=>d.1)
  have fv:wt (∀bs:vz,wm E.heap.size E bs->wh DG 41 #[Bc #[bv,I U u]] bs λi s=>i=BX (Bs (jh (q.map Prod.fst) u))/\wm bs.heap.size bs s):=λbs hb=>
   Sh (hs.keep hb) (λad hy=>by obtain⟨c,n,rfl⟩:=cE.1 hy;exact(b6 c n).1) (by rw[aq];have d:=bm.1;rw[aq]at d;have j:=l.o.few;simp only[ij,aB]at j;omega)
  have c4:=H bm;have c0:=H b6;have i6:=H ha;obtain⟨va,vc,en⟩:=ke HO;subst en;subst bx;clear hs bm b6 ha;obtain⟨ID,el⟩:∃ID,jh (q.map Prod.fst) u=ID:=⟨_,rfl⟩;rw[el]at fv;have j1:=H el;clear el;have ma:=ap l.rb;have l5:=ap l.dbk;go_wp2_with fail;go_region_with (go_at_call 41;apply(fv _ (by first|exact(ar _ _).drew|exact ar _ _)).m;rintro i w8 ⟨rfl,da⟩;have x8:=(da.block _ ma).t l.rb;have s0:w8.cell? ⟨w.heap.size,0,N⟩=O (Z N 0 0):=(cb x8);have s1:w8.cell? ⟨w.heap.size,1,N⟩=O (I U 0):=(cb x8);have z0:w8.frozen? ⟨w.heap.size,0,N⟩=CS:=pA x8;have z1:w8.frozen? ⟨w.heap.size,1,N⟩=CS:=pA x8;have x9:=(da.block _ l5).t l.dbk;have s2:w8.cell? ⟨m,0,N⟩=O (Z oa J oc):=(cb x9);have s3:w8.cell? ⟨m,1,N⟩=O (I U u):=(cb x9);clear x9);all_goals (
   have fu:=H (l.fin (W:=(w8.setCell ⟨w.heap.size,0,N⟩ (Z oa J oc)).setCell ⟨w.heap.size,1,N⟩ (I U u)) ((ar E.heap.size E).drew.t da) rfl c4 c0 i6 j1);clear s0 s1 s2 s3 z0 z1 x8 da;generalize (w8.setCell ⟨w.heap.size,0,N⟩ (Z oa J oc)).setCell ⟨w.heap.size,1,N⟩ (I U u)=W9 at *;go_wp2;refine aK (v:=BG #[Bc #[Z oa J oc,I U u],Bs ID]) ?_ rfl ?_;·exact GH results83 _ _ w.heap.size _ rfl (run_loadVar_row _ w.heap.size 31 31 _ _ _ fu.1 ft rfl aG)
   ·exact fu.2)
end
section
variable{w a:vz}
def FR(g:Nat->List Nat->List Nat->Prop)(e:Nat)(d:List (VT (e+3)))(i:Int)(w:vz)(h:xc)(a:vz):Prop:=
 ∃f b c,h=BX f/\a.ownsRow w.heap.size 5 1 f (G b) (nU b)/\wm w.heap.size w a/\pG g e d c/\((G c=G d/\b=iE c i)\/(200000<G b/\b=hJ++gD c 1))
structure KD(EE:Nat->List Nat->List Nat->Prop)(j:Nat)(Ys:List (VT (j+3)))(w w0:vz)(ms:List (List Nat))(ov pv:wg)(W:vz):Prop where
 ow:(ms=[]/\qz (w.heap.size+1) (w.heap.size+2) (w.heap.size+1) W ov pv hJ [])\/(ms≠[]/\jg (w.heap.size+1) (w.heap.size+2) W ov pv (hJ++gD ms 1) (g8 ms 9 1))
 bel:wm (w.heap.size+1) w0 W
 bod:pG EE j Ys ms
 sm:(hJ++gD ms 1).length<=200000
def whead_obj(b:List (List Nat))(c:List Nat):hJ++gD (b++[c]) 1=(hJ++gD b 1)++(wohead ((G b:Int)+1)++(c++[10,101,110,100,111,98,106,10])):=by rw[qH,jb,<-au];have:((1+G b:Nat):Int)=(G b:Int)+1:=Y;rw[this]
def whead_place(b:List (List Nat))(c:List Nat):g8 (b++[c]) 9 1=g8 b 9 1++[(hJ++gD b 1).length]:=by rw[pN,ab];rfl
def wlines_len:∀(b:List Nat),(∀c∈b,c<10^10)->(b.flatMap jd).length=20*G b
 | [],_=>rfl
 |c::b,h=>by rw[cG,ab,tu c (h c (bU ..)),wlines_len b (λe d=>h e (cu _ d)),ai];omega
def TY{e j k f g:Nat}{u:Nat->List Nat->List Nat->Prop}(J:ve u k)(K:k<=1000000){c:vz}{B s:wg}{i pl:List Nat}(y:pR j c)(x:j<=f)(h:jg f g c B s i pl){v:Nat->Prop}{b:f_ (VT (e+2))}{t:wg}(A:iR v (e+3) c t b)(p:vA k e b)(P:G i<=300000):wh DG (bif ((b.kind:Int)==8)then 131 else 132) #[A3 (O ⟨g,0,N⟩),t] c λl a=>∃r,BO u e b r/\mZ f g c s i pl r l a:=by
 have M:=p.len;by_cases d:b.kind=8
 ·obtain⟨L,z,n,o⟩:=p.str d;have n:=n;have o:=o;have m:((b.kind:Int)==8)=CD:=by rw[d];rfl
  rw[m];apply(Uu J K y x h A z n o Y).m;rintro l a ⟨r,⟨C,D,E,F,rfl⟩,q⟩;refine⟨_,C1 ⟨d,C,D,?_,F,rfl⟩,q⟩;rw[z.fil,aq];exact E
 ·have m:((b.kind:Int)==8)=CS:=by have:¬((b.kind:Int)=8):=Y;simpa using this
  rw[m];apply(Hg (e+3) f g j c B s i pl v t b y x h A (p.val d) Y).m;intro l a q;exact⟨_,C2 ⟨d,rfl⟩,q⟩
def Uf{j Ev a0:Nat}{v:Nat->List Nat->List Nat->Prop}(hE:ve v a0)(bm:a0<=1000000)(he:pR Ev w)(g:Ev<=w.heap.size){cn:Nat->Prop}{q:List (VT (j+3))}{b3:wg}{root:Int}(hO:oZ cn (j+3) 0 q w b3)(cv:1<=G q)(hn:G q<=100000)(c2:∀c∈q,vA a0 j c)(hr : -9223372036854775808<=root/\root<=9223372036854775807):wh DG 62 #[Bc #[b3,I U root]] w (FR v j q root w):=by
 obtain⟨oa,oc,rfl⟩:=hO.len;have HO:=H (hO.m (λt _ h=>h));have cg:=H c2;have HE:=H hE;have P:=H he;have ao:=H hr;obtain⟨x,hN⟩:∃x,G q=x:=⟨_,rfl⟩;have HN:=H hN;rw[hN]at hn cv ⊢;rw[hN]at HO;have xa:=bn w (BV #[Z oa x oc,I U root] 31);have xb:=bn (w.alloc (BV #[Z oa x oc,I U root] 31)) (BV #[I .u8 37,I .u8 80,I .u8 68,I .u8 70,I .u8 45,I .u8 49,I .u8 46,I .u8 52,I .u8 10] 5);rw[aV]at xb;have bb:wm w.heap.size w ((w.alloc (BV #[Z oa x oc,I U root] 31)).alloc (BV #[I .u8 37,I .u8 80,I .u8 68,I .u8 70,I .u8 45,I .u8 49,I .u8 46,I .u8 52,I .u8 10] 5)):=((ar _ _).alloc (ag _) _).alloc cO _;obtain⟨Q,cs,⟨fm,ct⟩,M,T⟩:=cm (n:=9) (c:=9) xb;have c8:=(M.block w.heap.size eS Y).t (nt _ xa);have bC:=bb.t ⟨M.os,M.tape,M.output,M.size,λk hk=>M.block k eS Y⟩;simp only[aV]at T;have T:Q.heap.size=w.heap.size+2:=T;have xD:=bn Q (BV #[Z (O ⟨w.heap.size+1,0,N⟩) 9 9,Z N 0 0] 122);rw[T]at xD;have HM:wt (qz (w.heap.size+1) (w.heap.size+2) (w.heap.size+1) (Q.alloc (BV #[Z (O ⟨w.heap.size+1,0,N⟩) 9 9,Z N 0 0] 122)) (Z (O ⟨w.heap.size+1,0,N⟩) 9 9) (Z N 0 0) hJ []):=
  ⟨Y,rfl,xD,⟨fm,nt _ ct⟩,ag _,bI _ _ _ _⟩
 have b4:=nt (BV #[Z (O ⟨w.heap.size+1,0,N⟩) 9 9,Z N 0 0] 122) c8;have bD:wm w.heap.size w (Q.alloc (BV #[Z (O ⟨w.heap.size+1,0,N⟩) 9 9,Z N 0 0] 122)):=bC.alloc Y _;have ck:=H b4;have b9:=H bD;have cr:=nw b4
 go_in
 go_wp2_with fail;generalize cp:Q.alloc (BV #[Z (O ⟨w.heap.size+1,0,N⟩) 9 9,Z N 0 0] 122)=WD at *;have cc:wt (KD v j q w WD [] (Z (O ⟨w.heap.size+1,0,N⟩) 9 9) (Z N 0 0) WD):=⟨C1 ⟨rfl,HM⟩,ar _ _,⟨aw _,λdi c7 c V _=>by simp at V⟩,by simp[hJ,gD]⟩;clear cs cp T HM cr;go_loopw [14] (λiv wr=>∃(e:Nat) (d:List (List Nat)) (ov pv:wg),e<=x/\iv=I U e/\G d=e/\wt (KD v j q w WD d ov pv wr)) (λiv _=>x-(intOf iv).toNat)
 case atStart=>exact⟨0,[],_,_,aw _,rfl,rfl,cc⟩
 case round=>
  obtain⟨e,d,ov,pv,B,rfl,r,l⟩:=hrel;have s:=H (b9.t (l.bel.m (e_ _)));have ac:=(l.bel.block _ (Nat.lt_succ_self _)).t ck;have bz:w.heap.size+1<=wr.heap.size:=ap ac;rcases aC B with B|B
  ·subst B;have K:jg (w.heap.size+1) (w.heap.size+2) wr ov pv (hJ++gD d 1) (g8 d 9 1):=by
    rcases l.o.ow with⟨h0,_⟩|⟨_,h⟩;·rw[h0]at r;simp at r;omega
    ·exact h
   have a4:=l.o.sm;have S:(g8 d 9 1).length=e:=by rw[jJ,r]
   have a3:∀a5∈g8 d 9 1,a5<10^10:=λa5 hp=>by
    have h1:=pu d 9 1 a5 hp;have h2:(hJ++gD d 1).length=9+(gD d 1).length:=by rw[ab];rfl
    omega
   obtain⟨dj,dl,cw⟩:=ke K.oo;subst cw;have A:=K.blk;obtain⟨L4,aa⟩:∃L4,L4=(hJ++gD d 1).length:=⟨_,rfl⟩;rw[<-aa]at A;have c0:=nw A;have da:L4<=200000:=by rw[aa];exact a4
   have R:=P.o.low (s.o.m g);have HC:=H (Ud R (fr g) K a3 (by rw[S];omega));have ad:=H aa;have X:=H S;have ce:=H r;have cl:=H ac;have ci:=H a3;clear K a4 S a3 A aa R ac r;go_wp2_with fail;apply HC.o.m;rintro p w6 ⟨rfl,dp,h6,k6⟩;have b2:=k6.block w.heap.size _ cO cl (C2 λbh fz p=>by cases p);have c1:=rU b2;have b6:=s.o.t ((Kept.below k6.toKept bz (λt i=>by simp at i;subst i;omega)).m (e_ _));have co:(kQ (g8 d 9 1)).length<=100+20*e:=by
    unfold kQ;rw[ab];have h1:((g8 d 9 1).flatMap jd).length=20*e:=by rw[wlines_len _ ci.o,X.o]
    have h2:=jp (n:=((g8 d 9 1).length:Int)+1) Y (by rw[X.o];omega);unfold j6;simp only[ab,ai,aB];omega
   have hT:=H (Uy (root:=root) (P.low (b6.m g)) (fr g) h6 (by rw[X.o];omega) ao (by rw[ab,<-ad.o];omega));have B6:=H b6;have b1:((hJ++gD d 1)++kQ (g8 d 9 1)).length<=300000+20*e:=by rw[ab,<-ad.o];omega
   have cd:=H b1;have db:=k6.size;clear h6 k6 b2 b6 HC co b1 c0;go_wp2_with fail;apply hT.o.m;rintro p w7 ⟨rfl,ds,h7,k7⟩;have b7:=B6.o.t ((Kept.below k7.toKept Y (λt i=>by simp at i;subst i;omega)).m (e_ _));have ba:=H (Hb (P.low (b7.m g)) (aJ g b7.size) (L4:Int) Y Y);have H7:=H h7;have B7:=H b7;clear h7 k7 b7 hT c1;go_wp2_with fail;apply ba.o.m;rintro p w8 ⟨a1,rfl,hS,b8⟩;have dg:a1.size<=20:=by rw[<-mC,hS];exact jp Y Y
   have HP:=H (AO (H7.below b8) {data:=#[115,116,97,114,116,120,114,101,102,10]} a1 {data:=#[10,37,37,69,79,70,10]} (by
    show _+(10+(_+7))<=_;have h1:=cd.o;have h2:(wtrail (((g8 d 9 1).length:Int)+1) root).length<=200:=by have h3:=jp (n:=((g8 d 9 1).length:Int)+1) Y (by rw[X.o];omega);have h4:=jp (n:=root) ao.1 ao.2;unfold wtrail;simp only[ab,ai,aB];omega
    rw[ab];omega))
   have B8:=H (B7.t (b8.m B7.size));have cj:=H hS;have dd:=b8.size;have dc:=(H7).bw;clear b8 hS ba H7;go_wp2_with fail;apply HP.o.m;rintro p w9 ⟨rfl,dv,h9,k9⟩;obtain⟨dk,dm,cy⟩:=ke h9.oo;subst cy;have bv:=h9.blk;generalize br:(hJ++gD d 1++kQ (g8 d 9 1)++wtrail (((g8 d 9 1).length:Int)+1) root)++(bl {data:=#[115,116,97,114,116,120,114,101,102,10]}++(bl a1++bl {data:=#[10,37,37,69,79,70,10]}))=O9 at *;have c9:=nw bv;have H9:=H h9;have B9:=H (B8.t ((Kept.below k9.toKept Y (λt i=>by simp at i;subst i;omega)).m (e_ _)));have cf:=H br;clear h9 k9 bv br HP;go_wp2;go_ret;refine⟨_,O9,d,rfl,Bq H9.o.oo (e_ _),B9,l.bod,C1 ⟨by rw[ce.o,HN.o],?_⟩⟩;rw[<-cf.o];unfold iE;rw[cj.o,ad.o,jJ];simp only[au];rfl
  ·obtain⟨c,hy⟩:∃c,q[e]?=O c:=⟨_,af (by rw[HN.o];exact B)⟩;change f_ (VT (j+2))at c;obtain⟨t,bh,c7,b0,_,_,V,u⟩:=(HO.keep s).at hy;rw[HN.o]at b0;cases b0;obtain⟨C,D,E,F,y,z,c4,_⟩:=iR.split (k:=j+2) V;subst c4;have d0:wr.cell? ⟨t,e*7,N⟩=O (I U (c.kind:Int)):=u 0 _ rfl;have d1:=u 1 _ rfl;have d2:=u 2 _ rfl;have d3:=u 3 _ rfl;have d4:=u 4 _ rfl;have d5:=u 5 _ rfl;have d6:=u 6 _ rfl;have bf:=H (cg c (aQ hy));have HX:=H V;have HY:=H hy;have a8:wt (∀m:vz,wm (w.heap.size+1) (wr.alloc (BV #[I U (c.kind:Int),I U c.n,I U (c.places:Int),y7 (gj c.text),Z C c.items.length D,Z E c.keys.length F,Z y c.filters.length z] 67)) m->wm w.heap.size w m):=λm b=>(s.alloc s.size _).t (b.m (e_ _));have a6:wt (∀(m:vz) (o1 W:wg),jg (w.heap.size+1) (w.heap.size+2) m o1 W ((hJ++gD d 1)++wohead ((e:Int)+1)) (g8 d 9 1++[(hJ++gD d 1).length])->wm (w.heap.size+1) (wr.alloc (BV #[I U (c.kind:Int),I U c.n,I U (c.places:Int),y7 (gj c.text),Z C c.items.length D,Z E c.keys.length F,Z y c.filters.length z] 67)) m->wh DG (bif ((c.kind:Int)==8)then 131 else 132) #[A3 (O ⟨w.heap.size+2,0,N⟩),Bc #[I U (c.kind:Int),I U c.n,I U (c.places:Int),y7 (gj c.text),Z C c.items.length D,Z E c.keys.length F,Z y c.filters.length z]] m λp a=>∃f,BO v j c f/\mZ (w.heap.size+1) (w.heap.size+2) m W ((hJ++gD d 1)++wohead ((e:Int)+1)) (g8 d 9 1++[(hJ++gD d 1).length]) f p a):=λm o1 W ho hb=>by
    have bs:=a8.o m hb;refine TY HE bm (P.low (bs.m g)) (fr g) ho (HX.keep _ (λt i _=>?_)) bf ?_;·rw[bs.block t i,s.o.block t i]
    ·have h1:=l.o.sm;have h2:=jp (n:=(e:Int)+1) Y Y;rw[ab];unfold wohead;simp only[ab,ai,aB]at h1 ⊢;omega
   have bc:wt (∀f,BO v j c f->G f<=102100000):=λf B=>bf.body bm B;have S:(g8 d 9 1).length=e:=by rw[jJ,r]
   have a4:=l.o.sm;have a9:wt (wh DG 93 #[A3 (O ⟨w.heap.size+2,0,N⟩),I U ((e:Int)+1),Bc #[I U (c.kind:Int),I U c.n,I U (c.places:Int),y7 (gj c.text),Z C c.items.length D,Z E c.keys.length F,Z y c.filters.length z]] (wr.alloc (BV #[I U (c.kind:Int),I U c.n,I U (c.places:Int),y7 (gj c.text),Z C c.items.length D,Z E c.keys.length F,Z y c.filters.length z] 67)) λp a=>p=BX (BG #[])/\∃f o1 W,BO v j c f/\jg (w.heap.size+1) (w.heap.size+2) a o1 W ((hJ++gD d 1)++(wohead ((e:Int)+1)++(f++[10,101,110,100,111,98,106,10]))) (g8 d 9 1++[(hJ++gD d 1).length])/\wm (w.heap.size+1) (wr.alloc (BV #[I U (c.kind:Int),I U c.n,I U (c.places:Int),y7 (gj c.text),Z C c.items.length D,Z E c.keys.length F,Z y c.filters.length z] 67)) a):=by
    have R:pR Ev (wr.alloc (BV #[I U (c.kind:Int),I U c.n,I U (c.places:Int),y7 (gj c.text),Z C c.items.length D,Z E c.keys.length F,Z y c.filters.length z] 67)):=P.o.low ((s.alloc s.size _).m g);rcases l.o.ow with⟨h0,hM⟩|⟨h0,K⟩
    ·subst h0;exact TQ R bc (fr g) (hM.alloc _) Y Y (aw _) (by show 9+100+102100000<=500000000;omega) a6
    ·exact Kw R bc (fr g) (K.alloc _) Y Y Y Y a6
   clear V u hy ac S;go_wp2_with fail;apply a9.o.m;rintro p w5 ⟨rfl,f,o5,p5,bx,L,bt⟩;have ca:=H (a8 w5 bt);rw[<-r]at L;rw[<-whead_obj,<-whead_place d f]at L;have a7:=H (l.bod.snoc (by rw[r];exact HY) bx);have b5:=H (l.bel.t (((ar _ _).alloc bz _).t bt));obtain⟨c5,c6,cx⟩:=ke L.oo;subst cx;have A:=L.blk;obtain⟨J,a2⟩:∃J,J=(hJ++gD (d++[f]) 1).length:=⟨_,rfl⟩;rw[<-a2]at A;have c0:=nw A;have bd:=H L;have al:=H a2;clear L bx A a2 a9 d0 d1 d2 d3 d4 d5 d6;by_cases cq:200000<J
   ·have tb:decide ((J:Int)>200000)=CD:=eS;go_wp2;go_ret;have c3:w5.ownsRow w.heap.size 5 1 (Z c5 J c6) (hJ++gD (d++[f]) 1).length (nU (hJ++gD (d++[f]) 1)):=by rw[al.o];exact Bq bd.o.oo (e_ _)
    exact⟨_,_,d++[f],rfl,c3,ca,a7,C2 ⟨by rw[<-al.o];exact cq,rfl⟩⟩
   ·have tb:decide ((J:Int)>200000)=CS:=eS;go_wp2;go_roundw
    case rel=>exact⟨e+1,d++[f],_,_,Y,by first|rfl|(congr 1),by rw[ab,r];rfl,⟨C2 ⟨cO,bd⟩,b5,a7,by rw[<-al.o];omega⟩⟩
    case measure=>exact eT
def KI(g:Nat->List Nat->List Nat->Prop)(d:List (VT 12))(c:Int)(w:vz)(e:xc)(a:vz):Prop:=
 wm w.heap.size w a /\
 ((jh d c=CS/\e=BX (BG #[Z N 0 0,I U 2])) \/
  (jh d c=CD/\∃b,pG g 9 d b /\
  ((G b=G d/\(iE b c).length<=200000/\∃f,e=BX (BG #[f,I U 0])/\a.ownsRow w.heap.size 5 1 f (iE b c).length (nU (iE b c))) \/
   (e=BX (BG #[Z N 0 0,I U 3])/\((G b=G d/\200000<(iE b c).length)\/200000<(hJ++gD b 1).length)))))
def Uj{D u:Nat}{C:Nat->List Nat->List Nat->Prop}(K:ve C u)(a0:u<=1000000)(R:pR D w)(L:D<=w.heap.size){ao:Nat->Prop}{c:List (VT 12)}{z:wg}{b:Int}(h:oZ ao 12 0 c w z)(x:∀n,wm w.heap.size w n->wh DG 61 #[Bc #[z,I U b]] n λi a=>i=BX (Bs (jh c b))/\wm n.heap.size n a)(T:jh c b=CD->∀a3∈c,vA u 9 a3):wh DG 24 #[Bc #[z,I U b]] w (KI C c b w):=by
 obtain⟨W,X,rfl⟩:=h.len;obtain⟨m,M⟩:∃m,G c=m:=⟨_,rfl⟩;rw[M]at h x ⊢;have v:wm w.heap.size w (w.alloc (BV #[Z W m X,I U b] 31)):=(ar _ _).alloc (ag _) _;have A:=bn w (BV #[Z W m X,I U b] 31);have s:=H (x _ v);have HV:=H h;have ad:=H T;have HE:=H K;have ac:=H R;have B0:=H v;clear h T K R v M x
 go_in
 go_wp2_with fail;apply s.o.m;rintro i w1 ⟨rfl,p⟩;have r:=(p.block w.heap.size cO).t A;have c0:=nw r;have c1:=rU r;have d:=B0.o.t (p.m cO);cases e:jh c b with
 |false=>
  have g:=H d;have l:=H e;clear p A r e d s;go_wp2
  go_ret2
  exact⟨g,C1 ⟨l,rfl⟩⟩
 |true=>
  have hb:1<=G c/\G c<=100/\1<=b/\b<=(G c:Int):=by unfold jh at e;simp only[a_,bT]at e;omega
  have F:=H (Uf (j:=9) (root:=b) HE a0 (ac.low (d.m L)) (aJ L d.size) (HV.keep d) Y Y (ad e) Y);have g:=H d;have l:=H e;clear p A r e d s hb;go_wp2_with fail;apply F.o.m;rintro i w2 ⟨a5,a2,V,rfl,q,J,P,Q⟩;obtain⟨va,vc,hv⟩:=ke q;subst hv;have a1:=JP q;have al:=H q;have B:=H (g.t (J.m g.size));have aa:=g.o.size;have k:=H (And.intro P Q);obtain⟨t,y⟩:∃t,t=G a2:=⟨_,rfl⟩;have E:=H y;rw[<-y]at a1 ⊢;clear q J P Q y F c0 c1;by_cases a4:t<=200000
  ·go_wp2_with (go_at_call 63;apply(BZ _ _ _ _ Y Y).m;rintro i a ⟨rfl,rfl⟩)
   go_ret2
   refine⟨B,C2 ⟨l,V,k.1,C1 ?_⟩⟩;have S:=E.o;rcases k.o.2 with⟨f,rfl⟩|⟨f,_⟩
   ·refine⟨f,Y,_,rfl,?_⟩;rw[S];exact Bq al aa
   ·omega
  ·go_wp2_with (go_at_call 63;apply(BU _ _ _ _ Y).m;rintro i a ⟨rfl,rfl⟩)
   go_ret2
   refine⟨B,C2 ⟨l,V,k.1,C2 ⟨rfl,?_⟩⟩⟩;have S:=E.o;rcases k.o.2 with⟨f,rfl⟩|⟨f,rfl⟩;·exact C1 ⟨f,Y⟩
   ·exact C2 f
end
def gu.padTo(k a:Nat):gu (iD k a):=by unfold iD;refine gu.app (λc b=>?_) (gu.dig a);have:=List.eq_of_mem_replicate b;omega
def gu.wint(a:Nat):gu (gU (a:Int)):=by rw[qI];exact gu.dig a
def gu.table(pl:List Nat):gu (kQ pl):=by
 unfold kQ j6;refine gu.app (gu.app (gu.lit bF) (gu.app ?_ (gu.lit bF))) (gu.flatMap (λa _=>?_));·rw[show((G pl:Int)+1)=((G pl+1:Nat):Int)by omega];exact gu.wint _
 ·unfold jd;exact gu.app (gu.padTo _ _) (gu.lit bF)
def gu.trail(a k:Nat):gu (wtrail ((a:Int)+1) (k:Int)):=by unfold wtrail;rw[show((a:Int)+1)=((a+1:Nat):Int)by omega];exact gu.app (gu.app (gu.lit bF) (gu.app (gu.lit bF) (gu.app (gu.wint _) (gu.app (gu.lit bF) (gu.app (gu.wint _) (gu.app (gu.lit bF) (gu.lit bF))))))) (gu.lit bF)
def gu.body:∀(c:List (List Nat)) (a:Nat),(∀b∈c,gu b)->gu (gD c a)
 | [],_,_=>λb d=>by cases d
 |b::f,a,h=>by unfold gD jb wohead;exact gu.app (gu.app (gu.app (gu.wint a) (gu.lit bF)) (gu.app (h b (bU ..)) (gu.lit bF))) (gu.body f (a+1) (λg e=>h g (cu _ e)))
def gu.file{a:List (List Nat)}(k:Nat)(h:∀b∈a,gu b):gu (iE a (k:Int)):=by unfold iE;exact gu.app (gu.app (gu.lit bF) (gu.body a 1 h)) (gu.app (gu.table _) (gu.app (gu.trail _ _) (gu.app (gu.lit bF) (gu.app (gu.wint _) (gu.lit bF)))))
def gu.wintI(b:Int):gu (gU b):=by
 unfold gU;split;·exact gu.app (a:=[45]) (gu.lit bF) (show gu (gJ b.natAbs)by rw[un];exact gu.dig _)
 ·rw[un];exact gu.dig _
def gu.real(g:Int)(f:Nat):gu (jQ g f):=by
 have d:∀e:Nat,gu (kB e f):=λe=>by
  unfold kB;refine gu.app (gu.app (λc b=>gu.padTo _ _ c (cN b)) (gu.app (a:=[46]) (gu.lit bF) (λc b=>gu.padTo _ _ c (dW b)))) ?_;split;·exact gu.lit bF
  ·exact λc b=>by cases b
 unfold jQ;split;·exact gu.app (a:=[45]) (gu.lit bF) (d _)
 ·exact d _
def yh(a:Nat)(h:a<16):gR a<256:=by have:∀a:Fin 16,gR a.1<256:=bF;exact this ⟨a,h⟩
def gu.name{e:List Nat}(h:∀d∈e,d<256):gu (gN e):=by
 refine gu.app (a:=[47]) (gu.lit bF) (gu.flatMap λb f=>?_);have:=h b f;unfold i8;split;·intro d c;rcases cZ.1 c with rfl;exact this
 ·intro d c;have g:=yh (b/16) Y;have i:=yh (b%16) Y;simp only[cJ,eZ,or_false]at c;rcases c with rfl|rfl|rfl<;>omega
def gu.quoted{d:List Nat}(h:∀e∈d,e<256):gu (lI d):=by
 refine gu.app (gu.app (a:=[40]) (gu.lit bF) (gu.flatMap λb f=>?_)) (gu.lit bF);have:=h b f;unfold jx;intro e c;split at c
 ·simp only[cJ,eZ,or_false]at c;rcases c with rfl|rfl<;>omega
 ·split at c;·rcases cZ.1 c with rfl;exact this
  ·simp only[cJ,eZ,or_false]at c;rcases c with rfl|rfl|rfl|rfl<;>omega
def gu.join{b:List (List Nat)}(h:∀c∈b,gu c):gu (gY b):=by
 cases b with
 |nil=>exact λc d=>by cases d
 |cons c b=>exact gu.app (h c (bU ..)) (gu.flatMap λf e=>gu.app (a:=[32]) (gu.lit bF) (h f (cu _ e)))
def gu.wv:∀(k:Nat) {c:VT k},uN c->gu (gT c)
 |0,_,_=>λd b=>by cases b
 |k+1,c,h=>by
  obtain⟨_,_,_,_,f,j,e⟩:=h;unfold gT;split;·exact gu.lit bF
  ·split;·exact gu.lit bF
   ·exact gu.lit bF
  ·exact gu.wintI _
  ·exact gu.real _ _
  ·exact gu.name f
  ·exact gu.quoted f
  ·refine gu.app (a:=[91]) (gu.lit bF) (gu.app (gu.join λd b=>?_) (gu.lit bF));obtain⟨n,l,rfl⟩:=cE.1 b;exact gu.wv k (e n l)
  ·refine gu.app (a:=[60,60]) (gu.lit bF) (gu.app (gu.join λd b=>?_) (gu.lit bF));obtain⟨i,m,rfl⟩:=cE.1 b;have g:=eA m;exact gu.app (gu.name (j i.1 g.1)) (gu.app (a:=[32]) (gu.lit bF) (gu.wv k (e i.2 g.2)))
  ·exact gu.app (gu.wintI _) (gu.lit bF)
  ·exact λd b=>by cases b
def yC{a k:Nat}(h:a<10^(k+1)):(ju a).length<=k+1:=pW k a h
def uK{a k:Nat}(h:a<10^(k+1)):(gU (a:Int)).length<=k+1:=by rw[qI];exact yC h
def rQ(b:Nat):∀(c:List (List Nat)) (a:Nat),(∀d∈c,G d<=b)->a+G c<=1000->(gD c a).length<=G c*(b+20)
 | [],_,_,_=>aw _
 |d::g,a,h,e=>by
  have m:=rQ b g (a+1) (λi f=>h i (cu _ f)) vu;have l:=h d (bU ..);have j:(gU (a:Int)).length<=3:=uK (k:=2) vu;rw[gD,ab,ai,Nat.succ_mul];have:(jb a d).length<=b+20:=by unfold jb wohead;simp only[ab,ai,aB];omega
  omega
def th{a:List (List Nat)}{b k:Nat}(h:∀g∈a,G g<=b)(e:0<G a/\G a<=6)(t:b<=30000)(s:k<1000):(hJ++gD a 1).length<=200000/\(iE a (k:Int)).length<=190000/\60<=(iE a (k:Int)).length:=by
 have q:=rQ b a 1 h Y;have r:G a*(b+20)<=6*30020:=Nat.mul_le_mul e.2 Y;have j:(hJ++gD a 1).length=9+(gD a 1).length:=by rw[ab];rfl
 refine⟨Y,?_⟩;have n:(kQ (g8 a 9 1)).length<=40+20*G a/\28+20*G a<=(kQ (g8 a 9 1)).length:=by
  have c:∀p∈g8 a 9 1,p<10^10:=λp c=>by have:=pu a 9 1 p c;omega
  have f:=jJ a 9 1;unfold kQ;rw[ab,wlines_len _ c,f];have d:(gU ((G a:Int)+1)).length<=3:=by rw[show((G a:Int)+1)=((G a+1:Nat):Int)by omega];exact uK (k:=2) Y
  unfold j6;simp only[ab,ai,aB];omega
 have m:(wtrail ((G a:Int)+1) (k:Int)).length<=80/\10<=(wtrail ((G a:Int)+1) (k:Int)).length:=by
  have d:(gU ((G a:Int)+1)).length<=3:=by rw[show((G a:Int)+1)=((G a+1:Nat):Int)by omega];exact uK (k:=2) Y
  have o:(gU (k:Int)).length<=3:=uK (k:=2) Y;unfold wtrail;simp only[ab,ai,aB];omega
 have l:(gU (((hJ++gD a 1).length:Nat):Int)).length<=6:=uK (k:=5) Y;unfold iE;generalize hJ++gD a 1=i at *;rw[ab,ab,ab,ab,ab];simp only[ai,aB];omega
section
variable{B g f b cap:Nat}{d:List Nat}{a:Nat}{w:vz}{p:Nat}{h:wg}{c:List Nat}
def F9{ao:Option wT}{n:Nat}{P:wg->vz->Prop}(k:wh DG 103 #[Z ao n cap] w λi j=>∃e,i=BX e/\P e j):wh DG 70 #[I U 3,Z ao n cap] w λi j=>∃e,i=BX e/\P e j:=by
 have l:=H k;clear k
 go_in
 go_wp2_with fail;apply l.o.m;rintro i q ⟨e,rfl,m⟩;go_wp2;go_ret;exact⟨e,rfl,m⟩
end
section
open Go.ChangeShapes Go.WideShapes Go.ChangeAt Go.RowKit
def Tryz.laidOutE:laidOutB DG=CD:=by kernel_rfl
def Tryz.ownE:ownKnob Tryz.prog.godebug=N:=by kernel_rfl
def Tryz.cellsU : Tryz.prog.cellsOf 234=1:=by kernel_rfl
def Tryz.gPowT:(Tryz.prog.globals[0]?).map (·.type)=O 275:=by kernel_rfl
def Tryz.cellsP : Tryz.prog.cellsOf 275=20:=by kernel_rfl
def QS{q:Type}{enc:TypeId×wg->q}{s:Assume}{C:Checked}{os:Os}{k:FuncId}{d:Func}{e:ChangeSpec}{i v w t:Bool}{X:vz->Array wg->Prop}
  (E:∀(a y:vz) (c:Array wg),a.heap=y.heap->X a c->X y c) (M:ownKnob C.prog.godebug=N) (R:os.Started) (L:C.prog.inits.idxOf? k=N) (F:C.prog.funcs[k]?=O d)
  (V:∃(a:vz) (f:Tape) (b:Input),a.os=os/\(a.forCall f b).Shaped C.prog/\b.vars=[]/\Input.okWide C.prog (a.forCall f b) .any a.heap.size k b/\((e.pre enc C.prog d [] i (a.forCall f b).memory b.args/\X (a.forCall f b).memory b.args)/\sizedMet enc C.prog d (OpenSpec.ofChange e) i (a.forCall f b).memory b.args)/\s.holds C.prog (lone (Frame.enter C.prog k b.args .normal) [] (a.forCall f b)))
  (B:∀(j:vz) (A:Nat) (c:Array wg) (n o:List (DataW q)) (p:List MemPlace),(∀(l:Nat) m g,d.params[l]?=O m->c[l]?=O g->Value.okWide C.prog j .any A m g)->DataW.Whole enc C.prog d.params.toList e.vars i j c.toList n o p ->(DataW.weightsEach C.prog (d.params.toList++e.plain.varTypes C.prog) (n++o)).all (· <= reachBytes)=CD->X j c->j.ShapedOpen C.prog->wh C.prog k c j λu r=>∃g,u=BX g/\e.post enc C.prog d i v w t j c g r):ReturnsInHanded s C os k .any (λa c=>(e.pre enc C.prog d [] i a c/\X a c)/\sizedMet enc C.prog d (OpenSpec.ofChange e) i a c) (e.post enc C.prog d i v w t):=by
 apply returnsInHanded_of_calls M R L V;intro a f b _ P _ D pre _;obtain⟨⟨⟨n,o,p,z,_⟩,K⟩,Q⟩:=pre;have T:DataW.Whole enc C.prog d.params.toList e.vars i (a.forCall f b) b.args.toList n o p:=DataW.Whole.of_heap (by rfl) z;have S:∀(l:Nat) m g,d.params[l]?=O m->b.args[l]?=O g->Value.okWide C.prog (a.forCall f b) .any a.heap.size m g:=by obtain⟨_,_,_,W,x,_,_,_,_,J⟩:=D;rw[F]at x;cases x;exact J
 refine(B _ _ _ _ _ _ S T (Q.weights z) (E _ _ _ (by rfl) K) P).m λu r h=>?_;obtain⟨g,rfl,h⟩:=h;exact ChangeSpec.post_blind h
end
section
open Go.ChangeShapes Go.WideShapes Go.ChangeAt Go.ChangeMaps Go.RowKit
def Uk:joinedFacts Tryz.pinned.checked.prog 5 f5 Rows.writesSpec Rows.writesRow=CD:=by
 unfold joinedFacts;simp only[a_];repeat' (with_reducible apply And.intro)
 all_goals as_aux_lemma=>kernel_rfl
def wn : Tryz.pinned.checked.prog.funcNamed Rows.writesRow.func=O 5:=by kernel_rfl
def T_ : f5.isInstance Tryz.pinned.checked.prog Rows.writesRow.origin Rows.writesRow.targs:=of_decide_eq_true aG
def ww : f5.isWrapper Tryz.pinned.checked.prog Rows.writesRow.wrapper Rows.writesRow.mainSum:=by unfold Func.isWrapper;first|(rw[ak (by decide +kernel)];kernel_rfl)|(rw[aj (by decide +kernel)];exact⟨rfl,rfl⟩)
end
section
open Go
def Uq:Rows.writesRow.wfByText (OpenSpec.ofChange Rows.writesSpec)=CD:=by kernel_rfl
def Un : Tryz.pinned.checked.prog.mainIs=O (Rows.writesCard.stood.harness.1,Rows.writesCard.stood.harness.2.toList):=by kernel_rfl
def Ua:CD = Tryz.pinned.checked.prog.looks []:=by kernel_rfl
def Ul:CS=Rows.writesRow.goesBy Tryz.pinned.checked.prog:=by kernel_rfl
end
section
variable{w:vz}{B cap:Nat}{ao:Option wT}{c:List Nat}
def Rt{a:List Nat}(h:∀f∈a,f<256)(b:Nat)(d:b<G a):nth a b<256:=by
 have e:nth a b=a[b]:=by simp only[nth,aL,af d,Option.getD_some]
 rw[e];exact h _ (cI d)
def Mc:∀(e:List Nat),(∀d∈e,d<256)->∀d∈iL e,d<256:=by
 intro e;induction e with
 |nil=>intro _ d a;simp[iL]at a
 |cons b e j=>
  intro h d a;rw[qD]at a;have l:=h b cO;have f:∀g:Fin 16,gR g.val<256:=by decide +kernel
  rcases cJ.1 a with rfl|a;·exact f ⟨b/16,Y⟩
  rcases cJ.1 a with rfl|a;·exact f ⟨b%16,Y⟩
  ·exact j (λk i=>h k (by simp[i])) d a
def Hv{a:Nat}(h:a<=4294967295):∀d∈jv a,d<256:=by intro d b;have:a/52200625<=84:=Y;simp only[jv,cJ,eZ,or_false]at b;rcases b with rfl|rfl|rfl|rfl|rfl<;>omega
def ef:∀(g:List Nat),(∀b∈g,b<256)->(∀b∈jD g,b<256)/\(jD g).length<=2*G g+2
 | [],_=>⟨by simp[jD],by simp[jD]⟩
 | [d],h=>by
  have e:=h d cO;have f:=Hv (BS e (by omega:0<256) (by omega:0<256) (by omega:0<256));refine⟨?_,by simp[jD,jv]⟩;intro b a;simp only[jD,aZ]at a;rcases a with a|a;·exact f b (cN a)
  ·simp at a;omega
 | [d,i],h=>by
  have e:=h d cO;have j:=h i cO;have f:=Hv (BS e j (by omega:0<256) (by omega:0<256));refine⟨?_,by simp[jD,jv]⟩;intro b a;simp only[jD,aZ]at a;rcases a with a|a;·exact f b (cN a)
  ·simp at a;omega
 | [d,i,k],h=>by
  have e:=h d cO;have j:=h i cO;have l:=h k cO;have f:=Hv (BS e j l (by omega:0<256));refine⟨?_,by simp[jD,jv]⟩;intro b a;simp only[jD,aZ]at a;rcases a with a|a;·exact f b (cN a)
  ·simp at a;omega
 |d::i::k::m::g,h=>by
  have e:=h d cO;have j:=h i cO;have l:=h k cO;have n:=h m cO;have f:=Hv (BS e j l n);obtain⟨o,p⟩:=ef g (λb a=>h b (by simp[a]));refine⟨?_,?_⟩
  ·intro b a;simp only[jD,aZ]at a;rcases a with a|a
   ·split at a;·simp at a;omega
    ·exact f b a
   ·exact o b a
  ·simp only[jD,ab,ai];split;·simp;omega
   ·simp[jv];omega
def F8{n:Nat}{P:wg->vz->Prop}(e:wh DG 102 #[Z ao n cap] w λb d=>∃a,b=BX a/\P a d):wh DG 70 #[I U 2,Z ao n cap] w λb d=>∃a,b=BX a/\P a d:=by
 have f:=H e;clear e
 go_in
 go_wp2_with fail;apply f.o.m;rintro b h ⟨a,rfl,g⟩;go_wp2;go_ret;exact⟨a,rfl,g⟩
def P7(cap:Nat):wh DG 103 #[Z ao 0 cap] w λh f=>∃a,h=BX a/\f.ownsRow w.heap.size 5 1 a 1 ([128].map λb:Nat=>I .u8 (b:Int))/\Kept 5 w.heap.size [] w f:=by
 obtain⟨o,j,l,m,n⟩:=bR infoByte
 go_in
 go_wp2;go_loopw [0,3] (λg a wr=>g=Z ao 0 cap/\a=Z N 0 0/\wr=w) (λ_ _ _=>0)
 case atStart=>exact⟨rfl,rfl,rfl⟩
 case round=>
  obtain⟨rfl,rfl,rfl⟩:=hrel;go_wp2_with (at_builtin;refine aX _ rfl (.tmp 37) (.tmp 38) 23 rfl wr.heap.size 5 o (I .u8 0) 1 1 az j l m n rfl bF (Z N 0 0) 0 [] rfl (bI _ _ _ _) ⟨wr.heap.size,0,N⟩ 1 1 ([128].map λb:Nat=>I .u8 (b:Int)) rfl rfl ?hnews ?hone ?h63 ?hby ?hbs ?_)
  case hnews=>exact zU rfl
  case hone=>intro s e;simp at e;subst e;rfl
  case h63=>unfold maxLen;omega
  case hby=>omega
  case hbs=>simp
  intro q t k d _;have p:=((Kept.refl 5 wr.heap.size [] wr).alloc _).grown d (λr i=>by simp[Value.ownBlock]at i);clear d;go_wp2;go_ret;exact⟨q,rfl,k,p⟩
def PV(cap:Nat):wh DG 102 #[Z ao 0 cap] w λg e=>∃a,g=BX a/\e.ownsRow w.heap.size 5 1 a 2 ([126,62].map λr:Nat=>I .u8 (r:Int))/\Kept 5 w.heap.size [] w e:=by
 obtain⟨n,i,l,d,m⟩:=bR infoByte
 go_in
 go_wp2;go_loopw [0,3] (λf a wr=>f=Z ao 0 cap/\a=Z N 0 0/\wr=w) (λ_ _ _=>0)
 case atStart=>exact⟨rfl,rfl,rfl⟩
 case round=>obtain⟨rfl,rfl,rfl⟩:=hrel;have k:=H (Src.ofString (P:= DG) wr (tx:= 9) dC {data:=#[126,62]});go_wp2_with (at_builtin;refine AC rfl (.tmp 19) (.const (y7 {data:=#[126,62]})) 23 9 rfl wr.heap.size 5 n (I .u8 0) 1 az i l d m rfl (Z N 0 0) 0 _ rfl (bI _ _ _ _) (y7 {data:=#[126,62]}) 2 (bV [126,62]) rfl (by rw[d];exact k) Y lB Y Y ?_);intro q t j b;have p:=(Kept.refl 5 wr.heap.size [] wr).grown b (λs h=>by simp[Value.ownBlock]at h);clear b;go_wp2;go_ret;exact⟨q,rfl,j,p⟩
end
section
variable{w:vz}
structure WE(f:Nat)(d enc:List Nat):Prop where
 ok:1<=f/\f<=4
 byd:∀x∈d,x<256
 byt:∀x∈enc,x<256
 len:G enc<=2*G d+20
 is:((f=1/\enc=iL d++[62])\/(f=2/\enc=jD d)\/(f=3/\enc=je d))\/(f=4/\∃bl,FSx d bl/\enc=qP d bl/\ye d bl)
def F4:ve WE 200000:=by
 refine⟨λw c p a ⟨L,M⟩ D s=>?_,λp a d h=>h.byt,λp a d h=>by have:=h.len;omega⟩;obtain⟨⟨l,k,rfl,q,u,v,C⟩,m⟩:=D;have r:=λE B=>Rt m E B;have K:WE 1 a (iL a++[62]):=⟨Y,m,λx j=>by
  rcases aZ.1 j with j|j;·exact Mc a m x j
  ·simp at j;omega,by rw[ab,mn];simp,C1 (C1 ⟨rfl,rfl⟩)⟩
 have z:WE 2 a (jD a):=⟨Y,m,(ef a m).1,by have:=(ef a m).2;omega,C1 (C2 (C1 ⟨rfl,rfl⟩))⟩;have A:WE 3 a (je a):=by
  have i:je a=lH (G a+1) a++[128]:=by rw[je,pj]
  have s:=oM (G a+1) a;refine⟨Y,m,λx j=>?_,by rw[i,ab];simp;omega,C1 (C2 (C2 ⟨rfl,rfl⟩))⟩;rw[i]at j;rcases aZ.1 j with j|j;·exact nT _ a m x j
  ·simp at j;omega
 obtain rfl|rfl|rfl|rfl:p=1\/p=2\/p=3\/p=4:=Y
 ·have:=F7 (w:=w) (ao:=l) (n:=G a) (cap:=k) (P:=λc e=>∃d,e.ownsRow w.heap.size 5 1 c (G d) (nU d)/\wm w.heap.size w e/\WE 1 a d) ((PZ l k a (ag _) q Y r).m (by
   rintro i e ⟨c,rfl,f,g⟩;have s:(iL a++[62]).length=2*G a+1:=by simp[mn]
   exact⟨c,rfl,iL a++[62],by rw[s];exact f,g.below (ag _) cO,K⟩))
  apply this.m;rintro i e ⟨c,rfl,d,f,g,o⟩;exact⟨c,d,rfl,f,g,o⟩
 ·have:=F8 (w:=w) (ao:=l) (n:=G a) (cap:=k) (P:=λc e=>∃d,e.ownsRow w.heap.size 5 1 c (G d) (nU d)/\wm w.heap.size w e/\WE 2 a d) (by
   by_cases t:0<G a
   ·obtain⟨b,J,rfl,_,_⟩:=q.at t;apply(PW q (ag _) r Y ⟨u,v⟩).m;rintro i e ⟨c,rfl,f,g⟩;exact⟨c,rfl,jD a,f,g.below (ag _) cO,z⟩
   ·obtain rfl:a=[]:=dh Y;apply(PV k).m;rintro i e ⟨c,rfl,f,g⟩;exact⟨c,rfl,[126,62],f,g.below (ag _) cO,z⟩)
  apply this.m;rintro i e ⟨c,rfl,d,f,g,o⟩;exact⟨c,d,rfl,f,g,o⟩
 ·have:=F9 (w:=w) (ao:=l) (n:=G a) (cap:=k) (P:=λc e=>∃d,e.ownsRow w.heap.size 5 1 c (G d) (nU d)/\wm w.heap.size w e/\WE 3 a d) (by
   by_cases t:0<G a
   ·obtain⟨b,J,rfl,_,_⟩:=q.at t;apply(P8 q (ag _) r Y ⟨u,v⟩).m;rintro i e ⟨c,rfl,f,g⟩;exact⟨c,rfl,je a,f,g.below (ag _) cO,A⟩
   ·obtain rfl:a=[]:=dh Y;apply(P7 k).m;rintro i e ⟨c,rfl,f,g⟩;exact⟨c,rfl,[128],f,g.below (ag _) cO,A⟩)
  apply this.m;rintro i e ⟨c,rfl,d,f,g,o⟩;exact⟨c,d,rfl,f,g,o⟩
 ·have:=F_ (w:=w) (ao:=l) (n:=G a) (cap:=k) (P:=λc e=>∃d,e.ownsRow w.heap.size 5 1 c (G d) (nU d)/\wm w.heap.size w e/\WE 4 a d) ((PX q (ag _) r s ⟨u,v⟩ C).m (by rintro i e ⟨c,bl,rfl,f,g,o,Q,R,F,y⟩;exact⟨c,rfl,qP a bl,f,g,Y,m,Qk F,by have:=y.few;rw[Jf];omega,C2 ⟨rfl,bl,o,rfl,y⟩⟩))
  apply this.m;rintro i e ⟨c,rfl,d,f,g,o⟩;exact⟨c,d,rfl,f,g,o⟩
def WE.undo{f:Nat->Nat->List Bool->List Nat->Except Nat (List Bool×List Nat)->Prop}{d b:Nat}{a c:List Nat}(h:WE d a c)(e:G a<=b):yf f d b c (.ok a):=by
 rcases h.is with g|⟨rfl,bl,i,rfl,_⟩;·exact ue h.byd e g
 ·exact TL i b e
def Nd{e:Nat}{a j:List Nat}(h:WE e a j)(n:e<4)(m:G a<=200000)(w:vz):wh DG 36 #[I U (e:Nat),y7 (gj a)] w λd b=>d=BX (y7 (gj j))/\wm w.heap.size w b:=by
 have i:(gj a).size<=200000:=by rw[lu];exact m
 have g:=vJ _ h.byd;have f:∀{w b:vz},Kept 5 w.heap.size [] w b->wm w.heap.size w b:=λk=>k.below (ag _) (λ_ h=>by cases h);rcases h.is with l|⟨rfl,_⟩
 ·rcases l with⟨rfl,rfl⟩|⟨rfl,rfl⟩|⟨rfl,rfl⟩
  ·refine(rh (w:=w) (gj a) i).m λd b ⟨c,k⟩=>⟨?_,f k⟩;rw[c,g]
  ·refine(El (w:=w) (gj a) i).m λd b ⟨c,k⟩=>⟨?_,f k⟩;rw[c,g]
  ·refine(Sv (w:=w) (gj a) i).m λd b ⟨c,k⟩=>⟨?_,f k⟩;rw[c,g]
 ·omega
def GA:∀(c:List Nat) {a b:List Nat},mi WE c a b->G b+36<=2^(G c)*(G a+36)
 | [],a,b,h=>by have h:b=a:=h;rw[h];simp
 |f::c,a,b,h=>by obtain⟨j,d,e⟩:=h;have g:=GA c d;have i:=e.len;rw[ai,c_,dS,dK 2,<-dS];omega
def Iv{a:List Nat}{d b:List Nat}(h:mi WE a d b)(g:G a<=4)(l:G d<=20000):G b<=330000/\(G a<=3->G b<=200000):=by have i:=GA a h;have c:2^(G a)<=16:=aJ (aY Y g) bF;have j:2^(G a)*(G d+36)<=16*(G d+36):=dx _ c;refine⟨Y,λe=>?_⟩;have f:2^(G a)<=8:=aJ (aY Y e) bF;have k:2^(G a)*(G d+36)<=8*(G d+36):=dx _ f;omega
def pb:∀(d:List Nat) {a b:List Nat},mi WE d a b->(∀c∈a,c<256)->∀c∈b,c<256
 | [],a,b,h,e=>by have h:b=a:=h;rw[h];exact e
 |g::d,a,b,h,e=>by obtain⟨j,i,f⟩:=h;exact f.byt
def Tt{a3:Nat->Prop}{k:Nat}{bf:wg}{V:f_ (VT k)}(hv:ku a3 (k+1) w bf (nX (k+1) V))(a4:∀o,a3 o->o<w.heap.size){ac:List Nat}(hp:mi WE V.filters V.text ac)(hb:∀ad∈V.text,ad<256)(bz:V.filters.length<=4)(P:V.text.length<=20000):wh DG 84 #[y7 (gj ac),bf] w λn v=>n=BX (Bs CD)/\wm w.heap.size w v:=by
 obtain⟨R,T,X,kc,L,B,rfl,bw,bx,a5⟩:=hv.splitV;have bh:=H a5;have al:=H a4;have bs:=H hp;have ao:=H P;obtain⟨g,M⟩:∃g,V.filters.length=g:=⟨_,rfl⟩;have m:=H M;rw[M]at bz ⊢;generalize V.items.length=aa at *;generalize V.keys.length=nk at *;generalize V.n=nn at *;generalize (V.places:Int)=pp at *;generalize (V.kind:Int)=kd at *;have E:=(ar w.heap.size w).alloc (ag _) (BV #[I U kd,I U nn,I U pp,y7 (gj V.text),Z R aa T,Z X nk kc,Z L g B] 67);have K:=bn w (BV #[I U kd,I U nn,I U pp,y7 (gj V.text),Z R aa T,Z X nk kc,Z L g B] 67);obtain⟨j,Q⟩:∃j,w.alloc (BV #[I U kd,I U nn,I U pp,y7 (gj V.text),Z R aa T,Z X nk kc,Z L g B] 67)=j:=⟨_,rfl⟩;rw[Q]at E K;have y:=H E;have A:=H K;have bv:=H Q;clear hv bw bx a5 hp hb a4 E K Q M P
 go_in
 go_wp2;rw[bv.o];go_loopw [5,6,7,8,9] (λtv W _ _ _ wr=>∃(c:Nat) (e:List Nat),c<=g/\W=I U c/\tv=y7 (gj e)/\wt (mi WE (V.filters.drop c) V.text e)/\wt (wm j.heap.size j wr)) (λ_ W _ _ _ _=>g-(intOf W).toNat)
 case atStart=>exact⟨0,ac,aw _,rfl,rfl,bs,ar _ _⟩
 case round=>
  obtain⟨c,e,u,rfl,rfl,J,l⟩:=hrel;have HX:=H ((l.block _ (ap A)).t A);have c6:=vL HX;have bm:=H (y.t (l.o.m y.size));rcases aC u with b1|u
  ·subst b1;have b0:¬(c:Int)<(c:Int):=Y;have ht:e=V.text:=by have p:=J.o;rw[cY (by rw[m.o];exact ag _)]at p;exact p
   have c3:=yg HX;subst ht;go_wp2;go_ret;exact⟨rfl,bm⟩
  ·have b0:(c:Int)<(g:Int):=Y;obtain⟨d,C⟩:∃d,V.filters[c]?=O d:=⟨_,af (by rw[m.o];exact u)⟩;obtain⟨o,bd,rfl,a9,a7⟩:=bh.o c d C;have a6:V.filters.drop c=d::V.filters.drop (c+1):=by rw[b_ (by rw[m.o];exact u)];congr 1;rw[af (by rw[m.o];exact u)]at C;simpa using C
   have ba:=J.o;rw[a6]at ba;obtain⟨q,D,i⟩:=ba;have b5:=(Iv D (by rw[aU,m.o];omega) ao).2 (by rw[aU,m.o];omega);have P:=(Iv J (by rw[aU,m.o];omega) ao).1;have a2:wt (∀a:vz,wh DG 37 #[I U (d:Nat),y7 (gj e),I U 1000000] a λad v=>ad=BX (BG #[y7 (gj q),I U 0])/\wm a.heap.size a v):=λa=>Sl (OW:=λ_ _ _ _ _=>False) (λ_ _ _ _ _ _ h=>h.elim) (λ_ _ _ _ _ _ _ _ _ _ _ _ _ _ h=>h.elim) (w:=a) (S:=gj e) (most:=1000000) d (by rw[lu];omega) Y (res:=.ok q) (by rw[vJ _ i.byt];exact i.undo Y)
   have a1:=H D;have z:wt (∀a:vz,wm j.heap.size j a->a.cell? ⟨o,bd+c,N⟩=O (I U d)):=λa b=>by rw[b.cell (aF (al.o o a9) y.o.size),y.o.cell (al.o o a9)];exact a7
   have F:wt (∀a:vz,wm j.heap.size j a->a.cell? ⟨w.heap.size,6,N⟩=O (Z (O ⟨o,bd,N⟩) g B)):=λa b=>by rw[b.cell (ap A.o),cb A.o];rfl
   have p1:=z.o wr l;have b7:=i.ok;have bb:=lu e;have a0:=H bb;clear C a6 a7 bb;by_cases h4:d=4
   ·have bt:wt (∀a:vz,wh DG 38 #[I U ((gj e).size:Nat),y7 (gj q)] a λn v=>n=BX (Bs CD)/\wm a.heap.size a v):=λa=>by
     rcases i.is with p|⟨_,b6,hP,he,a8⟩;·rcases p with⟨p,_⟩|⟨p,_⟩|⟨p,_⟩<;>omega
     ·have f1:=a8.few;have f2:=a8.alike;have bc:=lu q;have b2:=vJ _ i.byd;refine Tg _ (gj q) Y (by rw[a0.o,he,Jf,bc];omega) (λha=>?_);rw[b2]at ha;have:=f2 ha;rw[a0.o,he,Jf,bc];omega
    have e4:((d:Int)==4)=CD:=eS;have l4:¬(d:Int)<4:=Y;clear h4 i D;generalize gj e=TT at *;go_wp2_with fail;apply(a2 _).m;rintro n x ⟨rfl,s⟩;have f:=H (l.t (s.m l.size));have d6:=F.o x f;have p3:=z.o x f;clear s c6 p1;go_wp2_with fail;apply(bt _).m;rintro n w4 ⟨rfl,t⟩;have r:=H (f.t (t.m f.size));clear t;go_wp2;go_roundw
    case rel=>exact⟨c+1,q,Y,by go_num,rfl,a1,r⟩
    case measure=>exact eT
   ·have br:=H (λa=>Nd i Y b5 a);have e4:((d:Int)==4)=CS:=eS;have l4:(d:Int)<4:=Y;clear h4 i D;generalize gj e=TT at *;go_wp2_with fail;apply(a2 _).m;rintro n x ⟨rfl,s⟩;have f:=H (l.t (s.m l.size));have d6:=F.o x f;have p3:=z.o x f;clear s c6 p1;go_wp2_with fail;apply(br _).m;rintro n w4 ⟨rfl,t⟩;have r:=H (f.t (t.m f.size));have d7:=F.o w4 r;have p4:=z.o w4 r;clear t d6 p3;go_wp2;go_roundw
    case rel=>exact⟨c+1,q,Y,by go_num,rfl,a1,r⟩
    case measure=>exact eT
end
def D8{b k:Nat}{a:VT (k+1)}(h:lG b (k+1) a=CD):¬(f_.kind (α:=VT k) a=8/\1<12-k)/\(f_.kind (α:=VT k) a=9->1<=f_.n (α:=VT k) a/\f_.n (α:=VT k) a<=(b:Int))/\lx (α:=VT k) a=CD/\lE (α:=VT k) a=CD/\∀i∈f_.items (α:=VT k) a,lG b k i=CD:=by have c:(!(decide (f_.kind (α:=VT k) a=8/\1<12-k)) && !(decide (f_.kind (α:=VT k) a=9/\¬(1<=f_.n (α:=VT k) a/\f_.n (α:=VT k) a<=(b:Int))))&&lx (α:=VT k) a&&lE (α:=VT k) a&&(f_.items (α:=VT k) a).all (lG b k))=CD:=h;simp only[a_,Bool.not_eq_true',du,bG]at c;obtain⟨⟨⟨⟨d,j⟩,e⟩,f⟩,g⟩:=c;exact⟨d,λl=>Y,e,f,g⟩
def I5{α:Type}{a:f_ α}(h:lx a=CD):(a.kind=1\/a.kind=2\/a.kind=9\/a.kind=3\/a.n=0)/\(a.kind=3\/a.places=0)/\(a.kind=4\/a.kind=5\/a.kind=8\/a.text=[])/\(a.kind=6\/a.kind=7\/a.kind=8\/a.items=[])/\(a.kind=7\/a.kind=8\/a.keys=[])/\(a.kind=8\/a.filters=[]):=by unfold lx at h;simp only[a_,Bool.or_eq_true,bT]at h;obtain⟨⟨⟨⟨⟨b,c⟩,d⟩,e⟩,f⟩,g⟩:=h;exact⟨by rcases b with(h|h|h|h)|h<;>simp[h],c,by rcases d with(h|h|h)|h<;>simp[h],by rcases e with(h|h|h)|h<;>simp[h],by rcases f with(h|h)|h<;>simp[h],g⟩
def JJ{b:List Nat}(c:∀a∈b,a<256)(h:i7 (gj b)=CD):G b<=60/\∀a∈b,0<a/\a<256:=by rw[LL,vJ _ c,lu]at h;simp only[a_,bT]at h;refine⟨h.1,λa e=>⟨?_,c a e⟩⟩;obtain⟨f,d,rfl⟩:=cF e;have:=h.2 f d;simp[nth,d]at this;omega
def Lo{a:List (List Nat)}{b:Nat}(h:n_ a b=CD):G a=b/\∀c∈a,i7 (gj c)=CD:=by unfold n_ at h;simp only[a_,bT,bG]at h;exact⟨h.1.1,h.1.2⟩
def Tx{d:Type}{a:f_ d}(h:lC a=CD):n_ a.keys a.items.length=CD/\a.text.length<=20000/\a.filters.length<=4/\(∀c∈a.keys,lj (gj c)=CS)/\∀b∈a.filters,1<=b/\b<=4:=by unfold lC at h;simp only[a_,bT,bG,Bool.not_eq_true',lu]at h;exact⟨h.1.1.1.1,h.1.1.1.2,h.1.1.2,h.1.2,h.2⟩
def Kj{α:Type}(d e:α->Nat)(c:Nat):∀a:List α,(∀b∈a,d b<=c*e b)->(a.map d).sum<=c*(a.map e).sum
 | [],_=>cO
 |b::a,h=>by have i:=h b cO;have j:=Kj d e c a (λg f=>h g (by simp[f]));simp only[bM,cT,Nat.mul_add];omega
def Ml{b:List (List Nat)}(h:∀a∈b,G a<=60):(b.map λa=>10+3*G a).sum<=190*G b:=sum_le _ 190 _ λa c=>by have:=h a c;omega
structure yv{k:Nat}(V:VT k):Prop where
 rt:mA V
 wok:uN V
 tok:CP V
 len:gV V+200<=17000*jt k V
def NW{k:Nat}(a:List (VT k)):(a.map λb=>200+gV b).sum=190*G a+(a.map λb=>10+gV b).sum:=by
 induction a with
 |nil=>rfl
 |cons b a c=>simp only[bM,cT,ai];omega
def TI{a:Int}(h:a.tmod 10≠0):a%10≠0:=λb=>h (Int.tmod_eq_zero_of_dvd (Int.dvd_of_emod_eq_zero b))
def LF{Q k:Nat}(n:f_ (VT k))(W:By (k:=k+1) n)(aa:lG Q (k+1) n=CD)(ad:Q<=100)(h8:n.kind≠8)(x:∀b∈n.items,yv b):yv (k:=k+1) n:=by
 obtain⟨_,J,X,g,_⟩:=D8 aa;obtain⟨b1,b2,R,S,T,V⟩:=I5 X;obtain⟨p,q,_⟩:=W;have M:gV (k:=k+1) n=100+4*n.text.length+(n.items.map λb=>10+gV b).sum+(n.keys.map λf=>10+3*G f).sum:=rfl;have K:jt (k+1) n=1+(n.items.map (jt k)).sum:=rfl;obtain⟨d,c,v,m,o,r,C⟩:=n;simp only at *;have y:o=[]->r=[]->G m<=4000->gV (k:=k+1) (⟨d,c,v,m,o,r,C⟩:f_ (VT k))+200<=17000*jt (k+1) (⟨d,c,v,m,o,r,C⟩:f_ (VT k)):=λe1 e2 i=>by rw[M,K,e1,e2];simp;omega
 have L:G r<=G o->(∀f∈r,G f<=60)->m=[]->gV (k:=k+1) (⟨d,c,v,m,o,r,C⟩:f_ (VT k))+200<=17000*jt (k+1) (⟨d,c,v,m,o,r,C⟩:f_ (VT k)):=λe1 e2 i=>by have k1:=Ml e2;have k2:=Kj (λb=>200+gV b) (jt k) 17000 o (λb a=>by have:=(x b a).len;omega);have k3:=NW o;rw[M,K,i,Nat.mul_add];simp only[aB];omega
 have ac:d<=9:=by
  rcases cW 9 d with F|F
  ·obtain⟨P,rfl⟩:∃P,d=P+10:=⟨d-10,Y⟩;cases g
  ·exact F
 have D:d≠1->d≠2->d≠9->d≠3->c=0:=λ_ _ _ _=>Y;have u:d≠3->v=0:=λ_=>Y;have z:d≠4->d≠5->m=[]:=λ_ _=>by rcases R with h|h|h|h<;>first|omega|exact h
 have w:d≠6->d≠7->o=[]:=λ_ _=>by rcases S with h|h|h|h<;>first|omega|exact h
 have t:d≠7->r=[]:=λ_=>by rcases T with h|h|h<;>first|omega|exact h
 have s:C=[]:=by rcases V with h|h<;>first|omega|exact h
 rcases(by omega:d=0\/d=1\/d=2\/d=3\/d=4\/d=5\/d=6\/d=7\/d=9)with rfl|rfl|rfl|rfl|rfl|rfl|rfl|rfl|rfl
 ·have e1:=D Y Y Y Y;have e2:=u Y;have i:=z Y Y;have l:=w Y Y;have j:=t Y;subst e1;subst e2;subst i;subst l;subst j;subst s;exact⟨C1 rfl,⟨C1 (show 0<=7 by omega),by show(-9223372036854775808:Int)<=0/\(0:Int)<=_;omega,(λh=>by have h:(0:Nat)=3:=h;omega),(λh=>by have h:(0:Nat)=7:=h;omega),p,q,(λb a=>by cases a)⟩,⟨by show(-9223372036854775807:Int)<=0;omega,by show(0:Nat)<=_;omega,(λf e=>by cases e),(λb a=>by cases a)⟩,y rfl rfl pf⟩
 ·have e2:=u Y;have i:=z Y Y;have l:=w Y Y;have j:=t Y;subst e2;subst i;subst l;subst j;subst s;have g:decide (0<=c/\c<=1)=CD:=g;rw[cL]at g;exact⟨C2 (C1 ⟨c,Y,rfl⟩),⟨C1 (show 1<=7 by omega),by show(-9223372036854775808:Int)<=c/\c<=_;omega,(λh=>by have h:(1:Nat)=3:=h;omega),(λh=>by have h:(1:Nat)=7:=h;omega),p,q,(λb a=>by cases a)⟩,⟨by show(-9223372036854775807:Int)<=c;omega,by show(0:Nat)<=_;omega,(λf e=>by cases e),(λb a=>by cases a)⟩,y rfl rfl pf⟩
 ·have e2:=u Y;have i:=z Y Y;have l:=w Y Y;have j:=t Y;subst e2;subst i;subst l;subst j;subst s;have g:decide (-2147483648<=c/\c<=2147483647)=CD:=g;rw[cL]at g;exact⟨C2 (C2 (C1 ⟨c,Y,Y,rfl⟩)),⟨C1 (show 2<=7 by omega),by show(-9223372036854775808:Int)<=c/\c<=_;omega,(λh=>by have h:(2:Nat)=3:=h;omega),(λh=>by have h:(2:Nat)=7:=h;omega),p,q,(λb a=>by cases a)⟩,⟨by show(-9223372036854775807:Int)<=c;omega,by show(0:Nat)<=_;omega,(λf e=>by cases e),(λb a=>by cases a)⟩,y rfl rfl pf⟩
 ·have i:=z Y Y;have l:=w Y Y;have j:=t Y;subst i;subst l;subst j;subst s;have g:((decide (v=0)||decide (c.tmod 10≠0))&&decide (v<=5)&&decide (-999999999<=c/\c<=999999999))=CD:=g;simp only[a_,Bool.or_eq_true,bT]at g;obtain⟨⟨E,A⟩,B⟩:=g;exact⟨C2 (C2 (C2 (C1 ⟨c,v,Y,Y,A,E.elim C1 (λh=>C2 (TI h)),rfl⟩))),⟨C1 (show 3<=7 by omega),by show(-9223372036854775808:Int)<=c/\c<=_;omega,(λ_=>⟨B.1,B.2,A⟩),(λh=>by have h:(3:Nat)=7:=h;omega),p,q,(λb a=>by cases a)⟩,⟨by show(-9223372036854775807:Int)<=c;omega,by show(0:Nat)<=_;omega,(λf e=>by cases e),(λb a=>by cases a)⟩,y rfl rfl pf⟩
 ·have e1:=D Y Y Y Y;have e2:=u Y;have l:=w Y Y;have j:=t Y;subst e1;subst e2;subst l;subst j;subst s;obtain⟨E,A⟩:=JJ p (show i7 (gj m)=CD from g);exact⟨C2 (C2 (C2 (C2 (C1 ⟨m,A,rfl⟩)))),⟨C1 (show 4<=7 by omega),by show(-9223372036854775808:Int)<=0/\(0:Int)<=_;omega,(λh=>by have h:(4:Nat)=3:=h;omega),(λh=>by have h:(4:Nat)=7:=h;omega),p,q,(λb a=>by cases a)⟩,⟨by show(-9223372036854775807:Int)<=0;omega,by show (G m)<=_;omega,(λf e=>by cases e),(λb a=>by cases a)⟩,y rfl rfl Y⟩
 ·have e1:=D Y Y Y Y;have e2:=u Y;have l:=w Y Y;have j:=t Y;subst e1;subst e2;subst l;subst j;subst s;have g:decide ((gj m).size<=4000)=CD:=g;rw[cL,lu]at g;exact⟨C2 (C2 (C2 (C2 (C2 (C1 ⟨m,p,rfl⟩))))),⟨C1 (show 5<=7 by omega),by show(-9223372036854775808:Int)<=0/\(0:Int)<=_;omega,(λh=>by have h:(5:Nat)=3:=h;omega),(λh=>by have h:(5:Nat)=7:=h;omega),p,q,(λb a=>by cases a)⟩,⟨by show(-9223372036854775807:Int)<=0;omega,by show (G m)<=_;omega,(λf e=>by cases e),(λb a=>by cases a)⟩,y rfl rfl g⟩
 ·have e1:=D Y Y Y Y;have e2:=u Y;have i:=z Y Y;have j:=t Y;subst e1;subst e2;subst i;subst j;subst s;exact⟨C2 (C2 (C2 (C2 (C2 (C2 (C1 ⟨o,λb a=>(x b a).rt,rfl⟩)))))),⟨C1 (show 6<=7 by omega),by show(-9223372036854775808:Int)<=0/\(0:Int)<=_;omega,(λh=>by have h:(6:Nat)=3:=h;omega),(λh=>by have h:(6:Nat)=7:=h;omega),p,q,(λb a=>(x b a).wok)⟩,⟨by show(-9223372036854775807:Int)<=0;omega,by show(0:Nat)<=_;omega,(λf e=>by cases e),(λb a=>(x b a).tok)⟩,L pf (λf e=>by cases e) rfl⟩
 ·have e1:=D Y Y Y Y;have e2:=u Y;have i:=z Y Y;subst e1;subst e2;subst i;subst s;obtain⟨E,A⟩:=Lo (show n_ r (G o)=CD from g);have B:=λf e=>JJ (q f e) (A f e);exact⟨C2 (C2 (C2 (C2 (C2 (C2 (C2 (C1 ⟨r,o,E,λf e=>(B f e).2,λb a=>(x b a).rt,rfl⟩))))))),⟨C1 (show 7<=7 by omega),by show(-9223372036854775808:Int)<=0/\(0:Int)<=_;omega,(λh=>by have h:(7:Nat)=3:=h;omega),(λ_=>E),p,q,(λb a=>(x b a).wok)⟩,⟨by show(-9223372036854775807:Int)<=0;omega,by show(0:Nat)<=_;omega,(λf e=>by have:=(B f e).1;omega),(λb a=>(x b a).tok)⟩,L Y (λf e=>(B f e).1) rfl⟩
 ·have e2:=u Y;have i:=z Y Y;have l:=w Y Y;have j:=t Y;subst e2;subst i;subst l;subst j;subst s;have J:=J rfl;refine⟨C2 (C2 (C2 (C2 (C2 (C2 (C2 (C2 ⟨c.toNat,Y,Y,?_⟩))))))),⟨C2 rfl,by show(-9223372036854775808:Int)<=c/\c<=_;omega,(λh=>by have h:(9:Nat)=3:=h;omega),(λh=>by have h:(9:Nat)=7:=h;omega),p,q,(λb a=>by cases a)⟩,⟨by show(-9223372036854775807:Int)<=c;omega,by show(0:Nat)<=_;omega,(λf e=>by cases e),(λb a=>by cases a)⟩,y rfl rfl pf⟩;show(⟨9,c,0,[],[],[],[]⟩:f_ (VT k))=ik (VT k) 9 ((c.toNat:Nat):Int) 0 [];rw[show((c.toNat:Nat):Int)=c by omega];rfl
def Ly{j:Nat}(f:j<=100):∀(k:Nat) (a:VT (k+1)),k<=11->By a->lG j (k+1) a=CD->f_.kind (α:=VT k) a≠8->yv a:=by
 intro k;induction k with
 |zero=>intro a l c d e;exact LF a c d f e (λb=>(show Empty from b).elim)
 |succ k n=>intro a l c d e;refine LF a c d f e (λb g=>?_);have m:=D8 d;have i:=m.2.2.2.2 b g;exact n b Y (c.2.2 b g) i (λh=>(D8 i).1 ⟨h,Y⟩)
structure I3(V:f_ (VT 11)):Prop where
 n0:V.n=0
 p0:V.places=0
 st:q_ V
 kl:∀s∈V.keys,G s<=60
 kb:∀s∈V.keys,∀x∈s,x<256
 fl:V.filters.length<=4
 tl:V.text.length<=20000
 tb:∀x∈V.text,x<256
 items:∀y∈V.items,yv y
 len:gV (k:=12) V<=80200+17000*jt 12 V
def EA{m:Nat}(u:m<=100)(a:f_ (VT 11))(f:By (k:=12) a)(v:lG m 12 a=CD)(q:a.kind=8):I3 a:=by
 obtain⟨_,_,s,j,l⟩:=D8 (k:=11) v;obtain⟨C,D,E,F,J,K⟩:=I5 s;have d:lC a=CD:=by unfold lE at j;have r:=q;rw[r]at j;exact j
 obtain⟨x,y,z,A,B⟩:=Tx d;obtain⟨o,p⟩:=Lo x;have g:∀c∈a.items,yv c:=λc e=>Ly u 10 c Y (f.2.2 c e) (l c e) (λh=>(D8 (k:=10) (l c e)).1 ⟨h,Y⟩);have i:∀b∈a.keys,G b<=60/\∀n∈b,0<n/\n<256:=λb d=>JJ (f.2.1 b d) (p b d);refine⟨Y,Y,⟨o,λb d=>(i b d).2,λb d=>?_,λc e=>(g c e).rt,B⟩,λb d=>(i b d).1,f.2.1,z,y,f.1,g,?_⟩
 ·have:=A b d;unfold lj at this;unfold o_;simp only[Bool.or_eq_false_iff]at this ⊢;exact this.1
 ·have w:gV (k:=12) a=100+4*a.text.length+(a.items.map λc=>10+gV c).sum+(a.keys.map λb=>10+3*G b).sum:=rfl;have t:jt 12 a=1+(a.items.map (jt 11)).sum:=rfl;have L:=Ml (λb d=>(i b d).1);have M:=Kj (λc=>200+gV c) (jt 11) 17000 a.items (λc e=>by have:=(g c e).len;omega);have P:=NW a.items;rw[w,t,Nat.mul_add];omega
def uM(a:VT 12):Prop:=(f_.kind (α:=VT 11) a≠8->yv a)/\(f_.kind (α:=VT 11) a=8->I3 a)
def NL{α:Type}(b:α->Nat):∀(a:List α) {c:α},c∈a->b c<=(a.map b).sum
 |d::a,c,h=>by
  simp only[bM,cT];rcases cJ.1 h with rfl|h;·omega
  ·have:=NL b a h;omega
def df{a:List (VT 12)}{root:Int}(h:jh a root=CD)(e:∀U∈a,By U):(1<=G a/\G a<=100)/\(1<=root/\root<=(G a:Int))/\(∀U∈a,uM U/\jt 12 U<=2000):=by rw[pC]at h;simp only[a_,bT,bG]at h;obtain⟨⟨⟨f,g⟩,i⟩,d,j⟩:=h;refine⟨f,g,λU b=>⟨⟨λc=>Ly Y 11 U Y (e U b) (d U b) c,λc=>EA Y U (e U b) (d U b) c⟩,?_⟩⟩;have:=NL (jt 12) a b;omega
def yR(a:VT 12):VT 12:=if f_.kind (α:=VT 11) a=8 then(⟨8,0,0,[],f_.items (α:=VT 11) a,f_.keys (α:=VT 11) a,f_.filters (α:=VT 11) a⟩:f_ (VT 11))else a
def Hy{a:VT 12}(h:f_.kind (α:=VT 11) a=8):yR a=(⟨8,0,0,[],f_.items (α:=VT 11) a,f_.keys (α:=VT 11) a,f_.filters (α:=VT 11) a⟩:f_ (VT 11)):=ak h
def Hx{a:VT 12}(h:f_.kind (α:=VT 11) a≠8):yR a=a:=aj h
def Lr(a:VT 12):f_.kind (α:=VT 11) (yR a)=f_.kind (α:=VT 11) a:=by
 by_cases h:f_.kind (α:=VT 11) a=8;·exact(cX (λb:VT 12=>f_.kind (α:=VT 11) b) (Hy h)).t h.s
 ·exact cX (λb:VT 12=>f_.kind (α:=VT 11) b) (Hx h)
def P9(a:VT 12):jt 12 (yR a)=jt 12 a:=by
 by_cases h:f_.kind (α:=VT 11) a=8;·exact(cX (jt 12) (Hy h)).t rfl
 ·exact cX (jt 12) (Hx h)
def Ds{c:Nat}(a:VT 12)(h:lG c 12 a=CD):lG c 12 (yR a)=CD:=by
 by_cases e:f_.kind (α:=VT 11) a=8
 ·refine(cX (lG c 12) (Hy e)).t ?_;obtain⟨i,j,l,d,g⟩:=D8 (k:=11) h;have b:lC (α:=VT 11) a=CD:=by unfold lE at d;rw[e]at d;exact d
  have f:lC (⟨8,0,0,[],f_.items (α:=VT 11) a,f_.keys (α:=VT 11) a,f_.filters (α:=VT 11) a⟩:f_ (VT 11))=CD:=by unfold lC at b ⊢;simp only[a_,bT]at b ⊢;exact⟨⟨⟨⟨b.1.1.1.1,bF⟩,b.1.1.2⟩,b.1.2⟩,b.2⟩
  show(!(decide ((8:Nat)=8/\1<12-11)) && !(decide ((8:Nat)=9/\¬(1<=(0:Int)/\(0:Int)<=(c:Int))))&&lx (⟨8,0,0,[],f_.items (α:=VT 11) a,f_.keys (α:=VT 11) a,f_.filters (α:=VT 11) a⟩:f_ (VT 11))&&lC (⟨8,0,0,[],f_.items (α:=VT 11) a,f_.keys (α:=VT 11) a,f_.filters (α:=VT 11) a⟩:f_ (VT 11))&&(f_.items (α:=VT 11) a).all (lG c 11))=CD;rw[f];simp only[a_,bG];exact⟨⟨⟨⟨bF,cO⟩,by unfold lx;simp⟩,trivial⟩,g⟩
 ·exact(cX (lG c 12) (Hx e)).t h
def QU{c:List (VT 12)}{d:Int}(h:jh c d=CD):jh (c.map yR) d=CD:=by
 rw[pC]at h ⊢;simp only[a_,bT,bG,aq,dy]at h ⊢;obtain⟨⟨⟨g,i⟩,a⟩,j,k⟩:=h;refine⟨⟨⟨g,i⟩,?_⟩,λb l=>?_,?_⟩
 ·rw[aE];cases f:c[(d-1).toNat]? with
  |none=>rw[f]at a;cases a
  |some b=>rw[f]at a;have a:O (f_.kind (α:=VT 11) b)=O 7:=a;show O (f_.kind (α:=VT 11) (yR b))=O 7;rw[Lr];exact a
 ·obtain⟨e,m,rfl⟩:=cE.1 l;exact Ds e (j e m)
 ·rw[show(jt 12 ∘ yR)=jt 12 from funext P9];exact k
def Ld:∀(j:List (VT 12)) (n:List (List Nat)),G n=G j->pG WE 9 j n->(∀a∈j,uM a)->∃o:List (VT 12×List Nat),qh n o/\o.map Prod.fst=j.map yR/\∀(b:Nat) (a:VT 12) (e:VT 12×List Nat) (c:List Nat),j[b]?=O a->o[b]?=O e->n[b]?=O c->(f_.kind (α:=VT 11) a=8->mi WE (f_.filters (α:=VT 11) a) (f_.text (α:=VT 11) a) e.2/\c=wstream 9 a e.2)/\(f_.kind (α:=VT 11) a≠8->c=gT (k:=12) a)
 | [],[],_,_,_=>⟨[],trivial,rfl,λb a e c h=>by cases h⟩
 | [],c::n,h,_,_=>by simp at h
 |a::j,[],h,_,_=>by simp at h
 |a::j,c::n,w,p,hF=>by
  obtain⟨o,r,s,t⟩:=Ld j n (by simpa using w) ⟨by have:=p.len;simp at w;omega,λb A e z i=>p.each (b+1) A e (by simpa using z) (by simpa using i)⟩ (λf g=>hF f (by simp[g]));have u:=hF a cO;have v:=p.each 0 c a rfl rfl;unfold BO at v;rcases v with⟨l,d,x,C,B,rfl⟩|⟨l,rfl⟩
  ·have q:=u.2 l;have D:=(Iv x q.fl q.tl).1;refine⟨((yR a),d)::o,⟨?_,r⟩,by simp[s],λb f e c g i m=>?_⟩
   ·have:=tE q.st (d:=d) Y;exact Eq.mpr (cX (λf:VT 12=>pT (wstream 9 a d) (f,d)) (Hy l)) this
   ·cases b with
    |zero=>simp at g i m;subst g;subst i;subst m;exact⟨λ_=>⟨x,rfl⟩,λh=>absurd l h⟩
    |succ b=>exact t b f e c pd (by simpa using i) oz
  ·have y:=u.1 l;refine⟨(yR a,[])::o,⟨?_,r⟩,by simp[s],λb f e c g i m=>?_⟩
   ·have:=uV y.rt;exact Eq.mpr (cX (λf:VT 12=>pT (gT (k:=12) a) (f,[])) (Hx l)) this
   ·cases b with
    |zero=>simp at g i m;subst g;subst i;subst m;exact⟨λh=>absurd h l,λ_=>rfl⟩
    |succ b=>exact t b f e c pd (by simpa using i) oz
section
variable{w:vz}
def zj(a:VT 12)(b:List Nat):ByteArray:=if f_.kind (α:=VT 11) a=8 then gj b else{data:=#[]}
def Ja{a:VT 12}{b:List Nat}(h:f_.kind (α:=VT 11) a=8):zj a b=gj b:=ak h
def Dm{a:VT 12}{b:List Nat}(h:f_.kind (α:=VT 11) a≠8):zj a b={data:=#[]}:=aj h
def Oh(a:VT 12)(b c:List Nat):Prop:=(f_.kind (α:=VT 11) a=8->mi WE (f_.filters (α:=VT 11) a) (f_.text (α:=VT 11) a) b/\c=wstream 9 a b)/\(f_.kind (α:=VT 11) a≠8->c=gT (k:=12) a)
def Ig{α:Type}{R:Nat->α->Prop}:∀d:Nat,(∀a,a<d->∃b,R a b)->∃xs:List α,G xs=d/\∀(a:Nat) (b:α),xs[a]?=O b->R a b
 |0,_=>⟨[],rfl,λa b h=>by simp at h⟩
 |d+1,h=>by
  obtain⟨xs,e,i⟩:=Ig d (λa f=>h a Y);obtain⟨b,j⟩:=h d Y;refine⟨xs++[b],by simp[e],λa k c=>?_⟩;by_cases f:a<G xs;·rw[aR f]at c;exact i a k c
  ·have:=(ay.1 c).1;simp at this;have g:a=d:=Y;subst g;rw[aW Y,e]at c;simp at c;rw[<-c];exact j
def M7{f:Nat->List Nat->List Nat->Prop}:∀(d:List Nat) {e a:List Nat},mi f d e a->∃b:Nat->List Nat,b 0=a/\b (G d)=e/\∀(k c:Nat),d[k]?=O c->f c (b (k+1)) (b k)
 | [],e,a,h=>⟨λ_=>a,rfl,h,λk c n=>by simp at n⟩
 |c::d,e,a,h=>by
  obtain⟨o,l,m⟩:=h;obtain⟨b,e1,e2,i⟩:=M7 d l;refine⟨λk=>match k with|0=>a|k+1=>b k,rfl,e2,λk j g=>?_⟩;cases k with
  |zero=>simp at g;subst g;show f c (b 0) a;rw[e1];exact m
  |succ k=>exact i k j pd
structure WL(f:Nat)(d enc:List Nat):Prop where
 ok:1<=f/\f<=4
 byt:∀x∈enc,x<256
 len:G enc<=2*G d+20
 is:f<4->WE f d enc
def WE.wl{c:Nat}{a b:List Nat}(h:WE c a b):WL c a b:=⟨h.ok,h.byt,h.len,λ_=>h⟩
def mi.imp{c d:Nat->List Nat->List Nat->Prop}(g:∀f a e,c f a e->d f a e):∀(b:List Nat) {a i:List Nat},mi c b a i->mi d b a i
 | [],_,_,h=>h
 |_::b,_,_,⟨l,j,k⟩=>⟨l,mi.imp g b j,g _ _ _ k⟩
def uT(a:VT 12)(b:List Nat):List Nat:=if f_.kind (α:=VT 11) a=8 then wstream 9 a b else gT (k:=12) a
def FB{a:VT 12}{b:List Nat}(h:f_.kind (α:=VT 11) a=8):uT a b=wstream 9 a b:=ak h
def FA{a:VT 12}{b:List Nat}(h:f_.kind (α:=VT 11) a≠8):uT a b=gT (k:=12) a:=aj h
def RW{e:Nat->Prop}{i:wg}{a:VT 12}(n:ku e 12 w i (nX 12 a))(m:∀l,e l->l<w.heap.size)(hF:uM a)(t:jt 12 a<=2000){d:ByteArray}(p:d.size<=1000000)(h:f_.kind (α:=VT 11) a≠8->d={data:=#[]}):wh DG 53 #[i,y7 d] w λo s=>o=BX (y7 (gj (uT a (bl d))))/\wm w.heap.size w s:=by
 by_cases c:f_.kind (α:=VT 11) a=8
 ·have b:=hF.2 c;rw[FB c];exact QN (j:=9) (V:=a) n m b.st.keys (λk g=>(b.items k g).wok) b.kb (λr q=>by have:=b.kl r q;omega) (λk g=>(b.items k g).tok) (by have:=b.len;omega) c b.st.fil (by have:=b.fl;omega) d p
 ·have f:=hF.1 c;rw[FA c,h c];exact Hz 12 w e i a n m f.wok f.tok (by have:=f.len;omega)
def MP{a:VT 12}(hF:uM a)(t:jt 12 a<=2000){b:List Nat}(h:G b<=1000000):(uT a b).length<=600000000:=by
 by_cases e:f_.kind (α:=VT 11) a=8
 ·have c:=hF.2 e;rw[FB e];have j:=c.st.keys;have u:(jq (f_.filters (α:=VT 11) a) (G b)).length<=1001:=by
   unfold jq;have:=wmore_len (f_.filters (α:=VT 11) a) (G b) (f_.filters (α:=VT 11) a).length h (by have:=c.fl;omega);rw[ab];split;·simp only[aB];omega
   ·simp only[ai,aB];omega
  have i:(gj (gT (k:=12) (sdict 9 a (G b)))).size<=400002000:=by
   rw[qv 9 a (G b) j c.st.fil];unfold tA;rw[ByteArray.size_append,ByteArray.size_append,ByteArray.size_append,ByteArray.size_append];have m:(wpairs (k:=11) a (f_.keys (α:=VT 11) a).length).length<=((f_.items (α:=VT 11) a).map λd=>10+gV (k:=11) d).sum+((f_.keys (α:=VT 11) a).map λf=>10+3*G f).sum:=wpairs_len (V:=a) (λd l=>(c.items d l).wok) (f_.keys (α:=VT 11) a).length;have:gV (k:=12) a=100+4*(f_.text (α:=VT 11) a).length+((f_.items (α:=VT 11) a).map λd=>10+gV (k:=11) d).sum+((f_.keys (α:=VT 11) a).map λf=>10+3*G f).sum:=rfl;have n:(gj (wpairs (k:=11) a (f_.keys (α:=VT 11) a).length)).size=(wpairs (k:=11) a (f_.keys (α:=VT 11) a).length).length:=lu _;have o:(if(gj (wpairs (k:=11) a (f_.keys (α:=VT 11) a).length)).size=0\/(gj (jq (f_.filters (α:=VT 11) a) (G b))).size=0 then({data:=#[]}:ByteArray)else{data:=#[32]}).size<=1:=by split<;>decide
   have p:({data:=#[60,60]}:ByteArray).size=2:=rfl;have q:({data:=#[62,62]}:ByteArray).size=2:=rfl;have r:=lu (jq (f_.filters (α:=VT 11) a) (G b));have s:=c.len;omega
  rw[lu]at i;unfold wstream;simp only[ab,ai,aB];omega
 ·have g:=hF.1 e;rw[FA e];have:=mM g.wok;have:=g.len;omega
def xf(b:List (VT 12))(a:List ByteArray):List (List Nat):=(b.zip a).map λz=>uT z.1 (bl z.2)
def JF{e:List (VT 12)}{d:List ByteArray}{c:Nat}{b:VT 12}{a:ByteArray}(f:e[c]?=O b)(g:d[c]?=O a):(xf e d)[c]?=O (uT b (bl a)):=by unfold xf;rw[aE,dP (z:=(b,a)) |>.2 ⟨f,g⟩];rfl
def JG{a:List (VT 12)}{b:List ByteArray}(h:G b=G a):(xf a b).length=G a:=by unfold xf;rw[aq,eH,h,Nat.min_self]
def LZ{c:List (VT 12)}{root:Int}{A:Option wT}{oc:Nat}{i:Nat->Prop}(W:nD (ku i 12) i w A (c.map (nX 12)))(o:∀b,i b->b<w.heap.size)(K:∀U∈c,uM U/\jt 12 U<=2000)(hn:G c<=100)(hr:1<=root/\root<=(G c:Int)){g:List ByteArray}(J:G g=G c)(u:∀(a:Nat) (U:VT 12) (r:ByteArray),c[a]?=O U->g[a]?=O r->r.size<=1000000/\(f_.kind (α:=VT 11) U≠8->r={data:=#[]})){E:Option wT}{dc:Nat}{h:vz}(l:wm w.heap.size w h)(T:n8 (λb=>b<h.heap.size) h E g):wh DG 18 #[Bc #[Z A (G c) oc,I U root],Z E (G c) dc] h λQ w'=>Q=BX (y7 (gj (iE (xf c g) root)))/\wm h.heap.size h w':=by
 obtain⟨M,X,L⟩:=Ig (α:=wg) (R:=λa e=>∃U,c[a]?=O U/\∃b f,A=O ⟨b,f,N⟩/\i b/\(∀(p:Nat) (q:wg),(cellsOf e)[p]?=O q->w.cell? ⟨b,f+a*7+p,N⟩=O q)/\ku i 12 w e (nX 12 U)) (G c) (λa y=>by obtain⟨U,d⟩:∃U,c[a]?=O U:=⟨_,af y⟩;obtain⟨b,f,e,e1,e2,m,j⟩:=W a (nX 12 U) (by rw[aE,d];rfl);exact⟨e,U,d,b,f,e1,e2,m,j⟩)
 refine QO (xs:=M) (ds:=g) (ms:=xf c g) (λa e z=>?_) T (λa e D aa z v k W2 P=>?_) X J (JG J) Y (λaa k=>?_) ⟨Y,Y⟩
 ·obtain⟨U,d,b,f,e1,e2,m,j⟩:=L a e z;exact⟨j.form,b,f,e1,aF (o b e2) l.size,λp q V=>by rw[l.cell (o b e2)];exact m p q V⟩
 ·obtain⟨U,d,b,f,e1,e2,m,j⟩:=L a e z;obtain⟨s,t⟩:=K U (aQ d);rw[JF d v]at k;cases k;have C:=l.t (P.m l.size);exact RW (ku.keep 12 j (λn x _=>C.block n (o n x))) (λn x=>aF (o n x) C.size) s t (u a U D d v).1 (u a U D d v).2
 ·unfold xf at k;obtain⟨B,hz,rfl⟩:=cE.1 k;obtain⟨a,y⟩:=List.mem_iff_getElem?.1 hz;obtain⟨F,S⟩:=dP.1 y;obtain⟨s,t⟩:=K B.1 (aQ F);exact MP s t (by rw[mC];exact(u a B.1 B.2 F S).1)
def MU{i b j:Nat}{d:Option wT}{a:List ByteArray}(h:w.ownsRow i 9 1 (Z d b j) b (a.map λc=>y7 c)):n8 (λg=>g<w.heap.size) w d a:=λl c e=>by
 have p:G a=b:=by have:=h.1;simpa using this
 have o:=(ay.1 e).1;obtain⟨g,m,k,n⟩:=yJ h Y;cases k;refine⟨g,0,rfl,(h.lt g rfl).2,?_⟩;have f:=h.cells (g:=g) rfl l (y7 c) (by rw[aE,e];rfl);rw[sK]at f;rw[bZ];exact f
def tX(a:List (VT 12))(b:List (VT 12×List Nat)):List ByteArray:=(a.zip b).map λz=>zj z.1 z.2.2
def I_{d:List (VT 12)}{e:List (VT 12×List Nat)}{b:Nat}{a:VT 12}{c:VT 12×List Nat}(f:d[b]?=O a)(g:e[b]?=O c):(tX d e)[b]?=O (zj a c.2):=by unfold tX;rw[aE,dP (z:=(a,c)) |>.2 ⟨f,g⟩];rfl
def I2(a:vz)(d:Nat)(i:Int)(f:List (VT 12))(g:xc)(e:vz):Prop:=wm a.heap.size a e/\∃b c,g=BX (BG #[Bc #[Z b d c,I U i],Bs CD])/\oZ (λh=>a.heap.size<=h) 12 a.heap.size f e (Z b d c)
def rk{a:List Nat}(n:∀p∈a,p<256)(o:G a<=200000){c:List (VT 12×List Nat)}{d:Int}(i:jK a=O (c,d))(j:jh (c.map Prod.fst) d=CD)(f:vz):wh DG 83 #[y7 (gj a)] f (I2 f (G c) d (c.map nA)):=by
 refine(Ej (gj a) (by rw[lu];exact o)).m ?_;rintro r y ⟨b,q,ok,rfl,h⟩;rw[vJ _ n]at h;rcases h with⟨rfl,m,_⟩|⟨rfl,z,x,v,rfl,g,t,u,e⟩;·rw[m c d i]at j;cases j
 ·rw[i]at g;cases g;obtain⟨k,l,rfl⟩:=e.len;rw[aq]at e ⊢;exact⟨b,k,l,rfl,e.m λs h _=>h.1⟩
def IB{a wr g:vz}{d:TypeId}{l j:Nat}{f:wg}{m:List wg}{k:Obj}(b:wm a.heap.size a wr)(h:wr.ownsRow a.heap.size d l f j m)(c:(wr.alloc k).grownBy g f.ownBlock):wm a.heap.size a g :=
 ⟨c.os.t b.os,c.tape.t b.tape,c.output.t b.output,by have:=c.size;have:=b.size;simp only[aV]at *;omega,λe i=>by have n:=b.size;rw[c.block e eS (λd=>by have:=(h.lt _ d.s).1;omega),heap_alloc_old _ _ Y];exact b.block e i⟩
def Qo{e:List (VT 12)}{j:Int}{C:Option wT}{oc:Nat}{p:List (List Nat)}{ba:Option wT}{bc A dl:Nat}{bw:Nat->Prop}
  (hv:nD (ku bw 12) bw w C (e.map (nX 12))) (bz:∀r,bw r->r<w.heap.size) (L:∀d∈e,By d) (hd:jh e j=CD) (hB:pG WE 9 e p) (cw:G p=G e)
  (b1:w.ownsRow dl 5 1 (Z ba A bc) A ((iE p j).map λa0:Nat=>I .u8 (a0:Int))) (hl:A<=200000) (ct:∀a0∈iE p j,a0<256):wh DG 48 #[Z ba A bc,Bc #[Z C (G e) oc,I U j]] w λs w'=>s=BX (Bs CD)/\wm w.heap.size w w':=by
 obtain⟨j0,ji,dd,dg,di⟩:=bR iS;obtain⟨⟨el,cx⟩,⟨em,cy⟩,ac⟩:=df hd L;obtain⟨o,c9,a9,db⟩:=Ld e p cw hB (λd m=>(ac d m).1);have b9:G o=G e:=by have:=cX List.length a9;simpa using this
 have ck:(iE p j).length=A:=by have:=b1.1;simpa using this
 have cs:jK (iE p j)=O (o,j):=by
  obtain⟨k,rfl⟩:∃k:Nat,j=(k:Int):=⟨j.toNat,Y⟩;exact sZ c9 Y (by have:k<=100:=Y;exact eV this bF)
 have br:=H (rk ct Y cs (by rw[a9];exact QU hd));have cr:∀a:vz,wm w.heap.size w a->(convert 23 9 (Z ba A bc)).run DG a=.ok (y7 (gj (iE p j))) a:=λa b=>AU (l:=iE p j) (by rw[ck];exact ym b1 b);have bh:wt (∀(n:Nat) (d:VT 12),e[n]?=O d->∃l c,o[n]?=O l/\p[n]?=O c/\Oh d l.2 c/\uM d/\jt 12 d<=2000/\(f_.kind (α:=VT 11) d=8->∃a2:VT 12,(o.map nA)[n]?=O a2/\f_.text (α:=VT 11) a2=l.2)):=λn d m=>by
  have hi:=(ay.1 m).1;obtain⟨l,y⟩:∃l,o[n]?=O l:=⟨_,af Y⟩;obtain⟨c,M⟩:∃c,p[n]?=O c:=⟨_,af Y⟩;have cp:=aQ m;refine⟨l,c,y,M,db n d l c m y M,(ac d cp).1,(ac d cp).2,λf=>⟨nA l,by rw[aE,y];rfl,?_⟩⟩;have e1:l.1=yR d:=by have:=cX (λdj=>dj[n]?) a9;simp only[aE,y,m,bK]at this;exact d9 this
  have hk:f_.kind (α:=VT 11) l.1=8:=by rw[e1,Lr];exact f
  have e2:nA l=sT (k:=11) l.1 l.2:=ak hk;exact cX (λa3:VT 12=>f_.text (α:=VT 11) a3) e2
 have a5:(tX e o).length=G e:=by unfold tX;rw[aq,eH,b9,Nat.min_self]
 have cv:xf e (tX e o)=p:=by
  refine List.ext_getElem? λn=>?_;by_cases hi:n<G e
  ·obtain⟨d,m⟩:∃d,e[n]?=O d:=⟨_,af hi⟩;obtain⟨l,c,K,h2,h3,h4,_⟩:=bh.o n d m;rw[JF m (I_ m K),h2];by_cases f:f_.kind (α:=VT 11) d=8
   ·obtain⟨hp,rfl⟩:=h3.1 f;rw[FB f,Ja f,vJ _ (pb _ hp (h4.2 f).tb)]
   ·rw[FA f,h3.2 f]
  ·rw[List.getElem?_eq_none (by rw[JG a5];omega),List.getElem?_eq_none Y]
 have cf:wt (∀(a:vz) (da:Option wT) (dc:Nat),wm w.heap.size w a->n8 (λr=>r<a.heap.size) a da (tX e o)->wh DG 18 #[Bc #[Z C (G e) oc,I U j],Z da (G e) dc] a λs w'=>s=BX (y7 (gj (iE p j)))/\wm a.heap.size a w'):=λa da dc bW eb=>by
  have:=LZ (oc:=oc) (dc:=dc) (root:=j) hv bz ac cx ⟨em,cy⟩ a5 (λn d er m g=>by
   obtain⟨l,c,K,h2,h3,h4,_⟩:=bh.o n d m;rw[I_ m K]at g;cases g;by_cases f:f_.kind (α:=VT 11) d=8
   ·have:=(Iv (h3.1 f).1 (h4.2 f).fl (h4.2 f).tl).1;exact⟨by rw[Ja f,lu];omega,λh=>absurd f h⟩
   ·exact⟨by rw[Dm f];decide,λ_=>Dm f⟩) bW eb
  rw[cv]at this;exact this
 have HV:=H hv;have bm:=H bz;have ce:=H cr;have dm:=H a5;have ci:=H b9;obtain⟨u,hn⟩:∃u,G e=u:=⟨_,rfl⟩;have HN:=H hn;rw[hn]at el cx cy ⊢;rw[ci.o,hn]at br;rw[hn]at cf;clear cv hv bz hB cw b1 ct L hd ac c9 a9 db b9 ck cs cr a5 hn;obtain⟨Q,ad⟩:∃Q,w.alloc (BV #[Z C u oc,I U j] 31)=Q:=⟨_,rfl⟩;have bb:wt (wm w.heap.size w Q):=by unfold Hid;rw[<-ad];exact(ar _ _).alloc (ag _) _
 have cg:wt (Q.heap[w.heap.size]?=O (BV #[Z C u oc,I U j] 31 (0,0))):=by unfold Hid;rw[<-ad];exact bn _ _
 have d5:=H ad;have cq:=ce.o Q bb;rw[<-ad]at cq;clear ad;generalize gj (iE p j)=SF at *
 go_in
 go_wp2_with fail;rw[d5.o];clear cq;apply(br Q).m;rintro s w2 ⟨b2,ra,rc,rfl,c8⟩;obtain⟨q,a4⟩:∃q,w2.alloc (BV #[Z ra u rc,I U j] 31)=q:=⟨_,rfl⟩;have b3:wm w2.heap.size w2 q:=by rw[<-a4];exact(ar _ _).alloc (ag _) _
 have bs:wt (q.heap[w2.heap.size]?=O (BV #[Z ra u rc,I U j] 31 (0,0))):=by unfold Hid;rw[<-a4];exact bn _ _
 have ca:=H (b2.t (b3.m b2.size));have bt:=H ((ca.block _ (ap cg)).t cg);have d4:=H (c8.keep b3);have cc:=H (bb.t (ca.o.m bb.size));have d6:=H a4;have d0:=nw bt;have e0:=nw bs;clear c8 b2 b3 a4 br
 go_upto_region 2 with fail
 rw[d6.o];go_wp2_with fail;clear d0 e0;go_loopw [7,8,9,10] (λdv iv _ _ wr=>∃(c:Nat) (J:Option wT) (W:Nat),c<=u/\iv=I U c/\dv=Z J c W/\wt (wr.ownsRow q.heap.size 9 1 (Z J c W) c (((tX e o).take c).map λE=>y7 E))/\wt (wm q.heap.size q wr)) (λ_ iv _ _ _=>u-(intOf iv).toNat)
 case atStart=>exact⟨0,N,0,aw _,rfl,rfl,bI _ _ _ _,ar _ _⟩
 case round=>
  obtain⟨c,J,W,M,rfl,rfl,bv,z⟩:=hrel;have S:=H ((z.block _ (ap bt)).t bt);have ea:=H ((z.block _ (ap bs)).t bs);have v:=H (cc.t (z.o.m cc.size));have d0:=nw S;rcases aC M with ek|M
  ·subst ek;have ej:¬(c:Int)<(c:Int):=Y;have d2:wt (n8 (λr=>r<wr.heap.size) wr J (tX e o)):=by have:=MU bv;rw[aP (by rw[dm.o,HN.o];exact ag _)]at this;exact this
   have HQ:wt (∀a,wm wr.heap.size wr a->(convert 23 9 (Z ba A bc)).run DG a=.ok (y7 SF) a/\a.cell? ⟨w.heap.size,0,N⟩=O (Z C c oc)/\a.cell? ⟨w.heap.size,1,N⟩=O (I U j)):=λa b=>⟨ce a (v.t (b.m v.size)),by rw[b.cell (ap S.o),cb S.o];rfl,by rw[b.cell (ap S.o),cb S.o];rfl⟩
   have d7:wt (∀a,wm wr.heap.size wr a->wh DG 18 #[Bc #[Z C c oc,I U j],Z J c W] a λs w'=>s=BX (y7 SF)/\wm a.heap.size a w'):=λa b=>cf a J W (v.t (b.m v.size)) (λn E P=>by obtain⟨r,ao,s,K,h2⟩:=d2.o n E P;exact⟨r,ao,s,aF K b.size,by rw[b.cell K];exact h2⟩)
   have dp:wt (∀a k,wm wr.heap.size wr a->wm w.heap.size w (a.drewN k)):=λa k b=>bQ (v.t (b.m v.size)) k;go_wp2_with fail;clear d0;refine AX (λ_ a=>wm wr.heap.size wr a) aG ?_;intro i;have g:=(ar wr.heap.size wr).drew;refine tk 0 ?_ i ?_ g ?_;rotate_left
   ·intro a B;go_simp;try(with_reducible rfl)
   clear i g;intro i g;(try simp only[lr])
   refine tk 1 ?_ i ?_ g ?_;rotate_left
   ·intro a B;obtain⟨_,_,_,L⟩:=B;obtain⟨q0,q1,q2⟩:=HQ.o a L;go_simp;try(with_reducible rfl)
   clear i g;intro i g;(try simp only[lr])
   refine tk 2 ?_ i ?_ g ?_;rotate_left
   ·intro a B;obtain⟨_,_,_,L⟩:=B;obtain⟨q0,q1,q2⟩:=HQ.o a L;go_simp;try(with_reducible rfl)
   clear i g;intro i g;(try simp only[lr])
   refine tk 3 ?_ i ?_ g ?_;rotate_left
   ·intro a B;go_simp;try(with_reducible rfl)
   clear i g;intro i g;(try simp only[lr])
   refine on 4 i λK' hK=>?_;go_simp;apply(d7 _ (ar wr.heap.size wr).drew).m;rintro s w5 ⟨rfl,V⟩;have cd:=H (((ar wr.heap.size wr).drew).t (V.m (ag _)));refine hK _ _ cd (λcj cl=>?_);clear i g hK K';have i:=cj;have g:=cl;clear cj cl
   (try simp only[lr])
   refine tk 5 ?_ i ?_ g ?_;rotate_left
   ·intro a B;go_simp;try(with_reducible rfl)
   clear i g;intro i g;(try simp only[lr])
   refine tk 6 ?_ i ?_ g ?_;rotate_left
   ·intro a B;go_simp;try(with_reducible rfl)
   clear i g;intro i g;(try simp only[lr])
   refine uX aG ?_ _;have ds:=H (dp w5 0 cd);clear i g;go_wp2;go_ret;exact⟨rfl,ds⟩
  ·have ej:(c:Int)<(u:Int):=Y;obtain⟨d,m⟩:∃d,e[c]?=O d:=⟨_,af (by rw[HN.o];exact M)⟩;obtain⟨l,eo,y,hM,hT,hF,hc,bx⟩:=bh.o c d m;obtain⟨r,ao,a0,rfl,ec,b6,b8⟩:=HV.o c (nX 12 d) (by rw[aE,m];rfl);have a1:wt ((tX e o).take (c+1)=(tX e o).take c++[zj d l.2]):=by unfold Hid;rw[cP,I_ m y];rfl
   have ei:=bm.o r ec;have a8:=ku.keep 12 b8 (λg' b0 _=>v.block g' (bm g' b0));have d1:=H (λg' b0=>aF (bm g' b0) v.size);obtain⟨ia,ic,ka,kc,fa,fc,b7,_,_,_⟩:=a8.splitV (V:=d);have t:∀(al:Nat) (F:wg),(cellsOf a0)[al]?=O F->wr.cell? ⟨r,ao+c*7+al,N⟩=O F:=λal F x=>by rw[v.o.cell ei];exact b6 al F x
   by_cases f:f_.kind (α:=VT 11) d=8
   ·have P:=hF.2 f;obtain⟨hp,_⟩:=hT.1 f;obtain⟨a2,cn,co⟩:=bx f;obtain⟨rg,e3,rx,re,_,_,rv,dk⟩:=d4.o.at cn;rw[Ja f]at a1;have d3:=H (Tt (k:=11) (V:=d) a8 d1 hp P.tb P.fl P.tl);obtain⟨ev,ex,ey,ez,es,et,c7,_,_,_⟩:=(iR.gin 12 rv).splitV (V:=a2);have r3:q.cell? ⟨rg,c*7+3,N⟩=O (y7 (gj l.2)):=dk 3 _ (by rw[c7,<-co];rfl);have r4:wr.cell? ⟨rg,c*7+3,N⟩=O (y7 (gj l.2)):=by rw[z.o.cell (aA q _ r3)];exact r3
    have rl:(List.map nA o).length=u:=by rw[aq,ci.o,HN.o]
    rw[rl]at re;injection re with re1 re2 re3;subst re1;have x0:=nw ea;have a7:((f_.kind (α:=VT 11) d:Nat):Int)=8:=Y;rw[a7]at b7;subst b7;have c0:wr.cell? ⟨r,ao+c*7,N⟩=O (I U 8):=t 0 _ rfl;have c1:=t 1 _ rfl;have c2:=t 2 _ rfl;have c3:=t 3 _ rfl;have c4:=t 4 _ rfl;have c5:=t 5 _ rfl;have X:=t 6 _ rfl;generalize gj l.2=SR at *;clear t b6 b8 a8 rv dk r3 c7 hT bx hF P hp cn co rl m y hM f hc a7 re3;go_wp2_with fail;apply d3.o.m;rintro s w5 ⟨rfl,V⟩;have R:=H (z.t (V.m z.size));have T:=H (ym bv V);clear c0 c1 c2 c3 c4 c5 X r4 x0 V d0;have en:=R.o.size;go_wp2_with (at_builtin;refine aX _ rfl (.tmp 62) (.tmp 64) 38 rfl q.heap.size 9 j0 _ 1 16 dz ji dd dg di rfl bF _ c _ rfl (T.alloc _) ⟨w5.heap.size,0,N⟩ 1 1 [y7 SR] rfl rfl ?hnews ?hone ?h63 ?hby ?hbs ?_)
    case hnews=>intro al F x;rw[sK,cb (bn w5 _)];simpa using x
    case hone=>first|rfl|(intro F x;simp at x;subst x;rfl)
    case h63=>unfold maxLen;omega
    case hby=>omega
    case hbs=>first|omega|(simp;omega)
    intro v6 w6 D aa _;have bd:=H (IB R T aa);have bf:wt (w6.ownsRow q.heap.size 9 1 v6 (c+1) (((tX e o).take (c+1)).map λE=>y7 E)):=by unfold Hid;rw[a1.o,aI,List.map_take];exact D
    obtain⟨a6,X,b4⟩:=ke D;subst b4;clear D aa;go_wp2;go_roundw
    case rel=>exact⟨c+1,a6,X,Y,by go_num,rfl,bf,bd⟩
    case measure=>exact eT
   ·rw[Dm f]at a1;have a7:((f_.kind (α:=VT 11) d:Nat):Int)≠8:=Y;have eu:(((f_.kind (α:=VT 11) d:Nat):Int)==8)=CS:=by simpa using a7
    subst b7;have c0:wr.cell? ⟨r,ao+c*7,N⟩=O (I U ((f_.kind (α:=VT 11) d:Nat):Int)):=t 0 _ rfl;have R:=z;have T:=bv;clear t b6 b8 a8 hT bx hF m y hM f hc;generalize ((f_.kind (α:=VT 11) d:Nat):Int)=kd at *;have en:=R.o.size;go_wp2_with (at_builtin;refine aX _ rfl (.tmp 62) (.tmp 64) 38 rfl q.heap.size 9 j0 _ 1 16 dz ji dd dg di rfl bF _ c _ rfl (T.alloc _) ⟨wr.heap.size,0,N⟩ 1 1 [y7 {data:=#[]}] rfl rfl ?hnews ?hone ?h63 ?hby ?hbs ?_)
    case hone=>first|rfl|(intro F x;simp at x;subst x;rfl)
    case h63=>unfold maxLen;omega
    case hby=>omega
    case hbs=>first|omega|(simp;omega)
    intro v6 w6 D aa _;have bd:=H (IB R T aa);have bf:wt (w6.ownsRow q.heap.size 9 1 v6 (c+1) (((tX e o).take (c+1)).map λE=>y7 E)):=by unfold Hid;rw[a1.o,aI,List.map_take];exact D
    obtain⟨a6,X,b4⟩:=ke D;subst b4;clear D aa;go_wp2;go_roundw
    case rel=>exact⟨c+1,a6,X,Y,by go_num,rfl,bf,bd⟩
    case measure=>exact eT
def Ch(e:List (VT 12))(f:List (List Nat))(d:List ByteArray):Prop:=∀(b:Nat) (U:VT 12) (a:ByteArray),e[b]?=O U->d[b]?=O a->a.size<=1000000/\(f_.kind (α:=VT 11) U≠8->a={data:=#[]})/\(f_.kind (α:=VT 11) U=8->∀c,f[b]?=O c->G c<=a.size)
def Ch.snoc{d:List (VT 12)}{e:List (List Nat)}{a:List ByteArray}(h:Ch d e a){U:VT 12}{c:ByteArray}(p:d[G a]?=O U)(m:c.size<=1000000)(n:f_.kind (α:=VT 11) U≠8->c={data:=#[]})(o:f_.kind (α:=VT 11) U=8->∀i,e[G a]?=O i->G i<=c.size):Ch d e (a++[c]):=λg k j f b=>by
 by_cases q:g<G a;·rw[aR q]at b;exact h g k j f b
 ·have r:=(ay.1 b).1;simp at r;have l:g=G a:=Y;subst l;rw[aW (ag _)]at b;simp at b;subst b;rw[p]at f;cases f;exact⟨m,n,o⟩
def Pz{b:vz}{e c a:Nat}(h:b.ownsRow e 5 1 (Z (O ⟨c,0,N⟩) a a) a (madeCells (Value.cells (I .u8 0)) (a*1)).toList):(convert 23 9 (Z (O ⟨c,0,N⟩) a a)).run DG b=.ok (y7 (gj (DJ a 0))) b:=by have d:b.heap[c]?=O (BV (nU (DJ a 0)).toArray 5 (0,0)):=rm h;have f:qi b b.heap.size (O ⟨c,0,N⟩) (DJ a 0):=λi g=>⟨_,0,rfl,ap d,Mx d (by rw[List.toList_toArray];exact aP (by simp[nU])) i g⟩;have:=Pl (cap:=a) f;rw[bj]at this;exact this
def Sf{b a:Nat}(f:b<=4){c:Nat}(h:c+20<=2^(b-a)*20020):c<=320300/\(1<=a->c<=160140):=by have d:2^(b-a)<=2^4:=aY Y Y;refine⟨Y,λg=>?_⟩;have e:2^(b-a)<=2^3:=aY Y Y;omega
def GE{b a:Nat}(f:a<b){c d:Nat}(h:c+20<=2^(b-(a+1))*20020)(g:d<=2*c+20):d+20<=2^(b-a)*20020:=by have e:b-a=(b-(a+1))+1:=Y;rw[e,c_];omega
def PQ{a:List (VT 12)}{d:Int}(h:jh a d=CD){U:VT 12}(b:U∈a):f_.kind (α:=VT 11) U=8\/f_.filters (α:=VT 11) U=[]:=by rw[pC]at h;simp only[a_,bT,bG]at h;obtain⟨_,_,c,_,_⟩:=D8 (k:=11) (h.2.1 U b);exact(I5 c).2.2.2.2.2
def Q7{f:List (VT 12)}{q:Int}{oa:Option wT}{oc:Nat}{es:List (List Nat)}{P:Nat->Prop}
  (hv:nD (ku P 12) P w oa (f.map (nX 12))) (b1:∀t,P t->t<w.heap.size) (hb:∀a∈f,By a) (hd:jh f q=CD)
  (cr:∀(y:Nat) (a:VT 12),f[y]?=O a->f_.kind (α:=VT 11) a=8->∃b0,es[y]?=O b0/\mi WL (f_.filters (α:=VT 11) a) (f_.text (α:=VT 11) a) b0):wh DG 82 #[Bc #[Z oa (G f) oc,I U q]] w λs w'=>∃(d:List ByteArray) (D:Bool),s=BX (BG #[I U ((gj (iE (xf f d) q)).size:Int),Bs D])/\G d=G f/\Ch f es d/\wm w.heap.size w w':=by
 obtain⟨j0,ji,dl,dm,dp⟩:=bR iS;obtain⟨i0,hi,fb,fd,fi⟩:=bR infoByte;obtain⟨⟨e4,cx⟩,⟨e5,c8⟩,ca⟩:=df hd hb;have cg:wt (∀(g:vz) (da:Option wT) (dc:Nat) (d:List ByteArray),wm w.heap.size w g->G d=G f->Ch f es d->n8 (λt=>t<g.heap.size) g da d->wh DG 18 #[Bc #[Z oa (G f) oc,I U q],Z da (G f) dc] g λs w'=>s=BX (y7 (gj (iE (xf f d) q)))/\wm g.heap.size g w'):=λg da dc d bW hl hL eu=>LZ hv b1 ca cx ⟨e5,c8⟩ hl (λy a i p W=>⟨(hL y a i p W).1,(hL y a i p W).2.1⟩) bW eu
 have ds:=H (λa X=>PQ hd (U:=a) X);have HV:=H hv;have bw:=H b1;have d3:=H cr;have ec:=H ca;obtain⟨K,hn⟩:∃K,G f=K:=⟨_,rfl⟩;have HN:=H hn;rw[hn]at e4 cx c8 cg ⊢;clear hv b1 hb hd ca cr hn;obtain⟨m,bf⟩:∃m,w.alloc (BV #[Z oa K oc,I U q] 31)=m:=⟨_,rfl⟩;have cf:wt (wm w.heap.size w m):=by unfold Hid;rw[<-bf];exact(ar _ _).alloc (ag _) _
 have co:wt (m.heap[w.heap.size]?=O (BV #[Z oa K oc,I U q] 31 (0,0))):=by unfold Hid;rw[<-bf];exact bn _ _
 have er:=H bf;clear bf
 go_in
 go_wp2_with fail;rw[er.o];go_loopw [4,5,6,7,8,9] (λxv dv iv _ _ _ wr=>∃(e:Nat) (D:Bool) (a0:Option wT) (a1:Nat) (d:List ByteArray),e<=K/\xv=Bs D/\iv=I U e/\dv=Z a0 e a1/\wt (G d=e)/\wt (wr.ownsRow m.heap.size 9 1 (Z a0 e a1) e (d.map λM=>y7 M))/\wt (Ch f es d)/\wt (wm m.heap.size m wr)) (λ_ _ iv _ _ _ _=>K-(intOf iv).toNat)
 case atStart=>exact⟨0,CD,N,0,[],aw _,rfl,rfl,rfl,rfl,bI _ _ _ _,(λy a i p W=>by simp at W),ar _ _⟩
 case round=>
  obtain⟨e,D,a0,a1,d,hm,rfl,rfl,rfl,B,bz,a4,R⟩:=hrel;have cp:=H ((R.block _ (ap co)).t co);have A:=H (cf.t (R.o.m cf.size));have d0:=nw cp;rcases aC hm with e3|hm
  ·subst e3;have ez:¬(e:Int)<(e:Int):=Y;have em:=H (MU bz);have d1:=rU cp;have cn:wt (∀g,wm wr.heap.size wr g->wh DG 18 #[Bc #[Z oa e oc,I U q],Z a0 e a1] g λs w'=>s=BX (y7 (gj (iE (xf f d) q)))/\wm g.heap.size g w'):=λg b=>cg g a0 a1 d (A.t (b.m A.size)) B a4 (λy M hs=>by obtain⟨t,ce,s,p,W⟩:=em.o y M hs;exact⟨t,ce,s,aF p b.size,by rw[b.cell p];exact W⟩)
   have d6:wt (∀g k,wm wr.heap.size wr g->wm w.heap.size w (g.drewN k)):=λg k b=>bQ (A.t (b.m A.size)) k;obtain⟨SF,b3⟩:∃SF,gj (iE (xf f d) q)=SF:=⟨_,rfl⟩;have en:=H b3;rw[b3]at cn;clear b3;go_wp2_with fail;apply(cn _ (ar _ _)).m;rintro s w5 ⟨rfl,b5⟩;have d7:=H (d6 w5 0 b5);clear b5;go_wp2
   go_ret2
   exact⟨d,D,by rw[en.o];rfl,B,a4,d7⟩
  ·have ez:(e:Int)<(K:Int):=Y;obtain⟨a,X⟩:∃a,f[e]?=O a:=⟨_,af (by rw[HN.o];exact hm)⟩;obtain⟨hF,hc⟩:=ec.o a (aQ X);obtain⟨t,ce,fu,rfl,ev,dd,dg⟩:=HV.o e (nX 12 a) (by rw[aE,X];rfl);have ey:=bw.o t ev;have di:=ku.keep 12 dg (λg' b6 _=>A.block g' (bw g' b6));obtain⟨ia,ic,ka,kc,fa,fc,e9,_,_,cs⟩:=di.splitV (V:=a);have x:∀(c:Nat) (ac:wg),(cellsOf fu)[c]?=O ac->wr.cell? ⟨t,ce+e*7+c,N⟩=O ac:=λc ac F=>by rw[A.o.cell ey];exact dd c ac F
   have aa:f_.kind (α:=VT 11) a=8->(f_.filters (α:=VT 11) a).length<=4/\(f_.text (α:=VT 11) a).length<=20000:=λh=>⟨(hF.2 h).fl,(hF.2 h).tl⟩;have d5:=H cs;subst e9;have c0:=x 0 _ rfl;have c1:=x 1 _ rfl;have c2:=x 2 _ rfl;have c3:=x 3 _ rfl;have c4:=x 4 _ rfl;have c5:=x 5 _ rfl;have C:=x 6 _ rfl;rw[eD]at c0;obtain⟨j,b9⟩:∃j,(f_.filters (α:=VT 11) a).length=j:=⟨_,rfl⟩;have bs:=H b9;rw[b9]at aa C;have ej:=H (λg' b6=>aF (bw g' b6) A.size);have a7:=H X;generalize (f_.items (α:=VT 11) a).length=il at *;generalize (f_.keys (α:=VT 11) a).length=kl at *;generalize f_.n (α:=VT 11) a=nn at *;generalize ((f_.places (α:=VT 11) a:Nat):Int)=pp at *;obtain⟨S,b4⟩:∃S,gj (f_.text (α:=VT 11) a)=S:=⟨_,rfl⟩;have bx:=H b4;rw[b4]at c3;obtain⟨J,b8⟩:∃J:Int,((f_.kind (α:=VT 11) a:Nat):Int)=J:=⟨_,rfl⟩;rw[b8]at c0;have ci:=H b8;clear x dd dg di hF hc cs b9 X b4 b8;obtain⟨v,ba⟩:∃v,wr.alloc (BV #[I U J,I U nn,I U pp,y7 S,Z ia il ic,Z ka kl kc,Z fa j fc] 67)=v:=⟨_,rfl⟩;have Q:wt (wm wr.heap.size wr v):=by unfold Hid;rw[<-ba];exact(ar _ _).alloc (ag _) _
   have a8:wt (v.heap[wr.heap.size]?=O (BV #[I U J,I U nn,I U pp,y7 S,Z ia il ic,Z ka kl kc,Z fa j fc] 67 (0,0))):=by unfold Hid;rw[<-ba];exact bn _ _
   have cl:=H ba;have bd:f_.kind (α:=VT 11) a≠8->j=0:=λh=>by
    rcases ds.o a (aQ a7)with p|p;·exact absurd p h
    ·rw[<-bs.o,p];rfl
   have f2:(j:Int)<=9000000000:=by
    by_cases h:f_.kind (α:=VT 11) a=8;·have:=(aa h).1;omega
    ·have:=bd h;omega
   clear ba;obtain⟨wo,e8⟩:∃wo,wo=wr:=⟨_,rfl⟩;subst e8;by_cases E:f_.kind (α:=VT 11) a=8
   ·obtain⟨aa,db⟩:=aa E;have b7:J=8:=by rw[<-ci.o];omega
    subst b7;obtain⟨b0,hd,c7⟩:=d3.o e a a7 E;obtain⟨z,p1,p2,p3⟩:=M7 _ c7;rw[bs.o]at p2;have ei:=H p1;have ck:=H p2;have ek:=H p3;have d2:=H hd;have H8:=H E;have eo:=H db;clear hd c7 p1 p2 p3 E db bd;go_wp2_with fail;rw[cl.o];clear c0 c1 c2 c3 c4 c5 C d0;go_loopw [4,8,9] (λxv tv kv wr=>∃(c:Nat) (r:Int) (T:Bool) (i:ByteArray),c<=j/\xv=Bs T/\tv=y7 i/\kv=I U r/\r+1=(c:Int)/\wt (T=CD->i=gj (z c))/\wt ((z c).length<=i.size)/\wt (i.size+20<=2^(j-c)*20020)/\wt (wm v.heap.size v wr)) (λ_ _ kv _=>(intOf kv+1).toNat)
    case atStart=>
     refine⟨j,(j:Int)-1,D,S,ag _,rfl,rfl,by go_num,Y,λ_=>by rw[ck.o];exact bx.s,?_,?_,ar _ _⟩;·unfold Hid;rw[ck.o,<-bx.o,lu];exact ag _
     ·unfold Hid;rw[<-bx.o,lu,eJ];have:=eo.o;omega
    case round=>
     obtain⟨c,r,T,i,hj,rfl,rfl,rfl,hz,d4,cj,bv,n⟩:=hrel;have a9:=H ((n.block _ (ap a8)).t a8);have q0:=nw a9;have q6:=vL a9;obtain⟨e6,c9⟩:=Sf aa bv;cases c with
     |zero=>
      have dj:¬(0:Int)<=r:=Y;have l:=Q.o.t (n.o.m Q.size);have ad:=H (R.t (l.m R.size));have ao:=H (ym bz l);have br:wt (Ch f es (d++[i])):=a4.o.snoc (U:=a) (by rw[B.o];exact a7) Y (λh=>absurd H8 h) (λ_ d' cq=>by rw[B.o,d2.o]at cq;cases cq;rw[<-ei.o];exact cj)
      clear l;have fs:=ad.o.size;go_wp2_with (at_builtin;refine aX _ rfl (.tmp 62) (.tmp 64) 38 rfl m.heap.size 9 j0 _ 1 16 dz ji dl dm dp rfl bF _ e _ rfl (ao.alloc _) ⟨wr.heap.size,0,N⟩ 1 1 [y7 i] rfl rfl ?hnews ?hone ?h63 ?hby ?hbs ?_)
      case hone=>first|rfl|(intro ac F;simp at F;subst F;rfl)
      case h63=>unfold maxLen;omega
      case hby=>omega
      case hbs=>first|omega|(simp;omega)
      intro v6 w6 L a2 _;have bh:=H (IB ad ao a2);have bt:wt (w6.ownsRow m.heap.size 9 1 v6 (e+1) ((d++[i]).map λM=>y7 M)):=by unfold Hid;rw[aI];exact L
      obtain⟨a6,C,cc⟩:=ke L;subst cc;clear L a2;go_wp2;go_roundw
      case rel=>exact⟨e+1,_,a6,C,d++[i],Y,rfl,by go_num,rfl,(by unfold Hid;rw[ab,B.o];rfl),bt,br,bh⟩
      case measure=>exact eT
     |succ c=>
      have fm:r=(c:Int):=Y;subst fm;have dj:(0:Int)<=(c:Int):=Y;have f0:(c:Int)<(j:Int):=Y;obtain⟨o,hf⟩:∃o,(f_.filters (α:=VT 11) a)[c]?=O o:=⟨_,af (by rw[bs.o];omega)⟩;obtain⟨g2,o2,rfl,cv,ct⟩:=d5.o c o hf;have cd:=ek.o c o hf;have l:=Q.o.t (n.o.m Q.size);have q7:wr.cell? ⟨g2,o2+c,N⟩=O (I U o):=by rw[l.cell (ej.o g2 cv)];exact ct
      have f3:=c9 Y;have fz:=cd.ok;have al:=H cd;clear hf ct cv cd e6 c9;by_cases hx:o<4/\T=CD
      ·obtain⟨bc,rfl⟩:=hx;have hS:=d4.o rfl;have fv:(z (c+1)).length=i.size:=by rw[hS,lu]
       have a3:=H (Nd (al.is bc) bc Y wr);rw[<-hS]at a3;have e7:(gj (z c)).size=(z c).length:=lu _;have a5:wt ((gj (z c)).size+20<=2^(j-c)*20020):=GE Y bv (by have:=al.o.len;omega);have fx:(o:Int)<4:=Y;obtain⟨S2,b2⟩:∃S2,gj (z c)=S2:=⟨_,rfl⟩;rw[b2]at a3 e7 a5;have el:=H b2;clear hS b2 l al;go_wp2_with fail;apply a3.o.m;rintro s w5 ⟨rfl,b5⟩;have bm:=H (n.t (b5.m n.size));clear b5 a3 q0 q6 q7;go_wp2;go_roundw
       case rel=>exact⟨c,(c:Int)-1,CD,S2,Y,rfl,rfl,by go_num,Y,λ_=>el.s,(by unfold Hid;omega),a5,bm⟩
       case measure=>simp[intOf]<;>omega
      ·obtain⟨u,hN⟩:∃u,2*i.size+20=u:=⟨_,rfl⟩;have eN:2*(i.size:Int)+20=(u:Int):=Y;have dk:(gj (DJ u 0)).size=u:=by rw[lu,bj]
       have a5:wt (u+20<=2^(j-c)*20020):=GE Y bv Y;have ea:wt ((z c).length<=u):=by unfold Hid;have:=al.o.len;have:=cj.o;omega
       have et:(o:Int)<4/\T=CS\/¬(o:Int)<4:=by
        by_cases h4:o<4
        ·refine C1 ⟨Y,?_⟩;cases T with
         |false=>rfl
         |true=>exact absurd ⟨h4,rfl⟩ hx
        ·exact C2 Y
       clear hx l al hN;rcases et with⟨bc,rfl⟩|bc;all_goals
        go_wp2_with (at_make;refine wpList_make_full _ rfl _ _ 23 rfl wr.heap.size 5 i0 (I .u8 0) 1 az hi fb fd U U _ _ u rfl rfl Y Y (by rw[fi];omega) lB (ag _) ?_;intro w4 cy cw;have fw:=Pz cy);have bm:=H (n.t (((ar wr.heap.size wr).grown cw (ag _) (λk h=>by cases h)).m n.size));clear cy cw q0 q6 q7;go_wp2;go_roundw
        case rel=>exact⟨c,(c:Int)-1,CS,_,Y,rfl,rfl,by go_num,Y,(λh=>by cases h),(by rw[dk];exact ea),(by rw[dk];exact a5),bm⟩
        case measure=>simp[intOf]<;>omega
   ·have b7:J≠8:=by rw[<-ci.o];omega
    have f1:(J != 8)=CD:=by simpa using b7
    have H8:=H E;have eb:=H (bd E);clear E bd aa;go_wp2_with fail;rw[cl.o];clear c0 c1 c2 c3 c4 c5 C d0;go_loopw [4,8,9] (λxv tv kv wq=>∃(r:Int),xv=Bs D/\tv=y7 S/\kv=I U r/\r<0/\wt (wm v.heap.size v wq)) (λ_ _ kv _=>0)
    case atStart=>exact⟨_,rfl,rfl,rfl,by have:=eb.o;omega,ar _ _⟩
    case round=>
     obtain⟨r,rfl,rfl,rfl,fq,n⟩:=hrel;have a9:=H ((n.block _ (ap a8)).t a8);have q0:=nw a9;have l:=Q.o.t (n.o.m Q.size);have ad:=H (R.t (l.m R.size));have ao:=H (ym bz l);have br:=H (a4.snoc (U:=a) (by rw[B.o];exact a7) bF (λ_=>rfl) (λh=>absurd h H8));clear l;have dj:¬(0:Int)<=r:=Y;clear fq;have fs:=ad.o.size;go_wp2_with (at_builtin;refine aX _ rfl (.tmp 62) (.tmp 64) 38 rfl m.heap.size 9 j0 _ 1 16 dz ji dl dm dp rfl bF _ e _ rfl (ao.alloc _) ⟨wr.heap.size,0,N⟩ 1 1 [y7 {data:=#[]}] rfl rfl ?hnews2 ?hone2 ?h632 ?hby2 ?hbs2 ?_)
     case hone2=>first|rfl|(intro ac F;simp at F;subst F;rfl)
     case h632=>unfold maxLen;omega
     case hby2=>omega
     case hbs2=>first|omega|(simp;omega)
     intro v6 w6 L a2 _;have bh:=H (IB ad ao a2);have bt:wt (w6.ownsRow m.heap.size 9 1 v6 (e+1) ((d++[({data:=#[]}:ByteArray)]).map λM=>y7 M)):=by unfold Hid;rw[aI];exact L
     obtain⟨a6,C,cc⟩:=ke L;subst cc;clear L a2;go_wp2;go_roundw
     case rel=>exact⟨e+1,_,a6,C,d++[{data:=#[]}],Y,rfl,by go_num,rfl,(by unfold Hid;rw[ab,B.o];rfl),bt,br,bh⟩
     case measure=>exact eT
def wF(a:Nat)(b:List Nat):(jb a b).length=(wohead (a:Int)).length+G b+8:=by unfold jb;simp only[ab,ai,aB];omega
def qV(b c:List (List Nat)):Prop:=G b<=G c/\∀(a:Nat) (d e:List Nat),b[a]?=O d->c[a]?=O e->G d<=G e
def qV.tail{a b:List Nat}{c d:List (List Nat)}(h:qV (a::c) (b::d)):G a<=G b/\qV c d :=
 ⟨h.2 0 a b rfl rfl,by have:=h.1;simpa using this,λg i j e f=>h.2 (g+1) i j (by simpa using e) (by simpa using f)⟩
def qG:∀(b c:List (List Nat)) (a:Nat),qV b c->(gD b a).length<=(gD c a).length
 | [],_,_,_=>aw _
 |d::b,[],a,h=>by have:=h.1;simp at this
 |d::b,e::c,a,h=>by have f:=h.tail;have:=qG b c (a+1) f.2;show(jb a d++gD b (a+1)).length<=(jb a e++gD c (a+1)).length;rw[ab,ab,wF,wF];omega
def Dp:∀(b a:Nat),a<=b->(gJ a).length<=(gJ b).length:=by
 intro b;induction b using Nat.strongRecOn with
 |ind b e=>
  intro a h;by_cases d:b<10;·rw[yQ d,yQ (by omega:a<10)];exact ag _
  ·rw[Ft d,ab,yQ (Nat.mod_lt b bF)];by_cases c:a<10;·rw[yQ c];simp
   ·rw[Ft c,ab,yQ (Nat.mod_lt a bF)];have:=e (b/10) Y (a/10) (Nat.div_le_div_right h);simp only[ai,aB];omega
def Cn{a b:Nat}(h:a<=b)(c:b<10^18):(gJ a).length<=(gJ b).length:=Dp b a h
def tq{a b:Nat}(h:a<=b)(c:b<10^18):(gU (a:Int)).length<=(gU (b:Int)).length:=by unfold gU;rw[aj Y,aj Y,Int.toNat_natCast,Int.toNat_natCast];exact Cn h c
def Ec{a b:Nat}(h:a<=b)(c:b<10^18):(iD 10 a).length<=(iD 10 b).length:=by unfold iD;have:=Cn h c;simp only[ab,bj];omega
def CI:∀(d b:List (List Nat)) (e c a:Nat),qV d b->G d=G b->e<=c->c+(gD b a).length<10^18->((g8 d e a).flatMap jd).length<=((g8 b c a).flatMap jd).length
 | [],_,_,_,_,_,_,_,_=>aw _
 |f::d,[],_,_,_,h,_,_,_=>by have:=h.1;simp at this
 |f::d,g::b,e,c,a,h,n,o,l=>by
  have k:=h.tail;have m:c+(jb a g++gD b (a+1)).length<10^18:=l;rw[ab]at m;have p:(jb a f).length<=(jb a g).length:=by rw[wF,wF];omega
  have q:=CI d b (e+(jb a f).length) (c+(jb a g).length) (a+1) k.2 pn Y Y;show((e::g8 d (e+(jb a f).length) (a+1)).flatMap jd).length<=((c::g8 b (c+(jb a g).length) (a+1)).flatMap jd).length;rw[cG,cG,ab,ab];have:=Ec o Y;have j:∀i,(jd i).length=(iD 10 i).length+10:=λi=>by unfold jd;rw[ab];rfl
  rw[j,j];omega
def uZ{b a:List (List Nat)}(h:qV b a)(d:G b=G a)(e:Int)(c:9+(gD a 1).length<10^18):(iE b e).length<=(iE a e).length:=by
 have f:=qG b a 1 h;have g:=CI b a 9 9 1 h d (ag _) c;have i:(gU (((hJ++gD b 1).length:Nat):Int)).length<=(gU (((hJ++gD a 1).length:Nat):Int)).length:=by
  refine tq ?_ ?_;·rw[ab,ab];omega
  ·rw[ab];exact c
 unfold iE kQ;rw[jJ,jJ,d];simp only[ab,ai,aB]at *;omega
def uY(a:List (List Nat))(b:Int):(hJ++gD a 1).length<=(iE a b).length:=by unfold iE;exact(List.sublist_append_left _ _).length_le
def NH{a:VT 12}(i:I3 a)(b:Nat):(gT (k:=12) (sdict 9 a b)).length=(wpairs (k:=11) a (f_.keys (α:=VT 11) a).length).length+(if(wpairs (k:=11) a (f_.keys (α:=VT 11) a).length).length=0 then 0 else 1)+(gU (b:Int)).length+((jq (f_.filters (α:=VT 11) a) 0).length+3):=by
 have j:∀k:Nat,(jq (f_.filters (α:=VT 11) a) k).length+1=(gU (k:Int)).length+((jq (f_.filters (α:=VT 11) a) 0).length):=λk=>by
  unfold jq lN;have c:(gU ((0:Nat):Int)).length=1:=by decide +kernel
  simp only[ab,c];omega
 have l:=qv 9 a b i.st.keys i.st.fil;have f:=cX ByteArray.size l;rw[lu]at f;refine f.t ?_;unfold tA;have o:(gj (jq (f_.filters (α:=VT 11) a) b)).size≠0:=by rw[lu];unfold jq lN;simp only[ab,ai,aB];omega
 have g:(gj (wpairs (k:=11) a (f_.keys (α:=VT 11) a).length)).size=(wpairs (k:=11) a (f_.keys (α:=VT 11) a).length).length:=lu _;have q:(gj (jq (f_.filters (α:=VT 11) a) b)).size=(jq (f_.filters (α:=VT 11) a) b).length:=lu _;have p:=j b;have m:({data:=#[60,60]}:ByteArray).size=2:=rfl;have n:({data:=#[62,62]}:ByteArray).size=2:=rfl;rw[ByteArray.size_append,ByteArray.size_append,ByteArray.size_append,ByteArray.size_append,m,n];by_cases c:(wpairs (k:=11) a (f_.keys (α:=VT 11) a).length).length=0
 ·have e:(gj (wpairs (k:=11) a (f_.keys (α:=VT 11) a).length)).size=0\/(gj (jq (f_.filters (α:=VT 11) a) b)).size=0:=C1 (g.t c);rw[ak e,ak c];have d:({data:=#[]}:ByteArray).size=0:=rfl;rw[d];omega
 ·have e:¬((gj (wpairs (k:=11) a (f_.keys (α:=VT 11) a).length)).size=0\/(gj (jq (f_.filters (α:=VT 11) a) b)).size=0):=λh=>by
   rcases h with h|h;·exact c (g.s.t h)
   ·exact o h
  rw[aj e,aj c];have d:({data:=#[32]}:ByteArray).size=1:=rfl;rw[d];omega
def RG{a:VT 12}(hF:uM a){d c:List Nat}(l:G c<10^18)(h:f_.kind (α:=VT 11) a=8->G d<=G c):(uT a d).length<=(uT a c).length:=by
 by_cases b:f_.kind (α:=VT 11) a=8
 ·rw[FB b,FB b];have e:=hF.2 b;have m:=h b;have f:=NH e (G d);have i:=NH e (G c);have n:=tq m l;unfold wstream;simp only[ab,ai,aB];have g:(gT (k:=9+3) (sdict 9 a (G d))).length=_:=f;have j:(gT (k:=9+3) (sdict 9 a (G c))).length=_:=i;rw[g,j];omega
 ·rw[FA b,FA b];exact ag _
def Hc{d:Nat}{a:List Nat}(l:1<=d/\d<=4)(c:∀e∈a,e<256):∃g,WL d a g:=by
 obtain rfl|rfl|rfl|rfl:d=1\/d=2\/d=3\/d=4:=Y
 ·have i:WE 1 a (iL a++[62]):=⟨Y,c,λe b=>by
   rcases aZ.1 b with b|b;·exact Mc a c e b
   ·simp at b;omega,by rw[ab,mn];simp,C1 (C1 ⟨rfl,rfl⟩)⟩
  exact⟨_,i.wl⟩
 ·have j:WE 2 a (jD a):=⟨Y,c,(ef a c).1,by have:=(ef a c).2;omega,C1 (C2 (C1 ⟨rfl,rfl⟩))⟩;exact⟨_,j.wl⟩
 ·have k:WE 3 a (je a):=by
   have f:je a=lH (G a+1) a++[128]:=by rw[je,pj]
   have m:=oM (G a+1) a;refine⟨Y,c,λe b=>?_,by rw[f,ab];simp;omega,C1 (C2 (C2 ⟨rfl,rfl⟩))⟩;rw[f]at b;rcases aZ.1 b with b|b;·exact nT _ a c e b
   ·simp at b;omega
  exact⟨_,k.wl⟩
 ·exact⟨[],Y,λe b=>by simp at b,cO,λh=>Y⟩
def M4:∀(c:List Nat) {a:List Nat},(∀b∈c,1<=b/\b<=4)->(∀f∈a,f<256)->∃d,mi WL c a d/\∀f∈d,f<256
 | [],a,_,e=>⟨a,rfl,e⟩
 |b::c,a,h,e=>by obtain⟨m,j,k⟩:=M4 c (λi l=>h i (by simp[l])) e;obtain⟨d,g⟩:=Hc (h b cO) k;exact⟨d,⟨m,j,g⟩,g.byt⟩
def Pf{f:List (VT 12)}{l:List (List Nat)}(n:pG WE 9 f l)(hF:∀a∈f,uM a):∃es:List (List Nat),G es=G f/\∀(d:Nat) (b:List Nat),es[d]?=O b->∀a:VT 12,f[d]?=O a->(f_.kind (α:=VT 11) a=8->mi WL (f_.filters (α:=VT 11) a) (f_.text (α:=VT 11) a) b)/\∀e,l[d]?=O e->e=uT a b:=by
 refine Ig (G f) (λd q=>?_);obtain⟨a,i⟩:∃a,f[d]?=O a:=⟨_,af q⟩;have s:=hF a (aQ i);by_cases g:f_.kind (α:=VT 11) a=8
 ·have o:=s.2 g;cases k:l[d]? with
  |none=>obtain⟨b,p,_⟩:=M4 (f_.filters (α:=VT 11) a) o.st.fil o.tb;refine⟨b,λm c=>?_⟩;rw[i]at c;cases c;exact⟨λ_=>p,λe h=>by cases h⟩
  |some e=>
   have j:=n.each d e a k i;unfold BO at j;rcases j with⟨_,b,r,_,_,rfl⟩|⟨h,_⟩
   ·refine⟨b,λm c=>?_⟩;rw[i]at c;cases c;exact⟨λ_=>mi.imp (λu b t h=>h.wl) _ r,λv h=>by cases h;exact(FB g).s⟩
   ·exact absurd g h
 ·refine⟨[],λm c=>?_⟩;rw[i]at c;cases c;refine⟨λh=>absurd h g,λe k=>?_⟩;have j:=n.each d e a k i;unfold BO at j;rcases j with⟨h,_⟩|⟨_,rfl⟩;·exact absurd h g
  ·exact(FA g).s
def li{b:List (VT 12)}{l:Int}{h j:List (List Nat)}{f:List ByteArray}(P:G h<=G b)(Q:G b<=100)(t:∀a∈b,uM a/\jt 12 a<=2000)(M:G j=G b)
  (C:∀(c:Nat) (d:List Nat),j[c]?=O d->∀a:VT 12,b[c]?=O a->(f_.kind (α:=VT 11) a=8->mi WL (f_.filters (α:=VT 11) a) (f_.text (α:=VT 11) a) d)/\∀i,h[c]?=O i->i=uT a d) (B:G f=G b) (p:Ch b j f)
  (D:(G h=G b/\200000<(iE h l).length)\/200000<(hJ++gD h 1).length):200000<(iE (xf b f) l).length:=by
 have K:=JG B;have q:qV h (xf b f):=⟨Y,λc i R e g=>by
  have n:c<G b:=by have:=(ay.1 e).1;omega
  obtain⟨a,k⟩:∃a,b[c]?=O a:=⟨_,af n⟩;obtain⟨m,r⟩:∃m,f[c]?=O m:=⟨_,af Y⟩;obtain⟨d,s⟩:∃d,j[c]?=O d:=⟨_,af Y⟩;rw[JF k r]at g;cases g;rw[(C c d s a k).2 i e];obtain⟨u,J,v⟩:=p c a m k r;exact RG (t a (aQ k)).1 (by rw[mC];exact eV u bF) (λA=>by rw[mC];exact v A d s)⟩
 have L:=wbody_small 600000000 (xf b f) 1 (λi E=>by obtain⟨o,F,rfl⟩:=cE.1 E;obtain⟨c,n⟩:=List.mem_iff_getElem?.1 F;obtain⟨e,g⟩:=dP.1 n;obtain⟨x,y⟩:=t o.1 (aQ e);exact MP x y (by rw[mC];exact(p c o.1 o.2 e g).1)) Y
 rcases D with⟨e,g⟩|e
 ·have:=uZ q Y l Y;omega
 ·have g:=qG _ _ 1 q;have z:=uY (xf b f) l;rw[ab]at e z;omega
def Q8{a:List (VT 12)}{h:Int}{m:Option wT}{oc:Nat}{l:List (List Nat)}{e:Nat->Prop}
  (J:nD (ku e 12) e w m (a.map (nX 12))) (u:∀c,e c->c<w.heap.size) (v:∀f∈a,By f) (x:jh a h=CD) (t:pG WE 9 a l)
  (E:(G l=G a/\200000<(iE l h).length)\/200000<(hJ++gD l 1).length):wh DG 47 #[Bc #[Z m (G a) oc,I U h]] w λg n=>g=BX (Bs CD)/\wm w.heap.size w n:=by
 obtain⟨⟨W,F⟩,⟨X,aa⟩,A⟩:=df x v;obtain⟨s,D,y⟩:=Pf t (λf k=>(A f k).1);have M:wt (∀d,wm w.heap.size w d->wh DG 82 #[Bc #[Z m (G a) oc,I U h]] d λg n=>∃(q:Nat) (j:Bool),g=BX (BG #[I U q,Bs j])/\200000<q/\wm d.heap.size d n):=λd b=>by
  refine(Q7 (w:=d) (es:=s) (P:=e) (J.keep (λc z _=>b.block c (u c z))) (λc z=>aF (u c z) b.size) v x (λK f k V=>?_)).m ?_
  ·obtain⟨i,C⟩:∃i,s[K]?=O i:=⟨_,af (by have:=(ay.1 k).1;omega)⟩;exact⟨i,C,(y K i C f k).1 V⟩
  ·rintro g n ⟨Ss,j,rfl,R,S,T⟩;exact⟨_,j,rfl,by rw[lu];exact li t.len F A D y R S E,T⟩
 generalize (G a)=ac at *;clear J u v x t E A y D W F X aa;obtain⟨p,B⟩:∃p,w.alloc (BV #[Z m ac oc,I U h] 31)=p:=⟨_,rfl⟩;have r:wt (wm w.heap.size w p):=by unfold Hid;rw[<-B];exact(ar _ _).alloc (ag _) _
 have P:=H B;clear B
 go_in
 go_wp2_with fail;rw[P.o];apply(M p r).m;rintro g w2 ⟨q,j,rfl,hz,Q⟩;have L:=H (r.t (Q.m r.size));have ad:(200000:Int)<(q:Int):=Y;go_wp2;go_ret;exact⟨rfl,L⟩
def gn{k:Nat}{Vs:List (GT k)}{root:Int}{oa:Option wT}{oc:Nat}{P:Nat->Prop}(h:nD (ku P k) P w oa Vs)(e:∀a,P a->a<w.heap.size)(hF:∀l∈Vs,GB l)(n:G Vs<=140737488355328)(m:jm Vs root=CS):wh DG 24 #[Bc #[Z oa (G Vs) oc,I U root]] w λd j=>d=BX (BG #[Z N 0 0,I U 2])/\wm w.heap.size w j:=by
 have p:wt (∀c,wm w.heap.size w c->wh DG 61 #[Bc #[Z oa (G Vs) oc,I U root]] c λd j=>d=BX (Bs CS)/\wm c.heap.size c j):=λc b=>by
  have y:nD (ku (λa=>a<c.heap.size) k) (λa=>a<c.heap.size) c oa Vs:=λA l z=>by obtain⟨a,C,D,e1,e2,s,t⟩:=(h.keep (λa v _=>b.block a (e a v)):nD (ku P k) P c oa Vs) A l z;exact⟨a,C,D,e1,aF (e a e2) b.size,s,ku.m k t (λu x _=>aF (e u x) b.size)⟩
  have:=L7 (root:=root) (oc:=oc) y hF n;rw[m]at this;exact this
 generalize (G Vs)=B at *;clear h e hF n m;obtain⟨f,i⟩:∃f,w.alloc (BV #[Z oa B oc,I U root] 31)=f:=⟨_,rfl⟩;have g:wt (wm w.heap.size w f):=by unfold Hid;rw[<-i];exact(ar _ _).alloc (ag _) _
 have q:=H i;clear i
 go_in
 go_wp2_with fail;rw[q.o];apply(p f g).m;rintro d E ⟨rfl,r⟩;have o:=H (g.t (r.m g.size));go_wp2
 go_ret2
 exact⟨rfl,o⟩
def Ci(k a:Nat)(e:List (GT k))(f:List (GT a)):Prop:=G e=G f/\∀(d:Nat) (c:GT k) (b:GT a),e[d]?=O c->f[d]?=O b->Re k a c b
def JH{l:Type}{k b:Nat}{c:List (GT k)}{j:List (GT b)}(h:Ci k b c j)(f:GT k->l)(g:GT b->l)(m:∀e d,Re k b e d->f e=g d):c.map f=j.map g:=by
 refine List.ext_getElem? λi=>?_;rw[aE,aE];by_cases a:i<G c
 ·rw[af a,af (by rw[<-h.1];exact a)];exact cX O (m _ _ (h.2 i _ _ (af a) (af (by rw[<-h.1];exact a))))
 ·rw[List.getElem?_eq_none Y,List.getElem?_eq_none (by rw[<-h.1];omega)];rfl
def gr:∀(k c:Nat) {b:GT k} {a:GT c},Re k c b a->ly b=ly a
 |0,_,_,_,h=>by cases h
 |k+1,0,_,_,h=>by cases h
 |k+1,c+1,b,a,⟨⟨e1,e2,d,e,f,g⟩,i,j⟩=>e1
def Jj{k b:Nat}{c:List (GT k)}{a:List (GT b)}(h:Ci k b c a)(d:Int):jm c d=jm a d:=by
 unfold jm;have l:=JH h ly ly (λf e=>gr k b);have m:=JH h (ie k) (ie b) (λf e=>ux k b);have n:=JH h (jw (G a) k 1) (jw (G a) b 1) (λf e=>vB (G a) k b 1);have e1:(c[(d-1).toNat]?).map ly=(a[(d-1).toNat]?).map ly:=by rw[<-aE,<-aE,l]
 have j:c.all (jw (G a) k 1)=a.all (jw (G a) b 1):=by
  have g:c.all (jw (G a) k 1)=(c.map (jw (G a) k 1)).all id:=by rw[List.all_map];rfl
  have i:a.all (jw (G a) b 1)=(a.map (jw (G a) b 1)).all id:=by rw[List.all_map];rfl
  rw[g,i,n]
 rw[h.1,m,e1,j]
def Dq{k:Nat}(r:0<k){d:List (GT k)}{root:Int}(o:jm d root=CD):∃c:List (VT 12),Ci k 12 d (c.map (nX 12))/\(∀a∈c,By a)/\jh c root=CD:=by
 have i:=o;unfold jm at i;simp only[a_,bT,bG]at i;obtain⟨_,q,_⟩:=i;obtain⟨c,s,n⟩:=Ig (α:=VT 12) (R:=λb a=>∃g,d[b]?=O g/\Re k 12 g (nX 12 a)/\By a) (G d) (λb f=>by obtain⟨a,j,e⟩:=L9 (G d) k 12 1 d[b] rfl r (q _ (cI f));exact⟨a,_,af f,j,e⟩)
 have m:Ci k 12 d (c.map (nX 12)):=⟨by rw[aq,s],λb g t j e=>by
  rw[aE]at e;cases l:c[b]? with
  |none=>rw[l]at e;cases e
  |some a=>rw[l]at e;cases e;obtain⟨u,e1,e2,_⟩:=n b a l;rw[j]at e1;cases e1;exact e2⟩
 refine⟨c,m,λa p=>?_,?_⟩
 ·obtain⟨b,f⟩:=List.mem_iff_getElem?.1 p;obtain⟨_,_,_,h⟩:=n b a f;exact h
 ·rw[<-qW,<-Jj m root];exact o
def nD.re{k b:Nat}{a:Nat->Prop}{j:Option wT}{d:List (GT k)}{i:List (GT b)}(h:nD (ku a k) a w j d)(g:Ci k b d i):nD (ku a b) a w j i:=λc l e=>by obtain⟨V,f⟩:∃V,d[c]?=O V:=⟨_,af (by rw[g.1];exact(ay.1 e).1)⟩;obtain⟨o,p,q,e1,e2,m,n⟩:=h c V f;exact⟨o,p,q,e1,e2,m,ku.re k b n (g.2 c V l f e)⟩
def cnt_len{k:Nat}(a:List (VT k)):G a<=(a.map (jt k)).sum:=by
 induction a with
 |nil=>simp
 |cons b a d=>
  have c:1<=jt k b:=by
   cases k with
   |zero=>exact ag _
   |succ k=>unfold jt;omega
  simp only[bM,cT,ai];omega
def fe:∀b:List Nat,(∀a∈b,1<=a/\a<=4)->∃c:List qx,b=c.map λg=>g.1
 | [],_=>⟨[],rfl⟩
 |a::b,h=>by obtain⟨c,d⟩:=fe b (λe d=>h e (by simp[d]));exact⟨⟨a,h a cO⟩::c,cX (λf=>a::f) d⟩
def MK{a:VT 12}(hF:uM a)(m:jt 12 a<=2000):vA 200000 9 a:=by
 have n:jt 12 a=1+((f_.items (α:=VT 11) a).map (jt 11)).sum:=rfl;have o:=cnt_len (f_.items (α:=VT 11) a);refine⟨λc=>?_,λc=>(hF.1 c).wok,?_⟩
 ·have b:=hF.2 c;obtain⟨d,e⟩:=fe _ b.st.fil;have h:G d<=4:=by have:=b.fl;rw[e,aq]at this;exact this
  refine⟨d,⟨e,Y,b.tb,λj i=>(b.items j i).wok,b.kb,b.st.keys,by show(f_.items (α:=VT 11) a).length<=500000;omega⟩,?_,by have:=b.tl;show(f_.text (α:=VT 11) a).length<=200000;omega⟩;have f:2^(G d)<=2^4:=aY Y h;have g:(f_.text (α:=VT 11) a).length+36<=20036:=by have:=b.tl;omega
  have l:=Nat.mul_le_mul f g;show 2^(G d)*((f_.text (α:=VT 11) a).length+36)<=2*200000;omega
 ·by_cases c:f_.kind (α:=VT 11) a=8
  ·have:=(hF.2 c).len;show gV (k:=12) a<=100000000;omega
  ·have:=(hF.1 c).len;show gV (k:=12) a<=100000000;omega
def gy{d:Nat}(n:pR d w)(j:d<=w.heap.size){i:Nat->Prop}{c:List (VT 12)}{g:wg}{root:Int}(h:oZ i 12 0 c w g)(l:∀a∈c,By a)(k:∀a∈c,GB (nX 12 a))(m:jh c root=CD):wh DG 24 #[Bc #[g,I U root]] w (KI WE c root w):=by
 obtain⟨⟨p,q⟩,_,f⟩:=df m l;exact Uj F4 Y n j h (λo b=>QY (h.keep b) k Y) (λ_ a e=>MK (f a e).1 (f a e).2)
def rn.itAt{k f e:Nat}{d:List (GT k)}(h:rn d f e (f+3) w)(o:G d=f):nD (ku (λb=>b<w.heap.size) k) (λb=>b<w.heap.size) w (O ⟨e,0,N⟩) d:=λc r j=>by
 obtain⟨l,s,t,g,u,v,m,n⟩:=h.fin o;have y:=(ay.1 j).1;obtain⟨a,i⟩:∃a,l[c]?=O a:=⟨_,af Y⟩;have q:(l++[nR,nR,nR])[c]?=O a:=by rw[aR Y];exact i
 refine⟨e,0,a,rfl,ap g.1,λz A p=>by rw[bZ];exact g.cell q p,ku.m k (qe.gin k (n c a r i j)) λb x _=>?_⟩;have:=m (c+1);omega
def rn.vals{k c j:Nat}{f:List (GT k)}(h:rn f c j (c+3) w)(C:G f=c)(R:c<=1000000){n:List (VT 12)}(s:Ci k 12 f (n.map (nX 12)))(z:∀b∈f,GB b):oZ (λo=>j<o/\o<w.heap.size) 12 0 n w (Z (O ⟨j,0,N⟩) c (c+3)):=by
 obtain⟨l,K,p,q,M,v,x,y⟩:=h.fin C;have B:G n=c:=by have:=s.1;rw[aq]at this;omega
 have E:(l.flatMap cellsOf).length=c*7:=by
  rw[List.length_flatMap];have:∀e:List wg,(∀a∈e,(cellsOf a).length=7)->(e.map λa=>(cellsOf a).length).sum=G e*7:=λe=>by
   induction e with
   |nil=>intro _;rfl
   |cons a e J=>intro d;simp only[bM,cT,ai];rw[J (λb g=>d b (by simp[g])),d a cO];omega
  rw[this l (λa d=>q.lens a (by simp[d])),p]
 have r:w.heap[j]?=O (BV (l.flatMap cellsOf++[nR,nR,nR].flatMap cellsOf).toArray 67 (0,0)):=by rw[<-cK];exact q.1
 have F:=IU (P:=λ_=>True) r E (m:=3) (size:=7) rfl Y trivial;refine⟨l,by rw[p];exact F.1,by rw[p,B],λi a u d A=>?_⟩;have Q:=(ay.1 d).1;obtain⟨b,g⟩:∃b,f[i]?=O b:=⟨_,af Y⟩;have t:=s.2 i b (nX 12 u) g (by rw[aE,A];rfl);have D:=qe.re k 12 (y i a b d g) t;refine iR.m 12 (qe.vin 12 D (GB.re k 12 (z b (aQ g)) t)) λo r _=>?_;have L:=uR v (aw i);have:=x (i+1);omega
end
section
variable{w f:vz}
def PR{a:List (VT 12)}{x:Int}{l:List (List Nat)}(s:jh a x=CD)(q:∀n∈a,By n)(e:pG WE 9 a l):∀m∈l,gu m:=by
 obtain⟨_,_,i⟩:=df s q;intro m v;obtain⟨d,u,rfl⟩:=cF v;have y:=e.len;have g:d<G a:=Y;have h:=cI g;have j:=MK (i _ h).1 (i _ h).2;rcases e.each d _ _ (af u) (af g)with⟨c,o,_,t,r,b⟩|⟨c,b⟩
 ·obtain⟨p,k,z,_⟩:=j.str c;have e2:(f_.filters (α:=VT 11) a[d]).length=G p:=by have:=k.fil;rw[this,aq]
  rw[e2]at t;rw[b];unfold wstream;exact gu.app (gu.wv 12 (k.dict (G o) Y).1) (gu.app (gu.lit bF) (gu.app r (gu.lit bF)))
 ·rw[b];exact gu.wv 12 (j.val c)
def RU{c d:vz}{s j b e l k:Nat}{m:wg}{n:List wg}(h:c.ownsRow b e l m k n)(t:jA s j c d)(u:j<=b):d.ownsRow b e l m k n:=by
 obtain⟨q,a⟩:=h;refine⟨q,?_⟩;rcases a with a|⟨g,o,p,e1,e2,i,r⟩;·exact C1 a
 ·exact C2 ⟨g,o,p,e1,e2,by rw[t.block g (ap i) (C2 Y)];exact i,r⟩
def jA.lowI{b d k:Nat}{e g:vz}(a:jA d k e g)(h:b<=d)(c:wm b w e)(l:b<=w.heap.size):wm b w g:=
 c.t ⟨a.os,a.tape,a.output,a.size,λi j=>a.block i (aF j (aJ l c.size)) (C1 Y)⟩
def yU(b:List (VT 12))(root:Int)(e:Nat)(d:wg)(c:Int)(f:vz):Prop:=∃a,pG WE 9 b a /\
 ((G a=G b/\(iE a root).length<=200000/\c=0/\f.ownsRow e 5 1 d (iE a root).length (nU (iE a root))) \/
  (d=Z N 0 0/\c=3/\((G a=G b/\200000<(iE a root).length)\/200000<(hJ++gD a 1).length)))
def Hk{k:Nat}(d:List (GT k))(b:Int)(w:vz)(g:xc)(f:vz):Prop:=∃c,g=BX (BG #[c,Bs CD])/\wm w.heap.size w f /\
 ((jm d b=CS/\c=Z N 0 0)\/∃a h,Ci k 12 d (a.map (nX 12))/\(∀e∈a,By e)/\jh a b=CD/\yU a b w.heap.size c h f)
def Oe{k:Nat}(hk:0<k){Vs:List (GT k)}{root:Int}{Q:Option wT}{oc:Nat}(he:pR w.heap.size w)(B:nD (ku (λa=>a<w.heap.size) k) (λa=>a<w.heap.size) w Q Vs)
  (hF:∀e∈Vs,GB e) (hK:∀e∈Vs,yV e) (S:G Vs<=1256584717421):wh DG 16 #[Bc #[Z Q (G Vs) oc,I U root]] w (Hk Vs root w):=by
 refine Fk B hF rfl S (λh ad b=>?_) (λh f b=>⟨_,rfl,b,C1 ⟨h,rfl⟩⟩) (λA r s5 wx h1 s bx hv L=>?_);·exact gn (B.belowG b) (λa c=>c) hF Y h
 refine G_ (P:=λa=>a<w.heap.size) hv rfl rfl S (B.keep λa c _=>bx.block a c) (λa c=>Y) hF hK L s (λwc bc V=>?_);obtain⟨xs,a8,bm,a5,br,bs,a6,bt⟩:=V.fin rfl;have u:=bx.t (bc.m Y);have aa:=(bc.block r s).t L;have a0:=ap a5.1;have D:∀{n:wg} {o:Int} {q:vz},wm wc.heap.size wc q->(∀m,jA A wc.heap.size q m->wm w.heap.size w m->m.heap[r]?=O (BV #[Z Q (G Vs) oc,I U root] 31 (0,0))->wI (Hk Vs root w) 10 r (jm Vs root) s5 (Z (O ⟨A,0,N⟩) (G Vs+3) (G Vs+3)) n (I U o) m) ->wI (Hk Vs root w) 9 r (jm Vs root) s5 (Z (O ⟨A,0,N⟩) (G Vs+3) (G Vs+3)) n (I U o) q:=λ{n o q} g hT=>by
  have al:=u.t (g.m u.size);have hS:rZ Vs xs a8 A 0 q:=rZ.below ⟨xs++[nR,nR,nR],cO,a5,λ_ _=>rfl,λv ac e _ L M=>bt v ac e L M⟩ (λv _=>a6 v) g;have a7:=(g.block r (Nat.lt_trans s a0)).t aa;refine Fe (hi:=wc.heap.size) (P:=λa=>a<w.heap.size) hS bm rfl rfl S bs br a6 g.size (B.keep λa c _=>al.block a c) (λa c=>Y) hF a7 s (λm y=>?_);exact hT m y (y.lowI Y al (ag _)) ((y.block r (aF (Nat.lt_trans s a0) g.size) (C1 s)).t a7)
 cases h:jm Vs root with
 |false=>
  rw[h]at D;refine AP (X:=λn o _=>n=Z N 0 0/\o=2) Y Y aa (λad b=>?_) (λn o q g T=>?_)
  ·apply(gn (k:=k) (Vs:=Vs) (root:=root) (oa:=O ⟨A,0,N⟩) (oc:=G Vs+3) (P:=λa=>a<wc.heap.size) ((V.itAt rfl).keep λa c _=>b.block a c) (λa c=>aF c b.size) hF Y h).m;rintro a9 f ⟨rfl,i⟩;exact⟨_,_,rfl,i,rfl,rfl⟩
  ·obtain⟨rfl,rfl⟩:=T;exact D g λm y d xz=>Ux λf i=>⟨_,rfl,d.t (i.m d.size),C1 ⟨h,rfl⟩⟩
 |true=>
  rw[h]at D;obtain⟨z,t,p,l⟩:=Dq hk h;obtain⟨⟨b1,b2⟩,⟨b4,b5⟩,b3⟩:=df l p;have a1:G Vs=G z:=by have:=t.1;rw[aq]at this;exact this
  have bd:∀R∈z,GB (nX 12 R):=λR hU=>by obtain⟨v,W⟩:=List.mem_iff_getElem?.1 hU;obtain⟨e,M⟩:∃e,Vs[v]?=O e:=⟨_,af (by have:=(ay.1 W).1;omega)⟩;exact GB.re k 12 (hF e (aQ M)) (t.2 v e (nX 12 R) M (by rw[aE,W];rfl))
  have bh:=V.vals rfl Y t hF;refine AP (X:=yU z root wc.heap.size) Y Y aa (λad b=>?_) (λn o q g T=>?_)
  ·have bb:=he.low (u.t (b.m u.size));apply(gy (root:=root) bb (aJ u.size b.size) (bh.keep b) p bd l).m;rintro a9 f ⟨bw,C⟩;rcases C with⟨hf,_⟩|⟨_,x,j,C⟩;·rw[l]at hf;cases hf
   rcases C with⟨J,F,b6,rfl,K⟩|⟨rfl,E⟩;·exact⟨_,_,rfl,bw,x,j,C1 ⟨J,F,rfl,Bq K b.size⟩⟩
   ·exact⟨_,_,rfl,bw,x,j,C2 ⟨rfl,rfl,E⟩⟩
  ·refine D g λm y d xz=>?_;have a3:=(B.keep λa c _=>d.block a c).re t;obtain⟨x,j,C⟩:=T;rcases C with⟨J,F,rfl,K⟩|⟨rfl,rfl,E⟩
   ·have a4:=RU K y (ag _);obtain⟨ba,b0,rfl⟩:=ke K;have bf:∀ac∈iE x root,ac<256:=by have:=gu.file root.toNat (PR l p j);rw[show((root.toNat:Nat):Int)=root by omega]at this;exact this
    have ao:=Qo (oc:=oc) a3 (λa c=>aF c d.size) p l j J a4 F bf;rw[<-a1]at ao;refine Uv xz ao λf i=>⟨_,rfl,d.t (i.m d.size),C2 ⟨z,0,t,p,l,x,j,C1 ⟨J,F,rfl,Bq (ym a4 i) u.size⟩⟩⟩
   ·have a2:=Q8 (oc:=oc) a3 (λa c=>aF c d.size) p l j E;rw[<-a1]at a2;exact Uw xz a2 λf i=>⟨_,rfl,d.t (i.m d.size),C2 ⟨z,3,t,p,l,x,j,C2 ⟨rfl,rfl,E⟩⟩⟩
def pR.up{a:Nat}(h:pR a w)(d:a<=w.heap.size)(b:wm w.heap.size w f):pR f.heap.size f:=by have c:=h.low (b.m d);exact⟨c.pow,by have:=c.lp;have:=b.size;omega⟩
def xT:GT 1:=(⟨7,0,0,{data:=#[]},[],[],[]⟩:GN (GT 0))
def S_:jm [xT] 1=CD:=by decide
def Ta:GB xT:=⟨⟨by unfold wH;show(-9223372036854775808:Int)<=7/\(7:Int)<=_;omega,by unfold wH;show(-9223372036854775808:Int)<=0/\(0:Int)<=_;omega,by unfold wH;show(-9223372036854775808:Int)<=0/\(0:Int)<=_;omega⟩,bF,bF,bF,bF,(λa h=>by cases h),(λa h=>by cases h),(λa h=>by cases h)⟩
def BH:yV xT:=⟨bF,bF,bF,λa h=>by cases h⟩
def Th{d:List (VT 12)}(n:Ci 1 12 [xT] (d.map (nX 12))){t:Nat}{q:wg}{v:Int}(h:yU d 1 t q v w):∃e p i,q=Z e p i/\0<p:=by
 obtain⟨c,j,h⟩:=h;have M:G d=1:=by have:=n.1;rw[aq]at this;exact this.s
 have l:∀r∈c,G r<=30000:=λr D=>by
  obtain⟨E,x,rfl⟩:=cF D;have B:=j.len;have y:E=0:=Y;subst y;obtain⟨a,o⟩:∃a,d[0]?=O a:=⟨_,af Y⟩;obtain⟨⟨F,_,_,_,J,_⟩,P,_⟩:=n.2 0 xT (nX 12 a) rfl (by rw[aE,o];rfl);have e1:f_.kind (α:=VT 11) a=7:=by have:(7:Int)=(f_.kind (α:=VT 11) a:Int):=F;omega
  have e2:f_.keys (α:=VT 11) a=[]:=by
   have:([]:List ByteArray)=(f_.keys (α:=VT 11) a).map gj:=J;cases z:f_.keys (α:=VT 11) a with
   |nil=>rfl
   |cons e b=>rw[z]at this;cases this
  rcases j.each 0 _ _ (af x) o with⟨m,_⟩|⟨_,u⟩
  ·have m:f_.kind (α:=VT 11) a=8:=m;omega
  ·rw[u];have:gT (k:=12) a=60::60::(gY (((f_.keys (α:=VT 11) a).zip (f_.items (α:=VT 11) a)).map λs=>gN s.1++(32::gT (k:=11) s.2))++[62,62]):=by rw[gT,e1];rfl
   rw[this,e2];exact(by decide:([60,60,62,62]:List Nat).length<=30000)
 have B:=j.len;rcases h with⟨A,_,_,C⟩|⟨_,_,g⟩
 ·obtain⟨e,i,rfl⟩:=ke C;refine⟨e,_,i,rfl,?_⟩;have:=(th (k:=1) l Y (ag _) Y).2.2;exact aF bF this
 ·exfalso;rcases g with⟨A,g⟩|g
  ·have:=(th (k:=1) l Y (ag _) Y).2.1;exact absurd g (Nat.not_lt.2 (aJ this bF))
  ·have L:=rQ 30000 c 1 l Y;have K:(hJ++gD c 1).length=9+(gD c 1).length:=by rw[ab];rfl
   have:G c*(30000+20)<=1*30020:=Nat.mul_le_mul Y Y;omega
def Ts(w:vz):wh DG 19 #[] w λb f=>∃a,b=BX (Bc #[Z (O ⟨a,0,N⟩) 1 1,I U 1])/\f.heap[a]?=O (BV #[I U 7,I U 0,I U 0,y7 {data:=#[]},Z N 0 0,Z N 0 0,Z N 0 0] 67 (0,0))/\wm w.heap.size w f:=by
 go_in
 go_wp2;refine aK (v:=Bc #[Z (O ⟨w.heap.size+1,0,N⟩) 1 1,I U 1]) ?_ rfl ?_;·exact bk results19 _ _ w.heap.size 31 _ _ _ rfl (nt _ (bn _ _)) ft rfl aG
 ·refine⟨w.heap.size+1,rfl,?_,((ar _ _).alloc (ag _) _).alloc cO _⟩;have:=bn (w.alloc (BV #[Z (O ⟨w.heap.size+1,0,N⟩) 1 1,I U 1] 31)) (BV #[I U 7,I U 0,I U 0,y7 {data:=#[]},Z N 0 0,Z N 0 0,Z N 0 0] 67);rw[aV]at this;exact this
def I6(y:pR w.heap.size w):wh DG 15 #[] w λe f=>e=BX (Bs CD)/\wm w.heap.size w f:=by
 have t:=H y
 go_in
 go_wp2_with fail;apply(Ts _).m;rintro e j ⟨a,rfl,r,n⟩;have B:nD (ku (λa=>a<j.heap.size) 1) (λa=>a<j.heap.size) j (O ⟨a,0,N⟩) [xT]:=λd c b=>by
  have z:=(ay.1 b).1;have A:d=0:=by simpa using z
  subst A;cases b;refine⟨a,0,Bc #[I U 7,I U 0,I U 0,y7 {data:=#[]},Z N 0 0,Z N 0 0,Z N 0 0],rfl,ap r,λK L C=>?_,⟨N,0,N,0,N,0,rfl,(λd c h=>by cases h),(λd c h=>by cases h),(λd c h=>by cases h)⟩⟩;rw[cb r,<-C,Nat.zero_mul,eD,bZ];exact(dG ..).s
 have u:=H (Oe (k:=1) bF (Vs:=[xT]) (root:=1) (oc:=1) (t.up (ag _) n) B (λc b=>by rw[cZ.1 b];exact Ta) (λc b=>by rw[cZ.1 b];exact BH) bF);have l:=H n;go_wp2_with fail;apply u.o.m;rintro e M ⟨D,rfl,v,g⟩;have s:=H (l.t (v.m l.size));obtain⟨m,i,p,rfl,J⟩:∃m i p,D=Z m i p/\0<i:=by
  rcases g with⟨q,_⟩|⟨E,F,x,_,_,g⟩;·rw[S_]at q;cases q
  ·exact Th x g
 go_wp2;go_ret;exact⟨rfl,s⟩
def Ue{k:Nat}(F:0<k){a:List (GT k)}{e:Int}{d:Option wT}{i:Nat}(q:pR w.heap.size w)(y:nD (ku (λp=>p<w.heap.size) k) (λp=>p<w.heap.size) w d a)
  (hF:∀c∈a,GB c/\yV c) (x:G a<=1256584717421):wh DG 5 #[Bc #[Z d (G a) i,I U e]] w λn f=>n=BX (Bs CD)/\wm w.heap.size w f:=by
 have B:wt (∀g,wm w.heap.size w g->wh DG 16 #[Bc #[Z d (G a) i,I U e]] g (Hk a e g)):=λg b=>Oe F (q.up (ag _) b) (y.belowG b) (λc r=>(hF c r).1) (λc r=>(hF c r).2) x;have A:=H q;generalize (G a)=s at *;clear y hF x q;obtain⟨j,h⟩:∃j,w.alloc (BV #[Z d s i,I U e] 31)=j:=⟨_,rfl⟩;have l:wt (wm w.heap.size w j):=by unfold Hid;rw[<-h];exact(ar _ _).alloc (ag _) _
 have t:wt (j.heap[w.heap.size]?=O (BV #[Z d s i,I U e] 31 (0,0))):=by unfold Hid;rw[<-h];exact bn _ _
 have C:=H h;clear h
 go_in
 go_wp2_with fail;rw[C.o];apply(I6 (A.up (ag _) l)).m;rintro n J ⟨rfl,v⟩;have m:=H (l.t (v.m l.size));have u:=H ((v.block _ (ap t)).t t);have K:=nw u;have L:=rU u;have D:=H (B J m);go_wp2_with fail;apply D.o.m;rintro n P ⟨M,rfl,E,_⟩;have z:=H (m.t (E.m m.size));go_wp2;go_ret;exact⟨rfl,z⟩
end
