import Derived.Test.YtgkljcmjnphpeaaGreatDoorK13
import Derived.Test.YtgkljcmjnphpeaaGreatDoorK04
set_option linter.defProp false
set_option linter.unusedVariables false
set_option linter.unusedSimpArgs false
set_option maxHeartbeats 8000000
set_option maxRecDepth 100000
open List renaming length->G
open Go renaming Value->GI,World->Gr,Calls->K8,Addr->L2,Ending->MB
open Go.Value renaming int->I,pointer->M2,string->MV,agg->N1,bool->OV,tuple->OW,slice->Z
open Go.RowKit renaming Hid->L1,Below->LT
open Option renaming none->N,some->O
open Bool renaming false->P2,true->PV
open Or renaming inl->P3,inr->P4
open Go.Obj renaming cells->Pp
open Go.Ending renaming returned->Ps
open Go.Proofs.Tryz renaming prog->Qe
open List renaming replicate->Qf
open Go.IntKind renaming i64->U
open Go.Proofs.Tryz
namespace Go.Proofs.YtgkljcmjnphpeaaGreatDoor
open Go.RowKit
section
variable{z:Gr}{d K k:Nat}{S:ByteArray}{w w' u:Gr}{p:Nat}{s t C:Option (List Nat)}{f A:GI}{a:List GI}{B:List (List Nat)}
def Hz(h:Sn d S w p s):Am w d S 0 ((w.alloc (Pp gG 67)).alloc (Pp gG 67)) s (Z N 0 0) [] (Z N 0 0) []:=by
 have b:LT w.heap.size w ((w.alloc (Pp gG 67)).alloc (Pp gG 67)):=((aq _ _).alloc (ag _) _).alloc eA _;have e:=bn (w.alloc (Pp gG 67)) (Pp gG 67);rw[aL]at e;have i:=h.ls;have c:gP s<=200001:=by
  cases s with
  |none=>simp[gP]
  |some r=>have:=h.len;simp only[gP];omega
 exact⟨⟨p,h.other b⟩,.of_below b,h.lt,mA _ (bn _ _),e,aX _ _ _ _,aX _ _ _ _,(λj g=>by cases g),by simpa using c,by simpa using c⟩
def CM(y:jP d S w u t)(x:u.heap[w.heap.size]?=O (Pp gG 67 (0,0)))(g h i j l m n:GI)(E:d<w.heap.size):let c:=((((((u.setCell ⟨w.heap.size,0,N⟩ g).setCell ⟨w.heap.size,1,N⟩ h).setCell ⟨w.heap.size,2,N⟩ i).setCell ⟨w.heap.size,3,N⟩ j).setCell ⟨w.heap.size,4,N⟩ l).setCell ⟨w.heap.size,5,N⟩ m).setCell ⟨w.heap.size,6,N⟩ n
  c.heap[w.heap.size]?=O (Pp #[g,h,i,j,l,m,n] 67 (0,0))/\jP d S w c t/\∀b,b≠w.heap.size->c.heap[b]?=u.heap[b]?:=by
 intro c;have q:gB w.heap.size u c:=lX u w.heap.size g h i j l m n;obtain⟨⟨p,o⟩,e⟩:=y;have D:=e.size;have r:∀b,b≠w.heap.size->c.heap[b]?=u.heap[b]?:=λb v=>by
  show(((((((u.setCell ⟨w.heap.size,0,N⟩ g).setCell ⟨w.heap.size,1,N⟩ h).setCell ⟨w.heap.size,2,N⟩ i).setCell ⟨w.heap.size,3,N⟩ j).setCell ⟨w.heap.size,4,N⟩ l).setCell ⟨w.heap.size,5,N⟩ m).setCell ⟨w.heap.size,6,N⟩ n).heap[b]?=_
  iterate 7 rw[kW _ v]
 refine⟨pq x _ _ _ _ _ _ _,⟨⟨p,⟨by rw[r _ Y];exact o.blk,o.lp,o.ls,o.rest⟩⟩,?_⟩,r⟩;exact⟨q.os.t e.os,q.tape.t e.tape,q.output.t e.output,aA D q.size,λb h1 h2=>(r b Y).t (e.block b h1 h2)⟩
def M1:B0 d S 0:=by
 intro w p s h;have j:=H (Hz h);have F:L1 ((s.bind (gj 0))=N):=by unfold Hid;cases s<;>rfl
 rw[F.o];generalize aa:(w.alloc (Pp gG 67)).alloc (Pp gG 67)=X at *;have M:L1 ((w.alloc (Pp #[I U 0,I U 0,I U 0,MV {data:=#[]},Z N 0 0,Z N 0 0,Z N 0 0] 67)).alloc (Pp #[I U 0,I U 0,I U 0,MV {data:=#[]},Z N 0 0,Z N 0 0,Z N 0 0] 67)=X):=aa;obtain⟨p0,h0⟩:=j.o.sc;have J:=H (uF h0)
 go_in
 go_wp2_with fail;rw[M.o];apply J.o.m;rintro b u ⟨rfl,n⟩;obtain⟨p1,h1⟩:=n.1;have x:=H (qW h1);have P:=H n.2;go_wp2_with fail;apply x.o.m;rintro b w2 ⟨rfl,h2,o2⟩;have E:=H (Bp h2);have q:=H h2;have Q:=H (P.t o2);go_wp2_with fail;apply E.o.m;rintro b w3 ⟨rfl,g,rfl⟩;simp only[pS];have l:=H (wT (q.drewN g) {data:=#[60,60]} cO);rw[show qT (bl {data:=#[60,60]}) N=P2 from rfl,show cS (bl {data:=#[60,60]}) N=N from rfl]at l;have R:=H (Q.drewN g);generalize w2.drewN g=W3 at *;go_wp2_with fail;apply l.o.m;rintro b w4 ⟨rfl,⟨p4,m⟩,o4⟩;have D:=H (uk m);have r:=H m;have T:=H (R.t o4);go_wp2_with fail;apply D.o.m;rintro b w5 ⟨rfl,i,rfl⟩;simp only[jO];have L:=H (vK (r.drewN i));have V:=H (T.drewN i);generalize w4.drewN i=W5 at *;go_wp2_with fail;apply L.o.m;rintro b w6 ⟨rfl,h6,o6⟩;have y:=H (qW h6);have W:=H (V.t o6);go_wp2_with fail;apply y.o.m;rintro b w7 ⟨rfl,h7,o7⟩;obtain⟨e,_⟩:=j.o.step (k:=0) (Vs:=[]) (t':=N) ⟨⟨_,h7⟩,W.t o7⟩ pg;obtain⟨v0,v1,v2,v3,v4,v5,v6⟩:=Am.cells e;obtain⟨⟨r0,r1,r2,r3,r4,r5,r6⟩,f0,f1,f2,f3,f4,f5,f6⟩:=sF e.rb;have c:=H (Am.fin e);go_wp2;refine av (v:=N1 #[I U 0,I U 0,I U 0,MV {data:=#[]},Z N 0 0,Z N 0 0,Z N 0 0]) ?_ rfl ?_;·exact aE results174 _ _ w.heap.size 67 _ _ _ rfl c.1 aK rfl aG
 exact kV.none_ rfl (c.2.2.1 (ag _)) c.2.1
def mV.hand{l e:Gr}{b:Nat}{i:Option (VT k×List Nat)}{v:GI}(D:(i=N/\t=N/\GV b l v)\/∃g j,i=O (g,j)/\t=O j/\gF (λc=>b<=c) k l v g)(J:w.heap.size<b)(m:∀c,c≠w.heap.size->e.heap[c]?=l.heap[c]?)(n:jP d S w e t):mV d S k i w (Ps v) e:=by
 rcases D with⟨h1,rfl,h2⟩|⟨g,j,h1,rfl,h2⟩
 ·refine kV.none_ h1 ?_ n;have h3:=h2.keep (w':=e) (λc h3 _=>m c Y);obtain⟨E,F,p,o,f,A,y,a,B,e1,e2,q,e4,r,x⟩:=h3;exact⟨E,F,p,o,f,A,y,a,B,e1,e2.m (λc h _=>Y),q,e4.m (λc h _=>Y),r,x⟩
 ·exact kV.some_ h1 (gF.m k (gF.keep k h2 (λc h3 _=>m c Y)) (λc h _=>Y)) n
def PQ(s:Option (List Nat)):s.bind (gj (k+1))=(s.map f9).bind (gj (k+1)):=by
 cases s with
 |none=>rfl
 |some r=>show gj (k+1) r=gj (k+1) (f9 r);unfold gj;simp only[jq,PZ]
def Am.kind(h:Am z d S K w t f a A B)(e:Nat):Am z d S e (w.setCell ⟨z.heap.size+1,0,N⟩ (I U e)) t f a A B:=by
 have l:=h.lt;have m:=h.only.size;obtain⟨p,c⟩:=h.sc;have i:∀b,b≠z.heap.size+1->(w.setCell ⟨z.heap.size+1,0,N⟩ (I U e)).heap[b]?=w.heap[b]?:=λb j=>kW _ j;refine⟨⟨p,⟨by rw[i _ Y];exact c.blk,c.lp,c.ls,c.rest⟩⟩,?_,h.lt,by rw[i _ Y];exact h.rb,by rw[lV _ h.vb];rfl,?_,?_,h.c7,h.few,h.fewk⟩;·exact⟨h.only.os,h.only.tape,h.only.output,by simp[World.setCell];omega,λb h1 h2=>(i b Y).t (h.only.block b h1 h2)⟩
 ·exact aR h.own (λg=>absurd (h.own.lt _ g).1 (by show ¬_;simp)) _
 ·exact aR h.ownk (λg=>absurd (h.ownk.lt _ g).1 (by show ¬_;simp)) _
def Fj{r g c:List Nat}(h:jQ r=O (g,c)):G c<=G r:=by
 unfold jQ at h;cases b:ij r with
 |none=>rw[b]at h;cases h
 |some e=>rw[b]at h;cases h;exact mF r e.1 e.2 b
def Am.text(h:Am z d S K w t f a A B)(i:ByteArray):let c:=w.setCell ⟨z.heap.size+1,3,N⟩ (MV i)
  c.heap[z.heap.size+1]?=O (Pp #[I U K,I U 0,I U 0,MV i,f,A,Z N 0 0] 67 (0,0))/\jP d S z c t/\c.heap[z.heap.size]?=O (Pp gG 67 (0,0)):=by
 intro c;have l:=h.lt;have m:=h.only.size;obtain⟨p,e⟩:=h.sc;have g:∀b,b≠z.heap.size+1->c.heap[b]?=w.heap[b]?:=λb j=>kW _ j;refine⟨by show(w.setCell _ _).heap[_]?=_;rw[lV _ h.vb];rfl,⟨⟨p,⟨by rw[g _ Y];exact e.blk,e.lp,e.ls,e.rest⟩⟩,?_⟩,by rw[g _ Y];exact h.rb⟩;exact⟨h.only.os,h.only.tape,h.only.output,by show _<=(w.setCell _ _).heap.size;simp[World.setCell];omega,λb h1 h2=>(g b Y).t (h.only.block b h1 h2)⟩
def G9{c:Gr}{b:Nat}{e g i j l m n:GI}(h:c.heap[b]?=O (Pp #[e,g,i,j,l,m,n] 67 (0,0))):c.cell? ⟨b,0,N⟩=O e/\c.cell? ⟨b,1,N⟩=O g/\c.cell? ⟨b,2,N⟩=O i/\c.cell? ⟨b,3,N⟩=O j/\c.cell? ⟨b,4,N⟩=O l/\c.cell? ⟨b,5,N⟩=O m/\c.cell? ⟨b,6,N⟩=O n:=
 ⟨iI h,iI h,iI h,iI h,iI h,iI h,iI h⟩
def yV(b k:Nat)(c:Option (List (VT k)×List Nat))(w:Gr)(t:Option (List Nat))(f:GI)(a:List GI):Prop:=match t with
 |some r=>∃e,TV b k w f (Z N 0 0) a e/\∃g,G r<g/\qS e (jV (gj k) g r)=c
 |none=>c=N
def M0(hk:k<=11)(ih:B0 d S k):B0 d S (k+1):=by
 intro w p s h;rw[show 12-(k+1)=11-k by omega];obtain⟨i0,hi,fu,fv,fw⟩:=bu iV;have IH:=H ih;have co:=H (Hz h);have ce:=h.lt;obtain⟨bi,hR⟩:∃bi,s.bind (gj (k+1))=bi:=⟨_,rfl⟩;rw[hR];rw[PQ]at hR;have HR:=H hR;have br:L1 (∀e,s.map f9=O e->f9 e=e):=λe hq=>by
  cases s with
  |none=>cases hq
  |some r=>cases hq;exact jq r
 clear h ih hR;generalize dw:(w.alloc (Pp gG 67)).alloc (Pp gG 67)=W0 at *;have dn:L1 ((w.alloc (Pp #[I U 0,I U 0,I U 0,MV {data:=#[]},Z N 0 0,Z N 0 0,Z N 0 0] 67)).alloc (Pp #[I U 0,I U 0,I U 0,MV {data:=#[]},Z N 0 0,Z N 0 0,Z N 0 0] 67)=W0):=dw;obtain⟨p0,h0⟩:=co.o.sc;have b8:=H (uF h0);have f7:decide ((12:Int)<=((11-k:Nat):Int))=P2:=eB;clear dw h0
 go_in
 go_wp2_with fail;rw[dn.o];apply b8.o.m;rintro j u ⟨rfl,k1⟩;obtain⟨a1,_⟩:=co.o.step (k:=0) (Vs:=[]) k1 (by
  cases s with
  |none=>simp[gP]
  |some r=>have:=iz r;simp only[aZ,gP];omega)
 have bo:=H a1;obtain⟨p1,h1⟩:=k1.1;have H1:=H h1;have HP:=H (Bp h1);clear a1 k1 h1 b8 co dn;generalize d2:s.map f9=s1 at *;have e3:=H d2;clear d2;cases Q:pS s1 with
 |true=>
  rw[Q]at HP;obtain⟨e,rfl⟩:∃e,s1=O e:=by
   cases s1 with
   |none=>cases Q
   |some e=>exact⟨e,rfl⟩
  have ad:=br.o e rfl;have ey:L1 (bi=ER k (O e)):=by unfold Hid;rw[<-HR.o];exact value_word ad Q
  have bz:(O e).bind (f_ [60,60])=N:=by
   cases e with
   |nil=>cases Q
   |cons b t=>show f_ [60,60] (b::t)=N;rw[DG,ah (Jv (show pB b=PV from Q)).2.1]
  clear HR Q;go_wp2_with fail;apply HP.o.m;rintro j w2 ⟨rfl,m2,rfl⟩;have P:=H (wT (H1.drewN m2) {data:=#[60,60]} cO);rw[show bl {data:=#[60,60]}=[60,60]from rfl,(xK bz).1,(xK bz).2]at P;obtain⟨a2,_⟩:=bo.o.step (k:=0) (Vs:=[]) (H1.toS.drewN m2) (ag _);have ac:=H a2;generalize u.drewN m2=W2 at *;clear a2 bo H1 HP bz;go_wp2_with fail;apply P.o.m;rintro j w3 ⟨rfl,k3⟩;obtain⟨a3,_⟩:=ac.o.step (k:=0) (Vs:=[]) k3 (ag _);have bq:=H a3;obtain⟨p3,h3⟩:=k3.1;have e8:=H (FJ (k:=k) h3);clear a3 k3 h3 P ac;go_wp2_with fail;apply e8.o.m;intro j w9 cf;obtain⟨J,L,M,l,v,y,x,D,F,E,m,q,n,t9,rfl,k9,bm⟩:=mV.any cf;have cu:gP t9<=gP (O e):=by
   rcases bm with⟨_,rfl,_⟩|⟨aa,q',h1,rfl,_⟩;·simp[gP]
   ·have:=pN (α:=VT k) (show i7 (VT k) e=O (aa,q')from h1);simp only[gP];omega
  rw[<-ey.o]at bm;obtain⟨a9,_⟩:=bq.o.step (k:=0) (Vs:=[]) k9 cu;have b0:=a9.rb;obtain⟨⟨r0,r1,r2,r3,r4,r5,r6⟩,f0,f1,f2,f3,f4,f5,f6⟩:=sF b0;have i:=H (CM ⟨a9.sc,a9.only⟩ b0 (I U J) (I U L) (I U M) (MV l) (Z v y x) (Z D F E) (Z m q n) ce);have HV:=H (mV.hand bm (by have:=ae bq.vb;omega) i.2.2 i.2.1);clear a9 b0 bm k9 cf;go_wp2;refine av (v:=N1 #[I U J,I U L,I U M,MV l,Z v y x,Z D F E,Z m q n]) ?_ rfl ?_;·exact aE results174 _ _ w.heap.size 67 _ _ _ rfl i.1 aK rfl aG
  exact HV
 |false=>
  rw[Q]at HP;go_wp2_with fail;apply HP.o.m;rintro j w2 ⟨rfl,m2,rfl⟩;have P:=H (wT (H1.drewN m2) {data:=#[60,60]} cO);rw[show bl {data:=#[60,60]}=[60,60]from rfl]at P;obtain⟨a2,_⟩:=bo.o.step (k:=0) (Vs:=[]) (H1.toS.drewN m2) (ag _);have ac:=H a2;generalize u.drewN m2=W2 at *;clear a2 bo H1 HP;cases bc:s1.bind (f_ [60,60])with
  |some t=>
   rw[(Ba bc).1,(Ba bc).2]at P;have c7:L1 (bi=nL k (O t)/\G t<=200000/\gP (O t)<=gP s1):=by
    unfold Hid;have fr:=ac.o.few;cases s1 with
    |none=>cases bc
    |some e=>
     have ad:=br.o e rfl;have bd:f_ [60,60] e=O t:=bc;have hl:=(gD bd).1;refine⟨?_,by simp only[aI,gP]at fr;simp only[aj,aI]at hl;omega,by simp only[gP];omega⟩;rw[<-HR.o];show gj (k+1) e=_;rw[vm ad Q];cases e with
     |nil=>cases bd
     |cons b e=>
      rw[DG]at bd;by_cases hb:b=60
      ·rw[ai hb]at bd;show(if b=91 then _ else if b=60 then _ else _)=_;rw[ah Y,ai hb,bd];rfl
      ·rw[ah hb]at bd;cases bd
   clear HR Q bc;go_wp2_with fail;apply P.o.m;rintro j w3 ⟨rfl,k3⟩;obtain⟨a3,_⟩:=ac.o.step (k:=0) (Vs:=[]) k3 c7.2.2;have bq:=H a3;obtain⟨p3,h3⟩:=k3.1;have en:=H (Jl hk IH h3);clear a3 k3 h3 P ac;go_wp2_with fail;apply en.o.m;intro j w9 cf;obtain⟨J,L,M,l,v,y,x,D,F,E,m,q,n,t9,rfl,k9,bm⟩:=mV.any cf;have cu:gP t9<=gP (O t):=by
    rcases bm with⟨_,rfl,_⟩|⟨aa,q',h1,rfl,_⟩;·simp[gP]
    ·cases hx:js (gj k) (G t+1) t with
     |none=>unfold nL at h1;simp only[Option.bind_some,hx]at h1;cases h1
     |some cy=>unfold nL at h1;simp only[Option.bind_some,hx,aZ]at h1;have h2:=pU (λr bx e h=>by have:=iQ h;omega) _ _ _ _ (show js (gj k) (G t+1) t=O (cy.1,cy.2)from hx);cases h1;simp only[gP];omega
   rw[<-c7.o.1]at bm;obtain⟨a9,_⟩:=bq.o.step (k:=0) (Vs:=[]) k9 cu;have b0:=a9.rb;obtain⟨⟨r0,r1,r2,r3,r4,r5,r6⟩,f0,f1,f2,f3,f4,f5,f6⟩:=sF b0;have i:=H (CM ⟨a9.sc,a9.only⟩ b0 (I U J) (I U L) (I U M) (MV l) (Z v y x) (Z D F E) (Z m q n) ce);have HV:=H (mV.hand bm (by have:=ae bq.vb;omega) i.2.2 i.2.1);clear a9 b0 bm k9 cf;go_wp2;refine av (v:=N1 #[I U J,I U L,I U M,MV l,Z v y x,Z D F E,Z m q n]) ?_ rfl ?_;·exact aE results174 _ _ w.heap.size 67 _ _ _ rfl i.1 aK rfl aG
   exact HV
  |none=>
   rw[(xK bc).1,(xK bc).2]at P;go_wp2_with fail;apply P.o.m;rintro j w3 ⟨rfl,k3⟩;obtain⟨a3,_⟩:=ac.o.step (k:=0) (Vs:=[]) k3 (ag _);have bq:=H a3;obtain⟨p3,h3⟩:=k3.1;have c6:=H (uk h3);have H3:=H h3;have fb:=h3.now;clear a3 k3 h3 P ac;go_wp2_with fail;apply c6.o.m;rintro j w4 ⟨rfl,m4,rfl⟩;have c9:=H (vK (H3.drewN m4));obtain⟨a4,_⟩:=bq.o.step (k:=0) (Vs:=[]) (H3.toS.drewN m4) (ag _);have b5:=H a4;generalize w3.drewN m4=W4 at *;clear a4 c6 H3 bq;go_wp2_with fail;apply c9.o.m;rintro j w5 ⟨rfl,h5,o5⟩;obtain⟨a5,_⟩:=b5.o.step (k:=0) (Vs:=[]) (t':=s1.map List.tail) ⟨⟨_,h5⟩,o5⟩ (by cases s1 with|none=>simp[gP]|some r=>simp[gP]);have bf:=H a5;have H5:=H h5;clear a5 h5 o5 c9 b5;by_cases bs:jO s1≠47/\jO s1≠40/\jO s1≠60/\jO s1≠91
   ·have ca:L1 (bi=N):=by
     unfold Hid;rw[<-HR.o];match s1,Q,bs,br with
     |none,_,_,_=>rfl
     |some [],Q,_,br=>show gj (k+1) []=N;rw[vm rfl Q];rfl
     |some (b::e),Q,hb,br=>show gj (k+1) (b::e)=N;simp only[jO]at hb;rw[vm (br.o _ rfl) Q];show(if b=91 then _ else if b=60 then _ else if b=40 then _ else if b=47 then _ else _)=_;rw[ah Y,ah Y,ah Y,ah Y]
    have b1:(jO s1==47)=P2:=eB;have b2:(jO s1==40)=P2:=eB;have b3:(jO s1==60)=P2:=eB;have b4:(jO s1==91)=P2:=eB;have c5:=H (qW H5);clear bs Q bc HR;generalize jO s1=c at *;go_wp2_with fail;apply c5.o.m;rintro j w7 ⟨rfl,h7,o7⟩;obtain⟨a7,_⟩:=bf.o.step (k:=0) (Vs:=[]) (t':=N) ⟨⟨_,h7⟩,o7⟩ pg;obtain⟨v0,v1,v2,v3,v4,v5,v6⟩:=Am.cells a7;obtain⟨⟨r0,r1,r2,r3,r4,r5,r6⟩,f0,f1,f2,f3,f4,f5,f6⟩:=sF a7.rb;have i:=H (Am.fin a7);clear h7 o7 a7 c5;go_wp2;refine av (v:=N1 #[I U 0,I U 0,I U 0,MV {data:=#[]},Z N 0 0,Z N 0 0,Z N 0 0]) ?_ rfl ?_;·exact aE results174 _ _ w.heap.size 67 _ _ _ rfl i.1 aK rfl aG
    exact kV.none_ ca (i.2.2.1 (ag _)) i.2.1
   ·obtain⟨b,e,rfl⟩:∃b e,s1=O (b::e):=by
     match s1,bs with
     |none,h=>exact absurd ⟨cO,cO,cO,cO⟩ h
     |some [],h=>exact absurd ⟨cO,cO,cO,cO⟩ h
     |some (b::e),_=>exact⟨b,e,rfl⟩
    have X:L1 (gj (k+1) (b::e)=bi):=HR.o;rw[vm (br.o _ rfl) Q]at X;simp only[jO]at bs fb ⊢;simp only[aZ,List.tail_cons]at bf H5;have bd:=λhb=>by have:f_ [60,60] (b::e)=N:=bc;rw[DG,ai hb]at this;exact this
    have cb:=H bd;clear bc bd Q HR br e3;have e0:=bf.o.cells.1;have e9:=jR 0 bf.vb;by_cases cc:b=47
    ·have b1:((b:Int)==47)=PV:=eB;rw[cc]at X;clear bs cc;have ao:=H (bf.kind 4);obtain⟨pk,ad⟩:=ao.o.sc;have al:=H (Jm ad);simp only[Option.bind_some]at al;clear ad H5 cb;go_wp2_with fail;apply al.o.m;intro j w6 bt;obtain⟨T,t6,rfl,k6,ba⟩:=kV.str bt;obtain⟨V,_⟩:=ao.o.step (k:=0) (Vs:=[]) k6 (by
      rcases ba with⟨_,rfl⟩|⟨q',h1,rfl⟩;·simp[gP]
      ·have:=jN _ 0 0 _ _ (show gK 0 0 e=O (T,q')from h1);simp only[gP];omega)
     have g3:=jR 3 V.vb;have ds:=V.cells.2.2.2.1;obtain⟨bw,bv,bb⟩:=V.text (ge T);obtain⟨v0,v1,v2,v3,v4,v5,v6⟩:=G9 bw;obtain⟨⟨r0,r1,r2,r3,r4,r5,r6⟩,f0,f1,f2,f3,f4,f5,f6⟩:=sF bb;have i:=H (CM bv bb (I U 4) (I U 0) (I U 0) (MV (ge T)) (Z N 0 0) (Z N 0 0) (Z N 0 0) ce);have b9:=H ba;clear V bw bv bb ba bt k6 al;go_wp2;refine av (v:=N1 #[I U 4,I U 0,I U 0,MV (ge T),Z N 0 0,Z N 0 0,Z N 0 0]) ?_ rfl ?_;·exact aE results174 _ _ w.heap.size 67 _ _ _ rfl i.1 aK rfl aG
     rcases b9.o with⟨h1,rfl⟩|⟨q',h1,rfl⟩;·exact kV.none_ (X.s.t (AV k h1)) (GV.leaf _ _ 4 0 0 _) i.2.1
     ·exact kV.some_ (X.s.t (AW k h1)) (gF.leaf k 4 0 0 T) i.2.1
    have b1:((b:Int)==47)=P2:=eB;by_cases ch:b=40
    ·have b2:((b:Int)==40)=PV:=eB;rw[ch]at X;clear bs cc ch;have ao:=H (bf.kind 5);obtain⟨pk,ad⟩:=ao.o.sc;have al:=H (xQ ad);simp only[Option.bind_some]at al;clear ad H5 cb;go_wp2_with fail;apply al.o.m;intro j w6 bt;obtain⟨T,t6,rfl,k6,ba⟩:=kV.str bt;obtain⟨V,_⟩:=ao.o.step (k:=0) (Vs:=[]) k6 (by
      rcases ba with⟨_,rfl⟩|⟨q',h1,rfl⟩;·simp[gP]
      ·have:=lF _ _ _ _ _ (show iC (G e+1) 1 e=O (T,q')from h1);simp only[gP];omega)
     have g3:=jR 3 V.vb;have ds:=V.cells.2.2.2.1;obtain⟨bw,bv,bb⟩:=V.text (ge T);obtain⟨v0,v1,v2,v3,v4,v5,v6⟩:=G9 bw;obtain⟨⟨r0,r1,r2,r3,r4,r5,r6⟩,f0,f1,f2,f3,f4,f5,f6⟩:=sF bb;have i:=H (CM bv bb (I U 5) (I U 0) (I U 0) (MV (ge T)) (Z N 0 0) (Z N 0 0) (Z N 0 0) ce);have b9:=H ba;clear V bw bv bb ba bt k6 al;go_wp2;refine av (v:=N1 #[I U 5,I U 0,I U 0,MV (ge T),Z N 0 0,Z N 0 0,Z N 0 0]) ?_ rfl ?_;·exact aE results174 _ _ w.heap.size 67 _ _ _ rfl i.1 aK rfl aG
     rcases b9.o with⟨h1,rfl⟩|⟨q',h1,rfl⟩;·exact kV.none_ (X.s.t (AX k h1)) (GV.leaf _ _ 5 0 0 _) i.2.1
     ·exact kV.some_ (X.s.t (AY k h1)) (gF.leaf k 5 0 0 T) i.2.1
    have b2:((b:Int)==40)=P2:=eB;by_cases ci:b=60
    ·have b3:((b:Int)==60)=PV:=eB;rw[ci]at X;have da:=H (cb ci);clear bs cc ch ci;have ao:=H (bf.kind 5);obtain⟨pk,ad⟩:=ao.o.sc;have al:=H (MQ ad);simp only[Option.bind_some]at al;clear ad H5 cb;go_wp2_with fail;apply al.o.m;intro j w6 bt;obtain⟨T,t6,rfl,k6,ba⟩:=kV.str bt;obtain⟨V,_⟩:=ao.o.step (k:=0) (Vs:=[]) k6 (by
      rcases ba with⟨_,rfl⟩|⟨q',h1,rfl⟩;·simp[gP]
      ·have:=Fj h1;simp only[gP];omega)
     have g3:=jR 3 V.vb;have ds:=V.cells.2.2.2.1;obtain⟨bw,bv,bb⟩:=V.text (ge T);obtain⟨v0,v1,v2,v3,v4,v5,v6⟩:=G9 bw;obtain⟨⟨r0,r1,r2,r3,r4,r5,r6⟩,f0,f1,f2,f3,f4,f5,f6⟩:=sF bb;have i:=H (CM bv bb (I U 5) (I U 0) (I U 0) (MV (ge T)) (Z N 0 0) (Z N 0 0) (Z N 0 0) ce);have b9:=H ba;clear V bw bv bb ba bt k6 al;go_wp2;refine av (v:=N1 #[I U 5,I U 0,I U 0,MV (ge T),Z N 0 0,Z N 0 0,Z N 0 0]) ?_ rfl ?_;·exact aE results174 _ _ w.heap.size 67 _ _ _ rfl i.1 aK rfl aG
     rcases b9.o with⟨h1,rfl⟩|⟨q',h1,rfl⟩;·exact kV.none_ (X.s.t (AR k da h1)) (GV.leaf _ _ 5 0 0 _) i.2.1
     ·exact kV.some_ (X.s.t (AU k da h1)) (gF.leaf k 5 0 0 T) i.2.1
    have b3:((b:Int)==60)=P2:=eB;have dv:b=91:=Y;have b4:((b:Int)==91)=PV:=eB;rw[dv]at X;clear bs cc ch ci dv cb;have ao:=H (bf.kind 6);obtain⟨RA,cj⟩:∃RA,jV (gj k) (G e+1) e=RA:=⟨_,rfl⟩;have ca:L1 (RA=N->bi=N):=λh=>by rw[<-X.o];exact AP k (cj.t h)
    have cp:L1 (∀g q',RA=O (g,q')->bi=O ((⟨6,0,0,[],g,[],[]⟩:gk (VT k)),q')):=λg q' h=>by rw[<-X.o];exact AQ k (cj.t h)
    have c1:L1 (yV (w.heap.size+2) k RA (w5.setCell ⟨w.heap.size+1,0,N⟩ (I U ((6:Nat):Int))) (O e) (Z N 0 0) []):=by refine⟨[],⟨rfl,λgp fz cy hx _=>by simp at hx⟩,G e+1,Y,?_⟩;rw[<-cj];unfold qS;cases jV (gj k) (G e+1) e<;>simp
    clear cj X H5;go_wp2_with fail;go_loopw [] (λwr=>∃(t:Option (List Nat)) (f:GI) (a:List GI),L1 (Am w d S 6 wr t f a (Z N 0 0) [])/\L1 (yV (w.heap.size+2) k RA wr t f a)) (λwr=>mS d S wr)
    case atStart=>exact⟨O e,_,[],ao,c1⟩
    clear ao c1 bf e0 e9
    case round=>
     obtain⟨t,f,a,HA,HD⟩:=hrel;obtain⟨p,cl⟩:=HA.o.sc;have c2:=cl.c2;have HM:=H cl.mS;have c8:=H cl;clear cl;cases t with
     |none=>
      simp only[Option.isNone_none]at c2;have eu:=H (ca HD);clear HD ca cp;obtain⟨v0,v1,v2,v3,v4,v5,v6⟩:=Am.cells HA;obtain⟨⟨r0,r1,r2,r3,r4,r5,r6⟩,f0,f1,f2,f3,f4,f5,f6⟩:=sF HA.rb;have i:=H (Am.fin HA);obtain⟨ia,ic,cd⟩:=jp HA.o.own;subst cd;go_wp2;refine av (v:=N1 #[I U 6,I U 0,I U 0,MV {data:=#[]},Z ia (G a) ic,Z N 0 0,Z N 0 0]) ?_ rfl ?_;·exact aE results174 _ _ w.heap.size 67 _ _ _ rfl i.1 aK rfl aG
      exact kV.none_ eu (i.2.2.1 (aH _)) i.2.1
     |some r=>
      simp only[Option.isNone_some]at c2;have b8:=H (uF c8);simp only[aZ]at b8;have eo:=H HA.few;obtain⟨g,d5,cn,hm,d0⟩:=HD.o;have db:=H d5;obtain⟨cn,rfl⟩:∃fx,cn=fx+1:=⟨cn-1,Y⟩;have b7:=H d0;have es:=H hm;clear d5 d0 hm HD;go_wp2_with fail;apply b8.o.m;rintro j u ⟨rfl,k1⟩;have gi:=iz r;obtain⟨a1,ea⟩:=HA.o.step (k:=k) (Vs:=g) k1 pI;have bo:=H a1;have cr:=H (ea db);obtain⟨p1,h1⟩:=k1.1;have P:=H (wT h1 {data:=#[93]} cO);rw[show bl {data:=#[93]}=[93]from rfl]at P;clear a1 ea k1 h1 b8 HA db c8 c2;simp only[jV]at b7;cases ht:f_ [93] (f9 r)with
      |some q2=>
       have cs:=Ba (s:=O (f9 r)) (t:=[93]) (q:=q2) ht;rw[cs.1,cs.2]at P;have ex:L1 (bi=O ((⟨6,0,0,[],g,[],[]⟩:gk (VT k)),q2)):=by refine cp g q2 ?_;rw[<-b7.o,ht];simp[qS]
       have gd:=(gD ht).1;clear ht cs b7;go_wp2_with fail;apply P.o.m;rintro j w2 ⟨rfl,k2⟩;obtain⟨a2,ec⟩:=bo.o.step (k:=k) (Vs:=g) k2 pI;have ac:=H a2;have e5:=H (ec cr);clear a2 ec k2 P ca cp;obtain⟨v0,v1,v2,v3,v4,v5,v6⟩:=Am.cells ac;obtain⟨⟨r0,r1,r2,r3,r4,r5,r6⟩,f0,f1,f2,f3,f4,f5,f6⟩:=sF ac.rb;have i:=H (Am.fin ac);obtain⟨ia,ic,cd⟩:=jp ac.o.own;subst cd;go_wp2;refine av (v:=N1 #[I U 6,I U 0,I U 0,MV {data:=#[]},Z ia (G a) ic,Z N 0 0,Z N 0 0]) ?_ rfl ?_;·exact aE results174 _ _ w.heap.size 67 _ _ _ rfl i.1 aK rfl aG
       exact kV.some_ ex (i.2.2.2 e5) i.2.1
      |none=>
       have bz:=xK (s:=O (f9 r)) (t:=[93]) ht;rw[bz.1,bz.2]at P;rw[ht]at b7;clear bz ht;go_wp2_with fail;apply P.o.m;rintro j w4 ⟨rfl,k4⟩;obtain⟨a4,ee⟩:=bo.o.step (k:=k) (Vs:=g) k4 (ag _);have b5:=H a4;have e6:=H (ee cr);obtain⟨p4,h4⟩:=k4.1;have dk:=H (IH w4 p4 _ h4);have f8:((11-k:Nat):Int)+1=((12-k:Nat):Int):=Y;clear a4 ee k4 h4 P bo cr;go_wp2_with fail;apply dk.o.m;intro j w5 d1;obtain⟨J,L,M,l,v,y,x,D,F,E,m,q,n,t5,rfl,k5,ck⟩:=mV.any d1;have ep:L1 (gP t5+1<=gP (O r)):=by
        rcases ck with⟨_,rfl,_⟩|⟨aa,q3,h1,rfl,_⟩;·simp[L1,gP]
        ·have:=iQ (show gj k (f9 r)=O (aa,q3)from h1);simp only[L1,gP];omega
       obtain⟨a5,ek⟩:=b5.o.step (k:=k) (Vs:=g) k5 (by
        rcases ck with⟨_,rfl,_⟩|⟨aa,q3,h1,rfl,_⟩;·simp[gP]
        ·have:=iQ (show gj k (f9 r)=O (aa,q3)from h1);simp only[gP];omega)
       have e7:=H (ek e6);have ev:=H ck;have fi:=λR hg=>(b5.o.own.lt R hg).2;have gf:=k5.2.size;have gl:=ae b5.vb;have dr:LT w5.heap.size w5 ((w5.alloc (Pp #[I U J,I U L,I U M,MV l,Z v y x,Z D F E,Z m q n] 67)).alloc (Pp #[I U J,I U L,I U M,MV l,Z v y x,Z D F E,Z m q n] 67)):=((aq _ _).alloc (ag _) _).alloc eA _;obtain⟨a8,el⟩:=a5.below (k:=k) (Vs:=g) dr;have b6:=H a8;have dc:=H (el e7);have c4:(w5.alloc (Pp #[I U J,I U L,I U M,MV l,Z v y x,Z D F E,Z m q n] 67)).cell? ⟨w.heap.size+1,4,N⟩=O f:=(iI (mA _ a5.vb)).t rfl;have dl:L1 (∀aa,gF (λR=>w4.heap.size<=R) k w5 (N1 #[I U J,I U L,I U M,MV l,Z v y x,Z D F E,Z m q n]) aa->gF (λR=>w4.heap.size<=R/\R<w5.heap.size) k ((w5.alloc (Pp #[I U J,I U L,I U M,MV l,Z v y x,Z D F E,Z m q n] 67)).alloc (Pp #[I U J,I U L,I U M,MV l,Z v y x,Z D F E,Z m q n] 67)) (N1 #[I U J,I U L,I U M,MV l,Z v y x,Z D F E,Z m q n]) aa):=λaa hv=>gF.keep k (gF.m k hv (λR h1 h2=>⟨h1,h2⟩)) (λR h1 h2=>dr.block R h1.2)
       have cv:=DZ (W:=w5.alloc (Pp #[I U J,I U L,I U M,MV l,Z v y x,Z D F E,Z m q n] 67)) (a0:=I U J) (a1:=I U L) (a2:=I U M) (a3:=MV l) (a4:=Z v y x) (a5:=Z D F E) (a6:=Z m q n);rw[aL]at cv;have c3:=H cv;obtain⟨ua,uc,cd⟩:=jp b6.o.own;have fs:=b6.o.own;have ga:=eo.o;have gc:=ep.o;subst cd;clear a5 ek a8 el cv ck d1 dk k5;go_wp2_with (at_builtin;refine uT _ rfl (.tmp 75) (.tmp 77) 29 rfl (w.heap.size+2) 67 i0 _ 7 112 dx hi fu fv fw rfl cO (Z ua (G a) uc) (G a) (a.flatMap cellsOf) rfl fs ⟨w5.heap.size+1,0,N⟩ 1 1 [I U J,I U L,I U M,MV l,Z v y x,Z D F E,Z m q n] rfl rfl c3 ?hone ?h63 ?hby ?hbs ?_)
       case hone=>exact Er J L M l v y x D F E m q n
       case h63=>unfold maxLen;omega
       case hby=>omega
       case hbs=>simp;omega
       intro d7 w9 cx ct d6;obtain⟨dp,eb⟩:=b6.o.item (k:=k) (Vs:=g) (x:=N1 #[I U J,I U L,I U M,MV l,Z v y x,Z D F E,Z m q n]) (fo J L M l v y x D F E m q n) cx ct Y;have c0:=H dp;have em:L1 (yV (w.heap.size+2) k RA (w9.setCell ⟨w.heap.size+1,4,N⟩ d7) t5 d7 (a++[N1 #[I U J,I U L,I U M,MV l,Z v y x,Z D F E,Z m q n]])):=by
        rcases ev.o with⟨h1,rfl,_⟩|⟨aa,q3,h1,rfl,hv⟩
        ·show RA=N;have:=b7.o;have cg:gj k (f9 r)=N:=h1;simp only[cg]at this;exact this.s
        ·have d4:=b7.o;have cg:gj k (f9 r)=O (aa,q3):=h1;simp only[cg]at d4;refine⟨g++[aa],eb (Px:=λR=>w4.heap.size<=R/\R<w5.heap.size) (λR hg=>⟨Y,λj=>by have:=fi R j;omega,λj=>by cases j⟩) (dl aa hv) (λR hg=>by simpa[aL]using d6 R hg) dc,cn,?_,?_⟩
         ·have h3:=iQ cg;have h6:=es.o;omega
         ·rw[<-d4,Hu]
       have cw:=(ct.block (w.heap.size+1) eB (λj=>by have:=(b6.o.own.lt _ j.s).1;omega)).t b6.vb;have g4:=jR 4 cw;have g5:w9.cell? ⟨w.heap.size+1,4,N⟩=O (Z ua (G a) uc):=iI cw;obtain⟨gs,gt,fd⟩:=jp cx;subst fd;obtain⟨gr,d3⟩:=c0.o.sc;have eq:=H d3.mS;clear cx ct d6 dp eb cw b6 dc dl c3 d3;go_wp2;go_roundw
       case rel=>exact⟨t5,_,_,c0,em⟩
       case measure=>rw[HM.o,eq.o];omega
end
section
variable{b k:Nat}{S:ByteArray}{w c:Gr}{p:Nat}{s t:Option (List Nat)}
def FM:∀k,k<=12->B0 b S k
 |0,_=>M1
 |k+1,h=>M0 Y (FM k Y)
def Cm{a:Nat}(h:a<10):gE a=[48+a]:=by
 unfold gE;rw[Lib.decDigits,dif_pos h];match a,h with
 |0,_=>rfl
 |1,_=>rfl
 |2,_=>rfl
 |3,_=>rfl
 |4,_=>rfl
 |5,_=>rfl
 |6,_=>rfl
 |7,_=>rfl
 |8,_=>rfl
 |9,_=>rfl
 |a+10,h=>omega
def dg{a:Nat}(h:¬a<10):gE a=gE (a/10)++gE (a%10):=by
 rw[Cm (show a%10<10 by omega)];unfold gE;conv=>lhs;rw[Lib.decDigits,dif_neg h,bK]
 congr 1;have:a%10<10:=Y;generalize a%10=d at *;match d,this with
 |0,_=>rfl
 |1,_=>rfl
 |2,_=>rfl
 |3,_=>rfl
 |4,_=>rfl
 |5,_=>rfl
 |6,_=>rfl
 |7,_=>rfl
 |8,_=>rfl
 |9,_=>rfl
 |d+10,h=>omega
def tF(a:List Nat):(ge a).size=G a:=by unfold ge;simp[ByteArray.size]
def Ah:∀(a:Nat),a<9223372036854775808->∀w:Gr,K8 Qe 51 #[I U (a:Nat)] w λe c=>e=Ps (MV (ge (gE a)))/\c=w:=by
 intro a;induction a using Nat.strongRecOn with
 |_ a f=>
  intro D w;by_cases g:a<10
  ·have e:=Cm g;have j:({data:=#[48,49,50,51,52,53,54,55,56,57]}:ByteArray).extract a (a+1)=ge [48+a]:=by
    match a,g with
    |0,_=>rfl
    |1,_=>rfl
    |2,_=>rfl
    |3,_=>rfl
    |4,_=>rfl
    |5,_=>rfl
    |6,_=>rfl
    |7,_=>rfl
    |8,_=>rfl
    |9,_=>rfl
    |a+10,h=>omega
   rw[e,<-j];have t0:decide ((a:Int)<0)=P2:=eA;have t1:decide ((a:Int)<10)=PV:=eB;have h1:(a:Int)<=(a:Int)+1:=Y;have h2:(a:Int)+1<=10:=Y;clear f e j
   go_in
   go_wp2;go_ret;exact⟨rfl,rfl⟩
  ·have l:=H (f (a/10) Y Y);have m:=H (f (a%10) Y Y);have C:((a:Int)).tmod 10=((a%10:Nat):Int):=by rw[dh Y];omega
   have B:((a:Int)).tdiv 10=((a/10:Nat):Int):=by rw[Int.tdiv_eq_ediv_of_nonneg Y];omega
   have i:L1 (ge (gE a)=ge (gE (a/10))++ge (gE (a%10))):=by unfold Hid;rw[dg g,Bw]
   rw[i.o];have t0:decide ((a:Int)<0)=P2:=eA;have t1:decide ((a:Int)<10)=P2:=eB;have E:a/10<9223372036854775808:=Y;have z:(ge (gE (a/10))).size<=19:=by rw[tF];exact xx 18 _ Y
   have A:(ge (gE (a%10))).size<=19:=by rw[tF];exact xx 18 _ Y
   generalize n:a/10=r at *;generalize q:a%10=u at *;generalize ge (gE r)=x at *;generalize ge (gE u)=y at *;clear f n q i
   go_in
   go_wp2_with fail;apply(l _).m;rintro e v ⟨rfl,d⟩;have d:=d.s;subst d;go_wp2_with fail;apply(m _).m;rintro e v ⟨rfl,d⟩;have d:=d.s;subst d;go_wp2;go_ret;exact⟨rfl,rfl⟩
def Dm(d:Nat)(q:d<9223372036854775808)(w:Gr):K8 Qe 52 #[I U (d:Nat),I U 10] w λl c=>l=Ps (MV (ge (iZ d)))/\c=w:=by
 have m:=H (Ah d q w);have r:=xx 18 d Y
 go_in
 go_wp2_with fail;apply m.o.m;rintro l y ⟨rfl,f⟩;have f:=f.s;subst f;go_wp2_with fail;go_loopw [5] (λg wr=>∃(e:Nat) (a:ByteArray),g=MV a/\L1 (a=ge (Qf e 48++gE d))/\a.size=e+(gE d).length/\(e=0\/e+(gE d).length<=10)/\wr=w) (λg _=>match g with|MV a=>10-a.size|_=>0)
 case atStart=>exact⟨0,_,rfl,by unfold Hid;rfl,by unfold ge;simp[ByteArray.size],P3 rfl,rfl⟩
 case round=>
  obtain⟨e,a,rfl,i,x,u,rfl⟩:=hrel;by_cases v:a.size<10
  ·have t1:decide ((a.size:Int)<10)=PV:=eB;have j:L1 (({data:=#[48]}:ByteArray)++a=ge (Qf (e+1) 48++gE d)):=by unfold Hid;rw[i.o];exact(Bw [48] (Qf e 48++gE d)).s
   have h:L1 ((({data:=#[48]}:ByteArray)++a).size=e+1+(gE d).length):=by unfold Hid;rw[j.o];unfold ge;simp[ByteArray.size]
   go_wp2;go_roundw
   case rel=>exact⟨e+1,_,rfl,j,h,P4 Y,trivial⟩
   case measure=>show 10-(({data:=#[48]}:ByteArray)++a).size<10-a.size;rw[h.o];omega
  ·have t1:decide ((a.size:Int)<10)=P2:=eB;have n:L1 (a=ge (iZ d)):=by unfold Hid;rw[i.o];unfold iZ;rw[show 10-(gE d).length=e by omega]
   go_wp2;go_ret;rw[<-n.o];exact⟨rfl,rfl⟩
def mO:List Nat:=[48,48,48,48,48,48,48,48,48,48,32,54,53,53,51,53,32,102]
def lW(a:Nat):List Nat:=iZ a++[32,48,48,48,48,48,32,110]
def lP(d:List (List Nat))(s:Option (List Nat)):Option (List Nat):=d.foldl (λs a=>s.bind (iH a)) s
def Mj(d:List (List Nat))(a:List Nat)(s:Option (List Nat)):lP (d++[a]) s=(lP d s).bind (iH a):=by unfold lP;rw[List.foldl_append];rfl
def Fz(a:List (List Nat)):lP a N=N:=by
 induction a with
 |nil=>rfl
 |cons e a d=>exact d
def Jc:∀(a:List Nat) (r:List Nat),lP (a.map lW) (O r)=jM a r
 | [],r=>rfl
 |p::a,r=>by
  show lP (a.map lW) (iH (lW p) r)=jM (p::a) r;cases h:iH (lW p) r with
  |none=>rw[Fz,tableLines_none a p r h]
  |some d=>rw[Jc a d,tableLines_some a p r d h]
def BM(b:Nat)(w:Gr)(pv:GI)(e:List Nat):Prop:=∃f g,pv=Z f (G e) g/\∀d,d<G e->∃a,f=O ⟨a,0,N⟩/\a≠b/\a<w.heap.size/\w.cell? ⟨a,d,N⟩=O (I U (nth e d:Nat))
def ti(a:List Nat)(s:Option (List Nat)):s.bind (iH a)=(if qT [32,10] (s.bind (f_ a))then cS [32,10] (s.bind (f_ a))else if qT [13,10] (s.bind (f_ a))then cS [13,10] (s.bind (f_ a))else N):=by
 cases s with
 |none=>rfl
 |some r=>
  show iH a r=_;simp only[Option.bind_some];unfold iH qT cS;cases f_ a r with
  |none=>rfl
  |some d=>
   simp only[Option.bind_some];cases f_ [32,10] d with
   |some e=>rfl
   |none=>
    cases f_ [13,10] d with
    |some e=>rfl
    |none=>rfl
def FK{pv:GI}{a:List Nat}(h:Sn b S w p s)(hp:BM b w pv a)(hl:G a<=200000)(hb:∀d,d<G a->nth a d<=200000):K8 Qe 125 #[M2 (O ⟨b,0,N⟩),pv] w λg c=>g=Ps (OW #[])/\jP b S w c (lP (mO::a.map lW) (s.bind (f_ ([10,48,32]++gE (G a+1)++[10])))):=by
 have a7:=H hp;obtain⟨pa,pc,rfl,ba⟩:=hp;have W:=H (Ah (G a+1) Y w);have bx:(ge (gE (G a+1))).size<=19:=by rw[tF];exact xx 18 _ Y
 have a8:L1 (bl (({data:=#[10,48,32]}:ByteArray)++ge (gE (G a+1))++({data:=#[10]}:ByteArray))=[10,48,32]++gE (G a+1)++[10]):=by
  unfold Hid;have:({data:=#[10,48,32]}:ByteArray)++ge (gE (G a+1))++({data:=#[10]}:ByteArray)=ge ([10,48,32]++gE (G a+1)++[10]):=by rw[Bw,Bw];rfl
  rw[this];exact ui _ (λJ n=>by
   rcases bG.1 n with h1|h1
   ·rcases bG.1 h1 with h2|h2;·simp at h2;omega
    ·exact yy _ J h2
   ·simp at h1;omega)
 have ac:=H (xP h (({data:=#[10,48,32]}:ByteArray)++ge (gE (G a+1))++({data:=#[10]}:ByteArray)) F2);rw[a8.o]at ac;generalize bw:s.bind (f_ ([10,48,32]++gE (G a+1)++[10]))=s1 at *;generalize ge (gE (G a+1))=bo at *;have a5:=H (λ(d:Nat) (hi:d<G a) (a9:Gr)=>Dm (nth a d) (by have:=hb d hi;omega) a9);have V:=H ba;have a1:=H hb;obtain⟨i,Q⟩:∃i,G a=i:=⟨_,rfl⟩;rw[Q]at V hl;have bz:IntKind.i64.wrap ((i:Int)+1)=((i+1:Nat):Int):=by rw[aU];omega
 rw[Q]at W a7 ⊢;have u:=H Q
 go_in
 go_wp2_with fail;apply W.o.m;rintro g w0 ⟨rfl,m⟩;have m:=m.s;subst m;go_wp2_with fail;apply ac.o.m;rintro g w1 ⟨rfl,k1⟩;have K1:=H k1;go_wp2_with fail;go_loopw [4] (λD wr=>∃e:Nat,e<=i+1/\D=I U ((e:Int)-1)/\L1 (jP b S w wr (lP ((mO::a.map lW).take e) s1))) (λD _=>i+1-((intOf D)+1).toNat)
 case atStart=>exact⟨0,Y,rfl,K1⟩
 case round=>
  obtain⟨e,hj,rfl,K⟩:=hrel;obtain⟨⟨p2,h2⟩,o2⟩:=K.o;rcases aV hj with he|bs
  ·have t1:decide ((e:Int)-1<(i:Int))=P2:=eB;have HE:L1 (lP ((mO::a.map lW).take e) s1=lP (mO::a.map lW) s1):=by unfold Hid;rw[bD (by rw[aj,aw,u.o];omega)]
   go_wp2
   go_end0
   rw[<-HE.o];exact⟨rfl,K⟩
  ·have t1:decide ((e:Int)-1<(i:Int))=PV:=eB;obtain⟨f,P⟩:∃f,(mO::a.map lW)[e]?=O f:=⟨_,af (by rw[aj,aw,u.o];omega)⟩;have j:L1 (lP ((mO::a.map lW).take (e+1)) s1=(lP ((mO::a.map lW).take e) s1).bind (iH f)):=by unfold Hid;rw[du,P,show(O f).toList=[f]from rfl,Mj]
   have aa:=H P;have T:=H h2;have M:=H o2;generalize lP ((mO::a.map lW).take e) s1=E at *;obtain⟨l,R⟩:∃l,lP ((mO::a.map lW).take (e+1)) s1=l:=⟨_,rfl⟩;rw[R]at j;have L:=H R;clear R;clear P h2 o2 K;rw[ti]at j
   go_upto_if 22 with fail
   go_cut [4]from 15 to 48 (λD wx=>D=I U ((e:Int)-1)/\L1 (jP b S w wx (E.bind (f_ f))))
   case first=>
    by_cases ao:e=0
    ·have a0:(e:Int)-1<0:=Y;have a3:L1 (f=mO):=by have:=aa.o;rw[ao]at this;cases this;rfl
     have y:=H (xP T {data:=#[48,48,48,48,48,48,48,48,48,48,32,54,53,53,51,53,32,102]} cO);rw[show bl {data:=#[48,48,48,48,48,48,48,48,48,48,32,54,53,53,51,53,32,102]}=mO from rfl,<-a3.o]at y;clear ao;go_wp2_with fail;apply y.o.m;rintro g F ⟨rfl,v⟩;have A:L1 (jP b S w F (E.bind (f_ f))):=⟨v.1,M.t v.2⟩;clear v;go_wp2
     go_meet
     case rel=>exact⟨rfl,A⟩
    ·have a0:¬(e:Int)-1<0:=Y;obtain⟨d,bm⟩:∃d,(e:Int)-1=(d:Nat):=⟨e-1,Y⟩;have bi:e=d+1:=Y;have C:d<i:=Y;have a2:L1 (f=lW (nth a d)):=by have:=aa.o;rw[bi,eG,aY,af BG]at this;simp only[aZ,Option.some.injEq]at this;rw[<-this];congr 1;unfold nth;rw[ax,af BG];rfl
     obtain⟨ad,rfl,bf,bd,bc⟩:=V.o d C;have bq:wr.cell? ⟨ad,d,N⟩=O (I U (nth a d:Nat)):=by rw[World.cell?_of_block (w:=w) (M.o.block ad bd bf)];exact bc
     have a6:=H (a5 d BG);have bt:=a1.o d BG;have HB:L1 (bl (ge (iZ (nth a d))++({data:=#[32,48,48,48,48,48,32,110]}:ByteArray))=f):=by
      unfold Hid;rw[a2.o];have:ge (iZ (nth a d))++({data:=#[32,48,48,48,48,48,32,110]}:ByteArray)=ge (lW (nth a d)):=by unfold lW;rw[Bw];rfl
      rw[this];exact ui _ (λJ n=>by
       unfold lW at n;rcases bG.1 n with h1|h1
       ·unfold iZ at h1;rcases bG.1 h1 with h2|h2;·rw[List.eq_of_mem_replicate h2];omega
        ·exact yy _ J h2
       ·simp at h1;omega)
     have bv:(ge (iZ (nth a d))).size<=40:=by rw[tF];unfold iZ;have:=xx 18 (nth a d) Y;rw[ak,bI];omega
     have y:=H (xP T (ge (iZ (nth a d))++({data:=#[32,48,48,48,48,48,32,110]}:ByteArray)) F2);rw[HB.o]at y;have br:(d:Int)<(i:Int):=Y;generalize ge (iZ (nth a d))=PD at *;generalize nth a d=pi at *;have X:=H bm;rw[X.o]at a0 ⊢;go_wp2_with fail;apply(a6 _).m;rintro g F ⟨rfl,m⟩;have m:=m.s;subst m;go_wp2_with fail;apply y.o.m;rintro g F ⟨rfl,v⟩;have A:L1 (jP b S w F (E.bind (f_ f))):=⟨v.1,M.t v.2⟩;go_wp2
     go_meet
     case rel=>exact⟨by rw[X.o],A⟩
   case rest=>
    obtain⟨rfl,A⟩:=hcut;obtain⟨⟨p3,h3⟩,o3⟩:=A.o;have r:=H (wT h3 {data:=#[32,10]} cO);rw[show bl {data:=#[32,10]}=[32,10]from rfl]at r;have O3:=H o3;generalize E.bind (f_ f)=q at *;cases B:qT [32,10] q with
    |true=>
     rw[B]at r j;have z:L1 (l=cS [32,10] q):=by unfold Hid;rw[j.o];rfl
     go_wp2_with fail;apply r.o.m;rintro g w4 ⟨rfl,k4⟩;have K4:L1 (jP b S w w4 l):=by unfold Hid;rw[z.o];exact⟨k4.1,O3.t k4.2⟩
     go_wp2;go_roundw
     case rel=>exact⟨e+1,Y,by congr 1;omega,by unfold Hid;rw[L.o];exact K4⟩
     case measure=>simp[intOf];omega
    |false=>
     rw[B]at r j;have bb:cS [32,10] q=q:=by
      unfold qT at B;cases n:q.bind (f_ [32,10])with
      |none=>exact(xK n).2
      |some J=>rw[n]at B;cases B
     rw[bb]at r;go_wp2_with fail;apply r.o.m;rintro g w4 ⟨rfl,⟨p4,h4⟩,o4⟩;have x:=H (wT h4 {data:=#[13,10]} cO);rw[show bl {data:=#[13,10]}=[13,10]from rfl]at x;have O4:=H (O3.t o4);cases al:qT [13,10] q with
     |true=>
      rw[al]at x j;have z:L1 (l=cS [13,10] q):=by unfold Hid;rw[j.o];rfl
      go_wp2_with fail;apply x.o.m;rintro g w5 ⟨rfl,k5⟩;have K5:L1 (jP b S w w5 l):=by unfold Hid;rw[z.o];exact⟨k5.1,O4.t k5.2⟩
      go_wp2;go_roundw
      case rel=>exact⟨e+1,Y,by congr 1;omega,by unfold Hid;rw[L.o];exact K5⟩
      case measure=>simp[intOf];omega
     |false=>
      rw[al]at x j;have z:L1 (l=N):=by unfold Hid;rw[j.o];rfl
      go_wp2_with fail;apply x.o.m;rintro g w5 ⟨rfl,⟨p5,h5⟩,o5⟩;have a4:=H (qW h5);have O5:=H (O4.t o5);go_wp2_with fail;apply a4.o.m;rintro g w6 ⟨rfl,h6,o6⟩;have K6:L1 (jP b S w w6 l):=by unfold Hid;rw[z.o];exact⟨⟨_,h6⟩,O5.t o6⟩
      go_wp2;go_roundw
      case rel=>exact⟨e+1,Y,by congr 1;omega,by unfold Hid;rw[L.o];exact K6⟩
      case measure=>simp[intOf];omega
end
section
variable{w a:Gr}
def fname(b:Nat):ByteArray:=if b=1 then{data:=#[65,83,67,73,73,72,101,120,68,101,99,111,100,101]} else if b=2 then{data:=#[65,83,67,73,73,56,53,68,101,99,111,100,101]} else if b=3 then{data:=#[82,117,110,76,101,110,103,116,104,68,101,99,111,100,101]} else{data:=#[70,108,97,116,101,68,101,99,111,100,101]}
def JH(b:Nat)(f:b<=100000)(w:Gr):K8 Qe 89 #[I U (b:Nat)] w λd a=>d=Ps (MV (fname b))/\a=w:=by
 rcases(show b=1\/b=2\/b=3\/(b≠1/\b≠2/\b≠3)by omega)with rfl|rfl|rfl|⟨h1,h2,h3⟩
 rotate_right
 ·have e1:((b:Int)==1)=P2:=eB;have e2:((b:Int)==2)=P2:=eB;have e:((b:Int)==3)=P2:=eB;have c:L1 (fname b={data:=#[70,108,97,116,101,68,101,99,111,100,101]}):=by unfold Hid fname;rw[ah h1,ah h2,ah h3]
  clear h1 h2 h3
  go_in
  go_wp2;go_ret;rw[c.o];exact⟨rfl,rfl⟩
 all_goals
  go_in
  go_wp2;go_ret;exact⟨rfl,rfl⟩
end
section
variable{b:Nat}{S:ByteArray}{w w':Gr}{p:Nat}{s t:Option (List Nat)}
def jy(s:ByteArray):Nat:=if fname 1=s then 1 else if fname 2=s then 2 else if fname 3=s then 3 else 4
def zq(s:ByteArray):lL s=if fname (jy s)=s then jy s else 0:=by
 have e1:lT 1=fname 1:=rfl;have e2:lT 2=fname 2:=rfl;have a:lT 3=fname 3:=rfl;have e4:lT 4=fname 4:=rfl;simp only[lL,kn,jy,e1,e2,a,e4];by_cases h1:fname 1=s;·simp only[ai h1]
 ·simp only[ah h1];by_cases h2:fname 2=s;·simp only[ai h2]
  ·simp only[ah h2];by_cases h3:fname 3=s;·simp only[ai h3]
   ·simp only[ah h3]
def pV(s:ByteArray):1<=jy s/\jy s<=4:=by
 unfold jy;repeat' split
 all_goals omega
def rC{s:ByteArray}{a:Nat}(h1:1<=a)(f:a<=4)(c:∀d,1<=d->d<a->fname d≠s)(e:a=4\/fname a=s):jy s=a:=by
 unfold jy;rcases(show a=1\/a=2\/a=3\/a=4 by omega)with rfl|rfl|rfl|rfl;·rw[ai (e.resolve_left Y)]
 ·rw[ah (c 1 Y Y),ai (e.resolve_left Y)]
 ·rw[ah (c 1 Y Y),ah (c 2 Y Y),ai (e.resolve_left Y)]
 ·rw[ah (c 1 Y Y),ah (c 2 Y Y),ah (c 3 Y Y)]
def kq{k:Nat}(a:VT k):List (Nat×List Nat):=if kO a=6 then iK a else[kt a]
def kP(a:Nat×List Nat):Bool:=decide (a.1=4)&&decide (fname (jy (ge a.2))=ge a.2)
def oY:∀c,kC c=if c.all kP=PV then O (c.map λa=>jy (ge a.2))else N
 | []=>rfl
 |a::c=>by
  rw[kC,oY c,cZ,zq];by_cases h1:a.1=4
  ·by_cases h2:fname (jy (ge a.2))=ge a.2
   ·have h3:=(pV (ge a.2)).1;rw[ai h2,ai ⟨h1,h3⟩];have:kP a=PV:=by unfold kP;rw[aB h1,aB h2];rfl
    rw[this,bX];split<;>rfl
   ·rw[ah h2,ah Y];have:kP a=P2:=by unfold kP;rw[ar h2,Bool.and_false]
    rw[this,Bool.false_and];rfl
  ·rw[ah (λh=>h1 h.1)];have:kP a=P2:=by unfold kP;rw[ar h1,Bool.false_and]
   rw[this,Bool.false_and];rfl
def rF(c:Nat)(a:List (Nat×List Nat))(s:Option (List Nat)):Option (List Nat):=if(a=[]\/c<=4)/\a.all kP=PV then s else N
def LQ(c:Nat)(f:List (Nat×List Nat))(g:Nat×List Nat)(s:Option (List Nat)):rF c (f++[g]) s=if kP g=PV/\c<=4 then rF c f s else N:=by
 unfold rF;rw[List.all_append];simp only[cZ,List.all_nil,Bool.and_true,bN];by_cases a:c<=4
 ·by_cases e:kP g=PV
  ·rw[ai (⟨e,a⟩:_/\_)];by_cases d:f.all kP=PV;·rw[ai ⟨P4 a,d,e⟩,ai ⟨P4 a,d⟩]
   ·rw[ah (λh=>d h.2.1),ah (λh=>d h.2)]
  ·rw[ah (λh=>e h.2.2),ah (λh=>e h.1)]
 ·rw[ah (λh=>h.1.elim (λi=>by simp at i) a),ah (λh=>a h.2)]
def xD(b:Nat)(w:Gr)(h:GI)(g:List (Nat×List Nat)):Prop:=∃f c,h=Z f (G g) c/\∀d e,g[d]?=O e->∃a,f=O ⟨a,0,N⟩/\a≠b/\a<w.heap.size/\w.cell? ⟨a,d*7,N⟩=O (I U (e.1:Int))/\w.cell? ⟨a,d*7+3,N⟩=O (MV (ge e.2))
def xD.only{v:GI}{l:List (Nat×List Nat)}(h:xD b w v l)(e:gB b w w'):xD b w' v l:=by obtain⟨a,c,h1,h2⟩:=h;refine⟨a,c,h1,λi x j=>?_⟩;obtain⟨g,e1,e2,d,e4,f⟩:=h2 i x j;exact⟨g,e1,e2,aQ d e.size,by rw[World.cell?_of_block (w:=w) (e.block g d e2)];exact e4,by rw[World.cell?_of_block (w:=w) (e.block g d e2)];exact f⟩
def xD.of{k:GI}{j:List (Nat×List Nat)}(h:n6 j w k)(n:Sn b S w p s):xD b w k j:=by
 obtain⟨l,c,d⟩:=h.len;refine⟨l,c,d,λi F o=>?_⟩;obtain⟨g,q,e,D,E,x,z,y,A,C,B,r,v,u,f⟩:=h.at o;rw[d]at e;injection e with e1;have a:=f 0 _ rfl;refine⟨g,e1,λm=>?_,aC w _ a,a,f 3 _ rfl⟩;subst m;rw[iI n.blk]at a;match i,a with
 |0,a=>cases a
 |i+1,a=>rw[dC eB]at a;cases a
def Nd{d wr:Gr}{f e k j:Nat}{i:GI}{l:List GI}(h:wr.ownsRow f e k i j l)(m:d.heap.size<=f)(c:wr.grownBy w' i.ownBlock)(a:gB b d wr):gB b d w' :=
 ⟨c.os.t a.os,c.tape.t a.tape,c.output.t a.output,aA a.size c.size,λg h1 h2=>(c.block g (by have:=a.size;omega) (λe=>by have:=(h.lt _ e.s).1;omega)).t (a.block g h1 h2)⟩
def Sn.grown{wr:Gr}{c a g f:Nat}{v:GI}{i:List GI}(h:Sn b S wr p s)(e:wr.ownsRow c a g v f i)(j:b<c)(d:wr.grownBy w' v.ownBlock):Sn b S w' p s:=
 ⟨by rw[d.block _ h.lt (λa=>by have:=(e.lt _ a.s).1;omega)];exact h.blk,h.lp,h.ls,h.rest⟩
def MP{co:Nat->Prop}{k:Nat}{b7:GI}{d:VT k}(h:Sn b S w p s)(hv:gF co k w b7 d)(cr:(kq d).length<=200000):K8 Qe 229 #[M2 (O ⟨b,0,N⟩),b7] w λbx w'=>∃y,bx=Ps y/\w'.ownsRow w.heap.size 3 1 y (kq d).length ((kq d).map λc=>I U ((jy (ge c.2):Nat):Int))/\jP b S w w' (rF (kq d).length (kq d) s):=by
 obtain⟨i0,ct,c2,c4,c5⟩:=bu Eg;obtain⟨pp,iv,kv,y,rfl,b5,⟨K,M,L,rfl⟩,⟨ka,kl,kc,rfl⟩,V,X,W,rfl⟩:=hv.items;have da:=h.lt;obtain⟨e,aa⟩:∃e,(w.alloc (Pp #[I U (kO d:Int),I U (pC d),I U pp,MV (ge (tO d)),Z K M L,Z ka kl kc,Z V X W] 67)).alloc (Pp #[I U (kO d:Int),I U (pC d),I U pp,MV (ge (tO d)),Z K M L,Z ka kl kc,Z V X W] 67)=e:=⟨_,rfl⟩;have b1:LT w.heap.size w e:=by rw[<-aa];exact((aq _ _).alloc (ag _) _).alloc eA _
 have cw:e.heap.size=w.heap.size+2:=by rw[<-aa];simp
 have x1:e.heap[w.heap.size+1]?=O (Pp #[I U (kO d:Int),I U (pC d),I U pp,MV (ge (tO d)),Z K M L,Z ka kl kc,Z V X W] 67 (0,0)):=by rw[<-aa];have:=bn (w.alloc (Pp #[I U (kO d:Int),I U (pC d),I U pp,MV (ge (tO d)),Z K M L,Z ka kl kc,Z V X W] 67)) (Pp #[I U (kO d:Int),I U (pC d),I U pp,MV (ge (tO d)),Z K M L,Z ka kl kc,Z V X W] 67);rw[aL]at this;exact this
 have bc:L1 (kO d=6->xD b e (Z K M L) (kq d)):=λx=>by unfold kq;rw[ai x];exact(xD.of b5 h).only (.of_below b1)
 have bb:L1 (kO d≠6->xD b e (Z (O ⟨w.heap.size+1,0,N⟩) 1 1) (kq d)):=λx=>by
  unfold kq;rw[ah x];refine⟨_,_,rfl,λa c z=>?_⟩;match a,z with
  |0,z=>cases z;exact⟨_,rfl,Y,Y,iI x1,iI x1⟩
  |a+1,z=>simp at z
 have ck:=H (h.other b1);have b9:=H b1;have bw:=H aa;obtain⟨i,hN⟩:∃i,(kq d).length=i:=⟨_,rfl⟩;rw[hN]at cr ⊢;have HN:=H hN;generalize kq d=m at *;clear h hv b5 b1 x1 aa hN
 go_in
 go_upto_if 13 with fail
 go_cut [5]from 9 (λlv C=>L1 (xD b e lv m)/\C=e)
 case first=>
  by_cases x:kO d=6
  ·have e6:((kO d:Int)==6)=PV:=by rw[x];rfl
   have P:=H (bc x);clear x bc bb;go_wp2
   go_meet
   case rel=>exact⟨P,bw⟩
  ·have e6:((kO d:Int)==6)=P2:=eB;have P:=H (bb x);go_wp2
   go_meet
   case rel=>exact⟨P,bw⟩
 case rest=>
 obtain⟨P,q⟩:=hcut;have q:=q.s;subst q;obtain⟨la,lc,rfl,cu⟩:=P.o;rw[HN.o];have cf:L1 (gB b e e):=gB.refl _ _;have cc:=H cu;have ch:L1 (e.ownsRow e.heap.size 3 1 (Z N 0 0) 0 ((m.take 0).map λc=>I U ((jy (ge c.2):Nat):Int))):=aX _ _ _ _;go_wp2_with fail;go_loopw [6,7] (λov iv wr=>∃(a:Nat) (B:Nat) (t:Option (List Nat)),a<=i/\iv=I U a/\L1 (wr.ownsRow e.heap.size 3 1 ov a ((m.take a).map λc=>I U ((jy (ge c.2):Nat):Int)))/\L1 (gB b e wr)/\L1 (Sn b S wr B t)/\L1 (t=rF i (m.take a) s)) (λ_ iv _=>i-(intOf iv).toNat)
 case atStart=>exact⟨0,_,s,aH _,rfl,ch,cf,ck,by simp[L1,rF]⟩
 case round=>
  obtain⟨a,B,t,hi,rfl,R,Q,HS,HT⟩:=hrel;obtain⟨oa,oc,cv⟩:=jp R;subst cv;rcases aV hi with hi|hi
  ·subst hi;have c8:¬(a:Int)<(a:Int):=Y;have cp:m.take a=m:=bD qq;rw[cp]at R HT;go_wp2;go_ret;refine⟨_,rfl,zP R (show w.heap.size<=e.heap.size by omega),⟨B,by rw[<-HT.o];exact HS⟩,(gB.of_below b9).t Q⟩
  ·have c9:(a:Int)<(i:Int):=Y;obtain⟨c,z⟩:∃c,m[a]?=O c:=⟨_,af qq⟩;obtain⟨l,rfl,b4,b3,b0,hg3⟩:=cc.o a c z;have c0:wr.cell? ⟨l,a*7,N⟩=O (I U (c.1:Int)):=by rw[World.cell?_of_block (w:=e) (Q.o.block l b3 b4)];exact b0
   have T:wr.cell? ⟨l,a*7+3,N⟩=O (MV (ge c.2)):=by rw[World.cell?_of_block (w:=e) (Q.o.block l b3 b4)];exact hg3
   have bt:L1 (m.take (a+1)=m.take a++[c]):=by unfold Hid;rw[du,z];rfl
   have J:L1 (kP c=(decide (c.1=4)&&decide (fname (jy (ge c.2))=ge c.2))):=rfl;obtain⟨f,hX⟩:∃f,ge c.2=f:=⟨_,rfl⟩;obtain⟨r,b6⟩:∃r,c.1=r:=⟨_,rfl⟩;rw[hX]at T J;rw[b6]at c0 J;have HX:=H hX;clear b0 hg3 hX b6 z;obtain⟨w9,c1⟩:∃w9,w9=wr:=⟨_,rfl⟩;subst c1
   go_upto_block 2 with fail
   go_cut [8]from 16 to 62 (λy C=>y=I U (jy f:Nat)/\∃A,C=w9.drewN A)
   case first=>
    go_wp2_with fail;go_loopw [8] (λy wq=>∃(g A:Nat),y=I U (g:Nat)/\1<=g/\g<=4/\L1 (∀l,1<=l->l<g->fname l≠f)/\wq=w9.drewN A) (λy _=>4-(intOf y).toNat)
    case atStart=>exact⟨1,0,rfl,Y,Y,(λl h1 h2=>Y),rfl⟩
    case round=>
     obtain⟨g,A,rfl,bz,a6,HF,a8⟩:=hrel;have e3:wr.cell? ⟨l,a*7+3,N⟩=O (MV f):=by rw[a8];exact T
     have a4:=H a8;clear a8 T c0;rcases aV a6 with u|u
     ·have hd:decide ((g:Int)<4)=P2:=eB;have HE:=H (rC bz a6 HF (P3 u));clear u;go_wp2_with fail;go_quiet (fail);go_wp2
      go_meet
      case rel=>exact⟨by rw[HE.o],_,by rw[a4.o];exact World.drewN_drewN _ _ _⟩
     ·have hd:decide ((g:Int)<4)=PV:=eB;have v:=H (λa5=>JH g Y a5);by_cases n:fname g=f
      ·have HE:=H (rC bz a6 HF (P4 n));obtain⟨j,D⟩:∃j,fname g=j:=⟨_,rfl⟩;rw[D]at v n;have a9:(j.toList==f.toList)=PV:=by rw[n];simp
       clear D n;go_wp2_with fail;go_quiet ((go_at_call 89;exact bj (v _)));go_wp2
       go_meet
       case rel=>exact⟨by rw[HE.o],_,by rw[a4.o];exact World.drewN_drewN _ _ _⟩
      ·have ca:L1 (∀l,1<=l->l<g+1->fname l≠f):=λl h1 h2=>by
        rcases aV (show l<=g by omega)with h3|h3;·rw[h3];exact n
        ·exact HF l h1 h3
       obtain⟨j,D⟩:∃j,fname g=j:=⟨_,rfl⟩;rw[D]at v n;have a9:(j.toList==f.toList)=P2:=by rw[ng];simpa using n
       clear D n;go_wp2_with fail;go_quiet ((go_at_call 89;exact bj (v _)));go_wp2;go_roundw
       case rel=>exact⟨g+1,_,rfl,Y,Y,ca,by rw[a4.o];exact World.drewN_drewN _ _ _⟩
       case measure=>simp[intOf];omega
   case rest=>
   obtain⟨rfl,A,q⟩:=hcut;obtain⟨E,cy⟩:∃E,E=wc:=⟨_,rfl⟩;subst cy;have e0:E.cell? ⟨l,a*7,N⟩=O (I U r):=by rw[q];exact c0
   have e3:E.cell? ⟨l,a*7+3,N⟩=O (MV f):=by rw[q];exact T
   have bs:L1 (Sn b S E B t):=by rw[q];exact HS.drewN A
   have bq:L1 (E.ownsRow e.heap.size 3 1 (Z oa a oc) a ((m.take a).map λc=>I U ((jy (ge c.2):Nat):Int))):=by rw[q];exact R
   have bm:L1 (gB b e E):=by rw[q];exact Q.drewN A
   have cs:=pV f;have v:=H (λa5=>JH (jy f) Y a5);have bd:=HT;obtain⟨g,hf⟩:∃g,jy f=g:=⟨_,rfl⟩;rw[hf]at v J cs;rw[hf];obtain⟨j,D⟩:∃j,fname g=j:=⟨_,rfl⟩;rw[D]at v J;have cb:=H hf;clear q c0 T HS R Q hf D
   go_upto_region 11 with fail
   go_cut [56]from 16 to 62 (λbv C=>bv=OV (!decide (r=4/\j=f/\i<=4))/\∃A,C=E.drewN A)
   case first=>
    by_cases u:r=4
    ·have k4:((r:Int) != 4)=P2:=by rw[u];rfl
     by_cases n:j=f
     ·have a9:(j.toList==f.toList)=PV:=by rw[n];simp
      by_cases ad:i<=4
      ·have n4:decide (4<(i:Int))=P2:=eB;have F:L1 (decide (r=4/\j=f/\i<=4)=PV):=aB ⟨u,n,ad⟩;clear u n ad;go_quiet ((go_at_call 89;exact bj (v _)));go_wp2
       go_meet
       case rel=>exact⟨by rw[F.o];rfl,_,rfl⟩
      ·have n4:decide (4<(i:Int))=PV:=eB;have F:L1 (decide (r=4/\j=f/\i<=4)=P2):=ar (λh=>ad h.2.2);clear u n ad;go_quiet ((go_at_call 89;exact bj (v _)));go_wp2
       go_meet
       case rel=>exact⟨by rw[F.o];rfl,_,rfl⟩
     ·have a9:(j.toList==f.toList)=P2:=by rw[ng];simpa using n
      have F:L1 (decide (r=4/\j=f/\i<=4)=P2):=ar (λh=>n h.2.1);clear u n;go_quiet ((go_at_call 89;exact bj (v _)));go_wp2
      go_meet
      case rel=>exact⟨by rw[F.o];rfl,_,rfl⟩
    ·have k4:((r:Int) != 4)=PV:=eB;have F:L1 (decide (r=4/\j=f/\i<=4)=P2):=ar (λh=>u h.1);clear u;go_quiet (fail);go_wp2
     go_meet
     case rel=>exact⟨by rw[F.o];rfl,_,rfl⟩
   case rest=>
   obtain⟨rfl,m2,q⟩:=hcut;obtain⟨w7,cx⟩:∃w7,w7=wc:=⟨_,rfl⟩;subst cx;have br:L1 (Sn b S w7 B t):=by rw[q];exact bs.drewN _
   have bo:L1 (w7.ownsRow e.heap.size 3 1 (Z oa a oc) a ((m.take a).map λc=>I U ((jy (ge c.2):Nat):Int))):=by rw[q];exact bq
   have bi:L1 (gB b e w7):=by rw[q];exact bm.drewN _
   have ao:L1 (decide (r=4/\j=f/\i<=4)=PV↔(kP c=PV/\i<=4)):=by unfold Hid;rw[J.o];simp[and_assoc]
   have ac:L1 (rF i (m.take (a+1)) s=if decide (r=4/\j=f/\i<=4)=PV then t else N):=by
    unfold Hid;rw[bt.o,LQ,bd.o];by_cases hh:kP c=PV/\i<=4;·rw[ai hh,ai (ao.o.2 hh)]
    ·rw[ah hh,ah (λh=>hh (ao.o.1 h))]
   generalize decide (r=4/\j=f/\i<=4)=b8 at *;clear q e0 e3 bs bq bm ao J HT bd
   go_upto_if 56 with fail
   go_cut []from 16 to 62 (λC=>∃B,L1 (Sn b S C B (rF i (m.take (a+1)) s))/\L1 (C.ownsRow e.heap.size 3 1 (Z oa a oc) a ((m.take a).map λc=>I U ((jy (ge c.2):Nat):Int)))/\L1 (gB b e C))
   case first=>
    cases b8 with
    |true=>
     have a3:L1 (rF i (m.take (a+1)) s=t):=ac.o;clear ac;go_wp2
     go_meet
     case rel=>exact⟨B,by rw[a3.o];exact br,bo,bi⟩
    |false=>
     have a3:L1 (rF i (m.take (a+1)) s=N):=ac.o;have ce:=H (qW br);clear ac;go_wp2_with fail;apply ce.o.m;rintro bx w6 ⟨rfl,x,o6⟩;have a2:=H x;have a1:=H (uf bo o6 Y);have a0:=H (bi.t o6);go_wp2
     go_meet
     case rel=>exact⟨B,by rw[a3.o];exact a2,a1,a0⟩
   case rest=>
   obtain⟨q5,cn,cj,bf⟩:=hcut;have cl:=H (cn.o.other ((aq wc.heap.size wc).alloc (ag _) (Pp #[I U (g:Nat)] 3)));have ci:=H (wV cj ((aq wc.heap.size wc).alloc (ag _) (Pp #[I U (g:Nat)] 3)));have cg:L1 (gB b e (wc.alloc (Pp #[I U (g:Nat)] 3))):=bf.o.t (.of_below ((aq wc.heap.size wc).alloc (ag _) _));have a7:=ci.o;have db:=bf.o.size;have cd:L1 (∀(ba:Nat) (al:GI),[I U (g:Nat)][ba]?=O al->(wc.alloc (Pp #[I U (g:Nat)] 3)).cell? ((⟨wc.heap.size,0,N⟩:L2).add ba)=O al):=by intro ba al hu;rw[pR,iI (bn wc _)];simpa using hu
   go_wp2_with (at_builtin;refine uT _ rfl (.tmp 59) (.tmp 61) 52 rfl e.heap.size 3 i0 _ 1 8 cG ct c2 c4 c5 rfl cO (Z oa a oc) a ((m.take a).map λc=>I U ((jy (ge c.2):Nat):Int)) rfl a7 ⟨wc.heap.size,0,N⟩ 1 1 [I U (g:Nat)] rfl rfl cd ?hone ?h63 ?hby ?hbs ?_)
   case hone=>intro al hu;simp at hu;subst hu;rfl
   case h63=>unfold maxLen;omega
   case hby=>omega
   case hbs=>simp;omega
   intro c6 w6 c7 b2 dc;have a0:=H (Nd a7 (ag _) b2 cg);have a2:=H (cl.grown a7 Y b2);have a1:L1 (w6.ownsRow e.heap.size 3 1 c6 (a+1) ((m.take (a+1)).map λc=>I U ((jy (ge c.2):Nat):Int))):=by unfold Hid;rw[cw,bt.o,bK,bF,dY,HX.o,cb.o,List.map_take];exact c7
   go_wp2;go_roundw
   case rel=>exact⟨a+1,q5,_,Y,rfl,a1,a0,a2,rfl⟩
   case measure=>simp[intOf];omega
end
section
variable{w w':Gr}
structure Pu(w:Gr)(l:Array GI)(a0 a3 a6:GI)(wr:Gr)(d:GI)(k:List GI)(j:GI)(f:List (List Nat))(m:Array GI):Prop where
 below:LT w.heap.size w wr
 b0:wr.heap[w.heap.size]?=O (Pp l 67 (0,0))
 b1:wr.heap[w.heap.size+1]?=O (Pp gG 67 (0,0))
 b2:wr.heap[w.heap.size+2]?=O (Pp gG 67 (0,0))
 b3:wr.heap[w.heap.size+3]?=O (Pp #[a0,I U 0,I U 0,a3,d,j,a6] 67 (0,0))
 b4:wr.heap[w.heap.size+4]?=O (Pp m 67 (0,0))
 own:wr.ownsRow (w.heap.size+5) 67 7 d (G k) (k.flatMap cellsOf)
 ownk:wr.ownsRow (w.heap.size+5) 9 1 j (G f) (f.map λs=>MV (ge s))
variable{wr:Gr}{l m:Array GI}{a0 a3 a6 d j:GI}{k:List GI}{f:List (List Nat)}
def Pu.step(h:Pu w l a0 a3 a6 wr d k j f m)(b:LT wr.heap.size wr w'):Pu w l a0 a3 a6 w' d k j f m:=
 ⟨h.below.t (b.m h.below.size),by rw[b.block _ (ae h.b0)];exact h.b0,by rw[b.block _ (ae h.b1)];exact h.b1,by rw[b.block _ (ae h.b2)];exact h.b2,by rw[b.block _ (ae h.b3)];exact h.b3,by rw[b.block _ (ae h.b4)];exact h.b4,wV h.own b,wV h.ownk b⟩
def Pu.alloc(h:Pu w l a0 a3 a6 wr d k j f m)(a:Obj):Pu w l a0 a3 a6 (wr.alloc a) d k j f m:=h.step ((aq _ _).alloc (ag _) a)
def Pu.drew(h:Pu w l a0 a3 a6 wr d k j f m):Pu w l a0 a3 a6 wr.drew d k j f m:=h.step (aq _ _).drew
def yA{n:GI}{a c:Nat}{r:GI}{g:Obj}{b:Nat}(e:wr.heap[a]?=O g)(q:∀i,n.ownBlock=O i->b<=i)(p:wr.grownBy w' n.ownBlock)(h1:a<b){h:Nat}(h2:a≠h):(w'.setCell ⟨h,c,N⟩ r).heap[a]?=O g:=by rw[kW _ h2,p.block _ (ae e) (λo=>by have:=q _ o.s;omega)];exact e
def Pu.key(h:Pu w l a0 a3 a6 wr d k j f m){s:List Nat}{i:GI}
  (n:w'.ownsRow (w.heap.size+5) 9 1 i (G f+1) ((f.map λs=>MV (ge s))++[MV (ge s)])) (b:wr.grownBy w' j.ownBlock):Pu w l a0 a3 a6 (w'.setCell ⟨w.heap.size+3,5,N⟩ i) d k i (f++[s]) m:=by
 have e:=λg c=>(h.ownk.lt g c).1;have o:w'.heap[w.heap.size+3]?=O (Pp #[a0,I U 0,I U 0,a3,d,j,a6] 67 (0,0)):=by rw[b.block _ (ae h.b3) (λc=>by have:=e _ c.s;omega)];exact h.b3
 refine⟨⟨b.os.t h.below.os,b.tape.t h.below.tape,b.output.t h.below.output,by have:=b.size;have:=h.below.size;simp[World.setCell];omega,λg h1=>?_⟩,yA h.b0 e b Y Y,yA h.b1 e b Y Y,yA h.b2 e b Y Y,by rw[lV _ o];rfl,yA h.b4 e b Y Y,?_,?_⟩
 ·rw[kW _ (by show g≠w.heap.size+3;omega),b.block g vx (λc=>by have:=e _ c.s;omega)];exact h.below.block g h1
 ·have:=h.own.kept b (zR h.own h.ownk cO);exact aR this (λc=>absurd (this.lt _ c).1 BR) i
 ·rw[ak,bK];have:=aR (a:=⟨w.heap.size+3,5,N⟩) n (λc=>absurd (n.lt _ c).1 BR) i;simpa using this
def Pu.item(h:Pu w l a0 a3 a6 wr d k j f m){x:GI}{i:GI}
  (n:w'.ownsRow (w.heap.size+5) 67 7 i (G k+1) (k.flatMap cellsOf++cellsOf x)) (b:wr.grownBy w' d.ownBlock):Pu w l a0 a3 a6 (w'.setCell ⟨w.heap.size+3,4,N⟩ i) i (k++[x]) j f m:=by
 have e:=λg c=>(h.own.lt g c).1;have o:w'.heap[w.heap.size+3]?=O (Pp #[a0,I U 0,I U 0,a3,d,j,a6] 67 (0,0)):=by rw[b.block _ (ae h.b3) (λc=>by have:=e _ c.s;omega)];exact h.b3
 refine⟨⟨b.os.t h.below.os,b.tape.t h.below.tape,b.output.t h.below.output,by have:=b.size;have:=h.below.size;simp[World.setCell];omega,λg h1=>?_⟩,yA h.b0 e b Y Y,yA h.b1 e b Y Y,yA h.b2 e b Y Y,by rw[lV _ o];rfl,yA h.b4 e b Y Y,?_,?_⟩
 ·rw[kW _ (by show g≠w.heap.size+3;omega),b.block g vx (λc=>by have:=e _ c.s;omega)];exact h.below.block g h1
 ·rw[ak,dE];have:=aR (a:=⟨w.heap.size+3,4,N⟩) n (λc=>absurd (n.lt _ c).1 BR) i;simpa using this
 ·have:=h.ownk.kept b (zR h.ownk h.own cO);exact aR this (λc=>absurd (this.lt _ c).1 BR) i
def Pu.found{B C D E F J K:GI}(h:Pu w l a0 a3 a6 wr d k j f #[B,C,D,E,F,J,K])(e g i n o p q:GI):Pu w l a0 a3 a6 (((((((wr.setCell ⟨w.heap.size+4,0,N⟩ e).setCell ⟨w.heap.size+4,1,N⟩ g).setCell ⟨w.heap.size+4,2,N⟩ i).setCell ⟨w.heap.size+4,3,N⟩ n).setCell ⟨w.heap.size+4,4,N⟩ o).setCell ⟨w.heap.size+4,5,N⟩ p).setCell ⟨w.heap.size+4,6,N⟩ q) d k j f #[e,g,i,n,o,p,q]:=by
 have b:=lX wr (w.heap.size+4) e g i n o p q;have L:=ae h.b4;have a:∀{c x y:Nat} {z:GI} {A:List GI} {s:Gr} (v:Nat) (r:GI),s.ownsRow (w.heap.size+5) c y z x A->(s.setCell ⟨w.heap.size+4,v,N⟩ r).ownsRow (w.heap.size+5) c y z x A:=λv r u=>aR u (λc=>absurd (u.lt _ c).1 (by show ¬(w.heap.size+5<=w.heap.size+4);omega)) r
 refine⟨⟨b.os.t h.below.os,b.tape.t h.below.tape,b.output.t h.below.output,aA h.below.size b.size,λt h1=>(b.block t Y Y).t (h.below.block t h1)⟩,by rw[b.block _ (ae h.b0) Y];exact h.b0,by rw[b.block _ (ae h.b1) Y];exact h.b1,by rw[b.block _ (ae h.b2) Y];exact h.b2,by rw[b.block _ (ae h.b3) Y];exact h.b3,vq h.b4 e g i n o p q,?_,?_⟩;·exact a _ _ (a _ _ (a _ _ (a _ _ (a _ _ (a _ _ (a _ _ h.own))))))
 ·exact a _ _ (a _ _ (a _ _ (a _ _ (a _ _ (a _ _ (a _ _ h.ownk))))))
end
section
variable{w d:Gr}
def Ox{k:Func}{f g l:Tmp}{b:TypeId}(h:k.results=#[.cell f b,.cell g b,.tmp l])(a:Array GI)(w:Gr)(c e:Nat)(i j:Array GI)
  (o:a.getD f undef=M2 (O ⟨c,0,N⟩)) (q:a.getD g undef=M2 (O ⟨e,0,N⟩)) (m:(loadVar b ⟨c,0,N⟩).run Qe w=.ok (N1 i) w) (n:(loadVar b ⟨e,0,N⟩).run Qe w=.ok (N1 j) w):(results k a).run Qe w=.ok (OW #[N1 i,N1 j,a.getD l undef]) w:=by
 have p:a[f]?.getD undef=M2 (O ⟨c,0,N⟩):=by simpa using o
 have r:a[g]?.getD undef=M2 (O ⟨e,0,N⟩):=by simpa using q
 simp[results,h,p,r,asAddr,m,n]
def Pu.done{wr:Gr}{W X:Array GI}{S T V P Q:GI}{K:List GI}{F:List (List Nat)}(h:Pu w W S T V wr P K Q F X)(k l m n o p q x y z A B C D:GI){c:Gr}(s:c=((((((((((((((wr.setCell ⟨w.heap.size+1,0,N⟩ k).setCell ⟨w.heap.size+1,1,N⟩ l).setCell ⟨w.heap.size+1,2,N⟩ m).setCell ⟨w.heap.size+1,3,N⟩ n).setCell ⟨w.heap.size+1,4,N⟩ o).setCell ⟨w.heap.size+1,5,N⟩ p).setCell ⟨w.heap.size+1,6,N⟩ q).setCell ⟨w.heap.size+2,0,N⟩ x).setCell ⟨w.heap.size+2,1,N⟩ y).setCell ⟨w.heap.size+2,2,N⟩ z).setCell ⟨w.heap.size+2,3,N⟩ A).setCell ⟨w.heap.size+2,4,N⟩ B).setCell ⟨w.heap.size+2,5,N⟩ C).setCell ⟨w.heap.size+2,6,N⟩ D)):LT w.heap.size w c/\c.heap[w.heap.size+1]?=O (Pp #[k,l,m,n,o,p,q] 67 (0,0))/\c.heap[w.heap.size+2]?=O (Pp #[x,y,z,A,B,C,D] 67 (0,0))/\c.ownsRow (w.heap.size+5) 67 7 P (G K) (K.flatMap cellsOf)/\c.ownsRow (w.heap.size+5) 9 1 Q (G F) (F.map λaa=>MV (ge aa)):=by
 have e:=lX wr (w.heap.size+1) k l m n o p q;have e1:=pq h.b1 k l m n o p q;obtain⟨u,L⟩:∃u,(((((((wr.setCell ⟨w.heap.size+1,0,N⟩ k).setCell ⟨w.heap.size+1,1,N⟩ l).setCell ⟨w.heap.size+1,2,N⟩ m).setCell ⟨w.heap.size+1,3,N⟩ n).setCell ⟨w.heap.size+1,4,N⟩ o).setCell ⟨w.heap.size+1,5,N⟩ p).setCell ⟨w.heap.size+1,6,N⟩ q)=u:=⟨_,rfl⟩;have a:∀{f i j b:Nat} {v:GI} {r:List GI} {c:Gr} (M:Nat) (J:GI),b<w.heap.size+5->c.ownsRow (w.heap.size+5) f j v i r->(c.setCell ⟨b,M,N⟩ J).ownsRow (w.heap.size+5) f j v i r:=λM J hb t=>aR t (λf=>absurd (t.lt _ f).1 (Nat.not_le.2 hb)) J
 have R:∀{f i j:Nat} {v:GI} {r:List GI},wr.ownsRow (w.heap.size+5) f j v i r->u.ownsRow (w.heap.size+5) f j v i r:=λt=>by rw[<-L];exact a _ _ Y (a _ _ Y (a _ _ Y (a _ _ Y (a _ _ Y (a _ _ Y (a _ _ Y t))))))
 rw[L]at e e1 s;have h2:=(e.block _ (ae h.b2) Y).t h.b2;have g:=lX u (w.heap.size+2) x y z A B C D;have e2:=pq h2 x y z A B C D;rw[<-s]at g e2;refine⟨⟨g.os.t (e.os.t h.below.os),g.tape.t (e.tape.t h.below.tape),g.output.t (e.output.t h.below.output),aA h.below.size (aA e.size g.size),λE h1=>(g.block E (by have:=h.below.size;have:=e.size;omega) Y).t ((e.block E vx Y).t (h.below.block E h1))⟩,by rw[g.block _ (ae e1) Y];exact e1,e2,?_,?_⟩
 ·rw[s];exact a _ _ Y (a _ _ Y (a _ _ Y (a _ _ Y (a _ _ Y (a _ _ Y (a _ _ Y (R h.own)))))))
 ·rw[s];exact a _ _ Y (a _ _ Y (a _ _ Y (a _ _ Y (a _ _ Y (a _ _ Y (a _ _ Y (R h.ownk)))))))
def gW{a:Type}(b:ByteArray)(e:List (List Nat×a)):List (List Nat×a):=e.filter λc=> !decide (ge c.1=b)
def lO{a:Type}(b:ByteArray)(e:List (List Nat×a)):List (List Nat×a):=e.filter λc=>decide (ge c.1=b)
def sw{f:Type}(a:ByteArray)(c:List (List Nat×f))(b:Nat)(k:List Nat)(e:f)(h:c[b]?=O (k,e)):gW a (c.take (b+1))=gW a (c.take b)++(if ge k=a then[]else[(k,e)]):=by
 unfold gW;rw[du,h,List.filter_append];congr 1;by_cases g:ge k=a<;>simp[g]
def tf{f:Type}(a:ByteArray)(c:List (List Nat×f))(b:Nat)(k:List Nat)(e:f)(h:c[b]?=O (k,e)):lO a (c.take (b+1))=lO a (c.take b)++(if ge k=a then[(k,e)]else[]):=by
 unfold lO;rw[du,h,List.filter_append];congr 1;by_cases g:ge k=a<;>simp[g]
def sP(a:List (List Nat×GI)):GI:=((a.map Prod.snd).getLast?).getD (N1 gG)
def JY{m nn pp:Int}{p S:ByteArray}{ia:Option L2}{n nI ic:Nat}{ka:Option L2}{kc:Nat}{j:Option L2}{l k:Nat}{e:List GI}{f:List (List Nat)}
  (hI:w.ownsRow 0 67 7 (Z ia nI ic) nI (e.flatMap cellsOf)) (hK:w.ownsRow 0 9 1 (Z ka n kc) n (f.map λad=>MV (ge ad))) (bv:G e=nI) (bo:G f=n) (dr:n<=nI) (hn:n<=200001) (hF:∀x∈e,mi x):K8 Qe 172 #[N1 #[I U m,I U nn,I U pp,MV p,Z ia nI ic,Z ka n kc,Z j l k],MV S] w λR d=>
   ∃W kv fd,R=Ps (OW #[N1 #[I U m,I U 0,I U 0,MV p,W,kv,Z j l k],fd,I U ((lO S (f.zip e)).length:Nat)])/\LT w.heap.size w d/\fd=sP (lO S (f.zip e)) /\
    d.ownsRow (w.heap.size+5) 67 7 W (gW S (f.zip e)).length (((gW S (f.zip e)).map Prod.snd).flatMap cellsOf)/\d.ownsRow (w.heap.size+5) 9 1 kv (gW S (f.zip e)).length (((gW S (f.zip e)).map Prod.fst).map λad=>MV (ge ad)):=by
 obtain⟨i0,hi,cx,cy,c0⟩:=bu iV;obtain⟨j0,gi,co,cp,cr⟩:=bu iS;have HI:=H hI;have HK:=H hK;have HF:=H hF;have HL:=H (And.intro bv bo);clear hI hK hF bv bo;obtain⟨bx,a7⟩:∃bx:Array GI,#[I U m,I U nn,I U pp,MV p,Z ia nI ic,Z ka n kc,Z j l k]=bx:=⟨_,rfl⟩;have c3:=H a7;have bb:L1 (Pu w #[I U m,I U nn,I U pp,MV p,Z ia nI ic,Z ka n kc,Z j l k] (I U m) (MV p) (Z j l k) (((((w.alloc (Pp #[I U m,I U nn,I U pp,MV p,Z ia nI ic,Z ka n kc,Z j l k] 67)).alloc (Pp gG 67)).alloc (Pp gG 67)).alloc (Pp #[I U m,I U 0,I U 0,MV p,Z N 0 0,Z N 0 0,Z j l k] 67)).alloc (Pp gG 67)) (Z N 0 0) [] (Z N 0 0) [] gG):=by
  rw[a7];refine⟨((((((aq _ _).alloc (ag _) _).alloc eA _).alloc eB _).alloc eB _).alloc eB _),?_,?_,?_,?_,?_,aX _ _ _ _,aX _ _ _ _⟩;·exact mA _ (mA _ (mA _ (mA _ (bn _ _))))
  ·exact mA _ (mA _ (mA _ (by have:=bn (w.alloc (Pp bx 67)) (Pp gG 67);rw[aL]at this;exact this)))
  ·exact mA _ (mA _ (by have:=bn ((w.alloc (Pp bx 67)).alloc (Pp gG 67)) (Pp gG 67);rw[aL,aL]at this;exact this))
  ·exact mA _ (by have:=bn (((w.alloc (Pp bx 67)).alloc (Pp gG 67)).alloc (Pp gG 67)) (Pp #[I U m,I U 0,I U 0,MV p,Z N 0 0,Z N 0 0,Z j l k] 67);rw[aL,aL,aL]at this;exact this)
  ·have:=bn ((((w.alloc (Pp bx 67)).alloc (Pp gG 67)).alloc (Pp gG 67)).alloc (Pp #[I U m,I U 0,I U 0,MV p,Z N 0 0,Z N 0 0,Z j l k] 67)) (Pp gG 67);rw[aL,aL,aL,aL]at this;exact this
 clear a7;unfold gG at bb
 go_in
 go_wp2;rw[show w.heap.size+1+1=w.heap.size+2 from rfl,show w.heap.size+2+1=w.heap.size+3 from rfl,show w.heap.size+3+1=w.heap.size+4 from rfl];go_loopw [9,10] (λcv ba wr=>∃(a:Nat) (W kv:GI) (q0 q1 q2:Int) (q3:ByteArray) (qa:Option L2) (ql qc:Nat) (ra:Option L2) (rl rc:Nat) (sa:Option L2) (sl sc:Nat),a<=n/\cv=I U ((lO S ((f.zip e).take a)).length:Nat)/\ba=I U a/\L1 (Pu w #[I U m,I U nn,I U pp,MV p,Z ia nI ic,Z ka n kc,Z j l k] (I U m) (MV p) (Z j l k) wr W ((gW S ((f.zip e).take a)).map Prod.snd) kv ((gW S ((f.zip e).take a)).map Prod.fst) #[I U q0,I U q1,I U q2,MV q3,Z qa ql qc,Z ra rl rc,Z sa sl sc])/\L1 (N1 #[I U q0,I U q1,I U q2,MV q3,Z qa ql qc,Z ra rl rc,Z sa sl sc]=sP (lO S ((f.zip e).take a)))) (λcv ba _=>n-(intOf ba).toNat)
 case atStart=>exact⟨0,_,_,_,_,_,_,_,_,_,_,_,_,_,_,_,aH _,rfl,rfl,bb,rfl⟩
 case round=>
  obtain⟨a,W,kv,q0,q1,q2,q3,qa,ql,qc,ra,rl,rc,sa,sl,sc,hm,rfl,rfl,g,a5⟩:=hrel;obtain⟨ea,ec,a8⟩:=jp g.o.own;obtain⟨oa,oc,a9⟩:=jp g.o.ownk;have d5:=r_ g.b0;rcases aV hm with hm|hm
  ·subst hm;have e1:(f.zip e).take a=f.zip e:=bD (by rw[fp];have:=HL.o;omega);rw[e1]at g a8 a9 a5;rw[e1];have c7:¬(a:Int)<(a:Int):=Y;have b:=g.o;subst a8;subst a9;generalize da:((gW S (f.zip e)).map Prod.snd).length=bz at *;generalize db:((gW S (f.zip e)).map Prod.fst).length=b5 at *;obtain⟨v0,v1,v2,v3,v4,v5,v6⟩:=qu b.b3;obtain⟨y0,y1,y2,y3,y4,y5,y6⟩:=qu b.b4;have r0:=mC b.b1;have d2:=jR 0 b.b1;have r1:=n5 b.b1;have d3:=jR 1 b.b1;have r2:=rZ b.b1;have d6:=jR 2 b.b1;have r3:=s_ b.b1;have d7:=jR 3 b.b1;have r4:=qZ b.b1;have eb:=jR 4 b.b1;have r5:=r_ b.b1;have ee:=jR 5 b.b1;have r6:=uy b.b1;have ek:=jR 6 b.b1;have s0:=mC b.b2;have el:=jR 0 b.b2;have s1:=n5 b.b2;have em:=jR 1 b.b2;have s2:=rZ b.b2;have en:=jR 2 b.b2;have s3:=s_ b.b2;have eo:=jR 3 b.b2;have s4:=qZ b.b2;have ep:=jR 4 b.b2;have s5:=r_ b.b2;have eq:=jR 5 b.b2;have s6:=uy b.b2;have es:=jR 6 b.b2;go_wp2;go_region;all_goals go_wp2
   obtain⟨a2,hW⟩:∃a2,a2=((((((((((((((wr.setCell ⟨w.heap.size+1,0,N⟩ (I U m)).setCell ⟨w.heap.size+1,1,N⟩ (I U 0)).setCell ⟨w.heap.size+1,2,N⟩ (I U 0)).setCell ⟨w.heap.size+1,3,N⟩ (MV p)).setCell ⟨w.heap.size+1,4,N⟩ (Z ea bz ec)).setCell ⟨w.heap.size+1,5,N⟩ (Z oa b5 oc)).setCell ⟨w.heap.size+1,6,N⟩ (Z j l k)).setCell ⟨w.heap.size+2,0,N⟩ (I U q0)).setCell ⟨w.heap.size+2,1,N⟩ (I U q1)).setCell ⟨w.heap.size+2,2,N⟩ (I U q2)).setCell ⟨w.heap.size+2,3,N⟩ (MV q3)).setCell ⟨w.heap.size+2,4,N⟩ (Z qa ql qc)).setCell ⟨w.heap.size+2,5,N⟩ (Z ra rl rc)).setCell ⟨w.heap.size+2,6,N⟩ (Z sa sl sc)):=⟨_,rfl⟩;rw[<-hW];obtain⟨f1,f2,f3,f4,f5⟩:=g.o.done _ _ _ _ _ _ _ _ _ _ _ _ _ _ hW;have g2:a2.drew.heap[w.heap.size+1]?=_:=f2;have g3:a2.drew.heap[w.heap.size+2]?=_:=f3;refine av (v:=OW #[N1 #[I U m,I U 0,I U 0,MV p,Z ea bz ec,Z oa b5 oc,Z j l k],N1 #[I U q0,I U q1,I U q2,MV q3,Z qa ql qc,Z ra rl rc,Z sa sl sc],I U ((lO S (f.zip e)).length:Nat)]) ?_ rfl ?_;·exact Ox results172 _ _ (w.heap.size+1) (w.heap.size+2) _ _ rfl rfl (run_loadVar_row _ (w.heap.size+1) 67 67 _ _ _ g2 aK rfl aG) (run_loadVar_row _ (w.heap.size+2) 67 67 _ _ _ g3 aK rfl aG)
   ·refine⟨_,_,_,rfl,f1.drew,a5,?_,?_⟩;·have:=f4;rw[aw]at this;exact this
    ·have:=f5;rw[aw]at this;exact this
  ·obtain⟨x,hx⟩:∃x,e[a]?=O x:=⟨_,af (by have:=HL.o;omega)⟩;obtain⟨t,bi⟩:∃t,f[a]?=O t:=⟨_,af (by have:=HL.o;omega)⟩;have cs:∀x∈e,(cellsOf x).length=7:=λx hx=>by obtain⟨_,_,_,_,_,_,_,_,_,_,_,_,_,rfl⟩:=HF.o x hx;rfl
   have hI:=HI.o;rw[<-HL.o.1]at hI;obtain⟨B,c,bf,ds,c5,c9,r⟩:=Dp hI cs cO hx;rw[HL.o.1]at bf;cases bf;obtain⟨g2,c2,cw,cu⟩:=uL HK (show(f.map λad=>MV (ge ad))[a]?=O (MV (ge t))by rw[aY,bi];rfl);cases cw;obtain⟨s,F,J,K,C,E,D,L,P,M,y,A,z,q⟩:=HF.o x (cI hx);have bw:(f.zip e)[a]?=O (t,x):=by rw[eW];exact⟨bi,hx⟩
   have HZ:=H (sw S (f.zip e) a t x bw);have HH:=H (tf S (f.zip e) a t x bw);have V:∀{a3:L2} {u:GI},w.cell? a3=O u->wr.cell? a3=O u:=λ{a3 u} h=>by rw[g.o.below.cell (aC w a3 h)];exact h
   have dk:=V cu;have d4:=qZ g.b0;have X:B<w.heap.size:=aC w _ (r 0 _ (by rw[q];rfl));have e0:wr.cell? ⟨B,a*7,N⟩=O (I U s):=V (r 0 _ (by rw[q];rfl));have e1:=V (r 1 _ (by rw[q];rfl));have e2:=V (r 2 _ (by rw[q];rfl));have e3:=V (r 3 _ (by rw[q];rfl));have e4:=V (r 4 _ (by rw[q];rfl));have e5:=V (r 5 _ (by rw[q];rfl));have e6:=V (r 6 _ (by rw[q];rfl));have b8:L1 (w.cell? ⟨B,a*7,N⟩=O (I U s)):=r 0 _ (by rw[q];rfl);have b9:=H (r 1 _ (by rw[q];rfl));have ca:=H (r 2 _ (by rw[q];rfl));have cb:=H (r 3 _ (by rw[q];rfl));have cc:=H (r 4 _ (by rw[q];rfl));have cd:=H (r 5 _ (by rw[q];rfl));have ce:=H (r 6 _ (by rw[q];rfl));have dn:(a:Int)<(n:Int):=Y;have dp:(a:Int)<(nI:Int):=Y;subst q;have c4:(lO S ((f.zip e).take a)).length<=200001:=aA (List.length_filter_le _ _) pt;have dv:(gW S ((f.zip e).take a)).length<=a:=aA (List.length_filter_le _ _) pt;by_cases hk:ge t=S
   ·have a1:=H (HZ.t (by rw[ai hk,cF]));have al:=H (HH.t (by rw[ai hk]));have bm:((ge t).toList==S.toList)=PV:=by rw[hk];simp
    have y0:=mC g.b4;have eu:=jR 0 g.b4;have y1:=n5 g.b4;have ev:=jR 1 g.b4;have y2:=rZ g.b4;have ex:=jR 2 g.b4;have y3:=s_ g.b4;have ey:=jR 3 g.b4;have y4:=qZ g.b4;have e7:=jR 4 g.b4;have y5:=r_ g.b4;have e8:=jR 5 g.b4;have y6:=uy g.b4;have e9:=jR 6 g.b4;rw[hk]at dk;go_wp2;go_roundw
    case rel=>
     refine⟨a+1,W,kv,s,F,J,K,C,E,D,L,P,M,y,A,z,Y,?_,by first|rfl|(congr 1),?_,?_⟩;·rw[al.o,ak];rfl
     ·rw[a1.o];exact g.found _ _ _ _ _ _ _
     ·unfold Hid;rw[al.o];unfold sP;simp
    case measure=>simp[intOf];omega
   ·have a1:=H (HZ.t (by rw[ah hk]));have al:=H (HH.t (by rw[ah hk,cF]));have bm:((ge t).toList==S.toList)=P2:=by rw[Bool.eq_false_iff];intro R;rw[beq_iff_eq]at R;exact hk (e_ (by rw[de,de]at R;exact Array.toList_inj.1 R))
    have q5:=r_ g.b3;obtain⟨Q,b⟩:∃Q,ge t=Q:=⟨_,rfl⟩;rw[b]at dk bm;have cf:=H b;have dw:=ae g.b4;have cj:L1 ((gW S ((f.zip e).take (a+1))).map Prod.fst=(gW S ((f.zip e).take a)).map Prod.fst++[t]):=by unfold Hid;rw[a1.o,bK];rfl
    have ck:L1 ((gW S ((f.zip e).take (a+1))).map Prod.snd=(gW S ((f.zip e).take a)).map Prod.snd++[N1 #[I U s,I U F,I U J,MV K,Z C E D,Z L P M,Z y A z]]):=by unfold Hid;rw[a1.o,bK];rfl
    have dc:((gW S ((f.zip e).take a)).map Prod.fst).length<=n:=by rw[aw];omega
    have dl:((gW S ((f.zip e).take a)).map Prod.snd).length<=n:=by rw[aw];omega
    generalize (gW S ((f.zip e).take a)).map Prod.fst=zf at *;generalize (gW S ((f.zip e).take a)).map Prod.snd=zs at *;subst a9;generalize ct:G zf=ac at *;have a4:=H ct;have d1:(wr.alloc (Pp #[MV Q] 9)).cell? ⟨w.heap.size+3,5,N⟩=O (Z oa ac oc):=by rw[iI (g.o.alloc _).b3];rfl
    have cg:L1 (∀aa u,[MV Q][aa]?=O u->(wr.drew.alloc (Pp #[MV Q] 9)).cell? ((⟨wr.heap.size,0,N⟩:L2).add aa)=O u):=by intro aa u T;rw[pR,iI (show(wr.drew.alloc (Pp #[MV Q] 9)).heap[wr.heap.size]?=_ from bn wr.drew _)];simpa using T
    go_upto_region 10 with fail
    go_cut []from 19 to 59 (λwx=>∃(ao:Option L2) (a0:Nat),L1 (Pu w #[I U m,I U nn,I U pp,MV p,Z (O ⟨B,0,N⟩) nI ic,Z (O ⟨g2,0,N⟩) n kc,Z j l k] (I U m) (MV p) (Z j l k) wx W zs (Z ao (ac+1) a0) (zf++[t]) #[I U q0,I U q1,I U q2,MV q3,Z qa ql qc,Z ra rl rc,Z sa sl sc]))
    case first=>
     go_region_law (refine Dv rfl (.tmp 41) (.tmp 47) 38 rfl (w.heap.size+5) 9 j0 (MV {data:=#[]}) 1 16 fy gi co cp cr rfl cO _ (G zf) _ rfl (g.drew.alloc _).ownk ⟨wr.heap.size,0,N⟩ 1 1 [MV Q] rfl rfl ?hnews ?hone ?h63 ?hby ?hb ?_;(case hnews=>exact cg);(case hone=>intro u T;simp at T;subst T;rfl);(case h63=>unfold maxLen;rw[a4.o];omega);(case hby=>rw[a4.o];omega);(case hb=>simp;omega);intro v6 w6 b6 bc _;have i:=H ((g.drew.alloc (Pp #[MV Q] 9)).key (s:=t) (by rw[cf.o];exact b6) bc);have bq:w6.heap[w.heap.size+3]?=O (Pp #[I U m,I U 0,I U 0,MV p,W,Z oa ac oc,Z j l k] 67 (0,0)):=(by rw[bc.block _ (ae (g.o.drew.alloc (Pp #[MV Q] 9)).b3) (λR=>by have:=(g.o.ownk.lt _ R.s).1;omega)];exact(g.drew.alloc _).b3);have c6:w6.cell? ⟨w.heap.size+3,5,N⟩=O (Z oa ac oc):=(iI bq);have f6:w6.frozen? ⟨w.heap.size+3,5,N⟩=P2:=nG bq;obtain⟨ao,a0,br⟩:=jp b6;rw[a4.o]at br;subst br);all_goals (
      go_wp2
      go_meet
      case rel=>exact⟨_,_,i⟩)
    case rest=>
     obtain⟨ao,a0,i⟩:=hcut;have p0:wc.cell? ⟨B,a*7,N⟩=O (I U s):=by rw[i.o.below.cell X];exact b8
     have p1:wc.cell? ⟨B,a*7+1,N⟩=O (I U F):=by rw[i.o.below.cell X];exact b9
     have p2:wc.cell? ⟨B,a*7+2,N⟩=O (I U J):=by rw[i.o.below.cell X];exact ca
     have p3:wc.cell? ⟨B,a*7+3,N⟩=O (MV K):=by rw[i.o.below.cell X];exact cb
     have p4:wc.cell? ⟨B,a*7+4,N⟩=O (Z C E D):=by rw[i.o.below.cell X];exact cc
     have p5:wc.cell? ⟨B,a*7+5,N⟩=O (Z L P M):=by rw[i.o.below.cell X];exact cd
     have p6:wc.cell? ⟨B,a*7+6,N⟩=O (Z y A z):=by rw[i.o.below.cell X];exact ce
     have d4:=qZ i.b0;subst a8;generalize c1:G zs=zl at *;have a6:=H c1;have q4:=qZ i.b3;have d0:(wc.alloc (Pp #[I U s,I U F,I U J,MV K,Z C E D,Z L P M,Z y A z] 67)).cell? ⟨w.heap.size+3,4,N⟩=O (Z ea zl ec):=by rw[iI (i.o.alloc _).b3];rfl
     have h7:=ae i.b4;have ch:L1 (∀(aa:Nat) (u:GI),[I U s,I U F,I U J,MV K,Z C E D,Z L P M,Z y A z][aa]?=O u->(wc.drew.alloc (Pp #[I U s,I U F,I U J,MV K,Z C E D,Z L P M,Z y A z] 67)).cell? ((⟨wc.heap.size,0,N⟩:L2).add aa)=O u):=by intro aa u T;rw[pR,iI (show(wc.drew.alloc (Pp #[I U s,I U F,I U J,MV K,Z C E D,Z L P M,Z y A z] 67)).heap[wc.heap.size]?=_ from bn wc.drew _)];simpa using T
     go_upto_region 11 with fail
     go_region_law (refine Dv rfl (.tmp 51) (.tmp 57) 29 rfl (w.heap.size+5) 67 i0 _ 7 112 dx hi cx cy c0 rfl cO _ (G zs) _ rfl (i.drew.alloc _).own ⟨wc.heap.size,0,N⟩ 1 1 [I U s,I U F,I U J,MV K,Z C E D,Z L P M,Z y A z] rfl rfl ?hnews ?hone ?h63 ?hby ?hb ?_;(case hnews=>exact ch);(case hone=>intro u T;simp at T;rcases T with rfl|rfl|rfl|rfl|rfl|rfl|rfl<;>rfl);(case h63=>unfold maxLen;rw[a6.o];omega);(case hby=>rw[a6.o];omega);(case hb=>simp;omega);intro v8 w8 b7 bd _;have ci:=H ((i.drew.alloc (Pp #[I U s,I U F,I U J,MV K,Z C E D,Z L P M,Z y A z] 67)).item (x:=N1 #[I U s,I U F,I U J,MV K,Z C E D,Z L P M,Z y A z]) b7 bd);have bs:w8.heap[w.heap.size+3]?=O (Pp #[I U m,I U 0,I U 0,MV p,Z ea zl ec,Z ao (ac+1) a0,Z j l k] 67 (0,0)):=(by rw[bd.block _ (ae (i.o.drew.alloc (Pp #[I U s,I U F,I U J,MV K,Z C E D,Z L P M,Z y A z] 67)).b3) (λR=>by have:=(i.o.own.lt _ R.s).1;omega)];exact(i.drew.alloc _).b3);have c8:w8.cell? ⟨w.heap.size+3,4,N⟩=O (Z ea zl ec):=(iI bs);have f8:w8.frozen? ⟨w.heap.size+3,4,N⟩=P2:=nG bs;obtain⟨cl,cn,bt⟩:=jp b7;rw[a6.o]at bt;subst bt);all_goals (
      go_wp2;go_roundw
      case rel=>
       refine⟨a+1,Z cl (zl+1) cn,Z ao (ac+1) a0,q0,q1,q2,q3,qa,ql,qc,ra,rl,rc,sa,sl,sc,Y,by rw[al.o],by first|rfl|(congr 1),?_,?_⟩;rotate_left;·unfold Hid;rw[al.o];exact a5
       ·rw[cj.o,ck.o];exact ci
      case measure=>simp[intOf];omega)
def qn{q s:Type}{R:q->s->Prop}(c:ByteArray):∀(a:List (List Nat)) (f:List q) (g:List s),G f=G g->(∀(e:Nat) (i:q) (j:s),f[e]?=O i->g[e]?=O j->R i j) ->(gW c (a.zip f)).map Prod.fst=(gW c (a.zip g)).map Prod.fst/\(gW c (a.zip f)).length=(gW c (a.zip g)).length/\∀(e:Nat) (i:q) (j:s),((gW c (a.zip f)).map Prod.snd)[e]?=O i->((gW c (a.zip g)).map Prod.snd)[e]?=O j->R i j
 | [],f,g,_,_=>⟨rfl,rfl,λe i j h=>by simp[gW]at h⟩
 |k::a,[],[],_,_=>⟨rfl,rfl,λe i j h=>by simp[gW]at h⟩
 |k::a,[],j::g,h,_=>by cases h
 |k::a,i::f,[],h,_=>by cases h
 |k::a,i::f,j::g,h,t=>by
  have p:=qn (R:=R) c a f g oT (λe l b n o=>t (e+1) l b u0 (by simpa using o));have e1:∀{u:Type} (l:u) (r:List u),gW c ((k::a).zip (l::r))=if ge k=c then gW c (a.zip r)else(k,l)::gW c (a.zip r):=λl r=>by unfold gW;rw[List.zip_cons_cons,List.filter_cons];by_cases m:ge k=c<;>simp[m]
  rw[e1,e1];by_cases m:ge k=c;·rw[ai m,ai m];exact p
  ·rw[ah m,ah m];refine⟨by rw[bF,bF,p.1],by simp[p.2.1],λe l b n o=>?_⟩;cases e with
   |zero=>simp at n o;subst n;subst o;exact t 0 _ _ rfl rfl
   |succ e=>exact p.2.2 e l b u0 (by simpa using o)
def kR{α:Type}(S:ByteArray)(a:gk α):gk α:=⟨a.kind,0,0,a.text,(gW S (a.keys.zip a.items)).map Prod.snd,(gW S (a.keys.zip a.items)).map Prod.fst,a.filters⟩
def mU(b:Nat->Prop)(k:Nat)(w:Gr)(a:GI)(c:List (VT k)):Prop:=match c.getLast? with
 |none=>a=N1 gG
 |some e=>gF b k w a e
def IV:mi (N1 gG):=⟨0,0,0,{data:=#[]},N,0,0,N,0,0,N,0,0,rfl⟩
def mU.form{b:Nat->Prop}{k:Nat}{a:GI}{c:List (VT k)}(h:mU b k w a c):mi a:=by
 unfold mU at h;split at h;·rw[h];exact IV
 ·exact gF.form h
def mU.imp{b c:Nat->Prop}{k:Nat}{a:GI}{e:List (VT k)}(h:mU b k w a e)(g:∀f,gF b k w a f->gF c k d a f):mU c k d a e:=by
 unfold mU at h ⊢;split at h;·exact h
 ·exact g _ h
def mU.one{c:Nat->Prop}{k:Nat}{f g:Int}{j l m n o:GI}{e:List (VT k)}{b:VT k}(h:mU c k w (N1 #[I U f,I U g,j,l,m,n,o]) e)(i:e=[b]):f=kO b/\g=pC b:=by subst i;obtain⟨z,s,u,t,v,y,x,p,r,q,a⟩:=gF.form2 (show gF c k w _ b from h);injection a with a;injection a with a;injection a with e0 a;injection a with e1 a;injection e0 with _ e0;injection e1 with _ e1;exact⟨e0,e1⟩
def rV{i:Nat->Prop}{k:Nat}{F:GI}{a:gk (VT k)}(S:ByteArray)(h:gF i (k+1) w F a)(V:a.keys.length<=a.items.length)(M:a.keys.length<=200001):K8 Qe 172 #[F,MV S] w λv d=>∃J o,v=Ps (OW #[J,o,I U ((gV S a.keys a.items).length:Nat)])/\LT w.heap.size w d /\
   gF (λc=>i c\/w.heap.size<=c) (k+1) d J (kR S a)/\mU i k d o (gV S a.keys a.items):=by
 obtain⟨iv,kv,T,f,rfl,D,z,p,A,hF⟩:=h.parts;obtain⟨X,ic,rfl⟩:=jp z.1;obtain⟨ka,kc,rfl⟩:=jp A.1;obtain⟨x,y,rfl⟩:=jp hF.1;refine(JY (S:=S) (nI:=G f) (n:=a.keys.length) z.1 A.1 rfl rfl Y M (λe j=>?_)).m ?_
 ·obtain⟨m,l,K⟩:=cK j;have h1:f[m]?=O e:=by rw[af l,K]
  exact gF.form (p m e _ h1 (af Y))
 ·rintro v d ⟨E,t,o,rfl,q,rfl,l,B⟩;have r:=qn (R:=λe g=>gF i k w e g) S a.keys f a.items D p;have u:=oJ (R:=λe g=>gF i k w e g) S a.keys f a.items D p;have C:∀{e:GI} {g:VT k},gF i k w e g->gF i k d e g:=λj=>gF.keep k j (λc _ h2=>q.block c h2);refine⟨nV (kR S a) E t (Z x a.filters.length y),sP (lO S (a.keys.zip f)),?_,q,?_,?_⟩;rotate_left
  ·refine⟨E,t,Z x _ y,(gW S (a.keys.zip f)).map Prod.snd,rfl,?_,?_,λm e g j P=>?_,?_,?_⟩
   ·show _=((gW S (a.keys.zip a.items)).map Prod.snd).length;rw[aw,aw,r.2.1]
   ·refine jz.of (by rw[aw];exact l) (λc b=>P4 ?_);have:=(l.lt c b).1;omega
   ·exact gF.m k (C (r.2.2 m e g j P)) (λc b _=>P3 b)
   ·show jz _ d 9 1 t ((gW S (a.keys.zip a.items)).map Prod.fst).length (((gW S (a.keys.zip a.items)).map Prod.fst).map λQ=>MV (ge Q));rw[<-r.1,aw];refine jz.of B (λc b=>P4 ?_);have:=(B.lt c b).1;omega
   ·exact(hF.keep (λc _ h2=>q.block c h2)).m (λc b _=>P3 b)
  ·have L:sP (lO S (a.keys.zip f))=((gV S a.keys f).getLast?).getD (N1 gG):=rfl;rw[L];unfold mU;have s:=u.1;cases b:(gV S a.keys a.items).getLast? with
   |none=>rw[List.getLast?_eq_none_iff]at b;rw[b]at s;have:=bM.1 s;rw[this];rfl
   |some g=>rw[List.getLast?_eq_getElem?]at b;have W:=(cH.1 b).1;rw[List.getLast?_eq_getElem?,af Y];exact C (u.2 _ _ g (af Y) (by rw[s];exact b))
  ·have:(lO S (a.keys.zip f)).length=(gV S a.keys a.items).length:=by rw[<-u.1];show _=((lO S (a.keys.zip f)).map Prod.snd).length;rw[aw]
   rw[this];rfl
def rG{b:Nat}{k:GI}(S:ByteArray)(h:GV b w k):K8 Qe 172 #[k,MV S] w λe d=>∃(l a:GI) (c:Nat),e=Ps (OW #[l,a,I U (c:Nat)])/\LT w.heap.size w d/\mi l/\mi a:=by
 obtain⟨Q,n,V,t,F,R,z,m,j,rfl,g,f,i,⟨s,A⟩,v,y,x,rfl⟩:=h;obtain⟨B,D,rfl⟩:=jp g.1;obtain⟨K,M,rfl⟩:=jp i.1;apply(JY (S:=S) (nI:=G m) (n:=G j) g.1 i.1 rfl rfl s Y f).m;rintro e d ⟨J,T,a,rfl,o,rfl,q,r⟩;obtain⟨C,E,rfl⟩:=jp q;obtain⟨L,P,rfl⟩:=jp r;refine⟨_,_,_,rfl,o,⟨_,_,_,_,_,_,_,_,_,_,_,_,_,rfl⟩,?_⟩;unfold sP;cases p:((lO S (j.zip m)).map Prod.snd).getLast? with
 |none=>exact IV
 |some W=>have h1:=List.mem_of_getLast? p;obtain⟨⟨u,c⟩,h2,rfl⟩:=cT.1 h1;exact f _ (fq (List.mem_filter.1 h2).1).2
def KV(b:Nat)(k:Nat)(w:Gr)(c:GI)(f:Option (VT (k+1))):Prop:=match f with
 |none=>GV b w c
 |some a=>gF (λe=>b<=e) (k+1) w c a/\(gk.keys (α:=VT k) a).length<=(gk.items (α:=VT k) a).length/\(gk.keys (α:=VT k) a).length<=200001
def KV.below{b k:Nat}{v:GI}{c:Option (VT (k+1))}(h:KV b k w v c)(e:LT w.heap.size w d):KV b k d v c:=by
 cases c with
 |none=>exact GV.keep h (λa _ h2=>e.block a h2)
 |some f=>exact⟨gF.keep _ h.1 (λa _ h2=>e.block a h2),h.2⟩
def rA{b k:Nat}{n:GI}{m:Option (VT (k+1))}(g:ByteArray)(h:KV b k w n m):K8 Qe 172 #[n,MV g] w λj d=>∃(f e:GI) (c:Nat),j=Ps (OW #[f,e,I U (c:Nat)])/\LT w.heap.size w d/\mi f/\mi e /\
   ∀a:gk (VT k),m=O a->c=(gV g a.keys a.items).length/\mU (λo=>b<=o) k d e (gV g a.keys a.items):=by
 cases m with
 |none=>exact(rG g h).m λj d ⟨f,e,c,h1,h2,h3,i⟩=>⟨f,e,c,h1,h2,h3,i,λa l=>by cases l⟩
 |some a=>refine(rV g h.1 h.2.1 h.2.2).m λj d ⟨f,e,h1,h2,h3,i⟩=>⟨f,e,_,h1,h2,gF.form h3,i.form,λp l=>?_⟩;cases l;exact⟨rfl,i⟩
end
section
variable{d:Nat}{S:ByteArray}{w g:Gr}{p:Nat}{s t:Option (List Nat)}
def kL:ByteArray:={data:=#[76,101,110,103,116,104]}
def kF:ByteArray:={data:=#[70,105,108,116,101,114]}
def uW{b c:Type}:∀a:List (b×c),(a.map Prod.fst).zip (a.map Prod.snd)=a
 | []=>rfl
 |e::a=>by rw[bF,bF,List.zip_cons_cons,uW a]
def wL:kL≠kF:=by decide
def zA{c:Type}(b:List (List Nat×c)):h_ b=gW kF (gW kL b):=by unfold h_ gW;rw[List.filter_filter];congr 1;funext a;show(!(decide (ge a.1=kL)||decide (ge a.1=kF)))=_;cases decide (ge a.1=kL)<;>cases decide (ge a.1=kF)<;>rfl
def Ac{e:Type}(c:List (List Nat×e)):kD kF (gW kL c)=kD kF c:=by
 unfold kD gW;rw[List.filter_filter];congr 1;congr 1;funext b;by_cases h:ge b.1=kF
 ·have:¬ge b.1=kL:=by rw[h];exact λa=>wL a.s
  simp[h];exact λa=>wL a.s
 ·simp[h]
def kH{α:Type}(a:gk α):gk α:=kR kF (kR kL a)
def rK{b:Type}(a:gk b):gV kF (kR kL a).keys (kR kL a).items=gV kF a.keys a.items:=by unfold gV kR;rw[uW,Ac]
def pX{b:Type}(a:gk b):(kH a).items=(h_ (a.keys.zip a.items)).map Prod.snd/\(kH a).keys=(h_ (a.keys.zip a.items)).map Prod.fst/\(kH a).filters=a.filters:=by unfold kH kR;simp only[];rw[uW,zA];exact⟨rfl,rfl,trivial⟩
def qV{k:Nat}(c:gk (VT k)):ii c=match gV kF c.keys c.items with
  | []=>O []
  | [a]=>kC (kq a)
  |_=>N:=by
 unfold ii jK;show(match(match gV kF c.keys c.items with|[]=>O []|[a]=>if kO a=4 then O [kt a]else if kO a=6 then O (iK a)else N|_=>N)with|none=>N|some i=>kC i)=_;match gV kF c.keys c.items with
 | []=>rfl
 | [a]=>
  simp only[kq];by_cases f:kO a=4;·rw[ai f,ah Y]
  ·rw[ah f];by_cases e:kO a=6;·rw[ai e,ai e]
   ·rw[ah e,ah e];simp only[kC];rw[ah (λh=>f h.1)]
 |j::b::i=>rfl
def pu(a:Int)(t:Option (List Nat)):Option (List Nat×List Nat):=((cS [13] t).bind (f_ [10])).bind λb=>if a<=(G b:Int)then(f_ [10,101,110,100,115,116,114,101,97,109] (b.drop a.toNat)).bind λc=>if pS (O c)=PV then N else O (b.take a.toNat,c)else N
def Ln(r:List Nat):(cS [13] (O r)).bind (f_ [10])=(f_ [10] r).or (f_ [13,10] r):=by
 unfold cS;match r with
 | []=>rfl
 | [b]=>
  simp only[Option.bind_some,uR];by_cases h:b=13;·subst h;rfl
  ·by_cases h2:b=10;·subst h2;rfl
   ·rw[ah h,ah h2];simp only[Option.bind_some,uR,ah h2];unfold f_;simp[List.isPrefixOf]
 |b::c::r=>
  have e:f_ [13,10] (b::c::r)=if b=13/\c=10 then O r else N:=by
   unfold f_;by_cases h1:b=13
   ·by_cases h2:c=10;·subst h1 h2;simp
    ·simp[List.isPrefixOf,h1,h2];exact λa=>h2 a.s
   ·simp[List.isPrefixOf,h1];exact λa=>absurd a.s h1
  simp only[Option.bind_some,uR,e];by_cases h:b=13
  ·subst h;by_cases h2:c=10;·subst h2;simp[uR]
   ·simp[h2,uR]
  ·by_cases h2:b=10;·subst h2;simp[uR]
   ·simp[h,h2,uR]
def takes_app{a b r:List Nat}:f_ (a++b) r=(f_ a r).bind (f_ b):=by
 unfold f_;induction a generalizing r with
 |nil=>simp
 |cons e a c=>
  cases r with
  |nil=>simp
  |cons f r=>
   by_cases h:e=f
   ·subst h;have:=@c r;simp only[cP,List.isPrefixOf_cons_cons,beq_self_eq_true,bX,aj,List.drop_succ_cons]at this ⊢;exact this
   ·simp[List.isPrefixOf,h]
def Ko{E:List Nat}(l:∀c∈E,pB c=PV):∀(a:List Nat) (t:List Nat),(∀c∈a,pB c=PV)->((f_ a t).bind λk=>if pS (O k)=PV then N else O k)=if t.takeWhile pB=a then O (t.dropWhile pB)else N
 | [],t,_=>by
  show(if pS (O t)=PV then N else O t)=_;cases t with
  |nil=>rfl
  |cons b t=>
   show(if pB b=PV then N else O (b::t))=_;by_cases h:pB b=PV;·rw[ai h,cL,ai h,ah eA]
   ·rw[ah h,cL,ah h,ai rfl,bP,ah h]
 |c::a,[],h=>by show(N:Option (List Nat))=_;rw[ah eA]
 |c::a,b::t,h=>by
  have n:=Ko l a t (λo m=>h o (dU _ m));have j:=h c (ef ..);rw[show c::a=[c]++a from rfl,takes_app,uR];by_cases i:b=c
  ·subst i;rw[ai rfl,Option.bind_some,n,cL,ai j,bP,ai j];by_cases f:t.takeWhile pB=a;·rw[ai f,ai (by rw[f];rfl)]
   ·rw[ah f,ah (λe=>f (by injection e))]
  ·rw[ah i,Option.bind_none,Option.bind_none,ah];rw[cL];split;·intro e;injection e with e1;exact i e1
   ·intro e;cases e
def si{k:Nat}(a:gk (VT k))(r:List Nat)(b:VT k)(u:gV kL a.keys a.items=[b])(h2:kO b=2)(n:0<=pC b):ju a r=(pu (pC b) (O r)).bind λi=>(jg a).map λm=>((m,i.1),i.2):=by
 unfold ju pu;rw[Ln];cases(f_ [10] r).or (f_ [13,10] r)with
 |none=>rfl
 |some l=>
  have o:itemOf {data:=#[76,101,110,103,116,104]} 2 a=O b:=by unfold itemOf;rw[show gV {data:=#[76,101,110,103,116,104]} a.keys a.items=[b]from u];simp only[];rw[ai h2]
  simp only[o,Option.bind_some];by_cases c:pC b<=(G l:Int)
  ·rw[ai ⟨n,c⟩,ai c,show([10,101,110,100,115,116,114,101,97,109]:List Nat)=[10]++[101,110,100,115,116,114,101,97,109]from rfl,takes_app];cases f_ [10] (l.drop (pC b).toNat)with
   |none=>rfl
   |some t=>
    simp only[Option.bind_some];have:=Ko (E:=[]) (λi q=>by cases q) [101,110,100,115,116,114,101,97,109] t cO;by_cases j:t.takeWhile pB=[101,110,100,115,116,114,101,97,109]
    ·rw[ai j]at this ⊢;cases e:f_ [101,110,100,115,116,114,101,97,109] t with
     |none=>rw[e]at this;cases this
     |some v=>
      rw[e]at this;simp only[Option.bind_some]at this ⊢;split at this;·cases this
      ·next f=>rw[ah f];simp only[Option.some.injEq]at this;rw[<-this];simp only[Option.bind_some];cases jg a<;>rfl
    ·rw[ah j]at this ⊢;cases e:f_ [101,110,100,115,116,114,101,97,109] t with
     |none=>rfl
     |some v=>
      rw[e]at this;simp only[Option.bind_some]at this ⊢;split at this;·next f=>rw[ai f];rfl
      ·cases this
  ·rw[ah (λh=>c h.2),ah c];rfl
def GS{k:Nat}(c:gk (VT k))(r:List Nat)(h:∀b,gV kL c.keys c.items=[b]->kO b=2->0<=pC b->False):ju c r=N:=by
 unfold ju;cases(f_ [10] r).or (f_ [13,10] r)with
 |none=>rfl
 |some j=>
  simp only[];cases a:itemOf {data:=#[76,101,110,103,116,104]} 2 c with
  |none=>rfl
  |some b=>
   simp only[];rw[ah];intro e;unfold itemOf at a;split at a
   ·next l i=>
    split at a;·next f=>cases a;exact h b i f e.1
    ·cases a
   ·cases a
def Bk(a:List Nat)(s:Option (List Nat)):(if kJ s=a then mJ s else N)=s.bind (gg a):=by
 cases s with
 |none=>show(if _ then N else N)=N;split<;>rfl
 |some r=>rfl
def Mp(s:Option (List Nat)):(if l7 s=PV then lK s else N)=s.bind gJ:=by
 cases s with
 |none=>rfl
 |some r=>unfold l7 lK;simp only[Option.bind_some,aZ];cases gJ r<;>rfl
def tS(c b:Nat)(s:Option (List Nat)):Option Int:=s.bind λr=>(lG c r).bind λa=>(lJ b a.2).map λ_=>a.1
def t_(a:Nat)(t:Option (List Nat)):Option (List Nat):=(lK (((((t.bind (gg [115,116,97,114,116,120,114,101,102])).bind (gg (gE a))).bind gJ).bind (f_ [37,37,69,79,70])))).bind λb=>if b=[]then O []else N
def IJ(a:Nat)(b:List Nat):t_ a (O b)=lJ a b:=by
 unfold t_ lJ lK;simp only[Option.bind_some];cases gg [115,116,97,114,116,120,114,101,102] b with
 |none=>rfl
 |some c=>
  simp only[Option.bind_some];cases gg (gE a) c with
  |none=>rfl
  |some e=>
   simp only[Option.bind_some];cases gJ e with
   |none=>rfl
   |some f=>
    simp only[Option.bind_some];cases f_ [37,37,69,79,70] f with
    |none=>rfl
    |some h=>rfl
def PE(b c:Nat)(s:Option (List Nat)):tS b c s=(nL 11 (((s.bind (gg [116,114,97,105,108,101,114])).map f9).bind (f_ [60,60]))).bind λa=>(lh b (show gk (VT 11)from a.1)).bind λe=>(lJ c a.2).map λ_=>e:=by
 unfold tS;cases s with
 |none=>rfl
 |some r=>
  simp only[Option.bind_some];unfold lG;cases gg [116,114,97,105,108,101,114] r with
  |none=>rfl
  |some f=>
   simp only[aZ,Option.bind_some];cases f_ [60,60] (f9 f)with
   |none=>rfl
   |some t=>
    simp only[nL,Option.bind_some];cases js (gj 11) (G t+1) t with
    |none=>rfl
    |some a=>
     simp only[aZ,Option.bind_some];cases lh b ⟨7,0,0,[],a.1.2,a.1.1,[]⟩with
     |none=>rfl
     |some e=>rfl
def PC{z A:Nat->Prop}{V:gk (VT 11)}{J K:Gr}{n o q m:Nat}{r u v x:Int}{L M P Q R T W X y5 y6:GI}(a:o=(gV {data:=#[83,105,122,101]} V.keys V.items).length)(k:mU z 11 J (N1 #[I U r,I U u,L,M,P,Q,R]) (gV {data:=#[83,105,122,101]} V.keys V.items))
  (c:q=(gV {data:=#[82,111,111,116]} V.keys V.items).length) (l:mU A 11 K (N1 #[I U v,I U x,T,W,X,y5,y6]) (gV {data:=#[82,111,111,116]} V.keys V.items)) (E:m=V.keys.length):lh n V=if o=1/\q=1/\m=2/\r=2/\u=((n+1:Nat):Int)/\v=9 then O x else N:=by
 unfold lh itemOf;rw[<-E];by_cases e:m=2
 ·rw[ai e];match hp:gV {data:=#[83,105,122,101]} V.keys V.items,a,k with
  | [],a,_=>rw[ah (by simp at a;omega)]
  |B::b::F,a,_=>rw[ah (by simp at a;omega)]
  | [y],a,k=>
   obtain⟨e0,e1⟩:=k.one rfl;simp only[];by_cases i:kO y=2
   ·rw[ai i];simp only[];by_cases f:pC y=((n+1:Nat):Int)
    ·rw[ai f];match hq:gV {data:=#[82,111,111,116]} V.keys V.items,c,l with
     | [],c,_=>rw[ah (by simp at c;omega)];rfl
     |B::b::F,c,_=>rw[ah (by simp at c;omega)];rfl
     | [aa],c,l=>
      obtain⟨C,D⟩:=l.one rfl;simp only[];by_cases j:kO aa=9;·rw[ai j,ai ⟨a,c,e,by rw[e0,i];rfl,by rw[e1,f],by rw[C,j];rfl⟩,D];rfl
      ·rw[ah j,ah (λh=>j (by have:=h.2.2.2.2.2;omega))];rfl
    ·rw[ah f,ah (λh=>f (by rw[<-e1];exact h.2.2.2.2.1))]
   ·rw[ah i,ah (λh=>i (by have:=h.2.2.2.1;omega))]
 ·rw[ah e,ah (λh=>e h.2.2.1)]
def BZ(d:Nat)(S:ByteArray)(a:Option Int)(w:Gr)(c:MB)(g:Gr):Prop:=∃(b:Int) (t:Option (List Nat)),c=Ps (I U b)/\jP d S w g t/\((t=N/\a=N)\/(t=O []/\a=O b))
def MX(h:Sn d S w p s)(j i:Nat)(hn:j<=200000)(ha:i<=200000):K8 Qe 126 #[M2 (O ⟨d,0,N⟩),I U (j:Nat),I U (i:Nat)] w (BZ d S (tS j i s) w):=by
 have f2:=h.lt;have H1:=H (Bo h {data:=#[116,114,97,105,108,101,114]} cO);rw[show bl {data:=#[116,114,97,105,108,101,114]}=[116,114,97,105,108,101,114]from rfl,Bk]at H1;obtain⟨a7,e⟩:∃a7,tS j i s=a7:=⟨_,rfl⟩;rw[e];rw[PE]at e;generalize s.bind (gg [116,114,97,105,108,101,114])=s1 at *;have HR:=H e;clear h e
 go_in
 go_wp2_with fail;apply H1.o.m;rintro b w1 ⟨rfl,⟨p1,h1⟩,o1⟩;have O1:=H o1;have H2:=H (uF h1);clear h1 o1 H1;go_wp2_with fail;apply H2.o.m;rintro b w2 ⟨rfl,⟨p2,h2⟩,o2⟩;have O2:=H (O1.t o2);have H3:=H (xP h2 {data:=#[60,60]} cO);rw[show bl {data:=#[60,60]}=[60,60]from rfl]at H3;clear h2 o2 H2 O1;go_wp2_with fail;apply H3.o.m;rintro b w3 ⟨rfl,⟨p3,h3⟩,o3⟩;have O3:=H (O2.t o3);generalize (s1.map f9).bind (f_ [60,60])=Q at *;have H4:=H (Jl (k:=11) (ag _) (FM 11 Y) h3);have cn:L1 (∀c a,nL 11 Q=O (c,a)->(gk.keys (α:=VT 11) c).length=(gk.items (α:=VT 11) c).length/\(gk.keys (α:=VT 11) c).length<=200001):=λc a b=>by
  cases Q with
  |none=>cases b
  |some r=>simp only[nL,Option.bind_some,Option.map_eq_some_iff]at b;obtain⟨b9,e1,e2⟩:=b;cases e2;have:=mW (f:=gj 11) (λr gf a h=>iQ h) _ _ _ _ e1;have h5:=h3.len;have h6:=h3.ls;exact⟨this.1,by show b9.1.1.length<=_;omega⟩
 clear h3 o3 H3 O2;go_wp2_with fail;apply H4.o.m;intro b M c8;obtain⟨n0,n1,n2,W,ja,jl,jc,ka,q,kc,fa,fl,fc,t4,rfl,⟨⟨p4,h4⟩,o4⟩,bb⟩:=mV.any c8;have bo:=H (O3.t o4);have bm:L1 (KV w3.heap.size 11 M (N1 #[I U n0,I U n1,I U n2,MV W,Z ja jl jc,Z ka q kc,Z fa fl fc]) ((nL 11 Q).map Prod.fst)):=by
  rcases bb with⟨h1,h2,h3⟩|⟨c,a,h1,h2,h3⟩;·rw[h1];exact h3
  ·have:=cn.o c a h1;rw[h1];exact⟨h3,Nat.le_of_eq this.1,this.2⟩
 have cv:L1 (t4=(nL 11 Q).map Prod.snd):=by
  rcases bb with⟨h1,h2,h3⟩|⟨c,a,h1,h2,h3⟩;·rw[h1];exact h2
  ·rw[h1];exact h2
 have ck:L1 (∀c a,nL 11 Q=O (c,a)->q=(gk.keys (α:=VT 11) c).length):=λc a b=>by
  rcases bb with⟨h1,h2,h3⟩|⟨V',q',h1,h2,h3⟩;·rw[h1]at b;cases b
  ·rw[h1]at b;cases b;obtain⟨iv,kv,fv,vs,e1,_,_,_,hK,_⟩:=gF.parts (V:=c) h3;obtain⟨f4,f5,rfl⟩:=jp hK.1;simp[nV]at e1;exact e1.2.2.2.2.2.1.2.1
 have bW:LT M.heap.size M (M.alloc (Pp #[I U n0,I U n1,I U n2,MV W,Z ja jl jc,Z ka q kc,Z fa fl fc] 67)):=(aq _ _).alloc (ag _) _;have H5:=H (rA {data:=#[83,105,122,101]} (bm.below bW));have ct:=H h4;have ci:=H bW;have br:L1 ((M.alloc (Pp #[I U n0,I U n1,I U n2,MV W,Z ja jl jc,Z ka q kc,Z fa fl fc] 67)).heap[M.heap.size]?=O (Pp #[I U n0,I U n1,I U n2,MV W,Z ja jl jc,Z ka q kc,Z fa fl fc] 67 (0,0))):=bn _ _;clear h4 o4 c8 bb H4 bW O3;go_wp2_with fail;apply H5.o.m;rintro b R ⟨v5,fz,X,rfl,b5,ex,ev,hg5⟩;obtain⟨a0,a1,a2,a3,aa,al,ac,ba,c4,bc,ca,cl,cc,rfl⟩:=ex;obtain⟨B,C,k2,k3,da,dl,dc,ea,el,ec,ga,gl,gc,rfl⟩:=ev;have cj:=H hg5;have a5:=H (ci.t (b5.m eA));have bs:L1 (R.heap[M.heap.size]?=O (Pp #[I U n0,I U n1,I U n2,MV W,Z ja jl jc,Z ka q kc,Z fa fl fc] 67 (0,0))):=by unfold Hid;rw[b5.block _ (ae br.o)];exact br
 clear b5 hg5 H5 br ci;obtain⟨P,a8⟩:∃P,(R.alloc (Pp #[I U a0,I U a1,I U a2,MV a3,Z aa al ac,Z ba c4 bc,Z ca cl cc] 67)).alloc (Pp #[I U B,I U C,I U k2,MV k3,Z da dl dc,Z ea el ec,Z ga gl gc] 67)=P:=⟨_,rfl⟩;have u:LT R.heap.size R P:=by rw[<-a8];exact((aq _ _).alloc (ag _) _).alloc eA _
 have cb:=(u.block _ (ae bs)).t bs;have db:P.heap[R.heap.size+1]?=O (Pp #[I U B,I U C,I U k2,MV k3,Z da dl dc,Z ea el ec,Z ga gl gc] 67 (0,0)):=by rw[<-a8];have:=bn (R.alloc (Pp #[I U a0,I U a1,I U a2,MV a3,Z aa al ac,Z ba c4 bc,Z ca cl cc] 67)) (Pp #[I U B,I U C,I U k2,MV k3,Z da dl dc,Z ea el ec,Z ga gl gc] 67);rw[aL]at this;exact this
 have H6:=H (rA {data:=#[82,111,111,116]} ((bm.below a5).below u));obtain⟨d0,d1,d2,d3,d4,d5,d6⟩:=qu cb;have cx:=H a8;have bt:=H cb;have bw:=H db;have a6:=H (a5.t (u.m (by have:=a5.o.size;omega)));clear a8 cb db u bs
 go_upto_region 6 with fail
 rw[cx.o];go_wp2_with fail;apply H6.o.m;rintro b D ⟨v6,f0,c6,rfl,u,e3,ey,c7⟩;obtain⟨b0,b1,b2,b3,ha,hl,F,ia,il,ic,la,ll,lc,rfl⟩:=e3;obtain⟨y,z,r2,r3,ma,ml,mc,oa,ol,oc,pa,pl,pc,rfl⟩:=ey;obtain⟨x,a9⟩:∃x,(D.alloc (Pp #[I U b0,I U b1,I U b2,MV b3,Z ha hl F,Z ia il ic,Z la ll lc] 67)).alloc (Pp #[I U y,I U z,I U r2,MV r3,Z ma ml mc,Z oa ol oc,Z pa pl pc] 67)=x:=⟨_,rfl⟩;have b7:LT P.heap.size P x:=by rw[<-a9];exact(u.alloc u.size _).alloc (by simp;have:=u.size;omega) _
 have dk:=(b7.block _ (ae bt)).t bt;have cd:=(b7.block _ (ae bw)).t bw;have ce:x.heap[D.heap.size+1]?=O (Pp #[I U y,I U z,I U r2,MV r3,Z ma ml mc,Z oa ol oc,Z pa pl pc] 67 (0,0)):=by rw[<-a9];have:=bn (D.alloc (Pp #[I U b0,I U b1,I U b2,MV b3,Z ha hl F,Z ia il ic,Z la ll lc] 67)) (Pp #[I U y,I U z,I U r2,MV r3,Z ma ml mc,Z oa ol oc,Z pa pl pc] 67);rw[aL]at this;exact this
 have g5:=r_ dk;have g0:=mC cd;have g1:=n5 cd;have g9:=mC ce;have c3:=H ce;have d7:=H a9;have bi:=H (a6.t (b7.m (by have:=a6.o.size;omega)));have cu:=H (ct.o.other bi);have cp:=H (bo.t (.of_below bi));have co:L1 (D.heap.size+1≠d):=by have h1:=bo.o.size;have h2:=a6.o.size;have h3:=u.size;unfold Hid;omega
 obtain⟨l,A⟩:∃l,(!decide (X=1/\c6=1/\q=2/\B=2/\C=((j+1:Nat):Int)/\y=9))=l:=⟨_,rfl⟩;have dw:L1 ((∃v,(if l=PV then N else t4)=v/\((t_ i v=N/\a7=N)\/(t_ i v=O []/\a7=O z)))):=by
  refine⟨_,rfl,?_⟩;have e:=HR.o;cases J:nL 11 Q with
  |none=>
   rw[J]at e;have h1:t4=N:=by rw[cv.o,J];rfl
   left;rw[h1];exact⟨by cases l<;>rfl,e.s⟩
  |some b9=>
   obtain⟨c,a⟩:=b9;rw[J]at e;have h1:t4=O a:=by rw[cv.o,J];rfl
   have e5:=cj.o c (by rw[J];rfl);have e6:=c7 c (by rw[J];rfl);have e9:=PC (n:=j) (V:=c) e5.1 e5.2 e6.1 e6.2 (ck c a J);simp only[Option.bind_some]at e;rw[show lh j (show gk (VT 11)from c)=_ from e9]at e;rw[<-A];by_cases F:X=1/\c6=1/\q=2/\B=2/\C=((j+1:Nat):Int)/\y=9
   ·rw[ai F]at e;rw[aB F,h1];simp only[Option.bind_some]at e;show(t_ i (O a)=N/\_)\/(t_ i (O a)=O []/\_);rw[IJ];cases n:lJ i a with
    |none=>rw[n]at e;exact P3 ⟨rfl,e.s⟩
    |some gs=>
     rw[n]at e;refine P4 ⟨?_,e.s⟩;rw[<-IJ]at n;unfold t_ at n;cases hz:lK (((((O a).bind (gg [115,116,97,114,116,120,114,101,102])).bind (gg (gE i))).bind gJ).bind (f_ [37,37,69,79,70]))with
     |none=>rw[hz]at n;cases n
     |some z2=>
      rw[hz]at n;simp only[Option.bind_some]at n;split at n;·rw[<-n]
      ·cases n
   ·rw[ah F]at e;rw[ar F];exact P3 ⟨rfl,e.s⟩
 clear c7 u b7 dk cd ce a9 d0 d1 d2 d3 d4 d5 d6 H6 cj bm ck cn HR cx bt bw a5 a6 bi bo ct
 go_upto_region 7 with fail
 rw[d7.o];have f3:IntKind.i64.wrap ((j:Int)+1)=(j:Int)+1:=by rw[aU];omega
 go_cut [63]from 15 (λbv wx=>bv=OV l/\wx=x)
 case first=>
  by_cases q0:X=1
  ·have m0:((X:Int) != 1)=P2:=eB;by_cases q1:c6=1
   ·have m1:((c6:Int) != 1)=P2:=eB;by_cases q2:q=2
    ·have m2:((q:Int) != 2)=P2:=eB;by_cases q3:B=2
     ·have m3:(B != 2)=P2:=eB;by_cases q4:C=((j+1:Nat):Int)
      ·have m4:(C != (j:Int)+1)=P2:=eB;by_cases q5:y=9
       ·have m5:(y != 9)=P2:=eB;have m:L1 (l=P2):=by rw[<-A,aB ⟨q0,q1,q2,q3,q4,q5⟩];rfl
        go_wp2
        go_meet
        case rel=>exact⟨by rw[m.o],rfl⟩
       ·have m5:(y != 9)=PV:=eB;have m:L1 (l=PV):=by rw[<-A,ar (λh=>q5 h.2.2.2.2.2)];rfl
        go_wp2
        go_meet
        case rel=>exact⟨by rw[m.o],rfl⟩
      ·have m4:(C != (j:Int)+1)=PV:=eB;have m:L1 (l=PV):=by rw[<-A,ar (λh=>q4 h.2.2.2.2.1)];rfl
       go_wp2
       go_meet
       case rel=>exact⟨by rw[m.o],rfl⟩
     ·have m3:(B != 2)=PV:=eB;have m:L1 (l=PV):=by rw[<-A,ar (λh=>q3 h.2.2.2.1)];rfl
      go_wp2
      go_meet
      case rel=>exact⟨by rw[m.o],rfl⟩
    ·have m2:((q:Int) != 2)=PV:=eB;have m:L1 (l=PV):=by rw[<-A,ar (λh=>q2 h.2.2.1)];rfl
     go_wp2
     go_meet
     case rel=>exact⟨by rw[m.o],rfl⟩
   ·have m1:((c6:Int) != 1)=PV:=eB;have m:L1 (l=PV):=by rw[<-A,ar (λh=>q1 h.2.1)];rfl
    go_wp2
    go_meet
    case rel=>exact⟨by rw[m.o],rfl⟩
  ·have m0:((X:Int) != 1)=PV:=eB;have m:L1 (l=PV):=by rw[<-A,ar (λh=>q0 h.1)];rfl
   go_wp2
   go_meet
   case rel=>exact⟨by rw[m.o],rfl⟩
 case rest=>
 obtain⟨rfl,b4⟩:=hcut;have b4:=b4.s;subst b4;obtain⟨v,e7,eu⟩:=dw.o;have cw:=H e7;have T:=H eu
 go_upto_if 63 with fail
 go_cut []from 15 (λwx=>L1 (jP d S x wx v))
 case first=>
  cases l with
  |true=>
   have HE:L1 (v=N):=cw.o.s;have V:=H (qW cu);go_wp2_with fail;apply V.o.m;rintro b w8 ⟨rfl,h8,o8⟩;have E:L1 (jP d S x w8 v):=by rw[HE.o];exact⟨⟨_,h8⟩,o8⟩
   go_wp2
   go_meet
   case rel=>exact E
  |false=>
   have HE:L1 (v=t4):=cw.o.s;have E:L1 (jP d S x x v):=by rw[HE.o];exact cu.toS
   go_wp2
   go_meet
   case rel=>exact E
 case rest=>
 obtain⟨w8,fd⟩:∃w8,w8=wc:=⟨_,rfl⟩;subst fd;obtain⟨⟨p8,h8⟩,o8⟩:=hcut.o;have O8:=H o8;have H9:=H (Bo h8 {data:=#[115,116,97,114,116,120,114,101,102]} cO);rw[show bl {data:=#[115,116,97,114,116,120,114,101,102]}=[115,116,97,114,116,120,114,101,102]from rfl,Bk]at H9;go_wp2_with fail;apply H9.o.m;rintro b w9 ⟨rfl,⟨p9,h9⟩,o9⟩;have O9:=H (O8.t o9);have dp:=H (Ah i Y w9);have cf:=H (Bo h9 (ge (gE i)) (by rw[tF];exact aA (xx 18 _ Y) cO));rw[show bl (ge (gE i))=gE i from ui _ (yy i),Bk]at cf;generalize ge (gE i)=DA at *;go_wp2_with fail;apply dp.o.m;rintro b gr ⟨rfl,hw⟩;have hw:=hw.s;subst hw;go_wp2_with fail;apply cf.o.m;rintro b gi ⟨rfl,⟨f6,eo⟩,fi⟩;have eb:=H (O9.t fi);have cg:=H (Ep eo);obtain⟨L,e8⟩:∃L,(v.bind (gg [115,116,97,114,116,120,114,101,102])).bind (gg (gE i))=L:=⟨_,rfl⟩;unfold t_ at T;rw[e8]at cg T;go_wp2_with fail;apply cg.o.m;rintro b bd ⟨rfl,⟨f7,ep⟩,fr⟩;have ee:=H (eb.t fr);have cr:=H ep;rw[<-Mp]at T;generalize f1:l7 L=LB at *
 go_upto_if 75 with fail
 go_cut []from 15 (λwx=>L1 (jP d S bd wx (if LB=PV then lK L else N)))
 case first=>
  cases LB with
  |true=>
   have E:L1 (jP d S bd bd (if PV=PV then lK L else N)):=cr.o.toS;go_wp2
   go_meet
   case rel=>exact E
  |false=>
   have V:=H (qW cr);go_wp2_with fail;apply V.o.m;rintro b bf ⟨rfl,bz,b8⟩;have E:L1 (jP d S bd bf (if P2=PV then lK L else N)):=⟨⟨_,bz⟩,b8⟩;go_wp2
   go_meet
   case rel=>exact E
 case rest=>
 obtain⟨bf,fb⟩:∃bf,bf=wc:=⟨_,rfl⟩;subst fb;generalize (if LB=PV then lK L else N)=t9 at *;obtain⟨⟨f8,bz⟩,b8⟩:=hcut.o;have ek:=H (ee.t b8);have ch:=H (xP bz {data:=#[37,37,69,79,70]} cO);rw[show bl {data:=#[37,37,69,79,70]}=[37,37,69,79,70]from rfl]at ch;go_wp2_with fail;apply ch.o.m;rintro b gp ⟨rfl,⟨gd,eq⟩,fs⟩;have em:=H (ek.t fs);have dn:=H (Ep eq);go_wp2_with fail;apply dn.o.m;rintro b a4 ⟨rfl,⟨ao,ad⟩,fu⟩;have bx:=H (em.t fu);generalize lK (t9.bind (f_ [37,37,69,79,70]))=K at *;generalize l7 (t9.bind (f_ [37,37,69,79,70]))=fx at *;have c0:=ad.c0;have c1:=ad.c1;have cs:=H ad;have cy:L1 (a4.heap[D.heap.size+1]?=O (Pp #[I U y,I U z,I U r2,MV r3,Z ma ml mc,Z oa ol oc,Z pa pl pc] 67 (0,0))):=by unfold Hid;rw[bx.o.block _ (ae c3.o) co.o];exact c3
 have HP:L1 (∀a,K=O a->(ao=S.size↔a=[])):=λa hq=>by
  subst hq;have:=ad.len;constructor;·intro b;exact bM.1 Y
  ·intro b;subst b;exact ad.nil
 by_cases hp:ao=S.size
 ·have hd:((ao:Int) != (S.size:Int))=P2:=by rw[hp];simp
  have bq:L1 (K.bind (λa=>if a=[]then O []else N)=K):=by
   cases K with
   |none=>rfl
   |some a=>have:=(HP a rfl).1 hp;subst this;rfl
  go_wp2_with fail;go_quiet (fail);have g1:(a4.drewN nq).cell? ⟨D.heap.size+1,1,N⟩=O (I U z):=(iI cy).t rfl;generalize hW:a4.drewN nq=en at *;have HW:=H hW;go_wp2;go_ret;refine⟨z,K,rfl,⟨⟨ao,by rw[<-HW.o];exact cs.drewN nq⟩,by rw[<-HW.o];exact cp.t (bx.drewN nq)⟩,?_⟩;have:=T.o;rw[bq.o]at this;exact this
 ·have hd:((ao:Int) != (S.size:Int))=PV:=eB;have bq:L1 (K.bind (λa=>if a=[]then O []else N)=(N:Option (List Nat))):=by
   cases K with
   |none=>rfl
   |some a=>show(if a=[]then O []else N)=N;rw[ah (λb=>hp ((HP.o a rfl).2 b))]
  go_wp2_with fail;go_quiet (fail);have V:=H (qW (cs.drewN nq));have dr:=H (bx.drewN nq);have c2:L1 ((a4.drewN nq).heap[D.heap.size+1]?=_):=cy.o;generalize hW:a4.drewN nq=en at *;go_wp2_with fail;apply V.o.m;rintro b fw ⟨rfl,es,c9⟩;have g1:fw.cell? ⟨D.heap.size+1,1,N⟩=O (I U z):=by rw[iI ((c9.block _ (ae c2.o) co.o).t c2.o)];rfl
  have dv:=H es;have ds:=H (cp.t (dr.t c9));go_wp2;go_ret;refine⟨z,N,rfl,⟨⟨_,dv⟩,ds⟩,P3 ⟨rfl,?_⟩⟩;have:=T.o;rw[bq.o]at this;rcases this with h|h;·exact h.2
  ·cases h.1
end
