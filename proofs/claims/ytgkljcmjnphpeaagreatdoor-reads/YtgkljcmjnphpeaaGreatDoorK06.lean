import Derived.Test.YtgkljcmjnphpeaaGreatDoorK05
import Derived.Laws.AppendOwnNone
set_option linter.defProp false
set_option linter.unusedVariables false
set_option linter.unusedSimpArgs false
set_option maxHeartbeats 2000000
set_option maxRecDepth 100000
open List renaming length->G
open Go renaming Value->GI,World->Gr,Calls->K8,Ending->MB
open Go.Value renaming int->I,pointer->M2,string->MV,agg->N1,bool->OV,tuple->OW,slice->Z
open Go.RowKit renaming Hid->L1,Below->LT
open Option renaming none->N,some->O
open Bool renaming false->P2,true->PV
open Or renaming inl->P3,inr->P4
open Go.Obj renaming cells->Pp
open Go.Ending renaming returned->Ps
open Go.Proofs.Tryz renaming prog->Qe
open List renaming replicate->Qf
open Go.IntKind renaming i64->U
open Go.Proofs.Tryz
namespace Go.Proofs.YtgkljcmjnphpeaaGreatDoor
open Go.RowKit
section
variable{B J A K F E:Nat}{d:List Nat}{u:Nat}{j:List GI}{w:Gr}{p Q left a:Nat}{L:GI}{C:List Nat}
def KC(h:Bi B J A K F E d u j w p Q left a L C)(len b:Nat)(h1:1<=b)(h2:b<=G C)(h3:b<=a)(i:len<=1000000)(g:u<G C+len)(q:a<=32768):K8 Qe 315 #[M2 (O ⟨A,0,N⟩),I U len,I U b] w λc f=>c=gU 6/\gb 5 B [J,A] w f:=by
 have n:=h.c0;have o:=h.c3;have l:=h.rd.c2;obtain⟨m,r,e⟩:=jp h.rd.own;rw[e]at l;clear e;rcases bU a (G C) with k|k;all_goals
  go_in
  go_wp2_with fail;go_quiet ((first|(go_at_call 63;exact bj (ou _ _ _ _ Y Y))|(go_at_call 163;exact bj (nT _))));go_wp2_with fail;apply(Gt (h.rd.drewN _) len i g).m;rintro c f ⟨rfl,s,rfl⟩;exact⟨rfl,rfl,((gb.refl _ _ _ _).drewN _).drewN _⟩
def FY(b f:Nat)(c:iA)(m:CO c)(t:lj B J A K F E d u j a b f c w){q P:List Bool}(h:Fl B J A K F E d u j w q a L C)
  (g:Nat) (n:gN c.cs c.ss q=O (g,P)) (h1:g<256) (y:u<G C+1):K8 Qe 278 #[M2 (O ⟨A,0,N⟩),M2 (O ⟨b,f,N⟩)] w λe i=>e=gU 6/\gb 5 B [J,A] w i:=by
 have s:=H n;clear n;go_enter dP,dH;go_wp2_with fail;go_region_with (go_at_call 313;apply(q8 b f c.cs c.ss m.s1 m.l1 (λi r v k=>(t i r _ _ v (((gb.refl _ _ _ _).drew).t k)).1) s h.drew).m;rintro e V ⟨rfl,x,D⟩);obtain⟨p,Q,left,l,T,z⟩:=x;have R:=l.c0;clear z;have S:(g:Int)<256:=Y;go_wp2_with fail;apply(yN (l.rd.alloc _) 1 _ 1 Y y).m;rintro e W ⟨rfl,M,rfl⟩;exact⟨rfl,rfl,((((gb.refl _ _ _ _).drew).t D).alloc _).drewN M⟩
def Nq(l n:Nat)(c:iA)(m:CO c)(T:lj B J A K F E d u j a l n c w){ac z r2 r3 r4:List Bool}(h:Fl B J A K F E d u j w ac a L C)
  (b q g s:Nat) (X:gN c.cs c.ss ac=O (b,z)) (M:257<=b) (a2:b<=285) (hx:iL (gu b).2 z=O (q,r2)) (ht:gN c.cd c.sd r2=O (g,r3)) (a3:g<=29)
  (hy:iL (gq g).2 r3=O (s,r4)) (P:(gq g).1+s<=G C) (R:(gq g).1+s<=a) (S:u<G C+((gu b).1+q)) (hw:a<=32768):K8 Qe 278 #[M2 (O ⟨A,0,N⟩),M2 (O ⟨l,n,N⟩)] w λf i=>f=gU 6/\gb 5 B [J,A] w i:=by
 have HS:=H X;have HT:=H ht;have x:=yE ⟨b,Y⟩ M;have y:=Cg ⟨g,Y⟩;simp only[]at x y;obtain⟨x1,x2,x3⟩:=kI hx;obtain⟨y1,y2,y3⟩:=kI hy;have D:=H x2;have X3:=H x3;have Y2:=H y2;have Y3:=H y3;have e:=H (And.intro P (And.intro R (And.intro S (And.intro x (And.intro y (And.intro x1 y1))))));clear X ht hx hy x2 x3 y2 y3 P R S x y x1 y1;have ad:(257:Int)<=(b:Int):=Y;have al:(b:Int)<=285:=Y;have ao:(g:Int)<=29:=Y;have e1:((b:Int)==256)=P2:=eB;go_enter dP,dH;go_wp2_with fail;go_region_with (go_at_call 313;apply(q8 l n c.cs c.ss m.s1 m.l1 (λi r t k=>(T i r _ _ t (((gb.refl _ _ _ _).drew).t k)).1) HS h.drew).m;rintro f w1 ⟨rfl,a0,k1⟩);have kk:=((gb.refl 5 B [J,A] w).drew).t k1;clear k1;go_wp2_with fail;apply(ou _ _ _ _ ad al).m;rintro f i ⟨rfl,rfl⟩;go_wp2_with fail;apply(nT _).m;rintro f i ⟨rfl,rfl⟩;go_wp2_with fail;apply(zC b M a2 _).m;rintro f w2 ⟨rfl,o2,rfl⟩;go_wp2_with fail;apply(yi (gu b) ts ts e.2.2.2.2.2.1 (a0.alloc o2)).m;rintro f w3 ⟨rfl,V,k3⟩;rw[<-X3.o]at V;have v:=(kk.alloc o2).t k3;clear kk k3;rw[<-D.o];go_wp2_with fail;go_region_with (go_at_call 313;apply(q8 l (n+17) c.cd c.sd m.s2 m.l2 (λi r t k=>(T i r _ _ t ((v.drew).t k)).2) HT V.drew).m;rintro f w4 ⟨rfl,a4,k4⟩);have aa:=(v.drew).t k4;clear v k4;go_wp2_with fail;apply(ou _ _ _ _ Y ao).m;rintro f i ⟨rfl,rfl⟩;go_wp2_with fail;apply(nT _).m;rintro f i ⟨rfl,rfl⟩;go_wp2_with fail;apply(D9 g a3 _).m;rintro f w5 ⟨rfl,o5,rfl⟩;go_wp2_with fail;apply(yi (gq g) ts ts e.2.2.2.2.2.2 (a4.alloc o5)).m;rintro f w6 ⟨rfl,W,k6⟩;rw[<-Y3.o]at W;have a5:=(aa.alloc o5).t k6;clear aa k6;rw[<-Y2.o];obtain⟨p,Q,left,hb,hl,hr⟩:=W;clear hr;go_wp2_with fail;have a6:q<1000:=by have e1:=D.o;have e2:=jk (z.take (gu b).2);rw[<-e1,ay,b_ e.o.2.2.2.2.2.1]at e2;have:2^(gu b).2<=2^5:=aJ Y e.2.2.2.1.1;omega
 apply(KC hb ((gu b).1+q) ((gq g).1+s) ts e.1 e.2.1 ts e.2.2.1 hw).m;rintro f w7 ⟨rfl,k7⟩;exact⟨rfl,rfl,a5.t k7⟩
def Db(k m:Nat)(c:iA)(x:CO c)(v:lj B J A K F E d u j a k m c w){q:List Bool}(h:Fl B J A K F E d u j w q a L C)
  (M:a<=32768) (b:gY c a u q C=.error 6):K8 Qe 278 #[M2 (O ⟨A,0,N⟩),M2 (O ⟨k,m,N⟩)] w λD T=>D=gU 6/\gb 5 B [J,A] w T:=by
 unfold gY at b;cases h1:gN c.cs c.ss q with
 |none=>rw[h1]at b;cases b
 |some f=>
  obtain⟨e,P⟩:=f;rw[h1]at b;simp only[]at b;by_cases n:e<256
  ·rw[ai n]at b;by_cases y:G C+1<=u;·rw[ai y]at b;cases b
   ·exact FY k m c x v h e h1 n Y
  rw[ah n]at b;by_cases r:e=256;·rw[ai r]at b;cases b
  rw[ah r]at b;by_cases s:285<e;·rw[ai s]at b;cases b
  rw[ah s]at b;cases h2:iL (gu e).2 P with
  |none=>rw[h2]at b;cases b
  |some f=>
   obtain⟨f,R⟩:=f;rw[h2]at b;simp only[]at b;cases h3:gN c.cd c.sd R with
   |none=>rw[h3]at b;cases b
   |some i=>
    obtain⟨g,S⟩:=i;rw[h3]at b;simp only[]at b;by_cases t:29<g;·rw[ai t]at b;cases b
    rw[ah t]at b;cases o:iL (gq g).2 S with
    |none=>rw[o]at b;cases b
    |some V=>
     obtain⟨i,W⟩:=V;rw[o]at b;simp only[]at b;by_cases l:(gq g).1+i<=G C/\(gq g).1+i<=a
     ·rw[ai l]at b;by_cases z:G C+((gu e).1+f)<=u;·rw[ai z]at b;cases b
      ·exact Nq k m c x v h e f g i h1 Y Y h2 h3 Y o l.1 l.2 Y M
     ·rw[ah l]at b;cases b
def vW(A:Nat)(c:GI)(e:Array Bool)(b:Gr):Prop:=b.cell? ⟨A,0,N⟩=O c
def Pj(e:List Nat)(aa:0<G e)(al:G e<=65535)(b:∀P,P<G e->nth e P<256){m i:List Bool}(h:Fl B J A K F E d u j w m a L C)
  (M:m.drop (G m%8)=gM 16 (G e)++(gM 16 (65535-G e)++(gA e++i))) (r:G i%8=0) (ho:u<G C+G e):K8 Qe 222 #[M2 (O ⟨A,0,N⟩)] w λf n=>f=gU 6/\gb 5 B [J,A] w n:=by
 have HR:=H M;have X:=H r;clear M r;have tok:True:=trivial
 go_in
 go_wp2_with fail;apply(yu h).m;rintro f w1 ⟨rfl,⟨p1,ac,v,l⟩,R⟩;rw[HR.o]at l;have x:Fl B J A K F E d u j w1 (gM 16 (G e)++(gM 16 (65535-G e)++(gA e++i))) a L C:=⟨p1,ac,0,v,Y,by rw[<-l];simp[bL,gM]⟩;clear v l h;go_wp2_with fail;go_region_with (first|(go_at_call 221;have _t:=tok;apply(DV 16 (G e) Y Y x.drew).m;rintro f w2 ⟨rfl,y,S⟩;clear tok)|(go_at_call 221;apply(DV 16 (65535-G e) Y Y y).m;rintro f w3 ⟨rfl,z,T⟩));have kk:=(R.drew.t S).t T;clear R S T x y;have e1:((65535-G e:Nat):Int)=65535-(G e:Int):=Y;rw[e1];go_wp2_with fail;apply(nT _).m;rintro f n ⟨rfl,rfl⟩;obtain⟨p,Q,g,D⟩:=z.whole (by rw[ak,g8];have:=X.o;omega);obtain⟨q1,q2,q3⟩:=g.bytes e b i D;clear q2 q3 D z;have c0:=g.c0;go_wp2_with fail;refine om (vW A (M2 (O ⟨J,0,N⟩))) aG ?_;intro b;have c:vW A (M2 (O ⟨J,0,N⟩)) (Array.replicate 13 P2) n.drew:=c0;refine tm 0 b c λb c=>?_;refine tm 1 b c λb c=>?_;refine tm 2 b c λb c=>?_;refine tm 3 b c λb c=>?_;refine tm 4 b c λb c=>?_;refine tm 5 b c λb c=>?_;refine tm 6 b c λb c=>?_;refine tm 7 b c λb c=>?_;refine tm 8 b c λb c=>?_;refine tm 9 b c λb c=>?_;refine tm 10 b c λb c=>?_;refine on 11 b λq k=>?_;go_simp;apply(AK (g.rd.drewN 1) (G e) aa q1).m;rintro f w4 ⟨rfl,W,V⟩;refine k _ _ ((g.rdKept W (((gb.refl _ _ _ _).drewN 1).t V)).c0) (λs t=>?_);clear b c k q;have b:=s;have c:=t;clear s t
 (try simp only[nH])
 refine on 12 b λq k=>?_;go_simp;apply(yN W (G e) (O ⟨K,F+p,N⟩) (E-p) Y ho).m;rintro f w5 ⟨rfl,ad,rfl⟩;exact⟨rfl,rfl,(kk.drewN 1).t ((V.drewN ad).m eA)⟩
def zk(e f g i:Nat)(b c:List Nat)(s:G c=4)(k:∀n,n<4->nth c n<256)(m:e=nth c 0)(h1:f=nth c 1)(h2:g=nth c 2)(h3:i=nth c 3)(q:c=sE b)(l:Gr):(Op.equalIn 10000 153 (N1 #[I .u8 (e:Int),I .u8 (f:Int),I .u8 (g:Int),I .u8 (i:Int)]) (N1 #[I .u8 (((iU b).2:Int)/256),I .u8 (((iU b).2:Int)%256),I .u8 (((iU b).1:Int)/256),I .u8 (((iU b).1:Int)%256)])).run Qe l=.ok PV l:=by
 have r:=Dr b;have h:=J4 e f g i ((iU b).2/256) ((iU b).2%256) ((iU b).1/256) ((iU b).1%256) (by rw[m];exact k 0 Y) (by rw[h1];exact k 1 Y) (by rw[h2];exact k 2 Y) (by rw[h3];exact k 3 Y) Y Y Y Y l;have o:decide ([e,f,g,i]=[(iU b).2/256,(iU b).2%256,(iU b).1/256,(iU b).1%256])=PV:=by rw[cm,m,h1,h2,h3,q];rfl
 rw[o]at h;simpa using h
def Hn(A J:Nat)(c e:GI)(f:Array Bool)(b:Gr):Prop:=b.cell? ⟨A,0,N⟩=O c/\b.cell? ⟨J,2,N⟩=O e
def E9(h:Fl B J A K F E d u j w [] a L C):K8 Qe 220 #[M2 (O ⟨A,0,N⟩)] w λc g=>c=gU 5/\gb 5 B [J,A] w g:=by
 obtain⟨p,Q,left,b,l,e⟩:=h;obtain rfl:left=0:=by have:=dV List.length e;rw[bL,ak,jI]at this;simp at this;omega
 obtain rfl:p=G d:=by have:=dV List.length e;rw[bL,ak,g8,au]at this;have:=b.rd.lp;simp at *;omega
 have i:=b.c0;have k:=b.c2
 go_in
 go_wp2_with fail;apply(zI b.rd).m;rintro c m ⟨rfl,f⟩;exact⟨rfl,rfl,f.m eA⟩
def v_(c:Nat)(T:c<=16){b:List Bool}(V:G b<c)(h:Fl B J A K F E d u j w b a L C):K8 Qe 221 #[M2 (O ⟨A,0,N⟩),I U c] w λf t=>f=gU 5/\gb 5 B [J,A] w t:=by
 go_in
 go_wp2;go_loopw [5,8] (λv i wr=>∃k:Nat,k<=G b/\i=I U k/\v=I U (gw (b.take k))/\Fl B J A K F E d u j wr (b.drop k) a L C/\gb 5 B [J,A] w wr) (λ_ i _=>c-(intOf i).toNat)
 case atStart=>exact⟨0,aH _,rfl,rfl,h,gb.refl _ _ _ _⟩
 case round=>
  obtain⟨k,P,rfl,rfl,e,n⟩:=hrel;have m:=jk (b.take k);rw[ay,b_ Y]at m;have R:(k:Int)<c:=Y;by_cases S:k<G b
  ·have l:=G8 (b.take k) b[k];rw[ay,b_ Y,<-bJ Y]at l;have q:=H l;rw[aW Y]at e;have s:=H (Ju (gw (b.take k)) k b[k] m Y);generalize D:gw (b.take k)=y at *;generalize M:b[k]=z at *;go_wp2_with fail;apply(A9 e).m;rintro f x ⟨rfl,r,g⟩;go_wp2;go_roundw
   case rel=>exact⟨k+1,Y,by go_num,by rw[s.o,q.o],r,n.t g⟩
   case measure=>simp[intOf];omega
  ·rw[List.drop_eq_nil_of_le Y]at e;go_wp2_with fail;apply(E9 e).m;rintro f x ⟨rfl,g⟩;exact⟨rfl,rfl,n.t g⟩
def GR(D T:Nat)(e g:List Nat)(a8:ld e 15<=G g)(a6:G g<=1000){x:List Bool}
  (hC:∀l r,Fl B J A K F E d u j l r a L C->gb 5 B [J,A] w l->Cd l D T e g)
  (hs:gN e g x=N) (h:Fl B J A K F E d u j w x a L C):K8 Qe 313 #[M2 (O ⟨A,0,N⟩),M2 (O ⟨D,T,N⟩)] w λs l=>s=gU 5/\gb 5 B [J,A] w l:=by
 go_in
 go_wp2;go_loopw [5,6,7,8] (λc aa pl t wr=>∃(k code first:Nat) (r:List Bool),k<=15/\t=I U (k+1:Nat)/\c=I U code/\aa=I U first/\pl=I U (ld e k)/\first<=code/\code<2^k/\L1 (jB e g (15-k) (k+1) code first (ld e k) r=N)/\Fl B J A K F E d u j wr r a L C/\gb 5 B [J,A] w wr) (λ_ _ _ t _=>16-(intOf t).toNat)
 case atStart=>exact⟨0,0,0,x,Y,rfl,rfl,rfl,rfl,Y,Y,hs,h,gb.refl _ _ _ _⟩
 case round=>
  obtain⟨k,code,first,r,hk,rfl,rfl,rfl,rfl,a2,a1,hg,M,n⟩:=hrel;by_cases a3:k<15
  ·obtain⟨v,hm⟩:∃v,15-k=v+1:=⟨14-k,Y⟩;have ht:2^k<=2^14:=aJ Y Y;cases r with
   |nil=>generalize ld e k=q at *;go_wp2_with fail;apply(E9 M).m;rintro s V ⟨rfl,m⟩;exact⟨rfl,rfl,n.t m⟩
   |cons b r=>
    have a4:=JD e (k+1) 15 Y;have S:ld e (k+1)=ld e k+nth e (k+1):=rfl;have hb:b.toNat<=1:=by cases b<;>decide
    have ho:=Js code b Y;generalize hN:nth e (k+1)=i at *;have y:=H hN;generalize a0:ld e k=q at *;generalize ac:ld e (k+1)=P1 at *;have z:=H ac;go_wp2_with fail;apply(A9 M).m;rintro s V ⟨rfl,P,m⟩;obtain⟨al,ao,c,hg1,a7⟩:=hC V r P (n.t m);have ad:=al (k+1) Y;rw[y.o]at ad;have f:=hg.o;rw[hm]at f;simp only[jB]at f;rw[show e.getD (k+1) 0=i from y.o]at f;by_cases R:2*code+b.toNat<2*first+i
    ·rw[ai R]at f;cases f
    ·rw[ah R]at f;have W:L1 (jB e g (15-(k+1)) (k+1+1) (2*code+b.toNat) (2*first+i) P1 r=N):=by rw[S,show 15-(k+1)=v by omega];exact f
     have X:=H S;have a5:q+i<=1000:=Y;go_wp2;go_roundw
     case rel=>
      refine⟨k+1,2*code+b.toNat,2*first+i,r,Y,by go_num,by go_num,by go_num,?_,Y,Y,?_,P,n.t m⟩;·rw[z.o];have:=X.o;subst this;go_num
      ·rw[z.o];exact W
     case measure=>simp[intOf];omega
  ·obtain rfl:k=15:=Y;generalize ld e 15=q at *;go_wp2;exact⟨rfl,rfl,n⟩
def Ho(b e f:Nat)(g:Array Bool)(c:Gr):Prop:=c.cell? ⟨b,0,N⟩=O (I U e)/\c.cell? ⟨b,1,N⟩=O (I U f)
def wn(g:Nat×Nat)(n:g.2<=15)(q:g.1<=100000){l:List Bool}(k:G l<g.2)(h:Fl B J A K F E d u j w l a L C):K8 Qe 314 #[M2 (O ⟨A,0,N⟩),sV g] w λi s=>i=gU 5/\gb 5 B [J,A] w s:=by
 obtain⟨f,e⟩:=g;simp only[]at n q k;have m:=H (v_ (w:=(w.alloc (Pp #[I U f,I U e] 247)).drew) e Y k (h.alloc _).drew);unfold sV
 go_in
 go_wp2_with fail;refine om (Ho w.heap.size f e) aG ?_;intro b;have c:Ho w.heap.size f e (Array.replicate 10 P2) (w.alloc (Pp #[I U f,I U e] 247)).drew:=⟨by rw[show(w.alloc (Pp #[I U f,I U e] 247)).drew.cell? ⟨w.heap.size,0,N⟩=(w.alloc (Pp #[I U f,I U e] 247)).cell? ⟨w.heap.size,0,N⟩from rfl,iI (bn _ _)];rfl,by rw[show(w.alloc (Pp #[I U f,I U e] 247)).drew.cell? ⟨w.heap.size,1,N⟩=(w.alloc (Pp #[I U f,I U e] 247)).cell? ⟨w.heap.size,1,N⟩from rfl,iI (bn _ _)];rfl⟩;refine tm 0 b c λb c=>?_;refine tm 1 b c λb c=>?_;refine tm 2 b c λb c=>?_;refine tm 3 b c λb c=>?_;refine tm 4 b c λb c=>?_;refine tm 5 b c λb c=>?_;refine tm 6 b c λb c=>?_;refine on 7 b λt v=>?_;go_simp;apply m.o.m;rintro i x ⟨rfl,r⟩;exact⟨rfl,rfl,(((gb.refl _ _ _ _).alloc _).drew).t r⟩
def BP(A J a:Nat)(c:GI)(e:Array Bool)(b:Gr):Prop:=b.cell? ⟨A,0,N⟩=O (M2 (O ⟨J,0,N⟩))/\b.cell? ⟨J,2,N⟩=O c/\b.cell? ⟨A,3,N⟩=O (I U a)
def ab(h:Bi B J A K F E d u j w p Q left a L C)(len e:Nat)(h1:1<=e)(h2:¬(e<=G C/\e<=a))(M:e<=1000000)(D:a<=32768):K8 Qe 315 #[M2 (O ⟨A,0,N⟩),I U len,I U e] w λf y=>f=gU 5/\gb 5 B [J,A] w y:=by
 have q:=h.c0;have r:=h.c3;have m:=h.rd.c2;obtain⟨i,l,x⟩:=jp h.rd.own;rw[x]at m;have P:∃g:Nat,g=min (G C) a/\g<e:=⟨_,rfl,Y⟩;rcases bU a (G C) with v|v;all_goals
  go_in
  go_wp2_with fail;refine om (BP A J a (Z i (G C) l)) aG ?_;intro b;have c:BP A J a (Z i (G C) l) (Array.replicate 17 P2) w.drew:=⟨q,m,r⟩;refine tm 0 b c λb c=>?_;refine tm 1 b c λb c=>?_;refine tm 2 b c λb c=>?_;refine tm 3 b c λb c=>?_;refine tm 4 b c λb c=>?_;refine tm 5 b c λb c=>?_;refine tm 6 b c λb c=>?_;refine tm 7 b c λb c=>?_;refine tm 8 b c λb c=>?_;refine tm 9 b c λb c=>?_;refine tm 10 b c λb c=>?_;refine tm 11 b c λb c=>?_;refine tm 12 b c λb c=>?_;refine tm 13 b c λb c=>?_;refine tm 14 b c λb c=>?_;refine on 15 b λn k=>?_;go_simp;apply(qP _ _ _ _ (P4 Y)).m;rintro f z ⟨rfl,rfl⟩;refine k _ _ c (λs t=>?_);have b:=s;have c:=t
  (try simp only[nH])
  refine on 16 b λn k=>?_;go_simp;apply(mn _ rfl _).m;rintro f z ⟨rfl,rfl⟩;exact⟨rfl,rfl,(gb.refl _ _ _ _).drewN 1⟩
def DI{b:Nat}{r:List Bool}(h:iL b r=N):G r<b:=by
 unfold iL at h;split at h;·cases h
 ·omega
def z7(f g:Nat)(c:iA)(m:CO c)(s:lj B J A K F E d u j a f g c w){n:List Bool}(h:Fl B J A K F E d u j w n a L C)
  (v:gN c.cs c.ss n=N):K8 Qe 278 #[M2 (O ⟨A,0,N⟩),M2 (O ⟨f,g,N⟩)] w λl i=>l=gU 5/\gb 5 B [J,A] w i:=by
 have q:=H (GR (w:=w.drew) f g c.cs c.ss m.s1 m.l1 (λi r t k=>(s i r _ _ t (((gb.refl _ _ _ _).drew).t k)).1) v h.drew);go_enter dP,dH;go_wp2_with fail;refine om (λ_ _=>True) aG ?_;intro b;have e:(λ(_:Array Bool) (_:Gr)=>True) (Array.replicate 8 P2) w.drew:=trivial;refine tj 0 b e λb e=>?_;refine tj 1 b e λb e=>?_;refine tj 2 b e λb e=>?_;refine tj 3 b e λb e=>?_;refine tj 4 b e λb e=>?_;refine tj 5 b e λb e=>?_;refine on 6 b λy z=>?_;go_simp;apply q.o.m;rintro l D ⟨rfl,x⟩;exact⟨rfl,rfl,((gb.refl _ _ _ _).drew).t x⟩
def z8(f g:Nat)(c:iA)(l:CO c)(q:lj B J A K F E d u j a f g c w){m y:List Bool}(h:Fl B J A K F E d u j w m a L C)
  (i:Nat) (t:gN c.cs c.ss m=O (i,y)) (z:285<i):K8 Qe 278 #[M2 (O ⟨A,0,N⟩),M2 (O ⟨f,g,N⟩)] w λe b=>e=gU 5/\gb 5 B [J,A] w b:=by
 have n:=H t;have e1:((i:Int)==256)=P2:=eB;go_enter dP,dH;go_wp2_with fail;go_region_with (go_at_call 313;apply(q8 f g c.cs c.ss l.s1 l.l1 (λb r s k=>(q b r _ _ s (((gb.refl _ _ _ _).drew).t k)).1) n h.drew).m;rintro e M ⟨rfl,D,v⟩);have x:=((gb.refl 5 B [J,A] w).drew).t v;go_wp2_with fail;apply(qP _ _ _ _ (P4 Y)).m;rintro e b ⟨rfl,rfl⟩;go_wp2_with fail;apply(mn _ rfl _).m;rintro e b ⟨rfl,rfl⟩;exact⟨rfl,rfl,x⟩
def z9(g i:Nat)(c:iA)(n:CO c)(P:lj B J A K F E d u j a g i c w){v t:List Bool}(h:Fl B J A K F E d u j w v a L C)
  (b:Nat) (T:gN c.cs c.ss v=O (b,t)) (m:257<=b) (D:b<=285) (V:iL (gu b).2 t=N):K8 Qe 278 #[M2 (O ⟨A,0,N⟩),M2 (O ⟨g,i,N⟩)] w λe f=>e=gU 5/\gb 5 B [J,A] w f:=by
 have x:=H T;have q:=yE ⟨b,Y⟩ m;simp only[]at q;have l:=H q;have z:(257:Int)<=(b:Int):=Y;have M:(b:Int)<=285:=Y;have e1:((b:Int)==256)=P2:=eB;have y:=H (DI V);go_enter dP,dH;go_wp2_with fail;go_region_with (go_at_call 313;apply(q8 g i c.cs c.ss n.s1 n.l1 (λf r R k=>(P f r _ _ R (((gb.refl _ _ _ _).drew).t k)).1) x h.drew).m;rintro e w1 ⟨rfl,S,W⟩);have kk:=((gb.refl 5 B [J,A] w).drew).t W;go_wp2_with fail;apply(ou _ _ _ _ z M).m;rintro e f ⟨rfl,rfl⟩;go_wp2_with fail;apply(nT _).m;rintro e f ⟨rfl,rfl⟩;go_wp2_with fail;apply(zC b m D _).m;rintro e w2 ⟨rfl,s,rfl⟩;go_wp2_with fail;refine(wn (gu b) (by have:=l.o;omega) (by have:=l.o;omega) y (S.alloc s)).m ?_;rintro e w3 ⟨rfl,X⟩;exact⟨rfl,rfl,(kk.alloc s).t X⟩
def pd(l n:Nat)(c:iA)(m:CO c)(v:lj B J A K F E d u j a l n c w){R M P:List Bool}(h:Fl B J A K F E d u j w R a L C)
  (f al:Nat) (hs:gN c.cs c.ss R=O (f,M)) (t:257<=f) (a2:f<=285) (hx:iL (gu f).2 M=O (al,P)) (ht:gN c.cd c.sd P=N):K8 Qe 278 #[M2 (O ⟨A,0,N⟩),M2 (O ⟨l,n,N⟩)] w λg i=>g=gU 5/\gb 5 B [J,A] w i:=by
 have T:=H hs;have z:=yE ⟨f,Y⟩ t;simp only[]at z;have s:=H z;have aa:(257:Int)<=(f:Int):=Y;have ac:(f:Int)<=285:=Y;have e1:((f:Int)==256)=P2:=eB;obtain⟨x1,x2,x3⟩:=kI hx;have X:=H x1;have X2:=H x2;have X3:=H x3;have W:=H ht;go_enter dP,dH;go_wp2_with fail;go_region_with (go_at_call 313;apply(q8 l n c.cs c.ss m.s1 m.l1 (λi r q k=>(v i r _ _ q (((gb.refl _ _ _ _).drew).t k)).1) T h.drew).m;rintro g w1 ⟨rfl,ad,k1⟩);have kk:=((gb.refl 5 B [J,A] w).drew).t k1;go_wp2_with fail;apply(ou _ _ _ _ aa ac).m;rintro g i ⟨rfl,rfl⟩;go_wp2_with fail;apply(nT _).m;rintro g i ⟨rfl,rfl⟩;go_wp2_with fail;apply(zC f t a2 _).m;rintro g w2 ⟨rfl,D,rfl⟩;go_wp2_with fail;apply(yi (gu f) xa xa X (ad.alloc D)).m;rintro g S ⟨rfl,x,k3⟩;rw[<-X3.o]at x;have y:=(kk.alloc D).t k3;rw[<-X2.o];have V:=H (GR (w:=S.drew) l (n+17) c.cd c.sd m.s2 m.l2 (λi r q k=>(v i r _ _ q ((y.drew).t k)).2) W x.drew);go_wp2_with fail;refine om (λ_ _=>True) aG ?_;intro b;have e:(λ(_:Array Bool) (_:Gr)=>True) (Array.replicate 8 P2) S.drew:=trivial;refine tj 0 b e λb e=>?_;refine tj 1 b e λb e=>?_;refine tj 2 b e λb e=>?_;refine tj 3 b e λb e=>?_;refine tj 4 b e λb e=>?_;refine tj 5 b e λb e=>?_;refine on 6 b λK' hK=>?_;go_simp;apply V.o.m;rintro g w7 ⟨rfl,k7⟩;exact⟨rfl,rfl,(y.drew).t k7⟩
def z_(g l:Nat)(c:iA)(i:CO c)(s:lj B J A K F E d u j a g l c w){M z D r3:List Bool}(h:Fl B J A K F E d u j w M a L C)
  (b al P:Nat) (hs:gN c.cs c.ss M=O (b,z)) (q:257<=b) (a2:b<=285) (hx:iL (gu b).2 z=O (al,D)) (ht:gN c.cd c.sd D=O (P,r3)) (a3:29<P):K8 Qe 278 #[M2 (O ⟨A,0,N⟩),M2 (O ⟨g,l,N⟩)] w λe f=>e=gU 5/\gb 5 B [J,A] w f:=by
 have R:=H hs;have x:=yE ⟨b,Y⟩ q;simp only[]at x;have n:=H x;have X:(257:Int)<=(b:Int):=Y;have aa:(b:Int)<=285:=Y;have e1:((b:Int)==256)=P2:=eB;obtain⟨x1,x2,x3⟩:=kI hx;have T:=H x1;have V:=H x2;have W:=H x3;have S:=H ht;go_enter dP,dH;go_wp2_with fail;go_region_with (go_at_call 313;apply(q8 g l c.cs c.ss i.s1 i.l1 (λf r m k=>(s f r _ _ m (((gb.refl _ _ _ _).drew).t k)).1) R h.drew).m;rintro e w1 ⟨rfl,ac,k1⟩);have kk:=((gb.refl 5 B [J,A] w).drew).t k1;go_wp2_with fail;apply(ou _ _ _ _ X aa).m;rintro e f ⟨rfl,rfl⟩;go_wp2_with fail;apply(nT _).m;rintro e f ⟨rfl,rfl⟩;go_wp2_with fail;apply(zC b q a2 _).m;rintro e w2 ⟨rfl,y,rfl⟩;go_wp2_with fail;refine(yi (gu b) (by have:=n.o;omega) (by have:=n.o;omega) T (ac.alloc y)).m ?_;rintro e w3 ⟨rfl,t,k3⟩;rw[<-W.o]at t;have v:=(kk.alloc y).t k3;rw[<-V.o];go_wp2_with fail;go_region_with (go_at_call 313;apply(q8 g (l+17) c.cd c.sd i.s2 i.l2 (λf r m k=>(s f r _ _ m ((v.drew).t k)).2) S t.drew).m;rintro e w4 ⟨rfl,ao,k4⟩);have ad:=(v.drew).t k4;go_wp2_with fail;apply(qP _ _ _ _ (P4 Y)).m;rintro e f ⟨rfl,rfl⟩;go_wp2_with fail;apply(mn _ rfl _).m;rintro e f ⟨rfl,rfl⟩;exact⟨rfl,rfl,ad⟩
def Aa(i m:Nat)(c:iA)(l:CO c)(v:lj B J A K F E d u j a i m c w){V R S T:List Bool}(h:Fl B J A K F E d u j w V a L C)
  (e a4 g:Nat) (hs:gN c.cs c.ss V=O (e,R)) (t:257<=e) (a2:e<=285) (hx:iL (gu e).2 R=O (a4,S)) (ht:gN c.cd c.sd S=O (g,T)) (a3:g<=29) (hy:iL (gq g).2 T=N):K8 Qe 278 #[M2 (O ⟨A,0,N⟩),M2 (O ⟨i,m,N⟩)] w λb f=>b=gU 5/\gb 5 B [J,A] w f:=by
 have W:=H hs;have z:=yE ⟨e,Y⟩ t;simp only[]at z;have q:=H z;have aa:(257:Int)<=(e:Int):=Y;have ac:(e:Int)<=285:=Y;have e1:((e:Int)==256)=P2:=eB;obtain⟨x1,x2,x3⟩:=kI hx;have X1:=H x1;have X2:=H x2;have X3:=H x3;have X:=H ht;have HY:=H (DI hy);have D:=Cg ⟨g,Y⟩;simp only[]at D;have s:=H D;have ad:(g:Int)<=29:=Y;go_enter dP,dH;go_wp2_with fail;go_region_with (go_at_call 313;apply(q8 i m c.cs c.ss l.s1 l.l1 (λf r n k=>(v f r _ _ n (((gb.refl _ _ _ _).drew).t k)).1) W h.drew).m;rintro b w1 ⟨rfl,al,k1⟩);have kk:=((gb.refl 5 B [J,A] w).drew).t k1;go_wp2_with fail;apply(ou _ _ _ _ aa ac).m;rintro b f ⟨rfl,rfl⟩;go_wp2_with fail;apply(nT _).m;rintro b f ⟨rfl,rfl⟩;go_wp2_with fail;apply(zC e t a2 _).m;rintro b w2 ⟨rfl,M,rfl⟩;go_wp2_with fail;refine(yi (gu e) (by have:=q.o;omega) (by have:=q.o;omega) X1 (al.alloc M)).m ?_;rintro b w3 ⟨rfl,x,k3⟩;rw[<-X3.o]at x;have y:=(kk.alloc M).t k3;rw[<-X2.o];go_wp2_with fail;go_region_with (go_at_call 313;apply(q8 i (m+17) c.cd c.sd l.s2 l.l2 (λf r n k=>(v f r _ _ n ((y.drew).t k)).2) X x.drew).m;rintro b w4 ⟨rfl,ao,k4⟩);have a0:=(y.drew).t k4;go_wp2_with fail;apply(ou _ _ _ _ Y ad).m;rintro b f ⟨rfl,rfl⟩;go_wp2_with fail;apply(nT _).m;rintro b f ⟨rfl,rfl⟩;go_wp2_with fail;apply(D9 g a3 _).m;rintro b w5 ⟨rfl,P,rfl⟩;go_wp2_with fail;apply(wn (gq g) xa xa HY (ao.alloc P)).m;rintro b w6 ⟨rfl,k6⟩;exact⟨rfl,rfl,(a0.alloc P).t k6⟩
def Ab(m s:Nat)(c:iA)(q:CO c)(S:lj B J A K F E d u j a m s c w){ac r1 r2 z r4:List Bool}(h:Fl B J A K F E d u j w ac a L C)
  (f ad e l:Nat) (W:gN c.cs c.ss ac=O (f,r1)) (R:257<=f) (a2:f<=285) (hx:iL (gu f).2 r1=O (ad,r2)) (X:gN c.cd c.sd r2=O (e,z)) (a3:e<=29) (hy:iL (gq e).2 z=O (l,r4)) (n:¬((gq e).1+l<=G C/\(gq e).1+l<=a)) (hw:a<=32768):K8 Qe 278 #[M2 (O ⟨A,0,N⟩),M2 (O ⟨m,s,N⟩)] w λb g=>b=gU 5/\gb 5 B [J,A] w g:=by
 have HS:=H W;have x:=yE ⟨f,Y⟩ R;simp only[]at x;have D:=H x;clear W x;have ao:(257:Int)<=(f:Int):=Y;have a0:(f:Int)<=285:=Y;have e1:((f:Int)==256)=P2:=eB;obtain⟨x1,x2,x3⟩:=kI hx;have X1:=H x1;have X2:=H x2;have X3:=H x3;clear hx x1 x2 x3;have HT:=H X;obtain⟨y1,y2,y3⟩:=kI hy;have M:=H y1;have P:=H y2;have Y3:=H y3;have al:=H n;have y:=Cg ⟨e,Y⟩;simp only[]at y;have i:=H y;have a4:(e:Int)<=29:=Y;clear X hy y y1 y2 y3 n;go_enter dP,dH;go_wp2_with fail;go_region_with (go_at_call 313;apply(q8 m s c.cs c.ss q.s1 q.l1 (λg r t k=>(S g r _ _ t (((gb.refl _ _ _ _).drew).t k)).1) HS h.drew).m;rintro b w1 ⟨rfl,a5,k1⟩);have kk:=((gb.refl 5 B [J,A] w).drew).t k1;clear k1;go_wp2_with fail;apply(ou _ _ _ _ ao a0).m;rintro b g ⟨rfl,rfl⟩;go_wp2_with fail;apply(nT _).m;rintro b g ⟨rfl,rfl⟩;go_wp2_with fail;apply(zC f R a2 _).m;rintro b w2 ⟨rfl,o2,rfl⟩;go_wp2_with fail;refine(yi (gu f) (by have:=D.o;omega) (by have:=D.o;omega) X1 (a5.alloc o2)).m ?_;rintro b w3 ⟨rfl,T,k3⟩;rw[<-X3.o]at T;have v:=(kk.alloc o2).t k3;clear kk k3;rw[<-X2.o];go_wp2_with fail;go_region_with (go_at_call 313;apply(q8 m (s+17) c.cd c.sd q.s2 q.l2 (λg r t k=>(S g r _ _ t ((v.drew).t k)).2) HT T.drew).m;rintro b w4 ⟨rfl,a6,k4⟩);have aa:=(v.drew).t k4;clear v k4;go_wp2_with fail;apply(ou _ _ _ _ Y a4).m;rintro b g ⟨rfl,rfl⟩;go_wp2_with fail;apply(nT _).m;rintro b g ⟨rfl,rfl⟩;go_wp2_with fail;apply(D9 e a3 _).m;rintro b w5 ⟨rfl,o5,rfl⟩;go_wp2_with fail;apply(yi (gq e) xc xc M (a6.alloc o5)).m;rintro b w6 ⟨rfl,V,k6⟩;rw[<-Y3.o]at V;have a7:=(aa.alloc o5).t k6;clear aa k6;rw[<-P.o];obtain⟨p,Q,left,n,hl,hr⟩:=V;clear hr;have a8:l<10000:=by have e1:=P.o;have e2:=jk (z.take (gq e).2);rw[<-e1,ay,b_ M.o]at e2;have:2^(gq e).2<=2^13:=aJ Y i.1;omega
 go_wp2_with fail;apply(ab n ((gu f).1+ad) ((gq e).1+l) xc al xc hw).m;rintro b w7 ⟨rfl,k7⟩;exact⟨rfl,rfl,a7.t k7⟩
def Ns(e f:Nat)(c:iA)(k:CO c)(i:lj B J A K F E d u j a e f c w){v:List Bool}(h:Fl B J A K F E d u j w v a L C)
  (t:a<=32768) {P:Nat} (b:gY c a u v C=.error P):K8 Qe 278 #[M2 (O ⟨A,0,N⟩),M2 (O ⟨e,f,N⟩)] w λR W=>R=gU P/\gb 5 B [J,A] w W:=by
 have M:=b;unfold gY at b;cases h1:gN c.cs c.ss v with
 |none=>rw[h1]at b;cases b;exact z7 e f c k i h h1
 |some l=>
  obtain⟨g,S⟩:=l;rw[h1]at b;simp only[]at b;by_cases y:g<256
  ·rw[ai y]at b;by_cases x:G C+1<=u;·rw[ai x]at b;cases b
   ·rw[ah x]at b;cases b;exact Db e f c k i h t M
  rw[ah y]at b;by_cases z:g=256;·rw[ai z]at b;cases b
  rw[ah z]at b;by_cases q:285<g;·rw[ai q]at b;cases b;exact z8 e f c k i h g h1 q
  rw[ah q]at b;cases h2:iL (gu g).2 S with
  |none=>rw[h2]at b;cases b;exact z9 e f c k i h g h1 Y Y h2
  |some l=>
   obtain⟨l,T⟩:=l;rw[h2]at b;simp only[]at b;cases h3:gN c.cd c.sd T with
   |none=>rw[h3]at b;cases b;exact pd e f c k i h g l h1 Y Y h2 h3
   |some n=>
    obtain⟨m,V⟩:=n;rw[h3]at b;simp only[]at b;by_cases r:29<m;·rw[ai r]at b;cases b;exact z_ e f c k i h g l m h1 Y Y h2 h3 r
    rw[ah r]at b;cases o:iL (gq m).2 V with
    |none=>rw[o]at b;cases b;exact Aa e f c k i h g l m h1 Y Y h2 h3 Y o
    |some X=>
     obtain⟨n,r4⟩:=X;rw[o]at b;simp only[]at b;by_cases s:(gq m).1+n<=G C/\(gq m).1+n<=a
     ·rw[ai s]at b;by_cases D:G C+((gu g).1+l)<=u;·rw[ai D]at b;cases b
      ·rw[ah D]at b;cases b;exact Db e f c k i h t M
     ·rw[ah s]at b;cases b;exact Ab e f c k i h g l m n h1 Y Y h2 h3 Y o s t
def vC(B J A K F E:Nat)(d:List Nat)(u:Nat)(j:List GI)(a:Nat)(w:Gr)(i:GI)(h:Except Nat (List Bool×List Nat))(c:MB)(b:Gr):Prop:=match h with
 | .ok (r,f)=>c=Ps i/\∃g,Fl B J A K F E d u j b r a g f/\gb 5 B [J,A] w b
 | .error e=>c=gU e/\gb 5 B [J,A] w b
def Iq(g k:Nat)(c:iA)(o:CO c)(n:lj B J A K F E d u j a g k c w){y:List Bool}(h:Fl B J A K F E d u j w y a L C)
  (s:a<=32768) {x:Except Nat (List Bool×List Nat)} (V:gR c a u y C x):K8 Qe 223 #[M2 (O ⟨A,0,N⟩),M2 (O ⟨g,k,N⟩)] w (vC B J A K F E d u j a w (OW #[]) x):=by
 go_in
 go_wp2;go_loopw [6] (λ_ wr=>∃(r:List Bool) (t:List Nat) (D:GI),Fl B J A K F E d u j wr r a D t/\L1 (gR c a u r t x)/\gb 5 B [J,A] w wr) (λ_ wr=>bO J A (G d) wr)
 case atStart=>exact⟨y,C,L,h,V,gb.refl _ _ _ _⟩
 case round=>
  obtain⟨r,t,D,l,P,e⟩:=hrel;have S:=H l.measure;rcases P.o.parted with⟨e1,b,q⟩|⟨r1,o1,b,q⟩|⟨r1,o1,b,W⟩
  ·subst q;have f:=H (Ns g k c o (n.kept e) l s b);go_wp2_with fail;apply f.o.m;rintro z M ⟨rfl,i⟩;exact⟨rfl,rfl,e.t i⟩
  ·subst q;have f:=H (Dc g k c o (n.kept e) l s b);go_wp2_with fail;apply f.o.m;rintro z M ⟨rfl,v,m,i⟩;go_wp2
   go_end0
   exact⟨rfl,v,m,e.t i⟩
  ·have R:=H W;have X:=j4 b;have f:=H (Dc g k c o (n.kept e) l s b);go_wp2_with fail;apply f.o.m;rintro z M ⟨rfl,v,m,i⟩;have T:=H m.measure;go_wp2;go_roundw
   case rel=>exact⟨_,_,v,m,R,e.t i⟩
   case measure=>rw[S.o,T.o];exact X
end
def mG(a:List Nat)(c:Nat)(b:List Nat):Except Nat (List Nat):=if gh a c<G a then .error 5 else .ok b
def vI(a:List Nat)(e:Nat):Nat->Nat->List Nat->Except Nat (List Nat)
 |0,_,_=>.error 5
 |g+1,c,d=>
  if (G a)<=gh a c then .error 5
  else if nth a (gh a c)=62 then mG a (gh a c+1) d
  else match gI (nth a (gh a c))with
   |none=>.error 5
   |some f=>
    if (G a)<=gh a (gh a c+1)then .error 5
    else if nth a (gh a (gh a c+1))=62 then(if (G d)+1<=e then mG a (gh a (gh a c+1)+1) (d++[16*f])else .error 6)
    else match gI (nth a (gh a (gh a c+1)))with
     |none=>.error 5
     |some b=>if (G d)+1<=e then vI a e g (gh a (gh a c+1)+1) (d++[16*f+b])else .error 6
def rD(a:List Nat)(d:Nat):Nat->Nat->List Nat->Except Nat (List Nat)
 |0,_,_=>.error 5
 |e+1,b,c=>
  if (G a)<=b then .error 5
  else if nth a b=128 then(if b+1<G a then .error 5 else .ok c)
  else if nth a b<128 then
   if b+1+(nth a b+1)<=G a then
    (if (G c)+(nth a b+1)<=d then rD a d e (b+1+(nth a b+1)) (c++(a.drop (b+1)).take (nth a b+1))else .error 6)
   else .error 5
  else if b+1<G a then
   (if (G c)+(257-nth a b)<=d then rD a d e (b+2) (c++Qf (257-nth a b) (nth a (b+1)))else .error 6)
  else .error 5
def nC(a k:Nat):Nat:=if k=2 then((a*85+84)*85+84)*85+84 else if k=3 then(a*85+84)*85+84 else a*85+84
def aD(a:List Nat)(d:Nat):Nat->Nat->Nat->Nat->List Nat->Except Nat (List Nat)
 |0,_,_,_,_=>.error 5
 |f+1,b,k,e,c=>
  if (G a)<=gh a b then .error 5
  else if nth a (gh a b)=122/\k=0 then(if (G c)+4<=d then aD a d f (gh a b+1) 0 0 (c++[0,0,0,0])else .error 6)
  else if 33<=nth a (gh a b)/\nth a (gh a b)<=117 then
   if k=4 then
    (if 4294967296<=e*85+(nth a (gh a b)-33)then .error 5
    else if (G c)+4<=d then aD a d f (gh a b+1) 0 0 (c++aO (e*85+(nth a (gh a b)-33)))else .error 6)
   else aD a d f (gh a b+1) (k+1) (e*85+(nth a (gh a b)-33)) c
  else if nth a (gh a b)=126/\gh a b+1<G a/\nth a (gh a b+1)=62/\k≠1 then
   if k=0 then mG a (gh a b+2) c
   else if 4294967296<=nC e k then .error 5
   else if (G c)+(k-1)<=d then mG a (gh a b+2) (c++(aO (nC e k)).take (k-1))else .error 6
  else .error 5
section
structure jx(B b:Nat)(S:ByteArray)(most:Nat)(w:Gr)(p:Nat)(d:GI)(a:List Nat)(e:Nat):Prop where
 hb:B<=b
 blk:w.heap[b]?=O (Pp #[MV S,I U p,d,I U most,I U e] 106 (0,0))
 own:w.ownsRow B 5 1 d (G a) (a.map λx:Nat=>I .u8 (x:Int))
 lm:most<=1000000
 ls:S.size<=10000000
 lp:p<=8*S.size+8
 lo:G a<=most
 le:e<=6
variable{B b:Nat}{S:ByteArray}{most:Nat}{w:Gr}{p:Nat}{d:GI}{a:List Nat}{e:Nat}
def jx.c0(h:jx B b S most w p d a e):w.cell? ⟨b,0,N⟩=O (MV S):=iI h.blk
def jx.c1(h:jx B b S most w p d a e):w.cell? ⟨b,1,N⟩=O (I U p):=iI h.blk
def jx.c2(h:jx B b S most w p d a e):w.cell? ⟨b,2,N⟩=O d:=iI h.blk
def jx.c3(h:jx B b S most w p d a e):w.cell? ⟨b,3,N⟩=O (I U most):=iI h.blk
def jx.c4(h:jx B b S most w p d a e):w.cell? ⟨b,4,N⟩=O (I U e):=iI h.blk
def jx.fz(h:jx B b S most w p d a e)(i:Nat):w.frozen? ⟨b,i,N⟩=P2:=nG h.blk
def jx.sz(h:jx B b S most w p d a e):B<w.heap.size:=by have:=h.hb;have:=ae h.blk;omega
def jx.drewN(h:jx B b S most w p d a e)(n:Nat):jx B b S most (w.drewN n) p d a e:=⟨h.hb,h.blk,h.own,h.lm,h.ls,h.lp,h.lo,h.le⟩
def jx.alloc(h:jx B b S most w p d a e)(c:Obj):jx B b S most (w.alloc c) p d a e:=⟨h.hb,mA _ h.blk,h.own.alloc _,h.lm,h.ls,h.lp,h.lo,h.le⟩
def jx.set1(h:jx B b S most w p d a e)(c:Nat)(f:c<=8*S.size+8):jx B b S most (w.setCell ⟨b,1,N⟩ (I U c)) c d a e:=
 ⟨h.hb,by rw[lV _ h.blk];rfl,aR h.own (own_ne h.own h.blk cO) _,h.lm,h.ls,f,h.lo,h.le⟩
def jx.set4(h:jx B b S most w p d a e)(c:Nat)(f:c<=6):jx B b S most (w.setCell ⟨b,4,N⟩ (I U c)) p d a c:=
 ⟨h.hb,by rw[lV _ h.blk];rfl,aR h.own (own_ne h.own h.blk cO) _,h.lm,h.ls,h.lp,h.lo,f⟩
def jx.grown_blk(h:jx B b S most w p d a e){f:Gr}(g:w.grownBy f d.ownBlock):f.heap[b]?=O (Pp #[MV S,I U p,d,I U most,I U e] 106 (0,0)):=by
 rw[g.block b (ae h.blk) (λc=>own_ne h.own h.blk cO c.s)];exact h.blk
def jx.put(h:jx B b S most w p d a e){f:Gr}{c:GI}{xs:List Nat}(l:G a+G xs<=most)
  (j:f.ownsRow B 5 1 c (G a+G xs) ((a.map λg:Nat=>I .u8 (g:Int))++(xs.map λg:Nat=>I .u8 (g:Int)))) (k:w.grownBy f d.ownBlock):jx B b S most (f.setCell ⟨b,2,N⟩ c) p c (a++xs) e:=by
 have i:=h.grown_blk k;refine⟨h.hb,?_,?_,h.lm,h.ls,h.lp,by simpa using l,h.le⟩;·rw[lV _ i];rfl
 ·rw[ak,bK];exact aR j (own_ne j i cO) _
def jx.ofBelow{j:Gr}(h:jx B b S most w p d a e)(k:LT w.heap.size w j):jx B b S most j p d a e:=by
 refine⟨h.hb,?_,?_,h.lm,h.ls,h.lp,h.lo,h.le⟩;·rw[k.block _ (ae h.blk)];exact h.blk
 ·exact own_below' h.own k
 where
 own_below' {B:Nat} {e:TypeId} {k:Nat} {g:GI} {n:Nat} {l:List GI} {w i:Gr} (h:w.ownsRow B e k g n l) (b:LT w.heap.size w i):i.ownsRow B e k g n l:=by
  obtain⟨h1,h2⟩:=h;refine⟨h1,?_⟩;rcases h2 with h2|⟨o,c,m,e1,e2,f,q⟩;·exact P3 h2
  ·exact P4 ⟨o,c,m,e1,e2,by rw[b.block _ (ae f)];exact f,q⟩
def jx.posOf(h:jx B b S most w p d a e):posOf b w=p:=by unfold Go.Proofs.YtgkljcmjnphpeaaGreatDoor.posOf;rw[h.c1];simp[intOf]
def nE(n e:Nat):Nat:=if e=0 then n else e
def ro(h:jx B b S most w p d a e)(n:Nat)(g:n<=6):K8 Qe 109 #[M2 (O ⟨b,0,N⟩),I U n] w λi f=>i=Ps (OW #[])/\jx B b S most f p d a (nE n e)/\gb 5 B [b] w f:=by
 have j:=h.c4;have k:=h.fz 4;have l:=h.le;by_cases c:e=0
 ·subst c
  go_in
  go_wp2
  go_end0
  exact⟨rfl,h.set4 n g,(gb.refl _ _ _ _).setCell eA _⟩
 ·have e0:((e:Int)==0)=P2:=eB
  go_in
  go_wp2
  go_end0
  exact⟨rfl,by unfold nE;rw[ah c];exact h,gb.refl _ _ _ _⟩
def nl(most c:Nat)(f:List Nat×Nat):List Nat×Nat:=if f.2=0 then(if most<=f.1.length then(f.1,6)else(f.1++[c],0))else f
def Dq(h:jx B b S most w p d a e)(c:Nat)(hc:c<256):K8 Qe 108 #[M2 (O ⟨b,0,N⟩),I .u8 c] w λk y=>k=Ps (OW #[])/\∃Q,jx B b S most y p Q (nl most c (a,e)).1 (nl most c (a,e)).2/\gb 5 B [b] w y:=by
 obtain⟨M,F,J,K,L⟩:=bu infoByte;have r:=h.c2;have X:=h.c3;have c4:=h.c4;have le:=h.le;have lm:=h.lm;obtain⟨W,oc,m⟩:=jp h.own;have A:=H m;rw[m]at r;clear m;by_cases t:e=0
 ·subst t;by_cases u:most<=G a
  ·have E:decide ((most:Int)<=(G a:Int))=PV:=eB;have z:=H (λR=>ro (h.drewN R) 6 Y)
   go_in
   go_wp2_with fail;go_quiet (fail);go_wp2_with fail;apply(z nq).m;rintro k w1 ⟨rfl,h1,P⟩;have s:=h1.c4;unfold nE at s;simp only[if_true]at s;go_wp2
   go_end0
   refine⟨rfl,d,?_,((gb.refl _ _ _ _).drewN nq).t P⟩;simp only[nl,if_true,ai u];exact h1
  ·have E:decide ((most:Int)<=(G a:Int))=P2:=eB;have hs:=h.sz
   go_in
   go_wp2_with fail;go_quiet (fail);have i:=H ((h.drewN nq).alloc (Pp #[I .u8 (c:Nat)] 5));rw[<-A.o]at r;go_wp2_with (at_builtin;refine a_ _ rfl (.tmp 32) (.tmp 34) 23 rfl B 5 M (I .u8 0) 1 1 bB F J K L rfl cO d (G a) _ rfl i.o.own ⟨w.heap.size,0,N⟩ 1 1 ([c].map λk:Nat=>I .u8 (k:Int)) rfl rfl ?hnews ?hone ?h63 ?hby ?hbs ?_)
   case hnews=>
    intro v T f;match v,f with
    |0,f=>exact(iI (bn (w.drewN nq) _)).t f
    |v+1,f=>simp at f
   case hone=>intro T f;simp at f;subst f;rfl
   case h63=>unfold maxLen;omega
   case hby=>omega
   case hbs=>simp;omega
   intro v' V n g _;have j:((w.drewN nq).alloc (Pp #[I .u8 (c:Nat)] 5)).grownBy V d.ownBlock:=⟨g.os,g.tape,g.output,g.size,g.block⟩;clear g;have l:=i.o.grown_blk j;have k2:=rZ l;have f2:=jR 2 l;obtain⟨q,x,rfl⟩:=jp n;have D:=H (i.put (xs:=[c]) eB n j);have C:=H (((((gb.refl 5 B [b] w).drewN nq).alloc (Pp #[I .u8 (c:Nat)] 5)).grown j (tN i.o.own)).setCell (p:=⟨b,2,N⟩) eA (Z q (G a+1) x));clear n j l i;go_wp2
   go_end0
   refine⟨rfl,Z q (G a+1) x,?_,C⟩;simp only[nl,if_true,ah u];exact D
 ·have e0:((e:Int)==0)=P2:=eB
  go_in
  go_wp2_with fail;go_quiet (fail);go_wp2
  go_end0
  refine⟨rfl,d,?_,(gb.refl _ _ _ _).drewN nq⟩;simp only[nl,ah t];exact h.drewN nq
end
section
variable{B b:Nat}{S:ByteArray}{most:Nat}{w:Gr}{p:Nat}{g:GI}{a:List Nat}{e:Nat}
def EH(c:Nat)(w:Gr):K8 Qe 150 #[I .u8 c] w λh f=>h=Ps (OV (mf c))/\f=w:=by
 have d:mf c=((c:Int)==0||(c:Int)==9||(c:Int)==10||(c:Int)==12||(c:Int)==13||(c:Int)==32):=by unfold mf;rw[bC];simp;omega
 rw[d]
 go_in
 go_wp2;all_goals (go_ret;exact⟨by simp[*],rfl⟩)
def mu(d:List Nat)(p:Nat):Int:=if gh d p<G d then(nth d (gh d p):Nat)else -1
def pL(d:List Nat)(p:Nat):Nat:=if gh d p<G d then gh d p+1 else (G d)
def BA(h:jx B b S most w p g a e)(K:p<=S.size):K8 Qe 105 #[M2 (O ⟨b,0,N⟩)] w λP z=>P=Ps (I U (mu (bl S) p))/\jx B b S most z (pL (bl S) p) g a e/\gb 5 B [b] w z:=by
 have i:=mK S;have ls:=h.ls
 go_in
 go_wp2;go_loopw [3] (λ_ wr=>∃f:Nat,f<=S.size/\L1 (gh (bl S) f=gh (bl S) p)/\jx B b S most wr f g a e/\gb 5 B [b] w wr) (λ_ wr=>S.size-posOf b wr)
 case atStart=>exact⟨p,K,rfl,h,gb.refl _ _ _ _⟩
 case round=>
  clear h;obtain⟨f,hq,s,r,k⟩:=hrel;have M:=H r.posOf;have Q:=r.c0;have R:=r.c1;have V:=r.fz 1;by_cases v:f<S.size
  ·have X:(f:Int)<S.size:=Y;have m:=H i;have hx:=s8 S f v;have W:=lN S f v;have A:=H (vM (d:=bl S) (p:=f) Y);have C:=H (vL (d:=bl S) (p:=f));have L:=λF=>EH (nth (bl S) f) F;have q:=H r;have l:=H k;clear r k i;go_wp2_with fail;go_quiet (fail);have E:=H ((q.drewN nq).set1 (f+1) Y);have D:=H ((l.drewN nq).setCell (p:=⟨b,1,N⟩) eA (I U ((f+1:Nat):Int)));go_wp2_with fail;have T:IntKind.i64.wrap ((f:Int)+1-1)=(f:Int):=by rw[aU];omega
   go_quiet ((go_at_call 150;exact bj (L _)));have t:=H (E.drewN nq);have u:=H (D.drewN nq);cases y:mf (nth (bl S) f)with
   |true=>
    have n:=H ((A y).s.t s);go_wp2;go_roundw
    case rel=>exact⟨f+1,Y,n,t,u⟩
    case measure=>have e:=t.o.posOf;rw[show((f+1:Nat):Int)=(f:Int)+1 by omega]at e;rw[M.o,e];omega
   |false=>
    have n:=H ((C (λc=>by rw[y]at c;cases c.2)).s.t s);go_wp2_with fail;go_quiet (fail);go_wp2;go_ret;have j:=n.o;have J:=m.o;have e1:mu (bl S) p=(nth (bl S) f:Nat):=by unfold mu;rw[<-j,ai Y]
    have e2:pL (bl S) p=f+1:=by unfold pL;rw[<-j,ai Y]
    rw[e1,e2];exact⟨rfl,t.drewN nq,u.drewN nq⟩
  ·have m:=H i;have j:=H ((vL (d:=bl S) (p:=f) (λc=>Y)).s.t s);have aa:f=S.size:=Y;have q:=H r;have l:=H k;clear r k i;go_wp2_with fail;go_quiet (fail);go_wp2;go_ret;have J:=m.o;have x:=j.o;have e1:mu (bl S) p = -1:=by unfold mu;rw[<-x,ah Y]
   have e2:pL (bl S) p=f:=by unfold pL;rw[<-x,ah Y];omega
   rw[e1,e2];exact⟨rfl,q.drewN nq,l.drewN nq⟩
def Kd(S:ByteArray)(p:Nat) : -1<=mu (bl S) p/\mu (bl S) p<256:=by
 unfold mu;split
 ·rename_i h;rw[mK]at h;have:=lN S _ h;omega
 ·omega
def qm(c:List Nat)(p e:Nat):Nat:=if gh c p<G c then nE 5 e else e
def Ai(h:jx B b S most w p g a e)(k:p<=S.size):K8 Qe 106 #[M2 (O ⟨b,0,N⟩)] w λf j=>f=Ps (OW #[])/\jx B b S most j (pL (bl S) p) g a (qm (bl S) p e)/\gb 5 B [b] w j:=by
 have d:=H (BA h k);by_cases c:gh (bl S) p<(bl S).length
 ·have e1:mu (bl S) p=(nth (bl S) (gh (bl S) p):Nat):=by unfold mu;rw[ai c]
  have e2:qm (bl S) p e=nE 5 e:=by unfold qm;rw[ai c]
  rw[e1]at d;rw[e2];clear h;generalize nth (bl S) (gh (bl S) p)=n at *
  go_in
  go_wp2_with fail;apply d.o.m;rintro f m ⟨rfl,h1,i⟩;go_wp2_with fail;apply(ro h1 5 Y).m;rintro f q ⟨rfl,h2,l⟩;go_wp2
  go_end0
  exact⟨rfl,h2,i.t l⟩
 ·have e1:mu (bl S) p = -1:=by unfold mu;rw[ah c]
  have e2:qm (bl S) p e=e:=by unfold qm;rw[ah c]
  rw[e1]at d;rw[e2];clear h
  go_in
  go_wp2_with fail;apply d.o.m;rintro f m ⟨rfl,h1,i⟩;go_wp2
  go_end0
  exact⟨rfl,h1,i⟩
def mM(c:Int):Int:=if c<0 then -1 else match gI c.toNat with
 |some d=>(d:Nat)
 |none=> -1
def vJ(c:Nat):Nat:=nu c
def xB(c:Nat):Nat:=if c<10 then 48+c else 55+c
def Pd:∀c:Fin 16,mM (vJ c.val:Nat)=(c.val:Nat):=by decide +kernel
def su:∀c:Fin 16,mM (xB c.val:Nat)=(c.val:Nat):=by decide +kernel
def Pe:∀c:Fin 256,(∀d:Fin 16,c.val≠vJ d.val/\c.val≠xB d.val)->mM (c.val:Nat) = -1:=by decide +kernel
def DM(c:Nat)(h:c<16)(h2:c<({data:=#[48,49,50,51,52,53,54,55,56,57,65,66,67,68,69,70]}:ByteArray).size):(({data:=#[48,49,50,51,52,53,54,55,56,57,65,66,67,68,69,70]}:ByteArray)[c]'h2).toNat=xB c:=by
 match c,h with
 |0,_=>rfl
 |1,_=>rfl
 |2,_=>rfl
 |3,_=>rfl
 |4,_=>rfl
 |5,_=>rfl
 |6,_=>rfl
 |7,_=>rfl
 |8,_=>rfl
 |9,_=>rfl
 |10,_=>rfl
 |11,_=>rfl
 |12,_=>rfl
 |13,_=>rfl
 |14,_=>rfl
 |15,_=>rfl
 |d+16,h=>exact absurd h Y
def yb(c:Int)(h1 : -1<=c)(h2:c<256)(w:Gr):K8 Qe 107 #[I U c] w λy x=>y=Ps (I U (mM c))/\x=w:=by
 go_in
 go_wp2;go_loopw [3] (λj wr=>∃k:Nat,k<=16/\j=I U k/\L1 (∀d,d<k->c≠(vJ d:Nat)/\c≠(xB d:Nat))/\wr=w) (λj _=>16-(intOf j).toNat)
 case atStart=>exact⟨0,Y,rfl,λd u=>Y,rfl⟩
 case round=>
  obtain⟨k,E,rfl,l,rfl⟩:=hrel;by_cases f:k<16
  ·have J:=zx k f (by show k<16;omega);have K:=DM k f (by show k<16;omega);have F:(k:Int)<16:=Y;have m:=H (Pd ⟨k,f⟩);have n:=H (su ⟨k,f⟩);simp only[vJ]at m n;have C:=td k f;have D:xB k<256:=by unfold xB;split<;>omega
   have s:L1 ((∀d,d<k->c≠(vJ d:Nat)/\c≠(xB d:Nat))->c≠(nu k:Nat)->c≠(xB k:Nat)->∀d,d<k+1->c≠(vJ d:Nat)/\c≠(xB d:Nat)):=by
    intro h1 h2 h3 d u;by_cases e:d=k;·subst e;exact⟨h2,h3⟩
    ·exact h1 d Y
   generalize nu k=q at *;generalize xB k=r at *;by_cases h:c=(q:Nat)
   ·subst h;go_wp2;go_ret;exact⟨ri m.s,rfl⟩
   ·have z:(c==(q:Int))=P2:=by simpa using h
    by_cases i:c=(r:Nat)
    ·subst i;go_wp2;go_ret;exact⟨ri n.s,rfl⟩
    ·have A:(c==(r:Int))=P2:=by simpa using i
     go_wp2;go_roundw
     case rel=>exact⟨k+1,Y,by go_num,s l h i,trivial⟩
     case measure=>simp[intOf];omega
  ·obtain rfl:k=16:=Y;go_wp2;go_ret;refine⟨ri ?_,rfl⟩;by_cases t:c<0;·simp[mM,t]
   ·obtain⟨v,rfl⟩:=Int.eq_ofNat_of_zero_le (show 0<=c by omega);have:=Pe ⟨v,Y⟩ (λd=>by
     have:=l.o d.val d.isLt;constructor;·intro e;exact this.1 (by simp only[]at e;omega)
     ·intro e;exact this.2 (by simp only[]at e;omega))
    exact this.s
def vD(d:Except Nat (List Nat))(h:List Nat)(e:Nat):Prop:=match d with
 | .ok f=>e=0/\h=f
 | .error c=>e=c/\c≠0
def errOf(b:Nat)(w:Gr):Nat:=(intOf ((w.cell? ⟨b,4,N⟩).getD undef)).toNat
def jx.errOf(h:jx B b S most w p g a e):errOf b w=e:=by unfold Go.Proofs.YtgkljcmjnphpeaaGreatDoor.errOf;rw[h.c4];simp[intOf]
def Aj{c:Nat}(h:G a+1<=most):nl most c (a,0)=(a++[c],0):=by unfold nl;simp only[if_true];rw[ah Y]
def Bt{c:Nat}(h:¬(G a)+1<=most):nl most c (a,0)=(a,6):=by unfold nl;simp only[if_true];rw[ai Y]
def JP{c d:Nat}(h:d≠0):nl most c (a,d)=(a,d):=by unfold nl;simp only[ah h]
def rz(n:Nat):nE n 0=n:=by unfold nE;simp
def re{c e:Nat}(h:e≠0):nE c e=e:=by unfold nE;rw[ah h]
def EA(c:List Nat)(f:Nat)(d:List Nat):vD (mG c f d) d (qm c f 0):=by
 unfold mG qm;split;·exact⟨rz 5,Y⟩
 ·exact⟨rfl,rfl⟩
def Ga{d:List Nat}{f c:Nat}(h:c≠0):qm d f c=c:=by
 unfold qm;split;·exact re h
 ·rfl
def Hk(i:Nat->Nat->List Nat->Except Nat (List Nat))(h:Nat)(d:Except Nat (List Nat))(c:Nat)(j:List Nat)(e:Nat):Prop:=
 (e=0/\c<=h/\∃f,i f c j=d/\h-c<f)\/(e≠0/\d=.error e)
def GF{c:List Nat}{p:Nat}(h:¬(G c)<=gh c p):mu c p=(nth c (gh c p):Nat):=by unfold mu;rw[ai Y]
def GD{c:List Nat}{p:Nat}(h:¬(G c)<=gh c p):pL c p=gh c p+1:=by unfold pL;rw[ai Y]
def EK{c:List Nat}{p:Nat}(h:G c<=gh c p):mu c p = -1:=by unfold mu;rw[ah Y]
def EJ{c:List Nat}{p:Nat}(h:G c<=gh c p):pL c p=G c:=by unfold pL;rw[ah Y]
def Ke{c d:Nat}(h:gI c=O d):mM (c:Nat)=(d:Nat):=by unfold mM;rw[ah Y,show((c:Nat):Int).toNat=c by omega,h]
def Du{c:Nat}(h:gI c=N):mM (c:Nat) = -1:=by unfold mM;rw[ah Y,show((c:Nat):Int).toNat=c by omega,h]
def zu{c d:Nat}(h:gI c=O d):d<16:=by
 unfold gI at h;split at h;·simp at h;omega
 ·split at h;·simp at h;omega
  ·split at h;·simp at h;omega
   ·cases h
def OS:mM 62 = -1:=by decide +kernel
def Ay:mM (-1) = -1:=by decide +kernel
def GM(c:Int)(h:c<256) : -1<=mM c/\mM c<16:=by
 unfold mM;split;·omega
 ·split
  ·rename_i f d;have:=zu d;omega
  ·omega
def vR(h:jx B b S most w p g a e)(d:Int)(c:Nat)(j:d=c)(i:c<256):K8 Qe 108 #[M2 (O ⟨b,0,N⟩),I .u8 d] w λl f=>l=Ps (OW #[])/\∃k,jx B b S most f p k (nl most c (a,e)).1 (nl most c (a,e)).2/\gb 5 B [b] w f:=by
 subst j;exact Dq h c i
def EE(h:jx B b S most w p g a e)(j:e≠0)(d:Int)(i:0<=d)(h1:d<256):K8 Qe 108 #[M2 (O ⟨b,0,N⟩),I .u8 d] w λl f=>l=Ps (OW #[])/\∃k,jx B b S most f p k a e/\gb 5 B [b] w f:=by
 obtain⟨c,rfl⟩:=Int.eq_ofNat_of_zero_le i;have:=Dq h c Y;rw[JP j]at this;exact this
def N5(h:jx B b S most w p g a 0)(hp:p<=S.size)(ao:Except Nat (List Nat))(a0:Nat)(hf:S.size-p<a0)(hR:vI (bl S) most a0 p a=ao):K8 Qe 74 #[M2 (O ⟨b,0,N⟩)] w λd q=>d=Ps (OW #[])/\∃p' ac n e,jx B b S most q p' ac n e/\vD ao n e/\gb 5 B [b] w q:=by
 have hl:=mK S
 go_in
 go_wp2;go_loopw [2] (λ_ wr=>∃(x:Nat) (ac:GI) (n:List Nat) (e:Nat),jx B b S most wr x ac n e/\L1 (Hk (vI (bl S) most) S.size ao x n e)/\gb 5 B [b] w wr) (λ_ wr=>if errOf b wr=0 then S.size+1-posOf b wr else 0)
 case atStart=>exact⟨p,g,a,0,h,P3 ⟨rfl,hp,a0,hR,hf⟩,gb.refl _ _ _ _⟩
 case round=>
  obtain⟨x,ac,n,e,r,a6,A⟩:=hrel;have X:=H r.posOf;have W:=H r.errOf;have c4:=r.c4;rcases a6.o with⟨rfl,hq,f',f,bd⟩|⟨he,hR⟩
  ·obtain⟨a1,rfl⟩:∃a1,f'=a1+1:=⟨f'-1,Y⟩;have a4:=H hl;have sv:=Kd S x;have Q:=H (BA r hq);simp only[vI]at f;by_cases T:(bl S).length<=gh (bl S) x
   ·rw[ai T]at f;rw[EK T,EJ T]at Q;have k:=H f;go_wp2_with fail;apply Q.o.m;rintro d w1 ⟨rfl,M,u⟩;have y:=H (BA M (by rw[a4.o];exact ag _));have e2:gh (bl S) (bl S).length=(bl S).length:=vL (λc=>Y);rw[EK (by rw[e2];exact ag _),EJ (by rw[e2];exact ag _)]at y;go_wp2_with fail;apply y.o.m;rintro d w2 ⟨rfl,o,l⟩;have K:=yb (-1) Y Y;rw[Ay]at K;go_wp2_with (go_at_call 107;apply(K _).m;rintro d q ⟨rfl,rfl⟩);apply(ro o 5 Y).m;rintro d P ⟨rfl,i,m⟩;rw[rz]at i;go_wp2_with fail;apply(EE i Y _ pw pw).m;rintro d w4 ⟨rfl,L,j,z⟩;have F:=H j.errOf;go_wp2;go_roundw
    case rel=>exact⟨_,L,n,5,j,P4 ⟨Y,k.s⟩,(((A.t u).t l).t m).t z⟩
    case measure=>rw[X.o,W.o,F.o];simp;omega
   ·rw[ah T]at f;rw[GF T,GD T]at Q;have hX:nth (bl S) (gh (bl S) x)<256:=lN S _ Y;have a2:gh (bl S) x+1<=S.size:=Y;have bf:x<=gh (bl S) x:=Av _ _;generalize nth (bl S) (gh (bl S) x)=al at *;generalize hK:gh (bl S) x=s at *;by_cases c2:al=62
    ·rw[ai c2]at f;subst c2;have k:=H f;go_wp2_with fail;apply Q.o.m;rintro d w1 ⟨rfl,M,u⟩;go_wp2_with fail;apply(Ai M a2).m;rintro d w2 ⟨rfl,o,l⟩;go_wp2;refine av (v:=OW #[]) B8 rfl ?_;exact⟨rfl,_,_,_,_,o,by rw[<-k.o];exact EA _ _ _,(A.t u).t l⟩
    ·rw[ah c2]at f;have ba:((al:Int)==62)=P2:=eB;have sv:=Kd S (s+1);have K:=yb (al:Int) Y Y;cases hx:gI al with
     |none=>
      rw[hx]at f;simp only[]at f;rw[Du hx]at K;have k:=H f;have R:=H K;go_wp2_with fail;apply Q.o.m;rintro d w1 ⟨rfl,M,u⟩;have y:=H (BA M a2);have t:=yb (mu (bl S) (s+1)) sv.1 sv.2;have hZ:=GM (mu (bl S) (s+1)) sv.2;generalize mM (mu (bl S) (s+1))=a9 at *;generalize mu (bl S) (s+1)=aa at *;have D:=H t;go_wp2_with fail;apply y.o.m;rintro d w2 ⟨rfl,o,l⟩;go_wp2_with fail;apply(R _).m;rintro d q ⟨rfl,rfl⟩;go_wp2_with fail;apply(D _).m;rintro d q ⟨rfl,rfl⟩;go_wp2_with fail;apply(ro o 5 Y).m;rintro d P ⟨rfl,i,m⟩;rw[rz]at i;go_wp2_with fail;apply(EE i Y _ pw pw).m;rintro d w4 ⟨rfl,L,j,z⟩;have F:=H j.errOf;go_wp2;go_roundw
      case rel=>exact⟨_,L,n,5,j,P4 ⟨Y,k.s⟩,(((A.t u).t l).t m).t z⟩
      case measure=>rw[X.o,W.o,F.o];simp;omega
     |some x0=>
      rw[hx]at f;simp only[]at f;rw[Ke hx]at K;have bm:=zu hx;have R:=H K;go_wp2_with fail;apply Q.o.m;rintro d w1 ⟨rfl,M,u⟩;have y:=H (BA M a2);by_cases V:(bl S).length<=gh (bl S) (s+1)
      ·rw[ai V]at f;have k:=H f;rw[EK V,EJ V]at y;have t:=yb (-1) Y Y;rw[Ay]at t;have D:=H t;go_wp2_with fail;apply y.o.m;rintro d w2 ⟨rfl,o,l⟩;go_wp2_with fail;apply(R _).m;rintro d q ⟨rfl,rfl⟩;go_wp2_with fail;apply(D _).m;rintro d q ⟨rfl,rfl⟩;go_wp2_with fail;apply(ro o 5 Y).m;rintro d P ⟨rfl,i,m⟩;rw[rz]at i;go_wp2_with fail;apply(EE i Y _ pw pw).m;rintro d w4 ⟨rfl,L,j,z⟩;have F:=H j.errOf;go_wp2;go_roundw
       case rel=>exact⟨_,L,n,5,j,P4 ⟨Y,k.s⟩,(((A.t u).t l).t m).t z⟩
       case measure=>rw[X.o,W.o,F.o];simp;omega
      ·rw[ah V]at f;rw[GF V,GD V]at y;have hY:nth (bl S) (gh (bl S) (s+1))<256:=lN S _ Y;have a3:gh (bl S) (s+1)+1<=S.size:=Y;have bi:s+1<=gh (bl S) (s+1):=Av _ _;generalize nth (bl S) (gh (bl S) (s+1))=aa at *;generalize hM:gh (bl S) (s+1)=a8 at *;by_cases c4:aa=62
       ·rw[ai c4]at f;subst c4;have t:=yb 62 Y Y;rw[OS]at t;have D:=H t;have k:=H f;have a7:(16*(x0:Int))%256=((16*x0:Nat):Int):=Y;go_wp2_with fail;apply y.o.m;rintro d w2 ⟨rfl,o,l⟩;go_wp2_with fail;apply(R _).m;rintro d q ⟨rfl,rfl⟩;go_wp2_with fail;apply(D _).m;rintro d q ⟨rfl,rfl⟩;have C:=H (Dq o (16*x0) Y);by_cases E:G n+1<=most
        ·rw[Aj E]at C;have J:=H (k.s.t (ai E));go_wp2_with fail;apply C.o.m;rintro d P ⟨rfl,ad,i,m⟩;go_wp2_with fail;apply(Ai i a3).m;rintro d w4 ⟨rfl,j,z⟩;go_wp2;refine av (v:=OW #[]) B8 rfl ?_;exact⟨rfl,_,_,_,_,j,by rw[J.o];exact EA _ _ _,(((A.t u).t l).t m).t z⟩
        ·rw[Bt E]at C;have J:=H (k.s.t (ah E));go_wp2_with fail;apply C.o.m;rintro d P ⟨rfl,ad,i,m⟩;go_wp2_with fail;apply(Ai i a3).m;rintro d w4 ⟨rfl,j,z⟩;rw[Ga Y]at j;go_wp2;refine av (v:=OW #[]) B8 rfl ?_;exact⟨rfl,_,_,_,_,j,by rw[J.o];exact⟨rfl,Y⟩,(((A.t u).t l).t m).t z⟩
       ·rw[ah c4]at f;have bb:((aa:Int)==62)=P2:=eB;have t:=yb (aa:Int) Y Y;cases hy:gI aa with
        |none=>
         rw[hy]at f;simp only[]at f;rw[Du hy]at t;have k:=H f;have D:=H t;go_wp2_with fail;apply y.o.m;rintro d w2 ⟨rfl,o,l⟩;go_wp2_with fail;apply(R _).m;rintro d q ⟨rfl,rfl⟩;go_wp2_with fail;apply(D _).m;rintro d q ⟨rfl,rfl⟩;go_wp2_with fail;apply(ro o 5 Y).m;rintro d P ⟨rfl,i,m⟩;rw[rz]at i;go_wp2_with fail;apply(EE i Y _ pw pw).m;rintro d w4 ⟨rfl,L,j,z⟩;have F:=H j.errOf;go_wp2;go_roundw
         case rel=>exact⟨_,L,n,5,j,P4 ⟨Y,k.s⟩,(((A.t u).t l).t m).t z⟩
         case measure=>rw[X.o,W.o,F.o];simp;omega
        |some y0=>
         rw[hy]at f;simp only[]at f;rw[Ke hy]at t;have bo:=zu hy;have k:=H f;have D:=H t;have a7:(16*(x0:Int)+(y0:Int))%256=((16*x0+y0:Nat):Int):=Y;go_wp2_with fail;apply y.o.m;rintro d w2 ⟨rfl,o,l⟩;go_wp2_with fail;apply(R _).m;rintro d q ⟨rfl,rfl⟩;go_wp2_with fail;apply(D _).m;rintro d q ⟨rfl,rfl⟩;have C:=H (Dq o (16*x0+y0) Y);by_cases E:G n+1<=most
         ·rw[Aj E]at C;have J:=H (k.s.t (ai E));go_wp2_with fail;apply C.o.m;rintro d P ⟨rfl,ad,i,m⟩;have m3:=H i.errOf;have F:=H i.posOf;go_wp2;go_roundw
          case rel=>exact⟨_,ad,_,0,i,P3 ⟨rfl,a3,a1,J.s,Y⟩,((A.t u).t l).t m⟩
          case measure=>rw[X.o,W.o,m3.o,F.o];simp;omega
         ·rw[Bt E]at C;have J:=H (k.s.t (ah E));go_wp2_with fail;apply C.o.m;rintro d P ⟨rfl,ad,i,m⟩;have m3:=H i.errOf;go_wp2;go_roundw
          case rel=>exact⟨_,ad,_,6,i,P4 ⟨Y,J⟩,((A.t u).t l).t m⟩
          case measure=>rw[X.o,W.o,m3.o];simp;omega
  ·have bc:((e:Int)==0)=P2:=eB;have a5:=H hR;go_wp2
   go_end0
   exact⟨rfl,x,ac,n,e,r,by rw[a5.o];exact⟨rfl,he⟩,A⟩
def lD(most:Nat)(f:List Nat)(d:List Nat×Nat):List Nat×Nat:=f.foldl (λd c=>nl most c d) d
def rs(most:Nat)(d:List Nat)(c:Nat)(f:List Nat×Nat):lD most (d++[c]) f=nl most c (lD most d f):=by simp[lD]
def Gu(most:Nat)(d:List Nat){f:Nat}(h:f≠0)(i:List Nat):lD most d (i,f)=(i,f):=by
 induction d with
 |nil=>rfl
 |cons c d j=>show lD most d (nl most c (i,f))=_;rw[JP h];exact j
def Bv(most:Nat):∀(d:List Nat) (f:List Nat),G f+G d<=most->lD most d (f,0)=(f++d,0)
 | [],f,_=>by simp[lD]
 |c::d,f,h=>by simp only[aj]at h;show lD most d (nl most c (f,0))=_;rw[Aj Y,Bv most d _ eB];simp
def rf(most:Nat):∀(f:List Nat) (d:List Nat),G d<=most->most<G d+G f->(lD most f (d,0)).2=6
 | [],d,j,h=>by simp at h;omega
 |c::f,d,j,h=>by
  simp only[aj]at h;show(lD most f (nl most c (d,0))).2=_;by_cases i:G d+1<=most
  ·rw[Aj i];exact rf most f _ eB eB
  ·rw[Bt i,Gu most f Y]
def tM(c:Nat):List Nat:=[c/16777216%256,c/65536%256,c/256%256,c%256]
def IZ{c:Nat}(h:c<4294967296):tM c=aO c:=by unfold tM aO;rw[ed (show c/16777216<256 by omega)]
def qh(c e:Nat):Nat:=if 4294967296<=c then nE 5 e else e
def tg(d c:Nat)(f:c<4):(tM d).take (c+1)=(tM d).take c++[nth (tM d) c]:=by
 match c,f with
 |0,_=>rfl
 |1,_=>rfl
 |2,_=>rfl
 |3,_=>rfl
def Fh(h:jx B b S most w p g a e)(d k:Nat)(P:d<=5000000000)(M:k<=4):K8 Qe 110 #[M2 (O ⟨b,0,N⟩),I U d,I U k] w λm J=>m=Ps (OW #[])/\∃t,jx B b S most J p t (lD most ((tM d).take k) (a,qh d e)).1 (lD most ((tM d).take k) (a,qh d e)).2/\gb 5 B [b] w J:=by
 obtain⟨u,y⟩:∃u,qh d e=u:=⟨_,rfl⟩;rw[y];by_cases C:4294967296<=d
 ·have E:(4294967296:Int)<=d:=Y;have D:nE 5 e=u:=by rw[<-y,qh,ai C]
  have F:=H (ro h 5 Y);rw[D]at F;clear y D
  go_in
  go_wp2_with fail;apply F.o.m;rintro m Q ⟨rfl,A,z⟩;go_wp2;go_loopw [6] (λv wr=>∃(c:Nat) (t:GI),c<=k/\v=I U c/\jx B b S most wr p t (lD most ((tM d).take c) (a,u)).1 (lD most ((tM d).take c) (a,u)).2/\gb 5 B [b] w wr) (λv _=>k-(intOf v).toNat)
  case atStart=>exact⟨0,g,aH _,rfl,by simpa[lD]using A,z⟩
  clear A z C E
  case round=>
   obtain⟨c,t,K,rfl,r,l⟩:=hrel;by_cases s:c<k
   ·have L:(c:Int)<k:=Y;have q:=H (tg d c Y);have n:=H (rs most ((tM d).take c) (nth (tM d) c) (a,u));obtain rfl|rfl|rfl|rfl:c=0\/c=1\/c=2\/c=3:=Y
    ·go_wp2_with fail;apply(vR r _ (d/16777216%256) Y Y).m;rintro m x ⟨rfl,i,j,f⟩;go_wp2;go_roundw
     case rel=>exact⟨1,i,s,rfl,by rw[q.o,n.o];exact j,l.t f⟩
     case measure=>simp[intOf];omega
    ·go_wp2_with fail;apply(vR r _ (d/65536%256) Y Y).m;rintro m x ⟨rfl,i,j,f⟩;go_wp2;go_roundw
     case rel=>exact⟨2,i,s,rfl,by rw[q.o,n.o];exact j,l.t f⟩
     case measure=>simp[intOf];omega
    ·go_wp2_with fail;apply(vR r _ (d/256%256) Y Y).m;rintro m x ⟨rfl,i,j,f⟩;go_wp2;go_roundw
     case rel=>exact⟨3,i,s,rfl,by rw[q.o,n.o];exact j,l.t f⟩
     case measure=>simp[intOf];omega
    ·go_wp2_with fail;apply(vR r _ (d%256) Y Y).m;rintro m x ⟨rfl,i,j,f⟩;go_wp2;go_roundw
     case rel=>exact⟨4,i,s,rfl,by rw[q.o,n.o];exact j,l.t f⟩
     case measure=>simp[intOf];omega
   ·obtain rfl:c=k:=Y;go_wp2
    go_end0
    exact⟨rfl,t,r,l⟩
 ·have E:¬(4294967296:Int)<=d:=Y;have D:e=u:=by rw[<-y,qh,ah C]
  subst D;have A:=h;have z:=gb.refl 5 B [b] w;clear y h
  go_in
  go_wp2;go_loopw [6] (λv wr=>∃(c:Nat) (t:GI),c<=k/\v=I U c/\jx B b S most wr p t (lD most ((tM d).take c) (a,e)).1 (lD most ((tM d).take c) (a,e)).2/\gb 5 B [b] w wr) (λv _=>k-(intOf v).toNat)
  case atStart=>exact⟨0,g,aH _,rfl,by simpa[lD]using A,z⟩
  clear A z C E
  case round=>
   obtain⟨c,t,K,rfl,r,l⟩:=hrel;by_cases s:c<k
   ·have L:(c:Int)<k:=Y;have q:=H (tg d c Y);have n:=H (rs most ((tM d).take c) (nth (tM d) c) (a,e));obtain rfl|rfl|rfl|rfl:c=0\/c=1\/c=2\/c=3:=Y
    ·go_wp2_with fail;apply(vR r _ (d/16777216%256) Y Y).m;rintro m x ⟨rfl,i,j,f⟩;go_wp2;go_roundw
     case rel=>exact⟨1,i,s,rfl,by rw[q.o,n.o];exact j,l.t f⟩
     case measure=>simp[intOf];omega
    ·go_wp2_with fail;apply(vR r _ (d/65536%256) Y Y).m;rintro m x ⟨rfl,i,j,f⟩;go_wp2;go_roundw
     case rel=>exact⟨2,i,s,rfl,by rw[q.o,n.o];exact j,l.t f⟩
     case measure=>simp[intOf];omega
    ·go_wp2_with fail;apply(vR r _ (d/256%256) Y Y).m;rintro m x ⟨rfl,i,j,f⟩;go_wp2;go_roundw
     case rel=>exact⟨3,i,s,rfl,by rw[q.o,n.o];exact j,l.t f⟩
     case measure=>simp[intOf];omega
    ·go_wp2_with fail;apply(vR r _ (d%256) Y Y).m;rintro m x ⟨rfl,i,j,f⟩;go_wp2;go_roundw
     case rel=>exact⟨4,i,s,rfl,by rw[q.o,n.o];exact j,l.t f⟩
     case measure=>simp[intOf];omega
   ·obtain rfl:c=k:=Y;go_wp2
    go_end0
    exact⟨rfl,t,r,l⟩
def La(S:ByteArray)(c:Int)(d:Nat)(f:c.toNat=d)(h:c.toNat<S.size):(S[c.toNat]'h).toNat=nth (bl S) d:=by subst f;exact s8 S _ h
def Kq(c:List Nat)(p d:Nat)(h:p+d<G c):(c.drop p).take (d+1)=(c.drop p).take d++[nth c (p+d)]:=by
 have f:d<(c.drop p).length:=by rw[au];omega
 rw[bJ f];congr 2;rw[List.getElem_drop];simp[nth,h]
def xY(h:jx B b S most w p g a 0)(hp:p<=S.size)(ad:Except Nat (List Nat))(ao:Nat)(hf:S.size-p<ao)(hR:rD (bl S) most ao p a=ad):K8 Qe 76 #[M2 (O ⟨b,0,N⟩)] w λK w'=>K=Ps (OW #[])/\∃p' J l e,jx B b S most w' p' J l e/\vD ad l e/\gb 5 B [b] w w':=by
 have hl:=mK S
 go_in
 go_wp2;go_loopw [2] (λ_ wr=>∃(j:Nat) (J:GI) (l:List Nat) (e:Nat),jx B b S most wr j J l e/\L1 (Hk (rD (bl S) most) S.size ad j l e)/\gb 5 B [b] w wr) (λ_ wr=>if errOf b wr=0 then S.size+1-posOf b wr else 0)
 case atStart=>exact⟨p,g,a,0,h,P3 ⟨rfl,hp,ao,hR,hf⟩,gb.refl _ _ _ _⟩
 case round=>
  obtain⟨j,J,l,e,r,a7,kk⟩:=hrel;have mr:=H r.posOf;have me:=H r.errOf;have L:=r.c4;rcases a7.o with⟨rfl,hq,f',k,bo⟩|⟨he,hR⟩
  ·obtain⟨X,rfl⟩:∃X,f'=X+1:=⟨f'-1,Y⟩;have c0:=r.c0;have a9:=r.c1;have f1:=r.fz 1;have lo:=r.lo;have ls:=r.ls;simp only[rD]at k;by_cases c1:(bl S).length<=j
   ·rw[ai c1]at k;have n:=H k;have d1:(S.size:Int)<=(j:Int):=Y;go_wp2_with fail;go_quiet (fail);go_wp2_with fail;apply(ro (r.drewN nq) 5 Y).m;rintro K w2 ⟨rfl,f,o⟩;rw[rz]at f;go_wp2;refine av (v:=OW #[]) wf rfl ?_;exact⟨rfl,_,_,_,_,f,by rw[<-n.o];exact⟨rfl,Y⟩,(kk.drewN nq).t o⟩
   ·rw[ah c1]at k;have d1:¬(S.size:Int)<=(j:Int):=Y;have d2:(j:Int)<S.size:=Y;have a5:j<S.size:=Y;have hx:=s8 S j a5;have hX:=lN S _ a5;have aa:=H r;have a6:=H kk;generalize nth (bl S) j=d at *;go_wp2_with fail;go_quiet (fail);have W:=H (aa.drewN nq);have K0:=H (a6.drewN nq);generalize wr.drewN nq=W0 at *;have c0:=W.o.c0;have a9:=W.o.c1;have f1:=W.o.fz 1;go_wp2_with fail;go_quiet (fail);have z:=H ((W.drewN nq).set1 (j+1) Y);have y:=H ((K0.drewN nq).setCell (p:=⟨b,1,N⟩) eA (I U ((j+1:Nat):Int)));have bb:((j+1:Nat):Int)=(j:Int)+1:=Y;rw[bb]at z y;by_cases c2:d=128
    ·rw[ai c2]at k;subst c2;by_cases Q:j+1<(bl S).length
     ·rw[ai Q]at k;have n:=H k;have d3:(j:Int)+1<S.size:=Y;go_wp2_with fail;go_quiet (fail);go_wp2_with fail;apply(ro (z.drewN nq) 5 Y).m;rintro K w2 ⟨rfl,f,o⟩;rw[rz]at f;go_wp2;refine av (v:=OW #[]) wf rfl ?_;exact⟨rfl,_,_,_,_,f,by rw[<-n.o];exact⟨rfl,Y⟩,(y.drewN nq).t o⟩
     ·rw[ah Q]at k;have n:=H k;have d3:¬(j:Int)+1<S.size:=Y;go_wp2_with fail;go_quiet (fail);go_wp2;refine av (v:=OW #[]) wf rfl ?_;exact⟨rfl,_,_,_,_,z.drewN nq,by rw[<-n.o];exact⟨rfl,rfl⟩,y.drewN nq⟩
    ·rw[ah c2]at k;have dX:((d:Int)==128)=P2:=eB;by_cases Q:d<128
     ·rw[ai Q]at k;have ba:(d:Int)<128:=Y;by_cases L:j+1+(d+1)<=(bl S).length
      ·rw[ai L]at k;have n:=H k;have d4:¬(S.size:Int)<(j:Int)+1+((d:Int)+1):=Y;go_wp2_with fail;go_quiet (fail);have A:=H (z.drewN nq);have P:=H (y.drewN nq);go_wp2;obtain⟨c,M⟩:∃c,j+1=c:=⟨_,rfl⟩;have u:=H M;rw[M]at A;have al:c+(d+1)<=S.size:=Y;go_loopw [4] (λE t=>∃(i:Nat) (V:GI),i<=d+1/\E=I U i/\jx B b S most t c V (lD most (((bl S).drop c).take i) (l,0)).1 (lD most (((bl S).drop c).take i) (l,0)).2/\gb 5 B [b] w t) (λE _=>d+1-(intOf E).toNat)
       case atStart=>exact⟨0,_,aH _,rfl,by simpa[lD]using A.o,P⟩
       case round=>
        obtain⟨i,V,hj,rfl,f,o⟩:=hrel;by_cases cj:i<d+1
        ·have a4:(i:Int)<(d:Int)+1:=Y;have bd:c+i<S.size:=Y;have br:IntKind.i64.wrap ((c:Int)+(i:Int))=((c+i:Nat):Int):=by rw[aU];omega
         have bq:(0:Int)<=((c+i:Nat):Int):=Y;have a1:∀h,(S[((c:Int)+(i:Int)).toNat]'h).toNat=nth (bl S) (c+i):=λh=>La S _ _ Y h;have hY:=lN S (c+i) bd;have HT:=H (Kq (bl S) c i Y);have ac:=H (rs most (((bl S).drop c).take i) (nth (bl S) (c+i)) (l,0));have g0:=f.c0;have R:=f.c1;generalize nth (bl S) (c+i)=q at *;go_wp2_with fail;go_region_with (go_at_call 108;apply(vR (f.drewN 1) _ q (by first|rfl|(rw[a1])|omega) hY).m;rintro K w3 ⟨rfl,a2,r3,k3⟩);all_goals go_wp2
         all_goals go_roundw
         all_goals first|exact⟨i+1,a2,Y,by go_num,by rw[HT.o,ac.o];exact r3,(o.drewN 1).t k3⟩|(simp[intOf];omega)
        ·obtain rfl:i=d+1:=Y;have T:(((bl S).drop c).take (d+1)).length=d+1:=by rw[ay,au];omega
         by_cases C:G l+(d+1)<=most
         ·rw[Bv most _ l (by rw[T];exact C)]at f;have x:=H (n.s.t (ai C));have R:=f.c1;have g2:=f.fz 1;have m:=H (f.set1 (c+(d+1)) Y);have s:=H (o.setCell (p:=⟨b,1,N⟩) eA (I U (((c+(d+1)):Nat):Int)));have D:(((c+(d+1)):Nat):Int)=(c:Int)+((d:Int)+1):=Y;rw[D]at m s;have F:=H m.errOf;have m4:=H m.posOf;go_wp2;go_loopw [5] (λvi a3=>vi=I U d/\a3=wr) (λ_ _=>0)
          case atStart=>exact⟨rfl,rfl⟩
          case round=>
           obtain⟨rfl,rfl⟩:=hrel;go_wp2;go_roundw
           case rel=>exact⟨_,_,_,0,m,P3 ⟨rfl,Y,X,(by rw[<-u.o]at *;exact x.s),by have:=u.o;omega⟩,s⟩
           case measure=>have bc:=u.o;rw[mr.o,me.o,F.o,m4.o];simp;omega
         ·have a0:=rf most (((bl S).drop c).take (d+1)) l lo (by rw[T];omega);have x:=H (n.s.t (ah C));rw[a0]at f;have R:=f.c1;have g2:=f.fz 1;have m:=H (f.set1 (c+(d+1)) Y);have s:=H (o.setCell (p:=⟨b,1,N⟩) eA (I U (((c+(d+1)):Nat):Int)));have D:(((c+(d+1)):Nat):Int)=(c:Int)+((d:Int)+1):=Y;rw[D]at m s;have F:=H m.errOf;go_wp2;go_loopw [5] (λvi a3=>vi=I U d/\a3=wr) (λ_ _=>0)
          case atStart=>exact⟨rfl,rfl⟩
          case round=>
           obtain⟨rfl,rfl⟩:=hrel;go_wp2;go_roundw
           case rel=>exact⟨_,_,_,6,m,P4 ⟨Y,x⟩,s⟩
           case measure=>rw[mr.o,me.o,F.o];simp;omega
      ·rw[ah L]at k;have n:=H k;have d4:(S.size:Int)<(j:Int)+1+((d:Int)+1):=Y;go_wp2_with fail;go_quiet (fail);go_wp2_with fail;apply(ro (z.drewN nq) 5 Y).m;rintro K w2 ⟨rfl,f,o⟩;rw[rz]at f;go_wp2;refine av (v:=OW #[]) wf rfl ?_;exact⟨rfl,_,_,_,_,f,by rw[<-n.o];exact⟨rfl,Y⟩,(y.drewN nq).t o⟩
     ·rw[ah Q]at k;have ba:¬(d:Int)<128:=Y;have bi:(128:Int)<d:=Y;by_cases L:j+1<(bl S).length
      ·rw[ai L]at k;have n:=H k;have d4:¬(S.size:Int)<(j:Int)+1+1:=Y;go_wp2_with fail;go_quiet (fail);have A:=H (z.drewN nq);have P:=H (y.drewN nq);go_wp2;obtain⟨c,M⟩:∃c,j+1=c:=⟨_,rfl⟩;have u:=H M;rw[M]at A;have al:c<S.size:=Y;have bf:(c:Int)<S.size:=Y;have a1:=s8 S c al;have hY:=lN S c al;have a8:L1 (nth (bl S) (j+1)=nth (bl S) c):=by rw[M];exact H rfl
       rw[a8.o]at n;generalize nth (bl S) c=q at *;go_loopw [4] (λvi t=>jx B b S most t c J l 0/\gb 5 B [b] w t) (λ_ _=>0)
       case atStart=>exact⟨A,P⟩
       case round=>
        obtain⟨A,P⟩:=hrel;go_wp2;go_loopw [5] (λE t=>∃(i:Nat) (V:GI),i<=257-d/\E=I U (d+i:Nat)/\jx B b S most t c V (lD most (Qf i q) (l,0)).1 (lD most (Qf i q) (l,0)).2/\gb 5 B [b] w t) (λE _=>257-(intOf E).toNat)
        case atStart=>exact⟨0,J,aH _,rfl,by simpa[lD]using A,P⟩
        case round=>
         obtain⟨i,V,hj,rfl,f,o⟩:=hrel;by_cases cj:i<257-d
         ·have a4:((d+i:Nat):Int)<257:=Y;have HT:L1 (Qf (i+1) q=Qf i q++[q]):=List.replicate_succ';have ac:=H (rs most (Qf i q) q (l,0));have g0:=f.c0;have R:=f.c1;go_wp2_with fail;go_region_with (go_at_call 108;apply(vR (f.drewN 1) _ q (by first|rfl|(rw[a1])|omega) hY).m;rintro K w3 ⟨rfl,a2,r3,k3⟩);all_goals go_wp2
          all_goals go_roundw
          all_goals first|exact⟨i+1,a2,Y,by go_num,by rw[HT.o,ac.o];exact r3,(o.drewN 1).t k3⟩|(simp[intOf];omega)
         ·obtain rfl:i=257-d:=Y;have a4:¬((d+(257-d):Nat):Int)<257:=Y;have T:(Qf (257-d) q).length=257-d:=by rw[bI]
          by_cases C:G l+(257-d)<=most
          ·rw[Bv most _ l (by rw[T];exact C)]at f;have x:=H (n.s.t (ai C));have R:=f.c1;have g2:=f.fz 1;have m:=H (f.set1 (c+1) Y);have s:=H (o.setCell (p:=⟨b,1,N⟩) eA (I U (((c+1):Nat):Int)));have D:(((c+1):Nat):Int)=(c:Int)+1:=Y;rw[D]at m s;have F:=H m.errOf;have m4:=H m.posOf;go_wp2;go_roundw
           case rel=>exact⟨_,_,_,0,m,P3 ⟨rfl,Y,X,(by rw[<-u.o]at *;exact x.s),by have:=u.o;omega⟩,s⟩
           case measure=>have bc:=u.o;rw[mr.o,me.o,F.o,m4.o];simp;omega
          ·have a0:=rf most (Qf (257-d) q) l lo (by rw[T];omega);have x:=H (n.s.t (ah C));rw[a0]at f;have R:=f.c1;have g2:=f.fz 1;have m:=H (f.set1 (c+1) Y);have s:=H (o.setCell (p:=⟨b,1,N⟩) eA (I U (((c+1):Nat):Int)));have D:(((c+1):Nat):Int)=(c:Int)+1:=Y;rw[D]at m s;have F:=H m.errOf;go_wp2;go_roundw
           case rel=>exact⟨_,_,_,6,m,P4 ⟨Y,x⟩,s⟩
           case measure=>rw[mr.o,me.o,F.o];simp;omega
      ·rw[ah L]at k;have n:=H k;have d4:(S.size:Int)<(j:Int)+1+1:=Y;go_wp2_with fail;go_quiet (fail);go_wp2_with fail;apply(ro (z.drewN nq) 5 Y).m;rintro K w2 ⟨rfl,f,o⟩;rw[rz]at f;go_wp2;refine av (v:=OW #[]) wf rfl ?_;exact⟨rfl,_,_,_,_,f,by rw[<-n.o];exact⟨rfl,Y⟩,(y.drewN nq).t o⟩
  ·have bm:((e:Int)==0)=P2:=eB;have aa:=H hR;go_wp2
   go_end0
   exact⟨rfl,j,J,l,e,r,by rw[aa.o];exact⟨rfl,he⟩,kk⟩
def gC(S:ByteArray)(p:Nat):List Bool:=(gA (bl S)).drop p
def nX(S:ByteArray)(p:Nat):(gC S p).length=8*S.size-p:=by rw[gC,au,g8,mK]
def sS(S:ByteArray)(p c:Nat):(gC S p).drop c=gC S (p+c):=by rw[gC,gC,di]
def Id:∀(f:List Nat) (d:Nat),d<8*G f->(gA f)[d]?=O ((nth f (d/8)).testBit (d%8))
 | [],d,h=>by simp at h
 |i::f,d,h=>by
  rw[kN];by_cases c:d<8
  ·rw[aP (by rw[jC];exact c)];have e1:d/8=0:=Y;have e2:d%8=d:=Y;rw[e1,e2];match d,c with
   |0,_=>rfl
   |1,_=>rfl
   |2,_=>rfl
   |3,_=>rfl
   |4,_=>rfl
   |5,_=>rfl
   |6,_=>rfl
   |7,_=>rfl
  ·rw[aF (by rw[jC];omega),jC,Id f (d-8) (by simp at h;omega)];have e1:d/8=(d-8)/8+1:=Y;have e2:d%8=(d-8)%8:=Y;rw[e1,e2];rfl
def Gh(S:ByteArray)(p:Nat)(h:p<8*S.size):gC S p=(nth (bl S) (p/8)).testBit (p%8)::gC S (p+1):=by
 have c:p<(gA (bl S)).length:=by rw[g8,mK];exact h
 have:=Id (bl S) p (by rw[mK];exact h);rw[af c]at this;simp only[Option.some.injEq]at this;rw[gC,aW c,this];rfl
def tr(S:ByteArray)(p c:Nat)(h:p+c<8*S.size):(gC S p).take (c+1)=(gC S p).take c++[(nth (bl S) ((p+c)/8)).testBit ((p+c)%8)]:=by
 have d:c<(gC S p).length:=by rw[nX];omega
 rw[bJ d];congr 2;have h2:=Gh S (p+c) h;rw[<-sS,aW d]at h2;simp only[List.cons.injEq]at h2;exact h2.1
def KY(c k:Nat):c/2^k%2=(c.testBit k).toNat:=by rw[Nat.testBit_eq_decide_div_mod_eq];have:=dM (c/2^k);rcases this with h|h<;>simp[h]
def KX(h f d c:Nat)(l:c<16)(k:h<2^c):wrap64 ((h:Int)+wrap64 (((f:Int)/2^d).tmod 2*2^c))=((h+(f.testBit d).toNat*2^c:Nat):Int):=by
 have e1:((f:Int)/2^d)=((f/2^d:Nat):Int):=by rw[Int.natCast_ediv,Int.natCast_pow];rfl
 have e2:(((f/2^d:Nat):Int)).tmod 2=((f/2^d%2:Nat):Int):=by rw[dh (Int.natCast_nonneg _)];rfl
 have i:((2:Int)^c)=((2^c:Nat):Int):=by rw[Int.natCast_pow];rfl
 have m:2^c<=2^15:=aJ Y Y;rw[e1,e2,i,KY];generalize 2^c=j at *;cases f.testBit d;·simp only[Bool.toNat_false,wrap64];omega
 ·simp only[Bool.toNat_true,wrap64];omega
def NP(h:jx B b S most w p g a e)(v:e≠0)(d:Nat)(D:d<=16):K8 Qe 112 #[M2 (O ⟨b,0,N⟩),I U d] w λr q=>r=Ps (I U 0)/\jx B b S most q p g a e/\gb 5 B [b] w q:=by
 have y:=h.c0;have z:=h.c1;have F:=h.ls;have E:=h.lp;have A:((e:Int)==0)=P2:=eB;by_cases C:p+d<=8*S.size;all_goals
  go_in
  go_wp2_with fail
 ·have u:¬(8*(S.size:Int))<(p:Int)+(d:Int):=Y;go_quiet (fail);have i:=H (h.drewN nq);have m:=H ((gb.refl 5 B [b] w).drewN nq);generalize w.drewN nq=s at *;have t:=i.o.c4;go_wp2;go_loopw [5,6] (λl k wr=>l=I U 0/\k=I U 0/\wr=s) (λ_ _ _=>0)
  case atStart=>exact⟨rfl,rfl,rfl⟩
  case round=>
   obtain⟨rfl,rfl,rfl⟩:=hrel;by_cases c:0<d
   ·have j:(0:Int)<d:=Y;go_wp2;go_ret;exact⟨rfl,i,m⟩
   ·have j:¬(0:Int)<d:=Y;go_wp2;go_ret;exact⟨rfl,i,m⟩
 ·have u:(8*(S.size:Int))<(p:Int)+(d:Int):=Y;go_quiet (fail);go_wp2_with fail;apply(ro (h.drewN nq) 5 Y).m;rintro r x ⟨rfl,f,n⟩;rw[re v]at f;have t:=f.c4;go_wp2;go_loopw [5,6] (λl k wr=>l=I U 0/\k=I U 0/\wr=x) (λ_ _ _=>0)
  case atStart=>exact⟨rfl,rfl,rfl⟩
  case round=>
   obtain⟨rfl,rfl,rfl⟩:=hrel;by_cases c:0<d
   ·have j:(0:Int)<d:=Y;go_wp2;go_ret;exact⟨rfl,f,((gb.refl _ _ _ _).drewN nq).t n⟩
   ·have j:¬(0:Int)<d:=Y;go_wp2;go_ret;exact⟨rfl,f,((gb.refl _ _ _ _).drewN nq).t n⟩
def JN(h:jx B b S most w p g a 0)(d:Nat)(v:d<=16)(u:8*S.size<p+d):K8 Qe 112 #[M2 (O ⟨b,0,N⟩),I U d] w λk j=>k=Ps (I U 0)/\jx B b S most j p g a 5/\gb 5 B [b] w j:=by
 have q:=h.c0;have r:=h.c1;have y:=h.ls;have x:=h.lp;have t:(8*(S.size:Int))<(p:Int)+(d:Int):=Y
 go_in
 go_wp2_with fail;go_quiet (fail);go_wp2_with fail;apply(ro (h.drewN nq) 5 Y).m;rintro k o ⟨rfl,f,i⟩;rw[rz]at f;have s:=f.c4;go_wp2;go_loopw [5,6] (λn m wr=>n=I U 0/\m=I U 0/\wr=o) (λ_ _ _=>0)
 case atStart=>exact⟨rfl,rfl,rfl⟩
 case round=>
  obtain⟨rfl,rfl,rfl⟩:=hrel;by_cases c:0<d
  ·have l:(0:Int)<d:=Y;go_wp2;go_ret;exact⟨rfl,f,((gb.refl _ _ _ _).drewN nq).t i⟩
  ·have l:¬(0:Int)<d:=Y;go_wp2;go_ret;exact⟨rfl,f,((gb.refl _ _ _ _).drewN nq).t i⟩
def JM(h:jx B b S most w p g a 0)(d:Nat)(hn:d<=16)(aa:p+d<=8*S.size):K8 Qe 112 #[M2 (O ⟨b,0,N⟩),I U d] w λQ C=>Q=Ps (I U (gw ((gC S p).take d):Nat))/\jx B b S most C (p+d) g a 0/\gb 5 B [b] w C:=by
 have y:=h.c0;have k:=h.c1;have ls:=h.ls;have W:¬(8*(S.size:Int))<(p:Int)+(d:Int):=Y
 go_in
 go_wp2_with fail;go_quiet (fail);have v:=H (h.drewN nq);have t:=H ((gb.refl 5 B [b] w).drewN nq);clear h y k;generalize w.drewN nq=R at *;go_wp2;go_loopw [5,6] (λP m wr=>∃c:Nat,c<=d/\P=I U (gw ((gC S p).take c):Nat)/\m=I U c/\jx B b S most wr (p+c) g a 0/\gb 5 B [b] w wr) (λ_ m _=>d-(intOf m).toNat)
 case atStart=>exact⟨0,aH _,by simp[gw],rfl,v,t⟩
 clear v t
 case round=>
  obtain⟨c,hj,rfl,rfl,r,n⟩:=hrel;have T:=r.c4;by_cases V:c<d
  ·have F:(c:Int)<d:=Y;have y:=r.c0;have k:=r.c1;have X:=r.fz 1;obtain⟨i,z⟩:∃i,p+c=i:=⟨_,rfl⟩;rw[z]at k;obtain⟨f,K⟩:∃f,i/8=f:=⟨_,rfl⟩;obtain⟨j,L⟩:∃j,i%8=j:=⟨_,rfl⟩;have A:f<S.size:=Y;have ac:(f:Int)<S.size:=Y;have w1:IntKind.i64.wrap ((i:Int)/8)=(f:Int):=by rw[aU];omega
   have w2:IntKind.i64.wrap ((i:Int)%8)=(j:Int):=by rw[aU];omega
   have hx:=s8 S f A;have hX:=lN S f A;have q:=H (tr S p c Y);have s:=H (G8 ((gC S p).take c) ((nth (bl S) f).testBit j));rw[z,K,L]at q;generalize nth (bl S) f=E at *;go_wp2_with fail;go_quiet (fail);have x:=H ((r.drewN nq).set1 (p+(c+1)) Y);have u:=H ((n.drewN nq).setCell (p:=⟨b,1,N⟩) eA (I U ((p+(c+1):Nat):Int)));have J:((p+(c+1):Nat):Int)=(i:Int)+1:=Y;rw[J]at x u;have l:=jk ((gC S p).take c);have M:((gC S p).take c).length=c:=by rw[ay,nX];omega
   rw[M]at l s;have D:=H (KX (gw ((gC S p).take c)) E j c Y l);clear r n l;go_wp2;go_roundw
   case rel=>exact⟨c+1,Y,by rw[q.o,s.o,D.o],by go_num,x,u⟩
   case measure=>simp[intOf];omega
  ·obtain rfl:c=d:=Y;have F:¬(c:Int)<c:=Y;go_wp2;go_ret;exact⟨rfl,r,n⟩
end
