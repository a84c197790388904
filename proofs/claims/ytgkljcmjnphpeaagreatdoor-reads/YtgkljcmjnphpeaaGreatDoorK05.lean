import Derived.Test.YtgkljcmjnphpeaaGreatDoorK00
import Derived.Stop.BytesEq
set_option linter.defProp false
set_option linter.unusedVariables false
set_option linter.unusedSimpArgs false
set_option maxHeartbeats 2000000
set_option maxRecDepth 100000
open List renaming length->G
open Go renaming Value->GI,World->Gr,Calls->K8,Addr->L2,Act->MN
open Go.Value renaming int->I,pointer->M2,agg->N1,bool->OV,tuple->OW,slice->Z
open Go.RowKit renaming Hid->L1,Below->LT
open Option renaming none->N,some->O
open Bool renaming false->P2,true->PV
open Or renaming inl->P3,inr->P4
open Go.Obj renaming cells->Pp
open Go.Ending renaming returned->Ps
open Go.Proofs.Tryz renaming prog->Qe
open List renaming replicate->Qf
open Go.IntKind renaming i64->U
open Go.Proofs.Tryz
namespace Go.Proofs.YtgkljcmjnphpeaaGreatDoor
open Go.RowKit
section
structure Bi(B br bf t q cap:Nat)(d:List Nat)(most:Nat)(j:List GI)(w:Gr)(p m left f:Nat)(u:GI)(s:List Nat):Prop where
 rd:Rd B br t q cap d most w p u s
 hbf:B<=bf
 blk:w.heap[bf]?=O (Pp (M2 (O ⟨br,0,N⟩)::I .u8 m::I U left::I U f::j).toArray 167 (0,0))
 hh:m<256
 hl:left<=8
variable{B br bf t q cap:Nat}{d:List Nat}{most:Nat}{j:List GI}{w:Gr}{p m left f:Nat}{u:GI}{s:List Nat}
def bL(d:List Nat)(p m left:Nat):List Bool:=gM left m++gA (d.drop p)
def Bi.c0(h:Bi B br bf t q cap d most j w p m left f u s):w.cell? ⟨bf,0,N⟩=O (M2 (O ⟨br,0,N⟩)):=by rw[iI h.blk];simp
def Bi.c1(h:Bi B br bf t q cap d most j w p m left f u s):w.cell? ⟨bf,1,N⟩=O (I .u8 m):=by rw[iI h.blk];simp
def Bi.c2(h:Bi B br bf t q cap d most j w p m left f u s):w.cell? ⟨bf,2,N⟩=O (I U left):=by rw[iI h.blk];simp
def Bi.c3(h:Bi B br bf t q cap d most j w p m left f u s):w.cell? ⟨bf,3,N⟩=O (I U f):=by rw[iI h.blk];simp
def Bi.fz(h:Bi B br bf t q cap d most j w p m left f u s)(i:Nat):w.frozen? ⟨bf,i,N⟩=P2:=nG h.blk
def Bi.ne(h:Bi B br bf t q cap d most j w p m left f u s):bf≠br:=by intro a;have h1:=h.blk;rw[a,h.rd.blk]at h1;simp at h1
def Bi.drewN(h:Bi B br bf t q cap d most j w p m left f u s)(n:Nat):Bi B br bf t q cap d most j (w.drewN n) p m left f u s:=⟨h.rd.drewN n,h.hbf,h.blk,h.hh,h.hl⟩
def Rd.setOther{w:Gr}{p:Nat}{u:GI}{s:List Nat}(h:Rd B br t q cap d most w p u s){a:L2}(g:GI)(h1:B<=a.block)(h2:a.block≠br)(h3:u.ownBlock≠O a.block):Rd B br t q cap d most (w.setCell a g) p u s:=by
 have i:=h.hB;refine⟨h.hB,h.hb,?_,?_,?_,h.byt,h.cp,h.lc,h.lm,h.lo,h.lp⟩;·rw[dy _ _ _ _ (λb=>h2 b.s)];exact h.blk
 ·intro e c;rw[Cf _ (by show a.block≠t;omega)];exact h.dat e c
 ·exact aR h.own h3 _
def Bi.own_ne(h:Bi B br bf t q cap d most j w p m left f u s):u.ownBlock≠O bf:=Go.own_ne h.rd.own h.blk cO
def Bi.set1(h:Bi B br bf t q cap d most j w p m left f u s)(a:Nat)(b:a<256):Bi B br bf t q cap d most j (w.setCell ⟨bf,1,N⟩ (I .u8 a)) p a left f u s:=by refine⟨h.rd.setOther _ h.hbf h.ne h.own_ne,h.hbf,?_,b,h.hl⟩;rw[lV _ h.blk];simp
def Bi.set2(h:Bi B br bf t q cap d most j w p m left f u s)(a:Nat)(b:a<=8):Bi B br bf t q cap d most j (w.setCell ⟨bf,2,N⟩ (I U a)) p m a f u s:=by refine⟨h.rd.setOther _ h.hbf h.ne h.own_ne,h.hbf,?_,h.hh,b⟩;rw[lV _ h.blk];simp
def Bi.rdKept(h:Bi B br bf t q cap d most j w p m left f u s){a:Gr}{g:Nat}{e:GI}{b:List Nat}(r:Rd B br t q cap d most a g e b)(k:gb 5 B [br] w a):Bi B br bf t q cap d most j a g m left f e b :=
 ⟨r,h.hbf,k.block bf _ (by simp[h.ne]) h.blk (P4 (by intro c l i;simp at i)),h.hh,h.hl⟩
def B9(a:Nat)(h:a<256):bits .and .u8 (a:Int) 1=((a%2:Nat):Int):=by have:=u8_and_nat a 1 h Y;rw[nat_mask1]at this;exact this
def bh(h:Bi B br bf t q cap d most j w p m left f u s)(v:0<left):K8 Qe 220 #[M2 (O ⟨bf,0,N⟩)] w λc a=>c=Ps (I U (m%2:Nat))/\Bi B br bf t q cap d most j a p (m/2) (left-1) f u s/\gb 5 B [br,bf] w a:=by
 have k:=h.c1;have l:=h.c2;have n:=h.fz 1;have o:=h.fz 2;have b:=h.hh;have i:=h.hl;have e1:((left:Int)==0)=P2:=eB;have r:=B9 m b
 go_in
 go_wp2;go_ret;have e:((m:Int)/2)=((m/2:Nat):Int):=Y;have g:((left:Int)-1)=((left-1:Nat):Int):=Y;rw[e,g];exact⟨rfl,(h.set1 (m/2) Y).set2 (left-1) Y,((gb.refl _ _ _ _).setCell eA _).setCell eA _⟩
def K_(h:Bi B br bf t q cap d most j w p m 0 f u s)(c:p<G d):K8 Qe 220 #[M2 (O ⟨bf,0,N⟩)] w λb g=>b=Ps (I U (nth d p%2:Nat))/\Bi B br bf t q cap d most j g (p+1) (nth d p/2) 7 f u s/\gb 5 B [br,bf] w g:=by
 have l:=h.c0;have n:=h.c2;have a:=h.rd.byt p c;have y:=B9 (nth d p) a
 go_in
 go_wp2_with (go_at_call 214;apply(sQ h.rd c).m;rintro b z ⟨rfl,k,e⟩;have h1:=h.rdKept k e;have o:=h1.c1;have r:=h1.c2;have v:=h1.fz 1;have x:=h1.fz 2);go_ret;have i:((nth d p:Int)/2)=((nth d p/2:Nat):Int):=Y;rw[i];exact⟨rfl,(((h1.set1 _ a).set2 8 Y).set1 (nth d p/2) Y).set2 7 Y,(((((e.m eA).setCell eA _).setCell eA _).setCell eA _).setCell eA _)⟩
def Fl(B br bf t q cap:Nat)(d:List Nat)(most:Nat)(j:List GI)(w:Gr)(a:List Bool)(f:Nat)(u:GI)(s:List Nat):Prop:=
 ∃p m left,Bi B br bf t q cap d most j w p m left f u s/\left<8/\bL d p m left=a
def KJ(d:List Nat)(p:Nat)(a:p<G d):gA (d.drop p)=gM 8 (nth d p)++gA (d.drop (p+1)):=by
 have:nth d p=d[p]:=by simp[nth,a]
 rw[aW a,kN,this,s7]
def A9{b:Bool}{v:List Bool}(h:Fl B br bf t q cap d most j w (b::v) f u s):K8 Qe 220 #[M2 (O ⟨bf,0,N⟩)] w λg c=>g=Ps (I U (b.toNat:Nat))/\Fl B br bf t q cap d most j c v f u s/\gb 5 B [br,bf] w c:=by
 obtain⟨p,m,left,l,z,a⟩:=h;have x:∀e:Nat,(e%2==1)=b->e%2=b.toNat:=by intro e o;rcases dM e with h|h<;>rw[h]at o<;>rw[h]<;>subst o<;>rfl
 by_cases y:0<left
 ·obtain⟨i,rfl⟩:∃i,left=i+1:=⟨left-1,Y⟩;simp only[bL,gM,cP,List.cons.injEq]at a;apply(bh l y).m;rintro g c ⟨rfl,r,k⟩;exact⟨by rw[x m a.1],⟨p,m/2,i,r,Y,a.2⟩,k⟩
 ·obtain rfl:left=0:=Y;have n:p<G d:=by
   rcases bU p (G d) with h|h;·exact h
   ·rw[bL,List.drop_eq_nil_of_le h]at a;simp[gM,gA]at a
  rw[bL,KJ d p n]at a;simp only[gM,eL,cP,List.cons.injEq]at a;apply(K_ l n).m;rintro g c ⟨rfl,r,k⟩;exact⟨by rw[x _ a.1],⟨p+1,nth d p/2,7,r,Y,a.2⟩,k⟩
def Fl.drewN{a:List Bool}(h:Fl B br bf t q cap d most j w a f u s)(n:Nat):Fl B br bf t q cap d most j (w.drewN n) a f u s:=by obtain⟨p,m,left,b,c,e⟩:=h;exact⟨p,m,left,b.drewN n,c,e⟩
def Fl.alloc{c:List Bool}(h:Fl B br bf t q cap d most j w c f u s)(b:Obj):Fl B br bf t q cap d most j (w.alloc b) c f u s:=by obtain⟨p,m,left,a,e,g⟩:=h;exact⟨p,m,left,⟨a.rd.alloc b,a.hbf,mA _ a.blk,a.hh,a.hl⟩,e,g⟩
def Fl.lt{b:List Bool}(h:Fl B br bf t q cap d most j w b f u s):B<=br/\B<=bf/\br<w.heap.size/\bf<w.heap.size:=by obtain⟨p,m,left,a,c,e⟩:=h;exact⟨a.rd.hb,a.hbf,ae a.rd.blk,ae a.blk⟩
def Fl.drew{a:List Bool}(h:Fl B br bf t q cap d most j w a f u s):Fl B br bf t q cap d most j w.drew a f u s:=h.drewN 1
def Ju(c a:Nat)(b:Bool)(g:c<2^a)(h:a<62):bits .or U (c:Int) (wrap64 ((b.toNat:Int)*2^a))=((c+b.toNat*2^a:Nat):Int):=by
 have h1:2^a<=2^61:=aJ Y Y;have h2:b.toNat*2^a<=1*2^a:=dB _ (by cases b<;>decide);have e:((b.toNat:Int)*2^a)=((b.toNat*2^a:Nat):Int):=by rw[fj,Int.natCast_pow];rfl
 rw[e,PY _ Y,Fu _ _ Y Y,FP _ _ _ g]
def G8(a:List Bool)(b:Bool):gw (a++[b])=gw a+b.toNat*2^(G a):=by
 induction a with
 |nil=>simp[gw]
 |cons c a e=>simp only[cP,gw,e,aj,cY];rw[Nat.mul_add,dQ];congr 2;rw[dD 2,dR]
def sN(b:Nat)(K:b<=16){a:List Bool}(L:b<=G a)(h:Fl B br bf t q cap d most j w a f u s):K8 Qe 221 #[M2 (O ⟨bf,0,N⟩),I U b] w λi r=>i=Ps (I U (gw (a.take b)))/\Fl B br bf t q cap d most j r (a.drop b) f u s/\gb 5 B [br,bf] w r:=by
 go_in
 go_wp2;go_loopw [5,8] (λD g wr=>∃k:Nat,k<=b/\g=I U k/\D=I U (gw (a.take k))/\Fl B br bf t q cap d most j wr (a.drop k) f u s/\gb 5 B [br,bf] w wr) (λ_ g _=>b-(intOf g).toNat)
 case atStart=>exact⟨0,aH _,rfl,rfl,h,gb.refl _ _ _ _⟩
 case round=>
  obtain⟨k,F,rfl,rfl,c,n⟩:=hrel;have l:=jk (a.take k);rw[ay,b_ Y]at l;by_cases J:k<b
  ·have e:=G8 (a.take k) a[k];rw[ay,b_ Y,<-bJ Y]at e;have v:=H e;clear e;rw[aW Y]at c;have A:=H (Ju (gw (a.take k)) k a[k] l Y);generalize x:gw (a.take k)=X at *;generalize y:a[k]=E at *;clear x y;go_wp2_with fail;apply(A9 c).m;rintro i M ⟨rfl,z,C⟩;go_wp2;go_roundw
   case rel=>exact⟨k+1,Y,by go_num,by rw[A.o,v.o],z,n.t C⟩
   case measure=>simp[intOf];omega
  ·obtain rfl:k=b:=Y;go_wp2;go_ret;exact⟨rfl,c,n⟩
def yu{a:List Bool}(h:Fl B br bf t q cap d most j w a f u s):K8 Qe 162 #[M2 (O ⟨bf,0,N⟩)] w λg e=>g=Ps (OW #[])/\(∃p m,Bi B br bf t q cap d most j e p m 0 f u s/\gA (d.drop p)=a.drop (G a%8))/\gb 5 B [br,bf] w e:=by
 obtain⟨p,m,left,b,n,c⟩:=h;have k:=b.c2;have l:=b.fz 2;have i:G a%8=left:=by rw[<-c,bL,ak,jI,g8];omega
 go_in
 go_wp2
 go_end0
 refine⟨rfl,⟨p,m,b.set2 0 Y,?_⟩,(gb.refl _ _ _ _).setCell eA _⟩;rw[i,<-c,bL,fG (jI _ _)]
end
section
variable{B br bf Q K J:Nat}{d:List Nat}{E:Nat}{C:List GI}{w:Gr}{p M left A:Nat}{T:GI}{F:List Nat}
def Cd(w:Gr)(e g:Nat)(h b:List Nat):Prop:=
 (∀a,a<16->w.cell? ⟨e,g+a,N⟩=O (I U (nth h a:Nat))) /\
 ∃f c,w.cell? ⟨e,g+16,N⟩=O (Z (O ⟨f,0,N⟩) (G b) c)/\∀a,a<G b->w.cell? ⟨f,a,N⟩=O (I U (nth b a:Nat))
def ld(a:List Nat):Nat->Nat
 |0=>0
 |k+1=>ld a k+nth a (k+1)
def JD(c:List Nat)(a b:Nat)(h:a<=b):ld c a<=ld c b:=by
 induction b with
 |zero=>have:a=0:=Y;rw[this];exact ag _
 |succ b e=>
  rcases bU a (b+1)with h1|h1;·have:=e Y;simp only[ld];omega
  ·have:a=b+1:=Y;rw[this];exact ag _
def Js(a:Nat)(b:Bool)(f:a<2^60):bits .or U ((a:Int)*2) (b.toNat:Nat)=((2*a+b.toNat:Nat):Int):=by
 have e:b.toNat<=1:=by cases b<;>decide
 have c:((a:Int)*2)=((2*a:Nat):Int):=Y;rw[c,Fu _ _ Y Y];have:=FP b.toNat a 1 Y;rw[Nat.or_comm,show 2*a=a*2^1 by omega,this];omega
def q8(D V:Nat)(a f:List Nat)(ba:ld a 15<=G f)(a9:G f<=1000){j:Nat}{x l:List Bool}
  (hC:∀g r,Fl B br bf Q K J d E C g r A T F->gb 5 B [br,bf] w g->Cd g D V a f)
  (hs:gN a f x=O (j,l)) (h:Fl B br bf Q K J d E C w x A T F):K8 Qe 313 #[M2 (O ⟨bf,0,N⟩),M2 (O ⟨D,V,N⟩)] w λL g=>L=Ps (I U j)/\Fl B br bf Q K J d E C g l A T F/\gb 5 B [br,bf] w g:=by
 go_in
 go_wp2;go_loopw [5,6,7,8] (λc aa pl u wr=>∃(k code first:Nat) (r:List Bool),k<=15/\u=I U (k+1:Nat)/\c=I U code/\aa=I U first/\pl=I U (ld a k)/\first<=code/\code<2^k/\L1 (jB a f (15-k) (k+1) code first (ld a k) r=O (j,l))/\Fl B br bf Q K J d E C wr r A T F/\gb 5 B [br,bf] w wr) (λ_ _ _ u _=>16-(intOf u).toNat)
 case atStart=>exact⟨0,0,0,x,Y,rfl,rfl,rfl,rfl,Y,Y,hs,h,gb.refl _ _ _ _⟩
 case round=>
  obtain⟨k,code,first,r,hk,rfl,rfl,rfl,rfl,a5,a4,q,hf,t⟩:=hrel;by_cases a6:k<15
  ·obtain⟨v,R⟩:∃v,15-k=v+1:=⟨14-k,Y⟩;cases r with
   |nil=>have e:=q.o;rw[R]at e;simp[jB]at e
   |cons b r=>
    have a7:=JD a (k+1) 15 Y;have S:ld a (k+1)=ld a k+nth a (k+1):=rfl;have ht:2^k<=2^14:=aJ Y Y;have hb:b.toNat<=1:=by cases b<;>decide
    have ho:=Js code b Y;generalize hN:nth a (k+1)=i at *;have y:=H hN;generalize a3:ld a k=m at *;generalize ac:ld a (k+1)=P1 at *;have z:=H ac;go_wp2_with fail;apply(A9 hf).m;rintro L w1 ⟨rfl,n,s⟩;obtain⟨al,a2,c,hg1,a1⟩:=hC w1 r n (t.t s);have ad:=al (k+1) Y;rw[y.o]at ad;have e:=q.o;rw[R]at e;simp only[jB]at e;rw[show a.getD (k+1) 0=i from y.o]at e;by_cases P:2*code+b.toNat<2*first+i
    ·rw[ai P]at e;simp only[Option.some.injEq,Prod.mk.injEq]at e;obtain⟨a0,rfl⟩:=e;have ao:=a1 (m+(2*code+b.toNat)-first*2) Y;rw[show nth f (m+(2*code+b.toNat)-first*2)=j by rw[<-a0,nth,dD first 2]]at ao;go_wp2;go_ret;exact⟨rfl,n,t.t s⟩
    ·rw[ah P]at e;have W:L1 (jB a f (15-(k+1)) (k+1+1) (2*code+b.toNat) (2*first+i) P1 r=O (j,l)):=by rw[S,show 15-(k+1)=v by omega];exact e
     have X:=H S;have a8:m+i<=1000:=Y;go_wp2;go_roundw
     case rel=>
      refine⟨k+1,2*code+b.toNat,2*first+i,r,Y,by go_num,by go_num,by go_num,?_,Y,Y,?_,n,t.t s⟩;·rw[z.o];have:=X.o;subst this;go_num
      ·rw[z.o];exact W
     case measure=>simp[intOf];omega
  ·have e:=q.o;rw[show 15-k=0 by omega]at e;simp[jB]at e
def ri{k:IntKind}{a b:Int}(h:a=b):Ps (I k a)=Ps (I k b):=by rw[h]
def sV(a:Nat×Nat):GI:=N1 #[I U (a.1:Nat),I U (a.2:Nat)]
def Mn:∀a:Fin 286,265<=a.val->a.val≠285->wrap64 (3+wrap64 ((4+((a.val:Int)-257)%4)*2^((a.val-257)/4-1)))=((gu a.val).1:Nat)/\((a.val:Int)-257)/4-1=((gu a.val).2:Nat):=by decide +kernel
def zC(a:Nat)(h1:257<=a)(h2:a<=285)(w:Gr):K8 Qe 267 #[I U a] w λh j=>h=Ps (sV (gu a))/\∃i,j=w.alloc i:=by
 by_cases b:a=285
 ·subst b
  go_in
  go_wp2;refine av (v:=sV (gu 285)) (by simp[results,results267,go_sem,sV,gu]) rfl ⟨rfl,?_⟩;exact⟨_,rfl⟩
 have e1:((a:Int)==285)=P2:=eB;by_cases f:a-257<8
 ·have g:(a:Int)-257<8:=Y
  go_in
  go_wp2;refine av (v:=sV (gu a)) ?_ rfl ⟨rfl,?_⟩;·simp[results,results267,go_sem,sV,gu,b,f];omega
  ·exact⟨_,rfl⟩
 ·have g:¬(a:Int)-257<8:=Y;have k:0<=((a:Int)-257)/4-1:=Y;have l:((a:Int)-257)/4-1<6:=Y
  go_in
  go_wp2;obtain⟨c,e⟩:=Mn ⟨a,Y⟩ (by show 265<=a;omega) b;simp only[]at c e;refine av (v:=sV (gu a)) ?_ rfl ⟨rfl,?_⟩;·simp[results,results267,go_sem,sV,c,e]
  ·exact⟨_,rfl⟩
def LG:∀a:Fin 30,4<=a.val->wrap64 (1+wrap64 ((2+(a.val:Int)%2)*2^(a.val/2-1)))=((gq a.val).1:Nat)/\(a.val:Int)/2-1=((gq a.val).2:Nat):=by decide +kernel
def D9(a:Nat)(h2:a<=29)(w:Gr):K8 Qe 269 #[I U a] w λg i=>g=Ps (sV (gq a))/\∃h,i=w.alloc h:=by
 by_cases e:a<4
 ·have f:(a:Int)<4:=Y
  go_in
  go_wp2;refine av (v:=sV (gq a)) ?_ rfl ⟨rfl,?_⟩;·simp[results,results269,go_sem,sV,gq,e]
  ·exact⟨_,rfl⟩
 ·have f:¬(a:Int)<4:=Y;have j:0<=(a:Int)/2-1:=Y;have k:(a:Int)/2-1<14:=Y
  go_in
  go_wp2;obtain⟨b,c⟩:=LG ⟨a,Y⟩ (by show 4<=a;omega);simp only[]at b c;refine av (v:=sV (gq a)) ?_ rfl ⟨rfl,?_⟩;·simp[results,results269,go_sem,sV,b,c]
  ·exact⟨_,rfl⟩
def yi(a:Nat×Nat)(m:a.2<=15)(u:a.1<=100000){b:List Bool}(f:a.2<=G b)(h:Fl B br bf Q K J d E C w b A T F):K8 Qe 314 #[M2 (O ⟨bf,0,N⟩),sV a] w λe i=>e=Ps (I U (a.1+gw (b.take a.2):Nat))/\Fl B br bf Q K J d E C i (b.drop a.2) A T F/\gb 5 B [br,bf] w i:=by
 unfold sV;obtain⟨v,x,y,z⟩:=h.lt;have l:=jk (b.take a.2);rw[ay,b_ f]at l;have t:2^a.2<=2^15:=aJ Y m;have s:gw (b.take a.2)<32768:=Y
 go_in
 go_wp2_with fail;go_region_with (go_at_call 221;apply(sN a.2 Y f ((h.alloc (Pp #[I U (a.1:Nat),I U (a.2:Nat)] 247)).drew)).m;rintro e o ⟨rfl,k,g⟩;have j:=g.block w.heap.size _ eB (show(w.alloc (Pp #[I U (a.1:Nat),I U (a.2:Nat)] 247)).drew.heap[w.heap.size]?=_ from bn _ _) (P4 (by intro c q e;simp at e));have r:o.cell? ⟨w.heap.size,0,N⟩=O (I U (a.1:Nat)):=(iI j));all_goals (have n:=(((gb.refl 5 B [br,bf] w).alloc (Pp #[I U (a.1:Nat),I U (a.2:Nat)] 247)).drew).t g)
 all_goals go_wp2
 all_goals go_ret
 all_goals exact⟨ri (by first|(rw[aU];omega)|omega),k,n⟩
def Bi.putOne(h:Bi B br bf Q K J d E C w p M left A T F){c:Gr}{a:GI}{b:Nat}(f:G F+1<=E)
  (g:c.ownsRow B 5 1 a (G F+1) ((F.map λb:Nat=>I .u8 (b:Int))++[I .u8 (b:Int)])) (e:w.grownBy c T.ownBlock):Bi B br bf Q K J d E C (c.setCell ⟨br,2,N⟩ a) p M left A a (F++[b])/\gb 5 B [br,bf] w (c.setCell ⟨br,2,N⟩ a):=by
 have r:=h.rd.put (xs:=[b]) f g e;have k:=((gb.refl 5 B [br] w).grown e (tN h.rd.own)).setCell (p:=⟨br,2,N⟩) eA a;exact⟨h.rdKept r k,k.m eA⟩
def Bi.alloc(h:Bi B br bf Q K J d E C w p M left A T F)(a:Obj):Bi B br bf Q K J d E C (w.alloc a) p M left A T F:=⟨h.rd.alloc a,h.hbf,mA _ h.blk,h.hh,h.hl⟩
def Bi.putOne'(h:Bi B br bf Q K J d E C w p M left A T F){a:Gr}{e:GI}{f:Nat}(m:G F+1<=E)
  (j:a.ownsRow B 5 1 e (G F+1) ((F.map λf:Nat=>I .u8 (f:Int))++[I .u8 (f:Int)])) (g:w.grownBy a T.ownBlock):Bi B br bf Q K J d E C (a.setCell ⟨br,2,N⟩ e) p M left A e (F++[f])/\gb 5 B [br,bf] w (a.setCell ⟨br,2,N⟩ e)/\a.cell? ⟨br,2,N⟩=O T/\a.frozen? ⟨br,2,N⟩=P2/\∃l c,e=Z l (G F+1) c:=by
 obtain⟨k,b⟩:=h.putOne m j g;have i:=h.rd.grown_blk g;exact⟨k,b,iI i,nG i,jp j⟩
def Bi.q0(h:Bi B br bf Q K J d E C w p M left A T F){a:Gr}(b:w.grownBy a T.ownBlock):a.cell? ⟨bf,0,N⟩=O (M2 (O ⟨br,0,N⟩)):=
 b.cell h.c0 (λc=>h.own_ne c.s)
def vP(bf br c e:Nat)(g f h:GI)(b:Array Bool)(a:Gr):Prop:=
 a.cell? ⟨bf,0,N⟩=O g/\(b.getD 35 P2=P2->a.cell? ⟨br,2,N⟩=O f/\a.cell? ⟨c,e,N⟩=O h)
def vP.s1{bf br b e:Nat}{g f i:GI}{a:Array Bool}{W:Gr}{c:Nat}(j:c≠35)(h:vP bf br b e g f i a W):vP bf br b e g f i (a.setIfInBounds c PV) W:=
 ⟨h.1,λk=>h.2 (by rwa [eE P2 j]at k)⟩
def vP.s2{bf br b e:Nat}{g f i:GI}{a:Array Bool}{W:Gr}{c:Nat}(j:c≠35)(h:vP bf br b e g f i (a.setIfInBounds c PV) W):vP bf br b e g f i a W:=
 ⟨h.1,λk=>h.2 (by rwa [eE P2 j])⟩
def Cr{g:Region.Mode}{j:Array Oper}{bf br c f:Nat}{b i k:GI}{e:Nat}{a:Gr}(h:tW g j (vP bf br c f b i k) e a):a.cell? ⟨bf,0,N⟩=O b:=by obtain⟨l,_,_,h⟩:=h;exact h.1
def Ef{i:Region.Mode}{k:Array Oper}{bf br f g:Nat}{r j l:GI}{a:Nat}{c:Gr}(h:tW i k (vP bf br f g r j l) a c)(q:vv i k a 40 35=PV):c.cell? ⟨br,2,N⟩=O j/\c.cell? ⟨f,g,N⟩=O l:=by
 obtain⟨b,m,o,h⟩:=h;refine h.2 ?_;cases n:b.getD 35 P2 with
 |false=>rfl
 |true=>
  have:=m.came 40 35 q n;have h3:b.getD a P2=b.getD a PV:=by
   rcases bU a b.size with e|e;·simp[e]
   ·simp[dC e]at this
  rw[h3,o]at this;cases this
def gx{w:Gr}{b:Obj}{a:L2}{c:GI}(h:w.cell? a=O c):((w.alloc b).drewN 1).cell? a=O c:=by show(w.alloc b).cell? a=_;rw[World.cell?_alloc_lt _ _ _ (aC w a h)];exact h
def oN{w:Gr}{e:GI}{f:TypeId}:∀b c,[e][b]?=O c->(w.alloc (Pp #[e] f)).drew.cell? ((⟨w.heap.size,0,N⟩:L2).add b)=O c:=by
 intro b c a;match b,a with
 |0,a=>show(w.alloc _).cell? ⟨w.heap.size,0+0,N⟩=_;rw[World.cell?_alloc_new];exact a
 |b+1,a=>simp at a
def KD(h:Bi B br bf Q K J d E C w p M left A T F)(len e:Nat)(h1:1<=e)(h2:e<=G F)(h3:e<=A)(h4:G F+len<=E)(h5:A<=32768):K8 Qe 315 #[M2 (O ⟨bf,0,N⟩),I U len,I U e] w λaa w'=>aa=Ps (OW #[])/\∃n,Bi B br bf Q K J d E C w' p M left A n (iP e len F)/\gb 5 B [br,bf] w w':=by
 obtain⟨i0,hi,a4,a5,a6⟩:=bu infoByte;have c0:=h.c0;have c3:=h.c3;have X:=h.rd.c2;have lm:=h.rd.lm;have a3:=jp h.rd.own;obtain⟨ao,oc,S⟩:=a3;have al:=H S;rw[S]at X;clear S;rcases bU A (G F) with hm|hm;all_goals
  go_in
  go_wp2_with fail;go_quiet ((first|(go_at_call 63;exact bj (ou _ _ _ _ Y Y))|(go_at_call 163;exact bj (nT _))));go_wp2_with fail;apply(Gl (h.rd.drewN _) len h4).m;rintro aa w' ⟨rfl,bo,rfl⟩;rw[<-al.o]at X;clear hm;go_wp2_with fail;go_loopw [31] (λV wr=>∃(k:Nat) (n:GI),k<=len/\V=I U k/\Bi B br bf Q K J d E C wr p M left A n (iP e k F)/\gb 5 B [br,bf] w wr) (λV _=>len-(intOf V).toNat)
  case atStart=>exact⟨0,T,aH _,rfl,by simpa[iP]using (h.drewN _),by simpa using (gb.refl _ _ _ _).drewN _⟩
  case round=>
   clear X c0 c3;obtain⟨k,n,hk,rfl,m,kk⟩:=hrel;have a0:=mD e k F;by_cases a9:k<len
   ·have d0:=m.c0;have s2:=m.rd.c2;have bb:=m.rd.sz;obtain⟨i,W,a2⟩:∃i c,n=Z (O ⟨i,0,N⟩) (iP e k F).length c:=by
     rcases m.rd.own.2 with⟨_,e2⟩|⟨i,c,a8,e1,_⟩;·omega
     ·exact⟨i,c,e1⟩
    subst a2;have x:=m.rd.own.cellAt ((iP e k F).length-e) Y;rw[aY,af Y]at x;simp only[aZ]at x;have e1:iP e (k+1) F=iP e k F++[(iP e k F)[(iP e k F).length-e]'Y]:=by rw[oE,ax,af Y];rfl
    have E1:=H e1;clear e1;generalize hX:(iP e k F)[(iP e k F).length-e]'Y=v at *;clear hX;generalize hO:iP e k F=g at *;clear hO;have ba:e<=G g:=Y;have a1:G g+1<=E:=Y;clear a0;have bi:IntKind.i64.wrap ((G g:Int)-(e:Int))=((G g-e:Nat):Int):=by rw[aU];omega
    have bc:((G g-e:Nat):Int)<(G g:Int):=Y;have bd:(0:Int)<=((G g-e:Nat):Int):=Y;go_wp2_with fail;have u:=(m.alloc (Pp #[I .u8 (v:Int)] 5)).drewN 1;refine om (vP bf br i (G g-e) (M2 (O ⟨br,0,N⟩)) (Z (O ⟨i,0,N⟩) (G g) W) (I .u8 (v:Int))) aG ?_;intro a;have b:vP bf br i (G g-e) (M2 (O ⟨br,0,N⟩)) (Z (O ⟨i,0,N⟩) (G g) W) (I .u8 (v:Int)) (Array.replicate 39 P2) wr.drew:=⟨d0,λ_=>⟨s2,x⟩⟩;refine tm 0 a b λa b=>?_;refine tm 1 a b λa b=>?_;refine tm 2 a b λa b=>?_;refine tm 3 a b λa b=>?_;refine tm 4 a b λa b=>?_;refine tm 5 a b λa b=>?_;refine tm 6 a b λa b=>?_;refine tm 7 a b λa b=>?_;refine tm 8 a b λa b=>?_;refine tm 9 a b λa b=>?_;refine tm 10 a b λa b=>?_;refine tm 11 a b λa b=>?_;refine tl 12 a b (λa b=>?_) (y:=λD f=>by have L:=Cr f;have l:=Ef f aG;obtain⟨r,P⟩:=l;clear f;go_simp;try(with_reducible rfl));refine tm 13 a b λa b=>?_;refine tm 14 a b λa b=>?_;refine tm 15 a b λa b=>?_;refine tm 16 a b λa b=>?_;refine tm 17 a b λa b=>?_;refine tm 18 a b λa b=>?_;refine tm 19 a b λa b=>?_;refine tl 20 a b (λa b=>?_) (y:=λD f=>by have L:=Cr f;have l:=Ef f aG;obtain⟨r,P⟩:=l;clear f;go_simp;try(with_reducible rfl));refine tm 21 a b λa b=>?_;refine tm 22 a b λa b=>?_;refine tm 23 a b λa b=>?_;refine tm 24 a b λa b=>?_;refine tm 25 a b λa b=>?_;refine tm 26 a b λa b=>?_;refine tm 27 a b λa b=>?_;refine tl 28 a b (λa b=>?_) (y:=λD f=>by have L:=Cr f;have l:=Ef f aG;obtain⟨r,P⟩:=l;clear f;go_simp;try(with_reducible rfl));refine tm 29 a b λa b=>?_;refine tm 30 a b λa b=>?_;refine tm 31 a b λa b=>?_;refine tm 32 a b λa b=>?_;refine tl 33 a b (λa b=>?_) (y:=λD f=>by have L:=Cr f;have l:=Ef f aG;obtain⟨r,P⟩:=l;clear f;go_simp;try(with_reducible rfl));refine on 34 a λq j=>?_;go_simp;refine j _ _ ⟨u.c0,λ_=>⟨u.rd.c2,gx x⟩⟩ (λs t=>?_);clear a b j q;have a:=s;have b:=t;clear s t;refine on 35 a λq j=>?_;refine OX (by rfl) (.tmp 45) (.tmp 67) 23 (by rfl) B 5 i0 (I .u8 0) 1 1 bB hi a4 a5 a6 rfl cO i (G g) W _ (by rfl) u.rd.own ⟨wr.heap.size,0,N⟩ 1 1 [I .u8 (v:Int)] (by rfl) rfl oN (by intro bq hu;simp at hu;subst hu;rfl) oi Y eB ?_;intro v' w1 ac hg1 _;obtain⟨z,KK,k2,r,a7,bm,ad⟩:=u.putOne' a1 ac hg1;have q0:=u.q0 hg1;rw[ad]at z KK ⊢;clear ac hg1 ad;refine j _ _ ⟨q0,λR=>absurd R eA⟩ (λs t=>?_);clear a b j q;have a:=s;have b:=t;clear s t
    (try simp only[nH])
    refine tm 36 a b λa b=>?_;refine tm 37 a b λa b=>?_;refine on 38 a λq j=>?_;go_simp;refine j _ _ ⟨z.c0,λR=>absurd R eA⟩ (λ_ _=>?_);refine oh aG ?_ _;clear j q a b k2 r q0;go_wp2;go_roundw
    case rel=>exact⟨k+1,_,Y,by go_num,by rw[E1.o];exact z,kk.t ((((gb.refl _ _ _ _).alloc _).drewN 1).t KK)⟩
    case measure=>simp[intOf];omega
   ·obtain rfl:k=len:=Y;go_wp2
    go_end0
    exact⟨rfl,n,m,kk⟩
def lj(B br bf Q K J:Nat)(d:List Nat)(E:Nat)(C:List GI)(A:Nat)(b e:Nat)(c:iA)(w:Gr):Prop:=
 ∀a r T F,Fl B br bf Q K J d E C a r A T F->gb 5 B [br,bf] w a->Cd a b e c.cs c.ss/\Cd a b (e+17) c.cd c.sd
def lj.kept{a b:Nat}{c:iA}{e:Gr}(h:lj B br bf Q K J d E C A a b c w)(k:gb 5 B [br,bf] w e):lj B br bf Q K J d E C A a b c e :=
 λi r T F f g=>h i r T F f (k.t g)
structure CO(c:iA):Prop where
 s1:ld c.cs 15<=c.ss.length
 l1:c.ss.length<=1000
 s2:ld c.cd 15<=c.sd.length
 l2:c.sd.length<=1000
def Nt(b e:Nat)(c:iA)(g:CO c)(n:lj B br bf Q K J d E C A b e c w){j l:List Bool}(h:Fl B br bf Q K J d E C w j A T F)
  (i:gN c.cs c.ss j=O (256,l)):K8 Qe 278 #[M2 (O ⟨bf,0,N⟩),M2 (O ⟨b,e,N⟩)] w λf a=>f=Ps (OV P2)/\Fl B br bf Q K J d E C a l A T F/\gb 5 B [br,bf] w a:=by
 have m:=H i;clear i;go_enter dP,dH;go_wp2_with fail;go_region_with (go_at_call 313;apply(q8 b e c.cs c.ss g.s1 g.l1 (λa r q k=>(n a r _ _ q (((gb.refl _ _ _ _).drew).t k)).1) m h.drew).m;rintro f u ⟨rfl,s,t⟩);go_wp2;go_ret;exact⟨rfl,s,((gb.refl _ _ _ _).drew).t t⟩
def Nu(e i:Nat)(c:iA)(l:CO c)(x:lj B br bf Q K J d E C A e i c w){s t:List Bool}(h:Fl B br bf Q K J d E C w s A T F)
  (a:Nat) (n:gN c.cs c.ss s=O (a,t)) (h1:a<256) (L:G F+1<=E):K8 Qe 278 #[M2 (O ⟨bf,0,N⟩),M2 (O ⟨e,i,N⟩)] w λf b=>f=Ps (OV PV)/\∃j,Fl B br bf Q K J d E C b t A j (F++[a])/\gb 5 B [br,bf] w b:=by
 have v:=H n;clear n;go_enter dP,dH;go_wp2_with fail;go_region_with (go_at_call 313;apply(q8 e i c.cs c.ss l.s1 l.l1 (λb r y k=>(x b r _ _ y (((gb.refl _ _ _ _).drew).t k)).1) v h.drew).m;rintro f W ⟨rfl,z,P⟩);obtain⟨p,M,left,g,D,m⟩:=z;have S:=g.c0;have u:=H m;clear m;have V:(a:Int)<256:=Y;go_wp2_with fail;refine(F9 g.rd a _ ?_ L).m ?_;·first|rfl|omega
 rintro f X ⟨rfl,j,R,q⟩;go_wp2;go_ret;exact⟨rfl,j,⟨p,M,left,g.rdKept R q,D,u⟩,(((gb.refl _ _ _ _).drew).t P).t (q.m eA)⟩
def yE:∀a:Fin 286,257<=a.val->(gu a.val).2<=5/\(gu a.val).1<=258:=by decide +kernel
def Cg:∀a:Fin 30,(gq a.val).2<=13/\(gq a.val).1<=24577/\1<=(gq a.val).1:=by decide +kernel
def Nr(j m:Nat)(c:iA)(l:CO c)(L:lj B br bf Q K J d E C A j m c w){ac r1 r2 r3 r4:List Bool}(h:Fl B br bf Q K J d E C w ac A T F)
  (a n e i:Nat) (V:gN c.cs c.ss ac=O (a,r1)) (x:257<=a) (a2:a<=285) (X:iL (gu a).2 r1=O (n,r2)) (W:gN c.cd c.sd r2=O (e,r3)) (a3:e<=29)
  (hy:iL (gq e).2 r3=O (i,r4)) (y:(gq e).1+i<=G F) (z:(gq e).1+i<=A) (D:G F+((gu a).1+n)<=E) (hw:A<=32768):K8 Qe 278 #[M2 (O ⟨bf,0,N⟩),M2 (O ⟨j,m,N⟩)] w λb g=>b=Ps (OV PV)/\∃v,Fl B br bf Q K J d E C g r4 A v (iP ((gq e).1+i) ((gu a).1+n) F)/\gb 5 B [br,bf] w g:=by
 have HS:=H V;have HT:=H W;have t:=yE ⟨a,Y⟩ x;have u:=Cg ⟨e,Y⟩;simp only[]at t u;obtain⟨x1,x2,x3⟩:=kI X;obtain⟨y1,y2,y3⟩:=kI hy;have X2:=H x2;have X3:=H x3;have Y2:=H y2;have Y3:=H y3;have f:=H (And.intro y (And.intro z (And.intro D (And.intro t (And.intro u (And.intro x1 y1))))));clear V W X hy x2 x3 y2 y3 y z D t u x1 y1;have ad:(257:Int)<=(a:Int):=Y;have al:(a:Int)<=285:=Y;have ao:(e:Int)<=29:=Y;have e1:((a:Int)==256)=P2:=eB;go_enter dP,dH;go_wp2_with fail;go_region_with (go_at_call 313;apply(q8 j m c.cs c.ss l.s1 l.l1 (λg r q k=>(L g r _ _ q (((gb.refl _ _ _ _).drew).t k)).1) HS h.drew).m;rintro b w1 ⟨rfl,a0,k1⟩);have kk:=((gb.refl 5 B [br,bf] w).drew).t k1;clear k1;go_wp2_with fail;apply(ou _ _ _ _ ad al).m;rintro b g ⟨rfl,rfl⟩;go_wp2_with fail;apply(nT _).m;rintro b g ⟨rfl,rfl⟩;go_wp2_with fail;apply(zC a x a2 _).m;rintro b w2 ⟨rfl,o2,rfl⟩;go_wp2_with fail;apply(yi (gu a) wd wd f.2.2.2.2.2.1 (a0.alloc o2)).m;rintro b w3 ⟨rfl,P,k3⟩;rw[<-X3.o]at P;have s:=(kk.alloc o2).t k3;clear kk k3;rw[<-X2.o];go_wp2_with fail;go_region_with (go_at_call 313;apply(q8 j (m+17) c.cd c.sd l.s2 l.l2 (λg r q k=>(L g r _ _ q ((s.drew).t k)).2) HT P.drew).m;rintro b w4 ⟨rfl,a4,k4⟩);have aa:=(s.drew).t k4;clear s k4;go_wp2_with fail;apply(ou _ _ _ _ Y ao).m;rintro b g ⟨rfl,rfl⟩;go_wp2_with fail;apply(nT _).m;rintro b g ⟨rfl,rfl⟩;go_wp2_with fail;apply(D9 e a3 _).m;rintro b w5 ⟨rfl,o5,rfl⟩;go_wp2_with fail;apply(yi (gq e) wd wd f.2.2.2.2.2.2 (a4.alloc o5)).m;rintro b w6 ⟨rfl,R,k6⟩;rw[<-Y3.o]at R;have a5:=(aa.alloc o5).t k6;clear aa k6;rw[<-Y2.o];obtain⟨p,M,left,hb,hl,S⟩:=R;have HR:=H S;clear S;go_wp2_with fail;apply(KD hb ((gu a).1+n) ((gq e).1+i) wd f.1 f.2.1 f.2.2.1 hw).m;rintro b w7 ⟨rfl,v,h7,k7⟩;go_wp2;go_ret;exact⟨rfl,v,⟨p,M,left,h7,hl,HR⟩,a5.t k7⟩
def Dc(g i:Nat)(c:iA)(u:CO c)(t:lj B br bf Q K J d E C A g i c w){v P:List Bool}{L:List Nat}{b:Bool}(h:Fl B br bf Q K J d E C w v A T F)
  (S:A<=32768) (a:gY c A E v F=.ok (b,P,L)):K8 Qe 278 #[M2 (O ⟨bf,0,N⟩),M2 (O ⟨g,i,N⟩)] w λD x=>D=Ps (OV b)/\∃V,Fl B br bf Q K J d E C x P A V L/\gb 5 B [br,bf] w x:=by
 unfold gY at a;cases h1:gN c.cs c.ss v with
 |none=>rw[h1]at a;cases a
 |some f=>
  obtain⟨e,W⟩:=f;rw[h1]at a;simp only[]at a;by_cases o:e<256
  ·rw[ai o]at a;by_cases n:G F+1<=E
   ·rw[ai n]at a;cases a;exact Nu g i c u t h e h1 o n
   ·rw[ah n]at a;cases a
  rw[ah o]at a;by_cases q:e=256
  ·rw[ai q]at a;cases a;subst q;apply(Nt g i c u t h h1).m;rintro D x ⟨rfl,R,k⟩;exact⟨rfl,T,R,k⟩
  rw[ah q]at a;by_cases y:285<e;·rw[ai y]at a;cases a
  rw[ah y]at a;cases h2:iL (gu e).2 W with
  |none=>rw[h2]at a;cases a
  |some f=>
   obtain⟨f,X⟩:=f;rw[h2]at a;simp only[]at a;cases h3:gN c.cd c.sd X with
   |none=>rw[h3]at a;cases a
   |some l=>
    obtain⟨j,r3⟩:=l;rw[h3]at a;simp only[]at a;by_cases z:29<j;·rw[ai z]at a;cases a
    rw[ah z]at a;cases s:iL (gq j).2 r3 with
    |none=>rw[s]at a;cases a
    |some aa=>
     obtain⟨l,r4⟩:=aa;rw[s]at a;simp only[]at a;by_cases m:(gq j).1+l<=G F/\(gq j).1+l<=A
     ·rw[ai m]at a;by_cases r:G F+((gu e).1+f)<=E
      ·rw[ai r]at a;cases a;exact Nr g i c u t h e f j l h1 Y Y h2 h3 Y s m.1 m.2 r S
      ·rw[ah r]at a;cases a
     ·rw[ah m]at a;cases a
def bO(br bf:Nat)(a:Nat)(w:Gr):Nat:=8*(a-posOf br w)+(intOf ((w.cell? ⟨bf,2,N⟩).getD undef)).toNat
def Fl.measure{b:List Bool}(h:Fl B br bf Q K J d E C w b A T F):bO br bf (G d) w=G b:=by obtain⟨p,M,left,a,e,c⟩:=h;have:=a.rd.lp;rw[<-c,bL,ak,jI,g8,au,bO,a.rd.posOf,a.c2];simp[intOf];omega
def KU(a b:Nat)(c:a<256)(e:b<256)(h:jY a=jY b):a=b:=by rw[<-mI a c,<-mI b e,h]
def E5:∀(c b:List Nat),G c=G b->(∀a,a<G c->nth c a<256)->(∀a,a<G b->nth b a<256)->gA c=gA b->c=b
 | [],[],_,_,_,_=>rfl
 | [],_::_,h,_,_,_=>by simp at h
 |_::_,[],h,_,_,_=>by simp at h
 |f::c,g::b,i,h1,h2,h=>by rw[kN,kN]at h;have h3:=List.append_inj h rfl;have e1:f=g:=KU f g (h1 0 eA) (h2 0 eA) h3.1;have e2:c=b:=E5 c b (by simpa using i) (λa e=>h1 (a+1) vj) (λa e=>h2 (a+1) vj) h3.2;rw[e1,e2]
def Hx(b c a:Nat):(⟨b,c,N⟩:L2).add a=⟨b,c+a,N⟩:=by unfold Addr.add;split<;>simp_all
def Bi.bytes(h:Bi B br bf Q K J d E C w p M 0 A T F)(a:List Nat)(j:∀b,b<G a->nth a b<256)(f:List Bool)(e:gA (d.drop p)=gA a++f):p+G a<=G d/\(∀b,b<G a->nth d (p+b)=nth a b)/\gA (d.drop (p+G a))=f:=by
 have m:=h.rd.lp;have k:p+G a<=G d:=by have:=dV List.length e;rw[g8,ak,g8,au]at this;omega
 have g:d.drop p=(d.drop p).take (G a)++d.drop (p+G a):=by rw[<-di,dd]
 rw[g,qA]at e;have l:(gA ((d.drop p).take (G a))).length=(gA a).length:=by rw[g8,g8,ay,au];omega
 have h2:=List.append_inj e l;have i:(d.drop p).take (G a)=a:=by refine E5 _ _ (by rw[ay,au];omega) ?_ j h2.1;intro b c;rw[ay,au]at c;have:=h.rd.byt (p+b) Y;simpa[nth,List.getElem?_take,dz,show b<G a by omega]using this
 refine⟨k,?_,h2.2⟩;intro b c;rw[<-i];simp[nth,dz,c]
def Fl.whole{a:List Bool}(h:Fl B br bf Q K J d E C w a A T F)(c:G a%8=0):∃p M,Bi B br bf Q K J d E C w p M 0 A T F/\gA (d.drop p)=a:=by
 obtain⟨p,M,left,e,f,b⟩:=h;have:left=0:=by rw[<-b,bL,ak,jI,g8]at c;omega
 subst this;exact⟨p,M,e,by rw[<-b];simp[bL,gM]⟩
def DV(a b:Nat)(i:a<=16)(j:b<2^a){g:List Bool}(h:Fl B br bf Q K J d E C w (gM a b++g) A T F):K8 Qe 221 #[M2 (O ⟨bf,0,N⟩),I U a] w λe c=>e=Ps (I U b)/\Fl B br bf Q K J d E C c g A T F/\gb 5 B [br,bf] w c:=by
 apply(sN a i (by simp[jI]) h).m;rintro e c ⟨rfl,f,k⟩;rw[fG (jI a b)]at f;rw[List.take_left' (jI a b),rS,ed j];exact⟨rfl,f,k⟩
def GW(a:List Nat)(x:0<G a)(ad:G a<=65535)(v:∀c,c<G a->nth a c<256){i e:List Bool}(h:Fl B br bf Q K J d E C w i A T F)
  (W:i.drop (G i%8)=gM 16 (G a)++(gM 16 (65535-G a)++(gA a++e))) (u:G e%8=0) (S:G F+G a<=E):K8 Qe 222 #[M2 (O ⟨bf,0,N⟩)] w λb j=>b=Ps (OW #[])/\∃aa,Fl B br bf Q K J d E C j e A aa (F++a)/\gb 5 B [br,bf] w j:=by
 have r:=H W;have q:=H u;have tok:True:=trivial
 go_in
 go_wp2_with fail;apply(yu h).m;rintro b w1 ⟨rfl,⟨p1,z,y,l⟩,X⟩;rw[r.o]at l;have D:Fl B br bf Q K J d E C w1 (gM 16 (G a)++(gM 16 (65535-G a)++(gA a++e))) A T F:=⟨p1,z,0,y,Y,by rw[<-l];simp[bL,gM]⟩;go_wp2_with fail;go_region_with (first|(go_at_call 221;have _t:=tok;apply(DV 16 (G a) Y Y D.drew).m;rintro b w2 ⟨rfl,L,k2⟩)|(go_at_call 221;apply(DV 16 (65535-G a) Y Y L).m;rintro b w3 ⟨rfl,P,k3⟩));have kk:=(X.drew.t k2).t k3;have e1:((65535-G a:Nat):Int)=65535-(G a:Int):=Y;rw[e1];go_wp2_with fail;apply(nT _).m;rintro b j ⟨rfl,rfl⟩;obtain⟨p,M,f,V⟩:=P.whole (by rw[ak,g8];have:=q.o;omega);obtain⟨q1,q2,q3⟩:=f.bytes a v e V;have s:=H q2;have t:=H q3;have c0:=f.c0;go_wp2_with fail;go_region_with (first|(go_at_call 164;apply(AK (f.rd.drewN 1) (G a) x q1).m;rintro b w4 ⟨rfl,g,m⟩;have k:=f.rdKept g (((gb.refl _ _ _ _).drewN 1).t m);have c4:=k.c0)|(go_at_call 213;refine(po g a ⟨Q,K+p,N⟩ (J-p) S (by have:=g.sz;omega) (λc R=>by rw[Hx,<-s.o c R,dQ];exact g.dat (p+c) Y)).m ?_;rintro b w5 ⟨rfl,ac,r5,n⟩));all_goals go_wp2
 all_goals go_end0
 all_goals exact⟨rfl,ac,⟨p+G a,M,0,k.rdKept r5 n,Y,by rw[<-t.o];simp[bL,gM]⟩,(kk.drewN 1).t ((m.t n).m eA)⟩
def gL(a:List Nat):List GI:=a.map λb:Nat=>I U b
def iJ(w:Gr)(e:Nat)(a:List Nat):Prop:=∃c b,w.heap[e]?=O (Pp c 3 b)/\∀i,i<G a->c[i]?=O (I U (nth a i:Nat))
def iJ.kept{a:Nat}{e:List Nat}{f:Gr}{b:List Nat}(h:iJ w a e)(k:gb 5 B b w f)(j:a∉b):iJ f a e:=by obtain⟨c,i,l,m⟩:=h;exact⟨c,i,k.block a _ j l (P4 (by intro n o g;simp at g)),m⟩
def iJ.cell{e:Nat}{b:List Nat}(h:iJ w e b)(a:Nat)(i:a<G b):w.cell? ⟨e,a,N⟩=O (I U (nth b a:Nat)):=by obtain⟨c,j,f,g⟩:=h;rw[iI f];exact g a i
structure xr(w:Gr)(br bf:Nat)(C:List GI):Prop where
 ex:∃g1 c1 g2 c2,C=gL mX++(Z (O ⟨g1,0,N⟩) (G lZ) c1::(gL oD++[Z (O ⟨g2,0,N⟩) (G mR) c2]))/\iJ w g1 lZ/\iJ w g2 mR/\g1≠br/\g1≠bf/\g2≠br/\g2≠bf
def Ii:G mX=16:=by decide +kernel
def Ce:G oD=16:=by decide +kernel
def fO:CO jJ:=by
 refine⟨?_,?_,?_,?_⟩;·rw[qg,oI];decide +kernel
 ·rw[oI];decide +kernel
 ·rw[qe,oG];decide +kernel
 ·rw[oG];decide +kernel
def ig(b:List Nat)(a:Nat)(h:a<G b):(gL b)[a]?=O (I U (nth b a:Nat)):=by simp[gL,nth,h]
def xr.codes(h:xr w br bf C):lj B br bf Q K J d E C A bf 4 jJ w:=by
 intro S r T F n k;obtain⟨j,g,l,i,c,s,t,D,L,P,R⟩:=h.ex;obtain⟨p,M,left,m,hl,hr⟩:=n;have u:=s.kept k (by simp[D,L]);have v:=t.kept k (by simp[P,R]);have b:∀a f,C[a]?=O f->S.cell? ⟨bf,4+a,N⟩=O f:=by intro a f q;rw[iI m.blk,Nat.add_comm 4 a];simpa using q
 have x:=Ii;have y:=Ce;have e:(gL mX).length=16:=by simpa[gL]using x
 have z:(gL oD).length=16:=by simpa[gL]using y
 rw[qg,oI,qe,oG];generalize mX=W at *;generalize lZ=SS at *;generalize oD=V at *;generalize mR=X at *;refine⟨⟨?_,j,g,?_,u.cell⟩,⟨?_,l,i,?_,v.cell⟩⟩
 ·intro a o;refine b a _ ?_;rw[c,aP Y];exact ig _ _ Y
 ·refine b 16 _ ?_;rw[c,aF Y,e];rfl
 ·intro a o;rw[show 4+17+a=4+(17+a)by omega];refine b (17+a) _ ?_;rw[c,aF Y,e,show 17+a-16=a+1 by omega,eG,aP Y];exact ig _ _ Y
 ·rw[show 4+17+16=4+33 by omega];refine b 33 _ ?_;rw[c,aF Y,e,show 33-16=16+1 by omega,eG,aF Y,z];rfl
end
def zL(b:List Nat)(a c:Nat)(h:a<G b):nth (b.set a c) a=c:=by simp[nth,h]
def yG(c:List Nat)(b a d:Nat)(h:b≠a):nth (c.set b d) a=nth c a:=by simp[nth,List.getElem?_set_ne h]
def zE(c b:List Nat)(d:G c=G b)(h:∀a,a<G c->nth c a=nth b a):c=b:=by apply List.ext_getElem d;intro a h1 h2;have:=h a h1;simpa[nth,h1,h2]using this
def nr(b a c:Nat)(h:a<b):nth (Qf b c) a=c:=by simp[nth,h]
def cnt(b:List Nat):List Nat:=(List.range 16).map λa=>b.count a
def A_(a:List Nat):(cnt a).length=16:=by simp[cnt]
def CK(b:List Nat)(a:Nat)(h:a<16):nth (cnt b) a=b.count a:=by simp[nth,cnt,h]
def Lk(c:List Nat)(a:Nat)(d:a<16):cnt (c++[a])=(cnt c).set a (nth (cnt c) a+1):=by
 refine zE _ _ (by simp[A_]) ?_;intro e b;rw[A_]at b;rw[CK _ _ b,dW];by_cases h:a=e;·subst h;rw[zL _ _ _ (by rw[A_];exact d),CK _ _ d];simp
 ·rw[yG _ _ _ _ h,CK _ _ b];simp[h]
def cz(l:List Nat):List Nat:=(cnt l).set 0 0
def qU(l:List Nat):(cz l).length=16:=by simp[cz,A_]
def CJ(a:List Nat):nth (cz a) 0=0:=zL _ _ _ (by rw[A_];omega)
def wU(l:List Nat)(a:Nat)(b:0<a)(h:a<16):nth (cz l) a=l.count a:=by rw[cz,yG _ _ _ _ Y,CK _ _ h]
def pre(c:List Nat)(a:Nat):Nat:=(c.take a).sum
def xV(c:List Nat)(a:Nat)(h:a<G c):pre c (a+1)=pre c a+nth c a:=by unfold pre;rw[bJ h,List.sum_append];simp[nth,h]
def Ey(c:List Nat)(a b:Nat)(h:a<=b):pre c a<=pre c b:=by
 induction b with
 |zero=>obtain rfl:a=0:=Y;exact ag _
 |succ b d=>
  rcases bU a (b+1)with h1|h1
  ·refine aA (d Y) ?_;rcases bU b (G c) with h2|h2;·rw[xV _ _ h2];omega
   ·unfold pre;rw[bD h2,bD Y];exact ag _
  ·obtain rfl:a=b+1:=Y;exact ag _
def Ex(c:List Nat)(h:G c=16):pre c 16=c.sum:=by unfold pre;rw[bD Y]
def pl(c:List Nat)(b:Nat):List Nat:=(List.range 16).map λa=>if a<=b then pre c a else 0
def Ae(c:List Nat)(a:Nat):(pl c a).length=16:=by simp[pl]
def zM(c:List Nat)(b a:Nat)(h:a<16):nth (pl c b) a=if a<=b then pre c a else 0:=by simp[nth,pl,h]
def Nv(c:List Nat):pl c 0=Qf 16 0:=by
 refine zE _ _ (by simp[Ae]) ?_;intro b a;rw[Ae]at a;rw[zM _ _ _ a];by_cases h:b<=0
 ·obtain rfl:b=0:=Y;simp[pre,nth]
 ·rw[ah h,nr _ _ _ a]
def ND(c:List Nat)(a:Nat)(f:a<15)(e:G c=16):pl c (a+1)=(pl c a).set (a+1) (nth (pl c a) a+nth c a):=by
 refine zE _ _ (by simp[Ae]) ?_;intro d b;rw[Ae]at b;rw[zM _ _ _ b,zM _ _ _ Y,ai (ag a)];by_cases h:a+1=d
 ·subst h;rw[zL _ _ _ (by rw[Ae];omega),ai (ag _),xV _ _ Y]
 ·rw[yG _ _ _ _ h,zM _ _ _ b];by_cases h2:d<=a;·rw[ai h2,ai Y]
  ·rw[ah h2,ah Y]
def fT(a:List Nat):Nat->List Nat×List Nat
 |0=>(pl (cz a) 15,Qf (cz a).sum 0)
 |k+1=>if nth a k=0 then fT a k else((fT a k).1.set (nth a k) (nth (fT a k).1 (nth a k)+1),(fT a k).2.set (nth (fT a k).1 (nth a k)) k)
def Bb(a:List Nat)(h:∀i,i<G a->nth a i<16):∀k,k<=G a ->(fT a k).1.length=16/\(fT a k).2.length=(cz a).sum/\∀b,0<b->b<16->nth (fT a k).1 b=pre (cz a) b+(a.take k).count b
 |0,_=>⟨Ae _ _,by simp[fT],λb e d=>by simp[fT,zM _ _ _ d,show b<=15 by omega]⟩
 |k+1,l=>by
  obtain⟨h1,h2,h3⟩:=Bb a h k Y;have m:=h k Y;have f:a.take (k+1)=a.take k++[nth a k]:=by rw[bJ Y];simp[nth,show k<G a by omega]
  unfold fT;by_cases c:nth a k=0
  ·rw[ai c];refine⟨h1,h2,λb e d=>?_⟩;have j:¬0=b:=Y;rw[h3 b e d,f,dW,c];simp[j]
  ·rw[ah c];refine⟨by simp[h1],by simp[h2],λb e d=>?_⟩;by_cases g:nth a k=b
   ·subst g;rw[zL _ _ _ Y,h3 _ e d,f,dW];simp;omega
   ·rw[yG _ _ _ _ g,h3 b e d,f,dW];simp[g]
def IOx(a:List Nat)(e:∀f,f<G a->nth a f<16)(k:Nat)(b:k<G a)(d:0<nth a k):nth (fT a k).1 (nth a k)<(cz a).sum:=by
 obtain⟨_,_,h3⟩:=Bb a e k Y;have c:=e k b;rw[h3 _ d c];have g:a=a.take k++(nth a k::a.drop (k+1)):=by
  have:nth a k=a[k]:=by simp[nth,b]
  rw[this,<-aW b,dd]
 have l:(a.take k).count (nth a k)<a.count (nth a k):=by have h:=dV (List.count (nth a k)) g;rw[dW,List.count_cons_self]at h;omega
 have i:=xV (cz a) (nth a k) (by rw[qU];exact c);rw[wU _ _ d c]at i;have j:=Ey (cz a) (nth a k+1) 16 Y;rw[Ex _ (qU a)]at j;omega
def Fd(b:List Nat)(i:∀a,a<G b->nth b a<16):(cz b).sum<=16*G b:=by
 have:∀c:List Nat,(∀a,a<G c->nth c a<=G b)->c.sum<=G c*G b:=by
  intro c;induction c with
  |nil=>simp
  |cons e c g=>intro h;have h1:=g (λa d=>h (a+1) (by simpa using d));have h2:e<=G b:=h 0 eA;simp only[eF,aj,Nat.add_mul,Nat.one_mul];omega
 have h:=this (cz b) (λa d=>by
  rw[qU]at d;by_cases f:a=0;·subst f;rw[CJ];omega
  ·rw[wU _ _ Y d];exact List.count_le_length)
 rw[qU]at h;exact h
def yz:cz jE=mX/\(fT jE 288).2=lZ/\cz jD=oD/\(fT jD 32).2=mR:=by refine⟨by decide +kernel,by decide +kernel,by decide +kernel,by decide +kernel⟩
section
variable{w:Gr}
def mT:Obj:=Pp (gL (Qf 16 0)++[Z N 0 0]).toArray 162 (0,0)
structure yn(w:Gr)(wr:Gr)(c:List Nat):Prop where
 below:LT w.heap.size w wr
 size:wr.heap.size=w.heap.size+2
 res:wr.heap[w.heap.size]?=O mT
 cod:wr.heap[w.heap.size+1]?=O (Pp (gL c++[Z N 0 0]).toArray 162 (0,0))
 len:G c=16
def yn.cell{wr:Gr}{c:List Nat}(h:yn w wr c)(a:Nat)(b:a<16):wr.cell? ⟨w.heap.size+1,a,N⟩=O (I U (nth c a:Nat)):=by rw[iI h.cod];have:=h.len;simp[gL,nth,aP,this,b]
def yn.set{wr:Gr}{c:List Nat}(h:yn w wr c)(i a:Nat)(b:i<16):yn w (wr.setCell ⟨w.heap.size+1,i,N⟩ (I U a)) (c.set i a):=by
 have d:=h.len;refine⟨h.below.setCell (by show w.heap.size<=w.heap.size+1;omega) _,by simp[h.size],?_,?_,by simp[h.len]⟩;·rw[kW _ Y];exact h.res
 ·rw[lV _ h.cod];have:i<(gL c).length:=by simp[gL,d,b]
  simp only[List.setIfInBounds_toArray,List.set_append_left _ _ this];simp[gL,List.map_set]
structure qQ(w:Gr)(wr:Gr)(c P:List Nat)(v:GI):Prop where
 below:LT w.heap.size w wr
 size:w.heap.size+3<=wr.heap.size
 res:wr.heap[w.heap.size]?=O mT
 cod:wr.heap[w.heap.size+1]?=O (Pp (gL c++[v]).toArray 162 (0,0))
 plc:wr.heap[w.heap.size+2]?=O (Pp (gL P).toArray 160 (0,0))
 len:G c=16
 lep:G P=16
def qQ.cell{wr:Gr}{c b:List Nat}{e:GI}(h:qQ w wr c b e)(a:Nat)(d:a<16):wr.cell? ⟨w.heap.size+1,a,N⟩=O (I U (nth c a:Nat)):=by rw[iI h.cod];have:=h.len;simp[gL,nth,aP,this,d]
def qQ.cell16{wr:Gr}{c b:List Nat}{a:GI}(h:qQ w wr c b a):wr.cell? ⟨w.heap.size+1,16,N⟩=O a:=by rw[iI h.cod];have:=h.len;simp[gL,this]
def qQ.place{wr:Gr}{c b:List Nat}{e:GI}(h:qQ w wr c b e)(a:Nat)(d:a<16):wr.cell? ⟨w.heap.size+2,a,N⟩=O (I U (nth b a:Nat)):=by rw[iI h.plc];have:=h.lep;simp[gL,nth,this,d]
def qQ.drew{wr:Gr}{c a:List Nat}{v:GI}(h:qQ w wr c a v):qQ w wr.drew c a v:=⟨h.below.drew,h.size,h.res,h.cod,h.plc,h.len,h.lep⟩
def qQ.setP{wr:Gr}{c b:List Nat}{d:GI}(h:qQ w wr c b d)(a e:Nat)(f:a<16):qQ w (wr.setCell ⟨w.heap.size+2,a,N⟩ (I U e)) c (b.set a e) d:=by
 refine⟨h.below.setCell (by show w.heap.size<=w.heap.size+2;omega) _,by simp[h.size],?_,?_,?_,h.len,by simp[h.lep]⟩;·rw[kW _ Y];exact h.res
 ·rw[kW _ Y];exact h.cod
 ·rw[lV _ h.plc];simp[gL,List.map_set]
def qQ.setV{wr:Gr}{c a:List Nat}{e:GI}(h:qQ w wr c a e)(b:GI):qQ w (wr.setCell ⟨w.heap.size+1,16,N⟩ b) c a b:=by
 have d:=h.len;refine⟨h.below.setCell (by show w.heap.size<=w.heap.size+1;omega) _,by simp[h.size],?_,?_,?_,h.len,h.lep⟩;·rw[kW _ Y];exact h.res
 ·rw[lV _ h.cod];have:(gL c).length=16:=by simp[gL,d]
  simp only[List.setIfInBounds_toArray];rw[er _ _ Y,this];rfl
 ·rw[kW _ Y];exact h.plc
def qQ.other{wr:Gr}{c b:List Nat}{v:GI}(h:qQ w wr c b v)(a:L2)(d:GI)(e:w.heap.size+3<=a.block):qQ w (wr.setCell a d) c b v:=by
 refine⟨h.below.setCell Y _,by simp[h.size],?_,?_,?_,h.len,h.lep⟩;·rw[dy _ _ _ _ Y];exact h.res
 ·rw[dy _ _ _ _ Y];exact h.cod
 ·rw[dy _ _ _ _ Y];exact h.plc
def qQ.grown{wr d:Gr}{c b:List Nat}{v:GI}(h:qQ w wr c b v)(a:wr.grownBy d N):qQ w d c b v:=by
 have e:=h.size;refine⟨h.below.grown a Y (λk h=>by cases h),by have:=a.size;omega,?_,?_,?_,h.len,h.lep⟩;·rw[a.block _ Y eA];exact h.res
 ·rw[a.block _ Y eA];exact h.cod
 ·rw[a.block _ Y eA];exact h.plc
def Lm{wr:Gr}{a:List Nat}(b:yn w wr (cnt a)):qQ w ((wr.setCell ⟨w.heap.size+1,0,N⟩ (I U 0)).alloc (Pp (gL (Qf 16 0)).toArray 160 (0,0))) (cz a) (pl (cz a) 0) (Z N 0 0):=by have h1:yn w (wr.setCell ⟨w.heap.size+1,0,N⟩ (I U 0)) (cz a):=b.set 0 0 Y;refine⟨h1.below.alloc (by rw[h1.size];omega) _,by rw[aL,h1.size];omega,mA _ h1.res,mA _ h1.cod,?_,qU a,Ae _ _⟩;rw[Nv];have:=bn (wr.setCell ⟨w.heap.size+1,0,N⟩ (I U 0)) (Pp (gL (Qf 16 0)).toArray 160 (0,0));rw[h1.size]at this;exact this
def rm{c:Gr}{d b a:Nat}(h:c.ownsRow d 3 1 (Z (O ⟨b,0,N⟩) a a) a (madeCells (Value.cells (I U 0)) (a*1)).toList):c.heap[b]?=O (Pp (gL (Qf a 0)).toArray 3 (0,0)):=by
 rcases h.2 with⟨g,_⟩|⟨n,m,e,l,_,j,_,_,i,k⟩;·cases g
 cases l;have f:e.toList=(madeCells (Value.cells (I U 0)) (a*1)).toList:=by rw[<-k,bD (by rw[eX,i];omega)]
 have e2:(madeCells (Value.cells (I U 0)) (a*1)).toList=gL (Qf a 0):=by show(madeCells #[I U 0] (a*1)).toList=_;rw[toList_madeCells_one];simp[gL]
 rw[j,<-e2,<-f]
def vu{wr:Gr}{b:Nat}(h:wr.heap[b]?=O mT):wr.there b 0 17:=by intro d c;have a:wr.heap[b]?=O (Pp (gL (Qf 16 0)++[Z N 0 0]).toArray 162 (0,0)):=h;refine⟨?_,nG a⟩;rw[iI a,bR,af (by simp[gL];omega)];rfl
def yI(c:List Nat)(a:Option L2){d b:Nat}:(gL c++[Z a d b]).toArray.all (·.oneCell')=PV:=by simp[gL,Value.oneCell']
def infoInt:(Tryz.prog.info? 3).map (λa=>(a.zero,a.size,a.bytes))=O (O (I U 0),1,8):=by kernel_rfl
def Cc(q s ao:Nat)(a:List Nat)(D:∀e,e<G a->nth a e<16)(hn:G a<=320)(X:q<w.heap.size)(V:∀e,e<G a->w.cell? ⟨q,s+e,N⟩=O (I U (nth a e:Nat))):K8 Qe 219 #[Z (O ⟨q,s,N⟩) (G a) ao] w λn w'=>∃A,n=Ps (N1 (gL (cz a)++[Z (O ⟨A,0,N⟩) (cz a).sum (cz a).sum]).toArray)/\iJ w' A (fT a (G a)).2/\LT w.heap.size w w'/\w.heap.size<=A:=by
 go_in
 go_wp2;go_loopw [12] (λe wr=>∃k:Nat,k<=G a/\e=I U k/\yn w wr (cnt (a.take k))) (λe _=>G a-(intOf e).toNat)
 case atStart=>
  refine⟨0,aH _,rfl,⟨((aq _ _).alloc (ag _) _).alloc eA _,eA,?_,?_,A_ _⟩⟩;·exact mA _ (bn w mT)
  ·have:=bn (w.alloc mT) (Pp (gL (cnt (a.take 0))++[Z N 0 0]).toArray 162 (0,0));have n:(w.alloc mT).heap.size=w.heap.size+1:=eA;rw[n]at this;exact this
 case round=>
  obtain⟨k,hk,rfl,c⟩:=hrel;by_cases f:k<G a
  ·have j:=D k f;have Q:=(c.below.cell (p:=⟨q,s+k,N⟩) X).t (V k f);have c2:=c.cell (nth a k) j;have f2:wr.frozen? ⟨w.heap.size+1,nth a k,N⟩=P2:=nG c.cod;have W:=CK (a.take k) (nth a k) j;have b1:nth (cnt (a.take k)) (nth a k)<=320:=by rw[W];refine aA List.count_le_length ?_;rw[ay];omega
   have HS:=H (Lk (a.take k) (nth a k) j);have HT:L1 (a.take (k+1)=a.take k++[nth a k]):=by unfold Hid;rw[bJ f];simp[nth,f]
   clear W;generalize hC:cnt (a.take k)=aa at *;clear hC;generalize T:nth a k=h at *;clear T;have bi:(h:Int)<16:=Y;go_wp2;go_roundw
   case rel=>refine⟨k+1,Y,by go_num,?_⟩;rw[HT.o,HS.o];have:=c.set h (nth aa h+1) j;simpa using this
   case measure=>simp[intOf];omega
  ·obtain rfl:k=G a:=Y;rw[fB]at c;have c0:=c.cell 0 Y;have f0:=jR 0 c.cod;have b6:=c.size;have bb:=Fd a D;have ba:=Lm c;obtain⟨i0,C,bm,bo,br⟩:=bu infoInt;obtain⟨wo,bd⟩:∃wo:Gr,wo=wr:=⟨_,rfl⟩;subst bd;have x:=H D;have HC:=H V;have l:=H (And.intro hn (And.intro X bb));go_wp2;go_loopw [7] (λL wr=>∃k:Nat,k<=15/\L=I U ((k:Int)+1)/\qQ w wr (cz a) (pl (cz a) k) (Z N 0 0)) (λL _=>16-(intOf L).toNat)
   case atStart=>exact⟨0,Y,rfl,ba⟩
   case round=>
    obtain⟨k,hk,rfl,c⟩:=hrel;by_cases f:k<15
    ·have b5:(k:Int)+1<=15:=Y;have p0:=c.place k Y;have p1:=c.place (k+1) Y;have q0:=c.cell k Y;have f1:wr.frozen? ⟨w.heap.size+2,k+1,N⟩=P2:=nG c.plc;have a1:=Ey (cz a) k 16 Y;rw[Ex _ (qU a)]at a1;have bz:nth (pl (cz a) k) k<=5120:=by rw[zM _ _ _ Y,ai (ag _)];have:=l.o;omega
     have b0:nth (cz a) k<=320:=by
      by_cases B:k=0;·subst B;rw[CJ];omega
      ·rw[wU _ _ Y Y];exact aA List.count_le_length l.o.1
     have m:=H (ND (cz a) k f (qU a));generalize hA:nth (pl (cz a) k) k=M at *;generalize hB:nth (cz a) k=P at *;generalize hD:nth (pl (cz a) k) (k+1)=Dd at *;go_wp2_with fail;go_region;go_wp2;go_roundw
     case rel=>refine⟨k+1,Y,by go_num,?_⟩;rw[m.o];have:=(c.setP (k+1) (M+P) Y).drew;simpa using this
     case measure=>simp[intOf];omega
    ·obtain rfl:k=15:=Y;have p0:=c.place 15 Y;have q0:=c.cell 15 Y;have bx:nth (pl (cz a) 15) 15+nth (cz a) 15=(cz a).sum:=by rw[zM _ _ _ Y,ai (ag _),<-xV _ _ (by rw[qU];omega),Ex _ (qU a)]
     have hN:(cz a).sum<=5120:=by have:=l.o;omega
     have S:=c.size;obtain⟨d,bf⟩:∃d:Gr,d=wr:=⟨_,rfl⟩;subst bf;have J:nth (pl (cz a) 15) 15+nth (cz a) 15<=(cz a).sum:=Y;have K:(cz a).sum<=nth (pl (cz a) 15) 15+nth (cz a) 15:=Y;generalize hA:nth (pl (cz a) 15) 15=M at p0 J K;generalize hB:nth (cz a) 15=P at q0 J K;generalize a0:(cz a).sum=b at hN J K;have y:=H a0;go_wp2_with (at_make;refine wpList_make_full _ rfl _ _ 52 rfl (w.heap.size+3) 3 i0 (I U 0) 1 cG C bm bo U U _ _ b rfl rfl Y Y (by rw[br];omega) oi S ?_;intro t a7 hg1;have z:=c.grown hg1;have b8:=z.cell16;have bw:t.frozen? ⟨w.heap.size+1,16,N⟩=P2:=nG z.cod;have i:=rm a7);have st:=z.setV (Z (O ⟨d.heap.size,0,N⟩) b b);have bs:(t.setCell ⟨w.heap.size+1,16,N⟩ (Z (O ⟨d.heap.size,0,N⟩) b b)).heap[d.heap.size]?=O (Pp (gL (Qf b 0)).toArray 3 (0,0)):=by rw[kW _ Y];exact i
     have ad:L1 (qQ w (t.setCell ⟨w.heap.size+1,16,N⟩ (Z (O ⟨d.heap.size,0,N⟩) b b)) (cz a) (fT a 0).1 (Z (O ⟨d.heap.size,0,N⟩) b b)/\(t.setCell ⟨w.heap.size+1,16,N⟩ (Z (O ⟨d.heap.size,0,N⟩) b b)).heap[d.heap.size]?=O (Pp (gL (fT a 0).2).toArray 3 (0,0))):=⟨st,by unfold fT;rw[y.o];exact bs⟩;go_loopw [52] (λe wr=>∃k:Nat,k<=G a/\e=I U k/\L1 (qQ w wr (cz a) (fT a k).1 (Z (O ⟨d.heap.size,0,N⟩) b b)/\wr.heap[d.heap.size]?=O (Pp (gL (fT a k).2).toArray 3 (0,0)))) (λe _=>G a-(intOf e).toNat)
     case atStart=>exact⟨0,aH _,rfl,ad⟩
     case round=>
      obtain⟨k,hk,rfl,HH⟩:=hrel;obtain⟨c,i⟩:=HH.o;have b2:k<=320:=by have:=l.o;omega
      have b3:(k:Int)<=320:=Y;by_cases f:k<G a
      ·have j:=x.o k f;have Q:=(c.below.cell (p:=⟨q,s+k,N⟩) l.o.2.1).t (HC.o k f);by_cases B:0<nth a k
       ·have a5:=IOx a x.o k f B;obtain⟨_,i2,_⟩:=Bb a x.o k Y;rw[y.o]at a5 i2;have c2:=c.place (nth a k) j;have f2:wr.frozen? ⟨w.heap.size+2,nth a k,N⟩=P2:=nG c.plc;have c3:=c.cell16;have R:∃bt,wr.cell? ⟨d.heap.size,nth (fT a k).1 (nth a k),N⟩=O bt:=by
         rw[iI i];have:nth (fT a k).1 (nth a k)<(gL (fT a k).2).length:=by simp only[gL,aw];omega
         exact⟨_,by rw[bR,af this]⟩
        obtain⟨u4,R⟩:=R;have f4:wr.frozen? ⟨d.heap.size,nth (fT a k).1 (nth a k),N⟩=P2:=nG i;have F:fT a (k+1)=((fT a k).1.set (nth a k) (nth (fT a k).1 (nth a k)+1),(fT a k).2.set (nth (fT a k).1 (nth a k)) k):=by
         conv=>lhs;unfold fT
         rw[ah Y]
        have m:=H F;have r:=H (And.intro c i);generalize hP:nth (fT a k).1 (nth a k)=g at *;generalize T:nth a k=h at *;have bi:(h:Int)<16:=Y;have b4:(g:Int)<(b:Int):=Y;go_wp2_with fail;go_region;go_wp2;go_roundw
        case rel=>
         refine⟨k+1,Y,by go_num,?_⟩;rw[m.o];have h1:=(((r.o.1).other ⟨d.heap.size,g,N⟩ (I U k) S).setP h (g+1) j).drew;have h2:((wr.setCell ⟨d.heap.size,g,N⟩ (I U k)).setCell ⟨w.heap.size+2,h,N⟩ (I U (g+1:Nat))).drew.heap[d.heap.size]?=O (Pp (gL ((fT a k).2.set g k)).toArray 3 (0,0)):=by show((wr.setCell ⟨d.heap.size,g,N⟩ (I U k)).setCell ⟨w.heap.size+2,h,N⟩ (I U (g+1:Nat))).heap[d.heap.size]?=_;rw[kW _ Y,lV _ r.o.2];simp[gL,List.map_set]
         have:=And.intro h1 h2;simpa[L1]using this
        case measure=>simp[intOf];omega
       ·have hz:nth a k=0:=Y;have F:fT a (k+1)=fT a k:=by
         conv=>lhs;unfold fT
         rw[ai hz]
        have m:=H F;have r:=H (And.intro c i);rw[hz]at Q;go_wp2;go_roundw
        case rel=>refine⟨k+1,Y,by go_num,?_⟩;rw[m.o];exact r.o
        case measure=>simp[intOf];omega
      ·obtain rfl:k=G a:=Y;have a8:wr.rangeAt (w.heap.size+1) 0 (gL (cz a)++[Z (O ⟨d.heap.size,0,N⟩) b b]):=by intro b7 bv hv;rw[bH,iI c.cod];simpa using hv
       have E:(gL (cz a)++[Z (O ⟨d.heap.size,0,N⟩) b b]).length=17:=by simp[gL,qU]
       have a4:(Tryz.prog.info? 162).map (·.size)=O (gL (cz a)++[Z (O ⟨d.heap.size,0,N⟩) b b]).length:=by rw[E];kernel_rfl
       have bc:wr.there w.heap.size 0 (gL (cz a)++[Z (O ⟨d.heap.size,0,N⟩) b b]).toArray.size:=by have n:=List.size_toArray.t E;rw[n];exact vu c.res
       have a6:(gL (cz a)++[Z (O ⟨d.heap.size,0,N⟩) b b]).toArray.all (·.oneCell')=PV:=yI _ _;have a3:=
        Ds c.res (by rw[E];rfl)
       have a9:iJ (wr.setCells w.heap.size 0 (gL (cz a)++[Z (O ⟨d.heap.size,0,N⟩) b b])) d.heap.size (fT a (G a)).2:=by refine⟨_,_,by rw[xg _ Y];exact i,λe C=>?_⟩;rw[bR];exact ig _ _ C
       have a2:LT w.heap.size w (wr.setCells w.heap.size 0 (gL (cz a)++[Z (O ⟨d.heap.size,0,N⟩) b b])):=x_ _ _ (ag _) _ _ _ _ c.below;have u:=H (And.intro a3 (And.intro a9 a2));have v:=H a4;have ac:=H a8;have al:=H bc;go_wp2_with (first|(refine df rfl 162 (.tmp 3) rfl (w.heap.size+1) 0 rfl _ _ ac.o underlying162 rfl v.o ?_)|(refine eI rfl 162 (.tmp 2) (.tmp 72) rfl w.heap.size 0 _ rfl rfl al.o (by rw[List.size_toArray];exact v.o) a6 ?_));have bq:(Tryz.prog.info? 162).map (·.size)=O (gL (cz a)++[Z (O ⟨d.heap.size,0,N⟩) b b]).toArray.size:=by rw[List.size_toArray];exact v.o
       refine av (v:=N1 (gL (cz a)++[Z (O ⟨d.heap.size,0,N⟩) b b]).toArray) ?_ rfl ⟨d.heap.size,by rw[y.o],u.o.2.1,u.o.2.2,Y⟩;exact aE results219 _ _ w.heap.size 162 _ _ _ rfl u.o.1 underlying162 rfl bq
def i_:Obj:=Pp ((gL (Qf 16 0)++[Z N 0 0])++(gL (Qf 16 0)++[Z N 0 0])).toArray 164 (0,0)
def jL(b:List Nat)(k:Nat):List Nat:=(List.range (G b)).map λa=>if a<k then nth b a else 0
def yK(a:List Nat)(k:Nat):(jL a k).length=G a:=by simp[jL]
def np(b:List Nat)(k a:Nat)(h:a<G b):nth (jL b k) a=if a<k then nth b a else 0:=by simp[jL,nth,h]
def Jx(b:List Nat):jL b 0=Qf (G b) 0:=by refine zE _ _ (by simp[jL]) ?_;intro c a;rw[yK]at a;rw[np _ _ _ a,ah Y,nr _ _ _ a]
def Jw(b:List Nat):jL b (G b)=b:=by refine zE _ _ (by simp[jL]) ?_;intro c a;rw[yK]at a;rw[np _ _ _ a,ai a]
def JB(a:List Nat)(k:Nat)(h:k<G a):jL a (k+1)=(jL a k).set k (nth a k):=by
 refine zE _ _ (by simp[jL]) ?_;intro e b;rw[yK]at b;rw[np _ _ _ b];by_cases c:k=e;·subst c;rw[zL _ _ _ (by rw[yK];exact h),ai Y]
 ·rw[yG _ _ _ _ c,np _ _ _ b];by_cases d:e<k;·rw[ai d,ai Y]
  ·rw[ah d,ah Y]
def Eh:G jE=288:=by decide +kernel
def D_:G jD=32:=by decide +kernel
def Mq:∀k:Fin 288,nth jE k.val=if k.val<=143 then 8 else if k.val<=255 then 9 else if k.val<=279 then 7 else 8:=by decide +kernel
def LF:∀k:Fin 32,nth jD k.val=5:=by decide +kernel
structure Lw(w wr:Gr)(g:Nat)(l:List Nat):Prop where
 below:LT w.heap.size w wr
 res:wr.heap[w.heap.size]?=O i_
 row:wr.heap[g]?=O (Pp (gL l).toArray 3 (0,0))
def Lw.cell{wr:Gr}{c:Nat}{b:List Nat}(h:Lw w wr c b)(a:Nat)(d:a<G b):wr.cell? ⟨c,a,N⟩=O (I U (nth b a:Nat)):=by rw[iI h.row,bR];exact ig _ _ d
def Lw.set{wr:Gr}{a:Nat}{b:List Nat}(h:Lw w wr a b)(d:w.heap.size<a)(i c:Nat):Lw w (wr.setCell ⟨a,i,N⟩ (I U c)) a (b.set i c):=by
 refine⟨h.below.setCell (by show w.heap.size<=a;omega) _,?_,?_⟩;·rw[kW _ Y];exact h.res
 ·rw[lV _ h.row];simp[gL,List.map_set]
def tB(a:List GI)(h:G a=17):∃b c l m n o p q r s d e f g i j k,a=[b,c,l,m,n,o,p,q,r,s,d,e,f,g,i,j,k]:=
 match a,h with
 | [b,c,l,m,n,o,p,q,r,s,d,e,f,g,i,j,k],_=>⟨b,c,l,m,n,o,p,q,r,s,d,e,f,g,i,j,k,rfl⟩
def Lc(b c k l m n o p q r d e f g h i j s t C D E F J K L M u v x y z A B:GI)(a:Gr):(Instr.build 164 #[(0,N1 #[b,c,k,l,m,n,o,p,q,r,d,e,f,g,h,i,j]),(1,N1 #[s,t,C,D,E,F,J,K,L,M,u,v,x,y,z,A,B])]).run Qe a=.ok (N1 #[b,c,k,l,m,n,o,p,q,r,d,e,f,g,h,i,j,s,t,C,D,E,F,J,K,L,M,u,v,x,y,z,A,B]) a:=by kernel_rfl
def EG(a b:List GI)(R:G a=17)(S:G b=17)(c:Gr):(Instr.build 164 #[(0,N1 a.toArray),(1,N1 b.toArray)]).run Qe c=.ok (N1 (a++b).toArray) c:=by obtain⟨d,e,m,n,o,p,q,r,s,t,f,g,h,i,j,k,l,rfl⟩:=tB a R;obtain⟨u,v,E,F,J,K,L,M,P,Q,x,y,z,A,B,C,D,rfl⟩:=tB b S;exact Lc d e m n o p q r s t f g h i j k l u v E F J K L M P Q x y z A B C D c
def Hb{c:Program}{w:Gr}{i:Array Oper}{j:List Oper}{b:Oper}{a:MN}{d:Exit->MN->Gr->Prop}(q:b.guard=N)(k f g:Nat)(n o:Operand)(r:b.op=.build k #[(f,n),(g,o)])
  (l m v:GI) (t:a.eval n=l) (u:a.eval o=m) (s:∀e,(Instr.build k #[(f,l),(g,m)]).run c e=.ok v e) (h:wpList c i d j (a.put b.dst v) w):wpList c i d (b::j) a w:=by
 refine wpList_plain q λx p=>?_;unfold Oper.wp;simp[execOp,r,t,u,s,Result.andThen];exact p _ _ h
def tJ{wr:Gr}{b:Nat}(h:wr.heap[b]?=O i_):wr.there b 0 34:=by intro d c;have a:wr.heap[b]?=O (Pp ((gL (Qf 16 0)++[Z N 0 0])++(gL (Qf 16 0)++[Z N 0 0])).toArray 164 (0,0)):=h;refine⟨?_,nG a⟩;rw[iI a,bR,af (by simp[gL];omega)];rfl
def LM(a b:List Nat)(s:G a=288)(t:G b=32)(n1:∀k,k<288->nth a k=if k<=143 then 8 else if k<=255 then 9 else if k<=279 then 7 else 8)(n2:∀k,k<32->nth b k=5):K8 Qe 159 #[] w λK Q=>∃g i,K=Ps (N1 ((gL (cz a)++[Z (O ⟨g,0,N⟩) (cz a).sum (cz a).sum])++(gL (cz b)++[Z (O ⟨i,0,N⟩) (cz b).sum (cz b).sum])).toArray)/\iJ Q g (fT a 288).2/\iJ Q i (fT b 32).2/\LT w.heap.size w Q/\w.heap.size<=g/\w.heap.size<=i:=by
 obtain⟨i0,f,a0,a1,a2⟩:=bu infoInt;have R:=H n1;have S:=H n2
 go_in
 go_wp2_with (at_make;refine wpList_make_full _ rfl _ _ 52 rfl (w.heap.size+1) 3 i0 (I U 0) 1 cG f a0 a1 U U _ _ 288 rfl rfl Y Y (by rw[a2];omega) oi eA ?_;intro D P hg1;have q:=rm P);have bc:Lw w D (w.heap.size+1) (jL a 0):=by rw[Jx,s];refine⟨((aq _ _).alloc (ag _) _).grown hg1 eA (λk h=>by cases h),?_,by simpa using q⟩;rw[hg1.block _ eA eA];exact bn w i_
 go_loopw [8] (λe wr=>∃k:Nat,k<=288/\e=I U k/\Lw w wr (w.heap.size+1) (jL a k)) (λe _=>288-(intOf e).toNat)
 case atStart=>exact⟨0,Y,rfl,bc⟩
 case round=>
  obtain⟨k,hk,rfl,d⟩:=hrel;by_cases r:k<288
  ·have J:=d.cell k (by rw[yK,s];exact r);have f1:wr.frozen? ⟨w.heap.size+1,k,N⟩=P2:=nG d.row;have M:=R.o k r;have C:=H M;have a5:=H (JB a k (by rw[s];exact r));have z:=H d;have a6:∀E:Nat,nth a k=E->Lw w (wr.setCell ⟨w.heap.size+1,k,N⟩ (I U E)) (w.heap.size+1) (jL a (k+1)):=by intro E hx;rw[a5.o,hx];exact z.set Y k E
   have u:=H a6;generalize hQ:nth (jL a k) k=Qq at J;have bf:(k:Int)<288:=Y;rcases(show k<=143\/(143<k/\k<=255)\/(255<k/\k<=279)\/279<k by omega)with h1|h1|h1|h1
   ·have h2:(k:Int)<=143:=Y;go_wp2;go_roundw
    case rel=>exact⟨k+1,Y,by go_num,u 8 (by rw[C.o,ai h1])⟩
    case measure=>simp[intOf];omega
   ·have h2:¬(k:Int)<=143:=Y;have h3:(k:Int)<=255:=Y;go_wp2;go_roundw
    case rel=>exact⟨k+1,Y,by go_num,u 9 (by rw[C.o,ah Y,ai h1.2])⟩
    case measure=>simp[intOf];omega
   ·have h2:¬(k:Int)<=143:=Y;have h3:¬(k:Int)<=255:=Y;have h4:(k:Int)<=279:=Y;go_wp2;go_roundw
    case rel=>exact⟨k+1,Y,by go_num,u 7 (by rw[C.o,ah Y,ah Y,ai h1.2])⟩
    case measure=>simp[intOf];omega
   ·have h2:¬(k:Int)<=143:=Y;have h3:¬(k:Int)<=255:=Y;have h4:¬(k:Int)<=279:=Y;go_wp2;go_roundw
    case rel=>exact⟨k+1,Y,by go_num,u 8 (by rw[C.o,ah Y,ah Y,ah Y])⟩
    case measure=>simp[intOf];omega
  ·obtain rfl:k=288:=Y;have L:jL a 288=a:=by have:=Jw a;rw[s]at this;exact this
   rw[L]at d;obtain⟨m,bw⟩:∃m:Gr,m=wr:=⟨_,rfl⟩;subst bw;have b7:=ae d.row;go_wp2_with (at_make;refine wpList_make_full _ rfl _ _ 52 rfl (w.heap.size+1) 3 i0 (I U 0) 1 cG f a0 a1 U U _ _ 32 rfl rfl Y Y (by rw[a2];omega) oi Y ?_;intro D P hg1;have q:=rm P);have bd:Lw w D m.heap.size (jL b 0)/\D.heap[w.heap.size+1]?=O (Pp (gL a).toArray 3 (0,0)):=by
    rw[Jx,t];refine⟨⟨d.below.grown hg1 Y (λk h=>by cases h),?_,q⟩,?_⟩;·rw[hg1.block _ Y eA];exact d.res
    ·rw[hg1.block _ Y eA];exact d.row
   go_loopw [36] (λe wr=>∃k:Nat,k<=32/\e=I U k/\L1 (Lw w wr m.heap.size (jL b k)/\wr.heap[w.heap.size+1]?=O (Pp (gL a).toArray 3 (0,0)))) (λe _=>32-(intOf e).toNat)
   case atStart=>exact⟨0,Y,rfl,bd⟩
   case round=>
    obtain⟨k,hk,rfl,HH⟩:=hrel;obtain⟨d,q⟩:=HH.o;by_cases r:k<32
    ·have J:=d.cell k (by rw[yK,t];exact r);have f1:wr.frozen? ⟨m.heap.size,k,N⟩=P2:=nG d.row;have ad:=JB b k (by rw[t];exact r);have M:=S.o k r;rw[M]at ad;have u:L1 (Lw w (wr.setCell ⟨m.heap.size,k,N⟩ (I U (5:Nat))) m.heap.size (jL b (k+1))/\(wr.setCell ⟨m.heap.size,k,N⟩ (I U (5:Nat))).heap[w.heap.size+1]?=O (Pp (gL a).toArray 3 (0,0))):=by refine⟨by rw[ad];exact d.set Y k 5,?_⟩;rw[kW _ Y];exact q
     generalize hQ:nth (jL b k) k=Qq at J;have bf:(k:Int)<32:=Y;go_wp2;go_roundw
     case rel=>exact⟨k+1,Y,by go_num,u⟩
     case measure=>simp[intOf];omega
    ·obtain rfl:k=32:=Y;have L:jL b 32=b:=by have:=Jw b;rw[t]at this;exact this
     rw[L]at d;have bs:=ae q;have bt:=ae d.row;have W:=Cc (w:=wr) (w.heap.size+1) 0 288 a (λe f=>by rw[s]at f;rw[R.o e f];split<;>(try split)<;>(try split)<;>omega) (by rw[s];omega) bs (λe f=>by rw[bH,iI q,bR];exact ig _ _ f);rw[s]at W;have a3:=H W;have z:=H (And.intro d q);go_wp2_with fail;apply a3.o.m;rintro K w2 ⟨g,rfl,bx,n,hg1⟩;have X:=Cc (w:=w2) m.heap.size 0 32 b (λe f=>by rw[t]at f;rw[S.o e f];omega) (by rw[t];omega) (by have:=n.size;omega) (λe f=>by rw[bH,n.cell (p:=⟨m.heap.size,e,N⟩) bt,iI z.o.1.row,bR];exact ig _ _ f)
     rw[t]at X;have a4:=H X;go_wp2_with fail;apply a4.o.m;rintro K y ⟨i,rfl,bz,F,b0⟩;have T:(gL (cz a)++[Z (O ⟨g,0,N⟩) (cz a).sum (cz a).sum]).length=17:=by simp[gL,qU]
     have V:(gL (cz b)++[Z (O ⟨i,0,N⟩) (cz b).sum (cz b).sum]).length=17:=by simp[gL,qU]
     have ba:=EG _ _ T V;have bi:((gL (cz a)++[Z (O ⟨g,0,N⟩) (cz a).sum (cz a).sum])++(gL (cz b)++[Z (O ⟨i,0,N⟩) (cz b).sum (cz b).sum])).toArray.all (·.oneCell')=PV:=by simp[gL,Value.oneCell']
     have ac:y.heap[w.heap.size]?=O i_:=by have b3:=n.size;rw[F.block _ Y,n.block _ Y];exact z.1.res
     have a9:=(z.1.below.t (n.m Y)).t (F.m (by have:=n.size;omega));have br:iJ y g (fT a 288).2:=by obtain⟨c,A,x,B⟩:=bx;exact⟨c,A,by rw[F.block _ (ae x)];exact x,B⟩
     have b5:w.heap.size<=i:=by have:=n.size;omega
     have b4:w.heap.size<g:=Y;have b6:w.heap.size<i:=by have:=n.size;omega
     generalize a7:gL (cz a)++[Z (O ⟨g,0,N⟩) (cz a).sum (cz a).sum]=j at *;generalize a8:gL (cz b)++[Z (O ⟨i,0,N⟩) (cz b).sum (cz b).sum]=l at *;have HX:=H a7;have HY:=H a8;have al:(j++l).length=34:=by rw[ak,T,V]
     have ao:=List.size_toArray.t al;have aa:L1 ((Tryz.prog.info? 164).map (·.size)=O (j++l).toArray.size):=by unfold Hid;rw[ao];kernel_rfl
     have bv:L1 (y.there w.heap.size 0 (j++l).toArray.size):=by unfold Hid;rw[ao];exact tJ ac
     have bb:=H (Ds ac (by rw[al];rfl));have bm:L1 (iJ (y.setCells w.heap.size 0 (j++l)) g (fT a 288).2):=by obtain⟨c,A,x,B⟩:=br;exact⟨c,A,by rw[xg _ Y];exact x,B⟩
     have bo:L1 (iJ (y.setCells w.heap.size 0 (j++l)) i (fT b 32).2):=by obtain⟨c,A,x,B⟩:=bz;exact⟨c,A,by rw[xg _ Y];exact x,B⟩
     have bq:L1 (LT w.heap.size w (y.setCells w.heap.size 0 (j++l))):=x_ _ _ (ag _) _ _ _ _ a9;have HB:=H ba;have tokb:True:=trivial;go_wp2_with (first|(have _t:=tokb;refine Hb (by rfl) 164 0 1 (.tmp 44) (.tmp 46) (by rfl) (N1 j.toArray) (N1 l.toArray) (N1 (j++l).toArray) (by rfl) (by rfl) HB ?_)|(refine eI (by rfl) 164 (.tmp 0) (.tmp 47) (by rfl) w.heap.size 0 (j++l).toArray (by rfl) (by rfl) bv aa bi ?_));refine av (v:=N1 (j++l).toArray) ?_ rfl ⟨g,i,?_,bm,bo,bq,Y,Y⟩;·exact aE results159 _ _ w.heap.size 164 _ _ _ rfl bb underlying164 rfl aa
     ·rw[<-HX.o,<-HY.o]
def fC(a b:Nat):List GI:=gL mX++(Z (O ⟨a,0,N⟩) (G lZ) (G lZ)::(gL oD++[Z (O ⟨b,0,N⟩) (G mR) (G mR)]))
def Ij:mX.sum=G lZ/\oD.sum=G mR:=by decide +kernel
def IK(a b:Nat):(fC a b).length=34:=by unfold fC gL;rw[ak,aw,Ii,aj,ak,aw,Ce];rfl
def IL:K8 Qe 159 #[] w λf d=>∃a c,f=Ps (N1 (fC a c).toArray)/\iJ d a lZ/\iJ d c mR/\LT w.heap.size w d/\w.heap.size<=a/\w.heap.size<=c:=by apply(LM jE jD Eh D_ (λk e=>Mq ⟨k,e⟩) (λk e=>LF ⟨k,e⟩)).m;rintro f d ⟨a,c,rfl,g,h,b,h1,h2⟩;rw[yz.1,yz.2.2.1,Ij.1,Ij.2];rw[yz.2.1]at g;rw[yz.2.2.2]at h;refine⟨a,c,?_,g,h,b,h1,h2⟩;unfold fC;rw[bZ];rfl
end
section
variable{B l j k g f:Nat}{d:List Nat}{e:Nat}{a:List GI}{w:Gr}{p c left b:Nat}{m:GI}{i:List Nat}
def Bi.set3(h:Bi B l j k g f d e a w p c left b m i)(n:Nat):Bi B l j k g f d e a (w.setCell ⟨j,3,N⟩ (I U n)) p c left n m i:=by refine⟨h.rd.setOther _ h.hbf h.ne h.own_ne,h.hbf,?_,h.hh,h.hl⟩;rw[lV _ h.blk];simp
end
section
variable{B:Nat}{w:Gr}
def iU(c:List Nat):Nat×Nat:=c.foldl (λa b=>((a.1+b)%65521,(a.2+(a.1+b)%65521)%65521)) (1,0)
def sE(a:List Nat):List Nat:=[(iU a).2/256,(iU a).2%256,(iU a).1/256,(iU a).1%256]
def Dr(b:List Nat):(iU b).1<65521/\(iU b).2<65521:=by
 unfold iU;suffices h:∀(b:List Nat) (a:Nat×Nat),a.1<65521/\a.2<65521->(b.foldl (λa c=>((a.1+c)%65521,(a.2+(a.1+c)%65521)%65521)) a).1<65521/\(b.foldl (λa c=>((a.1+c)%65521,(a.2+(a.1+c)%65521)%65521)) a).2<65521 from h b _ ⟨cO,cO⟩
 intro b;induction b with
 |nil=>intro a h;exact h
 |cons c b d=>intro a _;exact d _ ⟨Nat.mod_lt _ cO,Nat.mod_lt _ cO⟩
def J7(a:List Nat)(b:Nat):iU (a++[b])=(((iU a).1+b)%65521,((iU a).2+((iU a).1+b)%65521)%65521):=by simp[iU]
def DE(a:List Nat):GI:=N1 #[I .u8 ((iU a).2/256:Nat),I .u8 ((iU a).2%256:Nat),I .u8 ((iU a).1/256:Nat),I .u8 ((iU a).1%256:Nat)]
def Kl(i:Option L2)(q:Nat)(a:List Nat)(C:B<=w.heap.size)(u:rX w B i a)(J:G a<=1000000000)(s:∀c,c<G a->nth a c<256):K8 Qe 149 #[Z i (G a) q] w λr A=>r=Ps (DE a)/\∃y,A=w.alloc y:=by
 go_in
 go_wp2
 go_loop [3,4,9] (λp b c=>∃k:Nat,k<=G a/\c=I U k/\p=I U (iU (a.take k)).1/\b=I U (iU (a.take k)).2) (λ_ _ c=>G a-(intOf c).toNat)
 case atStart=>exact⟨0,aH _,rfl,rfl,rfl⟩
 case round=>
  obtain⟨k,F,rfl,rfl,rfl⟩:=hrel;have x:=Dr (a.take k);by_cases f:k<G a
  ·obtain⟨j,z,rfl,D,t⟩:=u k f;have E:(w.alloc (Pp #[I .u8 0,I .u8 0,I .u8 0,I .u8 0] 153)).cell? ⟨j,z+k,N⟩=O (I .u8 (nth a k:Nat)):=by rw[World.cell?_alloc_lt _ _ _ (by show j<_;omega)];exact t
   have K:=s k f;have l:=H (J7 (a.take k) (nth a k));have m:L1 (a.take (k+1)=a.take k++[nth a k]):=by rw[bJ f];simp[nth,f,L1]
   generalize d:(iU (a.take k)).1=n at *;generalize e:(iU (a.take k)).2=o at *;have g:=H d;have h:=H e;clear d e;go_wp2
   go_round
   case rel=>
    refine⟨k+1,Y,by go_num,?_,?_⟩
    ·rw[m.o,l.o];simp
    ·rw[m.o,l.o];simp
   case measure=>simp[intOf];omega
  ·obtain rfl:k=G a:=Y;rw[fB]at x ⊢;generalize d:(iU a).1=n at *;generalize e:(iU a).2=o at *;have g:=H d;have h:=H e;clear d e;go_wp2;refine av (v:=DE a) (by simp[results,results149,go_sem,DE,g.o,h.o]) rfl ⟨rfl,?_⟩;exact⟨_,rfl⟩
end
def Pc(a:Gr):(sizeOf 5).run Qe a=.ok 1 a:=by kernel_rfl
def J4(c d e f g i j k:Nat)(p:c<256)(h1:d<256)(h2:e<256)(h3:f<256)(q:g<256)(r:i<256)(s:j<256)(t:k<256)(n:Gr):(Op.equalIn 10000 153 (N1 #[I .u8 (c:Int),I .u8 (d:Int),I .u8 (e:Int),I .u8 (f:Int)]) (N1 #[I .u8 (g:Int),I .u8 (i:Int),I .u8 (j:Int),I .u8 (k:Int)])).run Qe n=.ok (decide ([c,d,e,f]=[g,i,j,k])) n:=by
 have h:=run_equalIn_bytes (P:= Qe) n 9998 153 5 4 underlying153 fE Pc [UInt8.ofNat c,UInt8.ofNat d,UInt8.ofNat e,UInt8.ofNat f] [UInt8.ofNat g,UInt8.ofNat i,UInt8.ofNat j,UInt8.ofNat k] rfl rfl;have a:∀b:Nat,b<256->(UInt8.ofNat b).toNat=b:=λb o=>by simp[ed o]
 have m:∀l b:Nat,l<256->b<256->(UInt8.ofNat l=UInt8.ofNat b↔l=b):=λl b v o=>⟨λh=>by rw[<-a l v,<-a b o,h],λh=>by rw[h]⟩;have u:([UInt8.ofNat c,UInt8.ofNat d,UInt8.ofNat e,UInt8.ofNat f]==[UInt8.ofNat g,UInt8.ofNat i,UInt8.ofNat j,UInt8.ofNat k])=decide ([c,d,e,f]=[g,i,j,k]):=by rw[bC,beq_iff_eq,cm];simp only[List.cons.injEq,and_true,m c g p q,m d i h1 r,m e j h2 s,m f k h3 t]
 rw[u]at h;simp only[bF,dY,Extern.Stop.cell,a _ p,a _ h1,a _ h2,a _ h3,a _ q,a _ r,a _ s,a _ t]at h;rw[show(9998+2:Nat)=10000 from rfl]at h;exact h
section
variable{B br bf m l n:Nat}{d:List Nat}{most:Nat}{q:List GI}{w:Gr}{p v left s:Nat}{u:GI}{j:List Nat}
section
variable{a c:Nat}{r g f:List Bool}{e d b:List Nat}
end
def xr.kept{f:Gr}(h:xr w br bf q)(k:gb 5 B [br,bf] w f):xr f br bf q:=by obtain⟨o,g,r,i,t,x,y,a,b,c,e⟩:=h.ex;exact⟨o,g,r,i,t,x.kept k (by simp[a,b]),y.kept k (by simp[c,e]),a,b,c,e⟩
def E7(c e t x y z A C D E f g h i k o r F J T V W X b6 b7 b8 b9 K L M P Q R S:GI)(a:Gr)(b:Nat):(Instr.build 167 #[(0,N1 #[M2 (O ⟨b,0,N⟩),I .u8 0,I U 0]),(2,N1 #[c,e,t,x,y,z,A,C,D,E,f,g,h,i,k,o,r,F,J,T,V,W,X,b6,b7,b8,b9,K,L,M,P,Q,R,S])]).run Qe a=.ok (N1 #[M2 (O ⟨b,0,N⟩),I .u8 0,I U 0,I U 0,c,e,t,x,y,z,A,C,D,E,f,g,h,i,k,o,r,F,J,T,V,W,X,b6,b7,b8,b9,K,L,M,P,Q,R,S]) a:=by kernel_rfl
def wQ(a:List GI)(c:Gr)(b:Nat)(hx:G a=34):(Instr.build 167 #[(0,N1 #[M2 (O ⟨b,0,N⟩),I .u8 0,I U 0]),(2,N1 a.toArray)]).run Qe c=.ok (N1 (M2 (O ⟨b,0,N⟩)::I .u8 0::I U 0::I U 0::a).toArray) c:=by
 have h1:(a.take 17).length=17:=by rw[ay];omega
 have h2:(a.drop 17).length=17:=by rw[au];omega
 rw[<-dd 17 a];generalize a.take 17=e at h1;generalize a.drop 17=f at h2;obtain⟨g,h,z,A,C,D,E,F,J,K,i,k,o,r,t,x,y,rfl⟩:=tB e h1;obtain⟨L,M,X,b3,b4,b5,b6,b7,b8,b9,P,Q,R,S,T,V,W,rfl⟩:=tB f h2;exact E7 g h z A C D E F J K i k o r t x y L M X b3 b4 b5 b6 b7 b8 b9 P Q R S T V W c b
def Rd.datOut(h:Rd B br m l n d most w p u j)(o:∀a,a<G j->nth j a<256):∃b c,u=Z b (G j) c/\rX w w.heap.size b j:=by
 rcases h.own.2 with⟨e1,e2⟩|⟨g,c,k,e1,_,i,r⟩;·exact⟨N,0,by rw[e1,e2],λa e=>Y⟩
 ·refine⟨_,c,e1,λa e=>⟨g,0,rfl,ae i,?_⟩⟩;have f:=h.own;rw[e1]at f;have:=f.cellAt a Y;rw[bH,this];simp[nth,e]
def Rd.datOut'{a:Option L2}{i:Nat}(h:Rd B br m l n d most w p (Z a (G j) i) j):rX w w.heap.size a j:=by
 rcases h.own.2 with⟨e1,e2⟩|⟨f,c,k,e1,_,g,o⟩;·intro e b;omega
 ·cases e1;refine λe b=>⟨f,0,rfl,ae g,?_⟩;have:=h.own.cellAt e Y;rw[bH,this];simp[nth,b]
def JK(b e c:Nat)(a:Gr):(Instr.arrayAt 153 (Z (O ⟨b,e,N⟩) 4 c)).run Qe a=.ok (M2 (O ⟨b,e,N⟩)) a:=by kernel_rfl
def Co(c e f g:Nat)(a b:List Nat)(z:G b=4)(i:∀r,r<4->nth b r<256)(o:c=nth b 0)(h1:e=nth b 1)(h2:f=nth b 2)(h3:g=nth b 3)(y:b≠sE a)(k:Gr):(Op.equalIn 10000 153 (N1 #[I .u8 (c:Int),I .u8 (e:Int),I .u8 (f:Int),I .u8 (g:Int)]) (N1 #[I .u8 (((iU a).2:Int)/256),I .u8 (((iU a).2:Int)%256),I .u8 (((iU a).1:Int)/256),I .u8 (((iU a).1:Int)%256)])).run Qe k=.ok P2 k:=by
 have A:=Dr a;have h:=J4 c e f g ((iU a).2/256) ((iU a).2%256) ((iU a).1/256) ((iU a).1%256) (by rw[o];exact i 0 Y) (by rw[h1];exact i 1 Y) (by rw[h2];exact i 2 Y) (by rw[h3];exact i 3 Y) Y Y Y Y k;have t:decide ([c,e,f,g]=[(iU a).2/256,(iU a).2%256,(iU a).1/256,(iU a).1%256])=P2:=by
  rw[bk];intro x;apply y;rw[sE,<-x,o,h1,h2,h3];match b,z with
  | [C,D,E,F],_=>rfl
 rw[t]at h;simpa using h
def Cz{c br bf:Nat}{h g:Gr}(b:LT w.heap.size w h)(k:gb c B [br,bf] h g)(r:w.heap.size<=bf):gb c B [br] w g :=
 ⟨k.os.t b.os,k.tape.t b.tape,k.output.t b.output,aA b.size k.size,λf o e a i=>k.block f o (by have:=ae a;simp at e ⊢;exact⟨e,Y⟩) (by rw[b.block f (ae a)];exact a) i⟩
def BS(bf br m b:Nat)(c e:GI)(d:List Nat)(p:Nat)(f:Array Bool)(a:Gr):Prop:=
 a.cell? ⟨bf,0,N⟩=O c/\a.cell? ⟨br,2,N⟩=O e/\a.cell? ⟨m,b,N⟩=O (I .u8 (nth d p:Nat))/\a.cell? ⟨m,b+1,N⟩=O (I .u8 (nth d (p+1):Nat))/\a.cell? ⟨m,b+2,N⟩=O (I .u8 (nth d (p+2):Nat))/\a.cell? ⟨m,b+3,N⟩=O (I .u8 (nth d (p+3):Nat))
def Aw{b:Array Bool}{a:Nat}(h:Bi B br bf m l n d most q w p v left s u j)(c:a+4<=G d):BS bf br m (l+a) (M2 (O ⟨br,0,N⟩)) u d a b w:=by
 refine⟨h.c0,h.rd.c2,h.rd.dat a Y,?_,?_,?_⟩;·rw[dQ];exact h.rd.dat (a+1) Y
 ·rw[dQ];exact h.rd.dat (a+2) Y
 ·rw[dQ];exact h.rd.dat (a+3) Y
def Rd.ofBelow{f:Gr}(h:Rd B br m l n d most w p u j)(b:LT w.heap.size w f):Rd B br m l n d most f p u j:=by
 have t:=h.sz;have r:=h.hB;refine⟨h.hB,h.hb,?_,?_,?_,h.byt,h.cp,h.lc,h.lm,h.lo,h.lp⟩;·rw[b.block _ (ae h.blk)];exact h.blk
 ·intro e o;rw[b.cell (p:=⟨m,l+e,N⟩) (by show m<_;omega)];exact h.dat e o
 ·obtain⟨h1,h2⟩:=h.own;refine⟨h1,?_⟩;rcases h2 with h2|⟨i,c,g,e1,e2,a,k⟩;·exact P3 h2
  ·exact P4 ⟨i,c,g,e1,e2,by rw[b.block _ (ae a)];exact a,k⟩
def Bi.start{a:Gr}{F:List GI}(h:Rd B br m l n d most a 0 u []):Bi B br a.heap.size m l n d most F (a.alloc (Pp (M2 (O ⟨br,0,N⟩)::I .u8 0::I U 0::I U 0::F).toArray 167 (0,0))) 0 0 0 0 u []:=
 ⟨h.alloc _,by have:=h.sz;omega,bn _ _,Y,Y⟩
def xr.start{c:Gr}{a b:Nat}(g:iJ c a lZ)(h:iJ c b mR)(o:Obj)(i:a≠br)(k:b≠br):xr (c.alloc o) br c.heap.size (fC a b):=by obtain⟨e,r,h1,e1⟩:=g;obtain⟨f,t,h2,e2⟩:=h;exact⟨a,_,b,_,rfl,⟨e,r,mA _ h1,e1⟩,⟨f,t,mA _ h2,e2⟩,i,by have:=ae h1;omega,k,by have:=ae h2;omega⟩
end
section
variable{w:Gr}
def nF:List Nat->Nat->Nat
 | [],a=>a
 |b::c,a=>nF c (a*85+(b-33))
def aO(a:Nat):List Nat:=[a/16777216,a/65536%256,a/256%256,a%256]
def P5(a c b:Int)(w:Gr)(h1:c<=a)(h2:a<=b):K8 Qe 277 #[I .u64 a,I .u64 c,I .u64 b] w λd e=>d=Ps (OV PV)/\e=w:=by
 go_in
 go_wp2;go_ret;exact⟨rfl,rfl⟩
def JS(b c d e f:Nat)(a:Gr):(Instr.index 184 (N1 #[I .u8 (b:Nat),I .u8 (c:Nat),I .u8 (d:Nat),I .u8 (e:Nat),I .u8 (f:Nat)]) (I U 0)).run Qe a=.ok (I .u8 (b:Nat)) a:=by kernel_rfl
def JT(c b d e f:Nat)(a:Gr):(Instr.index 184 (N1 #[I .u8 (c:Nat),I .u8 (b:Nat),I .u8 (d:Nat),I .u8 (e:Nat),I .u8 (f:Nat)]) (I U 1)).run Qe a=.ok (I .u8 (b:Nat)) a:=by kernel_rfl
def JU(c d b e f:Nat)(a:Gr):(Instr.index 184 (N1 #[I .u8 (c:Nat),I .u8 (d:Nat),I .u8 (b:Nat),I .u8 (e:Nat),I .u8 (f:Nat)]) (I U 2)).run Qe a=.ok (I .u8 (b:Nat)) a:=by kernel_rfl
def JV(c d e b f:Nat)(a:Gr):(Instr.index 184 (N1 #[I .u8 (c:Nat),I .u8 (d:Nat),I .u8 (e:Nat),I .u8 (b:Nat),I .u8 (f:Nat)]) (I U 3)).run Qe a=.ok (I .u8 (b:Nat)) a:=by kernel_rfl
def JW(c d e f b:Nat)(a:Gr):(Instr.index 184 (N1 #[I .u8 (c:Nat),I .u8 (d:Nat),I .u8 (e:Nat),I .u8 (f:Nat),I .u8 (b:Nat)]) (I U 4)).run Qe a=.ok (I .u8 (b:Nat)) a:=by kernel_rfl
def pv(a b c d e:Nat):Nat->Nat
 |0=>0
 |1=>a
 |2=>b
 |3=>c
 |4=>d
 |_=>e
def EY(b c d e f:Nat)(V:33<=b/\b<=117)(h1:33<=c/\c<=117)(h2:33<=d/\d<=117)(h3:33<=e/\e<=117)(W:33<=f/\f<=117)(a:Nat)(z:nF [b,c,d,e,f] 0=a)(hm:a<=4294967295)(w:Gr):K8 Qe 217 #[N1 #[I .u8 b,I .u8 c,I .u8 d,I .u8 e,I .u8 f]] w λs x=>s=Ps (N1 ((aO a).map λm:Nat=>I .u8 (m:Int)).toArray)/\LT w.heap.size w x:=by
 obtain⟨g,e1⟩:∃g,g=b-33:=⟨_,rfl⟩;obtain⟨h,e2⟩:∃h,h=g*85+(c-33):=⟨_,rfl⟩;obtain⟨i,t⟩:∃i,i=h*85+(d-33):=⟨_,rfl⟩;obtain⟨j,e4⟩:∃j,j=i*85+(e-33):=⟨_,rfl⟩;have y:a=j*85+(f-33):=by rw[e4,t,e2,e1,<-z];show((((0*85+(b-33))*85+(c-33))*85+(d-33))*85+(e-33))*85+(f-33)=_;rw[Nat.zero_mul,bH]
 have K:g<=84:=Y;have L:h<=7224:=Y;have M:i<=614124:=Y;have P:j<=52200624:=Y;have l:=H (And.intro e1 (And.intro e2 (And.intro t (And.intro e4 y))));clear z e1 e2 t e4 y
 go_in
 go_wp2;generalize A:World.alloc (World.alloc w _) _=r;have C:LT w.heap.size w r:=by rw[<-A];exact(((aq _ _).alloc (ag _) _).alloc eA _)
 have E:r.heap[w.heap.size+1]?=O (Pp #[I .u8 0,I .u8 0,I .u8 0,I .u8 0] 153 (0,0)):=by rw[<-A];have:=bn (w.alloc (Pp #[I .u8 b,I .u8 c,I .u8 d,I .u8 e,I .u8 f] 184)) (Pp #[I .u8 0,I .u8 0,I .u8 0,I .u8 0] 153 (0,0));simpa using this
 have B:=H C;have q:=H E;go_loopw [3,7] (λJ u wr=>∃k:Nat,k<=5/\u=I U k/\J=I .u64 (pv g h i j a k:Nat)/\wr=r) (λ_ u _=>5-(intOf u).toNat)
 case atStart=>exact⟨0,Y,rfl,rfl,rfl⟩
 case round=>
  obtain⟨k,X,rfl,rfl,rfl⟩:=hrel;obtain rfl|rfl|rfl|rfl|rfl|rfl:k=0\/k=1\/k=2\/k=3\/k=4\/k=5:=Y
  ·have n:=JS b c d e f;simp only[pv];go_wp2;go_roundw
   case rel=>refine⟨1,Y,rfl,?_,trivial⟩;show I .u64 _=I .u64 (g:Nat);congr 1;have:=l.o;omega
   case measure=>simp[intOf]
  ·have n:=JT b c d e f;simp only[pv];go_wp2;go_roundw
   case rel=>refine⟨2,Y,rfl,?_,trivial⟩;show I .u64 _=I .u64 (h:Nat);congr 1;have:=l.o;omega
   case measure=>simp[intOf]
  ·have n:=JU b c d e f;simp only[pv];go_wp2;go_roundw
   case rel=>refine⟨3,Y,rfl,?_,trivial⟩;show I .u64 _=I .u64 (i:Nat);congr 1;have:=l.o;omega
   case measure=>simp[intOf]
  ·have n:=JV b c d e f;simp only[pv];go_wp2;go_roundw
   case rel=>refine⟨4,Y,rfl,?_,trivial⟩;show I .u64 _=I .u64 (j:Nat);congr 1;have:=l.o;omega
   case measure=>simp[intOf]
  ·have n:=JW b c d e f;simp only[pv];go_wp2;go_roundw
   case rel=>refine⟨5,Y,rfl,?_,trivial⟩;show I .u64 _=I .u64 (a:Nat);congr 1;have:=l.o;omega
   case measure=>simp[intOf]
  ·simp only[pv];obtain⟨n0,n1,n2,n3⟩:=Le q;obtain⟨Q,R,S,T⟩:=LU 0 1 2 3 q;have F:L1 (((((wr.setCell ⟨w.heap.size+1,0,N⟩ (I .u8 (a/16777216:Nat))).setCell ⟨w.heap.size+1,1,N⟩ (I .u8 (a/65536%256:Nat))).setCell ⟨w.heap.size+1,2,N⟩ (I .u8 (a/256%256:Nat))).setCell ⟨w.heap.size+1,3,N⟩ (I .u8 (a%256:Nat))).heap[w.heap.size+1]?=O (Pp ((aO a).map λm:Nat=>I .u8 (m:Int)).toArray 153 (0,0))):=by unfold Hid;exact lV _ (lV _ (lV _ (lV _ q)))
   have D:L1 (LT w.heap.size w ((((wr.setCell ⟨w.heap.size+1,0,N⟩ (I .u8 (a/16777216:Nat))).setCell ⟨w.heap.size+1,1,N⟩ (I .u8 (a/65536%256:Nat))).setCell ⟨w.heap.size+1,2,N⟩ (I .u8 (a/256%256:Nat))).setCell ⟨w.heap.size+1,3,N⟩ (I .u8 (a%256:Nat)))):=
    H ((((B.setCell (p:=⟨w.heap.size+1,0,N⟩) eA _).setCell (p:=⟨w.heap.size+1,1,N⟩) eA _).setCell (p:=⟨w.heap.size+1,2,N⟩) eA _).setCell (p:=⟨w.heap.size+1,3,N⟩) eA _)
   go_wp2_with (first|(go_at_call 277;apply(P5 _ _ _ _ Y Y).m;rintro s x ⟨rfl,rfl⟩)|(go_at_call 163;apply(nT _).m;rintro s x ⟨rfl,rfl⟩));refine av (v:=N1 ((aO a).map λm:Nat=>I .u8 (m:Int)).toArray) ?_ rfl ⟨rfl,D⟩;exact aE results217 _ _ (w.heap.size+1) 153 _ _ _ rfl F underlying153 rfl aG
end
section
variable{B br s r m:Nat}{d:List Nat}{c:Nat}{w:Gr}{p:Nat}{y:GI}{g:List Nat}
def bV(a:List Nat):List GI:=a.map λb:Nat=>I .u8 (b:Int)
def qJ(a:List Nat):Nat->Nat->List Nat
 |0,_=>a
 |b+1,k=>qJ (a.set k 117) b (k+1)
def fe(b e f h i a:Nat)(j:2<=a)(k:a<=4):qJ [b,e,f,h,i] (5-a) a=[b,e,if a<=2 then 117 else f,if a<=3 then 117 else h,117]:=by
 obtain rfl|rfl|rfl:a=2\/a=3\/a=4:=Y;·rfl
 ·rfl
 ·rfl
def DX(a:List Nat)(k b:Nat):((bV a).toArray.setIfInBounds k (I .u8 (b:Int)))=(bV (a.set k b)).toArray:=by unfold bV;rw[List.map_set];simp
def Ol(b:Nat)(a:Gr):(Instr.sliceAt 153 (M2 (O ⟨b,0,N⟩)) N (O (I U 1)) N).run Qe a=.ok (Z (O ⟨b,0,N⟩) 1 4) a:=by kernel_rfl
def Om(b:Nat)(a:Gr):(Instr.sliceAt 153 (M2 (O ⟨b,0,N⟩)) N (O (I U 2)) N).run Qe a=.ok (Z (O ⟨b,0,N⟩) 2 4) a:=by kernel_rfl
def Oo(b:Nat)(a:Gr):(Instr.sliceAt 153 (M2 (O ⟨b,0,N⟩)) N (O (I U 3)) N).run Qe a=.ok (Z (O ⟨b,0,N⟩) 3 4) a:=by kernel_rfl
def J5(b a:Nat)(f:2<=a)(h:a<=4)(e:Gr):(Instr.sliceAt 153 (M2 (O ⟨b,0,N⟩)) N (O (I U ((a:Int)-1))) N).run Qe e=.ok (Z (O ⟨b,0,N⟩) (a-1) 4) e:=by
 obtain rfl|rfl|rfl:a=2\/a=3\/a=4:=Y;·exact Ol b e
 ·exact Om b e
 ·exact Oo b e
def FSx(h:Rd B br s r m d c w p y g)(e f i j q a:Nat)(W:2<=a)(X:a<=4)(Q:33<=e/\e<=117)(h1:33<=f/\f<=117)(h2:33<=(if a<=2 then 117 else i)/\(if a<=2 then 117 else i)<=117)(h3:33<=(if a<=3 then 117 else j)/\(if a<=3 then 117 else j)<=117)
  (b:Nat) (S:nF [e,f,if a<=2 then 117 else i,if a<=3 then 117 else j,117] 0=b) (hm:b<=4294967295) (A:G g+(a-1)<=c):K8 Qe 215 #[M2 (O ⟨br,0,N⟩),N1 (bV [e,f,i,j,q]).toArray,I U a] w λo x=>o=Ps (OW #[])/\∃J,Rd B br s r m d c x p J (g++(aO b).take (a-1))/\gb 5 B [br] w x:=by
 have K:=H (fe e f i j q a W X);have HB:L1 (∀u:Gr,K8 Qe 217 #[N1 (bV [e,f,if a<=2 then 117 else i,if a<=3 then 117 else j,117]).toArray] u λo x=>o=Ps (N1 #[I .u8 (b/16777216:Nat),I .u8 (b/65536%256:Nat),I .u8 (b/256%256:Nat),I .u8 (b%256:Nat)])/\LT u.heap.size u x):=λu=>EY e f _ _ 117 Q h1 h2 h3 Y b S hm u;clear Q h1 h2 h3 S;generalize R:[e,f,if a<=2 then 117 else i,if a<=3 then 117 else j,117]=D at *;have a2:G D=5:=by rw[<-R];rfl
 have HR:=H R;have T:(w.alloc (Pp (bV [e,f,i,j,q]).toArray 184)).heap[w.heap.size]?=O (Pp (bV [e,f,i,j,q]).toArray 184 (0,0)):=bn _ _;have h5:[e,f,i,j,q].length=5:=rfl;generalize [e,f,i,j,q]=al at *;have a5:((a:Int)==0)=P2:=eB;have a4:(1:Int)<a:=Y
 go_in
 go_wp2_with (go_at_call 163;apply(nT _).m;rintro o x ⟨rfl,rfl⟩);go_loopw [6] (λn wr=>∃(k:Nat) (l:List Nat),a<=k/\k<=5/\n=I U k/\G l=5/\L1 (qJ l (5-k) k=D)/\wr.heap[w.heap.size]?=O (Pp (bV l).toArray 184 (0,0))/\LT w.heap.size w wr) (λn _=>5-(intOf n).toNat)
 case atStart=>exact⟨a,al,ag _,Y,rfl,h5,K,T,(aq _ _).alloc (ag _) _⟩
 clear T K
 case round=>
  obtain⟨k,l,k1,k2,rfl,E,C,v,bl⟩:=hrel;by_cases hk:k<5
  ·obtain⟨ac,hx⟩:∃ac,wr.cell? ⟨w.heap.size,k,N⟩=O ac:=by rw[iI v];exact⟨_,cR (by simp[bV,E];omega)⟩
   have fx:wr.frozen? ⟨w.heap.size,k,N⟩=P2:=nG v;have a3:(k:Int)<5:=Y;have ao:L1 ((wr.setCell ⟨w.heap.size,k,N⟩ (I .u8 117)).heap[w.heap.size]?=O (Pp (bV (l.set k 117)).toArray 184 (0,0))):=by unfold Hid;rw[lV _ v];exact dV (λad=>O (Obj.cells ad 184 (0,0))) (DX l k 117)
   have z:=H bl;go_wp2;go_roundw
   case rel=>refine⟨k+1,l.set k 117,Y,Y,by go_num,by rw[dI];exact E,?_,ao,z.setCell (ag _) _⟩;have:=C.o;rw[show 5-k=(5-(k+1))+1 by omega,qJ]at this;exact this
   case measure=>simp[intOf];omega
  ·obtain rfl:k=5:=Y;obtain rfl:l=D:=C.o;have a0:L1 (wr.rangeAt w.heap.size 0 (bV l)):=by intro a7 a9 hj;rw[iI v,bH];simpa using hj
   have a1:L1 ((Tryz.prog.info? 184).map (·.size)=O (bV l).length):=by unfold Hid bV;rw[aw,E];kernel_rfl
   have z:=H bl;have aa:=bl.size;clear v bl C;go_wp2_with (refine df rfl 184 (.tmp 4) rfl w.heap.size 0 rfl _ _ a0 dm rfl a1 ?_);apply(HB _).m;rintro o w1 ⟨rfl,P⟩;have M:=H ((h.ofBelow (z.t (P.m aa))));have t:=H (z.t (P.m aa));have a6:=J5 w1.heap.size a W X;have F:((aO b).take (a-1)).length=a-1:=by rw[ay];show min (a-1) 4=_;omega
   have L:=H (po (M.alloc (Pp #[I .u8 (b/16777216:Nat),I .u8 (b/65536%256:Nat),I .u8 (b/256%256:Nat),I .u8 (b%256:Nat)] 153)) ((aO b).take (a-1)) ⟨w1.heap.size,0,N⟩ 4 (by rw[F];exact A) (by have:=M.o.sz;simp;omega) (by
    intro n V;rw[F]at V;rw[pR,iI (bn _ _)];have o:nth ((aO b).take (a-1)) n=nth (aO b) n:=by simp[nth,V]
    rw[o];have h4:n<4:=Y;match n,h4 with
    |0,_=>rfl
    |1,_=>rfl
    |2,_=>rfl
    |3,_=>rfl))
   rw[F]at L;go_wp2_with fail;apply L.o.m;rintro o w2 ⟨rfl,J,r2,k2⟩;go_wp2
   go_end0
   exact⟨rfl,J,r2,((gb.refl _ _ _ _).t ⟨t.o.os,t.tape,t.o.output,t.size,λn a8 _ A _=>by rw[t.o.block n (ae A)];exact A⟩ |>.alloc _).t k2⟩
def gb.ofBelow'{e B:Nat}{h:List Nat}{a b:Gr}(k:LT a.heap.size a b):gb e B h a b:=
 ⟨k.os,k.tape,k.output,k.size,λi j _ f _=>by rw[k.block i (ae f)];exact f⟩
def gb.setNew{e B:Nat}{b:List Nat}{a w:Gr}(h:gb e B b a w){q:L2}(o:a.heap.size<=q.block)(n:GI):gb e B b a (w.setCell q n):=
 ⟨h.os,h.tape,h.output,by have:=h.size;simpa[World.setCell]using this,λk l j f i=>by have:=ae f;rw[dy _ _ _ _ Y];exact h.block k l j f i⟩
def Rd.other{b a i:Nat}{e:Array GI}{j:Nat×Nat}(h:Rd B br s r m d c w p y g)(k:w.heap[b]?=O (Pp e a j))(n:a ≠ 5)(h1:b≠br)(h2:b≠s)(v:GI):Rd B br s r m d c (w.setCell ⟨b,i,N⟩ v) p y g:=
 ⟨h.hB,h.hb,by rw[kW _ (λf=>h1 f.s)];exact h.blk,λo l=>by rw[Cf _ h2];exact h.dat o l,aR h.own (own_ne h.own k n) _,h.byt,h.cp,h.lc,h.lm,h.lo,h.lp⟩
def Bs{a:Gr}{b f:Nat}{e:List Nat}{i:Nat×Nat}(h:a.heap[b]?=O (Pp (bV e).toArray f i)):L1 (a.rangeAt b 0 (bV e)):=by intro k l j;rw[iI h,bH];simpa using j
def Ax(b e f h a:Nat):Nat:=nF [b,e,if a<=2 then 117 else f,if a<=3 then 117 else h,117] 0
def Nj(h:Rd B br s r m d c w p y g)(b:List Nat)(C:G b=5)(a:Nat)(J:2<=a)(K:a<=4)(f:∀o,o<a->33<=nth b o/\nth b o<=117)(e:Nat)(k:Ax (nth b 0) (nth b 1) (nth b 2) (nth b 3) a=e)(l:e<=4294967295)(n:G g+(a-1)<=c):K8 Qe 215 #[M2 (O ⟨br,0,N⟩),N1 (bV (jL b a)).toArray,I U a] w λz x=>z=Ps (OW #[])/\∃E,Rd B br s r m d c x p E (g++(aO e).take (a-1))/\gb 5 B [br] w x:=by
 match b,C with
 | [i,j,v,A,F],_=>
  have q:=f 0 Y;have t:=f 1 Y;obtain rfl|rfl|rfl:a=2\/a=3\/a=4:=Y;·exact FSx h i j 0 0 0 2 Y Y q t eA eA e k l n
  ·have u:=f 2 Y;exact FSx h i j v 0 0 3 Y Y q t u eA e k l n
  ·have u:=f 2 Y;have D:=f 3 Y;exact FSx h i j v A 0 4 Y Y q t u D e k l n
end
section
variable{B:Nat}{w:Gr}
def zx(a:Nat)(h:a<16)(h2:a<({data:=#[48,49,50,51,52,53,54,55,56,57,97,98,99,100,101,102]}:ByteArray).size):(({data:=#[48,49,50,51,52,53,54,55,56,57,97,98,99,100,101,102]}:ByteArray)[a]'h2).toNat=nu a:=by
 match a,h with
 |0,_=>rfl
 |1,_=>rfl
 |2,_=>rfl
 |3,_=>rfl
 |4,_=>rfl
 |5,_=>rfl
 |6,_=>rfl
 |7,_=>rfl
 |8,_=>rfl
 |9,_=>rfl
 |10,_=>rfl
 |11,_=>rfl
 |12,_=>rfl
 |13,_=>rfl
 |14,_=>rfl
 |15,_=>rfl
 |a+16,h=>omega
end
section
variable{B br f c b a:Nat}{d:List Nat}{most:Nat}{w:Gr}
def Rd.start(g:c<w.heap.size)(j:∀e,e<G d->w.cell? ⟨c,b+e,N⟩=O (I .u8 (nth d e:Nat)))(h:∀e,e<G d->nth d e<256)(i:G d<=a)(l:a<=9223372036854775807)(m:most<=1000000):Rd w.heap.size w.heap.size c b a d most (w.alloc (Pp #[Z (O ⟨c,b,N⟩) (G d) a,I U 0,Z N 0 0,I U most] 141 (0,0))) 0 (Z N 0 0) []:=
 ⟨g,ag _,bn _ _,λe k=>by rw[World.cell?_alloc_lt _ _ _ g];exact j e k,aX _ _ _ _,h,i,l,m,aH _,aH _⟩
def Fy{h:Nat}{w g:Gr}{e:Obj}(k:gb h w.heap.size [w.heap.size] (w.alloc e) g):LT w.heap.size w g :=
 ((aq _ _).alloc (ag _) e).t (k.below eA eA)
end
section
variable{w:Gr}
def Ni{w:Gr}{a b c d e:Nat}{f:GI}{g:List GI}(h:w.ownsRow a c e f d g)(m:b<=a):w.ownsRow b c e f d g:=by
 obtain⟨h1,h2⟩:=h;refine⟨h1,?_⟩;rcases h2 with h2|⟨k,i,j,l,n,r⟩;·exact P3 h2
 ·exact P4 ⟨k,i,j,l,Y,r⟩
end
section
variable{B g l j i:Nat}{d:List Nat}{f:Nat}{w:Gr}{p:Nat}{m:GI}{k:List Nat}
def Gt(h:Rd B g l j i d f w p m k)(a:Nat)(t:a<=1000000)(u:f<G k+a):K8 Qe 276 #[M2 (O ⟨g,0,N⟩),I U a] w λc o=>c=gU 6/\∃n,o=w.drewN n:=by
 unfold gU;have b:=h.c2;have s:=h.c3;have r:=h.lo;obtain⟨q,v,e⟩:=jp h.own;rw[e]at b
 go_in
 go_wp2_with fail;go_quiet ((go_at_call 63;exact bj (qP _ _ _ _ (P4 Y))));go_wp2;exact⟨rfl,rfl,_,rfl⟩
def yN(h:Rd B g l j i d f w p m k)(a:Nat)(q:Option L2)(c:Nat)(r:a<=1000000)(s:f<G k+a):K8 Qe 213 #[M2 (O ⟨g,0,N⟩),Z q a c] w λe t=>e=gU 6/\∃b,t=w.drewN b:=by
 have n:=H (Gt h a r s)
 go_in
 go_wp2_with fail;apply n.o.m;rintro e u ⟨rfl,b,rfl⟩;exact⟨rfl,rfl,b,rfl⟩
def mn(b:Bool)(c:b=P2)(w:Gr):K8 Qe 163 #[OV b] w λa e=>a=.panicked [{ v:=.iface 58 (I U 5),recovered:=P2 }]/\e=w:=by subst c;exact Ji w
def A7(g:Nat)(b:GI)(p:Nat)(c:Array Bool)(a:Gr):Prop:=a.cell? ⟨g,0,N⟩=O b/\a.cell? ⟨g,1,N⟩=O (I U p)
def EP(h:Rd B g l j i d f w p m k)(c:Nat)(y:c<=1000000)(z:G d<p+c):K8 Qe 164 #[M2 (O ⟨g,0,N⟩),I U c] w λe t=>e=gU 5/\∃r,t=w.drewN r:=by
 unfold gU;have n:=h.c0;have q:=h.c1;have v:=h.lp;have s:L1 (decide ((c:Int)<=IntKind.i64.wrap ((G d:Int)-(p:Int)))=P2):=by unfold Hid;rw[aU];simp;omega
 go_in
 go_wp2_with fail;refine om (A7 g (Z (O ⟨l,j,N⟩) (G d) i) p) aG ?_;intro a;have b:A7 g (Z (O ⟨l,j,N⟩) (G d) i) p (Array.replicate 13 P2) w.drew:=⟨n,q⟩;refine tm 0 a b λa b=>?_;refine tm 1 a b λa b=>?_;refine tm 2 a b λa b=>?_;refine tm 3 a b λa b=>?_;refine tm 4 a b λa b=>?_;refine tm 5 a b λa b=>?_;refine tm 6 a b λa b=>?_;refine tm 7 a b λa b=>?_;refine tm 8 a b λa b=>?_;refine tm 9 a b λa b=>?_;refine tm 10 a b λa b=>?_;refine tm 11 a b λa b=>?_;refine on 12 a λu x=>?_;go_simp;apply(mn _ s _).m;rintro e A ⟨rfl,rfl⟩;exact⟨rfl,rfl,1,rfl⟩
def yr(c B g l j i:Nat)(d:List Nat)(f p:Nat)(k:List Nat)(b:Bool)(o:Nat)(h:List Nat):Prop:=
 ∀(w:Gr) (m:GI),Rd B g l j i d f w p m k->K8 Qe c #[M2 (O ⟨g,0,N⟩)] w λe a=>e=Ps (OV b)/\∃n,Rd B g l j i d f a o n h/\gb 5 B [g] w a
def vO(a B g l j i:Nat)(d:List Nat)(f p:Nat)(k:List Nat)(c:Int):Prop:=
 ∀(w:Gr) (m:GI),Rd B g l j i d f w p m k->K8 Qe a #[M2 (O ⟨g,0,N⟩)] w λb e=>b=gU c/\gb 5 B [g] w e
def zI(h:Rd B g l j i d f w (G d) m k):K8 Qe 214 #[M2 (O ⟨g,0,N⟩)] w λa e=>a=gU 5/\gb 5 B [g] w e:=by
 have b:=H (EP h 1 Y Y)
 go_in
 go_wp2_with fail;apply b.o.m;rintro a n ⟨rfl,c,rfl⟩;exact⟨rfl,rfl,(gb.refl _ _ _ _).drewN c⟩
end
