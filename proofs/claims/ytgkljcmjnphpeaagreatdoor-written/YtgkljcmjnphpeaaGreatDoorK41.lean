import Derived.Test.YtgkljcmjnphpeaaGreatDoorK40
set_option linter.unusedVariables false
set_option linter.unusedSimpArgs false
set_option maxHeartbeats 2000000
set_option maxRecDepth 100000
namespace Go.Proofs.YtgkljcmjnphpeaaGreatDoor
open Go.RowKit
section
variable{B g u v l m:Nat}{d:List Nat}{f:Nat}{j:List Value}{w:World}{p C left a:Nat}{A:Value}{n:List Nat}
theorem G1(b:Bi B g u v l m d f j w p C left a A n)(len c:Nat)(z:1<=c)(D:c<=n.length)(h3:c<=a)(o:len<=1000000)(k:f<n.length+len)(E:a<=32768) :
  Calls Tryz.prog 315 #[.pointer (some ⟨u,0,none⟩),.int .i64 len,.int .i64 c] w λh i=>h=gU 6/\gD 5 B [g,u] w i:=by
 have x:=b.c0;have y:=b.c3;have r:=b.rd.c2;have F:=b.rd.lm;have G:=b.rd.lo;obtain⟨t,H,e⟩:=i_ b.rd.own;have s:=gv e;rw[e]at r;clear e;rcases bZ a n.length with q | q;all_goals
  go_enter Tryz.func315,Tryz.ntmps315;go_wp2_with fail;go_quiet ((first | (go_at_call 63;exact cZ (pG _ _ _ _ (by omega) (by omega))) | (go_at_call 163;exact cZ (qL _))));go_wp2_with fail;refine(rn (b.rd.drewN _) len o k).mono ?_;rintro h i ⟨rfl,I,rfl⟩;exact⟨rfl,rfl,((gD.refl _ _ _ _).drewN _).drewN _⟩
theorem Dy(c h:Nat)(b:j8)(t:CO b)(E:mK B g u v l m d f j a c h b w){y L:List Bool}(D:Fl B g u v l m d f j w y a A n)
  (i:Nat) (x:kj b.cs b.ss y=some (i,L)) (N:i<256) (H:f<n.length+1) :
  Calls Tryz.prog 278 #[.pointer (some ⟨u,0,none⟩),.pointer (some ⟨c,h,none⟩)] w λe q=>e=gU 6/\gD 5 B [g,u] w q:=by
 have z:=gv x;clear x;go_enter gg,gd;go_wp2_with fail;go_region_with (go_at_call 313;refine(zr c h b.cs b.ss t.s1 t.l1 (λq r F k=>(E q r _ _ F (((gD.refl _ _ _ _).drew).trans k)).1) z.o D.drew).mono ?_;rintro e Q ⟨rfl,G,J⟩);obtain⟨p,C,left,s,P,I⟩:=G;have M:=s.c0;clear I;have O:(i:Int)<256:=by omega
 go_wp2_with fail;refine(ze (s.rd.alloc _) 1 _ 1 (by omega) H).mono ?_;rintro e R ⟨rfl,K,rfl⟩;exact⟨rfl,rfl,((((gD.refl _ _ _ _).drew).trans J).alloc _).drewN K⟩
theorem JU(s x:Nat)(h:j8)(t:CO h)(N:mK B g u v l m d f j a s x h w){ad H r2 r3 r4:List Bool}(a4:Fl B g u v l m d f j w ad a A n)
  (b y i z:Nat) (R:kj h.cs h.ss ad=some (b,H)) (J:257<=b) (a2:b<=285) (T:kJ (gL b).2 H=some (y,r2)) (S:kj h.cd h.sd r2=some (i,r3)) (a3:i<=29)
  (U:kJ (gE i).2 r3=some (z,r4)) (K:(gE i).1+z<=n.length) (L:(gE i).1+z<=a) (M:f<n.length+((gL b).1+y)) (hw:a<=32768) :
  Calls Tryz.prog 278 #[.pointer (some ⟨u,0,none⟩),.pointer (some ⟨s,x,none⟩)] w λe q=>e=gU 6/\gD 5 B [g,u] w q:=by
 have HS:=gv R;have HT:=gv S;have F:=Dh ⟨b,by omega⟩ J;have G:=CL ⟨i,by omega⟩;simp only[]at F G;obtain⟨x1,x2,x3⟩:=nH T;obtain⟨y1,y2,y3⟩:=nH U;have I:=gv x2;have X3:=gv x3;have Y2:=gv y2;have Y3:=gv y3;have c:=gv (And.intro K (And.intro L (And.intro M (And.intro F (And.intro G (And.intro x1 y1))))));clear R S T U x2 x3 y2 y3 K L M F G x1 y1;have al:(257:Int)<=(b:Int):=by omega
 have ao:(b:Int)<=285:=by omega
 have a0:(i:Int)<=29:=by omega
 have e1:((b:Int)==256)=false:=by simp;omega
 go_enter gg,gd;go_wp2_with fail;go_region_with (go_at_call 313;refine(zr s x h.cs h.ss t.s1 t.l1 (λq r D k=>(N q r _ _ D (((gD.refl _ _ _ _).drew).trans k)).1) HS.o a4.drew).mono ?_;rintro e w1 ⟨rfl,a5,V⟩);have Z:=((gD.refl 5 B [g,u] w).drew).trans V;clear V;go_wp2_with fail;refine(pG _ _ _ _ al ao).mono ?_;rintro e q ⟨rfl,rfl⟩;go_wp2_with fail;refine(qL _).mono ?_;rintro e q ⟨rfl,rfl⟩;go_wp2_with fail;refine(Cf b J a2 _).mono ?_;rintro e w2 ⟨rfl,o2,rfl⟩;go_wp2_with fail;refine(Cx (gL b) (by have:=c.o;omega) (by have:=c.o;omega) c.o.2.2.2.2.2.1 (a5.alloc o2)).mono ?_;rintro e w3 ⟨rfl,O,W⟩;rw[<-X3.o]at O;have E:=(Z.alloc o2).trans W;clear Z W;rw[<-I.o];go_wp2_with fail;go_region_with (go_at_call 313;refine(zr s (x+17) h.cd h.sd t.s2 t.l2 (λq r D k=>(N q r _ _ D ((E.drew).trans k)).2) HT.o O.drew).mono ?_;rintro e w4 ⟨rfl,a6,X⟩);have ac:=(E.drew).trans X;clear E X;go_wp2_with fail;refine(pG _ _ _ _ (by omega) a0).mono ?_;rintro e q ⟨rfl,rfl⟩;go_wp2_with fail;refine(qL _).mono ?_;rintro e q ⟨rfl,rfl⟩;go_wp2_with fail;refine(BP i a3 _).mono ?_;rintro e w5 ⟨rfl,o5,rfl⟩;go_wp2_with fail;refine(Cx (gE i) (by have:=c.o;omega) (by have:=c.o;omega) c.o.2.2.2.2.2.2 (a6.alloc o5)).mono ?_;rintro e w6 ⟨rfl,P,Y⟩;rw[<-Y3.o]at P;have a7:=(ac.alloc o5).trans Y;clear ac Y;rw[<-Y2.o];obtain⟨p,C,left,hb,hl,Q⟩:=P;have HR:=gv Q;clear Q;go_wp2_with fail;have a8:y<1000:=by have e1:=I.o;have e2:=qv (H.take (gL b).2);rw[<-e1,ax,dx c.o.2.2.2.2.2.1]at e2;have:2^(gL b).2<=2^5:=cy (by omega) c.o.2.2.2.1.1;omega
 refine(G1 hb ((gL b).1+y) ((gE i).1+z) (by have:=c.o;omega) c.o.1 c.o.2.1 (by have:=c.o;omega) c.o.2.2.1 hw).mono ?_;rintro e w7 ⟨rfl,k7⟩;exact⟨rfl,rfl,a7.trans k7⟩
theorem J1(o s:Nat)(c:j8)(I:CO c)(H:mK B g u v l m d f j a o s c w){z:List Bool}(G:Fl B g u v l m d f j w z a A n)
  (M:a<=32768) (b:jB c a f z n=.error 6) :
  Calls Tryz.prog 278 #[.pointer (some ⟨u,0,none⟩),.pointer (some ⟨o,s,none⟩)] w λL Q=>L=gU 6/\gD 5 B [g,u] w Q:=by
 unfold jB at b;cases r:kj c.cs c.ss z with
 |none=>rw[r]at b;cases b
 |some h =>
  obtain⟨e,N⟩:=h;rw[r]at b;simp only[]at b;by_cases t:e<256
  ·rw[aA t]at b;by_cases J:n.length+1<=f;·rw[aA J]at b;cases b
   ·exact Dy o s c I H G e r t (by omega)
  rw[au t]at b;by_cases D:e=256;·rw[aA D]at b;cases b
  rw[au D]at b;by_cases E:285<e;·rw[aA E]at b;cases b
  rw[au E]at b;cases x:kJ (gL e).2 N with
  |none=>rw[x]at b;cases b
  |some h =>
   obtain⟨h,O⟩:=h;rw[x]at b;simp only[]at b;cases h3:kj c.cd c.sd O with
   |none=>rw[h3]at b;cases b
   |some k =>
    obtain⟨i,P⟩:=k;rw[h3]at b;simp only[]at b;by_cases F:29<i;·rw[aA F]at b;cases b
    rw[au F]at b;cases y:kJ (gE i).2 P with
    |none=>rw[y]at b;cases b
    |some R =>
     obtain⟨k,S⟩:=R;rw[y]at b;simp only[]at b;by_cases q:(gE i).1+k<=n.length/\(gE i).1+k<=a
     ·rw[aA q]at b;by_cases K:n.length+((gL e).1+h)<=f;·rw[aA K]at b;cases b
      ·exact JU o s c I H G e h i k r (by omega) (by omega) x h3 (by omega) y q.1 q.2 (by omega) M
     ·rw[au q]at b;cases b
theorem Hz(e i:Nat)(b:j8)(z:CO b)(y:mK B g u v l m d f j a e i b w){x:List Bool}(K:Fl B g u v l m d f j w x a A n)
  (F:a<=32768) (N:iy b a f x n (.error 6)) :
  Calls Tryz.prog 223 #[.pointer (some ⟨u,0,none⟩),.pointer (some ⟨e,i,none⟩)] w λk S=>k=gU 6/\gD 5 B [g,u] w S:=by
 go_enter Tryz.func223,Tryz.ntmps223;go_wp2;go_loopw [6] (λ_ wr=>∃(r:List Bool) (t:List Nat) (G:Value),Fl B g u v l m d f j wr r a G t/\Hid (iy b a f r t (.error 6))/\gD 5 B [g,u] w wr) (λ_ wr=>bO g u d.length wr)
 case atStart=>exact⟨x,n,A,K,N,gD.refl _ _ _ _⟩
 case round =>
  obtain⟨r,t,G,o,I,h⟩:=hrel;have L:=gv o.measure;rcases I.o.parted with⟨e1,c,q⟩ | ⟨R,P,c,q⟩ | ⟨R,P,c,E⟩
  ·cases q;go_wp2_with fail;refine(J1 e i b z (y.kept h) o F c).mono ?_;rintro k T ⟨rfl,s⟩;exact⟨rfl,rfl,h.trans s⟩
  ·cases q
  ·have J:=gv E;have O:=oU c;have H:=gv c;clear E c;go_wp2_with fail;refine(DA e i b z (y.kept h) o F H.o).mono ?_;rintro k T ⟨rfl,Q,D,s⟩;have M:=gv D.measure;go_wp2;go_roundw
   case rel=>exact⟨_,_,Q,D,J,h.trans s⟩
   case measure=>rw[L.o,M.o];exact O
theorem Hg(b:Bool)(y:sW w g u j){k:List Bool}(r:Fl B g u v l m d f j w (b::(gw 2 1++k)) a A n)
  (x:a<=32768) (e:iy ij a f k n (.error 6)) :
  Calls Tryz.prog 161 #[.pointer (some ⟨u,0,none⟩)] w λc D=>c=gU 6/\gD 5 B [g,u] w D:=by
 have q:=gv e;clear e;cases b;all_goals
  go_enter Tryz.func161,gn;go_wp2_with fail;refine(zQ r).mono ?_;rintro c E ⟨rfl,s,h⟩;simp only[Bool.toNat_false,Bool.toNat_true];go_wp2_with fail;refine(xl 2 1 (by omega) (by omega) s).mono ?_;rintro c F ⟨rfl,t,i⟩;go_wp2_with fail;refine(Hz u 4 ij fO (y.codes.kept (h.trans i)) t x q.o).mono ?_;rintro c G ⟨rfl,z⟩;exact⟨rfl,rfl,(h.trans i).trans z⟩
def uf(u:Nat)(c:Value)(e:Array Bool)(b:World):Prop:=b.cell? ⟨u,0,none⟩=some c
theorem Lj(i:List Nat)(Z:0<i.length)(al:i.length<=65535)(b:∀O,O<i.length->nth i O<256){y s:List Bool}(E:Fl B g u v l m d f j w y a A n)
  (N:y.drop (y.length%8)=gw 16 i.length++(gw 16 (65535-i.length)++(gJ i++s))) (F:s.length%8=0) (ho:f<n.length+i.length) :
  Calls Tryz.prog 222 #[.pointer (some ⟨u,0,none⟩)] w λq z=>q=gU 6/\gD 5 B [g,u] w z:=by
 have X:=gv N;have W:=gv F;clear N F;have tok:True:=trivial;go_enter Tryz.func222,Tryz.ntmps222;go_wp2_with fail;refine(BJ E).mono ?_;rintro q w1 ⟨rfl,⟨p1,ac,I,x⟩,P⟩;rw[X.o]at x;have J:Fl B g u v l m d f j w1 (gw 16 i.length++(gw 16 (65535-i.length)++(gJ i++s))) a A n:=⟨p1,ac,0,I,by omega,by rw[<-x];simp[bL,gw]⟩;clear I x E;go_wp2_with fail;go_region_with (first | (go_at_call 221;have _t:=tok;refine(xl 16 i.length (by omega) (by omega) J.drew).mono ?_;rintro q w2 ⟨rfl,K,Q⟩;clear tok) | (go_at_call 221;refine(xl 16 (65535-i.length) (by omega) (by omega) K).mono ?_;rintro q w3 ⟨rfl,L,R⟩));have kk:=(P.drew.trans Q).trans R;clear P Q R J K;have e1:((65535-i.length:Nat):Int)=65535-(i.length:Int):=by omega
 rw[e1];go_wp2_with fail;refine(qL _).mono ?_;rintro q z ⟨rfl,rfl⟩;obtain⟨p,C,r,M⟩:=L.whole (by rw[ab,gM];have:=W.o;omega);obtain⟨q1,T,U⟩:=r.bytes i b s M;have Q2:=gv T;have Q3:=gv U;clear T U M L;have Y:=r.c0;go_wp2_with fail;refine p7 (uf u (.pointer (some ⟨g,0,none⟩))) (by kernel_rfl) ?_;intro b;have c:uf u (.pointer (some ⟨g,0,none⟩)) (Array.replicate 13 false) z.drew:=Y;refine tk 0 ?_ b ?_ c ?_;rotate_left;·intro k h;obtain⟨_,_,_,e⟩:=h;unfold uf at e;go_simp;try(with_reducible rfl)
 clear b c;intro b c;(try simp only[iU])
 refine tk 1 ?_ b ?_ c ?_;rotate_left;·intro k h;obtain⟨_,_,_,e⟩:=h;unfold uf at e;go_simp;try(with_reducible rfl)
 clear b c;intro b c;(try simp only[iU])
 refine tk 2 ?_ b ?_ c ?_;rotate_left;·intro k h;obtain⟨_,_,_,e⟩:=h;unfold uf at e;go_simp;try(with_reducible rfl)
 clear b c;intro b c;(try simp only[iU])
 refine tk 3 ?_ b ?_ c ?_;rotate_left;·intro k h;obtain⟨_,_,_,e⟩:=h;unfold uf at e;go_simp;try(with_reducible rfl)
 clear b c;intro b c;(try simp only[iU])
 refine tk 4 ?_ b ?_ c ?_;rotate_left;·intro k h;obtain⟨_,_,_,e⟩:=h;unfold uf at e;go_simp;try(with_reducible rfl)
 clear b c;intro b c;(try simp only[iU])
 refine tk 5 ?_ b ?_ c ?_;rotate_left;·intro k h;obtain⟨_,_,_,e⟩:=h;unfold uf at e;go_simp;try(with_reducible rfl)
 clear b c;intro b c;(try simp only[iU])
 refine tk 6 ?_ b ?_ c ?_;rotate_left;·intro k h;obtain⟨_,_,_,e⟩:=h;unfold uf at e;go_simp;try(with_reducible rfl)
 clear b c;intro b c;(try simp only[iU])
 refine tk 7 ?_ b ?_ c ?_;rotate_left;·intro k h;obtain⟨_,_,_,e⟩:=h;unfold uf at e;go_simp;try(with_reducible rfl)
 clear b c;intro b c;(try simp only[iU])
 refine tk 8 ?_ b ?_ c ?_;rotate_left;·intro k h;obtain⟨_,_,_,e⟩:=h;unfold uf at e;go_simp;try(with_reducible rfl)
 clear b c;intro b c;(try simp only[iU])
 refine tk 9 ?_ b ?_ c ?_;rotate_left;·intro k h;obtain⟨_,_,_,e⟩:=h;unfold uf at e;go_simp;try(with_reducible rfl)
 clear b c;intro b c;(try simp only[iU])
 refine tk 10 ?_ b ?_ c ?_;rotate_left;·intro k h;obtain⟨_,_,_,e⟩:=h;unfold uf at e;go_simp;try(with_reducible rfl)
 clear b c;intro b c;(try simp only[iU])
 refine on 11 b λD t=>?_;go_simp;refine(Ae (r.rd.drewN 1) i.length Z q1).mono ?_;rintro q w4 ⟨rfl,V,S⟩;refine t.o _ _ ((r.rdKept V (((gD.refl _ _ _ _).drewN 1).trans S)).c0) (λG H=>?_);clear b c t D;have b:=G;have c:=H;clear G H
 (try simp only[iU])
 refine on 12 b λD t=>?_;go_simp;refine(ze V i.length (some ⟨v,l+p,none⟩) (m-p) (by omega) ho).mono ?_;rintro q w5 ⟨rfl,ad,rfl⟩;exact⟨rfl,rfl,(kk.drewN 1).trans ((S.drewN ad).mono (by simp))⟩
theorem Hp(b:Bool)(c:List Nat)(z:0<c.length)(D:c.length<=65535)(y:∀q,q<c.length->nth c q<256){h r:List Bool}(x:Fl B g u v l m d f j w (b::(gw 2 0++h)) a A n)
  (k:h.drop (h.length%8)=gw 16 c.length++(gw 16 (65535-c.length)++(gJ c++r))) (i:r.length%8=0) (G:f<n.length+c.length) :
  Calls Tryz.prog 161 #[.pointer (some ⟨u,0,none⟩)] w λe K=>e=gU 6/\gD 5 B [g,u] w K:=by
 have t:=gv k;have s:=gv i;clear k i;cases b;all_goals
  go_enter Tryz.func161,gn;go_wp2_with fail;refine(zQ x).mono ?_;rintro e L ⟨rfl,E,H⟩;simp only[Bool.toNat_false,Bool.toNat_true];go_wp2_with fail;refine(xl 2 0 (by omega) (by omega) E).mono ?_;rintro e M ⟨rfl,F,I⟩;go_wp2_with fail;refine(Lj c z D y F t.o s.o G).mono ?_;rintro e N ⟨rfl,J⟩;exact⟨rfl,rfl,(H.trans I).trans J⟩
theorem Hm{e:List Bool}(c:Fl B g u v l m d f j w e 32768 A [])(z:sW w g u j)(x:BN f e) :
  Calls Tryz.prog 161 #[.pointer (some ⟨u,0,none⟩)] w λi D=>i=gU 6/\gD 5 B [g,u] w D:=by
 rcases x with⟨b,r,rfl,y⟩ | ⟨b,r,E,h,rfl,k,o,q,h3,s,t⟩;·exact Hg b z c (by omega) y
 ·exact Hp b h k o q c h3 s (by simpa using t)
theorem yy(e h i k:Nat)(b c:List Nat)(F:c.length=4)(o:∀y,y<4->nth c y<256)(s:e=nth c 0)(t:h=nth c 1)(x:i=nth c 2)(h3:k=nth c 3)(D:c=sum4 b)(q:World) :
  (Op.equalIn 10000 153 (.agg #[.int .u8 (e:Int),.int .u8 (h:Int),.int .u8 (i:Int),.int .u8 (k:Int)]) (.agg #[.int .u8 (((iD b).2:Int)/256),.int .u8 (((iD b).2:Int)%256),.int .u8 (((iD b).1:Int)/256),.int .u8 (((iD b).1:Int)%256)])).run Tryz.prog q=.ok true q:=by
 have E:=DS b;have r:=re e h i k ((iD b).2/256) ((iD b).2%256) ((iD b).1/256) ((iD b).1%256) (by rw[s];exact o 0 (by omega)) (by rw[t];exact o 1 (by omega)) (by rw[x];exact o 2 (by omega)) (by rw[h3];exact o 3 (by omega)) (by omega) (by omega) (by omega) (by omega) q;have z:decide ([e,h,i,k]=[(iD b).2/256,(iD b).2%256,(iD b).1/256,(iD b).1%256])=true:=by rw[du,s,t,x,h3,D];rfl
 rw[z]at r;simpa using r
def EH(u g:Nat)(c e:Value)(h:Array Bool)(b:World):Prop:=b.cell? ⟨u,0,none⟩=some c/\b.cell? ⟨g,2,none⟩=some e
theorem Im(Z:Rd B g v l m d f w 0 A [])(hl:2<=d.length)(d0:nth d 0=120)(d1:nth d 1=156){r:List Bool}{data:List Nat}
  (a5:lC 32768 f (gJ (d.drop 2)) [] r data) (J:List Nat) (S:J.length=4) (bb:∀P,P<4->nth J P<256) (hr:r.drop (r.length%8)=gJ J) (ba:J=sum4 data) (a7:∀P,P<data.length->nth data P<256) :
  Calls Tryz.prog 116 #[.pointer (some ⟨g,0,none⟩)] w λy w'=>y=.returned (.tuple #[])/\∃V,Rd B g v l m d f w' d.length V data/\gD 5 B [g] w w':=by
 have a1:=gv a5;have HR:=gv hr;have bq:=gv ba;clear a5 hr ba;go_enter Tryz.func116,Tryz.ntmps116;go_wp2_with fail;refine BU.mono ?_;rintro y F ⟨X,Y,rfl,i1,i2,N,q1,q2⟩;have a6:=gv (λh=>tg (fC X Y) h g (BT X Y));have tokb:True:=trivial;generalize hF:fC X Y=G at *;have HF:=gv hF;clear hF;go_wp2_with (have _t:=tokb;refine Cv (by rfl) 167 0 2 (.tmp 4) (.tmp 5) (by rfl) _ _ _ (by rfl) (by rfl) a6.o ?_;clear tokb);have r1:=Z.ofBelow N;have b5:=ae Z.blk;have a2:=Bi.start (F:=G) r1;have ad:=sW.start (br:=g) i1 i2 (.cells (Value.pointer (some ⟨g,0,none⟩)::.int .u8 0::.int .i64 0::.int .i64 0::G).toArray 167 (0,0)) (by omega) (by omega);rw[HF.o]at ad;have b4:Below w.heap.size w (F.alloc (.cells (Value.pointer (some ⟨g,0,none⟩)::.int .u8 0::.int .i64 0::.int .i64 0::G).toArray 167 (0,0))):=N.alloc N.size _;clear i1 i2 r1 a6 HF q1 q2;have bt:=N.size;clear N;refine(C5 a2 hl d0 d1).mono ?_;rintro y w2 ⟨rfl,a3,kh⟩;have T:=ad.kept kh;have E:Fl B g F.heap.size v l m d f G w2 (gJ (d.drop 2)) 32768 A []:=⟨2,0,0,a3,by omega,by simp[bL,gw]⟩;clear a2 ad a3 d0 d1;go_wp2_with fail;go_loopw [11] (λ_ wr=>∃(rr:List Bool) (al:List Nat) (V:Value),Fl B g F.heap.size v l m d f G wr rr 32768 V al/\sW wr g F.heap.size G/\Hid (lC 32768 f rr al r data)/\gD 5 B [g,F.heap.size] w2 wr) (λ_ wr=>bO g F.heap.size d.length wr)
 case atStart=>exact⟨_,_,A,E,T,a1,gD.refl _ _ _ _⟩
 clear E T a1
 case round =>
  obtain⟨rr,al,V,hf,hx,a0,kk⟩:=hrel;have hm:=gv hf.measure;have bv:=E3 hf hx a0.o;clear a0;rcases bv with a8 | ⟨r2,o2,a9,b3,a4⟩
  ·have HL:=gv a8;clear a8 hm;go_wp2_with fail;refine HL.o.mono ?_;rintro y w3 ⟨rfl,bf,E,Q⟩;have bc:=kk.trans Q;clear kk Q HL hf hx;go_wp2_with fail;refine(BJ E).mono ?_;rintro y w4 ⟨rfl,⟨x,b6,z,ac⟩,k4⟩;rw[HR.o]at ac;have bd:=bc.trans k4;clear bc k4 E;obtain⟨K,L,z3⟩:=z.bytes J (by rw[S];exact bb) [] (by rw[ac];simp);have c0:=z.c0;have c2:=z.rd.c2;obtain⟨W,oc,b2,_⟩:=z.rd.datOut a7;subst b2;have b7:=z.rd.lm;have b8:=z.rd.lo;rw[S]at K L;have y0:=L 0 (by omega);have y1:=L 1 (by omega);have y2:=L 2 (by omega);have y3:=L 3 (by omega);have R:=gv (And.intro y0 (And.intro y1 (And.intro y2 y3)));have bw:x+4=d.length:=by have:=cq List.length z3;rw[gM,aU,S]at this;simp at this;omega
   clear L z3 y0 y1 y2 y3 ac;have bz:data.length<=1000000000:=by omega
   have bs:=J9 v (l+x) (m-x);have bx:=yy (nth d x) (nth d (x+1)) (nth d (x+2)) (nth d (x+3)) data J S bb (by have:=R.o.1;simpa using this) R.o.2.1 R.o.2.2.1 R.o.2.2.2 bq.o;go_wp2_with fail;refine p7 (CA F.heap.size g v (l+x) (.pointer (some ⟨g,0,none⟩)) (.slice W data.length oc) d x) (by kernel_rfl) ?_;intro b;have c:CA F.heap.size g v (l+x) (.pointer (some ⟨g,0,none⟩)) (.slice W data.length oc) d x (Array.replicate 19 false) w4.drew:=Cs (z.drewN 1) K;refine tk 0 ?_ b ?_ c ?_;rotate_left;·intro h e;obtain⟨_,_,_,i,k,o,q,s,t⟩:=e;go_simp;try(with_reducible rfl)
   clear b c;intro b c;(try simp only[iU])
   refine tk 1 ?_ b ?_ c ?_;rotate_left;·intro h e;obtain⟨_,_,_,i,k,o,q,s,t⟩:=e;go_simp;try(with_reducible rfl)
   clear b c;intro b c;(try simp only[iU])
   refine tk 2 ?_ b ?_ c ?_;rotate_left;·intro h e;obtain⟨_,_,_,i,k,o,q,s,t⟩:=e;go_simp;try(with_reducible rfl)
   clear b c;intro b c;(try simp only[iU])
   refine tk 3 ?_ b ?_ c ?_;rotate_left;·intro h e;obtain⟨_,_,_,i,k,o,q,s,t⟩:=e;go_simp;try(with_reducible rfl)
   clear b c;intro b c;(try simp only[iU])
   refine tk 4 ?_ b ?_ c ?_;rotate_left;·intro h e;obtain⟨_,_,_,i,k,o,q,s,t⟩:=e;go_simp;try(with_reducible rfl)
   clear b c;intro b c;(try simp only[iU])
   refine tk 8 ?_ b ?_ c ?_;rotate_left;·intro h e;obtain⟨_,_,_,i,k,o,q,s,t⟩:=e;go_simp;try(with_reducible rfl)
   clear b c;intro b c;(try simp only[iU])
   refine tk 9 ?_ b ?_ c ?_;rotate_left;·intro h e;obtain⟨_,_,_,i,k,o,q,s,t⟩:=e;go_simp;try(with_reducible rfl)
   clear b c;intro b c;(try simp only[iU])
   refine tk 10 ?_ b ?_ c ?_;rotate_left;·intro h e;obtain⟨_,_,_,i,k,o,q,s,t⟩:=e;go_simp;try(with_reducible rfl)
   clear b c;intro b c;(try simp only[iU])
   refine tk 11 ?_ b ?_ c ?_;rotate_left;·intro h e;obtain⟨_,_,_,i,k,o,q,s,t⟩:=e;go_simp;try(with_reducible rfl)
   clear b c;intro b c;(try simp only[iU])
   refine tk 12 ?_ b ?_ c ?_;rotate_left;·intro h e;obtain⟨_,_,_,i,k,o,q,s,t⟩:=e;go_simp;try(with_reducible rfl)
   clear b c;intro b c;(try simp only[iU])
   refine tk 13 ?_ b ?_ c ?_;rotate_left;·intro h e;obtain⟨_,_,_,i,k,o,q,s,t⟩:=e;go_simp;try(with_reducible rfl)
   clear b c;intro b c;(try simp only[iU])
   refine tk 14 ?_ b ?_ c ?_;rotate_left;·intro h e;obtain⟨_,_,_,i,k,o,q,s,t⟩:=e;go_simp;try(with_reducible rfl)
   clear b c;intro b c;(try simp only[iU])
   refine tk 15 ?_ b ?_ c ?_;rotate_left;·intro h e;obtain⟨_,_,_,i,k,o,q,s,t⟩:=e;go_simp;try(with_reducible rfl)
   clear b c;intro b c;(try simp only[iU])
   refine on 5 b λM D=>?_;go_simp;refine(Ae (z.rd.drewN 1) 4 (by omega) K).mono ?_;rintro y w5 ⟨rfl,r5,k5⟩;have O:=z.rdKept r5 (((gD.refl _ _ _ _).drewN 1).trans k5);refine D.o _ _ (Cs O K) (λH I=>?_);clear b c D M;have b:=H;have c:=I;clear H I
   (try simp only[iU])
   refine tk 6 ?_ b ?_ c ?_;rotate_left;·intro h e;obtain⟨_,_,_,i,k,o,q,s,t⟩:=e;go_simp;try(with_reducible rfl)
   clear b c;intro b c;(try simp only[iU])
   refine tk 7 ?_ b ?_ c ?_;rotate_left;·intro h e;obtain⟨_,_,_,i,k,o,q,s,t⟩:=e;go_simp;try(with_reducible rfl)
   clear b c;intro b c;(try simp only[iU])
   refine on 16 b λM D=>?_;go_simp;refine(Ek (B:=w5.heap.size) (w:=w5) W oc data (af _) (Rd.datOut' r5) bz a7).mono ?_;rintro y w6 ⟨rfl,U,rfl⟩;refine D.o _ _ (Cs (O.alloc U) K) (λH I=>?_);clear b c D M;have b:=H;have c:=I;clear H I;unfold Ad
   (try simp only[iU])
   refine tk 17 ?_ b ?_ c ?_;rotate_left;·intro h e;obtain⟨_,_,_,i,k,o,q,s,t⟩:=e;go_simp;try(with_reducible rfl)
   clear b c;intro b c;(try simp only[iU])
   refine on 18 b λM D=>?_;go_simp;refine(qL _).mono ?_;rintro y w7 ⟨rfl,rfl⟩;refine D.o _ _ (Cs (O.alloc U) K) (λH I=>?_);clear b c D M H I;refine mI (by kernel_rfl) ?_ _;have h6:=O.alloc U;have g0:=h6.c0;have r6:=h6.rd;have bn:=gv (Df b4 (((kh.trans bd).drewN 1).trans ((k5.mono (by simp)).alloc U)) bt);rw[bw]at r6;clear O r5 k5 bs bx c0 c2 z kh bd Z h6;go_wp2_with fail;refine(eo r6).mono ?_;rintro y w7 ⟨rfl,bi,rfl⟩;go_wp2
   go_end0
   exact⟨rfl,_,r6.drewN bi,bn.o.drewN bi⟩
  ·have HM:=gv a9;have bm:=gv a4;clear a9 a4;go_wp2_with fail;refine HM.o.mono ?_;rintro y w3 ⟨rfl,bf,E,Q⟩;have b0:=gv E.measure;have T:=hx.kept Q;go_wp2;go_roundw
   case rel=>exact⟨_,_,bf,E,T,bm,kk.trans Q⟩
   case measure=>rw[hm.o,b0.o];exact b3
theorem Il(U:Rd B g v l m d f w 0 A [])(hl:2<=d.length)(S:nth d 0=120)(T:nth d 1=156){r:List Bool}{data:List Nat}
  (Y:lC 32768 f (gJ (d.drop 2)) [] r data) (a3:List Nat) (bc:a3.length=3) (hr:r.drop (r.length%8)=gJ a3) (a8:∀al,al<data.length->nth data al<256) :
  Calls Tryz.prog 116 #[.pointer (some ⟨g,0,none⟩)] w λt w'=>t=gU 5/\gD 5 B [g] w w':=by
 have O:=gv Y;have HR:=gv hr;clear Y hr;go_enter Tryz.func116,Tryz.ntmps116;go_wp2_with fail;refine BU.mono ?_;rintro t q ⟨E,F,rfl,i1,i2,y,q1,q2⟩;have Z:=gv (λh=>tg (fC E F) h g (BT E F));have tokb:True:=trivial;generalize hF:fC E F=s at *;have P:=gv hF;clear hF;go_wp2_with (have _t:=tokb;refine Cv (by rfl) 167 0 2 (.tmp 4) (.tmp 5) (by rfl) _ _ _ (by rfl) (by rfl) Z.o ?_;clear tokb);have r1:=U.ofBelow y;have bm:=ae U.blk;have V:=Bi.start (F:=s) r1;have J:=sW.start (br:=g) i1 i2 (.cells (Value.pointer (some ⟨g,0,none⟩)::.int .u8 0::.int .i64 0::.int .i64 0::s).toArray 167 (0,0)) (by omega) (by omega);rw[P.o]at J;have bf:Below w.heap.size w (q.alloc (.cells (Value.pointer (some ⟨g,0,none⟩)::.int .u8 0::.int .i64 0::.int .i64 0::s).toArray 167 (0,0))):=y.alloc y.size _;clear i1 i2 r1 Z P q1 q2;have a5:=y.size;clear y;refine(C5 V hl S T).mono ?_;rintro t w2 ⟨rfl,W,kh⟩;have D:=J.kept kh;have o:Fl B g q.heap.size v l m d f s w2 (gJ (d.drop 2)) 32768 A []:=⟨2,0,0,W,by omega,by simp[bL,gw]⟩;clear V J W S T;go_wp2_with fail;go_loopw [11] (λ_ wr=>∃(M:List Bool) (L:List Nat) (a1:Value),Fl B g q.heap.size v l m d f s wr M 32768 a1 L/\sW wr g q.heap.size s/\Hid (lC 32768 f M L r data)/\gD 5 B [g,q.heap.size] w2 wr) (λ_ wr=>bO g q.heap.size d.length wr)
 case atStart=>exact⟨_,_,A,o,D,O,gD.refl _ _ _ _⟩
 clear o D O
 case round =>
  obtain⟨M,L,a1,G,I,N,K⟩:=hrel;have hm:=gv G.measure;have a6:=E3 G I N.o;clear N;rcases a6 with ac | ⟨r2,o2,ad,bb,X⟩
  ·have Q:=gv ac;clear ac hm;go_wp2_with fail;refine Q.o.mono ?_;rintro t w3 ⟨rfl,a2,o,z⟩;have a0:=K.trans z;clear K z Q G I;go_wp2_with fail;refine(BJ o).mono ?_;rintro t w4 ⟨rfl,⟨p4,bn,x,H⟩,k4⟩;rw[HR.o]at H;have bd:=a0.trans k4;clear a0 k4 o;have a7:d.length<p4+4:=by have:=cq List.length H;rw[gM,gM,aU,bc]at this;omega
   have c0:=x.c0;have c2:=x.rd.c2;obtain⟨R,oc,ba,_⟩:=x.rd.datOut a8;subst ba;clear H;go_wp2_with fail;refine p7 (EH q.heap.size g (.pointer (some ⟨g,0,none⟩)) (.slice R data.length oc)) (by kernel_rfl) ?_;intro b;have c:EH q.heap.size g (.pointer (some ⟨g,0,none⟩)) (.slice R data.length oc) (Array.replicate 19 false) w4.drew:=⟨(x.drewN 1).c0,(x.drewN 1).rd.c2⟩;refine tk 0 ?_ b ?_ c ?_;rotate_left;·intro h e;obtain⟨_,_,_,i,k⟩:=e;go_simp;try(with_reducible rfl)
   clear b c;intro b c;(try simp only[iU])
   refine tk 1 ?_ b ?_ c ?_;rotate_left;·intro h e;obtain⟨_,_,_,i,k⟩:=e;go_simp;try(with_reducible rfl)
   clear b c;intro b c;(try simp only[iU])
   refine tk 2 ?_ b ?_ c ?_;rotate_left;·intro h e;obtain⟨_,_,_,i,k⟩:=e;go_simp;try(with_reducible rfl)
   clear b c;intro b c;(try simp only[iU])
   refine tk 3 ?_ b ?_ c ?_;rotate_left;·intro h e;obtain⟨_,_,_,i,k⟩:=e;go_simp;try(with_reducible rfl)
   clear b c;intro b c;(try simp only[iU])
   refine tk 4 ?_ b ?_ c ?_;rotate_left;·intro h e;obtain⟨_,_,_,i,k⟩:=e;go_simp;try(with_reducible rfl)
   clear b c;intro b c;(try simp only[iU])
   refine tk 8 ?_ b ?_ c ?_;rotate_left;·intro h e;obtain⟨_,_,_,i,k⟩:=e;go_simp;try(with_reducible rfl)
   clear b c;intro b c;(try simp only[iU])
   refine tk 9 ?_ b ?_ c ?_;rotate_left;·intro h e;obtain⟨_,_,_,i,k⟩:=e;go_simp;try(with_reducible rfl)
   clear b c;intro b c;(try simp only[iU])
   refine tk 10 ?_ b ?_ c ?_;rotate_left;·intro h e;obtain⟨_,_,_,i,k⟩:=e;go_simp;try(with_reducible rfl)
   clear b c;intro b c;(try simp only[iU])
   refine tk 11 ?_ b ?_ c ?_;rotate_left;·intro h e;obtain⟨_,_,_,i,k⟩:=e;go_simp;try(with_reducible rfl)
   clear b c;intro b c;(try simp only[iU])
   refine tk 12 ?_ b ?_ c ?_;rotate_left;·intro h e;obtain⟨_,_,_,i,k⟩:=e;go_simp;try(with_reducible rfl)
   clear b c;intro b c;(try simp only[iU])
   refine tk 13 ?_ b ?_ c ?_;rotate_left;·intro h e;obtain⟨_,_,_,i,k⟩:=e;go_simp;try(with_reducible rfl)
   clear b c;intro b c;(try simp only[iU])
   refine tk 14 ?_ b ?_ c ?_;rotate_left;·intro h e;obtain⟨_,_,_,i,k⟩:=e;go_simp;try(with_reducible rfl)
   clear b c;intro b c;(try simp only[iU])
   refine tk 15 ?_ b ?_ c ?_;rotate_left;·intro h e;obtain⟨_,_,_,i,k⟩:=e;go_simp;try(with_reducible rfl)
   clear b c;intro b c;(try simp only[iU])
   refine on 5 b λK' hK=>?_;go_simp;refine(GG (x.rd.drewN 1) 4 (by omega) a7).mono ?_;rintro t w5 ⟨rfl,bi,rfl⟩;exact⟨rfl,rfl,Df bf (((kh.trans bd).drewN 1).drewN bi) a5⟩
  ·have HM:=gv ad;have a4:=gv X;clear ad X;go_wp2_with fail;refine HM.o.mono ?_;rintro t w3 ⟨rfl,a2,o,z⟩;have a9:=gv o.measure;have D:=I.kept z;go_wp2;go_roundw
   case rel=>exact⟨_,_,a2,o,D,a4,K.trans z⟩
   case measure=>rw[hm.o,a9.o];exact bb
theorem CN(t:Rd B g v l m d f w 0 A [])(O:2<=d.length)(r:nth d 0=120)(s:nth d 1=156)(z:BN f (gJ (d.drop 2))) :
  Calls Tryz.prog 116 #[.pointer (some ⟨g,0,none⟩)] w λe U=>e=gU 6/\gD 5 B [g] w U:=by
 have K:=gv z;clear z;go_enter Tryz.func116,Tryz.ntmps116;go_wp2_with fail;refine BU.mono ?_;rintro e I ⟨h,i,rfl,E,F,c,S,T⟩;have D:=gv (λL=>tg (fC h i) L g (BT h i));have tokb:True:=trivial;generalize hF:fC h i=b at *;have q:=gv hF;clear hF;go_wp2_with (have V:=tokb;refine Cv (by rfl) 167 0 2 (.tmp 4) (.tmp 5) (by rfl) _ _ _ (by rfl) (by rfl) D.o ?_;clear tokb);have H:=t.ofBelow c;have W:=ae t.blk;have x:=Bi.start (F:=b) H;have k:=sW.start (br:=g) E F (.cells (Value.pointer (some ⟨g,0,none⟩)::.int .u8 0::.int .i64 0::.int .i64 0::b).toArray 167 (0,0)) (by omega) (by omega);rw[q.o]at k;have R:Below w.heap.size w (I.alloc (.cells (Value.pointer (some ⟨g,0,none⟩)::.int .u8 0::.int .i64 0::.int .i64 0::b).toArray 167 (0,0))):=c.alloc c.size _;clear E F H D q S T;have M:=c.size;clear c;refine(C5 x O r s).mono ?_;rintro e J ⟨rfl,y,G⟩;have P:=k.kept G;have N:Fl B g I.heap.size v l m d f b J (gJ (d.drop 2)) 32768 A []:=⟨2,0,0,y,by omega,by simp[bL,gw]⟩;clear x k y r s;go_wp2_with fail;go_loopw [11] (λ_ wr=>wr=J) (λ_ _=>0)
 case atStart=>rfl
 case round=>subst hrel;go_wp2_with fail;refine(Hm N P K.o).mono ?_;rintro e X ⟨rfl,Q⟩;exact⟨rfl,rfl,Df R (G.trans Q) M⟩
end
end Go.Proofs.YtgkljcmjnphpeaaGreatDoor
