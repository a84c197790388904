import Derived.Test.YtgkljcmjnphpeaaGreatDoorK27
set_option linter.unusedVariables false
set_option linter.unusedSimpArgs false
set_option maxHeartbeats 4000000
set_option maxRecDepth 100000
namespace Go.Proofs.YtgkljcmjnphpeaaGreatDoor
open Go.RowKit
section
variable{w w':World}{B j bm m q cap T:Nat}{data:List Nat}{ao:Option Addr}{bs:List Bool}{f:Nat}{r:List Value}
theorem De.write{c:List Bool}(a:De B j bm m q cap data ao w bs f)(k:gD 5 B [j] w w')
  (y:Wx B j 194 [.slice ao data.length cap,.int .i64 f,.map (some bm),.slice (some ⟨m,0,none⟩) 288 288,.slice (some ⟨q,0,none⟩) 32 32] w' c):De B j bm m q cap data ao w' c f:=by
 obtain⟨D,E,F,_⟩:=a.ne;obtain⟨_,_,_,_,_,v,_⟩:=a.cells;obtain⟨u,s,A,C⟩:=a.st;obtain⟨h,l,n⟩:=a.r1;obtain⟨i,o,p⟩:=a.r2;refine⟨y,?_,a.byt,a.len,a.lc,a.hat,⟨u,s,k.block bm _ (by simp[D]) A (Or.inr (by intro d g e;cases e)),C⟩,⟨h,k.block m _ (by simp[E]) l (Or.inr (by intro d g e;simp at e)),n⟩,⟨i,k.block q _ (by simp[F]) o (Or.inr (by intro d g e;simp at e)),p⟩,a.hbm⟩;intro z x;obtain⟨b,G,e1,e2,t⟩:=a.dat z x;exact⟨b,G,e1,e2,k.cell (by simpa using v) e2 t⟩
theorem BM(b:List (Nat × Nat))(a:Nat):i6 b a=gX (nh b a).1 (nh b a).2:=rfl
theorem jG.cellsAt{c:Nat}{b:List (Nat × Nat)}(e:jG w c b)(a:Nat)(g:a<b.length):w.cell? ⟨c,a*2,none⟩=some (.int .i64 ((nh b a).1:Nat))/\w.cell? ⟨c,a*2+1,none⟩=some (.int .i64 ((nh b a).2:Nat)):=by obtain⟨h,d,_,h3⟩:=e;obtain⟨e1,e2⟩:=h3 a g;exact⟨by rw[cb d];exact e1,by rw[cb d];exact e2⟩
def n_(data:List Nat)(f c:Nat)(d:List Bool):Prop:=
 ∃a b,nX data f a b/\((a=0/\c=1/\d=i6 j5 (nth data f))\/(0<a/\c=a/\d=kR a b))
theorem n_.one{n e:Nat}{p g:List Bool}(k:n_ data f n p)(l:n_ data f e g):n=e/\p=g:=by
 obtain⟨y,v,o,s⟩:=k;obtain⟨z,x,t,u⟩:=l;obtain⟨rfl,rfl⟩:=o.one t;rcases s with⟨h,a,b⟩ | ⟨h,a,b⟩<;>rcases u with⟨i,c,d⟩ | ⟨i,c,d⟩;·exact⟨a.trans c.symm,b.trans d.symm⟩
 ·omega
 ·omega
 ·exact⟨a.trans c.symm,b.trans d.symm⟩
def PD(B j bm m q cap:Nat)(data:List Nat)(ao:Option Addr)(w:World)(bs:List Bool)(f:Nat)(w':World):Prop:=
 ∃(b:List Bool) (a:Nat),0<a/\f+a<=data.length/\De B j bm m q cap data ao w' (bs++b) (f+a)/\(∀c,jK data f c->jK data (f+a) (c++b))/\b.length<=40*a/\(rB data->(a=1/\b.length<=9/\(f=0\/data.length<f+3))\/(a=min 258 (data.length-f)/\0<f/\b.length<=19))/\n_ data f a b/\gD 5 B [j,bm] w w'
theorem yF(d:De B j bm m q cap data ao w bs f)(i:f<data.length) :
  ∃(b e g a c:Nat),ao=some ⟨b,e,none⟩/\b<B/\g<256/\c<=9/\a<1024/\w.cell? ⟨b,e+f,none⟩=some (.int .u8 (g:Nat))/\w.cell? ⟨m,g*2,none⟩=some (.int .i64 (a:Nat))/\w.cell? ⟨m,g*2+1,none⟩=some (.int .i64 (c:Nat)) /\
   (∀h,jK data f h->jK data (f+1) (h++gX a c))/\gX a c=i6 j5 (nth data f):=by
 obtain⟨b,e,e1,e2,n⟩:=d.dat.at (by omega);have p:=d.byt f i;have k:=Bn ⟨nth data f,by omega⟩;simp only[]at k;obtain⟨u,v⟩:=d.r1.cellsAt (nth data f) (by rw[GE];omega);refine⟨b,e,nth data f,_,_,e1,e2,p,k.2,k.1,n f i,u,v,λh o=>?_,rfl⟩;refine o.lit i (λx s=>?_);obtain⟨t,l,rfl⟩:=cA s;have:=d.byt t l;simpa[nth,l]using this
theorem De.code1(c:De B j bm m q cap data ao w bs f)(S a b:Nat)(d:S<288)(e:nh j5 S=(a,b)):w.cell? ⟨m,S*2,none⟩=some (.int .i64 (a:Nat))/\w.cell? ⟨m,S*2+1,none⟩=some (.int .i64 (b:Nat)):=by have:=c.r1.cellsAt S (by rw[GE];exact d);rw[e]at this;exact this
theorem De.code2(d:De B j bm m q cap data ao w bs f)(a b c:Nat)(e:a<32)(g:nh kX a=(b,c)):w.cell? ⟨q,a*2,none⟩=some (.int .i64 (b:Nat))/\w.cell? ⟨q,a*2+1,none⟩=some (.int .i64 (c:Nat)):=by have:=d.r2.cellsAt a (by rw[Em];exact e);rw[g]at this;exact this
theorem De.drew(a:De B j bm m q cap data ao w bs f):De B j bm m q cap data ao w.drew bs f:=a.below (aj _ _).drew
theorem De.alloc(b:De B j bm m q cap data ao w bs f)(a:Obj):De B j bm m q cap data ao (w.alloc a) bs f:=b.below ((aj _ _).alloc (af _) a)
theorem gD.two{c B:Nat}{a b:World}(e:gD c B [j] a b):gD c B [j,bm] a b:=e.mono (λk d=>by simp at d;simp[d])
theorem FP{e B:Nat}{S:List Nat}{a b:World}(c:Below a.heap.size a b):gD e B S a b:=gD.thenBelow (gD.refl _ _ _ _) c
theorem LA:∀a:Fin 30,(nh kX a.val).2<=5:=by decide +kernel
theorem IB:gE (gT 1)=(1,0):=by decide +kernel
theorem Cm{d e:Type}(a:d × e):∃c b,a=(c,b):=⟨a.1,a.2,rfl⟩
theorem Ia{a b:Nat}(O:3<=a)(P:a<=258)(J:1<=b)(K:b<=32768)(Q:b<=f)(R:f+a<=data.length)(S:∀A,A<a->nth data (f+A)=nth data (f-b+A)) :
  ∃n d g i k p e h l c:Nat,iW a=n/\gT b=p/\257<=n/\n<=285/\p<=29/\nh j5 n=(d,g)/\nh kX p=(e,h)/\gL n=(i,k)/\gE p=(l,c) /\
   (d<1024/\g<=9/\e<1024/\h<=5/\i<=a/\k<=5/\l<=b/\c<=13/\(b=1->c=0)) /\
   (∀v,jK data f v->jK data (f+a) (v++(gX d g++(gw k (a-i)++(gX e h++gw c (b-l))))))/\kR a b=gX d g++(gw k (a-i)++(gX e h++gw c (b-l))):=by
 obtain⟨t,G,u,_⟩:=qe ⟨a-3,by omega⟩;simp only[show a-3+3=a by omega]at t G u;obtain⟨L,H,_⟩:=pK b J K;have C:=Dh ⟨iW a,by omega⟩ t;have D:=CL ⟨gT b,by omega⟩;have s:=Bn ⟨iW a,by omega⟩;have E:=Ly ⟨gT b,by omega⟩;have F:=LA ⟨gT b,by omega⟩;simp only[]at C D s E F;obtain⟨d,g,x⟩:=Cm (nh j5 (iW a));obtain⟨e,h,y⟩:=Cm (nh kX (gT b));obtain⟨i,k,z⟩:=Cm (gL (iW a));obtain⟨l,c,o⟩:=Cm (gE (gT b));have I:kR a b=gX d g++(gw k (a-i)++(gX e h++gw c (b-l))):=by unfold kR;rw[BM,BM,x,y,z,o]
 rw[x]at s;rw[y]at E F;rw[z]at C u;rw[o]at D H;refine⟨iW a,d,g,i,k,gT b,e,h,l,c,rfl,rfl,t,G,L,x,y,z,o,⟨s.1,s.2,E.1,F,u,C.1,H,D.1,λM=>by subst M;rw[IB]at o;cases o;rfl⟩,λv N=>?_,I⟩;rw[<-I];exact N.copy a b O P J K Q R S
theorem IC(A:De B j bm m q cap data ao w bs f)(bq:f<data.length)(hl:bs.length+100<=1099511627776) :
  Calls Tryz.prog 204 #[.pointer (some ⟨j,0,none⟩)] w λa w'=>a=.returned (.tuple #[])/\PD B j bm m q cap data ao w bs f w':=by
 have HM:=gv (Jr A);have ad:=gv A;have bv:=A.len;clear A;go_enter Tryz.func204,Tryz.ntmps204;go_wp2_with fail;refine HM.o.mono ?_;rintro a w1 ⟨i,W,rfl,Q,Y⟩;have t:=gv Y;obtain⟨a0,hm⟩:=Y.ok;have al:=gv a0;clear Y;clear a0;have g:=gv (ad.o.below Q);have l:=gv Q;clear HM ad Q;rcases hm with rfl | ⟨m1,m2,m3,m4,m5,m6,m7⟩
 ·obtain⟨b,bw,bx,h,e,rfl,hb,hs,hY,hX,d0,p,s,n,a5⟩:=yF g.o bq;have K:=gv n;have N:Hid (n_ data f 1 (gX h e)):=⟨_,_,t.o,Or.inl ⟨rfl,rfl,a5⟩⟩;clear a5 t;obtain⟨c2,U,_,V,_,D,C,_⟩:=g.o.cells;have bt:=g.o.lc;clear n;have d:=gv (Cw (w:=w1.drew) (g.o.wx.drew) (h,e) (by show h<_;omega) (by show e<=_;omega) (by show _+e<=_;omega));unfold cV at d;go_wp2_with fail;go_region_with (go_at_call 205;refine d.o.mono ?_;rintro a w2 ⟨rfl,a7,Z⟩);all_goals (
   have k:=gv (De.write g.o.drew Z a7);have K2:=gv (((FP (e:= 5) (B:=B) (S:=[j,bm]) l.o).drew).trans (gD.two Z));clear d g l c2 U V p s d0 a7 Z;go_wp2_with fail;refine(Bj 1 k.o (by omega)).mono ?_;rintro a w3 ⟨rfl,h3,o⟩;go_wp2;refine aF (v:=.tuple #[]) (by simp[results,Tryz.results204,go_sem]) rfl ⟨rfl,_,1,by omega,by omega,h3,K.o,by rw[vU];omega,λX=>Or.inl ⟨rfl,by rw[vU];exact hY,by
    rcases dK f with S | S;·exact Or.inl S
    ·refine Or.inr (Nat.lt_of_not_le λU=>?_);have:=(al.o X S U).1;omega⟩,N.o,K2.o.trans o⟩)
 ·have e0:((i:Int)==0)=false:=by simp;omega
  obtain⟨u,h,e,x1,x2,ac,x,y,y1,y2,hS,hD,a1,a2,a3,bc,bd,sx,sy,a6,n,a4⟩:=Ia (data:=data) m1 m2 m3 m4 m5 m6 m7;have K:=gv n;have N:Hid (n_ data f i (gX h e++(gw x2 (i-x1)++(gX x y++gw y2 (W-y1))))):=⟨_,_,t.o,Or.inr ⟨by omega,rfl,a4.symm⟩⟩;clear a4 t;have bf:=gv bc;have bi:=gv bd;have c:=gv a6;have M:=gv (Dk i m1 m2);have L:=gv (CT W m3 m4);have P:=gv (Cf u a1 a2);have O:=gv (BP ac a3);rw[hS]at M;rw[hD]at L;rw[sx]at P;rw[sy]at O;clear n bc bd a6 sx sy hS hD m7;go_wp2_with fail;refine(M.o _).mono ?_;rintro a w2 ⟨rfl,R⟩;have k:=gv (g.o.below R);have B2:=gv (l.o.trans (R.mono l.o.size));clear g l R M;have E:=gv (k.o.drew);obtain⟨_,_,_,V,_,D,C,_⟩:=k.o.cells;obtain⟨p,s⟩:=k.o.code1 u h e (by omega) bf.o;have d:=gv (Cw (w:=w2.drew) E.o.wx (h,e) (by have:=c.o;show h<_;omega) (by have:=c.o;show e<=_;omega) (by have:=c.o;show _+e<=_;omega));unfold cV at d;go_wp2_with fail;go_region_with (go_at_call 205;refine d.o.mono ?_;rintro a w3 ⟨rfl,a8,o⟩);have F:=gv (De.write E.o o a8);have K3:=gv (((FP (e:= 5) (B:=B) (S:=[j,bm]) B2.o).drew).trans (gD.two o));clear d k E B2 V p s a8 o D C;go_wp2_with fail;refine(P.o _).mono ?_;rintro a w4 ⟨rfl,o4,rfl⟩;go_wp2_with fail;refine(Fh (F.o.alloc o4).wx (x1,x2) i (by have:=c.o;show x1<=_;omega) (by have:=c.o;show x2<=_;omega) (by omega) (by have:=c.o;rw[ab,vU];show _+e+_<=_;omega)).mono ?_;rintro a w5 ⟨rfl,a9,k5⟩;have G:=gv (De.write (F.o.alloc o4) k5 a9);have K5:=gv ((K3.o.alloc o4).trans (gD.two k5));clear F K3 a9 k5 P;go_wp2_with fail;refine(L.o _).mono ?_;rintro a w6 ⟨rfl,z⟩;have H:=gv ((G.o.below z).drew);have I:=gv (G.o.below z);have K6:=gv ((gD.thenBelow K5.o z).drew);clear G K5 z L;obtain⟨_,_,_,_,c6,D,C,_⟩:=I.o.cells;obtain⟨p,s⟩:=I.o.code2 ac x y (by omega) bi.o;have d:=gv (Cw (w:=w6.drew) H.o.wx (x,y) (by have:=c.o;show x<_;omega) (by have:=c.o;show y<=_;omega) (by have:=c.o;simp only[ab,vU,gN];omega));unfold cV at d;go_wp2_with fail;go_region_with (go_at_call 205;refine d.o.mono ?_;rintro a w7 ⟨rfl,ba,k7⟩);have J:=gv (De.write H.o k7 ba);have K7:=gv (K6.o.trans (gD.two k7));clear d H I K6 c6 p s ba k7 D C;go_wp2_with fail;refine(O.o _).mono ?_;rintro a w8 ⟨rfl,o8,rfl⟩;go_wp2_with fail;refine(Fh (J.o.alloc o8).wx (y1,y2) W (by have:=c.o;show y1<=_;omega) (by have:=c.o;show y2<=_;omega) (by omega) (by have:=c.o;simp only[ab,vU,gN];omega)).mono ?_;rintro a w9 ⟨rfl,bb,k9⟩;have H9:=gv (De.write (J.o.alloc o8) k9 bb);have K9:=gv ((K7.o.alloc o8).trans (gD.two k9));clear J K7 bb k9 O;go_wp2_with fail;refine(Bj i H9.o m6).mono ?_;rintro a bz ⟨rfl,bn,br⟩;go_wp2
  go_end0
  refine⟨rfl,_,i,by omega,m6,?_,K.o,?_,λX=>Or.inr ?_,N.o,K9.o.trans br⟩;·simpa only[ak]using bn
  ·have:=c.o;simp only[ab,vU,gN];omega
  ·obtain⟨u1,u2⟩:=al.o X (by omega) (by omega);obtain⟨_,v1,_,v2,_,v3,_,_,v4⟩:=c.o;refine⟨u1,by omega,?_⟩;have:=v4 u2;simp only[ab,vU,gN];omega
end
section
variable{w:World}{B d bm s A cap T:Nat}{data:List Nat}{ao:Option Addr}{bs:List Bool}{D:Nat}{r:List Value}
theorem Kc(ao:Option Addr)(g e f c h i b j k:Nat)(a:World):(Instr.build 194 #[(1,.slice ao g e),(3,.map (some f)),(4,.slice (some ⟨c,0,none⟩) h i),(5,.slice (some ⟨b,0,none⟩) j k)]).run Tryz.prog a=.ok (.agg #[.slice none 0 0,.int .i64 0,.slice ao g e,.int .i64 0,.map (some f),.slice (some ⟨c,0,none⟩) h i,.slice (some ⟨b,0,none⟩) j k]) a:=by kernel_rfl
theorem EA{c:Program}{w:World}{j:Array Oper}{r:List Oper}{b:Oper}{a:Act}{e:Exit->Act->World->Prop}(C:b.guard=none)(l g h k i:Nat)(u v x m:Operand)(E:b.op=.build l #[(g,u),(h,v),(k,x),(i,m)])
  (p q t o n:Value) (H:a.eval u=p) (I:a.eval v=q) (J:a.eval x=t) (G:a.eval m=o) (F:∀f,(Instr.build l #[(g,p),(h,q),(k,t),(i,o)]).run c f=.ok n f) (y:wpList c j e r (a.put b.dst n) w):wpList c j e (b::r) a w:=by
 refine fh C λK z=>?_;unfold Oper.wp;simp[execOp,E,H,I,J,G,F,Result.andThen];exact z _ _ y
theorem j9.below{a:Nat}{c:List Nat}{e:World}(h:j9 w a c)(k:Below w.heap.size w e):j9 e a c:=by obtain⟨f,g,b,i⟩:=h;exact⟨f,g,by rw[k.block _ (ae b)];exact b,i⟩
theorem j9.setCells{a b k:Nat}{c:List Nat}{l:List Value}(g:j9 w a c)(j:a≠b):j9 (w.setCells b k l) a c:=by obtain⟨e,f,h,i⟩:=g;exact⟨e,f,by rw[xz _ j];exact h,i⟩
theorem CV(s A:Nat):(fC s A).toArray.all (·.oneCell')=true:=by unfold fC jb;simp[Value.oneCell']
theorem JC(U:nA w B ao data)(hB:B<=w.heap.size)(S:∀g,g<data.length->nth data g<256)(len:data.length<=1000000)(lc:data.length<=cap/\cap<=9223372036854775807) :
  Calls Tryz.prog 202 #[.slice ao data.length cap] w λt w'=>∃d bm s A,t=.returned (.pointer (some ⟨d,0,none⟩))/\De w.heap.size d bm s A cap data ao w' [] 0/\Below w.heap.size w w':=by
 have bf:=@run_makeMap Tryz.prog;have HD:=gv U;have ad:=gv S;clear U S;go_enter Tryz.func202,Tryz.ntmps202;go_wp2_with fail;refine BU.mono ?_;rintro t a ⟨v,x,rfl,I,J,q,n1,n2⟩;have Y:=CV v x;have u:=BT v x;generalize hF:fC v x=f at *;have Q:=gv hF;clear hF;have H:f.toArray.size=34:=List.size_toArray.trans u;have V:Hid ((Tryz.prog.info? 164).map (·.size)=some f.toArray.size):=by unfold Hid;rw[H];kernel_rfl
 have Z:Hid ((a.alloc nT).there a.heap.size 0 f.toArray.size):=by unfold Hid;rw[H];exact tZ (jd _ _)
 have al:Hid (∃c,(a.alloc nT).setCells a.heap.size 0 f=c):=⟨_,rfl⟩;have l1:v<a.heap.size:=by obtain⟨a1,fz,k,_⟩:=I;exact ae k
 have l2:x<a.heap.size:=by obtain⟨a1,fz,k,_⟩:=J;exact ae k
 have M:Hid (w_ ((a.alloc nT).setCells a.heap.size 0 f) a.heap.size/\wZ ((a.alloc nT).setCells a.heap.size 0 f) a.heap.size):=by rw[<-Q.o]at u ⊢;have e:Below a.heap.size a (a.alloc nT):=(aj _ _).alloc (af _) _;exact I0 (z9 (jd a nT) (by rw[u];rfl)) ((I.below e).setCells (by omega)) ((J.below e).setCells (by omega))
 have L:Hid (Below w.heap.size w ((a.alloc nT).setCells a.heap.size 0 f)):=vW _ _ q.size _ _ _ _ (q.alloc q.size _);clear I J q l1 l2 Q u H;go_wp2_with (refine eW (by rfl) 164 (.tmp 3) (.tmp 4) (by rfl) a.heap.size 0 f.toArray (by rfl) (by rfl) Z.o V.o Y ?_);generalize G:World.setCells (a.alloc _) a.heap.size 0 f=c;have z:Hid (w_ c a.heap.size/\wZ c a.heap.size):=by rw[<-G];exact M.o
 have o:Hid (Below w.heap.size w c):=by rw[<-G];exact L.o
 clear G M L al Z V Y;have e:Below c.heap.size c (c.alloc (.map #[] 0)):=(aj _ _).alloc (af _) _;have W:(c.alloc (.map #[] 0)).heap[c.heap.size]?=some (.map #[] 0):=jd _ _;have N:=gv (z.o.1.below e);have O:=gv (z.o.2.below e);have n:=gv (o.o.trans (e.mono o.o.size));have a8:c.heap.size<(c.alloc (.map #[] 0)).heap.size:=by simp
 have a7:=o.o.size;generalize a3:c.alloc (.map #[] 0)=R at *;generalize a4:c.heap.size=l at *;clear a3 a4 e z o;refine(yp _ N.o).mono ?_;rintro t K ⟨rfl,r1,i⟩;have P:=gv (O.o.below i);have y:=gv (n.o.trans (i.mono n.o.size));have bi:=i.size;have X:K.heap[l]?=some (.map #[] 0):=by rw[i.block _ a8];exact W
 have hA:=n.o.size;clear N O n i W;have C:=gv r1;clear r1;have br:R.heap.size<K.heap.size:=by obtain⟨bc,k,_⟩:=C.o;exact ae k
 go_wp2_with fail;refine(yo _ P.o).mono ?_;rintro t m ⟨rfl,r2,j⟩;have R2:=gv r2;have h:=gv (y.o.trans (j.mono y.o.size));have a0:=gv (C.o.below' j);have a9:=gv (show m.heap[l]?=some (.map #[] 0)by rw[j.block _ (by omega)];exact X);have bn:=j.size;clear r2 j C y X P;generalize R.heap.size=E at *;generalize a6:K.heap.size=F at *;clear a6;have a5:=gv (Kc ao data.length cap l E 288 288 F 32 32);have tokb:True:=trivial;go_wp2_with (have _t:=tokb;refine EA (by rfl) 194 1 3 4 5 (.tmp 5) (.tmp 6) (.tmp 8) (.tmp 10) (by rfl) _ _ _ _ _ (by rfl) (by rfl) (by rfl) (by rfl) a5.o ?_;clear tokb);go_ret;have e:Below m.heap.size m (m.alloc (.cells #[.slice none 0 0,.int .i64 0,.slice ao data.length cap,.int .i64 0,.map (some l),.slice (some ⟨E,0,none⟩) 288 288,.slice (some ⟨F,0,none⟩) 32 32] 194)):=(aj _ _).alloc (af _) _;refine⟨m.heap.size,l,E,F,rfl,?_,h.o.trans (e.mono h.o.size)⟩;have bb:=h.o.size;refine⟨⟨.slice none 0 0,[],0,⟨bb,by decide,jd _ _,bk _ _ _ _⟩,li.nil⟩,?_,ad.o,len,lc,aE _,?_,a0.o.below' e,R2.o.below' e,a7⟩
 ·intro g hi;obtain⟨b,ac,e1,e2,e3⟩:=HD.o g hi;exact⟨b,ac,e1,by omega,((h.o.trans (e.mono h.o.size)).cell (p:=⟨b,ac+g,none⟩) (by show b<_;omega)).trans e3⟩
 ·exact⟨#[],0,l9 _ a9.o,by simp,λbt hq=>absurd hq (by omega),λg bq bd b a2=>by simp at a2⟩
def atOf(d:Nat)(w:World):Nat:=(intOf ((w.cell? ⟨d,3,none⟩).getD undef)).toNat
theorem De.atOf(a:De B d bm s A cap data ao w bs D):atOf d w=D:=by unfold Go.Proofs.YtgkljcmjnphpeaaGreatDoor.atOf;rw[a.cells.2.1];simp[intOf]
def fB(a:List Bool):List Bool:=true::(gw 2 1++(a++i6 j5 256))
theorem rR:nh j5 256=(0,7):=by decide +kernel
theorem IV(a:List Bool):(gw 1 1++gw 2 1++a)++gX 0 7=fB a:=by unfold fB;rw[BM,rR,ak,ak];rfl
def rk(F:Nat->Nat × List Bool)(data:List Nat):Nat->Nat->List Bool
 |0,_=>[]
 |b+1,a=>if a<data.length then(F a).2++rk F data b (a+(F a).1)else[]
def tT(data:List Nat)(F:Nat->Nat × List Bool):Prop:=∀(a b:Nat) (c:List Bool),n_ data a b c->F a=(b,c)
theorem JQ(data:List Nat):∃F,tT data F:=by
 classical
 refine ⟨λa=>if h:∃g:Nat × List Bool,n_ data a g.1 g.2 then h.choose else(1,[]),λa b c e=>?_⟩
 have f:∃g:Nat × List Bool,n_ data a g.1 g.2:=⟨(b,c),e⟩
 show (if h:∃g:Nat × List Bool,n_ data a g.1 g.2 then h.choose else(1,[]))=(b,c)
 rw[dif_pos f];have:=f.choose_spec.one e;exact Prod.ext this.1 this.2
theorem II(F:Nat->Nat × List Bool)(data:List Nat):∀(b a:Nat),data.length<=a->rk F data b a=[]
 |0,_,_=>rfl
 |_+1,a,c=>by rw[rk,au (by omega)]
def rD(data:List Nat)(a:Nat)(c:List Bool):Prop:=∀F,tT data F->∃b,data.length<=a+b/\c++rk F data b a=rk F data data.length 0
def EncAll(data:List Nat)(a:List Bool):Prop:=∀F,tT data F->a=rk F data data.length 0
theorem EncAll.one{data:List Nat}{a b:List Bool}(c:EncAll data a)(d:EncAll data b):a=b:=by obtain⟨F,e⟩:=JQ data;rw[c F e,d F e]
theorem rD.step{data:List Nat}{a n:Nat}{f g:List Bool}(h:rD data a f)(j:n_ data a n g)(k:0<n)(i:a<data.length):rD data (a+n) (f++g):=λF l=>by
 obtain⟨c,e,b⟩:=h F l;match c,e,b with
 |0,e,_=>omega
 |c+1,e,b=>rw[rk,aA i,l _ _ _ j]at b;exact⟨c,by omega,by rw[ak];exact b⟩
theorem rD.all{data:List Nat}{a:List Bool}(c:rD data data.length a):EncAll data a:=λF l=>by obtain⟨e,_,b⟩:=c F l;rw[II _ _ _ _ (af _),ct]at b;exact b
def mB(b a:Nat):Nat:=19*((b-a+257)/258)+9*min 2 (b-a)+(if a=0 then 9 else 0)
theorem Jq{b a k:Nat}(f:k<=9)(e:a<b)(c:a=0\/b<a+3):k+mB b (a+1)<=mB b a:=by
 unfold mB;rw[au (show ¬ a+1=0 by omega)];rcases c with rfl | c
 ·simp only[if_true];have:(b-(0+1)+257)/258<=(b-0+257)/258:=Nat.div_le_div_right (by omega);omega
 ·have:(b-(a+1)+257)/258<=(b-a+257)/258:=Nat.div_le_div_right (by omega);omega
theorem Jp{b a k:Nat}(g:k<=19)(f:a<b)(e:0<a):k+mB b (a+min 258 (b-a))<=mB b a:=by
 unfold mB;rw[au (show ¬ a=0 by omega),au (show ¬ a+min 258 (b-a)=0 by omega)];rcases bZ (b-a) 258 with c | c
 ·rw[Nat.min_eq_right (by omega),show b-(a+(b-a))=0 by omega];omega
 ·rw[dx c];omega
theorem Iw(K:nA w B ao data)(Z:B<=w.heap.size)(G:∀P,P<data.length->nth data P<256)(len:data.length<=1000000)(lc:data.length<=cap/\cap<=9223372036854775807) :
  Calls Tryz.prog 147 #[.slice ao data.length cap] w λe R=>∃(l:Value) (h:List Nat) (x:Nat) (a:List Bool),e=.returned l/\R.ownsRow w.heap.size 5 1 l h.length (h.map λa5:Nat=>.int .u8 (a5:Int))/\Below w.heap.size w R/\li h x (fB a)/\jK data data.length a/\EncAll data a/\a.length<=40*data.length/\(rB data->a.length<=27+19*((data.length+257)/258)):=by
 have z:=gv (JC K Z G len lc);clear K G;go_enter Tryz.func147,Tryz.ntmps147;go_wp2_with fail;refine z.o.mono ?_;rintro e S ⟨d,bm,s,A,rfl,H,F⟩;have m:=gv H;have y:=gv F;clear H F z;go_wp2_with fail;refine(zC m.o.wx 1 1 (by omega) (by omega) (by simp)).mono ?_;rintro e w2 ⟨rfl,N,t⟩;have f:=gv (De.write m.o t N);have C:=gv t;clear m N t;go_wp2_with fail;refine(zC f.o.wx 1 2 (by omega) (by omega) (by simp[gN])).mono ?_;rintro e w3 ⟨rfl,O,u⟩;have U:=gv (De.write f.o u O);have Y:=gv (show gD 5 w.heap.size [d,bm] S w3 from gD.two (C.o.trans u));have a1:=y.o.size;have a8:w.heap.size<=d/\w.heap.size<=bm:=⟨f.o.cells.2.2.2.2.2.1,f.o.hbm⟩;clear f O u C;go_wp2;go_loopw [14] (λ_ wr=>∃(b:Nat) (a:List Bool),De w.heap.size d bm s A cap data ao wr (gw 1 1++gw 2 1++a) b/\Hid (jK data b a/\a.length<=40*b/\(rB data->a.length+mB data.length b<=mB data.length 0)/\rD data b a)/\gD 5 w.heap.size [d,bm] S wr) (λ_ wr=>data.length-atOf d wr)
 case atStart=>exact⟨0,[],by simpa using U.o,gv ⟨.nil,by simp,λ_=>by simp,λF _=>⟨data.length,by omega,rfl⟩⟩,Y.o⟩
 case round =>
  obtain⟨b,a,g,c,Q⟩:=hrel;have n:=gv g;have E:=gv Q;have hm:=gv g.atOf;have ba:=g.hat;obtain⟨_,c3,_,c5,_,_,a7,_⟩:=g.cells;clear g Q;have a9:=c.o.2.1;by_cases k:b<data.length
  ·have bb:(b:Int)<data.length:=by omega
   go_wp2_with fail;refine(IC n.o k (by simp only[ab,gN];omega)).mono ?_;rintro e w4 ⟨rfl,a4,a3,hn,a6,I,ac,bc,J,L,v⟩;have V:=gv J;have X:=gv L;clear J L;have ad:=gv I.atOf;go_wp2;go_roundw
   case rel=>exact⟨b+a3,a++a4,by simpa only[ak]using I,gv ⟨ac _ c.o.1,by rw[ab];omega,λj=>by
    have p:=c.o.2.2.1 j;rw[ab];rcases V.o j with⟨rfl,q,al⟩ | ⟨rfl,a0,q⟩
    ·have:=Jq q k al;omega
    ·have:=Jp q k a0;omega,c.o.2.2.2.step X.o hn k⟩,E.o.trans v⟩
   case measure=>rw[hm.o,ad.o];omega
  ·obtain rfl:b=data.length:=by omega
   obtain⟨q0,q1⟩:=n.o.code1 256 0 7 (by omega) rR;have W:=gv n.o.drew;have i:=gv (Cw (w:=wr.drew) W.o.wx (0,7) (by show 0<_;omega) (by show 7<=_;omega) (by simp only[ab,gN];omega));unfold cV at i;simp only[]at i;rw[IV]at i;go_wp2_with fail;go_region_with (go_at_call 205;refine i.o.mono ?_;rintro e w4 ⟨rfl,a2,v⟩);all_goals (
    obtain⟨l,h,x,M,hb⟩:=a2;have c0:=M.c0;go_wp2;go_ret;exact⟨l,h,x,a,rfl,M.own,y.o.trans (((E.o.drew).trans (gD.two v)).below a1 (by simp;omega)),hb,c.o.1,c.o.2.2.2.all,c.o.2.1,λj=>by
     have p:a.length<=mB data.length 0:=by have:=c.o.2.2.1 j;omega
     unfold mB at p;rw[aA rfl]at p;omega⟩)
end
section
variable{B br f c b a:Nat}{d:List Nat}{most:Nat}{w:World}
theorem Rd.start(g:c<w.heap.size)(j:∀e,e<d.length->w.cell? ⟨c,b+e,none⟩=some (.int .u8 (nth d e:Nat)))(h:∀e,e<d.length->nth d e<256)(i:d.length<=a)(l:a<=9223372036854775807)(m:most<=1000000) :
  Rd w.heap.size w.heap.size c b a d most (w.alloc (.cells #[.slice (some ⟨c,b,none⟩) d.length a,.int .i64 0,.slice none 0 0,.int .i64 most] 141 (0,0))) 0 (.slice none 0 0) []:=
 ⟨g,af _,jd _ _,λe k=>by rw[World.cell?_alloc_lt _ _ _ g];exact j e k,bk _ _ _ _,h,i,l,m,aE _,aE _⟩
theorem wC{h:Nat}{w g:World}{e:Obj}(k:gD h w.heap.size [w.heap.size] (w.alloc e) g):Below w.heap.size w g :=
 ((aj _ _).alloc (af _) e).trans (k.below (by simp) (by simp))
end
section
variable{w:World}
theorem F_{w:World}{b B' c d e:Nat}{f:Value}{g:List Value}(k:w.ownsRow b c e f d g)(n:B'<=b):w.ownsRow B' c e f d g:=by
 obtain⟨l,a⟩:=k;refine⟨l,?_⟩;rcases a with a | ⟨j,h,i,m,o,r⟩;·exact Or.inl a
 ·exact Or.inr ⟨j,h,i,m,by omega,r⟩
theorem Du{w:World}{a c f g k:Nat}{b:Value}{h:List Value}(d:w.ownsRow a c g b f h)(i:k<a):b.ownBlock≠some k:=by intro e;have:=(d.lt k e).1;omega
theorem ci(d e:Addr)(w:World) :
  CallsD Tryz.prog 79 #[.pointer (some d),.pointer (some e)] .returning w λb f g=>b=.returned (.tuple #[])/\f=.returning/\g=w:=by
 refine callsD_of_wpS Tryz.func79 rfl λa h c=>?_;apply wpS_seq;apply wpS_region;simp[wpOpsS,go_sem,recoverD,c,Tryz.ntmps79,Exit.thenS,Array.replicate];refine wpS_of_wp ?_;go_wp2;cases a
 simp_all [bodyPostS,results,Tryz.results79]
theorem Ix(g:Nat)(x:1<=g/\g<=4)(bd off cap:Nat)(d:List Nat)(most:Nat)(y:most<=1000000)(v:d.length<=200000)(i:List Nat)
  (m:∀a:World,Below w.heap.size w a->w.heap.size<=a.heap.size->Calls Tryz.prog 80 #[.int .i64 g,.slice (some ⟨bd,off,none⟩) d.length cap,.int .i64 most] a λb f=>∃e,b=.returned e/\f.ownsRow a.heap.size 5 1 e i.length (i.map λk:Nat=>.int .u8 (k:Int))/\Below a.heap.size a f) :
  Calls Tryz.prog 39 #[.int .i64 g,.slice (some ⟨bd,off,none⟩) d.length cap,.int .i64 most] w λb f=>∃e,b=.returned (.tuple #[e,.int .i64 0])/\f.ownsRow w.heap.size 5 1 e i.length (i.map λk:Nat=>.int .u8 (k:Int))/\Below w.heap.size w f:=by
 have z:∀(l:Fn) (first cap:Array Value) (w:World),(Instr.makeFunc l first cap).run Tryz.prog w=.ok (.func l first cap) w:=λ_ _ _ _=>rfl;have n:=gv m;clear m;go_enter_defers Tryz.func39,Tryz.ntmps39;go_wp2_with (go_at_call 63;refine(pG _ _ _ _ (by omega) (by omega)).mono ?_;rintro b f ⟨rfl,rfl⟩);refine(n.o _ (((aj _ _).alloc (af _) _).alloc (by simp) _) (by simp;omega)).mono ?_;rintro b j ⟨e,rfl,h,c⟩;obtain⟨u,A,rfl⟩:=i_ h;have q:j.cell? ⟨w.heap.size,0,none⟩=some (.slice none 0 0):=by rw[c.cell (p:=⟨w.heap.size,0,none⟩) (by simp;omega),World.cell?_alloc_lt _ _ _ (by simp),World.cell?_alloc_new];rfl
 have r:j.cell? ⟨w.heap.size+1,0,none⟩=some (.int .i64 0):=by rw[c.cell (p:=⟨w.heap.size+1,0,none⟩) (by simp)];simp
 have s:j.frozen? ⟨w.heap.size,0,none⟩=false:=by rw[c.frozen (p:=⟨w.heap.size,0,none⟩) (by simp;omega),World.frozen?_alloc_old _ _ _ (by simp),World.frozen?_alloc_new]
 have t:j.frozen? ⟨w.heap.size+1,0,none⟩=false:=by rw[c.frozen (p:=⟨w.heap.size+1,0,none⟩) (by simp)];simp
 go_wp2;refine leaves_cons (f:= 79) (args:=#[.pointer (some ⟨w.heap.size,0,none⟩),.pointer (some ⟨w.heap.size+1,0,none⟩)]) (by simp) (by simp[go_sem]) ?_;refine(ci ⟨w.heap.size,0,none⟩ ⟨w.heap.size+1,0,none⟩ _).mono ?_;rintro b B C ⟨rfl,rfl,rfl⟩;simp[Leaves,settle,results,Tryz.results39,go_sem,q,r,s,t];simp only[bM]at h c;refine⟨F_ (aR (aR h (Du h (by simp;omega)) _) (Du h (by simp)) _) (by omega),?_⟩;exact(((((aj _ _).alloc (af _) _).alloc (by simp) _).trans (c.mono (by omega))).setCell (by simp) _).setCell (by simp) _
end
section
variable{w:World}{B cap:Nat}{data:List Nat}{ao:Option Addr}
def BN(d:Nat)(f:List Bool):Prop:=
 (∃b r,f=b::(gw 2 1++r)/\iy ij 32768 d r [] (.error 6)) \/
 (∃(b:Bool) (r e:List Bool) (a:List Nat),f=b::(gw 2 0++r)/\0<a.length/\a.length<=65535/\(∀c,c<a.length->nth a c<256)/\r.drop (r.length%8)=gw 16 a.length++(gw 16 (65535-a.length)++(gJ a++e))/\e.length%8=0/\d<a.length)
structure Pa(data bl:List Nat):Prop where
 unp:∀(most:Nat) (t:List Nat),data.length<=most->∃r,lC 32768 most (gJ (bl++t)) [] r data/\r.drop (r.length%8)=gJ t
 no:∀(most:Nat) (t:List Nat),most<data.length->BN most (gJ (bl++t))
theorem pf{h:List Nat}{b:Nat}{c:List Bool}(i:li h b (fB c))(g:jK data data.length c):Pa data h:=by
 obtain⟨k,l,h3,f⟩:=i;have e:∀a,fB c++List.replicate ((8-b)%8) false++gJ a=true::(gw 2 1++(c++(i6 j5 256++(List.replicate ((8-b)%8) false++gJ a)))):=by intro a;unfold fB;simp only[cj,ak]
 refine⟨λj a d=>?_,λj a d=>?_⟩
 ·refine⟨List.replicate ((8-b)%8) false++gJ a,?_,?_⟩
  ·rw[i7,f,e];exact .lastFixed (g.whole d _)
  ·rw[ab,bW,gM];rw[show((8-b)%8+8*a.length)%8=(8-b)%8 by omega];rw[ed (by rw[bW])]
 ·rw[i7,f,e];exact Or.inl ⟨true,_,rfl,g.cap d _⟩
theorem J4{d:List Nat}(l:li d 0 (sB data))(g:0<data.length)(i:data.length<=65535)(e:∀j,j<data.length->nth data j<256):Pa data d:=by
 obtain⟨_,m,h3,h⟩:=l;have f:∀a,sB data++List.replicate ((8-0)%8) false++gJ a=true::(gw 2 0++(List.replicate 5 false++(gw 16 data.length++(gw 16 (65535-data.length)++(gJ data++gJ a))))):=by intro a;unfold sB;rw[show(8-0)%8=0 from rfl];simp only[cj,ak,List.replicate_zero,cC]
 have k:∀a,(List.replicate 5 false++(gw 16 data.length++(gw 16 (65535-data.length)++(gJ data++gJ a)))).length%8=5:=by intro a;simp only[ab,bW,gN,gM];omega
 refine⟨λc a b=>?_,λc a b=>?_⟩
 ·refine⟨gJ a,?_,?_⟩
  ·rw[i7,h,f];have:=lC.lastStored (window:=32768) (most:=c) (r:=List.replicate 5 false++(gw 16 data.length++(gw 16 (65535-data.length)++(gJ data++gJ a)))) (r':=gJ a) (out:=[]) data g i e ?_ (by rw[gM];omega) (by simpa using b);·simpa using this
   ·rw[k,ed (by rw[bW])]
  ·rw[gM,show(8*a.length)%8=0 by omega,eB]
 ·rw[i7,h,f];exact Or.inr ⟨true,_,gJ a,data,rfl,g,i,e,by rw[k,ed (by rw[bW])],by rw[gM];omega,b⟩
theorem Gb{w:World}{B:Nat}(c:B<=w.heap.size)(a:List Nat)(d:a.length<=100):(w.alloc (.cells (a.map λb:Nat=>Value.int .u8 (b:Int)).toArray 5)).ownsRow B 5 1 (.slice (some ⟨w.heap.size,0,none⟩) a.length a.length) a.length (a.map λb:Nat=>.int .u8 (b:Int)):=by refine⟨by simp,Or.inr ⟨w.heap.size,a.length,_,rfl,c,jd _ _,af _,by unfold maxLen;omega,by simp,?_⟩⟩;rw[aY (by simp)]
theorem IW(a:List Bool):(fB a).length=10+a.length:=by unfold fB;rw[BM,rR];simp only[ag,ab,gN,vU];omega
theorem KJ(data:List Nat):(sB data).length=40+8*data.length:=by unfold sB;simp only[ag,ab,gN,bW,gM];omega
def pr(data bl:List Nat):List Nat:=[120,156]++bl++sum4 data
theorem EX:∀{d b:List Nat},(∀a∈d,a<256)->(∀a∈b,a<256)->gJ d=gJ b->d=b
 | [],[],_,_,_=>rfl
 | [],f::b,_,_,c=>by have:=cq List.length c;rw[gM,gM]at this;simp at this
 |a::d,[],_,_,c=>by have:=cq List.length c;rw[gM,gM]at this;simp at this
 |a::d,f::b,h,i,c=>by rw[lk,lk]at c;obtain⟨j,k⟩:=List.append_inj c rfl;have:=cq kP j;rw[nI a (h a (by simp)),nI f (i f (by simp))]at this;rw[this,EX (λg e=>h g (by simp[e])) (λg e=>i g (by simp[e])) k]
theorem E8{b c:List Nat}{d e:Nat}{a:List Bool}(f:li b d a)(g:li c e a):b=c:=by obtain⟨_,h,h3,i⟩:=f;obtain⟨_,j,k,l⟩:=g;obtain rfl:d=e:=h.symm.trans j;exact EX h3 k (i.trans l.symm)
def ud(data bl:List Nat):Prop:=∃X a c b d,EncAll data X/\li a c (fB X)/\li b d (sB data)/\bl=if b.length<a.length then b else a
theorem ud.one{data a b:List Nat}(c:ud data a)(k:ud data b):a=b:=by obtain⟨X,h,m,i,n,q,d,e,rfl⟩:=c;obtain⟨Z,j,o,l,p,r,f,g,rfl⟩:=k;have u:=q.one r;subst u;rw[E8 d f,E8 e g]
theorem A3{w:World}{B b f g k:Nat}{a:Value}{h:List Value}(c:w.ownsRow B b g a f h)(e:k<B):some k≠a.ownBlock:=λd=>Du c e d.symm
theorem IJ(hd:nA w B ao data)(hB:B<=w.heap.size)(Y:∀bn,bn<data.length->nth data bn<256)(len:data.length<=65535)(lc:data.length<=cap/\cap<=9223372036854775807)(hn:ao=none->cap=0) :
  Calls Tryz.prog 104 #[.slice ao data.length cap] w λu w'=>∃(br:Value) (bl:List Nat),u=.returned br/\w'.ownsRow w.heap.size 5 1 br (pr data bl).length ((pr data bl).map λb:Nat=>.int .u8 (b:Int))/\Below w.heap.size w w'/\Pa data bl/\2<=bl.length/\bl.length<=data.length+5/\(∀b∈bl,b<256)/\ud data bl:=by
 obtain⟨O,K,L,M,N⟩:=bu Tryz.infoByte;have H1:=gv (Iw hd hB Y (by omega) lc);have R:=gv hd;have G:=gv Y;clear hd Y;go_enter Tryz.func104,Tryz.ntmps104;go_wp2_with fail;refine H1.o.mono ?_;rintro u w1 ⟨b3,e,bq,eb,rfl,a5,W,z,bc,bd,bb,_⟩;have ac:=gv (pf z bc);have a9:Hid (EncAll data eb/\li e bq (fB eb)):=⟨bd,z⟩
 clear bd;have a0:=BL z;rw[IW]at a0;have a4:=gv z.2.2.1;obtain⟨a1,c1,rfl⟩:=i_ a5;have ba:=gv a5;have P:=gv W;have bi:=W.size;clear a5 W z bc H1;have a3:2<=e.length:=by omega
 have S:=gv (And.intro a0 bb);clear a0 bb;go_wp2_with fail;refine(Mc (R.o.below P.o) (by omega) G.o len hn).mono ?_;rintro u i ⟨b4,f,rfl,a7,X,J⟩;have bf:=BL J;rw[KJ]at bf;have r:=gv (show f.length=data.length+5 by omega);clear bf;obtain⟨a2,c2,rfl⟩:=i_ a7;have T:=gv (sY ba.o X);have U:=gv (F_ a7 (B':=w.heap.size) bi);have p:=gv (P.o.trans (X.mono bi));have H:=gv J;have q:Hid (ud data (if f.length<e.length then f else e)):=⟨eb,e,bq,f,_,a9.o.1,a9.o.2,J,rfl⟩;clear a9;have I:=gv (R.o.below p.o);have bm:=p.o.size;clear a7 X ba P J R;by_cases hc:f.length<e.length
 ·rw[aA hc]at q;have bt:(f.length:Int)<e.length:=by omega
  have bw:0<data.length:=by have:=S.o;have:=r.o;omega
  have g:=gv (And.intro (J4 H.o bw len G.o) (And.intro (show 2<=f.length by have:=r.o;omega) (And.intro (show f.length<=data.length+5 by have:=r.o;omega) (And.intro H.o.2.2.1 q.o))));have j:=U;clear T U S r H ac a4 a3 hn q;obtain⟨a,ad,C⟩:∃a,a2=some ⟨a,0,none⟩/\w.heap.size<=a:=by obtain⟨a,bs,al,C⟩:=ut j.o (by have:=g.o.2.1;omega);cases al;exact⟨a,rfl,C⟩
  subst ad;have bv:=(j.o.lt a rfl).2;go_wp2_with fail;refine(Ek ao cap data (B:=B) (by omega) I.o (by omega) G.o).mono ?_;rintro u w3 ⟨rfl,l,rfl⟩;unfold Ad;have x:=gv (((j.o.alloc l).alloc (.cells #[.int .u8 ((iD data).2/256:Nat),.int .u8 ((iD data).2%256:Nat),.int .u8 ((iD data).1/256:Nat),.int .u8 ((iD data).1%256:Nat)] 153)).alloc (.cells #[.int .u8 120,.int .u8 156] 5));have A:=gv (((p.o.alloc bm l).alloc (by simp;omega) (.cells #[.int .u8 ((iD data).2/256:Nat),.int .u8 ((iD data).2%256:Nat),.int .u8 ((iD data).1/256:Nat),.int .u8 ((iD data).1%256:Nat)] 153)).alloc (by simp;omega) (.cells #[.int .u8 120,.int .u8 156] 5));have v:=gv (Gb (w:=(i.alloc l).alloc (.cells #[.int .u8 ((iD data).2/256:Nat),.int .u8 ((iD data).2%256:Nat),.int .u8 ((iD data).1/256:Nat),.int .u8 ((iD data).1%256:Nat)] 153)) (B:=w.heap.size) (by simp;omega) [120,156] (by simp));have y:=gv (l9 (.cells #[.int .u8 120,.int .u8 156] 5) (jd (i.alloc l) (.cells #[.int .u8 ((iD data).2/256:Nat),.int .u8 ((iD data).2%256:Nat),.int .u8 ((iD data).1/256:Nat),.int .u8 ((iD data).1%256:Nat)] 153)));have tok:True:=trivial;go_wp2_with (at_builtin;have _t:=tok;refine aK _ rfl (.tmp 19) (.tmp 20) 23 rfl w.heap.size 5 O (.int .u8 0) 1 1 aq K L M N rfl (by decide) (.slice (some ⟨i.heap.size+1+1,0,none⟩) 2 2) 2 ([120,156].map λb:Nat=>.int .u8 (b:Int)) rfl ?hown ⟨a,0,none⟩ f.length c2 (f.map λb:Nat=>.int .u8 (b:Int)) rfl (by simp) ?hnews ?hone ?h63 ?hby ?hbs ?_;clear tok)
  case hown=>simpa using v.o
  case hnews=>exact x.o.cells (g:=a) rfl
  case hone=>intro F d;simp at d;obtain⟨b,_,rfl⟩:=d;rfl
  case h63=>have:=g.o.2.2.1;unfold maxLen;omega
  case hby=>have:=g.o.2.2.1;omega
  case hbs=>simp;omega
  intro v1 n m c _;have E:=gv (show n.heap[i.heap.size+1]?=some (.cells #[.int .u8 ((iD data).2/256:Nat),.int .u8 ((iD data).2%256:Nat),.int .u8 ((iD data).1/256:Nat),.int .u8 ((iD data).1%256:Nat)] 153 (0,0))by rw[c.block _ (by simp) (by simp[Value.ownBlock])];simpa using y.o)
  have s:=gv (show Below w.heap.size w n from A.o.trans ⟨c.os,c.tape,c.output,c.size,λk D=>c.block k (by simp;omega) (by simp[Value.ownBlock];omega)⟩);have t:=gv m;obtain⟨V,Z,rfl⟩:=i_ m;clear m c A v y x j p I;have bx:=s.o.size;have bz:=ae E.o;go_wp2_with (at_builtin;refine aK _ rfl (.tmp 22) (.tmp 23) 23 rfl w.heap.size 5 O (.int .u8 0) 1 1 aq K L M N rfl (by decide) (.slice V (2+f.length) Z) (2+f.length) _ rfl t.o ⟨i.heap.size+1,0,none⟩ 4 4 ((sum4 data).map λb:Nat=>.int .u8 (b:Int)) rfl rfl ?hnews ?hone ?h63 ?hby ?hbs ?_)
  case hnews=>intro b0 F d;rw[aa,cb E.o];simpa[sum4]using d
  case hone=>intro F d;simp at d;obtain⟨b,_,rfl⟩:=d;rfl
  case h63=>have:=g.o.2.2.1;unfold maxLen;omega
  case hby=>have:=g.o.2.2.1;omega
  case hbs=>omega
  intro v7 w7 a8 h _;have Q:=s.o.trans (show Below w.heap.size n w7 from⟨h.os,h.tape,h.output,h.size,λk D=>h.block k (by omega) (A3 t.o D)⟩);clear h;go_wp2;go_ret;refine⟨v7,f,rfl,?_,Q,g.o⟩;unfold pr;rw[aH,aH,ab,ab];exact a8
 ·rw[au hc]at q;have bt:¬ (f.length:Int)<e.length:=by omega
  have g:=gv (And.intro ac.o (And.intro (show 2<=e.length from a3) (And.intro (show e.length<=data.length+5 by have:=r.o;omega) (And.intro a4.o q.o))));have j:=T;clear T U S r H ac a4 a3 hn q;obtain⟨a,ad,C⟩:∃a,a1=some ⟨a,0,none⟩/\w.heap.size<=a:=by obtain⟨a,bs,al,C⟩:=ut j.o (by have:=g.o.2.1;omega);cases al;exact⟨a,rfl,C⟩
  subst ad;have bv:=(j.o.lt a rfl).2;go_wp2_with fail;refine(Ek ao cap data (B:=B) (by omega) I.o (by omega) G.o).mono ?_;rintro u w3 ⟨rfl,l,rfl⟩;unfold Ad;have x:=gv (((j.o.alloc l).alloc (.cells #[.int .u8 ((iD data).2/256:Nat),.int .u8 ((iD data).2%256:Nat),.int .u8 ((iD data).1/256:Nat),.int .u8 ((iD data).1%256:Nat)] 153)).alloc (.cells #[.int .u8 120,.int .u8 156] 5));have A:=gv (((p.o.alloc bm l).alloc (by simp;omega) (.cells #[.int .u8 ((iD data).2/256:Nat),.int .u8 ((iD data).2%256:Nat),.int .u8 ((iD data).1/256:Nat),.int .u8 ((iD data).1%256:Nat)] 153)).alloc (by simp;omega) (.cells #[.int .u8 120,.int .u8 156] 5));have v:=gv (Gb (w:=(i.alloc l).alloc (.cells #[.int .u8 ((iD data).2/256:Nat),.int .u8 ((iD data).2%256:Nat),.int .u8 ((iD data).1/256:Nat),.int .u8 ((iD data).1%256:Nat)] 153)) (B:=w.heap.size) (by simp;omega) [120,156] (by simp));have y:=gv (l9 (.cells #[.int .u8 120,.int .u8 156] 5) (jd (i.alloc l) (.cells #[.int .u8 ((iD data).2/256:Nat),.int .u8 ((iD data).2%256:Nat),.int .u8 ((iD data).1/256:Nat),.int .u8 ((iD data).1%256:Nat)] 153)));have tok:True:=trivial;go_wp2_with (at_builtin;have _t:=tok;refine aK _ rfl (.tmp 19) (.tmp 20) 23 rfl w.heap.size 5 O (.int .u8 0) 1 1 aq K L M N rfl (by decide) (.slice (some ⟨i.heap.size+1+1,0,none⟩) 2 2) 2 ([120,156].map λb:Nat=>.int .u8 (b:Int)) rfl ?hown ⟨a,0,none⟩ e.length c1 (e.map λb:Nat=>.int .u8 (b:Int)) rfl (by simp) ?hnews ?hone ?h63 ?hby ?hbs ?_;clear tok)
  case hown=>simpa using v.o
  case hnews=>exact x.o.cells (g:=a) rfl
  case hone=>intro F d;simp at d;obtain⟨b,_,rfl⟩:=d;rfl
  case h63=>have:=g.o.2.2.1;unfold maxLen;omega
  case hby=>have:=g.o.2.2.1;omega
  case hbs=>simp;omega
  intro v1 n m c _;have E:=gv (show n.heap[i.heap.size+1]?=some (.cells #[.int .u8 ((iD data).2/256:Nat),.int .u8 ((iD data).2%256:Nat),.int .u8 ((iD data).1/256:Nat),.int .u8 ((iD data).1%256:Nat)] 153 (0,0))by rw[c.block _ (by simp) (by simp[Value.ownBlock])];simpa using y.o)
  have s:=gv (show Below w.heap.size w n from A.o.trans ⟨c.os,c.tape,c.output,c.size,λk D=>c.block k (by simp;omega) (by simp[Value.ownBlock];omega)⟩);have t:=gv m;obtain⟨V,Z,rfl⟩:=i_ m;clear m c A v y x j p I;have bx:=s.o.size;have bz:=ae E.o;go_wp2_with (at_builtin;refine aK _ rfl (.tmp 22) (.tmp 23) 23 rfl w.heap.size 5 O (.int .u8 0) 1 1 aq K L M N rfl (by decide) (.slice V (2+e.length) Z) (2+e.length) _ rfl t.o ⟨i.heap.size+1,0,none⟩ 4 4 ((sum4 data).map λb:Nat=>.int .u8 (b:Int)) rfl rfl ?hnews ?hone ?h63 ?hby ?hbs ?_)
  case hnews=>intro b0 F d;rw[aa,cb E.o];simpa[sum4]using d
  case hone=>intro F d;simp at d;obtain⟨b,_,rfl⟩:=d;rfl
  case h63=>have:=g.o.2.2.1;unfold maxLen;omega
  case hby=>have:=g.o.2.2.1;omega
  case hbs=>omega
  intro v7 w7 a8 h _;have Q:=s.o.trans (show Below w.heap.size n w7 from⟨h.os,h.tape,h.output,h.size,λk D=>h.block k (by omega) (A3 t.o D)⟩);clear h;go_wp2;go_ret;refine⟨v7,e,rfl,?_,Q,g.o⟩;unfold pr;rw[aH,aH,ab,ab];exact a8
end
section
variable{w:World}{B cap n:Nat}{a:List Nat}{ao:Option Addr}{P:Value->World->Prop}
theorem AC(e:Calls Tryz.prog 104 #[.slice ao n cap] w λc d=>∃b,c=.returned b/\P b d) :
  Calls Tryz.prog 70 #[.int .i64 4,.slice ao n cap] w λc d=>∃b,c=.returned b/\P b d:=by
 have f:=gv e;clear e;go_enter Tryz.func70,Tryz.ntmps70;go_wp2_with fail;refine f.o.mono ?_;rintro c h ⟨b,rfl,g⟩;go_wp2;go_ret;exact⟨b,rfl,g⟩
theorem AA(e:Calls Tryz.prog 101 #[.slice ao n cap] w λc d=>∃b,c=.returned b/\P b d) :
  Calls Tryz.prog 70 #[.int .i64 1,.slice ao n cap] w λc d=>∃b,c=.returned b/\P b d:=by
 have f:=gv e;clear e;go_enter Tryz.func70,Tryz.ntmps70;go_wp2_with fail;refine f.o.mono ?_;rintro c h ⟨b,rfl,g⟩;go_wp2;go_ret;exact⟨b,rfl,g⟩
theorem fe(c:Nat)(h:1<=c/\c<=4)(i:n<=200000)(e:Calls Tryz.prog 70 #[.int .i64 c,.slice ao n cap] w λb d=>∃v,b=.returned v/\P v d) :
  Calls Tryz.prog 33 #[.int .i64 c,.slice ao n cap] w λb d=>∃v,b=.returned (.tuple #[v,.int .i64 0])/\P v d:=by
 have f:=gv e;clear e;go_enter Tryz.func33,Tryz.ntmps33;go_wp2_with (go_at_call 63;refine(pG _ _ _ _ (by omega) (by omega)).mono ?_;rintro b d ⟨rfl,rfl⟩);refine f.o.mono ?_;rintro b j ⟨v,rfl,g⟩;go_wp2;exact aF (v:=.tuple #[v,.int .i64 0]) (by simp[results,Tryz.results33,go_sem]) rfl ⟨v,rfl,g⟩
end
end Go.Proofs.YtgkljcmjnphpeaaGreatDoor
