import Derived.Test.YtgkljcmjnphpeaaGreatDoorK42
set_option linter.unusedVariables false
set_option linter.unusedSimpArgs false
set_option maxHeartbeats 2000000
set_option maxRecDepth 100000
namespace Go.Proofs.YtgkljcmjnphpeaaGreatDoor
open Go.RowKit
section
variable{B br bd off cap:Nat}{d:List Nat}{most:Nat}{w:World}{p:Nat}{a:Value}{out:List Nat}
theorem GT(u:Rd B br bd off cap d most w p a out)(e f g h i:Nat)(hp:p+5<=d.length)(I:∀b,b<5->nth d (p+b)=nth [e,f,g,h,i] b)(m:∀b,b<5->33<=nth [e,f,g,h,i] b/\nth [e,f,g,h,i] b<=117)
  (c:Nat) (Y:qI [e,f,g,h,i] 0=c) (hm:c<=4294967295) (ho:out.length+4<=most) :
  Calls Tryz.prog 157 #[.pointer (some ⟨br,0,none⟩)] w λl s=>l=.returned (.bool true)/\∃M,Rd B br bd off cap d most s (p+5) M (out++aO c)/\gD 5 B [br] w s:=by
 have C:Hid (∀t:World,Calls Tryz.prog 217 #[.agg (bV (gS [e,f,g,h,i] 5)).toArray] t λl s=>l=.returned (.agg #[.int .u8 (c/16777216:Nat),.int .u8 (c/65536%256:Nat),.int .u8 (c/256%256:Nat),.int .u8 (c%256:Nat)])/\Below t.heap.size t s):=by rw[show gS [e,f,g,h,i] 5=[e,f,g,h,i]from Cl [e,f,g,h,i]];exact λt=>BG e f g h i (m 0 (by omega)) (m 1 (by omega)) (m 2 (by omega)) (m 3 (by omega)) (m 4 (by omega)) c Y hm t
 have G:[e,f,g,h,i].length=5:=rfl;obtain⟨x,K⟩:∃x,x=5:=⟨5,rfl⟩;rw[<-K]at I m C;generalize [e,f,g,h,i]=j at *;have a1:=gv K;have Q:=gv I;have HG:=gv m;have a8:=ae u.blk;have bb:=u.cp;have ba:=u.lc;have H:(w.alloc (.cells (bV (gS j 0)).toArray 184 (0,0))).heap[w.heap.size]?=some (.cells (bV (gS j 0)).toArray 184 (0,0)):=jd _ _;have F:(bV (gS j 0)).toArray=#[.int .u8 0,.int .u8 0,.int .u8 0,.int .u8 0,.int .u8 0]:=by rw[xy,G];rfl
 rw[F]at H;have O:=gv H;have N:=gv F;have U:=gv (u.alloc (.cells #[.int .u8 0,.int .u8 0,.int .u8 0,.int .u8 0,.int .u8 0] 184 (0,0)));clear I m Y H F u;go_enter ff,eN;go_wp2;go_loopw [7] (λb wr=>∃k:Nat,k<=x/\b=.int .i64 k/\wr.heap[w.heap.size]?=some (.cells (bV (gS j k)).toArray 184 (0,0))/\Rd B br bd off cap d most wr (p+k) a out/\gD 5 B [br] w wr) (λb _=>5-(intOf b).toNat)
 case atStart=>exact⟨0,by omega,rfl,by rw[N.o];exact O.o,U.o,(gD.refl _ _ _ _).alloc _⟩
 clear O N U
 case round =>
  obtain⟨k,hk,rfl,z,r,A⟩:=hrel;have bc:(({ data:=#[126,62] }:ByteArray)[0]'(by decide)).toNat=126:=rfl;have bf:(({ data:=#[126,62] }:ByteArray)[1]'(by decide)).toNat=62:=rfl;have a7:=r.hB;have a6:=r.hb;by_cases J:k<x
  ·have m:=HG.o k J;have D:=gv (sM r (by omega) (by rw[Q.o k J];exact zT _ (by omega) (by omega)));rw[Q.o k J]at D;have W:=gv (xx j k (by omega));have a4:(gS j k).length=5:=by rw[sP,G]
   generalize nth j k=n at *;have e1:((n:Int)==126)=false:=by simp;omega
   have e2:((n:Int)==122)=false:=by simp;omega
   have P:=gv z;have R:=gv A;have a9:k<5:=by omega
   clear z A r;go_wp2_with fail;refine D.o.mono ?_;rintro l y ⟨rfl,r1,L⟩;have v:=L.block w.heap.size _ (by simp;omega) P.o (Or.inr (by intro a5 fz l;simp at l));obtain⟨ad,hx⟩:∃ad,y.cell? ⟨w.heap.size,k,none⟩=some ad:=by rw[cb v];exact⟨_,aW (by simp[bV,a4];omega)⟩
   have fx:y.frozen? ⟨w.heap.size,k,none⟩=false:=nP v;have ao:Hid ((y.setCell ⟨w.heap.size,k,none⟩ (.int .u8 (n:Nat))).heap[w.heap.size]?=some (.cells (bV (gS j (k+1))).toArray 184 (0,0))):=by unfold Hid;rw[lq _ v,W.o];exact cq (λal=>some (Obj.cells al 184 (0,0))) (wk (gS j k) k n)
   have a2:=gv (r1.other (i:=k) v (by decide) (by omega) (by omega) (.int .u8 (n:Nat)));have a0:=gv (gD.setNew (R.o.trans L) (q:=⟨w.heap.size,k,none⟩) (af _) (.int .u8 (n:Nat)));clear r1 L v P R D W;go_wp2_with (first | (go_at_call 216;refine(zD _ _ _ _ (by omega) (by omega)).mono ?_;rintro l s ⟨rfl,rfl⟩) | (go_at_call 163;refine(qL _).mono ?_;rintro l s ⟨rfl,rfl⟩));go_roundw
   case rel=>exact⟨k+1,by omega,by go_num,ao.o,a2.o,a0.o⟩
   case measure=>simp[intOf];omega
  ·obtain rfl:k=x:=by omega
   subst K;have Z:=z7 z;have ac:Hid ((Tryz.prog.info? 184).map (·.size)=some (bV (gS j 5)).length):=by unfold Hid bV;rw[av,sP,G];kernel_rfl
   have X:=gv A;have T:=gv r;clear z A r a1;go_wp2_with (refine dW rfl 184 (.tmp 3) rfl w.heap.size 0 rfl _ _ Z.o dE rfl ac.o ?_);refine(C.o _).mono ?_;rintro l y ⟨rfl,E⟩;have V:=gv (T.o.ofBelow E);have K1:=gv (X.o.trans (gD.ofBelow' E));clear T X E C Z ac;have S:=gv (zZ (V.o.alloc (.cells #[.int .u8 (c/16777216:Nat),.int .u8 (c/65536%256:Nat),.int .u8 (c/256%256:Nat),.int .u8 (c%256:Nat)] 153)) (aO c) ⟨y.heap.size,0,none⟩ 4 ho (by have:=V.o.sz;simp;omega) (by
    intro b hi;have h4:b<4:=hi;rw[aa,cb (jd _ _)];match b,h4 with
    |0,_=>rfl
    |1,_=>rfl
    |2,_=>rfl
    |3,_=>rfl))
   have a3:(aO c).length=4:=rfl;rw[a3]at S;go_wp2_with fail;refine S.o.mono ?_;rintro l w2 ⟨rfl,M,r2,k2⟩;go_wp2;go_ret;exact⟨rfl,M,r2,(K1.o.alloc _).trans k2⟩
theorem CB(s:Rd B br bd off cap d most w p a out)(e f g h i:Nat)(hp:p+5<=d.length)(H:∀b,b<5->nth d (p+b)=nth [e,f,g,h,i] b)(m:∀b,b<5->33<=nth [e,f,g,h,i] b/\nth [e,f,g,h,i] b<=117)
  (c:Nat) (U:qI [e,f,g,h,i] 0=c) (hm:c<=4294967295) (ho:most<out.length+4) :
  Calls Tryz.prog 157 #[.pointer (some ⟨br,0,none⟩)] w λl v=>l=gU 6/\gD 5 B [br] w v:=by
 have A:Hid (∀r:World,Calls Tryz.prog 217 #[.agg (bV (gS [e,f,g,h,i] 5)).toArray] r λl v=>l=.returned (.agg #[.int .u8 (c/16777216:Nat),.int .u8 (c/65536%256:Nat),.int .u8 (c/256%256:Nat),.int .u8 (c%256:Nat)])/\Below r.heap.size r v):=by rw[show gS [e,f,g,h,i] 5=[e,f,g,h,i]from Cl [e,f,g,h,i]];exact λr=>BG e f g h i (m 0 (by omega)) (m 1 (by omega)) (m 2 (by omega)) (m 3 (by omega)) (m 4 (by omega)) c U hm r
 have F:[e,f,g,h,i].length=5:=rfl;obtain⟨u,J⟩:∃u,u=5:=⟨5,rfl⟩;rw[<-J]at H m A;generalize [e,f,g,h,i]=j at *;have ao:=gv J;have O:=gv H;have HG:=gv m;have a6:=ae s.blk;have a9:=s.cp;have a8:=s.lc;have G:(w.alloc (.cells (bV (gS j 0)).toArray 184 (0,0))).heap[w.heap.size]?=some (.cells (bV (gS j 0)).toArray 184 (0,0)):=jd _ _;have E:(bV (gS j 0)).toArray=#[.int .u8 0,.int .u8 0,.int .u8 0,.int .u8 0,.int .u8 0]:=by rw[xy,F];rfl
 rw[E]at G;have M:=gv G;have L:=gv E;have R:=gv (s.alloc (.cells #[.int .u8 0,.int .u8 0,.int .u8 0,.int .u8 0,.int .u8 0] 184 (0,0)));clear H m U G E s;go_enter ff,eN;go_wp2;go_loopw [7] (λb wr=>∃k:Nat,k<=u/\b=.int .i64 k/\wr.heap[w.heap.size]?=some (.cells (bV (gS j k)).toArray 184 (0,0))/\Rd B br bd off cap d most wr (p+k) a out/\gD 5 B [br] w wr) (λb _=>5-(intOf b).toNat)
 case atStart=>exact⟨0,by omega,rfl,by rw[L.o];exact M.o,R.o,(gD.refl _ _ _ _).alloc _⟩
 clear M L R
 case round =>
  obtain⟨k,hk,rfl,y,q,z⟩:=hrel;have ba:(({ data:=#[126,62] }:ByteArray)[0]'(by decide)).toNat=126:=rfl;have bb:(({ data:=#[126,62] }:ByteArray)[1]'(by decide)).toNat=62:=rfl;have a5:=q.hB;have a4:=q.hb;by_cases I:k<u
  ·have m:=HG.o k I;have C:=gv (sM q (by omega) (by rw[O.o k I];exact zT _ (by omega) (by omega)));rw[O.o k I]at C;have S:=gv (xx j k (by omega));have a2:(gS j k).length=5:=by rw[sP,F]
   generalize nth j k=n at *;have e1:((n:Int)==126)=false:=by simp;omega
   have e2:((n:Int)==122)=false:=by simp;omega
   have N:=gv y;have P:=gv z;have a7:k<5:=by omega
   clear y z q;go_wp2_with fail;refine C.o.mono ?_;rintro l x ⟨rfl,Y,K⟩;have t:=K.block w.heap.size _ (by simp;omega) N.o (Or.inr (by intro a3 fz l;simp at l));obtain⟨Z,hx⟩:∃Z,x.cell? ⟨w.heap.size,k,none⟩=some Z:=by rw[cb t];exact⟨_,aW (by simp[bV,a2];omega)⟩
   have fx:x.frozen? ⟨w.heap.size,k,none⟩=false:=nP t;have ad:Hid ((x.setCell ⟨w.heap.size,k,none⟩ (.int .u8 (n:Nat))).heap[w.heap.size]?=some (.cells (bV (gS j (k+1))).toArray 184 (0,0))):=by unfold Hid;rw[lq _ t,S.o];exact cq (λac=>some (Obj.cells ac 184 (0,0))) (wk (gS j k) k n)
   have a1:=gv (Y.other (i:=k) t (by decide) (by omega) (by omega) (.int .u8 (n:Nat)));have al:=gv (gD.setNew (P.o.trans K) (q:=⟨w.heap.size,k,none⟩) (af _) (.int .u8 (n:Nat)));clear Y K t N P C S;go_wp2_with (first | (go_at_call 216;refine(zD _ _ _ _ (by omega) (by omega)).mono ?_;rintro l v ⟨rfl,rfl⟩) | (go_at_call 163;refine(qL _).mono ?_;rintro l v ⟨rfl,rfl⟩));go_roundw
   case rel=>exact⟨k+1,by omega,by go_num,ad.o,a1.o,al.o⟩
   case measure=>simp[intOf];omega
  ·obtain rfl:k=u:=by omega
   subst J;have V:=z7 y;have W:Hid ((Tryz.prog.info? 184).map (·.size)=some (bV (gS j 5)).length):=by unfold Hid bV;rw[av,sP,F];kernel_rfl
   have T:=gv z;have Q:=gv q;clear y z q ao;go_wp2_with (refine dW rfl 184 (.tmp 3) rfl w.heap.size 0 rfl _ _ V.o dE rfl W.o ?_);refine(A.o _).mono ?_;rintro l x ⟨rfl,D⟩;have a0:=gv (Q.o.ofBelow D);have K1:=gv (T.o.trans (gD.ofBelow' D));clear Q T D A V W;have HP:=gv (ze (a0.o.alloc (.cells #[.int .u8 (c/16777216:Nat),.int .u8 (c/65536%256:Nat),.int .u8 (c/256%256:Nat),.int .u8 (c%256:Nat)] 153)) 4 (some ⟨x.heap.size,0,none⟩) 4 (by omega) ho);go_wp2_with fail;refine HP.o.mono ?_;rintro l w2 ⟨rfl,X,rfl⟩;exact⟨rfl,rfl,(K1.o.alloc _).drewN X⟩
theorem GV(f:Rd B br bd off cap d most w p a out)(t:p<d.length)(j:nth d p=122)(s:out.length+4<=most) :
  Calls Tryz.prog 157 #[.pointer (some ⟨br,0,none⟩)] w λe m=>e=.returned (.bool true)/\∃g,Rd B br bd off cap d most m (p+1) g (out++[0,0,0,0])/\gD 5 B [br] w m:=by
 have y:=ae f.blk;have h:=gv (f.alloc (.cells #[.int .u8 0,.int .u8 0,.int .u8 0,.int .u8 0,.int .u8 0] 184));have z:(({ data:=#[126,62] }:ByteArray)[0]'(by decide)).toNat=126:=rfl;clear f;go_enter ff,eN;go_wp2;go_loopw [7] (λb wr=>b=.int .i64 0/\wr=w.alloc (.cells #[.int .u8 0,.int .u8 0,.int .u8 0,.int .u8 0,.int .u8 0] 184)) (λ_ _=>0)
 case atStart=>exact⟨rfl,rfl⟩
 case round =>
  obtain⟨rfl,rfl⟩:=hrel;have c:=gv (sM h.o t (by rw[j];rfl));rw[j]at c;go_wp2_with fail;refine c.o.mono ?_;rintro e x ⟨rfl,l,k⟩;have i:=gv l;have n:=gv (((gD.refl 5 B [br] w).alloc _).trans k);clear l k c h;go_wp2_with fail;refine(zZ (i.o.alloc (.cells #[.int .u8 0,.int .u8 0,.int .u8 0,.int .u8 0] 5)) [0,0,0,0] ⟨x.heap.size,0,none⟩ 4 s (by have:=i.o.sz;simp;omega) (by
   intro b r;have q:b<4:=r;rw[aa,cb (jd _ _)];match b,q with
   |0,_=>rfl
   |1,_=>rfl
   |2,_=>rfl
   |3,_=>rfl)).mono ?_
  rintro e A ⟨rfl,g,v,u⟩;go_wp2;go_ret;exact⟨rfl,g,v,(n.o.alloc _).trans u⟩
theorem CE(e:Rd B br bd off cap d most w p a out)(m:p<d.length)(g:nth d p=122)(l:most<out.length+4) :
  Calls Tryz.prog 157 #[.pointer (some ⟨br,0,none⟩)] w λc r=>c=gU 6/\gD 5 B [br] w r:=by
 have t:=ae e.blk;have f:=gv (e.alloc (.cells #[.int .u8 0,.int .u8 0,.int .u8 0,.int .u8 0,.int .u8 0] 184));have u:(({ data:=#[126,62] }:ByteArray)[0]'(by decide)).toNat=126:=rfl;clear e;go_enter ff,eN;go_wp2;go_loopw [7] (λn wr=>n=.int .i64 0/\wr=w.alloc (.cells #[.int .u8 0,.int .u8 0,.int .u8 0,.int .u8 0,.int .u8 0] 184)) (λ_ _=>0)
 case atStart=>exact⟨rfl,rfl⟩
 case round=>obtain⟨rfl,rfl⟩:=hrel;have b:=gv (sM f.o m (by rw[g];rfl));rw[g]at b;go_wp2_with fail;refine b.o.mono ?_;rintro c s ⟨rfl,i,h⟩;have j:=gv i;have k:=gv (((gD.refl 5 B [br] w).alloc _).trans h);clear i h b f;go_wp2_with fail;refine(ze (j.o.alloc (.cells #[.int .u8 0,.int .u8 0,.int .u8 0,.int .u8 0] 5)) 4 (some ⟨s.heap.size,0,none⟩) 4 (by omega) l).mono ?_;rintro c v ⟨rfl,q,rfl⟩;exact⟨rfl,rfl,(k.o.alloc _).drewN q⟩
theorem ur{c:Nat}{A R:List Nat}(f:d.drop c=A++R)(b:Nat)(g:b<A.length):nth d (c+b)=nth A b:=by
 have e:nth (d.drop c) b=nth d (c+b):=by simp[nth,dC]
 rw[<-e,f];simp[nth,aI g]
theorem yN{e:Nat}{b f:List Nat}(h:d.drop e=b++f)(c:Nat):nth d (e+b.length+c)=nth f c:=by
 have g:nth (d.drop e) (b.length+c)=nth d (e+b.length+c):=by simp[nth,dC,cL]
 rw[<-g,h];simp[nth,ar]
theorem wH{c:Nat}{b:List Nat}(e:d.drop c=b)(f:0<b.length):d.length=c+b.length:=by have:=cq List.length e;rw[aU]at this;omega
theorem LB{b:List Nat}{p:Nat}{A R:List Nat}(e:b.drop p=A++R):b.take p++A=b.take (p+A.length):=by
 have c:b.take (p+A.length)=b.take p++(b.drop p).take A.length:=by rw[List.take_add]
 rw[c,e,List.take_left' rfl]
theorem dm{b:List Nat}{p:Nat}{A R:List Nat}(c:b.drop p=A++R):b.drop (p+A.length)=R:=by rw[<-eA,c,ed rfl]
theorem ws{c:List Nat}(L:∀m∈c,m<256){p i e f g h:Nat}{I n:List Nat}(E:c.drop p=e::f::g::h::I)(S:p<=c.length)(j:d.drop i=(if e=0/\f=0/\g=0/\h=0 then[122]else i3 (kB e f g h))++n)(P:0<n.length) :
  (p+4<=most->∃x K,i<x/\K=c.take (p+4)/\d.drop x=n/\s6 157 B br bd off cap d most i (c.take p) true x K) /\
  (most<p+4->ue 157 B br bd off cap d most i (c.take p) 6):=by
 have Q:(c.take p).length=p:=by rw[ax];omega
 have o:∀m∈[e,f,g,h],m<256:=λm H=>L m (cW (by rw[E];simp at H ⊢;rcases H with b | b | b | b<;>simp[b]));have y:=o e (by simp);have z:=o f (by simp);have C:=o g (by simp);have h3:=o h (by simp);have u:c.take p++[e,f,g,h]=c.take (p+4):=LB (A:=[e,f,g,h]) (R:=I) E;by_cases v:e=0/\f=0/\g=0/\h=0
 ·rw[aA v]at j;obtain⟨rfl,rfl,rfl,rfl⟩:=v;have r:=wH j (by simp);have J:nth d i=122:=ur (A:=[122]) j 0 (by simp);simp only[ab,eD]at r;refine⟨λt=>⟨i+1,c.take p++[0,0,0,0],by omega,u,dm (A:=[122]) j,λw a b=>GV b (by omega) J (by omega)⟩,λt=>λw a b=>CE b (by omega) J (by omega)⟩
 ·rw[au v]at j;have q:=vl y z C h3;have F:=Fe q;have G:=ID q;have O:=JN y z C h3;generalize kB e f g h=k at *;have s:(i3 k).length=5:=rfl;have r:=wH j (by simp[s];omega);rw[ab,s]at r;have D:∀l,l<5->nth d (i+l)=nth (i3 k) l:=λl N=>ur j l (by rw[s];exact N);have M:d.drop (i+5)=n:=dm (A:=i3 k) j;rw[<-O]at u;refine⟨λt=>⟨i+5,c.take p++aO k,by omega,u,M,λw a b=>GT b _ _ _ _ _ (by omega) D F k G q (by omega)⟩,λt=>λw a b=>CB b _ _ _ _ _ (by omega) D F k G q (by omega)⟩
theorem wO{e:List Nat}{p f m c j:Nat}{n:List Nat}(v:e.drop p=n)(H:p<=e.length)(G:n.length+1=m)(x:2<=m)(r:m<=4)(D:c<=4294967295)(t:sZ (nth (i3 c) 0) (nth (i3 c) 1) (nth (i3 c) 2) (nth (i3 c) 3) m=j)(u:j<=4294967295)(A:(aO j).take (m-1)=n) :
  (d.drop f=(i3 c).take m++[126,62]->(e.length<=most->s6 157 B br bd off cap d most f (e.take p) false d.length e)/\(most<e.length->ue 157 B br bd off cap d most f (e.take p) 6)) /\
  (d.drop f=(i3 c).take m++[126]->ue 157 B br bd off cap d most f (e.take p) 5):=by
 have F:(e.take p).length=p:=by rw[ax];omega
 have E:e.length=p+n.length:=by have:=cq List.length v;rw[aU]at this;omega
 have C:e.take p++n=e:=by rw[<-v,cI]
 have q:(i3 c).length=5:=rfl;have i:((i3 c).take m).length=m:=by rw[ax,q];omega
 have s:=Fe D;have y:∀b,b<m->nth ((i3 c).take m) b=nth (i3 c) b:=λb g=>by simp[nth,cR,g]
 constructor
 ·intro h;have l:=wH h (by simp);rw[ab,i]at l;simp only[ag,aw]at l;have e1:nth d (f+m)=126:=by have:=yN h 0;rw[i]at this;exact this
  have e2:nth d (f+m+1)=62:=by have:=yN h 1;rw[i]at this;exact this
  have o:∀b,b<m->nth d (f+b)=nth (i3 c) b:=λb g=>(ur h b (by rw[i];exact g)).trans (y b g);refine⟨λz=>λw a k=>?_,λz=>λw a k=>CC k (i3 c) q m x r (by omega) o (λb g=>s b (by omega)) e1 e2 j t u (by omega)⟩;have:=EM k (i3 c) q m x r (by omega) o (λb g=>s b (by omega)) e1 e2 j t u (by omega);rw[A,C,show f+m+2=d.length by omega]at this;exact this
 ·intro h;have l:=wH h (by simp);rw[ab,i]at l;simp only[ag,aw]at l;have e1:nth d (f+m)=126:=by have:=yN h 0;rw[i]at this;exact this
  have o:∀b,b<m->nth d (f+b)=nth (i3 c) b:=λb g=>(ur h b (by rw[i];exact g)).trans (y b g);exact λw a k=>EL k (i3 c) q m r (by omega) o (λb g=>s b (by omega)) e1
theorem ep(b:List Nat):2<=(jn b).length:=by
 match b with
 | []=>simp[jn]
 | [c]=>simp[jn]
 | [c,e]=>simp[jn]
 | [c,e,f]=>simp[jn]
 |c::e::f::g::b=>have:=ep b;simp only[jn,ab];omega
theorem ca(A:List Nat)(b:List Nat):(A++jn b).dropLast=A++(jn b).dropLast:=by have:=ep b;rw[List.dropLast_append_of_ne_nil (by intro c;rw[c]at this;simp at this)]
theorem Id(b:List Nat):0<(jn b).dropLast.length:=by have:=ep b;rw[List.length_dropLast];omega
theorem Ij(b:List Nat)(x:∀n∈b,n<256)(J:d=jn b)(s:Rd B br bd off cap d most w 0 a [])(t:b.length<=most) :
  Calls Tryz.prog 114 #[.pointer (some ⟨br,0,none⟩)] w λI C=>I=.returned (.tuple #[])/\∃M,Rd B br bd off cap d most C d.length M b/\gD 5 B [br] w C:=by
 refine Ih (λv out=>∃p,p<=b.length/\out=b.take p/\d.drop v=jn (b.drop p)) ?_ ⟨0,by omega,by simp,by simpa using J⟩ s;rintro v out ⟨p,q,rfl,c⟩ _;have f:∀n∈b.drop p,n<256:=λn K=>x n (cW K);match e:b.drop p with
 | [] =>
  rw[e]at c;have z:p=b.length:=by have:=cq List.length e;simp at this;omega
  have o:=wH c (by simp[jn]);right;intro w a s;have:=GS s (by simp[jn]at o;omega) (ur (A:=[126,62]) (R:=[]) c 0 (by simp)) (ur (A:=[126,62]) (R:=[]) c 1 (by simp));rw[show v+2=d.length by simp[jn]at o;omega,z,dM]at this;rw[z,dM]at *;exact this
 | [h]=>rw[e]at c f;have g:=f h (by simp);obtain⟨k,l⟩:=tj g;exact Or.inr (((wO (m:=2) e q rfl (by omega) (by omega) (vl g (by omega) (by omega) (by omega)) rfl k l).1 c).1 t)
 | [h,i]=>rw[e]at c f;have g:=f h (by simp);have j:=f i (by simp);obtain⟨k,l⟩:=tq g j;exact Or.inr (((wO (m:=3) e q rfl (by omega) (by omega) (vl g j (by omega) (by omega)) rfl k l).1 c).1 t)
 | [h,i,r]=>rw[e]at c f;have g:=f h (by simp);have j:=f i (by simp);have y:=f r (by simp);obtain⟨k,l⟩:=tr g j y;exact Or.inr (((wO (m:=4) e q rfl (by omega) (by omega) (vl g j y (by omega)) rfl k l).1 c).1 t)
 |h::i::r::H::u =>
  rw[e]at c;have o:p+4<=b.length:=by have:=cq List.length e;simp at this;omega
  obtain⟨N,L,D,E,F,G⟩:=(ws (B:=B) (br:=br) (bd:=bd) (off:=off) (cap:=cap) (most:=most) x e q c (by have:=ep u;omega)).1 (by omega);exact Or.inl ⟨N,L,D,⟨p+4,o,E,by rw[F,show b.drop (p+4)=u from dm (A:=[h,i,r,H]) (R:=u) e]⟩,G⟩
theorem Ie(b:List Nat)(t:∀o∈b,o<256)(H:d=jn b)(G:Rd B br bd off cap d most w 0 a [])(r:most<b.length) :
  Calls Tryz.prog 114 #[.pointer (some ⟨br,0,none⟩)] w λF P=>F=gU 6/\gD 5 B [br] w P:=by
 refine Aq (λv out=>∃p,p<=b.length/\out=b.take p/\d.drop v=jn (b.drop p)) ?_ ⟨0,by omega,by simp,by simpa using H⟩ G;rintro v out ⟨p,k,rfl,g⟩ J;rw[ax,dx k]at J;have e:∀o∈b.drop p,o<256:=λo K=>t o (cW K);match c:b.drop p with
 | [] =>
  have Q:p=b.length:=by have:=cq List.length c;simp at this;omega
  omega
 | [h]=>rw[c]at g e;have f:=e h (by simp);obtain⟨l,n⟩:=tj f;exact Or.inr (((wO (m:=2) c k rfl (by omega) (by omega) (vl f (by omega) (by omega) (by omega)) rfl l n).1 g).2 r)
 | [h,i]=>rw[c]at g e;have f:=e h (by simp);have j:=e i (by simp);obtain⟨l,n⟩:=tq f j;exact Or.inr (((wO (m:=3) c k rfl (by omega) (by omega) (vl f j (by omega) (by omega)) rfl l n).1 g).2 r)
 | [h,i,q]=>rw[c]at g e;have f:=e h (by simp);have j:=e i (by simp);have u:=e q (by simp);obtain⟨l,n⟩:=tr f j u;exact Or.inr (((wO (m:=4) c k rfl (by omega) (by omega) (vl f j u (by omega)) rfl l n).1 g).2 r)
 |h::i::q::D::s =>
  rw[c]at g;have I:p+4<=b.length:=by have:=cq List.length c;simp at this;omega
  obtain⟨L,M⟩:=ws (B:=B) (br:=br) (bd:=bd) (off:=off) (cap:=cap) (most:=most) t c k g (by have:=ep s;omega);by_cases E:p+4<=most
  ·obtain⟨O,N,x,y,z,C⟩:=L E;exact Or.inl ⟨O,N,x,⟨p+4,I,y,by rw[z,show b.drop (p+4)=s from dm (A:=[h,i,q,D]) (R:=s) c]⟩,C⟩
  ·exact Or.inr (M (by omega))
theorem CM(e:List Nat)(v:∀n∈e,n<256)(G:d=(jn e).dropLast)(s:Rd B br bd off cap d most w 0 a [])(O:e.length<=most) :
  Calls Tryz.prog 114 #[.pointer (some ⟨br,0,none⟩)] w λF N=>F=gU 5/\gD 5 B [br] w N:=by
 refine Aq (λu out=>∃p,p<=e.length/\out=e.take p/\d.drop u=(jn (e.drop p)).dropLast) ?_ ⟨0,by omega,by simp,by simpa using G⟩ s;rintro u out ⟨p,o,rfl,b⟩ _;have f:∀n∈e.drop p,n<256:=λn J=>v n (cW J);match c:e.drop p with
 | [] =>
  rw[c]at b;have t:=wH b (by simp[jn]);have I:u+0+1=d.length:=by simp[jn]at t;omega
  exact Or.inr λw a s=>EL s [0,0,0,0,0] rfl 0 (by omega) I (λK H=>by omega) (λK H=>by omega) (ur (A:=[126]) (R:=[]) b 0 (by simp))
 | [h]=>rw[c]at b f;have g:=f h (by simp);obtain⟨k,l⟩:=tj g;exact Or.inr ((wO (m:=2) c o rfl (by omega) (by omega) (vl g (by omega) (by omega) (by omega)) rfl k l).2 (b.trans (by simp[jn])))
 | [h,i]=>rw[c]at b f;have g:=f h (by simp);have j:=f i (by simp);obtain⟨k,l⟩:=tq g j;exact Or.inr ((wO (m:=3) c o rfl (by omega) (by omega) (vl g j (by omega) (by omega)) rfl k l).2 (b.trans (by simp[jn])))
 | [h,i,r]=>rw[c]at b f;have g:=f h (by simp);have j:=f i (by simp);have x:=f r (by simp);obtain⟨k,l⟩:=tr g j x;exact Or.inr ((wO (m:=4) c o rfl (by omega) (by omega) (vl g j x (by omega)) rfl k l).2 (b.trans (by simp[jn])))
 |h::i::r::E::q =>
  rw[c]at b;have t:p+4<=e.length:=by have:=cq List.length c;simp at this;omega
  obtain⟨M,L,y,z,C,D⟩:=(ws (B:=B) (br:=br) (bd:=bd) (off:=off) (cap:=cap) (most:=most) v c o (b.trans (ca _ q)) (Id q)).1 (by omega);exact Or.inl ⟨M,L,y,⟨p+4,t,z,by rw[C,show e.drop (p+4)=q from dm (A:=[h,i,r,E]) (R:=q) c]⟩,D⟩
def iI:Nat->List Nat->List Nat
 |0,_=>[]
 |c+1,b=>if b.length=0 then[]else if 1<iY b then(257-iY b)::nth b 0::iI c (b.drop (iY b))else(jH b-1)::(b.take (jH b)++iI c (b.drop (jH b)))
theorem lP:∀(b:Nat) (c:List Nat),jP b c=iI b c++[128]
 |0,c=>rfl
 |b+1,c=>by
  unfold jP iI;split;·rfl
  ·split;·rw[lP b];rfl
   ·rw[lP b];simp
theorem su(b:List Nat)(f:0<b.length):b.take (iY b)=List.replicate (iY b) (nth b 0):=by
 have j:=mS b f;have g:∀c,c<iY b->nth b c=nth b 0:=vt b 128 1 (λc i=>by rw[show c=0 by omega]);apply List.ext_getElem;·rw[ax,bW];omega
 ·intro c h e;rw[bW]at e;have:=g c e;rw[List.getElem_take,List.getElem_replicate,<-this];simp[nth,show c<b.length by omega]
theorem nS:∀(c:Nat) (b:List Nat),(iI c b).length<=2*b.length
 |0,b=>by simp[iI]
 |c+1,b=>by
  unfold iI;split;·simp
  ·rename_i g;have e:0<b.length:=by omega
   split
   ·rename_i f;have:=mS b e;have ih:=nS c (b.drop (iY b));rw[aU]at ih;simp only[ag];omega
   ·rename_i f;have:=oO b e f;have ih:=nS c (b.drop (jH b));rw[aU]at ih;simp only[ag,ab,ax];omega
theorem m0:∀(f:Nat) (e:List Nat),(∀c∈e,c<256)->∀c∈iI f e,c<256
 |0,e,_=>by simp[iI]
 |f+1,e,g=>by
  unfold iI;split;·simp
  ·rename_i l;have h:0<e.length:=by omega
   split
   ·rename_i k;have:=mS e h;intro c b;rcases bT.1 b with rfl | b;·omega
    rcases bT.1 b with rfl | b;·exact g _ (by simp[nth,h])
    ·exact m0 f _ (λj i=>g j (cW i)) c b
   ·rename_i k;have:=oO e h k;intro c b;rcases bT.1 b with rfl | b;·omega
    rcases bH.1 b with b | b;·exact g c (cK b)
    ·exact m0 f _ (λj i=>g j (cW i)) c b
theorem DL{b:List Nat}(E:∀n∈b,n<256){p e q:Nat}{o:List Nat}(N:p<b.length)(h:d.drop e=iI (q+1) (b.drop p)++o) :
  ∃j,1<=j/\p+j<=b.length/\(p+j<=most->∃z,e<z/\d.drop z=iI q (b.drop (p+j))++o/\s6 158 B br bd off cap d most e (b.take p) true z (b.take (p+j))) /\
   (most<p+j->ue 158 B br bd off cap d most e (b.take p) 6):=by
 have M:(b.take p).length=p:=by rw[ax];omega
 have L:(b.drop p).length=b.length-p:=by rw[aU]
 have k:0<(b.drop p).length:=by omega
 have G:∀n∈b.drop p,n<256:=λn I=>E n (cW I);have J:nth (b.drop p) 0<256:=by
  have F:nth (b.drop p) 0=(b.drop p)[0]:=by simp only[nth,bI,ai k,Option.getD_some]
  rw[F];exact G _ (df k)
 unfold iI at h;rw[au (by omega)]at h;by_cases l:1<iY (b.drop p)
 ·rw[aA l]at h;have v:=mS _ k;have H:=su _ k;generalize iY (b.drop p)=f at *;have y:b.take p++List.replicate f (nth (b.drop p) 0)=b.take (p+f):=by rw[<-H,<-List.take_add]
  have t:(b.drop p).drop f=b.drop (p+f):=by rw[eA]
  rw[t]at h;have g:d.drop e=[257-f,nth (b.drop p) 0]++(iI q (b.drop (p+f))++o):=h;have s:=wH g (by simp);simp only[ab,ag,aw]at s;have m:nth d e=257-f:=ur g 0 (by simp);have r:nth d (e+1)=nth (b.drop p) 0:=ur g 1 (by simp);refine⟨f,by omega,by omega,λx=>⟨e+2,by omega,dm (A:=[257-f,nth (b.drop p) 0]) g,?_⟩,λx=>?_⟩
  ·have:=DM (B:=B) (br:=br) (bd:=bd) (off:=off) (cap:=cap) (d:=d) (most:=most) (p:=e) (out:=b.take p) f (nth (b.drop p) 0) l v.2.1 (by omega) m r J (by omega);rw[y]at this;exact this
  ·exact KA f (nth (b.drop p) 0) l v.2.1 (by omega) m r (by omega)
 ·rw[au l]at h;have v:=oO _ k l;generalize jH (b.drop p)=c at *;have D:((b.drop p).take c).length=c:=by rw[ax];omega
  have y:b.take p++(b.drop p).take c=b.take (p+c):=by rw[<-List.take_add]
  have t:(b.drop p).drop c=b.drop (p+c):=by rw[eA]
  rw[t]at h;have g:d.drop e=([c-1]++(b.drop p).take c)++(iI q (b.drop (p+c))++o):=by rw[h];simp
  have u:([c-1]++(b.drop p).take c).length=1+c:=by rw[ab,D];rfl
  have s:=wH g (by rw[ab,u];omega);rw[ab,u]at s;have m:nth d e=c-1:=ur g 0 (by omega);have r:∀i,i<c->nth d (e+1+i)=nth ((b.drop p).take c) i:=by intro i K;have:=ur g (1+i) (by omega);rw[<-cL]at this;rw[this];simp[nth,Nat.add_comm 1 i]
  have C:=dm g;rw[u]at C;refine⟨c,by omega,by omega,λx=>⟨e+1+c,by omega,by rw[<-C];congr 1;omega,?_⟩,λx=>?_⟩
  ·have:=KE (B:=B) (br:=br) (bd:=bd) (off:=off) (cap:=cap) (d:=d) (most:=most) (p:=e) (out:=b.take p) c ((b.drop p).take c) (by omega) (by omega) D (by omega) m r (by omega);rw[y]at this;exact this
  ·exact Kq c (by omega) (by omega) (by omega) m (by omega)
theorem Iv(b:List Nat)(q:∀E∈b,E<256)(u:d=jX b)(t:Rd B br bd off cap d most w 0 a [])(H:b.length<=most) :
  Calls Tryz.prog 115 #[.pointer (some ⟨br,0,none⟩)] w λr j=>r=.returned (.tuple #[])/\∃C,Rd B br bd off cap d most j d.length C b/\gD 5 B [br] w j:=by
 refine Iu (λf out=>∃p c,p<=b.length/\b.length-p<c/\out=b.take p/\d.drop f=iI c (b.drop p)++[128]) ?_ ⟨0,b.length+1,by omega,by omega,by simp,by rw[eB,eB,u,jX,lP]⟩ t;rintro f out ⟨p,c,I,G,rfl,e⟩ _;by_cases x:p<b.length
 ·obtain⟨g,rfl⟩:∃g,c=g+1:=⟨c-1,by omega⟩;obtain⟨y,J,z,h,i⟩:=DL (B:=B) (br:=br) (bd:=bd) (off:=off) (cap:=cap) (most:=most) q x e;have k:=gv h;have F:=gv i;clear h i;obtain⟨D,l,m,n⟩:=k.o (by omega);exact Or.inl ⟨D,_,l,⟨p+y,g,z,by omega,rfl,m⟩,n⟩
 ·obtain rfl:p=b.length:=by omega
  have s:iI c (b.drop b.length)=[]:=by
   cases c with
   |zero=>rfl
   |succ c=>unfold iI;rw[aA (by simp)]
  rw[s,cC]at e;have v:=wH e (by simp);simp only[ag,aw]at v;right;have:=Kh (B:=B) (br:=br) (bd:=bd) (off:=off) (cap:=cap) (d:=d) (most:=most) (p:=f) (out:=b.take b.length) (by omega) (ur (A:=[128]) (R:=[]) e 0 (by simp));rw[show f+1=d.length by omega]at this;rw[dM]at *;exact this
theorem Ir(b:List Nat)(q:∀D∈b,D<256)(u:d=jX b)(t:Rd B br bd off cap d most w 0 a [])(F:most<b.length) :
  Calls Tryz.prog 115 #[.pointer (some ⟨br,0,none⟩)] w λs C=>s=gU 6/\gD 5 B [br] w C:=by
 refine Au (λi out=>∃p c,p<=b.length/\b.length-p<c/\out=b.take p/\d.drop i=iI c (b.drop p)++[128]) ?_ ⟨0,b.length+1,by omega,by omega,by simp,by rw[eB,eB,u,jX,lP]⟩ t;rintro i out ⟨p,c,y,E,rfl,v⟩ x;rw[ax,dx y]at x;obtain⟨e,rfl⟩:∃e,c=e+1:=⟨c-1,by omega⟩;obtain⟨h,G,z,f,g⟩:=DL (B:=B) (br:=br) (bd:=bd) (off:=off) (cap:=cap) (most:=most) q (by omega) v;have j:=gv f;have k:=gv g;clear f g;by_cases r:p+h<=most
 ·obtain⟨A,l,m,n⟩:=j.o r;exact Or.inl ⟨A,_,l,⟨p+h,e,z,by omega,rfl,m⟩,n⟩
 ·exact Or.inr (k.o (by omega))
theorem CQ(b:List Nat)(z:∀F∈b,F<256)(D:d=iI (b.length+1) b)(j:Rd B br bd off cap d most w 0 a [])(I:b.length<=most) :
  Calls Tryz.prog 115 #[.pointer (some ⟨br,0,none⟩)] w λn v=>n=gU 5/\gD 5 B [br] w v:=by
 refine Au (λe out=>∃p c,p<=b.length/\b.length-p<c/\e<=d.length/\out=b.take p/\d.drop e=iI c (b.drop p)++[]) ?_ ⟨0,b.length+1,by omega,by omega,by omega,by simp,by rw[eB,eB,D,ct]⟩ j;rintro e out ⟨p,c,J,H,K,rfl,f⟩ _;by_cases E:p<b.length
 ·obtain⟨g,rfl⟩:∃g,c=g+1:=⟨c-1,by omega⟩;obtain⟨k,L,t,q,s⟩:=DL (B:=B) (br:=br) (bd:=bd) (off:=off) (cap:=cap) (most:=most) z E f;have x:=gv q;have G:=gv s;clear q s;obtain⟨u,y,l,m⟩:=x.o (by omega);by_cases A:u<=d.length;·exact Or.inl ⟨u,_,y,⟨p+k,g,t,by omega,A,rfl,l⟩,m⟩
  ·exact Or.inl ⟨d.length,b.take (p+k),by
    rcases bZ e d.length with i | i;·exact i
    ·exfalso;have:d.drop e=[]:=List.drop_eq_nil_of_le i;rw[this,ct]at f;have h:=cq List.length f;unfold iI at h;rw[au (by rw[aU];omega)]at h;split at h<;>simp at h,⟨p+k,g,t,by omega,af _,rfl,by rw[dY,<-l,List.drop_eq_nil_of_le (by omega)]⟩,λw a j=>by refine(m w a j).mono ?_;rintro n v ⟨_,M,r,_⟩;have:=r.lp;omega⟩
 ·obtain rfl:p=b.length:=by omega
  have C:iI c (b.drop b.length)=[]:=by
   cases c with
   |zero=>rfl
   |succ c=>unfold iI;rw[aA (by simp)]
  rw[C,cC]at f;have:e=d.length:=by have:=cq List.length f;simp at this;omega
  subst this;exact Or.inr Kd
theorem IL(b:List Nat):(jX b).dropLast=iI (b.length+1) b:=by rw[jX,lP,List.dropLast_concat]
end
end Go.Proofs.YtgkljcmjnphpeaaGreatDoor
