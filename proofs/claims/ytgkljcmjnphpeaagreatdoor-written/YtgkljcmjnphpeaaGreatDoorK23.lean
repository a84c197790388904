import Derived.Test.YtgkljcmjnphpeaaGreatDoorK22
set_option linter.unusedVariables false
set_option linter.unusedSimpArgs false
set_option maxHeartbeats 2000000
set_option maxRecDepth 100000
namespace Go.Proofs.YtgkljcmjnphpeaaGreatDoor
open Go.RowKit
section
variable{B br bf bd off cap:Nat}{d:List Nat}{most:Nat}{m:List Value}{w:World}{p C left f:Nat}{E:Value}{A:List Nat}
theorem Bi.putOne(e:Bi B br bf bd off cap d most m w p C left f E A){b:World}{a:Value}{c:Nat}(h:A.length+1<=most)
  (i:b.ownsRow B 5 1 a (A.length+1) ((A.map λc:Nat=>.int .u8 (c:Int))++[.int .u8 (c:Int)])) (g:w.grownBy b E.ownBlock) :
  Bi B br bf bd off cap d most m (b.setCell ⟨br,2,none⟩ a) p C left f a (A++[c])/\gD 5 B [br,bf] w (b.setCell ⟨br,2,none⟩ a):=by
 have r:=e.rd.put (xs:=[c]) h i g;have k:gD 5 B [br] w (b.setCell ⟨br,2,none⟩ a):=((gD.refl 5 B [br] w).grown g (nR e.rd.own)).setCell (p:=⟨br,2,none⟩) (by simp) a;exact⟨e.rdKept r k,k.mono (by simp)⟩
theorem Bi.alloc(a:Bi B br bf bd off cap d most m w p C left f E A)(b:Obj):Bi B br bf bd off cap d most m (w.alloc b) p C left f E A:=⟨a.rd.alloc b,a.hbf,l9 _ a.blk,a.hh,a.hl⟩
theorem Bi.putOne'(g:Bi B br bf bd off cap d most m w p C left f E A){a:World}{c:Value}{e:Nat}(o:A.length+1<=most)
  (j:a.ownsRow B 5 1 c (A.length+1) ((A.map λe:Nat=>.int .u8 (e:Int))++[.int .u8 (e:Int)])) (h:w.grownBy a E.ownBlock) :
  Bi B br bf bd off cap d most m (a.setCell ⟨br,2,none⟩ c) p C left f c (A++[e])/\gD 5 B [br,bf] w (a.setCell ⟨br,2,none⟩ c)/\a.cell? ⟨br,2,none⟩=some E/\a.frozen? ⟨br,2,none⟩=false/\∃l n,c=.slice l (A.length+1) n:=by
 obtain⟨k,b⟩:=g.putOne o j h;have i:=g.rd.grown_blk h;exact⟨k,b,cb i,nP i,i_ j⟩
theorem Bi.q0(a:Bi B br bf bd off cap d most m w p C left f E A){b:World}(e:w.grownBy b E.ownBlock):b.cell? ⟨bf,0,none⟩=some (.pointer (some ⟨br,0,none⟩)):=
 e.cell a.c0 (λc=>a.own_ne c.symm)
def sX(bf br c e:Nat)(h g i:Value)(b:Array Bool)(a:World):Prop:=
 a.cell? ⟨bf,0,none⟩=some h/\(b.getD 35 false=false->a.cell? ⟨br,2,none⟩=some g/\a.cell? ⟨c,e,none⟩=some i)
theorem sX.s1{bf br c g:Nat}{j h k:Value}{a:Array Bool}{b:World}{i:Nat}(l:i≠35)(e:sX bf br c g j h k a b):sX bf br c g j h k (a.setIfInBounds i true) b:=
 ⟨e.1,λn=>e.2 (by rwa [eL false l]at n)⟩
theorem sX.s2{bf br c g:Nat}{j h k:Value}{a:Array Bool}{b:World}{i:Nat}(l:i≠35)(e:sX bf br c g j h k (a.setIfInBounds i true) b):sX bf br c g j h k a b:=
 ⟨e.1,λn=>e.2 (by rwa [eL false l])⟩
theorem oY{i:Region.Mode}{k:Array Oper}{bf br e h:Nat}{c j l:Value}{g:Nat}{b:World}(a:ub i k (sX bf br e h c j l) g b):b.cell? ⟨bf,0,none⟩=some c:=by obtain⟨n,_,_,a⟩:=a;exact a.1
theorem B_{j:Region.Mode}{l:Array Oper}{bf br h i:Nat}{t k n:Value}{a:Nat}{c:World}(e:ub j l (sX bf br h i t k n) a c)(s:t_ j l a 40 35=true) :
  c.cell? ⟨br,2,none⟩=some k/\c.cell? ⟨h,i,none⟩=some n:=by
 obtain⟨b,o,r,e⟩:=e;refine e.2 ?_;cases q:b.getD 35 false with
 |false=>rfl
 |true =>
  have:=o.came 40 35 s q;have h3:b.getD a false=b.getD a true:=by
   rcases bZ a b.size with g | g;·simp[g]
   ·simp[cf g]at this
  rw[h3,r]at this;cases this
theorem gx{w:World}{c:Obj}{a:Addr}{e:Value}(b:w.cell? a=some e):((w.alloc c).drewN 1).cell? a=some e:=by show(w.alloc c).cell? a=_;rw[World.cell?_alloc_lt _ _ _ (aB w a b)];exact b
theorem oN{w:World}{e:Value}{g:TypeId}:∀b c,[e][b]?=some c->(w.alloc (.cells #[e] g)).drew.cell? ((⟨w.heap.size,0,none⟩:Addr).add b)=some c:=by
 intro b c a;match b,a with
 |0,a=>show(w.alloc _).cell? ⟨w.heap.size,0+0,none⟩=_;rw[World.cell?_alloc_new];exact a
 |b+1,a=>simp at a
theorem G2(r:Bi B br bf bd off cap d most m w p C left f E A)(len h:Nat)(h1:1<=h)(h2:h<=A.length)(h3:h<=f)(h4:A.length+len<=most)(h5:f<=32768) :
  Calls Tryz.prog 315 #[.pointer (some ⟨bf,0,none⟩),.int .i64 len,.int .i64 h] w λQ O=>Q=.returned (.tuple #[])/\∃s,Bi B br bf bd off cap d most m O p C left f s (jm h len A)/\gD 5 B [br,bf] w O:=by
 obtain⟨i0,hi,a0,a1,a2⟩:=bu Tryz.infoByte;have c0:=r.c0;have c3:=r.c3;have N:=r.rd.c2;have lm:=r.rd.lm;have al:=i_ r.rd.own;obtain⟨ao,oc,K⟩:=al;have Z:=gv K;rw[K]at N;clear K;rcases bZ f A.length with S | S;all_goals
  go_enter Tryz.func315,Tryz.ntmps315;go_wp2_with fail;go_quiet ((first | (go_at_call 63;exact cZ (pG _ _ _ _ (by omega) (by omega))) | (go_at_call 163;exact cZ (qL _))));go_wp2_with fail;refine(DJ (r.rd.drewN _) len h4).mono ?_;rintro Q O ⟨rfl,bm,rfl⟩;rw[<-Z.o]at N;clear S;go_wp2_with fail;go_loopw [31] (λL wr=>∃(k:Nat) (s:Value),k<=len/\L=.int .i64 k/\Bi B br bf bd off cap d most m wr p C left f s (jm h k A)/\gD 5 B [br,bf] w wr) (λL _=>len-(intOf L).toNat)
  case atStart=>exact⟨0,E,aE _,rfl,by simpa[jm]using (r.drewN _),by simpa using (gD.refl _ _ _ _).drewN _⟩
  case round =>
   clear N c0 c3;obtain⟨k,s,hk,rfl,n,W⟩:=hrel;have R:=qV h k A;by_cases a7:k<len
   ·have d0:=n.c0;have s2:=n.rd.c2;have sf:=n.rd.fz 2;have a9:=n.rd.sz;obtain⟨j,M,ad⟩:∃j G,s=.slice (some ⟨j,0,none⟩) (jm h k A).length G:=by
     rcases n.rd.own.2 with⟨_,e2⟩ | ⟨j,G,a6,e1,_⟩;·omega
     ·exact⟨j,G,e1⟩
    subst ad;have D:=n.rd.own.cellAt ((jm h k A).length-h) (by omega);rw[bj,ai (by omega)]at D;simp only[fX]at D;have HX:Hid (((jm h k A).map λa3:Nat=>Value.int .u8 (a3:Int))[(jm h k A).length-h]?=some (.int .u8 ((jm h k A)[(jm h k A).length-h]'(by omega):Nat))):=by unfold Hid;rw[bj,ai (by omega)];rfl
    have e1:jm h (k+1) A=jm h k A++[(jm h k A)[(jm h k A).length-h]'(by omega)]:=by rw[rS,bI,ai (by omega)];rfl
    have Y:=gv e1;clear e1;generalize hX:(jm h k A)[(jm h k A).length-h]'(by omega)=z at *;clear hX;generalize hO:jm h k A=i at *;clear hO;have a4:=gv R;have a8:h<=i.length:=by omega
    have ac:i.length+1<=most:=by omega
    clear R;have bc:IntKind.i64.wrap ((i.length:Int)-(h:Int))=((i.length-h:Nat):Int):=by rw[bP];omega
    have ba:((i.length-h:Nat):Int)<(i.length:Int):=by omega
    have bb:(0:Int)<=((i.length-h:Nat):Int):=by omega
    go_wp2_with fail;have y:=(n.alloc (.cells #[.int .u8 (z:Int)] 5)).drewN 1;refine p7 (sX bf br j (i.length-h) (.pointer (some ⟨br,0,none⟩)) (.slice (some ⟨j,0,none⟩) i.length M) (.int .u8 (z:Int))) (by kernel_rfl) ?_;intro a;have b:sX bf br j (i.length-h) (.pointer (some ⟨br,0,none⟩)) (.slice (some ⟨j,0,none⟩) i.length M) (.int .u8 (z:Int)) (Array.replicate 39 false) wr.drew:=⟨d0,λ_=>⟨s2,D⟩⟩;refine tk 0 ?_ a ?_ b ?_;rotate_left;·intro e c;have g:=oY c;clear c;go_simp;try(with_reducible rfl)
    clear a b;intro a b;(try simp only[iU])
    refine tk 1 ?_ a ?_ b ?_;rotate_left;·intro e c;have g:=oY c;clear c;go_simp;try(with_reducible rfl)
    clear a b;intro a b;(try simp only[iU])
    refine tk 2 ?_ a ?_ b ?_;rotate_left;·intro e c;have g:=oY c;clear c;go_simp;try(with_reducible rfl)
    clear a b;intro a b;(try simp only[iU])
    refine tk 3 ?_ a ?_ b ?_;rotate_left;·intro e c;have g:=oY c;clear c;go_simp;try(with_reducible rfl)
    clear a b;intro a b;(try simp only[iU])
    refine tk 4 ?_ a ?_ b ?_;rotate_left;·intro e c;have g:=oY c;clear c;go_simp;try(with_reducible rfl)
    clear a b;intro a b;(try simp only[iU])
    refine tk 5 ?_ a ?_ b ?_;rotate_left;·intro e c;have g:=oY c;clear c;go_simp;try(with_reducible rfl)
    clear a b;intro a b;(try simp only[iU])
    refine tk 6 ?_ a ?_ b ?_;rotate_left;·intro e c;have g:=oY c;clear c;go_simp;try(with_reducible rfl)
    clear a b;intro a b;(try simp only[iU])
    refine tk 7 ?_ a ?_ b ?_;rotate_left;·intro e c;have g:=oY c;clear c;go_simp;try(with_reducible rfl)
    clear a b;intro a b;(try simp only[iU])
    refine tk 8 ?_ a ?_ b ?_;rotate_left;·intro e c;have g:=oY c;clear c;go_simp;try(with_reducible rfl)
    clear a b;intro a b;(try simp only[iU])
    refine tk 9 ?_ a ?_ b ?_;rotate_left;·intro e c;have g:=oY c;clear c;go_simp;try(with_reducible rfl)
    clear a b;intro a b;(try simp only[iU])
    refine tk 10 ?_ a ?_ b ?_;rotate_left;·intro e c;have g:=oY c;clear c;go_simp;try(with_reducible rfl)
    clear a b;intro a b;(try simp only[iU])
    refine tk 11 ?_ a ?_ b ?_;rotate_left;·intro e c;have g:=oY c;clear c;go_simp;try(with_reducible rfl)
    clear a b;intro a b;(try simp only[iU])
    refine tk 12 ?_ a ?_ b ?_;rotate_left;·intro e c;have g:=oY c;have q:=B_ c (by kernel_rfl);obtain⟨u,H⟩:=q;clear c;go_simp;try(with_reducible rfl)
    clear a b;intro a b;(try simp only[iU])
    refine tk 13 ?_ a ?_ b ?_;rotate_left;·intro e c;have g:=oY c;clear c;go_simp;try(with_reducible rfl)
    clear a b;intro a b;(try simp only[iU])
    refine tk 14 ?_ a ?_ b ?_;rotate_left;·intro e c;have g:=oY c;clear c;go_simp;try(with_reducible rfl)
    clear a b;intro a b;(try simp only[iU])
    refine tk 15 ?_ a ?_ b ?_;rotate_left;·intro e c;have g:=oY c;clear c;go_simp;try(with_reducible rfl)
    clear a b;intro a b;(try simp only[iU])
    refine tk 16 ?_ a ?_ b ?_;rotate_left;·intro e c;have g:=oY c;clear c;go_simp;try(with_reducible rfl)
    clear a b;intro a b;(try simp only[iU])
    refine tk 17 ?_ a ?_ b ?_;rotate_left;·intro e c;have g:=oY c;clear c;go_simp;try(with_reducible rfl)
    clear a b;intro a b;(try simp only[iU])
    refine tk 18 ?_ a ?_ b ?_;rotate_left;·intro e c;have g:=oY c;clear c;go_simp;try(with_reducible rfl)
    clear a b;intro a b;(try simp only[iU])
    refine tk 19 ?_ a ?_ b ?_;rotate_left;·intro e c;have g:=oY c;clear c;go_simp;try(with_reducible rfl)
    clear a b;intro a b;(try simp only[iU])
    refine tk 20 ?_ a ?_ b ?_;rotate_left;·intro e c;have g:=oY c;have q:=B_ c (by kernel_rfl);obtain⟨u,H⟩:=q;clear c;go_simp;try(with_reducible rfl)
    clear a b;intro a b;(try simp only[iU])
    refine tk 21 ?_ a ?_ b ?_;rotate_left;·intro e c;have g:=oY c;clear c;go_simp;try(with_reducible rfl)
    clear a b;intro a b;(try simp only[iU])
    refine tk 22 ?_ a ?_ b ?_;rotate_left;·intro e c;have g:=oY c;clear c;go_simp;try(with_reducible rfl)
    clear a b;intro a b;(try simp only[iU])
    refine tk 23 ?_ a ?_ b ?_;rotate_left;·intro e c;have g:=oY c;clear c;go_simp;try(with_reducible rfl)
    clear a b;intro a b;(try simp only[iU])
    refine tk 24 ?_ a ?_ b ?_;rotate_left;·intro e c;have g:=oY c;clear c;go_simp;try(with_reducible rfl)
    clear a b;intro a b;(try simp only[iU])
    refine tk 25 ?_ a ?_ b ?_;rotate_left;·intro e c;have g:=oY c;clear c;go_simp;try(with_reducible rfl)
    clear a b;intro a b;(try simp only[iU])
    refine tk 26 ?_ a ?_ b ?_;rotate_left;·intro e c;have g:=oY c;clear c;go_simp;try(with_reducible rfl)
    clear a b;intro a b;(try simp only[iU])
    refine tk 27 ?_ a ?_ b ?_;rotate_left;·intro e c;have g:=oY c;clear c;go_simp;try(with_reducible rfl)
    clear a b;intro a b;(try simp only[iU])
    refine tk 28 ?_ a ?_ b ?_;rotate_left;·intro e c;have g:=oY c;have q:=B_ c (by kernel_rfl);obtain⟨u,H⟩:=q;clear c;go_simp;try(with_reducible rfl)
    clear a b;intro a b;(try simp only[iU])
    refine tk 29 ?_ a ?_ b ?_;rotate_left;·intro e c;have g:=oY c;clear c;go_simp;try(with_reducible rfl)
    clear a b;intro a b;(try simp only[iU])
    refine tk 30 ?_ a ?_ b ?_;rotate_left;·intro e c;have g:=oY c;clear c;go_simp;try(with_reducible rfl)
    clear a b;intro a b;(try simp only[iU])
    refine tk 31 ?_ a ?_ b ?_;rotate_left;·intro e c;have g:=oY c;clear c;go_simp;try(with_reducible rfl)
    clear a b;intro a b;(try simp only[iU])
    refine tk 32 ?_ a ?_ b ?_;rotate_left;·intro e c;have g:=oY c;clear c;go_simp;try(with_reducible rfl)
    clear a b;intro a b;(try simp only[iU])
    refine tk 33 ?_ a ?_ b ?_;rotate_left;·intro e c;have g:=oY c;have q:=B_ c (by kernel_rfl);obtain⟨u,H⟩:=q;clear c;go_simp;try(with_reducible rfl)
    clear a b;intro a b;(try simp only[iU])
    refine on 34 a λt l=>?_;go_simp;refine l.o _ _ ⟨y.c0,λ_=>⟨y.rd.c2,gx D⟩⟩ (λv x=>?_);clear a b l t;have a:=v;have b:=x;clear v x;refine on 35 a λt l=>?_;refine KV (by rfl) (.tmp 45) (.tmp 67) 23 (by rfl) B 5 i0 (.int .u8 0) 1 1 aq hi a0 a1 a2 rfl (by decide) j i.length M _ (by rfl) y.rd.own ⟨wr.heap.size,0,none⟩ 1 1 [.int .u8 (z:Int)] (by rfl) rfl oN (by intro bn U;simp at U;subst U;rfl) (by unfold maxLen;omega) (by omega) (by simp;omega) ?_;intro v' w1 T I _;obtain⟨F,P,k2,u,a5,bi,V⟩:=y.putOne' ac T I;have X:=y.q0 I;rw[V]at F P ⊢;clear T I V;refine l.o _ _ ⟨X,λJ=>absurd J (by simp)⟩ (λv x=>?_);clear a b l t;have a:=v;have b:=x;clear v x
    (try simp only[iU])
    refine tk 36 ?_ a ?_ b ?_;rotate_left;·intro e c;have g:=oY c;clear c;go_simp;try(with_reducible rfl)
    clear a b;intro a b;(try simp only[iU])
    refine tk 37 ?_ a ?_ b ?_;rotate_left;·intro e c;have g:=oY c;clear c;go_simp;try(with_reducible rfl)
    clear a b;intro a b;(try simp only[iU])
    refine on 38 a λt l=>?_;go_simp;refine l.o _ _ ⟨F.c0,λJ=>absurd J (by simp)⟩ (λ_ _=>?_);refine mI (by kernel_rfl) ?_ _;clear l t a b k2 u X;go_wp2;go_roundw
    case rel=>exact⟨k+1,_,by omega,by go_num,by rw[Y.o];exact F,W.trans ((((gD.refl _ _ _ _).alloc _).drewN 1).trans P)⟩
    case measure=>simp[intOf];omega
   ·obtain rfl:k=len:=by omega
    go_wp2
    go_end0
    exact⟨rfl,s,n,W⟩
def mK(B br bf bd off cap:Nat)(d:List Nat)(most:Nat)(m:List Value)(f:Nat)(c e:Nat)(a:j8)(w:World):Prop:=
 ∀b r E A,Fl B br bf bd off cap d most m b r f E A->gD 5 B [br,bf] w b->Cd b c e a.cs a.ss/\Cd b c (e+17) a.cd a.sd
theorem mK.kept{a c:Nat}{b:j8}{w':World}(e:mK B br bf bd off cap d most m f a c b w)(k:gD 5 B [br,bf] w w'):mK B br bf bd off cap d most m f a c b w' :=
 λi r E A g h=>e i r E A g (k.trans h)
structure CO(c:j8):Prop where
 s1:mZ c.cs 15<=c.ss.length
 l1:c.ss.length<=1000
 s2:mZ c.cd 15<=c.sd.length
 l2:c.sd.length<=1000
theorem JW(c e:Nat)(a:j8)(h:CO a)(s:mK B br bf bd off cap d most m f c e a w){j l:List Bool}(q:Fl B br bf bd off cap d most m w j f E A)
  (i:kj a.cs a.ss j=some (256,l)) :
  Calls Tryz.prog 278 #[.pointer (some ⟨bf,0,none⟩),.pointer (some ⟨c,e,none⟩)] w λg b=>g=.returned (.bool false)/\Fl B br bf bd off cap d most m b l f E A/\gD 5 B [br,bf] w b:=by
 have n:=gv i;clear i;go_enter gg,gd;go_wp2_with fail;go_region_with (go_at_call 313;refine(zr c e a.cs a.ss h.s1 h.l1 (λb r t k=>(s b r _ _ t (((gD.refl _ _ _ _).drew).trans k)).1) n.o q.drew).mono ?_;rintro g x ⟨rfl,u,v⟩);go_wp2;go_ret;exact⟨rfl,u,((gD.refl _ _ _ _).drew).trans v⟩
theorem JZ(e i:Nat)(a:j8)(l:CO a)(z:mK B br bf bd off cap d most m f e i a w){t u:List Bool}(y:Fl B br bf bd off cap d most m w t f E A)
  (b:Nat) (q:kj a.cs a.ss t=some (b,u)) (L:b<256) (H:A.length+1<=most) :
  Calls Tryz.prog 278 #[.pointer (some ⟨bf,0,none⟩),.pointer (some ⟨e,i,none⟩)] w λg c=>g=.returned (.bool true)/\∃j,Fl B br bf bd off cap d most m c u f j (A++[b])/\gD 5 B [br,bf] w c:=by
 have x:=gv q;clear q;go_enter gg,gd;go_wp2_with fail;go_region_with (go_at_call 313;refine(zr e i a.cs a.ss l.s1 l.l1 (λc r D k=>(z c r _ _ D (((gD.refl _ _ _ _).drew).trans k)).1) x.o y.drew).mono ?_;rintro g N ⟨rfl,F,I⟩);obtain⟨p,C,left,h,G,n⟩:=F;have K:=h.c0;have v:=gv n;clear n;have M:(b:Int)<256:=by omega
 go_wp2_with fail;refine(Gf h.rd b _ ?_ H).mono ?_;·first | rfl | omega
 rintro g O ⟨rfl,j,J,s⟩;go_wp2;go_ret;exact⟨rfl,j,⟨p,C,left,h.rdKept J s,G,v.o⟩,(((gD.refl _ _ _ _).drew).trans I).trans (s.mono (by simp))⟩
theorem Dh:∀a:Fin 286,257<=a.val->(gL a.val).2<=5/\(gL a.val).1<=258:=by decide +kernel
theorem CL:∀a:Fin 30,(gE a.val).2<=13/\(gE a.val).1<=24577/\1<=(gE a.val).1:=by decide +kernel
theorem JV(j n:Nat)(g:j8)(l:CO g)(G:mK B br bf bd off cap d most m f j n g w){ac W X Y Z:List Bool}(a0:Fl B br bf bd off cap d most m w ac f E A)
  (a q c i:Nat) (K:kj g.cs g.ss ac=some (a,W)) (y:257<=a) (a2:a<=285) (M:kJ (gL a).2 W=some (q,X)) (L:kj g.cd g.sd X=some (c,Y)) (a3:c<=29)
  (N:kJ (gE c).2 Y=some (i,Z)) (z:(gE c).1+i<=A.length) (D:(gE c).1+i<=f) (F:A.length+((gL a).1+q)<=most) (hw:f<=32768) :
  Calls Tryz.prog 278 #[.pointer (some ⟨bf,0,none⟩),.pointer (some ⟨j,n,none⟩)] w λb h=>b=.returned (.bool true)/\∃x,Fl B br bf bd off cap d most m h Z f x (jm ((gE c).1+i) ((gL a).1+q) A)/\gD 5 B [br,bf] w h:=by
 have HS:=gv K;have HT:=gv L;have u:=Dh ⟨a,by omega⟩ y;have v:=CL ⟨c,by omega⟩;simp only[]at u v;obtain⟨x1,x2,x3⟩:=nH M;obtain⟨y1,y2,y3⟩:=nH N;have X2:=gv x2;have X3:=gv x3;have Y2:=gv y2;have Y3:=gv y3;have e:=gv (And.intro z (And.intro D (And.intro F (And.intro u (And.intro v (And.intro x1 y1))))));clear K L M N x2 x3 y2 y3 z D F u v x1 y1;have ad:(257:Int)<=(a:Int):=by omega
 have al:(a:Int)<=285:=by omega
 have ao:(c:Int)<=29:=by omega
 have e1:((a:Int)==256)=false:=by simp;omega
 go_enter gg,gd;go_wp2_with fail;go_region_with (go_at_call 313;refine(zr j n g.cs g.ss l.s1 l.l1 (λh r s k=>(G h r _ _ s (((gD.refl _ _ _ _).drew).trans k)).1) HS.o a0.drew).mono ?_;rintro b w1 ⟨rfl,a4,O⟩);have S:=((gD.refl 5 B [br,bf] w).drew).trans O;clear O;go_wp2_with fail;refine(pG _ _ _ _ ad al).mono ?_;rintro b h ⟨rfl,rfl⟩;go_wp2_with fail;refine(qL _).mono ?_;rintro b h ⟨rfl,rfl⟩;go_wp2_with fail;refine(Cf a y a2 _).mono ?_;rintro b w2 ⟨rfl,U,rfl⟩;go_wp2_with fail;refine(Cx (gL a) (by have:=e.o;omega) (by have:=e.o;omega) e.o.2.2.2.2.2.1 (a4.alloc U)).mono ?_;rintro b w3 ⟨rfl,H,P⟩;rw[<-X3.o]at H;have t:=(S.alloc U).trans P;clear S P;rw[<-X2.o];go_wp2_with fail;go_region_with (go_at_call 313;refine(zr j (n+17) g.cd g.sd l.s2 l.l2 (λh r s k=>(G h r _ _ s ((t.drew).trans k)).2) HT.o H.drew).mono ?_;rintro b w4 ⟨rfl,a5,Q⟩);have T:=(t.drew).trans Q;clear t Q;go_wp2_with fail;refine(pG _ _ _ _ (by omega) ao).mono ?_;rintro b h ⟨rfl,rfl⟩;go_wp2_with fail;refine(qL _).mono ?_;rintro b h ⟨rfl,rfl⟩;go_wp2_with fail;refine(BP c a3 _).mono ?_;rintro b w5 ⟨rfl,V,rfl⟩;go_wp2_with fail;refine(Cx (gE c) (by have:=e.o;omega) (by have:=e.o;omega) e.o.2.2.2.2.2.2 (a5.alloc V)).mono ?_;rintro b w6 ⟨rfl,I,R⟩;rw[<-Y3.o]at I;have a6:=(T.alloc V).trans R;clear T R;rw[<-Y2.o];obtain⟨p,C,left,hb,hl,J⟩:=I;have HR:=gv J;clear J;go_wp2_with fail;refine(G2 hb ((gL a).1+q) ((gE c).1+i) (by have:=e.o;omega) e.o.1 e.o.2.1 e.o.2.2.1 hw).mono ?_;rintro b w7 ⟨rfl,x,h7,k7⟩;go_wp2;go_ret;exact⟨rfl,x,⟨p,C,left,h7,hl,HR.o⟩,a6.trans k7⟩
theorem DA(h j:Nat)(c:j8)(z:CO c)(y:mK B br bf bd off cap d most m f h j c w){D K:List Bool}{J:List Nat}{b:Bool}(u:Fl B br bf bd off cap d most m w D f E A)
  (M:f<=32768) (a:jB c f most D A=.ok (b,K,J)) :
  Calls Tryz.prog 278 #[.pointer (some ⟨bf,0,none⟩),.pointer (some ⟨h,j,none⟩)] w λI F=>I=.returned (.bool b)/\∃N,Fl B br bf bd off cap d most m F K f N J/\gD 5 B [br,bf] w F:=by
 unfold jB at a;cases i:kj c.cs c.ss D with
 |none=>rw[i]at a;cases a
 |some g =>
  obtain⟨e,O⟩:=g;rw[i]at a;simp only[]at a;by_cases r:e<256
  ·rw[aA r]at a;by_cases q:A.length+1<=most
   ·rw[aA q]at a;cases a;exact JZ h j c z y u e i r q
   ·rw[au q]at a;cases a
  rw[au r]at a;by_cases s:e=256
  ·rw[aA s]at a;cases a;subst s;refine(JW h j c z y u i).mono ?_;rintro I F ⟨rfl,L,k⟩;exact⟨rfl,E,L,k⟩
  rw[au s]at a;by_cases G:285<e;·rw[aA G]at a;cases a
  rw[au G]at a;cases v:kJ (gL e).2 O with
  |none=>rw[v]at a;cases a
  |some g =>
   obtain⟨g,P⟩:=g;rw[v]at a;simp only[]at a;cases h3:kj c.cd c.sd P with
   |none=>rw[h3]at a;cases a
   |some n =>
    obtain⟨l,Q⟩:=n;rw[h3]at a;simp only[]at a;by_cases H:29<l;·rw[aA H]at a;cases a
    rw[au H]at a;cases x:kJ (gE l).2 Q with
    |none=>rw[x]at a;cases a
    |some R =>
     obtain⟨n,S⟩:=R;rw[x]at a;simp only[]at a;by_cases o:(gE l).1+n<=A.length/\(gE l).1+n<=f
     ·rw[aA o]at a;by_cases t:A.length+((gL e).1+g)<=most
      ·rw[aA t]at a;cases a;exact JV h j c z y u e g l n i (by omega) (by omega) v h3 (by omega) x o.1 o.2 t M
      ·rw[au t]at a;cases a
     ·rw[au o]at a;cases a
def bO(br bf:Nat)(a:Nat)(w:World):Nat:=8*(a-posOf br w)+(intOf ((w.cell? ⟨bf,2,none⟩).getD undef)).toNat
theorem Fl.measure{b:List Bool}(c:Fl B br bf bd off cap d most m w b f E A):bO br bf d.length w=b.length:=by obtain⟨p,C,left,a,g,e⟩:=c;have:=a.rd.lp;rw[<-e,bL,ab,gN,gM,aU,bO,a.rd.posOf,a.c2];simp[intOf];omega
theorem H_(c h:Nat)(a:j8)(x:CO a)(v:mK B br bf bd off cap d most m f c h a w){t u:List Bool}{q:List Nat}(I:Fl B br bf bd off cap d most m w t f E A)
  (z:f<=32768) (L:iy a f most t A (.ok (u,q))) :
  Calls Tryz.prog 223 #[.pointer (some ⟨bf,0,none⟩),.pointer (some ⟨c,h,none⟩)] w λj D=>j=.returned (.tuple #[])/\∃i,Fl B br bf bd off cap d most m D u f i q/\gD 5 B [br,bf] w D:=by
 go_enter Tryz.func223,Tryz.ntmps223;go_wp2;go_loopw [6] (λ_ wr=>∃(r:List Bool) (o:List Nat) (i:Value),Fl B br bf bd off cap d most m wr r f i o/\Hid (iy a f most r o (.ok (u,q)))/\gD 5 B [br,bf] w wr) (λ_ wr=>bO br bf d.length wr)
 case atStart=>exact⟨t,A,E,I,L,gD.refl _ _ _ _⟩
 case round =>
  obtain⟨r,o,i,k,G,g⟩:=hrel;have J:=gv k.measure;rcases G.o.parted with⟨e1,b,l⟩ | ⟨O,N,b,l⟩ | ⟨O,N,b,y⟩;·cases l
  ·cases l;go_wp2_with fail;refine(DA c h a x (v.kept g) k z b).mono ?_;rintro j P ⟨rfl,s,e,n⟩;go_wp2
   go_end0
   exact⟨rfl,s,e,g.trans n⟩
  ·have H:=gv y;have M:=oU b;have F:=gv b;clear y b;go_wp2_with fail;refine(DA c h a x (v.kept g) k z F.o).mono ?_;rintro j P ⟨rfl,s,e,n⟩;have K:=gv e.measure;go_wp2;go_roundw
   case rel=>exact⟨_,_,s,e,H,g.trans n⟩
   case measure=>rw[J.o,K.o];exact M
theorem Hj(a b:Nat)(e:a<256)(g:b<256)(c:js a=js b):a=b:=by rw[<-nI a e,<-nI b g,c]
theorem EW:∀(c b:List Nat),c.length=b.length->(∀a,a<c.length->nth c a<256)->(∀a,a<b.length->nth b a<256)->gJ c=gJ b->c=b
 | [],[],_,_,_,_=>rfl
 | [],_::_,e,_,_,_=>by simp at e
 |_::_,[],e,_,_,_=>by simp at e
 |j::c,k::b,l,h,i,e=>by rw[lk,lk]at e;have h3:=List.append_inj e rfl;have e1:j=k:=Hj j k (h 0 (by simp)) (i 0 (by simp)) h3.1;have e2:c=b:=EW c b (by simpa using l) (λa g=>h (a+1) (by simpa using g)) (λa g=>i (a+1) (by simpa using g)) h3.2;rw[e1,e2]
theorem Ak(b c a:Nat):(⟨b,c,none⟩:Addr).add a=⟨b,c+a,none⟩:=by unfold Addr.add;split<;>simp_all
theorem Bi.bytes(g:Bi B br bf bd off cap d most m w p C 0 f E A)(a:List Nat)(l:∀b,b<a.length->nth a b<256)(i:List Bool)(e:gJ (d.drop p)=gJ a++i) :
  p+a.length<=d.length/\(∀b,b<a.length->nth d (p+b)=nth a b)/\gJ (d.drop (p+a.length))=i:=by
 have q:=g.rd.lp;have n:p+a.length<=d.length:=by have:=cq List.length e;rw[gM,ab,gM,aU]at this;omega
 have j:d.drop p=(d.drop p).take a.length++d.drop (p+a.length):=by rw[<-eA,cI]
 rw[j,i7]at e;have o:(gJ ((d.drop p).take a.length)).length=(gJ a).length:=by rw[gM,gM,ax,aU];omega
 have h:=List.append_inj e o;have k:(d.drop p).take a.length=a:=by refine EW _ _ (by rw[ax,aU];omega) ?_ l h.1;intro b c;rw[ax,aU]at c;have:=g.rd.byt (p+b) (by omega);simpa[nth,cR,dC,show b<a.length by omega]using this
 refine⟨n,?_,h.2⟩;intro b c;rw[<-k];simp[nth,cR,dC,c]
theorem Fl.whole{a:List Bool}(c:Fl B br bf bd off cap d most m w a f E A)(e:a.length%8=0):∃p C,Bi B br bf bd off cap d most m w p C 0 f E A/\gJ (d.drop p)=a:=by
 obtain⟨p,C,left,g,h,b⟩:=c;have:left=0:=by rw[<-b,bL,ab,gN,gM]at e;omega
 subst this;exact⟨p,C,g,by rw[<-b];simp[bL,gw]⟩
theorem xl(a b:Nat)(j:a<=16)(l:b<2^a){h:List Bool}(i:Fl B br bf bd off cap d most m w (gw a b++h) f E A) :
  Calls Tryz.prog 221 #[.pointer (some ⟨bf,0,none⟩),.int .i64 a] w λe c=>e=.returned (.int .i64 b)/\Fl B br bf bd off cap d most m c h f E A/\gD 5 B [br,bf] w c:=by
 refine(E5 a j (by simp[gN]) i).mono ?_;rintro e c ⟨rfl,g,k⟩;rw[ed (gN a b)]at g;rw[List.take_left' (gN a b),pA,ew l];exact⟨rfl,g,k⟩
theorem Ll(a:List Nat)(O:0<a.length)(ac:a.length<=65535)(N:∀c,c<a.length->nth a c<256){j e:List Bool}(l:Fl B br bf bd off cap d most m w j f E A)
  (x:j.drop (j.length%8)=gw 16 a.length++(gw 16 (65535-a.length)++(gJ a++e))) (q:e.length%8=0) (R:A.length+a.length<=most) :
  Calls Tryz.prog 222 #[.pointer (some ⟨bf,0,none⟩)] w λb k=>b=.returned (.tuple #[])/\∃T,Fl B br bf bd off cap d most m k e f T (A++a)/\gD 5 B [br,bf] w k:=by
 have K:=gv x;have J:=gv q;clear x q;have tok:True:=trivial;go_enter Tryz.func222,Tryz.ntmps222;go_wp2_with fail;refine(BJ l).mono ?_;rintro b Y ⟨rfl,⟨V,P,r,i⟩,y⟩;rw[K.o]at i;have s:Fl B br bf bd off cap d most m Y (gw 16 a.length++(gw 16 (65535-a.length)++(gJ a++e))) f E A:=⟨V,P,0,r,by omega,by rw[<-i];simp[bL,gw]⟩;clear r i l;go_wp2_with fail;go_region_with (first | (go_at_call 221;have Z:=tok;refine(xl 16 a.length (by omega) (by omega) s.drew).mono ?_;rintro b w2 ⟨rfl,t,z⟩;clear tok) | (go_at_call 221;refine(xl 16 (65535-a.length) (by omega) (by omega) t).mono ?_;rintro b w3 ⟨rfl,u,D⟩));have S:=(y.drew.trans z).trans D;clear y z D s t;have e1:((65535-a.length:Nat):Int)=65535-(a.length:Int):=by omega
 rw[e1];go_wp2_with fail;refine(qL _).mono ?_;rintro b k ⟨rfl,rfl⟩;obtain⟨p,C,g,v⟩:=u.whole (by rw[ab,gM];have:=J.o;omega);obtain⟨W,H,I⟩:=g.bytes a N e v;have L:=gv H;have M:=gv I;clear H I v u;have c0:=g.c0;go_wp2_with fail;go_region_with (first | (go_at_call 164;refine(Ae (g.rd.drewN 1) a.length O W).mono ?_;rintro b w4 ⟨rfl,h,F⟩;have n:=g.rdKept h (((gD.refl _ _ _ _).drewN 1).trans F);have c4:=n.c0) | (go_at_call 213;refine(zZ h a ⟨bd,off+p,none⟩ (cap-p) R (by have:=h.sz;omega) (λc Q=>by rw[Ak,<-L.o c Q,cL];exact h.dat (p+c) (by omega))).mono ?_;rintro b w5 ⟨rfl,U,X,G⟩));all_goals go_wp2
 all_goals go_end0
 all_goals exact⟨rfl,U,⟨p+a.length,C,0,n.rdKept X G,by omega,by rw[<-M.o];simp[bL,gw]⟩,(S.drewN 1).trans ((F.trans G).mono (by simp))⟩
def jb(a:List Nat):List Value:=a.map λb:Nat=>.int .i64 (b:Int)
def j9(w:World)(g:Nat)(c:List Nat):Prop:=∃b e,w.heap[g]?=some (.cells b 3 e)/\∀a,a<c.length->b[a]?=some (.int .i64 (nth c a:Nat))
theorem j9.kept{a:Nat}{b:List Nat}{w':World}{S:List Nat}(h:j9 w a b)(k:gD 5 B S w w')(i:a∉S):j9 w' a b:=by obtain⟨c,g,j,l⟩:=h;exact⟨c,g,k.block a _ i j (Or.inr (by intro n o e;simp at e)),l⟩
theorem j9.cell{c:Nat}{b:List Nat}(e:j9 w c b)(a:Nat)(i:a<b.length):w.cell? ⟨c,a,none⟩=some (.int .i64 (nth b a:Nat)):=by obtain⟨j,k,g,h⟩:=e;rw[cb g];exact h a i
structure sW(w:World)(br bf:Nat)(m:List Value):Prop where
 ex:∃g1 c1 g2 c2,m=jb lG++(.slice (some ⟨g1,0,none⟩) kN.length c1::(jb lF++[.slice (some ⟨g2,0,none⟩) kM.length c2]))/\j9 w g1 kN/\j9 w g2 kM/\g1≠br/\g1≠bf/\g2≠br/\g2≠bf
theorem CJ:lG.length=16:=by decide +kernel
theorem yq:lF.length=16:=by decide +kernel
theorem fO:CO ij:=by
 refine⟨?_,?_,?_,?_⟩;·rw[nC,mC];decide +kernel
 ·rw[mC];decide +kernel
 ·rw[oM,nD];decide +kernel
 ·rw[nD];decide +kernel
theorem ig(b:List Nat)(a:Nat)(c:a<b.length):(jb b)[a]?=some (.int .i64 (nth b a:Nat)):=by simp[jb,nth,c]
theorem sW.codes(n:sW w br bf m):mK B br bf bd off cap d most m f bf 4 ij w:=by
 intro K r E A q k;obtain⟨j,h,l,i,c,u,v,G,H,I,J⟩:=n.ex;obtain⟨p,C,left,o,P,Q⟩:=q;have x:=u.kept k (by simp[G,H]);have y:=v.kept k (by simp[I,J]);have b:∀a g,m[a]?=some g->K.cell? ⟨bf,4+a,none⟩=some g:=by intro a g t;rw[cb o.blk,Nat.add_comm 4 a];simpa using t
 have z:=CJ;have D:=yq;have e:(jb lG).length=16:=by simpa[jb]using z
 have F:(jb lF).length=16:=by simpa[jb]using D
 rw[nC,mC,oM,nD];generalize lG=M at *;generalize kN=O at *;generalize lF=L at *;generalize kM=N at *;refine⟨⟨?_,j,h,?_,x.cell⟩,⟨?_,l,i,?_,y.cell⟩⟩
 ·intro a s;refine b a _ ?_;rw[c,aI (by omega)];exact ig _ _ (by omega)
 ·refine b 16 _ ?_;rw[c,ar (by omega),e];rfl
 ·intro a s;rw[show 4+17+a=4+(17+a)by omega];refine b (17+a) _ ?_;rw[c,ar (by omega),e,show 17+a-16=a+1 by omega,d9,aI (by omega)];exact ig _ _ (by omega)
 ·rw[show 4+17+16=4+33 by omega];refine b 33 _ ?_;rw[c,ar (by omega),e,show 33-16=16+1 by omega,d9,ar (by omega),F];rfl
theorem Hh(b:Bool)(u:sW w br bf m){i j:List Bool}{h:List Nat}(n:Fl B br bf bd off cap d most m w (b::(gw 2 1++i)) f E A)
  (t:f<=32768) (c:iy ij f most i A (.ok (j,h))) :
  Calls Tryz.prog 161 #[.pointer (some ⟨bf,0,none⟩)] w λa k=>a=.returned (.bool (!b))/\∃x,Fl B br bf bd off cap d most m k j f x h/\gD 5 B [br,bf] w k:=by
 have l:=gv c;clear c;cases b;all_goals
  go_enter Tryz.func161,gn;go_wp2_with fail;refine(zQ n).mono ?_;rintro a z ⟨rfl,q,e⟩;simp only[Bool.toNat_false,Bool.toNat_true];go_wp2_with fail;refine(xl 2 1 (by omega) (by omega) q).mono ?_;rintro a D ⟨rfl,r,g⟩;go_wp2_with fail;refine(H_ bf 4 ij fO (u.codes.kept (e.trans g)) r t l.o).mono ?_;rintro a F ⟨rfl,y,s,v⟩;go_wp2;go_ret;exact⟨rfl,y,s,(e.trans g).trans v⟩
theorem E6(b:Bool)(a:List Nat)(s:0<a.length)(t:a.length<=65535)(r:∀j,j<a.length->nth a j<256){e g:List Bool}(q:Fl B br bf bd off cap d most m w (b::(gw 2 0++e)) f E A)
  (i:e.drop (e.length%8)=gw 16 a.length++(gw 16 (65535-a.length)++(gJ a++g))) (h:g.length%8=0) (y:A.length+a.length<=most) :
  Calls Tryz.prog 161 #[.pointer (some ⟨bf,0,none⟩)] w λc k=>c=.returned (.bool (!b))/\∃G,Fl B br bf bd off cap d most m k g f G (A++a)/\gD 5 B [br,bf] w k:=by
 have n:=gv i;have l:=gv h;clear i h;cases b;all_goals
  go_enter Tryz.func161,gn;go_wp2_with fail;refine(zQ q).mono ?_;rintro c I ⟨rfl,u,z⟩;simp only[Bool.toNat_false,Bool.toNat_true];go_wp2_with fail;refine(xl 2 0 (by omega) (by omega) u).mono ?_;rintro c J ⟨rfl,v,D⟩;go_wp2_with fail;refine(Ll a s t r v n.o l.o y).mono ?_;rintro c K ⟨rfl,H,x,F⟩;go_wp2;go_ret;exact⟨rfl,H,x,(z.trans D).trans F⟩
end
end Go.Proofs.YtgkljcmjnphpeaaGreatDoor
