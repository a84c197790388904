import Derived.Test.YtgkljcmjnphpeaaGreatDoorK26
import Derived.Laws.AppendOwnNone
set_option linter.unusedVariables false
set_option linter.unusedSimpArgs false
set_option maxHeartbeats 2000000
set_option maxRecDepth 100000
namespace Go.Proofs.YtgkljcmjnphpeaaGreatDoor
open Go.RowKit
section
variable{w:World}{B cap:Nat}{ao:Option Addr}
def jZ(b:List Nat):Nat->Nat->Nat
 |0,a=>a
 |c+1,a=>if a<b.length/\a<128/\nth b a=nth b 0 then jZ b c (a+1)else a
def iY(a:List Nat):Nat:=jZ a 128 1
def kT(b:List Nat):Nat->Nat->Nat
 |0,a=>a
 |c+1,a=>if a<b.length/\a<128/\¬ (a+1<b.length/\nth b a=nth b (a+1))then kT b c (a+1)else a
def jH(a:List Nat):Nat:=kT a 129 0
def jP:Nat->List Nat->List Nat
 |0,_=>[128]
 |b+1,a=>if a.length=0 then[128]else if 1<iY a then(257-iY a)::nth a 0::jP b (a.drop (iY a))else(jH a-1)::(a.take (jH a)++jP b (a.drop (jH a)))
def jX(a:List Nat):List Nat:=jP (a.length+1) a
theorem rq:jX [97,97,98]=[255,97,0,98,128]:=by decide +kernel
theorem sq(b:List Nat):∀c a,a<=128->a<=b.length->a<=jZ b c a/\jZ b c a<=128/\jZ b c a<=b.length
 |0,a,d,e=>⟨af _,d,e⟩
 |c+1,a,d,e=>by
  unfold jZ;split
  ·rename_i f;have:=sq b c (a+1) (by omega) (by omega);omega
  ·exact⟨af _,d,e⟩
theorem vt(b:List Nat):∀e c,(∀a,a<c->nth b a=nth b 0)->∀a,a<jZ b e c->nth b a=nth b 0
 |0,c,d=>d
 |e+1,c,d=>by
  unfold jZ;split
  ·rename_i f;exact vt b e (c+1) (λa h=>by
    by_cases g:a=c;·subst g;exact f.2.2
    ·exact d a (by omega))
  ·exact d
theorem uU(b:List Nat):∀c a,a<=128->a<=b.length->a<=kT b c a/\kT b c a<=128/\kT b c a<=b.length
 |0,a,d,e=>⟨af _,d,e⟩
 |c+1,a,d,e=>by
  unfold kT;split
  ·rename_i f;have:=uU b c (a+1) (by omega) (by omega);omega
  ·exact⟨af _,d,e⟩
theorem mS(a:List Nat)(b:0<a.length):1<=iY a/\iY a<=128/\iY a<=a.length:=sq a 128 1 (by omega) b
theorem oO(a:List Nat)(c:0<a.length)(e:¬ 1<iY a):1<=jH a/\jH a<=128/\jH a<=a.length:=by
 have d:¬ (0+1<a.length/\nth a 0=nth a (0+1)):=by rintro⟨f,b⟩;apply e;unfold iY;rw[jZ,aA ⟨by omega,by omega,b.symm⟩];have:=sq a 127 (1+1) (by omega) (by omega);omega
 unfold jH;rw[kT,aA ⟨c,by omega,d⟩];have:=uU a 128 (0+1) (by omega) (by omega);omega
def pO(a:List Nat)(b:Nat):Prop:=b+1<a.length/\nth a b=nth a (b+1)
theorem JP{a:List Nat}(f:nA w B ao a)(o:a.length<=1000000)(c:Nat)(j:pO a c) :
  Calls Tryz.prog 201 #[.slice ao a.length cap,.int .i64 c] w λh l=>h=.returned (.bool true)/\∃k,l=w.drewN k:=by
 obtain⟨i,e⟩:=j;obtain⟨b,p,rfl,_,d⟩:=f.at (by omega);have g:=d c (by omega);have n:=d (c+1) i;rw[e]at g;have q:decide ((c:Int)+1<a.length)=true:=by simp;omega
 generalize nth a (c+1)=m at *;clear d f e;go_enter Tryz.func201,Tryz.ntmps201;go_wp2_with fail;go_quiet (fail);go_wp2;go_ret;exact⟨rfl,nq,rfl⟩
theorem JO{a:List Nat}(g:nA w B ao a)(q:a.length<=1000000)(c:Nat)(r:c<a.length)(h:¬ pO a c) :
  Calls Tryz.prog 201 #[.slice ao a.length cap,.int .i64 c] w λd l=>d=.returned (.bool false)/\∃j,l=w.drewN j:=by
 by_cases f:c+1<a.length
 ·have i:nth a c≠nth a (c+1):=λd=>h ⟨f,d⟩;obtain⟨b,s,rfl,_,e⟩:=g.at (by omega);have o:=e c (by omega);have p:=e (c+1) f;have k:decide ((c:Int)+1<a.length)=true:=by simp;omega
  have t:((nth a c:Int)==(nth a (c+1):Int))=false:=by simp;omega
  generalize nth a (c+1)=m at *;generalize nth a c=n at *;clear e g i h;go_enter Tryz.func201,Tryz.ntmps201;go_wp2_with fail;go_quiet (fail);go_wp2;go_ret;exact⟨rfl,nq,rfl⟩
 ·have k:decide ((c:Int)+1<a.length)=false:=by simp;omega
  go_enter Tryz.func201,Tryz.ntmps201;go_wp2_with fail;go_quiet (fail);go_wp2;go_ret;exact⟨rfl,nq,rfl⟩
theorem Eb{a:List Nat}{k:Nat}(c:k<=128)(b:k<a.length/\k<128/\nth a k=nth a 0):jZ a (129-k) k=jZ a (129-(k+1)) (k+1):=by rw[show 129-k=(129-(k+1))+1 by omega,jZ,aA b]
theorem DT{a:List Nat}{k:Nat}(c:k<=128)(b:¬ (k<a.length/\k<128/\nth a k=nth a 0)):jZ a (129-k) k=k:=by rw[show 129-k=(128-k)+1 by omega,jZ,au b]
theorem Dn{a:List Nat}{k:Nat}(c:k<=128)(b:k<a.length/\k<128/\¬ pO a k):kT a (129-k) k=kT a (129-(k+1)) (k+1):=by unfold pO at b;rw[show 129-k=(129-(k+1))+1 by omega,kT,aA b]
theorem Dm{a:List Nat}{k:Nat}(c:k<=128)(b:¬ (k<a.length/\k<128/\¬ pO a k)):kT a (129-k) k=k:=by unfold pO at b;rw[show 129-k=(128-k)+1 by omega,kT,au b]
theorem D_{a:List Nat}(t:nA w B ao a)(G:a.length<=1000000)(E:B<=w.heap.size)(i:0<a.length) :
  Calls Tryz.prog 145 #[.slice ao a.length cap] w λz D=>z=.returned (.int .i64 (iY a:Nat))/\Below w.heap.size w D:=by
 have o:Hid (jZ a (129-1) 1=iY a):=gv rfl;generalize iY a=v at *;obtain⟨b,l,rfl,F,s⟩:=t.at i;have n:=gv s;clear s t;go_enter Tryz.func145,Tryz.ntmps145;go_wp2;go_loopw [3] (λj wr=>∃k:Nat,1<=k/\k<=128/\k<=a.length/\j=.int .i64 k/\Hid (jZ a (129-k) k=v)/\Below w.heap.size w wr) (λj _=>128-(intOf j).toNat)
 case atStart=>exact⟨1,by omega,by omega,i,rfl,o,aj _ _⟩
 clear o
 case round =>
  obtain⟨k,H,h,I,rfl,c,bl⟩:=hrel;by_cases m:k<a.length
  ·have A:decide ((k:Int)<a.length)=true:=by simp;omega
   by_cases u:k<128
   ·have C:decide ((k:Int)<128)=true:=by simp;omega
    have q:=(bl.cell (p:=⟨b,l+k,none⟩) (by show b<_;omega)).trans (n.o k m);have r:wr.cell? ⟨b,l,none⟩=some (.int .u8 (nth a 0:Nat)):=(bl.cell (p:=⟨b,l,none⟩) (by show b<_;omega)).trans (n.o 0 i);by_cases f:nth a k=nth a 0
    ·have d:=gv ((Eb h ⟨m,u,f⟩).symm.trans c.o);have g:((nth a k:Int)==(nth a 0:Int))=true:=by simp[f]
     generalize nth a k=x at q g;generalize nth a 0=y at r g;clear f c;go_wp2_with fail;go_quiet (fail);go_wp2;go_roundw
     case rel=>exact⟨k+1,by omega,by omega,by omega,by go_num,d,p9 bl _⟩
     case measure=>simp[intOf];omega
    ·have d:=gv ((DT h (λe=>f e.2.2)).symm.trans c.o);have g:((nth a k:Int)==(nth a 0:Int))=false:=by simp;omega
     generalize nth a k=x at q g;generalize nth a 0=y at r g;clear f c;go_wp2_with fail;go_quiet (fail);go_wp2;go_ret;exact⟨ri (by rw[d.o]),p9 bl _⟩
   ·have d:=gv ((DT h (λe=>u e.2.1)).symm.trans c.o);have C:decide ((k:Int)<128)=false:=by simp;omega
    clear c;go_wp2_with fail;go_quiet (fail);go_wp2;go_ret;exact⟨ri (by rw[d.o]),p9 bl _⟩
  ·have d:=gv ((DT h (λe=>m e.1)).symm.trans c.o);have A:decide ((k:Int)<a.length)=false:=by simp;omega
   clear c;go_wp2_with fail;go_quiet (fail);go_wp2;go_ret;exact⟨ri (by rw[d.o]),p9 bl _⟩
theorem Jo{a:List Nat}(n:nA w B ao a)(p:a.length<=1000000)(z:B<=w.heap.size) :
  Calls Tryz.prog 146 #[.slice ao a.length cap] w λh x=>h=.returned (.int .i64 (jH a:Nat))/\Below w.heap.size w x:=by
 have m:Hid (kT a (129-0) 0=jH a):=gv rfl;generalize jH a=s at *;have r:=gv n;clear n;go_enter Tryz.func146,Tryz.ntmps146;go_wp2;go_loopw [3] (λi wr=>∃k:Nat,k<=128/\k<=a.length/\i=.int .i64 k/\Hid (kT a (129-k) k=s)/\Below w.heap.size w wr) (λi _=>128-(intOf i).toNat)
 case atStart=>exact⟨0,by omega,by omega,rfl,m,aj _ _⟩
 clear m
 case round =>
  obtain⟨k,f,A,rfl,b,bl⟩:=hrel;have l:=gv (r.o.below bl);by_cases j:k<a.length
  ·have u:(k:Int)<a.length:=by omega
   by_cases q:k<128
   ·have v:(k:Int)<128:=by omega
    by_cases d:pO a k
    ·have c:=gv ((Dm f (λe=>e.2.2 d)).symm.trans b.o);have g:=gv d;clear d b;go_wp2_with fail;refine(JP l.o p k g.o).mono ?_;rintro h y ⟨rfl,t,rfl⟩;go_wp2;go_ret;exact⟨ri (by rw[c.o]),p9 bl _⟩
    ·have c:=gv ((Dn f ⟨j,q,d⟩).symm.trans b.o);have g:=gv d;clear d b;go_wp2_with fail;refine(JO l.o p k j g.o).mono ?_;rintro h y ⟨rfl,t,rfl⟩;go_wp2;go_roundw
     case rel=>exact⟨k+1,by omega,by omega,by go_num,c,p9 bl _⟩
     case measure=>simp[intOf];omega
   ·have c:=gv ((Dm f (λe=>q e.2.1)).symm.trans b.o);have v:¬ (k:Int)<128:=by omega
    clear b;go_wp2;go_ret;exact⟨ri (by rw[c.o]),bl⟩
  ·have c:=gv ((Dm f (λe=>j e.1)).symm.trans b.o);have u:¬ (k:Int)<a.length:=by omega
   clear b;go_wp2;go_ret;exact⟨ri (by rw[c.o]),bl⟩
end
section
variable{w w':World}{B j f m s l T:Nat}{data:List Nat}{u:Option Addr}{bs:List Bool}{d:Nat}{v:List Value}
theorem mJ.later{c b:Nat}(o:mJ w f data c)(I:c<=b)(e:∀a,a+3<=data.length->a<b->a<c):mJ w f data b:=by obtain⟨n,i,p,q,t,x⟩:=o;refine⟨n,i,p,λk y=>?_,λa F g=>t a (e a g F) g,x⟩;obtain⟨z,A,J,C,D,E⟩:=q k y;exact⟨z,A,by omega,C,D,λr G H h=>E r G (e r h H) h⟩
theorem mJ.other{a:Nat}(e:mJ w f data a)(i:w'.heap[f]?=w.heap[f]?):mJ w' f data a:=by obtain⟨c,b,g,h⟩:=e;exact⟨c,b,i.trans g,h⟩
theorem jG.other{a:Nat}{b:List (Nat × Nat)}(e:jG w a b)(i:w'.heap[a]?=w.heap[a]?):jG w' a b:=by obtain⟨c,g,h⟩:=e;exact⟨c,i.trans g,h⟩
theorem Wx.next{a:Value}{p e:Nat}{r:List Value}(g:Wx B j T (a::.int .i64 p::r) w bs):Wx B j T (a::.int .i64 e::r) (w.setCell ⟨j,3,none⟩ (.int .i64 e)) bs:=by
 obtain⟨n,k,o,⟨h,b,h3,c⟩,i⟩:=g;refine⟨n,k,o,⟨h,b,?_,?_⟩,i⟩;·rw[lq _ h3];simp
 ·exact aR c (own_ne c h3 b) _
theorem Wx.other(n:Wx B j T v w bs)(e:∀(k:Nat) (a:Array Value) (g:TypeId) (c:Nat × Nat),w.heap[k]?=some (Obj.cells a g c)->w'.heap[k]?=some (Obj.cells a g c)):Wx B j T v w' bs:=by
 obtain⟨z,y,A,⟨o,p,h3,q,b⟩,r⟩:=n;refine⟨z,y,A,⟨o,p,e _ _ _ _ h3,q,?_⟩,r⟩;rcases b with b | ⟨i,a,h,e1,e2,x,t⟩;·exact Or.inl b
 ·exact Or.inr ⟨i,a,h,e1,e2,e _ _ _ _ x,t⟩
theorem De.ne(b:De B j f m s l data u w bs d):f≠j/\m≠j/\s≠j/\f<w.heap.size:=by
 obtain⟨x,t,y,⟨o,p,h3,q⟩,r⟩:=b.wx;obtain⟨n,k,c,_⟩:=b.st;obtain⟨h,e,_⟩:=b.r1;obtain⟨i,g,_⟩:=b.r2;refine⟨λa=>?_,λa=>?_,λa=>?_,ae c⟩;·subst a;rw[c]at h3;cases h3
 ·subst a;rw[e]at h3;simp at h3
 ·subst a;rw[g]at h3;simp at h3
theorem De.go(a:De B j f m s l data u w bs d)(b:d<data.length)(n:¬ d+3<=data.length):De B j f m s l data u (w.setCell ⟨j,3,none⟩ (.int .i64 (d+1:Nat))) bs (d+1)/\gD 5 B [j,f] w (w.setCell ⟨j,3,none⟩ (.int .i64 (d+1:Nat))):=by obtain⟨c,e,g,_⟩:=a.ne;obtain⟨_,_,_,_,_,h,_⟩:=a.cells;exact⟨⟨a.wx.next,a.dat.other (λk i=>jL _ (by omega)),a.byt,a.len,a.lc,b,(a.st.later (by omega) (λq _ _=>by omega)).other (jL _ c),a.r1.other (jL _ e),a.r2.other (jL _ g),a.hbm⟩,(gD.refl _ _ _ _).setCell (by simp) _⟩
theorem De.upd(a:De B j f m s l data u w bs d)(c:d+3<=data.length) :
  ∃b,(Instr.mapUpdate 191 (.map (some f)) (ku (nth data d) (nth data (d+1)) (nth data (d+2))) (.int .i64 (d:Int))).run Tryz.prog w=.ok () b/\b.cell? ⟨j,3,none⟩=some (.int .i64 d)/\b.frozen? ⟨j,3,none⟩=false /\
   De B j f m s l data u (b.setCell ⟨j,3,none⟩ (.int .i64 (d+1:Nat))) bs (d+1)/\gD 5 B [j,f] w (b.setCell ⟨j,3,none⟩ (.int .i64 (d+1:Nat))):=by
 obtain⟨e,J,H⟩:=a.st.put a.byt c;obtain⟨L,M,N,V⟩:=a.ne;obtain⟨S,R,K,_⟩:=a.st;have t:∀k,k≠f->({ w with heap:=w.heap.setIfInBounds f e }:World).heap[k]?=w.heap[k]?:=λk c=>cJ (λo=>c o.symm);have r:∀(k:Nat) (h:Array Value) (z:TypeId) (p:Nat × Nat),w.heap[k]?=some (Obj.cells h z p)->({ w with heap:=w.heap.setIfInBounds f e }:World).heap[k]?=some (Obj.cells h z p):=by intro k h z p q;rw[t k (λo=>by subst o;rw[K]at q;cases q)];exact q
 refine⟨_,J,?_⟩;have I:({ w with heap:=w.heap.setIfInBounds f e }:World).heap.size=w.heap.size:=fM;have C:gD 5 B [j,f] w { w with heap:=w.heap.setIfInBounds f e }:=⟨rfl,rfl,rfl,Nat.le_of_eq I.symm,λk W c E _=>by rw[t k (by simp at c;exact c.2)];exact E⟩;generalize ({ w with heap:=w.heap.setIfInBounds f e }:World)=b at *;have y:=a.wx.other r;obtain⟨_,_,_,_,_,U,_⟩:=a.cells;have A:=a.hbm;have F:jG b m j5:=by obtain⟨g,i,n⟩:=a.r1;exact⟨g,r _ _ _ _ i,n⟩
 have G:jG b s kX:=by obtain⟨g,i,n⟩:=a.r2;exact⟨g,r _ _ _ _ i,n⟩
 have D:nA b B u data:=a.dat.other (λk c=>t k (by omega));refine⟨?_,?_,⟨y.next,D.other (λk c=>jL _ (by omega)),a.byt,a.len,a.lc,by omega,H.other (jL _ L),F.other (jL _ M),G.other (jL _ N),A⟩,C.setCell (by simp) _⟩
 ·obtain⟨P,O,Q,x,_⟩:=y;rw[cb x.blk];simp
 ·obtain⟨P,O,Q,x,_⟩:=y;exact nP x.blk
theorem gD.thenBelow{g B:Nat}{a:List Nat}{c b e:World}(i:gD g B a c b)(k:Below b.heap.size b e):gD g B a c e:=
 i.trans ⟨k.os,k.tape,k.output,k.size,λn o _ h _=>by rw[k.block n (ae h)];exact h⟩
theorem De.drewN(a:De B j f m s l data u w bs d)(n:Nat):De B j f m s l data u (w.drewN n) bs d:=a.below (p9 (aj _ _) n)
theorem Bj(c:Nat)(y:De B j f m s l data u w bs d)(hn:d+c<=data.length) :
  Calls Tryz.prog 264 #[.pointer (some ⟨j,0,none⟩),.int .i64 c] w λp w'=>p=.returned (.tuple #[])/\De B j f m s l data u w' bs (d+c)/\gD 5 B [j,f] w w':=by
 have Y:=y.len;go_enter Tryz.func264,Tryz.ntmps264;go_wp2;go_loopw [5] (λC wr=>∃k:Nat,k<=c/\C=.int .i64 k/\De B j f m s l data u wr bs (d+k)/\gD 5 B [j,f] w wr) (λC _=>c-(intOf C).toNat)
 case atStart=>exact⟨0,aE _,rfl,y,gD.refl _ _ _ _⟩
 clear y
 case round =>
  obtain⟨k,X,rfl,I,i⟩:=hrel;have b:=gv I;clear I;by_cases Z:k<c
  ·have D:Hid (∀a,d+k=a->d+(k+1)=a+1):=λa z=>by omega
   generalize z:d+k=a at *;have E:=gv (D.o a rfl);have Q:a<data.length:=by omega
   clear D;by_cases h:a+3<=data.length
   ·clear z;go_wp2_with (go_at_call 311;refine(Ca b.o true (aL h)).mono ?_;rintro p q ⟨rfl,e,rfl⟩);have g:=gv (b.o.drewN e);have t:=gv (i.drewN e);generalize A:wr.drewN e=q at *;clear A i b;obtain⟨N,G,O,_,_,W,ac,_⟩:=g.o.cells;have r:Hid (De B j f m s l data u q.drew bs a):=gv (g.o.below (aj _ _).drew);go_region_with (go_at_call 312;refine(FQ r.o h).mono ?_;rintro p w2 ⟨rfl,x⟩;have n:=gv (r.o.below x);have R:=n.o.cells.2.1;have S:=n.o.cells.2.2.1;obtain⟨w3,U,V,P,H,J⟩:=n.o.upd h;have L:=gv H;have M:=gv J;clear H J);all_goals (clear U R S N G O r g n;have K:=gv x;clear x;go_wp2)
    all_goals (
     go_roundw
     case rel=>exact⟨k+1,by omega,by go_num,by rw[E.o];exact L.o,(gD.thenBelow (gD.thenBelow t.o (aj _ _).drew) K.o).trans M.o⟩
     case measure=>simp[intOf];omega)
   ·clear z;go_wp2_with (go_at_call 311;refine(Ca b.o false (a_ h)).mono ?_;rintro p q ⟨rfl,e,rfl⟩;have g:=gv (b.o.drewN e);have t:=gv (i.drewN e);generalize A:wr.drewN e=q at *;clear A i b;obtain⟨_,G,_,_,_,_,_,P⟩:=g.o.cells);have F:=gv (g.o.go Q h);go_roundw
    case rel=>exact⟨k+1,by omega,by go_num,by rw[E.o];exact F.o.1,t.o.trans F.o.2⟩
    case measure=>simp[intOf];omega
  ·obtain rfl:k=c:=by omega
   go_wp2
   go_end0
   exact⟨rfl,b.o,i⟩
end
section
variable{w:World}{B g cap T:Nat}{a:List Nat}{c:Option Addr}{f:List Bool}{m:List Value}
theorem nA.kept{S:List Nat}{w':World}(e:nA w B c a)(k:gD 5 B S w w')(h:∀n∈S,B<=n):nA w' B c a:=by intro j i;obtain⟨b,l,e1,e2,d⟩:=e j i;exact⟨b,l,e1,e2,k.cell h e2 d⟩
theorem JG{d:List Nat}(i:∀b,b<d.length->nth d b<256):∀h∈d,h<256:=by intro h j;obtain⟨b,e,rfl⟩:=cA j;have:=i b e;simpa[nth,e]using this
theorem KL(r:Wx B g 190 [] w f)(h:Nat)(a9:h<=1)(K:nA w B c a)(F:∀O,O<a.length->nth a O<256)(len:a.length<=65535)(t:c=none->cap=0)(hl:f.length<=4000000) :
  Calls Tryz.prog 206 #[.pointer (some ⟨g,0,none⟩),.int .i64 h,.slice c a.length cap] w λj Y=>j=.returned (.tuple #[]) /\
   Wx B g 190 [] Y (f++gw 1 h++gw 2 0++List.replicate ((8-(f++gw 1 h++gw 2 0).length%8)%8) false++gw 16 a.length++gw 16 (65535-a.length)++gJ a)/\gD 5 B [g] w Y:=by
 obtain⟨P,N,a0,a3,a4⟩:=bu Tryz.infoByte;have al:B<=g:=by obtain⟨_,_,_,e,_⟩:=r;exact e.hb
 have A:=gv K;have Z:=gv F;clear K F;go_enter Tryz.func206,Tryz.ntmps206;go_wp2_with fail;refine(zC r h 1 (by omega) (by omega) (by omega)).mono ?_;rintro j w1 ⟨rfl,G,Q⟩;go_wp2_with fail;refine(zC G 0 2 (by omega) (by omega) (by simp only[ab,gN];omega)).mono ?_;rintro j w2 ⟨rfl,H,R⟩;go_wp2_with fail;refine(LH H).mono ?_;rintro j w3 ⟨rfl,h3,S⟩;have ba:(f++gw 1 h++gw 2 0++List.replicate ((8-(f++gw 1 h++gw 2 0).length%8)%8) false).length<=4000100/\(f++gw 1 h++gw 2 0++List.replicate ((8-(f++gw 1 h++gw 2 0).length%8)%8) false).length%8=0:=by simp only[ab,gN,bW];omega
 generalize J:f++gw 1 h++gw 2 0++List.replicate ((8-(f++gw 1 h++gw 2 0).length%8)%8) false=q at *;have z:=gv J;clear J;have W:=(Q.trans R).trans S;clear r G H Q R S;go_wp2_with fail;refine(zC h3 a.length 16 (by omega) (by omega) (by omega)).mono ?_;rintro j w4 ⟨rfl,I,U⟩;go_wp2_with fail;rw[show(65535:Int)-(a.length:Int)=((65535-a.length:Nat):Int)by omega];refine(zC I (65535-a.length) 16 (by omega) (by omega) (by simp only[ab,gN];omega)).mono ?_;rintro j w5 ⟨rfl,h5,V⟩;have v:=(W.trans U).trans V;clear W U V h3 I;have ac:(q++gw 16 a.length++gw 16 (65535-a.length)).length<=4000200/\(q++gw 16 a.length++gw 16 (65535-a.length)).length%8=0:=by simp only[ab,gN];omega
 obtain⟨ov,i,a8,e,o⟩:=h5;generalize L:q++gw 16 a.length++gw 16 (65535-a.length)=ds at *;have D:=gv L;clear L;have bb:i.length<=600000:=by have:=BL o;omega
 obtain rfl:a8=0:=by rw[<-o.2.1];exact ac.2
 have C:=gv (A.o.kept v (by simpa using al));have y:=gv (o.bytes a (JG Z.o));have c0:=e.c0;have bc:=e.sz;have E:=gv v;clear v o A;cases c with
 |none =>
  obtain rfl:=t rfl;have h0:a=[]:=by
   cases ao:a with
   |nil=>rfl
   |cons x xs=>obtain⟨b,a6,e1,_⟩:=C.o 0 (by rw[ao];simp);cases e1
  subst h0;have f0:=e.fz 0;obtain⟨l,n,rfl⟩:=i_ e.own;have d:=gv e;clear e t;go_wp2_with (at_builtin;refine wpList_append_own_none rfl (.tmp 26) (.tmp 27) 23 rfl B 5 P 1 aq N (.slice l i.length n) i.length _ rfl d.o.own rfl ?_)
  go_end0
  refine⟨rfl,?_,(E.o).setCell (by simp) _⟩;rw[z.o,D.o];refine⟨.slice l i.length n,i++[],0,⟨d.o.hb,d.o.hT,?_,?_⟩,y.o⟩;·rw[lq _ d.o.blk];simp
  ·rw[ct];exact aR d.o.own (own_ne d.o.own d.o.blk d.o.hT) _
 |some ad =>
  have d:=gv e;obtain⟨l,n,rfl⟩:=i_ e.own;clear e t;go_wp2_with (at_builtin;refine aK _ rfl (.tmp 26) (.tmp 27) 23 rfl B 5 P (.int .u8 0) 1 1 aq N a0 a3 a4 rfl (by decide) (.slice l i.length n) i.length _ rfl d.o.own ad a.length cap (a.map λx:Nat=>.int .u8 (x:Int)) rfl (by simp) ?hnews ?hone ?h63 ?hby ?hbs ?_)
  case hnews=>intro a5 a7 p;obtain⟨s,rfl⟩:=aX.1 p;rw[av]at s;obtain⟨b,a6,e1,_,e3⟩:=C.o a5 s;cases e1;rw[Ak,e3];simp[nth,s]
  case hone=>intro a7 p;simp at p;obtain⟨x,_,rfl⟩:=p;rfl
  case h63=>unfold maxLen;omega
  case hby=>omega
  case hbs=>omega
  intro v' w6 u M _;obtain⟨a2,c2,rfl⟩:=i_ u;obtain⟨X,k,d0,f0⟩:=d.o.app (xs:=a) (by simpa using u) M;have Q6:=gv X;have K6:=gv k;clear u M X k;go_wp2
  go_end0
  refine⟨rfl,?_,E.o.trans K6.o⟩;rw[z.o,D.o];exact⟨_,i++a,0,Q6.o,y.o⟩
def sB(a:List Nat):List Bool:=true::(gw 2 0++(List.replicate 5 false++(gw 16 a.length++(gw 16 (65535-a.length)++gJ a))))
theorem KI(a:List Nat):[]++gw 1 1++gw 2 0++List.replicate ((8-([]++gw 1 1++gw 2 0).length%8)%8) false++gw 16 a.length++gw 16 (65535-a.length)++gJ a=sB a:=by unfold sB;have b:(8-(([]:List Bool)++gw 1 1++gw 2 0).length%8)%8=5:=rfl;rw[b];simp only[ak,cC];rfl
theorem Mc(n:nA w B c a)(D:B<=w.heap.size)(j:∀e,e<a.length->nth a e<256)(len:a.length<=65535)(v:c=none->cap=0) :
  Calls Tryz.prog 148 #[.slice c a.length cap] w λk r=>∃(h:Value) (d:List Nat),k=.returned h/\r.ownsRow w.heap.size 5 1 h d.length (d.map λA:Nat=>.int .u8 (A:Int))/\Below w.heap.size w r/\li d 0 (sB a):=by
 have q:Wx w.heap.size w.heap.size 190 [] (w.alloc (.cells #[.slice none 0 0,.int .i64 0] 190)) []:=⟨.slice none 0 0,[],0,⟨af _,by decide,jd _ _,bk _ _ _ _⟩,li.nil⟩;have o:nA (w.alloc (.cells #[.slice none 0 0,.int .i64 0] 190)) w.heap.size c a:=by intro e u;obtain⟨b,y,e1,e2,t⟩:=n e u;exact⟨b,y,e1,by omega,by rw[World.cell?_alloc_lt _ _ _ (by show b<_;omega)];exact t⟩
 have i:=gv (KL q 1 (by omega) o j len v (by simp));rw[KI]at i;clear n o j q;go_enter Tryz.func148,Tryz.ntmps148;go_wp2;go_loopw [0] (λs wr=>s=.slice c a.length cap/\wr=w.alloc (.cells #[.slice none 0 0,.int .i64 0] 190)) (λ_ _=>0)
 case atStart=>exact⟨rfl,rfl⟩
 case round =>
  obtain⟨rfl,rfl⟩:=hrel;have E:¬ (65535:Int)<a.length:=by omega
  go_wp2_with fail;refine i.o.mono ?_;rintro k F ⟨rfl,⟨h,d,z,p,l⟩,x⟩;have C:=p.c0;obtain rfl:z=0:=by rw[<-l.2.1];unfold sB;simp only[ag,ab,gN,bW,gM];omega
  go_wp2;go_ret;exact⟨h,d,rfl,p.own,((aj _ _).alloc (af _) _).trans (x.below (by simp) (by simp)),l⟩
end
section
variable{w:World}{B cap:Nat}{ao:Option Addr}{data:List Nat}
theorem J7{b:Nat}{a:List Nat}(d:0<a.length)(c:1<iY a):jP (b+1) a=(257-iY a)::nth a 0::jP b (a.drop (iY a)):=by rw[jP,au (by omega),aA c]
theorem J6{b:Nat}{a:List Nat}(d:0<a.length)(c:¬ 1<iY a):jP (b+1) a=(jH a-1)::(a.take (jH a)++jP b (a.drop (jH a))):=by rw[jP,au (by omega),au c]
theorem J5{a:Nat}{b:List Nat}(c:b.length=0):jP a b=[128]:=by
 cases a with
 |zero=>rfl
 |succ a=>rw[jP,aA c]
def sL:Value->Nat
 | .slice _ a _=>a
 |_=>0
theorem u0{w:World}{e:Nat}{c:Int}(f:c=e):∀b d,([e].map λc:Nat=>Value.int .u8 (c:Int))[b]?=some d->(w.alloc (.cells #[.int .u8 c] 5)).cell? ((⟨w.heap.size,0,none⟩:Addr).add b)=some d:=by
 subst f;intro b d a;match b,a with
 |0,a=>rw[aa,World.cell?_alloc_new];exact a
 |b+1,a=>simp at a
theorem AW{w:World}{f b:Nat}{d g:Int}(h:d=f)(i:g=b):∀c e,([f,b].map λd:Nat=>Value.int .u8 (d:Int))[c]?=some e->(w.alloc (.cells #[.int .u8 d,.int .u8 g] 5)).cell? ((⟨w.heap.size,0,none⟩:Addr).add c)=some e:=by
 subst h i;intro c e a;match c,a with
 |0,a=>rw[aa,World.cell?_alloc_new];exact a
 |1,a=>rw[aa,World.cell?_alloc_new];exact a
 |c+2,a=>simp at a
theorem nA.drop{c:List Nat}{b a:Nat}(e:nA w B (some ⟨b,a,none⟩) c)(p:Nat):nA w B (some ⟨b,a+p,none⟩) (c.drop p):=by intro g f;rw[aU]at f;obtain⟨h,i,e1,e2,d⟩:=e (p+g) (by omega);cases e1;refine⟨b,a+p,rfl,e2,?_⟩;rw[cL,d];simp[nth,dC]
theorem nA.news{c:List Nat}{b f:Nat}(h:nA w B (some ⟨b,f,none⟩) c)(e:Nat)(m:e<=c.length):∀a d,((c.take e).map λk:Nat=>Value.int .u8 (k:Int))[a]?=some d->w.cell? ((⟨b,f,none⟩:Addr).add a)=some d:=by intro a d j;obtain⟨i,rfl⟩:=aX.1 j;rw[av,ax]at i;obtain⟨l,n,e1,_,g⟩:=h a (by omega);cases e1;rw[Ak,g];simp[nth,ai (show a<c.length by omega)]
theorem Fj{b i:Nat}(hd:nA w B (some ⟨b,i,none⟩) data)(hB:B<=w.heap.size)(a8:∀l,l<data.length->nth data l<256)(len:data.length<=200000)(lc:data.length<=cap/\cap<=9223372036854775807) :
  Calls Tryz.prog 103 #[.slice (some ⟨b,i,none⟩) data.length cap] w λU w'=>∃J,U=.returned J/\w'.ownsRow B 5 1 J (jX data).length ((jX data).map λg:Nat=>.int .u8 (g:Int))/\gD 5 B [] w w':=by
 obtain⟨I,o,F,G,H⟩:=bu Tryz.infoByte;have HR:Hid (jP (data.length+1) (data.drop 0)=jX data):=gv rfl;have HD:=gv hd;have ba:=gv a8;generalize jX data=bm at *;clear hd a8;go_enter Tryz.func103,Tryz.ntmps103;go_wp2;go_loopw [0,3] (λT J wr=>∃(a m:Nat) (d:List Nat) (pt:Addr),a<=data.length/\data.length-a<m/\T=.slice (some pt) (data.length-a) (cap-a)/\(a<data.length->pt=⟨b,i+a,none⟩)/\Hid (d++jP m (data.drop a)=bm)/\d.length<=2*a/\wr.ownsRow B 5 1 J d.length (d.map λg:Nat=>.int .u8 (g:Int))/\gD 5 B [] w wr) (λT _ _=>sL T)
 case atStart=>exact⟨0,data.length+1,[],⟨b,i,none⟩,by omega,by omega,rfl,λ_=>rfl,HR,by simp,bk _ _ _ _,gD.refl _ _ _ _⟩
 clear HR
 case round =>
  obtain⟨a,m,d,pt,hp,hf,rfl,br,y,bz,W,Z⟩:=hrel;obtain⟨R,S,rfl⟩:=i_ W;have v:=gv W;have C:=gv Z;have b0:=Z.size;clear W Z;by_cases hz:a<data.length
  ·obtain⟨j,rfl⟩:∃j,m=j+1:=⟨m-1,by omega⟩;obtain rfl:=br hz;have M:=gv ((HD.o.kept C.o (by simp)).drop a);have bb:Hid (∀l,l<(data.drop a).length->nth (data.drop a) l<256):=by intro l o;rw[aU]at o;have:=ba.o (a+l) (by omega);simpa[nth,dC]using this
   have V:data.length-a=(data.drop a).length:=by rw[aU]
   have ad:Hid (∀n,(data.drop a).drop n=data.drop (a+n)):=λn=>by rw[eA]
   rw[V];generalize data.drop a=c at *;have al:=gv V;have k:0<c.length:=by omega
   have bv:(0:Int)<c.length:=by omega
   have bx:c.length<=200000:=by omega
   have bw:c.length<=cap-a:=by omega
   clear V;have a5:=gv (mS c k);have a6:=gv (D_ (cap:=cap-a) M.o (by omega) (by omega) k);have O:Hid (1<iY c->jP (j+1) c=(257-iY c)::nth c 0::jP j (c.drop (iY c))):=λD=>J7 k D;have P:Hid (¬ 1<iY c->(1<=jH c/\jH c<=128/\jH c<=c.length)/\jP (j+1) c=(jH c-1)::(c.take (jH c)++jP j (c.drop (jH c)))):=λD=>⟨oO c k D,J6 k D⟩;generalize iY c=f at *;go_wp2_with fail;refine a6.o.mono ?_;rintro U w1 ⟨rfl,q⟩;have p:=gv (sY v.o q);have u:=gv (M.o.below q);have z:=gv (gD.thenBelow C.o q);have bt:B<=w1.heap.size:=by have:=q.size;omega
   clear v C q a6 M;by_cases hs:1<f
   ·have bs:(1:Int)<f:=by omega
    obtain⟨s1,s2,s3⟩:=a5.o;have N:=gv (O.o hs);have d0:w1.cell? ⟨b,i+a,none⟩=some (.int .u8 (nth c 0:Nat)):=by obtain⟨b',o',e1,_,e3⟩:=u.o 0 k;cases e1;exact e3
    have hx:=bb.o 0 k;clear O P a5;generalize nth c 0=a7 at *;go_wp2_with (at_builtin;refine aK _ rfl (.tmp 12) (.tmp 19) 23 rfl B 5 I (.int .u8 0) 1 1 aq o F G H rfl (by decide) (.slice R d.length S) d.length _ rfl (p.o.alloc _) ⟨w1.heap.size,0,none⟩ 2 2 ([257-f,a7].map λg:Nat=>.int .u8 (g:Int)) rfl rfl ?hnews ?hone ?h63 ?hby ?hbs ?_)
    case hnews=>exact AW (by omega) rfl
    case hone=>intro ac h;simp at h;rcases h with rfl | rfl<;>rfl
    case h63=>unfold maxLen;omega
    case hby=>omega
    case hbs=>simp;omega
    intro K L t s _;have A:=gv ((z.o.alloc _).grown s (nR (p.o.alloc _)));have bf:=gv t;obtain⟨a2,c2,rfl⟩:=i_ t;clear t s p z;go_wp2;go_roundw
    case rel =>
     have hL:=al.o;refine⟨a+f,j,d++[257-f,a7],if cap-a=f then⟨b,i+a,none⟩else⟨b,i+a+f,none⟩,by omega,by omega,?_,?_,?_,?_,?_,A.o⟩
     ·rw[show data.length-(a+f)=c.length-f by omega,show cap-(a+f)=cap-a-f by omega];split<;>rfl
     ·intro bq;rw[au (by omega),cL]
     ·rw[<-ad.o,<-y.o,N.o,ak];rfl
     ·rw[ab];show _+2<=_;omega
     ·rw[aH,ab];exact bf.o
    case measure=>simp[sL];omega
   ·have bs:¬ (1:Int)<f:=by omega
    obtain⟨⟨m1,m2,m3⟩,hE⟩:=P.o hs;have N:=gv hE;have a1:=gv (Jo (cap:=cap-a) u.o (by omega) bt);clear O P hE;generalize jH c=e at *;go_wp2_with fail;refine a1.o.mono ?_;rintro U L ⟨rfl,r⟩;have x:=gv (sY p.o r);have bc:=gv (u.o.below r);have A:=gv (gD.thenBelow z.o r);have b3:B<=L.heap.size:=by have:=r.size;omega
    clear p z r a1 u;have tok:True:=trivial;go_wp2_with (at_builtin;have _t:=tok;refine aK _ rfl (.tmp 23) (.tmp 27) 23 rfl B 5 I (.int .u8 0) 1 1 aq o F G H rfl (by decide) (.slice R d.length S) d.length _ rfl (x.o.alloc _) ⟨L.heap.size,0,none⟩ 1 1 ([e-1].map λg:Nat=>.int .u8 (g:Int)) rfl rfl ?hnews ?hone ?h63 ?hby ?hbs ?_;clear tok)
    case hnews=>exact u0 (by omega)
    case hone=>intro ac h;simp at h;subst h;rfl
    case h63=>unfold maxLen;omega
    case hby=>omega
    case hbs=>simp;omega
    intro K w3 X E _;have K3:=gv ((A.o.alloc _).grown E (nR (x.o.alloc _)));have bd:=gv ((bc.o.below ((aj _ _).alloc (af _) _)).kept ((gD.refl 5 B [] _).grown E (nR (x.o.alloc _))) (by simp));have Q:=gv X;obtain⟨a3,c3,rfl⟩:=i_ X;have b4:B<=w3.heap.size:=by have:=E.size;simp at this;omega
    clear X E x A;go_wp2_with (at_builtin;refine aK _ rfl (.tmp 29) (.tmp 32) 23 rfl B 5 I (.int .u8 0) 1 1 aq o F G H rfl (by decide) (.slice a3 (d.length+1) c3) (d.length+1) _ rfl Q.o ⟨b,i+a,none⟩ e (cap-a) ((c.take e).map λg:Nat=>.int .u8 (g:Int)) rfl (by rw[av,ax];omega) ?hnews ?hone ?h63 ?hby ?hbs ?_)
    case hnews=>exact bd.o.news e m3
    case hone=>intro ac h;obtain⟨g,_,rfl⟩:=cv.1 h;rfl
    case h63=>unfold maxLen;omega
    case hby=>omega
    case hbs=>omega
    intro K w4 Y a9 _;have K4:=gv (K3.o.grown a9 (nR Q.o));have bi:=gv Y;obtain⟨a4,c4,rfl⟩:=i_ Y;clear Y a9 Q K3;go_wp2;go_roundw
    case rel =>
     have hL:=al.o;refine⟨a+e,j,d++[e-1]++c.take e,if cap-a=e then⟨b,i+a,none⟩else⟨b,i+a+e,none⟩,by omega,by omega,?_,?_,?_,?_,?_,K4.o⟩
     ·rw[show data.length-(a+e)=c.length-e by omega,show cap-(a+e)=cap-a-e by omega];split<;>rfl
     ·intro bq;rw[au (by omega),cL]
     ·rw[<-ad.o,<-y.o,N.o,ak,ak];rfl
     ·rw[ab,ab,ax];show _+1+_<=_;omega
     ·have:=bi.o;rw[aH,aH,ab,ab,ax,dx m3,List.map_take,ak];exact this
    case measure=>simp[sL];omega
  ·obtain rfl:a=data.length:=by omega
   have bn:jP m (data.drop data.length)=[128]:=J5 (by simp);rw[bn]at y;rw[dU];go_wp2_with (at_builtin;refine aK _ rfl (.tmp 37) (.tmp 38) 23 rfl B 5 I (.int .u8 0) 1 1 aq o F G H rfl (by decide) (.slice R d.length S) d.length _ rfl (v.o.alloc _) ⟨wr.heap.size,0,none⟩ 1 1 ([128].map λg:Nat=>.int .u8 (g:Int)) rfl rfl ?hnews ?hone ?h63 ?hby ?hbs ?_)
   case hnews=>exact u0 rfl
   case hone=>intro ac h;simp at h;subst h;rfl
   case h63=>unfold maxLen;omega
   case hby=>omega
   case hbs=>simp;omega
   intro K L t s _;have k2:=(C.o.alloc _).grown s (nR (v.o.alloc _));clear s;go_wp2;go_ret;refine⟨K,rfl,?_,k2⟩;rw[<-y.o,aH,ab];exact t
end
section
variable{w:World}
theorem Gn(b c:Nat)(a:World):(Instr.field 247 (sV (b,c)) 0).run Tryz.prog a=.ok (.int .i64 (b:Nat)) a:=by kernel_rfl
theorem FT(a:Nat->Nat × Nat)(b k:Nat)(c:b<(a (k+1)).1):iO a b (k+1)=iO a b k:=by rw[iO,aA c]
theorem FU(a:Nat->Nat × Nat)(b k:Nat)(c:¬ b<(a k).1):iO a b k=k:=by
 cases k with
 |zero=>rfl
 |succ k=>rw[iO,au c]
theorem Dj:∀a:Fin 286,257<=a.val->(gL a.val).1<=258:=by decide +kernel
theorem CR:∀a:Fin 30,(gE a.val).1<=24577:=by decide +kernel
theorem Dk(a:Nat)(E:3<=a)(F:a<=258)(w:World):Calls Tryz.prog 265 #[.int .i64 a] w λd C=>d=.returned (.int .i64 (iW a:Nat))/\Below w.heap.size w C:=by
 have m:Hid (iO gL a 285=iW a):=gv rfl;generalize iW a=h at *;go_enter Tryz.func265,Tryz.ntmps265;go_wp2;go_loopw [3] (λl wr=>∃k:Nat,257<=k/\k<=285/\l=.int .i64 k/\Hid (iO gL a k=h)/\Below w.heap.size w wr) (λl _=>(intOf l).toNat)
 case atStart=>exact⟨285,by omega,by omega,rfl,m,aj _ _⟩
 case round =>
  obtain⟨k,s,A,rfl,g,bl⟩:=hrel;have i:=gv (Cf k s A wr);have n:Hid (∀b c,gL k=(b,c)->(a<b->257<k/\iO gL a (k-1)=h)/\(¬ a<b->k=h)):=by
   intro b c z;have d:(gL k).1=b:=by rw[z]
   refine⟨λy=>?_,λv=>?_⟩
   ·have x:257<k:=by
     rcases bZ 257 k with q | q;·exact q
     ·obtain rfl:k=257:=by omega
      have:(gL 257).1=3:=by decide
      omega
    refine⟨x,?_⟩;obtain⟨j,rfl⟩:∃j,k=j+1:=⟨k-1,by omega⟩;rw[eZ,<-FT gL a j (by rw[d];exact y)];exact g.o
   ·rw[<-g.o];exact(FU _ _ _ (by rw[d];exact v)).symm
  obtain⟨b,c,f⟩:∃b c,gL k=(b,c):=⟨_,_,rfl⟩;rw[f]at i;have e:=n.o b c f;have G:b<=258:=by have:=(Dj ⟨k,by omega⟩ s);simp only[]at this;rw[f]at this;exact this
  clear n g f m;have H:=Gn b c;by_cases r:a<b
  ·obtain⟨o,p⟩:=e.1 r;have t:=gv p;have u:(a:Int)<b:=by omega
   clear e p;go_wp2_with fail;refine i.o.mono ?_;rintro d D ⟨rfl,B,rfl⟩;go_wp2;go_roundw
   case rel=>exact⟨k-1,by omega,by omega,by go_num,t,bl.alloc bl.size _⟩
   case measure=>simp[intOf];omega
  ·have o:=gv (e.2 r);have u:¬ (a:Int)<b:=by omega
   clear e;go_wp2_with fail;refine i.o.mono ?_;rintro d D ⟨rfl,B,rfl⟩;go_wp2;go_ret;exact⟨by rw[o.o];rfl,bl.alloc bl.size _⟩
theorem CT(a:Nat)(D:1<=a)(E:a<=32768)(w:World):Calls Tryz.prog 268 #[.int .i64 a] w λd B=>d=.returned (.int .i64 (gT a:Nat))/\Below w.heap.size w B:=by
 have m:Hid (iO gE a 29=gT a):=gv rfl;generalize gT a=h at *;go_enter Tryz.func268,Tryz.ntmps268;go_wp2;go_loopw [3] (λl wr=>∃k:Nat,k<=29/\l=.int .i64 k/\Hid (iO gE a k=h)/\Below w.heap.size w wr) (λl _=>(intOf l).toNat)
 case atStart=>exact⟨29,by omega,rfl,m,aj _ _⟩
 case round =>
  obtain⟨k,z,rfl,g,bl⟩:=hrel;have i:=gv (BP k z wr);have n:Hid (∀b c,gE k=(b,c)->(a<b->0<k/\iO gE a (k-1)=h)/\(¬ a<b->k=h)):=by
   intro b c y;have d:(gE k).1=b:=by rw[y]
   refine⟨λx=>?_,λu=>?_⟩
   ·have v:0<k:=by
     rcases bZ 0 k with q | q;·exact q
     ·obtain rfl:k=0:=by omega
      have:(gE 0).1=1:=by decide
      omega
    refine⟨v,?_⟩;obtain⟨j,rfl⟩:∃j,k=j+1:=⟨k-1,by omega⟩;rw[eZ,<-FT gE a j (by rw[d];exact x)];exact g.o
   ·rw[<-g.o];exact(FU _ _ _ (by rw[d];exact u)).symm
  obtain⟨b,c,f⟩:∃b c,gE k=(b,c):=⟨_,_,rfl⟩;rw[f]at i;have e:=n.o b c f;have F:b<=24577:=by have:=(CR ⟨k,by omega⟩);simp only[]at this;rw[f]at this;exact this
  clear n g f m;have G:=Gn b c;by_cases r:a<b
  ·obtain⟨o,p⟩:=e.1 r;have s:=gv p;have t:(a:Int)<b:=by omega
   clear e p;go_wp2_with fail;refine i.o.mono ?_;rintro d C ⟨rfl,A,rfl⟩;go_wp2;go_roundw
   case rel=>exact⟨k-1,by omega,by go_num,s,bl.alloc bl.size _⟩
   case measure=>simp[intOf];omega
  ·have o:=gv (e.2 r);have t:¬ (a:Int)<b:=by omega
   clear e;go_wp2_with fail;refine i.o.mono ?_;rintro d C ⟨rfl,A,rfl⟩;go_wp2;go_ret;exact⟨by rw[o.o];rfl,bl.alloc bl.size _⟩
end
section
variable{w:World}{B b bm d f cap T:Nat}{data:List Nat}{ao:Option Addr}{bs:List Bool}{c:Nat}{a:List Value}
theorem Wx.lt(g:Wx B b T a w bs):B<=b/\b<w.heap.size:=by obtain⟨_,_,_,e,_⟩:=g;exact⟨e.hb,ae e.blk⟩
theorem Fh(j:Wx B b 194 a w bs)(i:Nat × Nat)(g:Nat)(r:i.1<=g)(s:i.2<=15)(v:g<=100000)(u:bs.length+16<=1099511627776) :
  Calls Tryz.prog 266 #[.pointer (some ⟨b,0,none⟩),.int .i64 g,sV i] w λl m=>l=.returned (.tuple #[])/\Wx B b 194 a m (bs++gw i.2 (g-i.1))/\gD 5 B [b] w m:=by
 obtain⟨e,h⟩:=i;unfold sV;simp only[]at r s ⊢;have p:Hid (gD 5 B [b] w (w.alloc (.cells #[.int .i64 (e:Nat),.int .i64 (h:Nat)] 247)).drew):=gv (((gD.refl _ _ _ _).alloc _).drew);have k:Hid (Wx B b 194 a (w.alloc (.cells #[.int .i64 (e:Nat),.int .i64 (h:Nat)] 247)).drew bs):=gv (j.alloc _).drew;have z:(w.alloc (.cells #[.int .i64 (e:Nat),.int .i64 (h:Nat)] 247)).cell? ⟨w.heap.size,0,none⟩=some (.int .i64 (e:Nat)):=mb (jd _ _);have A:(w.alloc (.cells #[.int .i64 (e:Nat),.int .i64 (h:Nat)] 247)).cell? ⟨w.heap.size,1,none⟩=some (.int .i64 (h:Nat)):=oB (jd _ _);obtain⟨x,y⟩:=j.lt;have n:=gv (zC k.o (g-e) h (by omega) (by omega) (by omega));have e1:Hid (IntKind.i64.wrap ((g:Int)-e)=((g-e:Nat):Int)):=by unfold Hid;rw[bP];omega
 clear j k;go_enter Tryz.func266,Tryz.ntmps266;go_wp2_with fail;generalize w.alloc (.cells #[.int .i64 (e:Nat),.int .i64 (h:Nat)] 247)=D at *;go_region_with (go_at_call 203;rw[e1.o];refine n.o.mono ?_;rintro l C ⟨rfl,q,t⟩);all_goals go_wp2
 all_goals go_end0
 all_goals exact⟨rfl,q,p.o.trans t⟩
end
section
variable{w:World}
theorem KM:mZ lG 15<=kN.length/\kN.length<=1000/\(∀a∈kN,a<288)/\∀k:Fin 16,pP lG k.val<=100000:=by decide +kernel
theorem wN:mZ lF 15<=kM.length/\kM.length<=1000/\(∀a∈kM,a<32)/\∀k:Fin 16,pP lF k.val<=100000:=by decide +kernel
theorem F8{a:List Nat}{b:Nat}(c:b<a.length):nth a b∈a:=by
 have d:nth a b=a[b]:=by simp[nth,c]
 rw[d];exact df c
def w_(w:World)(b:Nat):Prop:=Cd w b 0 lG kN
def wZ(w:World)(b:Nat):Prop:=Cd w b 17 lF kM
theorem yp(b:Nat)(h:w_ w b):Calls Tryz.prog 261 #[.pointer (some ⟨b,0,none⟩),.int .i64 288] w λg a=>g=.returned (.slice (some ⟨w.heap.size,0,none⟩) 288 288)/\jG a w.heap.size j5/\Below w.heap.size w a:=by obtain⟨c,d,e,f⟩:=KM;have:=EY b 0 288 lG kN h (by omega) c d (λl i=>e _ (F8 i)) (λk j=>f ⟨k,by omega⟩);rw[Lz]at this;exact this
theorem yo(b:Nat)(h:wZ w b):Calls Tryz.prog 261 #[.pointer (some ⟨b,17,none⟩),.int .i64 32] w λg a=>g=.returned (.slice (some ⟨w.heap.size,0,none⟩) 32 32)/\jG a w.heap.size kX/\Below w.heap.size w a:=by obtain⟨c,d,e,f⟩:=wN;have:=EY b 17 32 lF kM h (by omega) c d (λl i=>e _ (F8 i)) (λk j=>f ⟨k,by omega⟩);rw[wU]at this;exact this
theorem w_.below{b:Nat}{d:World}(a:w_ w b)(k:Below w.heap.size w d):w_ d b:=
 Cd.below a k (by obtain⟨_,g,f,c,_⟩:=a;exact aB w _ c) (λg f e=>by obtain⟨_,i,h,c,h3⟩:=a;rw[c]at e;cases e;exact aB w _ (h3 0 (by decide +kernel)))
theorem wZ.below{b:Nat}{d:World}(a:wZ w b)(k:Below w.heap.size w d):wZ d b:=
 Cd.below a k (by obtain⟨_,g,f,c,_⟩:=a;exact aB w _ c) (λg f e=>by obtain⟨_,i,h,c,h3⟩:=a;rw[c]at e;cases e;exact aB w _ (h3 0 (by decide +kernel)))
theorem I0{b d e k:Nat}{l:Nat × Nat}(h:w.heap[b]?=some (.cells (fC d e).toArray k l))(o:j9 w d kN)(p:j9 w e kM):w_ w b/\wZ w b:=by
 have c:∀a g,(fC d e)[a]?=some g->w.cell? ⟨b,a,none⟩=some g:=by intro a g n;rw[cb h];simpa using n
 have q:=CJ;have r:=yq;have f:(jb lG).length=16:=by simpa[jb]using q
 have s:(jb lF).length=16:=by simpa[jb]using r
 unfold w_ wZ;unfold fC at c;clear h;generalize lG=u at *;generalize kN=j at *;generalize lF=t at *;generalize kM=i at *;refine⟨⟨?_,d,j.length,?_,o.cell⟩,⟨?_,e,i.length,?_,p.cell⟩⟩
 ·intro a m;refine c (0+a) _ ?_;rw[b_,aI (by omega)];exact ig _ _ (by omega)
 ·refine c (0+16) _ ?_;rw[ar (by omega),f];rfl
 ·intro a m;refine c (17+a) _ ?_;rw[ar (by omega),f,show 17+a-16=a+1 by omega,d9,aI (by omega)];exact ig _ _ (by omega)
 ·refine c (17+16) _ ?_;rw[ar (by omega),f,show 17+16-16=16+1 by omega,d9,ar (by omega),s];rfl
end
theorem GE:j5.length=288:=by decide +kernel
theorem Em:kX.length=32:=by decide +kernel
theorem Bn:∀a:Fin 288,(nh j5 a.val).1<1024/\(nh j5 a.val).2<=9:=by decide +kernel
theorem Ly:∀a:Fin 32,(nh kX a.val).1<1024/\(nh kX a.val).2<=9:=by decide +kernel
end Go.Proofs.YtgkljcmjnphpeaaGreatDoor
