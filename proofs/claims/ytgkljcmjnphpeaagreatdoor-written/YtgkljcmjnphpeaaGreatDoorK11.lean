import Derived.Test.YtgkljcmjnphpeaaGreatDoorK10
import Derived.Lib.Bytealg
set_option linter.unusedVariables false
set_option linter.unusedSimpArgs false
set_option maxHeartbeats 4000000
set_option maxRecDepth 100000
namespace Go.Proofs.YtgkljcmjnphpeaaGreatDoor
open Go.RowKit
section
variable{B c b:Nat}{f:Option Addr}{a:List Nat}{g i j:Value}{w d:World}{r q:List Nat}
theorem I3(he:lD B w)(J:Sc B c f b a g i j w r)(u:Nat)(a6:u<=200000) :
  Calls Tryz.prog 142 #[.pointer (some ⟨c,0,none⟩),.int .i64 (u:Int)] w (qS B c f b a g i j (lW u r) w):=by
 have a3:=J.env;have HE:=gv he;have HS:=gv J;have v:=gv (uu J.drew { data:=#[115,116,97,114,116,120,114,101,102] });rw[show bl { data:=#[115,116,97,114,116,120,114,101,102] }=[115,116,97,114,116,120,114,101,102]from rfl]at v;obtain⟨a1,U⟩:∃a1,lW u r=a1:=⟨_,rfl⟩;rw[U];have p:=gv U;unfold lW at p;clear J he U;cases e1:gF [115,116,97,114,116,120,114,101,102] r with
 |none =>
  rw[e1]at v p;go_enter Tryz.func142,Tryz.ntmps142;go_wp2_with fail;refine p7 (λ_ _=>True) (by kernel_rfl) ?_;intro e;have h:=gv (show True from trivial);refine ti 0 ?_ e h ?_;clear e h;intro e h;(try simp only[gB])
  refine ti 1 ?_ e h ?_;clear e h;intro e h;(try simp only[gB])
  refine ti 2 ?_ e h ?_;clear e h;intro e h;(try simp only[gB])
  refine on 3 e λn k=>?_;go_simp;refine v.o.mono ?_;rintro s w1 ⟨rfl,L,E⟩;have A:=gv ((gQ.drew w).trans E);clear L E v;refine k.o _ _ trivial (λl m=>?_);clear e h k n;have e:=l;have h:=m;clear l m
  (try simp only[gB])
  refine on 4 e λn k=>?_;go_simp;refine k.o _ _ trivial (λl m=>?_);clear e h k n;have e:=l;have h:=m;clear l m
  (try simp only[gB])
  refine tu 5 e h ?_;clear e h;intro e h;(try simp only[gB])
  refine tu 6 e h ?_;clear e h;intro e h;(try simp only[gB])
  refine tu 7 e h ?_;clear e h;intro e h;(try simp only[gB])
  refine tu 8 e h ?_;clear e h;intro e h;(try simp only[gB])
  refine tu 9 e h ?_;clear e h;intro e h;(try simp only[gB])
  refine tu 10 e h ?_;clear e h;intro e h;(try simp only[gB])
  refine on 11 e λn k=>?_;go_simp;refine k.o _ _ trivial (λl m=>?_);clear e h k n;have e:=l;have h:=m;clear l m
  (try simp only[gB])
  refine on 12 e λn k=>?_;go_simp;refine(sn _).mono ?_;rintro s d ⟨rfl,rfl⟩;exact⟨rfl,.none_ p.o.symm A.o⟩
 |some q =>
  rw[e1]at v p;simp only[]at p;go_enter Tryz.func142,Tryz.ntmps142;go_wp2_with fail;refine p7 (λ_ _=>True) (by kernel_rfl) ?_;intro e;have h:=gv (show True from trivial);refine ti 0 ?_ e h ?_;clear e h;intro e h;(try simp only[gB])
  refine ti 1 ?_ e h ?_;clear e h;intro e h;(try simp only[gB])
  refine ti 2 ?_ e h ?_;clear e h;intro e h;(try simp only[gB])
  refine on 3 e λn k=>?_;go_simp;refine v.o.mono ?_;rintro s w1 ⟨rfl,L,E⟩;have Q:=gv (show Sc B c f b a g i j w1 q from L);have A:=gv ((gQ.drew w).trans E);clear L E v;refine k.o _ _ trivial (λl m=>?_);clear e h k n;have e:=l;have h:=m;clear l m
  (try simp only[gB])
  refine on 4 e λn k=>?_;go_simp;refine k.o _ _ trivial (λl m=>?_);clear e h k n;have e:=l;have h:=m;clear l m
  (try simp only[gB])
  refine ti 5 ?_ e h ?_;clear e h;intro e h;(try simp only[gB])
  refine ti 6 ?_ e h ?_;clear e h;intro e h;(try simp only[gB])
  refine ti 7 ?_ e h ?_;clear e h;intro e h;(try simp only[gB])
  refine ti 8 ?_ e h ?_;clear e h;intro e h;(try simp only[gB])
  refine on 9 e λn k=>?_;go_simp;refine(io (HE.o.only HS.o.hb a3 A.o) Q.o.env u (by omega)).mono ?_;rintro s w2 ⟨rfl,S⟩;have ad:=gv (Q.o.other S);have R:=gv (A.o.trans (.of_below S));have x:=gv (uu ad.o (gC (iL u)));rw[wu _ (BR u)]at x;generalize gC (iL u)=a5 at *;clear S A Q;refine k.o _ _ trivial (λl m=>?_);clear e h k n;have e:=l;have h:=m;clear l m
  (try simp only[gB])
  cases e2:gF (iL u) q with
  |none =>
   rw[e2]at x p;refine on 10 e λn k=>?_;go_simp;refine x.o.mono ?_;rintro s w3 ⟨rfl,h3,F⟩;have C:=gv (R.o.trans F);clear h3 F x;refine k.o _ _ trivial (λl m=>?_);clear e h k n;have e:=l;have h:=m;clear l m
   (try simp only[gB])
   refine on 11 e λn k=>?_;go_simp;refine k.o _ _ trivial (λl m=>?_);clear e h k n;have e:=l;have h:=m;clear l m
   (try simp only[gB])
   refine on 12 e λn k=>?_;go_simp;refine(sn _).mono ?_;rintro s d ⟨rfl,rfl⟩;exact⟨rfl,.none_ p.o.symm C.o⟩
  |some q2 =>
   rw[e2]at x p;simp only[]at p;refine on 10 e λn k=>?_;go_simp;refine x.o.mono ?_;rintro s w3 ⟨rfl,h3,F⟩;have al:=gv (show Sc B c f b a g i j w3 q2 from h3);have C:=gv (R.o.trans F);clear h3 F x R ad;refine k.o _ _ trivial (λl m=>?_);clear e h k n;have e:=l;have h:=m;clear l m
   (try simp only[gB])
   refine on 11 e λn k=>?_;go_simp;refine k.o _ _ trivial (λl m=>?_);clear e h k n;have e:=l;have h:=m;clear l m
   (try simp only[gB])
   refine on 12 e λn k=>?_;go_simp;refine(oq _).mono ?_;rintro s d ⟨rfl,t⟩;have t:=t.symm;subst t;refine k.o _ _ trivial (λl m=>?_);clear e h k n;have e:=l;have h:=m;clear l m
   (try simp only[gB])
   refine mI (by kernel_rfl) ?_ _;clear e h;have z:=gv (Cr al.o);cases e3:iG q2 with
   |none=>rw[e3]at z p;go_wp2_with fail;refine z.o.mono ?_;rintro s w4 ⟨rfl,M,G⟩;have D:=gv (C.o.trans G);clear M G;go_wp2_with fail;refine(sn _).mono ?_;rintro s d ⟨rfl,rfl⟩;exact⟨rfl,.none_ p.o.symm D.o⟩
   |some q3 =>
    rw[e3]at z p;simp only[]at p;go_wp2_with fail;refine z.o.mono ?_;rintro s w4 ⟨rfl,M,G⟩;have D:=gv (C.o.trans G);have y:=gv (tY (show Sc B c f b a g i j w4 q3 from M) { data:=#[37,37,69,79,70] } (by decide) (by decide));rw[show bl { data:=#[37,37,69,79,70] }=[37,37,69,79,70]from rfl]at y;clear M G C z al;cases e4:gH [37,37,69,79,70] q3 with
    |none=>rw[e4]at y p;go_wp2_with fail;refine y.o.mono ?_;rintro s w5 ⟨rfl,N,H⟩;have I:=gv (D.o.trans H);clear N H;go_wp2_with fail;refine(sn _).mono ?_;rintro s d ⟨rfl,rfl⟩;exact⟨rfl,.none_ p.o.symm I.o⟩
    |some O =>
     rw[e4]at y p;simp only[]at p;go_wp2_with fail;refine y.o.mono ?_;rintro s w5 ⟨rfl,N,H⟩;have ao:=gv (show Sc B c f b a g i j w5 O from N);have I:=gv (D.o.trans H);clear N H y D;go_wp2_with fail;refine(oq _).mono ?_;rintro s d ⟨rfl,t⟩;have t:=t.symm;subst t;have ac:=gv (Cr ao.o);go_wp2_with fail;refine ac.o.mono ?_;rintro s w6 ⟨rfl,T,k6⟩;have a0:=gv T;have K6:=gv (I.o.trans k6);have Z:=gv (vY T);clear T k6 ac I ao;generalize (iG O).getD O=P at *;generalize (iG O).isSome=bb;go_wp2_with fail;refine Z.o.mono ?_;rintro s w7 ⟨rfl,Y,W⟩;have a2:Hid (Sc B c f b a g i j w7 P):=by unfold Hid;rw[W];exact a0.o.drewN Y
     have K7:Hid (gQ c w w7):=by unfold Hid;rw[W];exact K6.o.drewN Y
     clear W Z K6 a0 Y;by_cases K:P=[]
     ·subst K;rw[aA rfl]at p;go_wp2_with fail;refine(oq _).mono ?_;rintro s d ⟨rfl,t⟩;have t:=t.symm;subst t;go_wp2
      go_end0
      exact .some_ p.o.symm a2.o K7.o
     ·rw[au K]at p;have a4:0<P.length:=eP.2 K;obtain⟨X,V⟩:∃X,P.length=X:=⟨_,rfl⟩;rw[V]at a4;rw[V];have t1:((X:Int)==0)=false:=by simp;omega
      clear K V;go_wp2_with fail;refine(sn _).mono ?_;rintro s d ⟨rfl,rfl⟩;exact⟨rfl,.none_ p.o.symm K7.o⟩
end
section
variable{w w':World}
def i5:Nat->ByteArray
 |1=>{ data:=#[65,83,67,73,73,72,101,120,68,101,99,111,100,101] }
 |2=>{ data:=#[65,83,67,73,73,56,53,68,101,99,111,100,101] }
 |3=>{ data:=#[82,117,110,76,101,110,103,116,104,68,101,99,111,100,101] }
 |4=>{ data:=#[70,108,97,116,101,68,101,99,111,100,101] }
 |_=>{ data:=#[] }
def kx(a:ByteArray):Nat->Nat->Nat
 |0,_=>0
 |b+1,k=>if i5 k=a then k else kx a b (k+1)
def lY(a:ByteArray):Nat:=kx a 4 1
theorem uW(b:ByteArray):∀a k,kx b a k<k+a\/kx b a k=0
 |0,k=>Or.inr rfl
 |a+1,k=>by
  simp only[kx];split;·left;omega
  ·rcases uW b a (k+1)with c | c;·left;omega
   ·right;exact c
theorem sN(a:ByteArray):lY a<=4:=by have:=uW a 4 1;unfold lY;omega
theorem Fv(k:Nat)(b:1<=k)(c:k<=4)(w:World):Calls Tryz.prog 290 #[.int .i64 (k:Int)] w λa w'=>a=.returned (.string (i5 k))/\w'=w:=by
 match k,b,c with
 |1,_,_=>go_enter gh,gt;go_wp2;go_ret;exact⟨rfl,rfl⟩
 |2,_,_=>go_enter gh,gt;go_wp2;go_ret;exact⟨rfl,rfl⟩
 |3,_,_=>go_enter gh,gt;go_wp2;go_ret;exact⟨rfl,rfl⟩
 |4,_,_=>go_enter gh,gt;go_wp2;go_ret;exact⟨rfl,rfl⟩
theorem JF(b:ByteArray)(w:World):Calls Tryz.prog 332 #[.string b] w λh w'=>h=.returned (.int .i64 (lY b:Nat))/\w'=w:=by
 obtain⟨f,i⟩:∃f,lY b=f:=⟨_,rfl⟩;rw[i];have a:=gv i;unfold lY at a;clear i;go_enter Tryz.func332,Tryz.ntmps332;go_wp2;go_loopw [3] (λj wr=>∃(d k:Nat),1<=k/\k+d=5/\j=.int .i64 k/\wr=w/\Hid (kx b d k=f)) (λj _=>5-(intOf j).toNat)
 case atStart=>exact⟨4,1,af _,rfl,rfl,rfl,a⟩
 clear a
 case round =>
  obtain⟨d,k,q,s,rfl,rfl,a⟩:=hrel;cases d with
  |zero =>
   obtain rfl:k=5:=by omega
   go_wp2;go_ret;exact⟨by rw[<-a.o];rfl,rfl⟩
  |succ d =>
   have n:k<=4:=by omega
   have l:=gv (Fv k q n wr);by_cases e:i5 k=b
   ·have p:(((i5 k).toList==b.toList))=true:=by rw[qF,cQ];exact e
    have g:Hid (k=f):=by unfold Hid;rw[<-a.o,kx,aA e]
    clear e a;generalize i5 k=m at *;go_wp2_with fail;refine l.o.mono ?_;rintro h r ⟨rfl,c⟩;have c:=c.symm;subst c;go_wp2;go_ret;exact⟨by rw[<-g.o];rfl,rfl⟩
   ·have p:(((i5 k).toList==b.toList))=false:=by rw[qF,bG];exact e
    have g:Hid (kx b d (k+1)=f):=by unfold Hid;rw[<-a.o,kx,au e]
    clear e a;generalize i5 k=m at *;go_wp2_with fail;refine l.o.mono ?_;rintro h r ⟨rfl,c⟩;have c:=c.symm;subst c;go_wp2;go_roundw
    case rel=>exact⟨d,k+1,by omega,by omega,by first | rfl | (congr 1),by first | rfl | trivial,g⟩
    case measure=>simp[intOf];omega
def kt{k:Nat}(a:VT k):Nat × List Nat:=(kO a,tO a)
def iK:{k:Nat}->VT k->List (Nat × List Nat)
 |0,_=>[]
 |_+1,V=>(gz.items V).map kt
def xS:{k:Nat}->VT k->Prop
 |0,_=>True
 |_+1,a=>(gz.items a).length<=200000/\(gz.keys a).length<=200000/\∀b∈gz.items a,xS b
def jt{k:Nat}(V:gz (VT k)):Option (List (Nat × List Nat)):=
 match jC { data:=#[70,105,108,116,101,114] } V.keys V.items with
 | []=>some []
 | [a]=>if kO a=4 then some [kt a]else if kO a=6 then some (iK a)else none
 |_=>none
def lL:List (Nat × List Nat)->Option (List Nat)
 | []=>some []
 |a::b=>if a.1=4/\1<=lY (gC a.2)then(lL b).map λr=>lY (gC a.2)::r else none
def jx{k:Nat}(V:gz (VT k)):Option (List Nat):=match jt V with
 |none=>none
 |some a=>lL a
theorem sR{e:Type}{s:ByteArray}{ks:List (List Nat)}{c:List e}{d:e}(a:d∈jC s ks c):d∈c:=by unfold jC je at a;obtain⟨⟨g,b⟩,f,rfl⟩:=cv.1 a;exact(fW (List.mem_filter.1 f).1).2
def oQ(c:List (Nat × List Nat))(w:World)(d:Value):Prop:=
 ∃(b:Nat->Prop) (k:Nat) (a:List (VT k)),kK b k 0 a w d/\a.map kt=c
def rF(d:Option (List (Nat × List Nat)))(w:World)(a:Ending)(w':World):Prop:=
 Below w.heap.size w w'/\match d with
  |some c=>∃b,a=.returned b/\oQ c w' b
  |none=>a=gU 4
theorem rF.none_{a:Option (List (Nat × List Nat))}(b:Below w.heap.size w w')(c:a=none):rF a w (gU 4) w':=by subst c;exact⟨b,rfl⟩
theorem rF.some_{c:Option (List (Nat × List Nat))}{a:List (Nat × List Nat)}{v:Value}(b:Below w.heap.size w w')(d:c=some a)(e:oQ a w' v):rF c w (.returned v) w':=by subst d;exact⟨b,v,rfl,e⟩
theorem gR.items{P:Nat->Prop}{k:Nat}{h:Value}{V:VT k}(f:gR P k w h V):∃(pp:Nat) (b e d:Value),h=.agg #[.int .i64 (kO V:Int),.int .i64 (rZ V),.int .i64 (pp:Int),.string (gC (tO V)),b,e,d]/\oQ (iK V) w b/\(∃a n c,b=.slice a n c)/\(∃a n c,e=.slice a n c)/\∃a n c,d=.slice a n c:=by
 cases k with
 |zero=>cases f
 |succ k=>obtain⟨b,e,d,q,p,o,g,j,m,l⟩:=gR.parts f;obtain⟨r,u,e1⟩:=i_ g.1;obtain⟨s,v,e2⟩:=i_ m.1;obtain⟨t,x,i⟩:=i_ l.1;refine⟨_,b,e,d,p,⟨P,k,gz.items V,⟨q,g.1,o,j⟩,rfl⟩,⟨_,_,_,e1⟩,⟨_,_,_,e2⟩,⟨_,_,_,i⟩⟩
theorem IY{q:Nat->Prop}{k:Nat}{C:Value}{d:gz (VT k)}(n:gR q (k+1) w C d)(J:d.keys.length=d.items.length)(H:d.items.length<=200000) :
  Calls Tryz.prog 331 #[C] w (rF (jt d) w):=by
 obtain⟨k0,k1,k2,k3,Z,jl,jc,ac,kl,ad,P,R,Q,X⟩:=gR.form n;have D:Hid (∀h:World,Below w.heap.size w h->Calls Tryz.prog 260 #[C,.string { data:=#[70,105,108,116,101,114] }] h λe w'=>∃p,e=.returned p/\kK q k (h.heap.size+1) (jC { data:=#[70,105,108,116,101,114] } d.keys d.items) w' p/\Below h.heap.size h w'):=
  λh b=>(AO (gR.keep (k+1) n (λj _ U=>b.block j U)) J H _).mono (λe w' ⟨p,S,T,h3⟩=>⟨p,S,T.mono (λj n _=>n.1),h3⟩)
 subst X;clear n;have u:Hid (Below w.heap.size w (w.alloc (.cells #[.int .i64 k0,.int .i64 k1,.int .i64 k2,.string k3,.slice Z jl jc,.slice ac kl ad,.slice P R Q] 67))):=
  (aj _ _).alloc (af _) _
 have v:=gv (D.o _ u.o);obtain⟨N,z⟩:∃N,jt d=N:=⟨_,rfl⟩;have c:=gv z;unfold jt at c;rw[z];obtain⟨m,G⟩:∃m,jC { data:=#[70,105,108,116,101,114] } d.keys d.items=m:=⟨_,rfl⟩;rw[G]at c v;clear z G J H D;go_enter Tryz.func331,Tryz.ntmps331;go_wp2_with fail;refine v.o.mono ?_;rintro e t ⟨p,rfl,K,E⟩;have l:=gv (u.o.trans (E.mono (by simp)));have g:=gv K;clear v E K u;obtain⟨Y,M,rfl⟩:=g.o.len;match m,c,g with
 | [],c,g=>have x:Hid (oQ [] t (.slice Y 0 M)):=⟨q,k,[],g.o.base,rfl⟩;go_wp2_with fail;refine(oq _).mono ?_;rintro e w' ⟨rfl,a⟩;have a:=a.symm;subst a;go_wp2;go_ret;exact .some_ l.o c.o.symm x.o
 |y1::y2::m,c,g =>
  obtain⟨s,y⟩:∃s,(y1::y2::m).length=s:=⟨_,rfl⟩;have a1:2<=s:=by rw[<-y];simp
  have t1:decide ((s:Int)<=1)=false:=by simp;omega
  rw[y];clear y;go_wp2_with fail;refine(sn _).mono ?_;rintro e w' ⟨rfl,rfl⟩;exact⟨rfl,.none_ l.o (by rw[<-c.o])⟩
 | [f],c,g =>
  obtain⟨j,al,a5,W,V,a0,L,A⟩:=g.o.at (i:=0) (y:=f) rfl;cases W;simp only[]at c;obtain⟨a4,a2,a3,ao,B,I,⟨qa,ql,qc,rfl⟩,⟨_,_,_,rfl⟩,_,_,_,rfl⟩:=gR.items L;have O:=gv I;have F:t.cell? ⟨j,0,none⟩=some (.int .i64 (kO f:Int)):=by have:=A 0 _ (by rw[B];rfl);rwa [Nat.zero_mul,b_]at this
  have d4:t.cell? ⟨j,4,none⟩=some (.slice qa ql qc):=by have:=A 4 _ (by rw[B];rfl);rwa [Nat.zero_mul,b_]at this
  have x:Hid (oQ [kt f] t (.slice (some ⟨j,0,none⟩) 1 M)):=⟨q,k,[f],g.o.base,rfl⟩;clear L A V g I B;by_cases o:kO f=4
  ·rw[aA o]at c;rw[o]at F;go_wp2_with fail;refine(oq _).mono ?_;rintro e w' ⟨rfl,a⟩;have a:=a.symm;subst a;go_wp2;go_ret;exact .some_ l.o c.o.symm x.o
  ·rw[au o]at c;have t4:((kO f:Int)==4)=false:=by simp;omega
   by_cases r:kO f=6
   ·rw[aA r]at c;rw[r]at F;clear o t4;go_wp2_with fail;refine(oq _).mono ?_;rintro e w' ⟨rfl,a⟩;have a:=a.symm;subst a;go_wp2_with fail;refine(oq _).mono ?_;rintro e w' ⟨rfl,a⟩;have a:=a.symm;subst a;go_wp2;go_ret;exact .some_ l.o c.o.symm O.o
   ·rw[au r]at c;have t6:((kO f:Int)==6)=false:=by simp;omega
    generalize (kO f:Int)=ky at *;clear o r;go_wp2_with fail;refine(oq _).mono ?_;rintro e w' ⟨rfl,a⟩;have a:=a.symm;subst a;go_wp2_with fail;refine(sn _).mono ?_;rintro e w' ⟨rfl,rfl⟩;exact⟨rfl,.none_ l.o c.o.symm⟩
theorem C7:(Tryz.prog.info? 3).map (λa=>(a.zero,a.size,a.bytes))=some (some (.int .i64 0),1,8):=by kernel_rfl
def rE(e:Option (List Nat))(w:World)(a:Ending)(w':World):Prop:=
 Below w.heap.size w w'/\match e with
  |some b=>∃c,a=.returned c/\w'.ownsRow w.heap.size 3 1 c b.length (b.map λd:Nat=>.int .i64 (d:Int))
  |none=>a=gU 4
theorem rE.none_{a:Option (List Nat)}(b:Below w.heap.size w w')(c:a=none):rE a w (gU 4) w':=by subst c;exact⟨b,rfl⟩
theorem rE.some_{c:Option (List Nat)}{a:List Nat}{v:Value}(b:Below w.heap.size w w')(e:c=some a)(f:w'.ownsRow w.heap.size 3 1 v a.length (a.map λd:Nat=>.int .i64 (d:Int))):rE c w (.returned v) w':=by subst e;exact⟨b,v,rfl,f⟩
theorem oQ.keep{l:List (Nat × List Nat)}{a:Value}(c:oQ l w a)(f:Below w.heap.size w w'):oQ l w' a:=by obtain⟨P,k,b,d,e⟩:=c;exact⟨P,k,b,d.keep f,e⟩
theorem oQ.len{l:List (Nat × List Nat)}{v:Value}(d:oQ l w v):∃a b,v=.slice a l.length b:=by obtain⟨P,k,g,e,f⟩:=d;obtain⟨a,b,c⟩:=e.len;exact⟨a,b,by rw[c,<-f,av]⟩
theorem oQ.at{l:List (Nat × List Nat)}{v:Value}(p:oQ l w v){i:Nat}{x:Nat × List Nat}(a:l[i]?=some x) :
  ∃g c,v=.slice (some ⟨g,0,none⟩) l.length c/\∃(n:Int) (pp:Nat) (ia:Option Addr) (f ic:Nat) (ka:Option Addr) (h kc:Nat) (fa:Option Addr) (b fc:Nat),∀j m,([.int .i64 (x.1:Int),.int .i64 n,.int .i64 (pp:Int),.string (gC x.2),.slice ia f ic,.slice ka h kc,.slice fa b fc]:List Value)[j]?=some m->w.cell? ⟨g,i*7+j,none⟩=some m:=by
 obtain⟨P,k,o,q,rfl⟩:=p;rw[bj]at a;cases d:o[i]? with
 |none=>rw[d]at a;cases a
 |some y=>rw[d]at a;cases a;obtain⟨g,c,t,e,_,_,s,r⟩:=q.at d;obtain⟨pp,ia,f,ic,ka,h,kc,fa,b,fc,rfl⟩:=gR.form2 s;exact⟨g,c,by rw[e,av],rZ y,pp,ia,f,ic,ka,h,kc,fa,b,fc,r⟩
theorem Fp{k:Nat}{b:gz (VT k)}(e:xS (k:=k+1) b){d:List (Nat × List Nat)}(a:jt b=some d):d.length<=200000:=by
 unfold jt at a;have h3:∀c∈b.items,xS c:=e.2.2;split at a;·cases a;simp
 ·next c f =>
  have g:c∈b.items:=sR (s:={ data:=#[70,105,108,116,101,114] }) (ks:=b.keys) (by rw[f];simp);split at a;·cases a;simp
  ·split at a
   ·cases a;have:=h3 c g;cases k with
    |zero=>exact aE _
    |succ k=>unfold iK;rw[av];exact this.1
   ·cases a
 ·cases a
theorem CW{a4:Nat->Prop}{k:Nat}{V:Value}{l:gz (VT k)}(o:gR a4 (k+1) w V l)(hl:l.keys.length=l.items.length)(S:xS (k:=k+1) l) :
  Calls Tryz.prog 310 #[V] w (rE (jx l) w):=by
 obtain⟨i0,hi,a9,ba,bb⟩:=bu C7;obtain⟨k0,k1,k2,k3,ja,jl,jc,bc,I,bd,a5,F,a6,a8⟩:=gR.form o;have W:Hid (∀D:World,Below w.heap.size w D->Calls Tryz.prog 331 #[V] D (rF (jt l) D)):=
  λD b=>IY (gR.keep (k+1) o (λh _ hg=>b.block h hg)) hl S.1
 subst a8;clear o;have C:Hid (Below w.heap.size w (w.alloc (.cells #[.int .i64 k0,.int .i64 k1,.int .i64 k2,.string k3,.slice ja jl jc,.slice bc I bd,.slice a5 F a6] 67))):=
  (aj _ _).alloc (af _) _
 have v:=gv (W.o _ C.o);obtain⟨y,R⟩:∃y,jx l=y:=⟨_,rfl⟩;have d:=gv R;unfold jx at d;rw[R];clear R W;cases e1:jt l with
 |none=>rw[e1]at v d;go_enter Tryz.func310,Tryz.ntmps310;go_wp2_with fail;refine v.o.mono ?_;rintro g i ⟨E,h2⟩;simp only[]at h2;subst h2;exact⟨rfl,.none_ (C.o.trans (E.mono (by simp))) d.o.symm⟩
 |some q =>
  have ao:=Fp S e1;rw[e1]at v d;simp only[]at d;clear e1 hl S;go_enter Tryz.func310,Tryz.ntmps310;go_wp2_with fail;refine v.o.mono ?_;rintro g i ⟨E,v2,rfl,T⟩;have f:=gv (C.o.trans (E.mono (by simp)));have X:=gv T;obtain⟨na,nc,rfl⟩:=T.len;obtain⟨A,z⟩:∃A,q.length=A:=⟨_,rfl⟩;rw[z]at X;rw[z];have x:=gv z;clear T E v C;have bm:A<=200000:=by rw[<-z];exact ao
  clear z ao;go_wp2;go_loopw [3,10] (λlv U wr=>∃(c:Nat) (e:List Nat),c<=A/\e.length<=c/\U=.int .i64 c/\Hid (wr.ownsRow i.heap.size 3 1 lv e.length (e.map λO:Nat=>.int .i64 (O:Int)))/\Hid (Below i.heap.size i wr)/\Hid ((lL (q.drop c)).map (λr=>e++r)=y)) (λ_ U _=>A-(intOf U).toNat)
  case atStart=>exact⟨0,[],aE _,af _,rfl,bk _ _ _ _,aj _ _,by unfold Hid;rw[<-d.o];simp⟩
  clear d
  case round =>
   obtain⟨c,e,p,bq,rfl,N,t,d⟩:=hrel;rcases bN p with p | p
   ·subst p;rw[<-x.o,dY]at d;go_wp2;go_ret;exact .some_ (f.o.trans (t.o.mono f.o.size)) (by rw[<-d.o];simp[lL]) (zX N.o f.o.size)
   ·obtain⟨u,H⟩:∃u,q[c]?=some u:=⟨_,ai (by rw[x.o];exact p)⟩;have ac:q.drop c=u::q.drop (c+1):=by rw[bU (by rw[x.o];exact p)];congr 1;rw[ai (by rw[x.o];exact p)]at H;simpa using H
    rw[ac]at d;obtain⟨h,bi,al,nn,pp,ia,il,ic,ka,I,kc,fa,F,fc,m⟩:=(X.o.keep t.o).at H;rw[x.o]at al;cases al;have Z:wr.cell? ⟨h,c*7,none⟩=some (.int .i64 (u.1:Int)):=m 0 _ rfl;have d1:wr.cell? ⟨h,c*7+1,none⟩=some (.int .i64 nn):=m 1 _ rfl;have d2:wr.cell? ⟨h,c*7+2,none⟩=some (.int .i64 pp):=m 2 _ rfl;have d3:wr.cell? ⟨h,c*7+3,none⟩=some (.string (gC u.2)):=m 3 _ rfl;have d4:wr.cell? ⟨h,c*7+4,none⟩=some (.slice ia il ic):=m 4 _ rfl;have d5:wr.cell? ⟨h,c*7+5,none⟩=some (.slice ka I kc):=m 5 _ rfl;have d6:wr.cell? ⟨h,c*7+6,none⟩=some (.slice fa F fc):=m 6 _ rfl;obtain⟨K,B⟩:=u;simp only[]at Z d3;have bn:=sN (gC B);have n:Hid ((if K=4/\1<=lY (gC B)then(lL (q.drop (c+1))).map λr=>lY (gC B)::r else none).map (λr=>e++r)=y):=d;have M:=gv (JF (gC B));generalize gC B=Y at *;generalize lY Y=j at *;clear m H ac d;have Q:i.heap.size<=wr.heap.size:=t.o.size;by_cases P:K=4
    ·subst P;by_cases hF:1<=j
     ·rw[aA ⟨rfl,hF⟩]at n;have a3:Hid ((lL (q.drop (c+1))).map (λr=>(e++[j])++r)=y):=by unfold Hid;rw[<-n.o,Option.map_map];congr 1;funext r;simp
      clear n;go_wp2_with fail;refine(M.o _).mono ?_;rintro g J ⟨rfl,a⟩;have a:=a.symm;subst a;go_wp2_with fail;refine(pG _ 1 4 _ (by omega) (by omega)).mono ?_;rintro g J ⟨rfl,a⟩;have a:=a.symm;subst a;go_wp2_with fail;refine(oq _).mono ?_;rintro g w' ⟨rfl,a⟩;have a:=a.symm;subst a;go_wp2_with (at_builtin;refine aK _ rfl (.tmp 25) (.tmp 27) 52 rfl i.heap.size 3 i0 (.int .i64 0) 1 8 dq hi a9 ba bb rfl (by decide) _ e.length _ rfl ((N.o.alloc _).alloc _) ⟨wr.heap.size+1,0,none⟩ 1 1 [.int .i64 (j:Int)] rfl rfl ?hnews ?hone ?h63 ?hby ?hbs ?_)
      case hnews=>intro br bf G;have:=jd (wr.alloc (.cells #[.int .i64 4,.int .i64 nn,.int .i64 pp,.string Y,.slice ia il ic,.slice ka I kc,.slice fa F fc] 67)) (.cells #[.int .i64 (j:Int)] 3);rw[bM]at this;rw[aa,cb this];simpa using G
      case hone=>intro bf G;simp at G;subst G;rfl
      case h63=>unfold maxLen;omega
      case hby=>omega
      case hbs=>simp;omega
      intro v6 w6 a0 ad _;have a2:Hid (w6.ownsRow i.heap.size 3 1 v6 (e++[j]).length ((e++[j]).map λO:Nat=>.int .i64 (O:Int))):=by unfold Hid;rw[ab,aH];exact a0
      have a1:Hid (Below i.heap.size i w6):=((t.o.alloc Q _).alloc (by simp;omega) _).grown ad (by simp;omega) (λk hk=>(N.o.lt k hk).1);clear a0 ad Z d1 d2 d3 d4 d5 d6;go_wp2;go_roundw
      case rel=>exact⟨c+1,e++[j],by omega,by simp;omega,by first | rfl | (congr 1),a2,a1,a3⟩
      case measure=>simp[intOf];omega
     ·rw[au (λo=>hF o.2)]at n;have a7:j=0:=by omega
      subst a7;have L:Hid (∀s:Obj,Below w.heap.size w (wr.alloc s)):=λs=>(f.o.trans (t.o.mono f.o.size)).alloc (aD f.o.size Q) s;go_wp2_with fail;refine(M.o _).mono ?_;rintro g J ⟨rfl,a⟩;have a:=a.symm;subst a;go_wp2_with fail;refine(sF _ 1 4 _ (by omega)).mono ?_;rintro g J ⟨rfl,a⟩;have a:=a.symm;subst a;go_wp2_with fail;refine(sn _).mono ?_;rintro g w' ⟨rfl,a⟩;have a:=a.symm;subst a;exact⟨rfl,.none_ (L.o _) n.o.symm⟩
    ·rw[au (λo=>P o.1)]at n;have t4:((K:Int)==4)=false:=by simp;omega
     have L:Hid (∀s:Obj,Below w.heap.size w (wr.alloc s)):=λs=>(f.o.trans (t.o.mono f.o.size)).alloc (aD f.o.size Q) s;generalize (K:Int)=z1 at *;clear P;go_wp2_with fail;refine(M.o _).mono ?_;rintro g J ⟨rfl,a⟩;have a:=a.symm;subst a;go_wp2_with fail;refine(sn _).mono ?_;rintro g w' ⟨rfl,a⟩;have a:=a.symm;subst a;exact⟨rfl,.none_ (L.o _) n.o.symm⟩
def jM(a:ByteArray):Bool:=decide (a.size<=60) && !(a.data.toList.contains 0)
def lu(a:List (List Nat))(b:Nat):Bool:=decide (a.length=b)&&(a.all λc=>jM (gC c))&&decide ((a.map gC).Nodup)
def kD(a:Int)(pF:Nat):Bool:=(decide (pF=0)||decide (a.tmod 10≠0))&&decide (pF<=5)&&decide (-999999999<=a/\a<=999999999)
def lj(a:ByteArray):Bool:=decide (a={ data:=#[76,101,110,103,116,104] })||decide (a={ data:=#[70,105,108,116,101,114] })||decide (a={ data:=#[68,101,99,111,100,101,80,97,114,109,115] })
def lz{d:Type}(a:gz d):Bool:=lu a.keys a.items.length&&decide ((gC a.text).size<=20000)&&decide (a.filters.length<=4)&&(a.keys.all λc => !lj (gC c))&&(a.filters.all λb=>decide (1<=b/\b<=4))
def lO{α:Type}(a:gz α):Bool:=match a.kind with
 |0=>true
 |6=>true
 |9=>true
 |1=>decide (0<=a.n/\a.n<=1)
 |2=>decide (-2147483648<=a.n/\a.n<=2147483647)
 |3=>kD a.n a.places
 |4=>jM (gC a.text)
 |5=>decide ((gC a.text).size<=4000)
 |7=>lu a.keys a.items.length
 |8=>lz a
 |_=>false
def lX{α:Type}(a:gz α):Bool:=
 (decide (a.kind=1\/a.kind=2\/a.kind=9\/a.kind=3)||decide (a.n=0))&&(decide (a.kind=3)||decide (a.places=0))&&(decide (a.kind=4\/a.kind=5\/a.kind=8)||decide (a.text=[])) &&
 (decide (a.kind=6\/a.kind=7\/a.kind=8)||decide (a.items=[]))&&(decide (a.kind=7\/a.kind=8)||decide (a.keys=[]))&&(decide (a.kind=8)||decide (a.filters=[]))
def kG{α:Type}(objs a b:Nat)(V:gz α):Bool:=decide (b+V.items.length<=2000) && !(decide (V.kind=8/\1<a)) && !(decide (V.kind=9/\¬ (1<=V.n/\V.n<=(objs:Int))))&&lX V&&lO V
def jD(objs:Nat):(k:Nat)->Nat->List (VT k)->Option Nat
 |0,a,_=>some a
 |k+1,a,b=>b.foldlM (λ(a:Nat) (V:gz (VT k))=>if kG objs (12-k) a V=true then jD objs k (a+V.items.length) V.items else none) a
def kn(a:List (VT 12))(root:Int):Bool:=decide (1<=a.length/\a.length<=100)&&decide (1<=root/\root<=(a.length:Int))&&decide ((a[(root-1).toNat]?).map (λb:VT 12=>gz.kind (α:=VT 11) b)=some 7)&&(jD a.length 12 a.length a).isSome
theorem FM:∀a:List UInt8,(Lib.indexByte a 0<0)↔a.contains 0=false
 | []=>by simp[Lib.indexByte]
 |b::a=>by
  have ih:=FM a;have i:∀a:List UInt8,-1<=Lib.indexByte a 0:=by
   intro a;induction a with
   |nil=>simp[Lib.indexByte]
   |cons b a k =>
    unfold Lib.indexByte;split;·omega
    ·split;·omega
     ·omega
  have j:=i a;unfold Lib.indexByte;by_cases c:b=0;·subst c;simp
  ·have f:(b==0)=false:=by simpa using c
   have g:¬ (0=b):=λe=>c e.symm;rw[f,List.contains_cons];have h:((0:UInt8)==b)=false:=by simpa using g
   rw[h,Bool.false_or,<-ih];by_cases d:Lib.indexByte a 0 = -1;·simp[d]
   ·have:(Lib.indexByte a 0 == -1)=false:=by simpa using d
    rw[this];simp only[Bool.false_eq_true,if_false];omega
theorem Jc(a:ByteArray)(w:World) :
  Calls Tryz.prog 286 #[.string a,.int .u8 0] w λe w'=>e=.returned (.int .i64 (Lib.indexByte a.data.toList 0))/\w'=w:=by
 have c:Calls Tryz.prog 318 #[.string a,.int .u8 0] w λe w'=>e=.returned (.int .i64 (Lib.indexByte a.data.toList 0))/\w'=w:=by go_enter Tryz.func318,Tryz.ntmps318;go_wp2;rw[run_callFunc_extern Tryz.func333 (by kernel_rfl) (by kernel_rfl) (by kernel_rfl) (e:=Extern.BytealgIndexByte.indexByte) (by kernel_rfl),Lib.run_indexByteString];simp only[Result.andThen];rw[Oper.upon_value];go_wp2;go_ret;exact⟨rfl,rfl⟩
 have d:=gv c;clear c;go_enter Tryz.func286,Tryz.ntmps286;go_wp2_with fail;refine d.o.mono ?_;rintro e w' ⟨rfl,b⟩;have b:=b.symm;subst b;go_wp2;go_ret;exact⟨rfl,rfl⟩
theorem AL(a:ByteArray)(w:World) :
  Calls Tryz.prog 231 #[.string a] w λg w'=>g=.returned (.bool (jM a))/\w'=w:=by
 by_cases h:a.size<=60
 ·have d:=FM a.data.toList;have j:=gv (Jc a w);generalize Lib.indexByte a.data.toList 0=i at *;have b:jM a=decide (i<0):=by
   unfold jM;rw[aL h,dJ];by_cases f:i<0;·rw[d.1 f];simp[f]
   ·have c:a.data.toList.contains 0=true:=by
     cases c:a.data.toList.contains 0 with
     |true=>rfl
     |false=>exact absurd (d.2 c) f
    rw[c];simp;omega
  rw[b];clear d b;go_enter Tryz.func231,Tryz.ntmps231;go_wp2_with fail;refine j.o.mono ?_;rintro g w' ⟨rfl,e⟩;have e:=e.symm;subst e;go_wp2;go_ret;exact⟨rfl,rfl⟩
 ·have b:jM a=false:=by unfold jM;rw[a_ h];rfl
  rw[b];go_enter Tryz.func231,Tryz.ntmps231;go_wp2;go_ret;exact⟨rfl,rfl⟩
theorem Es(a c b:Int)(w:World):Calls Tryz.prog 63 #[.int .i64 a,.int .i64 c,.int .i64 b] w λe w'=>e=.returned (.bool (decide (c<=a/\a<=b)))/\w'=w:=by
 by_cases d:c<=a/\a<=b;·rw[aL d];exact pG a c b w d.1 d.2
 ·rw[a_ d];exact sF a c b w (by omega)
theorem Db(a:Int)(d:Nat)(w:World) :
  Calls Tryz.prog 230 #[.int .i64 a,.int .i64 (d:Int)] w λf w'=>f=.returned (.bool (kD a d))/\w'=w:=by
 have l:=gv (Es a (-999999999) 999999999 w);by_cases g:d<=5
 ·have i:=gv (pG (d:Int) 0 5 w (by omega) (by omega));by_cases h:d=0
  ·have c:kD a d=decide (-999999999<=a/\a<=999999999):=by unfold kD;rw[aL g,aL h];rfl
   rw[c];generalize decide (-999999999<=a/\a<=999999999)=m at *;subst h;clear c;go_enter ge,f_;go_wp2_with fail;refine i.o.mono ?_;rintro f w' ⟨rfl,b⟩;have b:=b.symm;subst b;go_wp2_with fail;refine l.o.mono ?_;rintro f w' ⟨rfl,b⟩;have b:=b.symm;subst b;go_wp2;go_ret;exact⟨rfl,rfl⟩
  ·have n:((d:Int)==0)=false:=by simp;omega
   by_cases e:a.tmod 10=0
   ·have c:kD a d=false:=by unfold kD;rw[a_ h,a_ (by simpa using e)];rfl
    rw[c];have j:(a.tmod 10==0)=true:=by simp[e]
    have k:(a.tmod 10 != 0)=false:=by simp[e]
    clear c h;go_enter ge,f_;go_wp2;go_ret;exact⟨rfl,rfl⟩
   ·have c:kD a d=decide (-999999999<=a/\a<=999999999):=by unfold kD;rw[aL g,aL e,Bool.or_true];rfl
    rw[c];generalize decide (-999999999<=a/\a<=999999999)=m at *;have j:(a.tmod 10==0)=false:=by simp[e]
    have k:(a.tmod 10 != 0)=true:=by simp[e]
    clear c h;go_enter ge,f_;go_wp2_with fail;refine i.o.mono ?_;rintro f w' ⟨rfl,b⟩;have b:=b.symm;subst b;go_wp2_with fail;refine l.o.mono ?_;rintro f w' ⟨rfl,b⟩;have b:=b.symm;subst b;go_wp2;go_ret;exact⟨rfl,rfl⟩
 ·have i:=gv (sF (d:Int) 0 5 w (by omega));have c:kD a d=false:=by unfold kD;rw[a_ g,Bool.and_false];rfl
  rw[c];have n:((d:Int)==0)=false:=by simp;omega
  by_cases e:a.tmod 10=0
  ·have j:(a.tmod 10==0)=true:=by simp[e]
   have k:(a.tmod 10 != 0)=false:=by simp[e]
   clear c g;go_enter ge,f_;go_wp2;go_ret;exact⟨rfl,rfl⟩
  ·have j:(a.tmod 10==0)=false:=by simp[e]
   have k:(a.tmod 10 != 0)=true:=by simp[e]
   clear c g;go_enter ge,f_;go_wp2_with fail;refine i.o.mono ?_;rintro f w' ⟨rfl,b⟩;have b:=b.symm;subst b;go_wp2;go_ret;exact⟨rfl,rfl⟩
end
end Go.Proofs.YtgkljcmjnphpeaaGreatDoor
