import Derived.Test.YtgkljcmjnphpeaaGreatDoorK04
set_option linter.unusedVariables false
set_option linter.unusedSimpArgs false
set_option maxHeartbeats 4000000
set_option maxRecDepth 100000
namespace Go.Proofs.YtgkljcmjnphpeaaGreatDoor
open Go.RowKit
section
def oH:List Nat->Bool
 | []=>false
 |b::_=>decide (48<=b)&&decide (b<=55)
def kF:Nat->Nat->List Nat->Nat × List Nat
 |0,a,r=>(a,r)
 |k+1,a,r=>if oH r then kF k (8*a+(r.headD 0-48)) r.tail else(a,r)
def kp(r:List Nat):Nat × List Nat:=kF 3 0 r
def mh(b:Nat):Option Nat:=if b=110 then some 10 else if b=114 then some 13 else if b=116 then some 9 else if b=98 then some 8 else if b=102 then some 12 else if b=40\/b=41\/b=92 then some b else none
def jW(r:List Nat):Option (List Nat × List Nat):=
 match iG r with
 |some c=>some ([],c)
 |none=>if oH r then(if(kp r).1<=255 then some ([(kp r).1],(kp r).2)else none)else match r with
  | []=>none
  |b::d=>match mh b with
   |none=>none
   |some a=>some ([a],d)
variable{B f d:Nat}{s:Option Addr}{a:List Nat}{y z A:Value}{w w':World}{r q:List Nat}
variable{C:World}{D:Value}{g:List Nat}
theorem Bh(c:Sc B f s d a y z A w r) :
  Calls Tryz.prog 324 #[.pointer (some ⟨f,0,none⟩)] w λk w'=>k=.returned (.bool (oH r))/\∃l,w'=w.drewN l:=by
 have h:=gv c;cases r with
 |nil =>
  have n:decide ((0:Int)<(([]:List Nat).length:Int))=false:=by simp
  clear c;go_enter Tryz.func324,Tryz.ntmps324;go_wp2_with fail;go_quiet ((go_at_call 190;exact fD (vY (h.o.drewN _))));go_wp2;go_ret;exact⟨rfl,nq,rfl⟩
 |cons b e =>
  obtain⟨G,_,u,o,I,rfl,v,x⟩:=c.cons;have p:=c.c0;have t:=c.c1;have F:=c.len;have E:=c.lc;have n:decide ((0:Int)<((b::e).length:Int))=true:=by simp only[ag,cQ];omega
  clear c;have e1:(decide ((48:Int)<=(b:Int))&&decide ((b:Int)<=55))=oH (b::e):=by unfold oH;rw[aZ];simp;omega
  have i:=gv (λj=>xR (b:Int) 48 55 j);rw[e1]at i;clear e1;generalize oH (b::e)=J at *;generalize a.length-(b::e).length=m at *;have H:(m:Int)<(a.length:Int):=by omega
  go_enter Tryz.func324,Tryz.ntmps324;go_wp2_with fail;go_quiet (first | (go_at_call 190;exact fD (vY (h.o.drewN _))) | (go_at_call 216;exact cZ (i.o _)));go_wp2;go_ret;exact⟨by simp,nq,rfl⟩
theorem F9:∀(k b:Nat) (r:List Nat),(kF k b r).2 <:+ r
 |0,b,r=>eT _
 |k+1,b,r=>by
  simp only[kF];split;·exact(F9 k _ r.tail).trans (List.tail_suffix r)
  ·exact eT _
def rI(B f:Nat)(s:Option Addr)(d:Nat)(a:List Nat)(y z A:Value)(w:World)(b:Nat)(e:List Nat)(c:Ending)(w':World):Prop:=
 if b<=255 then c=.returned (.int .u8 (b:Nat))/\Sc B f s d a y z A w' e/\gQ f w w' else c=gU 4/\gQ f w w'
theorem Lm(J:Sc B f s d a y z A w r) :
  Calls Tryz.prog 325 #[.pointer (some ⟨f,0,none⟩)] w (rI B f s d a y z A w (kp r).1 (kp r).2):=by
 have H:=gv J;clear J;obtain⟨j,l,E⟩:∃j l,kp r=(j,l):=⟨_,_,rfl⟩;have I:Hid (kF 3 0 r=(j,l)):=E;rw[E];clear E;simp only[];go_enter Tryz.func325,Tryz.ntmps325;go_wp2;go_loopw [3,4] (λY G wr=>∃(k c:Nat) (q:List Nat),k<=3/\Hid (c<8^k)/\Y=.int .i64 (c:Nat)/\G=.int .i64 (k:Nat)/\Hid (Sc B f s d a y z A wr q)/\Hid (gQ f w wr)/\Hid (kF (3-k) c q=(j,l))) (λ_ G _=>3-(intOf G).toNat)
 case atStart=>exact⟨0,0,r,by omega,gv (by omega),rfl,rfl,H,gQ.refl _ _,I⟩
 clear H I
 case round =>
  obtain⟨k,c,q,V,x,rfl,rfl,v,t,n⟩:=hrel;have Z:c<512:=by have:(8:Nat)^k<=8^3:=cy (by omega) V;have:=x.o;omega
  have m:=gv (Bh v.o);by_cases ac:k<3
  ·have W:decide ((k:Int)<3)=true:=by simp;omega
   cases i:oH q
   ·rw[i]at m;obtain⟨rfl,rfl⟩:c=j/\q=l:=by have:=n.o;obtain⟨p,F⟩:∃p,3-k=p+1:=⟨2-k,by omega⟩;rw[F,kF,i]at this;simpa using this
    clear n i;by_cases u:c<=255
    ·have X:IntKind.u8.wrap (c:Int)=(c:Int):=by rw[fj];omega
     go_wp2_with fail;refine m.o.mono ?_;rintro e O ⟨rfl,h,rfl⟩;go_wp2_with fail;refine(pG (c:Int) 0 255 _ (by omega) (by omega)).mono ?_;rintro e w' ⟨rfl,rfl⟩;go_wp2_with fail;refine(oq _).mono ?_;rintro e w' ⟨rfl,rfl⟩;go_wp2;go_ret;unfold rI;rw[aA u];exact⟨rfl,v.o.drewN h,t.o.drewN h⟩
    ·go_wp2_with fail;refine m.o.mono ?_;rintro e O ⟨rfl,h,rfl⟩;go_wp2_with fail;refine(sF (c:Int) 0 255 _ (Or.inr (by omega))).mono ?_;rintro e w' ⟨rfl,rfl⟩;go_wp2_with fail;refine(sn _).mono ?_;rintro e w' ⟨rfl,rfl⟩;refine⟨rfl,?_⟩;unfold rI;rw[au u];exact⟨rfl,t.o.drewN h⟩
   ·rw[i]at m;cases q with
    |nil=>cases i
    |cons b N =>
     have hb:48<=b/\b<=55:=by simpa[oH]using i
     have R:Hid (kF (3-(k+1)) (8*c+(b-48)) N=(j,l)):=by have:=n.o;obtain⟨p,F⟩:∃p,3-k=p+1:=⟨2-k,by omega⟩;rw[F,kF,i]at this;unfold Hid;rw[show 3-(k+1)=p by omega];simpa using this
     have S:Hid (8*c+(b-48)<8^(k+1)):=by have:=x.o;unfold Hid;rw[dG];omega
     have T:=gv (λh=>zj (v.o.drewN h));have hs:IntKind.u8.wrap ((b:Int)-48)=(b:Int)-48:=by rw[fj];omega
     have L:(c:Int)*8+((b:Int)-48)=((8*c+(b-48):Nat):Int):=by omega
     have Q:=gv L;clear n i L x;go_wp2_with fail;refine m.o.mono ?_;rintro e O ⟨rfl,h,rfl⟩;go_wp2_with fail;refine(T.o h).mono ?_;rintro e w2 ⟨rfl,K,M⟩;have P:=gv K;have U:=gv ((t.o.drewN h).trans M);clear K M;go_wp2;go_roundw
     case rel=>exact⟨k+1,8*c+(b-48),N,by omega,S,by rw[<-Q.o],by go_num,P,U,R⟩
     case measure=>simp[intOf];omega
  ·have W:decide ((k:Int)<3)=false:=by simp;omega
   obtain⟨rfl,rfl⟩:c=j/\q=l:=by have:=n.o;rw[show 3-k=0 by omega,kF]at this;simpa using this
   clear n m;by_cases u:c<=255
   ·have X:IntKind.u8.wrap (c:Int)=(c:Int):=by rw[fj];omega
    go_wp2_with fail;refine(pG (c:Int) 0 255 _ (by omega) (by omega)).mono ?_;rintro e w' ⟨rfl,rfl⟩;go_wp2_with fail;refine(oq _).mono ?_;rintro e w' ⟨rfl,rfl⟩;go_wp2;go_ret;unfold rI;rw[aA u];exact⟨rfl,v.o,t.o⟩
   ·go_wp2_with fail;refine(sF (c:Int) 0 255 _ (Or.inr (by omega))).mono ?_;rintro e w' ⟨rfl,rfl⟩;go_wp2_with fail;refine(sn _).mono ?_;rintro e w' ⟨rfl,rfl⟩;refine⟨rfl,?_⟩;unfold rI;rw[au u];exact⟨rfl,t.o⟩
def pg(b:Nat)(w:World)(c:Ending)(w':World):Prop:=
 match mh b with
 |some e=>c=.returned (.int .u8 (e:Nat))/\w'=w
 |none=>c=gU 4/\w'=w
theorem KZ(w:World):Calls Tryz.prog 326 #[.int .u8 (110:Nat)] w (pg 110 w):=by go_enter eI,eq;go_wp2;go_ret;exact⟨rfl,rfl⟩
theorem KG(w:World):Calls Tryz.prog 326 #[.int .u8 (114:Nat)] w (pg 114 w):=by go_enter eI,eq;go_wp2;go_ret;exact⟨rfl,rfl⟩
theorem KF(w:World):Calls Tryz.prog 326 #[.int .u8 (116:Nat)] w (pg 116 w):=by go_enter eI,eq;go_wp2;go_ret;exact⟨rfl,rfl⟩
theorem s9(w:World):Calls Tryz.prog 326 #[.int .u8 (98:Nat)] w (pg 98 w):=by go_enter eI,eq;go_wp2;go_ret;exact⟨rfl,rfl⟩
theorem DR(w:World):Calls Tryz.prog 326 #[.int .u8 (102:Nat)] w (pg 102 w):=by go_enter eI,eq;go_wp2;go_ret;exact⟨rfl,rfl⟩
theorem s4(w:World):Calls Tryz.prog 326 #[.int .u8 (40:Nat)] w (pg 40 w):=by go_enter eI,eq;go_wp2_with (go_at_call 99;refine(oq _).mono ?_;rintro b w' ⟨rfl,rfl⟩);go_ret;exact⟨rfl,rfl⟩
theorem K0(w:World):Calls Tryz.prog 326 #[.int .u8 (41:Nat)] w (pg 41 w):=by go_enter eI,eq;go_wp2_with (go_at_call 99;refine(oq _).mono ?_;rintro b w' ⟨rfl,rfl⟩);go_ret;exact⟨rfl,rfl⟩
theorem K_(w:World):Calls Tryz.prog 326 #[.int .u8 (92:Nat)] w (pg 92 w):=by go_enter eI,eq;go_wp2_with (go_at_call 99;refine(oq _).mono ?_;rintro b w' ⟨rfl,rfl⟩);go_ret;exact⟨rfl,rfl⟩
theorem La(b:Nat)(w:World):Calls Tryz.prog 326 #[.int .u8 (b:Nat)] w (pg b w):=by
 by_cases e:b=110;·subst e;exact KZ w
 by_cases h:b=114;·subst h;exact KG w
 by_cases i:b=116;·subst i;exact KF w
 by_cases j:b=98;·subst j;exact s9 w
 by_cases c:b=102;·subst c;exact DR w
 by_cases k:b=40;·subst k;exact s4 w
 by_cases l:b=41;·subst l;exact K0 w
 by_cases m:b=92;·subst m;exact K_ w
 have u:((b:Int)==110)=false:=by simp;omega
 have v:((b:Int)==114)=false:=by simp;omega
 have x:((b:Int)==116)=false:=by simp;omega
 have H:((b:Int)==98)=false:=by simp;omega
 have t:((b:Int)==102)=false:=by simp;omega
 have E:((b:Int)==40)=false:=by simp;omega
 have F:((b:Int)==41)=false:=by simp;omega
 have G:((b:Int)==92)=false:=by simp;omega
 have n:Hid (mh b=none):=by unfold Hid mh;rw[au e,au h,au i,au j,au c,au (by omega)]
 clear e h i j c k l m;go_enter eI,eq;go_wp2_with fail;refine(sn _).mono ?_;rintro p w' ⟨rfl,rfl⟩;refine⟨rfl,?_⟩;unfold pg;rw[n.o];exact⟨rfl,rfl⟩
def lK(C:World)(B f:Nat)(s:Option Addr)(d:Nat)(a:List Nat)(y z A:Value)(g:List Nat)(h:Option (List Nat × List Nat))(b:Ending)(w':World):Prop:=
 match h with
 |some (e,q)=>∃c,b=.returned c/\Bu C B f s d a y z A w' q c (g++e)
 |none=>b=gU 4/\gQ f C w'
theorem lK.none_{b:Option (List Nat × List Nat)}(c:b=none)(k:gQ f C w'):lK C B f s d a y z A g b (gU 4) w':=by subst c;exact⟨rfl,k⟩
theorem lK.some_{c:Option (List Nat × List Nat)}{b q:List Nat}{v:Value}(e:c=some (b,q))(h:Bu C B f s d a y z A w' q v (g++b)):lK C B f s d a y z A g c (.returned v) w':=by subst e;exact⟨v,rfl,h⟩
theorem Ce{r q:List Nat}(b:iG r=some q):q.length+1<=r.length:=by
 unfold iG at b;cases e1:gH [13,10] r with
 |some c=>rw[e1]at b;cases b;have:=(ie e1).1;simp only[ag,aw]at this;omega
 |none =>
  cases e2:gH [10] r with
  |some c=>rw[e1,e2]at b;cases b;have:=(ie e2).1;simp only[ag,aw]at this;omega
  |none=>rw[e1,e2]at b;have:=(ie (show gH [13] r=some q from b)).1;simp only[ag,aw]at this;omega
theorem Ga{r:List Nat}(c:oH r=true):(kp r).2.length+1<=r.length:=by
 cases r with
 |nil=>cases c
 |cons b e=>unfold kp;rw[kF,aA c];have:=(F9 2 (8*0+((b::e).headD 0-48)) (b::e).tail).length_le;simp only[List.tail_cons,ag]at this ⊢;omega
theorem Ea(N:Bu C B f s d a y z A w q D g) :
  Calls Tryz.prog 305 #[.pointer (some ⟨f,0,none⟩),D] w (lK C B f s d a y z A g (jW q)):=by
 obtain⟨i0,Y,Z,ac,ad⟩:=bu Tryz.infoByte;have Q:=gv N;have E:=gv (Cr N.sc);have a3:=N.sc.len;clear N;obtain⟨n,U⟩:∃n,jW q=n:=⟨_,rfl⟩;rw[U];have m:=gv U;clear U;cases i:iG q with
 |some q1 =>
  rw[i]at E;have T:Hid (n=some ([],q1)):=by unfold Hid;rw[<-m.o];unfold jW;rw[i]
  have a2:=Ce i;clear i m;go_enter Tryz.func305,Tryz.ntmps305;go_wp2_with fail;refine E.o.mono ?_;rintro j V ⟨rfl,H,K⟩;have e:=gv (Q.o.step (show Sc B f s d a y z A V q1 from H) K (by omega));clear H K;go_wp2;go_ret;exact lK.some_ T.o (by rw[ct];exact e.o)
 |none =>
  rw[i]at E;go_enter Tryz.func305,Tryz.ntmps305;go_wp2_with fail;refine E.o.mono ?_;rintro j V ⟨rfl,H,K⟩;have e:=gv (Q.o.step (show Sc B f s d a y z A V q from H) K (af _));have p:=gv (Bh e.o.sc);clear H K E Q;cases k:oH q
  ·rw[k]at p;cases q with
   |nil =>
    have T:Hid (n=none):=by unfold Hid;rw[<-m.o];unfold jW;rw[i];simp[k]
    have M:=gv (λc=>Bg (e.o.drewN c).sc);clear i k m;go_wp2_with fail;refine p.o.mono ?_;rintro j w2 ⟨rfl,c,rfl⟩;go_wp2_with fail;refine(M.o c).mono ?_;rintro j x ⟨rfl,m3,rfl⟩;exact⟨rfl,lK.none_ T.o ((e.o.drewN c).only.drewN m3)⟩
   |cons b a0 =>
    have M:=gv (λc=>zj (e.o.drewN c).sc);have h:Hid (n=match mh b with | none=>none | some G=>some ([G],a0)):=by unfold Hid;rw[<-m.o];unfold jW;rw[i];simp[k]
    clear i k m;go_wp2_with fail;refine p.o.mono ?_;rintro j w2 ⟨rfl,c,rfl⟩;go_wp2_with fail;refine(M.o c).mono ?_;rintro j x ⟨rfl,h3,u⟩;have l:=gv ((e.o.drewN c).step h3 u (by simp));have X:=e.o.few;clear h3 u M p e;have t:=gv (La b x);unfold pg at t;cases P:mh b with
    |none=>rw[P]at t h;simp only[]at t h;clear P;go_wp2_with fail;refine t.o.mono ?_;rintro j w' ⟨rfl,rfl⟩;exact⟨rfl,lK.none_ h.o l.o.only⟩
    |some G =>
     rw[P]at t h;simp only[]at t h;clear P;go_wp2_with fail;refine t.o.mono ?_;rintro j w' ⟨rfl,rfl⟩;have ao:=l.o.sz;simp only[ag]at X;go_wp2_with (at_builtin;refine aK _ rfl (.tmp 15) (.tmp 19) 23 rfl C.heap.size 5 i0 (.int .u8 0) 1 1 aq Y Z ac ad rfl (by decide) D g.length _ rfl (l.o.alloc _).own ⟨w'.heap.size,0,none⟩ 1 1 ([G].map λW:Nat=>.int .u8 (W:Int)) rfl rfl (Bu.one_news G w') ?hone ?h63 ?hby ?hbs ?_)
     case hone=>intro a1 J;simp at J;subst J;rfl
     case h63=>unfold maxLen;omega
     case hby=>omega
     case hbs=>simp;omega
     intro v6 w6 L I _;have R:=gv ((l.o.alloc _).app (xs:=[G]) (by simp) L I (by simp only[ag,aw];omega));clear L I;go_wp2;go_ret;exact lK.some_ h.o R.o
  ·rw[k]at p;have v:=gv (λc=>Lm (e.o.drewN c).sc);have a4:=Ga k;have h:Hid (n=if(kp q).1<=255 then some ([(kp q).1],(kp q).2)else none):=by unfold Hid;rw[<-m.o];unfold jW;rw[i];simp[k]
   clear i k m;generalize (kp q).1=F at *;generalize (kp q).2=al at *;unfold rI at v;go_wp2_with fail;refine p.o.mono ?_;rintro j w2 ⟨rfl,c,rfl⟩;by_cases O:F<=255
   ·simp only[aA O]at v;have S:Hid (n=some ([F],al)):=by unfold Hid;rw[h.o,aA O]
    clear h;go_wp2_with fail;refine(v.o c).mono ?_;rintro j x ⟨rfl,h3,u⟩;have l:=gv ((e.o.drewN c).step h3 u (by omega));have X:=e.o.few;clear h3 u v p e;have ao:=l.o.sz;go_wp2_with (at_builtin;refine aK _ rfl (.tmp 10) (.tmp 13) 23 rfl C.heap.size 5 i0 (.int .u8 0) 1 1 aq Y Z ac ad rfl (by decide) D g.length _ rfl (l.o.alloc _).own ⟨x.heap.size,0,none⟩ 1 1 ([F].map λW:Nat=>.int .u8 (W:Int)) rfl rfl (Bu.one_news F x) ?hone ?h63 ?hby ?hbs ?_)
    case hone=>intro a1 J;simp at J;subst J;rfl
    case h63=>unfold maxLen;omega
    case hby=>omega
    case hbs=>simp;omega
    intro v6 w6 L I _;have R:=gv ((l.o.alloc _).app (xs:=[F]) (by simp) L I (by simp only[ag,aw];omega));clear L I;go_wp2;go_ret;exact lK.some_ S.o R.o
   ·simp only[au O]at v;have S:Hid (n=none):=by unfold Hid;rw[h.o,au O]
    clear h;go_wp2_with fail;refine(v.o c).mono ?_;rintro j x ⟨rfl,u⟩;exact⟨rfl,lK.none_ S.o ((e.o.drewN c).only.trans u)⟩
end
section
def iJ:Nat->Nat->List Nat->Option (List Nat × List Nat)
 |0,_,_=>none
 |d+1,c,r=>match iG r with
  |some f=>(iJ d c f).map λa=>(10::a.1,a.2)
  |none=>match r with
   | []=>none
   |b::e=>if b=92 then(match jW e with
     |none=>none
     |some (g,f)=>(iJ d c f).map λa=>(g++a.1,a.2))
    else if b=40 then(iJ d (c+1) e).map λa=>(b::a.1,a.2)
    else if b=41 then(if c=1 then some ([],e)else(iJ d (c-1) e).map λa=>(b::a.1,a.2))
    else(iJ d c e).map λa=>(b::a.1,a.2)
def lZ(r:List Nat):Option (List Nat × List Nat):=iJ (r.length+1) 1 r
theorem GY(c d:List Nat)(a:Option (List Nat × List Nat)):km c (a.map λb=>(d++b.1,b.2))=km (c++d) a:=by
 cases a with
 |none=>rfl
 |some b=>simp[km]
theorem EZ{r g h:List Nat}(a:jW r=some (g,h)):g.length+h.length<=r.length:=by
 unfold jW at a;cases c:iG r with
 |some k=>rw[c]at a;cases a;have:=Ce c;simp only[aw];omega
 |none =>
  rw[c]at a;simp only[]at a;by_cases d:oH r=true
  ·rw[aA d]at a;by_cases e:(kp r).1<=255;·rw[aA e]at a;cases a;have:=Ga d;simp only[ag,aw];omega
   ·rw[au e]at a;cases a
  ·rw[au d]at a;cases r with
   |nil=>cases a
   |cons b j =>
    simp only[]at a;cases f:mh b with
    |none=>rw[f]at a;cases a
    |some i=>rw[f]at a;cases a;simp only[ag,aw];omega
variable{B i g:Nat}{j:Option Addr}{d:List Nat}{k m n:Value}{w s:World}{r q:List Nat}
variable{y:World}{p:Value}{a:List Nat}
theorem Ln(W:Sc B i j g d k m n w r) :
  Calls Tryz.prog 254 #[.pointer (some ⟨i,0,none⟩)] w (kg B i j g d k m n tv (lZ r) w):=by
 obtain⟨i0,X,Y,Z,ac⟩:=bu Tryz.infoByte;have al:=gv (Bu.start W);have bn:=W.len;have bm:=W.le;clear W;obtain⟨t,hR⟩:∃t,lZ r=t:=⟨_,rfl⟩;rw[hR];have f:Hid (km [] (iJ (r.length+1) 1 r)=t):=by unfold Hid;rw[<-hR];unfold lZ km;cases iJ (r.length+1) 1 r<;>simp
 clear hR;go_enter Tryz.func254,Tryz.ntmps254;go_wp2;go_loopw [3,4,5] (λU bc _ wr=>∃(e c:Nat) (q a:List Nat),bc=.int .i64 (c:Nat)/\1<=c/\c+q.length<=200001/\q.length<e/\Hid (Bu w B i j g d k m n wr q U a)/\Hid (km a (iJ e c q)=t)) (λ_ _ _ wr=>d.length-posS i wr)
 case atStart=>exact⟨r.length+1,1,r,[],rfl,by omega,by omega,by omega,al,f⟩
 clear al f
 case round =>
  obtain⟨e,c,q,a,rfl,a1,a9,hf,G,f⟩:=hrel;obtain⟨e,rfl⟩:∃f',e=f'+1:=⟨e-1,by omega⟩;have S:=gv G.o.sc.posS;have ba:=G.o.sc.le;have a8:=G.o.few;have F:=gv (Cr G.o.sc);cases h:iG q with
  |some q1 =>
   rw[h]at F;have l:Hid (km (a++[10]) (iJ e c q1)=t):=by
    unfold Hid;have I:iJ (e+1) c q=(iJ e c q1).map λo=>(10::o.1,o.2):=by rw[iJ.eq_def];simp only[h]
    rw[<-f.o,<-xV,I]
   have bi:=Ce h;clear h f;go_wp2_with fail;refine F.o.mono ?_;rintro I P ⟨rfl,J,L⟩;have C:=gv (G.o.step (show Sc B i j g d k m n P q1 from J) L (by omega));clear J L F;have bb:=C.o.sz;go_wp2_with (at_builtin;refine aK _ rfl (.tmp 8) (.tmp 9) 23 rfl w.heap.size 5 i0 (.int .u8 0) 1 1 aq X Y Z ac rfl (by decide) u3 a.length _ rfl (C.o.alloc _).own ⟨P.heap.size,0,none⟩ 1 1 ([10].map λo:Nat=>.int .u8 (o:Int)) rfl rfl (Bu.one_news 10 P) ?hone ?h63 ?hby ?hbs ?_)
   case hone=>intro U z;simp at z;subst z;rfl
   case h63=>unfold maxLen;omega
   case hby=>omega
   case hbs=>simp;omega
   intro v6 w6 A x _;have v:=gv ((C.o.alloc _).app (xs:=[10]) (by simp) A x (by simp only[ag,aw];omega));have M:=gv v.o.sc.posS;clear A x;go_wp2;go_roundw
   case rel=>exact⟨e,c,q1,a++[10],rfl,a1,by omega,by omega,v,l⟩
   case measure=>rw[S.o,M.o];omega
  |none =>
   rw[h]at F;cases q with
   |nil =>
    have R:Hid (t=none):=by unfold Hid;rw[<-f.o,iJ,h];rfl
    clear h f;go_wp2_with fail;refine F.o.mono ?_;rintro I P ⟨rfl,J,L⟩;have C:=gv (G.o.step (show Sc B i j g d k m n P []from J) L (af _));have V:=gv (Bg C.o.sc);clear J L F;go_wp2_with fail;refine V.o.mono ?_;rintro I w3 ⟨rfl,m3,rfl⟩;exact⟨rfl,kg.none_ R.o (C.o.only.drewN m3)⟩
   |cons b E =>
    have bd:b<256:=G.o.sc.bytes b (by simp);simp only[ag]at a9 hf ba a8;go_wp2_with fail;refine F.o.mono ?_;rintro I P ⟨rfl,J,L⟩;have C:=gv (G.o.step (show Sc B i j g d k m n P (b::E)from J) L (af _));have V:=gv (zj C.o.sc);clear J L F;go_wp2_with fail;refine V.o.mono ?_;rintro I Q ⟨rfl,h2,k2⟩;have u:=gv (C.o.step h2 k2 (by simp));clear h2 k2 V C;by_cases K:b=92
    ·have l:Hid (km a (match jW E with | none=>none | some (ad,q)=>(iJ e c q).map λo=>(ad++o.1,o.2))=t):=by unfold Hid;rw[<-f.o,iJ,h];simp[K]
     have a6:((b:Int)==92)=true:=by rw[K];rfl
     clear h f K;have H:=gv (Ea u.o);unfold lK at H;cases T:jW E with
     |none =>
      rw[T]at H l;simp only[]at H l;have R:Hid (t=none):=by unfold Hid;rw[<-l.o];rfl
      clear T;go_wp2_with fail;refine H.o.mono ?_;rintro I w3 ⟨rfl,k3⟩;exact⟨rfl,kg.none_ R.o k3⟩
     |some o =>
      obtain⟨ad,q⟩:=o;rw[T]at H l;simp only[]at H l;have bf:=EZ T;have a3:Hid (km (a++ad) (iJ e c q)=t):=by unfold Hid;rw[<-l.o,GY]
      clear T l;go_wp2_with fail;refine H.o.mono ?_;rintro I w3 ⟨v3,rfl,h3⟩;have H3:=gv h3;have a2:=gv h3.sc.posS;have bq:=h3.sc.le;clear h3 H;go_wp2;go_roundw
      case rel=>exact⟨e,c,q,a++ad,rfl,a1,by omega,by omega,H3,a3⟩
      case measure=>rw[S.o,a2.o];simp only[ag];omega
    ·have a6:((b:Int)==92)=false:=by simp;omega
     have bb:=u.o.sz;by_cases N:b=40
     ·have l:Hid (km (a++[b]) (iJ e (c+1) E)=t):=by
       unfold Hid;rw[<-f.o,<-xV];conv=>rhs;rw[iJ,h]
       simp[N]
      have a4:((b:Int)==40)=true:=by rw[N];rfl
      have a0:((c:Int)+1==0)=false:=by simp;omega
      clear h f N K;go_wp2_with (at_builtin;refine aK _ rfl (.tmp 31) (.tmp 33) 23 rfl w.heap.size 5 i0 (.int .u8 0) 1 1 aq X Y Z ac rfl (by decide) u3 a.length _ rfl (u.o.alloc _).own ⟨Q.heap.size,0,none⟩ 1 1 ([b].map λo:Nat=>.int .u8 (o:Int)) rfl rfl (Bu.one_news b Q) ?hone ?h63 ?hby ?hbs ?_)
      case hone=>intro U z;simp at z;subst z;rfl
      case h63=>unfold maxLen;omega
      case hby=>omega
      case hbs=>simp;omega
      intro v6 w6 A x _;have v:=gv ((u.o.alloc _).app (xs:=[b]) (by simp) A x (by simp only[ag,aw];omega));have M:=gv v.o.sc.posS;clear A x;go_wp2;go_roundw
      case rel=>exact⟨e,c+1,E,a++[b],by go_num,by omega,by omega,by omega,v,l⟩
      case measure=>rw[S.o,M.o];simp only[ag];omega
     ·have a4:((b:Int)==40)=false:=by simp;omega
      by_cases O:b=41
      ·have a5:((b:Int)==41)=true:=by rw[O];rfl
       by_cases D:c=1
       ·subst D;have R:Hid (t=some (a,E)):=by unfold Hid;rw[<-f.o,iJ,h];simp[O,km]
        have a7:=Ac u.o.own;obtain⟨ao,hS⟩:∃ao,gC a=ao:=⟨_,rfl⟩;rw[hS]at a7;have HS:=gv hS;clear h f N O K hS;go_wp2;go_ret;exact kg.some_ R.o (by rw[tv,HS.o];rfl) u.o.sc u.o.only
       ·have l:Hid (km (a++[b]) (iJ e (c-1) E)=t):=by
         unfold Hid;rw[<-f.o,<-xV];conv=>rhs;rw[iJ,h]
         simp[O,D]
        have a0:((c:Int)-1==0)=false:=by simp;omega
        clear h f N O K;go_wp2_with (at_builtin;refine aK _ rfl (.tmp 31) (.tmp 33) 23 rfl w.heap.size 5 i0 (.int .u8 0) 1 1 aq X Y Z ac rfl (by decide) u3 a.length _ rfl (u.o.alloc _).own ⟨Q.heap.size,0,none⟩ 1 1 ([b].map λo:Nat=>.int .u8 (o:Int)) rfl rfl (Bu.one_news b Q) ?hone ?h63 ?hby ?hbs ?_)
        case hone=>intro U z;simp at z;subst z;rfl
        case h63=>unfold maxLen;omega
        case hby=>omega
        case hbs=>simp;omega
        intro v6 w6 A x _;have v:=gv ((u.o.alloc _).app (xs:=[b]) (by simp) A x (by simp only[ag,aw];omega));have M:=gv v.o.sc.posS;clear A x;go_wp2;go_roundw
        case rel=>exact⟨e,c-1,E,a++[b],by go_num,by omega,by omega,by omega,v,l⟩
        case measure=>rw[S.o,M.o];simp only[ag];omega
      ·have a5:((b:Int)==41)=false:=by simp;omega
       have l:Hid (km (a++[b]) (iJ e c E)=t):=by
        unfold Hid;rw[<-f.o,<-xV];conv=>rhs;rw[iJ,h]
        simp[O,N,K]
       have a0:((c:Int)==0)=false:=by simp;omega
       clear h f N O K;go_wp2_with (at_builtin;refine aK _ rfl (.tmp 31) (.tmp 33) 23 rfl w.heap.size 5 i0 (.int .u8 0) 1 1 aq X Y Z ac rfl (by decide) u3 a.length _ rfl (u.o.alloc _).own ⟨Q.heap.size,0,none⟩ 1 1 ([b].map λo:Nat=>.int .u8 (o:Int)) rfl rfl (Bu.one_news b Q) ?hone ?h63 ?hby ?hbs ?_)
       case hone=>intro U z;simp at z;subst z;rfl
       case h63=>unfold maxLen;omega
       case hby=>omega
       case hbs=>simp;omega
       intro v6 w6 A x _;have v:=gv ((u.o.alloc _).app (xs:=[b]) (by simp) A x (by simp only[ag,aw];omega));have M:=gv v.o.sc.posS;clear A x;go_wp2;go_roundw
       case rel=>exact⟨e,c,E,a++[b],rfl,by omega,by omega,by omega,v,l⟩
       case measure=>rw[S.o,M.o];simp only[ag];omega
end
section
variable{w:World}
def gA:List Nat->List Nat × List Nat
 | []=>([],[])
 |b::a=>if b=43\/b=45 then([b],a)else([],b::a)
def j6(b:Nat):Bool:=decide (48<=b)&&decide (b<=57)
def jN(l:List Nat):Nat:=l.foldl (λa b=>10*a+(b-48)) 0
def kI(l:List Nat):Option Int:=
 if(gA l).2≠[]/\(gA l).2.all j6=true then some (if(gA l).1=[45]then -(jN (gA l).2:Int)else(jN (gA l).2:Int))else none
theorem E4{a b:ByteArray}(c:bl a=bl b):a=b:=by rw[<-xG a,<-xG b,c]
theorem CG(a:ByteArray)(k:Nat)(b:k<=a.size):bl (a.extract 0 k)=(bl a).take k:=by have:=bp a 0 k (by omega);simpa using this
def zV(a:Nat):List Nat->Bool
 | []=>false
 |b::_=>decide (b=a)
theorem FA(a:ByteArray)(c:UInt8)(n:a.size<=1000000):Calls Tryz.prog 241 #[.string a,.string { data:=#[c] }] w λd l=>d=.returned (.bool (zV c.toNat (bl a)))/\l=w:=by
 cases f:bl a with
 |nil =>
  have e:a.size=0:=by rw[<-nM,f];rfl
  have k:decide ((1:Int)<=(a.size:Int))=false:=by rw[e];rfl
  have h:({ data:=#[c] }:ByteArray).size=1:=rfl;go_enter Tryz.func241,Tryz.ntmps241;go_wp2;go_ret;exact⟨rfl,rfl⟩
 |cons b g =>
  have e:0<a.size:=by rw[<-nM,f];simp
  have k:decide ((1:Int)<=(a.size:Int))=true:=by simp;omega
  have m:(1:Int)<=(a.size:Int):=by omega
  have h:({ data:=#[c] }:ByteArray).size=1:=rfl;have i:((a.extract 0 1).toList==({ data:=#[c] }:ByteArray).toList)=zV c.toNat (b::g):=by
   unfold zV;rw[qF,dN];constructor
   ·intro d;have e2:=cq bl d;rw[CG a 1 e,f,bo]at e2;simpa using e2
   ·intro d;refine E4 ?_;rw[CG a 1 e,f,bo];simp[d]
  have j:({ data:=#[c] }:ByteArray).toList=[c]:=by rw[eO]
  rw[j]at i;generalize zV c.toNat (b::g)=o at *;go_enter Tryz.func241,Tryz.ntmps241;go_wp2;go_ret;exact⟨by first | rfl | simp,rfl⟩
def qR(a:List Nat)(b:Value):Prop:=b=.string (gC a)
theorem C_{a:ByteArray}{b:List Nat}(c:bl a=b):qR b (.string a):=by rw[qR,<-c,xG]
theorem Fb(a:ByteArray)(q:a.size<=1000000):Calls Tryz.prog 327 #[.string a] w λf h=>(∃n b,f=.returned (.tuple #[n,b])/\qR (gA (bl a)).1 n/\qR (gA (bl a)).2 b)/\∃t,h=w.drewN t:=by
 have c:=gv (λm=>FA (w:=m) a 43 q);have d:=gv (λm=>FA (w:=m) a 45 q);rw[show(UInt8.toNat 43)=43 from rfl]at c;rw[show(UInt8.toNat 45)=45 from rfl]at d;cases e:bl a with
 |nil =>
  rw[e]at c d;have r:Hid (a={ data:=#[] }):=E4 (by rw[e];rfl);simp only[zV]at c d;go_enter Tryz.func327,gu;go_wp2_with fail;refine(c.o _).mono ?_;rintro f h ⟨rfl,rfl⟩;go_wp2_with fail;refine(d.o _).mono ?_;rintro f h ⟨rfl,rfl⟩;go_wp2_with fail
  go_ret2
  exact⟨⟨_,_,rfl,rfl,by rw[r.o];rfl⟩,0,rfl⟩
 |cons b g =>
  rw[e]at c d;simp only[zV]at c d;have s:0<a.size:=by rw[<-nM,e];simp
  have u:(1:Int)<=(a.size:Int):=by omega
  have e1:qR [b] (.string (a.extract 0 1)):=C_ (by rw[CG a 1 s,e];rfl);have e2:qR g (.string (a.extract 1 a.size)):=C_ (by rw[E7,e];rfl);have p:qR (b::g) (.string a):=C_ e;have k:=gv (And.intro e1 (And.intro e2 p));clear e1 e2 p;by_cases i:b=43
  ·rw[aL i]at c;have l:Hid (gA (b::g)=([b],g)):=by unfold Hid;simp[gA,i]
   rw[l.o];clear i e;go_enter Tryz.func327,gu;go_wp2_with fail;refine(c.o _).mono ?_;rintro f h ⟨rfl,rfl⟩;go_wp2_with fail;go_quiet (fail);go_wp2
   go_ret2
   exact⟨⟨_,_,rfl,k.o.1,k.o.2.1⟩,nq,rfl⟩
  ·rw[a_ i]at c;by_cases j:b=45
   ·rw[aL j]at d;have l:Hid (gA (b::g)=([b],g)):=by unfold Hid;simp[gA,j]
    rw[l.o];clear i j e;go_enter Tryz.func327,gu;go_wp2_with fail;refine(c.o _).mono ?_;rintro f h ⟨rfl,rfl⟩;go_wp2_with fail;refine(d.o _).mono ?_;rintro f h ⟨rfl,rfl⟩;go_wp2_with fail;go_quiet (fail);go_wp2
    go_ret2
    exact⟨⟨_,_,rfl,k.o.1,k.o.2.1⟩,nq,rfl⟩
   ·rw[a_ j]at d;have l:Hid (gA (b::g)=([],b::g)):=by unfold Hid;simp[gA,i,j]
    rw[l.o];clear i j e;go_enter Tryz.func327,gu;go_wp2_with fail;refine(c.o _).mono ?_;rintro f h ⟨rfl,rfl⟩;go_wp2_with fail;refine(d.o _).mono ?_;rintro f h ⟨rfl,rfl⟩;go_wp2_with fail
    go_ret2
    exact⟨⟨_,_,rfl,rfl,k.o.2.2⟩,0,rfl⟩
end
section
def gY(r:List Nat):Option (List Nat):=(gF [48] r).bind λa=>gF [82] a
variable{B c b:Nat}{d:Option Addr}{a:List Nat}{f g i:Value}{w j:World}{r q:List Nat}
theorem KR(l:Sc B c d b a f g i w r) :
  Calls Tryz.prog 309 #[.pointer (some ⟨c,0,none⟩)] w (Aj B c d b a f g i w r (gY r)):=by
 have C:=l.c1;have n:=gv (uu l { data:=#[48] });rw[bo,show(UInt8.toNat 48)=48 from rfl]at n;have P:=gv l.suf;have R:=l.le;have S:=l.len;obtain⟨u,E⟩:∃u,a.length-r.length=u:=⟨_,rfl⟩;rw[E]at C;have O:u<=a.length:=by omega
 have H:=gv E;clear l E;have I:Hid (∀A G,Sc B c d b a f g i A G->Sc B c d b a f g i (A.setCell ⟨c,1,none⟩ (.int .i64 (u:Nat))) r):=λA G N=>by have:=N.at_ u O;rw[<-H.o,P.o,H.o]at this;exact this
 cases k:gF [48] r with
 |none =>
  rw[k]at n;have y:Hid (gY r=none):=by unfold Hid gY;rw[k];rfl
  rw[y.o];clear k;go_enter Tryz.func309,Tryz.ntmps309;go_wp2_with fail;refine n.o.mono ?_;rintro D J ⟨rfl,e,s⟩;have M:=e.fz 1;have L:=e.c1;have K:=gv e;have v:=gv s;clear e s C;go_wp2;go_ret;exact⟨rfl,I.o _ _ K.o,v.o.setCell _ _⟩
 |some F =>
  rw[k]at n;have y:Hid (gY r=gF [82] F):=by unfold Hid gY;rw[k];rfl
  rw[y.o];clear k;go_enter Tryz.func309,Tryz.ntmps309;go_wp2_with fail;refine n.o.mono ?_;rintro D J ⟨rfl,e,s⟩;have p:=gv (uu (show Sc B c d b a f g i J F from e) { data:=#[82] });rw[bo,show(UInt8.toNat 82)=82 from rfl]at p;have v:=gv s;clear e s C;cases e1:gF [82] F with
  |none=>rw[e1]at p;have m:=gv e1;clear e1;go_wp2_with fail;refine p.o.mono ?_;rintro D Q ⟨rfl,h,t⟩;have M:=h.fz 1;have L:=h.c1;have x:=gv h;have z:=gv (v.o.trans t);clear h t;go_wp2;go_ret;exact⟨by rw[m.o];rfl,by rw[m.o];exact I.o _ _ x.o,z.o.setCell _ _⟩
  |some G=>rw[e1]at p;have m:=gv e1;clear e1;go_wp2_with fail;refine p.o.mono ?_;rintro D Q ⟨rfl,h,t⟩;have x:=gv h;have z:=gv (v.o.trans t);clear h t;go_wp2;go_ret;exact⟨by rw[m.o];rfl,by rw[m.o];exact x.o,z.o⟩
end
end Go.Proofs.YtgkljcmjnphpeaaGreatDoor
