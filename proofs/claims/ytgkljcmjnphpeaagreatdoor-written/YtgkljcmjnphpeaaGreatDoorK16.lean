import Derived.Test.YtgkljcmjnphpeaaGreatDoorK15
set_option linter.unusedVariables false
set_option linter.unusedSimpArgs false
set_option maxHeartbeats 4000000
set_option maxRecDepth 100000
namespace Go.Proofs.YtgkljcmjnphpeaaGreatDoor
open Go.RowKit
section
variable{w d:World}
def nW(wb objs a:Nat)(w:World):Prop:=w.heap[wb]?=some (.cells #[.int .i64 (objs:Int),.int .i64 (a:Int)] 118 (0,0))
def rN(b f:Nat)(e:Option Nat)(w:World)(a:Ending)(d:World):Prop:=
 gQ b w d/\match e with
  |some c=>a=.returned (.bool true)/\nW b f c d
  |none=>a=.returned (.bool false)
theorem rN.no{b e:Nat}{a:Option Nat}(c:a=none)(k:gQ b w d):rN b e a w (.returned (.bool false)) d:=by subst c;exact⟨k,rfl⟩
theorem rN.yes{a e b:Nat}{c:Option Nat}(f:c=some b)(k:gQ a w d)(g:nW a e b d):rN a e c w (.returned (.bool true)) d:=by subst f;exact⟨k,rfl,g⟩
def ph:{k:Nat}->VT k->Prop
 |0,_=>True
 |_+1,a=>(gz.items a).length<=200000/\(gz.keys a).length<=200000/\(gz.filters a).length<=200000/\∀b∈gz.items a,ph b
def sK(e f k:Nat):Prop:=
 ∀(a:World) (g:Nat->Prop) (b:List (VT k)) (i:Value) (c:Nat),1<=c->c<=2000->kK g k 0 b a i->(∀h,g h->h≠e)->(∀j∈b,ph j)->b.length<=200000->nW e f c a ->
  Calls Tryz.prog 92 #[.pointer (some ⟨e,0,none⟩),i,.int .i64 (13-k:Nat)] a (rN e f (jD f k c b) a)
theorem gR.onlyX{b:Nat->Prop}{k e:Nat}{f:Value}{c:VT k}(g:gR b k w f c)(h:∀a,b a->a≠e)(l:gQ e w d):gR b k d f c:=
 gR.keep k g (λa i j=>l.block a j (h a i))
theorem gR.kids{b:Nat->Prop}{k:Nat}{c:gz (VT k)}{f g h i e p j:Value}(l:gR b (k+1) w (.agg #[f,g,h,i,e,p,j]) c):kK b k 0 c.items w e:=by obtain⟨u,v,r,q,a,o,n,m,t,s⟩:=gR.parts l;unfold nV at a;injection a with a;simp at a;obtain⟨_,_,_,_,rfl,_,_⟩:=a;exact⟨q,n.1,o,m⟩
def tM(f:Nat)(e b:Addr)(g h:Value)(c:Array Bool)(a:World):Prop:=(c.getD f false=false->a.cell? e=some g)/\a.cell? b=some h
theorem tM.set{a i:Nat}{f b:Addr}{g h:Value}{c:Array Bool}{e:World}(j:i≠a):tM a f b g h c e↔tM a f b g h (c.setIfInBounds i true) e:=by unfold tM;rw[eL false j]
def xh(c b e:Addr)(f g h:Value)(i:Array Bool)(a:World):Prop:=a.cell? c=some f/\a.cell? b=some g/\a.cell? e=some h
theorem uk{a:Array Bool}{e:Nat}(c:a.getD e true=false):a.getD e false=false:=by
 rcases bZ e a.size with b | b;·simp[b]at c ⊢;exact c
 ·simp[Nat.not_lt.2 b]at c
theorem yS{e h k nodes:Nat}{bz:Nat->Prop}{bt:Value}{p:gz (VT k)}(hk:k<=11)(ih:sK e h k)(hv:gR bz (k+1) w bt p)(hP:∀bn,bz bn->bn≠e)(a4:ph (k:=k+1) p)(c:nW e h nodes w)(cw:1<=nodes)(c3:nodes<=2000)(c6:h<=100000) :
  Calls Tryz.prog 130 #[.pointer (some ⟨e,0,none⟩),bt,.int .i64 (12-k:Nat)] w (rN e h (if kG h (12-k) nodes p=true then jD h k (nodes+p.items.length) p.items else none) w):=by
 obtain⟨iv,kv,fv,vs,bs,cl,cg,c4,ch,cd⟩:=hv.parts;obtain⟨C,D,rfl⟩:=i_ cg.1;obtain⟨S,T,rfl⟩:=i_ ch.1;obtain⟨P,Q,rfl⟩:=i_ cd.1;have c7:=ae c;have bw:Hid (∀f:World,gQ e w f->Calls Tryz.prog 176 #[bt] f λm d=>m=.returned (.bool (lX p))/\Below f.heap.size f d):=
  λf a5=>Da (gR.onlyX hv hP a5) a4.1 a4.2.1 a4.2.2.1
 have bx:Hid (∀f:World,gQ e w f->Calls Tryz.prog 177 #[bt] f λm d=>m=.returned (.bool (lO p))/\Below f.heap.size f d):=
  λf a5=>Jd (gR.onlyX hv hP a5) a4.2.1 a4.2.2.1
 have cr:=a4.1;rw[cl]at bs;obtain⟨v,b8⟩:∃v,12-k=v:=⟨_,rfl⟩;have b1:Hid (∀(f:World) (nd:Nat),gQ e w f->1<=nd->nd<=2000->nW e h nd f->Calls Tryz.prog 92 #[.pointer (some ⟨e,0,none⟩),.slice C p.items.length D,.int .i64 ((v+1:Nat):Int)] f (rN e h (jD h k nd p.items) f)):=
  λf nd a5 h1 h2 h3=>by have ck:=gR.onlyX hv hP a5;rw[bs]at ck;have:=ih f bz p.items (.slice C p.items.length D) nd h1 h2 (gR.kids ck) hP a4.2.2.2 a4.1 h3;rw[show 13-k=v+1 by omega]at this;exact this
 rw[b8];obtain⟨L,g⟩:∃L,(if kG h v nodes p=true then jD h k (nodes+p.items.length) p.items else none)=L:=⟨_,rfl⟩;rw[g];unfold kG at g;unfold nV at bs;have b2:Hid (∀f:World,gQ e w f->nodes+p.items.length<=2000->nW e h (nodes+p.items.length) f->Calls Tryz.prog 92 #[.pointer (some ⟨e,0,none⟩),.slice C p.items.length D,.int .i64 ((v+1:Nat):Int)] f (rN e h (jD h k (nodes+p.items.length) p.items) f)):=
  λf a5 h1 h2=>b1.o f _ a5 (by omega) h1 h2
 clear b1;generalize jD h k (nodes+p.items.length) p.items=WR at *;generalize lX p=BB at *;generalize lO p=RR at *;generalize p.n=u at *;generalize p.places=V at *;generalize gC p.text=W at *;generalize p.filters.length=R at *;generalize p.keys.length=U at *;generalize cs:p.items.length=q at *;generalize p.kind=o at *;subst bs;have c5:1<=v/\v<=12:=by omega
 clear hv hP a4 c4 ch cd cg ih b8 hk cs;have B1:Below w.heap.size w (w.alloc (.cells #[.int .i64 (o:Int),.int .i64 u,.int .i64 (V:Int),.string W,.slice C q D,.slice S U T,.slice P R Q] 67)):=(aj _ _).alloc (af _) _;have br:(w.alloc (.cells #[.int .i64 (o:Int),.int .i64 u,.int .i64 (V:Int),.string W,.slice C q D,.slice S U T,.slice P R Q] 67)).heap[w.heap.size]?=some (.cells #[.int .i64 (o:Int),.int .i64 u,.int .i64 (V:Int),.string W,.slice C q D,.slice S U T,.slice P R Q] 67 (0,0)):=jd _ _;have bc:(w.alloc (.cells #[.int .i64 (o:Int),.int .i64 u,.int .i64 (V:Int),.string W,.slice C q D,.slice S U T,.slice P R Q] 67)).heap[e]?=some (.cells #[.int .i64 (h:Int),.int .i64 (nodes:Int)] 118 (0,0)):=l9 _ c;have HC:Hid (tM 10 ⟨e,1,none⟩ ⟨w.heap.size,4,none⟩ (.int .i64 (nodes:Int)) (.slice C q D) (Array.replicate 11 false) (w.alloc (.cells #[.int .i64 (o:Int),.int .i64 u,.int .i64 (V:Int),.string W,.slice C q D,.slice S U T,.slice P R Q] 67)).drew):=⟨λ_=>by show(w.alloc _).cell? _=_;rw[cb bc];rfl,by show(w.alloc _).cell? _=_;rw[cb br];rfl⟩;have b6:=oB bc;have b9:=ix 1 bc;obtain⟨w1,b0⟩:∃w1,w.alloc (.cells #[.int .i64 (o:Int),.int .i64 u,.int .i64 (V:Int),.string W,.slice C q D,.slice S U T,.slice P R Q] 67)=w1:=⟨_,rfl⟩;rw[b0]at B1 br bc HC b6 b9;have K2:Hid (gQ e w ((w1.setCell ⟨e,1,none⟩ (.int .i64 ((nodes:Int)+(q:Int)))).drew)):=gQ.setCell (w:=w) (w':=w1) ⟨B1.os,B1.tape,B1.output,B1.size,λbn hg _=>B1.block bn hg⟩ 1 _ |>.trans (.of_below (aj _ _).drew)
 have a7:Hid (nW e h (nodes+q) ((w1.setCell ⟨e,1,none⟩ (.int .i64 ((nodes:Int)+(q:Int)))).drew)):=by unfold Hid nW;show(w1.setCell ⟨e,1,none⟩ (.int .i64 ((nodes:Int)+(q:Int)))).heap[e]?=_;rw[lq _ bc];rfl
 have a9:Hid (((w1.setCell ⟨e,1,none⟩ (.int .i64 ((nodes:Int)+(q:Int)))).drew).heap[w.heap.size]?=some (.cells #[.int .i64 (o:Int),.int .i64 u,.int .i64 (V:Int),.string W,.slice C q D,.slice S U T,.slice P R Q] 67 (0,0))):=by unfold Hid;show(w1.setCell ⟨e,1,none⟩ (.int .i64 ((nodes:Int)+(q:Int)))).heap[w.heap.size]?=_;rw[jL _ (by show w.heap.size≠e;omega)];exact br
 have co:IntKind.i64.wrap ((nodes:Int)+(q:Int))=(nodes:Int)+(q:Int):=by rw[bP];omega
 have b3:=gv b0;clear B1 br bc b0;go_enter Tryz.func130,Tryz.ntmps130;go_wp2_with fail;rw[b3.o];refine p7 (tM 10 ⟨e,1,none⟩ ⟨w.heap.size,4,none⟩ (.int .i64 (nodes:Int)) (.slice C q D)) (by kernel_rfl) ?_;intro a;have b:=HC.o;refine ti 0 ?_ a b ?_;clear a b;intro a b;(try simp only[gB])
 refine ti 1 ?_ a b ?_;clear a b;intro a b;(try simp only[gB])
 refine ti 2 ?_ a b ?_;clear a b;intro a b;(try simp only[gB])
 refine tk 3 ?_ a ?_ b ?_;rotate_left;·intro f I;obtain⟨a2,a3,hL,H⟩:=I;have cp:=H.1 (by cases h9:a2.getD 10 false with | false=>rfl | true=>exact absurd (a3.came 2 10 (by kernel_rfl) h9) (by rw[uk hL];decide));go_simp;try(with_reducible rfl)
 clear a b;intro a b;(try simp only[gB])
 refine ti 4 ?_ a b ?_;clear a b;intro a b;(try simp only[gB])
 refine tk 5 ?_ a ?_ b ?_;rotate_left;·intro f I;obtain⟨a2,a3,hL,H⟩:=I;have cp:=H.2;go_simp;try(with_reducible rfl)
 clear a b;intro a b;(try simp only[gB])
 refine ti 6 ?_ a b ?_;clear a b;intro a b;(try simp only[gB])
 refine ti 7 ?_ a b ?_;clear a b;intro a b;(try simp only[gB])
 refine ti 8 ?_ a b ?_;clear a b;intro a b;(try simp only[gB])
 refine ti 9 ?_ a b ?_;clear a b;intro a b;(try simp only[gB])
 refine on 10 a λB j=>?_;go_simp;refine j.o _ _ ⟨λh9=>(by cases h9),cb a9.o⟩ (λi l=>?_);clear a b j B;have a:=i;have b:=l;clear i l
 (try simp only[gB])
 refine mI (by kernel_rfl) ?_ _;clear a b;generalize (w1.setCell ⟨e,1,none⟩ (.int .i64 ((nodes:Int)+(q:Int)))).drew=A at *;clear b6 b9 HC c b3 co;have q1:=oB a7.o;have N:=mb a7.o;obtain⟨r,s,X,Y,Z,d5,d6⟩:=oX a9.o;by_cases h1:nodes+q<=2000
 ·rw[aL h1,dJ]at g;have bv:=gv (λf a5 cm=>b2.o f a5 h1 cm);have Q1:=gv (pG ((nodes+q:Nat):Int) 1 2000 A (by omega) (by omega));have Q2:=gv (pG (v:Int) 1 12 A (by omega) (by omega));generalize ((nodes+q:Nat):Int)=zn at *;clear b2 h1 cw c3 cr cl;by_cases h8:o=8
  ·have t8:((o:Int)==8)=true:=by simp;omega
   have t9:((o:Int)==9)=false:=by simp;omega
   by_cases b7:1<v
   ·have t:Hid (L=none):=by unfold Hid;rw[<-g,aL ⟨h8,b7⟩];rfl
    have u1:decide (1<(v:Int))=true:=by simp;omega
    clear g h8;go_wp2_with fail;refine Q1.o.mono ?_;rintro m x ⟨rfl,c⟩;have c:=c.symm;subst c;go_wp2_with fail;refine Q2.o.mono ?_;rintro m x ⟨rfl,c⟩;have c:=c.symm;subst c;go_wp2;go_ret;exact .no t.o K2.o
   ·have ba:(if(BB&&RR)=true then WR else none)=L:=by rw[<-g];simp[h8,b7]
    have u1:decide (1<(v:Int))=false:=by simp;omega
    clear g;have g:=ba;clear ba h8;go_wp2_with fail;refine Q1.o.mono ?_;rintro m x ⟨rfl,c⟩;have c:=c.symm;subst c;go_wp2_with fail;refine Q2.o.mono ?_;rintro m x ⟨rfl,c⟩;have c:=c.symm;subst c;go_wp2_with fail;refine p7 (xh ⟨w.heap.size,0,none⟩ ⟨w.heap.size,1,none⟩ ⟨e,0,none⟩ (.int .i64 (o:Int)) (.int .i64 u) (.int .i64 (h:Int))) (by kernel_rfl) ?_;intro a;have b:xh ⟨w.heap.size,0,none⟩ ⟨w.heap.size,1,none⟩ ⟨e,0,none⟩ (.int .i64 (o:Int)) (.int .i64 u) (.int .i64 (h:Int)) (Array.replicate 14 false) A.drew:=⟨r,s,N⟩;refine ti 0 ?_ a b ?_;clear a b;intro a b;(try simp only[gB])
    refine tk 1 ?_ a ?_ b ?_;rotate_left;·intro f I;obtain⟨a2,a3,hL,H⟩:=I;obtain⟨c0,c1,c2⟩:=H;go_simp;try(with_reducible rfl)
    clear a b;intro a b;(try simp only[gB])
    refine ti 2 ?_ a b ?_;clear a b;intro a b;(try simp only[gB])
    refine ti 3 ?_ a b ?_;clear a b;intro a b;(try simp only[gB])
    refine tu 4 a b ?_;clear a b;intro a b;(try simp only[gB])
    refine tu 5 a b ?_;clear a b;intro a b;(try simp only[gB])
    refine tu 6 a b ?_;clear a b;intro a b;(try simp only[gB])
    refine tu 7 a b ?_;clear a b;intro a b;(try simp only[gB])
    refine tu 8 a b ?_;clear a b;intro a b;(try simp only[gB])
    refine tu 9 a b ?_;clear a b;intro a b;(try simp only[gB])
    refine tu 10 a b ?_;clear a b;intro a b;(try simp only[gB])
    refine tu 11 a b ?_;clear a b;intro a b;(try simp only[gB])
    refine ti 12 ?_ a b ?_;clear a b;intro a b;(try simp only[gB])
    refine on 13 a λB j=>?_;go_simp;refine j.o _ _ ⟨r,s,N⟩ (λi l=>?_);clear a b j B;have a:=i;have b:=l;clear i l
    (try simp only[gB])
    refine mI (by kernel_rfl) ?_ _;clear a b;have G:Hid (gQ e w A.drew):=K2.o.trans (.of_below (aj _ _).drew);have ao:Hid (nW e h _ A.drew):=a7;have J:Hid (A.drew.heap[w.heap.size]?=some (.cells #[.int .i64 (o:Int),.int .i64 u,.int .i64 (V:Int),.string W,.slice C q D,.slice S U T,.slice P R Q] 67 (0,0))):=a9;have a0:w.heap.size<A.drew.heap.size:=ae J.o;obtain⟨x,a1⟩:∃x,A.drew=x:=⟨_,rfl⟩;rw[a1]at G ao J a0;try rw[a1]
    have M:=bw.o x G.o;have ad:=gv M;clear M a1 r s X Y Z d5 d6 N q1 Q1 Q2 K2 a7 a9;obtain⟨r,s,X,Y,Z,d5,d6⟩:=oX J.o;cases BB with
    |false =>
     have t:Hid (L=none):=by unfold Hid;rw[<-g];simp
     clear g;go_wp2_with fail;refine ad.o.mono ?_;rintro m O ⟨rfl,y⟩;have E:=gv (G.o.trans (.of_below y));clear y;go_wp2;go_ret;exact .no t.o E.o
    |true =>
     go_wp2_with fail;refine ad.o.mono ?_;rintro m O ⟨rfl,y⟩;have E:=gv (G.o.trans (.of_below y));have ac:Hid (O.heap[w.heap.size]?=some (.cells #[.int .i64 (o:Int),.int .i64 u,.int .i64 (V:Int),.string W,.slice C q D,.slice S U T,.slice P R Q] 67 (0,0))):=by unfold Hid;rw[y.block _ a0];exact J.o
     have a8:Hid (nW e h _ O):=(y.block e (by omega)).trans ao.o;have bb:w.heap.size<O.heap.size:=ae ac.o;have M:=bx.o O E.o;have al:=gv M;clear M y r s X Y Z d5 d6 ad G J ao a0;obtain⟨r,s,X,Y,Z,d5,d6⟩:=oX ac.o;cases RR with
     |false =>
      have t:Hid (L=none):=by unfold Hid;rw[<-g];simp
      clear g;go_wp2_with fail;refine al.o.mono ?_;rintro m w5 ⟨rfl,z⟩;have K:=gv (E.o.trans (.of_below z));clear z;go_wp2;go_ret;exact .no t.o K.o
     |true =>
      have t:Hid (L=WR):=by unfold Hid;rw[<-g];simp
      clear g;go_wp2_with fail;refine al.o.mono ?_;rintro m w5 ⟨rfl,z⟩;have K:=gv (E.o.trans (.of_below z));have bi:Hid (w5.heap[w.heap.size]?=some (.cells #[.int .i64 (o:Int),.int .i64 u,.int .i64 (V:Int),.string W,.slice C q D,.slice S U T,.slice P R Q] 67 (0,0))):=by unfold Hid;rw[z.block _ bb];exact ac.o
      have bd:Hid (nW e h _ w5):=(z.block e (by omega)).trans a8.o;have e4:=pV bi.o;have bm:IntKind.i64.wrap ((v:Int)+1)=((v+1:Nat):Int):=by rw[bP];omega
      have a6:=gv (bv.o w5 K.o bd.o);rw[show((v+1:Nat):Int)=(v:Int)+1 from rfl]at a6;clear z r s X Y Z d5 d6 al E ac a8 bb bm;go_wp2_with fail;refine a6.o.mono ?_;rintro m w6 ⟨o6,F⟩;cases WR with
      |none=>simp only[]at F;subst F;have K6:=gv (K.o.trans o6);clear o6;go_wp2;go_ret;exact .no t.o K6.o
      |some nd=>obtain⟨rfl,F⟩:=F;have K6:=gv (K.o.trans o6);have bf:=gv F;clear o6 F;go_wp2;go_ret;exact .yes t.o K6.o bf.o
  ·have t8:((o:Int)==8)=false:=by simp;omega
   by_cases h9:o=9
   ·have t9:((o:Int)==9)=true:=by simp;omega
    by_cases bq:1<=u/\u<=(h:Int)
    ·have ba:(if(BB&&RR)=true then WR else none)=L:=by rw[<-g];simp[h8,h9,bq]
     clear g;have g:=ba;clear ba h8 h9;go_wp2_with fail;refine Q1.o.mono ?_;rintro m x ⟨rfl,c⟩;have c:=c.symm;subst c;go_wp2_with fail;refine Q2.o.mono ?_;rintro m x ⟨rfl,c⟩;have c:=c.symm;subst c;go_wp2_with fail;refine p7 (xh ⟨w.heap.size,0,none⟩ ⟨w.heap.size,1,none⟩ ⟨e,0,none⟩ (.int .i64 (o:Int)) (.int .i64 u) (.int .i64 (h:Int))) (by kernel_rfl) ?_;intro a;have b:xh ⟨w.heap.size,0,none⟩ ⟨w.heap.size,1,none⟩ ⟨e,0,none⟩ (.int .i64 (o:Int)) (.int .i64 u) (.int .i64 (h:Int)) (Array.replicate 14 false) A.drew:=⟨r,s,N⟩;refine ti 0 ?_ a b ?_;clear a b;intro a b;(try simp only[gB])
     refine tk 1 ?_ a ?_ b ?_;rotate_left;·intro f I;obtain⟨a2,a3,hL,H⟩:=I;obtain⟨c0,c1,c2⟩:=H;go_simp;try(with_reducible rfl)
     clear a b;intro a b;(try simp only[gB])
     refine ti 2 ?_ a b ?_;clear a b;intro a b;(try simp only[gB])
     refine ti 3 ?_ a b ?_;clear a b;intro a b;(try simp only[gB])
     refine ti 4 ?_ a b ?_;clear a b;intro a b;(try simp only[gB])
     refine tk 5 ?_ a ?_ b ?_;rotate_left;·intro f I;obtain⟨a2,a3,hL,H⟩:=I;obtain⟨c0,c1,c2⟩:=H;go_simp;try(with_reducible rfl)
     clear a b;intro a b;(try simp only[gB])
     refine ti 6 ?_ a b ?_;clear a b;intro a b;(try simp only[gB])
     refine ti 7 ?_ a b ?_;clear a b;intro a b;(try simp only[gB])
     refine ti 8 ?_ a b ?_;clear a b;intro a b;(try simp only[gB])
     refine tk 9 ?_ a ?_ b ?_;rotate_left;·intro f I;obtain⟨a2,a3,hL,H⟩:=I;obtain⟨c0,c1,c2⟩:=H;go_simp;try(with_reducible rfl)
     clear a b;intro a b;(try simp only[gB])
     refine on 10 a λB j=>?_;go_simp;refine(pG _ 1 _ _ bq.1 bq.2).mono ?_;rintro m x ⟨rfl,c⟩;have c:=c.symm;subst c;refine j.o _ _ ⟨r,s,N⟩ (λi l=>?_);clear a b j B;have a:=i;have b:=l;clear i l
     (try simp only[gB])
     refine on 11 a λB j=>?_;go_simp;refine j.o _ _ ⟨r,s,N⟩ (λi l=>?_);clear a b j B;have a:=i;have b:=l;clear i l
     (try simp only[gB])
     refine on 12 a λB j=>?_;go_simp;refine j.o _ _ ⟨r,s,N⟩ (λi l=>?_);clear a b j B;have a:=i;have b:=l;clear i l
     (try simp only[gB])
     refine on 13 a λB j=>?_;go_simp;refine j.o _ _ ⟨r,s,N⟩ (λi l=>?_);clear a b j B;have a:=i;have b:=l;clear i l
     (try simp only[gB])
     refine mI (by kernel_rfl) ?_ _;clear a b;have G:Hid (gQ e w A.drew):=K2.o.trans (.of_below (aj _ _).drew);have ao:Hid (nW e h _ A.drew):=a7;have J:Hid (A.drew.heap[w.heap.size]?=some (.cells #[.int .i64 (o:Int),.int .i64 u,.int .i64 (V:Int),.string W,.slice C q D,.slice S U T,.slice P R Q] 67 (0,0))):=a9;have a0:w.heap.size<A.drew.heap.size:=ae J.o;obtain⟨x,a1⟩:∃x,A.drew=x:=⟨_,rfl⟩;rw[a1]at G ao J a0;try rw[a1]
     have M:=bw.o x G.o;have ad:=gv M;clear M a1 r s X Y Z d5 d6 N q1 Q1 Q2 K2 a7 a9;obtain⟨r,s,X,Y,Z,d5,d6⟩:=oX J.o;cases BB with
     |false =>
      have t:Hid (L=none):=by unfold Hid;rw[<-g];simp
      clear g;go_wp2_with fail;refine ad.o.mono ?_;rintro m O ⟨rfl,y⟩;have E:=gv (G.o.trans (.of_below y));clear y;go_wp2;go_ret;exact .no t.o E.o
     |true =>
      go_wp2_with fail;refine ad.o.mono ?_;rintro m O ⟨rfl,y⟩;have E:=gv (G.o.trans (.of_below y));have ac:Hid (O.heap[w.heap.size]?=some (.cells #[.int .i64 (o:Int),.int .i64 u,.int .i64 (V:Int),.string W,.slice C q D,.slice S U T,.slice P R Q] 67 (0,0))):=by unfold Hid;rw[y.block _ a0];exact J.o
      have a8:Hid (nW e h _ O):=(y.block e (by omega)).trans ao.o;have bb:w.heap.size<O.heap.size:=ae ac.o;have M:=bx.o O E.o;have al:=gv M;clear M y r s X Y Z d5 d6 ad G J ao a0;obtain⟨r,s,X,Y,Z,d5,d6⟩:=oX ac.o;cases RR with
      |false =>
       have t:Hid (L=none):=by unfold Hid;rw[<-g];simp
       clear g;go_wp2_with fail;refine al.o.mono ?_;rintro m w5 ⟨rfl,z⟩;have K:=gv (E.o.trans (.of_below z));clear z;go_wp2;go_ret;exact .no t.o K.o
      |true =>
       have t:Hid (L=WR):=by unfold Hid;rw[<-g];simp
       clear g;go_wp2_with fail;refine al.o.mono ?_;rintro m w5 ⟨rfl,z⟩;have K:=gv (E.o.trans (.of_below z));have bi:Hid (w5.heap[w.heap.size]?=some (.cells #[.int .i64 (o:Int),.int .i64 u,.int .i64 (V:Int),.string W,.slice C q D,.slice S U T,.slice P R Q] 67 (0,0))):=by unfold Hid;rw[z.block _ bb];exact ac.o
       have bd:Hid (nW e h _ w5):=(z.block e (by omega)).trans a8.o;have e4:=pV bi.o;have bm:IntKind.i64.wrap ((v:Int)+1)=((v+1:Nat):Int):=by rw[bP];omega
       have a6:=gv (bv.o w5 K.o bd.o);rw[show((v+1:Nat):Int)=(v:Int)+1 from rfl]at a6;clear z r s X Y Z d5 d6 al E ac a8 bb bm;go_wp2_with fail;refine a6.o.mono ?_;rintro m w6 ⟨o6,F⟩;cases WR with
       |none=>simp only[]at F;subst F;have K6:=gv (K.o.trans o6);clear o6;go_wp2;go_ret;exact .no t.o K6.o
       |some nd=>obtain⟨rfl,F⟩:=F;have K6:=gv (K.o.trans o6);have bf:=gv F;clear o6 F;go_wp2;go_ret;exact .yes t.o K6.o bf.o
    ·have t:Hid (L=none):=by unfold Hid;rw[<-g];simp[h8,h9,bq]
     clear g h8 h9;go_wp2_with fail;refine Q1.o.mono ?_;rintro m x ⟨rfl,c⟩;have c:=c.symm;subst c;go_wp2_with fail;refine Q2.o.mono ?_;rintro m x ⟨rfl,c⟩;have c:=c.symm;subst c;go_wp2_with fail;refine p7 (xh ⟨w.heap.size,0,none⟩ ⟨w.heap.size,1,none⟩ ⟨e,0,none⟩ (.int .i64 (o:Int)) (.int .i64 u) (.int .i64 (h:Int))) (by kernel_rfl) ?_;intro a;have b:xh ⟨w.heap.size,0,none⟩ ⟨w.heap.size,1,none⟩ ⟨e,0,none⟩ (.int .i64 (o:Int)) (.int .i64 u) (.int .i64 (h:Int)) (Array.replicate 14 false) A.drew:=⟨r,s,N⟩;refine ti 0 ?_ a b ?_;clear a b;intro a b;(try simp only[gB])
     refine tk 1 ?_ a ?_ b ?_;rotate_left;·intro f I;obtain⟨a2,a3,hL,H⟩:=I;obtain⟨c0,c1,c2⟩:=H;go_simp;try(with_reducible rfl)
     clear a b;intro a b;(try simp only[gB])
     refine ti 2 ?_ a b ?_;clear a b;intro a b;(try simp only[gB])
     refine ti 3 ?_ a b ?_;clear a b;intro a b;(try simp only[gB])
     refine ti 4 ?_ a b ?_;clear a b;intro a b;(try simp only[gB])
     refine tk 5 ?_ a ?_ b ?_;rotate_left;·intro f I;obtain⟨a2,a3,hL,H⟩:=I;obtain⟨c0,c1,c2⟩:=H;go_simp;try(with_reducible rfl)
     clear a b;intro a b;(try simp only[gB])
     refine ti 6 ?_ a b ?_;clear a b;intro a b;(try simp only[gB])
     refine ti 7 ?_ a b ?_;clear a b;intro a b;(try simp only[gB])
     refine ti 8 ?_ a b ?_;clear a b;intro a b;(try simp only[gB])
     refine tk 9 ?_ a ?_ b ?_;rotate_left;·intro f I;obtain⟨a2,a3,hL,H⟩:=I;obtain⟨c0,c1,c2⟩:=H;go_simp;try(with_reducible rfl)
     clear a b;intro a b;(try simp only[gB])
     refine on 10 a λB j=>?_;go_simp;refine(sF _ 1 _ _ (by omega)).mono ?_;rintro m x ⟨rfl,c⟩;have c:=c.symm;subst c;refine j.o _ _ ⟨r,s,N⟩ (λi l=>?_);clear a b j B;have a:=i;have b:=l;clear i l
     (try simp only[gB])
     refine on 11 a λB j=>?_;go_simp;refine j.o _ _ ⟨r,s,N⟩ (λi l=>?_);clear a b j B;have a:=i;have b:=l;clear i l
     (try simp only[gB])
     refine on 12 a λB j=>?_;go_simp;refine j.o _ _ ⟨r,s,N⟩ (λi l=>?_);clear a b j B;have a:=i;have b:=l;clear i l
     (try simp only[gB])
     refine on 13 a λB j=>?_;go_simp;refine j.o _ _ ⟨r,s,N⟩ (λi l=>?_);clear a b j B;have a:=i;have b:=l;clear i l
     (try simp only[gB])
     refine mI (by kernel_rfl) ?_ _;clear a b;have G:Hid (gQ e w A.drew):=K2.o.trans (.of_below (aj _ _).drew);go_wp2;go_ret;exact .no t.o G.o
   ·have t9:((o:Int)==9)=false:=by simp;omega
    have ba:(if(BB&&RR)=true then WR else none)=L:=by rw[<-g];simp[h8,h9]
    clear g;have g:=ba;clear ba h8 h9;go_wp2_with fail;refine Q1.o.mono ?_;rintro m x ⟨rfl,c⟩;have c:=c.symm;subst c;go_wp2_with fail;refine Q2.o.mono ?_;rintro m x ⟨rfl,c⟩;have c:=c.symm;subst c;go_wp2_with fail;refine p7 (xh ⟨w.heap.size,0,none⟩ ⟨w.heap.size,1,none⟩ ⟨e,0,none⟩ (.int .i64 (o:Int)) (.int .i64 u) (.int .i64 (h:Int))) (by kernel_rfl) ?_;intro a;have b:xh ⟨w.heap.size,0,none⟩ ⟨w.heap.size,1,none⟩ ⟨e,0,none⟩ (.int .i64 (o:Int)) (.int .i64 u) (.int .i64 (h:Int)) (Array.replicate 14 false) A.drew:=⟨r,s,N⟩;refine ti 0 ?_ a b ?_;clear a b;intro a b;(try simp only[gB])
    refine tk 1 ?_ a ?_ b ?_;rotate_left;·intro f I;obtain⟨a2,a3,hL,H⟩:=I;obtain⟨c0,c1,c2⟩:=H;go_simp;try(with_reducible rfl)
    clear a b;intro a b;(try simp only[gB])
    refine ti 2 ?_ a b ?_;clear a b;intro a b;(try simp only[gB])
    refine ti 3 ?_ a b ?_;clear a b;intro a b;(try simp only[gB])
    refine tu 4 a b ?_;clear a b;intro a b;(try simp only[gB])
    refine tu 5 a b ?_;clear a b;intro a b;(try simp only[gB])
    refine tu 6 a b ?_;clear a b;intro a b;(try simp only[gB])
    refine tu 7 a b ?_;clear a b;intro a b;(try simp only[gB])
    refine tu 8 a b ?_;clear a b;intro a b;(try simp only[gB])
    refine tu 9 a b ?_;clear a b;intro a b;(try simp only[gB])
    refine tu 10 a b ?_;clear a b;intro a b;(try simp only[gB])
    refine tu 11 a b ?_;clear a b;intro a b;(try simp only[gB])
    refine ti 12 ?_ a b ?_;clear a b;intro a b;(try simp only[gB])
    refine on 13 a λB j=>?_;go_simp;refine j.o _ _ ⟨r,s,N⟩ (λi l=>?_);clear a b j B;have a:=i;have b:=l;clear i l
    (try simp only[gB])
    refine mI (by kernel_rfl) ?_ _;clear a b;have G:Hid (gQ e w A.drew):=K2.o.trans (.of_below (aj _ _).drew);have ao:Hid (nW e h _ A.drew):=a7;have J:Hid (A.drew.heap[w.heap.size]?=some (.cells #[.int .i64 (o:Int),.int .i64 u,.int .i64 (V:Int),.string W,.slice C q D,.slice S U T,.slice P R Q] 67 (0,0))):=a9;have a0:w.heap.size<A.drew.heap.size:=ae J.o;obtain⟨x,a1⟩:∃x,A.drew=x:=⟨_,rfl⟩;rw[a1]at G ao J a0;try rw[a1]
    have M:=bw.o x G.o;have ad:=gv M;clear M a1 r s X Y Z d5 d6 N q1 Q1 Q2 K2 a7 a9;obtain⟨r,s,X,Y,Z,d5,d6⟩:=oX J.o;cases BB with
    |false =>
     have t:Hid (L=none):=by unfold Hid;rw[<-g];simp
     clear g;go_wp2_with fail;refine ad.o.mono ?_;rintro m O ⟨rfl,y⟩;have E:=gv (G.o.trans (.of_below y));clear y;go_wp2;go_ret;exact .no t.o E.o
    |true =>
     go_wp2_with fail;refine ad.o.mono ?_;rintro m O ⟨rfl,y⟩;have E:=gv (G.o.trans (.of_below y));have ac:Hid (O.heap[w.heap.size]?=some (.cells #[.int .i64 (o:Int),.int .i64 u,.int .i64 (V:Int),.string W,.slice C q D,.slice S U T,.slice P R Q] 67 (0,0))):=by unfold Hid;rw[y.block _ a0];exact J.o
     have a8:Hid (nW e h _ O):=(y.block e (by omega)).trans ao.o;have bb:w.heap.size<O.heap.size:=ae ac.o;have M:=bx.o O E.o;have al:=gv M;clear M y r s X Y Z d5 d6 ad G J ao a0;obtain⟨r,s,X,Y,Z,d5,d6⟩:=oX ac.o;cases RR with
     |false =>
      have t:Hid (L=none):=by unfold Hid;rw[<-g];simp
      clear g;go_wp2_with fail;refine al.o.mono ?_;rintro m w5 ⟨rfl,z⟩;have K:=gv (E.o.trans (.of_below z));clear z;go_wp2;go_ret;exact .no t.o K.o
     |true =>
      have t:Hid (L=WR):=by unfold Hid;rw[<-g];simp
      clear g;go_wp2_with fail;refine al.o.mono ?_;rintro m w5 ⟨rfl,z⟩;have K:=gv (E.o.trans (.of_below z));have bi:Hid (w5.heap[w.heap.size]?=some (.cells #[.int .i64 (o:Int),.int .i64 u,.int .i64 (V:Int),.string W,.slice C q D,.slice S U T,.slice P R Q] 67 (0,0))):=by unfold Hid;rw[z.block _ bb];exact ac.o
      have bd:Hid (nW e h _ w5):=(z.block e (by omega)).trans a8.o;have e4:=pV bi.o;have bm:IntKind.i64.wrap ((v:Int)+1)=((v+1:Nat):Int):=by rw[bP];omega
      have a6:=gv (bv.o w5 K.o bd.o);rw[show((v+1:Nat):Int)=(v:Int)+1 from rfl]at a6;clear z r s X Y Z d5 d6 al E ac a8 bb bm;go_wp2_with fail;refine a6.o.mono ?_;rintro m w6 ⟨o6,F⟩;cases WR with
      |none=>simp only[]at F;subst F;have K6:=gv (K.o.trans o6);clear o6;go_wp2;go_ret;exact .no t.o K6.o
      |some nd=>obtain⟨rfl,F⟩:=F;have K6:=gv (K.o.trans o6);have bf:=gv F;clear o6 F;go_wp2;go_ret;exact .yes t.o K6.o bf.o
 ·have t:Hid (L=none):=by unfold Hid;rw[<-g,a_ h1];rfl
  clear g;go_wp2_with fail;refine(sF _ 1 2000 _ (by omega)).mono ?_;rintro m x ⟨rfl,c⟩;have c:=c.symm;subst c;go_wp2;go_ret;exact .no t.o K2.o
end
end Go.Proofs.YtgkljcmjnphpeaaGreatDoor
