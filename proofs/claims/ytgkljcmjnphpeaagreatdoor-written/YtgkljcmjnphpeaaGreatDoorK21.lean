import Derived.Lib.ItoaNum
import Derived.Test.YtgkljcmjnphpeaaGreatDoorK20
set_option linter.unusedVariables false
set_option linter.unusedSimpArgs false
set_option maxHeartbeats 8000000
set_option maxRecDepth 100000
namespace Go.Proofs.YtgkljcmjnphpeaaGreatDoor
open Go.RowKit
section
variable{w d:World}
def KO:{k:Nat}->VT k->Prop
 |0,_=>True
 |k+1,a=>((gz.keys a).length=0\/(gz.items a).length<=(gz.keys a).length)/\∀b∈gz.items a,KO (k:=k) b
theorem gR.split{P:Nat->Prop}{k:Nat}{p:Value}{V:gz (VT k)}(y:gR P (k+1) w p V):∃(j:Option Addr) (l:Nat) (m:Option Addr) (o:Nat) (b:Option Addr) (c:Nat),p=.agg #[.int .i64 (V.kind:Int),.int .i64 V.n,.int .i64 (V.places:Int),.string (gC V.text),.slice j V.items.length l,.slice m V.keys.length o,.slice b V.filters.length c] /\
   kK P k 0 V.items w (.slice j V.items.length l)/\w.ownsRow 0 9 1 (.slice m V.keys.length o) V.keys.length (V.keys.map λs=>.string (gC s))/\w.ownsRow 0 3 1 (.slice b V.filters.length c) V.filters.length (V.filters.map λf:Nat=>.int .i64 (f:Int)):=by
 obtain⟨C,D,B,A,rfl,a,g,z,i,e⟩:=y.parts;obtain⟨q,u,rfl⟩:=i_ g.1;obtain⟨r,v,rfl⟩:=i_ i.1;obtain⟨t,x,rfl⟩:=i_ e.1;have h:=g.1;rw[a]at h;exact⟨q,u,r,v,t,x,by rw[a];rfl,⟨A,by rw[a];exact h,a,z⟩,i.1,e.1⟩
theorem yZ{b f k c j a:Nat}{e:Option Addr}{l:List Value}(h:w.ownsRow b f k (.slice e j a) c l):c<=9223372036854775807:=by
 rcases h.2 with⟨_,rfl⟩ | ⟨g,a,m,e1,_,o,n,i,_⟩;·omega
 ·simp only[maxLen]at i;omega
theorem bQ{a:Nat}{b w:World}(c:Below a b w)(e:Nat):Below a b (w.drewN e):=c.trans ⟨rfl,rfl,rfl,af _,λ_ _=>rfl⟩
def xi(w:World)(a b:Value):Prop:=Calls Tryz.prog 67 #[a,b] w λc d=>c=.returned (.bool true)/\Below w.heap.size w d
theorem KX{k:Nat}(ih:∀(a5 a6:Nat->Prop) (w:World) (ao b:Value) (h:VT k),gR a5 k w ao h->gR a6 k w b h->KO h->xi w ao b)
  {a5 a6:Nat->Prop} {ao b:Value} {h:gz (VT k)} (ha:gR a5 (k+1) w ao h) (l:gR a6 (k+1) w b h) (hV:KO (k:=k+1) h):xi w ao b:=by
 unfold xi;obtain⟨U,I,W,Y,P,R,rfl,bf,bi,bd⟩:=ha.split;obtain⟨V,J,X,Z,Q,S,rfl,b0,b1,bz⟩:=l.split;have dr:h.items.length<=9223372036854775807:=by obtain⟨xs,h1,h2,_⟩:=bf;rw[<-h2];exact yZ h1
 have dp:=yZ bd;have dv:=yZ bi;have cg:=gv bf;have cl:=gv b0;have ch:=gv bi;have cm:=gv b1;have cd:=gv bd;have ck:=gv bz;have a9:h.keys.length=0\/h.items.length<=h.keys.length:=hV.1;have co:Hid (∀ad∈h.items,KO ad):=hV.2;have IH:=gv ih;generalize b6:h.items.length=m at *;generalize b7:h.keys.length=j at *;generalize b5:h.filters.length=r at *;have bx:=gv b6;have cr:=gv b7;have cp:=gv b5;clear ha l hV bf b0 bi b1 bd bz ih b6 b7 b5;generalize (h.kind:Int)=u at *;generalize h.n=v at *;generalize (h.places:Int)=x at *;generalize gC h.text=y at *;go_enter Tryz.func67,Tryz.ntmps67;go_wp2;have b2:Below w.heap.size w ((w.alloc (.cells #[.int .i64 u,.int .i64 v,.int .i64 x,.string y,.slice U m I,.slice W j Y,.slice P r R] 67)).alloc (.cells #[.int .i64 u,.int .i64 v,.int .i64 x,.string y,.slice V m J,.slice X j Z,.slice Q r S] 67)):=((aj _ _).alloc (af _) _).alloc (by simp) _;have bv:((w.alloc (.cells #[.int .i64 u,.int .i64 v,.int .i64 x,.string y,.slice U m I,.slice W j Y,.slice P r R] 67)).alloc (.cells #[.int .i64 u,.int .i64 v,.int .i64 x,.string y,.slice V m J,.slice X j Z,.slice Q r S] 67)).heap[w.heap.size]?=some (.cells #[.int .i64 u,.int .i64 v,.int .i64 x,.string y,.slice U m I,.slice W j Y,.slice P r R] 67 (0,0)):=l9 _ (jd _ _);have bb:((w.alloc (.cells #[.int .i64 u,.int .i64 v,.int .i64 x,.string y,.slice U m I,.slice W j Y,.slice P r R] 67)).alloc (.cells #[.int .i64 u,.int .i64 v,.int .i64 x,.string y,.slice V m J,.slice X j Z,.slice Q r S] 67)).heap[w.heap.size+1]?=some (.cells #[.int .i64 u,.int .i64 v,.int .i64 x,.string y,.slice V m J,.slice X j Z,.slice Q r S] 67 (0,0)):=by have:=jd (w.alloc (.cells #[.int .i64 u,.int .i64 v,.int .i64 x,.string y,.slice U m I,.slice W j Y,.slice P r R] 67)) (.cells #[.int .i64 u,.int .i64 v,.int .i64 x,.string y,.slice V m J,.slice X j Z,.slice Q r S] 67);rw[bM]at this;exact this
 generalize (w.alloc (.cells #[.int .i64 u,.int .i64 v,.int .i64 x,.string y,.slice U m I,.slice W j Y,.slice P r R] 67)).alloc (.cells #[.int .i64 u,.int .i64 v,.int .i64 x,.string y,.slice V m J,.slice X j Z,.slice Q r S] 67)=g at b2 bv bb ⊢;have L:=gv b2;have a3:=gv bv;have a4:=gv bb;have ba:w.heap.size+1<g.heap.size:=ae bb;clear b2 bv bb;go_loopw [5] (λT wr=>∃(C:Nat),C<=r/\T=.int .i64 C/\Hid (Below g.heap.size g wr)) (λT _=>r-(intOf T).toNat)
 case atStart=>exact⟨0,aE _,rfl,aj _ _⟩
 case round =>
  obtain⟨C,hm,rfl,p⟩:=hrel;have c6:wr.cell? ⟨w.heap.size,6,none⟩=some (.slice P r R):=by rw[p.o.cell (by show w.heap.size<_;omega),cb a3.o];rfl
  have e6:wr.cell? ⟨w.heap.size+1,6,none⟩=some (.slice Q r S):=by rw[p.o.cell ba,cb a4.o];rfl
  rcases bN hm with hm | hm
  ·subst hm;go_wp2;have al:=p;clear p c6 e6;generalize wr=w3 at *;go_loopw [6,7] (λT _ wr=>∃(C:Nat),C<=m/\T=.int .i64 C/\Hid (Below g.heap.size g wr)) (λT _ _=>m-(intOf T).toNat)
   case atStart=>exact⟨0,aE _,rfl,al.o⟩
   case round =>
    obtain⟨f,hj,rfl,p⟩:=hrel;have c4:wr.cell? ⟨w.heap.size,4,none⟩=some (.slice U m I):=by rw[p.o.cell (by show w.heap.size<_;omega),cb a3.o];rfl
    have e4:wr.cell? ⟨w.heap.size+1,4,none⟩=some (.slice V m J):=by rw[p.o.cell ba,cb a4.o];rfl
    have c5:wr.cell? ⟨w.heap.size,5,none⟩=some (.slice W j Y):=by rw[p.o.cell (by show w.heap.size<_;omega),cb a3.o];rfl
    have e5:wr.cell? ⟨w.heap.size+1,5,none⟩=some (.slice X j Z):=by rw[p.o.cell ba,cb a4.o];rfl
    rcases bN hj with hj | hj
    ·subst hj;go_wp2;go_ret;exact⟨rfl,L.o.trans (p.o.mono (by omega))⟩
    ·obtain⟨ad,hy⟩:∃ad,h.items[f]?=some ad:=⟨_,ai (by rw[bx.o];exact hj)⟩;obtain⟨q,cs,b9,a7,_,_,hx,E⟩:=cg.o.at hy;obtain⟨t,c2,x2,a8,_,_,bw,F⟩:=cl.o.at hy;rw[bx.o]at a7 a8;cases a7;cases a8;have a1:Below w.heap.size w wr:=L.o.trans (p.o.mono (by omega));have b8:=co.o ad (cB hy);obtain⟨k0,k1,k2,k3,ja,jl,de,dg,kl,di,c0,fl,c1,G⟩:=gR.form hx;obtain⟨l0,l1,l2,l3,la,ll,dk,dj,ml,dl,c7,gl,c8,H⟩:=gR.form bw;have HD:Hid (∀e,Below g.heap.size g e->e.cell? ⟨q,f*7,none⟩=some (.int .i64 k0)/\e.cell? ⟨q,f*7+1,none⟩=some (.int .i64 k1)/\e.cell? ⟨q,f*7+2,none⟩=some (.int .i64 k2)/\e.cell? ⟨q,f*7+3,none⟩=some (.string k3)/\e.cell? ⟨q,f*7+4,none⟩=some (.slice ja jl de)/\e.cell? ⟨q,f*7+5,none⟩=some (.slice dg kl di)/\e.cell? ⟨q,f*7+6,none⟩=some (.slice c0 fl c1)):=λe i=>by
      have s:∀{f:Nat} {ac:Value},w.cell? ⟨q,f,none⟩=some ac->e.cell? ⟨q,f,none⟩=some ac:=λ{f ac} a0=>by rw[(L.o.trans (i.mono (by omega))).cell (aB w _ a0)];exact a0
      exact⟨s (E 0 _ (by rw[G];rfl)),s (E 1 _ (by rw[G];rfl)),s (E 2 _ (by rw[G];rfl)),s (E 3 _ (by rw[G];rfl)),s (E 4 _ (by rw[G];rfl)),s (E 5 _ (by rw[G];rfl)),s (E 6 _ (by rw[G];rfl))⟩
     have HE:Hid (∀e,Below g.heap.size g e->e.cell? ⟨t,f*7,none⟩=some (.int .i64 l0)/\e.cell? ⟨t,f*7+1,none⟩=some (.int .i64 l1)/\e.cell? ⟨t,f*7+2,none⟩=some (.int .i64 l2)/\e.cell? ⟨t,f*7+3,none⟩=some (.string l3)/\e.cell? ⟨t,f*7+4,none⟩=some (.slice la ll dk)/\e.cell? ⟨t,f*7+5,none⟩=some (.slice dj ml dl)/\e.cell? ⟨t,f*7+6,none⟩=some (.slice c7 gl c8)):=λe i=>by
      have s:∀{f:Nat} {ac:Value},w.cell? ⟨t,f,none⟩=some ac->e.cell? ⟨t,f,none⟩=some ac:=λ{f ac} a0=>by rw[(L.o.trans (i.mono (by omega))).cell (aB w _ a0)];exact a0
      exact⟨s (F 0 _ (by rw[H];rfl)),s (F 1 _ (by rw[H];rfl)),s (F 2 _ (by rw[H];rfl)),s (F 3 _ (by rw[H];rfl)),s (F 4 _ (by rw[H];rfl)),s (F 5 _ (by rw[H];rfl)),s (F 6 _ (by rw[H];rfl))⟩
     have a2:Hid (∀e,Below g.heap.size g e->e.cell? ⟨w.heap.size,4,none⟩=some (.slice (some ⟨q,0,none⟩) m I)/\e.cell? ⟨w.heap.size+1,4,none⟩=some (.slice (some ⟨t,0,none⟩) m J)):=λe i=>⟨by rw[i.cell (by show w.heap.size<_;omega),cb a3.o];rfl,by rw[i.cell ba,cb a4.o];rfl⟩;have bc:Hid (∀e,Below g.heap.size g e->xi e b9 x2):=λe i=>by have b3:=L.o.trans (i.mono (by omega));exact IH.o a5 a6 e b9 x2 ad (gR.keep k hx (λq _ hg=>b3.block q hg)) (gR.keep k bw (λq _ hg=>b3.block q hg)) b8
     unfold xi at bc;subst G;subst H;have ds:IntKind.i64.wrap ((f:Int)+1)=((f+1:Nat):Int):=by rw[bP];omega
     clear hx bw E F b8 a1;rcases a9 with a9 | a9
     ·have db:decide ((j:Int)>0)=false:=by simp;omega
      have dc:decide ((0:Int)<(j:Int))=false:=by simp;omega
      have dd:¬ 0<j:=by omega
      clear a9;go_wp2;go_quiet (fail);go_wp2;have D:=gv (bQ p.o nq);generalize wr.drewN nq=wq at *;clear c4 e4 c5 e5;refine p7 (λ_ e=>Below g.heap.size g e) (by kernel_rfl) ?_;intro a;have c:Below g.heap.size g wq.drew:=D.o.drew;refine ti 0 ?_ a c ?_;clear a c;intro a c;(try simp only[gB])
      refine tk 1 ?_ a ?_ c ?_;rotate_left;·intro e i;obtain⟨_,_,_,l⟩:=i;obtain⟨q4,r4⟩:=a2.o e l;go_simp;try(with_reducible rfl)
      clear a c;intro a c;(try simp only[gB])
      refine ti 2 ?_ a c ?_;clear a c;intro a c;(try simp only[gB])
      refine ti 3 ?_ a c ?_;clear a c;intro a c;(try simp only[gB])
      refine tk 4 ?_ a ?_ c ?_;rotate_left;·intro e i;obtain⟨_,_,_,l⟩:=i;obtain⟨q0,q1,q2,q3,q4,q5,q6⟩:=HD.o e l;go_simp;try(with_reducible rfl)
      clear a c;intro a c;(try simp only[gB])
      refine ti 5 ?_ a c ?_;clear a c;intro a c;(try simp only[gB])
      refine tk 6 ?_ a ?_ c ?_;rotate_left;·intro e i;obtain⟨_,_,_,l⟩:=i;obtain⟨q4,r4⟩:=a2.o e l;go_simp;try(with_reducible rfl)
      clear a c;intro a c;(try simp only[gB])
      refine ti 7 ?_ a c ?_;clear a c;intro a c;(try simp only[gB])
      refine ti 8 ?_ a c ?_;clear a c;intro a c;(try simp only[gB])
      refine tk 9 ?_ a ?_ c ?_;rotate_left;·intro e i;obtain⟨_,_,_,l⟩:=i;obtain⟨q0,q1,q2,q3,q4,q5,q6⟩:=HE.o e l;go_simp;try(with_reducible rfl)
      clear a c;intro a c;(try simp only[gB])
      refine on 10 a λN A=>?_;go_simp;refine(bc.o _ D.o.drew).mono ?_;rintro cw w4 ⟨rfl,b4⟩;have M:Hid (Below g.heap.size g w4):=D.o.drew.trans (b4.mono (by simpa using D.o.size));clear b4;refine A.o _ _ M.o (λz B=>?_);clear a c A N;have a:=z;have c:=B;clear z B
      (try simp only[gB])
      refine on 11 a λN A=>?_;go_simp;refine A.o _ _ M.o (λz B=>?_);clear a c A N;have a:=z;have c:=B;clear z B
      (try simp only[gB])
      refine mI (by kernel_rfl) ?_ _;clear a c;go_wp2;go_roundw
      case rel=>exact⟨f+1,by omega,by first | rfl | (congr 1),M.o⟩
      case measure=>simp[intOf];omega
     ·obtain⟨K,hs⟩:∃K,h.keys[f]?=some K:=⟨_,ai (by rw[cr.o];omega)⟩;have bt:(h.keys.map λK=>Value.string (gC K))[f]?=some (.string (gC K)):=by rw[bj,hs];rfl
      obtain⟨g3,c3,c9,br⟩:=ro ch.o bt;obtain⟨g4,dn,da,bs⟩:=ro cm.o bt;cases c9;cases da;have a1:Below w.heap.size w wr:=L.o.trans (p.o.mono (by omega));have y1:wr.cell? ⟨g3,f,none⟩=some (.string (gC K)):=by rw[a1.cell (aB w _ br)];exact br
      have y2:wr.cell? ⟨g4,f,none⟩=some (.string (gC K)):=by rw[a1.cell (aB w _ bs)];exact bs
      generalize gC K=sb at *;have db:decide ((j:Int)>0)=true:=by simp;omega
      have dc:decide ((0:Int)<(j:Int))=true:=by simp;omega
      have dd:0<j:=by omega
      clear bt hs br bs a1;go_wp2;go_quiet (fail);go_wp2;have D:=gv (bQ p.o nq);generalize wr.drewN nq=wq at *;clear c4 e4 c5 e5 y1 y2;refine p7 (λ_ e=>Below g.heap.size g e) (by kernel_rfl) ?_;intro a;have c:Below g.heap.size g wq.drew:=D.o.drew;refine ti 0 ?_ a c ?_;clear a c;intro a c;(try simp only[gB])
      refine tk 1 ?_ a ?_ c ?_;rotate_left;·intro e i;obtain⟨_,_,_,l⟩:=i;obtain⟨q4,r4⟩:=a2.o e l;go_simp;try(with_reducible rfl)
      clear a c;intro a c;(try simp only[gB])
      refine ti 2 ?_ a c ?_;clear a c;intro a c;(try simp only[gB])
      refine ti 3 ?_ a c ?_;clear a c;intro a c;(try simp only[gB])
      refine tk 4 ?_ a ?_ c ?_;rotate_left;·intro e i;obtain⟨_,_,_,l⟩:=i;obtain⟨q0,q1,q2,q3,q4,q5,q6⟩:=HD.o e l;go_simp;try(with_reducible rfl)
      clear a c;intro a c;(try simp only[gB])
      refine ti 5 ?_ a c ?_;clear a c;intro a c;(try simp only[gB])
      refine tk 6 ?_ a ?_ c ?_;rotate_left;·intro e i;obtain⟨_,_,_,l⟩:=i;obtain⟨q4,r4⟩:=a2.o e l;go_simp;try(with_reducible rfl)
      clear a c;intro a c;(try simp only[gB])
      refine ti 7 ?_ a c ?_;clear a c;intro a c;(try simp only[gB])
      refine ti 8 ?_ a c ?_;clear a c;intro a c;(try simp only[gB])
      refine tk 9 ?_ a ?_ c ?_;rotate_left;·intro e i;obtain⟨_,_,_,l⟩:=i;obtain⟨q0,q1,q2,q3,q4,q5,q6⟩:=HE.o e l;go_simp;try(with_reducible rfl)
      clear a c;intro a c;(try simp only[gB])
      refine on 10 a λN A=>?_;go_simp;refine(bc.o _ D.o.drew).mono ?_;rintro cw w4 ⟨rfl,b4⟩;have M:Hid (Below g.heap.size g w4):=D.o.drew.trans (b4.mono (by simpa using D.o.size));clear b4;refine A.o _ _ M.o (λz B=>?_);clear a c A N;have a:=z;have c:=B;clear z B
      (try simp only[gB])
      refine on 11 a λN A=>?_;go_simp;refine A.o _ _ M.o (λz B=>?_);clear a c A N;have a:=z;have c:=B;clear z B
      (try simp only[gB])
      refine mI (by kernel_rfl) ?_ _;clear a c;go_wp2;go_roundw
      case rel=>exact⟨f+1,by omega,by first | rfl | (congr 1),M.o⟩
      case measure=>simp[intOf];omega
  ·obtain⟨O,hf⟩:∃O,h.filters[C]?=some O:=⟨_,ai (by rw[cp.o];exact hm)⟩;have bm:(h.filters.map λO:Nat=>Value.int .i64 (O:Int))[C]?=some (.int .i64 (O:Int)):=by rw[bj,hf];rfl
   obtain⟨q,cs,a7,bn⟩:=ro cd.o bm;obtain⟨t,c2,a8,bq⟩:=ro ck.o bm;cases a7;cases a8;have al:Below w.heap.size w wr:=L.o.trans (p.o.mono (by omega));have y1:wr.cell? ⟨q,C,none⟩=some (.int .i64 (O:Int)):=by rw[al.cell (aB w _ bn)];exact bn
   have y2:wr.cell? ⟨t,C,none⟩=some (.int .i64 (O:Int)):=by rw[al.cell (aB w _ bq)];exact bq
   clear bm hf bn bq al;go_wp2;go_quiet (fail);go_wp2;go_roundw
   case rel=>exact⟨C+1,by omega,by first | rfl | (congr 1),bQ p.o _⟩
   case measure=>simp[intOf];omega
theorem Gu:∀(k:Nat) (e f:Nat->Prop) (w:World) (c b:Value) (a:VT k),gR e k w c a->gR f k w b a->KO a->xi w c b
 |0,e,f,w,c,b,a,g,_,_=>g.elim
 |k+1,e,f,w,c,b,a,i,j,h=>KX (Gu k) i j h
theorem ay{k:Nat}{Z ac:Nat->Prop}{b b':Nat}{A:List (VT k)}{ov a5:Value}{root:Int}(I:kK Z k b A w ov)(m:kK ac k b' A w a5)(hk:∀B∈A,KO B) :
  Calls Tryz.prog 26 #[.agg #[ov,.int .i64 root],.agg #[a5,.int .i64 root]] w λad d=>ad=.returned (.bool true)/\Below w.heap.size w d:=by
 obtain⟨x,t,rfl⟩:=I.len;obtain⟨y,u,rfl⟩:=m.len;have bt:A.length<=9223372036854775807:=by obtain⟨xs,h1,h2,_⟩:=I;rw[<-h2];exact yZ h1
 have a7:=gv I;have a8:=gv m;have a9:=gv hk;generalize a1:A.length=g at *;have W:=gv a1;clear I m hk a1;go_enter Tryz.func26,Tryz.ntmps26;go_wp2;have M:Below w.heap.size w ((w.alloc (.cells #[.slice x g t,.int .i64 root] 31)).alloc (.cells #[.slice y g u,.int .i64 root] 31)):=((aj _ _).alloc (af _) _).alloc (by simp) _;have P:((w.alloc (.cells #[.slice x g t,.int .i64 root] 31)).alloc (.cells #[.slice y g u,.int .i64 root] 31)).heap[w.heap.size]?=some (.cells #[.slice x g t,.int .i64 root] 31 (0,0)):=l9 _ (jd _ _);have J:((w.alloc (.cells #[.slice x g t,.int .i64 root] 31)).alloc (.cells #[.slice y g u,.int .i64 root] 31)).heap[w.heap.size+1]?=some (.cells #[.slice y g u,.int .i64 root] 31 (0,0)):=by have:=jd (w.alloc (.cells #[.slice x g t,.int .i64 root] 31)) (.cells #[.slice y g u,.int .i64 root] 31);rw[bM]at this;exact this
 generalize (w.alloc (.cells #[.slice x g t,.int .i64 root] 31)).alloc (.cells #[.slice y g u,.int .i64 root] 31)=h at M P J ⊢;have H:=gv M;have X:=gv P;have Y:=gv J;have a2:w.heap.size+1<h.heap.size:=ae J;clear M P J;go_loopw [5,6] (λS _ wr=>∃(a4:Nat),a4<=g/\S=.int .i64 a4/\Hid (Below h.heap.size h wr)) (λS _ _=>g-(intOf S).toNat)
 case atStart=>exact⟨0,aE _,rfl,aj _ _⟩
 case round =>
  obtain⟨f,G,rfl,v⟩:=hrel;have c4:wr.cell? ⟨w.heap.size,0,none⟩=some (.slice x g t):=by rw[v.o.cell (by show w.heap.size<_;omega),cb X.o];rfl
  have e4:wr.cell? ⟨w.heap.size+1,0,none⟩=some (.slice y g u):=by rw[v.o.cell a2,cb Y.o];rfl
  rcases bN G with G | G
  ·subst G;go_wp2;go_ret;exact⟨rfl,H.o.trans (v.o.mono (by omega))⟩
  ·obtain⟨B,R⟩:∃B,A[f]?=some B:=⟨_,ai (by rw[W.o];exact G)⟩;obtain⟨l,bs,a6,ao,_,_,O,p⟩:=a7.o.at R;obtain⟨n,c2,x2,a0,_,_,Q,q⟩:=a8.o.at R;rw[W.o]at ao a0;cases ao;cases a0;have a3:=a9.o B (cB R);obtain⟨k0,k1,k2,k3,ja,jl,bf,bi,kl,bm,ba,fl,bb,r⟩:=gR.form O;obtain⟨l0,l1,l2,l3,la,ll,bq,bn,ml,br,bc,gl,bd,s⟩:=gR.form Q;have HD:Hid (∀a,Below h.heap.size h a->a.cell? ⟨l,f*7,none⟩=some (.int .i64 k0)/\a.cell? ⟨l,f*7+1,none⟩=some (.int .i64 k1)/\a.cell? ⟨l,f*7+2,none⟩=some (.int .i64 k2)/\a.cell? ⟨l,f*7+3,none⟩=some (.string k3)/\a.cell? ⟨l,f*7+4,none⟩=some (.slice ja jl bf)/\a.cell? ⟨l,f*7+5,none⟩=some (.slice bi kl bm)/\a.cell? ⟨l,f*7+6,none⟩=some (.slice ba fl bb)):=λa i=>by
    have j:∀{f:Nat} {z:Value},w.cell? ⟨l,f,none⟩=some z->a.cell? ⟨l,f,none⟩=some z:=λ{f z} C=>by rw[(H.o.trans (i.mono (by omega))).cell (aB w _ C)];exact C
    exact⟨j (p 0 _ (by rw[r];rfl)),j (p 1 _ (by rw[r];rfl)),j (p 2 _ (by rw[r];rfl)),j (p 3 _ (by rw[r];rfl)),j (p 4 _ (by rw[r];rfl)),j (p 5 _ (by rw[r];rfl)),j (p 6 _ (by rw[r];rfl))⟩
   have HE:Hid (∀a,Below h.heap.size h a->a.cell? ⟨n,f*7,none⟩=some (.int .i64 l0)/\a.cell? ⟨n,f*7+1,none⟩=some (.int .i64 l1)/\a.cell? ⟨n,f*7+2,none⟩=some (.int .i64 l2)/\a.cell? ⟨n,f*7+3,none⟩=some (.string l3)/\a.cell? ⟨n,f*7+4,none⟩=some (.slice la ll bq)/\a.cell? ⟨n,f*7+5,none⟩=some (.slice bn ml br)/\a.cell? ⟨n,f*7+6,none⟩=some (.slice bc gl bd)):=λa i=>by
    have j:∀{f:Nat} {z:Value},w.cell? ⟨n,f,none⟩=some z->a.cell? ⟨n,f,none⟩=some z:=λ{f z} C=>by rw[(H.o.trans (i.mono (by omega))).cell (aB w _ C)];exact C
    exact⟨j (q 0 _ (by rw[s];rfl)),j (q 1 _ (by rw[s];rfl)),j (q 2 _ (by rw[s];rfl)),j (q 3 _ (by rw[s];rfl)),j (q 4 _ (by rw[s];rfl)),j (q 5 _ (by rw[s];rfl)),j (q 6 _ (by rw[s];rfl))⟩
   have U:Hid (∀a,Below h.heap.size h a->a.cell? ⟨w.heap.size,0,none⟩=some (.slice (some ⟨l,0,none⟩) g t)/\a.cell? ⟨w.heap.size+1,0,none⟩=some (.slice (some ⟨n,0,none⟩) g u)):=λa i=>⟨by rw[i.cell (by show w.heap.size<_;omega),cb X.o];rfl,by rw[i.cell a2,cb Y.o];rfl⟩;have V:Hid (∀a,Below h.heap.size h a->xi a a6 x2):=λa i=>by have al:=H.o.trans (i.mono (by omega));exact Gu k Z ac a a6 x2 B (gR.keep k O (λl _ N=>al.block l N)) (gR.keep k Q (λl _ N=>al.block l N)) a3
   unfold xi at V;subst r;subst s;have bv:IntKind.i64.wrap ((f:Int)+1)=((f+1:Nat):Int):=by rw[bP];omega
   clear O Q p q a3;go_wp2;clear c4 e4;refine p7 (λ_ a=>Below h.heap.size h a) (by kernel_rfl) ?_;intro c;have e:Below h.heap.size h wr.drew:=v.o.drew;refine ti 0 ?_ c e ?_;clear c e;intro c e;(try simp only[gB])
   refine tk 1 ?_ c ?_ e ?_;rotate_left;·intro a i;obtain⟨_,_,_,m⟩:=i;obtain⟨T,r4⟩:=U.o a m;go_simp;try(with_reducible rfl)
   clear c e;intro c e;(try simp only[gB])
   refine ti 2 ?_ c e ?_;clear c e;intro c e;(try simp only[gB])
   refine ti 3 ?_ c e ?_;clear c e;intro c e;(try simp only[gB])
   refine tk 4 ?_ c ?_ e ?_;rotate_left;·intro a i;obtain⟨_,_,_,m⟩:=i;obtain⟨q0,q1,q2,q3,T,q5,q6⟩:=HD.o a m;go_simp;try(with_reducible rfl)
   clear c e;intro c e;(try simp only[gB])
   refine ti 5 ?_ c e ?_;clear c e;intro c e;(try simp only[gB])
   refine tk 6 ?_ c ?_ e ?_;rotate_left;·intro a i;obtain⟨_,_,_,m⟩:=i;obtain⟨T,r4⟩:=U.o a m;go_simp;try(with_reducible rfl)
   clear c e;intro c e;(try simp only[gB])
   refine ti 7 ?_ c e ?_;clear c e;intro c e;(try simp only[gB])
   refine ti 8 ?_ c e ?_;clear c e;intro c e;(try simp only[gB])
   refine tk 9 ?_ c ?_ e ?_;rotate_left;·intro a i;obtain⟨_,_,_,m⟩:=i;obtain⟨q0,q1,q2,q3,T,q5,q6⟩:=HE.o a m;go_simp;try(with_reducible rfl)
   clear c e;intro c e;(try simp only[gB])
   refine on 10 c λL E=>?_;go_simp;refine(V.o _ v.o.drew).mono ?_;rintro ad w4 ⟨rfl,b4⟩;have K:Hid (Below h.heap.size h w4):=v.o.drew.trans (b4.mono (by simpa using v.o.size));clear b4;refine E.o _ _ K.o (λD F=>?_);clear c e E L;have c:=D;have e:=F;clear D F
   (try simp only[gB])
   refine on 11 c λL E=>?_;go_simp;refine E.o _ _ K.o (λD F=>?_);clear c e E L;have c:=D;have e:=F;clear D F
   (try simp only[gB])
   refine mI (by kernel_rfl) ?_ _;clear c e;go_wp2;go_roundw
   case rel=>exact⟨f+1,by omega,by first | rfl | (congr 1),K.o⟩
   case measure=>simp[intOf];omega
end
section
variable{W:World}
theorem FX{d f e c a:Nat}{b:Array Value}{j:List Value}(k:W.heap[d]?=some (.cells b f (0,0)))(g:c<=a)(l:a<=1000000)(h:b.size=a*e)(i:b.toList.take (c*e)=j):W.ownsRow 0 f e (.slice (some ⟨d,0,none⟩) c a) c j:=by refine⟨?_,Or.inr ⟨d,a,b,rfl,aE _,k,g,by unfold maxLen;omega,h,i⟩⟩;rw[<-i,ax,ee,h];exact dx (cM _ g)
end
def jj(r:List Nat):Prop:=∀b a,r=b::a->pB b=false
theorem jj.cons{b:Nat}{d:List Nat}(c:pB b=false):jj (b::d):=λe f a=>by cases a;exact c
def kE(s:List Nat):Prop:=s≠[]/\∀b∈s,pB b=true
theorem vC{r:List Nat}(a:jj r):r.takeWhile pB=[]/\r.dropWhile pB=r:=by
 cases r with
 |nil=>exact⟨rfl,rfl⟩
 |cons b c=>simp[List.takeWhile,List.dropWhile,a b c rfl]
theorem tC:∀{s r:List Nat},(∀b∈s,pB b=true)->jj r->(s++r).takeWhile pB=s/\(s++r).dropWhile pB=r
 | [],r,_,a=>vC a
 |b::s,r,c,a=>by have ih:=tC (s:=s) (r:=r) (λf e=>c f (aV _ e)) a;have d:=c b (aQ ..);simp[List.takeWhile,List.dropWhile,d,ih.1,ih.2]
theorem vg{b:Nat}(a:pB b=true):lM b=false/\rK b=false:=by unfold pB at a;simpa using a
theorem qE{b a:Nat}(d:pB b=true)(c:pB a=false):b≠a:=by rintro rfl;rw[d]at c;cases c
theorem sA{b:Nat}{c:List Nat}(a:pB b=true):gG (b::c)=b::c:=jz (vg a).1 (qE a rfl)
theorem qu{b:Nat}{a:List Nat}(c:lM b=true):gG (b::a)=gG a:=by show jq false (b::a)=_;rw[jq,aA c];rfl
theorem vD(a r:List Nat):gF a (gG r)=gF a r:=by unfold gF;rw[vL,vM]
theorem mi{b:Nat}{s a:List Nat}(c:lM b=true):gF s (b::a)=gF s a:=by rw[<-vD,qu c,vD]
theorem p6{a r:List Nat}(f:kE a)(e:jj r):iA (a++r)=a/\iZ (a++r)=r:=by obtain⟨d,c⟩:=f;obtain⟨b,a,rfl⟩:=c_ d;unfold iA iZ;rw[cj,sA (c b (aQ ..)),<-cj];exact tC c e
theorem lJ{s r:List Nat}(b:kE s)(a:jj r):gF s (s++r)=some r:=by unfold gF;rw[(p6 b a).1,(p6 b a).2,aA rfl]
theorem tB{a b r:List Nat}(e:kE a)(d:jj r)(c:a≠b):gF b (a++r)=none:=by unfold gF;rw[(p6 e d).1,au c]
theorem sC{b:Nat}{s g:List Nat}(c:pB b=false)(f:lM b=false)(d:b≠37)(e:s≠[]):gF s (b::g)=none:=by unfold gF iA;rw[jz f d,(vC (jj.cons c)).1,au (λa=>e a.symm)]
theorem nu(s r:List Nat):gH s (s++r)=some r:=by unfold gH;rw[aA (by simp),List.drop_left]
theorem kA{b a:Nat}{d e:List Nat}(c:a≠b):gH (a::d) (b::e)=none:=by unfold gH;rw[au];simp[List.isPrefixOf,c]
structure pS(G:List Nat):Prop where
 skip:∀r,gG (G++r)=gG r
 np:∀r,jj r->jj (G++r)
theorem pS.white{b:Nat}(a:lM b=true):pS [b]:=⟨λr=>qu a,λr _=>jj.cons (by unfold pB;rw[a];rfl)⟩
theorem vH{k:Nat}(r:List Nat):gI (k+1) (gG r)=gI (k+1) r:=by unfold gI;rw[kV,pE]
theorem pS.value{a:List Nat}(b:pS a){k:Nat}(r:List Nat):gI (k+1) (a++r)=gI (k+1) r:=by rw[<-vH,b.skip,vH]
theorem tU{b:Nat}(a:pB b=true):b≠91/\b≠60/\b≠40/\b≠47/\b≠93/\b≠62/\b≠37:=
 ⟨qE a rfl,qE a rfl,qE a rfl,qE a rfl,qE a rfl,qE a rfl,qE a rfl⟩
theorem vI{k:Nat}{a r:List Nat}(g:kE a):gI (k+1) (a++r)=jA (VT k) (a++r):=by obtain⟨e,f⟩:=g;obtain⟨b,a,rfl⟩:=c_ e;have c:=f b (aQ ..);obtain⟨h,d,i,j,_⟩:=tU c;unfold gI;rw[cj,sA c,kA h.symm,kA d.symm,kA d.symm,kA i.symm,kA j.symm]
def iP(a:Nat):List Nat:=(Lib.decDigits a).map UInt8.toNat
theorem sS{a:Nat}(b:a<10):(UInt8.ofNat (48+a)).toNat=48+a:=by rw[UInt8.toNat_ofNat'];omega
theorem qX{a:Nat}(b:a<10):iP a=[48+a]:=by unfold iP;rw[Lib.decDigits,dif_pos b];simp only[bJ,dR,sS b]
theorem rT{a:Nat}(b:¬ a<10):iP a=iP (a/10)++[48+a%10]:=by unfold iP;rw[Lib.decDigits,dif_neg b,aH];simp only[bJ,dR,sS (show a%10<10 by omega)]
theorem oD(c:Nat):iP c≠[]/\∀b∈iP c,48<=b/\b<=57:=by
 induction c using Nat.strongRecOn with
 |_ c ih =>
  by_cases d:c<10;·rw[qX d];exact⟨by simp,λb a=>by simp at a;omega⟩
  ·rw[rT d];refine⟨by simp,λb a=>?_⟩;rcases bH.1 a with a | a;·exact(ih (c/10) (by omega)).2 b a
   ·simp at a;omega
theorem sQ{b:Nat}(a:48<=b/\b<=57):pB b=true:=by
 have:∀b:Fin 10,pB (48+b.val)=true:=by decide
 have:=this ⟨b-48,by omega⟩
 rwa [show 48+(b-48)=b by omega]at this
theorem oL(a:Nat):kE (iP a):=⟨(oD a).1,λb c=>sQ ((oD a).2 b c)⟩
theorem yG(a:List Nat)(b:Nat):jN (a++[b])=10*jN a+(b-48):=by unfold jN;rw[List.foldl_append];rfl
theorem rY(a:Nat):jN (iP a)=a:=by
 induction a using Nat.strongRecOn with
 |_ a ih =>
  by_cases b:a<10;·rw[qX b];simp[jN]
  ·rw[rT b,yG,ih (a/10) (by omega)];omega
theorem uE{a:List Nat}(d:∀b∈a,48<=b/\b<=57):gA a=([],a):=by
 cases a with
 |nil=>rfl
 |cons b c=>have:=d b (aQ ..);show(if b=43\/b=45 then([b],c)else(([]:List Nat),b::c))=_;rw[au (by omega)]
theorem xW{a:List Nat}(d:a≠[])(c:∀b∈a,48<=b/\b<=57):kI a=some (jN a:Int):=by unfold kI;rw[uE c];rw[aA ⟨d,by rw[dF];intro b e;have:=c b e;simp[j6];omega⟩,au (by simp)]
theorem nN:∀(k a:Nat),a<10^(k+1)->(iP a).length<=k+1
 |0,a,b=>by rw[qX (by simpa using b)];exact af _
 |k+1,a,b=>by
  have ih:=nN k (a/10) (by rw[Nat.div_lt_iff_lt_mul (by decide)];rw[dG]at b;exact b);by_cases c:a<10;·rw[qX c];simp
  ·rw[rT c,ab,eD];omega
theorem sE{a:Nat}(b:a<10^10):jQ (iP a)=some (a:Int):=by unfold jQ;rw[uE (oD a).2,aA ⟨eP.2 (oD a).1,nN 9 a b⟩,xW (oD a).1 (oD a).2,rY]
section
variable{w a:World}
def qY:Nat->Nat->List Nat
 |_,0=>[]
 |b,c+1=>qY (b/10) c++[48+b%10]
def qZ:Nat->Nat->List Nat
 |0,b=>qY b 1
 |c+1,b=>if b<10 then qY b 1 else qZ c (b/10)++qY (b%10) 1
def u7(b d:List Nat)(c:Nat):List Nat:=qZ 18 (c+1)++([32]++(b++([48]++(b++([32,111,98,106]++(b++([10]++(d++([10]++(b++([101,110,100,111,98,106,10]++b)))))))))))
def wj(d k:Int)(c b:Nat):Nat:=if(c:Int)=k then((b:Int)+d).toNat else b
def AP(b:Nat):List Nat:=qY b 10++[32,48,48,48,48,48,32,110,32,10]
def xu(e:List Nat)(f k:Int):Nat->List (List Nat)->List Nat->List Nat->List Nat × List Nat
 |_,[],b,d=>(b,d)
 |c,h::g,b,d=>xu e f k (c+1) g (b++u7 e h c) (d++AP (wj f k c b.length))
def AQ(b:Nat):List Nat:=[120,114,101,102,10,48,32]++(qZ 18 (b+1)++[10,48,48,48,48,48,48,48,48,48,48,32,54,53,53,51,53,32,102,13,10])
def AU(b:List Nat)(d c:Nat):List Nat:=b++([116,114,97,105,108,101,114]++(b++([60,60,47,82,111,111,116,32,49,32]++(b++([48,32,82]++(b++([47,83,105,122,101,32]++(qZ 18 (d+1)++([62,62]++(b++([115,116,97,114,116,120,114,101,102,10]++(b++(qZ 18 c++[13,10,37,37,69,79,70])))))))))))))
def AR(d:Nat)(c:List Nat)(b:List Nat × List Nat):List Nat:=b.1++(b.2++AU c d b.1.length)
def Cg(c:List (List Nat))(b:List Nat)(d k:Int):List Nat:=AR c.length b (xu b d k 0 c ([37,80,68,70,45,49,46,52,10]++b) (AQ c.length))
end
theorem qC(a:Nat):iL a=iP a:=rfl
theorem uX:∀(k:Nat) (a:List Nat),jN (List.replicate k 48++a)=jN a
 |0,a=>rfl
 |k+1,a=>by rw[fL];exact uX k a
def jS(a:List Nat):Nat->List (List Nat)->List Nat
 |_,[]=>[]
 |b,d::c=>u7 a d b++jS a (b+1) c
def pF(a:List Nat):Nat->List (List Nat)->Nat->List Nat
 |_,[],_=>[]
 |b,e::d,c=>c::pF a (b+1) d (c+(u7 a e b).length)
theorem mz{s:List Nat}(c:s≠[])(a:s.all pB=true):kE s:=⟨c,λb d=>by rw[dF]at a;exact a b d⟩
section
theorem jj.lit{b:Nat}{s r:List Nat}(a:pB b=false):jj ((b::s)++r):=jj.cons a
theorem r9:∀{s r:List Nat},(∀b∈s,pB b=true/\33<=b/\b<=126/\b≠35)->jj r->ke (s++r)=some (s,r)
 | [],r,_,a=>by
  cases r with
  |nil=>rfl
  |cons b d=>show g7 0 0 (b::d)=_;rw[g7,aA (a b d rfl)]
 |b::s,r,c,a=>by obtain⟨e,i,h3,f⟩:=c b (aQ ..);have ih:g7 0 0 (s++r)=some (s,r):=r9 (λh g=>c h (aV _ g)) a;show g7 0 0 (b::(s++r))=_;rw[g7,au (by rw[e];simp),au (by omega),au f,ih];rfl
section
variable{α:Type}{f:List Nat->Option (α × List Nat)}
theorem yw{a:List Nat}(c:pS a)(b:Nat)(r:List Nat):jh f (b+1) (a++r)=jh f (b+1) r:=by rw[jh,jh,c.skip]
theorem td{c:Nat}{r b d e:List Nat}{g:α}(h:ke r=some (b,d))(i:f d=some (g,e)):jh f (c+1) (47::r)=(jh f c e).map λa=>((b::a.1.1,g::a.1.2),a.2):=by rw[jh,jz (by decide) (by decide),kA (by decide)];simp only[];rw[show gH [47] (47::r)=some r from nu [47] r];simp only[];rw[h];simp only[];rw[i]
theorem xn(a:Nat)(r:List Nat):jh f (a+1) (62::62::r)=some (([],[]),r):=by rw[jh,jz (by decide) (by decide),show gH [62,62] (62::62::r)=some r from nu [62,62] r]
end
theorem vQ{d:Type}{a r:List Nat}{c:Int}(f:kE a)(e:jj r)(b:jQ a=some c):jA d (a++r)=match gY r with
  |some i=>some (hJ d 9 c 0 [],i)
  |none=>some (hJ d 2 c 0 [],r):=by
 unfold jA;rw[(p6 f e).1,(p6 f e).2,b];have g:a≠[110,117,108,108]:=by rintro rfl;cases b
 have h:a≠[102,97,108,115,101]:=by rintro rfl;cases b
 have h3:a≠[116,114,117,101]:=by rintro rfl;cases b
 rw[au g,au h,au h3];rfl
theorem xO{k:Nat}{a r d:List Nat}{c:Int}(b:kE a)(f:jj r)(g:jQ a=some c)(e:gY r=some d):gI (k+1) (a++r)=some (hJ (VT k) 9 c 0 [],d):=by rw[vI b,vQ b f g,e]
theorem xN{k:Nat}{s r:List Nat}{b:Int}(a:kE s)(d:jj r)(e:jQ s=some b)(c:gY r=none):gI (k+1) (s++r)=some (hJ (VT k) 2 b 0 [],r):=by rw[vI a,vQ a d e,c]
end
section
variable{w c:World}
def rV(a:Nat):Nat:=if a<10 then 48+a else 87+a
theorem Ao(d:World)(b:Nat)(a:List Nat)(e:d.heap[b]?=some (.cells ((a.map λg:Nat=>Value.int .u8 (g:Int)).toArray) 5 (0,0))):(convert 23 9 (.slice (some ⟨b,0,none⟩) a.length a.length)).run Tryz.prog d=.ok (.string (gC a)) d:=by refine zo ⟨b,0,none⟩ a.length a (λh f=>?_);rw[aa,cb e];simp[ai f,nth]
end
end Go.Proofs.YtgkljcmjnphpeaaGreatDoor
