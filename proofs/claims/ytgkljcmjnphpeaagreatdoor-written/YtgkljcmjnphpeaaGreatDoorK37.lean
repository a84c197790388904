import Derived.Test.YtgkljcmjnphpeaaGreatDoorK36
set_option linter.unusedVariables false
set_option linter.unusedSimpArgs false
set_option maxHeartbeats 4000000
set_option maxRecDepth 100000
namespace Go.Proofs.YtgkljcmjnphpeaaGreatDoor
open Go.RowKit
section
variable{w w':World}
theorem Bk:gC [76,101,110,103,116,104]={ data:=#[76,101,110,103,116,104] }:=by rfl
theorem Ej:gC [70,105,108,116,101,114]={ data:=#[70,105,108,116,101,114] }:=by rfl
theorem og{f g:World}{j:Option Nat}{b c k i:Nat}{e:Value}{l:List Value}(o:f.ownsRow b c k e i l)(r:f.grownBy g j)(s:∀a,e.ownBlock=some a->j≠some a):g.ownsRow b c k e i l:=by
 obtain⟨p,d⟩:=o;refine⟨p,?_⟩;rcases d with d | ⟨a,m,n,e1,e2,h,q⟩;·exact Or.inl d
 ·exact Or.inr ⟨a,m,n,e1,e2,by rw[r.block a (ae h) (λc=>s a (by rw[e1];rfl) c.symm)];exact h,q⟩
theorem kZ.mono{c:World}{d b:Nat}{g:Value}{f:List nU}(a:kZ d c g f)(j:d<=b):kZ b c g f:=by
 rcases a with a | ⟨i,h,e,l,k⟩;·exact Or.inl a
 ·exact Or.inr ⟨i,h,e,aC l j,k⟩
theorem ot{d:World}{b i e f r s p q:Nat}{g h:Value}{t u:List Value}(j:d.ownsRow b e r g p t)(k:d.ownsRow i f s h q u)(o:e≠f):∀a,g.ownBlock=some a->h.ownBlock≠some a:=λa m n=>by obtain⟨_,v,y,l⟩:=nR j a m;obtain⟨_,x,z,c⟩:=nR k a n;rw[l]at c;simp at c;exact o c.2.1
def sitems(a:Nat)(b:List Nat)(c:Nat):List (VT (a+2)):=(hJ (VT (a+1)) 2 (c:Int) 0 []:VT (a+2))::(if b=[]then[]else[namesV a b])
def skeys(a:List Nat):List (List Nat):=[76,101,110,103,116,104]::(if a=[]then[]else[[70,105,108,116,101,114]])
def sdict(a:Nat)(V:gz (VT (a+2)))(b:Nat):gz (VT (a+2)):=⟨7,0,0,[],V.items++sitems a V.filters b,V.keys++skeys V.filters,[]⟩
def Cc(a:Int):Value:=.agg #[.int .i64 2,.int .i64 a,.int .i64 0,.string { data:=#[] },.slice none 0 0,.slice none 0 0,.slice none 0 0]
def Dr(a:Option Addr)(c b:Nat):Value:=.agg #[.int .i64 6,.int .i64 0,.int .i64 0,.string { data:=#[] },.slice a c b,.slice none 0 0,.slice none 0 0]
theorem A5{a b c d e f g:Value}(h:(a.oneCell'&&b.oneCell'&&c.oneCell'&&d.oneCell'&&e.oneCell'&&f.oneCell'&&g.oneCell')=true):∀j∈cellsOf (.agg #[a,b,c,d,e,f,g]),j.oneCell'=true:=by intro j i;simp[cellsOf,Value.cells]at i;simp only[dX]at h;rcases i with rfl | rfl | rfl | rfl | rfl | rfl | rfl<;>simp[h]
theorem yr{d:World}{b:Nat}{e f g h i j k:Value}(m:d.heap[b]?=some (.cells #[e,f,g,h,i,j,k] 67 (0,0))):∀(a:Nat) (c:Value),(cellsOf (.agg #[e,f,g,h,i,j,k]))[a]?=some c->d.cell? ((⟨b,0,none⟩:Addr).add a)=some c:=by intro a c l;rw[aa,cb m];rw[<-l];simp[cellsOf,Value.cells]
theorem JE{g:World}{d b:Nat}{h:Option Addr}{i:Nat}{c:List nU}(m:g.ownsRow b 67 7 (.slice h c.length i) c.length (c.flatMap λa=>cellsOf (uZ a.1))):gR (λ_=>True) (d+2) g (Dr h c.length i) (namesV d (c.map λa=>a.1)):=by
 refine⟨.slice h c.length i,.slice none 0 0,.slice none 0 0,c.map (λa=>uZ a.1),rfl,?_,?_,?_,jr.nil _ _ _ _,jr.nil _ _ _ _⟩
 ·show(c.map (λa=>uZ a.1)).length=(((c.map λa=>a.1)).map (λe=>(hJ (VT d) 4 0 0 (bl (i5 e)):VT (d+1)))).length;simp
 ·rw[av,List.flatMap_map];exact jr.of m (λ_ _=>trivial)
 ·intro l a o f n;have j:(((c.map λa=>a.1)).map (λe=>(hJ (VT d) 4 0 0 (bl (i5 e)):VT (d+1))))[l]?=some o:=n;rw[bj]at f;rw[bj,bj]at j;cases k:c[l]? with
  |none=>rw[k]at f;cases f
  |some e=>rw[k]at f j;cases f;cases j;have:=gR.leaf (P:=λ_=>True) (w:=g) d 4 0 0 (bl (i5 e.1));rw[xG]at this;exact this
theorem A6{f g:World}{e b h k j:Nat}{d:Value}{l:List Value}(o:f.ownsRow b h k d j l)(s:gQ e f g)(r:∀a,d.ownBlock=some a->a≠e):g.ownsRow b h k d j l:=by
 obtain⟨p,c⟩:=o;refine⟨p,?_⟩;rcases c with c | ⟨a,m,n,e1,e2,i,q⟩;·exact Or.inl c
 ·exact Or.inr ⟨a,m,n,e1,e2,by rw[s.block a (ae i) (r a (by rw[e1];rfl))];exact i,q⟩
theorem FL{c:World}(a:Nat)(b:Nat):gR (λ_=>True) (a+2) c (Cc (b:Int)) (hJ (VT (a+1)) 2 (b:Int) 0 []):=gR.leaf (P:=λ_=>True) (w:=c) (a+1) 2 (b:Int) 0 []
theorem si{g:World}{c b n:Nat}{a:gz (VT (c+2))}{i:Nat}{k l:Value}{vs us:List Value}(m:vs.length=a.items.length)(t:us.length=(sitems c a.filters i).length)
  (r:g.ownsRow b 67 7 k (vs++us).length ((vs++us).flatMap cellsOf)) (s:g.ownsRow n 9 1 l (a.keys++skeys a.filters).length ((a.keys++skeys a.filters).map λv=>.string (gC v)))
  (p:∀(d:Nat) (f:Value) (e:VT (c+2)),vs[d]?=some f->a.items[d]?=some e->gR (λ_=>True) (c+2) g f e) (q:∀(d:Nat) (f:Value) (e:VT (c+2)),us[d]?=some f->(sitems c a.filters i)[d]?=some e->gR (λ_=>True) (c+2) g f e) :
  gR (λ_=>True) (c+3) g (.agg #[.int .i64 7,.int .i64 0,.int .i64 0,.string { data:=#[] },k,l,.slice none 0 0]) (sdict c a i):=by
 refine⟨k,l,.slice none 0 0,vs++us,rfl,?_,jr.of r (λ_ _=>trivial),?_,jr.of s (λ_ _=>trivial),jr.nil _ _ _ _⟩
 ·show _=(a.items++sitems c a.filters i).length;rw[ab,ab,m,t]
 ·intro d f e j u;have h:(a.items++sitems c a.filters i)[d]?=some e:=u;by_cases o:d<vs.length
  ·rw[aI o]at j;rw[aI (by omega)]at h;exact p d f e j h
  ·rw[ar (by omega)]at j;rw[ar (by omega)]at h;rw[<-m]at h;exact q _ f e j h
theorem LV{I:Nat}{c7:Nat->Prop}{ba:Value}{a:gz (VT (I+2))}{K:List nU}(hv:gR c7 (I+3) w ba a)(M:a.filters=K.map λp=>p.1)(dd:K.length<=100)(de:a.items.length<=500000)(dg:a.keys.length<=500000)(s:Nat) :
  Calls Tryz.prog 179 #[ba,.int .i64 (s:Int)] w λl w'=>∃v',l=.returned v'/\gR (λ_=>True) (I+3) w' v' (sdict I a s)/\Below w.heap.size w w':=by
 obtain⟨iv,kv,fv,N,rfl,Z,a3,bm,bi,bf⟩:=hv;have al:Hid (N.length=a.items.length):=Z;rw[Z]at a3;obtain⟨u,v,rfl⟩:=i_ a3.1;obtain⟨q,r,rfl⟩:=i_ bi.1;obtain⟨y,z,rfl⟩:=i_ bf.1;unfold nV;obtain⟨is,hs,dj,dk,dl⟩:=bu iS;obtain⟨iz,hz,dn,dp,dr⟩:=bu iV;have T:∀o∈N.flatMap cellsOf,o.oneCell'=true:=λo d=>by obtain⟨p,h,d⟩:=List.mem_flatMap.1 d;obtain⟨f,F,rfl⟩:=cA h;exact(bm f _ (a.items[f]'(by rw[Z]at F;exact F)) (ai F) (ai (by rw[Z]at F;exact F))).cells.2 o d
 have b8:kZ w.heap.size w (.slice y a.filters.length z) K:=by
  rcases bf.1.2 with⟨h1,h2⟩ | ⟨c,ao,c8,e1,e2,e,hn,hm,d5,L⟩
  ·refine Or.inl ⟨h1,?_⟩;have h3:(K.map λp=>p.1).length=0:=by rw[<-M];exact h2
   simpa using h3
  ·refine Or.inr ⟨c,ao,?_,ae e,λf F=>?_⟩
   ·rw[e1];show Value.slice _ a.filters.length ao=_;rw[M,av]
   ·rw[cb e,<-cY];have d4:f<a.filters.length:=by rw[M,av];exact F
    rw[<-cF (show f<a.filters.length*1 by omega)];rw[show c8.toList.take (a.filters.length*1)=_ from L];show(a.filters.map λc9:Nat=>Value.int .i64 (c9:Int))[f]?=_;rw[M,bj,bj,ai F];simp
 have cw:Hid (a.filters.length=K.length):=by unfold Hid;rw[M,av]
 have b4:=gv a3;have b7:=gv bi;have c6:=gv bm;have c0:=gv M;have bz:=gv b8;have c3:=gv T;have c1:Hid (∃B,B=a.items.length):=⟨_,rfl⟩;obtain⟨i,a1⟩:∃B,B=a.items.length:=⟨_,rfl⟩;obtain⟨g,Y⟩:∃B,B=a.keys.length:=⟨_,rfl⟩;obtain⟨C,a0⟩:∃B,B=a.filters.length:=⟨_,rfl⟩;have EI:=gv a1;have EK:=gv Y;have EF:=gv a0;rw[<-a1]at de b4;rw[<-Y]at dg;change Calls Tryz.prog 179 #[.agg #[.int .i64 (a.kind:Int),.int .i64 a.n,.int .i64 (a.places:Int),.string (gC a.text),.slice u a.items.length v,.slice q a.keys.length r,.slice y a.filters.length z],.int .i64 (s:Int)] w _;rw[<-a1,<-Y,<-a0];have c4:Hid (w.ownsRow 0 9 1 (.slice q g r) g (a.keys.map λch=>.string (gC ch))):=by unfold Hid;rw[Y];exact b7.o.1
 have cs:Hid (kZ w.heap.size w (.slice y C z) K):=by unfold Hid;rw[a0];exact bz.o
 clear a3 bi bf bm M b8 T a1 Y a0 Z b7 bz c1;have bA:Below w.heap.size w (w.alloc (.cells #[.int .i64 (a.kind:Int),.int .i64 a.n,.int .i64 (a.places:Int),.string (gC a.text),.slice u i v,.slice q g r,.slice y C z] 67)):=(aj _ _).alloc (af _) _;have bB:=bA.alloc (by simp) (.cells #[.int .i64 0,.int .i64 0,.int .i64 0,.string { data:=#[] },.slice none 0 0,.slice none 0 0,.slice none 0 0] 67);have bC:=bB.alloc (by simp;omega) (.cells #[.string { data:=#[76,101,110,103,116,104] }] 9);have bD:=bC.alloc (by simp;omega) (.cells #[.slice q g r,.slice (some ⟨w.heap.size+1+1,0,none⟩) 1 1] 38);have xA:=jd w (.cells #[.int .i64 (a.kind:Int),.int .i64 a.n,.int .i64 (a.places:Int),.string (gC a.text),.slice u i v,.slice q g r,.slice y C z] 67);have xB:=jd (w.alloc (.cells #[.int .i64 (a.kind:Int),.int .i64 a.n,.int .i64 (a.places:Int),.string (gC a.text),.slice u i v,.slice q g r,.slice y C z] 67)) (.cells #[.int .i64 0,.int .i64 0,.int .i64 0,.string { data:=#[] },.slice none 0 0,.slice none 0 0,.slice none 0 0] 67);have xC:=jd ((w.alloc (.cells #[.int .i64 (a.kind:Int),.int .i64 a.n,.int .i64 (a.places:Int),.string (gC a.text),.slice u i v,.slice q g r,.slice y C z] 67)).alloc (.cells #[.int .i64 0,.int .i64 0,.int .i64 0,.string { data:=#[] },.slice none 0 0,.slice none 0 0,.slice none 0 0] 67)) (.cells #[.string { data:=#[76,101,110,103,116,104] }] 9);have xD:=jd (((w.alloc (.cells #[.int .i64 (a.kind:Int),.int .i64 a.n,.int .i64 (a.places:Int),.string (gC a.text),.slice u i v,.slice q g r,.slice y C z] 67)).alloc (.cells #[.int .i64 0,.int .i64 0,.int .i64 0,.string { data:=#[] },.slice none 0 0,.slice none 0 0,.slice none 0 0] 67)).alloc (.cells #[.string { data:=#[76,101,110,103,116,104] }] 9)) (.cells #[.slice q g r,.slice (some ⟨w.heap.size+1+1,0,none⟩) 1 1] 38);simp only[bM]at xB xC xD;have xA:=l9 (.cells #[.slice q g r,.slice (some ⟨w.heap.size+1+1,0,none⟩) 1 1] 38) (l9 (.cells #[.string { data:=#[76,101,110,103,116,104] }] 9) (l9 (.cells #[.int .i64 0,.int .i64 0,.int .i64 0,.string { data:=#[] },.slice none 0 0,.slice none 0 0,.slice none 0 0] 67) xA));have xB:=l9 (.cells #[.slice q g r,.slice (some ⟨w.heap.size+1+1,0,none⟩) 1 1] 38) (l9 (.cells #[.string { data:=#[76,101,110,103,116,104] }] 9) xB);have xC:=l9 (.cells #[.slice q g r,.slice (some ⟨w.heap.size+1+1,0,none⟩) 1 1] 38) xC;generalize a2:(((w.alloc (.cells #[.int .i64 (a.kind:Int),.int .i64 a.n,.int .i64 (a.places:Int),.string (gC a.text),.slice u i v,.slice q g r,.slice y C z] 67)).alloc (.cells #[.int .i64 0,.int .i64 0,.int .i64 0,.string { data:=#[] },.slice none 0 0,.slice none 0 0,.slice none 0 0] 67)).alloc (.cells #[.string { data:=#[76,101,110,103,116,104] }] 9)).alloc (.cells #[.slice q g r,.slice (some ⟨w.heap.size+1+1,0,none⟩) 1 1] 38)=WD at *;have L:=gv (cS (c:=2) xD (sY c4.o bD) (s1:=.slice (some ⟨w.heap.size+1+1,0,none⟩) 1 1) (n1:=1) (xs1:=[.string { data:=#[76,101,110,103,116,104] }]) ⟨rfl,Or.inr ⟨_,_,_,rfl,aE _,xC,af _,by decide,rfl,rfl⟩⟩ (λo d=>by obtain⟨ch,_,rfl⟩:=cv.1 d;rfl) (λo d=>by simp at d;subst d;rfl) (by omega) (by omega));have HA:=gv xA;have HB:=gv xB;have BD:=gv bD;have d3:w.heap.size+3<WD.heap.size:=ae xD;clear bA bB bC bD xA xB xC xD;have a2:=a2;go_enter Tryz.func179,Tryz.ntmps179;go_wp2_with fail;try rw[a2]
 refine L.o.mono ?_;rintro l t ⟨v1,rfl,a9,W⟩;clear a2 L;have bx:=(W.block _ (by omega)).trans HA.o;have cm:=(W.block (w.heap.size+1) (by omega)).trans HB.o;have U:=gv (BD.o.trans (W.mono BD.o.size));have dw:=W.size;have a4:=pV bx;obtain⟨ac,ad,rfl⟩:=i_ a9;have O1:=gv a9;have dv:Hid (∀c,(Value.slice ac (g+1) ad).ownBlock=some c->c<t.heap.size):=λc e=>(a9.lt c e).2;clear a9 W HA HB BD;have bE:Below t.heap.size t (t.alloc (.cells #[.int .i64 2,.int .i64 (s:Int),.int .i64 0,.string { data:=#[] },.slice none 0 0,.slice none 0 0,.slice none 0 0] 67)):=(aj _ _).alloc (af _) _;have J:=bE.alloc (by simp) (.cells #[.slice u i v,.slice (some ⟨t.heap.size,0,none⟩) 1 1] 29);have xE:=l9 (.cells #[.slice u i v,.slice (some ⟨t.heap.size,0,none⟩) 1 1] 29) (jd t (.cells #[.int .i64 2,.int .i64 (s:Int),.int .i64 0,.string { data:=#[] },.slice none 0 0,.slice none 0 0,.slice none 0 0] 67));have xF:=jd (t.alloc (.cells #[.int .i64 2,.int .i64 (s:Int),.int .i64 0,.string { data:=#[] },.slice none 0 0,.slice none 0 0,.slice none 0 0] 67)) (.cells #[.slice u i v,.slice (some ⟨t.heap.size,0,none⟩) 1 1] 29);simp only[bM]at xF;generalize b9:(t.alloc (.cells #[.int .i64 2,.int .i64 (s:Int),.int .i64 0,.string { data:=#[] },.slice none 0 0,.slice none 0 0,.slice none 0 0] 67)).alloc (.cells #[.slice u i v,.slice (some ⟨t.heap.size,0,none⟩) 1 1] 29)=WF at *;have L:=gv (Hw (c:=2) xF (sY b4.o.1 (U.o.trans (J.mono U.o.size))) (s1:=.slice (some ⟨t.heap.size,0,none⟩) 1 1) (n1:=1) (xs1:=cellsOf (Cc s)) ⟨rfl,Or.inr ⟨_,_,_,rfl,aE _,xE,af _,by decide,rfl,rfl⟩⟩ c3.o (A5 rfl) (by omega) (by omega));have ck:=gv ((J.block _ (by omega)).trans bx);have co:=gv ((J.block (w.heap.size+1) (by omega)).trans cm);have B2:=gv (U.o.trans (J.mono U.o.size));have O2:=gv (sY O1.o J);have d0:=J.size;clear bE J xE xF bx cm U O1;go_wp2_with fail;try rw[b9]
 refine L.o.mono ?_;rintro l A ⟨v3,rfl,bt,R⟩;clear b9 L a4;have bb:=(R.block _ (by omega)).trans ck.o;have j:=(R.block (w.heap.size+1) (by omega)).trans co.o;have B3:=gv (B2.o.trans (R.mono B2.o.size));have d1:=R.size;have a6:=sJ bb;have P:=gv (sY O2.o R);obtain⟨a7,a8,rfl⟩:=i_ bt;have Q:=gv bt;have b2:Hid (∀(f:Nat) (p:Value) (o:VT (I+2)),N[f]?=some p->a.items[f]?=some o->∀bc,Below w.heap.size w bc->gR (λ_=>True) (I+2) bc p o):=λf p o h d bc b=>((c6.o f p o h d).keep _ (λc _ e=>b.block c e)).mono _ (λ_ _ _=>trivial);clear bt R O2 ck co B2;rcases dK C with h0 | h0
 ·subst h0;have O:Hid (a.filters=[]):=cU.1 EF.o.symm;clear bb;have r0:=mb j;have f0:=ix 0 j;have r1:=oB j;have f1:=ix 1 j;have r2:=qJ j;have f2:=ix 2 j;have r3:=qU j;have f3:=ix 3 j;have r4:=pV j;have f4:=ix 4 j;have r5:=rj j;have f5:=ix 5 j;have r6:=sJ j;have f6:=ix 6 j;have HS:=gv (m_ (by unfold gZ;exact j) (.int .i64 7) (.int .i64 0) (.int .i64 0) (.string { data:=#[] }) (.slice a7 (i+1) a8) (.slice ac (g+1) ad) (.slice none 0 0));have HO:=gv (ly A (w.heap.size+1) (.int .i64 7) (.int .i64 0) (.int .i64 0) (.string { data:=#[] }) (.slice a7 (i+1) a8) (.slice ac (g+1) ad) (.slice none 0 0));clear j;go_wp2;refine aF (v:=.agg #[.int .i64 7,.int .i64 0,.int .i64 0,.string { data:=#[] },.slice a7 (i+1) a8,.slice ac (g+1) ad,.slice none 0 0]) ?_ rfl ?_;·exact aJ Tryz.results179 _ _ (w.heap.size+1) 67 _ _ _ rfl HS.o aP rfl (by kernel_rfl)
  have m:=HO.o;have hb:Below w.heap.size A _:=⟨m.os,m.tape,m.output,m.size,λk x=>m.block k (aC x B3.o.size) (by omega)⟩;have X:=B3.o.trans hb;refine⟨_,rfl,si (vs:=N) (us:=[Cc s]) al.o (by unfold sitems;rw[aA O.o];rfl) (A6 (by simpa[EI.o,al.o]using Q.o) m (λc e=>by have:=(Q.o.lt c e).1;omega)) (A6 (by simpa[EK.o,skeys,O.o,Bk]using P.o) m (λc e=>by have:=(P.o.lt c e).1;omega)) (λf p o h d=>b2.o f p o h d _ X) ?_,X⟩;intro f p o h d;unfold sitems at d;match f,h,d with
  |0,h,d=>cases h;cases d;exact FL I s
  |f+1,h,d=>simp at h
 ·have O:Hid (a.filters≠[]):=λda=>by have:=EF.o;rw[da]at this;simp at this;omega
  have a6:=a6;go_wp2_with (at_builtin;refine aK _ rfl (.tmp 23) (.tmp 24) 38 rfl WD.heap.size 9 is _ 1 16 d_ hs dj dk dl rfl (by decide) _ (g+1) _ rfl (P.o.alloc _) ⟨A.heap.size,0,none⟩ 1 1 [.string { data:=#[70,105,108,116,101,114] }] rfl rfl ?hnews ?hone ?h63 ?hby ?hbs ?_)
  case hnews =>
   intro f ds H;match f,H with
   |0,H=>cases H;rw[aa,cb (jd _ _)];rfl
   |f+1,H=>simp at H
  case hone=>intro ds H;simp at H;subst H;rfl
  case h63=>unfold maxLen;omega
  case hby=>omega
  case hbs=>simp;omega
  intro v4 w4 bv D _;have G:∀k,k<WD.heap.size->w4.heap[k]?=A.heap[k]?:=λk x=>by rw[D.block k (by simp;omega) (λl=>by have:=(P.o.lt k l.symm).1;omega),eQ _ _ _ (by omega)]
  have di:∀k,k<A.heap.size->(∀c,(Value.slice ac (g+1) ad).ownBlock=some c->c≠k)->w4.heap[k]?=A.heap[k]?:=λk x cd=>by rw[D.block k (by simp;omega) (λl=>cd k l.symm rfl),eQ _ _ _ x]
  have cl:=(G _ (by omega)).trans bb;have cp:=gv ((G (w.heap.size+1) (by omega)).trans j);have db:A.heap.size<=w4.heap.size:=aD (by simp) D.size;have V:=gv (B3.o.trans ⟨D.os,D.tape,D.output,db,λk x=>G k (by omega)⟩);have P4:=gv (og (Q.o.alloc _) D (λc e l=>ot (Q.o.alloc (.cells #[.string { data:=#[70,105,108,116,101,114] }] 9)) (P.o.alloc _) (by decide) c e l));have PL:Hid (∀c,(Value.slice a7 (i+1) a8).ownBlock=some c->WF.heap.size<=c/\c<A.heap.size):=λc e=>Q.o.lt c e;have b6:=sJ cl;obtain⟨br,bs,rfl⟩:=i_ bv;have O4:=gv bv;have b0:=gv (LN (w:=w4) (kZ.mono (cs.o.below V.o) V.o.size) (by omega) (by rw[EF.o,cw.o]));clear bv D G di bb j cl P Q B3 a6;go_wp2_with fail;refine b0.o.mono ?_;rintro l w5 ⟨a5,c5,rfl,cg,S⟩;have cr:=gv ((S.block (w.heap.size+1) (by omega)).trans cp.o);have B5:=gv (V.o.trans (S.mono V.o.size));have O5:=gv (sY O4.o S);have P5:=gv (sY P4.o S);have d2:=S.size;have N5:=gv cg;obtain⟨NN,bd⟩:∃B,B=K.length:=⟨_,rfl⟩;have c2:=gv bd;rw[<-bd]at N5 dd ⊢;clear bd;clear cg S O4 P4 V cp b0 b6;go_wp2_with (at_builtin;refine aK _ rfl (.tmp 26) (.tmp 30) 29 rfl WF.heap.size 67 iz _ 7 112 cu hz dn dp dr rfl (by decide) _ (i+1) _ rfl (P5.o.alloc _) ⟨w5.heap.size,0,none⟩ 1 1 (cellsOf (Dr a5 NN c5)) rfl rfl ?hnews ?hone ?h63 ?hby ?hbs ?_)
  case hnews=>exact yr (jd _ _)
  case hone=>exact A5 rfl
  case h63=>unfold maxLen;omega
  case hby=>omega
  case hbs=>simp;omega
  intro v6 w6 bw E _;have dc:w5.heap.size<=w6.heap.size:=aD (by simp) E.size;have G:∀k,k<w5.heap.size->(k<WF.heap.size\/A.heap.size<=k)->w6.heap[k]?=w5.heap[k]?:=λk x cd=>by rw[E.block k (by simp;omega) (λl=>by have:=PL.o k l.symm;omega),eQ _ _ _ x]
  have n:=(G (w.heap.size+1) (by omega) (by omega)).trans cr.o;have B6:=gv (B5.o.trans ⟨E.os,E.tape,E.output,dc,λk x=>G k (by omega) (by omega)⟩);have O6:=gv (og (O5.o.alloc _) E (λc e l=>ot (O5.o.alloc (.cells #[.int .i64 6,.int .i64 0,.int .i64 0,.string { data:=#[] },.slice a5 NN c5,.slice none 0 0,.slice none 0 0] 67)) (P5.o.alloc _) (by decide) c e l));have N6:=gv (og (N5.o.alloc _) E (λc e l=>by have h1:=(N5.o.lt c e).1;have h2:=PL.o c l;omega));obtain⟨bn,bq,rfl⟩:=i_ bw;have P6:=gv bw;clear bw E G cr B5 O5 P5 N5;have r0:=mb n;have f0:=ix 0 n;have r1:=oB n;have f1:=ix 1 n;have r2:=qJ n;have f2:=ix 2 n;have r3:=qU n;have f3:=ix 3 n;have r4:=pV n;have f4:=ix 4 n;have r5:=rj n;have f5:=ix 5 n;have r6:=sJ n;have f6:=ix 6 n;have HS:=gv (m_ (by unfold gZ;exact n) (.int .i64 7) (.int .i64 0) (.int .i64 0) (.string { data:=#[] }) (.slice bn (i+1+1) bq) (.slice br (g+1+1) bs) (.slice none 0 0));have HO:=gv (ly w6 (w.heap.size+1) (.int .i64 7) (.int .i64 0) (.int .i64 0) (.string { data:=#[] }) (.slice bn (i+1+1) bq) (.slice br (g+1+1) bs) (.slice none 0 0));clear n;go_wp2;refine aF (v:=.agg #[.int .i64 7,.int .i64 0,.int .i64 0,.string { data:=#[] },.slice bn (i+1+1) bq,.slice br (g+1+1) bs,.slice none 0 0]) ?_ rfl ?_;·exact aJ Tryz.results179 _ _ (w.heap.size+1) 67 _ _ _ rfl HS.o aP rfl (by kernel_rfl)
  have m:=HO.o;have hb:Below w.heap.size w6 _:=⟨m.os,m.tape,m.output,m.size,λk x=>m.block k (aC x B6.o.size) (by omega)⟩;have X:=B6.o.trans hb;refine⟨_,rfl,si (vs:=N) (us:=[Cc s,Dr a5 NN c5]) al.o (by unfold sitems;rw[au O.o];rfl) (A6 (by simpa[EI.o,al.o]using P6.o) m (λc e=>by have:=(P6.o.lt c e).1;omega)) (A6 (by simpa[EK.o,skeys,O.o,Bk,Ej]using O6.o) m (λc e=>by have:=(O6.o.lt c e).1;omega)) (λf p o h d=>b2.o f p o h d _ X) ?_,X⟩;intro f p o h d;unfold sitems at d;rw[au O.o,c0.o]at d;match f,h,d with
  |0,h,d=>cases h;cases d;exact FL I s
  |1,h,d=>cases h;cases d;have hN:=A6 N6.o m (λc e=>by have:=(N6.o.lt c e).1;omega);rw[c2.o]at hN ⊢;exact JE hN
  |f+2,h,d=>simp at h
end
section
open Go.RowKit Go.Shelf
attribute [local go_sem] Oper.semAt_some
variable{w a:World}
structure nx(w:World)(v:Value)(l:List Nat):Prop where
 sl:∃ao cap,v=.slice ao l.length cap/\nA w w.heap.size ao l/\l.length<=cap/\cap<=9223372036854775807/\(ao=none->cap=0)
 byt:∀x∈l,x<256
structure rC(E:Nat->List Nat->List Nat->Prop)(M:Nat):Prop where
 call:∀(w:World) (v:Value) (f:Nat) (d:List Nat),qQ f->nx w v d->d.length<=M->Calls Tryz.prog 70 #[.int .i64 f,v] w λe a=>∃u enc,e=.returned u/\a.ownsRow w.heap.size 5 1 u enc.length (l_ enc)/\Below w.heap.size w a/\E f d enc
 byt:∀(f:Nat) (d enc:List Nat),E f d enc->∀x∈enc,x<256
 len:∀(f:Nat) (d enc:List Nat),E f d enc->enc.length<=2*d.length+36
def mL(d:Nat->List Nat->List Nat->Prop):List Nat->List Nat->List Nat->Prop
 | [],b,c=>c=b
 |f::g,b,c=>∃e,mL d g b e/\d f e c
theorem F6{b:List Nat}{d:Array Value}{e:Nat}{g:TypeId}{h:Nat × Nat}(j:w.heap[e]?=some (.cells d g h))(i:d.toList.take b.length=l_ b)(c:Nat)(f:c<b.length):w.cell? ⟨e,0+c,none⟩=some (.int .u8 (nth b c:Nat)):=by rw[b_,cb j,<-cY,<-cF f,i];simp[l_,nth,ai f]
theorem nx.own{B:Nat}{f:Value}{l:List Nat}(b:w.ownsRow B 5 1 f l.length (l_ l))(k:∀p∈l,p<256):nx w f l:=by
 refine⟨?_,k⟩;rcases b.2 with⟨i,j⟩ | ⟨g,h,q,e1,e2,d,o,n,r,m⟩
 ·have:l=[]:=cU.1 j;subst this;exact⟨none,0,i,λe c=>absurd c (by simp),af _,by omega,λ_=>rfl⟩
 ·refine⟨_,h,e1,λe c=>⟨g,0,rfl,ae d,F6 d (by simpa using m) e c⟩,o,n,λb=>by cases b⟩
theorem nx.below{v:Value}{g:List Nat}(i:nx w v g)(b:Below w.heap.size w a):nx a v g:=by obtain⟨⟨ao,cap,e,l,j⟩,k⟩:=i;refine⟨⟨ao,cap,e,λf m=>?_,j⟩,k⟩;obtain⟨c,h,e2,d,h3⟩:=l f m;exact⟨c,h,e2,aC d b.size,(b.cell (p:=⟨c,h+f,none⟩) d).trans h3⟩
def BF(h:Nat->List Nat->List Nat->Prop)(c:Nat)(g:List Nat)(w:World)(pre:List (Nat × nU))(b:World):Prop:=
 (∃e d,(b.cell? ⟨c,0,none⟩=some e/\b.frozen? ⟨c,0,none⟩=false)/\nx b e d/\mL h (pre.map λi=>i.2.1).reverse g d/\d.length+36<=2^pre.length*(g.length+36)/\c+1<b.heap.size/\(∀f,e.ownBlock=some f->w.heap.size<=f))/\Below w.heap.size w b
theorem nx.grown{f:Value}{d:List Nat}{e:Option Nat}(k:nx w f d)(c:w.grownBy a e)(q:∀r,e=some r->∃b:Obj,w.heap[r]?=some b/\b.isCells=false):nx a f d:=by obtain⟨⟨g,i,j,o,l⟩,n⟩:=k;refine⟨⟨g,i,j,λs p=>?_,l⟩,n⟩;obtain⟨h,b,e2,m,h3⟩:=o s p;exact⟨h,b,e2,aC m c.size,cell_kept h3 c q⟩
theorem BF.own(f:Nat->List Nat->List Nat->Prop)(e:Nat)(o:List Nat)(w:World)(B:Nat)(m:w.heap.size<=B):OwnFrom B (BF f e o w):=
 OwnFrom.and (Own.from (λs q B r n b c=>by obtain⟨p,g,⟨d,h⟩,h3,i,j,k,l⟩:=n;exact⟨p,g,⟨cell_kept d b c,(frozen_kept d b c).trans h⟩,h3.grown b c,i,j,aC k b.size,l⟩) _) (ownFrom_below (af _) m)
theorem J2{H:Nat->List Nat->List Nat->Prop}{D:Nat}(Y:rC H D){c:List Nat}{d:Option Addr}{f e:Nat}{j:List nU}(hb:∀g∈c,g<256)(hl:c.length<=1000000)(ad:kZ w.heap.size w (.slice d f e) j)(bz:j.length<=20)(hM:2^j.length*(c.length+36)<=2*D)(bx:c.length<=D)
  {kd nn pp:Int} {ia ka:Option Addr} {ni ic nk kc:Nat} :
  Calls Tryz.prog 178 #[.agg #[.int .i64 kd,.int .i64 nn,.int .i64 pp,.string (gC c),.slice ia ni ic,.slice ka nk kc,.slice d f e]] w λq a=>∃o l,q=.returned o/\nx a o l/\(∀m,o.ownBlock=some m->w.heap.size<=m)/\Below w.heap.size w a/\mL H (j.map λg=>g.1) c l/\l.length+36<=2^j.length*(c.length+36):=by
 have I:=gv Y;have HM:=gv hM;clear hM Y;have P:=gv hb;have a4:=gv ad;clear ad hb;refine(callsIn_wide (n:=3)).1 ?_;refine callsIn_of_wp_marks Tryz.func178 rfl trivial ?_ rfl;simp only[Tryz.ntmps178,dS,ag,aw,Nat.reduceAdd,Nat.reduceSub,fy,fA,List.push_toArray,fK,cC,cj];obtain⟨i,b,a6,a7,a9,y,L,a8⟩:=Hx c P.o hl (w.alloc (.cells #[.int .i64 kd,.int .i64 nn,.int .i64 pp,.string (gC c),.slice ia ni ic,.slice ka nk kc,.slice d f e] 67));have S:Below w.heap.size w b:=((aj _ _).alloc (af _) _).trans (y.mono (by simp));have N:b.heap[w.heap.size]?=some (.cells #[.int .i64 kd,.int .i64 nn,.int .i64 pp,.string (gC c),.slice ia ni ic,.slice ka nk kc,.slice d f e] 67 (0,0)):=(y.block _ (by simp)).trans (jd _ _);have b6:(b.alloc (.cells #[.slice (some ⟨w.heap.size+1,0,none⟩) c.length i] 23)).cell? ⟨w.heap.size,6,none⟩=some (.slice d f e):=sJ (l9 _ N);have bm:(w.alloc (.cells #[.int .i64 kd,.int .i64 nn,.int .i64 pp,.string (gC c),.slice ia ni ic,.slice ka nk kc,.slice d f e] 67)).heap.size=w.heap.size+1:=by simp
 rw[bm]at a9 a8 L y;have br:=gv y;have a2:=gv L;have bs:=gv N;clear y L N
 gi_wp2_with fail
 refine⟨trivial,(Hi Fence.wide 2 trivial rfl _ _ _ _).mono ?_⟩;rintro q a ⟨rfl,rfl⟩
 gi_wp2_with fail
 have V:((b.alloc (.cells #[.slice (some ⟨w.heap.size+1,0,none⟩) c.length i] 23)).alloc (.cells #[.slice d f e] 52)).heap[b.heap.size]?=some (.cells #[.slice (some ⟨w.heap.size+1,0,none⟩) c.length i] 23 (0,0)):=l9 _ (jd _ _);have bS:((b.alloc (.cells #[.slice (some ⟨w.heap.size+1,0,none⟩) c.length i] 23)).alloc (.cells #[.slice d f e] 52)).heap[b.heap.size+1]?=some (.cells #[.slice d f e] 52 (0,0)):=by
  have:=jd (b.alloc (.cells #[.slice (some ⟨w.heap.size+1,0,none⟩) c.length i] 23)) (.cells #[.slice d f e] 52)
  rwa [bM]at this
 have T:Below b.heap.size b ((b.alloc (.cells #[.slice (some ⟨w.heap.size+1,0,none⟩) c.length i] 23)).alloc (.cells #[.slice d f e] 52)):=((aj _ _).alloc (af _) _).alloc (by simp) _;have b5:((b.alloc (.cells #[.slice (some ⟨w.heap.size+1,0,none⟩) c.length i] 23)).alloc (.cells #[.slice d f e] 52)).heap.size=b.heap.size+2:=by simp
 generalize ((b.alloc (.cells #[.slice (some ⟨w.heap.size+1,0,none⟩) c.length i] 23)).alloc (.cells #[.slice d f e] 52))=K at *;have ao:=S.size;have U:Below w.heap.size w K:=S.trans (T.mono ao);have ba:nx K (.slice (some ⟨w.heap.size+1,0,none⟩) c.length i) c:=by refine nx.below (w:=b) ⟨⟨_,i,rfl,a2.o,a6,a7,λs=>by cases s⟩,P.o⟩ T
 refine wpIn_rangeFunc_ownG rfl (by omega) (gf:= 287) (lb:=#[.pointer (some ⟨b.heap.size+1,0,none⟩)]) rfl trivial (enters_of Tryz.func287 (by kernel_rfl) rfl)
  (Ho Fence.wide 2 trivial rfl (by omega) (b.heap.size+1) w.heap.size (.slice d f e) j (by omega) K (by omega) bS (a4.o.below U)) EV (Hb (by omega) (by omega)) (aj _ _) (λ_=>rfl)
  (BF H b.heap.size c w)
  (λ_ _ _=>False)
  (BF.own _ _ _ _ _ (by omega))
  (λ_ _ _ _ _ hs _ _=>hs)
  ⟨⟨_,c,⟨cb V,nP V⟩,ba,rfl,by simp,by omega,λm A=>by cases A;exact dV _⟩,U⟩
  (λg=>{ tmps:=#[.agg #[.int .i64 kd,.int .i64 nn,.int .i64 pp,.string (gC c),.slice ia ni ic,.slice ka nk kc,.slice d f e],.pointer (some ⟨w.heap.size,0,none⟩),.slice none 0 0,.pointer (some ⟨b.heap.size,0,none⟩),undef,.int .i64 (g.2.1:Nat),.pointer (some ⟨w.heap.size,3,none⟩),.string (gC c),.slice (some ⟨w.heap.size+1,0,none⟩) c.length i,.pointer (some ⟨w.heap.size,6,none⟩),.slice d f e,.func (.func 287) #[] #[.pointer (some ⟨b.heap.size+1,0,none⟩)],.int .i64 (g.1:Int),.int .i64 (g.2.1:Nat),undef,undef,undef,undef],defers:=[] }) ?assign ?body ?done ?stop
 case assign =>
  intro a0 g h bt x
  gi_wp2
  exact x
 case body =>
  rintro a0 pre g h ⟨⟨o,l,⟨M,al⟩,z,B,t,a5,_⟩,v⟩ b4;have bf:l.length<=D:=by have h1:2^(pre.length+1)<=2^j.length:=cy (by omega) (by omega);have h2:=cM (c.length+36) h1;have h3:=HM.o;rw[dG,dT (2^pre.length) 2,eM]at h2;omega
  have Q:=gv (I.o.call h o g.2.1 l g.2.2 z bf);have HD:=gv z;have HP:=gv B;have a3:=gv t;clear z B t;have X:b.heap.size<h.heap.size:=aB h _ M
  gi_wp2_with fail
  refine⟨trivial,(CallsIn.inRound a0 (callsIn_wide.2 Q.o)).mono ?_⟩;rintro q E ⟨bq,W,rfl,G,F,Z⟩;have bn:E.cell? ⟨b.heap.size,0,none⟩=some o:=(F.cell (p:=⟨b.heap.size,0,none⟩) X).trans M;have bb:E.frozen? ⟨b.heap.size,0,none⟩=false:=(F.frozen (p:=⟨b.heap.size,0,none⟩) X).trans al;have a1:=A8 G ⟨b.heap.size,0,none⟩ bq (λm A=>by have:=(G.lt m A).1;show m≠b.heap.size;omega);obtain⟨ua,uc,rfl⟩:=i_ G;have R:=gv a1;have u:=gv F;have J:=gv Z;clear G a1 F Z Q
  gi_wp2
  have hk:KeepsOthers h E:=⟨u.o.size,λk O s _=>(u.o.block k (ae s)).trans s⟩;have ac:Below w.heap.size h (E.setCell ⟨b.heap.size,0,none⟩ (.slice ua W.length uc)):=(u.o.mono v.size).setCell (p:=⟨b.heap.size,0,none⟩) ao _;have b0:=I.o.len _ _ _ J.o;have t:=a3.o;refine⟨(hk.trans (KeepsOthers.setCell _ _ _)).from _,⟨ac,?_⟩,⟨⟨_,W,⟨World.cell?_setCell_same' _ _ _ (by rw[bn];rfl),by rw[World.frozen?_setCell];exact bb⟩,nx.own R.o (I.o.byt _ _ _ J.o),?_,?_⟩,v.trans ac⟩⟩
  ·rw[dB _ _ _ _ (by show b.heap.size+1≠b.heap.size;omega)];exact u.o.block _ a5
  ·rw[aH,List.reverse_append];exact⟨l,HP.o,J.o⟩
  ·refine⟨?_,by rw[World.size_setCell];have:=u.o.size;omega,λm A=>by have:=(R.o.lt m A).1;have:=v.size;omega⟩;rw[ab,eD,dG,dT (2^pre.length) 2,eM];omega
 case done =>
  rintro C ys h hD rfl ⟨⟨o,l,⟨M,al⟩,z,B,t,_,bi⟩,v⟩ x
  gi_wp2
  refine⟨by simp,.inl ⟨_,_,rfl,run_takeDeferred x,?_⟩⟩;have bc:=grownBy_putObj' h C (.deferred none);have bd:∀r,some C=some r->∃O:Obj,h.heap[r]?=some O/\O.isCells=false:=λr q=>by cases q;exact⟨_,x,rfl⟩
  refine⟨_,results_tmp rfl _ _ _,o,l,rfl,z.grown bc bd,bi,v.trans (belowK_b (w:=w) (af _) h C _ _ (by omega) x rfl rfl),?_,?_⟩
  ·have q:(oz j j.length).map (λg=>g.2.1)=(j.map λg=>g.1).reverse:=by rw[<-List.map_reverse,<-G_,dZ];rfl
   rw[q,List.reverse_reverse]at B;exact B
  ·rw[EU]at t;exact t
 case stop=>rintro C bv pre h _ _ s _;exact s.elim
end
section
variable{w w':World}{B b:Nat}{o r:Value}{m q:List Nat}
def wstream(a:Nat)(d:gz (VT (a+2)))(c:List Nat):List Nat:=iu (k:=a+3) (sdict a d c.length)++([10,115,116,114,101,97,109,10]++(c++[10,101,110,100,115,116,114,101,97,109]))
structure vZ(j:Nat)(V:gz (VT (j+2)))(fs:List nU):Prop where
 fil:V.filters=fs.map λx=>x.1
 few:fs.length<=20
 byt:∀x∈V.text,x<256
 items:∀y∈V.items,sI (k:=j+2) y
 keys:∀s∈V.keys,∀x∈s,x<256
 same:V.keys.length=V.items.length
 il:V.items.length<=500000
theorem nameB_small(a:Nat):(i5 a).size<=15/\∀e∈bl (i5 a),e<256:=by
 refine⟨?_,λe f=>?_⟩;·unfold i5;split<;>decide
 ·obtain⟨d,c,rfl⟩:=cA f;rw[nM]at c;have:=tP (i5 a) d c;simpa[nth,ai (show d<(bl (i5 a)).length by rw[nM];exact c)]using this
theorem FW{e:Nat}{a:Nat}{c:Int}{f:List Nat}(n:a=2\/a=4)(g : -9223372036854775808<=c/\c<=9223372036854775807)(i:∀l∈f,l<256):sI (k:=e+1) (hJ (VT e) a c 0 f):=
 ⟨by show a<=7\/a=9;omega,g,λh3=>by have h3:a=3:=h3;omega,λd=>by have d:a=7:=d;omega,i,λp h=>(by cases h),λs j=>by cases j⟩
theorem JH{c:Nat}(e:List Nat):sI (k:=c+2) (namesV c e):=by refine⟨Or.inl (show(6:Nat)<=7 by omega),by show _<=(0:Int)/\(0:Int)<=_;omega,λa=>by have a:(6:Nat)=3:=a;omega,λa=>by have a:(6:Nat)=7:=a;omega,λn g=>(by cases g),λl f=>(by cases f),λj h=>?_⟩;have i:j∈e.map (λd=>(hJ (VT c) 4 0 0 (bl (i5 d)):VT (c+1))):=h;obtain⟨d,_,rfl⟩:=cv.1 i;exact FW (Or.inr rfl) (by omega) (nameB_small d).2
theorem vZ.dict{e:Nat}{a:gz (VT (e+2))}{p:List nU}(h:vZ e a p)(f:Nat)(u:f<=1000000000):sI (k:=e+3) (sdict e a f)/\(sdict e a f).keys.length=(sdict e a f).items.length:=by
 have j:(sdict e a f).keys.length=(sdict e a f).items.length:=by show(a.keys++skeys a.filters).length=(a.items++sitems e a.filters f).length;rw[ab,ab,h.same];unfold skeys sitems;split<;>rfl
 refine⟨⟨Or.inl (af 7),by show _<=(0:Int)/\(0:Int)<=_;omega,λh=>by have h:(7:Nat)=3:=h;omega,λ_=>j,λi g=>(by cases g),λl s i g=>?_,λn t=>?_⟩,j⟩
 ·have c:l∈a.keys++skeys a.filters:=s;rcases bH.1 c with c | c;·exact h.keys l c i g
  ·unfold skeys at c;rcases bT.1 c with rfl | c;·simp at g;omega
   ·split at c;·cases c
    ·simp at c;subst c;simp at g;omega
 ·have d:n∈a.items++sitems e a.filters f:=t;rcases bH.1 d with d | d;·exact h.items n d
  ·unfold sitems at d;rcases bT.1 d with rfl | d;·exact FW (Or.inl rfl) (by omega) (λi g=>by cases g)
   ·split at d;·cases d
    ·simp at d;subst d;exact JH _
theorem sum_le{α:Type}(d:α->Nat)(c:Nat):∀(a:List α),(∀e∈a,d e<=c)->(a.map d).sum<=c*a.length
 | [],_=>by simp
 |g::a,f=>by have i:=f g (aQ ..);have j:=sum_le d c a (λe h=>f e (aV _ h));simp only[bJ,ek,ag,Nat.mul_add,Nat.mul_one];omega
theorem vZ.wlen{a:Nat}{c:gz (VT (a+2))}{i:List nU}(l:vZ a c i)(g:Nat):ii (k:=a+3) (sdict a c g)<=ii (k:=a+3) c+8000:=by
 have t:ii (k:=a+2) (namesV a c.filters)<=100+170*i.length:=by
  have j:(gz.items (α:=VT (a+1)) (namesV a c.filters)).length=i.length:=by show(c.filters.map (λf=>(hJ (VT a) 4 0 0 (bl (i5 f)):VT (a+1)))).length=_;rw[av,l.fil,av]
  have:=sum_le (λd:VT (a+1)=>10+ii (k:=a+1) d) 170 (gz.items (α:=VT (a+1)) (namesV a c.filters)) (λd e=>by have n:d∈c.filters.map (λf=>(hJ (VT a) 4 0 0 (bl (i5 f)):VT (a+1))):=e;obtain⟨f,_,rfl⟩:=cv.1 n;show 10+(100+4*(bl (i5 f)).length+0+0)<=170;rw[nM];have:=(nameB_small f).1;omega)
  rw[j]at this;show 100+4*0+((gz.items (α:=VT (a+1)) (namesV a c.filters)).map λd=>10+ii (k:=a+1) d).sum+0<=_;omega
 have u:=l.few;show 100+4*0+((c.items++sitems a c.filters g).map λd=>10+ii (k:=a+2) d).sum+((c.keys++skeys c.filters).map λh=>10+3*h.length).sum<=100+4*c.text.length+(c.items.map λd=>10+ii (k:=a+2) d).sum+(c.keys.map λh=>10+3*h.length).sum+8000;rw[aH,aH,List.sum_append,List.sum_append];have p:((sitems a c.filters g).map λd=>10+ii (k:=a+2) d).sum<=7040:=by
  have j:(sitems a c.filters g).length<=2:=by
   unfold sitems;split;·exact(show 1<=2 by omega)
   ·exact af 2
  have:=sum_le (λd:VT (a+2)=>10+ii (k:=a+2) d) 3520 (sitems a c.filters g) (λd e=>by
   unfold sitems at e;rcases bT.1 e with rfl | e;·show 10+(100+4*0+0+0)<=3520;omega
   ·split at e;·cases e
    ·simp at e;subst e;omega)
  have:=Nat.mul_le_mul_left 3520 j;omega
 have s:((skeys c.filters).map λh=>10+3*h.length).sum<=56:=by unfold skeys;rw[bJ,ek];split<;>simp
 omega
theorem vZ.fils{j:Nat}{a:gz (VT (j+2))}{d:List nU}(s:vZ j a d){k:Nat->Prop}{e:Option Addr}{f:Nat}(x:jr k w 3 1 (.slice e a.filters.length f) a.filters.length (a.filters.map λn:Nat=>.int .i64 (n:Int))):kZ w.heap.size w (.slice e a.filters.length f) d:=by
 have c:=s.fil;rcases x.1.2 with⟨t,u⟩ | ⟨p,l,z,e1,e2,g,D,C,E,v⟩
 ·refine Or.inl ⟨t,?_⟩;have h3:(d.map λy=>y.1).length=0:=by rw[<-c];exact u
  simpa using h3
 ·refine Or.inr ⟨p,l,?_,ae g,λi h=>?_⟩;·rw[e1,c,av]
  ·rw[cb g,<-cY];have A:i<a.filters.length:=by rw[c,av];exact h
   rw[<-cF (show i<a.filters.length*1 by omega),v,c,bj,bj,ai h];simp
theorem iR.drew(a:iR B b w o r m q):iR B b w.drew o r m q:=⟨a.hb,a.blk,a.oo,a.po⟩
theorem iR.place{e:Value}{l:Nat}(c:iR B b w o r m q)(s:w'.ownsRow B 3 1 e (q.length+1) ((q.map λE:Nat=>.int .i64 (E:Int))++[.int .i64 (l:Int)]))(d:w.grownBy w' r.ownBlock) :
  iR B b (w'.setCell ⟨b,1,none⟩ e) o e m (q++[l])/\Below B w (w'.setCell ⟨b,1,none⟩ e):=by
 have A:∀a,r.ownBlock=some a->a≠b:=λa d=>by rintro rfl;obtain⟨_,h,u,f⟩:=nR c.po a d;rw[c.blk]at f;simp at f
 have n:w'.heap[b]?=some (.cells #[o,r] 122 (0,0)):=by rw[d.block b c.lt (λg=>A b g.symm rfl)];exact c.blk
 have x:(w'.setCell ⟨b,1,none⟩ e).heap[b]?=some (.cells #[o,e] 122 (0,0)):=by rw[lq _ n];rfl
 have C:∀a,e.ownBlock=some a->a≠b:=λa y=>by rintro rfl;obtain⟨_,h,u,f⟩:=nR s a y;rw[n]at f;simp at f
 have D:w'.ownsRow B 5 1 o m.length (l_ m):=by
  obtain⟨v,i⟩:=c.oo;refine⟨v,?_⟩;rcases i with i | ⟨a,h,t,e1,e2,j,f⟩;·exact Or.inl i
  ·refine Or.inr ⟨a,h,t,e1,e2,?_,f⟩;rw[d.block a (ae j) (λg=>?_)];·exact j
   ·obtain⟨_,F,G,p⟩:=nR c.po a g.symm;rw[j]at p;simp at p
 refine⟨⟨c.hb,x,A8 D _ _ (λa d=>c.ne a d),?_⟩,?_⟩
 ·have:=A8 s ⟨b,1,none⟩ e C;rw[ab,aH];exact this
 ·refine Below.setCell (p:=⟨b,1,none⟩) ⟨d.os,d.tape,d.output,d.size,λk z=>d.block k (aC z c.bw) (λg=>?_)⟩ c.hb e;have:=(nR c.po k g.symm).1;omega
end
end Go.Proofs.YtgkljcmjnphpeaaGreatDoor
