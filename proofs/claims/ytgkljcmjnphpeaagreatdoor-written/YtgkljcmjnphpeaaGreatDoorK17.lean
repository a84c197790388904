import Derived.Test.YtgkljcmjnphpeaaGreatDoorK16
set_option linter.unusedVariables false
set_option linter.unusedSimpArgs false
set_option maxHeartbeats 4000000
set_option maxRecDepth 100000
namespace Go.Proofs.YtgkljcmjnphpeaaGreatDoor
open Go.RowKit
section
variable{w a:World}
def kq(objs k b:Nat)(V:gz (VT k)):Option Nat:=if kG objs (12-k) b V=true then jD objs k (b+V.items.length) V.items else none
theorem oP(b k d:Nat)(c:VT (k+1))(e:List (VT (k+1))):jD b (k+1) d (c::e)=match kq b k d c with | none=>none | some f=>jD b (k+1) f e:=by show(kq b k d c >>= λf=>jD b (k+1) f e)=_;cases kq b k d c<;>rfl
theorem tG(g:Nat):∀(k c:Nat) (f:List (VT k)) (d:Nat),jD g k c f=some d->c<=d/\(c<=2000->d<=2000)
 |0,c,f,d,b=>by cases b;exact⟨af _,id⟩
 |k+1,c,[],d,b=>by cases b;exact⟨af _,id⟩
 |k+1,c,i::f,d,b=>by
  rw[oP]at b;cases e:kq g k c i with
  |none=>rw[e]at b;cases b
  |some m =>
   rw[e]at b;have l:=tG g (k+1) m f d b;unfold kq at e;split at e
   ·next h =>
    have j:=tG g k _ _ _ e;have h3:c+(gz.items i).length<=2000:=by unfold kG at h;simp at h;exact h.1.1.1.1
    exact⟨by omega,λ_=>l.2 (j.2 h3)⟩
   ·cases e
theorem q8{objs k e d:Nat}{V:gz (VT k)}(b:kq objs k e V=some d):e<=d/\d<=2000:=by
 unfold kq at b;split at b
 ·next c =>
  have f:=tG objs k _ _ _ b;have h3:e+(gz.items V).length<=2000:=by unfold kG at c;simp at c;exact c.1.1.1.1
  exact⟨by omega,f.2 h3⟩
 ·cases b
theorem kK.apart{g:Nat->Prop}{k b f o n:Nat}{h:List (VT k)}{e:Value}(i:kK g k b h w e)(d:nW f o n w)(c:Nat)(m:e.ownBlock=some c):c≠f:=by obtain⟨r,j,_,_⟩:=i;obtain⟨_,p,q,l⟩:=nR j c m;rintro rfl;unfold nW at d;rw[l]at d;simp at d
theorem G3{m c k:Nat}(hk:k<=11)(bn:c<=100000)(h1:sK m c k):sK m c (k+1):=by
 intro t bq g bt al bi bm E hP hF bf F;obtain⟨p,W⟩:∃p,jD c (k+1) al g=p:=⟨_,rfl⟩;rw[W];obtain⟨va,vc,a7⟩:=E.len;have a2:=E.apart F;have HV:=gv E;have a8:=gv a2;have H1:=gv h1;have HP:=gv hP;have HF:=gv hF;have HW:=gv F;have S:=gv W;have bs:=ae F;obtain⟨q,Y⟩:∃q,g.length=q:=⟨_,rfl⟩;rw[Y]at a7 bf;have r:=gv Y;subst a7;rw[show 13-(k+1)=12-k by omega];obtain⟨u,X⟩:∃u,12-k=u:=⟨_,rfl⟩;rw[X];have Q:=gv X;clear W E a2 h1 hP hF F Y X;go_enter Tryz.func92,Tryz.ntmps92;go_wp2;go_loopw [11] (λac wr=>∃(b d:Nat),b<=q/\ac=.int .i64 b/\1<=d/\d<=2000/\Hid (gQ m t wr)/\Hid (nW m c d wr)/\Hid (jD c (k+1) d (g.drop b)=p)) (λac _=>q-(intOf ac).toNat)
 case atStart=>exact⟨0,al,aE _,rfl,bi,bm,gQ.refl _ _,HW,S⟩
 case round =>
  obtain⟨b,d,l,rfl,bb,bc,R,HK,s⟩:=hrel;rcases bN l with l | l
  ·subst l;have T:Hid (p=some d):=by unfold Hid;rw[<-s.o,dt (by rw[r.o];exact af _)];rfl
   clear s S;go_wp2;go_ret;exact .yes T.o R.o HK.o
  ·obtain⟨e,x⟩:∃e,g[b]?=some e:=⟨_,ai (by rw[r.o];exact l)⟩;have a3:g.drop b=e::g.drop (b+1):=by rw[bU (by rw[r.o];exact l)];congr 1;rw[ai (by rw[r.o];exact l)]at x;simpa using x
   rw[a3,oP]at s;obtain⟨f,br,bv,a5,_,_,Z,i⟩:=HV.o.at x;rw[r.o]at a5;cases a5;have bd:f≠m:=a8.o f rfl;have a6:e∈g:=cB x;have a4:=HF.o e a6;obtain⟨J,K,L,M,G,I,H,N,P,O,B,D,C,j⟩:=gR.form Z;have h:∀{ad:Nat} {ao:Value},t.cell? ⟨f,ad,none⟩=some ao->wr.cell? ⟨f,ad,none⟩=some ao:=λ{ad ao} a1=>by rw[World.cell?_of_block (w:=t) (R.o.block f (aB t _ a1) bd)];exact a1
   have d0:wr.cell? ⟨f,b*7,none⟩=some (.int .i64 J):=h (i 0 _ (by rw[j];rfl));have d1:wr.cell? ⟨f,b*7+1,none⟩=some (.int .i64 K):=h (i 1 _ (by rw[j];rfl));have d2:wr.cell? ⟨f,b*7+2,none⟩=some (.int .i64 L):=h (i 2 _ (by rw[j];rfl));have d3:wr.cell? ⟨f,b*7+3,none⟩=some (.string M):=h (i 3 _ (by rw[j];rfl));have d4:wr.cell? ⟨f,b*7+4,none⟩=some (.slice G I H):=h (i 4 _ (by rw[j];rfl));have d5:wr.cell? ⟨f,b*7+5,none⟩=some (.slice N P O):=h (i 5 _ (by rw[j];rfl));have d6:wr.cell? ⟨f,b*7+6,none⟩=some (.slice B D C):=h (i 6 _ (by rw[j];rfl));have bA:Below wr.heap.size wr (wr.alloc (.cells #[.int .i64 J,.int .i64 K,.int .i64 L,.string M,.slice G I H,.slice N P O,.slice B D C] 67)):=(aj _ _).alloc (af _) _;have oA:gQ m t (wr.alloc (.cells #[.int .i64 J,.int .i64 K,.int .i64 L,.string M,.slice G I H,.slice N P O,.slice B D C] 67)):=R.o.trans (.of_below bA);have z:=gv (yS (nodes:=d) hk H1.o (gR.onlyX Z HP.o oA) HP.o a4 (show nW m c d (wr.alloc (.cells #[.int .i64 J,.int .i64 K,.int .i64 L,.string M,.slice G I H,.slice N P O,.slice B D C] 67))from l9 _ HK.o) bb bc bn);rw[Q.o]at z;have A:Hid ((match(if kG c u d e=true then jD c k (d+(gz.items e).length) (gz.items e)else none)with | none=>none | some q=>jD c (k+1) q (g.drop (b+1)))=p):=by have:=s;unfold kq at this;rw[Q.o]at this;exact this
   have HB:Hid (∀n,(if kG c u d e=true then jD c k (d+(gz.items e).length) (gz.items e)else none)=some n->d<=n/\n<=2000):=λn hz=>by refine q8 (objs:=c) (k:=k) (V:=e) ?_;unfold kq;rw[Q.o];exact hz
   have a0:=gv oA;subst j;clear i h x a3 a6 a4 bA oA s Z;generalize (if kG c u d e=true then jD c k (d+(gz.items e).length) (gz.items e)else none)=SW at *;cases SW with
   |none=>have T:Hid (p=none):=A.o.symm;clear A S;go_wp2_with fail;refine z.o.mono ?_;rintro ba w2 ⟨y,v⟩;simp only[]at v;subst v;have U:=gv (a0.o.trans y);clear y;go_wp2;go_ret;exact .no T.o U.o
   |some n =>
    have hz:=HB.o n rfl;simp only[]at A;go_wp2_with fail;refine z.o.mono ?_;rintro ba w2 ⟨y,rfl,v⟩;have U:=gv (a0.o.trans y);have a9:=gv v;clear y v z HB d0 d1 d2 d3 d4 d5 d6;go_wp2;go_roundw
    case rel=>exact⟨b+1,n,by omega,by first | rfl | (congr 1),by omega,hz.2,U,a9,A⟩
    case measure=>simp[intOf];omega
theorem az{d c:Nat}:sK d c 0:=by
 intro e p i s b q r f j hF k g;cases i with
 |cons n _=>exact n.elim
 |nil=>obtain⟨l,m,rfl⟩:=f.len;have h:=gv g;rw[show jD c 0 b []=some b from rfl];clear f j hF k g;show Calls Tryz.prog 92 #[.pointer (some ⟨d,0,none⟩),.slice l 0 m,.int .i64 13] e (rN d c (some b) e);go_enter Tryz.func92,Tryz.ntmps92;go_wp2;refine wp_loop_rounds 1 ?_;rw[rounds_succ];go_wp2;go_ret;exact .yes rfl (gQ.refl _ _) h.o
theorem ER{wb objs:Nat}(b:objs<=100000):∀(k:Nat),k<=12->sK wb objs k
 |0,_=>az
 |k+1,c=>G3 (by omega) b (ER b k (by omega))
theorem uQ{B:Nat->Prop}{g:List (VT 12)}{root:Int}{I:Value}(D:kK B 12 0 g w I)(hF:∀f∈g,ph f)(W:g.length<=200000) :
  Calls Tryz.prog 61 #[.agg #[I,.int .i64 root]] w λi a=>i=.returned (.bool (kn g root))/\Below w.heap.size w a:=by
 have x:kK (λe=>B e/\e<w.heap.size) 12 0 g w I:=D.mono (λe V x=>⟨V,x⟩);have A:=gv x;obtain⟨Y,n,rfl⟩:=D.len;obtain⟨b,t⟩:∃b,g.length=b:=⟨_,rfl⟩;rw[t]at W A;obtain⟨j,d⟩:∃j,kn g root=j:=⟨_,rfl⟩;rw[d,t];unfold kn at d;rw[t]at d;have z:=gv t;have S:=gv hF;have u:Hid (Below w.heap.size w (w.alloc (.cells #[.slice Y b n,.int .i64 root] 31))):=(aj _ _).alloc (af _) _;clear D x hF t;by_cases G:1<=b/\b<=100
 ·rw[aL G,dJ]at d;have q:=gv (λk=>pG (b:Int) 1 100 k (by omega) (by omega));by_cases y:1<=root/\root<=(b:Int)
  ·rw[aL y,dJ]at d;obtain⟨r,rfl⟩:∃r:Nat,root=(r:Int)+1:=⟨(root-1).toNat,by omega⟩;rw[show((r:Int)+1-1).toNat=r by omega]at d;have X:r<b:=by omega
   have v:=gv (λk=>pG ((r:Int)+1) 1 (b:Int) k (by omega) (by omega));obtain⟨f,H⟩:∃f,g[r]?=some f:=⟨_,ai (by rw[z.o];exact X)⟩;rw[H]at d;obtain⟨e,ac,ao,N,_,_,Q,R⟩:=A.o.at H;rw[z.o]at N;cases N;obtain⟨pp,ia,il,ic,ka,kl,kc,fa,fl,fc,rfl⟩:=gR.form2 Q;have U:(w.alloc (.cells #[.slice (some ⟨e,0,none⟩) b n,.int .i64 ((r:Int)+1)] 31)).cell? ⟨e,r*7,none⟩=some (.int .i64 (kO f:Int)):=by have:=R 0 _ rfl;rw[fI]at this;rw[World.cell?_alloc_lt _ _ _ (aB w _ this)];exact this
   have ad:IntKind.i64.wrap ((r:Int)+1-1)=(r:Int):=by rw[bP];omega
   have O:(some f).map (λT:VT 12=>gz.kind (α:=VT 11) T)=some (kO f):=rfl;rw[O]at d;clear Q R H y O;by_cases E:kO f=7
   ·rw[E]at d U;rw[aL rfl,dJ]at d;have P:nW (w.heap.size+1) b b ((w.alloc (.cells #[.slice (some ⟨e,0,none⟩) b n,.int .i64 ((r:Int)+1)] 31)).alloc (.cells #[.int .i64 (b:Int),.int .i64 (b:Int)] 118)):=by have:=jd (w.alloc (.cells #[.slice (some ⟨e,0,none⟩) b n,.int .i64 ((r:Int)+1)] 31)) (.cells #[.int .i64 (b:Int),.int .i64 (b:Int)] 118);rw[bM]at this;exact this
    have C:Below w.heap.size w ((w.alloc (.cells #[.slice (some ⟨e,0,none⟩) b n,.int .i64 ((r:Int)+1)] 31)).alloc (.cells #[.int .i64 (b:Int),.int .i64 (b:Int)] 118)):=u.o.alloc (by simp) _;have L:=ER (wb:=w.heap.size+1) (objs:=b) (by omega) 12 (af _) _ (λe=>B e/\e<w.heap.size) g (.slice (some ⟨e,0,none⟩) b n) b (by omega) (by omega) (A.o.keep C) (λe F=>by omega) S.o (by rw[z.o];omega) P;have J:=gv L;have m:=gv C;clear L C P;rw[show((13-12:Nat):Int)=1 from rfl]at J;go_enter Tryz.func61,Tryz.ntmps61;go_wp2_with fail;refine(q.o _).mono ?_;rintro i p ⟨rfl,c⟩;have c:=c.symm;subst c;go_wp2_with fail;refine(v.o _).mono ?_;rintro i p ⟨rfl,c⟩;have c:=c.symm;subst c;go_wp2_with fail;refine J.o.mono ?_;rintro i Z ⟨l,s⟩;have K:Hid (Below w.heap.size w Z):=⟨l.os.trans m.o.os,l.tape.trans m.o.tape,l.output.trans m.o.output,aD m.o.size l.size,λe F=>(l.block e (aC F m.o.size) (by omega)).trans (m.o.block e F)⟩;cases M:jD b 12 b g with
    |none=>rw[M]at s d;simp only[]at s;subst s;have h:Hid (j=false):=d.symm;clear l d;go_wp2;go_ret;exact⟨by rw[h.o];rfl,K.o⟩
    |some a0=>rw[M]at s d;obtain⟨rfl,_⟩:=s;have h:Hid (j=true):=d.symm;clear l d;go_wp2;go_ret;exact⟨by rw[h.o];rfl,K.o⟩
   ·have h:Hid (j=false):=by unfold Hid;rw[<-d,a_ (by simpa using E)];rfl
    have t7:((kO f:Int)==7)=false:=by simp;omega
    have al:((kO f:Int) != 7)=true:=by simp;omega
    generalize (kO f:Int)=ky at *;clear d E;go_enter Tryz.func61,Tryz.ntmps61;go_wp2_with fail;refine(q.o _).mono ?_;rintro i p ⟨rfl,c⟩;have c:=c.symm;subst c;go_wp2_with fail;refine(v.o _).mono ?_;rintro i p ⟨rfl,c⟩;have c:=c.symm;subst c;go_wp2;go_ret;exact⟨by rw[h.o];rfl,u.o⟩
  ·have h:Hid (j=false):=by unfold Hid;rw[<-d,a_ y];rfl
   have v:=gv (λk=>sF root 1 (b:Int) k (by omega));clear d y;go_enter Tryz.func61,Tryz.ntmps61;go_wp2_with fail;refine(q.o _).mono ?_;rintro i p ⟨rfl,c⟩;have c:=c.symm;subst c;go_wp2_with fail;refine(v.o _).mono ?_;rintro i p ⟨rfl,c⟩;have c:=c.symm;subst c;go_wp2;go_ret;exact⟨by rw[h.o];rfl,u.o⟩
 ·have h:Hid (j=false):=by unfold Hid;rw[<-d,a_ G];rfl
  have q:=gv (λk=>sF (b:Int) 1 100 k (by omega));clear d G;go_enter Tryz.func61,Tryz.ntmps61;go_wp2_with fail;refine(q.o _).mono ?_;rintro i p ⟨rfl,c⟩;have c:=c.symm;subst c;go_wp2;go_ret;exact⟨by rw[h.o];rfl,u.o⟩
end
section
variable{w w':World}
def lE(w:World)(c:Nat)(a:List Nat)(b:Value):Prop:=(a=[]/\b=.slice none 0 0)\/qB w c a b
theorem lE.keep{B:Nat}{l:List Nat}{p:Value}(b:lE w B l p)(j:∀a,a<B->w'.heap[a]?=w.heap[a]?):lE w' B l p:=by
 rcases b with b | ⟨c,m,e,f,d,g,h3,h⟩;·exact Or.inl b
 ·exact Or.inr ⟨c,m,e,f,d,g,h3,λi k=>pU (h i k) (j c d)⟩
structure Fi(d:World)(B bs:Nat)(ao:Option Addr)(cap:Nat)(data:List Nat)(w:World)(q:List Nat)(r m k:Value)(vs:List Value)(u:List (VT 12))(s:List Value)(t:List (List Nat))(f:List Nat):Prop where
 sc:Sc B bs ao cap data r m k w q
 only:gQ bs d w
 lt:bs<d.heap.size
 oo:w.ownsRow d.heap.size 67 7 r vs.length (vs.flatMap cellsOf)
 op:w.ownsRow d.heap.size 23 1 m s.length s
 ol:w.ownsRow d.heap.size 3 1 k f.length (f.map λn:Nat=>.int .i64 (n:Int))
 len:vs.length=u.length
 ch:∀(i:Nat) (x:Value) (y:VT 12),vs[i]?=some x->u[i]?=some y->gR (λg=>d.heap.size<=g/\r.ownBlock≠some g/\m.ownBlock≠some g/\k.ownBlock≠some g) 12 w x y
 plen:s.length=t.length
 pk:∀(i:Nat) (p:Value) (l:List Nat),s[i]?=some p->t[i]?=some l->lE w B l p
variable{d:World}{B bs cap:Nat}{ao:Option Addr}{data q:List Nat}{r m k:Value}{vs:List Value}{u:List (VT 12)}{s:List Value}{t:List (List Nat)}{f:List Nat}
theorem Fi.step(a:Fi d B bs ao cap data w q r m k vs u s t f){h:List Nat}(o:Sc B bs ao cap data r m k w' h)(b:gQ bs w w'):Fi d B bs ao cap data w' h r m k vs u s t f:=by
 have e:=a.lt;have C:=a.sc.hb;have D:=a.only.size;refine⟨o,a.only.trans b,a.lt,ul a.oo b e,ul a.op b e,ul a.ol b e,a.len,λg z A p v=>?_,a.plen,λg y x n l=>?_⟩;·exact gR.keep 12 (a.ch g z A p v) (λc i j=>b.block c j (by omega))
 ·exact(a.pk g y x n l).keep (λc i=>b.block c (by omega) (by omega))
theorem Fi.below(a:Fi d B bs ao cap data w q r m k vs u s t f)(b:Below w.heap.size w w'):Fi d B bs ao cap data w' q r m k vs u s t f:=
 a.step (a.sc.other b) (.of_below b)
theorem Fi.drew(a:Fi d B bs ao cap data w q r m k vs u s t f):Fi d B bs ao cap data w.drew q r m k vs u s t f:=a.below (aj _ _).drew
theorem Fi.alloc(b:Fi d B bs ao cap data w q r m k vs u s t f)(a:Obj):Fi d B bs ao cap data (w.alloc a) q r m k vs u s t f:=b.below ((aj _ _).alloc (af _) a)
theorem A1{w:World}{b h a e x y p v:Nat}{c g:Value}{z A:List Value}(j:w.ownsRow b a x c p z)(l:w.ownsRow h e y g v A)(o:a≠e):c.ownBlock=none\/c.ownBlock≠g.ownBlock:=by
 cases n:c.ownBlock with
 |none=>exact Or.inl rfl
 |some i=>exact Or.inr (λa=>yY j l o i n a.symm)
theorem Fi.place(c:Fi d B bs ao cap data w q r m k vs u s t f){l:Nat}{g:Value}
  (D:w'.ownsRow d.heap.size 3 1 g (f.length+1) ((f.map λL:Nat=>.int .i64 (L:Int))++[.int .i64 (l:Int)])) (e:w.grownBy w' k.ownBlock) (H:∀b,g.ownBlock=some b->k.ownBlock=some b\/w.heap.size<=b) :
  Fi d B bs ao cap data (w'.setCell ⟨bs,4,none⟩ g) q r m g vs u s t (f++[l]):=by
 have O:=c.lt;have P:=c.only.size;have N:=c.sc.hb;have F:=ae c.sc.blk;have v:∀b,k.ownBlock=some b->d.heap.size<=b/\b<w.heap.size:=c.ol.lt;have x:∀b,b<w.heap.size->k.ownBlock≠some b->b≠bs->(w'.setCell ⟨bs,4,none⟩ g).heap[b]?=w.heap[b]?:=λb h j h3=>by rw[jL _ h3,e.block b h (λi=>j i.symm)]
 have n:∀b,b<d.heap.size->b≠bs->(w'.setCell ⟨bs,4,none⟩ g).heap[b]?=w.heap[b]?:=λb h j=>x b (by omega) (λi=>by have:=v b i;omega) j;have G:w'.heap[bs]?=some (.cells #[.slice ao data.length cap,.int .i64 (data.length-q.length:Nat),r,m,k] 131 (0,0)):=by rw[e.block _ F (λi=>by have:=v _ i.symm;omega)];exact c.sc.blk
 refine⟨⟨c.sc.hb,by rw[lq _ G];rfl,c.sc.dat.other (λb e=>n b (by omega) (by omega)),c.sc.byt,c.sc.len,c.sc.lc,c.sc.le,c.sc.suf,c.sc.ad⟩,?_,c.lt,?_,?_,?_,c.len,?_,?_,?_⟩;·exact⟨e.os.trans c.only.os,e.tape.trans c.only.tape,e.output.trans c.only.output,by have:=e.size;simp[World.setCell];omega,λb h j=>(n b h j).trans (c.only.block b h j)⟩
 ·have:=c.oo.kept e (A1 c.oo c.ol (by decide));exact cD this (by show bs<d.heap.size;omega) g
 ·have:=c.op.kept e (A1 c.op c.ol (by decide));exact cD this (by show bs<d.heap.size;omega) g
 ·have:=cD D (a:=⟨bs,4,none⟩) (by show bs<d.heap.size;omega) g;simpa using this
 ·intro o y z I J;have M:gR (λb=>(d.heap.size<=b/\r.ownBlock≠some b/\m.ownBlock≠some b/\k.ownBlock≠some b)/\g.ownBlock≠some b) 12 w y z:=by
   refine gR.mono 12 (c.ch o y z I J) (λb h j=>⟨h,λi=>?_⟩);rcases H b i with p | p;·exact h.2.2.2 p
   ·omega
  exact gR.mono 12 (gR.keep 12 M (λb e A=>x b A e.1.2.2.2 (by omega))) (λb e _=>⟨e.1.1,e.1.2.1,e.1.2.2.1,e.2⟩)
 ·exact c.plen
 ·exact λo l K E C=>(c.pk o l K E C).keep (λb e=>n b (by omega) (by omega))
theorem Fi.pack(c:Fi d B bs ao cap data w q r m k vs u s t f){x:Value}{z:List Nat}{g:Value}(L:lE w B z x)
  (K:w'.ownsRow d.heap.size 23 1 g (s.length+1) (s++[x])) (e:w.grownBy w' m.ownBlock) (O:∀b,g.ownBlock=some b->m.ownBlock=some b\/w.heap.size<=b) :
  Fi d B bs ao cap data (w'.setCell ⟨bs,3,none⟩ g) q r g k vs u (s++[x]) (t++[z]) f:=by
 have U:=c.lt;have V:=c.only.size;have S:=c.sc.hb;have M:=ae c.sc.blk;have C:∀b,m.ownBlock=some b->d.heap.size<=b/\b<w.heap.size:=c.op.lt;have D:∀b,b<w.heap.size->m.ownBlock≠some b->b≠bs->(w'.setCell ⟨bs,3,none⟩ g).heap[b]?=w.heap[b]?:=λb h j h3=>by rw[jL _ h3,e.block b h (λi=>j i.symm)]
 have p:∀b,b<d.heap.size->b≠bs->(w'.setCell ⟨bs,3,none⟩ g).heap[b]?=w.heap[b]?:=λb h j=>D b (by omega) (λi=>by have:=C b i;omega) j;have N:w'.heap[bs]?=some (.cells #[.slice ao data.length cap,.int .i64 (data.length-q.length:Nat),r,m,k] 131 (0,0)):=by rw[e.block _ M (λi=>by have:=C _ i.symm;omega)];exact c.sc.blk
 refine⟨⟨c.sc.hb,by rw[lq _ N];rfl,c.sc.dat.other (λb e=>p b (by omega) (by omega)),c.sc.byt,c.sc.len,c.sc.lc,c.sc.le,c.sc.suf,c.sc.ad⟩,?_,c.lt,?_,?_,?_,c.len,?_,?_,?_⟩;·exact⟨e.os.trans c.only.os,e.tape.trans c.only.tape,e.output.trans c.only.output,by have:=e.size;simp[World.setCell];omega,λb h j=>(p b h j).trans (c.only.block b h j)⟩
 ·have:=c.oo.kept e (A1 c.oo c.op (by decide));exact cD this (by show bs<d.heap.size;omega) g
 ·have:=cD K (a:=⟨bs,3,none⟩) (by show bs<d.heap.size;omega) g;simpa using this
 ·have:=c.ol.kept e (A1 c.ol c.op (by decide));exact cD this (by show bs<d.heap.size;omega) g
 ·intro o H I P Q;have R:gR (λb=>(d.heap.size<=b/\r.ownBlock≠some b/\m.ownBlock≠some b/\k.ownBlock≠some b)/\g.ownBlock≠some b) 12 w H I:=by
   refine gR.mono 12 (c.ch o H I P Q) (λb h j=>⟨h,λi=>?_⟩);rcases O b i with A | A;·exact h.2.2.1 A
   ·omega
  exact gR.mono 12 (gR.keep 12 R (λb e J=>D b J e.1.2.2.1 (by omega))) (λb e _=>⟨e.1.1,e.1.2.1,e.2,e.1.2.2.2⟩)
 ·rw[ab,ab,c.plen];rfl
 ·intro o G F v n;rcases bZ o s.length with l | l
  ·rw[aI l]at v;rw[aI (by rw[<-c.plen];exact l)]at n;exact(c.pk o G F v n).keep (λb e=>p b (by omega) (by omega))
  ·rw[ar l]at v;rw[ar (by rw[<-c.plen];exact l)]at n;rw[<-c.plen]at n;obtain⟨rfl,rfl⟩:x=G/\z=F:=by
    match T:o-s.length,v,n with
    |0,y,E=>exact⟨by simpa using y,by simpa using E⟩
    |W+1,y,E=>simp at y
   exact L.keep (λb e=>p b (by omega) (by omega))
theorem z8{g b a h:Nat}{c:List Value}{a0 a1 a2 a3 a4 a5 a6:Value}{e:List Value}(l:w.ownsRow g 67 7 (.slice (some ⟨b,0,none⟩) (a+1) h) (a+1) (c++e))(z:c.length=a*7)(y:e.length=7) :
  (((((((w.setCell ⟨b,a*7,none⟩ a0).setCell ⟨b,a*7+1,none⟩ a1).setCell ⟨b,a*7+2,none⟩ a2).setCell ⟨b,a*7+3,none⟩ a3).setCell ⟨b,a*7+4,none⟩ a4).setCell ⟨b,a*7+5,none⟩ a5).setCell ⟨b,a*7+6,none⟩ a6).ownsRow g 67 7 (.slice (some ⟨b,0,none⟩) (a+1) h) (a+1) (c++[a0,a1,a2,a3,a4,a5,a6]):=by
 have n:=(l.stored (a*7) a0).1;have o:=(n.stored (a*7+1) a1).1;have p:=(o.stored (a*7+2) a2).1;have h3:=(p.stored (a*7+3) a3).1;have v:=(h3.stored (a*7+4) a4).1;have x:=(v.stored (a*7+5) a5).1;have i:=(x.stored (a*7+6) a6).1;have j:((((((((c++e).set (a*7) a0).set (a*7+1) a1).set (a*7+2) a2).set (a*7+3) a3).set (a*7+4) a4).set (a*7+5) a5).set (a*7+6) a6)=c++[a0,a1,a2,a3,a4,a5,a6]:=by
  match e,y with
  | [A,C,D,E,F,G,H],_=>rw[<-z];simp[List.set_append]
 rw[j]at i;exact i
theorem Fi.obj(b:Fi d B bs ao cap data w q r m k vs u s t f){y:Value}{H:VT 12}{o:Value}{w6 h:World}
  (hx:gR (λa=>d.heap.size<=a/\r.ownBlock≠some a/\m.ownBlock≠some a/\k.ownBlock≠some a) 12 w y H)
  (e:w.grownBy w6 r.ownBlock) (L:∀a,o.ownBlock=some a->r.ownBlock=some a\/w.heap.size<=a) (a4:∀a,o.ownBlock=some a->d.heap.size<=a)
  (X:h.os=w6.os) (al:h.tape=w6.tape) (Y:h.output=w6.output) (a8:h.heap.size=w6.heap.size) (W:∀a,a≠bs->o.ownBlock≠some a->h.heap[a]?=w6.heap[a]?)
  (Q:h.heap[bs]?=some (.cells #[.slice ao data.length cap,.int .i64 (data.length-q.length:Nat),o,m,k] 131 (0,0)))
  (ac:h.ownsRow d.heap.size 67 7 o (vs.length+1) (vs.flatMap cellsOf++cellsOf y)) :
  Fi d B bs ao cap data h q o m k (vs++[y]) (u++[H]) s t f:=by
 have a5:=b.lt;have a7:=b.only.size;have a3:=b.sc.hb;have a6:=ae b.sc.blk;have T:∀a,r.ownBlock=some a->d.heap.size<=a/\a<w.heap.size:=b.oo.lt;have D:∀a,a<w.heap.size->r.ownBlock≠some a->a≠bs->h.heap[a]?=w.heap[a]?:=λa j g h3=>by rw[W a h3 (λc=>by rcases L a c with i | i;exact g i;omega),e.block a j (λc=>g c.symm)]
 have C:∀a,a<d.heap.size->a≠bs->h.heap[a]?=w.heap[a]?:=λa j g=>D a (by omega) (λc=>by have:=T a c;omega) g;have M:∀{c F E:Nat} {x:Value} {G:List Value},w.ownsRow d.heap.size c F x E G->c ≠ 67->h.ownsRow d.heap.size c F x E G:=λ{c F E x G} K V=>by
  have p:=A1 K b.oo V;obtain⟨j,g⟩:=K;refine⟨j,?_⟩;rcases g with g | ⟨a,i,O,e1,e2,J,R⟩;·exact Or.inl g
  ·have P:x.ownBlock=some a:=by rw[e1];rfl
   refine Or.inr ⟨a,i,O,e1,e2,?_,R⟩;rw[D a (ae J) (λc=>by rw[P]at p;rcases p with p | p;cases p;exact p c.symm) (by omega)];exact J
 refine⟨⟨b.sc.hb,Q,b.sc.dat.other (λa e=>C a (by omega) (by omega)),b.sc.byt,b.sc.len,b.sc.lc,b.sc.le,b.sc.suf,b.sc.ad⟩,?_,b.lt,?_,M b.op (by decide),M b.ol (by decide),by rw[ab,ab,b.len];rfl,?_,b.plen,λv a2 a0 Z U=>(b.pk v a2 a0 Z U).keep (λa e=>C a (by omega) (by omega))⟩;·exact⟨X.trans (e.os.trans b.only.os),al.trans (e.tape.trans b.only.tape),Y.trans (e.output.trans b.only.output),by have:=e.size;omega,λa j g=>(C a j g).trans (b.only.block a j g)⟩
 ·rw[ab,cx];simpa using ac
 ·intro v z A l n;have a1:gR (λa=>(d.heap.size<=a/\r.ownBlock≠some a/\m.ownBlock≠some a/\k.ownBlock≠some a)/\o.ownBlock≠some a) 12 w z A:=by
   have N:gR (λa=>d.heap.size<=a/\r.ownBlock≠some a/\m.ownBlock≠some a/\k.ownBlock≠some a) 12 w z A:=by
    rcases bZ v vs.length with i | i
    ·rw[aI i]at l;rw[aI (by rw[<-b.len];exact i)]at n;exact b.ch v z A l n
    ·rw[ar i]at l;rw[ar (by rw[<-b.len];exact i)]at n;rw[<-b.len]at n;obtain⟨rfl,rfl⟩:y=z/\H=A:=by
      match hj:v-vs.length,l,n with
      |0,l,n=>exact⟨by simpa using l,by simpa using n⟩
      |a9+1,l,n=>simp at l
     exact hx
   refine gR.mono 12 N (λa j g=>⟨j,λc=>?_⟩);rcases L a c with I | I;·exact j.2.1 I
   ·omega
  exact gR.mono 12 (gR.keep 12 a1 (λa e S=>D a S e.1.2.1 (by omega))) (λa e _=>⟨e.1.1,e.2,e.1.2.2.1,e.1.2.2.2⟩)
end
end Go.Proofs.YtgkljcmjnphpeaaGreatDoor
namespace Go
section
section
variable{P:Program}{b:Array Oper}{Q:Exit->Act->World->Prop}{c:Region.Mode}{S:Array Bool->World->Prop}
theorem vR{i j:Nat}{l m:Oper}{n:Nat}{f:Array Bool}{d:Act}{a:World}(q:Region.ready c b f=[i,j])(w:b[i]?=some l)(x:b[j]?=some m)(v:mR c b f)
  (t:∀e:Act->World->Prop,Shut (∀d a,S (f.setIfInBounds i true) a->(mR c b (f.setIfInBounds i true)->S (f.setIfInBounds i true) a->ry P c b Q S n (f.setIfInBounds i true) d a)->e d a)->if Region.wanted l (yielded b d.tmps)=true then Oper.wp P l d a e Q else e (d.put l.dst undef) a)
  (u:∀e:Act->World->Prop,Shut (∀d a,S (f.setIfInBounds j true) a->(mR c b (f.setIfInBounds j true)->S (f.setIfInBounds j true) a->ry P c b Q S n (f.setIfInBounds j true) d a)->e d a)->if Region.wanted m (yielded b d.tmps)=true then Oper.wp P m d a e Q else e (d.put m.dst undef) a) :
  ry P c b Q S (n+1) f d a:=by
 refine⟨λr=>(by rw[q]at r;cases r),λk h=>?_⟩;rw[q]at h;have s:=v.set (i:=k) (by rw[q];exact h);rcases bT.1 h with rfl | h;·exact wpOp_step w (λe o=>t e (λd a g p=>o d a ⟨g,p s g⟩))
 ·obtain rfl:=cc.1 h;exact wpOp_step x (λe o=>u e (λd a g p=>o d a ⟨g,p s g⟩))
end
end
end Go
namespace Go.Proofs.YtgkljcmjnphpeaaGreatDoor
open Go.RowKit
theorem um(a:List Nat):(gC a).size=a.length:=by unfold gC;simp[ByteArray.size]
theorem DV(a b:List Nat):gC a++gC b=gC (a++b):=by unfold gC;apply fP;simp
end Go.Proofs.YtgkljcmjnphpeaaGreatDoor
