import Derived.Test.YtgkljcmjnphpeaaGreatDoorK18
set_option linter.unusedVariables false
set_option linter.unusedSimpArgs false
set_option maxHeartbeats 8000000
set_option maxRecDepth 100000
namespace Go.Proofs.YtgkljcmjnphpeaaGreatDoor
open Go.RowKit
section
variable{w w':World}{J:World}{B bs s:Nat}{t:Option Addr}{d q:List Nat}{G I E:Value}{F:List Value}{C:List (VT 12)}{H:List Value}{A:List (List Nat)}{m:List Nat}
theorem JI(a8:lD B J)(n:Fi J B bs t s d w q G I E F C H A m)(cg:m.length+q.length<=200000)(co:F.length=m.length)(ch:H.length=m.length) :
  Calls Tryz.prog 139 #[.pointer (some ⟨bs,0,none⟩)] w (rH J B bs t s d C A m (d.length-q.length) (kC (m.length+1) q)):=by
 obtain⟨i0,hi,bm,bn,bq⟩:=bu C7;obtain⟨i1,gi,b3,b4,b5⟩:=bu iV;obtain⟨i2,bi,bz,b0,b1⟩:=bu iB;have HF:=gv n;have a3:Hid (∀y:World,gQ bs J y->lD B y):=λy bv=>a8.only n.sc.hb (aD n.sc.hb (e_ n.lt)) bv;have b7:=n.sc.env;have b6:=n.sc.hb;have cd:=n.lt;have bd:=n.sc.lt;obtain⟨L,hR⟩:∃L,kC (m.length+1) q=L:=⟨_,rfl⟩;rw[hR];have h:=gv hR;unfold kC at h;obtain⟨l,X⟩:∃al,d.length-q.length=al:=⟨_,rfl⟩;rw[X];have c1:w.cell? ⟨bs,1,none⟩=some (.int .i64 (l:Int)):=by rw[<-X];exact n.sc.c1
 have c4:w.cell? ⟨bs,4,none⟩=some E:=n.sc.c4;obtain⟨la,lc,a9⟩:=i_ n.ol;have b9:l<=200000:=by rw[<-X];have:=n.sc.len;omega
 have HC:Hid (tM 14 ⟨bs,4,none⟩ ⟨bs,1,none⟩ E (.int .i64 (l:Int)) (Array.replicate 15 false) w.drew):=⟨λ_=>c4,c1⟩;clear n a8 hR X;go_enter Tryz.func139,Tryz.ntmps139;go_wp2_with fail;refine p7 (tM 14 ⟨bs,4,none⟩ ⟨bs,1,none⟩ E (.int .i64 (l:Int))) (by kernel_rfl) ?_;intro a;have b:=HC.o;refine ti 0 ?_ a b ?_;clear a b;intro a b;(try simp only[gB])
 refine ti 1 ?_ a b ?_;clear a b;intro a b;(try simp only[gB])
 refine ti 2 ?_ a b ?_;clear a b;intro a b;(try simp only[gB])
 refine ti 3 ?_ a b ?_;clear a b;intro a b;(try simp only[gB])
 refine tk 4 ?_ a ?_ b ?_;rotate_left;·intro y P;obtain⟨ad,ao,hL,O⟩:=P;have a7:=O.1 (by cases h9:ad.getD 14 false with | false=>rfl | true=>exact absurd (ao.came 3 14 (by kernel_rfl) h9) (by rw[uk hL];decide));go_simp;try(with_reducible rfl)
 clear a b;intro a b;(try simp only[gB])
 refine ti 5 ?_ a b ?_;clear a b;intro a b;(try simp only[gB])
 refine ti 6 ?_ a b ?_;clear a b;intro a b;(try simp only[gB])
 refine ti 7 ?_ a b ?_;clear a b;intro a b;(try simp only[gB])
 refine ti 8 ?_ a b ?_;clear a b;intro a b;(try simp only[gB])
 refine tk 9 ?_ a ?_ b ?_;rotate_left;·intro y P;obtain⟨ad,ao,hL,O⟩:=P;have a7:=O.2;go_simp;try(with_reducible rfl)
 clear a b;intro a b;(try simp only[gB])
 refine on 10 a λg c=>?_;go_simp;have p:=gv (HF.o.drew.alloc (.cells #[.int .i64 (l:Int)] 3));have e4:(w.drew.alloc (.cells #[.int .i64 (l:Int)] 3)).cell? ⟨bs,4,none⟩=some E:=p.o.sc.c4;have e1:(w.drew.alloc (.cells #[.int .i64 (l:Int)] 3)).cell? ⟨bs,1,none⟩=some (.int .i64 (l:Int)):=by rw[World.cell?_alloc_lt _ _ _ bd];exact c1
 refine c.o _ _ ⟨λ_=>e4,e1⟩ (λe f=>?_);clear a b c g;have a:=e;have b:=f;clear e f
 (try simp only[gB])
 refine on 11 a λg c=>?_;refine vX rfl (.tmp 8) (.tmp 14) 52 rfl J.heap.size 3 i0 (.int .i64 0) 1 8 dq hi bm bn bq rfl (by decide) E m.length (m.map λbt:Nat=>.int .i64 (bt:Int)) (by rw[a9];rfl) p.o.ol ⟨w.heap.size,0,none⟩ 1 1 [.int .i64 (l:Int)] rfl rfl ?hnews ?hone ?h63 ?hby ?hbs ?_
 case hnews=>intro br bb Z;rw[aa];show(w.alloc (.cells #[.int .i64 (l:Int)] 3)).cell? ⟨w.heap.size,br,none⟩=some bb;rw[cb (jd w _)];simpa using Z
 case hone=>intro bb Z;simp at Z;subst Z;rfl
 case h63=>unfold maxLen;omega
 case hby=>omega
 case hbs=>exact p.o.only.size
 intro v6 w6 a1 a0 ba;have z:Hid (Fi J B bs t s d (w6.setCell ⟨bs,4,none⟩ v6) q G I v6 F C H A (m++[l])):=p.o.place a1 a0 ba;have ac:=(a0.block bs (ae p.o.sc.blk) (λi=>by have:=(p.o.ol.lt _ i.symm).1;omega)).trans p.o.sc.blk;have Y:=pV ac;have Q:w6.cell? ⟨bs,1,none⟩=some (.int .i64 (l:Int)):=by rw[cb ac,<-cb p.o.sc.blk];exact e1
 have bc:=ix 4 ac;obtain⟨U,V,bf⟩:=i_ a1;subst bf;clear a1 a0 ba ac p e4 e1;refine c.o _ _ ⟨λ_=>Y,Q⟩ (λe f=>?_);clear a b c g;have a:=e;have b:=f;clear e f
 (try simp only[gB])
 refine on 12 a λg c=>?_;go_simp;refine c.o _ _ ⟨λ_=>Y,Q⟩ (λe f=>?_);clear a b c g;have a:=e;have b:=f;clear e f
 (try simp only[gB])
 refine on 13 a λg c=>?_;go_simp;refine c.o _ _ ⟨λ_=>Y,Q⟩ (λe f=>?_);clear a b c g;have a:=e;have b:=f;clear e f
 (try simp only[gB])
 refine on 14 a λg c=>?_;go_simp;refine c.o _ _ ⟨λh9=>(by cases h9),(World.cell?_setCell_other _ _ _ _ (by intro i;injection i with e1 e2;cases e2)).trans Q⟩ (λe f=>?_);clear a b c g;have a:=e;have b:=f;clear e f
 (try simp only[gB])
 refine mI (by kernel_rfl) ?_ _;clear a b;generalize w6.setCell ⟨bs,4,none⟩ (.slice U (m.length+1) V)=w1 at *;obtain⟨o,hN⟩:∃o,m.length+1=o:=⟨_,rfl⟩;rw[hN]at z h;have b8:o<=200001:=by omega
 have bx:=gv hN;clear hN Y Q bc c1 c4 a9 HC HF;have a4:=gv z.o.drew.sc;have a2:Hid (lD B w1.drew):=a3.o _ z.o.drew.only;have a5:B<=w1.drew.heap.size:=z.o.drew.sc.env;go_wp2_with fail;refine p7 (EG ⟨bs,4,none⟩ (.slice U o V)) (by kernel_rfl) ?_;intro a;have b:EG ⟨bs,4,none⟩ (.slice U o V) (Array.replicate 23 false) w1.drew:=a4.o.c4;refine ti 0 ?_ a b ?_;clear a b;intro a b;(try simp only[gB])
 refine ti 1 ?_ a b ?_;clear a b;intro a b;(try simp only[gB])
 refine ti 2 ?_ a b ?_;clear a b;intro a b;(try simp only[gB])
 refine ti 3 ?_ a b ?_;clear a b;intro a b;(try simp only[gB])
 refine ti 4 ?_ a b ?_;clear a b;intro a b;(try simp only[gB])
 refine ti 5 ?_ a b ?_;clear a b;intro a b;(try simp only[gB])
 refine tk 6 ?_ a ?_ b ?_;rotate_left;·intro y P;obtain⟨ad,ao,hL,O⟩:=P;have a7:y.cell? ⟨bs,4,none⟩=some (.slice U o V):=O;go_simp;try(with_reducible rfl)
 clear a b;intro a b;(try simp only[gB])
 refine ti 7 ?_ a b ?_;clear a b;intro a b;(try simp only[gB])
 refine on 8 a λg c=>?_;go_simp;refine(io a2.o a5 o (by omega)).mono ?_;rintro i w2 ⟨rfl,b2⟩;have D:=gv (z.o.drew.below b2);have u:=gv (uu D.o.sc (gC (iL o)));rw[wu _ (BR o)]at u;generalize gC (iL o)=bw at *;clear b2 a4 a2 a5;refine c.o _ _ D.o.sc.c4 (λe f=>?_);clear a b c g;have a:=e;have b:=f;clear e f
 (try simp only[gB])
 cases e1:gF (iL o) q with
 |none =>
  rw[e1]at u h;have K:Hid (L=none):=h.o.symm;clear h;refine on 9 a λg c=>?_;go_simp;refine u.o.mono ?_;rintro i w3 ⟨rfl,h3,R⟩;have j:=gv (D.o.step (show Sc B bs t s d _ _ _ w3 q from h3) R);clear h3 R u;refine c.o _ _ j.o.sc.c4 (λe f=>?_);clear a b c g;have a:=e;have b:=f;clear e f
  (try simp only[gB])
  refine on 10 a λg c=>?_;go_simp;refine c.o _ _ j.o.sc.c4 (λe f=>?_);clear a b c g;have a:=e;have b:=f;clear e f
  (try simp only[gB])
  refine tu 11 a b ?_;clear a b;intro a b;(try simp only[gB])
  refine tu 12 a b ?_;clear a b;intro a b;(try simp only[gB])
  refine tu 13 a b ?_;clear a b;intro a b;(try simp only[gB])
  refine tu 14 a b ?_;clear a b;intro a b;(try simp only[gB])
  refine on 15 a λg c=>?_;go_simp;refine c.o _ _ j.o.sc.c4 (λe f=>?_);clear a b c g;have a:=e;have b:=f;clear e f
  (try simp only[gB])
  refine on 16 a λg c=>?_;go_simp;refine c.o _ _ j.o.sc.c4 (λe f=>?_);clear a b c g;have a:=e;have b:=f;clear e f
  (try simp only[gB])
  refine tu 17 a b ?_;clear a b;intro a b;(try simp only[gB])
  refine tu 18 a b ?_;clear a b;intro a b;(try simp only[gB])
  refine tu 19 a b ?_;clear a b;intro a b;(try simp only[gB])
  refine tu 20 a b ?_;clear a b;intro a b;(try simp only[gB])
  refine on 21 a λg c=>?_;go_simp;refine c.o _ _ j.o.sc.c4 (λe f=>?_);clear a b c g;have a:=e;have b:=f;clear e f
  (try simp only[gB])
  refine on 22 a λg c=>?_;go_simp;refine(sn _).mono ?_;rintro i w' ⟨rfl,rfl⟩;exact⟨rfl,.none_ K.o j.o.only⟩
 |some q1 =>
  have ck:=ik e1;rw[e1]at u h;simp only[]at h;clear e1;refine on 9 a λg c=>?_;go_simp;refine u.o.mono ?_;rintro i w3 ⟨rfl,h3,R⟩;have j:=gv (D.o.step (show Sc B bs t s d _ _ _ w3 q1 from h3) R);have v:=gv (uu j.o.sc { data:=#[48] });rw[show bl { data:=#[48] }=[48]from rfl]at v;clear h3 R u D;refine c.o _ _ j.o.sc.c4 (λe f=>?_);clear a b c g;have a:=e;have b:=f;clear e f
  (try simp only[gB])
  refine on 10 a λg c=>?_;go_simp;refine c.o _ _ j.o.sc.c4 (λe f=>?_);clear a b c g;have a:=e;have b:=f;clear e f
  (try simp only[gB])
  refine ti 11 ?_ a b ?_;clear a b;intro a b;(try simp only[gB])
  refine ti 12 ?_ a b ?_;clear a b;intro a b;(try simp only[gB])
  refine ti 13 ?_ a b ?_;clear a b;intro a b;(try simp only[gB])
  cases e2:gF [48] q1 with
  |none =>
   rw[e2]at v h;have K:Hid (L=none):=h.o.symm;clear h;refine on 14 a λg c=>?_;go_simp;refine v.o.mono ?_;rintro i w4 ⟨rfl,M,S⟩;have k:=gv (j.o.step (show Sc B bs t s d _ _ _ w4 q1 from M) S);clear M S v;refine c.o _ _ k.o.sc.c4 (λe f=>?_);clear a b c g;have a:=e;have b:=f;clear e f
   (try simp only[gB])
   refine on 15 a λg c=>?_;go_simp;refine c.o _ _ k.o.sc.c4 (λe f=>?_);clear a b c g;have a:=e;have b:=f;clear e f
   (try simp only[gB])
   refine on 16 a λg c=>?_;go_simp;refine c.o _ _ k.o.sc.c4 (λe f=>?_);clear a b c g;have a:=e;have b:=f;clear e f
   (try simp only[gB])
   refine tu 17 a b ?_;clear a b;intro a b;(try simp only[gB])
   refine tu 18 a b ?_;clear a b;intro a b;(try simp only[gB])
   refine tu 19 a b ?_;clear a b;intro a b;(try simp only[gB])
   refine tu 20 a b ?_;clear a b;intro a b;(try simp only[gB])
   refine on 21 a λg c=>?_;go_simp;refine c.o _ _ k.o.sc.c4 (λe f=>?_);clear a b c g;have a:=e;have b:=f;clear e f
   (try simp only[gB])
   refine on 22 a λg c=>?_;go_simp;refine(sn _).mono ?_;rintro i w' ⟨rfl,rfl⟩;exact⟨rfl,.none_ K.o k.o.only⟩
  |some q2 =>
   have cl:=ik e2;rw[e2]at v h;simp only[]at h;clear e2;refine on 14 a λg c=>?_;go_simp;refine v.o.mono ?_;rintro i w4 ⟨rfl,M,S⟩;have k:=gv (j.o.step (show Sc B bs t s d _ _ _ w4 q2 from M) S);have x:=gv (uu k.o.sc { data:=#[111,98,106] });rw[show bl { data:=#[111,98,106] }=[111,98,106]from rfl]at x;clear M S v j;refine c.o _ _ k.o.sc.c4 (λe f=>?_);clear a b c g;have a:=e;have b:=f;clear e f
   (try simp only[gB])
   refine on 15 a λg c=>?_;go_simp;refine c.o _ _ k.o.sc.c4 (λe f=>?_);clear a b c g;have a:=e;have b:=f;clear e f
   (try simp only[gB])
   refine on 16 a λg c=>?_;go_simp;refine c.o _ _ k.o.sc.c4 (λe f=>?_);clear a b c g;have a:=e;have b:=f;clear e f
   (try simp only[gB])
   refine ti 17 ?_ a b ?_;clear a b;intro a b;(try simp only[gB])
   refine ti 18 ?_ a b ?_;clear a b;intro a b;(try simp only[gB])
   refine ti 19 ?_ a b ?_;clear a b;intro a b;(try simp only[gB])
   cases W:gF [111,98,106] q2 with
   |none =>
    rw[W]at x h;have K:Hid (L=none):=h.o.symm;clear h;refine on 20 a λg c=>?_;go_simp;refine x.o.mono ?_;rintro i w5 ⟨rfl,N,T⟩;have r:=gv (k.o.step (show Sc B bs t s d _ _ _ w5 q2 from N) T);clear N T x;refine c.o _ _ r.o.sc.c4 (λe f=>?_);clear a b c g;have a:=e;have b:=f;clear e f
    (try simp only[gB])
    refine on 21 a λg c=>?_;go_simp;refine c.o _ _ r.o.sc.c4 (λe f=>?_);clear a b c g;have a:=e;have b:=f;clear e f
    (try simp only[gB])
    refine on 22 a λg c=>?_;go_simp;refine(sn _).mono ?_;rintro i w' ⟨rfl,rfl⟩;exact⟨rfl,.none_ K.o r.o.only⟩
   |some q3 =>
    have cm:=ik W;rw[W]at x h;simp only[]at h;clear W;refine on 20 a λg c=>?_;go_simp;refine x.o.mono ?_;rintro i w5 ⟨rfl,N,T⟩;have r:=gv (k.o.step (show Sc B bs t s d _ _ _ w5 q3 from N) T);clear N T x k;refine c.o _ _ r.o.sc.c4 (λe f=>?_);clear a b c g;have a:=e;have b:=f;clear e f
    (try simp only[gB])
    refine on 21 a λg c=>?_;go_simp;refine c.o _ _ r.o.sc.c4 (λe f=>?_);clear a b c g;have a:=e;have b:=f;clear e f
    (try simp only[gB])
    refine on 22 a λg c=>?_;go_simp;refine(oq _).mono ?_;rintro i w' ⟨rfl,hw⟩;have hw:=hw.symm;subst hw;refine c.o _ _ r.o.sc.c4 (λe f=>?_);clear a b c g;have a:=e;have b:=f;clear e f
    (try simp only[gB])
    refine mI (by kernel_rfl) ?_ _;clear a b;refine(show Exit.then _ _ Exit.normal _ _ from(‹∀(al:Act) (w:World),Code.wp Tryz.prog _ _ al w->_› _ _ ?_));exact JJ a3 r (by omega) (by omega) h (Eq.refl (m++[l])) _ _ _ _ _ _ _ _ _ _ _ _ _ _ _ _ _ _ _ _ _ _ _ _ _ _ _ _ _ _ _ _ _ _ _ _ _
def jp(len:Nat):Nat->Nat->List Nat->Option ((List (VT 12 × List Nat) × List Nat) × List Nat)
 |0,_,_=>none
 |c+1,b,r=>if([120,114,101,102]:List Nat).isPrefixOf r=true then some (([],[]),r)else match kC (b+1) r with
  |none=>none
  |some (e,q)=>(jp len c (b+1) (gG q)).map λa=>((e::a.1.1,(len-r.length)::a.1.2),a.2)
def iM(d:List Nat):Option (List (VT 12 × List Nat) × Int):=match gH [37,80,68,70,45,49,46,52,10] d with
 |none=>none
 |some r=>match jp d.length (r.length+2) 0 (gG r)with
  |none=>none
  |some a=>match k_ a.1.1.length a.1.2 a.2 with
   |none=>none
   |some c=>match mj a.1.1.length c with
    |none=>none
    |some b=>match lW (d.length-a.2.length) b.2 with
     |none=>none
     |some _=>some (a.1.1,b.1)
def rh(C:List (VT 12))(A:List (List Nat))(m:List Nat)(b:Option ((List (VT 12 × List Nat) × List Nat) × List Nat)):Option ((List (VT 12) × List (List Nat) × List Nat) × List Nat):=b.map λa=>((C++a.1.1.map Prod.fst,A++a.1.1.map Prod.snd,m++a.1.2),a.2)
theorem GX(c:VT 12 × List Nat)(e:Nat)(b:Option ((List (VT 12 × List Nat) × List Nat) × List Nat)) :
  rh C A m (b.map λa=>((c::a.1.1,e::a.1.2),a.2))=rh (C++[c.1]) (A++[c.2]) (m++[e]) b:=by
 cases b with
 |none=>rfl
 |some a=>simp[rh]
theorem Fi.rebase{j:World}{p:Nat}(a:Fi j B bs t s d w' q G I E F C H A m){g:World}(Z:p=w.heap.size)(y:j.heap.size=w.heap.size+1)(i:Below w.heap.size w j)(P:bs<w.heap.size)(f:gQ p w' g):Fi w B bs t s d g q G I E F C H A m:=by
 have Y:=a.sc.hb;have ac:=a.only.size;have c:∀b,b<w'.heap.size->b≠p->g.heap[b]?=w'.heap[b]?:=λb y L=>f.block b y L;have r:∀{k u o:Nat} {v:Value} {x:List Value},w'.ownsRow j.heap.size k u v o x->g.ownsRow w.heap.size k u v o x:=λ{k u o v x} Q=>by
  obtain⟨n,e⟩:=Q;refine⟨n,?_⟩;rcases e with e | ⟨b,D,K,e1,e2,z,M⟩;·exact Or.inl e
  ·exact Or.inr ⟨b,D,K,e1,by omega,by rw[c b (ae z) (by omega)];exact z,M⟩
 refine⟨⟨a.sc.hb,by rw[c bs (ae a.sc.blk) (by omega)];exact a.sc.blk,a.sc.dat.other (λb h=>c b (by omega) (by omega)),a.sc.byt,a.sc.len,a.sc.lc,a.sc.le,a.sc.suf,a.sc.ad⟩,?_,P,r a.oo,r a.op,r a.ol,a.len,λl W X S T=>?_,a.plen,λl V U R O=>(a.pk l V U R O).keep (λb h=>c b (by omega) (by omega))⟩;·exact⟨f.os.trans (a.only.os.trans i.os),f.tape.trans (a.only.tape.trans i.tape),f.output.trans (a.only.output.trans i.output),by have:=f.size;omega,λb n e=>(c b (by omega) (by omega)).trans ((a.only.block b (by omega) e).trans (i.block b n))⟩
 ·exact gR.mono 12 (gR.keep 12 (a.ch l W X S T) (λb h N=>c b N (by omega))) (λb h _=>⟨by omega,h.2⟩)
def qP(w:World)(B bs:Nat)(t:Option Addr)(s:Nat)(d:List Nat)(c:Option (List (VT 12 × List Nat) × Int))(b:Ending)(w':World):Prop:=
 match c with
 |some a=>∃G I E F H m q,b=.returned (.agg #[G,.int .i64 a.2])/\Fi w B bs t s d w' q G I E F (a.1.map Prod.fst) H (a.1.map Prod.snd) m
 |none=>b=gU 4/\gQ bs w w'
theorem qP.none_{a:Option (List (VT 12 × List Nat) × Int)}(b:a=none)(k:gQ bs w w'):qP w B bs t s d a (gU 4) w':=by subst b;exact⟨rfl,k⟩
theorem qP.some_{b:Option (List (VT 12 × List Nat) × Int)}{a:List (VT 12 × List Nat)}{c:Int}(e:b=some (a,c))(k:Fi w B bs t s d w' q G I E F (a.map Prod.fst) H (a.map Prod.snd) m):qP w B bs t s d b (.returned (.agg #[G,.int .i64 c])) w':=by subst e;exact⟨_,_,_,_,_,_,_,rfl,k⟩
theorem vA{w:World}{b:Nat}{f g:Value}{a:TypeId}(h:w.heap[b]?=some (.cells #[f,g] a (0,0)))(c e:Value) :
  ((w.setCell ⟨b,0,none⟩ c).setCell ⟨b,1,none⟩ e).heap[b]?=some (.cells #[c,e] a (0,0)):=by
 rw[lq _ (lq _ h)];rfl
theorem Ff(he:lD B w)(W:Sc B bs t s d (.slice none 0 0) (.slice none 0 0) (.slice none 0 0) w d) :
  Calls Tryz.prog 98 #[.pointer (some ⟨bs,0,none⟩)] w (qP w B bs t s d (iM d)):=by
 have cl:=W.lt;have br:=W.hb;have ch:=W.env;have cp:=W.len;obtain⟨N,hR⟩:∃N,iM d=N:=⟨_,rfl⟩;rw[hR];have a:=gv hR;unfold iM at a;have V:Below w.heap.size w (w.alloc (.cells #[.slice none 0 0,.int .i64 0] 31)):=(aj _ _).alloc (af _) _;have b0:(w.alloc (.cells #[.slice none 0 0,.int .i64 0] 31)).heap.size=w.heap.size+1:=by simp
 have bb:(w.alloc (.cells #[.slice none 0 0,.int .i64 0] 31)).heap[w.heap.size]?=some (.cells #[.slice none 0 0,.int .i64 0] 31 (0,0)):=jd _ _;obtain⟨x,ba⟩:∃x,w.alloc (.cells #[.slice none 0 0,.int .i64 0] 31)=x:=⟨_,rfl⟩;rw[ba]at V b0 bb;have H1:Hid (Fi x B bs t s d x d (.slice none 0 0) (.slice none 0 0) (.slice none 0 0) [] [] [] [] []):=
  ⟨W.other V,gQ.refl _ _,by omega,bk _ _ _ _,bk _ _ _ _,bk _ _ _ _,rfl,λco S b6 u _=>by simp at u,rfl,λco R c3 j _=>by simp at j⟩
 have bi:Hid (lD B x):=he.only (bs:=bs) br ch (.of_below V);have b7:=gv V;have bq:=gv ba;have a7:=gv bb;have U:=gv (tY H1.o.sc { data:=#[37,80,68,70,45,49,46,52,10] } (by decide) (by decide));rw[show bl { data:=#[37,80,68,70,45,49,46,52,10] }=[37,80,68,70,45,49,46,52,10]from rfl]at U;have al:Hid (∀O:World,gQ bs x O->gQ bs w O):=λO bd=>(gQ.of_below V).trans bd;clear W he hR V bb ba;cases e1:gH [37,80,68,70,45,49,46,52,10] d with
 |none=>rw[e1]at U a;have h:Hid (N=none):=a.o.symm;clear a;go_enter Tryz.func98,Tryz.ntmps98;go_wp2_with fail;rw[bq.o];refine U.o.mono ?_;rintro c w2 ⟨rfl,o,k2⟩;have K2:=gv (al.o _ k2);clear o k2;go_wp2_with fail;refine(sn _).mono ?_;rintro c w' ⟨rfl,P⟩;have P:=P.symm;subst P;exact⟨rfl,.none_ h.o K2.o⟩
 |some r =>
  have hr:=(ie e1).1;rw[e1]at U a;simp only[]at a;clear e1;go_enter Tryz.func98,Tryz.ntmps98;go_wp2_with fail;rw[bq.o];refine U.o.mono ?_;rintro c w2 ⟨rfl,o,k2⟩;have H2:=gv (H1.o.step (show Sc B bs t s d _ _ _ w2 r from o) k2);have ao:=gv (Cu H2.o.sc);clear o k2 U H1;go_wp2_with fail;refine(oq _).mono ?_;rintro c w' ⟨rfl,P⟩;have P:=P.symm;subst P;go_wp2_with fail;refine ao.o.mono ?_;rintro c w3 ⟨rfl,h3,k3⟩;have H3:=gv (H2.o.step h3 k3);have c0:=jo r;have T:Hid (rh [] [] [] (jp d.length (r.length+2) 0 (gG r))=(jp d.length (r.length+2) 0 (gG r)).map λg=>((g.1.1.map Prod.fst,g.1.1.map Prod.snd,g.1.2),g.2)):=by unfold Hid rh;cases jp d.length (r.length+2) 0 (gG r)<;>simp
  obtain⟨M,a8⟩:∃M,rh [] [] [] (jp d.length (r.length+2) 0 (gG r))=M:=⟨_,rfl⟩;rw[a8]at T;have K:=gv a8;clear h3 k3 ao H2 a8;go_wp2;go_loopw [14] (λ_ wr=>∃(i:Nat) (b:List Nat) (G I E:Value) (F:List Value) (C:List (VT 12)) (H:List Value) (A:List (List Nat)) (m:List Nat),Hid (Fi x B bs t s d wr b G I E F C H A m)/\b.length<i/\m.length+b.length<=200000/\Hid (F.length=m.length/\H.length=m.length/\∀R∈m,R<=200000)/\Hid (rh C A m (jp d.length i m.length b)=M)) (λ_ wr=>d.length-posS bs wr)
  case atStart=>exact⟨r.length+2,gG r,_,_,_,_,_,_,_,_,H3,by omega,by simp only[aw];omega,⟨rfl,rfl,λR j=>by cases j⟩,K⟩
  clear H3 K
  case round =>
   obtain⟨i,b,G,I,E,F,C,H,A,m,l,hf,ck,D,K⟩:=hrel;obtain⟨i,rfl⟩:∃f',i=f'+1:=⟨i-1,by omega⟩;have bm:=gv l.o.sc.posS;have cs:=l.o.sc.le;have z:=gv (Ct l.o.sc { data:=#[120,114,101,102] } (by decide) (by decide));rw[show bl { data:=#[120,114,101,102] }=[120,114,101,102]from rfl]at z;cases u:([120,114,101,102]:List Nat).isPrefixOf b with
   |true =>
    rw[u]at z;have bt:M=some ((C,A,m),b):=by rw[<-K.o];unfold jp rh;rw[aA u];simp
    rw[bt]at T;cases Z:jp d.length (r.length+2) 0 (gG r)with
    |none=>have:=T.o;rw[Z]at this;cases this
    |some g =>
     obtain⟨⟨xs,pz⟩,qz⟩:=g;have bc:=T.o;rw[Z]at bc a;simp at bc;obtain⟨⟨hV,hP,rfl⟩,rfl⟩:=bc;simp only[]at a;have bn:=gv (And.intro hV hP);have b3:xs.length=F.length:=by have:=l.o.len;rw[this,hV,av]
     obtain⟨f,hn⟩:∃f,F.length=f:=⟨_,rfl⟩;rw[b3,hn]at a;have bw:f<=200000:=by have:=D.o.1;omega
     have HN:=gv hn;clear Z u bt T K b3 hV hP hn;go_wp2_with fail;refine z.o.mono ?_;rintro c w4 ⟨rfl,m4,a4⟩;have e:=gv (l.o.below (show Below wr.heap.size wr w4 by rw[a4];exact tN _ _));clear a4 z l bm;obtain⟨tb,a9⟩:∃tb,d.length-b.length=tb:=⟨_,rfl⟩;rw[a9]at a;have c1:w4.cell? ⟨bs,1,none⟩=some (.int .i64 (tb:Int)):=by rw[<-a9];exact e.o.sc.c1
     have cm:tb<=200000:=by omega
     obtain⟨oa,oc,a5⟩:=i_ e.o.oo;rw[HN.o]at a5;have a6:Hid (∀O:World,gQ bs x O->lD B O):=λO bd=>bi.o.only br (by omega) bd;have ac:=gv (Hu (a6.o _ e.o.only) e.o.sc (n:=f) a5 bw D.o.2.2 (by omega) e.o.ol e.o.lt);clear a9;cases n:k_ f m b with
     |none=>rw[n]at ac a;have h:Hid (N=none):=a.o.symm;clear a;go_wp2_with fail;refine ac.o.mono ?_;rintro c w5 ⟨rfl,k5⟩;exact⟨rfl,.none_ h.o (al.o _ (e.o.only.trans k5))⟩
     |some q2 =>
      rw[n]at ac a;simp only[]at a;go_wp2_with fail;refine ac.o.mono ?_;rintro c w5 ⟨rfl,p,k5⟩;have k:=gv (e.o.step p k5);have a0:=gv (LE (a6.o _ k.o.only) k.o.sc (n:=f) a5 bw);clear p k5 ac e c1 n;cases e6:mj f q2 with
      |none=>rw[e6]at a0 a;have h:Hid (N=none):=a.o.symm;clear a;go_wp2_with fail;refine a0.o.mono ?_;rintro c w6 ⟨rfl,Q⟩;exact⟨rfl,.none_ h.o (al.o _ (k.o.only.trans Q))⟩
      |some b6 =>
       obtain⟨bf,q3⟩:=b6;rw[e6]at a0 a;simp only[]at a;go_wp2_with fail;refine a0.o.mono ?_;rintro c w6 ⟨_,rfl,bz,X,Q⟩;unfold AK at bz;subst bz;have y:=gv (k.o.step X Q);have ad:=gv (I3 (a6.o _ y.o.only) y.o.sc tb cm);clear X Q a0 k e6;cases e7:lW tb q3 with
       |none=>rw[e7]at ad a;have h:Hid (N=none):=a.o.symm;clear a;go_wp2_with fail;refine ad.o.mono ?_;rintro c w7 ⟨rfl,k7⟩;exact⟨rfl,.none_ h.o (al.o _ (y.o.only.trans k7))⟩
       |some q4 =>
        rw[e7]at ad a;simp only[]at a;go_wp2_with fail;refine ad.o.mono ?_;rintro c w7 ⟨rfl,h7,k7⟩;have H7:=gv (y.o.step h7 k7);have Y:w7.heap[w.heap.size]?=some (.cells #[.slice none 0 0,.int .i64 0] 31 (0,0)):=by rw[H7.o.only.block _ (ae a7.o) (by omega)];exact a7.o
        have c2:w7.cell? ⟨bs,2,none⟩=some G:=H7.o.sc.c2;have r0:=mb Y;have r1:=oB Y;have f0:=ix 0 Y;have f1:=ix 1 Y;have cg:=gv Y;subst a5;clear h7 k7 ad y e7 Y a7;go_wp2;have hf:=vA cg.o (.slice oa f oc) (.int .i64 bf);have ho:gQ w.heap.size w7 ((w7.setCell ⟨w.heap.size,0,none⟩ (.slice oa f oc)).setCell ⟨w.heap.size,1,none⟩ (.int .i64 bf)):=((gQ.refl _ w7).setCell 0 _).setCell 1 _;refine aF (v:=.agg #[.slice oa f oc,.int .i64 bf]) ?_ rfl ?_;·exact aJ Tryz.results98 _ _ w.heap.size 31 _ _ _ rfl hf f7 rfl (by kernel_rfl)
        have bv:=H7.o.rebase (w:=w) rfl b0 b7.o cl ho;rw[bn.o.1,bn.o.2]at bv;exact .some_ a.o.symm bv
   |false =>
    rw[u]at z;have L:Hid (rh C A m (match kC (m.length+1) b with | none=>none | some (S,q)=>(jp d.length i (m.length+1) (gG q)).map λg=>((S::g.1.1,(d.length-b.length)::g.1.2),g.2))=M):=by unfold Hid;rw[<-K.o];conv=>rhs;rw[jp,au (by rw[u];decide)]
    clear u K;go_wp2_with fail;refine z.o.mono ?_;rintro c w4 ⟨rfl,m4,a4⟩;have e:=gv (l.o.below (show Below wr.heap.size wr w4 by rw[a4];exact tN _ _));clear a4 z l;have HB:=gv (JI bi.o e.o ck D.o.1 D.o.2.1);cases n:kC (m.length+1) b with
    |none =>
     rw[n]at HB L;have h:Hid (N=none):=by
      unfold Hid;have h1:M=none:=L.o.symm;have o:=T.o;rw[h1]at o;cases Z:jp d.length (r.length+2) 0 (gG r)with
      |none=>rw[<-a.o,Z]
      |some g=>rw[Z]at o;cases o
     go_wp2_with fail;refine HB.o.mono ?_;rintro c w5 ⟨rfl,k5⟩;exact⟨rfl,.none_ h.o (al.o _ k5)⟩
    |some S =>
     obtain⟨S,q5⟩:=S;have cr:=pM n;have cw:=jo q5;rw[n]at HB L;simp only[]at L;rw[GX]at L;clear n;go_wp2_with fail;refine HB.o.mono ?_;rintro c w5 ⟨rfl,c5,c6,c4,b5,b4,p⟩;have b2:b5.length=m.length+1:=by have a1:=p.len;have a2:=e.o.len;have a3:=D.o.1;rw[ab]at a1;simp at a1;omega
     have bx:b4.length=m.length+1:=by have a1:=p.plen;have a2:=e.o.plen;have a3:=D.o.2.1;rw[ab]at a1;simp at a1;omega
     have ao:=gv (Cu p.sc);have k:=gv p;have b8:Hid (b5.length=(m++[d.length-b.length]).length/\b4.length=(m++[d.length-b.length]).length/\∀R∈m++[d.length-b.length],R<=200000):=by
      refine⟨by simp[b2],by simp[bx],λR j=>?_⟩;rcases bH.1 j with j | j;·exact D.o.2.2 R j
      ·simp at j;omega
     have cd:Hid (rh (C++[S.1]) (A++[S.2]) (m++[d.length-b.length]) (jp d.length i (m++[d.length-b.length]).length (gG q5))=M):=by unfold Hid;rw[ab];exact L.o
     clear p b2 bx HB e L;go_wp2_with fail;refine ao.o.mono ?_;rintro c w6 ⟨rfl,X,Q⟩;have y:=gv (k.o.step X Q);have b9:=gv X.posS;clear X Q k ao;go_wp2;go_roundw
     case rel=>exact⟨i,gG q5,_,_,_,_,_,_,_,_,y,by omega,by simp only[ab,ag,aw];omega,b8,cd⟩
     case measure=>rw[bm.o,b9.o];omega
end
end Go.Proofs.YtgkljcmjnphpeaaGreatDoor
