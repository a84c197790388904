import Derived.Test.YtgkljcmjnphpeaaGreatDoorK09
set_option linter.defProp false
set_option linter.unusedVariables false
set_option linter.unusedSimpArgs false
set_option maxHeartbeats 8000000
set_option maxRecDepth 100000
open List renaming length->G
open Go.Value renaming pointer->A3,agg->Bc,bool->Bs,int->I,slice->Z,string->y7
open Go.Obj renaming cells->BV
open Go.Ending renaming returned->BX
open Or renaming inl->C1,inr->C2
open Bool renaming true->CD,false->CS
open Go.Proofs.Tryz renaming prog->DG
open List renaming replicate->DJ
open Option renaming none->N,some->O
open Go.IntKind renaming i64->U
open Go renaming World->vz,Addr->wT,Value->wg,Calls->wh,Ending->xc
open Go.RowKit renaming Below->wm,Hid->wt
open Go.Proofs.Tryz
namespace Go.Proofs.YtgkljcmjnphpeaaGreatDoor
open Go.RowKit
section
variable{w d:vz}
def zS(a:Nat):wg:=Bc #[I U 4,I U 0,I U 0,y7 (ii a),Z N 0 0,Z N 0 0,Z N 0 0]
def namesV(a:Nat)(c:List Nat):VT (a+2):=(⟨6,0,0,[],c.map (λb=>(ik (VT a) 4 0 0 (bl (ii b)):VT (a+1))),[],[]⟩:f_ (VT (a+1)))
def Gq{e:vz}{b:Nat}{f:Nat}(g:e.heap[b]?=O (BV #[I U 4,I U 0,I U 0,y7 (ii f),Z N 0 0,Z N 0 0,Z N 0 0] 67 (0,0))):∀(a:Nat) (c:wg),(cellsOf (zS f))[a]?=O c->e.cell? ((⟨b,0,N⟩:wT).add a)=O c:=by intro a c h;rw[sK,cb g];rw[<-h];simp[cellsOf,zS,Value.cells]
structure Hh(w:vz)(fs:List qx)(m:Nat)(v:wg)(W:vz):Prop where
 blk:W.heap[w.heap.size+1]?=O (BV #[I U 6,I U 0,I U 0,y7 {data:=#[]},v,Z N 0 0,Z N 0 0] 67 (0,0))
 res:W.heap[w.heap.size]?=O (BV #[I U 0,I U 0,I U 0,y7 {data:=#[]},Z N 0 0,Z N 0 0,Z N 0 0] 67 (0,0))
 own:W.ownsRow (w.heap.size+2) 67 7 v m ((fs.take m).flatMap λx=>cellsOf (zS x.1))
 bel:wm w.heap.size w W
def Hh.step{c e:vz}{b:List qx}{a:Nat}{v l:wg}{f:qx}{A:Obj}(h:Hh w b a v c)(r:a<G b)(j:b[a]?.getD qx.one=f)(B:e.ownsRow (w.heap.size+2) 67 7 l (a+1) (((b.take a).flatMap λf=>cellsOf (zS f.1))++cellsOf (zS f.1)))(o:(c.drew.alloc A).grownBy e v.ownBlock):e.heap[w.heap.size+1]?=O (BV #[I U 6,I U 0,I U 0,y7 {data:=#[]},v,Z N 0 0,Z N 0 0] 67 (0,0))/\Hh w b (a+1) l (e.setCell ⟨w.heap.size+1,4,N⟩ l):=by
 have D:w.heap.size+2<=c.heap.size:=ap h.blk;have q:∀k,k<w.heap.size+2->e.heap[k]?=c.heap[k]?:=λk C=>by rw[o.block k eS (λg=>by have:=(h.own.lt k g.s).1;omega),fE _ _ _ (by show k<c.heap.size;omega)];rfl
 have n:=(q _ Y).t h.blk;refine⟨n,?_,?_,?_,?_⟩;·rw[nu _ n];rfl
 ·rw[lK _ (by show w.heap.size≠w.heap.size+1;omega)];exact(q _ Y).t h.res
 ·have z:b.take (a+1)=b.take a++[f]:=by rw[cP,af r];rw[af r]at j;simp at j;rw[j];rfl
  rw[z,cK,List.flatMap_singleton];obtain⟨u,i⟩:=B;refine⟨u,?_⟩;rcases i with i|⟨m,s,t,e1,e2,y,x⟩;·exact C1 i
  ·exact C2 ⟨m,s,t,e1,e2,by rw[lK _ (by show m≠w.heap.size+1;omega)];exact y,x⟩
 ·refine Below.setCell (p:=⟨w.heap.size+1,4,N⟩) ?_ (e_ _) _;exact((h.bel.drew.alloc (by show w.heap.size<=c.heap.size;omega) _).grown o eS (λk g=>by have:=(h.own.lt k g).1;omega))
def T8{t:Option wT}{A F:Nat}{e:List qx}(K:oD w.heap.size w (Z t A F) e)(hl:G e<=1000)(a0:A=G e):wh DG 237 #[Z t A F] w λad d=>∃D p,ad=BX (Bc #[I U 6,I U 0,I U 0,y7 {data:=#[]},Z D (G e) p,Z N 0 0,Z N 0 0])/\d.ownsRow (w.heap.size+2) 67 7 (Z D (G e) p) (G e) (e.flatMap λf=>cellsOf (zS f.1))/\wm w.heap.size w d:=by
 obtain⟨i0,hi,a2,a3,a4⟩:=bR iV;have S:=H K;clear K;subst a0;obtain⟨o,u⟩:∃o,G e=o:=⟨_,rfl⟩;have n:=H u;rw[u]at hl ⊢;clear u
 go_in
 go_wp2;go_loopw [9] (λz wr=>∃(a:Nat) (C:wg),a<=o/\z=I U a/\wt (Hh w e a C wr)) (λz _=>o-(intOf z).toNat)
 case atStart=>
  refine⟨0,Z N 0 0,aw _,rfl,?_,nt _ (bn _ _),bI _ _ _ _,((ar _ _).alloc (ag _) _).alloc cO _⟩;have:=bn (w.alloc (BV #[I U 0,I U 0,I U 0,y7 {data:=#[]},Z N 0 0,Z N 0 0,Z N 0 0] 67)) (BV #[I U 6,I U 0,I U 0,y7 {data:=#[]},Z N 0 0,Z N 0 0,Z N 0 0] 67)
  rwa [aV]at this
 case round=>
  obtain⟨a,C,hm,rfl,h⟩:=hrel;obtain⟨i,j,hv⟩:=ke h.o.own;subst hv;have g:=h.o.blk;have c4:=vK g;rcases aC hm with rfl|ao
  ·have c:=h.o.res;obtain⟨d0,d1,d2,d3⟩:=Lg g;have d5:=uO g;have d6:=vL g;have r0:=nw c;have f0:=lQ 0 c;have r1:=rU c;have f1:=lQ 1 c;have r2:=yB c;have f2:=lQ 2 c;have r3:=yg c;have f3:=lQ 3 c;have r4:=vK c;have f4:=lQ 4 c;have r5:=uO c;have f5:=lQ 5 c;have r6:=vL c;have E:=lQ 6 c;have W:=H (uG (by unfold iZ;exact c) (I U 6) (I U 0) (I U 0) (y7 {data:=#[]}) (Z i a j) (Z N 0 0) (Z N 0 0));have V:=H (qu wr w.heap.size (I U 6) (I U 0) (I U 0) (y7 {data:=#[]}) (Z i a j) (Z N 0 0) (Z N 0 0));clear g c;go_wp2;refine aK (v:=Bc #[I U 6,I U 0,I U 0,y7 {data:=#[]},Z i a j,Z N 0 0,Z N 0 0]) ?_ rfl ?_;·exact bk results237 _ _ w.heap.size 67 _ _ _ rfl W bq rfl aG
   have m:=V.o;have P:=h.o.own;rw[aP (by rw[n.o];exact ag _)]at P;refine⟨i,j,rfl,?_,h.bel.t ⟨m.os,m.tape,m.output,m.size,λk hk=>m.block k (aF hk h.bel.size) Y⟩⟩;obtain⟨q,l⟩:=P;refine⟨q,?_⟩;rcases l with l|⟨J,p,ac,e1,e2,M,x⟩;·exact C1 l
   ·exact C2 ⟨J,p,ac,e1,e2,by rw[m.block J (ap M) Y];exact M,x⟩
  ·have al:∃b,t=O ⟨b,0,N⟩/\wr.cell? ⟨b,a,N⟩=O (I U ((e[a]?.getD qx.one).1:Nat)):=by
    rcases S.o.below h.bel with⟨q,l⟩|⟨b,a7,q,l,h3⟩;·have:=n.o;rw[l]at this;simp at this;omega
    ·cases q;exact⟨b,rfl,h3 a (by have:=n.o;omega)⟩
   obtain⟨b,rfl,x⟩:=al;obtain⟨f,y⟩:∃f,e[a]?.getD qx.one=f:=⟨_,rfl⟩;rw[y]at x;have X:=H y;clear y;have a8:w.heap.size+2<=wr.heap.size:=ap g;have s:=λaa=>Qn f.1 f.2.le.1 f.2.le.2 aa;have s:=H s;have T:wt (a<G e):=by unfold Hid;rw[n.o];exact ao
   have a5:(wr.alloc (BV #[I U 4,I U 0,I U 0,y7 (ii f.1),Z N 0 0,Z N 0 0,Z N 0 0] 67)).cell? ⟨w.heap.size+1,4,N⟩=O (Z i a j):=cb (nt _ g);clear g;go_wp2_with fail;go_region_law (first|(refine Te rfl (.tmp 15) 290 3 rfl (I U (f.1:Nat)) (y7 (ii f.1)) rfl (enters_of fW aG rfl) (s _) ?_)|(refine Cy rfl (.tmp 14) (.tmp 18) 29 rfl (w.heap.size+2) 67 i0 _ 7 112 dw hi a2 a3 a4 rfl bF (Z i a j) a _ rfl (h.o.own.drew.alloc _) ⟨wr.heap.size,0,N⟩ 1 1 (cellsOf (zS f.1)) rfl rfl ?hnews ?hone ?h63 ?hby ?hb ?_;(case hnews=>exact Gq (bn wr.drew _));(case hone=>intro a9 Q;simp[cellsOf,zS,Value.cells]at Q;rcases Q with rfl|rfl|rfl|rfl<;>rfl);(case h63=>unfold maxLen;omega);(case hby=>omega);(case hb=>simp;omega);intro v6 R B L _;obtain⟨v,r⟩:=h.o.step T X B L;have r:=H r;have c6:R.cell? ⟨w.heap.size+1,4,N⟩=O (Z i a j):=(cb v);have E:R.frozen? ⟨w.heap.size+1,4,N⟩=CS:=pA v;obtain⟨a6,e6,a1⟩:=ke B;subst a1;clear B L v));all_goals (
    clear c6 E;go_wp2;go_roundw
    case rel=>exact⟨a+1,_,Y,by first|rfl|(congr 1),r⟩
    case measure=>exact eT)
def GX:gj [76,101,110,103,116,104]={data:=#[76,101,110,103,116,104]}:=by rfl
def Ki:gj [70,105,108,116,101,114]={data:=#[70,105,108,116,101,114]}:=by rfl
def og{g i:vz}{l:Option Nat}{b c m k:Nat}{f:wg}{n:List wg}(h:g.ownsRow b c m f k n)(s:g.grownBy i l)(t:∀a,f.ownBlock=O a->l≠O a):i.ownsRow b c m f k n:=by
 obtain⟨q,e⟩:=h;refine⟨q,?_⟩;rcases e with e|⟨a,o,p,e1,e2,j,r⟩;·exact C1 e
 ·exact C2 ⟨a,o,p,e1,e2,by rw[s.block a (ap j) (λc=>t a (by rw[e1];rfl) c.s)];exact j,r⟩
def oD.m{W:vz}{a b:Nat}{g:wg}{f:List qx}(h:oD a W g f)(j:a<=b):oD b W g f:=by
 rcases h with h|⟨i,c,e,l,k⟩;·exact C1 h
 ·exact C2 ⟨i,c,e,aF l j,k⟩
def MX{e:vz}{b k f g s t q r:Nat}{i j:wg}{u v:List wg}(h:e.ownsRow b f s i q u)(l:e.ownsRow k g t j r v)(p:f≠g):∀a,i.ownBlock=O a->j.ownBlock≠O a:=λa n o=>by obtain⟨_,x,z,m⟩:=oQ h a n;obtain⟨_,y,A,c⟩:=oQ l a o;rw[m]at c;simp at c;exact p c.2.1
def sitems(a:Nat)(b:List Nat)(c:Nat):List (VT (a+2)):=(ik (VT (a+1)) 2 (c:Int) 0 []:VT (a+2))::(if b=[]then[]else[namesV a b])
def skeys(a:List Nat):List (List Nat):=[76,101,110,103,116,104]::(if a=[]then[]else[[70,105,108,116,101,114]])
def sdict(a:Nat)(V:f_ (VT (a+2)))(b:Nat):f_ (VT (a+2)):=⟨7,0,0,[],V.items++sitems a V.filters b,V.keys++skeys V.filters,[]⟩
def Ib(a:Int):wg:=Bc #[I U 2,I U a,I U 0,y7 {data:=#[]},Z N 0 0,Z N 0 0,Z N 0 0]
def JI(a:Option wT)(c b:Nat):wg:=Bc #[I U 6,I U 0,I U 0,y7 {data:=#[]},Z a c b,Z N 0 0,Z N 0 0]
def Gw{a b c e f g i:wg}(h:(a.oneCell'&&b.oneCell'&&c.oneCell'&&e.oneCell'&&f.oneCell'&&g.oneCell'&&i.oneCell')=CD):∀k∈cellsOf (Bc #[a,b,c,e,f,g,i]),k.oneCell'=CD:=by intro k j;simp[cellsOf,Value.cells]at j;simp only[a_]at h;rcases j with rfl|rfl|rfl|rfl|rfl|rfl|rfl<;>simp[h]
def Dc{e:vz}{b:Nat}{f g i j k l m:wg}(n:e.heap[b]?=O (BV #[f,g,i,j,k,l,m] 67 (0,0))):∀(a:Nat) (c:wg),(cellsOf (Bc #[f,g,i,j,k,l,m]))[a]?=O c->e.cell? ((⟨b,0,N⟩:wT).add a)=O c:=by intro a c h;rw[sK,cb n];rw[<-h];simp[cellsOf,Value.cells]
def Rr{i:vz}{e b:Nat}{j:Option wT}{k:Nat}{c:List qx}(h:i.ownsRow b 67 7 (Z j (G c) k) (G c) (c.flatMap λa=>cellsOf (zS a.1))):iR (λ_=>True) (e+2) i (JI j (G c) k) (namesV e (c.map λa=>a.1)):=by
 refine⟨Z j (G c) k,Z N 0 0,Z N 0 0,c.map (λa=>zS a.1),rfl,?_,?_,?_,j4.nil _ _ _ _,j4.nil _ _ _ _⟩
 ·show(c.map (λa=>zS a.1)).length=(((c.map λa=>a.1)).map (λf=>(ik (VT e) 4 0 0 (bl (ii f)):VT (e+1)))).length;simp
 ·rw[aq,List.flatMap_map];exact j4.of h (λ_ _=>trivial)
 ·intro n a p g o;have l:(((c.map λa=>a.1)).map (λf=>(ik (VT e) 4 0 0 (bl (ii f)):VT (e+1))))[n]?=O p:=o;rw[aE]at g;rw[aE,aE]at l;cases m:c[n]? with
  |none=>rw[m]at g;cases g
  |some f=>rw[m]at g l;cases g;cases l;have:=iR.leaf (P:=λ_=>True) (w:=i) e 4 0 0 (bl (ii f.1));rw[yN]at this;exact this
def FC{g i:vz}{f b j m l:Nat}{e:wg}{n:List wg}(h:g.ownsRow b j m e l n)(t:iJ f g i)(s:∀a,e.ownBlock=O a->a≠f):i.ownsRow b j m e l n:=by
 obtain⟨q,c⟩:=h;refine⟨q,?_⟩;rcases c with c|⟨a,o,p,e1,e2,k,r⟩;·exact C1 c
 ·exact C2 ⟨a,o,p,e1,e2,by rw[t.block a (ap k) (s a (by rw[e1];rfl))];exact k,r⟩
def Mi{c:vz}(a:Nat)(b:Nat):iR (λ_=>True) (a+2) c (Ib (b:Int)) (ik (VT (a+1)) 2 (b:Int) 0 []):=iR.leaf (P:=λ_=>True) (w:=c) (a+1) 2 (b:Int) 0 []
def NG{h:vz}{c b o:Nat}{a:f_ (VT (c+2))}{j:Nat}{l m:wg}{vs us:List wg}(n:G vs=a.items.length)(u:G us=(sitems c a.filters j).length)
  (s:h.ownsRow b 67 7 l (vs++us).length ((vs++us).flatMap cellsOf)) (t:h.ownsRow o 9 1 m (a.keys++skeys a.filters).length ((a.keys++skeys a.filters).map λx=>y7 (gj x)))
  (q:∀(e:Nat) (g:wg) (f:VT (c+2)),vs[e]?=O g->a.items[e]?=O f->iR (λ_=>True) (c+2) h g f) (r:∀(e:Nat) (g:wg) (f:VT (c+2)),us[e]?=O g->(sitems c a.filters j)[e]?=O f->iR (λ_=>True) (c+2) h g f):iR (λ_=>True) (c+3) h (Bc #[I U 7,I U 0,I U 0,y7 {data:=#[]},l,m,Z N 0 0]) (sdict c a j):=by
 refine⟨l,m,Z N 0 0,vs++us,rfl,?_,j4.of s (λ_ _=>trivial),?_,j4.of t (λ_ _=>trivial),j4.nil _ _ _ _⟩
 ·show _=(a.items++sitems c a.filters j).length;rw[ab,ab,n,u]
 ·intro e g f k v;have i:(a.items++sitems c a.filters j)[e]?=O f:=v;by_cases p:e<G vs
  ·rw[aR p]at k;rw[aR Y]at i;exact q e g f k i
  ·rw[aW Y]at k;rw[aW Y]at i;rw[<-n]at i;exact r _ g f k i
def Ky{K:Nat}{cs:Nat->Prop}{a3:wg}{a:f_ (VT (K+2))}{L:List qx}(hv:iR cs (K+3) w a3 a)(M:a.filters=L.map λq=>q.1)(cy:G L<=100)(c0:a.items.length<=500000)(c1:a.keys.length<=500000)(u:Nat):wh DG 179 #[a3,I U u] w λr d=>∃v',r=BX v'/\iR (λ_=>True) (K+3) d v' (sdict K a u)/\wm w.heap.size w d:=by
 obtain⟨iv,kv,fv,Q,rfl,ad,a2,bb,ba,a9⟩:=hv;have al:wt (G Q=a.items.length):=ad;rw[ad]at a2;obtain⟨v,x,rfl⟩:=ke a2.1;obtain⟨s,t,rfl⟩:=ke ba.1;obtain⟨z,A,rfl⟩:=ke a9.1;unfold nV;obtain⟨is,hs,c2,c3,c4⟩:=bR iS;obtain⟨iz,hz,c6,c7,c8⟩:=bR iV;have aa:∀p∈Q.flatMap cellsOf,p.oneCell'=CD:=λp c=>by obtain⟨q,j,c⟩:=List.mem_flatMap.1 c;obtain⟨e,D,rfl⟩:=cF j;exact(bb e _ (a.items[e]'(by rw[ad]at D;exact D)) (af D) (af (by rw[ad]at D;exact D))).cells.2 p c
 have b8:oD w.heap.size w (Z z a.filters.length A) L:=by
  rcases a9.1.2 with⟨h1,h2⟩|⟨f,ao,ct,e1,e2,g,hn,hm,ds,hc⟩
  ·refine C1 ⟨h1,?_⟩;have h3:(L.map λq=>q.1).length=0:=by rw[<-M];exact h2
   simpa using h3
  ·refine C2 ⟨f,ao,?_,ap g,λe D=>?_⟩
   ·rw[e1];show Z _ a.filters.length ao=_;rw[M,aq]
   ·rw[cb g,<-dG];have dm:e<a.filters.length:=by rw[M,aq];exact D
    rw[<-dq (show e<a.filters.length*1 by omega)];rw[show ct.toList.take (a.filters.length*1)=_ from hc];show(a.filters.map λcv:Nat=>I U cv)[e]?=_;rw[M,aE,aE,af D];simp
 have cl:wt (a.filters.length=G L):=by unfold Hid;rw[M,aq]
 have b4:=H a2;have b7:=H ba;have cr:=H bb;have cn:=H M;have bz:=H b8;have cp:=H aa;obtain⟨m,a1⟩:∃R,R=a.items.length:=⟨_,rfl⟩;obtain⟨i,ac⟩:∃R,R=a.keys.length:=⟨_,rfl⟩;obtain⟨B,a0⟩:∃R,R=a.filters.length:=⟨_,rfl⟩;have EI:=H a1;have EK:=H ac;have EF:=H a0;rw[<-a1]at c0 b4;rw[<-ac]at c1;change wh DG 179 #[Bc #[I U (a.kind:Int),I U a.n,I U (a.places:Int),y7 (gj a.text),Z v a.items.length x,Z s a.keys.length t,Z z a.filters.length A],I U u] w _;rw[<-a1,<-ac,<-a0];have cq:wt (w.ownsRow 0 9 1 (Z s i t) i (a.keys.map λce=>y7 (gj ce))):=by unfold Hid;rw[ac];exact b7.1
 have ck:wt (oD w.heap.size w (Z z B A) L):=by unfold Hid;rw[a0];exact bz
 clear a2 ba a9 bb M b8 aa a1 ac a0 ad b7 bz;have bA:wm w.heap.size w (w.alloc (BV #[I U (a.kind:Int),I U a.n,I U (a.places:Int),y7 (gj a.text),Z v m x,Z s i t,Z z B A] 67)):=(ar _ _).alloc (ag _) _;have bB:=bA.alloc cO (BV #[I U 0,I U 0,I U 0,y7 {data:=#[]},Z N 0 0,Z N 0 0,Z N 0 0] 67);have bC:=bB.alloc eS (BV #[y7 {data:=#[76,101,110,103,116,104]}] 9);have bD:=bC.alloc eS (BV #[Z s i t,Z (O ⟨w.heap.size+1+1,0,N⟩) 1 1] 38);have xA:=bn w (BV #[I U (a.kind:Int),I U a.n,I U (a.places:Int),y7 (gj a.text),Z v m x,Z s i t,Z z B A] 67);have xB:=bn (w.alloc (BV #[I U (a.kind:Int),I U a.n,I U (a.places:Int),y7 (gj a.text),Z v m x,Z s i t,Z z B A] 67)) (BV #[I U 0,I U 0,I U 0,y7 {data:=#[]},Z N 0 0,Z N 0 0,Z N 0 0] 67);have xC:=bn ((w.alloc (BV #[I U (a.kind:Int),I U a.n,I U (a.places:Int),y7 (gj a.text),Z v m x,Z s i t,Z z B A] 67)).alloc (BV #[I U 0,I U 0,I U 0,y7 {data:=#[]},Z N 0 0,Z N 0 0,Z N 0 0] 67)) (BV #[y7 {data:=#[76,101,110,103,116,104]}] 9);have xD:=bn (((w.alloc (BV #[I U (a.kind:Int),I U a.n,I U (a.places:Int),y7 (gj a.text),Z v m x,Z s i t,Z z B A] 67)).alloc (BV #[I U 0,I U 0,I U 0,y7 {data:=#[]},Z N 0 0,Z N 0 0,Z N 0 0] 67)).alloc (BV #[y7 {data:=#[76,101,110,103,116,104]}] 9)) (BV #[Z s i t,Z (O ⟨w.heap.size+1+1,0,N⟩) 1 1] 38);simp only[aV]at xB xC xD;have xA:=nt (BV #[Z s i t,Z (O ⟨w.heap.size+1+1,0,N⟩) 1 1] 38) (nt (BV #[y7 {data:=#[76,101,110,103,116,104]}] 9) (nt (BV #[I U 0,I U 0,I U 0,y7 {data:=#[]},Z N 0 0,Z N 0 0,Z N 0 0] 67) xA));have xB:=nt (BV #[Z s i t,Z (O ⟨w.heap.size+1+1,0,N⟩) 1 1] 38) (nt (BV #[y7 {data:=#[76,101,110,103,116,104]}] 9) xB);have xC:=nt (BV #[Z s i t,Z (O ⟨w.heap.size+1+1,0,N⟩) 1 1] 38) xC;generalize b9:(((w.alloc (BV #[I U (a.kind:Int),I U a.n,I U (a.places:Int),y7 (gj a.text),Z v m x,Z s i t,Z z B A] 67)).alloc (BV #[I U 0,I U 0,I U 0,y7 {data:=#[]},Z N 0 0,Z N 0 0,Z N 0 0] 67)).alloc (BV #[y7 {data:=#[76,101,110,103,116,104]}] 9)).alloc (BV #[Z s i t,Z (O ⟨w.heap.size+1+1,0,N⟩) 1 1] 38)=WD at *;have hc:=H (Pq (c:=2) xD (wK cq bD) (s1:=Z (O ⟨w.heap.size+1+1,0,N⟩) 1 1) (n1:=1) (xs1:=[y7 {data:=#[76,101,110,103,116,104]}]) ⟨rfl,C2 ⟨_,_,_,rfl,aw _,xC,ag _,bF,rfl,rfl⟩⟩ (λp c=>by obtain⟨ce,_,rfl⟩:=cE.1 c;rfl) (λp c=>by simp at c;subst c;rfl) Y Y);have HA:=H xA;have HB:=H xB;have BD:=H bD;have dl:w.heap.size+3<WD.heap.size:=ap xD;clear bA bB bC bD xA xB xC xD;have b9:=b9
 go_in
 go_wp2_with fail;apply hc.o.m;rintro r y ⟨v1,rfl,ca,b1⟩;have cf:=(b1.block _ Y).t HA;have db:=(b1.block (w.heap.size+1) Y).t HB;have B1:=H (BD.t (b1.m BD.size));have dd:=b1.size;have a4:=vK cf;obtain⟨bm,bs,rfl⟩:=ke ca;have O1:=H ca;have bE:wm y.heap.size y (y.alloc (BV #[I U 2,I U u,I U 0,y7 {data:=#[]},Z N 0 0,Z N 0 0,Z N 0 0] 67)):=(ar _ _).alloc (ag _) _;have X:=bE.alloc cO (BV #[Z v m x,Z (O ⟨y.heap.size,0,N⟩) 1 1] 29);have xE:=nt (BV #[Z v m x,Z (O ⟨y.heap.size,0,N⟩) 1 1] 29) (bn y (BV #[I U 2,I U u,I U 0,y7 {data:=#[]},Z N 0 0,Z N 0 0,Z N 0 0] 67));have xF:=bn (y.alloc (BV #[I U 2,I U u,I U 0,y7 {data:=#[]},Z N 0 0,Z N 0 0,Z N 0 0] 67)) (BV #[Z v m x,Z (O ⟨y.heap.size,0,N⟩) 1 1] 29);simp only[aV]at xF;generalize dk:(y.alloc (BV #[I U 2,I U u,I U 0,y7 {data:=#[]},Z N 0 0,Z N 0 0,Z N 0 0] 67)).alloc (BV #[Z v m x,Z (O ⟨y.heap.size,0,N⟩) 1 1] 29)=WF at *;have hc:=H (Pr (c:=2) xF (wK b4.1 (B1.t (X.m B1.size))) (s1:=Z (O ⟨y.heap.size,0,N⟩) 1 1) (n1:=1) (xs1:=cellsOf (Ib u)) ⟨rfl,C2 ⟨_,_,_,rfl,aw _,xE,ag _,bF,rfl,rfl⟩⟩ cp (Gw rfl) Y Y);have da:=H ((X.block _ Y).t cf);have dc:=H ((X.block (w.heap.size+1) Y).t db);have B2:=H (B1.t (X.m B1.size));have O2:=H (wK O1 X);have dg:=X.size;go_wp2_with fail;apply hc.o.m;rintro r w3 ⟨v3,rfl,cc,b3⟩;have bx:=(b3.block _ Y).t da;have l:=(b3.block (w.heap.size+1) Y).t dc;have B3:=H (B2.t (b3.m B2.size));have di:=b3.size;have a6:=vL bx;have T:=H (wK O2 b3);obtain⟨bc,bf,rfl⟩:=ke cc;have V:=H cc;have b2:wt (∀(e:Nat) (q:wg) (p:VT (K+2)),Q[e]?=O q->a.items[e]?=O p->∀a7,wm w.heap.size w a7->iR (λ_=>True) (K+2) a7 q p):=λe q p j c a7 b=>((cr e q p j c).keep _ (λf _ g=>b.block f g)).m _ (λ_ _ _=>trivial);rcases d_ B with h0|h0
 ·subst h0;have S:=H (cD.1 EF.s);have r0:=nw l;have f0:=lQ 0 l;have r1:=rU l;have f1:=lQ 1 l;have r2:=yB l;have f2:=lQ 2 l;have r3:=yg l;have f3:=lQ 3 l;have r4:=vK l;have f4:=lQ 4 l;have r5:=uO l;have f5:=lQ 5 l;have r6:=vL l;have f6:=lQ 6 l;have HS:=H (uG (by unfold iZ;exact l) (I U 7) (I U 0) (I U 0) (y7 {data:=#[]}) (Z bc (m+1) bf) (Z bm (i+1) bs) (Z N 0 0));have HO:=H (qu w3 (w.heap.size+1) (I U 7) (I U 0) (I U 0) (y7 {data:=#[]}) (Z bc (m+1) bf) (Z bm (i+1) bs) (Z N 0 0));clear l;go_wp2;refine aK (v:=Bc #[I U 7,I U 0,I U 0,y7 {data:=#[]},Z bc (m+1) bf,Z bm (i+1) bs,Z N 0 0]) ?_ rfl ?_;·exact bk results179 _ _ (w.heap.size+1) 67 _ _ _ rfl HS bq rfl aG
  have n:=HO.o;have hb:wm w.heap.size w3 _:=⟨n.os,n.tape,n.output,n.size,λk E=>n.block k (aF E B3.size) Y⟩;have hB:=B3.o.t hb;refine⟨_,rfl,NG (vs:=Q) (us:=[Ib u]) al (by unfold sitems;rw[ak S.o];rfl) (FC (by simpa[EI.o,al.o]using V.o) n (λf g=>by have:=(V.lt f g).1;omega)) (FC (by simpa[EK.o,skeys,S.o,GX]using T.o) n (λf g=>by have:=(T.lt f g).1;omega)) (λe q p j c=>b2 e q p j c _ hB) ?_,hB⟩;intro e q p j c;unfold sitems at c;match e,j,c with
  |0,j,c=>cases j;cases c;exact Mi K u
  |e+1,j,c=>simp at j
 ·have S:wt (a.filters≠[]):=λh=>by have:=EF.o;rw[h]at this;simp at this;omega
  have a6:=a6;go_wp2_with (at_builtin;refine aX _ rfl (.tmp 23) (.tmp 24) 38 rfl WD.heap.size 9 is _ 1 16 dz hs c2 c3 c4 rfl bF _ (i+1) _ rfl (T.alloc _) ⟨w3.heap.size,0,N⟩ 1 1 [y7 {data:=#[70,105,108,116,101,114]}] rfl rfl ?hnews ?hone ?h63 ?hby ?hbs ?_)
  case hnews=>
   intro e c9 J;match e,J with
   |0,J=>cases J;rw[sK,cb (bn _ _)];rfl
   |e+1,J=>simp at J
  case hone=>intro c9 J;simp at J;subst J;rfl
  case h63=>unfold maxLen;omega
  case hby=>omega
  case hbs=>simp;omega
  intro v4 w4 bv P _;have F:∀k,k<WD.heap.size->w4.heap[k]?=w3.heap[k]?:=λk E=>by rw[P.block k eS (λr=>by have:=(T.o.lt k r.s).1;omega),fE _ _ _ Y]
  have cg:=(F _ Y).t bx;have ci:=H ((F (w.heap.size+1) Y).t l);have cw:w3.heap.size<=w4.heap.size:=aJ cO P.size;have B4:=H (B3.t ⟨P.os,P.tape,P.output,cw,λk E=>F k Y⟩);have P4:=H (og (V.alloc _) P (λf g r=>MX (V.alloc (BV #[y7 {data:=#[70,105,108,116,101,114]}] 9)) (T.alloc _) bF f g r));have PL:=H (λf g=>V.lt f g);have b6:=vL cg;obtain⟨br,bt,rfl⟩:=ke bv;have O4:=H bv;have b0:=H (T8 (w:=w4) (oD.m (ck.below B4) B4.size) Y (by rw[EF.o,cl.o]));clear bv P F bx l cg T V B3 a6;go_wp2_with fail;apply b0.o.m;rintro r w5 ⟨a5,c5,rfl,cd,W⟩;have cj:=H ((W.block (w.heap.size+1) Y).t ci);have B5:=H (B4.t (W.m B4.size));have O5:=H (wK O4 W);have P5:=H (wK P4 W);have dj:=W.size;have N5:=H cd;obtain⟨NN,a8⟩:∃R,R=G L:=⟨_,rfl⟩;have co:=H a8;rw[<-a8]at N5 cy ⊢;clear a8;clear cd W O4 P4 B4 ci b0 b6;go_wp2_with (at_builtin;refine aX _ rfl (.tmp 26) (.tmp 30) 29 rfl WF.heap.size 67 iz _ 7 112 dw hz c6 c7 c8 rfl bF _ (m+1) _ rfl (P5.alloc _) ⟨w5.heap.size,0,N⟩ 1 1 (cellsOf (JI a5 NN c5)) rfl rfl ?hnews ?hone ?h63 ?hby ?hbs ?_)
  case hnews=>exact Dc (bn _ _)
  case hone=>exact Gw rfl
  case h63=>unfold maxLen;omega
  case hby=>omega
  case hbs=>simp;omega
  intro v6 w6 bw C _;have cx:w5.heap.size<=w6.heap.size:=aJ cO C.size;have F:∀k,k<w5.heap.size->(k<WF.heap.size\/w3.heap.size<=k)->w6.heap[k]?=w5.heap[k]?:=λk E dp=>by rw[C.block k eS (λr=>by have:=PL.o k r.s;omega),fE _ _ _ E]
  have o:=(F (w.heap.size+1) Y Y).t cj;have B6:=H (B5.t ⟨C.os,C.tape,C.output,cx,λk E=>F k Y Y⟩);have O6:=H (og (O5.alloc _) C (λf g r=>MX (O5.alloc (BV #[I U 6,I U 0,I U 0,y7 {data:=#[]},Z a5 NN c5,Z N 0 0,Z N 0 0] 67)) (P5.alloc _) bF f g r));have N6:=H (og (N5.alloc _) C (λf g r=>by have h1:=(N5.lt f g).1;have h2:=PL.o f r;omega));obtain⟨bd,bh,rfl⟩:=ke bw;have P6:=H bw;clear bw C F cj B5 O5 P5 N5;have r0:=nw o;have f0:=lQ 0 o;have r1:=rU o;have f1:=lQ 1 o;have r2:=yB o;have f2:=lQ 2 o;have r3:=yg o;have f3:=lQ 3 o;have r4:=vK o;have f4:=lQ 4 o;have r5:=uO o;have f5:=lQ 5 o;have r6:=vL o;have f6:=lQ 6 o;have HS:=H (uG (by unfold iZ;exact o) (I U 7) (I U 0) (I U 0) (y7 {data:=#[]}) (Z bd (m+1+1) bh) (Z br (i+1+1) bt) (Z N 0 0));have HO:=H (qu w6 (w.heap.size+1) (I U 7) (I U 0) (I U 0) (y7 {data:=#[]}) (Z bd (m+1+1) bh) (Z br (i+1+1) bt) (Z N 0 0));clear o;go_wp2;refine aK (v:=Bc #[I U 7,I U 0,I U 0,y7 {data:=#[]},Z bd (m+1+1) bh,Z br (i+1+1) bt,Z N 0 0]) ?_ rfl ?_;·exact bk results179 _ _ (w.heap.size+1) 67 _ _ _ rfl HS bq rfl aG
  have n:=HO.o;have hb:wm w.heap.size w6 _:=⟨n.os,n.tape,n.output,n.size,λk E=>n.block k (aF E B6.size) Y⟩;have hB:=B6.o.t hb;refine⟨_,rfl,NG (vs:=Q) (us:=[Ib u,JI a5 NN c5]) al (by unfold sitems;rw[aj S.o];rfl) (FC (by simpa[EI.o,al.o]using P6.o) n (λf g=>by have:=(P6.lt f g).1;omega)) (FC (by simpa[EK.o,skeys,S.o,GX,Ki]using O6.o) n (λf g=>by have:=(O6.lt f g).1;omega)) (λe q p j c=>b2 e q p j c _ hB) ?_,hB⟩;intro e q p j c;unfold sitems at c;rw[aj S.o,cn.o]at c;match e,j,c with
  |0,j,c=>cases j;cases c;exact Mi K u
  |1,j,c=>cases j;cases c;have hN:=FC N6 n (λf g=>by have:=(N6.lt f g).1;omega);rw[co.o]at hN ⊢;exact Rr hN
  |e+2,j,c=>simp at j
end
section
variable{w q:vz}{B e:Nat}{m p:wg}{b o:List Nat}
def wstream(j:Nat)(V:f_ (VT (j+2)))(a:List Nat):List Nat:=gT (k:=j+3) (sdict j V (G a))++([10,115,116,114,101,97,109,10]++(a++[10,101,110,100,115,116,114,101,97,109]))
structure Cj(j:Nat)(V:f_ (VT (j+2)))(fs:List qx):Prop where
 fil:V.filters=fs.map λx=>x.1
 few:G fs<=20
 byt:∀x∈V.text,x<256
 items:∀y∈V.items,uN (k:=j+2) y
 keys:∀s∈V.keys,∀x∈s,x<256
 same:V.keys.length=V.items.length
 il:V.items.length<=500000
def nameB_small(a:Nat):(ii a).size<=15/\∀f∈bl (ii a),f<256:=by
 refine⟨?_,λf g=>?_⟩;·unfold ii;split<;>decide
 ·obtain⟨d,c,rfl⟩:=cF g;rw[mC]at c;have:=lJ (ii a) d c;simpa[nth,af (show d<(bl (ii a)).length by rw[mC];exact c)]using this
def Mr{g:Nat}{a:Nat}{c:Int}{h:List Nat}(s:a=2\/a=4)(i : -9223372036854775808<=c/\c<=9223372036854775807)(l:∀r∈h,r<256):uN (k:=g+1) (ik (VT g) a c 0 h):=
 ⟨by show a<=7\/a=9;omega,i,λd=>by have d:a=3:=d;omega,λf=>by have f:a=7:=f;omega,l,λt j=>(by cases j),λu n=>by cases n⟩
def Rs{a:Nat}(d:List Nat):uN (k:=a+2) (namesV a d):=by refine⟨C1 (show(6:Nat)<=7 by omega),by show _<=(0:Int)/\(0:Int)<=_;omega,λh=>by have h:(6:Nat)=3:=h;omega,λh=>by have h:(6:Nat)=7:=h;omega,λr g=>(by cases g),λn f=>(by cases f),λl i=>?_⟩;have j:l∈d.map (λc=>(ik (VT a) 4 0 0 (bl (ii c)):VT (a+1))):=i;obtain⟨c,_,rfl⟩:=cE.1 j;exact Mr (C2 rfl) Y (nameB_small c).2
def Cj.dict{f:Nat}{a:f_ (VT (f+2))}{s:List qx}(h:Cj f a s)(n:Nat)(v:n<=1000000000):uN (k:=f+3) (sdict f a n)/\(sdict f a n).keys.length=(sdict f a n).items.length:=by
 have j:(sdict f a n).keys.length=(sdict f a n).items.length:=by show(a.keys++skeys a.filters).length=(a.items++sitems f a.filters n).length;rw[ab,ab,h.same];unfold skeys sitems;split<;>rfl
 refine⟨⟨C1 (ag 7),by show _<=(0:Int)/\(0:Int)<=_;omega,λh=>by have h:(7:Nat)=3:=h;omega,λ_=>j,λi g=>(by cases g),λl t i g=>?_,λr u=>?_⟩,j⟩
 ·have c:l∈a.keys++skeys a.filters:=t;rcases aZ.1 c with c|c;·exact h.keys l c i g
  ·unfold skeys at c;rcases cJ.1 c with rfl|c;·simp at g;omega
   ·split at c;·cases c
    ·simp at c;subst c;simp at g;omega
 ·have d:r∈a.items++sitems f a.filters n:=u;rcases aZ.1 d with d|d;·exact h.items r d
  ·unfold sitems at d;rcases cJ.1 d with rfl|d;·exact Mr (C1 rfl) Y (λi g=>by cases g)
   ·split at d;·cases d
    ·simp at d;subst d;exact Rs _
def sum_le{α:Type}(d:α->Nat)(c:Nat):∀(a:List α),(∀f∈a,d f<=c)->(a.map d).sum<=c*G a
 | [],_=>cO
 |g::a,h=>by have j:=h g (bU ..);have k:=sum_le d c a (λf i=>h f (cu _ i));simp only[bM,cT,ai,Nat.mul_add,Nat.mul_one];omega
def Cj.wlen{a:Nat}{c:f_ (VT (a+2))}{j:List qx}(h:Cj a c j)(n:Nat):gV (k:=a+3) (sdict a c n)<=gV (k:=a+3) c+8000:=by
 have u:gV (k:=a+2) (namesV a c.filters)<=100+170*G j:=by
  have l:(f_.items (α:=VT (a+1)) (namesV a c.filters)).length=G j:=by show(c.filters.map (λg=>(ik (VT a) 4 0 0 (bl (ii g)):VT (a+1)))).length=_;rw[aq,h.fil,aq]
  have:=sum_le (λd:VT (a+1)=>10+gV (k:=a+1) d) 170 (f_.items (α:=VT (a+1)) (namesV a c.filters)) (λd f=>by have r:d∈c.filters.map (λg=>(ik (VT a) 4 0 0 (bl (ii g)):VT (a+1))):=f;obtain⟨g,_,rfl⟩:=cE.1 r;show 10+(100+4*(bl (ii g)).length+0+0)<=170;rw[mC];have:=(nameB_small g).1;omega)
  rw[l]at this;show 100+4*0+((f_.items (α:=VT (a+1)) (namesV a c.filters)).map λd=>10+gV (k:=a+1) d).sum+0<=_;omega
 have v:=h.few;show 100+4*0+((c.items++sitems a c.filters n).map λd=>10+gV (k:=a+2) d).sum+((c.keys++skeys c.filters).map λi=>10+3*G i).sum<=100+4*c.text.length+(c.items.map λd=>10+gV (k:=a+2) d).sum+(c.keys.map λi=>10+3*G i).sum+8000;rw[aI,aI,List.sum_append,List.sum_append];have s:((sitems a c.filters n).map λd=>10+gV (k:=a+2) d).sum<=7040:=by
  have l:(sitems a c.filters n).length<=2:=by
   unfold sitems;split;·exact(show 1<=2 by omega)
   ·exact ag 2
  have:=sum_le (λd:VT (a+2)=>10+gV (k:=a+2) d) 3520 (sitems a c.filters n) (λd f=>by
   unfold sitems at f;rcases cJ.1 f with rfl|f;·show 10+(100+4*0+0+0)<=3520;omega
   ·split at f;·cases f
    ·simp at f;subst f;omega)
  have:=Nat.mul_le_mul_left 3520 l;omega
 have t:((skeys c.filters).map λi=>10+3*G i).sum<=56:=by unfold skeys;rw[bM,cT];split<;>simp
 omega
def Cj.fils{l:Nat}{a:f_ (VT (l+2))}{d:List qx}(h:Cj l a d){n:Nat->Prop}{f:Option wT}{g:Nat}(z:j4 n w 3 1 (Z f a.filters.length g) a.filters.length (a.filters.map λs:Nat=>I U s)):oD w.heap.size w (Z f a.filters.length g) d:=by
 have c:=h.fil;rcases z.1.2 with⟨u,v⟩|⟨t,r,C,e1,e2,i,F,E,J,y⟩
 ·refine C1 ⟨u,?_⟩;have x:(d.map λA=>A.1).length=0:=by rw[<-c];exact v
  simpa using x
 ·refine C2 ⟨t,r,?_,ap i,λk j=>?_⟩;·rw[e1,c,aq]
  ·rw[cb i,<-dG];have D:k<a.filters.length:=by rw[c,aq];exact j
   rw[<-dq (show k<a.filters.length*1 by omega),y,c,aE,aE,af j];simp
end
section
variable{w:vz}
def lN(b:List Nat)(n a:Nat):List Nat:=[47,76,101,110,103,116,104,32]++(gU (n:Int)++(if a=0 then[]else[32,47,70,105,108,116,101,114,32,91]++gY ((b.take a).map λf=>47::bl (ii f))))
def jq(a:List Nat)(b:Nat):List Nat:=lN a b (G a)++(if a=[]then[]else[93])
def Fd(a b:List (List Nat)):gY (a++b)=gY a++((if a=[]\/b=[]then[]else[32])++gY b):=by
 cases a with
 |nil=>simp[gY]
 |cons c a=>
  cases b with
  |nil=>simp[gY]
  |cons d b=>simp[gY]
def Ff{a:Nat}(h:1<=a/\a<=4):gN (bl (ii a))=47::bl (ii a):=by rcases(by omega:a=1\/a=2\/a=3\/a=4)with rfl|rfl|rfl|rfl<;>decide +kernel
def uw{a:Nat}(h:1<=a/\a<=4):fname a=ii a:=by rcases(by omega:a=1\/a=2\/a=3\/a=4)with rfl|rfl|rfl|rfl<;>rfl
def Fi{k:Nat}(a:f_ (VT k))(h:a.keys.length=a.items.length):(gj (wpairs a a.keys.length)).size=0↔(a.keys.zip a.items).map (λc=>gN c.1++(32::gT c.2))=[]:=by
 rw[lu,wpairs_all a h,List.map_eq_nil_iff];constructor
 ·intro b;cases d:a.keys.zip a.items with
  |nil=>rfl
  |cons c e=>rw[d]at b;simp[gY,gN]at b
 ·intro b;rw[b];rfl
def qv(a:Nat)(V:f_ (VT (a+2)))(d:Nat)(h:V.keys.length=V.items.length)(u:∀c∈V.filters,1<=c/\c<=4):gj (gT (k:=a+3) (sdict a V d))=tA (gj (wpairs V V.keys.length)) (gj (jq V.filters d)):=by
 have e1:gT (k:=a+3) (sdict a V d)=60::60::(gY (((V.keys++skeys V.filters).zip (V.items++sitems a V.filters d)).map λg=>gN g.1++(32::gT g.2))++[62,62]):=rfl;rw[e1,List.zip_append h,aI,Fd];have e2:gY (((skeys V.filters).zip (sitems a V.filters d)).map λg=>gN g.1++(32::gT g.2))=jq V.filters d:=by
  have n:gN [76,101,110,103,116,104]=[47,76,101,110,103,116,104]:=by decide +kernel
  have v:gN [70,105,108,116,101,114]=[47,70,105,108,116,101,114]:=by decide +kernel
  have p:gT (k:=a+2) (ik (VT (a+1)) 2 (d:Int) 0 [])=gU (d:Int):=rfl;unfold skeys sitems jq lN;by_cases f:V.filters=[]
  ·rw[ak f,ak f,ak f,f];show gN [76,101,110,103,116,104]++(32::gT (k:=a+2) (ik (VT (a+1)) 2 (d:Int) 0 []))++[]=_;rw[n,p];simp
  ·have y:V.filters.length≠0:=λq=>f (cD.1 q);rw[aj f,aj f,aj f,aj y,dE];show gN [76,101,110,103,116,104]++(32::gT (k:=a+2) (ik (VT (a+1)) 2 (d:Int) 0 []))++(32::(gN [70,105,108,116,101,114]++(32::gT (k:=a+2) (namesV a V.filters)))++[])=_;have A:gT (k:=a+2) (namesV a V.filters)=91::(gY (V.filters.map λc=>47::bl (ii c))++[93]):=by
    show 91::(gY ((V.filters.map (λc=>(ik (VT a) 4 0 0 (bl (ii c)):VT (a+1)))).map λj=>gT (k:=a+1) j)++[93])=_;have z:∀e:List Nat,(∀c∈e,1<=c/\c<=4)->((e.map (λc=>(ik (VT a) 4 0 0 (bl (ii c)):VT (a+1)))).map λj=>gT (k:=a+1) j)=e.map λc=>47::bl (ii c):=by
     intro e;induction e with
     |nil=>intro _;rfl
     |cons c e B=>intro m;show gN (bl (ii c))::((e.map (λc=>(ik (VT a) 4 0 0 (bl (ii c)):VT (a+1)))).map λj=>gT (k:=a+1) j)=(47::bl (ii c))::(e.map λc=>47::bl (ii c));rw[Ff (m c cO),B (λt x=>m t (by simp[x]))]
    exact cX (λC=>91::(gY C++[93])) (z V.filters u)
   rw[n,p,v,A];simp
 have r:((skeys V.filters).zip (sitems a V.filters d)).map (λg=>gN g.1++(32::gT g.2))≠[]:=by unfold skeys sitems;simp
 have s:(gj (jq V.filters d)).size≠0:=by rw[lu];unfold jq lN;simp
 rw[e2];unfold tA;have o:=Fi V h;by_cases l:(gj (wpairs V V.keys.length)).size=0
 ·rw[ak (C1 (o.1 l)),ak (C1 l),Jd,<-wpairs_all V h];rw[show ∀i b:List Nat,60::60::(i++([]++b)++[62,62])=[60,60]++i++b++[62,62]from λi b=>cO,pE,pE,pE];rfl
 ·rw[aj (λh=>h.elim (λh=>l (o.2 h)) r),aj (λh=>h.elim l s),<-wpairs_all V h];rw[show ∀i b:List Nat,60::60::(i++([32]++b)++[62,62])=[60,60]++(i++[32])++b++[62,62]from λi b=>cO,pE,pE,pE,pE];rfl
def u_{b:List Nat}{n a f:Nat}(h:b[a]?=O f):lN b n (a+1)=lN b n a++((if a=0 then[32,47,70,105,108,116,101,114,32,91]else[32])++(47::bl (ii f))):=by
 unfold lN;rw[aj (Nat.succ_ne_zero a),wjoin_take (λf=>47::bl (ii f)) b a f h];by_cases c:a=0
 ·subst c;simp[gY]
 ·rw[aj c,aj c,aj c];simp
def wmore_len(a:List Nat)(n b:Nat)(k:n<=1000000)(j:G a<=20):(lN a n b).length<=1000:=by
 unfold lN;have e:=jp (n:=(n:Int)) Y Y;have c:=mQ ((a.take b).map λf=>47::bl (ii f));rw[dy]at c;have h:=oB (f:=(λd:List Nat=>G d+1) ∘ λf=>47::bl (ii f)) (g:=λ_=>20) (a.take b) (λf _=>by have:=(nameB_small f).1;simp only[Function.comp,ai,mC];omega)
 have i:((a.take b).map λ_=>20).sum<=400:=by rw[List.map_const',List.sum_replicate_nat,ax];omega
 simp only[ab,ai,aB];split;·simp only[aB];omega
 ·simp only[ab,ai,aB];omega
def QN{j:Nat}{a0:Nat->Prop}{ad:wg}{V:f_ (VT (j+2))}(W:ku a0 (j+3) w ad (nX (j+3) V))(y:∀g,a0 g->g<w.heap.size)(B:V.keys.length=V.items.length)(T:∀t∈V.items,uN t)(a5:∀r∈V.keys,∀b1∈r,b1<256)(a7:∀r∈V.keys,G r<=1000000)(ba:∀t∈V.items,CP t)(a8:gV (k:=j+3) V<=400000000)(a6:V.kind=8)(A:∀d∈V.filters,1<=d/\d<=4)(bw:V.filters.length<=20)(c:ByteArray)(hD:c.size<=1000000):wh DG 53 #[ad,y7 c] w λl w'=>l=BX (y7 (gj (wstream j V (bl c))))/\wm w.heap.size w w':=by
 have ao:wt (∀a,(lN V.filters c.size a).length<=1000):=λa=>wmore_len _ _ _ hD bw;have bs:(gj (jq V.filters c.size)).size<=1001:=by
  rw[lu];unfold jq;have:=ao.o V.filters.length;rw[ab];split;·simp only[aB];omega
  ·simp only[ai,aB];omega
 have D:wt (∀p:vz,wm w.heap.size w p->wh DG 88 #[ad,y7 (gj (jq V.filters c.size))] p λl w'=>l=BX (y7 (gj (gT (k:=j+3) (sdict j V c.size))))/\wm p.heap.size p w'):=λp b=>by rw[qv j V c.size B A];exact LY (Hz _) (ku.keep (j+3) W (λg S _=>b.block g (y g S))) (λg S=>aF (y g S) b.size) B T a5 a7 ba a8 _ Y
 have b2:(gj (gT (k:=j+3) (sdict j V c.size))).size<=400002000:=by
  rw[qv j V c.size B A];unfold tA;rw[ByteArray.size_append,ByteArray.size_append,ByteArray.size_append,ByteArray.size_append];have h1:=wpairs_len T V.keys.length;have:gV (k:=j+3) V=100+4*V.text.length+(V.items.map λt=>10+gV t).sum+(V.keys.map λr=>10+3*G r).sum:=rfl;have h2:(gj (wpairs V V.keys.length)).size=(wpairs V V.keys.length).length:=lu _;have h3:(if(gj (wpairs V V.keys.length)).size=0\/(gj (jq V.filters c.size)).size=0 then({data:=#[]}:ByteArray)else{data:=#[32]}).size<=1:=by split<;>decide
  have h4:({data:=#[60,60]}:ByteArray).size=2:=rfl;have h5:({data:=#[62,62]}:ByteArray).size=2:=rfl;omega
 obtain⟨M,R⟩:∃M,gj (wstream j V (bl c))=M:=⟨_,rfl⟩;rw[R];have HZ:wt (gj (gT (k:=j+3) (sdict j V c.size))++{data:=#[10,115,116,114,101,97,109,10]}++c++{data:=#[10,101,110,100,115,116,114,101,97,109]}=M):=by unfold Hid;rw[<-R];unfold wstream;rw[mC,pE,pE,pE,yN];simp only[ByteArray.append_assoc];rfl
 obtain⟨ia,ic,ka,kc,P,Q,rfl,bt,bv,a2⟩:=W.splitV;have bb:=H a2;have bc:=H A;have bh:=H y;rw[a6,show((8:Nat):Int)=8 from rfl]at D ⊢;have al:wt (∀a,a=V.filters.length->gj (jq V.filters c.size)=gj (lN V.filters c.size a)++gj (if a=0 then[]else[93])):=λa i=>by
  rw[<-pE,i];unfold jq;by_cases e:V.filters=[];·rw[ak e,ak (by rw[e];rfl)]
  ·rw[aj e,aj (λh=>e (cD.1 h))]
 obtain⟨x,a1⟩:∃x,gj (jq V.filters c.size)=x:=⟨_,rfl⟩;rw[a1]at D al bs;generalize gj (gT (k:=j+3) (sdict j V c.size))=DD at *;generalize V.items.length=ac at *;generalize V.keys.length=nk at *;generalize V.n=nn at *;generalize (V.places:Int)=pp at *;generalize gj V.text=tx at *;generalize a9:V.filters.length=o at *;have bf:=H a9;have m:=H ((ar w.heap.size w).alloc (ag _) (BV #[I U (8:Int),I U nn,I U pp,y7 tx,Z ia ac ic,Z ka nk kc,Z P o Q] 67));have L:=bn w (BV #[I U (8:Int),I U nn,I U pp,y7 tx,Z ia ac ic,Z ka nk kc,Z P o Q] 67);obtain⟨s,X⟩:∃s,w.alloc (BV #[I U (8:Int),I U nn,I U pp,y7 tx,Z ia ac ic,Z ka nk kc,Z P o Q] 67)=s:=⟨_,rfl⟩;rw[X]at m L;have HX:=H L;have br:=H X;have bd:=H (IA (c.size:Int) Y Y);have bm:wt ({data:=#[47,76,101,110,103,116,104,32]}++gj (gU (c.size:Int))=gj (lN V.filters c.size 0)):=by unfold Hid lN;rw[ak rfl,bP,pE];rfl
 have b4:(gj (gU (c.size:Int))).size<=20:=by rw[lu];exact jp Y Y
 generalize gj (gU (c.size:Int))=IN at *;clear W a8 bt bv a2 R y B a6 T a5 a7 ba A L X a1 a9
 go_in
 go_wp2_with fail;rw[br.o];apply(bd _).m;rintro l w2 ⟨rfl,f⟩;have f:=f.s;subst f;go_wp2_with fail;go_loopw [7,8] (λsv iv wr=>∃(a:Nat) (n:ByteArray),a<=o/\iv=I U a/\sv=y7 n/\wt (n=gj (lN V.filters c.size a))/\wr=s) (λ_ iv _=>o-(intOf iv).toNat)
 case atStart=>exact⟨0,_,aw _,rfl,rfl,bm,rfl⟩
 case round=>
  obtain⟨a,n,i,rfl,rfl,K,aa⟩:=hrel;have aa:=aa.s;subst aa;have b6:n.size<=1000:=by rw[K.o,lu];exact ao a
  have c6:=vL HX;rcases aC i with i|i
  ·subst i;have bz:¬(a:Int)<(a:Int):=Y;have J:=H (al a rfl);rw[<-K.o]at J;have u:=H (D s m);obtain⟨d0,d1,d2,d3,d4,d5⟩:=I9 HX;by_cases e:a=0
   ·have hq:¬(0:Int)<(a:Int):=Y;have F:wt (x=n):=by unfold Hid;rw[J.o,ak e,show gj []=ByteArray.empty from rfl,ByteArray.append_empty]
    rw[F.o]at u;clear e i;go_wp2_with fail;apply u.o.m;rintro l w3 ⟨rfl,q⟩;have C:=H (m.t (q.m m.size));clear q;go_wp2;go_ret;exact⟨by rw[<-HZ.o];rfl,C⟩
   ·have hq:(0:Int)<(a:Int):=Y;have F:wt (x=n++{data:=#[93]}):=by unfold Hid;rw[J.o,aj e];rfl
    rw[F.o]at u;clear e i;go_wp2_with fail;apply u.o.m;rintro l w3 ⟨rfl,q⟩;have C:=H (m.t (q.m m.size));clear q;go_wp2;go_ret;exact⟨by rw[<-HZ.o];rfl,C⟩
  ·obtain⟨d,z⟩:∃d,V.filters[a]?=O d:=⟨_,af (by rw[bf.o];exact i)⟩;have bz:(a:Int)<(o:Int):=Y;obtain⟨g,b0,rfl,bx,a4⟩:=bb.o a d z;have a3:=bc.o d (aQ z);have q1:s.cell? ⟨g,b0+a,N⟩=O (I U d):=by rw[m.o.cell (bh.o g bx)];exact a4
   have E:=H (JV d Y);rw[uw a3]at E;have b5:=(nameB_small d).1;have v:wt (n++gj (if a=0 then[32,47,70,105,108,116,101,114,32,91]else[32])++{data:=#[47]}++ii d=gj (lN V.filters c.size (a+1))):=by unfold Hid;rw[u_ z,K.o,pE,pE,show gj (47::bl (ii d))={data:=#[47]}++ii d from by rw[show(47::bl (ii d))=[47]++bl (ii d)from rfl,pE,yN];rfl];simp only[ByteArray.append_assoc]
   generalize ii d=NB at *;clear a4 z a3;by_cases e:a=0
   ·have e0:((a:Int)==0)=CD:=eS;rw[ak e]at v;clear e;go_wp2_with fail;apply(E _).m;rintro l w3 ⟨rfl,f⟩;have f:=f.s;subst f;go_wp2;go_roundw
    case rel=>exact⟨a+1,_,Y,by go_num,rfl,v,trivial⟩
    case measure=>exact eT
   ·have e0:((a:Int)==0)=CS:=eS;rw[aj e]at v;go_wp2_with fail;apply(E _).m;rintro l w3 ⟨rfl,f⟩;have f:=f.s;subst f;go_wp2;go_roundw
    case rel=>exact⟨a+1,_,Y,by go_num,rfl,v,trivial⟩
    case measure=>exact eT
end
section
variable{w p:vz}{B m:Nat}{s q:wg}{f r:List Nat}
def qU.outk{l v S:wg}{g Q R:List Nat}(h:qU w l g)(j:jg B m w s q f r)(k:iP B m w p)(ho2:jg B m p v S Q R)(M:0<G g->∀e,l.ownBlock=O e->s.ownBlock≠O e):qU p l g/\(0<G g->∀e,l.ownBlock=O e->v.ownBlock≠O e):=by
 obtain⟨⟨y,C,rfl,K,E⟩,F⟩:=h;have A:∀c,c<G g->∃b d,y=O ⟨b,d,N⟩/\b<p.heap.size/\p.cell? ⟨b,d+c,N⟩=O (I .u8 (nth g c:Nat))/\v.ownBlock≠O b:=λc u=>by
  obtain⟨b,d,rfl,o,a⟩:=K c u;have J:b≠m:=by
   rintro rfl;rw[cb j.blk]at a;obtain⟨V,X,e1⟩:=ke j.oo;obtain⟨W,c2,e2⟩:=ke j.po;rw[e1,e2]at a;generalize d+c=T at a;match T,a with
   |0,a=>simp at a
   |1,a=>simp at a
   |n+2,a=>simp at a
  obtain⟨x,z⟩:∃x,w.heap[b]?=O x:=⟨_,bX o⟩;have t:=k.prot j.lt b x z J (λP=>M Y b rfl ((xk.of j.blk).1 P));refine⟨b,d,rfl,ap t.1,?_,λi=>t.2 ((xk.of ho2.blk).2 i)⟩;rw[<-a];exact World.cell?_of_block (w:=w) (t.1.t z.s)
 refine⟨⟨⟨y,C,rfl,λc u=>?_,E⟩,F⟩,λD e L=>?_⟩
 ·obtain⟨b,d,i,o,a,_⟩:=A c u;exact⟨b,d,i,o,a⟩
 ·obtain⟨b,d,i,_,_,a⟩:=A 0 D;subst i;cases L;exact a
def qU.news{g:wT}{k n:Nat}{c:List Nat}(h:qU w (Z (O g) k n) c):k=G c/\(∀(a:Nat) (e:wg),(nU c)[a]?=O e->w.cell? (g.add a)=O e):=by
 obtain⟨⟨u,v,d,t,x⟩,z⟩:=h;cases d;refine⟨rfl,λa e j=>?_⟩;have i:a<G c:=by have:=(ay.1 j).1;simpa[nU]using this
 obtain⟨b,l,d,y,o⟩:=t a i;cases d;have e2:(⟨b,l,N⟩:wT).add a=⟨b,l+a,N⟩:=by unfold Addr.add;split<;>simp_all
 rw[e2,o,<-j];simp[nU,nth,af i]
def Uu{d Ev v:Nat}{EE:Nat->List Nat->List Nat->Prop}(hE:ve EE v)(cv:v<=1000000)(he:pR Ev w)(a0:Ev<=B)(h:jg B m w s q f r){b4:Nat->Prop}{a:f_ (VT (d+2))}{bc:wg}{fs:List qx}(hv:iR b4 (d+3) w bc a)(aa:Cj d a fs)(hM:2^(G fs)*(a.text.length+36)<=2*v)(a1:a.text.length<=v)(c1:G f+gV (k:=d+3) a+10000+2*v<=500000000):wh DG 131 #[A3 (O ⟨m,0,N⟩),bc] w λe p=>∃ba,(∃c,mi EE a.filters a.text c/\G c+36<=2^(G fs)*(a.text.length+36)/\(∀bd∈c,bd<256)/\ba=wstream d a c)/\mZ B m w q f r ba e p:=by
 obtain⟨i1,gi,b6,b7,b8⟩:=bR infoByte;have HV:=H hv;obtain⟨iv,kv,fv,vs,rfl,cq,a9,c2,co,a8⟩:=hv;rw[cq]at a9;obtain⟨y,z,rfl⟩:=ke a9.1;obtain⟨A,C,rfl⟩:=ke co.1;obtain⟨F,J,rfl⟩:=ke a8.1;obtain⟨va,vc,ck⟩:=ke h.oo;subst ck;have b9:=aa.fils a8;have g:=H aa;have bs:=H (And.intro hM a1);have HH:=H h;have br:=H he;have cs:(w.alloc (BV #[I U (a.kind:Int),I U a.n,I U (a.places:Int),y7 (gj a.text),Z y a.items.length z,Z A a.keys.length C,Z F a.filters.length J] 67)).heap[w.heap.size]?=O (BV #[I U (a.kind:Int),I U a.n,I U (a.places:Int),y7 (gj a.text),Z y a.items.length z,Z A a.keys.length C,Z F a.filters.length J] 67 (0,0)):=bn _ _;have b0:wm w.heap.size w (w.alloc (BV #[I U (a.kind:Int),I U a.n,I U (a.places:Int),y7 (gj a.text),Z y a.items.length z,Z A a.keys.length C,Z F a.filters.length J] 67)):=(ar _ _).alloc (ag _) _;have bx:=H (Sd hE (w:=w.alloc (BV #[I U (a.kind:Int),I U a.n,I U (a.places:Int),y7 (gj a.text),Z y a.items.length z,Z A a.keys.length C,Z F a.filters.length J] 67)) aa.byt Y (oD.m (b9.below b0) cO) aa.few hM a1 (kd:=a.kind) (nn:=a.n) (pp:=a.places) (ia:=y) (ka:=A) (ni:=a.items.length) (ic:=z) (nk:=a.keys.length) (kc:=C));unfold nV
 go_in
 go_wp2_with fail;apply bx.o.m;rintro e w1 ⟨dv,c,rfl,W,cj,b1,cn,cc⟩;have ct:=(b1.block w.heap.size cO).t cs;obtain⟨d0,d1,d2,d3,d4,d5,d6⟩:=A5 ct;have ao:=b0.t (b1.m cO);have T:=(HH.alloc (BV #[I U (a.kind:Int),I U a.n,I U (a.places:Int),y7 (gj a.text),Z y a.items.length z,Z A a.keys.length C,Z F a.filters.length J] 67)).below b1;have K1:=H (iP.of_below (B:=B) (bf:=m) (b:=0) ao);have cw:G c<=2*v:=by have:=bs.o.1;omega
 have bz:=H (Ky (w:=w1) (HV.keep _ (λu _ hg=>ao.block u hg)) g.fil (by have:=g.o.few;omega) g.il (by rw[g.o.same];exact g.il) (G c));have ci:0<G c->∀u,dv.ownBlock=O u->(Z va (G f) vc).ownBlock≠O u:=λ_ u hg he=>by have T:=cj u hg;have K:=(HH.o.oo.lt u he).2;simp at T;omega
 obtain⟨da,dc,rfl,ce⟩:=W.sl;have al:=H ce;have bt:=H ci;have bm:=H W;have Q:=H (And.intro cn cc);have H1:=H T;go_wp2_with fail;apply bz.o.m;rintro e w2 ⟨v',rfl,cf,b2⟩;have K:=H1.o.below b2;have K2:=H (K1.t (iP.of_below (b:=0) b2));have bh:=H (bm.below b2);have c3:=g.o.wlen (G c);have HD:=H (Ks (Hg (d+2)) (br.o.outk a0 HH K2) a0 K cf (g.dict (G c) Y).1 (g.dict (G c) Y).2 Y);have H2:=H K;go_wp2_with fail;apply HD.o.m;intro e w3 a7;change mZ B m w2 q f r (gT (k:=d+3) (sdict d a (G c))) e w3 at a7;obtain⟨rfl,c4,h3,k3⟩:=a7;obtain⟨M,S⟩:=bh.o.outk H2 k3 h3 bt;have cx:=mM (g.dict (G c) Y).1;have cy:(f++gT (k:=d+3) (sdict d a (G c))).length<=G f+gV (k:=d+3) a+8000:=by rw[ab];omega
 have i:=H (nP h3 {data:=#[10,115,116,114,101,97,109,10]} (by show _+8<=_;omega));have K3:=H (K2.t k3);have M:=H M;have S:=H S;have H3:=H h3;generalize a2:f++gT (k:=d+3) (sdict d a (G c))=O3 at *;go_wp2_with fail;apply i.o.m;rintro e w4 ⟨rfl,c5,L,k4⟩;have cg:(O3++bl {data:=#[10,115,116,114,101,97,109,10]}).length=G O3+8:=by rw[ab];rfl
 obtain⟨E,b3⟩:=M.o.outk H3 k4 L S;have K4:=H (K3.t k4);have E:=H E;obtain⟨oa,oc,cl⟩:=ke L.oo;subst cl;have D:=L.blk;have c0:=nw D;have f0:=lQ 0 D;have j:=H L;clear L k4 i K3 M S H3 b3;generalize a3:O3++bl {data:=#[10,115,116,114,101,97,109,10]}=t at *;have ca:=j.o.bw;have P:wt (G t+2*v+1000<=500000000):=by unfold Hid;omega
 clear cg;cases da with
 |none=>
  have ac:G c=0:=by obtain⟨_,T,_,K⟩:=al.o;have:=K rfl;omega
  have a5:=al.o.2.2.2 rfl;rw[ac,a5];have cd:=cD.1 ac;have l:=j.o.set (iP.refl _ _ _) D (λu e=>C1 e) j.o.oo;clear ac a5;have l:jg B m (w4.setCell ⟨m,0,N⟩ (Z oa (G t) oc)) (Z oa (G t) oc) q (t++c) r/\iP B m w4 (w4.setCell ⟨m,0,N⟩ (Z oa (G t) oc)):=by rw[cd,bP];exact l
  go_wp2_with (at_builtin;refine wpList_append_own_none rfl (.tmp 20) (.tmp 21) 23 rfl B 5 i1 1 az gi _ (G t) _ rfl j.o.oo rfl ?_);have i:=H (nP l.1 {data:=#[10,101,110,100,115,116,114,101,97,109]} (by have:=P.o;show _+10<=_;rw[ab];omega));rw[World.size_setCell]at i;have R:=H (K4.t l.2);clear D l;apply i.o.m;rintro e w7 ⟨rfl,ad,V,k7⟩;have H7:=H V;have K7:=H (R.t k7);clear V k7 i R;go_wp2
  go_end0
  refine⟨_,⟨c,by rw[g.o.fil];exact Q.1,Q.2,E.byt,rfl⟩,rfl,ad,?_,K7⟩;have x:=H7.o;rw[<-a3,<-a2]at x;unfold wstream;simp only[au]at x ⊢;exact x
 |some b5=>
  obtain⟨_,X⟩:=E.o.news;have bv:=H X;clear X;go_wp2_with (at_builtin;refine rW _ rfl (.tmp 20) (.tmp 21) 23 rfl B 5 i1 (I .u8 0) 1 1 az gi b6 b7 b8 rfl bF _ (G t) _ rfl j.o.oo b5 (G c) dc (nU c) rfl (by simp[nU]) ?hnews ?hone ?h63 ?hby ?hbs ?_)
  case hnews=>exact bv
  case hone=>intro c7 hu;obtain⟨bd,_,rfl⟩:=cE.1 hu;rfl
  case h63=>have:=P.o;unfold maxLen;omega
  case hby=>have:=P.o;omega
  case hbs=>exact ca
  intro v6 w6 bb a6 cr;have a4:w6.heap[m]?=O (BV #[Z oa (G t) oc,q] 122 (0,0)):=by rw[a6.block m (ap D) (λe=>j.o.ne m e.s rfl)];exact D
  have l:=j.o.grow (iP.refl _ _ _) rfl j.o.oo a6 cr bb rfl;obtain⟨c8,c9,cp⟩:=ke bb;subst cp;have c6:=nw a4;have f6:=lQ 0 a4;have i:=H (nP l.1 {data:=#[10,101,110,100,115,116,114,101,97,109]} (by have:=P.o;show _+10<=_;rw[ab];omega));rw[World.size_setCell]at i;have R:=H (K4.t l.2);go_wp2_with fail;apply i.o.m;rintro e w7 ⟨rfl,ad,V,k7⟩;have H7:=H V;have K7:=H (R.t k7);go_wp2
  go_end0
  refine⟨_,⟨c,by rw[g.o.fil];exact Q.1,Q.2,E.byt,rfl⟩,rfl,ad,?_,K7⟩;have x:=H7.o;rw[<-a3,<-a2]at x;unfold wstream;simp only[au]at x ⊢;exact x
end
def jb(a:Nat)(b:List Nat):List Nat:=wohead (a:Int)++(b++[10,101,110,100,111,98,106,10])
def gD:List (List Nat)->Nat->List Nat
 | [],_=>[]
 |b::a,n=>jb n b++gD a (n+1)
def g8:List (List Nat)->Nat->Nat->List Nat
 | [],_,_=>[]
 |c::b,a,n=>a::g8 b (a+(jb n c).length) (n+1)
def qH(c:List Nat):∀(b:List (List Nat)) (a:Nat),gD (b++[c]) a=gD b a++jb (a+G b) c
 | [],a=>by simp[gD]
 |d::b,a=>by show jb a d++gD (b++[c]) (a+1)=(jb a d++gD b (a+1))++jb (a+(G b+1)) c;rw[qH c b (a+1),au,eO a 1,Nat.add_comm 1]
def pN(e:List Nat):∀(c:List (List Nat)) (b a:Nat),g8 (c++[e]) b a=g8 c b a++[b+(gD c a).length]
 | [],b,a=>by simp[g8,gD]
 |d::c,b,a=>by show b::g8 (c++[e]) (b+(jb a d).length) (a+1)=(b::g8 c (b+(jb a d).length) (a+1))++[b+(jb a d++gD c (a+1)).length];rw[pN e c,ab,eO];rfl
def jJ:∀(a:List (List Nat)) (c b:Nat),(g8 a c b).length=G a
 | [],_,_=>rfl
 |d::a,c,b=>by show(g8 a _ _).length+1=G a+1;rw[jJ a]
def pu:∀(a:List (List Nat)) (c n:Nat),∀b∈g8 a c n,b<=c+(gD a n).length
 | [],_,_,b,h=>by cases h
 |e::a,c,n,b,h=>by
  have d:b∈c::g8 a (c+(jb n e).length) (n+1):=h;show b<=c+(jb n e++gD a (n+1)).length;rw[ab];rcases cJ.1 d with rfl|d;·omega
  ·have:=pu a _ _ b d;omega
def hJ:List Nat:=[37,80,68,70,45,49,46,52,10]
def iE(ms:List (List Nat))(root:Int):List Nat:=
 hJ++gD ms 1++(kQ (g8 ms 9 1)++(wtrail ((G ms:Int)+1) root++([115,116,97,114,116,120,114,101,102,10]++(gU (((hJ++gD ms 1).length:Nat):Int)++[10,37,37,69,79,70,10]))))
def BO(e:Nat->List Nat->List Nat->Prop)(a:Nat)(b:VT (a+3))(c:List Nat):Prop:=
 (f_.kind (α:=VT (a+2)) b=8/\∃d,mi e (f_.filters (α:=VT (a+2)) b) (f_.text (α:=VT (a+2)) b) d/\G d+36<=2^(f_.filters (α:=VT (a+2)) b).length*((f_.text (α:=VT (a+2)) b).length+36)/\(∀c∈d,c<256)/\c=wstream a b d)\/(f_.kind (α:=VT (a+2)) b≠8/\c=gT (k:=a+3) b)
structure pG(EE:Nat->List Nat->List Nat->Prop)(j:Nat)(Ys:List (VT (j+3)))(ms:List (List Nat)):Prop where
 len:G ms<=G Ys
 each:∀(i:Nat) (x:List Nat) (y:VT (j+3)),ms[i]?=O x->Ys[i]?=O y->BO EE j y x
def pG.snoc{f:Nat->List Nat->List Nat->Prop}{d:Nat}{g:List (VT (d+3))}{c:List (List Nat)}{k:List Nat}{l:VT (d+3)}(h:pG f d g c)(j:g[G c]?=O l)(p:BO f d l k):pG f d g (c++[k]):=by
 refine⟨?_,λe m b a i=>?_⟩
 ·have:=(ay.1 j).1;rw[ab,dU];omega
 ·by_cases n:e<G c
  ·rw[aR n]at a;exact h.each e m b a i
  ·rw[aW Y]at a;have o:e-G c=0:=by have:=(ay.1 a).1;simp at this;omega
   rw[o]at a;cases a;have:e=G c:=Y;subst this;rw[j]at i;cases i;exact p
structure vA(M j:Nat)(Y:VT (j+3)):Prop where
 str:f_.kind (α:=VT (j+2)) Y=8->∃fs,Cj j Y fs/\2^(G fs)*((f_.text (α:=VT (j+2)) Y).length+36)<=2*M/\(f_.text (α:=VT (j+2)) Y).length<=M
 val:f_.kind (α:=VT (j+2)) Y≠8->uN (k:=j+3) Y
 len:gV (k:=j+3) Y<=100000000
def vA.body{e a:Nat}{b:VT (a+3)}{i:Nat->List Nat->List Nat->Prop}{g:List Nat}(h:vA e a b)(p:e<=1000000)(m:BO i a b g):G g<=102100000:=by
 have r:=h.len;rcases m with⟨c,f,_,l,q,rfl⟩|⟨c,rfl⟩
 ·obtain⟨k,d,s,_⟩:=h.str c;have j:(f_.filters (α:=VT (a+2)) b).length=G k:=by rw[d.fil,aq]
  rw[j]at l;have n:=d.wlen (G f);have o:=mM (d.dict (G f) Y).1;unfold wstream;simp only[ab,ai,aB];omega
 ·have:=mM (h.val c);omega
section
variable{w:vz}
def wbody_small(c:Nat):∀(a:List (List Nat)) (n:Nat),(∀b∈a,G b<=c)->n+G a<=1000->(gD a n).length<=G a*(c+40)
 | [],_,_,_=>by simp[gD]
 |b::a,n,h,d=>by have g:=wbody_small c a (n+1) (λf e=>h f (by simp[e])) (by simp at d;omega);have i:=h b cO;have j:=jp (n:=(n:Int)) Y (by simp at d;omega);show(jb n b++gD a (n+1)).length<=_;unfold jb wohead;simp only[ab,ai,aB,Nat.add_mul,Nat.one_mul]at *;omega
def pad_small{n:Nat}(h:n<10^18):(iD 10 n).length<=40:=by unfold iD;have:=xe 18 n Y;rw[ab,bj];omega
def wtab(n:Nat)(a:List (List Nat)):List Nat:=j6 n++(g8 a 9 1).flatMap jd
def QO{f:Nat}{oa:Option wT}{oc:Nat}{q:Int}{da:Option wT}{dc:Nat}{xs:List wg}{ds:List ByteArray}{ms:List (List Nat)}
  (A:∀(F:Nat) (l:wg),xs[F]?=O l->rB l/\∃j n,oa=O ⟨j,n,N⟩/\j<w.heap.size/\∀(B:Nat) (C:wg),(cellsOf l)[B]?=O C->w.cell? ⟨j,n+F*7+B,N⟩=O C)
  (a3:n8 (λj=>j<w.heap.size) w da ds)
  (ht:∀(F:Nat) (l:wg) (r:ByteArray) (c:List Nat),xs[F]?=O l->ds[F]?=O r->ms[F]?=O c->∀a,wm w.heap.size w a->wh DG 53 #[l,y7 r] a λm s=>m=BX (y7 (gj c))/\wm a.heap.size a s)
  (a9:G xs=f) (a2:G ds=f) (a6:G ms=f) (hn:f<=200) (u:∀c∈ms,G c<=600000000) (hr:0<=q/\q<=1000):wh DG 18 #[Bc #[Z oa f oc,I U q],Z da f dc] w λm s=>m=BX (y7 (gj (iE ms q)))/\wm w.heap.size w s:=by
 have b4:=H A;have br:=H a3;have b0:=H ht;have b3:=H a9;have bm:=H a2;have W:=H a6;have V:wt (∀i:Int,0<=i->i<=9000000000000000000->∀a:vz,wh DG 51 #[I U i] a λm s=>m=BX (y7 (gj (gU i)))/\s=a):=λi o x=>IA i Y Y;have K:wt (∀i:Int,0<=i->i<=9000000000000000000->(gj (gU i)).size<=20):=λi o x=>by rw[lu];exact jp Y Y
 have ad:wt (∀k,(gj (hJ++gD (ms.take k) 1)).size<=130000000000):=λk=>by
  rw[lu,ab];have o:=wbody_small 600000000 (ms.take k) 1 (λl A=>u l (cN A)) mH;have x:(ms.take k).length<=200:=by rw[ax];omega
  have h3:G hJ=9:=rfl;have h4:(ms.take k).length*(600000000+40)<=200*(600000000+40):=dx _ x;omega
 have b1:wt (∀k,(gj (wtab f (ms.take k))).size<=20000):=λk=>by
  rw[lu];unfold wtab j6;have h0:=jp (n:=(f:Int)+1) Y Y;have o:((g8 (ms.take k) 9 1).flatMap jd).length<=60*(g8 (ms.take k) 9 1).length:=by rw[List.length_flatMap];refine sum_le _ 60 _ λba hp=>?_;have x:=pu _ _ _ ba hp;have h3:=ad.o k;rw[lu,ab]at h3;have h4:G hJ=9:=rfl;have:=pad_small (n:=ba) Y;unfold jd;rw[ab];simp only[ai,aB];omega
  rw[jJ,ax]at o;simp only[ab,ai,aB];omega
 obtain⟨al,hZ⟩:∃al,gj (iE ms q)=al:=⟨_,rfl⟩;rw[hZ];have HZ:=H hZ;obtain⟨J,aa⟩:∃J,w.alloc (BV #[Z oa f oc,I U q] 31)=J:=⟨_,rfl⟩;have a0:wt (wm w.heap.size w J):=by unfold Hid;rw[<-aa];exact(ar _ _).alloc (ag _) _
 have a1:wt (J.heap[w.heap.size]?=O (BV #[Z oa f oc,I U q] 31 (0,0))):=by unfold Hid;rw[<-aa];exact bn _ _
 have b2:=H aa;have bx:wt ({data:=#[120,114,101,102,10,48,32]}++gj (gU ((f:Int)+1))++{data:=#[10,48,48,48,48,48,48,48,48,48,48,32,54,53,53,51,53,32,102,32,10]}=gj (wtab f (ms.take 0))):=by unfold Hid wtab j6;rw[List.take_zero];show _=gj ([120,114,101,102,10,48,32]++(gU ((f:Int)+1)++[10,48,48,48,48,48,48,48,48,48,48,32,54,53,53,51,53,32,102,32,10])++[]);rw[bP,<-au,pE,pE];rfl
 have co:=K.o ((f:Int)+1) Y Y;have bt:=H (V ((f:Int)+1) Y Y);generalize gj (gU ((f:Int)+1))=IN at *;clear A a3 ht a9 a2 a6 hZ aa u
 go_in
 go_wp2_with fail;rw[b2.o];apply(bt _).m;rintro m w2 ⟨rfl,p⟩;have p:=p.s;subst p;go_wp2_with fail;go_loopw [5,6,7] (λsv tv iv wr=>∃(c:Nat) (g D:ByteArray),c<=f/\iv=I U c/\sv=y7 g/\tv=y7 D/\wt (g=gj (hJ++gD (ms.take c) 1))/\wt (D=gj (wtab f (ms.take c)))/\wt (wm J.heap.size J wr)) (λ_ _ iv _=>f-(intOf iv).toNat)
 case atStart=>exact⟨0,_,_,aw _,rfl,rfl,rfl,by unfold Hid;rfl,bx,ar _ _⟩
 case round=>
  obtain⟨c,g,D,u,rfl,rfl,rfl,R,HT,S⟩:=hrel;have hA:g.size<=130000000000:=by rw[R.o];exact ad c
  have hT:D.size<=20000:=by rw[HT.o];exact b1 c
  have X:=H ((S.block _ (ap a1)).t a1);have d0:=nw X;have d1:=rU X;have y:=a0.o.t (S.o.m a0.size);have bb:=H y;rcases aC u with ce|u
  ·subst ce;have cd:¬(c:Int)<(c:Int):=Y;have b7:=aP (by rw[W.o];exact ag _);have bv:=H (V (g.size:Int) Y Y);have cp:=K.o (g.size:Int) Y Y;have cq:=K.o ((c:Int)+1) Y Y;have cr:=K.o q Y Y;have b6:wt (g++D++{data:=#[116,114,97,105,108,101,114,10,60,60,47,83,105,122,101,32]}++gj (gU ((c:Int)+1))++{data:=#[32,47,82,111,111,116,32]}++gj (gU q)++{data:=#[32,48,32,82,62,62,10,115,116,97,114,116,120,114,101,102,10]}++gj (gU (g.size:Int))++{data:=#[10,37,37,69,79,70,10]}=al):=by unfold Hid;have o:=R.o;have x:=HT.o;rw[b7]at o x;rw[<-HZ.o,show(g.size:Int)=(((hJ++gD ms 1).length:Nat):Int)from by rw[o,lu],o,x];unfold iE wtab kQ wtrail;rw[jJ,W.o];rw[show({data:=#[116,114,97,105,108,101,114,10,60,60,47,83,105,122,101,32]}:ByteArray)=gj ([116,114,97,105,108,101,114,10]++[60,60,47,83,105,122,101,32])from rfl,show({data:=#[32,47,82,111,111,116,32]}:ByteArray)=gj [32,47,82,111,111,116,32]from rfl,show({data:=#[32,48,32,82,62,62,10,115,116,97,114,116,120,114,101,102,10]}:ByteArray)=gj ([32,48,32,82]++[62,62]++[10]++[115,116,97,114,116,120,114,101,102,10])from rfl,show({data:=#[10,37,37,69,79,70,10]}:ByteArray)=gj [10,37,37,69,79,70,10]from rfl];rw[<-pE,<-pE,<-pE,<-pE,<-pE,<-pE,<-pE,<-pE];simp only[au]
   have bs:=H (λk=>bQ bb k);have cf:IntKind.i64.wrap ((c:Int)+1)=(c:Int)+1:=by rw[bu];omega
   have HQ:wt (∀i:Int,i=(c:Int)+1\/i=q->∀a:vz,wh DG 51 #[I U i] a λm s=>m=BX (y7 (gj (gU i)))/\s=a):=λi hz=>V i Y Y;generalize gj (gU (g.size:Int))=DA at *;go_wp2_with fail;apply(bv _).m;rintro m w3 ⟨rfl,p⟩;have p:=p.s;subst p;go_wp2_with fail;go_quiet ((go_at_call 51;refine dA (HQ _ ?_ _);first|exact C1 rfl|exact C2 rfl));go_wp2;go_ret;exact⟨by rw[<-b6.o];rfl,bs _⟩
  ·have cd:(c:Int)<(f:Int):=Y;obtain⟨l,A⟩:∃l,xs[c]?=O l:=⟨_,af (by rw[b3.o];exact u)⟩;obtain⟨r,hd⟩:∃r,ds[c]?=O r:=⟨_,af (by rw[bm.o];exact u)⟩;obtain⟨t,hM⟩:∃t,ms[c]?=O t:=⟨_,af (by rw[W.o];exact u)⟩;obtain⟨⟨k0,k1,k2,k3,ja,jl,jc,ci,kl,cj,b8,fl,b9,v⟩,j,n,rfl,a4,cg⟩:=b4.o c l A;obtain⟨g2,o2,rfl,a5,ca⟩:=br.o c r hd;have HD:wt (∀a,wm wr.heap.size wr a->a.cell? ⟨j,n+c*7,N⟩=O (I U k0)/\a.cell? ⟨j,n+c*7+1,N⟩=O (I U k1)/\a.cell? ⟨j,n+c*7+2,N⟩=O (I U k2)/\a.cell? ⟨j,n+c*7+3,N⟩=O (y7 k3)/\a.cell? ⟨j,n+c*7+4,N⟩=O (Z ja jl jc)/\a.cell? ⟨j,n+c*7+5,N⟩=O (Z ci kl cj)/\a.cell? ⟨j,n+c*7+6,N⟩=O (Z b8 fl b9)):=λa e=>by
    have z:∀{B:Nat} {C:wg},(cellsOf l)[B]?=O C->a.cell? ⟨j,n+c*7+B,N⟩=O C:=λ{B C} h=>by rw[e.cell (aF a4 y.size),y.cell a4];exact cg B C h
    exact⟨@z 0 _ (by rw[v];rfl),z (by rw[v];rfl),z (by rw[v];rfl),z (by rw[v];rfl),z (by rw[v];rfl),z (by rw[v];rfl),z (by rw[v];rfl)⟩
   have bf:wt (∀a,wm wr.heap.size wr a->a.cell? ⟨g2,o2+c,N⟩=O (y7 r)):=λa e=>by rw[e.cell (aF a5 y.size),y.cell a5];exact ca
   have bd:wt (∀a,wm wr.heap.size wr a->a.cell? ⟨w.heap.size,0,N⟩=O (Z (O ⟨j,n,N⟩) f oc)):=λa e=>by rw[e.cell (ap X.o),cb X.o];rfl
   have HC:wt (∀a,wm wr.heap.size wr a->wh DG 53 #[l,y7 r] a λm s=>m=BX (y7 (gj t))/\wm a.heap.size a s):=λa e=>b0 c l r t A hd hM a (y.t (e.m y.size))
   have a7:ms.take (c+1)=ms.take c++[t]:=by rw[cP,hM];rfl
   have cc:(ms.take c).length=c:=by rw[ax,W.o];omega
   have ao:wt (g++gj (gU ((c:Int)+1))++{data:=#[32,48,32,111,98,106,10]}++gj t++{data:=#[10,101,110,100,111,98,106,10]}=gj (hJ++gD (ms.take (c+1)) 1)):=by unfold Hid;rw[a7,qH,cc,R.o];unfold jb wohead;rw[show((1+c:Nat):Int)=(c:Int)+1 by omega];rw[show({data:=#[32,48,32,111,98,106,10]}:ByteArray)=gj [32,48,32,111,98,106,10]from rfl,show({data:=#[10,101,110,100,111,98,106,10]}:ByteArray)=gj [10,101,110,100,111,98,106,10]from rfl,<-pE,<-pE,<-pE,<-pE];simp only[au]
   have bz:wt (D++gj (iD 10 g.size)++{data:=#[32,48,48,48,48,48,32,110,32,10]}=gj (wtab f (ms.take (c+1)))):=by unfold Hid wtab;rw[a7,pN,cK,HT.o];unfold wtab;rw[show g.size=9+(gD (ms.take c) 1).length from by rw[R.o,lu,ab];rfl];rw[show({data:=#[32,48,48,48,48,48,32,110,32,10]}:ByteArray)=gj [32,48,48,48,48,48,32,110,32,10]from rfl,<-pE,<-pE];simp only[au,cG,List.flatMap_nil,bP];rfl
   have bw:=H (GM g.size 10 Y Y);have cs:(gj (iD 10 g.size)).size<=40:=by rw[lu];exact pad_small Y
   have cl:(gj t).size<=130000000000:=by have o:=ad.o (c+1);rw[<-ao.o]at o;simp only[ByteArray.size_append]at o;omega
   have bh:=H (V ((c:Int)+1) Y Y);have cn:=K.o ((c:Int)+1) Y Y;generalize gj t=MM at *;generalize gj (gU ((c:Int)+1))=Q at *;generalize gj (iD 10 g.size)=PD at *;subst v;have cf:IntKind.i64.wrap ((c:Int)+1)=(c:Int)+1:=by rw[bu];omega
   go_wp2_with fail;apply(bw _).m;rintro m w3 ⟨rfl,p⟩;have p:=p.s;subst p;clear d0 d1;go_wp2;refine AX (λ_ a=>wm wr.heap.size wr a) aG ?_;intro b;have d:=(ar wr.heap.size wr).drew;refine tk 0 ?_ b ?_ d ?_;rotate_left
   ·intro a e;go_simp;try(with_reducible rfl)
   clear b d;intro b d;(try simp only[lr])
   refine tk 1 ?_ b ?_ d ?_;rotate_left
   ·intro a e;go_simp;try(with_reducible rfl)
   clear b d;intro b d;(try simp only[lr])
   refine tk 2 ?_ b ?_ d ?_;rotate_left
   ·intro a e;go_simp;try(with_reducible rfl)
   clear b d;intro b d;(try simp only[lr])
   refine tk 6 ?_ b ?_ d ?_;rotate_left
   ·intro a e;go_simp;try(with_reducible rfl)
   clear b d;intro b d;(try simp only[lr])
   refine tk 7 ?_ b ?_ d ?_;rotate_left
   ·intro a e;obtain⟨_,_,_,P⟩:=e;have ck:=bd.o a P;go_simp;try(with_reducible rfl)
   clear b d;intro b d;(try simp only[lr])
   refine tk 8 ?_ b ?_ d ?_;rotate_left
   ·intro a e;go_simp;try(with_reducible rfl)
   clear b d;intro b d;(try simp only[lr])
   refine tk 9 ?_ b ?_ d ?_;rotate_left
   ·intro a e;go_simp;try(with_reducible rfl)
   clear b d;intro b d;(try simp only[lr])
   refine tk 10 ?_ b ?_ d ?_;rotate_left
   ·intro a e;obtain⟨_,_,_,P⟩:=e;obtain⟨q0,q1,q2,q3,q4,q5,q6⟩:=HD.o a P;go_simp;try(with_reducible rfl)
   clear b d;intro b d;(try simp only[lr])
   refine tk 11 ?_ b ?_ d ?_;rotate_left
   ·intro a e;go_simp;try(with_reducible rfl)
   clear b d;intro b d;(try simp only[lr])
   refine tk 12 ?_ b ?_ d ?_;rotate_left
   ·intro a e;go_simp;try(with_reducible rfl)
   clear b d;intro b d;(try simp only[lr])
   refine tk 13 ?_ b ?_ d ?_;rotate_left
   ·intro a e;go_simp;try(with_reducible rfl)
   clear b d;intro b d;(try simp only[lr])
   refine tk 14 ?_ b ?_ d ?_;rotate_left
   ·intro a e;obtain⟨_,_,_,P⟩:=e;have ck:=bf.o a P;go_simp;try(with_reducible rfl)
   clear b d;intro b d;(try simp only[lr])
   refine on 3 b λK' E=>?_;go_simp;apply(bh _).m;rintro m w4 ⟨rfl,a8⟩;have T:wt (wm wr.heap.size wr w4):=by unfold Hid;rw[a8];exact(ar wr.heap.size wr).drew
   clear a8;refine E _ _ T (λL M=>?_);clear b d E K';have b:=L;have d:=M;clear L M
   (try simp only[lr])
   refine tk 4 ?_ b ?_ d ?_;rotate_left
   ·intro a e;have hq:¬9223372036854775807<g.size+Q.size:=Y;go_simp;try(with_reducible rfl)
   clear b d;intro b d;(try simp only[lr])
   refine tk 5 ?_ b ?_ d ?_;rotate_left
   ·intro a e;have hq:¬9223372036854775807<g.size+Q.size+7:=Y;go_simp;try(with_reducible rfl)
   clear b d;intro b d;(try simp only[lr])
   refine on 15 b λK' E=>?_;go_simp;apply(HC _ T).m;rintro m w5 ⟨rfl,b5⟩;have ac:=H (T.t (b5.m T.size));refine E _ _ ac (λL M=>?_);have b:=L;have d:=M
   (try simp only[lr])
   refine tk 16 ?_ b ?_ d ?_;rotate_left
   ·intro a e;have hq:¬9223372036854775807<g.size+Q.size+7+MM.size:=Y;go_simp;try(with_reducible rfl)
   clear b d;intro b d;(try simp only[lr])
   refine tk 17 ?_ b ?_ d ?_;rotate_left
   ·intro a e;have hq:¬9223372036854775807<g.size+Q.size+7+MM.size+8:=Y;go_simp;try(with_reducible rfl)
   clear b d;intro b d;(try simp only[lr])
   refine on 18 b λK' E=>?_;go_simp;refine E _ _ ac (λL M=>?_)
   (try simp only[lr])
   refine uX aG ?_ _;have bc:=H (S.t (ac.o.m S.size));go_wp2;go_roundw
   case rel=>exact⟨c+1,_,_,Y,by go_num,rfl,rfl,ao,bz,bc⟩
   case measure=>exact eT
end
def pT(a:List Nat)(b:VT 12×List Nat):Prop:=∀r:List Nat,jo (10::(a++(10::([101,110,100,111,98,106]++(10::r)))))=O (b,10::([101,110,100,111,98,106]++(10::r)))
def qh:List (List Nat)->List (VT 12×List Nat)->Prop
 | [],[]=>True
 |c::a,d::b=>pT c d/\qh a b
 |_,_=>False
def qh.len:∀{a:List (List Nat)} {b:List (VT 12×List Nat)},qh a b->G a=G b
 | [],[],_=>rfl
 |_::_,_::_,h=>by rw[ai,ai,qh.len h.2]
 | [],_::_,h=>h.elim
 |_::_,[],h=>h.elim
def qI(a:Nat):gU (a:Int)=ju a:=by unfold gU;rw[aj Y];rfl
def Ea{a:List Nat}{c:VT 12×List Nat}{b:Nat}(e:pT a c)(r:List Nat):mF (b+1) (jb (b+1) a++r)=O (c,10::r):=by unfold mF jb wohead;rw[qI];simp only[au];rw[un,nB (rE _) (jV.lit bF)];simp only[bH,cU];rw[ph rfl];have e1:gx [48] (48::32::111::98::106::10::(a++(10::101::110::100::111::98::106::10::r)))=O (32::111::98::106::10::(a++(10::101::110::100::111::98::106::10::r))):=nB (s:=[48]) (oJ cO bF) (jV.cons bF);rw[e1];simp only[];rw[ph rfl];have e2:gx [111,98,106] (111::98::106::10::(a++(10::101::110::100::111::98::106::10::r)))=O (10::(a++(10::101::110::100::111::98::106::10::r))):=nB (s:=[111,98,106]) (oJ cO bF) (jV.cons bF);rw[e2];simp only[];have h:=e r;simp only[bH,cU]at h;rw[h];simp only[];rw[ph rfl];have d:gx [101,110,100,111,98,106] (101::110::100::111::98::106::10::r)=O (10::r):=nB (s:=[101,110,100,111,98,106]) (oJ cO bF) (jV.cons bF);rw[d]
def AJ(c:Nat)(h r:List Nat):∃b g,jb c h++r=b::g/\48<=b/\b<=57:=by obtain⟨d,e⟩:=qO c;obtain⟨b,i,a⟩:=dM d;have f:=e b (by rw[a];exact bU ..);unfold jb wohead;rw[qI,a];exact⟨b,_,rfl,f⟩
def CE(a:List (List Nat))(c:Nat)(r:List Nat):gq (gD a c++([120,114,101,102]++r))=gD a c++([120,114,101,102]++r):=by
 cases a with
 |nil=>exact yp bF
 |cons f a=>rw[gD,au];obtain⟨b,g,d,e⟩:=AJ c f (gD a (c+1)++([120,114,101,102]++r));rw[d];exact yp (wX e)
def zW(len:Nat)(r:List Nat):∀(c:List (List Nat)) (i:List (VT 12×List Nat)) (a f d:Nat),qh c i->G c<f->len=d+(gD c (a+1)++([120,114,101,102]++r)).length ->jU len f a (gD c (a+1)++([120,114,101,102]++r))=O ((i,g8 c d (a+1)),[120,114,101,102]++r)
 | [],[],a,f+1,d,_,_,_=>rfl
 |e::c,s::i,a,f+1,d,h,g,k=>by
  have j:gD (e::c) (a+1)++([120,114,101,102]++r)=jb (a+1) e++(gD c (a+1+1)++([120,114,101,102]++r)):=by rw[gD,au]
  have o:=zW len r c i (a+1) f (d+(jb (a+1) e).length) h.2 (by simp only[ai]at g;omega) (by rw[k,j,ab];omega);rw[j]at k ⊢;rw[jU];obtain⟨b,q,l,p⟩:=AJ (a+1) e (gD c (a+1+1)++([120,114,101,102]++r));have m:¬([120,114,101,102]:List Nat).isPrefixOf (jb (a+1) e++(gD c (a+1+1)++([120,114,101,102]++r)))=CD:=by rw[l];have:(120:Nat)≠b:=Y;simp[List.isPrefixOf,this]
  rw[aj m,Ea h.1];simp only[];rw[tF (by rfl),CE,o];have n:len-(jb (a+1) e++(gD c (a+1+1)++([120,114,101,102]++r))).length=d:=Y;rw[n];rfl
 |_::_,_::_,_,0,_,_,g,_=>Y
 | [],[],_,0,_,_,g,_=>by simp at g
 | [],_::_,_,_,_,h,_,_=>h.elim
 |_::_,[],_,_,_,h,_,_=>h.elim
def zN(r:List Nat):∀a:List Nat,jR a (a.flatMap jd++r)=O r
 | []=>rfl
 |b::a=>by
  have d:=zN r a;rw[cG,au,jR];have h:jj (kN b++[32,48,48,48,48,48,32,110]) (jd b++(a.flatMap jd++r))=O (a.flatMap jd++r):=by generalize a.flatMap jd++r=c;unfold jj jd;rw[show iD 10 b++[32,48,48,48,48,48,32,110,32,10]++c=(kN b++[32,48,48,48,48,48,32,110])++([32,10]++c)by unfold iD kN;simp,jG];simp only[];rw[jG];rfl
  rw[h];exact d
def Di(a:Nat)(b r:List Nat):lV a b (j6 a++r)=jR b r:=by unfold lV j6;rw[show((a:Int)+1)=((a+1:Nat):Int)by omega,qI,show([120,114,101,102,10,48,32]++(ju (a+1)++[10,48,48,48,48,48,48,48,48,48,48,32,54,53,53,51,53,32,102,32,10]))++r=([120,114,101,102,10,48,32]++gJ (a+1)++[10])++(([48,48,48,48,48,48,48,48,48,48,32,54,53,53,51,53,32,102]:List Nat)++([32,10]++r))by rw[un];simp,jG];simp only[];unfold jj;rw[jG];simp only[];rw[jG];rfl
def x_(a k:Nat):f_ (VT 11):=⟨7,0,0,[],[(ik (VT 10) 2 ((a+1:Nat):Int) 0 []:VT 11),(ik (VT 10) 9 (k:Int) 0 []:VT 11)],[[83,105,122,101],[82,111,111,116]],[]⟩
def BQ(a k:Nat):lU a (x_ a k)=O (k:Int):=by
 have h:lU a (x_ a k)=if((a+1:Nat):Int)=((a+1:Nat):Int)then O (k:Int)else N:=rfl
 rw[h,ak rfl]
def uJ{k b:Nat}(h:wB b=CD)(r:List Nat):gC (k+1) (b::r)=gC (k+1) r:=by
 have:=(sH.white h).value (k:=k) r
 rwa [List.singleton_append]at this
def vX{b:Nat}{d:List Nat}(h:pB b=CS)(c:wB b=CS)(a:b≠37):g_ (b::d)=N:=by unfold g_;rw[wA h c a cO];rfl
def zR{b:Nat}{a:List Nat}(h:wB b=CD):g_ (b::a)=g_ a:=by unfold g_;rw[ph h]
def EP(a k:Nat)(n:a+1<10^10)(l:k<10^10)(r:List Nat):nZ a (wtrail ((a:Int)+1) (k:Int)++r)=O ((k:Int),10::r):=by
 have p:∀e:List Nat,gh [60,60] (gq ([60,60]++e))=O e:=λe=>by rw[show gq ([60,60]++e)=[60,60]++e from pK bF bF,jG]
 have i:wtrail ((a:Int)+1) (k:Int)++r=[116,114,97,105,108,101,114]++(10::([60,60]++(47::([83,105,122,101]++(32::(ju (a+1)++(32::47::([82,111,111,116]++(32::(ju k++(32::48::32::82::62::62::10::r))))))))))):=by unfold wtrail;rw[show((a:Int)+1)=((a+1:Nat):Int)by omega,qI,qI];simp
 unfold nZ;rw[i,nB (oJ cO bF) (jV.cons bF)];simp only[];rw[tF (by rfl),p];simp only[];obtain⟨d,g⟩:∃d,47::([83,105,122,101]++(32::(ju (a+1)++(32::47::([82,111,111,116]++(32::(ju k++(32::48::32::82::62::62::10::r))))))))=d:=⟨_,rfl⟩;have j:∀c,jy (gC 11) (c+3) d=O (([[83,105,122,101],[82,111,111,116]],[(ik (VT 10) 2 ((a+1:Nat):Int) 0 []:VT 11),(ik (VT 10) 9 (k:Int) 0 []:VT 11)]),10::r):=λc=>by
  have q:ld ([83,105,122,101]++(32::(ju (a+1)++(32::47::([82,111,111,116]++(32::(ju k++(32::48::32::82::62::62::10::r))))))))=O ([83,105,122,101],_):=vY bF (jV.cons bF);have t:gC 11 (32::(ju (a+1)++(32::47::([82,111,111,116]++(32::(ju k++(32::48::32::82::62::62::10::r)))))))=O ((ik (VT 10) 2 ((a+1:Nat):Int) 0 []:VT 11),32::47::([82,111,111,116]++(32::(ju k++(32::48::32::82::62::62::10::r))))):=by rw[uJ rfl];exact Az (rE _) (jV.cons bF) (wD n) (by rw[zR rfl];exact vX bF bF bF)
  have s:ld ([82,111,111,116]++(32::(ju k++(32::48::32::82::62::62::10::r))))=O ([82,111,111,116],_):=vY bF (jV.cons bF);have o:g_ (32::48::32::82::62::62::10::r)=O (62::62::10::r):=by unfold g_;rw[ph rfl,show(48::32::82::62::62::10::r:List Nat)=[48]++(32::82::62::62::10::r)from rfl,nB (oJ cO bF) (jV.cons bF)];show gx [82] (32::_)=_;rw[ph rfl,show(82::62::62::10::r:List Nat)=[82]++(62::62::10::r)from rfl,nB (oJ cO bF) (jV.cons bF)]
  have u:gC 11 (32::(ju k++(32::48::32::82::62::62::10::r)))=O ((ik (VT 10) 9 (k:Int) 0 []:VT 11),62::62::10::r):=by rw[uJ rfl];exact CG (rE _) (jV.cons bF) (wD l) o
  rw[<-g,xH q t];have h:=Dn (α:=VT 11) (f:=gC 11) (sH.white (b:=32) rfl) (c+1) (47::([82,111,111,116]++(32::(ju k++(32::48::32::82::62::62::10::r)))));rw[List.singleton_append]at h;rw[h,xH s u,zm];rfl
 obtain⟨c,m⟩:∃c,G d+1=c+3:=⟨G d-2,by rw[<-g];simp only[ai,ab];omega⟩;rw[g,m,j c];show(lU a (x_ a k)).map _=_;rw[BQ];rfl
def zr(a:Nat):mU a (10::([115,116,97,114,116,120,114,101,102,10]++(ju a++[10,37,37,69,79,70,10])))=O []:=by unfold mU;rw[ph rfl,show([115,116,97,114,116,120,114,101,102,10]:List Nat)++(ju a++[10,37,37,69,79,70,10])=[115,116,97,114,116,120,114,101,102]++(10::(ju a++[10,37,37,69,79,70,10]))from rfl,nB (oJ cO bF) (jV.cons bF)];simp only[];rw[ph (by rfl),un,nB (rE _) (jV.cons bF)];rfl
def vF(a:List (List Nat))(c:Int)(b:List Nat):List Nat:=
 hJ++gD a 1++(kQ (g8 a 9 1)++(wtrail ((G a:Int)+1) c++([115,116,97,114,116,120,114,101,102,10]++(gU (((hJ++gD a 1).length:Nat):Int)++b))))
def Dr{a:List (List Nat)}{g:List (VT 12×List Nat)}{k:Nat}(b:List Nat)(h:qh a g)(v:G a<=1000)(n:k<10^10):jK (vF a (k:Int) b)=(mU (hJ++gD a 1).length (10::([115,116,97,114,116,120,114,101,102,10]++(ju (hJ++gD a 1).length++b)))).map λ_=>(g,(k:Int)):=by
 have o:=h.len;obtain⟨c,j⟩:∃c,kQ (g8 a 9 1)++(wtrail ((G a:Int)+1) (k:Int)++([115,116,97,114,116,120,114,101,102,10]++(gU (((hJ++gD a 1).length:Nat):Int)++b)))=[120,114,101,102]++c:=⟨_,rfl⟩;have f:vF a (k:Int) b=[37,80,68,70,45,49,46,52,10]++(gD a 1++([120,114,101,102]++c)):=by unfold vF;rw[j,au];rfl
 have i:(vF a (k:Int) b).length=9+(gD a 1++([120,114,101,102]++c)).length:=by rw[f,ab];rfl
 have l:(hJ++gD a 1).length=9+(gD a 1).length:=by rw[ab];rfl
 have m:∀(d:List (List Nat)) (e:Nat),G d<=(gD d e).length:=by
  intro d;induction d with
  |nil=>intro e;exact aw _
  |cons t d s=>
   intro e;have:=s (e+1);rw[gD,ab];have u:1<=(jb e t).length:=by unfold jb;simp only[ab,ai];omega
   simp only[ai];omega
 have p:=zW (vF a (k:Int) b).length c a g 0 ((gD a 1++([120,114,101,102]++c)).length+2) 9 h (by have:=m a 1;simp only[ab];omega) i;unfold jK;rw[f,jG];simp only[];rw[CE,<-f,p];simp only[];have r:(vF a (k:Int) b).length-([120,114,101,102]++c).length=(hJ++gD a 1).length:=by rw[i,l,ab];omega
 rw[r,<-j,<-o];have q:kQ (g8 a 9 1)=j6 (G a)++(g8 a 9 1).flatMap jd:=by unfold kQ;rw[jJ]
 rw[q,au,Di,zN];simp only[];rw[EP _ _ Y n];simp only[];rw[qI];cases mU (hJ++gD a 1).length (10::([115,116,97,114,116,120,114,101,102,10]++(ju (hJ++gD a 1).length++b)))<;>rfl
def sZ{a:List (List Nat)}{b:List (VT 12×List Nat)}{k:Nat}(h:qh a b)(d:G a<=1000)(c:k<10^10):jK (iE a (k:Int))=O (b,(k:Int)):=by refine(Dr [10,37,37,69,79,70,10] h d c).t ?_;rw[zr];rfl
def mA:{k:Nat}->VT k->Prop
 |0,_=>False
 |k+1,b=>b=ik (VT k) 0 0 0 []\/(∃a:Int,(a=0\/a=1)/\b=ik (VT k) 1 a 0 [])\/(∃a:Int,-9999999999<=a/\a<=9999999999/\b=ik (VT k) 2 a 0 []) \/
  (∃(a:Int) (g:Nat),-999999999<=a/\a<=999999999/\g<=5/\(g=0\/a%10≠0)/\b=ik (VT k) 3 a g [])\/(∃e:List Nat,(∀c∈e,0<c/\c<256)/\b=ik (VT k) 4 0 0 e)\/(∃e:List Nat,(∀c∈e,c<256)/\b=ik (VT k) 5 0 0 e) \/
  (∃d:List (VT k),(∀h∈d,mA (k:=k) h)/\b=(⟨6,0,0,[],d,[],[]⟩:f_ (VT k)))\/(∃(f:List (List Nat)) (d:List (VT k)),G f=G d/\(∀s∈f,∀c∈s,0<c/\c<256)/\(∀h∈d,mA (k:=k) h)/\b=(⟨7,0,0,[],d,f,[]⟩:f_ (VT k))) \/
  ∃a:Nat,0<a/\a<10^10/\b=ik (VT k) 9 (a:Int) 0 []
structure nQ(r:List Nat):Prop where
 np:jV r
 ref:g_ r=N
 r82:gx [82] r=N
def nQ.mark{b:Nat}{d:List Nat}(h:pB b=CS)(c:wB b=CS)(a:b≠37):nQ (b::d):=⟨jV.cons h,vX h c a,wA h c a cO⟩
def nQ.white{b:Nat}{a:List Nat}(h:wB b=CD)(c:g_ a=N)(d:gx [82] a=N):nQ (b::a):=⟨jV.cons (by unfold pB;rw[h];rfl),by rw[zR h];exact c,by rw[ph h];exact d⟩
def tT{s r:List Nat}(b:lZ s)(a:jV r)(c:s≠[82])(d:s=[48]->gx [82] r=N):g_ (s++r)=N/\gx [82] (s++r)=N:=by
 refine⟨?_,xX b a c⟩;unfold g_;by_cases h:s=[48]
 ·subst h;rw[nB b a];exact d rfl
 ·rw[xX b a h];rfl
def AI(c:Int):lZ (gU c):=by
 unfold gU;split
 ·exact⟨cO,λb a=>by
   rcases cJ.1 a with rfl|a;·rfl
   ·exact(rE _).2 b a⟩
 ·exact rE _
def AH(c:Int):∃b g,gU c=b::g/\(b=45\/48<=b/\b<=57):=by
 unfold gU;split;·exact⟨45,_,rfl,C1 rfl⟩
 ·obtain⟨d,e⟩:=qO c.toNat;obtain⟨b,f,a⟩:=dM d;exact⟨b,f,a,C2 (e b (by rw[a];exact bU ..))⟩
def Fb{a:Nat}(h:a<10^10):jZ (45::ju a)=O (-(a:Int)):=by obtain⟨c,f⟩:=qO a;have d:gA (45::ju a)=([45],ju a):=rfl;unfold jZ;rw[d];have i:=pW 9 a h;have e:1<=(ju a).length:=fI.2 c;rw[ak ⟨e,i⟩];unfold na;rw[d,ak ⟨c,by rw[bG];intro b g;have:=f b g;simp[gX];omega⟩,ak rfl,vW]
def Fc{a:Int}(b : -9999999999<=a)(c:a<=9999999999):jZ (gU a)=O a:=by
 unfold gU;split
 ·rw[show(gJ a.natAbs)=ju a.natAbs from un _,Fb Y];congr 1;omega
 ·rw[un,wD Y];congr 1;omega
def xL{r:List Nat}(d:jV r):∀a:List Nat,(∀g∈a,0<g/\g<256)->ld (a.flatMap i8++r)=O (a,r)
 | [],_=>vY (s:=[]) (λb c=>by cases c) d
 |b::a,e=>by
  have f:ir 0 0 (a.flatMap i8++r)=O (a,r):=xL d a (λl i=>e l (cu _ i));have m:=e b (bU ..);rw[cG,au];by_cases c:iN b=CD/\b≠35
  ·rw[i8,ak c];have h:=c.1;unfold iN at h;simp only[a_,bT]at h;show ir 0 0 (b::(a.flatMap i8++r))=_;rw[ir,aj (by rw[h.1];simp),aj Y,aj c.2,f];rfl
  ·rw[i8,aj c];have j:iG (gR (b/16))=O (b/16):=(zE (b/16) Y).1;have k:iG (gR (b%16))=O (b%16):=(zE (b%16) Y).1;show ir 0 0 (35::gR (b/16)::gR (b%16)::(a.flatMap i8++r))=_;rw[ir,aj bF,aj bF,ak rfl,ir,j];simp only[];rw[ir,k];simp only[];rw[aj Y,f,show 16*(b/16)+b%16=b by omega];rfl
def Aj(r:List Nat):∀(c:List Nat) (a:Nat),(∀l∈c,l<256)->G c<a->jN a 1 (c.flatMap jx++41::r)=O (c,r)
 | [],0,_,e=>by simp at e
 | [],a+1,_,_=>rfl
 |b::c,0,_,e=>by simp at e
 |b::c,a+1,h,e=>by
  have f:=Aj r c a (λm k=>h m (cu _ k)) vu;have i:=h b (bU ..);rw[cG,au];generalize n:c.flatMap jx++41::r=d at f ⊢;unfold jx;split
  ·rename_i g;have j:jk (b::d)=O ([b],d):=by rcases g with rfl|rfl|rfl<;>rfl
   show jN (a+1) 1 (92::(b::d))=_;rw[yq j,f];rfl
  ·rename_i g;split
   ·rename_i o;show jN (a+1) 1 (b::d)=_;rw[jN.eq_def];simp only[];rw[show iq (b::d)=N by unfold iq;rw[lS Y,lS Y,lS Y];rfl];simp only[];rw[aj Y,aj Y,aj Y,f];rfl
   ·show jN (a+1) 1 (92::((48+b/64)::(48+b/8%8)::(48+b%8)::d))=_;rw[yq (C0 i _),f];rfl
def GG{a:List Nat}(h:∀b∈a,b<256)(r:List Nat):lq (a.flatMap jx++41::r)=O (a,r):=by
 refine Aj r a _ h ?_;have:=zv jx 1 (λc=>by
  unfold jx;split;· simp
  ·split<;>simp) a
 rw[ab];omega
def mf(a:List Nat):Prop:=∀b∈a,48<=b/\b<=57
def mf.all{l:List Nat}(h:mf l):l.all gX=CD:=by rw[bG];intro b a;have:=h b a;simp[gX];omega
def CF:∀{a b:List Nat},mf a->(a++46::b).takeWhile (λc=>c != 46)=a/\(a++46::b).dropWhile (λc=>c != 46)=46::b
 | [],b,_=>cO
 |e::a,b,h=>by have j:=h e (bU ..);have d:=CF (b:=b) (λi g=>h i (cu _ g):mf a);have f:(e != 46)=CD:=eS;simp only[bH,dJ,dT,f,if_true];exact⟨by rw[d.1],d.2⟩
def ze{d c:List Nat}(f:d=[]\/d=[45])(e:c≠[])(h:∀b a,c=b::a->48<=b/\b<=57):gA (d++c)=(d,c):=by
 rcases f with rfl|rfl
 ·obtain⟨b,a,rfl⟩:=dM e;have:=h b a rfl;show(if b=43\/b=45 then([b],a)else([],b::a))=_;rw[aj Y]
 ·rfl
def EN{b:List Nat}{a:Nat}(h:a≠48):iB (b++[a])=b++[a]:=by unfold iB;rw[List.reverse_append,List.reverse_singleton,List.singleton_append,dT,aj lT,List.reverse_cons,List.reverse_reverse]
def wR(a:Nat):∃b,ju a=b++[48+a%10]:=by
 by_cases h:a<10;·exact⟨[],by rw[uq h,dR h];rfl⟩
 ·exact⟨_,vN h⟩
def Ad{a d b:List Nat}{g:Nat}(l:a=[]\/a=[45])(j:mf d)(q:d≠[])(x:mf b)(t:iC (d++iB b)=g)(y:G d<=9/\G b<=9)(s:mf (iB b)):kf (a++(d++46::b))=O (if a=[45]then -(g:Int)else(g:Int),(iB b).length)/\jZ (a++(d++46::b))=N:=by
 obtain⟨e,f,rfl⟩:=dM q;have v:=j e (bU ..);have k:gA (a++(e::f++46::b))=(a,e::f++46::b):=ze l cO (λn w i=>by cases i;exact v);have r:gA (a++48::(e::f++iB b))=(a,48::(e::f++iB b)):=ze l cO (λn w i=>by cases i;omega);obtain⟨o,p⟩:=CF (b:=b) j;constructor
 ·unfold kf;rw[k];simp only[];rw[p,o];simp only[];rw[ak ⟨by rw[ai];omega,Y⟩];unfold na;rw[r];simp only[];rw[ak ⟨cO,by
   apply mf.all;intro m c;rcases cJ.1 c with rfl|c;·omega
   ·rcases aZ.1 c with c|c;·exact j m c
    ·exact s m c⟩]
  have u:iC (48::(e::f++iB b))=g:=by rw[<-t];rfl
  rw[u];rfl
 ·unfold jZ;split
  ·unfold na;rw[k];simp only[];rw[aj];intro h;have:=h.2;rw[bG]at this;exact absurd (this 46 cO) bF
  ·rfl
def yc{f:Int}{a:Nat}(J : -999999999<=f)(K:f<=999999999)(R:a<=5)(E:a=0\/f%10≠0):∃u e b:List Nat,(u=[]\/u=[45])/\mf e/\e≠[]/\mf b/\jQ f a=u++(e++46::b)/\kf (jQ f a)=O (f,a)/\jZ (jQ f a)=N:=by
 have C:∀d:Nat,d<=999999999->(a=0\/d%10≠0)->∃e b:List Nat,mf e/\e≠[]/\mf b/\kB d a=e++46::b/\iC (e++iB b)=d/\(G e<=9/\G b<=9)/\mf (iB b)/\(iB b).length=a:=by
  intro d Q E;have M:=pW 8 d Y;have L:1<=(ju d).length:=fI.2 (qO d).1;obtain⟨s,B⟩:∃s,iD (a+1) d=s:=⟨_,rfl⟩;have h:s=DJ (a+1-(ju d).length) 48++ju d:=by rw[<-B];rfl
  have z:iC s=d:=by rw[h,zQ,vW]
  have P:G s=(a+1-(ju d).length)+(ju d).length:=by rw[h,ab,bj]
  have v:mf s:=by
   intro b c;rw[h]at c;rcases aZ.1 c with c|c;·rw[List.eq_of_mem_replicate c];omega
   ·exact(qO d).2 b c
  have g:kB d a=s.take (G s-a)++46::(s.drop (G s-a)++(if a=0 then[48]else[])):=by unfold kB;rw[B];simp
  have w:mf (s.take (G s-a)):=λb c=>v b (cN c);have x:s.take (G s-a)≠[]:=by intro D;have:=cX List.length D;rw[ax]at this;simp at this;omega
  by_cases A:a=0
  ·subst A;refine⟨_,_,w,x,?_,g,?_,⟨by rw[ax];omega,cO⟩,?_,?_⟩
   ·rw[ak rfl,Nat.sub_zero,fF];intro b c;simp at c;omega
   ·rw[ak rfl,Nat.sub_zero,fF,dE,cU,show iB [48]=[]from rfl,bP,z]
   ·rw[ak rfl,Nat.sub_zero,fF];intro b c;rw[cU,show iB [48]=[]from rfl]at c;cases c
   ·rw[ak rfl,Nat.sub_zero,fF];rfl
  ·rw[aj A,bP]at g;have c:mf (s.drop (G s-a)):=λb c=>v b (dW c);have l:iB (s.drop (G s-a))=s.drop (G s-a):=by obtain⟨S,F⟩:=wR d;rw[F,<-au]at h;rw[h];rw[List.drop_append_of_le_length eS];exact EN Y
   refine⟨_,_,w,x,c,g,?_,⟨by rw[ax];omega,by rw[aU];omega⟩,?_,?_⟩;·rw[l,cQ,z]
   ·rw[l];exact c
   ·rw[l,aU];omega
 by_cases y:f<0
 ·obtain⟨e,b,i,j,k,m,n,o,p,q⟩:=C f.natAbs Y Y;have g:jQ f a=[45]++(e++46::b):=by unfold jQ;rw[ak y,m];rfl
  obtain⟨r,t⟩:=Ad (C2 rfl) i j k n o p;refine⟨[45],e,b,C2 rfl,i,j,k,g,?_,by rw[g];exact t⟩;rw[g,r,ak rfl,q];congr 2;omega
 ·obtain⟨e,b,i,j,k,m,n,o,p,q⟩:=C f.toNat Y Y;have g:jQ f a=[]++(e++46::b):=by unfold jQ;rw[aj y,m];rfl
  obtain⟨r,t⟩:=Ad (C1 rfl) i j k n o p;refine⟨[],e,b,C1 rfl,i,j,k,g,?_,by rw[g];exact t⟩;rw[g,r,aj cO,q];congr 2;omega
def z_{d c b:List Nat}(h:d=[]\/d=[45])(f:mf c)(i:c≠[])(g:mf b):lZ (d++(c++46::b)):=by
 refine⟨cO,λe a=>?_⟩;rcases aZ.1 a with a|a
 ·rcases h with rfl|rfl;·cases a
  ·simp at a;subst a;rfl
 ·rcases aZ.1 a with a|a;·exact wX (f e a)
  ·rcases cJ.1 a with rfl|a;·rfl
   ·exact wX (g e a)
section
section
def E_{k:Nat}(a:List (List Nat))(b:List (VT k)):gT (k:=k+1) (⟨7,0,0,[],b,a,[]⟩:f_ (VT k))=60::60::(gY ((a.zip b).map λc=>gN c.1++(32::gT (k:=k) c.2))++[62,62]):=rfl
def yP{k:Nat}(a:List (VT k)):gT (k:=k+1) (⟨6,0,0,[],a,[],[]⟩:f_ (VT k))=91::(gY (a.map λb=>gT (k:=k) b)++[93]):=rfl
def yD(a:Nat)(s:List Nat)(h:iC s≠a):ju a≠s:=λb=>h (by rw[<-b,vW])
def Fm:∀{k:Nat} {j:VT k} {r:List Nat},mA j->nQ r->g_ (gT j++r)=N/\gx [82] (gT j++r)=N
 |0,_,_,h,_=>h.elim
 |k+1,j,r,h,f=>by
  have mk:∀{b:Nat} (g:List Nat),pB b=CS->wB b=CS->b≠37->g_ (b::g)=N/\gx [82] (b::g)=N:=λg c e i=>⟨vX c e i,wA c e i cO⟩;rcases h with rfl|⟨a,t,rfl⟩|⟨a,c,e,rfl⟩|⟨a,m,c,e,i,p,rfl⟩|⟨g,c,rfl⟩|⟨g,c,rfl⟩|⟨z,c,rfl⟩|⟨D,z,c,e,i,rfl⟩|⟨a,B,c,rfl⟩;·exact tT (s:=[110,117,108,108]) (oJ cO bF) f.np cO cO
  ·rcases t with rfl|rfl;·exact tT (s:=[102,97,108,115,101]) (oJ cO bF) f.np cO cO
   ·exact tT (s:=[116,114,117,101]) (oJ cO bF) f.np cO cO
  ·refine tT (AI a) f.np (λd=>?_) (λ_=>f.r82);obtain⟨b,g,q,C⟩:=AH a;have o:=q.s.t d;cases o;omega
  ·obtain⟨A,n,b,u,v,w,x,y,_⟩:=yc c e i p;show g_ (jQ a m++r)=N/\gx [82] (jQ a m++r)=N;rw[y];have l:(46:Nat)∈A++(n++46::b):=cO;refine tT (z_ u v w x) f.np (λd=>?_) (λd=>?_);·rw[d]at l;simp at l
   ·rw[d]at l;simp at l
  ·exact mk _ bF bF bF
  ·exact mk _ bF bF bF
  ·exact mk _ bF bF bF
  ·exact mk _ bF bF bF
  ·show g_ ((gU (a:Int)++[32,48,32,82])++r)=N/\gx [82] ((gU (a:Int)++[32,48,32,82])++r)=N;rw[qI,au];exact tT (rE a) (jV.cons bF) (λd=>by have:=(qO a).2 82 (by rw[d];simp);omega) (λd=>absurd d (yD a [48] (by show 0≠a;omega)))
def Fp:∀{k:Nat} {g:VT k},mA g->∃b a,gT g=b::a/\wB b=CS/\b≠37/\b≠93/\b≠62
 |0,_,h=>h.elim
 |k+1,g,h=>by
  have e:∀{b:Nat},(b=45\/48<=b/\b<=57)->wB b=CS/\b≠37/\b≠93/\b≠62:=λ{b} h=>by
   have f:pB b=CD:=by
    rcases h with rfl|h;· rfl
    ·exact wX h
   exact⟨(Aa f).1,(v_ f).2.2.2.2.2.2,(v_ f).2.2.2.2.1,(v_ f).2.2.2.2.2.1⟩
  rcases h with rfl|⟨d,q,rfl⟩|⟨d,c,i,rfl⟩|⟨d,z,c,i,m,p,rfl⟩|⟨a,c,rfl⟩|⟨a,c,rfl⟩|⟨u,c,rfl⟩|⟨y,u,c,i,m,rfl⟩|⟨d,w,c,rfl⟩;·exact⟨110,_,rfl,bF⟩
  ·rcases q with rfl|rfl;·exact⟨102,_,rfl,bF⟩
   ·exact⟨116,_,rfl,bF⟩
  ·obtain⟨b,a,j,l⟩:=AH d;exact⟨b,a,j,e l⟩
  ·obtain⟨A,v,b,r,s,t,x,n,_⟩:=yc c i m p;obtain⟨o,a,rfl⟩:=dM t;rcases r with rfl|rfl;·exact⟨o,_,n,e (C2 (s o (bU ..)))⟩
   ·exact⟨45,_,n,e (C1 rfl)⟩
  ·exact⟨47,_,rfl,bF⟩
  ·exact⟨40,_,rfl,bF⟩
  ·exact⟨91,_,rfl,bF⟩
  ·exact⟨60,_,rfl,bF⟩
  ·obtain⟨b,a,j,l⟩:=AH (d:Int);exact⟨b,a++[32,48,32,82],by show gU (d:Int)++[32,48,32,82]=_;rw[j];rfl,e l⟩
section
variable{k:Nat}(a:∀(V:VT k) (r:List Nat),mA V->nQ r->gC k (gT V++r)=O (V,r))(r:List Nat)
def kZ(c:List (VT k))(r:List Nat):List Nat:=((c.map λb=>gT (k:=k) b).flatMap λb=>32::b)++93::r
def y9:∀(b:List (VT k)),(∀c∈b,mA c)->nQ (kZ b r)
 | [],_=>.mark bF bF bF
 |c::b,h=>by
  have f:=y9 b (λj e=>h j (cu _ e));obtain⟨g,i⟩:=Fm (h c (bU ..)) f;have d:kZ (c::b) r=32::(gT c++kZ b r):=by simp[kZ]
  rw[d];exact .white bF g i
def za{d:VT k}{c:List (VT k)}{g:Nat}(f:mA d)(j:∀p∈c,mA p)(l:kS (gC k) g (kZ c r)=O (c,r)):kS (gC k) (g+1) (gT d++kZ c r)=O (d::c,r):=by
 obtain⟨b,q,e,o,h,i,_⟩:=Fp f;have n:=a d (kZ c r) f (y9 r c j);have m:gq (gT d++kZ c r)=gT d++kZ c r:=by rw[e];exact pK o h
 rw[kS,m,show gh [93] (gT d++kZ c r)=N by rw[e];exact lS (Ne.s i)];simp only[];rw[n];simp only[];rw[l];rfl
def uk:∀(b:List (VT k)) (d:Nat),(∀c∈b,mA c)->G b<d->kS (gC k) d (kZ b r)=O (b,r)
 | [],0,_,h=>by simp at h
 | [],d+1,_,_=>by rw[kS,show gq (kZ [] r)=93::r from pK bF bF,show gh [93] (93::r)=O r from jG [93] r]
 |c::b,0,_,h=>by simp at h
 |c::b,d+1,h,l=>by
  have i:kZ (c::b) r=32::(gT c++kZ b r):=by simp[kZ]
  have j:=uk b d (λf e=>h f (cu _ e)) (by simp only[ai]at l;omega);have g:=za a r (h c (bU ..)) (λf e=>h f (cu _ e)) j;rw[i];rw[kS]at g ⊢;rw[tF bF];exact g
def y8:∀b:List (VT k),G b<(kZ b r).length
 | []=>by simp[kZ]
 |c::b=>by
  have:=y8 b;have d:kZ (c::b) r=32::(gT c++kZ b r):=by simp[kZ]
  rw[d,ai,ai,ab];omega
def nS(d:List (List Nat×VT k))(r:List Nat):List Nat:=((d.map λb=>gN b.1++(32::gT (k:=k) b.2)).flatMap λc=>32::c)++62::62::r
def xy(b:List Nat×VT k)(c:List (List Nat×VT k)):nS (b::c) r=32::(47::(b.1.flatMap i8++(32::(gT b.2++nS c r)))):=by simp[nS,gN]
def Dk(b:List (List Nat×VT k)):nQ (nS b r):=by
 cases b with
 |nil=>exact .mark bF bF bF
 |cons c b=>rw[xy];exact .white bF (vX bF bF bF) (wA bF bF bF cO)
def ER{b:VT k}{c:List Nat}(d:mA b)(h:gC k (gT b++c)=O (b,c)):gC k (32::(gT b++c))=O (b,c):=by
 clear a;cases k with
 |zero=>exact d.elim
 |succ k=>rw[uJ bF];exact h
def zp{b:List Nat×VT k}{c:List (List Nat×VT k)}{e:Nat}(g:∀f∈b.1,0<f/\f<256)(d:mA b.2)(h:jy (gC k) e (nS c r)=O ((c.map Prod.fst,c.map Prod.snd),r)):jy (gC k) (e+1) (47::(b.1.flatMap i8++(32::(gT b.2++nS c r))))=O (((b::c).map Prod.fst,(b::c).map Prod.snd),r):=by
 rw[xH (xL (jV.cons bF) b.1 g) (ER d (a b.2 _ d (Dk r c))),h];rfl
def uo:∀(b:List (List Nat×VT k)) (c:Nat),(∀d∈b,(∀g∈d.1,0<g/\g<256)/\mA d.2)->G b<c->jy (gC k) c (nS b r)=O ((b.map Prod.fst,b.map Prod.snd),r)
 | [],0,_,h=>by simp at h
 | [],c+1,_,_=>zm c r
 |d::b,0,_,h=>by simp at h
 |d::b,c+1,h,i=>by have f:=h d (bU ..);have e:=zp a r f.1 f.2 (uo b c (λl j=>h l (cu _ j)) (by simp only[ai]at i;omega));rw[xy];rw[jy]at e ⊢;rw[tF bF];exact e
def zi:∀b:List (List Nat×VT k),G b<(nS b r).length
 | []=>by simp[nS]
 |c::b=>by have:=zi b;rw[xy];simp only[ai,ab];omega
end
def wG{k:Nat}{s r:List Nat}(a:lZ s)(b:jV r):gC (k+1) (s++r)=iX (VT k) (s++r)/\gI (s++r)=s/\gE (s++r)=r:=⟨qF a,(sW a b).1,(sW a b).2⟩
def E5{k:Nat}{s r:List Nat}{b:Int}{c:Nat}(i:lZ s)(h:jV r)(j:jZ s=N)(a:kf s=O (b,c)):gC (k+1) (s++r)=O (ik (VT k) 3 b c [],r):=by
 obtain⟨e1,e2,d⟩:=wG (k:=k) i h;rw[e1];unfold iX;rw[e2,d,j,a];have e:s≠[110,117,108,108]:=by rintro rfl;cases a
 have f:s≠[102,97,108,115,101]:=by rintro rfl;cases a
 have g:s≠[116,114,117,101]:=by rintro rfl;cases a
 rw[aj e,aj f,aj g]
def EH{r:List Nat}(a:jV r):g_ ([32,48,32,82]++r)=O r:=by unfold g_;show(gx [48] (32::48::32::82::r)).bind _=_;rw[ph bF,show gx [48] (48::32::82::r)=O (32::82::r)from nB (s:=[48]) (oJ cO bF) (jV.cons bF)];show gx [82] (32::82::r)=_;rw[ph bF];exact nB (s:=[82]) (oJ cO bF) a
def ya:∀{k:Nat} (g:VT k) (r:List Nat),mA g->nQ r->gC k (gT g++r)=O (g,r)
 |0,_,_,h,_=>h.elim
 |k+1,g,r,h,i=>by
  have n:∀(g:VT k) (r:List Nat),mA g->nQ r->gC k (gT g++r)=O (g,r):=λg r=>ya g r;rcases h with rfl|⟨l,y,rfl⟩|⟨l,d,q,rfl⟩|⟨l,R,d,q,w,D,rfl⟩|⟨a,d,rfl⟩|⟨a,d,rfl⟩|⟨c,d,rfl⟩|⟨o,c,d,q,w,rfl⟩|⟨l,T,d,rfl⟩
  ·obtain⟨e1,e2,p⟩:=wG (k:=k) (s:=[110,117,108,108]) (oJ cO bF) i.np;refine e1.t ?_;unfold iX;rw[e2,p,ak rfl];rfl
  ·rcases y with rfl|rfl
   ·obtain⟨e1,e2,p⟩:=wG (k:=k) (s:=[102,97,108,115,101]) (oJ cO bF) i.np;refine e1.t ?_;unfold iX;rw[e2,p,aj cO,ak rfl];rfl
   ·obtain⟨e1,e2,p⟩:=wG (k:=k) (s:=[116,114,117,101]) (oJ cO bF) i.np;refine e1.t ?_;unfold iX;rw[e2,p,aj cO,aj cO,ak rfl];rfl
  ·exact Az (AI l) i.np (Fc d q) i.ref
  ·obtain⟨V,S,b,F,J,K,L,M,P,Q⟩:=yc d q w D;exact E5 (s:=jQ l R) (by rw[M];exact z_ F J K L) i.np Q P
  ·show gC (k+1) (47::(a.flatMap i8++r))=_;exact E4 (xL i.np a d)
  ·show gC (k+1) (40::((a.flatMap jx++[41])++r))=_;rw[au];exact G6 (GG d r)
  ·have u:∀a:List Nat,gT (k:=k+1) (⟨6,0,0,[],c,[],[]⟩:f_ (VT k))++r=91::a->kS (gC k) (G a+1) a=O (c,r)->gC (k+1) (91::a)=O ((⟨6,0,0,[],c,[],[]⟩:f_ (VT k)),r):=by intro a _ x;unfold gC;rw[pK bF bF,show gh [91] (91::a)=O a from jG [91] a];show(kS (gC k) (G a+1) a).map _=_;rw[x];rfl
   cases c with
   |nil=>exact u (93::r) rfl (uk n r [] _ cO cO)
   |cons v c=>
    have m:gT (k:=k+1) (⟨6,0,0,[],v::c,[],[]⟩:f_ (VT k))++r=91::(gT v++kZ c r):=by rw[yP];simp[gY,kZ]
    have t:=λf j=>d f (cu _ j);have y:=y8 r c;refine Eq.t (cX _ m) (u _ m (za n r (d v (bU ..)) t (uk n r c _ t ?_)));rw[ab];omega
  ·obtain⟨e,z⟩:∃e,o.zip c=e:=⟨_,rfl⟩;have A:e.map Prod.fst=o:=by rw[<-z,List.map_fst_zip Y]
   have t:e.map Prod.snd=c:=by rw[<-z,List.map_snd_zip Y]
   have j:∀f∈e,(∀C∈f.1,0<C/\C<256)/\mA f.2:=λf j=>⟨q f.1 (by rw[<-A];exact List.mem_map_of_mem j),w f.2 (by rw[<-t];exact List.mem_map_of_mem j)⟩;have u:∀a:List Nat,jy (gC k) (G a+1) a=O ((e.map Prod.fst,e.map Prod.snd),r)->gC (k+1) (60::60::a)=O ((⟨7,0,0,[],c,o,[]⟩:f_ (VT k)),r):=by intro a x;unfold gC;rw[pK bF bF,lS bF,show gh [60,60] (60::60::a)=O a from jG [60,60] a];show(jy (gC k) (G a+1) a).map _=_;rw[x,A,t];rfl
   have e0:=E_ o c;rw[z]at e0;cases e with
   |nil=>
    have m:gT (k:=k+1) (⟨7,0,0,[],c,o,[]⟩:f_ (VT k))++r=60::60::nS (k:=k) [] r:=by rw[e0];rfl
    exact(cX _ m).t (u _ (uo n r [] _ cO cO))
   |cons f e=>
    have m:gT (k:=k+1) (⟨7,0,0,[],c,o,[]⟩:f_ (VT k))++r=60::60::(47::(f.1.flatMap i8++(32::(gT f.2++nS e r)))):=by rw[e0];simp[gY,nS,gN]
    have B:=j f (bU ..);have y:=zi r e;refine(cX _ m).t (u _ (zp n r B.1 B.2 (uo n r e _ (λv E=>j v (cu _ E)) ?_)));simp only[ai,ab];omega
  ·show gC (k+1) ((gU (l:Int)++[32,48,32,82])++r)=_;rw[qI,au];exact CG (rE l) (jV.cons bF) (wD d) (EH i.np)
end
end
section
section
def Av{a r:List Nat}(f:lZ a)(e:jV r)(c:a≠[82])(d:a≠[48]):nQ (10::(a++r)):=
 .white bF (tT f e c (λb=>absurd b d)).1 (tT f e c (λb=>absurd b d)).2
def uV{a:VT 12}(h:mA a):pT (gT a) (a,[]):=by
 intro r;have b:nQ (10::([101,110,100,111,98,106]++(10::r))):=Av (oJ cO bF) (jV.cons bF) cO cO;unfold jo;rw[uJ rfl,ya a _ h b];simp only[];split;·rw[ph rfl,xX (oJ cO bF) (jV.cons bF) bF]
 ·rfl
section
variable{β:Type}
def zZ(a:ByteArray)(c b:List (List Nat×β)):kC a (c++b)=kC a c++kC a b:=by simp[kC]
def z7{c:ByteArray}{b:List (List Nat×β)}(h:∀a∈b,gj a.1≠c):kC c b=[]:=by unfold kC;rw[List.filter_eq_nil_iff.2 (λa d=>by simpa using h a d)];rfl
def DM(a b:List (List Nat×β)):jW (a++b)=jW a++jW b:=by simp[jW]
def Bb{a:List (List Nat×β)}(h:∀b∈a,o_ (gj b.1)=CS):jW a=a:=by unfold jW;exact List.filter_eq_self.2 (λb c=>by simp[h b c])
def vZ(a:β):kC {data:=#[76,101,110,103,116,104]} [([76,101,110,103,116,104],a)]=[a]/\kC {data:=#[70,105,108,116,101,114]} [([76,101,110,103,116,104],a)]=[]/\jW [([76,101,110,103,116,104],a)]=[]:=⟨rfl,rfl,rfl⟩
def v9(a b:β):kC {data:=#[76,101,110,103,116,104]} [([76,101,110,103,116,104],a),([70,105,108,116,101,114],b)]=[a]/\kC {data:=#[70,105,108,116,101,114]} [([76,101,110,103,116,104],a),([70,105,108,116,101,114],b)]=[b]/\jW [([76,101,110,103,116,104],a),([70,105,108,116,101,114],b)]=[]:=⟨rfl,rfl,rfl⟩
end
def DZ{a:Nat}(h:1<=a/\a<=4):rI (gj (bl (ii a)))=a:=by have:a=1\/a=2\/a=3\/a=4:=Y;rcases this with rfl|rfl|rfl|rfl<;>rfl
def zy:∀b:List Nat,(∀a∈b,1<=a/\a<=4)->l7 (b.map λa=>(4,bl (ii a)))=O b
 | [],_=>rfl
 |a::b,h=>by have c:=h a (bU ..);rw[bM,l7,DZ c,ak ⟨rfl,c.1⟩,zy b (λe d=>h e (cu _ d))];rfl
structure q_(V:f_ (VT 11)):Prop where
 keys:V.keys.length=V.items.length
 kb:∀s∈V.keys,∀x∈s,0<x/\x<256
 own:∀s∈V.keys,o_ (gj s)=CS
 items:∀y∈V.items,mA y
 fil:∀f∈V.filters,1<=f/\f<=4
def mA.names{a:List Nat}:mA (namesV 9 a):=by refine C2 (C2 (C2 (C2 (C2 (C2 (C1 ⟨_,?_,rfl⟩))))));intro d b;obtain⟨c,_,rfl⟩:=cE.1 b;refine C2 (C2 (C2 (C2 (C1 ⟨_,?_,rfl⟩))));unfold ii;split<;>decide
def mA.len{a:Nat}(h:a<10^10):mA (k:=11) (ik (VT 10) 2 (a:Int) 0 []:VT 11):=C2 (C2 (C1 ⟨_,Y,Y,rfl⟩))
def BJ(b:List Nat)(c:Nat)(h:c<10^10):(skeys b).length=(sitems 9 b c).length/\(∀f∈skeys b,∀e∈f,0<e/\e<256)/\∀d∈sitems 9 b c,mA d:=by
 unfold skeys sitems;split;·exact⟨rfl,bF,λd a=>by rcases cZ.1 a with rfl;exact mA.len h⟩
 ·refine⟨rfl,bF,λd a=>?_⟩;rcases cJ.1 a with rfl|a;·exact mA.len h
  ·rcases cZ.1 a with rfl;exact mA.names
def q_.rt{a:f_ (VT 11)}(h:q_ a){d:Nat}(l:d<10^10):mA (k:=12) (sdict 9 a d):=by
 obtain⟨g,i,j⟩:=BJ a.filters d l;refine C2 (C2 (C2 (C2 (C2 (C2 (C2 (C1 ⟨a.keys++skeys a.filters,a.items++sitems 9 a.filters d,?_,?_,?_,rfl⟩)))))));·rw[ab,ab,h.keys,g]
 ·intro e b;rcases aZ.1 b with b|b;·exact h.kb e b
  ·exact i e b
 ·intro f c;rcases aZ.1 c with c|c;·exact h.items f c
  ·exact j f c
def q_.zip{V:f_ (VT 11)}(h:q_ V)(n:Nat):(V.keys++skeys V.filters).zip (V.items++sitems 9 V.filters n)=V.keys.zip V.items++(skeys V.filters).zip (sitems 9 V.filters n):=List.zip_append h.keys
def q_.zown{V:f_ (VT 11)}(h:q_ V):∀a∈V.keys.zip V.items,o_ (gj a.1)=CS:=λa b=>h.own a.1 (eA b).1
def yk{a:ByteArray}(h:o_ a=CS):a≠{data:=#[76,101,110,103,116,104]}/\a≠{data:=#[70,105,108,116,101,114]}:=by unfold o_ at h;simp only[Bool.or_eq_false_iff,du]at h;exact h
def DL{k b:Nat}{c:ByteArray}{V:f_ (VT k)}{a:VT k}(h:iu c V.keys V.items=[a])(d:kO a=b):itemOf c b V=O a:=by unfold itemOf;rw[h];exact ak d
def Dv{k:Nat}{V:f_ (VT k)}(h:iu {data:=#[70,105,108,116,101,114]} V.keys V.items=[]):iH V=O []:=by unfold iH l6;rw[h];rfl
def Dw{k:Nat}{V:f_ (VT k)}{a:VT k}(h:iu {data:=#[70,105,108,116,101,114]} V.keys V.items=[a])(b:kO a=6):iH V=l7 (iK a):=by unfold iH l6;rw[h];simp only[];rw[aj Y,ak b]
def q_.item{V:f_ (VT 11)}(h:q_ V)(a:Nat):itemOf {data:=#[76,101,110,103,116,104]} 2 (sdict 9 V a)=O (ik (VT 10) 2 (a:Int) 0 []:VT 11):=by
 have b:iu {data:=#[76,101,110,103,116,104]} (V.keys++skeys V.filters) (V.items++sitems 9 V.filters a)=[(ik (VT 10) 2 (a:Int) 0 []:VT 11)]:=by
  unfold iu;rw[h.zip,zZ,z7 (λx c=>(yk (h.zown x c)).1),cU];unfold skeys sitems;split;·exact(vZ _).1
  ·exact(v9 _ _).1
 exact DL (V:=sdict 9 V a) b rfl
def q_.of{a:f_ (VT 11)}(h:q_ a)(b:Nat):kq (k:=11) (sdict 9 a b)=O (⟨8,0,0,[],a.items,a.keys,a.filters⟩:f_ (VT 11)):=by
 have e0:iu {data:=#[70,105,108,116,101,114]} (a.keys++skeys a.filters) (a.items++sitems 9 a.filters b)=kC {data:=#[70,105,108,116,101,114]} ((skeys a.filters).zip (sitems 9 a.filters b)):=by unfold iu;rw[h.zip,zZ,z7 (λi g=>(yk (h.zown i g)).2),cU]
 have d:iH (k:=11) (sdict 9 a b)=O a.filters:=by
  by_cases c:a.filters=[]
  ·have e1:kC {data:=#[70,105,108,116,101,114]} ((skeys a.filters).zip (sitems 9 a.filters b))=[]:=by unfold skeys sitems;rw[ak c,ak c];exact(vZ _).2.1
   rw[c];exact Dv (V:=sdict 9 a b) (e0.t e1)
  ·have e1:kC {data:=#[70,105,108,116,101,114]} ((skeys a.filters).zip (sitems 9 a.filters b))=[namesV 9 a.filters]:=by unfold skeys sitems;rw[aj c,aj c];exact(v9 _ _).2.1
   have e2:iK (namesV 9 a.filters)=a.filters.map λe=>(4,bl (ii e)):=by exact dy
   rw[Dw (V:=sdict 9 a b) (e0.t e1) rfl,e2];exact zy _ h.fil
 have f:jW ((a.keys++skeys a.filters).zip (a.items++sitems 9 a.filters b))=a.keys.zip a.items:=by
  rw[h.zip,DM,Bb h.zown];have e1:jW ((skeys a.filters).zip (sitems 9 a.filters b))=[]:=by
   unfold skeys sitems;split;·exact(vZ _).2.2
   ·exact(v9 _ _).2.2
  rw[e1,bP]
 unfold kq;rw[d];show O (⟨8,0,0,[],(jW ((a.keys++skeys a.filters).zip (a.items++sitems 9 a.filters b))).map Prod.snd,(jW ((a.keys++skeys a.filters).zip (a.items++sitems 9 a.filters b))).map Prod.fst,a.filters⟩:f_ (VT 11))=_;rw[f,List.map_snd_zip (by have:=h.keys;omega),List.map_fst_zip (by have:=h.keys;omega)]
def tE{a:f_ (VT 11)}(h:q_ a){d:List Nat}(c:G d<10^10):pT (wstream 9 a d) ((⟨8,0,0,[],a.items,a.keys,a.filters⟩:f_ (VT 11)),d):=by
 intro r;have b:10::(wstream 9 a d++(10::([101,110,100,111,98,106]++(10::r))))=10::(gT (k:=12) (sdict 9 a (G d))++(10::([115,116,114,101,97,109]++(10::(d++(10::([101,110,100,115,116,114,101,97,109]++(10::([101,110,100,111,98,106]++(10::r)))))))))):=by unfold wstream;simp
 rw[b];unfold jo;rw[uJ rfl,ya (k:=12) (sdict 9 a (G d)) _ (h.rt c) (Av (oJ cO bF) (jV.cons bF) cO cO)];simp only[];rw[ak (by rfl),ph rfl,nB (oJ cO bF) (jV.cons bF)];simp only[];unfold kA;have i:gh [10] (10::(d++(10::([101,110,100,115,116,114,101,97,109]++(10::([101,110,100,111,98,106]++(10::r)))))))=O (d++(10::([101,110,100,115,116,114,101,97,109]++(10::([101,110,100,111,98,106]++(10::r)))))):=jG [10] _;rw[i];simp only[Option.some_or];rw[h.item];simp only[];have e:tK (k:=11) (ik (VT 10) 2 (G d:Int) 0 [])=(G d:Int):=rfl;rw[e,ak (by rw[ab];omega),Int.toNat_natCast,List.drop_left,List.take_left];have j:gh [10] (10::([101,110,100,115,116,114,101,97,109]++(10::([101,110,100,111,98,106]++(10::r)))))=O ([101,110,100,115,116,114,101,97,109]++(10::([101,110,100,111,98,106]++(10::r)))):=jG [10] _;rw[j];simp only[];obtain⟨f,g⟩:=xY (s:=[101,110,100,115,116,114,101,97,109]) (r:=10::([101,110,100,111,98,106]++(10::r))) bF (jV.cons bF);rw[f,g,ak rfl,h.of];rfl
end
end
section
variable{w a:vz}
def sT{k:Nat}(c:VT (k+1))(b:List Nat):VT (k+1):=({ (show f_ (VT k)from c)with text:=b }:f_ (VT k))
end
section
variable{C:Nat}{P:Nat->Prop}{S:ByteArray}{w w':vz}{p:Nat}{s t:Option (List Nat)}
def wN(a:Option ((VT 12×List Nat)×List Nat)):Prop:=a=N\/∃b c,a=O (b,c)/\4<(f_.filters (α:=VT 11) b.1).length
def FW(C:Nat)(S:ByteArray)(P:Nat->Prop)(c:Option ((VT 12×List Nat)×List Nat))(w:vz)(f:xc)(w':vz):Prop:=∃(b:wg) (t:Option (List Nat)),f=BX b/\n5 b/\kJ C S w w' t/\((t=N/\wN c)\/∃(a:VT 12×List Nat) (e:List Nat),c=O (a,e)/\t=O e/\iR (λd=>P d\/w.heap.size<=d) 12 w' b (sT (k:=11) a.1 a.2)/\∀g∈a.2,g<256)
def xd(w:vz)(P:Nat->Prop)(a:Nat):Prop:=(P a/\a<w.heap.size)\/w.heap.size+2<=a
def xd.ne{a:Nat}(h:xd w P a):a≠w.heap.size/\a≠w.heap.size+1:=by rcases h with h|h<;>omega
structure Sx(w:vz)(C:Nat)(S:ByteArray)(wx:vz)(t:Option (List Nat))(A:Array wg):Prop where
 lt:C<w.heap.size
 to_:kJ C S w wx t
 b3:wx.heap[w.heap.size]?=O (BV A 67 (0,0))
 b4:wx.heap[w.heap.size+1]?=O (BV iZ 67 (0,0))
def Sn.onlyS{a b:vz}{c:Nat}(h:Sn C S a p s)(e:iJ c a b)(d:C≠c):Sn C S b p s:=⟨by rw[e.block _ h.lt d];exact h.blk,h.lp,h.ls,h.rest⟩
def Sx.step{b:vz}{a:Array wg}{t':Option (List Nat)}(h:Sx w C S b t a)(k:kJ C S b w' t'):Sx w C S w' t' a:=
 ⟨h.lt,h.to_.t k,by have:=h.lt;rw[k.2.block _ (ap h.b3) Y];exact h.b3,by have:=h.lt;rw[k.2.block _ (ap h.b4) Y];exact h.b4⟩
def Sx.below{a:vz}{b:Array wg}(h:Sx w C S a t b)(k:wm a.heap.size a w'):Sx w C S w' t b:=by obtain⟨⟨p,c⟩,_⟩:=h.to_;exact h.step ⟨⟨p,c.other k⟩,.of_below k⟩
def Sx.alloc{c:vz}{a:Array wg}(h:Sx w C S c t a)(b:Obj):Sx w C S (c.alloc b) t a:=h.below ((ar _ _).alloc (ag _) b)
def Sx.only{c:vz}{d b:Array wg}{g:Nat}(h:Sx w C S c t d)(a:iJ g c w')(q:w.heap.size<=g)(j:w'.heap[w.heap.size]?=O (BV b 67 (0,0)))(l:g≠w.heap.size+1):Sx w C S w' t b:=by obtain⟨⟨p,n⟩,k⟩:=h.to_;have m:=h.lt;have o:=k.size;exact⟨m,⟨⟨p,n.onlyS a Y⟩,a.os.t k.os,a.tape.t k.tape,a.output.t k.output,aJ o a.size,λg f i=>(a.block g Y Y).t (k.block g f i)⟩,j,by rw[a.block _ (ap h.b4) (λe=>l e.s)];exact h.b4⟩
def Sx.put{c:vz}{b:Array wg}(h:Sx w C S c t b)(i:Nat)(a:wg):Sx w C S (c.setCell ⟨w.heap.size,i,N⟩ a) t (b.setIfInBounds i a):=
 h.only ((iJ.refl _ _).setCell i a) (ag _) (nu _ h.b3) Y
def Sx.set{i:vz}{m n o q r u v:wg}(h:Sx w C S i t #[m,n,o,q,r,u,v])(a b c d e f g:wg){j:vz}(l:j=((((((i.setCell ⟨w.heap.size,0,N⟩ a).setCell ⟨w.heap.size,1,N⟩ b).setCell ⟨w.heap.size,2,N⟩ c).setCell ⟨w.heap.size,3,N⟩ d).setCell ⟨w.heap.size,4,N⟩ e).setCell ⟨w.heap.size,5,N⟩ f).setCell ⟨w.heap.size,6,N⟩ g):Sx w C S j t #[a,b,c,d,e,f,g]/\iJ w.heap.size i j:=by
 have k:=qu i w.heap.size a b c d e f g;rw[<-l]at k;exact⟨h.only k (ag _) (by rw[l];exact Ak h.b3 a b c d e f g) Y,k⟩
def Sx.set2{a:vz}{D E F J K L M:wg}(h:Sx w C S a t #[D,E,F,J,K,L,M])(e f g i j k l m n o q r u v:wg){c:vz}(z:c=(((((((((((((((a.alloc (BV iZ 67)).setCell ⟨w.heap.size,0,N⟩ e).setCell ⟨w.heap.size,1,N⟩ f).setCell ⟨w.heap.size,2,N⟩ g).setCell ⟨w.heap.size,3,N⟩ i).setCell ⟨w.heap.size,4,N⟩ j).setCell ⟨w.heap.size,5,N⟩ k).setCell ⟨w.heap.size,6,N⟩ l).setCell ⟨a.heap.size,0,N⟩ m).setCell ⟨a.heap.size,1,N⟩ n).setCell ⟨a.heap.size,2,N⟩ o).setCell ⟨a.heap.size,3,N⟩ q).setCell ⟨a.heap.size,4,N⟩ r).setCell ⟨a.heap.size,5,N⟩ u).setCell ⟨a.heap.size,6,N⟩ v)):Sx w C S c t #[e,f,g,i,j,k,l]/\c.heap[a.heap.size]?=O (BV #[m,n,o,q,r,u,v] 67 (0,0))/\∀b,b<a.heap.size->b≠w.heap.size->c.heap[b]?=a.heap[b]?:=by
 have W:=ap h.b4;obtain⟨d,A⟩:∃d,d=((((((((a.alloc (BV iZ 67)).setCell ⟨w.heap.size,0,N⟩ e).setCell ⟨w.heap.size,1,N⟩ f).setCell ⟨w.heap.size,2,N⟩ g).setCell ⟨w.heap.size,3,N⟩ i).setCell ⟨w.heap.size,4,N⟩ j).setCell ⟨w.heap.size,5,N⟩ k).setCell ⟨w.heap.size,6,N⟩ l):=⟨_,rfl⟩;obtain⟨B,y⟩:=(h.alloc (BV iZ 67)).set e f g i j k l A;rw[<-A]at z;have V:d.heap[a.heap.size]?=O (BV iZ 67 (0,0)):=by rw[y.block _ cO Y];exact bn _ _
 have x:=qu d a.heap.size m n o q r u v;have e2:=uG V m n o q r u v;rw[<-z]at x e2;have T:=y.size;simp only[aV]at T;refine⟨B.only x Y (by rw[x.block _ Y Y];exact B.b3) Y,e2,λb Q R=>?_⟩;rw[x.block b Y Y,y.block b eS R];exact((ar a.heap.size a).alloc (ag _) (BV iZ 67)).block b Q
def iR.kindTo{P:Nat->Prop}{k:Nat}{r g i j a b c:wg}{d:f_ (VT k)}(h:iR P (k+1) w (Bc #[r,g,i,j,a,b,c]) d)(f:Nat):iR P (k+1) w (Bc #[I U f,g,i,j,a,b,c]) ({ d with kind:=f }:f_ (VT k)):=by obtain⟨v,x,u,q,e,o,m,l,n,hF⟩:=h.parts;simp[nV]at e;obtain⟨rfl,rfl,rfl,rfl,rfl,rfl,rfl⟩:=e;exact⟨a,b,c,q,rfl,o,m,l,n,hF⟩
def iR.textTo{P:Nat->Prop}{k:Nat}{f g i q a b c:wg}{V:f_ (VT k)}(h:iR P (k+1) w (Bc #[f,g,i,q,a,b,c]) V)(e:List Nat):iR P (k+1) w (Bc #[f,g,i,y7 (gj e),a,b,c]) ({ V with text:=e }:f_ (VT k)):=by obtain⟨u,v,r,o,d,n,l,j,m,hF⟩:=h.parts;simp[nV]at d;obtain⟨rfl,rfl,rfl,rfl,rfl,rfl,rfl⟩:=d;exact⟨a,b,c,o,rfl,n,l,j,m,hF⟩
def iR.filtersTo{P:Nat->Prop}{k:Nat}{g i j l c d x:wg}{e:f_ (VT k)}(h:iR P (k+1) w (Bc #[g,i,j,l,c,d,x]) e){b:wg}{a:List Nat}(u:j4 P w 3 1 b (G a) (a.map λm:Nat=>I U m)):iR P (k+1) w (Bc #[g,i,j,l,c,d,b]) ({ e with filters:=a }:f_ (VT k)):=by obtain⟨y,z,b,v,f,r,o,n,q,hF⟩:=h.parts;simp[nV]at f;obtain⟨rfl,rfl,rfl,rfl,rfl,rfl,rfl⟩:=f;exact⟨c,d,_,v,rfl,r,o,n,q,u⟩
structure Sy(w:vz)(C:Nat)(P:Nat->Prop)(S:ByteArray)(g5 g7:Nat)(D5 D7:Array wg)(F:List (VT 11))(wx:vz)(t:Option (List Nat))(A:Array wg)(VV:f_ (VT 11)):Prop where
 sx:Sx w C S wx t A
 hb:∀g,P g->C≠g
 h5:w.heap.size+2<=g5
 h7:w.heap.size+2<=g7
 d5:wx.heap[g5]?=O (BV D5 67 (0,0))
 d7:wx.heap[g7]?=O (BV D7 67 (0,0))
 vin:iR (xd w P) 12 wx (Bc A) VV
 fnd:px (xd w P) 11 wx (Bc D7) F
section
variable{f j:Nat}{b c:Array wg}{F:List (VT 11)}{a:vz}{A:Array wg}{d:f_ (VT 11)}
def Sy.step{t':Option (List Nat)}(h:Sy w C P S f j b c F a t A d)(k:kJ C S a w' t'):Sy w C P S f j b c F w' t' A d:=by have u:=h.sx.lt;have n:=h.h5;have o:=h.h7;have i:=h.hb;have l:∀e,xd w P e->e<a.heap.size->w'.heap[e]?=a.heap[e]?:=λe g q=>k.2.block e q (by rcases g with g|g;exact λm=>i e g.1 m.s;omega);exact⟨h.sx.step k,i,n,o,by rw[k.2.block _ (ap h.d5) Y];exact h.d5,by rw[k.2.block _ (ap h.d7) Y];exact h.d7,iR.keep 12 h.vin l,h.fnd.imp λv r=>iR.keep 11 r l⟩
def Sy.put(h:Sy w C P S f j b c F a t A d)(i:Nat)(e:wg){l:f_ (VT 11)}(u:iR (xd w P) 12 a (Bc (A.setIfInBounds i e)) l):Sy w C P S f j b c F (a.setCell ⟨w.heap.size,i,N⟩ e) t (A.setIfInBounds i e) l:=by have n:=h.h5;have o:=h.h7;have k:iJ w.heap.size a (a.setCell ⟨w.heap.size,i,N⟩ e):=(iJ.refl _ _).setCell i e;have m:∀g,xd w P g->g<a.heap.size->(a.setCell ⟨w.heap.size,i,N⟩ e).heap[g]?=a.heap[g]?:=λg q r=>k.block g r q.ne.1;exact⟨h.sx.put i e,h.hb,n,o,by rw[k.block _ (ap h.d5) Y];exact h.d5,by rw[k.block _ (ap h.d7) Y];exact h.d7,iR.keep 12 u m,h.fnd.imp λx v=>iR.keep 11 v m⟩
def Sy.fin{l m n o q r u:wg}(h:Sy w C P S f j b c F a t #[l,m,n,o,q,r,u] d){W:vz}(y:W=((((((a.setCell ⟨w.heap.size+1,0,N⟩ l).setCell ⟨w.heap.size+1,1,N⟩ m).setCell ⟨w.heap.size+1,2,N⟩ n).setCell ⟨w.heap.size+1,3,N⟩ o).setCell ⟨w.heap.size+1,4,N⟩ q).setCell ⟨w.heap.size+1,5,N⟩ r).setCell ⟨w.heap.size+1,6,N⟩ u):W.heap[w.heap.size+1]?=O (BV #[l,m,n,o,q,r,u] 67 (0,0))/\kJ C S w W t/\iR (λe=>P e\/w.heap.size<=e) 12 W (Bc #[l,m,n,o,q,r,u]) d:=by
 have i:=qu a (w.heap.size+1) l m n o q r u;have x:=uG h.sx.b4 l m n o q r u;rw[<-y]at i x;obtain⟨⟨p,z⟩,k⟩:=h.sx.to_;have D:=h.sx.lt;have B:=k.size;exact⟨x,⟨⟨p,z.onlyS i Y⟩,i.os.t k.os,i.tape.t k.tape,i.output.t k.output,aJ B i.size,λe g v=>(i.block e Y Y).t (k.block e g v)⟩,iR.m 12 (iR.keep 12 h.vin (λe g v=>i.block e v g.ne.2)) (λe g _=>by rcases g with g|g;exact C1 g.1;exact C2 Y)⟩
end
def Nw(a:Int):rL a N=N:=rfl
def se{a:f_ (VT 11)}{r:List Nat}{q x:Nat}{A g:Int}{B:Bool}{k n:Option (List Nat)}{D:List Nat}(E:q=(iu kL a.keys a.items).length)(F:∀b,iu kL a.keys a.items=[b]->A=kO b/\g=tK b)(R:1<x->iH a=N)(u:(!decide (q=1/\x<=1/\A=2/\0<=g))=B)(f:(if B=CD then N else O r)=k)
  (J:(n=N/\(k=N\/iH a=N\/∃y,iH a=O y/\4<G y))\/(n=k/\(k=N\/iH a=O D))):(rL g n=N->wN (kA a r))/\(∀l o,rL g n=O (l,o)->0<=g/\kA a r=O ((⟨8,0,0,[],(lR a).items,(lR a).keys,D⟩,l),o)):=by
 have L:∀i,iH a=O i->kq a=O ⟨8,0,0,[],(lR a).items,(lR a).keys,i⟩:=λi m=>by unfold kq;rw[m,(sU a).1,(sU a).2.1];rfl
 have K:iH a=N->kq a=N:=λm=>by unfold kq;rw[m];rfl
 have V:∀i:List (VT 11),G i=1->∃b,i=[b]:=λi m=>by
  match i,m with
  | [b],_=>exact⟨b,rfl⟩
 by_cases j:q=1/\x<=1/\A=2/\0<=g
 ·rw[aH j]at u;subst u;have f:k=O r:=f.s;obtain⟨b,e⟩:=V _ (E.s.t j.1);obtain⟨e0,e1⟩:=F b e;have v:=NU a r b e (by have:=j.2.2.1;omega) (by have:=j.2.2.2;omega);rw[<-e1]at v;rcases J with⟨d,c⟩|⟨d,c⟩
  ·rw[d,Nw];refine⟨λ_=>?_,λl o h=>by cases h⟩;rcases c with c|c|⟨y,c,Q⟩;·rw[f]at c;cases c
   ·left;rw[v,K c];cases rL g (O r)<;>rfl
   ·rw[v,L _ c];cases rL g (O r)with
    |none=>exact C1 rfl
    |some W=>exact C2 ⟨_,_,rfl,Q⟩
  ·rw[d,f];have c:=c.resolve_left (by rw[f];simp);rw[v,L _ c];refine⟨λh=>?_,λl o h=>?_⟩;·left;rw[h];rfl
   ·rw[h];exact⟨j.2.2.2,rfl⟩
 ·rw[av j]at u;subst u;have f:k=N:=f.s;have d:n=N:=by rcases J with h|h;exact h.1;exact h.1.t f
  rw[d,Nw];refine⟨λ_=>C1 ?_,λl o h=>by cases h⟩;by_cases e:∃b,iu kL a.keys a.items=[b]/\kO b=2/\0<=tK b
  ·obtain⟨b,e,d,M⟩:=e;obtain⟨e0,e1⟩:=F b e;have z:q=1:=by rw[E,e];rfl
   have T:=R (Nat.lt_of_not_le λh=>j ⟨z,h,Y,Y⟩);rw[NU a r b e d M,K T];cases rL (tK b) (O r)<;>rfl
  ·exact Tw a r (λb z d c=>e ⟨b,z,d,c⟩)
def qg{a:vz}{b:Nat}{c d e f g i j:wg}(h:a.heap[b]?=O (BV #[c,d,e,f,g,i,j] 67 (0,0))):(a.cell? ⟨b,0,N⟩=O c/\a.cell? ⟨b,1,N⟩=O d/\a.cell? ⟨b,2,N⟩=O e/\a.cell? ⟨b,3,N⟩=O f/\a.cell? ⟨b,4,N⟩=O g/\a.cell? ⟨b,5,N⟩=O i/\a.cell? ⟨b,6,N⟩=O j) /\
  a.frozen? ⟨b,0,N⟩=CS/\a.frozen? ⟨b,1,N⟩=CS/\a.frozen? ⟨b,2,N⟩=CS/\a.frozen? ⟨b,3,N⟩=CS/\a.frozen? ⟨b,4,N⟩=CS/\a.frozen? ⟨b,5,N⟩=CS/\a.frozen? ⟨b,6,N⟩=CS:=
 ⟨⟨cb h,cb h,cb h,cb h,cb h,cb h,cb h⟩,pA h,pA h,pA h,pA h,pA h,pA h,pA h⟩
def JL{bs:wg}{c:f_ (VT 11)}{r:List Nat}(h:Sn C S w p (O r))(hv:iR P 12 w bs c)(hb:∀g,P g->C≠g)(hM:oP 200000 (k:=12) c)(dd:c.kind=7):wh DG 175 #[A3 (O ⟨C,0,N⟩),bs] w (FW C S P (kA c r) w):=by
 have fu:=h.lt;obtain⟨n0,n1,n2,bx,ja,jl,jc,ka,kl,kc,fa,fl,fc,rfl⟩:=hv.form;obtain⟨W0,bz⟩:∃W0,(w.alloc (BV #[I U n0,I U n1,I U n2,y7 bx,Z ja jl jc,Z ka kl kc,Z fa fl fc] 67)).alloc (BV iZ 67)=W0:=⟨_,rfl⟩;have b0:wm w.heap.size w W0:=by rw[<-bz];exact((ar _ _).alloc (ag _) _).alloc cO _
 have g3:W0.heap.size=w.heap.size+2:=by rw[<-bz];simp
 have a9:wt (Sx w C S W0 (O r) #[I U n0,I U n1,I U n2,y7 bx,Z ja jl jc,Z ka kl kc,Z fa fl fc]):=by
  refine⟨fu,⟨⟨p,h.other b0⟩,.of_below b0⟩,?_,?_⟩;·rw[<-bz];exact nt _ (bn _ _)
  ·rw[<-bz];have:=bn (w.alloc (BV #[I U n0,I U n1,I U n2,y7 bx,Z ja jl jc,Z ka kl kc,Z fa fl fc] 67)) (BV iZ 67);rw[aV]at this;exact this
 have es:iR (λg=>P g/\g<w.heap.size) 12 W0 (Bc #[I U n0,I U n1,I U n2,y7 bx,Z ja jl jc,Z ka kl kc,Z fa fl fc]) c:=iR.keep 12 (iR.m 12 hv (λg a f=>⟨a,f⟩)) (λg a _=>b0.block g a.2);have H1:wt (wh DG 172 #[Bc #[I U n0,I U n1,I U n2,y7 bx,Z ja jl jc,Z ka kl kc,Z fa fl fc],y7 {data:=#[76,101,110,103,116,104]}] W0 _):=rV kL es (Nat.le_of_eq (hM.2.2.1 dd)) (aJ hM.2.1 Y);have eb:wt ((w.alloc (BV #[I U n0,I U n1,I U n2,y7 bx,Z ja jl jc,Z ka kl kc,Z fa fl fc] 67)).alloc (BV #[I U 0,I U 0,I U 0,y7 {data:=#[]},Z N 0 0,Z N 0 0,Z N 0 0] 67)=W0):=bz;have HM:=H (And.intro hM dd);clear h hv es b0 bz hM dd
 go_in
 go_upto_region 1 with fail
 rw[eb.o];go_cut [5,6]from 10 (λu5 u6 x=>∃(J c1:Nat) (A1 D1:Array wg),u5=A3 (O ⟨J,0,N⟩)/\u6=I U (c1:Nat)/\w.heap.size+2<=J/\n5 (Bc A1)/\n5 (Bc D1)/\wt (Sx w C S x (O r) A1)/\wt (x.heap[J]?=O (BV D1 67 (0,0)))/\wt (iR (xd w P) 12 x (Bc A1) (l9 kL c))/\wt (c1=(iu kL c.keys c.items).length)/\wt (px (xd w P) 11 x (Bc D1) (iu kL c.keys c.items)))
 case first=>
  have c0:=cb (i:=0) a9.b3;have c1:=cb (i:=1) a9.b3;have F:=cb (i:=2) a9.b3;have c3:=cb (i:=3) a9.b3;have c4:=cb (i:=4) a9.b3;have c5:=cb (i:=5) a9.b3;have c6:=cb (i:=6) a9.b3;go_wp2_with fail;apply H1.o.m;rintro a7 w1 ⟨v1,gv,rfl,q,dg,c9⟩;obtain⟨a0,a1,a2,a3,aa,al,ac,ba,cy,bc,ca,cl,cc,rfl⟩:=iR.form dg;obtain⟨v,j,k2,k3,W,dl,X,ea,el,ec,ga,gl,gc,rfl⟩:=c9.form;have bf:=H (a9.below q);have fw:¬w1.heap.size=w.heap.size:=by have:=ap bf.b3;omega
  obtain⟨⟨s0,s1,s2,s3,s4,s5,s6⟩,z0,z1,z2,z3,z4,z5,z6⟩:=qg (bf.alloc (BV #[I U 0,I U 0,I U 0,y7 {data:=#[]},Z N 0 0,Z N 0 0,Z N 0 0] 67)).b3;clear c0 c1 F c3 c4 c5 c6;go_wp2
  go_meet
  case rel=>have hx:=bf.o.set2 (I U a0) (I U a1) (I U a2) (y7 a3) (Z aa al ac) (Z ba cy bc) (Z ca cl cc) (I U v) (I U j) (I U k2) (y7 k3) (Z W dl X) (Z ea el ec) (Z ga gl gc) rfl;have fx:=q.size;have ce:∀{k:Nat} {ad:wg} {d:VT k},iR (λg=>(P g/\g<w.heap.size)\/W0.heap.size<=g) k w1 ad d->iR (xd w P) k _ ad d:=λ{k ad d} hh=>iR.m k (iR.keep k hh (λg a f=>hx.2.2 g f (by rcases a with a|a<;>omega))) (λg a _=>(by rcases a with a|a;exact C1 a;exact C2 Y));refine⟨w1.heap.size,_,_,_,rfl,rfl,Y,iR.form dg,c9.form,hx.1,hx.2.1,ce dg,rfl,?_⟩;exact c9.imp (λd K=>ce (iR.m 11 K (λg a _=>C1 a)))
 case rest=>
 obtain⟨J,c1,A1,D1,rfl,rfl,fi,⟨a0,a1,a2,a3,aa,al,ac,ba,cy,bc,ca,cl,cc,hA⟩,⟨v,j,k2,k3,W,dl,X,ea,el,ec,ga,gl,gc,hD⟩,bf,co,d4,ey,ds⟩:=hcut;injection hA with hA;injection hD with hD;subst hA;subst hD;obtain⟨w1,gb⟩:∃w1,w1=wc:=⟨_,rfl⟩;subst gb;have e5:wt (∀d,iu kL c.keys c.items=[d]->v=kO d/\j=tK d):=λd K=>ds.o.one K;have H2:wt (wh DG 172 #[Bc #[I U a0,I U a1,I U a2,y7 a3,Z aa al ac,Z ba cy bc,Z ca cl cc],y7 {data:=#[70,105,108,116,101,114]}] w1 _):=rV kF d4 (by simp[l9]) (by have a:=HM.o.1.2.1;have f:(iy kL (c.keys.zip c.items)).length<=(c.keys.zip c.items).length:=List.length_filter_le _ _;rw[eH]at f;have h3:(f_.keys (α:=VT 11) c).length<=200000:=a;simp only[l9,aq];omega)
 rw[uC]at H2;clear ds H1 a9 eb
 go_upto_region 2 with fail
 go_cut [7,8]from 10 (λu7 u8 x=>∃(Q F:Nat) (A2 D2:Array wg),u7=A3 (O ⟨Q,0,N⟩)/\u8=I U (F:Nat)/\w.heap.size+2<=Q/\n5 (Bc A2)/\n5 (Bc D2)/\wt (Sx w C S x (O r) A2)/\wt (x.heap[J]?=O (BV #[I U v,I U j,I U k2,y7 k3,Z W dl X,Z ea el ec,Z ga gl gc] 67 (0,0)))/\wt (x.heap[Q]?=O (BV D2 67 (0,0)))/\wt (iR (xd w P) 12 x (Bc A2) (lR c))/\wt (F=(iu kF c.keys c.items).length)/\wt (px (xd w P) 11 x (Bc D2) (iu kF c.keys c.items)))
 case first=>
  obtain⟨⟨r0,r1,r2,r3,r4,r5,r6⟩,f0,f1,f2,f3,f4,f5,f6⟩:=qg bf.b3;clear f0 f1 f2 f3 f4 f5 f6;go_wp2_with fail;apply H2.o.m;rintro a7 w2 ⟨v2,gw,rfl,u,di,db⟩;obtain⟨b0,q,e8,V,m,A,z,B,E,D,la,ll,lc,rfl⟩:=iR.form di;obtain⟨l0,l1,l2,l3,ma,ml,mc,oa,ol,oc,pa,pl,pc,rfl⟩:=db.form;have bh:=H (bf.below u);have fw:¬w2.heap.size=w.heap.size:=by have:=ap bh.b3;omega
  obtain⟨⟨s0,s1,s2,s3,s4,s5,s6⟩,z0,z1,z2,z3,z4,z5,z6⟩:=qg (bh.alloc (BV #[I U 0,I U 0,I U 0,y7 {data:=#[]},Z N 0 0,Z N 0 0,Z N 0 0] 67)).b3;clear r0 r1 r2 r3 r4 r5 r6;go_wp2
  go_meet
  case rel=>
   have hx:=bh.o.set2 (I U b0) (I U q) (I U e8) (y7 V) (Z m A z) (Z B E D) (Z la ll lc) (I U l0) (I U l1) (I U l2) (y7 l3) (Z ma ml mc) (Z oa ol oc) (Z pa pl pc) rfl;have fx:=u.size;have h5:=ap co;have h4:=ap bf.b4;have ce:∀{k:Nat} {ad:wg} {d:VT k},iR (λg=>xd w P g\/w1.heap.size<=g) k w2 ad d->iR (xd w P) k _ ad d:=λ{k ad d} hh=>iR.m k (iR.keep k hh (λg a f=>hx.2.2 g f (by rcases a with a|a;exact a.ne.1;omega))) (λg a _=>(by rcases a with a|a;exact a;exact C2 Y));refine⟨w2.heap.size,_,_,_,rfl,rfl,Y,iR.form di,db.form,hx.1,?_,hx.2.1,ce di,rfl,?_⟩;·exact(hx.2.2 J Y Y).t ((u.block _ h5).t co)
   ·exact db.imp (λd K=>ce (iR.m 11 K (λg a _=>C1 a)))
 case rest=>
 obtain⟨Q,F,A2,D2,rfl,rfl,fm,⟨b0,q,u,V,m,A,z,B,E,D,la,ll,lc,hA⟩,⟨l0,l1,l2,l3,ma,ml,mc,oa,ol,oc,pa,pl,pc,hD⟩,bh,dm,dp,d6,cn,dv⟩:=hcut;injection hA with hA;injection hD with hD;subst hA;subst hD;obtain⟨w2,gd⟩:∃w2,w2=wc:=⟨_,rfl⟩;subst gd;have cx:wt (Sy w C P S J Q #[I U v,I U j,I U k2,y7 k3,Z W dl X,Z ea el ec,Z ga gl gc] #[I U l0,I U l1,I U l2,y7 l3,Z ma ml mc,Z oa ol oc,Z pa pl pc] (iu kF c.keys c.items) w2 (O r) #[I U b0,I U q,I U u,y7 V,Z m A z,Z B E D,Z la ll lc] (lR c)):=⟨bh,hb,fi,fm,dm,dp,d6,dv⟩;have bm:wt (Sy w C P S J Q #[I U v,I U j,I U k2,y7 k3,Z W dl X,Z ea el ec,Z ga gl gc] #[I U l0,I U l1,I U l2,y7 l3,Z ma ml mc,Z oa ol oc,Z pa pl pc] (iu kF c.keys c.items) (w2.setCell ⟨w.heap.size,0,N⟩ (I U 8)) (O r) #[I U 8,I U q,I U u,y7 V,Z m A z,Z B E D,Z la ll lc] { lR c with kind:=8 }):=cx.o.put 0 (I U 8) (iR.kindTo cx.vin 8);have y0:=(qg bh.b3).1.1;have y1:=(qg bh.b3).2.1;have e6:wt (∀d∈iu kF c.keys c.items,(lz d).length<=200000):=λd K=>by
  have a:oP 200000 d:=HM.o.1.2.2.2.2.2 d (tL K);unfold lz;split
  ·show((f_.items (α:=VT 10) d).map kt).length<=_;rw[aq];exact a.1
  ·simp
 have cp:=H (tY c);generalize iu kF c.keys c.items=PF at *;obtain⟨W3,c8⟩:∃W3,w2.setCell ⟨w.heap.size,0,N⟩ (I U 8)=W3:=⟨_,rfl⟩;have ei:=H c8;rw[c8]at bm;clear co d4 bf H2 bh dm dp d6 dv cx c8
 go_upto_region 4 with fail
 rw[ei.o];clear y0 y1 ei;have y0:=(qg bm.d5).1.1;have y1:=(qg bm.d5).1.2.1;obtain⟨ao,hG⟩:∃ao,(!decide (c1=1/\F<=1/\v=2/\0<=j))=ao:=⟨_,rfl⟩;go_cut [38]from 10 (λbv x=>bv=Bs ao/\x=W3)
 case first=>
  by_cases q0:c1=1
  ·have m0:((c1:Int) != 1)=CS:=eS;by_cases q1:F<=1
   ·have m1:decide (1<(F:Int))=CS:=eS;by_cases q2:v=2
    ·have m2:(v != 2)=CS:=eS;by_cases q3:0<=j
     ·have m3:decide (j<0)=CS:=eS;have HD:wt (ao=CS):=by rw[<-hG,aH ⟨q0,q1,q2,q3⟩];rfl
      clear hG q0 q1 q2 q3;go_wp2
      go_meet
      case rel=>exact⟨by rw[HD.o],rfl⟩
     ·have m3:decide (j<0)=CD:=eS;have HD:wt (ao=CD):=by rw[<-hG,av (λh=>q3 h.2.2.2)];rfl
      clear hG q0 q1 q2 q3;go_wp2
      go_meet
      case rel=>exact⟨by rw[HD.o],rfl⟩
    ·have m2:(v != 2)=CD:=eS;have HD:wt (ao=CD):=by rw[<-hG,av (λh=>q2 h.2.2.1)];rfl
     clear hG q0 q1 q2;go_wp2
     go_meet
     case rel=>exact⟨by rw[HD.o],rfl⟩
   ·have m1:decide (1<(F:Int))=CD:=eS;have HD:wt (ao=CD):=by rw[<-hG,av (λh=>q1 h.2.1)];rfl
    clear hG q0 q1;go_wp2
    go_meet
    case rel=>exact⟨by rw[HD.o],rfl⟩
  ·have m0:((c1:Int) != 1)=CD:=eS;have HD:wt (ao=CD):=by rw[<-hG,av (λh=>q0 h.1)];rfl
   go_wp2
   go_meet
   case rel=>exact⟨by rw[HD.o],rfl⟩
 case rest=>
 obtain⟨rfl,dk⟩:=hcut;have dk:=dk.s;subst dk;have HG:=H hG;obtain⟨L,f8⟩:∃L,(if ao=CD then N else O r)=L:=⟨_,rfl⟩;have b8:=H f8
 go_upto_if 38 with fail
 go_cut []from 10 (λx=>wt (Sy w C P S J Q #[I U v,I U j,I U k2,y7 k3,Z W dl X,Z ea el ec,Z ga gl gc] #[I U l0,I U l1,I U l2,y7 l3,Z ma ml mc,Z oa ol oc,Z pa pl pc] PF x L #[I U 8,I U q,I U u,y7 V,Z m A z,Z B E D,Z la ll lc] { lR c with kind:=8 }))
 case first=>
  obtain⟨⟨p3,h3⟩,o3⟩:=bm.o.sx.to_;cases ao with
  |true=>
   have HE:wt (L=N):=b8.o.s;have bb:=H (tZ h3);go_wp2_with fail;apply bb.o.m;rintro a7 w4 ⟨rfl,h4,o4⟩;have a4:wt (Sy w C P S J Q #[I U v,I U j,I U k2,y7 k3,Z W dl X,Z ea el ec,Z ga gl gc] #[I U l0,I U l1,I U l2,y7 l3,Z ma ml mc,Z oa ol oc,Z pa pl pc] PF w4 L #[I U 8,I U q,I U u,y7 V,Z m A z,Z B E D,Z la ll lc] { lR c with kind:=8 }):=by rw[HE.o];exact bm.step ⟨⟨_,h4⟩,o4⟩
   go_wp2
   go_meet
   case rel=>exact a4
  |false=>
   have HE:wt (L=O r):=b8.o.s;have a4:wt (Sy w C P S J Q #[I U v,I U j,I U k2,y7 k3,Z W dl X,Z ea el ec,Z ga gl gc] #[I U l0,I U l1,I U l2,y7 l3,Z ma ml mc,Z oa ol oc,Z pa pl pc] PF W3 L #[I U 8,I U q,I U u,y7 V,Z m A z,Z B E D,Z la ll lc] { lR c with kind:=8 }):=by rw[HE.o];exact bm
   clear h3 o3;go_wp2
   go_meet
   case rel=>exact a4
 case rest=>
 obtain⟨w4,gf⟩:∃w4,w4=wc:=⟨_,rfl⟩;subst gf;have a4:=H hcut;clear hcut bm
 go_upto_if 42 with fail
 go_cut []from 10 (λx=>∃(R:Option wT) (xl T:Nat) (fs:List Nat) (M:Option (List Nat)),wt (Sy w C P S J Q #[I U v,I U j,I U k2,y7 k3,Z W dl X,Z ea el ec,Z ga gl gc] #[I U l0,I U l1,I U l2,y7 l3,Z ma ml mc,Z oa ol oc,Z pa pl pc] PF x M #[I U 8,I U q,I U u,y7 V,Z m A z,Z B E D,Z R xl T] { lR c with kind:=8,filters:=fs })/\wt ((M=N/\(L=N\/iH c=N\/∃em,iH c=O em/\4<G em))\/(M=L/\(L=N\/iH c=O fs))))
 case first=>
  by_cases hq:F=1
  ·have m1:((F:Int)==1)=CD:=by rw[hq];rfl
   obtain⟨d,K⟩:∃d,PF=[d]:=by
    have:=cn.o;rw[hq]at this;match PF,this with
    | [d],_=>exact⟨d,rfl⟩
   have et:iR (xd w P) 11 w4 (Bc #[I U l0,I U l1,I U l2,y7 l3,Z ma ml mc,Z oa ol oc,Z pa pl pc]) d:=by have:=a4.o.fnd;rw[K]at this;exact this
   obtain⟨⟨p4,h4⟩,o4⟩:=a4.o.sx.to_;have e3:=H (Rx h4 et (e6 d (by rw[K];simp)));have e4:wt (iH c=l7 (lz d)):=by have:=cp.o;rw[K]at this;exact this
   obtain⟨⟨r0,r1,r2,r3,r4,r5,r6⟩,f0,f1,f2,f3,f4,f5,f6⟩:=qg a4.d7;have g4:=ap a4.sx.b4;generalize lz d=KT at *;clear f0 f1 f2 f3 f4 f5 f6 hq et h4 o4 K;go_wp2_with fail;apply e3.o.m;rintro a7 w5 ⟨fv,rfl,ci,k5⟩;obtain⟨R,T,fd⟩:=ke ci;subst fd;have br:=H (a4.step k5);have e7:wt (j4 (xd w P) w5 3 1 (Z R (G KT) T) (KT.map λad=>j7 (gj ad.2)).length ((KT.map λad=>j7 (gj ad.2)).map λe9:Nat=>I U e9)):=by
    refine j4.of (b:=w4.heap.size) ?_ (λg hg=>?_);·rw[aq,dy];exact ci
    ·have:=(ci.lt g hg).1;exact C2 Y
   have b9:=H (br.put 6 (Z R (G KT) T) (iR.filtersTo br.vin e7));have c6:=(qg br.sx.b3).1.2.2.2.2.2.2;have f6:=(qg br.sx.b3).2.2.2.2.2.2.2;clear ci k5 r0 r1 r2 r3 r4 r5 r6;go_wp2
   go_meet
   case rel=>
    refine⟨R,G KT,T,_,_,b9,?_⟩;have hf:=e4.o;rw[rF]at hf;unfold uu;by_cases m:KT.all l8=CD
    ·rw[ak m]at hf;by_cases hN:KT=[]\/(G KT)<=4;·rw[ak ⟨hN,m⟩];exact C2 ⟨rfl,C2 hf⟩
     ·rw[aj (λh=>hN h.1)];exact C1 ⟨rfl,C2 (C2 ⟨_,hf,by rw[aq];have:=λh=>hN (C2 h);omega⟩)⟩
    ·rw[aj m]at hf;rw[aj (λh=>m h.2)];exact C1 ⟨rfl,C2 (C1 hf)⟩
  ·have m1:((F:Int)==1)=CS:=eS;have HE:wt (L=N\/iH c=O []):=by
    have a:=cn.o;have f:=cp.o;match PF,a,f with
    | [],a,f=>exact C2 f
    | [d],a,f=>exact absurd a hq
    |d::gs::gk,a,f=>left;rw[<-b8.o,<-HG.o,av (λh=>by have:=h.2.1;simp at a;omega)];rfl
   have b9:wt (Sy w C P S J Q #[I U v,I U j,I U k2,y7 k3,Z W dl X,Z ea el ec,Z ga gl gc] #[I U l0,I U l1,I U l2,y7 l3,Z ma ml mc,Z oa ol oc,Z pa pl pc] PF w4 L #[I U 8,I U q,I U u,y7 V,Z m A z,Z B E D,Z la ll lc] { lR c with kind:=8,filters:=[]}):=by
    have a:=((sU c).2.2).t HM.1.2.2.2.2.1;have f:=a4.o;have h3:({ lR c with kind:=8 }:f_ (VT 11))={ lR c with kind:=8,filters:=[]}:=by rw[<-a]
    rw[h3]at f;exact f
   go_wp2
   go_meet
   case rel=>exact⟨la,ll,lc,[],L,b9,C2 ⟨rfl,HE⟩⟩
 case rest=>
 obtain⟨R,xl,T,fs,M,br,d2⟩:=hcut;obtain⟨w5,gi⟩:∃w5,w5=wc:=⟨_,rfl⟩;subst gi;have ez:wt (1<F->iH c=N):=λh=>by
  have a:=cn.o;have f:=cp.o;match PF,a,f with
  | [],a,f=>simp at a;omega
  | [d],a,f=>simp at a;omega
  |d::gs::gk,a,f=>exact f
 have b6:=H (se ey e5 ez HG b8 d2);obtain⟨⟨p5,h5⟩,o5⟩:=br.o.sx.to_;have H6:=H (zT h5 {data:=#[13]} bF);rw[show bl {data:=#[13]}=[13]from rfl]at H6;go_wp2_with fail;apply H6.o.m;rintro a7 w6 ⟨rfl,k6⟩;have b9:=H (br.step k6);obtain⟨p6,h6⟩:=k6.1;have H7:=H (Bl h6 {data:=#[10]} bF);rw[show bl {data:=#[10]}=[10]from rfl]at H7;go_wp2_with fail;apply H7.o.m;rintro a7 w7 ⟨rfl,k7⟩;have cd:=H (b9.step k7);obtain⟨t4,er⟩:∃t4,(cS [13] M).bind (gh [10])=t4:=⟨_,rfl⟩;rw[er]at cd k7;have cf:=H er;obtain⟨l,h7⟩:=k7.1;have c0:=h7.c0;have cg:=h7.c1;have ek:=h7.c2;have g0:=h7.lp;have g1:=h7.ls;have y1:=(qg cd.d5).1.2.1;have bd:=H h7;generalize cB [13] M=CB at *;cases t4 with
 |none=>
  simp only[Option.isNone_none]at ek;go_wp2_with fail;go_quiet (fail);have bb:=H (tZ (bd.drewN nq));have a5:=H (cd.step ⟨⟨_,bd.drewN nq⟩,(iJ.refl _ _).drewN nq⟩);generalize w7.drewN nq=W8 at *;go_wp2_with fail;apply bb.o.m;rintro a7 w9 ⟨rfl,h9,o9⟩;have a6:=H (a5.step ⟨⟨_,h9⟩,o9⟩);obtain⟨⟨r0,r1,r2,r3,r4,r5,r6⟩,f0,f1,f2,f3,f4,f5,f6⟩:=qg a6.sx.b3;obtain⟨⟨s0,s1,s2,s3,s4,s5,s6⟩,z0,z1,z2,z3,z4,z5,z6⟩:=zc a6.sx.b4;have a8:wt (rL j M=N):=by unfold Hid rL;rw[cf.o];rfl
  go_wp2;have y:=H (a6.fin rfl);refine aK (v:=Bc #[I U 8,I U q,I U u,y7 V,Z m A z,Z B E D,Z R xl T]) ?_ rfl ?_;·exact bk results175 _ _ (w.heap.size+1) 67 _ _ _ rfl y.1 bq rfl aG
  ·exact⟨_,N,rfl,⟨_,_,_,_,_,_,_,_,_,_,_,_,_,rfl⟩,y.2.1,C1 ⟨rfl,b6.1 a8⟩⟩
 |some n=>
  simp only[Option.isNone_some]at ek;have g2:=bd.o.len;have ex:=H bd.bytes;by_cases hk:j<=(G n:Int)
  ·have hd:decide ((S.size:Int)-(l:Int)<j)=CS:=eS;have fq:0<=j:=by
    have a:=cf.o;cases f:M with
    |none=>rw[f]at a;cases a
    |some r2=>
     have h3:L=M:=by
      rcases d2.o with h|h;·rw[f]at h;cases h.1
      ·exact h.1.s
     have h4:=b8.o;have h5:=HG.o;by_cases eo:c1=1/\F<=1/\v=2/\0<=j;·exact eo.2.2.2
     ·rw[av eo]at h5;subst h5;rw[h3,f]at h4;cases h4
   obtain⟨e,hn⟩:=Int.eq_ofNat_of_zero_le fq;subst hn;go_wp2_with fail;go_quiet (fail);have a5:=H (cd.step ⟨⟨_,bd.drewN nq⟩,(iJ.refl _ _).drewN nq⟩);have b7:=H (bd.drewN nq);generalize w7.drewN nq=W8 at *;have c0:=b7.o.c0;have cg:=b7.o.c1;have y1:=(qg a5.d5).1.2.1;have y3:=(qg a5.sx.b3).1.2.2.2.1;have z3:=(qg a5.sx.b3).2.2.2.2.1;have hi:IntKind.i64.wrap ((l:Int)+(e:Int))=((l+e:Nat):Int):=by rw[bu];omega
   have hj:(0:Int)<=(l:Int)+(e:Int):=Y;have hm:(l:Int)+(e:Int)<=(S.size:Int):=Y;have ho:((l:Int)+(e:Int)).toNat=l+e:=Y;have hs:(l:Int)<=(l:Int)+(e:Int):=Y;go_wp2_with fail;go_region;have d3:wt (S.extract l (l+e)=gj (n.take e)):=by unfold Hid;rw[<-yN (S.extract l (l+e)),bp S l e Y,b7.o.rest n rfl]
   rw[d3.o];have a6:wt (Sy w C P S J Q #[I U v,I U (e:Nat),I U k2,y7 k3,Z W dl X,Z ea el ec,Z ga gl gc] #[I U l0,I U l1,I U l2,y7 l3,Z ma ml mc,Z oa ol oc,Z pa pl pc] PF (W8.setCell ⟨w.heap.size,3,N⟩ (y7 (gj (n.take e)))) (O n) #[I U 8,I U q,I U u,y7 (gj (n.take e)),Z m A z,Z B E D,Z R xl T] { lR c with kind:=8,filters:=fs,text:=n.take e }):=a5.o.put 3 (y7 (gj (n.take e))) (iR.textTo a5.vin (n.take e));have bt:wt (Sn C S (W8.setCell ⟨w.heap.size,3,N⟩ (y7 (gj (n.take e)))).drew l (O n)):=b7.o.onlyS (((iJ.refl w.heap.size W8).setCell 3 _).t (iJ.drew _)) Y;have ct:=H (a6.step ⟨⟨l,bt⟩,iJ.drew _⟩);generalize (W8.setCell ⟨w.heap.size,3,N⟩ (y7 (gj (n.take e)))).drew=W9 at *;generalize gj (n.take e)=TX at *;clear c0 cg y1 y3 z3 a5 b7 a6 d3;have cg:=bt.o.c1;have fb:=bt.o.fz 1;have y1:=(qg ct.d5).1.2.1;have cq:wt (Sn C S (W9.setCell ⟨C,1,N⟩ (I U ((l:Int)+(e:Int)))).drew (l+e) (O (n.drop e))):=by
    have a:=bt.o.at_ (l+e) Y (t:=O (n.drop e)) rfl (λr hr=>by cases hr;rw[<-bt.o.rest n rfl,eq])
    exact⟨a.blk,a.lp,a.ls,a.rest⟩
   have ej:=H (ct.step ⟨⟨_,cq⟩,((iJ.refl C W9).setCell 1 _).t (iJ.drew _)⟩);go_wp2_with fail;go_region;generalize (W9.setCell ⟨C,1,N⟩ (I U ((l:Int)+(e:Int)))).drew=gt at *;have ck:=H (Bl cq {data:=#[10,101,110,100,115,116,114,101,97,109]} bF);rw[show bl {data:=#[10,101,110,100,115,116,114,101,97,109]}=[10,101,110,100,115,116,114,101,97,109]from rfl]at ck;clear cg fb y1 ct bt cq;go_wp2_with fail;apply ck.o.m;rintro a7 g6 ⟨rfl,cj⟩;have cv:=H (ej.step cj);have cs:wt (rL (e:Nat) M=(gh [10,101,110,100,115,116,114,101,97,109] (n.drop e)).bind λb5=>if pS (O b5)=CD then N else O (n.take e,b5)):=by unfold Hid rL;rw[cf.o];simp only[Option.bind_some];rw[ak Y];rfl
   simp only[Option.bind_some]at cj cv;generalize gh [10,101,110,100,115,116,114,101,97,109] (n.drop e)=t6 at *;obtain⟨gm,c7⟩:=cj.1;have d0:=H (Fx c7);have d1:=H c7;clear c7 cj ck ej;go_wp2_with fail;apply d0.o.m;rintro a7 gp ⟨rfl,eu,dj⟩;have cr:wt (Sn C S gp gm t6):=by rw[dj];exact d1.drewN eu
   have bw:=H (cv.step ⟨⟨_,cr⟩,by rw[dj];exact(iJ.refl _ _).drewN eu⟩);clear dj d0 d1 cv;cases hp:pS t6 with
   |true=>
    have bb:=H (tZ cr);have a8:wt (rL (e:Nat) M=N):=by
     unfold Hid;rw[cs.o];cases t6 with
     |none=>rfl
     |some b5=>simp only[Option.bind_some];rw[ak hp]
    go_wp2_with fail;apply bb.o.m;rintro a7 g9 ⟨rfl,en,ev⟩;have cw:=H (bw.step ⟨⟨_,en⟩,ev⟩);obtain⟨⟨r0,r1,r2,r3,r4,r5,r6⟩,f0,f1,f2,f3,f4,f5,f6⟩:=qg cw.sx.b3;obtain⟨⟨s0,s1,s2,s3,s4,s5,s6⟩,z0,z1,z2,z3,z4,z5,z6⟩:=zc cw.sx.b4;clear en ev bw cr bb f0 f1 f2 f3 f4 f5 f6;go_wp2;have y:=H (cw.fin rfl);refine aK (v:=Bc #[I U 8,I U q,I U u,y7 TX,Z m A z,Z B E D,Z R xl T]) ?_ rfl ?_;·exact bk results175 _ _ (w.heap.size+1) 67 _ _ _ rfl y.1 bq rfl aG
    ·exact⟨_,N,rfl,⟨_,_,_,_,_,_,_,_,_,_,_,_,_,rfl⟩,y.2.1,C1 ⟨rfl,b6.1 a8⟩⟩
   |false=>
    obtain⟨⟨r0,r1,r2,r3,r4,r5,r6⟩,f0,f1,f2,f3,f4,f5,f6⟩:=qg bw.sx.b3;obtain⟨⟨s0,s1,s2,s3,s4,s5,s6⟩,z0,z1,z2,z3,z4,z5,z6⟩:=zc bw.sx.b4;clear f0 f1 f2 f3 f4 f5 f6;cases t6 with
    |none=>
     have a8:wt (rL (e:Nat) M=N):=cs.o;clear hp;go_wp2;have y:=H (bw.fin rfl);refine aK (v:=Bc #[I U 8,I U q,I U u,y7 TX,Z m A z,Z B E D,Z R xl T]) ?_ rfl ?_;·exact bk results175 _ _ (w.heap.size+1) 67 _ _ _ rfl y.1 bq rfl aG
     ·exact⟨_,N,rfl,⟨_,_,_,_,_,_,_,_,_,_,_,_,_,rfl⟩,y.2.1,C1 ⟨rfl,b6.1 a8⟩⟩
    |some b5=>
     have a8:wt (rL (e:Nat) M=O (n.take e,b5)):=by unfold Hid;rw[cs.o];simp only[Option.bind_some];rw[hp];rfl
     clear hp;go_wp2;have y:=H (bw.fin rfl);refine aK (v:=Bc #[I U 8,I U q,I U u,y7 TX,Z m A z,Z B E D,Z R xl T]) ?_ rfl ?_;·exact bk results175 _ _ (w.heap.size+1) 67 _ _ _ rfl y.1 bq rfl aG
     ·exact⟨_,O b5,rfl,⟨_,_,_,_,_,_,_,_,_,_,_,_,_,rfl⟩,y.2.1,C2 ⟨_,_,(b6.2 _ _ a8).2,rfl,y.2.2,λd K=>ex d (cN K)⟩⟩
  ·have hd:decide ((S.size:Int)-(l:Int)<j)=CD:=eS;go_wp2_with fail;go_quiet (fail);have bb:=H (tZ (bd.drewN nq));have a5:=H (cd.step ⟨⟨_,bd.drewN nq⟩,(iJ.refl _ _).drewN nq⟩);generalize w7.drewN nq=W8 at *;go_wp2_with fail;apply bb.o.m;rintro a7 w9 ⟨rfl,h9,o9⟩;have a6:=H (a5.step ⟨⟨_,h9⟩,o9⟩);obtain⟨⟨r0,r1,r2,r3,r4,r5,r6⟩,f0,f1,f2,f3,f4,f5,f6⟩:=qg a6.sx.b3;obtain⟨⟨s0,s1,s2,s3,s4,s5,s6⟩,z0,z1,z2,z3,z4,z5,z6⟩:=zc a6.sx.b4;have a8:wt (rL j M=N):=by unfold Hid rL;rw[cf.o];simp only[Option.bind_some];rw[aj Y]
   go_wp2;have y:=H (a6.fin rfl);refine aK (v:=Bc #[I U 8,I U q,I U u,y7 V,Z m A z,Z B E D,Z R xl T]) ?_ rfl ?_;·exact bk results175 _ _ (w.heap.size+1) 67 _ _ _ rfl y.1 bq rfl aG
   ·exact⟨_,N,rfl,⟨_,_,_,_,_,_,_,_,_,_,_,_,_,rfl⟩,y.2.1,C1 ⟨rfl,b6.1 a8⟩⟩
end
section
variable{a:Nat}{S:ByteArray}{w b:vz}{p:Nat}{s t:Option (List Nat)}
def sR(s:Option (List Nat)):Option ((VT 12×List Nat)×List Nat):=((s.bind (gx [48])).bind (gx [111,98,106])).bind λq=>(jo q).bind λx=>(gx [101,110,100,111,98,106] x.2).map λc=>(x.1,c)
def nA(x:VT 12×List Nat):VT 12:=if f_.kind (α:=VT 11) x.1=8 then sT (k:=11) x.1 x.2 else x.1
def FQ(a:Nat)(S:ByteArray)(e:Option ((VT 12×List Nat)×List Nat))(w:vz)(g:xc)(b:vz):Prop:=∃(c:wg) (t:Option (List Nat)),g=BX c/\n5 c/\kJ a S w b t/\((t=N/\wN e)\/∃(d:VT 12×List Nat) (f:List Nat),e=O (d,f)/\t=O f/\iR (λh=>w.heap.size<=h) 12 b c (nA d)/\∀i∈d.2,i<256)
def NV{k:Nat}{e:f_ (VT k)}{r f:List Nat}{d:f_ (VT k)×List Nat}(h:kA e r=O (d,f)):d.1.kind=8/\d.1.text=[]:=by
 unfold kA at h;split at h;·cases h
 ·split at h;·cases h
  ·split at h
   ·split at h;·cases h
    ·split at h
     ·split at h;·cases h
      ·next g c=>cases h;unfold kq at c;simp only[Option.map_eq_some_iff]at c;obtain⟨i,_,rfl⟩:=c;exact⟨rfl,rfl⟩
     ·cases h
   ·cases h
def RH{s:Option (List Nat)}(h:wN (((s.bind (gx [48])).bind (gx [111,98,106])).bind jo)):wN (sR s):=by
 unfold sR;cases d:(s.bind (gx [48])).bind (gx [111,98,106])with
 |none=>exact C1 rfl
 |some i=>
  rw[d]at h;simp only[Option.bind_some]at h ⊢;rcases h with h|⟨g,e,h,c⟩;·left;rw[h];rfl
  ·rw[h];simp only[Option.bind_some];cases gx [101,110,100,111,98,106] e with
   |none=>exact C1 rfl
   |some f=>exact C2 ⟨g,f,rfl,c⟩
def JN{s:Option (List Nat)}{e:VT 12×List Nat}{d:List Nat}(h:((s.bind (gx [48])).bind (gx [111,98,106])).bind jo=O (e,d)):sR s=(gx [101,110,100,111,98,106] d).map λf=>(e,f):=by
 unfold sR;cases c:(s.bind (gx [48])).bind (gx [111,98,106])with
 |none=>rw[c]at h;cases h
 |some g=>rw[c]at h;simp only[Option.bind_some]at h ⊢;rw[h];rfl
def Og(a:Nat)(S:ByteArray)(d:vz)(i:Nat)(g:Option ((VT 12×List Nat)×List Nat))(c:vz)(f:Array wg)(t:Option (List Nat)):Prop:=
 c.heap[i]?=O (BV f 67 (0,0))/\c.heap[d.heap.size]?=O (BV iZ 67 (0,0))/\kJ a S d c t/\((t=N/\wN g)\/∃(e:VT 12×List Nat) (j:List Nat),g=O (e,j)/\t=O j/\iR (λh=>d.heap.size+1<=h/\h≠i) 12 c (Bc f) (nA e)/\∀k∈e.2,k<256)
def RD(h:Sn a S w p s):wh DG 128 #[A3 (O ⟨a,0,N⟩)] w (FQ a S (sR s) w):=by
 have c9:=h.lt;have c8:=h.ls;have BW:wt (wm w.heap.size w (w.alloc (BV iZ 67))):=(ar _ _).alloc (ag _) _;have H0:=H (h.other BW);have HZ:wt ((w.alloc (BV iZ 67)).heap[w.heap.size]?=O (BV iZ 67 (0,0))):=bn _ _;have H1:=H (Fw H0 {data:=#[48]} bF);rw[show bl {data:=#[48]}=[48]from rfl,Fu]at H1;have b7:=H (λh=>@RH s h);have b8:=H (λl g h=>@JN s l g h);obtain⟨ce,hR⟩:∃ce,sR s=ce:=⟨_,rfl⟩;rw[hR]at b7 b8 ⊢;clear h hR
 go_in
 go_wp2_with fail;apply H1.o.m;rintro j w1 ⟨rfl,⟨p1,c⟩,o1⟩;have O1:=H ((iJ.of_below BW).t o1);have bx:wt (w1.heap[w.heap.size]?=O (BV iZ 67 (0,0))):=by unfold Hid;rw[o1.block _ cO Y];exact HZ
 have H2:=H (Fw c {data:=#[111,98,106]} bF);rw[show bl {data:=#[111,98,106]}=[111,98,106]from rfl,Fu]at H2;clear c o1 H1 HZ H0 BW;go_wp2_with fail;apply H2.o.m;rintro j w2 ⟨rfl,⟨p2,d⟩,o2⟩;have O2:=H (O1.t o2);have bz:=H ((o2.block _ (ap bx) Y).t bx);generalize (s.bind (gx [48])).bind (gx [111,98,106])=m at *;have H3:wt (wh DG 174 #[A3 (O ⟨a,0,N⟩),I U 0] w2 (py a S 12 (m.bind (gC 12)) w2)):=JM 12 (ag _) w2 p2 m d;have b6:wt (∀f g,m.bind (gC 12)=O (f,g)->oP 200000 f):=λf g j=>by
  cases m with
  |none=>cases j
  |some r=>exact pq (show gC 12 r=O (f,g)from j) (by have:=d.len;have:=d.ls;omega)
 clear d o2 H2 O1 bx;go_wp2_with fail;apply H3.o.m;intro j u cg;obtain⟨o,M,P,x,D,F,E,J,L,K,z,B,A,q,rfl,⟨⟨p3,n⟩,o3⟩,ci⟩:=py.any cg;obtain⟨y,bf⟩:∃y,u.alloc (BV #[I U o,I U M,I U P,y7 x,Z D F E,Z J L K,Z z B A] 67)=y:=⟨_,rfl⟩;have b3:wm u.heap.size u y:=by rw[<-bf];exact(ar _ _).alloc (ag _) _
 have x3:y.heap[u.heap.size]?=O (BV #[I U o,I U M,I U P,y7 x,Z D F E,Z J L K,Z z B A] 67 (0,0)):=by rw[<-bf];exact bn _ _
 have ct:=ap bz;have da:=o3.size;have O3:=H (O2.t (o3.t (.of_below b3)));have b0:wt (y.heap[w.heap.size]?=O (BV iZ 67 (0,0))):=by unfold Hid;rw[b3.block _ Y,o3.block _ ct Y];exact bz
 have bs:wt ((m.bind (gC 12)=N/\q=N)\/∃f g,m.bind (gC 12)=O (f,g)/\q=O g/\iR (λe=>w2.heap.size<=e/\e<u.heap.size) 12 y (Bc #[I U o,I U M,I U P,y7 x,Z D F E,Z J L K,Z z B A]) f):=by
  rcases ci with⟨c,d,_⟩|⟨f,g,c,d,h4⟩;·exact C1 ⟨c,d⟩
  ·exact C2 ⟨f,g,c,d,iR.keep 12 (iR.m 12 h4 (λe c d=>⟨c,d⟩)) (λe c _=>b3.block e c.2)⟩
 have a4:=H (n.other b3);have bw:=H x3;have cr:=H bf;have d1:=a4.o.c1;have H4:=H (Fz a4);have b5:=H (N_ n);clear n o3 cg ci H3 O2 bz b3 x3 bf
 go_upto_region 4 with fail
 rw[cr.o];go_wp2_with fail;apply H4.o.m;rintro j w4 ⟨rfl,⟨p4,h4⟩,o4⟩;have R:wt (w4.heap[u.heap.size]?=O (BV #[I U o,I U M,I U P,y7 x,Z D F E,Z J L K,Z z B A] 67 (0,0))):=by unfold Hid;rw[o4.block _ (ap bw.o) Y];exact bw
 have a6:wt (w4.heap[w.heap.size]?=O (BV iZ 67 (0,0))):=by unfold Hid;rw[o4.block _ (ap b0.o) Y];exact b0
 have bb:=H o4;have a5:=H h4;have O4:=H (O3.t o4);obtain⟨⟨r0,r1,r2,r3,r4,r5,r6⟩,_⟩:=qg R;have e1:((gj (lW q)).toList==([115,116,114,101,97,109]:List UInt8))=decide (lW q=[115,116,114,101,97,109]):=by rw[xV,vJ _ b5.o];rfl
 obtain⟨TW,cf⟩:∃TW,gj (lW q)=TW:=⟨_,rfl⟩;rw[cf]at e1 ⊢;clear h4 o4 d1 H4 cf b5;obtain⟨Q,C⟩:∃Q,decide (o=7/\lW q=[115,116,114,101,97,109])=Q:=⟨_,rfl⟩
 go_upto_region 6 with fail
 go_cut [24]from 6 (λbv wx=>bv=Bs Q/\wx=w4)
 case first=>
  by_cases q0:o=7
  ·have m0:(o==7)=CD:=eS;by_cases q1:lW q=[115,116,114,101,97,109]
   ·rw[aH q1]at e1;have HD:wt (Q=CD):=by rw[<-C,aH ⟨q0,q1⟩];rfl
    clear C q0 q1;go_wp2
    go_meet
    case rel=>exact⟨by rw[HD.o],rfl⟩
   ·rw[av q1]at e1;have HD:wt (Q=CS):=by rw[<-C,av (λh=>q1 h.2)];rfl
    clear C q0 q1;go_wp2
    go_meet
    case rel=>exact⟨by rw[HD.o],rfl⟩
  ·have m0:(o==7)=CS:=eS;have HD:wt (Q=CS):=by rw[<-C,av (λh=>q0 h.1)];rfl
   clear C q0;go_wp2
   go_meet
   case rel=>exact⟨by rw[HD.o],rfl⟩
 case rest=>
 obtain⟨rfl,b4⟩:=hcut;have b4:=b4.s;subst b4;have HG:=H C;clear C e1
 go_upto_if 24 with fail
 go_cut []from 6 (λwx=>∃(bm:Array wg) (t5:Option (List Nat)),n5 (Bc bm)/\wt (Og a S w u.heap.size (m.bind jo) wx bm t5))
 case first=>
  cases Q with
  |true=>
   have T:=of_decide_eq_true HG;obtain⟨f,q3,ao,cv,b2⟩:∃f g,m.bind (gC 12)=O (f,g)/\q=O g/\iR (λe=>w2.heap.size<=e/\e<u.heap.size) 12 y (Bc #[I U o,I U M,I U P,y7 x,Z D F E,Z J L K,Z z B A]) f:=by
    rcases bs.o with c|c;·have:=T.2;rw[c.2]at this;cases this
    ·exact c
   subst cv;have b1:f_.kind (α:=VT 11) f=7:=by obtain⟨iv,kv,fv,vs,j,_⟩:=iR.parts (V:=f) b2;simp[nV]at j;have:=j.1;have:=T.1;omega
   have ck:=iR.keep 12 b2 (λe c d=>bb.block e d Y);have cj:Sn a S w4 p4 (O (gE q3)):=a5.o;have cq:=H (JL cj ck (λe hg=>Y) (b6 f q3 ao) b1);have br:wt (m.bind jo=kA (k:=11) f (gE q3)):=by
    cases m with
    |none=>cases ao
    |some r=>have ao:gC 12 r=O (f,q3):=ao;show jo r=_;unfold jo;rw[ao];simp only[];rw[ak b1];unfold gx;rw[ak (show gI q3=[115,116,114,101,97,109]from T.2)]
   clear T b2 ck cj ao b1;go_wp2_with fail;apply cq.o.m;rintro j w5 ⟨v5,t5,rfl,⟨V,W,X,a3,aa,al,ac,ba,ad,bc,ca,cl,cc,rfl⟩,k5,a7⟩;have bd:wt (w5.heap[u.heap.size]?=O (BV #[I U o,I U M,I U P,y7 x,Z D F E,Z J L K,Z z B A] 67 (0,0))):=by unfold Hid;rw[k5.2.block _ (ap R.o) Y];exact R
   obtain⟨⟨s0,s1,cy,s3,s4,s5,s6⟩,z0,z1,z2,z3,z4,z5,z6⟩:=qg bd;have bt:=H a7;have a8:=H k5;clear a7 k5 r0 r1 r2 r3 r4 r5 r6;go_wp2
   go_meet
   case rel=>
    have i:=qu w5 u.heap.size (I U V) (I U W) (I U X) (y7 a3) (Z aa al ac) (Z ba ad bc) (Z ca cl cc);have hl:=ap a6;have hz:=a8.o.2.size;have db:=ap R;refine⟨_,t5,⟨V,W,X,a3,aa,al,ac,ba,ad,bc,ca,cl,cc,rfl⟩,Ak bd _ _ _ _ _ _ _,?_,⟨?_,?_⟩,?_⟩;·rw[i.block _ Y Y,a8.o.2.block _ hl Y];exact a6
    ·obtain⟨q5,h5⟩:=a8.o.1;exact⟨q5,h5.onlyS i Y⟩
    ·have k:=O4.o.t a8.2;exact⟨i.os.t k.os,i.tape.t k.tape,i.output.t k.output,aJ k.size i.size,λe c d=>(i.block e (by have:=k.size;omega) Y).t (k.block e c d)⟩
    ·rw[br.o];rcases bt.o with c|⟨l,g,c,d,n,h6⟩;·exact C1 c
     ·refine C2 ⟨l,g,c,d,?_,h6⟩;have hx:nA l=sT (k:=11) l.1 l.2:=by unfold nA;rw[ak (NV c).1]
      rw[hx];exact iR.m 12 (iR.keep 12 n (λe c d=>i.block e d (by rcases c with c|c<;>omega))) (λe c _=>by rcases c with c|c<;>omega)
  |false=>
   have T:=of_decide_eq_false HG;have co:=H (a5.at_ p3 a4.lp (by cases q<;>rfl) a4.rest);have br:wt ((q=N/\wN (m.bind jo))\/∃(l:VT 12×List Nat) (g:List Nat),m.bind jo=O (l,g)/\q=O g/\iR (λe=>w2.heap.size<=e/\e<u.heap.size) 12 y (Bc #[I U o,I U M,I U P,y7 x,Z D F E,Z J L K,Z z B A]) (nA l)/\∀cn∈l.2,cn<256):=by
    rcases bs.o with⟨c,d⟩|⟨f,g,c,d,n⟩
    ·refine C1 ⟨d,C1 ?_⟩;cases m with
     |none=>rfl
     |some r=>have c:gC 12 r=N:=c;show jo r=N;unfold jo;rw[c]
    ·refine C2 ⟨(f,[]),g,?_,d,?_,λcn hy=>by cases hy⟩
     ·cases m with
      |none=>cases c
      |some r=>
       have c:gC 12 r=O (f,g):=c;show jo r=_;unfold jo;rw[c];simp only[];by_cases hk:f_.kind (α:=VT 11) f=7
       ·rw[ak hk];have hw:¬gI g=[115,116,114,101,97,109]:=λj=>T ⟨by obtain⟨iv,kv,fv,vs,j,_⟩:=iR.parts (V:=f) n;simp[nV]at j;have:=j.1;omega,by rw[d];exact j⟩
        unfold gx;rw[aj hw]
       ·rw[aj hk]
     ·have:nA (f,[])=f:=by unfold nA;rw[aj];exact(b6 f g c).2.2.2.1
      rw[this];exact n
   have d1:=a5.o.c1;have f1:=a5.o.fz 1;clear T;go_wp2
   go_meet
   case rel=>
    have i:iJ a w4 (w4.setCell ⟨a,1,N⟩ (I U (p3:Nat))):=(iJ.refl _ _).setCell 1 _;refine⟨_,q,⟨o,M,P,x,D,F,E,J,L,K,z,B,A,rfl⟩,?_,?_,⟨⟨p3,co⟩,O4.t i⟩,?_⟩;·rw[i.block _ (ap R.o) Y];exact R
    ·rw[i.block _ (ap a6.o) Y];exact a6
    ·rcases br.o with c|⟨l,g,c,d,n,h6⟩;·exact C1 c
     ·exact C2 ⟨l,g,c,d,iR.m 12 (iR.keep 12 n (λe c d=>(i.block e (by have:=bb.o.size;omega) Y).t (bb.block e d Y))) (λe c _=>⟨Y,Y⟩),h6⟩
 case rest=>
 obtain⟨bm,t5,⟨V,W,X,a3,aa,al,ac,ba,ad,bc,ca,cl,cc,hA⟩,HI⟩:=hcut;injection hA with hA;subst hA;obtain⟨w5,cw⟩:∃w5,w5=wc:=⟨_,rfl⟩;subst cw;obtain⟨x5,z5,⟨⟨p5,h5⟩,o5⟩,a7⟩:=HI.o;have H6:=H (Fw h5 {data:=#[101,110,100,111,98,106]} bF);rw[show bl {data:=#[101,110,100,111,98,106]}=[101,110,100,111,98,106]from rfl,Fu]at H6;have bd:=H x5;have b9:=H z5;have cp:=H o5;have bt:=H a7;have cx:=ap x5;clear x5 z5 h5 o5 a7 HI HG bs R a6 bw b0 a4 a5 bb O3 O4;go_wp2_with fail;apply H6.o.m;rintro j w6 ⟨rfl,k6⟩;have cs:=H ((k6.2.block _ cx Y).t bd);have cd:=H ((k6.2.block _ (ap b9) Y).t b9);obtain⟨⟨s0,s1,cy,s3,s4,s5,s6⟩,_⟩:=qg cs;obtain⟨⟨c0,c1,c2,c3,c4,c5,c6⟩,f0,f1,f2,f3,f4,f5,f6⟩:=zc cd;have a9:=H k6;clear k6 H6;go_wp2;have i:=qu w6 w.heap.size (I U V) (I U W) (I U X) (y7 a3) (Z aa al ac) (Z ba ad bc) (Z ca cl cc);have e7:=uG cd (I U V) (I U W) (I U X) (y7 a3) (Z aa al ac) (Z ba ad bc) (Z ca cl cc);have dc:=a9.o.2.size;refine aK (v:=Bc #[I U V,I U W,I U X,y7 a3,Z aa al ac,Z ba ad bc,Z ca cl cc]) ?_ rfl ?_;·exact bk results128 _ _ w.heap.size 67 _ _ _ rfl e7 bq rfl aG
 ·have k:=cp.o.t a9.2;obtain⟨q6,h6⟩:=a9.o.1;refine⟨_,_,rfl,⟨_,_,_,_,_,_,_,_,_,_,_,_,_,rfl⟩,⟨⟨q6,h6.onlyS i Y⟩,i.os.t k.os,i.tape.t k.tape,i.output.t k.output,aJ k.size i.size,λe c d=>(i.block e (by have:=k.size;omega) Y).t (k.block e c d)⟩,?_⟩;rcases bt.o with⟨c,d⟩|⟨l,g,c,d,n,h8⟩;·exact C1 ⟨by rw[c];rfl,b7 d⟩
  ·have bh:=b8.o l g c;rw[d];simp only[Option.bind_some];cases ht:gx [101,110,100,111,98,106] g with
   |none=>rw[ht]at bh;exact C1 ⟨rfl,C1 bh⟩
   |some c7=>rw[ht]at bh;exact C2 ⟨l,c7,bh,rfl,iR.m 12 (iR.keep 12 n (λe c d=>(i.block e Y Y).t (a9.2.block e d Y))) (λe c _=>Y),h8⟩
end
section
def D6{f:Nat}{b:VT 12}(h:lG f 12 b=CD):(f_.filters (α:=VT 11) b).length<=4:=by
 unfold lG at h;simp only[a_]at h;obtain⟨⟨⟨_,c⟩,a⟩,_⟩:=h;unfold lx at c;simp only[a_]at c;have e:=c.2;by_cases d:f_.kind (α:=VT 11) b=8
 ·unfold lE at a;rw[d]at a;simp only[lC,a_,bT]at a;exact a.1.1.2
 ·rw[av d,Bool.false_or,bT]at e;rw[e];exact aw _
def tB{b:List (VT 12)}{d:Int}{V:VT 12}(c:V∈b)(h:4<(f_.filters (α:=VT 11) V).length):jh b d=CS:=by rw[Bool.eq_false_iff];intro a;rw[pC]at a;simp only[a_,bG]at a;have:=D6 (a.2.1 V c);omega
def uQ{a:List (VT 12)}{c:Int}(h:100<G a):jh a c=CS:=by rw[Bool.eq_false_iff];intro b;unfold jh at b;simp only[a_,bT]at b;omega
def PO(a:Nat):∀c∈gJ a,c<=57:=by
 induction a using Nat.strongRecOn with
 |ind a e=>
  by_cases h:a<10
  ·intro c b;rw[yQ h]at b;simp at b;omega
  ·intro c b;rw[Ft h]at b;rcases aZ.1 b with d|d;·exact e (a/10) Y c d
   ·exact e (a%10) Y c d
def qL(c:List Nat):Prop:=∀b a,jK c=O (b,a)->jh (b.map Prod.fst) a=CS
def qL.of_none{a:List Nat}(h:jK a=N):qL a:=λd c b=>by rw[h]at b;cases b
def Pg(a:List Nat)(c:List (VT 12×List Nat))(f r:List Nat):Prop:=G f=G c/\∃b e,gh [37,80,68,70,45,49,46,52,10] a=O b/\G r+2<=e /\
 jU (G a) (G b+2) 0 (gq b)=(jU (G a) e (G c) (gq r)).map λd=>((c++d.1.1,f++d.1.2),d.2)
def Pg.start{b a:List Nat}(h:gh [37,80,68,70,45,49,46,52,10] b=O a):Pg b [] [] a:=by refine⟨rfl,a,G a+2,h,ag _,?_⟩;cases jU (G b) (G a+2) ([]:List (VT 12×List Nat)).length (gq a)<;>rfl
def Tr{a:List Nat}(h:gh [37,80,68,70,45,49,46,52,10] a=N):qL a:=.of_none (by unfold jK;rw[h])
section
variable{a:List Nat}{c:List (VT 12×List Nat)}{d r:List Nat}
def Pg.doc(h:Pg a c d r):∃e,G r+2<=e/\jK a=match jU (G a) e (G c) (gq r)with
  |none=>N
  |some b=>match lV (c++b.1.1).length (d++b.1.2) b.2 with
   |none=>N
   |some k=>match nZ (c++b.1.1).length k with
    |none=>N
    |some f=>match mU (G a-b.2.length) f.2 with
     |none=>N
     |some _=>O (c++b.1.1,f.1):=by
 obtain⟨_,l,e,g,i,j⟩:=h;refine⟨e,i,?_⟩;unfold jK;rw[g];simp only[];rw[j];cases jU (G a) e (G c) (gq r)<;>rfl
def xw{b:List Nat}(h:b.takeWhile pB=[120,114,101,102]):gh [120,114,101,102] b=O (b.dropWhile pB)/\([120,114,101,102]:List Nat).isPrefixOf b=CD:=by
 have e:b=[120,114,101,102]++b.dropWhile pB:=by rw[<-h];exact(List.takeWhile_append_dropWhile).s
 generalize b.dropWhile pB=f at *;subst e;exact⟨rfl,rfl⟩
def xp{e:List Nat}{f:List Nat}(h:gh [120,114,101,102,10] e=O f):e.takeWhile pB=[120,114,101,102]:=by
 have:=(gZ h).2;unfold gh at h;split at h
 ·next b=>
  rw[Iw]at b;have b:=of_decide_eq_true b;have g:e=[120,114,101,102,10]++f:=by rw[<-this,<-b.2];simp only[ax];rw[dQ b.1];exact(cQ _ _).s
  rw[g];rfl
 ·cases h
def Pg.table(h:Pg a c d r)(f:gI (gq r)=[120,114,101,102]):jK a=(tS (G c) (G a-(gq r).length) (lP (oW::d.map nC) ((O (gE (gq r))).bind (gh ([10,48,32]++gJ (G d+1)++[10]))))).map λo=>(c,o):=by
 obtain⟨e,p,l⟩:=h.doc;unfold gI at f;rw[kV]at f;obtain⟨i,j⟩:=xw f;have m:jU (G a) e (G c) (gq r)=O (([],[]),gq r):=by obtain⟨g,rfl⟩:∃g,e=g+1:=⟨e-1,Y⟩;simp only[jU];rw[ak j]
 rw[l,m];simp only[bP];rw[h.1];have k:lV (G c) d (gq r)=lP (oW::d.map nC) ((O (gE (gq r))).bind (gh ([10,48,32]++gJ (G c+1)++[10]))):=by
  unfold lV gE;rw[kV,show([120,114,101,102,10,48,32]++gJ (G c+1)++[10]:List Nat)=[120,114,101,102]++([10,48,32]++gJ (G c+1)++[10])by simp,takes_app,i];simp only[Option.bind_some];cases gh ([10,48,32]++gJ (G c+1)++[10]) ((gq r).dropWhile pB)with
  |none=>rw[JB]
  |some b=>
   show(match jj oW b with|none=>N|some b=>jR d b)=lP (d.map nC) (jj oW b);cases jj oW b with
   |none=>rw[JB]
   |some q=>rw[Mm]
 rw[k];cases lP (oW::d.map nC) ((O (gE (gq r))).bind (gh ([10,48,32]++gJ (G c+1)++[10])))with
 |none=>rfl
 |some b=>
  unfold tS;simp only[Option.bind_some];cases nZ (G c) b with
  |none=>rfl
  |some n=>simp only[Option.bind_some];cases mU (G a-(gq r).length) n.2<;>rfl
def Pg.object(h:Pg a c d r)(R:gI (gq r)≠[120,114,101,102]):(gI (gq r)≠gJ (G c+1)->qL a)/\(100<=G c->qL a)/\(wN (sR (O (gE (gq r))))->qL a) /\
  ∀f i,gI (gq r)=gJ (G c+1)->sR (O (gE (gq r)))=O (f,i)->Pg a (c++[f]) (d++[G a-(gq r).length]) i:=by
 obtain⟨w,hf,y⟩:=h.doc;obtain⟨o,rfl⟩:∃o,w=o+1:=⟨w-1,Y⟩;have k:mF (G c+1) (gq r)=if gI (gq r)=gJ (G c+1)then sR (O (gE (gq r)))else N:=by
  unfold mF;rw[show gx (gJ (G c+1)) (gq r)=if gI (gq r)=gJ (G c+1)then O (gE (gq r))else N from rfl];by_cases g:gI (gq r)=gJ (G c+1)
  ·rw[ak g,ak g];unfold sR;simp only[Option.bind_some];cases gx [48] (gE (gq r))with
   |none=>rfl
   |some S=>
    simp only[Option.bind_some];cases gx [111,98,106] S with
    |none=>rfl
    |some T=>
     simp only[Option.bind_some];cases jo T with
     |none=>rfl
     |some f=>simp only[Option.bind_some];cases gx [101,110,100,111,98,106] f.2<;>rfl
  ·rw[aj g,aj g]
 by_cases j:([120,114,101,102]:List Nat).isPrefixOf (gq r)=CD
 ·have P:jK a=N:=by
   rw[y];simp only[jU];rw[ak j];simp only[bP];have L:lV (G c) d (gq r)=N:=by
    unfold lV;cases z:gh ([120,114,101,102,10,48,32]++gJ (G c+1)++[10]) (gq r)with
    |none=>rfl
    |some q=>
     exfalso;rw[show([120,114,101,102,10,48,32]++gJ (G c+1)++[10]:List Nat)=[120,114,101,102,10]++([48,32]++gJ (G c+1)++[10])by simp,takes_app]at z;cases E:gh [120,114,101,102,10] (gq r)with
     |none=>rw[E]at z;cases z
     |some u2=>apply R;unfold gI;rw[kV];exact xp E
   rw[L]
  have p:=qL.of_none P;refine⟨λ_=>p,λ_=>p,λ_=>p,λf i g=>?_⟩;exfalso;have u:(gq r).takeWhile pB=gJ (G c+1):=by have:=g;unfold gI at this;rw[kV]at this;exact this
  rw[Iw]at j;have j:=(of_decide_eq_true j).2;obtain⟨q,Q⟩:∃q,gq r=120::q:=by
   match hr:gq r,j with
   |b::q,j=>simp at j;exact⟨q,by rw[j.1]⟩
  rw[Q,dJ,ak bF]at u;have:=PO (G c+1) 120 (by rw[<-u];simp);omega
 ·have D:jU (G a) (o+1) (G c) (gq r)=match mF (G c+1) (gq r)with
    |none=>N
    |some (f,i)=>(jU (G a) o (G c+1) (gq i)).map λs=>((f::s.1.1,(G a-(gq r).length)::s.1.2),s.2):=by
   simp only[jU];rw[aj j];rfl
  have v:mF (G c+1) (gq r)=N->qL a:=λp=>.of_none (by rw[y,D,p]);have B:∀f i,mF (G c+1) (gq r)=O (f,i)->∀m n,jK a=O (m,n)->f∈m/\G c<G m:=λf i l m n e=>by
   rw[y,D,l]at e;simp only[]at e;cases C:jU (G a) o (G c+1) (gq i)with
   |none=>rw[C]at e;cases e
   |some s=>
    rw[C]at e;simp only[bK]at e;split at e;·cases e
    ·split at e;·cases e
     ·split at e;·cases e
      ·cases e;exact⟨cO,by simp only[ab,ai];omega⟩
  refine⟨λg=>v (by rw[k,aj g]),λX=>?_,λx=>?_,λf i g l=>?_⟩
  ·cases l:mF (G c+1) (gq r)with
   |none=>exact v l
   |some F=>intro m n e;have:=(B F.1 F.2 l m n e).2;exact uQ (by rw[aq];omega)
  ·by_cases g:gI (gq r)=gJ (G c+1)
   ·rw[ak g]at k;rcases x with x|⟨f,i,l,K⟩;·exact v (k.t x)
    ·intro m n e;have:=(B f i (k.t l) m n e).1;exact tB (V:=f.1) (List.mem_map_of_mem (f:=Prod.fst) this) K
   ·exact v (by rw[k,aj g])
  ·rw[ak g,l]at k;obtain⟨M,W,A,u,h2,J⟩:=h;have aa:=uU k;have ac:=jM r;obtain⟨t,rfl⟩:∃t,A=t+1:=⟨A-1,Y⟩;refine⟨by simp[M],W,t,u,Y,?_⟩;rw[J];simp only[jU];rw[aj j,k];simp only[ab,ai,aB];cases jU (G a) t (G c+0+1) (gq i)with
   |none=>rfl
   |some s=>simp
end
end
def yu{k:Nat}{c:f_ (VT k)}(h:Bd (k:=k+1) c){a:List (List Nat×VT k)}(m:∀x∈a,x∈c.keys.zip c.items)(n:G a<=200001){e:List Nat}(t:G e<=200001)(u:∀p∈e,p<=100000):Bd (k:=k+1) (⟨8,0,0,[],a.map Prod.snd,a.map Prod.fst,e⟩:f_ (VT k)):=by
 refine⟨by show 8<=9;decide,⟨by show _<=(0:Int);decide,by show(0:Int)<=_;decide⟩,by show 0<=_;decide,by show(gj []).size<=_;decide,by show(a.map Prod.snd).length<=_;rw[aq];exact n,by show(a.map Prod.fst).length<=_;rw[aq];exact n,t,λo b=>?_,u,λy i=>?_⟩
 ·have b:o<(a.map Prod.fst).length:=b;show(gj ((a.map Prod.fst).getD o [])).size<=_;rw[aL,af b];simp only[Option.getD_some];have q:=cI b;obtain⟨⟨d,j⟩,f,r⟩:=cE.1 q;rw[<-r];have s:=(eA (m _ f)).1;obtain⟨w,l,v⟩:=cF s;have g:=h.2.2.2.2.2.2.2.1 w l;rw[aL,af l]at g;simp only[Option.getD_some]at g;rw[show(d,j).1=d from rfl,<-v];exact g
 ·have i:y∈a.map Prod.snd:=i;obtain⟨⟨d,j⟩,f,rfl⟩:=cE.1 i;exact h.2.2.2.2.2.2.2.2.2 _ (eA (m _ f)).2
def uh(x:VT 12×List Nat):Prop:=Bd x.1/\(f_.kind (α:=VT 11) x.1=8->f_.text (α:=VT 11) x.1=[])/\(∃b:List qx,f_.filters (α:=VT 11) x.1=b.map λa=>a.1)/\(∀a∈x.2,a<256)/\x.2.length<=200000
def Tu{k:Nat}{c:f_ (VT k)}{r d:List Nat}{b:f_ (VT k)×List Nat}(h:kA c r=O (b,d)):b.2.length<=G r:=by
 unfold kA at h;split at h;·cases h
 ·next a e1=>
  have e:G a<=G r:=by
   cases e2:gh [10] r with
   |some f=>rw[e2]at e1;cases e1;have:=(gZ e2).1;omega
   |none=>rw[e2]at e1;have:=(gZ (s:=[13,10]) (by simpa using e1)).1;omega
  split at h;·cases h
  ·split at h
   ·split at h;·cases h
    ·split at h
     ·split at h;·cases h
      ·cases h;show(a.take _).length<=_;rw[ax];omega
     ·cases h
   ·cases h
def Lx:∀c:List (Nat×List Nat),∃b:List qx,(c.map λa=>j7 (gj a.2))=b.map λd=>d.1
 | []=>⟨[],rfl⟩
 |a::c=>by obtain⟨b,h⟩:=Lx c;exact⟨⟨j7 (gj a.2),sQ _⟩::b,cX (List.cons (j7 (gj a.2))) h⟩
def ff{b:List (Nat×List Nat)}{a:List Nat}(h:l7 b=O a):∃c:List qx,a=c.map λd=>d.1:=by
 rw[rF]at h;split at h
 ·cases h;exact Lx b
 ·cases h
def RM{r q:List Nat}{x:VT 12×List Nat}(h:jo r=O (x,q))(j:G r<=200000):Bd x.1/\(f_.kind (α:=VT 11) x.1=8->f_.text (α:=VT 11) x.1=[])/\(∃d:List qx,f_.filters (α:=VT 11) x.1=d.map λe=>e.1)/\x.2.length<=200000:=by
 have D:=uA h j;unfold jo at h;split at h;·cases h
 ·next a F e1=>
  have i:=pq e1 j;have m:=tR e1 j;have p:Bd a/\(f_.kind (α:=VT 11) a=8->f_.text (α:=VT 11) a=[])/\(∃d:List qx,f_.filters (α:=VT 11) a=d.map λe=>e.1)/\([]:List Nat).length<=200000:=⟨m,λt=>absurd t i.2.2.2.1,⟨[],i.2.2.2.2.1⟩,cO⟩;split at h
  ·split at h
   ·next J e2=>
    have E:=NV h;have v:x.2.length<=200000:=by have g:=Tu h;have B:=jf e2;have C:=jY e1;omega
    have z:∃b,kq (k:=11) a=O b/\x.1=b:=by
     unfold kA at h;split at h;·cases h
     ·split at h;·cases h
      ·split at h
       ·split at h;·cases h
        ·split at h
         ·split at h;·cases h
          ·next b c=>cases h;exact⟨b,c,rfl⟩
         ·cases h
       ·cases h
    obtain⟨b,c,w⟩:=z;have o:yT (k:=12) b:=qR (k:=11) i c;unfold kq at c;simp only[Option.map_eq_some_iff]at c;obtain⟨d,f,rfl⟩:=c;rw[w];have n:∃l:List qx,d=l.map λe=>e.1:=by
     unfold iH at f;split at f;·cases f
     ·exact ff f
    refine⟨yu m (λe y=>(List.mem_filter.1 y).1) ?_ ?_ ?_,λ_=>rfl,n,v⟩
    ·have g:((jW ((f_.keys (α:=VT 11) a).zip (f_.items (α:=VT 11) a))).map Prod.snd).length<=200000:=o.1;rw[aq]at g;exact aJ g Y
    ·have g:G d<=200000:=o.2.2.1;omega
    ·obtain⟨l,rfl⟩:=n;intro A u;obtain⟨s,_,rfl⟩:=cE.1 u;have:=s.2;unfold vh at this;omega
   ·cases h;exact p
  ·cases h;exact p
def RI{r f:List Nat}{a:VT 12×List Nat}(h:sR (O r)=O (a,f))(p:G r<=200000)(l:∀b∈a.2,b<256):uh a:=by
 unfold sR at h;simp only[Option.bind_some]at h;cases c:gx [48] r with
 |none=>rw[c]at h;cases h
 |some n=>
  rw[c]at h;simp only[Option.bind_some]at h;cases d:gx [111,98,106] n with
  |none=>rw[d]at h;cases h
  |some o=>
   rw[d]at h;simp only[Option.bind_some]at h;cases e:jo o with
   |none=>rw[e]at h;cases h
   |some b=>rw[e]at h;simp only[Option.bind_some,Option.map_eq_some_iff]at h;obtain⟨t,_,m⟩:=h;cases m;have q:=jf c;have s:=jf d;obtain⟨g,i,j,k⟩:=RM (x:=b.1) (q:=b.2) e Y;exact⟨g,i,j,l,k⟩
