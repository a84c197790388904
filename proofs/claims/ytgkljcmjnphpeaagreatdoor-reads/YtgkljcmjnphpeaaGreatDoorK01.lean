import Derived.Test.YtgkljcmjnphpeaaGreatDoorK00
import Derived.Test.YtgkljcmjnphpeaaGreatDoorKSh
import Derived.Lib.AtoiErrMem
set_option linter.defProp false
set_option linter.unusedVariables false
set_option linter.unusedSimpArgs false
set_option maxHeartbeats 4000000
set_option maxRecDepth 100000
open List renaming length->G
open Go renaming Value->GI,World->Gr,Calls->K8,Addr->L2,Ending->MB,Act->MN
open Go.Value renaming int->I,pointer->M2,string->MV,agg->N1,bool->OV,tuple->OW,slice->Z
open Go.RowKit renaming Hid->L1,Below->LT
open Option renaming none->N,some->O
open Bool renaming false->P2,true->PV
open Or renaming inl->P3,inr->P4
open Go.Obj renaming cells->Pp
open Go.Ending renaming returned->Ps
open Go.Proofs.Tryz renaming prog->Qe
open Go.IntKind renaming i64->U
open Go.Proofs.Tryz
namespace Go.Proofs.YtgkljcmjnphpeaaGreatDoor
open Go.RowKit
def iV:(Tryz.prog.info? 67).map (λa=>(a.zero,a.size,a.bytes))=O (O (N1 #[I U 0,I U 0,I U 0,MV {data:=#[]},Z N 0 0,Z N 0 0,Z N 0 0]),7,112):=by kernel_rfl
def iS:(Tryz.prog.info? 9).map (λa=>(a.zero,a.size,a.bytes))=O (O (MV {data:=#[]}),1,16):=by kernel_rfl
def gG:Array GI:=#[I U 0,I U 0,I U 0,MV {data:=#[]},Z N 0 0,Z N 0 0,Z N 0 0]
def xT{i:Gr}{b j d e q r o p:Nat}{f g:GI}{s t:List GI}(h:i.ownsRow b d q f o s)(k:i.ownsRow j e r g p t)(n:d≠e)(a:Nat)(l:f.ownBlock=O a)(m:g.ownBlock=O a):False:=by obtain⟨_,c,v,h1⟩:=tN h a l;obtain⟨_,u,w,h2⟩:=tN k a m;rw[h1]at h2;simp at h2;exact n h2.2.1
def pq{j:Gr}{b:Nat}(h:j.heap[b]?=O (Pp gG 67 (0,0)))(a c d e f g i:GI):(((((((j.setCell ⟨b,0,N⟩ a).setCell ⟨b,1,N⟩ c).setCell ⟨b,2,N⟩ d).setCell ⟨b,3,N⟩ e).setCell ⟨b,4,N⟩ f).setCell ⟨b,5,N⟩ g).setCell ⟨b,6,N⟩ i).heap[b]?=O (Pp #[a,c,d,e,f,g,i] 67 (0,0)):=by
 rw[lV _ (lV _ (lV _ (lV _ (lV _ (lV _ (lV _ h))))))];rfl
def lX(a:Gr)(b:Nat)(c d e f g h i:GI):gB b a (((((((a.setCell ⟨b,0,N⟩ c).setCell ⟨b,1,N⟩ d).setCell ⟨b,2,N⟩ e).setCell ⟨b,3,N⟩ f).setCell ⟨b,4,N⟩ g).setCell ⟨b,5,N⟩ h).setCell ⟨b,6,N⟩ i):=
 ((((((((gB.refl b a).setCell 0 c).setCell 1 d).setCell 2 e).setCell 3 f).setCell 4 g).setCell 5 h).setCell 6 i)
def gF.agg{P:Nat->Prop}{k:Nat}{w:Gr}{v:GI}{V:VT k}(h:gF P k w v V):∃a0 a1 a2 a3 a4 a5 a6,v=N1 #[a0,a1,a2,a3,a4,a5,a6]:=by
 cases k with
 |zero=>cases h
 |succ k=>obtain⟨b,c,a,d,rfl,_⟩:=h;exact⟨_,_,_,_,_,_,_,rfl⟩
def gF.form{a:Nat->Prop}{k:Nat}{w:Gr}{v:GI}{c:VT k}(h:gF a k w v c):∃(q s t:Int) (b:ByteArray) (l:Option L2) (n m:Nat) (o:Option L2) (r p:Nat) (d:Option L2) (f e:Nat),v=N1 #[I U q,I U s,I U t,MV b,Z l n m,Z o r p,Z d f e]:=by
 cases k with
 |zero=>cases h
 |succ k=>obtain⟨D,E,C,F,rfl,_,i,_,j,g⟩:=h;obtain⟨u,z,rfl⟩:=jp i.1;obtain⟨x,A,rfl⟩:=jp j.1;obtain⟨y,B,rfl⟩:=jp g.1;exact⟨_,_,_,_,_,_,_,_,_,_,_,_,_,rfl⟩
def Dp{r:Gr}{b s g n:Nat}{o:GI}{f:List GI}(h:r.ownsRow b s g o n (f.flatMap cellsOf))(l:∀a∈f,(cellsOf a).length=g)(F:0<g){d:Nat}{a:GI}(j:f[d]?=O a):∃k c,o=Z (O ⟨k,0,N⟩) n c/\n<=c/\c<=maxLen/\o.ownBlock=O k/\∀e i,(cellsOf a)[e]?=O i->r.cell? ⟨k,d*g+e,N⟩=O i:=by
 have B:∀(f:List GI) (d:Nat),(∀a∈f,(cellsOf a).length=g)->∀a,f[d]?=O a->∀e i,(cellsOf a)[e]?=O i->(f.flatMap cellsOf)[d*g+e]?=O i:=by
  intro f;induction f with
  |nil=>intro d _ a j;simp at j
  |cons C f A=>
   intro d l a j e i m;rw[fM];have q:=l C eA;have w:=(cH.1 m).1;cases d with
   |zero=>simp at j;subst j;rw[Nat.zero_mul,bH,aP w];exact m
   |succ d=>rw[aF (by rw[q,Nat.add_mul];omega),q];rw[show(d+1)*g+e-g=d*g+e by rw[Nat.add_mul];omega];exact A d (λD z=>l D (by simp[z])) a (by simpa using j) e i m
 have p:=B f d l a j;rcases h.2 with⟨rfl,rfl⟩|⟨k,c,E,rfl,_,v,t,u,_,y⟩
 ·have h1:=dF (by rw[h.1];omega);have J:=l a (cI j);have:=p 0 _ (af Y);rw[h1]at this;simp at this
 ·refine⟨k,c,rfl,t,u,rfl,λe i m=>?_⟩;have:=p e i m;rw[<-y]at this;rw[iI v,<-ei];have x:=(cH.1 this).1;rw[c_ (by rw[ay]at x;omega)]at this;exact this
def uL{i:Gr}{b l f:Nat}{g:GI}{k:List GI}(h:i.ownsRow b l 1 g f k){e:Nat}{j:GI}(a:k[e]?=O j):∃d c,g=Z (O ⟨d,0,N⟩) f c/\i.cell? ⟨d,e,N⟩=O j:=by
 have s:=(cH.1 a).1;rcases h.2 with⟨rfl,rfl⟩|⟨d,c,p,rfl,_,m,q,r,_,o⟩;·have:=h.1;omega
 ·refine⟨d,c,rfl,?_⟩;rw[iI m,<-ei];rw[<-o]at a;have n:=(cH.1 a).1;rw[c_ (by rw[ay]at n;omega)]at a;exact a
def gF.parts{a:Nat->Prop}{k:Nat}{b:Gr}{i:GI}{V:gk (VT k)}(h:gF a (k+1) b i V):∃(f g d:GI) (c:List GI),i=nV V f g d/\G c=V.items.length /\
   jz a b 67 7 f (G c) (c.flatMap cellsOf)/\(∀(e:Nat) (j:GI) (l:VT k),c[e]?=O j->V.items[e]?=O l->gF a k b j l) /\
   jz a b 9 1 g V.keys.length (V.keys.map λn=>MV (ge n)) /\
   jz a b 3 1 d V.filters.length (V.filters.map λm:Nat=>I U m):=h
def kG(h:Nat->Prop)(k:Nat)(b:Nat)(c:List (VT k))(e:Gr)(v:GI):Prop:=
 ∃a:List GI,e.ownsRow b 67 7 v (G a) (a.flatMap cellsOf)/\G a=G c/\∀(d:Nat) (f:GI) (g:VT k),a[d]?=O f->c[d]?=O g->gF h k e f g
def kO:{k:Nat}->VT k->Nat
 |0,_=>0
 |_+1,a=>gk.kind a
def pC:{k:Nat}->VT k->Int
 |0,_=>0
 |_+1,a=>gk.n a
def tO:{k:Nat}->VT k->List Nat
 |0,_=>[]
 |_+1,a=>gk.text a
def gF.form2{c:Nat->Prop}{k:Nat}{s:Gr}{b:GI}{a:VT k}(h:gF c k s b a):∃(r:Nat) (l:Option L2) (n m:Nat) (o:Option L2) (q p:Nat) (d:Option L2) (f e:Nat),b=N1 #[I U (kO a:Int),I U (pC a),I U r,MV (ge (tO a)),Z l n m,Z o q p,Z d f e]:=by
 cases k with
 |zero=>cases h
 |succ k=>obtain⟨A,B,z,C,rfl,_,i,_,j,g⟩:=h;obtain⟨t,w,rfl⟩:=jp i.1;obtain⟨u,x,rfl⟩:=jp j.1;obtain⟨v,y,rfl⟩:=jp g.1;exact⟨_,_,_,_,_,_,_,_,_,_,rfl⟩
def kG.len{e:Nat->Prop}{k b:Nat}{d:List (VT k)}{w:Gr}{v:GI}(h:kG e k b d w v):∃a c,v=Z a (G d) c:=by obtain⟨g,h1,h2,_⟩:=h;obtain⟨a,c,f⟩:=jp h1;exact⟨a,c,by rw[f,h2]⟩
def kG.m{P Q:Nat->Prop}{k b:Nat}{a:List (VT k)}{w:Gr}{v:GI}(h:kG P k b a w v)(c:∀g,P g->g<w.heap.size->Q g):kG Q k b a w v:=by obtain⟨xs,h1,h2,h3⟩:=h;exact⟨xs,h1,h2,λi f y d e=>gF.m k (h3 i f y d e) c⟩
def kG.at{P:Nat->Prop}{k b:Nat}{a:List (VT k)}{w:Gr}{v:GI}(h:kG P k b a w v){i:Nat}{y:VT k}(f:a[i]?=O y):∃g c x,v=Z (O ⟨g,0,N⟩) (G a) c/\b<=g/\G a<=c/\gF P k w x y/\∀j l,(cellsOf x)[j]?=O l->w.cell? ⟨g,i*7+j,N⟩=O l:=by
 obtain⟨xs,h1,h2,h3⟩:=h;have r:=(cH.1 f).1;obtain⟨x,d⟩:∃x,xs[i]?=O x:=⟨_,af Y⟩;obtain⟨g,c,e,q,_,m,n⟩:=Dp h1 (λx d=>by obtain⟨j,o,p⟩:=cK d;obtain⟨y,f⟩:∃y,a[j]?=O y:=⟨_,af Y⟩;exact(h3 j x y (by rw[af o,p]) f).cells.1) cO d
 exact⟨g,c,x,by rw[e,h2],(h1.lt g m).1,Y,h3 i x y d f,n⟩
def kG.base{P:Nat->Prop}{k b:Nat}{a:List (VT k)}{w:Gr}{c:GI}(h:kG P k b a w c):kG P k 0 a w c:=by obtain⟨d,h1,h2,h3⟩:=h;exact⟨d,zP h1 (aH _),h2,h3⟩
def wV{a d k g:Nat}{i:GI}{l:List GI}{w j:Gr}(h:w.ownsRow a d k i g l)(b:LT w.heap.size w j):j.ownsRow a d k i g l:=by
 obtain⟨h1,h2⟩:=h;refine⟨h1,?_⟩;rcases h2 with h2|⟨e,c,m,e1,e2,f,n⟩;·exact P3 h2
 ·exact P4 ⟨e,c,m,e1,e2,by rw[b.block e (ae f)];exact f,n⟩
def kG.keep{P:Nat->Prop}{k b:Nat}{a:List (VT k)}{w w':Gr}{d:GI}(h:kG P k b a w d)(c:LT w.heap.size w w'):kG P k b a w' d:=by obtain⟨m,h1,h2,h3⟩:=h;exact⟨m,wV h1 c,h2,λi l y g j=>gF.keep k (h3 i l y g j) (λe _ f=>c.block e f)⟩
section
def ij:List Nat->Option (List Nat×List Nat)
 | []=>N
 |b::r=>if mf b then ij r else if b=62 then O ([],r)else match gI b with
  |none=>N
  |some c=>(ij r).map λa=>(c::a.1,a.2)
def ip:List Nat->List Nat
 | []=>[]
 | [a]=>[16*a]
 |a::b::c=>(16*a+b)::ip c
def jQ(r:List Nat):Option (List Nat×List Nat):=(ij r).map λa=>(ip a.1,a.2)
def mQ:∀r:List Nat,ij r=ij (r.dropWhile mf)
 | []=>rfl
 |b::r=>by
  rw[bP];cases h:mf b;·rfl
  ·simp only[ij,h,if_true];exact mQ r
variable{B d f:Nat}{i:Option L2}{c:List Nat}{j k s:GI}{w g:Gr}{r q:List Nat}
variable{z:Gr}{y:GI}{u:List Nat}
def uZ(B d:Nat)(i:Option L2)(f:Nat)(c:List Nat)(j k s:GI)(w:Gr)(r:List Nat)(a:MB)(g:Gr):Prop:=
 match r.dropWhile mf with
 | []=>a=gU 4/\gB d w g
 |b::e=>a=Ps (I .u8 (b:Nat))/\Sc B d i f c j k s g e/\gB d w g
def J_(h:Sc B d i f c j k s w r):K8 Qe 302 #[M2 (O ⟨d,0,N⟩)] w (uZ B d i f c j k s w r):=by
 have C:=h.c0;have D:=h.c1;have E:=h.fz 1;have n:=H h.white;have l:=H ((h.go (cW mf)).drew);have m:L1 (gB d w (w.setCell ⟨d,1,N⟩ (I U (G c-(r.dropWhile mf).length:Nat))).drew):=((gB.refl d w).setCell _ _).drewN 1;clear h;unfold uZ;generalize r.dropWhile mf=t at *;generalize (G c)-G r=p at *;generalize (G c)-G t=F at *;cases t with
 |nil=>
  have a:=H (Dy l)
  go_in
  go_wp2_with fail;go_region_with (go_at_call 188;apply n.o.m;rintro e g ⟨rfl,rfl⟩);all_goals (
   go_wp2_with fail;apply a.o.m;rintro e A ⟨rfl,x,rfl⟩;exact⟨rfl,rfl,m.drewN x⟩)
 |cons b J=>
  have a:=H (AA l)
  go_in
  go_wp2_with fail;go_region_with (go_at_call 188;apply n.o.m;rintro e g ⟨rfl,rfl⟩);all_goals (
   go_wp2_with fail;apply a.o.m;rintro e A ⟨rfl,h2,v⟩;go_wp2;go_ret;exact⟨rfl,h2,m.t v⟩)
def pairs_pad(a:List Nat)(h:G a%2=1):ip (a++[0])=ip a:=by
 have o:∀(l:Nat) (a:List Nat),G a=2*l+1->ip (a++[0])=ip a:=by
  intro l;induction l with
  |zero=>
   intro a e;match a,e with
   | [m],_=>rfl
  |succ l n=>
   intro a e;match a,e with
   |m::b::a,e=>simp only[aj]at e;show ip (m::b::(a++[0]))=ip (m::b::a);simp only[ip];rw[n a Y]
 exact o (G a/2) a Y
end
section
variable{B bs cap:Nat}{t:Option L2}{f:List Nat}{y A C:GI}{w s:Gr}{r q:List Nat}
variable{E:Gr}{m:GI}{d:List Nat}
def sW(a:List Nat):Prop:=∀b∈a,b<16
def sW.snoc{b:List Nat}{c:Nat}(h:sW b)(g:c<16):sW (b++[c]):=by
 intro e a;rcases bG.1 a with a|a;·exact h e a
 ·rw[cU]at a;omega
def sW.nth{l:List Nat}(h:sW l)(a:Nat)(b:a<G l):nth l a<16:=by
 have:Go.Proofs.YtgkljcmjnphpeaaGreatDoor.nth l a=l[a]:=by simp[Go.Proofs.YtgkljcmjnphpeaaGreatDoor.nth,b]
 rw[this];exact h _ (cq b)
structure Jn(E:Gr)(bs:Nat)(w1:Gr)(D:List Nat)(dv:GI)(wr:Gr)(k:Nat)(m:GI):Prop where
 own:wr.ownsRow w1.heap.size 5 1 m k (((ip D).take k).map λx:Nat=>I .u8 (x:Int))
 keep:LT w1.heap.size w1 wr
def Ew:∀(c:Nat) (a:List Nat),G a=2*c->(ip a).length=c
 |0,a,h=>by obtain rfl:a=[]:=dF Y;rfl
 |c+1,a,h=>by
  match a,h with
  |g::b::e,h=>simp only[aj]at h;simp only[ip,aj];rw[Ew c e Y]
def Eu:∀(k:Nat) (a:List Nat),2*k+1<G a->nth (ip a) k=16*nth a (2*k)+nth a (2*k+1)
 |0,a,h=>by
  match a,h with
  |e::b::c,h=>rfl
 |k+1,a,h=>by
  match a,h with
  |e::b::c,h=>simp only[aj]at h;have:=Eu k c Y;show nth ((16*e+b)::ip c) (k+1)=_;rw[show nth ((16*e+b)::ip c) (k+1)=nth (ip c) k from rfl,this];rfl
def G7{l:List Nat}{k:Nat}(h:k<G l):l.take (k+1)=l.take k++[nth l k]:=by rw[du,show nth l k=l[k]by simp[nth,h]];simp[h]
def OQ(h:Sc B bs t cap f y A C w r):K8 Qe 253 #[M2 (O ⟨bs,0,N⟩)] w (kB B bs t cap f y A C pZ (jQ r) w):=by
 obtain⟨i0,M,bm,bo,bq⟩:=bu infoByte;have bf:=H (Bu.start h);have u:=H (J_ h);clear h;obtain⟨T,hR⟩:∃T,jQ r=T:=⟨_,rfl⟩;rw[hR];obtain⟨V,bz⟩:∃V,ij r=V:=⟨_,rfl⟩;have HR:L1 (T=V.map λL=>(ip L.1,L.2)):=by unfold Hid;rw[<-hR,<-bz];rfl
 have a0:L1 (ij (r.dropWhile mf)=V):=by unfold Hid;rw[<-bz];exact(mQ r).s
 clear hR bz;unfold uZ at u;cases D:r.dropWhile mf with
 |nil=>
  rw[D]at u a0;have HE:L1 (T=N):=by unfold Hid;rw[HR.o,<-a0.o];rfl
  simp only[]at u;clear D
  go_in
  go_wp2_with fail;apply u.o.m;rintro a2 w1 ⟨rfl,k1⟩;exact⟨rfl,kB.none_ HE k1⟩
 |cons b0 t0=>
  have ac:=Ch r b0 t0 D;have cp:=bf.o.sc.bytes b0 ((cW mf).subset (by rw[D];simp));have b5:=lx (p:=mf) r;rw[D]at u a0 b5;simp only[]at u;clear D
  go_in
  go_wp2_with fail;apply u.o.m;rintro a2 w1 ⟨rfl,h1,k1⟩;have ce:=H (bf.step h1 k1 (by simp only[aj]at b5;omega));have F:0+(b0::t0).length<=200000:=by have:=bf.o.few;simp only[aI]at this;omega
  clear h1 k1 u bf;go_wp2;go_loopw [3,4] (λbd Q wr=>∃(b:Nat) (q d:List Nat),Q=I .u8 (b:Nat)/\mf b=P2/\b<256/\G d+(b::q).length<=200000/\L1 (Bu w B bs t cap f y A C wr q bd d)/\L1 (sW d)/\L1 (jr d (ij (b::q))=V)) (λ_ _ wr=>G f-posS bs wr)
  case atStart=>refine⟨b0,t0,[],rfl,ac,cp,by simpa using F,ce,(λL x=>(by cases x)),?_⟩;unfold Hid;rw[<-a0.o];cases ij (b0::t0)<;>simp[jr]
  clear ce a0 ac b5 F
  case round=>
   obtain⟨b,q,d,rfl,ca,c3,F,g,S,aa⟩:=hrel;have ch:=H g.sc.posS;by_cases a3:b=62
   ·have bv:L1 (V=O (d,q)):=by unfold Hid;rw[<-aa.o,a3];simp[ij,show mf 62=P2 from rfl,jr]
    clear aa ca ch;have cn:((b:Int) != 62)=P2:=by rw[a3];rfl
    clear a3;by_cases b7:G d%2=1
    ·have cj:((G d:Int)).tmod 2=1:=by rw[dh Y];omega
     obtain⟨ua,uc,cy⟩:=jp g.o.own;subst cy;have cx:=g.o.sz;simp only[aj]at F;go_wp2_with (at_builtin;refine a_ _ rfl (.tmp 22) (.tmp 23) 23 rfl w.heap.size 5 i0 (I .u8 0) 1 1 bB M bm bo bq rfl cO (Z ua (G d) uc) (G d) _ rfl (g.alloc _).own ⟨wr.heap.size,0,N⟩ 1 1 ([0].map λL:Nat=>I .u8 (L:Int)) rfl rfl (Bu.one_news 0 wr) ?hone ?h63 ?hby ?hbs ?_)
     case hone=>intro bd J;simp at J;subst J;rfl
     case h63=>unfold maxLen;omega
     case hby=>omega
     case hbs=>simp;omega
     intro v6 p bc a7 _;have cf:=H ((g.alloc _).app (xs:=[0]) eA bc a7 pf);clear bc a7;have bt:L1 (T=O (ip (d++[0]),q)):=by unfold Hid;rw[HR.o,bv.o,pairs_pad d b7];rfl
     have br:L1 ((d++[0]).length%2=0):=by unfold Hid;rw[ak];simp;omega
     have cg:L1 (sW (d++[0])):=S.o.snoc Y;have cw:(d++[0]).length<=200001:=by rw[ak];simp;omega
     clear g S bv cj b7 F;have g:=cf;have S:=cg;clear cf cg;have al:L1 (Jn w bs p (d++[0]) v6 p 0 (Z N 0 0)):=⟨aX _ _ _ _,aq _ _⟩;have ad:L1 (∀j,j<(d++[0]).length->∃i c,v6=Z (O ⟨i,0,N⟩) (d++[0]).length c/\i<p.heap.size/\p.cell? ⟨i,j,N⟩=O (I .u8 (nth (d++[0]) j:Nat))):=λj M=>by
      obtain⟨i,c,K,hg⟩:=uH g.o.own Y;refine⟨i,c,K,?_,?_⟩
      ·have:=g.o.own;rw[K]at this;exact(this.lt i rfl).2
      ·have:=g.o.own;rw[K]at this;have x:=this.cells (g:=i) rfl j (I .u8 (nth (d++[0]) j:Nat)) (by rw[aY,af M];simp[nth,af M]);rw[pR]at x;exact x
     obtain⟨da,dc,b2⟩:=jp g.o.own;generalize bx:(d++[0])=e at *;clear bx;subst b2;have cs:=br.o;have W:=H (Ew (G e/2) e Y);go_wp2;go_loopw [5,6] (λm j wr=>∃k a:Nat,2*k<=G e/\L1 (a=2*k)/\j=I U (a:Nat)/\L1 (Jn w bs p e (Z da (G e) dc) wr k m)) (λ_ j _=>G e-(intOf j).toNat)
     case atStart=>exact⟨0,0,Y,H rfl,rfl,al⟩
     clear al
     case round=>
      obtain⟨k,a,hk,P,rfl,n⟩:=hrel;have hp:=P.o;by_cases a8:a<G e
      ·have b6:(a:Int)<(G e:Int):=Y;obtain⟨i,c,K,hg,a4⟩:=ad.o a a8;obtain⟨g',c',b8,_,a5⟩:=ad.o (a+1) Y;cases K;cases b8;have d0:=(n.keep.cell (p:=⟨i,a,N⟩) hg).t a4;have d1:=(n.keep.cell (p:=⟨i,a+1,N⟩) hg).t a5;have ha:=S.o.nth a a8;have hb:=S.o.nth (a+1) Y;have ao:L1 (nth (ip e) k=16*nth e a+nth e (a+1)):=by unfold Hid;rw[hp];exact Eu k e Y
       clear a4 a5;generalize nth e a=v at *;generalize nth e (a+1)=b at *;have a9:bits BinOp.or IntKind.u8 ((v:Int)*16) (b:Int)=((16*v+b:Nat):Int):=by have:=u8_or_nat (v*16) b Y Y;rw[tu v b ha hb]at this;simp only[fj,Int.natCast_add]at this ⊢;rw[show((16:Nat):Int)=16 from rfl]at this ⊢;rw[this];omega
       obtain⟨R,bb⟩:∃R,16*v+b=R:=⟨_,rfl⟩;rw[bb]at a9 ao;clear bb;have ct:2*k+1<G e:=Y;have b4:=n.o.keep.size;have co:(a:Int)+1<(G e:Int):=Y;have b9:IntKind.u8.wrap ((v:Int)*16)=(v:Int)*16:=by rw[cE];omega
       have cb:IntKind.i64.wrap ((a:Int)+1)=(a:Int)+1:=by rw[aU];omega
       have cc:((a:Int)+1).toNat=a+1:=Y;have ac:(0:Int)<=(a:Int)+1:=Y;have cu:(a:Int)<=200001:=Y;have cv:k<=200001:=Y;clear hp;go_wp2_with fail;go_region_law (refine Dv rfl (.tmp 31) (.tmp 43) 23 rfl p.heap.size 5 i0 (I .u8 0) 1 1 bB M bm bo bq rfl cO u5 k _ rfl (fL (n.o.own.alloc _)) ⟨wr.heap.size,0,N⟩ 1 1 ([R].map λL:Nat=>I .u8 (L:Int)) rfl rfl ?hnews ?hone ?h63 ?hby ?hb ?_;(case hnews=>exact Bu.one_news R wr);(case hone=>intro bd J;simp at J;subst J;rfl);(case h63=>unfold maxLen;omega);(case hby=>omega);(case hb=>simp;omega);intro v' w8 ba z _);all_goals (
        have H8:L1 (Jn w bs p e (Z (O ⟨i,0,N⟩) (G e) dc) w8 (k+1) v'):=by refine⟨?_,(((n.keep.alloc b4 _).drew).t ⟨z.os,z.tape,z.output,z.size,λcd hj=>z.block cd eB (CU n.o.own hj)⟩)⟩;rw[G7 (by rw[W.o];have:=P.o;omega),bK,ao.o];exact ba
        clear ba z;go_wp2)
       all_goals go_roundw
       all_goals first|exact⟨k+1,a+2,by have:=P.o;omega,by have:=P.o;unfold Hid;omega,by go_num,H8⟩|(clear cc cb b9 ac a9;simp[intOf];omega)
      ·have b6:¬(a:Int)<(G e:Int):=Y;have b3:k=G e/2:=Y;clear hp;have a6:=yP (l:=(ip e).take k) Fo;have bw:L1 ((ip e).take k=ip e):=by unfold Hid;rw[bD (by rw[W.o];omega)]
       rw[bw.o]at a6;obtain⟨a1,X⟩:∃a1,ge (ip e)=a1:=⟨_,rfl⟩;rw[X]at a6;have HS:=H X;clear X;go_wp2;go_ret;refine kB.some_ bt (by rw[pZ,HS.o];rfl) (g.o.sc.other n.keep) (g.o.only.t (.of_below n.keep))
    ·have cj:((G d:Int)).tmod 2=0:=by rw[dh Y];omega
     have bt:L1 (T=O (ip d,q)):=by unfold Hid;rw[HR.o,bv.o];rfl
     have br:L1 (G d%2=0):=by unfold Hid;omega
     simp only[aj]at F;have cw:G d<=200001:=Y;clear b7 F;obtain⟨p,c2⟩:∃p,p=wr:=⟨_,rfl⟩;subst c2;have al:L1 (Jn w bs p d u3 p 0 (Z N 0 0)):=⟨aX _ _ _ _,aq _ _⟩;have ad:L1 (∀j,j<G d->∃i c,u3=Z (O ⟨i,0,N⟩) (G d) c/\i<p.heap.size/\p.cell? ⟨i,j,N⟩=O (I .u8 (nth d j:Nat))):=λj M=>by
      obtain⟨i,c,K,hg⟩:=uH g.o.own Y;refine⟨i,c,K,?_,?_⟩
      ·have:=g.o.own;rw[K]at this;exact(this.lt i rfl).2
      ·have:=g.o.own;rw[K]at this;have x:=this.cells (g:=i) rfl j (I .u8 (nth d j:Nat)) (by rw[aY,af M];simp[nth,af M]);rw[pR]at x;exact x
     obtain⟨da,dc,b2⟩:=jp g.o.own;generalize bx:d=e at *;clear bx;subst b2;have cs:=br.o;have W:=H (Ew (G e/2) e Y);go_wp2;go_loopw [5,6] (λm j wr=>∃k a:Nat,2*k<=G e/\L1 (a=2*k)/\j=I U (a:Nat)/\L1 (Jn w bs p e (Z da (G e) dc) wr k m)) (λ_ j _=>G e-(intOf j).toNat)
     case atStart=>exact⟨0,0,Y,H rfl,rfl,al⟩
     clear al
     case round=>
      obtain⟨k,a,hk,P,rfl,n⟩:=hrel;have hp:=P.o;by_cases a8:a<G e
      ·have b6:(a:Int)<(G e:Int):=Y;obtain⟨i,c,K,hg,a4⟩:=ad.o a a8;obtain⟨g',c',b8,_,a5⟩:=ad.o (a+1) Y;cases K;cases b8;have d0:=(n.keep.cell (p:=⟨i,a,N⟩) hg).t a4;have d1:=(n.keep.cell (p:=⟨i,a+1,N⟩) hg).t a5;have ha:=S.o.nth a a8;have hb:=S.o.nth (a+1) Y;have ao:L1 (nth (ip e) k=16*nth e a+nth e (a+1)):=by unfold Hid;rw[hp];exact Eu k e Y
       clear a4 a5;generalize nth e a=v at *;generalize nth e (a+1)=b at *;have a9:bits BinOp.or IntKind.u8 ((v:Int)*16) (b:Int)=((16*v+b:Nat):Int):=by have:=u8_or_nat (v*16) b Y Y;rw[tu v b ha hb]at this;simp only[fj,Int.natCast_add]at this ⊢;rw[show((16:Nat):Int)=16 from rfl]at this ⊢;rw[this];omega
       obtain⟨R,bb⟩:∃R,16*v+b=R:=⟨_,rfl⟩;rw[bb]at a9 ao;clear bb;have ct:2*k+1<G e:=Y;have b4:=n.o.keep.size;have co:(a:Int)+1<(G e:Int):=Y;have b9:IntKind.u8.wrap ((v:Int)*16)=(v:Int)*16:=by rw[cE];omega
       have cb:IntKind.i64.wrap ((a:Int)+1)=(a:Int)+1:=by rw[aU];omega
       have cc:((a:Int)+1).toNat=a+1:=Y;have ac:(0:Int)<=(a:Int)+1:=Y;have cu:(a:Int)<=200001:=Y;have cv:k<=200001:=Y;clear hp;go_wp2_with fail;go_region_law (refine Dv rfl (.tmp 31) (.tmp 43) 23 rfl p.heap.size 5 i0 (I .u8 0) 1 1 bB M bm bo bq rfl cO u5 k _ rfl (fL (n.o.own.alloc _)) ⟨wr.heap.size,0,N⟩ 1 1 ([R].map λL:Nat=>I .u8 (L:Int)) rfl rfl ?hnews ?hone ?h63 ?hby ?hb ?_;(case hnews=>exact Bu.one_news R wr);(case hone=>intro bd J;simp at J;subst J;rfl);(case h63=>unfold maxLen;omega);(case hby=>omega);(case hb=>simp;omega);intro v' w8 ba z _);all_goals (
        have H8:L1 (Jn w bs p e (Z (O ⟨i,0,N⟩) (G e) dc) w8 (k+1) v'):=by refine⟨?_,(((n.keep.alloc b4 _).drew).t ⟨z.os,z.tape,z.output,z.size,λcd hj=>z.block cd eB (CU n.o.own hj)⟩)⟩;rw[G7 (by rw[W.o];have:=P.o;omega),bK,ao.o];exact ba
        clear ba z;go_wp2)
       all_goals go_roundw
       all_goals first|exact⟨k+1,a+2,by have:=P.o;omega,by have:=P.o;unfold Hid;omega,by go_num,H8⟩|(clear cc cb b9 ac a9;simp[intOf];omega)
      ·have b6:¬(a:Int)<(G e:Int):=Y;have b3:k=G e/2:=Y;clear hp;have a6:=yP (l:=(ip e).take k) Fo;have bw:L1 ((ip e).take k=ip e):=by unfold Hid;rw[bD (by rw[W.o];omega)]
       rw[bw.o]at a6;obtain⟨a1,X⟩:∃a1,ge (ip e)=a1:=⟨_,rfl⟩;rw[X]at a6;have HS:=H X;clear X;go_wp2;go_ret;refine kB.some_ bt (by rw[pZ,HS.o];rfl) (g.o.sc.other n.keep) (g.o.only.t (.of_below n.keep))
   ·have cn:((b:Int) != 62)=PV:=eB;cases x:gI b with
    |none=>
     have HE:L1 (T=N):=by unfold Hid;rw[HR.o,<-aa.o];simp[ij,ca,a3,x,jr]
     have HX:=H (GG b wr x);clear x aa;go_wp2_with fail;apply HX.o.m;rintro a2 s ⟨rfl,rfl⟩;exact⟨rfl,kB.none_ HE g.o.only⟩
    |some Q=>
     have cl:L1 (jr (d++[Q]) (ij q)=V):=by unfold Hid;rw[<-aa.o,<-vQ];simp[ij,ca,a3,x]
     have HX:=H (GH b Q wr x);have c0:=vH x;clear x aa;go_wp2_with fail;apply HX.o.m;rintro a2 s ⟨rfl,rfl⟩;have cx:=g.o.sz;go_wp2_with (at_builtin;refine a_ _ rfl (.tmp 13) (.tmp 16) 23 rfl w.heap.size 5 i0 (I .u8 0) 1 1 bB M bm bo bq rfl cO u3 (G d) _ rfl (g.alloc _).own ⟨s.heap.size,0,N⟩ 1 1 ([Q].map λL:Nat=>I .u8 (L:Int)) rfl rfl (Bu.one_news Q s) ?hone ?h63 ?hby ?hbs ?_)
     case hone=>intro bd J;simp at J;subst J;rfl
     case h63=>unfold maxLen;simp only[aj]at F;omega
     case hby=>simp only[aj]at F;omega
     case hbs=>simp;omega
     intro v6 p bc a7 _;have H6:=H ((g.alloc _).app (xs:=[Q]) eA bc a7 (by simp only[aj,aI]at F ⊢;omega));clear bc a7;have u:=H (J_ H6.sc);unfold uZ at u;have bi:L1 (jr (d++[Q]) (ij (q.dropWhile mf))=V):=by unfold Hid;rw[<-mQ];exact cl
     cases D:q.dropWhile mf with
     |nil=>
      rw[D]at u bi;simp only[]at u;have HE:L1 (T=N):=by unfold Hid;rw[HR.o,<-bi.o];rfl
      clear D;go_wp2_with fail;apply u.o.m;rintro a2 w7 ⟨rfl,k7⟩;exact⟨rfl,kB.none_ HE (H6.o.only.t k7)⟩
     |cons b1 t1=>
      have c1:=Ch q b1 t1 D;have ci:=lx (p:=mf) q;have cr:=g.o.sc.bytes b1 ((cW mf).subset (by rw[D];simp));rw[D]at u bi ci;simp only[]at u;clear D;go_wp2_with fail;apply u.o.m;rintro a2 w7 ⟨rfl,h7,k7⟩;simp only[aj]at ci F;have H7:=H (H6.step h7 k7 Y);have ck:=H h7.posS;have c5:=h7.le;have c4:=g.o.sc.le;clear h7 k7;go_wp2;go_roundw
      case rel=>exact⟨b1,t1,d++[Q],rfl,c1,cr,by simp only[ak,aj,aI];omega,H7,S.snoc c0,bi⟩
      case measure=>rw[ch.o,ck.o];omega
end
section
def oH:List Nat->Bool
 | []=>P2
 |b::_=>decide (48<=b)&&decide (b<=55)
def jZ:Nat->Nat->List Nat->Nat×List Nat
 |0,a,r=>(a,r)
 |k+1,a,r=>if oH r then jZ k (8*a+(r.headD 0-48)) r.tail else(a,r)
def lb(r:List Nat):Nat×List Nat:=jZ 3 0 r
def jv(b:Nat):Option Nat:=if b=110 then O 10 else if b=114 then O 13 else if b=116 then O 9 else if b=98 then O 8 else if b=102 then O 12 else if b=40\/b=41\/b=92 then O b else N
def iG(r:List Nat):Option (List Nat×List Nat):=
 match gJ r with
 |some a=>O ([],a)
 |none=>if oH r then(if(lb r).1<=255 then O ([(lb r).1],(lb r).2)else N)else match r with
  | []=>N
  |b::d=>match jv b with
   |none=>N
   |some c=>O ([c],d)
variable{B f d:Nat}{s:Option L2}{a:List Nat}{y z A:GI}{w w':Gr}{r q:List Nat}
variable{C:Gr}{D:GI}{g:List Nat}
def Dz(h:Sc B f s d a y z A w r):K8 Qe 324 #[M2 (O ⟨f,0,N⟩)] w λk w'=>k=Ps (OV (oH r))/\∃l,w'=w.drewN l:=by
 have e:=H h;cases r with
 |nil=>
  go_in
  go_wp2_with fail;go_quiet ((go_at_call 190;exact eT (xz (e.drewN _))));go_wp2;go_ret;exact⟨rfl,nq,rfl⟩
 |cons b c=>
  obtain⟨x,_,t,n,F,rfl,u,v⟩:=h.cons;have o:=h.c0;have p:=h.c1;have e1:(decide ((48:Int)<=(b:Int))&&decide ((b:Int)<=55))=oH (b::c):=by unfold oH;rw[bC];simp;omega
  have i:=H (λj=>yT (b:Int) 48 55 j);rw[e1]at i;generalize oH (b::c)=J at *;generalize (G a)-(b::c).length=m at *;have E:(m:Int)<(G a:Int):=Y
  go_in
  go_wp2_with fail;go_quiet (first|(go_at_call 190;exact eT (xz (e.drewN _)))|(go_at_call 216;exact bj (i _)));go_wp2;go_ret;exact⟨eA,nq,rfl⟩
def Jp:∀(k b:Nat) (r:List Nat),(jZ k b r).2 <:+ r
 |0,b,r=>eH _
 |k+1,b,r=>by
  simp only[jZ];split;·exact(Jp k _ r.tail).t (List.tail_suffix r)
  ·exact eH _
def sM(B f:Nat)(s:Option L2)(d:Nat)(a:List Nat)(y z A:GI)(w:Gr)(b:Nat)(e:List Nat)(c:MB)(w':Gr):Prop:=
 if b<=255 then c=Ps (I .u8 (b:Nat))/\Sc B f s d a y z A w' e/\gB f w w' else c=gU 4/\gB f w w'
def Pq(h:Sc B f s d a y z A w r):K8 Qe 325 #[M2 (O ⟨f,0,N⟩)] w (sM B f s d a y z A w (lb r).1 (lb r).2):=by
 have K:=H h;obtain⟨l,m,M⟩:∃l m,lb r=(l,m):=⟨_,_,rfl⟩;have L:L1 (jZ 3 0 r=(l,m)):=M;rw[M];simp only[]
 go_in
 go_wp2;go_loopw [3,4] (λal J wr=>∃(k c:Nat) (q:List Nat),k<=3/\L1 (c<8^k)/\al=I U (c:Nat)/\J=I U (k:Nat)/\L1 (Sc B f s d a y z A wr q)/\L1 (gB f w wr)/\L1 (jZ (3-k) c q=(l,m))) (λ_ J _=>3-(intOf J).toNat)
 case atStart=>exact⟨0,0,r,Y,H Y,rfl,rfl,K,gB.refl _ _,L⟩
 clear K L
 case round=>
  obtain⟨k,c,q,hk,E,rfl,rfl,x,u,t⟩:=hrel;have ao:c<512:=by have:(8:Nat)^k<=8^3:=aJ Y hk;have:=E.o;omega
  have p:=H (Dz x);by_cases a0:k<3
  ·have ac:decide ((k:Int)<3)=PV:=eB;cases j:oH q
   ·rw[j]at p;obtain⟨rfl,rfl⟩:c=l/\q=m:=by have:=t.o;obtain⟨n,F⟩:∃n,3-k=n+1:=⟨2-k,Y⟩;rw[F,jZ,j]at this;simpa using this
    clear t j;by_cases v:c<=255
    ·have ad:IntKind.u8.wrap (c:Int)=(c:Int):=by rw[cE];omega
     go_wp2_with fail;apply p.o.m;rintro e S ⟨rfl,i,rfl⟩;go_wp2_with fail;apply(ou (c:Int) 0 255 _ Y Y).m;rintro e w' ⟨rfl,rfl⟩;go_wp2_with fail;apply(oe _).m;rintro e w' ⟨rfl,rfl⟩;go_wp2;go_ret;unfold sM;rw[ai v];exact⟨rfl,x.drewN i,u.drewN i⟩
    ·go_wp2_with fail;apply p.o.m;rintro e S ⟨rfl,i,rfl⟩;go_wp2_with fail;apply(qP (c:Int) 0 255 _ (P4 Y)).m;rintro e w' ⟨rfl,rfl⟩;go_wp2_with fail;apply(nZ _).m;rintro e w' ⟨rfl,rfl⟩;refine⟨rfl,?_⟩;unfold sM;rw[ah v];exact⟨rfl,u.drewN i⟩
   ·rw[j]at p;cases q with
    |nil=>cases j
    |cons b R=>
     have hb:48<=b/\b<=55:=by simpa[oH]using j
     have W:L1 (jZ (3-(k+1)) (8*c+(b-48)) R=(l,m)):=by have:=t.o;obtain⟨n,F⟩:∃n,3-k=n+1:=⟨2-k,Y⟩;rw[F,jZ,j]at this;unfold Hid;rw[show 3-(k+1)=n by omega];simpa using this
     have X:L1 (8*c+(b-48)<8^(k+1)):=by have:=E.o;unfold Hid;rw[cY];omega
     have aa:=H (λi=>AA (x.drewN i));have hs:IntKind.u8.wrap ((b:Int)-48)=(b:Int)-48:=by rw[cE];omega
     have P:(c:Int)*8+((b:Int)-48)=((8*c+(b-48):Nat):Int):=Y;have V:=H P;clear t j P E;go_wp2_with fail;apply p.o.m;rintro e S ⟨rfl,i,rfl⟩;go_wp2_with fail;apply(aa i).m;rintro e w2 ⟨rfl,h2,Q⟩;have T:=H h2;have K2:=H ((u.drewN i).t Q);clear h2 Q;go_wp2;go_roundw
     case rel=>exact⟨k+1,8*c+(b-48),R,Y,X,by rw[<-V.o],by go_num,T,K2,W⟩
     case measure=>simp[intOf];omega
  ·have ac:decide ((k:Int)<3)=P2:=eB;obtain⟨rfl,rfl⟩:c=l/\q=m:=by have:=t.o;rw[show 3-k=0 by omega,jZ]at this;simpa using this
   by_cases v:c<=255
   ·have ad:IntKind.u8.wrap (c:Int)=(c:Int):=by rw[cE];omega
    go_wp2_with fail;apply(ou (c:Int) 0 255 _ Y Y).m;rintro e w' ⟨rfl,rfl⟩;go_wp2_with fail;apply(oe _).m;rintro e w' ⟨rfl,rfl⟩;go_wp2;go_ret;unfold sM;rw[ai v];exact⟨rfl,x,u⟩
   ·go_wp2_with fail;apply(qP (c:Int) 0 255 _ (P4 Y)).m;rintro e w' ⟨rfl,rfl⟩;go_wp2_with fail;apply(nZ _).m;rintro e w' ⟨rfl,rfl⟩;refine⟨rfl,?_⟩;unfold sM;rw[ah v];exact⟨rfl,u⟩
def oS(b:Nat)(w:Gr)(e:MB)(w':Gr):Prop:=
 match jv b with
 |some c=>e=Ps (I .u8 (c:Nat))/\w'=w
 |none=>e=gU 4/\w'=w
def OZ(w:Gr):K8 Qe 326 #[I .u8 (110:Nat)] w (oS 110 w):=by go_enter eD,d_;go_wp2;go_ret;exact⟨rfl,rfl⟩
def OE(w:Gr):K8 Qe 326 #[I .u8 (114:Nat)] w (oS 114 w):=by go_enter eD,d_;go_wp2;go_ret;exact⟨rfl,rfl⟩
def OD(w:Gr):K8 Qe 326 #[I .u8 (116:Nat)] w (oS 116 w):=by go_enter eD,d_;go_wp2;go_ret;exact⟨rfl,rfl⟩
def s9(w:Gr):K8 Qe 326 #[I .u8 (98:Nat)] w (oS 98 w):=by go_enter eD,d_;go_wp2;go_ret;exact⟨rfl,rfl⟩
def Gx(w:Gr):K8 Qe 326 #[I .u8 (102:Nat)] w (oS 102 w):=by go_enter eD,d_;go_wp2;go_ret;exact⟨rfl,rfl⟩
def O7(w:Gr):K8 Qe 326 #[I .u8 (40:Nat)] w (oS 40 w):=by go_enter eD,d_;go_wp2_with (go_at_call 99;apply(oe _).m;rintro b w' ⟨rfl,rfl⟩);go_ret;exact⟨rfl,rfl⟩
def OG(w:Gr):K8 Qe 326 #[I .u8 (41:Nat)] w (oS 41 w):=by go_enter eD,d_;go_wp2_with (go_at_call 99;apply(oe _).m;rintro b w' ⟨rfl,rfl⟩);go_ret;exact⟨rfl,rfl⟩
def O_(w:Gr):K8 Qe 326 #[I .u8 (92:Nat)] w (oS 92 w):=by go_enter eD,d_;go_wp2_with (go_at_call 99;apply(oe _).m;rintro b w' ⟨rfl,rfl⟩);go_ret;exact⟨rfl,rfl⟩
def Pl(b:Nat)(w:Gr):K8 Qe 326 #[I .u8 (b:Nat)] w (oS b w):=by
 by_cases e:b=110;·subst e;exact OZ w
 by_cases h:b=114;·subst h;exact OE w
 by_cases i:b=116;·subst i;exact OD w
 by_cases j:b=98;·subst j;exact s9 w
 by_cases c:b=102;·subst c;exact Gx w
 by_cases l:b=40;·subst l;exact O7 w
 by_cases m:b=41;·subst m;exact OG w
 by_cases n:b=92;·subst n;exact O_ w
 have u:((b:Int)==110)=P2:=eB;have v:((b:Int)==114)=P2:=eB;have x:((b:Int)==116)=P2:=eB;have K:((b:Int)==98)=P2:=eB;have t:((b:Int)==102)=P2:=eB;have E:((b:Int)==40)=P2:=eB;have F:((b:Int)==41)=P2:=eB;have J:((b:Int)==92)=P2:=eB;have k:L1 (jv b=N):=by unfold Hid jv;rw[ah e,ah h,ah i,ah j,ah c,ah Y]
 go_enter eD,d_;go_wp2_with fail;apply(nZ _).m;rintro p w' ⟨rfl,rfl⟩;refine⟨rfl,?_⟩;unfold oS;rw[k.o];exact⟨rfl,rfl⟩
def lH(C:Gr)(B f:Nat)(s:Option L2)(d:Nat)(a:List Nat)(y z A:GI)(g:List Nat)(h:Option (List Nat×List Nat))(b:MB)(w':Gr):Prop:=
 match h with
 |some (e,q)=>∃c,b=Ps c/\Bu C B f s d a y z A w' q c (g++e)
 |none=>b=gU 4/\gB f C w'
def lH.none_{b:Option (List Nat×List Nat)}(h:b=N)(k:gB f C w'):lH C B f s d a y z A g b (gU 4) w':=by subst h;exact⟨rfl,k⟩
def lH.some_{b:Option (List Nat×List Nat)}{l q:List Nat}{v:GI}(h:b=O (l,q))(c:Bu C B f s d a y z A w' q v (g++l)):lH C B f s d a y z A g b (Ps v) w':=by subst h;exact⟨v,rfl,c⟩
def Bl{r q:List Nat}(h:gJ r=O q):G q+1<=G r:=by
 unfold gJ at h;cases e1:f_ [13,10] r with
 |some b=>rw[e1]at h;cases h;have:=(gD e1).1;simp only[aj,aI]at this;omega
 |none=>
  cases e2:f_ [10] r with
  |some b=>rw[e1,e2]at h;cases h;have:=(gD e2).1;simp only[aj,aI]at this;omega
  |none=>rw[e1,e2]at h;have:=(gD (show f_ [13] r=O q from h)).1;simp only[aj,aI]at this;omega
def Jr{r:List Nat}(h:oH r=PV):(lb r).2.length+1<=G r:=by
 cases r with
 |nil=>cases h
 |cons b c=>unfold lb;rw[jZ,ai h];have:=(Jp 2 (8*0+((b::c).headD 0-48)) (b::c).tail).length_le;simp only[List.tail_cons,aj]at this ⊢;omega
def GK(h:Bu C B f s d a y z A w q D g):K8 Qe 305 #[M2 (O ⟨f,0,N⟩),D] w (lH C B f s d a y z A g (iG q)):=by
 obtain⟨i0,hi,al,ao,a0⟩:=bu infoByte;have ac:=H h;have K:=H (EI h.sc);obtain⟨m,hR⟩:∃m,iG q=m:=⟨_,rfl⟩;rw[hR];have L:=H hR;cases p:gJ q with
 |some q1=>
  rw[p]at K;have R:L1 (m=O ([],q1)):=by unfold Hid;rw[<-L.o];unfold iG;rw[p]
  have a5:=Bl p
  go_in
  go_wp2_with fail;apply K.o.m;rintro j X ⟨rfl,h1,V⟩;have i:=H (ac.step (show Sc B f s d a y z A X q1 from h1) V Y);go_wp2;go_ret;exact lH.some_ R (by rw[cF];exact i)
 |none=>
  rw[p]at K
  go_in
  go_wp2_with fail;apply K.o.m;rintro j X ⟨rfl,h1,V⟩;have i:=H (ac.step (show Sc B f s d a y z A X q from h1) V (ag _));have v:=H (Dz i.sc);cases t:oH q
  ·rw[t]at v;cases q with
   |nil=>
    have R:L1 (m=N):=by unfold Hid;rw[<-L.o];unfold iG;rw[p];simp[t]
    have S:=H (λe=>Dy (i.drewN e).sc);go_wp2_with fail;apply v.o.m;rintro j w2 ⟨rfl,e,rfl⟩;go_wp2_with fail;apply(S e).m;rintro j u ⟨rfl,m3,rfl⟩;exact⟨rfl,lH.none_ R ((i.drewN e).only.drewN m3)⟩
   |cons b a3=>
    have S:=H (λe=>AA (i.drewN e).sc);have k:L1 (m=match jv b with|none=>N|some c=>O ([c],a3)):=by unfold Hid;rw[<-L.o];unfold iG;rw[p];simp[t]
    go_wp2_with fail;apply v.o.m;rintro j w2 ⟨rfl,e,rfl⟩;go_wp2_with fail;apply(S e).m;rintro j u ⟨rfl,h3,J⟩;have l:=H ((i.drewN e).step h3 J eA);have ad:=i.o.few;have n:=H (Pl b u);unfold oS at n;cases he:jv b with
    |none=>rw[he]at n k;simp only[]at n k;go_wp2_with fail;apply n.o.m;rintro j w' ⟨rfl,rfl⟩;exact⟨rfl,lH.none_ k l.o.only⟩
    |some c=>
     rw[he]at n k;simp only[]at n k;go_wp2_with fail;apply n.o.m;rintro j w' ⟨rfl,rfl⟩;have a2:=l.o.sz;simp only[aj]at ad;go_wp2_with (at_builtin;refine a_ _ rfl (.tmp 15) (.tmp 19) 23 rfl C.heap.size 5 i0 (I .u8 0) 1 1 bB hi al ao a0 rfl cO D (G g) _ rfl (l.alloc _).own ⟨w'.heap.size,0,N⟩ 1 1 ([c].map λaa:Nat=>I .u8 (aa:Int)) rfl rfl (Bu.one_news c w') ?hone ?h63 ?hby ?hbs ?_)
     case hone=>intro a4 F;simp at F;subst F;rfl
     case h63=>unfold maxLen;omega
     case hby=>omega
     case hbs=>simp;omega
     intro v6 w6 W T _;have P:=H ((l.alloc _).app (xs:=[c]) eA W T pf);go_wp2;go_ret;exact lH.some_ k P
  ·rw[t]at v;have x:=H (λe=>Pq (i.drewN e).sc);have a6:=Jr t;have k:L1 (m=if(lb q).1<=255 then O ([(lb q).1],(lb q).2)else N):=by unfold Hid;rw[<-L.o];unfold iG;rw[p];simp[t]
   generalize (lb q).1=E at *;generalize (lb q).2=a1 at *;unfold sM at x;go_wp2_with fail;apply v.o.m;rintro j w2 ⟨rfl,e,rfl⟩;by_cases M:E<=255
   ·simp only[ai M]at x;have Q:L1 (m=O ([E],a1)):=by unfold Hid;rw[k.o,ai M]
    go_wp2_with fail;apply(x e).m;rintro j u ⟨rfl,h3,J⟩;have l:=H ((i.drewN e).step h3 J Y);have ad:=i.o.few;have a2:=l.o.sz;go_wp2_with (at_builtin;refine a_ _ rfl (.tmp 10) (.tmp 13) 23 rfl C.heap.size 5 i0 (I .u8 0) 1 1 bB hi al ao a0 rfl cO D (G g) _ rfl (l.alloc _).own ⟨u.heap.size,0,N⟩ 1 1 ([E].map λaa:Nat=>I .u8 (aa:Int)) rfl rfl (Bu.one_news E u) ?hone ?h63 ?hby ?hbs ?_)
    case hone=>intro a4 F;simp at F;subst F;rfl
    case h63=>unfold maxLen;omega
    case hby=>omega
    case hbs=>simp;omega
    intro v6 w6 W T _;have P:=H ((l.alloc _).app (xs:=[E]) eA W T pf);go_wp2;go_ret;exact lH.some_ Q P
   ·simp only[ah M]at x;have Q:L1 (m=N):=by unfold Hid;rw[k.o,ah M]
    go_wp2_with fail;apply(x e).m;rintro j u ⟨rfl,J⟩;exact⟨rfl,lH.none_ Q ((i.drewN e).only.t J)⟩
end
section
def iC:Nat->Nat->List Nat->Option (List Nat×List Nat)
 |0,_,_=>N
 |d+1,c,r=>match gJ r with
  |some f=>(iC d c f).map λa=>(10::a.1,a.2)
  |none=>match r with
   | []=>N
   |b::e=>if b=92 then(match iG e with
     |none=>N
     |some (g,f)=>(iC d c f).map λa=>(g++a.1,a.2))
    else if b=40 then(iC d (c+1) e).map λa=>(b::a.1,a.2)
    else if b=41 then(if c=1 then O ([],e)else(iC d (c-1) e).map λa=>(b::a.1,a.2))
    else(iC d c e).map λa=>(b::a.1,a.2)
def j3(r:List Nat):Option (List Nat×List Nat):=iC (G r+1) 1 r
def EZ(c d:List Nat)(a:Option (List Nat×List Nat)):jr c (a.map λb=>(d++b.1,b.2))=jr (c++d) a:=by
 cases a with
 |none=>rfl
 |some b=>simp[jr]
def Cb{r f g:List Nat}(h:iG r=O (f,g)):G f+G g<=G r:=by
 unfold iG at h;cases a:gJ r with
 |some j=>rw[a]at h;cases h;have:=Bl a;simp only[aI];omega
 |none=>
  rw[a]at h;simp only[]at h;by_cases d:oH r=PV
  ·rw[ai d]at h;by_cases h2:(lb r).1<=255;·rw[ai h2]at h;cases h;have:=Jr d;simp only[aj,aI];omega
   ·rw[ah h2]at h;cases h
  ·rw[ah d]at h;cases r with
   |nil=>cases h
   |cons b i=>
    simp only[]at h;cases e:jv b with
    |none=>rw[e]at h;cases h
    |some c=>rw[e]at h;cases h;simp only[aj,aI];omega
variable{B i g:Nat}{j:Option L2}{d:List Nat}{k m n:GI}{w s:Gr}{r q:List Nat}
variable{y:Gr}{p:GI}{a:List Nat}
def Pr(h:Sc B i j g d k m n w r):K8 Qe 254 #[M2 (O ⟨i,0,N⟩)] w (kB B i j g d k m n pZ (j3 r) w):=by
 obtain⟨i0,hi,ad,al,ao⟩:=bu infoByte;have a3:=H (Bu.start h);have bq:=h.len;have bo:=h.le;obtain⟨o,hR⟩:∃o,j3 r=o:=⟨_,rfl⟩;rw[hR];have u:L1 (jr [] (iC (G r+1) 1 r)=o):=by unfold Hid;rw[<-hR];unfold j3 jr;cases iC (G r+1) 1 r<;>simp
 go_in
 go_wp2;go_loopw [3,4,5] (λac bf _ wr=>∃(e c:Nat) (q a:List Nat),bf=I U (c:Nat)/\1<=c/\c+G q<=200001/\G q<e/\L1 (Bu w B i j g d k m n wr q ac a)/\L1 (jr a (iC e c q)=o)) (λ_ _ _ wr=>G d-posS i wr)
 case atStart=>exact⟨G r+1,1,r,[],rfl,Y,Y,Y,a3,u⟩
 case round=>
  obtain⟨e,c,q,a,rfl,ho1,bb,hf,M,u⟩:=hrel;obtain⟨e,rfl⟩:∃f',e=f'+1:=⟨e-1,Y⟩;have X:=H M.sc.posS;have bc:=M.o.sc.le;have ba:=M.o.few;have W:=H (EI M.sc);cases t:gJ q with
  |some q1=>
   rw[t]at W;have f:L1 (jr (a++[10]) (iC e c q1)=o):=by
    unfold Hid;have F:iC (e+1) c q=(iC e c q1).map λl=>(10::l.1,l.2):=by rw[iC.eq_def];simp only[t]
    rw[<-u.o,<-vQ,F]
   have bm:=Bl t;go_wp2_with fail;apply W.o.m;rintro F P ⟨rfl,h1,k1⟩;have D:=H (M.step (show Sc B i j g d k m n P q1 from h1) k1 Y);have bd:=D.o.sz;go_wp2_with (at_builtin;refine a_ _ rfl (.tmp 8) (.tmp 9) 23 rfl w.heap.size 5 i0 (I .u8 0) 1 1 bB hi ad al ao rfl cO u3 (G a) _ rfl (D.alloc _).own ⟨P.heap.size,0,N⟩ 1 1 ([10].map λl:Nat=>I .u8 (l:Int)) rfl rfl (Bu.one_news 10 P) ?hone ?h63 ?hby ?hbs ?_)
   case hone=>intro ac z;simp at z;subst z;rfl
   case h63=>unfold maxLen;omega
   case hby=>omega
   case hbs=>simp;omega
   intro v6 w6 K J _;have x:=H ((D.alloc _).app (xs:=[10]) eA K J pf);have L:=H x.sc.posS;go_wp2;go_roundw
   case rel=>exact⟨e,c,q1,a++[10],rfl,ho1,Y,Y,x,f⟩
   case measure=>rw[X.o,L.o];omega
  |none=>
   rw[t]at W;cases q with
   |nil=>
    have V:L1 (o=N):=by unfold Hid;rw[<-u.o,iC,t];rfl
    go_wp2_with fail;apply W.o.m;rintro F P ⟨rfl,h1,k1⟩;have D:=H (M.step (show Sc B i j g d k m n P []from h1) k1 (ag _));have HN:=H (Dy D.sc);go_wp2_with fail;apply HN.o.m;rintro F w3 ⟨rfl,m3,rfl⟩;exact⟨rfl,kB.none_ V (D.o.only.drewN m3)⟩
   |cons b C=>
    simp only[aj]at bb hf bc ba;go_wp2_with fail;apply W.o.m;rintro F P ⟨rfl,h1,k1⟩;have D:=H (M.step (show Sc B i j g d k m n P (b::C)from h1) k1 (ag _));have HN:=H (AA D.sc);go_wp2_with fail;apply HN.o.m;rintro F T ⟨rfl,h2,k2⟩;have v:=H (D.step h2 k2 eA);by_cases S:b=92
    ·have f:L1 (jr a (match iG C with|none=>N|some (a0,q)=>(iC e c q).map λl=>(a0++l.1,l.2))=o):=by unfold Hid;rw[<-u.o,iC,t];simp[S]
     have a8:((b:Int)==92)=PV:=by rw[S];rfl
     have E:=H (GK v);unfold lH at E;cases aa:iG C with
     |none=>
      rw[aa]at E f;simp only[]at E f;have V:L1 (o=N):=by unfold Hid;rw[<-f.o];rfl
      clear aa;go_wp2_with fail;apply E.o.m;rintro F w3 ⟨rfl,k3⟩;exact⟨rfl,kB.none_ V k3⟩
     |some l=>
      obtain⟨a0,q⟩:=l;rw[aa]at E f;simp only[]at E f;have bi:=Cb aa;have a5:L1 (jr (a++a0) (iC e c q)=o):=by unfold Hid;rw[<-f.o,EZ]
      clear aa f;go_wp2_with fail;apply E.o.m;rintro F w3 ⟨v3,rfl,h3⟩;have H3:=H h3;have a4:=H h3.sc.posS;have br:=h3.sc.le;clear h3 E;go_wp2;go_roundw
      case rel=>exact⟨e,c,q,a++a0,rfl,ho1,Y,Y,H3,a5⟩
      case measure=>rw[X.o,a4.o];simp only[aj];omega
    ·have a8:((b:Int)==92)=P2:=eB;have bd:=v.o.sz;by_cases Q:b=40
     ·have f:L1 (jr (a++[b]) (iC e (c+1) C)=o):=by
       unfold Hid;rw[<-u.o,<-vQ];conv=>rhs;rw[iC,t]
       simp[Q]
      have a6:((b:Int)==40)=PV:=by rw[Q];rfl
      have a2:((c:Int)+1==0)=P2:=eB;clear t u Q S;go_wp2_with (at_builtin;refine a_ _ rfl (.tmp 31) (.tmp 33) 23 rfl w.heap.size 5 i0 (I .u8 0) 1 1 bB hi ad al ao rfl cO u3 (G a) _ rfl (v.alloc _).own ⟨T.heap.size,0,N⟩ 1 1 ([b].map λl:Nat=>I .u8 (l:Int)) rfl rfl (Bu.one_news b T) ?hone ?h63 ?hby ?hbs ?_)
      case hone=>intro ac z;simp at z;subst z;rfl
      case h63=>unfold maxLen;omega
      case hby=>omega
      case hbs=>simp;omega
      intro v6 w6 K J _;have x:=H ((v.alloc _).app (xs:=[b]) eA K J pf);have L:=H x.sc.posS;clear K J;go_wp2;go_roundw
      case rel=>exact⟨e,c+1,C,a++[b],by go_num,Y,Y,Y,x,f⟩
      case measure=>rw[X.o,L.o];simp only[aj];omega
     ·have a6:((b:Int)==40)=P2:=eB;by_cases R:b=41
      ·have a7:((b:Int)==41)=PV:=by rw[R];rfl
       by_cases A:c=1
       ·subst A;have V:L1 (o=O (a,C)):=by unfold Hid;rw[<-u.o,iC,t];simp[R,jr]
        have a9:=yP v.o.own;obtain⟨a1,hS⟩:∃a1,ge a=a1:=⟨_,rfl⟩;rw[hS]at a9;have HS:=H hS;clear t u Q R S hS;go_wp2;go_ret;exact kB.some_ V (by rw[pZ,HS.o];rfl) v.sc v.o.only
       ·have f:L1 (jr (a++[b]) (iC e (c-1) C)=o):=by
         unfold Hid;rw[<-u.o,<-vQ];conv=>rhs;rw[iC,t]
         simp[R,A]
        have a2:((c:Int)-1==0)=P2:=eB;clear t u Q R S;go_wp2_with (at_builtin;refine a_ _ rfl (.tmp 31) (.tmp 33) 23 rfl w.heap.size 5 i0 (I .u8 0) 1 1 bB hi ad al ao rfl cO u3 (G a) _ rfl (v.alloc _).own ⟨T.heap.size,0,N⟩ 1 1 ([b].map λl:Nat=>I .u8 (l:Int)) rfl rfl (Bu.one_news b T) ?hone ?h63 ?hby ?hbs ?_)
        case hone=>intro ac z;simp at z;subst z;rfl
        case h63=>unfold maxLen;omega
        case hby=>omega
        case hbs=>simp;omega
        intro v6 w6 K J _;have x:=H ((v.alloc _).app (xs:=[b]) eA K J pf);have L:=H x.sc.posS;go_wp2;go_roundw
        case rel=>exact⟨e,c-1,C,a++[b],by go_num,Y,Y,Y,x,f⟩
        case measure=>rw[X.o,L.o];simp only[aj];omega
      ·have a7:((b:Int)==41)=P2:=eB;have f:L1 (jr (a++[b]) (iC e c C)=o):=by
        unfold Hid;rw[<-u.o,<-vQ];conv=>rhs;rw[iC,t]
        simp[R,Q,S]
       have a2:((c:Int)==0)=P2:=eB;go_wp2_with (at_builtin;refine a_ _ rfl (.tmp 31) (.tmp 33) 23 rfl w.heap.size 5 i0 (I .u8 0) 1 1 bB hi ad al ao rfl cO u3 (G a) _ rfl (v.alloc _).own ⟨T.heap.size,0,N⟩ 1 1 ([b].map λl:Nat=>I .u8 (l:Int)) rfl rfl (Bu.one_news b T) ?hone ?h63 ?hby ?hbs ?_)
       case hone=>intro ac z;simp at z;subst z;rfl
       case h63=>unfold maxLen;omega
       case hby=>omega
       case hbs=>simp;omega
       intro v6 w6 K J _;have x:=H ((v.alloc _).app (xs:=[b]) eA K J pf);have L:=H x.sc.posS;go_wp2;go_roundw
       case rel=>exact⟨e,c,C,a++[b],rfl,Y,Y,Y,x,f⟩
       case measure=>rw[X.o,L.o];simp only[aj];omega
end
section
variable{w:Gr}
def fZ:List Nat->List Nat×List Nat
 | []=>([],[])
 |b::a=>if b=43\/b=45 then([b],a)else([],b::a)
def gH(b:Nat):Bool:=decide (48<=b)&&decide (b<=57)
def iO(l:List Nat):Nat:=l.foldl (λa b=>10*a+(b-48)) 0
def kU(l:List Nat):Option Int:=
 if(fZ l).2≠[]/\(fZ l).2.all gH=PV then O (if(fZ l).1=[45]then -(iO (fZ l).2:Int)else(iO (fZ l).2:Int))else N
def Ih{a b:ByteArray}(h:bl a=bl b):a=b:=by rw[<-uN a,<-uN b,h]
def E_(a:ByteArray)(k:Nat)(h:k<=a.size):bl (a.extract 0 k)=(bl a).take k:=by have:=bp a 0 k Y;simpa using this
def Bj(c:Nat):List Nat->Bool
 | []=>P2
 |b::_=>decide (b=c)
def I4(a:ByteArray)(c:UInt8)(m:a.size<=1000000):K8 Qe 241 #[MV a,MV {data:=#[c]}] w λd k=>d=Ps (OV (Bj c.toNat (bl a)))/\k=w:=by
 cases e:bl a with
 |nil=>
  have f:a.size=0:=by rw[<-mK,e];rfl
  have h:({data:=#[c]}:ByteArray).size=1:=rfl
  go_in
  go_wp2;go_ret;exact⟨rfl,rfl⟩
 |cons b g=>
  have f:0<a.size:=by rw[<-mK,e];simp
  have l:(1:Int)<=(a.size:Int):=Y;have h:({data:=#[c]}:ByteArray).size=1:=rfl;have i:((a.extract 0 1).toList==({data:=#[c]}:ByteArray).toList)=Bj c.toNat (b::g):=by
   unfold Bj;rw[ng,cJ];constructor
   ·intro d;have e2:=dV bl d;rw[E_ a 1 f,e,wj]at e2;simpa using e2
   ·intro d;refine Ih ?_;rw[E_ a 1 f,e,wj];simp[d]
  have j:({data:=#[c]}:ByteArray).toList=[c]:=by rw[de]
  rw[j]at i;generalize Bj c.toNat (b::g)=n at *
  go_in
  go_wp2;go_ret;exact⟨by first|rfl|simp,rfl⟩
def sI(a:List Nat)(b:GI):Prop:=b=MV (ge a)
def Fs{a:ByteArray}{b:List Nat}(h:bl a=b):sI b (MV a):=by rw[sI,<-h,uN]
def Il(a:ByteArray)(p:a.size<=1000000):K8 Qe 327 #[MV a] w λe f=>(∃n b,e=Ps (OW #[n,b])/\sI (fZ (bl a)).1 n/\sI (fZ (bl a)).2 b)/\∃t,f=w.drewN t:=by
 have c:=H (λm=>I4 (w:=m) a 43 p);have d:=H (λm=>I4 (w:=m) a 45 p);rw[show(UInt8.toNat 43)=43 from rfl]at c;rw[show(UInt8.toNat 45)=45 from rfl]at d;cases g:bl a with
 |nil=>
  rw[g]at c d;have q:L1 (a={data:=#[]}):=Ih (by rw[g];rfl);simp only[Bj]at c d;go_enter func327,fU;go_wp2_with fail;apply(c _).m;rintro e f ⟨rfl,rfl⟩;go_wp2_with fail;apply(d _).m;rintro e f ⟨rfl,rfl⟩;go_wp2_with fail
  go_ret2
  exact⟨⟨_,_,rfl,rfl,by rw[q.o];rfl⟩,0,rfl⟩
 |cons b h=>
  rw[g]at c d;simp only[Bj]at c d;have s:0<a.size:=by rw[<-mK,g];simp
  have u:(1:Int)<=(a.size:Int):=Y;have e1:sI [b] (MV (a.extract 0 1)):=Fs (by rw[E_ a 1 s,g];rfl);have e2:sI h (MV (a.extract 1 a.size)):=Fs (by rw[E8,g];rfl);have r:=Fs g;have i:=H (And.intro e1 (And.intro e2 r));by_cases k:b=43
  ·rw[aB k]at c;have j:L1 (fZ (b::h)=([b],h)):=by unfold Hid;simp[fZ,k]
   rw[j.o];go_enter func327,fU;go_wp2_with fail;apply(c _).m;rintro e f ⟨rfl,rfl⟩;go_wp2_with fail;go_quiet (fail);go_wp2
   go_ret2
   exact⟨⟨_,_,rfl,i.1,i.2.1⟩,nq,rfl⟩
  ·rw[ar k]at c;by_cases l:b=45
   ·rw[aB l]at d;have j:L1 (fZ (b::h)=([b],h)):=by unfold Hid;simp[fZ,l]
    rw[j.o];go_enter func327,fU;go_wp2_with fail;apply(c _).m;rintro e f ⟨rfl,rfl⟩;go_wp2_with fail;apply(d _).m;rintro e f ⟨rfl,rfl⟩;go_wp2_with fail;go_quiet (fail);go_wp2
    go_ret2
    exact⟨⟨_,_,rfl,i.1,i.2.1⟩,nq,rfl⟩
   ·rw[ar l]at d;have j:L1 (fZ (b::h)=([],b::h)):=by unfold Hid;simp[fZ,k,l]
    rw[j.o];go_enter func327,fU;go_wp2_with fail;apply(c _).m;rintro e f ⟨rfl,rfl⟩;go_wp2_with fail;apply(d _).m;rintro e f ⟨rfl,rfl⟩;go_wp2_with fail
    go_ret2
    exact⟨⟨_,_,rfl,rfl,i.2.2⟩,0,rfl⟩
end
section
def iM(r:List Nat):Option (List Nat):=(gg [48] r).bind λa=>gg [82] a
variable{B c b:Nat}{d:Option L2}{a:List Nat}{f g i:GI}{w j:Gr}{r q:List Nat}
def OP(h:Sc B c d b a f g i w r):K8 Qe 309 #[M2 (O ⟨c,0,N⟩)] w (BV B c d b a f g i w r (iM r)):=by
 have K:=h.c1;have k:=H (xy h {data:=#[48]});rw[wj,show(UInt8.toNat 48)=48 from rfl]at k;have R:=H h.suf;have T:=h.le;obtain⟨m,E⟩:∃m,G a-G r=m:=⟨_,rfl⟩;rw[E]at K;have Q:m<=G a:=Y;have C:=H E;have D:L1 (∀u A,Sc B c d b a f g i u A->Sc B c d b a f g i (u.setCell ⟨c,1,N⟩ (I U (m:Nat))) r):=λu A P=>by have:=P.at_ m Q;rw[<-C.o,R.o,C.o]at this;exact this
 cases e0:gg [48] r with
 |none=>
  rw[e0]at k;have s:L1 (iM r=N):=by unfold Hid iM;rw[e0];rfl
  rw[s.o]
  go_in
  go_wp2_with fail;apply k.o.m;rintro v F ⟨rfl,h1,x⟩;have M:=h1.fz 1;have L:=h1.c1;have J:=H h1;have n:=H x;go_wp2;go_ret;exact⟨rfl,D _ _ J,n.setCell _ _⟩
 |some z=>
  rw[e0]at k;have s:L1 (iM r=gg [82] z):=by unfold Hid iM;rw[e0];rfl
  rw[s.o]
  go_in
  go_wp2_with fail;apply k.o.m;rintro v F ⟨rfl,h1,x⟩;have l:=H (xy (show Sc B c d b a f g i F z from h1) {data:=#[82]});rw[wj,show(UInt8.toNat 82)=82 from rfl]at l;have n:=H x;cases e1:gg [82] z with
  |none=>rw[e1]at l;have e:=H e1;go_wp2_with fail;apply l.o.m;rintro v S ⟨rfl,h2,y⟩;have M:=h2.fz 1;have L:=h2.c1;have p:=H h2;have t:=H (n.t y);go_wp2;go_ret;exact⟨by rw[e.o];rfl,by rw[e.o];exact D _ _ p,t.setCell _ _⟩
  |some A=>rw[e1]at l;have e:=H e1;go_wp2_with fail;apply l.o.m;rintro v S ⟨rfl,h2,y⟩;have p:=H h2;have t:=H (n.t y);go_wp2;go_ret;exact⟨by rw[e.o];rfl,by rw[e.o];exact p,t⟩
end
section
section
def iu(l:List Nat):List Nat:=(l.reverse.dropWhile λb=>b==48).reverse
def kE(a:List Nat):Option Int:=if 1<=(fZ a).2.length/\(fZ a).2.length<=10 then kU a else N
def jm(l:List Nat):Option (Int×Nat):=
 match(fZ l).2.dropWhile λb=>b != 46 with
 | []=>N
 |_::b=>if 1<=max ((fZ l).2.takeWhile λb=>b != 46).length (G b)/\max ((fZ l).2.takeWhile λb=>b != 46).length (G b)<=9
  then(kU ((fZ l).1++48::(((fZ l).2.takeWhile λb=>b != 46)++iu b))).map λa=>(a,(iu b).length)else N
def i7(a:Type)(r:List Nat):Option (gk a×List Nat):=
 if gn r=[110,117,108,108]then O (jj a 0 0 0 [],gm r)
 else if gn r=[102,97,108,115,101]then O (jj a 1 0 0 [],gm r)
 else if gn r=[116,114,117,101]then O (jj a 1 1 0 [],gm r)
 else match kE (gn r)with
  |some b=>match iM (gm r)with
   |some d=>O (jj a 9 b 0 [],d)
   |none=>O (jj a 2 b 0 [],gm r)
  |none=>match jm (gn r)with
   |some (b,c)=>O (jj a 3 b c [],gm r)
   |none=>N
section
variable{α:Type}(f:List Nat->Option (α×List Nat))
def jV:Nat->List Nat->Option (List α×List Nat)
 |0,_=>N
 |b+1,r=>match f_ [93] (f9 r)with
  |some q=>O ([],q)
  |none=>match f (f9 r)with
   |none=>N
   |some (c,q)=>(jV b q).map λa=>(c::a.1,a.2)
def js:Nat->List Nat->Option ((List (List Nat)×List α)×List Nat)
 |0,_=>N
 |b+1,r=>match f_ [62,62] (f9 r)with
  |some q=>O (([],[]),q)
  |none=>match f_ [47] (f9 r)with
   |none=>N
   |some c=>match j7 c with
    |none=>N
    |some (k,d)=>match f d with
     |none=>N
     |some (v,e)=>(js b e).map λa=>((k::a.1.1,v::a.1.2),a.2)
end
def gj:(k:Nat)->List Nat->Option (VT k×List Nat)
 |0,_=>N
 |k+1,r=>match f_ [91] (f9 r)with
  |some b=>(jV (gj k) (G b+1) b).map λa=>((⟨6,0,0,[],a.1,[],[]⟩:gk (VT k)),a.2)
  |none=>match f_ [60,60] (f9 r)with
   |some b=>(js (gj k) (G b+1) b).map λa=>((⟨7,0,0,[],a.1.2,a.1.1,[]⟩:gk (VT k)),a.2)
   |none=>match f_ [60] (f9 r)with
    |some b=>(jQ b).map λa=>(jj (VT k) 5 0 0 a.1,a.2)
    |none=>match f_ [40] (f9 r)with
     |some b=>(j3 b).map λa=>(jj (VT k) 5 0 0 a.1,a.2)
     |none=>match f_ [47] (f9 r)with
      |some b=>(j7 b).map λa=>(jj (VT k) 4 0 0 a.1,a.2)
      |none=>i7 (VT k) r
def mp{f i:Type}{d:Option (f×List Nat)}{g:f->i}{e:List Nat}{b:i}(h:(d.map λa=>(g a.1,a.2))=O (b,e)):∃c,d=O (c,e):=by
 cases d with
 |none=>cases h
 |some a=>obtain⟨c,j⟩:=a;simp at h;exact⟨c,by rw[h.2]⟩
def mt{α g:Type}{d:Option (α×List Nat)}{f:α×List Nat->g×List Nat}{e:List Nat}{b:g}(h:d.map f=O (b,e))(i:∀a,(f a).2=a.2):∃c,d=O (c,e):=by
 cases d with
 |none=>cases h
 |some a=>obtain⟨c,j⟩:=a;have:=dV Prod.snd (dq h);rw[i]at this;exact⟨c,by rw[show e=j from this.s]⟩
def jN:∀(r:List Nat) (d e:Nat) (c a:List Nat),gK d e r=O (c,a)->G a<=G r
 | [],d,e,c,a,h=>by
  match d,h with
  |0,h=>simp[gK]at h;simp[h.2]
  |g+1,h=>simp[gK]at h
 |b::r,d,e,c,a,h=>by
  match d,h with
  |0,h=>
   simp only[gK]at h;split at h;·simp at h;rw[<-h.2];exact ag _
   ·split at h;·cases h
    ·split at h;·have:=jN r 1 0 c a h;simp only[aj];omega
     ·obtain⟨f,h2⟩:=mp h;have:=jN r 0 0 f a h2;simp only[aj];omega
  |1,h=>
   simp only[gK]at h;split at h;·cases h
   ·have:=jN r 2 _ c a h;simp only[aj];omega
  |g+2,h=>
   simp only[gK]at h;split at h;·cases h
   ·split at h;·cases h
    ·obtain⟨f,h2⟩:=mp h;have:=jN r 0 0 f a h2;simp only[aj];omega
def mF:∀(r c a:List Nat),ij r=O (c,a)->G a<=G r
 | [],c,a,h=>by cases h
 |b::r,c,a,h=>by
  simp only[ij]at h;split at h;·have:=mF r c a h;simp only[aj];omega
  ·split at h;·simp at h;rw[<-h.2];simp
   ·split at h;·cases h
    ·obtain⟨d,h2⟩:=mp h;have:=mF r d a h2;simp only[aj];omega
def lF:∀(d e:Nat) (r k c:List Nat),iC d e r=O (k,c)->G c<=G r
 |0,e,r,k,c,h=>by simp[iC]at h
 |d+1,e,r,k,c,h=>by
  rw[iC.eq_def]at h;simp only[]at h;cases j:gJ r with
  |some l=>rw[j]at h;obtain⟨a,h2⟩:=mp h;have:=lF d e l a c h2;have:=Bl j;omega
  |none=>
   rw[j]at h;cases r with
   |nil=>cases h
   |cons b f=>
    simp only[]at h;split at h
    ·cases i:iG f with
     |none=>rw[i]at h;cases h
     |some n=>obtain⟨m,l⟩:=n;rw[i]at h;obtain⟨a,h2⟩:=mp (g:=λo=>m++o) h;have:=lF d e l a c h2;have:=Cb i;simp only[aj];omega
    ·split at h
     ·obtain⟨a,h2⟩:=mp h;have:=lF d _ f a c h2;simp only[aj];omega
     ·split at h
      ·split at h;·simp at h;rw[<-h.2];simp
       ·obtain⟨a,h2⟩:=mp h;have:=lF d _ f a c h2;simp only[aj];omega
      ·obtain⟨a,h2⟩:=mp h;have:=lF d _ f a c h2;simp only[aj];omega
def gQ{a r q:List Nat}(h:gg a r=O q):G q<=G r:=by
 unfold gg at h;split at h;·cases h;exact(Ks r).length_le
 ·cases h
def AE{r a:List Nat}(h:iM r=O a):G a<=G r:=by
 unfold iM at h;cases h1:gg [48] r with
 |none=>rw[h1]at h;cases h
 |some b=>rw[h1]at h;have:=gQ h1;have:=gQ (show gg [82] b=O a from h);omega
def A0{r:List Nat}(h:gn r≠[]):(gm r).length+1<=G r:=by have h1:gn r++gm r=f9 r:=List.takeWhile_append_dropWhile;have h2:=dV List.length h1;rw[ak]at h2;have h3:=iz r;have:=List.length_pos_iff.2 h;omega
def pN{α:Type}{r f:List Nat}{g:gk α}(h:i7 α r=O (g,f)):G f+1<=G r:=by
 by_cases d:gn r=[]
 ·unfold i7 at h;rw[d]at h;simp[kE,jm,fZ]at h
 ·have a:=A0 d;unfold i7 at h;split at h;·simp at h;rw[<-h.2];exact a
  ·split at h;·simp at h;rw[<-h.2];exact a
   ·split at h;·simp at h;rw[<-h.2];exact a
    ·cases e:kE (gn r)with
     |some i=>
      rw[e]at h;simp only[]at h;cases b:iM (gm r)with
      |some l=>rw[b]at h;simp at h;have:=AE b;rw[<-h.2];omega
      |none=>rw[b]at h;simp at h;rw[<-h.2];exact a
     |none=>
      rw[e]at h;simp only[]at h;cases c:jm (gn r)with
      |some j=>obtain⟨i,k⟩:=j;rw[c]at h;simp at h;rw[<-h.2];exact a
      |none=>rw[c]at h;cases h
def vZ{k:Type}{b:List Nat->Option (k×List Nat)}(g:∀r j a,b r=O (j,a)->G a<=G r):∀(f:Nat) (r a:List Nat) (e:List k),jV b f r=O (e,a)->G a<=G r
 |0,r,a,e,h=>by cases h
 |f+1,r,a,e,h=>by
  simp only[jV]at h;have n:=iz r;cases c:f_ [93] (f9 r)with
  |some i=>rw[c]at h;simp at h;have:=(gD c).1;rw[<-h.2];omega
  |none=>
   rw[c]at h;simp only[]at h;cases d:b (f9 r)with
   |none=>rw[d]at h;cases h
   |some m=>obtain⟨j,i⟩:=m;rw[d]at h;simp only[]at h;obtain⟨l,h2⟩:=mt h (λ_=>rfl);have:=vZ g f i a l h2;have:=g _ _ _ d;omega
def pU{n:Type}{b:List Nat->Option (n×List Nat)}(l:∀r v a,b r=O (v,a)->G a<=G r):∀(i:Nat) (r a:List Nat) (g:List (List Nat)×List n),js b i r=O (g,a)->G a<=G r
 |0,r,a,g,h=>by cases h
 |i+1,r,a,g,h=>by
  simp only[js]at h;have t:=iz r;cases e:f_ [62,62] (f9 r)with
  |some j=>rw[e]at h;simp at h;have:=(gD e).1;rw[<-h.2];omega
  |none=>
   rw[e]at h;simp only[]at h;cases c:f_ [47] (f9 r)with
   |none=>rw[c]at h;cases h
   |some j=>
    rw[c]at h;simp only[]at h;have u:=(gD c).1;cases d:j7 j with
    |none=>rw[d]at h;cases h
    |some q=>
     obtain⟨k,m⟩:=q;rw[d]at h;simp only[]at h;have w:=jN j 0 0 k m d;cases f:b m with
     |none=>rw[f]at h;cases h
     |some s=>obtain⟨v,p⟩:=s;rw[f]at h;simp only[]at h;obtain⟨o,h3⟩:=mt h (λ_=>rfl);have:=pU l i p a o h3;have:=l _ _ _ f;omega
def iQ:∀{k:Nat} {r a:List Nat} {d:VT k},gj k r=O (d,a)->G a+1<=G r
 |0,r,a,d,h=>by cases h
 |k+1,r,a,d,h=>by
  have i:∀r v a,gj k r=O (v,a)->G a<=G r:=λr v a h=>by have:=iQ h;omega
  simp only[gj]at h;have m:=iz r;cases h1:f_ [91] (f9 r)with
  |some b=>rw[h1]at h;simp only[]at h;obtain⟨c,h2⟩:=mt h (λ_=>rfl);have:=vZ i _ b a c h2;have:=(gD h1).1;simp only[aj,aI]at this;omega
  |none=>
   rw[h1]at h;simp only[]at h;cases h3:f_ [60,60] (f9 r)with
   |some b=>rw[h3]at h;simp only[]at h;obtain⟨c,h2⟩:=mt h (λ_=>rfl);have:=pU i _ b a c h2;have:=(gD h3).1;simp only[aj,aI]at this;omega
   |none=>
    rw[h3]at h;simp only[]at h;cases e:f_ [60] (f9 r)with
    |some b=>rw[e]at h;simp only[]at h;obtain⟨c,h2⟩:=mt h (λ_=>rfl);obtain⟨l,j⟩:=mt h2 (λ_=>rfl);have:=mF b l a j;have:=(gD e).1;simp only[aj,aI]at this;omega
    |none=>
     rw[e]at h;simp only[]at h;cases f:f_ [40] (f9 r)with
     |some b=>rw[f]at h;simp only[]at h;obtain⟨c,h2⟩:=mt h (λ_=>rfl);have:=lF _ _ b c a h2;have:=(gD f).1;simp only[aj,aI]at this;omega
     |none=>
      rw[f]at h;simp only[]at h;cases g:f_ [47] (f9 r)with
      |some b=>rw[g]at h;simp only[]at h;obtain⟨c,h2⟩:=mt h (λ_=>rfl);have:=jN b 0 0 c a h2;have:=(gD g).1;simp only[aj,aI]at this;omega
      |none=>rw[g]at h;exact pN (α:=VT k) h
def rO:∀(b:Bool) (r:List Nat),(∀a c,je b r=a::c->mf a=P2/\a≠37)
 |b,[],a,c,h=>by cases b<;>cases h
 |false,d::r,a,c,h=>by
  simp only[je]at h;by_cases h1:mf d=PV;·rw[ai h1]at h;exact rO P2 r a c h
  ·rw[ah h1]at h;by_cases h2:d=37;·rw[ai h2]at h;exact rO PV r a c h
   ·rw[ah h2]at h;cases h;exact⟨by simpa using h1,h2⟩
 |true,d::r,a,c,h=>by
  simp only[je]at h;by_cases h1:d=10\/d=13;·rw[ai h1]at h;exact rO P2 r a c h
  ·rw[ah h1]at h;exact rO PV r a c h
def jq(r:List Nat):f9 (f9 r)=f9 r:=by
 cases h:f9 r with
 |nil=>rfl
 |cons b a=>obtain⟨h1,h2⟩:=rO P2 r b a h;exact oM h1 h2
def AZ(r:List Nat):gn (f9 r)=gn r:=by unfold gn;rw[jq]
def yj(r:List Nat):gm (f9 r)=gm r:=by unfold gm;rw[jq]
def rU(a:Type)(r:List Nat):i7 a (f9 r)=i7 a r:=by unfold i7;rw[AZ,yj]
end
end
end Go.Proofs.YtgkljcmjnphpeaaGreatDoor
namespace Go
section
section
variable{P:Program}{w:Gr}
def Gb(s:Nat)(i n f:TypeId)(d:TypeInfo)(r:GI)(h t:Nat)(y:P.underlying i=O (.slice f))(u:P.info? f=O d)(L:d.zero=O r)
  (K:d.size=h) (E:d.bytes=t) (S:r.cells.size=h) (R:0<h)
  (o:GI) (b:Nat) (A:List GI) (m:w.ownsRow s f h o b A)
  (j:L2) (a c:Nat) (e:List GI) (l:G e=a*h) (v:∀T z,e[T]?=O z->w.cell? (j.add T)=O z) (h1:∀z∈e,z.oneCell'=PV)
  (D:b+a<=maxLen) (F:(b+a)*t<=140737488355328) (V:s<=w.heap.size):∃p q,(Builtin.append_ #[i,i] n #[o,Z (O j) a c]).run P w=.ok p q/\q.ownsRow s f h p (b+a) (A++e)/\w.grownBy q o.ownBlock /\
   (∀k,p.ownBlock=O k->o.ownBlock=O k\/w.heap.size<=k):=by
 obtain⟨p,q,x,h2,h3,_⟩:=run_append_own (P:=P) w s i n f d r h t y u L K E S R o b A m j a c e l v h1 D F V;refine⟨p,q,x,h2,h3,?_⟩;have al:b+a<=9223372036854775807:=by simp only[maxLen]at D;omega
 intro k J;rcases m.2 with⟨rfl,rfl⟩|⟨C,B,M,rfl,_,aa,_,_,W,_⟩
 ·have ad:=dF (by rw[m.1];omega);subst ad;obtain⟨v2,w2,g,k2,_⟩:=run_append_own (P:=P) w w.heap.size i n f d r h t y u L K E S R (Z N 0 0) 0 [] (aX _ _ _ _) j a c e l v h1 D F (ag _);rw[x]at g;injection g with e1 e2;subst e1;exact P4 (k2.lt k J).1
 ·subst K;by_cases Q:b+a<=B
  ·have X:b*d.size+G e<=M.size:=by rw[l,W,<-Nat.add_mul];exact dB _ Q
   have g:=run_append_room (P:=P) w i n f d y u C b B M aa j a c e l v h1 Q X;rw[x]at g;injection g with e1 e2;subst e1;exact P3 J
  ·subst E;have ac:=m.cells (g:=C) rfl;have g:=run_append_grow (P:=P) w i n f d r y u L ⟨C,0,N⟩ b B A m.1 ac j a c e l v Y Y (growslice_fits Y F);rw[x]at g;injection g with e1 e2;subst e1;simp[Value.ownBlock]at J;exact P4 Y
def Bz{y:Array Oper}{a:Oper}{d:MN}{v:MN->Gr->Prop}{C:Exit->MN->Gr->Prop}{B:Prop}(L:a.guard=N)(z A:Operand)(o:TypeId)
  (S:a.op=.call { callee:=.builtin .append,args:=#[z,A],argTypes:=#[o,o]})
  (n:Nat) (f:TypeId) (g:TypeInfo) (u:GI) (b r:Nat) (ht:P.underlying o=O (.slice f)) (M:P.info? f=O g) (hz:g.zero=O u)
  (X:g.size=b) (J:g.bytes=r) (ac:u.cells.size=b) (aa:0<b)
  (k:GI) (i:Nat) (t:List GI) (W:d.eval z=k) (T:w.ownsRow n f b k i t)
  (q:L2) (e c:Nat) (j:List GI) (hx:d.eval A=Z (O q) e c) (Q:G j=e*b) (R:∀x p,j[x]?=O p->w.cell? (q.add x)=O p) (h1:∀p∈j,p.oneCell'=PV)
  (E:i+e<=maxLen) (K:(i+e)*r<=140737488355328) (F:n<=w.heap.size)
  (h:∀l m,m.ownsRow n f b l (i+e) (t++j)->w.grownBy m k.ownBlock->(∀s,l.ownBlock=O s->k.ownBlock=O s\/w.heap.size<=s)->v (d.put a.dst l) m):if Region.wanted a (yielded y d.tmps)=PV then Oper.wp P a d w v C else B:=by
 have hw:Region.wanted a (yielded y d.tmps)=PV:=by simp[Region.wanted,L]
 rw[ai hw];obtain⟨l,m,V,h2,h3,D⟩:=Gb (P:=P) (w:=w) n o a.type f g u b r ht M hz X J ac aa k i t T q e c j Q R h1 E K F;unfold Oper.wp execOp;simp only[S,resolve,invoke,builtin,Sem.run_bind,Sem.run_pure,ft,fA,bF,dY,W,hx,V];exact h l m h2 h3 D
end
end
end Go
namespace Go.Proofs.YtgkljcmjnphpeaaGreatDoor
open Go.RowKit
section
structure Ar(f:Gr)(B bs:Nat)(ao:Option L2)(cap:Nat)(d:List Nat)(p t u:GI)(K k:Nat)(w:Gr)(q:List Nat)(m:GI)(l:List GI)(Vs:List (VT k))(n:GI)(r:List (List Nat)):Prop where
 sc:Sc B bs ao cap d p t u w q
 only:gB bs f w
 lt:bs<f.heap.size
 rb:w.heap[f.heap.size]?=O (Pp gG 67 (0,0))
 vb:w.heap[f.heap.size+1]?=O (Pp #[I U K,I U 0,I U 0,MV {data:=#[]},m,n,Z N 0 0] 67 (0,0))
 own:w.ownsRow (f.heap.size+2) 67 7 m (G l) (l.flatMap cellsOf)
 ownk:w.ownsRow (f.heap.size+2) 9 1 n (G r) (r.map λs=>MV (ge s))
 len:G l=G Vs
 ch:∀(i:Nat) (x:GI) (y:VT k),l[i]?=O x->Vs[i]?=O y->gF (λg=>f.heap.size+2<=g/\m.ownBlock≠O g/\n.ownBlock≠O g) k w x y
 few:G l+G q<=200000
 fewk:G r+G q<=200000
variable{f:Gr}{B bs cap K k:Nat}{ao:Option L2}{d:List Nat}{p t u:GI}{w w':Gr}{q:List Nat}{m n:GI}{l:List GI}{Vs:List (VT k)}{r:List (List Nat)}
def Ar.step(h:Ar f B bs ao cap d p t u K k w q m l Vs n r){q':List Nat}(i:Sc B bs ao cap d p t u w' q')(b:gB bs w w')(z:G q'<=G q):Ar f B bs ao cap d p t u K k w' q' m l Vs n r:=by
 have x:=h.lt;have c:∀a,f.heap.size<=a->a<w.heap.size->w'.heap[a]?=w.heap[a]?:=λa g e=>b.block a e Y;refine⟨i,h.only.t b,h.lt,?_,?_,uf h.own b Y,uf h.ownk b Y,h.len,λs v y j o=>?_,by have:=h.few;omega,by have:=h.fewk;omega⟩;·rw[c _ (ag _) (ae h.rb)];exact h.rb
 ·rw[c _ Y (ae h.vb)];exact h.vb
 ·exact gF.keep k (h.ch s v y j o) (λa g e=>c a Y e)
def Ar.below(h:Ar f B bs ao cap d p t u K k w q m l Vs n r)(b:LT w.heap.size w w'):Ar f B bs ao cap d p t u K k w' q m l Vs n r:=
 h.step (h.sc.other b) (.of_below b) (ag _)
def Ar.drew(h:Ar f B bs ao cap d p t u K k w q m l Vs n r):Ar f B bs ao cap d p t u K k w.drew q m l Vs n r:=h.below (aq _ _).drew
def Ar.alloc(h:Ar f B bs ao cap d p t u K k w q m l Vs n r)(a:Obj):Ar f B bs ao cap d p t u K k (w.alloc a) q m l Vs n r:=h.below ((aq _ _).alloc (ag _) a)
def Ar.val(h:Ar f B bs ao cap d p t u K k w q m l Vs n r):gF (λa=>f.heap.size+2<=a) (k+1) w (N1 #[I U K,I U 0,I U 0,MV {data:=#[]},m,n,Z N 0 0]) (⟨K,0,0,[],Vs,r,[]⟩:gk (VT k)):=
 ⟨m,n,Z N 0 0,l,rfl,h.len,jz.of h.own (λa b=>(h.own.lt a b).1),λg i j c e=>gF.m k (h.ch g i j c e) (λa b _=>b.1),jz.of h.ownk (λa b=>(h.ownk.lt a b).1),jz.nil _ _ _ _⟩
def Ar.item(h:Ar f B bs ao cap d p t u K k w q m l Vs n r){x:GI}{z:VT k}{S:Nat}(C:∀b,m.ownBlock=O b->b<S)(L:∀b,n.ownBlock=O b->b<S)(X:f.heap.size+2<=S)(T:gF (λb=>S<=b) k w x z){g:GI}
  (F:w'.ownsRow (f.heap.size+2) 67 7 g (G l+1) (l.flatMap cellsOf++cellsOf x)) (i:w.grownBy w' m.ownBlock) (J:∀b,g.ownBlock=O b->m.ownBlock=O b\/w.heap.size<=b) (M:G l+1+G q<=200000):Ar f B bs ao cap d p t u K k (w'.setCell ⟨f.heap.size+1,4,N⟩ g) q g (l++[x]) (Vs++[z]) n r:=by
 have aa:=h.lt;have Q:=ae h.vb;have W:=h.sc.hb;have D:=h.own.lt;have E:∀b,b<w.heap.size->m.ownBlock≠O b->b≠f.heap.size+1->(w'.setCell ⟨f.heap.size+1,4,N⟩ g).heap[b]?=w.heap[b]?:=λb h1 h2 h3=>by rw[kW _ h3,i.block b h1 (λe=>h2 e.s)]
 have v:∀b,b<f.heap.size+1->(w'.setCell ⟨f.heap.size+1,4,N⟩ g).heap[b]?=w.heap[b]?:=λb h1=>E b Y (λe=>by have:=D b e;omega) Y;have R:w'.heap[f.heap.size+1]?=O (Pp #[I U K,I U 0,I U 0,MV {data:=#[]},m,n,Z N 0 0] 67 (0,0)):=by rw[i.block _ Q (λe=>by have:=D _ e.s;omega)];exact h.vb
 refine⟨⟨h.sc.hb,by rw[v _ Y];exact h.sc.blk,h.sc.dat.other (λb i=>v b Y),h.sc.byt,h.sc.len,h.sc.lc,h.sc.le,h.sc.suf,h.sc.ad⟩,?_,h.lt,by rw[v _ Y];exact h.rb,?_,?_,?_,by rw[ak,ak,h.len];rfl,?_,by rw[ak];exact M,h.fewk⟩;·exact⟨i.os.t h.only.os,i.tape.t h.only.tape,i.output.t h.only.output,by have:=i.size;simp[World.setCell];omega,λb h1 h2=>(v b Y).t (h.only.block b h1 h2)⟩
 ·rw[lV _ R];rfl
 ·rw[ak,dE];have:=aR (a:=⟨f.heap.size+1,4,N⟩) F (λe=>absurd (F.lt (f.heap.size+1) e).1 Y) g;simpa using this
 ·have:=h.ownk.kept i (by
   cases P:n.ownBlock with
   |none=>exact P3 rfl
   |some b=>refine P4 (λe=>?_);exact xT h.own h.ownk cO b e.s P)
  exact aR this (λe=>absurd (this.lt (f.heap.size+1) e).1 Y) g
 ·intro y p A j o;have V:gF (λb=>f.heap.size+2<=b/\m.ownBlock≠O b/\n.ownBlock≠O b/\g.ownBlock≠O b) k w p A:=by
   rcases bU y (G l) with c|c
   ·rw[aP c]at j;rw[aP wh]at o;refine gF.m k (h.ch y p A j o) (λb h1 h2=>⟨h1.1,h1.2.1,h1.2.2,λe=>?_⟩);rcases J b e with s|s;·exact h1.2.1 s
    ·omega
   ·rw[aF c]at j;rw[aF wh]at o;rw[<-h.len]at o;obtain⟨rfl,rfl⟩:x=p/\z=A:=by
     match hj:y-G l,j,o with
     |0,j,o=>exact⟨by simpa using j,by simpa using o⟩
     |ac+1,j,o=>simp at j
    refine gF.m k T (λb h1 h2=>⟨Y,λe=>?_,λe=>?_,λe=>?_⟩);·have:=C b e;omega
    ·have:=L b e;omega
    ·rcases J b e with s|s;·have:=C b s;omega
     ·omega
  refine gF.m k (gF.keep k V (λb h1 h2=>E b h2 h1.2.1 Y)) (λb h1 _=>⟨h1.1,h1.2.2.2,h1.2.2.1⟩)
end
section
variable{B bs:Nat}{w w':Gr}
structure p_(B:Nat)(w:Gr):Prop where
 syn:∃ev,w.cell? ⟨5,0,N⟩=O ev/\(ev=.nilIface\/∃te pe,ev=.iface te pe)
 rng:∃ev,w.cell? ⟨6,0,N⟩=O ev/\(ev=.nilIface\/∃te pe,ev=.iface te pe)
 mx:∃m,w.cell? ⟨2,0,N⟩=O (I U m)
 ls : 5<B
 lr : 6<B
 lm : 2<B
def p_.only(h:p_ B w)(b:B<=bs)(c:B<=w.heap.size)(k:gB bs w w'):p_ B w':=by
 have h1:=h.ls;have h2:=h.lr;have h3:=h.lm;refine⟨?_,?_,?_,h.ls,h.lr,h.lm⟩
 ·obtain⟨a,e1,e2⟩:=h.syn;exact⟨a,by rw[World.cell?_of_block (w:=w) (k.block _ (aQ h1 c) (Nat.ne_of_lt (aQ h1 b)))];exact e1,e2⟩
 ·obtain⟨a,e1,e2⟩:=h.rng;exact⟨a,by rw[World.cell?_of_block (w:=w) (k.block _ (aQ h2 c) (Nat.ne_of_lt (aQ h2 b)))];exact e1,e2⟩
 ·obtain⟨d,e1⟩:=h.mx;exact⟨d,by rw[World.cell?_of_block (w:=w) (k.block _ (aQ h3 c) (Nat.ne_of_lt (aQ h3 b)))];exact e1⟩
def p_.below(h:p_ B w)(a:B<=w.heap.size)(k:LT w.heap.size w w'):p_ B w':=h.only (bs:=w.heap.size) a a (.of_below k)
def qo(a b:Nat):Nat:=10*a+(b-48)
def JC:∀(b:List UInt8) (a:Nat),(a+1)*10^(G b)<=10000000000000000000->Lib.parseUint10 a b=if(b.map UInt8.toNat).all gH=PV then .ok ((b.map UInt8.toNat).foldl qo a)else .syntax
 | [],a,_=>by simp[Lib.parseUint10]
 |c::r,a,h=>by
  have g:0<10^(G r):=Nat.pow_pos cO;rw[aj,cY]at h;have h1:(a+1)*10<=10000000000000000000:=by
   have:(a+1)*10*1<=(a+1)*10*10^(G r):=Nat.mul_le_mul_left _ g;have f:(a+1)*(10^(G r)*10)=(a+1)*10*10^(G r):=by rw[dD (10^(G r)) 10,dR]
   omega
  simp only[Lib.parseUint10,bF,cZ,eJ];by_cases e:48<=c.toNat/\c.toNat<=57
  ·rw[ai e,ah Y,ah Y];have d:gH c.toNat=PV:=by simp[gH];omega
   have i:(a*10+(c.toNat-48)+1)*10^(G r)<=10000000000000000000:=by
    have:(a*10+(c.toNat-48)+1)*10^(G r)<=(a+1)*10*10^(G r):=dB _ Y;have f:(a+1)*(10^(G r)*10)=(a+1)*10*10^(G r):=by rw[dD (10^(G r)) 10,dR]
    omega
   rw[JC r _ i,d];simp only[bX];rw[show qo a c.toNat=a*10+(c.toNat-48)by unfold qo;omega]
  ·rw[ah e];have d:gH c.toNat=P2:=by simp[gH];omega
   rw[d];simp
def E0(f:List UInt8)(e:(fZ (f.map UInt8.toNat)).2.length<=19)(d:(fZ (f.map UInt8.toNat)).2.all gH=PV->iO (fZ (f.map UInt8.toNat)).2<9223372036854775808):Lib.atoiAll f=match kU (f.map UInt8.toNat)with|some o=>.ok o|none=>.syntax:=by
 cases f with
 |nil=>rfl
 |cons c r=>
  have m:∀b:List UInt8,(b.map UInt8.toNat).length<=19->Lib.parseMag b=if b.map UInt8.toNat≠[]/\(b.map UInt8.toNat).all gH=PV then .ok (iO (b.map UInt8.toNat))else .syntax:=by
   intro b l;unfold Lib.parseMag;cases b with
   |nil=>rfl
   |cons k b=>
    rw[ah eA,JC (k::b) 0 (by rw[aw]at l;have:10^(k::b).length<=10^19:=aJ cO l;omega)]
    by_cases a:((k::b).map UInt8.toNat).all gH=PV;·rw[ai a,ai ⟨eA,a⟩];rfl
    ·rw[ah a,ah (λh=>a h.2)]
  unfold Lib.atoiAll;simp only[];have j:fZ ((c::r).map UInt8.toNat)=if c.toNat=43\/c.toNat=45 then([c.toNat],r.map UInt8.toNat)else([],(c::r).map UInt8.toNat):=rfl
  unfold kU;by_cases g:c.toNat=43\/c.toNat=45
  ·rw[ai g]at j;rw[j]at e d ⊢;simp only[]at e d ⊢;rw[ai g,m r e];by_cases a:r.map UInt8.toNat≠[]/\(r.map UInt8.toNat).all gH=PV
   ·have n:=d a.2;rw[ai a,ai a];simp only[];rw[ah Y,ah Y];by_cases i:c.toNat=45;·simp[i]
    ·simp[i]
   ·rw[ah a,ah a]
  ·rw[ah g]at j;rw[j]at e d ⊢;simp only[]at e d ⊢;rw[ah g,m (c::r) e];have i:¬c.toNat=45:=λh=>g (P4 h);by_cases a:(c::r).map UInt8.toNat≠[]/\((c::r).map UInt8.toNat).all gH=PV
   ·have n:=d a.2;rw[ai a,ai a];simp only[];rw[ah Y,ah Y];simp[i]
   ·rw[ah a,ah a]
def Small(l:List Nat):Prop:=(fZ l).2.length<=19/\((fZ l).2.all gH=PV->iO (fZ l).2<9223372036854775808)
def AI(b:List Nat)(c:Int)(a:GI):Prop:=match kU b with
 |some f=>c=f/\a=.nilIface
 |none=>∃e d,a=.iface e d
def AT(b:List Nat)(w:Gr)(d:MB)(w':Gr):Prop:=
 (∃c a,d=Ps (OW #[I U c,a])/\(a=.nilIface\/∃f e,a=.iface f e)/\(Small b->AI b c a))/\LT w.heap.size w w'
def Ia(g:p_ B w)(a:ByteArray)(q:a.size<=1000000):K8 Qe 328 #[MV a] w (AT (bl a) w):=by
 obtain⟨k,s1,p⟩:=g.syn;obtain⟨l,n,o⟩:=g.rng;cases c:Lib.atoiAll a.data.toList with
 |ok h=>
  apply(Tryz.strconv_Atoi_ok a Y h c w).m;rintro f w' ⟨rfl,m⟩;refine⟨⟨h,.nilIface,rfl,P3 rfl,λb=>?_⟩,?_⟩
  ·have:=E0 a.data.toList b.1 b.2;rw[c]at this;unfold AI bl;cases d:kU (a.data.toList.map UInt8.toNat)with
   |none=>rw[d]at this;cases this
   |some i=>rw[d]at this;injection this with h3;exact⟨h3,rfl⟩
  ·rcases m with rfl|⟨r,rfl⟩;·exact aq _ _
   ·exact Lib.bytesWorld_below _ _ _
 | «syntax» =>
  apply(Tryz.strconv_Atoi_syntax a Y c k w s1 p).m;rintro f w' ⟨j,rfl,_,_,e⟩;refine⟨⟨0,_,rfl,P4 ⟨_,_,rfl⟩,λb=>?_⟩,e⟩;have:=E0 a.data.toList b.1 b.2;rw[c]at this;unfold AI bl;cases d:kU (a.data.toList.map UInt8.toNat)with
  |none=>exact⟨_,_,rfl⟩
  |some i=>rw[d]at this;cases this
 |range=>
  apply(Tryz.strconv_Atoi_range a Y c l w n o).m;rintro f w' ⟨j,rfl,_,_,e⟩;refine⟨⟨_,_,rfl,P4 ⟨_,_,rfl⟩,λb=>?_⟩,e⟩;have:=E0 a.data.toList b.1 b.2;rw[c]at this;unfold AI bl;cases d:kU (a.data.toList.map UInt8.toNat)with
  |none=>exact⟨_,_,rfl⟩
  |some i=>rw[d]at this;cases this
def El:∀(l:List Nat) (a:Nat),(∀d∈l,d<256)->l.all gH=PV->l.foldl qo a+1<=(a+1)*10^(G l)
 | [],a,_,_=>eA
 |b::l,a,e,c=>by
  simp only[cZ,bN]at c;have h:48<=b/\b<=57:=by simpa[gH]using c.1
  have:=El l (qo a b) (λd f=>e d (by simp[f])) c.2;rw[eJ,aj,cY];have h2:(qo a b+1)*10^(G l)<=(a+1)*10*10^(G l):=dB _ (by unfold qo;omega);have g:(a+1)*(10^(G l)*10)=(a+1)*10*10^(G l):=by rw[dD (10^(G l)) 10,dR]
  omega
def Ik{a:List Nat}{c:Nat}(h:c∈(fZ a).2):c∈a:=by
 unfold fZ at h;cases a with
 |nil=>exact h
 |cons b d=>
  simp only[]at h;split at h;·exact dU _ h
  ·exact h
def GX{a:List Nat}(d:∀b∈a,b<256)(e:(fZ a).2.length<=18):Small a:=by refine⟨Y,λc=>?_⟩;have h2:=El (fZ a).2 0 (λb f=>d b (Ik f)) c;have h3:10^(fZ a).2.length<=10^18:=aJ cO e;have:iO (fZ a).2=(fZ a).2.foldl qo 0:=rfl;omega
def u_(w:Gr)(n:Nat):LT w.heap.size w (w.drewN n):=⟨rfl,rfl,rfl,ag _,λ_ _=>rfl⟩
def kj(l:List Nat)(a:Int)(b:Bool):Prop:=match kE l with
 |some c=>a=c/\b=PV
 |none=>b=P2
def kj.long{l:List Nat}(a:Int)(h:¬(1<=(fZ l).2.length/\(fZ l).2.length<=10)):kj l a P2:=by unfold kj kE;rw[ah h]
def kj.nil{l:List Nat}{n:Int}(h:1<=(fZ l).2.length/\(fZ l).2.length<=10)(a:AI l n .nilIface):kj l n PV:=by
 unfold kj kE;rw[ai h];unfold AI at a;cases b:kU l with
 |some c=>rw[b]at a;exact⟨a.1,rfl⟩
 |none=>rw[b]at a;obtain⟨_,_,h⟩:=a;cases h
def kj.err{l:List Nat}{b:Int}{e:TypeId}{d:GI}(h:1<=(fZ l).2.length/\(fZ l).2.length<=10)(a:AI l b (.iface e d)):kj l b P2:=by
 unfold kj kE;rw[ai h];unfold AI at a;cases c:kU l with
 |some f=>rw[c]at a;cases a.2
 |none=>rfl
def WT(d:List Nat)(w:Gr)(c:MB)(w':Gr):Prop:=(∃a b,c=Ps (OW #[I U a,OV b])/\kj d a b)/\LT w.heap.size w w'
def PU(F:p_ B w)(L:B<=w.heap.size)(c:ByteArray)(A:c.size<=1000000):K8 Qe 307 #[MV c] w (WT (bl c) w):=by
 have x:=H (Il (w:=w) c A);have v:=H (λp=>Ia (F.below L (u_ w p)) c A);have l:L1 (1<=(fZ (bl c)).2.length/\(fZ (bl c)).2.length<=10->Small (bl c)):=λh=>GX (xH c) Y;generalize bl c=a at *;have n:L1 ((ge (fZ a).2).size=(fZ a).2.length):=by unfold Hid ge;simp[ByteArray.size]
 clear F
 go_in
 go_wp2_with fail;apply x.o.m;rintro r W ⟨⟨K,b,rfl,D,E⟩,p,rfl⟩;have P:b=MV (ge (fZ a).2):=E;obtain⟨y,M⟩:∃y,K=MV y:=⟨_,D⟩;subst P M;clear D E x;go_wp2_with fail;apply(v p).m;rintro r X ⟨⟨i,S,rfl,Q,J⟩,z⟩;have k:=H J;have q:=H ((u_ w p).t z);clear J z v;obtain⟨d,C⟩:∃d,ge (fZ a).2=d:=⟨_,rfl⟩;rw[C]at n ⊢;obtain⟨j,u⟩:∃j,(fZ a).2.length=j:=⟨_,rfl⟩;rw[u]at n;have s:=n.o;have e:=H u;clear C u n;rcases Q with rfl|⟨V,T,rfl⟩
 ·by_cases f:1<=j/\j<=10
  ·have g:1<=(fZ a).2.length/\(fZ a).2.length<=10:=by rw[e.o];exact f
   have m:=H (kj.nil g (k (l g)));clear g k l e;have t:(1:Int)<=(d.size:Int):=Y;have R:(d.size:Int)<=10:=Y;clear s f;go_wp2_with fail;apply(ou (d.size:Int) 1 10 _ t R).m;rintro r w' ⟨rfl,rfl⟩;go_wp2
   go_ret2
   exact⟨⟨i,PV,rfl,m⟩,q⟩
  ·have m:=H (kj.long (l:=a) i (by rw[e.o];exact f));clear k l e;have t:(d.size:Int)<1\/(10:Int)<(d.size:Int):=Y;clear s f;go_wp2_with fail;apply(qP (d.size:Int) 1 10 _ t).m;rintro r w' ⟨rfl,rfl⟩;go_wp2
   go_ret2
   exact⟨⟨i,P2,rfl,m⟩,q⟩
 ·have m:L1 (kj a i P2):=by
   by_cases f:1<=j/\j<=10
   ·have g:1<=(fZ a).2.length/\(fZ a).2.length<=10:=by rw[e.o];exact f
    exact kj.err g (k (l g))
   ·exact kj.long (l:=a) i (by rw[e.o];exact f)
  clear k l e s;go_wp2
  go_ret2
  exact⟨⟨i,P2,rfl,m⟩,q⟩
end
section
variable{F:Gr}{B n f K k:Nat}{ao:Option L2}{d:List Nat}{t z A:GI}{w E:Gr}{q r:List Nat}{l D:GI}{C:List GI}{Vs:List (VT k)}{p:List (List Nat)}
def ut(B n:Nat)(ao:Option L2)(f:Nat)(d:List Nat)(t z A:GI)(k:Nat)(e:Option (VT k×List Nat))(w:Gr)(b:MB)(E:Gr):Prop:=
 kB B n ao f d t z A (λE a g=>gF (λc=>w.heap.size<=c) k E g a) e w b E
def VO(B n:Nat)(ao:Option L2)(f:Nat)(d:List Nat)(t z A:GI)(k:Nat):Prop:=
 ∀(a:Gr) (r:List Nat),p_ B a->Sc B n ao f d t z A a r->K8 Qe 192 #[M2 (O ⟨n,0,N⟩),I U (13-k:Nat)] a (ut B n ao f d t z A k (gj k r) a)
def qS{a:Type}(Vs:List a)(c:Option (List a×List Nat)):Option (List a×List Nat):=c.map λb=>(Vs++b.1,b.2)
def Hu{c:Type}(Vs:List c)(e:c)(a:Option (List c×List Nat)):qS Vs (a.map λb=>(e::b.1,b.2))=qS (Vs++[e]) a:=by
 cases a with
 |none=>rfl
 |some b=>simp[qS]
def Ar.start(h:Sc B n ao f d t z A w r):Ar w B n ao f d t z A K k ((w.alloc (Pp gG 67)).alloc (Pp #[I U K,I U 0,I U 0,MV {data:=#[]},Z N 0 0,Z N 0 0,Z N 0 0] 67)) r (Z N 0 0) [] [] (Z N 0 0) []:=by have b:LT w.heap.size w ((w.alloc (Pp gG 67)).alloc (Pp #[I U K,I U 0,I U 0,MV {data:=#[]},Z N 0 0,Z N 0 0,Z N 0 0] 67)):=((aq _ _).alloc (ag _) _).alloc eA _;have c:=h.le;have e:=h.len;refine⟨h.other b,.of_below b,h.lt,mA _ (bn _ _),?_,aX _ _ _ _,aX _ _ _ _,rfl,λg i j a _=>by simp at a,by simp only[aI];omega,by simp only[aI];omega⟩;have:=bn (w.alloc (Pp gG 67)) (Pp #[I U K,I U 0,I U 0,MV {data:=#[]},Z N 0 0,Z N 0 0,Z N 0 0] 67);simpa using this
def Ar.fin(h:Ar F B n ao f d t z A K k w q l C Vs D p)(b:gB F.heap.size w E):gF (λa=>F.heap.size<=a) (k+1) E (N1 #[I U K,I U 0,I U 0,MV {data:=#[]},l,D,Z N 0 0]) (⟨K,0,0,[],Vs,p,[]⟩:gk (VT k))/\Sc B n ao f d t z A E q/\gB n F E:=by
 have j:=h.lt;have e:=h.only.size;have g:=h.sc.hb;have m:=ae h.rb;have c:=λa h1 h2=>b.block a h1 h2;refine⟨gF.m (k+1) (gF.keep (k+1) h.val (λa h1 h2=>c a h2 Y)) (λa h1 _=>Y),?_,?_⟩;·exact⟨h.sc.hb,by rw[c _ Y Y];exact h.sc.blk,h.sc.dat.other (λa i=>c a Y Y),h.sc.byt,h.sc.len,h.sc.lc,h.sc.le,h.sc.suf,h.sc.ad⟩
 ·exact⟨b.os.t h.only.os,b.tape.t h.only.tape,b.output.t h.only.output,aA e b.size,λa h1 h2=>(c a Y Y).t (h.only.block a h1 h2)⟩
def Ed{a:Array Bool}{b:Nat}(h:a.getD b PV=P2):a.getD b P2=P2:=by
 rcases bU b a.size with c|c;·simp[c]at h ⊢;exact h
 ·simp[Nat.not_lt.2 c]at h
def oW(b:Nat)(l:GI)(a:Array Bool)(c:Gr):Prop:=a.getD 9 P2=P2->c.cell? ⟨b,4,N⟩=O l
def oW.set{b i:Nat}{l:GI}{a:Array Bool}{c:Gr}(e:i≠9):oW b l a c↔oW b l (a.setIfInBounds i PV) c:=by unfold oW;rw[eE P2 e]
def Pn(hk:k<=11)(ih:VO B n ao f d t z A k)(he:p_ B w)(h:Sc B n ao f d t z A w r):K8 Qe 252 #[M2 (O ⟨n,0,N⟩),I U (12-k:Nat)] w (ut B n ao f d t z A (k+1) ((jV (gj k) (G r+1) r).map λT=>((⟨6,0,0,[],T.1,[],[]⟩:gk (VT k)),T.2)) w):=by
 obtain⟨i0,hi,cb,cc,cd⟩:=bu iV;have IH:=H ih;have HE:=H he;have bi:=H h;obtain⟨x,hR⟩:∃x,jV (gj k) (G r+1) r=x:=⟨_,rfl⟩;rw[hR];have HR:L1 (qS [] (jV (gj k) (G r+1) r)=x):=by unfold Hid;rw[<-hR];unfold qS;cases jV (gj k) (G r+1) r<;>simp
 go_in
 go_wp2;go_loopw [7] (λ_ wr=>∃(u:Nat) (q:List Nat) (l:GI) (C:List GI) (Vs:List (VT k)),L1 (Ar w B n ao f d t z A 6 k wr q l C Vs (Z N 0 0) [])/\G q<u/\L1 (qS Vs (jV (gj k) u q)=x)) (λ_ wr=>G d-posS n wr)
 case atStart=>exact⟨G r+1,r,Z N 0 0,[],[],Ar.start bi,Y,HR⟩
 case round=>
  obtain⟨u,q,l,C,Vs,v,hm,HR⟩:=hrel;obtain⟨u,rfl⟩:∃m',u=m'+1:=⟨u-1,Y⟩;have bt:=H v.sc.posS;have ck:=v.o.sc.le;have X:=H (yd v.sc {data:=#[93]} cO cO);rw[wj,show(UInt8.toNat 93)=93 from rfl]at X;have b8:=iz q;cases ht:f_ [93] (f9 q)with
  |some q1=>
   rw[ht]at X;have b7:=(gD ht).1;simp only[aj,aI]at b7;have bw:L1 (x=O (Vs,q1)):=by unfold Hid;rw[<-HR.o,jV,ht];simp[qS]
   go_wp2_with fail;apply X.o.m;rintro aa J ⟨rfl,h1,k1⟩;have c:=H (v.step (show Sc B n ao f d t z A J q1 from h1) k1 Y);obtain⟨ia,ic,b6⟩:=jp c.o.own;subst b6;have al:=c.o.rb;have a7:=c.o.vb;obtain⟨v0,v1,v2,v3,v4,v5,v6⟩:=qu a7;obtain⟨r0,r1,r2,r3,r4,r5,r6⟩:=qu al;obtain⟨f0,f1,f2,f3,f4,f5,f6⟩:=uj 0 1 2 3 4 5 6 al;have HF:=H (pq al (I U 6) (I U 0) (I U 0) (MV {data:=#[]}) (Z ia (G C) ic) (Z N 0 0) (Z N 0 0));have HO:=H (lX J w.heap.size (I U 6) (I U 0) (I U 0) (MV {data:=#[]}) (Z ia (G C) ic) (Z N 0 0) (Z N 0 0));go_wp2;refine av (v:=N1 #[I U 6,I U 0,I U 0,MV {data:=#[]},Z ia (G C) ic,Z N 0 0,Z N 0 0]) ?_ rfl ?_;·exact aE results252 _ _ w.heap.size 67 _ _ _ rfl HF aK rfl aG
   obtain⟨g,i,j⟩:=c.o.fin HO;exact kB.some_ (by rw[bw.o];rfl) g i j
  |none=>
   rw[ht]at X;have ac:L1 (qS Vs (match gj k (f9 q)with|none=>N|some (ad,q)=>(jV (gj k) u q).map λT=>(ad::T.1,T.2))=x):=by
    unfold Hid;rw[<-HR.o];conv=>rhs;rw[jV,ht]
    cases gj k (f9 q)<;>rfl
   go_wp2_with fail;apply X.o.m;rintro aa J ⟨rfl,h1,k1⟩;have c:=H (v.step (show Sc B n ao f d t z A J (f9 q)from h1) k1 b8);have a7:=c.o.vb;have b4:=qZ a7;have bq:=H b4;have HV:=H (IH J.drew (f9 q) (HE.o.only v.sc.hb (ew (eh v.sc.hb v.lt)) (c.o.drew.only)) c.drew.sc);obtain⟨cf,c1,b5⟩:=jp c.o.own;go_wp2_with fail;refine om (oW (w.heap.size+1) l) aG ?_;intro a;have b:oW (w.heap.size+1) l (Array.replicate 10 P2) J.drew:=λ_=>bq;refine tj 0 a b λa b=>?_;refine tl 1 a b (λa b=>?_) (y:=λce hW=>by obtain⟨b0,b1,hL,b2⟩:=hW;have ch:=b2 (by cases h9:b0.getD 9 P2 with|false=>rfl|true=>exact absurd (b1.came 2 9 aG h9) wl);go_simp;try(with_reducible rfl));refine tj 2 a b λa b=>?_;refine tj 3 a b λa b=>?_;refine tj 4 a b λa b=>?_;have a9:L1 (IntKind.i64.wrap (((12-k:Nat):Int)+1)=((13-k:Nat):Int)):=by unfold Hid;rw[aU];omega
   cases hv:gj k (f9 q)with
   |none=>
    rw[hv]at HV ac;have br:L1 (x=N):=by unfold Hid;rw[<-ac.o];rfl
    refine on 5 a λK' e=>?_;go_simp;rw[a9.o];apply HV.o.m;rintro aa L ⟨rfl,k2⟩;exact⟨rfl,kB.none_ (by rw[br.o];rfl) (c.o.drew.only.t k2)⟩
   |some T=>
    obtain⟨ba,q2⟩:=T;rw[hv]at HV ac;have cl:=iQ hv;have bv:L1 (qS (Vs++[ba]) (jV (gj k) u q2)=x):=by unfold Hid;rw[<-ac.o];exact(Hu _ _ _).s
    refine on 5 a λK' e=>?_;go_simp;rw[a9.o];apply HV.o.m;rintro aa L ⟨ad,rfl,a8,h2,k2⟩;have H2:=H (c.drew.step h2 k2 Y);have bm:L1 (L.cell? ⟨w.heap.size+1,4,N⟩=O l):=by unfold Hid;rw[iI H2.o.vb];rfl
    have bx:=H a8;have b3:=a8.cells;obtain⟨M,g,i,j,P,Q,R,rfl⟩:∃M g i j P Q R,ad=N1 #[M,g,i,j,P,Q,R]:=gF.agg a8;refine e _ _ (λ_=>bm) (λm s=>?_);have a:=m;have b:=s
    (try simp only[jd])
    refine on 6 a λK' e=>?_;go_simp;have V:=H (H2.alloc (Pp #[M,g,i,j,P,Q,R] 67));have bo:L1 ((L.alloc (Pp #[M,g,i,j,P,Q,R] 67)).cell? ⟨w.heap.size+1,4,N⟩=O l):=by unfold Hid;rw[iI V.o.vb];rfl
    refine e _ _ (λ_=>bo) (λm s=>?_);have a:=m;have b:=s
    (try simp only[jd])
    refine on 7 a λK' e=>?_;have cj:=c.o.few;have cn:=ae H2.vb;refine Bz rfl (.tmp 11) (.tmp 16) 29 rfl (w.heap.size+2) 67 i0 _ 7 112 dx hi cb cc cd rfl cO l (G C) (C.flatMap cellsOf) (by rw[b5];rfl) V.o.own ⟨L.heap.size,0,N⟩ 1 1 [M,g,i,j,P,Q,R] rfl rfl ?hnews ?hone ?h63 ?hby ?hbs ?_
    case hnews=>intro co cp hu;rw[pR,iI (bn L _)];simpa using hu
    case hone=>exact b3.2
    case h63=>unfold maxLen;omega
    case hby=>omega
    case hbs=>simp;omega
    intro v6 w6 bf bc ca;have bz:L1 (gF (λW=>J.drew.heap.size<=W) k (L.alloc (Pp #[M,g,i,j,P,Q,R] 67)) (N1 #[M,g,i,j,P,Q,R]) ba):=gF.keep k bx (λW _ hg=>((aq L.heap.size L).alloc (ag _) _).block W hg);have H6:=H (V.item (S:=J.heap.size) (λW hg=>(c.o.own.lt W hg).2) (λW hg=>by cases hg) (by have:=ae c.vb;omega) bz bf bc ca Y);have bd:w6.heap[w.heap.size+1]?=O (Pp #[I U 6,I U 0,I U 0,MV {data:=#[]},l,Z N 0 0,Z N 0 0] 67 (0,0)):=by rw[bc.block _ (by have:=ae V.o.vb;exact this) (λaa=>by have:=(V.o.own.lt _ aa.s).1;omega)];exact V.vb
    have bb:=qZ bd;have ci:=jR 4 bd;obtain⟨cg,c6,b9⟩:=jp bf;subst b9;have bs:=H H6.sc.posS;refine e _ _ (λ_=>bb) (λm s=>?_);have a:=m;have b:=s
    (try simp only[jd])
    refine on 8 a λK' e=>?_;go_simp;refine e _ _ (λ_=>bb) (λm s=>?_);have a:=m;have b:=s
    (try simp only[jd])
    refine on 9 a λK' e=>?_;go_simp;refine e _ _ (λh9=>by cases h9) (λm s=>?_);have a:=m;have b:=s
    (try simp only[jd])
    refine oh aG ?_ _;go_wp2;go_roundw
    case rel=>exact⟨u,q2,_,_,_,H6,Y,bv⟩
    case measure=>rw[bt.o,bs.o];omega
def Ar.key(h:Ar F B n ao f d t z A K k w q l C Vs D p){s:List Nat}{e:GI}
  (u:E.ownsRow (F.heap.size+2) 9 1 e (G p+1) ((p.map λs=>MV (ge s))++[MV (ge s)])) (g:w.grownBy E D.ownBlock) (P:∀b,e.ownBlock=O b->D.ownBlock=O b\/w.heap.size<=b) (y:G p+1+G q<=200000):Ar F B n ao f d t z A K k (E.setCell ⟨F.heap.size+1,5,N⟩ e) q l C Vs e (p++[s]):=by
 have W:=h.lt;have L:=ae h.vb;have V:=h.sc.hb;have m:=h.ownk.lt;have o:∀b,b<w.heap.size->D.ownBlock≠O b->b≠F.heap.size+1->(E.setCell ⟨F.heap.size+1,5,N⟩ e).heap[b]?=w.heap[b]?:=λb h1 h2 h3=>by rw[kW _ h3,g.block b h1 (λc=>h2 c.s)]
 have i:∀b,b<F.heap.size+1->(E.setCell ⟨F.heap.size+1,5,N⟩ e).heap[b]?=w.heap[b]?:=λb h1=>o b Y (λc=>by have:=m b c;omega) Y;have M:E.heap[F.heap.size+1]?=O (Pp #[I U K,I U 0,I U 0,MV {data:=#[]},l,D,Z N 0 0] 67 (0,0)):=by rw[g.block _ L (λc=>by have:=m _ c.s;omega)];exact h.vb
 refine⟨⟨h.sc.hb,by rw[i _ Y];exact h.sc.blk,h.sc.dat.other (λb g=>i b Y),h.sc.byt,h.sc.len,h.sc.lc,h.sc.le,h.sc.suf,h.sc.ad⟩,?_,h.lt,by rw[i _ Y];exact h.rb,?_,?_,?_,h.len,?_,h.few,by rw[ak];exact y⟩;·exact⟨g.os.t h.only.os,g.tape.t h.only.tape,g.output.t h.only.output,by have:=g.size;simp[World.setCell];omega,λb h1 h2=>(i b Y).t (h.only.block b h1 h2)⟩
 ·rw[lV _ M];rfl
 ·have:=h.own.kept g (by
   cases J:l.ownBlock with
   |none=>exact P3 rfl
   |some b=>refine P4 (λc=>?_);exact xT h.own h.ownk cO b J c.s)
  exact aR this (λc=>absurd (this.lt (F.heap.size+1) c).1 Y) e
 ·rw[ak,bK];have:=aR (a:=⟨F.heap.size+1,5,N⟩) u (λc=>absurd (u.lt (F.heap.size+1) c).1 Y) e;simpa using this
 ·intro S v x Q R;have T:gF (λb=>F.heap.size+2<=b/\l.ownBlock≠O b/\D.ownBlock≠O b/\e.ownBlock≠O b) k w v x:=by
   refine gF.m k (h.ch S v x Q R) (λb h1 h2=>⟨h1.1,h1.2.1,h1.2.2,λc=>?_⟩);rcases P b c with j|j;·exact h1.2.2 j
   ·omega
  refine gF.m k (gF.keep k T (λb h1 h2=>o b h2 h1.2.2.1 Y)) (λb h1 _=>⟨h1.1,h1.2.1,h1.2.2.2⟩)
def pJ(e b g:Nat)(h:GI)(a:Array Bool)(c:Gr):Prop:=a.getD e P2=P2->c.cell? ⟨b,g,N⟩=O h
def pJ.set{a b g i:Nat}{v:GI}{c:Array Bool}{e:Gr}(h:i≠a):pJ a b g v c e↔pJ a b g v (c.setIfInBounds i PV) e:=by unfold pJ;rw[eE P2 h]
def qx{b:Type}(p:List (List Nat))(Vs:List b)(c:Option ((List (List Nat)×List b)×List Nat)):Option ((List (List Nat)×List b)×List Nat):=c.map λa=>((p++a.1.1,Vs++a.1.2),a.2)
def Hr{c:Type}(p:List (List Nat))(Vs:List c)(g:List Nat)(e:c)(b:Option ((List (List Nat)×List c)×List Nat)):qx p Vs (b.map λa=>((g::a.1.1,e::a.1.2),a.2))=qx (p++[g]) (Vs++[e]) b:=by
 cases b with
 |none=>rfl
 |some a=>simp[qx]
def Kg(hk:k<=11)(ih:VO B n ao f d t z A k)(he:p_ B w)(h:Sc B n ao f d t z A w r):K8 Qe 197 #[M2 (O ⟨n,0,N⟩),I U (12-k:Nat)] w (ut B n ao f d t z A (k+1) ((js (gj k) (G r+1) r).map λj=>((⟨7,0,0,[],j.1.2,j.1.1,[]⟩:gk (VT k)),j.2)) w):=by
 obtain⟨i0,hi,cv,cw,cx⟩:=bu iV;obtain⟨j0,ji,c0,c2,c3⟩:=bu iS;have IH:=H ih;have HE:=H he;have b5:=H h;obtain⟨u,hR⟩:∃u,js (gj k) (G r+1) r=u:=⟨_,rfl⟩;rw[hR];have HR:L1 (qx [] [] (js (gj k) (G r+1) r)=u):=by unfold Hid;rw[<-hR];unfold qx;cases js (gj k) (G r+1) r<;>simp
 go_in
 go_wp2;go_loopw [7] (λ_ wr=>∃(P:Nat) (q:List Nat) (l:GI) (C:List GI) (Vs:List (VT k)) (D:GI) (p:List (List Nat)),L1 (Ar w B n ao f d t z A 7 k wr q l C Vs D p)/\G q<P/\L1 (qx p Vs (js (gj k) P q)=u)) (λ_ wr=>G d-posS n wr)
 case atStart=>exact⟨G r+1,r,Z N 0 0,[],[],Z N 0 0,[],Ar.start b5,Y,HR⟩
 case round=>
  obtain⟨P,q,l,C,Vs,D,p,s,hm,HR⟩:=hrel;obtain⟨P,rfl⟩:∃m',P=m'+1:=⟨P-1,Y⟩;have b9:=H s.sc.posS;have dc:=s.o.sc.le;have HM:=H (yd s.sc {data:=#[62,62]} cO cO);rw[show bl {data:=#[62,62]}=[62,62]from rfl]at HM;have co:=iz q;cases ht:f_ [62,62] (f9 q)with
  |some R=>
   rw[ht]at HM;have bf:=(gD ht).1;simp only[aj,aI]at bf;have cb:L1 (u=O ((p,Vs),R)):=by unfold Hid;rw[<-HR.o,js,ht];simp[qx]
   go_wp2_with fail;apply HM.o.m;rintro i w1 ⟨rfl,h1,k1⟩;have x:=H (s.step (show Sc B n ao f d t z A w1 R from h1) k1 Y);obtain⟨ia,ic,cj⟩:=jp x.o.own;obtain⟨ja,jc,cl⟩:=jp x.o.ownk;subst cj;subst cl;have bi:=x.o.rb;have bm:=x.o.vb;obtain⟨v0,v1,v2,v3,v4,v5,v6⟩:=qu bm;obtain⟨r0,r1,r2,r3,r4,r5,r6⟩:=qu bi;obtain⟨f0,f1,f2,f3,f4,f5,f6⟩:=uj 0 1 2 3 4 5 6 bi;have HF:=H (pq bi (I U 7) (I U 0) (I U 0) (MV {data:=#[]}) (Z ia (G C) ic) (Z ja (G p) jc) (Z N 0 0));have HO:=H (lX w1 w.heap.size (I U 7) (I U 0) (I U 0) (MV {data:=#[]}) (Z ia (G C) ic) (Z ja (G p) jc) (Z N 0 0));go_wp2;refine av (v:=N1 #[I U 7,I U 0,I U 0,MV {data:=#[]},Z ia (G C) ic,Z ja (G p) jc,Z N 0 0]) ?_ rfl ?_;·exact aE results197 _ _ w.heap.size 67 _ _ _ rfl HF aK rfl aG
   obtain⟨J,L,M⟩:=x.o.fin HO;exact kB.some_ (by rw[cb.o];rfl) J L M
  |none=>
   rw[ht]at HM;go_wp2_with fail;apply HM.o.m;rintro i w1 ⟨rfl,h1,k1⟩;have x:=H (s.step (show Sc B n ao f d t z A w1 (f9 q)from h1) k1 co);have ad:=H (yd x.sc {data:=#[47]} cO cO);rw[wj,show(UInt8.toNat 47)=47 from rfl,jq]at ad;cases al:f_ [47] (f9 q)with
   |none=>
    rw[al]at ad;have ac:L1 (u=N):=by unfold Hid;rw[<-HR.o,js,ht,al];rfl
    go_wp2_with fail;apply ad.o.m;rintro i w2 ⟨rfl,h2,k2⟩;go_wp2_with fail;apply(nZ _).m;rintro i E ⟨rfl,rfl⟩;exact⟨rfl,kB.none_ (by rw[ac.o];rfl) (x.o.only.t k2)⟩
   |some R=>
    rw[al]at ad;have bf:=(gD al).1;simp only[aj,aI]at bf;have V:L1 (qx p Vs (match j7 R with|none=>N|some (v,q2)=>match gj k q2 with|none=>N|some (a7,q3)=>(js (gj k) P q3).map λj=>((v::j.1.1,a7::j.1.2),j.2))=u):=by
     unfold Hid;rw[<-HR.o];simp only[js,ht,al];cases j7 R with
     |none=>rfl
     |some j=>obtain⟨v,q2⟩:=j;simp only[];cases gj k q2<;>rfl
    go_wp2_with fail;apply ad.o.m;rintro i w2 ⟨rfl,h2,k2⟩;have H2:=H (x.step (show Sc B n ao f d t z A w2 R from h2) k2 Y);go_wp2_with fail;apply(oe _).m;rintro i E ⟨rfl,rfl⟩;have bm:=H2.o.vb;have a9:L1 (E.cell? ⟨w.heap.size+1,5,N⟩=O D):=by unfold Hid;rw[iI bm];rfl
    have HN:=H (DB H2.drew.sc);obtain⟨ka,kc,ck⟩:=jp H2.o.ownk;go_wp2_with fail;refine om (pJ 7 (w.heap.size+1) 5 D) aG ?_;intro a;have b:pJ 7 (w.heap.size+1) 5 D (Array.replicate 8 P2) E.drew:=λ_=>a9;refine tj 0 a b λa b=>?_;refine tl 1 a b (λa b=>?_) (y:=λce hW=>by obtain⟨ba,bb,hL,bc⟩:=hW;have cg:=bc (by cases h9:ba.getD 7 P2 with|false=>rfl|true=>exact absurd (bb.came 2 7 aG h9) wl);go_simp;try(with_reducible rfl));refine tj 2 a b λa b=>?_;cases bd:j7 R with
    |none=>
     rw[bd]at HN V;have ac:L1 (u=N):=by unfold Hid;rw[<-V.o];rfl
     refine on 3 a λm c=>?_;go_simp;apply HN.o.m;rintro i w3 ⟨rfl,k3⟩;exact⟨rfl,kB.none_ (by rw[ac.o];rfl) (H2.o.drew.only.t k3)⟩
    |some j=>
     obtain⟨v,q2⟩:=j;rw[bd]at HN V;have cn:=jN R 0 0 v q2 bd;refine on 3 a λm c=>?_;go_simp;apply HN.o.m;rintro i w3 ⟨a7,rfl,rfl,h3,k3⟩;have H3:=H (H2.drew.step h3 k3 cn);have a8:L1 (w3.cell? ⟨w.heap.size+1,5,N⟩=O D):=by unfold Hid;rw[iI H3.o.vb];rfl
     refine c _ _ (λ_=>a8) (λe g=>?_);have a:=e;have b:=g
     (try simp only[jd])
     refine on 4 a λm c=>?_;go_simp;have H4:=H (H3.alloc (Pp #[MV (ge v)] 9));have b7:L1 ((w3.alloc (Pp #[MV (ge v)] 9)).cell? ⟨w.heap.size+1,5,N⟩=O D):=by unfold Hid;rw[iI H4.o.vb];rfl
     refine c _ _ (λ_=>b7) (λe g=>?_);have a:=e;have b:=g
     (try simp only[jd])
     refine on 5 a λm c=>?_;have db:=s.o.fewk;have cs:=ae H3.vb;refine Bz rfl (.tmp 14) (.tmp 17) 38 rfl (w.heap.size+2) 9 j0 _ 1 16 fy ji c0 c2 c3 rfl cO D (G p) (p.map λv=>MV (ge v)) (by rw[ck];rfl) H4.o.ownk ⟨w3.heap.size,0,N⟩ 1 1 [MV (ge v)] rfl rfl ?hnews ?hone ?h63 ?hby ?hbs ?_
     case hnews=>intro cy b4 hu;rw[pR,iI (bn w3 _)];simpa using hu
     case hone=>intro b4 hu;simp at hu;subst hu;rfl
     case h63=>unfold maxLen;omega
     case hby=>omega
     case hbs=>simp;omega
     intro v6 w6 b2 bx ct;have H6:=H (H4.key b2 bx ct Y);have b0:w6.heap[w.heap.size+1]?=O (Pp #[I U 7,I U 0,I U 0,MV {data:=#[]},l,D,Z N 0 0] 67 (0,0)):=by rw[bx.block _ (ae H4.o.vb) (λi=>by have:=(H4.o.ownk.lt _ i.s).1;omega)];exact H4.vb
     have bv:=r_ b0;have c7:=jR 5 b0;obtain⟨bt,c6,cp⟩:=jp b2;subst cp;refine c _ _ (λ_=>bv) (λe g=>?_);have a:=e;have b:=g
     (try simp only[jd])
     refine on 6 a λm c=>?_;go_simp;refine c _ _ (λ_=>bv) (λe g=>?_);have a:=e;have b:=g
     (try simp only[jd])
     refine on 7 a λm c=>?_;go_simp;refine c _ _ (λh9=>by cases h9) (λe g=>?_);have a:=e;have b:=g
     (try simp only[jd])
     refine oh aG ?_ _;have ci:=qZ H6.vb;have Q:=H6;generalize w6.setCell ⟨w.heap.size+1,5,N⟩ (Z bt (G p+1) c6)=w7 at *;have a9:=H ci;have HV:=H (IH w7.drew q2 (HE.o.only s.sc.hb (ew (eh s.sc.hb s.lt)) (Q.o.drew.only)) Q.drew.sc);obtain⟨c4,c1,ch⟩:=jp Q.o.own;go_wp2_with fail;refine om (pJ 9 (w.heap.size+1) 4 l) aG ?_;intro a;have b:pJ 9 (w.heap.size+1) 4 l (Array.replicate 10 P2) w7.drew:=λ_=>a9;refine tj 0 a b λa b=>?_;refine tl 1 a b (λa b=>?_) (y:=λce hW=>by obtain⟨ba,bb,hL,bc⟩:=hW;have cg:=bc (by cases h9:ba.getD 9 P2 with|false=>rfl|true=>exact absurd (bb.came 2 9 aG h9) wl);go_simp;try(with_reducible rfl));refine tj 2 a b λa b=>?_;refine tj 3 a b λa b=>?_;refine tj 4 a b λa b=>?_;have br:L1 (IntKind.i64.wrap (((12-k:Nat):Int)+1)=((13-k:Nat):Int)):=by unfold Hid;rw[aU];omega
     cases hv:gj k q2 with
     |none=>
      rw[hv]at HV V;have ac:L1 (u=N):=by unfold Hid;rw[<-V.o];rfl
      refine on 5 a λm c=>?_;go_simp;rw[br.o];apply HV.o.m;rintro i T ⟨rfl,k2⟩;exact⟨rfl,kB.none_ (by rw[ac.o];rfl) (Q.o.drew.only.t k2)⟩
     |some j=>
      obtain⟨bs,q3⟩:=j;rw[hv]at HV V;have dk:=iQ hv;have ca:L1 (qx (p++[v]) (Vs++[bs]) (js (gj k) P q3)=u):=by unfold Hid;rw[<-V.o];exact(Hr _ _ _ _ _).s
      refine on 5 a λm c=>?_;go_simp;rw[br.o];apply HV.o.m;rintro i T ⟨a7,rfl,bo,h2,k2⟩;have H8:=H (Q.drew.step h2 k2 Y);have b6:L1 (T.cell? ⟨w.heap.size+1,4,N⟩=O l):=by unfold Hid;rw[iI H8.o.vb];rfl
      have cc:=H bo;have cf:=bo.cells;obtain⟨W,J,L,M,X,a5,a6,rfl⟩:∃W J L M X a5 a6,a7=N1 #[W,J,L,M,X,a5,a6]:=gF.agg bo;refine c _ _ (λ_=>b6) (λe g=>?_);have a:=e;have b:=g
      (try simp only[jd])
      refine on 6 a λm c=>?_;go_simp;have H9:=H (H8.alloc (Pp #[W,J,L,M,X,a5,a6] 67));have a8:L1 ((T.alloc (Pp #[W,J,L,M,X,a5,a6] 67)).cell? ⟨w.heap.size+1,4,N⟩=O l):=by unfold Hid;rw[iI H9.o.vb];rfl
      refine c _ _ (λ_=>a8) (λe g=>?_);have a:=e;have b:=g
      (try simp only[jd])
      refine on 7 a λm c=>?_;have da:=s.o.few;have cs:=ae H8.vb;refine Bz rfl (.tmp 21) (.tmp 26) 29 rfl (w.heap.size+2) 67 i0 _ 7 112 dx hi cv cw cx rfl cO l (G C) (C.flatMap cellsOf) (by rw[ch];rfl) H9.o.own ⟨T.heap.size,0,N⟩ 1 1 [W,J,L,M,X,a5,a6] rfl rfl ?hnews ?hone ?h63 ?hby ?hbs ?_
      case hnews=>intro cy b4 hu;rw[pR,iI (bn T _)];simpa using hu
      case hone=>exact cf.2
      case h63=>unfold maxLen;omega
      case hby=>omega
      case hbs=>simp;omega
      intro v9 w9 b3 bz cu;have cd:L1 (gF (λaa=>w7.drew.heap.size<=aa) k (T.alloc (Pp #[W,J,L,M,X,a5,a6] 67)) (N1 #[W,J,L,M,X,a5,a6]) bs):=gF.keep k cc (λaa _ hg=>((aq T.heap.size T).alloc (ag _) _).block aa hg);have bq:=H (H9.item (S:=w7.heap.size) (λaa hg=>(Q.o.own.lt aa hg).2) (λaa hg=>(Q.o.ownk.lt aa hg).2) (by have:=ae Q.vb;omega) cd b3 bz cu Y);have b1:w9.heap[w.heap.size+1]?=O (Pp #[I U 7,I U 0,I U 0,MV {data:=#[]},l,Z bt (G p+1) c6,Z N 0 0] 67 (0,0)):=by rw[bz.block _ (by have:=ae H9.o.vb;exact this) (λi=>by have:=(H9.o.own.lt _ i.s).1;omega)];exact H9.vb
      have bw:=qZ b1;have c8:=jR 4 b1;obtain⟨c5,c9,cr⟩:=jp b3;subst cr;have b8:=H bq.sc.posS;refine c _ _ (λ_=>bw) (λe g=>?_);have a:=e;have b:=g
      (try simp only[jd])
      refine on 8 a λm c=>?_;go_simp;refine c _ _ (λ_=>bw) (λe g=>?_);have a:=e;have b:=g
      (try simp only[jd])
      refine on 9 a λm c=>?_;go_simp;refine c _ _ (λh9=>by cases h9) (λe g=>?_);have a:=e;have b:=g
      (try simp only[jd])
      refine oh aG ?_ _;go_wp2;go_roundw
      case rel=>exact⟨P,q3,_,_,_,_,_,bq,Y,ca⟩
      case measure=>rw[b9.o,b8.o];omega
end
