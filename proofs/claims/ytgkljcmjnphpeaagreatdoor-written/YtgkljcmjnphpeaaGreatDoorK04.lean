import Derived.Test.YtgkljcmjnphpeaaGreatDoorK03
set_option linter.unusedVariables false
set_option linter.unusedSimpArgs false
set_option maxHeartbeats 4000000
set_option maxRecDepth 100000
namespace Go.Proofs.YtgkljcmjnphpeaaGreatDoor
open Go.RowKit
theorem iV:(Tryz.prog.info? 67).map (λa=>(a.zero,a.size,a.bytes))=some (some (.agg #[.int .i64 0,.int .i64 0,.int .i64 0,.string { data:=#[] },.slice none 0 0,.slice none 0 0,.slice none 0 0]),7,112):=by kernel_rfl
theorem iS:(Tryz.prog.info? 9).map (λa=>(a.zero,a.size,a.bytes))=some (some (.string { data:=#[] }),1,16):=by kernel_rfl
def gZ:Array Value:=#[.int .i64 0,.int .i64 0,.int .i64 0,.string { data:=#[] },.slice none 0 0,.slice none 0 0,.slice none 0 0]
theorem yY{h:World}{b i d e r s p q:Nat}{f g:Value}{t u:List Value}(j:h.ownsRow b d r f p t)(k:h.ownsRow i e s g q u)(o:d≠e)(a:Nat)(m:f.ownBlock=some a)(n:g.ownBlock=some a):False:=by obtain⟨_,v,x,l⟩:=nR j a m;obtain⟨_,w,y,c⟩:=nR k a n;rw[l]at c;simp at c;exact o c.2.1
theorem m_{w:World}{b:Nat}(i:w.heap[b]?=some (.cells gZ 67 (0,0)))(a c d e f g h:Value) :
  (((((((w.setCell ⟨b,0,none⟩ a).setCell ⟨b,1,none⟩ c).setCell ⟨b,2,none⟩ d).setCell ⟨b,3,none⟩ e).setCell ⟨b,4,none⟩ f).setCell ⟨b,5,none⟩ g).setCell ⟨b,6,none⟩ h).heap[b]?=some (.cells #[a,c,d,e,f,g,h] 67 (0,0)):=by
 rw[lq _ (lq _ (lq _ (lq _ (lq _ (lq _ (lq _ i))))))];rfl
theorem ly(w:World)(b:Nat)(a c d e f g h:Value) :
  gQ b w (((((((w.setCell ⟨b,0,none⟩ a).setCell ⟨b,1,none⟩ c).setCell ⟨b,2,none⟩ d).setCell ⟨b,3,none⟩ e).setCell ⟨b,4,none⟩ f).setCell ⟨b,5,none⟩ g).setCell ⟨b,6,none⟩ h):=
 ((((((((gQ.refl b w).setCell 0 a).setCell 1 c).setCell 2 d).setCell 3 e).setCell 4 f).setCell 5 g).setCell 6 h)
theorem gR.agg{P:Nat->Prop}{k:Nat}{w:World}{v:Value}{b:VT k}(a:gR P k w v b):∃c d e f g h i,v=.agg #[c,d,e,f,g,h,i]:=by
 cases k with
 |zero=>cases a
 |succ k=>obtain⟨l,m,j,vs,rfl,_⟩:=a;exact⟨_,_,_,_,_,_,_,rfl⟩
theorem gR.form{b:Nat->Prop}{k:Nat}{w:World}{v:Value}{d:VT k}(a:gR b k w v d):∃(q s t:Int) (c:ByteArray) (l:Option Addr) (n m:Nat) (o:Option Addr) (r p:Nat) (e:Option Addr) (g f:Nat),v=.agg #[.int .i64 q,.int .i64 s,.int .i64 t,.string c,.slice l n m,.slice o r p,.slice e g f]:=by
 cases k with
 |zero=>cases a
 |succ k=>obtain⟨D,E,C,F,rfl,_,i,_,j,h⟩:=a;obtain⟨u,z,rfl⟩:=i_ i.1;obtain⟨x,A,rfl⟩:=i_ j.1;obtain⟨y,B,rfl⟩:=i_ h.1;exact⟨_,_,_,_,_,_,_,_,_,_,_,_,_,rfl⟩
theorem DK{r:World}{b s g m:Nat}{n:Value}{e:List Value}(o:r.ownsRow b s g n m (e.flatMap cellsOf))(k:∀a∈e,(cellsOf a).length=g)(F:0<g){c:Nat}{a:Value}(f:e[c]?=some a) :
  ∃j i,n=.slice (some ⟨j,0,none⟩) m i/\m<=i/\i<=maxLen/\n.ownBlock=some j/\∀d h,(cellsOf a)[d]?=some h->r.cell? ⟨j,c*g+d,none⟩=some h:=by
 have G:=(aX.1 f).1;have B:∀(e:List Value) (c:Nat),(∀a∈e,(cellsOf a).length=g)->∀a,e[c]?=some a->∀d h,(cellsOf a)[d]?=some h->(e.flatMap cellsOf)[c*g+d]?=some h:=by
  intro e;induction e with
  |nil=>intro c _ a f;simp at f
  |cons C e ih =>
   intro c k a f d h l;rw[cH];have q:=k C (by simp);have x:d<(cellsOf a).length:=(aX.1 l).1;cases c with
   |zero=>simp at f;subst f;rw[Nat.zero_mul,b_,aI x];exact l
   |succ c=>rw[ar (by rw[q,Nat.add_mul];omega),q];rw[show(c+1)*g+d-g=c*g+d by rw[Nat.add_mul];omega];exact ih c (λD A=>k D (by simp[A])) a (by simpa using f) d h l
 have p:=B e c k a f;rcases o.2 with⟨rfl,rfl⟩ | ⟨j,i,E,rfl,_,w,u,v,_,z⟩
 ·have t:e.flatMap cellsOf=[]:=cG (by rw[o.1];omega);have H:=k a (cB f);have:=p 0 _ (ai (by omega));rw[t]at this;simp at this
 ·refine⟨j,i,rfl,u,v,rfl,λd h l=>?_⟩;have:=p d h l;rw[<-z]at this;rw[cb w,<-cY];have y:=(aX.1 this).1;rw[cF (by rw[ax]at y;omega)]at this;exact this
theorem ro{w:World}{b k g:Nat}{h:Value}{j:List Value}(e:w.ownsRow b k 1 h g j){f:Nat}{i:Value}(a:j[f]?=some i) :
  ∃c d,h=.slice (some ⟨c,0,none⟩) g d/\w.cell? ⟨c,f,none⟩=some i:=by
 have r:=(aX.1 a).1;rcases e.2 with⟨rfl,rfl⟩ | ⟨c,d,o,rfl,_,l,p,q,_,n⟩;·have:=e.1;omega
 ·refine⟨c,d,rfl,?_⟩;rw[cb l,<-cY];rw[<-n]at a;have m:=(aX.1 a).1;rw[cF (by rw[ax]at m;omega)]at a;exact a
theorem gR.parts{b:Nat->Prop}{k:Nat}{c:World}{i:Value}{a:gz (VT k)}(n:gR b (k+1) c i a):∃(g h e:Value) (d:List Value),i=nV a g h e/\d.length=a.items.length /\
   jr b c 67 7 g d.length (d.flatMap cellsOf)/\(∀(f:Nat) (j:Value) (l:VT k),d[f]?=some j->a.items[f]?=some l->gR b k c j l) /\
   jr b c 9 1 h a.keys.length (a.keys.map λo=>.string (gC o)) /\
   jr b c 3 1 e a.filters.length (a.filters.map λm:Nat=>.int .i64 (m:Int)):=n
def kK(h:Nat->Prop)(k:Nat)(b:Nat)(c:List (VT k))(e:World)(i:Value):Prop:=
 ∃a:List Value,e.ownsRow b 67 7 i a.length (a.flatMap cellsOf)/\a.length=c.length/\∀(d:Nat) (f:Value) (g:VT k),a[d]?=some f->c[d]?=some g->gR h k e f g
def kO:{k:Nat}->VT k->Nat
 |0,_=>0
 |_+1,V=>gz.kind V
def rZ:{k:Nat}->VT k->Int
 |0,_=>0
 |_+1,a=>gz.n a
def tO:{k:Nat}->VT k->List Nat
 |0,_=>[]
 |_+1,a=>gz.text a
theorem gR.form2{d:Nat->Prop}{k:Nat}{s:World}{c:Value}{a:VT k}(b:gR d k s c a):∃(r:Nat) (l:Option Addr) (n m:Nat) (o:Option Addr) (q p:Nat) (e:Option Addr) (g f:Nat),c=.agg #[.int .i64 (kO a:Int),.int .i64 (rZ a),.int .i64 (r:Int),.string (gC (tO a)),.slice l n m,.slice o q p,.slice e g f]:=by
 cases k with
 |zero=>cases b
 |succ k=>obtain⟨A,B,z,C,rfl,_,i,_,j,h⟩:=b;obtain⟨t,w,rfl⟩:=i_ i.1;obtain⟨u,x,rfl⟩:=i_ j.1;obtain⟨v,y,rfl⟩:=i_ h.1;exact⟨_,_,_,_,_,_,_,_,_,_,rfl⟩
theorem kK.len{P:Nat->Prop}{k b:Nat}{d:List (VT k)}{w:World}{v:Value}(f:kK P k b d w v):∃a c,v=.slice a d.length c:=by obtain⟨xs,g,h,_⟩:=f;obtain⟨a,c,e⟩:=i_ g;exact⟨a,c,by rw[e,h]⟩
theorem kK.mono{P Q:Nat->Prop}{k b:Nat}{c:List (VT k)}{w:World}{v:Value}(d:kK P k b c w v)(g:∀a,P a->a<w.heap.size->Q a):kK Q k b c w v:=by obtain⟨xs,e,f,h3⟩:=d;exact⟨xs,e,f,λi l y h j=>gR.mono k (h3 i l y h j) g⟩
theorem kK.at{P:Nat->Prop}{k b:Nat}{a:List (VT k)}{w:World}{v:Value}(m:kK P k b a w v){i:Nat}{y:VT k}(f:a[i]?=some y) :
  ∃g c x,v=.slice (some ⟨g,0,none⟩) a.length c/\b<=g/\a.length<=c/\gR P k w x y/\∀j l,(cellsOf x)[j]?=some l->w.cell? ⟨g,i*7+j,none⟩=some l:=by
 obtain⟨xs,h,n,h3⟩:=m;have t:=(aX.1 f).1;obtain⟨x,d⟩:∃x,xs[i]?=some x:=⟨_,ai (by omega)⟩;obtain⟨g,c,e,s,_,o,p⟩:=DK h (λx d=>by obtain⟨j,q,r⟩:=cA d;obtain⟨y,f⟩:∃y,a[j]?=some y:=⟨_,ai (by omega)⟩;exact(h3 j x y (by rw[ai q,r]) f).cells.1) (by decide) d
 exact⟨g,c,x,by rw[e,n],(h.lt g o).1,by omega,h3 i x y d f,p⟩
theorem kK.base{P:Nat->Prop}{k b:Nat}{a:List (VT k)}{w:World}{c:Value}(d:kK P k b a w c):kK P k 0 a w c:=by obtain⟨g,e,f,h3⟩:=d;exact⟨g,zX e (aE _),f,h3⟩
theorem vV{c d k g:Nat}{h:Value}{j:List Value}{w i:World}(n:w.ownsRow c d k h g j)(b:Below w.heap.size w i):i.ownsRow c d k h g j:=by
 obtain⟨o,a⟩:=n;refine⟨o,?_⟩;rcases a with a | ⟨e,l,m,e1,e2,f,p⟩;·exact Or.inl a
 ·exact Or.inr ⟨e,l,m,e1,e2,by rw[b.block e (ae f)];exact f,p⟩
theorem kK.keep{P:Nat->Prop}{k b:Nat}{a:List (VT k)}{w w':World}{d:Value}(f:kK P k b a w d)(c:Below w.heap.size w w'):kK P k b a w' d:=by obtain⟨o,g,h,h3⟩:=f;exact⟨o,vV g c,h,λi n y l m=>gR.keep k (h3 i n y l m) (λe _ j=>c.block e j)⟩
section
def ju:List Nat->Option (List Nat × List Nat)
 | []=>none
 |b::r=>if lM b then ju r else if b=62 then some ([],r)else match iQ b with
  |none=>none
  |some c=>(ju r).map λa=>(c::a.1,a.2)
def iX:List Nat->List Nat
 | []=>[]
 | [a]=>[16*a]
 |a::b::c=>(16*a+b)::iX c
def nQ(r:List Nat):Option (List Nat × List Nat):=(ju r).map λa=>(iX a.1,a.2)
theorem mN:∀r:List Nat,ju r=ju (r.dropWhile lM)
 | []=>rfl
 |b::r=>by
  rw[cE];cases a:lM b;·rfl
  ·simp only[ju,a,if_true];exact mN r
variable{B d f:Nat}{i:Option Addr}{c:List Nat}{j k s:Value}{w g:World}{r q:List Nat}
variable{z:World}{y:Value}{u:List Nat}
def tK(B d:Nat)(i:Option Addr)(f:Nat)(c:List Nat)(j k s:Value)(w:World)(r:List Nat)(a:Ending)(g:World):Prop:=
 match r.dropWhile lM with
 | []=>a=gU 4/\gQ d w g
 |b::e=>a=.returned (.int .u8 (b:Nat))/\Sc B d i f c j k s g e/\gQ d w g
theorem Gs(a:Sc B d i f c j k s w r) :
  Calls Tryz.prog 302 #[.pointer (some ⟨d,0,none⟩)] w (tK B d i f c j k s w r):=by
 have D:=a.c0;have E:=a.c1;have F:=a.fz 1;have t:=gv a.white;have m:=gv ((a.go (cT lM)).drew);have G:=a.le;have H:=a.len;have n:Hid (gQ d w (w.setCell ⟨d,1,none⟩ (.int .i64 (c.length-(r.dropWhile lM).length:Nat))).drew):=((gQ.refl d w).setCell _ _).drewN 1;clear a;unfold tK;generalize r.dropWhile lM=l at *;have I:c.length-l.length<=200000:=by omega
 generalize c.length-r.length=p at *;generalize c.length-l.length=J at *;cases l with
 |nil =>
  have e:=gv (Bg m.o);go_enter Tryz.func302,Tryz.ntmps302;go_wp2_with fail;go_region_with (go_at_call 188;refine t.o.mono ?_;rintro h g ⟨rfl,rfl⟩);all_goals (
   go_wp2_with fail;refine e.o.mono ?_;rintro h C ⟨rfl,A,rfl⟩;exact⟨rfl,rfl,n.o.drewN A⟩)
 |cons b K =>
  have e:=gv (zj m.o);go_enter Tryz.func302,Tryz.ntmps302;go_wp2_with fail;go_region_with (go_at_call 188;refine t.o.mono ?_;rintro h g ⟨rfl,rfl⟩);all_goals (
   go_wp2_with fail;refine e.o.mono ?_;rintro h C ⟨rfl,v,x⟩;go_wp2;go_ret;exact⟨rfl,v,n.o.trans x⟩)
theorem pairs_pad(a:List Nat)(n:a.length%2=1):iX (a++[0])=iX a:=by
 have m:∀(h:Nat) (a:List Nat),a.length=2*h+1->iX (a++[0])=iX a:=by
  intro h;induction h with
  |zero =>
   intro a e;match a,e with
   | [l],_=>rfl
  |succ h ih =>
   intro a e;match a,e with
   |l::b::a,e=>simp only[ag]at e;show iX (l::b::(a++[0]))=iX (l::b::a);simp only[iX];rw[ih a (by omega)]
 exact m (a.length/2) a (by omega)
end
section
variable{B bs cap:Nat}{ao:Option Addr}{d:List Nat}{s t y:Value}{w m:World}{r q:List Nat}
variable{A:World}{f:Value}{out:List Nat}
def Digs(a:List Nat):Prop:=∀b∈a,b<16
theorem Digs.snoc{b:List Nat}{c:Nat}(e:Digs b)(h:c<16):Digs (b++[c]):=by
 intro g a;rcases bH.1 a with a | a;·exact e g a
 ·rw[cc]at a;omega
theorem Digs.nth{a:List Nat}(e:Digs a)(b:Nat)(c:b<a.length):nth a b<16:=by
 have:Go.Proofs.YtgkljcmjnphpeaaGreatDoor.nth a b=a[b]:=by simp[Go.Proofs.YtgkljcmjnphpeaaGreatDoor.nth,c]
 rw[this];exact e _ (df c)
structure Jn(A:World)(bs:Nat)(w1:World)(D:List Nat)(dv:Value)(wr:World)(k:Nat)(f:Value):Prop where
 own:wr.ownsRow w1.heap.size 5 1 f k (((iX D).take k).map λx:Nat=>.int .u8 (x:Int))
 keep:Below w1.heap.size w1 wr
theorem DB:∀(e:Nat) (a:List Nat),a.length=2*e->(iX a).length=e
 |0,a,c=>by obtain rfl:a=[]:=cG (by omega);rfl
 |e+1,a,c=>by
  match a,c with
  |h::b::g,c=>simp only[ag]at c;simp only[iX,ag];rw[DB e g (by omega)]
theorem Dz:∀(k:Nat) (a:List Nat),2*k+1<a.length->nth (iX a) k=16*nth a (2*k)+nth a (2*k+1)
 |0,a,c=>by
  match a,c with
  |g::b::e,c=>rfl
 |k+1,a,c=>by
  match a,c with
  |g::b::e,c=>simp only[ag]at c;have:=Dz k e (by omega);show nth ((16*g+b)::iX e) (k+1)=_;rw[show nth ((16*g+b)::iX e) (k+1)=nth (iX e) k from rfl,this];rfl
theorem GH{l:List Nat}{k:Nat}(a:k<l.length):l.take (k+1)=l.take k++[nth l k]:=by rw[cP,show nth l k=l[k]by simp[nth,a]];simp[a]
theorem KS(bf:Sc B bs ao cap d s t y w r) :
  Calls Tryz.prog 253 #[.pointer (some ⟨bs,0,none⟩)] w (kg B bs ao cap d s t y tv (nQ r) w):=by
 obtain⟨i0,F,bi,bm,bn⟩:=bu Tryz.infoByte;have bc:=gv (Bu.start bf);have n:=gv (Gs bf);have dl:=bf.len;clear bf;obtain⟨L,hR⟩:∃L,nQ r=L:=⟨_,rfl⟩;rw[hR];obtain⟨M,bw⟩:∃M,ju r=M:=⟨_,rfl⟩;have Z:Hid (L=M.map λE=>(iX E.1,E.2)):=by unfold Hid;rw[<-hR,<-bw];rfl
 have ac:Hid (ju (r.dropWhile lM)=M):=by unfold Hid;rw[<-bw];exact(mN r).symm
 clear hR bw;unfold tK at n;cases x:r.dropWhile lM with
 |nil =>
  rw[x]at n ac;have W:Hid (L=none):=by unfold Hid;rw[Z.o,<-ac.o];rfl
  simp only[]at n;clear x;go_enter Tryz.func253,Tryz.ntmps253;go_wp2_with fail;refine n.o.mono ?_;rintro al w1 ⟨rfl,k1⟩;exact⟨rfl,kg.none_ W.o k1⟩
 |cons T t0 =>
  have U:=Av r T t0 x;have c4:T<256:=bc.o.sc.bytes T ((cT lM).subset (by rw[x];simp));have b3:=lx (p:=lM) r;rw[x]at n ac b3;simp only[]at n;clear x;go_enter Tryz.func253,Tryz.ntmps253;go_wp2_with fail;refine n.o.mono ?_;rintro al w1 ⟨rfl,h1,k1⟩;have ck:=gv (bc.o.step h1 k1 (by simp only[ag]at b3;omega));have z:0+(T::t0).length<=200000:=by have:=bc.o.few;simp only[aw]at this;omega
  clear h1 k1 n bc;go_wp2;go_loopw [3,4] (λbb I wr=>∃(b:Nat) (q out:List Nat),I=.int .u8 (b:Nat)/\lM b=false/\b<256/\out.length+(b::q).length<=200000/\Hid (Bu w B bs ao cap d s t y wr q bb out)/\Hid (Digs out)/\Hid (km out (ju (b::q))=M)) (λ_ _ wr=>d.length-posS bs wr)
  case atStart=>refine⟨T,t0,[],rfl,U,c4,by simpa using z,ck,(λE u=>(by cases u)),?_⟩;unfold Hid;rw[<-ac.o];cases ju (T::t0)<;>simp[km]
  clear ck ac U b3 z
  case round =>
   obtain⟨b,q,out,rfl,b9,dj,z,e,K,S⟩:=hrel;have co:=gv e.o.sc.posS;by_cases a0:b=62
   ·have bt:Hid (M=some (out,q)):=by unfold Hid;rw[<-S.o,a0];simp[ju,show lM 62=false from rfl,km]
    clear S b9 co;have c1:((b:Int) != 62)=false:=by rw[a0];rfl
    clear a0;by_cases b6:out.length%2=1
    ·have cr:((out.length:Int)).tmod 2=1:=by rw[fE (by omega)];omega
     obtain⟨ua,uc,dd⟩:=i_ e.o.own;subst dd;have db:=e.o.sz;simp only[ag]at z;go_wp2_with (at_builtin;refine aK _ rfl (.tmp 22) (.tmp 23) 23 rfl w.heap.size 5 i0 (.int .u8 0) 1 1 aq F bi bm bn rfl (by decide) (.slice ua out.length uc) out.length _ rfl (e.o.alloc _).own ⟨wr.heap.size,0,none⟩ 1 1 ([0].map λE:Nat=>.int .u8 (E:Int)) rfl rfl (Bu.one_news 0 wr) ?hone ?h63 ?hby ?hbs ?_)
     case hone=>intro bb C;simp at C;subst C;rfl
     case h63=>unfold maxLen;omega
     case hby=>omega
     case hbs=>simp;omega
     intro v6 j ba a5 _;have cl:=gv ((e.o.alloc _).app (xs:=[0]) (by simp) ba a5 (by simp only[ag,aw];omega));clear ba a5;have br:Hid (L=some (iX (out++[0]),q)):=by unfold Hid;rw[Z.o,bt.o,pairs_pad out b6];rfl
     have bq:Hid ((out++[0]).length%2=0):=by unfold Hid;rw[ab];simp;omega
     have cm:Hid (Digs (out++[0])):=K.o.snoc (by omega);have b4:(out++[0]).length<=200001:=by rw[ab];simp;omega
     clear e K bt cr b6 z;have e:=cl;have K:=cm;clear cl cm;have X:Hid (Jn w bs j (out++[0]) v6 j 0 (.slice none 0 0)):=⟨bk _ _ _ _,aj _ _⟩;have V:Hid (∀h,h<(out++[0]).length->∃g H,v6=.slice (some ⟨g,0,none⟩) (out++[0]).length H/\g<j.heap.size/\j.cell? ⟨g,h,none⟩=some (.int .u8 (nth (out++[0]) h:Nat))):=λh F=>by
      obtain⟨g,H,D,Q⟩:=ut e.o.own (by omega);refine⟨g,H,D,?_,?_⟩
      ·have:=e.o.own;rw[D]at this;exact(this.lt g rfl).2
      ·have:=e.o.own;rw[D]at this;have u:=this.cells (g:=g) rfl h (.int .u8 (nth (out++[0]) h:Nat)) (by rw[bj,ai F];simp[nth,ai F]);rw[aa]at u;exact u
     have c2:(out++[0]).length<=200001:=b4;obtain⟨da,dc,bx⟩:=i_ e.o.own;generalize a1:(out++[0])=c at *;have cs:=gv a1;clear a1;subst bx;have c6:c.length%2=0:=bq.o;have N:=gv (DB (c.length/2) c (by omega));go_wp2;go_loopw [5,6] (λf h wr=>∃k a:Nat,2*k<=c.length/\Hid (a=2*k)/\h=.int .i64 (a:Nat)/\Hid (Jn w bs j c (.slice da c.length dc) wr k f)) (λ_ h _=>c.length-(intOf h).toNat)
     case atStart=>exact⟨0,0,by omega,gv rfl,rfl,X⟩
     clear X
     case round =>
      obtain⟨k,a,hk,G,rfl,i⟩:=hrel;have R:=G.o;by_cases a6:a<c.length
      ·have b5:(a:Int)<(c.length:Int):=by omega
       obtain⟨g,H,D,Q,a2⟩:=V.o a a6;obtain⟨g',c',b7,_,a3⟩:=V.o (a+1) (by omega);cases D;cases b7;have d0:=(i.o.keep.cell (p:=⟨g,a,none⟩) Q).trans a2;have d1:=(i.o.keep.cell (p:=⟨g,a+1,none⟩) Q).trans a3;have ha:=K.o.nth a a6;have P:=K.o.nth (a+1) (by omega);have Y:Hid (nth (iX c) k=16*nth c a+nth c (a+1)):=by unfold Hid;rw[R];exact Dz k c (by omega)
       clear a2 a3;generalize nth c a=p at *;generalize nth c (a+1)=b at *;have a7:bits BinOp.or IntKind.u8 ((p:Int)*16) (b:Int)=((16*p+b:Nat):Int):=by have:=u8_or_nat (p*16) b (by omega) (by omega);rw[rW p b ha P]at this;simp only[fi,Int.natCast_add]at this ⊢;rw[show((16:Nat):Int)=16 from rfl]at this ⊢;rw[this];omega
       obtain⟨J,a9⟩:∃J,16*p+b=J:=⟨_,rfl⟩;rw[a9]at a7 Y;clear a9;have c7:2*k+1<c.length:=by omega
       have b2:=i.o.keep.size;have c3:(a:Int)+1<(c.length:Int):=by omega
       have b8:IntKind.u8.wrap ((p:Int)*16)=(p:Int)*16:=by rw[fj];omega
       have cd:IntKind.i64.wrap ((a:Int)+1)=(a:Int)+1:=by rw[bP];omega
       have cg:((a:Int)+1).toNat=a+1:=by omega
       have U:(0:Int)<=(a:Int)+1:=by omega
       have c8:(a:Int)<=200001:=by omega
       have c9:k<=200001:=by omega
       clear R;go_wp2_with fail;go_region_law (refine Ab rfl (.tmp 31) (.tmp 43) 23 rfl j.heap.size 5 i0 (.int .u8 0) 1 1 aq F bi bm bn rfl (by decide) u5 k _ rfl (fg (i.o.own.alloc _)) ⟨wr.heap.size,0,none⟩ 1 1 ([J].map λE:Nat=>.int .u8 (E:Int)) rfl rfl ?hnews ?hone ?h63 ?hby ?hb ?_;(case hnews=>exact Bu.one_news J wr);(case hone=>intro bb C;simp at C;subst C;rfl);(case h63=>unfold maxLen;omega);(case hby=>omega);(case hb=>simp;omega);intro v' w8 a8 v _);all_goals (
        have H8:Hid (Jn w bs j c (.slice (some ⟨g,0,none⟩) c.length dc) w8 (k+1) v'):=by refine⟨?_,(((i.o.keep.alloc b2 _).drew).trans ⟨v.os,v.tape,v.output,v.size,λch hj=>v.block ch (by simp;omega) (Ck i.o.own hj)⟩)⟩;rw[GH (by rw[N.o];have:=G.o;omega),aH,Y.o];exact a8
        clear a8 v;go_wp2)
       all_goals go_roundw
       all_goals first | exact⟨k+1,a+2,by have:=G.o;omega,by have:=G.o;unfold Hid;omega,by go_num,H8⟩ | (clear cg cd b8 U a7;simp[intOf];omega)
      ·have b5:¬ (a:Int)<(c.length:Int):=by omega
       have bz:k=c.length/2:=by omega
       clear R;have a4:=Ac (l:=(iX c).take k) (by have:=i.o.own;rw[ax,N.o,<-bz,Nat.min_self];exact this);have bv:Hid ((iX c).take k=iX c):=by unfold Hid;rw[aY (by rw[N.o];omega)]
       rw[bv.o]at a4;obtain⟨ad,O⟩:∃ad,gC (iX c)=ad:=⟨_,rfl⟩;rw[O]at a4;have HS:=gv O;clear O;go_wp2;go_ret;refine kg.some_ br.o (by rw[tv,HS.o];rfl) (e.o.sc.other i.o.keep) (e.o.only.trans (.of_below i.o.keep))
    ·have cr:((out.length:Int)).tmod 2=0:=by rw[fE (by omega)];omega
     have br:Hid (L=some (iX out,q)):=by unfold Hid;rw[Z.o,bt.o];rfl
     have bq:Hid (out.length%2=0):=by unfold Hid;omega
     simp only[ag]at z;have b4:out.length<=200001:=by omega
     clear b6 z;obtain⟨j,di⟩:∃j,j=wr:=⟨_,rfl⟩;subst di;have X:Hid (Jn w bs j out u3 j 0 (.slice none 0 0)):=⟨bk _ _ _ _,aj _ _⟩;have V:Hid (∀h,h<out.length->∃g H,u3=.slice (some ⟨g,0,none⟩) out.length H/\g<j.heap.size/\j.cell? ⟨g,h,none⟩=some (.int .u8 (nth out h:Nat))):=λh F=>by
      obtain⟨g,H,D,Q⟩:=ut e.o.own (by omega);refine⟨g,H,D,?_,?_⟩
      ·have:=e.o.own;rw[D]at this;exact(this.lt g rfl).2
      ·have:=e.o.own;rw[D]at this;have u:=this.cells (g:=g) rfl h (.int .u8 (nth out h:Nat)) (by rw[bj,ai F];simp[nth,ai F]);rw[aa]at u;exact u
     have c2:out.length<=200001:=b4;obtain⟨da,dc,bx⟩:=i_ e.o.own;generalize a1:out=c at *;have cs:=gv a1;clear a1;subst bx;have c6:c.length%2=0:=bq.o;have N:=gv (DB (c.length/2) c (by omega));go_wp2;go_loopw [5,6] (λf h wr=>∃k a:Nat,2*k<=c.length/\Hid (a=2*k)/\h=.int .i64 (a:Nat)/\Hid (Jn w bs j c (.slice da c.length dc) wr k f)) (λ_ h _=>c.length-(intOf h).toNat)
     case atStart=>exact⟨0,0,by omega,gv rfl,rfl,X⟩
     clear X
     case round =>
      obtain⟨k,a,hk,G,rfl,i⟩:=hrel;have R:=G.o;by_cases a6:a<c.length
      ·have b5:(a:Int)<(c.length:Int):=by omega
       obtain⟨g,H,D,Q,a2⟩:=V.o a a6;obtain⟨g',c',b7,_,a3⟩:=V.o (a+1) (by omega);cases D;cases b7;have d0:=(i.o.keep.cell (p:=⟨g,a,none⟩) Q).trans a2;have d1:=(i.o.keep.cell (p:=⟨g,a+1,none⟩) Q).trans a3;have ha:=K.o.nth a a6;have P:=K.o.nth (a+1) (by omega);have Y:Hid (nth (iX c) k=16*nth c a+nth c (a+1)):=by unfold Hid;rw[R];exact Dz k c (by omega)
       clear a2 a3;generalize nth c a=p at *;generalize nth c (a+1)=b at *;have a7:bits BinOp.or IntKind.u8 ((p:Int)*16) (b:Int)=((16*p+b:Nat):Int):=by have:=u8_or_nat (p*16) b (by omega) (by omega);rw[rW p b ha P]at this;simp only[fi,Int.natCast_add]at this ⊢;rw[show((16:Nat):Int)=16 from rfl]at this ⊢;rw[this];omega
       obtain⟨J,a9⟩:∃J,16*p+b=J:=⟨_,rfl⟩;rw[a9]at a7 Y;clear a9;have c7:2*k+1<c.length:=by omega
       have b2:=i.o.keep.size;have c3:(a:Int)+1<(c.length:Int):=by omega
       have b8:IntKind.u8.wrap ((p:Int)*16)=(p:Int)*16:=by rw[fj];omega
       have cd:IntKind.i64.wrap ((a:Int)+1)=(a:Int)+1:=by rw[bP];omega
       have cg:((a:Int)+1).toNat=a+1:=by omega
       have U:(0:Int)<=(a:Int)+1:=by omega
       have c8:(a:Int)<=200001:=by omega
       have c9:k<=200001:=by omega
       clear R;go_wp2_with fail;go_region_law (refine Ab rfl (.tmp 31) (.tmp 43) 23 rfl j.heap.size 5 i0 (.int .u8 0) 1 1 aq F bi bm bn rfl (by decide) u5 k _ rfl (fg (i.o.own.alloc _)) ⟨wr.heap.size,0,none⟩ 1 1 ([J].map λE:Nat=>.int .u8 (E:Int)) rfl rfl ?hnews ?hone ?h63 ?hby ?hb ?_;(case hnews=>exact Bu.one_news J wr);(case hone=>intro bb C;simp at C;subst C;rfl);(case h63=>unfold maxLen;omega);(case hby=>omega);(case hb=>simp;omega);intro v' w8 a8 v _);all_goals (
        have H8:Hid (Jn w bs j c (.slice (some ⟨g,0,none⟩) c.length dc) w8 (k+1) v'):=by refine⟨?_,(((i.o.keep.alloc b2 _).drew).trans ⟨v.os,v.tape,v.output,v.size,λch hj=>v.block ch (by simp;omega) (Ck i.o.own hj)⟩)⟩;rw[GH (by rw[N.o];have:=G.o;omega),aH,Y.o];exact a8
        clear a8 v;go_wp2)
       all_goals go_roundw
       all_goals first | exact⟨k+1,a+2,by have:=G.o;omega,by have:=G.o;unfold Hid;omega,by go_num,H8⟩ | (clear cg cd b8 U a7;simp[intOf];omega)
      ·have b5:¬ (a:Int)<(c.length:Int):=by omega
       have bz:k=c.length/2:=by omega
       clear R;have a4:=Ac (l:=(iX c).take k) (by have:=i.o.own;rw[ax,N.o,<-bz,Nat.min_self];exact this);have bv:Hid ((iX c).take k=iX c):=by unfold Hid;rw[aY (by rw[N.o];omega)]
       rw[bv.o]at a4;obtain⟨ad,O⟩:∃ad,gC (iX c)=ad:=⟨_,rfl⟩;rw[O]at a4;have HS:=gv O;clear O;go_wp2;go_ret;refine kg.some_ br.o (by rw[tv,HS.o];rfl) (e.o.sc.other i.o.keep) (e.o.only.trans (.of_below i.o.keep))
   ·have c1:((b:Int) != 62)=true:=by simp;omega
    cases u:iQ b with
    |none =>
     have W:Hid (L=none):=by unfold Hid;rw[Z.o,<-S.o];simp[ju,b9,a0,u,km]
     have HX:=gv (DY b wr u);clear u S;go_wp2_with fail;refine HX.o.mono ?_;rintro al m ⟨rfl,rfl⟩;exact⟨rfl,kg.none_ W.o e.o.only⟩
    |some I =>
     have c0:Hid (km (out++[I]) (ju q)=M):=by unfold Hid;rw[<-S.o,<-xV];simp[ju,b9,a0,u]
     have HX:=gv (DZ b I wr u);have de:=yC u;clear u S;go_wp2_with fail;refine HX.o.mono ?_;rintro al m ⟨rfl,rfl⟩;have db:=e.o.sz;go_wp2_with (at_builtin;refine aK _ rfl (.tmp 13) (.tmp 16) 23 rfl w.heap.size 5 i0 (.int .u8 0) 1 1 aq F bi bm bn rfl (by decide) u3 out.length _ rfl (e.o.alloc _).own ⟨m.heap.size,0,none⟩ 1 1 ([I].map λE:Nat=>.int .u8 (E:Int)) rfl rfl (Bu.one_news I m) ?hone ?h63 ?hby ?hbs ?_)
     case hone=>intro bb C;simp at C;subst C;rfl
     case h63=>unfold maxLen;simp only[ag]at z;omega
     case hby=>simp only[ag]at z;omega
     case hbs=>simp;omega
     intro v6 j ba a5 _;have H6:=gv ((e.o.alloc _).app (xs:=[I]) (by simp) ba a5 (by simp only[ag,aw]at z ⊢;omega));clear ba a5;have n:=gv (Gs H6.o.sc);unfold tK at n;have bd:Hid (km (out++[I]) (ju (q.dropWhile lM))=M):=by unfold Hid;rw[<-mN];exact c0.o
     cases x:q.dropWhile lM with
     |nil =>
      rw[x]at n bd;simp only[]at n;have W:Hid (L=none):=by unfold Hid;rw[Z.o,<-bd.o];rfl
      clear x;go_wp2_with fail;refine n.o.mono ?_;rintro al w7 ⟨rfl,k7⟩;exact⟨rfl,kg.none_ W.o (H6.o.only.trans k7)⟩
     |cons b1 t1 =>
      have dg:=Av q b1 t1 x;have cp:=lx (p:=lM) q;have c5:b1<256:=e.o.sc.bytes b1 ((cT lM).subset (by rw[x];simp));rw[x]at n bd cp;simp only[]at n;clear x;go_wp2_with fail;refine n.o.mono ?_;rintro al w7 ⟨rfl,h7,k7⟩;simp only[ag]at cp z;have H7:=gv (H6.o.step h7 k7 (by omega));have cw:=gv h7.posS;have dn:=h7.le;have dk:=e.o.sc.le;clear h7 k7;go_wp2;go_roundw
      case rel=>exact⟨b1,t1,out++[I],rfl,dg,c5,by simp only[ab,ag,aw];omega,H7,K.o.snoc de,bd⟩
      case measure=>rw[co.o,cw.o];omega
end
end Go.Proofs.YtgkljcmjnphpeaaGreatDoor
