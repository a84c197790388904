import Derived.Test.YtgkljcmjnphpeaaGreatDoorK34
set_option linter.unusedVariables false
set_option linter.unusedSimpArgs false
set_option maxHeartbeats 4000000
set_option maxRecDepth 100000
namespace Go.Proofs.YtgkljcmjnphpeaaGreatDoor
open Go.RowKit
section
variable{w w':World}{B d:Nat}{r q:Value}{a j:List Nat}
theorem lD.low{f:Nat}(c:lD f w)(b:Below f w w'):lD f w':=by
 refine⟨⟨?_,?_,?_,c.err.ls,c.err.lr,c.err.lm⟩,?_,c.lp⟩
 ·obtain⟨g,e,h⟩:=c.err.syn;exact⟨g,by rw[b.cell (p:=⟨_,0,none⟩) c.err.ls];exact e,h⟩
 ·obtain⟨g,e,h⟩:=c.err.rng;exact⟨g,by rw[b.cell (p:=⟨_,0,none⟩) c.err.lr];exact e,h⟩
 ·obtain⟨i,e⟩:=c.err.mx;exact⟨i,by rw[b.cell (p:=⟨_,0,none⟩) c.err.lm];exact e⟩
 ·have:=c.pow;unfold Lib.TabIs World.var? at this ⊢;rw[Tryz.gPow]at this ⊢;simp only[Option.bind_some]at this ⊢;rw[b.block _ c.lp];exact this
theorem lD.outk{c:Nat}(g:lD c w)(h:c<=B)(f:iR B d w r q a j)(k:h_ B d w w'):lD c w':=by have b:Below B w w':=gD.below k.togD f.bw (λi e=>by simp at e;subst e;exact f.hb);exact g.low (b.mono h)
def kQ(c b:Nat):List Nat:=(jO (b+1) c).take ((jO (b+1) c).length-b)++(46::(jO (b+1) c).drop ((jO (b+1) c).length-b))++(if b=0 then[48]else[])
def jF(b:Int)(c:Nat):List Nat:=if b<0 then 45::kQ b.natAbs c else kQ b.toNat c
theorem nG(k n:Nat)(b:n<10^10)(c:k<=10):k<=(jO k n).length/\(jO k n).length<=10:=by unfold jO;have:=xo 9 n b;rw[ab,bW];omega
theorem vJ(b c:Nat)(e:b<10^10)(g:c<=5):(kQ b c).length<=12:=by unfold kQ;have f:=nG (c+1) b e (by omega);simp only[ab,ag,ax,aU];split<;>simp<;>omega
theorem LW{n:Nat}(he:lD n w)(hE:n<=w.heap.size)(a5:n<=B)(ac:iR B d w r q a j)(h:Int)(f:Nat)(br : -999999999<=h)(bs:h<=999999999)(hp:f<=5)(bn:a.length+40<=500000000) :
  Calls Tryz.prog 181 #[.pointer (some ⟨d,0,none⟩),.int .i64 h,.int .i64 (f:Int)] w λs w'=>s=.returned (.tuple #[])/\∃ba,iR B d w' ba q (a++jF h f) j/\h_ B d w w':=by
 obtain⟨i,hm⟩:∃i,h.natAbs=i:=⟨_,rfl⟩;have bq:i<=999999999:=by omega
 have a0:Hid (∀p,h_ B d w p->lD n p->n<=p.heap.size->Calls Tryz.prog 133 #[.int .i64 (i:Int),.int .i64 ((f+1:Nat):Int)] p λs w'=>∃e,s=.returned (.string e)/\bl e=jO (f+1) i/\Below p.heap.size p w'):=λp _ z h2=>Gd z h2 i (f+1) (by omega) (by omega);have F:=gv ac;have H:=gv (And.intro he hE);have b3:IntKind.i64.wrap ((f:Int)+1)=((f+1:Nat):Int):=by rw[bP];omega
 obtain⟨bi,bm⟩:=nG (f+1) i (by omega) (by omega);have W:Hid (∀e,bl e=jO (f+1) i->bl (e.extract 0 (e.size-f))++(46::bl (e.extract (e.size-f) e.size))++(if f=0 then[48]else[])=kQ i f):=λe c=>by
  have P:e.size=(jO (f+1) i).length:=by rw[<-c,nM]
  have e1:bl (e.extract 0 (e.size-f))=(bl e).take (e.size-f):=by have:=bp e 0 (e.size-f) (by omega);rw[b_,eB]at this;exact this
  rw[e1,E7,c,P];rfl
 have a3:Hid (jF h f=(if h<0 then[45]else[])++kQ i f):=by
  unfold Hid jF;by_cases m:h<0;·rw[aA m,aA m,hm];rfl
  ·rw[au m,au m,show h.toNat=i by omega];rfl
 generalize jF h f=N at *;generalize kQ i f=WA at *;generalize jO (f+1) i=a4 at *;clear he ac;go_enter Tryz.func181,Tryz.ntmps181
 go_upto_if 9 with fail
 go_cut [1]from 8 (λnv E=>∃(bf:Value),nv=.int .i64 (i:Int)/\Hid (iR B d E bf q (a++(if h<0 then[45]else[])) j)/\Hid (h_ B d w E)/\Hid (lD n E/\n<=E.heap.size))
 case first =>
  by_cases m:h<0
  ·have Q:decide (h<0)=true:=by simpa using m
   have U:=gv (ma F.o { data:=#[45] } (by show _+1<=_;omega));have bt:IntKind.i64.wrap (-h)=(i:Int):=by rw[bP];omega
   have bv : -h=(i:Int):=by omega
   have I:=gv m;clear m;rw[Q];go_wp2_with fail;refine U.o.mono ?_;rintro s t ⟨rfl,bb,z,C⟩;have G:=gv z;have M:=gv C;have ad:lD n t/\n<=t.heap.size:=⟨H.o.1.outk a5 F.o C,aD H.o.2 C.size⟩;have y:=gv ad;clear z C U ad;go_wp2
   go_meet
   case rel=>exact⟨bb,rfl,by rw[aA I.o];exact G.o,M.o,y.o⟩
  ·have Q:decide (h<0)=false:=by simpa using m
   have a6:h=(i:Int):=by omega
   have I:=gv m;clear m;rw[Q];go_wp2
   go_meet
   case rel=>exact⟨r,by rw[<-a6],by rw[au (by have:=I.o;omega),ct];exact F.o,h_.refl _ _ _,H.o⟩
 case rest =>
  obtain⟨v1,rfl,HH,T,y⟩:=hcut;have a1:=gv (a0.o wc T.o y.o.1 y.o.2);have b4:(a++(if h<0 then[45]else[])).length<=a.length+1:=by rw[ab];split<;>simp
  have X:Hid (a++N=(a++(if h<0 then[45]else[]))++WA):=by unfold Hid;rw[a3.o,ak]
  generalize a++(if h<0 then[45]else[])=D at *;go_wp2_with fail;refine a1.o.mono ?_;rintro s t ⟨e,rfl,c,O⟩;have G:=gv (HH.o.below O);have M:Hid (h_ B d w t):=T.o.trans (h_.of_below (b:=0) O);have K:=gv (W.o e c);have P:e.size=a4.length:=by rw[<-c,nM]
  obtain⟨l,a7⟩:∃l,e.size=l:=⟨_,rfl⟩;obtain⟨k,bz⟩:∃k,k+f=l:=⟨l-f,by omega⟩;have b2:IntKind.i64.wrap ((l:Int)-(f:Int))=(k:Int):=by rw[bP];omega
  have b0:(l:Int)-(f:Int)=(k:Int):=by omega
  have bw:k<=l:=by omega
  have bx:(k:Int)<=(l:Int):=by omega
  rw[a7,show l-f=k by omega]at K;have b5:l<=10:=by omega
  clear O W c P;go_wp2_with fail;have R:Hid (iR B d t.drew v1 q D j):=G.o.below (aj _ _).drew;have Y:Hid (h_ B d w t.drew):=M.o.trans (h_.of_below (b:=0) (aj _ _).drew);generalize ao:t.drew=w2 at R Y;have a2:=gv ao;clear ao;refine p7 (λ_ _=>True) (by kernel_rfl) ?_;rw[a2.o];intro g;have c:=gv (show True from trivial);refine ti 0 ?_ g c ?_;clear g c;intro g c;(try simp only[gB])
  refine ti 1 ?_ g c ?_;clear g c;intro g c;(try simp only[gB])
  refine ti 2 ?_ g c ?_;clear g c;intro g c;(try simp only[gB])
  refine ti 3 ?_ g c ?_;clear g c;intro g c;(try simp only[gB])
  refine ti 4 ?_ g c ?_;clear g c;intro g c;(try simp only[gB])
  refine ti 5 ?_ g c ?_;clear g c;intro g c;(try simp only[gB])
  refine ti 6 ?_ g c ?_;clear g c;intro g c;(try simp only[gB])
  refine on 7 g λL v=>?_;go_simp;refine v.o _ _ trivial (λu x=>?_);clear g c v L;have g:=u;have c:=x;clear u x
  (try simp only[gB])
  refine on 8 g λL v=>?_;go_simp;have a8:(e.extract 0 k).size<=10:=by rw[ByteArray.size_extract];omega
  have a9:(e.extract k l).size<=10:=by rw[ByteArray.size_extract];omega
  refine(vT R.o (e.extract 0 k) { data:=#[46] } (e.extract k l) (by show _+(_+(1+_))<=_;omega)).mono ?_;rintro s w3 ⟨rfl,bc,h3,k3⟩;have S:=gv h3;have Z:=gv (Y.o.trans k3);clear h3 k3 a8 a9;refine v.o _ _ trivial (λu x=>?_);clear g c v L;have g:=u;have c:=x;clear u x
  (try simp only[gB])
  refine mI (by kernel_rfl) ?_ _;clear g c;by_cases A:f=0
  ·have t1:((f:Int)==0)=true:=by simp;omega
   have al:(D++(bl (e.extract 0 k)++(bl { data:=#[46] }++bl (e.extract k l)))).length+1<=500000000:=by simp only[ab,nM,ByteArray.size_extract];show _+(_+(1+_))+1<=_;omega
   have V:=gv (ma S.o { data:=#[48] } al);have J:Hid (D++(bl (e.extract 0 k)++(bl { data:=#[46] }++bl (e.extract k l)))++bl { data:=#[48] }=a++N):=by unfold Hid;rw[X.o,<-K.o,aA A];simp[bl]
   clear A al;go_wp2_with fail;refine V.o.mono ?_;rintro s w4 ⟨rfl,bd,h4,k4⟩;have H4:=gv h4;have K4:=gv (Z.o.trans k4);clear h4 k4 V;go_wp2
   go_end0
   exact⟨rfl,bd,by rw[<-J.o];exact H4.o,K4.o⟩
  ·have t1:((f:Int)==0)=false:=by simp;omega
   have J:Hid (D++(bl (e.extract 0 k)++(bl { data:=#[46] }++bl (e.extract k l)))=a++N):=by unfold Hid;rw[X.o,<-K.o,au A];simp[bl]
   clear A;go_wp2
   go_end0
   exact⟨rfl,bc,by rw[<-J.o];exact S.o,Z.o⟩
def iC:List (List Nat)->List Nat
 | []=>[]
 |c::b=>c++b.flatMap λe=>32::e
theorem rz(b:List (List Nat))(c:List Nat):iC (b++[c])=iC b++((if b.length=0 then[]else[32])++c):=by
 cases b with
 |nil=>simp[iC]
 |cons e b=>simp[iC]
def iu:{k:Nat}->VT k->List Nat
 |0,_=>[]
 |k+1,b=>match gz.kind b with
  |0=>[110,117,108,108]
  |1=>if gz.n b=1 then[116,114,117,101]else[102,97,108,115,101]
  |2=>iE (gz.n b)
  |3=>jF (gz.n b) (gz.places b)
  |4=>ir (gz.text b)
  |5=>mq (gz.text b)
  |6=>91::(iC ((gz.items b).map λe=>iu (k:=k) e)++[93])
  |7=>60::60::(iC (((gz.keys b).zip (gz.items b)).map λc=>ir c.1++(32::iu (k:=k) c.2))++[62,62])
  |9=>iE (gz.n b)++[32,48,32,82]
  |_=>[]
def ii:{k:Nat}->VT k->Nat
 |0,_=>0
 |k+1,b=>100+4*(gz.text b).length+((gz.items b).map λe=>10+ii (k:=k) e).sum+((gz.keys b).map λc=>10+3*c.length).sum
def sI:{k:Nat}->VT k->Prop
 |0,_=>True
 |k+1,b=>(gz.kind b<=7\/gz.kind b=9)/\(-9223372036854775808<=gz.n b/\gz.n b<=9223372036854775807)/\(gz.kind b=3 -> -999999999<=gz.n b/\gz.n b<=999999999/\gz.places b<=5)/\(gz.kind b=7->(gz.keys b).length=(gz.items b).length)/\(∀c∈gz.text b,c<256)/\(∀e∈gz.keys b,∀c∈e,c<256)/\∀f∈gz.items b,sI (k:=k) f
theorem gR.outk{e:Nat->Prop}:∀(k:Nat) {s:Value} {V:VT k},gR e k w s V->iR B d w r q a j->h_ B d w w'->gR e k w' s V
 |0,_,_,i,_,_=>i
 |k+1,s,V,i,v,m=>by
  obtain⟨K,L,x,M,y,z,h3,A,C,D⟩:=i;have o:∀{c p n:Nat} {h:Value} {t:List Value},c ≠ 5->c ≠ 122->jr e w c p h n t->jr e w' c p h n t:=λ{c p n h t} E F g=>by
   have G:∀b,h.ownBlock=some b->b∉[d]:=λb f u=>by simp at u;subst u;obtain⟨_,P,Q,l⟩:=nR g.1 b f;rw[v.blk]at l;simp at l;exact F l.2.1.symm
   exact⟨zY g.1 m.togD E G,λb f=>⟨(g.2 b f).1,aC (g.2 b f).2 m.size⟩⟩
  exact⟨K,L,x,M,y,z,o (by decide) (by decide) h3,λJ N O H I=>gR.outk k (A J N O H I) v m,o (by decide) (by decide) C,o (by decide) (by decide) D⟩
theorem GK(c:iR B d w r q a j)(b:Nat)(x:b<=9223372036854775807)(v:a.length+1<=500000000) :
  Calls Tryz.prog 186 #[.pointer (some ⟨d,0,none⟩),.int .i64 (b:Int)] w λg w'=>g=.returned (.tuple #[])/\∃n,iR B d w' n q (a++(if b=0 then[]else[32])) j/\h_ B d w w':=by
 by_cases e:b=0
 ·rw[aA e,ct];have s:decide ((b:Int)>0)=false:=by simp;omega
  have t:decide (0<b)=false:=by simp;omega
  have u:¬ 0<b:=by omega
  have k:=gv c;clear c e;go_enter Tryz.func186,Tryz.ntmps186;go_wp2
  go_end0
  exact⟨rfl,r,k.o,h_.refl _ _ _⟩
 ·rw[au e];have s:decide ((b:Int)>0)=true:=by simp;omega
  have t:decide (0<b)=true:=by simp;omega
  have u:0<b:=by omega
  have f:=gv (ma c { data:=#[32] } (by show _+1<=_;omega));clear c e;go_enter Tryz.func186,Tryz.ntmps186;go_wp2_with fail;refine f.o.mono ?_;rintro g y ⟨rfl,p,h,i⟩;have l:=gv h;have m:=gv i;clear h i f;go_wp2
  go_end0
  exact⟨rfl,p,l.o,m.o⟩
theorem Fm(b:Bool)(w:World):Calls Tryz.prog 180 #[.bool b] w λc w'=>c=.returned (.string (if b=true then{ data:=#[116,114,117,101] } else{ data:=#[102,97,108,115,101] }))/\w'=w:=by
 cases b
 ·go_enter Tryz.func180,Tryz.ntmps180;go_wp2;go_ret;exact⟨rfl,rfl⟩
 ·go_enter Tryz.func180,Tryz.ntmps180;go_wp2;go_ret;exact⟨rfl,rfl⟩
end
theorem nK:∀a:List (List Nat),(iC a).length<=(a.map λb=>b.length+1).sum
 | []=>af _
 |b::a=>by
  have:∀a:List (List Nat),(a.flatMap λc=>32::c).length=(a.map λb=>b.length+1).sum:=λa=>by
   induction a with
   |nil=>rfl
   |cons d a ih=>rw[cH,ab,ih,bJ,ek];simp
  rw[iC,ab,this a,bJ,ek];omega
theorem oI{d:Type}{f g:d->Nat}:∀a:List d,(∀b∈a,f b<=g b)->(a.map f).sum<=(a.map g).sum
 | [],_=>af _
 |b::a,c=>by have i:=c b (aQ ..);have j:=oI a (λh e=>c h (aV _ e));rw[bJ,bJ,ek,ek];omega
theorem pY{d e:Type}{f:d->Nat}{g:e->Nat}:∀(a:List d) (b:List e),((a.zip b).map λc=>f c.1+g c.2).sum<=(a.map f).sum+(b.map g).sum
 | [],b=>by simp
 |h::a,[]=>by simp
 |h::a,i::b=>by have:=pY (f:=f) (g:=g) a b;simp only[List.zip_cons_cons,bJ,ek];omega
theorem jg{n:Int}(a : -9223372036854775808<=n)(b:n<=9223372036854775807):(iE n).length<=20:=by
 unfold iE;split
 ·have:=xo 18 n.natAbs (by omega);simp only[ag];omega
 ·have:=xo 18 n.toNat (by omega);omega
theorem mD(a:List Nat):(ir a).length<=3*a.length+1:=by
 unfold ir;induction a with
 |nil=>simp
 |cons b a ih=>have:=pR b;simp only[cH,ag,ab]at ih ⊢;omega
theorem zI(a:List Nat):(mq a).length<=4*a.length+2:=by
 unfold mq mF;have:∀a:List Nat,(a.flatMap jV).length<=4*a.length:=λa=>by
  induction a with
  |nil=>simp
  |cons b a ih=>have:=qm b;simp only[cH,ag,ab]at ih ⊢;omega
 have:=this a;simp only[ab,ag,aw];omega
theorem wY{a:Int}{b:Nat}(d : -999999999<=a)(e:a<=999999999)(c:b<=5):(jF a b).length<=13:=by
 unfold jF;split
 ·have:=vJ a.natAbs b (by omega) c;simp only[ag];omega
 ·have:=vJ a.toNat b (by omega) c;omega
theorem mA:∀{k:Nat} {a:VT k},sI a->(iu a).length<=ii a
 |0,a,_=>af _
 |k+1,a,m=>by
  obtain⟨r,e,h3,s,t,u,n⟩:=m;have x:((gz.items a).map λc=>(iu (k:=k) c).length+1).sum<=((gz.items a).map λc=>10+ii (k:=k) c).sum:=oI _ λc p=>by have:=mA (n c p);omega
  unfold iu ii;split;·simp;omega
  ·split<;>simp<;>omega
  ·have:=jg e.1 e.2;omega
  ·next o=>obtain⟨i,b,j⟩:=h3 o;have:=wY i b j;omega
  ·have:=mD (gz.text a);omega
  ·have:=zI (gz.text a);omega
  ·have:=nK ((gz.items a).map λc=>iu (k:=k) c);rw[dZ]at this;have l:((λh:List Nat=>h.length+1) ∘ λc=>iu (k:=k) c)=λc=>(iu (k:=k) c).length+1:=rfl;rw[l]at this;simp only[ag,ab,aw];omega
  ·have:=nK (((gz.keys a).zip (gz.items a)).map λd=>ir d.1++(32::iu (k:=k) d.2));rw[dZ]at this;have v:(((gz.keys a).zip (gz.items a)).map ((λh:List Nat=>h.length+1) ∘ λd=>ir d.1++(32::iu (k:=k) d.2))).sum<=(((gz.keys a).zip (gz.items a)).map λd=>(10+3*d.1.length)+((iu (k:=k) d.2).length+1)).sum:=oI _ λd y=>by have:=mD d.1;simp only[Function.comp,ab,ag];omega
   have w:=pY (f:=λq:List Nat=>10+3*q.length) (g:=λc=>(iu (k:=k) c).length+1) (gz.keys a) (gz.items a);simp only[ag,ab,aw];omega
  ·have:=jg e.1 e.2;simp only[ab,ag,aw];omega
  ·simp
section
variable{w r:World}{B d:Nat}{q p:Value}{a j:List Nat}
def lV(B d:Nat)(w:World)(p:Value)(a j c:List Nat)(b:Ending)(r:World):Prop:=b=.returned (.tuple #[])/\∃e,iR B d r e p (a++c) j/\h_ B d w r
def WO(k:Nat):Prop:=∀(B d b:Nat) (w:World) (q p:Value) (a j:List Nat) (e:Nat->Prop) (c:Value) (V:VT k),lD b w->b<=B->iR B d w q p a j->gR e k w c V->sI V->a.length+ii V<=500000000 ->
 Calls Tryz.prog 132 #[.pointer (some ⟨d,0,none⟩),c] w (lV B d w p a j (iu V))
theorem kK.outk{c:Nat->Prop}{k b:Nat}{e:List (VT k)}{m:Value}(o:kK c k b e w m)(l:iR B d w q p a j)(h:h_ B d w r):kK c k b e r m:=by obtain⟨z,f,s,h3⟩:=o;refine⟨z,zY f h.togD (by decide) (λn t i=>?_),s,λx y A u v=>gR.outk k (h3 x y A u v) l h⟩;simp at i;subst i;obtain⟨_,C,D,g⟩:=nR f n t;rw[l.blk]at g;simp at g
theorem wjoin_take{g:Type}(c:g->List Nat)(e:List g)(b:Nat)(f:g)(h:e[b]?=some f):iC ((e.take (b+1)).map c)=iC ((e.take b).map c)++((if b=0 then[]else[32])++c f):=by rw[cP,h,aH];show iC (_++[c f])=_;rw[rz,av,ax];have i:b<e.length:=(aX.1 h).1;rw[dx (by omega)]
theorem sum_take{h:Type}(g:h->Nat):∀(b:List h) (f:Nat) (c:h),b[f]?=some c->((b.take f).map g).sum+g c<=(b.map g).sum
 | [],f,c,e=>by simp at e
 |i::b,0,c,e=>by cases e;simp
 |i::b,f+1,c,e=>by have:=sum_take g b f c (by simpa using e);simp only[List.take_succ_cons,bJ,ek];omega
theorem LU{k Y:Nat}(ih:WO k){ad:Nat->Prop}{X:Value}{V:gz (VT k)}(he:lD Y w)(a5:Y<=B)(I:iR B d w q p a j)(hv:gR ad (k+1) w X V)(a9:sI (k:=k+1) V)(b4:a.length+ii (k:=k+1) V<=500000000) :
  Calls Tryz.prog 184 #[.pointer (some ⟨d,0,none⟩),X] w (lV B d w p a j (91::(iC (V.items.map λb=>iu b)++[93]))):=by
 obtain⟨L,M,N,O,G,H,rfl,ao,b2,b1⟩:=hv.split;have cr:V.items.length<=9223372036854775807:=by obtain⟨xs,C,J,_⟩:=ao;rw[<-J];exact yZ C
 have bn:=gv ao;have bs:=gv ih;have br:=gv he;have a1:Hid (∀b∈V.items,sI b):=a9.2.2.2.2.2.2;have ac:Hid (a.length+100+(V.items.map λb=>10+ii b).sum<=500000000):=by unfold Hid;have:ii (k:=k+1) V=100+4*V.text.length+(V.items.map λb=>10+ii b).sum+(V.keys.map λcm=>10+3*cm.length).sum:=rfl;omega
 have bw:Hid (∀c,(iC ((V.items.take c).map λb=>iu b)).length<=((V.items.take c).map λb=>10+ii b).sum):=λc=>by have C:=nK ((V.items.take c).map λb=>iu b);rw[dZ]at C;refine aD C (oI _ λb D=>?_);have:=mA (a1.o b (cK D));simp only[Function.comp];omega
 generalize a8:V.items.length=E at *;have HN:=gv a8;clear hv a9 b4 ao b2 b1 ih he a8;generalize (V.kind:Int)=P at *;generalize V.n=T at *;generalize (V.places:Int)=U at *;generalize gC V.text=W at *;generalize V.keys.length=S at *;generalize V.filters.length=R at *;have b3:Below w.heap.size w (w.alloc (.cells #[.int .i64 P,.int .i64 T,.int .i64 U,.string W,.slice L E M,.slice N S O,.slice G R H] 67)):=(aj _ _).alloc (af _) _;have bb:(w.alloc (.cells #[.int .i64 P,.int .i64 T,.int .i64 U,.string W,.slice L E M,.slice N S O,.slice G R H] 67)).heap[w.heap.size]?=some (.cells #[.int .i64 P,.int .i64 T,.int .i64 U,.string W,.slice L E M,.slice N S O,.slice G R H] 67 (0,0)):=jd _ _;have C:=I.alloc (.cells #[.int .i64 P,.int .i64 T,.int .i64 U,.string W,.slice L E M,.slice N S O,.slice G R H] 67);have HP:=gv (ma C { data:=#[91] } (by have:=ac.o;show _+1<=_;omega));rw[bM]at HP;have bq:Hid (∀al,h_ B d w al->lD Y al):=λal k=>br.o.outk a5 I k;have bt:=gv I;go_enter Tryz.func184,Tryz.ntmps184;go_wp2_with fail;refine HP.o.mono ?_;rintro z w1 ⟨rfl,cg,a4,e⟩;have bc:w1.heap[w.heap.size]?=some (.cells #[.int .i64 P,.int .i64 T,.int .i64 U,.string W,.slice L E M,.slice N S O,.slice G R H] 67 (0,0)):=e.block _ _ (by simp;have:=I.lt;omega) bb (Or.inr λa3 fz z=>by cases z);have K1:Hid (h_ B d w w1):=((h_.refl B d w).alloc _).trans e;have H1:=gv a4;have c4:=pV bc;clear b3 bb C a4 e HP bc I;go_wp2_with fail;go_loopw [4,5,12] (λ_ _ iv wr=>∃(c:Nat) (X:Value),c<=E/\iv=.int .i64 (c:Int)/\Hid (iR B d wr X p (a++(91::iC ((V.items.take c).map λb=>iu b))) j)/\Hid (h_ B d w wr)) (λ_ _ iv _=>E-(intOf iv).toNat)
 case atStart=>exact⟨0,cg,aE _,rfl,H1.o,K1.o⟩
 case round =>
  obtain⟨c,X,K,rfl,F,Z⟩:=hrel;have ba:=bw.o c;rcases bN K with K | K
  ·subst K;have b7:V.items.take c=V.items:=aY (by rw[HN.o];exact af _);rw[b7]at F ba;have a7:(a++(91::iC (V.items.map λb=>iu b))).length+1<=500000000:=by have:=ac.o;simp only[ab,ag];omega
   have a2:=gv (ma F.o { data:=#[93] } a7);have bv:Hid (a++(91::iC (V.items.map λb=>iu b))++bl { data:=#[93] }=a++(91::(iC (V.items.map λb=>iu b)++[93]))):=by unfold Hid;simp[bl]
   go_wp2_with fail;refine a2.o.mono ?_;rintro z w9 ⟨rfl,cl,h9,k9⟩;have H9:=gv h9;have K9:=gv (Z.o.trans k9);clear h9 k9 a2;go_wp2
   go_end0
   exact⟨rfl,cl,by rw[<-bv.o];exact H9.o,K9.o⟩
  ·obtain⟨b,D⟩:∃b,V.items[c]?=some b:=⟨_,ai (by rw[HN.o];exact K)⟩;have b6:=sum_take (λb=>10+ii b) V.items c b D;have b8:=wjoin_take (λb=>iu b) V.items c b D;obtain⟨A,a3,cs,a6,_,_,hx,i⟩:=(bn.o.outk bt.o Z.o).at D;rw[HN.o]at a6;cases a6;have cd:=a1.o b (cB D);obtain⟨s,e,t,u,l,n,m,v,y,x,f,h,g,b9⟩:=gR.form hx;subst b9;have d0:wr.cell? ⟨A,c*7,none⟩=some (.int .i64 s):=i 0 _ rfl;have d1:wr.cell? ⟨A,c*7+1,none⟩=some (.int .i64 e):=i 1 _ rfl;have d2:wr.cell? ⟨A,c*7+2,none⟩=some (.int .i64 t):=i 2 _ rfl;have d3:wr.cell? ⟨A,c*7+3,none⟩=some (.string u):=i 3 _ rfl;have d4:wr.cell? ⟨A,c*7+4,none⟩=some (.slice l n m):=i 4 _ rfl;have d5:wr.cell? ⟨A,c*7+5,none⟩=some (.slice v y x):=i 5 _ rfl;have d6:wr.cell? ⟨A,c*7+6,none⟩=some (.slice f h g):=i 6 _ rfl;have a7:(a++(91::iC ((V.items.take c).map λb=>iu b))).length+1+ii b<=500000000:=by have:=ac.o;simp only[ab,ag];omega
   have J:=F.o.alloc (.cells #[.int .i64 s,.int .i64 e,.int .i64 t,.string u,.slice l n m,.slice v y x,.slice f h g] 67);have bm:h_ B d w (wr.alloc (.cells #[.int .i64 s,.int .i64 e,.int .i64 t,.string u,.slice l n m,.slice v y x,.slice f h g] 67)):=Z.o.alloc _;have bd:(wr.alloc (.cells #[.int .i64 s,.int .i64 e,.int .i64 t,.string u,.slice l n m,.slice v y x,.slice f h g] 67)).heap[wr.heap.size]?=some (.cells #[.int .i64 s,.int .i64 e,.int .i64 t,.string u,.slice l n m,.slice v y x,.slice f h g] 67 (0,0)):=jd _ _;have bi:gR ad k (wr.alloc (.cells #[.int .i64 s,.int .i64 e,.int .i64 t,.string u,.slice l n m,.slice v y x,.slice f h g] 67)) (.agg #[.int .i64 s,.int .i64 e,.int .i64 t,.string u,.slice l n m,.slice v y x,.slice f h g]) b:=gR.outk k hx F.o ((h_.refl B d wr).alloc _);have a0:=gv (GK J c (by omega) (by omega));have H2:=gv J;have K2:=gv bm;have bz:=gv bd;have b0:=gv bi;have bx:=gv b8;have b5:(a++(91::iC ((V.items.take c).map λb=>iu b))++(if c=0 then[]else[32])).length+ii b<=500000000:=by
    have co:(if c=0 then[]else[32]:List Nat).length<=1:=by split<;>simp
    rw[ab];omega
   clear hx i D J bm bd bi b6 ba;go_wp2_with fail;refine a0.o.mono ?_;rintro z w3 ⟨rfl,ch,h3,Q⟩;have cp:=H2.o.lt;have bf:w3.heap[wr.heap.size]?=some (.cells #[.int .i64 s,.int .i64 e,.int .i64 t,.string u,.slice l n m,.slice v y x,.slice f h g] 67 (0,0)):=Q.block _ _ (by simp;have:=F.o.lt;omega) bz.o (Or.inr λa3 fz z=>by cases z);have HV:=gv (bs.o B d Y w3 ch p _ j ad _ b (bq.o w3 (K2.o.trans Q)) a5 h3 (gR.outk k b0.o H2.o Q) cd b5);have K3:=gv (K2.o.trans Q);obtain⟨e0,e1,e2,e3,e4,e5,e6⟩:=oX bf;clear h3 Q bf a0;go_wp2_with fail;refine HV.o.mono ?_;rintro z w5 ⟨rfl,ck,h5,k5⟩;have H5:=gv h5;have K5:=gv (K3.o.trans k5);clear h5 k5 HV;go_wp2;go_roundw
   case rel =>
    have hr:a++(91::iC ((V.items.take (c+1)).map λb=>iu b))=a++(91::iC ((V.items.take c).map λb=>iu b))++(if c=0 then[]else[32])++iu b:=by rw[bx.o];simp
    exact⟨c+1,ck,by omega,by first | rfl | (congr 1),by rw[hr];exact H5.o,K5.o⟩
   case measure=>simp[intOf];omega
theorem Et{k ad:Nat}(ih:WO k){a4:Nat->Prop}{ac:Value}{V:gz (VT k)}(he:lD ad w)(bn:ad<=B)(M:iR B d w q p a j)(hv:gR a4 (k+1) w ac V)(a7:sI (k:=k+1) V)(a6:V.keys.length=V.items.length)(da:a.length+ii (k:=k+1) V<=500000000) :
  Calls Tryz.prog 134 #[.pointer (some ⟨d,0,none⟩),ac] w (lV B d w p a j (60::60::(iC ((V.keys.zip V.items).map λb=>ir b.1++(32::iu b.2))++[62,62]))):=by
 obtain⟨X,P,Y,Q,K,L,rfl,a5,bq,c6⟩:=hv.split;have ds:V.items.length<=9223372036854775807:=by obtain⟨xs,I,N,_⟩:=a5;rw[<-N];exact yZ I
 have b8:=gv a5;have ch:=gv ih;have cg:=gv he;have bb:Hid (∀f∈V.items,sI f):=a7.2.2.2.2.2.2;have al:=gv bq;have cl:Hid (∀e∈V.keys,∀b7∈e,b7<256):=a7.2.2.2.2.2.1;have a2:Hid (a.length+100+((V.keys.zip V.items).map λb=>(10+3*b.1.length)+(10+ii b.2)).sum<=500000000):=by unfold Hid;have:ii (k:=k+1) V=100+4*V.text.length+(V.items.map λf=>10+ii f).sum+(V.keys.map λe=>10+3*e.length).sum:=rfl;have hz:=pY (f:=λe:List Nat=>10+3*e.length) (g:=λf=>10+ii (k:=k) f) V.keys V.items;omega
 have co:Hid (∀c,(iC (((V.keys.zip V.items).take c).map λb=>ir b.1++(32::iu b.2))).length<=(((V.keys.zip V.items).take c).map λb=>(10+3*b.1.length)+(10+ii b.2)).sum):=λc=>by have I:=nK (((V.keys.zip V.items).take c).map λb=>ir b.1++(32::iu b.2));rw[dZ]at I;refine aD I (oI _ λf O=>?_);have N:=mA (bb.o f.2 (fW (cK O)).2);have h3:=mD f.1;simp only[Function.comp,ab,ag];omega
 have bi:Hid ((V.keys.zip V.items).length=V.items.length):=by unfold Hid;rw[fV,a6,Nat.min_self]
 rw[a6]at al ⊢;generalize bv:V.items.length=n at *;have HN:=gv bv;clear hv a7 da a5 bq c6 ih he bv a6;generalize (V.kind:Int)=R at *;generalize V.n=T at *;generalize (V.places:Int)=U at *;generalize gC V.text=W at *;generalize V.filters.length=S at *;have c7:Below w.heap.size w (w.alloc (.cells #[.int .i64 R,.int .i64 T,.int .i64 U,.string W,.slice X n P,.slice Y n Q,.slice K S L] 67)):=(aj _ _).alloc (af _) _;have bz:(w.alloc (.cells #[.int .i64 R,.int .i64 T,.int .i64 U,.string W,.slice X n P,.slice Y n Q,.slice K S L] 67)).heap[w.heap.size]?=some (.cells #[.int .i64 R,.int .i64 T,.int .i64 U,.string W,.slice X n P,.slice Y n Q,.slice K S L] 67 (0,0)):=jd _ _;have I:=M.alloc (.cells #[.int .i64 R,.int .i64 T,.int .i64 U,.string W,.slice X n P,.slice Y n Q,.slice K S L] 67);have HP:=gv (ma I { data:=#[60,60] } (by have:=a2.o;show _+2<=_;omega));rw[bM]at HP;have cd:Hid (∀H,h_ B d w H->lD ad H):=λH k=>cg.o.outk bn M k;have bc:=gv M;go_enter Tryz.func134,Tryz.ntmps134;go_wp2_with fail;refine HP.o.mono ?_;rintro g w1 ⟨rfl,dj,bm,h⟩;have a9:w1.heap[w.heap.size]?=some (.cells #[.int .i64 R,.int .i64 T,.int .i64 U,.string W,.slice X n P,.slice Y n Q,.slice K S L] 67 (0,0)):=h.block _ _ (by simp;have:=M.lt;omega) bz (Or.inr λJ fz g=>by cases g);have K1:Hid (h_ B d w w1):=((h_.refl B d w).alloc _).trans h;have H1:=gv bm;have c4:=pV a9;have cr:=gv a9;have dr:=M.lt;clear c7 bz I bm h HP a9 M;go_wp2_with fail;go_loopw [4,5,12] (λ_ _ iv wr=>∃(c:Nat) (ac:Value),c<=n/\iv=.int .i64 (c:Int)/\Hid (iR B d wr ac p (a++(60::60::iC (((V.keys.zip V.items).take c).map λb=>ir b.1++(32::iu b.2)))) j)/\Hid (h_ B d w1 wr)) (λ_ _ iv _=>n-(intOf iv).toNat)
 case atStart=>exact⟨0,dj,aE _,rfl,H1.o,h_.refl _ _ _⟩
 case round =>
  obtain⟨c,ac,E,rfl,G,HK⟩:=hrel;have bx:=co.o c;rcases bN E with E | E
  ·subst E;have dd:(V.keys.zip V.items).take c=V.keys.zip V.items:=aY (by rw[bi.o];exact af _);rw[dd]at G bx;have bt:(a++(60::60::iC ((V.keys.zip V.items).map λb=>ir b.1++(32::iu b.2)))).length+2<=500000000:=by have:=a2.o;simp only[ab,ag];omega
   have bd:=gv (ma G.o { data:=#[62,62] } bt);have cm:Hid (a++(60::60::iC ((V.keys.zip V.items).map λb=>ir b.1++(32::iu b.2)))++bl { data:=#[62,62] }=a++(60::60::(iC ((V.keys.zip V.items).map λb=>ir b.1++(32::iu b.2))++[62,62]))):=by unfold Hid;simp[bl]
   go_wp2_with fail;refine bd.o.mono ?_;rintro g w9 ⟨rfl,dn,h9,k9⟩;have H9:=gv h9;have K9:=gv (K1.o.trans (HK.o.trans k9));clear h9 k9 bd;go_wp2
   go_end0
   exact⟨rfl,dn,by rw[<-cm.o];exact H9.o,K9.o⟩
  ·obtain⟨f,O⟩:∃f,V.items[c]?=some f:=⟨_,ai (by rw[HN.o];exact E)⟩;obtain⟨e,hs⟩:∃e,V.keys[c]?=some e:=⟨_,ai (by have:=bi.o;rw[fV]at this;omega)⟩;have hz:(V.keys.zip V.items)[c]?=some (e,f):=by rw[fJ];exact⟨hs,O⟩
   have bw:=sum_take (λb:List Nat × VT k=>(10+3*b.1.length)+(10+ii b.2)) (V.keys.zip V.items) c (e,f) hz;simp only[]at bw;have de:=wjoin_take (λb:List Nat × VT k=>ir b.1++(32::iu b.2)) (V.keys.zip V.items) c (e,f) hz;have db:=cl.o e (cB hs);have a8:(V.keys.map λe=>Value.string (gC e))[c]?=some (.string (gC e)):=by rw[bj,hs];rfl
   obtain⟨gk,ck,c9,_⟩:=ro al.o a8;cases c9;have b9:Hid (∀H,h_ B d w H->H.cell? ⟨gk,c,none⟩=some (.string (gC e))):=λH kW=>by
    obtain⟨g',c',e',c8⟩:=ro (zY al.o kW.togD (by decide) (λi hg E=>by simp at E;subst E;obtain⟨_,J,c5,hc⟩:=nR al.o i hg;rw[bc.o.blk]at hc;simp at hc)) a8
    cases e';exact c8
   obtain⟨i,J,b7,bs,_,_,hx,F⟩:=(b8.o.outk bc.o (K1.o.trans HK.o)).at O;rw[HN.o]at bs;cases bs;have di:=bb.o f (cB O);obtain⟨x,h,y,z,t,v,u,A,D,C,l,s,m,dg⟩:=gR.form hx;subst dg;have d0:wr.cell? ⟨i,c*7,none⟩=some (.int .i64 x):=F 0 _ rfl;have d1:wr.cell? ⟨i,c*7+1,none⟩=some (.int .i64 h):=F 1 _ rfl;have d2:wr.cell? ⟨i,c*7+2,none⟩=some (.int .i64 y):=F 2 _ rfl;have d3:wr.cell? ⟨i,c*7+3,none⟩=some (.string z):=F 3 _ rfl;have d4:wr.cell? ⟨i,c*7+4,none⟩=some (.slice t v u):=F 4 _ rfl;have d5:wr.cell? ⟨i,c*7+5,none⟩=some (.slice A D C):=F 5 _ rfl;have d6:wr.cell? ⟨i,c*7+6,none⟩=some (.slice l s m):=F 6 _ rfl;have bt:(a++(60::60::iC (((V.keys.zip V.items).take c).map λb=>ir b.1++(32::iu b.2)))).length+1+(3*e.length+2)+ii f<=500000000:=by have:=a2.o;simp only[ab,ag];omega
   have N:=G.o.alloc (.cells #[.int .i64 x,.int .i64 h,.int .i64 y,.string z,.slice t v u,.slice A D C,.slice l s m] 67);have b6:h_ B d w1 (wr.alloc (.cells #[.int .i64 x,.int .i64 h,.int .i64 y,.string z,.slice t v u,.slice A D C,.slice l s m] 67)):=HK.o.alloc _;have b1:(wr.alloc (.cells #[.int .i64 x,.int .i64 h,.int .i64 y,.string z,.slice t v u,.slice A D C,.slice l s m] 67)).heap[wr.heap.size]?=some (.cells #[.int .i64 x,.int .i64 h,.int .i64 y,.string z,.slice t v u,.slice A D C,.slice l s m] 67 (0,0)):=jd _ _;have b5:gR a4 k (wr.alloc (.cells #[.int .i64 x,.int .i64 h,.int .i64 y,.string z,.slice t v u,.slice A D C,.slice l s m] 67)) (.agg #[.int .i64 x,.int .i64 h,.int .i64 y,.string z,.slice t v u,.slice A D C,.slice l s m]) f:=gR.outk k hx G.o ((h_.refl B d wr).alloc _);have ba:=gv (GK N c (by omega) (by omega));have H2:=gv N;have K2:=gv b6;have cs:=gv b1;have c1:=gv b5;have cp:=gv de;have dp:(if c=0 then[]else[32]:List Nat).length<=1:=by split<;>simp
   have dc:(gC e).size=e.length:=um e;have br:bl (gC e)=e:=wu e db;clear hx F O N b6 b1 b5 bw bx hs hz a8;go_wp2_with fail;refine ba.o.mono ?_;rintro g w3 ⟨rfl,dv,h3,a0⟩;have b2:w3.heap[wr.heap.size]?=some (.cells #[.int .i64 x,.int .i64 h,.int .i64 y,.string z,.slice t v u,.slice A D C,.slice l s m] 67 (0,0)):=a0.block _ _ (by simp;have:=G.o.lt;omega) cs.o (Or.inr λJ fz g=>by cases g);have ao:h_ B d w1 w3:=K2.o.trans a0;have b0:w3.heap[w.heap.size]?=some (.cells #[.int .i64 R,.int .i64 T,.int .i64 U,.string W,.slice (some ⟨i,0,none⟩) n P,.slice (some ⟨gk,0,none⟩) n Q,.slice K S L] 67 (0,0)):=ao.block _ _ (by simp;omega) cr.o (Or.inr λJ fz g=>by cases g);have q5:=rj b0;have qk:w3.cell? ⟨gk,c,none⟩=some (.string (gC e)):=b9.o w3 (K1.o.trans ao);have a3:=gv (GJ h3 (gC e) (by rw[ab,dc];omega));rw[br]at a3;have cw:=gv b2;have c2:=gv (gR.outk k c1.o H2.o a0);have H3:=gv h3;have K3:=gv ao;clear h3 a0 b2 ao b0 ba br;generalize gC e=ss at *;go_wp2_with fail;refine a3.o.mono ?_;rintro g w4 ⟨rfl,dw,h4,a1⟩;have b3:w4.heap[wr.heap.size]?=some (.cells #[.int .i64 x,.int .i64 h,.int .i64 y,.string z,.slice t v u,.slice A D C,.slice l s m] 67 (0,0)):=a1.block _ _ (by simp;have:=G.o.lt;omega) cw.o (Or.inr λJ fz g=>by cases g);have bf:=gv (ma h4 { data:=#[32] } (by have:=mD e;rw[ab,ab];show _+1<=_;omega));have c0:=gv b3;have c3:=gv (gR.outk k c2.o H3.o a1);have H4:=gv h4;have K4:=gv (K3.o.trans a1);clear h4 a1 b3 a3;go_wp2_with fail;refine bf.o.mono ?_;rintro g w6 ⟨rfl,dk,h6,Z⟩;have b4:w6.heap[wr.heap.size]?=some (.cells #[.int .i64 x,.int .i64 h,.int .i64 y,.string z,.slice t v u,.slice A D C,.slice l s m] 67 (0,0)):=Z.block _ _ (by simp;have:=G.o.lt;omega) c0.o (Or.inr λJ fz g=>by cases g);have HV:=gv (ch.o B d ad w6 dk p _ j a4 _ f (cd.o w6 (K1.o.trans (K4.o.trans Z))) bn h6 (gR.outk k c3.o H4.o Z) di (by have:=mD e;rw[ab,ab,ab,nM];show _+_+_+1+_<=_;omega));have K6:=gv (K4.o.trans Z);obtain⟨e0,e1,e2,e3,e4,e5,e6⟩:=oX b4;clear h6 Z b4 bf;go_wp2_with fail;refine HV.o.mono ?_;rintro g w7 ⟨rfl,dl,h7,k7⟩;have H7:=gv h7;have K7:=gv (K6.o.trans k7);clear h7 k7 HV;go_wp2;go_roundw
   case rel =>
    have hr:a++(60::60::iC (((V.keys.zip V.items).take (c+1)).map λb=>ir b.1++(32::iu b.2)))=a++(60::60::iC (((V.keys.zip V.items).take c).map λb=>ir b.1++(32::iu b.2)))++(if c=0 then[]else[32])++ir e++bl { data:=#[32] }++iu f:=by rw[cp.o];simp[bl]
    exact⟨c+1,dl,by omega,by first | rfl | (congr 1),by rw[hr];exact H7.o,K7.o⟩
   case measure=>simp[intOf];omega
end
end Go.Proofs.YtgkljcmjnphpeaaGreatDoor
