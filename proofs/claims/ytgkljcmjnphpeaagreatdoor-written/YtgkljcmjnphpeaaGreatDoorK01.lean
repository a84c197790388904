import Derived.Test.YtgkljcmjnphpeaaGreatDoorK00
import Derived.Deep.RegionLaw
import Derived.Deep.AppendSrc
import Derived.StillTailTactics
set_option linter.unusedVariables false
set_option linter.unusedSimpArgs false
set_option maxHeartbeats 1000000
set_option maxRecDepth 100000
namespace Go
section
theorem Ab{n:Program}{e:World}{z:Array Oper}{d:Oper}{c:Act}{w:Act->World->Prop}{B:Exit->Act->World->Prop}{A:Prop}(I:d.guard=none)(q t:Operand)(l:TypeId)
  (M:d.op=.call { callee:=.builtin .append,args:=#[q,t],argTypes:=#[l,l] })
  (k:Nat) (f:TypeId) (g:TypeInfo) (v:Value) (b p:Nat) (R:n.underlying l=some (.slice f)) (J:n.info? f=some g) (U:g.zero=some v)
  (P:g.size=b) (G:g.bytes=p) (V:v.cells.size=b) (Q:0<b)
  (j:Value) (h:Nat) (u:List Value) (O:c.eval q=j) (N:e.ownsRow k f b j h u)
  (o:Addr) (a x:Nat) (i:List Value) (T:c.eval t=.slice (some o) a x) (K:i.length=a*b) (L:∀y m,i[y]?=some m->e.cell? (o.add y)=some m) (D:∀m∈i,m.oneCell'=true)
  (E:h+a<=maxLen) (H:(h+a)*p<=140737488355328) (F:k<=e.heap.size)
  (C:∀r s,s.ownsRow k f b r (h+a) (u++i)->e.grownBy s j.ownBlock->(r=.slice none 0 0↔j=.slice none 0 0/\a=0)->w (c.put d.dst r) s) :
  if Region.wanted d (yielded z c.tmps)=true then Oper.wp n d c e w B else A:=by
 have S:Region.wanted d (yielded z c.tmps)=true:=by simp[Region.wanted,I]
 rw[aA S];exact wp_append_own e q t l M k f g v b p R J U P G V Q j h u O N o a x i T K L D E H F C
section
variable{P:Program}{w:World}
theorem aa(g j:Nat):(⟨g,0,none⟩:Addr).add j=⟨g,j,none⟩:=by unfold Addr.add;split<;>simp_all
theorem J_(q:Nat)(j t h:TypeId)(f:TypeInfo)(v:Value)(i x:Nat)(B:P.underlying j=some (.slice h))(y:P.info? h=some f)(M:f.zero=some v)
  (L:f.size=i) (H:f.bytes=x) (W:v.cells.size=i) (U:0<i)
  (a c n:Nat) (l:List Value) (o:w.ownsRow q h i (.slice (some ⟨a,0,none⟩) c n) c l)
  (m:Addr) (e r:Nat) (g:List Value) (s:g.length=e*i) (z:∀d b,g[d]?=some b->w.cell? (m.add d)=some b) (E:∀b∈g,b.oneCell'=true)
  (G:c+e<=maxLen) (I:(c+e)*x<=140737488355328) (O:q<=w.heap.size) :
  ∃u k,(Builtin.append_ #[j,j] t #[.slice (some ⟨a,0,none⟩) c n,.slice (some m) e r]).run P w=.ok u k/\k.ownsRow q h i u (c+e) (l++g)/\w.grownBy k (some a) /\
   (∀d b,l[d]?=some b->k.cell? ⟨a,d,none⟩=some b):=by
 obtain⟨u,k,A,F,h3,_⟩:=run_append_own (P:=P) w q j t h f v i x B y M L H W U _ c l o m e r g s z E G I O;refine⟨u,k,A,F,h3,?_⟩;have Z:c+e<=9223372036854775807:=by simp only[maxLen]at G;omega
 have T:a<w.heap.size:=(o.lt a rfl).2;subst L;rcases o.2 with⟨N,_⟩ | ⟨Y,X,D,V,_,S,_,_,Q,_⟩;·cases N
 cases V;intro d b C;by_cases K:c+e<=n
 ·have R:c*f.size+g.length<=D.size:=by rw[s,Q,<-Nat.add_mul];exact cM _ K
  have p:=run_append_room (P:=P) w j t h f B y a c n D S m e r g s z E K R;rw[A]at p;injection p with e1 e2;subst e1;have:=F.cells (g:=a) rfl d b (by rw[aI (aX.1 C).1];exact C)
  rwa [aa]at this
 ·subst H;have J:∀d b,l[d]?=some b->w.cell? ((⟨a,0,none⟩:Addr).add d)=some b:=o.cells (g:=a) rfl;have p:=run_append_grow (P:=P) w j t h f v B y M ⟨a,0,none⟩ c n l o.1 J m e r g s z (by omega) (by omega) (eV (by omega) I);rw[A]at p;injection p with e1 e2;subst e2;rw[World.cell?_alloc_lt _ _ _ (by show a<w.drew.heap.size;simpa using T)];have:=J d b C
  rwa [aa]at this
theorem KV{x:Array Oper}{b:Oper}{e:Act}{u:Act->World->Prop}{B:Exit->Act->World->Prop}{A:Prop}(K:b.guard=none)(y z:Operand)(n:TypeId)
  (O:b.op=.call { callee:=.builtin .append,args:=#[y,z],argTypes:=#[n,n] })
  (m:Nat) (h:TypeId) (j:TypeInfo) (t:Value) (c r:Nat) (V:P.underlying n=some (.slice h)) (L:P.info? h=some j) (Y:j.zero=some t)
  (T:j.size=c) (I:j.bytes=r) (Z:t.cells.size=c) (U:0<c)
  (i a s:Nat) (p:List Value) (S:e.eval y=.slice (some ⟨i,0,none⟩) a s) (Q:w.ownsRow m h c (.slice (some ⟨i,0,none⟩) a s) a p)
  (q:Addr) (f v:Nat) (l:List Value) (X:e.eval z=.slice (some q) f v) (M:l.length=f*c) (N:∀k d,l[k]?=some d->w.cell? (q.add k)=some d) (D:∀d∈l,d.oneCell'=true)
  (G:a+f<=maxLen) (J:(a+f)*r<=140737488355328) (H:m<=w.heap.size)
  (C:∀o g,g.ownsRow m h c o (a+f) (p++l)->w.grownBy g (some i)->(∀k d,p[k]?=some d->g.cell? ⟨i,k,none⟩=some d)->u (e.put b.dst o) g) :
  if Region.wanted b (yielded x e.tmps)=true then Oper.wp P b e w u B else A:=by
 have W:Region.wanted b (yielded x e.tmps)=true:=by simp[Region.wanted,K]
 rw[aA W];obtain⟨o,g,R,E,h3,F⟩:=J_ (P:=P) (w:=w) m n b.type h j t c r V L Y T I Z U i a s p Q q f v l M N D G J H;unfold Oper.wp execOp;simp only[O,resolve,invoke,builtin,Sem.run_bind,Sem.run_pure,eH,eR,bJ,dR,S,X,R];exact C o g E h3 F
end
end
section
open Go.RowKit
variable{P:Program}{w:World}
theorem DE(r:Nat)(o p x c:TypeId)(f:TypeInfo)(l:Value)(H:Nat)(D:P.underlying o=some (.slice c))(A:P.info? c=some f)(O:f.zero=some l)
  (v:f.size=1) (X:f.bytes=H) (ao:l.cells.size=1) (F:Value) (a:Nat) (h:List Value) (C:w.ownsRow r c 1 F a h)
  (q:Value) (b:Nat) (d:List Value) (u:Src P f.size p q b d w) (hm:0<b) (L:a+b<=maxLen) (M:(a+b)*H<=140737488355328) (V:r<=w.heap.size) :
  ∃S G,(Builtin.append_ #[o,p] x #[F,q]).run P w=.ok S G/\G.ownsRow r c 1 S (a+b) (h++d)/\w.grownBy G F.ownBlock:=by
 subst X;have hl:d.length=b:=by have:=u.newsLen;rw[v]at this;omega
 have E:h.length=a:=by have:=C.1;omega
 have a3:a+b<=9223372036854775807:=by simp only[maxLen]at L;omega
 have t:(h++d).length=(a+b)*1:=by rw[ab,E,hl];omega
 have K:∀(j:Nat),j<a+b->∀(Q:Option Nat),
   (w.drew.alloc (.cells ((h++d).toArray++Builtin.zeroCells l.cells (grownCap w (a+b) j c-(a+b))) c)).ownsRow r c 1
    (.slice (some ⟨w.heap.size,0,none⟩) (a+b) (grownCap w (a+b) j c)) (a+b) (h++d) /\
   w.grownBy (w.drew.alloc (.cells ((h++d).toArray++Builtin.zeroCells l.cells (grownCap w (a+b) j c-(a+b))) c)) Q:=by
  intro j ho Q;have Z:=grownCap_ge w (a+b) j c;have y:grownCap w (a+b) j c<=maxLen:=fY w (a+b) j c L;refine⟨⟨t,.inr ⟨w.heap.size,_,_,rfl,V,heap_alloc_new w.drew _,Z,y,?_,?_⟩⟩,⟨rfl,rfl,rfl,by simp,λk B _=>eQ w.drew _ k B⟩⟩
  ·simp only[Array.size_append,dS,size_zeroCells,ao,t];omega
  ·simp only[Array.toList_append];rw[<-t];exact List.take_left
 rcases C.2 with⟨rfl,rfl⟩ | ⟨e,i,J,rfl,W,z,a2,y,a0,al⟩
 ·obtain rfl:h=[]:=cG E;have n:=run_append_grow_src (P:=P) w o p x c f l D A O none 0 0 [] (run_firstCells_none w.drew f.size 0 0 0) q b d u (by omega) (by omega) (eV (by omega) M);have m:=K 0 (by omega) (Value.ownBlock (.slice none 0 0));exact⟨_,_,n,m.1,m.2⟩
 ·by_cases N:a+b<=i
  ·have a1:J.size=i:=by omega
   have ad:∀g,g<d.length->(w.cell? ⟨e,0+a*f.size+g,none⟩).isSome=true:=λg s=>by rw[cb z,v,aW (by omega)];rfl
   have n:=run_append_room_src (P:=P) w o p x c f D A e 0 a i q b d u N ad (λg s=>nP z);obtain⟨T,U,h2,h3⟩:=zh e c (0,0) d (0+a*f.size) w J z;refine⟨_,_,n,⟨t,.inr ⟨e,i,T,rfl,W,U,N,y,by omega,?_⟩⟩,⟨?_,?_,?_,by rw[Cq];exact af _,λk _ B=>xz e (λc=>B (by simp[Value.ownBlock,c])) d _ w⟩⟩
   ·apply List.ext_getElem?;intro g;have s:=h3 g;rw[v]at s;rw[cR];by_cases I:g<(a+b)*1
    ·rw[aA I,cY,s];by_cases c2:a<=g
     ·rw[aA ⟨by omega,by omega,by omega⟩,ar (by omega),E];congr 1;omega
     ·rw[au (by omega),aI (by omega),<-al,cR,aA (by omega),cY]
    ·rw[au I,List.getElem?_eq_none (by omega)]
   ·exact(vW e 0 (aE _) d _ w w (aj 0 w)).os
   ·exact(vW e 0 (aE _) d _ w w (aj 0 w)).tape
   ·exact(vW e 0 (aE _) d _ w w (aj 0 w)).output
  ·have ac:∀g R,h[g]?=some R->w.cell? ((⟨e,0,none⟩:Addr).add g)=some R:=C.cells (g:=e) rfl;have Y:=run_firstCells_some (P:=P) w.drew f.size a ⟨e,0,none⟩ a i h (by rw[v];omega) (by simpa using ac);have n:=run_append_grow_src (P:=P) w o p x c f l D A O (some ⟨e,0,none⟩) a i h Y q b d u (by omega) (by omega) (eV (by omega) M);have m:=K i (by omega) (Value.ownBlock (.slice (some ⟨e,0,none⟩) a i));exact⟨_,_,n,m.1,m.2⟩
theorem xP{s:Array Oper}{t:List Oper}{e:Oper}{g:Act}{r:Exit->Act->World->Prop}(D:e.guard=none)(u v:Operand)(m n:TypeId)
  (G:e.op=.call { callee:=.builtin .append,args:=#[u,v],argTypes:=#[m,n] })
  (h:Nat) (c:TypeId) (a:TypeInfo) (q:Value) (k:Nat) (L:P.underlying m=some (.slice c)) (E:P.info? c=some a) (O:a.zero=some q)
  (K:a.size=1) (B:a.bytes=k) (Q:q.cells.size=1) (i:Value) (d:Nat) (o:List Value) (M:g.eval u=i) (H:w.ownsRow h c 1 i d o)
  (p:Value) (b:Nat) (l:List Value) (N:g.eval v=p) (J:Src P a.size n p b l w) (F:0<b) (y:d+b<=maxLen) (C:(d+b)*k<=140737488355328) (A:h<=w.heap.size)
  (x:∀j f,f.ownsRow h c 1 j (d+b) (o++l)->w.grownBy f i.ownBlock->wpList P s r t (g.put e.dst j) f):wpList P s r (e::t) g w:=by
 refine fh D λT z=>?_;obtain⟨j,f,I,R,S⟩:=DE (P:=P) h m n e.type c a q k L E O K B Q i d o H p b l J F y C A;unfold Oper.wp;simp[execOp,G,resolve,invoke,builtin,M,N,I,Result.andThen];exact z _ _ (x j f R S)
end
section
open Go.RowKit
theorem Bz(a:Nat)(b:a<2^63):IntKind.i64.wrap (a:Int)=a:=by rw[bP];omega
theorem Cj(a:Nat)(b:a<2^63):(BitVec.ofInt 64 (a:Int)).toNat=a:=by rw[BitVec.ofInt_natCast,BitVec.toNat_ofNat];omega
theorem FO(a b:Nat)(c:a<2^63)(d:b<2^63):bits .or .i64 (a:Int) (b:Int)=((a ||| b:Nat):Int):=by show IntKind.i64.wrap ((BitVec.ofInt 64 (a:Int) ||| BitVec.ofInt 64 (b:Int)).toNat:Int)=_;rw[BitVec.toNat_or,Cj a c,Cj b d,Bz _ (Nat.or_lt_two_pow c d)]
theorem Je(a b:Nat)(c:a<2^63)(d:b<2^63):bits .and .i64 (a:Int) (b:Int)=((a &&& b:Nat):Int):=by show IntKind.i64.wrap ((BitVec.ofInt 64 (a:Int) &&& BitVec.ofInt 64 (b:Int)).toNat:Int)=_;rw[BitVec.toNat_and,Cj a c,Cj b d,Bz _ (dD Nat.and_le_left c)]
theorem A7(b c a:Nat)(d:b<2^a):b ||| c*2^a=b+c*2^a:=by rw[Nat.or_comm,dT,<-Nat.two_pow_add_eq_or_of_lt d,Nat.add_comm]
theorem GL(a:Nat)(b:a<2^63):wrap64 (a:Int)=a:=by unfold wrap64;omega
end
end Go
namespace Go.Proofs.YtgkljcmjnphpeaaGreatDoor
open Go.RowKit
def js(b:Nat):List Bool:=[b.testBit 0,b.testBit 1,b.testBit 2,b.testBit 3,b.testBit 4,b.testBit 5,b.testBit 6,b.testBit 7]
def gJ(a:List Nat):List Bool:=a.flatMap js
theorem yi(b:Nat):(js b).length=8:=rfl
theorem lk(b:Nat)(a:List Nat):gJ (b::a)=js b++gJ a:=by simp[gJ]
theorem i7(a b:List Nat):gJ (a++b)=gJ a++gJ b:=by simp[gJ]
theorem gM(a:List Nat):(gJ a).length=8*a.length:=by
 induction a with
 |nil=>rfl
 |cons b a ih=>rw[lk,ab,yi,ih,ag];omega
def kP:List Bool->Nat
 | []=>0
 |b::a=>b.toNat+2*kP a
def gw:Nat->Nat->List Bool
 |0,_=>[]
 |b+1,a=>(a%2==1)::gw b (a/2)
theorem gN(a b:Nat):(gw a b).length=a:=by
 induction a generalizing b with
 |zero=>rfl
 |succ a ih=>simp[gw,ih]
theorem pA(a b:Nat):kP (gw a b)=b%2^a:=by
 induction a generalizing b with
 |zero=>simp[gw,kP,Nat.mod_one]
 |succ a ih=>simp only[gw,kP,ih];rw[dG,dT (2^a) 2,Nat.mod_mul];rcases fG b with c | c<;>simp[c]
theorem nI(b:Nat)(a:b<256):kP (js b)=b:=by
 have:∀b:Fin 256,kP (js b.val)=b.val:=by decide +kernel
 exact this ⟨b,a⟩
theorem rQ(b:Nat):js b=gw 8 b:=by simp only[js,gw,Nat.testBit,Nat.shiftRight_succ,Nat.shiftRight_zero,Nat.one_and_eq_mod_two];simp[cX]
theorem qv(a:List Bool):kP a<2^a.length:=by
 induction a with
 |nil=>simp[kP]
 |cons b a ih=>simp only[kP,ag,dG];cases b<;>simp<;>omega
def li(c:List Nat)(a:Nat)(b:List Bool):Prop:=
 a<8/\b.length%8=a/\(∀d∈c,d<256)/\gJ c=b++List.replicate ((8-a)%8) false
theorem li.nil:li [] 0 []:=⟨by omega,rfl,by simp,rfl⟩
theorem li.bit0{d c}(e:li d 0 c)(b:Bool):li (d++[b.toNat]) 1 (c++[b]):=by
 obtain⟨_,h,h3,f⟩:=e;refine⟨by omega,by simp;omega,?_,?_⟩
 ·intro g a;rcases bH.1 a with a | a;·exact h3 g a
  ·simp at a;subst a;cases b<;>decide
 ·rw[i7,f];cases b<;>simp[gJ,js,List.replicate]<;>decide
theorem yn(d a:Nat)(b:Bool)(f:a<8):js (d ||| (b.toNat <<< a))=(js d).set a (d.testBit a||b):=by
 have e:∀c,(b.toNat).testBit c=(b&&decide (c=0)):=by intro c;cases b<;>cases c<;>simp[Nat.testBit_succ]
 simp only[js,Nat.testBit_or,Nat.testBit_shiftLeft,e];match a,f with
 |0,_=>simp
 |1,_=>simp
 |2,_=>simp
 |3,_=>simp
 |4,_=>simp
 |5,_=>simp
 |6,_=>simp
 |7,_=>simp
theorem yR(a b:Nat)(c:a<256)(d:b<256):a ||| b<256:=Nat.or_lt_two_pow (n:=8) c d
theorem li.bit{pre:List Nat}{f a:Nat}{e}(n:li (pre++[f]) a e)(p:0<a)(b:Bool):li (pre++[f ||| (b.toNat <<< a)]) ((a+1)%8) (e++[b]):=by
 obtain⟨j,s,h3,h⟩:=n;have k:=cq List.length h;rw[i7,ab,gM,ab,bW]at k;simp[gJ,js]at k;have o:e=gJ pre++e.drop (8*pre.length):=by have g:=cq (List.take (8*pre.length)) h;rw[i7,List.take_append_of_le_length (by rw[gM];omega),aY (by rw[gM];omega),List.take_append_of_le_length (by omega)]at g;rw[g,cI]
 have l:js f=e.drop (8*pre.length)++List.replicate (8-a) false:=by have g:=cq (List.drop (8*pre.length)) h;rw[i7,ed (by rw[gM]),List.drop_append_of_le_length (by omega),show(8-a)%8=8-a by omega]at g;simpa[gJ]using g
 have i:(e.drop (8*pre.length)).length=a:=by rw[aU];omega
 refine⟨by omega,by simp;omega,?_,?_⟩
 ·intro r d;rcases bH.1 d with d | d;·exact h3 r (List.mem_append_left _ d)
  ·simp at d;subst d;refine yR _ _ (h3 f (by simp)) ?_;have:b.toNat<=1:=by cases b<;>decide
   have t:2^a<=2^7:=cy (by omega) (by omega);rw[Nat.shiftLeft_eq];have u:b.toNat*2^a<=1*2^a:=cM _ this;omega
 ·rw[o,i7];generalize e.drop (8*pre.length)=v at *;have d:f.testBit a=false:=by
   have c:=cq (λq=>q[a]?) l;simp only[ar (Nat.le_of_eq i),i,dU]at c;match a,p,j with
   |1,_,_=>simpa[js]using c
   |2,_,_=>simpa[js]using c
   |3,_,_=>simpa[js]using c
   |4,_,_=>simpa[js]using c
   |5,_,_=>simpa[js]using c
   |6,_,_=>simpa[js]using c
   |7,_,_=>simpa[js]using c
  have:gJ [f ||| (b.toNat <<< a)]=js (f ||| (b.toNat <<< a)):=by simp[gJ]
  rw[this,yn _ _ _ j,l,d,ak,ak];congr 1;rw[ft _ _ (by omega),i,dU];have m:List.replicate (8-a) false=false::List.replicate (7-a) false:=by rw[show 8-a=(7-a)+1 by omega,fL]
  rw[m,show(8-(a+1)%8)%8=7-a by omega];simp
theorem li.align{b c a}(d:li b c a):li b 0 (a++List.replicate ((8-c)%8) false):=by obtain⟨f,g,h3,e⟩:=d;exact⟨by omega,by simp;omega,h3,by simp[e]⟩
theorem li.bytes{d c}(e:li d 0 c)(l:List Nat)(g:∀b∈l,b<256):li (d++l) 0 (c++gJ l):=by
 obtain⟨_,h,h3,f⟩:=e;refine⟨by omega,?_,?_,?_⟩;·rw[ab,gM];omega
 ·intro b a;rcases bH.1 a with a | a;·exact h3 b a
  ·exact g b a
 ·rw[i7,f];simp
def xm(a:List Nat):List Nat:=(List.range 16).map λk=>if k=0 then 0 else a.count k
def xH(a:List Nat):List Nat:=(List.range 16).flatMap λk=>if k=0 then[]else(List.range a.length).filter λb=>a.getD b 0==k
def kr(a c:List Nat):Nat->Nat->Nat->Nat->Nat->List Bool->Option (Nat × List Bool)
 |0,_,_,_,_,_=>none
 |_+1,_,_,_,_,[]=>none
 |k+1,len,code,first,place,b::r =>
  if 2*code+b.toNat<2*first+a.getD len 0 then some (c.getD (place+(2*code+b.toNat)-2*first) 0,r)
  else kr a c k (len+1) (2*code+b.toNat) (2*first+a.getD len 0) (place+a.getD len 0) r
def kj(a b:List Nat)(r:List Bool):Option (Nat × List Bool):=kr a b 15 1 0 0 0 r
theorem vo(c g:List Nat)(k len code first place:Nat)(r h:List Bool)(f:Nat)(e:List Bool)
  (a:kr c g k len code first place r=some (f,e)):kr c g k len code first place (r++h)=some (f,e++h):=by
 induction k generalizing len code first place r with
 |zero=>simp[kr]at a
 |succ k ih =>
  cases r with
  |nil=>simp[kr]at a
  |cons b r =>
   simp only[kr,cj]at a ⊢;by_cases d:2*code+b.toNat<2*first+c.getD len 0
   ·rw[aA d]at a ⊢;simp at a;simp[a.1,a.2]
   ·rw[au d]at a ⊢;exact ih _ _ _ _ _ a
def gX(b:Nat):Nat->List Bool
 |0=>[]
 |a+1=>(b >>> a%2==1)::gX b a
def xj(c:List Nat):List Nat->Nat->Nat->Nat->List (Nat × Nat × Nat)
 | [],_,_,_=>[]
 |a::d,len,gI,place=>((List.range a).map λb=>(c.getD (place+b) 0,2*gI+b,len))++xj c d (len+1) (2*gI+a) (place+a)
def s_(a b:List Nat):List (Nat × Nat × Nat):=xj b a.tail 1 0 0
def vE(b d:List Nat)(c:Nat):List (Nat × Nat):=(s_ b d).foldl (λe a=>e.set a.1 (a.2.1,a.2.2)) (List.replicate c (0,0))
def lI:List Nat:=List.replicate 144 8++List.replicate 112 9++List.replicate 24 7++List.replicate 8 8
def lH:List Nat:=List.replicate 32 5
def lG:List Nat:=xm lI
def kN:List Nat:=xH lI
def lF:List Nat:=xm lH
def kM:List Nat:=xH lH
def j5:List (Nat × Nat):=vE lG kN 288
def kX:List (Nat × Nat):=vE lF kM 32
def i6(b:List (Nat × Nat))(a:Nat):List Bool:=gX (b.getD a (0,0)).1 (b.getD a (0,0)).2
theorem yB:∀a:Fin 288,kj lG kN (i6 j5 a.val)=some (a.val,[]):=by decide +kernel
theorem Az:∀a:Fin 32,kj lF kM (i6 kX a.val)=some (a.val,[]):=by decide +kernel
theorem tA(a:Nat)(b:a<288)(r:List Bool):kj lG kN (i6 j5 a++r)=some (a,r):=by have:=vo _ _ _ _ _ _ _ _ r _ _ (yB ⟨a,b⟩);simpa[kj]using this
theorem zq(a:Nat)(b:a<32)(r:List Bool):kj lF kM (i6 kX a++r)=some (a,r):=by have:=vo _ _ _ _ _ _ _ _ r _ _ (Az ⟨a,b⟩);simpa[kj]using this
def gL(a:Nat):Nat × Nat:=
 if a=285 then(258,0)else if a-257<8 then(3+(a-257),0)else(3+(4+(a-257)%4)*2^((a-257)/4-1),(a-257)/4-1)
def gE(a:Nat):Nat × Nat:=if a<4 then(1+a,0)else(1+(2+a%2)*2^(a/2-1),a/2-1)
def iO(b:Nat->Nat × Nat)(c:Nat):Nat->Nat
 |0=>0
 |a+1=>if c<(b (a+1)).1 then iO b c a else a+1
def iW(a:Nat):Nat:=iO gL a 285
def gT(a:Nat):Nat:=iO gE a 29
theorem qe:∀a:Fin 256,257<=iW (a.val+3)/\iW (a.val+3)<=285/\(gL (iW (a.val+3))).1<=a.val+3/\a.val+3-(gL (iW (a.val+3))).1<2^(gL (iW (a.val+3))).2:=by decide +kernel
theorem wF(b:Nat->Nat × Nat)(c a:Nat):iO b c a<=a:=by
 induction a with
 |zero=>simp[iO]
 |succ a ih=>simp only[iO];split<;>omega
theorem wG(a:Nat->Nat × Nat)(c b:Nat)(d:(a 0).1<=c):(a (iO a c b)).1<=c:=by
 induction b with
 |zero=>simpa[iO]using d
 |succ b ih=>simp only[iO];split<;>first | exact ih | omega
theorem yE(b:Nat->Nat × Nat)(c a:Nat):iO b c a=a\/c<(b (iO b c a+1)).1:=by
 induction a with
 |zero=>simp[iO]
 |succ a ih =>
  simp only[iO];by_cases d:c<(b (a+1)).1
  ·rw[aA d];rcases ih with ih | ih;·right;rw[ih];exact d
   ·right;exact ih
  ·rw[au d];exact Or.inl rfl
theorem yu:∀a:Fin 30,(gE (a.val+1)).1=(gE a.val).1+2^(gE a.val).2:=by decide +kernel
theorem pK(a:Nat)(f:1<=a)(h:a<=32768):gT a<=29/\(gE (gT a)).1<=a/\a-(gE (gT a)).1<2^(gE (gT a)).2:=by
 have d:=wF gE a 29;have b:=wG gE a 29 (by simpa[gE]using f);have c:=yE gE a 29;have e:=yu ⟨gT a,by unfold gT;omega⟩;have g:a<(gE (gT a+1)).1:=by
  rcases c with c | c
  ·have:gT a=29:=c;rw[this];have:(gE (29+1)).1=32769:=by decide
   omega
  ·exact c
 simp only[]at e;exact⟨d,b,by unfold gT at *;omega⟩
def kJ(a:Nat)(r:List Bool):Option (Nat × List Bool):=if a<=r.length then some (kP (r.take a),r.drop a)else none
theorem vG(a b:Nat)(r:List Bool)(c:b<2^a):kJ a (gw a b++r)=some (b,r):=by unfold kJ;rw[aA (by simp[gN]),List.take_left' (gN a b),ed (gN a b),pA,ew c]
def jm(b:Nat):Nat->List Nat->List Nat
 |0,a=>a
 |c+1,a=>jm b c (a++[a.getD (a.length-b) 0])
theorem qV(c a:Nat)(b:List Nat):(jm c a b).length=b.length+a:=by
 induction a generalizing b with
 |zero=>rfl
 |succ a ih=>simp[jm,ih];omega
theorem rS(b a:Nat)(c:List Nat):jm b (a+1) c=jm b a c++[(jm b a c).getD ((jm b a c).length-b) 0]:=by
 induction a generalizing c with
 |zero=>rfl
 |succ a ih=>rw[jm,ih,jm]
structure j8 where
 cs:List Nat
 ss:List Nat
 cd:List Nat
 sd:List Nat
def ij:j8:=⟨lG,kN,lF,kM⟩
theorem nC:ij.cs=lG:=by simp only[ij]
theorem mC:ij.ss=kN:=by simp only[ij]
theorem oM:ij.cd=lF:=by simp only[ij]
theorem nD:ij.sd=kM:=by simp only[ij]
def jB(d:j8)(h f:Nat)(r:List Bool)(b:List Nat):Except Nat (Bool × List Bool × List Nat):=
 match kj d.cs d.ss r with
 |none=>.error 5
 |some (a,r) =>
  if a<256 then if b.length+1<=f then .ok (true,r,b++[a])else .error 6
  else if a=256 then .ok (false,r,b)
  else if 285<a then .error 5
  else match kJ (gL a).2 r with
   |none=>.error 5
   |some (g,r)=>match kj d.cd d.sd r with
    |none=>.error 5
    |some (c,r)=>if 29<c then .error 5 else match kJ (gE c).2 r with
     |none=>.error 5
     |some (e,r) =>
      if(gE c).1+e<=b.length/\(gE c).1+e<=h then
       if b.length+((gL a).1+g)<=f then .ok (true,r,jm ((gE c).1+e) ((gL a).1+g) b)else .error 6
      else .error 5
def uR(b:Nat):List Bool:=i6 j5 b
def kR(b a:Nat):List Bool:=
 i6 j5 (iW b)++(gw (gL (iW b)).2 (b-(gL (iW b)).1)++(i6 kX (gT a)++gw (gE (gT a)).2 (a-(gE (gT a)).1)))
theorem wK(b e c:Nat)(d:b<256)(r:List Bool)(a:List Nat):jB ij e c (uR b++r) a=if a.length+1<=c then .ok (true,r,a++[b])else .error 6:=by simp[jB,ij,uR,tA b (by omega) r,d]
theorem y_(b a f e:Nat)(h3:3<=b)(q:b<=258)(k:1<=a)(l:a<=32768)(r:List Bool)(c:List Nat)(m:a<=c.length)(n:a<=f) :
  jB ij f e (kR b a++r) c=if c.length+b<=e then .ok (true,r,jm a b c)else .error 6:=by
 obtain⟨g,h,i,d⟩:=qe ⟨b-3,by omega⟩;simp only[show b-3+3=b by omega]at g h i d;obtain⟨o,p,j⟩:=pK a k l;unfold jB;have e1:kj ij.cs ij.ss (kR b a++r)=some (iW b,(gw (gL (iW b)).2 (b-(gL (iW b)).1)++(i6 kX (gT a)++(gw (gE (gT a)).2 (a-(gE (gT a)).1)++r)))):=by rw[show kR b a++r=i6 j5 (iW b)++(gw (gL (iW b)).2 (b-(gL (iW b)).1)++(i6 kX (gT a)++(gw (gE (gT a)).2 (a-(gE (gT a)).1)++r)))by simp[kR]];rw[nC,mC];exact tA (iW b) (by omega) _
 rw[e1];simp only[];rw[au (by omega),au (by omega),au (by omega),vG _ _ _ d];simp only[];rw[show kj ij.cd ij.sd (i6 kX (gT a)++(gw (gE (gT a)).2 (a-(gE (gT a)).1)++r))=some (gT a,gw (gE (gT a)).2 (a-(gE (gT a)).1)++r)from by rw[oM,nD];exact zq (gT a) (by omega) _];simp only[];rw[au (by omega),vG _ _ _ j];simp only[];rw[show(gE (gT a)).1+(a-(gE (gT a)).1)=a by omega,show(gL (iW b)).1+(b-(gL (iW b)).1)=b by omega,aA ⟨m,n⟩]
theorem uF(b:List Nat)(d:Nat):∀(e a:Nat),1<=d->d<=a->a+e<=b.length->(∀c,c<e->b.getD (a+c) 0=b.getD (a-d+c) 0)->jm d e (b.take a)=b.take (a+e)
 |0,a,_,_,_,_=>rfl
 |e+1,a,i,k,h3,f=>by
  have h:b.take a++[(b.take a).getD ((b.take a).length-d) 0]=b.take (a+1):=by
   have j:(b.take a).length=a:=by rw[ax];omega
   have g:=f 0 (by omega);simp only[fI]at g;rw[j,bX (by omega)];congr 2;have:b.getD a 0=b[a]:=by rw[bI,ai (by omega)];rfl
   rw[<-this,g];simp only[bI,cR];rw[aA (by omega)]
  rw[jm,h,uF b d e (a+1) i (by omega) (by omega) (λc l=>by have:=f (c+1) (by omega);rw[show a+1+c=a+(c+1)by omega,show a+1-d+c=a-d+(c+1)by omega];exact this),show a+1+e=a+(e+1)by omega]
def xe(b:List Nat)(k a:Nat)(d:List Bool):Prop:=
 0<a/\k+a<=b.length/\∀r c,jB ij 32768 c (d++r) (b.take k)=if k+a<=c then .ok (true,r,b.take (k+a))else .error 6
def jK(e:List Nat)(k:Nat)(b:List Bool):Prop:=
 ∀a:Nat->List Bool->Prop,a 0 []->(∀k c b d,a k b->xe e k c d->a (k+c) (b++d))->a k b
theorem jK.nil{a:List Nat}:jK a 0 []:=λ_ b _=>b
theorem jK.step{a:List Nat}{k n:Nat}{b c:List Bool}(g:jK a k b)(j:0<n)(i:k+n<=a.length)
  (l:∀r e,jB ij 32768 e (c++r) (a.take k)=if k+n<=e then .ok (true,r,a.take (k+n))else .error 6):jK a (k+n) (b++c):=
 λf h d=>d k n b c (g f h d) ⟨j,i,l⟩
theorem jK.ind{c:List Nat}{k:Nat}{a:List Bool}(h:jK c k a)(b:Nat->List Bool->Prop)(i:b 0 [])(j:∀k e a f,jK c k a->b k a->xe c k e f->b (k+e) (a++f)):b k a:=
 (h (λk a=>jK c k a/\b k a) ⟨jK.nil,i⟩ (λk e a f g d=>⟨g.1.step d.1 d.2.1 d.2.2,j k e a f g.1 g.2 d⟩)).2
theorem jK.lit{a:List Nat}{k:Nat}{b:List Bool}(d:jK a k b)(g:k<a.length)(e:∀f∈a,f<256):jK a (k+1) (b++uR (a.getD k 0)):=by
 refine d.step (by omega) (by omega) λr h=>?_;have c:a.getD k 0=a[k]:=by rw[bI,ai (by omega)];rfl
 rw[wK _ _ _ (by rw[c];exact e _ (df _)),ax,dx (by omega),bX (by omega),c]
theorem jK.copy{c:List Nat}{k:Nat}{e:List Bool}(i:jK c k e)(a b:Nat)(h3:3<=a)(l:a<=258)(f:1<=b)(g:b<=32768)(j:b<=k)(h:k+a<=c.length)
  (m:∀d,d<a->c.getD (k+d) 0=c.getD (k-b+d) 0):jK c (k+a) (e++kR a b):=by
 refine i.step (by omega) h λr n=>?_;rw[y_ a b _ _ h3 l f g _ _ (by rw[ax];omega) g,ax,dx (by omega),uF c b a k f j h m]
section
def iy(d:j8)(f e:Nat)(r:List Bool)(a:List Nat)(c:Except Nat (List Bool × List Nat)):Prop:=
 ∀b:List Bool->List Nat->Except Nat (List Bool × List Nat)->Prop,
  (∀r a g,jB d f e r a=.error g->b r a (.error g)) ->
  (∀r a r' out',jB d f e r a=.ok (false,r',out')->b r a (.ok (r',out'))) ->
  (∀r a r' out' c,jB d f e r a=.ok (true,r',out')->b r' out' c->b r a c)->b r a c
section
variable{c:j8}{a b:Nat}{r r':List Bool}{d out':List Nat}{f:Except Nat (List Bool × List Nat)}
theorem iy.err{e:Nat}(g:jB c a b r d=.error e):iy c a b r d (.error e):=λ_ h _ _=>h _ _ _ g
theorem iy.stop(e:jB c a b r d=.ok (false,r',out')):iy c a b r d (.ok (r',out')):=λ_ _ g _=>g _ _ _ _ e
theorem iy.more(g:jB c a b r d=.ok (true,r',out'))(k:iy c a b r' out' f):iy c a b r d f:=λe h i h3=>h3 _ _ _ _ _ g (k e h i h3)
theorem iy.parted(i:iy c a b r d f) :
  (∃g,jB c a b r d=.error g/\f=.error g)\/(∃r' out',jB c a b r d=.ok (false,r',out')/\f=.ok (r',out'))\/(∃r' out',jB c a b r d=.ok (true,r',out')/\iy c a b r' out' f):=
 (i (λr d f=>iy c a b r d f/\((∃g,jB c a b r d=.error g/\f=.error g)\/(∃r' out',jB c a b r d=.ok (false,r',out')/\f=.ok (r',out'))\/(∃r' out',jB c a b r d=.ok (true,r',out')/\iy c a b r' out' f)))
  (λ_ _ g e=>⟨.err e,Or.inl ⟨g,e,rfl⟩⟩) (λ_ _ r' out' e=>⟨.stop e,Or.inr (Or.inl ⟨r',out',e,rfl⟩)⟩) (λ_ _ r' out' _ e h=>⟨.more e h.1,Or.inr (Or.inr ⟨r',out',e,h.1⟩)⟩)).2
end
theorem wS(d g:List Nat)(k len code first place:Nat)(r:List Bool)(f:Nat)(e:List Bool)
  (a:kr d g k len code first place r=some (f,e)):e.length<r.length:=by
 induction k generalizing len code first place r with
 |zero=>simp[kr]at a
 |succ k ih =>
  cases r with
  |nil=>simp[kr]at a
  |cons b r =>
   simp only[kr]at a;by_cases c:2*code+b.toNat<2*first+d.getD len 0
   ·rw[aA c]at a;simp at a;rw[<-a.2];simp
   ·rw[au c]at a;have:=ih _ _ _ _ _ a;simp;omega
theorem vB{b e:List Nat}{r a:List Bool}{d:Nat}(c:kj b e r=some (d,a)):a.length<r.length:=wS _ _ _ _ _ _ _ _ _ _ c
theorem xM{c d:Nat}{r b:List Bool}(a:kJ c r=some (d,b)):b.length<=r.length:=by unfold kJ at a;split at a<;>simp at a;rw[<-a.2];simp
theorem nH{b d:Nat}{r c:List Bool}(a:kJ b r=some (d,c)):b<=r.length/\d=kP (r.take b)/\c=r.drop b:=by unfold kJ at a;split at a<;>simp at a;exact⟨by assumption,a.1.symm,a.2.symm⟩
theorem oU{c:j8}{x q:Nat}{r n:List Bool}{s t:List Nat}{b:Bool}(a:jB c x q r s=.ok (b,n,t)):n.length<r.length:=by
 unfold jB at a;cases f:kj c.cs c.ss r with
 |none=>rw[f]at a;cases a
 |some e =>
  obtain⟨d,u⟩:=e;have m:=vB f;rw[f]at a;simp only[]at a;by_cases i:d<256;·rw[aA i]at a;split at a<;>cases a;exact m
  rw[au i]at a;by_cases j:d=256;·rw[aA j]at a;cases a;exact m
  rw[au j]at a;by_cases k:285<d;·rw[aA k]at a;cases a
  rw[au k]at a;cases g:kJ (gL d).2 u with
  |none=>rw[g]at a;cases a
  |some e =>
   obtain⟨e,v⟩:=e;have z:=xM g;rw[g]at a;simp only[]at a;cases h3:kj c.cd c.sd v with
   |none=>rw[h3]at a;cases a
   |some p =>
    obtain⟨o,w⟩:=p;have A:=vB h3;rw[h3]at a;simp only[]at a;by_cases l:29<o;·rw[aA l]at a;cases a
    rw[au l]at a;cases h:kJ (gE o).2 w with
    |none=>rw[h]at a;cases a
    |some y =>
     obtain⟨p,C⟩:=y;have B:=xM h;rw[h]at a;simp only[]at a;split at a;·split at a<;>cases a;omega
     ·cases a
theorem zb(c b:Nat)(r:List Bool)(a:List Nat):jB ij c b (i6 j5 256++r) a=.ok (false,r,a):=by unfold jB;rw[nC,mC,tA 256 (by omega)];simp
theorem jK.run{d:List Nat}{k a:Nat}{b r:List Bool}{e}(g:jK d k b)(f:k<=a)(c:iy ij 32768 a r (d.take k) e):iy ij 32768 a (b++r) [] e:=by
 refine g.ind (λk b=>∀r,k<=a->iy ij 32768 a r (d.take k) e->iy ij 32768 a (b++r) [] e) ?_ ?_ r f c
 ·intro r _ c;simpa using c
 ·intro k n b p _ ih h r f c;rw[ak];refine ih _ (by omega) (.more (r':=r) (out':=d.take (k+n)) ?_ c);rw[h.2.2,aA f]
theorem jK.cap{data:List Nat}{k most:Nat}{bs:List Bool}(a:jK data k bs)(b:most<k)(r:List Bool):iy ij 32768 most (bs++r) [] (.error 6):=by
 refine a.ind (λk bs=>most<k->∀r,iy ij 32768 most (bs++r) [] (.error 6)) ?_ ?_ b r
 ·intro b;omega
 ·intro k n bs p a ih d b r;rw[ak];by_cases c:most<k;·exact ih c _
  ·refine a.run (by omega) (.err ?_);rw[d.2.2,au (by omega)]
theorem jK.whole{a:List Nat}{c:Nat}{b:List Bool}(d:jK a a.length b)(e:a.length<=c)(r:List Bool):iy ij 32768 c (b++(i6 j5 256++r)) [] (.ok (r,a)):=by refine d.run e (.stop ?_);rw[zb,dM]
end
section
variable{w:World}
structure Wq(B p T:Nat)(l:List Value)(w:World)(r:Value)(m:List Nat)(f:Nat):Prop where
 hb:B<=p
 hT:T ≠ 5
 blk:w.heap[p]?=some (.cells (r::.int .i64 f::l).toArray T (0,0))
 own:w.ownsRow B 5 1 r m.length (m.map λx:Nat=>.int .u8 (x:Int))
structure Wr(B p T:Nat)(l:List Value)(w:World)(bs:List Bool)(r:Value)(m:List Nat)(f:Nat):Prop where
 q:Wq B p T l w r m f
 bits:li m f bs
variable{B p T:Nat}{l:List Value}{r:Value}{m:List Nat}{f:Nat}{bs:List Bool}
theorem Wq.c0(a:Wq B p T l w r m f):w.cell? ⟨p,0,none⟩=some r:=by rw[cb a.blk];simp
theorem Wq.c1(a:Wq B p T l w r m f):w.cell? ⟨p,1,none⟩=some (.int .i64 f):=by rw[cb a.blk];simp
theorem Wq.fz(a:Wq B p T l w r m f)(i:Nat):w.frozen? ⟨p,i,none⟩=false:=nP a.blk
theorem Wq.drew(a:Wq B p T l w r m f):Wq B p T l w.drew r m f:=⟨a.hb,a.hT,a.blk,a.own⟩
theorem Wr.drew(a:Wr B p T l w bs r m f):Wr B p T l w.drew bs r m f:=⟨a.q.drew,a.bits⟩
theorem Wq.sz(a:Wq B p T l w r m f):B<w.heap.size:=by have:=a.hb;have:=ae a.blk;omega
theorem Wq.set1(a:Wq B p T l w r m f)(b:Nat):Wq B p T l (w.setCell ⟨p,1,none⟩ (.int .i64 b)) r m b:=by
 refine⟨a.hb,a.hT,?_,?_⟩;·rw[lq _ a.blk];simp
 ·exact aR a.own (own_ne a.own a.blk a.hT) _
theorem ut{w:World}{B e a k:Nat}{b:Value}{n:List Value}(h:w.ownsRow B e k b a n)(s:0<a):∃g c,b=.slice (some ⟨g,0,none⟩) a c/\B<=g:=by
 rcases h.2 with⟨_,q⟩ | ⟨g,d,o,j,i,_⟩;·omega
 ·exact⟨g,d,j,i⟩
theorem BL(a:li m f bs):m.length=(bs.length+7)/8:=by obtain⟨c,d,_,b⟩:=a;have:=cq List.length b;rw[gM,ab,bW]at this;omega
theorem Wq.put{g e:Nat}{pre:List Nat}{c:Nat}(b:Wq B p T l w (.slice (some ⟨g,0,none⟩) (pre++[c]).length e) (pre++[c]) f)(a n:Nat) :
  Wq B p T l ((w.setCell ⟨g,pre.length,none⟩ (.int .u8 a)).setCell ⟨p,1,none⟩ (.int .i64 n)).drew (.slice (some ⟨g,0,none⟩) (pre++[a]).length e) (pre++[a]) n/\gD 5 B [p] w ((w.setCell ⟨g,pre.length,none⟩ (.int .u8 a)).setCell ⟨p,1,none⟩ (.int .i64 n)).drew:=by
 have t:p≠g:=λh=>own_ne b.own b.blk b.hT (by rw[h];rfl);obtain⟨v,o,q,u⟩:=nR b.own g rfl;refine⟨Wq.drew ⟨b.hb,b.hT,?_,?_⟩,gD.drew ?_⟩
 ·have s:(w.setCell ⟨g,pre.length,none⟩ (.int .u8 a)).heap[p]?=some (.cells (Value.slice (some ⟨g,0,none⟩) (pre++[c]).length e::.int .i64 f::l).toArray T (0,0)):=by rw[jL _ t];exact b.blk
  rw[lq _ s];simp
 ·have i:=b.own.stored pre.length (.int .u8 a);have e1:(((pre++[c]).map λa:Nat=>Value.int .u8 (a:Int)).set pre.length (.int .u8 a))=((pre++[a]).map λa:Nat=>Value.int .u8 (a:Int)):=by simp[List.set_append]
  rw[e1]at i;have e2:(pre++[c]).length=(pre++[a]).length:=by simp
  rw[e2]at i;exact aR i.1 (by simp[Value.ownBlock];omega) _
 ·refine gD.setCell ?_ (by simp) _;refine⟨rfl,rfl,rfl,by simp[World.setCell],λk y x j d=>?_⟩;rw[jL _ (λh=>?_)];·exact j
  ·subst h;rw[u]at j;rcases d with d | d;·omega
   ·exact d o q (dy j).symm
theorem Wq.app{b:World}{d:Value}{xs:List Nat}(a:Wq B p T l w r m f)
  (h:b.ownsRow B 5 1 d (m.length+xs.length) ((m.map λe:Nat=>.int .u8 (e:Int))++(xs.map λe:Nat=>.int .u8 (e:Int)))) (g:w.grownBy b r.ownBlock) :
  Wq B p T l (b.setCell ⟨p,0,none⟩ d) d (m++xs) f/\gD 5 B [p] w (b.setCell ⟨p,0,none⟩ d)/\b.cell? ⟨p,0,none⟩=some r/\b.frozen? ⟨p,0,none⟩=false:=by
 have c:b.heap[p]?=some (.cells (r::.int .i64 f::l).toArray T (0,0)):=by rw[g.block p (ae a.blk) (λi=>own_ne a.own a.blk a.hT i.symm)];exact a.blk
 refine⟨⟨a.hb,a.hT,?_,?_⟩,((gD.refl 5 B [p] w).grown g (nR a.own)).setCell (by simp) _,by rw[cb c];simp,nP c⟩;·rw[lq _ c];simp
 ·rw[ab,aH];exact aR h (own_ne h c a.hT) _
theorem Wq.alloc(a:Wq B p T l w r m f)(b:Obj):Wq B p T l (w.alloc b) r m f:=⟨a.hb,a.hT,l9 _ a.blk,a.own.alloc _⟩
theorem Wr.alloc(a:Wr B p T l w bs r m f)(b:Obj):Wr B p T l (w.alloc b) bs r m f:=⟨a.q.alloc b,a.bits⟩
theorem Gc(c a:Nat)(b:Bool)(e:c<256)(i:a<8):bits .or .u8 (c:Int) (wrap64 ((b.toNat:Int)*2^a)%256)=((c ||| (b.toNat <<< a):Nat):Int):=by
 have g:2^a<=2^7:=cy (by omega) (by omega);have h:b.toNat*2^a<=1*2^a:=cM _ (by cases b<;>decide);have d:((b.toNat:Int)*2^a)=((b.toNat*2^a:Nat):Int):=by rw[fi,Int.natCast_pow];rfl
 rw[d,GL _ (by omega),show(((b.toNat*2^a:Nat):Int)%256)=((b.toNat*2^a:Nat):Int)by omega,u8_or_nat c _ e (by omega),Nat.shiftLeft_eq]
theorem LL{e k:Nat}{pre:List Nat}{c:Nat}(a:Wq B p T l w (.slice (some ⟨e,0,none⟩) (pre++[c]).length k) (pre++[c]) f)(F:0<f)(u:f<8)(q:c<256)(D:pre.length<=1099511627776)(b:Bool) :
  Calls Tryz.prog 262 #[.pointer (some ⟨p,0,none⟩),.int .i64 (b.toNat:Nat)] w λd j=>d=.returned (.tuple #[])/\∃v,Wq B p T l j v (pre++[c ||| b.toNat <<< f]) ((f+1)%8)/\gD 5 B [p] w j:=by
 have n:=a.c0;have x:=a.c1;have y:=a.fz 1;have h:=a.own.cellAt pre.length (by simp);have C:=a.own.frozenAt pre.length;have i:(pre++[c]).length=pre.length+1:=by simp
 rw[i]at n;have e1:((f:Int)==0)=false:=by simp;omega
 have A:w.cell? ⟨e,pre.length,none⟩=some (.int .u8 c):=by rw[h];simp
 have s:p≠e:=λd=>own_ne a.own a.blk a.hT (by rw[d];rfl);have E:e≠p:=λd=>s d.symm;have g:=gv (a.put (c ||| b.toNat <<< f) ((f+1)%8));have t:=gv (Gc c f b q u);have z:b.toNat<=1:=by cases b<;>decide
 clear h a i;go_enter Tryz.func262,Tryz.ntmps262;go_wp2_with fail;go_region;all_goals go_wp2
 all_goals (go_end0;rw[t.o,show((f:Int)+1)%8=(((f+1)%8:Nat):Int)by omega];exact⟨rfl,_,g.o.1,g.o.2⟩)
theorem LJ(c:Wq B p T l w r m 0)(W:m.length<=1099511627776)(b:Bool) :
  Calls Tryz.prog 262 #[.pointer (some ⟨p,0,none⟩),.int .i64 (b.toNat:Nat)] w λe C=>e=.returned (.tuple #[])/\∃K,Wq B p T l C K (m++[b.toNat]) 1/\gD 5 B [p] w C:=by
 obtain⟨I,t,x,y,z⟩:=bu Tryz.infoByte;have n:=c.c0;have q:=c.c1;have Z:=c.sz;go_enter Tryz.func262,Tryz.ntmps262;go_wp2_with (at_builtin;refine aK _ rfl (.tmp 13) (.tmp 14) 23 rfl B 5 I (.int .u8 0) 1 1 aq t x y z rfl (by decide) r m.length _ rfl (c.alloc _).own ⟨w.heap.size,0,none⟩ 1 1 [.int .u8 0] rfl (by simp) ?hnews ?hone ?h63 ?hby ?hbs ?_)
 case hnews =>
  intro A L g;have V:A<1:=by have:=(aX.1 g).1;simpa using this
  obtain rfl:A=0:=by omega
  show(w.alloc _).cell? ⟨w.heap.size,0+0,none⟩=_;rw[World.cell?_alloc_new];simpa using g
 case hone=>intro L g;simp at g;subst g;rfl
 case h63=>unfold maxLen;omega
 case hby=>omega
 case hbs=>simp;omega
 intro v' M u d _;obtain⟨a,k,D,F⟩:=(c.alloc _).app (xs:=[0]) u ⟨d.os,d.tape,d.output,d.size,d.block⟩;have J:=gv (((gD.refl 5 B [p] w).alloc _).trans k);clear d k;have i:(m++[0]).length=m.length+1:=by simp
 obtain⟨h,O,v,Q⟩:=ut a.own (by simp);rw[i]at v;subst v;go_wp2_with fail;clear n q u D F x y z t c;generalize G:M.setCell ⟨p,0,none⟩ _=N at *;clear G;have n:=a.c0;have q:=a.c1;have P:=a.fz 1;rw[<-i]at a;have s:=a.own.cellAt m.length (by simp);have U:=a.own.frozenAt m.length;have S:N.cell? ⟨h,m.length,none⟩=some (.int .u8 0):=by rw[s];simp
 have H:p≠h:=λe=>own_ne a.own a.blk a.hT (by rw[e];rfl);have X:h≠p:=λe=>H e.symm;have j:=gv (a.put b.toNat 1);have Y:=gv (Gc 0 0 b (by omega) (by omega));have R:b.toNat<=1:=by cases b<;>decide
 clear s a i;go_region;all_goals go_wp2
 all_goals go_end0
 have E:bits .or .u8 0 (b.toNat:Int)=(b.toNat:Nat):=by cases b<;>decide
 rw[E];exact⟨rfl,_,j.o.1,J.o.trans j.o.2⟩
def Wx(B p T:Nat)(l:List Value)(w:World)(bs:List Bool):Prop:=∃r m f,Wr B p T l w bs r m f
theorem Wx.drew(e:Wx B p T l w bs):Wx B p T l w.drew bs:=by obtain⟨a,b,c,d⟩:=e;exact⟨a,b,c,d.drew⟩
theorem Wx.alloc(g:Wx B p T l w bs)(a:Obj):Wx B p T l (w.alloc a) bs:=by obtain⟨e,b,c,d⟩:=g;exact⟨e,b,c,d.alloc a⟩
theorem Bx(n:Wx B p T l w bs)(v:bs.length<=1099511627776)(b:Bool) :
  Calls Tryz.prog 262 #[.pointer (some ⟨p,0,none⟩),.int .i64 (b.toNat:Nat)] w λc e=>c=.returned (.tuple #[])/\Wx B p T l e (bs++[b])/\gD 5 B [p] w e:=by
 obtain⟨r,m,f,h,a⟩:=n;have s:=BL a;by_cases o:f=0
 ·subst o;refine(LJ h (by omega) b).mono ?_;rintro c e ⟨rfl,i,j,k⟩;exact⟨rfl,⟨i,_,_,j,a.bit0 b⟩,k⟩
 ·have g:0<m.length:=by have:=a.2.1;omega
  obtain⟨pre,d,rfl⟩:∃pre d,m=pre++[d]:=⟨m.dropLast,m.getLast (by intro c;rw[c]at g;simp at g),(List.dropLast_concat_getLast _).symm⟩;obtain⟨u,t,rfl,_⟩:=ut h.own g;have q:d<256:=a.2.2.1 d (by simp);refine(LL h (by omega) a.1 q (by simp at s;omega) b).mono ?_;rintro c e ⟨rfl,i,j,k⟩;exact⟨rfl,⟨i,_,_,j,a.bit (by omega) b⟩,k⟩
end
end Go.Proofs.YtgkljcmjnphpeaaGreatDoor
