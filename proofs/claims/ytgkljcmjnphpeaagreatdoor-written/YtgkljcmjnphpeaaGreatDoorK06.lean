import Derived.Test.YtgkljcmjnphpeaaGreatDoorK05
import Derived.Test.YtgkljcmjnphpeaaGreatDoorKSh
import Derived.Lib.AtoiErrMem
set_option linter.unusedVariables false
set_option linter.unusedSimpArgs false
set_option maxHeartbeats 1000000
set_option maxRecDepth 100000
namespace Go.Proofs.YtgkljcmjnphpeaaGreatDoor
open Go.RowKit
section
def jk(l:List Nat):List Nat:=(l.reverse.dropWhile λb=>b==48).reverse
def jQ(a:List Nat):Option Int:=if 1<=(gA a).2.length/\(gA a).2.length<=10 then kI a else none
def lh(l:List Nat):Option (Int × Nat):=
 match(gA l).2.dropWhile λb=>b != 46 with
 | []=>none
 |_::b=>if 1<=max ((gA l).2.takeWhile λb=>b != 46).length b.length/\max ((gA l).2.takeWhile λb=>b != 46).length b.length<=9
  then(kI ((gA l).1++48::(((gA l).2.takeWhile λb=>b != 46)++jk b))).map λa=>(a,(jk b).length)else none
def jA(a:Type)(r:List Nat):Option (gz a × List Nat):=
 if iA r=[110,117,108,108]then some (hJ a 0 0 0 [],iZ r)
 else if iA r=[102,97,108,115,101]then some (hJ a 1 0 0 [],iZ r)
 else if iA r=[116,114,117,101]then some (hJ a 1 1 0 [],iZ r)
 else match jQ (iA r)with
  |some b=>match gY (iZ r)with
   |some d=>some (hJ a 9 b 0 [],d)
   |none=>some (hJ a 2 b 0 [],iZ r)
  |none=>match lh (iA r)with
   |some (b,c)=>some (hJ a 3 b c [],iZ r)
   |none=>none
section
variable{α:Type}(f:List Nat->Option (α × List Nat))
def j3:Nat->List Nat->Option (List α × List Nat)
 |0,_=>none
 |c+1,r=>match gH [93] (gG r)with
  |some a=>some ([],a)
  |none=>match f (gG r)with
   |none=>none
   |some (d,a)=>(j3 c a).map λb=>(d::b.1,b.2)
def jh:Nat->List Nat->Option ((List (List Nat) × List α) × List Nat)
 |0,_=>none
 |b+1,r=>match gH [62,62] (gG r)with
  |some c=>some (([],[]),c)
  |none=>match gH [47] (gG r)with
   |none=>none
   |some d=>match ke d with
    |none=>none
    |some (k,e)=>match f e with
     |none=>none
     |some (h,g)=>(jh b g).map λa=>((k::a.1.1,h::a.1.2),a.2)
end
def gI:(k:Nat)->List Nat->Option (VT k × List Nat)
 |0,_=>none
 |k+1,r=>match gH [91] (gG r)with
  |some b=>(j3 (gI k) (b.length+1) b).map λa=>((⟨6,0,0,[],a.1,[],[]⟩:gz (VT k)),a.2)
  |none=>match gH [60,60] (gG r)with
   |some b=>(jh (gI k) (b.length+1) b).map λa=>((⟨7,0,0,[],a.1.2,a.1.1,[]⟩:gz (VT k)),a.2)
   |none=>match gH [60] (gG r)with
    |some b=>(nQ b).map λa=>(hJ (VT k) 5 0 0 a.1,a.2)
    |none=>match gH [40] (gG r)with
     |some b=>(lZ b).map λa=>(hJ (VT k) 5 0 0 a.1,a.2)
     |none=>match gH [47] (gG r)with
      |some b=>(ke b).map λa=>(hJ (VT k) 4 0 0 a.1,a.2)
      |none=>jA (VT k) r
theorem mu{h i:Type}{e:Option (h × List Nat)}{g:h->i}{f:List Nat}{b:i}(d:(e.map λa=>(g a.1,a.2))=some (b,f)):∃c,e=some (c,f):=by
 cases e with
 |none=>cases d
 |some a=>obtain⟨c,j⟩:=a;simp at d;exact⟨c,by rw[d.2]⟩
theorem mw{α h:Type}{d:Option (α × List Nat)}{f:α × List Nat->h × List Nat}{e:List Nat}{b:h}(g:d.map f=some (b,e))(i:∀a,(f a).2=a.2):∃c,d=some (c,e):=by
 cases d with
 |none=>cases g
 |some a=>obtain⟨c,j⟩:=a;have:=cq Prod.snd (dy g);rw[i]at this;exact⟨c,by rw[show e=j from this.symm]⟩
theorem kw:∀(r:List Nat) (e f:Nat) (d c:List Nat),g7 e f r=some (d,c)->c.length<=r.length
 | [],e,f,d,c,a=>by
  match e,a with
  |0,a=>simp[g7]at a;simp[a.2]
  |i+1,a=>simp[g7]at a
 |b::r,e,f,d,c,a=>by
  match e,a with
  |0,a =>
   simp only[g7]at a;split at a;·simp at a;rw[<-a.2];exact af _
   ·split at a;·cases a
    ·split at a;·have:=kw r 1 0 d c a;simp only[ag];omega
     ·obtain⟨h,g⟩:=mu a;have:=kw r 0 0 h c g;simp only[ag];omega
  |1,a =>
   simp only[g7]at a;split at a;·cases a
   ·have:=kw r 2 _ d c a;simp only[ag];omega
  |i+2,a =>
   simp only[g7]at a;split at a;·cases a
   ·split at a;·cases a
    ·obtain⟨h,g⟩:=mu a;have:=kw r 0 0 h c g;simp only[ag];omega
theorem rU:∀(r d c:List Nat),ju r=some (d,c)->c.length<=r.length
 | [],d,c,a=>by cases a
 |b::r,d,c,a=>by
  simp only[ju]at a;split at a;·have:=rU r d c a;simp only[ag];omega
  ·split at a;·simp at a;rw[<-a.2];simp
   ·split at a;·cases a
    ·obtain⟨f,e⟩:=mu a;have:=rU r f c e;simp only[ag];omega
theorem qt:∀(f h:Nat) (r l e:List Nat),iJ f h r=some (l,e)->e.length<=r.length
 |0,h,r,l,e,a=>by simp[iJ]at a
 |f+1,h,r,l,e,a=>by
  rw[iJ.eq_def]at a;simp only[]at a;cases k:iG r with
  |some m=>rw[k]at a;obtain⟨d,c⟩:=mu a;have:=qt f h m d e c;have:=Ce k;omega
  |none =>
   rw[k]at a;cases r with
   |nil=>cases a
   |cons b i =>
    simp only[]at a;split at a
    ·cases j:jW i with
     |none=>rw[j]at a;cases a
     |some o=>obtain⟨n,m⟩:=o;rw[j]at a;obtain⟨d,c⟩:=mu (g:=λp=>n++p) a;have:=qt f h m d e c;have:=EZ j;simp only[ag];omega
    ·split at a
     ·obtain⟨d,c⟩:=mu a;have:=qt f _ i d e c;simp only[ag];omega
     ·split at a
      ·split at a;·simp at a;rw[<-a.2];simp
       ·obtain⟨d,c⟩:=mu a;have:=qt f _ i d e c;simp only[ag];omega
      ·obtain⟨d,c⟩:=mu a;have:=qt f _ i d e c;simp only[ag];omega
theorem ik{c r b:List Nat}(a:gF c r=some b):b.length<=r.length:=by
 unfold gF at a;split at a;·cases a;exact(Eu r).length_le
 ·cases a
theorem zt{r c:List Nat}(a:gY r=some c):c.length<=r.length:=by
 unfold gY at a;cases b:gF [48] r with
 |none=>rw[b]at a;cases a
 |some d=>rw[b]at a;have:=ik b;have:=ik (show gF [82] d=some c from a);omega
theorem zB{r:List Nat}(a:iA r≠[]):(iZ r).length+1<=r.length:=by have b:iA r++iZ r=gG r:=List.takeWhile_append_dropWhile;have c:=cq List.length b;rw[ab]at c;have h3:=jo r;have:0<(iA r).length:=eP.2 a;omega
theorem zH{α:Type}{r g:List Nat}{h:gz α}(a:jA α r=some (h,g)):g.length+1<=r.length:=by
 by_cases e:iA r=[]
 ·unfold jA at a;rw[e]at a;simp[jQ,lh,gA]at a
 ·have b:=zB e;unfold jA at a;split at a;·simp at a;rw[<-a.2];exact b
  ·split at a;·simp at a;rw[<-a.2];exact b
   ·split at a;·simp at a;rw[<-a.2];exact b
    ·cases f:jQ (iA r)with
     |some i =>
      rw[f]at a;simp only[]at a;cases c:gY (iZ r)with
      |some l=>rw[c]at a;simp at a;have:=zt c;rw[<-a.2];omega
      |none=>rw[c]at a;simp at a;rw[<-a.2];exact b
     |none =>
      rw[f]at a;simp only[]at a;cases d:lh (iA r)with
      |some j=>obtain⟨i,k⟩:=j;rw[d]at a;simp at a;rw[<-a.2];exact b
      |none=>rw[d]at a;cases a
theorem uA{k:Type}{c:List Nat->Option (k × List Nat)}(h:∀r j b,c r=some (j,b)->b.length<=r.length):∀(g:Nat) (r b:List Nat) (f:List k),j3 c g r=some (f,b)->b.length<=r.length
 |0,r,b,f,a=>by cases a
 |g+1,r,b,f,a=>by
  simp only[j3]at a;have o:=jo r;cases d:gH [93] (gG r)with
  |some i=>rw[d]at a;simp at a;have:=(ie d).1;rw[<-a.2];omega
  |none =>
   rw[d]at a;simp only[]at a;cases e:c (gG r)with
   |none=>rw[e]at a;cases a
   |some n=>obtain⟨j,i⟩:=n;rw[e]at a;simp only[]at a;obtain⟨m,l⟩:=mw a (λ_=>rfl);have:=uA h g i b m l;have:=h _ _ _ e;omega
theorem uJ{o:Type}{c:List Nat->Option (o × List Nat)}(l:∀r n b,c r=some (n,b)->b.length<=r.length):∀(i:Nat) (r b:List Nat) (h:List (List Nat) × List o),jh c i r=some (h,b)->b.length<=r.length
 |0,r,b,h,a=>by cases a
 |i+1,r,b,h,a=>by
  simp only[jh]at a;have u:=jo r;cases f:gH [62,62] (gG r)with
  |some j=>rw[f]at a;simp at a;have:=(ie f).1;rw[<-a.2];omega
  |none =>
   rw[f]at a;simp only[]at a;cases d:gH [47] (gG r)with
   |none=>rw[d]at a;cases a
   |some j =>
    rw[d]at a;simp only[]at a;have v:=(ie d).1;cases e:ke j with
    |none=>rw[e]at a;cases a
    |some s =>
     obtain⟨k,m⟩:=s;rw[e]at a;simp only[]at a;have w:=kw j 0 0 k m e;cases g:c m with
     |none=>rw[g]at a;cases a
     |some t=>obtain⟨n,q⟩:=t;rw[g]at a;simp only[]at a;obtain⟨p,h3⟩:=mw a (λ_=>rfl);have:=uJ l i q b p h3;have:=l _ _ _ g;omega
theorem kY:∀{k:Nat} {r b:List Nat} {f:VT k},gI k r=some (f,b)->b.length+1<=r.length
 |0,r,b,f,a=>by cases a
 |k+1,r,b,f,a=>by
  have l:∀r m b,gI k r=some (m,b)->b.length<=r.length:=λr m b a=>by have:=kY a;omega
  simp only[gI]at a;have p:=jo r;cases g:gH [91] (gG r)with
  |some d=>rw[g]at a;simp only[]at a;obtain⟨e,c⟩:=mw a (λ_=>rfl);have:=uA l _ d b e c;have:=(ie g).1;simp only[ag,aw]at this;omega
  |none =>
   rw[g]at a;simp only[]at a;cases h3:gH [60,60] (gG r)with
   |some d=>rw[h3]at a;simp only[]at a;obtain⟨e,c⟩:=mw a (λ_=>rfl);have:=uJ l _ d b e c;have:=(ie h3).1;simp only[ag,aw]at this;omega
   |none =>
    rw[h3]at a;simp only[]at a;cases h:gH [60] (gG r)with
    |some d=>rw[h]at a;simp only[]at a;obtain⟨e,c⟩:=mw a (λ_=>rfl);obtain⟨o,n⟩:=mw c (λ_=>rfl);have:=rU d o b n;have:=(ie h).1;simp only[ag,aw]at this;omega
    |none =>
     rw[h]at a;simp only[]at a;cases i:gH [40] (gG r)with
     |some d=>rw[i]at a;simp only[]at a;obtain⟨e,c⟩:=mw a (λ_=>rfl);have:=qt _ _ d e b c;have:=(ie i).1;simp only[ag,aw]at this;omega
     |none =>
      rw[i]at a;simp only[]at a;cases j:gH [47] (gG r)with
      |some d=>rw[j]at a;simp only[]at a;obtain⟨e,c⟩:=mw a (λ_=>rfl);have:=kw d 0 0 e b c;have:=(ie j).1;simp only[ag,aw]at this;omega
      |none=>rw[j]at a;exact zH (α:=VT k) a
theorem qh:∀(b:Bool) (r:List Nat),(∀c d,jq b r=c::d->lM c=false/\c≠37)
 |b,[],c,d,a=>by cases b<;>cases a
 |false,f::r,c,d,a=>by
  simp only[jq]at a;by_cases e:lM f=true;·rw[aA e]at a;exact qh false r c d a
  ·rw[au e]at a;by_cases g:f=37;·rw[aA g]at a;exact qh true r c d a
   ·rw[au g]at a;cases a;exact⟨by simpa using e,g⟩
 |true,f::r,c,d,a=>by
  simp only[jq]at a;by_cases e:f=10\/f=13;·rw[aA e]at a;exact qh false r c d a
  ·rw[au e]at a;exact qh true r c d a
theorem kV(r:List Nat):gG (gG r)=gG r:=by
 cases a:gG r with
 |nil=>rfl
 |cons e d=>obtain⟨b,c⟩:=qh false r e d a;exact jz b c
theorem vL(r:List Nat):iA (gG r)=iA r:=by unfold iA;rw[kV]
theorem vM(r:List Nat):iZ (gG r)=iZ r:=by unfold iZ;rw[kV]
theorem pE(a:Type)(r:List Nat):jA a (gG r)=jA a r:=by unfold jA;rw[vL,vM]
end
end Go.Proofs.YtgkljcmjnphpeaaGreatDoor
namespace Go
section
section
variable{P:Program}{w:World}
theorem DF(v:Nat)(h q e:TypeId)(c:TypeInfo)(u:Value)(g x:Nat)(C:P.underlying h=some (.slice e))(z:P.info? e=some c)(K:c.zero=some u)
  (J:c.size=g) (G:c.bytes=x) (O:u.cells.size=g) (N:0<g)
  (r:Value) (b:Nat) (l:List Value) (o:w.ownsRow v e g r b l)
  (j:Addr) (a m:Nat) (d:List Value) (n:d.length=a*g) (A:∀p i,d[p]?=some i->w.cell? (j.add p)=some i) (E:∀i∈d,i.oneCell'=true)
  (F:b+a<=maxLen) (H:(b+a)*x<=140737488355328) (R:v<=w.heap.size) :
  ∃s t,(Builtin.append_ #[h,h] q #[r,.slice (some j) a m]).run P w=.ok s t/\t.ownsRow v e g s (b+a) (l++d)/\w.grownBy t r.ownBlock /\
   (∀k,s.ownBlock=some k->r.ownBlock=some k\/w.heap.size<=k):=by
 obtain⟨s,t,B,Q,h3,_⟩:=run_append_own (P:=P) w v h q e c u g x C z K J G O N r b l o j a m d n A E F H R;refine⟨s,t,B,Q,h3,?_⟩;have Y:b+a<=9223372036854775807:=by simp only[maxLen]at F;omega
 intro k I;rcases o.2 with⟨rfl,rfl⟩ | ⟨y,D,L,rfl,_,U,_,_,S,_⟩
 ·have W:l=[]:=cG (by rw[o.1];omega);subst W;obtain⟨Z,w2,f,X,_⟩:=run_append_own (P:=P) w w.heap.size h q e c u g x C z K J G O N (.slice none 0 0) 0 [] (bk _ _ _ _) j a m d n A E F H (af _);rw[B]at f;injection f with e1 e2;subst e1;exact Or.inr (X.lt k I).1
 ·subst J;by_cases M:b+a<=D
  ·have T:b*c.size+d.length<=L.size:=by rw[n,S,<-Nat.add_mul];exact cM _ M
   have f:=run_append_room (P:=P) w h q e c C z y b D L U j a m d n A E M T;rw[B]at f;injection f with e1 e2;subst e1;exact Or.inl I
  ·subst G;have V:∀p i,l[p]?=some i->w.cell? ((⟨y,0,none⟩:Addr).add p)=some i:=o.cells (g:=y) rfl;have f:=run_append_grow (P:=P) w h q e c u C z K ⟨y,0,none⟩ b D l o.1 V j a m d n A (by omega) (by omega) (eV (by omega) H);rw[B]at f;injection f with e1 e2;subst e1;simp[Value.ownBlock]at I;exact Or.inr (by omega)
theorem vX{v:Array Oper}{a:Oper}{c:Act}{t:Act->World->Prop}{A:Exit->Act->World->Prop}{z:Prop}(J:a.guard=none)(x y:Operand)(m:TypeId)
  (N:a.op=.call { callee:=.builtin .append,args:=#[x,y],argTypes:=#[m,m] })
  (l:Nat) (e:TypeId) (f:TypeInfo) (s:Value) (b p:Nat) (U:P.underlying m=some (.slice e)) (K:P.info? e=some f) (X:f.zero=some s)
  (S:f.size=b) (H:f.bytes=p) (Y:s.cells.size=b) (T:0<b)
  (i:Value) (g:Nat) (r:List Value) (R:c.eval x=i) (O:w.ownsRow l e b i g r)
  (o:Addr) (d u:Nat) (h:List Value) (W:c.eval y=.slice (some o) d u) (L:h.length=d*b) (M:∀j n,h[j]?=some n->w.cell? (o.add j)=some n) (C:∀n∈h,n.oneCell'=true)
  (F:g+d<=maxLen) (I:(g+d)*p<=140737488355328) (G:l<=w.heap.size)
  (B:∀v' k,k.ownsRow l e b v' (g+d) (r++h)->w.grownBy k i.ownBlock->(∀q,v'.ownBlock=some q->i.ownBlock=some q\/w.heap.size<=q)->t (c.put a.dst v') k) :
  if Region.wanted a (yielded v c.tmps)=true then Oper.wp P a c w t A else z:=by
 have V:Region.wanted a (yielded v c.tmps)=true:=by simp[Region.wanted,J]
 rw[aA V];obtain⟨v',k,Q,D,h3,E⟩:=DF (P:=P) (w:=w) l m a.type e f s b p U K X S H Y T i g r O o d u h L M C F I G;unfold Oper.wp execOp;simp only[N,resolve,invoke,builtin,Sem.run_bind,Sem.run_pure,eH,eR,bJ,dR,R,W,Q];exact B v' k D h3 E
end
end
end Go
namespace Go.Proofs.YtgkljcmjnphpeaaGreatDoor
open Go.RowKit
section
structure Ar(d:World)(B bs:Nat)(ao:Option Addr)(cap:Nat)(data:List Nat)(m r t:Value)(K k:Nat)(w:World)(q:List Nat)(f:Value)(vs:List Value)(p:List (VT k))(l:Value)(n:List (List Nat)):Prop where
 sc:Sc B bs ao cap data m r t w q
 only:gQ bs d w
 lt:bs<d.heap.size
 rb:w.heap[d.heap.size]?=some (.cells gZ 67 (0,0))
 vb:w.heap[d.heap.size+1]?=some (.cells #[.int .i64 (K:Int),.int .i64 0,.int .i64 0,.string { data:=#[] },f,l,.slice none 0 0] 67 (0,0))
 own:w.ownsRow (d.heap.size+2) 67 7 f vs.length (vs.flatMap cellsOf)
 ownk:w.ownsRow (d.heap.size+2) 9 1 l n.length (n.map λs=>.string (gC s))
 len:vs.length=p.length
 ch:∀(i:Nat) (x:Value) (y:VT k),vs[i]?=some x->p[i]?=some y->gR (λg=>d.heap.size+2<=g/\f.ownBlock≠some g/\l.ownBlock≠some g) k w x y
 few:vs.length+q.length<=200000
 fewk:n.length+q.length<=200000
variable{d:World}{B bs cap K k:Nat}{ao:Option Addr}{data:List Nat}{m r t:Value}{w w':World}{q:List Nat}{f l:Value}{vs:List Value}{p:List (VT k)}{n:List (List Nat)}
theorem Ar.step(a:Ar d B bs ao cap data m r t K k w q f vs p l n){h:List Nat}(j:Sc B bs ao cap data m r t w' h)(c:gQ bs w w')(z:h.length<=q.length):Ar d B bs ao cap data m r t K k w' h f vs p l n:=by
 have y:=a.lt;have e:∀b,d.heap.size<=b->b<w.heap.size->w'.heap[b]?=w.heap[b]?:=λb i g=>c.block b g (by omega);refine⟨j,a.only.trans c,a.lt,?_,?_,ul a.own c (by omega),ul a.ownk c (by omega),a.len,λu v x o s=>?_,by have:=a.few;omega,by have:=a.fewk;omega⟩;·rw[e _ (af _) (ae a.rb)];exact a.rb
 ·rw[e _ (by omega) (ae a.vb)];exact a.vb
 ·exact gR.keep k (a.ch u v x o s) (λb i g=>e b (by omega) g)
theorem Ar.below(a:Ar d B bs ao cap data m r t K k w q f vs p l n)(b:Below w.heap.size w w'):Ar d B bs ao cap data m r t K k w' q f vs p l n:=
 a.step (a.sc.other b) (.of_below b) (af _)
theorem Ar.drew(a:Ar d B bs ao cap data m r t K k w q f vs p l n):Ar d B bs ao cap data m r t K k w.drew q f vs p l n:=a.below (aj _ _).drew
theorem Ar.alloc(b:Ar d B bs ao cap data m r t K k w q f vs p l n)(a:Obj):Ar d B bs ao cap data m r t K k (w.alloc a) q f vs p l n:=b.below ((aj _ _).alloc (af _) a)
theorem Ar.val(b:Ar d B bs ao cap data m r t K k w q f vs p l n):gR (λa=>d.heap.size+2<=a) (k+1) w (.agg #[.int .i64 (K:Int),.int .i64 0,.int .i64 0,.string { data:=#[] },f,l,.slice none 0 0]) (⟨K,0,0,[],p,n,[]⟩:gz (VT k)):=
 ⟨f,l,.slice none 0 0,vs,rfl,b.len,jr.of b.own (λa c=>(b.own.lt a c).1),λh i j e g=>gR.mono k (b.ch h i j e g) (λa c _=>c.1),jr.of b.ownk (λa c=>(b.ownk.lt a c).1),jr.nil _ _ _ _⟩
theorem Ar.item(c:Ar d B bs ao cap data m r t K k w q f vs p l n){z:Value}{C:VT k}{S:Nat}(E:∀b,f.ownBlock=some b->b<S)(J:∀b,l.ownBlock=some b->b<S)(T:d.heap.size+2<=S)(P:gR (λb=>S<=b) k w z C){h:Value}
  (H:w'.ownsRow (d.heap.size+2) 67 7 h (vs.length+1) (vs.flatMap cellsOf++cellsOf z)) (i:w.grownBy w' f.ownBlock) (I:∀b,h.ownBlock=some b->f.ownBlock=some b\/w.heap.size<=b) (L:vs.length+1+q.length<=200000) :
  Ar d B bs ao cap data m r t K k (w'.setCell ⟨d.heap.size+1,4,none⟩ h) q h (vs++[z]) (p++[C]) l n:=by
 have W:=c.lt;have X:=c.only.size;have N:=ae c.vb;have R:=c.sc.hb;have F:∀b,f.ownBlock=some b->d.heap.size+2<=b/\b<w.heap.size:=c.own.lt;have V:∀b,l.ownBlock=some b->d.heap.size+2<=b/\b<w.heap.size:=c.ownk.lt;have G:∀b,b<w.heap.size->f.ownBlock≠some b->b≠d.heap.size+1->(w'.setCell ⟨d.heap.size+1,4,none⟩ h).heap[b]?=w.heap[b]?:=λb g u h3=>by rw[jL _ h3,i.block b g (λe=>u e.symm)]
 have y:∀b,b<d.heap.size+1->(w'.setCell ⟨d.heap.size+1,4,none⟩ h).heap[b]?=w.heap[b]?:=λb g=>G b (by omega) (λe=>by have:=F b e;omega) (by omega);have O:w'.heap[d.heap.size+1]?=some (.cells #[.int .i64 (K:Int),.int .i64 0,.int .i64 0,.string { data:=#[] },f,l,.slice none 0 0] 67 (0,0)):=by rw[i.block _ N (λe=>by have:=F _ e.symm;omega)];exact c.vb
 refine⟨⟨c.sc.hb,by rw[y _ (by omega)];exact c.sc.blk,c.sc.dat.other (λb i=>y b (by omega)),c.sc.byt,c.sc.len,c.sc.lc,c.sc.le,c.sc.suf,c.sc.ad⟩,?_,c.lt,by rw[y _ (by omega)];exact c.rb,?_,?_,?_,by rw[ab,ab,c.len];rfl,?_,by rw[ab];exact L,c.fewk⟩;·exact⟨i.os.trans c.only.os,i.tape.trans c.only.tape,i.output.trans c.only.output,by have:=i.size;simp[World.setCell];omega,λb g u=>(y b (by omega)).trans (c.only.block b g u)⟩
 ·rw[lq _ O];rfl
 ·rw[ab,cx];have:=aR (a:=⟨d.heap.size+1,4,none⟩) H (λe=>absurd (H.lt (d.heap.size+1) e).1 (by omega)) h;simpa using this
 ·have:=c.ownk.kept i (by
   cases M:l.ownBlock with
   |none=>exact Or.inl rfl
   |some b=>refine Or.inr (λe=>?_);exact yY c.own c.ownk (by decide) b e.symm M)
  exact aR this (λe=>absurd (this.lt (d.heap.size+1) e).1 (by omega)) h
 ·intro A m D o s;have Q:gR (λb=>d.heap.size+2<=b/\f.ownBlock≠some b/\l.ownBlock≠some b/\h.ownBlock≠some b) k w m D:=by
   rcases bZ A vs.length with v | v
   ·rw[aI v]at o;rw[aI (by rw[<-c.len];exact v)]at s;refine gR.mono k (c.ch A m D o s) (λb g u=>⟨g.1,g.2.1,g.2.2,λe=>?_⟩);rcases I b e with x | x;·exact g.2.1 x
    ·omega
   ·rw[ar v]at o;rw[ar (by rw[<-c.len];exact v)]at s;rw[<-c.len]at s;obtain⟨rfl,rfl⟩:z=m/\C=D:=by
     match U:A-vs.length,o,s with
     |0,o,s=>exact⟨by simpa using o,by simpa using s⟩
     |j+1,o,s=>simp at o
    refine gR.mono k P (λb g u=>⟨by omega,λe=>?_,λe=>?_,λe=>?_⟩);·have:=E b e;omega
    ·have:=J b e;omega
    ·rcases I b e with x | x;·have:=E b x;omega
     ·omega
  refine gR.mono k (gR.keep k Q (λb g u=>G b u g.2.1 (by omega))) (λb g _=>⟨g.1,g.2.2.2,g.2.2.1⟩)
end
section
variable{B bs:Nat}{w w':World}
structure o_(B:Nat)(w:World):Prop where
 syn:∃ev,w.cell? ⟨5,0,none⟩=some ev/\(ev=.nilIface\/∃te pe,ev=.iface te pe)
 rng:∃ev,w.cell? ⟨6,0,none⟩=some ev/\(ev=.nilIface\/∃te pe,ev=.iface te pe)
 mx:∃m,w.cell? ⟨2,0,none⟩=some (.int .i64 m)
 ls : 5<B
 lr : 6<B
 lm : 2<B
theorem o_.only(a:o_ B w)(c:B<=bs)(d:B<=w.heap.size)(k:gQ bs w w'):o_ B w':=by
 have e:=a.ls;have f:=a.lr;have h3:=a.lm;refine⟨?_,?_,?_,a.ls,a.lr,a.lm⟩
 ·obtain⟨b,e1,e2⟩:=a.syn;exact⟨b,by rw[World.cell?_of_block (w:=w) (k.block _ (aC e d) (Nat.ne_of_lt (aC e c)))];exact e1,e2⟩
 ·obtain⟨b,e1,e2⟩:=a.rng;exact⟨b,by rw[World.cell?_of_block (w:=w) (k.block _ (aC f d) (Nat.ne_of_lt (aC f c)))];exact e1,e2⟩
 ·obtain⟨g,e1⟩:=a.mx;exact⟨g,by rw[World.cell?_of_block (w:=w) (k.block _ (aC h3 d) (Nat.ne_of_lt (aC h3 c)))];exact e1⟩
theorem o_.below(b:o_ B w)(a:B<=w.heap.size)(k:Below w.heap.size w w'):o_ B w':=b.only (bs:=w.heap.size) a a (.of_below k)
def qi(a b:Nat):Nat:=10*a+(b-48)
theorem Gi:∀(c:List UInt8) (a:Nat),(a+1)*10^c.length<=10000000000000000000->Lib.parseUint10 a c=if(c.map UInt8.toNat).all j6=true then .ok ((c.map UInt8.toNat).foldl qi a)else .syntax
 | [],a,_=>by simp[Lib.parseUint10]
 |b::r,a,g=>by
  have h:0<10^r.length:=Nat.pow_pos (by decide);rw[ag,dG]at g;have j:(a+1)*10<=10000000000000000000:=by
   have:(a+1)*10*1<=(a+1)*10*10^r.length:=Nat.mul_le_mul_left _ h;have f:(a+1)*(10^r.length*10)=(a+1)*10*10^r.length:=by rw[dT (10^r.length) 10,eM]
   omega
  simp only[Lib.parseUint10,bJ,fQ,fU];by_cases e:48<=b.toNat/\b.toNat<=57
  ·rw[aA e,au (by omega),au (by omega)];have d:j6 b.toNat=true:=by simp[j6];omega
   have i:(a*10+(b.toNat-48)+1)*10^r.length<=10000000000000000000:=by
    have:(a*10+(b.toNat-48)+1)*10^r.length<=(a+1)*10*10^r.length:=cM _ (by omega);have f:(a+1)*(10^r.length*10)=(a+1)*10*10^r.length:=by rw[dT (10^r.length) 10,eM]
    omega
   rw[Gi r _ i,d];simp only[dJ];rw[show qi a b.toNat=a*10+(b.toNat-48)by unfold qi;omega]
  ·rw[au e];have d:j6 b.toNat=false:=by simp[j6];omega
   rw[d];simp
theorem CF(f:List UInt8)(e:(gA (f.map UInt8.toNat)).2.length<=19)(d:(gA (f.map UInt8.toNat)).2.all j6=true->jN (gA (f.map UInt8.toNat)).2<9223372036854775808) :
  Lib.atoiAll f=match kI (f.map UInt8.toNat)with | some o=>.ok o | none=>.syntax:=by
 cases f with
 |nil=>rfl
 |cons b r =>
  have m:∀c:List UInt8,(c.map UInt8.toNat).length<=19->Lib.parseMag c=if c.map UInt8.toNat≠[]/\(c.map UInt8.toNat).all j6=true then .ok (jN (c.map UInt8.toNat))else .syntax:=by
   intro c l;unfold Lib.parseMag;cases c with
   |nil=>rfl
   |cons k c =>
    rw[au (by simp),Gi (k::c) 0 (by rw[av]at l;have:10^(k::c).length<=10^19:=cy (by decide) l;omega)]
    by_cases a:((k::c).map UInt8.toNat).all j6=true;·rw[aA a,aA ⟨by simp,a⟩];rfl
    ·rw[au a,au (λj=>a j.2)]
  unfold Lib.atoiAll;simp only[];have i:gA ((b::r).map UInt8.toNat)=if b.toNat=43\/b.toNat=45 then([b.toNat],r.map UInt8.toNat)else([],(b::r).map UInt8.toNat):=rfl
  unfold kI;by_cases g:b.toNat=43\/b.toNat=45
  ·rw[aA g]at i;rw[i]at e d ⊢;simp only[]at e d ⊢;rw[aA g,m r e];by_cases a:r.map UInt8.toNat≠[]/\(r.map UInt8.toNat).all j6=true
   ·have n:=d a.2;rw[aA a,aA a];simp only[];rw[au (by omega),au (by omega)];by_cases h:b.toNat=45;·simp[h]
    ·simp[h]
   ·rw[au a,au a]
  ·rw[au g]at i;rw[i]at e d ⊢;simp only[]at e d ⊢;rw[au g,m (b::r) e];have h:¬ b.toNat=45:=λj=>g (Or.inr j);by_cases a:(b::r).map UInt8.toNat≠[]/\((b::r).map UInt8.toNat).all j6=true
   ·have n:=d a.2;rw[aA a,aA a];simp only[];rw[au (by omega),au (by omega)];simp[h]
   ·rw[au a,au a]
def Small(l:List Nat):Prop:=(gA l).2.length<=19/\((gA l).2.all j6=true->jN (gA l).2<9223372036854775808)
def AI(b:List Nat)(c:Int)(a:Value):Prop:=match kI b with
 |some f=>c=f/\a=.nilIface
 |none=>∃e d,a=.iface e d
def AT(b:List Nat)(w:World)(d:Ending)(w':World):Prop:=
 (∃c a,d=.returned (.tuple #[.int .i64 c,a])/\(a=.nilIface\/∃f e,a=.iface f e)/\(Small b->AI b c a))/\Below w.heap.size w w'
theorem ET(g:o_ B w)(a:ByteArray)(r:a.size<=1000000):Calls Tryz.prog 328 #[.string a] w (AT (bl a) w):=by
 obtain⟨k,p,q⟩:=g.syn;obtain⟨l,n,o⟩:=g.rng;cases c:Lib.atoiAll a.data.toList with
 |ok h =>
  refine(Tryz.strconv_Atoi_ok a (by omega) h c w).mono ?_;rintro f w' ⟨rfl,m⟩;refine⟨⟨h,.nilIface,rfl,Or.inl rfl,λb=>?_⟩,?_⟩
  ·have:=CF a.data.toList b.1 b.2;rw[c]at this;unfold AI bl;cases d:kI (a.data.toList.map UInt8.toNat)with
   |none=>rw[d]at this;cases this
   |some i=>rw[d]at this;injection this with h3;exact⟨h3,rfl⟩
  ·rcases m with rfl | ⟨s,rfl⟩;·exact aj _ _
   ·exact Lib.bytesWorld_below _ _ _
 | «syntax» =>
  refine(Tryz.strconv_Atoi_syntax a (by omega) c k w p q).mono ?_;rintro f w' ⟨j,rfl,_,_,e⟩;refine⟨⟨0,_,rfl,Or.inr ⟨_,_,rfl⟩,λb=>?_⟩,e⟩;have:=CF a.data.toList b.1 b.2;rw[c]at this;unfold AI bl;cases d:kI (a.data.toList.map UInt8.toNat)with
  |none=>exact⟨_,_,rfl⟩
  |some i=>rw[d]at this;cases this
 |range =>
  refine(Tryz.strconv_Atoi_range a (by omega) c l w n o).mono ?_;rintro f w' ⟨j,rfl,_,_,e⟩;refine⟨⟨_,_,rfl,Or.inr ⟨_,_,rfl⟩,λb=>?_⟩,e⟩;have:=CF a.data.toList b.1 b.2;rw[c]at this;unfold AI bl;cases d:kI (a.data.toList.map UInt8.toNat)with
  |none=>exact⟨_,_,rfl⟩
  |some i=>rw[d]at this;cases this
theorem Dq:∀(l:List Nat) (a:Nat),(∀d∈l,d<256)->l.all j6=true->l.foldl qi a+1<=(a+1)*10^l.length
 | [],a,_,_=>by simp
 |b::l,a,e,c=>by
  simp only[fQ,dX]at c;have i:48<=b/\b<=57:=by simpa[j6]using c.1
  have:=Dq l (qi a b) (λd f=>e d (by simp[f])) c.2;rw[fU,ag,dG];have h:(qi a b+1)*10^l.length<=(a+1)*10*10^l.length:=cM _ (by unfold qi;omega);have g:(a+1)*(10^l.length*10)=(a+1)*10*10^l.length:=by rw[dT (10^l.length) 10,eM]
  omega
theorem Fa{c:List Nat}{d:Nat}(a:d∈(gA c).2):d∈c:=by
 unfold gA at a;cases c with
 |nil=>exact a
 |cons b e =>
  simp only[]at a;split at a;·exact aV _ a
  ·exact a
theorem Ef{a:List Nat}(d:∀b∈a,b<256)(e:(gA a).2.length<=18):Small a:=by refine⟨by omega,λc=>?_⟩;have g:=Dq (gA a).2 0 (λb f=>d b (Fa f)) c;have h3:10^(gA a).2.length<=10^18:=cy (by decide) e;have:jN (gA a).2=(gA a).2.foldl qi 0:=rfl;omega
theorem tN(w:World)(n:Nat):Below w.heap.size w (w.drewN n):=⟨rfl,rfl,rfl,af _,λ_ _=>rfl⟩
def lg(l:List Nat)(a:Int)(b:Bool):Prop:=match jQ l with
 |some c=>a=c/\b=true
 |none=>b=false
theorem lg.long{l:List Nat}(b:Int)(a:¬ (1<=(gA l).2.length/\(gA l).2.length<=10)):lg l b false:=by unfold lg jQ;rw[au a]
theorem lg.nil{l:List Nat}{d:Int}(b:1<=(gA l).2.length/\(gA l).2.length<=10)(a:AI l d .nilIface):lg l d true:=by
 unfold lg jQ;rw[aA b];unfold AI at a;cases c:kI l with
 |some e=>rw[c]at a;exact⟨a.1,rfl⟩
 |none=>rw[c]at a;obtain⟨_,_,b⟩:=a;cases b
theorem lg.err{l:List Nat}{b:Int}{f:TypeId}{e:Value}(c:1<=(gA l).2.length/\(gA l).2.length<=10)(a:AI l b (.iface f e)):lg l b false:=by
 unfold lg jQ;rw[aA c];unfold AI at a;cases d:kI l with
 |some g=>rw[d]at a;cases a.2
 |none=>rfl
def WT(d:List Nat)(w:World)(c:Ending)(w':World):Prop:=(∃a b,c=.returned (.tuple #[.int .i64 a,.bool b])/\lg d a b)/\Below w.heap.size w w'
theorem Ey(E:o_ B w)(H:B<=w.heap.size)(c:ByteArray)(z:c.size<=1000000):Calls Tryz.prog 307 #[.string c] w (WT (bl c) w):=by
 have v:=gv (Fb (w:=w) c z);have u:=gv (λn=>ET (E.below H (tN w n)) c z);have k:Hid (1<=(gA (bl c)).2.length/\(gA (bl c)).2.length<=10->Small (bl c)):=λN=>Ef (zR c) (by omega);generalize bl c=a at *;have m:Hid ((gC (gA a).2).size=(gA a).2.length):=by unfold Hid gC;simp[ByteArray.size]
 clear E;go_enter Tryz.func307,Tryz.ntmps307;go_wp2_with fail;refine v.o.mono ?_;rintro q Q ⟨⟨G,b,rfl,C,D⟩,n,rfl⟩;have J:b=.string (gC (gA a).2):=D;obtain⟨x,I⟩:∃x,G=.string x:=⟨_,C⟩;subst J I;clear C D v;go_wp2_with fail;refine(u.o n).mono ?_;rintro q R ⟨⟨i,M,rfl,K,F⟩,y⟩;have j:=gv F;have p:=gv ((tN w n).trans y);clear F y u;obtain⟨d,A⟩:∃d,gC (gA a).2=d:=⟨_,rfl⟩;rw[A]at m ⊢;obtain⟨g,t⟩:∃g,(gA a).2.length=g:=⟨_,rfl⟩;rw[t]at m;have r:d.size=g:=m.o;have e:=gv t;clear A t m;rcases K with rfl | ⟨P,O,rfl⟩
 ·by_cases f:1<=g/\g<=10
  ·have h:1<=(gA a).2.length/\(gA a).2.length<=10:=by rw[e.o];exact f
   have l:=gv (lg.nil h (j.o (k.o h)));clear h j k e;have s:(1:Int)<=(d.size:Int):=by omega
   have L:(d.size:Int)<=10:=by omega
   clear r f;go_wp2_with fail;refine(pG (d.size:Int) 1 10 _ s L).mono ?_;rintro q w' ⟨rfl,rfl⟩;go_wp2
   go_ret2
   exact⟨⟨i,true,rfl,l.o⟩,p.o⟩
  ·have l:=gv (lg.long (l:=a) i (by rw[e.o];exact f));clear j k e;have s:(d.size:Int)<1\/(10:Int)<(d.size:Int):=by omega
   clear r f;go_wp2_with fail;refine(sF (d.size:Int) 1 10 _ s).mono ?_;rintro q w' ⟨rfl,rfl⟩;go_wp2
   go_ret2
   exact⟨⟨i,false,rfl,l.o⟩,p.o⟩
 ·have l:Hid (lg a i false):=by
   by_cases f:1<=g/\g<=10
   ·have h:1<=(gA a).2.length/\(gA a).2.length<=10:=by rw[e.o];exact f
    exact lg.err h (j.o (k.o h))
   ·exact lg.long (l:=a) i (by rw[e.o];exact f)
  clear j k e r;go_wp2
  go_ret2
  exact⟨⟨i,false,rfl,l.o⟩,p.o⟩
end
end Go.Proofs.YtgkljcmjnphpeaaGreatDoor
