import Derived.RangeFuncNested
import Derived.RangeFuncBound
import Derived.Shelf.RegionOpen
import Derived.OwnWalkIn
import Derived.LoopNIn
import Derived.LoopIn
import Derived.Test.YtgkljcmjnphpeaaGreatDoorK04
import Derived.Laws.AppendOwnNone
set_option linter.unusedVariables false
set_option linter.unusedSimpArgs false
set_option maxHeartbeats 2000000
set_option maxRecDepth 100000
namespace Go.Proofs.YtgkljcmjnphpeaaGreatDoor
open Go.RowKit
section
open Go.RowKit Go.Shelf
attribute [local go_sem] Oper.semAt_some
def qQ(a:Nat):Prop:=1<=a/\a<=4
theorem qQ.le{a:Nat}(b:qQ a):1<=a/\a<=4:=b
def nU:Type:={ a:Nat // qQ a }
def nU.one:nU:=⟨4,by unfold qQ;omega⟩
def oz(a:List nU)(k:Nat):List (Nat × nU):=(List.range k).map λb=>(a.length-1-b,a[a.length-1-b]?.getD nU.one)
theorem Ha(a:List nU)(k:Nat):oz a (k+1)=oz a k++[(a.length-1-k,a[a.length-1-k]?.getD nU.one)]:=by simp[oz,List.range_succ]
theorem EU(a:List nU)(k:Nat):(oz a k).length=k:=by simp[oz]
theorem G_(a:List nU):(oz a a.length).map (λd=>d.2)=a.reverse:=by
 apply List.ext_getElem;·simp[oz]
 ·intro c b e;simp[oz]at b;have:a.length-1-c<a.length:=by omega
  simp[oz,this]
def kZ(g:Nat)(e:World)(d:Value)(a:List nU):Prop:=
 (d=.slice none 0 0/\a=[])\/∃b f,d=.slice (some ⟨b,0,none⟩) a.length f/\b<g/\∀c,c<a.length->e.cell? ⟨b,c,none⟩=some (.int .i64 ((a[c]?.getD nU.one).1:Nat))
theorem kZ.below{a:Nat}{c B:World}(i:Below a c B){h:Value}{d:List nU}:kZ a c h d->kZ a B h d
 | .inl e=>.inl e
 | .inr ⟨b,cap,e,f,j⟩=>.inr ⟨b,cap,e,f,λg k=>(i.cell (p:=⟨b,g,none⟩) f).trans (j g k)⟩
def qO(d a:Nat)(b c:World):Prop:=Below d b c/\c.heap[a]?=b.heap[a]?
theorem EV{b a:Nat}{c d e:World}(f:qO b a c d)(k:qO b a d e):qO b a c e:=⟨f.1.trans k.1,k.2.trans f.2⟩
theorem Hb{f e:Nat}{d:World}(l:f<=d.heap.size)(m:e<d.heap.size)(a:World)(b:Nat)(c g:Obj)(k:d.heap.size<=b)(h:a.heap[b]?=some c)(i:c.isCells=false)(j:c.isWalk=false):qO f e a (a.putObj b g):=
 ⟨belowK_b l a b c g k h i j,World.putObj_heap_other (by omega)⟩
theorem Hf(j:Fence)(o:Nat)(z:j.fn 287)(L:j.round=none)(W:1<=o)(v i q b len x:Nat)(f:List nU)(J:f.length=len)(X:len<=1000000)(E:b<q)(g r:List (Nat × nU)->World->Prop)
  (D:∀pre d c,g pre c->pre.length<len->YieldAt j (o-1) Tryz.prog v #[.int .i64 (d.1:Int),.int .i64 (d.2.1:Nat)] c λh e=>(h=.returned (.bool true)/\g (pre++[d]) e/\qO q i c e)\/(h=.returned (.bool false)/\r (pre++[d]) e))
  (c:World) (s:c.heap[i]?=some (.cells #[.slice (some ⟨b,0,none⟩) len x] 52 (0,0))) (F:∀n,n<len->c.cell? ⟨b,n,none⟩=some (.int .i64 ((f[n]?.getD nU.one).1:Nat))) (y:g [] c) :
  CallsIn j o Tryz.prog 287 #[.func (.yield v) #[] #[],.pointer (some ⟨i,0,none⟩)] c λh e=>(∃N,h=.returned N) /\
   ((∃w,w=oz f len/\g w e)\/(∃pre,True/\r pre e)):=by
 refine callsIn_of_wp Tryz.func287 rfl z ?_ L;simp only[Tryz.ntmps287,dS,ag,aw,Nat.reduceAdd,Nat.reduceSub,fy,fA,List.push_toArray,fK,cC,cj];have S:=mb s
 gi_wp2
 gi_loopw [3] (λm wr=>∃k:Nat,k<=len/\m=.int .i64 ((len:Int)-1-k)/\g (oz f k) wr/\qO q i c wr)
  (λm _=>(intOf m+1).toNat)
 case atStart=>exact⟨0,aE _,by simp,y,aj _ _,rfl⟩
 case round =>
  obtain⟨k,H,rfl,t,l⟩:=hrel;have T:=mb (l.2.trans s);rcases bN H with rfl | K
  ·rw[show((k:Int)-1-k) = -1 by omega]
   gi_wp2
   go_end0
   exact⟨⟨_,rfl⟩,.inl ⟨_,rfl,t⟩⟩
  ·obtain⟨a,U⟩:∃a,k+1+a=len:=⟨len-(k+1),by omega⟩;rw[show((len:Int)-1-k)=(a:Int)by omega];have G:wr.cell? ⟨b,a,none⟩=some (.int .i64 ((f[a]?.getD nU.one).1:Nat)):=(l.1.cell (p:=⟨b,a,none⟩) E).trans (F a (by omega));obtain⟨d,u⟩:∃d,f[a]?.getD nU.one=d:=⟨_,rfl⟩;rw[u]at G;obtain⟨R,Y,P,Q,M,C⟩:=D _ (a,d) wr t (by rw[EU];exact K);dsimp only at M;have V:a<len:=by omega
   gi_wp2
   refine C.mono ?_;rintro h O (⟨rfl,A,I⟩ | ⟨rfl,B⟩)
   ·gi_wp2
    go_roundw
    case rel=>exact⟨k+1,by omega,by congr 1;omega,by rw[Ha,J,show len-1-k=a by omega,u];exact A,EV l I⟩
    case measure=>simp[intOf]
   ·gi_wp2
    refine aF (results_none rfl _ _ _) rfl ?_;exact⟨⟨_,rfl⟩,.inr ⟨_,trivial,B⟩⟩
theorem Hn(a:Fence)(m:Nat)(h:a.fn 287)(j:a.round=none)(l d:Nat)(b:List (Nat × nU)->World->Prop)(c:World)(o:c.cell? ⟨d,0,none⟩=some (.slice none 0 0))(g:b [] c) :
  CallsIn a m Tryz.prog 287 #[.func (.yield l) #[] #[],.pointer (some ⟨d,0,none⟩)] c λf e=>(∃n,f=.returned n)/\b [] e:=by
 refine callsIn_of_wp Tryz.func287 rfl h ?_ j;simp only[Tryz.ntmps287,dS,ag,aw,Nat.reduceAdd,Nat.reduceSub,fy,fA,List.push_toArray,fK,cC,cj]
 gi_wp2
 gi_loopw [3] (λk wr=>k=.int .i64 (-1)/\b [] wr) (λ_ _=>0)
 case atStart=>exact⟨rfl,g⟩
 case round =>
  obtain⟨rfl,i⟩:=hrel
  gi_wp2
  go_end0
  exact⟨⟨_,rfl⟩,i⟩
theorem Hi(a:Fence)(h:Nat)(f:a.fn 234)(g:a.round=none)(c:Option Addr)(len d:Nat)(b:World) :
  CallsIn a h Tryz.prog 234 #[.slice c len d] b λe i=>e=.returned (.func (.func 287) #[] #[.pointer (some ⟨b.heap.size,0,none⟩)])/\i=b.alloc (.cells #[.slice c len d] 52):=by
 refine callsIn_of_wp Tryz.func234 rfl f ?_ g;simp only[Tryz.ntmps234,dS,ag,aw,Nat.reduceAdd,Nat.reduceSub,fy,fA,List.push_toArray,fK,cC,cj]
 gi_wp2
 go_ret;exact⟨rfl,rfl⟩
theorem Ho(d:Fence)(e:Nat)(k:d.fn 287)(o:d.round=none)(A:1<=e)(c f:Nat)(q:Value)(a:List nU)(C:a.length<=1000000)(g:World)(B:f<=g.heap.size)
  (m:g.heap[c]?=some (.cells #[q] 52 (0,0))) (u:kZ f g q a) :
  SeqStopsK d e Tryz.prog 287 #[.pointer (some ⟨c,0,none⟩)] (λr:Nat × nU=>#[Value.int .i64 (r.1:Int),Value.int .i64 (r.2.1:Nat)]) (qO f c) (λD=>D=oz a a.length)
   (λpre=>True) a.length g:=λp h s i l _ _ v j=>by
 have n:=(l.block c (ae m)).trans m;rcases u.below (l.mono B)with⟨rfl,rfl⟩ | ⟨b,t,rfl,w,x⟩;·exact(Hn d e k o p c h i (cb n) j).mono λF E ⟨y,z⟩=>⟨y,.inl ⟨_,rfl,z⟩⟩
 ·exact Hf d e k o A p c f b a.length t a rfl C w h s v i n x j
end
end Go.Proofs.YtgkljcmjnphpeaaGreatDoor
namespace Go
section
open Go.RowKit
section
variable{P:Program}{w:World}
theorem Ka(j k H b:TypeId)(c:TypeInfo)(f:Value)(G:IntKind)(e g:Nat)(B:P.underlying j=some (.slice b))(C:P.underlying k=some (.int G))(v:P.info? b=some c)(E:c.zero=some f)(y:c.size=e)(r:c.bytes=g)(F:f.cells.size=e)(A:0<e)
  (a:Nat) (x:0<a) (i:a<=maxLen) (s:a*g<=140737488355328) :
  ∃h d,(Builtin.append_ #[j,k] H #[.slice none 0 0,.int .i64 (a:Nat)]).run P w=.ok (.slice (some ⟨w.heap.size,0,none⟩) a h) d/\d.ownsRow w.heap.size b e (.slice (some ⟨w.heap.size,0,none⟩) 0 h) 0 []/\Below w.heap.size w d/\a<=h:=by
 subst y r;have z:a<=9223372036854775807:=by simp only[maxLen]at i;omega
 have u:=grownCap_ge w a 0 b;have t:=fY w a 0 b i;have I:=eV (need:=a) (old:=0) (bytes:=c.bytes) (by omega) s;have m:¬ (281474976710656<(a:Int)*(c.bytes:Int)):=by omega
 have n:¬ (281474976710656<Builtin.nextslicecap a 0*c.bytes):=by omega
 have h3:¬ (a*c.size=0):=by have:=Nat.mul_pos x A;omega
 have l:a≠0:=by omega
 have o:¬ (9223372036854775807<(a:Int)):=by omega
 have p:¬ ((a:Int)<0):=by omega
 have D:IntKind.i64.wrap (a:Int)=(a:Int):=by rw[bP];omega
 have q:∀d:World,(asInt (.int .i64 (a:Int))).run P d=.ok (a:Int) d:=λ_=>rfl;refine⟨grownCap w a 0 b,w.drew.alloc (.cells (Builtin.zeroCells f.cells a++Builtin.zeroCells f.cells (grownCap w a 0 b-a)) b),?_,⟨by simp,.inr ⟨w.heap.size,_,_,rfl,af _,heap_alloc_new w.drew _,aE _,t,?_,by simp⟩⟩,(aj _ _).drew.alloc (af _) _,u⟩;·simp[Builtin.append_,run_underlying B,run_underlying C,sizeOf,typeInfo,zeroValue,v,E,q,run_firstCells_none,D,l,m,n,h3,o,p,Question.forced,newRow,grownCap,z]
 ·simp only[Array.size_append,size_zeroCells,F];rw[<-Nat.add_mul];congr 1;omega
theorem Bv{o:Array Oper}{p:List Oper}{d:Oper}{g:Act}{m:Exit->Act->World->Prop}(y:d.guard=none)(q r:Operand)(j k:TypeId)
  (B:d.op=.call { callee:=.builtin .append,args:=#[q,r],argTypes:=#[j,k] })
  (h:TypeId) (c:TypeInfo) (l:Value) (n:IntKind) (e i:Nat) (F:P.underlying j=some (.slice h)) (G:P.underlying k=some (.int n)) (z:P.info? h=some c) (J:c.zero=some l) (D:c.size=e) (v:c.bytes=i) (K:l.cells.size=e) (E:0<e)
  (H:g.eval q=.slice none 0 0) (a:Nat) (I:g.eval r=.int .i64 (a:Nat)) (A:0<a) (t:a<=maxLen) (x:a*i<=140737488355328)
  (s:∀b f,f.ownsRow w.heap.size h e (.slice (some ⟨w.heap.size,0,none⟩) 0 b) 0 []->Below w.heap.size w f->a<=b->wpList P o m p (g.put d.dst (.slice (some ⟨w.heap.size,0,none⟩) a b)) f):wpList P o m (d::p) g w:=by
 refine fh y λO u=>?_;obtain⟨b,f,C,L,M,N⟩:=Ka (P:=P) (w:=w) j k d.type h c l n e i F G z J D v K E a A t x;unfold Oper.wp;simp[execOp,B,resolve,invoke,builtin,H,I,C,Result.andThen];exact u _ _ (s b f L M N)
theorem wX{E:Array Oper}{F:List Oper}{m:Oper}{k:Act}{v:Exit->Act->World->Prop}(y:m.guard=none)(n p:Operand)(h:TypeId)
  (A:m.op=.call { callee:=.builtin .append,args:=#[n,p],argTypes:=#[h,h] })
  (f:Nat) (b:TypeId) (c:TypeInfo) (u:Value) (a r:Nat) (C:P.underlying h=some (.slice b)) (z:P.info? b=some c) (R:c.zero=some u)
  (N:c.size=a) (L:c.bytes=r) (S:u.cells.size=a) (O:0<a)
  (e:Value) (d:Nat) (q:List Value) (B:k.eval n=e) (t:w.ownsRow f b a e d q)
  (G:Value) (g:Nat) (j:List Value) (D:k.eval p=G) (l:w.ownsRow 0 b a G g j) (I:∀V∈j,V.oneCell'=true)
  (J:d+g<=maxLen) (M:(d+g)*r<=140737488355328) (K:f<=w.heap.size)
  (x:∀o i,i.ownsRow f b a o (d+g) (q++j)->w.grownBy i e.ownBlock->wpList P E v F (k.put m.dst o) i):wpList P E v (m::F) k w:=by
 rcases l.2 with⟨rfl,rfl⟩ | ⟨s,H,W,rfl,_,Z,ac,X,Y,ad⟩
 ·have Q:j=[]:=cG (by rw[l.1];omega);subst Q;refine wpList_append_own_none y n p h A f b c a C z e d q B t D (x e w ?_ ⟨rfl,rfl,rfl,af _,λ_ _ _=>rfl⟩);rw[ct];exact t
 ·exact aK _ y n p h A f b c u a r C z R N L S O e d q B t ⟨s,0,none⟩ g H j D l.1 (l.cells (g:=s) rfl) I J M K (λo i T U _=>x o i T U)
end
theorem KY{e:Program}{a:World}{j:Array Oper}{d:Oper}{b:Act}{h:Act->World->Prop}{o:Exit->Act->World->Prop}{n:Prop}(t:d.guard=none)(m:Operand)(c:FuncId)(y:TypeId)
  (u:d.op=.call { callee:=.value (.func c),args:=#[m],argTypes:=#[y] }) (g k:Value) (x:b.eval m=g) (r:∀f a,(callFunc c f).run e a=.ok (.enter c f) a)
  (q:Calls e c #[g] a λi l=>i=.returned k/\l=a) (p:h (b.put d.dst k) a):if Region.wanted d (yielded j b.tmps)=true then Oper.wp e d b a h o else n:=by
 have w:Region.wanted d (yielded j b.tmps)=true:=by simp[Region.wanted,t]
 rw[aA w];have v:(execOp b.eval d).run e a=.ok (.enter c #[g]) a:=by have s:b.eval (.func c)=.func (.func c) #[] #[]:=rfl;unfold execOp;simp[u,resolve,Deferred.ofValue,invoke,x,s,r]
 unfold Oper.wp;rw[v,Oper.upon_enter];refine q.mono ?_;rintro i l ⟨rfl,rfl⟩;exact p
end
end Go
