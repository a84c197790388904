import Derived.Test.YtgkljcmjnphpeaaGreatDoorK32
import Derived.Test.YtgkljcmjnphpeaaGreatDoorK30
set_option linter.unusedVariables false
set_option linter.unusedSimpArgs false
set_option maxHeartbeats 4000000
set_option maxRecDepth 100000
namespace Go.Proofs.YtgkljcmjnphpeaaGreatDoor
open Go.RowKit
section
variable{w w':World}
def uZ(a:Nat):Value:=.agg #[.int .i64 4,.int .i64 0,.int .i64 0,.string (i5 a),.slice none 0 0,.slice none 0 0,.slice none 0 0]
def namesV(a:Nat)(c:List Nat):VT (a+2):=(⟨6,0,0,[],c.map (λb=>(hJ (VT a) 4 0 0 (bl (i5 b)):VT (a+1))),[],[]⟩:gz (VT (a+1)))
theorem AX{d:World}{b:Nat}{e:Nat}(g:d.heap[b]?=some (.cells #[.int .i64 4,.int .i64 0,.int .i64 0,.string (i5 e),.slice none 0 0,.slice none 0 0,.slice none 0 0] 67 (0,0))):∀(a:Nat) (c:Value),(cellsOf (uZ e))[a]?=some c->d.cell? ((⟨b,0,none⟩:Addr).add a)=some c:=by intro a c f;rw[aa,cb g];rw[<-f];simp[cellsOf,uZ,Value.cells]
structure BC(w:World)(fs:List nU)(m:Nat)(v:Value)(W:World):Prop where
 blk:W.heap[w.heap.size+1]?=some (.cells #[.int .i64 6,.int .i64 0,.int .i64 0,.string { data:=#[] },v,.slice none 0 0,.slice none 0 0] 67 (0,0))
 res:W.heap[w.heap.size]?=some (.cells #[.int .i64 0,.int .i64 0,.int .i64 0,.string { data:=#[] },.slice none 0 0,.slice none 0 0,.slice none 0 0] 67 (0,0))
 own:W.ownsRow (w.heap.size+2) 67 7 v m ((fs.take m).flatMap λx=>cellsOf (uZ x.1))
 bel:Below w.heap.size w W
theorem BC.step{d f:World}{b:List nU}{a:Nat}{l m:Value}{g:nU}{o:Obj}(e:BC w b a l d)(t:a<b.length)(j:b[a]?.getD nU.one=g)(A:f.ownsRow (w.heap.size+2) 67 7 m (a+1) (((b.take a).flatMap λg=>cellsOf (uZ g.1))++cellsOf (uZ g.1)))(r:(d.drew.alloc o).grownBy f l.ownBlock) :
  f.heap[w.heap.size+1]?=some (.cells #[.int .i64 6,.int .i64 0,.int .i64 0,.string { data:=#[] },l,.slice none 0 0,.slice none 0 0] 67 (0,0))/\BC w b (a+1) m (f.setCell ⟨w.heap.size+1,4,none⟩ m):=by
 have C:w.heap.size+2<=d.heap.size:=ae e.blk;have s:∀k,k<w.heap.size+2->f.heap[k]?=d.heap[k]?:=λk B=>by rw[r.block k (by simp;omega) (λh=>by have:=(e.own.lt k h.symm).1;omega),eQ _ _ _ (by show k<d.heap.size;omega)];rfl
 have q:=(s _ (by omega)).trans e.blk;refine⟨q,?_,?_,?_,?_⟩;·rw[lq _ q];rfl
 ·rw[jL _ (by show w.heap.size≠w.heap.size+1;omega)];exact(s _ (by omega)).trans e.res
 ·have z:b.take (a+1)=b.take a++[g]:=by rw[cP,ai t];rw[ai t]at j;simp at j;rw[j];rfl
  rw[z,cx,List.flatMap_singleton];obtain⟨v,i⟩:=A;refine⟨v,?_⟩;rcases i with i | ⟨n,c,u,e1,e2,y,x⟩;·exact Or.inl i
  ·exact Or.inr ⟨n,c,u,e1,e2,by rw[jL _ (by show n≠w.heap.size+1;omega)];exact y,x⟩
 ·refine Below.setCell (p:=⟨w.heap.size+1,4,none⟩) ?_ (dV _) _;exact((e.bel.drew.alloc (by show w.heap.size<=d.heap.size;omega) _).grown r (by simp;omega) (λk h=>by have:=(e.own.lt k h).1;omega))
theorem LN{u:Option Addr}{B G:Nat}{e:List nU}(I:kZ w.heap.size w (.slice u B G) e)(Y:e.length<=1000)(ac:B=e.length) :
  Calls Tryz.prog 237 #[.slice u B G] w λt w'=>∃E p,t=.returned (.agg #[.int .i64 6,.int .i64 0,.int .i64 0,.string { data:=#[] },.slice E e.length p,.slice none 0 0,.slice none 0 0])/\w'.ownsRow (w.heap.size+2) 67 7 (.slice E e.length p) e.length (e.flatMap λd=>cellsOf (uZ d.1))/\Below w.heap.size w w':=by
 obtain⟨i0,W,al,ao,a0⟩:=bu iV;have O:=gv I;clear I;subst ac;obtain⟨n,v⟩:∃n,e.length=n:=⟨_,rfl⟩;have m:=gv v;rw[v]at Y ⊢;clear v;go_enter Tryz.func237,Tryz.ntmps237;go_wp2;go_loopw [9] (λA wr=>∃(a:Nat) (D:Value),a<=n/\A=.int .i64 (a:Int)/\Hid (BC w e a D wr)) (λA _=>n-(intOf A).toNat)
 case atStart =>
  refine⟨0,.slice none 0 0,aE _,rfl,?_,l9 _ (jd _ _),bk _ _ _ _,((aj _ _).alloc (af _) _).alloc (by simp) _⟩;have:=jd (w.alloc (.cells #[.int .i64 0,.int .i64 0,.int .i64 0,.string { data:=#[] },.slice none 0 0,.slice none 0 0,.slice none 0 0] 67)) (.cells #[.int .i64 6,.int .i64 0,.int .i64 0,.string { data:=#[] },.slice none 0 0,.slice none 0 0,.slice none 0 0] 67)
  rwa [bM]at this
 case round =>
  obtain⟨a,D,hm,rfl,g⟩:=hrel;obtain⟨h,i,hv⟩:=i_ g.o.own;subst hv;have f:=g.o.blk;have c4:=pV f;rcases bN hm with rfl | Z
  ·have c:=g.o.res;obtain⟨d0,d1,d2,d3⟩:=CK f;have d5:=rj f;have d6:=sJ f;have r0:=mb c;have f0:=ix 0 c;have r1:=oB c;have f1:=ix 1 c;have r2:=qJ c;have f2:=ix 2 c;have r3:=qU c;have f3:=ix 3 c;have r4:=pV c;have f4:=ix 4 c;have r5:=rj c;have f5:=ix 5 c;have r6:=sJ c;have F:=ix 6 c;have R:=gv (m_ (by unfold gZ;exact c) (.int .i64 6) (.int .i64 0) (.int .i64 0) (.string { data:=#[] }) (.slice h a i) (.slice none 0 0) (.slice none 0 0));have Q:=gv (ly wr w.heap.size (.int .i64 6) (.int .i64 0) (.int .i64 0) (.string { data:=#[] }) (.slice h a i) (.slice none 0 0) (.slice none 0 0));clear f c;go_wp2;refine aF (v:=.agg #[.int .i64 6,.int .i64 0,.int .i64 0,.string { data:=#[] },.slice h a i,.slice none 0 0,.slice none 0 0]) ?_ rfl ?_;·exact aJ Tryz.results237 _ _ w.heap.size 67 _ _ _ rfl R.o aP rfl (by kernel_rfl)
   have l:=Q.o;have L:=g.o.own;rw[aY (by rw[m.o];exact af _)]at L;refine⟨h,i,rfl,?_,g.o.bel.trans ⟨l.os,l.tape,l.output,l.size,λk X=>l.block k (aC X g.o.bel.size) (by omega)⟩⟩;obtain⟨q,j⟩:=L;refine⟨q,?_⟩;rcases j with j | ⟨H,p,U,e1,e2,K,y⟩;·exact Or.inl j
   ·exact Or.inr ⟨H,p,U,e1,e2,by rw[l.block H (ae K) (by omega)];exact K,y⟩
  ·have V:∃b,u=some ⟨b,0,none⟩/\wr.cell? ⟨b,a,none⟩=some (.int .i64 ((e[a]?.getD nU.one).1:Nat)):=by
    rcases O.o.below g.o.bel with⟨q,j⟩ | ⟨b,a2,q,j,h3⟩;·have:=m.o;rw[j]at this;simp at this;omega
    ·cases q;exact⟨b,rfl,h3 a (by have:=m.o;omega)⟩
   obtain⟨b,rfl,y⟩:=V;obtain⟨d,z⟩:∃d,e[a]?.getD nU.one=d:=⟨_,rfl⟩;rw[z]at y;have S:=gv z;clear z;have a3:w.heap.size+2<=wr.heap.size:=ae f;have s:∀o:World,Calls Tryz.prog 290 #[.int .i64 (d.1:Nat)] o λt w'=>t=.returned (.string (i5 d.1))/\w'=o:=λo=>Fv d.1 d.2.le.1 d.2.le.2 o;have s:=gv s;have P:Hid (a<e.length):=by unfold Hid;rw[m.o];exact Z
   have HB:=gv f;have a1:(wr.alloc (.cells #[.int .i64 4,.int .i64 0,.int .i64 0,.string (i5 d.1),.slice none 0 0,.slice none 0 0,.slice none 0 0] 67)).cell? ⟨w.heap.size+1,4,none⟩=some (.slice h a i):=pV (l9 _ f);clear f;go_wp2_with fail;go_region_law (first | (refine KY rfl (.tmp 15) 290 3 rfl (.int .i64 (d.1:Nat)) (.string (i5 d.1)) rfl (enters_of gh (by kernel_rfl) rfl) (s.o _) ?_) | (refine Ab rfl (.tmp 14) (.tmp 18) 29 rfl (w.heap.size+2) 67 i0 _ 7 112 cu W al ao a0 rfl (by decide) (.slice h a i) a _ rfl (g.o.own.drew.alloc _) ⟨wr.heap.size,0,none⟩ 1 1 (cellsOf (uZ d.1)) rfl rfl ?hnews ?hone ?h63 ?hby ?hb ?_;(case hnews=>exact AX (jd wr.drew _));(case hone=>intro a4 M;simp[cellsOf,uZ,Value.cells]at M;rcases M with rfl | rfl | rfl | rfl<;>rfl);(case h63=>unfold maxLen;omega);(case hby=>omega);(case hb=>simp;omega);intro v6 N C J _;obtain⟨x,r⟩:=g.o.step P.o S.o C J;have r:=gv r;have T:N.cell? ⟨w.heap.size+1,4,none⟩=some (.slice h a i):=(cb x);have F:N.frozen? ⟨w.heap.size+1,4,none⟩=false:=nP x;obtain⟨a6,e6,ad⟩:=i_ C;subst ad;clear C J x));all_goals (
    clear T F;go_wp2;go_roundw
    case rel=>exact⟨a+1,_,by omega,by first | rfl | (congr 1),r⟩
    case measure=>simp[intOf];omega)
theorem AG(b:Nat)(i:0<b)(p:b<=1000000):Calls Tryz.prog 288 #[.slice none 0 0,.int .i64 (b:Nat)] w λg w'=>∃a,g=.returned (.slice (some ⟨w.heap.size,0,none⟩) 0 a)/\w'.ownsRow w.heap.size 9 1 (.slice (some ⟨w.heap.size,0,none⟩) 0 a) 0 []/\Below w.heap.size w w':=by
 obtain⟨m,h,j,k,l⟩:=bu iS;go_enter Tryz.func288,Tryz.ntmps288;go_wp2_with (at_builtin;refine Bv rfl (.tmp 20) (.tmp 21) 38 3 rfl 9 m _ .i64 1 16 d_ f9 h j k l rfl (by decide) rfl b rfl i ?h63 ?hby ?_)
 case h63=>unfold maxLen;omega
 case hby=>omega
 intro a q d c n;have f:=gv d;have e:=gv c;clear d c;go_wp2;go_ret;exact⟨a,rfl,f.o,e.o⟩
theorem cS{b c d n1:Nat}{Q s1:Value}{r xs1:List Value}(l:w.heap[b]?=some (.cells #[Q,s1] 38 (0,0)))(x:w.ownsRow 0 9 1 Q d r)(y:w.ownsRow 0 9 1 s1 n1 xs1)(N:∀B∈r,B.oneCell'=true)(O:∀B∈xs1,B.oneCell'=true)(H:0<d+n1)(I:d+n1<=1000000) :
  Calls Tryz.prog 235 #[.slice (some ⟨b,0,none⟩) 2 c] w λh w'=>∃i,h=.returned i/\w'.ownsRow w.heap.size 9 1 i (d+n1) (r++xs1)/\Below w.heap.size w w':=by
 obtain⟨M,G,J,K,L⟩:=bu iS;obtain⟨X,k0,rfl⟩:=i_ x;obtain⟨Y,k1,rfl⟩:=i_ y;have HB:=gv l;have S:=gv x;have T:=gv y;have V:=gv N;have W:=gv O;have Z:=mb l;have c1:=oB l;have F:=ae l;obtain⟨j,z⟩:∃j,d+n1=j:=⟨_,rfl⟩;have g:=gv z;have l0:d<=1000000:=by omega
 have l1:n1<=1000000:=by omega
 rw[z]at H I ⊢;clear l x y N O z;go_enter Tryz.func235,Tryz.ntmps235;go_wp2;go_loopw [3,11] (λA a wr=>w=wr/\((A=.int .i64 0/\a=.int .i64 0)\/(A=.int .i64 (d:Nat)/\a=.int .i64 1)\/(A=.int .i64 (j:Nat)/\a=.int .i64 2))) (λ_ a _=>2-(intOf a).toNat)
 case atStart=>exact⟨rfl,Or.inl ⟨rfl,rfl⟩⟩
 case round =>
  obtain⟨rfl,⟨rfl,rfl⟩ | ⟨rfl,rfl⟩ | ⟨rfl,rfl⟩⟩:=hrel
  ·go_wp2;go_roundw
   case rel=>exact⟨trivial,Or.inr (Or.inl ⟨by simp,rfl⟩)⟩
   case measure=>simp[intOf]
  ·go_wp2;go_roundw
   case rel=>exact⟨trivial,Or.inr (Or.inr ⟨by congr 1;have:=g.o;omega,rfl⟩)⟩
   case measure=>simp[intOf]
  ·have C:=gv (AG (w:=w) j H I);go_wp2_with fail;refine C.o.mono ?_;rintro h w1 ⟨cg,rfl,P,D⟩;have U:=gv P;have R:=gv D;clear P D C;go_wp2;go_loopw [6,27] (λi a s=>Hid (Below w.heap.size w s)/\((a=.int .i64 0/\Hid (s.ownsRow w.heap.size 9 1 i 0 []))\/(a=.int .i64 1/\Hid (s.ownsRow w.heap.size 9 1 i d r))\/(a=.int .i64 2/\Hid (s.ownsRow w.heap.size 9 1 i j (r++xs1))))) (λ_ a _=>2-(intOf a).toNat)
   case atStart=>exact⟨R,Or.inl ⟨rfl,U⟩⟩
   case round =>
    obtain⟨e,⟨rfl,f⟩ | ⟨rfl,f⟩ | ⟨rfl,f⟩⟩:=hrel
    ·have dj:wr.cell? ⟨b,0,none⟩=some (.slice X d k0):=(e.o.cell (p:=⟨b,0,none⟩) F).trans Z;have u:=gv (sY S.o e.o);have m:=e.o.size;obtain⟨ua,uc,rfl⟩:=i_ f.o;go_wp2_with (at_builtin;refine wX rfl (.tmp 31) (.tmp 32) 38 rfl w.heap.size 9 M _ 1 16 d_ G J K L rfl (by decide) _ 0 _ rfl f.o _ d _ rfl u.o V.o ?h63 ?hby ?hbs ?_)
     case h63=>unfold maxLen;have:=g.o;omega
     case hby=>have:=g.o;omega
     case hbs=>exact m
     intro v2 w2 q n;have t:=gv (e.o.grown n m (λk h=>(f.o.lt k h).1));have v:=gv q;clear q n;go_wp2;go_roundw
     case rel=>exact⟨t,Or.inr (Or.inl ⟨rfl,v⟩)⟩
     case measure=>simp[intOf]
    ·have dj:wr.cell? ⟨b,1,none⟩=some (.slice Y n1 k1):=(e.o.cell (p:=⟨b,1,none⟩) F).trans c1;have u:=gv (sY T.o e.o);have m:=e.o.size;obtain⟨ua,uc,rfl⟩:=i_ f.o;go_wp2_with (at_builtin;refine wX rfl (.tmp 31) (.tmp 32) 38 rfl w.heap.size 9 M _ 1 16 d_ G J K L rfl (by decide) _ d _ rfl f.o _ n1 _ rfl u.o W.o ?h63 ?hby ?hbs ?_)
     case h63=>unfold maxLen;have:=g.o;omega
     case hby=>have:=g.o;omega
     case hbs=>exact m
     intro v2 w2 q n;have t:=gv (e.o.grown n m (λk h=>(f.o.lt k h).1));have v:=gv q;clear q n;go_wp2;go_roundw
     case rel=>exact⟨t,Or.inr (Or.inr ⟨rfl,by have E:=v.o;rw[g.o]at E;exact E⟩)⟩
     case measure=>simp[intOf]
    ·go_wp2;go_ret;exact⟨_,rfl,f.o,e.o⟩
theorem AH(b:Nat)(i:0<b)(p:b<=1000000):Calls Tryz.prog 289 #[.slice none 0 0,.int .i64 (b:Nat)] w λg w'=>∃a,g=.returned (.slice (some ⟨w.heap.size,0,none⟩) 0 a)/\w'.ownsRow w.heap.size 67 7 (.slice (some ⟨w.heap.size,0,none⟩) 0 a) 0 []/\Below w.heap.size w w':=by
 obtain⟨m,h,j,k,l⟩:=bu iV;go_enter Tryz.func289,Tryz.ntmps289;go_wp2_with (at_builtin;refine Bv rfl (.tmp 20) (.tmp 21) 29 3 rfl 67 m _ .i64 7 112 cu f9 h j k l rfl (by decide) rfl b rfl i ?h63 ?hby ?_)
 case h63=>unfold maxLen;omega
 case hby=>omega
 intro a q d c n;have f:=gv d;have e:=gv c;clear d c;go_wp2;go_ret;exact⟨a,rfl,f.o,e.o⟩
theorem Hw{b c d n1:Nat}{Q s1:Value}{r xs1:List Value}(l:w.heap[b]?=some (.cells #[Q,s1] 29 (0,0)))(x:w.ownsRow 0 67 7 Q d r)(y:w.ownsRow 0 67 7 s1 n1 xs1)(N:∀B∈r,B.oneCell'=true)(O:∀B∈xs1,B.oneCell'=true)(H:0<d+n1)(I:d+n1<=1000000) :
  Calls Tryz.prog 236 #[.slice (some ⟨b,0,none⟩) 2 c] w λh w'=>∃i,h=.returned i/\w'.ownsRow w.heap.size 67 7 i (d+n1) (r++xs1)/\Below w.heap.size w w':=by
 obtain⟨M,G,J,K,L⟩:=bu iV;obtain⟨X,k0,rfl⟩:=i_ x;obtain⟨Y,k1,rfl⟩:=i_ y;have HB:=gv l;have S:=gv x;have T:=gv y;have V:=gv N;have W:=gv O;have Z:=mb l;have c1:=oB l;have F:=ae l;obtain⟨j,z⟩:∃j,d+n1=j:=⟨_,rfl⟩;have g:=gv z;have l0:d<=1000000:=by omega
 have l1:n1<=1000000:=by omega
 rw[z]at H I ⊢;clear l x y N O z;go_enter Tryz.func236,Tryz.ntmps236;go_wp2;go_loopw [3,11] (λA a wr=>w=wr/\((A=.int .i64 0/\a=.int .i64 0)\/(A=.int .i64 (d:Nat)/\a=.int .i64 1)\/(A=.int .i64 (j:Nat)/\a=.int .i64 2))) (λ_ a _=>2-(intOf a).toNat)
 case atStart=>exact⟨rfl,Or.inl ⟨rfl,rfl⟩⟩
 case round =>
  obtain⟨rfl,⟨rfl,rfl⟩ | ⟨rfl,rfl⟩ | ⟨rfl,rfl⟩⟩:=hrel
  ·go_wp2;go_roundw
   case rel=>exact⟨trivial,Or.inr (Or.inl ⟨by simp,rfl⟩)⟩
   case measure=>simp[intOf]
  ·go_wp2;go_roundw
   case rel=>exact⟨trivial,Or.inr (Or.inr ⟨by congr 1;have:=g.o;omega,rfl⟩)⟩
   case measure=>simp[intOf]
  ·have C:=gv (AH (w:=w) j H I);go_wp2_with fail;refine C.o.mono ?_;rintro h w1 ⟨cg,rfl,P,D⟩;have U:=gv P;have R:=gv D;clear P D C;go_wp2;go_loopw [6,27] (λi a s=>Hid (Below w.heap.size w s)/\((a=.int .i64 0/\Hid (s.ownsRow w.heap.size 67 7 i 0 []))\/(a=.int .i64 1/\Hid (s.ownsRow w.heap.size 67 7 i d r))\/(a=.int .i64 2/\Hid (s.ownsRow w.heap.size 67 7 i j (r++xs1))))) (λ_ a _=>2-(intOf a).toNat)
   case atStart=>exact⟨R,Or.inl ⟨rfl,U⟩⟩
   case round =>
    obtain⟨e,⟨rfl,f⟩ | ⟨rfl,f⟩ | ⟨rfl,f⟩⟩:=hrel
    ·have dj:wr.cell? ⟨b,0,none⟩=some (.slice X d k0):=(e.o.cell (p:=⟨b,0,none⟩) F).trans Z;have u:=gv (sY S.o e.o);have m:=e.o.size;obtain⟨ua,uc,rfl⟩:=i_ f.o;go_wp2_with (at_builtin;refine wX rfl (.tmp 31) (.tmp 32) 29 rfl w.heap.size 67 M _ 7 112 cu G J K L rfl (by decide) _ 0 _ rfl f.o _ d _ rfl u.o V.o ?h63 ?hby ?hbs ?_)
     case h63=>unfold maxLen;have:=g.o;omega
     case hby=>have:=g.o;omega
     case hbs=>exact m
     intro v2 w2 q n;have t:=gv (e.o.grown n m (λk h=>(f.o.lt k h).1));have v:=gv q;clear q n;go_wp2;go_roundw
     case rel=>exact⟨t,Or.inr (Or.inl ⟨rfl,v⟩)⟩
     case measure=>simp[intOf]
    ·have dj:wr.cell? ⟨b,1,none⟩=some (.slice Y n1 k1):=(e.o.cell (p:=⟨b,1,none⟩) F).trans c1;have u:=gv (sY T.o e.o);have m:=e.o.size;obtain⟨ua,uc,rfl⟩:=i_ f.o;go_wp2_with (at_builtin;refine wX rfl (.tmp 31) (.tmp 32) 29 rfl w.heap.size 67 M _ 7 112 cu G J K L rfl (by decide) _ d _ rfl f.o _ n1 _ rfl u.o W.o ?h63 ?hby ?hbs ?_)
     case h63=>unfold maxLen;have:=g.o;omega
     case hby=>have:=g.o;omega
     case hbs=>exact m
     intro v2 w2 q n;have t:=gv (e.o.grown n m (λk h=>(f.o.lt k h).1));have v:=gv q;clear q n;go_wp2;go_roundw
     case rel=>exact⟨t,Or.inr (Or.inr ⟨rfl,by have E:=v.o;rw[g.o]at E;exact E⟩)⟩
     case measure=>simp[intOf]
    ·go_wp2;go_ret;exact⟨_,rfl,f.o,e.o⟩
end
section
variable{w w':World}{B bf:Nat}{j q:Value}{d r:List Nat}
def l_(a:List Nat):List Value:=a.map λb:Nat=>.int .u8 (b:Int)
structure iR(B bf:Nat)(w:World)(j q:Value)(d r:List Nat):Prop where
 hb:B<=bf
 blk:w.heap[bf]?=some (.cells #[j,q] 122 (0,0))
 oo:w.ownsRow B 5 1 j d.length (l_ d)
 po:w.ownsRow B 3 1 q r.length (r.map λx:Nat=>.int .i64 (x:Int))
def s7(w:World)(bf f:Nat):Prop:=∃a:Array Value,∃c e,w.heap[bf]?=some (.cells a c e)/\∃b,a[0]?=some b/\b.ownBlock=some f
structure h_(B bf:Nat)(w w':World):Prop extends gD 5 B [bf] w w' where
 prot:bf<w.heap.size->∀g o,w.heap[g]?=some o->g≠bf->¬ s7 w bf g->w'.heap[g]?=some o/\¬ s7 w' bf g
theorem s7.same{w w':World}{bf a:Nat}(b:w'.heap[bf]?=w.heap[bf]?):s7 w' bf a↔s7 w bf a:=by unfold s7;rw[b]
theorem s7.of{w:World}{bf c:Nat}{b i:Value}{g:TypeId}{h:Nat × Nat}(e:w.heap[bf]?=some (.cells #[b,i] g h)):s7 w bf c↔b.ownBlock=some c:=by
 constructor
 ·rintro⟨k,l,m,a,n,f,h3⟩;rw[e]at a;simp at a;obtain⟨rfl,_,_⟩:=a;simp at f;subst f;exact h3
 ·intro a;exact⟨_,_,_,e,b,rfl,a⟩
theorem h_.refl(B bf:Nat)(w:World):h_ B bf w w:=⟨gD.refl _ _ _ _,λ_ c e a _ b=>⟨a,b⟩⟩
theorem h_.trans{a b e:World}(c:h_ B bf a b)(k:h_ B bf b e):h_ B bf a e:=
 ⟨gD.trans c.togD k.togD,λf g i n h o=>by obtain⟨l,m⟩:=c.prot f g i n h o;exact k.prot (aC f c.size) g i l h m⟩
theorem h_.of_below{b:Nat}(a:Below w.heap.size w w'):h_ B bf w w' :=
 ⟨⟨a.os,a.tape,a.output,a.size,λk l _ e _=>by rw[a.block k (ae e)];exact e⟩,λg f l c _ h=>⟨by rw[a.block f (ae c)];exact c,λi=>h ((s7.same (a.block bf g)).1 i)⟩⟩
theorem h_.alloc(c:h_ B bf w w')(a:Obj):h_ B bf w (w'.alloc a):=c.trans (h_.of_below (b:=0) ((aj _ _).alloc (af _) a))
theorem h_.grown{b f:World}{e:Option Nat}{n E:Value}{c:TypeId}{p:Nat × Nat}(k:h_ B bf w b)(l:b.heap[bf]?=some (.cells #[n,E] c p))(g:b.grownBy f e)(A:∀a,e=some a->B<=a/\∃o s,b.heap[a]?=some (.cells o 5 s))(u:e≠some bf)(C:∀a,e=some a->n.ownBlock=some a\/w.heap.size<=a):h_ B bf w f:=by
 refine⟨gD.grown k.togD g A,λv a D m x y=>?_⟩;obtain⟨h,i⟩:=k.prot v a D m x y;have t:f.heap[bf]?=b.heap[bf]?:=g.block bf (ae l) (λc=>u c.symm);refine⟨?_,λz=>i ((s7.same t).1 z)⟩;rw[g.block a (ae h) (λc=>?_)];·exact h
 ·rcases C a c.symm with h3 | h3;·exact i ((s7.of l).2 h3)
  ·have:=ae m;omega
theorem h_.setV{c:World}{l m b:Value}{e:TypeId}{f:Nat × Nat}(k:h_ B bf w c)(g:c.heap[bf]?=some (.cells #[l,m] e f))(v:∀a,b.ownBlock=some a->l.ownBlock=some a\/w.heap.size<=a):h_ B bf w (c.setCell ⟨bf,0,none⟩ b):=by
 refine⟨gD.setCell k.togD (by simp) b,λs a x h i t=>?_⟩;obtain⟨n,o⟩:=k.prot s a x h i t;have p:(c.setCell ⟨bf,0,none⟩ b).heap[bf]?=some (.cells #[b,m] e f):=by rw[lq _ g];rfl
 refine⟨by rw[jL _ (by show a≠bf;exact i)];exact n,λu=>?_⟩;rcases v a ((s7.of p).1 u)with h3 | h3;·exact o ((s7.of g).2 h3)
 ·have:=ae h;omega
theorem iR.lt(a:iR B bf w j q d r):bf<w.heap.size:=ae a.blk
theorem iR.bw(a:iR B bf w j q d r):B<=w.heap.size:=e_ (dD a.hb a.lt)
theorem iR.ne(b:iR B bf w j q d r)(a:Nat)(e:j.ownBlock=some a):a≠bf:=by rintro rfl;obtain⟨_,f,g,c⟩:=nR b.oo a e;rw[b.blk]at c;simp at c
theorem zY{b B c l i:Nat}{g:Value}{m:List Value}{h:List Nat}(e:w.ownsRow b c l g i m)(k:gD 5 B h w w')(u:c ≠ 5)(s:∀a,g.ownBlock=some a->a∉h):w'.ownsRow b c l g i m:=by
 obtain⟨p,f⟩:=e;refine⟨p,?_⟩;rcases f with f | ⟨a,n,o,e1,e2,v,t⟩;·exact Or.inl f
 ·exact Or.inr ⟨a,n,o,e1,e2,k.block a _ (s a (by rw[e1];rfl)) v (Or.inr λx y e=>by cases e;exact u rfl),t⟩
theorem iR.grow{h c:World}(e:iR B bf w j q d r)(k:h_ B bf w h)(D:h.heap[bf]?=w.heap[bf]?)(C:h.ownsRow B 5 1 j d.length (l_ d))(t:h.grownBy c j.ownBlock){b:Value}{s:Nat}{g:List Nat}(K:∀a,b.ownBlock=some a->j.ownBlock=some a\/w.heap.size<=a)(v:c.ownsRow B 5 1 b (d.length+s) (l_ d++l_ g))(I:g.length=s) :
  iR B bf (c.setCell ⟨bf,0,none⟩ b) b q (d++g) r/\h_ B bf w (c.setCell ⟨bf,0,none⟩ b):=by
 have n:h.heap[bf]?=some (.cells #[j,q] 122 (0,0)):=D.trans e.blk;have o:c.heap[bf]?=some (.cells #[j,q] 122 (0,0)):=by rw[t.block bf (ae n) (λi=>e.ne bf i.symm rfl)];exact n
 have L:h_ B bf w c:=k.grown n t (nR C) (λi=>e.ne bf i rfl) (λa i=>Or.inl i);have x:h_ B bf w (c.setCell ⟨bf,0,none⟩ b):=L.setV o K;have E:(c.setCell ⟨bf,0,none⟩ b).heap[bf]?=some (.cells #[b,q] 122 (0,0)):=by rw[lq _ o];rfl
 have J:∀a,b.ownBlock=some a->a≠bf:=λa p=>by rintro rfl;obtain⟨_,l,z,f⟩:=nR v a p;rw[o]at f;simp at f
 refine⟨⟨e.hb,E,?_,?_⟩,x⟩
 ·have H:(d++g).length=d.length+s:=by rw[ab,I]
  have F:l_ (d++g)=l_ d++l_ g:=by unfold l_;rw[aH]
  rw[H,F];obtain⟨A,m⟩:=v;refine⟨A,?_⟩;rcases m with m | ⟨a,l,y,e1,e2,G,f⟩;·exact Or.inl m
  ·exact Or.inr ⟨a,l,y,e1,e2,by rw[jL _ (by show a≠bf;exact J a (by rw[e1];rfl))];exact G,f⟩
 ·refine zY e.po x.togD (by decide) (λa p u=>?_);simp at u;subst u;obtain⟨_,l,z,f⟩:=nR e.po a p;rw[e.blk]at f;simp at f
theorem A8{b f h g:Nat}{e:Value}{i:List Value}(m:w.ownsRow b f h e g i)(p:Addr)(u:Value)(t:∀a,e.ownBlock=some a->a≠p.block):(w.setCell p u).ownsRow b f h e g i:=by
 obtain⟨n,c⟩:=m;refine⟨n,?_⟩;rcases c with c | ⟨a,k,l,e1,e2,s,o⟩;·exact Or.inl c
 ·exact Or.inr ⟨a,k,l,e1,e2,by rw[dB _ _ _ _ (t a (by rw[e1];rfl))];exact s,o⟩
theorem zm(a:ByteArray):Lib.strCells a=l_ (bl a):=by unfold Lib.strCells l_ bl;rw[dZ];rfl
def jU(a:List ByteArray):List Nat:=a.flatMap bl
theorem EC{e cap:Nat}{n:Array Value}{texts:List ByteArray}(p:iR B bf w j q d r)(i:w.heap[e]?=some (.cells n 9 (0,0)))(E:∀(J:Nat) (b:ByteArray),texts[J]?=some b->n[J]?=some (.string b))(V:texts.length<=cap)(ad:cap<=1000000)(G:d.length+(jU texts).length<=500000000) :
  Calls Tryz.prog 96 #[.pointer (some ⟨bf,0,none⟩),.slice (some ⟨e,0,none⟩) texts.length cap] w λf w'=>f=.returned (.tuple #[])/\∃Z,iR B bf w' Z q (d++jU texts) r/\h_ B bf w w':=by
 obtain⟨Y,R,S,T,U⟩:=bu Tryz.infoByte;have L:=gv p;have W:e≠bf:=by rintro rfl;rw[p.blk]at i;simp at i
 have M:=gv i;have N:=gv E;have O:=gv G;obtain⟨k,u⟩:∃k,texts.length=k:=⟨_,rfl⟩;have C:=gv u;rw[u]at V ⊢;clear p i E u G;go_enter Tryz.func96,Tryz.ntmps96;go_wp2;go_loopw [5,8] (λ_ y wr=>∃(a:Nat) (z:Value),a<=k/\y=.int .i64 (a:Int)/\Hid (iR B bf wr z q (d++jU (texts.take a)) r)/\Hid (h_ B bf w wr)) (λ_ y _=>k-(intOf y).toNat)
 case atStart=>exact⟨0,j,aE _,rfl,by show iR B bf w j q (d++[]) r;rw[ct];exact L.o,h_.refl _ _ _⟩
 case round =>
  obtain⟨a,z,h,rfl,c,m⟩:=hrel;rcases bN h with h | h
  ·subst h;go_wp2
   go_end0
   refine⟨rfl,z,?_,m.o⟩;have:=c.o;rw[show texts.take a=texts from aY (by rw[C.o];exact af _)]at this;exact this
  ·obtain⟨b,x⟩:∃b,texts[a]?=some b:=⟨_,ai (by rw[C.o];exact h)⟩;have D:wr.heap[e]?=some (.cells n 9 (0,0)):=m.o.block e _ (by simpa using W) M.o (Or.inr λac fz f=>by cases f);have ao:wr.cell? ⟨e,a,none⟩=some (.string b):=by rw[cb D];exact N.o a b x
   have v:jU (texts.take (a+1))=jU (texts.take a)++bl b:=by unfold jU;rw[cP,x,cx];simp
   have F:(jU (texts.take (a+1))).length<=(jU texts).length:=by unfold jU;rw[<-cI (a+1) texts,cx,ab];simp
   have al:(d++jU (texts.take a)).length+b.size<=500000000:=by have:=O.o;rw[v,ab,nM]at F;rw[ab];omega
   obtain⟨va,vc,rfl⟩:=i_ c.o.oo;have g:=c.o.blk;have Q:=gv v;clear D v F;generalize H:d++jU (texts.take a)=K at *;have P:=gv H;clear H x;have c0:=mb g;have f0:=ix 0 g;go_wp2_with (at_builtin;refine xQ _ rfl (.tmp 16) (.tmp 17) 23 9 rfl B 5 Y aq cN R S T U _ K.length _ rfl c.o.oo b rfl ?h63 ?hby ?hbs ?_)
   case h63=>unfold maxLen;omega
   case hby=>omega
   case hbs=>exact c.o.bw
   intro v6 w6 l t I;have s:w6.heap[bf]?=some (.cells #[.slice va K.length vc,q] 122 (0,0)):=by rw[t.block bf (ae g) (λf=>c.o.ne bf f.symm rfl)];exact g
   rw[zm]at l;have A:=gv (c.o.grow (h_.refl _ _ _) rfl c.o.oo t I l (nM b));obtain⟨a0,a1,X⟩:=i_ l;subst X;have c6:=mb s;have f6:=ix 0 s;clear l t I s g;go_wp2;go_roundw
   case rel=>exact⟨a+1,_,by omega,by first | rfl | (congr 1),by rw[Q.o,<-ak,P.o];exact A.o.1,m.o.trans A.o.2⟩
   case measure=>simp[intOf];omega
end
end Go.Proofs.YtgkljcmjnphpeaaGreatDoor
