import Derived.Test.YtgkljcmjnphpeaaGreatDoorK11
set_option linter.unusedVariables false
set_option linter.unusedSimpArgs false
set_option maxHeartbeats 4000000
set_option maxRecDepth 100000
namespace Go.Proofs.YtgkljcmjnphpeaaGreatDoor
open Go.RowKit
section
open Go.RowKit Go.Maps Go.WideMaps
variable{w d:World}
def nF(a:List Nat):Lit:=.string (gC a).data.toList
theorem sk(c b:List Nat):(nF c).sameKey (nF b)=decide (gC c=gC b):=by unfold nF;simp only[Lit.sameKey];rw[aZ,beq_iff_eq,du];exact⟨λa=>fP (Array.toList_inj.1 a),λa=>by rw[a]⟩
theorem EP:∀(c:List Lit) (a:List Lit),(c.foldl addKey a).length<=a.length+c.length
 | [],a=>by simp
 |b::r,a=>by
  rw[fU];have:=EP r (addKey a b);have e:(addKey a b).length<=a.length+1:=by unfold addKey;split<;>simp
  simp only[ag];omega
theorem EO:∀(j a:List (List Nat)),((j.map nF).foldl addKey (a.map nF)).length=a.length+j.length↔(j.map gC).Nodup/\∀f∈j,gC f∉a.map gC
 | [],a=>by simp
 |f::r,a=>by
  rw[bJ,fU];have l:(a.map nF).any (λc=>c.sameKey (nF f))=true↔gC f∈a.map gC:=by
   rw[List.any_map,List.any_eq_true,cv];constructor
   ·rintro⟨c,b,g⟩;simp only[Function.comp_apply,sk,du]at g;exact⟨c,b,g⟩
   ·rintro⟨c,b,g⟩;refine⟨c,b,?_⟩;simp only[Function.comp_apply,sk,du];exact g
  by_cases i:gC f∈a.map gC
  ·have e1:addKey (a.map nF) (nF f)=a.map nF:=by unfold addKey;rw[aA (l.2 i)]
   rw[e1];have:=EP (r.map nF) (a.map nF);simp only[av,ag]at *;constructor;·intro g;omega
   ·rintro⟨_,g⟩;exact absurd i (g f (by simp))
  ·have e1:addKey (a.map nF) (nF f)=(a++[f]).map nF:=by unfold addKey;rw[au (λg=>i (l.1 g))];simp
   rw[e1];have ih:=EO r (a++[f]);rw[ab]at ih;simp only[ag,aw,bJ,List.nodup_cons];rw[show a.length+(r.length+1)=a.length+(0+1)+r.length by omega];rw[ag,aw]at ih;rw[ih];constructor
   ·rintro⟨k,h⟩;refine⟨⟨λe=>?_,k⟩,λc b=>?_⟩
    ·obtain⟨c,b,m⟩:=cv.1 e;exact h c b (by simp[m])
    ·rcases bT.1 b with rfl | b;·exact i
     ·intro e;exact h c b (by rw[aH];exact List.mem_append_left _ e)
   ·rintro⟨⟨k,h⟩,h3⟩;refine⟨h,λc b e=>?_⟩;rw[aH,bH]at e;rcases e with e | e;·exact h3 c (by simp[b]) e
    ·simp at e;exact k (cv.2 ⟨c,b,e⟩)
theorem Lc(a:List (List Nat)):(Maps.size (setOf (H:=Unit) (.agg []) (a.map nF))=a.length)↔(a.map gC).Nodup:=by rw[size_setOf _ _ (λe b=>by obtain⟨c,_,rfl⟩:=cv.1 b;trivial)];have:=EO a [];simp only[dR,aw,b_,eS,not_false_eq_true,implies_true,and_true]at this;exact this
theorem kS:Keyed Tryz.prog 9:=string_keyed cN
theorem FJ{bq:Nat->Prop}{k:Nat}{a8:Value}{a:gz (VT k)}(x:gR bq (k+1) w a8 a)(br:a.keys.length<=200000) :
  Calls Tryz.prog 232 #[a8] w λv d=>v=.returned (.bool (lu a.keys a.items.length))/\Below w.heap.size w d:=by
 obtain⟨iv,kv,fv,vs,f,a7,a2,bs,U,a0⟩:=x.parts;obtain⟨n,p,rfl⟩:=i_ a2.1;obtain⟨B,q,rfl⟩:=i_ U.1;obtain⟨j,l,rfl⟩:=i_ a0.1;have HK:=gv U;clear x a0 a2 U bs;rw[a7]at f;obtain⟨b,V⟩:∃b,a.keys.length=b:=⟨_,rfl⟩;obtain⟨A,T⟩:∃A,a.items.length=A:=⟨_,rfl⟩;have bx:b<=200000:=by omega
 rw[V,T]at f;rw[T];unfold nV at f;generalize (a.kind:Int)=r at f;generalize a.n=s at f;generalize (a.places:Int)=t at f;generalize gC a.text=u at f;generalize a.filters.length=m at f;subst f;obtain⟨C,Q⟩:∃C,lu a.keys A=C:=⟨_,rfl⟩;rw[Q];have D:=gv Q;have h:=gv V;clear Q V br a7 T;unfold lu at D;rw[h.o]at D;by_cases W:b=A
 ·subst W;rw[aL (rfl:b=b),dJ]at D;have B1:Hid (Below w.heap.size w (w.alloc (.cells #[.int .i64 r,.int .i64 s,.int .i64 t,.string u,.slice n b p,.slice B b q,.slice j m l] 67))):=(aj _ _).alloc (af _) _;have ba:Hid ((w.alloc (.cells #[.int .i64 r,.int .i64 s,.int .i64 t,.string u,.slice n b p,.slice B b q,.slice j m l] 67)).heap[w.heap.size]?=some (.cells #[.int .i64 r,.int .i64 s,.int .i64 t,.string u,.slice n b p,.slice B b q,.slice j m l] 67 (0,0))):=jd _ _;have bw:=@run_makeMap Tryz.prog;have bc:Hid (((w.alloc (.cells #[.int .i64 r,.int .i64 s,.int .i64 t,.string u,.slice n b p,.slice B b q,.slice j m l] 67)).alloc (.map #[] 0)).ownsMap Tryz.prog 9 (unitElem (H:=Unit)) (w.heap.size+1) 0 (.map [])):=by have:=World.ownsMap_made (H:=Unit) (w.alloc (.cells #[.int .i64 r,.int .i64 s,.int .i64 t,.string u,.slice n b p,.slice B b q,.slice j m l] 67)) Tryz.prog 9 unitElem;rw[bM]at this;exact this
  go_enter Tryz.func232,Tryz.ntmps232;go_wp2;go_loopw [17] (λY wr=>∃(c:Nat),c<=b/\Y=.int .i64 c/\Hid (wr.ownsMap Tryz.prog 9 (unitElem (H:=Unit)) (w.heap.size+1) c (setOf (.agg []) ((a.keys.take c).map nF)))/\Hid (Below w.heap.size w wr)/\Hid (wr.heap[w.heap.size]?=some (.cells #[.int .i64 r,.int .i64 s,.int .i64 t,.string u,.slice n b p,.slice B b q,.slice j m l] 67 (0,0)))/\Hid ((((a.keys.drop c).all λe=>jM (gC e))&&decide ((a.keys.map gC).Nodup))=C)) (λY _=>b-(intOf Y).toNat)
  case atStart=>exact⟨0,aE _,rfl,by simpa[setOf]using bc,B1.o.alloc (by simp) _,l9 _ ba.o,D⟩
  case round =>
   obtain⟨c,y,rfl,K,g,L,i⟩:=hrel;rcases bN y with y | y
   ·subst y;have e1:a.keys.take c=a.keys:=aY (by rw[h.o];exact af _);have e2:a.keys.drop c=[]:=dt (by rw[h.o];exact af _);rw[e1]at K;rw[e2]at i;have I:=Lc a.keys;rw[h.o]at I;obtain⟨N,X⟩:∃N,Maps.size (setOf (H:=Unit) (.agg []) (a.keys.map nF))=N:=⟨_,rfl⟩;rw[X]at I;have al:C=((N:Int)==(c:Int)):=by
     rw[<-i.o];by_cases M:(a.keys.map gC).Nodup;·rw[aL M,I.2 M];simp
     ·rw[a_ M];have:N≠c:=λv=>M (I.1 v);simp;omega
    have bf:=gv al;have HZ:=gv X;have d5:=rj L.o;clear I al X i;go_wp2_with (first
     | (at_len;refine wpList_len_own _ rfl _ 265 rfl 9 266 Tryz.underlying265 (unitElem (H:=Unit)) (w.heap.size+1) c _ rfl K.o ?_;rw[HZ.o])
     |go_in)
    go_ret;exact⟨by rw[bf.o];rfl,g.o⟩
   ·obtain⟨e,G⟩:∃e,a.keys[c]?=some e:=⟨_,ai (by rw[h.o];exact y)⟩;have ao:a.keys.drop c=e::a.keys.drop (c+1):=by rw[bU (by rw[h.o];exact y)];congr 1;rw[ai (by rw[h.o];exact y)]at G;simpa using G
    have a6:a.keys.take (c+1)=a.keys.take c++[e]:=by rw[cP,G];rfl
    rw[ao,fQ]at i;obtain⟨ad,bv,a1,R⟩:=ro HK.o.1 (show(a.keys.map λe=>Value.string (gC e))[c]?=some (.string (gC e))by rw[bj,G];rfl);rw[h.o]at a1;cases a1;have dk:wr.cell? ⟨ad,c,none⟩=some (.string (gC e)):=by rw[g.o.cell (aB w _ R)];exact R
    have J:=gv (AL (gC e));have bm:Hid (setOf (H:=Unit) (.agg []) ((a.keys.take (c+1)).map nF)=(setOf (.agg []) ((a.keys.take c).map nF)).put (nF e) (.agg [])):=by unfold Hid;rw[a6,aH];exact setOf_snoc _ _ _
    have O:Hid ((gC e).size<=60->keyOf Tryz.prog 9 (.string (gC e))=some (nF e)):=λx=>keyOf_string_mk cN (by unfold maxLen;omega);have a3:jM (gC e)=true->(gC e).size<=60:=λx=>by unfold jM at x;simp at x;exact x.1
    have P:=gv a3;clear G ao a6 R a3;generalize nF e=bt at *;generalize gC e=ac at *;by_cases F:jM ac=true
    ·rw[F]at J i;have bb:=gv (O.o (P.o F));clear F O P;go_wp2_with fail;refine(J.o _).mono ?_;rintro v w2 ⟨rfl,z⟩;have z:=z.symm;subst z;go_wp2_with (first
      | (at_mapUpdate;refine wpList_mapUpdate_own _ rfl _ _ _ 265 rfl 9 266 kS Tryz.underlying265 (unitElem (H:=Unit)) (w.heap.size+1) c _ rfl K.o (by unfold maxLen;omega) _ _ _ rfl rfl bb.o _ [] unitElem_mk ?_;intro Z a5 S)
      |go_in)
     have bd:Hid (Z.ownsMap Tryz.prog 9 (unitElem (H:=Unit)) (w.heap.size+1) (c+1) (setOf (.agg []) ((a.keys.take (c+1)).map nF))):=by unfold Hid;rw[bm.o];exact a5
     have a9:Hid (Below w.heap.size w Z):=g.o.grown S g.o.size (λbz hj=>by cases hj;omega);have bn:Hid (Z.heap[w.heap.size]?=some (.cells #[.int .i64 r,.int .i64 s,.int .i64 t,.string u,.slice n b p,.slice (some ⟨ad,0,none⟩) b q,.slice j m l] 67 (0,0))):=by unfold Hid;rw[S.block _ (ae L.o) (λv=>by have:=dy v;omega)];exact L.o
     clear a5 S K g L;go_wp2;go_roundw
     case rel=>exact⟨c+1,by omega,by first | rfl | (congr 1),bd,a9,bn,i⟩
     case measure=>simp[intOf];omega
    ·have a4:jM ac=false:=by simpa using F
     rw[a4]at J i;have E:C=false:=i.o.symm;have bi:=gv E;clear E F a4 O P;go_wp2_with fail;refine(J.o _).mono ?_;rintro v w2 ⟨rfl,z⟩;have z:=z.symm;subst z;go_wp2;go_ret;exact⟨by rw[bi.o];rfl,g.o⟩
 ·have E:C=false:=by rw[<-D.o,a_ W];rfl
  rw[E];have t1:(((b:Int) != (A:Int)))=true:=by simp;omega
  have t2:(((b:Int)==(A:Int)))=false:=by simp;omega
  have hb:=(aj w.heap.size w).alloc (af _) (.cells #[.int .i64 r,.int .i64 s,.int .i64 t,.string u,.slice n A p,.slice B b q,.slice j m l] 67);have g:=gv hb;clear hb W E;go_enter Tryz.func232,Tryz.ntmps232;go_wp2;go_ret;exact⟨rfl,g.o⟩
end
section
variable{w a:World}
theorem oG(c:ByteArray)(d:List UInt8):(c.toList==d)=decide (c=⟨d.toArray⟩):=by rw[aZ,beq_iff_eq,du,eO];exact⟨λb=>fP (by rw[<-b,Array.toArray_toList]),λb=>by rw[b]⟩
theorem Dc{a7:Nat->Prop}{k:Nat}{ao:Value}{c:gz (VT k)}(ac:gR a7 (k+1) w ao c)(a3:c.keys.length<=200000)(a9:c.filters.length<=200000) :
  Calls Tryz.prog 233 #[ao] w λt a=>t=.returned (.bool (lz c))/\Below w.heap.size w a:=by
 obtain⟨iv,kv,fv,vs,s,ba,a4,bb,al,ad⟩:=ac.parts;have HD:Hid (∀H:World,Below w.heap.size w H->Calls Tryz.prog 232 #[ao] H λt a=>t=.returned (.bool (lu c.keys c.items.length))/\Below H.heap.size H a):=
  λH b=>FJ (gR.keep (k+1) ac (λI _ hg=>b.block I hg)) a3
 obtain⟨U,V,rfl⟩:=i_ a4.1;obtain⟨X,Y,rfl⟩:=i_ al.1;obtain⟨O,P,rfl⟩:=i_ ad.1;have HK:=gv al;have a6:=gv ad;clear ac ad a4 al bb;obtain⟨f,hR⟩:∃f,lz c=f:=⟨_,rfl⟩;rw[hR];have e:=gv hR;clear hR;unfold lz at e;obtain⟨q,hn⟩:∃q,c.keys.length=q:=⟨_,rfl⟩;obtain⟨d,R⟩:∃d,c.filters.length=d:=⟨_,rfl⟩;have bd:q<=200000:=by omega
 have bc:d<=200000:=by omega
 rw[hn,R]at s;rw[R]at e;unfold nV at s;generalize (c.kind:Int)=Z at s;generalize c.n=nn at s;generalize (c.places:Int)=pp at s;generalize gC c.text=M at s e;generalize vs.length=W at s;subst s;have F:=gv hn;have E:=gv R;clear hn R a3 a9 ba;have N:Hid (Below w.heap.size w (w.alloc (.cells #[.int .i64 Z,.int .i64 nn,.int .i64 pp,.string M,.slice U W V,.slice X q Y,.slice O d P] 67))):=(aj _ _).alloc (af _) _;have a0:Hid ((w.alloc (.cells #[.int .i64 Z,.int .i64 nn,.int .i64 pp,.string M,.slice U W V,.slice X q Y,.slice O d P] 67)).heap[w.heap.size]?=some (.cells #[.int .i64 Z,.int .i64 nn,.int .i64 pp,.string M,.slice U W V,.slice X q Y,.slice O d P] 67 (0,0))):=jd _ _;have D:=gv (HD.o _ N.o);clear HD;cases J:lu c.keys c.items.length with
 |false=>rw[J]at D e;have G:Hid (f=false):=e.o.symm;clear J e;go_enter Tryz.func233,Tryz.ntmps233;go_wp2_with fail;refine D.o.mono ?_;rintro t w2 ⟨rfl,C⟩;have j:=gv (N.o.trans (C.mono (by simp)));clear C;go_wp2;go_ret;exact⟨by rw[G.o];rfl,j.o⟩
 |true =>
  rw[J,dJ]at e;rw[J]at D;clear J;go_enter Tryz.func233,Tryz.ntmps233;go_wp2_with fail;refine D.o.mono ?_;rintro t w2 ⟨rfl,C⟩;have j:=gv (N.o.trans (C.mono (by simp)));have Q:w2.heap[w.heap.size]?=some (.cells #[.int .i64 Z,.int .i64 nn,.int .i64 pp,.string M,.slice U W V,.slice X q Y,.slice O d P] 67 (0,0)):=by rw[C.block _ (by simp)];exact a0.o
  have d3:=qU Q;have d5:=rj Q;have d6:=sJ Q;clear C Q a0 D N;by_cases ht:M.size<=20000
  ·rw[aL ht,dJ]at e;by_cases a2:d<=4
   ·rw[aL a2,dJ]at e;go_wp2;go_loopw [25] (λA wr=>∃(i:Nat),i<=q/\A=.int .i64 i/\wr=w2/\Hid ((((c.keys.drop i).all λm => !lj (gC m))&&(c.filters.all λd=>decide (1<=d/\d<=4)))=f)) (λA _=>q-(intOf A).toNat)
    case atStart=>exact⟨0,aE _,rfl,rfl,e⟩
    case round =>
     obtain⟨i,y,rfl,rfl,g⟩:=hrel;rcases bN y with y | y
     ·subst y;have e2:c.keys.drop i=[]:=dt (by rw[F.o];exact af _);have a1:Hid ((c.filters.all λd=>decide (1<=d/\d<=4))=f):=by unfold Hid;rw[<-g.o,e2];rfl
      clear g e e2;go_wp2;go_loopw [43] (λA wx=>∃(h:Nat),h<=d/\A=.int .i64 h/\wx=wr/\Hid (((c.filters.drop h).all λd=>decide (1<=d/\d<=4))=f)) (λA _=>d-(intOf A).toNat)
      case atStart=>exact⟨0,aE _,rfl,rfl,a1⟩
      case round =>
       obtain⟨h,x,rfl,rfl,n⟩:=hrel;rcases bN x with x | x
       ·subst x;have e2:c.filters.drop h=[]:=dt (by rw[E.o];exact af _);have p:Hid (f=true):=by unfold Hid;rw[<-n.o,e2];rfl
        clear n a1 e2;go_wp2;go_ret;exact⟨by rw[p.o];rfl,j.o⟩
       ·obtain⟨B,T⟩:∃B,c.filters[h]?=some B:=⟨_,ai (by rw[E.o];exact x)⟩;have K:c.filters.drop h=B::c.filters.drop (h+1):=by rw[bU (by rw[E.o];exact x)];congr 1;rw[ai (by rw[E.o];exact x)]at T;simpa using T
        rw[K,fQ]at n;obtain⟨I,a8,L,v⟩:=ro a6.o.1 (show(c.filters.map λd:Nat=>Value.int .i64 (d:Int))[h]?=some (.int .i64 (B:Int))by rw[bj,T];rfl);rw[E.o]at L;cases L;have dk:wr.cell? ⟨I,h,none⟩=some (.int .i64 (B:Int)):=by rw[j.o.cell (aB w _ v)];exact v
        clear T K v;by_cases a5:1<=B/\B<=4
        ·rw[aL a5,dJ]at n;go_wp2_with fail;refine(pG _ 1 4 _ (by omega) (by omega)).mono ?_;rintro t w3 ⟨rfl,z⟩;have z:=z.symm;subst z;go_wp2;go_roundw
         case rel=>first | exact⟨h+1,by omega,by first | rfl | (congr 1),rfl,n⟩ | exact⟨h+1,by omega,by first | rfl | (congr 1),trivial,n⟩
         case measure=>simp[intOf];omega
        ·rw[a_ a5,Bool.false_and]at n;have p:Hid (f=false):=n.o.symm;clear n;go_wp2_with fail;refine(sF _ 1 4 _ (by omega)).mono ?_;rintro t w3 ⟨rfl,z⟩;have z:=z.symm;subst z;go_wp2;go_ret;exact⟨by rw[p.o];rfl,j.o⟩
     ·obtain⟨m,S⟩:∃m,c.keys[i]?=some m:=⟨_,ai (by rw[F.o];exact y)⟩;have K:c.keys.drop i=m::c.keys.drop (i+1):=by rw[bU (by rw[F.o];exact y)];congr 1;rw[ai (by rw[F.o];exact y)]at S;simpa using S
      rw[K,fQ]at g;obtain⟨I,a8,L,v⟩:=ro HK.o.1 (show(c.keys.map λm=>Value.string (gC m))[i]?=some (.string (gC m))by rw[bj,S];rfl);rw[F.o]at L;cases L;have dk:wr.cell? ⟨I,i,none⟩=some (.string (gC m)):=by rw[j.o.cell (aB w _ v)];exact v
      clear S K v;generalize gC m=l at *;by_cases r:l={ data:=#[76,101,110,103,116,104] }
      ·have p:Hid (f=false):=by unfold Hid;rw[<-g.o];unfold lj;rw[aL r];rfl
       have c1:(l.toList==[76,101,110,103,116,104])=true:=by rw[oG,cQ];exact r
       clear g r;go_wp2;go_ret;exact⟨by rw[p.o];rfl,j.o⟩
      ·have c1:(l.toList==[76,101,110,103,116,104])=false:=by rw[oG,bG];exact r
       by_cases u:l={ data:=#[70,105,108,116,101,114] }
       ·have p:Hid (f=false):=by unfold Hid;rw[<-g.o];unfold lj;rw[aL u,Bool.or_true];rfl
        have c2:(l.toList==[70,105,108,116,101,114])=true:=by rw[oG,cQ];exact u
        clear g r u;go_wp2;go_ret;exact⟨by rw[p.o];rfl,j.o⟩
       ·have c2:(l.toList==[70,105,108,116,101,114])=false:=by rw[oG,bG];exact u
        by_cases h3:l={ data:=#[68,101,99,111,100,101,80,97,114,109,115] }
        ·have p:Hid (f=false):=by unfold Hid;rw[<-g.o];unfold lj;rw[aL h3,Bool.or_true];rfl
         have c3:(l.toList==[68,101,99,111,100,101,80,97,114,109,115])=true:=by rw[oG,cQ];exact h3
         clear g r u h3;go_wp2;go_ret;exact⟨by rw[p.o];rfl,j.o⟩
        ·have c3:(l.toList==[68,101,99,111,100,101,80,97,114,109,115])=false:=by rw[oG,bG];exact h3
         have hb:lj l=false:=by unfold lj;rw[a_ r,a_ u,a_ h3];rfl
         rw[hb,Bool.not_false,dJ]at g;clear r u h3 hb;go_wp2;go_roundw
         case rel=>first | exact⟨i+1,by omega,by first | rfl | (congr 1),rfl,g⟩ | exact⟨i+1,by omega,by first | rfl | (congr 1),trivial,g⟩
         case measure=>simp[intOf];omega
   ·have G:Hid (f=false):=by unfold Hid;rw[<-e.o,a_ a2];rfl
    clear e;go_wp2;go_ret;exact⟨by rw[G.o];rfl,j.o⟩
  ·have G:Hid (f=false):=by unfold Hid;rw[<-e.o,a_ ht];rfl
   clear e;go_wp2;go_ret;exact⟨by rw[G.o];rfl,j.o⟩
end
end Go.Proofs.YtgkljcmjnphpeaaGreatDoor
