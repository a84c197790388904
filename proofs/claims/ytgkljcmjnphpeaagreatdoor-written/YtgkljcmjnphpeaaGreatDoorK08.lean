import Derived.Test.YtgkljcmjnphpeaaGreatDoorK07
set_option linter.unusedVariables false
set_option linter.unusedSimpArgs false
set_option maxHeartbeats 4000000
set_option maxRecDepth 100000
namespace Go.Proofs.YtgkljcmjnphpeaaGreatDoor
open Go.RowKit
section
variable{B d:Nat}{w c:World}
theorem wu(a:List Nat)(e:∀b∈a,b<256):bl (gC a)=a:=by unfold bl gC;simp only[dZ];have:a.map (UInt8.toNat ∘ UInt8.ofNat)=a.map id:=List.map_congr_left (λb f=>by simp[ew (e b f)]);simpa using this
theorem Ht(l e:List Nat):gA ((gA l).1++48::e)=((gA l).1,48::e):=by
 cases l with
 |nil=>simp[gA]
 |cons b r =>
  simp only[gA];by_cases a:b=43\/b=45;·rw[aA a];simp[gA,a]
  ·rw[au a];simp[gA]
theorem sr{l a b:List Nat}(k:a.length<=9)(m:b.length<=9)(g:∀e∈a,e<256)(h:∀e∈b,e<256):Small ((gA l).1++48::(a++b)):=by unfold Small;rw[Ht];refine⟨by simp only[ag,ab];omega,λf=>?_⟩;simp only[fQ,dX]at f;have j:=Dq (a++b) 0 (λe i=>(bH.1 i).elim (g e) (h e)) f.2;have h3:10^(a++b).length<=10^18:=cy (by decide) (by rw[ab];omega);have:jN (48::(a++b))=(a++b).foldl qi 0:=rfl;simp only[];omega
theorem LD(l:List Nat):(jk l).length<=l.length:=by
 unfold jk;rw[List.length_reverse];have:=(cT (l:=l.reverse) λb=>b==48).length_le
 rwa [List.length_reverse]at this
theorem tm{l:List Nat}{e:Nat}(a:e∈jk l):e∈l:=by
 unfold jk at a;rw[List.mem_reverse]at a;have:=(cT (l:=l.reverse) λb=>b==48).subset a
 rwa [List.mem_reverse]at this
def oJ(b:List Nat)(w:World)(a:Ending)(c:World):Prop:=match lh b with
 |some (e,f)=>a=.returned (.agg #[.int .i64 3,.int .i64 e,.int .i64 (f:Int),.string { data:=#[] },.slice none 0 0,.slice none 0 0,.slice none 0 0])/\Below w.heap.size w c
 |none=>a=gU 4/\Below w.heap.size w c
theorem oJ.none_{a:List Nat}{w c:World}(e:lh a=none)(b:Below w.heap.size w c):oJ a w (gU 4) c:=by unfold oJ;rw[e];exact⟨rfl,b⟩
theorem Kj(he:o_ B w)(hB:B<=w.heap.size)(p:ByteArray)(hS:p.size<=1000000):Calls Tryz.prog 308 #[.string p] w (oJ (bl p) w):=by
 have Z:=gv (Fb (w:=w.alloc (.cells gZ 67)) p hS);have Y:=gv (zR p);have HE:=gv he;have bn:(bl p).length=p.size:=nM p;generalize bl p=a at *;obtain⟨h,R⟩:∃h,gC (gA a).2=h:=⟨_,rfl⟩;have x:bl h=(gA a).2:=by rw[<-R];exact wu _ (λo j=>Y.o o (Fa j))
 have bf:h.size<=1000000:=by
  rw[xI,x];have:(gA a).2.length<=a.length:=by
   unfold gA;cases a with
   |nil=>exact af _
   |cons b C=>simp only[];split<;>simp
  omega
 have m:Hid (Below w.heap.size w (w.alloc (.cells gZ 67))):=(aj _ _).alloc (af _) _;have HZ:Hid ((w.alloc (.cells gZ 67)).heap[w.heap.size]?=some (.cells gZ 67 (0,0))):=jd _ _;generalize hW:w.alloc (.cells gZ 67)=q at *;have al:w.alloc (.cells #[.int .i64 0,.int .i64 0,.int .i64 0,.string { data:=#[] },.slice none 0 0,.slice none 0 0,.slice none 0 0] 67)=q:=hW;have a4:=gv al;clear he hW al;go_enter Tryz.func308,Tryz.ntmps308;go_wp2_with fail;rw[a4.o];refine Z.o.mono ?_;rintro i w1 ⟨⟨a5,b,rfl,ha,hb⟩,z,rfl⟩;have a9:b=.string h:=by rw[<-R];exact hb
 have a8:a5=.string (gC (gA a).1):=ha;subst a9 a8;clear ha hb Z R;have a3:Hid (o_ B (q.drewN z)):=HE.o.below hB (m.o.trans ((tN q z).mono m.o.size));obtain⟨mx,ao⟩:=a3.o.mx;have n:=gv (Tryz.strings_Cut h { data:=#[46] } mx (q.drewN z) (by omega) ao);rw[show({ data:=#[46] }:ByteArray).data.toList=[46]from rfl,yt]at n;have r:=F0 46 h.data.toList;have y:=F3 46 h.data.toList;rw[show(UInt8.toNat 46)=46 from rfl]at r y;rw[show h.data.toList.map UInt8.toNat=(gA a).2 from x]at r y;clear ao;cases I:h.data.toList.dropWhile (λb=>b != 46)with
 |nil =>
  rw[I]at n r;simp only[]at n;have HN:Hid (lh a=none):=by unfold Hid lh;rw[<-r];rfl
  clear I r y;go_wp2_with fail;refine n.o.mono ?_;rintro i w2 ⟨rfl,J,rfl⟩;go_wp2_with fail;refine(sn _).mono ?_;rintro i c ⟨rfl,rfl⟩;exact⟨rfl,oJ.none_ HN.o (m.o.trans ((tN q _).mono m.o.size))⟩
 |cons o C =>
  rw[I]at n r;simp only[]at n;obtain⟨f,Q⟩:∃f:ByteArray,⟨(h.data.toList.takeWhile λb=>b != 46).toArray⟩=f:=⟨_,rfl⟩;obtain⟨e,S⟩:∃e:ByteArray,⟨C.toArray⟩=e:=⟨_,rfl⟩;rw[Q,S]at n;have U:bl f=(gA a).2.takeWhile λb=>b != 46:=by rw[<-Q,uC];exact y
  have V:bl e=C.map UInt8.toNat:=by rw[<-S,uC]
  have s:Hid (lh a=if 1<=max f.size e.size/\max f.size e.size<=9 then(kI ((gA a).1++48::(bl f++jk (bl e)))).map λt=>(t,(jk (bl e)).length)else none):=by unfold Hid lh;rw[<-r];simp only[bJ];rw[xI f,xI e,U,V]
  have L:Hid ((∀o∈bl f,o<256)/\(∀o∈bl e,o<256)):=⟨zR f,zR e⟩;have bd:f.size<=1000000:=by
   rw[xI,U];have:=(eE (l:=(gA a).2) λb=>b != 46).length_le;have h2:(gA a).2.length=h.size:=by rw[<-x,nM]
   omega
  have bi:e.size<=1000000:=by rw[xI,V];have h1:=(cT (l:=(gA a).2) λb=>b != 46).length_le;rw[<-r,<-x,nM]at h1;simp only[bJ,ag,av]at h1 ⊢;omega
  clear I r y Q S x;have bb:max (f.size:Int) (e.size:Int)=((max f.size e.size:Nat):Int):=by omega
  by_cases E:1<=max f.size e.size/\max f.size e.size<=9
  ·have O:=gv (λW2 => Tryz.strings_TrimRight_one e 48 (by decide) W2 (by omega));obtain⟨g,T⟩:∃g:ByteArray,⟨(Lib.trimRightB e.data.toList 48).toArray⟩=g:=⟨_,rfl⟩;rw[T]at O;have H:bl g=jk (bl e):=by rw[<-T];exact LC e
   have bm:g.size<=9:=by rw[xI,H];have:=LD (bl e);rw[nM]at this;omega
   have ac:Hid (Small ((gA a).1++48::(bl f++bl g))):=sr (by rw[nM];omega) (by rw[nM];omega) L.o.1 (λo j=>by rw[H]at j;exact L.o.2 o (tm j));rw[aA E,<-H,nM g]at s;have bq:(gC (gA a).1).size<=1:=by
    unfold gC gA;cases a with
    |nil=>simp[ByteArray.size]
    |cons b C=>simp only[];split<;>simp[ByteArray.size]
   have X:bl (gC (gA a).1)=(gA a).1:=by
    refine wu _ (λo j=>Y.o o ?_);unfold gA at j;cases a with
    |nil=>cases j
    |cons b C =>
     simp only[]at j;split at j;·simp at j;simp[j]
     ·cases j
   generalize gC (gA a).1=a2 at *;have v:∃u:ByteArray,((a2++{ data:=#[48] })++f)++g=u:=⟨_,rfl⟩;obtain⟨u,v⟩:=v;have W:bl u=(gA a).1++48::(bl f++bl g):=by rw[<-v,zO,zO,zO,X,bo];simp
   have a7:u.size<=1000000:=by rw[xI,W,<-X];simp only[ab,ag,nM];omega
   have M:=gv (λbc=>ET (HE.o.below hB (m.o.trans ((tN q bc).mono m.o.size))) u a7);rw[W]at M;have HX:=gv v;clear v W X T H L U V;go_wp2_with fail;refine n.o.mono ?_;rintro i w2 ⟨rfl,J,rfl⟩;have F:(1:Int)<=((max f.size e.size:Nat):Int):=by omega
   have ad:((max f.size e.size:Nat):Int)<=9:=by omega
   clear E n;go_wp2_with fail;refine(pG _ 1 9 _ F ad).mono ?_;rintro i c ⟨rfl,rfl⟩;clear F ad bb;go_wp2_with fail;refine(oq _).mono ?_;rintro i c ⟨rfl,rfl⟩;go_wp2_with fail;refine(O.o _).mono ?_;rintro i c ⟨rfl,rfl⟩;go_wp2_with fail;rw[HX.o];refine(M.o _).mono ?_;rintro i w3 ⟨⟨t,ev,rfl,ba,a0⟩,P⟩;have D:=gv (a0 ac.o);have K:=gv (m.o.trans (((tN q (z+J)).trans P).mono m.o.size));have l:w3.heap[w.heap.size]?=some (.cells gZ 67 (0,0)):=by rw[((tN q (z+J)).trans P).block _ (ae HZ.o)];exact HZ.o
   clear a0 P M ac O;rcases ba with rfl | ⟨te,pe,rfl⟩
   ·have N:Hid (lh a=some (t,g.size)):=by
     unfold Hid;rw[s.o];have:=D.o;unfold AI at this;cases G:kI ((gA a).1++48::(bl f++bl g))with
     |some a1=>rw[G]at this;rw[this.1];rfl
     |none=>rw[G]at this;obtain⟨_,_,a6⟩:=this;cases a6
    obtain⟨r0,r1,r2,r3,r4,r5,r6⟩:=oX l;have f0:=ix 0 l;have f1:=ix 1 l;have f2:=ix 2 l;have f3:=ix 3 l;have f4:=ix 4 l;have f5:=ix 5 l;have f6:=ix 6 l;have HS:=gv (m_ l (.int .i64 3) (.int .i64 t) (.int .i64 (g.size:Int)) (.string { data:=#[] }) (.slice none 0 0) (.slice none 0 0) (.slice none 0 0));have HO:=gv (ly w3 w.heap.size (.int .i64 3) (.int .i64 t) (.int .i64 (g.size:Int)) (.string { data:=#[] }) (.slice none 0 0) (.slice none 0 0) (.slice none 0 0));clear l D s;go_wp2_with fail;refine(oq _).mono ?_;rintro i c ⟨rfl,rfl⟩;go_wp2;refine aF (v:=.agg #[.int .i64 3,.int .i64 t,.int .i64 (g.size:Int),.string { data:=#[] },.slice none 0 0,.slice none 0 0,.slice none 0 0]) ?_ rfl ?_;·exact aJ Tryz.results308 _ _ w.heap.size 67 _ _ _ rfl HS.o aP rfl (by kernel_rfl)
    unfold oJ;rw[N.o];refine⟨rfl,K.o.trans ?_⟩;have A:=HO.o;exact⟨A.os,A.tape,A.output,A.size,λk hk=>A.block k (aC hk K.o.size) (by omega)⟩
   ·have N:Hid (lh a=none):=by
     unfold Hid;rw[s.o];have:=D.o;unfold AI at this;cases G:kI ((gA a).1++48::(bl f++bl g))with
     |some a1=>rw[G]at this;cases this.2
     |none=>rfl
    clear l D s;go_wp2_with fail;refine(sn _).mono ?_;rintro i c ⟨rfl,rfl⟩;exact⟨rfl,oJ.none_ N.o K.o⟩
  ·rw[au E]at s;have F:((max f.size e.size:Nat):Int)<1\/(9:Int)<((max f.size e.size:Nat):Int):=by omega
   clear E;go_wp2_with fail;refine n.o.mono ?_;rintro i w2 ⟨rfl,J,rfl⟩;go_wp2_with fail;refine(sF _ 1 9 _ F).mono ?_;rintro i c ⟨rfl,rfl⟩;go_wp2_with fail;refine(sn _).mono ?_;rintro i c ⟨rfl,rfl⟩;exact⟨rfl,oJ.none_ s.o (m.o.trans ((tN q _).mono m.o.size))⟩
end
section
variable{B f i k:Nat}{m:Option Addr}{d:List Nat}{s t u:Value}{w j y:World}{q r:List Nat}
theorem lf(a:Sc B f m i d s t u j q)(n:gQ f w j)(z:j.heap[w.heap.size]?=some (.cells gZ 67 (0,0)))(e:Nat)(g:Int)(h:Nat)(l:List Nat)(E:f<w.heap.size) :
  let o:=((((((j.setCell ⟨w.heap.size,0,none⟩ (.int .i64 (e:Int))).setCell ⟨w.heap.size,1,none⟩ (.int .i64 g)).setCell ⟨w.heap.size,2,none⟩ (.int .i64 (h:Int))).setCell ⟨w.heap.size,3,none⟩ (.string (gC l))).setCell ⟨w.heap.size,4,none⟩ (.slice none 0 0)).setCell ⟨w.heap.size,5,none⟩ (.slice none 0 0)).setCell ⟨w.heap.size,6,none⟩ (.slice none 0 0)
  o.heap[w.heap.size]?=some (.cells #[.int .i64 (e:Int),.int .i64 g,.int .i64 (h:Int),.string (gC l),.slice none 0 0,.slice none 0 0,.slice none 0 0] 67 (0,0)) /\
   gR (λc=>w.heap.size<=c) (k+1) o (.agg #[.int .i64 (e:Int),.int .i64 g,.int .i64 (h:Int),.string (gC l),.slice none 0 0,.slice none 0 0,.slice none 0 0]) (hJ (VT k) e g h l)/\Sc B f m i d s t u o q/\gQ f w o:=by
 have b:=ly j w.heap.size (.int .i64 (e:Int)) (.int .i64 g) (.int .i64 (h:Int)) (.string (gC l)) (.slice none 0 0) (.slice none 0 0) (.slice none 0 0);have C:=a.hb;have x:=a.lt;have A:=n.size;refine⟨m_ z _ _ _ _ _ _ _,gR.leaf k e g h l,?_,?_⟩;·exact⟨a.hb,by rw[b.block _ x (by omega)];exact a.blk,a.dat.other (λc D=>b.block c (by omega) (by omega)),a.byt,a.len,a.lc,a.le,a.suf,a.ad⟩
 ·exact⟨b.os.trans n.os,b.tape.trans n.tape,b.output.trans n.output,aD A b.size,λc p v=>(b.block c (by omega) (by omega)).trans (n.block c p v)⟩
theorem zp(c:ByteArray)(e:List UInt8):(c.toList==e)=decide (bl c=e.map UInt8.toNat):=by
 rw[aZ,beq_iff_eq,du,eO];unfold bl;constructor;·intro a;rw[a]
 ·intro a;exact(List.map_inj_right (λg b=>UInt8.toNat_inj.1)).1 a
theorem Ed(he:o_ B w)(F:Sc B f m i d s t u w r) :
  Calls Tryz.prog 256 #[.pointer (some ⟨f,0,none⟩)] w (s8 B f m i d s t u (k+1) (jA (VT k) r) w):=by
 have z:=gv F.lt;have BW:Hid (Below w.heap.size w (w.alloc (.cells gZ 67))):=(aj _ _).alloc (af _) _;have H0:=gv (F.other BW.o);have HZ:Hid ((w.alloc (.cells gZ 67)).heap[w.heap.size]?=some (.cells gZ 67 (0,0))):=jd _ _;have a7:B<=w.heap.size:=e_ (dD F.hb F.lt);have HE:=gv he;have bb:=gv F.bytes;have bm:r.length<=200000:=aD F.le F.len;have HW:=gv (GD H0.o);obtain⟨A,hR⟩:∃A,jA (VT k) r=A:=⟨_,rfl⟩;rw[hR];have e:=gv hR;unfold jA at e;have HQ:Hid (∀ac∈iA r,ac<256):=λac hx=>bb.o ac (GI hx);have bn:(iA r).length<=200000:=by have h1:=(eE (l:=gG r) pB).length_le;have h2:=jo r;have:iA r=(gG r).takeWhile pB:=rfl;rw[this];omega
 generalize iA r=v at *;generalize iZ r=q at *;obtain⟨C,hT⟩:∃C,gC v=C:=⟨_,rfl⟩;have M:bl C=v:=by rw[<-hT];exact wu _ HQ.o
 have a8:C.size<=1000000:=by rw[xI,M];omega
 rw[hT]at HW;generalize a9:w.alloc (.cells gZ 67)=bf at *;have bd:Hid (w.alloc (.cells #[.int .i64 0,.int .i64 0,.int .i64 0,.string { data:=#[] },.slice none 0 0,.slice none 0 0,.slice none 0 0] 67)=bf):=a9;have ba:(C.toList==[110,117,108,108])=decide (v=[110,117,108,108]):=by rw[zp,M];rfl
 have a3:(C.toList==[102,97,108,115,101])=decide (v=[102,97,108,115,101]):=by rw[zp,M];rfl
 have al:(C.toList==[116,114,117,101])=decide (v=[116,114,117,101]):=by rw[zp,M];rfl
 have a4:=gv M;clear he F hR hT a9 M;go_enter Tryz.func256,Tryz.ntmps256;go_wp2_with fail;rw[bd.o];refine HW.o.mono ?_;rintro R j ⟨rfl,h1,k1⟩;have n:=gv h1;have h:Hid (gQ f w j):=(gQ.of_below BW.o).trans k1;have a:j.heap[w.heap.size]?=some (.cells gZ 67 (0,0)):=by rw[k1.block _ (ae HZ.o) (by have:=z.o;omega)];exact HZ.o
 have a5:Hid (o_ B j):=HE.o.only n.o.hb a7 h.o;have a2:B<=j.heap.size:=aD a7 h.o.size;clear h1 k1 HW;by_cases p:v=[110,117,108,108]
 ·rw[aL p]at ba;have g:Hid (A=some (hJ (VT k) 0 0 0 [],q)):=by unfold Hid;rw[<-e.o,aA p]
  clear p e a3 al;obtain⟨Z,r1,r2,r3,r4,r5,r6⟩:=oX a;have S:=ix 0 a;have T:=ix 1 a;have U:=ix 2 a;have V:=ix 3 a;have W:=ix 4 a;have X:=ix 5 a;have Y:=ix 6 a;have c:=gv (lf (k:=k) n.o h.o a 0 0 0 [] z.o);clear a;go_wp2;refine aF (v:=.agg #[.int .i64 0,.int .i64 0,.int .i64 (0:Nat),.string (gC []),.slice none 0 0,.slice none 0 0,.slice none 0 0]) ?_ rfl ?_;·exact aJ fp _ _ w.heap.size 67 _ _ _ rfl c.o.1 aP rfl (by kernel_rfl)
  exact kg.some_ (g.o) c.o.2.1 c.o.2.2.1 c.o.2.2.2
 ·rw[a_ p]at ba;by_cases E:v=[102,97,108,115,101]
  ·rw[aL E]at a3;have g:Hid (A=some (hJ (VT k) 1 0 0 [],q)):=by unfold Hid;rw[<-e.o,au p,aA E]
   clear p E e al;obtain⟨Z,r1,r2,r3,r4,r5,r6⟩:=oX a;have S:=ix 0 a;have T:=ix 1 a;have U:=ix 2 a;have V:=ix 3 a;have W:=ix 4 a;have X:=ix 5 a;have Y:=ix 6 a;have c:=gv (lf (k:=k) n.o h.o a 1 0 0 [] z.o);clear a;go_wp2;refine aF (v:=.agg #[.int .i64 1,.int .i64 0,.int .i64 (0:Nat),.string (gC []),.slice none 0 0,.slice none 0 0,.slice none 0 0]) ?_ rfl ?_;·exact aJ fp _ _ w.heap.size 67 _ _ _ rfl c.o.1 aP rfl (by kernel_rfl)
   exact kg.some_ (g.o) c.o.2.1 c.o.2.2.1 c.o.2.2.2
  ·rw[a_ E]at a3;by_cases L:v=[116,114,117,101]
   ·rw[aL L]at al;have g:Hid (A=some (hJ (VT k) 1 1 0 [],q)):=by unfold Hid;rw[<-e.o,au p,au E,aA L]
    clear p E L e;obtain⟨Z,r1,r2,r3,r4,r5,r6⟩:=oX a;have S:=ix 0 a;have T:=ix 1 a;have U:=ix 2 a;have V:=ix 3 a;have W:=ix 4 a;have X:=ix 5 a;have Y:=ix 6 a;have c:=gv (lf (k:=k) n.o h.o a 1 1 0 [] z.o);clear a;go_wp2;refine aF (v:=.agg #[.int .i64 1,.int .i64 1,.int .i64 (0:Nat),.string (gC []),.slice none 0 0,.slice none 0 0,.slice none 0 0]) ?_ rfl ?_;·exact aJ fp _ _ w.heap.size 67 _ _ _ rfl c.o.1 aP rfl (by kernel_rfl)
    exact kg.some_ (g.o) c.o.2.1 c.o.2.2.1 c.o.2.2.2
   ·rw[a_ L]at al;rw[au p,au E,au L]at e;clear p E L;have a1:=gv (Ey a5.o a2 C a8);rw[a4.o]at a1;go_wp2_with fail;refine a1.o.mono ?_;rintro R w2 ⟨⟨O,b,rfl,G⟩,J⟩;have a6:=gv (n.o.other J);have ad:Hid (gQ f w w2):=h.o.trans (.of_below J);have D:=(J.block _ (ae a)).trans a;have bc:Hid (o_ B w2):=a5.o.below a2 J;have bi:B<=w2.heap.size:=aD a2 J.size;clear J a1 a n h;unfold lg at G;cases N:jQ v with
    |some P =>
     rw[N]at G e;simp only[]at G e;obtain⟨rfl,rfl⟩:=G;have I:=gv (KR a6.o);cases a0:gY q with
     |some q2 =>
      rw[a0]at I e;simp only[]at e;have g:Hid (A=some (hJ (VT k) 9 O 0 [],q2)):=e.o.symm;clear e a0 N;go_wp2_with fail;refine I.o.mono ?_;rintro R Q ⟨rfl,h3,H⟩;have n:=gv (show Sc B f m i d s t u Q q2 from h3);have h:=gv (ad.o.trans H);have a:=(H.block _ (ae D) (by have:=z.o;omega)).trans D;clear h3 H I D;obtain⟨Z,r1,r2,r3,r4,r5,r6⟩:=oX a;have S:=ix 0 a;have T:=ix 1 a;have U:=ix 2 a;have V:=ix 3 a;have W:=ix 4 a;have X:=ix 5 a;have Y:=ix 6 a;have c:=gv (lf (k:=k) n.o h.o a 9 O 0 [] z.o);clear a;go_wp2;refine aF (v:=.agg #[.int .i64 9,.int .i64 O,.int .i64 (0:Nat),.string (gC []),.slice none 0 0,.slice none 0 0,.slice none 0 0]) ?_ rfl ?_;·exact aJ fp _ _ w.heap.size 67 _ _ _ rfl c.o.1 aP rfl (by kernel_rfl)
      exact kg.some_ (g.o) c.o.2.1 c.o.2.2.1 c.o.2.2.2
     |none =>
      rw[a0]at I e;simp only[]at e;have g:Hid (A=some (hJ (VT k) 2 O 0 [],q)):=e.o.symm;clear e a0 N;go_wp2_with fail;refine I.o.mono ?_;rintro R Q ⟨rfl,h3,H⟩;have n:=gv (show Sc B f m i d s t u Q q from h3);have h:=gv (ad.o.trans H);have a:=(H.block _ (ae D) (by have:=z.o;omega)).trans D;clear h3 H I D;obtain⟨Z,r1,r2,r3,r4,r5,r6⟩:=oX a;have S:=ix 0 a;have T:=ix 1 a;have U:=ix 2 a;have V:=ix 3 a;have W:=ix 4 a;have X:=ix 5 a;have Y:=ix 6 a;have c:=gv (lf (k:=k) n.o h.o a 2 O 0 [] z.o);clear a;go_wp2;refine aF (v:=.agg #[.int .i64 2,.int .i64 O,.int .i64 (0:Nat),.string (gC []),.slice none 0 0,.slice none 0 0,.slice none 0 0]) ?_ rfl ?_;·exact aJ fp _ _ w.heap.size 67 _ _ _ rfl c.o.1 aP rfl (by kernel_rfl)
      exact kg.some_ (g.o) c.o.2.1 c.o.2.2.1 c.o.2.2.2
    |none =>
     rw[N]at G e;simp only[]at G e;subst G;have x:=gv (Kj bc.o bi C a8);rw[a4.o]at x;unfold oJ at x;cases ao:lh v with
     |none=>rw[ao]at x e;simp only[]at x e;have g:Hid (A=none):=e.o.symm;clear e ao N;go_wp2_with fail;refine x.o.mono ?_;rintro R Q ⟨rfl,K⟩;exact⟨rfl,kg.none_ g.o (ad.o.trans (.of_below K))⟩
     |some ac =>
      obtain⟨n2,p2⟩:=ac;rw[ao]at x e;simp only[]at x e;have g:Hid (A=some (hJ (VT k) 3 n2 p2 [],q)):=e.o.symm;clear e ao N;go_wp2_with fail;refine x.o.mono ?_;rintro R Q ⟨rfl,K⟩;have n:=gv (a6.o.other K);have h:Hid (gQ f w Q):=ad.o.trans (.of_below K);have a:=(K.block _ (ae D)).trans D;clear K x D;obtain⟨Z,r1,r2,r3,r4,r5,r6⟩:=oX a;have S:=ix 0 a;have T:=ix 1 a;have U:=ix 2 a;have V:=ix 3 a;have W:=ix 4 a;have X:=ix 5 a;have Y:=ix 6 a;have c:=gv (lf (k:=k) n.o h.o a 3 n2 p2 [] z.o);clear a;go_wp2;refine aF (v:=.agg #[.int .i64 3,.int .i64 n2,.int .i64 (p2:Nat),.string (gC []),.slice none 0 0,.slice none 0 0,.slice none 0 0]) ?_ rfl ?_;·exact aJ fp _ _ w.heap.size 67 _ _ _ rfl c.o.1 aP rfl (by kernel_rfl)
      exact kg.some_ (g.o) c.o.2.1 c.o.2.2.1 c.o.2.2.2
end
end Go.Proofs.YtgkljcmjnphpeaaGreatDoor
