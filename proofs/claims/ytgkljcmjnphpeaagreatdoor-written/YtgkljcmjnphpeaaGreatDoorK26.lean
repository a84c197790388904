import Derived.Test.YtgkljcmjnphpeaaGreatDoorK25
set_option linter.unusedVariables false
set_option linter.unusedSimpArgs false
set_option maxHeartbeats 2000000
set_option maxRecDepth 100000
namespace Go.Proofs.YtgkljcmjnphpeaaGreatDoor
open Go.RowKit
section
variable{w:World}
def nh(b:List (Nat × Nat))(a:Nat):Nat × Nat:=b.getD a (0,0)
def jG(w:World)(d:Nat)(c:List (Nat × Nat)):Prop:=
 ∃b:Array Value,w.heap[d]?=some (.cells b 197 (0,0))/\b.size=2*c.length/\∀a,a<c.length->b[a*2]?=some (.int .i64 ((nh c a).1:Nat))/\b[a*2+1]?=some (.int .i64 ((nh c a).2:Nat))
theorem jG.set{c:Nat}{b:List (Nat × Nat)}(g:jG w c b)(s:Nat)(a:Nat × Nat) :
  jG ((w.setCell ⟨c,s*2,none⟩ (.int .i64 (a.1:Nat))).setCell ⟨c,s*2+1,none⟩ (.int .i64 (a.2:Nat))) c (b.set s a):=by
 obtain⟨k,h,j,h3⟩:=g;refine⟨_,lq _ (lq _ h),by simp[j],λi e=>?_⟩;rw[eF]at e;obtain⟨e1,e2⟩:=h3 i e;by_cases f:s=i
 ·subst f;have d:nh (b.set s a) s=a:=by simp[nh,e]
  rw[d];constructor;·rw[cJ (by omega),dA (by omega)]
  ·rw[dA (by simp;omega)]
 ·have d:nh (b.set s a) i=nh b i:=by simp[nh,List.getElem?_set_ne f]
  rw[d];constructor;·rw[cJ (by omega),cJ (by omega)];exact e1
  ·rw[cJ (by omega),cJ (by omega)];exact e2
theorem jG.there{a:Nat}{d:List (Nat × Nat)}(e:jG w a d)(c:Nat)(i:c<d.length):w.there a (c*2) 2:=by obtain⟨f,b,g,h3⟩:=e;intro j h;refine⟨?_,nP b⟩;rw[cb b,aW (by omega)];rfl
theorem jG.made{g:World}{h c a:Nat}(k:g.ownsRow h 197 2 (.slice (some ⟨c,0,none⟩) a a) a (madeCells #[.int .i64 0,.int .i64 0] (a*2)).toList):jG g c (List.replicate a (0,0)):=by
 rcases k.2 with⟨l,_⟩ | ⟨r,q,b,o,_,m,_,_,d,n⟩;·cases l
 cases o;have i:b.toList=(madeCells #[.int .i64 0,.int .i64 0] (a*2)).toList:=by rw[<-n,aY (by rw[ee,d];omega)]
 have j:b=madeCells #[.int .i64 0,.int .i64 0] (a*2):=Array.toList_inj.1 i;refine⟨b,m,by rw[d];simp;omega,λf e=>?_⟩;rw[bW]at e;have p:nh (List.replicate a (0,0)) f=(0,0):=by simp[nh,e]
 rw[p,j,madeCells];constructor;·rw[Array.getElem?_map,Array.getElem?_range,aA (by omega)];simp
 ·rw[Array.getElem?_map,Array.getElem?_range,aA (by omega)];simp[show(f*2+1)%2=1 by omega]
def laid(d:List Nat)(t:List (Nat × Nat))(len c b:Nat):Nat->List (Nat × Nat)
 |0=>t
 |a+1=>(laid d t len c b a).set (nth d (b+a)) (c+a,len)
def pP(a:List Nat):Nat->Nat
 |0=>0
 |k+1=>2*pP a k+nth a (k+1)
def px(a c:List Nat)(b:Nat):Nat->List (Nat × Nat)
 |0=>List.replicate b (0,0)
 |k+1=>laid c (px a c b k) (k+1) (2*pP a k) (mZ a k) (nth a (k+1))
theorem Di(e:List Nat)(b:List (Nat × Nat))(len d c a:Nat):(laid e b len d c a).length=b.length:=by
 induction a with
 |zero=>rfl
 |succ a ih=>simp[laid,ih]
theorem Ls(b c:List Nat)(a k:Nat):(px b c a k).length=a:=by
 induction k with
 |zero=>simp[px]
 |succ k ih=>rw[px,Di,ih]
theorem Lz:px lG kN 288 15=j5:=by decide +kernel
theorem wU:px lF kM 32 15=kX:=by decide +kernel
theorem Tryz.infoCode:(Tryz.prog.info? 197).map (λa=>(a.zero,a.size,a.bytes))=some (some (.agg #[.int .i64 0,.int .i64 0]),2,16):=by kernel_rfl
theorem ip{g:Value}{f b:Nat}{d:TypeId}(c:(Tryz.prog.info? d).map (λa=>(a.zero,a.size,a.bytes))=some (some g,f,b)):∃a,Tryz.prog.info? d=some a/\a.zero=some g/\a.size=f/\a.bytes=b:=by
 cases e : Tryz.prog.info? d with
 |none=>rw[e]at c;simp at c
 |some a=>rw[e]at c;simp at c;exact⟨a,rfl,c.1,c.2.1,c.2.2⟩
theorem Cd.below{a d B:Nat}{h g:List Nat}{l:World}(m:Cd w a d h g)(k:Below B w l)(j:a<B)(o:∀b e,w.cell? ⟨a,d+16,none⟩=some (.slice (some ⟨b,0,none⟩) g.length e)->b<B):Cd l a d h g:=by obtain⟨n,b,e,i,h3⟩:=m;have:=o b e i;exact⟨λc f=>(k.cell (p:=⟨a,d+c,none⟩) j).trans (n c f),b,e,(k.cell (p:=⟨a,d+16,none⟩) j).trans i,λc f=>(k.cell (p:=⟨b,c,none⟩) this).trans (h3 c f)⟩
theorem EY(l n d:Nat)(a b:List Nat)(hC:Cd w l n a b)(hn:d<=300)(J:mZ a 15<=b.length)(I:b.length<=1000)(H:∀h,h<b.length->nth b h<d)(N:∀k,k<=15->pP a k<=100000) :
  Calls Tryz.prog 261 #[.pointer (some ⟨l,n,none⟩),.int .i64 d] w λao T=>ao=.returned (.slice (some ⟨w.heap.size,0,none⟩) d d)/\jG T w.heap.size (px a b d 15)/\Below w.heap.size w T:=by
 obtain⟨i0,u,P,Q,R⟩:=ip Tryz.infoCode;obtain⟨B,r,bd,C,h3⟩:=hC;have E:l<w.heap.size:=aB w _ C;go_enter Tryz.func261,Tryz.ntmps261;go_wp2_with (at_make;refine wpList_make_full _ rfl _ _ 192 rfl w.heap.size 197 i0 (.agg #[.int .i64 0,.int .i64 0]) 2 Tryz.underlying192 u P Q .i64 .i64 _ _ d rfl rfl (by omega) (by omega) (by rw[R];omega) (by unfold maxLen;omega) (af _) ?_;intro w1 F j;have f:=jG.made F);have e:Below w.heap.size w w1:=⟨j.os,j.tape,j.output,j.size,λk v=>j.block k v (by simp)⟩;clear F j P Q R u;have U:=gv B;have V:=gv h3;have Z:=gv H;have z:=gv N;have ac:=gv (And.intro J I);have t:r<w.heap.size\/b.length=0:=by
  rcases dK b.length with s | s;·exact Or.inr s
  ·exact Or.inl (aB w _ (h3 0 s))
 have W:=gv t;clear B h3 H N J I t;go_loopw [6,7,8] (λy pl x wr=>∃k:Nat,k<=15/\x=.int .i64 (k+1:Nat)/\y=.int .i64 (pP a k:Nat)/\pl=.int .i64 (mZ a k:Nat)/\jG wr w.heap.size (px a b d k)/\Below w.heap.size w wr) (λ_ _ x _=>16-(intOf x).toNat)
 case atStart=>exact⟨0,by omega,rfl,rfl,rfl,f,e⟩
 clear f e
 case round =>
  obtain⟨k,v,rfl,rfl,rfl,f,e⟩:=hrel;by_cases a8:k<15
  ·have a5:=(e.cell (p:=⟨l,n+(k+1),none⟩) E).trans (U.o (k+1) (by omega));have bf:=z.o k v;have bb:=z.o (k+1) a8;have a9:=Gj a (k+1) 15 (by omega);have G:mZ a (k+1)=mZ a k+nth a (k+1):=rfl;have O:pP a (k+1)=2*pP a k+nth a (k+1):=rfl;have a7:=ac.o;have ad:Hid (∀h,h<nth a (k+1)->nth b (mZ a k+h)<d/\mZ a k+h<b.length/\r<w.heap.size):=by intro h u;have t:=W.o;exact⟨Z.o _ (by omega),by omega,by omega⟩
   have hN:nth a (k+1)<=1000:=by omega
   have hP:mZ a k<=1000:=by omega
   have Y:=gv G;have al:=gv O;have HT:Hid (px a b d (k+1)=laid b (px a b d k) (k+1) (2*pP a k) (mZ a k) (nth a (k+1))):=rfl;clear G O a9 bb a7;generalize a0:nth a (k+1)=m at *;generalize a1:mZ a k=g at *;generalize a3:pP a k=i at *;generalize D:px a b d k=q at *;have K:q.length=d:=by rw[<-D,Ls]
   clear a0 a1 a3 D;go_wp2;go_loopw [6,7,23] (λy pl h wr=>∃c:Nat,c<=m/\h=.int .i64 (c:Nat)/\y=.int .i64 (2*i+c:Nat)/\pl=.int .i64 (g+c:Nat)/\jG wr w.heap.size (laid b q (k+1) (2*i) g c)/\Below w.heap.size w wr) (λ_ _ h _=>m-(intOf h).toNat)
   case atStart=>exact⟨0,by omega,rfl,by go_num,by go_num,f,e⟩
   clear f e a5
   case round =>
    obtain⟨c,hj,rfl,rfl,rfl,f,e⟩:=hrel;by_cases a6:c<m
    ·obtain⟨S,t2,t3⟩:=ad.o c a6;have d2:=(e.cell (p:=⟨l,n+16,none⟩) E).trans C;have d3:=(e.cell (p:=⟨r,g+c,none⟩) t3).trans (V.o (g+c) t2);obtain⟨L,f4⟩:=f.there (nth b (g+c)) (by rw[Di,K];exact S) 0 (by omega);obtain⟨M,f5⟩:=f.there (nth b (g+c)) (by rw[Di,K];exact S) 1 (by omega);obtain⟨u4,d4⟩:=Option.isSome_iff_exists.1 L;obtain⟨u5,d5⟩:=Option.isSome_iff_exists.1 M;simp only[fI]at d4 f4;clear L M;have ba:=gv (f.set (nth b (g+c)) (2*i+c,k+1));have X:Hid (laid b q (k+1) (2*i) g (c+1)=(laid b q (k+1) (2*i) g c).set (nth b (g+c)) (2*i+c,k+1)):=rfl;clear f;generalize a2:nth b (g+c)=A at *;clear a2;have a4:=gv ((e.setCell (p:=⟨w.heap.size,A*2,none⟩) (af _) (.int .i64 (2*i+c:Nat))).setCell (p:=⟨w.heap.size,A*2+1,none⟩) (af _) (.int .i64 (k+1:Nat)));go_wp2;go_roundw
     case rel=>exact⟨c+1,by omega,by go_num,by go_num,by go_num,by rw[X.o];exact ba.o,a4.o⟩
     case measure=>simp[intOf];omega
    ·obtain rfl:c=m:=by omega
     go_wp2;go_roundw
     case rel=>exact⟨k+1,by omega,by go_num,by rw[al.o],by rw[Y.o],by rw[HT.o];exact f,e⟩
     case measure=>simp[intOf];omega
  ·obtain rfl:k=15:=by omega
   go_wp2;go_ret;exact⟨rfl,f,e⟩
end
def ku(a b c:Nat):Value:=.agg #[.int .u8 (a:Int),.int .u8 (b:Int),.int .u8 (c:Int)]
theorem ki{a b e c d f:Nat}(g:ku a b e=ku c d f):a=c/\b=d/\e=f:=by simp[ku]at g;omega
theorem KD(d e f g h i:Nat)(n:d<256)(o:e<256)(p:f<256)(q:g<256)(r:h<256)(s:i<256)(k:World) :
  (Op.equal 281 (ku d e f) (ku g h i)).run Tryz.prog k=.ok (decide ([d,e,f]=[g,h,i])) k:=by
 have c:=run_equalIn_bytes (P:= Tryz.prog) k 9998 281 5 3 Tryz.underlying281 dH Gv [UInt8.ofNat d,UInt8.ofNat e,UInt8.ofNat f] [UInt8.ofNat g,UInt8.ofNat h,UInt8.ofNat i] rfl rfl;have b:∀a:Nat,a<256->(UInt8.ofNat a).toNat=a:=λa l=>by simp[ew l]
 have m:∀j a:Nat,j<256->a<256->(UInt8.ofNat j=UInt8.ofNat a↔j=a):=λj a u l=>⟨λc=>by rw[<-b j u,<-b a l,c],λc=>by rw[c]⟩;have t:([UInt8.ofNat d,UInt8.ofNat e,UInt8.ofNat f]==[UInt8.ofNat g,UInt8.ofNat h,UInt8.ofNat i])=decide ([d,e,f]=[g,h,i]):=by rw[aZ,beq_iff_eq,du];simp only[List.cons.injEq,and_true,m d g n q,m e h o r,m f i p s]
 rw[t]at c;simp only[bJ,dR,Extern.Stop.cell,b _ n,b _ o,b _ p,b _ q,b _ r,b _ s]at c;rw[show(9998+2:Nat)=10000 from rfl]at c;exact c
theorem Cp(c:Bool)(d b e:Nat)(a:World):(Instr.checkKey c 10000 281 (ku d b e)).run Tryz.prog a=.ok () a:=by cases c<;>kernel_rfl
theorem Ku(a b c:Nat)(d:World):(Instr.keyThatStays (ku a b c) (ku a b c)).run Tryz.prog d=.ok (ku a b c) d:=by
 have e:Instr.sameBits 10000 (ku a b c) (ku a b c)=true:=by simp[Instr.sameBits,ku]
 unfold Instr.keyThatStays;rw[aA e];rfl
def uv(e:List MapEntry):Prop:=∀d∈e,∃a b c,a<256/\b<256/\c<256/\d.key=ku a b c
theorem Gm(a b c:Nat)(s:a<256)(t:b<256)(u:c<256)(g:World):∀(f:List MapEntry) (d:Nat),uv f ->
  ((Instr.findAsking 281 (ku a b c) f d).run Tryz.prog g=.ok none g/\∀e∈f,e.key≠ku a b c)\/∃h e,(Instr.findAsking 281 (ku a b c) f d).run Tryz.prog g=.ok (some (d+h,e.val)) g/\f[h]?=some e/\e.key=ku a b c
 | [],d,_=>Or.inl ⟨rfl,by simp⟩
 |e::f,d,r=>by
  obtain⟨o,p,q,w,x,y,m⟩:=r e (by simp);have n:=KD a b c o p q s t u w x y g;by_cases i:[a,b,c]=[o,p,q]
  ·rw[aL i]at n;refine Or.inr ⟨0,e,?_,rfl,?_⟩;·simp[Instr.findAsking,m,n,Result.andThen]
   ·rw[m];simp at i;obtain⟨rfl,rfl,rfl⟩:=i;rfl
  ·rw[a_ i]at n;have A:(Instr.findAsking 281 (ku a b c) (e::f) d).run Tryz.prog g=(Instr.findAsking 281 (ku a b c) f (d+1)).run Tryz.prog g:=by simp[Instr.findAsking,m,n,Result.andThen]
   rw[A];rcases Gm a b c s t u g f (d+1) (λk j=>r k (aV _ j))with l | ⟨h,k,l,v,h3⟩
   ·refine Or.inl ⟨l.1,λk j=>?_⟩;rcases bT.1 j with rfl | j
    ·intro z;obtain⟨B,C,D⟩:=ki (m.symm.trans z);exact i (by rw[B,C,D])
    ·exact l.2 k j
   ·exact Or.inr ⟨h+1,k,by rw[l,show d+1+h=d+(h+1)by omega],by simpa using v,h3⟩
theorem rf(e b f:Nat)(l:e<256)(m:b<256)(n:f<256)(d:World)(c:List MapEntry)(i:uv c) :
  ((Instr.findKey 281 (ku e b f) c).run Tryz.prog d=.ok none d/\∀a∈c,a.key≠ku e b f)\/∃g a,(Instr.findKey 281 (ku e b f) c).run Tryz.prog d=.ok (some (g,a.val)) d/\c[g]?=some a/\a.key=ku e b f:=by
 have j:(underlying 281).run Tryz.prog d=.ok (.array 3 5) d:=by kernel_rfl
 cases c with
 |nil=>refine Or.inl ⟨?_,by simp⟩;simp[Instr.findKey,j,Instr.findNow,Result.andThen]
 |cons a c =>
  have q:Instr.findNow (.array 3 5) (ku e b f) (a::c) 0=none:=by obtain⟨s,t,u,_,_,_,p⟩:=i a (by simp);simp[Instr.findNow,p,ku,Instr.sameNow]
  have o:(Instr.findKey 281 (ku e b f) (a::c)).run Tryz.prog d=(Instr.findAsking 281 (ku e b f) (a::c)).run Tryz.prog d:=by simp[Instr.findKey,j,q,Result.andThen]
  rw[o];rcases Gm e b f l m n d (a::c) 0 i with h | ⟨g,r,h,k,h3⟩;·exact Or.inl h
  ·exact Or.inr ⟨g,r,by rw[h,b_],k,h3⟩
section
variable{w:World}
def rB(a:List Nat):Prop:=∀b,b<a.length->nth a b=nth a 0
def ns(a:List Nat)(b c:Nat):Prop:=nth a b=nth a c/\nth a (b+1)=nth a (c+1)/\nth a (b+2)=nth a (c+2)
def pj(a:List Nat)(c d b:Nat):Prop:=b<c/\b+3<=a.length/\ns a b d/\∀r,b<r->r<c->r+3<=a.length->¬ ns a r d
def mJ(w:World)(k:Nat)(a:List Nat)(g:Nat):Prop:=
 ∃d l,w.heap[k]?=some (.map d l)/\(∀f∈d.toList,∃c:Nat,f.val=.int .i64 (c:Int)/\c<g/\c+3<=a.length/\f.key=ku (nth a c) (nth a (c+1)) (nth a (c+2))/\∀r,c<r->r<g->r+3<=a.length->¬ ns a r c) /\
  (∀e,e<g->e+3<=a.length->∃f∈d.toList,f.key=ku (nth a e) (nth a (e+1)) (nth a (e+2)))/\∀(i j:Nat) (h b:MapEntry),d[i]?=some h->d[j]?=some b->h.key=b.key->i=j
theorem Jg{a:List Nat}{b c:Nat}(d:ku (nth a b) (nth a (b+1)) (nth a (b+2))=ku (nth a c) (nth a (c+1)) (nth a (c+2))):ns a b c:=ki d
theorem Gx{a:List Nat}{b c:Nat}(d:ns a b c):ku (nth a b) (nth a (b+1)) (nth a (b+2))=ku (nth a c) (nth a (c+1)) (nth a (c+2)):=by rw[d.1,d.2.1,d.2.2]
theorem ns.symm{b:List Nat}{p c:Nat}(a:ns b p c):ns b c p:=⟨a.1.symm,a.2.1.symm,a.2.2.symm⟩
theorem ns.trans{data:List Nat}{p q r:Nat}(a:ns data p q)(k:ns data q r):ns data p r:=⟨a.1.trans k.1,a.2.1.trans k.2.1,a.2.2.trans k.2.2⟩
theorem mJ.keys{e:List MapEntry}{a:List Nat}{d:Nat}(c:∀f,f<a.length->nth a f<256)
  (g:∀b∈e,∃p:Nat,b.val=.int .i64 (p:Int)/\p<d/\p+3<=a.length/\b.key=ku (nth a p) (nth a (p+1)) (nth a (p+2))/\∀r,p<r->r<d->r+3<=a.length->¬ ns a r p):uv e:=by
 intro b i;obtain⟨p,_,_,h3,h,_⟩:=g b i;exact⟨_,_,_,c _ (by omega),c _ (by omega),c _ (by omega),h⟩
theorem mJ.look{k f:Nat}{a:List Nat}(s:mJ w k a f)(c:∀p,p<a.length->nth a p<256)(b:Nat)(I:b+3<=a.length) :
  ∃(e:Nat) (ok:Bool),(Instr.lookup 191 (.map (some k)) (ku (nth a b) (nth a (b+1)) (nth a (b+2))) true).run Tryz.prog w=.ok (.tuple #[.int .i64 (e:Int),.bool ok]) w /\
   (ok=true->pj a f b e)/\(ok=false->∀r,r<f->r+3<=a.length->¬ ns a r b):=by
 obtain⟨q,G,l,m,t,H⟩:=s;have o:(underlying 191).run Tryz.prog w=.ok (.map 281 3) w:=by kernel_rfl
 have x:(zeroValue 3).run Tryz.prog w=.ok (.int .i64 0) w:=by kernel_rfl
 rcases rf (nth a b) (nth a (b+1)) (nth a (b+2)) (c _ (by omega)) (c _ (by omega)) (c _ (by omega)) w q.toList (mJ.keys c m)with d | ⟨J,g,d,h,i⟩
 ·refine⟨0,false,?_,by simp,λ_ r v u j=>?_⟩;·simp[Instr.lookup,o,eY l,Cp,d.1,x,Result.andThen]
  ·obtain⟨g,h,i⟩:=t r v u;exact d.2 g h (i.trans (Gx j))
 ·obtain⟨e,y,z,A,B,C⟩:=m g (cB h);have n:=Jg (B.symm.trans i);refine⟨e,true,?_,λ_=>⟨z,A,n,λr D E F j=>C r D E F (j.trans n.symm)⟩,by simp⟩;simp[Instr.lookup,o,eY l,Cp,d,y,Result.andThen]
theorem mJ.put{u a:Nat}{c:List Nat}(E:mJ w u c a)(j:∀i,i<c.length->nth c i<256)(R:a+3<=c.length) :
  ∃g,(Instr.mapUpdate 191 (.map (some u)) (ku (nth c a) (nth c (a+1)) (nth c (a+2))) (.int .i64 (a:Int))).run Tryz.prog w=.ok () { w with heap:=w.heap.setIfInBounds u g } /\
   mJ { w with heap:=w.heap.setIfInBounds u g } u c (a+1):=by
 obtain⟨g,D,x,F,O,G⟩:=E;have P:=ae x;have T:(underlying 191).run Tryz.prog w=.ok (.map 281 3) w:=by kernel_rfl
 have V:∀(d:MapEntry) (p:Nat),d.key≠ku (nth c a) (nth c (a+1)) (nth c (a+2))->d.key=ku (nth c p) (nth c (p+1)) (nth c (p+2))->(∀r,p<r->r<a->r+3<=c.length->¬ ns c r p)->∀r,p<r->r<a+1->r+3<=c.length->¬ ns c r p:=by
  intro d p Z l ho r M X r3 S;by_cases h:r=a;·subst h;exact Z (l.trans (Gx S.symm))
  ·exact ho r M (by omega) r3 S
 rcases rf (nth c a) (nth c (a+1)) (nth c (a+2)) (j _ (by omega)) (j _ (by omega)) (j _ (by omega)) w g.toList (mJ.keys j F)with z | ⟨k,f,z,H,l⟩
 ·refine⟨.map (g.push ⟨ku (nth c a) (nth c (a+1)) (nth c (a+2)),.int .i64 (a:Int),D⟩) (D+1),?_,?_⟩;·simp[Instr.mapUpdate,T,eY x,Cp,z.1,MapKept.run_setObj_map _ x,Result.andThen]
  ·refine⟨_,_,dA P,?_,λn q1 L=>?_,λi k N b o j y=>?_⟩
   ·intro d e;simp only[Array.toList_push,bH,cc]at e;rcases e with e | rfl
    ·obtain⟨p,I,p2,J,A,K⟩:=F d e;exact⟨p,I,by omega,J,A,V d p (z.2 d e) A K⟩
    ·exact⟨a,rfl,by omega,R,rfl,λr M X=>by omega⟩
   ·by_cases h:n=a;·subst h;exact⟨⟨ku (nth c n) (nth c (n+1)) (nth c (n+2)),.int .i64 (n:Int),D⟩,by simp,rfl⟩
    ·obtain⟨f,H,l⟩:=O n (by omega) L;exact⟨f,by simp[dL.1 H],l⟩
   ·rw[Array.getElem?_push]at o j;have U:∀{i:Nat} {d:MapEntry},g[i]?=some d->d.key≠ku (nth c a) (nth c (a+1)) (nth c (a+2)):=λE=>z.2 _ (by rw[dL,dQ];exact⟨_,E⟩);split at o<;>split at j;·omega
    ·cases o;exact absurd y.symm (U j)
    ·cases j;exact absurd y (U o)
    ·exact G i k N b o j y
 ·have q:g[k]?=some f:=by simpa using H
  refine⟨.map (g.modify k λf=>{ f with key:=ku (nth c a) (nth c (a+1)) (nth c (a+2)),val:=.int .i64 (a:Int) }) D,?_,?_⟩;·simp[Instr.mapUpdate,T,eY x,Cp,z,q,l,Ku,MapKept.run_setObj_map _ x,Result.andThen]
  ·have Q:∀{i:Nat} {d:MapEntry},(g.modify k λf=>{ f with key:=ku (nth c a) (nth c (a+1)) (nth c (a+2)),val:=.int .i64 (a:Int) })[i]?=some d->(i=k/\d.key=f.key/\d.val=.int .i64 (a:Int))\/(i≠k/\g[i]?=some d):=by
    intro i d e;rw[eC]at e;split at e;·rename_i h;subst h;rw[q]at e;simp at e;subst e;exact .inl ⟨rfl,l.symm,rfl⟩
    ·rename_i h;exact .inr ⟨λf=>h f.symm,e⟩
   refine⟨_,_,dA P,?_,λn q1 L=>?_,λi i' N b o j y=>?_⟩
   ·intro d e;rw[dL,dQ]at e;obtain⟨i,e⟩:=e;rcases Q e with⟨_,v,t⟩ | ⟨v,t⟩;·exact⟨a,t,by omega,R,v.trans l,λr M X=>by omega⟩
    ·obtain⟨p,I,p2,J,A,K⟩:=F d (by rw[dL,dQ];exact⟨_,t⟩);exact⟨p,I,by omega,J,A,V d p (λf=>v (G i k d _ t q (f.trans l.symm))) A K⟩
   ·have W:∀{i:Nat} {d:MapEntry},g[i]?=some d->∃m∈(g.modify k λf=>{ f with key:=ku (nth c a) (nth c (a+1)) (nth c (a+2)),val:=.int .i64 (a:Int) }).toList,m.key=d.key:=by
     intro i d e;by_cases h:k=i
     ·subst h;obtain rfl:f=d:=dy (q.symm.trans e);refine⟨{ f with key:=ku (nth c a) (nth c (a+1)) (nth c (a+2)),val:=.int .i64 (a:Int) },?_,l.symm⟩;rw[dL,dQ];exact⟨k,by rw[eC,aA rfl,q];rfl⟩
     ·refine⟨d,?_,rfl⟩;rw[dL,dQ];exact⟨i,by rw[eC,au h];exact e⟩
    by_cases h:n=a
    ·subst h;obtain⟨m,B,C⟩:=W q;exact⟨m,B,C.trans l⟩
    ·obtain⟨d,e,ac⟩:=O n (by omega) L;rw[dL,dQ]at e;obtain⟨i,e⟩:=e;obtain⟨m,B,C⟩:=W e;exact⟨m,B,C.trans ac⟩
   ·have s:∀{i:Nat} {d:MapEntry},(g.modify k λf=>{ f with key:=ku (nth c a) (nth c (a+1)) (nth c (a+2)),val:=.int .i64 (a:Int) })[i]?=some d->∃m,g[i]?=some m/\m.key=d.key:=by
     intro i d e;rcases Q e with⟨Y,v,_⟩ | ⟨_,t⟩;·subst Y;exact⟨f,q,v.symm⟩
     ·exact⟨d,t,rfl⟩
    obtain⟨m,B,C⟩:=s o;obtain⟨ad,z1,z2⟩:=s j;exact G i i' m ad B z1 (C.trans (y.trans z2.symm))
structure De(B f bm m s cap:Nat)(data:List Nat)(ao:Option Addr)(w:World)(bs:List Bool)(d:Nat):Prop where
 wx:Wx B f 194 [.slice ao data.length cap,.int .i64 d,.map (some bm),.slice (some ⟨m,0,none⟩) 288 288,.slice (some ⟨s,0,none⟩) 32 32] w bs
 dat:nA w B ao data
 byt:∀i,i<data.length->nth data i<256
 len:data.length<=1000000
 lc:data.length<=cap/\cap<=9223372036854775807
 hat:d<=data.length
 st:mJ w bm data d
 r1:jG w m j5
 r2:jG w s kX
 hbm:B<=bm
variable{B f bm m s cap T:Nat}{data:List Nat}{ao:Option Addr}{bs:List Bool}{d:Nat}{u:List Value}
theorem Wx.below{a:World}(c:Wx B f T u w bs)(b:Below w.heap.size w a):Wx B f T u a bs:=by obtain⟨k,j,l,⟨e,g,h3,h⟩,i⟩:=c;exact⟨k,j,l,⟨e,g,by rw[b.block _ (ae h3)];exact h3,sY h b⟩,i⟩
theorem mJ.below{c:World}(h:mJ w bm data d)(b:Below w.heap.size w c):mJ c bm data d:=by obtain⟨g,e,a,i⟩:=h;exact⟨g,e,by rw[b.block _ (ae a)];exact a,i⟩
theorem jG.below'{g:World}{a:Nat}{e:List (Nat × Nat)}(i:jG w a e)(b:Below w.heap.size w g):jG g a e:=by obtain⟨h,c,j⟩:=i;exact⟨h,by rw[b.block _ (ae c)];exact c,j⟩
theorem De.below{c:World}(a:De B f bm m s cap data ao w bs d)(b:Below w.heap.size w c):De B f bm m s cap data ao c bs d:=
 ⟨a.wx.below b,a.dat.below b,a.byt,a.len,a.lc,a.hat,a.st.below b,a.r1.below' b,a.r2.below' b,a.hbm⟩
theorem De.cells(b:De B f bm m s cap data ao w bs d):w.cell? ⟨f,2,none⟩=some (.slice ao data.length cap)/\w.cell? ⟨f,3,none⟩=some (.int .i64 d)/\w.cell? ⟨f,4,none⟩=some (.map (some bm))/\w.cell? ⟨f,5,none⟩=some (.slice (some ⟨m,0,none⟩) 288 288)/\w.cell? ⟨f,6,none⟩=some (.slice (some ⟨s,0,none⟩) 32 32)/\B<=f/\f<w.heap.size/\w.frozen? ⟨f,3,none⟩=false:=by obtain⟨e,c,g,a,_⟩:=b.wx;have:=a.blk;refine⟨?_,?_,?_,?_,?_,a.hb,ae a.blk,nP a.blk⟩<;>(rw[cb this];simp)
theorem nA.at{l:List Nat}(a:nA w B ao l)(g:0<l.length):∃b o,ao=some ⟨b,o,none⟩/\b<B/\∀i,i<l.length->w.cell? ⟨b,o+i,none⟩=some (.int .u8 (nth l i:Nat)):=by obtain⟨b,o,c,h,_⟩:=a 0 g;refine⟨b,o,c,h,λi j=>?_⟩;obtain⟨k,n,e,_,h3⟩:=a i j;rw[c]at e;cases e;exact h3
theorem I7(a:De B f bm m s cap data ao w bs d) :
  Calls Tryz.prog 311 #[.pointer (some ⟨f,0,none⟩)] w λe h=>e=.returned (.bool (decide (d+3<=data.length)))/\∃g,h=w.drewN g:=by
 obtain⟨k,l,_⟩:=a.cells;have i:=a.len;have j:=a.hat;have b:decide ((3:Int)<=(data.length:Int)-d)=decide (d+3<=data.length):=by rw[dN];omega
 have c:=gv b;clear b;go_enter Tryz.func311,Tryz.ntmps311;go_wp2_with fail;go_quiet (fail);go_wp2;go_ret;exact⟨by show Ending.returned (Value.bool (decide (3<=(data.length:Int)-d)))=_;rw[c.o],nq,rfl⟩
theorem DN(b e c g:Nat)(i:3<=c)(a:World):(Instr.arrayAt 281 (.slice (some ⟨b,e,none⟩) c g)).run Tryz.prog a=.ok (.pointer (some ⟨b,e,none⟩)) a:=by
 have h:(underlying 281).run Tryz.prog a=.ok (.array 3 5) a:=by kernel_rfl
 simp[Instr.arrayAt,h,Result.andThen,show ¬ c<3 by omega]
theorem FQ(h:De B f bm m s cap data ao w bs d)(U:d+3<=data.length) :
  Calls Tryz.prog 312 #[.pointer (some ⟨f,0,none⟩)] w λA E=>A=.returned (ku (nth data d) (nth data (d+1)) (nth data (d+2)))/\Below w.heap.size w E:=by
 obtain⟨n,o,_,_,_,S,x,_⟩:=h.cells;obtain⟨b,c,rfl,R,i⟩:=h.dat.at (by omega);have F:=h.len;obtain⟨G,H⟩:=h.lc;have q:w.cell? ⟨b,c+d,none⟩=some (.int .u8 (nth data d:Nat)):=i d (by omega);have r:w.cell? ⟨b,c+d+1,none⟩=some (.int .u8 (nth data (d+1):Nat)):=i (d+1) (by omega);have t:w.cell? ⟨b,c+d+2,none⟩=some (.int .u8 (nth data (d+2):Nat)):=i (d+2) (by omega);have Q:=DN b (c+d) (data.length-d) (cap-d) (by omega);have k:b<w.heap.size:=by omega
 clear i h;go_enter Tryz.func312,Tryz.ntmps312;go_wp2_with fail;generalize j:w.alloc _=l;have a:Below w.heap.size w l:=by rw[<-j];exact(aj _ _).alloc (af _) _
 have e:l.heap[w.heap.size]?=some (.cells #[.int .u8 0,.int .u8 0,.int .u8 0] 281 (0,0)):=by rw[<-j];exact jd _ _
 have I:=(a.cell (p:=⟨f,2,none⟩) x).trans n;have J:=(a.cell (p:=⟨f,3,none⟩) x).trans o;have K:=(a.cell (p:=⟨b,c+d,none⟩) k).trans q;have L:=(a.cell (p:=⟨b,c+d+1,none⟩) k).trans r;have M:=(a.cell (p:=⟨b,c+d+2,none⟩) k).trans t;obtain⟨V,W,X⟩:=Hs e;have N:=ix 0 e;have O:=ix 1 e;have P:=ix 2 e;generalize C:w.heap.size=g at *;have y:=gv a;have z:=gv e;clear n o q r t j a e;have D:Hid ((((l.setCell ⟨g,0,none⟩ (.int .u8 (nth data d:Nat))).setCell ⟨g,1,none⟩ (.int .u8 (nth data (d+1):Nat))).setCell ⟨g,2,none⟩ (.int .u8 (nth data (d+2):Nat))).drew.heap[g]?=some (.cells #[.int .u8 (nth data d:Nat),.int .u8 (nth data (d+1):Nat),.int .u8 (nth data (d+2):Nat)] 281 (0,0))):=by unfold Hid;exact lq _ (lq _ (lq _ z.o))
 go_region;all_goals go_wp2
 refine aF (v:=ku (nth data d) (nth data (d+1)) (nth data (d+2))) ?_ rfl ⟨rfl,?_⟩;·exact aJ Tryz.results312 _ _ g 281 _ _ _ rfl D.o Tryz.underlying281 rfl (by kernel_rfl)
 ·subst C;exact(((y.o.setCell (p:=⟨w.heap.size,0,none⟩) (af _) _).setCell (p:=⟨w.heap.size,1,none⟩) (af _) _).setCell (p:=⟨w.heap.size,2,none⟩) (af _) _).drew
end
section
variable{w:World}{B j m t u cap T:Nat}{f:List Nat}{ao:Option Addr}{s:List Bool}{g:Nat}{y:List Value}
theorem p9{B:Nat}{b w:World}(a:Below B b w)(c:Nat):Below B b (w.drewN c):=⟨a.os,a.tape,a.output,a.size,a.block⟩
def GN(f:List Nat)(g a b:Nat):Prop:=(rB f->0<g->g+3<=f.length->a=min 258 (f.length-g)/\b=1)/\(a=0\/3<=a/\a<=258/\1<=b/\b<=32768/\b<=g/\g+a<=f.length/\∀c,c<a->nth f (g+c)=nth f (g-b+c))
def nX(f:List Nat)(g a c:Nat):Prop:=
 (a=0/\c=0/\(g+3<=f.length->∀p,pj f g g p->32768<g-p)) \/
 (g+3<=f.length/\∃p,pj f g g p/\g-p<=32768/\c=g-p/\3<=a/\a<=258/\g+a<=f.length/\(∀b,b<a->nth f (g+b)=nth f (p+b))/\(a<258->g+a<f.length->nth f (g+a)≠nth f (p+a)))
theorem pj.one{g e p d:Nat}(a:pj f g e p)(b:pj f g e d):p=d:=by
 rcases Nat.lt_trichotomy p d with c | c | c;·exact absurd b.2.2.1 (a.2.2.2 d c b.1 b.2.1)
 ·exact c
 ·exact absurd a.2.2.1 (b.2.2.2 p c a.1 a.2.1)
theorem nX.one{a e b h:Nat}(d:nX f g a e)(n:nX f g b h):a=b/\e=h:=by
 rcases d with⟨rfl,rfl,d⟩ | ⟨o,p,i,C,rfl,h3,D,E,q,r⟩<;>rcases n with⟨rfl,rfl,k⟩ | ⟨v,A,l,F,rfl,G,H,I,x,z⟩;·exact⟨rfl,rfl⟩
 ·have:=d v A l;omega
 ·have:=k o p i;omega
 ·obtain rfl:=i.one l;refine⟨?_,rfl⟩;rcases Nat.lt_trichotomy a b with c | c | c;·exact absurd (x a c) (r (by omega) (by omega))
  ·exact c
  ·exact absurd (q b c) (z (by omega) (by omega))
theorem rB.last(a:rB f){b:Nat}(e:0<g)(h3:g+3<=f.length)(d:pj f g g b):b+1=g:=by
 rcases bZ b (g-1)with c | c
 ·refine absurd ?_ (d.2.2.2 (g-1) c (by omega) (by omega));exact⟨(a _ (by omega)).trans (a _ (by omega)).symm,(a _ (by omega)).trans (a _ (by omega)).symm,(a _ (by omega)).trans (a _ (by omega)).symm⟩
 ·have:=d.1;omega
theorem nX.ok{b i:Nat}(d:nX f g b i):GN f g b i:=by
 rcases d with⟨rfl,rfl,d⟩ | ⟨o,p,k,q,rfl,h3,v,x,z,A⟩
 ·refine⟨λa o h3=>?_,Or.inl rfl⟩;have:pj f g g (g-1):=⟨by omega,by omega,⟨(a _ (by omega)).trans (a _ (by omega)).symm,(a _ (by omega)).trans (a _ (by omega)).symm,(a _ (by omega)).trans (a _ (by omega)).symm⟩,λr E F=>by omega⟩;have:=d h3 _ this;omega
 ·have:=k.1;refine⟨λa l n=>?_,Or.inr ⟨h3,v,by omega,q,by omega,x,λe C=>by rw[show g-(g-p)+e=p+e by omega];exact z e C⟩⟩;have D:=a.last l n k;refine⟨?_,by omega⟩;rcases bZ b 258 with h | h
  ·rcases bZ (g+b) f.length with c | c;·exact absurd ((a _ c).trans (a _ (by omega)).symm) (A h c)
   ·omega
  ·omega
theorem Ca(b:De B j m t u cap f ao w s g)(v:Bool)(c:decide (g+3<=f.length)=v) :
  Calls Tryz.prog 311 #[.pointer (some ⟨j,0,none⟩)] w λa e=>a=.returned (.bool v)/\∃d,e=w.drewN d:=by
 subst c;exact I7 b
theorem Jr(E:De B j m t u cap f ao w s g) :
  Calls Tryz.prog 263 #[.pointer (some ⟨j,0,none⟩)] w λC w'=>∃l Q:Nat,C=.returned (.tuple #[.int .i64 l,.int .i64 Q])/\Below w.heap.size w w'/\nX f g l Q:=by
 by_cases h:g+3<=f.length
 ·have r:=gv E;clear E;go_enter Tryz.func263,Tryz.ntmps263;go_wp2_with (go_at_call 311;refine(Ca r.o true (aL h)).mono ?_;rintro C K ⟨rfl,J,rfl⟩);have F:Below w.heap.size w (w.drewN J):=⟨rfl,rfl,rfl,af _,λ_ _=>rfl⟩;have G:=gv (r.o.below F);generalize a9:w.drewN J=K at *;clear a9;obtain⟨z,A,c4,_,_,a1,a7,_⟩:=G.o.cells;have H:Hid (De B j m t u cap f ao K.drew s g):=G.o.below (aj _ _).drew;go_region_with (go_at_call 312;refine(FQ H.o h).mono ?_;rintro C L ⟨rfl,I⟩;have d:=gv (H.o.below I);have a2:=d.o.cells.2.2.1;obtain⟨a,ok,a6,X,U⟩:=d.o.st.look d.o.byt g h;have x:=gv X;have HA:=gv U;clear X U);all_goals clear a2 a6 z A c4 H G
  all_goals have q:Hid (Below w.heap.size w L):=(F.trans (aj _ _).drew).trans (I.mono F.size)
  all_goals clear F I
  all_goals obtain⟨z,A,_,_,_,a1,a7,_⟩:=d.o.cells
  all_goals obtain⟨b,Y,rfl,hb,V⟩:=d.o.dat.at (by omega)
  all_goals have bi:=d.o.len
  all_goals have N:=gv V
  all_goals clear V
  all_goals (
   cases ok
   ·clear x;go_wp2;refine aF (v:=.tuple #[.int .i64 0,.int .i64 0]) (by simp[results,fq,go_sem]) rfl ⟨0,0,rfl,q.o,Or.inl ⟨rfl,rfl,λ_ Z n=>absurd n.2.2.1 (HA.o (by simp) Z n.1 n.2.1)⟩⟩
   ·have O:=gv (x.o rfl);obtain⟨p1,p2,⟨D,e1,e2⟩,_⟩:=x.o rfl;have HE:=gv (And.intro D (And.intro e1 e2));clear D e1 e2 x;by_cases hf:32768<g-a
    ·have a3:(32768:Int)<(g:Int)-a:=by omega
     clear hf;go_wp2;refine aF (v:=.tuple #[.int .i64 0,.int .i64 0]) (by simp[results,fq,go_sem]) rfl ⟨0,0,rfl,q.o,Or.inl ⟨rfl,rfl,λ_ Z n=>by rw[<-O.o.one n];omega⟩⟩
    ·have a3:¬ (32768:Int)<(g:Int)-a:=by omega
     go_wp2_with fail;clear z A;go_loopw [2] (λl wr=>∃k:Nat,3<=k/\k<=258/\l=.int .i64 k/\g+k<=f.length/\Hid (∀c,c<k->nth f (g+c)=nth f (a+c))/\Below L.heap.size L wr) (λl _=>258-(intOf l).toNat)
     case atStart =>
      refine⟨3,by omega,by omega,rfl,h,?_,aj _ _⟩;intro c W;obtain⟨D,e1,e2⟩:=HE.o;match c,W with
      |0,_=>exact D.symm
      |1,_=>exact e1.symm
      |2,_=>exact e2.symm
     case round =>
      obtain⟨k,a5,a4,rfl,a0,P,bl⟩:=hrel;have M:=gv (d.o.below bl);have z:=M.o.cells.1;have A:=M.o.cells.2.1;have bf:(k:Int)<=258:=by omega
      have i:Hid ((k<258->g+k<f.length->nth f (g+k)≠nth f (a+k))->Below w.heap.size w wr/\nX f g k (g-a)):=by intro a8;exact⟨q.o.trans (bl.mono q.o.size),Or.inr ⟨h,a,O.o,by omega,rfl,a5,a4,a0,P.o,a8⟩⟩
      by_cases t1:k<258
      ·have ba:decide ((k:Int)<258)=true:=by simp;omega
       by_cases t2:g+k<f.length
       ·have bb:decide ((g:Int)+k<f.length)=true:=by simp;omega
        have R:=(bl.cell (p:=⟨b,Y+(g+k),none⟩) (by show b<_;omega)).trans (N.o (g+k) t2);have S:=(bl.cell (p:=⟨b,Y+(a+k),none⟩) (by show b<_;omega)).trans (N.o (a+k) (by omega));have bd:=d.o.lc;by_cases o:nth f (g+k)=nth f (a+k)
        ·have HT:Hid (∀c,c<k+1->nth f (g+c)=nth f (a+c)):=by
          intro c W;by_cases al:c=k;·subst al;exact o
          ·exact P.o c (by omega)
         have p:((nth f (g+k):Int)==(nth f (a+k):Int))=true:=by simp[o]
         generalize nth f (g+k)=ac at R p;generalize nth f (a+k)=ad at S p;clear o;go_wp2_with fail;go_quiet (fail);go_wp2;go_roundw
         case rel=>exact⟨k+1,by omega,by omega,by go_num,by omega,HT,p9 bl _⟩
         case measure=>simp[intOf];omega
        ·have p:((nth f (g+k):Int)==(nth f (a+k):Int))=false:=by simp;omega
         have e:Hid (k<258->g+k<f.length->nth f (g+k)≠nth f (a+k)):=λ_ _=>o;generalize nth f (g+k)=ac at R p;generalize nth f (a+k)=ad at S p;clear o;go_wp2_with fail;go_quiet (fail);go_wp2_with fail;go_quiet (fail);go_wp2;rw[show(g:Int)-a=((g-a:Nat):Int)by omega];refine aF (v:=.tuple #[.int .i64 k,.int .i64 (g-a:Nat)]) (by simp[results,fq,go_sem]) rfl ⟨k,g-a,rfl,p9 (p9 (i.o e.o).1 _) _,(i.o e.o).2⟩
       ·have bb:decide ((g:Int)+k<f.length)=false:=by simp;omega
        have e:Hid (k<258->g+k<f.length->nth f (g+k)≠nth f (a+k)):=λ_ _=>by omega
        go_wp2_with fail;go_quiet (fail);go_wp2_with fail;go_quiet (fail);go_wp2;rw[show(g:Int)-a=((g-a:Nat):Int)by omega];refine aF (v:=.tuple #[.int .i64 k,.int .i64 (g-a:Nat)]) (by simp[results,fq,go_sem]) rfl ⟨k,g-a,rfl,p9 (p9 (i.o e.o).1 _) _,(i.o e.o).2⟩
      ·have ba:decide ((k:Int)<258)=false:=by simp;omega
       have e:Hid (k<258->g+k<f.length->nth f (g+k)≠nth f (a+k)):=λ_ _=>by omega
       go_wp2_with fail;go_quiet (fail);go_wp2_with fail;go_quiet (fail);go_wp2;rw[show(g:Int)-a=((g-a:Nat):Int)by omega];refine aF (v:=.tuple #[.int .i64 k,.int .i64 (g-a:Nat)]) (by simp[results,fq,go_sem]) rfl ⟨k,g-a,rfl,p9 (p9 (i.o e.o).1 _) _,(i.o e.o).2⟩)
 ·have r:=gv E;clear E;go_enter Tryz.func263,Tryz.ntmps263;go_wp2_with (go_at_call 311;refine(Ca r.o false (a_ h)).mono ?_;rintro C K ⟨rfl,J,rfl⟩);refine aF (v:=.tuple #[.int .i64 0,.int .i64 0]) (by simp[results,fq,go_sem]) rfl ⟨0,0,rfl,⟨rfl,rfl,rfl,af _,λ_ _=>rfl⟩,Or.inl ⟨rfl,rfl,λbc=>absurd bc h⟩⟩
end
end Go.Proofs.YtgkljcmjnphpeaaGreatDoor
