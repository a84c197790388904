import Derived.Test.YtgkljcmjnphpeaaGreatDoorK23
set_option linter.unusedVariables false
set_option linter.unusedSimpArgs false
set_option maxHeartbeats 2000000
set_option maxRecDepth 100000
namespace Go.Proofs.YtgkljcmjnphpeaaGreatDoor
open Go.RowKit
theorem AZ(b:List Nat)(a c:Nat)(d:a<b.length):nth (b.set a c) a=c:=by simp[nth,d]
theorem AY(c:List Nat)(b a e:Nat)(d:b≠a):nth (c.set b e) a=nth c a:=by simp[nth,List.getElem?_set_ne d]
theorem zW(c b:List Nat)(g:c.length=b.length)(e:∀a,a<c.length->nth c a=nth b a):c=b:=by apply List.ext_getElem g;intro a d f;have:=e a d;simpa[nth,d,f]using this
theorem nr(b a c:Nat)(d:a<b):nth (List.replicate b c) a=c:=by simp[nth,d]
def uh(b:List Nat):List Nat:=(List.range 16).map λa=>b.count a
theorem zS(a:List Nat):(uh a).length=16:=by simp[uh]
theorem A0(b:List Nat)(a:Nat)(c:a<16):nth (uh b) a=b.count a:=by simp[nth,uh,c]
theorem Hv(d:List Nat)(a:Nat)(e:a<16):uh (d++[a])=(uh d).set a (nth (uh d) a+1):=by
 refine zW _ _ (by simp[zS]) ?_;intro f c;rw[zS]at c;rw[A0 _ _ c,fu];by_cases b:a=f;·subst b;rw[AZ _ _ _ (by rw[zS];exact e),A0 _ _ e];simp
 ·rw[AY _ _ _ _ b,A0 _ _ c];simp[b]
def cz(a:List Nat):List Nat:=(uh a).set 0 0
theorem uq(a:List Nat):(cz a).length=16:=by simp[cz,zS]
theorem F5(a:List Nat):nth (cz a) 0=0:=AZ _ _ _ (by rw[zS];omega)
theorem yH(b:List Nat)(a:Nat)(d:0<a)(c:a<16):nth (cz b) a=b.count a:=by rw[cz,AY _ _ _ _ (by omega),A0 _ _ c]
def pre(a:List Nat)(b:Nat):Nat:=(a.take b).sum
theorem Cn(a:List Nat)(b:Nat)(c:b<a.length):pre a (b+1)=pre a b+nth a b:=by unfold pre;rw[bX c,List.sum_append];simp[nth,c]
theorem Gh(c:List Nat)(a b:Nat)(f:a<=b):pre c a<=pre c b:=by
 induction b with
 |zero =>
  obtain rfl:a=0:=by omega
  exact af _
 |succ b ih =>
  rcases bZ a (b+1)with e | e
  ·refine aD (ih (by omega)) ?_;rcases bZ b c.length with d | d;·rw[Cn _ _ d];omega
   ·unfold pre;rw[aY d,aY (by omega)];exact af _
  ·obtain rfl:a=b+1:=by omega
   exact af _
theorem DD(a:List Nat)(b:a.length=16):pre a 16=a.sum:=by unfold pre;rw[aY (by omega)]
def pl(b:List Nat)(c:Nat):List Nat:=(List.range 16).map λa=>if a<=c then pre b a else 0
theorem zd(a:List Nat)(b:Nat):(pl a b).length=16:=by simp[pl]
theorem yM(b:List Nat)(c a:Nat)(d:a<16):nth (pl b c) a=if a<=c then pre b a else 0:=by simp[nth,pl,d]
theorem J0(c:List Nat):pl c 0=List.replicate 16 0:=by
 refine zW _ _ (by simp[zd]) ?_;intro b a;rw[zd]at a;rw[yM _ _ _ a];by_cases d:b<=0
 ·obtain rfl:b=0:=by omega
  simp[pre,nth]
 ·rw[au d,nr _ _ _ a]
theorem wL(b:List Nat)(a:Nat)(h:a<15)(g:b.length=16):pl b (a+1)=(pl b a).set (a+1) (nth (pl b a) a+nth b a):=by
 refine zW _ _ (by simp[zd]) ?_;intro f c;rw[zd]at c;rw[yM _ _ _ c,yM _ _ _ (by omega),aA (af a)];by_cases d:a+1=f
 ·subst d;rw[AZ _ _ _ (by rw[zd];omega),aA (af _),Cn _ _ (by omega)]
 ·rw[AY _ _ _ _ d,yM _ _ _ c];by_cases e:f<=a;·rw[aA e,aA (by omega)]
  ·rw[au e,au (by omega)]
def fT(a:List Nat):Nat->List Nat × List Nat
 |0=>(pl (cz a) 15,List.replicate (cz a).sum 0)
 |k+1=>if nth a k=0 then fT a k else((fT a k).1.set (nth a k) (nth (fT a k).1 (nth a k)+1),(fT a k).2.set (nth (fT a k).1 (nth a k)) k)
theorem CU(a:List Nat)(j:∀l,l<a.length->nth a l<16):∀k,k<=a.length ->
  (fT a k).1.length=16/\(fT a k).2.length=(cz a).sum/\∀b,0<b->b<16->nth (fT a k).1 b=pre (cz a) b+(a.take k).count b
 |0,_=>⟨zd _ _,by simp[fT],λb d c=>by simp[fT,yM _ _ _ c,show b<=15 by omega]⟩
 |k+1,n=>by
  obtain⟨h,i,h3⟩:=CU a j k (by omega);have o:=j k (by omega);have f:a.take (k+1)=a.take k++[nth a k]:=by rw[bX (by omega)];simp[nth,show k<a.length by omega]
  unfold fT;by_cases e:nth a k=0
  ·rw[aA e];refine⟨h,i,λb d c=>?_⟩;have m:¬ 0=b:=by omega
   rw[h3 b d c,f,fu,e];simp[m]
  ·rw[au e];refine⟨by simp[h],by simp[i],λb d c=>?_⟩;by_cases g:nth a k=b
   ·subst g;rw[AZ _ _ _ (by omega),h3 _ d c,f,fu];simp;omega
   ·rw[AY _ _ _ _ g,h3 b d c,f,fu];simp[g]
theorem IZ(a:List Nat)(e:∀f,f<a.length->nth a f<16)(k:Nat)(b:k<a.length)(d:0<nth a k):nth (fT a k).1 (nth a k)<(cz a).sum:=by
 obtain⟨_,_,h3⟩:=CU a e k (by omega);have c:=e k b;rw[h3 _ d c];have g:a=a.take k++(nth a k::a.drop (k+1)):=by
  have:nth a k=a[k]:=by simp[nth,b]
  rw[this,<-bU b,cI]
 have l:(a.take k).count (nth a k)<a.count (nth a k):=by have h:=cq (List.count (nth a k)) g;rw[fu,List.count_cons_self]at h;omega
 have i:=Cn (cz a) (nth a k) (by rw[uq];exact c);rw[yH _ _ d c]at i;have j:=Gh (cz a) (nth a k+1) 16 (by omega);rw[DD _ (uq a)]at j;omega
theorem Ic(b:List Nat)(j:∀a,a<b.length->nth b a<16):(cz b).sum<=16*b.length:=by
 have:∀c:List Nat,(∀a,a<c.length->nth c a<=b.length)->c.sum<=c.length*b.length:=by
  intro c;induction c with
  |nil=>simp
  |cons f c ih=>intro d;have h:=ih (λa e=>d (a+1) (by simpa using e));have i:f<=b.length:=d 0 (by simp);simp only[ek,ag,Nat.add_mul,Nat.one_mul];omega
 have d:=this (cz b) (λa e=>by
  rw[uq]at e;by_cases g:a=0;·subst g;rw[F5];omega
  ·rw[yH _ _ (by omega) e];exact List.count_le_length)
 rw[uq]at d;exact d
theorem BZ:cz lI=lG/\(fT lI 288).2=kN/\cz lH=lF/\(fT lH 32).2=kM:=by refine⟨by decide +kernel,by decide +kernel,by decide +kernel,by decide +kernel⟩
section
variable{w:World}
def qx:Obj:=.cells (jb (List.replicate 16 0)++[Value.slice none 0 0]).toArray 162 (0,0)
structure xc(w:World)(wr:World)(c:List Nat):Prop where
 below:Below w.heap.size w wr
 size:wr.heap.size=w.heap.size+2
 res:wr.heap[w.heap.size]?=some qx
 cod:wr.heap[w.heap.size+1]?=some (.cells (jb c++[Value.slice none 0 0]).toArray 162 (0,0))
 len:c.length=16
theorem xc.cell{wr:World}{b:List Nat}(c:xc w wr b)(a:Nat)(d:a<16):wr.cell? ⟨w.heap.size+1,a,none⟩=some (.int .i64 (nth b a:Nat)):=by rw[cb c.cod];have:=c.len;simp[jb,nth,aI,this,d]
theorem xc.set{wr:World}{b:List Nat}(a:xc w wr b)(i c:Nat)(d:i<16):xc w (wr.setCell ⟨w.heap.size+1,i,none⟩ (.int .i64 c)) (b.set i c):=by
 have e:=a.len;refine⟨a.below.setCell (by show w.heap.size<=w.heap.size+1;omega) _,by simp[a.size],?_,?_,by simp[a.len]⟩;·rw[jL _ (by omega)];exact a.res
 ·rw[lq _ a.cod];have:i<(jb b).length:=by simp[jb,e,d]
  simp only[List.setIfInBounds_toArray,List.set_append_left _ _ this];simp[jb,List.map_set]
structure qH(w:World)(wr:World)(c P:List Nat)(v:Value):Prop where
 below:Below w.heap.size w wr
 size:w.heap.size+3<=wr.heap.size
 res:wr.heap[w.heap.size]?=some qx
 cod:wr.heap[w.heap.size+1]?=some (.cells (jb c++[v]).toArray 162 (0,0))
 plc:wr.heap[w.heap.size+2]?=some (.cells (jb P).toArray 160 (0,0))
 len:c.length=16
 lep:P.length=16
theorem qH.cell{wr:World}{b P:List Nat}{e:Value}(c:qH w wr b P e)(a:Nat)(d:a<16):wr.cell? ⟨w.heap.size+1,a,none⟩=some (.int .i64 (nth b a:Nat)):=by rw[cb c.cod];have:=c.len;simp[jb,nth,aI,this,d]
theorem qH.cell16{wr:World}{d c:List Nat}{b:Value}(a:qH w wr d c b):wr.cell? ⟨w.heap.size+1,16,none⟩=some b:=by rw[cb a.cod];have:=a.len;simp[jb,ar,this]
theorem qH.place{wr:World}{d b:List Nat}{f:Value}(c:qH w wr d b f)(a:Nat)(e:a<16):wr.cell? ⟨w.heap.size+2,a,none⟩=some (.int .i64 (nth b a:Nat)):=by rw[cb c.plc];have:=c.lep;simp[jb,nth,this,e]
theorem qH.drew{wr:World}{b P:List Nat}{v:Value}(a:qH w wr b P v):qH w wr.drew b P v:=⟨a.below.drew,a.size,a.res,a.cod,a.plc,a.len,a.lep⟩
theorem qH.setP{wr:World}{d c:List Nat}{e:Value}(a:qH w wr d c e)(b f:Nat)(g:b<16):qH w (wr.setCell ⟨w.heap.size+2,b,none⟩ (.int .i64 f)) d (c.set b f) e:=by
 refine⟨a.below.setCell (by show w.heap.size<=w.heap.size+2;omega) _,by simp[a.size],?_,?_,?_,a.len,by simp[a.lep]⟩;·rw[jL _ (by omega)];exact a.res
 ·rw[jL _ (by omega)];exact a.cod
 ·rw[lq _ a.plc];simp[jb,List.map_set]
theorem qH.setV{wr:World}{b c:List Nat}{f:Value}(a:qH w wr b c f)(d:Value):qH w (wr.setCell ⟨w.heap.size+1,16,none⟩ d) b c d:=by
 have e:=a.len;refine⟨a.below.setCell (by show w.heap.size<=w.heap.size+1;omega) _,by simp[a.size],?_,?_,?_,a.len,a.lep⟩;·rw[jL _ (by omega)];exact a.res
 ·rw[lq _ a.cod];have:(jb b).length=16:=by simp[jb,e]
  simp only[List.setIfInBounds_toArray];rw[ft _ _ (by omega),this];rfl
 ·rw[jL _ (by omega)];exact a.plc
theorem qH.other{wr:World}{d c:List Nat}{v:Value}(b:qH w wr d c v)(a:Addr)(e:Value)(f:w.heap.size+3<=a.block):qH w (wr.setCell a e) d c v:=by
 refine⟨b.below.setCell (by omega) _,by simp[b.size],?_,?_,?_,b.len,b.lep⟩;·rw[dB _ _ _ _ (by omega)];exact b.res
 ·rw[dB _ _ _ _ (by omega)];exact b.cod
 ·rw[dB _ _ _ _ (by omega)];exact b.plc
theorem qH.grown{wr e:World}{c P:List Nat}{d:Value}(a:qH w wr c P d)(b:wr.grownBy e none):qH w e c P d:=by
 have f:=a.size;refine⟨a.below.grown b (by omega) (λk a=>by cases a),by have:=b.size;omega,?_,?_,?_,a.len,a.lep⟩;·rw[b.block _ (by omega) (by simp)];exact a.res
 ·rw[b.block _ (by omega) (by simp)];exact a.cod
 ·rw[b.block _ (by omega) (by simp)];exact a.plc
theorem Ib{wr:World}{b:List Nat}(c:xc w wr (uh b)):qH w ((wr.setCell ⟨w.heap.size+1,0,none⟩ (.int .i64 0)).alloc (.cells (jb (List.replicate 16 0)).toArray 160 (0,0))) (cz b) (pl (cz b) 0) (.slice none 0 0):=by have a:xc w (wr.setCell ⟨w.heap.size+1,0,none⟩ (.int .i64 0)) (cz b):=c.set 0 0 (by omega);refine⟨a.below.alloc (by rw[a.size];omega) _,by rw[bM,a.size];omega,l9 _ a.res,l9 _ a.cod,?_,uq b,zd _ _⟩;rw[J0];have:=jd (wr.setCell ⟨w.heap.size+1,0,none⟩ (.int .i64 0)) (.cells (jb (List.replicate 16 0)).toArray 160 (0,0));rw[a.size]at this;exact this
theorem rm{c:World}{d b a:Nat}(g:c.ownsRow d 3 1 (.slice (some ⟨b,0,none⟩) a a) a (madeCells (Value.cells (.int .i64 0)) (a*1)).toList):c.heap[b]?=some (.cells (jb (List.replicate a 0)).toArray 3 (0,0)):=by
 rcases g.2 with⟨h,_⟩ | ⟨n,m,e,l,_,j,_,_,i,k⟩;·cases h
 cases l;have f:e.toList=(madeCells (Value.cells (.int .i64 0)) (a*1)).toList:=by rw[<-k,aY (by rw[ee,i];omega)]
 have e2:(madeCells (Value.cells (.int .i64 0)) (a*1)).toList=jb (List.replicate a 0):=by show(madeCells #[Value.int .i64 0] (a*1)).toList=_;rw[toList_madeCells_one];simp[jb]
 rw[j,<-e2,<-f]
theorem wV{wr:World}{b:Nat}(c:wr.heap[b]?=some qx):wr.there b 0 17:=by intro e d;have a:wr.heap[b]?=some (.cells (jb (List.replicate 16 0)++[Value.slice none 0 0]).toArray 162 (0,0)):=c;refine⟨?_,nP a⟩;rw[cb a,dI,ai (by simp[jb];omega)];rfl
theorem A4(b:List Nat)(a:Option Addr){d c:Nat}:(jb b++[Value.slice a d c]).toArray.all (·.oneCell')=true:=by simp[jb,Value.oneCell']
theorem Tryz.infoInt:(Tryz.prog.info? 3).map (λa=>(a.zero,a.size,a.bytes))=some (some (.int .i64 0),1,8):=by kernel_rfl
theorem E_(l m bc:Nat)(a:List Nat)(y:∀e,e<a.length->nth a e<16)(hn:a.length<=320)(M:l<w.heap.size)(L:∀e,e<a.length->w.cell? ⟨l,m+e,none⟩=some (.int .i64 (nth a e:Nat))) :
  Calls Tryz.prog 219 #[.slice (some ⟨l,m,none⟩) a.length bc] w λr w'=>∃H,r=.returned (.agg (jb (cz a)++[Value.slice (some ⟨H,0,none⟩) (cz a).sum (cz a).sum]).toArray)/\j9 w' H (fT a a.length).2/\Below w.heap.size w w'/\w.heap.size<=H:=by
 go_enter Tryz.func219,Tryz.ntmps219;go_wp2;go_loopw [12] (λe wr=>∃k:Nat,k<=a.length/\e=.int .i64 k/\xc w wr (uh (a.take k))) (λe _=>a.length-(intOf e).toNat)
 case atStart =>
  refine⟨0,aE _,rfl,⟨((aj _ _).alloc (af _) _).alloc (by simp) _,by simp,?_,?_,zS _⟩⟩;·exact l9 _ (jd w qx)
  ·have:=jd (w.alloc qx) (.cells (jb (uh (a.take 0))++[Value.slice none 0 0]).toArray 162 (0,0));have r:(w.alloc qx).heap.size=w.heap.size+1:=by simp
   rw[r]at this;exact this
 case round =>
  obtain⟨k,x,rfl,c⟩:=hrel;by_cases f:k<a.length
  ·have j:=y k f;have W:wr.cell? ⟨l,m+k,none⟩=some (.int .i64 (nth a k:Nat)):=(c.below.cell (p:=⟨l,m+k,none⟩) M).trans (L k f);have c2:=c.cell (nth a k) j;have f2:wr.frozen? ⟨w.heap.size+1,nth a k,none⟩=false:=nP c.cod;have al:=A0 (a.take k) (nth a k) j;have b6:nth (uh (a.take k)) (nth a k)<=320:=by rw[al];refine aD List.count_le_length ?_;rw[ax];omega
   have HS:=gv (Hv (a.take k) (nth a k) j);have HT:Hid (a.take (k+1)=a.take k++[nth a k]):=by unfold Hid;rw[bX f];simp[nth,f]
   clear al;generalize hC:uh (a.take k)=a9 at *;clear hC;generalize K:nth a k=h at *;clear K;have bs:(h:Int)<16:=by omega
   go_wp2;go_roundw
   case rel=>refine⟨k+1,by omega,by go_num,?_⟩;rw[HT.o,HS.o];have:=c.set h (nth a9 h+1) j;simpa using this
   case measure=>simp[intOf];omega
  ·obtain rfl:k=a.length:=by omega
   rw[dM]at c;have c0:=c.cell 0 (by omega);have f0:=ix 0 c.cod;have bn:=c.size;have a6:=Ic a y;have a5:=Ib c;obtain⟨i0,N,bt,bv,bx⟩:=bu Tryz.infoInt;clear c f x;obtain⟨wo,bq⟩:∃wo:World,wo=wr:=⟨_,rfl⟩;subst bq;have F:=gv y;have HC:=gv L;have n:=gv (And.intro hn (And.intro M a6));clear y L hn M a6;go_wp2;go_loopw [7] (λP wr=>∃k:Nat,k<=15/\P=.int .i64 ((k:Int)+1)/\qH w wr (cz a) (pl (cz a) k) (.slice none 0 0)) (λP _=>16-(intOf P).toNat)
   case atStart=>exact⟨0,by omega,rfl,a5⟩
   clear a5 c0 f0
   case round =>
    obtain⟨k,x,rfl,c⟩:=hrel;clear bn;by_cases f:k<15
    ·have cd:(k:Int)+1<=15:=by omega
     have Q:=c.place k (by omega);have p1:=c.place (k+1) (by omega);have R:=c.cell k (by omega);have f1:wr.frozen? ⟨w.heap.size+2,k+1,none⟩=false:=nP c.plc;have ac:=Gh (cz a) k 16 (by omega);rw[DD _ (uq a)]at ac;have b4:nth (pl (cz a) k) k<=5120:=by rw[yM _ _ _ (by omega),aA (af _)];have:=n.o;omega
     have b5:nth (cz a) k<=320:=by
      by_cases u:k=0;·subst u;rw[F5];omega
      ·rw[yH _ _ (by omega) (by omega)];exact aD List.count_le_length n.o.1
     have q:=gv (wL (cz a) k f (uq a));clear ac;generalize I:nth (pl (cz a) k) k=S at *;generalize J:nth (cz a) k=T at *;generalize hD:nth (pl (cz a) k) (k+1)=Dd at *;clear I J hD;go_wp2_with fail;go_region;go_wp2;go_roundw
     case rel=>refine⟨k+1,by omega,by go_num,?_⟩;rw[q.o];have:=(c.setP (k+1) (S+T) (by omega)).drew;simpa using this
     case measure=>simp[intOf];omega
    ·obtain rfl:k=15:=by omega
     have Q:=c.place 15 (by omega);have R:=c.cell 15 (by omega);have bf:nth (pl (cz a) 15) 15+nth (cz a) 15=(cz a).sum:=by rw[yM _ _ _ (by omega),aA (af _),<-Cn _ _ (by rw[uq];omega),DD _ (uq a)]
     have hN:(cz a).sum<=5120:=by have:=n.o;omega
     have Y:=c.size;obtain⟨d,br⟩:∃d:World,d=wr:=⟨_,rfl⟩;subst br;have A:nth (pl (cz a) 15) 15+nth (cz a) 15<=(cz a).sum:=by omega
     have B:(cz a).sum<=nth (pl (cz a) 15) 15+nth (cz a) 15:=by omega
     clear bf;generalize I:nth (pl (cz a) 15) 15=S at Q A B;generalize J:nth (cz a) 15=T at R A B;clear I J f x;generalize Z:(cz a).sum=b at hN A B;have G:=gv Z;clear Z;go_wp2_with (at_make;refine wpList_make_full _ rfl _ _ 52 rfl (w.heap.size+3) 3 i0 (.int .i64 0) 1 dq N bt bv .i64 .i64 _ _ b rfl rfl (by omega) (by omega) (by rw[bx];omega) (by unfold maxLen;omega) Y ?_;intro C a2 a0;have t:=c.grown a0;have bz:=t.cell16;have bd:C.frozen? ⟨w.heap.size+1,16,none⟩=false:=nP t.cod;have g:=rm a2);have st:=t.setV (.slice (some ⟨d.heap.size,0,none⟩) b b);have a8:(C.setCell ⟨w.heap.size+1,16,none⟩ (.slice (some ⟨d.heap.size,0,none⟩) b b)).heap[d.heap.size]?=some (.cells (jb (List.replicate b 0)).toArray 3 (0,0)):=by rw[jL _ (by omega)];exact g
     have V:Hid (qH w (C.setCell ⟨w.heap.size+1,16,none⟩ (.slice (some ⟨d.heap.size,0,none⟩) b b)) (cz a) (fT a 0).1 (.slice (some ⟨d.heap.size,0,none⟩) b b)/\(C.setCell ⟨w.heap.size+1,16,none⟩ (.slice (some ⟨d.heap.size,0,none⟩) b b)).heap[d.heap.size]?=some (.cells (jb (fT a 0).2).toArray 3 (0,0))):=⟨st,by unfold fT;rw[G.o];exact a8⟩;clear st a8 a2 a0 t bz bd g c Q R A B;go_loopw [52] (λe wr=>∃k:Nat,k<=a.length/\e=.int .i64 k/\Hid (qH w wr (cz a) (fT a k).1 (.slice (some ⟨d.heap.size,0,none⟩) b b)/\wr.heap[d.heap.size]?=some (.cells (jb (fT a k).2).toArray 3 (0,0)))) (λe _=>a.length-(intOf e).toNat)
     case atStart=>exact⟨0,aE _,rfl,V⟩
     clear V
     case round =>
      obtain⟨k,x,rfl,U⟩:=hrel;obtain⟨c,g⟩:=U.o;clear U;have b7:k<=320:=by have:=n.o;omega
      have b8:(k:Int)<=320:=by omega
      by_cases f:k<a.length
      ·have j:=F.o k f;have W:wr.cell? ⟨l,m+k,none⟩=some (.int .i64 (nth a k:Nat)):=(c.below.cell (p:=⟨l,m+k,none⟩) n.o.2.1).trans (HC.o k f);by_cases u:0<nth a k
       ·have bi:=IZ a F.o k f u;obtain⟨_,i2,_⟩:=CU a F.o k (by omega);rw[G.o]at bi i2;have c2:=c.place (nth a k) j;have f2:wr.frozen? ⟨w.heap.size+2,nth a k,none⟩=false:=nP c.plc;have c3:=c.cell16;have X:∃b0,wr.cell? ⟨d.heap.size,nth (fT a k).1 (nth a k),none⟩=some b0:=by
         rw[cb g];have:nth (fT a k).1 (nth a k)<(jb (fT a k).2).length:=by simp only[jb,av];omega
         exact⟨_,by rw[dI,ai this]⟩
        obtain⟨u4,X⟩:=X;have f4:wr.frozen? ⟨d.heap.size,nth (fT a k).1 (nth a k),none⟩=false:=nP g;have s:fT a (k+1)=((fT a k).1.set (nth a k) (nth (fT a k).1 (nth a k)+1),(fT a k).2.set (nth (fT a k).1 (nth a k)) k):=by
         conv=>lhs;unfold fT
         rw[au (by omega)]
        have q:=gv s;have v:=gv (And.intro c g);clear s i2 c g;generalize hP:nth (fT a k).1 (nth a k)=i at *;generalize K:nth a k=h at *;clear hP K;have bs:(h:Int)<16:=by omega
        have b3:(0:Int)<(h:Int):=by omega
        have b9:(i:Int)<(b:Int):=by omega
        go_wp2_with fail;go_region;go_wp2;go_roundw
        case rel =>
         refine⟨k+1,by omega,by go_num,?_⟩;rw[q.o];have h1:=(((v.o.1).other ⟨d.heap.size,i,none⟩ (.int .i64 k) Y).setP h (i+1) j).drew;have h2:((wr.setCell ⟨d.heap.size,i,none⟩ (.int .i64 k)).setCell ⟨w.heap.size+2,h,none⟩ (.int .i64 (i+1:Nat))).drew.heap[d.heap.size]?=some (.cells (jb ((fT a k).2.set i k)).toArray 3 (0,0)):=by show((wr.setCell ⟨d.heap.size,i,none⟩ (.int .i64 k)).setCell ⟨w.heap.size+2,h,none⟩ (.int .i64 (i+1:Nat))).heap[d.heap.size]?=_;rw[jL _ (by omega),lq _ v.o.2];simp[jb,List.map_set]
         have:=And.intro h1 h2;simpa[Hid]using this
        case measure=>simp[intOf];omega
       ·have O:nth a k=0:=by omega
        have s:fT a (k+1)=fT a k:=by
         conv=>lhs;unfold fT
         rw[aA O]
        have q:=gv s;have v:=gv (And.intro c g);rw[O]at W;clear s c g O u j;go_wp2;go_roundw
        case rel=>refine⟨k+1,by omega,by go_num,?_⟩;rw[q.o];exact v.o
        case measure=>simp[intOf];omega
      ·obtain rfl:k=a.length:=by omega
       have a3:wr.rangeAt (w.heap.size+1) 0 (jb (cz a)++[.slice (some ⟨d.heap.size,0,none⟩) b b]):=by intro cg b1 hv;rw[b_,cb c.cod];simpa using hv
       have z:(jb (cz a)++[Value.slice (some ⟨d.heap.size,0,none⟩) b b]).length=17:=by simp[jb,uq]
       have a1:(Tryz.prog.info? 162).map (·.size)=some (jb (cz a)++[Value.slice (some ⟨d.heap.size,0,none⟩) b b]).length:=by rw[z];kernel_rfl
       have a7:wr.there w.heap.size 0 (jb (cz a)++[Value.slice (some ⟨d.heap.size,0,none⟩) b b]).toArray.size:=by have r:(jb (cz a)++[Value.slice (some ⟨d.heap.size,0,none⟩) b b]).toArray.size=17:=List.size_toArray.trans z;rw[r];exact wV c.res
       have bm:(jb (cz a)++[Value.slice (some ⟨d.heap.size,0,none⟩) b b]).toArray.all (·.oneCell')=true:=A4 _ _;have ao:(wr.setCells w.heap.size 0 (jb (cz a)++[Value.slice (some ⟨d.heap.size,0,none⟩) b b])).heap[w.heap.size]?=some (.cells (jb (cz a)++[Value.slice (some ⟨d.heap.size,0,none⟩) b b]).toArray 162 (0,0)):=
        z9 c.res (by rw[z];rfl)
       have a4:j9 (wr.setCells w.heap.size 0 (jb (cz a)++[Value.slice (some ⟨d.heap.size,0,none⟩) b b])) d.heap.size (fT a a.length).2:=by refine⟨_,_,by rw[xz _ (by omega)];exact g,λe N=>?_⟩;rw[dI];exact ig _ _ N
       have ad:Below w.heap.size w (wr.setCells w.heap.size 0 (jb (cz a)++[Value.slice (some ⟨d.heap.size,0,none⟩) b b])):=vW _ _ (af _) _ _ _ _ c.below;have D:=gv (And.intro ao (And.intro a4 ad));clear ao a4 ad;have b2:=gv (And.intro c g);have E:=gv a1;have ba:=gv a3;have bb:=gv a7;clear c g a1 z a3 a7;go_wp2_with (first | (refine dW rfl 162 (.tmp 3) rfl (w.heap.size+1) 0 rfl _ _ ba.o Tryz.underlying162 rfl E.o ?_) | (refine eW rfl 162 (.tmp 2) (.tmp 72) rfl w.heap.size 0 _ rfl rfl bb.o (by rw[dS];exact E.o) bm ?_));have bw:(Tryz.prog.info? 162).map (·.size)=some (jb (cz a)++[Value.slice (some ⟨d.heap.size,0,none⟩) b b]).toArray.size:=by rw[dS];exact E.o
       refine aF (v:=.agg (jb (cz a)++[Value.slice (some ⟨d.heap.size,0,none⟩) b b]).toArray) ?_ rfl ⟨d.heap.size,by rw[G.o],D.o.2.1,D.o.2.2,by omega⟩;exact aJ Tryz.results219 _ _ w.heap.size 162 _ _ _ rfl D.o.1 Tryz.underlying162 rfl bw
def nT:Obj:=.cells ((jb (List.replicate 16 0)++[Value.slice none 0 0])++(jb (List.replicate 16 0)++[Value.slice none 0 0])).toArray 164 (0,0)
def gS(a:List Nat)(k:Nat):List Nat:=(List.range a.length).map λi=>if i<k then nth a i else 0
theorem sP(a:List Nat)(k:Nat):(gS a k).length=a.length:=by simp[gS]
theorem Ci(b:List Nat)(k a:Nat)(c:a<b.length):nth (gS b k) a=if a<k then nth b a else 0:=by simp[gS,nth,c]
theorem xy(b:List Nat):gS b 0=List.replicate b.length 0:=by refine zW _ _ (by simp[gS]) ?_;intro c a;rw[sP]at a;rw[Ci _ _ _ a,au (by omega),nr _ _ _ a]
theorem Cl(b:List Nat):gS b b.length=b:=by refine zW _ _ (by simp[gS]) ?_;intro c a;rw[sP]at a;rw[Ci _ _ _ a,aA a]
theorem xx(a:List Nat)(k:Nat)(f:k<a.length):gS a (k+1)=(gS a k).set k (nth a k):=by
 refine zW _ _ (by simp[gS]) ?_;intro e b;rw[sP]at b;rw[Ci _ _ _ b];by_cases c:k=e;·subst c;rw[AZ _ _ _ (by rw[sP];exact f),aA (by omega)]
 ·rw[AY _ _ _ _ c,Ci _ _ _ b];by_cases d:e<k;·rw[aA d,aA (by omega)]
  ·rw[au d,au (by omega)]
theorem Jj:lI.length=288:=by decide +kernel
theorem IA:lH.length=32:=by decide +kernel
theorem Jm:∀k:Fin 288,nth lI k.val=if k.val<=143 then 8 else if k.val<=255 then 9 else if k.val<=279 then 7 else 8:=by decide +kernel
theorem Iy:∀k:Fin 32,nth lH k.val=5:=by decide +kernel
structure Lw(w wr:World)(g:Nat)(l:List Nat):Prop where
 below:Below w.heap.size w wr
 res:wr.heap[w.heap.size]?=some nT
 row:wr.heap[g]?=some (.cells (jb l).toArray 3 (0,0))
theorem Lw.cell{wr:World}{c:Nat}{b:List Nat}(d:Lw w wr c b)(a:Nat)(e:a<b.length):wr.cell? ⟨c,a,none⟩=some (.int .i64 (nth b a:Nat)):=by rw[cb d.row,dI];exact ig _ _ e
theorem Lw.set{wr:World}{a:Nat}{c:List Nat}(b:Lw w wr a c)(e:w.heap.size<a)(i d:Nat):Lw w (wr.setCell ⟨a,i,none⟩ (.int .i64 d)) a (c.set i d):=by
 refine⟨b.below.setCell (by show w.heap.size<=a;omega) _,?_,?_⟩;·rw[jL _ (by omega)];exact b.res
 ·rw[lq _ b.row];simp[jb,List.map_set]
theorem rX(a:List Value)(s:a.length=17):∃b c k l m n o p q r d e f g h i j,a=[b,c,k,l,m,n,o,p,q,r,d,e,f,g,h,i,j]:=
 match a,s with
 | [b,c,k,l,m,n,o,p,q,r,d,e,f,g,h,i,j],_=>⟨b,c,k,l,m,n,o,p,q,r,d,e,f,g,h,i,j,rfl⟩
theorem Hq(b c k l m n o p q r d e f g h i j s t C D E F G H I J u v x y z A B:Value)(a:World):(Instr.build 164 #[(0,.agg #[b,c,k,l,m,n,o,p,q,r,d,e,f,g,h,i,j]),(1,.agg #[s,t,C,D,E,F,G,H,I,J,u,v,x,y,z,A,B])]).run Tryz.prog a=.ok (.agg #[b,c,k,l,m,n,o,p,q,r,d,e,f,g,h,i,j,s,t,C,D,E,F,G,H,I,J,u,v,x,y,z,A,B]) a:=by kernel_rfl
theorem KC(a b:List Value)(M:a.length=17)(N:b.length=17)(c:World):(Instr.build 164 #[(0,.agg a.toArray),(1,.agg b.toArray)]).run Tryz.prog c=.ok (.agg (a++b).toArray) c:=by obtain⟨d,e,m,n,o,p,q,r,s,t,f,g,h,i,j,k,l,rfl⟩:=rX a M;obtain⟨u,v,E,F,G,H,I,J,K,L,x,y,z,A,B,C,D,rfl⟩:=rX b N;exact Hq d e m n o p q r s t f g h i j k l u v E F G H I J K L x y z A B C D c
theorem Cv{c:Program}{w:World}{h:Array Oper}{i:List Oper}{b:Oper}{a:Act}{d:Exit->Act->World->Prop}(q:b.guard=none)(j f g:Nat)(m n:Operand)(r:b.op=.build j #[(f,m),(g,n)])
  (k l v:Value) (t:a.eval m=k) (u:a.eval n=l) (s:∀e,(Instr.build j #[(f,k),(g,l)]).run c e=.ok v e) (o:wpList c h d i (a.put b.dst v) w):wpList c h d (b::i) a w:=by
 refine fh q λx p=>?_;unfold Oper.wp;simp[execOp,r,t,u,s,Result.andThen];exact p _ _ o
theorem tZ{wr:World}{b:Nat}(c:wr.heap[b]?=some nT):wr.there b 0 34:=by intro e d;have a:wr.heap[b]?=some (.cells ((jb (List.replicate 16 0)++[Value.slice none 0 0])++(jb (List.replicate 16 0)++[Value.slice none 0 0])).toArray 164 (0,0)):=c;refine⟨?_,nP a⟩;rw[cb a,dI,ai (by simp[jb];omega)];rfl
theorem IX(a b:List Nat)(s:a.length=288)(t:b.length=32)(n1:∀k,k<288->nth a k=if k<=143 then 8 else if k<=255 then 9 else if k<=279 then 7 else 8)(n2:∀k,k<32->nth b k=5):Calls Tryz.prog 159 #[] w λL Y=>∃i j,L=.returned (.agg ((jb (cz a)++[Value.slice (some ⟨i,0,none⟩) (cz a).sum (cz a).sum])++(jb (cz b)++[Value.slice (some ⟨j,0,none⟩) (cz b).sum (cz b).sum])).toArray)/\j9 Y i (fT a 288).2/\j9 Y j (fT b 32).2/\Below w.heap.size w Y/\w.heap.size<=i/\w.heap.size<=j:=by
 obtain⟨i0,g,a6,a7,a8⟩:=bu Tryz.infoInt;have N1:=gv n1;have N2:=gv n2;clear n1 n2;go_enter Tryz.func159,Tryz.ntmps159;go_wp2_with (at_make;refine wpList_make_full _ rfl _ _ 52 rfl (w.heap.size+1) 3 i0 (.int .i64 0) 1 dq g a6 a7 .i64 .i64 _ _ 288 rfl rfl (by omega) (by omega) (by rw[a8];omega) (by unfold maxLen;omega) (by simp) ?_;intro I F l;have h:=rm F);have a3:Lw w I (w.heap.size+1) (gS a 0):=by rw[xy,s];refine⟨((aj _ _).alloc (af _) _).grown l (by simp) (λk M=>by cases M),?_,by simpa using h⟩;rw[l.block _ (by simp) (by simp)];exact jd w nT
 clear F l h;go_loopw [8] (λd wr=>∃k:Nat,k<=288/\d=.int .i64 k/\Lw w wr (w.heap.size+1) (gS a k)) (λd _=>288-(intOf d).toNat)
 case atStart=>exact⟨0,by omega,rfl,a3⟩
 clear a3
 case round =>
  obtain⟨k,T,rfl,c⟩:=hrel;by_cases q:k<288
  ·have K:=c.cell k (by rw[sP,s];exact q);have f1:wr.frozen? ⟨w.heap.size+1,k,none⟩=false:=nP c.row;have E:=N1.o k q;have G:=gv E;have bb:=gv (xx a k (by rw[s];exact q));have x:=gv c;clear E c;have ad:∀J:Nat,nth a k=J->Lw w (wr.setCell ⟨w.heap.size+1,k,none⟩ (.int .i64 J)) (w.heap.size+1) (gS a (k+1)):=by intro J hx;rw[bb.o,hx];exact x.o.set (by omega) k J
   have u:=gv ad;clear ad;generalize O:nth (gS a k) k=Qq at K;clear O;have bf:(k:Int)<288:=by omega
   rcases(show k<=143\/(143<k/\k<=255)\/(255<k/\k<=279)\/279<k by omega)with y | y | y | y
   ·have N:(k:Int)<=143:=by omega
    go_wp2;go_roundw
    case rel=>exact⟨k+1,by omega,by go_num,u.o 8 (by rw[G.o,aA y])⟩
    case measure=>simp[intOf];omega
   ·have N:¬ (k:Int)<=143:=by omega
    have h3:(k:Int)<=255:=by omega
    go_wp2;go_roundw
    case rel=>exact⟨k+1,by omega,by go_num,u.o 9 (by rw[G.o,au (by omega),aA y.2])⟩
    case measure=>simp[intOf];omega
   ·have N:¬ (k:Int)<=143:=by omega
    have h3:¬ (k:Int)<=255:=by omega
    have h4:(k:Int)<=279:=by omega
    go_wp2;go_roundw
    case rel=>exact⟨k+1,by omega,by go_num,u.o 7 (by rw[G.o,au (by omega),au (by omega),aA y.2])⟩
    case measure=>simp[intOf];omega
   ·have N:¬ (k:Int)<=143:=by omega
    have h3:¬ (k:Int)<=255:=by omega
    have h4:¬ (k:Int)<=279:=by omega
    go_wp2;go_roundw
    case rel=>exact⟨k+1,by omega,by go_num,u.o 8 (by rw[G.o,au (by omega),au (by omega),au (by omega)])⟩
    case measure=>simp[intOf];omega
  ·obtain rfl:k=288:=by omega
   have C:gS a 288=a:=by have:=Cl a;rw[s]at this;exact this
   rw[C]at c;clear C T q;obtain⟨m,bv⟩:∃m:World,m=wr:=⟨_,rfl⟩;subst bv;have b3:=ae c.row;go_wp2_with (at_make;refine wpList_make_full _ rfl _ _ 52 rfl (w.heap.size+1) 3 i0 (.int .i64 0) 1 dq g a6 a7 .i64 .i64 _ _ 32 rfl rfl (by omega) (by omega) (by rw[a8];omega) (by unfold maxLen;omega) (by omega) ?_;intro I F l;have h:=rm F);have a4:Lw w I m.heap.size (gS b 0)/\I.heap[w.heap.size+1]?=some (.cells (jb a).toArray 3 (0,0)):=by
    rw[xy,t];refine⟨⟨c.below.grown l (by omega) (λk M=>by cases M),?_,h⟩,?_⟩;·rw[l.block _ (by omega) (by simp)];exact c.res
    ·rw[l.block _ (by omega) (by simp)];exact c.row
   clear F l h c;go_loopw [36] (λd wr=>∃k:Nat,k<=32/\d=.int .i64 k/\Hid (Lw w wr m.heap.size (gS b k)/\wr.heap[w.heap.size+1]?=some (.cells (jb a).toArray 3 (0,0)))) (λd _=>32-(intOf d).toNat)
   case atStart=>exact⟨0,by omega,rfl,a4⟩
   clear a4
   case round =>
    obtain⟨k,T,rfl,HH⟩:=hrel;obtain⟨c,h⟩:=HH.o;clear HH;by_cases q:k<32
    ·have K:=c.cell k (by rw[sP,t];exact q);have f1:wr.frozen? ⟨m.heap.size,k,none⟩=false:=nP c.row;have V:=xx b k (by rw[t];exact q);have E:=N2.o k q;rw[E]at V;have u:Hid (Lw w (wr.setCell ⟨m.heap.size,k,none⟩ (.int .i64 (5:Nat))) m.heap.size (gS b (k+1))/\(wr.setCell ⟨m.heap.size,k,none⟩ (.int .i64 (5:Nat))).heap[w.heap.size+1]?=some (.cells (jb a).toArray 3 (0,0))):=by refine⟨by rw[V];exact c.set (by omega) k 5,?_⟩;rw[jL _ (by omega)];exact h
     clear V E c h;generalize O:nth (gS b k) k=Qq at K;clear O;have bf:(k:Int)<32:=by omega
     go_wp2;go_roundw
     case rel=>exact⟨k+1,by omega,by go_num,u⟩
     case measure=>simp[intOf];omega
    ·obtain rfl:k=32:=by omega
     have C:gS b 32=b:=by have:=Cl b;rw[t]at this;exact this
     rw[C]at c;clear C T q;have br:=ae h;have bs:=ae c.row;have R:=E_ (w:=wr) (w.heap.size+1) 0 288 a (λd g=>by rw[s]at g;rw[N1.o d g];split<;>(try split)<;>(try split)<;>omega) (by rw[s];omega) br (λd g=>by rw[b_,cb h,dI];exact ig _ _ g);rw[s]at R;have Z:=gv R;have x:=gv (And.intro c h);clear R c h;go_wp2_with fail;refine Z.o.mono ?_;rintro L w2 ⟨i,rfl,a9,n,l⟩;have S:=E_ (w:=w2) m.heap.size 0 32 b (λd g=>by rw[t]at g;rw[N2.o d g];omega) (by rw[t];omega) (by have:=n.size;omega) (λd g=>by rw[b_,n.cell (p:=⟨m.heap.size,d,none⟩) bs,cb x.o.1.row,dI];exact ig _ _ g)
     rw[t]at S;have ac:=gv S;clear S;go_wp2_with fail;refine ac.o.mono ?_;rintro L r ⟨j,rfl,ba,H,bd⟩;clear Z ac;have P:(jb (cz a)++[Value.slice (some ⟨i,0,none⟩) (cz a).sum (cz a).sum]).length=17:=by simp[jb,uq]
     have Q:(jb (cz b)++[Value.slice (some ⟨j,0,none⟩) (cz b).sum (cz b).sum]).length=17:=by simp[jb,uq]
     have a1:=KC _ _ P Q;have bi:((jb (cz a)++[Value.slice (some ⟨i,0,none⟩) (cz a).sum (cz a).sum])++(jb (cz b)++[Value.slice (some ⟨j,0,none⟩) (cz b).sum (cz b).sum])).toArray.all (·.oneCell')=true:=by simp[jb,Value.oneCell']
     have U:r.heap[w.heap.size]?=some nT:=by have bw:=n.size;rw[H.block _ (by omega),n.block _ (by omega)];exact x.o.1.res
     have a0:Below w.heap.size w r:=(x.o.1.below.trans (n.mono (by omega))).trans (H.mono (by have:=n.size;omega));have a5:j9 r i (fT a 288).2:=by obtain⟨A,B,z,D⟩:=a9;exact⟨A,B,by rw[H.block _ (ae z)];exact z,D⟩
     have bz:w.heap.size<=j:=by have:=n.size;omega
     have bx:w.heap.size<i:=by omega
     have b0:w.heap.size<j:=by have:=n.size;omega
     clear a9 n H l bd x;generalize al:jb (cz a)++[Value.slice (some ⟨i,0,none⟩) (cz a).sum (cz a).sum]=e at *;generalize ao:jb (cz b)++[Value.slice (some ⟨j,0,none⟩) (cz b).sum (cz b).sum]=f at *;have HX:=gv al;have HY:=gv ao;clear al ao;have W:(e++f).length=34:=by rw[ab,P,Q]
     have X:(e++f).toArray.size=34:=List.size_toArray.trans W;have a2:Hid ((Tryz.prog.info? 164).map (·.size)=some (e++f).toArray.size):=by unfold Hid;rw[X];kernel_rfl
     have bt:Hid (r.there w.heap.size 0 (e++f).toArray.size):=by unfold Hid;rw[X];exact tZ U
     have bc:Hid ((r.setCells w.heap.size 0 (e++f)).heap[w.heap.size]?=some (.cells (e++f).toArray 164 (0,0))):=z9 U (by rw[W];rfl);have bm:Hid (j9 (r.setCells w.heap.size 0 (e++f)) i (fT a 288).2):=by obtain⟨A,B,z,D⟩:=a5;exact⟨A,B,by rw[xz _ (by omega)];exact z,D⟩
     have bn:Hid (j9 (r.setCells w.heap.size 0 (e++f)) j (fT b 32).2):=by obtain⟨A,B,z,D⟩:=ba;exact⟨A,B,by rw[xz _ (by omega)];exact z,D⟩
     have bq:Hid (Below w.heap.size w (r.setCells w.heap.size 0 (e++f))):=vW _ _ (af _) _ _ _ _ a0;clear U a0 a5 ba P Q W X;have HB:=gv a1;clear a1;have tokb:True:=trivial;go_wp2_with (first | (have _t:=tokb;refine Cv (by rfl) 164 0 1 (.tmp 44) (.tmp 46) (by rfl) (.agg e.toArray) (.agg f.toArray) (.agg (e++f).toArray) (by rfl) (by rfl) HB.o ?_;clear tokb) | (refine eW (by rfl) 164 (.tmp 0) (.tmp 47) (by rfl) w.heap.size 0 (e++f).toArray (by rfl) (by rfl) bt.o a2.o bi ?_));refine aF (v:=.agg (e++f).toArray) ?_ rfl ⟨i,j,?_,bm.o,bn.o,bq.o,by omega,by omega⟩;·exact aJ Tryz.results159 _ _ w.heap.size 164 _ _ _ rfl bc.o Tryz.underlying164 rfl a2.o
     ·rw[<-HX.o,<-HY.o]
def fC(a b:Nat):List Value:=jb lG++(Value.slice (some ⟨a,0,none⟩) kN.length kN.length::(jb lF++[Value.slice (some ⟨b,0,none⟩) kM.length kM.length]))
theorem E9:lG.sum=kN.length/\lF.sum=kM.length:=by decide +kernel
theorem BT(a b:Nat):(fC a b).length=34:=by unfold fC jb;rw[ab,av,CJ,ag,ab,av,yq];rfl
theorem BU:Calls Tryz.prog 159 #[] w λf d=>∃a c,f=.returned (.agg (fC a c).toArray)/\j9 d a kN/\j9 d c kM/\Below w.heap.size w d/\w.heap.size<=a/\w.heap.size<=c:=by refine(IX lI lH Jj IA (λk e=>Jm ⟨k,e⟩) (λk e=>Iy ⟨k,e⟩)).mono ?_;rintro f d ⟨a,c,rfl,g,h,b,i,j⟩;rw[BZ.1,BZ.2.2.1,E9.1,E9.2];rw[BZ.2.1]at g;rw[BZ.2.2.2]at h;refine⟨a,c,?_,g,h,b,i,j⟩;unfold fC;rw[ak];rfl
end
section
variable{B l k m i g:Nat}{d:List Nat}{c:Nat}{a:List Value}{w:World}{p b left f:Nat}{n:Value}{j:List Nat}
theorem Bi.set3(e:Bi B l k m i g d c a w p b left f n j)(h:Nat):Bi B l k m i g d c a (w.setCell ⟨k,3,none⟩ (.int .i64 h)) p b left h n j:=by refine⟨e.rd.setOther _ e.hbf e.ne e.own_ne,e.hbf,?_,e.hh,e.hl⟩;rw[lq _ e.blk];simp
theorem oh:bits .or .i64 (30720:Int) 156=30876:=by decide +kernel
theorem ah:bits .and .i64 (120:Int) 15=8:=by decide +kernel
theorem G8:bits .and .i64 (156:Int) 32=0:=by decide +kernel
theorem C5(r:Bi B l k m i g d c a w 0 b left f n j)(L:2<=d.length)(u:nth d 0=120)(v:nth d 1=156) :
  Calls Tryz.prog 160 #[.pointer (some ⟨k,0,none⟩)] w λe q=>e=.returned (.tuple #[])/\Bi B l k m i g d c a q 2 b left 32768 n j/\gD 5 B [l,k] w q:=by
 have G:=r.c0;have tok:True:=trivial;have z:=gv u;have A:=gv v;clear u v;have M:=oh;have N:=ah;have O:=G8;go_enter Tryz.func160,Tryz.ntmps160;go_wp2_with fail;go_region_with (first | (go_at_call 214;have F:=tok;refine(tR (r.rd.drewN 1) (by omega)).mono ?_;rintro e P ⟨rfl,y,s⟩;have x:=r.rdKept y (((gD.refl _ _ _ _).drewN 1).trans s);have H:=x.c0;clear tok) | (go_at_call 214;refine(tR y (by omega)).mono ?_;rintro e E ⟨rfl,D,t⟩;have h:=x.rdKept D t;have I:=h.c0;have J:=h.c3;have K:=h.fz 3));all_goals (have C:gD 5 B [l,k] w E:=((gD.refl _ _ _ _).drewN 1).trans ((s.trans t).mono (by simp)))
 all_goals (clear s t)
 all_goals (simp only[z.o,A.o,b_])
 all_goals (go_wp2_with (first | (go_at_call 63;refine(pG _ _ _ _ (by omega) (by omega)).mono ?_;rintro e q ⟨rfl,rfl⟩) | (go_at_call 163;refine(qL _).mono ?_;rintro e q ⟨rfl,rfl⟩)))
 all_goals go_end0
 all_goals exact⟨rfl,h.set3 32768,C.setCell (by simp) _⟩
end
section
variable{B:Nat}{w:World}
def iD(c:List Nat):Nat × Nat:=c.foldl (λa b=>((a.1+b)%65521,(a.2+(a.1+b)%65521)%65521)) (1,0)
def sum4(a:List Nat):List Nat:=[(iD a).2/256,(iD a).2%256,(iD a).1/256,(iD a).1%256]
theorem DS(b:List Nat):(iD b).1<65521/\(iD b).2<65521:=by
 unfold iD;suffices d:∀(b:List Nat) (a:Nat × Nat),a.1<65521/\a.2<65521->(b.foldl (λa c=>((a.1+c)%65521,(a.2+(a.1+c)%65521)%65521)) a).1<65521/\(b.foldl (λa c=>((a.1+c)%65521,(a.2+(a.1+c)%65521)%65521)) a).2<65521 from d b _ ⟨by decide,by decide⟩
 intro b;induction b with
 |nil=>intro a d;exact d
 |cons c b ih=>intro a _;exact ih _ ⟨Nat.mod_lt _ (by decide),Nat.mod_lt _ (by decide)⟩
theorem KH(a:List Nat)(b:Nat):iD (a++[b])=(((iD a).1+b)%65521,((iD a).2+((iD a).1+b)%65521)%65521):=by simp[iD]
def Ad(a:List Nat):Value:=.agg #[.int .u8 ((iD a).2/256:Nat),.int .u8 ((iD a).2%256:Nat),.int .u8 ((iD a).1/256:Nat),.int .u8 ((iD a).1%256:Nat)]
theorem Ek(i:Option Addr)(q:Nat)(a:List Nat)(C:B<=w.heap.size)(u:nA w B i a)(G:a.length<=1000000000)(s:∀c,c<a.length->nth a c<256) :
  Calls Tryz.prog 149 #[.slice i a.length q] w λr A=>r=.returned (Ad a)/\∃y,A=w.alloc y:=by
 go_enter Tryz.func149,Tryz.ntmps149;go_wp2
 go_loop [3,4,9] (λp b c=>∃k:Nat,k<=a.length/\c=.int .i64 k/\p=.int .i64 (iD (a.take k)).1/\b=.int .i64 (iD (a.take k)).2) (λ_ _ c=>a.length-(intOf c).toNat)
 case atStart=>exact⟨0,aE _,rfl,rfl,rfl⟩
 case round =>
  obtain⟨k,F,rfl,rfl,rfl⟩:=hrel;have x:=DS (a.take k);by_cases f:k<a.length
  ·obtain⟨j,z,rfl,D,t⟩:=u k f;have E:(w.alloc (.cells #[.int .u8 0,.int .u8 0,.int .u8 0,.int .u8 0] 153)).cell? ⟨j,z+k,none⟩=some (.int .u8 (nth a k:Nat)):=by rw[World.cell?_alloc_lt _ _ _ (by show j<_;omega)];exact t
   have H:=s k f;have l:=gv (KH (a.take k) (nth a k));have m:Hid (a.take (k+1)=a.take k++[nth a k]):=by rw[bX f];simp[nth,f,Hid]
   generalize d:(iD (a.take k)).1=n at *;generalize e:(iD (a.take k)).2=o at *;have g:=gv d;have h:=gv e;clear d e;go_wp2
   go_round
   case rel =>
    refine⟨k+1,by omega,by go_num,?_,?_⟩
    ·rw[m.o,l.o];simp
    ·rw[m.o,l.o];simp
   case measure=>simp[intOf];omega
  ·obtain rfl:k=a.length:=by omega
   rw[dM]at x ⊢;generalize d:(iD a).1=n at *;generalize e:(iD a).2=o at *;have g:=gv d;have h:=gv e;clear d e;go_wp2;refine aF (v:=Ad a) (by simp[results,Tryz.results149,go_sem,Ad,g.o,h.o]) rfl ⟨rfl,?_⟩;exact⟨_,rfl⟩
end
end Go.Proofs.YtgkljcmjnphpeaaGreatDoor
