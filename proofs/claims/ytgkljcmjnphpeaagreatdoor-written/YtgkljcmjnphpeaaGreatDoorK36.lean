import Derived.Test.YtgkljcmjnphpeaaGreatDoorK35
set_option linter.unusedVariables false
set_option linter.unusedSimpArgs false
set_option maxHeartbeats 4000000
set_option maxRecDepth 100000
namespace Go.Proofs.YtgkljcmjnphpeaaGreatDoor
open Go.RowKit
section
variable{w t:World}{B f:Nat}{r q:Value}{d j:List Nat}
theorem Mj{a:Nat}{nn:Int}{pp:Int}{tx:ByteArray}{ia ka fa:Option Addr}{ni ic nk kc nf fc:Nat}(k:lD a w)(i:a<=B)(b:iR B f w r q d j)(z:d.length+100<=500000000) :
  Calls Tryz.prog 132 #[.pointer (some ⟨f,0,none⟩),.agg #[.int .i64 0,.int .i64 nn,.int .i64 pp,.string tx,.slice ia ni ic,.slice ka nk kc,.slice fa nf fc]] w (lV B f w q d j [110,117,108,108]):=by
 have c:=b.alloc (.cells #[.int .i64 0,.int .i64 nn,.int .i64 pp,.string tx,.slice ia ni ic,.slice ka nk kc,.slice fa nf fc] 67);have e:h_ B f w (w.alloc (.cells #[.int .i64 0,.int .i64 nn,.int .i64 pp,.string tx,.slice ia ni ic,.slice ka nk kc,.slice fa nf fc] 67)):=(h_.refl B f w).alloc _;have s:lD a (w.alloc (.cells #[.int .i64 0,.int .i64 nn,.int .i64 pp,.string tx,.slice ia ni ic,.slice ka nk kc,.slice fa nf fc] 67)):=k.outk i b e;have y:a<=(w.alloc (.cells #[.int .i64 0,.int .i64 nn,.int .i64 pp,.string tx,.slice ia ni ic,.slice ka nk kc,.slice fa nf fc] 67)).heap.size:=aD i c.bw;have u:(w.alloc (.cells #[.int .i64 0,.int .i64 nn,.int .i64 pp,.string tx,.slice ia ni ic,.slice ka nk kc,.slice fa nf fc] 67)).heap[w.heap.size]?=some (.cells #[.int .i64 0,.int .i64 nn,.int .i64 pp,.string tx,.slice ia ni ic,.slice ka nk kc,.slice fa nf fc] 67 (0,0)):=jd _ _;have n:=gv e;have g:=gv (ma c { data:=#[110,117,108,108] } (by show _+4<=_;omega));rw[bM]at g;clear k b c e s u;go_enter eh,d8;go_wp2_with fail;refine g.o.mono ?_;rintro x A ⟨rfl,v,h,l⟩;have m:=gv h;have p:=gv (n.o.trans l);clear h l;go_wp2
 go_end0
 exact⟨rfl,v,m.o,p.o⟩
theorem Mh{a:Nat}{nn:Int}{pp:Int}{tx:ByteArray}{ia ka fa:Option Addr}{ni ic nk kc nf fc:Nat}(l:lD a w)(k:a<=B)(b:iR B f w r q d j)(C:(nn==1)=false)(A:d.length+100<=500000000) :
  Calls Tryz.prog 132 #[.pointer (some ⟨f,0,none⟩),.agg #[.int .i64 1,.int .i64 nn,.int .i64 pp,.string tx,.slice ia ni ic,.slice ka nk kc,.slice fa nf fc]] w (lV B f w q d j [102,97,108,115,101]):=by
 have c:=b.alloc (.cells #[.int .i64 1,.int .i64 nn,.int .i64 pp,.string tx,.slice ia ni ic,.slice ka nk kc,.slice fa nf fc] 67);have g:h_ B f w (w.alloc (.cells #[.int .i64 1,.int .i64 nn,.int .i64 pp,.string tx,.slice ia ni ic,.slice ka nk kc,.slice fa nf fc] 67)):=(h_.refl B f w).alloc _;have v:lD a (w.alloc (.cells #[.int .i64 1,.int .i64 nn,.int .i64 pp,.string tx,.slice ia ni ic,.slice ka nk kc,.slice fa nf fc] 67)):=l.outk k b g;have z:a<=(w.alloc (.cells #[.int .i64 1,.int .i64 nn,.int .i64 pp,.string tx,.slice ia ni ic,.slice ka nk kc,.slice fa nf fc] 67)).heap.size:=aD k c.bw;have x:(w.alloc (.cells #[.int .i64 1,.int .i64 nn,.int .i64 pp,.string tx,.slice ia ni ic,.slice ka nk kc,.slice fa nf fc] 67)).heap[w.heap.size]?=some (.cells #[.int .i64 1,.int .i64 nn,.int .i64 pp,.string tx,.slice ia ni ic,.slice ka nk kc,.slice fa nf fc] 67 (0,0)):=jd _ _;have p:=gv g;have h:=gv (ma c { data:=#[102,97,108,115,101] } (by show _+5<=_;omega));rw[bM]at h;clear l b c g v x;go_enter eh,d8;go_wp2_with fail;refine(Fm _ _).mono ?_;rintro u D ⟨rfl,e⟩;have e:=e.symm;subst e;go_wp2_with fail;refine h.o.mono ?_;rintro u E ⟨rfl,y,i,m⟩;have n:=gv i;have s:=gv (p.o.trans m);clear i m;go_wp2
 go_end0
 exact⟨rfl,y,n.o,s.o⟩
theorem Mo{a:Nat}{pp:Int}{tx:ByteArray}{ia ka fa:Option Addr}{ni ic nk kc nf fc:Nat}(l:lD a w)(k:a<=B)(b:iR B f w r q d j)(A:d.length+100<=500000000) :
  Calls Tryz.prog 132 #[.pointer (some ⟨f,0,none⟩),.agg #[.int .i64 1,.int .i64 1,.int .i64 pp,.string tx,.slice ia ni ic,.slice ka nk kc,.slice fa nf fc]] w (lV B f w q d j [116,114,117,101]):=by
 have c:=b.alloc (.cells #[.int .i64 1,.int .i64 1,.int .i64 pp,.string tx,.slice ia ni ic,.slice ka nk kc,.slice fa nf fc] 67);have g:h_ B f w (w.alloc (.cells #[.int .i64 1,.int .i64 1,.int .i64 pp,.string tx,.slice ia ni ic,.slice ka nk kc,.slice fa nf fc] 67)):=(h_.refl B f w).alloc _;have v:lD a (w.alloc (.cells #[.int .i64 1,.int .i64 1,.int .i64 pp,.string tx,.slice ia ni ic,.slice ka nk kc,.slice fa nf fc] 67)):=l.outk k b g;have z:a<=(w.alloc (.cells #[.int .i64 1,.int .i64 1,.int .i64 pp,.string tx,.slice ia ni ic,.slice ka nk kc,.slice fa nf fc] 67)).heap.size:=aD k c.bw;have x:(w.alloc (.cells #[.int .i64 1,.int .i64 1,.int .i64 pp,.string tx,.slice ia ni ic,.slice ka nk kc,.slice fa nf fc] 67)).heap[w.heap.size]?=some (.cells #[.int .i64 1,.int .i64 1,.int .i64 pp,.string tx,.slice ia ni ic,.slice ka nk kc,.slice fa nf fc] 67 (0,0)):=jd _ _;have p:=gv g;have h:=gv (ma c { data:=#[116,114,117,101] } (by show _+4<=_;omega));rw[bM]at h;clear l b c g v x;go_enter eh,d8;go_wp2_with fail;refine(Fm _ _).mono ?_;rintro u C ⟨rfl,e⟩;have e:=e.symm;subst e;go_wp2_with fail;refine h.o.mono ?_;rintro u D ⟨rfl,y,i,m⟩;have n:=gv i;have s:=gv (p.o.trans m);clear i m;go_wp2
 go_end0
 exact⟨rfl,y,n.o,s.o⟩
theorem Mi{a:Nat}{nn:Int}{pp:Int}{tx:ByteArray}{ia ka fa:Option Addr}{ni ic nk kc nf fc:Nat}(u:lD a w)(s:a<=B)(e:iR B f w r q d j)(x : -9223372036854775808<=nn)(y:nn<=9223372036854775807)(K:d.length+100<=500000000) :
  Calls Tryz.prog 132 #[.pointer (some ⟨f,0,none⟩),.agg #[.int .i64 2,.int .i64 nn,.int .i64 pp,.string tx,.slice ia ni ic,.slice ka nk kc,.slice fa nf fc]] w (lV B f w q d j (iE nn)):=by
 have g:=e.alloc (.cells #[.int .i64 2,.int .i64 nn,.int .i64 pp,.string tx,.slice ia ni ic,.slice ka nk kc,.slice fa nf fc] 67);have i:h_ B f w (w.alloc (.cells #[.int .i64 2,.int .i64 nn,.int .i64 pp,.string tx,.slice ia ni ic,.slice ka nk kc,.slice fa nf fc] 67)):=(h_.refl B f w).alloc _;have v:lD a (w.alloc (.cells #[.int .i64 2,.int .i64 nn,.int .i64 pp,.string tx,.slice ia ni ic,.slice ka nk kc,.slice fa nf fc] 67)):=u.outk s e i;have H:a<=(w.alloc (.cells #[.int .i64 2,.int .i64 nn,.int .i64 pp,.string tx,.slice ia ni ic,.slice ka nk kc,.slice fa nf fc] 67)).heap.size:=aD s g.bw;have I:(w.alloc (.cells #[.int .i64 2,.int .i64 nn,.int .i64 pp,.string tx,.slice ia ni ic,.slice ka nk kc,.slice fa nf fc] 67)).heap[w.heap.size]?=some (.cells #[.int .i64 2,.int .i64 nn,.int .i64 pp,.string tx,.slice ia ni ic,.slice ka nk kc,.slice fa nf fc] 67 (0,0)):=jd _ _;have m:=gv i;have k:=gv (Af v H nn x y);have A:=gv g;clear u e g i v I;go_enter eh,d8;go_wp2_with fail;refine k.o.mono ?_;rintro G M ⟨n,rfl,h,c⟩;have C:=gv (A.o.below c);have E:=gv (m.o.trans (h_.of_below (b:=0) c));have L:n.size<=20:=by rw[<-nM,h];exact jg x y
 have l:=gv (ma C.o n (by omega));rw[h]at l;clear c k m h;go_wp2_with fail;refine l.o.mono ?_;rintro G N ⟨rfl,J,p,z⟩;have D:=gv p;have F:=gv (E.o.trans z);clear p z;go_wp2
 go_end0
 exact⟨rfl,J,D.o,F.o⟩
theorem LZ{u:Nat}{a:Int}{p:Int}{s:ByteArray}{g i c:Option Addr}{m h n k l e:Nat}(I:lD u w)(H:u<=B)(x:iR B f w r q d j)(K : -9223372036854775808<=a)(L:a<=9223372036854775807)(W:d.length+100<=500000000) :
  Calls Tryz.prog 132 #[.pointer (some ⟨f,0,none⟩),.agg #[.int .i64 9,.int .i64 a,.int .i64 p,.string s,.slice g m h,.slice i n k,.slice c l e]] w (lV B f w q d j (iE a++[32,48,32,82])):=by
 have y:=x.alloc (.cells #[.int .i64 9,.int .i64 a,.int .i64 p,.string s,.slice g m h,.slice i n k,.slice c l e] 67);have A:h_ B f w (w.alloc (.cells #[.int .i64 9,.int .i64 a,.int .i64 p,.string s,.slice g m h,.slice i n k,.slice c l e] 67)):=(h_.refl B f w).alloc _;have J:lD u (w.alloc (.cells #[.int .i64 9,.int .i64 a,.int .i64 p,.string s,.slice g m h,.slice i n k,.slice c l e] 67)):=I.outk H x A;have T:u<=(w.alloc (.cells #[.int .i64 9,.int .i64 a,.int .i64 p,.string s,.slice g m h,.slice i n k,.slice c l e] 67)).heap.size:=aD H y.bw;have U:(w.alloc (.cells #[.int .i64 9,.int .i64 a,.int .i64 p,.string s,.slice g m h,.slice i n k,.slice c l e] 67)).heap[w.heap.size]?=some (.cells #[.int .i64 9,.int .i64 a,.int .i64 p,.string s,.slice g m h,.slice i n k,.slice c l e] 67 (0,0)):=jd _ _;have E:=gv A;have C:=gv (Af J T a K L);have N:=gv y;clear I x y A J U;go_enter eh,d8;go_wp2_with fail;refine C.o.mono ?_;rintro S Y ⟨F,rfl,z,v⟩;have O:=gv (N.o.below v);have Q:=gv (E.o.trans (h_.of_below (b:=0) v));have X:F.size<=20:=by rw[<-nM,z];exact jg K L
 have D:=gv (vS O.o F { data:=#[32,48,32,82] } (by show _+(_+4)<=_;omega));rw[z]at D;clear v C E z;go_wp2_with fail;refine D.o.mono ?_;rintro S Z ⟨rfl,V,G,M⟩;have P:=gv G;have R:=gv (Q.o.trans M);clear G M;go_wp2
 go_end0
 exact⟨rfl,V,P.o,R.o⟩
theorem Ml{a:Nat}{nn:Int}{pp:Int}{tx:ByteArray}{ia ka fa:Option Addr}{ni ic nk kc nf fc:Nat}{b:Nat}(l:lD a w)(g:a<=B)(c:iR B f w r q d j)(n:pp=(b:Int))(A:b<=5)(y : -999999999<=nn)(z:nn<=999999999)(F:d.length+100<=500000000) :
  Calls Tryz.prog 132 #[.pointer (some ⟨f,0,none⟩),.agg #[.int .i64 3,.int .i64 nn,.int .i64 pp,.string tx,.slice ia ni ic,.slice ka nk kc,.slice fa nf fc]] w (lV B f w q d j (jF nn b)):=by
 have e:=c.alloc (.cells #[.int .i64 3,.int .i64 nn,.int .i64 pp,.string tx,.slice ia ni ic,.slice ka nk kc,.slice fa nf fc] 67);have h:h_ B f w (w.alloc (.cells #[.int .i64 3,.int .i64 nn,.int .i64 pp,.string tx,.slice ia ni ic,.slice ka nk kc,.slice fa nf fc] 67)):=(h_.refl B f w).alloc _;have m:lD a (w.alloc (.cells #[.int .i64 3,.int .i64 nn,.int .i64 pp,.string tx,.slice ia ni ic,.slice ka nk kc,.slice fa nf fc] 67)):=l.outk g c h;have x:a<=(w.alloc (.cells #[.int .i64 3,.int .i64 nn,.int .i64 pp,.string tx,.slice ia ni ic,.slice ka nk kc,.slice fa nf fc] 67)).heap.size:=aD g e.bw;have C:(w.alloc (.cells #[.int .i64 3,.int .i64 nn,.int .i64 pp,.string tx,.slice ia ni ic,.slice ka nk kc,.slice fa nf fc] 67)).heap[w.heap.size]?=some (.cells #[.int .i64 3,.int .i64 nn,.int .i64 pp,.string tx,.slice ia ni ic,.slice ka nk kc,.slice fa nf fc] 67 (0,0)):=jd _ _;have u:=gv h;have i:=gv (LW m x g e nn b y z A (by omega));rw[<-n]at i;clear n;clear l c e h m C;go_enter eh,d8;go_wp2_with fail;refine i.o.mono ?_;rintro E G ⟨rfl,D,k,p⟩;have s:=gv k;have v:=gv (u.o.trans p);clear k p;go_wp2
 go_end0
 exact⟨rfl,D,s.o,v.o⟩
theorem LR{a:Nat}{nn:Int}{pp:Int}{tx:ByteArray}{ia ka fa:Option Addr}{ni ic nk kc nf fc:Nat}(i:lD a w)(h:a<=B)(b:iR B f w r q d j)(z:d.length+100+4*tx.size<=500000000) :
  Calls Tryz.prog 132 #[.pointer (some ⟨f,0,none⟩),.agg #[.int .i64 4,.int .i64 nn,.int .i64 pp,.string tx,.slice ia ni ic,.slice ka nk kc,.slice fa nf fc]] w (lV B f w q d j (ir (bl tx))):=by
 have c:=b.alloc (.cells #[.int .i64 4,.int .i64 nn,.int .i64 pp,.string tx,.slice ia ni ic,.slice ka nk kc,.slice fa nf fc] 67);have e:h_ B f w (w.alloc (.cells #[.int .i64 4,.int .i64 nn,.int .i64 pp,.string tx,.slice ia ni ic,.slice ka nk kc,.slice fa nf fc] 67)):=(h_.refl B f w).alloc _;have s:lD a (w.alloc (.cells #[.int .i64 4,.int .i64 nn,.int .i64 pp,.string tx,.slice ia ni ic,.slice ka nk kc,.slice fa nf fc] 67)):=i.outk h b e;have y:a<=(w.alloc (.cells #[.int .i64 4,.int .i64 nn,.int .i64 pp,.string tx,.slice ia ni ic,.slice ka nk kc,.slice fa nf fc] 67)).heap.size:=aD h c.bw;have u:(w.alloc (.cells #[.int .i64 4,.int .i64 nn,.int .i64 pp,.string tx,.slice ia ni ic,.slice ka nk kc,.slice fa nf fc] 67)).heap[w.heap.size]?=some (.cells #[.int .i64 4,.int .i64 nn,.int .i64 pp,.string tx,.slice ia ni ic,.slice ka nk kc,.slice fa nf fc] 67 (0,0)):=jd _ _;have n:=gv e;have m:=gv (GJ c tx (by omega));clear i b c e s u;go_enter eh,d8;go_wp2_with fail;refine m.o.mono ?_;rintro x A ⟨rfl,v,g,k⟩;have l:=gv g;have p:=gv (n.o.trans k);clear g k;go_wp2
 go_end0
 exact⟨rfl,v,l.o,p.o⟩
theorem Mm{a:Nat}{nn:Int}{pp:Int}{tx:ByteArray}{ia ka fa:Option Addr}{ni ic nk kc nf fc:Nat}(i:lD a w)(h:a<=B)(b:iR B f w r q d j)(z:d.length+100+4*tx.size<=500000000) :
  Calls Tryz.prog 132 #[.pointer (some ⟨f,0,none⟩),.agg #[.int .i64 5,.int .i64 nn,.int .i64 pp,.string tx,.slice ia ni ic,.slice ka nk kc,.slice fa nf fc]] w (lV B f w q d j (mq (bl tx))):=by
 have c:=b.alloc (.cells #[.int .i64 5,.int .i64 nn,.int .i64 pp,.string tx,.slice ia ni ic,.slice ka nk kc,.slice fa nf fc] 67);have e:h_ B f w (w.alloc (.cells #[.int .i64 5,.int .i64 nn,.int .i64 pp,.string tx,.slice ia ni ic,.slice ka nk kc,.slice fa nf fc] 67)):=(h_.refl B f w).alloc _;have s:lD a (w.alloc (.cells #[.int .i64 5,.int .i64 nn,.int .i64 pp,.string tx,.slice ia ni ic,.slice ka nk kc,.slice fa nf fc] 67)):=i.outk h b e;have y:a<=(w.alloc (.cells #[.int .i64 5,.int .i64 nn,.int .i64 pp,.string tx,.slice ia ni ic,.slice ka nk kc,.slice fa nf fc] 67)).heap.size:=aD h c.bw;have u:(w.alloc (.cells #[.int .i64 5,.int .i64 nn,.int .i64 pp,.string tx,.slice ia ni ic,.slice ka nk kc,.slice fa nf fc] 67)).heap[w.heap.size]?=some (.cells #[.int .i64 5,.int .i64 nn,.int .i64 pp,.string tx,.slice ia ni ic,.slice ka nk kc,.slice fa nf fc] 67 (0,0)):=jd _ _;have n:=gv e;have m:=gv (LY c tx (by omega));clear i b c e s u;go_enter eh,d8;go_wp2_with fail;refine m.o.mono ?_;rintro x A ⟨rfl,v,g,k⟩;have l:=gv g;have p:=gv (n.o.trans k);clear g k;go_wp2
 go_end0
 exact⟨rfl,v,l.o,p.o⟩
theorem wa{s:Nat}{m:Int}{n:Int}{p:ByteArray}{c g a:Option Addr}{k e l h i b:Nat}{F:List Nat}(D:lD s w)(A:s<=B)(x:iR B f w r q d j)(C:∀(u:World) (M:Value),iR B f u M q d j->h_ B f w u->Calls Tryz.prog 184 #[.pointer (some ⟨f,0,none⟩),.agg #[.int .i64 6,.int .i64 m,.int .i64 n,.string p,.slice c k e,.slice g l h,.slice a i b]] u (lV B f u q d j F)) :
  Calls Tryz.prog 132 #[.pointer (some ⟨f,0,none⟩),.agg #[.int .i64 6,.int .i64 m,.int .i64 n,.string p,.slice c k e,.slice g l h,.slice a i b]] w (lV B f w q d j F):=by
 have y:=x.alloc (.cells #[.int .i64 6,.int .i64 m,.int .i64 n,.string p,.slice c k e,.slice g l h,.slice a i b] 67);have v:h_ B f w (w.alloc (.cells #[.int .i64 6,.int .i64 m,.int .i64 n,.string p,.slice c k e,.slice g l h,.slice a i b] 67)):=(h_.refl B f w).alloc _;have K:lD s (w.alloc (.cells #[.int .i64 6,.int .i64 m,.int .i64 n,.string p,.slice c k e,.slice g l h,.slice a i b] 67)):=D.outk A x v;have P:s<=(w.alloc (.cells #[.int .i64 6,.int .i64 m,.int .i64 n,.string p,.slice c k e,.slice g l h,.slice a i b] 67)).heap.size:=aD A y.bw;have L:(w.alloc (.cells #[.int .i64 6,.int .i64 m,.int .i64 n,.string p,.slice c k e,.slice g l h,.slice a i b] 67)).heap[w.heap.size]?=some (.cells #[.int .i64 6,.int .i64 m,.int .i64 n,.string p,.slice c k e,.slice g l h,.slice a i b] 67 (0,0)):=jd _ _;have I:=gv v;have H:=gv (C _ r y v);clear D x y v K L C;go_enter eh,d8;go_wp2_with fail;refine H.o.mono ?_;rintro O Q ⟨rfl,N,z,E⟩;have G:=gv z;have J:=gv (I.o.trans E);clear z E;go_wp2
 go_end0
 exact⟨rfl,N,G.o,J.o⟩
theorem Mg{s:Nat}{m:Int}{n:Int}{p:ByteArray}{c g a:Option Addr}{k e l h i b:Nat}{F:List Nat}(D:lD s w)(A:s<=B)(x:iR B f w r q d j)(C:∀(u:World) (M:Value),iR B f u M q d j->h_ B f w u->Calls Tryz.prog 134 #[.pointer (some ⟨f,0,none⟩),.agg #[.int .i64 7,.int .i64 m,.int .i64 n,.string p,.slice c k e,.slice g l h,.slice a i b]] u (lV B f u q d j F)) :
  Calls Tryz.prog 132 #[.pointer (some ⟨f,0,none⟩),.agg #[.int .i64 7,.int .i64 m,.int .i64 n,.string p,.slice c k e,.slice g l h,.slice a i b]] w (lV B f w q d j F):=by
 have y:=x.alloc (.cells #[.int .i64 7,.int .i64 m,.int .i64 n,.string p,.slice c k e,.slice g l h,.slice a i b] 67);have v:h_ B f w (w.alloc (.cells #[.int .i64 7,.int .i64 m,.int .i64 n,.string p,.slice c k e,.slice g l h,.slice a i b] 67)):=(h_.refl B f w).alloc _;have K:lD s (w.alloc (.cells #[.int .i64 7,.int .i64 m,.int .i64 n,.string p,.slice c k e,.slice g l h,.slice a i b] 67)):=D.outk A x v;have P:s<=(w.alloc (.cells #[.int .i64 7,.int .i64 m,.int .i64 n,.string p,.slice c k e,.slice g l h,.slice a i b] 67)).heap.size:=aD A y.bw;have L:(w.alloc (.cells #[.int .i64 7,.int .i64 m,.int .i64 n,.string p,.slice c k e,.slice g l h,.slice a i b] 67)).heap[w.heap.size]?=some (.cells #[.int .i64 7,.int .i64 m,.int .i64 n,.string p,.slice c k e,.slice g l h,.slice a i b] 67 (0,0)):=jd _ _;have I:=gv v;have H:=gv (C _ r y v);clear D x y v K L C;go_enter eh,d8;go_wp2_with fail;refine H.o.mono ?_;rintro O Q ⟨rfl,N,z,E⟩;have G:=gv z;have J:=gv (I.o.trans E);clear z E;go_wp2
 go_end0
 exact⟨rfl,N,G.o,J.o⟩
theorem BA:∀k:Nat,WO k
 |0=>λB f N w r q d j O Y V _ _ _ c _ _=>c.elim
 |k+1=>λB f N w r q d j O Y V g e c A H G=>by
  have T:=A;obtain⟨s,u,v,x,o,p,rfl,ac,ad,Z⟩:=gR.split (V:=V) T;have al:d.length+100+4*(gz.text V).length<=500000000:=by have:ii (k:=k+1) V=100+4*(gz.text V).length+((gz.items V).map λE=>10+ii E).sum+((gz.keys V).map λX=>10+3*X.length).sum:=rfl;omega
  have h:d.length+100<=500000000:=by omega
  have ao:(gC (gz.text V)).size=(gz.text V).length:=um _;have F:bl (gC (gz.text V))=gz.text V:=wu _ H.2.2.2.2.1;obtain⟨I,i,C,D,J,K,L⟩:=H;have U:iu (k:=k+1) V=match gz.kind V with
    |0=>[110,117,108,108]
    |1=>if gz.n V=1 then[116,114,117,101]else[102,97,108,115,101]
    |2=>iE (gz.n V)
    |3=>jF (gz.n V) (gz.places V)
    |4=>ir (gz.text V)
    |5=>mq (gz.text V)
    |6=>91::(iC ((gz.items V).map λE=>iu (k:=k) E)++[93])
    |7=>60::60::(iC (((gz.keys V).zip (gz.items V)).map λM=>ir M.1++(32::iu (k:=k) M.2))++[62,62])
    |9=>iE (gz.n V)++[32,48,32,82]
    |_=>[]:=rfl
  rw[U];have S:gz.kind V=0\/gz.kind V=1\/gz.kind V=2\/gz.kind V=3\/gz.kind V=4\/gz.kind V=5\/gz.kind V=6\/gz.kind V=7\/gz.kind V=9:=by omega
  rcases S with a | a | a | a | a | a | a | a | a;·rw[a];exact Mj g e c h
  ·rw[a];by_cases z:gz.n V=1;·rw[z];exact Mo g e c h
   ·simp only[au z];exact Mh g e c (by simpa using z) h
  ·rw[a];exact Mi g e c i.1 i.2 h
  ·rw[a];obtain⟨Q,b,R⟩:=C a;exact Ml g e c rfl R Q b h
  ·rw[a];have:=LR (nn:=gz.n V) (pp:=(gz.places V:Int)) (tx:=gC (gz.text V)) (ia:=s) (ni:=(gz.items V).length) (ic:=u) (ka:=v) (nk:=(gz.keys V).length) (kc:=x) (fa:=o) (nf:=(gz.filters V).length) (fc:=p) g e c (by omega);rw[F]at this;exact this
  ·rw[a];have:=Mm (nn:=gz.n V) (pp:=(gz.places V:Int)) (tx:=gC (gz.text V)) (ia:=s) (ni:=(gz.items V).length) (ic:=u) (ka:=v) (nk:=(gz.keys V).length) (kc:=x) (fa:=o) (nf:=(gz.filters V).length) (fc:=p) g e c (by omega);rw[F]at this;exact this
  ·rw[a];refine wa g e c (λP W y m=>?_);have l:=gR.outk (k+1) A c m;rw[a]at l;exact LU (V:=V) (BA k) (g.outk e c m) e y l ⟨I,i,C,D,J,K,L⟩ G
  ·rw[a];refine Mg g e c (λP W y m=>?_);have l:=gR.outk (k+1) A c m;rw[a]at l;exact Et (V:=V) (BA k) (g.outk e c m) e y l ⟨I,i,C,D,J,K,L⟩ (D a) G
  ·rw[a];exact LZ g e c i.1 i.2 h
def jv(a:Nat):List Nat:=jO 10 a++[32,48,48,48,48,48,32,110,32,10]
def jR(n:Nat):List Nat:=[120,114,101,102,10,48,32]++(iE ((n:Int)+1)++[10,48,48,48,48,48,48,48,48,48,48,32,54,53,53,51,53,32,102,32,10])
def j7(j:List Nat):List Nat:=jR j.length++j.flatMap jv
theorem qj(a:Nat)(b:a<10^10):(jv a).length=20:=by unfold jv;have:=nG 10 a b (af _);simp only[ab,ag,aw];omega
theorem rA(n:Nat)(a:n<9223372036854775807):(jR n).length<=48:=by unfold jR;have:=jg (n:=((n:Int)+1)) (by omega) (by omega);simp only[ab,ag,aw];omega
theorem Ex{x:Nat}(I:lD x w)(E:x<=B)(i:iR B f w r q d j)(ac:∀c∈j,c<10^10)(a3:d.length+100+20*j.length<=500000000) :
  Calls Tryz.prog 94 #[.pointer (some ⟨f,0,none⟩)] w (lV B f w q d j (j7 j)):=by
 obtain⟨M,N,a6⟩:=i_ i.po;subst a6;obtain⟨a,u⟩:∃a,j.length=a:=⟨_,rfl⟩;have H:=i.blk;rw[u]at H a3 ⊢;have n:=gv u;have P:=gv (Af I (aD E i.bw) ((a:Int)+1) (by omega) (by omega));have c1:=oB H;have ao:Hid (∀z,h_ B f w z->lD x z):=λz k=>I.outk E i k;have R:=gv ac;have al:Hid (iR B f w r (.slice M a N) d j):=by have:=i;rw[u]at this;exact this
 clear i I ac H u;go_enter Tryz.func94,Tryz.ntmps94;go_wp2_with fail;refine P.o.mono ?_;rintro D w1 ⟨U,rfl,F,A⟩;have bi:U.size<=20:=by rw[<-nM,F];exact jg (by omega) (by omega)
 have h:=gv (vT (al.o.below A) { data:=#[120,114,101,102,10,48,32] } U { data:=#[10,48,48,48,48,48,48,48,48,48,48,32,54,53,53,51,53,32,102,32,10] } (by show _+(7+(_+21))<=_;omega));rw[F]at h;have S:Hid (h_ B f w w1):=h_.of_below (b:=0) A;clear A P F c1;go_wp2_with fail;refine h.o.mono ?_;rintro D O ⟨rfl,L,s,k2⟩;have Y:=s.blk;have c2:=oB Y;have H2:Hid (iR B f O L (.slice M a N) (d++jR a) j):=s;have K2:Hid (h_ B f w O):=S.o.trans k2;clear s k2 h S Y;go_wp2_with fail;go_loopw [3,19] (λ_ K wr=>∃(e:Nat) (v:Value),e<=a/\K=.int .i64 (e:Int)/\Hid (iR B f wr v (.slice M a N) (d++(jR a++(j.take e).flatMap jv)) j)/\Hid (h_ B f w wr)) (λ_ K _=>a-(intOf K).toNat)
 case atStart=>exact⟨0,L,aE _,rfl,by show iR B f O L _ (d++(jR a++[])) j;rw[ct];exact H2.o,K2.o⟩
 case round =>
  obtain⟨e,v,m,rfl,p,y⟩:=hrel;rcases bN m with m | m
  ·subst m;go_wp2
   go_end0
   refine⟨rfl,v,?_,y.o⟩;have:=p.o;rw[show j.take e=j from aY (by rw[n.o];exact af _)]at this;show iR B f _ v _ (d++(jR j.length++j.flatMap jv)) j;rw[n.o];exact this
  ·obtain⟨c,g⟩:∃c,j[e]?=some c:=⟨_,ai (by rw[n.o];exact m)⟩;have a5:=R.o c (cB g);have ad:(j.map λba:Nat=>Value.int .i64 (ba:Int))[e]?=some (.int .i64 (c:Int)):=by rw[bj,g];rfl
   have J:=p.o.po;rw[n.o]at J;obtain⟨bc,bb,a2,a8⟩:=ro J ad;cases a2;have a1:((j.take e).flatMap jv).length<=20*e:=by
    have:∀l:List Nat,(∀c∈l,c<10^10)->(l.flatMap jv).length=20*l.length:=λl Z=>by
     induction l with
     |nil=>rfl
     |cons W l ih=>have h1:=qj W (Z W (by simp));have s:=ih (λc g=>Z c (by simp[g]));simp only[cH,ab,ag];omega
    rw[this _ (λc g=>R.o c (cK g)),ax];omega
   have a7:=rA a (by omega);have bd:(d++(jR a++(j.take e).flatMap jv)).length+20<=500000000:=by simp only[ab];omega
   have a0:Hid (d++(jR a++(j.take (e+1)).flatMap jv)=d++(jR a++(j.take e).flatMap jv)++jv c):=by unfold Hid;rw[cP,g,cx];simp
   have Q:=gv (Gd (ao.o wr y.o) (aD E p.o.bw) c 10 (by omega) (by decide));generalize a4:d++(jR a++(j.take e).flatMap jv)=o1 at *;clear a4 g ad J a1 a7;go_wp2_with fail;refine Q.o.mono ?_;rintro D w3 ⟨V,rfl,G,C⟩;have bf:V.size<=10:=by rw[<-nM,G];exact(nG 10 c a5 (af _)).2
   have h:=gv (vS (p.o.below C) V { data:=#[32,48,48,48,48,48,32,110,32,10] } (by show _+(_+10)<=_;omega));rw[G]at h;have T:Hid (h_ B f w w3):=y.o.trans (h_.of_below (b:=0) C);clear C Q G a8;go_wp2_with fail;refine h.o.mono ?_;rintro D w4 ⟨rfl,a9,X,k4⟩;have H4:Hid (iR B f w4 a9 _ (o1++jv c) j):=X;have K4:Hid (h_ B f w w4):=T.o.trans k4;clear X k4 h T;go_wp2;go_roundw
   case rel=>exact⟨e+1,_,by omega,by first | rfl | (congr 1),by rw[a0.o];exact H4.o,K4.o⟩
   case measure=>simp[intOf];omega
def tD(n a:Int):VT 2:=(⟨7,0,0,[],[hJ (VT 0) 2 n 0 [],hJ (VT 0) 9 a 0 []],[[83,105,122,101],[82,111,111,116]],[]⟩:gz (VT 1))
theorem Lv{n g:Int}(s : -9223372036854775808<=n/\n<=9223372036854775807)(u : -9223372036854775808<=g/\g<=9223372036854775807):sI (k:=2) (tD n g):=by
 have l:∀(b:Nat) (h:Int),(b=2\/b=9)->(-9223372036854775808<=h/\h<=9223372036854775807)->sI (k:=1) (hJ (VT 0) b h 0 []):=λb h x v=>⟨by show b<=7\/b=9;omega,v,λh3=>by have h3:b=3:=h3;omega,λ_=>rfl,λo e=>(by cases e),λm c=>(by cases c),λp a=>by cases a⟩
 refine⟨Or.inl (af 7),by show _<=(0:Int)/\(0:Int)<=_;omega,λi=>by have i:(7:Nat)=3:=i;omega,λ_=>rfl,λo e=>(by cases e),λm c o e=>?_,λp a=>?_⟩
 ·have c:m∈[[83,105,122,101],[82,111,111,116]]:=c;simp at c;rcases c with rfl | rfl<;>simp at e<;>omega
 ·have a:p∈([hJ (VT 0) 2 n 0 [],hJ (VT 0) 9 g 0 []]:List (gz (VT 0))):=a;rcases bT.1 a with a | a;·exact a▸l 2 n (Or.inl rfl) s
  ·exact(cc.1 a)▸l 9 g (Or.inr rfl) u
theorem Lt(w:World)(n e:Int):gR (λ_=>True) 2 ((w.alloc (.cells #[.string { data:=#[83,105,122,101] },.string { data:=#[82,111,111,116] }] 9)).alloc (.cells #[.int .i64 2,.int .i64 n,.int .i64 0,.string { data:=#[] },.slice none 0 0,.slice none 0 0,.slice none 0 0,.int .i64 9,.int .i64 e,.int .i64 0,.string { data:=#[] },.slice none 0 0,.slice none 0 0,.slice none 0 0] 67))
  (.agg #[.int .i64 7,.int .i64 0,.int .i64 0,.string { data:=#[] },.slice (some ⟨w.heap.size+1,0,none⟩) 2 2,.slice (some ⟨w.heap.size,0,none⟩) 2 2,.slice none 0 0]) (tD n e):=by
 have e1:gC [83,105,122,101]={ data:=#[83,105,122,101] }:=by rfl
 have e2:gC [82,111,111,116]={ data:=#[82,111,111,116] }:=by rfl
 have g:=jd (w.alloc (.cells #[.string { data:=#[83,105,122,101] },.string { data:=#[82,111,111,116] }] 9)) (.cells #[.int .i64 2,.int .i64 n,.int .i64 0,.string { data:=#[] },.slice none 0 0,.slice none 0 0,.slice none 0 0,.int .i64 9,.int .i64 e,.int .i64 0,.string { data:=#[] },.slice none 0 0,.slice none 0 0,.slice none 0 0] 67);have i:=l9 (.cells #[.int .i64 2,.int .i64 n,.int .i64 0,.string { data:=#[] },.slice none 0 0,.slice none 0 0,.slice none 0 0,.int .i64 9,.int .i64 e,.int .i64 0,.string { data:=#[] },.slice none 0 0,.slice none 0 0,.slice none 0 0] 67) (jd w (.cells #[.string { data:=#[83,105,122,101] },.string { data:=#[82,111,111,116] }] 9));rw[bM]at g;refine⟨.slice (some ⟨w.heap.size+1,0,none⟩) 2 2,.slice (some ⟨w.heap.size,0,none⟩) 2 2,.slice none 0 0,[.agg #[.int .i64 2,.int .i64 n,.int .i64 0,.string { data:=#[] },.slice none 0 0,.slice none 0 0,.slice none 0 0],.agg #[.int .i64 9,.int .i64 e,.int .i64 0,.string { data:=#[] },.slice none 0 0,.slice none 0 0,.slice none 0 0]],rfl,rfl,jr.of (b:=0) ⟨rfl,Or.inr ⟨_,_,_,rfl,aE _,g,af _,by decide,rfl,rfl⟩⟩ (λ_ _=>trivial),?_,jr.of (b:=0) ⟨rfl,Or.inr ⟨_,_,_,rfl,aE _,i,af _,by decide,rfl,rfl⟩⟩ (λ_ _=>trivial),jr.nil _ _ _ _⟩;intro h k l a c;match h,a,c with
 |0,a,c=>cases a;cases c;exact gR.leaf 0 2 n 0 []
 |1,a,c=>cases a;cases c;exact gR.leaf 0 9 e 0 []
 |h+2,a,c=>simp at a
def wtrail(n a:Int):List Nat:=[116,114,97,105,108,101,114,10]++([60,60,47,83,105,122,101,32]++(iE n++([32,47,82,111,111,116,32]++(iE a++([32,48,32,82]++[62,62])))))++[10]
theorem Lx(n a:Int):60::60::(iC (((gz.keys (α:=VT 1) (tD n a)).zip (gz.items (α:=VT 1) (tD n a))).map λb=>ir b.1++(32::iu (k:=1) b.2))++[62,62])=[60,60,47,83,105,122,101,32]++(iE n++([32,47,82,111,111,116,32]++(iE a++([32,48,32,82]++[62,62])))):=by
 have c:ir [83,105,122,101]=[47,83,105,122,101]:=by decide
 have e:ir [82,111,111,116]=[47,82,111,111,116]:=by decide
 show 60::60::(((ir [83,105,122,101]++(32::iE n))++((32::(ir [82,111,111,116]++(32::(iE a++[32,48,32,82]))))++[]))++[62,62])=_;rw[c,e];simp
theorem Lu(n a:Int):ii (k:=2) (tD n a)=364:=by rfl
theorem Md{e:Nat}{root:Int}(D:lD e w)(A:e<=B)(c:iR B f w r q d j)(M:j.length<=1000000)(F : -9223372036854775808<=root/\root<=9223372036854775807)(T:d.length+400<=500000000) :
  Calls Tryz.prog 95 #[.pointer (some ⟨f,0,none⟩),.int .i64 root] w (lV B f w q d j (wtrail ((j.length:Int)+1) root)):=by
 obtain⟨P,Q,N⟩:=i_ c.po;subst N;obtain⟨a,m⟩:∃a,j.length=a:=⟨_,rfl⟩;rw[m]at M;have b:=gv (ma c { data:=#[116,114,97,105,108,101,114,10] } (by show _+8<=_;omega));rw[m]at b ⊢;have J:Hid (∀i,h_ B f w i->lD e i):=λi k=>D.outk A c k;have h:=gv F;clear c D m F;go_enter Tryz.func95,Tryz.ntmps95;go_wp2_with fail;refine b.o.mono ?_;rintro x s ⟨rfl,X,l,n⟩;have C:=l.blk;have E:(d++bl { data:=#[116,114,97,105,108,101,114,10] }).length=d.length+8:=by rw[ab];rfl
 have y:=(l.alloc (.cells #[.string { data:=#[83,105,122,101] },.string { data:=#[82,111,111,116] }] 9)).alloc (.cells #[.int .i64 2,.int .i64 ((a:Int)+1),.int .i64 0,.string { data:=#[] },.slice none 0 0,.slice none 0 0,.slice none 0 0,.int .i64 9,.int .i64 root,.int .i64 0,.string { data:=#[] },.slice none 0 0,.slice none 0 0,.slice none 0 0] 67);have p:=((h_.refl B f s).alloc (.cells #[.string { data:=#[83,105,122,101] },.string { data:=#[82,111,111,116] }] 9)).alloc (.cells #[.int .i64 2,.int .i64 ((a:Int)+1),.int .i64 0,.string { data:=#[] },.slice none 0 0,.slice none 0 0,.slice none 0 0,.int .i64 9,.int .i64 root,.int .i64 0,.string { data:=#[] },.slice none 0 0,.slice none 0 0,.slice none 0 0] 67);have g:=gv (Et (V:=tD ((a:Int)+1) root) (BA 1) (J.o _ (n.trans p)) A y (Lt s _ _) (Lv (by omega) h.o) rfl (by rw[E,Lu];omega));rw[Lx]at g;have u:Hid (h_ B f w _):=n.trans p;have L:(s.alloc (.cells #[.string { data:=#[83,105,122,101] },.string { data:=#[82,111,111,116] }] 9)).cell? ⟨f,1,none⟩=some (.slice P a Q):=oB (l9 _ C);clear l n y p b;go_wp2_with fail;refine g.o.mono ?_;rintro x R ⟨rfl,Y,h3,G⟩;have v:Hid (h_ B f w R):=u.o.trans G;have U:=jg (n:=(a:Int)+1) (by omega) (by omega);have W:=jg (n:=root) h.o.1 h.o.2;have b:=gv (ma h3 { data:=#[10] } (by show _+1<=_;rw[ab,E];simp only[ab,ag,aw];omega))
 clear h3 G g u C L;go_wp2_with fail;refine b.o.mono ?_;rintro x S ⟨rfl,O,z,H⟩;have I:=gv z;have K:Hid (h_ B f w S):=v.o.trans H;clear z H b v;go_wp2
 go_end0
 refine⟨rfl,O,?_,K.o⟩;have:=I.o;rw[ak,ak,show bl { data:=#[116,114,97,105,108,101,114,10] }=[116,114,97,105,108,101,114,10]from rfl,show bl { data:=#[10] }=[10]from rfl,<-ak [116,114,97,105,108,101,114,10]]at this;exact this
end
end Go.Proofs.YtgkljcmjnphpeaaGreatDoor
