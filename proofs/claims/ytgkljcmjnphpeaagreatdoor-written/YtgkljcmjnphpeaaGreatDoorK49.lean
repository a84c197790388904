import Derived.Test.YtgkljcmjnphpeaaGreatDoorK48
set_option linter.unusedVariables false
set_option linter.unusedSimpArgs false
set_option maxHeartbeats 8000000
set_option maxRecDepth 100000
namespace Go.Proofs.YtgkljcmjnphpeaaGreatDoor
open Go.RowKit
section
variable{w a W:World}
theorem L_{Q:Option Addr}{S R:Nat}(he:lD w.heap.size w)(hR:zN w.heap.size w (.slice Q S R)) :
  Calls Tryz.prog 8 #[.slice Q S R] w λc a=>c=.returned (.bool true)/\Below w.heap.size w a:=by
 have A:=gv he;obtain⟨i0,hi,ey,ez,e0⟩:=bu Tryz.infoByte;clear he;go_enter Tryz.func8,Tryz.ntmps8;go_wp2_with fail;refine(JM w).mono ?_;rintro c u ⟨rfl,F⟩;have X:=gv F;have M1:Hid (Mk w.heap.size u.heap.size (u.alloc (.cells #[.slice Q S R,.int .i64 200] 55))):=by have b2:=((aj u.heap.size u).alloc (af _) (.cells #[.slice Q S R,.int .i64 200] 55));exact⟨F.size,_,200,jd u _,hR.keep λb h1 h2=>by rw[b2.block b (aC h2 F.size),F.block b h2]⟩
 clear F hR;go_wp2_with fail;refine(Jt M1.o).mono ?_;rintro c j ⟨⟨f3,ov,D,a4,n,b0,rfl,a2,a1,hh⟩,k2⟩;obtain⟨oa,oc,rfl⟩:=a2.len;have al:Below w.heap.size w j:=(X.o.trans (((aj u.heap.size u).alloc (af _) (.cells #[.slice Q S R,.int .i64 200] 55)).mono X.o.size)).trans (k2.below (by have:=X.o.size;simp;omega) (by have:=X.o.size;omega));have e6:=gv al;have m:=gv a1;have HH:=gv hh;have C:=gv b0;obtain⟨g,hN⟩:∃g,D.length=g:=⟨_,rfl⟩;rw[hN]at a2 ⊢;have fm:g<=6:=by omega
 have b3:Below j.heap.size j (j.alloc (.cells #[.slice oa g oc,.int .i64 1] 31)):=(aj _ _).alloc (af _) _;have bn:=al.trans (b3.mono al.size);have xd:=jd j (.cells #[.slice oa g oc,.int .i64 1] 31);have c9:=gv (a2.base.keep b3);have ds:=gv (qD n a4 b0 a1 hh);have bf:=gv (λ(W:World) (i:Below w.heap.size w W) (er:Nat->Prop) (ov:Value) (hv:kK er 12 0 D W ov)=>LX (root:=((1:Nat):Int)) Ay (by omega) (A.o.low i) i.size hv (λU M=>(jT.few n (m.o U M)).1) (by omega) (λ_ U M=>jT.ok n (m.o U M)));have da:=gv (bf.o _ bn _ _ c9.o);have cr:=gv bn;have XD:=gv xd;have HN:=gv hN;have ex:=Ec a1;obtain⟨q,hS⟩:∃q,i8 D=q:=⟨_,rfl⟩;have HS:=gv hS;have fs:q<=240:=by omega
 rw[hS];clear a2 a1 hh k2 al b3 M1 ex hS b0 hN xd bn;go_wp2_with fail;refine da.o.mono ?_;rintro c w4 ⟨b4,L⟩;obtain⟨o,hB,cg,v4,rfl,cl⟩:∃o,lR FE 9 D o/\o.length=D.length/\∃p,c=.returned (.tuple #[p,.int .i64 0])/\w4.ownsRow (j.alloc (.cells #[.slice oa g oc,.int .i64 1] 31)).heap.size 5 1 p (jf o ((1:Nat):Int)).length (l_ (jf o ((1:Nat):Int))):=by
  rcases L with⟨K,_⟩ | ⟨_,o,i,⟨t,_,p,e1,e2⟩ | ⟨_,s⟩⟩
  ·have:=ds.o;rw[show((1:Nat):Int)=1 from rfl,this]at K;cases K
  ·exact⟨o,i,t,p,e1,e2⟩
  ·exfalso;rcases s with⟨t,s⟩ | s
   ·obtain⟨ys,hF⟩:=mf n a4 C.o m.o HH.o i t;have:=hF.len;omega
   ·have:=FY n C.o m.o i;omega
 obtain⟨ys,hF⟩:=mf n a4 C.o m.o HH.o hB cg;have HB:=gv hB;have el:=gv cg;obtain⟨e,bx⟩:∃e,e=jf o ((1:Nat):Int):=⟨_,rfl⟩;rw[<-bx]at hF cl;have ej:=gv bx;have x:=gv hF;have es:=hF.len;obtain⟨g4,c4,rfl,N⟩:=Dl cl rfl (by omega);have L4:=gv N;have bq:=cr.o.trans (b4.mono cr.o.size);have cs:=gv bq;obtain⟨f,hL⟩:∃f,e.length=f:=⟨_,rfl⟩;have r:=gv hL;rw[hL];have fd:60<=f:=by omega
 have fl:f<=190000:=by omega
 have ba:=gv (F2 hF (A.o.wideM bq) N (af 1000000) hF.all);rw[hL]at ba;have x4:=(b4.block j.heap.size (by simp)).trans XD.o;have X4:=gv x4;have fv:f<=c4:=by have:=N.c1;omega
 have fx:=N.c2;have c5:=gv b4;clear L cl bx hF N bq hL es hB cg b4 da x4;go_wp2_with fail;refine ba.o.mono ?_;rintro c l ⟨b5,f4,rfl,a5⟩;obtain⟨O,P,rfl⟩:=a5.len;rw[HN.o]at a5 ⊢;have x5:=jd l (.cells #[.slice O g P,.int .i64 1] 31);have b6:Below l.heap.size l (l.alloc (.cells #[.slice O g P,.int .i64 1] 31)):=(aj _ _).alloc (af _) _;have H:=b5.trans (b6.mono b5.size);have dd:=cs.o.trans (H.mono cs.o.size);have ec:=(H.block j.heap.size (ae X4.o)).trans X4.o;have c7:=gv (a5.base.keep b6);have c3:=gv (ay (root:=1) c7.o (c9.o.keep ((c5.o).trans (H.mono c5.o.size))) (λU M=>(jT.few n (m.o U M)).2));have c0:=gv H;have cw:=gv dd;have E:=gv x5;have dc:=gv ec;rw[show((1:Nat):Int)=1 from rfl];clear a5 b5 b6 H dd ba x5 ec;generalize f1:l.alloc (.cells #[.slice O g P,.int .i64 1] 31)=w6 at *;have d0:w6.cell? ⟨l.heap.size,0,none⟩=some (.slice O g P):=cb E.o;have d1:w6.cell? ⟨l.heap.size,1,none⟩=some (.int .i64 1):=cb E.o;have d2:w6.cell? ⟨j.heap.size,0,none⟩=some (.slice oa g oc):=cb dc.o;have d3:w6.cell? ⟨j.heap.size,1,none⟩=some (.int .i64 1):=cb dc.o;go_wp2_with fail;refine c3.o.mono ?_;rintro c h ⟨rfl,I⟩;have co:=(I.block l.heap.size (ae E.o)).trans E.o;have br:=cw.o.trans (I.mono cw.o.size);have dj:=c0.o.trans (I.mono c0.o.size);have bd:=gv (bf.o h br _ _ (c7.o.keep I));have q0:h.cell? ⟨l.heap.size,0,none⟩=some (.slice O g P):=cb co;have q1:h.cell? ⟨l.heap.size,1,none⟩=some (.int .i64 1):=cb co;rw[show((1:Nat):Int)=1 from rfl]at bd;have Y:=gv dj;have V:=gv br;clear d0 d1 d2 d3 c3 I E co br dj;go_wp2_with fail;refine bd.o.mono ?_;rintro c w8 ⟨b8,L⟩;obtain⟨v8,rfl,a7⟩:∃p,c=.returned (.tuple #[p,.int .i64 0])/\w8.ownsRow h.heap.size 5 1 p e.length (l_ e):=by
  rcases L with⟨K,_⟩ | ⟨_,f2,i,⟨t,_,p,e1,e2⟩ | ⟨_,s⟩⟩
  ·rw[ds.o]at K;cases K
  ·rw[<-Jy m.o HB.o el.o i t]at e2;have e3:jf o 1=e:=ej.o.symm;rw[e3]at e2;exact⟨p,e1,e2⟩
  ·exfalso;rcases s with⟨t,s⟩ | s
   ·obtain⟨ys,hF⟩:=mf n a4 C.o m.o HH.o i t;have:=hF.len;rw[show((1:Nat):Int)=1 from rfl]at this;omega
   ·have:=FY n C.o m.o i;omega
 obtain⟨J,c8,rfl,l8⟩:=Dl a7 rfl (by have:=r.o;omega);have bt:=Y.o.trans (b8.mono Y.o.size);have bs:=V.o.trans (b8.mono V.o.size);have a6:=L4.o.below bt;have dr:=Ac a7;have dp:=Fc (cap:=c4) (w:=w8) (B:=w8.heap.size) (ao:=some ⟨g4,0,none⟩) (xs:=e) (λe4 hi=>⟨g4,0,rfl,a6.lt,a6.cell e4 hi⟩);rw[r.o]at dr dp ⊢;obtain⟨db,hT⟩:∃db,gC e=db:=⟨_,rfl⟩;rw[hT]at dr dp;have d4:(e.take (f-2)).length=f-2:=by rw[ax,r.o];omega
 have bb:=gv (mn (most:=1000000) (by have:=x.o.cut;rw[r.o]at this;exact this) (λT hx=>x.o.byt T (cK hx)) (by omega) (A.o.wideM bs) (a6.take (f-2)) (af _));rw[d4]at bb;have y:=gv a7;have Z:=gv b8;have e8:=gv bt;have e7:=gv bs;have dv:((f:Int)-2)=((f-2:Nat):Int):=by omega
 have e9:=gv dv;clear L a7 b8 bt bs hT d4 bd bf a6 l8 dv q0 q1;go_wp2_with fail;refine bb.o.mono ?_;rintro c d ⟨rfl,b9⟩;have x9:=jd d (.cells #[.slice none 0 0,.int .i64 0] 31);have de:Below d.heap.size d (d.alloc (.cells #[.slice none 0 0,.int .i64 0] 31)):=(aj _ _).alloc (af _) _;have dk:=b9.trans (de.mono b9.size);have ck:=vV y.o dk;have z:=gv dk;have X9:=gv x9;have ev:=z.o.size;have f0:h.heap.size<=w8.heap.size:=by have:=(y.o.lt J rfl).1;have h2:=(y.o.lt J rfl).2;omega
 have a9:=gv b9;clear bb b9 de x9;rw[r.o]at ck;have c6:=gv ck;clear ck ev;have fz:h.heap.size<=d.heap.size:=by have:=z.o.size;simp at this;have h3:=(y.o.lt J rfl).2;have h4:=a9.o.size;omega
 go_wp2_with (at_builtin;refine aK _ rfl (.tmp 86) (.tmp 87) 23 rfl h.heap.size 5 i0 (.int .u8 0) 1 1 aq hi ey ez e0 rfl (by decide) _ _ _ rfl (c6.o.alloc _) ⟨d.heap.size+1,0,none⟩ 1 1 ([32].map λT:Nat=>.int .u8 (T:Int)) rfl rfl ?hnews ?hone ?h63 ?hby ?hbs ?_)
 case hnews=>have:=Bu.one_news 32 (d.alloc (.cells #[.slice none 0 0,.int .i64 0] 31));simpa using this
 case hone=>intro f5 hu;simp at hu;subst hu;rfl
 case h63=>unfold maxLen;omega
 case hby=>omega
 case hbs=>simp;omega
 intro e5 cm ea cd _;have dl:l_ (e++[32])=l_ e++([32].map λT:Nat=>.int .u8 (T:Int)):=by simp[l_]
 have a3:f+1=(e++[32]).length:=by rw[ab,r.o];rfl
 have eb:cm.ownsRow h.heap.size 5 1 e5 (f+1) (l_ (e++[32])):=by rw[dl];exact ea
 obtain⟨fb,fa,rfl,d6⟩:=Dl eb a3 (by omega);have eu:=(y.o.lt J rfl);have bw:Below h.heap.size h ((d.alloc (.cells #[.slice none 0 0,.int .i64 0] 31)).alloc (.cells #[.int .u8 32] 5)):=(Z.o.trans (z.o.mono Z.o.size)).alloc (by have:=Z.o.size;have:=z.o.size;omega) _;have bv:Below h.heap.size h cm:=bw.grown cd bw.size (λk dn=>by cases dn;exact eu.1);have d5:cm.heap[d.heap.size]?=some (.cells #[.slice none 0 0,.int .i64 0] 31 (0,0)):=by have fc:=a9.o.size;rw[cd.block d.heap.size (by simp only[bM];omega) (λc=>by have dn:d.heap.size=J:=dy c;omega)];exact l9 _ (jd d _)
 have bi:=V.o.trans (bv.mono V.o.size);have di:=Y.o.trans (bv.mono Y.o.size);have ac:=gv (mn (most:=1000000) x.o.more (gy.app x.o.byt (gy.lit (by decide))) (by rw[<-a3];omega) (A.o.wideM bi) d6 (af _));rw[<-a3]at ac;have HY:=gv d5;have cp:=gv bi;have en:=gv (L4.o.below di);clear ea eb cd dl a3 d6 bw bv d5 bi di c6 y z a9 Z;go_wp2_with fail;refine ac.o.mono ?_;rintro c v ⟨rfl,a0⟩;have bz:Below v.heap.size v (v.alloc (.cells #[.slice none 0 0,.int .i64 0] 31)):=(aj _ _).alloc (af _) _;have G:=a0.trans (bz.mono a0.size);have ch:=(G.block d.heap.size (ae HY.o)).trans HY.o;have y0:(v.alloc (.cells #[.slice none 0 0,.int .i64 0] 31)).cell? ⟨d.heap.size,0,none⟩=some (.slice none 0 0):=cb ch;have z0:(v.alloc (.cells #[.slice none 0 0,.int .i64 0] 31)).cell? ⟨v.heap.size,0,none⟩=some (.slice none 0 0):=cb (jd v _);have ad:=cp.o.trans (G.mono cp.o.size);have a8:=gv ad;by_cases et:q=0
 ·subst et;clear a0 bz G ch ad ac;go_wp2;go_ret;exact⟨rfl,a8.o⟩
 ·have bc:=gv (F2 (res:=.error 6) x.o (A.o.wideM ad) (en.o.below G) (show q-1<=1000000 by omega) (x.o.less (q-1) (by have:=HS.o;omega)));rw[r.o]at bc;have dw:((q:Int)-1)=((q-1:Nat):Int):=by omega
  have em:=gv dw;clear a0 bz G ch ad ac dw;go_wp2_with fail;rw[em.o];refine bc.o.mono ?_;rintro c f6 ⟨dg,rfl⟩;have bm:=a8.o.trans (dg.mono a8.o.size);have ei:=gv (bm.alloc bm.size (.cells #[.slice none 0 0,.int .i64 0] 31));clear dg bm bc;go_wp2;go_ret;exact⟨rfl,ei.o⟩
end
end Go.Proofs.YtgkljcmjnphpeaaGreatDoor
