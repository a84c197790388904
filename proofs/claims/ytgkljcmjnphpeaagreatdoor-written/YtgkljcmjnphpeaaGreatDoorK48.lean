import Derived.Test.YtgkljcmjnphpeaaGreatDoorK46
import Derived.Test.YtgkljcmjnphpeaaGreatDoorK47
set_option linter.unusedVariables false
set_option linter.unusedSimpArgs false
set_option maxHeartbeats 4000000
set_option maxRecDepth 100000
namespace Go.Proofs.YtgkljcmjnphpeaaGreatDoor
open Go.RowKit
section
variable{w d:World}
theorem IU{a:List Nat}{e:List nU}{b:Nat}{g:Option Addr}{h:Nat}(c:a=e.map λf=>f.1)(r:w.ownsRow b 3 1 (.slice g a.length h) a.length (a.map λm:Nat=>.int .i64 (m:Int))):kZ w.heap.size w (.slice g a.length h) e:=by
 rcases r.2 with⟨o,p⟩ | ⟨n,l,s,e1,e2,i,v,u,x,q⟩
 ·refine Or.inl ⟨o,?_⟩;have h3:(e.map λf=>f.1).length=0:=by rw[<-c];exact p
  simpa using h3
 ·refine Or.inr ⟨n,l,?_,ae i,λk j=>?_⟩;·rw[e1,c,av]
  ·rw[cb i,<-cY];have t:k<a.length:=by rw[c,av];exact j
   rw[<-cF (show k<a.length*1 by omega),q,c,bj,bj,ai j];simp
theorem kZ.mono'{c:World}{e b:Nat}{g:Value}{f:List nU}(a:kZ e c g f)(k:e<=b):kZ b c g f:=by
 rcases a with a | ⟨j,h,i,m,l⟩;·exact Or.inl a
 ·exact Or.inr ⟨j,h,i,aC m k,l⟩
def RS(f g i h j:Nat)(c e k b:Value)(_:Array Bool)(a:World):Prop:=a.cell? ⟨f,0,none⟩=some c/\a.cell? ⟨g,3,none⟩=some e/\a.cell? ⟨i,j,none⟩=some k/\a.cell? ⟨h,6,none⟩=some b
def v_(k:Nat->Nat->List Nat->Except Nat (List Nat)->Prop)(j:List (VT 12 × List Nat))(l:Except Nat (List (VT 12)))(o c h i b:Nat)(n:World)(m g:Nat)(e:World):Prop:=
 ∃(a:List (VT 12)) (r:Except Nat (List (VT 12))),a.length=m/\g<=1000000/\kK (λf=>b<=f/\(Value.slice (some ⟨c,0,none⟩) h i).ownBlock≠some f) 12 b (a++(j.drop m).map Prod.fst) e (.slice (some ⟨c,0,none⟩) h i)/\UA k (j.drop m) g r/\l=r.map (a ++ ·)/\gQ c n e
theorem J8{al:Nat->Nat->List Nat->Except Nat (List Nat)->Prop}{eb:World->Prop}(e:tJ al eb)(hQ:eb w){I:Option Addr}{J bn:Nat}{t:List Nat}{i:List (VT 12 × List Nat)}{y:Int}{O:Except Nat (List (VT 12))}(he:lD w.heap.size w)(hd:nA w w.heap.size I t)(ei:∀p,p<t.length->nth t p<256)(len:t.length<=200000)(lc:t.length<=J/\J<=9223372036854775807)(ad:∃bd B,I=some ⟨bd,B,none⟩/\bd<w.heap.size)
  (hm:bn<=1000000) (c3:iM t=some (i,y)) (ex:kn (i.map Prod.fst) y=true) (en:∀a∈i,∃E:List nU,gz.filters (α:=VT 11) a.1=E.map λY=>Y.1) (e8:∀a∈i,∀b∈a.2,b<256) (hU:UA al i bn O) :
  Calls Tryz.prog 66 #[.slice I t.length J,.int .i64 (bn:Nat)] w (xU w O y):=by
 have P:Below w.heap.size w ((w.alloc (.cells #[.slice none 0 0,.int .i64 0] 31)).alloc (.cells #[.slice I t.length J,.int .i64 0,.slice none 0 0,.slice none 0 0,.slice none 0 0] 131)):=((aj _ _).alloc (af _) _).alloc (by simp) _;have h8:((w.alloc (.cells #[.slice none 0 0,.int .i64 0] 31)).alloc (.cells #[.slice I t.length J,.int .i64 0,.slice none 0 0,.slice none 0 0,.slice none 0 0] 131)).heap.size=w.heap.size+2:=by simp
 have db:((w.alloc (.cells #[.slice none 0 0,.int .i64 0] 31)).alloc (.cells #[.slice I t.length J,.int .i64 0,.slice none 0 0,.slice none 0 0,.slice none 0 0] 131)).heap[w.heap.size]?=some (.cells #[.slice none 0 0,.int .i64 0] 31 (0,0)):=l9 _ (jd _ _);have dd:((w.alloc (.cells #[.slice none 0 0,.int .i64 0] 31)).alloc (.cells #[.slice I t.length J,.int .i64 0,.slice none 0 0,.slice none 0 0,.slice none 0 0] 131)).heap[w.heap.size+1]?=some (.cells #[.slice I t.length J,.int .i64 0,.slice none 0 0,.slice none 0 0,.slice none 0 0] 131 (0,0)):=by have:=jd (w.alloc (.cells #[.slice none 0 0,.int .i64 0] 31)) (.cells #[.slice I t.length J,.int .i64 0,.slice none 0 0,.slice none 0 0,.slice none 0 0] 131);rw[bM]at this;exact this
 obtain⟨G,da⟩:∃G,(w.alloc (.cells #[.slice none 0 0,.int .i64 0] 31)).alloc (.cells #[.slice I t.length J,.int .i64 0,.slice none 0 0,.slice none 0 0,.slice none 0 0] 131)=G:=⟨_,rfl⟩;rw[da]at P h8 db dd;have fl:Sc w.heap.size (w.heap.size+1) I J t (.slice none 0 0) (.slice none 0 0) (.slice none 0 0) G t:=
  ⟨dV _,by rw[dd,dU];rfl,hd.other (λh A=>P.block h A),ei,len,lc,af _,by rw[dU];rfl,ad⟩
 have em:lD w.heap.size G:=he.only (bs:=w.heap.size+1) (dV _) (af _) (.of_below P);have HD:=gv (Ff em fl);have il:=gv P;have g1:=gv da;have cg:=gv db;have dp:=gv (λic (hz:iM t=some ic)=>oE hz len);have dk:=gv e;have f6:=gv en;have HU:=gv hU;have gk:=gv e8;have HQ:=gv hQ;have ds:=gv ex;have f3:Hid (∀a0:World,gQ (w.heap.size+1) G a0->Below w.heap.size w a0):=λa0 B=>⟨B.os.trans P.os,B.tape.trans P.tape,B.output.trans P.output,by have:=B.size;omega,λh A=>(B.block h (by omega) (by omega)).trans (P.block h A)⟩;have es:=dp.o _ c3;have iz:=ei;rw[c3]at HD;clear hd lc ad he fl e hQ en hU e8 ex dp c3 em P db dd da;have i0:t.length<=200000:=len;go_enter Tryz.func66,Tryz.ntmps66;go_wp2_with fail;rw[g1.o];refine HD.o.mono ?_;rintro s j ⟨ov,pv,lv,vs,N,kl,ko,rfl,h3⟩;have H3:=gv h3;have cs:=f3.o _ h3.only;obtain⟨oa,q,bc⟩:=i_ h3.oo;have c9:vs.length=(i.map Prod.fst).length:=h3.len;rw[c9]at bc;obtain⟨n,hn⟩:∃n,(i.map Prod.fst).length=n:=⟨_,rfl⟩;rw[hn]at bc;have hr:n<=200000:=by rw[<-hn,av];exact es.1
 have d4:Hid (kK (λh=>G.heap.size<=h/\ov.ownBlock≠some h) 12 G.heap.size (i.map Prod.fst) j ov):=⟨vs,h3.oo,h3.len,λp a Y hx V=>gR.mono 12 (h3.ch p a Y hx V) (λh A _=>⟨A.1,A.2.1⟩)⟩;have et:∀h,ov.ownBlock=some h->h<j.heap.size:=λh A=>(h3.oo.lt h A).2;have cw:=h3.sc.blk;have c4:=h3.op;have dw:=gv h3.pk;have h5:N.length=(i.map Prod.snd).length:=h3.plen;have dl:Hid (∀Y∈i.map Prod.fst,ph Y):=λY V=>by obtain⟨a,hx,rfl⟩:=cv.1 V;exact es.2 a hx
 have fx:j.heap[w.heap.size]?=some (.cells #[.slice none 0 0,.int .i64 0] 31 (0,0)):=by rw[h3.only.block _ (ae cg.o) (by omega)];exact cg.o
 have j0:=h3.only.size;have ji:1<=n:=by have a4:=ds.o;unfold kn at a4;simp only[dX,cQ]at a4;omega
 have hs:∃c,oa=some ⟨c,0,none⟩:=by
  rcases h3.oo.2 with⟨_,h0⟩ | ⟨h,_,_,s,_⟩;·rw[c9,hn]at h0;omega
  ·rw[bc]at s;cases s;exact⟨h,rfl⟩
 obtain⟨c,hb⟩:=hs;rw[hb]at bc;subst bc;obtain⟨pa,pc,h7⟩:=i_ c4;subst h7;have i1:c<j.heap.size:=et c rfl;have e7:(i.map Prod.fst).length=n:=hn;clear et;have HN:=gv hn;have b4:Below j.heap.size j (j.alloc (.cells #[.slice (some ⟨c,0,none⟩) n q,.int .i64 y] 31)):=(aj _ _).alloc (af _) _;have b6:(j.alloc (.cells #[.slice (some ⟨c,0,none⟩) n q,.int .i64 y] 31)).heap[j.heap.size]?=some (.cells #[.slice (some ⟨c,0,none⟩) n q,.int .i64 y] 31 (0,0)):=jd _ _;have dc:(j.alloc (.cells #[.slice (some ⟨c,0,none⟩) n q,.int .i64 y] 31)).heap[w.heap.size]?=some (.cells #[.slice none 0 0,.int .i64 0] 31 (0,0)):=l9 _ fx;have a8:Hid (Below w.heap.size w (j.alloc (.cells #[.slice (some ⟨c,0,none⟩) n q,.int .i64 y] 31))):=cs.trans (b4.mono cs.size);have bx:=gv (d4.o.keep b4);have bt:=gv (uQ (root:=y) bx.o.base dl.o (by rw[HN.o];exact hr));obtain⟨w4,bi⟩:∃w4,j.alloc (.cells #[.slice (some ⟨c,0,none⟩) n q,.int .i64 y] 31)=w4:=⟨_,rfl⟩;rw[bi]at b6 dc a8 bx bt;have g2:=gv bi;have d6:=gv b6;have ck:=gv dc;have fd:j.heap.size<w4.heap.size:=ae b6;rw[ds.o]at bt;have c0:=(b4.block _ (ae cw)).trans cw;have c5:=vV c4 b4;rw[bi]at c0 c5;have b9:=gv c0;have dv:=gv c5;have d1:Hid (∀(p:Nat) (u:Value) (W:List Nat),N[p]?=some u->(i.map Prod.snd)[p]?=some W->lE w4 w.heap.size W u):=λp u W h1 h2=>by rw[<-bi];exact(dw.o p u W h1 h2).keep (λh A=>b4.block h (by omega))
 clear h3 H3 cs c9 hn fx HD d4 b4 b6 dc bi cg cw c4 dw c0 c5;go_wp2_with fail;try rw[g2.o]
 refine bt.o.mono ?_;rintro s H ⟨rfl,b5⟩;have B5:=gv (a8.o.trans (b5.mono a8.o.size));have cd:=gv (bx.o.keep b5);have cl:Hid (H.heap[j.heap.size]?=some (.cells #[(.slice (some ⟨c,0,none⟩) n q),.int .i64 y] 31 (0,0))):=by unfold Hid;rw[b5.block _ fd];exact d6.o
 have d5:=gv ((b5.block _ (ae ck.o)).trans ck.o);have dj:=gv ((b5.block _ (ae b9.o)).trans b9.o);have gi:=gv (vV dv.o b5);have gl:Hid (∀(p:Nat) (u:Value) (W:List Nat),N[p]?=some u->(i.map Prod.snd)[p]?=some W->lE H w.heap.size W u):=λp u W h1 h2=>(d1.o p u W h1 h2).keep (λh A=>b5.block h (by have:=a8.o.size;omega));have h9:j.heap.size<H.heap.size:=ae cl.o;have HG:Hid (G.heap.size<=c/\c<H.heap.size):=by obtain⟨_,k1,_⟩:=cd.o;exact k1.lt c rfl
 have i2:=HG.o;clear b5 bt a8 bx d6 ck fd b9 dv d1;go_wp2_with fail;refine(oq _).mono ?_;rintro s d ⟨rfl,hw⟩;have hw:=hw.symm;subst hw;have d0:=mb cl.o;have f8:Hid (v_ al i O w.heap.size c n q G.heap.size H 0 bn H):=⟨[],O,rfl,hm,by simpa using cd.o,HU.o,by cases O<;>rfl,gQ.refl _ _⟩;go_wp2;go_loopw [1,21] (λmv p wr=>∃(f X:Nat),f<=n/\p=.int .i64 f/\mv=.int .i64 (X:Nat)/\Hid (v_ al i O w.heap.size c n q G.heap.size H f X wr)) (λ_ p _=>n-(intOf p).toNat)
 case atStart=>exact⟨0,bn,aE _,rfl,rfl,f8⟩
 case round =>
  obtain⟨f,X,b1,rfl,rfl,HS⟩:=hrel;obtain⟨dn,r,bb,ez,M,ba,a6,z⟩:=HS.o;have D:Below w.heap.size w wr:=B5.o.trans ⟨z.os,z.tape,z.output,z.size,λk hk=>z.block k (by have:=B5.o.size;omega) (by omega)⟩;have a2:wr.heap[j.heap.size]?=some (.cells #[(.slice (some ⟨c,0,none⟩) n q),.int .i64 y] 31 (0,0)):=by rw[z.block _ h9 (by omega)];exact cl.o
  rcases bN b1 with b1 | b1
  ·subst b1;have a5:i.drop f=[]:=dt (by rw[av]at e7;omega);rw[a5]at ba M;have c7:r=.ok []:=ba;subst c7;have gr:Hid (O=.ok dn):=by unfold Hid;rw[a6];show Except.ok (dn++[])=_;rw[ct]
   simp only[dR,ct]at M;have a7:=(z.block _ (ae d5.o) (by omega)).trans d5.o;have v0:=mb a2;have v1:=oB a2;have r0:=mb a7;have r1:=oB a7;have f0:=ix 0 a7;have f1:=ix 1 a7;have g3:=gv a7;have bz:=gv M;have BW:=gv D;clear a2 a7 M ba a6 z D a5;go_wp2;have hf:=vA g3.o (.slice (some ⟨c,0,none⟩) f q) (.int .i64 y);have ho:gQ w.heap.size wr ((wr.setCell ⟨w.heap.size,0,none⟩ (.slice (some ⟨c,0,none⟩) f q)).setCell ⟨w.heap.size,1,none⟩ (.int .i64 y)):=((gQ.refl _ wr).setCell 0 _).setCell 1 _;refine aF (v:=.agg #[(.slice (some ⟨c,0,none⟩) f q),.int .i64 y]) ?_ rfl ?_;·exact aJ Tryz.results66 _ _ w.heap.size 31 _ _ _ rfl hf f7 rfl (by kernel_rfl)
   have D:=BW.o;refine .ok_ ⟨ho.os.trans D.os,ho.tape.trans D.tape,ho.output.trans D.output,aD D.size ho.size,λh A=>(ho.block h (by have:=D.size;omega) (by omega)).trans (D.block h A)⟩ gr.o ?_;obtain⟨ys,k1,k2,k3⟩:=bz.o;refine⟨ys,?_,k2,λp a Y hx V=>gR.mono 12 (gR.keep 12 (k3 p a Y hx V) (λh A ha=>ho.block h ha (by omega))) (λh A _=>by omega)⟩;obtain⟨j1,j2⟩:=k1;refine⟨j1,?_⟩;rcases j2 with j2 | ⟨h,a9,cm,e1,e2,T,hc⟩;·exact Or.inl j2
   ·exact Or.inr ⟨h,a9,cm,e1,by omega,by rw[ho.block h (ae T) (by omega)];exact T,hc⟩
  ·have b3:f<i.length:=by rw[av]at e7;omega
   obtain⟨a,bm⟩:∃a,i[f]?=some a:=⟨_,ai b3⟩;have a5:i.drop f=a::i.drop (f+1):=by rw[bU b3];rw[ai b3]at bm;cases bm;rfl
   have de:a∈i:=cB bm;rw[a5]at ba M;have V:(dn++(a::i.drop (f+1)).map Prod.fst)[f]?=some a.1:=by rw[ar (by omega),bb,dU];rfl
   obtain⟨h,a9,iv,eu,_,_,dg,U⟩:=M.at V;have hj:c=h/\q=a9:=by cases eu;exact⟨rfl,rfl⟩
   clear eu;obtain⟨rfl,rfl⟩:=hj;obtain⟨ja,jc,ka,kc,Q,R,g5,fm,fv,c8⟩:=gR.split (k:=11) dg;subst g5;have e0:wr.cell? ⟨c,f*7,none⟩=some (.int .i64 (gz.kind (α:=VT 11) a.1:Int)):=U 0 _ rfl;have e1:wr.cell? ⟨c,f*7+1,none⟩=some (.int .i64 (gz.n (α:=VT 11) a.1)):=U 1 _ rfl;have e2:wr.cell? ⟨c,f*7+2,none⟩=some (.int .i64 (gz.places (α:=VT 11) a.1:Int)):=U 2 _ rfl;have e3:wr.cell? ⟨c,f*7+3,none⟩=some (.string (gC (gz.text (α:=VT 11) a.1))):=U 3 _ rfl;have e4:wr.cell? ⟨c,f*7+4,none⟩=some (.slice ja (gz.items (α:=VT 11) a.1).length jc):=U 4 _ rfl;have e5:wr.cell? ⟨c,f*7+5,none⟩=some (.slice ka (gz.keys (α:=VT 11) a.1).length kc):=U 5 _ rfl;have e6:wr.cell? ⟨c,f*7+6,none⟩=some (.slice Q (gz.filters (α:=VT 11) a.1).length R):=U 6 _ rfl;have g4:=mb a2;generalize b8:(gz.kind (α:=VT 11) a.1:Int)=ky at *;rcases ba with⟨ey,r2,bf,ac⟩ | ⟨ey,g6⟩
   ·have t8:(ky==8)=false:=by rw[<-b8];simp;omega
    have gb:Hid (∀B:Obj,v_ al i O w.heap.size c n q G.heap.size H (f+1) X (wr.alloc B)):=λB=>by
     refine⟨dn++[a.1],r2,by rw[ab,bb];rfl,ez,?_,bf,?_,z.trans (.of_below ((aj _ _).alloc (af _) B))⟩
     ·have:=M.keep ((aj _ _).alloc (af _) B);simpa using this
     ·rw[a6,ac];cases r2<;>simp[Except.map]
    clear dg U V M bf ac a6 fm fv c8 z D b8 a5 bm a2;go_wp2;go_roundw
    case rel=>exact⟨f+1,X,by omega,by first | rfl | (congr 1),rfl,gb.o _⟩
    case measure=>simp[intOf];omega
   ·have t8:(ky==8)=true:=by rw[<-b8,ey];rfl
    obtain⟨E,b0⟩:=f6.o a de;have h6:f<N.length:=by rw[h5,av];exact b3
    obtain⟨pp,c6⟩:∃pp,N[f]?=some pp:=⟨_,ai h6⟩;have fb:=(gl.o f pp a.2 c6 (by rw[bj,bm];rfl)).keep (w':=wr) (λh A=>z.block h (by have:=B5.o.size;omega) (by omega));have c1:nx wr pp a.2:=by
     refine⟨?_,gk.o a de⟩;rcases fb with⟨h1,h2⟩ | ⟨bd,B,a9,s,h1,h2,h3,h4⟩;·rw[h1];exact⟨none,0,h2,λp hi=>absurd hi (by simp),af _,by omega,λ_=>rfl⟩
     ·exact⟨_,a9,s,λp hi=>⟨bd,B,rfl,by have:=D.size;omega,h4 p hi⟩,h2,h3,λa4=>by cases a4⟩
    obtain⟨qa,qc,hu,_⟩:=c1.sl;subst hu;have hl:∃o,pa=some ⟨o,0,none⟩/\o≠c/\o<H.heap.size/\H.cell? ⟨o,f,none⟩=some (.slice qa a.2.length qc):=by
     rcases gi.o.2 with⟨_,h0⟩ | ⟨o,c',cm,s,_,T,_,_,_,ia⟩;·omega
     ·cases s;refine⟨o,rfl,?_,ae T,?_⟩
      ·rintro rfl;obtain⟨_,k1,_⟩:=cd.o;obtain⟨_,c2,f2,el⟩:=nR k1 o rfl;rw[T]at el;simp at el
      ·rw[cb T,<-cY,<-cF (show f<N.length*1 by omega),ia];exact c6
    obtain⟨o,rfl,ev,hp,hq⟩:=hl;have e9:wr.cell? ⟨o,f,none⟩=some (.slice qa a.2.length qc):=(World.cell?_of_block (w:=H) (z.block o hp ev)).trans hq;have ej:wr.heap[w.heap.size+1]?=_:=(z.block _ (ae dj.o) (by omega)).trans dj.o;have cp:kZ wr.heap.size wr (.slice Q (gz.filters (α:=VT 11) a.1).length R) E:=IU b0 c8;have er:(gz.filters (α:=VT 11) a.1).length=E.length:=by rw[b0,av]
    rw[er]at cp;have g8:E.length<=1000000:=by have a4:=(dl.o a.1 (List.mem_map_of_mem de)).2.2.1;rw[<-er];have h2:(gz.filters (α:=VT 11) a.1).length<=200000:=a4;omega
    have ea:=gv a2;have di:=gv ej;have dr:=gv z;have bz:=gv M;have f5:=gv cp;have f4:=gv c1;have d2:=gv a6;have br:=gv D;have ga:=gv b0;clear dg U V a5 a2 fm fv c8 c6 fb b8 ej z M cp c1 a6 D b0;go_wp2_with fail;have bq:Below wr.heap.size wr (wr.alloc (.cells #[.int .i64 ky,.int .i64 (gz.n (α:=VT 11) a.1),.int .i64 (gz.places (α:=VT 11) a.1:Int),.string (gC (gz.text (α:=VT 11) a.1)),.slice ja (gz.items (α:=VT 11) a.1).length jc,.slice ka (gz.keys (α:=VT 11) a.1).length kc,.slice Q E.length R] 67)):=(aj _ _).alloc (af _) _;have xq:=jd wr (.cells #[.int .i64 ky,.int .i64 (gz.n (α:=VT 11) a.1),.int .i64 (gz.places (α:=VT 11) a.1:Int),.string (gC (gz.text (α:=VT 11) a.1)),.slice ja (gz.items (α:=VT 11) a.1).length jc,.slice ka (gz.keys (α:=VT 11) a.1).length kc,.slice Q E.length R] 67);generalize kh:wr.alloc (.cells #[.int .i64 ky,.int .i64 (gz.n (α:=VT 11) a.1),.int .i64 (gz.places (α:=VT 11) a.1:Int),.string (gC (gz.text (α:=VT 11) a.1)),.slice ja (gz.items (α:=VT 11) a.1).length jc,.slice ka (gz.keys (α:=VT 11) a.1).length kc,.slice Q E.length R] 67)=m at *;have kk:=dr.o.size;have q0:m.cell? ⟨j.heap.size,0,none⟩=some (.slice (some ⟨c,0,none⟩) n q):=mb ((bq.block _ (by omega)).trans ea.o);have q3:m.cell? ⟨w.heap.size+1,3,none⟩=some (.slice (some ⟨o,0,none⟩) N.length pc):=qU ((bq.block _ (by omega)).trans di.o);have qp:m.cell? ⟨o,f,none⟩=some (.slice qa a.2.length qc):=(bq.cell (p:=⟨o,f,none⟩) (by show o<_;omega)).trans e9;have qf:=sJ xq;have qs:m.cell? ⟨c,f*7+3,none⟩=some (.string (gC (gz.text (α:=VT 11) a.1))):=(bq.cell (p:=⟨c,f*7+3,none⟩) (by show c<_;omega)).trans e3;have qz:m.frozen? ⟨c,f*7+3,none⟩=false:=by
     obtain⟨zs,k1,_⟩:=bz.o;rcases k1.2 with⟨s,_⟩ | ⟨g',c',cm,s,_,T,_⟩;·cases s
     ·cases s;exact nP ((bq.block _ (ae T)).trans T)
    have jl:wr.heap.size<m.heap.size:=ae xq;have bv:Hid (∀r0,nZ al (gz.filters (α:=VT 11) a.1) a.2 X r0->Calls Tryz.prog 100 #[.slice Q E.length R,.slice qa a.2.length qc,.int .i64 (X:Nat)] m.drew (ug m.drew r0)):=λr0 c7=>by have cr:Below wr.heap.size wr m.drew:=bq.drew;refine uo dk.o (kZ.mono' (f5.o.below cr) (by show _<=m.heap.size;omega)) g8 (f4.o.below cr) ez (dk.o.keep w _ HQ.o (br.o.trans (cr.mono br.o.size))) ?_;rw[<-ga.o];exact c7
    have BQ:=gv bq;clear e0 e1 e2 e3 e4 e5 e6 g4 e9 xq bq ea di;have gs:Hid (RS j.heap.size (w.heap.size+1) o wr.heap.size f (.slice (some ⟨c,0,none⟩) n q) (.slice (some ⟨o,0,none⟩) N.length pc) (.slice qa a.2.length qc) (.slice Q E.length R) (Array.replicate 17 false) m.drew):=⟨q0,q3,qp,qf⟩;have g0:Hid (∀(a3:Array Bool) (l:World),Below m.drew.heap.size m.drew l->RS j.heap.size (w.heap.size+1) o wr.heap.size f (.slice (some ⟨c,0,none⟩) n q) (.slice (some ⟨o,0,none⟩) N.length pc) (.slice qa a.2.length qc) (.slice Q E.length R) a3 l):=λa3 l x=>⟨(x.cell (p:=⟨j.heap.size,0,none⟩) (by show j.heap.size<m.heap.size;omega)).trans q0,(x.cell (p:=⟨w.heap.size+1,3,none⟩) (by show w.heap.size+1<m.heap.size;omega)).trans q3,(x.cell (p:=⟨o,f,none⟩) (by show o<m.heap.size;omega)).trans qp,(x.cell (p:=⟨wr.heap.size,6,none⟩) (by show wr.heap.size<m.heap.size;omega)).trans qf⟩;have fz:Hid (∀l:World,Below m.drew.heap.size m.drew l->Below w.heap.size w l):=λl x=>br.o.trans (((BQ.o.drew).trans (x.mono (by show wr.heap.size<=m.heap.size;omega))).mono br.o.size);have QS:=gv (And.intro qs qz);clear q0 q3 qp qf qs qz;refine p7 (RS j.heap.size (w.heap.size+1) o wr.heap.size f (.slice (some ⟨c,0,none⟩) n q) (.slice (some ⟨o,0,none⟩) N.length pc) (.slice qa a.2.length qc) (.slice Q E.length R)) (by kernel_rfl) ?_;intro e;have g:=gs.o;refine ti 0 ?_ e g ?_;clear e g;intro e g;(try simp only[gB])
    refine tk 1 ?_ e ?_ g ?_;rotate_left;·intro a0 hW;obtain⟨a3,co,hL,a1⟩:=hW;obtain⟨s0,s3,sp,sf⟩:=a1;go_simp;try(with_reducible rfl)
    clear e g;intro e g;(try simp only[gB])
    refine ti 2 ?_ e g ?_;clear e g;intro e g;(try simp only[gB])
    refine ti 3 ?_ e g ?_;clear e g;intro e g;(try simp only[gB])
    refine tk 4 ?_ e ?_ g ?_;rotate_left;·intro a0 hW;obtain⟨a3,co,hL,a1⟩:=hW;obtain⟨s0,s3,sp,sf⟩:=a1;go_simp;try(with_reducible rfl)
    clear e g;intro e g;(try simp only[gB])
    refine ti 5 ?_ e g ?_;clear e g;intro e g;(try simp only[gB])
    refine ti 6 ?_ e g ?_;clear e g;intro e g;(try simp only[gB])
    refine ti 7 ?_ e g ?_;clear e g;intro e g;(try simp only[gB])
    refine tk 8 ?_ e ?_ g ?_;rotate_left;·intro a0 hW;obtain⟨a3,co,hL,a1⟩:=hW;obtain⟨s0,s3,sp,sf⟩:=a1;go_simp;try(with_reducible rfl)
    clear e g;intro e g;(try simp only[gB])
    refine ti 9 ?_ e g ?_;clear e g;intro e g;(try simp only[gB])
    refine ti 10 ?_ e g ?_;clear e g;intro e g;(try simp only[gB])
    refine tk 11 ?_ e ?_ g ?_;rotate_left;·intro a0 hW;obtain⟨a3,co,hL,a1⟩:=hW;obtain⟨s0,s3,sp,sf⟩:=a1;go_simp;try(with_reducible rfl)
    clear e g;intro e g;(try simp only[gB])
    refine ti 12 ?_ e g ?_;clear e g;intro e g;(try simp only[gB])
    rcases g6 with⟨C,r2,ht,bf,ac⟩ | ⟨nn,ht,ac⟩
    ·have HC:=gv (bv.o _ ht);have kd:=nZ.le _ _ _ _ ht;have d3:=gv (And.intro bf ac);clear ht bf ac bv;have gc:Hid (∀l:World,Below m.drew.heap.size m.drew l->v_ al i O w.heap.size c n q G.heap.size H (f+1) (X-C.length) (l.setCell ⟨c,f*7+3,none⟩ (.string (gC C)))):=λl x=>by
      have ec:Below wr.heap.size wr l:=BQ.o.drew.trans (x.mono (by show wr.heap.size<=m.heap.size;omega));refine⟨dn++[sT (k:=11) a.1 C],r2,by rw[ab,bb];rfl,by omega,?_,d3.o.1,?_,(dr.o.trans (.of_below ec)).setCell _ _⟩
      ·have hv:=(bz.o.keep ec).text (m:=f) (y:=a.1) (by rw[ar (by omega),bb,dU];rfl) (λg' g9 s=>g9.2 (by rw[s];rfl)) C;have s:(dn++(a::i.drop (f+1)).map Prod.fst).set f (sT (k:=11) a.1 C)=dn++[sT (k:=11) a.1 C]++(i.drop (f+1)).map Prod.fst:=by rw[ft _ _ (by omega),bb,dU,ak];rfl
       rw[s]at hv;exact hv
      ·rw[d2.o,d3.o.2];cases r2<;>simp[Except.map]
     have kb:(gC C).size=C.length:=um C;refine on 13 e λZ F=>?_;go_simp;refine HC.o.mono ?_;rintro s l ⟨x,rfl⟩;have S:=g0.o #[] l x;have zs:l.cell? ⟨c,f*7+3,none⟩=some (.string (gC (gz.text (α:=VT 11) a.1))):=(x.cell (p:=⟨c,f*7+3,none⟩) (by show c<m.heap.size;omega)).trans QS.o.1;have zz:l.frozen? ⟨c,f*7+3,none⟩=false:=(x.frozen (p:=⟨c,f*7+3,none⟩) (by show c<m.heap.size;omega)).trans QS.o.2;have gf:=gv (gc.o _ x);have z0:=S.1;refine F.o _ _ S (λK L=>?_);clear e g F Z;have e:=K;have g:=L;clear K L
     (try simp only[gB])
     refine on 14 e λZ F=>?_;go_simp;refine F.o _ _ S (λK L=>?_);clear e g F Z;have e:=K;have g:=L;clear K L
     (try simp only[gB])
     refine on 15 e λZ F=>?_;go_simp;refine F.o _ _ S (λK L=>?_);clear e g F Z;have e:=K;have g:=L;clear K L
     (try simp only[gB])
     refine on 16 e λZ F=>?_;go_simp;refine F.o _ _ ⟨(World.cell?_of_block (w:=l) (jL _ (by show j.heap.size≠c;omega))).trans S.1,(World.cell?_of_block (w:=l) (jL _ (by show w.heap.size+1≠c;omega))).trans S.2.1,(World.cell?_of_block (w:=l) (jL _ (by show o≠c;exact ev))).trans S.2.2.1,(World.cell?_of_block (w:=l) (jL _ (by show wr.heap.size≠c;omega))).trans S.2.2.2⟩ (λK L=>?_);clear e g F Z;have e:=K;have g:=L;clear K L
     (try simp only[gB])
     refine mI (by kernel_rfl) ?_ _;clear e g;have y0:(l.setCell ⟨c,f*7+3,none⟩ (.string (gC C))).cell? ⟨j.heap.size,0,none⟩=some (.slice (some ⟨c,0,none⟩) n q):=(World.cell?_of_block (w:=l) (jL _ (by show j.heap.size≠c;omega))).trans z0;have y3:(l.setCell ⟨c,f*7+3,none⟩ (.string (gC C))).cell? ⟨c,f*7+3,none⟩=some (.string (gC C)):=World.cell?_setCell_same' _ _ _ (by rw[zs];rfl);generalize ib:l.setCell ⟨c,f*7+3,none⟩ (.string (gC C))=w8 at *;clear ib z0 zs zz x S HC;go_wp2;go_roundw
     case rel=>exact⟨f+1,X-C.length,by omega,by first | rfl | (congr 1),by congr 1;omega,gf⟩
     case measure=>simp[intOf];omega
    ·have HC:=gv (bv.o _ ht);have gm:Hid (O=.error nn):=by unfold Hid;rw[d2.o,ac];rfl
     clear ht ac bv;refine on 13 e λZ F=>?_;go_simp;refine HC.o.mono ?_;rintro s l ⟨x,rfl⟩;exact⟨rfl,.no_ (fz.o _ x) gm.o⟩
end
section
variable{w:World}
def uw(w:World)(g:Except Nat (List (VT 12)))(h:Int)(a:Ending)(c:World):Prop:=
 Below w.heap.size w c/\match g with
  | .ok d=>∃b,a=.returned (.tuple #[.agg #[b,.int .i64 h],.int .i64 0])/\kK (λe=>w.heap.size<=e) 12 w.heap.size d c b
  | .error f=>a=.returned (.tuple #[.agg #[.slice none 0 0,.int .i64 0],.int .i64 (f:Nat)])
theorem Ks(i:Nat)(k:Option Addr)(a e:Nat)(h:Nat){v:Int}(C:h<=1000000)(B:e<=200000)
  (u:∀c:World,Below w.heap.size w c->Calls Tryz.prog 66 #[.slice k e a,.int .i64 h] c (xU c (.error i) v)) :
  Calls Tryz.prog 25 #[.slice k e a,.int .i64 h] w (uw w (.error i) v):=by
 have D:∀(t:Fn) (first a:Array Value) (w:World),(Instr.makeFunc t first a).run Tryz.prog w=.ok (.func t first a) w:=λ_ _ _ _=>rfl;have d:Below w.heap.size w ((w.alloc (.cells #[.slice none 0 0,.int .i64 0] 31)).alloc (.cells #[.int .i64 0] 58)):=((aj _ _).alloc (af _) _).alloc (by simp) _;have z:=gv (u _ d);have y:=gv d;clear u d;go_enter_defers Tryz.func25,Tryz.ntmps25;go_wp2_with (go_at_call 63;refine(pG _ _ _ _ (by omega) (by omega)).mono ?_;rintro p F ⟨rfl,rfl⟩);refine z.o.mono ?_;rintro p j ⟨g,rfl⟩;have b:j.heap[w.heap.size]?=some (.cells #[.slice none 0 0,.int .i64 0] 31 (0,0)):=by rw[g.block _ (by simp;omega)];exact l9 _ (jd _ _)
 have x:j.heap[w.heap.size+1]?=some (.cells #[.int .i64 0] 58 (0,0)):=by rw[g.block _ (by simp)];have:=jd (w.alloc (.cells #[.slice none 0 0,.int .i64 0] 31)) (.cells #[.int .i64 0] 58);rw[bM]at this;exact this
 have l:=mb b;have m:=oB b;have n:=mb x;have q:=ix 0 b;have r:=ix 1 b;have s:=ix 0 x;refine leaves_cons (f:= 64) (args:=#[.pointer (some ⟨w.heap.size,0,none⟩),.pointer (some ⟨w.heap.size+1,0,none⟩)]) (by simp) (by simp[go_sem]) ?_;refine(rp w.heap.size (i:Nat) [] _ _ _ _ l m n q r s).mono ?_;rintro p E G ⟨rfl,rfl,rfl⟩;simp[Leaves,settle,results,Tryz.results25,go_sem,l,m,n,q,r,s];have A:Below w.heap.size w j:=y.o.trans (g.mono (by simp;omega));exact⟨((A.setCell (by simp) _).setCell (by simp) _).setCell (by simp) _,rfl⟩
theorem DI{p:Nat->Nat->List Nat->Except Nat (List Nat)->Prop}{q:World->Prop}(r:tJ p q)(A:q w){d:Option Addr}{f most:Nat}{a:List Nat}{j:List (VT 12 × List Nat)}{i:Int}{m:Except Nat (List (VT 12))}(E:lD w.heap.size w)(C:nA w w.heap.size d a)(v:∀l,l<a.length->nth a l<256)(len:a.length<=200000)(K:a.length<=f/\f<=9223372036854775807)(u:∃e h,d=some ⟨e,h,none⟩/\e<w.heap.size)
  (n:most<=1000000) (D:iM a=some (j,i)) (I:kn (j.map Prod.fst) i=true) (F:∀o∈j,∃y:List nU,gz.filters (α:=VT 11) o.1=y.map λM=>M.1) (J:∀o∈j,∀b∈o.2,b<256) (B:UA p j most m) :
  Calls Tryz.prog 25 #[.slice d a.length f,.int .i64 (most:Nat)] w (uw w m i):=by
 have s:∀g:World,Below w.heap.size w g->Calls Tryz.prog 66 #[.slice d a.length f,.int .i64 (most:Nat)] g (xU g m i):=λg b=>by
  have c:lD w.heap.size g:=E.only (bs:=w.heap.size) (af _) (af _) (.of_below b);have k:=b.size;refine J8 r (r.keep _ _ A b) ⟨⟨c.err.syn,c.err.rng,c.err.mx,aC c.err.ls k,aC c.err.lr k,aC c.err.lm k⟩,c.pow,aC c.lp k⟩ (λl H=>?_) v len K ?_ n D I F J B
  ·obtain⟨e,h,e1,e2,x⟩:=C.other (λz G=>b.block z G) l H;exact⟨e,h,e1,by omega,x⟩
  ·obtain⟨e,h,e1,e2⟩:=u;exact⟨e,h,e1,by omega⟩
 cases m with
 |error L=>exact Ks L d f a.length most n len s
 |ok t=>exact Gk d f a.length most n len t i s
end
section
variable{w a:World}
def GP(f:Nat->List Nat->List Nat->Prop)(c:List (VT 12))(root:Int)(w:World)(d:Ending)(a:World):Prop:=
 Below w.heap.size w a /\
 ((kn c root=false/\d=.returned (.tuple #[.slice none 0 0,.int .i64 2])) \/
  (kn c root=true/\∃b,lR f 9 c b /\
  ((b.length=c.length/\(jf b root).length<=200000/\∃e,d=.returned (.tuple #[e,.int .i64 0])/\a.ownsRow w.heap.size 5 1 e (jf b root).length (l_ (jf b root))) \/
   (d=.returned (.tuple #[.slice none 0 0,.int .i64 3])/\((b.length=c.length/\200000<(jf b root).length)\/200000<(iq++gK b 1).length)))))
theorem LX{B r:Nat}{A:Nat->List Nat->List Nat->Prop}(F:rC A r)(ac:r<=1000000)(J:lD B w)(G:B<=w.heap.size){Z:Nat->Prop}{b:List (VT 12)}{R:Value}{root:Int}(g:kK Z 12 0 b w R)(hF:∀y∈b,ph y)(hl:b.length<=200000)(L:kn b root=true->∀y∈b,qy r 9 y) :
  Calls Tryz.prog 24 #[.agg #[R,.int .i64 root]] w (GP A b root w):=by
 obtain⟨O,P,rfl⟩:=g.len;obtain⟨k,v⟩:∃k,b.length=k:=⟨_,rfl⟩;have HN:=gv v;rw[v]at g ⊢;have s:Below w.heap.size w (w.alloc (.cells #[.slice O k P,.int .i64 root] 31)):=(aj _ _).alloc (af _) _;have x:=jd w (.cells #[.slice O k P,.int .i64 root] 31);have M:=g.keep s;have p:=gv (uQ (root:=root) M hF hl);have Y:=gv g;have W:=gv L;have U:=gv F;have V:=gv J;have S:=gv s;clear g L F J s M v;go_enter Tryz.func24,Tryz.ntmps24;go_wp2_with fail;refine p.o.mono ?_;rintro t w1 ⟨rfl,l⟩;have n:=(l.block w.heap.size (by simp)).trans x;have c0:=mb n;have c1:=oB n;have c:=S.o.trans (l.mono (by simp));cases d:kn b root with
 |false =>
  have f:=gv c;have i:=gv d;clear l x n d c p;go_wp2
  go_ret2
  exact⟨f.o,Or.inl ⟨i.o,rfl⟩⟩
 |true =>
  have hb:1<=b.length/\b.length<=100/\1<=root/\root<=(b.length:Int):=by unfold kn at d;simp only[dX,cQ]at d;omega
  have D:=gv (Ez (j:=9) (root:=root) U.o ac (V.o.low (c.mono G)) (aD G c.size) (Y.o.keep c) (by omega) (by omega) (W.o d) (by omega));have f:=gv c;have i:=gv d;clear l x n d c p hb;go_wp2_with fail;refine D.o.mono ?_;rintro t w2 ⟨ao,Q,N,rfl,m,E,H,I⟩;obtain⟨va,vc,hv⟩:=i_ m;subst hv;have ad:Q.length<=9223372036854775807:=yZ m;have X:=gv m;have z:=gv (f.o.trans (E.mono f.o.size));have T:=f.o.size;have h:=gv (And.intro H I);obtain⟨q,u⟩:∃q,q=Q.length:=⟨_,rfl⟩;have C:=gv u;rw[<-u]at ad ⊢;clear m E H I u D c0 c1;by_cases al:q<=200000
  ·go_wp2_with (go_at_call 63;refine(pG _ _ _ _ (by omega) (by omega)).mono ?_;rintro t a ⟨rfl,rfl⟩)
   go_ret2
   refine⟨z.o,Or.inr ⟨i.o,N,h.o.1,Or.inl ?_⟩⟩;have K:=C.o;rcases h.o.2 with⟨e,rfl⟩ | ⟨e,_⟩
   ·refine⟨e,by omega,_,rfl,?_⟩;rw[K];exact zX X.o T
   ·omega
  ·go_wp2_with (go_at_call 63;refine(sF _ _ _ _ (by omega)).mono ?_;rintro t a ⟨rfl,rfl⟩)
   go_ret2
   refine⟨z.o,Or.inr ⟨i.o,N,h.o.1,Or.inr ⟨rfl,?_⟩⟩⟩;have K:=C.o;rcases h.o.2 with⟨e,rfl⟩ | ⟨e,rfl⟩;·exact Or.inl ⟨e,by omega⟩
   ·exact Or.inr e
end
section
variable{w a W:World}
theorem lD.wideM(d:lD w.heap.size w)(b:Below w.heap.size w a):lD a.heap.size a:=by have c:=d.low b;have:=b.size;exact⟨⟨c.err.syn,c.err.rng,c.err.mx,by have:=c.err.ls;omega,by have:=c.err.lr;omega,by have:=c.err.lm;omega⟩,c.pow,by have:=c.lp;omega⟩
structure rM(W:World)(g c:Nat)(b:List Nat):Prop where
 lt:g<W.heap.size
 cell:∀i,i<b.length->W.cell? ⟨g,0+i,none⟩=some (.int .u8 (nth b i:Nat))
 c1:b.length<=c
 c2:c<=9223372036854775807
theorem rM.below{d e:Nat}{b:List Nat}(c:rM W d e b)(k:Below W.heap.size W a):rM a d e b:=
 ⟨aC c.lt k.size,λf g=>(k.cell (p:=⟨d,0+f,none⟩) c.lt).trans (c.cell f g),c.c1,c.c2⟩
theorem rM.take{f e:Nat}{b:List Nat}(c:rM W f e b)(h:Nat):rM W f e (b.take h):=
 ⟨c.lt,λd i=>by
  have g:d<h/\d<b.length:=by rw[ax]at i;omega
  rw[c.cell d g.2];simp[nth,cR,g.1],by have:=c.c1;simp;omega,c.c2⟩
theorem Dl{B d:Nat}{g:Value}{b:List Nat}(j:W.ownsRow B 5 1 g d (l_ b))(m:d=b.length)(r:0<b.length):∃c e,g=.slice (some ⟨c,0,none⟩) d e/\rM W c e b:=by
 subst m;rcases j.2 with⟨_,s⟩ | ⟨c,h,q,i,_,f,n,k,t,o⟩;·omega
 ·exact⟨c,h,i,ae f,λp l=>F6 f (by simpa using o) p l,n,k⟩
theorem Gz{b:List Nat}(e:gy b):∀c,c<b.length->nth b c<256:=λc d=>by
 have:nth b c=b[c]:=by simp[nth,ai d]
 rw[this];exact e _ (df d)
theorem F2{e g f:Nat}{b:List Nat}{i:List (VT 12)}{h:List (VT 12 × List Nat)}{res:Except Nat (List (VT 12))}(c:xg i b h)(k:lD W.heap.size W)(d:rM W e g b)(m:f<=1000000)(j:UA FD h f res) :
  Calls Tryz.prog 25 #[.slice (some ⟨e,0,none⟩) b.length g,.int .i64 (f:Nat)] W (uw W res ((1:Nat):Int)):=
 DI Aw trivial k (λn l=>⟨e,0,rfl,d.lt,d.cell n l⟩) (Gz c.byt) (by have:=c.len;omega) ⟨d.c1,d.c2⟩ ⟨e,0,rfl,d.lt⟩ m c.doc c.isd c.fil c.pb j
theorem mn{d e most:Nat}{b:List Nat}(g:iM b=none)(k:gy b)(n:b.length<=200000)(l:lD W.heap.size W)(c:rM W d e b)(o:most<=1000000) :
  Calls Tryz.prog 25 #[.slice (some ⟨d,0,none⟩) b.length e,.int .i64 (most:Nat)] W λf a=>f=.returned (.tuple #[.agg #[.slice none 0 0,.int .i64 0],.int .i64 4])/\Below W.heap.size W a:=by
 have p:kU b=none:=by unfold kU;rw[g]
 have:=Kr (w:=W) (most:=most) o l (λq m=>⟨d,0,rfl,c.lt,c.cell q m⟩) (Gz k) n ⟨c.c1,c.c2⟩ ⟨d,0,rfl,c.lt⟩ (λr h=>by rw[g]at h;cases h);rw[p]at this;exact this.mono λf a ⟨i,j⟩=>⟨j,i⟩
end
end Go.Proofs.YtgkljcmjnphpeaaGreatDoor
