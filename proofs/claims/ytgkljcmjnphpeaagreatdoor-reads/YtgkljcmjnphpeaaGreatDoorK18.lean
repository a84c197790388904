import Derived.Test.YtgkljcmjnphpeaaGreatDoorK17
import Derived.Lib.SlBytesConst
import Derived.Test.YtgkljcmjnphpeaaGreatDoorRows
import Derived.ProofKit
import Derived.LaidMore
import Derived.OpenShut
import Derived.Stop.LaidErr
import Derived.Lib.LaidTab
import Derived.Shelf.Vars
import Derived.Test.YtgkljcmjnphpeaaGreatDoorCards
import Derived.SevenTiedAt
set_option linter.defProp false
set_option linter.unusedVariables false
set_option linter.unusedSimpArgs false
set_option maxHeartbeats 8000000
set_option maxRecDepth 100000
open List renaming length->G
open Go renaming Value->GI,World->Gr,Calls->K8,Addr->L2,Ending->MB
open Go.Value renaming int->I,pointer->M2,string->MV,agg->N1,bool->OV,tuple->OW,slice->Z
open Go.RowKit renaming Hid->L1,Below->LT
open Option renaming none->N,some->O
open Bool renaming false->P2,true->PV
open Or renaming inl->P3,inr->P4
open Go.Obj renaming cells->Pp
open Go.Ending renaming returned->Ps
open Go.Proofs.Tryz renaming prog->Qe
open Go.IntKind renaming i64->U
open Go.Proofs.Tryz
namespace Go.Proofs.YtgkljcmjnphpeaaGreatDoor
open Go.RowKit
section
variable{w d:Gr}
def LL{a:List Nat}{f:List tV}{b:Nat}{h:Option L2}{i:Nat}(e:a=f.map λg=>g.1)(p:w.ownsRow b 3 1 (Z h (G a) i) (G a) (a.map λm:Nat=>I U m)):ox w.heap.size w (Z h (G a) i) f:=by
 rcases p.2 with⟨h1,h2⟩|⟨n,c,q,e1,e2,j,t,s,u,o⟩
 ·refine P3 ⟨h1,?_⟩;have h3:(f.map λg=>g.1).length=0:=by rw[<-e];exact h2
  simpa using h3
 ·refine P4 ⟨n,c,?_,ae j,λl k=>?_⟩;·rw[e1,e,aw]
  ·rw[iI j,<-ei];have r:l<G a:=by rw[e,aw];exact k
   rw[<-c_ (show l<G a*1 by omega),o,e,aY,aY,af k];simp
def ox.mono'{a:Gr}{e b:Nat}{g:GI}{f:List tV}(h:ox e a g f)(k:e<=b):ox b a g f:=by
 rcases h with h|⟨j,c,i,m,l⟩;·exact P3 h
 ·exact P4 ⟨j,c,i,aQ m k,l⟩
def RS(f g i h j:Nat)(c e k b:GI)(_:Array Bool)(a:Gr):Prop:=a.cell? ⟨f,0,N⟩=O c/\a.cell? ⟨g,3,N⟩=O e/\a.cell? ⟨i,j,N⟩=O k/\a.cell? ⟨h,6,N⟩=O b
def xF(k:Nat->Nat->List Nat->Except Nat (List Nat)->Prop)(j:List (VT 12×List Nat))(l:Except Nat (List (VT 12)))(o c h i b:Nat)(n:Gr)(m g:Nat)(e:Gr):Prop:=
 ∃(a:List (VT 12)) (r:Except Nat (List (VT 12))),G a=m/\g<=1000000/\kG (λf=>b<=f/\(Z (O ⟨c,0,N⟩) h i).ownBlock≠O f) 12 b (a++(j.drop m).map Prod.fst) e (Z (O ⟨c,0,N⟩) h i)/\mh k (j.drop m) g r/\l=r.map (a ++ ·)/\gB c n e
def Ge{ac:Nat->Nat->List Nat->Except Nat (List Nat)->Prop}{dw:Gr->Prop}(g:uX ac dw)(hQ:dw w){K:Option L2}{L bo:Nat}{x:List Nat}{l:List (VT 12×List Nat)}{B:Int}{R:Except Nat (List (VT 12))}(he:qR w.heap.size w)(hd:rX w w.heap.size K x)(ga:∀q,q<G x->nth x q<256)(len:G x<=200000)(lc:G x<=L/\L<=9223372036854775807)(ad:∃bd C,K=O ⟨bd,C,N⟩/\bd<w.heap.size)
  (hm:bo<=1000000) (co:gT x=O (l,B)) (ec:jb (l.map Prod.fst) B=PV) (d5:∀a∈l,∃M:List tV,gk.filters (α:=VT 11) a.1=M.map λF=>F.1) (em:∀a∈l,∀b∈a.2,b<256) (hU:mh ac l bo R):K8 Qe 66 #[Z K (G x) L,I U (bo:Nat)] w (yY w R B):=by
 have b2:LT w.heap.size w ((w.alloc (Pp #[Z N 0 0,I U 0] 31)).alloc (Pp #[Z K (G x) L,I U 0,Z N 0 0,Z N 0 0,Z N 0 0] 131)):=((aq _ _).alloc (ag _) _).alloc eA _;have g9:((w.alloc (Pp #[Z N 0 0,I U 0] 31)).alloc (Pp #[Z K (G x) L,I U 0,Z N 0 0,Z N 0 0,Z N 0 0] 131)).heap.size=w.heap.size+2:=eA;have cx:((w.alloc (Pp #[Z N 0 0,I U 0] 31)).alloc (Pp #[Z K (G x) L,I U 0,Z N 0 0,Z N 0 0,Z N 0 0] 131)).heap[w.heap.size]?=O (Pp #[Z N 0 0,I U 0] 31 (0,0)):=mA _ (bn _ _);have c0:((w.alloc (Pp #[Z N 0 0,I U 0] 31)).alloc (Pp #[Z K (G x) L,I U 0,Z N 0 0,Z N 0 0,Z N 0 0] 131)).heap[w.heap.size+1]?=O (Pp #[Z K (G x) L,I U 0,Z N 0 0,Z N 0 0,Z N 0 0] 131 (0,0)):=by have:=bn (w.alloc (Pp #[Z N 0 0,I U 0] 31)) (Pp #[Z K (G x) L,I U 0,Z N 0 0,Z N 0 0,Z N 0 0] 131);rw[aL]at this;exact this
 obtain⟨P,cw⟩:∃P,(w.alloc (Pp #[Z N 0 0,I U 0] 31)).alloc (Pp #[Z K (G x) L,I U 0,Z N 0 0,Z N 0 0,Z N 0 0] 131)=P:=⟨_,rfl⟩;rw[cw]at b2 g9 cx c0;have ep:Sc w.heap.size (w.heap.size+1) K L x (Z N 0 0) (Z N 0 0) (Z N 0 0) P x:=
  ⟨fX _,by rw[c0,dN];rfl,hd.other (λj A=>b2.block j A),ga,len,lc,ag _,by rw[dN];rfl,ad⟩
 have d4:=he.only (bs:=w.heap.size+1) (fX _) (ag _) (.of_below b2);have HD:=H (IG d4 ep);have f5:=H cw;have cb:=H cx;have c7:=H (λhj (hz:gT x=O hj)=>n7 hz len);have c5:=H g;have e9:=H d5;have HU:=H hU;have fv:=H em;have HQ:=H hQ;have c9:=H ec;have ey:L1 (∀al:Gr,gB (w.heap.size+1) P al->LT w.heap.size w al):=λal C=>⟨C.os.t b2.os,C.tape.t b2.tape,C.output.t b2.output,by have:=C.size;omega,λj A=>(C.block j Y Y).t (b2.block j A)⟩;have d7:=c7.o _ co;rw[co]at HD;clear hd lc ad he ep g hQ d5 hU em ec c7 co d4 b2 cx c0 cw
 go_in
 go_wp2_with fail;rw[f5.o];apply HD.o.m;rintro u t ⟨ov,pv,lv,vs,ps,ib,ic,rfl,h3⟩;have H3:=H h3;have cj:=ey.o _ h3.only;obtain⟨oa,s,bf⟩:=jp h3.oo;have cv:G vs=(l.map Prod.fst).length:=h3.len;rw[cv]at bf;obtain⟨m,hn⟩:∃m,(l.map Prod.fst).length=m:=⟨_,rfl⟩;rw[hn]at bf;have g1:m<=200000:=by rw[<-hn,aw];exact d7.1
 have dr:L1 (kG (λj=>P.heap.size<=j/\ov.ownBlock≠O j) 12 P.heap.size (l.map Prod.fst) t ov):=⟨vs,h3.oo,h3.len,λq a F hx W=>gF.m 12 (h3.ch q a F hx W) (λj A _=>⟨A.1,A.2.1⟩)⟩;have hg3:=λj A=>(h3.oo.lt j A).2;have ck:=h3.sc.blk;have cp:=h3.op;have db:=H h3.pk;have g5:G ps=(l.map Prod.snd).length:=h3.plen;have c6:L1 (∀F∈l.map Prod.fst,qv F):=λF W=>by obtain⟨a,hx,rfl⟩:=cT.1 W;exact d7.2 a hx
 have eu:t.heap[w.heap.size]?=O (Pp #[Z N 0 0,I U 0] 31 (0,0)):=by rw[h3.only.block _ (ae cb.o) Y];exact cb
 have h5:=h3.only.size;have hs:1<=m:=by have h:=c9.o;unfold jb at h;simp only[bN,bT]at h;omega
 have g2:∃e,oa=O ⟨e,0,N⟩:=by
  rcases h3.oo.2 with⟨_,h0⟩|⟨j,_,_,u,_⟩;·rw[cv,hn]at h0;omega
  ·rw[bf]at u;cases u;exact⟨j,rfl⟩
 obtain⟨e,gr⟩:=g2;rw[gr]at bf;subst bf;obtain⟨pa,pc,g7⟩:=jp cp;subst g7;have hq:=hg3 e rfl;have el:=hn;clear hg3;have HN:=H hn;have b4:LT t.heap.size t (t.alloc (Pp #[Z (O ⟨e,0,N⟩) m s,I U B] 31)):=(aq _ _).alloc (ag _) _;have b6:(t.alloc (Pp #[Z (O ⟨e,0,N⟩) m s,I U B] 31)).heap[t.heap.size]?=O (Pp #[Z (O ⟨e,0,N⟩) m s,I U B] 31 (0,0)):=bn _ _;have cy:(t.alloc (Pp #[Z (O ⟨e,0,N⟩) m s,I U B] 31)).heap[w.heap.size]?=O (Pp #[Z N 0 0,I U 0] 31 (0,0)):=mA _ eu;have ba:=H (cj.t (b4.m cj.size));have bv:=H (dr.keep b4);have bt:=H (yC (root:=B) bv.base c6 (by rw[HN.o];exact g1));obtain⟨w4,bi⟩:∃w4,t.alloc (Pp #[Z (O ⟨e,0,N⟩) m s,I U B] 31)=w4:=⟨_,rfl⟩;rw[bi]at b6 cy ba bv bt;have f6:=H bi;have dv:=H b6;have cc:=H cy;have eo:=ae b6;rw[c9.o]at bt;have cl:=(b4.block _ (ae ck)).t ck;have cr:=wV cp b4;rw[bi]at cl cr;have b9:=H cl;have da:=H cr;have dc:L1 (∀(q:Nat) (D:GI) (a9:List Nat),ps[q]?=O D->(l.map Prod.snd)[q]?=O a9->nQ w4 w.heap.size a9 D):=λq D a9 h1 h2=>by rw[<-bi];exact(db q D a9 h1 h2).keep (λj A=>b4.block j Y)
 clear h3 H3 cj cv hn eu HD dr b4 b6 cy bi cb ck cp db cl cr;go_wp2_with fail;try rw[f6.o]
 apply bt.o.m;rintro u S ⟨rfl,b5⟩;have B5:=H (ba.t (b5.m ba.size));have ca:=H (bv.keep b5);have cd:L1 (S.heap[t.heap.size]?=O (Pp #[(Z (O ⟨e,0,N⟩) m s),I U B] 31 (0,0))):=by unfold Hid;rw[b5.block _ eo];exact dv
 have ds:=H ((b5.block _ (ae cc)).t cc);have c4:=H ((b5.block _ (ae b9)).t b9);have fu:=H (wV da b5);have fw:=H (λq D a9 h1 h2=>(dc q D a9 h1 h2).keep (λj A=>b5.block j (by have:=ba.o.size;omega)));have ha:=ae cd;have HG:L1 (P.heap.size<=e/\e<S.heap.size):=by obtain⟨_,k1,_⟩:=ca.o;exact k1.lt e rfl
 have hr:=HG.o;clear b5 bt ba bv dv cc eo b9 da dc;go_wp2_with fail;apply(oe _).m;rintro u d ⟨rfl,hw⟩;have hw:=hw.s;subst hw;have d0:=mC cd;have fb:L1 (xF ac l R w.heap.size e m s P.heap.size S 0 bo S):=⟨[],R,rfl,hm,by simpa using ca.o,HU,by cases R<;>rfl,gB.refl _ _⟩;go_wp2;go_loopw [1,21] (λmv q wr=>∃(f X:Nat),f<=m/\q=I U f/\mv=I U (X:Nat)/\L1 (xF ac l R w.heap.size e m s P.heap.size S f X wr)) (λ_ q _=>m-(intOf q).toNat)
 case atStart=>exact⟨0,bo,aH _,rfl,rfl,fb⟩
 case round=>
  obtain⟨f,X,b0,rfl,rfl,HS⟩:=hrel;obtain⟨dn,r,bc,ek,Q,bb,a6,z⟩:=HS.o;have E:=B5.o.t ⟨z.os,z.tape,z.output,z.size,λk hk=>z.block k (by have:=B5.o.size;omega) Y⟩;have a3:wr.heap[t.heap.size]?=O (Pp #[(Z (O ⟨e,0,N⟩) m s),I U B] 31 (0,0)):=by rw[z.block _ ha Y];exact cd
  rcases aV b0 with b0|b0
  ·subst b0;have a5:l.drop f=[]:=bS (by rw[aw]at el;omega);rw[a5]at bb Q;have ct:r=.ok []:=bb;subst ct;have fz:L1 (R=.ok dn):=by unfold Hid;rw[a6];show Except.ok (dn++[])=_;rw[cF]
   simp only[dY,cF]at Q;have a8:=(z.block _ (ae ds) Y).t ds;have v0:=mC a3;have v1:=n5 a3;have r0:=mC a8;have r1:=n5 a8;have f0:=jR 0 a8;have f1:=jR 1 a8;have f7:=H a8;have bx:=H Q;have BW:=H E;clear a3 a8 Q bb a6 z E a5;go_wp2;have hf:=pj f7 (Z (O ⟨e,0,N⟩) f s) (I U B);have ho:gB w.heap.size wr ((wr.setCell ⟨w.heap.size,0,N⟩ (Z (O ⟨e,0,N⟩) f s)).setCell ⟨w.heap.size,1,N⟩ (I U B)):=((gB.refl _ wr).setCell 0 _).setCell 1 _;refine av (v:=N1 #[(Z (O ⟨e,0,N⟩) f s),I U B]) ?_ rfl ?_;·exact aE results66 _ _ w.heap.size 31 _ _ _ rfl hf cM rfl aG
   have E:=BW.o;refine .ok_ ⟨ho.os.t E.os,ho.tape.t E.tape,ho.output.t E.output,aA E.size ho.size,λj A=>(ho.block j (by have:=E.size;omega) Y).t (E.block j A)⟩ fz ?_;obtain⟨ys,k1,k2,k3⟩:=bx.o;refine⟨ys,?_,k2,λq a F hx W=>gF.m 12 (gF.keep 12 (k3 q a F hx W) (λj A gl=>ho.block j gl Y)) (λj A _=>Y)⟩;obtain⟨j1,j2⟩:=k1;refine⟨j1,?_⟩;rcases j2 with j2|⟨j,c,ce,e1,e2,T,hc⟩;·exact P3 j2
   ·exact P4 ⟨j,c,ce,e1,Y,by rw[ho.block j (ae T) Y];exact T,hc⟩
  ·have b1:f<G l:=by rw[aw]at el;omega
   obtain⟨a,bm⟩:∃a,l[f]?=O a:=⟨_,af b1⟩;have a5:l.drop f=a::l.drop (f+1):=by rw[aW b1];rw[af b1]at bm;cases bm;rfl
   have c1:=cI bm;rw[a5]at bb Q;have W:(dn++(a::l.drop (f+1)).map Prod.fst)[f]?=O a.1:=by rw[aF Y,bc,dN];rfl
   obtain⟨j,c,hl,ea,_,_,c3,V⟩:=Q.at W;have gs:e=j/\s=c:=by cases ea;exact⟨rfl,rfl⟩
   clear ea;obtain⟨rfl,rfl⟩:=gs;obtain⟨ja,jc,ka,kc,fa,fc,gc,eq,es,cu⟩:=gF.split (k:=11) c3;subst gc;have e0:wr.cell? ⟨e,f*7,N⟩=O (I U (gk.kind (α:=VT 11) a.1:Int)):=V 0 _ rfl;have e1:=V 1 _ rfl;have e2:=V 2 _ rfl;have e3:=V 3 _ rfl;have e4:=V 4 _ rfl;have e5:=V 5 _ rfl;have e6:=V 6 _ rfl;have hp:=mC a3;generalize b8:(gk.kind (α:=VT 11) a.1:Int)=ky at *;rcases bb with⟨ee,r2,b3,a7⟩|⟨ee,gd⟩
   ·have t8:(ky==8)=P2:=by rw[<-b8];simp;omega
    have fi:L1 (∀C:Obj,xF ac l R w.heap.size e m s P.heap.size S (f+1) X (wr.alloc C)):=λC=>by
     refine⟨dn++[a.1],r2,by rw[ak,bc];rfl,ek,?_,b3,?_,z.t (.of_below ((aq _ _).alloc (ag _) C))⟩
     ·have:=Q.keep ((aq _ _).alloc (ag _) C);simpa using this
     ·rw[a6,a7];cases r2<;>simp[Except.map]
    clear c3 V W Q b3 a7 a6 eq es cu z E b8 a5 bm a3;go_wp2;go_roundw
    case rel=>exact⟨f+1,X,Y,by first|rfl|(congr 1),rfl,fi _⟩
    case measure=>simp[intOf];omega
   ·have t8:(ky==8)=PV:=by rw[<-b8,ee];rfl
    obtain⟨M,bz⟩:=e9.o a c1;have g6:f<G ps:=by rw[g5,aw];exact b1
    obtain⟨pp,cs⟩:∃pp,ps[f]?=O pp:=⟨_,af g6⟩;have en:=(fw f pp a.2 cs (by rw[aY,bm];rfl)).keep (w':=wr) (λj A=>z.block j (by have:=B5.o.size;omega) Y);have cn:rW wr pp a.2:=by
     refine⟨?_,fv a c1⟩;rcases en with⟨h1,h2⟩|⟨bd,C,c,u,h1,h2,h3,h4⟩;·rw[h1];exact⟨N,0,h2,λq hi=>absurd hi eA,ag _,Y,λ_=>rfl⟩
     ·exact⟨_,c,u,λq hi=>⟨bd,C,rfl,by have:=E.size;omega,h4 q hi⟩,h2,h3,λh=>by cases h⟩
    obtain⟨qa,qc,g4,_⟩:=cn.sl;subst g4;have gt:∃o,pa=O ⟨o,0,N⟩/\o≠e/\o<S.heap.size/\S.cell? ⟨o,f,N⟩=O (Z qa a.2.length qc):=by
     rcases fu.o.2 with⟨_,h0⟩|⟨o,c',ce,u,_,T,_,_,_,hb⟩;·omega
     ·cases u;refine⟨o,rfl,?_,ae T,?_⟩
      ·rintro rfl;obtain⟨_,k1,_⟩:=ca.o;obtain⟨_,c2,f2,d3⟩:=tN k1 o rfl;rw[T]at d3;simp at d3
      ·rw[iI T,<-ei,<-c_ (show f<G ps*1 by omega),hb];exact cs
    obtain⟨o,rfl,eb,gv,g0⟩:=gt;have g3:=(World.cell?_of_block (w:=S) (z.block o gv eb)).t g0;have d2:=(z.block _ (ae c4) Y).t c4;have cg:=LL bz cu;have d6:(gk.filters (α:=VT 11) a.1).length=G M:=by rw[bz,aw]
    rw[d6]at cg;have gf:G M<=1000000:=by have h:=(c6 a.1 (List.mem_map_of_mem c1)).2.2.1;rw[<-d6];have h2:(gk.filters (α:=VT 11) a.1).length<=200000:=h;omega
    have f8:=H a3;have ex:=H d2;have c8:=H z;have bx:=H Q;have e8:=H cg;have e7:=H cn;have dk:=H a6;have br:=H E;have fd:=H bz;clear c3 V W a5 a3 eq es cu cs en b8 d2 z Q cg cn a6 E bz;go_wp2_with fail;have bq:LT wr.heap.size wr (wr.alloc (Pp #[I U ky,I U (gk.n (α:=VT 11) a.1),I U (gk.places (α:=VT 11) a.1:Int),MV (ge (gk.text (α:=VT 11) a.1)),Z ja (gk.items (α:=VT 11) a.1).length jc,Z ka (gk.keys (α:=VT 11) a.1).length kc,Z fa (G M) fc] 67)):=(aq _ _).alloc (ag _) _;have xq:=bn wr (Pp #[I U ky,I U (gk.n (α:=VT 11) a.1),I U (gk.places (α:=VT 11) a.1:Int),MV (ge (gk.text (α:=VT 11) a.1)),Z ja (gk.items (α:=VT 11) a.1).length jc,Z ka (gk.keys (α:=VT 11) a.1).length kc,Z fa (G M) fc] 67);generalize h9:wr.alloc (Pp #[I U ky,I U (gk.n (α:=VT 11) a.1),I U (gk.places (α:=VT 11) a.1:Int),MV (ge (gk.text (α:=VT 11) a.1)),Z ja (gk.items (α:=VT 11) a.1).length jc,Z ka (gk.keys (α:=VT 11) a.1).length kc,Z fa (G M) fc] 67)=p at *;have ia:=c8.o.size;have q0:p.cell? ⟨t.heap.size,0,N⟩=O (Z (O ⟨e,0,N⟩) m s):=by rw[iI ((bq.block _ Y).t f8.o)];rfl
    have q3:p.cell? ⟨w.heap.size+1,3,N⟩=O (Z (O ⟨o,0,N⟩) (G ps) pc):=by rw[iI ((bq.block _ Y).t ex.o)];rfl
    have qp:=(bq.cell (p:=⟨o,f,N⟩) (by show o<_;omega)).t g3;have qf:=uy xq;have qs:=(bq.cell (p:=⟨e,f*7+3,N⟩) (by show e<_;omega)).t e3;have qz:p.frozen? ⟨e,f*7+3,N⟩=P2:=by
     obtain⟨zs,k1,_⟩:=bx.o;rcases k1.2 with⟨u,_⟩|⟨g',c',ce,u,_,T,_⟩;·cases u
     ·cases u;exact nG ((bq.block _ (ae T)).t T)
    have hu:=ae xq;have dl:L1 (∀r0,mN ac (gk.filters (α:=VT 11) a.1) a.2 X r0->K8 Qe 100 #[Z fa (G M) fc,Z qa a.2.length qc,I U (X:Nat)] p.drew (vF p.drew r0)):=λr0 ct=>by have ci:=bq.drew;refine uo c5 (ox.mono' (e8.below ci) (by show _<=p.heap.size;omega)) gf (e7.below ci) ek (c5.keep w _ HQ (br.t (ci.m br.size))) ?_;rw[<-fd.o];exact ct
    have BQ:=H bq;have f3:L1 (RS t.heap.size (w.heap.size+1) o wr.heap.size f (Z (O ⟨e,0,N⟩) m s) (Z (O ⟨o,0,N⟩) (G ps) pc) (Z qa a.2.length qc) (Z fa (G M) fc) (Array.replicate 17 P2) p.drew):=⟨q0,q3,qp,qf⟩;have f4:L1 (∀(a4:Array Bool) (n:Gr),LT p.drew.heap.size p.drew n->RS t.heap.size (w.heap.size+1) o wr.heap.size f (Z (O ⟨e,0,N⟩) m s) (Z (O ⟨o,0,N⟩) (G ps) pc) (Z qa a.2.length qc) (Z fa (G M) fc) a4 n):=λa4 n y=>⟨(y.cell (p:=⟨t.heap.size,0,N⟩) (by show t.heap.size<p.heap.size;omega)).t q0,(y.cell (p:=⟨w.heap.size+1,3,N⟩) (by show w.heap.size+1<p.heap.size;omega)).t q3,(y.cell (p:=⟨o,f,N⟩) (by show o<p.heap.size;omega)).t qp,(y.cell (p:=⟨wr.heap.size,6,N⟩) (by show wr.heap.size<p.heap.size;omega)).t qf⟩;have ev:L1 (∀n:Gr,LT p.drew.heap.size p.drew n->LT w.heap.size w n):=λn y=>br.t (((BQ.drew).t (y.m (by show wr.heap.size<=p.heap.size;omega))).m br.size);have QS:=H (And.intro qs qz);refine om (RS t.heap.size (w.heap.size+1) o wr.heap.size f (Z (O ⟨e,0,N⟩) m s) (Z (O ⟨o,0,N⟩) (G ps) pc) (Z qa a.2.length qc) (Z fa (G M) fc)) aG ?_;intro g;have i:=f3.o;refine tj 0 g i λg i=>?_;refine tl 1 g i (λg i=>?_) (y:=λal hW=>by obtain⟨a4,cf,hL,a2⟩:=hW;obtain⟨s0,s3,sp,sf⟩:=a2;go_simp;try(with_reducible rfl));refine tj 2 g i λg i=>?_;refine tj 3 g i λg i=>?_;refine tl 4 g i (λg i=>?_) (y:=λal hW=>by obtain⟨a4,cf,hL,a2⟩:=hW;obtain⟨s0,s3,sp,sf⟩:=a2;go_simp;try(with_reducible rfl));refine tj 5 g i λg i=>?_;refine tj 6 g i λg i=>?_;refine tj 7 g i λg i=>?_;refine tl 8 g i (λg i=>?_) (y:=λal hW=>by obtain⟨a4,cf,hL,a2⟩:=hW;obtain⟨s0,s3,sp,sf⟩:=a2;go_simp;try(with_reducible rfl));refine tj 9 g i λg i=>?_;refine tj 10 g i λg i=>?_;refine tl 11 g i (λg i=>?_) (y:=λal hW=>by obtain⟨a4,cf,hL,a2⟩:=hW;obtain⟨s0,s3,sp,sf⟩:=a2;go_simp;try(with_reducible rfl));refine tj 12 g i λg i=>?_;rcases gd with⟨J,r2,ht,b3,a7⟩|⟨nn,ht,a7⟩
    ·have HC:=H (dl _ ht);have h7:=mN.le _ _ _ _ ht;have dp:=H (And.intro b3 a7);have fl:L1 (∀n:Gr,LT p.drew.heap.size p.drew n->xF ac l R w.heap.size e m s P.heap.size S (f+1) (X-G J) (n.setCell ⟨e,f*7+3,N⟩ (MV (ge J)))):=λn y=>by
      have d1:=BQ.o.drew.t (y.m (by show wr.heap.size<=p.heap.size;omega));refine⟨dn++[sT (k:=11) a.1 J],r2,by rw[ak,bc];rfl,Y,?_,dp.1,?_,(c8.t (.of_below d1)).setCell _ _⟩
      ·have hv:=(bx.keep d1).text (m:=f) (y:=a.1) (by rw[aF Y,bc,dN];rfl) (λg' gi u=>gi.2 (by rw[u];rfl)) J;have u:(dn++(a::l.drop (f+1)).map Prod.fst).set f (sT (k:=11) a.1 J)=dn++[sT (k:=11) a.1 J]++(l.drop (f+1)).map Prod.fst:=by rw[er _ _ Y,bc,dN,bZ];rfl
       rw[u]at hv;exact hv
      ·rw[dk.o,dp.o.2];cases r2<;>simp[Except.map]
     have h6:=ye J;refine on 13 g λK' hK=>?_;go_simp;apply HC.o.m;rintro u n ⟨y,rfl⟩;have aa:=f4.o #[] n y;have zs:=(y.cell (p:=⟨e,f*7+3,N⟩) (by show e<p.heap.size;omega)).t QS.1;have zz:=(y.frozen (p:=⟨e,f*7+3,N⟩) (by show e<p.heap.size;omega)).t QS.2;have fr:=H (fl _ y);have z0:=aa.1;refine hK _ _ aa (λa0 a1=>?_);have g:=a0;have i:=a1
     (try simp only[jd])
     refine on 14 g λK' hK=>?_;go_simp;refine hK _ _ aa (λa0 a1=>?_);have g:=a0;have i:=a1
     (try simp only[jd])
     refine on 15 g λK' hK=>?_;go_simp;refine hK _ _ aa (λa0 a1=>?_);have g:=a0;have i:=a1
     (try simp only[jd])
     refine on 16 g λK' hK=>?_;go_simp;refine hK _ _ ⟨(World.cell?_of_block (w:=n) (kW _ (by show t.heap.size≠e;omega))).t aa.1,(World.cell?_of_block (w:=n) (kW _ (by show w.heap.size+1≠e;omega))).t aa.2.1,(World.cell?_of_block (w:=n) (kW _ (by show o≠e;exact eb))).t aa.2.2.1,(World.cell?_of_block (w:=n) (kW _ (by show wr.heap.size≠e;omega))).t aa.2.2.2⟩ (λa0 a1=>?_);have g:=a0;have i:=a1
     (try simp only[jd])
     refine oh aG ?_ _;have y0:(n.setCell ⟨e,f*7+3,N⟩ (MV (ge J))).cell? ⟨t.heap.size,0,N⟩=O (Z (O ⟨e,0,N⟩) m s):=(World.cell?_of_block (w:=n) (kW _ (by show t.heap.size≠e;omega))).t z0;have y3:(n.setCell ⟨e,f*7+3,N⟩ (MV (ge J))).cell? ⟨e,f*7+3,N⟩=O (MV (ge J)):=World.cell?_setCell_same' _ _ _ (by rw[zs];rfl);generalize h8:n.setCell ⟨e,f*7+3,N⟩ (MV (ge J))=w8 at *;go_wp2;go_roundw
     case rel=>exact⟨f+1,X-G J,Y,by first|rfl|(congr 1),by congr 1;omega,fr⟩
     case measure=>simp[intOf];omega
    ·have HC:=H (dl _ ht);have fx:L1 (R=.error nn):=by unfold Hid;rw[dk.o,a7];rfl
     refine on 13 g λK' hK=>?_;go_simp;apply HC.o.m;rintro u n ⟨y,rfl⟩;exact⟨rfl,.no_ (ev _ y) fx⟩
end
section
variable{w:Gr}
def l6(w:Gr)(f:Except Nat (List (VT 12)))(g:Int)(a:MB)(c:Gr):Prop:=
 LT w.heap.size w c/\match f with
  | .ok d=>∃b,a=Ps (OW #[N1 #[b,I U g],I U 0])/\kG (λe=>w.heap.size<=e) 12 w.heap.size d c b
  | .error n=>a=Ps (OW #[N1 #[Z N 0 0,I U 0],I U (n:Nat)])
def Oe(h:Nat)(i:Option L2)(m d:Nat)(g:Nat){q:Int}(B:g<=1000000)(A:d<=200000)
  (p:∀b:Gr,LT w.heap.size w b->K8 Qe 66 #[Z i d m,I U g] b (yY b (.error h) q)):K8 Qe 25 #[Z i d m,I U g] w (l6 w (.error h) q):=by
 have c:LT w.heap.size w ((w.alloc (Pp #[Z N 0 0,I U 0] 31)).alloc (Pp #[I U 0] 58)):=((aq _ _).alloc (ag _) _).alloc eA _;have u:=H (p _ c);have t:=H c;clear p c;go_enter_defers func25,ntmps25;go_wp2_with (go_at_call 63;apply(ou _ _ _ _ Y Y).m;rintro n D ⟨rfl,rfl⟩);apply u.o.m;rintro n r ⟨e,rfl⟩;have a:r.heap[w.heap.size]?=O (Pp #[Z N 0 0,I U 0] 31 (0,0)):=by rw[e.block _ eB];exact mA _ (bn _ _)
 have s:r.heap[w.heap.size+1]?=O (Pp #[I U 0] 58 (0,0)):=by rw[e.block _ eA];have:=bn (w.alloc (Pp #[Z N 0 0,I U 0] 31)) (Pp #[I U 0] 58);rw[aL]at this;exact this
 have j:=mC a;have k:=n5 a;have l:=mC s;have x:=jR 0 a;have y:=jR 1 a;have z:=jR 0 s;refine leaves_cons (f:= 64) (args:=#[M2 (O ⟨w.heap.size,0,N⟩),M2 (O ⟨w.heap.size+1,0,N⟩)]) eA (by simp[go_sem]) ?_;apply(rp w.heap.size (h:Nat) [] _ _ _ _ j k l x y z).m;rintro n C E ⟨rfl,rfl,rfl⟩;simp[Leaves,settle,results,results25,go_sem,j,k,l];have v:=t.o.t (e.m eB);exact⟨((v.setCell eA _).setCell eA _).setCell eA _,rfl⟩
def Gg{n:Nat->Nat->List Nat->Except Nat (List Nat)->Prop}{o:Gr->Prop}(p:uX n o)(y:o w){d:Option L2}{cap most:Nat}{a:List Nat}{h:List (VT 12×List Nat)}{g:Int}{k:Except Nat (List (VT 12))}(C:qR w.heap.size w)(A:rX w w.heap.size d a)(t:∀j,j<G a->nth a j<256)(len:G a<=200000)(L:G a<=cap/\cap<=9223372036854775807)(s:∃e f,d=O ⟨e,f,N⟩/\e<w.heap.size)
  (l:most<=1000000) (B:gT a=O (h,g)) (J:jb (h.map Prod.fst) g=PV) (D:∀m∈h,∃v:List tV,gk.filters (α:=VT 11) m.1=v.map λP=>P.1) (K:∀m∈h,∀b∈m.2,b<256) (z:mh n h most k):K8 Qe 25 #[Z d (G a) cap,I U (most:Nat)] w (l6 w k g):=by
 have q:∀i:Gr,LT w.heap.size w i->K8 Qe 66 #[Z d (G a) cap,I U (most:Nat)] i (yY i k g):=λi b=>by
  have c:=C.only (bs:=w.heap.size) (ag _) (ag _) (.of_below b);have h1:=b.size;refine Ge p (p.keep _ _ y b) ⟨⟨c.err.syn,c.err.rng,c.err.mx,aQ c.err.ls h1,aQ c.err.lr h1,aQ c.err.lm h1⟩,c.pow,aQ c.lp h1⟩ (λj F=>?_) t len L ?_ l B J D K z
  ·obtain⟨e,f,e1,e2,u⟩:=A.other (λx E=>b.block x E) j F;exact⟨e,f,e1,Y,u⟩
  ·obtain⟨e,f,e1,e2⟩:=s;exact⟨e,f,e1,Y⟩
 cases k with
 |error M=>exact Oe M d cap (G a) most l len q
 |ok r=>exact JQ d cap (G a) most l len r g q
end
section
variable{w q:Gr}
def DU(b most:Nat)(a:List Nat)(c:Except Nat (List Nat)):Prop:=mB b most a c/\∀d∈a,d<256
def RT(b:List Nat)(e:Nat)(c:Except Nat (List (VT 12)))(d:Int):Prop:=(nw b/\c=.error 4)\/∃a,gT b=O (a,d)/\jb (a.map Prod.fst) d=PV/\mh DU a e c
def xE(h:List (VT 12×List Nat))(k:Except Nat (List (VT 12)))(b c i j:Nat)(l:Gr)(d g:Nat)(e:Gr):Prop:=
 ∃(a:List (VT 12)) (r:Except Nat (List (VT 12))),G a=d/\g<=1000000/\kG (λf=>b<=f/\f≠c) 12 b (a++(h.drop d).map ku) e (Z (O ⟨c,0,N⟩) i j)/\mh DU (h.drop d) g r/\k=r.map (a ++ ·)/\gB c l e
def l6.no_{a:Except Nat (List (VT 12))}{c:Int}{n:Nat}(b:LT w.heap.size w q)(h:a=.error n):l6 w a c (Ps (OW #[N1 #[Z N 0 0,I U 0],I U (n:Nat)])) q:=by subst h;exact⟨b,rfl⟩
def l6.ok_{d:Except Nat (List (VT 12))}{a:List (VT 12)}{e:Int}{c:GI}(b:LT w.heap.size w q)(h:d=.ok a)(g:kG (λf=>w.heap.size<=f) 12 w.heap.size a q c):l6 w d e (Ps (OW #[N1 #[c,I U e],I U 0])) q:=by subst h;exact⟨b,_,rfl,g⟩
def um(e:List Nat)(g:Nat)(b:Except Nat (List Nat))(f a:Nat)(tv:GI):Prop:=(a=0/\∃c:List Nat,tv=MV (ge c)/\(∀h∈c,h<256)/\G c<=1000000/\mN DU (e.drop f) c g b)\/(a≠0/\a<=100/\(∃d:ByteArray,tv=MV d/\d.size<=1000000)/\b=.error a)
def Oj(bb:ByteArray)(hS:bb.size<=200000)(aa:Nat)(hm:aa<=1000000){res:Except Nat (List (VT 12))}{root:Int}(h:RT (bl bb) aa res root):K8 Qe 49 #[MV bb,I U (aa:Nat)] w (l6 w res root):=by
 have BW:L1 (LT w.heap.size w (w.alloc (Pp #[Z N 0 0,I U 0] 31))):=(aq _ _).alloc (ag _) _;have C:L1 ((w.alloc (Pp #[Z N 0 0,I U 0] 31)).heap[w.heap.size]?=O (Pp #[Z N 0 0,I U 0] 31 (0,0))):=bn _ _;have c8:=H (JL (w:=w.alloc (Pp #[Z N 0 0,I U 0] 31)) bb hS);have q1:decide ((aa:Int)<0)=P2:=eA;have q2:decide ((1000000:Int)<(aa:Int))=P2:=eB;have q3:decide ((200000:Int)<(bb.size:Int))=P2:=eB;have cj:=H h;clear h
 go_in
 go_wp2_with fail;apply c8.o.m;rintro bz R ⟨bc,dv,ok,rfl,hr⟩;have f2:=bc.size;simp only[aL]at f2;have c4:=H (BW.t (bc.m eA));have dl:=H ((bc.block _ eA).t C);clear c8 q1 q2 q3 C BW;rcases hr with⟨rfl,eo,dp,d,c,rt,rfl⟩|⟨rfl,j,a7,ov,rfl,b6,a5,bm,bq⟩
 ·have HE:L1 (res=.error 4):=by
   rcases cj.o with⟨_,h⟩|⟨j,h1,h2,_⟩;·exact h
   ·have:=eo j root h1;rw[h2]at this;cases this
  have b2:LT R.heap.size R (R.alloc (Pp #[Z dp d c,I U rt] 31)):=(aq _ _).alloc (ag _) _;have T:L1 ((R.alloc (Pp #[Z dp d c,I U rt] 31)).heap[w.heap.size]?=O (Pp #[Z N 0 0,I U 0] 31 (0,0))):=mA _ dl;have S:=H (c4.t (b2.m Y));have r0:=mC T;have r1:=n5 T;have f0:=jR 0 T;have f1:=jR 1 T;clear eo b2 bc;go_wp2;refine av (v:=OW #[N1 #[Z N 0 0,I U 0],I U 4]) ?_ rfl ?_;·exact qD results49 _ _ w.heap.size _ rfl (run_loadVar_row _ w.heap.size 31 31 _ _ _ (pj T _ _) cM rfl aG)
  ·exact l6.no_ (n:=4) ((S.setCell eA _).setCell eA _) HE
 ·obtain⟨f,fx⟩:mh DU j aa res/\a7=root:=by
   rcases cj.o with⟨h,_⟩|⟨ys,h1,_,h3⟩;·have:=h j a7 b6;rw[a5]at this;cases this
   ·rw[h1]at b6;cases b6;exact⟨h3,rfl⟩
  subst fx;have fr:1<=G j:=by unfold jb at a5;simp only[bN,bT,aw]at a5;omega
  obtain⟨X0,d4⟩:∃X0,(j.map ku)[0]?=O X0:=⟨_,af (by rw[aw];omega)⟩;obtain⟨l,Q,z0,ep,em,fd,-,-⟩:=bq.at d4;rw[aw]at ep;subst ep;have gr:l<R.heap.size:=by obtain⟨g1,ho,_⟩:=bq;exact(ho.lt l rfl).2
  have gp:w.heap.size+1<=l:=by simpa using em
  obtain⟨n,hN⟩:∃n,G j=n:=⟨_,rfl⟩;rw[hN]at bq fr ⊢;obtain⟨P,b4⟩:∃P,R.alloc (Pp #[Z (O ⟨l,0,N⟩) n Q,I U a7] 31)=P:=⟨_,rfl⟩;have b2:LT R.heap.size R P:=by rw[<-b4];exact(aq _ _).alloc (ag _) _
  have dk:L1 (P.heap[R.heap.size]?=O (Pp #[Z (O ⟨l,0,N⟩) n Q,I U a7] 31 (0,0))):=by rw[<-b4];exact bn _ _
  have T:=H ((b2.block _ Y).t dl);have S:=H (c4.t (b2.m Y));have c9:L1 (xE j res (w.heap.size+1) l n Q P 0 aa P):=by
   refine⟨[],res,rfl,hm,?_,f,?_,gB.refl _ _⟩
   ·have h1:=bq.keep b2;simp only[aL]at h1;exact h1.m (λy h2 _=>⟨h2.1,λbz=>h2.2 (by rw[bz];rfl)⟩)
   ·cases res<;>rfl
  have db:=H b4;have HN:=H hN;have e8:=H bm;have gi:n<=100:=by unfold jb at a5;simp only[bN,bT,aw]at a5;omega
  clear bc b6 a5 bm bq f d4 b2 b4 cj em fd hN
  go_upto_region 8 with fail
  rw[db.o];clear db;go_wp2_with fail;go_loopw [1,8] (λmv iv wr=>∃e b:Nat,e<=n/\mv=I U (b:Nat)/\iv=I U e/\L1 (xE j res (w.heap.size+1) l n Q P e b wr)) (λ_ iv _=>n-(intOf iv).toNat)
  case atStart=>exact⟨0,aa,aH _,rfl,rfl,c9⟩
  clear c9
  case round=>
   obtain⟨e,b,b9,rfl,rfl,HU⟩:=hrel;obtain⟨B,f4⟩:∃B,B=wr:=⟨_,rfl⟩;subst f4;obtain⟨z,r,cu,cy,hV,a3,bo,F⟩:=HU.o;have HO:=H F;have HX:=H ((F.block _ (ae dk) Y).t dk);have C:=H ((F.block _ (ae T) Y).t T);have HB:L1 (LT w.heap.size w B):=⟨F.os.t S.o.os,F.tape.t S.tape,F.output.t S.o.output,aA S.size F.size,λy hg=>(F.block y (by have:=S.o.size;omega) Y).t (S.block y hg)⟩;have d0:=mC HX;rcases aV b9 with b9|b9
   ·have gl:¬(e:Int)<(n:Int):=Y;have hE:j.drop e=[]:=bS qq;rw[hE]at hV a3;have hr:r=.ok []:=a3;rw[hr]at bo;have ba:L1 (res=.ok z):=by unfold Hid;rw[bo];show Except.ok (z++[])=_;rw[cF]
    have HV:L1 (kG (λy=>w.heap.size+1<=y/\y≠l) 12 (w.heap.size+1) z B (Z (O ⟨l,0,N⟩) n Q)):=by have:=hV;rw[dY,cF]at this;exact this
    have d1:=n5 HX;have r0:=mC C;have r1:=n5 C;have f0:=jR 0 C;have f1:=jR 1 C;clear hE hV a3 hr bo F b9 HU;go_wp2;refine av (v:=OW #[N1 #[Z (O ⟨l,0,N⟩) n Q,I U a7],I U 0]) ?_ rfl ?_;·exact qD results49 _ _ w.heap.size _ rfl (run_loadVar_row _ w.heap.size 31 31 _ _ _ (pj C _ _) cM rfl aG)
    ·refine l6.ok_ ((HB.setCell eA _).setCell eA _) ba ?_;have e7:gB w.heap.size B ((B.setCell ⟨w.heap.size,0,N⟩ (Z (O ⟨l,0,N⟩) n Q)).setCell ⟨w.heap.size,1,N⟩ (I U a7)):=((gB.refl _ _).setCell 0 _).setCell 1 _;obtain⟨zs,h1,h2,h3⟩:=HV.o;refine⟨zs,zP (uf h1 e7 Y) Y,h2,λex br f7 hx hy=>?_⟩;exact gF.m 12 (gF.keep 12 (h3 ex br f7 hx hy) (λy hg bf=>e7.block y bf Y)) (λy hg _=>Y)
   ·have gt:(e:Int)<(n:Int):=Y;obtain⟨a,hX⟩:∃a,j[e]?=O a:=⟨_,af qq⟩;have b7:j.drop e=a::j.drop (e+1):=by rw[aW qq];congr 1;have:=af (l:=j) (i:=e) qq;rw[this]at hX;injection hX
    rw[b7]at a3;have a4:(z++(j.drop e).map ku)[e]?=O (ku a):=by rw[aF Y,cu,dN,b7];rfl
    obtain⟨g',c',f8,bi,-,-,hz,J⟩:=hV.at a4;injection bi with hg1 bf hg3;injection hg1 with hg1;injection hg1 with hg1 hg4 hg5;subst hg1;clear bf hg3 hg4 hg5;have bm:=e8.o a (cI hX);obtain⟨iv,kv,fv,ga,K,-,es,-,eu,c1⟩:=gF.parts (V:=(ku a:gk (VT 11))) hz;obtain⟨ja,jc,rfl⟩:=jp es.1;obtain⟨ka,kc,rfl⟩:=jp eu.1;obtain⟨fa,fc,rfl⟩:=jp c1.1;have ch:L1 ((ku a:gk (VT 11)).kind=gk.kind (α:=VT 11) a.1/\(ku a:gk (VT 11)).filters=gk.filters (α:=VT 11) a.1):=by unfold Hid ku;split<;>exact⟨rfl,rfl⟩
    obtain⟨kd,cx⟩:∃kd,(ku a:gk (VT 11)).kind=kd:=⟨_,rfl⟩;obtain⟨nn,en⟩:∃nn,(ku a:gk (VT 11)).n=nn:=⟨_,rfl⟩;obtain⟨pp,eq⟩:∃pp,(ku a:gk (VT 11)).places=pp:=⟨_,rfl⟩;obtain⟨TX,a2⟩:∃TX,ge (ku a:gk (VT 11)).text=TX:=⟨_,rfl⟩;obtain⟨kl,ek⟩:∃kl,(ku a:gk (VT 11)).keys.length=kl:=⟨_,rfl⟩;obtain⟨i,hL⟩:∃i,(ku a:gk (VT 11)).filters.length=i:=⟨_,rfl⟩;obtain⟨il,ec⟩:∃il,G ga=il:=⟨_,rfl⟩;have c3:=c1;unfold nV at K;rw[cx,en,eq,a2,ek,hL,ec]at K;rw[hL]at c3;have e0:B.cell? ⟨l,e*7,N⟩=O (I U (kd:Nat)):=J 0 _ (by rw[K];rfl);have e1:=J 1 _ (by rw[K];rfl);have e2:=J 2 _ (by rw[K];rfl);have e3:=J 3 _ (by rw[K];rfl);have e4:=J 4 _ (by rw[K];rfl);have e5:=J 5 _ (by rw[K];rfl);have e6:=J 6 _ (by rw[K];rfl);obtain⟨D,b5⟩:∃D,B.alloc (Pp #[I U (kd:Nat),I U nn,I U (pp:Nat),MV TX,Z ja il jc,Z ka kl kc,Z fa i fc] 67)=D:=⟨_,rfl⟩;have b3:LT B.heap.size B D:=by rw[<-b5];exact(aq _ _).alloc (ag _) _
    have bw:L1 (D.heap[B.heap.size]?=O (Pp #[I U (kd:Nat),I U nn,I U (pp:Nat),MV TX,Z ja il jc,Z ka kl kc,Z fa i fc] 67 (0,0))):=by rw[<-b5];exact bn _ _
    have ao:=H b3;have dc:=H b5;have da:=H (hV.keep b3);have ck:=H a3;have ba:=H bo;have a1:=H cu;have cd:=H b7;have cg:=H bm;have c7:=H (HO.t (.of_below b3));have c6:L1 (jz (λy=>w.heap.size+1<=y/\y≠l) D 3 1 (Z fa i fc) i ((gk.filters (α:=VT 11) a.1).map λA:Nat=>I U A)):=by have h1:=c3.keep (λy _ h2=>b3.block y h2);rw[ch.o.2]at h1;exact h1
    have e9:=H a2;have a9:L1 ((gk.filters (α:=VT 11) a.1).length=i):=by unfold Hid;rw[<-ch.o.2];exact hL
    have bt:=H (ch.1.s.t cx);clear K es eu c1 c3 cx en eq a2 ek hL ec J hz b3 b5 hV a3 bo cu b7 hX bm F a4 HU
    go_upto_region 12 with fail
    rw[dc.o];clear e0 e1 e2 e3 e4 e5 e6 dc d0;have g0:=mC bw;by_cases h8:kd=8
    ·have m8:((kd:Int) != 8)=P2:=by rw[h8];rfl
     have g3:=s_ bw;have g6:=uy bw;have a2:TX=ge a.2:=by rw[<-e9.o];unfold ku;rw[ai (bt.o.t h8)];rfl
     obtain⟨s,b8⟩:∃s,gk.filters (α:=VT 11) a.1=s:=⟨_,rfl⟩;rw[b8]at c6 a9;obtain⟨u,dw,d6⟩:∃u,mN DU s a.2 b u/\((∃al t,u=.ok al/\mh DU (j.drop (e+1)) (b-G al) t/\r=t.map (sT (k:=11) a.1 al :: ·))\/(∃d,u=.error d/\r=.error d)):=by
      rcases ck.o with⟨h,_⟩|⟨_,h⟩;·exact absurd (bt.t h8) h
      ·rw[b8]at h;rcases h with⟨al,t,h1,h2,h3⟩|⟨d,h1,h2⟩;·exact⟨_,h1,P3 ⟨al,t,rfl,h2,h3⟩⟩
       ·exact⟨_,h1,P4 ⟨d,rfl,h2⟩⟩
     have c5:L1 (um s b u 0 0 (MV TX)):=P3 ⟨rfl,a.2,by rw[a2],cg.2.2.2.1,aA cg.2.2.2.2 Y,dw⟩;have a0:=H d6;have dr:=a9.o;have gc:i<=200001:=by rw[<-dr,<-b8];exact cg.1.2.2.2.2.2.2.1
     clear a2 dw d6 h8 b8 dr ck
     go_upto_block 2 with fail
     go_cut [10,11]from 32 to 99 (λtv ev wx=>∃o:Nat,ev=I U (o:Nat)/\L1 (LT D.heap.size D wx)/\L1 (um s b u i o tv))
     case first=>
      go_wp2_with fail;go_loopw [10,11,12] (λtv ev kv wr=>∃g o:Nat,g<=i/\kv=I U (g:Nat)/\ev=I U (o:Nat)/\L1 (LT D.heap.size D wr)/\L1 (um s b u g o tv)) (λ_ _ kv _=>i-(intOf kv).toNat)
      case atStart=>exact⟨0,0,aH _,rfl,rfl,aq _ _,c5⟩
      clear c5
      case round=>
       obtain⟨g,o,hj,rfl,rfl,L,E⟩:=hrel;have k6:wr.cell? ⟨B.heap.size,6,N⟩=O (Z fa i fc):=by rw[L.o.cell (p:=⟨B.heap.size,6,N⟩) (ae bw.o)];exact g6
       rcases E.o with⟨X,c,hc,cr,cs,f⟩|⟨X,eb,⟨co,hT,d2⟩,W⟩
       ·subst X;rcases aV hj with a6|a6
        ·have n1:decide ((g:Int)<(i:Int))=P2:=eB;have ey:¬(g:Int)<(i:Int):=Y;have bs:L1 (um s b u i 0 (MV (ge c))):=by rw[<-a6];exact P3 ⟨rfl,c,rfl,cr,cs,f⟩
         subst hc;generalize ge c=CS at *;clear f a6 E;go_wp2
         go_meet
         case rel=>exact⟨0,rfl,L,bs⟩
        ·have n1:decide ((g:Int)<(i:Int))=PV:=eB;have gs:(g:Int)<(i:Int):=Y;obtain⟨A,hf⟩:∃A,s[g]?=O A:=⟨_,af (by have:=a9.o;omega)⟩;have ea:s.drop g=A::s.drop (g+1):=by
          have el:g<G s:=by have:=a9.o;omega
          rw[aW el];rw[af el]at hf;injection hf with hf;rw[hf]
         rw[ea]at f;obtain⟨gf,cf,bi,cv⟩:=uL c6.1 (show(s.map λA:Nat=>I U A)[g]?=O (I U (A:Nat))by rw[aY,hf];rfl);injection bi with hg1 bf hg3;subst hg1;clear bf hg3;have kf:wr.cell? ⟨gf,g,N⟩=O (I U (A:Nat)):=by rw[L.o.cell (p:=⟨gf,g,N⟩) (aC D _ cv)];exact cv
         have d5:=ui _ cr;have c0:(ge c).size<=10000000:=by rw[tF];omega
         obtain⟨R0,ds,fw⟩:∃R0,mB A b (bl (ge c)) R0/\((∃m,R0=.ok m/\Gd b m/\mN DU (s.drop (g+1)) m b u)\/(∃d,R0=.error d/\d≠0/\d<=100/\u=.error d)):=by
          rw[d5];rcases f with⟨m,⟨h1,h2⟩,h3⟩|⟨d,⟨h1,h2⟩,h3⟩;·exact⟨_,h1,P3 ⟨m,rfl,h1.gd h2,h3⟩⟩
          ·exact⟨_,h1,P4 ⟨d,rfl,(h1.ne d rfl).1,h1.small d rfl,h3⟩⟩
         have bv:=H (λM:Gr=>OA (w:=M) A c0 cy ds);subst hc;generalize ge c=CS at *;clear f a6 E ds d5 ea hf cv;rcases fw with⟨m,rfl,cw,d3⟩|⟨d,rfl,fl,fu,W⟩
         ·have ce:L1 (um s b u (g+1) 0 (MV (ge m))):=P3 ⟨rfl,m,rfl,cw.2,aA cw.1 cy,d3⟩;have cn:L1 (∀M:Gr,K8 Qe 37 #[I U (A:Nat),MV CS,I U (b:Nat)] M λbr q=>br=Ps (OW #[MV (ge m),I U 0])/\LT M.heap.size M q):=bv.o;generalize ge m=LS at *;clear cw d3 bv;go_wp2_with fail;apply(cn _).m;rintro bz w5 ⟨rfl,bd⟩;have cb:=H (L.t (bd.m L.size));clear bd;go_wp2;go_roundw
          case rel=>exact⟨g+1,0,Y,rfl,rfl,cb,ce⟩
          case measure=>simp[intOf];omega
         ·have ce:L1 (um s b u (g+1) d (MV {data:=#[]})):=P4 ⟨fl,fu,⟨_,rfl,cO⟩,W⟩;have cn:L1 (∀M:Gr,K8 Qe 37 #[I U (A:Nat),MV CS,I U (b:Nat)] M λbr q=>br=Ps (OW #[MV {data:=#[]},I U (d:Nat)])/\LT M.heap.size M q):=bv.o;clear W bv;go_wp2_with fail;apply(cn _).m;rintro bz w5 ⟨rfl,bd⟩;have cb:=H (L.t (bd.m L.size));clear bd;go_wp2;go_roundw
          case rel=>exact⟨g+1,d,Y,rfl,rfl,cb,ce⟩
          case measure=>simp[intOf];omega
       ·have n2:((o:Int)==0)=P2:=eB;have bs:L1 (um s b u i o (MV co)):=P4 ⟨X,eb,⟨co,rfl,d2⟩,W⟩;subst hT;clear W X E;rcases aV hj with a6|a6
        ·have n1:decide ((g:Int)<(i:Int))=P2:=eB;have ey:¬(g:Int)<(i:Int):=Y;go_wp2
         go_meet
         case rel=>exact⟨o,rfl,L,bs⟩
        ·have n1:decide ((g:Int)<(i:Int))=PV:=eB;have ey:(g:Int)<(i:Int):=Y;go_wp2
         go_meet
         case rel=>exact⟨o,rfl,L,bs⟩
     case rest=>
     obtain⟨o,rfl,a8,E⟩:=hcut;obtain⟨w4,f3⟩:∃w4,w4=wc:=⟨_,rfl⟩;subst f3;have ad:=H ((a8.block _ (by have:=ae C;have:=ao.o.size;omega)).t ((ao.block _ (ae C)).t C));have fb:=H ((a8.block _ (by have:=ae HX;have:=ao.o.size;omega)).t ((ao.block _ (ae HX)).t HX));have cc:=H (HB.t ((ao.t (a8.o.m ao.size)).m HB.size));have ac:L1 (∀d,u=.error d->res=.error d):=λd hn=>by
      rcases a0.o with⟨al,t,h1,_,_⟩|⟨n',h1,h2⟩;·rw[hn]at h1;cases h1
      ·rw[hn]at h1;cases h1;rw[ba.o,h2];rfl
     have r0:=mC ad;have r1:=n5 ad;have f0:=jR 0 ad;have f1:=jR 1 ad;rcases E.o with⟨X,c,hc,cr,cs,f⟩|⟨X,eb,⟨co,hT,d2⟩,W⟩
     ·subst X;rw[bS (by have:=a9.o;omega)]at f;have f:u=(if (G c)<=b then(if (G c)<=20000 then .ok c else .error 4)else .error 6):=f;have c0:=tF c;obtain⟨x,ct⟩:∃x,G c=x:=⟨_,rfl⟩;rw[ct]at f c0 cs;subst hc;by_cases h1:x<=b
      ·have m1:decide ((b:Int)<(x:Int))=P2:=eB;have f5:¬b<x:=Y;rw[ai h1]at f;by_cases h2:x<=20000
       ·have m2:decide ((20000:Int)<(x:Int))=P2:=eB;rw[ai h2]at f;obtain⟨t,b0,ca⟩:∃t,mh DU (j.drop (e+1)) (b-x) t/\r=t.map (sT (k:=11) a.1 c :: ·):=by
         rcases a0.o with⟨al,t,h1,h2,h3⟩|⟨n',h1,h2⟩;·rw[f]at h1;cases h1;rw[ct]at h2;exact⟨t,h2,h3⟩
         ·rw[f]at h1;cases h1
        have b1:=da.o.keep a8;have a4:(z++(j.drop e).map ku)[e]?=O (ku a):=by rw[aF (by have:=a1.o;omega),a1.o,dN,cd.o];rfl
        have cp:=b1.text a4 (λg' h=>h.2) c;obtain⟨bx,d7,fi⟩:∃bx,w4.heap[l]?=O (Pp bx 67 (0,0))/\∃f6,w4.cell? ⟨l,e*7+3,N⟩=O f6:=by
         obtain⟨g',c',f8,bi,-,-,hz,J⟩:=b1.at a4;injection bi with hg1;injection hg1 with hg1;injection hg1 with hg1;subst hg1;obtain⟨_,_,_,_,_,_,_,_,_,_,_,_,_,rfl⟩:=gF.form hz;have h3:=J 3 _ rfl;obtain⟨zs,⟨k1,k2⟩,-,-⟩:=b1;rcases k2 with k2|⟨y,c2,bx,e1,e2,hh,hc⟩;·cases k2.1
         ·injection e1 with e1;injection e1 with e1;injection e1 with e1;subst e1;exact⟨bx,hh,_,h3⟩
        obtain⟨u3,gv⟩:=fi;have fz:w4.frozen? ⟨l,e*7+3,N⟩=P2:=nG d7;have d0:=mC fb;have g2:IntKind.i64.wrap ((b:Int)-(x:Int))=((b-x:Nat):Int):=by rw[aU];omega
        have ci:L1 (xE j res (w.heap.size+1) l n Q P (e+1) (b-x) (w4.setCell ⟨l,e*7+3,N⟩ (MV (ge c)))):=by
         refine⟨z++[sT (k:=11) a.1 c],t,by rw[ak,a1.o];rfl,Y,?_,b0,?_,?_⟩
         ·have e1:(z++(j.drop e).map ku).set e (sT (k:=11) (ku a) c)=z++[sT (k:=11) a.1 c]++(j.drop (e+1)).map ku:=by rw[cd.o,bF,er _ _ (by have:=a1.o;omega),a1.o,dN,List.set_cons_zero,bZ];congr 2;unfold ku;split<;>rfl
          rw[e1]at cp;exact cp
         ·rw[ba.o,ca];cases t with
          |error d=>rfl
          |ok m=>show Except.ok (z++sT (k:=11) a.1 c::m)=Except.ok (z++[sT (k:=11) a.1 c]++m);rw[bZ];rfl
         ·exact c7.t ((gB.of_below a8).t ((gB.refl _ _).setCell _ _))
        generalize ge c=CS at *;clear h1 h2 f d7 b1 cp a4 b0 ca r0 r1 f0 f1 ct E a0 ac;go_wp2;go_roundw
        case rel=>exact⟨e+1,b-x,Y,by first|rfl|(congr 1;omega),rfl,ci⟩
        case measure=>simp[intOf];omega
       ·have m2:decide ((20000:Int)<(x:Int))=PV:=eB;rw[ah h2]at f;have HE:=H (ac 4 f);generalize ge c=CS at *;clear h1 h2 f E a0 ac;go_wp2;refine av (v:=OW #[N1 #[Z N 0 0,I U 0],I U 4]) ?_ rfl ?_;·exact qD results49 _ _ w.heap.size _ rfl (run_loadVar_row _ w.heap.size 31 31 _ _ _ (pj ad _ _) cM rfl aG)
        ·exact l6.no_ (n:=4) ((cc.setCell eA _).setCell eA _) HE
      ·have m1:decide ((b:Int)<(x:Int))=PV:=eB;have f5:b<x:=Y;rw[ah h1]at f;have HE:=H (ac 6 f);generalize ge c=CS at *;clear h1 f E a0 ac;go_wp2;refine av (v:=OW #[N1 #[Z N 0 0,I U 0],I U 6]) ?_ rfl ?_;·exact qD results49 _ _ w.heap.size _ rfl (run_loadVar_row _ w.heap.size 31 31 _ _ _ (pj ad _ _) cM rfl aG)
       ·exact l6.no_ (n:=6) ((cc.setCell eA _).setCell eA _) HE
     ·have HE:=H (ac o W);have n2:((o:Int)==0)=P2:=eB;have n3:((o:Int) != 0)=PV:=eB;subst hT;clear W X E a0 ac;go_wp2;refine av (v:=OW #[N1 #[Z N 0 0,I U 0],I U (o:Nat)]) ?_ rfl ?_;·exact qD results49 _ _ w.heap.size _ rfl (run_loadVar_row _ w.heap.size 31 31 _ _ _ (pj ad _ _) cM rfl aG)
      ·exact l6.no_ (n:=o) ((cc.setCell eA _).setCell eA _) HE
    ·have m8:((kd:Int) != 8)=PV:=eB;have ci:L1 (xE j res (w.heap.size+1) l n Q P (e+1) b D):=by
      rcases ck.o with⟨_,t,b0,ca⟩|⟨h,_⟩
      ·refine⟨z++[a.1],t,by rw[ak,a1.o];rfl,cy,?_,b0,?_,c7⟩
       ·have h1:=da.o;rw[cd.o,bF,show ku a=a.1 by unfold ku;rw[ah (by rw[bt.o];exact h8)]]at h1;rw[bZ];exact h1
       ·rw[ba.o,ca];cases t with
        |error d=>rfl
        |ok m=>show Except.ok (z++a.1::m)=Except.ok (z++[a.1]++m);rw[bZ];rfl
      ·exact absurd (bt.s.t h) h8
     clear h8;go_wp2;go_roundw
     case rel=>exact⟨e+1,b,Y,rfl,rfl,ci⟩
     case measure=>simp[intOf];omega
end
section
variable{w:Gr}
def Dh:Except Nat (List (VT 12))->List (VT 12)
 | .ok a=>a
 | .error _=>[]
def Di(root:Int):Except Nat (List (VT 12))->Int
 | .ok _=>root
 | .error _=>0
def JO:Except Nat (List (VT 12))->Nat
 | .ok _=>0
 | .error a=>a
def l6.eq{a d:Gr}{b:Except Nat (List (VT 12))}{root:Int}{e:MB}(h:l6 a b root e d):LT a.heap.size a d/\∃c,e=Ps (OW #[N1 #[c,I U (Di root b)],I U (JO b:Nat)])/\kG (λg=>a.heap.size<=g) 12 a.heap.size (Dh b) d c:=by
 obtain⟨f,h⟩:=h;cases b with
 |ok l=>obtain⟨c,rfl,i⟩:=h;exact⟨f,c,rfl,i⟩
 |error m=>exact⟨f,Z N 0 0,h,[],aX _ _ _ _,rfl,λk n o j=>by simp at j⟩
def kG.onlyS{c:Nat->Prop}{k b d:Nat}{i:List (VT k)}{f g:Gr}{l:GI}(h:kG c k b i f l)(j:gB d f g)(m:∀a,c a->a≠d)(u:d<b):kG c k b i g l:=by obtain⟨s,h1,h2,h3⟩:=h;exact⟨s,Jt h1 j (λa e=>by have:=(h1.lt a e).1;omega),h2,λq r t o p=>gF.keep k (h3 q r t o p) (λa e n=>j.block a n (m a e))⟩
def Gi(X:Int)(b:ByteArray)(hS:b.size<=140737488351232){res:Except Nat (List (VT 12))}{root:Int}
  (hD:∀(i:Gr) (m:Nat),LT w.heap.size w i->i.heap[m]?=O (Pp (oq (ms b)).toArray 5 (0,0))->K8 Qe 25 #[Z (O ⟨m,0,N⟩) b.size (b.size+8),I U X] i (l6 i res root))
  (hR:∀i:Gr,K8 Qe 49 #[MV b,I U X] i (l6 i res root)):K8 Qe 17 #[MV b,I U X] w λl w'=>∃bc c,l=Ps (OW #[N1 #[Z bc (Dh res).length c,I U (Di root res)],OV PV])/\LT w.heap.size w w':=by
 have HD:=H hD;have HR:=H hR;clear hD hR;have bq:(b.size:Int)<=(b.size:Int)+8:=Y;have BW:L1 (LT w.heap.size w (w.alloc (Pp #[Z N 0 0,I U 0] 31))):=(aq _ _).alloc (ag _) _;have HZ:L1 ((w.alloc (Pp #[Z N 0 0,I U 0] 31)).heap[w.heap.size]?=O (Pp #[Z N 0 0,I U 0] 31 (0,0))):=bn _ _;generalize a8:Di root res=d at *;generalize hn:JO res=bs at *;generalize hL:Dh res=Ys at *;have al:=H a8;have ad:=H hn;have ac:=H hL;clear a8 hn hL;obtain⟨a,V⟩:∃a,G Ys=a:=⟨_,rfl⟩;rw[V];have HN:=H V;clear V
 go_in
 go_wp2_with fail;apply(Mm b hS).m;rintro l w1 ⟨m,rfl,E,A,bd⟩;have hg1:=ae E;have bi:=A.size;simp only[aL]at bi bd;have n:=H (BW.t (A.m eA));have bb:=H ((A.block _ eA).t HZ);have aa:=H (HD w1 m n E);have ba:=H E;clear E A HZ BW;go_wp2_with fail;apply aa.o.m;intro l F h2;obtain⟨r,ov,rfl,u⟩:=h2.eq;rw[al.o,ad.o];rw[ac.o]at u;obtain⟨f,g,rfl⟩:=u.len;rw[HN.o]at u ⊢;obtain⟨j,C⟩:∃j,F.alloc (Pp #[Z f a g,I U d] 31)=j:=⟨_,rfl⟩;have s:LT F.heap.size F j:=by rw[<-C];exact(aq _ _).alloc (ag _) _
 have x3:j.heap[F.heap.size]?=O (Pp #[Z f a g,I U d] 31 (0,0)):=by rw[<-C];exact bn _ _
 have bm:=r.size;have hg3:j.heap[m]?=O (Pp (oq (ms b)).toArray 5 (0,0)):=by rw[s.block _ Y,r.block _ hg1];exact ba
 have HK:=H (Md b hS m hg3);have a0:=H (u.keep s);have Q:=H ((s.block _ Y).t ((r.block _ Y).t bb));have y:=H (r.t (s.m bm));have M:=H x3;have a2:=H C;clear h2 aa HD u r s x3 C hg3
 go_upto_region 3 with fail
 rw[a2.o];go_wp2_with fail;apply HK.o.m;rintro l w4 ⟨rfl,o⟩;have e:gB m j w4:=⟨o.os,o.tape,o.output,o.size,λk h1 h2=>by
  cases a7:j.heap[k]? with
  |none=>simp at a7;omega
  |some bo=>exact o.block k bo eB a7 (P3 Y)⟩
 have br:=e.size;have bf:=ae M;have a1:=H (a0.o.onlyS e (λg' h=>Y) hg1);have a4:=H ((e.block _ bf Y).t M);have a6:=H ((e.block _ (ae Q) Y).t Q);have K:L1 (LT w.heap.size w w4):=⟨e.os.t (y.o.os.t n.o.os),e.tape.t (y.tape.t n.tape),e.output.t (y.o.output.t n.o.output),by have:=n.o.size;omega,λk hk=>(e.block k Y Y).t ((y.block k Y).t (n.block k hk))⟩;clear o HK a0 M Q a2;go_wp2_with fail;apply(HR w4).m;intro l J h5;obtain⟨S,pv,rfl,x⟩:=h5.eq;rw[al.o,ad.o];rw[ac.o]at x;obtain⟨pa,pc,rfl⟩:=x.len;rw[HN.o]at x ⊢;obtain⟨z,D⟩:∃z,J.alloc (Pp #[Z pa a pc,I U d] 31)=z:=⟨_,rfl⟩;have T:LT J.heap.size J z:=by rw[<-D];exact(aq _ _).alloc (ag _) _
 have t:=S.t (T.m S.size);have p:=H ((t.block _ Y).t a4);have P:L1 (z.heap[J.heap.size]?=O (Pp #[Z pa a pc,I U d] 31 (0,0))):=by rw[<-D];exact bn _ _
 have ao:=H (OI (root:=d) (a1.keep t) (x.keep T));have L:=H (K.t (t.m K.size));have R:=H ((t.block _ Y).t a6);have a3:=H D;have d0:=mC p;have d1:=n5 p;have e0:=mC P;have e1:=n5 P;clear h5 x S T t D a1 a4 a6 K HR
 go_upto_region 5 with fail
 rw[a3.o];go_wp2_with fail;apply ao.o.m;rintro l w7 ⟨rfl,B⟩;have a5:=H ((B.block _ (ae p)).t p);have q:=H ((B.block _ (ae R)).t R);have a9:=H (L.t (B.m L.size));have d0:=mC a5;have d1:=n5 a5;have r0:=mC q;have r1:=n5 q;have f0:=jR 0 q;have f1:=jR 1 q;clear B ao p R L P a3;have HF:L1 (((w7.setCell ⟨w.heap.size,0,N⟩ (Z f a g)).setCell ⟨w.heap.size,1,N⟩ (I U d)).drew.heap[w.heap.size]?=O (Pp #[Z f a g,I U d] 31 (0,0))/\LT w.heap.size w ((w7.setCell ⟨w.heap.size,0,N⟩ (Z f a g)).setCell ⟨w.heap.size,1,N⟩ (I U d)).drew):=⟨pj q _ _,((a9.setCell eA _).setCell eA _).drew⟩;go_wp2_with fail;go_region_with (go_at_call 35;apply(zN _ _).m;rintro l w8 ⟨rfl,W⟩;have W:=W.s;subst W);all_goals (
  generalize ((w7.setCell ⟨w.heap.size,0,N⟩ (Z f a g)).setCell ⟨w.heap.size,1,N⟩ (I U d)).drew=W9 at *;go_wp2;refine av (v:=OW #[N1 #[Z f a g,I U d],OV PV]) ?_ rfl ?_;·exact qD results17 _ _ w.heap.size _ rfl (run_loadVar_row _ w.heap.size 31 31 _ _ _ HF.1 cM rfl aG)
  ·exact⟨f,g,rfl,HF.2⟩)
end
section
variable{w:Gr}{root:Int}
def Nm(a:Int)(b:Option L2)(d c:Nat)(h:a<0\/1000000<a):K8 Qe 25 #[Z b d c,I U a] w (l6 w (.error 1) root):=by go_enter_defers func25,ntmps25;go_wp2_with (go_at_call 63;apply(qP _ _ _ _ h).m;rintro e f ⟨rfl,rfl⟩);simp[bodyPostD,Leaves,results,results25,go_sem];exact⟨((aq _ _).alloc (ag _) _).alloc eA _,rfl⟩
def NA(b:Int)(d:Option L2)(a c:Nat)(h3:0<=b)(h:b<=1000000)(i:200000<a):K8 Qe 25 #[Z d a c,I U b] w (l6 w (.error 3) root):=by have f:(a:Int)<0\/200000<(a:Int):=Y;go_enter_defers func25,ntmps25;go_wp2_with (go_at_call 63;first|(apply(ou _ _ _ _ Y Y).m;rintro e g ⟨rfl,rfl⟩)|(apply(qP _ _ _ _ f).m;rintro e g ⟨rfl,rfl⟩));simp[bodyPostD,Leaves,results,results25,go_sem];exact⟨((aq _ _).alloc (ag _) _).alloc eA _,rfl⟩
def NL(a:Int)(b:ByteArray)(h:a<0\/1000000<a):K8 Qe 49 #[MV b,I U a] w (l6 w (.error 1) root):=by
 by_cases h1:a<0
 ·have c:decide (a<0)=PV:=eB;clear h
  go_in
  go_wp2;refine av (v:=OW #[N1 #[Z N 0 0,I U 0],I U 1]) ?_ rfl ?_;·exact qD results49 _ _ w.heap.size _ rfl (run_loadVar_row _ w.heap.size 31 31 _ _ _ (bn _ _) cM rfl aG)
  ·exact⟨(aq _ _).alloc (ag _) _,rfl⟩
 ·have c:decide (a<0)=P2:=eB;have d:decide ((1000000:Int)<a)=PV:=eB;clear h h1
  go_in
  go_wp2;refine av (v:=OW #[N1 #[Z N 0 0,I U 0],I U 1]) ?_ rfl ?_;·exact qD results49 _ _ w.heap.size _ rfl (run_loadVar_row _ w.heap.size 31 31 _ _ _ (bn _ _) cM rfl aG)
  ·exact⟨(aq _ _).alloc (ag _) _,rfl⟩
def Oi(a:Int)(b:ByteArray)(h3:0<=a)(c:a<=1000000)(d:200000<b.size):K8 Qe 49 #[MV b,I U a] w (l6 w (.error 3) root):=by
 have e:decide (a<0)=P2:=eB;have f:decide ((1000000:Int)<a)=P2:=eB;have g:decide ((200000:Int)<(b.size:Int))=PV:=eB;clear h3 c d
 go_in
 go_wp2;refine av (v:=OW #[N1 #[Z N 0 0,I U 0],I U 3]) ?_ rfl ?_;·exact qD results49 _ _ w.heap.size _ rfl (run_loadVar_row _ w.heap.size 31 31 _ _ _ (bn _ _) cM rfl aG)
 ·exact⟨(aq _ _).alloc (ag _) _,rfl⟩
end
section
variable{w:Gr}
def QU(w:Gr):Prop:=oV w /\ 1<w.heap.size
def un{b c:Nat}{a:Except Nat (List Nat)}(h:mB b c [] a):a=.error 5:=by
 rcases h with⟨_,h⟩|⟨_,h⟩|⟨_,h⟩|⟨_,h⟩;·rw[<-h];rfl
 ·rw[<-h];rfl
 ·rw[<-h];rfl
 ·rcases h with⟨d,h1,h⟩|⟨f,e,h1,h2⟩
  ·rw[h];rcases h1 with⟨_,h1⟩|⟨h1,_⟩;·cases h1;rfl
   ·exact absurd h1.1 cO
  ·rcases h1 with⟨_,h1⟩|⟨h1,_⟩;·cases h1
   ·exact absurd h1.1 cO
def ve:uX DU QU:=by
 refine⟨λw v g most f res s t m d i=>?_,λw y d j=>?_,λg most f u h=>(h.1.gd h.2).2⟩
 ·obtain⟨⟨z,cap,rfl,k,x,n,B⟩,o⟩:=t;by_cases r:0<G f
  ·obtain⟨bd,off,e1,e2,_⟩:=k 0 r;subst e1;have h1:=LX (w:=w) (bd:=bd) (off:=off) (cap:=cap) (most:=most) g e2 (λa e=>by obtain⟨b,D,c,_,q⟩:=k a e;injection c with c;injection c with c e4;subst c;subst e4;exact q) (λa e=>FG o a) x n m d.1 d.2 i.1
   refine h1.m λA y l=>?_;cases res with
   |ok u=>exact l
   |error C=>exact l
  ·obtain rfl:f=[]:=dF Y;rw[un i.1];exact LW g s m n
 ·obtain⟨h1,h2⟩:=d;exact⟨λa e=>by rw[j.cell (p:=⟨1,a,N⟩) h2];exact h1 a e,aQ h2 j.size⟩
def mN.ex(g:Nat):∀(c:List Nat) (b:List Nat),(∀a∈c,1<=a/\a<=4)->(∀n∈b,n<256)->∃i,mN DU c b g i
 | [],b,_,_=>⟨_,rfl⟩
 |a::c,b,e,d=>by
  obtain⟨r,f⟩:=mB.some a g b (e a (ef ..)).1 (e a (ef ..)).2;cases r with
  |error k=>exact⟨.error k,P4 ⟨k,⟨f,d⟩,rfl⟩⟩
  |ok j=>obtain⟨i,h⟩:=mN.ex g c j (λl m=>e l (dU _ m)) (f.gd d).2;exact⟨i,P3 ⟨j,⟨f,d⟩,h⟩⟩
def mh.ex:∀(c:List (VT 12×List Nat)) (a:Nat),(∀b∈c,qb b)->∃p,mh DU c a p
 | [],a,_=>⟨_,rfl⟩
 |b::c,a,e=>by
  have k:=e b (ef ..);by_cases d:gk.kind (α:=VT 11) b.1=8
  ·obtain⟨s,o⟩:=k.2.2.1;obtain⟨r,j⟩:=mN.ex a (gk.filters (α:=VT 11) b.1) b.2 (λq i=>by rw[o]at i;obtain⟨n,_,rfl⟩:=cT.1 i;exact n.2) k.2.2.2.1
   cases r with
   |error l=>exact⟨.error l,P4 ⟨d,P4 ⟨l,j,rfl⟩⟩⟩
   |ok m=>obtain⟨g,h2⟩:=mh.ex c (a-G m) (λh f=>e h (dU _ f));exact⟨_,P4 ⟨d,P3 ⟨m,g,j,h2,rfl⟩⟩⟩
  ·obtain⟨g,h2⟩:=mh.ex c a (λh f=>e h (dU _ f));exact⟨_,P3 ⟨d,g,h2,rfl⟩⟩
def IE(w:Gr)(b:ByteArray)(d:b.size<=200000):nw (bl b)\/∃a c,gT (bl b)=O (a,c)/\jb (a.map Prod.fst) c=PV/\∀e∈a,qb e:=by
 obtain⟨g,k,i,⟨_,f,ok,_,h⟩,_⟩:=JL (w:=w) b d [];rcases h with⟨_,h,_⟩|⟨_,a,c,j,_,h1,h2,h3,_⟩;·exact P3 h
 ·exact P4 ⟨a,c,h1,h2,h3⟩
def NI(w:Gr)(a:ByteArray)(f:a.size<=200000)(d:Nat):∃b c,RT (bl a) d b c:=by
 rcases IE w a f with h|⟨e,c,h1,h2,h3⟩;·exact⟨_,0,P3 ⟨h,rfl⟩⟩
 ·obtain⟨b,g⟩:=mh.ex e d h3;exact⟨b,c,P4 ⟨e,h1,h2,g⟩⟩
def Ny(a:ByteArray)(x:a.size<=200000)(c:Nat)(r:c<=1000000){res:Except Nat (List (VT 12))}{root:Int}(h:RT (bl a) c res root)(m:qR w.heap.size w)(v:QU w){d:Nat}(n:w.heap[d]?=O (Pp (oq (ms a)).toArray 5 (0,0))):K8 Qe 25 #[Z (O ⟨d,0,N⟩) a.size (a.size+8),I U (c:Nat)] w (l6 w res root):=by
 have g:=ae n;have q:=mK a;have l:rX w w.heap.size (O ⟨d,0,N⟩) (bl a):=λb f=>by refine⟨d,0,rfl,g,?_⟩;rw[iI n,bH];have:(oq (ms a)).toArray[b]?=(oq (ms a))[b]?:=eA;rw[this];unfold oq ms;rw[aY,aP f,af f];unfold nth;rw[ax,af f];rfl
 have k:∀b,b<(bl a).length->nth (bl a) b<256:=λb f=>FG (xH a) b;rcases h with⟨s,rfl⟩|⟨C,h1,h2,h3⟩
 ·have A:lg (bl a)=N:=by
   unfold lg;cases y:gT (bl a)with
   |none=>rfl
   |some e=>have:=s e.1 e.2 y;simp only[this];rfl
  have:=Gf (w:=w) (most:=c) (cap:=a.size+8) r m l k Y ⟨Y,Y⟩ ⟨d,0,rfl,g⟩ (λe B p=>by rw[s e.1 e.2 B]at p;cases p);rw[A,q]at this;exact this.m λD J o=>⟨o.1,o.2⟩
 ·rcases IE w a x with z|⟨K,F,t,E,u⟩;·rw[z C root h1]at h2;cases h2
  ·rw[h1]at t;cases t;have:=Gg (w:=w) (cap:=a.size+8) (most:=c) ve v m l k Y ⟨Y,Y⟩ ⟨d,0,rfl,g⟩ r h1 h2 (λj i=>(u j i).2.2.1) (λj i=>(u j i).2.2.2.1) h3;rw[q]at this;exact this
end
section
variable{w d:Gr}
def qR.wideR(h:qR w.heap.size w)(b:LT w.heap.size w d):qR d.heap.size d:=by have h1:=b.size;have a:=h.only (bs:=w.heap.size) (ag _) (ag _) (.of_below b);exact⟨⟨a.err.syn,a.err.rng,a.err.mx,aQ a.err.ls h1,aQ a.err.lr h1,aQ a.err.lm h1⟩,a.pow,aQ a.lp h1⟩
def Jd(e:Nat)(a:ByteArray)(f:a.size<=200000)(g:e<=1000000)(m:qR w.heap.size w)(l:QU w){res:Except Nat (List (VT 12))}{root:Int}(h:RT (bl a) e res root):K8 Qe 17 #[MV a,I U (e:Nat)] w λk d=>∃j c,k=Ps (OW #[N1 #[Z j (Dh res).length c,I U (Di root res)],OV PV])/\LT w.heap.size w d :=
 Gi (e:Nat) a Y (λi o b n=>Ny a f e g h (m.wideR b) (ve.keep _ _ l b) n) (λi=>Oj a f e g h)
def Mr(a:Int)(e:ByteArray)(j:e.size<=140737488351232)(n:qR w.heap.size w)(m:QU w):K8 Qe 17 #[MV e,I U a] w λh d=>∃f q c r,h=Ps (OW #[N1 #[Z f q c,I U r],OV PV])/\LT w.heap.size w d:=by
 by_cases h1:a<0\/1000000<a
 ·apply(Gi (root:=0) (res:=.error 1) a e j (λi l b o=>Nm a _ _ _ h1) (λi=>NL a e h1)).m;rintro h d ⟨f,c,rfl,g⟩;exact⟨f,_,c,_,rfl,g⟩
 ·by_cases h2:200000<e.size
  ·apply(Gi (root:=0) (res:=.error 3) a e j (λi l b o=>NA a _ _ _ Y Y h2) (λi=>Oi a e Y Y h2)).m;rintro h d ⟨f,c,rfl,g⟩;exact⟨f,_,c,_,rfl,g⟩
  ·obtain⟨k,rfl⟩:=Int.eq_ofNat_of_zero_le (show 0<=a by omega);obtain⟨res,root,p⟩:=NI w e Y k;apply(Jd k e Y Y n m p).m;rintro h d ⟨f,c,rfl,g⟩;exact⟨f,_,c,_,rfl,g⟩
def wF:List Nat:=[37,80,68,70,45,49,46,52,10,49,32,48,32,111,98,106,10,60,60,62,62,10,101,110,100,111,98,106,10,120,114,101,102,10,48,32,50,10,48,48,48,48,48,48,48,48,48,48,32,54,53,53,51,53,32,102,32,10,48,48,48,48,48,48,48,48,48,57,32,48,48,48,48,48,32,110,32,10,116,114,97,105,108,101,114,10,60,60,47,83,105,122,101,32,50,32,47,82,111,111,116,32,49,32,48,32,82,62,62,10,115,116,97,114,116,120,114,101,102,10,50,57,10,37,37,69,79,70,10]
def vN:VT 12:=(⟨7,0,0,[],[],[],[]⟩:gk (VT 11))
def Fe:gT wF=O ([(vN,[])],1):=by kernel_rfl
def iD:jb ([(vN,([]:List Nat))].map Prod.fst) 1=PV:=by kernel_rfl
def rT:RT wF 0 (.ok [vN]) 1:=P4 ⟨_,Fe,iD,P3 ⟨by show 7≠8;decide,.ok [],rfl,rfl⟩⟩
def Po(w:Gr):K8 Qe 19 #[] w λa d=>∃g,a=Ps (N1 #[Z (O ⟨g,0,N⟩) 1 1,I U 1])/\d.heap[g]?=O (Pp #[I U 7,I U 0,I U 0,MV {data:=#[]},Z N 0 0,Z N 0 0,Z N 0 0] 67 (0,0))/\LT w.heap.size w d:=by
 go_in
 go_wp2;refine av (v:=N1 #[Z (O ⟨w.heap.size+1,0,N⟩) 1 1,I U 1]) ?_ rfl ?_;·exact aE results19 _ _ w.heap.size 31 _ _ _ rfl (mA _ (bn _ _)) cM rfl aG
 ·refine⟨w.heap.size+1,rfl,?_,((aq _ _).alloc (ag _) _).alloc eA _⟩;have:=bn (w.alloc (Pp #[Z (O ⟨w.heap.size+1,0,N⟩) 1 1,I U 1] 31)) (Pp #[I U 7,I U 0,I U 0,MV {data:=#[]},Z N 0 0,Z N 0 0,Z N 0 0] 67);rw[aL]at this;exact this
def Ci(w:Gr):K8 Qe 88 #[N1 #[I U 7,I U 0,I U 0,MV {data:=#[]},Z N 0 0,Z N 0 0,Z N 0 0],MV {data:=#[]}] w λg d=>g=Ps (MV {data:=#[60,60,62,62]})/\LT w.heap.size w d:=by
 have e:L1 (LT w.heap.size w (w.alloc (Pp #[I U 7,I U 0,I U 0,MV {data:=#[]},Z N 0 0,Z N 0 0,Z N 0 0] 67))):=(aq _ _).alloc (ag _) _;obtain⟨a,b⟩:∃a,w.alloc (Pp #[I U 7,I U 0,I U 0,MV {data:=#[]},Z N 0 0,Z N 0 0,Z N 0 0] 67)=a:=⟨_,rfl⟩;have j:a.cell? ⟨w.heap.size,5,N⟩=O (Z N 0 0):=by rw[<-b,iI (bn _ _)];rfl
 rw[b]at e;have f:=H b;clear b
 go_in
 go_upto_region 1 with fail
 rw[f.o];go_wp2_with fail;go_loopw [5,6] (λi h wr=>i=MV {data:=#[]}/\h=I U 0/\wr=a) (λ_ _ _=>0)
 case atStart=>exact⟨rfl,rfl,rfl⟩
 case round=>obtain⟨rfl,rfl,c⟩:=hrel;have c:=c.s;subst c;go_wp2;go_ret;exact⟨by rfl,e⟩
def DH(w:Gr):K8 Qe 53 #[N1 #[I U 7,I U 0,I U 0,MV {data:=#[]},Z N 0 0,Z N 0 0,Z N 0 0],MV {data:=#[]}] w λb d=>b=Ps (MV {data:=#[60,60,62,62]})/\LT w.heap.size w d:=by
 have c:L1 (LT w.heap.size w (w.alloc (Pp #[I U 7,I U 0,I U 0,MV {data:=#[]},Z N 0 0,Z N 0 0,Z N 0 0] 67))):=(aq _ _).alloc (ag _) _
 go_in
 go_wp2_with fail;apply(Ci _).m;rintro b f ⟨rfl,a⟩;have e:=H (c.t (a.m eA));clear a;go_wp2;go_ret;exact⟨rfl,e⟩
def s0:ByteArray:={data:=#[37,80,68,70,45,49,46,52,10]}
def t0:ByteArray:={data:=#[120,114,101,102,10,48,32,50,10,48,48,48,48,48,48,48,48,48,48,32,54,53,53,51,53,32,102,32,10]}
def s1:ByteArray:={data:=#[37,80,68,70,45,49,46,52,10,49,32,48,32,111,98,106,10,60,60,62,62,10,101,110,100,111,98,106,10]}
def t1:ByteArray:={data:=#[120,114,101,102,10,48,32,50,10,48,48,48,48,48,48,48,48,48,48,32,54,53,53,51,53,32,102,32,10,48,48,48,48,48,48,48,48,48,57,32,48,48,48,48,48,32,110,32,10]}
def Cj(a:Gr):K8 Qe 51 #[I U 1] a λb d=>b=Ps (MV {data:=#[49]})/\d=a:=by have h:=Ah 1 Y a;have b:ge (gE 1)={data:=#[49]}:=aG;rw[b]at h;exact h
def Ck(a:Gr):K8 Qe 51 #[I U 2] a λb d=>b=Ps (MV {data:=#[50]})/\d=a:=by have h:=Ah 2 Y a;have b:ge (gE 2)={data:=#[50]}:=aG;rw[b]at h;exact h
def Cl(a:Gr):K8 Qe 51 #[I U 29] a λb d=>b=Ps (MV {data:=#[50,57]})/\d=a:=by have h:=Ah 29 Y a;have b:ge (gE 29)={data:=#[50,57]}:=aG;rw[b]at h;exact h
def FX(a:Gr):K8 Qe 52 #[I U 9,I U 10] a λb d=>b=Ps (MV {data:=#[48,48,48,48,48,48,48,48,48,57]})/\d=a:=by have h:=Dm 9 Y a;have b:ge (iZ 9)={data:=#[48,48,48,48,48,48,48,48,48,57]}:=aG;rw[b]at h;exact h
def xo{g gd:Nat}(E:w.heap[g]?=O (Pp #[I U 7,I U 0,I U 0,MV {data:=#[]},Z N 0 0,Z N 0 0,Z N 0 0] 67 (0,0)))(D:w.heap[gd]?=O (Pp #[MV {data:=#[]}] 9 (0,0))):K8 Qe 18 #[N1 #[Z (O ⟨g,0,N⟩) 1 1,I U 1],Z (O ⟨gd,0,N⟩) 1 1] w λf d=>∃V,f=Ps (MV V)/\bl V=wF/\LT w.heap.size w d:=by
 obtain⟨i,x⟩:∃i,w.alloc (Pp #[Z (O ⟨g,0,N⟩) 1 1,I U 1] 31)=i:=⟨_,rfl⟩;have q:LT w.heap.size w i:=by rw[<-x];exact(aq _ _).alloc (ag _) _
 have M:i.heap[w.heap.size]?=O (Pp #[Z (O ⟨g,0,N⟩) 1 1,I U 1] 31 (0,0)):=by rw[<-x];exact bn _ _
 have T:=H M;have R:=H ((q.block _ (ae E)).t E);have Q:=H ((q.block _ (ae D)).t D);have P:=H q;have S:=H x;have W:=mC M;clear E D q M x
 go_in
 go_upto_region 1 with fail
 rw[S.o];go_wp2_with fail;apply(Ck _).m;rintro f d ⟨rfl,a⟩;have a:=a.s;subst a;clear S;go_wp2_with fail;go_loopw [5,6,7] (λsv tv L wr=>∃p:Nat,p<=1/\L=I U (p:Nat)/\L1 ((p=0/\sv=MV s0/\tv=MV t0)\/(p=1/\sv=MV s1/\tv=MV t1))/\L1 (LT i.heap.size i wr)) (λ_ _ L _=>1-(intOf L).toNat)
 case atStart=>exact⟨0,Y,rfl,P3 ⟨rfl,rfl,by rfl⟩,aq _ _⟩
 case round=>
  obtain⟨p,hi,rfl,A,h⟩:=hrel;have z:=(h.block _ (ae T)).t T;have d0:=mC z;have d1:=n5 z;rcases A.o with⟨rfl,rfl,rfl⟩|⟨rfl,rfl,rfl⟩
  ·have ac:=(h.block _ (ae R)).t R;obtain⟨⟨e0,e1,e2,e3,e4,e5,e6⟩,-⟩:=nD ac;have k0:wr.cell? ⟨gd,0,N⟩=O (MV {data:=#[]}):=by rw[iI ((h.o.block _ (ae Q.o)).t Q.o)];rfl
   have y:(s0.size:Int)=9:=by rfl
   have F:s0.size=9:=by rfl
   have J:t0.size=29:=by rfl
   obtain⟨m,c⟩:∃m,s0=m:=⟨_,rfl⟩;obtain⟨n,e⟩:∃n,t0=n:=⟨_,rfl⟩;rw[c]at y F;rw[e]at J;rw[c,e];have B:=H c;have C:=H e;clear z ac W c e A;go_wp2_with fail;apply(FX _).m;rintro f d ⟨rfl,a⟩;have a:=a.s;subst a;go_wp2_with fail;go_region_with (first|(go_at_call 51;apply(Cj _).m;rintro f w5 ⟨rfl,K⟩;have K:=K.s;subst K)|(go_at_call 53;apply(DH _).m;rintro f w6 ⟨rfl,aa⟩));all_goals (
    have ad:=H (h.drew.t (aa.m (by simpa using h.o.size)));clear aa d0 d1 e0 e1 e2 e3 e4 e5 e6 k0;go_wp2;go_roundw
    case rel=>exact⟨1,Y,rfl,P4 ⟨rfl,by rw[<-B.o];rfl,by rw[<-C.o];rfl⟩,ad⟩
    case measure=>simp[intOf])
  ·have y:(s1.size:Int)=29:=by rfl
   have F:s1.size=29:=by rfl
   have J:t1.size=49:=by rfl
   obtain⟨m,c⟩:∃m,s1=m:=⟨_,rfl⟩;obtain⟨n,e⟩:∃n,t1=n:=⟨_,rfl⟩;rw[c]at y F;rw[e]at J;rw[c,e];have B:=H c;have C:=H e;clear c e A;clear z W;go_wp2_with fail;apply(Cl _).m;rintro f d ⟨rfl,a⟩;have a:=a.s;subst a;go_wp2_with fail;obtain⟨C0,r⟩:∃b:ByteArray,{data:=#[116,114,97,105,108,101,114,10,60,60,47,83,105,122,101,32]}=b:=⟨_,rfl⟩;have a4:C0.size=16:=by rw[<-r];rfl
   rw[r];have al:=H r;clear r;obtain⟨C1,s⟩:∃b:ByteArray,{data:=#[32,47,82,111,111,116,32]}=b:=⟨_,rfl⟩;have a5:C1.size=7:=by rw[<-s];rfl
   rw[s];have ao:=H s;clear s;obtain⟨C2,t⟩:∃b:ByteArray,{data:=#[32,48,32,82,62,62,10,115,116,97,114,116,120,114,101,102,10]}=b:=⟨_,rfl⟩;have a6:C2.size=17:=by rw[<-t];rfl
   rw[t];have a0:=H t;clear t;obtain⟨C3,u⟩:∃b:ByteArray,{data:=#[10,37,37,69,79,70,10]}=b:=⟨_,rfl⟩;have a7:C3.size=7:=by rw[<-u];rfl
   rw[u];have a1:=H u;clear u;obtain⟨C4,v⟩:∃b:ByteArray,{data:=#[50,57]}=b:=⟨_,rfl⟩;have a8:C4.size=2:=by rw[<-v];rfl
   rw[v];have a2:=H v;clear v;obtain⟨j,X,a3,HE⟩:∃j:Int->ByteArray,L1 (j 1={data:=#[49]}/\j 2={data:=#[50]})/\(∀k,(j k).size=1)/\L1 (∀(k:Int) (_:k=1\/k=2) (l:Gr),K8 Qe 51 #[I U k] l λf d=>f=Ps (MV (j k))/\d=l):=by
    refine⟨λk=>if k=1 then{data:=#[49]} else{data:=#[50]},⟨rfl,rfl⟩,λk=>by dsimp only;split<;>rfl,λk hk l=>?_⟩;rcases hk with rfl|rfl;·exact Cj l
    ·exact Ck l
   clear y;go_quiet ((go_at_call 51;refine bj (HE _ ?_ _);decide));go_wp2;go_ret;refine⟨_,rfl,by rw[X.o.1,X.o.2,<-B.o,<-C.o,<-al.o,<-ao.o,<-a0.o,<-a1.o,<-a2.o];kernel_rfl,?_⟩;exact P.t ((bQ h nq).m P.size)
end
section
variable{w:Gr}
def Gs(k:ByteArray)(K:Int)(T:k.size<=140737488351232)(J:qR w.heap.size w)(F:QU w):K8 Qe 6 #[MV k,I U K] w λf W=>f=Ps (OV PV)/\LT w.heap.size w W:=by
 have t:=H J;have u:=H F;clear J F
 go_in
 go_wp2_with fail;apply(Po _).m;rintro f h ⟨g,rfl,r,m⟩;have n:LT h.heap.size h (h.alloc (Pp #[MV {data:=#[]}] 9)):=(aq _ _).alloc (ag _) _;have y:=H (xo (w:=h.alloc (Pp #[MV {data:=#[]}] 9)) (g:=g) (gd:=h.heap.size) ((n.block _ (ae r)).t r) (bn _ _));have i:=H (m.t (n.m m.size));clear r m n;go_wp2_with fail;apply y.o.m;rintro f P ⟨l,rfl,q,B⟩;have b:=H (i.t (B.m i.size));have V:l.size=129:=by rw[<-mK,q];rfl
 have x:L1 (K8 Qe 17 #[MV l,I U 0] P _):=Jd (w:=P) 0 l Y Y (t.wideR b) (ve.keep _ _ u b) (res:=.ok [vN]) (root:=1) (by rw[q];exact rT);clear B q V y i;go_wp2_with fail;apply x.o.m;rintro f a ⟨e,c,rfl,C⟩;have j:=H (b.t (C.m b.size));have D:LT a.heap.size a (a.alloc (Pp #[Z e 1 c,I U 1] 31)):=(aq _ _).alloc (ag _) _;have z:L1 ((a.alloc (Pp #[Z e 1 c,I U 1] 31)).heap[a.heap.size]?=O (Pp #[Z e 1 c,I U 1] 31 (0,0))):=bn _ _;have d:=H (j.t (D.m j.size));have v:=H (Mr (w:=a.alloc (Pp #[Z e 1 c,I U 1] 31)) K k T (t.wideR d) (ve.keep _ _ u d));rw[show(Dh (.ok [vN])).length=1 from rfl,show Di 1 (.ok [vN])=1 from rfl];clear C D x b j;go_wp2_with fail;apply v.o.m;rintro f Q ⟨A,L,E,M,rfl,p⟩;have s:=H (d.t (p.m d.size));have S:=H ((p.block _ (ae z)).t z);have X:(Q.alloc (Pp #[Z A L E,I U M] 31)).cell? ⟨a.heap.size,0,N⟩=O (Z e 1 c):=iI (mA _ S);have R:L1 (LT w.heap.size w (Q.alloc (Pp #[Z A L E,I U M] 31))):=s.o.alloc s.size _;clear p v d;go_wp2;go_ret;exact⟨rfl,R⟩
end
section
open Go.ChangeShapes Go.WideShapes Go.ChangeAt Go.RowKit
def Tryz.ownE:ownKnob Tryz.prog.godebug=N:=by kernel_rfl
def Tryz.cellsN : Tryz.prog.cellsOf 3=1:=by kernel_rfl
def Tryz.cellsU : Tryz.prog.cellsOf 234=1:=by kernel_rfl
def Tryz.gPowT:(Tryz.prog.globals[0]?).map (·.type)=O 275:=by kernel_rfl
def Tryz.cellsP : Tryz.prog.cellsOf 275=20:=by kernel_rfl
def Tryz.gSyn : Tryz.prog.globalNamed "strconv.ErrSyntax" = O 5:=by kernel_rfl
def Tryz.gRng : Tryz.prog.globalNamed "strconv.ErrRange" = O 6:=by kernel_rfl
def Tryz.gSynT:(Tryz.prog.globals[5]?).map (·.type)=O 230:=by kernel_rfl
def Tryz.gRngT:(Tryz.prog.globals[6]?).map (·.type)=O 230:=by kernel_rfl
def Tryz.cellsES : Tryz.prog.cellsOf 324=1:=by kernel_rfl
def Tryz.cellsS : Tryz.prog.cellsOf 9=1:=by kernel_rfl
def Kj : "*" ++ "errors.errorString" = "*errors.errorString" :=by decide
def Tryz.rowES(a:TypeId)(h : Tryz.prog.typeName? 3 a=O "*errors.errorString"):a = 322:=
 typeName_ptr_named (nm:= "errors.errorString") (by rw[Kj];kernel_rfl) aG cO a (by rw[Kj];exact h)
def MG{a:Gr}(h:a.ShapedOpen Qe):∃b,a.cell? ⟨2,0,N⟩=O (I U b):=
 cell_of_shapedOpen_int h (t:= 3) (zero:=#[I U 0]) (of_decide_eq_true aG) aG rfl aG aG fD
def LI{a:Gr}{k l b h e:DataW Unit}(m:laidMet Qe [("math/bits.deBruijn32tab",k),("math/bits.deBruijn64tab",l),("internal/strconv.uint64pow10",Rows.laid_internal_strconv_uint64pow10),("unicode/utf8.acceptRanges",b),("strconv.ErrRange",Rows.laid_strconv_ErrRange),("strconv.ErrSyntax",Rows.laid_strconv_ErrSyntax),("folio/filters.lengthOrder",h),("unicode/utf8.first",e)] a)(n:a.ShapedOpen Qe):qR a.heap.size a:=by
 have h2:laidMet Qe (("internal/strconv.uint64pow10",Lib.tabData .u64 Lib.pow10Tab)::[("unicode/utf8.acceptRanges",b),("strconv.ErrRange",Rows.laid_strconv_ErrRange),("strconv.ErrSyntax",Rows.laid_strconv_ErrSyntax),("folio/filters.lengthOrder",h),("unicode/utf8.first",e)]) a:=m.tail.tail;have f:=Lib.tabIs_of_head Tryz.gPow Tryz.gPowT underlying275 underlying234 Tryz.cellsU Tryz.cellsP h2;obtain⟨i,s1,q,_⟩:=laid_sentinel h2.tail.tail Tryz.gRng Tryz.gRngT underlying230 Tryz.rowES underlying322 underlying324 rfl rfl dJ Tryz.cellsES Tryz.cellsS;obtain⟨j,s,r,_⟩:=laid_sentinel h2.tail.tail.tail Tryz.gSyn Tryz.gSynT underlying230 Tryz.rowES underlying322 underlying324 rfl rfl dJ Tryz.cellsES Tryz.cellsS;have c:a.cell? ⟨6,0,N⟩=O (.iface 322 (M2 (O i))):=by simpa using World.var?_cell Tryz.gRng q 0
 have d:a.cell? ⟨5,0,N⟩=O (.iface 322 (M2 (O j))):=by simpa using World.var?_cell Tryz.gSyn r 0
 obtain⟨p,g⟩:=MG n;have o:=f.cell Tryz.gPow 0 cO;exact⟨⟨⟨_,d,P4 ⟨_,_,rfl⟩⟩,⟨_,c,P4 ⟨_,_,rfl⟩⟩,⟨p,g⟩,aC a _ d,aC a _ c,aC a _ g⟩,f,aC a _ o⟩
def Fp{q:Type}{enc:TypeId×GI->q}{s:Assume}{C:Checked}{os:Os}{k:FuncId}{d:Func}{e:ChangeSpec}{i v w t:Bool}{X:Gr->Array GI->Prop}
  (E:∀(a y:Gr) (c:Array GI),a.heap=y.heap->X a c->X y c) (M:ownKnob C.prog.godebug=N) (R:os.Started) (L:C.prog.inits.idxOf? k=N) (F:C.prog.funcs[k]?=O d)
  (V:∃(a:Gr) (f:Tape) (b:Input),a.os=os/\(a.forCall f b).Shaped C.prog/\b.vars=[]/\Input.okWide C.prog (a.forCall f b) .any a.heap.size k b/\((e.pre enc C.prog d [] i (a.forCall f b).memory b.args/\X (a.forCall f b).memory b.args)/\sizedMet enc C.prog d (OpenSpec.ofChange e) i (a.forCall f b).memory b.args)/\s.holds C.prog (lone (Frame.enter C.prog k b.args .normal) [] (a.forCall f b)))
  (B:∀(j:Gr) (A:Nat) (c:Array GI) (n o:List (DataW q)) (p:List MemPlace),(∀(l:Nat) m g,d.params[l]?=O m->c[l]?=O g->Value.okWide C.prog j .any A m g)->DataW.Whole enc C.prog d.params.toList e.vars i j c.toList n o p ->(DataW.weightsEach C.prog (d.params.toList++e.plain.varTypes C.prog) (n++o)).all (· <= reachBytes)=PV->X j c->j.ShapedOpen C.prog->K8 C.prog k c j λu r=>∃g,u=Ps g/\e.post enc C.prog d i v w t j c g r):ReturnsInHanded s C os k .any (λa c=>(e.pre enc C.prog d [] i a c/\X a c)/\sizedMet enc C.prog d (OpenSpec.ofChange e) i a c) (e.post enc C.prog d i v w t):=by
 apply returnsInHanded_of_calls M R L V;intro a f b _ P _ D pre _;obtain⟨⟨⟨n,o,p,z,_⟩,K⟩,Q⟩:=pre;have T:DataW.Whole enc C.prog d.params.toList e.vars i (a.forCall f b) b.args.toList n o p:=DataW.Whole.of_heap (by rfl) z;have S:∀(l:Nat) m g,d.params[l]?=O m->b.args[l]?=O g->Value.okWide C.prog (a.forCall f b) .any a.heap.size m g:=by obtain⟨_,_,_,W,x,_,_,_,_,J⟩:=D;rw[F]at x;cases x;exact J
 refine(B _ _ _ _ _ _ S T (Q.weights z) (E _ _ _ (by rfl) K) P).m λu r h=>?_;obtain⟨g,rfl,h⟩:=h;exact ChangeSpec.post_blind h
end
section
open Go.ChangeShapes Go.WideShapes Go.ChangeAt Go.ChangeMaps Go.RowKit
def NU:joinedFacts Tryz.pinned.checked.prog 6 f6 Rows.readsSpec Rows.readsRow=PV:=by
 unfold joinedFacts;simp only[bN];repeat' (with_reducible apply And.intro)
 all_goals as_aux_lemma=>kernel_rfl
def rn : Tryz.pinned.checked.prog.funcNamed Rows.readsRow.func=O 6:=by kernel_rfl
def NV : f6.isInstance Tryz.pinned.checked.prog Rows.readsRow.origin Rows.readsRow.targs:=of_decide_eq_true aG
def NZ : f6.isWrapper Tryz.pinned.checked.prog Rows.readsRow.wrapper Rows.readsRow.mainSum:=by unfold Func.isWrapper;first|(rw[ai (by decide +kernel)];kernel_rfl)|(rw[ah (by decide +kernel)];exact⟨rfl,rfl⟩)
end
section
open Go
def OC:Rows.readsRow.wfByText (OpenSpec.ofChange Rows.readsSpec)=PV:=by kernel_rfl
def NW : Tryz.pinned.checked.prog.mainIs=O (Rows.readsCard.stood.harness.1,Rows.readsCard.stood.harness.2.toList):=by kernel_rfl
def Gj:PV = Tryz.pinned.checked.prog.looks []:=by kernel_rfl
def N4:P2=Rows.readsRow.goesBy Tryz.pinned.checked.prog:=by kernel_rfl
end
