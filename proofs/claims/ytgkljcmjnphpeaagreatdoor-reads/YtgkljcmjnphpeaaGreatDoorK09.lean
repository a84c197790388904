import Derived.Test.YtgkljcmjnphpeaaGreatDoorK08
import Derived.Deep.CutBlock
set_option linter.defProp false
set_option linter.unusedVariables false
set_option linter.unusedSimpArgs false
set_option maxHeartbeats 2000000
set_option maxRecDepth 100000
open List renaming length->G
open Go renaming Value->GI,World->Gr,Calls->K8,Ending->MB
open Go.Value renaming int->I,pointer->M2,agg->N1,bool->OV,tuple->OW,slice->Z
open Go.RowKit renaming Hid->L1,Below->LT
open Option renaming none->N,some->O
open Bool renaming false->P2,true->PV
open Or renaming inl->P3,inr->P4
open Go.Obj renaming cells->Pp
open Go.Ending renaming returned->Ps
open Go.Proofs.Tryz renaming prog->Qe
open List renaming replicate->Qf
open Go.IntKind renaming i64->U
open Go.Proofs.Tryz
namespace Go.Proofs.YtgkljcmjnphpeaaGreatDoor
open Go.RowKit
section
variable{B u m y s n:Nat}{d:List Nat}{l:Nat}{f:List GI}{w:Gr}{p C left a:Nat}{z:GI}{t:List Nat}
def CR{j:Gr}{i b c:Nat}{g h:List Nat}(r:j.heap[i]?=O i_)(D:iJ j b (gz g))(E:iJ j c (gz h)):(oC g h b c).toArray.all (·.oneCell')=PV/\L1 ((Tryz.prog.info? 164).map (·.size)=O (oC g h b c).toArray.size)/\L1 (j.there i 0 (oC g h b c).toArray.size)/\L1 ((j.setCells i 0 (oC g h b c)).heap[i]?=O (Pp (oC g h b c).toArray 164 (0,0)))/\L1 (iJ (j.setCells i 0 (oC g h b c)) b (gz g))/\L1 (iJ (j.setCells i 0 (oC g h b c)) c (gz h)):=by
 have L:(oC g h b c).toArray.all (·.oneCell')=PV:=by simp[oC,tL,gL,Value.oneCell']
 have x:(oC g h b c).length=34:=by rw[oC,ak,wu,wu]
 have A:=List.size_toArray.t x;have F:L1 ((Tryz.prog.info? 164).map (·.size)=O (oC g h b c).toArray.size):=by unfold Hid;rw[A];kernel_rfl
 have R:L1 (j.there i 0 (oC g h b c).toArray.size):=by unfold Hid;rw[A];exact tJ r
 have Q:=H (Ds r (by rw[x];rfl));have J:b≠i:=λe=>by obtain⟨o,q,k,_⟩:=D;rw[e,r]at k;simp[i_]at k
 have K:c≠i:=λe=>by obtain⟨o,q,k,_⟩:=E;rw[e,r]at k;simp[i_]at k
 have M:L1 (iJ (j.setCells i 0 (oC g h b c)) b (gz g)):=by obtain⟨o,q,k,v⟩:=D;exact⟨o,q,by rw[xg _ J];exact k,v⟩
 have P:L1 (iJ (j.setCells i 0 (oC g h b c)) c (gz h)):=by obtain⟨o,q,k,v⟩:=E;exact⟨o,q,by rw[xg _ K];exact k,v⟩
 exact⟨L,F,R,Q,M,P⟩
def Nf{r:List Bool}(h:Fl B u m y s n d l f w r a z t)(dr:oV w)(hG : 1<B)(hr:14<=G r):K8 Qe 224 #[M2 (O ⟨m,0,N⟩)] w (yq B u m y s n d l f a z t w r):=by
 have ev:=h.lt;have d2 : 1∉[u,m]:=eB;have c9:=H dr;have dn:y<w.heap.size:=by obtain⟨p,C,left,R,_,_⟩:=h;have:=R.rd.hB;omega
 obtain⟨va,cx⟩:∃va,gw (r.take 5)=va:=⟨_,rfl⟩;obtain⟨vb,bz⟩:∃vb,gw ((r.drop 5).take 5)=vb:=⟨_,rfl⟩;obtain⟨vc,b0⟩:∃vc,gw (((r.drop 5).drop 5).take 4)=vc:=⟨_,rfl⟩;have ex:va<32:=by have:=jk (r.take 5);rw[cx,ay,b_ Y]at this;exact this
 have ey:vb<32:=by have:=jk ((r.drop 5).take 5);rw[bz,ay,au,b_ Y]at this;exact this
 have e3:vc<16:=by have:=jk (((r.drop 5).drop 5).take 4);rw[b0,ay,au,au,b_ Y]at this;exact this
 have bs:L1 (iq r=257+va):=by unfold Hid iq;rw[cx]
 have cf:L1 (lR r=1+vb):=by unfold Hid lR;rw[bz]
 have c7:L1 (kQ r=4+vc):=by unfold Hid kQ;rw[<-b0,di]
 have d0:=H bz;have d1:=H b0;clear bz b0 dr;have F0:=H (h.alloc i_);have K0:=H ((gb.refl 5 B [u,m] w).alloc i_);obtain⟨W0,cl⟩:∃W0,w.alloc i_=W0:=⟨_,rfl⟩;rw[cl]at F0 K0;have dl:w.alloc (Pp #[I U 0,I U 0,I U 0,I U 0,I U 0,I U 0,I U 0,I U 0,I U 0,I U 0,I U 0,I U 0,I U 0,I U 0,I U 0,I U 0,Z N 0 0,I U 0,I U 0,I U 0,I U 0,I U 0,I U 0,I U 0,I U 0,I U 0,I U 0,I U 0,I U 0,I U 0,I U 0,I U 0,I U 0,Z N 0 0] 164)=W0:=cl;have ci:=H dl;clear dl cl h
 go_in
 go_wp2_with fail;rw[ci.o];have tok1:True:=trivial;have tok2:True:=trivial;have b3:=H (sN (w:=W0.drew) 5 Y (show 5<=G r by omega) F0.drew);rw[cx]at b3;go_region_with (first|(go_at_call 221;have _t:=tok1;apply b3.o.m;rintro x w1 ⟨rfl,f1,k1⟩;clear tok1;have b4:=H (sN 5 Y (show 5<=(r.drop 5).length by rw[au];omega) f1);rw[d0.o]at b4)|(go_at_call 221;have _t:=tok2;apply b4.o.m;rintro x w2 ⟨rfl,f2,k2⟩;clear tok2;have b5:=H (sN 4 Y (show 4<=((r.drop 5).drop 5).length by rw[au,au];omega) f2);rw[d1.o]at b5)|(go_at_call 221;apply b5.o.m;rintro x w3 ⟨rfl,f3,k3⟩));all_goals (
  have KZ:=H ((((gb.refl 5 B [u,m] W0).drew).t k1).t (k2.t k3));have K3:=H (K0.t KZ);rw[di,di]at f3;have F3:=H f3;have O3:=H (c9.kept K3 hG d2);clear k1 k2 k3 f1 f2 f3 b3 b4 b5 F0 c9;by_cases eb:va<=29/\vb<=29
  ·have ca:(va:Int)<=29:=Y;have cb:(vb:Int)<=29:=Y;go_wp2_with (first|(go_at_call 63;apply(ou _ _ _ _ Y Y).m;rintro x w' ⟨rfl,rfl⟩)|(go_at_call 163;apply(nT _).m;rintro x w' ⟨rfl,rfl⟩));obtain⟨b1,cj⟩:∃b1,ix r=b1:=⟨_,rfl⟩;have bd:=H cj;have cp:mq (r.drop (5+(5+4))) (4+vc) (257+va+(1+vb))=b1:=by rw[<-cj,mg,ah Y,bs.o,cf.o,c7.o,ah Y]
   have c8:=H cp;have cg:=H (Ml F3 O3 hG (4+vc) (257+va+(1+vb)) Y Y cp);have da:((4+vc:Nat):Int)=4+(vc:Int):=Y;have db:((257+va+(1+vb):Nat):Int)=257+(va:Int)+(1+(vb:Int)):=Y;rw[da,db]at cg;clear cj cp da db F3 O3;apply cg.o.m;intro x w4 ds;cases b1 with
   |none=>obtain⟨rfl,k4⟩:=ds;exact⟨rfl,P3 ⟨P3 bd,rfl,K3.t k4⟩⟩
   |some a2=>
    obtain⟨r',e⟩:=a2;obtain⟨br,rfl,o4,f4,k4⟩:=ds;obtain⟨d3,dk⟩:=Jb c8;obtain⟨g,hA⟩:∃g,257+va=g:=⟨_,rfl⟩;obtain⟨a4,c,rfl,hg4⟩:=uH o4 Y;have cy:=o4.cellAt 256 Y;rw[show(gL e)[256]?=O (I U (nth e 256:Nat))from ig e 256 Y]at cy;have hx:w4.cell? ⟨a4,256,N⟩=O (I U (nth e 256:Nat)):=by simpa using cy
    clear cy;have bx:a4<w4.heap.size:=by obtain⟨_,cu,ec,d5⟩:=tN o4 a4 rfl;exact ae d5
    have ep:=Nc o4;have ce:L1 (∀v,v<G e->w4.cell? ⟨a4,v,N⟩=O (I U (nth e v:Nat))):=λv hi=>by have hy:=o4.cellAt v Y;rw[show(gL e)[v]?=O (I U (nth e v:Nat))from ig e v hi]at hy;simpa using hy
    have a3:L1 (iq r=g):=by unfold Hid;rw[bs.o,hA]
    have a7:=H (KZ.t k4);have F4:=H f4;have dc:(257:Int)+(va:Int)=(g:Int):=Y;have ee:256<g:=Y;have el:g<G e:=Y;have ch:=H dk;have es:(256:Int)<G e:=Y;have eu:G e<=g+30:=Y;have ek:g<=286:=Y;rw[dc];obtain⟨bt,hX⟩:∃bt,nth e 256=bt:=⟨_,rfl⟩;rw[hX]at hx;have HX:=H hX;clear hX d3 dk o4 f4 k4 KZ c8 cg hA dc bs cf c7;by_cases cX:bt=0
    ·have d4:¬jA e (iq r):=λh=>h.2.1 (by rw[HX.o];exact cX);subst cX;go_wp2_with fail;apply(mn _ rfl _).m;rintro x E ⟨rfl,rfl⟩;exact⟨rfl,P3 ⟨P4 ⟨r',e,bd,d4⟩,rfl,K0.t a7⟩⟩
    ·have ea:(0:Int)<bt:=Y;go_wp2_with (go_at_call 163;apply(Ek _ eB _).m;rintro x E ⟨rfl,rfl⟩);have em:(g:Int)<=c:=Y;have en:(0:Int)<=(g:Int):=Y;have eo:(g:Int)<=G e:=Y;have ck:(e.take g).length=g:=by rw[ay];omega
     have bv:(e.drop g).length=G e-g:=au;have s1:∀v,v<(e.take g).length->nth (e.take g) v<16:=λv hi=>ue (λa2 hx=>ch a2 (dj hx)) v hi;have s2:∀v,v<(e.drop g).length->nth (e.drop g) v<16:=λv hi=>ue (λa2 hx=>ch a2 (dA hx)) v hi;have n1:∀v,v<g->nth (e.take g) v=nth e v:=λv hi=>by simp[nth,hi]
     have n2:∀v,nth (e.drop g) v=nth e (g+v):=λv=>by simp[nth,dz]
     have c0:L1 (∀M:Gr,LT E.heap.size E M->K8 Qe 219 #[Z (O ⟨a4,0,N⟩) g c] M λx w'=>∃i,x=Ps (N1 (tL (e.take g) i).toArray)/\iJ w' i (gz (e.take g))/\LT M.heap.size M w'/\M.heap.size<=i):=λM bW=>by have:=Cc (w:=M) a4 0 c (e.take g) s1 Y (aQ bx bW.size) (λv hi=>by rw[bH,n1 v Y,bW.cell (p:=⟨a4,v,N⟩) bx];exact ce v Y);rw[ck]at this;unfold gz;rw[ck];exact this
     have b9:L1 (∀M:Gr,LT E.heap.size E M->K8 Qe 219 #[Z (O ⟨a4,g,N⟩) (G e-g) (c-g)] M λx w'=>∃i,x=Ps (N1 (tL (e.drop g) i).toArray)/\iJ w' i (gz (e.drop g))/\LT M.heap.size M w'/\M.heap.size<=i):=λM bW=>by have:=Cc (w:=M) a4 g (c-g) (e.drop g) s2 Y (aQ bx bW.size) (λv hi=>by rw[n2 v,bW.cell (p:=⟨a4,g+v,N⟩) bx];exact ce (g+v) Y);rw[bv]at this;unfold gz;rw[bv];exact this
     have S1:=H s1;have S2:=H s2;have dw:=H bv;clear s1 s2 n1 n2 ck bv ce ch;have eq:¬c=g:=Y
     go_upto_region 6 with fail
     go_cut [9]from 45 (λu9 wx=>∃F i A,u9=M2 (O ⟨F,0,N⟩)/\L1 (wx.heap[F]?=O (Pp (oC (e.take g) (e.drop g) i A).toArray 164 (0,0)))/\L1 (iJ wx i (gz (e.take g)))/\L1 (iJ wx A (gz (e.drop g)))/\L1 (LT E.heap.size E wx))
     case first=>
      refine om (λ_ _=>True) aG ?_;intro j;have q:(λ(_:Array Bool) (_:Gr)=>True) (Array.replicate 11 P2) E.drew:=trivial;refine tj 0 j q λj q=>?_;refine tj 1 j q λj q=>?_;refine tj 2 j q λj q=>?_;refine tj 4 j q λj q=>?_;refine tj 5 j q λj q=>?_;refine tj 6 j q λj q=>?_;have bc:LT E.heap.size E E.drew:=⟨rfl,rfl,rfl,ag _,λ_ _=>rfl⟩;refine xn (i:=3) (j:=9) aG rfl rfl j (λL D=>?_) (λL D=>?_)
      ·go_simp;apply(c0 _ bc).m;rintro x w6 ⟨i,rfl,Q,b6,d6⟩;refine D _ _ trivial (λJ K=>?_);clear j q D L;have j:=J;have q:=K;clear J K
       (try simp only[nH])
       have al:=bc.t (b6.m bc.size);refine xn (i:=7) (j:=9) aG rfl rfl j (λL D=>?_) (λL D=>?_)
       ·go_simp;apply(b9 _ al).m;rintro x w7 ⟨A,rfl,a5,b7,dp⟩;refine D _ _ trivial (λJ K=>?_);clear j q D L;have j:=J;have q:=K;clear J K
        (try simp only[nH])
        have W:=al.t (b7.m al.size);have Q:iJ w7 i (gz (e.take g)):=by obtain⟨cc,T,R,hc⟩:=Q;exact⟨cc,T,by rw[b7.block _ (ae R)];exact R,hc⟩
        refine tK (i:=8) (v:=N1 (oC (e.take g) (e.drop g) i A).toArray) rfl aG aG aG (λ_ _ _ h=>h) (λ_ _ h=>h) (λ_ _ h=>h) j (P3 ⟨by rfl,?_⟩) q ?_
        ·intro M hW;have bi:=EG (tL (e.take g) i) (tL (e.drop g) A) (wu _ _) (wu _ _) M;exact Ff 164 0 1 (.tmp 48) (.tmp 52) rfl rfl rfl bi
        clear j q;intro j q;(try simp only[Act.put,List.getElem_toArray,List.getElem_cons_zero,List.getElem_cons_succ,List.setIfInBounds_toArray,List.set_cons_zero,List.set_cons_succ])
        refine on 9 j λL D=>?_;go_simp;refine D _ _ trivial (λJ K=>?_);clear j q D L;have j:=J;have q:=K;clear J K
        (try simp only[nH])
        generalize ba:World.alloc w7 _=w8 at q ⊢;have X:World.alloc w7 i_=w8:=ba;obtain⟨F,ao⟩:∃a2,w7.heap.size=a2:=⟨_,rfl⟩;have P:w8.heap[F]?=O i_:=by rw[<-X,<-ao];exact bn _ _
        have a6:LT E.heap.size E w8:=by rw[<-X];exact W.alloc W.size _
        have zb:E.heap.size<=F:=by rw[<-ao];exact W.size
        (try rw[ao])
        have Q:iJ w8 i (gz (e.take g)):=by obtain⟨cc,T,R,hc⟩:=Q;exact⟨cc,T,by rw[<-X];exact mA _ R,hc⟩
        have a5:iJ w8 A (gz (e.drop g)):=by obtain⟨cc,T,R,hc⟩:=a5;exact⟨cc,T,by rw[<-X];exact mA _ R,hc⟩
        clear ba X ao;obtain⟨a0,S,a1,ad,aa,ac⟩:=CR P Q a5;have o:=H (x_ _ _ zb (oC (e.take g) (e.drop g) i A) 0 _ _ a6);refine on 10 j λL D=>?_;refine iT rfl ?_;refine wp_store_mid 164 (.tmp 9) (.tmp 53) rfl F 0 (oC (e.take g) (e.drop g) i A).toArray rfl rfl a1 S a0 ?_;refine D _ _ trivial (λJ K=>?_);clear j q D L J K;refine oh aG ?_ _;generalize a8:World.setCells _ F 0 (oC (e.take g) (e.drop g) i A).toArray.toList=WS;have a9:w8.setCells F 0 (oC (e.take g) (e.drop g) i A)=WS:=a8;rw[a9]at ad aa ac o;clear a8 a9 a1 S a0 Q a5 bc al W a6 P;go_wp2
        go_meet
        case rel=>exact⟨F,i,A,rfl,ad,aa,ac,o⟩
       ·go_simp;refine D _ _ trivial (λJ K=>?_);clear j q D L;have j:=J;have q:=K;clear J K
        (try simp only[nH])
        generalize ba:World.alloc w6 _=w7 at q ⊢;have X:World.alloc w6 i_=w7:=ba;obtain⟨F,ao⟩:∃a2,w6.heap.size=a2:=⟨_,rfl⟩;have P:w7.heap[F]?=O i_:=by rw[<-X,<-ao];exact bn _ _
        have W:LT E.heap.size E w7:=by rw[<-X];exact al.alloc al.size _
        have zb:E.heap.size<=F:=by rw[<-ao];exact al.size
        (try rw[ao])
        have Q:iJ w7 i (gz (e.take g)):=by obtain⟨cc,T,R,hc⟩:=Q;exact⟨cc,T,by rw[<-X];exact mA _ R,hc⟩
        clear ba X ao;refine on 7 j λL D=>?_;go_simp;apply(b9 _ W).m;rintro x w8 ⟨A,rfl,a5,b8,dp⟩;refine D _ _ trivial (λJ K=>?_);clear j q D L;have j:=J;have q:=K;clear J K
        (try simp only[nH])
        have a6:=W.t (b8.m W.size);have Q:iJ w8 i (gz (e.take g)):=by obtain⟨cc,T,R,hc⟩:=Q;exact⟨cc,T,by rw[b8.block _ (ae R)];exact R,hc⟩
        have P:=(b8.block _ (ae P)).t P;refine tK (i:=8) (v:=N1 (oC (e.take g) (e.drop g) i A).toArray) rfl aG aG aG (λ_ _ _ h=>h) (λ_ _ h=>h) (λ_ _ h=>h) j (P3 ⟨by rfl,?_⟩) q ?_
        ·intro M hW;have bi:=EG (tL (e.take g) i) (tL (e.drop g) A) (wu _ _) (wu _ _) M;exact Ff 164 0 1 (.tmp 48) (.tmp 52) rfl rfl rfl bi
        clear j q;intro j q;(try simp only[Act.put,List.getElem_toArray,List.getElem_cons_zero,List.getElem_cons_succ,List.setIfInBounds_toArray,List.set_cons_zero,List.set_cons_succ])
        obtain⟨a0,S,a1,ad,aa,ac⟩:=CR P Q a5;have o:=H (x_ _ _ zb (oC (e.take g) (e.drop g) i A) 0 _ _ a6);refine on 10 j λL D=>?_;refine iT rfl ?_;refine wp_store_mid 164 (.tmp 9) (.tmp 53) rfl F 0 (oC (e.take g) (e.drop g) i A).toArray rfl rfl a1 S a0 ?_;refine D _ _ trivial (λJ K=>?_);clear j q D L J K;refine oh aG ?_ _;generalize a8:World.setCells _ F 0 (oC (e.take g) (e.drop g) i A).toArray.toList=WS;have a9:w8.setCells F 0 (oC (e.take g) (e.drop g) i A)=WS:=a8;rw[a9]at ad aa ac o;clear a8 a9 a1 S a0 Q a5 bc al W a6 P;go_wp2
        go_meet
        case rel=>exact⟨F,i,A,rfl,ad,aa,ac,o⟩
      ·go_simp;refine D _ _ trivial (λJ K=>?_);clear j q D L;have j:=J;have q:=K;clear J K
       (try simp only[nH])
       generalize ba:World.drew (World.alloc E _)=w6 at q ⊢;have X:World.drew (World.alloc E i_)=w6:=ba;obtain⟨F,ao⟩:∃a2,E.heap.size=a2:=⟨_,rfl⟩;have P:w6.heap[F]?=O i_:=by rw[<-X,<-ao];exact bn _ _
       have al:LT E.heap.size E w6:=by have b:=(aq E.heap.size E).alloc (ag _) i_;rw[<-X];exact⟨b.os,b.tape,b.output,b.size,b.block⟩
       have zb:E.heap.size<=F:=Y;rw[ao];clear ba X ao;refine on 3 j λL D=>?_;go_simp;apply(c0 _ al).m;rintro x w7 ⟨i,rfl,Q,b7,d6⟩;refine D _ _ trivial (λJ K=>?_);clear j q D L;have j:=J;have q:=K;clear J K
       (try simp only[nH])
       have W:=al.t (b7.m al.size);have P:=(b7.block _ (ae P)).t P;refine on 7 j λL D=>?_;go_simp;apply(b9 _ W).m;rintro x w8 ⟨A,rfl,a5,b8,dp⟩;refine D _ _ trivial (λJ K=>?_);clear j q D L;have j:=J;have q:=K;clear J K
       (try simp only[nH])
       have a6:=W.t (b8.m W.size);have Q:iJ w8 i (gz (e.take g)):=by obtain⟨cc,T,R,hc⟩:=Q;exact⟨cc,T,by rw[b8.block _ (ae R)];exact R,hc⟩
       have P:=(b8.block _ (ae P)).t P;refine tK (i:=8) (v:=N1 (oC (e.take g) (e.drop g) i A).toArray) rfl aG aG aG (λ_ _ _ h=>h) (λ_ _ h=>h) (λ_ _ h=>h) j (P3 ⟨by rfl,?_⟩) q ?_
       ·intro M hW;have bi:=EG (tL (e.take g) i) (tL (e.drop g) A) (wu _ _) (wu _ _) M;exact Ff 164 0 1 (.tmp 48) (.tmp 52) rfl rfl rfl bi
       clear j q;intro j q;(try simp only[Act.put,List.getElem_toArray,List.getElem_cons_zero,List.getElem_cons_succ,List.setIfInBounds_toArray,List.set_cons_zero,List.set_cons_succ])
       obtain⟨a0,S,a1,ad,aa,ac⟩:=CR P Q a5;have o:=H (x_ _ _ zb (oC (e.take g) (e.drop g) i A) 0 _ _ a6);refine on 10 j λL D=>?_;refine iT rfl ?_;refine wp_store_mid 164 (.tmp 9) (.tmp 53) rfl F 0 (oC (e.take g) (e.drop g) i A).toArray rfl rfl a1 S a0 ?_;refine D _ _ trivial (λJ K=>?_);clear j q D L J K;refine oh aG ?_ _;generalize a8:World.setCells _ F 0 (oC (e.take g) (e.drop g) i A).toArray.toList=WS;have a9:w8.setCells F 0 (oC (e.take g) (e.drop g) i A)=WS:=a8;rw[a9]at ad aa ac o;clear a8 a9 a1 S a0 Q a5 bc al W a6 P;go_wp2
       go_meet
       case rel=>exact⟨F,i,A,rfl,ad,aa,ac,o⟩
     case rest=>
      obtain⟨F,i,A,rfl,ad,aa,ac,o⟩:=hcut;have e5:=(K0.t a7).size;have bw:=yJ ad aa ac S1 S2;have c4:=H (Fg F 0 (cz (e.take g)) (gz (e.take g)) bw.1 (λbq hj=>aA (vd _ bq hj) pt));rw[Ec]at c4;have c5:=H (Fg F 17 (cz (e.drop g)) (gz (e.drop g)) bw.2 (λbq hj=>aA (vd _ bq hj) lB));rw[Ec]at c5;have dv:=H (zp F 17 (cz (e.drop g)) (gz (e.drop g)) bw.2 (by rw[xA S2.o];have:=Fd _ S2;rw[dw.o]at this;omega) (aA (vd _ 1 Y) lB));have c6:=H (LY (e.drop g) S2);clear bw;go_wp2_with fail;apply c4.o.m;rintro x w9 ⟨rfl,rfl⟩;by_cases c1:iX (e.take g)=32768
      ·rw[aB c1];go_wp2_with fail;apply(nT _).m;rintro x V ⟨rfl,rfl⟩;go_wp2_with fail;apply c5.o.m;rintro x e7 ⟨rfl,rfl⟩;by_cases c2:iX (e.drop g)=32768
       ·rw[aB c2];have co:jA e (iq r):=by rw[a3.o];exact⟨c1,λh=>cX (by rw[<-HX.o];exact h),P3 c2⟩
        go_wp2_with fail;apply(nT _).m;rintro x V ⟨rfl,rfl⟩;have bb:gb 3 E.heap.size [] E V:=⟨o.o.os,o.tape,o.o.output,o.size,λk d7 _ ho _=>by rw[show V.heap=V.heap from rfl,o.o.block k (ae ho)];exact ho⟩;have Zr:V.heap[w.heap.size]?=O i_:=by
         have z0:W0.heap[w.heap.size]?=O i_:=by rw[<-ci.o];exact bn _ _
         have z1:=a7.o.block w.heap.size _ eB z0 (P4 x6);exact bb.block w.heap.size _ eA z1 (P4 x6)
        have cw:=J0 (by exact ad);obtain⟨a0,S,a1,cn,cr,cs⟩:=CR Zr aa ac;have ct:L1 (Fl B u m y s n d l f (V.setCells w.heap.size 0 (oC (e.take g) (e.drop g) i A)) r' a z t):=(F4.keptI bb Y).keptE (e:= 164) cO (zB Zr (ag _) _) dn;have cv:L1 (gb 5 B [u,m] w (V.setCells w.heap.size 0 (oC (e.take g) (e.drop g) i A))):=gb.setCellsNew ((K0.t a7).t (gb.ofBelow' ⟨o.o.os,o.tape,o.o.output,o.size,o.block⟩)) (ag _) _;clear bb Zr;generalize bf:oC (e.take g) (e.drop g) i A=CC at *;have cd:=H bf;clear bf;go_wp2_with (first|(refine df rfl 164 (.tmp 9) rfl F 0 rfl _ _ cw underlying164 rfl S ?_)|(refine eI rfl 164 (.tmp 2) (.tmp 64) rfl w.heap.size 0 CC.toArray rfl rfl a1 S a0 ?_));refine av (v:=N1 CC.toArray) ?_ rfl (P4 ⟨r',e,i,A,bd,co,?_,?_,?_,ct,cv⟩);·exact aE results224 _ _ w.heap.size 164 _ _ _ rfl cn underlying164 rfl S
        ·rw[a3.o,cd.o]
        ·rw[a3.o];exact cr
        ·rw[a3.o];exact cs
       ·rw[ar c2];go_wp2_with fail;apply dv.o.m;rintro x b2 ⟨rfl,e6,bm⟩;have ad:L1 (b2.heap[F]?=O (Pp (oC (e.take g) (e.drop g) i A).toArray 164 (0,0))):=by rw[bm];exact ad
        have aa:L1 (iJ b2 i (gz (e.take g))):=by rw[bm];exact aa
        have ac:L1 (iJ b2 A (gz (e.drop g))):=by rw[bm];exact ac
        have o:L1 (LT E.heap.size E b2):=by rw[bm];exact⟨o.o.os,o.tape,o.o.output,o.size,o.block⟩
        clear bm;by_cases c3:(gz (e.drop g)).length=nth (cz (e.drop g)) 1/\(gz (e.drop g)).length<=1
        ·rw[aB c3];have co:jA e (iq r):=by rw[a3.o];exact⟨c1,λh=>cX (by rw[<-HX.o];exact h),P4 ((c6 c2).1 c3)⟩
         go_wp2_with fail;apply(nT _).m;rintro x V ⟨rfl,rfl⟩;have bb:gb 3 E.heap.size [] E V:=⟨o.o.os,o.tape,o.o.output,o.size,λk d7 _ ho _=>by rw[show V.heap=V.heap from rfl,o.o.block k (ae ho)];exact ho⟩;have Zr:V.heap[w.heap.size]?=O i_:=by
          have z0:W0.heap[w.heap.size]?=O i_:=by rw[<-ci.o];exact bn _ _
          have z1:=a7.o.block w.heap.size _ eB z0 (P4 x6);exact bb.block w.heap.size _ eA z1 (P4 x6)
         have cw:=J0 (by exact ad);obtain⟨a0,S,a1,cn,cr,cs⟩:=CR Zr aa ac;have ct:L1 (Fl B u m y s n d l f (V.setCells w.heap.size 0 (oC (e.take g) (e.drop g) i A)) r' a z t):=(F4.keptI bb Y).keptE (e:= 164) cO (zB Zr (ag _) _) dn;have cv:L1 (gb 5 B [u,m] w (V.setCells w.heap.size 0 (oC (e.take g) (e.drop g) i A))):=gb.setCellsNew ((K0.t a7).t (gb.ofBelow' ⟨o.o.os,o.tape,o.o.output,o.size,o.block⟩)) (ag _) _;clear bb Zr;generalize bf:oC (e.take g) (e.drop g) i A=CC at *;have cd:=H bf;clear bf;go_wp2_with (first|(refine df rfl 164 (.tmp 9) rfl F 0 rfl _ _ cw underlying164 rfl S ?_)|(refine eI rfl 164 (.tmp 2) (.tmp 64) rfl w.heap.size 0 CC.toArray rfl rfl a1 S a0 ?_));refine av (v:=N1 CC.toArray) ?_ rfl (P4 ⟨r',e,i,A,bd,co,?_,?_,?_,ct,cv⟩);·exact aE results224 _ _ w.heap.size 164 _ _ _ rfl cn underlying164 rfl S
         ·rw[a3.o,cd.o]
         ·rw[a3.o];exact cr
         ·rw[a3.o];exact cs
        ·rw[ar c3];go_wp2_with fail;apply(mn _ rfl _).m;rintro x e8 ⟨rfl,rfl⟩;exact⟨rfl,P3 ⟨P4 ⟨r',e,bd,λh=>by rw[a3.o]at h;exact h.2.2.elim c2 (λh=>c3 ((c6 c2).2 h))⟩,rfl,(K0.t a7).t (gb.ofBelow' ⟨o.o.os,o.tape,o.o.output,o.size,o.block⟩)⟩⟩
      ·rw[ar c1];go_wp2_with fail;apply(mn _ rfl _).m;rintro x V ⟨rfl,rfl⟩;exact⟨rfl,P3 ⟨P4 ⟨r',e,bd,λh=>by rw[a3.o]at h;exact c1 h.1⟩,rfl,(K0.t a7).t (gb.ofBelow' ⟨o.o.os,o.tape,o.o.output,o.size,o.block⟩)⟩⟩
  ·have hE:ix r=N:=by rw[mg,ah Y,bs.o,cf.o,ai Y]
   by_cases ca:va<=29
   ·go_wp2_with fail;apply(ou _ _ _ _ Y Y).m;rintro x w' ⟨rfl,rfl⟩;go_wp2_with fail;apply(qP _ _ _ _ (P4 Y)).m;rintro x w' ⟨rfl,rfl⟩;go_wp2_with fail;apply(mn _ rfl _).m;rintro x w' ⟨rfl,rfl⟩;exact⟨rfl,P3 ⟨P3 hE,rfl,K3⟩⟩
   ·go_wp2_with fail;apply(qP _ _ _ _ (P4 Y)).m;rintro x w' ⟨rfl,rfl⟩;go_wp2_with fail;apply(mn _ rfl _).m;rintro x w' ⟨rfl,rfl⟩;exact⟨rfl,P3 ⟨P3 hE,rfl,K3⟩⟩)
def M_{r:List Bool}(h:Fl B u m y s n d l f w r a z t)(q:oV w)(o : 1<B):K8 Qe 224 #[M2 (O ⟨m,0,N⟩)] w (yq B u m y s n d l f a z t w r):=by
 by_cases j:14<=G r;·exact Nf h q o j
 have c:ix r=N:=by rw[mg,ai Y]
 by_cases k:G r<5;·exact(CY h k).m λe g b=>P3 ⟨P3 c,b⟩
 by_cases i:G r<10;·exact(CZ h Y i).m λe g b=>P3 ⟨P3 c,b⟩
 ·exact(C5 h Y Y).m λe g b=>P3 ⟨P3 c,b⟩
end
def lI(window most:Nat)(r:List Bool)(d:List Nat)(b:Except Nat (List Bool×List Nat)):Prop:=
 (ix r=N->b=.error 5)/\∀c a,ix r=O (c,a)->(¬jA a (iq r)->b=.error 5)/\(jA a (iq r)->gR ⟨cz (a.take (iq r)),gz (a.take (iq r)),cz (a.drop (iq r)),gz (a.drop (iq r))⟩ window most c d b)
section
variable{B b:Nat}{S:ByteArray}{most:Nat}{w:Gr}{p:Nat}{t:GI}{d:List Nat}{e:Nat}
def zV:Obj:=Pp (gL lQ).toArray 3 (0,0)
structure Ow(w wr:Gr)(go gl:Nat)(l:List Nat):Prop where
 h1:w.heap.size<=go
 h2:w.heap.size<=gl
 ne:go≠gl
 ord:wr.heap[go]?=O zV
 row:wr.heap[gl]?=O (Pp (gL l).toArray 3 (0,0))
 len:G l=19
 sm:∀i,i<G l->nth l i<16
def Ow.kept{wr n:Gr}{i g:Nat}{m:List Nat}{q:Nat}(h:Ow w wr i g m)(r:jx B b S most wr q t d e)(k:gb 5 B [b] wr n):Ow w n i g m:=by
 have l:∀a c,wr.heap[a]?=O (Pp c 3 (0,0))->a∉[b]:=λa c j o=>by obtain⟨s,f,h3⟩:=r.isIn a o;rw[h3]at j;simp at j
 exact⟨h.h1,h.h2,h.ne,k.block _ _ (l _ _ h.ord) h.ord (P4 (by intro c f e;simp[zV]at e)),k.block _ _ (l _ _ h.row) h.row (P4 (by intro c f e;simp at e)),h.len,h.sm⟩
def Ow.drewN{wr:Gr}{c a:Nat}{f:List Nat}(h:Ow w wr c a f)(n:Nat):Ow w (wr.drewN n) c a f:=⟨h.h1,h.h2,h.ne,h.ord,h.row,h.len,h.sm⟩
def Ow.cellO{wr:Gr}{c f:Nat}{i:List Nat}(h:Ow w wr c f i)(a:Nat)(g:a<19):wr.cell? ⟨c,a,N⟩=O (I U (nth lQ a:Nat)):=by rw[iI h.ord];have:a<G lQ:=g;simp[gL,nth,this]
def Ow.cell{wr:Gr}{g c:Nat}{f:List Nat}(h:Ow w wr g c f)(a:Nat)(i:a<19):wr.cell? ⟨c,a,N⟩=O (I U (nth f a:Nat)):=by rw[iI h.row];have:=h.len;simp[gL,nth,this,i]
def Ow.set{wr:Gr}{g a:Nat}{l:List Nat}(h:Ow w wr g a l)(i f:Nat)(m:i<19)(o:f<16):Ow w (wr.setCell ⟨a,i,N⟩ (I U f)) g a (l.set i f):=by
 refine⟨h.h1,h.h2,h.ne,?_,?_,by simp[h.len],λk n=>?_⟩;·rw[kW _ h.ne];exact h.ord
 ·rw[lV _ h.row];simp[gL,List.map_set]
 ·have j:=h.sm k u0;unfold nth at j ⊢;rw[ax,List.getElem?_set]at *;by_cases c:i=k;·subst c;simp only[if_true];rw[ai (by rw[h.len];exact m)];exact o
  ·rw[ah c];exact j
def Mg{a m h:Nat}{c:Array GI}{i:Nat×Nat}{n:GI}(l:w.heap[a]?=O (Pp c 3 i))(o:h<=a):gb 3 h [] w (w.setCell ⟨a,m,N⟩ n):=
 ⟨rfl,rfl,rfl,by simp[World.setCell],λk q _ g f=>by
  rw[dy _ _ _ _ (λe=>by
   have j:k=a:=e;subst j;rw[l]at g;rcases f with f|f;·omega
   ·exact f c i (dq g).s)]
  exact g⟩
def Ku{i:List (Int×Int)}{g:Nat}(h:m_ i g):∀(f:List Bool) (c a:Nat) (r:List Bool),iE i c f=O (a,r)->a<=g
 | [],_,_,_,e=>by simp[iE]at e
 |j::f,c,a,r,e=>by
  simp only[iE]at e;split at e
  ·simp only[Option.some.injEq,Prod.mk.injEq]at e;have:=h c j;omega
  split at e;·cases e
  ·exact Ku h f _ a r e
def jU.le{k c:Nat}{f j:List Nat}(h:jU w k f j c){r i:List Bool}{a:Nat}(g:gN f j r=O (a,i)):a<=c:=by obtain⟨n,m,_,_,h3,l⟩:=h.ex;rw[<-l]at g;exact Ku h3 r 0 a i g
def ns{a:List Nat}(h:∀g∈a,g<16)(c:Nat)(f:c<G a):nth a c<16:=by
 have:nth a c=a[c]:=by simp[nth,f]
 rw[this];exact h _ (cq f)
def nt{c:List Nat}{f a:Nat}(g:a<f):nth (c.take f) a=nth c a:=by simp[nth,g]
def MW{a:List Nat}{c f:Nat}:nth (a.drop c) f=nth a (c+f):=by simp[nth,dz]
def pA.full{f:List Nat}{g:List (Int×Int)}{a:Nat}(h:pA f g a)(k:Nat)(j:k<=32768):a=k↔iX f=k:=by
 rcases h with⟨c,_⟩|⟨c,i⟩;·rw[c];exact Iff.rfl
 ·unfold iX;constructor<;>intro h<;>omega
def jU.more{f a c:Nat}{g i:List Nat}(h:jU w f g i a)(o:a<=c):jU w f g i c:=by obtain⟨j,m,h1,h2,h3,l⟩:=h.ex;exact⟨j,m,h1,h2,λk n=>by have:=h3 k n;omega,l⟩
def oU(c:List Nat)(f g h:Nat)(i:Bool):Prop:=i=PV↔(g=16384/\∀a,f<=a->a<h->nth c a<2)
def oU.start(f:List Nat)(a c:Nat):oU f a c a ((c:Int)==16384):=by
 unfold oU;simp only[beq_iff_eq];constructor;·intro h;exact⟨Y,λg h1 h2=>Y⟩
 ·intro h;omega
def oU.step{f:List Nat}{g i a:Nat}(h:oU f g i a PV)(l:g<=a):oU f g i (a+1) (decide ((nth f a:Int)<2)):=by
 obtain⟨h1,h2⟩:=h.1 rfl;unfold oU;simp only[bT];constructor
 ·intro j;refine⟨h1,λk m n=>?_⟩;by_cases c:k=a;·subst c;omega
  ·exact h2 k m Y
 ·intro j;have:=j.2 a l Y;omega
def oU.fin{a:List Nat}{c l j:Nat}{k:Bool}(h:oU a c l j k)(s:j<=G a)(o:k=PV->j=G a):k=PV↔(l=16384/\∀n∈a.drop c,n<2):=by
 constructor
 ·intro m;obtain⟨h1,h2⟩:=h.1 m;refine⟨h1,λn i=>?_⟩;obtain⟨f,q,rfl⟩:=cK i;have g:c+f<G a:=by rw[au]at q;omega
  have:=h2 (c+f) Y (by rw[o m];exact g);rw[List.getElem_drop];simpa[nth,g]using this
 ·intro i;refine h.2 ⟨i.1,λf h1 h2=>?_⟩;have g:f<G a:=Y;have r:a[f]∈a.drop c:=by rw[List.mem_iff_getElem];exact⟨f-c,by rw[au];omega,by rw[List.getElem_drop];congr 1;omega⟩
  have:=i.2 _ r;simpa[nth,g]using this
def P9:∀a:Fin 19,nth (Qf 19 0) a.val<16:=by decide +kernel
def zW:∀a:Fin 19,nth lQ a.val<19:=by decide +kernel
def JZ(h:jx B b S most w p t d 0)(hp:p<=8*S.size)(cd:∀i∈d,i<256){a0:Nat}(hw:a0<=32768){bw:Except Nat (List Bool×List Nat)}(cl:lI a0 most (gC S p) d bw):K8 Qe 153 #[M2 (O ⟨b,0,N⟩),I U a0] w λi q=>i=Ps (OW #[])/\∃J bs l e,jx B b S most q J bs l e/\pE S bw J l e/\gb 5 B [b] w q:=by
 have cy:=H cd;have a5:=H cl;clear cd cl
 go_in
 go_wp2_with fail;apply(rL h 5 Y).m;rintro i w1 ⟨f,q1,e1,rfl,r1,B1,cn,k1⟩;have eu:f<32:=by simpa using cn
 go_wp2_with fail;apply(rL r1 5 Y).m;rintro i w2 ⟨j,q2,e2,rfl,r2,B2,co,k2⟩;have ev:j<32:=by simpa using co
 go_wp2_with fail;apply(rL r2 4 Y).m;rintro i w3 ⟨C,q3,e3,rfl,r3,B3,cr,k3⟩;have ex:C<16:=by simpa using cr
 have V:=H ((k1.t k2).t k3);have HA:=H (λe4 h4=>M3 (e4:=e4) B1 B2 B3 h4);clear r1 r2 k1 k2 k3 cn co cr B1 B2 B3 h;obtain⟨i0,z,d5,d6,d7⟩:=bu infoInt;obtain⟨D,o⟩:∃D,decide (286<257+f\/30<1+j)=D:=⟨_,rfl⟩
 go_upto_region 3 with fail
 go_cut [31]from 26 (λbv K=>bv=OV D/\K=w3)
 case first=>
  by_cases c0:286<257+f
  ·have c1:(286:Int)<257+f:=Y;go_wp2
   go_meet
   case rel=>exact⟨by rw[<-o];simp[c0],rfl⟩
  ·have c1:¬(286:Int)<257+f:=Y;by_cases c2:30<1+j
   ·have c3:(30:Int)<1+j:=Y;go_wp2
    go_meet
    case rel=>exact⟨by rw[<-o];simp[c2],rfl⟩
   ·have c3:¬(30:Int)<1+j:=Y;go_wp2
    go_meet
    case rel=>exact⟨by rw[<-o];simp[c0,c2],rfl⟩
 case rest=>
 obtain⟨rfl,s⟩:=hcut;have s:=s.s;subst s
 go_upto_if 31 with fail
 go_cut []from 32 (λK=>∃e4,L1 (jx B b S most K q3 t d e4)/\L1 (vU S p f j C q3 e4)/\L1 (gb 5 B [b] w K))
 case first=>
  cases D with
  |true=>
   go_wp2_with fail;apply(ro r3 5 Y).m;rintro i w4 ⟨rfl,r4,k4⟩;go_wp2
   go_meet
   case rel=>exact⟨_,r4,HA _ (by rw[ai (of_decide_eq_true o)]),V.t k4⟩
  |false=>
   go_wp2
   go_meet
   case rel=>exact⟨_,r3,HA _ (by rw[ah (of_decide_eq_false o)]),V⟩
 case rest=>
 clear HA r3 V o;obtain⟨e4,R4,bx,V⟩:=hcut;have z3:=V.o.size;go_wp2_with (at_make;refine wpList_make_full _ rfl _ _ 52 rfl (wc.heap.size+1) 3 i0 (I U 0) 1 cG z d5 d6 U U _ _ 19 rfl rfl Y Y (by rw[d7];omega) oi eA ?_;intro w5 ch hg5;have br:=rm ch);have cg:w5.heap[wc.heap.size]?=O zV:=by rw[hg5.block _ eA eA];exact bn _ _
 have Q:=((aq _ _).alloc (ag _) _).grown hg5 eA (λk h=>by cases h);obtain⟨P,a9⟩:∃P,wc.heap.size+1=P:=⟨_,rfl⟩;simp only[aL,a9]at br ⊢;have bf:Ow w w5 wc.heap.size P (Qf 19 0):=⟨z3,Y,Y,cg,br,eA,λa z=>P9 ⟨a,by simpa using z⟩⟩;have K5:=V.o.t ⟨Q.os,Q.tape,Q.output,Q.size,λa l _ v _=>by rw[Q.block a (ae v)];exact v⟩;have R5:=R4.o.ofBelow Q;obtain⟨go,bq⟩:∃go,wc.heap.size=go:=⟨_,rfl⟩;rw[bq]at bf;simp only[bq];have bz:=H bx.toB;clear bq a9 br hg5 ch cg Q R4 V bx z3;go_loopw [9] (λvi wr=>∃(a:Nat) (aa:List Nat) (J e:Nat),vi=I U a/\a<=4+C/\jx B b S most wr J t d e/\Ow w wr go P aa/\L1 (uq S p f j (4+C) a aa J e)/\gb 5 B [b] w wr) (λvi _=>4+C-(intOf vi).toNat)
 case atStart=>exact⟨0,_,_,_,rfl,aH _,R5,bf,bz,K5⟩
 clear R5 bf bz K5
 case round=>
  obtain⟨a,aa,J,e,rfl,es,r,x,HB,kk⟩:=hrel;by_cases ci:a<4+C
  ·have a8:(a:Int)<4+C:=Y;have hx:=x.cellO a Y;have bo:=zW ⟨a,Y⟩;simp only[]at bo;have da:=H (λm q' e'=>HB.step (v:=m) (q':=q') (e':=e') ci);have c9:∀q,Ow w q go P aa->q.cell? ⟨go,a,N⟩=O (I U (nth lQ a:Nat)):=λq l=>l.cellO a Y;generalize nth lQ a=ad at *;have e9:(a:Int)<19:=Y;have ea:(ad:Int)<19:=Y;go_wp2_with fail;go_region_with (go_at_call 112;apply(rL (r.drewN 1) 3 Y).m;rintro i w6 ⟨m,q6,e6,rfl,r6,B6,d1,k6⟩;have ao:=(x.drewN 1).kept (r.drewN 1) k6;have e5:=c9 w6 ao;have eo:=ao.cell ad bo;have f6:w6.frozen? ⟨P,ad,N⟩=P2:=nG ao.row);all_goals have KI:L1 (gb 3 w.heap.size [] w6 (w6.setCell ⟨P,ad,N⟩ (I U (m:Nat)))):=Mg ao.row ao.h2
   all_goals have d0:m<16:=(by have:m<8:=(by simpa using d1);omega)
   all_goals go_wp2
   all_goals go_roundw
   all_goals first|exact⟨a+1,aa.set ad m,q6,e6,by go_num,Y,r6.keptI KI,ao.set ad m bo d0,da m q6 e6 B6,gb.new ((kk.drewN 1).t k6) KI⟩|(simp[intOf];omega)
  ·obtain rfl:a=4+C:=Y;have a8:¬(((4+C:Nat):Int)<4+C):=Y;have a9:=ae x.row;have L:=H (Cq P 0 19 aa x.sm (by rw[x.len];omega) a9 (λa z=>by rw[bH];exact x.cell a (by rw[x.len]at z;exact z)) (by rw[x.len];omega));rw[x.len]at L;have HR:=H r;have c6:=H x;have HK:=H kk;clear r x kk;go_wp2_with fail;apply L.o.m;rintro i w6 ⟨bt,eb,cb,rfl,cu,dp,W,gt⟩;have R6:=H (HR.o.ofBelow W);have K6:=H (HK.t ⟨W.os,W.tape,W.output,W.size,λa l _ v _=>by rw[W.block a (ae v)];exact v⟩);have en:((257+f+(1+j):Nat):Int)=257+(f:Int)+(1+(j:Int)):=Y;have dc:=H cu;have GT:=H gt;clear L HR HK W cu gt dp;by_cases cf:cb=32768
   ·subst cf;have HC:=H (HB.toC GT (e':=e) (by rw[ai rfl]));rcases HC.o with⟨rfl,g1,g2,g3,g4,g5,g6⟩|⟨rfl,g1⟩
    ·have TK:=H (GT.o.ok dc (by have:=g5;unfold iX at this;omega));have dv:=c6.o.len;have E:=H (N7 (n:=257+f+(1+j)) (M:=G aa) R6 g2 Y Y TK (λr ct r' h=>aA (TK.le h) Y) g6);rw[en]at E;have G1:=H g1;have G6:=H g6;clear dv g5 g6 g1;go_wp2_with fail;apply E.o.m;rintro i w7 ⟨v7,g,q7,e7,rfl,A,LR,cs,t7,k7⟩;have K7:=H (K6.t k7);have c7:=A.c4;have R7:=H A;clear E TK t7 k7 A;rcases hH:ix (gC S p)with _|⟨r',L'⟩
     ·rw[hH]at LR;obtain rfl:e7=5:=LR;have T:=H (a5.1 hH);go_wp2;refine av (v:=OW #[]) EB rfl ?_;exact⟨rfl,_,_,_,_,R7,by rw[T.o];exact⟨rfl,Y⟩,K7⟩
     ·rw[hH]at LR;obtain⟨rfl,rfl,ck,dw⟩:=LR;have bm:=n8 (G6.t hH);have a6:=H (a5.2 _ _ hH);rw[<-G1.o,<-ck]at a6;obtain⟨al,cp,d2,a2,ce,dr,ep⟩:=Es (cs rfl) rfl Y;subst d2;have a1:=bm.1;have b3:=H bm.2;have a3:=H ce;rw[a1]at dr ⊢;have HN:=H a1;have l1:(g.take (257+f)).length=257+f:=by rw[ay,a1];omega
      have l2:(g.drop (257+f)).length=1+j:=by rw[au,a1];omega
      have s1:(257:Int)+f<=cp:=Y;have s0:(0:Int)<=257+f:=Y;have GA:=H (Cq al 0 cp (g.take (257+f)) (ns λi hx=>b3 i (dj hx)) Y a2 (λa z=>by rw[nt Y];exact a3 a (by rw[HN.o];omega)) Y);have GB:L1 (∀q,LT w7.heap.size w7 q->_):=λq bl=>Cq (w:=q) al (257+f) (cp-(257+f)) (g.drop (257+f)) (ns λi hx=>b3 i (dA hx)) Y (aQ a2 bl.size) (λa z=>by rw[MW,bl.cell (p:=⟨al,257+f+a,N⟩) a2];have:=a3.o (257+f+a) (by rw[HN.o];omega);rw[bH]at this;exact this) Y;rw[l1]at GA;rw[l2]at GB;clear bm ce cs hH ck a1 l1 l2;go_wp2_with fail;apply GA.o.m;rintro i w8 ⟨b1,T1,f1,rfl,t1,dl,b8,cc⟩;have ba:=H cc;have ca:=H t1;have y:=H b8;clear cc t1 b8 GA;go_wp2_with fail;apply(GB w8 y).m;rintro i w9 ⟨b2,T2,X,rfl,t2,dn,F,bi⟩;have R9:=H ((R7.o.ofBelow y).ofBelow F);have K9:=H (K7.t (gb.t (b:=w8) ⟨y.o.os,y.tape,y.o.output,y.size,λa l _ v _=>by rw[y.o.block a (ae v)];exact v⟩ ⟨F.os,F.tape,F.output,F.size,λa l _ v _=>by rw[F.block a (ae v)];exact v⟩));have b0:L1 (∀a,a<257+f+(1+j)->w9.cell? ⟨al,a,N⟩=O (I U (nth g a:Nat))):=λa z=>by have h8:=aQ a2 y.size;rw[F.cell (p:=⟨al,a,N⟩) h8,y.o.cell (p:=⟨al,a,N⟩) a2];have:=a3.o a (by rw[HN.o];exact z);rw[bH]at this;exact this
      have a4:=H ba.full;have ac:=H bi.full;have d4:=b0.o 256 Y;have fa:(256:Int)<257+f+(1+j):=Y;have b4:=H (oU.start g (257+f) X);have b5:L1 (iX (g.take (257+f))<=32768->jU w9 b1 (cz (g.take (257+f))) (gz (g.take (257+f))) 300):=λhk=>((ba.o.ok ca hk).below F).more pt;have b7:L1 (iX (g.drop (257+f))<=32768->jU w9 b2 (cz (g.drop (257+f))) (gz (g.drop (257+f))) 32):=λhk=>(bi.ok t2 hk).more (by rw[au,HN.o];omega);clear y F bi ba ca t2 GB dl dn a3 R7 K7 c7;obtain⟨a7,hZ⟩:∃a7,nth g 256=a7:=⟨_,rfl⟩;rw[hZ]at d4;have HZ:=H hZ;have cx:=H a6.1;have db:L1 (jA g (257+f)->K8 Qe 209 #[M2 (O ⟨b,0,N⟩),M2 (O ⟨b1,0,N⟩),M2 (O ⟨b2,0,N⟩),I U a0] w9 λi q=>i=Ps (OW #[])/\∃J bs l e,jx B b S most q J bs l e/\pE S bw J l e/\gb 5 B [b] w9 q):=λu=>by have u1:=b5.o (by rw[u.1];omega);have u2:=b7.o (by rcases u.2.2 with h|h|h<;>omega);exact J3 R9 (c:=⟨cz (g.take (257+f)),gz (g.take (257+f)),cz (g.drop (257+f)),gz (g.drop (257+f))⟩) (M:=300) Y hw u1 u2 (λr ct r' h=>aA (u1.le h) Y) (λr ct r' h=>u2.le h) (P3 ⟨rfl,dw,a6.2 u,cy⟩)
      clear hZ a6 b5 b7;go_wp2;go_loopw [15,16] (λvo vi wr=>∃(a:Nat) (l:Bool),vo=OV l/\vi=I U a/\257+f<=a/\a<=257+f+(1+j)/\wr=w9/\L1 (oU g (257+f) X a l)) (λ_ vi _=>257+f+(1+j)-(intOf vi).toNat)
      case atStart=>exact⟨257+f,_,rfl,by go_num,ag _,Y,rfl,b4⟩
      clear b4
      case round=>
       obtain⟨a,l,rfl,rfl,ds,eq,d3,HO⟩:=hrel;subst d3
       go_upto_region 21 with fail
       obtain⟨D,o⟩:∃D,(decide (a<257+f+(1+j))&&l)=D:=⟨_,rfl⟩;go_cut [95]from 88 to 102 (λm K=>m=OV D/\K=wr)
       case first=>
        by_cases ci:a<257+f+(1+j)
        ·have a8:(a:Int)<257+f+(1+j):=Y;go_wp2
         go_meet
         case rel=>exact⟨by rw[<-o];simp[ci],rfl⟩
        ·have a8:¬(a:Int)<257+f+(1+j):=Y;go_wp2
         go_meet
         case rel=>exact⟨by rw[<-o];simp[ci],rfl⟩
       case rest=>
       obtain⟨rfl,s⟩:=hcut;have s:=s.s;subst s;cases D with
       |true=>
        simp only[bN,bT]at o;obtain⟨ci,rfl⟩:=o;have a8:(a:Int)<257+f+(1+j):=Y;have e8:=b0.o a ci;have c5:=H (HO.step ds);generalize nth g a=ec at *;go_wp2;go_roundw
        case rel=>exact⟨a+1,_,rfl,by go_num,Y,Y,trivial,c5⟩
        case measure=>simp[intOf];omega
       |false=>
       have bc:=H (HO.fin (by rw[HN.o];omega) (by intro h;rw[HN.o];subst h;simp at o;omega));obtain⟨R,hG⟩:∃R:Bool,R=PV↔jA g (257+f):=by
        by_cases h:jA g (257+f);·exact⟨PV,by simp[h]⟩
        ·exact⟨P2,by simp[h]⟩
       have L:=H hG;clear hG o
       go_upto_region 24 with fail
       generalize hE:((X:Int)==0)=cw;go_cut [122]from 103 to 122 (λm K=>m=OV (!R)/\K=wr)
       case first=>
        have no:¬jA g (257+f)->(!R)=PV:=λh=>by cases R;rfl;exact absurd (L.1 rfl) h
        have cv:jA g (257+f)->(!R)=P2:=λh=>by rw[L.o.2 h];rfl
        have bb:=H no;have bd:=H cv;clear no cv;by_cases cA:f1=32768
        ·subst cA;by_cases cB:a7=0
         ·subst cB;go_wp2
          go_meet
          case rel=>exact⟨by rw[bb.o (λu=>u.2.1 HZ.o)],rfl⟩
         ·have ek:((a7:Int)==0)=P2:=eB;by_cases cC:X=32768
          ·subst cC;go_wp2
           go_meet
           case rel=>exact⟨by rw[bd.o ⟨(a4.o 32768 Y).1 rfl,(by rw[HZ.o];exact cB),P3 ((ac.o 32768 Y).1 rfl)⟩],rfl⟩
          ·have el:((X:Int) != 32768)=PV:=eB;cases cw with
           |true=>
            obtain rfl:X=0:=by simpa using hE
            go_wp2
            go_meet
            case rel=>exact⟨by rw[bd.o ⟨(a4.o 32768 Y).1 rfl,(by rw[HZ.o];exact cB),P4 (P3 ((ac.o 0 Y).1 rfl))⟩],rfl⟩
           |false=>
            have cD:¬X=0:=by simpa using hE
            go_wp2
            go_meet
            case rel=>
             refine⟨?_,rfl⟩;cases l with
             |true=>exact dV OV (bd ⟨(a4 32768 Y).1 rfl,(by rw[HZ.o];exact cB),P4 (P4 ⟨(ac 16384 Y).1 (bc.1 rfl).1,(bc.1 rfl).2⟩)⟩).s
             |false=>
              refine dV OV (bb λu=>?_).s;rcases u.2.2 with h|h|h;·exact cC ((ac 32768 Y).2 h)
              ·exact cD ((ac 0 Y).2 h)
              ·exact Bool.noConfusion (bc.2 ⟨(ac 16384 Y).2 h.1,h.2⟩)
        ·have ee:((f1:Int) != 32768)=PV:=eB;go_wp2
         go_meet
         case rel=>exact⟨by rw[bb.o (λu=>cA ((a4.o 32768 Y).2 u.1))],rfl⟩
       case rest=>
       obtain⟨rfl,s⟩:=hcut;have s:=s.s;subst s;cases R with
       |false=>
        have T:=H (cx (λu=>Bool.noConfusion (L.2 u)));go_wp2_with fail;apply(ro R9 5 Y).m;rintro i K ⟨rfl,rx,kx⟩;rw[rz]at rx;have HX:=H (Ou (window:=a0) (b1:=b1) (b2:=b2) rx Y);clear rx;go_wp2_with fail;apply HX.o.m;rintro i wy ⟨rfl,ry,ky⟩;go_wp2
        go_end0
        exact⟨rfl,_,_,_,_,ry,by rw[T.o];exact⟨rfl,Y⟩,(K9.t kx).t ky⟩
       |true=>
        have HX:=H (db (L.1 rfl));go_wp2_with fail;apply HX.o.m;rintro i wy ⟨rfl,qy,fb,oy,ey,ry,dk,ky⟩;go_wp2
        go_end0
        exact⟨rfl,_,_,_,_,ry,dk,K9.t ky⟩
    ·have E:=H (JX (bt:=bt) (n:=257+f+(1+j)) R6 Y Y Y);rw[en]at E;go_wp2_with fail;apply E.o.m;rintro i w7 ⟨v7,rfl,A,k7⟩;have c7:=A.c4;have T:=H (a5.1 g1);go_wp2;refine av (v:=OW #[]) EB rfl ?_;exact⟨rfl,_,_,_,_,A,by rw[T.o];exact⟨rfl,Y⟩,K6.t k7⟩
   ·have em:((cb:Int) != 32768)=PV:=eB;have HC:=H (HB.toC GT (e':=nE 5 e) (by rw[ah cf]));have cj:nE 5 e=5/\ix (gC S p)=N:=by
     rcases HC.o with⟨h0,_⟩|h;·unfold nE at h0;split at h0<;>omega
     ·exact h
    go_wp2_with fail;apply(ro R6 5 Y).m;rintro i w7 ⟨rfl,A,k7⟩;rw[cj.1]at A;have E:=H (JX (bt:=bt) (n:=257+f+(1+j)) A Y Y Y);rw[en]at E;clear A;go_wp2_with fail;apply E.o.m;rintro i w8 ⟨v8,rfl,r8,k8⟩;have c8:=r8.c4;have T:=H (a5.1 cj.2);go_wp2;refine av (v:=OW #[]) EB rfl ?_;exact⟨rfl,_,_,_,_,r8,by rw[T.o];exact⟨rfl,Y⟩,(K6.t k7).t k8⟩
end
section
section
def gR.some{c:iA}{window most:Nat}:∀(n:Nat) (r:List Bool) (d:List Nat),G r<=n->∃f,gR c window most r d f
 |n,r,d,j=>by
  cases a:gY c window most r d with
  |error e=>exact⟨_,.err a⟩
  |ok x=>
   obtain⟨b,i,g⟩:=x;cases b with
   |false=>exact⟨_,.stop a⟩
   |true=>
    have k:=j4 a;cases n with
    |zero=>omega
    |succ n=>obtain⟨f,h⟩:=gR.some (c:=c) (window:=window) (most:=most) n i g Y;exact⟨f,.more a h⟩
def gR.shorter{c:iA}{l k:Nat}{r a:List Bool}{d b:List Nat}(h:gR c l k r d (.ok (a,b))):G a<G r:=by have:=h (λr d i=>∀a b,i=.ok (a,b)->G a<G r) (λr d m _ a b h=>by cases h) (λr d a b e g f h=>by cases h;exact j4 e) (λr d a b i e j g f h=>Nat.lt_trans (j g f h) (j4 e));exact this a b rfl
def wO(d f:List Nat)(g:Nat):∀k r b a c,jn d f g k r b=O (a,c)->G a<=G r
 |0,r,b,a,c,h=>by cases h
 |k+1,r,b,a,c,h=>by
  unfold jn at h;split at h
  ·split at h;·cases h;exact ag _
   ·cases h
  ·cases e:gZ d f r b with
   |none=>rw[e]at h;cases h
   |some l=>obtain⟨j,i⟩:=l;rw[e]at h;have h1:=lq e;have h2:=wO d f g k j i a c h;omega
def zO{r a:List Bool}{b:List Nat}(h:ix r=O (a,b)):G a<=G r:=by
 unfold ix at h;split at h;·cases h
 split at h;·cases h
 split at h;·cases h
 split at h;·cases h
 have h2:=wO _ _ _ _ _ _ _ _ h;rw[au]at h2;omega
def lI.some(window most:Nat)(r:List Bool)(e:List Nat):∃d,lI window most r e d:=by
 cases a:ix r with
 |none=>refine⟨.error 5,?_⟩;unfold lI;exact⟨λ_=>rfl,λf L h=>by rw[a]at h;cases h⟩
 |some x=>
  obtain⟨i,L⟩:=x;by_cases g:jA L (iq r)
  ·obtain⟨d,k⟩:=gR.some (c:=⟨cz (L.take (iq r)),gz (L.take (iq r)),cz (L.drop (iq r)),gz (L.drop (iq r))⟩) (window:=window) (most:=most) (G i) i e (ag _);refine⟨d,?_⟩;unfold lI;refine⟨λh=>(by rw[a]at h;cases h),λf j h=>?_⟩;rw[a]at h;cases h;exact⟨λb=>absurd g b,λ_=>k⟩
  ·refine⟨.error 5,?_⟩;unfold lI;refine⟨λ_=>rfl,λf j h=>?_⟩;rw[a]at h;cases h;exact⟨λ_=>rfl,λb=>absurd b g⟩
def lI.shorter{j f:Nat}{r d:List Bool}{g i:List Nat}(h:lI j f r g (.ok (d,i))):G d<G r:=by
 cases a:ix r with
 |none=>have:=h.1 a;cases this
 |some k=>
  obtain⟨e,b⟩:=k;by_cases c:jA b (iq r)
  ·have h1:=((h.2 e b a).2 c).shorter;have h2:=zO a;omega
  ·have:=(h.2 e b a).1 c;cases this
def i8(window most:Nat)(r:List Bool)(b:List Nat)(a:Except Nat (List Bool×List Nat)):Prop:=
 (G r<3/\a=.error 5)\/(3<=G r/\gw ((r.drop 1).take 2)=0/\jw most (r.drop 3) b=a)\/(3<=G r/\gw ((r.drop 1).take 2)=1/\gR jJ window most (r.drop 3) b a) \/
  (3<=G r/\gw ((r.drop 1).take 2)=2/\lI window most (r.drop 3) b a)\/(3<=G r/\gw ((r.drop 1).take 2)=3/\a=.error 5)
def kM(r:List Bool):Nat:=gw (r.take 1)
def Ao{b:Nat}{r a:List Bool}{c d:List Nat}(h:jw b r c=.ok (a,d)):G a<=G r:=by
 unfold jw at h;split at h;·cases h
 split at h;·cases h
 split at h
 ·simp only[Except.ok.injEq,Prod.mk.injEq]at h;rw[<-h.1];simp only[au];omega
 ·cases h
def i8.some(window most:Nat)(r:List Bool)(e:List Nat):∃a,i8 window most r e a:=by
 by_cases h3:G r<3;·exact⟨_,P3 ⟨h3,rfl⟩⟩
 have b:3<=G r:=Y;have g:=jk ((r.drop 1).take 2);rw[ay,au,b_ Y]at g;have f:gw ((r.drop 1).take 2)=0\/gw ((r.drop 1).take 2)=1\/gw ((r.drop 1).take 2)=2\/gw ((r.drop 1).take 2)=3:=Y;rcases f with c|c|c|c;·exact⟨_,P4 (P3 ⟨b,c,rfl⟩)⟩
 ·obtain⟨a,d⟩:=gR.some (c:=jJ) (window:=window) (most:=most) _ (r.drop 3) e (ag _);exact⟨a,P4 (P4 (P3 ⟨b,c,d⟩))⟩
 ·obtain⟨a,d⟩:=lI.some window most (r.drop 3) e;exact⟨a,P4 (P4 (P4 (P3 ⟨b,c,d⟩)))⟩
 ·exact⟨_,P4 (P4 (P4 (P4 ⟨b,c,rfl⟩)))⟩
def i8.shorter{e b:Nat}{r a:List Bool}{c d:List Nat}(h:i8 e b r c (.ok (a,d))):G a<G r/\3<=G r:=by
 have f:(r.drop 3).length=G r-3:=au;rcases h with⟨_,h⟩|⟨h3,_,h⟩|⟨h3,_,h⟩|⟨h3,_,h⟩|⟨_,_,h⟩;·cases h
 ·have:=Ao h;omega
 ·have:=h.shorter;omega
 ·have:=h.shorter;omega
 ·cases h
def iy(g f:Nat)(r:List Bool)(a:List Nat)(e:Except Nat (List Bool×List Nat)):Prop:=
 ∀b:List Bool->List Nat->Except Nat (List Bool×List Nat)->Prop,
  (∀r a h,i8 g f r a (.error h)->b r a (.error h)) ->(∀r a d c,i8 g f r a (.ok (d,c))->kM r=1->b r a (.ok (d,c))) ->(∀r a d c e,i8 g f r a (.ok (d,c))->kM r=0->b d c e->b r a e)->b r a e
section
variable{window most:Nat}{r c:List Bool}{o b:List Nat}{a:Except Nat (List Bool×List Nat)}
def iy.err{d:Nat}(h:i8 window most r o (.error d)):iy window most r o (.error d):=λ_ h1 _ _=>h1 _ _ _ h
def iy.stop(h:i8 window most r o (.ok (c,b)))(d:kM r=1):iy window most r o (.ok (c,b)):=λ_ _ h2 _=>h2 _ _ _ _ h d
def iy.more(h:i8 window most r o (.ok (c,b)))(e:kM r=0)(k:iy window most c b a):iy window most r o a:=λd h1 h2 h3=>h3 _ _ _ _ _ h e (k d h1 h2 h3)
def ym(window most:Nat)(r:List Bool)(o:List Nat)(a:Except Nat (List Bool×List Nat)):Prop:=
 (∃d,i8 window most r o (.error d)/\a=.error d)\/(∃c b,i8 window most r o (.ok (c,b))/\kM r=1/\a=.ok (c,b))\/(∃c b,i8 window most r o (.ok (c,b))/\kM r=0/\iy window most c b a)
def iy.parted(h:iy window most r o a):ym window most r o a:=
 (h (λr o a=>iy window most r o a/\ym window most r o a)
  (λ_ _ g d=>⟨.err d,P3 ⟨g,d,rfl⟩⟩) (λ_ _ c b d e=>⟨.stop d e,P4 (P3 ⟨c,b,d,e,rfl⟩)⟩) (λ_ _ c b _ d e f=>⟨.more d e f.1,P4 (P4 ⟨c,b,d,e,f.1⟩)⟩)).2
end
def qk(r:List Bool):kM r=0\/kM r=1:=by
 have b:=jk (r.take 1);unfold kM;have:(r.take 1).length<=1:=by rw[ay];omega
 rcases bU (r.take 1).length 1 with h|h
 ·have a:(r.take 1).length=0:=Y;rw[a]at b;omega
 ·have a:(r.take 1).length=1:=Y;rw[a]at b;omega
def iy.some(window most:Nat):∀(n:Nat) (r:List Bool) (d:List Nat),G r<=n->∃a,iy window most r d a
 |n,r,d,i=>by
  obtain⟨a,b⟩:=i8.some window most r d;cases a with
  |error e=>exact⟨_,.err b⟩
  |ok x=>
   obtain⟨g,f⟩:=x;rcases qk r with c|c
   ·have j:=b.shorter.1;cases n with
    |zero=>omega
    |succ n=>obtain⟨a,h⟩:=iy.some window most n g f Y;exact⟨a,.more b c h⟩
   ·exact⟨_,.stop b c⟩
def iR(a b:Nat):Prop:=a%16=8/\a/16<=7/\(256*a+b)%31=0/\b/32%2=0
def lu(b:Nat)(r:List Bool)(a:Except Nat (List Bool×List Nat)):Prop:=
 (¬(16<=G r/\iR (gw (r.take 8)) (gw ((r.drop 8).take 8)))/\a=.error 5)\/((16<=G r/\iR (gw (r.take 8)) (gw ((r.drop 8).take 8)))/\iy (2^(gw (r.take 8)/16+8)) b (r.drop 16) [] a)
def lu.some(most:Nat)(r:List Bool):∃a,lu most r a:=by
 by_cases h:16<=G r/\iR (gw (r.take 8)) (gw ((r.drop 8).take 8))
 ·obtain⟨a,b⟩:=iy.some (2^(gw (r.take 8)/16+8)) most _ (r.drop 16) [] (ag _);exact⟨a,P4 ⟨h,b⟩⟩
 ·exact⟨_,P3 ⟨h,rfl⟩⟩
end
end
section
variable{B b:Nat}{S:ByteArray}{a:Nat}{w:Gr}{p:Nat}{d:GI}{f:List Nat}{e:Nat}
def tT(S:ByteArray)(j a:Nat)(h:Except Nat (List Bool×List Nat))(i g:Nat)(c:List Nat)(e:Nat):Prop:=
 (e=0/\i=0/\g<=8*S.size/\iy j a (gC S g) c h/\(∀k∈c,k<256)/\j<=32768)\/(e=0/\i=1/\pE S h g c 0)\/(e≠0/\h=.error e)
def DW{l c i:Nat}{j:Except Nat (List Bool×List Nat)}{g:List Nat}(h:tT S l a j c i g e)(k:¬(c=0/\e=0)):pE S j i g e:=by
 rcases h with⟨h1,h2,_⟩|⟨rfl,_,h⟩|⟨h1,rfl⟩;·exact absurd ⟨h2,h1⟩ k
 ·exact h
 ·exact⟨rfl,h1⟩
def KL{g m o e1 q e2 i:Nat}{l:Except Nat (List Bool×List Nat)}(h1:tR S 8 0 0 g o e1)(h2:tR S 8 o e1 m q e2)(j:lu a (gC S 0) l)(h3:(iR g m/\i=e2)\/(¬iR g m/\i=nE 5 e2)):tT S (2^(g/16+8)) a l 0 q [] i:=by
 have x:(gC S 0).length=8*S.size:=by rw[nX];omega
 have n:(gC S 0).length<16->l=.error 5:=λy=>by
  rcases j with⟨_,h⟩|⟨⟨h,_⟩,_⟩;·exact h
  ·omega
 rcases h1 with⟨h,_⟩|⟨_,u,rfl,rfl,rfl⟩|⟨_,u,rfl,rfl,rfl⟩;·exact absurd rfl h
 ·rcases h2 with⟨h,_⟩|⟨_,v,rfl,rfl,rfl⟩|⟨_,v,rfl,rfl,rfl⟩;·exact absurd rfl h
  ·have s:gC S (0+8)=(gC S 0).drop 8:=by rw[sS]
   have r:gC S (0+8+8)=(gC S 0).drop 16:=by rw[sS]
   rw[s]at h3;rcases h3 with⟨c,rfl⟩|⟨c,rfl⟩
   ·rcases j with⟨h,_⟩|⟨_,h⟩;·exact absurd ⟨Y,c⟩ h
    ·refine P3 ⟨rfl,rfl,Y,by rw[r];exact h,eA,?_⟩;have t:=c.2.1;generalize gw ((gC S 0).take 8)/16=k at t;exact aA (aJ Y (show k+8<=15 by omega)) cO
   ·rcases j with⟨_,rfl⟩|⟨⟨_,h⟩,_⟩;·exact P4 (P4 ⟨by simp[nE],by simp[nE]⟩)
    ·exact absurd h c
  ·have:=n Y;subst this;rcases h3 with⟨c,rfl⟩|⟨c,rfl⟩<;>exact P4 (P4 ⟨by simp[nE],by simp[nE]⟩)
 ·have:=n Y;subst this;rcases h2 with⟨_,rfl,rfl,rfl⟩|⟨h,_⟩|⟨h,_⟩;·rcases h3 with⟨c,rfl⟩|⟨c,rfl⟩<;>exact P4 (P4 ⟨by simp[nE],by simp[nE]⟩)
  ·cases h
  ·cases h
def BF(S:ByteArray)(j a:Nat)(q:Except Nat (List Bool×List Nat))(i:List Nat)(o l h c e:Nat):Prop:=
 (e≠0/\q=.error e)\/(e=0/\c<=8*S.size/\o<c/\h<4/\(∀r∈i,r<256)/\j<=32768/\(l=0\/l=1) /\
  (∃g,(h=0->jw a (gC S c) i=g)/\(h=1->gR jJ j a (gC S c) i g)/\(h=2->lI j a (gC S c) i g)/\(h=3->g=.error 5) /\
   ∀m n k,pE S g m n k->tT S j a q l m n k/\(k=0->o<m)))
def Ic{q A E g C e1 D e2:Nat}{o:Except Nat (List Bool×List Nat)}{t:List Nat}(h:tT S q a o 0 g t 0)(h1:tR S 1 g 0 A C e1)(h2:tR S 2 C e1 E D e2):BF S q a o t g A E D e2:=by
 rcases h with⟨_,_,hq,v,P,z⟩|⟨_,h,_⟩|⟨h,_⟩
 ·have aa:=nX S g;have y:(gC S g).length<3->o=.error 5:=λac=>by
   rcases v.parted with⟨e,c,rfl⟩|⟨u,j,c,_⟩|⟨u,j,c,_⟩
   ·rcases c with⟨_,h⟩|⟨h3,_⟩|⟨h3,_⟩|⟨h3,_⟩|⟨h3,_⟩;·exact h
    all_goals omega
   ·have:=c.shorter;omega
   ·have:=c.shorter;omega
  rcases h1 with⟨h,_⟩|⟨_,V,rfl,rfl,rfl⟩|⟨_,V,rfl,rfl,rfl⟩;·exact absurd rfl h
  ·rcases h2 with⟨h,_⟩|⟨_,W,rfl,rfl,rfl⟩|⟨_,W,rfl,rfl,rfl⟩;·exact absurd rfl h
   ·have J:gC S (g+1)=(gC S g).drop 1:=by rw[sS]
    have F:gC S (g+1+2)=(gC S g).drop 3:=by rw[sS]
    have L:gw ((gC S (g+1)).take 2)<4:=by have:=jk ((gC S (g+1)).take 2);rw[ay,nX,b_ Y]at this;exact this
    refine P4 ⟨rfl,Y,Y,L,P,z,qk _,?_⟩;have R:∃n,i8 q a (gC S g) t n/\∀l j k,pE S n l j k->tT S q a o (kM (gC S g)) l j k/\(k=0->g<l):=by
     rcases v.parted with⟨e,c,rfl⟩|⟨u,j,c,r,rfl⟩|⟨u,j,c,r,M⟩
     ·refine⟨_,c,λl j k i=>?_⟩;obtain⟨rfl,m⟩:=i;exact⟨P4 (P4 ⟨m,rfl⟩),λh=>absurd h m⟩
     ·refine⟨_,c,λl X k i=>?_⟩;have K:=i.1;subst K;refine⟨P4 (P3 ⟨rfl,r,i⟩),λ_=>?_⟩;obtain⟨_,_,rfl,x,_⟩:=i;have:=c.shorter.1;rw[nX,nX]at this;omega
     ·refine⟨_,c,λl X k i=>?_⟩;obtain⟨rfl,rfl,rfl,x,Q⟩:=i;refine⟨P3 ⟨rfl,r,x,M,Q,z⟩,λ_=>?_⟩;have:=c.shorter.1;rw[nX,nX]at this;omega
    obtain⟨n,c,m⟩:=R;refine⟨n,?_,?_,?_,?_,m⟩<;>intro T<;>rw[J]at T<;>(try rw[F])<;>rcases c with⟨h3,h⟩|⟨h3,s,h⟩|⟨h3,s,h⟩|⟨h3,s,h⟩|⟨h3,s,h⟩<;>first|exact h|omega
   ·have:=y Y;exact P3 ⟨eA,this⟩
  ·have:=y Y;rcases h2 with⟨_,rfl,rfl,rfl⟩|⟨h,_⟩|⟨h,_⟩;·exact P3 ⟨eA,this⟩
   ·cases h
   ·cases h
 ·cases h
 ·exact absurd rfl h
def Ob(h:jx B b S a w 0 d [] 0){a0:Except Nat (List Bool×List Nat)}(bw:lu a (gC S 0) a0):K8 Qe 111 #[M2 (O ⟨b,0,N⟩)] w λo w'=>o=Ps (OW #[])/\∃n v m e,jx B b S a w' n v m e/\pE S a0 n m e/\gb 5 B [b] w w':=by
 have bb:=H bw
 go_in
 go_wp2_with fail;apply(rL h 8 Y).m;rintro o w1 ⟨i,q1,e1,rfl,r1,B1,b0,k1⟩;have b2:i<256:=by simpa using b0
 go_wp2_with fail;apply(rL r1 8 Y).m;rintro o w2 ⟨y,q2,e2,rfl,r2,B2,b1,k2⟩;have b3:y<256:=by simpa using b1
 have HH:L1 (∀e3,((iR i y/\e3=e2)\/(¬iR i y/\e3=nE 5 e2))->tT S (2^(i/16+8)) a a0 0 q2 [] e3):=λe3 h3=>KL B1 B2 bb h3;have K2:=H (k1.t k2)
 go_upto_region 3 with fail
 go_cut [35]from 15 (λc wx=>∃a1:Bool,c=OV a1/\L1 (a1=PV↔¬iR i y)/\wx=w2)
 case first=>
  by_cases g1:i%16=8
  ·have bf:((i:Int)%16 != 8)=P2:=eB;by_cases g2:i/16<=7
   ·have bi:¬(7:Int)<(i:Int)/16:=Y;by_cases g3:(256*i+y)%31=0
    ·have bm:((256*(i:Int)+y)%31 != 0)=P2:=eB;by_cases g4:y/32%2=0
     ·have bo:((y:Int)/32%2 != 0)=P2:=eB;go_wp2
      go_meet
      case rel=>exact⟨P2,rfl,⟨λh=>(by cases h),λh=>(absurd (show iR i y from⟨g1,g2,g3,g4⟩) h)⟩,rfl⟩
     ·have bo:((y:Int)/32%2 != 0)=PV:=eB;go_wp2
      go_meet
      case rel=>exact⟨PV,rfl,⟨λh=>((λad:iR i y=>g4 ad.2.2.2)),λh=>(rfl)⟩,rfl⟩
    ·have bm:((256*(i:Int)+y)%31 != 0)=PV:=eB;go_wp2
     go_meet
     case rel=>exact⟨PV,rfl,⟨λh=>((λad:iR i y=>g3 ad.2.2.1)),λh=>(rfl)⟩,rfl⟩
   ·have bi:(7:Int)<(i:Int)/16:=Y;go_wp2
    go_meet
    case rel=>exact⟨PV,rfl,⟨λh=>((λad:iR i y=>g2 ad.2.1)),λh=>(rfl)⟩,rfl⟩
  ·have bf:((i:Int)%16 != 8)=PV:=eB;go_wp2
   go_meet
   case rel=>exact⟨PV,rfl,⟨λh=>((λad:iR i y=>g1 ad.1)),λh=>(rfl)⟩,rfl⟩
 case rest=>
  obtain⟨a1,rfl,HT,rfl⟩:=hcut;cases a1
  ·have hg:=Classical.byContradiction λh=>(by cases HT.2 h)
   obtain⟨D,hW⟩:∃D,wc=D:=⟨_,rfl⟩;have R3:=H (show jx B b S a D q2 d [] e2 by rw[<-hW];exact r2);have K3:=H (show gb 5 B [b] w D by rw[<-hW];exact K2);have V:=H (HH e2 (P3 ⟨hg,rfl⟩));obtain⟨aa,hE⟩:∃aa,e2=aa:=⟨_,rfl⟩;rw[hE]at R3 V
   (try rw[hW])
   have hk:i/16<16:=Y;have ek:(i:Int)/16=((i/16:Nat):Int):=Y;rw[ek];generalize i/16=k at *;go_wp2;go_loopw [5,6] (λvw vi wr=>∃j:Nat,j<=k+8/\vw=I U (2^j:Nat)/\vi=I U j/\wr=D) (λ_ vi _=>k+8-(intOf vi).toNat)
   case atStart=>exact⟨0,Y,rfl,rfl,rfl⟩
   case round=>
    obtain⟨j,hi,rfl,rfl,rfl⟩:=hrel;have hp:2^j<=2^23:=aJ Y Y;have a2:(2:Nat)^23=8388608:=cO;rw[a2]at hp;by_cases c:j<k+8
    ·have c':(j:Int)<(k:Int)+8:=Y;have HP:=H (cY 2 j);generalize 2^j=ao at *;go_wp2;go_roundw
     case rel=>exact⟨j+1,Y,by rw[HP.o];simp;omega,by go_num,trivial⟩
     case measure=>simp[intOf];omega
    ·have c':¬(j:Int)<(k:Int)+8:=Y;obtain rfl:j=k+8:=Y;generalize 2^(k+8)=ao at *;go_wp2;go_loopw [7,8] (λvl _ wr=>∃(z n:Nat) (v:GI) (m:List Nat) (e:Nat),vl=I U z/\z<=1/\jx B b S a wr n v m e/\L1 (tT S ao a a0 z n m e)/\gb 5 B [b] w wr) (λ_ _ wr=>if errOf b wr=0 then 8*S.size+1-posOf b wr else 0)
     case atStart=>exact⟨0,q2,d,[],aa,rfl,Y,R3,V,K3⟩
     case round=>
      obtain⟨z,n,v,m,e,rfl,hl,r,W,kk⟩:=hrel;have L:=H r.posOf;have K:=H r.errOf;have c4:=r.c4;by_cases cl:z=0
      ·subst cl;by_cases ce:e=0
       ·subst ce;have bv:n<=8*S.size:=by
         rcases W.o with⟨_,_,h,_⟩|⟨_,h,_⟩|⟨h,_⟩;·exact h
         ·cases h
         ·exact absurd rfl h
        go_wp2_with fail;apply(rL r 1 Y).m;rintro o w4 ⟨t,q4,e4,rfl,r4,B4,a9,k4⟩;have br:t<2:=by simpa using a9
        go_wp2_with fail;apply(rL r4 2 Y).m;rintro o w5 ⟨T,q5,e5,rfl,x,B5,ba,k5⟩;have bz:T<4:=by simpa using ba
        have d4:=x.c4;have C:=H ((kk.t k4).t k5);have HM:=H (Ic W B4 B5);have J:t<=1:=Y;rcases HM.o with⟨he,hR⟩|⟨rfl,al,bt,bx,a3,hw,bs,rr,a5,a6,a7,a8,hn⟩
        ·have bq:((e5:Int) != 0)=PV:=eB;have m5:=H x.errOf;have HR:=H hR;go_wp2;go_roundw
         case rel=>exact⟨t,q5,v,m,e5,rfl,J,x,P4 (P4 ⟨he,HR⟩),C⟩
         case measure=>rw[K.o,L.o,m5.o,ah he,ai rfl];omega
        ·have X:=H hn;have H0:=H a5;have H1:=H a6;have H2:=H a7;have V:=H a8;have ac:=H a3;have a4:T=0\/T=1\/T=2\/T=3:=Y;rcases a4 with rfl|rfl|rfl|rfl
         ·go_wp2_with fail;apply(Dn x al ac (H0 eA)).m;rintro o w6 ⟨rfl,R,P,M,F,g,E,s⟩;have l:=X.o _ _ _ E;have q:=H l.1;have A:=H l.2;have u:=H g.errOf;have Q:=H g.posOf;go_wp2;go_roundw
          case rel=>exact⟨t,R,P,M,F,rfl,J,g,q,C.t s⟩
          case measure=>
           rw[K.o,L.o,u.o,Q.o,ai rfl];have:=A.o;split;·have:=this Y;omega
           ·omega
         ·go_wp2_with fail;apply(JR x hw (P3 ⟨rfl,al,H1 eA,ac⟩)).m;rintro o w6 ⟨rfl,R,P,M,F,g,E,s⟩;have l:=X.o _ _ _ E;have q:=H l.1;have A:=H l.2;have u:=H g.errOf;have Q:=H g.posOf;go_wp2;go_roundw
          case rel=>exact⟨t,R,P,M,F,rfl,J,g,q,C.t s⟩
          case measure=>
           rw[K.o,L.o,u.o,Q.o,ai rfl];have:=A.o;split;·have:=this Y;omega
           ·omega
         ·go_wp2_with fail;apply(JZ x al ac hw (H2 eA)).m;rintro o w6 ⟨rfl,R,P,M,F,g,E,s⟩;have l:=X.o _ _ _ E;have q:=H l.1;have A:=H l.2;have u:=H g.errOf;have Q:=H g.posOf;go_wp2;go_roundw
          case rel=>exact⟨t,R,P,M,F,rfl,J,g,q,C.t s⟩
          case measure=>
           rw[K.o,L.o,u.o,Q.o,ai rfl];have:=A.o;split;·have:=this Y;omega
           ·omega
         ·go_wp2_with fail;apply(ro x 5 Y).m;rintro o w6 ⟨rfl,g,s⟩;rw[rz]at g;have l:=X.o q5 m 5 (by rw[V.o eA];exact⟨rfl,Y⟩);have q:=H l.1;have u:=H g.errOf;go_wp2;go_roundw
          case rel=>exact⟨t,q5,v,m,5,rfl,J,g,q,C.t s⟩
          case measure=>rw[K.o,L.o,u.o,ah Y,ai rfl];omega
       ·have bc:((e:Int)==0)=P2:=eB;go_wp2
        go_end0
        exact⟨rfl,n,v,m,e,r,DW W (λh=>ce h.2),kk⟩
      ·have bd:((z:Int)==0)=P2:=eB;go_wp2
       go_end0
       exact⟨rfl,n,v,m,e,r,DW W (λh=>cl h.1),kk⟩
  ·have hg:=HT.o.1 rfl;go_wp2_with fail;apply(ro r2 5 Y).m;rintro o w3 ⟨rfl,r3,k3⟩;obtain⟨D,hW⟩:∃D,w3=D:=⟨_,rfl⟩;have R3:=H (show jx B b S a D q2 d [] (nE 5 e2)by rw[<-hW];exact r3);have K3:=H (show gb 5 B [b] w D by rw[<-hW];exact(K2.t k3));have V:=H (HH (nE 5 e2) (P4 ⟨hg,rfl⟩));obtain⟨aa,hE⟩:∃aa,(nE 5 e2)=aa:=⟨_,rfl⟩;rw[hE]at R3 V
   (try rw[hW])
   have hk:i/16<16:=Y;have ek:(i:Int)/16=((i/16:Nat):Int):=Y;rw[ek];generalize i/16=k at *;go_wp2;go_loopw [5,6] (λvw vi wr=>∃j:Nat,j<=k+8/\vw=I U (2^j:Nat)/\vi=I U j/\wr=D) (λ_ vi _=>k+8-(intOf vi).toNat)
   case atStart=>exact⟨0,Y,rfl,rfl,rfl⟩
   case round=>
    obtain⟨j,hi,rfl,rfl,rfl⟩:=hrel;have hp:2^j<=2^23:=aJ Y Y;have a2:(2:Nat)^23=8388608:=cO;rw[a2]at hp;by_cases c:j<k+8
    ·have c':(j:Int)<(k:Int)+8:=Y;have HP:=H (cY 2 j);generalize 2^j=ao at *;go_wp2;go_roundw
     case rel=>exact⟨j+1,Y,by rw[HP.o];simp;omega,by go_num,trivial⟩
     case measure=>simp[intOf];omega
    ·have c':¬(j:Int)<(k:Int)+8:=Y;obtain rfl:j=k+8:=Y;generalize 2^(k+8)=ao at *;go_wp2;go_loopw [7,8] (λvl _ wr=>∃(z n:Nat) (v:GI) (m:List Nat) (e:Nat),vl=I U z/\z<=1/\jx B b S a wr n v m e/\L1 (tT S ao a a0 z n m e)/\gb 5 B [b] w wr) (λ_ _ wr=>if errOf b wr=0 then 8*S.size+1-posOf b wr else 0)
     case atStart=>exact⟨0,q2,d,[],aa,rfl,Y,R3,V,K3⟩
     case round=>
      obtain⟨z,n,v,m,e,rfl,hl,r,W,kk⟩:=hrel;have L:=H r.posOf;have K:=H r.errOf;have c4:=r.c4;by_cases cl:z=0
      ·subst cl;by_cases ce:e=0
       ·subst ce;have bv:n<=8*S.size:=by
         rcases W.o with⟨_,_,h,_⟩|⟨_,h,_⟩|⟨h,_⟩;·exact h
         ·cases h
         ·exact absurd rfl h
        go_wp2_with fail;apply(rL r 1 Y).m;rintro o w4 ⟨t,q4,e4,rfl,r4,B4,a9,k4⟩;have br:t<2:=by simpa using a9
        go_wp2_with fail;apply(rL r4 2 Y).m;rintro o w5 ⟨T,q5,e5,rfl,x,B5,ba,k5⟩;have bz:T<4:=by simpa using ba
        have d4:=x.c4;have C:=H ((kk.t k4).t k5);have HM:=H (Ic W B4 B5);have J:t<=1:=Y;rcases HM.o with⟨he,hR⟩|⟨rfl,al,bt,bx,a3,hw,bs,rr,a5,a6,a7,a8,hn⟩
        ·have bq:((e5:Int) != 0)=PV:=eB;have m5:=H x.errOf;have HR:=H hR;go_wp2;go_roundw
         case rel=>exact⟨t,q5,v,m,e5,rfl,J,x,P4 (P4 ⟨he,HR⟩),C⟩
         case measure=>rw[K.o,L.o,m5.o,ah he,ai rfl];omega
        ·have X:=H hn;have H0:=H a5;have H1:=H a6;have H2:=H a7;have V:=H a8;have ac:=H a3;have a4:T=0\/T=1\/T=2\/T=3:=Y;rcases a4 with rfl|rfl|rfl|rfl
         ·go_wp2_with fail;apply(Dn x al ac (H0 eA)).m;rintro o w6 ⟨rfl,R,P,M,F,g,E,s⟩;have l:=X.o _ _ _ E;have q:=H l.1;have A:=H l.2;have u:=H g.errOf;have Q:=H g.posOf;go_wp2;go_roundw
          case rel=>exact⟨t,R,P,M,F,rfl,J,g,q,C.t s⟩
          case measure=>
           rw[K.o,L.o,u.o,Q.o,ai rfl];have:=A.o;split;·have:=this Y;omega
           ·omega
         ·go_wp2_with fail;apply(JR x hw (P3 ⟨rfl,al,H1 eA,ac⟩)).m;rintro o w6 ⟨rfl,R,P,M,F,g,E,s⟩;have l:=X.o _ _ _ E;have q:=H l.1;have A:=H l.2;have u:=H g.errOf;have Q:=H g.posOf;go_wp2;go_roundw
          case rel=>exact⟨t,R,P,M,F,rfl,J,g,q,C.t s⟩
          case measure=>
           rw[K.o,L.o,u.o,Q.o,ai rfl];have:=A.o;split;·have:=this Y;omega
           ·omega
         ·go_wp2_with fail;apply(JZ x al ac hw (H2 eA)).m;rintro o w6 ⟨rfl,R,P,M,F,g,E,s⟩;have l:=X.o _ _ _ E;have q:=H l.1;have A:=H l.2;have u:=H g.errOf;have Q:=H g.posOf;go_wp2;go_roundw
          case rel=>exact⟨t,R,P,M,F,rfl,J,g,q,C.t s⟩
          case measure=>
           rw[K.o,L.o,u.o,Q.o,ai rfl];have:=A.o;split;·have:=this Y;omega
           ·omega
         ·go_wp2_with fail;apply(ro x 5 Y).m;rintro o w6 ⟨rfl,g,s⟩;rw[rz]at g;have l:=X.o q5 m 5 (by rw[V.o eA];exact⟨rfl,Y⟩);have q:=H l.1;have u:=H g.errOf;go_wp2;go_roundw
          case rel=>exact⟨t,q5,v,m,5,rfl,J,g,q,C.t s⟩
          case measure=>rw[K.o,L.o,u.o,ah Y,ai rfl];omega
       ·have bc:((e:Int)==0)=P2:=eB;go_wp2
        go_end0
        exact⟨rfl,n,v,m,e,r,DW W (λh=>ce h.2),kk⟩
      ·have bd:((z:Int)==0)=P2:=eB;go_wp2
       go_end0
       exact⟨rfl,n,v,m,e,r,DW W (λh=>cl h.1),kk⟩
end
def pT(r:List Bool):Nat->Nat
 |0=>0
 |a+1=>256*pT r a+gw ((r.drop (8*a)).take 8)
def lM(r:List Bool)(a:List Nat):Except Nat (List Nat):=
 if(r.drop (G r%8)).length=32/\ie (r.drop (G r%8)) 4=sE a then .ok a else .error 5
def lk(b:Nat)(r:List Bool)(e:Except Nat (List Nat)):Prop:=
 (∃a,lu b r (.error a)/\e=.error a)\/(∃d c,lu b r (.ok (d,c))/\e=lM d c)
def lk.some(most:Nat)(r:List Bool):∃b,lk most r b:=by
 obtain⟨a,h⟩:=lu.some most r;cases a with
 |error e=>exact⟨_,P3 ⟨e,h,rfl⟩⟩
 |ok x=>exact⟨_,P4 ⟨x.1,x.2,h,rfl⟩⟩
def ru(r:List Bool)(b:List Nat):pT r 4=65536*(iU b).2+(iU b).1↔ie r 4=sE b:=by
 have f:=Dr b;have a:∀k,gw ((r.drop k).take 8)<256:=λk=>by
  have a:=jk ((r.drop k).take 8);have d:((r.drop k).take 8).length<=8:=by rw[ay];omega
  have e:2^((r.drop k).take 8).length<=2^8:=aJ Y d;omega
 have h1:=a 8;have h2:=a 16;have h3:=a 24;have c:ie r 4=[gw ((r.drop 0).take 8),gw ((r.drop 8).take 8),gw ((r.drop 16).take 8),gw ((r.drop 24).take 8)]:=rfl;have e2:pT r 4=256*(256*(256*(256*0+gw ((r.drop 0).take 8))+gw ((r.drop 8).take 8))+gw ((r.drop 16).take 8))+gw ((r.drop 24).take 8):=rfl;rw[c,e2,sE];simp only[List.cons.injEq,and_true];omega
section
variable{B b:Nat}{S:ByteArray}{most:Nat}{w:Gr}{p:Nat}{d:GI}{a:List Nat}{e:Nat}
def yZ(h:Except Nat (List Nat))(f:List Nat)(e:Nat):Prop:=match h with
 | .ok g=>e=0/\f=g/\∀i∈f,i<256
 | .error c=>e=c/\c≠0
def vE(S:ByteArray)(c e0 f h g e:Nat):Prop:=
 (e0≠0/\e=e0)\/(e0=0/\e=0/\g=c+8*f/\g<=8*S.size/\h=pT (gC S c) f)\/(e0=0/\e=5/\8*S.size<c+32)
def vE.step{q0 e0 g j q v q' e':Nat}(h:vE S q0 e0 g j q e)(l:g<4)(f:tR S 8 q e v q' e'):vE S q0 e0 (g+1) (256*j+v) q' e':=by
 rcases h with⟨c,rfl⟩|⟨rfl,rfl,rfl,m,rfl⟩|⟨rfl,rfl,k⟩
 ·rcases f with⟨_,_,_,h⟩|⟨h,_⟩|⟨h,_⟩;·exact P3 ⟨c,h⟩
  ·exact absurd h c
  ·exact absurd h c
 ·rcases f with⟨h,_⟩|⟨_,i,rfl,rfl,rfl⟩|⟨_,i,rfl,rfl,rfl⟩;·exact absurd rfl h
  ·refine P4 (P3 ⟨rfl,rfl,Y,i,?_⟩);rw[pT,sS]
  ·exact P4 (P4 ⟨rfl,rfl,Y⟩)
 ·rcases f with⟨_,_,_,h⟩|⟨h,_⟩|⟨h,_⟩;·exact P4 (P4 ⟨rfl,h,k⟩)
  ·cases h
  ·cases h
def Ka{o:Except Nat (List Bool×List Nat)}{q:Except Nat (List Nat)}{l q0 e0 u t i e2:Nat}{f:List Nat}(r:pE S o l f e0)(y:q0=(l+7)/8*8)(z:(∃e,o=.error e/\q=.error e)\/(∃n m,o=.ok (n,m)/\q=lM n m))
  (h:vE S q0 e0 4 u t i) (g:e2=if u=65536*(iU f).2+(iU f).1/\t=8*S.size then i else nE 5 i):yZ q f e2:=by
 have s:∀k,k≠0->i=k->e2=k:=λk A h=>by
  rw[g];split;·exact h
  ·unfold nE;rw[ah Y];exact h
 rcases z with⟨F,rfl,rfl⟩|⟨n,m,rfl,rfl⟩
 ·obtain⟨rfl,j⟩:=r;rcases h with⟨_,h⟩|⟨h,_⟩|⟨h,_⟩;·exact⟨s _ j h,j⟩
  ·exact absurd h j
  ·exact absurd h j
 ·obtain⟨rfl,rfl,rfl,D,v⟩:=r;have e1:(gC S l).drop ((gC S l).length%8)=gC S q0:=by rw[sS,nX,y];congr 1;omega
  have x:=nX S q0;unfold lM;rw[e1,x];rcases h with⟨h,_⟩|⟨_,rfl,rfl,E,rfl⟩|⟨_,rfl,C⟩;·exact absurd rfl h
  ·by_cases c:pT (gC S q0) 4=65536*(iU f).2+(iU f).1/\q0+8*4=8*S.size
   ·rw[ai c]at g;rw[ai ⟨Y,(ru _ _).1 c.1⟩];exact⟨g,rfl,v⟩
   ·rw[ah c]at g;rw[ah (λh=>c ⟨(ru _ _).2 h.2,Y⟩)];exact⟨g,cO⟩
  ·rw[ah (λh=>Y)];exact⟨s 5 cO rfl,cO⟩
end
section
variable{B C y D u q:Nat}{d:List Nat}{m:Nat}{j:List GI}{w:Gr}{p E left g:Nat}{F:GI}{z:List Nat}
def oX(a:List Nat):Nat->Nat
 |0=>0
 |b+1=>oX a b+a.count (b+1)
def Io(b:Nat)(e:List Nat):∀a,oX (b::e) a=oX e a+if 1<=b/\b<=a then 1 else 0
 |0=>by simp only[oX];rw[ah Y]
 |a+1=>by
  rw[oX,oX,Io b e a];by_cases c:b=a+1
  ·subst c;rw[List.count_cons_self,ah Y,ai Y];omega
  ·rw[List.count_cons_of_ne Y];by_cases f:1<=b/\b<=a;·rw[ai f,ai Y];omega
   ·rw[ah f,ah Y];omega
def Ip:∀(b:List Nat) (a:Nat),oX b a<=G b
 | [],a=>by
  have:∀a,oX [] a=0:=λa=>by
   induction a with
   |zero=>rfl
   |succ a c=>rw[oX,c];rfl
  rw[this];exact aH _
 |e::b,a=>by have:=Ip b a;rw[Io,aj];split<;>omega
def Jz(b:List Nat):∀a,a<=15->ld (cz b) a=oX b a
 |0,_=>rfl
 |a+1,h=>by rw[ld,oX,Jz b a Y,wU b (a+1) Y Y]
def yQ{a:List Nat}(c:∀b,b<G a->nth a b<16):(gz a).length<=G a:=by rw[xA c,<-Df,Jz a 15 (ag _)];exact Ip a 15
def CX{a b:List Nat}(s1:∀c,c<G a->nth a c<16)(e:∀c,c<G b->nth b c<16)(h1:G a<=1000)(h2:G b<=1000):CO ⟨cz a,gz a,cz b,gz b⟩:=
 ⟨by show ld (cz a) 15<=_;rw[Df,xA s1];exact ag _,aA (yQ s1) h1,by show ld (cz b) 15<=_;rw[Df,xA e];exact ag _,aA (yQ e) h2⟩
def Nh{v o r:Nat}{b e:List Nat}{T:List Bool}(h:w.heap[v]?=O (Pp (oC b e o r).toArray 164 (0,0)))(h1:iJ w o (gz b))(h2:iJ w r (gz e))(s1:∀n,n<G b->nth b n<16)(V:∀n,n<G e->nth e n<16)(M:Fl B C y D u q d m j w T g F z):lj B C y D u q d m j g v 0 ⟨cz b,gz b,cz e,gz e⟩ w:=by
 intro K r' ac aa X k;have A:∀J c t f,w.heap[J]?=O (Pp c t f)->t ≠ 141->t ≠ 167->J∉[C,y]:=λJ c t f s t1 W l=>by
  obtain⟨p,E,left,a,_,_⟩:=M;rcases cQ.1 l with rfl|l;·rw[a.rd.blk]at s;exact t1 FW
  ·rcases cQ.1 l with rfl|l;·rw[a.blk]at s;exact W FW
   ·cases l
 have S:=k.block v _ (A _ _ _ _ h cO cO) h (P4 (by intro c f i;simp at i));have Q:iJ K o (gz b):=by obtain⟨c,f,a,x⟩:=h1;exact⟨c,f,k.block o _ (A _ _ _ _ a cO cO) a (P4 (by intro L P i;simp at i)),x⟩
 have R:iJ K r (gz e):=by obtain⟨c,f,a,x⟩:=h2;exact⟨c,f,k.block r _ (A _ _ _ _ a cO cO) a (P4 (by intro L P i;simp at i)),x⟩
 exact yJ S Q R s1 V
def fm{l f:GI}{n:Gr}{a:Except Nat (List Bool×List Nat)}{b:MB}{i:Gr}(k:gb 5 B [C,y] w n)(h:vC B C y D u q d m j g n l a b i):(∃c,a=.error c/\b=gU c/\vC B C y D u q d m j g w f a b i)\/(∃r e,a=.ok (r,e)/\b=Ps l/\vC B C y D u q d m j g w f a (Ps f) i):=by
 cases a with
 |error c=>exact P3 ⟨c,rfl,h.1,h.1,k.t h.2⟩
 |ok s=>obtain⟨r,e⟩:=s;obtain⟨h1,o,h2,h3⟩:=h;exact P4 ⟨r,e,rfl,h1,rfl,o,h2,k.t h3⟩
section
variable{a:List Bool}(h:Fl B C y D u q d m j w a g F z)
def xI(c:G a=0):K8 Qe 161 #[M2 (O ⟨y,0,N⟩)] w λb f=>b=gU 5/\gb 5 B [C,y] w f:=by
 obtain rfl:a=[]:=bM.1 c
 go_in
 go_wp2_with fail;apply(E9 h).m;rintro b i ⟨rfl,e⟩;exact⟨rfl,rfl,e⟩
def KO(k:0<G a)(l:G a<3):K8 Qe 161 #[M2 (O ⟨y,0,N⟩)] w λc t=>c=gU 5/\gb 5 B [C,y] w t:=by
 cases a with
 |nil=>simp at k
 |cons b s=>
  rw[aj]at l;have i:=H (λf (e:Fl B C y D u q d m j f s g F z)=>v_ 2 Y Y e);cases b;all_goals
   go_in
   go_wp2_with fail;apply(A9 h).m;rintro c f ⟨rfl,e,n⟩;simp only[Bool.toNat_false,Bool.toNat_true];go_wp2_with fail;apply(i _ e).m;rintro c v ⟨rfl,r⟩;exact⟨rfl,rfl,n.t r⟩
end
def E6{K:List Bool}(h:Fl B C y D u q d m j w K g F z)(P:xr w C y j)(bs:oV w)(hG : 1<B)(hw:g<=32768){v:Except Nat (List Bool×List Nat)}(f:i8 g m K z v):K8 Qe 161 #[M2 (O ⟨y,0,N⟩)] w (vC B C y D u q d m j g w (OV (decide (kM K=0))) v):=by
 by_cases c0:G K=0
 ·have J:v=.error 5:=by
   rcases f with⟨_,h⟩|⟨h3,_⟩|⟨h3,_⟩|⟨h3,_⟩|⟨h3,_⟩;·exact h
   all_goals omega
  subst J;exact xI h c0
 by_cases c3:G K<3
 ·have J:v=.error 5:=by
   rcases f with⟨_,h⟩|⟨h3,_⟩|⟨h3,_⟩|⟨h3,_⟩|⟨h3,_⟩;·exact h
   all_goals omega
  subst J;exact KO h Y c3
 cases K with
 |nil=>simp at c0
 |cons b i=>
  rw[aj]at c3;have bz:=h.lt;have a8 : 1∉[C,y]:=eB;have bo:OV (decide (kM (b::i)=0))=OV (!b):=by unfold kM;cases b<;>simp[gw]
  rw[bo];have a5:=H f;obtain⟨n,R⟩:∃n,gw (i.take 2)=n:=⟨_,rfl⟩;have ac:=H (λw1 (f1:Fl B C y D u q d m j w1 i g F z)=>sN 2 Y (show 2<=G i by omega) f1);rw[R]at ac;have HS:=H R;have b0:n<4:=by have:=jk (i.take 2);rw[R,ay,b_ Y]at this;exact this
  have L:L1 ((n=0->jw m (i.drop 2) z=v)/\(n=1->gR jJ g m (i.drop 2) z v)/\(n=2->lI g m (i.drop 2) z v)/\(n=3->v=.error 5)):=by
   have e1:(b::i).drop 1=i:=rfl;have e3:(b::i).drop 3=i.drop 2:=rfl;rcases a5.o with⟨h3,_⟩|⟨h3,S,h⟩|⟨h3,S,h⟩|⟨h3,S,h⟩|⟨h3,S,h⟩;·rw[aj]at h3;omega
   all_goals
    rw[e1,R]at S
    (try rw[e3]at h)
    refine⟨λl=>?_,λl=>?_,λl=>?_,λl=>?_⟩<;>first|exact h|omega
  have HX:=H P;have HO:=H bs;have bv:n=0\/n=1\/n=2\/n=3:=Y;cases b;all_goals
   go_in
   go_wp2_with fail;apply(A9 h).m;rintro A w1 ⟨rfl,f1,k1⟩;simp only[Bool.toNat_false,Bool.toNat_true];go_wp2_with fail;apply(ac _ f1).m;rintro A w2 ⟨rfl,f2,k2⟩;have x:=H (k1.t k2);have a7:=H (HX.kept x);have a6:=H (HO.kept x hG a8);have W:=H f2;rcases bv with rfl|rfl|rfl|rfl
   ·have M:=H (Pt W (L.1 rfl));go_wp2_with fail;apply M.o.m;intro A e h3;rcases fm x h3 with⟨a3,rfl,rfl,k⟩|⟨r,a4,rfl,rfl,k⟩;·exact⟨rfl,k⟩
    ·go_wp2;go_ret;exact k
   ·have M:=H (Iq y 4 jJ fO a7.codes W hw (L.2.1 rfl));go_wp2_with fail;apply M.o.m;intro A e h3;rcases fm x h3 with⟨a3,rfl,rfl,k⟩|⟨r,a4,rfl,rfl,k⟩;·exact⟨rfl,k⟩
    ·go_wp2;go_ret;exact k
   ·have M:=H (M_ W a6 hG);go_wp2_with fail;apply M.o.m;intro A e h3;rcases h3 with⟨aa,rfl,k3⟩|⟨T,a,o,s,l,bc,rfl,i1,i2,f3,k3⟩
    ·have J:v=.error 5:=by
      have ht:=L.o.2.2.1 eA;rcases aa with aa|⟨T,a,h1,h2⟩;·exact ht.1 aa
      ·exact(ht.2 T a h1).1 h2
     subst J;exact⟨rfl,rfl,x.t k3⟩
    ·have ao:=((L.2.2.1 eA).2 T a l).2 bc;have a0:G a<=400/\∀Q∈a,Q<16:=by
      rw[mg]at l;split at l;·cases l
      split at l;·cases l
      obtain⟨q1,q2⟩:=Jb l;exact⟨Y,q2⟩
     obtain⟨c,hA⟩:∃c,iq (i.drop 2)=c:=⟨_,rfl⟩;rw[hA]at ao i1 i2 ⊢;have s1:∀t,t<(a.take c).length->nth (a.take c) t<16:=λt hi=>ue (λQ P=>a0.2 Q (dj P)) t hi;have s2:∀t,t<(a.drop c).length->nth (a.drop c) t<16:=λt hi=>ue (λQ P=>a0.2 Q (dA P)) t hi;have bq:=CX s1 s2 pt lB;have br:(oC (a.take c) (a.drop c) o s).toArray.all (·.oneCell')=PV:=by simp[oC,tL,gL,Value.oneCell']
     have a2:(oC (a.take c) (a.drop c) o s).length=34:=by rw[oC,ak,wu,wu]
     have a1:=List.size_toArray.t a2;have hz:(e.alloc i_).heap[e.heap.size]?=O i_:=bn _ _;have bd:L1 ((Tryz.prog.info? 164).map (·.size)=O (oC (a.take c) (a.drop c) o s).toArray.size):=by unfold Hid;rw[a1];kernel_rfl
     have bw:L1 ((e.alloc i_).there e.heap.size 0 (oC (a.take c) (a.drop c) o s).toArray.size):=by unfold Hid;rw[a1];exact tJ hz
     have bt:=Ds hz (by rw[a2];rfl);have bf:iJ ((e.alloc i_).setCells e.heap.size 0 (oC (a.take c) (a.drop c) o s)) o (gz (a.take c)):=by obtain⟨X,fz,f,hc⟩:=i1;exact⟨X,fz,by rw[xg _ (by have:=ae f;omega)];exact mA _ f,hc⟩
     have bi:iJ ((e.alloc i_).setCells e.heap.size 0 (oC (a.take c) (a.drop c) o s)) s (gz (a.drop c)):=by obtain⟨X,fz,f,hc⟩:=i2;exact⟨X,fz,by rw[xg _ (by have:=ae f;omega)];exact mA _ f,hc⟩
     have bb:D<e.heap.size:=by obtain⟨p,E,left,f,_,_⟩:=f3;have:=f.rd.hB;have:=f.rd.hb;have:=ae f.rd.blk;omega
     have al:Fl B C y D u q d m j ((e.alloc i_).setCells e.heap.size 0 (oC (a.take c) (a.drop c) o s)) T g F z:=(f3.alloc i_).keptE (e:= 164) cO (zB hz (ag _) _) bb;have bm:gb 5 B [C,y] e ((e.alloc i_).setCells e.heap.size 0 (oC (a.take c) (a.drop c) o s)):=gb.setCellsNew ((gb.refl _ _ _ _).alloc _) (ag _) _;have ad:=H (Iq e.heap.size 0 _ bq (Nh bt bf bi s1 s2 al) al hw ao);have KS:=H (x.t (k3.t bm));generalize bx:oC (a.take c) (a.drop c) o s=V at *;go_wp2_with (refine eI rfl 164 (.tmp 4) (.tmp 29) rfl e.heap.size 0 V.toArray rfl rfl bw bd br ?_);generalize a9:World.setCells (e.alloc _) e.heap.size 0 V=WS;have ba:(e.alloc i_).setCells e.heap.size 0 V=WS:=a9;rw[ba]at ad KS;apply ad.o.m;intro A w5 h5;rcases fm KS h5 with⟨a3,rfl,rfl,k⟩|⟨r,a4,rfl,rfl,k⟩;·exact⟨rfl,k⟩
     ·go_wp2;go_ret;exact k
   ·have J:=L.o.2.2.2 rfl;subst J;go_wp2_with fail;apply(mn _ rfl _).m;rintro A e ⟨rfl,rfl⟩;exact⟨rfl,rfl,x⟩
end
section
variable{B j i q l k:Nat}{d:List Nat}{f:Nat}{c:List GI}{w:Gr}{p g left n:Nat}{r:GI}{m:List Nat}
def B_:∀a:Fin 256,bits .and U (a.val:Int) 15=((a.val%16:Nat):Int):=by decide +kernel
def Ca:∀a:Fin 256,bits .and U (a.val:Int) 32=((32*(a.val/32%2):Nat):Int):=by decide +kernel
def CV(a b:Nat)(h:a<256)(o:b<256):bits .or U ((a:Int)*256) (b:Nat)=((256*a+b:Nat):Int):=by have e:((a:Int)*256)=((256*a:Nat):Int):=Y;rw[e,Fu _ _ Y Y];have:=FP b a 8 Y;rw[Nat.or_comm,show 256*a=a*2^8 by omega,this];omega
def zv(h:Bi B j i q l k d f c w 0 g left n r m)(u:G d=0):K8 Qe 160 #[M2 (O ⟨i,0,N⟩)] w λe x=>e=gU 5/\gb 5 B [j,i] w x:=by
 have s:=H (zI (w:=w.drew) (by rw[u];exact h.rd.drewN 1));have t:=h.c0
 go_in
 go_wp2_with fail;refine om (vW i (M2 (O ⟨j,0,N⟩))) aG ?_;intro a;have b:vW i (M2 (O ⟨j,0,N⟩)) (Array.replicate 16 P2) w.drew:=t;refine tm 0 a b λa b=>?_;refine tm 1 a b λa b=>?_;refine tm 2 a b λa b=>?_;refine tm 3 a b λa b=>?_;refine tm 4 a b λa b=>?_;refine tm 7 a b λa b=>?_;refine tm 8 a b λa b=>?_;refine tm 9 a b λa b=>?_;refine tm 10 a b λa b=>?_;refine tm 11 a b λa b=>?_;refine on 5 a λy z=>?_;go_simp;apply s.o.m;rintro e A ⟨rfl,v⟩;exact⟨rfl,rfl,((gb.refl _ _ _ _).drew).t (v.m eA)⟩
def zw(h:Bi B j i q l k d f c w 0 g left n r m)(D:G d=1):K8 Qe 160 #[M2 (O ⟨i,0,N⟩)] w λe F=>e=gU 5/\gb 5 B [j,i] w F:=by
 have v:=H (sQ (w:=w.drew) (h.rd.drewN 1) Y);have z:=h.c0
 go_in
 go_wp2_with fail;refine om (vW i (M2 (O ⟨j,0,N⟩))) aG ?_;intro a;have b:vW i (M2 (O ⟨j,0,N⟩)) (Array.replicate 16 P2) w.drew:=z;refine tm 0 a b λa b=>?_;refine tm 1 a b λa b=>?_;refine tm 2 a b λa b=>?_;refine tm 3 a b λa b=>?_;refine tm 4 a b λa b=>?_;refine tm 7 a b λa b=>?_;refine tm 8 a b λa b=>?_;refine tm 9 a b λa b=>?_;refine tm 10 a b λa b=>?_;refine tm 11 a b λa b=>?_;refine on 5 a λy s=>?_;go_simp;apply v.o.m;rintro e J ⟨rfl,u,t⟩;have x:=H (zI (show Rd B j q l k d f J (G d) r m by rw[D];exact u));refine s _ _ ((h.rdKept u (((gb.refl _ _ _ _).drewN 1).t t)).c0) (λA C=>?_);have a:=A;have b:=C
 (try simp only[nH])
 refine tm 6 a b λa b=>?_;refine on 12 a λy s=>?_;go_simp;apply x.o.m;rintro e K ⟨rfl,E⟩;exact⟨rfl,rfl,((gb.refl _ _ _ _).drew).t ((t.t E).m eA)⟩
def vS(B j i q l k:Nat)(d:List Nat)(f:Nat)(c:List GI)(g left:Nat)(r:GI)(m:List Nat)(w:Gr)(b:MB)(a:Gr):Prop:=
 (¬(2<=G d/\iR (nth d 0) (nth d 1))/\b=gU 5/\gb 5 B [j,i] w a)\/((2<=G d/\iR (nth d 0) (nth d 1))/\b=Ps (OW #[])/\Bi B j i q l k d f c a 2 g left (2^(nth d 0/16+8)) r m/\gb 5 B [j,i] w a)
def L9(h:Bi B j i q l k d f c w 0 g left n r m)(X:2<=G d):K8 Qe 160 #[M2 (O ⟨i,0,N⟩)] w (vS B j i q l k d f c g left r m w):=by
 have c0:=h.c0;have tok:True:=trivial;have P:=h.rd.byt 0 Y;have Q:=h.rd.byt 1 Y;have o1:=CV (nth d 0) (nth d 1) P Q;have o2:=B_ ⟨nth d 0,P⟩;have o3:=Ca ⟨nth d 1,Q⟩;simp only[]at o2 o3;have E:=H (sQ (w:=w.drew) (h.rd.drewN 1) Y);have F:=H (λT (D:Rd B j q l k d f T (0+1) r m)=>sQ D Y);rw[bH]at E F;have C:L1 (iR (nth d 0) (nth d 1)↔nth d 0%16=8/\nth d 0/16<=7/\(256*nth d 0+nth d 1)%31=0/\nth d 1/32%2=0):=Iff.rfl;have v:L1 (∀e u,(¬iR (nth d 0) (nth d 1)/\e=gU 5/\gb 5 B [j,i] w u)\/(iR (nth d 0) (nth d 1)/\e=Ps (OW #[])/\Bi B j i q l k d f c u 2 g left (2^(nth d 0/16+8)) r m/\gb 5 B [j,i] w u)->vS B j i q l k d f c g left r m w e u):=λe u W=>by
  rcases W with⟨h1,h2⟩|⟨h1,h2⟩;·exact P3 ⟨λh=>h1 h.2,h2⟩
  ·exact P4 ⟨⟨X,h1⟩,h2⟩
 generalize nth d 0=a at *;generalize nth d 1=b at *
 go_in
 go_wp2_with fail;go_region_with (first|(go_at_call 214;have _t:=tok;apply E.o.m;rintro e T ⟨rfl,D,R⟩;have h1:=h.rdKept D (((gb.refl _ _ _ _).drewN 1).t R);have c1:=h1.c0)|(go_at_call 214;apply(F _ D).m;rintro e w2 ⟨rfl,r2,S⟩;have h2:=h1.rdKept r2 S;have c2:=h2.c0;have c3:=h2.c3;have f3:=h2.fz 3));all_goals (
  have kk:gb 5 B [j,i] w w2:=((gb.refl _ _ _ _).drewN 1).t ((R.t S).m eA);have x:=H kk;have y:=H h2;by_cases J:a%16=8
  ·have aa:(((a%16:Nat):Int)==8)=PV:=eB;go_wp2_with fail;refine(Ek _ (by first|rfl|(simp;omega)) _).m ?_;rintro e u ⟨rfl,rfl⟩;by_cases K:a/16<=7
   ·go_wp2_with fail;apply(ou _ _ _ _ Y Y).m;rintro e u ⟨rfl,rfl⟩;go_wp2_with fail;apply(nT _).m;rintro e u ⟨rfl,rfl⟩;go_wp2_with fail;by_cases L:(256*a+b)%31=0
    ·refine(Ek _ (by first|rfl|(rw[beq_iff_eq];omega)) _).m ?_;rintro e u ⟨rfl,rfl⟩;go_wp2_with fail;by_cases M:b/32%2=0
     ·refine(Ek _ (by first|rfl|(rw[beq_iff_eq];omega)) _).m ?_;rintro e u ⟨rfl,rfl⟩;have z:=C.o.2 ⟨J,K,L,M⟩;have V:a/16=0\/a/16=1\/a/16=2\/a/16=3\/a/16=4\/a/16=5\/a/16=6\/a/16=7:=Y;rcases V with t|t|t|t|t|t|t|t
      ·have A:(a:Int)/16=0:=Y;have s:L1 (2^(a/16+8)=256):=by rw[t];rfl
       go_wp2
       go_end0
       exact v _ _ (P4 ⟨z,rfl,by rw[s.o];exact y.set3 256,x.setCell eA _⟩)
      ·have A:(a:Int)/16=1:=Y;have s:L1 (2^(a/16+8)=512):=by rw[t];rfl
       go_wp2
       go_end0
       exact v _ _ (P4 ⟨z,rfl,by rw[s.o];exact y.set3 512,x.setCell eA _⟩)
      ·have A:(a:Int)/16=2:=Y;have s:L1 (2^(a/16+8)=1024):=by rw[t];rfl
       go_wp2
       go_end0
       exact v _ _ (P4 ⟨z,rfl,by rw[s.o];exact y.set3 1024,x.setCell eA _⟩)
      ·have A:(a:Int)/16=3:=Y;have s:L1 (2^(a/16+8)=2048):=by rw[t];rfl
       go_wp2
       go_end0
       exact v _ _ (P4 ⟨z,rfl,by rw[s.o];exact y.set3 2048,x.setCell eA _⟩)
      ·have A:(a:Int)/16=4:=Y;have s:L1 (2^(a/16+8)=4096):=by rw[t];rfl
       go_wp2
       go_end0
       exact v _ _ (P4 ⟨z,rfl,by rw[s.o];exact y.set3 4096,x.setCell eA _⟩)
      ·have A:(a:Int)/16=5:=Y;have s:L1 (2^(a/16+8)=8192):=by rw[t];rfl
       go_wp2
       go_end0
       exact v _ _ (P4 ⟨z,rfl,by rw[s.o];exact y.set3 8192,x.setCell eA _⟩)
      ·have A:(a:Int)/16=6:=Y;have s:L1 (2^(a/16+8)=16384):=by rw[t];rfl
       go_wp2
       go_end0
       exact v _ _ (P4 ⟨z,rfl,by rw[s.o];exact y.set3 16384,x.setCell eA _⟩)
      ·have A:(a:Int)/16=7:=Y;have s:L1 (2^(a/16+8)=32768):=by rw[t];rfl
       go_wp2
       go_end0
       exact v _ _ (P4 ⟨z,rfl,by rw[s.o];exact y.set3 32768,x.setCell eA _⟩)
     ·refine(mn _ (by first|rfl|(rw[beq_eq_false_iff_ne];omega)) _).m ?_;rintro e u ⟨rfl,rfl⟩;exact⟨rfl,v _ _ (P3 ⟨λh=>M (C.1 h).2.2.2,rfl,x⟩)⟩
    ·refine(mn _ (by first|rfl|(rw[beq_eq_false_iff_ne];omega)) _).m ?_;rintro e u ⟨rfl,rfl⟩;exact⟨rfl,v _ _ (P3 ⟨λh=>L (C.1 h).2.2.1,rfl,x⟩)⟩
   ·go_wp2_with fail;apply(qP _ _ _ _ (P4 Y)).m;rintro e u ⟨rfl,rfl⟩;go_wp2_with fail;apply(mn _ rfl _).m;rintro e u ⟨rfl,rfl⟩;exact⟨rfl,v _ _ (P3 ⟨λh=>K (C.1 h).2.1,rfl,x⟩)⟩
  ·go_wp2_with fail;apply(mn _ eB _).m;rintro e u ⟨rfl,rfl⟩;exact⟨rfl,v _ _ (P3 ⟨λh=>J (C.1 h).1,rfl,x⟩)⟩)
end
def Jy{c:iA}{p s:Nat}{r t:List Bool}{k n:List Nat}{b:Bool}(h:gY c p s r k=.ok (b,t,n))(j:∀a∈k,a<256):∀a∈n,a<256:=by
 unfold gY at h;cases h1:gN c.cs c.ss r with
 |none=>rw[h1]at h;cases h
 |some a=>
  obtain⟨o,u⟩:=a;rw[h1]at h;simp only[]at h;by_cases g:o<256
  ·rw[ai g]at h;split at h
   ·cases h;intro d e;rcases bG.1 e with e|e;·exact j d e
    ·rw[cU.1 e];exact g
   ·cases h
  rw[ah g]at h;split at h;·cases h;exact j
  split at h;·cases h
  cases h2:iL (gu o).2 u with
  |none=>rw[h2]at h;cases h
  |some a=>
   obtain⟨a,v⟩:=a;rw[h2]at h;simp only[]at h;cases h3:gN c.cd c.sd v with
   |none=>rw[h3]at h;cases h
   |some d=>
    obtain⟨f,w⟩:=d;rw[h3]at h;simp only[]at h;by_cases l:29<f;·rw[ai l]at h;cases h
    rw[ah l]at h;cases m:iL (gq f).2 w with
    |none=>rw[m]at h;cases h
    |some x=>
     obtain⟨d,y⟩:=x;rw[m]at h;simp only[]at h;by_cases i:(gq f).1+d<=G k/\(gq f).1+d<=p
     ·rw[ai i]at h;split at h
      ·cases h;have q:=Cg ⟨f,Y⟩;simp only[]at q;exact yx _ Y i.1 j _
      ·cases h
     ·rw[ah i]at h;cases h
def pb{c:iA}{n k:Nat}{r b:List Bool}{f a:List Nat}(h:gR c n k r f (.ok (b,a)))(e:∀d∈f,d<256):∀d∈a,d<256:=
 h (λr f i=>(∀d∈f,d<256)->∀b a,i=.ok (b,a)->∀d∈a,d<256) (λ_ _ _ _ _ b a h=>by cases h) (λ_ _ m l g e b a h=>by cases h;exact Jy g e) (λ_ _ m l i g j e b a h=>j (Jy g e) b a h) e b a rfl
def Ie{m k:Nat}{r l:List Bool}{g i:List Nat}(h:i8 m k r g (.ok (l,i)))(d:∀a∈g,a<256):∀a∈i,a<256:=by
 rcases h with⟨_,h⟩|⟨_,_,h⟩|⟨_,_,h⟩|⟨_,_,h⟩|⟨_,_,h⟩;·cases h
 ·unfold jw at h;split at h;·cases h
  split at h;·cases h
  split at h
  ·simp only[Except.ok.injEq,Prod.mk.injEq]at h;rw[<-h.2];intro a b;rcases bG.1 b with b|b;·exact d a b
   ·exact E2 _ _ a b
  ·cases h
 ·exact pb h d
 ·cases e:ix (r.drop 3)with
  |none=>have:=h.1 e;cases this
  |some a=>
   obtain⟨j,c⟩:=a;by_cases f:jA c (iq (r.drop 3));·exact pb ((h.2 j c e).2 f) d
   ·have:=(h.2 j c e).1 f;cases this
 ·cases h
def KH(a b:List Nat):gA (a++b)=gA a++gA b:=by simp[gA]
def Fa(a:List Nat)(f:∀e∈a,e<256)(b:Nat)(h:b<=G a):ie (gA a) b=a.take b:=by
 have e1:gA (ie (gA a) b)=(gA a).take (8*b):=zd _ b (by rw[g8];omega);have e2:(gA a).take (8*b)=gA (a.take b):=by
  conv=>lhs;rw[<-dd b a,KH]
  exact List.take_left' (by rw[g8,ay];omega)
 refine E5 _ _ (by rw[Ib,ay];omega) (λd c=>CN (E2 _ _) d c) (λd c=>CN (λe g=>f e (dj g)) d c) (e1.t e2)
def Ld{b:List Nat}(h:∀a,a<G b->nth b a<256):∀d∈b,d<256:=by intro d e;obtain⟨a,c,rfl⟩:=cK e;have:=h a c;simpa[nth,af c]using this
def PP{d:List Nat}(c:2<=G d):∃a b e,d=a::b::e:=by
 match d,c with
 |a::b::e,_=>exact⟨a,b,e,rfl⟩
def M8{e:List Nat}{k:Nat}{f:Except Nat (List Bool×List Nat)}(i:∀j,j<G e->nth e j<256)(h:lu k (gA e) f):(¬(2<=G e/\iR (nth e 0) (nth e 1))/\f=.error 5)\/((2<=G e/\iR (nth e 0) (nth e 1))/\iy (2^(nth e 0/16+8)) k (gA (e.drop 2)) [] f):=by
 unfold lu at h;rw[g8]at h;by_cases c:2<=G e
 ·obtain⟨a,b,d,rfl⟩:=PP c;have p:a<256:=i 0 eA;have q:b<256:=i 1 eA;have l:nth (a::b::d) 0=a:=rfl;have m:nth (a::b::d) 1=b:=rfl;have n:(a::b::d).drop 2=d:=rfl;rw[l,m,n];have e0:gA (a::b::d)=jY a++(jY b++gA d):=by rw[kN,kN]
  have e1:(gA (a::b::d)).take 8=jY a:=by rw[e0];exact List.take_left' (jC a)
  have e2:(gA (a::b::d)).drop 8=jY b++gA d:=by rw[e0];exact fG (jC a)
  have g:((gA (a::b::d)).drop 8).take 8=jY b:=by rw[e2];exact List.take_left' (jC b)
  have e4:(gA (a::b::d)).drop 16=gA d:=by
   have o:(gA (a::b::d)).drop 16=((gA (a::b::d)).drop 8).drop 8:=by rw[di]
   rw[o,e2];exact fG (jC b)
  rw[e1,g,e4,mI a p,mI b q]at h;clear e0 e1 e2 g e4 l m n;rcases h with⟨h1,h2⟩|⟨h1,h2⟩;·exact P3 ⟨λh=>h1 ⟨by have:=h.1;omega,h.2⟩,h2⟩
  ·exact P4 ⟨⟨c,h1.2⟩,h2⟩
 ·rcases h with⟨_,h2⟩|⟨⟨h1,_⟩,_⟩;·exact P3 ⟨λh=>c h.1,h2⟩
  ·omega
def OH{a:List Nat}{r:List Bool}{e:List Nat}{b:Nat}(g:∀f,f<G a->nth a f<256)(l:b<=G a)(i:gA (a.drop b)=r.drop (G r%8)):lM r e=if (G a)=b+4/\(a.drop b).take 4=sE e then .ok e else .error 5:=by
 unfold lM;rw[<-i,g8,au];by_cases c:G a=b+4
 ·rw[Fa _ (λk j=>Ld g k (dA j)) 4 lB];by_cases d:(a.drop b).take 4=sE e;·rw[ai ⟨Y,d⟩,ai ⟨c,d⟩]
  ·rw[ah (λh=>d h.2),ah (λh=>d h.2)]
 ·rw[ah (λh=>Y),ah (λh=>c h.1)]
section
variable{B g j f b:Nat}{d:List Nat}{a:Nat}{w:Gr}{p:Nat}{k:GI}{i:List Nat}
def Ph(h:Rd B g j f b d a w p k i):K8 Qe 188 #[Z (O ⟨j,f,N⟩) (G d) b,I U p] w λq n=>q=Ps (I U (gh d p:Nat))/\n=w:=by
 have u:=H h.dat;have R:=h.cp;have S:=h.lc;clear h
 go_in
 go_wp2;refine wp_scope_jumps 0 (λr n=>n=w/\∃(l:Nat) (v x y z A C D E F J K L M P:GI),r={ tmps:=#[Z (O ⟨j,f,N⟩) (G d) b,I U l,undef,undef,I U 0,v,x,y,z,A,C,D,E,F,J,K,L,M,P],defers:=[]}/\l<=G d/\L1 (gh d l=gh d p)) (λr _=>G d-(intOf (r.tmps.getD 1 undef)).toNat) rfl ?_ ?_
 ·by_cases c:p<G d
  ·have t:(p:Int)<G d:=Y;have Q:=u.o p c;cases m:mf (nth d p)
   ·have e:=vL (λh=>by rw[m]at h;cases h.2);go_wp2
    go_step3
    go_wp2_with (go_at_call 250;apply(yh _ _).m;rintro q n ⟨rfl,rfl⟩;rw[m]);simp only[Exit.jump];go_ret;exact⟨by rw[e];rfl,rfl⟩
   ·have e:=vM c m;go_wp2
    go_step3
    go_wp2_with (go_at_call 250;apply(yh _ _).m;rintro q n ⟨rfl,rfl⟩;rw[m])
    go_step3
    refine⟨rfl,rfl,p+1,_,_,_,_,_,_,_,_,_,_,_,_,_,_,rfl,Y,e.s⟩
  ·have t:¬(p:Int)<G d:=Y;have e:=vL (λh=>c h.1);go_wp2
   go_step3
   go_wp2;simp only[Exit.jump];go_ret;exact⟨by rw[e];rfl,rfl⟩
 ·rintro r n ⟨rfl,l,v,x,y,z,A,C,D,E,F,J,K,L,M,P,rfl,T,s⟩;by_cases c:l<G d
  ·have t:(l:Int)<G d:=Y;have Q:=u.o l c;cases m:mf (nth d l)
   ·have e:=vL (λh=>by rw[m]at h;cases h.2);go_wp2_with (go_at_call 250;apply(yh _ _).m;rintro q n ⟨rfl,rfl⟩;rw[m]);simp only[Exit.jump];go_ret;exact⟨by rw[<-s.o,e];rfl,rfl⟩
   ·have e:=vM c m;go_wp2_with (go_at_call 250;apply(yh _ _).m;rintro q n ⟨rfl,rfl⟩;rw[m])
    go_step3
    refine⟨rfl,⟨rfl,l+1,_,_,_,_,_,_,_,_,_,_,_,_,_,_,rfl,Y,e.s.t s⟩,?_⟩;simp[intOf];omega
  ·have t:¬(l:Int)<G d:=Y;have e:=vL (λh=>c h.1);go_wp2;simp only[Exit.jump];go_ret;exact⟨by rw[<-s.o,e];rfl,rfl⟩
def EL(h:Rd B g j f b d a w p k i):K8 Qe 155 #[M2 (O ⟨g,0,N⟩)] w λe c=>e=Ps (OW #[])/\Rd B g j f b d a c (gh d p) k i/\gb 5 B [g] w c :=
 GN h (gh d p) (GJ h.lp) (Ph (h.drewN 1))
def vh(h:Rd B g j f b d a w p k i)(l:gh d p<G d):K8 Qe 211 #[M2 (O ⟨g,0,N⟩)] w λc e=>c=Ps (I .u8 (nth d (gh d p):Nat))/\Rd B g j f b d a e (gh d p+1) k i/\gb 5 B [g] w e:=by
 go_in
 go_wp2_with (first|(go_at_call 155;apply(EL h).m;rintro c o ⟨rfl,h1,m⟩)|(go_at_call 214;apply(sQ h1 l).m;rintro c q ⟨rfl,h2,n⟩));go_ret;exact⟨rfl,h2,m.t n⟩
def FF(h:Rd B g j f b d a w p k i)(m:G d<=gh d p):K8 Qe 211 #[M2 (O ⟨g,0,N⟩)] w λc r=>c=gU 5/\gb 5 B [g] w r:=by
 have l:=Nat.le_antisymm (GJ h.lp) m;have e:=H (EL h);rw[l]at e
 go_in
 go_wp2_with fail;apply e.o.m;rintro c s ⟨rfl,h1,n⟩;go_wp2_with fail;apply(zI h1).m;rintro c t ⟨rfl,q⟩;exact⟨rfl,rfl,n.t q⟩
def Ea(h:Rd B g j f b d a w p k i)(v:p≠G d):K8 Qe 156 #[M2 (O ⟨g,0,N⟩)] w λl s=>l=gU 5/\∃q,s=w.drewN q:=by
 unfold gU;have m:=h.c0;have n:=h.c1;have r:L1 (((p:Int)==(G d:Int))=P2):=by unfold Hid;simp;omega
 go_in
 go_wp2_with fail;refine om (A7 g (Z (O ⟨j,f,N⟩) (G d) b) p) aG ?_;intro c;have e:A7 g (Z (O ⟨j,f,N⟩) (G d) b) p (Array.replicate 11 P2) w.drew:=⟨m,n⟩;refine tm 0 c e λc e=>?_;refine tm 1 c e λc e=>?_;refine tm 2 c e λc e=>?_;refine tm 3 c e λc e=>?_;refine tm 4 c e λc e=>?_;refine tm 5 c e λc e=>?_;refine tm 6 c e λc e=>?_;refine tm 7 c e λc e=>?_;refine tm 8 c e λc e=>?_;refine tm 9 c e λc e=>?_;refine on 10 c λt u=>?_;go_simp;apply(mn _ r _).m;rintro l x ⟨rfl,rfl⟩;exact⟨rfl,rfl,1,rfl⟩
def tU(B g j f b:Nat)(d:List Nat)(a:Nat)(w:Gr)(h:Except Nat (List Nat))(e:MB)(c:Gr):Prop:=match h with
 | .ok m=>e=Ps (OW #[])/\∃n,Rd B g j f b d a c (G d) n m/\gb 5 B [g] w c
 | .error l=>e=gU l/\gb 5 B [g] w c
def BL(l B g j f b:Nat)(d:List Nat)(a:Nat)(r:Nat->List Nat->Except Nat (List Nat)->Prop)(q:Nat->List Nat->Except Nat (List Nat))(h:Nat)(n:List Nat)(m:Except Nat (List Nat)):Prop:=
 (∃c e,h<c/\r c e m/\yr l B g j f b d a h n PV c e)\/(∃c e,m=q c e/\yr l B g j f b d a h n P2 c e)\/(∃o:Nat,m=.error o/\vO l B g j f b d a h n o)
def rE(d:List Nat)(p:Nat)(c:List Nat):Except Nat (List Nat):=if p<G d then .error 5 else .ok c
def Lu{J:Nat->List Nat->Except Nat (List Nat)->Prop}{q:Except Nat (List Nat)}(W:∀l e,J l e q->G e<=a->l<=G d->BL 154 B g j f b d a J (mG d) l e q)(T:J p i q)(h:Rd B g j f b d a w p k i):K8 Qe 113 #[M2 (O ⟨g,0,N⟩)] w λm w'=>tU B g j f b d a w q m w':=by
 have S:=H W
 go_in
 go_wp2;go_loopw [3] (λ_ wr=>∃(l:Nat) (e:List Nat) (L:GI),L1 (J l e q)/\Rd B g j f b d a wr l L e/\gb 5 B [g] w wr) (λ_ wr=>G d-posOf g wr)
 case atStart=>exact⟨p,i,k,T,h,gb.refl _ _ _ _⟩
 case round=>
  obtain⟨l,e,L,P,r,x⟩:=hrel;have mr:=H r.posOf;rcases S.o l e P r.lo r.lp with⟨y,K,aa,V,s⟩|⟨y,K,C,s⟩|⟨ac,C,s⟩
  ·have o:=H s;have Q:=H V;go_wp2_with fail;apply(o _ _ r).m;rintro m M ⟨rfl,D,t,n⟩;have m2:=H t.posOf;have lp:=t.lp;go_wp2;go_roundw
   case rel=>exact⟨y,K,D,Q,t,x.t n⟩
   case measure=>rw[mr.o,m2.o];omega
  ·have o:=H s;have v:=H C;go_wp2_with fail;apply(o _ _ r).m;rintro m M ⟨rfl,D,t,n⟩;go_wp2_with fail;apply(EL t).m;rintro m w2 ⟨rfl,u,F⟩;have X:=u.lp;by_cases c:gh d y<G d
   ·go_wp2_with fail;apply(Ea u Y).m;rintro m w3 ⟨rfl,z,rfl⟩;refine⟨rfl,?_⟩;rw[v.o,mG,ai c];exact⟨rfl,((x.t n).t F).drewN z⟩
   ·obtain⟨A,E⟩:∃A,gh d y=A:=⟨_,rfl⟩;have R:=H E;rw[E]at u c X;obtain rfl:A=G d:=Y;go_wp2_with fail;apply(Eb u).m;rintro m w3 ⟨rfl,z,rfl⟩;go_wp2
    go_end0
    rw[v.o,mG,R.o,ah (Nat.lt_irrefl _)];exact⟨rfl,D,u.drewN z,((x.t n).t F).drewN z⟩
  ·have o:=H s;have v:=H C;go_wp2_with fail;apply(o _ _ r).m;rintro m M ⟨rfl,n⟩;refine⟨rfl,?_⟩;rw[v.o];exact⟨rfl,x.t n⟩
def LC{J:Nat->List Nat->Except Nat (List Nat)->Prop}{s:Except Nat (List Nat)}(Q:∀l e,J l e s->G e<=a->l<=G d->BL 158 B g j f b d a J (rE d) l e s)(M:J p i s)(h:Rd B g j f b d a w p k i):K8 Qe 115 #[M2 (O ⟨g,0,N⟩)] w λn T=>tU B g j f b d a w s n T:=by
 have L:=H Q
 go_in
 go_wp2;go_loopw [2] (λ_ wr=>∃(l:Nat) (e:List Nat) (D:GI),L1 (J l e s)/\Rd B g j f b d a wr l D e/\gb 5 B [g] w wr) (λ_ wr=>G d-posOf g wr)
 case atStart=>exact⟨p,i,k,M,h,gb.refl _ _ _ _⟩
 case round=>
  obtain⟨l,e,D,F,r,v⟩:=hrel;have S:=H r.posOf;rcases L.o l e F r.lo r.lp with⟨x,C,W,P,t⟩|⟨x,C,z,t⟩|⟨ac,z,t⟩
  ·have q:=H t;have K:=H P;go_wp2_with fail;apply(q _ _ r).m;rintro n E ⟨rfl,A,m,o⟩;have R:=H m.posOf;have X:=m.lp;go_wp2;go_roundw
   case rel=>exact⟨x,C,A,K,m,v.t o⟩
   case measure=>rw[S.o,R.o];omega
  ·have q:=H t;have u:=H z;go_wp2_with fail;apply(q _ _ r).m;rintro n E ⟨rfl,A,m,o⟩;have aa:=m.lp;by_cases c:x<G d
   ·go_wp2_with fail;apply(Ea m Y).m;rintro n V ⟨rfl,y,rfl⟩;refine⟨rfl,?_⟩;rw[u.o,rE,ai c];exact⟨rfl,(v.t o).drewN y⟩
   ·obtain rfl:x=G d:=Y;go_wp2_with fail;apply(Eb m).m;rintro n V ⟨rfl,y,rfl⟩;go_wp2
    go_end0
    rw[u.o,rE,ah (Nat.lt_irrefl _)];exact⟨rfl,A,m.drewN y,(v.t o).drewN y⟩
  ·have q:=H t;have u:=H z;go_wp2_with fail;apply(q _ _ r).m;rintro n E ⟨rfl,o⟩;refine⟨rfl,?_⟩;rw[u.o];exact⟨rfl,v.t o⟩
end
