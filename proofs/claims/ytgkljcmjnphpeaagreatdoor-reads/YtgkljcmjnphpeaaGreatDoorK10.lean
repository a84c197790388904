import Derived.Test.YtgkljcmjnphpeaaGreatDoorK09
import Derived.Test.YtgkljcmjnphpeaaGreatDoorK01
set_option linter.defProp false
set_option linter.unusedVariables false
set_option linter.unusedSimpArgs false
set_option maxHeartbeats 4000000
set_option maxRecDepth 100000
open List renaming length->G
open Go renaming Value->GI,World->Gr,Calls->K8,Addr->L2,Ending->MB,Act->MN
open Go.Value renaming int->I,pointer->M2,string->MV,agg->N1,bool->OV,tuple->OW,slice->Z
open Go.RowKit renaming Hid->L1,Below->LT
open Option renaming none->N,some->O
open Bool renaming false->P2,true->PV
open Or renaming inl->P3,inr->P4
open Go.Obj renaming cells->Pp
open Go.Ending renaming returned->Ps
open Go.Proofs.Tryz renaming prog->Qe
open List renaming replicate->Qf
open Go.IntKind renaming i64->U
open Go.Proofs.Tryz
namespace Go.Proofs.YtgkljcmjnphpeaaGreatDoor
open Go.RowKit
section
variable{B b t g c f:Nat}{d:List Nat}{a:Nat}{j:List GI}{w:Gr}{p l left k:Nat}{s:GI}{m:List Nat}
def L8(h:Bi B b t g c f d a j w 0 l left k s m):K8 Qe 160 #[M2 (O ⟨t,0,N⟩)] w (vS B b t g c f d a j l left s m w):=by
 by_cases e:2<=G d;·exact L9 h e
 by_cases o:G d=0;·exact(zv h o).m λq r i=>P3 ⟨λn=>e n.1,i⟩
 ·exact(zw h Y).m λq r i=>P3 ⟨λn=>e n.1,i⟩
def Lt(h:Rd B b g c f d a w 0 s [])(cn:oV w)(hG : 1<B){S:Except Nat (List Nat)}(hf:lk a (gA d) S):K8 Qe 116 #[M2 (O ⟨b,0,N⟩)] w λo w'=>tU B b g c f d a w S o w':=by
 obtain⟨R,hO,HR⟩:∃R,lu a (gA d) R/\L1 ((∃o,R=.error o/\S=.error o)\/(∃r' o',R=.ok (r',o')/\S=lM r' o')):=by
  rcases hf with⟨o,h,rfl⟩|⟨r',A,h,rfl⟩;·exact⟨_,h,P3 ⟨o,rfl,rfl⟩⟩
  ·exact⟨_,h,P4 ⟨r',A,rfl,rfl⟩⟩
 have bf:L1 (∀a1,R=.error a1->S=.error a1):=λa1 C=>by
  rcases HR.o with⟨o,h1,h2⟩|⟨r',o',h1,_⟩;·rw[h1]at C;cases C;exact h2
  ·rw[h1]at C;cases C
 have b7:L1 (∀r A,R=.ok (r,A)->S=lM r A):=λr A C=>by
  rcases HR.o with⟨o,h1,_⟩|⟨r',o',h1,h2⟩;·rw[h1]at C;cases C
  ·rw[h1]at C;cases C;exact h2
 have bm:=H (M8 h.byt hO);have bd:=H h.byt;have cv:=h.hb;have b5:=H cn
 go_in
 go_wp2_with fail;apply IL.m;rintro o y ⟨g1,g2,rfl,i1,i2,b1,q1,q2⟩;have cf:=H (λb8=>wQ (fC g1 g2) b8 b (IK g1 g2));have tokb:True:=trivial;generalize hF:fC g1 g2=E at *;have HF:=H hF;go_wp2_with (have _t:=tokb;refine Hb (by rfl) 167 0 2 (.tmp 4) (.tmp 5) (by rfl) _ _ _ (by rfl) (by rfl) cf ?_);have cu:=h.ofBelow b1;have cw:=ae h.blk;have cc:=Bi.start (F:=E) cu;have bv:=xr.start (br:=b) i1 i2 (Pp (M2 (O ⟨b,0,N⟩)::I .u8 0::I U 0::I U 0::E).toArray 167 (0,0)) Y Y;rw[HF.o]at bv;have ac:LT w.heap.size w (y.alloc (Pp (M2 (O ⟨b,0,N⟩)::I .u8 0::I U 0::I U 0::E).toArray 167 (0,0))):=b1.alloc b1.size _;have ho2:oV (y.alloc (Pp (M2 (O ⟨b,0,N⟩)::I .u8 0::I U 0::I U 0::E).toArray 167 (0,0))):=λx W=>by rw[ac.cell (p:=⟨1,x,N⟩) (by show 1<_;omega)];exact b5 x W
 have al:=b1.size;have bo : 1∉[b,y.heap.size]:=eB;apply(L8 cc).m;intro o w2 cj;rcases cj with⟨ce,rfl,P⟩|⟨bq,rfl,cd,P⟩
 ·have u:S=.error 5:=by
   rcases bm.o with⟨_,h1⟩|⟨h1,_⟩;·exact bf 5 h1
   ·exact absurd h1 ce
  refine⟨rfl,?_⟩;rw[u];exact⟨rfl,Cz ac P al⟩
 have ca:iy (2^(nth d 0/16+8)) a (gA (d.drop 2)) [] R:=by
  rcases bm.o with⟨h1,_⟩|⟨_,h1⟩;·exact absurd bq h1
  ·exact h1
 have a5:2^(nth d 0/16+8)<=32768:=aA (aJ Y (show nth d 0/16+8<=15 by have:=bq.2.2.1;omega)) cO;generalize 2^(nth d 0/16+8)=WD at *;have b3:=H ca;have ba:=bv.kept P;have a8:=ho2.kept P hG bo;have aa:Fl B b y.heap.size g c f d a E w2 (gA (d.drop 2)) WD s []:=⟨2,0,0,cd,Y,by simp[bL,gM]⟩;go_wp2_with fail;go_loopw [11] (λ_ wr=>∃(rr:List Bool) (A:List Nat) (bw:GI),Fl B b y.heap.size g c f d a E wr rr WD bw A/\xr wr b y.heap.size E/\oV wr/\L1 (iy WD a rr A R)/\L1 (∀bz∈A,bz<256)/\gb 5 B [b,y.heap.size] w2 wr) (λ_ wr=>bO b y.heap.size (G d) wr)
 case atStart=>exact⟨_,_,s,aa,ba,a8,b3,(λbz hx=>(by cases hx)),gb.refl _ _ _ _⟩
 case round=>
  obtain⟨rr,A,bw,hf,hx,a3,b0,bc,kk⟩:=hrel;have hm:=H hf.measure;rcases b0.o.parted with⟨a1,M,a9⟩|⟨r2,q,M,hl,a9⟩|⟨r2,o2,M,hl,b9⟩
  ·have T:=H (E6 hf hx a3 hG a5 M);have u:=bf.o a1 a9;go_wp2_with fail;apply T.o.m;rintro o w3 ⟨rfl,X⟩;refine⟨rfl,?_⟩;rw[u];exact⟨rfl,Cz ac ((P.t kk).t X) al⟩
  ·have T:=H (E6 hf hx a3 hG a5 M);rw[hl]at T;have ch:=Ie M bc;have a6:=λx W=>CN ch x W;have b6:=H (b7 r2 q a9);go_wp2_with fail;apply T.o.m;rintro o w3 ⟨rfl,bx,aa,X⟩;have cs:=kk.t X;go_wp2_with fail;apply(yu aa).m;rintro o w4 ⟨rfl,⟨n,cx,v,cp⟩,k4⟩;have bb:=cs.t k4;have ck:=v.rd.lp;have a2:L1 (S=if (G d)=n+4/\(d.drop n).take 4=sE q then .ok q else .error 5):=by unfold Hid;rw[b6.o,OH bd.o ck cp]
   have c2:=v.rd.c2;obtain⟨J,Q,co,_⟩:=v.rd.datOut a6;subst co;have cy:=v.rd.lm;have c1:=v.rd.lo;by_cases cg:G d<n+4
   ·have u:=a2.o;rw[ah (λh=>Y)]at u;go_wp2_with fail;refine om (Hn y.heap.size b (M2 (O ⟨b,0,N⟩)) (Z J (G q) Q)) aG ?_;intro e;have i:Hn y.heap.size b (M2 (O ⟨b,0,N⟩)) (Z J (G q) Q) (Array.replicate 19 P2) w4.drew:=⟨(v.drewN 1).c0,(v.drewN 1).rd.c2⟩;refine tm 0 e i λe i=>?_;refine tm 1 e i λe i=>?_;refine tm 2 e i λe i=>?_;refine tm 3 e i λe i=>?_;refine tm 4 e i λe i=>?_;refine tm 8 e i λe i=>?_;refine tm 9 e i λe i=>?_;refine tm 10 e i λe i=>?_;refine tm 11 e i λe i=>?_;refine tm 12 e i λe i=>?_;refine tm 13 e i λe i=>?_;refine tm 14 e i λe i=>?_;refine tm 15 e i λe i=>?_;refine on 5 e λK' z=>?_;go_simp;apply(EP (v.rd.drewN 1) 4 Y cg).m;rintro o w5 ⟨rfl,ad,rfl⟩;refine⟨rfl,?_⟩;rw[u];exact⟨rfl,Cz ac (((P.t bb).drewN 1).drewN ad) al⟩
   ·have D:n+4<=G d:=Y;have bs:((d.drop n).take 4).length=4:=by rw[ay,au];omega
    have a0:∀x,x<4->nth ((d.drop n).take 4) x=nth d (n+x):=λx W=>by simp[nth,dz,W]
    have bt:∀x,x<4->nth ((d.drop n).take 4) x<256:=λx W=>by rw[a0 x W];exact bd _ Y
    have F:L1 (nth d n=nth ((d.drop n).take 4) 0/\nth d (n+1)=nth ((d.drop n).take 4) 1/\nth d (n+2)=nth ((d.drop n).take 4) 2/\nth d (n+3)=nth ((d.drop n).take 4) 3):=⟨(a0 0 Y).s,(a0 1 Y).s,(a0 2 Y).s,(a0 3 Y).s⟩;by_cases ct:(d.drop n).take 4=sE q
    ·have a7:G q<=1000000000:=Y;have cb:=JK g (c+n) (f-n);have ci:=zk (nth d n) (nth d (n+1)) (nth d (n+2)) (nth d (n+3)) q ((d.drop n).take 4) bs bt F.1 F.2.1 F.2.2.1 F.2.2.2 ct;go_wp2_with fail;refine om (BS y.heap.size b g (c+n) (M2 (O ⟨b,0,N⟩)) (Z J (G q) Q) d n) aG ?_;intro e;have i:BS y.heap.size b g (c+n) (M2 (O ⟨b,0,N⟩)) (Z J (G q) Q) d n (Array.replicate 19 P2) w4.drew:=Aw (v.drewN 1) D;refine tm 0 e i λe i=>?_;refine tm 1 e i λe i=>?_;refine tm 2 e i λe i=>?_;refine tm 3 e i λe i=>?_;refine tm 4 e i λe i=>?_;refine tm 8 e i λe i=>?_;refine tm 9 e i λe i=>?_;refine tm 10 e i λe i=>?_;refine tm 11 e i λe i=>?_;refine tm 12 e i λe i=>?_;refine tm 13 e i λe i=>?_;refine tm 14 e i λe i=>?_;refine tm 15 e i λe i=>?_;refine on 5 e λK' z=>?_;go_simp;apply(AK (v.rd.drewN 1) 4 Y D).m;rintro o w5 ⟨rfl,r5,k5⟩;have V:=v.rdKept r5 (((gb.refl _ _ _ _).drewN 1).t k5);refine z _ _ (Aw V D) (λK L=>?_);have e:=K;have i:=L
     (try simp only[nH])
     refine tm 6 e i λe i=>?_;refine tm 7 e i λe i=>?_;refine on 16 e λK' z=>?_;go_simp;apply(Kl (B:=w5.heap.size) (w:=w5) J Q q (ag _) (Rd.datOut' r5) a7 a6).m;rintro o w6 ⟨rfl,o6,rfl⟩;refine z _ _ (Aw (V.alloc o6) D) (λK L=>?_);have e:=K;have i:=L;unfold DE
     (try simp only[nH])
     refine tm 17 e i λe i=>?_;refine on 18 e λK' z=>?_;go_simp;apply(nT _).m;rintro o w7 ⟨rfl,rfl⟩;refine z _ _ (Aw (V.alloc o6) D) (λK L=>?_);refine oh aG ?_ _;have h6:=V.alloc o6;have g0:=h6.c0;have r6:=h6.rd;have bi:=H (Cz ac (((P.t bb).drewN 1).t ((k5.m eA).alloc o6)) al);by_cases a4:G d=n+4
     ·have u:=a2.o;rw[ai ⟨a4,ct⟩]at u;rw[<-a4]at r6;go_wp2_with fail;apply(Eb r6).m;rintro o w7 ⟨rfl,ad,rfl⟩;go_wp2
      go_end0
      rw[u];exact⟨rfl,_,r6.drewN ad,bi.drewN ad⟩
     ·have u:=a2.o;rw[ah (λh=>a4 h.1)]at u;go_wp2_with fail;apply(Ea r6 Y).m;rintro o w7 ⟨rfl,ad,rfl⟩;refine⟨rfl,?_⟩;rw[u];exact⟨rfl,bi.drewN ad⟩
    ·have u:=a2.o;rw[ah (λh=>ct h.2)]at u;have a7:G q<=1000000000:=Y;have cb:=JK g (c+n) (f-n);have ci:=Co (nth d n) (nth d (n+1)) (nth d (n+2)) (nth d (n+3)) q ((d.drop n).take 4) bs bt F.1 F.2.1 F.2.2.1 F.2.2.2 ct;go_wp2_with fail;refine om (BS y.heap.size b g (c+n) (M2 (O ⟨b,0,N⟩)) (Z J (G q) Q) d n) aG ?_;intro e;have i:BS y.heap.size b g (c+n) (M2 (O ⟨b,0,N⟩)) (Z J (G q) Q) d n (Array.replicate 19 P2) w4.drew:=Aw (v.drewN 1) D;refine tm 0 e i λe i=>?_;refine tm 1 e i λe i=>?_;refine tm 2 e i λe i=>?_;refine tm 3 e i λe i=>?_;refine tm 4 e i λe i=>?_;refine tm 8 e i λe i=>?_;refine tm 9 e i λe i=>?_;refine tm 10 e i λe i=>?_;refine tm 11 e i λe i=>?_;refine tm 12 e i λe i=>?_;refine tm 13 e i λe i=>?_;refine tm 14 e i λe i=>?_;refine tm 15 e i λe i=>?_;refine on 5 e λK' z=>?_;go_simp;apply(AK (v.rd.drewN 1) 4 Y D).m;rintro o w5 ⟨rfl,r5,k5⟩;have V:=v.rdKept r5 (((gb.refl _ _ _ _).drewN 1).t k5);refine z _ _ (Aw V D) (λK L=>?_);have e:=K;have i:=L
     (try simp only[nH])
     refine tm 6 e i λe i=>?_;refine tm 7 e i λe i=>?_;refine on 16 e λK' z=>?_;go_simp;apply(Kl (B:=w5.heap.size) (w:=w5) J Q q (ag _) (Rd.datOut' r5) a7 a6).m;rintro o w6 ⟨rfl,o6,rfl⟩;refine z _ _ (Aw (V.alloc o6) D) (λK L=>?_);have e:=K;have i:=L;unfold DE
     (try simp only[nH])
     refine tm 17 e i λe i=>?_;refine on 18 e λK' z=>?_;go_simp;apply(Ji _).m;rintro o w7 ⟨rfl,rfl⟩;refine⟨rfl,?_⟩;rw[u];exact⟨rfl,Cz ac (((P.t bb).drewN 1).t ((k5.m eA).alloc o6)) al⟩
  ·have T:=H (E6 hf hx a3 hG a5 M);rw[hl]at T;have cr:=M.shorter.1;have b2:=H b9;have b4:=H (Ie M bc);go_wp2_with fail;apply T.o.m;rintro o w3 ⟨rfl,bx,aa,X⟩;have cl:=H aa.measure;have ba:=hx.kept X;have a8:=a3.kept X hG bo;go_wp2;go_roundw
   case rel=>exact⟨_,_,bx,aa,ba,a8,b2,b4,kk.t X⟩
   case measure=>rw[hm.o,cl.o];exact cr
end
section
variable{B n r m l:Nat}{d:List Nat}{i:Nat}{w:Gr}{p:Nat}{s:GI}{j:List Nat}
def I3(c:Nat)(w:Gr)(h:gI c=N):K8 Qe 212 #[I .u8 c] w λa b=>a=gU 5/\b=w:=by
 have e:=H h
 go_in
 go_wp2_with fail;apply(I1 _ _ e).m;rintro a b ⟨f,rfl,rfl⟩;go_wp2_with fail;apply(mn _ rfl _).m;rintro a b ⟨rfl,rfl⟩;exact⟨rfl,rfl,rfl⟩
def xN(h1:G d<=gh d p):vO 154 B n r m l d i p j (5:Nat):=by intro w s h;have a:=H (FF h h1);go_enter d8,dT;go_wp2_with fail;apply a.o.m;rintro c e ⟨rfl,b⟩;exact⟨rfl,rfl,b⟩
def zy(h1:gh d p<G d)(h2:nth d (gh d p)=62):yr 154 B n r m l d i p j P2 (gh d p+1) j:=by
 intro w s h;have a:=H (vh h h1);have e1:((nth d (gh d p):Int)==62)=PV:=by rw[h2];rfl
 generalize nth d (gh d p)=e at *;go_enter d8,dT;go_wp2_with fail;apply a.o.m;rintro f g ⟨rfl,c,b⟩;go_wp2;go_ret;exact⟨rfl,_,c,b⟩
def L6(h1:gh d p<G d)(h2:nth d (gh d p)≠62)(h3:gI (nth d (gh d p))=N):vO 154 B n r m l d i p j (5:Nat):=by intro w s h;have b:=H (vh h h1);have e1:((nth d (gh d p):Int)==62)=P2:=eB;have a:=H h3;generalize nth d (gh d p)=f at *;go_enter d8,dT;go_wp2_with fail;apply b.o.m;rintro c k ⟨rfl,g,e⟩;go_wp2_with fail;apply(I3 _ _ a).m;rintro c q ⟨rfl,rfl⟩;exact⟨rfl,rfl,e⟩
section two
variable{a:Nat}(f:gh d p<G d)(g:nth d (gh d p)≠62)(c:gI (nth d (gh d p))=O a)
def Ma(t:G d<=gh d (gh d p+1)):vO 154 B n r m l d i p j (5:Nat):=by intro w s h;have k:=H (vh h f);have e1:((nth d (gh d p):Int)==62)=P2:=eB;have e:=H c;generalize nth d (gh d p)=z at *;go_enter d8,dT;go_wp2_with fail;apply k.o.m;rintro b A ⟨rfl,x,u⟩;have q:=H (FF x t);go_wp2_with fail;apply(yB _ _ _ e).m;rintro b y ⟨rfl,rfl⟩;go_wp2_with fail;apply q.o.m;rintro b y ⟨rfl,v⟩;exact⟨rfl,rfl,u.t v⟩
def L7(t:gh d (gh d p+1)<G d)(u:nth d (gh d (gh d p+1))=62)(v:G j+1<=i):yr 154 B n r m l d i p j P2 (gh d (gh d p+1)+1) (j++[16*a]):=by
 intro w s h;have L:=vH c;have k:=H (vh h f);have e1:((nth d (gh d p):Int)==62)=P2:=eB;have e2:((nth d (gh d (gh d p+1)):Int)==62)=PV:=by rw[u];rfl
 have e:=H c;generalize nth d (gh d p)=J at *;go_enter d8,dT;go_wp2_with fail;apply k.o.m;rintro b M ⟨rfl,C,x⟩;have q:=H (vh C t);generalize nth d (gh d (gh d p+1))=K at *;go_wp2_with fail;apply(yB _ _ _ e).m;rintro b F ⟨rfl,rfl⟩;go_wp2_with fail;apply q.o.m;rintro b F ⟨rfl,D,y⟩;go_wp2_with fail;apply(F9 D (16*a) _ Y v).m;rintro b P ⟨rfl,A,E,z⟩;go_wp2;go_ret;exact⟨rfl,A,E,(x.t y).t z⟩
def Fm(t:gh d (gh d p+1)<G d)(u:nth d (gh d (gh d p+1))=62)(v:i<G j+1):vO 154 B n r m l d i p j (6:Nat):=by
 intro w s h;have J:=vH c;have k:=H (vh h f);have e1:((nth d (gh d p):Int)==62)=P2:=eB;have e2:((nth d (gh d (gh d p+1)):Int)==62)=PV:=by rw[u];rfl
 have e:=H c;generalize nth d (gh d p)=E at *;go_enter d8,dT;go_wp2_with fail;apply k.o.m;rintro b K ⟨rfl,A,x⟩;have q:=H (vh A t);generalize nth d (gh d (gh d p+1))=F at *;go_wp2_with fail;apply(yB _ _ _ e).m;rintro b D ⟨rfl,rfl⟩;go_wp2_with fail;apply q.o.m;rintro b D ⟨rfl,C,y⟩;go_wp2_with fail;apply(yN (C.alloc _) 1 _ 1 Y v).m;rintro b L ⟨rfl,z,rfl⟩;exact⟨rfl,rfl,((x.t y).alloc _).drewN z⟩
def xM(u:gh d (gh d p+1)<G d)(E:nth d (gh d (gh d p+1))≠62)(v:gI (nth d (gh d (gh d p+1)))=N):vO 154 B n r m l d i p j (5:Nat):=by intro w s h;have q:=H (vh h f);have e1:((nth d (gh d p):Int)==62)=P2:=eB;have e2:((nth d (gh d (gh d p+1)):Int)==62)=P2:=eB;have k:=H c;have e:=H v;generalize nth d (gh d p)=C at *;go_enter d8,dT;go_wp2_with fail;apply q.o.m;rintro b J ⟨rfl,z,x⟩;have t:=H (vh z u);generalize nth d (gh d (gh d p+1))=D at *;go_wp2_with fail;apply(yB _ _ _ k).m;rintro b A ⟨rfl,rfl⟩;go_wp2_with fail;apply t.o.m;rintro b A ⟨rfl,F,y⟩;go_wp2_with fail;apply(I3 _ _ e).m;rintro b K ⟨rfl,rfl⟩;exact⟨rfl,rfl,x.t y⟩
variable{b:Nat}
def Cu(x:gh d (gh d p+1)<G d)(R:nth d (gh d (gh d p+1))≠62)(k:gI (nth d (gh d (gh d p+1)))=O b)(A:G j+1<=i):yr 154 B n r m l d i p j PV (gh d (gh d p+1)+1) (j++[16*a+b]):=by
 intro w s h;have y:=vH c;have z:=vH k;have u:=H (vh h f);have e1:((nth d (gh d p):Int)==62)=P2:=eB;have e2:((nth d (gh d (gh d p+1)):Int)==62)=P2:=eB;have t:=H c;have q:=H k;generalize nth d (gh d p)=P at *;go_enter d8,dT;go_wp2_with fail;apply u.o.m;rintro e T ⟨rfl,J,C⟩;have v:=H (vh J x);generalize nth d (gh d (gh d p+1))=Q at *;go_wp2_with fail;apply(yB _ _ _ t).m;rintro e M ⟨rfl,rfl⟩;go_wp2_with fail;apply v.o.m;rintro e M ⟨rfl,K,D⟩;go_wp2_with fail;apply(yB _ _ _ q).m;rintro e S ⟨rfl,rfl⟩;go_wp2_with fail;refine(F9 K (16*a+b) _ ?_ A).m ?_
 ·have:=u8_or_nat (a*16) b Y Y;rw[tu a b y z]at this;simp only[fj,Int.natCast_add]at this ⊢;rw[show((16:Nat):Int)=16 from rfl]at this ⊢;rw[this];omega
 rintro e V ⟨rfl,F,L,E⟩;go_wp2;go_ret;exact⟨rfl,F,L,(C.t D).t E⟩
def L_(v:gh d (gh d p+1)<G d)(L:nth d (gh d (gh d p+1))≠62)(x:gI (nth d (gh d (gh d p+1)))=O b)(y:i<G j+1):vO 154 B n r m l d i p j (6:Nat):=by intro w s h;have t:=H (vh h f);have e1:((nth d (gh d p):Int)==62)=P2:=eB;have e2:((nth d (gh d (gh d p+1)):Int)==62)=P2:=eB;have q:=H c;have k:=H x;generalize nth d (gh d p)=J at *;go_enter d8,dT;go_wp2_with fail;apply t.o.m;rintro e P ⟨rfl,D,z⟩;have u:=H (vh D v);generalize nth d (gh d (gh d p+1))=K at *;go_wp2_with fail;apply(yB _ _ _ q).m;rintro e F ⟨rfl,rfl⟩;go_wp2_with fail;apply u.o.m;rintro e F ⟨rfl,E,A⟩;go_wp2_with fail;apply(yB _ _ _ k).m;rintro e M ⟨rfl,rfl⟩;go_wp2_with fail;apply(yN (E.alloc _) 1 _ 1 Y y).m;rintro e Q ⟨rfl,C,rfl⟩;exact⟨rfl,rfl,((z.t A).alloc _).drewN C⟩
end two
def Lx(h:Rd B n r m l d i w 0 s []):K8 Qe 113 #[M2 (O ⟨n,0,N⟩)] w λC E=>tU B n r m l d i w (vI d i (G d+1) 0 []) C E:=by
 refine Lu (J:=λc x A=>∃o,G d-c<o/\vI d i o c x=A) (λc x D _ P=>?_) ⟨G d+1,Y,rfl⟩ h;obtain⟨o,M,a⟩:=D;generalize vI d i (G d+1) 0 []=A at *;obtain⟨o,rfl⟩:∃k,o=k+1:=⟨o-1,Y⟩;unfold vI at a;have K:=Av d c;by_cases y:G d<=gh d c
 ·rw[ai y]at a;exact P4 (P4 ⟨5,a.s,xN y⟩)
 rw[ah y]at a;by_cases e:nth d (gh d c)=62
 ·rw[ai e]at a;exact P4 (P3 ⟨_,_,a.s,zy Y e⟩)
 rw[ah e]at a;have g:gh d c<G d:=Y;cases f:gI (nth d (gh d c))with
 |none=>rw[f]at a;exact P4 (P4 ⟨5,a.s,L6 g e f⟩)
 |some F=>
  rw[f]at a;simp only[]at a;have L:=Av d (gh d c+1);by_cases z:G d<=gh d (gh d c+1)
  ·rw[ai z]at a;exact P4 (P4 ⟨5,a.s,Ma g e f z⟩)
  rw[ah z]at a;have u:gh d (gh d c+1)<G d:=Y;by_cases t:nth d (gh d (gh d c+1))=62
  ·rw[ai t]at a;by_cases q:G x+1<=i
   ·rw[ai q]at a;exact P4 (P3 ⟨_,_,a.s,L7 g e f u t q⟩)
   ·rw[ah q]at a;exact P4 (P4 ⟨6,a.s,Fm g e f u t Y⟩)
  rw[ah t]at a;cases v:gI (nth d (gh d (gh d c+1)))with
  |none=>rw[v]at a;exact P4 (P4 ⟨5,a.s,xM g e f u t v⟩)
  |some b=>
   rw[v]at a;simp only[]at a;by_cases q:G x+1<=i
   ·rw[ai q]at a;exact P3 ⟨_,_,Y,⟨o,Y,a⟩,Cu g e f u t v q⟩
   ·rw[ah q]at a;exact P4 (P4 ⟨6,a.s,L_ g e f u t v Y⟩)
end
section
variable{B br K F t:Nat}{d:List Nat}{g:Nat}{w:Gr}{p:Nat}{L:GI}{l:List Nat}
def zK{w:Gr}{e:Nat}:∀b c,([e].map λf:Nat=>I .u8 (f:Int))[b]?=O c->(w.alloc (Pp #[I .u8 (e:Nat)] 5)).cell? ((⟨w.heap.size,0,N⟩:L2).add b)=O c:=by
 intro b c a;match b,a with
 |0,a=>rw[pR,World.cell?_alloc_new];exact a
 |b+1,a=>simp at a
def NB(h:Rd B br K F t d g w p L l)(b a:Nat)(hb:b<256)(hn:a<=1000000)(P:G l+a<=g):K8 Qe 218 #[M2 (O ⟨br,0,N⟩),I .u8 b,I U a] w λo y=>o=Ps (OW #[])/\∃c,Rd B br K F t d g y p c (l++Qf a b)/\gb 5 B [br] w y:=by
 obtain⟨T,J,Q,R,S⟩:=bu infoByte;have n:=H (Gl h a P)
 go_in
 go_wp2_with fail;apply n.o.m;rintro o w1 ⟨rfl,x,rfl⟩;go_wp2;go_loopw [10] (λj wr=>∃(k:Nat) (c:GI),k<=a/\j=I U k/\Rd B br K F t d g wr p c (l++Qf k b)/\gb 5 B [br] w wr) (λj _=>a-(intOf j).toNat)
 case atStart=>exact⟨0,L,aH _,rfl,by simpa using h.drewN x,(gb.refl _ _ _ _).drewN x⟩
 clear n h
 case round=>
  obtain⟨k,c,hk,rfl,r,m⟩:=hrel;have M:(l++Qf k b).length=G l+k:=eA;by_cases ad:k<a
  ·have z:L1 (l++Qf (k+1) b=(l++Qf k b)++[b]):=by unfold Hid;rw[List.replicate_succ',bZ]
   have aa:=r.lm;have ac:(l++Qf k b).length<=1000000:=Y;have ho1:(l++Qf k b).length+1<=g:=Y;clear M;generalize l++Qf k b=v at *;have c2:=r.c2;have hs:=r.sz;have f:=H r;have C:=H m;clear r m;go_wp2_with (at_builtin;refine a_ _ rfl (.tmp 16) (.tmp 18) 23 rfl B 5 T (I .u8 0) 1 1 bB J Q R S rfl cO c (G v) _ rfl (f.alloc _).own ⟨wr.heap.size,0,N⟩ 1 1 ([b].map λX:Nat=>I .u8 (X:Int)) rfl rfl ?hnews ?hone ?h63 ?hby ?hbs ?_)
   case hnews=>exact zK
   case hone=>intro al u;simp at u;subst u;rfl
   case h63=>unfold maxLen;omega
   case hby=>omega
   case hbs=>simp;omega
   intro v' W s e _;have i:(wr.alloc (Pp #[I .u8 (b:Nat)] 5)).grownBy W c.ownBlock:=⟨e.os,e.tape,e.output,e.size,e.block⟩;clear e;have q:=(f.alloc (Pp #[I .u8 (b:Nat)] 5)).grown_blk i;have k2:=rZ q;have f2:=jR 2 q;obtain⟨E,V,rfl⟩:=jp s;have D:=H ((f.alloc (Pp #[I .u8 (b:Nat)] 5)).put (xs:=[b]) ho1 s i);have A:=H (((C.alloc (Pp #[I .u8 (b:Nat)] 5)).grown i (tN (f.alloc _).own)).setCell (p:=⟨br,2,N⟩) eA (Z E (G v+1) V));go_wp2;go_roundw
   case rel=>exact⟨k+1,_,Y,by go_num,by rw[z.o];exact D,A⟩
   case measure=>simp[intOf];omega
  ·obtain rfl:k=a:=Y;go_wp2
   go_end0
   exact⟨rfl,c,r,m⟩
def NX(h:Rd B br K F t d g w p L l)(b a:Nat)(f:a<=1000000)(i:g<G l+a):K8 Qe 218 #[M2 (O ⟨br,0,N⟩),I .u8 b,I U a] w λc k=>c=gU 6/\gb 5 B [br] w k:=by
 have e:=H (Gt h a f i)
 go_in
 go_wp2_with fail;apply e.o.m;rintro c m ⟨rfl,j,rfl⟩;exact⟨rfl,rfl,(gb.refl _ _ _ _).drewN j⟩
def xZ(b:p<G d)(h1:nth d p=128):yr 158 B br K F t d g p l P2 (p+1) l:=by intro w L h;have a:=H (sQ h b);rw[h1]at a;go_enter ez,d9;go_wp2_with fail;apply a.o.m;rintro f i ⟨rfl,e,c⟩;go_wp2;go_ret;exact⟨rfl,L,e,c⟩
def Oy:vO 158 B br K F t d g (G d) l 5:=by intro w L h;go_enter ez,d9;go_wp2_with fail;apply(zI h).m;rintro b c ⟨rfl,a⟩;exact⟨rfl,rfl,a⟩
def Oq(a c:Nat)(A:2<=a)(C:a<=128)(m:p+1<G d)(h1:nth d p=257-a)(h2:nth d (p+1)=c)(n:c<256)(k:G l+a<=g):yr 158 B br K F t d g p l PV (p+2) (l++Qf a c):=by intro w L h;have e:=H (sQ h Y);rw[h1]at e;obtain⟨b,j⟩:∃b,b=257-a:=⟨_,rfl⟩;rw[<-j]at e;have e1:((b:Int)==128)=P2:=eB;have z:(257:Int)-b=a:=Y;clear j;go_enter ez,d9;go_wp2_with fail;apply e.o.m;rintro i D ⟨rfl,v,q⟩;have f:=H (sQ v m);rw[h2]at f;go_wp2_with fail;apply f.o.m;rintro i E ⟨rfl,x,r⟩;go_wp2_with fail;apply(NB x c a n Y k).m;rintro i J ⟨rfl,u,y,s⟩;go_wp2;go_ret;exact⟨rfl,u,y,(q.t r).t s⟩
def Ot(a j:Nat)(x:2<=a)(y:a<=128)(m:p+1<G d)(h1:nth d p=257-a)(h2:nth d (p+1)=j)(k:g<G l+a):vO 158 B br K F t d g p l 6:=by intro w L h;have c:=H (sQ h Y);rw[h1]at c;obtain⟨b,i⟩:∃b,b=257-a:=⟨_,rfl⟩;rw[<-i]at c;have e1:((b:Int)==128)=P2:=eB;have v:(257:Int)-b=a:=Y;clear i;go_enter ez,d9;go_wp2_with fail;apply c.o.m;rintro f z ⟨rfl,s,n⟩;have e:=H (sQ s m);rw[h2]at e;go_wp2_with fail;apply e.o.m;rintro f A ⟨rfl,u,q⟩;go_wp2_with fail;apply(NX u j a Y k).m;rintro f C ⟨rfl,r⟩;exact⟨rfl,rfl,(n.t q).t r⟩
def Oz(a:Nat)(e:List Nat)(D:1<=a)(E:a<=128)(m:G e=a)(s:p+1+a<=G d)(h1:nth d p=a-1)(h2:∀b,b<a->nth d (p+1+b)=nth e b)(r:G l+a<=g):yr 158 B br K F t d g p l PV (p+1+a) (l++e):=by intro w L h;have f:=H (sQ h Y);rw[h1]at f;obtain⟨c,rfl⟩:∃c,a=c+1:=⟨a-1,Y⟩;rw[fK]at f;have e1:((c:Int)==128)=P2:=eB;have e2:(c:Int)<128:=Y;have n:=H h2;go_enter ez,d9;go_wp2_with fail;apply f.o.m;rintro k J ⟨rfl,z,u⟩;have q:=H (AK z (c+1) Y s);go_wp2_with fail;apply q.o.m;rintro k M ⟨rfl,i,v⟩;have j:=H (po i e ⟨K,F+(p+1),N⟩ (t-(p+1)) (by rw[m];exact r) (by have:=i.sz;omega) (λb C=>by rw[Hx,<-n.o b Y,dQ];exact i.dat (p+1+b) Y));rw[m]at j;go_wp2_with fail;apply j.o.m;rintro k P ⟨rfl,y,A,x⟩;go_wp2;go_ret;exact⟨rfl,y,A,(u.t v).t x⟩
def N8(a:Nat)(s:1<=a)(u:a<=128)(j:p+1+a<=G d)(h1:nth d p=a-1)(i:g<G l+a):vO 158 B br K F t d g p l 6:=by intro w L h;have c:=H (sQ h Y);rw[h1]at c;obtain⟨b,rfl⟩:∃b,a=b+1:=⟨a-1,Y⟩;rw[fK]at c;have e1:((b:Int)==128)=P2:=eB;have e2:(b:Int)<128:=Y;go_enter ez,d9;go_wp2_with fail;apply c.o.m;rintro e v ⟨rfl,q,k⟩;have f:=H (AK q (b+1) Y j);go_wp2_with fail;apply f.o.m;rintro e x ⟨rfl,r,m⟩;go_wp2_with fail;apply(yN r (b+1) _ _ Y i).m;rintro e y ⟨rfl,n,rfl⟩;exact⟨rfl,rfl,(k.t m).drewN n⟩
def Gw(a:Nat)(f:p+1=G d)(h1:nth d p=a)(m:128<a)(n:a<256):vO 158 B br K F t d g p l 5:=by intro w L h;have b:=H (sQ h Y);rw[h1]at b;have e1:((a:Int)==128)=P2:=eB;clear h1;rw[f]at b;go_enter ez,d9;go_wp2_with fail;apply b.o.m;rintro e q ⟨rfl,k,i⟩;have c:=H (zI k);go_wp2_with fail;apply c.o.m;rintro e r ⟨rfl,j⟩;exact⟨rfl,rfl,i.t j⟩
def Gv(a:Nat)(m:a<128)(n:p<G d)(f:G d<p+1+(a+1))(h1:nth d p=a):vO 158 B br K F t d g p l 5:=by intro w L h;have b:=H (sQ h Y);rw[h1]at b;have e1:((a:Int)==128)=P2:=eB;have e2:(a:Int)<128:=Y;clear h1;go_enter ez,d9;go_wp2_with fail;apply b.o.m;rintro e q ⟨rfl,k,i⟩;have c:=H (EP k (a+1) Y f);go_wp2_with fail;apply c.o.m;rintro e r ⟨rfl,j,rfl⟩;exact⟨rfl,rfl,i.drewN j⟩
def MZ(d:List Nat)(k b a:Nat)(c:a<b):nth ((d.drop k).take b) a=nth d (k+a):=by simp[nth,dz,c]
def LE(h:Rd B br K F t d g w 0 L []):K8 Qe 115 #[M2 (O ⟨br,0,N⟩)] w λr y=>tU B br K F t d g w (rD d g (G d+1) 0 []) r y:=by
 have o:=h.byt;refine LC (J:=λb i n=>∃e,G d-b<e/\rD d g e b i=n) (λb i s _ A=>?_) ⟨G d+1,Y,rfl⟩ h;obtain⟨e,z,a⟩:=s;generalize rD d g (G d+1) 0 []=n at *;obtain⟨e,rfl⟩:∃k,e=k+1:=⟨e-1,Y⟩;unfold rD at a;by_cases q:G d<=b
 ·rw[ai q]at a;obtain rfl:b=G d:=Y;exact P4 (P4 ⟨5,a.s,Oy⟩)
 rw[ah q]at a;have u:=o b Y;by_cases j:nth d b=128
 ·rw[ai j]at a;exact P4 (P3 ⟨b+1,i,a.s,xZ Y j⟩)
 rw[ah j]at a;by_cases m:nth d b<128
 ·rw[ai m]at a;by_cases c:b+1+(nth d b+1)<=G d
  ·rw[ai c]at a;by_cases f:G i+(nth d b+1)<=g
   ·rw[ai f]at a;refine P3 ⟨_,_,Y,⟨e,Y,a⟩,Oz (nth d b+1) _ Y Y ?_ c Y (λx v=>(MZ d _ _ x v).s) f⟩;rw[ay,au];omega
   ·rw[ah f]at a;exact P4 (P4 ⟨6,a.s,N8 (nth d b+1) Y Y c Y Y⟩)
  ·rw[ah c]at a;exact P4 (P4 ⟨5,a.s,Gv (nth d b) m Y Y rfl⟩)
 rw[ah m]at a;by_cases c:b+1<G d
 ·rw[ai c]at a;by_cases f:G i+(257-nth d b)<=g
  ·rw[ai f]at a;exact P3 ⟨_,_,Y,⟨e,Y,a⟩,Oq (257-nth d b) _ Y Y c Y rfl (o _ c) f⟩
  ·rw[ah f]at a;exact P4 (P4 ⟨6,a.s,Ot (257-nth d b) _ Y Y c Y rfl Y⟩)
 ·rw[ah c]at a;exact P4 (P4 ⟨5,a.s,Gw (nth d b) Y rfl Y u⟩)
def Nk{G:List Nat}(w:Gr):K8 Qe 215 #[M2 (O ⟨br,0,N⟩),N1 (bV (jL G 0)).toArray,I U (0:Nat)] w λa c=>a=Ps (OW #[])/\∃b,c=w.alloc b:=by
 generalize (bV (jL G 0)).toArray=e
 go_in
 go_wp2;refine av (v:=OW #[]) (by simp[results,results215,go_sem]) rfl ⟨rfl,_,rfl⟩
def FR(h:Rd B br K F t d g w p L l)(b c f i n a:Nat)(T:2<=a)(V:a<=4)(M:33<=b/\b<=117)(h1:33<=c/\c<=117)(h2:33<=(if a<=2 then 117 else f)/\(if a<=2 then 117 else f)<=117)(h3:33<=(if a<=3 then 117 else i)/\(if a<=3 then 117 else i)<=117)
  (e:Nat) (P:nF [b,c,if a<=2 then 117 else f,if a<=3 then 117 else i,117] 0=e) (hm:e<=4294967295) (v:g<G l+(a-1)):K8 Qe 215 #[M2 (O ⟨br,0,N⟩),N1 (bV [b,c,f,i,n]).toArray,I U a] w λm x=>m=gU 6/\gb 5 B [br] w x:=by
 have J:=H (fe b c f i n a T V);have E:L1 (∀r:Gr,K8 Qe 217 #[N1 (bV [b,c,if a<=2 then 117 else f,if a<=3 then 117 else i,117]).toArray] r λm x=>m=Ps (N1 #[I .u8 (e/16777216:Nat),I .u8 (e/65536%256:Nat),I .u8 (e/256%256:Nat),I .u8 (e%256:Nat)])/\LT r.heap.size r x):=λr=>EY b c _ _ 117 M h1 h2 h3 Y e P hm r;clear M h1 h2 h3 P;generalize D:[b,c,if a<=2 then 117 else f,if a<=3 then 117 else i,117]=z at *;have a1:G z=5:=by rw[<-D];rfl
 have HR:=H D;have Q:(w.alloc (Pp (bV [b,c,f,i,n]).toArray 184)).heap[w.heap.size]?=O (Pp (bV [b,c,f,i,n]).toArray 184 (0,0)):=bn _ _;have h5:[b,c,f,i,n].length=5:=rfl;generalize [b,c,f,i,n]=ad at *;clear D;have a4:((a:Int)==0)=P2:=eB;have a3:(1:Int)<a:=Y
 go_in
 go_wp2_with (go_at_call 163;apply(nT _).m;rintro m x ⟨rfl,rfl⟩);go_loopw [6] (λu wr=>∃(k:Nat) (j:List Nat),a<=k/\k<=5/\u=I U k/\G j=5/\L1 (qJ j (5-k) k=z)/\wr.heap[w.heap.size]?=O (Pp (bV j).toArray 184 (0,0))/\LT w.heap.size w wr) (λu _=>5-(intOf u).toNat)
 case atStart=>exact⟨a,ad,ag _,Y,rfl,h5,J,Q,(aq _ _).alloc (ag _) _⟩
 clear Q J
 case round=>
  obtain⟨k,j,k1,k2,rfl,C,y,s,bl⟩:=hrel;by_cases hk:k<5
  ·obtain⟨aa,hx⟩:∃aa,wr.cell? ⟨w.heap.size,k,N⟩=O aa:=by rw[iI s];exact⟨_,cR (by simp[bV,C];omega)⟩
   have fx:wr.frozen? ⟨w.heap.size,k,N⟩=P2:=nG s;have a2:(k:Int)<5:=Y;have al:L1 ((wr.setCell ⟨w.heap.size,k,N⟩ (I .u8 117)).heap[w.heap.size]?=O (Pp (bV (j.set k 117)).toArray 184 (0,0))):=by unfold Hid;rw[lV _ s];exact dV (λac=>O (Obj.cells ac 184 (0,0))) (DX j k 117)
   have o:=H bl;go_wp2;go_roundw
   case rel=>refine⟨k+1,j.set k 117,Y,Y,by go_num,by rw[dI];exact C,?_,al,o.setCell (ag _) _⟩;have:=y.o;rw[show 5-k=(5-(k+1))+1 by omega,qJ]at this;exact this
   case measure=>simp[intOf];omega
  ·obtain rfl:k=5:=Y;obtain rfl:j=z:=y.o;have R:L1 (wr.rangeAt w.heap.size 0 (bV j)):=by intro a6 a8 hj;rw[iI s,bH];simpa using hj
   have S:L1 ((Tryz.prog.info? 184).map (·.size)=O (bV j).length):=by unfold Hid bV;rw[aw,C];kernel_rfl
   have o:=H bl;have W:=bl.size;clear s bl y;go_wp2_with (refine df rfl 184 (.tmp 4) rfl w.heap.size 0 rfl _ _ R dm rfl S ?_);apply(E _).m;rintro m X ⟨rfl,A⟩;have ao:=H ((h.ofBelow (o.t (A.m W))));have q:=H (o.t (A.m W));clear h o A E R S;have a5:=J5 X.heap.size a T V;have HP:=H (yN (ao.alloc (Pp #[I .u8 (e/16777216:Nat),I .u8 (e/65536%256:Nat),I .u8 (e/256%256:Nat),I .u8 (e%256:Nat)] 153)) (a-1) (O ⟨X.heap.size,0,N⟩) 4 Y v);go_wp2_with fail;apply HP.o.m;rintro m w2 ⟨rfl,a0,rfl⟩;exact⟨rfl,rfl,(((gb.refl _ _ _ _).t ⟨q.o.os,q.tape,q.o.output,q.size,λu a7 _ v _=>by rw[q.o.block u (ae v)];exact v⟩).alloc _).drewN a0⟩
def FU(h:Rd B br K F t d g w p L l)(b:List Nat)(x:G b=5)(a:Nat)(C:2<=a)(D:a<=4)(e:∀n,n<a->33<=nth b n/\nth b n<=117)(c:Nat)(j:Ax (nth b 0) (nth b 1) (nth b 2) (nth b 3) a=c)(k:c<=4294967295)(m:g<G l+(a-1)):K8 Qe 215 #[M2 (O ⟨br,0,N⟩),N1 (bV (jL b a)).toArray,I U a] w λu z=>u=gU 6/\gb 5 B [br] w z:=by
 match b,x with
 | [f,i,s,v,A],_=>
  have o:=e 0 Y;have q:=e 1 Y;obtain rfl|rfl|rfl:a=2\/a=3\/a=4:=Y;·exact FR h f i 0 0 0 2 Y Y o q eA eA c j k m
  ·have r:=e 2 Y;exact FR h f i s 0 0 3 Y Y o q r eA c j k m
  ·have r:=e 2 Y;have y:=e 3 Y;exact FR h f i s v 0 4 Y Y o q r y c j k m
def P0(a c b:Int)(w:Gr)(h:a<c\/b<a):K8 Qe 277 #[I .u64 a,I .u64 c,I .u64 b] w λe i=>e=Ps (OV P2)/\i=w:=by
 go_in
 rcases h with h|h
 ·have f:¬c<=a:=Y;go_wp2;go_ret;exact⟨rfl,rfl⟩
 ·have f:¬a<=b:=Y;go_wp2;all_goals (go_ret;exact⟨rfl,rfl⟩)
def Hq(a b c e f:Nat)(V:33<=a/\a<=117)(h1:33<=b/\b<=117)(h2:33<=c/\c<=117)(h3:33<=e/\e<=117)(W:33<=f/\f<=117)(q:Nat)(D:nF [a,b,c,e,f] 0=q)(hm:4294967295<q)(w:Gr):K8 Qe 217 #[N1 #[I .u8 a,I .u8 b,I .u8 c,I .u8 e,I .u8 f]] w λu x=>u=gU 5/\LT w.heap.size w x:=by
 obtain⟨i,e1⟩:∃i,i=a-33:=⟨_,rfl⟩;obtain⟨j,e2⟩:∃j,j=i*85+(b-33):=⟨_,rfl⟩;obtain⟨m,y⟩:∃m,m=j*85+(c-33):=⟨_,rfl⟩;obtain⟨n,e4⟩:∃n,n=m*85+(e-33):=⟨_,rfl⟩;have C:q=n*85+(f-33):=by rw[e4,y,e2,e1,<-D];show((((0*85+(a-33))*85+(b-33))*85+(c-33))*85+(e-33))*85+(f-33)=_;rw[Nat.zero_mul,bH]
 have Q:i<=84:=Y;have R:j<=7224:=Y;have S:m<=614124:=Y;have T:n<=52200624:=Y;have h:=H (And.intro e1 (And.intro e2 (And.intro y (And.intro e4 C))))
 go_in
 go_wp2;generalize z:World.alloc (World.alloc w _) _=s;have E:LT w.heap.size w s:=by rw[<-z];exact(((aq _ _).alloc (ag _) _).alloc eA _)
 have J:s.heap[w.heap.size+1]?=O (Pp #[I .u8 0,I .u8 0,I .u8 0,I .u8 0] 153 (0,0)):=by rw[<-z];have:=bn (w.alloc (Pp #[I .u8 a,I .u8 b,I .u8 c,I .u8 e,I .u8 f] 184)) (Pp #[I .u8 0,I .u8 0,I .u8 0,I .u8 0] 153 (0,0));simpa using this
 have A:=H E;have P:=H J;go_loopw [3,7] (λM v wr=>∃k:Nat,k<=5/\v=I U k/\M=I .u64 (pv i j m n q k:Nat)/\wr=s) (λ_ v _=>5-(intOf v).toNat)
 case atStart=>exact⟨0,Y,rfl,rfl,rfl⟩
 case round=>
  obtain⟨k,hk,rfl,rfl,rfl⟩:=hrel;obtain rfl|rfl|rfl|rfl|rfl|rfl:k=0\/k=1\/k=2\/k=3\/k=4\/k=5:=Y
  ·have r:=JS a b c e f;simp only[pv];go_wp2;go_roundw
   case rel=>refine⟨1,Y,rfl,?_,trivial⟩;show I .u64 _=I .u64 (i:Nat);congr 1;have:=h.o;omega
   case measure=>simp[intOf]
  ·have r:=JT a b c e f;simp only[pv];go_wp2;go_roundw
   case rel=>refine⟨2,Y,rfl,?_,trivial⟩;show I .u64 _=I .u64 (j:Nat);congr 1;have:=h.o;omega
   case measure=>simp[intOf]
  ·have r:=JU a b c e f;simp only[pv];go_wp2;go_roundw
   case rel=>refine⟨3,Y,rfl,?_,trivial⟩;show I .u64 _=I .u64 (m:Nat);congr 1;have:=h.o;omega
   case measure=>simp[intOf]
  ·have r:=JV a b c e f;simp only[pv];go_wp2;go_roundw
   case rel=>refine⟨4,Y,rfl,?_,trivial⟩;show I .u64 _=I .u64 (n:Nat);congr 1;have:=h.o;omega
   case measure=>simp[intOf]
  ·have r:=JW a b c e f;simp only[pv];go_wp2;go_roundw
   case rel=>refine⟨5,Y,rfl,?_,trivial⟩;show I .u64 _=I .u64 (q:Nat);congr 1;have:=h.o;omega
   case measure=>simp[intOf]
  ·simp only[pv];have X:q<18446744073709551616:=by have:=h.o;omega
   go_wp2_with fail;apply(P0 _ _ _ _ (P4 Y)).m;rintro u x ⟨rfl,rfl⟩;go_wp2_with fail;apply(mn _ rfl _).m;rintro u x ⟨rfl,rfl⟩;exact⟨rfl,rfl,A⟩
def FQ(h:Rd B br K F t d g w p L l)(b c e f j a:Nat)(hn:2<=a)(ac:a<=4)(S:33<=b/\b<=117)(h1:33<=c/\c<=117)(h2:33<=(if a<=2 then 117 else e)/\(if a<=2 then 117 else e)<=117)(h3:33<=(if a<=3 then 117 else f)/\(if a<=3 then 117 else f)<=117)
  (x:Nat) (V:nF [b,c,if a<=2 then 117 else e,if a<=3 then 117 else f,117] 0=x) (hm:4294967295<x):K8 Qe 215 #[M2 (O ⟨br,0,N⟩),N1 (bV [b,c,e,f,j]).toArray,I U a] w λo s=>o=gU 5/\gb 5 B [br] w s:=by
 have Q:=H (fe b c e f j a hn ac);have M:L1 (∀n:Gr,K8 Qe 217 #[N1 (bV [b,c,if a<=2 then 117 else e,if a<=3 then 117 else f,117]).toArray] n λo s=>o=gU 5/\LT n.heap.size n s):=λn=>Hq b c _ _ 117 S h1 h2 h3 Y x V hm n;generalize A:[b,c,if a<=2 then 117 else e,if a<=3 then 117 else f,117]=v at *;have al:G v=5:=by rw[<-A];rfl
 have HR:=H A;have W:(w.alloc (Pp (bV [b,c,e,f,j]).toArray 184)).heap[w.heap.size]?=O (Pp (bV [b,c,e,f,j]).toArray 184 (0,0)):=bn _ _;have T:[b,c,e,f,j].length=5:=rfl;generalize [b,c,e,f,j]=J at *;have a1:((a:Int)==0)=P2:=eB;have a0:(1:Int)<a:=Y
 go_in
 go_wp2_with (go_at_call 163;apply(nT _).m;rintro o s ⟨rfl,rfl⟩);go_loopw [6] (λq wr=>∃(k:Nat) (i:List Nat),a<=k/\k<=5/\q=I U k/\G i=5/\L1 (qJ i (5-k) k=v)/\wr.heap[w.heap.size]?=O (Pp (bV i).toArray 184 (0,0))/\LT w.heap.size w wr) (λq _=>5-(intOf q).toNat)
 case atStart=>exact⟨a,J,ag _,Y,rfl,T,Q,W,(aq _ _).alloc (ag _) _⟩
 case round=>
  obtain⟨k,i,k1,k2,rfl,y,z,r,bl⟩:=hrel;by_cases hk:k<5
  ·obtain⟨D,hx⟩:∃D,wr.cell? ⟨w.heap.size,k,N⟩=O D:=by rw[iI r];exact⟨_,cR (by simp[bV,y];omega)⟩
   have fx:wr.frozen? ⟨w.heap.size,k,N⟩=P2:=nG r;have ao:(k:Int)<5:=Y;have P:L1 ((wr.setCell ⟨w.heap.size,k,N⟩ (I .u8 117)).heap[w.heap.size]?=O (Pp (bV (i.set k 117)).toArray 184 (0,0))):=by unfold Hid;rw[lV _ r];exact dV (λE=>O (Obj.cells E 184 (0,0))) (DX i k 117)
   have u:=H bl;go_wp2;go_roundw
   case rel=>refine⟨k+1,i.set k 117,Y,Y,by go_num,by rw[dI];exact y,?_,P,u.setCell (ag _) _⟩;have:=z.o;rw[show 5-k=(5-(k+1))+1 by omega,qJ]at this;exact this
   case measure=>simp[intOf];omega
  ·obtain rfl:k=5:=Y;obtain rfl:i=v:=z.o;have X:L1 (wr.rangeAt w.heap.size 0 (bV i)):=by intro a2 a4 hj;rw[iI r,bH];simpa using hj
   have aa:L1 ((Tryz.prog.info? 184).map (·.size)=O (bV i).length):=by unfold Hid bV;rw[aw,y];kernel_rfl
   have u:=H bl;have ad:=bl.size;go_wp2_with (refine df rfl 184 (.tmp 4) rfl w.heap.size 0 rfl _ _ X dm rfl aa ?_);apply(M _).m;rintro o w1 ⟨rfl,R⟩;have m:=H (u.t (R.m ad));exact⟨rfl,rfl,⟨m.o.os,m.tape,m.o.output,m.size,λq a3 _ C _=>by rw[m.o.block q (ae C)];exact C⟩⟩
def FT(h:Rd B br K F t d g w p L l)(a:List Nat)(v:G a=5)(b:Nat)(A:2<=b)(C:b<=4)(e:∀m,m<b->33<=nth a m/\nth a m<=117)(c:Nat)(j:Ax (nth a 0) (nth a 1) (nth a 2) (nth a 3) b=c)(k:4294967295<c):K8 Qe 215 #[M2 (O ⟨br,0,N⟩),N1 (bV (jL a b)).toArray,I U b] w λs y=>s=gU 5/\gb 5 B [br] w y:=by
 match a,v with
 | [f,i,r,u,z],_=>
  have n:=e 0 Y;have o:=e 1 Y;obtain rfl|rfl|rfl:b=2\/b=3\/b=4:=Y;·exact FQ h f i 0 0 0 2 Y Y n o eA eA c j k
  ·have q:=e 2 Y;exact FQ h f i r 0 0 3 Y Y n o q eA c j k
  ·have q:=e 2 Y;have x:=e 3 Y;exact FQ h f i r u 0 4 Y Y n o q x c j k
def F8{A:List Nat}(w:Gr):K8 Qe 215 #[M2 (O ⟨br,0,N⟩),N1 (bV A).toArray,I U (1:Nat)] w λa b=>a=gU 5/\gb 5 B [br] w b:=by
 go_in
 go_wp2_with fail;apply(mn _ rfl _).m;rintro a b ⟨rfl,rfl⟩;exact⟨rfl,rfl,(gb.refl _ _ _ _).alloc _⟩
def BD(d:List Nat)(g:Nat)(l:List Nat)(e:Except Nat (List Nat))(a:List Nat)(c b:Nat):Prop:=
 G d-c<b/\(G a<5->aD d g b c (G a) (nF a 0) l=e) /\
  (G a=5->e=if 4294967296<=nF a 0 then .error 5 else if (G l)+4<=g then aD d g b c 0 0 (l++aO (nF a 0))else .error 6)
def Hv(a:List Nat)(c:Nat):∀b,nF (a++[c]) b=nF a b*85+(c-33):=by
 induction a with
 |nil=>intro b;rfl
 |cons f a e=>intro b;exact e _
def yk(d:List Nat)(g:Nat)(l:List Nat)(c:Except Nat (List Nat))(b:List Nat)(a:Nat):Prop:=
 (G d<=gh d a/\c=.error 5)\/(gh d a<G d/\(
  (nth d (gh d a)=122/\G b=0/\G l+4<=g/\∃e,G d-(gh d a+1)<e/\aD d g e (gh d a+1) 0 0 (l++[0,0,0,0])=c) \/
  (nth d (gh d a)=122/\G b=0/\g<G l+4/\c=.error 6) \/
  (33<=nth d (gh d a)/\nth d (gh d a)<=117/\∃e,BD d g l c (b++[nth d (gh d a)]) (gh d a+1) e) \/
  (nth d (gh d a)=126/\G d<=gh d a+1/\c=.error 5) \/
  (nth d (gh d a)=126/\gh d a+1<G d/\nth d (gh d a+1)≠62/\c=.error 5) \/
  (nth d (gh d a)=126/\gh d a+1<G d/\nth d (gh d a+1)=62/\(
   (G b=0/\c=mG d (gh d a+2) l)\/(G b=1/\c=.error 5)\/(2<=G b/\4294967295<nC (nF b 0) (G b)/\c=.error 5) \/
   (2<=G b/\nC (nF b 0) (G b)<=4294967295/\G l+(G b-1)<=g/\c=mG d (gh d a+2) (l++(aO (nC (nF b 0) (G b))).take (G b-1))) \/
   (2<=G b/\nC (nF b 0) (G b)<=4294967295/\g<G l+(G b-1)/\c=.error 6))) \/
  (nth d (gh d a)≠126/\(nth d (gh d a)<33\/117<nth d (gh d a))/\¬(nth d (gh d a)=122/\G b=0)/\c=.error 5)))
def BD.case{b:List Nat}{j i:Nat}{R:Except Nat (List Nat)}(h:BD d g l R b j i)(A:G b<5)(J:j<=G d):yk d g l R b j:=by
 obtain⟨E,h1,_⟩:=h;have a:=h1 A;obtain⟨i,rfl⟩:∃k,i=k+1:=⟨i-1,Y⟩;unfold aD at a;have C:=Av d j;by_cases r:G d<=gh d j;·rw[ai r]at a;exact P3 ⟨r,a.s⟩
 rw[ah r]at a;refine P4 ⟨Y,?_⟩;generalize M:gh d j=s at *;generalize D:nth d s=c at *;by_cases e:c=122/\G b=0
 ·rw[ai e]at a;by_cases y:G l+4<=g
  ·rw[ai y]at a;exact P3 ⟨e.1,e.2,y,i,Y,a⟩
  ·rw[ah y]at a;exact P4 (P3 ⟨e.1,e.2,Y,a.s⟩)
 rw[ah e]at a;refine P4 (P4 ?_);by_cases n:33<=c/\c<=117
 ·rw[ai n]at a;refine P3 ⟨n.1,n.2,i,Y,λm=>?_,λm=>?_⟩
  ·rw[ak]at m;simp only[aj,aI]at m;rw[ah Y]at a;rw[ak,Hv];exact a
  ·rw[ak]at m;simp only[aj,aI]at m;rw[ai Y]at a;rw[Hv];exact a.s
 rw[ah n]at a;refine P4 ?_;by_cases f:c=126
 ·by_cases o:s+1<G d
  ·refine P4 ?_;by_cases q:nth d (s+1)=62
   ·refine P4 (P3 ⟨f,o,q,?_⟩);by_cases v:G b=1
    ·rw[ah (λh=>h.2.2.2 v)]at a;exact P4 (P3 ⟨v,a.s⟩)
    rw[ai ⟨f,o,q,v⟩]at a;by_cases x:G b=0
    ·rw[ai x]at a;exact P3 ⟨x,a.s⟩
    rw[ah x]at a;refine P4 (P4 ?_);by_cases z:4294967296<=nC (nF b 0) (G b)
    ·rw[ai z]at a;exact P3 ⟨Y,Y,a.s⟩
    rw[ah z]at a;refine P4 ?_;by_cases u:G l+(G b-1)<=g
    ·rw[ai u]at a;exact P3 ⟨Y,Y,u,a.s⟩
    ·rw[ah u]at a;exact P4 ⟨Y,Y,Y,a.s⟩
   ·rw[ah (λh=>q h.2.2.1)]at a;exact P3 ⟨f,o,q,a.s⟩
  ·rw[ah (λh=>o h.2.1)]at a;exact P3 ⟨f,Y,a.s⟩
 ·rw[ah (λh=>f h.1)]at a;exact P4 (P4 (P4 ⟨f,Y,e,a.s⟩))
def jW(D:List Nat):List Nat:=D++Qf (5-G D) 0
def Da{a:List Nat}(h:G a<=5):(jW a).length=5:=by simp[jW];omega
def F7{a:List Nat}(h:G a<5)(c:Nat):(jW a).set (G a) c=jW (a++[c]):=by obtain⟨k,b⟩:∃k,5-G a=k+1:=⟨5-G a-1,Y⟩;unfold jW;rw[ak,b,show 5-(G a+[c].length)=k by simp;omega,er _ _ (ag _),dN,eY,List.set_cons_zero,bZ];rfl
def F1{D:List Nat}{a:Nat}(h:a<G D):nth (jW D) a=nth D a:=by simp[jW,nth,aP h]
def Ev{D:List Nat}(h:G D<=5):jL (jW D) (G D)=jW D:=by
 apply List.ext_getElem;·rw[yK]
 ·intro a h1 h2;rw[yK,Da h]at h1;simp only[jL,List.getElem_map,List.getElem_range];split;·simp[nth,af h2]
  ·rename_i b;simp[jW,List.getElem_append_right (show (G D)<=a by omega)]
def FZ{D:List Nat}(h2:2<=G D)(e:G D<=4):Ax (nth (jW D) 0) (nth (jW D) 1) (nth (jW D) 2) (nth (jW D) 3) (G D)=nC (nF D 0) (G D):=by
 match D,h2,e with
 | [a,b],_,_=>rfl
 | [a,b,c],_,_=>rfl
 | [a,b,c,f],_,_=>rfl
def BK(B br K F t:Nat)(d:List Nat)(g:Nat)(k:Nat->List Nat->Except Nat (List Nat)->Prop)(j:Nat->List Nat->Except Nat (List Nat))(e:Except Nat (List Nat))(m:Nat)(w:Gr)(f:MB)(c:Gr):Prop:=
 (f=Ps (OV PV)/\∃a b h,m<a/\k a b e/\Rd B br K F t d g c a h b/\gb 5 B [br] w c)\/(f=Ps (OV P2)/\∃a b h,e=j a b/\Rd B br K F t d g c a h b/\gb 5 B [br] w c)\/(∃i:Nat,e=.error i/\f=gU i/\gb 5 B [br] w c)
def Lo{J:Nat->List Nat->Except Nat (List Nat)->Prop}{f:Except Nat (List Nat)}(S:∀a b w L,J a b f->Rd B br K F t d g w a L b->K8 Qe 157 #[M2 (O ⟨br,0,N⟩)] w (BK B br K F t d g J (mG d) f a w))(Q:J p l f)(h:Rd B br K F t d g w p L l):K8 Qe 114 #[M2 (O ⟨br,0,N⟩)] w λi X=>tU B br K F t d g w f i X:=by
 have P:=H S
 go_in
 go_wp2;go_loopw [2] (λ_ wr=>∃(a:Nat) (b:List Nat) (v:GI),L1 (J a b f)/\Rd B br K F t d g wr a v b/\gb 5 B [br] w wr) (λ_ wr=>G d-posOf br wr)
 case atStart=>exact⟨p,l,L,Q,h,gb.refl _ _ _ _⟩
 case round=>
  obtain⟨a,b,v,D,r,n⟩:=hrel;have W:=H r.posOf;have C:=H (P a b wr v D r);go_wp2_with fail;apply C.o.m;rintro i w1 (⟨rfl,o,A,x,aa,R,j,e⟩|⟨rfl,o,A,x,u,j,e⟩|⟨ac,u,rfl,e⟩)
  ·have E:=H R;have V:=H j.posOf;have lp:=j.lp;go_wp2;go_roundw
   case rel=>exact⟨o,A,x,E,j,n.t e⟩
   case measure=>rw[W.o,V.o];omega
  ·have m:=H u;go_wp2_with fail;apply(EL j).m;rintro i w2 ⟨rfl,k,z⟩;have T:=k.lp;by_cases c:gh d o<G d
   ·go_wp2_with fail;apply(Ea k Y).m;rintro i w3 ⟨rfl,q,rfl⟩;refine⟨rfl,?_⟩;rw[m.o,mG,ai c];exact⟨rfl,((n.t e).t z).drewN q⟩
   ·obtain⟨s,y⟩:∃s,gh d o=s:=⟨_,rfl⟩;have M:=H y;rw[y]at k c T;obtain rfl:s=G d:=Y;go_wp2_with fail;apply(Eb k).m;rintro i w3 ⟨rfl,q,rfl⟩;go_wp2
    go_end0
    rw[m.o,mG,M.o,ah (Nat.lt_irrefl _)];exact⟨rfl,x,k.drewN q,((n.t e).t z).drewN q⟩
  ·have m:=H u;refine⟨rfl,?_⟩;rw[m.o];exact⟨rfl,n.t e⟩
def Kz{ba:Except Nat (List Nat)}{ao:Nat}{b5:Nat->List Nat->Except Nat (List Nat)->Prop}(HJ:L1 (∀V b9 ao,G d-V<ao->aD d g ao V 0 0 b9=ba->b5 V b9 ba))(h:Rd B br K F t d g w p L l)(hf:G d-p<ao)(hR:aD d g ao p 0 0 l=ba):K8 Qe 157 #[M2 (O ⟨br,0,N⟩)] w (BK B br K F t d g b5 (mG d) ba p w):=by
 have b0:L1 (BD d g l ba [] p ao):=⟨hf,λ_=>hR,λh=>(by cases h)⟩;have c1:=ae h.blk;have b2:L1 ((w.alloc (Pp #[I .u8 0,I .u8 0,I .u8 0,I .u8 0,I .u8 0] 184 (0,0))).heap[w.heap.size]?=O (Pp (bV (jW [])).toArray 184 (0,0))):=bn _ _;have b3:=H (h.alloc (Pp #[I .u8 0,I .u8 0,I .u8 0,I .u8 0,I .u8 0] 184 (0,0)));clear h hf hR
 go_in
 go_wp2;go_loopw [7] (λi wr=>∃(b:List Nat) (V ao:Nat),G b<=5/\i=I U (G b)/\wr.heap[w.heap.size]?=O (Pp (bV (jW b)).toArray 184 (0,0))/\Rd B br K F t d g wr V L l/\p+G b<=V/\L1 (∀bf∈b,33<=bf/\bf<=117)/\L1 (BD d g l ba b V ao)/\gb 5 B [br] w wr) (λi _=>5-(intOf i).toNat)
 case atStart=>exact⟨[],p,ao,eA,rfl,b2,b3,ag _,(λbf hx=>(by cases hx)),b0,(gb.refl _ _ _ _).alloc _⟩
 clear b2 b3 b0
 case round=>
  obtain⟨b,V,ao,bq,rfl,hb,hr,bv,HG,HS,kk⟩:=hrel;have a0:=H (Da bq);have c3:(({data:=#[126,62]}:ByteArray)[0]'cO).toNat=126:=rfl;have c4:(({data:=#[126,62]}:ByteArray)[1]'cO).toNat=62:=rfl;have c0:=hr.hB;have cy:=hr.hb;obtain⟨k,hk⟩:∃k,G b=k:=⟨_,rfl⟩;have m:=H hk;by_cases bt:G b<5
  ·have a3:=HS.o.case bt hr.lp;unfold yk at a3;rw[hk]at bt a3 bv bq ⊢;have c2:(k:Int)<5:=Y;clear hk HS;rcases a3 with⟨ct,v⟩|⟨b8,a3⟩
   ·have s:=H (FF hr ct);go_wp2_with fail;apply s.o.m;rintro a f ⟨rfl,e⟩;exact⟨rfl,P4 (P4 ⟨5,v,rfl,kk.t e⟩)⟩
   ·have s:=H (vh hr b8);have x:=H hb;have y:=H kk;obtain⟨a9,hs⟩:∃a9,gh d V=a9:=⟨_,rfl⟩;have b4:L1 (V<=a9):=by have:=Av d V;rw[hs]at this;exact this
    rw[hs]at a3 b8 s;obtain⟨j,hC⟩:∃j,nth d a9=j:=⟨_,rfl⟩;rw[hC]at a3 s;clear hs hC;rcases a3 with⟨hc,bd,ho,f',co,ck⟩|⟨hc,bd,ho,v⟩|⟨ci,ch,f',hA⟩|⟨hc,a7,v⟩|⟨hc,a7,bb,v⟩|⟨hc,a7,bb,a3⟩|⟨hc,cn,hz,v⟩
    ·have HQ:L1 (p<a9+1):=by have:=b4.o;unfold Hid;omega
     obtain rfl:k=0:=bd;have e1:((j:Int)==126)=P2:=eB;have e2:((j:Int)==122)=PV:=eB;clear hc;go_wp2_with fail;apply s.o.m;rintro a f ⟨rfl,n,e⟩;have o:=e.block w.heap.size _ eB x (P4 eS);have a4:=H n;have r:=H (y.t e);clear n e s o x y;go_wp2_with fail;refine(po (a4.alloc (Pp #[I .u8 0,I .u8 0,I .u8 0,I .u8 0] 5)) [0,0,0,0] ⟨f.heap.size,0,N⟩ 4 ho (by have:=a4.o.sz;simp;omega) (by
      intro i S;have h4:i<4:=S;rw[pR,iI (bn _ _)];match i,h4 with
      |0,_=>rfl
      |1,_=>rfl
      |2,_=>rfl
      |3,_=>rfl)).m ?_
     rintro a w2 ⟨rfl,bw,A,q⟩;go_wp2;go_ret;exact P3 ⟨rfl,_,_,bw,HQ,HJ _ _ _ co ck,A,(r.alloc _).t q⟩
    ·obtain rfl:k=0:=bd;have e1:((j:Int)==126)=P2:=eB;have e2:((j:Int)==122)=PV:=eB;go_wp2_with fail;apply s.o.m;rintro a f ⟨rfl,n,e⟩;have o:=e.block w.heap.size _ eB x (P4 eS);have a4:=H n;have r:=H (y.t e);clear n e s o x y;go_wp2_with fail;apply(yN (a4.alloc (Pp #[I .u8 0,I .u8 0,I .u8 0,I .u8 0] 5)) 4 (O ⟨f.heap.size,0,N⟩) 4 Y ho).m;rintro a w2 ⟨rfl,bx,rfl⟩;exact⟨rfl,P4 (P4 ⟨6,v,rfl,(r.alloc _).drewN bx⟩)⟩
    ·have e1:((j:Int)==126)=P2:=eB;have e2:((j:Int)==122)=P2:=eB;go_wp2_with fail;apply s.o.m;rintro a f ⟨rfl,n,e⟩;have o:=e.block w.heap.size _ eB x (P4 eS);obtain⟨bf,hx⟩:∃bf,f.cell? ⟨w.heap.size,k,N⟩=O bf:=by rw[iI o];exact⟨_,cR (by simp[bV,a0.o];omega)⟩
     have fx:f.frozen? ⟨w.heap.size,k,N⟩=P2:=nG o;have cb:L1 ((f.setCell ⟨w.heap.size,k,N⟩ (I .u8 (j:Nat))).heap[w.heap.size]?=O (Pp (bV (jW (b++[j]))).toArray 184 (0,0))):=by unfold Hid;rw[lV _ o,<-F7 oj j,m.o];exact dV (λcg=>O (Obj.cells cg 184 (0,0))) (DX (jW b) k j)
     have a1:=H (n.other (i:=k) o cO Y Y (I .u8 (j:Nat)));have cf:=H (gb.setNew (y.t e) (q:=⟨w.heap.size,k,N⟩) (ag _) (I .u8 (j:Nat)));have ca:=H hA;clear n e o x y s hA;go_wp2_with (first|(go_at_call 216;apply(PS _ _ _ _ Y Y).m;rintro a W ⟨rfl,rfl⟩)|(go_at_call 163;apply(nT _).m;rintro a W ⟨rfl,rfl⟩));go_roundw
     case rel=>
      have cr:(b++[j]).length=k+1:=by rw[ak,m.o];rfl
      refine⟨b++[j],a9+1,f',Y,by rw[cr];go_num,cb,a1,by have:=b4.o;omega,?_,ca,cf⟩;intro cx hy;rcases bG.1 hy with hy|hy;·exact HG cx hy
      ·rw[cU.1 hy];exact⟨ci,ch⟩
     case measure=>simp[intOf];omega
    ·have e1:((j:Int)==126)=PV:=eB;clear hc;go_wp2_with fail;apply s.o.m;rintro a f ⟨rfl,n,e⟩;have o:=e.block w.heap.size _ eB x (P4 eS);have r:=H (y.t e);have cv:a9+1=G d:=by have:=n.lp;omega
     rw[cv]at n;have z:=H (zI (w:=f.drew) (n.drewN 1));go_wp2_with fail;refine om (λ_ _=>True) aG ?_;intro D;have X:(λ(_:Array Bool) (_:Gr)=>True) (Array.replicate 5 P2) f.drew:=trivial;refine tj 0 D X λD X=>?_;refine tj 2 D X λD X=>?_;refine on 1 D λK' hK=>?_;go_simp;apply z.o.m;rintro a w2 ⟨rfl,q⟩;exact⟨rfl,P4 (P4 ⟨5,v,rfl,(r.drew).t q⟩)⟩
    ·have e1:((j:Int)==126)=PV:=eB;clear hc;go_wp2_with fail;apply s.o.m;rintro a f ⟨rfl,n,e⟩;have o:=e.block w.heap.size _ eB x (P4 eS);have r:=H (y.t e);have z:=H (sQ (w:=f.drew) (n.drewN 1) a7);obtain⟨C2,b7⟩:∃C2,nth d (a9+1)=C2:=⟨_,rfl⟩;rw[b7]at z bb;have t2:L1 (((C2:Int)==62)=P2):=by unfold Hid;simp;omega
     clear n e x y s o b7;go_wp2_with fail;refine om (λ_ _=>True) aG ?_;intro D;have X:(λ(_:Array Bool) (_:Gr)=>True) (Array.replicate 5 P2) f.drew:=trivial;refine tj 0 D X λD X=>?_;refine tj 2 D X λD X=>?_;refine on 1 D λK' hK=>?_;go_simp;apply z.o.m;rintro a w2 ⟨rfl,A,q⟩;refine hK _ _ trivial (λcj cl=>?_);clear D X hK K';have D:=cj;have X:=cl
     (try simp only[nH])
     refine tj 3 D X λD X=>?_;refine on 4 D λK' hK=>?_;go_simp;apply(mn _ t2 _).m;rintro a w7 ⟨rfl,rfl⟩;exact⟨rfl,P4 (P4 ⟨5,v,rfl,(r.drew).t q⟩)⟩
    ·rcases a3 with⟨bd,v⟩|⟨cp,v⟩|⟨bi,a5,v⟩|⟨bi,a5,ho,v⟩|⟨bi,a5,ho,v⟩
     ·obtain rfl:k=0:=bd;have e1:((j:Int)==126)=PV:=eB;clear hc;go_wp2_with fail;apply s.o.m;rintro a f ⟨rfl,n,e⟩;have o:=e.block w.heap.size _ eB x (P4 eS);have a2:=H o;have r:=H (y.t e);have z:=H (sQ (w:=f.drew) (n.drewN 1) a7);rw[bb]at z;clear n e x y s o;go_wp2_with fail;go_region_with (first|(go_at_call 214;apply z.o.m;rintro a w2 ⟨rfl,A,q⟩)|(go_at_call 163;apply(nT _).m;rintro a W ⟨rfl,rfl⟩));all_goals (
       have a1:=H A;have T:=q.block w.heap.size _ eB (show f.drew.heap[w.heap.size]?=_ from a2.o) (P4 eS);have K2:=H ((r.drew).t q);have ad:=Bs T;have al:L1 ((Tryz.prog.info? 184).map (·.size)=O (bV (jW b)).length):=by unfold Hid bV;rw[aw,a0.o];kernel_rfl
       clear A q T;have ac:=H (λE=>by
        have:=Nk (br:=br) (G:=jW b) E
        rwa [show jL (jW b) 0=jW b from by have:=Ev (D:=b) oj;rwa [m.o]at this]at this)
       go_wp2_with (refine df rfl 184 (.tmp 3) rfl w.heap.size 0 rfl _ _ ad dm rfl al ?_);apply(ac _).m;rintro a w3 ⟨rfl,o3,rfl⟩;go_wp2;go_ret;exact P4 (P3 ⟨rfl,_,_,L,v,a1.alloc o3,K2.alloc o3⟩))
     ·obtain rfl:k=1:=cp;have e1:((j:Int)==126)=PV:=eB;go_wp2_with fail;apply s.o.m;rintro a f ⟨rfl,n,e⟩;have o:=e.block w.heap.size _ eB x (P4 eS);have a2:=H o;have r:=H (y.t e);have z:=H (sQ (w:=f.drew) (n.drewN 1) a7);rw[bb]at z;clear n e x y s o;go_wp2_with fail;go_region_with (first|(go_at_call 214;apply z.o.m;rintro a w2 ⟨rfl,A,q⟩)|(go_at_call 163;apply(nT _).m;rintro a W ⟨rfl,rfl⟩));all_goals (
       have a1:=H A;have T:=q.block w.heap.size _ eB (show f.drew.heap[w.heap.size]?=_ from a2.o) (P4 eS);have K2:=H ((r.drew).t q);have ad:=Bs T;have al:L1 ((Tryz.prog.info? 184).map (·.size)=O (bV (jW b)).length):=by unfold Hid bV;rw[aw,a0.o];kernel_rfl
       clear A q T;have ac:=H (λE=>F8 (B:=B) (br:=br) (A:=jW b) E);go_wp2_with (refine df rfl 184 (.tmp 3) rfl w.heap.size 0 rfl _ _ ad dm rfl al ?_);apply(ac _).m;rintro a w3 ⟨rfl,k3⟩;exact⟨rfl,P4 (P4 ⟨5,v,rfl,K2.t k3⟩)⟩)
     ·have e1:((j:Int)==126)=PV:=eB;clear hc;go_wp2_with fail;apply s.o.m;rintro a f ⟨rfl,n,e⟩;have o:=e.block w.heap.size _ eB x (P4 eS);have a2:=H o;have r:=H (y.t e);have z:=H (sQ (w:=f.drew) (n.drewN 1) a7);rw[bb]at z;go_wp2_with fail;go_region_with (first|(go_at_call 214;apply z.o.m;rintro a w2 ⟨rfl,A,q⟩)|(go_at_call 163;apply(nT _).m;rintro a W ⟨rfl,rfl⟩));all_goals (
       have a1:=H A;have T:=q.block w.heap.size _ eB (show f.drew.heap[w.heap.size]?=_ from a2.o) (P4 eS);have K2:=H ((r.drew).t q);have ad:=Bs T;have al:L1 ((Tryz.prog.info? 184).map (·.size)=O (bV (jW b)).length):=by unfold Hid bV;rw[aw,a0.o];kernel_rfl
       clear A q T;have a6:∀i,i<k->33<=nth (jW b) i/\nth (jW b) i<=117:=λi S=>by
        rw[F1 tx];have:nth b i=b[i]'tx:=by simp[nth,af (show i<G b by rw[m.o];exact S)]
        rw[this];exact HG _ (cq _)
       have aa:jL (jW b) k=jW b:=by have:=Ev (D:=b) oj;rwa [m.o]at this
       have a8:Ax (nth (jW b) 0) (nth (jW b) 1) (nth (jW b) 2) (nth (jW b) 3) k=nC (nF b 0) k:=by
        have:=FZ (D:=b) oj oj
        rwa [m.o]at this
       have ac:=H (FT a1 (jW b) a0 k bi Y a6 _ a8 a5);rw[aa]at ac;clear a6 aa a8 a5;go_wp2_with (refine df rfl 184 (.tmp 3) rfl w.heap.size 0 rfl _ _ ad dm rfl al ?_);apply ac.o.m;rintro a w3 ⟨rfl,k3⟩;exact⟨rfl,P4 (P4 ⟨5,v,rfl,K2.t k3⟩)⟩)
     ·have e1:((j:Int)==126)=PV:=eB;clear hc;go_wp2_with fail;apply s.o.m;rintro a f ⟨rfl,n,e⟩;have o:=e.block w.heap.size _ eB x (P4 eS);have a2:=H o;have r:=H (y.t e);have z:=H (sQ (w:=f.drew) (n.drewN 1) a7);rw[bb]at z;go_wp2_with fail;go_region_with (first|(go_at_call 214;apply z.o.m;rintro a w2 ⟨rfl,A,q⟩)|(go_at_call 163;apply(nT _).m;rintro a W ⟨rfl,rfl⟩));all_goals (
       have a1:=H A;have T:=q.block w.heap.size _ eB (show f.drew.heap[w.heap.size]?=_ from a2.o) (P4 eS);have K2:=H ((r.drew).t q);have ad:=Bs T;have al:L1 ((Tryz.prog.info? 184).map (·.size)=O (bV (jW b)).length):=by unfold Hid bV;rw[aw,a0.o];kernel_rfl
       clear A q T;have a6:∀i,i<k->33<=nth (jW b) i/\nth (jW b) i<=117:=λi S=>by
        rw[F1 tx];have:nth b i=b[i]'tx:=by simp[nth,af (show i<G b by rw[m.o];exact S)]
        rw[this];exact HG _ (cq _)
       have aa:jL (jW b) k=jW b:=by have:=Ev (D:=b) oj;rwa [m.o]at this
       have a8:Ax (nth (jW b) 0) (nth (jW b) 1) (nth (jW b) 2) (nth (jW b) 3) k=nC (nF b 0) k:=by
        have:=FZ (D:=b) oj oj
        rwa [m.o]at this
       have ac:=H (Nj a1 (jW b) a0 k bi Y a6 _ a8 a5 ho);rw[aa]at ac;clear a6 aa a8 a5;go_wp2_with (refine df rfl 184 (.tmp 3) rfl w.heap.size 0 rfl _ _ ad dm rfl al ?_);apply ac.o.m;rintro a w3 ⟨rfl,cw,r3,k3⟩;go_wp2;go_ret;exact P4 (P3 ⟨rfl,_,_,cw,v,r3,K2.t k3⟩))
     ·have e1:((j:Int)==126)=PV:=eB;clear hc;go_wp2_with fail;apply s.o.m;rintro a f ⟨rfl,n,e⟩;have o:=e.block w.heap.size _ eB x (P4 eS);have a2:=H o;have r:=H (y.t e);have z:=H (sQ (w:=f.drew) (n.drewN 1) a7);rw[bb]at z;go_wp2_with fail;go_region_with (first|(go_at_call 214;apply z.o.m;rintro a w2 ⟨rfl,A,q⟩)|(go_at_call 163;apply(nT _).m;rintro a W ⟨rfl,rfl⟩));all_goals (
       have a1:=H A;have T:=q.block w.heap.size _ eB (show f.drew.heap[w.heap.size]?=_ from a2.o) (P4 eS);have K2:=H ((r.drew).t q);have ad:=Bs T;have al:L1 ((Tryz.prog.info? 184).map (·.size)=O (bV (jW b)).length):=by unfold Hid bV;rw[aw,a0.o];kernel_rfl
       clear A q T;have a6:∀i,i<k->33<=nth (jW b) i/\nth (jW b) i<=117:=λi S=>by
        rw[F1 tx];have:nth b i=b[i]'tx:=by simp[nth,af (show i<G b by rw[m.o];exact S)]
        rw[this];exact HG _ (cq _)
       have aa:jL (jW b) k=jW b:=by have:=Ev (D:=b) oj;rwa [m.o]at this
       have a8:Ax (nth (jW b) 0) (nth (jW b) 1) (nth (jW b) 2) (nth (jW b) 3) k=nC (nF b 0) k:=by
        have:=FZ (D:=b) oj oj
        rwa [m.o]at this
       have ac:=H (FU a1 (jW b) a0 k bi Y a6 _ a8 a5 ho);rw[aa]at ac;clear a6 aa a8 a5;go_wp2_with (refine df rfl 184 (.tmp 3) rfl w.heap.size 0 rfl _ _ ad dm rfl al ?_);apply ac.o.m;rintro a w3 ⟨rfl,k3⟩;exact⟨rfl,P4 (P4 ⟨6,v,rfl,K2.t k3⟩)⟩)
    ·by_cases b6:j=122
     ·have bd:k≠0:=λh=>hz ⟨b6,h⟩;have e1:((j:Int)==126)=P2:=eB;have e2:((j:Int)==122)=PV:=eB;have e3:((k:Int)==0)=P2:=eB;go_wp2_with fail;apply s.o.m;rintro a f ⟨rfl,n,e⟩;have o:=e.block w.heap.size _ eB x (P4 eS);have r:=H (y.t e);have bs:(j:Int)<33\/117<(j:Int):=Y;clear n e s o x y cn hc hz b6;go_wp2_with fail;apply(Kv _ _ _ _ bs).m;rintro a W ⟨rfl,rfl⟩;go_wp2_with fail;apply(mn _ rfl _).m;rintro a W ⟨rfl,rfl⟩;exact⟨rfl,P4 (P4 ⟨5,v,rfl,r⟩)⟩
     ·have e1:((j:Int)==126)=P2:=eB;have e2:((j:Int)==122)=P2:=eB;go_wp2_with fail;apply s.o.m;rintro a f ⟨rfl,n,e⟩;have o:=e.block w.heap.size _ eB x (P4 eS);have r:=H (y.t e);have bs:(j:Int)<33\/117<(j:Int):=Y;go_wp2_with fail;apply(Kv _ _ _ _ bs).m;rintro a W ⟨rfl,rfl⟩;go_wp2_with fail;apply(mn _ rfl _).m;rintro a W ⟨rfl,rfl⟩;exact⟨rfl,P4 (P4 ⟨5,v,rfl,r⟩)⟩
  ·have bm:G b=5:=Y;have bc:=HS.o.2.2 bm;have cd:=H HS.1;rw[bm];obtain⟨J,M,P,Q,R,rfl⟩:∃J M P Q R,b=[J,M,P,Q,R]:=by
    match b,bm with
    | [J,M,P,Q,R],_=>exact⟨J,M,P,Q,R,rfl⟩
   have G0:=HG.o J eA;have G1:=HG.o M eA;have G2:=HG.o P eA;have G3:=HG.o Q eA;have G4:=HG.o R eA;obtain⟨u,hV⟩:∃u,nF [J,M,P,Q,R] 0=u:=⟨_,rfl⟩;rw[hV]at bc;have aa:jW [J,M,P,Q,R]=[J,M,P,Q,R]:=by simp[jW]
   have cu:p<V:=by simp at bv;omega
   have ad:=Bs hb;have al:L1 ((Tryz.prog.info? 184).map (·.size)=O (bV (jW [J,M,P,Q,R])).length):=by unfold Hid bV;rw[aw,a0.o];kernel_rfl
   have KK:=H kk;have HR:=H hr;clear hb kk hr hk m HS HG bv bq bt bm;by_cases cV:4294967296<=u
   ·rw[ai cV]at bc;have bo:L1 (∀E:Gr,K8 Qe 217 #[N1 (bV (jW [J,M,P,Q,R])).toArray] E λa W=>a=gU 5/\LT E.heap.size E W):=by rw[aa];exact λE=>Hq J M P Q R G0 G1 G2 G3 G4 u hV Y E
    have HF:=H bc;clear bc hV G0 G1 G2 G3 G4 aa;generalize jW [J,M,P,Q,R]=bz at *;go_wp2_with (refine df rfl 184 (.tmp 3) rfl w.heap.size 0 rfl _ _ ad dm rfl al ?_);apply(bo _).m;rintro a f ⟨rfl,b1⟩;exact⟨rfl,P4 (P4 ⟨5,HF,rfl,KK.t (gb.ofBelow' b1)⟩)⟩
   ·rw[ah cV]at bc;have bo:L1 (∀E:Gr,K8 Qe 217 #[N1 (bV (jW [J,M,P,Q,R])).toArray] E λa W=>a=Ps (N1 #[I .u8 (u/16777216:Nat),I .u8 (u/65536%256:Nat),I .u8 (u/256%256:Nat),I .u8 (u%256:Nat)])/\LT E.heap.size E W):=by rw[aa];exact λE=>EY J M P Q R G0 G1 G2 G3 G4 u hV Y E
    have HF:=H bc;clear bc hV G0 G1 G2 G3 G4 aa;generalize jW [J,M,P,Q,R]=bz at *;go_wp2_with (refine df rfl 184 (.tmp 3) rfl w.heap.size 0 rfl _ _ ad dm rfl al ?_);apply(bo _).m;rintro a f ⟨rfl,b1⟩;have a4:=H (HR.o.ofBelow b1);have r:=H (KK.t (gb.ofBelow' b1));by_cases ho:G l+4<=g
    ·have HP:=H (po (a4.alloc (Pp #[I .u8 (u/16777216:Nat),I .u8 (u/65536%256:Nat),I .u8 (u/256%256:Nat),I .u8 (u%256:Nat)] 153)) (aO u) ⟨f.heap.size,0,N⟩ 4 ho (by have:=a4.o.sz;simp;omega) (by
      intro i S;have h4:i<4:=S;rw[pR,iI (bn _ _)];match i,h4 with
      |0,_=>rfl
      |1,_=>rfl
      |2,_=>rfl
      |3,_=>rfl))
     have cs:(aO u).length=4:=rfl;rw[cs]at HP;have ce:=H (HJ V (l++aO u) ao cd (by rw[HF.o,ai ho]));go_wp2_with fail;apply HP.o.m;rintro a w2 ⟨rfl,bw,A,q⟩;go_wp2;go_ret;exact P3 ⟨rfl,_,_,bw,cu,ce,A,(r.alloc _).t q⟩
    ·have HP:=H (yN (a4.alloc (Pp #[I .u8 (u/16777216:Nat),I .u8 (u/65536%256:Nat),I .u8 (u/256%256:Nat),I .u8 (u%256:Nat)] 153)) 4 (O ⟨f.heap.size,0,N⟩) 4 Y Y);have cc:L1 (ba=.error 6):=by unfold Hid;rw[HF.o,ah ho]
     go_wp2_with fail;apply HP.o.m;rintro a w2 ⟨rfl,bx,rfl⟩;exact⟨rfl,P4 (P4 ⟨6,cc,rfl,(r.alloc _).drewN bx⟩)⟩
def Lq(h:Rd B br K F t d g w 0 L []):K8 Qe 114 #[M2 (O ⟨br,0,N⟩)] w λj n=>tU B br K F t d g w (aD d g (G d+1) 0 0 0 []) j n:=by
 refine Lo (J:=λb f i=>∃a,G d-b<a/\aD d g a b 0 0 f=i) (λb f o q k m=>?_) ⟨G d+1,Y,rfl⟩ h;obtain⟨a,e,c⟩:=k;exact Kz (H (λb f a e c=>⟨a,e,c⟩)) m e c
end
section
variable{B b:Nat}{S:ByteArray}{most:Nat}{w:Gr}{p:Nat}{s:GI}{m:List Nat}{e:Nat}
def Gn(h:jx B b S most w 0 s [] 0){aa:Except Nat (List Nat)}(bv:lk most (gC S 0) aa):K8 Qe 77 #[M2 (O ⟨b,0,N⟩)] w λl w'=>l=Ps (OW #[])/\∃E bz a e,jx B b S most w' E bz a e/\yZ aa a e/\gb 5 B [b] w w':=by
 obtain⟨L,hO,HR⟩:∃L,lu most (gC S 0) L/\L1 ((∃e,L=.error e/\aa=.error e)\/(∃r' o',L=.ok (r',o')/\aa=lM r' o')):=by
  rcases bv with⟨e,h,rfl⟩|⟨r',a,h,rfl⟩;·exact⟨_,h,P3 ⟨e,rfl,rfl⟩⟩
  ·exact⟨_,h,P4 ⟨r',a,rfl,rfl⟩⟩
 have HO:=H (Ob h hO)
 go_in
 go_wp2_with fail;apply HO.o.m;rintro l w1 ⟨rfl,E,b3,a,e1,z,bo,k1⟩;have X:=H bo;have c1:=z.c1;have f1:=z.fz 1;have ls:=z.ls;have lp:=z.lp;have lo:=z.lo;have lm:=z.lm;obtain⟨i,hK⟩:∃i,(E+7)/8=i:=⟨_,rfl⟩;have j:=z.set1 (8*i) Y;have t:=k1.setCell (p:=⟨b,1,N⟩) eA (I U ((8*i:Nat):Int));have eK:((8*i:Nat):Int)=((E:Int)+7)/8*8:=Y;rw[eK]at j t;have t:=H t;have HK:=H hK;have b0:8*i<=8*S.size+8:=Y;obtain⟨ao,oc,bt⟩:=jp j.own;subst bt;by_cases K:e1=0
 ·have bs:∀l∈a,l<256:=by
   have:=X.o;unfold pE at this;subst K;cases L with
   |error bw=>exact absurd this.1.s this.2
   |ok l=>exact this.2.2.2.2
  have bi:=H bs;have b2:E<=8*S.size:=by
   have:=X.o;unfold pE at this;subst K;cases L with
   |error bw=>exact absurd this.1.s this.2
   |ok l=>exact this.2.2.2.1
  have br:8*i<=8*S.size:=by have:=HK.o;omega
  go_wp2;obtain⟨A,hW⟩:∃A,w1.setCell ⟨b,1,N⟩ (I U (((E:Int)+7)/8*8))=A:=⟨_,rfl⟩;rw[hW]at j t ⊢;have d2:=j.c2;go_loopw [2,3,4] (λal c C wr=>∃k:Nat,k<=G a/\C=I U k/\al=I U (iU (a.take k)).1/\c=I U (iU (a.take k)).2/\wr=A) (λ_ _ C _=>G a-(intOf C).toNat)
  case atStart=>exact⟨0,aH _,rfl,rfl,rfl,rfl⟩
  case round=>
   obtain⟨k,hk,rfl,rfl,rfl,rfl⟩:=hrel;have hs:=Dr (a.take k);by_cases M:k<G a
   ·have a3:(k:Int)<G a:=Y;obtain⟨bq,bx,P,_⟩:=uH j.own Y;simp only[Value.slice.injEq]at P;obtain⟨rfl,_,rfl⟩:=P;have Q:=j.own.cellAt k Y;rw[aY,af M]at Q;simp only[aZ]at Q;have b1:=bi.o _ (cq M);have bd:=H (J7 (a.take k) a[k]);have bf:L1 (a.take (k+1)=a.take k++[a[k]]):=by rw[bJ M];exact rfl
    generalize hX:a[k]=bm at *;generalize hA:(iU (a.take k)).1=V at *;generalize a2:(iU (a.take k)).2=W at *;have HA:=H hA;have HB:=H a2;go_wp2;go_roundw
    case rel=>
     refine⟨k+1,Y,by go_num,?_,?_,trivial⟩
     ·rw[bf.o,bd.o];simp
     ·rw[bf.o,bd.o];simp
    case measure=>simp[intOf];omega
   ·have a3:¬(k:Int)<G a:=Y;obtain rfl:k=G a:=Y;rw[fB]at hs ⊢;generalize hA:(iU a).1=V at *;generalize a2:(iU a).2=W at *;have HA:=H hA;have HB:=H a2;go_wp2;go_loopw [5,6] (λvs F wr=>∃(d f g e:Nat),vs=I U f/\F=I U d/\d<=4/\f<256^d/\jx B b S most wr g (Z ao (G a) oc) a e/\L1 (vE S (8*i) e1 d f g e)/\gb 5 B [b] w wr) (λ_ F _=>4-(intOf F).toNat)
    case atStart=>exact⟨0,0,8*i,e1,rfl,rfl,Y,cO,j,P4 (P3 ⟨K,K,Y,br,by simp[pT]⟩),t⟩
    case round=>
     obtain⟨d,f,g,e,rfl,rfl,hj,a6,r,q,R⟩:=hrel;have a4:256^d<=256^4:=aJ Y hj;have a1:(256:Nat)^4=4294967296:=cO;rw[a1]at a4;by_cases cj:d<4
     ·have a0:(d:Int)<4:=Y;have HP:=H (cY 256 d);have ac:=H a6;have a5:f<4294967296:=Y;go_wp2_with fail;apply(rL r 8 Y).m;rintro l w4 ⟨T,q4,e4,rfl,r4,B4,a7,k4⟩;have hv:T<256:=by simpa using a7
      have ad:=H (q.step cj B4);go_wp2;go_roundw
      case rel=>refine⟨d+1,256*f+T,q4,e4,by go_num,by go_num,Y,?_,r4,ad,R.t k4⟩;have:=ac.o;rw[HP.o];omega
      case measure=>simp[intOf];omega
     ·have a0:¬(d:Int)<4:=Y;obtain rfl:d=4:=Y;have a5:f<4294967296:=Y;have d0:=r.c0;have d1:=r.c1;have J:=H (λe2 (he:e2=if f=65536*(iU a).2+(iU a).1/\g=8*S.size then e else nE 5 e)=>Ka X (q0:=8*i) (by have:=HK.o;omega) HR q he);have y:=H r;have u:=H R;have ba:L1 (e1≠0->e≠0):=λh=>by
       rcases q.o with⟨h1,h2⟩|⟨h1,_⟩|⟨h1,_⟩;·omega
       ·exact absurd h1 h
       ·exact absurd h1 h
      rw[HA.o,HB.o]at J;by_cases t1:f=65536*W+V
      ·have a8:((f:Int) != 65536*(W:Int)+(V:Int))=P2:=eB;by_cases t2:g=8*S.size
       ·have a9:((g:Int) != 8*(S.size:Int))=P2:=eB;have n:=H (J e (by rw[ai ⟨t1,t2⟩]));go_wp2_with fail;go_quiet (fail);go_wp2
        go_end0
        exact⟨rfl,_,_,_,_,y.drewN nq,n,u.drewN nq⟩
       ·have a9:((g:Int) != 8*(S.size:Int))=PV:=eB;have n:=H (J (nE 5 e) (by rw[ah (λh=>t2 h.2)]));go_wp2_with fail;go_quiet (fail);go_wp2_with fail;apply(ro (y.drewN nq) 5 Y).m;rintro l w5 ⟨rfl,o,D⟩;go_wp2
        go_end0
        exact⟨rfl,_,_,_,_,o,n,(u.drewN nq).t D⟩
      ·have a8:((f:Int) != 65536*(W:Int)+(V:Int))=PV:=eB;have n:=H (J (nE 5 e) (by rw[ah (λh=>t1 h.1)]));go_wp2_with fail;go_quiet (fail);go_wp2_with fail;apply(ro (y.drewN nq) 5 Y).m;rintro l w5 ⟨rfl,o,D⟩;go_wp2
       go_end0
       exact⟨rfl,_,_,_,_,o,n,(u.drewN nq).t D⟩
 ·go_wp2;obtain⟨A,hW⟩:∃A,w1.setCell ⟨b,1,N⟩ (I U (((E:Int)+7)/8*8))=A:=⟨_,rfl⟩;rw[hW]at j t ⊢;have d2:=j.c2;go_loopw [2,3,4] (λal c C wr=>∃(k:Nat) (v x:Int),k<=G a/\C=I U k/\al=I U v/\c=I U x/\(-65521<v/\v<65521 /\ -65521<x/\x<65521)/\wr=A) (λ_ _ C _=>G a-(intOf C).toNat)
  case atStart=>exact⟨0,1,0,aH _,rfl,rfl,rfl,Y,rfl⟩
  case round=>
   obtain⟨k,v,x,hk,rfl,rfl,rfl,hb,rfl⟩:=hrel;by_cases M:k<G a
   ·have a3:(k:Int)<G a:=Y;obtain⟨bq,bx,P,_⟩:=uH j.own Y;simp only[Value.slice.injEq]at P;obtain⟨rfl,_,rfl⟩:=P;have Q:=j.own.cellAt k Y;rw[aY,af M]at Q;simp only[aZ]at Q;generalize a[k]=bm at *;go_wp2;go_roundw
    case rel=>refine⟨k+1,_,_,Y,by go_num,rfl,rfl,?_,trivial⟩;exact⟨Int.lt_tmod_of_pos _ cO,Int.tmod_lt_of_pos _ cO,Int.lt_tmod_of_pos _ cO,Int.tmod_lt_of_pos _ cO⟩
    case measure=>simp[intOf];omega
   ·have a3:¬(k:Int)<G a:=Y;obtain rfl:k=G a:=Y;go_wp2;go_loopw [5,6] (λvs F wr=>∃(d f g e:Nat),vs=I U f/\F=I U d/\d<=4/\f<256^d/\jx B b S most wr g (Z ao (G a) oc) a e/\L1 (vE S (8*i) e1 d f g e)/\gb 5 B [b] w wr) (λ_ F _=>4-(intOf F).toNat)
    case atStart=>exact⟨0,0,8*i,e1,rfl,rfl,Y,cO,j,P3 ⟨K,rfl⟩,t⟩
    case round=>
     obtain⟨d,f,g,e,rfl,rfl,hj,a6,r,q,R⟩:=hrel;have a4:256^d<=256^4:=aJ Y hj;have a1:(256:Nat)^4=4294967296:=cO;rw[a1]at a4;by_cases cj:d<4
     ·have a0:(d:Int)<4:=Y;have HP:=H (cY 256 d);have ac:=H a6;have a5:f<4294967296:=Y;go_wp2_with fail;apply(rL r 8 Y).m;rintro l w4 ⟨T,q4,e4,rfl,r4,B4,a7,k4⟩;have hv:T<256:=by simpa using a7
      have ad:=H (q.step cj B4);go_wp2;go_roundw
      case rel=>refine⟨d+1,256*f+T,q4,e4,by go_num,by go_num,Y,?_,r4,ad,R.t k4⟩;have:=ac.o;rw[HP.o];omega
      case measure=>simp[intOf];omega
     ·have a0:¬(d:Int)<4:=Y;obtain rfl:d=4:=Y;have a5:f<4294967296:=Y;have d0:=r.c0;have d1:=r.c1;have J:=H (λe2 (he:e2=if f=65536*(iU a).2+(iU a).1/\g=8*S.size then e else nE 5 e)=>Ka X (q0:=8*i) (by have:=HK.o;omega) HR q he);have y:=H r;have u:=H R;have ba:L1 (e1≠0->e≠0):=λh=>by
       rcases q.o with⟨h1,h2⟩|⟨h1,_⟩|⟨h1,_⟩;·omega
       ·exact absurd h1 h
       ·exact absurd h1 h
      have bb:e≠0:=ba.o K;have n:=H (J e (by unfold nE;rw[ah bb,ite_self]));have bc:nE 5 e=e:=by simp[nE,bb]
      by_cases t1:(f:Int)=65536*x+v
      ·have a8:((f:Int) != 65536*x+v)=P2:=eB;by_cases t2:g=8*S.size
       ·have a9:((g:Int) != 8*(S.size:Int))=P2:=eB;go_wp2_with fail;go_quiet (fail);go_wp2
        go_end0
        exact⟨rfl,_,_,_,_,y.drewN nq,n,u.drewN nq⟩
       ·have a9:((g:Int) != 8*(S.size:Int))=PV:=eB;go_wp2_with fail;go_quiet (fail);go_wp2_with fail;apply(ro (y.drewN nq) 5 Y).m;rintro l w5 ⟨rfl,o,D⟩;rw[bc]at o;go_wp2
        go_end0
        exact⟨rfl,_,_,_,_,o,n,(u.drewN nq).t D⟩
      ·have a8:((f:Int) != 65536*x+v)=PV:=eB;go_wp2_with fail;go_quiet (fail);go_wp2_with fail;apply(ro (y.drewN nq) 5 Y).m;rintro l w5 ⟨rfl,o,D⟩;rw[bc]at o;go_wp2
       go_end0
       exact⟨rfl,_,_,_,_,o,n,(u.drewN nq).t D⟩
def Ky(h:List Nat)(most f:Nat)(c:Except Nat (List Nat))(a k g:Nat)(i:List Nat)(e:Nat):Prop:=
 (e=0/\a<=f/\k<=4/\g<85^k/\∃d,aD h most d a k g i=c/\f-a<d)\/(e≠0/\c=.error e)
def De{a k:Nat}(c:k<=4)(h:a<85^k):a<52200625:=by have:85^k<=85^4:=aJ Y c;omega
def padTo:Nat->Nat->Nat
 |0,a=>a
 |c+1,a=>padTo c (85*a+84)
def zY(a k:Nat)(h2:2<=k)(c:k<=4):padTo (5-k) a=nC a k:=by
 obtain rfl|rfl|rfl:k=2\/k=3\/k=4:=Y;·simp[padTo,nC];omega
 ·simp[padTo,nC];omega
 ·simp[padTo,nC];omega
def Nz{c a:Nat}(d:a<=5)(h:c<85^a):c<4437053125:=by have:85^a<=85^5:=aJ Y d;omega
def xW(h:jx B b S most w p s m 0)(hp:p<=S.size)(a1:Except Nat (List Nat))(a2:Nat)(hf:S.size-p<a2)(hR:aD (bl S) most a2 p 0 0 m=a1):K8 Qe 75 #[M2 (O ⟨b,0,N⟩)] w λd w'=>d=Ps (OW #[])/\∃p' aa o e,jx B b S most w' p' aa o e/\vD a1 o e/\gb 5 B [b] w w':=by
 have hl:=mK S
 go_in
 go_wp2;go_loopw [2,3] (λvn vk wr=>∃(F:Nat) (aa:GI) (o:List Nat) (e k l:Nat),vn=I U l/\vk=I U k/\jx B b S most wr F aa o e/\L1 (Ky (bl S) most S.size a1 F k l o e)/\gb 5 B [b] w wr) (λ_ _ wr=>if errOf b wr=0 then S.size+1-posOf b wr else 0)
 case atStart=>exact⟨p,s,m,0,0,0,rfl,rfl,h,P3 ⟨rfl,hp,Y,eA,a2,hR,hf⟩,gb.refl _ _ _ _⟩
 case round=>
  obtain⟨F,aa,o,e,k,l,rfl,rfl,r,ba,y⟩:=hrel;have D:=H r.posOf;have C:=H r.errOf;have c4:=r.c4;rcases ba.o with⟨rfl,hq,hk,hv,f',u,bz⟩|⟨he,hR⟩
  ·obtain⟨ad,rfl⟩:∃ad,f'=ad+1:=⟨f'-1,Y⟩;have HV:=H hv;have b4:=De hk hv;have z:=H (BA r hq);have lo:=r.lo;have ls:=r.ls;simp only[aD]at u;by_cases V:(bl S).length<=gh (bl S) F
   ·rw[ai V]at u;rw[EK V,EJ V]at z;have n:=H u;go_wp2_with fail;apply z.o.m;rintro d K ⟨rfl,c,j⟩;go_wp2_with fail;go_quiet (fail);go_wp2_with fail;apply(ro (c.drewN nq) 5 Y).m;rintro d J ⟨rfl,a,f⟩;rw[rz]at a;have g:=H a.errOf;go_wp2;go_roundw
    case rel=>exact⟨_,_,_,5,_,l,rfl,rfl,a,P4 ⟨Y,n.s⟩,((y.t j).drewN nq).t f⟩
    case measure=>rw[D.o,C.o,g.o];simp;omega
   ·rw[ah V]at u;rw[GF V,GD V]at z;have hX:nth (bl S) (gh (bl S) F)<256:=lN S _ Y;have a3:gh (bl S) F+1<=S.size:=Y;have b3:F<=gh (bl S) F:=Av _ _;generalize nth (bl S) (gh (bl S) F)=t at *;generalize hK:gh (bl S) F=v at *;by_cases c2:t=122/\k=0
    ·rw[ai c2]at u;obtain⟨rfl,rfl⟩:=c2;have n:=H u;go_wp2_with fail;apply z.o.m;rintro d K ⟨rfl,c,j⟩;have q:=H (Fh c 0 4 Y Y);rw[show qh 0 0=0 from rfl,show(tM 0).take 4=[0,0,0,0]from rfl]at q;have bm:l=0:=by have:=HV.o;simp at this;omega
     subst bm;by_cases E:G o+4<=most
     ·rw[Bv most [0,0,0,0] o E]at q;have x:=H (n.s.t (ai E));go_wp2_with fail;apply q.o.m;rintro d J ⟨rfl,a0,a,f⟩;have g:=H a.errOf;have m3:=H a.posOf;go_wp2;go_roundw
      case rel=>exact⟨_,_,_,0,0,0,rfl,rfl,a,P3 ⟨rfl,a3,Y,eA,ad,x.s,Y⟩,(y.t j).t f⟩
      case measure=>rw[D.o,C.o,g.o,m3.o];simp;omega
     ·have al:=rf most [0,0,0,0] o lo eB;have x:=H (n.s.t (ah E));generalize lD most [0,0,0,0] (o,0)=a4 at *;go_wp2_with fail;apply q.o.m;rintro d J ⟨rfl,a0,a,f⟩;rw[al]at a;have g:=H a.errOf;go_wp2;go_roundw
      case rel=>exact⟨_,_,_,6,0,0,rfl,rfl,a,P4 ⟨Y,x⟩,(y.t j).t f⟩
      case measure=>rw[D.o,C.o,g.o];simp;omega
    ·rw[ah c2]at u;by_cases c3:33<=t/\t<=117
     ·rw[ai c3]at u;have d1:((t:Int)==122)=P2:=eB;have d2:(33:Int)<=t:=Y;have d3:(t:Int)<=117:=Y;obtain⟨i,hN⟩:∃i,l*85+(t-33)=i:=⟨_,rfl⟩;have eN:(85:Int)*l+t-33=i:=Y;rw[hN]at u;have bw:i<=4500000000:=Y;by_cases c6:k=4
      ·rw[ai c6]at u;subst c6;have n:=H u;go_wp2_with fail;apply z.o.m;rintro d K ⟨rfl,c,j⟩;have q:=H (Fh c i 4 Y Y);by_cases L:4294967296<=i
       ·have x:=H (n.s.t (ai L));have Q:qh i 0=5:=by unfold qh;rw[ai L,rz]
        rw[Q,Gu most _ Y]at q;go_wp2_with fail;apply q.o.m;rintro d J ⟨rfl,a0,a,f⟩;have g:=H a.errOf;go_wp2;go_roundw
        case rel=>exact⟨_,_,_,5,0,0,rfl,rfl,a,P4 ⟨Y,x⟩,(y.t j).t f⟩
        case measure=>rw[D.o,C.o,g.o];simp;omega
       ·have ac:=H (n.s.t (ah L));have Q:qh i 0=0:=by unfold qh;rw[ah L]
        have hg4:(tM i).take 4=aO i:=by rw[IZ Y];rfl
        have ao:(aO i).length=4:=rfl;rw[Q,hg4]at q;by_cases E:G o+4<=most
        ·rw[Bv most _ o (by rw[ao];exact E)]at q;have x:=H (ac.t (ai E));go_wp2_with fail;apply q.o.m;rintro d J ⟨rfl,a0,a,f⟩;have g:=H a.errOf;have m3:=H a.posOf;go_wp2;go_roundw
         case rel=>exact⟨_,_,_,0,0,0,rfl,rfl,a,P3 ⟨rfl,a3,Y,eA,ad,x.s,Y⟩,(y.t j).t f⟩
         case measure=>rw[D.o,C.o,g.o,m3.o];simp;omega
        ·have al:=rf most (aO i) o lo (by rw[ao];omega);have x:=H (ac.t (ah E));generalize lD most (aO i) (o,0)=a4 at *;go_wp2_with fail;apply q.o.m;rintro d J ⟨rfl,a0,a,f⟩;rw[al]at a;have g:=H a.errOf;go_wp2;go_roundw
         case rel=>exact⟨_,_,_,6,0,0,rfl,rfl,a,P4 ⟨Y,x⟩,(y.t j).t f⟩
         case measure=>rw[D.o,C.o,g.o];simp;omega
      ·rw[ah c6]at u;have n:=H u;have bb:L1 (i<85^(k+1)):=by have h1:=HV.o;unfold Hid;rw[cY];omega
       have d5:((k:Int)+1==5)=P2:=eB;go_wp2_with fail;apply z.o.m;rintro d K ⟨rfl,c,j⟩;have g:=H c.errOf;have m3:=H c.posOf;go_wp2;go_roundw
       case rel=>exact⟨_,_,_,0,k+1,i,by go_num,by go_num,c,P3 ⟨rfl,a3,Y,bb,ad,n,Y⟩,y.t j⟩
       case measure=>rw[D.o,C.o,g.o,m3.o];simp;omega
     ·rw[ah c3]at u;by_cases c8:t=126/\v+1<(bl S).length/\nth (bl S) (v+1)=62/\k≠1
      ·rw[ai c8]at u;obtain⟨rfl,b1,bf,b0⟩:=c8;have b2:((v:Int)+1)<S.size:=Y;have hx:=s8 S (v+1) Y;rw[bf]at hx;have bs:((k:Int)==1)=P2:=eB;have n:=H u;go_wp2_with fail;apply z.o.m;rintro d K ⟨rfl,c,j⟩;have W:=c.c0;have X:=c.c1;have g2:=c.fz 1;have R1:=H c;have K1:=H (y.t j);go_wp2_with fail;go_quiet (fail);have R2:=H ((R1.drewN nq).set1 (v+2) Y);have K2:=H ((K1.drewN nq).setCell (p:=⟨b,1,N⟩) eA (I U ((v+2:Nat):Int)));have eK:((v+2:Nat):Int)=(v:Int)+1+1:=Y;rw[eK]at R2 K2;go_wp2;go_loopw [2,5] (λvn vi a6=>∃A M:Nat,vn=I U M/\vi=I U A/\A<=5/\L1 (M<85^A)/\L1 (padTo (5-A) M=padTo (5-k) l)/\jx B b S most a6 (v+2) aa o 0/\gb 5 B [b] w a6) (λ_ vi _=>5-(intOf vi).toNat)
       case atStart=>exact⟨k,l,rfl,rfl,Y,HV,rfl,R2,K2⟩
       case round=>
        obtain⟨A,M,rfl,rfl,bi,HN,HP,a,f⟩:=hrel;have hn:=Nz bi HN;by_cases ci:A<5
        ·have bq:(A:Int)<5:=Y;have a7:L1 (85*M+84<85^(A+1)):=by have h1:=HN.o;unfold Hid;rw[cY];omega
         have a8:L1 (padTo (5-(A+1)) (85*M+84)=padTo (5-k) l):=by have h1:=HP.o;rw[show 5-A=(5-(A+1))+1 by omega]at h1;exact h1
         go_wp2;go_roundw
         case rel=>exact⟨A+1,85*M+84,by go_num,by go_num,Y,a7,a8,a,f⟩
         case measure=>simp[intOf];omega
        ·obtain rfl:A=5:=Y;obtain rfl:M=padTo (5-k) l:=HP.o;by_cases ck:k=0
         ·rw[ai ck]at n;subst ck;go_wp2_with fail;apply(Ai a Y).m;rintro d w3 ⟨rfl,P,R⟩;go_wp2;refine av (v:=OW #[]) A3 rfl ?_;exact⟨rfl,_,_,_,_,P,by rw[<-n.o];exact EA _ _ _,f.t R⟩
         ·rw[ah ck,<-zY l k Y hk]at n;have br:(0:Int)<k:=Y;have ek:(k:Int)-1=((k-1:Nat):Int):=Y;have q:=H (Fh a (padTo (5-k) l) (k-1) Y Y);generalize padTo (5-k) l=i at *;by_cases L:4294967296<=i
          ·have x:=H (n.s.t (ai L));have Q:qh i 0=5:=by unfold qh;rw[ai L,rz]
           rw[Q,Gu most _ Y]at q;go_wp2_with fail;apply q.o.m;rintro d w3 ⟨rfl,a5,P,R⟩;go_wp2_with fail;apply(Ai P Y).m;rintro d w4 ⟨rfl,T,k4⟩;rw[Ga Y]at T;go_wp2;refine av (v:=OW #[]) A3 rfl ?_;exact⟨rfl,_,_,_,_,T,by rw[x.o];exact⟨rfl,Y⟩,(f.t R).t k4⟩
          ·have ac:=H (n.s.t (ah L));have Q:qh i 0=0:=by unfold qh;rw[ah L]
           have hg4:tM i=aO i:=IZ Y;have ao:((aO i).take (k-1)).length=k-1:=by rw[ay];show min (k-1) 4=_;omega
           rw[Q,hg4]at q;by_cases E:G o+(k-1)<=most
           ·rw[Bv most _ o (by rw[ao];exact E)]at q;have x:=H (ac.t (ai E));go_wp2_with fail;apply q.o.m;rintro d w3 ⟨rfl,a5,P,R⟩;go_wp2_with fail;apply(Ai P Y).m;rintro d w4 ⟨rfl,T,k4⟩;go_wp2;refine av (v:=OW #[]) A3 rfl ?_;exact⟨rfl,_,_,_,_,T,by rw[x.o];exact EA _ _ _,(f.t R).t k4⟩
           ·have al:=rf most ((aO i).take (k-1)) o lo (by rw[ao];omega);have x:=H (ac.t (ah E));generalize lD most ((aO i).take (k-1)) (o,0)=a4 at *;go_wp2_with fail;apply q.o.m;rintro d w3 ⟨rfl,a5,P,R⟩;rw[al]at P;go_wp2_with fail;apply(Ai P Y).m;rintro d w4 ⟨rfl,T,k4⟩;rw[Ga Y]at T;go_wp2;refine av (v:=OW #[]) A3 rfl ?_;exact⟨rfl,_,_,_,_,T,by rw[x.o];exact⟨rfl,Y⟩,(f.t R).t k4⟩
      ·rw[ah c8]at u;have n:=H u;by_cases e1:t=126
       ·subst e1;by_cases e2:v+1<(bl S).length
        ·have bc:((v:Int)+1)<S.size:=Y;have hx:=s8 S (v+1) Y;by_cases e3:nth (bl S) (v+1)=62
         ·rw[e3]at hx;have e4:k=1:=by
           rcases Nat.decEq k 1 with h|h;·exact absurd ⟨rfl,e2,e3,h⟩ c8
           ·exact h
          subst e4;go_wp2_with fail;apply z.o.m;rintro d K ⟨rfl,c,j⟩;have W:=c.c0;have X:=c.c1;go_wp2_with fail;go_quiet (fail);go_wp2_with fail;apply(ro (c.drewN nq) 5 Y).m;rintro d J ⟨rfl,a,f⟩;rw[rz]at a;have g:=H a.errOf;go_wp2;go_roundw
          case rel=>exact⟨_,_,_,5,_,l,rfl,rfl,a,P4 ⟨Y,n.s⟩,((y.t j).drewN nq).t f⟩
          case measure=>rw[D.o,C.o,g.o];simp;omega
         ·have hy:nth (bl S) (v+1)<256:=lN S _ Y;have bv:((nth (bl S) (v+1):Int)==62)=P2:=eB;generalize nth (bl S) (v+1)=bo at *;go_wp2_with fail;apply z.o.m;rintro d K ⟨rfl,c,j⟩;have W:=c.c0;have X:=c.c1;go_wp2_with fail;go_quiet (fail);go_wp2_with fail;apply(ro (c.drewN nq) 5 Y).m;rintro d J ⟨rfl,a,f⟩;rw[rz]at a;have g:=H a.errOf;go_wp2;go_roundw
          case rel=>exact⟨_,_,_,5,_,l,rfl,rfl,a,P4 ⟨Y,n.s⟩,((y.t j).drewN nq).t f⟩
          case measure=>rw[D.o,C.o,g.o];simp;omega
        ·have bc:decide (((v:Int)+1)<S.size)=P2:=eB;go_wp2_with fail;apply z.o.m;rintro d K ⟨rfl,c,j⟩;have W:=c.c0;have X:=c.c1;go_wp2_with fail;go_quiet (fail);go_wp2_with fail;apply(ro (c.drewN nq) 5 Y).m;rintro d J ⟨rfl,a,f⟩;rw[rz]at a;have g:=H a.errOf;go_wp2;go_roundw
         case rel=>exact⟨_,_,_,5,_,l,rfl,rfl,a,P4 ⟨Y,n.s⟩,((y.t j).drewN nq).t f⟩
         case measure=>rw[D.o,C.o,g.o];simp;omega
       ·have bt:((t:Int)==126)=P2:=eB;rcases bU t 33 with bd|bd
        ·have d2:¬(33:Int)<=t:=Y;have d1:((t:Int)==122)=P2:=eB;go_wp2_with fail;apply z.o.m;rintro d K ⟨rfl,c,j⟩;have W:=c.c0;have X:=c.c1;go_wp2_with fail;go_quiet (fail);go_wp2_with fail;apply(ro (c.drewN nq) 5 Y).m;rintro d J ⟨rfl,a,f⟩;rw[rz]at a;have g:=H a.errOf;go_wp2;go_roundw
         case rel=>exact⟨_,_,_,5,_,l,rfl,rfl,a,P4 ⟨Y,n.s⟩,((y.t j).drewN nq).t f⟩
         case measure=>rw[D.o,C.o,g.o];simp;omega
        ·have d2:(33:Int)<=t:=Y;have d3:¬(t:Int)<=117:=Y;by_cases e5:t=122
         ·have d0:((k:Int)==0)=P2:=eB;subst e5;go_wp2_with fail;apply z.o.m;rintro d K ⟨rfl,c,j⟩;have W:=c.c0;have X:=c.c1;go_wp2_with fail;go_quiet (fail);go_wp2_with fail;apply(ro (c.drewN nq) 5 Y).m;rintro d J ⟨rfl,a,f⟩;rw[rz]at a;have g:=H a.errOf;go_wp2;go_roundw
          case rel=>exact⟨_,_,_,5,_,l,rfl,rfl,a,P4 ⟨Y,n.s⟩,((y.t j).drewN nq).t f⟩
          case measure=>rw[D.o,C.o,g.o];simp;omega
         ·have d1:((t:Int)==122)=P2:=eB;go_wp2_with fail;apply z.o.m;rintro d K ⟨rfl,c,j⟩;have W:=c.c0;have X:=c.c1;go_wp2_with fail;go_quiet (fail);go_wp2_with fail;apply(ro (c.drewN nq) 5 Y).m;rintro d J ⟨rfl,a,f⟩;rw[rz]at a;have g:=H a.errOf;go_wp2;go_roundw
          case rel=>exact⟨_,_,_,5,_,l,rfl,rfl,a,P4 ⟨Y,n.s⟩,((y.t j).drewN nq).t f⟩
          case measure=>rw[D.o,C.o,g.o];simp;omega
  ·have bx:((e:Int)==0)=P2:=eB;have a9:=H hR;go_wp2
   go_end0
   exact⟨rfl,F,aa,o,e,r,by rw[a9.o];exact⟨rfl,he⟩,y⟩
def mB(c most:Nat)(a:List Nat)(d:Except Nat (List Nat)):Prop:=
 (c=1/\vI a most (G a+1) 0 []=d)\/(c=2/\aD a most (G a+1) 0 0 0 []=d)\/(c=3/\rD a most (G a+1) 0 []=d)\/(c=4/\lk most (gA a) d)
def mB.some(f most:Nat)(d:List Nat)(h1:1<=f)(c:f<=4):∃a,mB f most d a:=by
 have:f=1\/f=2\/f=3\/f=4:=Y;rcases this with rfl|rfl|rfl|rfl;·exact⟨_,P3 ⟨rfl,rfl⟩⟩
 ·exact⟨_,P4 (P3 ⟨rfl,rfl⟩)⟩
 ·exact⟨_,P4 (P4 (P3 ⟨rfl,rfl⟩))⟩
 ·obtain⟨a,h⟩:=lk.some most (gA d);exact⟨a,P4 (P4 (P4 ⟨rfl,h⟩))⟩
def Dj:Except Nat (List Nat)->GI
 | .ok a=>OW #[MV (ge a),I U 0]
 | .error c=>OW #[MV {data:=#[]},I U (c:Nat)]
def jx.start(c:S.size<=10000000)(a:most<=1000000):jx w.heap.size w.heap.size S most (w.alloc (Pp #[MV S,I U 0,Z N 0 0,I U most,I U 0] 106 (0,0))) 0 (Z N 0 0) [] 0:=
 ⟨ag _,bn _ _,aX _ _ _ _,a,c,Y,aH _,Y⟩
def N0(S:ByteArray):gC S 0=gA (bl S):=by rw[gC,List.drop_zero]
def rg(a i:Nat)(y:1<=a/\a<=4)(D:S.size<=10000000)(z:most<=1000000){h:Except Nat (List Nat)}
  (hF:i=(if a=1 then 74 else if a=2 then 75 else if a=3 then 76 else 77))
  (n:K8 Qe i #[M2 (O ⟨w.heap.size,0,N⟩)] (w.alloc (Pp #[MV S,I U 0,Z N 0 0,I U most,I U 0] 106 (0,0))) λf d=>f=Ps (OW #[])/\∃q o g e,jx w.heap.size w.heap.size S most d q o g e/\vD h g e/\gb 5 w.heap.size [w.heap.size] (w.alloc (Pp #[MV S,I U 0,Z N 0 0,I U most,I U 0] 106 (0,0))) d):K8 Qe 37 #[I U a,MV S,I U most] w λf d=>f=Ps (Dj h)/\LT w.heap.size w d:=by
 have t:a=1\/a=2\/a=3\/a=4:=Y;rcases t with rfl|rfl|rfl|rfl;all_goals
  simp only[if_true,if_false,Nat.reduceEqDiff]at hF;subst hF;have j:=H n;clear n
  go_in
  go_wp2_with fail;apply j.o.m;rintro f J ⟨rfl,q,o,g,e,r,l,k⟩;have c:=H (Fy k);have u:=r.c2;have v:=r.c4;clear j k;cases h with
  |ok E=>
   obtain⟨rfl,rfl⟩:=l;have x:=yP r.own;go_wp2
   go_ret2
   exact⟨rfl,c⟩
  |error F=>
   obtain⟨rfl,A⟩:=l;have C:((e:Int) != 0)=PV:=eB;go_wp2_with fail;go_quiet (fail);go_wp2
   go_ret2
   exact⟨rfl,⟨c.o.os,c.tape,c.o.output,c.size,c.block⟩⟩
def ur{a:Except Nat (List Nat)}{c:List Nat}{e:Nat}(h:yZ a c e):vD a c e:=by
 cases a with
 |ok d=>exact⟨h.1,h.2.1⟩
 |error f=>exact h
def OA(g:Nat)(c:S.size<=10000000)(a:most<=1000000){d:Except Nat (List Nat)}(l:mB g most (bl S) d):K8 Qe 37 #[I U g,MV S,I U most] w λj i=>j=Ps (Dj d)/\LT w.heap.size w i:=by
 have u:=mK S;have f:=jx.start (S:=S) (most:=most) (w:=w) c a;rcases l with⟨rfl,h⟩|⟨rfl,h⟩|⟨rfl,h⟩|⟨rfl,h⟩;·exact rg 1 74 Y c a rfl (N5 f Y d _ Y h)
 ·exact rg 2 75 Y c a rfl (xW f Y d _ Y h)
 ·exact rg 3 76 Y c a rfl (xY f Y d _ Y h)
 ·refine rg 4 77 Y c a rfl ((Gn f (by rw[N0];exact h)).m ?_);rintro j i ⟨rfl,t,q,o,e,r,n,k⟩;exact⟨rfl,t,q,o,e,r,ur n,k⟩
end
section
variable{bd off cap:Nat}{d:List Nat}{most:Nat}{w:Gr}
def yo(w:Gr)(g:Except Nat (List Nat))(b:MB)(a:Gr):Prop:=match g with
 | .ok c=>∃e,b=Ps e/\a.ownsRow w.heap.size 5 1 e (G c) (c.map λh:Nat=>I .u8 (h:Int))/\LT w.heap.size w a
 | .error f=>b=gU f/\LT w.heap.size w a
def fg(a e:Nat)(n:1<=a/\a<=4){c:Except Nat (List Nat)}
  (hF:e=(if a=1 then 113 else if a=2 then 114 else if a=3 then 115 else 116))
  (g:K8 Qe e #[M2 (O ⟨w.heap.size,0,N⟩)] (w.alloc (Pp #[Z (O ⟨bd,off,N⟩) (G d) cap,I U 0,Z N 0 0,I U most] 141 (0,0))) λf l=>tU w.heap.size w.heap.size bd off cap d most (w.alloc (Pp #[Z (O ⟨bd,off,N⟩) (G d) cap,I U 0,Z N 0 0,I U most] 141 (0,0))) c f l):K8 Qe 80 #[I U a,Z (O ⟨bd,off,N⟩) (G d) cap,I U most] w (yo w c):=by
 have j:a=1\/a=2\/a=3\/a=4:=Y;rcases j with rfl|rfl|rfl|rfl;all_goals
  simp only[if_true,if_false,Nat.reduceEqDiff]at hF;subst hF;have i:=H g;clear g;go_enter fP,fJ;go_wp2_with fail;apply i.o.m;intro f r h1;cases c with
  |ok p=>obtain⟨rfl,k,h,b⟩:=h1;have m:=h.c2;go_wp2;go_ret;exact⟨k,rfl,h.own,Fy b⟩
  |error q=>obtain⟨rfl,b⟩:=h1;exact⟨rfl,rfl,Fy b⟩
def LX(c:Nat)(i:bd<w.heap.size)(k:∀a,a<G d->w.cell? ⟨bd,off+a,N⟩=O (I .u8 (nth d a:Nat)))(g:∀a,a<G d->nth d a<256)(j:G d<=cap)(l:cap<=9223372036854775807)(m:most<=1000000)
  (n:oV w) (e : 1<w.heap.size) {f:Except Nat (List Nat)} (o:mB c most d f):K8 Qe 80 #[I U c,Z (O ⟨bd,off,N⟩) (G d) cap,I U most] w (yo w f):=by
 have b:=Rd.start (most:=most) i k g j l m;rcases o with⟨rfl,rfl⟩|⟨rfl,rfl⟩|⟨rfl,rfl⟩|⟨rfl,h⟩;·exact fg 1 113 Y rfl (Lx b)
 ·exact fg 2 114 Y rfl (Lq b)
 ·exact fg 3 115 Y rfl (LE b)
 ·refine fg 4 116 Y rfl (Lt b ?_ e h);exact n.kept ((gb.refl 5 w.heap.size [w.heap.size] w).alloc _) e eB
end
end Go.Proofs.YtgkljcmjnphpeaaGreatDoor
namespace Go
section
section
variable{P:Program}(w:Gr)
def uT{A:Array Oper}{B:List Oper}{i:Oper}{m:MN}{y:Exit->MN->Gr->Prop}(L:i.guard=N)(s x:Operand)(o:TypeId)
  (S:i.op=.call { callee:=.builtin .append,args:=#[s,x],argTypes:=#[o,o]})
  (n:Nat) (d:TypeId) (e:TypeInfo) (v:GI) (a r:Nat) (ht:P.underlying o=O (.slice d)) (M:P.info? d=O e) (hz:e.zero=O v)
  (X:e.size=a) (J:e.bytes=r) (ac:v.cells.size=a) (aa:0<a)
  (j:GI) (f:Nat) (u:List GI) (W:m.eval s=j) (T:w.ownsRow n d a j f u)
  (q:L2) (b c:Nat) (g:List GI) (hx:m.eval x=Z (O q) b c) (Q:G g=b*a) (R:∀z p,g[z]?=O p->w.cell? (q.add z)=O p) (h1:∀p∈g,p.oneCell'=PV)
  (D:f+b<=maxLen) (K:(f+b)*r<=140737488355328) (F:n<=w.heap.size)
  (h:∀k l,l.ownsRow n d a k (f+b) (u++g)->w.grownBy l j.ownBlock->(∀t,k.ownBlock=O t->j.ownBlock=O t\/w.heap.size<=t)->wpList P A y B (m.put i.dst k) l):wpList P A y (i::B) m w:=by
 refine wpList_plain L λal E=>?_;obtain⟨k,l,V,h2,h3,C⟩:=Gb (P:=P) (w:=w) n o i.type d e v a r ht M hz X J ac aa j f u T q b c g Q R h1 D K F;unfold Oper.wp execOp;simp only[S,resolve,invoke,builtin,Sem.run_bind,Sem.run_pure,ft,fA,bF,dY,W,hx,V];exact E _ _ (h k l h2 h3 C)
end
end
end Go
namespace Go.Proofs.YtgkljcmjnphpeaaGreatDoor
open Go.RowKit
section
variable{w f:Gr}{B b:Nat}{c e:GI}{a d:List Nat}
def DY(g:List Nat):List GI:=g.map λh:Nat=>I .u8 (h:Int)
end
section
structure Sn(a:Nat)(S:ByteArray)(w:Gr)(p:Nat)(s:Option (List Nat)):Prop where
 blk:w.heap[a]?=O (Pp #[MV S,I U p,OV s.isNone] 146 (0,0))
 lp:p<=S.size
 ls:S.size<=200000
 rest:∀r,s=O r->(bl S).drop p=r
variable{a:Nat}{S:ByteArray}{w w':Gr}{p:Nat}{s:Option (List Nat)}
def Sn.c0(h:Sn a S w p s):w.cell? ⟨a,0,N⟩=O (MV S):=iI h.blk
def Sn.c1(h:Sn a S w p s):w.cell? ⟨a,1,N⟩=O (I U p):=iI h.blk
def Sn.c2(h:Sn a S w p s):w.cell? ⟨a,2,N⟩=O (OV s.isNone):=iI h.blk
def Sn.fz(h:Sn a S w p s)(i:Nat):w.frozen? ⟨a,i,N⟩=P2:=nG h.blk
def Sn.lt(h:Sn a S w p s):a<w.heap.size:=ae h.blk
def Sn.other(h:Sn a S w p s)(b:LT w.heap.size w w'):Sn a S w' p s:=⟨by rw[b.block _ h.lt];exact h.blk,h.lp,h.ls,h.rest⟩
def Sn.drewN(h:Sn a S w p s)(n:Nat):Sn a S (w.drewN n) p s:=⟨h.blk,h.lp,h.ls,h.rest⟩
def Sn.at_(h:Sn a S w p s)(b:Nat)(c:b<=S.size){t:Option (List Nat)}(e:t.isNone=s.isNone)(d:∀r,t=O r->(bl S).drop b=r):Sn a S (w.setCell ⟨a,1,N⟩ (I U b)) b t:=
 ⟨by rw[lV _ h.blk,e];rfl,c,h.ls,d⟩
def Sn.bad(h:Sn a S w p s):Sn a S (w.setCell ⟨a,2,N⟩ (OV PV)) p N:=
 ⟨by rw[lV _ h.blk];rfl,h.lp,h.ls,λ_ c=>by cases c⟩
def Sn.len{r:List Nat}(h:Sn a S w p (O r)):G r=S.size-p:=by rw[<-h.rest r rfl,au,mK]
def Sn.bytes{r:List Nat}(h:Sn a S w p (O r)):∀b∈r,b<256:=λb c=>xH S b (by rw[<-h.rest r rfl]at c;exact dA c)
def Sn.cons{b:Nat}{r:List Nat}(h:Sn a S w p (O (b::r))):p<S.size/\nth (bl S) p=b:=by
 have c:=h.len;have d:=h.rest _ rfl;have h1:p<S.size:=by simp only[aj]at c;omega
 refine⟨h1,?_⟩;have:((bl S).drop p)[0]?=(b::r)[0]?:=by rw[d]
 rw[dz]at this;unfold nth;rw[ax,show p=p+0 by omega,this];rfl
def Sn.nil(h:Sn a S w p (O [])):p=S.size:=by have b:=h.len;have:=h.lp;simp only[aI]at b;omega
def jO:Option (List Nat)->Int
 |some (b::_)=>(b:Nat)
 |_=> -1
def uk(h:Sn a S w p s):K8 Qe 167 #[M2 (O ⟨a,0,N⟩)] w λg w'=>g=Ps (I U (jO s))/\∃k,w'=w.drewN k:=by
 have l:=h.c0;have m:=h.c1;have d:=h.c2;match s,h with
 |none,h=>
  simp only[Option.isNone_none]at d;clear h
  go_in
  go_wp2_with fail;go_quiet (fail);go_wp2;go_ret;exact⟨rfl,nq,rfl⟩
 |some [],h=>
  simp only[Option.isNone_some]at d;have c:=h.nil;have f:decide (S.size<=p)=PV:=eB;clear h c
  go_in
  go_wp2_with fail;go_quiet (fail);go_wp2;go_ret;exact⟨rfl,nq,rfl⟩
 |some (b::r),h=>
  simp only[Option.isNone_some]at d;obtain⟨c,e⟩:=h.cons;have f:decide ((S.size:Int)<=(p:Int))=P2:=eB;have j:=s8 S p c;have i:=lN S p c;rw[e]at j i;have n:(p:Int)<S.size:=Y;clear h e
  go_in
  go_wp2_with fail;go_quiet (fail);go_wp2_with fail;go_quiet (fail);go_wp2;go_ret;exact⟨rfl,_,World.drewN_drewN _ _ _⟩
end
