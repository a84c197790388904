import Derived.Test.YtgkljcmjnphpeaaGreatDoorK00
import Derived.Stop.BytesEq
import Derived.Laws.AppendOwnNone
set_option linter.defProp false
set_option linter.unusedVariables false
set_option linter.unusedSimpArgs false
set_option maxHeartbeats 4000000
set_option maxRecDepth 100000
open List renaming length->G
open Go.Value renaming pointer->A3,tuple->BG,agg->Bc,bool->Bs,int->I,slice->Z,string->y7
open Go.Obj renaming cells->BV
open Go.Ending renaming returned->BX
open Or renaming inl->C1,inr->C2
open Bool renaming true->CD,false->CS
open Go.Proofs.Tryz renaming prog->DG
open List renaming replicate->DJ
open Option renaming none->N,some->O
open Go.IntKind renaming i64->U
open Go renaming World->vz,Addr->wT,Value->wg,Calls->wh,Act->xq
open Go.RowKit renaming Below->wm,Hid->wt
open Go.Proofs.Tryz
namespace Go.Proofs.YtgkljcmjnphpeaaGreatDoor
open Go.RowKit
section
variable{w:vz}
def qK:Obj:=BV ((jI (DJ 16 0)++[Z N 0 0])++(jI (DJ 16 0)++[Z N 0 0])).toArray 164 (0,0)
def mx(b:List Nat)(k:Nat):List Nat:=(List.range (G b)).map λa=>if a<k then nth b a else 0
def FE(a:List Nat)(k:Nat):(mx a k).length=G a:=by simp[mx]
def Im(b:List Nat)(k a:Nat)(h:a<G b):nth (mx b k) a=if a<k then nth b a else 0:=by simp[mx,nth,h]
def pz(b:List Nat):mx b 0=DJ (G b) 0:=by refine Bk _ _ (by simp[mx]) ?_;intro c a;rw[FE]at a;rw[Im _ _ _ a,aj Y,nr _ _ _ a]
def M1(b:List Nat):mx b (G b)=b:=by refine Bk _ _ (by simp[mx]) ?_;intro c a;rw[FE]at a;rw[Im _ _ _ a,ak a]
def M9(a:List Nat)(k:Nat)(h:k<G a):mx a (k+1)=(mx a k).set k (nth a k):=by
 refine Bk _ _ (by simp[mx]) ?_;intro e b;rw[FE]at b;rw[Im _ _ _ b];by_cases c:k=e;·subst c;rw[Bo _ _ _ (by rw[FE];exact h),ak Y]
 ·rw[Bm _ _ _ _ c,Im _ _ _ b];by_cases d:e<k;·rw[ak d,ak Y]
  ·rw[aj d,aj Y]
def Ie:G j_=288:=by decide +kernel
def Hw:G j9=32:=by decide +kernel
def ln:∀k:Fin 288,nth j_ k.val=if k.val<=143 then 8 else if k.val<=255 then 9 else if k.val<=279 then 7 else 8:=by decide +kernel
def PK:∀k:Fin 32,nth j9 k.val=5:=by decide +kernel
structure Lw(w wr:vz)(g:Nat)(l:List Nat):Prop where
 below:wm w.heap.size w wr
 res:wr.heap[w.heap.size]?=O qK
 row:wr.heap[g]?=O (BV (jI l).toArray 3 (0,0))
def Lw.cell{wr:vz}{c:Nat}{b:List Nat}(h:Lw w wr c b)(a:Nat)(d:a<G b):wr.cell? ⟨c,a,N⟩=O (I U (nth b a:Nat)):=by rw[cb h.row,ch];exact ig _ _ d
def Lw.set{wr:vz}{a:Nat}{b:List Nat}(h:Lw w wr a b)(c:w.heap.size<a)(i x:Nat):Lw w (wr.setCell ⟨a,i,N⟩ (I U x)) a (b.set i x):=by
 refine⟨h.below.setCell (by show w.heap.size<=a;omega) _,?_,?_⟩;·rw[lK _ Y];exact h.res
 ·rw[nu _ h.row];simp[jI,List.map_set]
def zM(a:List wg)(h:G a=17):∃b c l m n o p q r s d e f g i j k,a=[b,c,l,m,n,o,p,q,r,s,d,e,f,g,i,j,k]:=
 match a,h with
 | [b,c,l,m,n,o,p,q,r,s,d,e,f,g,i,j,k],_=>⟨b,c,l,m,n,o,p,q,r,s,d,e,f,g,i,j,k,rfl⟩
def Pe(b c k l m n o p q r d e f g h i j s t C D E F J K L M u v x y z A B:wg)(a:vz):(Instr.build 164 #[(0,Bc #[b,c,k,l,m,n,o,p,q,r,d,e,f,g,h,i,j]),(1,Bc #[s,t,C,D,E,F,J,K,L,M,u,v,x,y,z,A,B])]).run DG a=.ok (Bc #[b,c,k,l,m,n,o,p,q,r,d,e,f,g,h,i,j,s,t,C,D,E,F,J,K,L,M,u,v,x,y,z,A,B]) a:=by kernel_rfl
def S6(a b:List wg)(R:G a=17)(S:G b=17)(c:vz):(Instr.build 164 #[(0,Bc a.toArray),(1,Bc b.toArray)]).run DG c=.ok (Bc (a++b).toArray) c:=by obtain⟨d,e,m,n,o,p,q,r,s,t,f,g,h,i,j,k,l,rfl⟩:=zM a R;obtain⟨u,v,E,F,J,K,L,M,P,Q,x,y,z,A,B,C,D,rfl⟩:=zM b S;exact Pe d e m n o p q r s t f g h i j k l u v E F J K L M P Q x y z A B C D c
def TP{c:Program}{w:vz}{i:Array Oper}{j:List Oper}{b:Oper}{a:xq}{d:Exit->xq->vz->Prop}(q:b.guard=N)(k f g:Nat)(n o:Operand)(r:b.op=.build k #[(f,n),(g,o)])
  (l m v:wg) (t:a.eval n=l) (u:a.eval o=m) (s:∀e,(Instr.build k #[(f,l),(g,m)]).run c e=.ok v e) (h:wpList c i d j (a.put b.dst v) w):wpList c i d (b::j) a w:=by
 refine fG q λx p=>?_;unfold Oper.wp;simp[execOp,r,t,u,s,Result.andThen];exact p _ _ h
def yr{wr:vz}{b:Nat}(h:wr.heap[b]?=O qK):wr.there b 0 34:=by intro d c;have a:wr.heap[b]?=O (BV ((jI (DJ 16 0)++[Z N 0 0])++(jI (DJ 16 0)++[Z N 0 0])).toArray 164 (0,0)):=h;refine⟨?_,pA a⟩;rw[cb a,ch,af (by simp[jI];omega)];rfl
def Qg(a b:List Nat)(s:G a=288)(t:G b=32)(n1:∀k,k<288->nth a k=if k<=143 then 8 else if k<=255 then 9 else if k<=279 then 7 else 8)(n2:∀k,k<32->nth b k=5):wh DG 159 #[] w λM T=>∃f g,M=BX (Bc ((jI (cz a)++[Z (O ⟨f,0,N⟩) (cz a).sum (cz a).sum])++(jI (cz b)++[Z (O ⟨g,0,N⟩) (cz b).sum (cz b).sum])).toArray)/\mN T f (fT a 288).2/\mN T g (fT b 32).2/\wm w.heap.size w T/\w.heap.size<=f/\w.heap.size<=g:=by
 obtain⟨i0,e,a2,a3,a4⟩:=bR infoInt;have V:=H n1;have W:=H n2
 go_in
 go_wp2_with (at_make;refine wpList_make_full _ rfl _ _ 52 rfl (w.heap.size+1) 3 i0 (I U 0) 1 dF e a2 a3 U U _ _ 288 rfl rfl Y Y pr lB cO ?_;intro F S q;have n:=J3 S);have bf:Lw w F (w.heap.size+1) (mx a 0):=by rw[pz,s];refine⟨((ar _ _).alloc (ag _) _).grown q cO (λk h=>by cases h),?_,by simpa using n⟩;rw[q.block _ cO cO];exact bn w qK
 go_loopw [8] (λd wr=>∃k:Nat,k<=288/\d=I U k/\Lw w wr (w.heap.size+1) (mx a k)) (λd _=>288-(intOf d).toNat)
 case atStart=>exact⟨0,Y,rfl,bf⟩
 case round=>
  obtain⟨k,hk,rfl,c⟩:=hrel;by_cases r:k<288
  ·have L:=c.cell k (by rw[FE,s];exact r);have f1:wr.frozen? ⟨w.heap.size+1,k,N⟩=CS:=pA c.row;have R:=V.o k r;have E:=H R;have a7:=H (M9 a k (by rw[s];exact r));have A:=H c;have a8:∀J:Nat,nth a k=J->Lw w (wr.setCell ⟨w.heap.size+1,k,N⟩ (I U J)) (w.heap.size+1) (mx a (k+1)):=by intro J hx;rw[a7.o,hx];exact A.set Y k J
   have u:=H a8;generalize hQ:nth (mx a k) k=Qq at L;have bm:(k:Int)<288:=Y;rcases(show k<=143\/(143<k/\k<=255)\/(255<k/\k<=279)\/279<k by omega)with x|x|x|x
   ·have P:(k:Int)<=143:=Y;go_wp2;go_roundw
    case rel=>exact⟨k+1,Y,by go_num,u 8 (by rw[E.o,ak x])⟩
    case measure=>exact eT
   ·have P:¬(k:Int)<=143:=Y;have X:(k:Int)<=255:=Y;go_wp2;go_roundw
    case rel=>exact⟨k+1,Y,by go_num,u 9 (by rw[E.o,aj Y,ak x.2])⟩
    case measure=>exact eT
   ·have P:¬(k:Int)<=143:=Y;have X:¬(k:Int)<=255:=Y;have h4:(k:Int)<=279:=Y;go_wp2;go_roundw
    case rel=>exact⟨k+1,Y,by go_num,u 7 (by rw[E.o,aj Y,aj Y,ak x.2])⟩
    case measure=>exact eT
   ·have P:¬(k:Int)<=143:=Y;have X:¬(k:Int)<=255:=Y;have h4:¬(k:Int)<=279:=Y;go_wp2;go_roundw
    case rel=>exact⟨k+1,Y,by go_num,u 8 (by rw[E.o,aj Y,aj Y,aj Y])⟩
    case measure=>exact eT
  ·obtain rfl:k=288:=Y;have Q:mx a 288=a:=by have:=M1 a;rw[s]at this;exact this
   rw[Q]at c;obtain⟨l,b3⟩:∃l:vz,l=wr:=⟨_,rfl⟩;subst b3;have cc:=ap c.row;go_wp2_with (at_make;refine wpList_make_full _ rfl _ _ 52 rfl (w.heap.size+1) 3 i0 (I U 0) 1 dF e a2 a3 U U _ _ 32 rfl rfl Y Y pr lB Y ?_;intro F S q;have n:=J3 S);have bh:Lw w F l.heap.size (mx b 0)/\F.heap[w.heap.size+1]?=O (BV (jI a).toArray 3 (0,0)):=by
    rw[pz,t];refine⟨⟨c.below.grown q Y (λk h=>by cases h),?_,n⟩,?_⟩;·rw[q.block _ Y cO];exact c.res
    ·rw[q.block _ Y cO];exact c.row
   go_loopw [36] (λd wr=>∃k:Nat,k<=32/\d=I U k/\wt (Lw w wr l.heap.size (mx b k)/\wr.heap[w.heap.size+1]?=O (BV (jI a).toArray 3 (0,0)))) (λd _=>32-(intOf d).toNat)
   case atStart=>exact⟨0,Y,rfl,bh⟩
   case round=>
    obtain⟨k,hk,rfl,HH⟩:=hrel;obtain⟨c,n⟩:=HH.o;by_cases r:k<32
    ·have L:=c.cell k (by rw[FE,t];exact r);have f1:wr.frozen? ⟨l.heap.size,k,N⟩=CS:=pA c.row;have ao:=M9 b k (by rw[t];exact r);have R:=W.o k r;rw[R]at ao;have u:wt (Lw w (wr.setCell ⟨l.heap.size,k,N⟩ (I U (5:Nat))) l.heap.size (mx b (k+1))/\(wr.setCell ⟨l.heap.size,k,N⟩ (I U (5:Nat))).heap[w.heap.size+1]?=O (BV (jI a).toArray 3 (0,0))):=by refine⟨by rw[ao];exact c.set Y k 5,?_⟩;rw[lK _ Y];exact n
     generalize hQ:nth (mx b k) k=Qq at L;have bm:(k:Int)<32:=Y;go_wp2;go_roundw
     case rel=>exact⟨k+1,Y,by go_num,u⟩
     case measure=>exact eT
    ·obtain rfl:k=32:=Y;have Q:mx b 32=b:=by have:=M1 b;rw[t]at this;exact this
     rw[Q]at c;have bx:=ap n;have bz:=ap c.row;have aa:=Lh (w:=wr) (w.heap.size+1) 0 288 a (λd e=>by rw[s]at e;rw[V.o d e];split<;>(try split)<;>(try split)<;>omega) (by rw[s];omega) bx (λd e=>by rw[bZ,cb n,ch];exact ig _ _ e);rw[s]at aa;have a5:=H aa;have A:=H (And.intro c n);go_wp2_with fail;apply a5.o.m;rintro M w2 ⟨f,rfl,b4,m,q⟩;have ac:=Lh (w:=w2) l.heap.size 0 32 b (λd e=>by rw[t]at e;rw[W.o d e];omega) (by rw[t];omega) (by have:=m.size;omega) (λd e=>by rw[bZ,m.cell (p:=⟨l.heap.size,d,N⟩) bz,cb A.o.1.row,ch];exact ig _ _ e)
     rw[t]at ac;have a6:=H ac;go_wp2_with fail;apply a6.o.m;rintro M z ⟨g,rfl,b5,K,b6⟩;have hX:(jI (cz a)++[Z (O ⟨f,0,N⟩) (cz a).sum (cz a).sum]).length=17:=by simp[jI,xx]
     have hY:(jI (cz b)++[Z (O ⟨g,0,N⟩) (cz b).sum (cz b).sum]).length=17:=by simp[jI,xx]
     have bc:=S6 _ _ hX hY;have br:((jI (cz a)++[Z (O ⟨f,0,N⟩) (cz a).sum (cz a).sum])++(jI (cz b)++[Z (O ⟨g,0,N⟩) (cz b).sum (cz b).sum])).toArray.all (·.oneCell')=CD:=by simp[jI,Value.oneCell']
     have al:z.heap[w.heap.size]?=O qK:=by have b7:=m.size;rw[K.block _ Y,m.block _ Y];exact A.1.res
     have bb:=(A.1.below.t (m.m Y)).t (K.m (by have:=m.size;omega));have bw:mN z f (fT a 288).2:=by obtain⟨B,C,y,D⟩:=b4;exact⟨B,C,by rw[K.block _ (ap y)];exact y,D⟩
     have b9:w.heap.size<=g:=by have:=m.size;omega
     have b8:w.heap.size<f:=Y;have ca:w.heap.size<g:=by have:=m.size;omega
     generalize a9:jI (cz a)++[Z (O ⟨f,0,N⟩) (cz a).sum (cz a).sum]=i at *;generalize ba:jI (cz b)++[Z (O ⟨g,0,N⟩) (cz b).sum (cz b).sum]=j at *;have HX:=H a9;have HY:=H ba;have a0:(i++j).length=34:=by rw[ab,hX,hY]
     have a1:=List.size_toArray.t a0;have ad:wt ((Tryz.prog.info? 164).map (·.size)=O (i++j).toArray.size):=by unfold Hid;rw[a1];kernel_rfl
     have b0:wt (z.there w.heap.size 0 (i++j).toArray.size):=by unfold Hid;rw[a1];exact yr al
     have bd:=H (Ep al (by rw[a0];rfl));have bs:wt (mN (z.setCells w.heap.size 0 (i++j)) f (fT a 288).2):=by obtain⟨B,C,y,D⟩:=bw;exact⟨B,C,by rw[yM _ Y];exact y,D⟩
     have bt:wt (mN (z.setCells w.heap.size 0 (i++j)) g (fT b 32).2):=by obtain⟨B,C,y,D⟩:=b5;exact⟨B,C,by rw[yM _ Y];exact y,D⟩
     have bv:wt (wm w.heap.size w (z.setCells w.heap.size 0 (i++j))):=xi _ _ (ag _) _ _ _ _ bb;have HB:=H bc;have tokb:True:=trivial;go_wp2_with (first|(have _t:=tokb;refine TP (by rfl) 164 0 1 (.tmp 44) (.tmp 46) (by rfl) (Bc i.toArray) (Bc j.toArray) (Bc (i++j).toArray) (by rfl) (by rfl) HB ?_)|(refine dt (by rfl) 164 (.tmp 0) (.tmp 47) (by rfl) w.heap.size 0 (i++j).toArray (by rfl) (by rfl) b0 ad br ?_));refine aK (v:=Bc (i++j).toArray) ?_ rfl ⟨f,g,?_,bs,bt,bv,Y,Y⟩;·exact bk results159 _ _ w.heap.size 164 _ _ _ rfl bd underlying164 rfl ad
     ·rw[<-HX.o,<-HY.o]
def fC(a b:Nat):List wg:=jI nG++(Z (O ⟨a,0,N⟩) (G mL) (G mL)::(jI nE++[Z (O ⟨b,0,N⟩) (G mK) (G mK)]))
def Lf:nG.sum=G mL/\nE.sum=G mK:=by decide +kernel
def Qh(a b:Nat):(fC a b).length=34:=by unfold fC jI;rw[ab,aq,Le,ai,ab,aq,F3];rfl
def Jg:wh DG 159 #[] w λf d=>∃a c,f=BX (Bc (fC a c).toArray)/\mN d a mL/\mN d c mK/\wm w.heap.size w d/\w.heap.size<=a/\w.heap.size<=c:=by apply(Qg j_ j9 Ie Hw (λk e=>ln ⟨k,e⟩) (λk e=>PK ⟨k,e⟩)).m;rintro f d ⟨a,c,rfl,g,h,b,i,j⟩;rw[Co.1,Co.2.2.1,Lf.1,Lf.2];rw[Co.2.1]at g;rw[Co.2.2.2]at h;refine⟨a,c,?_,g,h,b,i,j⟩;unfold fC;rw[au];rfl
end
section
variable{B:Nat}{w:vz}
def iI(c:List Nat):Nat×Nat:=c.foldl (λa b=>((a.1+b)%65521,(a.2+(a.1+b)%65521)%65521)) (1,0)
def tG(a:List Nat):List Nat:=[(iI a).2/256,(iI a).2%256,(iI a).1/256,(iI a).1%256]
def IK(b:List Nat):(iI b).1<65521/\(iI b).2<65521:=by
 unfold iI;suffices h:∀(b:List Nat) (a:Nat×Nat),a.1<65521/\a.2<65521->(b.foldl (λa c=>((a.1+c)%65521,(a.2+(a.1+c)%65521)%65521)) a).1<65521/\(b.foldl (λa c=>((a.1+c)%65521,(a.2+(a.1+c)%65521)%65521)) a).2<65521 from h b _ ⟨bF,bF⟩
 intro b;induction b with
 |nil=>intro a h;exact h
 |cons c b d=>intro a _;exact d _ ⟨Nat.mod_lt _ bF,Nat.mod_lt _ bF⟩
def Nn(a:List Nat)(b:Nat):iI (a++[b])=(((iI a).1+b)%65521,((iI a).2+((iI a).1+b)%65521)%65521):=by simp[iI]
def GY(a:List Nat):wg:=Bc #[I .u8 ((iI a).2/256:Nat),I .u8 ((iI a).2%256:Nat),I .u8 ((iI a).1/256:Nat),I .u8 ((iI a).1%256:Nat)]
def NX(i:Option wT)(q:Nat)(a:List Nat)(C:B<=w.heap.size)(u:qi w B i a)(J:G a<=1000000000)(s:∀c,c<G a->nth a c<256):wh DG 149 #[Z i (G a) q] w λr A=>r=BX (GY a)/\∃y,A=w.alloc y:=by
 go_in
 go_wp2
 go_loop [3,4,9] (λp b c=>∃k:Nat,k<=G a/\c=I U k/\p=I U (iI (a.take k)).1/\b=I U (iI (a.take k)).2) (λ_ _ c=>G a-(intOf c).toNat)
 case atStart=>exact⟨0,aw _,rfl,rfl,rfl⟩
 case round=>
  obtain⟨k,F,rfl,rfl,rfl⟩:=hrel;have x:=IK (a.take k);by_cases f:k<G a
  ·obtain⟨j,z,rfl,D,t⟩:=u k f;have E:(w.alloc (BV #[I .u8 0,I .u8 0,I .u8 0,I .u8 0] 153)).cell? ⟨j,z+k,N⟩=O (I .u8 (nth a k:Nat)):=by rw[World.cell?_alloc_lt _ _ _ (by show j<_;omega)];exact t
   have K:=s k f;have l:=H (Nn (a.take k) (nth a k));have m:wt (a.take (k+1)=a.take k++[nth a k]):=by rw[bN f];simp[nth,f,wt]
   generalize d:(iI (a.take k)).1=n at *;generalize e:(iI (a.take k)).2=o at *;have g:=H d;have h:=H e;clear d e;go_wp2
   go_round
   case rel=>
    refine⟨k+1,Y,by go_num,?_,?_⟩
    ·rw[m.o,l.o];simp
    ·rw[m.o,l.o];simp
   case measure=>exact eT
  ·obtain rfl:k=G a:=Y;rw[dE]at x ⊢;generalize d:(iI a).1=n at *;generalize e:(iI a).2=o at *;have g:=H d;have h:=H e;clear d e;go_wp2;refine aK (v:=GY a) (by simp[results,results149,go_sem,GY,g.o,h.o]) rfl ⟨rfl,?_⟩;exact⟨_,rfl⟩
end
def NJ(a:vz):(sizeOf 5).run DG a=.ok 1 a:=by kernel_rfl
def S7(c d e f g i j k:Nat)(p:c<256)(q:d<256)(r:e<256)(s:f<256)(t:g<256)(u:i<256)(v:j<256)(w:k<256)(n:vz):(Op.equalIn 10000 153 (Bc #[I .u8 (c:Int),I .u8 (d:Int),I .u8 (e:Int),I .u8 (f:Int)]) (Bc #[I .u8 (g:Int),I .u8 (i:Int),I .u8 (j:Int),I .u8 (k:Int)])).run DG n=.ok (decide ([c,d,e,f]=[g,i,j,k])) n:=by
 have h:=run_equalIn_bytes (P:= DG) n 9998 153 5 4 underlying153 eU NJ [UInt8.ofNat c,UInt8.ofNat d,UInt8.ofNat e,UInt8.ofNat f] [UInt8.ofNat g,UInt8.ofNat i,UInt8.ofNat j,UInt8.ofNat k] rfl rfl;have a:∀b:Nat,b<256->(UInt8.ofNat b).toNat=b:=λb o=>by simp[dR o]
 have m:∀l b:Nat,l<256->b<256->(UInt8.ofNat l=UInt8.ofNat b↔l=b):=λl b y o=>⟨λh=>by rw[<-a l y,<-a b o,h],λh=>by rw[h]⟩;have x:([UInt8.ofNat c,UInt8.ofNat d,UInt8.ofNat e,UInt8.ofNat f]==[UInt8.ofNat g,UInt8.ofNat i,UInt8.ofNat j,UInt8.ofNat k])=decide ([c,d,e,f]=[g,i,j,k]):=by rw[cH,beq_iff_eq,cL];simp only[List.cons.injEq,and_true,m c g p t,m d i q u,m e j r v,m f k s w]
 rw[x]at h;simp only[bM,ew,Extern.Stop.cell,a _ p,a _ q,a _ r,a _ s,a _ t,a _ u,a _ v,a _ w]at h;rw[show(9998+2:Nat)=10000 from rfl]at h;exact h
section
variable{B z y x v u:Nat}{d:List Nat}{o:Nat}{s:List wg}{w:vz}{p t left q:Nat}{A:wg}{n:List Nat}
structure SA(o:Nat)(r:List Bool)(n D:List Nat)(r':List Bool):Prop where
 h0:0<G D
 h1:G D<=65535
 h2:∀i,i<G D->nth D i<256
 h3:r.drop (G r%8)=gg 16 (G D)++(gg 16 (65535-G D)++(gH D++r'))
 h4:G r'%8=0
 h5:G n+G D<=o
def pF(q o:Nat)(r:List Bool)(n:List Nat)(a:List Bool)(e:List Nat):Prop:=
 ∀c:List Bool->List Nat->List Bool->List Nat->Prop,
  (∀r a n e,iA iM q o r n (.ok (a,e))->c (CD::(gg 2 1++r)) n a e) ->(∀r a n b,SA o r n b a->c (CD::(gg 2 0++r)) n a (n++b)) ->(∀r a g n f b,SA o r n b a->c a (n++b) g f->c (CS::(gg 2 0++r)) n g f)->c r n a e
section
variable{d e:Nat}{r l m:List Bool}{f j g:List Nat}
def pF.lastFixed(h:iA iM d e r f (.ok (l,j))):pF d e (CD::(gg 2 1++r)) f l j:=λ_ a _ _=>a _ _ _ _ h
def pF.lastStored(a:List Nat)(c:0<G a)(h:G a<=65535)(i:∀b,b<G a->nth a b<256)(C:r.drop (G r%8)=gg 16 (G a)++(gg 16 (65535-G a)++(gH a++l)))(D:G l%8=0)(E:G f+G a<=e):pF d e (CD::(gg 2 0++r)) f l (f++a):=λ_ _ k _=>k _ _ _ _ ⟨c,h,i,C,D,E⟩
def pF.moreStored(a:List Nat)(C:0<G a)(D:G a<=65535)(E:∀h,h<G a->nth a h<256)(F:r.drop (G r%8)=gg 16 (G a)++(gg 16 (65535-G a)++(gH a++l)))(J:G l%8=0)(K:G f+G a<=e)
  (L:pF d e l (f++a) m g):pF d e (CS::(gg 2 0++r)) f m g:=λi k b c=>c _ _ _ _ _ _ ⟨C,D,E,F,J,K⟩ (L i k b c)
end
end
section
variable{w:vz}
def xm:List Nat->Nat->Nat
 | [],a=>a
 |b::c,a=>xm c (a*85+(b-33))
def aO(a:Nat):List Nat:=[a/16777216,a/65536%256,a/256%256,a%256]
def pv(a b c d e:Nat):Nat->Nat
 |0=>0
 |1=>a
 |2=>b
 |3=>c
 |4=>d
 |_=>e
end
section
variable{B i g e c:Nat}{d:List Nat}{a:Nat}{w:vz}{p:Nat}{m:wg}{f:List Nat}
def bV(b:List Nat):List wg:=b.map λh:Nat=>I .u8 (h:Int)
def OM(b:List Nat)(k h:Nat):((bV b).toArray.setIfInBounds k (I .u8 (h:Int)))=(bV (b.set k h)).toArray:=by unfold bV;rw[List.map_set];simp
def SM{j:vz}{b l:Nat}{k:List Nat}{n:Nat×Nat}(h:j.heap[b]?=O (BV (bV k).toArray l n)):wt (j.rangeAt b 0 (bV k)):=by intro q r o;rw[cb h,bZ];simpa using o
def wL(h j k l b:Nat):Nat:=xm [h,j,if b<=2 then 117 else k,if b<=3 then 117 else l,117] 0
end
section
variable{B:Nat}{w:vz}
def Gf(a:Nat)(h:a<16)(b:a<({data:=#[48,49,50,51,52,53,54,55,56,57,97,98,99,100,101,102]}:ByteArray).size):(({data:=#[48,49,50,51,52,53,54,55,56,57,97,98,99,100,101,102]}:ByteArray)[a]'b).toNat=gR a:=by
 match a,h with
 |0,_=>rfl
 |1,_=>rfl
 |2,_=>rfl
 |3,_=>rfl
 |4,_=>rfl
 |5,_=>rfl
 |6,_=>rfl
 |7,_=>rfl
 |8,_=>rfl
 |9,_=>rfl
 |10,_=>rfl
 |11,_=>rfl
 |12,_=>rfl
 |13,_=>rfl
 |14,_=>rfl
 |15,_=>rfl
 |a+16,h=>omega
def Jz{w:vz}{f b:Nat}{d g:Int}(h:d=f)(i:g=b):∀c e,([f,b].map λd:Nat=>I .u8 (d:Int))[c]?=O e->(w.alloc (BV #[I .u8 d,I .u8 g] 5)).drew.cell? ((⟨w.heap.size,0,N⟩:wT).add c)=O e:=by
 subst h i;intro c e a;match c,a with
 |0,a=>show(w.alloc _).cell? ⟨w.heap.size,0+0,N⟩=_;rw[World.cell?_alloc_new];exact a
 |1,a=>show(w.alloc _).cell? ⟨w.heap.size,0+1,N⟩=_;rw[World.cell?_alloc_new];exact a
 |c+2,a=>simp at a
def Oq(g:wg)(c:List Nat)(f:w.ownsRow B 5 1 g (G c) (c.map λa:Nat=>I .u8 (a:Int)))(C:B<=w.heap.size)(D:G c<=1000000000)(b:Nat)(e:b<256):wh DG 143 #[g,I .u8 b] w λn j=>∃d,n=BX d/\j.ownsRow B 5 1 d (G c+2) ((c.map λa:Nat=>I .u8 (a:Int))++([gR (b/16),gR (b%16)].map λa:Nat=>I .u8 (a:Int)))/\Kept 5 B [] w j:=by
 obtain⟨u,p,r,s,t⟩:=bR infoByte;have v:0<=(b:Int)/16:=Y;have x:(b:Int)/16<16:=Y;have y:bits .and .u8 (b:Int) 15=((b%16:Nat):Int):=by have:=u8_and_nat b 15 e Y;rw[nat_mask4]at this;exact this
 have z:(b:Int)%16<16:=Y;have A:0<=(b:Int)%16:=Y;have e1:((b:Int)/16).toNat=b/16:=Y;have e2:((b:Int)%16).toNat=b%16:=Y;have k:=H e1;have l:=H e2;clear e1 e2
 go_in
 go_wp2_with fail;go_region_law (refine Cy rfl (.tmp 5) (.tmp 12) 23 rfl B 5 u (I .u8 0) 1 1 az p r s t rfl bF g (G c) _ rfl (ed (f.alloc _)) ⟨w.heap.size,0,N⟩ 2 2 ([gR (b/16),gR (b%16)].map λa:Nat=>I .u8 (a:Int)) rfl cO ?hnews ?hone ?h63 ?hby ?hb ?_;(case hnews=>refine Jz ?_ ?_<;>simp only[k.o,l.o]<;>exact cX _ (Gf _ Y _));(case hone=>intro E i;simp at i;rcases i with rfl|rfl<;>rfl);(case h63=>unfold maxLen;omega);(case hby=>omega);(case hb=>simp;omega);intro d F q h _);all_goals (have m:=(((Kept.refl 5 B [] w).alloc _).drew).grown h (oQ (ed (f.alloc _))))
 all_goals (clear f h)
 all_goals go_wp2
 all_goals go_ret
 all_goals exact⟨d,rfl,q,m⟩
def PZ(ao:Option wT)(cap:Nat)(a:List Nat)(v:B<=w.heap.size)(A:qi w B ao a)(V:G a<=200000)(x:∀b,b<G a->nth a b<256):wh DG 101 #[Z ao (G a) cap] w λm t=>∃c,m=BX c/\t.ownsRow B 5 1 c (2*G a+1) ((iL a++[62]).map λl:Nat=>I .u8 (l:Int))/\Kept 5 B [] w t:=by
 obtain⟨s,n,p,q,r⟩:=bR infoByte
 go_in
 go_wp2_with (at_make;refine wpList_make_own _ rfl _ _ 23 rfl B 5 s (I .u8 0) 1 az n p q U U _ (2*G a+1) rfl rfl Y (by rw[r];omega) lB v ?_;intro w1 F C);have u:=(Kept.refl 5 B [] w).grown C (λR h=>by cases h);go_loopw [3,13] (λM b wr=>∃k:Nat,k<=G a/\b=I U k/\wr.ownsRow B 5 1 M (iL (a.take k)).length ((iL (a.take k)).map λl:Nat=>I .u8 (l:Int))/\Kept 5 B [] w wr) (λ_ b _=>G a-(intOf b).toNat)
 case atStart=>exact⟨0,aw _,rfl,F,u⟩
 case round=>
  obtain⟨k,T,rfl,f,i⟩:=hrel;have W:=i.size;have E:(iL (a.take k)).length=2*k:=by rw[mn,ax];omega
  by_cases e:k<G a
  ·obtain⟨Q,X,rfl,y,z⟩:=A k e;have S:=i.cell cO y z;have J:=x k e;go_wp2_with fail;apply(Oq _ _ f Y Y (nth a k) J).m;rintro m P ⟨c,rfl,g,j⟩;have e1:iL (a.take (k+1))=iL (a.take k)++[gR (nth a k/16),gR (nth a k%16)]:=by rw[bN e,rj];simp[iL,nth,e]
   rw[<-aI,<-e1,show(iL (a.take k)).length+2=(iL (a.take (k+1))).length by rw[e1];simp]at g;go_wp2;go_roundw
   case rel=>exact⟨k+1,Y,by go_num,g,i.t j⟩
   case measure=>exact eT
  ·obtain rfl:k=G a:=Y;rw[dE]at f E;go_wp2_with (at_builtin;refine aX _ rfl (.tmp 21) (.tmp 22) 23 rfl B 5 s (I .u8 0) 1 1 az n p q r rfl bF _ _ _ rfl (f.alloc _) ⟨wr.heap.size,0,N⟩ 1 1 [I .u8 62] rfl rfl ?c1 ?c2 ?c3 ?c4 ?c5 ?_)
   case c1=>intro K L d;match K,d with|0,d=>simp at d;subst d;simp[Addr.add]
   case c2=>intro L o;simp at o;subst o;rfl
   case c3=>unfold maxLen;omega
   case c4=>omega
   case c5=>simp;omega
   intro c P g D _;have j:=(i.alloc _).grown D (oQ (f.alloc _));go_wp2;go_ret;refine⟨c,rfl,?_,j⟩;rw[aI];exact g
end
section
variable{w:vz}{B b T:Nat}{a:List wg}{l:wg}{f:List Nat}{g:Nat}{d:List Bool}
def Rm(c e:Nat):gg (c+1) e=gg c e++[(e/2^c)%2==1]:=by
 induction c generalizing e with
 |zero=>simp[gg]
 |succ c h=>rw[gg,h (e/2),gg,bH,cR,<-Nat.pow_succ']
def KO(c e:Nat)(m:c<2^62):bits .and U ((c:Int)/2^e) 1=(((c/2^e)%2==1).toNat:Nat):=by
 have i:((c:Int)/2^e)=((c/2^e:Nat):Int):=by rw[Int.natCast_ediv,Int.natCast_pow];rfl
 have k:c/2^e<=c:=Nat.div_le_self _ _;have j:=QW (c/2^e) 1 Y Y;rw[i];refine j.t ?_;rw[nat_mask1];rcases dY (c/2^e)with h|h<;>rw[h]<;>rfl
def E9(h:Wx B b T a w d)(e c:Nat)(n:e<2^62)(z:c<=62)(x:G d+c<=1099511627776):wh DG 203 #[A3 (O ⟨b,0,N⟩),I U e,I U c] w λj q=>j=BX (BG #[])/\Wx B b T a q (d++gg c e)/\Kept 5 B [b] w q:=by
 go_in
 go_wp2;go_loopw [8] (λi wr=>∃k:Nat,k<=c/\i=I U k/\Wx B b T a wr (d++gg k e)/\Kept 5 B [b] w wr) (λi _=>c-(intOf i).toNat)
 case atStart=>exact⟨0,aw _,rfl,by simpa[gg]using h,Kept.refl _ _ _ _⟩
 case round=>
  obtain⟨k,v,rfl,m,p⟩:=hrel;by_cases y:k<c
  ·have A:=KO e k n;have s:(d++gg k e).length<=1099511627776:=by rw[ab,gM];omega
   have t:=H (Rm k e);clear n;go_wp2_with fail;apply(Ob m s _).m;rintro j C ⟨rfl,r,u⟩;go_wp2;go_roundw
   case rel=>exact⟨k+1,Y,by go_num,by rw[t.o,<-au];exact r,p.t u⟩
   case measure=>exact eT
  ·obtain rfl:k=c:=Y;go_wp2
   go_end0
   exact⟨rfl,m,p⟩
def TU(h:Wx B b T a w d):wh DG 270 #[A3 (O ⟨b,0,N⟩)] w λj i=>j=BX (BG #[])/\Wx B b T a i (d++DJ ((8-G d%8)%8) CS)/\Kept 5 B [b] w i:=by
 obtain⟨l,f,g,c,e⟩:=h;have k:=c.c1;have m:=c.fz 1
 go_in
 go_wp2
 go_end0
 refine⟨rfl,⟨l,f,0,c.set1 0,?_⟩,(Kept.refl _ _ _ _).setCell cO _⟩;rw[e.2.1];exact e.align
def Gg(e c:Nat):∀k,k<=c->gG e c=(gG e c).take (c-k)++gG e k:=by
 induction c with
 |zero=>intro k i;obtain rfl:k=0:=Y;simp[gG]
 |succ c j=>
  intro k i;by_cases h:k=c+1;·subst h;simp
  ·rw[show c+1-k=(c-k)+1 by omega,gG,List.take_succ_cons,bH,<-j k Y]
def AQ(h c:Nat):(gG h c).length=c:=by
 induction c with
 |zero=>rfl
 |succ c e=>simp[gG,e]
def Jy(c e k:Nat)(m:k+1<=e):(gG c e).take (e-k)=(gG c e).take (e-(k+1))++[(c/2^k)%2==1]:=by
 have j:=Gg c e k Y;have h:=Gg c e (k+1) m;have i:gG c (k+1)=[(c/2^k)%2==1]++gG c k:=by simp only[gG,bH,cU,Nat.shiftRight_eq_div_pow]
 rw[i,<-au]at h;exact List.append_cancel_right (j.s.t h)
def cV(c:Nat×Nat):wg:=Bc #[I U (c.1:Nat),I U (c.2:Nat)]
def IW(h:Wx B b T a w d)(j:Nat×Nat)(m:j.1<2^62)(C:j.2<=62)(z:G d+j.2<=1099511627776):wh DG 205 #[A3 (O ⟨b,0,N⟩),cV j] w λe u=>e=BX (BG #[])/\Wx B b T a u (d++gG j.1 j.2)/\Kept 5 B [b] w u:=by
 obtain⟨v,i⟩:=j;unfold cV;simp only[]at m C z ⊢;have L:B<=b/\b<w.heap.size:=by obtain⟨_,_,_,t,_⟩:=h;exact⟨t.hb,ap t.blk⟩
 go_in
 go_wp2;go_loopw [4] (λn wr=>∃k:Nat,k<=i/\n=I U ((k:Int)-1)/\Wx B b T a wr (d++(gG v i).take (i-k))/\Kept 5 B [b] (w.alloc (BV #[I U v,I U i] 197)) wr) (λn _=>(intOf n+1).toNat)
 case atStart=>exact⟨i,ag _,rfl,by simpa using h.alloc _,Kept.refl _ _ _ _⟩
 case round=>
  obtain⟨k,y,rfl,s,p⟩:=hrel;have r:=p.block w.heap.size _ eS (bn _ _) (C2 (by intro F J e;simp at e));by_cases M:0<k
  ·obtain⟨c,rfl⟩:∃c,k=c+1:=⟨k-1,Y⟩;have K:=nw r;have P:=KO v c m;have A:(d++(gG v i).take (i-(c+1))).length<=1099511627776:=by rw[ab,ax,AQ];omega
   have D:=H (Jy v i c y);have q:((c+1:Nat):Int)-1=c:=Y;rw[q];clear m r q;go_wp2_with fail;apply(Ob s A _).m;rintro e Q ⟨rfl,x,E⟩;go_wp2;go_roundw
   case rel=>exact⟨c,Y,by go_num,by rw[D.o,<-au];exact x,p.t E⟩
   case measure=>simp[intOf]
  ·obtain rfl:k=0:=Y;go_wp2
   go_end0
   refine⟨rfl,?_,((Kept.refl _ _ _ _).alloc _).t p⟩
   rwa [Nat.sub_zero,aP (by rw[AQ];omega)]at s
end
section
variable{w:vz}
def pM(b:List (Nat×Nat))(a:Nat):Nat×Nat:=b.getD a (0,0)
def kD(w:vz)(d:Nat)(c:List (Nat×Nat)):Prop:=
 ∃b:Array wg,w.heap[d]?=O (BV b 197 (0,0))/\b.size=2*G c/\∀a,a<G c->b[a*2]?=O (I U ((pM c a).1:Nat))/\b[a*2+1]?=O (I U ((pM c a).2:Nat))
def kD.set{c:Nat}{b:List (Nat×Nat)}(h:kD w c b)(a:Nat)(x:Nat×Nat):kD ((w.setCell ⟨c,a*2,N⟩ (I U (x.1:Nat))).setCell ⟨c,a*2+1,N⟩ (I U (x.2:Nat))) c (b.set a x):=by
 obtain⟨l,g,j,k⟩:=h;refine⟨_,nu _ (nu _ g),by simp[j],λi e=>?_⟩;rw[dZ]at e;obtain⟨e1,e2⟩:=k i e;by_cases f:a=i
 ·subst f;have d:pM (b.set a x) a=x:=by simp[pM,e]
  rw[d];constructor;·rw[dB Y,dV Y]
  ·rw[dV eS]
 ·have d:pM (b.set a x) i=pM b i:=by simp[pM,List.getElem?_set_ne f]
  rw[d];constructor;·rw[dB Y,dB Y];exact e1
  ·rw[dB Y,dB Y];exact e2
def kD.there{a:Nat}{d:List (Nat×Nat)}(h:kD w a d)(c:Nat)(k:c<G d):w.there a (c*2) 2:=by obtain⟨e,b,f,g⟩:=h;intro j i;refine⟨?_,pA b⟩;rw[cb b,bX Y];rfl
def kD.made{g:vz}{i c a:Nat}(h:g.ownsRow i 197 2 (Z (O ⟨c,0,N⟩) a a) a (madeCells #[I U 0,I U 0] (a*2)).toList):kD g c (DJ a (0,0)):=by
 rcases h.2 with⟨l,_⟩|⟨r,q,b,o,_,m,_,_,d,n⟩;·cases l
 cases o;have j:b.toList=(madeCells #[I U 0,I U 0] (a*2)).toList:=by rw[<-n,aP (by rw[dH,d];omega)]
 have k:=Array.toList_inj.1 j;refine⟨b,m,by rw[d];simp;omega,λf e=>?_⟩;rw[bj]at e;have p:pM (DJ a (0,0)) f=(0,0):=by simp[pM,e]
 rw[p,k,madeCells];constructor;·rw[Array.getElem?_map,Array.getElem?_range,ak Y];simp
 ·rw[Array.getElem?_map,Array.getElem?_range,ak Y];simp[show(f*2+1)%2=1 by omega]
def laid(d:List Nat)(t:List (Nat×Nat))(len c b:Nat):Nat->List (Nat×Nat)
 |0=>t
 |a+1=>(laid d t len c b a).set (nth d (b+a)) (c+a,len)
def sD(a:List Nat):Nat->Nat
 |0=>0
 |k+1=>2*sD a k+nth a (k+1)
def rM(a c:List Nat)(b:Nat):Nat->List (Nat×Nat)
 |0=>DJ b (0,0)
 |k+1=>laid c (rM a c b k) (k+1) (2*sD a k) (qb a k) (nth a (k+1))
def JD(f:List Nat)(b:List (Nat×Nat))(len d c a:Nat):(laid f b len d c a).length=G b:=by
 induction a with
 |zero=>rfl
 |succ a e=>simp[laid,e]
def Ty(b d:List Nat)(a k:Nat):(rM b d a k).length=a:=by
 induction k with
 |zero=>simp[rM]
 |succ k c=>rw[rM,JD,c]
def TE:rM nG mL 288 15=lh:=by decide +kernel
def BL:rM nE mK 32 15=mw:=by decide +kernel
def infoCode:(Tryz.prog.info? 197).map (λa=>(a.zero,a.size,a.bytes))=O (O (Bc #[I U 0,I U 0]),2,16):=by kernel_rfl
def ip{f:wg}{e b:Nat}{c:TypeId}(h:(Tryz.prog.info? c).map (λa=>(a.zero,a.size,a.bytes))=O (O f,e,b)):∃a,Tryz.prog.info? c=O a/\a.zero=O f/\a.size=e/\a.bytes=b:=by
 cases d : Tryz.prog.info? c with
 |none=>rw[d]at h;simp at h
 |some a=>rw[d]at h;simp at h;exact⟨a,rfl,h.1,h.2.1,h.2.2⟩
def Cd.below{a e B:Nat}{g f:List Nat}{l:vz}(h:Cd w a e g f)(k:wm B w l)(j:a<B)(o:∀b c,w.cell? ⟨a,e+16,N⟩=O (Z (O ⟨b,0,N⟩) (G f) c)->b<B):Cd l a e g f:=by obtain⟨m,b,c,i,n⟩:=h;have:=o b c i;exact⟨λd hi=>(k.cell (p:=⟨a,e+d,N⟩) j).t (m d hi),b,c,(k.cell (p:=⟨a,e+16,N⟩) j).t i,λd hi=>(k.cell (p:=⟨b,d,N⟩) this).t (n d hi)⟩
def F2(l n d:Nat)(a b:List Nat)(hC:Cd w l n a b)(hn:d<=300)(M:qb a 15<=G b)(L:G b<=1000)(K:∀h,h<G b->nth b h<d)(S:∀k,k<=15->sD a k<=100000):wh DG 261 #[A3 (O ⟨l,n,N⟩),I U d] w λa0 w'=>a0=BX (Z (O ⟨w.heap.size,0,N⟩) d d)/\kD w' w.heap.size (rM a b d 15)/\wm w.heap.size w w':=by
 obtain⟨i0,v,V,W,X⟩:=ip infoCode;obtain⟨B,r,bb,C,t⟩:=hC;have E:l<w.heap.size:=aA w _ C
 go_in
 go_wp2_with (at_make;refine wpList_make_full _ rfl _ _ 192 rfl w.heap.size 197 i0 (Bc #[I U 0,I U 0]) 2 underlying192 v V W U U _ _ d rfl rfl Y Y (by rw[X];omega) lB (ag _) ?_;intro w1 F j;have f:=kD.made F);have e:wm w.heap.size w w1:=⟨j.os,j.tape,j.output,j.size,λk x=>j.block k x cO⟩;clear F j V W X v;have H1:=H B;have H3:=H t;have HS:=H K;have HV:=H S;have ad:=H (And.intro M L);have u:r<w.heap.size\/(G b)=0:=by
  rcases d_ (G b) with s|s;·exact C2 s
  ·exact C1 (aA w _ (t 0 s))
 have aa:=H u;clear B t K S M L u;go_loopw [6,7,8] (λz pl y wr=>∃k:Nat,k<=15/\y=I U (k+1:Nat)/\z=I U (sD a k:Nat)/\pl=I U (qb a k:Nat)/\kD wr w.heap.size (rM a b d k)/\wm w.heap.size w wr) (λ_ _ y _=>16-(intOf y).toNat)
 case atStart=>exact⟨0,Y,rfl,rfl,rfl,f,e⟩
 clear f e
 case round=>
  obtain⟨k,x,rfl,rfl,rfl,f,e⟩:=hrel;by_cases bd:k<15
  ·have a6:=(e.cell (p:=⟨l,n+(k+1),N⟩) E).t (H1 (k+1) Y);have bf:=HV.o k x;have a9:=M_ a (k+1) 15 Y;have J:qb a (k+1)=qb a k+nth a (k+1):=rfl;have T:sD a (k+1)=2*sD a k+nth a (k+1):=rfl;have a8:=ad.o;have al:wt (∀h,h<nth a (k+1)->nth b (qb a k+h)<d/\qb a k+h<G b/\r<w.heap.size):=by intro h v;have u:=aa.o;exact⟨HS _ Y,Y,Y⟩
   have hN:nth a (k+1)<=1000:=Y;have hP:qb a k<=1000:=Y;have ac:=H J;have ao:=H T;have HT:wt (rM a b d (k+1)=laid b (rM a b d k) (k+1) (2*sD a k) (qb a k) (nth a (k+1))):=rfl;clear J T a9 a8;generalize a1:nth a (k+1)=m at *;generalize a2:qb a k=g at *;generalize a4:sD a k=i at *;generalize D:rM a b d k=q at *;have P:G q=d:=by rw[<-D,Ty]
   clear a1 a2 a4 D;go_wp2;go_loopw [6,7,23] (λz pl h wr=>∃c:Nat,c<=m/\h=I U (c:Nat)/\z=I U (2*i+c:Nat)/\pl=I U (g+c:Nat)/\kD wr w.heap.size (laid b q (k+1) (2*i) g c)/\wm w.heap.size w wr) (λ_ _ h _=>m-(intOf h).toNat)
   case atStart=>exact⟨0,Y,rfl,by go_num,by go_num,f,e⟩
   clear f e a6
   case round=>
    obtain⟨c,hj,rfl,rfl,rfl,f,e⟩:=hrel;by_cases a7:c<m
    ·obtain⟨t1,t2,t3⟩:=al.o c a7;have d2:=(e.cell (p:=⟨l,n+16,N⟩) E).t C;have d3:=(e.cell (p:=⟨r,g+c,N⟩) t3).t (H3 (g+c) t2);obtain⟨Q,f4⟩:=f.there (nth b (g+c)) (by rw[JD,P];exact t1) 0 Y;obtain⟨R,f5⟩:=f.there (nth b (g+c)) (by rw[JD,P];exact t1) 1 Y;obtain⟨u4,d4⟩:=Option.isSome_iff_exists.1 Q;obtain⟨u5,d5⟩:=Option.isSome_iff_exists.1 R;simp only[eD]at d4 f4;clear Q R;have ba:=H (f.set (nth b (g+c)) (2*i+c,k+1));have HL:wt (laid b q (k+1) (2*i) g (c+1)=(laid b q (k+1) (2*i) g c).set (nth b (g+c)) (2*i+c,k+1)):=rfl;clear f;generalize a3:nth b (g+c)=A at *;clear a3;have a5:=H ((e.setCell (p:=⟨w.heap.size,A*2,N⟩) (ag _) (I U (2*i+c:Nat))).setCell (p:=⟨w.heap.size,A*2+1,N⟩) (ag _) (I U (k+1:Nat)));go_wp2;go_roundw
     case rel=>exact⟨c+1,Y,by go_num,by go_num,by go_num,by rw[HL.o];exact ba,a5⟩
     case measure=>exact eT
    ·obtain rfl:c=m:=Y;go_wp2;go_roundw
     case rel=>exact⟨k+1,Y,by go_num,by rw[ao.o],by rw[ac.o],by rw[HT.o];exact f,e⟩
     case measure=>exact eT
  ·obtain rfl:k=15:=Y;go_wp2;go_ret;exact⟨rfl,f,e⟩
end
def lY(a b c:Nat):wg:=Bc #[I .u8 (a:Int),I .u8 (b:Int),I .u8 (c:Int)]
def ki{a b e c d f:Nat}(h:lY a b e=lY c d f):a=c/\b=d/\e=f:=by simp[lY]at h;omega
def Sw(c d e f g i:Nat)(n:c<256)(o:d<256)(p:e<256)(q:f<256)(r:g<256)(s:i<256)(k:vz):(Op.equal 281 (lY c d e) (lY f g i)).run DG k=.ok (decide ([c,d,e]=[f,g,i])) k:=by
 have h:=run_equalIn_bytes (P:= DG) k 9998 281 5 3 underlying281 eU NJ [UInt8.ofNat c,UInt8.ofNat d,UInt8.ofNat e] [UInt8.ofNat f,UInt8.ofNat g,UInt8.ofNat i] rfl rfl;have b:∀a:Nat,a<256->(UInt8.ofNat a).toNat=a:=λa l=>by simp[dR l]
 have m:∀j a:Nat,j<256->a<256->(UInt8.ofNat j=UInt8.ofNat a↔j=a):=λj a u l=>⟨λh=>by rw[<-b j u,<-b a l,h],λh=>by rw[h]⟩;have t:([UInt8.ofNat c,UInt8.ofNat d,UInt8.ofNat e]==[UInt8.ofNat f,UInt8.ofNat g,UInt8.ofNat i])=decide ([c,d,e]=[f,g,i]):=by rw[cH,beq_iff_eq,cL];simp only[List.cons.injEq,and_true,m c f n q,m d g o r,m e i p s]
 rw[t]at h;simp only[bM,ew,Extern.Stop.cell,b _ n,b _ o,b _ p,b _ q,b _ r,b _ s]at h;rw[show(9998+2:Nat)=10000 from rfl]at h;exact h
def IG(c:Bool)(d b e:Nat)(a:vz):(Instr.checkKey c 10000 281 (lY d b e)).run DG a=.ok () a:=by cases c<;>kernel_rfl
def SY(a b c:Nat)(d:vz):(Instr.keyThatStays (lY a b c) (lY a b c)).run DG d=.ok (lY a b c) d:=by
 have h:Instr.sameBits 10000 (lY a b c) (lY a b c)=CD:=by simp[Instr.sameBits,lY]
 unfold Instr.keyThatStays;rw[ak h];rfl
def yX(e:List MapEntry):Prop:=∀d∈e,∃a b c,a<256/\b<256/\c<256/\d.key=lY a b c
def Nj(a b c:Nat)(s:a<256)(t:b<256)(u:c<256)(g:vz):∀(f:List MapEntry) (d:Nat),yX f ->((Instr.findAsking 281 (lY a b c) f d).run DG g=.ok N g/\∀e∈f,e.key≠lY a b c)\/∃i e,(Instr.findAsking 281 (lY a b c) f d).run DG g=.ok (O (d+i,e.val)) g/\f[i]?=O e/\e.key=lY a b c
 | [],d,_=>C1 ⟨rfl,cO⟩
 |e::f,d,h=>by
  obtain⟨p,q,r,x,y,z,n⟩:=h e cO;have o:=Sw a b c p q r s t u x y z g;by_cases j:[a,b,c]=[p,q,r]
  ·rw[aH j]at o;refine C2 ⟨0,e,?_,rfl,?_⟩;·simp[Instr.findAsking,n,o,Result.andThen]
   ·rw[n];simp at j;obtain⟨rfl,rfl,rfl⟩:=j;rfl
  ·rw[av j]at o;have B:(Instr.findAsking 281 (lY a b c) (e::f) d).run DG g=(Instr.findAsking 281 (lY a b c) f (d+1)).run DG g:=by simp[Instr.findAsking,n,o,Result.andThen]
   rw[B];rcases Nj a b c s t u g f (d+1) (λl k=>h l (cu _ k))with m|⟨i,l,m,v,w⟩
   ·refine C1 ⟨m.1,λl k=>?_⟩;rcases cJ.1 k with rfl|k
    ·intro A;obtain⟨C,D,E⟩:=ki (n.s.t A);exact j (by rw[C,D,E])
    ·exact m.2 l k
   ·exact C2 ⟨i+1,l,by rw[m,show d+1+i=d+(i+1)by omega],by simpa using v,w⟩
def Nk(e b f:Nat)(m:e<256)(n:b<256)(o:f<256)(d:vz)(c:List MapEntry)(h:yX c):((Instr.findKey 281 (lY e b f) c).run DG d=.ok N d/\∀a∈c,a.key≠lY e b f)\/∃g a,(Instr.findKey 281 (lY e b f) c).run DG d=.ok (O (g,a.val)) d/\c[g]?=O a/\a.key=lY e b f:=by
 have j:(underlying 281).run DG d=.ok (.array 3 5) d:=aG;cases c with
 |nil=>refine C1 ⟨?_,cO⟩;simp[Instr.findKey,j,Instr.findNow,Result.andThen]
 |cons a c=>
  have q:Instr.findNow (.array 3 5) (lY e b f) (a::c) 0=N:=by obtain⟨s,t,u,_,_,_,v⟩:=h a cO;simp[Instr.findNow,Instr.sameNow]
  have p:(Instr.findKey 281 (lY e b f) (a::c)).run DG d=(Instr.findAsking 281 (lY e b f) (a::c)).run DG d:=by simp[Instr.findKey,j,q,Result.andThen]
  rw[p];rcases Nj e b f m n o d (a::c) 0 h with i|⟨g,r,i,k,l⟩;·exact C1 i
  ·exact C2 ⟨g,r,by rw[i,bZ],k,l⟩
section
variable{w:vz}
def rX(a:List Nat):Prop:=∀b,b<G a->nth a b=nth a 0
def pP(a:List Nat)(b c:Nat):Prop:=nth a b=nth a c/\nth a (b+1)=nth a (c+1)/\nth a (b+2)=nth a (c+2)
def rq(a:List Nat)(c d b:Nat):Prop:=b<c/\b+3<=G a/\pP a b d/\∀r,b<r->r<c->r+3<=G a->¬pP a r d
def oV(w:vz)(l:Nat)(a:List Nat)(g:Nat):Prop:=
 ∃d k,w.heap[l]?=O (.map d k)/\(∀f∈d.toList,∃c:Nat,f.val=I U c/\c<g/\c+3<=G a/\f.key=lY (nth a c) (nth a (c+1)) (nth a (c+2))/\∀r,c<r->r<g->r+3<=G a->¬pP a r c) /\
  (∀e,e<g->e+3<=G a->∃f∈d.toList,f.key=lY (nth a e) (nth a (e+1)) (nth a (e+2)))/\∀(i j:Nat) (h b:MapEntry),d[i]?=O h->d[j]?=O b->h.key=b.key->i=j
def Q0{a:List Nat}{b c:Nat}(h:lY (nth a b) (nth a (b+1)) (nth a (b+2))=lY (nth a c) (nth a (c+1)) (nth a (c+2))):pP a b c:=ki h
def ND{a:List Nat}{b c:Nat}(h:pP a b c):lY (nth a b) (nth a (b+1)) (nth a (b+2))=lY (nth a c) (nth a (c+1)) (nth a (c+2)):=by rw[h.1,h.2.1,h.2.2]
def pP.s{a:List Nat}{p q:Nat}(h:pP a p q):pP a q p:=⟨h.1.s,h.2.1.s,h.2.2.s⟩
def pP.t{data:List Nat}{p a r:Nat}(h:pP data p a)(k:pP data a r):pP data p r:=⟨h.1.t k.1,h.2.1.t k.2.1,h.2.2.t k.2.2⟩
def oV.keys{f:List MapEntry}{b:List Nat}{e:Nat}(d:∀i,i<G b->nth b i<256)
  (h:∀c∈f,∃a:Nat,c.val=I U a/\a<e/\a+3<=G b/\c.key=lY (nth b a) (nth b (a+1)) (nth b (a+2))/\∀r,a<r->r<e->r+3<=G b->¬pP b r a):yX f:=by
 intro c j;obtain⟨a,_,_,k,g,_⟩:=h c j;exact⟨_,_,_,d _ Y,d _ Y,d _ Y,g⟩
def oV.look{l f:Nat}{a:List Nat}(h:oV w l a f)(c:∀q,q<G a->nth a q<256)(b:Nat)(L:b+3<=G a):∃(e:Nat) (ok:Bool),(Instr.lookup 191 (.map (O l)) (lY (nth a b) (nth a (b+1)) (nth a (b+2))) CD).run DG w=.ok (BG #[I U e,Bs ok]) w /\
   (ok=CD->rq a f b e)/\(ok=CS->∀r,r<f->r+3<=G a->¬pP a r b):=by
 obtain⟨s,J,m,n,t,K⟩:=h;have p:(underlying 191).run DG w=.ok (.map 281 3) w:=aG;have x:(zeroValue 3).run DG w=.ok (I U 0) w:=aG;rcases Nk (nth a b) (nth a (b+1)) (nth a (b+2)) (c _ Y) (c _ Y) (c _ Y) w s.toList (oV.keys c n)with d|⟨M,g,d,i,j⟩
 ·refine⟨0,CS,?_,cO,λ_ r v u k=>?_⟩;·simp[Instr.lookup,p,fh m,IG,d.1,x,Result.andThen]
  ·obtain⟨g,i,j⟩:=t r v u;exact d.2 g i (j.t (ND k))
 ·obtain⟨e,y,z,A,B,C⟩:=n g (aQ i);have o:=Q0 (B.s.t j);refine⟨e,CD,?_,λ_=>⟨z,A,o,λr D E F k=>C r D E F (k.t o.s)⟩,cO⟩;simp[Instr.lookup,p,fh m,IG,d,y,Result.andThen]
def oV.put{x a:Nat}{c:List Nat}(h:oV w x c a)(k:∀i,i<G c->nth c i<256)(X:a+3<=G c):∃g,(Instr.mapUpdate 191 (.map (O x)) (lY (nth c a) (nth c (a+1)) (nth c (a+2))) (I U a)).run DG w=.ok () { w with heap:=w.heap.setIfInBounds x g } /\
   oV { w with heap:=w.heap.setIfInBounds x g } x c (a+1):=by
 obtain⟨g,E,y,F,T,J⟩:=h;have V:=ap y;have hu:(underlying 191).run DG w=.ok (.map 281 3) w:=aG;have aa:∀(d:MapEntry) (p:Nat),d.key≠lY (nth c a) (nth c (a+1)) (nth c (a+2))->d.key=lY (nth c p) (nth c (p+1)) (nth c (p+2))->(∀r,p<r->r<a->r+3<=G c->¬pP c r p)->∀r,p<r->r<a+1->r+3<=G c->¬pP c r p:=by
  intro d p hn m ho r R r2 r3 hs;by_cases j:r=a;·subst j;exact hn (m.t (ND hs.s))
  ·exact ho r R Y r3 hs
 rcases Nk (nth c a) (nth c (a+1)) (nth c (a+2)) (k _ Y) (k _ Y) (k _ Y) w g.toList (oV.keys k F)with A|⟨l,f,A,K,m⟩
 ·refine⟨.map (g.push ⟨lY (nth c a) (nth c (a+1)) (nth c (a+2)),I U a,E⟩) (E+1),?_,?_⟩;·simp[Instr.mapUpdate,hu,fh y,IG,A.1,MapKept.run_setObj_map _ y,Result.andThen]
  ·refine⟨_,_,dV V,?_,λo q1 Q=>?_,λi l S b q k z=>?_⟩
   ·intro d e;simp only[Array.toList_push,aZ,cZ]at e;rcases e with e|rfl
    ·obtain⟨p,L,p2,M,B,P⟩:=F d e;exact⟨p,L,Y,M,B,aa d p (A.2 d e) B P⟩
    ·exact⟨a,rfl,Y,X,rfl,λr R r2=>Y⟩
   ·by_cases j:o=a;·subst j;exact⟨⟨lY (nth c o) (nth c (o+1)) (nth c (o+2)),I U o,E⟩,cO,rfl⟩
    ·obtain⟨f,K,m⟩:=T o Y Q;exact⟨f,by simp[ee.1 K],m⟩
   ·rw[Array.getElem?_push]at q k;have nk:∀{i:Nat} {d:MapEntry},g[i]?=O d->d.key≠lY (nth c a) (nth c (a+1)) (nth c (a+2)):=λh=>A.2 _ (by rw[ee,ep];exact⟨_,h⟩);split at q<;>split at k;·omega
    ·cases q;exact absurd z.s (nk k)
    ·cases k;exact absurd z (nk q)
    ·exact J i l S b q k z
 ·have s:g[l]?=O f:=by simpa using K
  refine⟨.map (g.modify l λf=>{ f with key:=lY (nth c a) (nth c (a+1)) (nth c (a+2)),val:=I U a }) E,?_,?_⟩;·simp[Instr.mapUpdate,hu,fh y,IG,A,s,m,SY,MapKept.run_setObj_map _ y,Result.andThen]
  ·have W:∀{i:Nat} {d:MapEntry},(g.modify l λf=>{ f with key:=lY (nth c a) (nth c (a+1)) (nth c (a+2)),val:=I U a })[i]?=O d->(i=l/\d.key=f.key/\d.val=I U a)\/(i≠l/\g[i]?=O d):=by
    intro i d e;rw[eW]at e;split at e;·rename_i j;subst j;rw[s]at e;simp at e;subst e;exact .inl ⟨rfl,m.s,rfl⟩
    ·rename_i j;exact .inr ⟨λf=>j f.s,e⟩
   refine⟨_,_,dV V,?_,λo q1 Q=>?_,λi i' S b q k z=>?_⟩
   ·intro d e;rw[ee,ep]at e;obtain⟨i,e⟩:=e;rcases W e with⟨_,v,u⟩|⟨v,u⟩;·exact⟨a,u,Y,X,v.t m,λr R r2=>Y⟩
    ·obtain⟨p,L,p2,M,B,P⟩:=F d (by rw[ee,ep];exact⟨_,u⟩);exact⟨p,L,Y,M,B,aa d p (λf=>v (J i l d _ u s (f.t m.s))) B P⟩
   ·have ac:∀{i:Nat} {d:MapEntry},g[i]?=O d->∃n∈(g.modify l λf=>{ f with key:=lY (nth c a) (nth c (a+1)) (nth c (a+2)),val:=I U a }).toList,n.key=d.key:=by
     intro i d e;by_cases j:l=i
     ·subst j;obtain rfl:f=d:=d9 (s.s.t e);refine⟨{ f with key:=lY (nth c a) (nth c (a+1)) (nth c (a+2)),val:=I U a },?_,m.s⟩;rw[ee,ep];exact⟨l,by rw[eW,ak rfl,s];rfl⟩
     ·refine⟨d,?_,rfl⟩;rw[ee,ep];exact⟨i,by rw[eW,aj j];exact e⟩
    by_cases j:o=a
    ·subst j;obtain⟨n,C,D⟩:=ac s;exact⟨n,C,D.t m⟩
    ·obtain⟨d,e,ad⟩:=T o Y Q;rw[ee,ep]at e;obtain⟨i,e⟩:=e;obtain⟨n,C,D⟩:=ac e;exact⟨n,C,D.t ad⟩
   ·have t:∀{i:Nat} {d:MapEntry},(g.modify l λf=>{ f with key:=lY (nth c a) (nth c (a+1)) (nth c (a+2)),val:=I U a })[i]?=O d->∃n,g[i]?=O n/\n.key=d.key:=by
     intro i d e;rcases W e with⟨c0,v,_⟩|⟨_,u⟩;·subst c0;exact⟨f,s,v.s⟩
     ·exact⟨d,u,rfl⟩
    obtain⟨n,C,D⟩:=t q;obtain⟨al,z1,z2⟩:=t k;exact J i i' n al C z1 (D.t (z.t z2.s))
structure De(B m f A D cap:Nat)(data:List Nat)(ao:Option wT)(w:vz)(u:List Bool)(d:Nat):Prop where
 wx:Wx B m 194 [Z ao (G data) cap,I U d,.map (O f),Z (O ⟨A,0,N⟩) 288 288,Z (O ⟨D,0,N⟩) 32 32] w u
 dat:qi w B ao data
 byt:∀i,i<G data->nth data i<256
 len:G data<=1000000
 lc:G data<=cap/\cap<=9223372036854775807
 hat:d<=G data
 st:oV w f data d
 r1:kD w A lh
 r2:kD w D mw
 hbm:B<=f
variable{B m f A D cap T:Nat}{data:List Nat}{ao:Option wT}{u:List Bool}{d:Nat}{E:List wg}
def Wx.below{c:vz}(h:Wx B m T E w u)(b:wm w.heap.size w c):Wx B m T E c u:=by obtain⟨l,k,n,⟨e,g,a,i⟩,j⟩:=h;exact⟨l,k,n,⟨e,g,by rw[b.block _ (ap a)];exact a,wK i b⟩,j⟩
def oV.below{c:vz}(h:oV w f data d)(b:wm w.heap.size w c):oV c f data d:=by obtain⟨g,e,a,i⟩:=h;exact⟨g,e,by rw[b.block _ (ap a)];exact a,i⟩
def kD.below'{g:vz}{a:Nat}{e:List (Nat×Nat)}(h:kD w a e)(b:wm w.heap.size w g):kD g a e:=by obtain⟨i,c,j⟩:=h;exact⟨i,by rw[b.block _ (ap c)];exact c,j⟩
def De.below{a:vz}(h:De B m f A D cap data ao w u d)(b:wm w.heap.size w a):De B m f A D cap data ao a u d:=
 ⟨h.wx.below b,h.dat.below b,h.byt,h.len,h.lc,h.hat,h.st.below b,h.r1.below' b,h.r2.below' b,h.hbm⟩
def De.cells(h:De B m f A D cap data ao w u d):w.cell? ⟨m,2,N⟩=O (Z ao (G data) cap)/\w.cell? ⟨m,3,N⟩=O (I U d)/\w.cell? ⟨m,4,N⟩=O (.map (O f))/\w.cell? ⟨m,5,N⟩=O (Z (O ⟨A,0,N⟩) 288 288)/\w.cell? ⟨m,6,N⟩=O (Z (O ⟨D,0,N⟩) 32 32)/\B<=m/\m<w.heap.size/\w.frozen? ⟨m,3,N⟩=CS:=by obtain⟨c,b,e,a,_⟩:=h.wx;have:=a.blk;refine⟨?_,?_,?_,?_,?_,a.hb,ap a.blk,pA a.blk⟩<;>(rw[cb this];simp)
def qi.at{l:List Nat}(h:qi w B ao l)(g:0<G l):∃b a,ao=O ⟨b,a,N⟩/\b<B/\∀i,i<G l->w.cell? ⟨b,a+i,N⟩=O (I .u8 (nth l i:Nat)):=by obtain⟨b,a,c,j,_⟩:=h 0 g;refine⟨b,a,c,j,λi n=>?_⟩;obtain⟨o,p,e,_,k⟩:=h i n;rw[c]at e;cases e;exact k
def QP(h:De B m f A D cap data ao w u d):wh DG 311 #[A3 (O ⟨m,0,N⟩)] w λc g=>c=BX (Bs (decide (d+3<=G data)))/\∃e,g=w.drewN e:=by
 obtain⟨k,l,_⟩:=h.cells;have i:=h.len;have j:=h.hat;have a:decide ((3:Int)<=(G data:Int)-d)=decide (d+3<=G data):=by rw[bO];omega
 have b:=H a;clear a
 go_in
 go_wp2_with fail;go_quiet (fail);go_wp2;go_ret;exact⟨by show BX (Bs (decide (3<=(G data:Int)-d)))=_;rw[b.o],nq,rfl⟩
def Sk(b e c g:Nat)(i:3<=c)(a:vz):(Instr.arrayAt 281 (Z (O ⟨b,e,N⟩) c g)).run DG a=.ok (A3 (O ⟨b,e,N⟩)) a:=by have h:(underlying 281).run DG a=.ok (.array 3 5) a:=aG;simp[Instr.arrayAt,h,Result.andThen,show ¬c<3 by omega]
def Mk(h:De B m f A D cap data ao w u d)(hk:d+3<=G data):wh DG 312 #[A3 (O ⟨m,0,N⟩)] w λz J=>z=BX (lY (nth data d) (nth data (d+1)) (nth data (d+2)))/\wm w.heap.size w J:=by
 obtain⟨n,o,_,_,_,ac,t,_⟩:=h.cells;obtain⟨b,c,rfl,hb,i⟩:=h.dat.at Y;obtain⟨K,L⟩:=h.lc;have q:=i d Y;have r:w.cell? ⟨b,c+d+1,N⟩=O (I .u8 (nth data (d+1):Nat)):=i (d+1) Y;have s:w.cell? ⟨b,c+d+2,N⟩=O (I .u8 (nth data (d+2):Nat)):=i (d+2) Y;have aa:=Sk b (c+d) (G data-d) (cap-d) Y;have k:b<w.heap.size:=Y;clear i h
 go_in
 go_wp2_with fail;generalize j:w.alloc _=l;have a:wm w.heap.size w l:=by rw[<-j];exact(ar _ _).alloc (ag _) _
 have g:l.heap[w.heap.size]?=O (BV #[I .u8 0,I .u8 0,I .u8 0] 281 (0,0)):=by rw[<-j];exact bn _ _
 have M:=(a.cell (p:=⟨m,2,N⟩) t).t n;have P:=(a.cell (p:=⟨m,3,N⟩) t).t o;have Q:=(a.cell (p:=⟨b,c+d,N⟩) k).t q;have R:=(a.cell (p:=⟨b,c+d+1,N⟩) k).t r;have S:=(a.cell (p:=⟨b,c+d+2,N⟩) k).t s;obtain⟨n0,n1,n2⟩:=Ph g;obtain⟨V,W,X⟩:=Lv 0 1 2 g;generalize C:w.heap.size=e at *;have x:=H a;have y:=H g;clear n o q r s j a g;have F:wt ((((l.setCell ⟨e,0,N⟩ (I .u8 (nth data d:Nat))).setCell ⟨e,1,N⟩ (I .u8 (nth data (d+1):Nat))).setCell ⟨e,2,N⟩ (I .u8 (nth data (d+2):Nat))).drew.heap[e]?=O (BV #[I .u8 (nth data d:Nat),I .u8 (nth data (d+1):Nat),I .u8 (nth data (d+2):Nat)] 281 (0,0))):=by unfold Hid;exact nu _ (nu _ (nu _ y))
 go_region;all_goals go_wp2
 refine aK (v:=lY (nth data d) (nth data (d+1)) (nth data (d+2))) ?_ rfl ⟨rfl,?_⟩;·exact bk results312 _ _ e 281 _ _ _ rfl F underlying281 rfl aG
 ·subst C;exact(((x.setCell (p:=⟨w.heap.size,0,N⟩) (ag _) _).setCell (p:=⟨w.heap.size,1,N⟩) (ag _) _).setCell (p:=⟨w.heap.size,2,N⟩) (ag _) _).drew
end
section
variable{w:vz}{B j s u y cap T:Nat}{f:List Nat}{m:Option wT}{t:List Bool}{g:Nat}{z:List wg}
def ud{B:Nat}{a w:vz}(h:wm B a w)(b:Nat):wm B a (w.drewN b):=⟨h.os,h.tape,h.output,h.size,h.block⟩
def MO(f:List Nat)(g a b:Nat):Prop:=(rX f->0<g->g+3<=G f->a=min 258 (G f-g)/\b=1)/\(a=0\/3<=a/\a<=258/\1<=b/\b<=32768/\b<=g/\g+a<=G f/\∀c,c<a->nth f (g+c)=nth f (g-b+c))
def qm(f:List Nat)(g a c:Nat):Prop:=
 (a=0/\c=0/\(g+3<=G f->∀p,rq f g g p->32768<g-p)) \/
 (g+3<=G f/\∃p,rq f g g p/\g-p<=32768/\c=g-p/\3<=a/\a<=258/\g+a<=G f/\(∀b,b<a->nth f (g+b)=nth f (p+b))/\(a<258->g+a<G f->nth f (g+a)≠nth f (p+a)))
def rq.one{g d p c:Nat}(h:rq f g d p)(b:rq f g d c):p=c:=by
 rcases Nat.lt_trichotomy p c with a|a|a;·exact absurd b.2.2.1 (h.2.2.2 c a b.1 b.2.1)
 ·exact a
 ·exact absurd h.2.2.1 (b.2.2.2 p a h.1 h.2.1)
def qm.one{b d c e:Nat}(h:qm f g b d)(n:qm f g c e):b=c/\d=e:=by
 rcases h with⟨rfl,rfl,h⟩|⟨o,p,i,D,rfl,E,F,J,q,r⟩<;>rcases n with⟨rfl,rfl,k⟩|⟨v,C,l,K,rfl,L,M,P,x,A⟩;·exact⟨rfl,rfl⟩
 ·have:=h v C l;omega
 ·have:=k o p i;omega
 ·obtain rfl:=i.one l;refine⟨?_,rfl⟩;rcases Nat.lt_trichotomy b c with a|a|a;·exact absurd (x b a) (r Y Y)
  ·exact a
  ·exact absurd (q c a) (A Y Y)
def rX.last(a:rX f){b:Nat}(d:0<g)(e:g+3<=G f)(h:rq f g g b):b+1=g:=by
 rcases cW b (g-1)with c|c
 ·refine absurd ?_ (h.2.2.2 (g-1) c Y Y);exact⟨(a _ Y).t (a _ Y).s,(a _ Y).t (a _ Y).s,(a _ Y).t (a _ Y).s⟩
 ·have:=h.1;omega
def qm.ok{l i:Nat}(h:qm f g l i):MO f g l i:=by
 rcases h with⟨rfl,rfl,h⟩|⟨q,p,k,v,rfl,d,x,A,C,D⟩
 ·refine⟨λa q d=>?_,C1 rfl⟩;have:rq f g g (g-1):=⟨Y,Y,⟨(a _ Y).t (a _ Y).s,(a _ Y).t (a _ Y).s,(a _ Y).t (a _ Y).s⟩,λr J K=>Y⟩;have:=h d _ this;omega
 ·have:=k.1;refine⟨λa n o=>?_,C2 ⟨d,x,Y,v,Y,A,λe E=>by rw[show g-(g-p)+e=p+e by omega];exact C e E⟩⟩;have F:=a.last n o k;refine⟨?_,Y⟩;rcases cW l 258 with c|c
  ·rcases cW (g+l) (G f) with b|b;·exact absurd ((a _ b).t (a _ Y).s) (D c b)
   ·omega
  ·omega
def H_(h:De B j s u y cap f m w t g)(v:Bool)(b:decide (g+3<=G f)=v):wh DG 311 #[A3 (O ⟨j,0,N⟩)] w λa d=>a=BX (Bs v)/\∃c,d=w.drewN c:=by
 subst b;exact QP h
def Rc(h:De B j s u y cap f m w t g):wh DG 263 #[A3 (O ⟨j,0,N⟩)] w λE w'=>∃n V:Nat,E=BX (BG #[I U n,I U V])/\wm w.heap.size w w'/\qm f g n V:=by
 by_cases i:g+3<=G f
 ·have x:=H h;clear h
  go_in
  go_wp2_with (go_at_call 311;apply(H_ x CD (aH i)).m;rintro E w1 ⟨rfl,M,rfl⟩);have F:wm w.heap.size w (w.drewN M):=⟨rfl,rfl,rfl,ag _,λ_ _=>rfl⟩;have J:=H (x.below F);generalize a9:w.drewN M=w1 at *;clear a9;obtain⟨C,D,c4,_,_,a1,a7,_⟩:=J.o.cells;have K:=H (J.below (ar _ _).drew);go_region_with (go_at_call 312;apply(Mk K i).m;rintro E w2 ⟨rfl,L⟩;have e:=H (K.below L);have a2:=e.o.cells.2.2.1;obtain⟨a,ok,a6,hp,ha⟩:=e.o.st.look e.byt g i;have A:=H hp;have HA:=H ha;clear hp ha);all_goals clear a2 a6 C D c4 K J
  all_goals have r:=H ((F.t (ar _ _).drew).t (L.m F.size))
  all_goals clear F L
  all_goals obtain⟨C,D,_,_,_,a1,a7,_⟩:=e.o.cells
  all_goals obtain⟨b,ac,rfl,hb,aa⟩:=e.o.dat.at Y
  all_goals have bf:=e.o.len
  all_goals have Q:=H aa
  all_goals clear aa
  all_goals (
   cases ok
   ·clear A;go_wp2;refine aK (v:=BG #[I U 0,I U 0]) oC rfl ⟨0,0,rfl,r,C1 ⟨rfl,rfl,λ_ p' o=>absurd o.2.2.1 (HA cO p' o.1 o.2.1)⟩⟩
   ·have R:=H (A rfl);obtain⟨p1,p2,⟨e0,e1,e2⟩,_⟩:=A.o rfl;have HE:=H (And.intro e0 (And.intro e1 e2));clear e0 e1 e2 A;by_cases hf:32768<g-a
    ·have a3:(32768:Int)<(g:Int)-a:=Y;clear hf;go_wp2;refine aK (v:=BG #[I U 0,I U 0]) oC rfl ⟨0,0,rfl,r,C1 ⟨rfl,rfl,λ_ p' o=>by rw[<-R.o.one o];omega⟩⟩
    ·have a3:¬(32768:Int)<(g:Int)-a:=Y;go_wp2_with fail;clear C D;go_loopw [2] (λn wr=>∃k:Nat,3<=k/\k<=258/\n=I U k/\g+k<=G f/\wt (∀c,c<k->nth f (g+c)=nth f (a+c))/\wm w2.heap.size w2 wr) (λn _=>258-(intOf n).toNat)
     case atStart=>
      refine⟨3,Y,Y,rfl,i,?_,ar _ _⟩;intro c hi;obtain⟨e0,e1,e2⟩:=HE.o;match c,hi with
      |0,_=>exact e0.s
      |1,_=>exact e1.s
      |2,_=>exact e2.s
     case round=>
      obtain⟨k,a5,a4,rfl,a0,S,bl⟩:=hrel;have P:=H (e.below bl);have C:=P.o.cells.1;have D:=P.o.cells.2.1;have bd:(k:Int)<=258:=Y;have l:wt ((k<258->g+k<G f->nth f (g+k)≠nth f (a+k))->wm w.heap.size w wr/\qm f g k (g-a)):=by intro a8;exact⟨r.t (bl.m r.size),C2 ⟨i,a,R,Y,rfl,a5,a4,a0,S,a8⟩⟩
      by_cases t1:k<258
      ·have ba:decide ((k:Int)<258)=CD:=eS;by_cases t2:g+k<G f
       ·have bb:decide ((g:Int)+k<G f)=CD:=eS;have W:=(bl.cell (p:=⟨b,ac+(g+k),N⟩) oT).t (Q (g+k) t2);have X:=(bl.cell (p:=⟨b,ac+(a+k),N⟩) oT).t (Q (a+k) Y);by_cases p:nth f (g+k)=nth f (a+k)
        ·have HT:wt (∀c,c<k+1->nth f (g+c)=nth f (a+c)):=by
          intro c hi;by_cases ao:c=k;·subst ao;exact p
          ·exact S c Y
         have q:((nth f (g+k):Int)==(nth f (a+k):Int))=CD:=by simp[p]
         generalize nth f (g+k)=ad at W q;generalize nth f (a+k)=al at X q;clear p;go_wp2_with fail;go_quiet (fail);go_wp2;go_roundw
         case rel=>exact⟨k+1,Y,Y,by go_num,Y,HT,ud bl _⟩
         case measure=>exact eT
        ·have q:((nth f (g+k):Int)==(nth f (a+k):Int))=CS:=eS;have d:wt (k<258->g+k<G f->nth f (g+k)≠nth f (a+k)):=λ_ _=>p;generalize nth f (g+k)=ad at W q;generalize nth f (a+k)=al at X q;clear p;go_wp2_with fail;go_quiet (fail);go_wp2_with fail;go_quiet (fail);go_wp2;rw[show(g:Int)-a=((g-a:Nat):Int)by omega];refine aK (v:=BG #[I U k,I U (g-a:Nat)]) oC rfl ⟨k,g-a,rfl,ud (ud (l d).1 _) _,(l d).2⟩
       ·have bb:decide ((g:Int)+k<G f)=CS:=eS;have d:wt (k<258->g+k<G f->nth f (g+k)≠nth f (a+k)):=λ_ _=>Y;go_wp2_with fail;go_quiet (fail);go_wp2_with fail;go_quiet (fail);go_wp2;rw[show(g:Int)-a=((g-a:Nat):Int)by omega];refine aK (v:=BG #[I U k,I U (g-a:Nat)]) oC rfl ⟨k,g-a,rfl,ud (ud (l d).1 _) _,(l d).2⟩
      ·have ba:decide ((k:Int)<258)=CS:=eS;have d:wt (k<258->g+k<G f->nth f (g+k)≠nth f (a+k)):=λ_ _=>Y;go_wp2_with fail;go_quiet (fail);go_wp2_with fail;go_quiet (fail);go_wp2;rw[show(g:Int)-a=((g-a:Nat):Int)by omega];refine aK (v:=BG #[I U k,I U (g-a:Nat)]) oC rfl ⟨k,g-a,rfl,ud (ud (l d).1 _) _,(l d).2⟩)
 ·have x:=H h;clear h
  go_in
  go_wp2_with (go_at_call 311;apply(H_ x CS (av i)).m;rintro E w1 ⟨rfl,M,rfl⟩);refine aK (v:=BG #[I U 0,I U 0]) oC rfl ⟨0,0,rfl,⟨rfl,rfl,rfl,ag _,λ_ _=>rfl⟩,C1 ⟨rfl,rfl,λbc=>absurd bc i⟩⟩
end
section
variable{w:vz}{B cap:Nat}{ao:Option wT}
def kw(b:List Nat):Nat->Nat->Nat
 |0,a=>a
 |c+1,a=>if a<G b/\a<128/\nth b a=nth b 0 then kw b c (a+1)else a
def iQ(a:List Nat):Nat:=kw a 128 1
def lM(b:List Nat):Nat->Nat->Nat
 |0,a=>a
 |c+1,a=>if a<G b/\a<128/\¬(a+1<G b/\nth b a=nth b (a+1))then lM b c (a+1)else a
def jF(a:List Nat):Nat:=lM a 129 0
def js:Nat->List Nat->List Nat
 |0,_=>[128]
 |b+1,a=>if (G a)=0 then[128]else if 1<iQ a then(257-iQ a)::nth a 0::js b (a.drop (iQ a))else(jF a-1)::(a.take (jF a)++js b (a.drop (jF a)))
def je(a:List Nat):List Nat:=js (G a+1) a
def xQ(b:List Nat):∀c a,a<=128->a<=G b->a<=kw b c a/\kw b c a<=128/\kw b c a<=G b
 |0,a,d,e=>⟨ag _,d,e⟩
 |c+1,a,d,e=>by
  unfold kw;split
  ·rename_i f;have:=xQ b c (a+1) Y Y;omega
  ·exact⟨ag _,d,e⟩
def rK(b:List Nat):∀d c,(∀a,a<c->nth b a=nth b 0)->∀a,a<kw b d c->nth b a=nth b 0
 |0,c,h=>h
 |d+1,c,h=>by
  unfold kw;split
  ·rename_i e;exact rK b d (c+1) (λa g=>by
    by_cases f:a=c;·subst f;exact e.2.2
    ·exact h a Y)
  ·exact h
def zO(b:List Nat):∀c a,a<=128->a<=G b->a<=lM b c a/\lM b c a<=128/\lM b c a<=G b
 |0,a,d,e=>⟨ag _,d,e⟩
 |c+1,a,d,e=>by
  unfold lM;split
  ·rename_i f;have:=zO b c (a+1) Y Y;omega
  ·exact⟨ag _,d,e⟩
def ny(a:List Nat)(h:0<G a):1<=iQ a/\iQ a<=128/\iQ a<=G a:=xQ a 128 1 Y h
def nW(a:List Nat)(h:0<G a)(d:¬1<iQ a):1<=jF a/\jF a<=128/\jF a<=G a:=by
 have c:¬(0+1<G a/\nth a 0=nth a (0+1)):=by rintro⟨e,b⟩;apply d;unfold iQ;rw[kw,ak ⟨Y,Y,b.s⟩];have:=xQ a 127 (1+1) Y Y;omega
 unfold jF;rw[lM,ak ⟨h,Y,c⟩];have:=zO a 128 (0+1) Y Y;omega
def pO(a:List Nat)(b:Nat):Prop:=b+1<G a/\nth a b=nth a (b+1)
def RZ{a:List Nat}(f:qi w B ao a)(o:G a<=1000000)(c:Nat)(j:pO a c):wh DG 201 #[Z ao (G a) cap,I U c] w λh l=>h=BX (Bs CD)/\∃k,l=w.drewN k:=by
 obtain⟨i,e⟩:=j;obtain⟨b,p,rfl,_,d⟩:=f.at Y;have g:=d c Y;have n:=d (c+1) i;rw[e]at g;have q:decide ((c:Int)+1<G a)=CD:=eS;generalize nth a (c+1)=m at *;clear d f e
 go_in
 go_wp2_with fail;go_quiet (fail);go_wp2;go_ret;exact⟨rfl,nq,rfl⟩
def RY{a:List Nat}(g:qi w B ao a)(q:G a<=1000000)(c:Nat)(r:c<G a)(h:¬pO a c):wh DG 201 #[Z ao (G a) cap,I U c] w λd l=>d=BX (Bs CS)/\∃j,l=w.drewN j:=by
 by_cases f:c+1<G a
 ·have i:nth a c≠nth a (c+1):=λd=>h ⟨f,d⟩;obtain⟨b,s,rfl,_,e⟩:=g.at Y;have o:=e c Y;have p:=e (c+1) f;have k:decide ((c:Int)+1<G a)=CD:=eS;have t:((nth a c:Int)==(nth a (c+1):Int))=CS:=eS;generalize nth a (c+1)=m at *;generalize nth a c=n at *;clear e g i h
  go_in
  go_wp2_with fail;go_quiet (fail);go_wp2;go_ret;exact⟨rfl,nq,rfl⟩
 ·have k:decide ((c:Int)+1<G a)=CS:=eS
  go_in
  go_wp2_with fail;go_quiet (fail);go_wp2;go_ret;exact⟨rfl,nq,rfl⟩
def Eu{a:List Nat}{k:Nat}(b:k<=128)(h:k<G a/\k<128/\nth a k=nth a 0):kw a (129-k) k=kw a (129-(k+1)) (k+1):=by rw[show 129-k=(129-(k+1))+1 by omega,kw,ak h]
def FI{a:List Nat}{k:Nat}(b:k<=128)(h:¬(k<G a/\k<128/\nth a k=nth a 0)):kw a (129-k) k=k:=by rw[show 129-k=(128-k)+1 by omega,kw,aj h]
def DS{a:List Nat}{k:Nat}(b:k<=128)(h:k<G a/\k<128/\¬pO a k):lM a (129-k) k=lM a (129-(k+1)) (k+1):=by unfold pO at h;rw[show 129-k=(129-(k+1))+1 by omega,lM,ak h]
def Fv{a:List Nat}{k:Nat}(b:k<=128)(h:¬(k<G a/\k<128/\¬pO a k)):lM a (129-k) k=k:=by unfold pO at h;rw[show 129-k=(128-k)+1 by omega,lM,aj h]
def S8{a:List Nat}(s:qi w B ao a)(J:G a<=1000000)(E:B<=w.heap.size)(i:0<G a):wh DG 145 #[Z ao (G a) cap] w λz D=>z=BX (I U (iQ a:Nat))/\wm w.heap.size w D:=by
 have n:wt (kw a (129-1) 1=iQ a):=H rfl;generalize iQ a=v at *;obtain⟨b,t,rfl,F,r⟩:=s.at i;have m:=H r;clear r s
 go_in
 go_wp2;go_loopw [3] (λj wr=>∃k:Nat,1<=k/\k<=128/\k<=G a/\j=I U k/\wt (kw a (129-k) k=v)/\wm w.heap.size w wr) (λj _=>128-(intOf j).toNat)
 case atStart=>exact⟨1,Y,Y,i,rfl,n,ar _ _⟩
 clear n
 case round=>
  obtain⟨k,K,h,L,rfl,c,bl⟩:=hrel;by_cases l:k<G a
  ·have A:decide ((k:Int)<G a)=CD:=eS;by_cases u:k<128
   ·have C:decide ((k:Int)<128)=CD:=eS;have o:=(bl.cell (p:=⟨b,t+k,N⟩) oT).t (m k l);have q:=(bl.cell (p:=⟨b,t,N⟩) oT).t (m 0 i);by_cases f:nth a k=nth a 0
    ·have d:=H ((Eu h ⟨l,u,f⟩).s.t c);have g:((nth a k:Int)==(nth a 0:Int))=CD:=by simp[f]
     generalize nth a k=x at o g;generalize nth a 0=y at q g;clear f c;go_wp2_with fail;go_quiet (fail);go_wp2;go_roundw
     case rel=>exact⟨k+1,Y,Y,Y,by go_num,d,ud bl _⟩
     case measure=>exact eT
    ·have d:=H ((FI h (λe=>f e.2.2)).s.t c);have g:((nth a k:Int)==(nth a 0:Int))=CS:=eS;generalize nth a k=x at o g;generalize nth a 0=y at q g;clear f c;go_wp2_with fail;go_quiet (fail);go_wp2;go_ret;exact⟨ri (by rw[d.o]),ud bl _⟩
   ·have d:=H ((FI h (λe=>u e.2.1)).s.t c);have C:decide ((k:Int)<128)=CS:=eS;clear c;go_wp2_with fail;go_quiet (fail);go_wp2;go_ret;exact⟨ri (by rw[d.o]),ud bl _⟩
  ·have d:=H ((FI h (λe=>l e.1)).s.t c);have A:decide ((k:Int)<G a)=CS:=eS;clear c;go_wp2_with fail;go_quiet (fail);go_wp2;go_ret;exact⟨ri (by rw[d.o]),ud bl _⟩
def Q_{a:List Nat}(n:qi w B ao a)(p:G a<=1000000)(z:B<=w.heap.size):wh DG 146 #[Z ao (G a) cap] w λh x=>h=BX (I U (jF a:Nat))/\wm w.heap.size w x:=by
 have m:wt (lM a (129-0) 0=jF a):=H rfl;generalize jF a=s at *;have r:=H n;clear n
 go_in
 go_wp2;go_loopw [3] (λi wr=>∃k:Nat,k<=128/\k<=G a/\i=I U k/\wt (lM a (129-k) k=s)/\wm w.heap.size w wr) (λi _=>128-(intOf i).toNat)
 case atStart=>exact⟨0,Y,Y,rfl,m,ar _ _⟩
 clear m
 case round=>
  obtain⟨k,f,A,rfl,b,bl⟩:=hrel;have l:=H (r.below bl);by_cases j:k<G a
  ·have u:(k:Int)<G a:=Y;by_cases q:k<128
   ·have v:(k:Int)<128:=Y;by_cases d:pO a k
    ·have c:=H ((Fv f (λe=>e.2.2 d)).s.t b);have g:=H d;clear d b;go_wp2_with fail;apply(RZ l p k g).m;rintro h y ⟨rfl,t,rfl⟩;go_wp2;go_ret;exact⟨ri (by rw[c.o]),ud bl _⟩
    ·have c:=H ((DS f ⟨j,q,d⟩).s.t b);have g:=H d;clear d b;go_wp2_with fail;apply(RY l p k j g).m;rintro h y ⟨rfl,t,rfl⟩;go_wp2;go_roundw
     case rel=>exact⟨k+1,Y,Y,by go_num,c,ud bl _⟩
     case measure=>exact eT
   ·have c:=H ((Fv f (λe=>q e.2.1)).s.t b);have v:¬(k:Int)<128:=Y;clear b;go_wp2;go_ret;exact⟨ri (by rw[c.o]),bl⟩
  ·have c:=H ((Fv f (λe=>j e.1)).s.t b);have u:¬(k:Int)<G a:=Y;clear b;go_wp2;go_ret;exact⟨ri (by rw[c.o]),bl⟩
end
section
variable{w z:vz}{B j f s u l T:Nat}{data:List Nat}{v:Option wT}{m:List Bool}{d:Nat}{A:List wg}
def oV.later{c b:Nat}(h:oV w f data c)(P:c<=b)(e:∀a,a+3<=G data->a<b->a<c):oV w f data b:=by obtain⟨o,k,p,q,t,x⟩:=h;refine⟨o,k,p,λn y=>?_,λa K g=>t a (e a g K) g,x⟩;obtain⟨C,D,Q,E,F,J⟩:=q n y;exact⟨C,D,Y,E,F,λr L M i=>J r L (e r i M) i⟩
def oV.other{a:Nat}(h:oV w f data a)(i:z.heap[f]?=w.heap[f]?):oV z f data a:=by obtain⟨c,b,e,g⟩:=h;exact⟨c,b,i.t e,g⟩
def kD.other{a:Nat}{b:List (Nat×Nat)}(h:kD w a b)(i:z.heap[a]?=w.heap[a]?):kD z a b:=by obtain⟨c,e,g⟩:=h;exact⟨c,i.t e,g⟩
def Wx.next{a:wg}{q g:Nat}{r:List wg}(h:Wx B j T (a::I U q::r) w m):Wx B j T (a::I U g::r) (w.setCell ⟨j,3,N⟩ (I U g)) m:=by
 obtain⟨o,n,p,⟨i,b,c,e⟩,k⟩:=h;refine⟨o,n,p,⟨i,b,?_,?_⟩,k⟩;·rw[nu _ c];simp
 ·exact bJ e (xM e c b) _
def Wx.other(h:Wx B j T A w m)(e:∀(k:Nat) (a:Array wg) (g:TypeId) (c:Nat×Nat),w.heap[k]?=O (Obj.cells a g c)->z.heap[k]?=O (Obj.cells a g c)):Wx B j T A z m:=by
 obtain⟨D,C,E,⟨o,p,q,r,b⟩,t⟩:=h;refine⟨D,C,E,⟨o,p,e _ _ _ _ q,r,?_⟩,t⟩;rcases b with b|⟨n,a,i,e1,e2,y,x⟩;·exact C1 b
 ·exact C2 ⟨n,a,i,e1,e2,e _ _ _ _ y,x⟩
def De.ne(h:De B j f s u l data v w m d):f≠j/\s≠j/\u≠j/\f<w.heap.size:=by
 obtain⟨y,x,C,⟨p,q,a,r⟩,t⟩:=h.wx;obtain⟨o,n,c,_⟩:=h.st;obtain⟨i,e,_⟩:=h.r1;obtain⟨k,g,_⟩:=h.r2;refine⟨λb=>?_,λb=>?_,λb=>?_,ap c⟩;·subst b;rw[c]at a;cases a
 ·subst b;rw[e]at a;simp at a
 ·subst b;rw[g]at a;simp at a
def De.go(h:De B j f s u l data v w m d)(a:d<G data)(n:¬d+3<=G data):De B j f s u l data v (w.setCell ⟨j,3,N⟩ (I U (d+1:Nat))) m (d+1)/\Kept 5 B [j,f] w (w.setCell ⟨j,3,N⟩ (I U (d+1:Nat))):=by obtain⟨b,c,e,_⟩:=h.ne;obtain⟨_,_,_,_,_,g,_⟩:=h.cells;exact⟨⟨h.wx.next,h.dat.other (λk i=>lK _ Y),h.byt,h.len,h.lc,a,(h.st.later Y (λo _ _=>Y)).other (lK _ b),h.r1.other (lK _ c),h.r2.other (lK _ e),h.hbm⟩,(Kept.refl _ _ _ _).setCell cO _⟩
def De.upd(h:De B j f s u l data v w m d)(a:d+3<=G data):∃b,(Instr.mapUpdate 191 (.map (O f)) (lY (nth data d) (nth data (d+1)) (nth data (d+2))) (I U d)).run DG w=.ok () b/\b.cell? ⟨j,3,N⟩=O (I U d)/\b.frozen? ⟨j,3,N⟩=CS /\
   De B j f s u l data v (b.setCell ⟨j,3,N⟩ (I U (d+1:Nat))) m (d+1)/\Kept 5 B [j,f] w (b.setCell ⟨j,3,N⟩ (I U (d+1:Nat))):=by
 obtain⟨c,Q,M⟩:=h.st.put h.byt a;obtain⟨S,V,W,n4⟩:=h.ne;obtain⟨ad,ac,R,_⟩:=h.st;have t:∀k,k≠f->({ w with heap:=w.heap.setIfInBounds f c }:vz).heap[k]?=w.heap[k]?:=λk a=>dB (λo=>a o.s);have r:∀(k:Nat) (g:Array wg) (C:TypeId) (p:Nat×Nat),w.heap[k]?=O (Obj.cells g C p)->({ w with heap:=w.heap.setIfInBounds f c }:vz).heap[k]?=O (Obj.cells g C p):=by intro k g C p q;rw[t k (λo=>by subst o;rw[R]at q;cases q)];exact q
 refine⟨_,Q,?_⟩;have P:({ w with heap:=w.heap.setIfInBounds f c }:vz).heap.size=w.heap.size:=fZ;have E:Kept 5 B [j,f] w { w with heap:=w.heap.setIfInBounds f c }:=⟨rfl,rfl,rfl,Nat.le_of_eq P.s,λk ao a J _=>by rw[t k (by simp at a;exact a.2)];exact J⟩;generalize ({ w with heap:=w.heap.setIfInBounds f c }:vz)=b at *;have y:=h.wx.other r;obtain⟨_,_,_,_,_,al,_⟩:=h.cells;have D:=h.hbm;have K:kD b s lh:=by obtain⟨e,i,n⟩:=h.r1;exact⟨e,r _ _ _ _ i,n⟩
 have L:kD b u mw:=by obtain⟨e,i,n⟩:=h.r2;exact⟨e,r _ _ _ _ i,n⟩
 have F:=h.dat.other (λk a=>t k Y);refine⟨?_,?_,⟨y.next,F.other (λk a=>lK _ Y),h.byt,h.len,h.lc,Y,M.other (lK _ S),K.other (lK _ V),L.other (lK _ W),D⟩,E.setCell cO _⟩
 ·obtain⟨ov,X,aa,x,_⟩:=y;rw[cb x.blk];simp
 ·obtain⟨ov,X,aa,x,_⟩:=y;exact pA x.blk
def Kept.thenBelow{g B:Nat}{a:List Nat}{c b e:vz}(h:Kept g B a c b)(k:wm b.heap.size b e):Kept g B a c e:=
 h.t ⟨k.os,k.tape,k.output,k.size,λn o _ i _=>by rw[k.block n (ap i)];exact i⟩
def De.drewN(h:De B j f s u l data v w m d)(a:Nat):De B j f s u l data v (w.drewN a) m d:=h.below (ud (ar _ _) a)
def GW(c:Nat)(h:De B j f s u l data v w m d)(hn:d+c<=G data):wh DG 264 #[A3 (O ⟨j,0,N⟩),I U c] w λq z=>q=BX (BG #[])/\De B j f s u l data v z m (d+c)/\Kept 5 B [j,f] w z:=by
 have a0:=h.len
 go_in
 go_wp2;go_loopw [5] (λD wr=>∃k:Nat,k<=c/\D=I U k/\De B j f s u l data v wr m (d+k)/\Kept 5 B [j,f] w wr) (λD _=>c-(intOf D).toNat)
 case atStart=>exact⟨0,aw _,rfl,h,Kept.refl _ _ _ _⟩
 clear h
 case round=>
  obtain⟨k,hk,rfl,P,n⟩:=hrel;have a:=H P;clear P;by_cases a1:k<c
  ·have F:wt (∀b,d+k=b->d+(k+1)=b+1):=λb y=>Y;generalize y:d+k=b at *;have J:=H (F b rfl);have aa:b<G data:=Y;clear F;by_cases i:b+3<=G data
   ·clear y;go_wp2_with (go_at_call 311;apply(H_ a CD (aH i)).m;rintro q E ⟨rfl,e,rfl⟩);have g:=H (a.drewN e);have t:=H (n.drewN e);generalize C:wr.drewN e=E at *;clear C n a;obtain⟨W,L,X,_,_,ao,a2,_⟩:=g.o.cells;have r:=H (g.below (ar _ _).drew);go_region_with (go_at_call 312;apply(Mk r i).m;rintro q w2 ⟨rfl,x⟩;have p:=H (r.below x);have ac:=p.o.cells.2.1;have ad:=p.o.cells.2.2.1;obtain⟨w3,al,d3,f3,M,Q⟩:=p.o.upd i;have S:=H M;have V:=H Q;clear M Q);all_goals (clear al ac ad W L X r g p;have R:=H x;clear x;go_wp2)
    all_goals (
     go_roundw
     case rel=>exact⟨k+1,Y,by go_num,by rw[J.o];exact S,(Kept.thenBelow (Kept.thenBelow t (ar _ _).drew) R).t V⟩
     case measure=>exact eT)
   ·clear y;go_wp2_with (go_at_call 311;apply(H_ a CS (av i)).m;rintro q E ⟨rfl,e,rfl⟩;have g:=H (a.drewN e);have t:=H (n.drewN e);generalize C:wr.drewN e=E at *;clear C n a;obtain⟨_,L,_,_,_,_,_,f3⟩:=g.o.cells);have K:=H (g.go aa i);go_roundw
    case rel=>exact⟨k+1,Y,by go_num,by rw[J.o];exact K.1,t.t K.2⟩
    case measure=>exact eT
  ·obtain rfl:k=c:=Y;go_wp2
   go_end0
   exact⟨rfl,a,n⟩
end
section
variable{w:vz}{B f cap T:Nat}{a:List Nat}{d:Option wT}{c:List Bool}{g:List wg}
def qi.kept{e:List Nat}{i:vz}(h:qi w B d a)(k:Kept 5 B e w i)(l:∀p∈e,B<=p):qi i B d a:=by intro n m;obtain⟨b,o,e1,e2,j⟩:=h n m;exact⟨b,o,e1,e2,k.cell l e2 j⟩
def MC{e:List Nat}(h:∀b,b<G e->nth e b<256):∀j∈e,j<256:=by intro j k;obtain⟨b,i,rfl⟩:=cF k;have:=h b i;simpa[nth,i]using this
def Nq(h:Wx B f 190 [] w c)(j:Nat)(ba:j<=1)(Q:qi w B d a)(F:∀W,W<G a->nth a W<256)(len:G a<=65535)(t:d=N->cap=0)(hl:G c<=4000000):wh DG 206 #[A3 (O ⟨f,0,N⟩),I U j,Z d (G a) cap] w λm w'=>m=BX (BG #[]) /\
   Wx B f 190 [] w' (c++gg 1 j++gg 2 0++DJ ((8-(c++gg 1 j++gg 2 0).length%8)%8) CS++gg 16 (G a)++gg 16 (65535-G a)++gH a)/\Kept 5 B [f] w w':=by
 obtain⟨X,V,a3,a4,a5⟩:=bR infoByte;have ao:B<=f:=by obtain⟨_,_,_,i,_⟩:=h;exact i.hb
 have A:=H Q;have ac:=H F;clear Q F
 go_in
 go_wp2_with fail;apply(E9 h j 1 Y Y Y).m;rintro m w1 ⟨rfl,J,k1⟩;go_wp2_with fail;apply(E9 J 0 2 Y Y pI).m;rintro m w2 ⟨rfl,K,k2⟩;go_wp2_with fail;apply(TU K).m;rintro m w3 ⟨rfl,L,k3⟩;have bb:(c++gg 1 j++gg 2 0++DJ ((8-(c++gg 1 j++gg 2 0).length%8)%8) CS).length<=4000100/\(c++gg 1 j++gg 2 0++DJ ((8-(c++gg 1 j++gg 2 0).length%8)%8) CS).length%8=0:=by simp only[ab,gM,bj];omega
 generalize P:c++gg 1 j++gg 2 0++DJ ((8-(c++gg 1 j++gg 2 0).length%8)%8) CS=r at *;have z:=H P;clear P;have kk:=(k1.t k2).t k3;clear h J K k1 k2 k3;go_wp2_with fail;apply(E9 L (G a) 16 Y Y Y).m;rintro m w4 ⟨rfl,M,k4⟩;go_wp2_with fail;rw[show(65535:Int)-(G a:Int)=((65535-G a:Nat):Int)by omega];apply(E9 M (65535-G a) 16 Y Y pI).m;rintro m w5 ⟨rfl,h5,k5⟩;have v:=(kk.t k4).t k5;clear kk k4 k5 L M;have al:(r++gg 16 (G a)++gg 16 (65535-G a)).length<=4000200/\(r++gg 16 (G a)++gg 16 (65535-G a)).length%8=0:=by simp only[ab,gM];omega
 obtain⟨ov,l,a9,i,p⟩:=h5;generalize R:r++gg 16 (G a)++gg 16 (65535-G a)=ds at *;have D:=H R;clear R;have bc:G l<=600000:=by have:=Hq p;omega
 obtain rfl:a9=0:=by rw[<-p.2.1];exact al.2
 have C:=H (A.kept v (by simpa using ao));have y:=H (p.bytes a (MC ac));have c0:=i.c0;have bd:=i.sz;have E:=H v;clear v p A;cases d with
 |none=>
  obtain rfl:=t rfl;have h0:a=[]:=by
   cases a0:a with
   |nil=>rfl
   |cons x xs=>obtain⟨b,a7,e1,_⟩:=C.o 0 (by rw[a0];simp);cases e1
  subst h0;have f0:=i.fz 0;obtain⟨n,o,rfl⟩:=ke i.own;have e:=H i;clear i t;go_wp2_with (at_builtin;refine wpList_append_own_none rfl (.tmp 26) (.tmp 27) 23 rfl B 5 X 1 az V (Z n (G l) o) (G l) _ rfl e.o.own rfl ?_)
  go_end0
  refine⟨rfl,?_,(E).setCell cO _⟩;rw[z.o,D.o];refine⟨Z n (G l) o,l++[],0,⟨e.hb,e.hT,?_,?_⟩,y⟩;·rw[nu _ e.o.blk];simp
  ·rw[bP];exact bJ e.o.own (xM e.o.own e.blk e.hT) _
 |some ad=>
  have e:=H i;obtain⟨n,o,rfl⟩:=ke i.own;clear i t;go_wp2_with (at_builtin;refine aX _ rfl (.tmp 26) (.tmp 27) 23 rfl B 5 X (I .u8 0) 1 1 az V a3 a4 a5 rfl bF (Z n (G l) o) (G l) _ rfl e.o.own ad (G a) cap (a.map λx:Nat=>I .u8 (x:Int)) rfl cO ?hnews ?hone ?h63 ?hby ?hbs ?_)
  case hnews=>intro a6 a8 q;obtain⟨s,rfl⟩:=ay.1 q;rw[aq]at s;obtain⟨b,a7,e1,_,e3⟩:=C.o a6 s;cases e1;rw[I4,e3];simp[nth,s]
  case hone=>intro a8 q;simp at q;obtain⟨x,_,rfl⟩:=q;rfl
  case h63=>unfold maxLen;omega
  case hby=>omega
  case hbs=>omega
  intro v' w6 u S _;obtain⟨a2,c2,rfl⟩:=ke u;obtain⟨aa,k,d0,f0⟩:=e.o.app (xs:=a) (by simpa using u) S;have Q6:=H aa;have K6:=H k;clear u S aa k;go_wp2
  go_end0
  refine⟨rfl,?_,E.t K6⟩;rw[z.o,D.o];exact⟨_,l++a,0,Q6,y⟩
end
section
variable{w:vz}{B cap:Nat}{ao:Option wT}{c:List Nat}
def Sj{b:Nat}{a:List Nat}(d:0<G a)(h:1<iQ a):js (b+1) a=(257-iQ a)::nth a 0::js b (a.drop (iQ a)):=by rw[js,aj Y,ak h]
def J8{b:Nat}{a:List Nat}(d:0<G a)(h:¬1<iQ a):js (b+1) a=(jF a-1)::(a.take (jF a)++js b (a.drop (jF a))):=by rw[js,aj Y,aj h]
def Si{a:Nat}{b:List Nat}(d:G b=0):js a b=[128]:=by
 cases a with
 |zero=>rfl
 |succ a=>rw[js,ak d]
def sL:wg->Nat
 | Z _ a _=>a
 |_=>0
def zU{w:vz}{f:Nat}{d:Int}(g:d=f):∀b e,([f].map λd:Nat=>I .u8 (d:Int))[b]?=O e->(w.alloc (BV #[I .u8 d] 5)).cell? ((⟨w.heap.size,0,N⟩:wT).add b)=O e:=by
 subst g;intro b e a;match b,a with
 |0,a=>rw[sK,World.cell?_alloc_new];exact a
 |b+1,a=>simp at a
def Gn{w:vz}{g b:Nat}{e h:Int}(i:e=g)(j:h=b):∀d f,([g,b].map λe:Nat=>I .u8 (e:Int))[d]?=O f->(w.alloc (BV #[I .u8 e,I .u8 h] 5)).cell? ((⟨w.heap.size,0,N⟩:wT).add d)=O f:=by
 subst i j;intro d f a;match d,a with
 |0,a=>rw[sK,World.cell?_alloc_new];exact a
 |1,a=>rw[sK,World.cell?_alloc_new];exact a
 |d+2,a=>simp at a
def qi.drop{d:List Nat}{b a:Nat}(h:qi w B (O ⟨b,a,N⟩) d)(p:Nat):qi w B (O ⟨b,a+p,N⟩) (d.drop p):=by intro g f;rw[aU]at f;obtain⟨i,j,e1,e2,e⟩:=h (p+g) Y;cases e1;refine⟨b,a+p,rfl,e2,?_⟩;rw[eO,e];simp[nth,fK]
def qi.news{d:List Nat}{b g:Nat}(h:qi w B (O ⟨b,g,N⟩) d)(f:Nat)(n:f<=G d):∀a e,((d.take f).map λl:Nat=>I .u8 (l:Int))[a]?=O e->w.cell? ((⟨b,g,N⟩:wT).add a)=O e:=by intro a e k;obtain⟨j,rfl⟩:=ay.1 k;rw[aq,ax]at j;obtain⟨m,o,e1,_,i⟩:=h a Y;cases e1;rw[I4,i];simp[nth,af (show a<G d by omega)]
def P8{b k:Nat}(hd:qi w B (O ⟨b,k,N⟩) c)(hB:B<=w.heap.size)(bt:∀bd,bd<G c->nth c bd<256)(len:G c<=200000)(lc:G c<=cap/\cap<=9223372036854775807):wh DG 103 #[Z (O ⟨b,k,N⟩) (G c) cap] w λac w'=>∃M,ac=BX M/\w'.ownsRow B 5 1 M (je c).length ((je c).map λi:Nat=>I .u8 (i:Int))/\Kept 5 B [] w w':=by
 obtain⟨L,E,F,J,K⟩:=bR infoByte;have HR:wt (js (G c+1) (c.drop 0)=je c):=H rfl;have HD:=H hd;generalize je c=bs at *;clear hd bt
 go_in
 go_wp2;go_loopw [0,3] (λaa M wr=>∃(a m:Nat) (e:List Nat) (pt:wT),a<=G c/\G c-a<m/\aa=Z (O pt) (G c-a) (cap-a)/\(a<G c->pt=⟨b,k+a,N⟩)/\wt (e++js m (c.drop a)=bs)/\G e<=2*a/\wr.ownsRow B 5 1 M (G e) (e.map λi:Nat=>I .u8 (i:Int))/\Kept 5 B [] w wr) (λaa _ _=>sL aa)
 case atStart=>exact⟨0,G c+1,[],⟨b,k,N⟩,Y,Y,rfl,λ_=>rfl,HR,cO,bI _ _ _ _,Kept.refl _ _ _ _⟩
 clear HR
 case round=>
  obtain⟨a,m,e,pt,hp,hf,rfl,bx,y,b5,hr,kk⟩:=hrel;obtain⟨X,c0,rfl⟩:=ke hr;have v:=H hr;have C:=H kk;have b6:=kk.size;clear hr kk;by_cases hz:a<G c
  ·obtain⟨l,rfl⟩:∃l,m=l+1:=⟨m-1,Y⟩;obtain rfl:=bx hz;have R:=H ((HD.kept C cO).drop a);have ad:G c-a=(c.drop a).length:=by rw[aU]
   have a6:wt (∀n,(c.drop a).drop n=c.drop (a+n)):=λn=>by rw[eq]
   rw[ad];generalize c.drop a=d at *;have a7:=H ad;have o:0<G d:=Y;have b4:G d<=200000:=Y;have b3:G d<=cap-a:=Y;clear ad;have a9:=H (ny d o);have ba:=H (S8 (cap:=cap-a) R Y Y o);have T:wt (1<iQ d->js (l+1) d=(257-iQ d)::nth d 0::js l (d.drop (iQ d))):=λh=>Sj o h;have V:wt (¬1<iQ d->(1<=jF d/\jF d<=128/\jF d<=G d)/\js (l+1) d=(jF d-1)::(d.take (jF d)++js l (d.drop (jF d)))):=λh=>⟨nW d o h,J8 o h⟩;generalize iQ d=g at *;go_wp2_with fail;apply ba.o.m;rintro ac w1 ⟨rfl,q⟩;have p:=H (wK v q);have u:=H (R.below q);have z:=H (Kept.thenBelow C q);have b0:B<=w1.heap.size:=by have:=q.size;omega
   clear v C q ba R;by_cases hs:1<g
   ·have bz:(1:Int)<g:=Y;obtain⟨s1,s2,s3⟩:=a9.o;have S:=H (T hs);have d0:w1.cell? ⟨b,k+a,N⟩=O (I .u8 (nth d 0:Nat)):=by obtain⟨b',o',e1,_,e3⟩:=u.o 0 o;cases e1;exact e3
    clear T V a9;generalize nth d 0=bb at *;go_wp2_with (at_builtin;refine aX _ rfl (.tmp 12) (.tmp 19) 23 rfl B 5 L (I .u8 0) 1 1 az E F J K rfl bF (Z X (G e) c0) (G e) _ rfl (p.alloc _) ⟨w1.heap.size,0,N⟩ 2 2 ([257-g,bb].map λi:Nat=>I .u8 (i:Int)) rfl rfl ?hnews ?hone ?h63 ?hby ?hbs ?_)
    case hnews=>exact Gn Y rfl
    case hone=>intro a5 j;simp at j;rcases j with rfl|rfl<;>rfl
    case h63=>unfold maxLen;omega
    case hby=>omega
    case hbs=>simp;omega
    intro P Q t s _;have A:=H ((z.alloc _).grown s (oQ (p.alloc _)));have bm:=H t;obtain⟨a2,c2,rfl⟩:=ke t;clear t s p z;go_wp2;go_roundw
    case rel=>
     have hL:=a7.o;refine⟨a+g,l,e++[257-g,bb],if cap-a=g then⟨b,k+a,N⟩else⟨b,k+a+g,N⟩,Y,Y,?_,?_,?_,?_,?_,A⟩
     ·rw[show (G c)-(a+g)=G d-g by omega,show cap-(a+g)=cap-a-g by omega];split<;>rfl
     ·intro bw;rw[aj Y,eO]
     ·rw[<-a6.o,<-y.o,S.o,au];rfl
     ·rw[ab];show _+2<=_;omega
     ·rw[aI,ab];exact bm
    case measure=>simp[sL];omega
   ·have bz:¬(1:Int)<g:=Y;obtain⟨⟨m1,m2,m3⟩,hE⟩:=V.o hs;have S:=H hE;have a8:=H (Q_ (cap:=cap-a) u Y b0);clear T V hE;generalize jF d=f at *;go_wp2_with fail;apply a8.o.m;rintro ac Q ⟨rfl,r⟩;have x:=H (wK p r);have bf:=H (u.below r);have A:=H (Kept.thenBelow z r);have b7:B<=Q.heap.size:=by have:=r.size;omega
    clear p z r a8 u;have tok:True:=trivial;go_wp2_with (at_builtin;have _t:=tok;refine aX _ rfl (.tmp 23) (.tmp 27) 23 rfl B 5 L (I .u8 0) 1 1 az E F J K rfl bF (Z X (G e) c0) (G e) _ rfl (x.alloc _) ⟨Q.heap.size,0,N⟩ 1 1 ([f-1].map λi:Nat=>I .u8 (i:Int)) rfl rfl ?hnews ?hone ?h63 ?hby ?hbs ?_;clear tok)
    case hnews=>exact zU Y
    case hone=>intro a5 j;simp at j;subst j;rfl
    case h63=>unfold maxLen;omega
    case hby=>omega
    case hbs=>simp;omega
    intro P w3 al D _;have K3:=H ((A.alloc _).grown D (oQ (x.alloc _)));have bh:=H ((bf.below ((ar _ _).alloc (ag _) _)).kept ((Kept.refl 5 B [] _).grown D (oQ (x.alloc _))) cO);have W:=H al;obtain⟨a3,c3,rfl⟩:=ke al;have b8:B<=w3.heap.size:=by have:=D.size;simp at this;omega
    clear al D x A;go_wp2_with (at_builtin;refine aX _ rfl (.tmp 29) (.tmp 32) 23 rfl B 5 L (I .u8 0) 1 1 az E F J K rfl bF (Z a3 (G e+1) c3) (G e+1) _ rfl W ⟨b,k+a,N⟩ f (cap-a) ((d.take f).map λi:Nat=>I .u8 (i:Int)) rfl (by rw[aq,ax];omega) ?hnews ?hone ?h63 ?hby ?hbs ?_)
    case hnews=>exact bh.news f m3
    case hone=>intro a5 j;obtain⟨i,_,rfl⟩:=cE.1 j;rfl
    case h63=>unfold maxLen;omega
    case hby=>omega
    case hbs=>omega
    intro P w4 a1 bc _;have K4:=H (K3.grown bc (oQ W));have br:=H a1;obtain⟨a4,c4,rfl⟩:=ke a1;clear a1 bc W K3;go_wp2;go_roundw
    case rel=>
     have hL:=a7.o;refine⟨a+f,l,e++[f-1]++d.take f,if cap-a=f then⟨b,k+a,N⟩else⟨b,k+a+f,N⟩,Y,Y,?_,?_,?_,?_,?_,K4⟩
     ·rw[show (G c)-(a+f)=G d-f by omega,show cap-(a+f)=cap-a-f by omega];split<;>rfl
     ·intro bw;rw[aj Y,eO]
     ·rw[<-a6.o,<-y.o,S.o,au,au];rfl
     ·rw[ab,ab,ax];show _+1+_<=_;omega
     ·have:=br.o;rw[aI,aI,ab,ab,ax,dQ m3,List.map_take,au];exact this
    case measure=>simp[sL];omega
  ·obtain rfl:a=G c:=Y;have bv:js m (c.drop (G c))=[128]:=Si cO;rw[bv]at y;rw[eJ];go_wp2_with (at_builtin;refine aX _ rfl (.tmp 37) (.tmp 38) 23 rfl B 5 L (I .u8 0) 1 1 az E F J K rfl bF (Z X (G e) c0) (G e) _ rfl (v.alloc _) ⟨wr.heap.size,0,N⟩ 1 1 ([128].map λi:Nat=>I .u8 (i:Int)) rfl rfl ?hnews ?hone ?h63 ?hby ?hbs ?_)
   case hnews=>exact zU rfl
   case hone=>intro a5 j;simp at j;subst j;rfl
   case h63=>unfold maxLen;omega
   case hby=>omega
   case hbs=>simp;omega
   intro P Q t s _;have k2:=(C.alloc _).grown s (oQ (v.alloc _));clear s;go_wp2;go_ret;refine⟨P,rfl,?_,k2⟩;rw[<-y.o,aI,ab];exact t
end
section
variable{w:vz}
def Nl(b c:Nat)(a:vz):(Instr.field 247 (sV (b,c)) 0).run DG a=.ok (I U (b:Nat)) a:=by kernel_rfl
def Mn(a:Nat->Nat×Nat)(b k:Nat)(h:b<(a (k+1)).1):i_ a b (k+1)=i_ a b k:=by rw[i_,ak h]
def Mo(a:Nat->Nat×Nat)(b k:Nat)(h:¬b<(a k).1):i_ a b k=k:=by
 cases k with
 |zero=>rfl
 |succ k=>rw[i_,aj h]
def JE(a:Nat)(E:3<=a)(F:a<=258)(w:vz):wh DG 265 #[I U a] w λd C=>d=BX (I U (jn a:Nat))/\wm w.heap.size w C:=by
 have m:wt (i_ gQ a 285=jn a):=H rfl;generalize jn a=g at *
 go_in
 go_wp2;go_loopw [3] (λl wr=>∃k:Nat,257<=k/\k<=285/\l=I U k/\wt (i_ gQ a k=g)/\wm w.heap.size w wr) (λl _=>(intOf l).toNat)
 case atStart=>exact⟨285,Y,Y,rfl,m,ar _ _⟩
 case round=>
  obtain⟨k,z,A,rfl,f,bl⟩:=hrel;have i:=H (Mq k z A wr);have n:wt (∀b c,gQ k=(b,c)->(a<b->257<k/\i_ gQ a (k-1)=g)/\(¬a<b->k=g)):=by
   intro b c y;have d:(gQ k).1=b:=by rw[y]
   refine⟨λx=>?_,λu=>?_⟩
   ·have v:257<k:=by
     rcases cW 257 k with q|q;·exact q
     ·obtain rfl:k=257:=Y;have:(gQ 257).1=3:=bF;omega
    refine⟨v,?_⟩;obtain⟨j,rfl⟩:∃j,k=j+1:=⟨k-1,Y⟩;rw[Nat.add_sub_cancel,<-Mn gQ a j (by rw[d];exact x)];exact f
   ·rw[<-f.o];exact(Mo _ _ _ (by rw[d];exact u)).s
  obtain⟨b,c,h⟩:∃b c,gQ k=(b,c):=⟨_,_,rfl⟩;rw[h]at i;have e:=n.o b c h;clear n f h m;have J:=Nl b c;by_cases r:a<b
  ·obtain⟨o,p⟩:=e.1 r;have s:=H p;have t:(a:Int)<b:=Y;clear e p;go_wp2_with fail;apply i.o.m;rintro d D ⟨rfl,B,rfl⟩;go_wp2;go_roundw
   case rel=>exact⟨k-1,Y,Y,by go_num,s,bl.alloc bl.size _⟩
   case measure=>exact eT
  ·have o:=H (e.2 r);have t:¬(a:Int)<b:=Y;clear e;go_wp2_with fail;apply i.o.m;rintro d D ⟨rfl,B,rfl⟩;go_wp2;go_ret;exact⟨by rw[o.o];rfl,bl.alloc bl.size _⟩
def Jb(a:Nat)(D:1<=a)(E:a<=32768)(w:vz):wh DG 268 #[I U a] w λd B=>d=BX (I U (h_ a:Nat))/\wm w.heap.size w B:=by
 have m:wt (i_ gF a 29=h_ a):=H rfl;generalize h_ a=g at *
 go_in
 go_wp2;go_loopw [3] (λl wr=>∃k:Nat,k<=29/\l=I U k/\wt (i_ gF a k=g)/\wm w.heap.size w wr) (λl _=>(intOf l).toNat)
 case atStart=>exact⟨29,Y,rfl,m,ar _ _⟩
 case round=>
  obtain⟨k,z,rfl,f,bl⟩:=hrel;have i:=H (Lm k z wr);have n:wt (∀b c,gF k=(b,c)->(a<b->0<k/\i_ gF a (k-1)=g)/\(¬a<b->k=g)):=by
   intro b c y;have d:(gF k).1=b:=by rw[y]
   refine⟨λx=>?_,λu=>?_⟩
   ·have v:0<k:=by
     rcases cW 0 k with q|q;·exact q
     ·obtain rfl:k=0:=Y;have:(gF 0).1=1:=bF;omega
    refine⟨v,?_⟩;obtain⟨j,rfl⟩:∃j,k=j+1:=⟨k-1,Y⟩;rw[Nat.add_sub_cancel,<-Mn gF a j (by rw[d];exact x)];exact f
   ·rw[<-f.o];exact(Mo _ _ _ (by rw[d];exact u)).s
  obtain⟨b,c,h⟩:∃b c,gF k=(b,c):=⟨_,_,rfl⟩;rw[h]at i;have e:=n.o b c h;clear n f h m;have F:=Nl b c;by_cases r:a<b
  ·obtain⟨o,p⟩:=e.1 r;have s:=H p;have t:(a:Int)<b:=Y;clear e p;go_wp2_with fail;apply i.o.m;rintro d C ⟨rfl,A,rfl⟩;go_wp2;go_roundw
   case rel=>exact⟨k-1,Y,by go_num,s,bl.alloc bl.size _⟩
   case measure=>exact eT
  ·have o:=H (e.2 r);have t:¬(a:Int)<b:=Y;clear e;go_wp2_with fail;apply i.o.m;rintro d C ⟨rfl,A,rfl⟩;go_wp2;go_ret;exact⟨by rw[o.o];rfl,bl.alloc bl.size _⟩
end
section
variable{w:vz}{B b j k l g T:Nat}{d:List Nat}{i:Option wT}{c:List Bool}{f:Nat}{a:List wg}
def Wx.lt(h:Wx B b T a w c):B<=b/\b<w.heap.size:=by obtain⟨_,_,_,e,_⟩:=h;exact⟨e.hb,ap e.blk⟩
def Lp(h:Wx B b 194 a w c)(p:Nat×Nat)(m:Nat)(x:p.1<=m)(y:p.2<=15)(C:m<=100000)(A:G c+16<=1099511627776):wh DG 266 #[A3 (O ⟨b,0,N⟩),I U m,sV p] w λr s=>r=BX (BG #[])/\Wx B b 194 a s (c++gg p.2 (m-p.1))/\Kept 5 B [b] w s:=by
 obtain⟨e,n⟩:=p;unfold sV;simp only[]at x y ⊢;have u:wt (Kept 5 B [b] w (w.alloc (BV #[I U (e:Nat),I U (n:Nat)] 247)).drew):=H (((Kept.refl _ _ _ _).alloc _).drew);have q:wt (Wx B b 194 a (w.alloc (BV #[I U (e:Nat),I U (n:Nat)] 247)).drew c):=H (h.alloc _).drew;have F:(w.alloc (BV #[I U (e:Nat),I U (n:Nat)] 247)).cell? ⟨w.heap.size,0,N⟩=O (I U (e:Nat)):=cb (bn _ _);have J:(w.alloc (BV #[I U (e:Nat),I U (n:Nat)] 247)).cell? ⟨w.heap.size,1,N⟩=O (I U (n:Nat)):=cb (bn _ _);obtain⟨D,E⟩:=h.lt;have t:=H (E9 q (m-e) n Y Y Y);have e1:wt (IntKind.i64.wrap ((m:Int)-e)=((m-e:Nat):Int)):=by unfold Hid;rw[bu];omega
 clear h q
 go_in
 go_wp2_with fail;generalize w.alloc (BV #[I U (e:Nat),I U (n:Nat)] 247)=L at *;go_region_with (go_at_call 203;rw[e1.o];apply t.o.m;rintro r K ⟨rfl,v,z⟩);all_goals go_wp2
 all_goals go_end0
 all_goals exact⟨rfl,v,u.t z⟩
end
section
variable{w:vz}
def S9:qb nG 15<=G mL/\G mL<=1000/\(∀a∈mL,a<288)/\∀k:Fin 16,sD nG k.val<=100000:=by decide +kernel
def BC:qb nE 15<=G mK/\G mK<=1000/\(∀a∈mK,a<32)/\∀k:Fin 16,sD nE k.val<=100000:=by decide +kernel
def MH{a:List Nat}{b:Nat}(h:b<G a):nth a b∈a:=by
 have c:nth a b=a[b]:=by simp[nth,h]
 rw[c];exact cI h
def Ce(w:vz)(b:Nat):Prop:=Cd w b 0 nG mL
def Cc(w:vz)(b:Nat):Prop:=Cd w b 17 nE mK
def C_(b:Nat)(h:Ce w b):wh DG 261 #[A3 (O ⟨b,0,N⟩),I U 288] w λg a=>g=BX (Z (O ⟨w.heap.size,0,N⟩) 288 288)/\kD a w.heap.size lh/\wm w.heap.size w a:=by obtain⟨c,d,e,f⟩:=S9;have:=F2 b 0 288 nG mL h Y c d (λl i=>e _ (MH i)) (λk j=>f ⟨k,Y⟩);rw[TE]at this;exact this
def C7(b:Nat)(h:Cc w b):wh DG 261 #[A3 (O ⟨b,17,N⟩),I U 32] w λg a=>g=BX (Z (O ⟨w.heap.size,0,N⟩) 32 32)/\kD a w.heap.size mw/\wm w.heap.size w a:=by obtain⟨c,d,e,f⟩:=BC;have:=F2 b 17 32 nE mK h Y c d (λl i=>e _ (MH i)) (λk j=>f ⟨k,Y⟩);rw[BL]at this;exact this
def Ce.below{b:Nat}{d:vz}(h:Ce w b)(k:wm w.heap.size w d):Ce d b:=
 Cd.below h k (by obtain⟨_,f,c,a,_⟩:=h;exact aA w _ a) (λf c e=>by obtain⟨_,j,i,a,g⟩:=h;rw[a]at e;cases e;exact aA w _ (g 0 (by decide +kernel)))
def Cc.below{b:Nat}{d:vz}(h:Cc w b)(k:wm w.heap.size w d):Cc d b:=
 Cd.below h k (by obtain⟨_,f,c,a,_⟩:=h;exact aA w _ a) (λf c e=>by obtain⟨_,j,i,a,g⟩:=h;rw[a]at e;cases e;exact aA w _ (g 0 (by decide +kernel)))
def Qm{b d e k:Nat}{l:Nat×Nat}(h:w.heap[b]?=O (BV (fC d e).toArray k l))(o:mN w d mL)(p:mN w e mK):Ce w b/\Cc w b:=by
 have c:∀a g,(fC d e)[a]?=O g->w.cell? ⟨b,a,N⟩=O g:=by intro a g n;rw[cb h];simpa using n
 have q:=Le;have r:=F3;have f:(jI nG).length=16:=by simpa[jI]using q
 have s:(jI nE).length=16:=by simpa[jI]using r
 unfold Ce Cc;unfold fC at c;clear h;generalize nG=u at *;generalize mL=j at *;generalize nE=t at *;generalize mK=i at *;refine⟨⟨?_,d,G j,?_,o.cell⟩,⟨?_,e,G i,?_,p.cell⟩⟩
 ·intro a m;refine c (0+a) _ ?_;rw[bZ,aR Y];exact ig _ _ Y
 ·refine c (0+16) _ ?_;rw[aW Y,f];rfl
 ·intro a m;refine c (17+a) _ ?_;rw[aW Y,f,show 17+a-16=a+1 by omega,eY,aR Y];exact ig _ _ Y
 ·refine c (17+16) _ ?_;rw[aW Y,f,show 17+16-16=16+1 by omega,eY,aW Y,s];rfl
end
def NY:G lh=288:=by decide +kernel
def Kk:G mw=32:=by decide +kernel
def G0:∀a:Fin 288,(pM lh a.val).1<1024/\(pM lh a.val).2<=9:=by decide +kernel
def TD:∀a:Fin 32,(pM mw a.val).1<1024/\(pM mw a.val).2<=9:=by decide +kernel
section
variable{w w':vz}{B j m q r cap T:Nat}{data:List Nat}{u:Option wT}{y:List Bool}{f:Nat}{z:List wg}
def De.write{a:List Bool}(h:De B j m q r cap data u w y f)(k:Kept 5 B [j] w w')
  (C:Wx B j 194 [Z u (G data) cap,I U f,.map (O m),Z (O ⟨q,0,N⟩) 288 288,Z (O ⟨r,0,N⟩) 32 32] w' a):De B j m q r cap data u w' a f:=by
 obtain⟨J,K,L,_⟩:=h.ne;obtain⟨_,_,_,_,_,x,_⟩:=h.cells;obtain⟨v,s,E,F⟩:=h.st;obtain⟨g,l,n⟩:=h.r1;obtain⟨i,o,p⟩:=h.r2;refine⟨C,?_,h.byt,h.len,h.lc,h.hat,⟨v,s,k.block m _ (by simp[J]) E (C2 (by intro c d e;cases e)),F⟩,⟨g,k.block q _ (by simp[K]) l (C2 (by intro c d e;simp at e)),n⟩,⟨i,k.block r _ (by simp[L]) o (C2 (by intro c d e;simp at e)),p⟩,h.hbm⟩;intro D A;obtain⟨b,M,e1,e2,t⟩:=h.dat D A;exact⟨b,M,e1,e2,k.cell (by simpa using x) e2 t⟩
def Hr(b:List (Nat×Nat))(a:Nat):jB b a=gG (pM b a).1 (pM b a).2:=rfl
def kD.cellsAt{c:Nat}{b:List (Nat×Nat)}(h:kD w c b)(a:Nat)(g:a<G b):w.cell? ⟨c,a*2,N⟩=O (I U ((pM b a).1:Nat))/\w.cell? ⟨c,a*2+1,N⟩=O (I U ((pM b a).2:Nat)):=by obtain⟨i,d,_,e⟩:=h;obtain⟨e1,e2⟩:=e a g;exact⟨by rw[cb d];exact e1,by rw[cb d];exact e2⟩
def qA(data:List Nat)(f c:Nat)(d:List Bool):Prop:=
 ∃a b,qm data f a b/\((a=0/\c=1/\d=jB lh (nth data f))\/(0<a/\c=a/\d=mt a b))
def qA.one{e g:Nat}{p i:List Bool}(h:qA data f e p)(n:qA data f g i):e=g/\p=i:=by
 obtain⟨C,x,o,s⟩:=h;obtain⟨D,A,t,v⟩:=n;obtain⟨rfl,rfl⟩:=o.one t;rcases s with⟨k,a,b⟩|⟨k,a,b⟩<;>rcases v with⟨l,c,d⟩|⟨l,c,d⟩;·exact⟨a.t c.s,b.t d.s⟩
 ·omega
 ·omega
 ·exact⟨a.t c.s,b.t d.s⟩
def Oi(B j m q r cap:Nat)(data:List Nat)(u:Option wT)(w:vz)(y:List Bool)(f:Nat)(w':vz):Prop:=
 ∃(b:List Bool) (a:Nat),0<a/\f+a<=G data/\De B j m q r cap data u w' (y++b) (f+a)/\(∀c,kI data f c->kI data (f+a) (c++b))/\G b<=40*a/\(rX data->(a=1/\G b<=9/\(f=0\/(G data)<f+3))\/(a=min 258 (G data-f)/\0<f/\G b<=19))/\qA data f a b/\Kept 5 B [j,m] w w'
def DR(h:De B j m q r cap data u w y f)(i:f<G data):∃(b d e a c:Nat),u=O ⟨b,d,N⟩/\b<B/\e<256/\c<=9/\a<1024/\w.cell? ⟨b,d+f,N⟩=O (I .u8 (e:Nat))/\w.cell? ⟨q,e*2,N⟩=O (I U (a:Nat))/\w.cell? ⟨q,e*2+1,N⟩=O (I U (c:Nat)) /\
   (∀g,kI data f g->kI data (f+1) (g++gG a c))/\gG a c=jB lh (nth data f):=by
 obtain⟨b,d,e1,e2,n⟩:=h.dat.at Y;have p:=h.byt f i;have k:=G0 ⟨nth data f,Y⟩;simp only[]at k;obtain⟨v,x⟩:=h.r1.cellsAt (nth data f) (by rw[NY];omega);refine⟨b,d,nth data f,_,_,e1,e2,p,k.2,k.1,n f i,v,x,λg o=>?_,rfl⟩;refine o.lit i (λA s=>?_);obtain⟨t,l,rfl⟩:=cF s;have:=h.byt t l;simpa[nth,l]using this
def De.code1(h:De B j m q r cap data u w y f)(S a b:Nat)(c:S<288)(d:pM lh S=(a,b)):w.cell? ⟨q,S*2,N⟩=O (I U (a:Nat))/\w.cell? ⟨q,S*2+1,N⟩=O (I U (b:Nat)):=by have:=h.r1.cellsAt S (by rw[NY];exact c);rw[d]at this;exact this
def De.code2(h:De B j m q r cap data u w y f)(a b c:Nat)(d:a<32)(e:pM mw a=(b,c)):w.cell? ⟨r,a*2,N⟩=O (I U (b:Nat))/\w.cell? ⟨r,a*2+1,N⟩=O (I U (c:Nat)):=by have:=h.r2.cellsAt a (by rw[Kk];exact d);rw[e]at this;exact this
def De.drew(h:De B j m q r cap data u w y f):De B j m q r cap data u w.drew y f:=h.below (ar _ _).drew
def De.alloc(h:De B j m q r cap data u w y f)(a:Obj):De B j m q r cap data u (w.alloc a) y f:=h.below ((ar _ _).alloc (ag _) a)
def Kept.two{c B:Nat}{a b:vz}(h:Kept c B [j] a b):Kept c B [j,m] a b:=h.m (λk d=>by simp at d;simp[d])
def ko{e B:Nat}{S:List Nat}{a b:vz}(h:wm a.heap.size a b):Kept e B S a b:=Kept.thenBelow (Kept.refl _ _ _ _) h
def TF:∀a:Fin 30,(pM mw a.val).2<=5:=by decide +kernel
def PP:gF (h_ 1)=(1,0):=by decide +kernel
def Iu{d e:Type}(a:d×e):∃c b,a=(c,b):=⟨a.1,a.2,rfl⟩
def Pw{a b:Nat}(m1:3<=a)(m2:a<=258)(R:1<=b)(S:b<=32768)(m5:b<=f)(m6:f+a<=G data)(m7:∀E,E<a->nth data (f+E)=nth data (f-b+E)):∃n d g i k p e h l c:Nat,jn a=n/\h_ b=p/\257<=n/\n<=285/\p<=29/\pM lh n=(d,g)/\pM mw p=(e,h)/\gQ n=(i,k)/\gF p=(l,c) /\
   (d<1024/\g<=9/\e<1024/\h<=5/\i<=a/\k<=5/\l<=b/\c<=13/\(b=1->c=0)) /\
   (∀x,kI data f x->kI data (f+a) (x++(gG d g++(gg k (a-i)++(gG e h++gg c (b-l))))))/\mt a b=gG d g++(gg k (a-i)++(gG e h++gg c (b-l))):=by
 obtain⟨t,M,v,_⟩:=s9 ⟨a-3,Y⟩;simp only[show a-3+3=a by omega]at t M v;obtain⟨V,P,_⟩:=r_ b R S;have F:=Mp ⟨jn a,Y⟩ t;have J:=PH ⟨h_ b,Y⟩;have s:=G0 ⟨jn a,Y⟩;have K:=TD ⟨h_ b,Y⟩;have L:=TF ⟨h_ b,Y⟩;simp only[]at F J s K L;obtain⟨d,g,A⟩:=Iu (pM lh (jn a));obtain⟨e,h,C⟩:=Iu (pM mw (h_ b));obtain⟨i,k,D⟩:=Iu (gQ (jn a));obtain⟨l,c,o⟩:=Iu (gF (h_ b));have Q:mt a b=gG d g++(gg k (a-i)++(gG e h++gg c (b-l))):=by unfold mt;rw[Hr,Hr,A,C,D,o]
 rw[A]at s;rw[C]at K L;rw[D]at F v;rw[o]at J P;refine⟨jn a,d,g,i,k,h_ b,e,h,l,c,rfl,rfl,t,M,V,A,C,D,o,⟨s.1,s.2,K.1,L,v,F.1,P,J.1,λW=>by subst W;rw[PP]at o;cases o;rfl⟩,λx X=>?_,Q⟩;rw[<-Q];exact X.copy a b m1 m2 R S m5 m6 m7
def PS(h:De B j m q r cap data u w y f)(bv:f<G data)(hl:G y+100<=1099511627776):wh DG 204 #[A3 (O ⟨j,0,N⟩)] w λa w'=>a=BX (BG #[])/\Oi B j m q r cap data u w y f w':=by
 have HM:=H (Rc h);have a4:=H h;clear h
 go_in
 go_wp2_with fail;apply HM.o.m;rintro a w1 ⟨k,al,rfl,b1,ao⟩;have x:=H ao;obtain⟨a6,hm⟩:=ao.ok;have a5:=H a6;clear ao;clear a6;have i:=H (a4.below b1);have n:=H b1;clear HM a4 b1;rcases hm with rfl|⟨m1,m2,m3,m4,m5,m6,m7⟩
 ·obtain⟨b,bx,bz,g,e,rfl,hb,hs,hY,hX,d0,s,t,o,a8⟩:=DR i bv;have S:=H o;have X:wt (qA data f 1 (gG g e)):=⟨_,_,x,C1 ⟨rfl,rfl,a8⟩⟩;clear a8 x;obtain⟨c2,c3,_,c5,_,J,F,_⟩:=i.o.cells;clear o;have d:=H (IW (w:=w1.drew) (i.wx.drew) (g,e) (by show g<_;omega) (by show e<=_;omega) (by show _+e<=_;omega));unfold cV at d;go_wp2_with fail;go_region_with (go_at_call 205;apply d.o.m;rintro a w2 ⟨rfl,ba,k2⟩);all_goals (
   have l:=H (De.write i.drew k2 ba);have K2:=H (((ko (e:= 5) (B:=B) (S:=[j,m]) n).drew).t (Kept.two k2));clear d i n c2 c3 c5 s t d0 ba k2;go_wp2_with fail;apply(GW 1 l Y).m;rintro a w3 ⟨rfl,h3,p⟩;go_wp2;refine aK (v:=BG #[]) (by simp[results,results204,go_sem]) rfl ⟨rfl,_,1,Y,Y,h3,S,by rw[AQ];omega,λha=>C1 ⟨rfl,by rw[AQ];exact hY,by
    rcases d_ f with ad|ad;·exact C1 ad
    ·refine C2 (Nat.lt_of_not_le λc3=>?_);have:=(a5 ha ad c3).1;omega⟩,X,K2.t p⟩)
 ·have e0:((k:Int)==0)=CS:=eS;obtain⟨A,g,e,x1,x2,a0,C,D,y1,y2,hS,hD,a1,a2,a3,bh,bm,sx,sy,a9,o,a7⟩:=Pw (data:=data) m1 m2 m3 m4 m5 m6 m7;have S:=H o;have X:wt (qA data f k (gG g e++(gg x2 (k-x1)++(gG C D++gg y2 (al-y1))))):=⟨_,_,x,C2 ⟨Y,rfl,a7.s⟩⟩;clear a7 x;have br:=H bh;have bs:=H bm;have c:=H a9;have W:=H (JE k m1 m2);have V:=H (Jb al m3 m4);have ac:=H (Mq A a1 a2);have aa:=H (Lm a0 a3);rw[hS]at W;rw[hD]at V;rw[sx]at ac;rw[sy]at aa;clear o bh bm a9 sx sy hS hD m7;go_wp2_with fail;apply(W _).m;rintro a w2 ⟨rfl,b2⟩;have l:=H (i.below b2);have B2:=H (n.t (b2.m n.size));clear i n b2 W;have K:=H (l.drew);obtain⟨_,_,_,c5,_,J,F,_⟩:=l.o.cells;obtain⟨s,t⟩:=l.o.code1 A g e Y br;have d:=H (IW (w:=w2.drew) K.wx (g,e) (by have:=c.o;show g<_;omega) (by have:=c.o;show e<=_;omega) (by have:=c.o;show _+e<=_;omega));unfold cV at d;go_wp2_with fail;go_region_with (go_at_call 205;apply d.o.m;rintro a w3 ⟨rfl,bb,p⟩);have L:=H (De.write K p bb);have K3:=H (((ko (e:= 5) (B:=B) (S:=[j,m]) B2).drew).t (Kept.two p));clear d l K B2 c5 s t bb p J F;go_wp2_with fail;apply(ac _).m;rintro a w4 ⟨rfl,o4,rfl⟩;go_wp2_with fail;refine(Lp (L.alloc o4).wx (x1,x2) k (by have:=c.o;show x1<=_;omega) (by have:=c.o;show x2<=_;omega) Y (by have:=c.o;rw[ab,AQ];show _+e+_<=_;omega)).m ?_;rintro a w5 ⟨rfl,bc,k5⟩;have M:=H (De.write (L.alloc o4) k5 bc);have K5:=H ((K3.alloc o4).t (Kept.two k5));clear L K3 bc k5 ac;go_wp2_with fail;apply(V _).m;rintro a w6 ⟨rfl,E⟩;have P:=H ((M.below E).drew);have Q:=H (M.below E);have K6:=H ((Kept.thenBelow K5 E).drew);clear M K5 E V;obtain⟨_,_,_,_,c6,J,F,_⟩:=Q.o.cells;obtain⟨s,t⟩:=Q.o.code2 a0 C D Y bs;have d:=H (IW (w:=w6.drew) P.wx (C,D) (by have:=c.o;show C<_;omega) (by have:=c.o;show D<=_;omega) (by have:=c.o;simp only[ab,AQ,gM];omega));unfold cV at d;go_wp2_with fail;go_region_with (go_at_call 205;apply d.o.m;rintro a w7 ⟨rfl,bd,k7⟩);have R:=H (De.write P k7 bd);have K7:=H (K6.t (Kept.two k7));clear d P Q K6 c6 s t bd k7 J F;go_wp2_with fail;apply(aa _).m;rintro a w8 ⟨rfl,o8,rfl⟩;go_wp2_with fail;refine(Lp (R.alloc o8).wx (y1,y2) al (by have:=c.o;show y1<=_;omega) (by have:=c.o;show y2<=_;omega) Y (by have:=c.o;simp only[ab,AQ,gM];omega)).m ?_;rintro a w9 ⟨rfl,bf,k9⟩;have H9:=H (De.write (R.alloc o8) k9 bf);have K9:=H ((K7.alloc o8).t (Kept.two k9));clear R K7 bf k9 aa;go_wp2_with fail;apply(GW k H9 m6).m;rintro a b0 ⟨rfl,bt,bw⟩;go_wp2
  go_end0
  refine⟨rfl,_,k,Y,m6,?_,S,?_,λha=>C2 ?_,X,K9.t bw⟩;·simpa only[au]using bt
  ·have:=c.o;simp only[ab,AQ,gM];omega
  ·obtain⟨u1,u2⟩:=a5.o ha Y Y;obtain⟨_,v1,_,v2,_,v3,_,_,v4⟩:=c.o;refine⟨u1,Y,?_⟩;have:=v4 u2;simp only[ab,AQ,gM];omega
end
section
variable{w:vz}{B r A D E cap T:Nat}{d:List Nat}{ao:Option wT}{L:List Bool}{J:Nat}{s:List wg}
def Sr(ao:Option wT)(g e f c h i b j k:Nat)(a:vz):(Instr.build 194 #[(1,Z ao g e),(3,.map (O f)),(4,Z (O ⟨c,0,N⟩) h i),(5,Z (O ⟨b,0,N⟩) j k)]).run DG a=.ok (Bc #[Z N 0 0,I U 0,Z ao g e,I U 0,.map (O f),Z (O ⟨c,0,N⟩) h i,Z (O ⟨b,0,N⟩) j k]) a:=by kernel_rfl
def KA{c:Program}{w:vz}{l:Array Oper}{s:List Oper}{b:Oper}{a:xq}{e:Exit->xq->vz->Prop}(C:b.guard=N)(m g i k j:Nat)(v x y n:Operand)(F:b.op=.build m #[(g,v),(i,x),(k,y),(j,n)])
  (q t u p o:wg) (P:a.eval v=q) (Q:a.eval x=t) (R:a.eval y=u) (M:a.eval n=p) (K:∀f,(Instr.build m #[(g,q),(i,t),(k,u),(j,p)]).run c f=.ok o f) (h:wpList c l e s (a.put b.dst o) w):wpList c l e (b::s) a w:=by
 refine fG C λS z=>?_;unfold Oper.wp;simp[execOp,F,P,Q,R,M,K,Result.andThen];exact z _ _ h
def mN.below{a:Nat}{e:List Nat}{f:vz}(h:mN w a e)(k:wm w.heap.size w f):mN f a e:=by obtain⟨c,g,b,i⟩:=h;exact⟨c,g,by rw[k.block _ (ap b)];exact b,i⟩
def mN.setCells{a b k:Nat}{c:List Nat}{vs:List wg}(h:mN w a c)(j:a≠b):mN (w.setCells b k vs) a c:=by obtain⟨e,f,g,i⟩:=h;exact⟨e,f,by rw[yM _ j];exact g,i⟩
def Qi(D E:Nat):(fC D E).toArray.all (·.oneCell')=CD:=by unfold fC jI;simp[Value.oneCell']
def Ro(hd:qi w B ao d)(hB:B<=w.heap.size)(al:∀g,g<G d->nth d g<256)(len:G d<=1000000)(lc:G d<=cap/\cap<=9223372036854775807):wh DG 202 #[Z ao (G d) cap] w λt w'=>∃r A D E,t=BX (A3 (O ⟨r,0,N⟩))/\De w.heap.size r A D E cap d ao w' [] 0/\wm w.heap.size w w':=by
 have bv:=@run_makeMap DG;have HD:=H hd;have a6:=H al;clear hd al
 go_in
 go_wp2_with fail;apply Jg.m;rintro t a ⟨v,x,rfl,R,S,n,n1,n2⟩;have a3:=Qi v x;have u:=Qh v x;generalize hF:fC v x=f at *;have HF:=H hF;clear hF;have Q:=List.size_toArray.t u;have a0:wt ((Tryz.prog.info? 164).map (·.size)=O f.toArray.size):=by unfold Hid;rw[Q];kernel_rfl
 have a4:wt ((a.alloc qK).there a.heap.size 0 f.toArray.size):=by unfold Hid;rw[Q];exact yr (bn _ _)
 have l1:v<a.heap.size:=by obtain⟨a8,fz,j,_⟩:=R;exact ap j
 have l2:x<a.heap.size:=by obtain⟨a8,fz,j,_⟩:=S;exact ap j
 have X:wt (Ce ((a.alloc qK).setCells a.heap.size 0 f) a.heap.size/\Cc ((a.alloc qK).setCells a.heap.size 0 f) a.heap.size):=by rw[<-HF.o]at u ⊢;have e:wm a.heap.size a (a.alloc qK):=(ar _ _).alloc (ag _) _;exact Qm (Ep (bn a qK) (by rw[u];rfl)) ((R.below e).setCells Y) ((S.below e).setCells Y)
 have W:wt (wm w.heap.size w ((a.alloc qK).setCells a.heap.size 0 f)):=xi _ _ n.size _ _ _ _ (n.alloc n.size _);clear R S n l1 l2 HF u Q;go_wp2_with (refine dt (by rfl) 164 (.tmp 3) (.tmp 4) (by rfl) a.heap.size 0 f.toArray (by rfl) (by rfl) a4 a0 a3 ?_);generalize P:World.setCells (a.alloc _) a.heap.size 0 f=c;have C:wt (Ce c a.heap.size/\Cc c a.heap.size):=by rw[<-P];exact X
 have m:wt (wm w.heap.size w c):=by rw[<-P];exact W
 clear P X W a4 a0 a3;have e:wm c.heap.size c (c.alloc (.map #[] 0)):=(ar _ _).alloc (ag _) _;have a1:(c.alloc (.map #[] 0)).heap[c.heap.size]?=O (.map #[] 0):=bn _ _;have aa:=H (C.1.below e);have ac:=H (C.2.below e);have z:=H (m.t (e.m m.size));have bh:c.heap.size<(c.alloc (.map #[] 0)).heap.size:=cO;have bf:=m.o.size;generalize a9:c.alloc (.map #[] 0)=W3 at *;generalize bb:c.heap.size=k at *;clear a9 bb e C m;apply(C_ _ aa).m;rintro t V ⟨rfl,r1,o⟩;have ad:=H (ac.below o);have y:=H (z.t (o.m z.size));have a2:V.heap[k]?=O (.map #[] 0):=by rw[o.block _ bh];exact a1
 clear aa ac z o a1;have F:=H r1;clear r1;have bx:W3.heap.size<V.heap.size:=by obtain⟨bs,j,_⟩:=F.o;exact ap j
 go_wp2_with fail;apply(C7 _ ad).m;rintro t l ⟨rfl,r2,q⟩;have R2:=H r2;have i:=H (y.t (q.m y.size));have a7:=H (F.below' q);have bm:=H (show l.heap[k]?=O (.map #[] 0)by rw[q.block _ Y];exact a2);clear r2 q F y a2 ad;generalize W3.heap.size=K at *;generalize bd:V.heap.size=M at *;clear bd;have bc:=H (Sr ao (G d) cap k K 288 288 M 32 32);have tokb:True:=trivial;go_wp2_with (have _t:=tokb;refine KA (by rfl) 194 1 3 4 5 (.tmp 5) (.tmp 6) (.tmp 8) (.tmp 10) (by rfl) _ _ _ _ _ (by rfl) (by rfl) (by rfl) (by rfl) bc ?_;clear tokb);go_ret;have e:wm l.heap.size l (l.alloc (BV #[Z N 0 0,I U 0,Z ao (G d) cap,I U 0,.map (O k),Z (O ⟨K,0,N⟩) 288 288,Z (O ⟨M,0,N⟩) 32 32] 194)):=(ar _ _).alloc (ag _) _;refine⟨l.heap.size,k,K,M,rfl,?_,i.t (e.m i.size)⟩;have br:=i.o.size;refine⟨⟨Z N 0 0,[],0,⟨br,bF,bn _ _,bI _ _ _ _⟩,nJ.nil⟩,?_,a6,len,lc,aw _,?_,a7.below' e,R2.below' e,bf⟩
 ·intro g hi;obtain⟨b,a5,e1,e2,e3⟩:=HD.o g hi;exact⟨b,a5,e1,Y,((i.t (e.m i.size)).cell (p:=⟨b,a5+g,N⟩) oT).t e3⟩
 ·exact⟨#[],0,nt _ bm,cO,λbz hq=>absurd hq Y,λg bw bt b h=>by simp at h⟩
def atOf(r:Nat)(w:vz):Nat:=(intOf ((w.cell? ⟨r,3,N⟩).getD undef)).toNat
def De.atOf(h:De B r A D E cap d ao w L J):atOf r w=J:=by unfold Go.Proofs.YtgkljcmjnphpeaaGreatDoor.atOf;rw[h.cells.2.1];simp[intOf]
def fB(a:List Bool):List Bool:=CD::(gg 2 1++(a++jB lh 256))
def vM:pM lh 256=(0,7):=by decide +kernel
def Qe(a:List Bool):(gg 1 1++gg 2 1++a)++gG 0 7=fB a:=by unfold fB;rw[Hr,vM,au,au];rfl
def mB(b a:Nat):Nat:=19*((b-a+257)/258)+9*min 2 (b-a)+(if a=0 then 9 else 0)
def Rb{b a k:Nat}(e:k<=9)(c:a<b)(h:a=0\/b<a+3):k+mB b (a+1)<=mB b a:=by
 unfold mB;rw[aj (show ¬a+1=0 by omega)];rcases h with rfl|h
 ·simp only[if_true];have:(b-(0+1)+257)/258<=(b-0+257)/258:=Nat.div_le_div_right Y;omega
 ·have:(b-(a+1)+257)/258<=(b-a+257)/258:=Nat.div_le_div_right Y;omega
def Ra{b a k:Nat}(f:k<=19)(e:a<b)(c:0<a):k+mB b (a+min 258 (b-a))<=mB b a:=by
 unfold mB;rw[aj (show ¬a=0 by omega),aj (show ¬a+min 258 (b-a)=0 by omega)];rcases cW (b-a) 258 with h|h
 ·rw[Nat.min_eq_right Y,show b-(a+(b-a))=0 by omega];omega
 ·rw[dQ h];omega
def PJ(S:qi w B ao d)(hB:B<=w.heap.size)(M:∀ac,ac<G d->nth d ac<256)(len:G d<=1000000)(lc:G d<=cap/\cap<=9223372036854775807):wh DG 147 #[Z ao (G d) cap] w λe w'=>∃(l:wg) (h:List Nat) (x:Nat) (a:List Bool),e=BX l/\w'.ownsRow w.heap.size 5 1 l (G h) (h.map λa9:Nat=>I .u8 (a9:Int))/\wm w.heap.size w w'/\nJ h x (fB a)/\kI d (G d) a/\G a<=40*G d/\(rX d->G a<=27+19*((G d+257)/258)):=by
 have z:=H (Ro S hB M len lc);clear S M
 go_in
 go_wp2_with fail;apply z.o.m;rintro e w1 ⟨r,A,D,E,rfl,P,K⟩;have m:=H P;have y:=H K;clear P K z;go_wp2_with fail;apply(E9 m.wx 1 1 Y Y cO).m;rintro e w2 ⟨rfl,X,t⟩;have f:=H (De.write m t X);have C:=H t;clear m X t;go_wp2_with fail;apply(E9 f.wx 1 2 Y Y (by simp[gM])).m;rintro e w3 ⟨rfl,aa,u⟩;have H3:=H (De.write f u aa);have K3:=H (show Kept 5 w.heap.size [r,A] w1 w3 from Kept.two (C.t u));have a5:=y.o.size;have bc:w.heap.size<=r/\w.heap.size<=A:=⟨f.cells.2.2.2.2.2.1,f.hbm⟩;clear f aa u C;go_wp2;go_loopw [14] (λ_ wr=>∃(b:Nat) (a:List Bool),De w.heap.size r A D E cap d ao wr (gg 1 1++gg 2 1++a) b/\wt (kI d b a/\G a<=40*b/\(rX d->G a+mB (G d) b<=mB (G d) 0))/\Kept 5 w.heap.size [r,A] w1 wr) (λ_ wr=>G d-atOf r wr)
 case atStart=>exact⟨0,[],by simpa using H3.o,H ⟨.nil,cO,λ_=>cO⟩,K3⟩
 case round=>
  obtain⟨b,a,g,c,kk⟩:=hrel;have n:=H g;have F:=H kk;have hm:=H g.atOf;have bf:=g.hat;obtain⟨_,c3,_,c5,_,_,bb,_⟩:=g.cells;clear g kk;have bd:=c.o.2.1;by_cases k:b<G d
  ·have bh:(b:Int)<G d:=Y;go_wp2_with fail;apply(PS n k pI).m;rintro e w4 ⟨rfl,a8,a7,hn,ba,Q,a1,bm,R,V,v⟩;have ad:=H R;clear R V;have a2:=H Q.atOf;go_wp2;go_roundw
   case rel=>exact⟨b+a7,a++a8,by simpa only[au]using Q,H ⟨a1 _ c.1,by rw[ab];omega,λj=>by
    have p:=c.o.2.2 j;rw[ab];rcases ad.o j with⟨rfl,q,a3⟩|⟨rfl,a4,q⟩
    ·have:=Rb q k a3;omega
    ·have:=Ra q k a4;omega⟩,F.t v⟩
   case measure=>rw[hm.o,a2.o];omega
  ·obtain rfl:b=G d:=Y;obtain⟨q0,q1⟩:=n.o.code1 256 0 7 Y vM;have al:=H n.drew;have i:=H (IW (w:=wr.drew) al.wx (0,7) (by show 0<_;omega) (by show 7<=_;omega) pI);unfold cV at i;simp only[]at i;rw[Qe]at i;go_wp2_with fail;go_region_with (go_at_call 205;apply i.o.m;rintro e w4 ⟨rfl,a6,v⟩);all_goals (
    obtain⟨l,h,x,W,hb⟩:=a6;have c0:=W.c0;go_wp2;go_ret;exact⟨l,h,x,a,rfl,W.own,y.t (((F.drew).t (Kept.two v)).below a5 eS),hb,c.1,c.2.1,λj=>by
     have p:G a<=mB (G d) 0:=by have:=c.o.2.2 j;omega
     unfold mB at p;rw[ak rfl]at p;omega⟩)
end
section
variable{B h g f c b:Nat}{d:List Nat}{a:Nat}{w:vz}
def QZ{j:Nat}{w i:vz}{e:Obj}(k:Kept j w.heap.size [w.heap.size] (w.alloc e) i):wm w.heap.size w i :=
 ((ar _ _).alloc (ag _) e).t (k.below cO cO)
end
section
variable{w:vz}
def RN{w:vz}{b B' c d e:Nat}{f:wg}{g:List wg}(h:w.ownsRow b c e f d g)(n:B'<=b):w.ownsRow B' c e f d g:=by
 obtain⟨l,a⟩:=h;refine⟨l,?_⟩;rcases a with a|⟨k,i,j,m,o,r⟩;·exact C1 a
 ·exact C2 ⟨k,i,j,m,Y,r⟩
def RP{w:vz}{a c e f k:Nat}{b:wg}{g:List wg}(h:w.ownsRow a c f b e g)(i:k<a):b.ownBlock≠O k:=by intro d;have:=(h.lt k d).1;omega
end
section
variable{w:vz}{B c:Nat}{a:List Nat}{d:Option wT}
def BN(g:Nat)(i:List Bool):Prop:=
 (∃b r,i=b::(gg 2 1++r)/\iA iM 32768 g r [] (.error 6)) \/
 (∃(b:Bool) (r h:List Bool) (e:List Nat),i=b::(gg 2 0++r)/\0<G e/\G e<=65535/\(∀f,f<G e->nth e f<256)/\r.drop (G r%8)=gg 16 (G e)++(gg 16 (65535-G e)++(gH e++h))/\G h%8=0/\g<G e)
structure Pa(a bl:List Nat):Prop where
 unp:∀(most:Nat) (t:List Nat),G a<=most->∃r,pF 32768 most (gH (bl++t)) [] r a/\r.drop (G r%8)=gH t
 no:∀(most:Nat) (t:List Nat),most<G a->BN most (gH (bl++t))
def R8{k:List Nat}{e:Nat}{f:List Bool}(l:nJ k e (fB f))(j:kI a (G a) f):Pa a k:=by
 obtain⟨n,o,p,i⟩:=l;have h:∀b,fB f++DJ ((8-e)%8) CS++gH b=CD::(gg 2 1++(f++(jB lh 256++(DJ ((8-e)%8) CS++gH b)))):=by intro b;unfold fB;simp only[bH,au]
 refine⟨λm b g=>?_,λm b g=>?_⟩
 ·refine⟨DJ ((8-e)%8) CS++gH b,?_,?_⟩
  ·rw[jH,i,h];exact .lastFixed (j.whole g _)
  ·rw[ab,bj,gW];rw[show((8-e)%8+8*G b)%8=(8-e)%8 by omega];rw[d8 (by rw[bj])]
 ·rw[jH,i,h];exact C1 ⟨CD,_,rfl,j.cap g _⟩
def Ip{w:vz}{B:Nat}(f:B<=w.heap.size)(b:List Nat)(g:G b<=100):(w.alloc (BV (b.map λe:Nat=>I .u8 (e:Int)).toArray 5)).ownsRow B 5 1 (Z (O ⟨w.heap.size,0,N⟩) (G b) (G b)) (G b) (b.map λe:Nat=>I .u8 (e:Int)):=by refine⟨cO,C2 ⟨w.heap.size,G b,_,rfl,f,bn _ _,ag _,by unfold maxLen;omega,cO,?_⟩⟩;rw[aP cO]
def Qf(b:List Bool):(fB b).length=10+G b:=by unfold fB;rw[Hr,vM];simp only[ai,ab,gM,AQ];omega
def qP(a bl:List Nat):List Nat:=[120,156]++bl++tG a
def ML{w:vz}{B e i j k:Nat}{b:wg}{l:List wg}(h:w.ownsRow B e j b i l)(g:k<B):O k≠b.ownBlock:=λf=>RP h g f.s
end
section
variable{w:vz}{B cap n:Nat}{a:List Nat}{ao:Option wT}{P:wg->vz->Prop}
def F_(e:wh DG 104 #[Z ao n cap] w λc d=>∃b,c=BX b/\P b d):wh DG 70 #[I U 4,Z ao n cap] w λc d=>∃b,c=BX b/\P b d:=by
 have f:=H e;clear e
 go_in
 go_wp2_with fail;apply f.o.m;rintro c h ⟨b,rfl,g⟩;go_wp2;go_ret;exact⟨b,rfl,g⟩
def F7(e:wh DG 101 #[Z ao n cap] w λc d=>∃b,c=BX b/\P b d):wh DG 70 #[I U 1,Z ao n cap] w λc d=>∃b,c=BX b/\P b d:=by
 have f:=H e;clear e
 go_in
 go_wp2_with fail;apply f.o.m;rintro c h ⟨b,rfl,g⟩;go_wp2;go_ret;exact⟨b,rfl,g⟩
end
def kj(a b c d:Nat):Nat:=a*16777216+b*65536+c*256+d
def jv(a:Nat):List Nat:=[33+a/52200625,33+a/614125%85,33+a/7225%85,33+a/85%85,33+a%85]
def jD:List Nat->List Nat
 |a::b::c::d::e=>(if a=0/\b=0/\c=0/\d=0 then[122]else jv (kj a b c d))++jD e
 | [a,b,c]=>(jv (kj a b c 0)).take 4++[126,62]
 | [a,b]=>(jv (kj a b 0 0)).take 3++[126,62]
 | [a]=>(jv (kj a 0 0 0)).take 2++[126,62]
 | []=>[126,62]
def BS{a b c d:Nat}(e:a<256)(f:b<256)(g:c<256)(h:d<256):kj a b c d<=4294967295:=by unfold kj;omega
def dr{a:Nat}(h:a<=4294967295):∀b,b<5->33<=nth (jv a) b/\nth (jv a) b<=117:=by
 intro b c;have:a/52200625<=84:=Y;match b,c with
 |0,_=>exact⟨by show 33<=33+_;omega,by show 33+a/52200625<=117;omega⟩
 |1,_=>exact⟨by show 33<=33+_;omega,by show 33+a/614125%85<=117;omega⟩
 |2,_=>exact⟨by show 33<=33+_;omega,by show 33+a/7225%85<=117;omega⟩
 |3,_=>exact⟨by show 33<=33+_;omega,by show 33+a/85%85<=117;omega⟩
 |4,_=>exact⟨by show 33<=33+_;omega,by show 33+a%85<=117;omega⟩
def uf(a:Nat):a=85*(a/85)+a%85/\a/85=85*(a/7225)+a/85%85/\a/7225=85*(a/614125)+a/7225%85/\a/614125=85*(a/52200625)+a/614125%85:=by
 have e1:a/7225=a/85/85:=by rw[cR]
 have e2:a/614125=a/7225/85:=by rw[cR]
 have b:a/52200625=a/614125/85:=by rw[cR]
 omega
def Hl(a b c d e:Nat):xm [a,b,c,d,e] 0=((((a-33)*85+(b-33))*85+(c-33))*85+(d-33))*85+(e-33):=by show((((0*85+(a-33))*85+(b-33))*85+(c-33))*85+(d-33))*85+(e-33)=_;rw[Nat.zero_mul,bZ]
def PU{a:Nat}(h:a<=4294967295):xm (jv a) 0=a:=by unfold jv;rw[Hl];obtain⟨e1,e2,b,c⟩:=uf a;omega
def RX{a b c d:Nat}(i:a<256)(j:b<256)(k:c<256)(l:d<256):aO (kj a b c d)=[a,b,c,d]:=by unfold aO kj;have e:(a*16777216+b*65536+c*256+d)/16777216=a:=Y;have f:(a*16777216+b*65536+c*256+d)/65536%256=b:=Y;have g:(a*16777216+b*65536+c*256+d)/256%256=c:=Y;have h:(a*16777216+b*65536+c*256+d)%256=d:=Y;rw[e,f,g,h]
def Kn{S a b c:Nat}(f:a<256)(g:b<256)(h:c<256)(j:a*16777216+b*65536+c*256<=S)(i:S<a*16777216+b*65536+c*256+256):S/16777216=a/\S/65536%256=b/\S/256%256=c:=by
 have e1:S/256=a*65536+b*256+c:=Y;have e2:S/65536=S/256/256:=by rw[cR]
 have d:S/65536=a*256+b:=by rw[e2,e1];omega
 have e:S/16777216=S/65536/256:=by rw[cR]
 refine⟨by rw[e,d];omega,by rw[d];omega,by rw[e1];omega⟩
def Km{S a b:Nat}(e:a<256)(f:b<256)(h:a*16777216+b*65536<=S)(g:S<a*16777216+b*65536+65536):S/16777216=a/\S/65536%256=b:=by
 have c:S/65536=a*256+b:=Y;have d:S/16777216=S/65536/256:=by rw[cR]
 refine⟨by rw[d,c];omega,by rw[c];omega⟩
def Ey{b c d:Nat}(h:b<256)(i:c<256)(j:d<256):wL (nth (jv (kj b c d 0)) 0) (nth (jv (kj b c d 0)) 1) (nth (jv (kj b c d 0)) 2) (nth (jv (kj b c d 0)) 3) 4<=4294967295/\(aO (wL (nth (jv (kj b c d 0)) 0) (nth (jv (kj b c d 0)) 1) (nth (jv (kj b c d 0)) 2) (nth (jv (kj b c d 0)) 3) 4)).take 3=[b,c,d]:=by
 obtain⟨a,f⟩:∃a,a=kj b c d 0:=⟨_,rfl⟩;rw[<-f];have g:wL (nth (jv a) 0) (nth (jv a) 1) (nth (jv a) 2) (nth (jv a) 3) 4=xm [33+a/52200625,33+a/614125%85,33+a/7225%85,33+a/85%85,117] 0:=rfl;obtain⟨e1,e2,o,p⟩:=uf a;unfold kj at f;rw[g,Hl];obtain⟨e,k⟩:∃e,e=((((33+a/52200625-33)*85+(33+a/614125%85-33))*85+(33+a/7225%85-33))*85+(33+a/85%85-33))*85+(117-33):=⟨_,rfl⟩;rw[<-k];have r:a<=e:=Y;have q:e<a+85:=Y;refine⟨Y,?_⟩;show[e/16777216,e/65536%256,e/256%256]=_;obtain⟨l,m,n⟩:=Kn (S:=e) h i j Y Y;rw[l,m,n]
def Ex{b c:Nat}(g:b<256)(h:c<256):wL (nth (jv (kj b c 0 0)) 0) (nth (jv (kj b c 0 0)) 1) (nth (jv (kj b c 0 0)) 2) (nth (jv (kj b c 0 0)) 3) 3<=4294967295/\(aO (wL (nth (jv (kj b c 0 0)) 0) (nth (jv (kj b c 0 0)) 1) (nth (jv (kj b c 0 0)) 2) (nth (jv (kj b c 0 0)) 3) 3)).take 2=[b,c]:=by
 obtain⟨a,e⟩:∃a,a=kj b c 0 0:=⟨_,rfl⟩;rw[<-e];have f:wL (nth (jv a) 0) (nth (jv a) 1) (nth (jv a) 2) (nth (jv a) 3) 3=xm [33+a/52200625,33+a/614125%85,33+a/7225%85,117,117] 0:=rfl;obtain⟨e1,e2,l,m⟩:=uf a;unfold kj at e;rw[f,Hl];obtain⟨d,i⟩:∃d,d=((((33+a/52200625-33)*85+(33+a/614125%85-33))*85+(33+a/7225%85-33))*85+(117-33))*85+(117-33):=⟨_,rfl⟩;rw[<-i];have o:a<=d:=Y;have n:d<a+7225:=Y;refine⟨Y,?_⟩;show[d/16777216,d/65536%256]=_;obtain⟨j,k⟩:=Km (S:=d) g h Y Y;rw[j,k]
def Ew{b:Nat}(i:b<256):wL (nth (jv (kj b 0 0 0)) 0) (nth (jv (kj b 0 0 0)) 1) (nth (jv (kj b 0 0 0)) 2) (nth (jv (kj b 0 0 0)) 3) 2<=4294967295/\(aO (wL (nth (jv (kj b 0 0 0)) 0) (nth (jv (kj b 0 0 0)) 1) (nth (jv (kj b 0 0 0)) 2) (nth (jv (kj b 0 0 0)) 3) 2)).take 1=[b]:=by
 obtain⟨a,d⟩:∃a,a=kj b 0 0 0:=⟨_,rfl⟩;rw[<-d];have e:wL (nth (jv a) 0) (nth (jv a) 1) (nth (jv a) 2) (nth (jv a) 3) 2=xm [33+a/52200625,33+a/614125%85,117,117,117] 0:=rfl;obtain⟨e1,e2,g,h⟩:=uf a;unfold kj at d;rw[e,Hl];obtain⟨c,f⟩:∃c,c=((((33+a/52200625-33)*85+(33+a/614125%85-33))*85+(117-33))*85+(117-33))*85+(117-33):=⟨_,rfl⟩;rw[<-f];have k:a<=c:=Y;have j:c<a+614125:=Y;refine⟨Y,?_⟩;show[c/16777216]=_;rw[show c/16777216=b by omega]
def tP(a:List Nat)(c:Nat)(b:List Nat):Except Nat (List Nat):=if iU a c<G a then .error 5 else .ok b
def Cr(a:List Nat)(e:Nat):Nat->Nat->List Nat->Except Nat (List Nat)
 |0,_,_=>.error 5
 |g+1,c,d=>
  if (G a)<=iU a c then .error 5
  else if nth a (iU a c)=62 then tP a (iU a c+1) d
  else match iG (nth a (iU a c))with
   |none=>.error 5
   |some f=>
    if (G a)<=iU a (iU a c+1)then .error 5
    else if nth a (iU a (iU a c+1))=62 then(if (G d)+1<=e then tP a (iU a (iU a c+1)+1) (d++[16*f])else .error 6)
    else match iG (nth a (iU a (iU a c+1)))with
     |none=>.error 5
     |some b=>if (G d)+1<=e then Cr a e g (iU a (iU a c+1)+1) (d++[16*f+b])else .error 6
def rD(a:List Nat)(d:Nat):Nat->Nat->List Nat->Except Nat (List Nat)
 |0,_,_=>.error 5
 |e+1,b,c=>
  if (G a)<=b then .error 5
  else if nth a b=128 then(if b+1<G a then .error 5 else .ok c)
  else if nth a b<128 then
   if b+1+(nth a b+1)<=G a then
    (if (G c)+(nth a b+1)<=d then rD a d e (b+1+(nth a b+1)) (c++(a.drop (b+1)).take (nth a b+1))else .error 6)
   else .error 5
  else if b+1<G a then
   (if (G c)+(257-nth a b)<=d then rD a d e (b+2) (c++DJ (257-nth a b) (nth a (b+1)))else .error 6)
  else .error 5
def rJ(a k:Nat):Nat:=if k=2 then((a*85+84)*85+84)*85+84 else if k=3 then(a*85+84)*85+84 else a*85+84
def aD(a:List Nat)(d:Nat):Nat->Nat->Nat->Nat->List Nat->Except Nat (List Nat)
 |0,_,_,_,_=>.error 5
 |f+1,b,k,e,c=>
  if (G a)<=iU a b then .error 5
  else if nth a (iU a b)=122/\k=0 then(if (G c)+4<=d then aD a d f (iU a b+1) 0 0 (c++[0,0,0,0])else .error 6)
  else if 33<=nth a (iU a b)/\nth a (iU a b)<=117 then
   if k=4 then
    (if 4294967296<=e*85+(nth a (iU a b)-33)then .error 5
    else if (G c)+4<=d then aD a d f (iU a b+1) 0 0 (c++aO (e*85+(nth a (iU a b)-33)))else .error 6)
   else aD a d f (iU a b+1) (k+1) (e*85+(nth a (iU a b)-33)) c
  else if nth a (iU a b)=126/\iU a b+1<G a/\nth a (iU a b+1)=62/\k≠1 then
   if k=0 then tP a (iU a b+2) c
   else if 4294967296<=rJ e k then .error 5
   else if (G c)+(k-1)<=d then tP a (iU a b+2) (c++(aO (rJ e k)).take (k-1))else .error 6
  else .error 5
section
structure kH(B b:Nat)(S:ByteArray)(most:Nat)(w:vz)(p:Nat)(d:wg)(a:List Nat)(e:Nat):Prop where
 hb:B<=b
 blk:w.heap[b]?=O (BV #[y7 S,I U p,d,I U most,I U e] 106 (0,0))
 own:w.ownsRow B 5 1 d (G a) (a.map λx:Nat=>I .u8 (x:Int))
 lm:most<=1000000
 ls:S.size<=10000000
 lp:p<=8*S.size+8
 lo:G a<=most
 le:e<=6
variable{B b:Nat}{S:ByteArray}{most:Nat}{w:vz}{p:Nat}{d:wg}{a:List Nat}{e:Nat}
def kH.c0(h:kH B b S most w p d a e):w.cell? ⟨b,0,N⟩=O (y7 S):=cb h.blk
def kH.c1(h:kH B b S most w p d a e):w.cell? ⟨b,1,N⟩=O (I U p):=cb h.blk
def kH.c2(h:kH B b S most w p d a e):w.cell? ⟨b,2,N⟩=O d:=cb h.blk
def kH.c3(h:kH B b S most w p d a e):w.cell? ⟨b,3,N⟩=O (I U most):=cb h.blk
def kH.c4(h:kH B b S most w p d a e):w.cell? ⟨b,4,N⟩=O (I U e):=cb h.blk
def kH.fz(h:kH B b S most w p d a e)(c:Nat):w.frozen? ⟨b,c,N⟩=CS:=pA h.blk
def kH.sz(h:kH B b S most w p d a e):B<w.heap.size:=by have:=h.hb;have:=ap h.blk;omega
def kH.drewN(h:kH B b S most w p d a e)(c:Nat):kH B b S most (w.drewN c) p d a e:=⟨h.hb,h.blk,h.own,h.lm,h.ls,h.lp,h.lo,h.le⟩
def kH.alloc(h:kH B b S most w p d a e)(c:Obj):kH B b S most (w.alloc c) p d a e:=⟨h.hb,nt _ h.blk,h.own.alloc _,h.lm,h.ls,h.lp,h.lo,h.le⟩
def kH.set1(h:kH B b S most w p d a e)(c:Nat)(f:c<=8*S.size+8):kH B b S most (w.setCell ⟨b,1,N⟩ (I U c)) c d a e:=
 ⟨h.hb,by rw[nu _ h.blk];rfl,bJ h.own (xM h.own h.blk bF) _,h.lm,h.ls,f,h.lo,h.le⟩
def kH.set4(h:kH B b S most w p d a e)(c:Nat)(f:c<=6):kH B b S most (w.setCell ⟨b,4,N⟩ (I U c)) p d a c:=
 ⟨h.hb,by rw[nu _ h.blk];rfl,bJ h.own (xM h.own h.blk bF) _,h.lm,h.ls,h.lp,h.lo,f⟩
def kH.grown_blk(h:kH B b S most w p d a e){c:vz}(g:w.grownBy c d.ownBlock):c.heap[b]?=O (BV #[y7 S,I U p,d,I U most,I U e] 106 (0,0)):=by
 rw[g.block b (ap h.blk) (λf=>xM h.own h.blk bF f.s)];exact h.blk
def kH.put(h:kH B b S most w p d a e){f:vz}{c:wg}{xs:List Nat}(l:G a+G xs<=most)
  (j:f.ownsRow B 5 1 c (G a+G xs) ((a.map λg:Nat=>I .u8 (g:Int))++(xs.map λg:Nat=>I .u8 (g:Int)))) (k:w.grownBy f d.ownBlock):kH B b S most (f.setCell ⟨b,2,N⟩ c) p c (a++xs) e:=by
 have i:=h.grown_blk k;refine⟨h.hb,?_,?_,h.lm,h.ls,h.lp,by simpa using l,h.le⟩;·rw[nu _ i];rfl
 ·rw[ab,aI];exact bJ j (xM j i bF) _
def kH.ofBelow{m:vz}(h:kH B b S most w p d a e)(k:wm w.heap.size w m):kH B b S most m p d a e:=by
 refine⟨h.hb,?_,?_,h.lm,h.ls,h.lp,h.lo,h.le⟩;·rw[k.block _ (ap h.blk)];exact h.blk
 ·exact own_below' h.own k
 where
 own_below' {B:Nat} {e:TypeId} {k:Nat} {j:wg} {i:Nat} {n:List wg} {w l:vz} (h:w.ownsRow B e k j i n) (b:wm w.heap.size w l):l.ownsRow B e k j i n:=by
  obtain⟨r,f⟩:=h;refine⟨r,?_⟩;rcases f with f|⟨q,c,o,e1,e2,g,s⟩;·exact C1 f
  ·exact C2 ⟨q,c,o,e1,e2,by rw[b.block _ (ap g)];exact g,s⟩
def kH.posOf(h:kH B b S most w p d a e):posOf b w=p:=by unfold Go.Proofs.YtgkljcmjnphpeaaGreatDoor.posOf;rw[h.c1];simp[intOf]
def qT(c e:Nat):Nat:=if e=0 then c else e
def ro(h:kH B b S most w p d a e)(c:Nat)(i:c<=6):wh DG 109 #[A3 (O ⟨b,0,N⟩),I U c] w λj g=>j=BX (BG #[])/\kH B b S most g p d a (qT c e)/\Kept 5 B [b] w g:=by
 have k:=h.c4;have l:=h.fz 4;have m:=h.le;by_cases f:e=0
 ·subst f
  go_in
  go_wp2
  go_end0
  exact⟨rfl,h.set4 c i,(Kept.refl _ _ _ _).setCell cO _⟩
 ·have e0:((e:Int)==0)=CS:=eS
  go_in
  go_wp2
  go_end0
  exact⟨rfl,by unfold qT;rw[aj f];exact h,Kept.refl _ _ _ _⟩
def pQ(most f:Nat)(c:List Nat×Nat):List Nat×Nat:=if c.2=0 then(if most<=c.1.length then(c.1,6)else(c.1++[f],0))else c
def GP(h:kH B b S most w p d a e)(c:Nat)(hc:c<256):wh DG 108 #[A3 (O ⟨b,0,N⟩),I .u8 c] w λk z=>k=BX (BG #[])/\∃R,kH B b S most z p R (pQ most c (a,e)).1 (pQ most c (a,e)).2/\Kept 5 B [b] w z:=by
 obtain⟨P,J,K,L,M⟩:=bR infoByte;have r:=h.c2;have c3:=h.c3;have c4:=h.c4;have le:=h.le;have lm:=h.lm;obtain⟨X,oc,m⟩:=ke h.own;have C:=H m;rw[m]at r;clear m;by_cases t:e=0
 ·subst t;by_cases v:most<=G a
  ·have F:decide ((most:Int)<=(G a:Int))=CD:=eS;have A:=H (λT=>ro (h.drewN T) 6 Y)
   go_in
   go_wp2_with fail;go_quiet (fail);go_wp2_with fail;apply(A nq).m;rintro k w1 ⟨rfl,u,Q⟩;have s:=u.c4;unfold qT at s;simp only[if_true]at s;go_wp2
   go_end0
   refine⟨rfl,d,?_,((Kept.refl _ _ _ _).drewN nq).t Q⟩;simp only[pQ,if_true,ak v];exact u
  ·have F:decide ((most:Int)<=(G a:Int))=CS:=eS;have hs:=h.sz
   go_in
   go_wp2_with fail;go_quiet (fail);have i:=H ((h.drewN nq).alloc (BV #[I .u8 (c:Nat)] 5));rw[<-C.o]at r;go_wp2_with (at_builtin;refine aX _ rfl (.tmp 32) (.tmp 34) 23 rfl B 5 P (I .u8 0) 1 1 az J K L M rfl bF d (G a) _ rfl i.o.own ⟨w.heap.size,0,N⟩ 1 1 ([c].map λk:Nat=>I .u8 (k:Int)) rfl rfl ?hnews ?hone ?h63 ?hby ?hbs ?_)
   case hnews=>
    intro x V f;match x,f with
    |0,f=>exact(cb (bn (w.drewN nq) _)).t f
    |x+1,f=>simp at f
   case hone=>intro V f;simp at f;subst f;rfl
   case h63=>unfold maxLen;omega
   case hby=>omega
   case hbs=>simp;omega
   intro v' W n g _;have j:((w.drewN nq).alloc (BV #[I .u8 (c:Nat)] 5)).grownBy W d.ownBlock:=⟨g.os,g.tape,g.output,g.size,g.block⟩;clear g;have l:=i.o.grown_blk j;have k2:=yB l;have f2:=lQ 2 l;obtain⟨q,y,rfl⟩:=ke n;have E:=H (i.put (xs:=[c]) eS n j);have D:=H (((((Kept.refl 5 B [b] w).drewN nq).alloc (BV #[I .u8 (c:Nat)] 5)).grown j (oQ i.o.own)).setCell (p:=⟨b,2,N⟩) cO (Z q (G a+1) y));clear n j l i;go_wp2
   go_end0
   refine⟨rfl,Z q (G a+1) y,?_,D⟩;simp only[pQ,if_true,aj v];exact E
 ·have e0:((e:Int)==0)=CS:=eS
  go_in
  go_wp2_with fail;go_quiet (fail);go_wp2
  go_end0
  refine⟨rfl,d,?_,(Kept.refl _ _ _ _).drewN nq⟩;simp only[pQ,aj t];exact h.drewN nq
end
section
variable{B b:Nat}{S:ByteArray}{most:Nat}{w:vz}{p:Nat}{g:wg}{a:List Nat}{e:Nat}
def IJ(c:Nat)(w:vz):wh DG 150 #[I .u8 c] w λh f=>h=BX (Bs (wB c))/\f=w:=by
 have d:wB c=((c:Int)==0||(c:Int)==9||(c:Int)==10||(c:Int)==12||(c:Int)==13||(c:Int)==32):=by unfold wB;rw[cH];simp;omega
 rw[d]
 go_in
 go_wp2;all_goals (go_ret;exact⟨by simp[*],rfl⟩)
def ou(d:List Nat)(p:Nat):Int:=if iU d p<G d then(nth d (iU d p):Nat)else -1
def sr(d:List Nat)(p:Nat):Nat:=if iU d p<G d then iU d p+1 else (G d)
def FJ(h:kH B b S most w p g a e)(K:p<=S.size):wh DG 105 #[A3 (O ⟨b,0,N⟩)] w λP z=>P=BX (I U (ou (bl S) p))/\kH B b S most z (sr (bl S) p) g a e/\Kept 5 B [b] w z:=by
 have f:=mC S;have ls:=h.ls
 go_in
 go_wp2;go_loopw [3] (λ_ wr=>∃c:Nat,c<=S.size/\wt (iU (bl S) c=iU (bl S) p)/\kH B b S most wr c g a e/\Kept 5 B [b] w wr) (λ_ wr=>S.size-posOf b wr)
 case atStart=>exact⟨p,K,rfl,h,Kept.refl _ _ _ _⟩
 case round=>
  clear h;obtain⟨c,hq,q,r,j⟩:=hrel;have M:=H r.posOf;have Q:=r.c0;have R:=r.c1;have V:=r.fz 1;by_cases v:c<S.size
  ·have X:(c:Int)<S.size:=Y;have l:=H f;have hx:=rT S c v;have W:=lJ S c v;have A:=H (Kf (d:=bl S) (p:=c) Y);have C:=H (GS (d:=bl S) (p:=c));have L:=λF=>IJ (nth (bl S) c) F;have n:=H r;have k:=H j;clear r j f;go_wp2_with fail;go_quiet (fail);have E:=H ((n.drewN nq).set1 (c+1) Y);have D:=H ((k.drewN nq).setCell (p:=⟨b,1,N⟩) cO (I U ((c+1:Nat):Int)));go_wp2_with fail;have T:IntKind.i64.wrap ((c:Int)+1-1)=(c:Int):=by rw[bu];omega
   go_quiet ((go_at_call 150;exact dA (L _)));have s:=H (E.drewN nq);have u:=H (D.drewN nq);cases y:wB (nth (bl S) c)with
   |true=>
    have m:=H ((A y).s.t q);go_wp2;go_roundw
    case rel=>exact⟨c+1,Y,m,s,u⟩
    case measure=>have e:=s.o.posOf;rw[show((c+1:Nat):Int)=(c:Int)+1 by omega]at e;rw[M.o,e];omega
   |false=>
    have m:=H ((C (λt=>by rw[y]at t;cases t.2)).s.t q);go_wp2_with fail;go_quiet (fail);go_wp2;go_ret;have i:=m.o;have J:=l.o;have e1:ou (bl S) p=(nth (bl S) c:Nat):=by unfold ou;rw[<-i,ak Y]
    have e2:sr (bl S) p=c+1:=by unfold sr;rw[<-i,ak Y]
    rw[e1,e2];exact⟨rfl,s.drewN nq,u.drewN nq⟩
  ·have l:=H f;have i:=H ((GS (d:=bl S) (p:=c) (λt=>Y)).s.t q);have aa:c=S.size:=Y;have n:=H r;have k:=H j;clear r j f;go_wp2_with fail;go_quiet (fail);go_wp2;go_ret;have J:=l.o;have x:=i.o;have e1:ou (bl S) p = -1:=by unfold ou;rw[<-x,aj Y]
   have e2:sr (bl S) p=c:=by unfold sr;rw[<-x,aj Y];omega
   rw[e1,e2];exact⟨rfl,n.drewN nq,k.drewN nq⟩
def Ny(S:ByteArray)(p:Nat) : -1<=ou (bl S) p/\ou (bl S) p<256:=by
 unfold ou;split
 ·rename_i h;rw[mC]at h;have:=lJ S _ h;omega
 ·omega
def td(c:List Nat)(p e:Nat):Nat:=if iU c p<G c then qT 5 e else e
def Em(h:kH B b S most w p g a e)(m:p<=S.size):wh DG 106 #[A3 (O ⟨b,0,N⟩)] w λf k=>f=BX (BG #[])/\kH B b S most k (sr (bl S) p) g a (td (bl S) p e)/\Kept 5 B [b] w k:=by
 have c:=H (FJ h m);by_cases d:iU (bl S) p<(bl S).length
 ·have e1:ou (bl S) p=(nth (bl S) (iU (bl S) p):Nat):=by unfold ou;rw[ak d]
  have e2:td (bl S) p e=qT 5 e:=by unfold td;rw[ak d]
  rw[e1]at c;rw[e2];clear h;generalize nth (bl S) (iU (bl S) p)=r at *
  go_in
  go_wp2_with fail;apply c.o.m;rintro f q ⟨rfl,i,j⟩;go_wp2_with fail;apply(ro i 5 Y).m;rintro f s ⟨rfl,l,n⟩;go_wp2
  go_end0
  exact⟨rfl,l,j.t n⟩
 ·have e1:ou (bl S) p = -1:=by unfold ou;rw[aj d]
  have e2:td (bl S) p e=e:=by unfold td;rw[aj d]
  rw[e1]at c;rw[e2];clear h
  go_in
  go_wp2_with fail;apply c.o.m;rintro f q ⟨rfl,i,j⟩;go_wp2
  go_end0
  exact⟨rfl,i,j⟩
def oS(c:Int):Int:=if c<0 then -1 else match iG c.toNat with
 |some d=>(d:Nat)
 |none=> -1
def yH(c:Nat):Nat:=gR c
def AW(c:Nat):Nat:=if c<10 then 48+c else 55+c
def Tm:∀c:Fin 16,oS (yH c.val:Nat)=(c.val:Nat):=by decide +kernel
def su:∀c:Fin 16,oS (AW c.val:Nat)=(c.val:Nat):=by decide +kernel
def Ti:∀c:Fin 256,(∀d:Fin 16,c.val≠yH d.val/\c.val≠AW d.val)->oS (c.val:Nat) = -1:=by decide +kernel
def G4(c:Nat)(h:c<16)(d:c<({data:=#[48,49,50,51,52,53,54,55,56,57,65,66,67,68,69,70]}:ByteArray).size):(({data:=#[48,49,50,51,52,53,54,55,56,57,65,66,67,68,69,70]}:ByteArray)[c]'d).toNat=AW c:=by
 match c,h with
 |0,_=>rfl
 |1,_=>rfl
 |2,_=>rfl
 |3,_=>rfl
 |4,_=>rfl
 |5,_=>rfl
 |6,_=>rfl
 |7,_=>rfl
 |8,_=>rfl
 |9,_=>rfl
 |10,_=>rfl
 |11,_=>rfl
 |12,_=>rfl
 |13,_=>rfl
 |14,_=>rfl
 |15,_=>rfl
 |f+16,h=>exact absurd h Y
def BI(c:Int)(s : -1<=c)(t:c<256)(w:vz):wh DG 107 #[I U c] w λC A=>C=BX (I U (oS c))/\A=w:=by
 go_in
 go_wp2;go_loopw [3] (λj wr=>∃k:Nat,k<=16/\j=I U k/\wt (∀d,d<k->c≠(yH d:Nat)/\c≠(AW d:Nat))/\wr=w) (λj _=>16-(intOf j).toNat)
 case atStart=>exact⟨0,Y,rfl,λd y=>Y,rfl⟩
 case round=>
  obtain⟨k,K,rfl,l,rfl⟩:=hrel;by_cases f:k<16
  ·have M:=Gf k f (by show k<16;omega);have P:=G4 k f (by show k<16;omega);have L:(k:Int)<16:=Y;have m:=H (Tm ⟨k,f⟩);have n:=H (su ⟨k,f⟩);simp only[yH]at m n;have F:=vR k f;have J:AW k<256:=by unfold AW;split<;>omega
   have u:wt ((∀d,d<k->c≠(yH d:Nat)/\c≠(AW d:Nat))->c≠(gR k:Nat)->c≠(AW k:Nat)->∀d,d<k+1->c≠(yH d:Nat)/\c≠(AW d:Nat)):=by
    intro s t v d y;by_cases e:d=k;·subst e;exact⟨t,v⟩
    ·exact s d Y
   generalize gR k=q at *;generalize AW k=r at *;by_cases h:c=(q:Nat)
   ·subst h;go_wp2;go_ret;exact⟨ri m.s,rfl⟩
   ·have D:(c==(q:Int))=CS:=by simpa using h
    by_cases i:c=(r:Nat)
    ·subst i;go_wp2;go_ret;exact⟨ri n.s,rfl⟩
    ·have E:(c==(r:Int))=CS:=by simpa using i
     go_wp2;go_roundw
     case rel=>exact⟨k+1,Y,by go_num,u l h i,trivial⟩
     case measure=>exact eT
  ·obtain rfl:k=16:=Y;go_wp2;go_ret;refine⟨ri ?_,rfl⟩;by_cases x:c<0;·simp[oS,x]
   ·obtain⟨z,rfl⟩:=Int.eq_ofNat_of_zero_le (show 0<=c by omega);have:=Ti ⟨z,Y⟩ (λd=>by
     have:=l.o d.val d.isLt;constructor;·intro e;exact this.1 (by simp only[]at e;omega)
     ·intro e;exact this.2 (by simp only[]at e;omega))
    exact this.s
def yy(d:Except Nat (List Nat))(h:List Nat)(e:Nat):Prop:=match d with
 | .ok f=>e=0/\h=f
 | .error c=>e=c/\c≠0
def errOf(b:Nat)(w:vz):Nat:=(intOf ((w.cell? ⟨b,4,N⟩).getD undef)).toNat
def kH.errOf(h:kH B b S most w p g a e):errOf b w=e:=by unfold Go.Proofs.YtgkljcmjnphpeaaGreatDoor.errOf;rw[h.c4];simp[intOf]
def Eo{c:Nat}(h:G a+1<=most):pQ most c (a,0)=(a++[c],0):=by unfold pQ;simp only[if_true];rw[aj Y]
def FG{c:Nat}(h:¬(G a)+1<=most):pQ most c (a,0)=(a,6):=by unfold pQ;simp only[if_true];rw[ak Y]
def Nf{d c:Nat}(h:c≠0):pQ most d (a,c)=(a,c):=by unfold pQ;simp only[aj h]
def rz(c:Nat):qT c 0=c:=by unfold qT;simp
def FF{c e:Nat}(h:e≠0):qT c e=e:=by unfold qT;rw[aj h]
def Iz(c:List Nat)(f:Nat)(d:List Nat):yy (tP c f d) d (td c f 0):=by
 unfold tP td;split;·exact⟨rz 5,Y⟩
 ·exact⟨rfl,rfl⟩
def JU{d:List Nat}{f c:Nat}(h:c≠0):td d f c=c:=by
 unfold td;split;·exact FF h
 ·rfl
def KF(i:Nat->Nat->List Nat->Except Nat (List Nat))(h:Nat)(d:Except Nat (List Nat))(c:Nat)(j:List Nat)(e:Nat):Prop:=
 (e=0/\c<=h/\∃f,i f c j=d/\h-c<f)\/(e≠0/\d=.error e)
def Ka{c:List Nat}{p:Nat}(h:¬(G c)<=iU c p):ou c p=(nth c (iU c p):Nat):=by unfold ou;rw[ak Y]
def J9{c:List Nat}{p:Nat}(h:¬(G c)<=iU c p):sr c p=iU c p+1:=by unfold sr;rw[ak Y]
def IOx{c:List Nat}{p:Nat}(h:G c<=iU c p):ou c p = -1:=by unfold ou;rw[aj Y]
def IM{c:List Nat}{p:Nat}(h:G c<=iU c p):sr c p=G c:=by unfold sr;rw[aj Y]
def Nz{c d:Nat}(h:iG c=O d):oS (c:Nat)=(d:Nat):=by unfold oS;rw[aj Y,show((c:Nat):Int).toNat=c by omega,h]
def GU{c:Nat}(h:iG c=N):oS (c:Nat) = -1:=by unfold oS;rw[aj Y,show((c:Nat):Int).toNat=c by omega,h]
def DI{d c:Nat}(h:iG d=O c):c<16:=by
 unfold iG at h;split at h;·simp at h;omega
 ·split at h;·simp at h;omega
  ·split at h;·simp at h;omega
   ·cases h
def Tb:oS 62 = -1:=by decide +kernel
def Kb:oS (-1) = -1:=by decide +kernel
def Ke(c:Int)(h:c<256) : -1<=oS c/\oS c<16:=by
 unfold oS;split;·omega
 ·split
  ·rename_i f d;have:=DI d;omega
  ·omega
def yS(h:kH B b S most w p g a e)(d:Int)(c:Nat)(j:d=c)(i:c<256):wh DG 108 #[A3 (O ⟨b,0,N⟩),I .u8 d] w λl f=>l=BX (BG #[])/\∃k,kH B b S most f p k (pQ most c (a,e)).1 (pQ most c (a,e)).2/\Kept 5 B [b] w f:=by
 subst j;exact GP h c i
def IE(h:kH B b S most w p g a e)(j:e≠0)(c:Int)(i:0<=c)(m:c<256):wh DG 108 #[A3 (O ⟨b,0,N⟩),I .u8 c] w λl d=>l=BX (BG #[])/\∃k,kH B b S most d p k a e/\Kept 5 B [b] w d:=by
 obtain⟨f,rfl⟩:=Int.eq_ofNat_of_zero_le i;have:=GP h f Y;rw[Nf j]at this;exact this
def SH(h:kH B b S most w p g a 0)(hp:p<=S.size)(ao:Except Nat (List Nat))(a0:Nat)(hf:S.size-p<a0)(hR:Cr (bl S) most a0 p a=ao):wh DG 74 #[A3 (O ⟨b,0,N⟩)] w λc o=>c=BX (BG #[])/\∃p' ac m e,kH B b S most o p' ac m e/\yy ao m e/\Kept 5 B [b] w o:=by
 have hl:=mC S
 go_in
 go_wp2;go_loopw [2] (λ_ wr=>∃(u:Nat) (ac:wg) (m:List Nat) (e:Nat),kH B b S most wr u ac m e/\wt (KF (Cr (bl S) most) S.size ao u m e)/\Kept 5 B [b] w wr) (λ_ wr=>if errOf b wr=0 then S.size+1-posOf b wr else 0)
 case atStart=>exact⟨p,g,a,0,h,C1 ⟨rfl,hp,a0,hR,hf⟩,Kept.refl _ _ _ _⟩
 case round=>
  obtain⟨u,ac,m,e,r,a6,z⟩:=hrel;have W:=H r.posOf;have V:=H r.errOf;have c4:=r.c4;rcases a6.o with⟨rfl,hq,f',d,bf⟩|⟨he,hR⟩
  ·obtain⟨a1,rfl⟩:∃a1,f'=a1+1:=⟨f'-1,Y⟩;have a4:=H hl;have sv:=Ny S u;have P:=H (FJ r hq);simp only[Cr]at d;by_cases R:(bl S).length<=iU (bl S) u
   ·rw[ak R]at d;rw[IOx R,IM R]at P;have j:=H d;go_wp2_with fail;apply P.o.m;rintro c w1 ⟨rfl,L,t⟩;have x:=H (FJ L (by rw[a4.o];exact ag _));have e2:iU (bl S) (bl S).length=(bl S).length:=GS (λba=>Y);rw[IOx (by rw[e2];exact ag _),IM (by rw[e2];exact ag _)]at x;go_wp2_with fail;apply x.o.m;rintro c X ⟨rfl,n,k⟩;have J:=BI (-1) Y Y;rw[Kb]at J;go_wp2_with (go_at_call 107;apply(J _).m;rintro c o ⟨rfl,rfl⟩);apply(ro n 5 Y).m;rintro c M ⟨rfl,f,l⟩;rw[rz]at f;go_wp2_with fail;apply(IE f Y _ nF nF).m;rintro c w4 ⟨rfl,K,i,y⟩;have E:=H i.errOf;go_wp2;go_roundw
    case rel=>exact⟨_,K,m,5,i,C2 ⟨Y,j.s⟩,(((z.t t).t k).t l).t y⟩
    case measure=>rw[W.o,V.o,E.o];simp;omega
   ·rw[aj R]at d;rw[Ka R,J9 R]at P;have hX:nth (bl S) (iU (bl S) u)<256:=lJ S _ Y;have a2:iU (bl S) u+1<=S.size:=Y;have bh:u<=iU (bl S) u:=Kc _ _;generalize nth (bl S) (iU (bl S) u)=al at *;generalize hK:iU (bl S) u=q at *;by_cases c2:al=62
    ·rw[ak c2]at d;subst c2;have j:=H d;go_wp2_with fail;apply P.o.m;rintro c w1 ⟨rfl,L,t⟩;go_wp2_with fail;apply(Em L a2).m;rintro c X ⟨rfl,n,k⟩;go_wp2;refine aK (v:=BG #[]) ty rfl ?_;exact⟨rfl,_,_,_,_,n,by rw[<-j.o];exact Iz _ _ _,(z.t t).t k⟩
    ·rw[aj c2]at d;have bb:((al:Int)==62)=CS:=eS;have sv:=Ny S (q+1);have J:=BI (al:Int) Y Y;cases hx:iG al with
     |none=>
      rw[hx]at d;simp only[]at d;rw[GU hx]at J;have j:=H d;have Q:=H J;go_wp2_with fail;apply P.o.m;rintro c w1 ⟨rfl,L,t⟩;have x:=H (FJ L a2);have s:=BI (ou (bl S) (q+1)) sv.1 sv.2;have hZ:=Ke (ou (bl S) (q+1)) sv.2;generalize oS (ou (bl S) (q+1))=a9 at *;generalize ou (bl S) (q+1)=aa at *;have C:=H s;go_wp2_with fail;apply x.o.m;rintro c X ⟨rfl,n,k⟩;go_wp2_with fail;apply(Q _).m;rintro c o ⟨rfl,rfl⟩;go_wp2_with fail;apply(C _).m;rintro c o ⟨rfl,rfl⟩;go_wp2_with fail;apply(ro n 5 Y).m;rintro c M ⟨rfl,f,l⟩;rw[rz]at f;go_wp2_with fail;apply(IE f Y _ nF nF).m;rintro c w4 ⟨rfl,K,i,y⟩;have E:=H i.errOf;go_wp2;go_roundw
      case rel=>exact⟨_,K,m,5,i,C2 ⟨Y,j.s⟩,(((z.t t).t k).t l).t y⟩
      case measure=>rw[W.o,V.o,E.o];simp;omega
     |some x0=>
      rw[hx]at d;simp only[]at d;rw[Nz hx]at J;have br:=DI hx;have Q:=H J;go_wp2_with fail;apply P.o.m;rintro c w1 ⟨rfl,L,t⟩;have x:=H (FJ L a2);by_cases T:(bl S).length<=iU (bl S) (q+1)
      ·rw[ak T]at d;have j:=H d;rw[IOx T,IM T]at x;have s:=BI (-1) Y Y;rw[Kb]at s;have C:=H s;go_wp2_with fail;apply x.o.m;rintro c X ⟨rfl,n,k⟩;go_wp2_with fail;apply(Q _).m;rintro c o ⟨rfl,rfl⟩;go_wp2_with fail;apply(C _).m;rintro c o ⟨rfl,rfl⟩;go_wp2_with fail;apply(ro n 5 Y).m;rintro c M ⟨rfl,f,l⟩;rw[rz]at f;go_wp2_with fail;apply(IE f Y _ nF nF).m;rintro c w4 ⟨rfl,K,i,y⟩;have E:=H i.errOf;go_wp2;go_roundw
       case rel=>exact⟨_,K,m,5,i,C2 ⟨Y,j.s⟩,(((z.t t).t k).t l).t y⟩
       case measure=>rw[W.o,V.o,E.o];simp;omega
      ·rw[aj T]at d;rw[Ka T,J9 T]at x;have hY:nth (bl S) (iU (bl S) (q+1))<256:=lJ S _ Y;have a3:iU (bl S) (q+1)+1<=S.size:=Y;have bm:q+1<=iU (bl S) (q+1):=Kc _ _;generalize nth (bl S) (iU (bl S) (q+1))=aa at *;generalize hM:iU (bl S) (q+1)=a8 at *;by_cases c4:aa=62
       ·rw[ak c4]at d;subst c4;have s:=BI 62 Y Y;rw[Tb]at s;have C:=H s;have j:=H d;have a7:(16*(x0:Int))%256=((16*x0:Nat):Int):=Y;go_wp2_with fail;apply x.o.m;rintro c X ⟨rfl,n,k⟩;go_wp2_with fail;apply(Q _).m;rintro c o ⟨rfl,rfl⟩;go_wp2_with fail;apply(C _).m;rintro c o ⟨rfl,rfl⟩;have A:=H (GP n (16*x0) Y);by_cases D:G m+1<=most
        ·rw[Eo D]at A;have F:=H (j.s.t (ak D));go_wp2_with fail;apply A.o.m;rintro c M ⟨rfl,ad,f,l⟩;go_wp2_with fail;apply(Em f a3).m;rintro c w4 ⟨rfl,i,y⟩;go_wp2;refine aK (v:=BG #[]) ty rfl ?_;exact⟨rfl,_,_,_,_,i,by rw[F.o];exact Iz _ _ _,(((z.t t).t k).t l).t y⟩
        ·rw[FG D]at A;have F:=H (j.s.t (aj D));go_wp2_with fail;apply A.o.m;rintro c M ⟨rfl,ad,f,l⟩;go_wp2_with fail;apply(Em f a3).m;rintro c w4 ⟨rfl,i,y⟩;rw[JU Y]at i;go_wp2;refine aK (v:=BG #[]) ty rfl ?_;exact⟨rfl,_,_,_,_,i,by rw[F.o];exact⟨rfl,Y⟩,(((z.t t).t k).t l).t y⟩
       ·rw[aj c4]at d;have bc:((aa:Int)==62)=CS:=eS;have s:=BI (aa:Int) Y Y;cases hy:iG aa with
        |none=>
         rw[hy]at d;simp only[]at d;rw[GU hy]at s;have j:=H d;have C:=H s;go_wp2_with fail;apply x.o.m;rintro c X ⟨rfl,n,k⟩;go_wp2_with fail;apply(Q _).m;rintro c o ⟨rfl,rfl⟩;go_wp2_with fail;apply(C _).m;rintro c o ⟨rfl,rfl⟩;go_wp2_with fail;apply(ro n 5 Y).m;rintro c M ⟨rfl,f,l⟩;rw[rz]at f;go_wp2_with fail;apply(IE f Y _ nF nF).m;rintro c w4 ⟨rfl,K,i,y⟩;have E:=H i.errOf;go_wp2;go_roundw
         case rel=>exact⟨_,K,m,5,i,C2 ⟨Y,j.s⟩,(((z.t t).t k).t l).t y⟩
         case measure=>rw[W.o,V.o,E.o];simp;omega
        |some y0=>
         rw[hy]at d;simp only[]at d;rw[Nz hy]at s;have bs:=DI hy;have j:=H d;have C:=H s;have a7:(16*(x0:Int)+(y0:Int))%256=((16*x0+y0:Nat):Int):=Y;go_wp2_with fail;apply x.o.m;rintro c X ⟨rfl,n,k⟩;go_wp2_with fail;apply(Q _).m;rintro c o ⟨rfl,rfl⟩;go_wp2_with fail;apply(C _).m;rintro c o ⟨rfl,rfl⟩;have A:=H (GP n (16*x0+y0) Y);by_cases D:G m+1<=most
         ·rw[Eo D]at A;have F:=H (j.s.t (ak D));go_wp2_with fail;apply A.o.m;rintro c M ⟨rfl,ad,f,l⟩;have m3:=H f.errOf;have E:=H f.posOf;go_wp2;go_roundw
          case rel=>exact⟨_,ad,_,0,f,C1 ⟨rfl,a3,a1,F.s,Y⟩,((z.t t).t k).t l⟩
          case measure=>rw[W.o,V.o,m3.o,E.o];simp;omega
         ·rw[FG D]at A;have F:=H (j.s.t (aj D));go_wp2_with fail;apply A.o.m;rintro c M ⟨rfl,ad,f,l⟩;have m3:=H f.errOf;go_wp2;go_roundw
          case rel=>exact⟨_,ad,_,6,f,C2 ⟨Y,F⟩,((z.t t).t k).t l⟩
          case measure=>rw[W.o,V.o,m3.o];simp;omega
  ·have bd:((e:Int)==0)=CS:=eS;have a5:=H hR;go_wp2
   go_end0
   exact⟨rfl,u,ac,m,e,r,by rw[a5.o];exact⟨rfl,he⟩,z⟩
def mJ(most:Nat)(f:List Nat)(c:List Nat×Nat):List Nat×Nat:=f.foldl (λc d=>pQ most d c) c
def rs(most:Nat)(d:List Nat)(c:Nat)(f:List Nat×Nat):mJ most (d++[c]) f=pQ most c (mJ most d f):=by simp[mJ]
def J4(most:Nat)(c:List Nat){d:Nat}(h:d≠0)(f:List Nat):mJ most c (f,d)=(f,d):=by
 induction c with
 |nil=>rfl
 |cons i c j=>show mJ most c (pQ most i (f,d))=_;rw[Nf h];exact j
def FH(most:Nat):∀(c:List Nat) (d:List Nat),G d+G c<=most->mJ most c (d,0)=(d++c,0)
 | [],d,_=>by simp[mJ]
 |f::c,d,h=>by simp only[ai]at h;show mJ most c (pQ most f (d,0))=_;rw[Eo Y,FH most c _ eS];simp
def rf(most:Nat):∀(d:List Nat) (c:List Nat),G c<=most->most<G c+G d->(mJ most d (c,0)).2=6
 | [],c,j,h=>by simp at h;omega
 |i::d,c,j,h=>by
  simp only[ai]at h;show(mJ most d (pQ most i (c,0))).2=_;by_cases f:G c+1<=most
  ·rw[Eo f];exact rf most d _ eS eS
  ·rw[FG f,J4 most d Y]
def wJ(c:Nat):List Nat:=[c/16777216%256,c/65536%256,c/256%256,c%256]
def LH{c:Nat}(h:c<4294967296):wJ c=aO c:=by unfold wJ aO;rw[dR (show c/16777216<256 by omega)]
def s8(c e:Nat):Nat:=if 4294967296<=c then qT 5 e else e
def tg(d c:Nat)(f:c<4):(wJ d).take (c+1)=(wJ d).take c++[nth (wJ d) c]:=by
 match c,f with
 |0,_=>rfl
 |1,_=>rfl
 |2,_=>rfl
 |3,_=>rfl
def Jq(h:kH B b S most w p g a e)(d k:Nat)(P:d<=5000000000)(M:k<=4):wh DG 110 #[A3 (O ⟨b,0,N⟩),I U d,I U k] w λm J=>m=BX (BG #[])/\∃t,kH B b S most J p t (mJ most ((wJ d).take k) (a,s8 d e)).1 (mJ most ((wJ d).take k) (a,s8 d e)).2/\Kept 5 B [b] w J:=by
 obtain⟨u,y⟩:∃u,s8 d e=u:=⟨_,rfl⟩;rw[y];by_cases C:4294967296<=d
 ·have E:(4294967296:Int)<=d:=Y;have D:qT 5 e=u:=by rw[<-y,s8,ak C]
  have F:=H (ro h 5 Y);rw[D]at F;clear y D
  go_in
  go_wp2_with fail;apply F.o.m;rintro m Q ⟨rfl,A,z⟩;go_wp2;go_loopw [6] (λv wr=>∃(c:Nat) (t:wg),c<=k/\v=I U c/\kH B b S most wr p t (mJ most ((wJ d).take c) (a,u)).1 (mJ most ((wJ d).take c) (a,u)).2/\Kept 5 B [b] w wr) (λv _=>k-(intOf v).toNat)
  case atStart=>exact⟨0,g,aw _,rfl,by simpa[mJ]using A,z⟩
  clear A z C E
  case round=>
   obtain⟨c,t,K,rfl,r,l⟩:=hrel;by_cases s:c<k
   ·have L:(c:Int)<k:=Y;have q:=H (tg d c Y);have n:=H (rs most ((wJ d).take c) (nth (wJ d) c) (a,u));obtain rfl|rfl|rfl|rfl:c=0\/c=1\/c=2\/c=3:=Y
    ·go_wp2_with fail;apply(yS r _ (d/16777216%256) Y Y).m;rintro m x ⟨rfl,i,j,f⟩;go_wp2;go_roundw
     case rel=>exact⟨1,i,s,rfl,by rw[q.o,n.o];exact j,l.t f⟩
     case measure=>exact eT
    ·go_wp2_with fail;apply(yS r _ (d/65536%256) Y Y).m;rintro m x ⟨rfl,i,j,f⟩;go_wp2;go_roundw
     case rel=>exact⟨2,i,s,rfl,by rw[q.o,n.o];exact j,l.t f⟩
     case measure=>exact eT
    ·go_wp2_with fail;apply(yS r _ (d/256%256) Y Y).m;rintro m x ⟨rfl,i,j,f⟩;go_wp2;go_roundw
     case rel=>exact⟨3,i,s,rfl,by rw[q.o,n.o];exact j,l.t f⟩
     case measure=>exact eT
    ·go_wp2_with fail;apply(yS r _ (d%256) Y Y).m;rintro m x ⟨rfl,i,j,f⟩;go_wp2;go_roundw
     case rel=>exact⟨4,i,s,rfl,by rw[q.o,n.o];exact j,l.t f⟩
     case measure=>exact eT
   ·obtain rfl:c=k:=Y;go_wp2
    go_end0
    exact⟨rfl,t,r,l⟩
 ·have E:¬(4294967296:Int)<=d:=Y;have D:e=u:=by rw[<-y,s8,aj C]
  subst D;have A:=h;have z:=Kept.refl 5 B [b] w;clear y h
  go_in
  go_wp2;go_loopw [6] (λv wr=>∃(c:Nat) (t:wg),c<=k/\v=I U c/\kH B b S most wr p t (mJ most ((wJ d).take c) (a,e)).1 (mJ most ((wJ d).take c) (a,e)).2/\Kept 5 B [b] w wr) (λv _=>k-(intOf v).toNat)
  case atStart=>exact⟨0,g,aw _,rfl,by simpa[mJ]using A,z⟩
  clear A z C E
  case round=>
   obtain⟨c,t,K,rfl,r,l⟩:=hrel;by_cases s:c<k
   ·have L:(c:Int)<k:=Y;have q:=H (tg d c Y);have n:=H (rs most ((wJ d).take c) (nth (wJ d) c) (a,e));obtain rfl|rfl|rfl|rfl:c=0\/c=1\/c=2\/c=3:=Y
    ·go_wp2_with fail;apply(yS r _ (d/16777216%256) Y Y).m;rintro m x ⟨rfl,i,j,f⟩;go_wp2;go_roundw
     case rel=>exact⟨1,i,s,rfl,by rw[q.o,n.o];exact j,l.t f⟩
     case measure=>exact eT
    ·go_wp2_with fail;apply(yS r _ (d/65536%256) Y Y).m;rintro m x ⟨rfl,i,j,f⟩;go_wp2;go_roundw
     case rel=>exact⟨2,i,s,rfl,by rw[q.o,n.o];exact j,l.t f⟩
     case measure=>exact eT
    ·go_wp2_with fail;apply(yS r _ (d/256%256) Y Y).m;rintro m x ⟨rfl,i,j,f⟩;go_wp2;go_roundw
     case rel=>exact⟨3,i,s,rfl,by rw[q.o,n.o];exact j,l.t f⟩
     case measure=>exact eT
    ·go_wp2_with fail;apply(yS r _ (d%256) Y Y).m;rintro m x ⟨rfl,i,j,f⟩;go_wp2;go_roundw
     case rel=>exact⟨4,i,s,rfl,by rw[q.o,n.o];exact j,l.t f⟩
     case measure=>exact eT
   ·obtain rfl:c=k:=Y;go_wp2
    go_end0
    exact⟨rfl,t,r,l⟩
def OY(S:ByteArray)(c:Int)(d:Nat)(f:c.toNat=d)(h:c.toNat<S.size):(S[c.toNat]'h).toNat=nth (bl S) d:=by subst f;exact rT S _ h
def N4(c:List Nat)(p d:Nat)(h:p+d<G c):(c.drop p).take (d+1)=(c.drop p).take d++[nth c (p+d)]:=by
 have f:d<(c.drop p).length:=by rw[aU];omega
 rw[bN f];congr 2;rw[List.getElem_drop];simp[nth,h]
def SP(h:kH B b S most w p g a 0)(hp:p<=S.size)(ad:Except Nat (List Nat))(ao:Nat)(hf:S.size-p<ao)(hR:rD (bl S) most ao p a=ad):wh DG 76 #[A3 (O ⟨b,0,N⟩)] w λK w'=>K=BX (BG #[])/\∃p' J l e,kH B b S most w' p' J l e/\yy ad l e/\Kept 5 B [b] w w':=by
 have hl:=mC S
 go_in
 go_wp2;go_loopw [2] (λ_ wr=>∃(j:Nat) (J:wg) (l:List Nat) (e:Nat),kH B b S most wr j J l e/\wt (KF (rD (bl S) most) S.size ad j l e)/\Kept 5 B [b] w wr) (λ_ wr=>if errOf b wr=0 then S.size+1-posOf b wr else 0)
 case atStart=>exact⟨p,g,a,0,h,C1 ⟨rfl,hp,ao,hR,hf⟩,Kept.refl _ _ _ _⟩
 case round=>
  obtain⟨j,J,l,e,r,a7,kk⟩:=hrel;have mr:=H r.posOf;have me:=H r.errOf;have L:=r.c4;rcases a7.o with⟨rfl,hq,f',k,br⟩|⟨he,hR⟩
  ·obtain⟨X,rfl⟩:∃X,f'=X+1:=⟨f'-1,Y⟩;have c0:=r.c0;have a9:=r.c1;have f1:=r.fz 1;have lo:=r.lo;have ls:=r.ls;simp only[rD]at k;by_cases c1:(bl S).length<=j
   ·rw[ak c1]at k;have n:=H k;have d1:(S.size:Int)<=(j:Int):=Y;go_wp2_with fail;go_quiet (fail);go_wp2_with fail;apply(ro (r.drewN nq) 5 Y).m;rintro K w2 ⟨rfl,f,o⟩;rw[rz]at f;go_wp2;refine aK (v:=BG #[]) pL rfl ?_;exact⟨rfl,_,_,_,_,f,by rw[<-n.o];exact⟨rfl,Y⟩,(kk.drewN nq).t o⟩
   ·rw[aj c1]at k;have d1:¬(S.size:Int)<=(j:Int):=Y;have d2:(j:Int)<S.size:=Y;have a5:j<S.size:=Y;have hx:=rT S j a5;have hX:=lJ S _ a5;have aa:=H r;have a6:=H kk;generalize nth (bl S) j=d at *;go_wp2_with fail;go_quiet (fail);have W:=H (aa.drewN nq);have K0:=H (a6.drewN nq);generalize wr.drewN nq=W0 at *;have c0:=W.o.c0;have a9:=W.o.c1;have f1:=W.o.fz 1;go_wp2_with fail;go_quiet (fail);have z:=H ((W.drewN nq).set1 (j+1) Y);have y:=H ((K0.drewN nq).setCell (p:=⟨b,1,N⟩) cO (I U ((j+1:Nat):Int)));have bb:((j+1:Nat):Int)=(j:Int)+1:=Y;rw[bb]at z y;by_cases c2:d=128
    ·rw[ak c2]at k;subst c2;by_cases Q:j+1<(bl S).length
     ·rw[ak Q]at k;have n:=H k;have d3:(j:Int)+1<S.size:=Y;go_wp2_with fail;go_quiet (fail);go_wp2_with fail;apply(ro (z.drewN nq) 5 Y).m;rintro K w2 ⟨rfl,f,o⟩;rw[rz]at f;go_wp2;refine aK (v:=BG #[]) pL rfl ?_;exact⟨rfl,_,_,_,_,f,by rw[<-n.o];exact⟨rfl,Y⟩,(y.drewN nq).t o⟩
     ·rw[aj Q]at k;have n:=H k;have d3:¬(j:Int)+1<S.size:=Y;go_wp2_with fail;go_quiet (fail);go_wp2;refine aK (v:=BG #[]) pL rfl ?_;exact⟨rfl,_,_,_,_,z.drewN nq,by rw[<-n.o];exact⟨rfl,rfl⟩,y.drewN nq⟩
    ·rw[aj c2]at k;have dX:((d:Int)==128)=CS:=eS;by_cases Q:d<128
     ·rw[ak Q]at k;have ba:(d:Int)<128:=Y;by_cases L:j+1+(d+1)<=(bl S).length
      ·rw[ak L]at k;have n:=H k;have d4:¬(S.size:Int)<(j:Int)+1+((d:Int)+1):=Y;go_wp2_with fail;go_quiet (fail);have A:=H (z.drewN nq);have P:=H (y.drewN nq);go_wp2;obtain⟨c,M⟩:∃c,j+1=c:=⟨_,rfl⟩;have u:=H M;rw[M]at A;have al:c+(d+1)<=S.size:=Y;go_loopw [4] (λE t=>∃(i:Nat) (V:wg),i<=d+1/\E=I U i/\kH B b S most t c V (mJ most (((bl S).drop c).take i) (l,0)).1 (mJ most (((bl S).drop c).take i) (l,0)).2/\Kept 5 B [b] w t) (λE _=>d+1-(intOf E).toNat)
       case atStart=>exact⟨0,_,aw _,rfl,by simpa[mJ]using A.o,P⟩
       case round=>
        obtain⟨i,V,hj,rfl,f,o⟩:=hrel;by_cases cj:i<d+1
        ·have a4:(i:Int)<(d:Int)+1:=Y;have bd:c+i<S.size:=Y;have bt:IntKind.i64.wrap ((c:Int)+(i:Int))=((c+i:Nat):Int):=by rw[bu];omega
         have bs:(0:Int)<=((c+i:Nat):Int):=Y;have a1:∀h,(S[((c:Int)+(i:Int)).toNat]'h).toNat=nth (bl S) (c+i):=λh=>OY S _ _ Y h;have hY:=lJ S (c+i) bd;have HT:=H (N4 (bl S) c i Y);have ac:=H (rs most (((bl S).drop c).take i) (nth (bl S) (c+i)) (l,0));have g0:=f.c0;have R:=f.c1;generalize nth (bl S) (c+i)=q at *;go_wp2_with fail;go_region_with (go_at_call 108;apply(yS (f.drewN 1) _ q (by first|rfl|(rw[a1])|omega) hY).m;rintro K w3 ⟨rfl,a2,r3,k3⟩);all_goals go_wp2
         all_goals go_roundw
         all_goals first|exact⟨i+1,a2,Y,by go_num,by rw[HT.o,ac.o];exact r3,(o.drewN 1).t k3⟩|(simp[intOf];omega)
        ·obtain rfl:i=d+1:=Y;have T:(((bl S).drop c).take (d+1)).length=d+1:=by rw[ax,aU];omega
         by_cases C:G l+(d+1)<=most
         ·rw[FH most _ l (by rw[T];exact C)]at f;have x:=H (n.s.t (ak C));have R:=f.c1;have g2:=f.fz 1;have m:=H (f.set1 (c+(d+1)) Y);have s:=H (o.setCell (p:=⟨b,1,N⟩) cO (I U (((c+(d+1)):Nat):Int)));have D:(((c+(d+1)):Nat):Int)=(c:Int)+((d:Int)+1):=Y;rw[D]at m s;have F:=H m.errOf;have m4:=H m.posOf;go_wp2;go_loopw [5] (λvi a3=>vi=I U d/\a3=wr) (λ_ _=>0)
          case atStart=>exact⟨rfl,rfl⟩
          case round=>
           obtain⟨rfl,rfl⟩:=hrel;go_wp2;go_roundw
           case rel=>exact⟨_,_,_,0,m,C1 ⟨rfl,Y,X,(by rw[<-u.o]at *;exact x.s),by have:=u.o;omega⟩,s⟩
           case measure=>have bc:=u.o;rw[mr.o,me.o,F.o,m4.o];simp;omega
         ·have a0:=rf most (((bl S).drop c).take (d+1)) l lo (by rw[T];omega);have x:=H (n.s.t (aj C));rw[a0]at f;have R:=f.c1;have g2:=f.fz 1;have m:=H (f.set1 (c+(d+1)) Y);have s:=H (o.setCell (p:=⟨b,1,N⟩) cO (I U (((c+(d+1)):Nat):Int)));have D:(((c+(d+1)):Nat):Int)=(c:Int)+((d:Int)+1):=Y;rw[D]at m s;have F:=H m.errOf;go_wp2;go_loopw [5] (λvi a3=>vi=I U d/\a3=wr) (λ_ _=>0)
          case atStart=>exact⟨rfl,rfl⟩
          case round=>
           obtain⟨rfl,rfl⟩:=hrel;go_wp2;go_roundw
           case rel=>exact⟨_,_,_,6,m,C2 ⟨Y,x⟩,s⟩
           case measure=>rw[mr.o,me.o,F.o];simp;omega
      ·rw[aj L]at k;have n:=H k;have d4:(S.size:Int)<(j:Int)+1+((d:Int)+1):=Y;go_wp2_with fail;go_quiet (fail);go_wp2_with fail;apply(ro (z.drewN nq) 5 Y).m;rintro K w2 ⟨rfl,f,o⟩;rw[rz]at f;go_wp2;refine aK (v:=BG #[]) pL rfl ?_;exact⟨rfl,_,_,_,_,f,by rw[<-n.o];exact⟨rfl,Y⟩,(y.drewN nq).t o⟩
     ·rw[aj Q]at k;have ba:¬(d:Int)<128:=Y;have bh:(128:Int)<d:=Y;by_cases L:j+1<(bl S).length
      ·rw[ak L]at k;have n:=H k;have d4:¬(S.size:Int)<(j:Int)+1+1:=Y;go_wp2_with fail;go_quiet (fail);have A:=H (z.drewN nq);have P:=H (y.drewN nq);go_wp2;obtain⟨c,M⟩:∃c,j+1=c:=⟨_,rfl⟩;have u:=H M;rw[M]at A;have al:c<S.size:=Y;have bf:(c:Int)<S.size:=Y;have a1:=rT S c al;have hY:=lJ S c al;have a8:wt (nth (bl S) (j+1)=nth (bl S) c):=by rw[M];exact H rfl
       rw[a8.o]at n;generalize nth (bl S) c=q at *;go_loopw [4] (λvi t=>kH B b S most t c J l 0/\Kept 5 B [b] w t) (λ_ _=>0)
       case atStart=>exact⟨A,P⟩
       case round=>
        obtain⟨A,P⟩:=hrel;go_wp2;go_loopw [5] (λE t=>∃(i:Nat) (V:wg),i<=257-d/\E=I U (d+i:Nat)/\kH B b S most t c V (mJ most (DJ i q) (l,0)).1 (mJ most (DJ i q) (l,0)).2/\Kept 5 B [b] w t) (λE _=>257-(intOf E).toNat)
        case atStart=>exact⟨0,J,aw _,rfl,by simpa[mJ]using A,P⟩
        case round=>
         obtain⟨i,V,hj,rfl,f,o⟩:=hrel;by_cases cj:i<257-d
         ·have a4:((d+i:Nat):Int)<257:=Y;have HT:wt (DJ (i+1) q=DJ i q++[q]):=List.replicate_succ';have ac:=H (rs most (DJ i q) q (l,0));have g0:=f.c0;have R:=f.c1;go_wp2_with fail;go_region_with (go_at_call 108;apply(yS (f.drewN 1) _ q (by first|rfl|(rw[a1])|omega) hY).m;rintro K w3 ⟨rfl,a2,r3,k3⟩);all_goals go_wp2
          all_goals go_roundw
          all_goals first|exact⟨i+1,a2,Y,by go_num,by rw[HT.o,ac.o];exact r3,(o.drewN 1).t k3⟩|(simp[intOf];omega)
         ·obtain rfl:i=257-d:=Y;have a4:¬((d+(257-d):Nat):Int)<257:=Y;have T:(DJ (257-d) q).length=257-d:=by rw[bj]
          by_cases C:G l+(257-d)<=most
          ·rw[FH most _ l (by rw[T];exact C)]at f;have x:=H (n.s.t (ak C));have R:=f.c1;have g2:=f.fz 1;have m:=H (f.set1 (c+1) Y);have s:=H (o.setCell (p:=⟨b,1,N⟩) cO (I U (((c+1):Nat):Int)));have D:(((c+1):Nat):Int)=(c:Int)+1:=Y;rw[D]at m s;have F:=H m.errOf;have m4:=H m.posOf;go_wp2;go_roundw
           case rel=>exact⟨_,_,_,0,m,C1 ⟨rfl,Y,X,(by rw[<-u.o]at *;exact x.s),by have:=u.o;omega⟩,s⟩
           case measure=>have bc:=u.o;rw[mr.o,me.o,F.o,m4.o];simp;omega
          ·have a0:=rf most (DJ (257-d) q) l lo (by rw[T];omega);have x:=H (n.s.t (aj C));rw[a0]at f;have R:=f.c1;have g2:=f.fz 1;have m:=H (f.set1 (c+1) Y);have s:=H (o.setCell (p:=⟨b,1,N⟩) cO (I U (((c+1):Nat):Int)));have D:(((c+1):Nat):Int)=(c:Int)+1:=Y;rw[D]at m s;have F:=H m.errOf;go_wp2;go_roundw
           case rel=>exact⟨_,_,_,6,m,C2 ⟨Y,x⟩,s⟩
           case measure=>rw[mr.o,me.o,F.o];simp;omega
      ·rw[aj L]at k;have n:=H k;have d4:(S.size:Int)<(j:Int)+1+1:=Y;go_wp2_with fail;go_quiet (fail);go_wp2_with fail;apply(ro (z.drewN nq) 5 Y).m;rintro K w2 ⟨rfl,f,o⟩;rw[rz]at f;go_wp2;refine aK (v:=BG #[]) pL rfl ?_;exact⟨rfl,_,_,_,_,f,by rw[<-n.o];exact⟨rfl,Y⟩,(y.drewN nq).t o⟩
  ·have bm:((e:Int)==0)=CS:=eS;have aa:=H hR;go_wp2
   go_end0
   exact⟨rfl,j,J,l,e,r,by rw[aa.o];exact⟨rfl,he⟩,kk⟩
def hH(S:ByteArray)(p:Nat):List Bool:=(gH (bl S)).drop p
def sq(S:ByteArray)(p:Nat):(hH S p).length=8*S.size-p:=by rw[hH,aU,gW,mC]
def yo(S:ByteArray)(p c:Nat):(hH S p).drop c=hH S (p+c):=by rw[hH,hH,eq]
def KX:∀(d:List Nat) (c:Nat),c<8*G d->(gH d)[c]?=O ((nth d (c/8)).testBit (c%8))
 | [],c,h=>by simp at h
 |i::d,c,h=>by
  rw[nx];by_cases f:c<8
  ·rw[aR (by rw[mj];exact f)];have e1:c/8=0:=Y;have e2:c%8=c:=Y;rw[e1,e2];match c,f with
   |0,_=>rfl
   |1,_=>rfl
   |2,_=>rfl
   |3,_=>rfl
   |4,_=>rfl
   |5,_=>rfl
   |6,_=>rfl
   |7,_=>rfl
  ·rw[aW (by rw[mj];omega),mj,KX d (c-8) (by simp at h;omega)];have e1:c/8=(c-8)/8+1:=Y;have e2:c%8=(c-8)%8:=Y;rw[e1,e2];rfl
def JX(S:ByteArray)(p:Nat)(h:p<8*S.size):hH S p=(nth (bl S) (p/8)).testBit (p%8)::hH S (p+1):=by
 have c:p<(gH (bl S)).length:=by rw[gW,mC];exact h
 have:=KX (bl S) p (by rw[mC];exact h);rw[af c]at this;simp only[Option.some.injEq]at this;rw[hH,b_ c,this];rfl
def tr(S:ByteArray)(p c:Nat)(h:p+c<8*S.size):(hH S p).take (c+1)=(hH S p).take c++[(nth (bl S) ((p+c)/8)).testBit ((p+c)%8)]:=by
 have f:c<(hH S p).length:=by rw[sq];omega
 rw[bN f];congr 2;have d:=JX S (p+c) h;rw[<-yo,b_ f]at d;simp only[List.cons.injEq]at d;exact d.1
def OX(c k:Nat):c/2^k%2=(c.testBit k).toNat:=by rw[Nat.testBit_eq_decide_div_mod_eq];have:=dY (c/2^k);rcases this with h|h<;>simp[h]
def OV(h f d c:Nat)(l:c<16)(k:h<2^c):wrap64 ((h:Int)+wrap64 (((f:Int)/2^d).tmod 2*2^c))=((h+(f.testBit d).toNat*2^c:Nat):Int):=by
 have e1:((f:Int)/2^d)=((f/2^d:Nat):Int):=by rw[Int.natCast_ediv,Int.natCast_pow];rfl
 have e2:(((f/2^d:Nat):Int)).tmod 2=((f/2^d%2:Nat):Int):=by rw[cM (Int.natCast_nonneg _)];rfl
 have i:((2:Int)^c)=((2^c:Nat):Int):=by rw[Int.natCast_pow];rfl
 have m:2^c<=2^15:=aY Y Y;rw[e1,e2,i,OX];generalize 2^c=j at *;cases f.testBit d;·simp only[Bool.toNat_false,wrap64];omega
 ·simp only[Bool.toNat_true,wrap64];omega
def Su(h:kH B b S most w p g a e)(v:e≠0)(c:Nat)(D:c<=16):wh DG 112 #[A3 (O ⟨b,0,N⟩),I U c] w λq n=>q=BX (I U 0)/\kH B b S most n p g a e/\Kept 5 B [b] w n:=by
 have y:=h.c0;have z:=h.c1;have F:=h.ls;have E:=h.lp;have A:((e:Int)==0)=CS:=eS;by_cases C:p+c<=8*S.size;all_goals
  go_in
  go_wp2_with fail
 ·have u:¬(8*(S.size:Int))<(p:Int)+(c:Int):=Y;go_quiet (fail);have f:=H (h.drewN nq);have l:=H ((Kept.refl 5 B [b] w).drewN nq);generalize w.drewN nq=r at *;have t:=f.o.c4;go_wp2;go_loopw [5,6] (λk j wr=>k=I U 0/\j=I U 0/\wr=r) (λ_ _ _=>0)
  case atStart=>exact⟨rfl,rfl,rfl⟩
  case round=>
   obtain⟨rfl,rfl,rfl⟩:=hrel;by_cases s:0<c
   ·have i:(0:Int)<c:=Y;go_wp2;go_ret;exact⟨rfl,f,l⟩
   ·have i:¬(0:Int)<c:=Y;go_wp2;go_ret;exact⟨rfl,f,l⟩
 ·have u:(8*(S.size:Int))<(p:Int)+(c:Int):=Y;go_quiet (fail);go_wp2_with fail;apply(ro (h.drewN nq) 5 Y).m;rintro q x ⟨rfl,d,m⟩;rw[FF v]at d;have t:=d.c4;go_wp2;go_loopw [5,6] (λk j wr=>k=I U 0/\j=I U 0/\wr=x) (λ_ _ _=>0)
  case atStart=>exact⟨rfl,rfl,rfl⟩
  case round=>
   obtain⟨rfl,rfl,rfl⟩:=hrel;by_cases s:0<c
   ·have i:(0:Int)<c:=Y;go_wp2;go_ret;exact⟨rfl,d,((Kept.refl _ _ _ _).drewN nq).t m⟩
   ·have i:¬(0:Int)<c:=Y;go_wp2;go_ret;exact⟨rfl,d,((Kept.refl _ _ _ _).drewN nq).t m⟩
def Nc(h:kH B b S most w p g a 0)(c:Nat)(v:c<=16)(u:8*S.size<p+c):wh DG 112 #[A3 (O ⟨b,0,N⟩),I U c] w λj i=>j=BX (I U 0)/\kH B b S most i p g a 5/\Kept 5 B [b] w i:=by
 have q:=h.c0;have r:=h.c1;have y:=h.ls;have x:=h.lp;have t:(8*(S.size:Int))<(p:Int)+(c:Int):=Y
 go_in
 go_wp2_with fail;go_quiet (fail);go_wp2_with fail;apply(ro (h.drewN nq) 5 Y).m;rintro j n ⟨rfl,d,f⟩;rw[rz]at d;have s:=d.c4;go_wp2;go_loopw [5,6] (λm l wr=>m=I U 0/\l=I U 0/\wr=n) (λ_ _ _=>0)
 case atStart=>exact⟨rfl,rfl,rfl⟩
 case round=>
  obtain⟨rfl,rfl,rfl⟩:=hrel;by_cases o:0<c
  ·have k:(0:Int)<c:=Y;go_wp2;go_ret;exact⟨rfl,d,((Kept.refl _ _ _ _).drewN nq).t f⟩
  ·have k:¬(0:Int)<c:=Y;go_wp2;go_ret;exact⟨rfl,d,((Kept.refl _ _ _ _).drewN nq).t f⟩
def Nb(h:kH B b S most w p g a 0)(d:Nat)(hn:d<=16)(aa:p+d<=8*S.size):wh DG 112 #[A3 (O ⟨b,0,N⟩),I U d] w λQ C=>Q=BX (I U (ix ((hH S p).take d):Nat))/\kH B b S most C (p+d) g a 0/\Kept 5 B [b] w C:=by
 have y:=h.c0;have k:=h.c1;have ls:=h.ls;have W:¬(8*(S.size:Int))<(p:Int)+(d:Int):=Y
 go_in
 go_wp2_with fail;go_quiet (fail);have v:=H (h.drewN nq);have t:=H ((Kept.refl 5 B [b] w).drewN nq);clear h y k;generalize w.drewN nq=R at *;go_wp2;go_loopw [5,6] (λP m wr=>∃c:Nat,c<=d/\P=I U (ix ((hH S p).take c):Nat)/\m=I U c/\kH B b S most wr (p+c) g a 0/\Kept 5 B [b] w wr) (λ_ m _=>d-(intOf m).toNat)
 case atStart=>exact⟨0,aw _,by simp[ix],rfl,v,t⟩
 clear v t
 case round=>
  obtain⟨c,hj,rfl,rfl,r,n⟩:=hrel;have T:=r.c4;by_cases V:c<d
  ·have F:(c:Int)<d:=Y;have y:=r.c0;have k:=r.c1;have X:=r.fz 1;obtain⟨i,z⟩:∃i,p+c=i:=⟨_,rfl⟩;rw[z]at k;obtain⟨f,K⟩:∃f,i/8=f:=⟨_,rfl⟩;obtain⟨j,L⟩:∃j,i%8=j:=⟨_,rfl⟩;have A:f<S.size:=Y;have ac:(f:Int)<S.size:=Y;have w1:IntKind.i64.wrap ((i:Int)/8)=(f:Int):=by rw[bu];omega
   have w2:IntKind.i64.wrap ((i:Int)%8)=(j:Int):=by rw[bu];omega
   have hx:=rT S f A;have hX:=lJ S f A;have q:=H (tr S p c Y);have s:=H (TN ((hH S p).take c) ((nth (bl S) f).testBit j));rw[z,K,L]at q;generalize nth (bl S) f=E at *;go_wp2_with fail;go_quiet (fail);have x:=H ((r.drewN nq).set1 (p+(c+1)) Y);have u:=H ((n.drewN nq).setCell (p:=⟨b,1,N⟩) cO (I U ((p+(c+1):Nat):Int)));have J:((p+(c+1):Nat):Int)=(i:Int)+1:=Y;rw[J]at x u;have l:=pU ((hH S p).take c);have M:((hH S p).take c).length=c:=by rw[ax,sq];omega
   rw[M]at l s;have D:=H (OV (ix ((hH S p).take c)) E j c Y l);clear r n l;go_wp2;go_roundw
   case rel=>exact⟨c+1,Y,by rw[q.o,s.o,D.o],by go_num,x,u⟩
   case measure=>exact eT
  ·obtain rfl:c=d:=Y;have F:¬(c:Int)<c:=Y;go_wp2;go_ret;exact⟨rfl,r,n⟩
end
