import Derived.Test.YtgkljcmjnphpeaaGreatDoorK15
import Derived.Test.YtgkljcmjnphpeaaGreatDoorK14
import Derived.RangeFuncNested
import Derived.RangeFuncBound
import Derived.Shelf.RegionOpen
import Derived.OwnWalkIn
import Derived.LoopNIn
import Derived.LoopIn
set_option linter.defProp false
set_option linter.unusedVariables false
set_option linter.unusedSimpArgs false
set_option maxHeartbeats 8000000
set_option maxRecDepth 100000
open List renaming length->G
open Go renaming Value->GI,World->Gr,Calls->K8,Addr->L2,Ending->MB
open Go.Value renaming int->I,pointer->M2,string->MV,agg->N1,bool->OV,tuple->OW,slice->Z
open Go.RowKit renaming Hid->L1,Below->LT
open Option renaming none->N,some->O
open Bool renaming false->P2,true->PV
open Or renaming inl->P3,inr->P4
open Go.Obj renaming cells->Pp
open Go.Ending renaming returned->Ps
open Go.Proofs.Tryz renaming prog->Qe
open List renaming replicate->Qf
open Go.IntKind renaming i64->U
open Go.Proofs.Tryz
namespace Go.Proofs.YtgkljcmjnphpeaaGreatDoor
open Go.RowKit
section
variable{w p:Gr}
def P6:∀a b:Bool,(a=P2)\/(a=PV/\b=P2)\/(a=PV/\b=PV):=by decide
def Kw:∀a b c d:Bool,(a=P2)\/(a=PV/\b=P2)\/(a=PV/\b=PV/\c=P2)\/(a=PV/\b=PV/\c=PV/\d=P2)\/(a=PV/\b=PV/\c=PV/\d=PV):=by decide
def Hh:∀a b c d e:Bool,(a=P2)\/(a=PV/\b=P2)\/(a=PV/\b=PV/\c=P2)\/(a=PV/\b=PV/\c=PV/\d=P2)\/(a=PV/\b=PV/\c=PV/\d=PV/\e=P2)\/(a=PV/\b=PV/\c=PV/\d=PV/\e=PV):=by decide
def P8:∀a b c d e f:Bool,(a=P2)\/(a=PV/\b=P2)\/(a=PV/\b=PV/\c=P2)\/(a=PV/\b=PV/\c=PV/\d=P2)\/(a=PV/\b=PV/\c=PV/\d=PV/\e=P2)\/(a=PV/\b=PV/\c=PV/\d=PV/\e=PV/\f=P2)\/(a=PV/\b=PV/\c=PV/\d=PV/\e=PV/\f=PV):=by intro a b c d e f;cases a<;>cases b<;>cases c<;>cases d<;>cases e<;>cases f<;>decide
def NK(x y z:Int)(A:ByteArray)(F:Option L2)(q J:Nat)(K:Option L2)(r L:Nat)(C:Option L2)(n D:Nat)(w:Gr)(X:q<=200001)(b2:r<=200001)(b3:n<=200001)(a b c u3 d u5 i e j l k f:Bool)
  (t0:(y==0)=i) (t1:(z==0)=e) (t2:(A.toList==[])=j) (t3:((q:Int)==0)=l) (t4:((r:Int)==0)=k) (t5:((n:Int)==0)=f)
  (S:L1 (∀B:Gr,K8 Qe 165 #[I U x] B λu p=>u=Ps (N1 #[OV a,OV b,OV c,OV u3,OV d,OV u5])/\LT B.heap.size B p))
  (T:(a,b,c,u3,d,u5)=(P2,P2,P2,P2,P2,P2)\/(a,b,c,u3,d,u5)=(PV,P2,P2,P2,P2,P2)\/(a,b,c,u3,d,u5)=(PV,PV,P2,P2,P2,P2)\/(a,b,c,u3,d,u5)=(P2,P2,PV,P2,P2,P2) \/
   (a,b,c,u3,d,u5)=(P2,P2,P2,PV,P2,P2)\/(a,b,c,u3,d,u5)=(P2,P2,P2,PV,PV,P2)\/(a,b,c,u3,d,u5)=(P2,P2,PV,PV,PV,PV)):K8 Qe 117 #[N1 #[I U x,I U y,I U z,MV A,Z F q J,Z K r L,Z C n D]] w λu p=>u=Ps (OV ((a||i)&&(b||e)&&(c||j)&&(u3||l)&&(d||k)&&(u5||f)))/\LT w.heap.size w p:=by
 have Q:L1 (∀P:Array GI,LT w.heap.size w (w.alloc (Pp P 67))):=λP=>(aq _ _).alloc (ag _) _;have M:=H T
 go_in
 go_wp2_with fail;apply(S _).m;rintro u s ⟨rfl,E⟩;have V:s.heap[w.heap.size]?=O (Pp #[I U x,I U y,I U z,MV A,Z F q J,Z K r L,Z C n D] 67 (0,0)):=by rw[E.block _ eA];exact bn _ _
 have aa:w.heap.size<s.heap.size:=by have:=E.size;simp at this;omega
 have R:=H ((Q _).t (E.m eA))
 go_upto_region 2 with(fail)
 obtain⟨t,v⟩:∃t,s.alloc (Pp #[OV a,OV b,OV c,OV u3,OV d,OV u5] 169)=t:=⟨_,rfl⟩;have m:t.heap[w.heap.size]?=O (Pp #[I U x,I U y,I U z,MV A,Z F q J,Z K r L,Z C n D] 67 (0,0)):=by rw[<-v];exact mA _ V
 have W:t.heap[s.heap.size]?=O (Pp #[OV a,OV b,OV c,OV u3,OV d,OV u5] 169 (0,0)):=by rw[<-v];exact bn _ _
 have g:L1 (LT w.heap.size w t):=by unfold Hid;rw[<-v];exact R.alloc Y _
 rw[v];generalize s.heap.size=ub at *;obtain⟨x0,x1,x2,x3,x4,x5⟩:=Lf W;have y1:=n5 m;have y2:=rZ m;have y3:=s_ m;have y4:=qZ m;have y5:=r_ m;have y6:=uy m;rcases M.o with h|h|h|h|h|h|h<;>cases h<;>clear M;·rcases P8 i e j l k f with rfl|⟨rfl,rfl⟩|⟨rfl,rfl,rfl⟩|⟨rfl,rfl,rfl,rfl⟩|⟨rfl,rfl,rfl,rfl,rfl⟩|⟨rfl,rfl,rfl,rfl,rfl,rfl⟩|⟨rfl,rfl,rfl,rfl,rfl,rfl⟩<;>(go_wp2;go_ret;exact⟨rfl,g⟩)
 ·rcases Hh e j l k f with rfl|⟨rfl,rfl⟩|⟨rfl,rfl,rfl⟩|⟨rfl,rfl,rfl,rfl⟩|⟨rfl,rfl,rfl,rfl,rfl⟩|⟨rfl,rfl,rfl,rfl,rfl⟩<;>(go_wp2;go_ret;exact⟨rfl,g⟩)
 ·rcases Kw j l k f with rfl|⟨rfl,rfl⟩|⟨rfl,rfl,rfl⟩|⟨rfl,rfl,rfl,rfl⟩|⟨rfl,rfl,rfl,rfl⟩<;>(go_wp2;go_ret;exact⟨rfl,g⟩)
 ·rcases Hh i e l k f with rfl|⟨rfl,rfl⟩|⟨rfl,rfl,rfl⟩|⟨rfl,rfl,rfl,rfl⟩|⟨rfl,rfl,rfl,rfl,rfl⟩|⟨rfl,rfl,rfl,rfl,rfl⟩<;>(go_wp2;go_ret;exact⟨rfl,g⟩)
 ·rcases Hh i e j k f with rfl|⟨rfl,rfl⟩|⟨rfl,rfl,rfl⟩|⟨rfl,rfl,rfl,rfl⟩|⟨rfl,rfl,rfl,rfl,rfl⟩|⟨rfl,rfl,rfl,rfl,rfl⟩<;>(go_wp2;go_ret;exact⟨rfl,g⟩)
 ·rcases Kw i e j f with rfl|⟨rfl,rfl⟩|⟨rfl,rfl,rfl⟩|⟨rfl,rfl,rfl,rfl⟩|⟨rfl,rfl,rfl,rfl⟩<;>(go_wp2;go_ret;exact⟨rfl,g⟩)
 ·rcases P6 i e with rfl|⟨rfl,rfl⟩|⟨rfl,rfl⟩<;>(go_wp2;go_ret;exact⟨rfl,g⟩)
def Oc{i:Nat->Prop}{k:Nat}{g:GI}{a:gk (VT k)}(h:gF i (k+1) w g a)(x:a.kind<=100000)(u:a.items.length<=200001)(r:a.keys.length<=200001)(s:a.filters.length<=200001):K8 Qe 117 #[g] w λe p=>e=Ps (OV (j9 a))/\LT w.heap.size w p:=by
 obtain⟨J,K,E,L,c,z,v,F,y,t⟩:=h.parts;obtain⟨A,B,rfl⟩:=jp v.1;obtain⟨C,D,rfl⟩:=jp y.1;obtain⟨m,o,rfl⟩:=jp t.1;rw[z]at c;unfold nV at c;subst c;have d:=Gq a.kind x;unfold BC at d;refine(NK (a.kind:Int) a.n (a.places:Int) (ge a.text) A a.items.length B C a.keys.length D m a.filters.length o w u r s _ _ _ _ _ _ _ _ _ _ _ _ rfl rfl rfl rfl rfl rfl (H d) ?_).m ?_
 ·generalize a.kind=b;rcases(show b=1\/b=2\/b=3\/b=4\/b=5\/b=6\/b=7\/b=8\/b=9\/(b≠1/\b≠2/\b≠3/\b≠4/\b≠5/\b≠6/\b≠7/\b≠8/\b≠9)by omega)with rfl|rfl|rfl|rfl|rfl|rfl|rfl|rfl|rfl|h;all_goals first|(simp;done)|simp[h]
 ·rintro e p ⟨rfl,q⟩;refine⟨?_,q⟩;unfold j9;have e0:(a.n==0)=decide (a.n=0):=by rw[bC];simp
  have l:((a.places:Int)==0)=decide (a.places=0):=by rw[bC];simp
  have e1:((ge a.text).toList==[])=decide (a.text=[]):=by
   rw[pY,cJ];constructor
   ·intro h;have h2:=Dt a.text;rw[h]at h2;exact bM.1 h2.s
   ·intro h;rw[h];rfl
  have e2:∀{f:Decidable (a.items=[])},((a.items.length:Int)==0)=(@decide (a.items=[]) f):=by intro f;rw[bC,beq_iff_eq,cm,<-bM];omega
  have j:((a.keys.length:Int)==0)=decide (a.keys=[]):=by rw[bC,beq_iff_eq,cm,<-bM];omega
  have e4:((a.filters.length:Int)==0)=decide (a.filters=[]):=by rw[bC,beq_iff_eq,cm,<-bM];omega
  rw[e0,l,e1,e2,j,e4]
def P7:∀a b c d:Bool,(a=P2)\/(a=PV/\b=PV)\/(a=PV/\b=P2/\c=PV)\/(a=PV/\b=P2/\c=P2/\d=PV)\/(a=PV/\b=P2/\c=P2/\d=P2):=by decide
def KN{a:ByteArray}{e f g:Bool}(b:(a.toList==[76,101,110,103,116,104])=e)(c:(a.toList==[70,105,108,116,101,114])=f)(d:(a.toList==[68,101,99,111,100,101,80,97,114,109,115])=g):kX a=(e||f||g):=by rw[pY]at b c d;unfold kX;rw[<-b,<-c,<-d]
def NH{bc:Nat->Prop}{k:Nat}{a8:GI}{a:gk (VT k)}(h:gF bc (k+1) w a8 a)(hi:a.items.length<=200001)(a5:a.keys.length<=200001)(bd:a.filters.length<=200001)(D:∀j,j<a.keys.length->(ge (a.keys.getD j [])).size<=300000)(ht:(ge a.text).size<=900000)(C:∀d∈a.filters,d<=100000):K8 Qe 121 #[a8] w λB p=>B=Ps (OV (j5 a))/\LT w.heap.size w p:=by
 obtain⟨iv,kv,fv,vs,q,a7,bf,bs,a1,a6⟩:=h.parts;obtain⟨ia,ic,rfl⟩:=jp bf.1;obtain⟨T,V,rfl⟩:=jp a1.1;obtain⟨X,fc,rfl⟩:=jp a6.1;have HK:=H a1;have ba:=H a6;have a9:=H C;rw[a7]at q;have B1:L1 (∀u,LT w.heap.size w (w.alloc (Pp u 67))):=λu=>(aq _ _).alloc (ag _) _;have W:L1 (∀u,K8 Qe 120 #[Z T a.keys.length V,I U (a.items.length:Nat)] (w.alloc (Pp u 67)) λB p=>B=Ps (OV (jt a.keys a.items.length))/\∃g,p=(w.alloc (Pp u 67)).drewN g):=λu=>
  JG (λj hi=>by obtain⟨P,B,hc⟩:=q_.of a1 j hi;exact⟨P,B,by rw[(B1.o u).cell (aC w _ hc)];exact hc⟩) a5 hi D
 obtain⟨ad,hR⟩:∃ad,j5 a=ad:=⟨_,rfl⟩;rw[hR];have A:=H hR;clear hR;unfold j5 at A;obtain⟨l,hn⟩:∃l,a.keys.length=l:=⟨_,rfl⟩;obtain⟨d,C⟩:∃d,a.filters.length=d:=⟨_,rfl⟩;have br:l<=200001:=Y;have bm:d<=200001:=Y;rw[hn,C]at q;rw[C]at A;rw[hn]at W;generalize jt a.keys a.items.length=ac at A W;unfold nV at q;generalize (a.kind:Int)=kd at q;generalize a.n=nn at q;generalize (a.places:Int)=pp at q;generalize ge a.text=m at q A ht;generalize a.items.length=il at *;subst q;have K:=H hn;have J:=H C;clear hn C a5 bd a7;obtain⟨s,ao⟩:∃s,(ac&&a.keys.all λi=> !kX (ge i))=s:=⟨_,rfl⟩;obtain⟨t,a0⟩:∃t,(s&&a.filters.all λd=>decide (1<=d/\d<=4))=t:=⟨_,rfl⟩;have a4:L1 ((t&&decide (m.size<=20000)&&decide (d<=4))=ad):=by unfold Hid;rw[<-A.o,<-a0,<-ao];cases ac<;>cases decide (m.size<=20000)<;>cases decide (d<=4)<;>simp
 have H1:=H ao;have H2:=H a0;clear ao a0 A;have a3:L1 ((w.alloc (Pp #[I U kd,I U nn,I U pp,MV m,Z ia il ic,Z T l V,Z X d fc] 67)).heap[w.heap.size]?=O (Pp #[I U kd,I U nn,I U pp,MV m,Z ia il ic,Z T l V,Z X d fc] 67 (0,0))):=bn _ _
 go_in
 go_wp2_with fail;apply(W _).m;rintro B w2 ⟨rfl,mm,a2⟩;have z:L1 (LT w.heap.size w w2):=by unfold Hid;have b:=B1.o #[I U kd,I U nn,I U pp,MV m,Z ia il ic,Z T l V,Z X d fc];rw[a2];exact⟨b.os,b.tape,b.output,b.size,b.block⟩
 have aa:w2.heap[w.heap.size]?=O (Pp #[I U kd,I U nn,I U pp,MV m,Z ia il ic,Z T l V,Z X d fc] 67 (0,0)):=by rw[a2];exact a3
 have d3:=s_ aa;have d5:=r_ aa;have d6:=uy aa;clear a2 aa a3 W B1;go_wp2;go_loopw [3,4] (λb j wr=>∃(g:Nat) (E:Bool),g<=l/\b=OV E/\j=I U g/\wr=w2/\L1 ((E&&(a.keys.drop g).all λi=> !kX (ge i))=s)) (λb j _=>l-(intOf j).toNat)
 case atStart=>exact⟨0,ac,aH _,rfl,rfl,rfl,H1⟩
 case round=>
  obtain⟨g,E,y,rfl,rfl,rfl,L⟩:=hrel;rcases aV y with y|y
  ·subst y;have e2:=bS (by rw[K.o];exact ag _);have hx:s=E:=by rw[<-L.o,e2];simp
   subst hx;clear L e2;go_wp2;go_loopw [3,5] (λb j wx=>∃(e:Nat) (F:Bool),e<=d/\b=OV F/\j=I U e/\wx=wr/\L1 ((F&&(a.filters.drop e).all λd=>decide (1<=d/\d<=4))=t)) (λb j _=>d-(intOf j).toNat)
   case atStart=>exact⟨0,s,aH _,rfl,rfl,rfl,H2⟩
   case round=>
    obtain⟨e,F,x,rfl,rfl,rfl,M⟩:=hrel;rcases aV x with x|x
    ·subst x;have e2:=bS (by rw[J.o];exact ag _);have hy:t=F:=by rw[<-M.o,e2];simp
     subst hy;clear M e2;have n:=H a4.s;clear a4;rcases Bool.eq_false_or_eq_true t with rfl|rfl
     ·by_cases h1:m.size<=20000
      ·have t1:(m.size:Int)<=20000:=Y;rw[aB h1]at n;by_cases h2:e<=4
       ·have t2:(e:Int)<=4:=Y;rw[aB h2]at n;go_wp2;go_ret;exact⟨by rw[n.o];rfl,z⟩
       ·have t2:¬(e:Int)<=4:=Y;rw[ar h2]at n;go_wp2;go_ret;exact⟨by rw[n.o];rfl,z⟩
      ·have t1:¬(m.size:Int)<=20000:=Y;rw[ar h1]at n;go_wp2;go_ret;exact⟨by rw[n.o];rfl,z⟩
     ·go_wp2;go_ret;exact⟨by rw[n.o];rfl,z⟩
    ·obtain⟨f,Q⟩:∃f,a.filters[e]?=O f:=⟨_,af (by rw[J.o];exact x)⟩;have R:a.filters.drop e=f::a.filters.drop (e+1):=by rw[aW (by rw[J.o];exact x)];congr 1;rw[af (by rw[J.o];exact x)]at Q;simpa using Q
     rw[R,cZ]at M;obtain⟨P,c,S,v⟩:=uL ba.1 (show(a.filters.map λd:Nat=>I U d)[e]?=O (I U f)by rw[aY,Q];rfl);rw[J.o]at S;cases S;have dk:wr.cell? ⟨P,e,N⟩=O (I U f):=by rw[z.o.cell (aC w _ v)];exact v
     have bi:=a9.o f (cI Q);have bo:(e:Int)<(d:Int):=Y;clear Q R v;have r:L1 ((F&&decide (1<=f/\f<=4)&&(a.filters.drop (e+1)).all λd=>decide (1<=d/\d<=4))=t):=by unfold Hid;rw[<-M.o,Bool.and_assoc]
     clear M;cases F with
     |false=>
      go_wp2;go_roundw
      case rel=>exact⟨e+1,P2,Y,rfl,by first|rfl|(congr 1),by trivial,r⟩
      case measure=>simp[intOf];omega
     |true=>
      by_cases h1:1<=f
      ·have t1:(1:Int)<=(f:Int):=Y;by_cases h2:f<=4
       ·have t2:(f:Int)<=4:=Y;rw[aB ⟨h1,h2⟩]at r;go_wp2;go_roundw
        case rel=>exact⟨e+1,PV,Y,rfl,by first|rfl|(congr 1),by trivial,r⟩
        case measure=>simp[intOf];omega
       ·have t2:¬(f:Int)<=4:=Y;rw[ar (λh=>h2 h.2)]at r;go_wp2;go_roundw
        case rel=>exact⟨e+1,P2,Y,rfl,by first|rfl|(congr 1),by trivial,r⟩
        case measure=>simp[intOf];omega
      ·have t1:¬(1:Int)<=(f:Int):=Y;rw[ar (λh=>h1 h.1)]at r;go_wp2;go_roundw
       case rel=>exact⟨e+1,P2,Y,rfl,by first|rfl|(congr 1),by trivial,r⟩
       case measure=>simp[intOf];omega
  ·obtain⟨i,D⟩:∃i,a.keys[g]?=O i:=⟨_,af (by rw[K.o];exact y)⟩;have R:a.keys.drop g=i::a.keys.drop (g+1):=by rw[aW (by rw[K.o];exact y)];congr 1;rw[af (by rw[K.o];exact y)]at D;simpa using D
   rw[R,cZ]at L;obtain⟨P,c,S,v⟩:=uL HK.1 (show(a.keys.map λi=>MV (ge i))[g]?=O (MV (ge i))by rw[aY,D];rfl);rw[K.o]at S;cases S;have dk:wr.cell? ⟨P,g,N⟩=O (MV (ge i)):=by rw[z.o.cell (aC w _ v)];exact v
   have bq:(g:Int)<(l:Int):=Y;clear D R v;generalize ge i=al at *;obtain⟨x1,c1⟩:∃x1,(al.toList==[76,101,110,103,116,104])=x1:=⟨_,rfl⟩;obtain⟨x2,c2⟩:∃x2,(al.toList==[70,105,108,116,101,114])=x2:=⟨_,rfl⟩;obtain⟨x3,c3⟩:∃x3,(al.toList==[68,101,99,111,100,101,80,97,114,109,115])=x3:=⟨_,rfl⟩;have bb:L1 ((E && !(x1||x2||x3)&&(a.keys.drop (g+1)).all λi=> !kX (ge i))=s):=by unfold Hid;rw[<-L.o,KN c1 c2 c3,Bool.and_assoc]
   clear L;rcases P7 E x1 x2 x3 with rfl|⟨rfl,rfl⟩|⟨rfl,rfl,rfl⟩|⟨rfl,rfl,rfl,rfl⟩|⟨rfl,rfl,rfl,rfl⟩;all_goals (
    go_wp2;go_roundw
    case rel=>exact⟨g+1,_,Y,rfl,by first|rfl|(congr 1),by trivial,bb⟩
    case measure=>simp[intOf];omega)
def Bd:{k:Nat}->VT k->Prop
 |0,_=>True
 |_+1,V=>gk.kind V<=9/\(-9223372036854775808<=gk.n V/\gk.n V<=9223372036854775807)/\gk.places V<=1000000/\(ge (gk.text V)).size<=300000/\(gk.items V).length<=200001/\(gk.keys V).length<=200001/\(gk.filters V).length<=200001/\(∀a,a<(gk.keys V).length->(ge ((gk.keys V).getD a [])).size<=300000)/\(∀b∈gk.filters V,b<=100000)/\∀c∈gk.items V,Bd c
def up(a:Nat)(left:Int)(w:Gr):Prop:=w.heap[a]?=O (Pp #[I U left] 3 (0,0))
def Hp(a:Nat)(b:Bool)(d:Nat)(w:Gr)(c:MB)(p:Gr):Prop:=c=Ps (OV b)/\gB a w p/\(b=PV->up a d p)
def vX(a e k:Nat):Prop:=∀(b:Gr) (c:Nat->Prop) (f:GI) (V:VT k) (left:Nat),left<=2000->gF c k b f V->(∀d,c d->d≠a)->Bd V->up a left b ->K8 Qe 81 #[f,I U (13-k:Nat),I U e,M2 (O ⟨a,0,N⟩)] b (Hp a (ly e k V&&decide (j_ k V<=left)) (left-j_ k V) b)
def xU{α:Type}(c b:Nat)(a:gk α):Bool:= !(decide (a.kind=8/\1<b)) && !(decide (a.kind=9/\¬(1<=a.n/\a.n<=(c:Int))))&&kA a
def zT{a k:Nat}{V:VT (k+1)}:ly a (k+1) V=(j9 (α:=VT k) V&&(xU (α:=VT k) a (12-k) V&&(gk.items (α:=VT k) V).all (ly a k))):=by show(_&&_&&j9 (α:=VT k) V&&kA (α:=VT k) V&&_)=_;unfold xU;cases j9 (α:=VT k) V<;>simp[Bool.and_assoc]
def vY(b:Nat)(d:Int)(w:Gr)(c:Array GI)(a:Gr):Prop:=gB b w a/\a.heap[w.heap.size]?=O (Pp c 67 (0,0))/\up b d a
def vY.below{d:Nat}{e:Int}{c:Array GI}{a f:Gr}(h:vY d e w c a)(b:LT a.heap.size a f):vY d e w c f:=by
 refine⟨h.1.t (.of_below b),?_,?_⟩;·rw[b.block _ (ae h.2.1)];exact h.2.1
 ·unfold up;rw[b.block _ (ae h.2.2)];exact h.2.2
def vY.drewN{b:Nat}{c:Int}{a:Array GI}{d:Gr}(h:vY b c w a d)(n:Nat):vY b c w a (d.drewN n):=⟨h.1.drewN n,h.2.1,h.2.2⟩
def vY.cell{e:Nat}{g:Int}{a:Array GI}{d:Gr}(h:vY e g w a d){b:Nat}{c:GI}(f:a[b]?=O c):d.cell? ⟨w.heap.size,b,N⟩=O c:=by rw[iI h.2.1];simpa using f
def vG(f k d left c:Nat)(e:Bool)(b:List (VT k))(g:Gr):Prop:=∃a:Nat,a<=2000/\up d (a:Int) g/\(b.all (ly f k)&&decide ((b.map (j_ k)).sum<=a))=e/\a+c=left+(b.map (j_ k)).sum
def NJ{g s k:Nat}(hk:k<=11)(c4:s<=100000)(ih:vX g s k):vX g s (k+1):=by
 intro w bt cf V left c2 hv R cn a9;obtain⟨b0,b1,b2,b3,b4,b5,b6,b7,b8,b9⟩:=cn;obtain⟨iv,kv,fv,vs,al,ce,a8,ct,a1,cb⟩:=gF.parts (V:=V) hv;obtain⟨ia,ic,rfl⟩:=jp a8.1;obtain⟨ka,kc,rfl⟩:=jp a1.1;obtain⟨fa,fc,rfl⟩:=jp cb.1;have c5:=ae a9;have bf:L1 (∀e:Gr,gB g w e->K8 Qe 117 #[cf] e λt p=>t=Ps (OV (j9 (α:=VT k) V))/\LT e.heap.size e p):=
  λe W=>Oc (gF.onlyX hv R W) Y b4 b5 b6
 have bq:L1 (∀e:Gr,gB g w e->K8 Qe 121 #[cf] e λt p=>t=Ps (OV (j5 (α:=VT k) V))/\LT e.heap.size e p):=
  λe W=>NH (gF.onlyX hv R W) b4 b5 b6 b7 Y b8
 have a4:L1 (∀e:Gr,gB g w e->K8 Qe 120 #[Z ka (gk.keys (α:=VT k) V).length kc,I U ((gk.items (α:=VT k) V).length:Nat)] e λt p=>t=Ps (OV (jt (gk.keys (α:=VT k) V) (gk.items (α:=VT k) V).length))/\∃l,p=e.drewN l):=
  λe W=>JG (λE hi=>by obtain⟨j,t,hc⟩:=q_.of a1 E hi;subst t;have bv:=(a1.2 j rfl);exact⟨j,rfl,by rw[World.cell?_of_block (w:=w) (W.block j bv.2 (R j bv.1))];exact hc⟩) b5 b4 b7
 have bm:=H (λe=>Dl _ b3 e);have bo:=H (λe=>NG _ _ b1.1 b1.2 b2 e);have ci:L1 (∀j,ia=O ⟨j,0,N⟩->j≠g):=λj hg=>R j (a8.2 j (by rw[hg];rfl)).1;rw[ce]at al;obtain⟨m,bx⟩:∃m,12-k=m:=⟨_,rfl⟩;rw[show 13-(k+1)=m by omega];obtain⟨v,hR⟩:∃v,(ly s (k+1) V&&decide (j_ (k+1) V<=left))=v:=⟨_,rfl⟩;rw[hR];obtain⟨x,hC⟩:∃x,j_ (k+1) V=x:=⟨_,rfl⟩;rw[hC]at hR ⊢;rw[zT,bx]at hR;have HC:L1 (x=1+((gk.items (α:=VT k) V).map (j_ k)).sum):=hC.s;have Q:=H hR;have bi:L1 (∀(e:Gr) (F:GI) (o:VT k) (r:Nat),r<=2000->gB g w e->gF bt k w F o->Bd o->up g r e ->K8 Qe 81 #[F,I U ((m:Int)+1),I U s,M2 (O ⟨g,0,N⟩)] e (Hp g (ly s k o&&decide (j_ k o<=r)) (r-j_ k o) e)):=λe F o r h1 W L hb hl=>by
  have:=ih e bt F o r h1 (gF.onlyX L R W) R hb hl;rw[show 13-k=m+1 by omega]at this;exact this
 have bb:=hv;unfold nV at al;rw[al]at bb;have br:=H (gF.kids (V:=(show gk (VT k)from V)) bb);have bd:=H b9;have a6:=H a9;obtain⟨i,hO⟩:∃i,xU (α:=VT k) s m V=i:=⟨_,rfl⟩;rw[hO]at Q;unfold xU kA at hO;have u:=H hO;clear hO hR hC hv bb R a9 ih a8 a1 cb ct b9 b8 b7;generalize j9 (α:=VT k) V=BB at *;generalize j5 (α:=VT k) V=ST at *;generalize jt (gk.keys (α:=VT k) V) (gk.items (α:=VT k) V).length=DK at *;generalize jo (ge (gk.text (α:=VT k) V))=NM at *;generalize ke (gk.n (α:=VT k) V) (gk.places (α:=VT k) V)=RL at *;generalize gk.n (α:=VT k) V=d at *;generalize gk.places (α:=VT k) V=pp at *;generalize ge (gk.text (α:=VT k) V)=tt at *;generalize (gk.filters (α:=VT k) V).length=fl at *;generalize (gk.keys (α:=VT k) V).length=kl at *;generalize gk.kind (α:=VT k) V=q at *;generalize gk.items (α:=VT k) V=J at *;obtain⟨B,a0⟩:∃B,G J=B:=⟨_,rfl⟩;have ac:=H a0;rw[a0]at al b4;rw[a0]at a4;subst al;have c0:1<=m/\m<=12:=Y;clear hk ce a0 bx;obtain⟨C,a7⟩:∃C:Array GI,#[I U q,I U d,I U pp,MV tt,Z ia B ic,Z ka kl kc,Z fa fl fc]=C:=⟨_,rfl⟩;have cx:=mC a6;have c1:=jR 0 a6;have ao:L1 (vY g ((left:Int)-1) w C ((w.setCell ⟨g,0,N⟩ (I U ((left:Int)-1))).alloc (Pp C 67))):=by
  refine⟨((gB.refl _ _).setCell 0 _).t (.of_below ((aq _ _).alloc (ag _) _)),?_,?_⟩
  ·have:=bn (w.setCell ⟨g,0,N⟩ (I U ((left:Int)-1))) (Pp C 67);rw[show(w.setCell ⟨g,0,N⟩ (I U ((left:Int)-1))).heap.size=w.heap.size by simp[World.setCell]]at this;exact this
  ·exact mA _ (by rw[lV _ a6.o];rfl)
 have y:=H a7;rw[<-a7]at ao;clear a7
 go_in
 go_wp2_with fail;apply(bf _ ao.1).m;rintro t P ⟨rfl,hb⟩;have f:=H (ao.below hb);rw[y.o]at f;have dL:=mC f.2.2;have K:∀E X,C[E]?=O X->P.cell? ⟨w.heap.size,E,N⟩=O X:=λE X h=>f.cell h;have d0:P.cell? ⟨w.heap.size,0,N⟩=O (I U q):=K 0 _ (by rw[<-y.o];rfl);have d1:P.cell? ⟨w.heap.size,1,N⟩=O (I U d):=K 1 _ (by rw[<-y.o];rfl);have d2:P.cell? ⟨w.heap.size,2,N⟩=O (I U pp):=K 2 _ (by rw[<-y.o];rfl);have d3:P.cell? ⟨w.heap.size,3,N⟩=O (MV tt):=K 3 _ (by rw[<-y.o];rfl);have d4:P.cell? ⟨w.heap.size,4,N⟩=O (Z ia B ic):=K 4 _ (by rw[<-y.o];rfl);have d5:P.cell? ⟨w.heap.size,5,N⟩=O (Z ka kl kc):=K 5 _ (by rw[<-y.o];rfl);have d6:P.cell? ⟨w.heap.size,6,N⟩=O (Z fa fl fc):=K 6 _ (by rw[<-y.o];rfl);clear hb K ao;have ch:L1 (1<=x):=by unfold Hid;rw[HC.o];omega
 by_cases h0:left=0
 ·have t0:(left:Int)-1<0:=Y;have a:L1 (v=P2):=by have:=ch.o;unfold Hid;rw[<-Q.o,ar (show ¬x<=left by omega),Bool.and_false]
  clear h0;go_wp2;go_ret;rw[a.o];exact⟨rfl,f.1,λh=>by cases h⟩
 have t0:¬(left:Int)-1<0:=Y;have t1:¬(12:Int)<(m:Int):=Y;cases BB with
 |false=>have a:L1 (v=P2):=Q.o.s;go_wp2;go_ret;rw[a.o];exact⟨rfl,f.1,λh=>by cases h⟩
 |true=>
  rw[bX]at Q;have t2:(0:Int)<=(q:Int):=Y;have t3:(q:Int)<=9:=Y
  go_upto_block 0 with fail
  go_cut [10]from 42 to 107 (λrv wx=>rv=OV i/\L1 (vY g ((left:Int)-1) w C wx))
  case first=>
   clear y bi br bd;rcases(show q=0\/q=1\/q=2\/q=3\/q=4\/q=5\/q=6\/q=7\/q=8\/q=9 by omega)with rfl|rfl|rfl|rfl|rfl|rfl|rfl|rfl|rfl|rfl
   ·have a:L1 (i=PV):=by unfold Hid;rw[<-u.o];simp
    go_wp2
    go_meet
    case rel=>exact⟨by rw[a.o],f⟩
   ·have a:L1 (i=decide (0<=d/\d<=1)):=by unfold Hid;rw[<-u.o];simp
    by_cases h1:d=0
    ·rw[aB (show 0<=d/\d<=1 by omega)]at a;have e1:(d==0)=PV:=by simpa using h1
     clear h1;go_wp2
     go_meet
     case rel=>exact⟨by rw[a.o],f⟩
    ·have e1:(d==0)=P2:=by simpa using h1
     by_cases h2:d=1
     ·rw[aB (show 0<=d/\d<=1 by omega)]at a;have e2:(d==1)=PV:=by simpa using h2
      clear h2;go_wp2
      go_meet
      case rel=>exact⟨by rw[a.o],f⟩
     ·rw[ar (show ¬(0<=d/\d<=1)by omega)]at a;have e2:(d==1)=P2:=by simpa using h2
      go_wp2
      go_meet
      case rel=>exact⟨by rw[a.o],f⟩
   ·have a:L1 (i=decide (-2147483648<=d/\d<=2147483647)):=by unfold Hid;rw[<-u.o];simp
    by_cases h1 : -2147483648<=d
    ·by_cases h2:d<2147483648
     ·rw[aB (show -2147483648<=d/\d<=2147483647 by omega)]at a;go_wp2
      go_meet
      case rel=>exact⟨by rw[a.o],f⟩
     ·rw[ar (show ¬(-2147483648<=d/\d<=2147483647)by omega)]at a;go_wp2
      go_meet
      case rel=>exact⟨by rw[a.o],f⟩
    ·rw[ar (show ¬(-2147483648<=d/\d<=2147483647)by omega)]at a;go_wp2
     go_meet
     case rel=>exact⟨by rw[a.o],f⟩
   ·have a:L1 (i=RL):=by unfold Hid;rw[<-u.o];simp
    go_wp2_with fail;apply(bo _).m;rintro t w3 ⟨rfl,A⟩;have A:=A.s;subst A;go_wp2
    go_meet
    case rel=>exact⟨by rw[a.o],f⟩
   ·have a:L1 (i=NM):=by unfold Hid;rw[<-u.o];simp
    go_wp2_with fail;apply(bm _).m;rintro t w3 ⟨rfl,A⟩;have A:=A.s;subst A;go_wp2
    go_meet
    case rel=>exact⟨by rw[a.o],f⟩
   ·have a:L1 (i=decide (tt.size<=4000)):=by unfold Hid;rw[<-u.o];simp
    have HE:L1 (decide (tt.size<=4000)=decide ((tt.size:Int)<=4000)):=by unfold Hid;rw[cJ];omega
    go_wp2
    go_meet
    case rel=>exact⟨by rw[a.o,HE.o],f⟩
   ·have a:L1 (i=PV):=by unfold Hid;rw[<-u.o];simp
    go_wp2
    go_meet
    case rel=>exact⟨by rw[a.o],f⟩
   ·have a:L1 (i=DK):=by unfold Hid;rw[<-u.o];simp
    go_wp2_with fail;apply(a4 _ f.1).m;rintro t w3 ⟨rfl,m3,A⟩;have z:L1 (vY g ((left:Int)-1) w C w3):=by unfold Hid;rw[A];exact f.drewN m3
    clear A d0 d1 d2 d3 d4 d5 d6 dL;go_wp2
    go_meet
    case rel=>exact⟨by rw[a.o],z⟩
   ·have a:L1 (i=(!decide (1<m)&&ST)):=by unfold Hid;rw[<-u.o];simp
    go_wp2_with fail;apply(bq _ f.1).m;rintro t w3 ⟨rfl,b3⟩;have z:=H (f.below b3);clear b3 d0 d1 d2 d3 d4 d5 d6 dL;cases ST with
    |false=>
     rw[Bool.and_false]at a;go_wp2
     go_meet
     case rel=>exact⟨by rw[a.o],z⟩
    |true=>
     rw[Bool.and_true]at a;by_cases h1:m=1
     ·rw[ar (show ¬1<m by omega)]at a;have e1:((m:Int)==1)=PV:=eB;clear h1;go_wp2
      go_meet
      case rel=>exact⟨by rw[a.o];rfl,z⟩
     ·rw[aB (show 1<m by omega)]at a;have e1:((m:Int)==1)=P2:=eB;go_wp2
      go_meet
      case rel=>exact⟨by rw[a.o];rfl,z⟩
   ·have a:L1 (i=decide (1<=d/\d<=(s:Int))):=by unfold Hid;rw[<-u.o,bC];simp
    by_cases h1:1<=d
    ·by_cases h2:d<=(s:Int)
     ·rw[aB (show 1<=d/\d<=(s:Int)from⟨h1,h2⟩)]at a;go_wp2
      go_meet
      case rel=>exact⟨by rw[a.o],f⟩
     ·rw[ar (λh=>h2 h.2)]at a;go_wp2
      go_meet
      case rel=>exact⟨by rw[a.o],f⟩
    ·rw[ar (λh=>h1 h.1)]at a;go_wp2
     go_meet
     case rel=>exact⟨by rw[a.o],f⟩
  case rest=>
   obtain⟨rfl,z⟩:=hcut;have ad:L1 (i=P2/\v=P2\/i=PV/\vG s k g left x v J wc):=by
    unfold Hid;cases i with
    |false=>exact P3 ⟨rfl,Q.s⟩
    |true=>exact P4 ⟨rfl,left-1,Y,by have:=z.o.2.2;rw[show((left:Int)-1)=((left-1:Nat):Int)by omega]at this;exact this,by rw[<-Q.o,bX];congr 1;rw[cJ,HC.o];omega,by rw[HC.o];omega⟩
   have D:=H z.1;have aa:=H z.2.1;clear bq a4 bm bo bf u Q f z d0 d1 d2 d3 d4 d5 d6 dL;go_wp2;go_loopw [10,11] (λb E wr=>∃(l:Nat) (F:Bool),l<=B/\b=OV F/\E=I U l/\L1 (gB g w wr)/\L1 (wr.heap[w.heap.size]?=O (Pp C 67 (0,0)))/\L1 (F=P2/\v=P2\/F=PV/\vG s k g left x v (J.drop l) wr)) (λb E _=>B-(intOf E).toNat)
   case atStart=>exact⟨0,i,aH _,rfl,rfl,D,aa,ad⟩
   case round=>
    clear D aa ad;obtain⟨l,F,hm,rfl,rfl,D,aa,ad⟩:=hrel;have d4:wr.cell? ⟨w.heap.size,4,N⟩=O (Z ia B ic):=by rw[iI aa.o,<-y.o];rfl
    rcases ad.o with⟨L,bw⟩|⟨L,cs⟩
    ·subst L;have a:=H bw;clear ad bw;by_cases hd:(l:Int)<(B:Int)
     ·go_wp2;go_ret;rw[a.o];exact⟨rfl,D,λh=>by cases h⟩
     ·go_wp2;go_ret;rw[a.o];exact⟨rfl,D,λh=>by cases h⟩
    ·subst L;obtain⟨r,cr,cd,a2,a3⟩:=cs;rcases aV hm with c3|ba
     ·have e0:J.drop l=[]:=bS (by rw[ac.o];omega);rw[e0]at a2 a3;have a:L1 (v=PV):=by unfold Hid;rw[<-a2];simp
      have a5:L1 (up g ((left-x:Nat):Int) wr):=by
       unfold Hid;have:r=left-x:=by simp at a3;omega
       rw[<-this];exact cd
      have hd:¬(l:Int)<(B:Int):=Y;go_wp2;go_ret;rw[a.o];exact⟨rfl,D,λ_=>a5⟩
     ·have hd:(l:Int)<(B:Int):=Y;obtain⟨o,hy⟩:∃o,J[l]?=O o:=⟨_,af (by rw[ac.o];exact ba)⟩;have ca:J.drop l=o::J.drop (l+1):=by rw[aW (by rw[ac.o];exact ba)];congr 1;rw[af (by rw[ac.o];exact ba)]at hy;simpa using hy
      rw[ca,cZ,bF,eF]at a2;rw[ca,bF,eF]at a3;obtain⟨j,c,xv,cc,_,_,L,T⟩:=br.o.at hy;rw[ac.o]at cc;cases cc;have cp:j≠g:=ci.o j rfl;have co:=bd.o o (cI hy);have cl:=H (bi wr xv o r cr D L co cd);obtain⟨k0,k1,k2,k3,ja,jl,jc,c6,c8,c7,cu,cw,cv,M⟩:=gF.form L;have S:∀{bc:Nat} {X:GI},w.cell? ⟨j,bc,N⟩=O X->wr.cell? ⟨j,bc,N⟩=O X:=λ{bc X} h=>by rw[World.cell?_of_block (w:=w) (D.o.block j (aC w _ h) cp)];exact h
      have q0:wr.cell? ⟨j,l*7,N⟩=O (I U k0):=S (T 0 _ (by rw[M];rfl));have q1:=S (T 1 _ (by rw[M];rfl));have q2:=S (T 2 _ (by rw[M];rfl));have q3:=S (T 3 _ (by rw[M];rfl));have q4:=S (T 4 _ (by rw[M];rfl));have q5:=S (T 5 _ (by rw[M];rfl));have q6:=S (T 6 _ (by rw[M];rfl));subst M;have bs:=H a2;have a5:=H a3;generalize ly s k o=oy at *;generalize j_ k o=cy at *;go_wp2_with fail;apply cl.o.m;rintro t w4 ⟨rfl,o4,h4⟩;have cj:=H (D.t o4);have cg:=H ((o4.block _ (ae aa) Y).t aa);have ck:L1 ((oy&&decide (cy<=r))=P2/\v=P2\/(oy&&decide (cy<=r))=PV/\vG s k g left x v (J.drop (l+1)) w4):=by
       unfold Hid;cases hq:(oy&&decide (cy<=r))with
       |false=>
        refine P3 ⟨rfl,?_⟩;rw[<-bs.o];cases oy with
        |false=>rfl
        |true=>rw[bX,bk]at hq;rw[ar Y,Bool.and_false]
       |true=>
        have h5:=h4 hq;rw[bN,cm]at hq;refine P4 ⟨rfl,r-cy,Y,h5,?_,?_⟩
        ·rw[<-bs.o,hq.1,bX];congr 1;rw[cJ];omega
        ·have:=a5.o;omega
      generalize (oy&&decide (cy<=r))=bz at *;go_wp2;go_roundw
      case rel=>exact⟨l+1,bz,Y,rfl,by first|rfl|(congr 1),cj,cg,ck⟩
      case measure=>simp[intOf];omega
def JI{L objs:Nat}(a:objs<=100000):∀k,k<=12->vX L objs k
 |0,_=>λd b e c _ _ h=>by cases h
 |k+1,h=>NJ Y a (JI a k Y)
end
def nK{c:Option (List Nat×List Nat)}{g:List Nat->List Nat}{d f:List Nat}(h:(c.map λa=>(g a.1,a.2))=O (d,f)):∃e,c=O (e,f)/\d=g e:=by
 cases c with
 |none=>cases h
 |some a=>obtain⟨i,b⟩:=a;cases h;exact⟨i,rfl,rfl⟩
def qC:∀(r:List Nat) (e f:Nat) (d a:List Nat),gK e f r=O (d,a)->G d+G a<=G r
 | [],e,f,d,a,h=>by
  match e,h with
  |0,h=>simp[gK]at h;simp[h.1,h.2]
  |k+1,h=>simp[gK]at h
 |b::r,e,f,d,a,h=>by
  match e,h with
  |0,h=>
   simp only[gK]at h;split at h;·simp at h;rw[<-h.2,h.1];simp
   ·split at h;·cases h
    ·split at h;·have:=qC r 1 0 d a h;simp only[aj];omega
     ·obtain⟨i,h2,rfl⟩:=nK (g:=λj=>b::j) h;have:=qC r 0 0 i a h2;simp only[aj];omega
  |1,h=>
   simp only[gK]at h;split at h;·cases h
   ·have:=qC r 2 _ d a h;simp only[aj];omega
  |k+2,h=>
   simp only[gK]at h;split at h;·cases h
   ·next c _=>
    split at h;·cases h
    ·obtain⟨i,h2,rfl⟩:=nK (g:=λj=>(16*f+c)::j) h;have:=qC r 0 0 i a h2;simp only[aj];omega
def uC:∀(r c a:List Nat),ij r=O (c,a)->G c+G a<=G r
 | [],c,a,h=>by cases h
 |b::r,c,a,h=>by
  simp only[ij]at h;split at h;·have:=uC r c a h;simp only[aj];omega
  ·split at h;·simp at h;rw[<-h.2,h.1];simp
   ·split at h;·cases h
    ·next e _=>obtain⟨d,h2,rfl⟩:=nK (g:=λf=>e::f) h;have:=uC r d a h2;simp only[aj];omega
def xb:∀a:List Nat,(ip a).length<=G a
 | []=>ag _
 | [c]=>ag _
 |c::b::a=>by have:=xb a;simp only[ip,aj];omega
def qE:∀(e f:Nat) (r i c:List Nat),iC e f r=O (i,c)->G i+G c<=G r
 |0,f,r,i,c,h=>by simp[iC]at h
 |e+1,f,r,i,c,h=>by
  rw[iC.eq_def]at h;simp only[]at h;cases l:gJ r with
  |some m=>rw[l]at h;obtain⟨a,h2,rfl⟩:=nK (g:=λd=>10::d) h;have:=qE e f m a c h2;have:=Bl l;simp only[aj];omega
  |none=>
   rw[l]at h;cases r with
   |nil=>cases h
   |cons b j=>
    simp only[]at h;split at h
    ·cases k:iG j with
     |none=>rw[k]at h;cases h
     |some o=>obtain⟨n,m⟩:=o;rw[k]at h;obtain⟨a,h2,rfl⟩:=nK (g:=λd=>n++d) h;have:=qE e f m a c h2;have:=Cb k;simp only[aj,ak];omega
    ·split at h
     ·obtain⟨a,h2,rfl⟩:=nK (g:=λd=>b::d) h;have:=qE e _ j a c h2;simp only[aj];omega
     ·split at h
      ·split at h;·simp at h;rw[<-h.2,h.1];simp
       ·obtain⟨a,h2,rfl⟩:=nK (g:=λd=>b::d) h;have:=qE e _ j a c h2;simp only[aj];omega
      ·obtain⟨a,h2,rfl⟩:=nK (g:=λd=>b::d) h;have:=qE e _ j a c h2;simp only[aj];omega
def ww{l:List Nat}(a:l.all gH=PV):iO l+1<=10^(G l):=by have:=El l 0 (λc b=>by have:=cN.1 a c b;simp[gH]at this;omega) a;rw[bH,Nat.one_mul]at this;exact this
def A5{b:List Nat}{a:Int}(h:kE b=O a) : -1000000000000000000<=a/\a<=1000000000000000000:=by
 unfold kE kU at h;split at h
 ·next d=>
  split at h
  ·next c=>have h1:=ww c.2;have h2:10^(fZ b).2.length<=10^18:=aJ Y Y;simp only[Option.some.injEq]at h;split at h<;>omega
  ·cases h
 ·cases h
def Ag{l:List Nat}{a:Int}{d:Nat}(h:jm l=O (a,d)):(-1000000000000000000<=a/\a<=1000000000000000000)/\d<=9:=by
 unfold jm at h;split at h;·cases h
 ·next c b i=>
  split at h
  ·next j=>
   simp only[Option.map_eq_some_iff,Prod.mk.injEq]at h;obtain⟨m,h1,rfl,rfl⟩:=h;have k:(iu b).length<=G b:=by unfold iu;rw[List.length_reverse];have:=(List.dropWhile_sublist (l:=b.reverse) (λb=>b==48)).length_le;rw[List.length_reverse]at this;exact this
   refine⟨?_,Y⟩;unfold kU at h1;rw[Im]at h1;split at h1
   ·next f=>
    have h2:(((fZ l).2.takeWhile λb=>b != 46)++iu b).all gH=PV:=by have:=f.2;rw[cZ,bN]at this;exact this.2
    have h3:=ww h2;rw[ak]at h3;have g:10^(((fZ l).2.takeWhile λb=>b != 46).length+(iu b).length)<=10^18:=aJ Y Y;have e:iO (48::(((fZ l).2.takeWhile λb=>b != 46)++iu b))=iO (((fZ l).2.takeWhile λb=>b != 46)++iu b):=rfl;simp only[Option.some.injEq]at h1;rw[e]at h1;split at h1<;>omega
   ·cases h1
  ·cases h
def Bd.leaf{k d:Nat}{a:Int}{b:Nat}{c:List Nat}(h1:d<=9)(h2 : -1000000000000000000<=a/\a<=1000000000000000000)(h3:b<=9)(i:G c<=200000):Bd (k:=k+1) (jj (VT k) d a b c):=
 ⟨h1,by show _<=a/\a<=_;omega,by show b<=_;omega,by show(ge c).size<=_;rw[tF];omega,aH _,aH _,aH _,(λj f=>by cases f),(λh e=>by cases e),λl g=>by cases g⟩
def DR:(-1000000000000000000:Int)<=0/\(0:Int)<=1000000000000000000:=by decide
def CT:(-1000000000000000000:Int)<=1/\(1:Int)<=1000000000000000000:=by decide
def wz{u:Type}{d:List Nat->Option (u×List Nat)}(o:∀r t b,d r=O (t,b)->G b<=G r):∀(f:Nat) (r b:List Nat) (e:List (List Nat)×List u),js d f r=O (e,b)->∀g∈e.1,G g<=G r
 |0,r,b,e,h=>by cases h
 |f+1,r,b,e,h=>by
  simp only[js]at h;have w:=iz r;cases p:f_ [62,62] (f9 r)with
  |some n=>rw[p]at h;simp at h;intro g a;rw[<-h.1]at a;cases a
  |none=>
   rw[p]at h;simp only[]at h;cases i:f_ [47] (f9 r)with
   |none=>rw[i]at h;cases h
   |some n=>
    rw[i]at h;simp only[]at h;have h1:=(gD i).1;cases m:j7 n with
    |none=>rw[m]at h;cases h
    |some c=>
     obtain⟨k,q⟩:=c;rw[m]at h;simp only[]at h;have h2:=qC n 0 0 k q m;cases l:d q with
     |none=>rw[l]at h;cases h
     |some c=>
      obtain⟨t,s⟩:=c;rw[l]at h;simp only[]at h;have h3:=o _ _ _ l;cases j:js d f s with
      |none=>rw[j]at h;cases h
      |some c=>
       rw[j]at h;have v:=wz o f s c.2 c.1 j;cases h;intro g a;rcases cQ.1 a with rfl|a;·omega
       ·have:=v g a;omega
def qO:∀{k:Nat} {r a:List Nat} {l:VT k},gj k r=O (l,a)->G r<=200000->Bd l
 |0,r,a,l,h,_=>by cases h
 |k+1,r,a,l,h,C=>by
  have y:∀r c a,gj k r=O (c,a)->G a+1<=G r:=λr c a h=>iQ h;have t:∀r c a,gj k r=O (c,a)->G a<=G r:=λr c a h=>by have:=iQ h;omega
  have f:∀r c a,gj k r=O (c,a)->G r<=200000->Bd c:=λr c a h A=>qO h A;simp only[gj]at h;have D:=iz r;cases h1:f_ [91] (f9 r)with
  |some b=>
   rw[h1]at h;simp only[]at h;have n:=(gD h1).1;cases h2:jV (gj k) (G b+1) b with
   |none=>rw[h2]at h;cases h
   |some d=>rw[h2]at h;obtain⟨e,o⟩:=d;have i:=uv y _ _ _ _ h2;have m:=uu t f _ _ _ _ h2 Y;cases h;exact⟨by show 6<=9;decide,⟨by show _<=(0:Int);decide,by show(0:Int)<=_;decide⟩,by show 0<=_;decide,by show(ge []).size<=_;decide,by show (G e)<=_;omega,aH _,aH _,(λv g=>by cases g),(λz f=>by cases f),m⟩
  |none=>
   rw[h1]at h;simp only[]at h;cases h3:f_ [60,60] (f9 r)with
   |some b=>
    rw[h3]at h;simp only[]at h;have n:=(gD h3).1;cases h2:js (gj k) (G b+1) b with
    |none=>rw[h2]at h;cases h
    |some d=>rw[h2]at h;obtain⟨⟨w,e⟩,o⟩:=d;have i:=mW y _ _ _ _ h2;have m:=uB t f _ _ _ _ h2 Y;have x:=wz t _ _ _ _ h2;simp only[]at i x;cases h;refine⟨by show 7<=9;decide,⟨by show _<=(0:Int);decide,by show(0:Int)<=_;decide⟩,by show 0<=_;decide,by show(ge []).size<=_;decide,by show (G e)<=_;omega,by show (G w)<=_;omega,aH _,λv g=>?_,(λz f=>by cases f),m⟩;show(ge (w.getD v [])).size<=_;rw[tF,ax,af g];have g:v<G w:=g;have:=x _ (cq g);simp only[Option.getD_some];omega
   |none=>
    rw[h3]at h;simp only[]at h;cases p:f_ [60] (f9 r)with
    |some b=>
     rw[p]at h;simp only[]at h;have n:=(gD p).1;unfold jQ at h;cases h2:ij b with
     |none=>rw[h2]at h;cases h
     |some d=>obtain⟨e,o⟩:=d;rw[h2]at h;cases h;have i:=uC _ _ _ h2;have m:=xb e;exact Bd.leaf cO DR cO (by simp only[];omega)
    |none=>
     rw[p]at h;simp only[]at h;cases q:f_ [40] (f9 r)with
     |some b=>
      rw[q]at h;simp only[]at h;have n:=(gD q).1;cases h2:j3 b with
      |none=>rw[h2]at h;cases h
      |some d=>obtain⟨e,o⟩:=d;rw[h2]at h;cases h;have i:=qE _ _ _ _ _ h2;exact Bd.leaf cO DR cO (by simp only[];omega)
     |none=>
      rw[q]at h;simp only[]at h;cases s:f_ [47] (f9 r)with
      |some b=>
       rw[s]at h;simp only[]at h;have n:=(gD s).1;cases h2:j7 b with
       |none=>rw[h2]at h;cases h
       |some d=>obtain⟨e,o⟩:=d;rw[h2]at h;cases h;have i:=qC _ _ _ _ _ h2;exact Bd.leaf cO DR cO (by simp only[];omega)
      |none=>
       rw[s]at h;simp only[]at h;unfold i7 at h;split at h;·cases h;exact Bd.leaf cO DR cO cO
       ·split at h;·cases h;exact Bd.leaf cO DR cO cO
        ·split at h;·cases h;exact Bd.leaf cO CT cO cO
         ·split at h
          ·next B u=>
           have j:=A5 u;split at h;·cases h;exact Bd.leaf cO j cO cO
           ·cases h;exact Bd.leaf cO j cO cO
          ·split at h
           ·next B E u=>have j:=Ag u;cases h;exact Bd.leaf cO j.1 j.2 cO
           ·cases h
section
variable{w a:Gr}
def ob{d:Nat}{g h:Gr}(b:LT w.heap.size w g)(c:gB d g h)(i:w.heap.size<=d):LT w.heap.size w h:=
 ⟨c.os.t b.os,c.tape.t b.tape,c.output.t b.output,aA b.size c.size,λe f=>(c.block e (aQ f b.size) Y).t (b.block e f)⟩
def NE{J:Nat->Prop}{e:List (VT 12)}{j:Int}{V:GI}(h:kG J 12 0 e w V)(hF:∀k∈e,Bd k)(hl:G e<=200000):K8 Qe 41 #[N1 #[V,I U j]] w λad a=>ad=Ps (OV (jb e j))/\LT w.heap.size w a:=by
 have h2:kG (λd=>J d/\d<w.heap.size) 12 0 e w V:=h.m (λd h1 h2=>⟨h1,h2⟩);have F:=H h2;obtain⟨oa,n,rfl⟩:=h.len;obtain⟨b,B⟩:∃b,G e=b:=⟨_,rfl⟩;rw[B]at hl F;obtain⟨i,f⟩:∃i,jb e j=i:=⟨_,rfl⟩;rw[f,B];rw[qL,B]at f;have p:=H B;have HF:=H hF;have u:L1 (LT w.heap.size w (w.alloc (Pp #[Z oa b n,I U j] 31))):=(aq _ _).alloc (ag _) _;by_cases P:1<=b/\b<=100
 ·rw[aB P,bX]at f;have t1:¬(b:Int)<1:=Y;have t2:¬(100:Int)<(b:Int):=Y;by_cases Q:1<=j/\j<=(b:Int)
  ·rw[aB Q,bX]at f;obtain⟨r,rfl⟩:∃r:Nat,j=(r:Int)+1:=⟨(j-1).toNat,Y⟩;rw[show((r:Int)+1-1).toNat=r by omega]at f;have bd:r<b:=Y;have t3:¬(r:Int)+1<1:=Y;have t4:¬(b:Int)<(r:Int)+1:=Y;obtain⟨k,hy⟩:∃k,e[r]?=O k:=⟨_,af (by rw[p.o];exact bd)⟩;rw[hy]at f;obtain⟨d,c,bw,x,_,_,D,l⟩:=F.o.at hy;rw[p.o]at x;cases x;obtain⟨pp,ia,il,ic,ka,kl,kc,fa,fl,fc,rfl⟩:=gF.form2 D;have dk:(w.alloc (Pp #[Z (O ⟨d,0,N⟩) b n,I U ((r:Int)+1)] 31)).cell? ⟨d,r*7,N⟩=O (I U (kO k:Int)):=by have:=l 0 _ rfl;rw[dZ]at this;rw[World.cell?_alloc_lt _ _ _ (aC w _ this)];exact this
   have bq:IntKind.i64.wrap ((r:Int)+1-1)=(r:Int):=by rw[aU];omega
   have ba:(O k).map (λa7:VT 12=>gk.kind (α:=VT 11) a7)=O (kO k):=rfl;rw[ba]at f;by_cases h7:kO k=7
   ·rw[h7]at f dk;rw[aB rfl,bX]at f;have al:vG b 12 (w.heap.size+1) 2000 (e.map (j_ 12)).sum i e ((w.alloc (Pp #[Z (O ⟨d,0,N⟩) b n,I U ((r:Int)+1)] 31)).alloc (Pp #[I U 2000] 3)):=by refine⟨2000,Y,?_,f,rfl⟩;have:=bn (w.alloc (Pp #[Z (O ⟨d,0,N⟩) b n,I U ((r:Int)+1)] 31)) (Pp #[I U 2000] 3);rw[aL]at this;exact this
    have b2:LT w.heap.size w ((w.alloc (Pp #[Z (O ⟨d,0,N⟩) b n,I U ((r:Int)+1)] 31)).alloc (Pp #[I U 2000] 3)):=u.o.alloc eA _;have a8:((w.alloc (Pp #[Z (O ⟨d,0,N⟩) b n,I U ((r:Int)+1)] 31)).alloc (Pp #[I U 2000] 3)).heap[w.heap.size]?=O (Pp #[Z (O ⟨d,0,N⟩) b n,I U ((r:Int)+1)] 31 (0,0)):=mA _ (bn _ _);obtain⟨y,hC⟩:∃y,(e.map (j_ 12)).sum=y:=⟨_,rfl⟩;rw[hC]at al;have a4:=H al;have B2:=H b2;have v:=H a8
    go_in
    go_wp2;go_loopw [5] (λR wr=>∃(g:Nat),g<=b/\R=I U g/\L1 (LT w.heap.size w wr)/\L1 (wr.heap[w.heap.size]?=O (Pp #[Z (O ⟨d,0,N⟩) b n,I U ((r:Int)+1)] 31 (0,0)))/\L1 (vG b 12 (w.heap.size+1) 2000 y i (e.drop g) wr)) (λR _=>b-(intOf R).toNat)
    case atStart=>exact⟨0,aH _,rfl,B2,v,a4⟩
    case round=>
     obtain⟨g,hm,rfl,z,v,HS⟩:=hrel;obtain⟨T,bb,bc,A,a0⟩:=HS.o;have d0:=mC v;rcases aV hm with bo|M
     ·have e0:e.drop g=[]:=bS (by rw[p.o];omega);rw[e0]at A;have a2:L1 (i=PV):=by unfold Hid;rw[<-A];simp
      have hd:¬(g:Int)<(b:Int):=Y;go_wp2;go_ret;exact⟨by rw[a2.o];rfl,z⟩
     ·have hd:(g:Int)<(b:Int):=Y;obtain⟨t,E⟩:∃t,e[g]?=O t:=⟨_,af (by rw[p.o];exact M)⟩;have ao:e.drop g=t::e.drop (g+1):=by rw[aW (by rw[p.o];exact M)];congr 1;rw[af (by rw[p.o];exact M)]at E;simpa using E
      rw[ao,cZ,bF,eF]at A;rw[ao,bF,eF]at a0;obtain⟨g',c',xv,x,_,_,D,l⟩:=F.o.at E;rw[p.o]at x;cases x;have a9:=HF.o t (cI E);have ac:=H (JI (L:=w.heap.size+1) (objs:=b) Y 12 (ag _) wr (λd=>J d/\d<w.heap.size) xv t T bb (gF.keep 12 D (λd hg _=>z.block d hg.2)) (λd hg=>Y) a9 bc);rw[show((13-12:Nat):Int)=1 from rfl]at ac;obtain⟨k0,k1,k2,k3,ja,jl,jc,br,bt,bs,bf,bm,bi,m⟩:=gF.form D;have s:∀{S:Nat} {W:GI},w.cell? ⟨d,S,N⟩=O W->wr.cell? ⟨d,S,N⟩=O W:=λ{S W} h=>by rw[z.o.cell (aC w _ h)];exact h
      have q0:wr.cell? ⟨d,g*7,N⟩=O (I U k0):=s (l 0 _ (by rw[m];rfl));have q1:=s (l 1 _ (by rw[m];rfl));have q2:=s (l 2 _ (by rw[m];rfl));have q3:=s (l 3 _ (by rw[m];rfl));have q4:=s (l 4 _ (by rw[m];rfl));have q5:=s (l 5 _ (by rw[m];rfl));have q6:=s (l 6 _ (by rw[m];rfl));subst m;have aa:=H A;have a3:=H a0;generalize ly b 12 t=oy at *;generalize j_ 12 t=cy at *;go_wp2_with fail;apply ac.o.m;rintro ad w4 ⟨rfl,o4,K⟩;have X:=H (ob z o4 Y);have a6:=H ((o4.block _ (ae v) Y).t v);cases C:(oy&&decide (cy<=T))with
      |false=>
       have a1:L1 (i=P2):=by
        unfold Hid;rw[<-aa.o];cases oy with
        |false=>rfl
        |true=>rw[bX,bk]at C;rw[ar Y,Bool.and_false]
       go_wp2;go_ret;exact⟨by rw[a1.o];rfl,X⟩
      |true=>
       have a5:L1 (vG b 12 (w.heap.size+1) 2000 y i (e.drop (g+1)) w4):=by
        have h5:=K C;rw[bN,cm]at C;refine⟨T-cy,Y,h5,?_,?_⟩
        ·rw[<-aa.o,C.1,bX];congr 1;rw[cJ];omega
        ·have:=a3.o;omega
       go_wp2;go_roundw
       case rel=>exact⟨g+1,Y,by first|rfl|(congr 1),X,a6,a5⟩
       case measure=>simp[intOf];omega
   ·have q:L1 (i=P2):=by unfold Hid;rw[<-f,ar (by simpa using h7)];rfl
    have bv:((kO k:Int) != 7)=PV:=eB;generalize (kO k:Int)=ky at *
    go_in
    go_wp2;go_ret;exact⟨by rw[q.o];rfl,u⟩
  ·have q:L1 (i=P2):=by unfold Hid;rw[<-f,ar Q];rfl
   by_cases h3:j<1
   ·clear f Q
    go_in
    go_wp2;go_ret;exact⟨by rw[q.o];rfl,u⟩
   ·have K:(b:Int)<j:=Y
    go_in
    go_wp2;go_ret;exact⟨by rw[q.o];rfl,u⟩
 ·have q:L1 (i=P2):=by unfold Hid;rw[<-f,ar P];rfl
  by_cases h3:(b:Int)<1
  ·clear f P
   go_in
   go_wp2;go_ret;exact⟨by rw[q.o];rfl,u⟩
  ·have K:(100:Int)<(b:Int):=Y
   go_in
   go_wp2;go_ret;exact⟨by rw[q.o];rfl,u⟩
end
section
variable{w f:Gr}{B b:Nat}{c e:GI}{a d:List Nat}
def C_(k g:Nat):List Nat:=Qf (k-(gE g).length) 48++gE g
end
def Gd(most:Nat)(a:List Nat):Prop:=G a<=most/\∀b∈a,b<256
def Gd.app{most:Nat}{c b:List Nat}(h:Gd most c)(e:G c+G b<=most)(d:∀a∈b,a<256):Gd most (c++b):=
 ⟨by rw[ak];exact e,λa f=>by
  rcases bG.1 f with h1|h1;·exact h.2 a h1
  ·exact d a h1⟩
def I2{c a:Nat}(h:gI c=O a):a<16:=by
 unfold gI at h;split at h;·cases h;omega
 ·split at h;·cases h;omega
  ·split at h;·cases h;omega
   ·cases h
def Ez{c:List Nat}{e most:Nat}{b a:List Nat}(h:mG c e b=.ok a)(d:Gd most b):Gd most a:=by
 unfold mG at h;split at h;·cases h
 ·cases h;exact d
def I0{k:List Nat}{i:Nat}:∀(d j:Nat) (c a:List Nat),Gd i c->vI k i d j c=.ok a->Gd i a
 |0,j,c,a,_,h=>by cases h
 |d+1,j,c,a,f,h=>by
  simp only[vI]at h;split at h;·cases h
  ·split at h;·exact Ez h f
   ·split at h;·cases h
    ·next o l=>
     have h1:=I2 l;split at h;·cases h
     ·split at h
      ·split at h;·next e=>exact Ez h (f.app vj (λn g=>by simp at g;omega))
       ·cases h
      ·split at h;·cases h
       ·next b m=>
        have h2:=I2 m;split at h;·next e=>exact I0 d _ _ a (f.app vj (λn g=>by simp at g;omega)) h
        ·cases h
def FG{a:List Nat}(d:∀b∈a,b<256)(c:Nat):nth a c<256:=by
 unfold nth;rw[ax];cases h:a[c]? with
 |none=>decide
 |some b=>exact d b (cI h)
def F_{k:List Nat}(c:∀e∈k,e<256){i:Nat}:∀(b j:Nat) (d a:List Nat),Gd i d->rD k i b j d=.ok a->Gd i a
 |0,j,d,a,_,h=>by cases h
 |b+1,j,d,a,f,h=>by
  simp only[rD]at h;split at h;·cases h
  ·split at h
   ·split at h;·cases h
    ·cases h;exact f
   ·split at h
    ·split at h
     ·split at h
      ·next l=>refine F_ c b _ _ a (f.app ?_ (λe g=>c e (dA (dj g)))) h;rw[ay];omega
      ·cases h
     ·cases h
    ·split at h
     ·split at h
      ·next l=>refine F_ c b _ _ a (f.app (by rw[bI];exact l) (λe g=>?_)) h;rw[List.eq_of_mem_replicate g];exact FG c _
      ·cases h
     ·cases h
def Ht{a:Nat}(h:¬4294967296<=a):∀b∈aO a,b<256:=by intro b c;simp only[aO,cQ,List.not_mem_nil,or_false]at c;omega
def DT{m:List Nat}{most:Nat}:∀(b j k i:Nat) (e a:List Nat),Gd most e->aD m most b j k i e=.ok a->Gd most a
 |0,j,k,i,e,a,_,h=>by cases h
 |b+1,j,k,i,e,a,c,h=>by
  simp only[aD]at h;split at h;·cases h
  ·split at h
   ·split at h;·next d=>exact DT b _ _ _ _ a (c.app (by simpa using d) (λl g=>by simp at g;omega)) h
    ·cases h
   ·split at h
    ·split at h
     ·split at h;·cases h
      ·next f=>
       split at h;·next d=>exact DT b _ _ _ _ a (c.app (by simpa[aO]using d) (Ht f)) h
       ·cases h
     ·exact DT b _ _ _ _ a c h
    ·split at h
     ·split at h;·exact Ez h c
      ·split at h;·cases h
       ·next f=>
        split at h
        ·next d=>refine Ez h (c.app ?_ (λl g=>Ht f l (dj g)));rw[ay];omega
        ·cases h
     ·cases h
def yw{d:Nat}{most:Nat}:∀(c:Nat) (a:List Nat),(∀b∈a,b<256)->∀b∈iP d c a,b<256
 |0,a,h=>h
 |c+1,a,h=>by
  unfold iP;refine yw (most:=most) c _ (λb f=>?_);rcases bG.1 f with h1|h1;·exact h b h1
  ·rw[cU]at h1;subst h1;rw[ax];cases e:a[G a-d]? with
   |none=>decide
   |some g=>exact h g (cI e)
def w_{c:iA}{k a:Nat}{r j:List Bool}{f g:List Nat}{b:Bool}(h:gY c k a r f=.ok (b,j,g))(e:Gd a f):Gd a g:=by
 unfold gY at h;split at h;·cases h
 ·split at h
  ·split at h;·next l d=>cases h;exact e.app (by simpa using d) (λm i=>by simp at i;omega)
   ·cases h
  ·split at h;·cases h;exact e
   ·split at h;·cases h
    ·split at h;·cases h
     ·split at h;·cases h
      ·split at h;·cases h
       ·split at h;·cases h
        ·split at h
         ·split at h;·next d=>cases h;exact⟨by rw[mD];exact d,yw (most:=a) _ _ e.2⟩
          ·cases h
         ·cases h
def gR.gd{c:iA}{k most:Nat}{r:List Bool}{b:List Nat}{res:Except Nat (List Bool×List Nat)}(h:gR c k most r b res):Gd most b->∀d a,res=.ok (d,a)->Gd most a:=by
 refine h (λr b res=>Gd most b->∀d a,res=.ok (d,a)->Gd most a) ?_ ?_ ?_;·intro r b l _ _ d a h;cases h
 ·intro r b j i f e d a h;cases h;exact w_ f e
 ·intro r b j i res f g e;exact g (w_ f e)
def xG(r:List Bool)(d:Nat):∀b∈ie r d,b<256:=by
 intro b c;obtain⟨a,_,rfl⟩:=cT.1 c;have h1:=jk ((r.drop (8*a)).take 8);have h2:((r.drop (8*a)).take 8).length<=8:=by rw[ay];omega
 have h3:2^((r.drop (8*a)).take 8).length<=2^8:=aJ Y h2;omega
def Ak{a:Nat}{r f:List Bool}{b c:List Nat}(h:jw a r b=.ok (f,c))(e:Gd a b):Gd a c:=by
 unfold jw at h;split at h;·cases h
 ·split at h;·cases h
  ·split at h;·next d=>cases h;exact e.app (by rw[show(ie _ _).length=_ from by unfold ie;rw[aw,List.length_range]];exact d) (xG _ _)
   ·cases h
def i8.gd{j most:Nat}{r c:List Bool}{g a:List Nat}(h:i8 j most r g (.ok (c,a)))(b:Gd most g):Gd most a:=by
 rcases h with⟨_,h⟩|⟨_,_,h⟩|⟨_,_,h⟩|⟨_,_,h⟩|⟨_,_,h⟩;·cases h
 ·exact Ak h b
 ·exact h.gd b c a rfl
 ·cases f:ix (r.drop 3)with
  |none=>have:=h.1 f;cases this
  |some k=>
   obtain⟨i,d⟩:=k;have h2:=h.2 i d f;by_cases e:jA d (iq (r.drop 3));·exact(h2.2 e).gd b c a rfl
   ·have:=h2.1 e;cases this
 ·cases h
def iy.gd{j most:Nat}{r:List Bool}{a:List Nat}{res:Except Nat (List Bool×List Nat)}(h:iy j most r a res):Gd most a->∀c b,res=.ok (c,b)->Gd most b:=by
 refine h (λr a res=>Gd most a->∀c b,res=.ok (c,b)->Gd most b) ?_ ?_ ?_;·intro r a k _ _ c b h;cases h
 ·intro r a i g e _ d c b h;cases h;exact e.gd d
 ·intro r a i g res e _ f d;exact f (e.gd d)
def lk.gd{most:Nat}{r:List Bool}{a:List Nat}(h:lk most r (.ok a)):Gd most a:=by
 rcases h with⟨d,_,h⟩|⟨c,e,h1,h2⟩;·cases h
 ·unfold lM at h2;split at h2
  ·cases h2;rcases h1 with⟨_,h1⟩|⟨_,h1⟩;·cases h1
   ·exact h1.gd ⟨aH _,λf b=>by cases b⟩ c a rfl
  ·cases h2
def sK{α:Type}(r:Except Nat α):Prop:=∀a,r=.error a->a≠0/\a<=100
def sK.five{α:Type}:sK (α:=α) (.error 5):=λa h=>by cases h;decide
def sK.six{α:Type}:sK (α:=α) (.error 6):=λa h=>by cases h;decide
def sK.ok{α:Type}(a:α):sK (.ok a):=λn h=>by cases h
def JJ{a:List Nat}{c:Nat}{b:List Nat}:sK (mG a c b):=by
 unfold mG;split;·exact .five
 ·exact .ok _
def Cs{d:List Nat}{e:Nat}:∀(a c:Nat) (b:List Nat),sK (vI d e a c b)
 |0,c,b=>.five
 |a+1,c,b=>by
  simp only[vI];repeat' split
  all_goals first|exact .five|exact .six|exact JJ|exact Cs a _ _
def JF{d:List Nat}{e:Nat}:∀(a c:Nat) (b:List Nat),sK (rD d e a c b)
 |0,c,b=>.five
 |a+1,c,b=>by
  simp only[rD];repeat' split
  all_goals first|exact .five|exact .six|exact .ok _|exact JF a _ _
def Hs{e:List Nat}{f:Nat}:∀(a d k b:Nat) (c:List Nat),sK (aD e f a d k b c)
 |0,d,k,b,c=>.five
 |a+1,d,k,b,c=>by
  simp only[aD];repeat' split
  all_goals first|exact .five|exact .six|exact JJ|exact Hs a _ _ _ _
def uI{c:iA}{d a:Nat}{r:List Bool}{b:List Nat}:sK (gY c d a r b):=by
 unfold gY;repeat' split
 all_goals first|exact .five|exact .six|exact .ok _
def gR.ne{c:iA}{j f:Nat}{r:List Bool}{a:List Nat}{b:Except Nat (List Bool×List Nat)}(h:gR c j f r a b):sK b:=by
 refine h (λr a b=>sK b) ?_ ?_ ?_;·intro r a k d l h;cases h;exact uI _ d
 ·intro r a i g d;exact .ok _
 ·intro r a i g b d e;exact e
def Al{a:Nat}{r:List Bool}{b:List Nat}:sK (jw a r b):=by
 unfold jw;repeat' split
 all_goals first|exact .five|exact .six|exact .ok _
def i8.ne{i e:Nat}{r:List Bool}{f:List Nat}{d:Except Nat (List Bool×List Nat)}(h:i8 i e r f d):sK d:=by
 rcases h with⟨_,h⟩|⟨_,_,h⟩|⟨_,_,h⟩|⟨_,_,h⟩|⟨_,_,h⟩;·rw[h];exact .five
 ·rw[<-h];exact Al
 ·exact h.ne
 ·cases c:ix (r.drop 3)with
  |none=>rw[h.1 c];exact .five
  |some j=>
   obtain⟨g,a⟩:=j;have h2:=h.2 g a c;by_cases b:jA a (iq (r.drop 3));·exact(h2.2 b).ne
   ·rw[h2.1 b];exact .five
 ·rw[h];exact .five
def iy.ne{i e:Nat}{r:List Bool}{a:List Nat}{b:Except Nat (List Bool×List Nat)}(h:iy i e r a b):sK b:=by
 refine h (λr a b=>sK b) ?_ ?_ ?_;·intro r a j c;exact c.ne
 ·intro r a g f c _;exact .ok _
 ·intro r a g f b c _ d;exact d
def lk.ne{d:Nat}{r:List Bool}{b:Except Nat (List Nat)}(h:lk d r b):sK b:=by
 rcases h with⟨a,h1,h⟩|⟨g,f,h1,h2⟩
 ·rw[h];have h3:sK (α:=List Bool×List Nat) (.error a):=by
   rcases h1 with⟨_,h1⟩|⟨_,h1⟩;·rw[h1];exact .five
   ·exact h1.ne
  intro e c;cases c;exact h3 a rfl
 ·rw[h2];unfold lM;split;·exact .ok _
  ·exact .five
def mB.ne{c d:Nat}{b:List Nat}{a:Except Nat (List Nat)}(h:mB c d b a):sK a:=by
 rcases h with⟨_,h⟩|⟨_,h⟩|⟨_,h⟩|⟨_,h⟩;·rw[<-h];exact Cs _ _ _
 ·rw[<-h];exact Hs _ _ _ _ _
 ·rw[<-h];exact JF _ _ _
 ·exact h.ne
def mB.small{d f:Nat}{c:List Nat}{b:Except Nat (List Nat)}(h:mB d f c b)(a:Nat)(e:b=.error a):a<=100:=(h.ne a e).2
def mB.gd{e most:Nat}{b c:List Nat}(h:mB e most b (.ok c))(f:∀d∈b,d<256):Gd most c:=by
 have a:Gd most []:=⟨aH _,λd g=>by cases g⟩;rcases h with⟨_,h⟩|⟨_,h⟩|⟨_,h⟩|⟨_,h⟩;·exact I0 _ _ _ _ a h
 ·exact DT _ _ _ _ _ _ a h
 ·exact F_ f _ _ _ _ a h
 ·exact h.gd
section
variable{w:Gr}
def oq(a:List Nat):List GI:=a.map λb:Nat=>I .u8 (b:Int)
def ul(a:List Nat):(oq a).length=G a:=by simp[oq]
def E4(a:ByteArray):byteCells a=oq (bl a):=by simp[byteCells,oq,bl]
def NR(p c d f:Nat)(a:ByteArray)(b:List GI)(i:w.heap[c]?=O (Pp b.toArray 5 (0,0)))(m:a.size<=d)(h:a.size<=G b):(Builtin.copy_ #[23,9] p #[Z (O ⟨c,0,N⟩) d f,MV a]).run Qe w=.ok (goInt a.size) (w.setRow c (oq (bl a)++b.drop a.size).toArray):=by
 have k:(byteCells a).length=a.size:=by rw[E4,ul,mK]
 have n:=run_storeCells_at Qe c 0 5 (byteCells a) 0 b.toArray w i (by rw[k];simpa using h) (by intro t e;rw[E4]at e;obtain⟨u,_,rfl⟩:=cT.1 e;rfl);have l:Nat.min a.size d=a.size:=b_ m;obtain⟨s,j,q,o,r⟩:=bu infoByte;have g:=firstCells_string (P:= Qe) a w;simp[Builtin.copy_,run_underlying bB,Builtin.lenOf,sizeOf,typeInfo,j,o,l,g,n];rw[E4,ul,mK]
def J2{c:Gr}{d b a:Nat}(h:c.ownsRow d 5 1 (Z (O ⟨b,0,N⟩) a a) a (madeCells (Value.cells (I .u8 0)) (a*1)).toList):c.heap[b]?=O (Pp (oq (Qf a 0)).toArray 5 (0,0)):=by
 rcases h.2 with⟨g,_⟩|⟨n,m,e,l,_,j,_,_,i,k⟩;·cases g
 cases l;have f:e.toList=(madeCells (Value.cells (I .u8 0)) (a*1)).toList:=by rw[<-k,bD (by rw[eX,i];omega)]
 have e2:(madeCells (Value.cells (I .u8 0)) (a*1)).toList=oq (Qf a 0):=by
  show(madeCells #[I .u8 0] (a*1)).toList=_;rw[Nat.mul_one];apply List.ext_getElem;·simp[madeCells,oq]
  ·intro o h1 h2;simp[madeCells,oq,Nat.mod_one]
 rw[j];congr 2;rw[<-e2,<-f]
def Eo(a:List Nat)(e f b:Nat):nth (a++Qf e f) b=if b<G a then nth a b else if b-G a<e then f else 0:=by
 unfold nth;rw[ax,ax];by_cases c:b<G a;·rw[ai c,aP c]
 ·rw[ah c,aF Y,List.getElem?_replicate];by_cases d:b-G a<e;·rw[ai d,ai d];rfl
  ·rw[ah d,ah d];rfl
def ms(a:ByteArray):List Nat:=bl a++Qf 8 77
def Ja(a:ByteArray):(ms a).length=a.size+8:=by simp[ms,mK]
def Mm(a:ByteArray)(hS:a.size<=140737488351232):K8 Qe 32 #[MV a] w λT K=>∃e,T=Ps (Z (O ⟨e,0,N⟩) (a.size+8) (a.size+8))/\K.heap[e]?=O (Pp (oq (ms a)).toArray 5 (0,0))/\LT w.heap.size w K/\w.heap.size<=e:=by
 obtain⟨i0,f,aa,ac,ad⟩:=bu infoByte;obtain⟨b,W⟩:∃b,a.size+8=b:=⟨_,rfl⟩;have eN:(a.size:Int)+8=b:=Y;have J:(oq (Qf b 0)).length=b:=by simp[oq]
 go_in
 go_wp2_with (at_make;refine wpList_make_full _ rfl _ _ 23 rfl w.heap.size 5 i0 (I .u8 0) 1 bB f aa ac U U _ _ b rfl rfl Y Y (by rw[ad];omega) oi (ag _) ?_;intro l t hg1;have X:=NR (w:=l) 3 w.heap.size b b a (oq (Qf b 0)) (J2 t) Y (by rw[J];omega));have E:=J2 t;have z:=(aq _ _).grown hg1 (ag _) (λk h=>by cases h);have C:oq (bl a)++(oq (Qf b 0)).drop a.size=oq (bl a++Qf 8 0):=by
  have:(oq (Qf b 0)).drop a.size=oq (Qf 8 0):=by unfold oq;rw[<-List.map_drop,List.drop_replicate,show b-a.size=8 by omega]
  rw[this];simp[oq]
 rw[C];have F:(l.setRow w.heap.size (oq (bl a++Qf 8 0)).toArray).heap[w.heap.size]?=O (Pp (oq (bl a++Qf 8 0)).toArray 5 (0,0)):=setRow_heap l w.heap.size _ _ _ _ E;have A:LT w.heap.size w (l.setRow w.heap.size (oq (bl a++Qf 8 0)).toArray):=z.t ⟨rfl,rfl,rfl,by simp[World.setRow],λk hk=>setRow_other l w.heap.size k _ Y⟩;generalize l.setRow w.heap.size (oq (bl a++Qf 8 0)).toArray=w2 at *;have r:=H F;have v:=H A;obtain⟨e,s⟩:∃e,w.heap.size=e:=⟨_,rfl⟩;have x:=H s;rw[s]at r ⊢;have m:=H W;clear E z C F A X t hg1 J s;have D:(bl a++Qf 8 0).length=b:=by rw[ak,mK,bI];exact m
 have y:=H D;go_loopw [4] (λu wr=>∃(k:Nat) (g:List Nat),u=I U k/\a.size<=k/\k<=b/\wr.heap[e]?=O (Pp (oq g).toArray 5 (0,0))/\L1 (G g=b)/\L1 (∀d,d<b->nth g d=if d<a.size then nth (bl a) d else if d<k then 77 else 0)/\LT w.heap.size w wr) (λu _=>b-(intOf u).toNat)
 case atStart=>
  refine⟨a.size,_,rfl,ag _,Y,r,y,λd f=>?_,v⟩;rw[Eo,mK];by_cases c:d<a.size;·rw[ai c,ai c]
  ·rw[ah c,ah c,ah c,ite_self]
 clear r v y D
 case round=>
  obtain⟨k,g,rfl,h1,h2,j,i,q,n⟩:=hrel;by_cases ck:k<b
  ·have S:(k:Int)<b:=Y;obtain⟨L,hx⟩:∃L,wr.cell? ⟨e,k,N⟩=O L:=by rw[iI j];exact⟨_,cR (by simp[oq,i.o];omega)⟩
   have fx:wr.frozen? ⟨e,k,N⟩=P2:=nG j;have R:L1 ((wr.setCell ⟨e,k,N⟩ (I .u8 77)).heap[e]?=O (Pp (oq (g.set k 77)).toArray 5 (0,0))):=by unfold Hid;rw[lV _ j];simp[oq,List.map_set]
   have M:=H (n.setCell (p:=⟨e,k,N⟩) (by rw[x.o];exact ag _) (I .u8 77));clear j n;go_wp2;go_roundw
   case rel=>
    refine⟨k+1,g.set k 77,by go_num,Y,Y,R,by unfold Hid;rw[dI];exact i,λd f=>?_,M⟩;by_cases c:d=k
    ·subst c;rw[zL _ _ _ (by rw[i.o];exact f),ah Y,ai Y]
    ·rw[yG _ _ _ _ (λh=>c h.s),q.o d f];split;·rfl
     ·by_cases B:d<k;·rw[ai B,ai Y]
      ·rw[ah B,ah Y]
   case measure=>simp[intOf];omega
  ·have S:¬(k:Int)<b:=Y;obtain rfl:k=b:=Y;have V:g=ms a:=by
    refine zE _ _ (by rw[i.o,Ja];exact m.s) (λd f=>?_);rw[i.o]at f;rw[q.o d f];rw[ms,Eo,mK];by_cases c:d<a.size;·rw[ai c,ai c]
    ·rw[ah c,ah c,ai f,ai (by have:=m.o;omega)]
   subst V;have Q:=H j;have P:=H n;clear j n q i;go_wp2;go_ret;exact⟨e,by first|rfl|(rw[m.o];rfl)|(have hh:=m.o;subst hh;rfl),Q,P,by rw[x.o];exact ag _⟩
def Md(a:ByteArray)(S:a.size<=140737488351232)(d:Nat)(l:w.heap[d]?=O (Pp (oq (ms a)).toArray 5 (0,0))):K8 Qe 34 #[Z (O ⟨d,0,N⟩) (a.size+8) (a.size+8),MV a] w λJ M=>J=Ps (OV PV)/\gb 5 w.heap.size [d] w M:=by
 obtain⟨b,j⟩:∃b,a.size+8=b:=⟨_,rfl⟩;rw[j];have A:(ms a).length=b:=by rw[Ja];exact j
 have y:=AC (w:=w) ⟨d,0,N⟩ b (bl a) (λm z=>by
  rw[mK]at z;rw[pR,iI l,bR];have:nth (bl a) m=nth (ms a) m:=by rw[ms,Eo,mK,ai z]
  rw[this];simp[oq,nth,af (show m<(ms a).length by omega)])
 rw[mK,uN]at y;have T:(a.size:Int)<=b:=Y;have B:=H A;have C:=H j;have s:=H l;clear A l
 go_in
 go_wp2;go_loopw [5,6] (λL q wr=>∃(k:Nat) (c:List Nat),L=OV PV/\q=I U k/\k<=b/\wr.heap[d]?=O (Pp (oq c).toArray 5 (0,0))/\L1 (G c=b)/\L1 (∀e,k<=e->nth c e=nth (ms a) e)/\gb 5 w.heap.size [d] w wr) (λ_ q _=>b-(intOf q).toNat)
 case atStart=>refine⟨0,ms a,?_,rfl,aH _,s,B,λe _=>rfl,gb.refl _ _ _ _⟩;simp
 clear y s
 case round=>
  obtain⟨k,c,rfl,rfl,W,g,t,i,n⟩:=hrel;by_cases D:k<b
  ·have E:(k:Int)<b:=Y;have K:wr.cell? ⟨d,k,N⟩=O (I .u8 (nth c k:Nat)):=by rw[iI g,bR];simp[oq,nth,af (show k<G c by rw[t.o];exact D)]
   have x:a.size<=k->nth c k=77:=λh=>by rw[i.o k (ag _),ms,Eo,mK,ah Y,ai (by have:=C.o;omega)]
   have r:=H x;have R:wr.frozen? ⟨d,k,N⟩=P2:=nG g;have u:L1 ((wr.setCell ⟨d,k,N⟩ (I .u8 77)).heap[d]?=O (Pp (oq (c.set k 77)).toArray 5 (0,0))):=by unfold Hid;rw[lV _ g];simp[oq,List.map_set]
   have v:=H (n.setCell (p:=⟨d,k,N⟩) eA (I .u8 77));have f:L1 ((c.set k 77).length=b/\∀e,k+1<=e->nth (c.set k 77) e=nth (ms a) e):=⟨by rw[dI];exact t,λe V=>by rw[yG _ _ _ _ Y];exact i e Y⟩;clear g n x i;by_cases Q:k<a.size
   ·have F:(k:Int)<a.size:=Y;clear r;generalize nth c k=P at *;go_wp2;go_roundw
    case rel=>exact⟨k+1,c.set k 77,rfl,by go_num,Y,u,f.1,f.2,v⟩
    case measure=>simp[intOf];omega
   ·have F:¬(k:Int)<a.size:=Y;rw[r.o Y]at K;go_wp2;go_roundw
    case rel=>exact⟨k+1,c.set k 77,rfl,by go_num,Y,u,f.1,f.2,v⟩
    case measure=>simp[intOf];omega
  ·have E:¬(k:Int)<b:=Y;obtain rfl:k=b:=Y;go_wp2;go_ret;exact⟨rfl,n⟩
def zN(a:Int)(w:Gr):K8 Qe 35 #[I U a] w λb c=>b=Ps (I U a)/\c=w:=by
 go_in
 go_wp2;go_ret;exact⟨rfl,rfl⟩
end
section
variable{w d:Gr}
def qH(w:Gr)(a b:GI):Prop:=K8 Qe 45 #[a,b] w λc d=>c=Ps (OV PV)/\LT w.heap.size w d
def GL{k:Nat}(ih:∀(a7 a8:Nat->Prop) (w:Gr) (a1 b:GI) (l:VT k),gF a7 k w a1 l->gF a8 k w b l->qH w a1 b)
  {a7 a8:Nat->Prop} {a1 b:GI} {l:gk (VT k)} (ha:gF a7 (k+1) w a1 l) (E:gF a8 (k+1) w b l): qH w a1 b:=by
 unfold qH;obtain⟨W,K,ka,kc,P,R,rfl,bo,bq,bm⟩:=ha.split;obtain⟨X,L,kb,lc,Q,S,rfl,cc,cd,cb⟩:=E.split;have cs:l.items.length<=9223372036854775807:=by obtain⟨xs,h1,h2,_⟩:=bo;rw[<-h2];exact Et h1
 have cr:=Et bm;have cu:=Et bq;have bx:=H bo;have b1:=H cc;have bz:=H bq;have b3:=H cd;have bw:=H bm;have b0:=H cb;have IH:=H ih;generalize cf:l.items.length=p at *;generalize cg:l.keys.length=s at *;generalize ce:l.filters.length=r at *;have bi:=H cf;have b6:=H cg;have b5:=H ce;generalize (l.kind:Int)=y at *;generalize l.n=z at *;generalize (l.places:Int)=A at *;generalize ge l.text=B at *
 go_in
 go_wp2;have b2:LT w.heap.size w ((w.alloc (Pp #[I U y,I U z,I U A,MV B,Z W p K,Z ka s kc,Z P r R] 67)).alloc (Pp #[I U y,I U z,I U A,MV B,Z X p L,Z kb s lc,Z Q r S] 67)):=((aq _ _).alloc (ag _) _).alloc eA _;have bs:((w.alloc (Pp #[I U y,I U z,I U A,MV B,Z W p K,Z ka s kc,Z P r R] 67)).alloc (Pp #[I U y,I U z,I U A,MV B,Z X p L,Z kb s lc,Z Q r S] 67)).heap[w.heap.size]?=O (Pp #[I U y,I U z,I U A,MV B,Z W p K,Z ka s kc,Z P r R] 67 (0,0)):=mA _ (bn _ _);have bc:((w.alloc (Pp #[I U y,I U z,I U A,MV B,Z W p K,Z ka s kc,Z P r R] 67)).alloc (Pp #[I U y,I U z,I U A,MV B,Z X p L,Z kb s lc,Z Q r S] 67)).heap[w.heap.size+1]?=O (Pp #[I U y,I U z,I U A,MV B,Z X p L,Z kb s lc,Z Q r S] 67 (0,0)):=by have:=bn (w.alloc (Pp #[I U y,I U z,I U A,MV B,Z W p K,Z ka s kc,Z P r R] 67)) (Pp #[I U y,I U z,I U A,MV B,Z X p L,Z kb s lc,Z Q r S] 67);rw[aL]at this;exact this
 generalize (w.alloc (Pp #[I U y,I U z,I U A,MV B,Z W p K,Z ka s kc,Z P r R] 67)).alloc (Pp #[I U y,I U z,I U A,MV B,Z X p L,Z kb s lc,Z Q r S] 67)=t at b2 bs bc ⊢;have ad:=H b2;have a5:=H bs;have a6:=H bc;have a9:=ae bc;go_loopw [5] (λD wr=>∃(i:Nat),i<=s/\D=I U i/\L1 (LT t.heap.size t wr)) (λD _=>s-(intOf D).toNat)
 case atStart=>exact⟨0,aH _,rfl,aq _ _⟩
 case round=>
  obtain⟨i,C,rfl,j⟩:=hrel;have c5:wr.cell? ⟨w.heap.size,5,N⟩=O (Z ka s kc):=by rw[j.o.cell p7,iI a5.o];rfl
  have e5:wr.cell? ⟨w.heap.size+1,5,N⟩=O (Z kb s lc):=by rw[j.o.cell a9,iI a6.o];rfl
  rcases aV C with C|C
  ·subst C;go_wp2;have M:=j;generalize wr=w3 at *;go_loopw [6] (λD wr=>∃(i:Nat),i<=r/\D=I U i/\L1 (LT t.heap.size t wr)) (λD _=>r-(intOf D).toNat)
   case atStart=>exact⟨0,aH _,rfl,M⟩
   case round=>
    obtain⟨i,C,rfl,j⟩:=hrel;have c6:wr.cell? ⟨w.heap.size,6,N⟩=O (Z P r R):=by rw[j.o.cell p7,iI a5.o];rfl
    have e6:wr.cell? ⟨w.heap.size+1,6,N⟩=O (Z Q r S):=by rw[j.o.cell a9,iI a6.o];rfl
    rcases aV C with C|C
    ·subst C;go_wp2;have a0:=j;generalize wr=w4 at *;go_loopw [7,8] (λD _ wr=>∃(i:Nat),i<=p/\D=I U i/\L1 (LT t.heap.size t wr)) (λD _ _=>p-(intOf D).toNat)
     case atStart=>exact⟨0,aH _,rfl,a0⟩
     case round=>
      obtain⟨e,hj,rfl,j⟩:=hrel;have c4:wr.cell? ⟨w.heap.size,4,N⟩=O (Z W p K):=by rw[j.o.cell p7,iI a5.o];rfl
      have e4:wr.cell? ⟨w.heap.size+1,4,N⟩=O (Z X p L):=by rw[j.o.cell a9,iI a6.o];rfl
      rcases aV hj with hj|hj
      ·subst hj;go_wp2;go_ret;exact⟨rfl,ad.t (j.o.m Y)⟩
      ·obtain⟨ac,hy⟩:∃ac,l.items[e]?=O ac:=⟨_,af (by rw[bi.o];exact hj)⟩;obtain⟨m,c,bv,al,_,_,hx,T⟩:=bx.o.at hy;obtain⟨x,c2,x2,ao,_,_,bt,V⟩:=b1.o.at hy;rw[bi.o]at al ao;cases al;cases ao;obtain⟨k0,k1,k2,k3,ja,jl,ch,ci,kl,cj,b7,fl,b8,F⟩:=gF.form hx;obtain⟨l0,l1,l2,l3,la,ll,cl,ck,ml,cn,b9,gl,ca,J⟩:=gF.form bt;have HD:L1 (∀a,LT t.heap.size t a->a.cell? ⟨m,e*7,N⟩=O (I U k0)/\a.cell? ⟨m,e*7+1,N⟩=O (I U k1)/\a.cell? ⟨m,e*7+2,N⟩=O (I U k2)/\a.cell? ⟨m,e*7+3,N⟩=O (MV k3)/\a.cell? ⟨m,e*7+4,N⟩=O (Z ja jl ch)/\a.cell? ⟨m,e*7+5,N⟩=O (Z ci kl cj)/\a.cell? ⟨m,e*7+6,N⟩=O (Z b7 fl b8)):=λa q=>by
        have u:∀{e:Nat} {aa:GI},w.cell? ⟨m,e,N⟩=O aa->a.cell? ⟨m,e,N⟩=O aa:=λ{e aa} h=>by rw[(ad.o.t (q.m Y)).cell (aC w _ h)];exact h
        exact⟨u (T 0 _ (by rw[F];rfl)),u (T 1 _ (by rw[F];rfl)),u (T 2 _ (by rw[F];rfl)),u (T 3 _ (by rw[F];rfl)),u (T 4 _ (by rw[F];rfl)),u (T 5 _ (by rw[F];rfl)),u (T 6 _ (by rw[F];rfl))⟩
       have HE:L1 (∀a,LT t.heap.size t a->a.cell? ⟨x,e*7,N⟩=O (I U l0)/\a.cell? ⟨x,e*7+1,N⟩=O (I U l1)/\a.cell? ⟨x,e*7+2,N⟩=O (I U l2)/\a.cell? ⟨x,e*7+3,N⟩=O (MV l3)/\a.cell? ⟨x,e*7+4,N⟩=O (Z la ll cl)/\a.cell? ⟨x,e*7+5,N⟩=O (Z ck ml cn)/\a.cell? ⟨x,e*7+6,N⟩=O (Z b9 gl ca)):=λa q=>by
        have u:∀{e:Nat} {aa:GI},w.cell? ⟨x,e,N⟩=O aa->a.cell? ⟨x,e,N⟩=O aa:=λ{e aa} h=>by rw[(ad.o.t (q.m Y)).cell (aC w _ h)];exact h
        exact⟨u (V 0 _ (by rw[J];rfl)),u (V 1 _ (by rw[J];rfl)),u (V 2 _ (by rw[J];rfl)),u (V 3 _ (by rw[J];rfl)),u (V 4 _ (by rw[J];rfl)),u (V 5 _ (by rw[J];rfl)),u (V 6 _ (by rw[J];rfl))⟩
       have bd:L1 (∀a,LT t.heap.size t a->a.cell? ⟨w.heap.size,4,N⟩=O (Z (O ⟨m,0,N⟩) p K)/\a.cell? ⟨w.heap.size+1,4,N⟩=O (Z (O ⟨x,0,N⟩) p L)):=λa q=>⟨by rw[q.cell p7,iI a5.o];rfl,by rw[q.cell a9,iI a6.o];rfl⟩;have bf:L1 (∀a,LT t.heap.size t a->qH a bv x2):=λa q=>by have br:=ad.o.t (q.m Y);exact IH a7 a8 a bv x2 ac (gF.keep k hx (λm _ hg=>br.block m hg)) (gF.keep k bt (λm _ hg=>br.block m hg))
       unfold qH at bf;subst F;subst J;have ct:IntKind.i64.wrap ((e:Int)+1)=((e+1:Nat):Int):=by rw[aU];omega
       go_wp2;refine om (λ_ a=>LT t.heap.size t a) aG ?_;intro f;have g:=j.o.drew;refine tj 0 f g λf g=>?_;refine tl 1 f g (λf g=>?_) (y:=λa q=>by obtain⟨_,_,_,E⟩:=q;obtain⟨q4,r4⟩:=bd.o a E;go_simp;try(with_reducible rfl));refine tj 2 f g λf g=>?_;refine tj 3 f g λf g=>?_;refine tl 4 f g (λf g=>?_) (y:=λa q=>by obtain⟨_,_,_,E⟩:=q;obtain⟨q0,q1,q2,q3,q4,q5,q6⟩:=HD.o a E;go_simp;try(with_reducible rfl));refine tj 5 f g λf g=>?_;refine tl 6 f g (λf g=>?_) (y:=λa q=>by obtain⟨_,_,_,E⟩:=q;obtain⟨q4,r4⟩:=bd.o a E;go_simp;try(with_reducible rfl));refine tj 7 f g λf g=>?_;refine tj 8 f g λf g=>?_;refine tl 9 f g (λf g=>?_) (y:=λa q=>by obtain⟨_,_,_,E⟩:=q;obtain⟨q0,q1,q2,q3,q4,q5,q6⟩:=HE.o a E;go_simp;try(with_reducible rfl));refine on 10 f λK' hK=>?_;go_simp;apply(bf _ j.drew).m;rintro cp w4 ⟨rfl,b4⟩;have a0:=H (j.drew.t (b4.m (by simpa using j.o.size)));refine hK _ _ a0 (λba bb=>?_);have f:=ba;have g:=bb
       (try simp only[jd])
       refine on 11 f λK' hK=>?_;go_simp;refine hK _ _ a0 (λba bb=>?_);have f:=ba;have g:=bb
       (try simp only[jd])
       refine oh aG ?_ _;go_wp2;go_roundw
       case rel=>exact⟨e+1,Y,by first|rfl|(congr 1),a0⟩
       case measure=>simp[intOf];omega
    ·obtain⟨v,hf⟩:∃v,l.filters[i]?=O v:=⟨_,af (by rw[b5.o];exact C)⟩;have a2:(l.filters.map λv:Nat=>I U v)[i]?=O (I U v):=by rw[aY,hf];rfl
     obtain⟨m,c,al,a3⟩:=uL bw a2;obtain⟨x,c2,ao,a4⟩:=uL b0 a2;cases al;cases ao;have M:=ad.o.t (j.o.m Y);have y1:wr.cell? ⟨m,i,N⟩=O (I U v):=by rw[M.cell (aC w _ a3)];exact a3
     have y2:wr.cell? ⟨x,i,N⟩=O (I U v):=by rw[M.cell (aC w _ a4)];exact a4
     go_wp2;go_quiet (fail);go_wp2;go_roundw
     case rel=>exact⟨i+1,Y,by first|rfl|(congr 1),bQ j _⟩
     case measure=>simp[intOf];omega
  ·obtain⟨v,hf⟩:∃v,l.keys[i]?=O v:=⟨_,af (by rw[b6.o];exact C)⟩;have a2:(l.keys.map λco=>MV (ge co))[i]?=O (MV (ge v)):=by rw[aY,hf];rfl
   obtain⟨m,c,al,a3⟩:=uL bz a2;obtain⟨x,c2,ao,a4⟩:=uL b3 a2;cases al;cases ao;have M:=ad.o.t (j.o.m Y);have y1:wr.cell? ⟨m,i,N⟩=O (MV (ge v)):=by rw[M.cell (aC w _ a3)];exact a3
   have y2:wr.cell? ⟨x,i,N⟩=O (MV (ge v)):=by rw[M.cell (aC w _ a4)];exact a4
   generalize ge v=SF at *;go_wp2;go_quiet (fail);go_wp2;go_roundw
   case rel=>exact⟨i+1,Y,by first|rfl|(congr 1),bQ j _⟩
   case measure=>simp[intOf];omega
def Kf:∀(k:Nat) (e f:Nat->Prop) (w:Gr) (c b:GI) (a:VT k),gF e k w c a->gF f k w b a->qH w c b
 |0,e,f,w,c,b,a,h,_=>h.elim
 |k+1,e,f,w,c,b,a,g,i=>GL (Kf k) g i
def OI{k:Nat}{ad al:Nat->Prop}{b b':Nat}{D:List (VT k)}{ov a7:GI}{root:Int}(P:kG ad k b D w ov)(q:kG al k b' D w a7):K8 Qe 50 #[N1 #[ov,I U root],N1 #[a7,I U root]] w λao d=>ao=Ps (OV PV)/\LT w.heap.size w d:=by
 obtain⟨z,t,rfl⟩:=P.len;obtain⟨A,u,rfl⟩:=q.len;have bv:G D<=9223372036854775807:=by obtain⟨xs,h1,h2,_⟩:=P;rw[<-h2];exact Et h1
 have a9:=H P;have ba:=H q;generalize bi:G D=i at *;have X:=H bi
 go_in
 go_wp2;have b2:LT w.heap.size w ((w.alloc (Pp #[Z z i t,I U root] 31)).alloc (Pp #[Z A i u,I U root] 31)):=((aq _ _).alloc (ag _) _).alloc eA _;have a4:((w.alloc (Pp #[Z z i t,I U root] 31)).alloc (Pp #[Z A i u,I U root] 31)).heap[w.heap.size]?=O (Pp #[Z z i t,I U root] 31 (0,0)):=mA _ (bn _ _);have R:((w.alloc (Pp #[Z z i t,I U root] 31)).alloc (Pp #[Z A i u,I U root] 31)).heap[w.heap.size+1]?=O (Pp #[Z A i u,I U root] 31 (0,0)):=by have:=bn (w.alloc (Pp #[Z z i t,I U root] 31)) (Pp #[Z A i u,I U root] 31);rw[aL]at this;exact this
 generalize (w.alloc (Pp #[Z z i t,I U root] 31)).alloc (Pp #[Z A i u,I U root] 31)=n at b2 a4 R ⊢;have F:=H b2;have aa:=H a4;have ac:=H R;have a3:=ae R;go_loopw [5,6] (λS _ wr=>∃(a6:Nat),a6<=i/\S=I U a6/\L1 (LT n.heap.size n wr)) (λS _ _=>i-(intOf S).toNat)
 case atStart=>exact⟨0,aH _,rfl,aq _ _⟩
 case round=>
  obtain⟨e,E,rfl,v⟩:=hrel;have c4:wr.cell? ⟨w.heap.size,0,N⟩=O (Z z i t):=by rw[v.o.cell p7,iI aa.o];rfl
  have e4:wr.cell? ⟨w.heap.size+1,0,N⟩=O (Z A i u):=by rw[v.o.cell a3,iI ac.o];rfl
  rcases aV E with E|E
  ·subst E;go_wp2;go_ret;exact⟨rfl,F.t (v.o.m Y)⟩
  ·obtain⟨C,hy⟩:∃C,D[e]?=O C:=⟨_,af (by rw[X.o];exact E)⟩;obtain⟨m,c,a8,a1,_,_,hx,x⟩:=a9.o.at hy;obtain⟨p,c2,x2,a2,_,_,a5,y⟩:=ba.o.at hy;rw[X.o]at a1 a2;cases a1;cases a2;obtain⟨k0,k1,k2,k3,ja,jl,bm,bo,kl,bq,bb,fl,bc,r⟩:=gF.form hx;obtain⟨l0,l1,l2,l3,la,ll,bs,br,ml,bt,bd,gl,bf,s⟩:=gF.form a5;have HD:L1 (∀a,LT n.heap.size n a->a.cell? ⟨m,e*7,N⟩=O (I U k0)/\a.cell? ⟨m,e*7+1,N⟩=O (I U k1)/\a.cell? ⟨m,e*7+2,N⟩=O (I U k2)/\a.cell? ⟨m,e*7+3,N⟩=O (MV k3)/\a.cell? ⟨m,e*7+4,N⟩=O (Z ja jl bm)/\a.cell? ⟨m,e*7+5,N⟩=O (Z bo kl bq)/\a.cell? ⟨m,e*7+6,N⟩=O (Z bb fl bc)):=λa j=>by
    have l:∀{e:Nat} {B:GI},w.cell? ⟨m,e,N⟩=O B->a.cell? ⟨m,e,N⟩=O B:=λ{e B} h=>by rw[(F.o.t (j.m Y)).cell (aC w _ h)];exact h
    exact⟨l (x 0 _ (by rw[r];rfl)),l (x 1 _ (by rw[r];rfl)),l (x 2 _ (by rw[r];rfl)),l (x 3 _ (by rw[r];rfl)),l (x 4 _ (by rw[r];rfl)),l (x 5 _ (by rw[r];rfl)),l (x 6 _ (by rw[r];rfl))⟩
   have HE:L1 (∀a,LT n.heap.size n a->a.cell? ⟨p,e*7,N⟩=O (I U l0)/\a.cell? ⟨p,e*7+1,N⟩=O (I U l1)/\a.cell? ⟨p,e*7+2,N⟩=O (I U l2)/\a.cell? ⟨p,e*7+3,N⟩=O (MV l3)/\a.cell? ⟨p,e*7+4,N⟩=O (Z la ll bs)/\a.cell? ⟨p,e*7+5,N⟩=O (Z br ml bt)/\a.cell? ⟨p,e*7+6,N⟩=O (Z bd gl bf)):=λa j=>by
    have l:∀{e:Nat} {B:GI},w.cell? ⟨p,e,N⟩=O B->a.cell? ⟨p,e,N⟩=O B:=λ{e B} h=>by rw[(F.o.t (j.m Y)).cell (aC w _ h)];exact h
    exact⟨l (y 0 _ (by rw[s];rfl)),l (y 1 _ (by rw[s];rfl)),l (y 2 _ (by rw[s];rfl)),l (y 3 _ (by rw[s];rfl)),l (y 4 _ (by rw[s];rfl)),l (y 5 _ (by rw[s];rfl)),l (y 6 _ (by rw[s];rfl))⟩
   have V:L1 (∀a,LT n.heap.size n a->a.cell? ⟨w.heap.size,0,N⟩=O (Z (O ⟨m,0,N⟩) i t)/\a.cell? ⟨w.heap.size+1,0,N⟩=O (Z (O ⟨p,0,N⟩) i u)):=λa j=>⟨by rw[j.cell p7,iI aa.o];rfl,by rw[j.cell a3,iI ac.o];rfl⟩;have W:L1 (∀a,LT n.heap.size n a->qH a a8 x2):=λa j=>by have a0:=F.o.t (j.m Y);exact Kf k ad al a a8 x2 C (gF.keep k hx (λm _ Q=>a0.block m Q)) (gF.keep k a5 (λm _ Q=>a0.block m Q))
   unfold qH at W;subst r;subst s;have bw:IntKind.i64.wrap ((e:Int)+1)=((e+1:Nat):Int):=by rw[aU];omega
   go_wp2;refine om (λ_ a=>LT n.heap.size n a) aG ?_;intro f;have g:=v.o.drew;refine tj 0 f g λf g=>?_;refine tl 1 f g (λf g=>?_) (y:=λa j=>by obtain⟨_,_,_,q⟩:=j;obtain⟨T,r4⟩:=V.o a q;go_simp;try(with_reducible rfl));refine tj 2 f g λf g=>?_;refine tj 3 f g λf g=>?_;refine tl 4 f g (λf g=>?_) (y:=λa j=>by obtain⟨_,_,_,q⟩:=j;obtain⟨q0,q1,q2,q3,T,q5,q6⟩:=HD.o a q;go_simp;try(with_reducible rfl));refine tj 5 f g λf g=>?_;refine tl 6 f g (λf g=>?_) (y:=λa j=>by obtain⟨_,_,_,q⟩:=j;obtain⟨T,r4⟩:=V.o a q;go_simp;try(with_reducible rfl));refine tj 7 f g λf g=>?_;refine tj 8 f g λf g=>?_;refine tl 9 f g (λf g=>?_) (y:=λa j=>by obtain⟨_,_,_,q⟩:=j;obtain⟨q0,q1,q2,q3,T,q5,q6⟩:=HE.o a q;go_simp;try(with_reducible rfl));refine on 10 f λK' L=>?_;go_simp;apply(W _ v.drew).m;rintro ao w4 ⟨rfl,b4⟩;have J:=H (v.drew.t (b4.m (by simpa using v.o.size)));refine L _ _ J (λK M=>?_);have f:=K;have g:=M
   (try simp only[jd])
   refine on 11 f λK' L=>?_;go_simp;refine L _ _ J (λK M=>?_);have f:=K;have g:=M
   (try simp only[jd])
   refine oh aG ?_ _;go_wp2;go_roundw
   case rel=>exact⟨e+1,Y,by first|rfl|(congr 1),J⟩
   case measure=>simp[intOf];omega
end
section
open Go.RowKit Go.Shelf
attribute [local go_sem] Oper.semAt_some
def uY(a:Nat):Prop:=1<=a/\a<=4
def tV:Type:={ a:Nat // uY a }
def tV.one:tV:=⟨4,by unfold uY;omega⟩
def ox(g:Nat)(e:Gr)(d:GI)(a:List tV):Prop:=
 (d=Z N 0 0/\a=[])\/∃b f,d=Z (O ⟨b,0,N⟩) (G a) f/\b<g/\∀c,c<G a->e.cell? ⟨b,c,N⟩=O (I U ((a[c]?.getD tV.one).1:Nat))
def ox.below{c:Nat}{d B:Gr}(h:LT c d B){i:GI}{e:List tV}:ox c d i e->ox c B i e
 | .inl a=>.inl a
 | .inr ⟨b,j,a,f,k⟩=>.inr ⟨b,j,a,f,λg l=>(h.cell (p:=⟨b,g,N⟩) f).t (k g l)⟩
end
section
open Go.RowKit Go.Shelf
attribute [local go_sem] Oper.semAt_some
variable{w a:Gr}
structure rW(w:Gr)(v:GI)(l:List Nat):Prop where
 sl:∃ao cap,v=Z ao (G l) cap/\rX w w.heap.size ao l/\G l<=cap/\cap<=9223372036854775807/\(ao=N->cap=0)
 byt:∀x∈l,x<256
def FH{b:List Nat}{d:Array GI}{e:Nat}{g:TypeId}{h:Nat×Nat}(j:w.heap[e]?=O (Pp d g h))(i:d.toList.take (G b)=DY b)(c:Nat)(f:c<G b):w.cell? ⟨e,0+c,N⟩=O (I .u8 (nth b c:Nat)):=by rw[bH,iI j,<-ei,<-c_ f,i];simp[DY,nth,af f]
def rW.own{e:Nat}{v:GI}{l:List Nat}(h:w.ownsRow e 5 1 v (G l) (DY l))(f:∀x∈l,x<256):rW w v l:=by
 refine⟨?_,f⟩;rcases h.2 with⟨h1,h2⟩|⟨g,c,n,e1,e2,d,m,k,o,j⟩
 ·have:=bM.1 h2;subst this;exact⟨N,0,h1,λi b=>absurd b eA,ag _,Y,λ_=>rfl⟩
 ·refine⟨_,c,e1,λi b=>⟨g,0,rfl,ae d,FH d (by simpa using j) i b⟩,m,k,λh=>by cases h⟩
def rW.below{v:GI}{e:List Nat}(h:rW w v e)(b:LT w.heap.size w a):rW a v e:=by obtain⟨⟨g,i,j,l,h1⟩,k⟩:=h;refine⟨⟨g,i,j,λd m=>?_,h1⟩,k⟩;obtain⟨c,f,e2,h2,h3⟩:=l d m;exact⟨c,f,e2,aQ h2 b.size,(b.cell (p:=⟨c,f+d,N⟩) h2).t h3⟩
end
section
variable{w a:Gr}
def Hj(w:Gr)(f:Except Nat (List Nat))(b:MB)(a:Gr):Prop:=match f with
 | .ok c=>∃d,b=Ps d/\a.ownsRow w.heap.size 5 1 d (G c) (DY c)/\LT w.heap.size w a
 | .error e=>b=gU e/\LT w.heap.size w a
structure uX(D:Nat->Nat->List Nat->Except Nat (List Nat)->Prop)(Q:Gr->Prop):Prop where
 call:∀(w:Gr) (v:GI) (f most:Nat) (d:List Nat) (res:Except Nat (List Nat)),uY f->rW w v d->most<=1000000->Q w->D f most d res->K8 Qe 80 #[I U f,v,I U most] w (Hj w res)
 keep:∀(w a:Gr),Q w->LT w.heap.size w a->Q a
 byt:∀(f most:Nat) (d l:List Nat),D f most d (.ok l)->∀x∈l,x<256
def mN(e:Nat->Nat->List Nat->Except Nat (List Nat)->Prop):List Nat->List Nat->Nat->Except Nat (List Nat)->Prop
 | [],b,c,d=>d=(if (G b)<=c then(if (G b)<=20000 then .ok b else .error 4)else .error 6)
 |f::h,b,c,d=>(∃m,e f c b (.ok m)/\mN e h m c d)\/(∃g,e f c b (.error g)/\d=.error g)
def vF(w:Gr)(e:Except Nat (List Nat))(b:MB)(a:Gr):Prop:=LT w.heap.size w a/\match e with
 | .ok c=>b=Ps (MV (ge c))
 | .error d=>b=gU d
def vF.ok_{d:Except Nat (List Nat)}{c:List Nat}(b:LT w.heap.size w a)(h:d=.ok c):vF w d (Ps (MV (ge c))) a:=by subst h;exact⟨b,rfl⟩
def vF.no_{c:Except Nat (List Nat)}{n:Nat}(b:LT w.heap.size w a)(h:c=.error n):vF w c (gU n) a:=by subst h;exact⟨b,rfl⟩
def uo{z:Nat->Nat->List Nat->Except Nat (List Nat)->Prop}{C:Gr->Prop}(P:uX z C){E:Option L2}{M k:Nat}{h:List tV}{pv:GI}{D:List Nat}{y:Except Nat (List Nat)}(S:ox w.heap.size w (Z E (G h) M) h)(a3:G h<=1000000)(V:rW w pv D)(T:k<=1000000)(Q:C w)(R:mN z (h.map λf=>f.1) D k y):K8 Qe 100 #[Z E (G h) M,pv,I U (k:Nat)] w (vF w y):=by
 have s:=H P;have J:=H S;have HP:=H V;have HQ:=H Q;have HU:=H R;obtain⟨t,v⟩:∃t,G h=t:=⟨_,rfl⟩;have K:=H v;rw[v]at a3 ⊢;rw[v]at J;clear P S V Q R v
 go_in
 go_wp2;go_loopw [7,13] (λa7 F wr=>∃(i:Nat) (c:List Nat),i<=t/\F=I U i/\L1 (rW wr a7 c)/\L1 (LT w.heap.size w wr)/\L1 (C wr)/\L1 (mN z ((h.drop i).map λf=>f.1) c k y)) (λ_ F _=>t-(intOf F).toNat)
 case atStart=>exact⟨0,D,aH _,rfl,HP,aq _ _,HQ,HU⟩
 case round=>
  obtain⟨i,c,q,rfl,r,j,B,L⟩:=hrel;obtain⟨va,vc,a5,_⟩:=r.o.sl;subst a5;rcases aV q with q|q
  ·subst q;have e:=L.o;rw[bS (by rw[K.o];exact ag _)]at e;have e:y=(if (G c)<=k then(if (G c)<=20000 then .ok c else .error 4)else .error 6):=e;obtain⟨m,n⟩:∃m,m=G c:=⟨_,rfl⟩;rw[<-n]at e ⊢;by_cases h1:m<=k
   ·rw[ai h1]at e;by_cases h2:m<=20000
    ·rw[ai h2]at e;have l:=H e;have a8:(convert 23 9 (Z va m vc)).run Qe wr=.ok (MV (ge c)) wr:=by obtain⟨⟨ao,a0,g,hd,_⟩,_⟩:=r.o;cases g;rw[n];exact Li hd
     clear e n;go_wp2_with (first|(go_at_call 63;apply(ou _ _ _ _ Y Y).m;rintro g a ⟨rfl,d⟩;have d:=d.s;subst d)|(go_at_call 63;apply(qP _ _ _ _ Y).m;rintro g a ⟨rfl,d⟩;have d:=d.s;subst d));apply(oe _).m;rintro g a ⟨rfl,d⟩;have d:=d.s;subst d;go_wp2;go_ret;exact .ok_ j l
    ·rw[ah h2]at e;have l:=H e;clear e n;go_wp2_with (first|(go_at_call 63;apply(ou _ _ _ _ Y Y).m;rintro g a ⟨rfl,d⟩;have d:=d.s;subst d)|(go_at_call 63;apply(qP _ _ _ _ Y).m;rintro g a ⟨rfl,d⟩;have d:=d.s;subst d));apply(nZ _).m;rintro g a ⟨rfl,d⟩;have d:=d.s;subst d;exact⟨rfl,.no_ j l⟩
   ·rw[ah h1]at e;have l:=H e;clear e n;go_wp2_with (first|(go_at_call 63;apply(ou _ _ _ _ Y Y).m;rintro g a ⟨rfl,d⟩;have d:=d.s;subst d)|(go_at_call 63;apply(qP _ _ _ _ Y).m;rintro g a ⟨rfl,d⟩;have d:=d.s;subst d));exact⟨rfl,.no_ j l⟩
  ·obtain⟨f,x⟩:∃f,h[i]?.getD tV.one=f:=⟨_,rfl⟩;have p:i<G h:=by rw[K.o];exact q
   have a1:h.drop i=f::h.drop (i+1):=by rw[aW p];rw[af p]at x;simp at x;rw[x]
   have a2:∃b,E=O ⟨b,0,N⟩/\wr.cell? ⟨b,i,N⟩=O (I U (f.1:Nat)):=by
    rcases J.o.below j with⟨h1,h2⟩|⟨b,a0,h1,h2,h3⟩;·rw[h2]at p;simp at p
    ·cases h1;refine⟨b,rfl,?_⟩;rw[h3 i p,x]
   obtain⟨b,rfl,hc⟩:=a2;have e:=L.o;rw[a1]at e;rcases e with⟨a6,h1,h2⟩|⟨a9,h1,h2⟩
   ·have A:=H (s.call wr _ f.1 k c _ f.2 r T B h1);have ad:=H h2;have aa:=H (s.byt _ _ _ _ h1);go_wp2_with fail;apply A.o.m;rintro g w1 ⟨v1,rfl,W,u⟩;obtain⟨ba,bb,a4⟩:=jp W;subst a4;have X:=H (rW.own W aa);have al:=H (j.t (u.m j.size));have ac:=H (s.keep _ _ B u);go_wp2;go_roundw
    case rel=>exact⟨i+1,a6,Y,by first|rfl|(congr 1),X,al,ac,ad⟩
    case measure=>simp[intOf];omega
   ·have A:=H (s.call wr _ f.1 k c _ f.2 r T B h1);have l:=H h2;go_wp2_with fail;apply A.o.m;rintro g w1 ⟨rfl,u⟩;exact⟨rfl,.no_ (j.t (u.m j.size)) l⟩
end
section
structure Nl(ao:Option L2)(br L C P most:Nat)(w:Gr):Prop where
 blk:w.heap[br]?=O (Pp #[Z ao L C,I U (P:Nat),Z N 0 0,I U (most:Nat)] 141 (0,0))
 l0:L=0
 c0:C<=9223372036854775807
 p0:P=0
variable{ao:Option L2}{br L C P most:Nat}{w:Gr}
def Ig{b c:Nat}{w a:Gr}(h:LT b w a)(e:c<=b):LT c w a:=⟨h.os,h.tape,h.output,h.size,λd f=>h.block d (aQ f e)⟩
def Nl.drewN(h:Nl ao br L C P most w)(n:Nat):Nl ao br L C P most (w.drewN n):=⟨h.blk,h.l0,h.c0,h.p0⟩
def PG(h:Nl ao br L C P most w)(c:Nat)(n:1<=c)(m:c<=1000000):K8 Qe 164 #[M2 (O ⟨br,0,N⟩),I U c] w λd j=>d=gU 5/\∃g,j=w.drewN g:=by
 unfold gU;have e:=mC h.blk;have f:=n5 h.blk;have i:L1 (decide ((c:Int)<=IntKind.i64.wrap ((L:Int)-(P:Int)))=P2):=by unfold Hid;rw[aU,h.l0,h.p0];simp;omega
 clear h
 go_in
 go_wp2_with fail;refine om (A7 br (Z ao L C) P) aG ?_;intro a;have b:A7 br (Z ao L C) P (Array.replicate 13 P2) w.drew:=⟨e,f⟩;refine tm 0 a b λa b=>?_;refine tm 1 a b λa b=>?_;refine tm 2 a b λa b=>?_;refine tm 3 a b λa b=>?_;refine tm 4 a b λa b=>?_;refine tm 5 a b λa b=>?_;refine tm 6 a b λa b=>?_;refine tm 7 a b λa b=>?_;refine tm 8 a b λa b=>?_;refine tm 9 a b λa b=>?_;refine tm 10 a b λa b=>?_;refine tm 11 a b λa b=>?_;refine on 12 a λk l=>?_;go_simp;apply(mn _ i _).m;rintro d p ⟨rfl,rfl⟩;exact⟨rfl,rfl,1,rfl⟩
def FI(h:Nl ao br L C P most w):K8 Qe 214 #[M2 (O ⟨br,0,N⟩)] w λa d=>a=gU 5/\LT br w d:=by
 have b:=H (PG h 1 Y Y);clear h
 go_in
 go_wp2_with fail;apply b.o.m;rintro a f ⟨rfl,e,c⟩;exact⟨rfl,rfl,by rw[c];exact⟨rfl,rfl,rfl,ag _,λ_ _=>rfl⟩⟩
def OT(h:Nl ao br L C P most w):K8 Qe 155 #[M2 (O ⟨br,0,N⟩)] w λc b=>c=Ps (OW #[])/\Nl ao br L C P most b/\LT br w b:=by
 obtain⟨a,rfl,e,rfl⟩:=h;have j:=mC a;have k:=n5 a;have l:=jR 1 a;have g:L1 (K8 Qe 188 #[Z ao 0 C,I U 0] w.drew λc b=>c=Ps (I U 0)/\b=w.drew):=Ki (w:=w.drew) (B:=0) (ao:=ao) (d:=[]) (p:=0) (cap:=C) (λm i=>by cases i) (aH _) e (ag _);have f:=H a;clear a
 go_in
 go_wp2_with fail;go_region_with (go_at_call 188;apply g.o.m;rintro c b ⟨rfl,rfl⟩);all_goals go_wp2
 all_goals go_end0
 all_goals exact⟨rfl,⟨by show(w.setCell ⟨br,1,N⟩ (I U 0)).heap[br]?=_;rw[lV _ f.o];rfl,rfl,e,rfl⟩,((aq br w).setCell eA _).drew⟩
def CL(h:Nl ao br L C P most w):K8 Qe 211 #[M2 (O ⟨br,0,N⟩)] w λa e=>a=gU 5/\LT br w e:=by
 have b:=H (OT h);clear h
 go_in
 go_wp2_with fail;apply b.o.m;rintro a f ⟨rfl,h1,c⟩;go_wp2_with fail;apply(FI h1).m;rintro a g ⟨rfl,d⟩;exact⟨rfl,rfl,c.t d⟩
def L4(h:Nl ao br L C P most w):K8 Qe 154 #[M2 (O ⟨br,0,N⟩)] w λa d=>a=gU 5/\LT br w d:=by have b:=H (CL h);clear h;go_enter d8,dT;go_wp2_with fail;apply b.o.m;rintro a e ⟨rfl,c⟩;exact⟨rfl,rfl,c⟩
def Lv(h:Nl ao br L C P most w):K8 Qe 113 #[M2 (O ⟨br,0,N⟩)] w λa d=>a=gU 5/\LT br w d:=by
 have b:=H (L4 h);clear h
 go_in
 go_wp2_with fail;go_loopw [] (λwr=>wr=w) (λwr=>0)
 case atStart=>rfl
 case round=>subst hrel;go_wp2_with fail;apply b.o.m;rintro a e ⟨rfl,c⟩;exact⟨rfl,rfl,c⟩
def N_(h:Nl ao br L C P most w):K8 Qe 158 #[M2 (O ⟨br,0,N⟩)] w λa d=>a=gU 5/\LT br w d:=by have b:=H (FI h);clear h;go_enter ez,d9;go_wp2_with fail;apply b.o.m;rintro a e ⟨rfl,c⟩;exact⟨rfl,rfl,c⟩
def LD(h:Nl ao br L C P most w):K8 Qe 115 #[M2 (O ⟨br,0,N⟩)] w λa d=>a=gU 5/\LT br w d:=by
 have b:=H (N_ h);clear h
 go_in
 go_wp2_with fail;go_loopw [] (λwr=>wr=w) (λwr=>0)
 case atStart=>rfl
 case round=>subst hrel;go_wp2_with fail;apply b.o.m;rintro a e ⟨rfl,c⟩;exact⟨rfl,rfl,c⟩
def Fk{bf:Nat}{cs:List GI}(h:Nl ao br L C P most w)(e:w.cell? ⟨bf,0,N⟩=O (M2 (O ⟨br,0,N⟩))):K8 Qe 160 #[M2 (O ⟨bf,0,N⟩)] w λc g=>c=gU 5/\LT br w g:=by
 have d:=H (FI (w:=w.drew) (h.drewN 1));clear h
 go_in
 go_wp2_with fail;refine om (vW bf (M2 (O ⟨br,0,N⟩))) aG ?_;intro a;have b:vW bf (M2 (O ⟨br,0,N⟩)) (Array.replicate 16 P2) w.drew:=e;refine tm 0 a b λa b=>?_;refine tm 1 a b λa b=>?_;refine tm 2 a b λa b=>?_;refine tm 3 a b λa b=>?_;refine tm 4 a b λa b=>?_;refine tm 7 a b λa b=>?_;refine tm 8 a b λa b=>?_;refine tm 9 a b λa b=>?_;refine tm 10 a b λa b=>?_;refine tm 11 a b λa b=>?_;refine on 5 a λi j=>?_;go_simp;apply d.o.m;rintro c k ⟨rfl,f⟩;exact⟨rfl,rfl,(aq _ _).drew.t f⟩
def Nl.below{a:Gr}(h:Nl ao br L C P most w)(b:LT w.heap.size w a):Nl ao br L C P most a:=⟨(b.block _ (ae h.blk)).t h.blk,h.l0,h.c0,h.p0⟩
def KA(h:Nl ao br L C P most w):K8 Qe 157 #[M2 (O ⟨br,0,N⟩)] w λc d=>c=gU 5/\LT br w d:=by
 have f:=ae h.blk;have g:L1 (∀a:Gr,LT w.heap.size w a->K8 Qe 211 #[M2 (O ⟨br,0,N⟩)] a λc d=>c=gU 5/\LT br a d):=λa b=>CL (h.below b);clear h
 go_in
 go_wp2_with fail;go_loopw [7] (λi wr=>i=I U 0/\L1 (LT w.heap.size w wr)) (λ_ _=>0)
 case atStart=>exact⟨rfl,(aq _ _).alloc (ag _) _⟩
 case round=>obtain⟨rfl,e⟩:=hrel;go_wp2_with fail;apply(g _ e).m;rintro c k ⟨rfl,j⟩;exact⟨rfl,rfl,(Ig e (ew f)).t j⟩
def Lp(h:Nl ao br L C P most w):K8 Qe 114 #[M2 (O ⟨br,0,N⟩)] w λa d=>a=gU 5/\LT br w d:=by
 have b:=H (KA h);clear h
 go_in
 go_wp2_with fail;go_loopw [] (λwr=>wr=w) (λwr=>0)
 case atStart=>rfl
 case round=>subst hrel;go_wp2_with fail;apply b.o.m;rintro a e ⟨rfl,c⟩;exact⟨rfl,rfl,c⟩
def Ls(h:Nl ao br L C P most w):K8 Qe 116 #[M2 (O ⟨br,0,N⟩)] w λb n=>b=gU 5/\LT br w n:=by
 have i:=ae h.blk;have g:=H h;clear h
 go_in
 go_wp2_with fail;apply IL.m;rintro b p ⟨c,d,rfl,-,-,e,-,-⟩;have a:=H e;have k:=H (λj=>wQ (fC c d) j br (IK c d));have tokb:True:=trivial;generalize fC c d=f at *;clear e;go_wp2_with (have q:=tokb;refine Hb (by rfl) 167 0 2 (.tmp 4) (.tmp 5) (by rfl) _ _ _ (by rfl) (by rfl) k ?_;clear tokb);have l:=g.o.below (a.alloc a.size (Pp (M2 (O ⟨br,0,N⟩)::I .u8 0::I U 0::I U 0::f).toArray 167 (0,0)));refine(Fk (cs:=[]) (bf:=p.heap.size) l (by rw[iI (bn _ _)];simp)).m ?_;rintro b r ⟨rfl,m⟩;exact⟨rfl,rfl,(Ig (a.alloc a.size _) (ew i)).t m⟩
def Nl.start(w:Gr)(most:Nat)(a:C<=9223372036854775807):Nl ao w.heap.size 0 C 0 most (w.alloc (Pp #[Z ao 0 C,I U 0,Z N 0 0,I U (most:Nat)] 141 (0,0))):=⟨bn _ _,rfl,a,rfl⟩
def LW(a:Nat)(l:1<=a/\a<=4)(m:most<=1000000)(d:C<=9223372036854775807):K8 Qe 80 #[I U a,Z ao 0 C,I U (most:Nat)] w (Hj w (.error 5)):=by
 have g:LT w.heap.size w (w.alloc (Pp #[Z ao 0 C,I U 0,Z N 0 0,I U (most:Nat)] 141 (0,0))):=(aq _ _).alloc (ag _) _;have c:=H g;have h:=H (Lv (Nl.start (ao:=ao) w most d));have i:=H (Lp (Nl.start (ao:=ao) w most d));have j:=H (LD (Nl.start (ao:=ao) w most d));have k:=H (Ls (Nl.start (ao:=ao) w most d));clear g;obtain rfl|rfl|rfl|rfl:a=1\/a=2\/a=3\/a=4:=Y
 ·go_enter fP,fJ;go_wp2_with fail;apply h.o.m;rintro e f ⟨rfl,b⟩;exact⟨rfl,rfl,c.t b⟩
 ·go_enter fP,fJ;go_wp2_with fail;apply i.o.m;rintro e f ⟨rfl,b⟩;exact⟨rfl,rfl,c.t b⟩
 ·go_enter fP,fJ;go_wp2_with fail;apply j.o.m;rintro e f ⟨rfl,b⟩;exact⟨rfl,rfl,c.t b⟩
 ·go_enter fP,fJ;go_wp2_with fail;apply k.o.m;rintro e f ⟨rfl,b⟩;exact⟨rfl,rfl,c.t b⟩
end
section
variable{w w':Gr}
def sT{k:Nat}(y:VT (k+1))(a:List Nat):VT (k+1):=({ (show gk (VT k)from y)with text:=a }:gk (VT k))
def IU{d e f m g i j s:GI}:∀(a:List GI) (b:Nat),(∀c∈a,(cellsOf c).length=7)->a[b]?=O (N1 #[d,e,f,m,g,i,j])->(a.set b (N1 #[d,e,f,s,g,i,j])).flatMap cellsOf=(a.flatMap cellsOf).set (b*7+3) s
 | [],b,_,h=>by simp at h
 |c::a,0,_,h=>by simp at h;subst h;rfl
 |c::a,b+1,l,h=>by have k:=l c (ef ..);have o:=IU (s:=s) a b (λp n=>l p (dU _ n)) oT;rw[List.set_cons_succ,fM,fM,o,er _ _ (by rw[k];omega),k];congr 2;omega
def gF.text{a:Nat->Prop}{k:Nat}{v:GI}{y:VT (k+1)}(h:gF a (k+1) w v y)(i:List Nat):∃b c d j e f g,v=N1 #[b,c,d,j,e,f,g]/\gF a (k+1) w (N1 #[b,c,d,MV (ge i),e,f,g]) (sT y i):=by obtain⟨p,q,l,r,h1,h2,h3,m,n,o⟩:=h;exact⟨_,_,_,_,_,_,_,h1,p,q,l,r,rfl,h2,h3,m,n,o⟩
def kG.text{g:Nat->Prop}{k b e u c:Nat}{i:List (VT (k+1))}(h:kG g (k+1) b i w (Z (O ⟨e,0,N⟩) u c)){m:Nat}{y:VT (k+1)}(n:i[m]?=O y)(F:∀a,g a->a≠e)(f:List Nat):kG g (k+1) b (i.set m (sT y f)) (w.setCell ⟨e,m*7+3,N⟩ (MV (ge f))) (Z (O ⟨e,0,N⟩) u c):=by
 obtain⟨p,h1,h2,h3⟩:=h;have Q:=(cH.1 n).1;obtain⟨d,j⟩:∃d,p[m]?=O d:=⟨_,af Y⟩;have X:=h3 m d y j n;obtain⟨v,x,z,a3,A,B,C,aa,S⟩:=X.text f;subst aa;have E:∀d∈p,(cellsOf d).length=7:=λd j=>by obtain⟨t,M,P⟩:=cK j;obtain⟨y,n⟩:∃y,i[t]?=O y:=⟨_,af Y⟩;exact(h3 t d y (by rw[af M,P]) n).cells.1
 have r:∀a,g a->a<w.heap.size->(w.setCell ⟨e,m*7+3,N⟩ (MV (ge f))).heap[a]?=w.heap[a]?:=λa T _=>kW _ (F a T);refine⟨p.set m (N1 #[v,x,z,MV (ge f),A,B,C]),?_,by rw[dI,dI,h2],λs x' y' l o=>?_⟩
 ·rw[dI,IU p m E j];obtain⟨l1,l2⟩:=h1;refine⟨by rw[dI];exact l1,?_⟩;rcases l2 with⟨q,_⟩|⟨a,c',D,q,J,L,R,K,V,W⟩;·cases q
  ·cases q;refine P4 ⟨e,c,D.setIfInBounds (m*7+3) (MV (ge f)),rfl,J,by rw[lV _ L],R,K,by rw[fQ];exact V,?_⟩;rw[Array.toList_setIfInBounds,<-W,List.take_set]
 ·by_cases c:s=m
  ·subst c;rw[List.getElem?_set_self Y]at l;rw[List.getElem?_set_self Q]at o;cases l;cases o;exact gF.keep (k+1) S r
  ·rw[List.getElem?_set_ne (fW c)]at l o;exact gF.keep (k+1) (h3 s x' y' l o) r
def mh(c:Nat->Nat->List Nat->Except Nat (List Nat)->Prop):List (VT 12×List Nat)->Nat->Except Nat (List (VT 12))->Prop
 | [],_,b=>b=.ok []
 |a::f,d,b=>
  (gk.kind (α:=VT 11) a.1≠8/\∃r,mh c f d r/\b=r.map (a.1 :: ·)) \/
  (gk.kind (α:=VT 11) a.1=8/\((∃e r,mN c (gk.filters (α:=VT 11) a.1) a.2 d (.ok e)/\mh c f (d-G e) r/\b=r.map (sT (k:=11) a.1 e :: ·))\/(∃g,mN c (gk.filters (α:=VT 11) a.1) a.2 d (.error g)/\b=.error g)))
def mN.le{e:Nat->Nat->List Nat->Except Nat (List Nat)->Prop}:∀(c d:List Nat) (a:Nat) (b:List Nat),mN e c d a (.ok b)->G b<=a
 | [],d,a,b,h=>by
  unfold mN at h;split at h
  ·split at h;·cases h;assumption
   ·cases h
  ·cases h
 |f::c,d,a,b,h=>by
  rcases h with⟨m,_,h⟩|⟨g,_,h⟩;·exact mN.le c m a b h
  ·cases h
def yY(w:Gr)(f:Except Nat (List (VT 12)))(g:Int)(a:MB)(w':Gr):Prop:=
 LT w.heap.size w w'/\match f with
  | .ok c=>∃b,a=Ps (N1 #[b,I U g])/\kG (λd=>w.heap.size<=d) 12 w.heap.size c w' b
  | .error e=>a=gU e
def yY.no_{a:Except Nat (List (VT 12))}{c:Int}{n:Nat}(b:LT w.heap.size w w')(h:a=.error n):yY w a c (gU n) w':=by subst h;exact⟨b,rfl⟩
def yY.ok_{d:Except Nat (List (VT 12))}{a:List (VT 12)}{e:Int}{c:GI}(b:LT w.heap.size w w')(h:d=.ok a)(g:kG (λf=>w.heap.size<=f) 12 w.heap.size a w' c):yY w d e (Ps (N1 #[c,I U e])) w':=by subst h;exact⟨b,_,rfl,g⟩
end
