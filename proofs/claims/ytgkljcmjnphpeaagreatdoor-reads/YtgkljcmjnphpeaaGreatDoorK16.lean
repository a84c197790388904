import Derived.Test.YtgkljcmjnphpeaaGreatDoorK15
set_option linter.defProp false
set_option linter.unusedVariables false
set_option linter.unusedSimpArgs false
set_option maxHeartbeats 8000000
set_option maxRecDepth 100000
open List renaming length->G
open Go renaming Value->GI,World->Gr,Calls->K8,Addr->L2,Ending->MB
open Go.Value renaming int->I,pointer->M2,string->MV,agg->N1,bool->OV,tuple->OW,slice->Z
open Go.RowKit renaming Hid->L1,Below->LT
open Option renaming none->N,some->O
open Bool renaming false->P2,true->PV
open Or renaming inl->P3,inr->P4
open Go.Obj renaming cells->Pp
open Go.Ending renaming returned->Ps
open Go.Proofs.Tryz renaming prog->Qe
open List renaming replicate->Qf
open Go.IntKind renaming i64->U
open Go.Proofs.Tryz
namespace Go.Proofs.YtgkljcmjnphpeaaGreatDoor
open Go.RowKit
section
variable{w p:Gr}
def P6:∀a b:Bool,(a=P2)\/(a=PV/\b=P2)\/(a=PV/\b=PV):=by decide
def Kw:∀a b c d:Bool,(a=P2)\/(a=PV/\b=P2)\/(a=PV/\b=PV/\c=P2)\/(a=PV/\b=PV/\c=PV/\d=P2)\/(a=PV/\b=PV/\c=PV/\d=PV):=by decide
def Hh:∀a b c d e:Bool,(a=P2)\/(a=PV/\b=P2)\/(a=PV/\b=PV/\c=P2)\/(a=PV/\b=PV/\c=PV/\d=P2)\/(a=PV/\b=PV/\c=PV/\d=PV/\e=P2)\/(a=PV/\b=PV/\c=PV/\d=PV/\e=PV):=by decide
def P8:∀a b c d e f:Bool,(a=P2)\/(a=PV/\b=P2)\/(a=PV/\b=PV/\c=P2)\/(a=PV/\b=PV/\c=PV/\d=P2)\/(a=PV/\b=PV/\c=PV/\d=PV/\e=P2)\/(a=PV/\b=PV/\c=PV/\d=PV/\e=PV/\f=P2)\/(a=PV/\b=PV/\c=PV/\d=PV/\e=PV/\f=PV):=by intro a b c d e f;cases a<;>cases b<;>cases c<;>cases d<;>cases e<;>cases f<;>decide
def NK(x y z:Int)(A:ByteArray)(F:Option L2)(q J:Nat)(K:Option L2)(r L:Nat)(C:Option L2)(n D:Nat)(w:Gr)(X:q<=200001)(b2:r<=200001)(b3:n<=200001)(a b c u3 d u5 i e j l k f:Bool)
  (t0:(y==0)=i) (t1:(z==0)=e) (t2:(A.toList==[])=j) (t3:((q:Int)==0)=l) (t4:((r:Int)==0)=k) (t5:((n:Int)==0)=f)
  (S:L1 (∀B:Gr,K8 Qe 165 #[I U x] B λu p=>u=Ps (N1 #[OV a,OV b,OV c,OV u3,OV d,OV u5])/\LT B.heap.size B p))
  (T:(a,b,c,u3,d,u5)=(P2,P2,P2,P2,P2,P2)\/(a,b,c,u3,d,u5)=(PV,P2,P2,P2,P2,P2)\/(a,b,c,u3,d,u5)=(PV,PV,P2,P2,P2,P2)\/(a,b,c,u3,d,u5)=(P2,P2,PV,P2,P2,P2) \/
   (a,b,c,u3,d,u5)=(P2,P2,P2,PV,P2,P2)\/(a,b,c,u3,d,u5)=(P2,P2,P2,PV,PV,P2)\/(a,b,c,u3,d,u5)=(P2,P2,PV,PV,PV,PV)):K8 Qe 117 #[N1 #[I U x,I U y,I U z,MV A,Z F q J,Z K r L,Z C n D]] w λu p=>u=Ps (OV ((a||i)&&(b||e)&&(c||j)&&(u3||l)&&(d||k)&&(u5||f)))/\LT w.heap.size w p:=by
 have Q:L1 (∀P:Array GI,LT w.heap.size w (w.alloc (Pp P 67))):=λP=>(aq _ _).alloc (ag _) _;have M:=H T
 go_in
 go_wp2_with fail;go_call (S _) as u s ⟨rfl,E⟩;have V:s.heap[w.heap.size]?=O (Pp #[I U x,I U y,I U z,MV A,Z F q J,Z K r L,Z C n D] 67 (0,0)):=by rw[E.block _ eA];exact bn _ _
 have aa:w.heap.size<s.heap.size:=by have:=E.size;simp at this;omega
 have R:=H ((Q _).t (E.m eA))
 go_upto_region 2 with(fail)
 obtain⟨t,v⟩:∃t,s.alloc (Pp #[OV a,OV b,OV c,OV u3,OV d,OV u5] 169)=t:=⟨_,rfl⟩;have m:t.heap[w.heap.size]?=O (Pp #[I U x,I U y,I U z,MV A,Z F q J,Z K r L,Z C n D] 67 (0,0)):=by rw[<-v];exact mA _ V
 have W:t.heap[s.heap.size]?=O (Pp #[OV a,OV b,OV c,OV u3,OV d,OV u5] 169 (0,0)):=by rw[<-v];exact bn _ _
 have g:L1 (LT w.heap.size w t):=by unfold Hid;rw[<-v];exact R.alloc Y _
 rw[v];generalize s.heap.size=ub at *;obtain⟨x0,x1,x2,x3,x4,x5⟩:=Lf W;have y1:=n5 m;have y2:=rZ m;have y3:=s_ m;have y4:=qZ m;have y5:=r_ m;have y6:=uy m;rcases M.o with h|h|h|h|h|h|h<;>cases h<;>clear M;·rcases P8 i e j l k f with rfl|⟨rfl,rfl⟩|⟨rfl,rfl,rfl⟩|⟨rfl,rfl,rfl,rfl⟩|⟨rfl,rfl,rfl,rfl,rfl⟩|⟨rfl,rfl,rfl,rfl,rfl,rfl⟩|⟨rfl,rfl,rfl,rfl,rfl,rfl⟩<;>(go_wp2;go_ret;exact⟨rfl,g⟩)
 ·rcases Hh e j l k f with rfl|⟨rfl,rfl⟩|⟨rfl,rfl,rfl⟩|⟨rfl,rfl,rfl,rfl⟩|⟨rfl,rfl,rfl,rfl,rfl⟩|⟨rfl,rfl,rfl,rfl,rfl⟩<;>(go_wp2;go_ret;exact⟨rfl,g⟩)
 ·rcases Kw j l k f with rfl|⟨rfl,rfl⟩|⟨rfl,rfl,rfl⟩|⟨rfl,rfl,rfl,rfl⟩|⟨rfl,rfl,rfl,rfl⟩<;>(go_wp2;go_ret;exact⟨rfl,g⟩)
 ·rcases Hh i e l k f with rfl|⟨rfl,rfl⟩|⟨rfl,rfl,rfl⟩|⟨rfl,rfl,rfl,rfl⟩|⟨rfl,rfl,rfl,rfl,rfl⟩|⟨rfl,rfl,rfl,rfl,rfl⟩<;>(go_wp2;go_ret;exact⟨rfl,g⟩)
 ·rcases Hh i e j k f with rfl|⟨rfl,rfl⟩|⟨rfl,rfl,rfl⟩|⟨rfl,rfl,rfl,rfl⟩|⟨rfl,rfl,rfl,rfl,rfl⟩|⟨rfl,rfl,rfl,rfl,rfl⟩<;>(go_wp2;go_ret;exact⟨rfl,g⟩)
 ·rcases Kw i e j f with rfl|⟨rfl,rfl⟩|⟨rfl,rfl,rfl⟩|⟨rfl,rfl,rfl,rfl⟩|⟨rfl,rfl,rfl,rfl⟩<;>(go_wp2;go_ret;exact⟨rfl,g⟩)
 ·rcases P6 i e with rfl|⟨rfl,rfl⟩|⟨rfl,rfl⟩<;>(go_wp2;go_ret;exact⟨rfl,g⟩)
def Oc{i:Nat->Prop}{k:Nat}{g:GI}{a:gk (VT k)}(h:gF i (k+1) w g a)(x:a.kind<=100000)(u:a.items.length<=200001)(r:a.keys.length<=200001)(s:a.filters.length<=200001):K8 Qe 117 #[g] w λe p=>e=Ps (OV (j9 a))/\LT w.heap.size w p:=by
 obtain⟨J,K,E,L,c,z,v,F,y,t⟩:=h.parts;obtain⟨A,B,rfl⟩:=jp v.1;obtain⟨C,D,rfl⟩:=jp y.1;obtain⟨m,o,rfl⟩:=jp t.1;rw[z]at c;unfold nV at c;subst c;have d:=Gq a.kind x;unfold BC at d;refine(NK (a.kind:Int) a.n (a.places:Int) (ge a.text) A a.items.length B C a.keys.length D m a.filters.length o w u r s _ _ _ _ _ _ _ _ _ _ _ _ rfl rfl rfl rfl rfl rfl (H d) ?_).m ?_
 ·generalize a.kind=b;rcases(show b=1\/b=2\/b=3\/b=4\/b=5\/b=6\/b=7\/b=8\/b=9\/(b≠1/\b≠2/\b≠3/\b≠4/\b≠5/\b≠6/\b≠7/\b≠8/\b≠9)by omega)with rfl|rfl|rfl|rfl|rfl|rfl|rfl|rfl|rfl|h;all_goals first|(simp;done)|simp[h]
 ·rintro e p ⟨rfl,q⟩;refine⟨?_,q⟩;unfold j9;have e0:(a.n==0)=decide (a.n=0):=by rw[bC];simp
  have l:((a.places:Int)==0)=decide (a.places=0):=by rw[bC];simp
  have e1:((ge a.text).toList==[])=decide (a.text=[]):=by
   rw[pY,cJ];constructor
   ·intro h;have h2:=Dt a.text;rw[h]at h2;exact bM.1 h2.s
   ·intro h;rw[h];rfl
  have e2:∀{f:Decidable (a.items=[])},((a.items.length:Int)==0)=(@decide (a.items=[]) f):=by intro f;rw[bC,beq_iff_eq,cm,<-bM];omega
  have j:((a.keys.length:Int)==0)=decide (a.keys=[]):=by rw[bC,beq_iff_eq,cm,<-bM];omega
  have e4:((a.filters.length:Int)==0)=decide (a.filters=[]):=by rw[bC,beq_iff_eq,cm,<-bM];omega
  rw[e0,l,e1,e2,j,e4]
def P7:∀a b c d:Bool,(a=P2)\/(a=PV/\b=PV)\/(a=PV/\b=P2/\c=PV)\/(a=PV/\b=P2/\c=P2/\d=PV)\/(a=PV/\b=P2/\c=P2/\d=P2):=by decide
def KN{a:ByteArray}{e f g:Bool}(b:(a.toList==[76,101,110,103,116,104])=e)(c:(a.toList==[70,105,108,116,101,114])=f)(d:(a.toList==[68,101,99,111,100,101,80,97,114,109,115])=g):kX a=(e||f||g):=by rw[pY]at b c d;unfold kX;rw[<-b,<-c,<-d]
def NH{bc:Nat->Prop}{k:Nat}{a8:GI}{a:gk (VT k)}(h:gF bc (k+1) w a8 a)(hi:a.items.length<=200001)(a5:a.keys.length<=200001)(bd:a.filters.length<=200001)(D:∀j,j<a.keys.length->(ge (a.keys.getD j [])).size<=300000)(ht:(ge a.text).size<=900000)(C:∀d∈a.filters,d<=100000):K8 Qe 121 #[a8] w λB p=>B=Ps (OV (j5 a))/\LT w.heap.size w p:=by
 obtain⟨iv,kv,fv,vs,q,a7,bf,bs,a1,a6⟩:=h.parts;obtain⟨ia,ic,rfl⟩:=jp bf.1;obtain⟨T,V,rfl⟩:=jp a1.1;obtain⟨X,fc,rfl⟩:=jp a6.1;have HK:=H a1;have ba:=H a6;have a9:=H C;rw[a7]at q;have B1:L1 (∀u,LT w.heap.size w (w.alloc (Pp u 67))):=λu=>(aq _ _).alloc (ag _) _;have W:L1 (∀u,K8 Qe 120 #[Z T a.keys.length V,I U (a.items.length:Nat)] (w.alloc (Pp u 67)) λB p=>B=Ps (OV (jt a.keys a.items.length))/\∃g,p=(w.alloc (Pp u 67)).drewN g):=λu=>
  JG (λj hi=>by obtain⟨P,B,hc⟩:=q_.of a1 j hi;exact⟨P,B,by rw[(B1.o u).cell (aC w _ hc)];exact hc⟩) a5 hi D
 obtain⟨ad,hR⟩:∃ad,j5 a=ad:=⟨_,rfl⟩;rw[hR];have A:=H hR;clear hR;unfold j5 at A;obtain⟨l,hn⟩:∃l,a.keys.length=l:=⟨_,rfl⟩;obtain⟨d,C⟩:∃d,a.filters.length=d:=⟨_,rfl⟩;have br:l<=200001:=Y;have bm:d<=200001:=Y;rw[hn,C]at q;rw[C]at A;rw[hn]at W;generalize jt a.keys a.items.length=ac at A W;unfold nV at q;generalize (a.kind:Int)=kd at q;generalize a.n=nn at q;generalize (a.places:Int)=pp at q;generalize ge a.text=m at q A ht;generalize a.items.length=il at *;subst q;have K:=H hn;have J:=H C;clear hn C a5 bd a7;obtain⟨s,ao⟩:∃s,(ac&&a.keys.all λi=> !kX (ge i))=s:=⟨_,rfl⟩;obtain⟨t,a0⟩:∃t,(s&&a.filters.all λd=>decide (1<=d/\d<=4))=t:=⟨_,rfl⟩;have a4:L1 ((t&&decide (m.size<=20000)&&decide (d<=4))=ad):=by unfold Hid;rw[<-A.o,<-a0,<-ao];cases ac<;>cases decide (m.size<=20000)<;>cases decide (d<=4)<;>simp
 have H1:=H ao;have H2:=H a0;clear ao a0 A;have a3:L1 ((w.alloc (Pp #[I U kd,I U nn,I U pp,MV m,Z ia il ic,Z T l V,Z X d fc] 67)).heap[w.heap.size]?=O (Pp #[I U kd,I U nn,I U pp,MV m,Z ia il ic,Z T l V,Z X d fc] 67 (0,0))):=bn _ _
 go_in
 go_wp2_with fail;go_call (W _) as B w2 ⟨rfl,mm,a2⟩;have z:L1 (LT w.heap.size w w2):=by unfold Hid;have b:=B1.o #[I U kd,I U nn,I U pp,MV m,Z ia il ic,Z T l V,Z X d fc];rw[a2];exact⟨b.os,b.tape,b.output,b.size,b.block⟩
 have aa:w2.heap[w.heap.size]?=O (Pp #[I U kd,I U nn,I U pp,MV m,Z ia il ic,Z T l V,Z X d fc] 67 (0,0)):=by rw[a2];exact a3
 have d3:=s_ aa;have d5:=r_ aa;have d6:=uy aa;clear a2 aa a3 W B1;go_wp2;go_loopw [3,4] (λb j wr=>∃(g:Nat) (E:Bool),g<=l/\b=OV E/\j=I U g/\wr=w2/\L1 ((E&&(a.keys.drop g).all λi=> !kX (ge i))=s)) (λb j _=>l-(intOf j).toNat)
 case atStart=>exact⟨0,ac,aH _,rfl,rfl,rfl,H1⟩
 case round=>
  obtain⟨g,E,y,rfl,rfl,rfl,L⟩:=hrel;rcases aV y with y|y
  ·subst y;have e2:=bS (by rw[K.o];exact ag _);have hx:s=E:=by rw[<-L.o,e2];simp
   subst hx;clear L e2;go_wp2;go_loopw [3,5] (λb j wx=>∃(e:Nat) (F:Bool),e<=d/\b=OV F/\j=I U e/\wx=wr/\L1 ((F&&(a.filters.drop e).all λd=>decide (1<=d/\d<=4))=t)) (λb j _=>d-(intOf j).toNat)
   case atStart=>exact⟨0,s,aH _,rfl,rfl,rfl,H2⟩
   case round=>
    obtain⟨e,F,x,rfl,rfl,rfl,M⟩:=hrel;rcases aV x with x|x
    ·subst x;have e2:=bS (by rw[J.o];exact ag _);have hy:t=F:=by rw[<-M.o,e2];simp
     subst hy;clear M e2;have n:=H a4.s;clear a4;rcases Bool.eq_false_or_eq_true t with rfl|rfl
     ·by_cases h1:m.size<=20000
      ·have t1:(m.size:Int)<=20000:=Y;rw[aB h1]at n;by_cases h2:e<=4
       ·have t2:(e:Int)<=4:=Y;rw[aB h2]at n;go_wp2;go_ret;exact⟨by rw[n.o];rfl,z⟩
       ·have t2:¬(e:Int)<=4:=Y;rw[ar h2]at n;go_wp2;go_ret;exact⟨by rw[n.o];rfl,z⟩
      ·have t1:¬(m.size:Int)<=20000:=Y;rw[ar h1]at n;go_wp2;go_ret;exact⟨by rw[n.o];rfl,z⟩
     ·go_wp2;go_ret;exact⟨by rw[n.o];rfl,z⟩
    ·obtain⟨f,Q⟩:∃f,a.filters[e]?=O f:=⟨_,af (by rw[J.o];exact x)⟩;have R:a.filters.drop e=f::a.filters.drop (e+1):=by rw[aW (by rw[J.o];exact x)];congr 1;rw[af (by rw[J.o];exact x)]at Q;simpa using Q
     rw[R,cZ]at M;obtain⟨P,c,S,v⟩:=uL ba.1 (show(a.filters.map λd:Nat=>I U d)[e]?=O (I U f)by rw[aY,Q];rfl);rw[J.o]at S;cases S;have dk:wr.cell? ⟨P,e,N⟩=O (I U f):=by rw[z.o.cell (aC w _ v)];exact v
     have bi:=a9.o f (cI Q);have bo:(e:Int)<(d:Int):=Y;clear Q R v;have r:L1 ((F&&decide (1<=f/\f<=4)&&(a.filters.drop (e+1)).all λd=>decide (1<=d/\d<=4))=t):=by unfold Hid;rw[<-M.o,Bool.and_assoc]
     clear M;cases F with
     |false=>
      go_wp2;go_roundw
      case rel=>exact⟨e+1,P2,Y,rfl,by first|rfl|(congr 1),by trivial,r⟩
      case measure=>simp[intOf];omega
     |true=>
      by_cases h1:1<=f
      ·have t1:(1:Int)<=(f:Int):=Y;by_cases h2:f<=4
       ·have t2:(f:Int)<=4:=Y;rw[aB ⟨h1,h2⟩]at r;go_wp2;go_roundw
        case rel=>exact⟨e+1,PV,Y,rfl,by first|rfl|(congr 1),by trivial,r⟩
        case measure=>simp[intOf];omega
       ·have t2:¬(f:Int)<=4:=Y;rw[ar (λh=>h2 h.2)]at r;go_wp2;go_roundw
        case rel=>exact⟨e+1,P2,Y,rfl,by first|rfl|(congr 1),by trivial,r⟩
        case measure=>simp[intOf];omega
      ·have t1:¬(1:Int)<=(f:Int):=Y;rw[ar (λh=>h1 h.1)]at r;go_wp2;go_roundw
       case rel=>exact⟨e+1,P2,Y,rfl,by first|rfl|(congr 1),by trivial,r⟩
       case measure=>simp[intOf];omega
  ·obtain⟨i,D⟩:∃i,a.keys[g]?=O i:=⟨_,af (by rw[K.o];exact y)⟩;have R:a.keys.drop g=i::a.keys.drop (g+1):=by rw[aW (by rw[K.o];exact y)];congr 1;rw[af (by rw[K.o];exact y)]at D;simpa using D
   rw[R,cZ]at L;obtain⟨P,c,S,v⟩:=uL HK.1 (show(a.keys.map λi=>MV (ge i))[g]?=O (MV (ge i))by rw[aY,D];rfl);rw[K.o]at S;cases S;have dk:wr.cell? ⟨P,g,N⟩=O (MV (ge i)):=by rw[z.o.cell (aC w _ v)];exact v
   have bq:(g:Int)<(l:Int):=Y;clear D R v;generalize ge i=al at *;obtain⟨x1,c1⟩:∃x1,(al.toList==[76,101,110,103,116,104])=x1:=⟨_,rfl⟩;obtain⟨x2,c2⟩:∃x2,(al.toList==[70,105,108,116,101,114])=x2:=⟨_,rfl⟩;obtain⟨x3,c3⟩:∃x3,(al.toList==[68,101,99,111,100,101,80,97,114,109,115])=x3:=⟨_,rfl⟩;have bb:L1 ((E && !(x1||x2||x3)&&(a.keys.drop (g+1)).all λi=> !kX (ge i))=s):=by unfold Hid;rw[<-L.o,KN c1 c2 c3,Bool.and_assoc]
   clear L;rcases P7 E x1 x2 x3 with rfl|⟨rfl,rfl⟩|⟨rfl,rfl,rfl⟩|⟨rfl,rfl,rfl,rfl⟩|⟨rfl,rfl,rfl,rfl⟩;all_goals (
    go_wp2;go_roundw
    case rel=>exact⟨g+1,_,Y,rfl,by first|rfl|(congr 1),by trivial,bb⟩
    case measure=>simp[intOf];omega)
def Bd:{k:Nat}->VT k->Prop
 |0,_=>True
 |_+1,V=>gk.kind V<=9/\(-9223372036854775808<=gk.n V/\gk.n V<=9223372036854775807)/\gk.places V<=1000000/\(ge (gk.text V)).size<=300000/\(gk.items V).length<=200001/\(gk.keys V).length<=200001/\(gk.filters V).length<=200001/\(∀a,a<(gk.keys V).length->(ge ((gk.keys V).getD a [])).size<=300000)/\(∀b∈gk.filters V,b<=100000)/\∀c∈gk.items V,Bd c
def up(a:Nat)(left:Int)(w:Gr):Prop:=w.heap[a]?=O (Pp #[I U left] 3 (0,0))
def Hp(a:Nat)(b:Bool)(d:Nat)(w:Gr)(c:MB)(p:Gr):Prop:=c=Ps (OV b)/\gB a w p/\(b=PV->up a d p)
def vX(a e k:Nat):Prop:=∀(b:Gr) (c:Nat->Prop) (f:GI) (V:VT k) (left:Nat),left<=2000->gF c k b f V->(∀d,c d->d≠a)->Bd V->up a left b ->K8 Qe 81 #[f,I U (13-k:Nat),I U e,M2 (O ⟨a,0,N⟩)] b (Hp a (ly e k V&&decide (j_ k V<=left)) (left-j_ k V) b)
def xU{α:Type}(c b:Nat)(a:gk α):Bool:= !(decide (a.kind=8/\1<b)) && !(decide (a.kind=9/\¬(1<=a.n/\a.n<=(c:Int))))&&kA a
def zT{a k:Nat}{V:VT (k+1)}:ly a (k+1) V=(j9 (α:=VT k) V&&(xU (α:=VT k) a (12-k) V&&(gk.items (α:=VT k) V).all (ly a k))):=by show(_&&_&&j9 (α:=VT k) V&&kA (α:=VT k) V&&_)=_;unfold xU;cases j9 (α:=VT k) V<;>simp[Bool.and_assoc]
def vY(b:Nat)(d:Int)(w:Gr)(c:Array GI)(a:Gr):Prop:=gB b w a/\a.heap[w.heap.size]?=O (Pp c 67 (0,0))/\up b d a
def vY.below{d:Nat}{e:Int}{c:Array GI}{a f:Gr}(h:vY d e w c a)(b:LT a.heap.size a f):vY d e w c f:=by
 refine⟨h.1.t (.of_below b),?_,?_⟩;·rw[b.block _ (ae h.2.1)];exact h.2.1
 ·unfold up;rw[b.block _ (ae h.2.2)];exact h.2.2
def vY.drewN{b:Nat}{c:Int}{a:Array GI}{d:Gr}(h:vY b c w a d)(n:Nat):vY b c w a (d.drewN n):=⟨h.1.drewN n,h.2.1,h.2.2⟩
def vY.cell{e:Nat}{g:Int}{a:Array GI}{d:Gr}(h:vY e g w a d){b:Nat}{c:GI}(f:a[b]?=O c):d.cell? ⟨w.heap.size,b,N⟩=O c:=by rw[iI h.2.1];simpa using f
def vG(f k d left c:Nat)(e:Bool)(b:List (VT k))(g:Gr):Prop:=∃a:Nat,a<=2000/\up d (a:Int) g/\(b.all (ly f k)&&decide ((b.map (j_ k)).sum<=a))=e/\a+c=left+(b.map (j_ k)).sum
def NJ{g s k:Nat}(hk:k<=11)(c4:s<=100000)(ih:vX g s k):vX g s (k+1):=by
 intro w bt cf V left c2 hv R cn a9;obtain⟨b0,b1,b2,b3,b4,b5,b6,b7,b8,b9⟩:=cn;obtain⟨iv,kv,fv,vs,al,ce,a8,ct,a1,cb⟩:=gF.parts (V:=V) hv;obtain⟨ia,ic,rfl⟩:=jp a8.1;obtain⟨ka,kc,rfl⟩:=jp a1.1;obtain⟨fa,fc,rfl⟩:=jp cb.1;have c5:=ae a9;have bf:L1 (∀e:Gr,gB g w e->K8 Qe 117 #[cf] e λt p=>t=Ps (OV (j9 (α:=VT k) V))/\LT e.heap.size e p):=
  λe W=>Oc (gF.onlyX hv R W) Y b4 b5 b6
 have bq:L1 (∀e:Gr,gB g w e->K8 Qe 121 #[cf] e λt p=>t=Ps (OV (j5 (α:=VT k) V))/\LT e.heap.size e p):=
  λe W=>NH (gF.onlyX hv R W) b4 b5 b6 b7 Y b8
 have a4:L1 (∀e:Gr,gB g w e->K8 Qe 120 #[Z ka (gk.keys (α:=VT k) V).length kc,I U ((gk.items (α:=VT k) V).length:Nat)] e λt p=>t=Ps (OV (jt (gk.keys (α:=VT k) V) (gk.items (α:=VT k) V).length))/\∃l,p=e.drewN l):=
  λe W=>JG (λE hi=>by obtain⟨j,t,hc⟩:=q_.of a1 E hi;subst t;have bv:=(a1.2 j rfl);exact⟨j,rfl,by rw[World.cell?_of_block (w:=w) (W.block j bv.2 (R j bv.1))];exact hc⟩) b5 b4 b7
 have bm:=H (λe=>Dl _ b3 e);have bo:=H (λe=>NG _ _ b1.1 b1.2 b2 e);have ci:L1 (∀j,ia=O ⟨j,0,N⟩->j≠g):=λj hg=>R j (a8.2 j (by rw[hg];rfl)).1;rw[ce]at al;obtain⟨m,bx⟩:∃m,12-k=m:=⟨_,rfl⟩;rw[show 13-(k+1)=m by omega];obtain⟨v,hR⟩:∃v,(ly s (k+1) V&&decide (j_ (k+1) V<=left))=v:=⟨_,rfl⟩;rw[hR];obtain⟨x,hC⟩:∃x,j_ (k+1) V=x:=⟨_,rfl⟩;rw[hC]at hR ⊢;rw[zT,bx]at hR;have HC:L1 (x=1+((gk.items (α:=VT k) V).map (j_ k)).sum):=hC.s;have Q:=H hR;have bi:L1 (∀(e:Gr) (F:GI) (o:VT k) (r:Nat),r<=2000->gB g w e->gF bt k w F o->Bd o->up g r e ->K8 Qe 81 #[F,I U ((m:Int)+1),I U s,M2 (O ⟨g,0,N⟩)] e (Hp g (ly s k o&&decide (j_ k o<=r)) (r-j_ k o) e)):=λe F o r h1 W L hb hl=>by
  have:=ih e bt F o r h1 (gF.onlyX L R W) R hb hl;rw[show 13-k=m+1 by omega]at this;exact this
 have bb:=hv;unfold nV at al;rw[al]at bb;have br:=H (gF.kids (V:=(show gk (VT k)from V)) bb);have bd:=H b9;have a6:=H a9;obtain⟨i,hO⟩:∃i,xU (α:=VT k) s m V=i:=⟨_,rfl⟩;rw[hO]at Q;unfold xU kA at hO;have u:=H hO;clear hO hR hC hv bb R a9 ih a8 a1 cb ct b9 b8 b7;generalize j9 (α:=VT k) V=BB at *;generalize j5 (α:=VT k) V=ST at *;generalize jt (gk.keys (α:=VT k) V) (gk.items (α:=VT k) V).length=DK at *;generalize jo (ge (gk.text (α:=VT k) V))=NM at *;generalize ke (gk.n (α:=VT k) V) (gk.places (α:=VT k) V)=RL at *;generalize gk.n (α:=VT k) V=d at *;generalize gk.places (α:=VT k) V=pp at *;generalize ge (gk.text (α:=VT k) V)=tt at *;generalize (gk.filters (α:=VT k) V).length=fl at *;generalize (gk.keys (α:=VT k) V).length=kl at *;generalize gk.kind (α:=VT k) V=q at *;generalize gk.items (α:=VT k) V=J at *;obtain⟨B,a0⟩:∃B,G J=B:=⟨_,rfl⟩;have ac:=H a0;rw[a0]at al b4;rw[a0]at a4;subst al;have c0:1<=m/\m<=12:=Y;clear hk ce a0 bx;obtain⟨C,a7⟩:∃C:Array GI,#[I U q,I U d,I U pp,MV tt,Z ia B ic,Z ka kl kc,Z fa fl fc]=C:=⟨_,rfl⟩;have cx:=mC a6;have c1:=jR 0 a6;have ao:L1 (vY g ((left:Int)-1) w C ((w.setCell ⟨g,0,N⟩ (I U ((left:Int)-1))).alloc (Pp C 67))):=by
  refine⟨((gB.refl _ _).setCell 0 _).t (.of_below ((aq _ _).alloc (ag _) _)),?_,?_⟩
  ·have:=bn (w.setCell ⟨g,0,N⟩ (I U ((left:Int)-1))) (Pp C 67);rw[show(w.setCell ⟨g,0,N⟩ (I U ((left:Int)-1))).heap.size=w.heap.size by simp[World.setCell]]at this;exact this
  ·exact mA _ (by rw[lV _ a6.o];rfl)
 have y:=H a7;rw[<-a7]at ao;clear a7
 go_in
 go_wp2_with fail;go_call (bf _ ao.1) as t P ⟨rfl,hb⟩;have f:=H (ao.below hb);rw[y.o]at f;have dL:=mC f.2.2;have K:∀E X,C[E]?=O X->P.cell? ⟨w.heap.size,E,N⟩=O X:=λE X h=>f.cell h;have d0:P.cell? ⟨w.heap.size,0,N⟩=O (I U q):=K 0 _ (by rw[<-y.o];rfl);have d1:P.cell? ⟨w.heap.size,1,N⟩=O (I U d):=K 1 _ (by rw[<-y.o];rfl);have d2:P.cell? ⟨w.heap.size,2,N⟩=O (I U pp):=K 2 _ (by rw[<-y.o];rfl);have d3:P.cell? ⟨w.heap.size,3,N⟩=O (MV tt):=K 3 _ (by rw[<-y.o];rfl);have d4:P.cell? ⟨w.heap.size,4,N⟩=O (Z ia B ic):=K 4 _ (by rw[<-y.o];rfl);have d5:P.cell? ⟨w.heap.size,5,N⟩=O (Z ka kl kc):=K 5 _ (by rw[<-y.o];rfl);have d6:P.cell? ⟨w.heap.size,6,N⟩=O (Z fa fl fc):=K 6 _ (by rw[<-y.o];rfl);clear hb K ao;have ch:L1 (1<=x):=by unfold Hid;rw[HC.o];omega
 by_cases h0:left=0
 ·have t0:(left:Int)-1<0:=Y;have a:L1 (v=P2):=by have:=ch.o;unfold Hid;rw[<-Q.o,ar (show ¬x<=left by omega),Bool.and_false]
  clear h0;go_wp2;go_ret;rw[a.o];exact⟨rfl,f.1,λh=>by cases h⟩
 have t0:¬(left:Int)-1<0:=Y;have t1:¬(12:Int)<(m:Int):=Y;cases BB with
 |false=>have a:L1 (v=P2):=Q.o.s;go_wp2;go_ret;rw[a.o];exact⟨rfl,f.1,λh=>by cases h⟩
 |true=>
  rw[bX]at Q;have t2:(0:Int)<=(q:Int):=Y;have t3:(q:Int)<=9:=Y
  go_upto_block 0 with fail
  go_cut [10]from 42 to 107 (λrv wx=>rv=OV i/\L1 (vY g ((left:Int)-1) w C wx))
  case first=>
   clear y bi br bd;rcases(show q=0\/q=1\/q=2\/q=3\/q=4\/q=5\/q=6\/q=7\/q=8\/q=9 by omega)with rfl|rfl|rfl|rfl|rfl|rfl|rfl|rfl|rfl|rfl
   ·have a:L1 (i=PV):=by unfold Hid;rw[<-u.o];simp
    go_wp2
    go_meet
    case rel=>exact⟨by rw[a.o],f⟩
   ·have a:L1 (i=decide (0<=d/\d<=1)):=by unfold Hid;rw[<-u.o];simp
    by_cases h1:d=0
    ·rw[aB (show 0<=d/\d<=1 by omega)]at a;have e1:(d==0)=PV:=by simpa using h1
     clear h1;go_wp2
     go_meet
     case rel=>exact⟨by rw[a.o],f⟩
    ·have e1:(d==0)=P2:=by simpa using h1
     by_cases h2:d=1
     ·rw[aB (show 0<=d/\d<=1 by omega)]at a;have e2:(d==1)=PV:=by simpa using h2
      clear h2;go_wp2
      go_meet
      case rel=>exact⟨by rw[a.o],f⟩
     ·rw[ar (show ¬(0<=d/\d<=1)by omega)]at a;have e2:(d==1)=P2:=by simpa using h2
      go_wp2
      go_meet
      case rel=>exact⟨by rw[a.o],f⟩
   ·have a:L1 (i=decide (-2147483648<=d/\d<=2147483647)):=by unfold Hid;rw[<-u.o];simp
    by_cases h1 : -2147483648<=d
    ·by_cases h2:d<2147483648
     ·rw[aB (show -2147483648<=d/\d<=2147483647 by omega)]at a;go_wp2
      go_meet
      case rel=>exact⟨by rw[a.o],f⟩
     ·rw[ar (show ¬(-2147483648<=d/\d<=2147483647)by omega)]at a;go_wp2
      go_meet
      case rel=>exact⟨by rw[a.o],f⟩
    ·rw[ar (show ¬(-2147483648<=d/\d<=2147483647)by omega)]at a;go_wp2
     go_meet
     case rel=>exact⟨by rw[a.o],f⟩
   ·have a:L1 (i=RL):=by unfold Hid;rw[<-u.o];simp
    go_wp2_with fail;go_call (bo _) as t w3 ⟨rfl,A⟩;have A:=A.s;subst A;go_wp2
    go_meet
    case rel=>exact⟨by rw[a.o],f⟩
   ·have a:L1 (i=NM):=by unfold Hid;rw[<-u.o];simp
    go_wp2_with fail;go_call (bm _) as t w3 ⟨rfl,A⟩;have A:=A.s;subst A;go_wp2
    go_meet
    case rel=>exact⟨by rw[a.o],f⟩
   ·have a:L1 (i=decide (tt.size<=4000)):=by unfold Hid;rw[<-u.o];simp
    have HE:L1 (decide (tt.size<=4000)=decide ((tt.size:Int)<=4000)):=by unfold Hid;rw[cJ];omega
    go_wp2
    go_meet
    case rel=>exact⟨by rw[a.o,HE.o],f⟩
   ·have a:L1 (i=PV):=by unfold Hid;rw[<-u.o];simp
    go_wp2
    go_meet
    case rel=>exact⟨by rw[a.o],f⟩
   ·have a:L1 (i=DK):=by unfold Hid;rw[<-u.o];simp
    go_wp2_with fail;go_call (a4 _ f.1) as t w3 ⟨rfl,m3,A⟩;have z:L1 (vY g ((left:Int)-1) w C w3):=by unfold Hid;rw[A];exact f.drewN m3
    clear A d0 d1 d2 d3 d4 d5 d6 dL;go_wp2
    go_meet
    case rel=>exact⟨by rw[a.o],z⟩
   ·have a:L1 (i=(!decide (1<m)&&ST)):=by unfold Hid;rw[<-u.o];simp
    go_wp2_with fail;go_call (bq _ f.1) as t w3 ⟨rfl,b3⟩;have z:=H (f.below b3);clear b3 d0 d1 d2 d3 d4 d5 d6 dL;cases ST with
    |false=>
     rw[Bool.and_false]at a;go_wp2
     go_meet
     case rel=>exact⟨by rw[a.o],z⟩
    |true=>
     rw[Bool.and_true]at a;by_cases h1:m=1
     ·rw[ar (show ¬1<m by omega)]at a;have e1:((m:Int)==1)=PV:=eB;clear h1;go_wp2
      go_meet
      case rel=>exact⟨by rw[a.o];rfl,z⟩
     ·rw[aB (show 1<m by omega)]at a;have e1:((m:Int)==1)=P2:=eB;go_wp2
      go_meet
      case rel=>exact⟨by rw[a.o];rfl,z⟩
   ·have a:L1 (i=decide (1<=d/\d<=(s:Int))):=by unfold Hid;rw[<-u.o,bC];simp
    by_cases h1:1<=d
    ·by_cases h2:d<=(s:Int)
     ·rw[aB (show 1<=d/\d<=(s:Int)from⟨h1,h2⟩)]at a;go_wp2
      go_meet
      case rel=>exact⟨by rw[a.o],f⟩
     ·rw[ar (λh=>h2 h.2)]at a;go_wp2
      go_meet
      case rel=>exact⟨by rw[a.o],f⟩
    ·rw[ar (λh=>h1 h.1)]at a;go_wp2
     go_meet
     case rel=>exact⟨by rw[a.o],f⟩
  case rest=>
   obtain⟨rfl,z⟩:=hcut;have ad:L1 (i=P2/\v=P2\/i=PV/\vG s k g left x v J wc):=by
    unfold Hid;cases i with
    |false=>exact P3 ⟨rfl,Q.s⟩
    |true=>exact P4 ⟨rfl,left-1,Y,by have:=z.o.2.2;rw[show((left:Int)-1)=((left-1:Nat):Int)by omega]at this;exact this,by rw[<-Q.o,bX];congr 1;rw[cJ,HC.o];omega,by rw[HC.o];omega⟩
   have D:=H z.1;have aa:=H z.2.1;clear bq a4 bm bo bf u Q f z d0 d1 d2 d3 d4 d5 d6 dL;go_wp2;go_loopw [10,11] (λb E wr=>∃(l:Nat) (F:Bool),l<=B/\b=OV F/\E=I U l/\L1 (gB g w wr)/\L1 (wr.heap[w.heap.size]?=O (Pp C 67 (0,0)))/\L1 (F=P2/\v=P2\/F=PV/\vG s k g left x v (J.drop l) wr)) (λb E _=>B-(intOf E).toNat)
   case atStart=>exact⟨0,i,aH _,rfl,rfl,D,aa,ad⟩
   case round=>
    clear D aa ad;obtain⟨l,F,hm,rfl,rfl,D,aa,ad⟩:=hrel;have d4:wr.cell? ⟨w.heap.size,4,N⟩=O (Z ia B ic):=by rw[iI aa.o,<-y.o];rfl
    rcases ad.o with⟨L,bw⟩|⟨L,cs⟩
    ·subst L;have a:=H bw;clear ad bw;by_cases hd:(l:Int)<(B:Int)
     ·go_wp2;go_ret;rw[a.o];exact⟨rfl,D,λh=>by cases h⟩
     ·go_wp2;go_ret;rw[a.o];exact⟨rfl,D,λh=>by cases h⟩
    ·subst L;obtain⟨r,cr,cd,a2,a3⟩:=cs;rcases aV hm with c3|ba
     ·have e0:J.drop l=[]:=bS (by rw[ac.o];omega);rw[e0]at a2 a3;have a:L1 (v=PV):=by unfold Hid;rw[<-a2];simp
      have a5:L1 (up g ((left-x:Nat):Int) wr):=by
       unfold Hid;have:r=left-x:=by simp at a3;omega
       rw[<-this];exact cd
      have hd:¬(l:Int)<(B:Int):=Y;go_wp2;go_ret;rw[a.o];exact⟨rfl,D,λ_=>a5⟩
     ·have hd:(l:Int)<(B:Int):=Y;obtain⟨o,hy⟩:∃o,J[l]?=O o:=⟨_,af (by rw[ac.o];exact ba)⟩;have ca:J.drop l=o::J.drop (l+1):=by rw[aW (by rw[ac.o];exact ba)];congr 1;rw[af (by rw[ac.o];exact ba)]at hy;simpa using hy
      rw[ca,cZ,bF,eF]at a2;rw[ca,bF,eF]at a3;obtain⟨j,c,xv,cc,_,_,L,T⟩:=br.o.at hy;rw[ac.o]at cc;cases cc;have cp:j≠g:=ci.o j rfl;have co:=bd.o o (cI hy);have cl:=H (bi wr xv o r cr D L co cd);obtain⟨k0,k1,k2,k3,ja,jl,jc,c6,c8,c7,cu,cw,cv,M⟩:=gF.form L;have S:∀{bc:Nat} {X:GI},w.cell? ⟨j,bc,N⟩=O X->wr.cell? ⟨j,bc,N⟩=O X:=λ{bc X} h=>by rw[World.cell?_of_block (w:=w) (D.o.block j (aC w _ h) cp)];exact h
      have q0:wr.cell? ⟨j,l*7,N⟩=O (I U k0):=S (T 0 _ (by rw[M];rfl));have q1:=S (T 1 _ (by rw[M];rfl));have q2:=S (T 2 _ (by rw[M];rfl));have q3:=S (T 3 _ (by rw[M];rfl));have q4:=S (T 4 _ (by rw[M];rfl));have q5:=S (T 5 _ (by rw[M];rfl));have q6:=S (T 6 _ (by rw[M];rfl));subst M;have bs:=H a2;have a5:=H a3;generalize ly s k o=oy at *;generalize j_ k o=cy at *;go_wp2_with fail;go_call cl.o as t w4 ⟨rfl,o4,h4⟩;have cj:=H (D.t o4);have cg:=H ((o4.block _ (ae aa) Y).t aa);have ck:L1 ((oy&&decide (cy<=r))=P2/\v=P2\/(oy&&decide (cy<=r))=PV/\vG s k g left x v (J.drop (l+1)) w4):=by
       unfold Hid;cases hq:(oy&&decide (cy<=r))with
       |false=>
        refine P3 ⟨rfl,?_⟩;rw[<-bs.o];cases oy with
        |false=>rfl
        |true=>rw[bX,bk]at hq;rw[ar Y,Bool.and_false]
       |true=>
        have h5:=h4 hq;rw[bN,cm]at hq;refine P4 ⟨rfl,r-cy,Y,h5,?_,?_⟩
        ·rw[<-bs.o,hq.1,bX];congr 1;rw[cJ];omega
        ·have:=a5.o;omega
      generalize (oy&&decide (cy<=r))=bz at *;go_wp2;go_roundw
      case rel=>exact⟨l+1,bz,Y,rfl,by first|rfl|(congr 1),cj,cg,ck⟩
      case measure=>simp[intOf];omega
def JI{L objs:Nat}(a:objs<=100000):∀k,k<=12->vX L objs k
 |0,_=>λd b e c _ _ h=>by cases h
 |k+1,h=>NJ Y a (JI a k Y)
end
def nK{c:Option (List Nat×List Nat)}{g:List Nat->List Nat}{d f:List Nat}(h:(c.map λa=>(g a.1,a.2))=O (d,f)):∃e,c=O (e,f)/\d=g e:=by
 cases c with
 |none=>cases h
 |some a=>obtain⟨i,b⟩:=a;cases h;exact⟨i,rfl,rfl⟩
def qC:∀(r:List Nat) (e f:Nat) (d a:List Nat),gK e f r=O (d,a)->G d+G a<=G r
 | [],e,f,d,a,h=>by
  match e,h with
  |0,h=>simp[gK]at h;simp[h.1,h.2]
  |k+1,h=>simp[gK]at h
 |b::r,e,f,d,a,h=>by
  match e,h with
  |0,h=>
   simp only[gK]at h;split at h;·simp at h;rw[<-h.2,h.1];simp
   ·split at h;·cases h
    ·split at h;·have:=qC r 1 0 d a h;simp only[aj];omega
     ·obtain⟨i,h2,rfl⟩:=nK (g:=λj=>b::j) h;have:=qC r 0 0 i a h2;simp only[aj];omega
  |1,h=>
   simp only[gK]at h;split at h;·cases h
   ·have:=qC r 2 _ d a h;simp only[aj];omega
  |k+2,h=>
   simp only[gK]at h;split at h;·cases h
   ·next c _=>
    split at h;·cases h
    ·obtain⟨i,h2,rfl⟩:=nK (g:=λj=>(16*f+c)::j) h;have:=qC r 0 0 i a h2;simp only[aj];omega
def uC:∀(r c a:List Nat),ij r=O (c,a)->G c+G a<=G r
 | [],c,a,h=>by cases h
 |b::r,c,a,h=>by
  simp only[ij]at h;split at h;·have:=uC r c a h;simp only[aj];omega
  ·split at h;·simp at h;rw[<-h.2,h.1];simp
   ·split at h;·cases h
    ·next e _=>obtain⟨d,h2,rfl⟩:=nK (g:=λf=>e::f) h;have:=uC r d a h2;simp only[aj];omega
def xb:∀a:List Nat,(ip a).length<=G a
 | []=>ag _
 | [c]=>ag _
 |c::b::a=>by have:=xb a;simp only[ip,aj];omega
def qE:∀(e f:Nat) (r i c:List Nat),iC e f r=O (i,c)->G i+G c<=G r
 |0,f,r,i,c,h=>by simp[iC]at h
 |e+1,f,r,i,c,h=>by
  rw[iC.eq_def]at h;simp only[]at h;cases l:gJ r with
  |some m=>rw[l]at h;obtain⟨a,h2,rfl⟩:=nK (g:=λd=>10::d) h;have:=qE e f m a c h2;have:=Bl l;simp only[aj];omega
  |none=>
   rw[l]at h;cases r with
   |nil=>cases h
   |cons b j=>
    simp only[]at h;split at h
    ·cases k:iG j with
     |none=>rw[k]at h;cases h
     |some o=>obtain⟨n,m⟩:=o;rw[k]at h;obtain⟨a,h2,rfl⟩:=nK (g:=λd=>n++d) h;have:=qE e f m a c h2;have:=Cb k;simp only[aj,ak];omega
    ·split at h
     ·obtain⟨a,h2,rfl⟩:=nK (g:=λd=>b::d) h;have:=qE e _ j a c h2;simp only[aj];omega
     ·split at h
      ·split at h;·simp at h;rw[<-h.2,h.1];simp
       ·obtain⟨a,h2,rfl⟩:=nK (g:=λd=>b::d) h;have:=qE e _ j a c h2;simp only[aj];omega
      ·obtain⟨a,h2,rfl⟩:=nK (g:=λd=>b::d) h;have:=qE e _ j a c h2;simp only[aj];omega
def ww{l:List Nat}(a:l.all gH=PV):iO l+1<=10^(G l):=by have:=El l 0 (λc b=>by have:=cN.1 a c b;simp[gH]at this;omega) a;rw[bH,Nat.one_mul]at this;exact this
def A5{b:List Nat}{a:Int}(h:kE b=O a) : -1000000000000000000<=a/\a<=1000000000000000000:=by
 unfold kE kU at h;split at h
 ·next d=>
  split at h
  ·next c=>have h1:=ww c.2;have h2:10^(fZ b).2.length<=10^18:=aJ Y Y;simp only[Option.some.injEq]at h;split at h<;>omega
  ·cases h
 ·cases h
def Ag{l:List Nat}{a:Int}{d:Nat}(h:jm l=O (a,d)):(-1000000000000000000<=a/\a<=1000000000000000000)/\d<=9:=by
 unfold jm at h;split at h;·cases h
 ·next c b i=>
  split at h
  ·next j=>
   simp only[Option.map_eq_some_iff,Prod.mk.injEq]at h;obtain⟨m,h1,rfl,rfl⟩:=h;have k:(iu b).length<=G b:=by unfold iu;rw[List.length_reverse];have:=(List.dropWhile_sublist (l:=b.reverse) (λb=>b==48)).length_le;rw[List.length_reverse]at this;exact this
   refine⟨?_,Y⟩;unfold kU at h1;rw[Im]at h1;split at h1
   ·next f=>
    have h2:(((fZ l).2.takeWhile λb=>b != 46)++iu b).all gH=PV:=by have:=f.2;rw[cZ,bN]at this;exact this.2
    have h3:=ww h2;rw[ak]at h3;have g:10^(((fZ l).2.takeWhile λb=>b != 46).length+(iu b).length)<=10^18:=aJ Y Y;have e:iO (48::(((fZ l).2.takeWhile λb=>b != 46)++iu b))=iO (((fZ l).2.takeWhile λb=>b != 46)++iu b):=rfl;simp only[Option.some.injEq]at h1;rw[e]at h1;split at h1<;>omega
   ·cases h1
  ·cases h
def Bd.leaf{k d:Nat}{a:Int}{b:Nat}{c:List Nat}(h1:d<=9)(h2 : -1000000000000000000<=a/\a<=1000000000000000000)(h3:b<=9)(i:G c<=200000):Bd (k:=k+1) (jj (VT k) d a b c):=
 ⟨h1,by show _<=a/\a<=_;omega,by show b<=_;omega,by show(ge c).size<=_;rw[tF];omega,aH _,aH _,aH _,(λj f=>by cases f),(λh e=>by cases e),λl g=>by cases g⟩
def DR:(-1000000000000000000:Int)<=0/\(0:Int)<=1000000000000000000:=by decide
def CT:(-1000000000000000000:Int)<=1/\(1:Int)<=1000000000000000000:=by decide
def wz{u:Type}{d:List Nat->Option (u×List Nat)}(o:∀r t b,d r=O (t,b)->G b<=G r):∀(f:Nat) (r b:List Nat) (e:List (List Nat)×List u),js d f r=O (e,b)->∀g∈e.1,G g<=G r
 |0,r,b,e,h=>by cases h
 |f+1,r,b,e,h=>by
  simp only[js]at h;have w:=iz r;cases p:f_ [62,62] (f9 r)with
  |some n=>rw[p]at h;simp at h;intro g a;rw[<-h.1]at a;cases a
  |none=>
   rw[p]at h;simp only[]at h;cases i:f_ [47] (f9 r)with
   |none=>rw[i]at h;cases h
   |some n=>
    rw[i]at h;simp only[]at h;have h1:=(gD i).1;cases m:j7 n with
    |none=>rw[m]at h;cases h
    |some c=>
     obtain⟨k,q⟩:=c;rw[m]at h;simp only[]at h;have h2:=qC n 0 0 k q m;cases l:d q with
     |none=>rw[l]at h;cases h
     |some c=>
      obtain⟨t,s⟩:=c;rw[l]at h;simp only[]at h;have h3:=o _ _ _ l;cases j:js d f s with
      |none=>rw[j]at h;cases h
      |some c=>
       rw[j]at h;have v:=wz o f s c.2 c.1 j;cases h;intro g a;rcases cQ.1 a with rfl|a;·omega
       ·have:=v g a;omega
def qO:∀{k:Nat} {r a:List Nat} {l:VT k},gj k r=O (l,a)->G r<=200000->Bd l
 |0,r,a,l,h,_=>by cases h
 |k+1,r,a,l,h,C=>by
  have y:∀r c a,gj k r=O (c,a)->G a+1<=G r:=λr c a h=>iQ h;have t:∀r c a,gj k r=O (c,a)->G a<=G r:=λr c a h=>by have:=iQ h;omega
  have f:∀r c a,gj k r=O (c,a)->G r<=200000->Bd c:=λr c a h A=>qO h A;simp only[gj]at h;have D:=iz r;cases h1:f_ [91] (f9 r)with
  |some b=>
   rw[h1]at h;simp only[]at h;have n:=(gD h1).1;cases h2:jV (gj k) (G b+1) b with
   |none=>rw[h2]at h;cases h
   |some d=>rw[h2]at h;obtain⟨e,o⟩:=d;have i:=uv y _ _ _ _ h2;have m:=uu t f _ _ _ _ h2 Y;cases h;exact⟨by show 6<=9;decide,⟨by show _<=(0:Int);decide,by show(0:Int)<=_;decide⟩,by show 0<=_;decide,by show(ge []).size<=_;decide,by show (G e)<=_;omega,aH _,aH _,(λv g=>by cases g),(λz f=>by cases f),m⟩
  |none=>
   rw[h1]at h;simp only[]at h;cases h3:f_ [60,60] (f9 r)with
   |some b=>
    rw[h3]at h;simp only[]at h;have n:=(gD h3).1;cases h2:js (gj k) (G b+1) b with
    |none=>rw[h2]at h;cases h
    |some d=>rw[h2]at h;obtain⟨⟨w,e⟩,o⟩:=d;have i:=mW y _ _ _ _ h2;have m:=uB t f _ _ _ _ h2 Y;have x:=wz t _ _ _ _ h2;simp only[]at i x;cases h;refine⟨by show 7<=9;decide,⟨by show _<=(0:Int);decide,by show(0:Int)<=_;decide⟩,by show 0<=_;decide,by show(ge []).size<=_;decide,by show (G e)<=_;omega,by show (G w)<=_;omega,aH _,λv g=>?_,(λz f=>by cases f),m⟩;show(ge (w.getD v [])).size<=_;rw[tF,ax,af g];have g:v<G w:=g;have:=x _ (cq g);simp only[Option.getD_some];omega
   |none=>
    rw[h3]at h;simp only[]at h;cases p:f_ [60] (f9 r)with
    |some b=>
     rw[p]at h;simp only[]at h;have n:=(gD p).1;unfold jQ at h;cases h2:ij b with
     |none=>rw[h2]at h;cases h
     |some d=>obtain⟨e,o⟩:=d;rw[h2]at h;cases h;have i:=uC _ _ _ h2;have m:=xb e;exact Bd.leaf cO DR cO (by simp only[];omega)
    |none=>
     rw[p]at h;simp only[]at h;cases q:f_ [40] (f9 r)with
     |some b=>
      rw[q]at h;simp only[]at h;have n:=(gD q).1;cases h2:j3 b with
      |none=>rw[h2]at h;cases h
      |some d=>obtain⟨e,o⟩:=d;rw[h2]at h;cases h;have i:=qE _ _ _ _ _ h2;exact Bd.leaf cO DR cO (by simp only[];omega)
     |none=>
      rw[q]at h;simp only[]at h;cases s:f_ [47] (f9 r)with
      |some b=>
       rw[s]at h;simp only[]at h;have n:=(gD s).1;cases h2:j7 b with
       |none=>rw[h2]at h;cases h
       |some d=>obtain⟨e,o⟩:=d;rw[h2]at h;cases h;have i:=qC _ _ _ _ _ h2;exact Bd.leaf cO DR cO (by simp only[];omega)
      |none=>
       rw[s]at h;simp only[]at h;unfold i7 at h;split at h;·cases h;exact Bd.leaf cO DR cO cO
       ·split at h;·cases h;exact Bd.leaf cO DR cO cO
        ·split at h;·cases h;exact Bd.leaf cO CT cO cO
         ·split at h
          ·next B u=>
           have j:=A5 u;split at h;·cases h;exact Bd.leaf cO j cO cO
           ·cases h;exact Bd.leaf cO j cO cO
          ·split at h
           ·next B E u=>have j:=Ag u;cases h;exact Bd.leaf cO j.1 j.2 cO
           ·cases h
def vB{k:Nat}{d:gk (VT k)}(h:Bd (k:=k+1) d){a:List (List Nat×VT k)}(l:∀u∈a,u∈d.keys.zip d.items)(m:G a<=200001){f:List Nat}(q:G f<=200001)(r:∀o∈f,o<=100000):Bd (k:=k+1) (⟨8,0,0,[],a.map Prod.snd,a.map Prod.fst,f⟩:gk (VT k)):=by
 refine⟨by show 8<=9;decide,⟨by show _<=(0:Int);decide,by show(0:Int)<=_;decide⟩,by show 0<=_;decide,by show(ge []).size<=_;decide,by show(a.map Prod.snd).length<=_;rw[aw];exact m,by show(a.map Prod.fst).length<=_;rw[aw];exact m,q,λn b=>?_,r,λv i=>?_⟩
 ·have b:n<(a.map Prod.fst).length:=b;show(ge ((a.map Prod.fst).getD n [])).size<=_;rw[ax,af b];simp only[Option.getD_some];have h1:=cq b;obtain⟨⟨e,c⟩,h2,h3⟩:=cT.1 h1;rw[<-h3];have p:=(fq (l _ h2)).1;obtain⟨t,j,s⟩:=cK p;have g:=h.2.2.2.2.2.2.2.1 t j;rw[ax,af j]at g;simp only[Option.getD_some]at g;rw[show(e,c).1=e from rfl,<-s];exact g
 ·have i:v∈a.map Prod.snd:=i;obtain⟨⟨e,c⟩,h2,rfl⟩:=cT.1 i;exact h.2.2.2.2.2.2.2.2.2 _ (fq (l _ h2)).2
def qb(x:VT 12×List Nat):Prop:=Bd x.1/\(gk.kind (α:=VT 11) x.1=8->gk.text (α:=VT 11) x.1=[])/\(∃b:List tV,gk.filters (α:=VT 11) x.1=b.map λa=>a.1)/\(∀a∈x.2,a<256)/\x.2.length<=200000
def Py{k:Nat}{c:gk (VT k)}{r d:List Nat}{b:gk (VT k)×List Nat}(h:ju c r=O (b,d)):b.2.length<=G r:=by
 unfold ju at h;split at h;·cases h
 ·next a e1=>
  have h1:G a<=G r:=by
   cases e2:f_ [10] r with
   |some e=>rw[e2]at e1;cases e1;have:=(gD e2).1;omega
   |none=>rw[e2]at e1;have:=(gD (s:=[13,10]) (by simpa using e1)).1;omega
  split at h;·cases h
  ·split at h
   ·split at h;·cases h
    ·split at h
     ·split at h;·cases h
      ·cases h;show(a.take _).length<=_;rw[ay];omega
     ·cases h
   ·cases h
def IQ:∀c:List (Nat×List Nat),∃b:List tV,(c.map λa=>jy (ge a.2))=b.map λd=>d.1
 | []=>⟨[],rfl⟩
 |a::c=>by obtain⟨b,h⟩:=IQ c;exact⟨⟨jy (ge a.2),pV _⟩::b,dV (List.cons (jy (ge a.2))) h⟩
def ff{b:List (Nat×List Nat)}{a:List Nat}(h:kC b=O a):∃c:List tV,a=c.map λd=>d.1:=by
 rw[oY]at h;split at h
 ·cases h;exact IQ b
 ·cases h
def M9{r q:List Nat}{x:VT 12×List Nat}(h:iY r=O (x,q))(g:G r<=200000):Bd x.1/\(gk.kind (α:=VT 11) x.1=8->gk.text (α:=VT 11) x.1=[])/\(∃d:List tV,gk.filters (α:=VT 11) x.1=d.map λe=>e.1)/\x.2.length<=200000:=by
 have z:=o_ h g;unfold iY at h;split at h;·cases h
 ·next a B e1=>
  have f:=l_ e1 g;have j:=qO e1 g;have n:Bd a/\(gk.kind (α:=VT 11) a=8->gk.text (α:=VT 11) a=[])/\(∃d:List tV,gk.filters (α:=VT 11) a=d.map λe=>e.1)/\([]:List Nat).length<=200000:=⟨j,λp=>absurd p f.2.2.2.1,⟨[],f.2.2.2.2.1⟩,eA⟩;split at h
  ·split at h
   ·next C e2=>
    have A:=Kk h;have t:x.2.length<=200000:=by have h1:=Py h;have h2:=gQ e2;have h3:=iQ e1;omega
    have w:∃b,jg (k:=11) a=O b/\x.1=b:=by
     unfold ju at h;split at h;·cases h
     ·split at h;·cases h
      ·split at h
       ·split at h;·cases h
        ·split at h
         ·split at h;·cases h
          ·next b c=>cases h;exact⟨b,c,rfl⟩
         ·cases h
       ·cases h
    obtain⟨b,c,u⟩:=w;have m:qv (k:=12) b:=og (k:=11) f c;unfold jg at c;simp only[Option.map_eq_some_iff]at c;obtain⟨d,e4,rfl⟩:=c;rw[u];have l:∃i:List tV,d=i.map λe=>e.1:=by
     unfold ii at e4;split at e4;·cases e4
     ·exact ff e4
    refine⟨vB j (λe v=>(List.mem_filter.1 v).1) ?_ ?_ ?_,λ_=>rfl,l,t⟩
    ·have h1:((h_ ((gk.keys (α:=VT 11) a).zip (gk.items (α:=VT 11) a))).map Prod.snd).length<=200000:=m.1;rw[aw]at h1;exact aA h1 Y
    ·have h1:G d<=200000:=m.2.2.1;omega
    ·obtain⟨i,rfl⟩:=l;intro y s;obtain⟨o,_,rfl⟩:=cT.1 s;have:=o.2;unfold uY at this;omega
   ·cases h;exact n
  ·cases h;exact n
def M5{r c:List Nat}{a:VT 12×List Nat}(h:pW (O r)=O (a,c))(m:G r<=200000)(i:∀b∈a.2,b<256):qb a:=by
 unfold pW at h;simp only[Option.bind_some]at h;cases h1:gg [48] r with
 |none=>rw[h1]at h;cases h
 |some k=>
  rw[h1]at h;simp only[Option.bind_some]at h;cases h2:gg [111,98,106] k with
  |none=>rw[h2]at h;cases h
  |some l=>
   rw[h2]at h;simp only[Option.bind_some]at h;cases h3:iY l with
   |none=>rw[h3]at h;cases h
   |some b=>rw[h3]at h;simp only[Option.bind_some,Option.map_eq_some_iff]at h;obtain⟨p,_,j⟩:=h;cases j;have n:=gQ h1;have o:=gQ h2;obtain⟨d,e,f,g⟩:=M9 (x:=b.1) (q:=b.2) h3 Y;exact⟨d,e,f,i,g⟩
section
variable{w a:Gr}
def ob{d:Nat}{g h:Gr}(b:LT w.heap.size w g)(c:gB d g h)(i:w.heap.size<=d):LT w.heap.size w h:=
 ⟨c.os.t b.os,c.tape.t b.tape,c.output.t b.output,aA b.size c.size,λe f=>(c.block e (aQ f b.size) Y).t (b.block e f)⟩
def NE{J:Nat->Prop}{e:List (VT 12)}{j:Int}{V:GI}(h:kG J 12 0 e w V)(hF:∀k∈e,Bd k)(hl:G e<=200000):K8 Qe 41 #[N1 #[V,I U j]] w λad a=>ad=Ps (OV (jb e j))/\LT w.heap.size w a:=by
 have h2:kG (λd=>J d/\d<w.heap.size) 12 0 e w V:=h.m (λd h1 h2=>⟨h1,h2⟩);have F:=H h2;obtain⟨oa,n,rfl⟩:=h.len;obtain⟨b,B⟩:∃b,G e=b:=⟨_,rfl⟩;rw[B]at hl F;obtain⟨i,f⟩:∃i,jb e j=i:=⟨_,rfl⟩;rw[f,B];rw[qL,B]at f;have p:=H B;have HF:=H hF;have u:L1 (LT w.heap.size w (w.alloc (Pp #[Z oa b n,I U j] 31))):=(aq _ _).alloc (ag _) _;by_cases P:1<=b/\b<=100
 ·rw[aB P,bX]at f;have t1:¬(b:Int)<1:=Y;have t2:¬(100:Int)<(b:Int):=Y;by_cases Q:1<=j/\j<=(b:Int)
  ·rw[aB Q,bX]at f;obtain⟨r,rfl⟩:∃r:Nat,j=(r:Int)+1:=⟨(j-1).toNat,Y⟩;rw[show((r:Int)+1-1).toNat=r by omega]at f;have bd:r<b:=Y;have t3:¬(r:Int)+1<1:=Y;have t4:¬(b:Int)<(r:Int)+1:=Y;obtain⟨k,hy⟩:∃k,e[r]?=O k:=⟨_,af (by rw[p.o];exact bd)⟩;rw[hy]at f;obtain⟨d,c,bw,x,_,_,D,l⟩:=F.o.at hy;rw[p.o]at x;cases x;obtain⟨pp,ia,il,ic,ka,kl,kc,fa,fl,fc,rfl⟩:=gF.form2 D;have dk:(w.alloc (Pp #[Z (O ⟨d,0,N⟩) b n,I U ((r:Int)+1)] 31)).cell? ⟨d,r*7,N⟩=O (I U (kO k:Int)):=by have:=l 0 _ rfl;rw[dZ]at this;rw[World.cell?_alloc_lt _ _ _ (aC w _ this)];exact this
   have bq:IntKind.i64.wrap ((r:Int)+1-1)=(r:Int):=by rw[aU];omega
   have ba:(O k).map (λa7:VT 12=>gk.kind (α:=VT 11) a7)=O (kO k):=rfl;rw[ba]at f;by_cases h7:kO k=7
   ·rw[h7]at f dk;rw[aB rfl,bX]at f;have al:vG b 12 (w.heap.size+1) 2000 (e.map (j_ 12)).sum i e ((w.alloc (Pp #[Z (O ⟨d,0,N⟩) b n,I U ((r:Int)+1)] 31)).alloc (Pp #[I U 2000] 3)):=by refine⟨2000,Y,?_,f,rfl⟩;have:=bn (w.alloc (Pp #[Z (O ⟨d,0,N⟩) b n,I U ((r:Int)+1)] 31)) (Pp #[I U 2000] 3);rw[aL]at this;exact this
    have b2:LT w.heap.size w ((w.alloc (Pp #[Z (O ⟨d,0,N⟩) b n,I U ((r:Int)+1)] 31)).alloc (Pp #[I U 2000] 3)):=u.o.alloc eA _;have a8:((w.alloc (Pp #[Z (O ⟨d,0,N⟩) b n,I U ((r:Int)+1)] 31)).alloc (Pp #[I U 2000] 3)).heap[w.heap.size]?=O (Pp #[Z (O ⟨d,0,N⟩) b n,I U ((r:Int)+1)] 31 (0,0)):=mA _ (bn _ _);obtain⟨y,hC⟩:∃y,(e.map (j_ 12)).sum=y:=⟨_,rfl⟩;rw[hC]at al;have a4:=H al;have B2:=H b2;have v:=H a8
    go_in
    go_wp2;go_loopw [5] (λR wr=>∃(g:Nat),g<=b/\R=I U g/\L1 (LT w.heap.size w wr)/\L1 (wr.heap[w.heap.size]?=O (Pp #[Z (O ⟨d,0,N⟩) b n,I U ((r:Int)+1)] 31 (0,0)))/\L1 (vG b 12 (w.heap.size+1) 2000 y i (e.drop g) wr)) (λR _=>b-(intOf R).toNat)
    case atStart=>exact⟨0,aH _,rfl,B2,v,a4⟩
    case round=>
     obtain⟨g,hm,rfl,z,v,HS⟩:=hrel;obtain⟨T,bb,bc,A,a0⟩:=HS.o;have d0:=mC v;rcases aV hm with bo|M
     ·have e0:e.drop g=[]:=bS (by rw[p.o];omega);rw[e0]at A;have a2:L1 (i=PV):=by unfold Hid;rw[<-A];simp
      have hd:¬(g:Int)<(b:Int):=Y;go_wp2;go_ret;exact⟨by rw[a2.o];rfl,z⟩
     ·have hd:(g:Int)<(b:Int):=Y;obtain⟨t,E⟩:∃t,e[g]?=O t:=⟨_,af (by rw[p.o];exact M)⟩;have ao:e.drop g=t::e.drop (g+1):=by rw[aW (by rw[p.o];exact M)];congr 1;rw[af (by rw[p.o];exact M)]at E;simpa using E
      rw[ao,cZ,bF,eF]at A;rw[ao,bF,eF]at a0;obtain⟨g',c',xv,x,_,_,D,l⟩:=F.o.at E;rw[p.o]at x;cases x;have a9:=HF.o t (cI E);have ac:=H (JI (L:=w.heap.size+1) (objs:=b) Y 12 (ag _) wr (λd=>J d/\d<w.heap.size) xv t T bb (gF.keep 12 D (λd hg _=>z.block d hg.2)) (λd hg=>Y) a9 bc);rw[show((13-12:Nat):Int)=1 from rfl]at ac;obtain⟨k0,k1,k2,k3,ja,jl,jc,br,bt,bs,bf,bm,bi,m⟩:=gF.form D;have s:∀{S:Nat} {W:GI},w.cell? ⟨d,S,N⟩=O W->wr.cell? ⟨d,S,N⟩=O W:=λ{S W} h=>by rw[z.o.cell (aC w _ h)];exact h
      have q0:wr.cell? ⟨d,g*7,N⟩=O (I U k0):=s (l 0 _ (by rw[m];rfl));have q1:=s (l 1 _ (by rw[m];rfl));have q2:=s (l 2 _ (by rw[m];rfl));have q3:=s (l 3 _ (by rw[m];rfl));have q4:=s (l 4 _ (by rw[m];rfl));have q5:=s (l 5 _ (by rw[m];rfl));have q6:=s (l 6 _ (by rw[m];rfl));subst m;have aa:=H A;have a3:=H a0;generalize ly b 12 t=oy at *;generalize j_ 12 t=cy at *;go_wp2_with fail;go_call ac.o as ad w4 ⟨rfl,o4,K⟩;have X:=H (ob z o4 Y);have a6:=H ((o4.block _ (ae v) Y).t v);cases C:(oy&&decide (cy<=T))with
      |false=>
       have a1:L1 (i=P2):=by
        unfold Hid;rw[<-aa.o];cases oy with
        |false=>rfl
        |true=>rw[bX,bk]at C;rw[ar Y,Bool.and_false]
       go_wp2;go_ret;exact⟨by rw[a1.o];rfl,X⟩
      |true=>
       have a5:L1 (vG b 12 (w.heap.size+1) 2000 y i (e.drop (g+1)) w4):=by
        have h5:=K C;rw[bN,cm]at C;refine⟨T-cy,Y,h5,?_,?_⟩
        ·rw[<-aa.o,C.1,bX];congr 1;rw[cJ];omega
        ·have:=a3.o;omega
       go_wp2;go_roundw
       case rel=>exact⟨g+1,Y,by first|rfl|(congr 1),X,a6,a5⟩
       case measure=>simp[intOf];omega
   ·have q:L1 (i=P2):=by unfold Hid;rw[<-f,ar (by simpa using h7)];rfl
    have bv:((kO k:Int) != 7)=PV:=eB;generalize (kO k:Int)=ky at *
    go_in
    go_wp2;go_ret;exact⟨by rw[q.o];rfl,u⟩
  ·have q:L1 (i=P2):=by unfold Hid;rw[<-f,ar Q];rfl
   by_cases h3:j<1
   ·clear f Q
    go_in
    go_wp2;go_ret;exact⟨by rw[q.o];rfl,u⟩
   ·have K:(b:Int)<j:=Y
    go_in
    go_wp2;go_ret;exact⟨by rw[q.o];rfl,u⟩
 ·have q:L1 (i=P2):=by unfold Hid;rw[<-f,ar P];rfl
  by_cases h3:(b:Int)<1
  ·clear f P
   go_in
   go_wp2;go_ret;exact⟨by rw[q.o];rfl,u⟩
  ·have K:(100:Int)<(b:Int):=Y
   go_in
   go_wp2;go_ret;exact⟨by rw[q.o];rfl,u⟩
end
section
variable{w w':Gr}
structure Rw(w:Gr)(db:Nat)(S:ByteArray)(wx:Gr)(t:Option (List Nat))(ov:GI)(vs:List GI)(rt:Int)(pv:GI)(ps:List Nat):Prop where
 below:LT w.heap.size w wx
 rb:wx.heap[w.heap.size]?=O (Pp #[Z N 0 0,I U 0] 31 (0,0))
 sn:∃p,Sn (w.heap.size+1) S wx p t
 dlt:w.heap.size+2<=db
 dbk:wx.heap[db]?=O (Pp #[ov,I U rt] 31 (0,0))
 own:wx.ownsRow (db+1) 67 7 ov (G vs) (vs.flatMap cellsOf)
 ownp:wx.ownsRow (db+1) 3 1 pv (G ps) (ps.map λp:Nat=>I U p)
 frm:∀x∈vs,mi x
 few:G vs+gP t<=200001
 fewp:G ps+gP t<=200001
 pls:∀p∈ps,p<=200000
section
variable{d:Nat}{S:ByteArray}{f:Gr}{t:Option (List Nat)}{l m:GI}{n:List GI}{s:Int}{o:List Nat}{Vs:List (VT 12)}
def Rw.step{t':Option (List Nat)}(h:Rw w d S f t l n s m o)(k:jP (w.heap.size+1) S f w' t')(r:gP t'<=gP t):Rw w d S w' t' l n s m o/\(TV (d+1) 12 f l m n Vs->TV (d+1) 12 w' l m n Vs):=by have b:=h.dlt;have i:=h.below.size;refine⟨⟨⟨k.2.os.t h.below.os,k.2.tape.t h.below.tape,k.2.output.t h.below.output,aA i k.2.size,λa h1=>(k.2.block a Y Y).t (h.below.block a h1)⟩,by rw[k.2.block _ (ae h.rb) Y];exact h.rb,k.1,b,by rw[k.2.block _ (ae h.dbk) Y];exact h.dbk,uf h.own k.2 Y,uf h.ownp k.2 Y,h.frm,by have:=h.few;omega,by have:=h.fewp;omega,h.pls⟩,λtv=>⟨tv.1,λj p y e g=>gF.keep 12 (tv.2 j p y e g) (λa q c=>k.2.block a c Y)⟩⟩
def Rw.belowS(h:Rw w d S f t l n s m o)(b:LT f.heap.size f w'):Rw w d S w' t l n s m o/\(TV (d+1) 12 f l m n Vs->TV (d+1) 12 w' l m n Vs):=by obtain⟨c,a⟩:=h.sn;exact h.step ⟨⟨c,a.other b⟩,.of_below b⟩ (ag _)
def Rw.place(h:Rw w d S f t l n s m o){j:Nat}{k:GI}(A:j<=200000)(x:G o+1+gP t<=200001)(z:w'.ownsRow (d+1) 3 1 k (G o+1) ((o.map λj:Nat=>I U j)++[I U j]))(g:f.grownBy w' m.ownBlock)(C:∀a,k.ownBlock=O a->m.ownBlock=O a\/f.heap.size<=a):Rw w d S w' t l n s k (o++[j])/\(TV (d+1) 12 f l m n Vs->TV (d+1) 12 w' l k n Vs):=by
 have v:=h.dlt;have E:=h.below.size;have B:=h.ownp.lt;have r:∀a,a<f.heap.size->m.ownBlock≠O a->w'.heap[a]?=f.heap[a]?:=λa h1 h2=>g.block a h1 (λe=>h2 e.s);have p:∀a,a<d+1->a<f.heap.size->w'.heap[a]?=f.heap[a]?:=λa h1 h2=>r a h2 (λe=>by have:=B a e;omega);obtain⟨K,i⟩:=h.sn;refine⟨⟨⟨g.os.t h.below.os,g.tape.t h.below.tape,g.output.t h.below.output,aA E g.size,λa h1=>(p a Y Y).t (h.below.block a h1)⟩,by rw[p _ Y (ae h.rb)];exact h.rb,⟨K,by rw[p _ Y i.lt];exact i.blk,i.lp,i.ls,i.rest⟩,v,by rw[p _ Y (ae h.dbk)];exact h.dbk,?_,?_,h.frm,h.few,?_,?_⟩,λtv=>⟨tv.1,λF u q D b=>?_⟩⟩
 ·exact h.own.kept g (by
   cases y:l.ownBlock with
   |none=>exact P3 rfl
   |some a=>exact P4 (λe=>xT h.own h.ownp cO a y e.s))
 ·rw[ak,bK];exact z
 ·rw[ak];exact x
 ·intro q b;rcases bG.1 b with b|b;·exact h.pls q b
  ·rw[cU]at b;subst b;exact A
 ·have J:gF (λa=>d+1<=a/\l.ownBlock≠O a/\m.ownBlock≠O a/\k.ownBlock≠O a) 12 f u q:=gF.m 12 (tv.2 F u q D b) (λa h1 h2=>⟨h1.1,h1.2.1,h1.2.2,λe=>by
   rcases C a e with c|c;·exact h1.2.2 c
   ·omega⟩)
  exact gF.m 12 (gF.keep 12 J (λa h1 h2=>r a h2 h1.2.2.1)) (λa h1 _=>⟨h1.1,h1.2.1,h1.2.2.2⟩)
def Rw.item(h:Rw w d S f t l n s m o){x:GI}(Q:mi x)(L:G n+1+gP t<=200001){g:GI}(E:w'.ownsRow (d+1) 67 7 g (G n+1) (n.flatMap cellsOf++cellsOf x))(k:f.grownBy w' l.ownBlock)(F:∀b,g.ownBlock=O b->l.ownBlock=O b\/f.heap.size<=b):Rw w d S (w'.setCell ⟨d,0,N⟩ g) t g (n++[x]) s m o/\∀{v:VT 12} {Px:Nat->Prop},(∀b,Px b->d+1<=b/\l.ownBlock≠O b/\m.ownBlock≠O b)->gF Px 12 f x v->TV (d+1) 12 f l m n Vs->TV (d+1) 12 (w'.setCell ⟨d,0,N⟩ g) g m (n++[x]) (Vs++[v]):=by
 have J:=h.dlt;have p:=h.below.size;have D:=h.own.lt;have C:∀b,b<f.heap.size->l.ownBlock≠O b->b≠d->(w'.setCell ⟨d,0,N⟩ g).heap[b]?=f.heap[b]?:=λb h1 h2 h3=>by rw[kW _ h3,k.block b h1 (λe=>h2 e.s)]
 have y:∀b,b<d->b<f.heap.size->(w'.setCell ⟨d,0,N⟩ g).heap[b]?=f.heap[b]?:=λb h1 h2=>C b h2 (λe=>by have:=D b e;omega) Y;have K:w'.heap[d]?=O (Pp #[l,I U s] 31 (0,0)):=by rw[k.block _ (ae h.dbk) (λe=>by have:=D _ e.s;omega)];exact h.dbk
 obtain⟨T,r⟩:=h.sn;refine⟨⟨⟨k.os.t h.below.os,k.tape.t h.below.tape,k.output.t h.below.output,by have:=k.size;simp[World.setCell];omega,λb h1=>(y b Y Y).t (h.below.block b h1)⟩,by rw[y _ Y (ae h.rb)];exact h.rb,⟨T,by rw[y _ Y r.lt];exact r.blk,r.lp,r.ls,r.rest⟩,J,?_,?_,?_,?_,?_,h.fewp,h.pls⟩,?_⟩;·rw[lV _ K];rfl
 ·rw[ak,dE];have:=aR (a:=⟨d,0,N⟩) E (λe=>absurd (E.lt d e).1 Y) g;simpa using this
 ·have:=h.ownp.kept k (by
   cases M:m.ownBlock with
   |none=>exact P3 rfl
   |some b=>exact P4 (λe=>xT h.own h.ownp cO b e.s M))
  exact aR this (λe=>absurd (this.lt d e).1 Y) g
 ·intro V p;rcases bG.1 p with p|p;·exact h.frm V p
  ·rw[cU]at p;subst p;exact Q
 ·rw[ak];exact L
 ·intro v Px u P tv;refine⟨by rw[ak,ak,tv.1];rfl,?_⟩;intro z A B i j;have R:gF (λb=>d+1<=b/\l.ownBlock≠O b/\m.ownBlock≠O b/\g.ownBlock≠O b) 12 f A B:=by
   rcases bU z (G n) with c|c
   ·rw[aP c]at i;rw[aP Bc]at j;refine gF.m 12 (tv.2 z A B i j) (λb h1 h2=>⟨h1.1,h1.2.1,h1.2.2,λe=>?_⟩);rcases F b e with q|q;·exact h1.2.1 q
    ·omega
   ·rw[aF c]at i;rw[aF Bc]at j;rw[<-tv.1]at j;obtain⟨rfl,rfl⟩:x=A/\v=B:=by
     match W:z-G n,i,j with
     |0,i,j=>exact⟨by simpa using i,by simpa using j⟩
     |X+1,i,j=>simp at i
    refine gF.m 12 P (λb h1 h2=>⟨(u b h1).1,(u b h1).2.1,(u b h1).2.2,λe=>?_⟩);rcases F b e with q|q;·exact(u b h1).2.1 q
    ·omega
  refine gF.m 12 (gF.keep 12 R (λb h1 h2=>C b h2 h1.2.1 Y)) (λb h1 _=>⟨h1.1,h1.2.2.2,h1.2.2.1⟩)
def BO(b:List Nat)(d:Nat)(f:Gr)(t:Option (List Nat))(l:GI)(n:List GI)(m:GI)(o:List Nat):Prop:=match t with
 |none=>nw b
 |some r=>∃a:List (VT 12×List Nat),TV (d+1) 12 f l m n (a.map ku)/\(∀c∈a,qb c)/\Pg b a o r
def Hl(b:List Nat)(d:Nat)(f:Gr)(t:Option (List Nat))(l:GI)(n:List GI)(m:GI)(s:Int):Prop:=(t=N/\nw b)\/∃a:List (VT 12×List Nat),t=O []/\TV (d+1) 12 f l m n (a.map ku)/\(∀c∈a,qb c)/\gT b=O (a,s)
end
end
section
variable{w f:Gr}{B b:Nat}{c e:GI}{a d:List Nat}
def C_(k g:Nat):List Nat:=Qf (k-(gE g).length) 48++gE g
end
section
variable{w a:Gr}
def Jt{g i:Gr}{f b j m l:Nat}{e:GI}{n:List GI}(h:g.ownsRow b j m e l n)(r:gB f g i)(q:∀d,e.ownBlock=O d->d≠f):i.ownsRow b j m e l n:=by
 obtain⟨h1,h2⟩:=h;refine⟨h1,?_⟩;rcases h2 with h2|⟨d,c,o,e1,e2,k,p⟩;·exact P3 h2
 ·exact P4 ⟨d,c,o,e1,e2,by rw[r.block d (ae k) (q d (by rw[e1];rfl))];exact k,p⟩
end
section
variable{w s:Gr}
def BN(w:Gr)(f:List Nat)(i:MB)(s:Gr):Prop:=LT w.heap.size w s/\∃b ok,i=Ps (OW #[b,OV ok])/\((ok=P2/\nw f/\∃h j c k,b=N1 #[Z h j c,I U k])\/(ok=PV/\∃a e d,b=N1 #[d,I U e]/\gT f=O (a,e)/\jb (a.map Prod.fst) e=PV/\(∀l∈a,qb l)/\kG (λg=>w.heap.size<=g/\d.ownBlock≠O g) 12 w.heap.size (a.map ku) s d))
section
variable{b:Nat}{S:ByteArray}{d:Gr}{t:Option (List Nat)}{k j:GI}{l:List GI}{m:Int}{f:List Nat}{Vs:List (VT 12)}
def Rw.plin(h:Rw w b S d t k l m j f):BM (w.heap.size+1) d j f:=by
 obtain⟨o,c,e⟩:=jp h.ownp;refine⟨o,c,e,λn i=>?_⟩;obtain⟨g,u,a,q⟩:=uL h.ownp (show(f.map λr:Nat=>I U r)[n]?=O (I U (nth f n:Nat))by rw[aY,af i];unfold nth;rw[ax,af i];rfl)
 have p:=h.ownp.lt g (by rw[a];rfl);have v:=h.dlt;rw[e]at a;injection a with e1;exact⟨g,e1,Y,p.2,q⟩
def Rw.root(h:Rw w b S d t k l m j f)(e:Int):Rw w b S (d.setCell ⟨b,1,N⟩ (I U e)) t k l e j f/\(TV (b+1) 12 d k j l Vs->TV (b+1) 12 (d.setCell ⟨b,1,N⟩ (I U e)) k j l Vs):=by have g:=h.dlt;have q:=h.below.size;have a:gB b d (d.setCell ⟨b,1,N⟩ (I U e)):=(gB.refl _ _).setCell 1 _;obtain⟨u,n⟩:=h.sn;refine⟨⟨⟨a.os.t h.below.os,a.tape.t h.below.tape,a.output.t h.below.output,aA q a.size,λc h1=>(a.block c Y Y).t (h.below.block c h1)⟩,by rw[a.block _ (ae h.rb) Y];exact h.rb,⟨u,n.onlyS a Y⟩,g,by rw[lV _ h.dbk];rfl,uf h.own a Y,uf h.ownp a Y,h.frm,h.few,h.fewp,h.pls⟩,λtv=>⟨tv.1,λr v x o p=>gF.keep 12 (tv.2 r v x o p) (λc y i=>a.block c i Y)⟩⟩
end
def Rw.fin{o:Nat}{n:ByteArray}{f u W:Gr}{t:Option (List Nat)}{j:Option L2}{g k:Nat}{pv:GI}{r:List GI}{e:Int}{K:List Nat}{l:List (VT 12×List Nat)}{m:Bool}(h:Rw w o n f t (Z j g k) r e pv K)(c:LT f.heap.size f u)(y:W=(u.setCell ⟨w.heap.size,0,N⟩ (Z j g k)).setCell ⟨w.heap.size,1,N⟩ (I U e))
  (B:TV (o+1) 12 f (Z j g k) pv r (l.map ku)) (C:∀v∈l,qb v) (z:gT (bl n)=O (l,e)) (A:jb (l.map Prod.fst) e=m):W.heap[w.heap.size]?=O (Pp #[Z j g k,I U e] 31 (0,0))/\BN w (bl n) (Ps (OW #[N1 #[Z j g k,I U e],OV m])) W:=by
 have d:gB w.heap.size u W:=by rw[y];exact((gB.refl _ _).setCell 0 _).setCell 1 _
 have L:=(c.block _ (ae h.rb)).t h.rb;have i:=h.below;have P:=h.dlt;have h1:=i.size;have h2:=c.size;have b:LT w.heap.size w W:=⟨d.os.t (c.os.t i.os),d.tape.t (c.tape.t i.tape),d.output.t (c.output.t i.output),aA h1 (aA h2 d.size),λa q=>(d.block a Y Y).t ((c.block a Y).t (i.block a q))⟩;refine⟨by rw[y];exact pj L _ _,b,_,m,rfl,?_⟩;cases m with
 |false=>refine P3 ⟨rfl,λR Q x=>?_,_,_,_,_,rfl⟩;rw[z]at x;cases x;exact A
 |true=>have J:∀a,o+1<=a->a<f.heap.size->W.heap[a]?=f.heap[a]?:=λa h3 p=>(d.block a Y Y).t (c.block a p);refine P4 ⟨rfl,l,e,_,rfl,z,A,C,r,zP (Jt (wV h.own c) d (λa q=>by have:=(h.own.lt a q).1;omega)) Y,B.1,λF v M D E=>?_⟩;exact gF.m 12 (gF.keep 12 (B.2 F v M D E) (λa h3 p=>J a h3.1 p)) (λa h3 _=>⟨Y,h3.2.1⟩)
def BH(n o:GI):Prop:=∃(a h i:Int) (j:ByteArray) (e:Option L2) (g f:Nat) (k:Option L2) (m l:Nat) (b:Option L2) (d c:Nat),n=N1 #[I U a,I U h,I U i,MV j,Z e g f,Z k m l,Z b d c]/\o=N1 #[I U a,I U h,I U i,MV (if a=8 then{data:=#[]} else j),Z e g f,Z k m l,Z b d c]
def BH.vin{f:Nat->Prop}{i j:GI}{a:VT 12×List Nat}(h:BH i j)(b:gF f 12 w i (ku a))(n:qb a):gF f 12 w j a.1:=by
 obtain⟨g,z,A,B,v,y,x,C,E,D,r,u,t,rfl,rfl⟩:=h;by_cases d:gk.kind (α:=VT 11) a.1=8
 ·have c:ku a=sT (k:=11) a.1 a.2:=by unfold ku;rw[ai d]
  rw[c]at b;have e:g=8:=by obtain⟨o,p,m,q,e2,_⟩:=gF.parts (V:=(sT (k:=11) a.1 a.2:gk (VT 11))) b;simp[nV]at e2;rw[e2.1];show((gk.kind (α:=VT 11) a.1:Nat):Int)=8;omega
  rw[ai e];have h2:=gF.textTo (V:=(sT (k:=11) a.1 a.2:gk (VT 11))) b [];have l:({ (sT (k:=11) a.1 a.2:gk (VT 11))with text:=[]}:gk (VT 11))=a.1:=by have:=n.2.1 d;show({ (show gk (VT 11)from a.1)with text:=[]}:gk (VT 11))=a.1;rw[<-this];rfl
  rw[l]at h2;exact h2
 ·have c:ku a=a.1:=by unfold ku;rw[ah d]
  rw[c]at b;have e:g≠8:=by obtain⟨o,p,m,q,e2,_⟩:=gF.parts (V:=(a.1:gk (VT 11))) b;simp[nV]at e2;rw[e2.1];omega
  rw[ah e];exact b
def M6{r a:List Nat}{b:VT 12×List Nat}(h:pW (O r)=O (b,a)):G a+1<=G r:=by
 unfold pW at h;simp only[Option.bind_some]at h;cases h1:gg [48] r with
 |none=>rw[h1]at h;cases h
 |some f=>
  rw[h1]at h;simp only[Option.bind_some]at h;cases h2:gg [111,98,106] f with
  |none=>rw[h2]at h;cases h
  |some g=>
   rw[h2]at h;simp only[Option.bind_some]at h;cases h3:iY g with
   |none=>rw[h3]at h;cases h
   |some c=>rw[h3]at h;simp only[Option.bind_some,Option.map_eq_some_iff]at h;obtain⟨m,d,e⟩:=h;cases e;have i:=gQ h1;have j:=gQ h2;have k:=pK (x:=c.1) (q:=c.2) h3;have l:=gQ d;omega
def JL(g:ByteArray)(hS:g.size<=200000):K8 Qe 83 #[MV g] w (BN w (bl g)):=by
 obtain⟨i0,hk,h9,ia,e8⟩:=bu iV;obtain⟨j0,mb,mc,md,mk⟩:=bu Eg;have m0:=mK g;obtain⟨W1,ci⟩:∃W1,(w.alloc (Pp #[Z N 0 0,I U 0] 31)).alloc (Pp #[MV g,I U 0,OV P2] 146)=W1:=⟨_,rfl⟩;have b1:LT w.heap.size w W1:=by rw[<-ci];exact((aq _ _).alloc (ag _) _).alloc eA _
 have x0:W1.heap[w.heap.size]?=O (Pp #[Z N 0 0,I U 0] 31 (0,0)):=by rw[<-ci];exact mA _ (bn _ _)
 have x1:Sn (w.heap.size+1) g W1 0 (O (bl g)):=by refine⟨?_,aH _,hS,λr hr=>by cases hr;rfl⟩;rw[<-ci];have:=bn (w.alloc (Pp #[Z N 0 0,I U 0] 31)) (Pp #[MV g,I U 0,OV P2] 146);rw[aL]at this;exact this
 have H2:=H (xP x1 {data:=#[37,80,68,70,45,49,46,52,10]} cO);rw[show bl {data:=#[37,80,68,70,45,49,46,52,10]}=[37,80,68,70,45,49,46,52,10]from rfl]at H2;simp only[Option.bind_some]at H2;have b7:=H b1;have eb:=H x0;have gs:=H ci;clear b1 x0 x1 ci
 go_in
 go_upto_region 2 with fail
 rw[gs.o];go_wp2_with fail;go_call H2.o as i w2 ⟨rfl,z⟩;obtain⟨l,lc⟩:∃l,w2.heap.size=l:=⟨_,rfl⟩;obtain⟨s1,c8⟩:∃s1,f_ [37,80,68,70,45,49,46,52,10] (bl g)=s1:=⟨_,rfl⟩;rw[c8]at z;obtain⟨W3,cy⟩:∃W3,w2.alloc (Pp #[Z N 0 0,I U 0] 31)=W3:=⟨_,rfl⟩;have a7:L1 (Rw w l g W3 s1 (Z N 0 0) [] 0 (Z N 0 0) []):=by
  obtain⟨⟨p2,h2⟩,o2⟩:=z;have b3:LT w2.heap.size w2 W3:=by rw[<-cy];exact(aq _ _).alloc (ag _) _
  have h1:=b7.o.size;have hl:=ae eb;have e8:=h2.lt;have ck:gP s1<=200001:=by
   cases s1 with
   |none=>simp[gP]
   |some r=>have:=h2.len;simp only[gP];omega
  refine⟨⟨b3.os.t (o2.os.t b7.o.os),b3.tape.t (o2.tape.t b7.tape),b3.output.t (o2.output.t b7.o.output),by have:=o2.size;have:=b3.size;omega,λa hg=>(b3.block a Y).t ((o2.block a Y Y).t (b7.block a hg))⟩,by rw[b3.block _ Y,o2.block _ hl Y];exact eb,⟨p2,h2.other b3⟩,Y,by rw[<-cy,<-lc];exact bn _ _,aX _ _ _ _,aX _ _ _ _,(λd m=>by cases m),by simpa using ck,by simpa using ck,λd m=>by cases m⟩
 have dv:L1 (BO (bl g) l W3 s1 (Z N 0 0) [] (Z N 0 0) []):=by
  unfold Hid BO;cases s1 with
  |none=>exact Pk c8
  |some r=>exact⟨[],⟨rfl,λx d ad m _=>by simp at m⟩,(λd m=>by cases m),Pg.start c8⟩
 have gt:=H cy;clear z c8 cy gs H2 eb b7
 go_upto_region 4 with fail
 rw[gt.o];clear gt
 go_upto_block 0 with fail
 go_cut [6]from 13 (λpv wx=>∃(bd:Option (List Nat)) (ov:GI) (e:List GI) (b:List Nat) (t:Int),L1 (Rw w l g wx bd ov e t pv b)/\L1 (Hl (bl g) l wx bd ov e pv t))
 case first=>
  go_wp2_with fail;go_loopw [6] (λpv wr=>∃(bd:Option (List Nat)) (ov:GI) (e:List GI) (b:List Nat),L1 (Rw w l g wr bd ov e 0 pv b)/\L1 (G e=G b)/\L1 (BO (bl g) l wr bd ov e pv b)) (λ_ wr=>mS (w.heap.size+1) g wr)
  case atStart=>exact⟨s1,_,[],[],a7,rfl,dv⟩
  clear a7 dv
  case round=>
   obtain⟨bd,ov,e,b,u,kx,HI⟩:=hrel;obtain⟨ih,c9⟩:=u.o.sn;have c2:=c9.c2;have HM:=H c9.mS;have ga:=H c9;obtain⟨pa,pc,l0⟩:=jp u.o.ownp;subst l0;clear c9;cases bd with
   |none=>
    simp only[Option.isNone_none]at c2;go_wp2
    go_meet
    case rel=>exact⟨N,ov,e,b,0,u,P3 ⟨rfl,HI⟩⟩
   |some r=>
    simp only[Option.isNone_some]at c2;obtain⟨p,bm,b4,ev⟩:=HI.o;have cx:=H bm;have cv:=H b4;have f5:=H ev;have f6:=H ev.1;have d3:=H (uF ga);simp only[aZ]at d3;have m6:=iz r;have ks:=H ga.len;have ll:=u.o.fewp;have lf:=u.o.few;simp only[gP]at ll lf;clear bm b4 ev HI;go_wp2_with fail;go_call d3.o as i w1 ⟨rfl,y⟩;obtain⟨r1,ir⟩:=u.o.step (Vs:=p.map ku) y pI;have f7:=H r1;have gf:=H (ir cx);obtain⟨p1,h1⟩:=y.1;have d1:=h1.c1;have hp:p1=(bl g).length-(f9 r).length:=by have:=h1.len;have:=h1.lp;omega
    have f4:=H hp;have hs:p1<=200000:=by have:=h1.lp;omega
    have ea:=H (Bq h1);have dp:=H (EQ h1);clear r1 ir y h1 d3 u cx c2 hp;have d4:L1 (kJ (O (f9 r))=gn (f9 r)/\mJ (O (f9 r))=O (gm (f9 r))):=⟨rfl,rfl⟩;rw[d4.o.1,d4.o.2]at ea;go_wp2_with fail;go_call ea.o as i w3 ⟨rfl,k3⟩;have nd:(gm (f9 r)).length<=(f9 r).length:=(Ks _).length_le;obtain⟨r3,i2⟩:=f7.o.step (Vs:=p.map ku) k3 pI;have a7:=H r3;have d6:=H (i2 gf);obtain⟨p3,h3⟩:=k3.1;have cw:=H h3;have e1:((ge (gn (f9 r))).toList==([120,114,101,102]:List UInt8))=decide (gn (f9 r)=[120,114,101,102]):=by rw[sD,ui _ dp.o];rfl
    have cu:L1 (∀ct:List Nat,(∀d∈ct,d<256)->((ge (gn (f9 r))).toList==(ge ct).toList)=decide (gn (f9 r)=ct)):=λct hD=>by rw[ng,cJ];exact⟨λi=>Bx dp hD i,λi=>by rw[i]⟩
    obtain⟨TW,g6⟩:∃TW,ge (gn (f9 r))=TW:=⟨_,rfl⟩;rw[g6]at e1 cu ⊢;clear r3 i2 k3 h3 ea f7 gf d1 g6 dp d4;by_cases m:gn (f9 r)=[120,114,101,102]
    ·rw[aB m]at e1;have fr:=H (f5.table m);rw[<-f4.o]at fr;have gc:=H (FK cw a7.plin (by have:=a7.o.fewp;simp only[gP]at this;omega) (λx hi=>a7.pls _ (by unfold nth;rw[ax,af hi];exact cq hi)))
     clear m cu;go_wp2_with fail;go_call gc.o as i w4 ⟨rfl,k4⟩;generalize lP (mO::b.map lW) ((O (gm (f9 r))).bind (f_ ([10,48,32]++gE (G b+1)++[10])))=t4 at *;have fw:=H k4;obtain⟨p4,h4⟩:=k4.1;have gd:=H (MX h4 (G b) p1 (by have:=a7.o.fewp;simp only[gP]at this;omega) hs);clear k4 h4 gc;go_wp2_with fail;go_call gd.o as i w5 ⟨b6,t5,rfl,k5,ex⟩;have ib:=fw.o.t k5;have ck:gP t5<=gP (O (gm (f9 r))):=by rcases ex with⟨h,_⟩|⟨h,_⟩<;>rw[h]<;>simp[gP]
     obtain⟨r5,cr⟩:=a7.o.step (Vs:=p.map ku) ib ck;obtain⟨r6,cs⟩:=r5.root (Vs:=p.map ku) b6;have g1:=n5 r5.dbk;have g2:=jR 1 r5.dbk;have k:=H r6;have dr:L1 (Hl (bl g) l (w5.setCell ⟨l,1,N⟩ (I U b6)) t5 ov e (Z pa (G b) pc) b6):=by
      have hd:=fr.o;rw[<-f6.o]at hd;rcases ex with⟨h,hT⟩|⟨h,hT⟩;·rw[hT]at hd;exact P3 ⟨h,.of_none hd⟩
      ·rw[hT]at hd;exact P4 ⟨p,h,cs (cr d6),cv,hd⟩
     clear r5 cr r6 cs k5 ex ib gd fw ck;go_wp2
     go_meet
     case rel=>exact⟨t5,ov,e,b,b6,k,dr⟩
    ·rw[ar m]at e1;have cg:=H (f5.o.object m);rw[<-f4.o,<-f6.o]at cg;have li:=a7.o.fewp;have lm:=a7.o.few;simp only[gP]at li lm;have ce:=H (Ah (G b+1) Y w3);have e2:=cu.o (gE (G b+1)) (yy _);have nc:IntKind.i64.wrap ((G b:Int)+1)=((G b+1:Nat):Int):=by rw[aU];omega
     obtain⟨DD,g3⟩:∃DD,ge (gE (G b+1))=DD:=⟨_,rfl⟩;rw[g3]at e2 ce;obtain⟨bf,hG⟩:∃bf,(!decide (gn (f9 r)=gE (G b+1)/\G b<100))=bf:=⟨_,rfl⟩;clear m cu g3
     go_upto_region 12 with fail
     go_cut [53]from 19 to 67 (λbv wx=>bv=OV bf/\wx=w3)
     case first=>
      by_cases q0:gn (f9 r)=gE (G b+1)
      ·rw[aB q0]at e2;by_cases q1:G b<100
       ·have m1:decide (100<=(G b:Int))=P2:=eB;have HD:L1 (bf=P2):=by rw[<-hG,aB ⟨q0,q1⟩];rfl
        clear hG q0 q1;go_wp2_with fail;go_call ce.o as i s ⟨rfl,hw⟩;have hw:=hw.s;subst hw;go_wp2
        go_meet
        case rel=>exact⟨by rw[HD.o],rfl⟩
       ·have m1:decide (100<=(G b:Int))=PV:=eB;have HD:L1 (bf=PV):=by rw[<-hG,ar (λh=>q1 h.2)];rfl
        clear hG q0 q1;go_wp2_with fail;go_call ce.o as i s ⟨rfl,hw⟩;have hw:=hw.s;subst hw;go_wp2
        go_meet
        case rel=>exact⟨by rw[HD.o],rfl⟩
      ·rw[ar q0]at e2;have HD:L1 (bf=PV):=by rw[<-hG,ar (λh=>q0 h.1)];rfl
       clear hG q0;go_wp2_with fail;go_call ce.o as i s ⟨rfl,hw⟩;have hw:=hw.s;subst hw;go_wp2
       go_meet
       case rel=>exact⟨by rw[HD.o],rfl⟩
     case rest=>
     obtain⟨rfl,b5⟩:=hcut;have b5:=b5.s;subst b5;obtain⟨C,co⟩:∃C,(if bf=PV then N else O (gm (f9 r)))=C:=⟨_,rfl⟩;have d2:L1 ((pW C=N/\nw (bl g)/\C=N)\/(C=O (gm (f9 r))/\gn (f9 r)=gE (G b+1))):=by
      by_cases hq:gn (f9 r)=gE (G b+1)/\G b<100
      ·rw[aB hq]at hG;subst hG;exact P4 ⟨co.s,hq.1⟩
      ·rw[ar hq]at hG;subst hG;have h2:C=N:=co.s;refine P3 ⟨by rw[h2];rfl,?_,h2⟩;by_cases hz:gn (f9 r)=gE (G b+1);·exact cg.2.1 (Nat.le_of_not_lt λh=>hq ⟨hz,h⟩)
       ·exact cg.1 hz
     have dw:L1 (gP C<=gP (O (gm (f9 r)))):=by unfold Hid;rw[<-co];cases bf<;>simp[gP]
     have fs:L1 (G b+1+gP C<=200001/\G e+1+gP C<=200001):=by
      rcases d2.o with⟨_,_,h⟩|⟨h,hq⟩;·rw[h];simp only[L1,gP];omega
      ·have h1:(gn (f9 r)).length+(gm (f9 r)).length=(f9 (f9 r)).length:=by unfold gn gm;rw[<-ak,List.takeWhile_append_dropWhile]
       have h2:1<=(gE (G b+1)).length:=by
        by_cases g0:G b+1<10;·rw[Cm g0];exact ag _
        ·rw[dg g0,ak,Cm (Nat.mod_lt _ Y)];simp
       rw[hq,jq]at h1;rw[h];simp only[L1,gP];omega
     have d5:=H co;clear hG co e1 e2 ce
     go_upto_if 53 with fail
     go_cut []from 19 to 67 (λwx=>L1 (jP (w.heap.size+1) g w3 wx C))
     case first=>
      cases bf with
      |true=>
       have HE:L1 (C=N):=d5.o.s;have kh:=H (qW cw);go_wp2_with fail;go_call kh.o as i w4 ⟨rfl,h4,o4⟩;have K4:L1 (jP (w.heap.size+1) g w3 w4 C):=by rw[HE.o];exact⟨⟨_,h4⟩,o4⟩
       clear h4 o4;go_wp2
       go_meet
       case rel=>exact K4
      |false=>
       have HE:L1 (C=O (gm (f9 r))):=d5.o.s;have K4:L1 (jP (w.heap.size+1) g w3 w3 C):=by rw[HE.o];exact cw.toS
       go_wp2
       go_meet
       case rel=>exact K4
     case rest=>
     obtain⟨w4,l5⟩:∃w4,w4=wc:=⟨_,rfl⟩;subst l5;obtain⟨r4,i3⟩:=a7.o.step (Vs:=p.map ku) hcut dw;have B:LT w4.heap.size w4 (w4.alloc (Pp #[I U (p1:Nat)] 3)):=(aq _ _).alloc (ag _) _;obtain⟨r5,cr⟩:=r4.belowS (Vs:=p.map ku) B;have f8:=H r5;have gi:=H (cr (i3 d6));have ho:=r5.ownp;have lo:=dw.o;simp only[gP]at lo;have m7:=ae r4.dbk;have fz:L1 (∀(q:Nat) (a8:GI),[I U (p1:Nat)][q]?=O a8->(w4.alloc (Pp #[I U (p1:Nat)] 3)).cell? ((⟨w4.heap.size,0,N⟩:L2).add q)=O a8):=by intro q a8 hu;rw[pR,iI (bn w4 _)];simpa using hu
     clear r4 i3 r5 cr B hcut a7 d6 cw d5;go_wp2_with (at_builtin;refine uT _ rfl (.tmp 56) (.tmp 58) 52 rfl (l+1) 3 j0 _ 1 8 cG mb mc md mk rfl cO (Z pa (G b) pc) (G b) (b.map λih:Nat=>I U ih) rfl ho ⟨w4.heap.size,0,N⟩ 1 1 [I U (p1:Nat)] rfl rfl fz ?hone ?h63 ?hby ?hbs ?_)
     case hone=>first|rfl|(intro a8 hu;simp at hu;subst hu;rfl)
     case h63=>unfold maxLen;omega
     case hby=>omega
     case hbs=>first|omega|(simp;omega)
     intro ni D e9 hh da;obtain⟨r6,cs⟩:=f8.o.place (Vs:=p.map ku) hs fs.1 e9 hh (λa hg=>by simpa[aL]using da a hg);have k:=H r6;have gl:=H (cs gi);obtain⟨p6,h6⟩:=r6.sn;have f3:=H (MT h6);obtain⟨ml,mm,l1⟩:=jp e9;subst l1;clear r6 cs h6 e9 hh da ho fz f8 gi;go_wp2_with fail;go_call f3.o as i w7 ⟨v7,t7,rfl,⟨J,K,L,M,aa,al,ac,B,ao,bc,ca,cl,cc,rfl⟩,k7,ey⟩;have eo:gP t7<=gP C/\(gP t7+1<=gP C\/gP t7=0):=by
      rcases ey with⟨h,_⟩|⟨d,fd,h1,h2,_⟩;·rw[h];simp[gP]
      ·rw[h2];cases C with
       |none=>cases h1
       |some q1=>have:=M6 h1;simp only[gP];omega
     obtain⟨r7,i4⟩:=k.o.step (Vs:=p.map ku) k7 eo.1;have ic:=k.o.own.lt;have m9:=ae k.dbk;have il:=k.o.ownp.lt;obtain⟨W8,c3⟩:∃W8,(w7.alloc (Pp #[I U J,I U K,I U L,MV M,Z aa al ac,Z B ao bc,Z ca cl cc] 67)).alloc (Pp #[I U J,I U K,I U L,MV M,Z aa al ac,Z B ao bc,Z ca cl cc] 67)=W8:=⟨_,rfl⟩;have b8:LT w7.heap.size w7 W8:=by rw[<-c3];exact((aq _ _).alloc (ag _) _).alloc eA _
     obtain⟨r8,i5⟩:=r7.belowS (Vs:=p.map ku) b8;have bw:=H r8;have gp:=H (i5 (i4 gl));have gr:L1 (∀d,gF (λa=>D.heap.size<=a) 12 w7 (N1 #[I U J,I U K,I U L,MV M,Z aa al ac,Z B ao bc,Z ca cl cc]) (ku d)->gF (λa=>D.heap.size<=a/\a<w7.heap.size) 12 W8 (N1 #[I U J,I U K,I U L,MV M,Z aa al ac,Z B ao bc,Z ca cl cc]) (ku d)):=λd hv=>gF.keep 12 (gF.m 12 hv (λa h1 h2=>⟨h1,h2⟩)) (λa h1 _=>b8.block a h1.2);have kr:=H ey;have fx:=H eo;have d7:=H c3;have d0:=mC r7.dbk;have mv:(w7.alloc (Pp #[I U J,I U K,I U L,MV M,Z aa al ac,Z B ao bc,Z ca cl cc] 67)).cell? ⟨l,0,N⟩=O ov:=iI (mA _ r7.dbk);have na:=ae r7.dbk;have kk:=H ic;have ko:=H il;obtain⟨oa,oc,bt⟩:=jp bw.o.own;have eu:=bw.o.own;subst bt;have f2:L1 (∀(q:Nat) (a8:GI),[I U J,I U K,I U L,MV M,Z aa al ac,Z B ao bc,Z ca cl cc][q]?=O a8->W8.cell? ((⟨w7.heap.size+1,0,N⟩:L2).add q)=O a8):=by have:=DZ (W:=w7.alloc (Pp #[I U J,I U K,I U L,MV M,Z aa al ac,Z B ao bc,Z ca cl cc] 67)) (a0:=I U J) (a1:=I U K) (a2:=I U L) (a3:=MV M) (a4:=Z aa al ac) (a5:=Z B ao bc) (a6:=Z ca cl cc);rw[aL,c3]at this;exact this
     clear r7 i4 r8 i5 k7 ey eo b8 ic il f3 k gl c3;have m3:=bw.o.few;have hm:=Er J K L M aa al ac B ao bc ca cl cc;have es:=f2.o;rw[<-d7.o]at eu es;go_wp2_with (at_builtin;refine uT _ rfl (.tmp 63) (.tmp 65) 29 rfl (l+1) 67 i0 _ 7 112 dx hk h9 ia e8 rfl cO (Z oa (G e) oc) (G e) (e.flatMap cellsOf) rfl eu ⟨w7.heap.size+1,0,N⟩ 1 1 [I U J,I U K,I U L,MV M,Z aa al ac,Z B ao bc,Z ca cl cc] rfl rfl es ?hone ?h63 ?hby ?hbs ?_)
     case hone=>exact hm
     case h63=>unfold maxLen;omega
     case hby=>omega
     case hbs=>first|omega|(simp;omega)
     intro dk E fb c6 dc;rw[d7.o]at c6;have h5:∀a,dk.ownBlock=O a->(Z oa (G e) oc).ownBlock=O a\/W8.heap.size<=a:=λa hg=>by rw[<-d7.o];simpa[aL]using dc a hg
     have le:G e+1+gP t7<=200001:=by have:=fs.o.2;have:=fx.o.1;omega
     obtain⟨fi,i1⟩:=bw.o.item (Vs:=p.map ku) (x:=N1 #[I U J,I U K,I U L,MV M,Z aa al ac,Z B ao bc,Z ca cl cc]) (fo J K L M aa al ac B ao bc ca cl cc) le fb c6 h5;have em:=(c6.block l (ae bw.dbk) (λi=>by have:=(bw.o.own.lt _ i.s).1;omega)).t bw.dbk;have g4:=jR 0 em;have g5:E.cell? ⟨l,0,N⟩=O (Z oa (G e) oc):=iI em;have kp:=H fi;have kb:L1 (BO (bl g) l (E.setCell ⟨l,0,N⟩ dk) t7 dk (e++[N1 #[I U J,I U K,I U L,MV M,Z aa al ac,Z B ao bc,Z ca cl cc]]) (Z ml (G b+1) mm) (b++[p1])):=by
      unfold Hid BO;rcases kr.o with⟨h,g9⟩|⟨d,fd,h1,h2,h3,h4⟩
      ·subst h;rcases d2.o with⟨_,hn,_⟩|⟨h2,_⟩;·exact hn
       ·rw[h2]at g9;exact cg.2.2.1 g9
      ·subst h2;rcases d2.o with⟨hn,_,_⟩|⟨h2,hq⟩;·rw[hn]at h1;cases h1
       ·rw[h2]at h1;refine⟨p++[d],?_,?_,cg.2.2.2 d fd hq h1⟩
        ·rw[bK];exact i1 (Px:=λa=>D.heap.size<=a/\a<w7.heap.size) (λa hg=>⟨Y,λi=>by have:=kk.o a i;omega,λi=>by have:=ko.o a i;omega⟩) (gr d h3) gp
        ·intro ad hy;rcases bG.1 hy with hy|hy;·exact cv ad hy
         ·rw[cU]at hy;subst hy;exact M5 h1 (by have:=ks.o;omega) h4
     have kf:L1 (mS (w.heap.size+1) g (E.setCell ⟨l,0,N⟩ dk)=gP t7):=by obtain⟨fd,hq⟩:=fi.sn;exact hq.mS
     obtain⟨ne,nf,lw⟩:=jp fb;subst lw;clear fi i1 fb c6 dc h5 em eu es f2 gp gr hm;go_wp2;go_roundw
     case rel=>exact⟨t7,_,e++[N1 #[I U J,I U K,I U L,MV M,Z aa al ac,Z B ao bc,Z ca cl cc]],b++[p1],kp,by unfold Hid;rw[ak,ak,kx.o];rfl,kb⟩
     case measure=>rw[HM.o,kf.o];have:=fx.o;have:=dw.o;simp only[gP]at *;omega
 case rest=>
 obtain⟨bd,ov,e,b,t,u,HE⟩:=hcut;obtain⟨w5,ma⟩:∃w5,w5=wc:=⟨_,rfl⟩;subst ma;have d1:=n5 u.dbk;obtain⟨f,cj⟩:∃f,w5.heap.size=f:=⟨_,rfl⟩;obtain⟨W6,c0⟩:∃W6,w5.alloc (Pp #[Z N 0 0,I U t] 31)=W6:=⟨_,rfl⟩;have dn:L1 (LT f w5 W6):=by rw[<-cj,<-c0];exact(aq _ _).alloc (ag _) _
 have ec:L1 (W6.heap[f]?=O (Pp #[Z N 0 0,I U t] 31 (0,0))):=by rw[<-cj,<-c0];exact bn _ _
 have gv:=H c0;have hc:=ae u.dbk;rw[cj]at hc;obtain⟨F,hN⟩:∃F,G e=F:=⟨_,rfl⟩;have mx:F<=200001:=by have:=u.o.few;omega
 have cn:=u.o.own;obtain⟨oa,oc,bt⟩:=jp u.o.own;rw[hN]at bt;have HN:=H hN;clear c0 a7 dv cn
 go_upto_region 18 with fail
 rw[gv.o];clear gv d1
 go_upto_block 2 with fail
 go_cut []from 13 (λwx=>∃(bv:GI) (j:List GI),L1 (LT f w5 wx)/\L1 (wx.heap[f]?=O (Pp #[bv,I U t] 31 (0,0)))/\L1 (wx.ownsRow (f+1) 67 7 bv (G j) (j.flatMap cellsOf))/\L1 (G j=F)/\L1 (∀(q:Nat) (d ad:GI),e[q]?=O d->j[q]?=O ad->BH d ad))
 case first=>
  go_wp2_with fail;go_loopw [11] (λiv wr=>∃(x:Nat) (bv:GI) (j:List GI),x<=F/\iv=I U x/\L1 (LT f w5 wr)/\L1 (wr.heap[f]?=O (Pp #[bv,I U t] 31 (0,0)))/\L1 (wr.ownsRow (f+1) 67 7 bv (G j) (j.flatMap cellsOf))/\L1 (G j=x)/\L1 (∀(q:Nat) (d ad:GI),e[q]?=O d->j[q]?=O ad->BH d ad)) (λiv _=>F-(intOf iv).toNat)
  case atStart=>exact⟨0,_,[],aH _,rfl,dn,ec,aX _ _ _ _,rfl,(λq d ad _ hy=>by simp at hy)⟩
  clear dn ec
  case round=>
   obtain⟨x,bv,j,hi,rfl,HB,HX,HO,HL,HC⟩:=hrel;have en:=(HB.block l hc).t u.dbk;have d0:=mC en;rcases aV hi with hi|hi
   ·subst hi;have m2:¬(x:Int)<(x:Int):=Y;subst bt;clear en;go_wp2
    go_meet
    case rel=>exact⟨bv,j,HB,HX,HO,HL,HC⟩
   ·obtain⟨d,m⟩:∃d,e[x]?=O d:=⟨_,af qq⟩;obtain⟨n,y,z,k3,S,V,T,W,kl,X,P,R,Q,a9⟩:=u.o.frm d (cI m);have g7:∀d∈e,(cellsOf d).length=7:=λd m=>by obtain⟨_,_,_,_,_,_,_,_,_,_,_,_,_,rfl⟩:=u.o.frm d m;rfl
    obtain⟨a,c,c7,ls,la,ln,bi⟩:=Dp u.o.own g7 cO m;have bz:a<f:=by rw[<-cj];exact aC w5 _ (bi 0 _ (by rw[a9];rfl))
    rw[HN.o]at c7;rw[c7]at bt;injection bt with ho1 _ ho2;subst ho1;subst ho2;rw[c7]at d0;have br:∀{ch:L2} {a8:GI},ch.block<f->w5.cell? ch=O a8->wr.cell? ch=O a8:=λ{ch a8} hb h=>by rw[HB.o.cell hb];exact h
    have e0:wr.cell? ⟨a,x*7,N⟩=O (I U n):=br bz (bi 0 _ (by rw[a9];rfl));have e1:=br bz (bi 1 _ (by rw[a9];rfl));have e2:=br bz (bi 2 _ (by rw[a9];rfl));have e3:=br bz (bi 3 _ (by rw[a9];rfl));have e4:=br bz (bi 4 _ (by rw[a9];rfl));have e5:=br bz (bi 5 _ (by rw[a9];rfl));have e6:=br bz (bi 6 _ (by rw[a9];rfl));have m5:(x:Int)<(F:Int):=Y;have k6:=H a9;have k8:=H m;clear br bi g7 ln ls la en m a9 c7;obtain⟨E,dc⟩:∃E,E=wr:=⟨_,rfl⟩;subst dc
    go_upto_if 85 with fail
    go_cut []from 71 to 92 (λwx=>∃A:ByteArray,L1 (A=if n=8 then{data:=#[]} else k3)/\wx=E.alloc (Pp #[I U n,I U y,I U z,MV A,Z S V T,Z W kl X,Z P R Q] 67))
    case first=>
     by_cases h8:n=8
     ·have m8:(n==8)=PV:=eB;have ds:L1 (({data:=#[]}:ByteArray)=if n=8 then{data:=#[]} else k3):=by unfold Hid;rw[ai h8]
      clear h8 e0 e1 e2 e3 e4 e5 e6 d0;go_wp2
      go_meet
      case rel=>exact⟨_,ds,rfl⟩
     ·have m8:(n==8)=P2:=eB;have ds:L1 (k3=if n=8 then{data:=#[]} else k3):=by unfold Hid;rw[ah h8]
      clear h8 e0 e1 e2 e3 e4 e5 e6 d0;go_wp2
      go_meet
      case rel=>exact⟨_,ds,rfl⟩
    case rest=>
    obtain⟨A,kv,b5⟩:=hcut;have b5:=b5.s;subst b5;have b1:LT E.heap.size E (E.alloc (Pp #[I U n,I U y,I U z,MV A,Z S V T,Z W kl X,Z P R Q] 67)):=(aq _ _).alloc (ag _) _;have b2:LT E.heap.size E ((E.alloc (Pp #[I U n,I U y,I U z,MV A,Z S V T,Z W kl X,Z P R Q] 67)).alloc (Pp #[I U n,I U y,I U z,MV A,Z S V T,Z W kl X,Z P R Q] 67)):=b1.alloc eA _;have f0:(E.alloc (Pp #[I U n,I U y,I U z,MV A,Z S V T,Z W kl X,Z P R Q] 67)).cell? ⟨f,0,N⟩=O bv:=iI (mA _ HX);have cn:=wV HO b2;have km:=H cn;have cd:=H b2;have eq:=DZ (W:=E.alloc (Pp #[I U n,I U y,I U z,MV A,Z S V T,Z W kl X,Z P R Q] 67)) (a0:=I U n) (a1:=I U y) (a2:=I U z) (a3:=MV A) (a4:=Z S V T) (a5:=Z W kl X) (a6:=Z P R Q);rw[aL]at eq;have bs:=Er n y z A S V T W kl X P R Q;have nb:=ae HX;obtain⟨va,vc,el⟩:=jp HO;subst el;have m4:G j<=200001:=by rw[HL.o];omega
    clear b1 b2 e0 e1 e2 e3 e4 e5 e6 d0;go_wp2_with (at_builtin;refine uT _ rfl (.tmp 88) (.tmp 90) 29 rfl (f+1) 67 i0 _ 7 112 dx hk h9 ia e8 rfl cO (Z va (G j) vc) (G j) (j.flatMap cellsOf) rfl cn ⟨E.heap.size+1,0,N⟩ 1 1 [I U n,I U y,I U z,MV A,Z S V T,Z W kl X,Z P R Q] rfl rfl eq ?hone ?h63 ?hby ?hbs ?_)
    case hone=>first|exact bs|exact⟨rfl,rfl,rfl,rfl,rfl,rfl,rfl⟩
    case h63=>unfold maxLen;omega
    case hby=>omega
    case hbs=>first|omega|(simp;omega)
    intro bx cb dl b9 l4;have ha:=λa hg=>(HO.lt a hg).1;have ep:∀a,a<=f->cb.heap[a]?=E.heap[a]?:=λa hg=>(b9.block a eB (λi=>by have:=ha a i.s;omega)).t (cd.block a Y);have c4:=(ep f (ag _)).t HX;have g4:=jR 0 c4;have g5:cb.cell? ⟨f,0,N⟩=O (Z va (G j) vc):=iI c4;have i6:L1 (LT f w5 (cb.setCell ⟨f,0,N⟩ bx)):=⟨b9.os.t (cd.o.os.t HB.o.os),b9.tape.t (cd.tape.t HB.tape),b9.output.t (cd.o.output.t HB.o.output),by have h1:=b9.size;have h2:=cd.o.size;have h3:=HB.o.size;show _<=(cb.setCell ⟨f,0,N⟩ bx).heap.size;simp only[aL,World.setCell]at *;simp;omega,λa hg=>by rw[kW _ (show a≠f by omega),ep a Y];exact HB.block a hg⟩;have ky:L1 ((cb.setCell ⟨f,0,N⟩ bx).heap[f]?=O (Pp #[bx,I U t] 31 (0,0))):=by unfold Hid;rw[lV _ c4];rfl
    have ki:L1 ((cb.setCell ⟨f,0,N⟩ bx).ownsRow (f+1) 67 7 bx (j++[N1 #[I U n,I U y,I U z,MV A,Z S V T,Z W kl X,Z P R Q]]).length ((j++[N1 #[I U n,I U y,I U z,MV A,Z S V T,Z W kl X,Z P R Q]]).flatMap cellsOf)):=by unfold Hid;rw[ak,dE];have:=aR (a:=⟨f,0,N⟩) dl (λi=>absurd (dl.lt f i).1 Y) bx;rw[show([N1 #[I U n,I U y,I U z,MV A,Z S V T,Z W kl X,Z P R Q]].flatMap cellsOf)=[I U n,I U y,I U z,MV A,Z S V T,Z W kl X,Z P R Q]from rfl];exact this
    have ji:L1 (∀(q:Nat) (d ad:GI),e[q]?=O d->(j++[N1 #[I U n,I U y,I U z,MV A,Z S V T,Z W kl X,Z P R Q]])[q]?=O ad->BH d ad):=λq x2 y2 e7 bo=>by
     rcases bU q (G j) with c|c
     ·rw[aP c]at bo;exact HC q x2 y2 e7 bo
     ·rw[aF c]at bo;match hj:q-G j,bo with
      |0,bo=>
       have:q=x:=by have:=HL.o;omega
       subst this;rw[k8.o]at e7;cases e7;simp at bo;subst bo;exact⟨n,y,z,k3,S,V,T,W,kl,X,P,R,Q,k6,by rw[kv.o]⟩
      |j2+1,bo=>simp at bo
    obtain⟨nk,nm,k9⟩:=jp dl;subst k9;clear dl b9 l4 ep c4 cn eq bs ha km;go_wp2;go_roundw
    case rel=>exact⟨x+1,_,j++[N1 #[I U n,I U y,I U z,MV A,Z S V T,Z W kl X,Z P R Q]],Y,rfl,i6,ky,ki,by unfold Hid;rw[ak,HL.o];rfl,ji⟩
    case measure=>simp[intOf];omega
 case rest=>
 obtain⟨bv,j,HB,HX,HO,HL,HC⟩:=hcut;obtain⟨D,da⟩:∃D,D=wc:=⟨_,rfl⟩;subst da;have ek:LT w5.heap.size w5 D:=by rw[cj];exact HB
 have dr:L1 ((bd=N/\nw (bl g))\/∃p:List (VT 12×List Nat),bd=O []/\TV (l+1) 12 D ov u6 e (p.map ku)/\(∀d∈p,qb d)/\gT (bl g)=O (p,t)):=by
  rcases HE.o with h|⟨p,h1,h2,h3,h4⟩;·exact P3 h
  ·exact P4 ⟨p,h1,(u.belowS ek).2 h2,h3,h4⟩
 have k:=H (u.belowS (Vs:=[]) ek).1;obtain⟨p6,h6⟩:=k.o.sn;have c2:=h6.c2;have d0:=mC k.dbk;have d1:=n5 k.dbk;have b0:=mC HX;have b1:=n5 HX;have r0:=mC k.rb;have r1:=n5 k.rb;have f0:=jR 0 k.rb;have f1:=jR 1 k.rb;clear ek HE u h6 dn ec;rcases dr.o with⟨ht,lv⟩|⟨p,ht,bm,b4,hf⟩
 ·subst ht;simp only[Option.isNone_none]at c2;subst bt;have o7:gB w.heap.size D ((D.setCell ⟨w.heap.size,0,N⟩ (Z oa F oc)).setCell ⟨w.heap.size,1,N⟩ (I U t)).drew:=(((gB.refl _ _).setCell 0 _).setCell 1 _).t (gB.drew _);have x7:((D.setCell ⟨w.heap.size,0,N⟩ (Z oa F oc)).setCell ⟨w.heap.size,1,N⟩ (I U t)).drew.heap[w.heap.size]?=O (Pp #[Z oa F oc,I U t] 31 (0,0)):=pj k.rb _ _;have kz:=H x7;have cf:=H o7;clear x7 o7;go_wp2_with fail;go_region;generalize ((D.setCell ⟨w.heap.size,0,N⟩ (Z oa F oc)).setCell ⟨w.heap.size,1,N⟩ (I U t)).drew=W7 at *;go_wp2;refine av (v:=OW #[N1 #[Z oa F oc,I U t],OV P2]) ?_ rfl ?_;·exact qD results83 _ _ w.heap.size _ rfl (run_loadVar_row _ w.heap.size 31 31 _ _ _ kz cM rfl aG)
  ·have hb:=k.o.below;exact⟨⟨cf.o.os.t hb.os,cf.tape.t hb.tape,cf.o.output.t hb.output,aA hb.size cf.size,λa hg=>(cf.block a (by have:=hb.size;omega) Y).t (hb.block a hg)⟩,_,P2,rfl,P3 ⟨rfl,lv,_,_,_,_,rfl⟩⟩
 ·subst ht;simp only[Option.isNone_some]at c2;have h0:kG (λa=>l+1<=a) 12 0 (p.map Prod.fst) D bv:=by
   refine⟨j,zP HO (aH _),?_,λx ad mr hy hX=>?_⟩;·rw[aw,HL.o,<-HN.o,bm.1,aw]
   ·rw[aY]at hX;cases cp:p[x]? with
    |none=>rw[cp]at hX;cases hX
    |some b6=>
     rw[cp]at hX;cases hX;have lr:x<G e:=by have:=(cH.1 cp).1;have h2:=bm.1;rw[aw]at h2;omega
     have h7:=af lr;have hv:=bm.2 x e[x] (ku b6) h7 (by rw[aY,cp];rfl);exact gF.m 12 ((HC x e[x] ad h7 hy).vin hv (b4 b6 (cI cp))) (λa h1 h2=>h1.1)
  have fv:L1 (∀bq:Gr,LT D.heap.size D bq->K8 Qe 41 #[N1 #[bv,I U t]] bq λi s=>i=Ps (OV (jb (p.map Prod.fst) t))/\LT bq.heap.size bq s):=λbq hb=>
   NE (h0.keep hb) (λad hy=>by obtain⟨d,m,rfl⟩:=cT.1 hy;exact(b4 d m).1) (by rw[aw];have h1:=bm.1;rw[aw]at h1;have h2:=k.o.few;simp only[gP,aI]at h2;omega)
  have cx:=H bm;have cv:=H b4;have j1:=H hf;obtain⟨va,vc,el⟩:=jp HO;subst el;subst bt;clear h0 bm b4 hf;obtain⟨ID,ee⟩:∃ID,jb (p.map Prod.fst) t=ID:=⟨_,rfl⟩;rw[ee]at fv;have kd:=H ee;clear ee;have l3:=ae k.rb;have l2:=ae k.dbk;go_wp2_with fail;go_region_with (go_at_call 41;go_call (fv _ (by first|exact(aq _ _).drew|exact aq _ _)) as i w8 ⟨rfl,c5⟩;have x8:=(c5.block _ l3).t k.rb;have s0:w8.cell? ⟨w.heap.size,0,N⟩=O (Z N 0 0):=(iI x8);have s1:w8.cell? ⟨w.heap.size,1,N⟩=O (I U 0):=(iI x8);have z0:w8.frozen? ⟨w.heap.size,0,N⟩=P2:=nG x8;have z1:w8.frozen? ⟨w.heap.size,1,N⟩=P2:=nG x8;have x9:=(c5.block _ l2).t k.dbk;have s2:w8.cell? ⟨l,0,N⟩=O (Z oa F oc):=(iI x9);have s3:w8.cell? ⟨l,1,N⟩=O (I U t):=(iI x9);clear x9);all_goals (
   have fu:=H (k.fin (W:=(w8.setCell ⟨w.heap.size,0,N⟩ (Z oa F oc)).setCell ⟨w.heap.size,1,N⟩ (I U t)) ((aq D.heap.size D).drew.t c5) rfl cx cv j1 kd);clear s0 s1 s2 s3 z0 z1 x8 c5;generalize (w8.setCell ⟨w.heap.size,0,N⟩ (Z oa F oc)).setCell ⟨w.heap.size,1,N⟩ (I U t)=W9 at *;go_wp2;refine av (v:=OW #[N1 #[Z oa F oc,I U t],OV ID]) ?_ rfl ?_;·exact qD results83 _ _ w.heap.size _ rfl (run_loadVar_row _ w.heap.size 31 31 _ _ _ fu.1 cM rfl aG)
   ·exact fu.2)
end
def Gd(most:Nat)(a:List Nat):Prop:=G a<=most/\∀b∈a,b<256
def Gd.app{most:Nat}{c b:List Nat}(h:Gd most c)(e:G c+G b<=most)(d:∀a∈b,a<256):Gd most (c++b):=
 ⟨by rw[ak];exact e,λa f=>by
  rcases bG.1 f with h1|h1;·exact h.2 a h1
  ·exact d a h1⟩
def I2{c a:Nat}(h:gI c=O a):a<16:=by
 unfold gI at h;split at h;·cases h;omega
 ·split at h;·cases h;omega
  ·split at h;·cases h;omega
   ·cases h
def Ez{c:List Nat}{e most:Nat}{b a:List Nat}(h:mG c e b=.ok a)(d:Gd most b):Gd most a:=by
 unfold mG at h;split at h;·cases h
 ·cases h;exact d
def I0{k:List Nat}{i:Nat}:∀(d j:Nat) (c a:List Nat),Gd i c->vI k i d j c=.ok a->Gd i a
 |0,j,c,a,_,h=>by cases h
 |d+1,j,c,a,f,h=>by
  simp only[vI]at h;split at h;·cases h
  ·split at h;·exact Ez h f
   ·split at h;·cases h
    ·next o l=>
     have h1:=I2 l;split at h;·cases h
     ·split at h
      ·split at h;·next e=>exact Ez h (f.app vj (λn g=>by simp at g;omega))
       ·cases h
      ·split at h;·cases h
       ·next b m=>
        have h2:=I2 m;split at h;·next e=>exact I0 d _ _ a (f.app vj (λn g=>by simp at g;omega)) h
        ·cases h
def FG{a:List Nat}(d:∀b∈a,b<256)(c:Nat):nth a c<256:=by
 unfold nth;rw[ax];cases h:a[c]? with
 |none=>decide
 |some b=>exact d b (cI h)
def F_{k:List Nat}(c:∀e∈k,e<256){i:Nat}:∀(b j:Nat) (d a:List Nat),Gd i d->rD k i b j d=.ok a->Gd i a
 |0,j,d,a,_,h=>by cases h
 |b+1,j,d,a,f,h=>by
  simp only[rD]at h;split at h;·cases h
  ·split at h
   ·split at h;·cases h
    ·cases h;exact f
   ·split at h
    ·split at h
     ·split at h
      ·next l=>refine F_ c b _ _ a (f.app ?_ (λe g=>c e (dA (dj g)))) h;rw[ay];omega
      ·cases h
     ·cases h
    ·split at h
     ·split at h
      ·next l=>refine F_ c b _ _ a (f.app (by rw[bI];exact l) (λe g=>?_)) h;rw[List.eq_of_mem_replicate g];exact FG c _
      ·cases h
     ·cases h
def Ht{a:Nat}(h:¬4294967296<=a):∀b∈aO a,b<256:=by intro b c;simp only[aO,cQ,List.not_mem_nil,or_false]at c;omega
def DT{m:List Nat}{most:Nat}:∀(b j k i:Nat) (e a:List Nat),Gd most e->aD m most b j k i e=.ok a->Gd most a
 |0,j,k,i,e,a,_,h=>by cases h
 |b+1,j,k,i,e,a,c,h=>by
  simp only[aD]at h;split at h;·cases h
  ·split at h
   ·split at h;·next d=>exact DT b _ _ _ _ a (c.app (by simpa using d) (λl g=>by simp at g;omega)) h
    ·cases h
   ·split at h
    ·split at h
     ·split at h;·cases h
      ·next f=>
       split at h;·next d=>exact DT b _ _ _ _ a (c.app (by simpa[aO]using d) (Ht f)) h
       ·cases h
     ·exact DT b _ _ _ _ a c h
    ·split at h
     ·split at h;·exact Ez h c
      ·split at h;·cases h
       ·next f=>
        split at h
        ·next d=>refine Ez h (c.app ?_ (λl g=>Ht f l (dj g)));rw[ay];omega
        ·cases h
     ·cases h
def yw{d:Nat}{most:Nat}:∀(c:Nat) (a:List Nat),(∀b∈a,b<256)->∀b∈iP d c a,b<256
 |0,a,h=>h
 |c+1,a,h=>by
  unfold iP;refine yw (most:=most) c _ (λb f=>?_);rcases bG.1 f with h1|h1;·exact h b h1
  ·rw[cU]at h1;subst h1;rw[ax];cases e:a[G a-d]? with
   |none=>decide
   |some g=>exact h g (cI e)
def w_{c:iA}{k a:Nat}{r j:List Bool}{f g:List Nat}{b:Bool}(h:gY c k a r f=.ok (b,j,g))(e:Gd a f):Gd a g:=by
 unfold gY at h;split at h;·cases h
 ·split at h
  ·split at h;·next l d=>cases h;exact e.app (by simpa using d) (λm i=>by simp at i;omega)
   ·cases h
  ·split at h;·cases h;exact e
   ·split at h;·cases h
    ·split at h;·cases h
     ·split at h;·cases h
      ·split at h;·cases h
       ·split at h;·cases h
        ·split at h
         ·split at h;·next d=>cases h;exact⟨by rw[mD];exact d,yw (most:=a) _ _ e.2⟩
          ·cases h
         ·cases h
def gR.gd{c:iA}{k most:Nat}{r:List Bool}{b:List Nat}{res:Except Nat (List Bool×List Nat)}(h:gR c k most r b res):Gd most b->∀d a,res=.ok (d,a)->Gd most a:=by
 refine h (λr b res=>Gd most b->∀d a,res=.ok (d,a)->Gd most a) ?_ ?_ ?_;·intro r b l _ _ d a h;cases h
 ·intro r b j i f e d a h;cases h;exact w_ f e
 ·intro r b j i res f g e;exact g (w_ f e)
def xG(r:List Bool)(d:Nat):∀b∈ie r d,b<256:=by
 intro b c;obtain⟨a,_,rfl⟩:=cT.1 c;have h1:=jk ((r.drop (8*a)).take 8);have h2:((r.drop (8*a)).take 8).length<=8:=by rw[ay];omega
 have h3:2^((r.drop (8*a)).take 8).length<=2^8:=aJ Y h2;omega
def Ak{a:Nat}{r f:List Bool}{b c:List Nat}(h:jw a r b=.ok (f,c))(e:Gd a b):Gd a c:=by
 unfold jw at h;split at h;·cases h
 ·split at h;·cases h
  ·split at h;·next d=>cases h;exact e.app (by rw[show(ie _ _).length=_ from by unfold ie;rw[aw,List.length_range]];exact d) (xG _ _)
   ·cases h
def i8.gd{j most:Nat}{r c:List Bool}{g a:List Nat}(h:i8 j most r g (.ok (c,a)))(b:Gd most g):Gd most a:=by
 rcases h with⟨_,h⟩|⟨_,_,h⟩|⟨_,_,h⟩|⟨_,_,h⟩|⟨_,_,h⟩;·cases h
 ·exact Ak h b
 ·exact h.gd b c a rfl
 ·cases f:ix (r.drop 3)with
  |none=>have:=h.1 f;cases this
  |some k=>
   obtain⟨i,d⟩:=k;have h2:=h.2 i d f;by_cases e:jA d (iq (r.drop 3));·exact(h2.2 e).gd b c a rfl
   ·have:=h2.1 e;cases this
 ·cases h
def iy.gd{j most:Nat}{r:List Bool}{a:List Nat}{res:Except Nat (List Bool×List Nat)}(h:iy j most r a res):Gd most a->∀c b,res=.ok (c,b)->Gd most b:=by
 refine h (λr a res=>Gd most a->∀c b,res=.ok (c,b)->Gd most b) ?_ ?_ ?_;·intro r a k _ _ c b h;cases h
 ·intro r a i g e _ d c b h;cases h;exact e.gd d
 ·intro r a i g res e _ f d;exact f (e.gd d)
def lk.gd{most:Nat}{r:List Bool}{a:List Nat}(h:lk most r (.ok a)):Gd most a:=by
 rcases h with⟨d,_,h⟩|⟨c,e,h1,h2⟩;·cases h
 ·unfold lM at h2;split at h2
  ·cases h2;rcases h1 with⟨_,h1⟩|⟨_,h1⟩;·cases h1
   ·exact h1.gd ⟨aH _,λf b=>by cases b⟩ c a rfl
  ·cases h2
def sK{α:Type}(r:Except Nat α):Prop:=∀a,r=.error a->a≠0/\a<=100
def sK.five{α:Type}:sK (α:=α) (.error 5):=λa h=>by cases h;decide
def sK.six{α:Type}:sK (α:=α) (.error 6):=λa h=>by cases h;decide
def sK.ok{α:Type}(a:α):sK (.ok a):=λn h=>by cases h
def JJ{a:List Nat}{c:Nat}{b:List Nat}:sK (mG a c b):=by
 unfold mG;split;·exact .five
 ·exact .ok _
def Cs{d:List Nat}{e:Nat}:∀(a c:Nat) (b:List Nat),sK (vI d e a c b)
 |0,c,b=>.five
 |a+1,c,b=>by
  simp only[vI];repeat' split
  all_goals first|exact .five|exact .six|exact JJ|exact Cs a _ _
def JF{d:List Nat}{e:Nat}:∀(a c:Nat) (b:List Nat),sK (rD d e a c b)
 |0,c,b=>.five
 |a+1,c,b=>by
  simp only[rD];repeat' split
  all_goals first|exact .five|exact .six|exact .ok _|exact JF a _ _
def Hs{e:List Nat}{f:Nat}:∀(a d k b:Nat) (c:List Nat),sK (aD e f a d k b c)
 |0,d,k,b,c=>.five
 |a+1,d,k,b,c=>by
  simp only[aD];repeat' split
  all_goals first|exact .five|exact .six|exact JJ|exact Hs a _ _ _ _
def uI{c:iA}{d a:Nat}{r:List Bool}{b:List Nat}:sK (gY c d a r b):=by
 unfold gY;repeat' split
 all_goals first|exact .five|exact .six|exact .ok _
def gR.ne{c:iA}{j f:Nat}{r:List Bool}{a:List Nat}{b:Except Nat (List Bool×List Nat)}(h:gR c j f r a b):sK b:=by
 refine h (λr a b=>sK b) ?_ ?_ ?_;·intro r a k d l h;cases h;exact uI _ d
 ·intro r a i g d;exact .ok _
 ·intro r a i g b d e;exact e
def Al{a:Nat}{r:List Bool}{b:List Nat}:sK (jw a r b):=by
 unfold jw;repeat' split
 all_goals first|exact .five|exact .six|exact .ok _
def i8.ne{i e:Nat}{r:List Bool}{f:List Nat}{d:Except Nat (List Bool×List Nat)}(h:i8 i e r f d):sK d:=by
 rcases h with⟨_,h⟩|⟨_,_,h⟩|⟨_,_,h⟩|⟨_,_,h⟩|⟨_,_,h⟩;·rw[h];exact .five
 ·rw[<-h];exact Al
 ·exact h.ne
 ·cases c:ix (r.drop 3)with
  |none=>rw[h.1 c];exact .five
  |some j=>
   obtain⟨g,a⟩:=j;have h2:=h.2 g a c;by_cases b:jA a (iq (r.drop 3));·exact(h2.2 b).ne
   ·rw[h2.1 b];exact .five
 ·rw[h];exact .five
def iy.ne{i e:Nat}{r:List Bool}{a:List Nat}{b:Except Nat (List Bool×List Nat)}(h:iy i e r a b):sK b:=by
 refine h (λr a b=>sK b) ?_ ?_ ?_;·intro r a j c;exact c.ne
 ·intro r a g f c _;exact .ok _
 ·intro r a g f b c _ d;exact d
def lk.ne{d:Nat}{r:List Bool}{b:Except Nat (List Nat)}(h:lk d r b):sK b:=by
 rcases h with⟨a,h1,h⟩|⟨g,f,h1,h2⟩
 ·rw[h];have h3:sK (α:=List Bool×List Nat) (.error a):=by
   rcases h1 with⟨_,h1⟩|⟨_,h1⟩;·rw[h1];exact .five
   ·exact h1.ne
  intro e c;cases c;exact h3 a rfl
 ·rw[h2];unfold lM;split;·exact .ok _
  ·exact .five
def mB.ne{c d:Nat}{b:List Nat}{a:Except Nat (List Nat)}(h:mB c d b a):sK a:=by
 rcases h with⟨_,h⟩|⟨_,h⟩|⟨_,h⟩|⟨_,h⟩;·rw[<-h];exact Cs _ _ _
 ·rw[<-h];exact Hs _ _ _ _ _
 ·rw[<-h];exact JF _ _ _
 ·exact h.ne
def mB.small{d f:Nat}{c:List Nat}{b:Except Nat (List Nat)}(h:mB d f c b)(a:Nat)(e:b=.error a):a<=100:=(h.ne a e).2
def mB.gd{e most:Nat}{b c:List Nat}(h:mB e most b (.ok c))(f:∀d∈b,d<256):Gd most c:=by
 have a:Gd most []:=⟨aH _,λd g=>by cases g⟩;rcases h with⟨_,h⟩|⟨_,h⟩|⟨_,h⟩|⟨_,h⟩;·exact I0 _ _ _ _ a h
 ·exact DT _ _ _ _ _ _ a h
 ·exact F_ f _ _ _ _ a h
 ·exact h.gd
