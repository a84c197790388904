import Derived.Test.YtgkljcmjnphpeaaGreatDoorK06
set_option linter.defProp false
set_option linter.unusedVariables false
set_option linter.unusedSimpArgs false
set_option maxHeartbeats 8000000
set_option maxRecDepth 100000
open List renaming length->G
open Go.Value renaming pointer->A3,agg->Bc,bool->Bs,int->I,slice->Z,string->y7
open Go.Obj renaming cells->BV
open Go.Ending renaming returned->BX
open Or renaming inl->C1,inr->C2
open Bool renaming true->CD,false->CS
open Go.Proofs.Tryz renaming prog->DG
open List renaming replicate->DJ
open Option renaming none->N,some->O
open Go.IntKind renaming i64->U
open Go renaming World->vz,Addr->wT,Value->wg,Calls->wh,Ending->xc,Act->xq
open Go.RowKit renaming Below->wm,Hid->wt
open Go.Proofs.Tryz
namespace Go.Proofs.YtgkljcmjnphpeaaGreatDoor
open Go.RowKit
section
variable{w p:vz}
def zD(a:ByteArray)(b:List UInt8):(a.toList==b)=decide (a=⟨b.toArray⟩):=by rw[cH,beq_iff_eq,cL,dI];exact⟨λh=>eC (by rw[<-h,Array.toArray_toList]),λh=>by rw[h]⟩
def Qu(a pl:Int)(s : -9223372036854775808<=a)(t:a<=9223372036854775807)(w:vz):wh DG 118 #[I U a,I U pl] w λk p=>k=BX (Bs (jO a pl))/\p=w:=by
 obtain⟨c,g⟩:∃c,jO a pl=c:=⟨_,rfl⟩;rw[g];unfold jO at g;have d:=H g;by_cases h:0<=pl
 ·have l:decide (0<=pl)=CD:=eS;by_cases i:pl<=5
  ·have m:decide (pl<=5)=CD:=eS;by_cases e : -999999999<=a
   ·have n:decide (-999999999<=a)=CD:=eS;by_cases f:a<=999999999
    ·have q:decide (a<=999999999)=CD:=eS;by_cases j:pl=0
     ·have r:(pl==0)=CD:=eS;have b:wt (c=CD):=by unfold Hid;rw[<-d.o];simp[j,e,f]
      go_in
      go_wp2;go_ret;rw[b.o];exact⟨rfl,rfl⟩
     ·have r:(pl==0)=CS:=eS;have b:wt (c=(a.tmod 10 != 0)):=by unfold Hid;rw[<-d.o];simp only[av j,aH (show 0<=pl/\pl<=5 from⟨h,i⟩),aH (show -999999999<=a/\a<=999999999 from⟨e,f⟩),Bool.false_or,Bool.and_true];rw[cH];simp
      go_in
      go_wp2;all_goals (
       go_ret;rw[b.o];refine⟨?_,rfl⟩;first|rfl|(simp;done)|(simp_all;done))
    ·have q:decide (a<=999999999)=CS:=eS;have b:wt (c=CS):=by unfold Hid;rw[<-d.o];simp[f]
     go_in
     go_wp2;go_ret;rw[b.o];exact⟨rfl,rfl⟩
   ·have n:decide (-999999999<=a)=CS:=eS;have b:wt (c=CS):=by unfold Hid;rw[<-d.o];simp[e]
    go_in
    go_wp2;go_ret;rw[b.o];exact⟨rfl,rfl⟩
  ·have m:decide (pl<=5)=CS:=eS;have b:wt (c=CS):=by unfold Hid;rw[<-d.o];simp[i]
   go_in
   go_wp2;go_ret;rw[b.o];exact⟨rfl,rfl⟩
 ·have l:decide (0<=pl)=CS:=eS;have b:wt (c=CS):=by unfold Hid;rw[<-d.o];simp[h]
  go_in
  go_wp2;go_ret;rw[b.o];exact⟨rfl,rfl⟩
def yF(a:Int):Array wg:=#[Bs (decide (a=1\/a=2\/a=9\/a=3)),Bs (decide (a=3)),Bs (decide (a=4\/a=5\/a=8)),Bs (decide (a=6\/a=7\/a=8)),Bs (decide (a=7\/a=8)),Bs (decide (a=8))]
def Jr(a:Int)(w:vz):wh DG 165 #[I U a] w λd p=>d=BX (Bc (yF a))/\wm w.heap.size w p:=by
 have c:∀(b:Array wg),wm w.heap.size w (w.alloc (BV b 169)):=λb=>(ar _ _).alloc (ag _) _;rcases(show a=0\/a=1\/a=2\/a=3\/a=4\/a=5\/a=6\/a=7\/a=8\/a=9\/(a<0\/10<=a)by omega)with rfl|rfl|rfl|rfl|rfl|rfl|rfl|rfl|rfl|rfl|h
 rotate_right
 ·have e0:(a==0)=CS:=eS;have e1:(a==1)=CS:=eS;have e2:(a==2)=CS:=eS;have f:(a==3)=CS:=eS;have g:(a==4)=CS:=eS;have i:(a==5)=CS:=eS;have j:(a==6)=CS:=eS;have k:(a==7)=CS:=eS;have l:(a==8)=CS:=eS;have m:(a==9)=CS:=eS;have e:yF a=#[Bs CS,Bs CS,Bs CS,Bs CS,Bs CS,Bs CS]:=by unfold yF;simp;omega
  go_in
  go_wp2;exact aK (v:=Bc (yF a)) (by rw[e];exact bk results165 _ _ w.heap.size 169 _ _ _ rfl (heap_alloc_new w _) underlying169 rfl aG) rfl ⟨rfl,c _⟩
 all_goals
  go_in
  go_wp2;exact aK (v:=Bc (yF _)) (bk results165 _ _ w.heap.size 169 _ _ _ rfl (heap_alloc_new w _) underlying169 rfl aG) rfl ⟨rfl,c _⟩
def Ju:∀a b:Bool,(a=CS)\/(a=CD/\b=CS)\/(a=CD/\b=CD):=by decide
def Ge:∀a b c d:Bool,(a=CS)\/(a=CD/\b=CS)\/(a=CD/\b=CD/\c=CS)\/(a=CD/\b=CD/\c=CD/\d=CS)\/(a=CD/\b=CD/\c=CD/\d=CD):=by decide
def DH:∀a b c d e:Bool,(a=CS)\/(a=CD/\b=CS)\/(a=CD/\b=CD/\c=CS)\/(a=CD/\b=CD/\c=CD/\d=CS)\/(a=CD/\b=CD/\c=CD/\d=CD/\e=CS)\/(a=CD/\b=CD/\c=CD/\d=CD/\e=CD):=by decide
def Jw:∀a b c d e f:Bool,(a=CS)\/(a=CD/\b=CS)\/(a=CD/\b=CD/\c=CS)\/(a=CD/\b=CD/\c=CD/\d=CS)\/(a=CD/\b=CD/\c=CD/\d=CD/\e=CS)\/(a=CD/\b=CD/\c=CD/\d=CD/\e=CD/\f=CS)\/(a=CD/\b=CD/\c=CD/\d=CD/\e=CD/\f=CD):=by intro a b c d e f;cases a<;>cases b<;>cases c<;>cases d<;>cases e<;>cases f<;>decide
def QG(y z A:Int)(B:ByteArray)(J:Option wT)(r K:Nat)(L:Option wT)(s M:Nat)(D:Option wT)(q E:Nat)(w:vz)(b1:r<=140737488355328)(b2:s<=140737488355328)(b3:q<=140737488355328)(a b c u3 d e j f k m l g:Bool)
  (t0:(z==0)=j) (t1:(A==0)=f) (t2:(B.toList==[])=k) (t3:((r:Int)==0)=m) (t4:((s:Int)==0)=l) (t5:((q:Int)==0)=g)
  (T:wt (∀C:vz,wh DG 165 #[I U y] C λv p=>v=BX (Bc #[Bs a,Bs b,Bs c,Bs u3,Bs d,Bs e])/\wm C.heap.size C p))
  (V:(a,b,c,u3,d,e)=(CS,CS,CS,CS,CS,CS)\/(a,b,c,u3,d,e)=(CD,CS,CS,CS,CS,CS)\/(a,b,c,u3,d,e)=(CD,CD,CS,CS,CS,CS)\/(a,b,c,u3,d,e)=(CS,CS,CD,CS,CS,CS) \/
   (a,b,c,u3,d,e)=(CS,CS,CS,CD,CS,CS)\/(a,b,c,u3,d,e)=(CS,CS,CS,CD,CD,CS)\/(a,b,c,u3,d,e)=(CS,CS,CD,CD,CD,CD)):wh DG 117 #[Bc #[I U y,I U z,I U A,y7 B,Z J r K,Z L s M,Z D q E]] w λv p=>v=BX (Bs ((a||j)&&(b||f)&&(c||k)&&(u3||m)&&(d||l)&&(e||g)))/\wm w.heap.size w p:=by
 have R:wt (∀Q:Array wg,wm w.heap.size w (w.alloc (BV Q 67))):=λQ=>(ar _ _).alloc (ag _) _;have P:=H V
 go_in
 go_wp2_with fail;apply(T _).m;rintro v t ⟨rfl,F⟩;have W:t.heap[w.heap.size]?=O (BV #[I U y,I U z,I U A,y7 B,Z J r K,Z L s M,Z D q E] 67 (0,0)):=by rw[F.block _ cO];exact bn _ _
 have aa:w.heap.size<t.heap.size:=by have:=F.size;simp at this;omega
 have S:=H ((R _).t (F.m cO))
 go_upto_region 2 with(fail)
 obtain⟨u,x⟩:∃u,t.alloc (BV #[Bs a,Bs b,Bs c,Bs u3,Bs d,Bs e] 169)=u:=⟨_,rfl⟩;have n:u.heap[w.heap.size]?=O (BV #[I U y,I U z,I U A,y7 B,Z J r K,Z L s M,Z D q E] 67 (0,0)):=by rw[<-x];exact nt _ W
 have X:u.heap[t.heap.size]?=O (BV #[Bs a,Bs b,Bs c,Bs u3,Bs d,Bs e] 169 (0,0)):=by rw[<-x];exact bn _ _
 have i:wt (wm w.heap.size w u):=by unfold Hid;rw[<-x];exact S.alloc Y _
 rw[x];generalize t.heap.size=ub at *;obtain⟨x0,x1,x2,x3,x4,x5⟩:=I9 X;have y1:=rU n;have y2:=yB n;have y3:=yg n;have y4:=vK n;have y5:=uO n;have y6:=vL n;rcases P.o with h|h|h|h|h|h|h<;>cases h<;>clear P;·rcases Jw j f k m l g with rfl|⟨rfl,rfl⟩|⟨rfl,rfl,rfl⟩|⟨rfl,rfl,rfl,rfl⟩|⟨rfl,rfl,rfl,rfl,rfl⟩|⟨rfl,rfl,rfl,rfl,rfl,rfl⟩|⟨rfl,rfl,rfl,rfl,rfl,rfl⟩<;>(go_wp2;go_ret;exact⟨rfl,i⟩)
 ·rcases DH f k m l g with rfl|⟨rfl,rfl⟩|⟨rfl,rfl,rfl⟩|⟨rfl,rfl,rfl,rfl⟩|⟨rfl,rfl,rfl,rfl,rfl⟩|⟨rfl,rfl,rfl,rfl,rfl⟩<;>(go_wp2;go_ret;exact⟨rfl,i⟩)
 ·rcases Ge k m l g with rfl|⟨rfl,rfl⟩|⟨rfl,rfl,rfl⟩|⟨rfl,rfl,rfl,rfl⟩|⟨rfl,rfl,rfl,rfl⟩<;>(go_wp2;go_ret;exact⟨rfl,i⟩)
 ·rcases DH j f m l g with rfl|⟨rfl,rfl⟩|⟨rfl,rfl,rfl⟩|⟨rfl,rfl,rfl,rfl⟩|⟨rfl,rfl,rfl,rfl,rfl⟩|⟨rfl,rfl,rfl,rfl,rfl⟩<;>(go_wp2;go_ret;exact⟨rfl,i⟩)
 ·rcases DH j f k l g with rfl|⟨rfl,rfl⟩|⟨rfl,rfl,rfl⟩|⟨rfl,rfl,rfl,rfl⟩|⟨rfl,rfl,rfl,rfl,rfl⟩|⟨rfl,rfl,rfl,rfl,rfl⟩<;>(go_wp2;go_ret;exact⟨rfl,i⟩)
 ·rcases Ge j f k g with rfl|⟨rfl,rfl⟩|⟨rfl,rfl,rfl⟩|⟨rfl,rfl,rfl,rfl⟩|⟨rfl,rfl,rfl,rfl⟩<;>(go_wp2;go_ret;exact⟨rfl,i⟩)
 ·rcases Ju j f with rfl|⟨rfl,rfl⟩|⟨rfl,rfl⟩<;>(go_wp2;go_ret;exact⟨rfl,i⟩)
def QD(a g i:Int)(c:ByteArray)(n:Option wT)(e o:Nat)(q:Option wT)(f r:Nat)(l:Option wT)(d m:Nat)(w:vz)(s:e<=140737488355328)(t:f<=140737488355328)(u:d<=140737488355328):wh DG 117 #[Bc #[I U a,I U g,I U i,y7 c,Z n e o,Z q f r,Z l d m]] w λk p=>k=BX (Bs (oe a g i c.size e f d))/\wm w.heap.size w p:=by
 have j:=Jr a;unfold yF at j;refine(QG a g i c n e o q f r l d m w s t u _ _ _ _ _ _ _ _ _ _ _ _ rfl rfl rfl rfl rfl rfl (H j) ?_).m ?_
 ·rcases(show a=1\/a=2\/a=3\/a=4\/a=5\/a=6\/a=7\/a=8\/a=9\/(a≠1/\a≠2/\a≠3/\a≠4/\a≠5/\a≠6/\a≠7/\a≠8/\a≠9)by omega)with rfl|rfl|rfl|rfl|rfl|rfl|rfl|rfl|rfl|h;all_goals first|(simp;done)|simp[h]
 ·rintro k p ⟨rfl,v⟩;refine⟨?_,v⟩;unfold oe;have e0:∀b:Int,(b==0)=decide (b=0):=λb=>by rw[cH];simp
  have e1:(c.toList==[])=decide (c.size=0):=by
   rw[zD,bO];constructor;·intro h;rw[h];rfl
   ·intro h;exact eC (Array.eq_empty_of_size_eq_zero h)
  have e2:∀b:Nat,((b:Int)==0)=decide (b=0):=λb=>by rw[cH,beq_iff_eq,cL];omega
  rw[e0,e0,e1,e2,e2,e2]
def Jv:∀a b c d:Bool,(a=CS)\/(a=CD/\b=CD)\/(a=CD/\b=CS/\c=CD)\/(a=CD/\b=CS/\c=CS/\d=CD)\/(a=CD/\b=CS/\c=CS/\d=CS):=by decide
def QA{a:ByteArray}{e f g:Bool}(b:(a.toList==[76,101,110,103,116,104])=e)(c:(a.toList==[70,105,108,116,101,114])=f)(d:(a.toList==[68,101,99,111,100,101,80,97,114,109,115])=g):lj a=(e||f||g):=by rw[zD]at b c d;unfold lj;rw[<-b,<-c,<-d]
def Qv{a6:Nat->Prop}{T V W:Int}{i:ByteArray}{R:Option wT}{k S:Nat}{x:Option wT}{B:Nat}{z:Option wT}{K:Nat}{d:List ByteArray}{j:List Int}(a8:n8 a6 w x d)(bc:q8 a6 w z j)(hi:k<=140737488355328)(a7:G d<=140737488355328)(bb:G j<=140737488355328)(A:∀e∈d,e.size<=140737488355328)(ht:i.size<=140737488355328):wh DG 121 #[Bc #[I U T,I U V,I U W,y7 i,Z R k S,Z x (G d) B,Z z (G j) K]] w λac p=>ac=BX (Bs (jP i.size k d j))/\wm w.heap.size w p:=by
 have HK:=H a8;have a9:=H bc;have B1:wt (∀r,wm w.heap.size w (w.alloc (BV r 67))):=λr=>(ar _ _).alloc (ag _) _;have aa:wt (∀r,wh DG 120 #[Z x (G d) B,I U (k:Nat)] (w.alloc (BV r 67)) λac p=>ac=BX (Bs (i9 d k))/\∃f,p=(w.alloc (BV r 67)).drewN f):=λr=>LJ (a8.keep λL _ hg=>(B1 r).block L hg) a7 hi A
 obtain⟨ao,hR⟩:∃ao,jP i.size k d j=ao:=⟨_,rfl⟩;rw[hR];have E:=H hR;clear hR;unfold jP at E;obtain⟨l,hn⟩:∃l,G d=l:=⟨_,rfl⟩;obtain⟨a,hf⟩:∃a,G j=a:=⟨_,rfl⟩;have bm:l<=140737488355328:=Y;have bd:a<=140737488355328:=Y;rw[hn,hf];rw[hf]at E;rw[hn]at aa;generalize i9 d k=al at E aa;have HN:=H hn;have X:=H hf;clear hn hf a7 bb;obtain⟨o,a0⟩:∃o,(al&&d.all λe=> !lj e)=o:=⟨_,rfl⟩;obtain⟨q,a1⟩:∃q,(o&&j.all λa=>decide (1<=a/\a<=4))=q:=⟨_,rfl⟩;have a5:wt ((q&&decide (i.size<=20000)&&decide (a<=4))=ao):=by unfold Hid;rw[<-E.o,<-a1,<-a0];cases al<;>cases decide (i.size<=20000)<;>cases decide (a<=4)<;>simp
 have H1:=H a0;have H2:=H a1;clear a0 a1 E;have a4:wt ((w.alloc (BV #[I U T,I U V,I U W,y7 i,Z R k S,Z x l B,Z z a K] 67)).heap[w.heap.size]?=O (BV #[I U T,I U V,I U W,y7 i,Z R k S,Z x l B,Z z a K] 67 (0,0))):=bn _ _
 go_in
 go_wp2_with fail;apply(aa _).m;rintro ac w2 ⟨rfl,mm,a2⟩;have y:wt (wm w.heap.size w w2):=by unfold Hid;have b:=B1.o #[I U T,I U V,I U W,y7 i,Z R k S,Z x l B,Z z a K];rw[a2];exact⟨b.os,b.tape,b.output,b.size,b.block⟩
 have ad:w2.heap[w.heap.size]?=O (BV #[I U T,I U V,I U W,y7 i,Z R k S,Z x l B,Z z a K] 67 (0,0)):=by rw[a2];exact a4
 have d3:=yg ad;have d5:=uO ad;have d6:=vL ad;clear a2 ad a4 aa B1;go_wp2;go_loopw [3,4] (λb v wr=>∃(f:Nat) (C:Bool),f<=l/\b=Bs C/\v=I U f/\wr=w2/\wt ((C&&(d.drop f).all λe=> !lj e)=o)) (λb v _=>l-(intOf v).toNat)
 case atStart=>exact⟨0,al,aw _,rfl,rfl,rfl,H1⟩
 case round=>
  obtain⟨f,C,u,rfl,rfl,rfl,F⟩:=hrel;rcases aC u with u|u
  ·subst u;have e2:=cY (by rw[HN.o];exact ag _);have hx:o=C:=by rw[<-F.o,e2];simp
   subst hx;clear F e2;go_wp2;go_loopw [3,5] (λb v wx=>∃(c:Nat) (D:Bool),c<=a/\b=Bs D/\v=I U c/\wx=wr/\wt ((D&&(j.drop c).all λa=>decide (1<=a/\a<=4))=q)) (λb v _=>a-(intOf v).toNat)
   case atStart=>exact⟨0,o,aw _,rfl,rfl,rfl,H2⟩
   case round=>
    obtain⟨c,D,t,rfl,rfl,rfl,J⟩:=hrel;rcases aC t with t|t
    ·subst t;have e2:=cY (by rw[X.o];exact ag _);have hy:q=D:=by rw[<-J.o,e2];simp
     subst hy;clear J e2;have m:=H a5.s;clear a5;rcases Bool.eq_false_or_eq_true q with rfl|rfl
     ·by_cases M:i.size<=20000
      ·have t1:(i.size:Int)<=20000:=Y;rw[aH M]at m;by_cases P:c<=4
       ·have t2:(c:Int)<=4:=Y;rw[aH P]at m;go_wp2;go_ret;exact⟨by rw[m.o];rfl,y⟩
       ·have t2:¬(c:Int)<=4:=Y;rw[av P]at m;go_wp2;go_ret;exact⟨by rw[m.o];rfl,y⟩
      ·have t1:¬(i.size:Int)<=20000:=Y;rw[av M]at m;go_wp2;go_ret;exact⟨by rw[m.o];rfl,y⟩
     ·go_wp2;go_ret;exact⟨by rw[m.o];rfl,y⟩
    ·obtain⟨g,ha⟩:∃g,j[c]?=O g:=⟨_,af (by rw[X.o];exact t)⟩;have Q:j.drop c=g::j.drop (c+1):=by rw[b_ (by rw[X.o];exact t)];congr 1;rw[af (by rw[X.o];exact t)]at ha;simpa using ha
     rw[Q,dD]at J;obtain⟨L,a3,rfl,_,s⟩:=a9.o c g ha;have dk:wr.cell? ⟨L,a3+c,N⟩=O (I U g):=by rw[y.o.cell (aA w _ s)];exact s
     have bf:(c:Int)<(a:Int):=Y;clear ha Q s;have n:wt ((D&&decide (1<=g/\g<=4)&&(j.drop (c+1)).all λa=>decide (1<=a/\a<=4))=q):=by unfold Hid;rw[<-J.o,Bool.and_assoc]
     clear J;cases D with
     |false=>
      go_wp2;go_roundw
      case rel=>exact⟨c+1,CS,Y,rfl,by first|rfl|(congr 1),by trivial,n⟩
      case measure=>exact eT
     |true=>
      by_cases M:1<=g
      ·have t1:(1:Int)<=g:=Y;by_cases P:g<=4
       ·have t2:g<=4:=Y;rw[aH ⟨M,P⟩]at n;go_wp2;go_roundw
        case rel=>exact⟨c+1,CD,Y,rfl,by first|rfl|(congr 1),by trivial,n⟩
        case measure=>exact eT
       ·have t2:¬g<=4:=Y;rw[av (λh=>P h.2)]at n;go_wp2;go_roundw
        case rel=>exact⟨c+1,CS,Y,rfl,by first|rfl|(congr 1),by trivial,n⟩
        case measure=>exact eT
      ·have t1:¬(1:Int)<=g:=Y;rw[av (λh=>M h.1)]at n;go_wp2;go_roundw
       case rel=>exact⟨c+1,CS,Y,rfl,by first|rfl|(congr 1),by trivial,n⟩
       case measure=>exact eT
  ·obtain⟨e,A⟩:∃e,d[f]?=O e:=⟨_,af (by rw[HN.o];exact u)⟩;have Q:d.drop f=e::d.drop (f+1):=by rw[b_ (by rw[HN.o];exact u)];congr 1;rw[af (by rw[HN.o];exact u)]at A;simpa using A
   rw[Q,dD]at F;obtain⟨L,a3,rfl,_,s⟩:=HK.o f e A;have dk:wr.cell? ⟨L,a3+f,N⟩=O (y7 e):=by rw[y.o.cell (aA w _ s)];exact s
   have bh:(f:Int)<(l:Int):=Y;clear A Q s;obtain⟨x1,c1⟩:∃x1,(e.toList==[76,101,110,103,116,104])=x1:=⟨_,rfl⟩;obtain⟨x2,c2⟩:∃x2,(e.toList==[70,105,108,116,101,114])=x2:=⟨_,rfl⟩;obtain⟨x3,c3⟩:∃x3,(e.toList==[68,101,99,111,100,101,80,97,114,109,115])=x3:=⟨_,rfl⟩;have ba:wt ((C && !(x1||x2||x3)&&(d.drop (f+1)).all λe=> !lj e)=o):=by unfold Hid;rw[<-F.o,QA c1 c2 c3,Bool.and_assoc]
   clear F;rcases Jv C x1 x2 x3 with rfl|⟨rfl,rfl⟩|⟨rfl,rfl,rfl⟩|⟨rfl,rfl,rfl,rfl⟩|⟨rfl,rfl,rfl,rfl⟩;all_goals (
    go_wp2;go_roundw
    case rel=>exact⟨f+1,_,Y,rfl,by first|rfl|(congr 1),by trivial,ba⟩
    case measure=>exact eT)
def oU(a:Nat)(left:Int)(w:vz):Prop:=w.heap[a]?=O (BV #[I U left] 3 (0,0))
def FP(a:Nat)(b:Bool)(d:Nat)(w:vz)(c:xc)(p:vz):Prop:=c=BX (Bs b)/\iJ a w p/\(b=CD->oU a d p)
def tV(b:Nat)(d:Int)(w:vz)(c:Array wg)(a:vz):Prop:=iJ b w a/\a.heap[w.heap.size]?=O (BV c 67 (0,0))/\oU b d a
def tV.below{d:Nat}{e:Int}{c:Array wg}{a f:vz}(h:tV d e w c a)(b:wm a.heap.size a f):tV d e w c f:=by
 refine⟨h.1.t (.of_below b),?_,?_⟩;·rw[b.block _ (ap h.2.1)];exact h.2.1
 ·unfold oU;rw[b.block _ (ap h.2.2)];exact h.2.2
def tV.drewN{b:Nat}{c:Int}{a:Array wg}{e:vz}(h:tV b c w a e)(d:Nat):tV b c w a (e.drewN d):=⟨h.1.drewN d,h.2.1,h.2.2⟩
def tV.cell{e:Nat}{g:Int}{a:Array wg}{d:vz}(h:tV e g w a d){b:Nat}{c:wg}(f:a[b]?=O c):d.cell? ⟨w.heap.size,b,N⟩=O c:=by rw[cb h.2.1];simpa using f
def vp(g k f d left c:Nat)(e:Bool)(b:List (GT k))(h:vz):Prop:=∃a:Nat,a<=2000/\oU d (a:Int) h/\(b.all (jw g k f)&&decide ((b.map (ie k)).sum<=a))=e/\a+c=left+(b.map (ie k)).sum
def I1(a f k:Nat):Prop:=∀(b:vz) (d:Nat->Prop) (g:wg) (V:GT k) (c left:Nat),1<=c->c<=13->left<=2000->ku d k b g V->(∀e,d e->e≠a)->GB V->oU a left b ->wh DG 81 #[g,I U (c:Nat),I U f,A3 (O ⟨a,0,N⟩)] b (FP a (jw f k c V&&decide (ie k V<=left)) (left-ie k V) b)
def ku.onlyX{b:Nat->Prop}{k c:Nat}{d:wg}{V:GT k}(h:ku b k w d V)(e:∀a,b a->a≠c)(i:iJ c w p):ku b k p d V:=
 ku.keep k h (λa f g=>i.block a g (e a f))
def Qw{b k a:Nat}{V:GT (k+1)}:jw b (k+1) a V=(decide (a<=12)&&(j5 (α:=GT k) V&&(mD (α:=GT k) b a V&&(GN.items (α:=GT k) V).all (jw b k (a+1))))):=rfl
def Qx{g r k:Nat}(c9:r<=100000)(ih:I1 g r k):I1 g r (k+1):=by
 intro w a2 cj V i left c4 c5 c7 hv hP cq bd;obtain⟨⟨b0,b1,b2⟩,b3,b4,b5,b6,b7,b8,b9⟩:=cq;obtain⟨ia,ic,ka,kc,fa,fc,ao,cf,cg,ce⟩:=ku.parts (V:=V) hv;have da:=ap bd;unfold qf at ao;have a7:wt (∀c:vz,iJ g w c->n8 a2 c ka (GN.keys (α:=GT k) V)):=λc s=>cg.keep λv hg bc=>s.block v bc (hP v hg);have br:wt (∀c:vz,iJ g w c->q8 a2 c fa (GN.filters (α:=GT k) V)):=λc s=>ce.keep λv hg bc=>s.block v bc (hP v hg);have bs:wt (∀c:vz,iJ g w c->wh DG 117 #[cj] c λx p=>x=BX (Bs (j5 (α:=GT k) V))/\wm c.heap.size c p):=
  λc s=>by rw[ao];exact QD _ _ _ _ _ _ _ _ _ _ _ _ _ c b4 b5 b6
 have bw:wt (∀c:vz,iJ g w c->wh DG 121 #[cj] c λx p=>x=BX (Bs (jP (GN.text (α:=GT k) V).size (GN.items (α:=GT k) V).length (GN.keys (α:=GT k) V) (GN.filters (α:=GT k) V)))/\wm c.heap.size c p):=
  λc s=>by rw[ao];exact Qv (a7 c s) (br c s) b4 b5 b6 b7 b3
 have a6:wt (∀c:vz,iJ g w c->wh DG 120 #[Z ka (GN.keys (α:=GT k) V).length kc,I U ((GN.items (α:=GT k) V).length:Nat)] c λx p=>x=BX (Bs (i9 (GN.keys (α:=GT k) V) (GN.items (α:=GT k) V).length))/\∃l,p=c.drewN l):=
  λc s=>LJ (a7 c s) b5 b4 b7
 have bt:=H (λc=>LK _ b3 c);have bv:=H (λc=>Qu _ (GN.places (α:=GT k) V) b1.1 b1.2 c);obtain⟨u,hR⟩:∃u,(jw r (k+1) i V&&decide (ie (k+1) V<=left))=u:=⟨_,rfl⟩;rw[hR];obtain⟨y,hC⟩:∃y,ie (k+1) V=y:=⟨_,rfl⟩;rw[hC]at hR ⊢;rw[Qw]at hR;have HC:wt (y=1+((GN.items (α:=GT k) V).map (ie k)).sum):=hC.s;have K:=H hR;have a0:wt (i<=12->∀(c:vz) (M:wg) (m:GT k) (q:Nat),q<=2000->iJ g w c->ku a2 k w M m->GB m->oU g q c ->wh DG 81 #[M,I U ((i:Int)+1),I U r,A3 (O ⟨g,0,N⟩)] c (FP g (jw r k (i+1) m&&decide (ie k m<=q)) (q-ie k m) c)):=λal c M m q o s Q hb hl=>ih c a2 M m (i+1) q Y Y o (ku.onlyX Q hP s) hP hb hl
 have bx:=H cf;have bm:=H b9;have a9:=H bd;obtain⟨j,hO⟩:∃j,mD (α:=GT k) r i V=j:=⟨_,rfl⟩;rw[hO]at K;unfold mD jT at hO;have t:=H hO;clear hO hR hC hv bd ih cf cg ce b9 b8 b7 a7 br;generalize j5 (α:=GT k) V=BB at *;generalize jP (GN.text (α:=GT k) V).size (GN.items (α:=GT k) V).length (GN.keys (α:=GT k) V) (GN.filters (α:=GT k) V)=ST at *;generalize i9 (GN.keys (α:=GT k) V) (GN.items (α:=GT k) V).length=DK at *;generalize i7 (GN.text (α:=GT k) V)=NM at *;generalize jO (GN.n (α:=GT k) V) (GN.places (α:=GT k) V)=RL at *;generalize GN.n (α:=GT k) V=e at *;generalize GN.places (α:=GT k) V=pp at *;generalize GN.text (α:=GT k) V=tt at *;generalize (GN.filters (α:=GT k) V).length=fl at *;generalize (GN.keys (α:=GT k) V).length=kl at *;generalize GN.kind (α:=GT k) V=d at *;generalize GN.items (α:=GT k) V=P at *;obtain⟨E,a3⟩:∃E,G P=E:=⟨_,rfl⟩;have a1:=H a3;rw[a3]at ao b4;rw[a3]at a6;subst ao;clear a3;obtain⟨F,bb⟩:∃F:Array wg,#[I U d,I U e,I U pp,y7 tt,Z ia E ic,Z ka kl kc,Z fa fl fc]=F:=⟨_,rfl⟩;have c3:=nw a9;have c6:=lQ 0 a9;have ba:wt (tV g ((left:Int)-1) w F ((w.setCell ⟨g,0,N⟩ (I U ((left:Int)-1))).alloc (BV F 67))):=by
  refine⟨((iJ.refl _ _).setCell 0 _).t (.of_below ((ar _ _).alloc (ag _) _)),?_,?_⟩
  ·have:=bn (w.setCell ⟨g,0,N⟩ (I U ((left:Int)-1))) (BV F 67);rw[show(w.setCell ⟨g,0,N⟩ (I U ((left:Int)-1))).heap.size=w.heap.size by simp[World.setCell]]at this;exact this
  ·exact nt _ (by rw[nu _ a9.o];rfl)
 have z:=H bb;rw[<-bb]at ba;clear bb
 go_in
 go_wp2_with fail;apply(bs _ ba.1).m;rintro x L ⟨rfl,hb⟩;have f:=H (ba.below hb);rw[z.o]at f;have dL:=nw f.2.2;have S:∀X aa,F[X]?=O aa->L.cell? ⟨w.heap.size,X,N⟩=O aa:=λX aa h=>f.cell h;have d0:L.cell? ⟨w.heap.size,0,N⟩=O (I U d):=S 0 _ (by rw[<-z.o];rfl);have d1:L.cell? ⟨w.heap.size,1,N⟩=O (I U e):=S 1 _ (by rw[<-z.o];rfl);have d2:L.cell? ⟨w.heap.size,2,N⟩=O (I U pp):=S 2 _ (by rw[<-z.o];rfl);have d3:L.cell? ⟨w.heap.size,3,N⟩=O (y7 tt):=S 3 _ (by rw[<-z.o];rfl);have d4:L.cell? ⟨w.heap.size,4,N⟩=O (Z ia E ic):=S 4 _ (by rw[<-z.o];rfl);have d5:L.cell? ⟨w.heap.size,5,N⟩=O (Z ka kl kc):=S 5 _ (by rw[<-z.o];rfl);have d6:L.cell? ⟨w.heap.size,6,N⟩=O (Z fa fl fc):=S 6 _ (by rw[<-z.o];rfl);have cl:wt (1<=y):=by unfold Hid;rw[HC.o];omega
 by_cases h0:left=0
 ·have t0:(left:Int)-1<0:=Y;have a:wt (u=CS):=by have:=cl.o;unfold Hid;rw[<-K.o,av (show ¬y<=left by omega),Bool.and_false]
  go_wp2;go_ret;rw[a.o];exact⟨rfl,f.1,λh=>by cases h⟩
 have t0:¬(left:Int)-1<0:=Y;by_cases al:i<=12;rotate_left
 ·have t1:(12:Int)<(i:Int):=Y;have a:wt (u=CS):=by unfold Hid;rw[<-K.o,av al];rfl
  clear al;go_wp2;go_ret;rw[a.o];exact⟨rfl,f.1,λh=>by cases h⟩
 have t1:¬(12:Int)<(i:Int):=Y;rw[aH al,cC]at K;have a0:=H (a0 al);cases BB with
 |false=>have a:wt (u=CS):=K.o.s;go_wp2;go_ret;rw[a.o];exact⟨rfl,f.1,λh=>by cases h⟩
 |true=>
  rw[cC]at K
  go_upto_region 5 with fail
  obtain⟨KK,C⟩:∃KK,decide (0<=d/\d<=9)=KK:=⟨_,rfl⟩;go_cut [10]from 32 to 39 (λrv wx=>rv=Bs KK/\wx=L)
  case first=>
   by_cases o:0<=d
   ·by_cases B:d<=9
    ·rw[aH ⟨o,B⟩]at C;subst C;go_wp2
     go_meet
     case rel=>exact⟨rfl,rfl⟩
    ·rw[av (λh=>B h.2)]at C;subst C;go_wp2
     go_meet
     case rel=>exact⟨rfl,rfl⟩
   ·rw[av (λh=>o h.1)]at C;subst C;go_wp2
    go_meet
    case rel=>exact⟨rfl,rfl⟩
  case rest=>
  obtain⟨rfl,hw⟩:=hcut;have hw:=hw.s;subst hw
  go_upto_block 0 with fail
  go_cut [10]from 42 to 107 (λrv wx=>rv=Bs j/\wt (tV g ((left:Int)-1) w F wx))
  case first=>
   clear z a0 bx bm;rcases(show(d<0\/9<d)\/d=0\/d=1\/d=2\/d=3\/d=4\/d=5\/d=6\/d=7\/d=8\/d=9 by omega)with cv|rfl|rfl|rfl|rfl|rfl|rfl|rfl|rfl|rfl|rfl
   ·rw[av (show ¬(0<=d/\d<=9)by omega)]at C;subst C;have a:wt (j=CS):=by unfold Hid;rw[<-t.o];rw[aj (show ¬(d=0\/d=6\/d=9)by omega),aj (show ¬d=1 by omega),aj (show ¬d=2 by omega),aj (show ¬d=3 by omega),aj (show ¬d=4 by omega),aj (show ¬d=5 by omega),aj (show ¬d=7 by omega),aj (show ¬d=8 by omega),Bool.and_false]
    have e1:(d==1)=CS:=eS;have e2:(d==2)=CS:=eS;have e3:(d==3)=CS:=eS;have e4:(d==4)=CS:=eS;have e5:(d==5)=CS:=eS;have e7:(d==7)=CS:=eS;have e8:(d==8)=CS:=eS;have e9:(d==9)=CS:=eS;clear cv;go_wp2
    go_meet
    case rel=>exact⟨by rw[a.o],f⟩
   all_goals (rw[aH Y]at C;subst C)
   ·have a:wt (j=CD):=by unfold Hid;rw[<-t.o];simp
    go_wp2
    go_meet
    case rel=>exact⟨by rw[a.o],f⟩
   ·have a:wt (j=decide (0<=e/\e<=1)):=by unfold Hid;rw[<-t.o];simp
    by_cases o:e=0
    ·rw[aH (show 0<=e/\e<=1 by omega)]at a;have e1:(e==0)=CD:=by simpa using o
     clear o;go_wp2
     go_meet
     case rel=>exact⟨by rw[a.o],f⟩
    ·have e1:(e==0)=CS:=by simpa using o
     by_cases B:e=1
     ·rw[aH (show 0<=e/\e<=1 by omega)]at a;have e2:(e==1)=CD:=by simpa using B
      clear B;go_wp2
      go_meet
      case rel=>exact⟨by rw[a.o],f⟩
     ·rw[av (show ¬(0<=e/\e<=1)by omega)]at a;have e2:(e==1)=CS:=by simpa using B
      go_wp2
      go_meet
      case rel=>exact⟨by rw[a.o],f⟩
   ·have a:wt (j=decide (-2147483648<=e/\e<=2147483647)):=by unfold Hid;rw[<-t.o];simp
    by_cases o : -2147483648<=e
    ·by_cases B:e<2147483648
     ·rw[aH (show -2147483648<=e/\e<=2147483647 by omega)]at a;go_wp2
      go_meet
      case rel=>exact⟨by rw[a.o],f⟩
     ·rw[av (show ¬(-2147483648<=e/\e<=2147483647)by omega)]at a;go_wp2
      go_meet
      case rel=>exact⟨by rw[a.o],f⟩
    ·rw[av (show ¬(-2147483648<=e/\e<=2147483647)by omega)]at a;go_wp2
     go_meet
     case rel=>exact⟨by rw[a.o],f⟩
   ·have a:wt (j=RL):=by unfold Hid;rw[<-t.o];simp
    go_wp2_with fail;apply(bv _).m;rintro x w3 ⟨rfl,D⟩;have D:=D.s;subst D;go_wp2
    go_meet
    case rel=>exact⟨by rw[a.o],f⟩
   ·have a:wt (j=NM):=by unfold Hid;rw[<-t.o];simp
    go_wp2_with fail;apply(bt _).m;rintro x w3 ⟨rfl,D⟩;have D:=D.s;subst D;go_wp2
    go_meet
    case rel=>exact⟨by rw[a.o],f⟩
   ·have a:wt (j=decide (tt.size<=4000)):=by unfold Hid;rw[<-t.o];simp
    have HE:wt (decide (tt.size<=4000)=decide ((tt.size:Int)<=4000)):=by unfold Hid;rw[bO];omega
    go_wp2
    go_meet
    case rel=>exact⟨by rw[a.o,HE.o],f⟩
   ·have a:wt (j=CD):=by unfold Hid;rw[<-t.o];simp
    go_wp2
    go_meet
    case rel=>exact⟨by rw[a.o],f⟩
   ·have a:wt (j=DK):=by unfold Hid;rw[<-t.o];simp
    go_wp2_with fail;apply(a6 _ f.1).m;rintro x w3 ⟨rfl,m3,D⟩;have A:wt (tV g ((left:Int)-1) w F w3):=by unfold Hid;rw[D];exact f.drewN m3
    clear D d0 d1 d2 d3 d4 d5 d6 dL;go_wp2
    go_meet
    case rel=>exact⟨by rw[a.o],A⟩
   ·have a:wt (j=(!decide (1<i)&&ST)):=by unfold Hid;rw[<-t.o];simp
    go_wp2_with fail;apply(bw _ f.1).m;rintro x w3 ⟨rfl,b3⟩;have A:=H (f.below b3);clear b3 d0 d1 d2 d3 d4 d5 d6 dL;cases ST with
    |false=>
     rw[Bool.and_false]at a;go_wp2
     go_meet
     case rel=>exact⟨by rw[a.o],A⟩
    |true=>
     rw[Bool.and_true]at a;by_cases o:i=1
     ·rw[av (show ¬1<i by omega)]at a;have e1:((i:Int)==1)=CD:=eS;clear o;go_wp2
      go_meet
      case rel=>exact⟨by rw[a.o];rfl,A⟩
     ·rw[aH (show 1<i by omega)]at a;have e1:((i:Int)==1)=CS:=eS;go_wp2
      go_meet
      case rel=>exact⟨by rw[a.o];rfl,A⟩
   ·have a:wt (j=decide (1<=e/\e<=(r:Int))):=by unfold Hid;rw[<-t.o,cH];simp
    by_cases o:1<=e
    ·by_cases B:e<=(r:Int)
     ·rw[aH (show 1<=e/\e<=(r:Int)from⟨o,B⟩)]at a;go_wp2
      go_meet
      case rel=>exact⟨by rw[a.o],f⟩
     ·rw[av (λh=>B h.2)]at a;go_wp2
      go_meet
      case rel=>exact⟨by rw[a.o],f⟩
    ·rw[av (λh=>o h.1)]at a;go_wp2
     go_meet
     case rel=>exact⟨by rw[a.o],f⟩
  case rest=>
   obtain⟨rfl,A⟩:=hcut;have ad:wt (j=CS/\u=CS\/j=CD/\vp r k (i+1) g left y u P wc):=by
    unfold Hid;cases j with
    |false=>exact C1 ⟨rfl,K.s⟩
    |true=>exact C2 ⟨rfl,left-1,Y,by have:=A.o.2.2;rw[show((left:Int)-1)=((left-1:Nat):Int)by omega]at this;exact this,by rw[<-K.o,cC];congr 1;rw[bO,HC.o];omega,by rw[HC.o];omega⟩
   have J:=H A.1;have ac:=H A.2.1;clear bw a6 bt bv bs t K f A d0 d1 d2 d3 d4 d5 d6 dL;go_wp2;go_loopw [10,11] (λb X wr=>∃(l:Nat) (M:Bool),l<=E/\b=Bs M/\X=I U l/\wt (iJ g w wr)/\wt (wr.heap[w.heap.size]?=O (BV F 67 (0,0)))/\wt (M=CS/\u=CS\/M=CD/\vp r k (i+1) g left y u (P.drop l) wr)) (λb X _=>E-(intOf X).toNat)
   case atStart=>exact⟨0,j,aw _,rfl,rfl,J,ac,ad⟩
   case round=>
    clear J ac ad;obtain⟨l,M,hm,rfl,rfl,J,ac,ad⟩:=hrel;have d4:wr.cell? ⟨w.heap.size,4,N⟩=O (Z ia E ic):=by rw[cb ac.o,<-z.o];rfl
    rcases ad.o with⟨Q,cc⟩|⟨Q,cx⟩
    ·subst Q;have a:=H cc;clear ad cc;by_cases hd:(l:Int)<(E:Int)
     ·go_wp2;go_ret;rw[a.o];exact⟨rfl,J,λh=>by cases h⟩
     ·go_wp2;go_ret;rw[a.o];exact⟨rfl,J,λh=>by cases h⟩
    ·subst Q;obtain⟨q,cw,ci,a4,a5⟩:=cx;rcases aC hm with c8|bf
     ·have e0:P.drop l=[]:=cY (by rw[a1.o];omega);rw[e0]at a4 a5;have a:wt (u=CD):=by unfold Hid;rw[<-a4];simp
      have a8:wt (oU g ((left-y:Nat):Int) wr):=by
       unfold Hid;have:q=left-y:=by simp at a5;omega
       rw[<-this];exact ci
      have hd:¬(l:Int)<(E:Int):=Y;go_wp2;go_ret;rw[a.o];exact⟨rfl,J,λ_=>a8⟩
     ·have hd:(l:Int)<(E:Int):=Y;obtain⟨m,hy⟩:∃m,P[l]?=O m:=⟨_,af (by rw[a1.o];exact bf)⟩;have cd:P.drop l=m::P.drop (l+1):=by rw[b_ (by rw[a1.o];exact bf)];congr 1;rw[af (by rw[a1.o];exact bf)]at hy;simpa using hy
      rw[cd,dD,bM,cT]at a4;rw[cd,bM,cT]at a5;obtain⟨v,s,xv,rfl,cs,W,Q⟩:=bx.o l m hy;have ct:v≠g:=hP v cs;have cr:=bm.o m (aQ hy);have cp:=H (a0 wr xv m q cw J Q cr ci);obtain⟨k0,k1,k2,k3,ja,jl,jc,db,dg,dd,c0,c2,c1,R⟩:=ku.form Q;have T:∀{bh:Nat} {aa:wg},w.cell? ⟨v,bh,N⟩=O aa->wr.cell? ⟨v,bh,N⟩=O aa:=λ{bh aa} h=>by rw[World.cell?_of_block (w:=w) (J.o.block v (aA w _ h) ct)];exact h
      have q0:wr.cell? ⟨v,s+l*7,N⟩=O (I U k0):=T (W 0 _ (by rw[R];rfl));have q1:=T (W 1 _ (by rw[R];rfl));have q2:=T (W 2 _ (by rw[R];rfl));have q3:=T (W 3 _ (by rw[R];rfl));have q4:=T (W 4 _ (by rw[R];rfl));have q5:=T (W 5 _ (by rw[R];rfl));have q6:=T (W 6 _ (by rw[R];rfl));subst R;have ca:=H a4;have a8:=H a5;generalize jw r k (i+1) m=oy at *;generalize ie k m=cy at *;go_wp2_with fail;apply cp.o.m;rintro x w4 ⟨rfl,o4,h4⟩;have cn:=H (J.t o4);have ck:=H ((o4.block _ (ap ac) Y).t ac);have co:wt ((oy&&decide (cy<=q))=CS/\u=CS\/(oy&&decide (cy<=q))=CD/\vp r k (i+1) g left y u (P.drop (l+1)) w4):=by
       unfold Hid;cases hq:(oy&&decide (cy<=q))with
       |false=>
        refine C1 ⟨rfl,?_⟩;rw[<-ca.o];cases oy with
        |false=>rfl
        |true=>rw[cC,du]at hq;rw[av Y,Bool.and_false]
       |true=>
        have h5:=h4 hq;rw[a_,cL]at hq;refine C2 ⟨rfl,q-cy,Y,h5,?_,?_⟩
        ·rw[<-ca.o,hq.1,cC];congr 1;rw[bO];omega
        ·have:=a8.o;omega
      generalize (oy&&decide (cy<=q))=bz at *;go_wp2;go_roundw
      case rel=>exact⟨l+1,bz,Y,rfl,by first|rfl|(congr 1),cn,ck,co⟩
      case measure=>exact eT
def LM{L objs:Nat}(a:objs<=100000):∀k,I1 L objs k
 |0=>λd b e c _ _ _ _ _ h=>by cases h
 |k+1=>Qx a (LM a k)
def ku.form2{j:Nat->Prop}{k:Nat}{i:wg}{a:GT k}(h:ku j k w i a):∃(q r:Int) (l:ByteArray) (d:Option wT) (n e:Nat) (f:Option wT) (o g:Nat) (b:Option wT) (m c:Nat),i=Bc #[I U (ly a),I U q,I U r,y7 l,Z d n e,Z f o g,Z b m c]:=by
 cases k with
 |zero=>cases h
 |succ k=>obtain⟨d,e,f,g,b,c,rfl,_⟩:=h;exact⟨_,_,_,_,_,_,_,_,_,_,_,_,rfl⟩
def QE{c:Nat}{f g:vz}(b:wm w.heap.size w f)(a:iJ c f g)(h:w.heap.size<=c):wm w.heap.size w g:=
 ⟨a.os.t b.os,a.tape.t b.tape,a.output.t b.output,aJ b.size a.size,λd e=>(a.block d (aF e b.size) Y).t (b.block d e)⟩
def LI{k:Nat}{c:List (GT k)}{root:Int}{P:Option wT}{oc:Nat}(h:nD (ku (λb=>b<w.heap.size) k) (λb=>b<w.heap.size) w P c)(hF:∀j∈c,GB j)(hl:G c<=140737488355328):wh DG 41 #[Bc #[Z P (G c) oc,I U root]] w λX p=>X=BX (Bs (jm c root))/\wm w.heap.size w p:=by
 have T:=H h;obtain⟨a,y⟩:∃a,G c=a:=⟨_,rfl⟩;rw[y]at hl;obtain⟨f,d⟩:∃f,jm c root=f:=⟨_,rfl⟩;rw[d,y];unfold jm at d;rw[y]at d;have t:=H y;have HF:=H hF;have q:wt (wm w.heap.size w (w.alloc (BV #[Z P a oc,I U root] 31))):=(ar _ _).alloc (ag _) _;by_cases E:1<=a/\a<=100
 ·rw[aH E,cC]at d;have t1:¬(a:Int)<1:=Y;have t2:¬(100:Int)<(a:Int):=Y;by_cases F:1<=root/\root<=(a:Int)
  ·rw[aH F,cC]at d;obtain⟨r,rfl⟩:∃r:Nat,root=(r:Int)+1:=⟨(root-1).toNat,Y⟩;rw[show((r:Int)+1-1).toNat=r by omega]at d;have a9:r<a:=Y;have t3:¬(r:Int)+1<1:=Y;have t4:¬(a:Int)<(r:Int)+1:=Y;obtain⟨j,hy⟩:∃j,c[r]?=O j:=⟨_,af (by rw[t.o];exact a9)⟩;rw[hy]at d;obtain⟨b,i,bt,rfl,_,g,A⟩:=T.o r j hy;obtain⟨nn,pp,tt,ia,il,ic,ka,kl,kc,fa,fl,fc,rfl⟩:=ku.form2 A;have dk:(w.alloc (BV #[Z (O ⟨b,i,N⟩) a oc,I U ((r:Int)+1)] 31)).cell? ⟨b,i+r*7,N⟩=O (I U (ly j)):=by have:=g 0 _ rfl;rw[eD]at this;rw[World.cell?_alloc_lt _ _ _ (aA w _ this)];exact this
   have bf:IntKind.i64.wrap ((r:Int)+1-1)=(r:Int):=by rw[bu];omega
   rw[bK]at d;by_cases h7:ly j=7
   ·rw[h7]at d dk;rw[aH rfl,cC]at d;have aa:vp a k 1 (w.heap.size+1) 2000 (c.map (ie k)).sum f c ((w.alloc (BV #[Z (O ⟨b,i,N⟩) a oc,I U ((r:Int)+1)] 31)).alloc (BV #[I U 2000] 3)):=by refine⟨2000,Y,?_,d,rfl⟩;have:=bn (w.alloc (BV #[Z (O ⟨b,i,N⟩) a oc,I U ((r:Int)+1)] 31)) (BV #[I U 2000] 3);rw[aV]at this;exact this
    have b2:wm w.heap.size w ((w.alloc (BV #[Z (O ⟨b,i,N⟩) a oc,I U ((r:Int)+1)] 31)).alloc (BV #[I U 2000] 3)):=q.o.alloc cO _;have a4:((w.alloc (BV #[Z (O ⟨b,i,N⟩) a oc,I U ((r:Int)+1)] 31)).alloc (BV #[I U 2000] 3)).heap[w.heap.size]?=O (BV #[Z (O ⟨b,i,N⟩) a oc,I U ((r:Int)+1)] 31 (0,0)):=nt _ (bn _ _);obtain⟨u,hC⟩:∃u,(c.map (ie k)).sum=u:=⟨_,rfl⟩;rw[hC]at aa;have a1:=H aa;have B2:=H b2;have s:=H a4
    go_in
    go_wp2;go_loopw [5] (λJ wr=>∃(e:Nat),e<=a/\J=I U e/\wt (wm w.heap.size w wr)/\wt (wr.heap[w.heap.size]?=O (BV #[Z (O ⟨b,i,N⟩) a oc,I U ((r:Int)+1)] 31 (0,0)))/\wt (vp a k 1 (w.heap.size+1) 2000 u f (c.drop e) wr)) (λJ _=>a-(intOf J).toNat)
    case atStart=>exact⟨0,aw _,rfl,B2,s,a1⟩
    case round=>
     obtain⟨e,hm,rfl,v,s,HS⟩:=hrel;obtain⟨M,a7,a8,x,ad⟩:=HS.o;have d0:=nw s;rcases aC hm with bd|D
     ·have e0:c.drop e=[]:=cY (by rw[t.o];omega);rw[e0]at x;have ao:wt (f=CD):=by unfold Hid;rw[<-x];simp
      have hd:¬(e:Int)<(a:Int):=Y;go_wp2;go_ret;exact⟨by rw[ao.o];rfl,v⟩
     ·have hd:(e:Int)<(a:Int):=Y;obtain⟨m,B⟩:∃m,c[e]?=O m:=⟨_,af (by rw[t.o];exact D)⟩;have ac:c.drop e=m::c.drop (e+1):=by rw[b_ (by rw[t.o];exact D)];congr 1;rw[af (by rw[t.o];exact D)]at B;simpa using B
      rw[ac,dD,bM,cT]at x;rw[ac,bM,cT]at ad;obtain⟨g',o',xv,a6,_,g,A⟩:=T.o e m B;cases a6;have a5:=HF.o m (aQ B);have V:=H (LM (L:=w.heap.size+1) (objs:=a) Y k wr (λb=>b<w.heap.size) xv m 1 M Y Y a7 (ku.keep k A (λb hg _=>v.block b hg)) (λb hg=>Y) a5 a8);rw[show((1:Nat):Int)=1 from rfl]at V;obtain⟨k0,k1,k2,k3,ja,jl,jc,bh,br,bm,ba,bc,bb,l⟩:=ku.form A;have o:∀{K:Nat} {Q:wg},w.cell? ⟨b,K,N⟩=O Q->wr.cell? ⟨b,K,N⟩=O Q:=λ{K Q} h=>by rw[v.o.cell (aA w _ h)];exact h
      have q0:wr.cell? ⟨b,i+e*7,N⟩=O (I U k0):=o (g 0 _ (by rw[l];rfl));have q1:=o (g 1 _ (by rw[l];rfl));have q2:=o (g 2 _ (by rw[l];rfl));have q3:=o (g 3 _ (by rw[l];rfl));have q4:=o (g 4 _ (by rw[l];rfl));have q5:=o (g 5 _ (by rw[l];rfl));have q6:=o (g 6 _ (by rw[l];rfl));subst l;have S:=H x;have a0:=H ad;generalize jw a k 1 m=oy at *;generalize ie k m=W at *;go_wp2_with fail;apply V.o.m;rintro X w4 ⟨rfl,o4,C⟩;have R:=H (QE v o4 Y);have a3:=H ((o4.block _ (ap s) Y).t s);cases z:(oy&&decide (W<=M))with
      |false=>
       have al:wt (f=CS):=by
        unfold Hid;rw[<-S.o];cases oy with
        |false=>rfl
        |true=>rw[cC,du]at z;rw[av Y,Bool.and_false]
       go_wp2;go_ret;exact⟨by rw[al.o];rfl,R⟩
      |true=>
       have a2:wt (vp a k 1 (w.heap.size+1) 2000 u f (c.drop (e+1)) w4):=by
        have h5:=C z;rw[a_,cL]at z;refine⟨M-W,Y,h5,?_,?_⟩
        ·rw[<-S.o,z.1,cC];congr 1;rw[bO];omega
        ·have:=a0.o;omega
       go_wp2;go_roundw
       case rel=>exact⟨e+1,Y,by first|rfl|(congr 1),R,a3,a2⟩
       case measure=>exact eT
   ·have n:wt (f=CS):=by unfold Hid;rw[<-d,av (by simpa using h7)];rfl
    have bs:((ly j) != 7)=CD:=eS;generalize ly j=ky at *
    go_in
    go_wp2;go_ret;exact⟨by rw[n.o];rfl,q⟩
  ·have n:wt (f=CS):=by unfold Hid;rw[<-d,av F];rfl
   by_cases h3:root<1
   ·clear d F
    go_in
    go_wp2;go_ret;exact⟨by rw[n.o];rfl,q⟩
   ·have C:(a:Int)<root:=Y
    go_in
    go_wp2;go_ret;exact⟨by rw[n.o];rfl,q⟩
 ·have n:wt (f=CS):=by unfold Hid;rw[<-d,av E];rfl
  by_cases h3:(a:Int)<1
  ·clear d E
   go_in
   go_wp2;go_ret;exact⟨by rw[n.o];rfl,q⟩
  ·have C:(100:Int)<(a:Int):=Y
   go_in
   go_wp2;go_ret;exact⟨by rw[n.o];rfl,q⟩
end
section
open Go.RowKit Go.Maps Go.WideMaps
variable{w d:vz}
def gK(a:ByteArray)(b:List UInt8):(a.toList==b)=decide (a=⟨b.toArray⟩):=by rw[cH,beq_iff_eq,cL,dI];exact⟨λh=>eC (by rw[<-h,Array.toArray_toList]),λh=>by rw[h]⟩
def Jk(a c:Int)(w:vz):wh DG 230 #[I U a,I U c] w λg d=>g=BX (Bs (jO a c))/\d=w:=by
 have m:=H (Kr a (-999999999) 999999999 w);by_cases h:0<=c/\c<=5
 ·have i:=H (BZ c 0 5 w h.1 h.2);by_cases j:c=0
  ·have f:jO a c=decide (-999999999<=a/\a<=999999999):=by unfold jO;rw[aH h,aH j];rfl
   rw[f];generalize decide (-999999999<=a/\a<=999999999)=n at *;subst j;go_enter fV,fU;go_wp2_with fail;apply i.o.m;rintro g d ⟨rfl,b⟩;have b:=b.s;subst b;go_wp2_with fail;apply m.o.m;rintro g d ⟨rfl,b⟩;have b:=b.s;subst b;go_wp2;go_ret;exact⟨rfl,rfl⟩
  ·have p:(c==0)=CS:=eS;by_cases e:a.tmod 10=0
   ·have f:jO a c=CS:=by unfold jO;rw[av j,av (by simpa using e)];rfl
    rw[f];have k:(a.tmod 10==0)=CD:=by simp[e]
    have l:(a.tmod 10 != 0)=CS:=by simp[e]
    go_enter fV,fU;go_wp2;go_ret;exact⟨rfl,rfl⟩
   ·have f:jO a c=decide (-999999999<=a/\a<=999999999):=by unfold jO;rw[aH h,aH e,Bool.or_true];rfl
    rw[f];generalize decide (-999999999<=a/\a<=999999999)=n at *;have k:(a.tmod 10==0)=CS:=by simp[e]
    have l:(a.tmod 10 != 0)=CD:=by simp[e]
    go_enter fV,fU;go_wp2_with fail;apply i.o.m;rintro g d ⟨rfl,b⟩;have b:=b.s;subst b;go_wp2_with fail;apply m.o.m;rintro g d ⟨rfl,b⟩;have b:=b.s;subst b;go_wp2;go_ret;exact⟨rfl,rfl⟩
 ·have i:=H (BU c 0 5 w Y);have f:jO a c=CS:=by unfold jO;rw[av h,Bool.and_false];rfl
  rw[f];have p:(c==0)=CS:=eS;by_cases e:a.tmod 10=0
  ·have k:(a.tmod 10==0)=CD:=by simp[e]
   have l:(a.tmod 10 != 0)=CS:=by simp[e]
   go_enter fV,fU;go_wp2;go_ret;exact⟨rfl,rfl⟩
  ·have k:(a.tmod 10==0)=CS:=by simp[e]
   have l:(a.tmod 10 != 0)=CD:=by simp[e]
   go_enter fV,fU;go_wp2_with fail;apply i.o.m;rintro g d ⟨rfl,b⟩;have b:=b.s;subst b;go_wp2;go_ret;exact⟨rfl,rfl⟩
def ng(a:ByteArray):Lit:=.string a.data.toList
def NC(a b:ByteArray):(ng a).sameKey (ng b)=decide (a=b):=by unfold ng;simp only[Lit.sameKey];rw[cH,beq_iff_eq,cL];exact⟨λh=>eC (Array.toList_inj.1 h),λh=>by rw[h]⟩
def LP:∀(c:List Lit) (a:List Lit),(c.foldl addKey a).length<=G a+G c
 | [],a=>cO
 |b::r,a=>by
  rw[fj];have:=LP r (addKey a b);have e:(addKey a b).length<=G a+1:=by unfold addKey;split<;>simp
  simp only[ai];omega
def LO:∀(j a:List ByteArray),((j.map ng).foldl addKey (a.map ng)).length=G a+G j↔j.Nodup/\∀b∈j,b∉a
 | [],a=>cO
 |b::r,a=>by
  rw[bM,fj];have m:(a.map ng).any (λf=>f.sameKey (ng b))=CD↔b∈a:=by
   rw[List.any_map,List.any_eq_true];constructor
   ·rintro⟨f,e,h⟩;simp only[Function.comp_apply,NC,cL]at h;rw[<-h];exact e
   ·intro h;exact⟨b,h,by simp only[Function.comp_apply,NC,cL]⟩
  by_cases i:b∈a
  ·have e1:addKey (a.map ng) (ng b)=a.map ng:=by unfold addKey;rw[ak (m.2 i)]
   rw[e1];have:=LP (r.map ng) (a.map ng);simp only[aq,ai]at *;constructor;·intro h;omega
   ·rintro⟨_,h⟩;exact absurd i (h b cO)
  ·have e1:addKey (a.map ng) (ng b)=(a++[b]).map ng:=by unfold addKey;rw[aj (λh=>i (m.1 h))];simp
   rw[e1];have l:=LO r (a++[b]);rw[ab]at l;simp only[ai,List.nodup_cons];rw[show (G a)+(G r+1)=G a+(0+1)+G r by omega];rw[ai,aB]at l;rw[l];constructor
   ·rintro⟨k,g⟩;refine⟨⟨λc=>g b c cO,k⟩,λf e=>?_⟩;rcases cJ.1 e with rfl|e;·exact i
    ·intro c;exact g f e (List.mem_append_left _ c)
   ·rintro⟨⟨k,g⟩,n⟩;refine⟨g,λf e c=>?_⟩;rw[aZ]at c;rcases c with c|c;·exact n f (by simp[e]) c
    ·simp at c;subst c;exact k e
def QJ(a:List ByteArray):(Maps.size (setOf (H:=Unit) (.agg []) (a.map ng))=G a)↔a.Nodup:=by rw[size_setOf _ _ (λe b=>by obtain⟨c,_,rfl⟩:=cE.1 b;trivial)];have:=LO a [];simp only[ew,aB,bZ,eZ,not_false_eq_true,implies_true,and_true]at this;exact this
def gS:Keyed DG 9:=string_keyed dC
def Ga{a7:Nat->Prop}{n o p:Int}{q:ByteArray}{j:Option wT}{y k:Nat}{l:Option wT}{m:Nat}{f:Option wT}{i g:Nat}{c:List ByteArray}(ba:n8 a7 w l c)(bm:G c<=140737488355328)(br:y<=140737488355328):wh DG 232 #[Bc #[I U n,I U o,I U p,y7 q,Z j y k,Z l (G c) m,Z f i g]] w λu d=>u=BX (Bs (i9 c y))/\wm w.heap.size w d:=by
 have HK:=H ba;obtain⟨a,V⟩:∃a,G c=a:=⟨_,rfl⟩;have bt:a<=140737488355328:=Y;rw[V];obtain⟨z,R⟩:∃z,i9 c y=z:=⟨_,rfl⟩;rw[R];have A:=H R;have s:=H V;unfold i9 at A;rw[s.o]at A;by_cases W:a=y
 ·subst W;rw[aH (rfl:a=a),cC]at A;have B1:wt (wm w.heap.size w (w.alloc (BV #[I U n,I U o,I U p,y7 q,Z j a k,Z l a m,Z f i g] 67))):=(ar _ _).alloc (ag _) _;have ad:wt ((w.alloc (BV #[I U n,I U o,I U p,y7 q,Z j a k,Z l a m,Z f i g] 67)).heap[w.heap.size]?=O (BV #[I U n,I U o,I U p,y7 q,Z j a k,Z l a m,Z f i g] 67 (0,0))):=bn _ _;have bs:=@run_makeMap DG;have a0:wt (((w.alloc (BV #[I U n,I U o,I U p,y7 q,Z j a k,Z l a m,Z f i g] 67)).alloc (.map #[] 0)).ownsMap DG 9 (unitElem (H:=Unit)) (w.heap.size+1) 0 (.map [])):=by have:=World.ownsMap_made (H:=Unit) (w.alloc (BV #[I U n,I U o,I U p,y7 q,Z j a k,Z l a m,Z f i g] 67)) DG 9 unitElem;rw[aV]at this;exact this
  go_in
  go_wp2;go_loopw [17] (λP wr=>∃(b:Nat),b<=a/\P=I U b/\wt (wr.ownsMap DG 9 (unitElem (H:=Unit)) (w.heap.size+1) b (setOf (.agg []) ((c.take b).map ng)))/\wt (wm w.heap.size w wr)/\wt (wr.heap[w.heap.size]?=O (BV #[I U n,I U o,I U p,y7 q,Z j a k,Z l a m,Z f i g] 67 (0,0)))/\wt ((((c.drop b).all i7)&&decide (c.Nodup))=z)) (λP _=>a-(intOf P).toNat)
  case atStart=>exact⟨0,aw _,rfl,by simpa[setOf]using a0,B1.alloc cO _,nt _ ad,A⟩
  case round=>
   obtain⟨b,v,rfl,J,r,K,t⟩:=hrel;rcases aC v with v|v
   ·subst v;have e1:=aP (by rw[s.o];exact ag _);have e2:=cY (by rw[s.o];exact ag _);rw[e1]at J;rw[e2]at t;have E:=QJ c;rw[s.o]at E;obtain⟨F,X⟩:∃F,Maps.size (setOf (H:=Unit) (.agg []) (c.map ng))=F:=⟨_,rfl⟩;rw[X]at E;have a8:z=((F:Int)==(b:Int)):=by
     rw[<-t.o];by_cases C:c.Nodup;·rw[aH C,E.2 C];simp
     ·rw[av C];have:F≠b:=λu=>C (E.1 u);simp;omega
    have a3:=H a8;have HZ:=H X;have d5:=uO K;go_wp2_with (first
     | (at_len;refine wpList_len_own _ rfl _ 265 rfl 9 266 underlying265 (unitElem (H:=Unit)) (w.heap.size+1) b _ rfl J ?_;rw[HZ.o])
     |go_in)
    go_ret;exact⟨by rw[a3.o];rfl,r⟩
   ·obtain⟨e,D⟩:∃e,c[b]?=O e:=⟨_,af (by rw[s.o];exact v)⟩;have a9:c.drop b=e::c.drop (b+1):=by rw[b_ (by rw[s.o];exact v)];congr 1;rw[af (by rw[s.o];exact v)]at D;simpa using D
    have bf:c.take (b+1)=c.take b++[e]:=by rw[cP,D];rfl
    rw[a9,dD]at t;obtain⟨Q,aa,rfl,_,S⟩:=HK.o b e D;have dk:wr.cell? ⟨Q,aa+b,N⟩=O (y7 e):=by rw[r.o.cell (aA w _ S)];exact S
    have B:=H (Gh (e));have a5:wt (setOf (H:=Unit) (.agg []) ((c.take (b+1)).map ng)=(setOf (.agg []) ((c.take b).map ng)).put (ng e) (.agg [])):=by unfold Hid;rw[bf,aI];exact setOf_snoc _ _ _
    have ao:wt (e.size<=60->keyOf DG 9 (y7 (e))=O (ng e)):=λh=>keyOf_string_mk dC lB;have bb:i7 (e)=CD->e.size<=60:=λh=>by unfold i7 at h;simp at h;exact h.1
    have a1:=H bb;generalize ng e=bh at *;by_cases M:i7 e=CD
    ·rw[M]at B t;have al:=H (ao (a1 M));go_wp2_with fail;apply(B _).m;rintro u w2 ⟨rfl,x⟩;have x:=x.s;subst x;go_wp2_with (first
      | (at_mapUpdate;refine wpList_mapUpdate_own _ rfl _ _ _ 265 rfl 9 266 gS underlying265 (unitElem (H:=Unit)) (w.heap.size+1) b _ rfl J lB _ _ _ rfl rfl al _ [] unitElem_mk ?_;intro w1 bd T)
      |go_in)
     have a2:wt (w1.ownsMap DG 9 (unitElem (H:=Unit)) (w.heap.size+1) (b+1) (setOf (.agg []) ((c.take (b+1)).map ng))):=by unfold Hid;rw[a5.o];exact bd
     have ac:=H (r.grown T r.size (λbv hj=>by cases hj;omega));have a6:wt (w1.heap[w.heap.size]?=O (BV #[I U n,I U o,I U p,y7 q,Z j a k,Z (O ⟨Q,aa,N⟩) a m,Z f i g] 67 (0,0))):=by unfold Hid;rw[T.block _ (ap K.o) (λu=>by have:=d9 u;omega)];exact K
     go_wp2;go_roundw
     case rel=>exact⟨b+1,Y,by first|rfl|(congr 1),a2,ac,a6,t⟩
     case measure=>exact eT
    ·have bc:i7 e=CS:=by simpa using M
     rw[bc]at B t;have L:z=CS:=t.o.s;have a4:=H L;go_wp2_with fail;apply(B _).m;rintro u w2 ⟨rfl,x⟩;have x:=x.s;subst x;go_wp2;go_ret;exact⟨by rw[a4.o];rfl,r⟩
 ·have L:z=CS:=by rw[<-A.o,av W];rfl
  rw[L];have t1:(((a:Int) != (y:Int)))=CD:=eS;have hb:=(ar w.heap.size w).alloc (ag _) (BV #[I U n,I U o,I U p,y7 q,Z j y k,Z l a m,Z f i g] 67);have r:=H hb
  go_in
  go_wp2;go_ret;exact⟨rfl,r⟩
def Jp{al:Nat->Prop}{E F J:Int}{o:ByteArray}{B:Option wT}{i C:Nat}{y:Option wT}{D:Nat}{s:Option wT}{A:Nat}{f:List ByteArray}{e:List Int}(a0:n8 al w y f)(a6:q8 al w s e)(a5:G f<=140737488355328)(a9:G e<=140737488355328)(a7:i<=140737488355328):wh DG 233 #[Bc #[I U E,I U F,I U J,y7 o,Z B i C,Z y (G f) D,Z s (G e) A]] w λr d=>r=BX (Bs (jP o.size i f e))/\wm w.heap.size w d:=by
 have HD:wt (∀L:vz,wm w.heap.size w L->wh DG 232 #[Bc #[I U E,I U F,I U J,y7 o,Z B i C,Z y (G f) D,Z s (G e) A]] L λr d=>r=BX (Bs (i9 f i))/\wm L.heap.size L d):=
  λL b=>Ga (a0.keep λM _ hg=>b.block M hg) a5 a7
 have HK:=H a0;have a3:=H a6;obtain⟨g,hR⟩:∃g,jP o.size i f e=g:=⟨_,rfl⟩;rw[hR];have l:=H hR;unfold jP at l;obtain⟨n,hn⟩:∃n,G f=n:=⟨_,rfl⟩;obtain⟨a,hf⟩:∃a,G e=a:=⟨_,rfl⟩;have ba:n<=140737488355328:=Y;have a8:a<=140737488355328:=Y;rw[hn,hf]at HD;rw[hn,hf];rw[hf]at l;have S:=H hn;have R:=H hf;have B1:wt (wm w.heap.size w (w.alloc (BV #[I U E,I U F,I U J,y7 o,Z B i C,Z y n D,Z s a A] 67))):=(ar _ _).alloc (ag _) _;have a2:wt ((w.alloc (BV #[I U E,I U F,I U J,y7 o,Z B i C,Z y n D,Z s a A] 67)).heap[w.heap.size]?=O (BV #[I U E,I U F,I U J,y7 o,Z B i C,Z y n D,Z s a A] 67 (0,0))):=bn _ _;have Q:=H (HD _ B1);cases hd:i9 f i with
 |false=>
  rw[hd]at Q l;have K:wt (g=CS):=l.o.s
  go_in
  go_wp2_with fail;apply Q.o.m;rintro r w2 ⟨rfl,T⟩;have h:=H (B1.t (T.m cO));go_wp2;go_ret;exact⟨by rw[K.o];rfl,h⟩
 |true=>
  rw[hd,cC]at l;rw[hd]at Q
  go_in
  go_wp2_with fail;apply Q.o.m;rintro r w2 ⟨rfl,T⟩;have h:=H (B1.t (T.m cO));have aa:w2.heap[w.heap.size]?=O (BV #[I U E,I U F,I U J,y7 o,Z B i C,Z y n D,Z s a A] 67 (0,0)):=by rw[T.block _ cO];exact a2
  have d3:=yg aa;have d5:=uO aa;have d6:=vL aa;by_cases ht:o.size<=20000
  ·rw[aH ht,cC]at l;by_cases ao:a<=4
   ·rw[aH ao,cC]at l;go_wp2;go_loopw [25] (λx wr=>∃(k:Nat),k<=n/\x=I U k/\wr=w2/\wt ((((f.drop k).all λc=> !lj c)&&(e.all λa=>decide (1<=a/\a<=4)))=g)) (λx _=>n-(intOf x).toNat)
    case atStart=>exact⟨0,aw _,rfl,rfl,l⟩
    case round=>
     obtain⟨k,u,rfl,rfl,p⟩:=hrel;rcases aC u with u|u
     ·subst u;have e2:=cY (by rw[S.o];exact ag _);have a4:wt ((e.all λa=>decide (1<=a/\a<=4))=g):=by unfold Hid;rw[<-p.o,e2];rfl
      go_wp2;go_loopw [43] (λx wx=>∃(j:Nat),j<=a/\x=I U j/\wx=wr/\wt (((e.drop j).all λa=>decide (1<=a/\a<=4))=g)) (λx _=>a-(intOf x).toNat)
      case atStart=>exact⟨0,aw _,rfl,rfl,a4⟩
      case round=>
       obtain⟨j,t,rfl,rfl,q⟩:=hrel;rcases aC t with t|t
       ·subst t;have e2:=cY (by rw[R.o];exact ag _);have m:wt (g=CD):=by unfold Hid;rw[<-q.o,e2];rfl
        go_wp2;go_ret;exact⟨by rw[m.o];rfl,h⟩
       ·obtain⟨z,hx⟩:∃z,e[j]?=O z:=⟨_,af (by rw[R.o];exact t)⟩;have ac:e.drop j=z::e.drop (j+1):=by rw[b_ (by rw[R.o];exact t)];congr 1;rw[af (by rw[R.o];exact t)]at hx;simpa using hx
        rw[ac,dD]at q;obtain⟨M,ad,rfl,_,P⟩:=a3.o j z hx;have dk:wr.cell? ⟨M,ad+j,N⟩=O (I U z):=by rw[h.o.cell (aA w _ P)];exact P
        by_cases a1:1<=z/\z<=4
        ·rw[aH a1,cC]at q;go_wp2_with fail;apply(BZ _ 1 4 _ Y Y).m;rintro r w3 ⟨rfl,v⟩;have v:=v.s;subst v;go_wp2;go_roundw
         case rel=>first|exact⟨j+1,Y,by first|rfl|(congr 1),rfl,q⟩|exact⟨j+1,Y,by first|rfl|(congr 1),trivial,q⟩
         case measure=>exact eT
        ·rw[av a1,Bool.false_and]at q;have m:=H q.s;go_wp2_with fail;apply(BU _ 1 4 _ Y).m;rintro r w3 ⟨rfl,v⟩;have v:=v.s;subst v;go_wp2;go_ret;exact⟨by rw[m.o];rfl,h⟩
     ·obtain⟨c,hs⟩:∃c,f[k]?=O c:=⟨_,af (by rw[S.o];exact u)⟩;have ac:f.drop k=c::f.drop (k+1):=by rw[b_ (by rw[S.o];exact u)];congr 1;rw[af (by rw[S.o];exact u)]at hs;simpa using hs
      rw[ac,dD]at p;obtain⟨M,ad,rfl,_,P⟩:=HK.o k c hs;have dk:wr.cell? ⟨M,ad+k,N⟩=O (y7 c):=by rw[h.o.cell (aA w _ P)];exact P
      by_cases V:c={data:=#[76,101,110,103,116,104]}
      ·have m:wt (g=CS):=by unfold Hid;rw[<-p.o];unfold lj;rw[aH V];rfl
       have c1:(c.toList==[76,101,110,103,116,104])=CD:=by rw[gK,bT];exact V
       go_wp2;go_ret;exact⟨by rw[m.o];rfl,h⟩
      ·have c1:(c.toList==[76,101,110,103,116,104])=CS:=by rw[gK,du];exact V
       by_cases W:c={data:=#[70,105,108,116,101,114]}
       ·have m:wt (g=CS):=by unfold Hid;rw[<-p.o];unfold lj;rw[aH W,Bool.or_true];rfl
        have c2:(c.toList==[70,105,108,116,101,114])=CD:=by rw[gK,bT];exact W
        go_wp2;go_ret;exact⟨by rw[m.o];rfl,h⟩
       ·have c2:(c.toList==[70,105,108,116,101,114])=CS:=by rw[gK,du];exact W
        by_cases X:c={data:=#[68,101,99,111,100,101,80,97,114,109,115]}
        ·have m:wt (g=CS):=by unfold Hid;rw[<-p.o];unfold lj;rw[aH X,Bool.or_true];rfl
         have c3:(c.toList==[68,101,99,111,100,101,80,97,114,109,115])=CD:=by rw[gK,bT];exact X
         go_wp2;go_ret;exact⟨by rw[m.o];rfl,h⟩
        ·have c3:(c.toList==[68,101,99,111,100,101,80,97,114,109,115])=CS:=by rw[gK,du];exact X
         have hb:lj c=CS:=by unfold lj;rw[av V,av W,av X];rfl
         rw[hb,Bool.not_false,cC]at p;go_wp2;go_roundw
         case rel=>first|exact⟨k+1,Y,by first|rfl|(congr 1),rfl,p⟩|exact⟨k+1,Y,by first|rfl|(congr 1),trivial,p⟩
         case measure=>exact eT
   ·have K:wt (g=CS):=by unfold Hid;rw[<-l.o,av ao];rfl
    go_wp2;go_ret;exact⟨by rw[K.o];rfl,h⟩
  ·have K:wt (g=CS):=by unfold Hid;rw[<-l.o,av ht];rfl
   go_wp2;go_ret;exact⟨by rw[K.o];rfl,h⟩
end
section
variable{w w':vz}
def Jo{P:Nat->Prop}{α:Type}{a:GN α}{x:Option wT}{y:Nat}{p:Option wT}{z:Nat}{k:Option wT}{v:Nat}(E:n8 P w p a.keys)(ac:q8 P w k a.filters)(aa:a.keys.length<=140737488355328)(al:a.filters.length<=140737488355328)(ad:a.items.length<=140737488355328):wh DG 177 #[qf a x y p z k v] w λg w'=>g=BX (Bs (jT a))/\wm w.heap.size w w':=by
 unfold qf;have L:wt (∀f:vz,wm w.heap.size w f->wh DG 232 #[Bc #[I U a.kind,I U a.n,I U a.places,y7 a.text,Z x a.items.length y,Z p a.keys.length z,Z k a.filters.length v]] f λg w'=>g=BX (Bs (i9 a.keys a.items.length))/\wm f.heap.size f w'):=
  λf b=>Ga (E.keep λl _ m=>b.block l m) aa ad
 have M:wt (∀f:vz,wm w.heap.size w f->wh DG 233 #[Bc #[I U a.kind,I U a.n,I U a.places,y7 a.text,Z x a.items.length y,Z p a.keys.length z,Z k a.filters.length v]] f λg w'=>g=BX (Bs (jP a.text.size a.items.length a.keys a.filters))/\wm f.heap.size f w'):=
  λf b=>Jp (E.keep λl _ m=>b.block l m) (ac.keep λl _ m=>b.block l m) aa al ad
 clear E ac;obtain⟨C,c⟩:∃C,jT a=C:=⟨_,rfl⟩;rw[c];unfold jT at c;generalize hD:i9 a.keys a.items.length=ao at *;generalize a0:jP a.text.size a.items.length a.keys a.filters=St at *;have s:=H (Gh a.text);have t:=H (Jk a.n a.places);generalize i7 a.text=NM at *;generalize jO a.n a.places=RL at *;generalize a.n=j at *;generalize a.places=pp at *;generalize a.text=K at *;generalize a.filters.length=fl at *;generalize a.keys.length=kl at *;generalize a.items.length=il at *;generalize a1:a.kind=d at *;have i:wt (wm w.heap.size w (w.alloc (BV #[I U d,I U j,I U pp,y7 K,Z x il y,Z p kl z,Z k fl v] 67))):=(ar _ _).alloc (ag _) _;have r:=H (L _ i);have u:=H (M _ i);clear L M;by_cases h0:d=0
 ·subst h0;simp only[reduceIte,Int.reduceEq,or_false]at c;have e:=H c.s;clear c;clear r u s t;go_enter eE,eh;go_wp2;go_ret;exact⟨by rw[e.o];rfl,i⟩
 have t0:(d==0)=CS:=eS;by_cases h6:d=6
 ·subst h6;simp only[reduceIte,Int.reduceEq,or_true,or_false]at c;have e:=H c.s;clear c;clear r u s t;go_enter eE,eh;go_wp2;go_ret;exact⟨by rw[e.o];rfl,i⟩
 have t6:(d==6)=CS:=eS;by_cases h9:d=9
 ·subst h9;simp only[reduceIte,Int.reduceEq,or_true]at c;have e:=H c.s;clear c;clear r u s t;go_enter eE,eh;go_wp2;go_ret;exact⟨by rw[e.o];rfl,i⟩
 have t9:(d==9)=CS:=eS;by_cases Q:d=1
 ·subst Q;simp only[reduceIte,Int.reduceEq,or_false]at c;have e:=H c.s;generalize F:decide (0<=j/\j<=1)=J at *;have B:wt (∀f:vz,wh DG 63 #[I U j,I U (0),I U (1)] f λg w'=>g=BX (Bs J)/\w'=f):=λf=>by rw[<-F];exact Kr j (0) (1) f
  go_enter eE,eh;go_wp2_with fail;apply(B _).m;rintro g q ⟨rfl,h⟩;have h:=h.s;subst h;go_wp2;go_ret;exact⟨by rw[e.o];rfl,i⟩
 have t1:(d==1)=CS:=eS;by_cases R:d=2
 ·subst R;simp only[reduceIte,Int.reduceEq,or_false]at c;have e:=H c.s;generalize F:decide (-2147483648<=j/\j<=2147483647)=J at *;have B:wt (∀f:vz,wh DG 63 #[I U j,I U (-2147483648),I U (2147483647)] f λg w'=>g=BX (Bs J)/\w'=f):=λf=>by rw[<-F];exact Kr j (-2147483648) (2147483647) f
  go_enter eE,eh;go_wp2_with fail;apply(B _).m;rintro g q ⟨rfl,h⟩;have h:=h.s;subst h;go_wp2;go_ret;exact⟨by rw[e.o];rfl,i⟩
 have t2:(d==2)=CS:=eS;by_cases S:d=3
 ·subst S;simp only[reduceIte,Int.reduceEq,or_false]at c;have e:=H c.s;go_enter eE,eh;go_wp2_with fail;apply(t _).m;rintro g q ⟨rfl,h⟩;have h:=h.s;subst h;go_wp2;go_ret;exact⟨by rw[e.o];rfl,i⟩
 have t3:(d==3)=CS:=eS;by_cases T:d=4
 ·subst T;simp only[reduceIte,Int.reduceEq,or_false]at c;have e:=H c.s;go_enter eE,eh;go_wp2_with fail;apply(s _).m;rintro g q ⟨rfl,h⟩;have h:=h.s;subst h;go_wp2;go_ret;exact⟨by rw[e.o];rfl,i⟩
 have t4:(d==4)=CS:=eS;by_cases V:d=5
 ·subst V;simp only[reduceIte,Int.reduceEq,or_false]at c;have e:=H c.s;go_enter eE,eh;go_wp2;go_ret;refine⟨?_,i⟩;rw[e.o];show BX (Bs (decide ((K.size:Int)<=4000)))=BX (Bs (decide (K.size<=4000)));congr 2;rw[bO];omega
 have t5:(d==5)=CS:=eS;by_cases W:d=7
 ·subst W;simp only[reduceIte,Int.reduceEq,or_false]at c;have e:=H c.s;go_enter eE,eh;go_wp2_with fail;apply r.o.m;rintro g q ⟨rfl,D⟩;have A:=H (i.t (D.m cO));go_wp2;go_ret;exact⟨by rw[e.o];rfl,A⟩
 have t7:(d==7)=CS:=eS;by_cases X:d=8
 ·subst X;simp only[reduceIte,Int.reduceEq,or_false]at c;have e:=H c.s;go_enter eE,eh;go_wp2_with fail;apply u.o.m;rintro g q ⟨rfl,D⟩;have A:=H (i.t (D.m cO));go_wp2;go_ret;exact⟨by rw[e.o];rfl,A⟩
 have t8:(d==8)=CS:=eS;have e:wt (C=CS):=by unfold Hid;rw[<-c];rw[aj (show ¬(d=0\/d=6\/d=9)by omega),aj Q,aj R,aj S,aj T,aj V,aj W,aj X]
 go_enter eE,eh;go_wp2;go_ret;exact⟨by rw[e.o];rfl,i⟩
def gz{a:ByteArray}(h:a.size=0):a={data:=#[]}:=eC (Array.eq_empty_of_size_eq_zero h)
def gB(a b c:Bool)(d:Nat):Bool:=a&&b&&c&&decide (d=0)
def Qp(a y z:Int)(A:ByteArray)(p:Option wT)(c q:Nat)(r:Option wT)(d s:Nat)(l:Option wT)(b m:Nat)(V:c<=140737488355328)(S:d<=140737488355328)(T:b<=140737488355328):wh DG 176 #[Bc #[I U a,I U y,I U z,y7 A,Z p c q,Z r d s,Z l b m]] w λu w'=>u=BX (Bs (oe a y z A.size c d b))/\wm w.heap.size w w':=by
 obtain⟨j,v⟩:∃j,oe a y z A.size c d b=j:=⟨_,rfl⟩;rw[v];unfold oe at v;have B:=H v;have k:wt (∀D:Array wg,wm w.heap.size w (w.alloc (BV D 67))):=λD=>(ar _ _).alloc (ag _) _
 go_in
 go_upto_block 0 with fail
 go_cut []from 5 (λM=>∃(f g:Int) (i:ByteArray) (p:Option wT) (c q:Nat) (r:Option wT) (d s:Nat) (l:Option wT) (b m:Nat),wt (M=w.alloc (BV #[I U a,I U f,I U g,y7 i,Z p c q,Z r d s,Z l b m] 67))/\wt (j=gB (decide (f=0)) (decide (g=0)) (decide (i.size=0)) (c+d+b))/\c<=140737488355328/\d<=140737488355328/\b<=140737488355328)
 case first=>
  rcases(by omega:a=1\/a=2\/a=9\/a=3\/a=4\/a=5\/a=6\/a=7\/a=8\/¬(a=1\/a=2\/a=9\/a=3\/a=4\/a=5\/a=6\/a=7\/a=8))with rfl|rfl|rfl|rfl|rfl|rfl|rfl|rfl|rfl|h
  rotate_right
  ·have F:(a==1)=CS/\(a==2)=CS/\(a==9)=CS/\(a==3)=CS/\(a==4)=CS/\(a==5)=CS/\(a==6)=CS/\(a==7)=CS/\(a==8)=CS:=eS;obtain⟨F,W,X,t4,t5,t6,t7,t8,t9⟩:=F;simp only[not_or]at h;go_wp2
   go_meet
   case rel=>exact⟨_,_,_,_,_,_,_,_,_,_,_,_,rfl,by rw[<-B.o];unfold Hid gB;rw[cH];simp[and_assoc,h],Y,Y,Y⟩
  all_goals
   go_wp2
   go_meet
   case rel=>exact⟨_,_,_,_,_,_,_,_,_,_,_,_,rfl,by rw[<-B.o];unfold Hid gB;rw[cH];simp[and_assoc]<;>(intros;rfl),Y,Y,Y⟩
 case rest=>
 obtain⟨f,g,i,p,c,q,r,d,s,l,b,m,J,C,P,Q,R⟩:=hcut;have L:=J.o;subst L;have t:wt (gB (decide (f=0)) (decide (g=0)) (decide (i.size=0)) (c+d+b)=CS->j=CS):=λh=>C.t h;by_cases x:f=0
 ·subst x;by_cases E:g=0
  ·subst E;by_cases n:i.size=0
   ·have K:=gz n;subst K;have e:wt (j=decide (c+d+b=0)):=C.o.t rfl;go_wp2;go_ret;refine⟨?_,k _⟩;rw[e.o];show BX (Bs ((c:Int)+(d:Int)+(b:Int)==0))=_;congr 2;rw[cH];simp;omega
   ·have aa:(i.toList==[])=CS:=by rw[gK,du];intro u;rw[u]at n;exact n rfl
    have e:=H (t (by unfold gB;simp[n]));go_wp2;go_ret;exact⟨by rw[e.o];rfl,k _⟩
  ·have tp:(g==0)=CS:=eS;have e:=H (t (by unfold gB;simp[E]));go_wp2;go_ret;exact⟨by rw[e.o];rfl,k _⟩
 ·have tn:(f==0)=CS:=by simpa using x
  have e:=H (t (by unfold gB;simp[x]));go_wp2;go_ret;exact⟨by rw[e.o];rfl,k _⟩
def mW{α:Type}(objs a b:Nat)(V:GN α):Bool:=decide (b+V.items.length<=2000)&&(decide (a<=12)&&(!(decide (V.kind=8/\1<a))&&(!(decide (V.kind=9/\¬(1<=V.n/\V.n<=(objs:Int))))&&(j5 V&&jT V))))
def kT(objs:Nat):(k:Nat)->Nat->Nat->List (GT k)->Option Nat
 |0,_,a,_=>O a
 |k+1,dp,a,b=>b.foldlM (λ(a:Nat) (V:GN (GT k))=>if mW objs dp a V=CD then kT objs k (dp+1) (a+V.items.length) V.items else N) a
def oh(objs k dp a:Nat)(V:GN (GT k)):Option Nat:=if mW objs dp a V=CD then kT objs k (dp+1) (a+V.items.length) V.items else N
def sf(b k a d:Nat)(c:GT (k+1))(e:List (GT (k+1))):kT b (k+1) a d (c::e)=match oh b k a d c with|none=>N|some f=>kT b (k+1) a f e:=by show(oh b k a d c >>= λf=>kT b (k+1) a f e)=_;cases oh b k a d c<;>rfl
def qs(e:Nat):∀(k c:Nat) (d:List (GT k)) (f:Nat),f<=2000 ->kT e k c f d=if(d.all (jw e k c))=CD/\f+(d.map (ie k)).sum<=2000+G d then O (f+(d.map (ie k)).sum-G d)else N
 |0,c,d,f,o=>by
  have l:(d.map (ie 0)).sum=G d:=by
   induction d with
   |nil=>rfl
   |cons j d s=>simp only[bM,cT,ai,s];unfold ie;omega
  have g:d.all (jw e 0 c)=CD:=by rw[bG];intro x _;rfl
  rw[l,g,ak ⟨rfl,Y⟩];unfold kT;congr 1;omega
 |k+1,c,[],f,o=>by unfold kT;simp only[List.all_nil,ew,List.sum_nil,aB];rw[ak ⟨trivial,Y⟩];rfl
 |k+1,c,a::d,f,o=>by
  rw[sf];unfold oh;have q:ie (k+1) a=1+((GN.items (α:=GT k) a).map (ie k)).sum:=rfl;have r:jw e (k+1) c a=((decide (c<=12)&&(!(decide (GN.kind (α:=GT k) a=8/\1<c))&&(!(decide (GN.kind (α:=GT k) a=9/\¬(1<=GN.n (α:=GT k) a/\GN.n (α:=GT k) a<=(e:Int))))&&(j5 (α:=GT k) a&&jT (α:=GT k) a))))&&(GN.items (α:=GT k) a).all (jw e k (c+1))):=by show(decide (c<=12)&&(j5 (α:=GT k) a&&(mD (α:=GT k) e c a&&_)))=_;unfold mD;cases decide (c<=12)<;>cases j5 (α:=GT k) a<;>cases jT (α:=GT k) a<;>simp
  have l:mW (α:=GT k) e c f a=(decide (f+(GN.items (α:=GT k) a).length<=2000)&&(decide (c<=12)&&(!(decide (GN.kind (α:=GT k) a=8/\1<c))&&(!(decide (GN.kind (α:=GT k) a=9/\¬(1<=GN.n (α:=GT k) a/\GN.n (α:=GT k) a<=(e:Int))))&&(j5 (α:=GT k) a&&jT (α:=GT k) a))))):=rfl;rw[dD,r,l,bM,cT,q,ai];generalize (decide (c<=12)&&(!(decide (GN.kind (α:=GT k) a=8/\1<c))&&(!(decide (GN.kind (α:=GT k) a=9/\¬(1<=GN.n (α:=GT k) a/\GN.n (α:=GT k) a<=(e:Int))))&&(j5 (α:=GT k) a&&jT (α:=GT k) a))))=p;have u:=vP (GN.items (α:=GT k) a);have v:=vP d;cases p with
  |false=>simp
  |true=>
   by_cases g:f+(GN.items (α:=GT k) a).length<=2000
   ·rw[aH g,Bool.and_true,ak rfl,qs e k _ _ _ g,cC];cases t:(GN.items (α:=GT k) a).all (jw e k (c+1))with
    |false=>simp
    |true=>
     generalize ((GN.items (α:=GT k) a).map (ie k)).sum=j at *;generalize (GN.items (α:=GT k) a).length=b at *;by_cases m:f+b+j<=2000+b
     ·rw[ak ⟨rfl,m⟩];simp only[];rw[qs e (k+1) c d _ Y];rw[cC];by_cases i:(d.all (jw e (k+1) c))=CD/\f+(1+j+(d.map (ie (k+1))).sum)<=2000+(G d+1);·rw[ak i,ak ⟨i.1,Y⟩];congr 1;omega
      ·rw[aj i,aj (λh=>i ⟨h.1,Y⟩)]
     ·rw[aj (λh=>m h.2),aj (λh=>m Y)]
   ·rw[av g,Bool.false_and,aj cO,aj (λh=>g Y)]
def uy{objs k dp b c:Nat}{V:GN (GT k)}(f:b<=2000)(a:oh objs k dp b V=O c):b<=c/\c<=2000:=by
 unfold oh at a;split at a
 ·rename_i h;have d:b+V.items.length<=2000:=by unfold mW at h;simp only[a_,bT]at h;exact h.1
  rw[qs _ _ _ _ _ d]at a;have:=vP V.items;split at a
  ·rename_i e;cases a;omega
  ·cases a
 ·cases a
def qj(wb objs a:Nat)(w:vz):Prop:=w.heap[wb]?=O (BV #[I U objs,I U a] 118 (0,0))
def sX(b e:Nat)(d:Option Nat)(w:vz)(a:xc)(w':vz):Prop:=
 iJ b w w'/\match d with
  |some c=>a=BX (Bs CD)/\qj b e c w'
  |none=>a=BX (Bs CS)
def sX.no{b c:Nat}{a:Option Nat}(h:a=N)(k:iJ b w w'):sX b c a w (BX (Bs CS)) w':=by subst h;exact⟨k,rfl⟩
def sX.yes{a d b:Nat}{c:Option Nat}(h:c=O b)(k:iJ a w w')(e:qj a d b w'):sX a d c w (BX (Bs CD)) w':=by subst h;exact⟨k,rfl,e⟩
def FO(e g k:Nat):Prop:=
 ∀(b:vz) (f:Nat->Prop) (a:List (GT k)) (h:Option wT) (j c d:Nat),1<=c->c<=13->1<=d->d<=2000->nD (ku f k) f b h a->(∀i,f i->i≠e)->(∀l∈a,GB l)->G a<=140737488355328->qj e g d b ->wh DG 92 #[A3 (O ⟨e,0,N⟩),Z h (G a) j,I U (c:Nat)] b (sX e g (kT g k c d a) b)
def ku.onlyY{b:Nat->Prop}{k d:Nat}{e:wg}{c:GT k}(h:ku b k w e c)(f:∀a,b a->a≠d)(j:iJ d w w'):ku b k w' e c:=
 ku.keep k h (λa g i=>j.block a i (f a g))
def yw(e:Nat)(d b:wT)(f g:wg)(c:Array Bool)(a:vz):Prop:=(c.getD e CS=CS->a.cell? d=O f)/\a.cell? b=O g
def yw.set{a i:Nat}{d b:wT}{e f:wg}{L:Array Bool}{c:vz}(g:i≠a):yw a d b e f L c↔yw a d b e f (L.setIfInBounds i CD) c:=by unfold yw;rw[getD_set_ne CS g]
def Jh{a:Array Bool}{c:Nat}(h:a.getD c CD=CS):a.getD c CS=CS:=by
 rcases cW c a.size with b|b;·simp[b]at h ⊢;exact h
 ·simp[Nat.not_lt.2 b]at h
def LR{w:vz}{b:Nat}{a d e f g i j:wg}{c:TypeId}(h:w.heap[b]?=O (BV #[a,d,e,f,g,i,j] c (0,0))):w.cell? ⟨b,0,N⟩=O a:=cb h
def LS{w:vz}{b:Nat}{d a e f g i j:wg}{c:TypeId}(h:w.heap[b]?=O (BV #[d,a,e,f,g,i,j] c (0,0))):w.cell? ⟨b,1,N⟩=O a:=cb h
def LG{w:vz}{b:Nat}{d e a f g i j:wg}{c:TypeId}(h:w.heap[b]?=O (BV #[d,e,a,f,g,i,j] c (0,0))):w.cell? ⟨b,2,N⟩=O a:=cb h
def LU{w:vz}{b:Nat}{d e f a g i j:wg}{c:TypeId}(h:w.heap[b]?=O (BV #[d,e,f,a,g,i,j] c (0,0))):w.cell? ⟨b,3,N⟩=O a:=cb h
def Jm{w:vz}{b:Nat}{d e f g a i j:wg}{c:TypeId}(h:w.heap[b]?=O (BV #[d,e,f,g,a,i,j] c (0,0))):w.cell? ⟨b,4,N⟩=O a:=cb h
def LW{w:vz}{b:Nat}{d e f g i a j:wg}{c:TypeId}(h:w.heap[b]?=O (BV #[d,e,f,g,i,a,j] c (0,0))):w.cell? ⟨b,5,N⟩=O a:=cb h
def LX{w:vz}{b:Nat}{d e f g i j a:wg}{c:TypeId}(h:w.heap[b]?=O (BV #[d,e,f,g,i,j,a] c (0,0))):w.cell? ⟨b,6,N⟩=O a:=cb h
def QF{c f k nodes j:Nat}{a6:Nat->Prop}{a3:wg}{d:GN (GT k)}(cr:1<=j)(cs:j<=13)(ih:FO c f k)(hv:ku a6 (k+1) w a3 d)(hP:∀p,a6 p->p≠c)(ci:GB (k:=k+1) d)(e:qj c f nodes w)(cl:1<=nodes)(cn:nodes<=2000)(ct:f<=100000):wh DG 130 #[A3 (O ⟨c,0,N⟩),a3,I U (j:Nat)] w (sX c f (if mW f j nodes d=CD then kT f k (j+1) (nodes+d.items.length) d.items else N) w):=by
 obtain⟨⟨_,_,_⟩,b3,D,J,b6,b7,b8,b9⟩:=ci;obtain⟨r,s,Q,R,K,L,a2,bm,br,bh⟩:=hv.parts;have cv:=ap e;have bw:wt (∀a:vz,iJ c w a->wh DG 176 #[a3] a λt w'=>t=BX (Bs (j5 d))/\wm a.heap.size a w'):=
  λa A=>by rw[a2];exact Qp _ _ _ _ _ _ _ _ _ _ _ _ _ D J b6
 have bx:wt (∀a:vz,iJ c w a->wh DG 177 #[a3] a λt w'=>t=BX (Bs (jT d))/\wm a.heap.size a w'):=
  λa A=>by rw[a2];exact Jo (br.keep λp P al=>A.block p al (hP p P)) (bh.keep λp P al=>A.block p al (hP p P)) J b6 D
 have ba:wt (j<=12->∀(a:vz) (T:Nat),iJ c w a->1<=T->T<=2000->qj c f T a->wh DG 92 #[A3 (O ⟨c,0,N⟩),Z r d.items.length s,I U ((j+1:Nat):Int)] a (sX c f (kT f k (j+1) T d.items) a)):=
  λaa a T A E h2 h3=>ih a a6 d.items r s (j+1) T Y Y E h2 (bm.keep λp P al=>A.block p al (hP p P)) hP b9 D h3
 obtain⟨x,o⟩:∃x,(if mW f j nodes d=CD then kT f k (j+1) (nodes+d.items.length) d.items else N)=x:=⟨_,rfl⟩;rw[o];unfold mW at o;unfold qf at a2;have bb:wt (j<=12->∀a:vz,iJ c w a->nodes+d.items.length<=2000->qj c f (nodes+d.items.length) a->wh DG 92 #[A3 (O ⟨c,0,N⟩),Z r d.items.length s,I U ((j+1:Nat):Int)] a (sX c f (kT f k (j+1) (nodes+d.items.length) d.items) a)):=
  λaa a A E h2=>ba aa a _ A Y E h2
 clear ba;generalize kT f k (j+1) (nodes+d.items.length) d.items=WR at *;generalize j5 d=BB at *;generalize jT d=RR at *;generalize d.n=q at *;generalize d.places=V at *;generalize d.text=W at *;generalize d.filters.length=M at *;generalize d.keys.length=S at *;generalize ck:d.items.length=g at *;generalize d.kind=n at *;subst a2;clear hv hP br bh bm ih ck b3 J b6 b7 b8 b9;have F:wm w.heap.size w (w.alloc (BV #[I U n,I U q,I U V,y7 W,Z r g s,Z Q S R,Z K M L] 67)):=(ar _ _).alloc (ag _) _;have a1:(w.alloc (BV #[I U n,I U q,I U V,y7 W,Z r g s,Z Q S R,Z K M L] 67)).heap[w.heap.size]?=O (BV #[I U n,I U q,I U V,y7 W,Z r g s,Z Q S R,Z K M L] 67 (0,0)):=bn _ _;have ac:(w.alloc (BV #[I U n,I U q,I U V,y7 W,Z r g s,Z Q S R,Z K M L] 67)).heap[c]?=O (BV #[I U f,I U nodes] 118 (0,0)):=nt _ e;have C:wt (yw 10 ⟨c,1,N⟩ ⟨w.heap.size,4,N⟩ (I U nodes) (Z r g s) (Array.replicate 11 CS) (w.alloc (BV #[I U n,I U q,I U V,y7 W,Z r g s,Z Q S R,Z K M L] 67)).drew):=⟨λ_=>by show(w.alloc _).cell? _=_;rw[cb ac];rfl,by show(w.alloc _).cell? _=_;rw[cb a1];rfl⟩;have cg:=rU ac;have cj:=lQ 1 ac;obtain⟨B,a8⟩:∃B,w.alloc (BV #[I U n,I U q,I U V,y7 W,Z r g s,Z Q S R,Z K M L] 67)=B:=⟨_,rfl⟩;rw[a8]at F a1 ac C cg cj;have K2:wt (iJ c w ((B.setCell ⟨c,1,N⟩ (I U ((nodes:Int)+(g:Int)))).drew)):=iJ.setCell (w:=w) (w':=B) ⟨F.os,F.tape,F.output,F.size,λp P _=>F.block p P⟩ 1 _ |>.t (.of_below (ar _ _).drew)
 have ao:wt (qj c f (nodes+g) ((B.setCell ⟨c,1,N⟩ (I U ((nodes:Int)+(g:Int)))).drew)):=by unfold Hid qj;show(B.setCell ⟨c,1,N⟩ (I U ((nodes:Int)+(g:Int)))).heap[c]?=_;rw[nu _ ac];rfl
 have a0:wt (((B.setCell ⟨c,1,N⟩ (I U ((nodes:Int)+(g:Int)))).drew).heap[w.heap.size]?=O (BV #[I U n,I U q,I U V,y7 W,Z r g s,Z Q S R,Z K M L] 67 (0,0))):=by unfold Hid;show(B.setCell ⟨c,1,N⟩ (I U ((nodes:Int)+(g:Int)))).heap[w.heap.size]?=_;rw[lK _ (by show w.heap.size≠c;omega)];exact a1
 have cq:IntKind.i64.wrap ((nodes:Int)+(g:Int))=(nodes:Int)+(g:Int):=by rw[bu];omega
 have bv:=H a8;clear F a1 ac a8
 go_in
 go_wp2_with fail;rw[bv.o];refine AX (yw 10 ⟨c,1,N⟩ ⟨w.heap.size,4,N⟩ (I U nodes) (Z r g s)) aG ?_;intro i;have l:=C.o;refine tj 0 i l λi l=>?_;refine tj 1 i l λi l=>?_;refine tj 2 i l λi l=>?_;refine tl 3 i l (λi l=>?_) (y:=λa hW=>by obtain⟨bd,bf,hL,a7⟩:=hW;have cf:=a7.1 (by cases u:bd.getD 10 CS with|false=>rfl|true=>exact absurd (bf.came 2 10 aG u) (by rw[Jh hL];decide));go_simp;try(with_reducible rfl));refine tj 4 i l λi l=>?_;refine tl 5 i l (λi l=>?_) (y:=λa hW=>by obtain⟨bd,bf,hL,a7⟩:=hW;have cf:=a7.2;go_simp;try(with_reducible rfl));refine tj 6 i l λi l=>?_;refine tj 7 i l λi l=>?_;refine tj 8 i l λi l=>?_;refine tj 9 i l λi l=>?_;refine on 10 i λK' hK=>?_;go_simp;refine hK _ _ ⟨λu=>(by cases u),cb a0⟩ (λcd ce=>?_);have i:=cd;have l:=ce
 (try simp only[lr])
 refine uX aG ?_ _;generalize (B.setCell ⟨c,1,N⟩ (I U ((nodes:Int)+(g:Int)))).drew=X at *;have q1:=rU ao;have q0:=nw ao;obtain⟨d0,d1,d2,d3,d4,d5,d6⟩:=A5 a0;by_cases E:nodes+g<=2000
 ·rw[aH E,cC]at o;have Q1:=H (BZ ((nodes+g:Nat):Int) 1 2000 X Y Y);by_cases aa:j<=12;rotate_left
  ·have m:wt (x=N):=by unfold Hid;rw[<-o,av aa];rfl
   have Q2:=H (BU (j:Int) 1 12 X Y);generalize ((nodes+g:Nat):Int)=zn at *;go_wp2_with fail;apply Q1.o.m;rintro t w3 ⟨rfl,e⟩;have e:=e.s;subst e;go_wp2_with fail;apply Q2.o.m;rintro t w3 ⟨rfl,e⟩;have e:=e.s;subst e;go_wp2;go_ret;exact .no m K2
  rw[aH aa,cC]at o;have bt:=H (λa A h=>bb aa a A E h);have Q2:=H (BZ (j:Int) 1 12 X Y Y);generalize ((nodes+g:Nat):Int)=zn at *;generalize nodes+g=ni at *;clear bb E cl cn D;go_wp2_with fail;apply Q1.o.m;rintro t w3 ⟨rfl,e⟩;have e:=e.s;subst e;go_wp2_with fail;apply Q2.o.m;rintro t w3 ⟨rfl,e⟩;have e:=e.s;subst e;clear Q1 Q2
  go_upto_region 5 with fail
  obtain⟨C8,h8⟩:∃a4,decide (n=8/\1<j)=a4:=⟨_,rfl⟩;rw[h8]at o;go_cut [27]from 28 (λb wx=>b=Bs C8/\wx=X)
  case first=>
   by_cases h:n=8
   ·have t8:(n==8)=CD:=eS;go_wp2
    go_meet
    case rel=>exact⟨by rw[<-h8];simp[h];try omega,rfl⟩
   ·have t8:(n==8)=CS:=eS;go_wp2
    go_meet
    case rel=>exact⟨by rw[<-h8];simp[h];try omega,rfl⟩
  case rest=>
  obtain⟨rfl,e⟩:=hcut;have e:=e.s;subst e;cases C8 with
  |true=>
   have m:wt (x=N):=by unfold Hid;rw[<-o];rfl
   clear o;go_wp2;go_ret;exact .no m K2
  |false=>
  go_upto_region 7 with fail
  obtain⟨C9,u⟩:∃a4,decide (n=9/\¬(1<=q/\q<=(f:Int)))=a4:=⟨_,rfl⟩;rw[u]at o;go_cut [35]from 36 (λb wx=>b=Bs C9/\∃ad,wx=X.drewN ad)
  case first=>
   by_cases h:n=9
   ·have t9:(n==9)=CD:=eS;by_cases h':1<=q/\q<=(f:Int)
    ·have a5:=H (λa=>BZ q 1 f a h'.1 h'.2);have C:wt (C9=CS):=by unfold Hid;rw[<-u];simp[h,h']
     clear u h h';go_quiet ((go_at_call 63;exact dA (a5 _)));go_wp2
     go_meet
     case rel=>exact⟨by rw[C.o],_,rfl⟩
    ·have a5:=H (λa=>BU q 1 f a Y);have C:wt (C9=CD):=by unfold Hid;rw[<-u];simp[h,h']
     clear u h h';go_quiet ((go_at_call 63;exact dA (a5 _)));go_wp2
     go_meet
     case rel=>exact⟨by rw[C.o],_,rfl⟩
   ·have t9:(n==9)=CS:=eS;have C:wt (C9=CS):=by unfold Hid;rw[<-u];simp[h]
    clear u h;go_quiet (fail);go_wp2
    go_meet
    case rel=>exact⟨by rw[C.o],_,rfl⟩
  case rest=>
  obtain⟨rfl,ad,bs⟩:=hcut;cases C9 with
  |true=>
   have m:wt (x=N):=by unfold Hid;rw[<-o];rfl
   have K3:=H (K2.drewN ad);clear o;go_wp2;go_ret;exact .no m K3
  |false=>
  have v:wt ((X.drewN ad).heap[w.heap.size]?=O (BV _ _ _)):=a0;have bc:wt (qj c f _ (X.drewN ad)):=ao;have K3:=H (K2.drewN ad);have m:wt ((if(BB&&RR)=CD then WR else N)=x):=by unfold Hid;rw[<-o];rfl
  rw[<-bs]at K3 bc v;clear bs d0 d1 d2 d3 d4 d5 d6 q0 q1 K2 ao a0 o;have co:=ap v;have bz:=H (bw wc K3);have d0:=LR v;have d1:=LS v;have d2:=LG v;have d3:=LU v;have d4:=Jm v;have d5:=LW v;have d6:=LX v;go_wp2_with fail;apply bz.o.m;rintro t w4 ⟨rfl,D⟩;have K4:=H (K3.t (.of_below D));have z:=H ((D.block _ co).t v);have b1:wt (qj c f _ w4):=(D.block c Y).t bc;cases BB with
  |false=>have m:wt (x=N):=m.o.s;go_wp2;go_ret;exact .no m K4
  |true=>
  have cp:=ap z;have b0:=H (bx w4 K4);have d0:=LR z;have d1:=LS z;have d2:=LG z;have d3:=LU z;have d4:=Jm z;have d5:=LW z;have d6:=LX z;go_wp2_with fail;apply b0.o.m;rintro t w5 ⟨rfl,J⟩;have K5:=H (K4.t (.of_below J));have cc:=H ((J.block _ cp).t z);have b2:wt (qj c f _ w5):=(J.block c Y).t b1;cases RR with
  |false=>have m:wt (x=N):=m.o.s;go_wp2;go_ret;exact .no m K5
  |true=>
  have m:wt (x=WR):=m.o.s;have e4:=Jm cc;have a9:=H (bt w5 K5 b2);rw[show((j+1:Nat):Int)=(j:Int)+1 from rfl]at a9;go_wp2_with fail;apply a9.o.m;rintro t w6 ⟨o6,h6⟩;have K6:=H (K5.t o6);cases WR with
  |none=>simp only[]at h6;subst h6;go_wp2;go_ret;exact .no m K6
  |some T=>obtain⟨rfl,h6⟩:=h6;have ca:=H h6;go_wp2;go_ret;exact .yes m K6 ca
 ·have m:wt (x=N):=by unfold Hid;rw[<-o,av E];rfl
  go_wp2_with fail;apply(BU _ 1 2000 _ Y).m;rintro t w3 ⟨rfl,e⟩;have e:=e.s;subst e;go_wp2;go_ret;exact .no m K2
def ku.form3{j:Nat->Prop}{k:Nat}{i:wg}{a:GT k}(h:ku j k w i a):∃(p q:Int) (l:ByteArray) (d:Option wT) (n e:Nat) (f:Option wT) (o g:Nat) (b:Option wT) (m c:Nat),i=Bc #[I U (ly a),I U p,I U q,y7 l,Z d n e,Z f o g,Z b m c]:=by
 cases k with
 |zero=>cases h
 |succ k=>obtain⟨d,e,f,g,b,c,rfl,_⟩:=h;exact⟨_,_,_,_,_,_,_,_,_,_,_,_,rfl⟩
def Qy{q a k:Nat}(a8:a<=100000)(h1:FO q a k):FO q a (k+1):=by
 intro s bc g va vc d J a9 ba a6 a7 hV hP hF a4 hw;obtain⟨n,W⟩:∃n,kT a (k+1) d J g=n:=⟨_,rfl⟩;rw[W];have HV:=H hV;have H1:=H h1;have x:=H hP;have HF:=H hF;have HW:=H hw;have HR:=H W;obtain⟨o,hn⟩:∃o,G g=o:=⟨_,rfl⟩;rw[hn]at a4 ⊢;have r:=H hn
 go_in
 go_wp2;go_loopw [11] (λD wr=>∃(e b:Nat),e<=o/\D=I U e/\1<=b/\b<=2000/\wt (iJ q s wr)/\wt (qj q a b wr)/\wt (kT a (k+1) d b (g.drop e)=n)) (λD _=>o-(intOf D).toNat)
 case atStart=>exact⟨0,J,aw _,rfl,a6,a7,iJ.refl _ _,HW,HR⟩
 case round=>
  obtain⟨e,b,i,rfl,ao,X,v,M,y⟩:=hrel;rcases aC i with i|i
  ·subst i;have z:wt (n=O b):=by unfold Hid;rw[<-y.o,cY (by rw[r.o];exact ag _)];rfl
   go_wp2;go_ret;exact .yes z v M
  ·obtain⟨c,u⟩:∃c,g[e]?=O c:=⟨_,af (by rw[r.o];exact i)⟩;have a0:g.drop e=c::g.drop (e+1):=by rw[b_ (by rw[r.o];exact i)];congr 1;rw[af (by rw[r.o];exact i)]at u;simpa using u
   rw[a0,sf]at y;obtain⟨p,bb,bd,rfl,a2,l,hx⟩:=HV.o e c u;have a3:=x.o p a2;have a5:=aQ u;have a1:=HF.o c a5;obtain⟨F,k1,k2,k3,ja,jl,jc,aa,kl,ac,R,T,S,f⟩:=ku.form hx;have j:∀{E:Nat} {L:wg},s.cell? ⟨p,E,N⟩=O L->wr.cell? ⟨p,E,N⟩=O L:=λ{E L} h=>by rw[World.cell?_of_block (w:=s) (v.o.block p (aA s _ h) a3)];exact h
   have d0:wr.cell? ⟨p,bb+e*7,N⟩=O (I U F):=j (l 0 _ (by rw[f];rfl));have d1:=j (l 1 _ (by rw[f];rfl));have d2:=j (l 2 _ (by rw[f];rfl));have d3:=j (l 3 _ (by rw[f];rfl));have d4:=j (l 4 _ (by rw[f];rfl));have d5:=j (l 5 _ (by rw[f];rfl));have d6:=j (l 6 _ (by rw[f];rfl));have bA:wm wr.heap.size wr (wr.alloc (BV #[I U F,I U k1,I U k2,y7 k3,Z ja jl jc,Z aa kl ac,Z R T S] 67)):=(ar _ _).alloc (ag _) _;have oA:=v.o.t (.of_below bA);have Q:=H (QF (nodes:=b) a9 ba H1 (ku.onlyY hx x oA) x a1 (show qj q a b (wr.alloc (BV #[I U F,I U k1,I U k2,y7 k3,Z ja jl jc,Z aa kl ac,Z R T S] 67))from nt _ M) ao X a8);have A:wt ((match(if mW a d b c=CD then kT a k (d+1) (b+(GN.items c).length) (GN.items c)else N)with|none=>N|some o=>kT a (k+1) d o (g.drop (e+1)))=n):=by have:=y;unfold oh at this;exact this
   have HB:wt (∀m,(if mW a d b c=CD then kT a k (d+1) (b+(GN.items c).length) (GN.items c)else N)=O m->b<=m/\m<=2000):=λm C=>by refine uy (objs:=a) (k:=k) (dp:=d) (V:=c) X ?_;unfold oh;exact C
   have P:=H oA;subst f;generalize (if mW a d b c=CD then kT a k (d+1) (b+(GN.items c).length) (GN.items c)else N)=SW at *;cases SW with
   |none=>have z:wt (n=N):=A.o.s;go_wp2_with fail;apply Q.o.m;rintro al w2 ⟨K,t⟩;simp only[]at t;subst t;have B:=H (P.t K);go_wp2;go_ret;exact .no z B
   |some m=>
    have C:=HB.o m rfl;simp only[]at A;go_wp2_with fail;apply Q.o.m;rintro al w2 ⟨K,rfl,t⟩;have B:=H (P.t K);have ad:=H t;go_wp2;go_roundw
    case rel=>exact⟨e+1,m,Y,by first|rfl|(congr 1),Y,C.2,B,ad,A⟩
    case measure=>exact eT
def Qz{c b:Nat}:FO c b 0:=by
 intro d l g i j e a s t q r n m hF p h;cases g with
 |cons k _=>exact k.elim
 |nil=>
  have f:=H h;rw[show kT b 0 e a []=O a from rfl];show wh DG 92 #[A3 (O ⟨c,0,N⟩),Z i 0 j,I U (e:Nat)] d (sX c b (O a) d)
  go_in
  go_wp2;refine wp_loop_rounds 1 ?_;rw[rounds_succ];go_wp2;go_ret;exact .yes rfl (iJ.refl _ _) f
def LQ{wb objs:Nat}(a:objs<=100000):∀(k:Nat),FO wb objs k
 |0=>Qz
 |k+1=>Qy a (LQ a k)
def L7{k:Nat}{d:List (GT k)}{root:Int}{B:Option wT}{oc:Nat}(h:nD (ku (λc=>c<w.heap.size) k) (λc=>c<w.heap.size) w B d)(hF:∀i∈d,GB i)(M:G d<=140737488355328):wh DG 61 #[Bc #[Z B (G d) oc,I U root]] w λg w'=>g=BX (Bs (jm d root))/\wm w.heap.size w w':=by
 have D:=H h;obtain⟨a,A⟩:∃a,G d=a:=⟨_,rfl⟩;rw[A]at M;obtain⟨j,e⟩:∃j,jm d root=j:=⟨_,rfl⟩;rw[e,A];unfold jm at e;rw[A]at e;have v:=H A;have T:=H hF;have u:wt (wm w.heap.size w (w.alloc (BV #[Z B a oc,I U root] 31))):=(ar _ _).alloc (ag _) _;by_cases P:1<=a/\a<=100
 ·rw[aH P,cC]at e;have q:=H (λl=>BZ (a:Int) 1 100 l Y Y);by_cases Q:1<=root/\root<=(a:Int)
  ·rw[aH Q,cC]at e;obtain⟨r,rfl⟩:∃r:Nat,root=(r:Int)+1:=⟨(root-1).toNat,Y⟩;rw[show((r:Int)+1-1).toNat=r by omega]at e;have X:r<a:=Y;have x:=H (λl=>BZ ((r:Int)+1) 1 (a:Int) l Y Y);obtain⟨i,S⟩:∃i,d[r]?=O i:=⟨_,af (by rw[v.o];exact X)⟩;rw[S]at e;obtain⟨c,o,ao,rfl,_,ac,hx⟩:=D.o r i S;obtain⟨nn,pp,tt,ia,il,ic,ka,kl,kc,fa,fl,fc,rfl⟩:=ku.form3 hx;have V:(w.alloc (BV #[Z (O ⟨c,o,N⟩) a oc,I U ((r:Int)+1)] 31)).cell? ⟨c,o+r*7,N⟩=O (I U (ly i)):=by have:=ac 0 _ rfl;rw[eD]at this;rw[World.cell?_alloc_lt _ _ _ (aA w _ this)];exact this
   have ad:IntKind.i64.wrap ((r:Int)+1-1)=(r:Int):=by rw[bu];omega
   rw[bK]at e;by_cases J:ly i=7
   ·rw[J]at e V;rw[aH rfl,cC]at e;have aa:qj (w.heap.size+1) a a ((w.alloc (BV #[Z (O ⟨c,o,N⟩) a oc,I U ((r:Int)+1)] 31)).alloc (BV #[I U a,I U a] 118)):=by have:=bn (w.alloc (BV #[Z (O ⟨c,o,N⟩) a oc,I U ((r:Int)+1)] 31)) (BV #[I U a,I U a] 118);rw[aV]at this;exact this
    have E:wm w.heap.size w ((w.alloc (BV #[Z (O ⟨c,o,N⟩) a oc,I U ((r:Int)+1)] 31)).alloc (BV #[I U a,I U a] 118)):=u.o.alloc cO _;have K:=LQ (wb:=w.heap.size+1) (objs:=a) Y k _ (λc=>c<w.heap.size) d (O ⟨c,o,N⟩) oc 1 a Y Y Y Y (D.keep λc s _=>E.block c s) (λc s=>Y) T (by rw[v.o];exact M) aa;rw[v.o]at K;have C:=H K;have m:=H E;rw[show((1:Nat):Int)=1 from rfl]at C
    go_in
    go_wp2_with fail;apply(q _).m;rintro g p ⟨rfl,b⟩;have b:=b.s;subst b;go_wp2_with fail;apply(x _).m;rintro g p ⟨rfl,b⟩;have b:=b.s;subst b;go_wp2_with fail;apply C.o.m;rintro g w4 ⟨t,n⟩;have F:wt (wm w.heap.size w w4):=⟨t.os.t m.o.os,t.tape.t m.tape,t.output.t m.o.output,aJ m.size t.size,λc s=>(t.block c (aF s m.size) Y).t (m.block c s)⟩;have R:=qs a k 1 d a Y;rw[v.o]at R;have z:(kT a k 1 a d).isSome=j:=by
     rw[<-e,R];by_cases y:(d.all (jw a k 1))=CD/\a+(d.map (ie k)).sum<=2000+a;·rw[ak y,y.1,aH Y];rfl
     ·rw[aj y];cases W:d.all (jw a k 1)with
      |false=>rfl
      |true=>rw[av (λn=>y ⟨W,Y⟩)];rfl
    cases L:kT a k 1 a d with
    |none=>rw[L]at n z;simp only[]at n;subst n;have f:wt (j=CS):=z.s;go_wp2;go_ret;exact⟨by rw[f.o];rfl,F⟩
    |some a0=>rw[L]at n z;obtain⟨rfl,_⟩:=n;have f:wt (j=CD):=z.s;go_wp2;go_ret;exact⟨by rw[f.o];rfl,F⟩
   ·have f:wt (j=CS):=by unfold Hid;rw[<-e,av (by simpa using J)];rfl
    have al:((ly i) != 7)=CD:=eS;generalize (ly i)=ky at *
    go_in
    go_wp2_with fail;apply(q _).m;rintro g p ⟨rfl,b⟩;have b:=b.s;subst b;go_wp2_with fail;apply(x _).m;rintro g p ⟨rfl,b⟩;have b:=b.s;subst b;go_wp2;go_ret;exact⟨by rw[f.o];rfl,u⟩
  ·have f:wt (j=CS):=by unfold Hid;rw[<-e,av Q];rfl
   have x:=H (λl=>BU root 1 (a:Int) l Y)
   go_in
   go_wp2_with fail;apply(q _).m;rintro g p ⟨rfl,b⟩;have b:=b.s;subst b;go_wp2_with fail;apply(x _).m;rintro g p ⟨rfl,b⟩;have b:=b.s;subst b;go_wp2;go_ret;exact⟨by rw[f.o];rfl,u⟩
 ·have f:wt (j=CS):=by unfold Hid;rw[<-e,av P];rfl
  have q:=H (λl=>BU (a:Int) 1 100 l Y)
  go_in
  go_wp2_with fail;apply(q _).m;rintro g p ⟨rfl,b⟩;have b:=b.s;subst b;go_wp2;go_ret;exact⟨by rw[f.o];rfl,u⟩
def sS:ByteArray:={data:=#[115,112,97,114,101]}
def nR:wg:=Bc #[I U 77,I U 0,I U 0,y7 {data:=#[115,112,97,114,101]},Z N 0 0,Z N 0 0,Z N 0 0]
def rB(n:wg):Prop:=∃(j l m:Int) (a:ByteArray) (e:Option wT) (g f:Nat) (h:Option wT) (k i:Nat) (b:Option wT) (d c:Nat),n=Bc #[I U j,I U l,I U m,y7 a,Z e g f,Z h k i,Z b d c]
def rB.seven{x:wg}(h:rB x):(cellsOf x).length=7:=by obtain⟨_,_,_,_,_,_,_,_,_,_,_,_,_,rfl⟩:=h;rfl
def Ho:rB nR:=⟨_,_,_,_,_,_,_,_,_,_,_,_,_,rfl⟩
def qM(w:vz)(a:Nat)(L:List wg):Prop:=w.heap[a]?=O (BV (L.flatMap cellsOf).toArray 67 (0,0))/\∀b∈L,rB b
def flat_len{L:List wg}(h:∀x∈L,(cellsOf x).length=7):(L.flatMap cellsOf).length=G L*7:=by
 induction L with
 |nil=>rfl
 |cons x L b=>rw[cG,ab,h x cO,b (λc a=>h c (by simp[a])),ai];omega
def flat_get:∀{L:List wg} {i:Nat} {x:wg},(∀x∈L,(cellsOf x).length=7)->L[i]?=O x->∀{a:Nat},a<7->(L.flatMap cellsOf)[i*7+a]?=(cellsOf x)[a]?:=by
 intro L;induction L with
 |nil=>intro i x _ b;simp at b
 |cons h L g=>
  intro i x c b a e;rw[cG];have d:=c h cO;cases i with
  |zero=>simp at b;subst b;rw[Nat.zero_mul,bZ,aR Y]
  |succ i=>rw[aW (by rw[d,Nat.add_mul];omega),d,show(i+1)*7+a-7=i*7+a by rw[Nat.add_mul];omega];exact g (λj f=>c j (by simp[f])) (by simpa using b) e
def qM.lens{a:Nat}{L:List wg}(h:qM w a L):∀x∈L,(cellsOf x).length=7:=λx b=>(h.2 x b).seven
def qM.cell{c f j:Nat}{b:List wg}{a g:wg}(h:qM w c b)(e:b[f]?=O a)(d:(cellsOf a)[j]?=O g):w.cell? ⟨c,f*7+j,N⟩=O g:=by
 have i:j<7:=by have:=(ay.1 d).1;rw[(h.2 a (aQ e)).seven]at this;exact this
 rw[cb h.1,ch,flat_get h.lens e i];exact d
def qM.there{a m:Nat}{L:List wg}(h:qM w a L)(c:m<G L):w.there a (m*7) 7:=λj b=>by refine⟨?_,pA h.1⟩;rw[cb h.1,ch,af (by rw[flat_len h.lens];omega)];rfl
def qM.set{f c:Nat}{L:List wg}{x:wg}(h:qM w f L)(u:c<G L)(m:rB x):qM (w.setCells f (c*7) (cellsOf x)) f (L.set c x):=by
 have g:∀b∈L.set c x,rB b:=λb a=>by
  rcases List.mem_or_eq_of_mem_set a with a|rfl;·exact h.2 b a
  ·exact m
 refine⟨?_,g⟩;obtain⟨s,n,t,o⟩:=BF f 67 (0,0) (cellsOf x) (c*7) w _ h.1;rw[n];congr 2;have l:=flat_len h.lens;have q:=flat_len (L:=L.set c x) (λb a=>(g b a).seven);rw[dZ]at q;apply Array.ext_getElem?;intro e;rw[o e,m.seven,ch,ch];by_cases r:e<G L*7
 ·obtain⟨i,d,k,rfl⟩:∃i d,d<7/\e=i*7+d:=⟨e/7,e%7,Nat.mod_lt _ Y,Y⟩;have j:i<G L:=Y;rw[dN,l];by_cases p:i=c
  ·subst p;rw[ak ⟨Y,Y,r⟩,flat_get (λb a=>(g b a).seven) (x:=x) (by rw[List.getElem?_set_self j]) k,show i*7+d-i*7=d by omega]
  ·rw[aj Y,flat_get h.lens (af j) k,flat_get (λb a=>(g b a).seven) (x:=L[i]) (by rw[List.getElem?_set_ne Y];exact af j) k]
 ·rw[dN,l,aj Y,List.getElem?_eq_none Y,List.getElem?_eq_none Y]
def qM.keep{a:Nat}{L:List wg}(h:qM w a L)(b:w'.heap[a]?=w.heap[a]?):qM w' a L:=⟨by rw[b];exact h.1,h.2⟩
def qe:(k:Nat)->Nat->Nat->vz->wg->GT k->Prop
 |0,_,_,_,_,_=>False
 |k+1,j,i,w,v,a=>∃(e gk d:Nat) (c:Nat->Nat) (f:List wg),v=qf (show GN (GT k)from a) (O ⟨e,0,N⟩) ((show GN (GT k)from a).items.length+3) (O ⟨gk,0,N⟩) ((show GN (GT k)from a).keys.length+3) (O ⟨d,0,N⟩) ((show GN (GT k)from a).filters.length+3) /\
   G f=(show GN (GT k)from a).items.length/\qM w e (f++[nR,nR,nR]) /\
   w.heap[gk]?=O (BV ((show GN (GT k)from a).keys.map y7++DJ 3 (y7 sS)).toArray 9 (0,0)) /\
   w.heap[d]?=O (BV ((show GN (GT k)from a).filters.map (I U)++DJ 3 (I U 77)).toArray 3 (0,0)) /\
   (j<=e/\e<c 0/\(∀b,c b<=c (b+1))/\c (show GN (GT k)from a).items.length<=gk/\gk<d/\d<i) /\
   ∀(b:Nat) (g:wg) (h:GT k),f[b]?=O g->(show GN (GT k)from a).items[b]?=O h->qe k (c b) (c (b+1)) w g h
def uR{b:Nat->Nat}(h:∀a,b a<=b (a+1)){a j:Nat}(c:a<=j):b a<=b j:=by
 induction c with
 |refl=>exact ag _
 |step _ d=>exact aJ d (h _)
def qe.form{k d c:Nat}{a:wg}{b:GT k}(h:qe k d c w a b):rB a:=by
 cases k with
 |zero=>cases h
 |succ k=>obtain⟨g,gk,f,e,i,rfl,_⟩:=h;exact⟨_,_,_,_,_,_,_,_,_,_,_,_,_,rfl⟩
def qe.keep:∀(k:Nat) {d b:Nat} {v:wg} {V:GT k},qe k d b w v V->(∀a,d<=a->a<b->w'.heap[a]?=w.heap[a]?)->qe k d b w' v V
 |0,_,_,_,_,h,_=>h
 |k+1,d,b,v,V,h,c=>by obtain⟨i,gk,g,l,D,m,s,p,r,o,⟨u,x,e,z,A,B⟩,n⟩:=h;have J:=uR e (aw (show GN (GT k)from V).items.length);refine⟨i,gk,g,l,D,m,s,p.keep (c i Y Y),by rw[c gk Y Y];exact r,by rw[c g Y Y];exact o,⟨u,x,e,z,A,B⟩,λf C y t j=>?_⟩;have q:=(ay.1 j).1;have E:=uR e (aw f);have F:=uR e (show f+1<=(show GN (GT k)from V).items.length from q);exact qe.keep k (n f C y t j) (λa K L=>c a Y Y)
def qe.gin:∀(k:Nat) {g f:Nat} {j:wg} {V:GT k},qe k g f w j V->ku (λe=>g<=e/\e<f) k w j V
 |0,_,_,_,_,h=>h
 |k+1,g,f,j,V,h=>by
  obtain⟨q,gk,p,A,y,o,l,t,u,s,⟨J,K,i,L,M,P⟩,r⟩:=h;have D:=uR i (aw (show GN (GT k)from V).items.length);refine⟨_,_,_,_,_,_,o,λb z n=>?_,λb x c=>?_,λb x c=>?_⟩
  ·have a:=(ay.1 n).1;obtain⟨d,m⟩:∃d,y[b]?=O d:=⟨_,af (by rw[l];exact a)⟩;have B:=uR i (aw b);have C:=uR i (show b+1<=(show GN (GT k)from V).items.length from a);refine⟨q,0,d,rfl,⟨Y,Y⟩,λF Q v=>?_,ku.m k (qe.gin k (r b d z m n)) (λe E _=>⟨Y,Y⟩)⟩;rw[bZ];exact t.cell (by rw[aR (by rw[l];exact a)];exact m) v
  ·have a:=(ay.1 c).1;refine⟨gk,0,rfl,⟨Y,Y⟩,?_⟩;rw[bZ,cb u,ch,aR (by rw[aq];exact a),aE,c];rfl
  ·have a:=(ay.1 c).1;refine⟨p,0,rfl,⟨Y,Y⟩,?_⟩;rw[bZ,cb s,ch,aR (by rw[aq];exact a),aE,c];rfl
end
section
variable{w d:vz}{P:Nat->Prop}
def nX:(k:Nat)->VT k->GT k
 |0,V=>V
 |k+1,V=>(⟨(f_.kind (α:=VT k) V:Int),f_.n (α:=VT k) V,(f_.places (α:=VT k) V:Int),gj (f_.text (α:=VT k) V),(f_.items (α:=VT k) V).map (nX k),(f_.keys (α:=VT k) V).map gj,(f_.filters (α:=VT k) V).map λa:Nat=>(a:Int)⟩:GN (GT k))
def AV{k:Nat}(a:f_ (VT k)):GN (GT k):=⟨(a.kind:Int),a.n,(a.places:Int),gj a.text,a.items.map (nX k),a.keys.map gj,a.filters.map λb:Nat=>(b:Int)⟩
def zB(a:List (List Nat))(b:Nat):i9 (a.map gj) b=n_ a b:=by unfold i9 n_;rw[aq,List.all_map];rfl
def DC(b:Int)(a:Nat):jO b (a:Int)=Ac b a:=by
 unfold jO Ac;have e1:decide ((a:Int)=0)=decide (a=0):=by rw[bO];omega
 have e2:decide (0<=(a:Int)/\(a:Int)<=5)=decide (a<=5):=by rw[bO];omega
 rw[e1,e2]
def DF{c:Type}(a:f_ c):jP (gj a.text).size a.items.length (a.keys.map gj) (a.filters.map λb:Nat=>(b:Int))=lC a:=by unfold jP lC;rw[zB,aq,List.all_map,List.all_map];congr 1;congr 1;funext b;show decide ((1:Int)<=(b:Int)/\(b:Int)<=4)=_;rw[bO];omega
def DE{k:Nat}(a:f_ (VT k)):jT (AV a)=lE a:=by
 unfold jT lE;show(if(a.kind:Int)=0\/(a.kind:Int)=6\/(a.kind:Int)=9 then CD else if(a.kind:Int)=1 then decide (0<=a.n/\a.n<=1)else if(a.kind:Int)=2 then decide (-2147483648<=a.n/\a.n<=2147483647)else if(a.kind:Int)=3 then jO a.n (a.places:Int)else if(a.kind:Int)=4 then i7 (gj a.text)else if(a.kind:Int)=5 then decide ((gj a.text).size<=4000)else if(a.kind:Int)=7 then i9 (a.keys.map gj) (a.items.map (nX k)).length else if(a.kind:Int)=8 then jP (gj a.text).size (a.items.map (nX k)).length (a.keys.map gj) (a.filters.map λb:Nat=>(b:Int))else CS)=_;rw[DC,aq,zB,DF];match a.kind with
 |0=>rfl
 |1=>rfl
 |2=>rfl
 |3=>rfl
 |4=>rfl
 |5=>rfl
 |6=>rfl
 |7=>rfl
 |8=>rfl
 |9=>rfl
 |c+10=>rw[aj Y,aj Y,aj Y,aj Y,aj Y,aj Y,aj Y,aj Y];rfl
def DB{k:Nat}(a:f_ (VT k)):j5 (AV a)=lx a:=by
 unfold j5 oe lx;show((decide ((a.kind:Int)=1\/(a.kind:Int)=2\/(a.kind:Int)=9\/(a.kind:Int)=3)||decide (a.n=0))&&(decide ((a.kind:Int)=3)||decide ((a.places:Int)=0))&&(decide ((a.kind:Int)=4\/(a.kind:Int)=5\/(a.kind:Int)=8)||decide ((gj a.text).size=0))&&(decide ((a.kind:Int)=6\/(a.kind:Int)=7\/(a.kind:Int)=8)||decide ((a.items.map (nX k)).length=0))&&(decide ((a.kind:Int)=7\/(a.kind:Int)=8)||decide ((a.keys.map gj).length=0))&&(decide ((a.kind:Int)=8)||decide ((a.filters.map λb:Nat=>(b:Int)).length=0)))=_;have e1:decide ((a.kind:Int)=1\/(a.kind:Int)=2\/(a.kind:Int)=9\/(a.kind:Int)=3)=decide (a.kind=1\/a.kind=2\/a.kind=9\/a.kind=3):=by rw[bO];omega
 have e2:decide ((a.kind:Int)=3)=decide (a.kind=3):=by rw[bO];omega
 have g:decide ((a.places:Int)=0)=decide (a.places=0):=by rw[bO];omega
 have h:decide ((a.kind:Int)=4\/(a.kind:Int)=5\/(a.kind:Int)=8)=decide (a.kind=4\/a.kind=5\/a.kind=8):=by rw[bO];omega
 have i:decide ((gj a.text).size=0)=decide (a.text=[]):=by rw[bO,show(gj a.text).size=a.text.length from by unfold gj;show(a.text.map UInt8.ofNat).toArray.size=_;simp,cD]
 have j:decide ((a.kind:Int)=6\/(a.kind:Int)=7\/(a.kind:Int)=8)=decide (a.kind=6\/a.kind=7\/a.kind=8):=by rw[bO];omega
 have l:∀{c:Decidable (a.items=[])},decide ((a.items.map (nX k)).length=0)=@decide (a.items=[]) c:=by intro c;rw[bO,aq,cD]
 have m:decide ((a.kind:Int)=7\/(a.kind:Int)=8)=decide (a.kind=7\/a.kind=8):=by rw[bO];omega
 have o:decide ((a.keys.map gj).length=0)=decide (a.keys=[]):=by rw[bO,aq,cD]
 have e:decide ((a.kind:Int)=8)=decide (a.kind=8):=by rw[bO];omega
 have f:decide ((a.filters.map λb:Nat=>(b:Int)).length=0)=decide (a.filters=[]):=by rw[bO,aq,cD]
 rw[e1,e2,g,h,i,j,l,m,o,e,f]
def zA:∀(k:Nat) (a:VT k),ie k (nX k a)=jt k a
 |0,_=>rfl
 |k+1,a=>by show 1+(((f_.items (α:=VT k) a).map (nX k)).map (ie k)).sum=1+((f_.items (α:=VT k) a).map (jt k)).sum;rw[dy];congr 3;funext b;exact zA k b
def zC(c:Nat):∀(k b:Nat) (a:VT k),b+k=13->jw c k b (nX k a)=lG c k a
 |0,_,_,_=>rfl
 |k+1,b,a,h=>by
  have f:12-k=b:=Y;show(decide (b<=12)&&(j5 (AV (show f_ (VT k)from a))&&(mD c b (AV (show f_ (VT k)from a))&&((f_.items (α:=VT k) a).map (nX k)).all (jw c k (b+1)))))=_;have e1:((f_.items (α:=VT k) a).map (nX k)).all (jw c k (b+1))=(f_.items (α:=VT k) a).all (lG c k):=by rw[List.all_map];congr 1;funext g;exact zC c k (b+1) g Y
  unfold mD;rw[e1,DB,DE,aH (show b<=12 by omega),cC];show(lx (α:=VT k) a&&((!(decide ((f_.kind (α:=VT k) a:Int)=8/\1<b)) && !(decide ((f_.kind (α:=VT k) a:Int)=9/\¬(1<=f_.n (α:=VT k) a/\f_.n (α:=VT k) a<=(c:Int))))&&lE (α:=VT k) a)&&_))=(!(decide (f_.kind (α:=VT k) a=8/\1<12-k)) && !(decide (f_.kind (α:=VT k) a=9/\¬(1<=f_.n (α:=VT k) a/\f_.n (α:=VT k) a<=(c:Int))))&&lx (α:=VT k) a&&lE (α:=VT k) a&&_);rw[f];have e2:decide ((f_.kind (α:=VT k) a:Int)=8/\1<b)=decide (f_.kind (α:=VT k) a=8/\1<b):=by rw[bO];omega
  have e:decide ((f_.kind (α:=VT k) a:Int)=9/\¬(1<=f_.n (α:=VT k) a/\f_.n (α:=VT k) a<=(c:Int)))=decide (f_.kind (α:=VT k) a=9/\¬(1<=f_.n (α:=VT k) a/\f_.n (α:=VT k) a<=(c:Int))):=by rw[bO];omega
  rw[e2,e];cases lx (α:=VT k) a<;>simp[Bool.and_assoc]
def qW(a:List (VT 12))(b:Int):jm (a.map (nX 12)) b=jh a b:=by
 rw[pC];unfold jm;rw[aq,aE,List.all_map,dy];congr 1
 ·congr 1;cases a[(b-1).toNat]? with
  |none=>rfl
  |some e=>rw[bO];show O ((f_.kind (α:=VT 11) e:Nat):Int)=O 7↔O (f_.kind (α:=VT 11) e)=O 7;simp only[Option.some.injEq];omega
 ·congr 1
  ·congr 1;funext c;exact zC _ 12 1 c rfl
  ·congr 4;funext c;exact zA 12 c
def Re:(k a:Nat)->GT k->GT a->Prop
 |0,_,_,_=>False
 |_+1,0,_,_=>False
 |k+1,a+1,V,b=>(GN.kind (α:=GT k) V=GN.kind (α:=GT a) b/\GN.n (α:=GT k) V=GN.n (α:=GT a) b/\GN.places (α:=GT k) V=GN.places (α:=GT a) b/\GN.text (α:=GT k) V=GN.text (α:=GT a) b/\GN.keys (α:=GT k) V=GN.keys (α:=GT a) b/\GN.filters (α:=GT k) V=GN.filters (α:=GT a) b)/\(GN.items (α:=GT k) V).length=(GN.items (α:=GT a) b).length/\∀(c:Nat) (e:GT k) (f:GT a),(GN.items (α:=GT k) V)[c]?=O e->(GN.items (α:=GT a) b)[c]?=O f->Re k a e f
def JZ{k b:Nat}{c:List (GT k)}{e:List (GT b)}(f:G c=G e){a:Nat}{i:GT b}(h:e[a]?=O i):∃g,c[a]?=O g:=⟨_,af (by rw[f];exact(ay.1 h).1)⟩
def ku.re:∀(k a:Nat) {c:wg} {V:GT k} {b:GT a},ku P k w c V->Re k a V b->ku P a w c b
 |0,_,_,_,_,h,_=>by cases h
 |k+1,0,_,_,_,_,h=>by cases h
 |k+1,a+1,c,V,b,h,⟨⟨e1,e2,q,r,e,f⟩,i,A⟩=>by
  obtain⟨D,E,n,F,g,t,p,y,B,z⟩:=ku.parts (V:=V) h;refine⟨D,E,n,F,g,t,?_,λm L l=>?_,?_,?_⟩
  ·rw[p];unfold qf;rw[e1,e2,q,r,e,f,i]
  ·obtain⟨o,j⟩:=JZ i l;obtain⟨u,J,K,s,x,v,C⟩:=y m o j;exact⟨u,J,K,s,x,v,ku.re k a C (A m o L j l)⟩
  ·show n8 P w n (GN.keys (α:=GT a) b);rw[<-e];exact B
  ·show q8 P w g (GN.filters (α:=GT a) b);rw[<-f];exact z
def qe.re:∀(k b:Nat) {j i:Nat} {l:wg} {V:GT k} {c:GT b},qe k j i w l V->Re k b V c->qe b j i w l c
 |0,_,_,_,_,_,_,h,_=>by cases h
 |k+1,0,_,_,_,_,_,_,h=>by cases h
 |k+1,b+1,j,i,l,V,c,h,⟨⟨e1,e2,B,C,x,y⟩,n,E⟩=>by
  obtain⟨g,gk,f,e,p,q,v,D,t,s,u,r⟩:=h;have v:G p=(GN.items (α:=GT k) V).length:=v;have q:l=qf (α:=GT k) V (O ⟨g,0,N⟩) ((GN.items (α:=GT k) V).length+3) (O ⟨gk,0,N⟩) ((GN.keys (α:=GT k) V).length+3) (O ⟨f,0,N⟩) ((GN.filters (α:=GT k) V).length+3):=q;have t:w.heap[gk]?=O (BV ((GN.keys (α:=GT k) V).map y7++DJ 3 (y7 sS)).toArray 9 (0,0)):=t;have s:w.heap[f]?=O (BV ((GN.filters (α:=GT k) V).map (I U)++DJ 3 (I U 77)).toArray 3 (0,0)):=s;have u:j<=g/\g<e 0/\(∀a,e a<=e (a+1))/\e (GN.items (α:=GT k) V).length<=gk/\gk<f/\f<i:=u;have r:∀(a:Nat) (o:wg) (m:GT k),p[a]?=O o->(GN.items (α:=GT k) V)[a]?=O m->qe k (e a) (e (a+1)) w o m:=r;refine⟨g,gk,f,e,p,?_,?_,D,?_,?_,?_,λa o J F A=>?_⟩
  ·show l=qf (α:=GT b) c (O ⟨g,0,N⟩) ((GN.items (α:=GT b) c).length+3) (O ⟨gk,0,N⟩) ((GN.keys (α:=GT b) c).length+3) (O ⟨f,0,N⟩) ((GN.filters (α:=GT b) c).length+3);rw[q];unfold qf;rw[e1,e2,B,C,x,y,n]
  ·show (G p)=(GN.items (α:=GT b) c).length;rw[<-n];exact v
  ·show w.heap[gk]?=O (BV ((GN.keys (α:=GT b) c).map y7++DJ 3 (y7 sS)).toArray 9 (0,0));rw[<-x];exact t
  ·show w.heap[f]?=O (BV ((GN.filters (α:=GT b) c).map (I U)++DJ 3 (I U 77)).toArray 3 (0,0));rw[<-y];exact s
  ·show j<=g/\g<e 0/\(∀a,e a<=e (a+1))/\e (GN.items (α:=GT b) c).length<=gk/\gk<f/\f<i;rw[<-n];exact u
  ·obtain⟨m,z⟩:=JZ n A;exact qe.re k b (r a o m F z) (E a m J z A)
def yK{k i:Nat}{b:List (GT k)}{c:List (GT i)}{m:GT k->Bool}{n:GT i->Bool}(q:G b=G c)(h:∀(a:Nat) (j:GT k) (l:GT i),b[a]?=O j->c[a]?=O l->m j=n l):b.all m=c.all n:=by
 rw[cH,bG,bG];constructor
 ·intro f l p;obtain⟨a,g,rfl⟩:=cF p;have e:a<G b:=Y;rw[<-h a b[a] c[a] (af e) (af g)];exact f _ (cI e)
 ·intro f j o;obtain⟨a,g,rfl⟩:=cF o;have e:a<G c:=Y;rw[h a b[a] c[a] (af g) (af e)];exact f _ (cI e)
def yL{k e:Nat}{b:List (GT k)}{c:List (GT e)}{i:GT k->Nat}{j:GT e->Nat}(n:G b=G c)(h:∀(a:Nat) (l:GT k) (m:GT e),b[a]?=O l->c[a]?=O m->i l=j m):(b.map i).sum=(c.map j).sum:=by
 congr 1;apply List.ext_getElem?;intro a;rw[aE,aE];by_cases f:a<G b
 ·have g:a<G c:=Y;rw[af f,af g,bK,bK,h a b[a] c[a] (af f) (af g)]
 ·rw[List.getElem?_eq_none Y,List.getElem?_eq_none Y];rfl
def ux:∀(k a:Nat) {c:GT k} {b:GT a},Re k a c b->ie k c=ie a b
 |0,_,_,_,h=>by cases h
 |k+1,0,_,_,h=>by cases h
 |k+1,a+1,c,b,⟨_,e,f⟩=>by show 1+((GN.items (α:=GT k) c).map (ie k)).sum=1+((GN.items (α:=GT a) b).map (ie a)).sum;rw[yL e (λj l m g i=>ux k a (f j l m g i))]
def vB(c:Nat):∀(k b a:Nat) {f:GT k} {e:GT b},Re k b f e->jw c k a f=jw c b a e
 |0,_,_,_,_,h=>by cases h
 |k+1,0,_,_,_,h=>by cases h
 |k+1,b+1,a,f,e,⟨⟨e1,e2,i,j,l,m⟩,g,n⟩=>by show(decide (a<=12)&&(j5 (α:=GT k) f&&(mD (α:=GT k) c a f&&(GN.items (α:=GT k) f).all (jw c k (a+1)))))=(decide (a<=12)&&(j5 (α:=GT b) e&&(mD (α:=GT b) c a e&&(GN.items (α:=GT b) e).all (jw c b (a+1)))));unfold j5 mD jT;rw[yK g (λq r s o p=>vB c k b (a+1) (n q r s o p)),e1,e2,i,j,l,m,g]
def By:{k:Nat}->VT k->Prop
 |0,_=>True
 |k+1,a=>(∀b∈f_.text (α:=VT k) a,b<256)/\(∀c∈f_.keys (α:=VT k) a,∀b∈c,b<256)/\∀e∈f_.items (α:=VT k) a,By (k:=k) e
def K_(c:ByteArray):∀b∈bl c,b<256:=λb a=>by unfold bl at a;obtain⟨e,_,rfl⟩:=cE.1 a;exact e.toNat_lt
def L9(y:Nat):∀(k c p:Nat) (a:GT k),p+c=13->0<k->jw y k p a=CD->∃s:VT c,Re k c a (nX c s)/\By s
 |0,_,_,_,_,h,_=>Y
 |k+1,c,p,a,hj,_,h=>by
  have C:(decide (p<=12)&&(j5 (α:=GT k) a&&(mD (α:=GT k) y p a&&(GN.items (α:=GT k) a).all (jw y k (p+1)))))=CD:=h;simp only[a_,bT]at C;obtain⟨hd,m,x,q⟩:=C;obtain⟨c,rfl⟩:∃j',c=j'+1:=⟨c-1,Y⟩;rw[bG]at q;have E:∀g∈GN.items (α:=GT k) a,∃s:VT c,Re k c g (nX c s)/\By s:=λg z=>by
   cases k with
   |zero=>exact(show Empty from g).elim
   |succ k=>exact L9 y (k+1) c (p+1) g Y Y (q g z)
  obtain⟨i,Q,D⟩:∃i:List (VT c),(GN.items (α:=GT k) a).length=G i/\∀(e:Nat) (g:GT k) (o:VT c),(GN.items (α:=GT k) a)[e]?=O g->i[e]?=O o->Re k c g (nX c o)/\By o:=by
   clear q x m h;generalize GN.items (α:=GT k) a=F at *;induction F with
   |nil=>exact⟨[],rfl,λe g o h=>by cases h⟩
   |cons g F ih=>
    obtain⟨i,L,M⟩:=ih (λo A=>E o (by simp[A]));obtain⟨v,r⟩:=E g cO;refine⟨v::i,by simp[L],λe K b q m=>?_⟩;cases e with
    |zero=>simp at q m;subst q;subst m;exact r
    |succ e=>exact M e K b (by simpa using q) oz
  unfold mD at x;simp only[a_]at x;have f:=x.2;unfold j5 oe at m;simp only[a_,Bool.or_eq_true,bT]at m;obtain⟨⟨⟨⟨⟨ad,R⟩,al⟩,ao⟩,a0⟩,S⟩:=m;have a1:0<=GN.kind (α:=GT k) a/\GN.kind (α:=GT k) a<=9:=by
   unfold jT at f;by_cases j:0<=GN.kind (α:=GT k) a/\GN.kind (α:=GT k) a<=9;·exact j
   ·rw[aj Y,aj Y,aj Y,aj Y,aj Y,aj Y,aj Y,aj Y]at f;cases f
  have hp:0<=GN.places (α:=GT k) a:=by
   rcases R with j|j
   ·unfold jT at f;rw[aj Y,aj Y,aj Y,ak j]at f;unfold jO at f;simp only[a_,bT]at f;exact f.1.2.1
   ·omega
  have t:∀l∈GN.filters (α:=GT k) a,0<=l:=λl t=>by
   rcases S with j|j
   ·unfold jT at f;rw[aj Y,aj Y,aj Y,aj Y,aj Y,aj Y,aj Y,ak j]at f;unfold jP at f;simp only[a_,bG,bT]at f;have:=f.2 l t;omega
   ·rw[cD]at j;rw[j]at t;cases t
  refine⟨(⟨(GN.kind (α:=GT k) a).toNat,GN.n (α:=GT k) a,(GN.places (α:=GT k) a).toNat,bl (GN.text (α:=GT k) a),i,(GN.keys (α:=GT k) a).map bl,(GN.filters (α:=GT k) a).map Int.toNat⟩:f_ (VT c)),⟨⟨?_,rfl,?_,?_,?_,?_⟩,?_,?_⟩,K_ _,?_,?_⟩;·show GN.kind (α:=GT k) a=(((GN.kind (α:=GT k) a).toNat:Nat):Int);omega
  ·show GN.places (α:=GT k) a=(((GN.places (α:=GT k) a).toNat:Nat):Int);omega
  ·exact(yN _).s
  ·show GN.keys (α:=GT k) a=((GN.keys (α:=GT k) a).map bl).map gj;rw[dy];conv=>lhs;rw[<-List.map_id (GN.keys (α:=GT k) a)]
   apply List.map_congr_left;intro B _;exact(yN B).s
  ·show GN.filters (α:=GT k) a=((GN.filters (α:=GT k) a).map Int.toNat).map λl:Nat=>(l:Int);rw[dy];conv=>lhs;rw[<-List.map_id (GN.filters (α:=GT k) a)]
   apply List.map_congr_left;intro l h;have:=t l h;show l=((l.toNat:Nat):Int);omega
  ·show(GN.items (α:=GT k) a).length=(i.map (nX c)).length;rw[aq];exact Q
  ·intro e g o z A;have u:(i.map (nX c))[e]?=O o:=A;rw[aE]at u;cases r:i[e]? with
   |none=>rw[r]at u;cases u
   |some v=>rw[r]at u;cases u;exact(D e g v z r).1
  ·intro B W ac hx;have X:B∈(GN.keys (α:=GT k) a).map bl:=W;obtain⟨J,_,rfl⟩:=cE.1 X;exact K_ J ac hx
  ·intro v r;have aa:v∈i:=r;obtain⟨e,T,rfl⟩:=cF aa;have V:e<(GN.items (α:=GT k) a).length:=Y;exact(D e _ _ (af V) (af T)).2
def GB.re:∀(k a:Nat) {V:GT k} {b:GT a},GB V->Re k a V b->GB b
 |0,_,_,_,_,h=>by cases h
 |k+1,0,_,_,_,h=>by cases h
 |k+1,a+1,V,b,h,⟨⟨e1,e2,t,u,c,e⟩,f,x⟩=>by
  obtain⟨l,m,n,o,p,q,r,s⟩:=h;refine⟨?_,?_,?_,?_,?_,?_,?_,λA y=>?_⟩;·rw[<-e1,<-e2,<-t];exact l
  ·rw[<-u];exact m
  ·rw[<-f];exact n
  ·rw[<-c];exact o
  ·rw[<-e];exact p
  ·rw[<-c];exact q
  ·rw[<-e];exact r
  ·obtain⟨z,v,rfl⟩:=cF y;have i:=af v;obtain⟨j,g⟩:=JZ f i;exact GB.re k a (s j (aQ g)) (x z j _ g i)
def iR.gin:∀(k:Nat) {z:wg} {V:VT k},iR P k w z V->ku P k w z (nX k V)
 |0,_,_,h=>h
 |k+1,z,V,h=>by
  obtain⟨iv,kv,fv,L,l,u,s,S,t,q⟩:=iR.parts (V:=V) h;obtain⟨x,y,rfl⟩:=ke s.1;obtain⟨C,D,rfl⟩:=ke t.1;obtain⟨A,B,rfl⟩:=ke q.1;have p:∀{n:Option wT} {F g:Nat} {l K E:Nat} {M:List wg} {c J:Nat},j4 P w l K (Z n F g) E M->n=O ⟨c,J,N⟩->P c:=λ{n F g l K E M c J} T R=>(T.2 c (by rw[R];rfl)).1;refine⟨x,y,C,D,A,B,?_,λe ao hz=>?_,λe j v=>?_,λe j v=>?_⟩
  ·rw[l];show nV _ _ _ _=qf (AV (show f_ (VT k)from V)) x y C D A B;unfold nV qf AV;rw[u];simp only[aq]
  ·have i:((f_.items (α:=VT k) V).map (nX k))[e]?=O ao:=hz;rw[aE]at i;cases b:(f_.items (α:=VT k) V)[e]? with
   |none=>rw[b]at i;cases i
   |some m=>rw[b]at i;cases i;have Q:oZ P k 0 (f_.items (α:=VT k) V) w (Z x (G L) y):=⟨L,s.1,u,S⟩;obtain⟨c,g,al,f,_,_,X,aa⟩:=Q.at b;rw[<-u]at f;cases f;exact⟨c,0,al,rfl,p s rfl,λac ad W=>by rw[bZ];exact aa ac ad W,iR.gin k X⟩
  ·have a:((f_.keys (α:=VT k) V).map gj)[e]?=O j:=v;rw[aE]at a;cases b:(f_.keys (α:=VT k) V)[e]? with
   |none=>rw[b]at a;cases a
   |some m=>rw[b]at a;cases a;obtain⟨c,g,f,r⟩:=En t.1 (show((f_.keys (α:=VT k) V).map λj=>y7 (gj j))[e]?=O (y7 (gj m))by rw[aE,b];rfl);cases f;exact⟨c,0,rfl,p t rfl,by rw[bZ];exact r⟩
  ·have a:((f_.filters (α:=VT k) V).map λo:Nat=>(o:Int))[e]?=O j:=v;rw[aE]at a;cases b:(f_.filters (α:=VT k) V)[e]? with
   |none=>rw[b]at a;cases a
   |some m=>rw[b]at a;cases a;obtain⟨c,g,f,r⟩:=En q.1 (show((f_.filters (α:=VT k) V).map λo:Nat=>I U o)[e]?=O (I U m)by rw[aE,b];rfl);cases f;exact⟨c,0,rfl,p q rfl,by rw[bZ];exact r⟩
def IU{c a m:Nat}{g:TypeId}{b f:List wg}(h:w.heap[c]?=O (BV (b++f).toArray g (0,0))){size:Nat}(e:G b=a*size)(k:G f=m*size)(n:a+m<=9223372036854775807)(i:P c):j4 P w g size (Z (O ⟨c,0,N⟩) a (a+m)) a b:=by
 refine⟨⟨e,C2 ⟨c,a+m,_,rfl,aw _,h,Y,by unfold maxLen;omega,by rw[dN,ab,e,k,Nat.add_mul],?_⟩⟩,λl j=>?_⟩
 ·show(b++f).take (a*size)=b;rw[<-e,List.take_left]
 ·cases j;exact⟨i,ap h⟩
def qe.vin:∀(k:Nat) {z y:Nat} {p:wg} {a:VT k},qe k z y w p (nX k a)->GB (nX k a)->iR (λu=>z<=u/\u<y) k w p a
 |0,_,_,_,_,h,_=>h
 |k+1,z,y,p,a,h,M=>by
  obtain⟨_,_,q,r,s,_,_,J⟩:=M;obtain⟨K,gk,C,t,i,l,g,E,o,n,⟨o1,o2,A,B,o5,o6⟩,v⟩:=h;have q:((f_.items (α:=VT k) a).map (nX k)).length<=140737488355328:=q;have r:((f_.keys (α:=VT k) a).map gj).length<=140737488355328:=r;have s:((f_.filters (α:=VT k) a).map λe:Nat=>(e:Int)).length<=140737488355328:=s;have g:G i=((f_.items (α:=VT k) a).map (nX k)).length:=g;have v:∀(b:Nat) (c:wg) (j:GT k),i[b]?=O c->((f_.items (α:=VT k) a).map (nX k))[b]?=O j->qe k (t b) (t (b+1)) w c j:=v;have B:t ((f_.items (α:=VT k) a).map (nX k)).length<=gk:=B;have l:p=qf (AV (show f_ (VT k)from a)) (O ⟨K,0,N⟩) (((f_.items (α:=VT k) a).map (nX k)).length+3) (O ⟨gk,0,N⟩) (((f_.keys (α:=VT k) a).map gj).length+3) (O ⟨C,0,N⟩) (((f_.filters (α:=VT k) a).map λe:Nat=>(e:Int)).length+3):=l;have o:w.heap[gk]?=O (BV (((f_.keys (α:=VT k) a).map gj).map y7++DJ 3 (y7 sS)).toArray 9 (0,0)):=o;have n:w.heap[C]?=O (BV (((f_.filters (α:=VT k) a).map λe:Nat=>(e:Int)).map (I U)++DJ 3 (I U 77)).toArray 3 (0,0)):=n;rw[aq]at q r s g B;simp only[aq]at l;have aa:=uR A (aw (f_.items (α:=VT k) a).length);rw[dy]at o n;have T:∀c∈i,rB c:=λc f=>E.2 c (by simp[f]);have Q:=flat_len (L:=i) (λc f=>(T c f).seven);have D:=E.1;rw[cK]at D;refine⟨_,_,_,i,by rw[l];unfold qf nV AV;simp only[aq];rfl,g,?_,λb c j f F=>?_,?_,?_⟩
  ·rw[<-g];exact IU D Q rfl Y ⟨Y,Y⟩
  ·have R:=(ay.1 F).1;have S:b<(f_.items (α:=VT k) a).length:=R;have V:(f_.items (α:=VT k) a)[b]?=O j:=F;have W:=uR A (aw b);have X:=uR A (show b+1<=(f_.items (α:=VT k) a).length from S);have x:((f_.items (α:=VT k) a).map (nX k))[b]?=O (nX k j):=by rw[aE,V];rfl
   exact iR.m k (qe.vin k (v b c _ f x) (J _ (aQ x))) (λu x _=>⟨Y,Y⟩)
  ·exact IU (m:=3) o cO rfl (by show(f_.keys (α:=VT k) a).length+3<=_;omega) ⟨Y,Y⟩
  ·exact IU (m:=3) n cO rfl (by show(f_.filters (α:=VT k) a).length+3<=_;omega) ⟨Y,Y⟩
end
section
variable{w:vz}
def ku.splitV{c:Nat->Prop}{k:Nat}{t:wg}{V:f_ (VT k)}(h:ku c (k+1) w t (nX (k+1) V)):∃(f:Option wT) (l:Nat) (g:Option wT) (m:Nat) (e:Option wT) (j:Nat),t=Bc #[I U (V.kind:Int),I U V.n,I U (V.places:Int),y7 (gj V.text),Z f V.items.length l,Z g V.keys.length m,Z e V.filters.length j] /\
   (∀(a:Nat) (u:VT k),V.items[a]?=O u->∃b d y,f=O ⟨b,d,N⟩/\c b/\(∀(v:Nat) (x:wg),(cellsOf y)[v]?=O x->w.cell? ⟨b,d+a*7+v,N⟩=O x)/\ku c k w y (nX k u)) /\
   (∀(a:Nat) (s:List Nat),V.keys[a]?=O s->∃b d,g=O ⟨b,d,N⟩/\c b/\w.cell? ⟨b,d+a,N⟩=O (y7 (gj s))) /\
   ∀(a:Nat) (i:Nat),V.filters[a]?=O i->∃b d,e=O ⟨b,d,N⟩/\c b/\w.cell? ⟨b,d+a,N⟩=O (I U i):=by
 obtain⟨f,l,g,m,e,j,o,p,r,q⟩:=h;have o:t=qf (AV V) f l g m e j:=o;have p:nD (ku c k) c w f (V.items.map (nX k)):=p;have r:n8 c w g (V.keys.map gj):=r;have q:q8 c w e (V.filters.map λi:Nat=>(i:Int)):=q;refine⟨f,l,g,m,e,j,by rw[o];unfold qf AV;simp only[aq],λa u z=>p a _ (by rw[aE,z];rfl),λa s h=>r a _ (by rw[aE,h];rfl),λa i h=>q a _ (by rw[aE,h];rfl)⟩
def len_wlen{k:Nat}(a:List (VT k)):G a<=(a.map λb=>10+gV b).sum:=by
 induction a with
 |nil=>simp
 |cons b a c=>simp only[bM,cT,ai];omega
def wv_is{k:Nat}(a:f_ (VT k)):gT (k:=k+1) a=match a.kind with
  |0=>[110,117,108,108]
  |1=>if a.n=1 then[116,114,117,101]else[102,97,108,115,101]
  |2=>gU a.n
  |3=>jQ a.n a.places
  |4=>gN a.text
  |5=>lI a.text
  |6=>91::(gY (a.items.map λc=>gT (k:=k) c)++[93])
  |7=>60::60::(gY ((a.keys.zip a.items).map λb=>gN b.1++(32::gT (k:=k) b.2))++[62,62])
  |9=>gU a.n++[32,48,32,82]
  |_=>[]:=rfl
def QM{k:Nat}{B:Nat->Prop}{z:wg}{a:f_ (VT k)}(L:ku B (k+1) w z (nX (k+1) a))(q:uN (k:=k+1) a)(v : -9223372036854775807<=a.n)(J:a.text.length<=100000000)(W:a.kind<=5\/a.kind=9)(A:ByteArray):wh DG 53 #[z,y7 A] w λg M=>g=BX (y7 (gj (gT (k:=k+1) a)))/\wm w.heap.size w M:=by
 obtain⟨X,ic,ka,kc,Q,R,rfl,_,_,_⟩:=L.splitV;have x:=q.2.1.2;have C:=q.2.2.1;have K:=q.2.2.2.2.1;obtain⟨m,b⟩:∃m,gj (gT (k:=k+1) a)=m:=⟨_,rfl⟩;rw[b];rw[wv_is]at b;have y:(gj a.text).size<=100000000:=by rw[lu];exact J
 have s:=H (vJ _ K);have e:wt (∀u:Array wg,wm w.heap.size w (w.alloc (BV u 67))):=λu=>(ar _ _).alloc (ag _) _;generalize V:gj a.text=t at *;generalize a.items.length=il at *;generalize a.keys.length=kl at *;generalize a.filters.length=S at *;rcases(by omega:a.kind=0\/a.kind=1\/a.kind=2\/a.kind=3\/a.kind=4\/a.kind=5\/a.kind=9)with h|h|h|h|h|h|h
 ·rw[h]at b ⊢;have d:=H b
  go_in
  go_wp2;go_ret;exact⟨by rw[<-d.o];rfl,e _⟩
 ·rw[h]at b ⊢;by_cases p:a.n=1
  ·rw[p]at b ⊢;have d:=H b
   go_in
   go_wp2;go_ret;exact⟨by rw[<-d.o];rfl,e _⟩
  ·have ac:(a.n==1)=CS:=by simpa using p
   simp only[]at b;rw[aj p]at b;have d:=H b
   go_in
   go_wp2;go_ret;exact⟨by rw[<-d.o];rfl,e _⟩
 ·rw[h]at b ⊢;have c:=H (IA a.n v x);simp only[]at b;rw[b]at c
  go_in
  go_wp2_with fail;apply(c _).m;rintro g i ⟨rfl,f⟩;have f:=f.s;subst f;go_wp2;go_ret;exact⟨rfl,e _⟩
 ·obtain⟨D,E,F⟩:=C h;rw[h]at b ⊢;have c:=H (J5 a.n a.places D E F);simp only[]at b;rw[b]at c
  go_in
  go_wp2_with fail;apply(c _).m;rintro g i ⟨rfl,aa,rfl⟩;go_wp2;go_ret;exact⟨rfl,(e _).t ⟨rfl,rfl,rfl,ag _,λ_ _=>rfl⟩⟩
 ·rw[h]at b ⊢;have c:=H (λl:vz=>Na (w:=l) t y);simp only[]at b;rw[<-s.o]at b;have d:=H b
  go_in
  go_wp2_with fail;apply(c _).m;rintro g i ⟨rfl,r⟩;have j:=H (r.below (ag _) (λ_ h=>by cases h));go_wp2;go_ret;exact⟨by rw[<-d.o];rfl,(e _).t (j.o.m (e _).size)⟩
 ·rw[h]at b ⊢;have c:=H (λl:vz=>J6 (w:=l) t y);simp only[]at b;rw[<-s.o]at b;have d:=H b
  go_in
  go_wp2_with fail;apply(c _).m;rintro g i ⟨rfl,r⟩;have j:=H (r.below (ag _) (λ_ h=>by cases h));go_wp2;go_ret;exact⟨by rw[<-d.o];rfl,(e _).t (j.o.m (e _).size)⟩
 ·rw[h]at b ⊢;have c:=H (IA a.n v x);simp only[]at b;have T:(gj (gU a.n)).size<=30:=by
   rw[lu];unfold gU;split;·rw[ai];have:=xe 18 a.n.natAbs Y;omega
   ·have:=xe 18 a.n.toNat Y;omega
  have d:wt (gj (gU a.n)++{data:=#[32,48,32,82]}=m):=by unfold Hid;rw[<-b,pE];rfl
  generalize gj (gU a.n)=P at *
  go_in
  go_wp2_with fail;apply(c _).m;rintro g i ⟨rfl,f⟩;have f:=f.s;subst f;go_wp2;go_ret;exact⟨by rw[<-d.o];rfl,e _⟩
def CP:{k:Nat}->VT k->Prop
 |0,_=>True
 |k+1,a=> -9223372036854775807<=f_.n a/\(f_.text a).length<=100000000/\(∀b∈f_.keys a,G b<=1000000)/\∀c∈f_.items a,CP (k:=k) c
def GO(k:Nat):Prop:=∀(w:vz) (b:Nat->Prop) (d:wg) (a:VT k),ku b k w d (nX k a)->(∀c,b c->c<w.heap.size)->uN a->CP a->gV a<=400000000 ->wh DG 53 #[d,y7 {data:=#[]}] w λe f=>e=BX (y7 (gj (gT a)))/\wm w.heap.size w f
def QK{k:Nat}(ih:GO k){L:Nat->Prop}{bd:wg}{b:f_ (VT k)}(hv:ku L (k+1) w bd (nX (k+1) b))(al:∀d,L d->d<w.heap.size)(a2:uN (k:=k+1) b)(a4:CP (k:=k+1) b)(b6:gV (k:=k+1) b<=400000000)(a0:b.kind=6)(bh:ByteArray):wh DG 53 #[bd,y7 bh] w λad w'=>ad=BX (y7 (gj (gT (k:=k+1) b)))/\wm w.heap.size w w':=by
 obtain⟨r,s,u,v,n,o,rfl,ao,b4,b2⟩:=hv.splitV;have bm:=H ao;have bs:=H ih;have aa:=H a2.2.2.2.2.2.2;have bx:=H a4.2.2.2;have F:wt (100+(b.items.map λa=>10+gV a).sum<=400000000):=by unfold Hid;have:gV (k:=k+1) b=100+4*b.text.length+(b.items.map λa=>10+gV a).sum+(b.keys.map λcd=>10+3*G cd).sum:=rfl;omega
 have ck:b.items.length<=400000000:=by have:=F.o;have:=len_wlen b.items;omega
 have J:=H al;have b0:wt (∀c,(gY ((b.items.take c).map λa=>gT a)).length<=((b.items.take c).map λa=>10+gV a).sum):=λc=>by have h1:=mQ ((b.items.take c).map λa=>gT a);rw[dy]at h1;refine aJ h1 (oB _ λa g=>?_);have:=mM (aa a (cN g));simp only[Function.comp];omega
 obtain⟨P,q⟩:∃P,gj (gT (k:=k+1) b)=P:=⟨_,rfl⟩;rw[q];rw[wv_is,a0]at q;have HZ:=H q;rw[a0,show((6:Nat):Int)=6 from rfl];generalize a1:b.items.length=h at *;have HN:=H a1;clear hv a2 a4 b6 ao b4 b2 ih a1 q al;generalize b.n=z at *;generalize (b.places:Int)=A at *;generalize gj b.text=B at *;generalize b.keys.length=y at *;generalize b.filters.length=x at *;have E:wm w.heap.size w (w.alloc (BV #[I U (6:Int),I U z,I U A,y7 B,Z r h s,Z u y v,Z n x o] 67)):=(ar _ _).alloc (ag _) _;have M:(w.alloc (BV #[I U (6:Int),I U z,I U A,y7 B,Z r h s,Z u y v,Z n x o] 67)).heap[w.heap.size]?=O (BV #[I U (6:Int),I U z,I U A,y7 B,Z r h s,Z u y v,Z n x o] 67 (0,0)):=bn _ _;obtain⟨D,S⟩:∃D,w.alloc (BV #[I U (6:Int),I U z,I U A,y7 B,Z r h s,Z u y v,Z n x o] 67)=D:=⟨_,rfl⟩;rw[S]at E M;have m:=H E;have ac:=H M;have bz:=H S;clear E M S
 go_in
 go_wp2_with fail;rw[bz.o];go_loopw [5,6] (λX W wr=>∃(c:Nat) (e:ByteArray),c<=h/\W=I U c/\X=y7 e/\wt (e=gj (gY ((b.items.take c).map λa=>gT a)))/\wt (wm D.heap.size D wr)) (λ_ W _=>h-(intOf W).toNat)
 case atStart=>exact⟨0,_,aw _,rfl,rfl,by unfold Hid;rfl,ar _ _⟩
 case round=>
  obtain⟨c,e,l,rfl,rfl,K,i⟩:=hrel;have a6:=b0.o c;have a5:e.size=(gY ((b.items.take c).map λa=>gT a)).length:=by rw[K.o,lu]
  have a3:((b.items.take c).map λa=>10+gV a).sum<=(b.items.map λa=>10+gV a).sum:=by rw[<-cQ c b.items,aI,List.sum_append,cQ];omega
  have cj:e.size<=400000000:=by have:=F.o;omega
  have HX:=H ((i.block _ (ap ac)).t ac);have c4:=vK HX;rcases aC l with l|l
  ·subst l;have b7:¬(c:Int)<(c:Int):=Y;have b1:wt (({data:=#[91]}:ByteArray)++e++{data:=#[93]}=P):=by unfold Hid;rw[<-HZ.o,K.o,aP (by rw[HN.o];exact ag _)];rw[show ∀bb:List Nat,91::(bb++[93])=[91]++bb++[93]from λ_=>rfl,pE,pE];rfl
   clear a5 a3 a6;go_wp2;go_ret;exact⟨by rw[<-b1.o];rfl,m.t (i.o.m m.size)⟩
  ·obtain⟨a,g⟩:∃a,b.items[c]?=O a:=⟨_,af (by rw[HN.o];exact l)⟩;have b7:(c:Int)<(h:Int):=Y;have b8:=sum_take (λa=>10+gV a) b.items c a g;have a7:=wjoin_take (λa=>gT a) b.items c a g;obtain⟨d,bc,ce,rfl,b5,a9,a8⟩:=bm.o c a g;have p:=m.o.t (i.o.m m.size);have T:=ku.keep k a8 (λd R _=>p.block d (J d R));have f:∀(t:Nat) (C:wg),(cellsOf ce)[t]?=O C->wr.cell? ⟨d,bc+c*7+t,N⟩=O C:=λt C hu=>by rw[p.cell (J.o d b5)];exact a9 t C hu
   have V:=aa.o a (aQ g);have ba:=bx.o a (aQ g);obtain⟨k0,k1,k2,k3,ja,jl,jc,cn,kl,co,cf,fl,cg,b9⟩:=ku.form T;subst b9;have d0:wr.cell? ⟨d,bc+c*7,N⟩=O (I U k0):=f 0 _ rfl;have d1:=f 1 _ rfl;have d2:=f 2 _ rfl;have d3:=f 3 _ rfl;have d4:=f 4 _ rfl;have d5:=f 5 _ rfl;have d6:=f 6 _ rfl;have ca:gV a<=400000000:=by have:=F.o;omega
   have HC:=H (bs wr L _ a T (λd R=>aF (J d R) p.size) V ba ca);have cc:=mM V;have cl:(gj (gT a)).size<=400000000:=by rw[lu];omega
   have bt:wt (e++gj (if c=0 then[]else[32])++gj (gT a)=gj (gY ((b.items.take (c+1)).map λa=>gT a))):=by unfold Hid;rw[a7,K.o,<-pE,<-pE,au]
   generalize gj (gT a)=bf at *;clear T f a8 a9 p g b8 a7 a6 a3 a5 V ba cc
   go_upto_if 48 with fail
   go_cut [5]from 40 to 58 (λX wx=>∃j,X=y7 j/\wt (j=e++gj (if c=0 then[]else[32]))/\j.size<=400000001/\wx=wr)
   case first=>
    by_cases h0:c=0
    ·subst h0;go_wp2
     go_meet
     case rel=>exact⟨e,rfl,by unfold Hid;rw[ak trivial,show gj []=ByteArray.empty from rfl,ByteArray.append_empty],Y,rfl⟩
    ·have t0:decide ((0:Int)<(c:Int))=CD:=eS;go_wp2
     go_meet
     case rel=>exact⟨_,rfl,by unfold Hid;rw[aj h0];rfl,by rw[ByteArray.size_append];show _+1<=_;omega,rfl⟩
   case rest=>
   obtain⟨j,rfl,bv,ci,Q⟩:=hcut;have Q:=Q.s;subst Q;go_wp2_with fail;apply HC.o.m;rintro ad w3 ⟨rfl,b3⟩;have br:=H (i.t (b3.m i.size));have bw:wt (j++bf=gj (gY ((b.items.take (c+1)).map λa=>gT a))):=by unfold Hid;rw[bv.o];exact bt
   go_wp2;go_roundw
   case rel=>exact⟨c+1,_,Y,by go_num,rfl,bw,br⟩
   case measure=>exact eT
end
section
variable{w a:vz}
def IZ(b:Nat)(c left:Nat)(w:vz)(d:xc)(a:vz):Prop:=d=BX (Bs (decide (c<left)))/\iJ b w a/\oU b ((left-c:Nat):Int) a
def IX(b k:Nat):Prop:=∀(c:vz) (d:Nat->Prop) (f:wg) (V:GT k) (left:Nat),1<=left->left<=6000->ku d k c f V->(∀e,d e->e≠b)->GB V->oU b left c ->wh DG 42 #[f,A3 (O ⟨b,0,N⟩)] c (IZ b (ie k V) left c)
def Jt{d:Type}(f:d->Nat)(b:List d)(c:Nat):((b.take c).map f).sum<=(b.map f).sum:=by
 conv=>rhs;rw[<-cQ c b,aI,List.sum_append]
 omega
def L_{α:Type}(b:α->Nat)(c:List α)(d:Nat)(e:α)(h:c[d]?=O e):((c.take (d+1)).map b).sum=((c.take d).map b).sum+b e:=by rw[cP,h,aI,List.sum_append];simp
def QC{c k:Nat}(ih:IX c k):IX c (k+1):=by
 intro w a7 bz V left h1 h2 hv hP a8 u;obtain⟨_,_,b4,_,_,_,_,b9⟩:=a8;obtain⟨ia,ic,ka,kc,fa,fc,J,ad,_,_⟩:=ku.parts (V:=V) hv;unfold qf at J;have a2:=H ad;have a1:=H ih;have A:=H hP;have a0:=H b9;obtain⟨e,D⟩:∃e,ie (k+1) V=e:=⟨_,rfl⟩;have T:wt (e=1+((GN.items (α:=GT k) V).map (ie k)).sum):=D.s;rw[D];generalize GN.items (α:=GT k) V=d at *;obtain⟨j,E⟩:∃j,G d=j:=⟨_,rfl⟩;have W:=H E;rw[E]at J b4;generalize (GN.filters (α:=GT k) V).length=fl at *;generalize (GN.keys (α:=GT k) V).length=kl at *;generalize GN.kind (α:=GT k) V=kd at *;generalize GN.n (α:=GT k) V=nn at *;generalize GN.places (α:=GT k) V=pp at *;generalize GN.text (α:=GT k) V=tt at *;subst J;have bt:=ap u;clear hv ad ih hP b9 D E;obtain⟨o,C⟩:∃o:Array wg,#[I U kd,I U nn,I U pp,y7 tt,Z ia j ic,Z ka kl kc,Z fa fl fc]=o:=⟨_,rfl⟩;have br:=nw u;have bs:=lQ 0 u;have X:wt (tV c ((left:Int)-1) w o ((w.setCell ⟨c,0,N⟩ (I U ((left:Int)-1))).alloc (BV o 67))):=by
  refine⟨((iJ.refl _ _).setCell 0 _).t (.of_below ((ar _ _).alloc (ag _) _)),?_,?_⟩
  ·have:=bn (w.setCell ⟨c,0,N⟩ (I U ((left:Int)-1))) (BV o 67);rw[show(w.setCell ⟨c,0,N⟩ (I U ((left:Int)-1))).heap.size=w.heap.size by simp[World.setCell]]at this;exact this
  ·exact nt _ (by rw[nu _ u];rfl)
 have S:=H C;rw[<-C]at X;clear C
 go_in
 go_wp2;go_loopw [5] (λM wr=>∃(b:Nat),b<=j/\M=I U b/\wt (iJ c w wr)/\wt (wr.heap[w.heap.size]?=O (BV o 67 (0,0)))/\wt (oU c ((left-1-((d.take b).map (ie k)).sum:Nat):Int) wr)) (λM _=>j-(intOf M).toNat)
 case atStart=>have B:=X.o;refine⟨0,aw _,rfl,B.1,by unfold Hid;rw[<-S.o];exact B.2.1,?_⟩;have aa:((left-1-((d.take 0).map (ie k)).sum:Nat):Int)=(left:Int)-1:=eS;unfold Hid;rw[aa];exact B.2.2
 case round=>
  obtain⟨b,hm,rfl,r,x,q⟩:=hrel;have d4:wr.cell? ⟨w.heap.size,4,N⟩=O (Z ia j ic):=by rw[cb x.o,<-S.o];rfl
  obtain⟨f,t⟩:∃f,left-1-((d.take b).map (ie k)).sum=f:=⟨_,rfl⟩;rw[t]at q;have dL:=nw q;have F:=Jt (ie k) d b;rcases aC hm with bc|bb
  ·have hd:¬(b:Int)<(j:Int):=Y;have e0:((d.take b).map (ie k)).sum=(d.map (ie k)).sum:=by rw[aP (by rw[W.o];omega)]
   have s:f=left-e:=by rw[<-t,e0,T.o];omega
   have y:wt (decide (e<left)=decide (0<f)):=by unfold Hid;rw[bO];omega
   have z:wt (oU c ((left-e:Nat):Int) wr):=by unfold Hid;rw[<-s];exact q
   clear bc e0 s t F;go_wp2;go_ret;exact⟨by rw[y.o];rfl,r,z⟩
  ·have hd:(b:Int)<(j:Int):=Y;by_cases L:f=0
   ·have s:left-e=0:=by have:=T.o;omega
    have ac:¬e<left:=Y;have y:wt (decide (e<left)=CS):=by unfold Hid;rw[av ac]
    have z:wt (oU c ((left-e:Nat):Int) wr):=by unfold Hid;rw[s,<-L];exact q
    have hq:¬(0:Int)<(f:Int):=Y;clear s ac t F L;go_wp2;go_ret;exact⟨by rw[y.o];rfl,r,z⟩
   ·have hq:(0:Int)<(f:Int):=Y;obtain⟨l,v⟩:∃l,d[b]?=O l:=⟨_,af (by rw[W.o];exact bb)⟩;have al:=L_ (ie k) d b l v;obtain⟨p,bd,xv,rfl,a9,g,K⟩:=a2.o b l v;have ba:p≠c:=A.o p a9;have a6:=H (a1 wr a7 xv l f Y Y (ku.onlyX K A r) A (a0 l (aQ v)) q);obtain⟨k0,k1,k2,k3,ja,jl,jc,bv,bx,bw,bf,bm,bh,i⟩:=ku.form K;have m:∀{P:Nat} {R:wg},w.cell? ⟨p,P,N⟩=O R->wr.cell? ⟨p,P,N⟩=O R:=λ{P R} h=>by rw[World.cell?_of_block (w:=w) (r.o.block p (aA w _ h) ba)];exact h
    have q0:wr.cell? ⟨p,bd+b*7,N⟩=O (I U k0):=m (g 0 _ (by rw[i];rfl));have q1:=m (g 1 _ (by rw[i];rfl));have q2:=m (g 2 _ (by rw[i];rfl));have q3:=m (g 3 _ (by rw[i];rfl));have q4:=m (g 4 _ (by rw[i];rfl));have q5:=m (g 5 _ (by rw[i];rfl));have q6:=m (g 6 _ (by rw[i];rfl));subst i;have a5:wt (left-1-((d.take (b+1)).map (ie k)).sum=f-ie k l):=by unfold Hid;rw[al];omega
    generalize ie k l=cy at *;clear t F al L v g K;go_wp2_with fail;apply a6.o.m;rintro aa w4 ⟨rfl,Q,h4⟩;have a4:=H (r.t Q);have ao:=H ((Q.block _ (ap x) Y).t x);have a3:wt (oU c ((left-1-((d.take (b+1)).map (ie k)).sum:Nat):Int) w4):=by unfold Hid;rw[a5.o];exact h4
    clear h4 Q;go_wp2;go_roundw
    case rel=>exact⟨b+1,Y,by first|rfl|(congr 1),a4,ao,a3⟩
    case measure=>exact eT
def L6{L:Nat}:∀k,IX L k
 |0=>λd b e c _ _ _ h=>by cases h
 |k+1=>QC (L6 k)
end
section
variable{w:vz}
def wpairs{k:Nat}(V:f_ (VT k))(b:Nat):List Nat:=gY (((V.keys.zip V.items).take b).map λa=>gN a.1++(32::gT a.2))
def tA(b a:ByteArray):ByteArray:={data:=#[60,60]}++(b++(if b.size=0\/a.size=0 then{data:=#[]} else{data:=#[32]}))++a++{data:=#[62,62]}
def wpairs_step{k:Nat}(a:f_ (VT k)){b:Nat}{c:List Nat}{d:VT k}(f:a.keys[b]?=O c)(g:a.items[b]?=O d):wpairs a (b+1)=wpairs a b++((if b=0 then[]else[32])++(gN c++(32::gT d))):=
 wjoin_take (λe:List Nat×VT k=>gN e.1++(32::gT e.2)) (a.keys.zip a.items) b (c,d) (by rw[dP];exact⟨f,g⟩)
def wpairs_len{k:Nat}{V:f_ (VT k)}(h:∀a∈V.items,uN a)(d:Nat):(wpairs V d).length<=(V.items.map λa=>10+gV a).sum+(V.keys.map λc=>10+3*G c).sum:=by unfold wpairs;refine aJ (mQ _) ?_;rw[dy];refine aJ (oB (g:=λb=>(10+3*b.1.length)+(10+gV b.2)) _ λb e=>?_) (aJ (Jt _ _ d) (aJ (qY (f:=λc:List Nat=>10+3*G c) (g:=λa:VT k=>10+gV a) _ _) Y));have i:=cN e;have:=mM (h b.2 (eA i).2);have:=mR b.1;simp only[Function.comp,ab,ai];omega
def LY{k:Nat}(ih:GO k){a2:Nat->Prop}{bz:wg}{c:f_ (VT k)}(hv:ku a2 (k+1) w bz (nX (k+1) c))(ba:∀i,a2 i->i<w.heap.size)(a5:c.keys.length=c.items.length)(bm:∀f∈c.items,uN f)(br:∀g∈c.keys,∀ad∈g,ad<256)(bs:∀g∈c.keys,G g<=1000000)(bv:∀f∈c.items,CP f)(cp:gV (k:=k+1) c<=400000000)(o:ByteArray)(hM:o.size<=1000000):wh DG 88 #[bz,y7 o] w λr B=>r=BX (y7 (tA (gj (wpairs c c.keys.length)) o))/\wm w.heap.size w B:=by
 obtain⟨ia,K,ka,L,S,T,rfl,bb,bc,co⟩:=hv.splitV;have b0:=H bb;have b1:=H bc;have b6:=H ih;have a8:=H bm;have cf:=H bv;have b7:=H br;have b9:=H bs;have y:=H ba;have a1:wt (100+(c.items.map λf=>10+gV f).sum+(c.keys.map λg=>10+3*G g).sum<=400000000):=by unfold Hid;have:gV (k:=k+1) c=100+4*c.text.length+(c.items.map λf=>10+gV f).sum+(c.keys.map λg=>10+3*G g).sum:=rfl;omega
 have ci:=H (λe=>wpairs_len a8 e);have c3:c.items.length<=400000000:=by have:=a1.o;have:=len_wlen c.items;omega
 obtain⟨R,hZ⟩:∃R,tA (gj (wpairs c c.keys.length)) o=R:=⟨_,rfl⟩;rw[hZ];have b8:=H a5;rw[a5]at hZ ⊢;have HZ:=H hZ;generalize bt:c.items.length=m at *;have HN:=H bt;clear hv cp bb bc co ih bt hZ ba a5 bm br bv bs;generalize c.n=nn at *;generalize (c.places:Int)=pp at *;generalize gj c.text=tx at *;generalize c.filters.length=nf at *;generalize (c.kind:Int)=kd at *;have B1:wm w.heap.size w (w.alloc (BV #[I U kd,I U nn,I U pp,y7 tx,Z ia m K,Z ka m L,Z S nf T] 67)):=(ar _ _).alloc (ag _) _;have X1:(w.alloc (BV #[I U kd,I U nn,I U pp,y7 tx,Z ia m K,Z ka m L,Z S nf T] 67)).heap[w.heap.size]?=O (BV #[I U kd,I U nn,I U pp,y7 tx,Z ia m K,Z ka m L,Z S nf T] 67 (0,0)):=bn _ _;obtain⟨w1,a6⟩:∃w1,w.alloc (BV #[I U kd,I U nn,I U pp,y7 tx,Z ia m K,Z ka m L,Z S nf T] 67)=w1:=⟨_,rfl⟩;rw[a6]at B1 X1;have P:=H B1;have a9:=H X1;have cg:=H a6;clear B1 X1 a6
 go_in
 go_wp2_with fail;rw[cg.o];go_loopw [5,6] (λsv iv wr=>∃(e:Nat) (l:ByteArray),e<=m/\iv=I U e/\sv=y7 l/\wt (l=gj (wpairs c e))/\wt (wm w1.heap.size w1 wr)) (λ_ iv _=>m-(intOf iv).toNat)
 case atStart=>exact⟨0,_,aw _,rfl,rfl,by unfold Hid;rfl,ar _ _⟩
 case round=>
  obtain⟨e,l,A,rfl,rfl,HT,C⟩:=hrel;have cv:=ci.o e;have ct:l.size=(wpairs c e).length:=by rw[HT.o,lu]
  have c2:l.size<=400000000:=by have:=a1.o;omega
  have D:=H ((C.block _ (ap a9)).t a9);have c5:=uO D;rcases aC A with A|A
  ·subst A;have cq:¬(e:Int)<(e:Int):=Y;have a0:=H (P.t (C.o.m P.size));have t:wt (tA l o=R):=by unfold Hid;rw[<-HZ.o,HT.o]
   have u:∀a3:ByteArray,(a3.toList==[])=decide (a3.size=0):=λa3=>by
    rw[zD,bO];constructor;·intro h;rw[h];rfl
    ·intro h;exact eC (Array.eq_empty_of_size_eq_zero h)
   unfold tA at t;clear ct cv;by_cases n:l.size=0
   ·have t1:(l.toList==[])=CD:=by rw[u,aH n]
    rw[ak (C1 n)]at t;have cn:l={data:=#[]}:=eC (Array.eq_empty_of_size_eq_zero n);subst cn;clear n u;go_wp2;go_ret;exact⟨by rw[<-t.o];rfl,a0⟩
   ·have t1:(l.toList==[])=CS:=by rw[u,av n]
    by_cases E:o.size=0
    ·have t2:(o.toList==[])=CD:=by rw[u,aH E]
     rw[ak (C2 E)]at t;have cj:wt ({data:=#[60,60]}++l++o++{data:=#[62,62]}=R):=by unfold Hid;rw[<-t.o,show({data:=#[]}:ByteArray)=ByteArray.empty from rfl,ByteArray.append_empty]
     clear n E u;go_wp2;go_ret;exact⟨by rw[<-cj.o];rfl,a0⟩
    ·have t2:(o.toList==[])=CS:=by rw[u,av E]
     rw[aj Y]at t;clear n E u;go_wp2;go_ret;exact⟨by rw[<-t.o];rfl,a0⟩
  ·obtain⟨f,J⟩:∃f,c.items[e]?=O f:=⟨_,af (by rw[HN.o];exact A)⟩;obtain⟨g,hs⟩:∃g,c.keys[e]?=O g:=⟨_,af (by rw[b8.o];exact A)⟩;have cq:(e:Int)<(m:Int):=Y;obtain⟨i,p,ad,rfl,bf,cw,bw⟩:=b0.o e f J;obtain⟨V,o2,rfl,bh,cs⟩:=b1.o e g hs;have z:=P.o.t (C.o.m P.size);obtain⟨k0,k1,k2,k3,ja,jl,jc,cy,kl,c0,ck,fl,cl,s⟩:=ku.form bw;have HD:wt (∀a,wm wr.heap.size wr a->a.cell? ⟨i,p+e*7,N⟩=O (I U k0)/\a.cell? ⟨i,p+e*7+1,N⟩=O (I U k1)/\a.cell? ⟨i,p+e*7+2,N⟩=O (I U k2)/\a.cell? ⟨i,p+e*7+3,N⟩=O (y7 k3)/\a.cell? ⟨i,p+e*7+4,N⟩=O (Z ja jl jc)/\a.cell? ⟨i,p+e*7+5,N⟩=O (Z cy kl c0)/\a.cell? ⟨i,p+e*7+6,N⟩=O (Z ck fl cl)):=λa j=>by
    have x:∀{aa:Nat} {ac:wg},(cellsOf ad)[aa]?=O ac->a.cell? ⟨i,p+e*7+aa,N⟩=O ac:=λ{aa ac} h=>by rw[j.cell (aF (y.o i bf) z.size),z.cell (y.o i bf)];exact cw aa ac h
    exact⟨@x 0 _ (by rw[s];rfl),x (by rw[s];rfl),x (by rw[s];rfl),x (by rw[s];rfl),x (by rw[s];rfl),x (by rw[s];rfl),x (by rw[s];rfl)⟩
   have b3:wt (∀a,wm wr.heap.size wr a->a.cell? ⟨V,o2+e,N⟩=O (y7 (gj g))):=λa j=>by rw[j.cell (aF (y.o V bh) z.size),z.cell (y.o V bh)];exact cs
   have ao:wt (∀a,wm wr.heap.size wr a->a.cell? ⟨w.heap.size,4,N⟩=O (Z (O ⟨i,p,N⟩) m K)/\a.cell? ⟨w.heap.size,5,N⟩=O (Z (O ⟨V,o2,N⟩) m L)):=λa j=>⟨by rw[j.cell (ap D.o),cb D.o];rfl,by rw[j.cell (ap D.o),cb D.o];rfl⟩;have bx:=a8.o f (aQ J);have cx:gV f<=400000000:=by have n:=sum_take (λf=>10+gV f) c.items e f J;have:=a1.o;omega
   have c6:=b9.o g (aQ hs);have HC:wt (∀a,wm wr.heap.size wr a->wh DG 53 #[ad,y7 {data:=#[]}] a λr B=>r=BX (y7 (gj (gT f)))/\wm a.heap.size a B):=λa j=>by have bd:=z.t (j.m z.size);exact b6 a a2 _ f (ku.keep k bw (λi hg _=>bd.block i (y i hg))) (λi hg=>aF (y i hg) bd.size) bx (cf f (aQ J)) cx
   have cr:=vJ _ (b7 g (aQ hs));have c7:(gj g).size<=1000000:=by rw[lu];omega
   have ca:wt (∀a:vz,wh DG 86 #[y7 (gj g)] a λr B=>r=BX (y7 (gj (gN g)))/\wm a.heap.size a B):=λa=>by have n:=Na (w:=a) (gj g) Y;rw[cr]at n;exact n.m λr B ⟨e1,kk⟩=>⟨e1,kk.below (ag _) (λ_ h=>by cases h)⟩
   have c4:(gj (gN g)).size<=400000001:=by rw[lu];have:=mR g;omega
   have c8:(gj (gT f)).size<=400000000:=by rw[lu];have:=mM bx;omega
   have cc:wt (l++gj (if e=0 then[]else[32])++gj (gN g)++{data:=#[32]}++gj (gT f)=gj (wpairs c (e+1))):=by unfold Hid;rw[wpairs_step c hs J,HT.o,<-pE,<-pE,show({data:=#[32]}:ByteArray)=gj [32]from rfl,<-pE,<-pE];simp only[au,bH,cU]
   generalize gj (gT f)=a7 at *;generalize gj (gN g)=M at *;generalize gj g=SS at *;subst s;have c5:=(ao wr (ar _ _)).2
   go_upto_if 15 with fail
   go_cut [5]from 7 to 33 (λsv wx=>∃q,sv=y7 q/\wt (q=l++gj (if e=0 then[]else[32]))/\q.size<=400000001/\wx=wr)
   case first=>
    by_cases h0:e=0
    ·subst h0;go_wp2
     go_meet
     case rel=>exact⟨l,rfl,by unfold Hid;rw[ak trivial,show gj []=ByteArray.empty from rfl,ByteArray.append_empty],Y,rfl⟩
    ·have t0:decide ((0:Int)<(e:Int))=CD:=eS;go_wp2
     go_meet
     case rel=>exact⟨_,rfl,by unfold Hid;rw[aj h0];rfl,by rw[ByteArray.size_append];show _+1<=_;omega,rfl⟩
   case rest=>
   obtain⟨q,rfl,cd,c1,a4⟩:=hcut;have a4:=a4.s;subst a4;have ce:wt (q++M++{data:=#[32]}++a7=gj (wpairs c (e+1))):=by unfold Hid;rw[cd.o];exact cc
   go_wp2;refine AX (λ_ a=>wm wr.heap.size wr a) aG ?_;intro b;have d:=(ar wr.heap.size wr).drew;refine tj 0 b d λb d=>?_;refine tj 1 b d λb d=>?_;refine tl 2 b d (λb d=>?_) (y:=λa j=>by obtain⟨_,_,_,v⟩:=j;obtain⟨q4,q5⟩:=ao.o a v;go_simp;try(with_reducible rfl));refine tj 3 b d λb d=>?_;refine tj 4 b d λb d=>?_;refine tl 5 b d (λb d=>?_) (y:=λa j=>by obtain⟨_,_,_,v⟩:=j;have c9:=b3.o a v;go_simp;try(with_reducible rfl));refine tj 9 b d λb d=>?_;refine tl 10 b d (λb d=>?_) (y:=λa j=>by obtain⟨_,_,_,v⟩:=j;obtain⟨q4,q5⟩:=ao.o a v;go_simp;try(with_reducible rfl));refine tj 11 b d λb d=>?_;refine tj 12 b d λb d=>?_;refine tl 13 b d (λb d=>?_) (y:=λa j=>by obtain⟨_,_,_,v⟩:=j;obtain⟨q0,q1,q2,q3,q4,q5,q6⟩:=HD.o a v;go_simp;try(with_reducible rfl));refine on 6 b λK' F=>?_;go_simp;apply(ca _).m;rintro r w4 ⟨rfl,b4⟩;have Q:=H ((ar wr.heap.size wr).drew.t b4);refine F _ _ Q (λW X=>?_);have b:=W;have d:=X
   (try simp only[lr])
   refine tk 7 ?_ b ?_ d ?_;rotate_left
   ·intro a j;have hq:¬9223372036854775807<q.size+M.size:=Y;go_simp;try(with_reducible rfl)
   clear b d;intro b d;(try simp only[lr])
   refine tk 8 ?_ b ?_ d ?_;rotate_left
   ·intro a j;have hq:¬9223372036854775807<q.size+M.size+1:=Y;go_simp;try(with_reducible rfl)
   clear b d;intro b d;(try simp only[lr])
   refine on 14 b λK' F=>?_;go_simp;apply(HC _ Q).m;rintro r w5 ⟨rfl,b5⟩;have al:=H (Q.t (b5.m Q.size));refine F _ _ al (λW X=>?_);have b:=W;have d:=X
   (try simp only[lr])
   refine tk 15 ?_ b ?_ d ?_;rotate_left
   ·intro a j;have hq:¬9223372036854775807<q.size+M.size+1+a7.size:=Y;go_simp;try(with_reducible rfl)
   clear b d;intro b d;(try simp only[lr])
   refine on 16 b λK' F=>?_;go_simp;refine F _ _ al (λW X=>?_)
   (try simp only[lr])
   refine uX aG ?_ _;have b2:=H (C.t (al.o.m C.size));go_wp2;go_roundw
   case rel=>exact⟨e+1,_,Y,by go_num,rfl,ce,b2⟩
   case measure=>exact eT
def wpairs_all{k:Nat}(a:f_ (VT k))(h:a.keys.length=a.items.length):wpairs a a.keys.length=gY ((a.keys.zip a.items).map λb=>gN b.1++(32::gT b.2)):=by unfold wpairs;rw[aP (by rw[eH];omega)]
def Jd(a:ByteArray):a++({data:=#[]}:ByteArray)=a:=ByteArray.append_empty
def QL{k:Nat}(y:GO k){u:Nat->Prop}{r:wg}{a:f_ (VT k)}(q:ku u (k+1) w r (nX (k+1) a))(l:∀c,u c->c<w.heap.size)(h:uN (k:=k+1) a)(p:CP (k:=k+1) a)(x:gV (k:=k+1) a<=400000000)(g:a.kind=7)(A:ByteArray):wh DG 53 #[r,y7 A] w λe s=>e=BX (y7 (gj (gT (k:=k+1) a)))/\wm w.heap.size w s:=by
 have n:=h.2.2.2.1 g;have t:wt (∀d:vz,wm w.heap.size w d->wh DG 88 #[r,y7 {data:=#[]}] d λe s=>e=BX (y7 (tA (gj (wpairs a a.keys.length)) {data:=#[]}))/\wm d.heap.size d s):=λd b=>LY y (ku.keep (k+1) q (λc m _=>b.block c (l c m))) (λc m=>aF (l c m) b.size) n h.2.2.2.2.2.2 h.2.2.2.2.2.1 p.2.2.1 p.2.2.2 x {data:=#[]} bF
 obtain⟨j,f⟩:∃j,gj (gT (k:=k+1) a)=j:=⟨_,rfl⟩;rw[f];rw[wv_is,g]at f;have D:wt (tA (gj (wpairs a a.keys.length)) {data:=#[]}=j):=by unfold Hid;rw[<-f,wpairs_all a n];unfold tA;rw[ak (C2 (show({data:=#[]}:ByteArray).size=0 from rfl)),Jd,Jd];simp only[];rw[show ∀z:List Nat,60::60::(z++[62,62])=[60,60]++z++[62,62]from λ_=>cO,pE,pE];rfl
 obtain⟨M,P,Q,R,E,F,rfl,K,L,J⟩:=q.splitV;rw[g,show((7:Nat):Int)=7 from rfl]at t ⊢;generalize tA (gj (wpairs a a.keys.length)) {data:=#[]}=DD at *;generalize a.items.length=S at *;generalize a.keys.length=V at *;generalize a.n=W at *;generalize (a.places:Int)=X at *;generalize gj a.text=tx at *;generalize a.filters.length=T at *;have i:=H ((ar w.heap.size w).alloc (ag _) (BV #[I U (7:Int),I U W,I U X,y7 tx,Z M S P,Z Q V R,Z E T F] 67));have C:=H (t _ i);clear q h p x K L J y f l n g
 go_in
 go_wp2_with fail;apply C.o.m;rintro e w1 ⟨rfl,v⟩;have B:=H (i.t (v.m i.size));clear v;go_wp2;go_ret;exact⟨by rw[<-D.o];rfl,B⟩
def Hz:∀k,GO k
 |0=>λw f j c h=>by cases h
 |k+1=>λw f j c h d a b e=>by
  have l:=a.1;by_cases g:f_.kind (α:=VT k) c=6;·exact QK (Hz k) h d a b e g _
  ·by_cases i:f_.kind (α:=VT k) c=7;·exact QL (Hz k) h d a b e i _
   ·exact QM h a b.1 b.2.1 Y _
end
end Go.Proofs.YtgkljcmjnphpeaaGreatDoor
namespace Go
section
open Go.RowKit
section
variable{P:Program}{w:vz}
def Sp(j k K b:TypeId)(c:TypeInfo)(f:wg)(J:IntKind)(e g:Nat)(B:P.underlying j=O (.slice b))(C:P.underlying k=O (.int J))(x:P.info? b=O c)(E:c.zero=O f)(z:c.size=e)(s:c.bytes=g)(F:f.cells.size=e)(A:0<e)
  (a:Nat) (y:0<a) (i:a<=maxLen) (t:a*g<=140737488355328):∃h d,(Builtin.append_ #[j,k] K #[Z N 0 0,I U (a:Nat)]).run P w=.ok (Z (O ⟨w.heap.size,0,N⟩) a h) d/\d.ownsRow w.heap.size b e (Z (O ⟨w.heap.size,0,N⟩) 0 h) 0 []/\wm w.heap.size w d/\a<=h:=by
 subst z s;have M:a<=9223372036854775807:=by simp only[maxLen]at i;omega
 have v:=grownCap_ge w a 0 b;have u:=fL w a 0 b i;have L:=fD (need:=a) (old:=0) (bytes:=c.bytes) Y t;have m:¬(281474976710656<(a:Int)*(c.bytes:Int)):=Y;have n:¬(281474976710656<Builtin.nextslicecap a 0*c.bytes):=Y;have o:¬(a*c.size=0):=by have:=Nat.mul_pos y A;omega
 have l:a≠0:=Y;have p:¬(9223372036854775807<(a:Int)):=Y;have q:¬((a:Int)<0):=Y;have D:IntKind.i64.wrap (a:Int)=(a:Int):=by rw[bu];omega
 have r:∀d:vz,(asInt (I U a)).run P d=.ok (a:Int) d:=λ_=>rfl;refine⟨grownCap w a 0 b,w.drew.alloc (BV (Builtin.zeroCells f.cells a++Builtin.zeroCells f.cells (grownCap w a 0 b-a)) b),?_,⟨cO,.inr ⟨w.heap.size,_,_,rfl,ag _,heap_alloc_new w.drew _,aw _,u,?_,cO⟩⟩,(ar _ _).drew.alloc (ag _) _,v⟩;·simp[Builtin.append_,run_underlying B,run_underlying C,sizeOf,typeInfo,zeroValue,x,E,r,run_firstCells_none,D,l,m,n,o,p,q,Question.forced,newRow,grownCap]
 ·simp only[Array.size_append,size_zeroCells,F];rw[<-Nat.add_mul];congr 1;omega
def G9{p:Array Oper}{q:List Oper}{d:Oper}{g:xq}{n:Exit->xq->vz->Prop}(y:d.guard=N)(r s:Operand)(k l:TypeId)
  (B:d.op=.call { callee:=.builtin .append,args:=#[r,s],argTypes:=#[k,l]})
  (i:TypeId) (c:TypeInfo) (m:wg) (o:IntKind) (e j:Nat) (F:P.underlying k=O (.slice i)) (J:P.underlying l=O (.int o)) (z:P.info? i=O c) (M:c.zero=O m) (D:c.size=e) (v:c.bytes=j) (Q:m.cells.size=e) (E:0<e)
  (K:g.eval r=Z N 0 0) (a:Nat) (L:g.eval s=I U (a:Nat)) (A:0<a) (t:a<=maxLen) (x:a*j<=140737488355328)
  (h:∀b f,f.ownsRow w.heap.size i e (Z (O ⟨w.heap.size,0,N⟩) 0 b) 0 []->wm w.heap.size w f->a<=b->wpList P p n q (g.put d.dst (Z (O ⟨w.heap.size,0,N⟩) a b)) f):wpList P p n (d::q) g w:=by
 refine fG y λV u=>?_;obtain⟨b,f,C,R,S,T⟩:=Sp (P:=P) (w:=w) k l d.type i c m o e j F J z M D v Q E a A t x;unfold Oper.wp;simp[execOp,B,resolve,invoke,builtin,K,L,C,Result.andThen];exact u _ _ (h b f R S T)
def BT{E:Array Oper}{F:List Oper}{m:Oper}{k:xq}{x:Exit->xq->vz->Prop}(y:m.guard=N)(n p:Operand)(i:TypeId)
  (A:m.op=.call { callee:=.builtin .append,args:=#[n,p],argTypes:=#[i,i]})
  (f:Nat) (b:TypeId) (c:TypeInfo) (v:wg) (a s:Nat) (C:P.underlying i=O (.slice b)) (z:P.info? b=O c) (X:c.zero=O v)
  (T:c.size=a) (R:c.bytes=s) (aa:v.cells.size=a) (V:0<a)
  (e:wg) (d:Nat) (q:List wg) (B:k.eval n=e) (u:w.ownsRow f b a e d q)
  (J:wg) (g:Nat) (r:List wg) (D:k.eval p=J) (l:w.ownsRow 0 b a J g r) (L:∀ac∈r,ac.oneCell'=CD)
  (M:d+g<=maxLen) (S:(d+g)*s<=140737488355328) (Q:f<=w.heap.size)
  (h:∀o j,j.ownsRow f b a o (d+g) (q++r)->w.grownBy j e.ownBlock->wpList P E x F (k.put m.dst o) j):wpList P E x (m::F) k w:=by
 rcases l.2 with⟨rfl,rfl⟩|⟨t,K,ad,rfl,_,hg,a0,al,ao,a1⟩
 ·have W:=dh (by rw[l.1];omega);subst W;refine wpList_append_own_none y n p i A f b c a C z e d q B u D (h e w ?_ ⟨rfl,rfl,rfl,ag _,λ_ _ _=>rfl⟩);rw[bP];exact u
 ·exact aX _ y n p i A f b c v a s C z X T R aa V e d q B u ⟨t,0,N⟩ g K r D l.1 (l.cells (g:=t) rfl) L M S Q (λo j r1 r2 _=>h o j r1 r2)
end
def Te{e:Program}{a:vz}{k:Array Oper}{d:Oper}{b:xq}{i:xq->vz->Prop}{p:Exit->xq->vz->Prop}{o:Prop}(t:d.guard=N)(n:Operand)(c:FuncId)(y:TypeId)
  (u:d.op=.call { callee:=.value (.func c),args:=#[n],argTypes:=#[y]}) (g l:wg) (x:b.eval n=g) (r:∀f a,(callFunc c f).run e a=.ok (.enter c f) a)
  (q:wh e c #[g] a λj m=>j=BX l/\m=a) (h:i (b.put d.dst l) a):if Region.wanted d (yielded k b.tmps)=CD then Oper.wp e d b a i p else o:=by
 have w:Region.wanted d (yielded k b.tmps)=CD:=by simp[Region.wanted,t]
 rw[ak w];have v:(execOp b.eval d).run e a=.ok (.enter c #[g]) a:=by have s:b.eval (.func c)=.func (.func c) #[] #[]:=rfl;unfold execOp;simp[u,resolve,Deferred.ofValue,invoke,x,s,r]
 unfold Oper.wp;rw[v,Oper.upon_enter];apply q.m;rintro j m ⟨rfl,rfl⟩;exact h
end
end Go
namespace Go.Proofs.YtgkljcmjnphpeaaGreatDoor
open Go.RowKit
section
variable{w a:vz}
def Gc(c:Nat)(j:0<c)(q:c<=1000000):wh DG 288 #[Z N 0 0,I U (c:Nat)] w λh a=>∃b,h=BX (Z (O ⟨w.heap.size,0,N⟩) 0 b)/\a.ownsRow w.heap.size 9 1 (Z (O ⟨w.heap.size,0,N⟩) 0 b) 0 []/\wm w.heap.size w a:=by
 obtain⟨n,i,k,l,m⟩:=bR iS
 go_in
 go_wp2_with (at_builtin;refine G9 rfl (.tmp 20) (.tmp 21) 38 3 rfl 9 n _ U 1 16 dz eR i k l m rfl bF rfl c rfl j ?h63 ?hby ?_)
 case h63=>unfold maxLen;omega
 case hby=>omega
 intro b r e d p;have g:=H e;have f:=H d;clear e d;go_wp2;go_ret;exact⟨b,rfl,g,f⟩
def Pq{b c e n1:Nat}{X s1:wg}{s xs1:List wg}(t:w.heap[b]?=O (BV #[X,s1] 38 (0,0)))(z:w.ownsRow 0 9 1 X e s)(A:w.ownsRow 0 9 1 s1 n1 xs1)(T:∀D∈s,D.oneCell'=CD)(V:∀D∈xs1,D.oneCell'=CD)(L:0<e+n1)(M:e+n1<=1000000):wh DG 235 #[Z (O ⟨b,0,N⟩) 2 c] w λj a=>∃l,j=BX l/\a.ownsRow w.heap.size 9 1 l (e+n1) (s++xs1)/\wm w.heap.size w a:=by
 obtain⟨S,K,P,Q,R⟩:=bR iS;obtain⟨a0,k0,rfl⟩:=ke z;obtain⟨a1,k1,rfl⟩:=ke A;have H0:=H z;have H1:=H A;have O0:=H T;have O1:=H V;have c0:=nw t;have c1:=rU t;have J:=ap t;obtain⟨m,B⟩:∃m,e+n1=m:=⟨_,rfl⟩;have i:=H B;have l0:e<=1000000:=Y;have l1:n1<=1000000:=Y;rw[B]at L M ⊢;clear t z A T V B
 go_in
 go_wp2;go_loopw [3,11] (λC d wr=>w=wr/\((C=I U 0/\d=I U 0)\/(C=I U (e:Nat)/\d=I U 1)\/(C=I U (m:Nat)/\d=I U 2))) (λ_ d _=>2-(intOf d).toNat)
 case atStart=>exact⟨rfl,C1 ⟨rfl,rfl⟩⟩
 case round=>
  obtain⟨rfl,⟨rfl,rfl⟩|⟨rfl,rfl⟩|⟨rfl,rfl⟩⟩:=hrel
  ·go_wp2;go_roundw
   case rel=>exact⟨trivial,C2 (C1 ⟨cO,rfl⟩)⟩
   case measure=>simp[intOf]
  ·go_wp2;go_roundw
   case rel=>exact⟨trivial,C2 (C2 ⟨by congr 1;have:=i.o;omega,rfl⟩)⟩
   case measure=>simp[intOf]
  ·have E:=H (Gc (w:=w) m L M);go_wp2_with fail;apply E.o.m;rintro j w1 ⟨cg,rfl,W,F⟩;have aa:=H W;have B1:=H F;clear W F E;go_wp2;go_loopw [6,27] (λl d u=>wt (wm w.heap.size w u)/\((d=I U 0/\wt (u.ownsRow w.heap.size 9 1 l 0 []))\/(d=I U 1/\wt (u.ownsRow w.heap.size 9 1 l e s))\/(d=I U 2/\wt (u.ownsRow w.heap.size 9 1 l m (s++xs1))))) (λ_ d _=>2-(intOf d).toNat)
   case atStart=>exact⟨B1,C1 ⟨rfl,aa⟩⟩
   case round=>
    obtain⟨f,⟨rfl,g⟩|⟨rfl,g⟩|⟨rfl,g⟩⟩:=hrel
    ·have dj:=(f.cell (p:=⟨b,0,N⟩) J).t c0;have x:=H (wK H0 f);have n:=f.o.size;obtain⟨ua,uc,rfl⟩:=ke g;go_wp2_with (at_builtin;refine BT rfl (.tmp 31) (.tmp 32) 38 rfl w.heap.size 9 S _ 1 16 dz K P Q R rfl bF _ 0 _ rfl g _ e _ rfl x O0 ?h63 ?hby ?hbs ?_)
     case h63=>unfold maxLen;have:=i.o;omega
     case hby=>have:=i.o;omega
     case hbs=>exact n
     intro v2 w2 r q;have v:=H (f.grown q n (λk j=>(g.lt k j).1));have y:=H r;clear r q;go_wp2;go_roundw
     case rel=>exact⟨v,C2 (C1 ⟨rfl,y⟩)⟩
     case measure=>simp[intOf]
    ·have dj:=(f.cell (p:=⟨b,1,N⟩) J).t c1;have x:=H (wK H1 f);have n:=f.o.size;obtain⟨ua,uc,rfl⟩:=ke g;go_wp2_with (at_builtin;refine BT rfl (.tmp 31) (.tmp 32) 38 rfl w.heap.size 9 S _ 1 16 dz K P Q R rfl bF _ e _ rfl g _ n1 _ rfl x O1 ?h63 ?hby ?hbs ?_)
     case h63=>unfold maxLen;have:=i.o;omega
     case hby=>have:=i.o;omega
     case hbs=>exact n
     intro v2 w2 r q;have v:=H (f.grown q n (λk j=>(g.lt k j).1));have y:=H r;clear r q;go_wp2;go_roundw
     case rel=>exact⟨v,C2 (C2 ⟨rfl,by have h:=y.o;rw[i.o]at h;exact h⟩)⟩
     case measure=>simp[intOf]
    ·go_wp2;go_ret;exact⟨_,rfl,g,f⟩
def Gd(c:Nat)(j:0<c)(q:c<=1000000):wh DG 289 #[Z N 0 0,I U (c:Nat)] w λh a=>∃b,h=BX (Z (O ⟨w.heap.size,0,N⟩) 0 b)/\a.ownsRow w.heap.size 67 7 (Z (O ⟨w.heap.size,0,N⟩) 0 b) 0 []/\wm w.heap.size w a:=by
 obtain⟨n,i,k,l,m⟩:=bR iV
 go_in
 go_wp2_with (at_builtin;refine G9 rfl (.tmp 20) (.tmp 21) 29 3 rfl 67 n _ U 7 112 dw eR i k l m rfl bF rfl c rfl j ?h63 ?hby ?_)
 case h63=>unfold maxLen;omega
 case hby=>omega
 intro b r e d p;have g:=H e;have f:=H d;clear e d;go_wp2;go_ret;exact⟨b,rfl,g,f⟩
def Pr{b c e n1:Nat}{X s1:wg}{s xs1:List wg}(t:w.heap[b]?=O (BV #[X,s1] 29 (0,0)))(z:w.ownsRow 0 67 7 X e s)(A:w.ownsRow 0 67 7 s1 n1 xs1)(T:∀D∈s,D.oneCell'=CD)(V:∀D∈xs1,D.oneCell'=CD)(L:0<e+n1)(M:e+n1<=1000000):wh DG 236 #[Z (O ⟨b,0,N⟩) 2 c] w λj a=>∃l,j=BX l/\a.ownsRow w.heap.size 67 7 l (e+n1) (s++xs1)/\wm w.heap.size w a:=by
 obtain⟨S,K,P,Q,R⟩:=bR iV;obtain⟨a0,k0,rfl⟩:=ke z;obtain⟨a1,k1,rfl⟩:=ke A;have H0:=H z;have H1:=H A;have O0:=H T;have O1:=H V;have c0:=nw t;have c1:=rU t;have J:=ap t;obtain⟨m,B⟩:∃m,e+n1=m:=⟨_,rfl⟩;have i:=H B;have l0:e<=1000000:=Y;have l1:n1<=1000000:=Y;rw[B]at L M ⊢;clear t z A T V B
 go_in
 go_wp2;go_loopw [3,11] (λC d wr=>w=wr/\((C=I U 0/\d=I U 0)\/(C=I U (e:Nat)/\d=I U 1)\/(C=I U (m:Nat)/\d=I U 2))) (λ_ d _=>2-(intOf d).toNat)
 case atStart=>exact⟨rfl,C1 ⟨rfl,rfl⟩⟩
 case round=>
  obtain⟨rfl,⟨rfl,rfl⟩|⟨rfl,rfl⟩|⟨rfl,rfl⟩⟩:=hrel
  ·go_wp2;go_roundw
   case rel=>exact⟨trivial,C2 (C1 ⟨cO,rfl⟩)⟩
   case measure=>simp[intOf]
  ·go_wp2;go_roundw
   case rel=>exact⟨trivial,C2 (C2 ⟨by congr 1;have:=i.o;omega,rfl⟩)⟩
   case measure=>simp[intOf]
  ·have E:=H (Gd (w:=w) m L M);go_wp2_with fail;apply E.o.m;rintro j w1 ⟨cg,rfl,W,F⟩;have aa:=H W;have B1:=H F;clear W F E;go_wp2;go_loopw [6,27] (λl d u=>wt (wm w.heap.size w u)/\((d=I U 0/\wt (u.ownsRow w.heap.size 67 7 l 0 []))\/(d=I U 1/\wt (u.ownsRow w.heap.size 67 7 l e s))\/(d=I U 2/\wt (u.ownsRow w.heap.size 67 7 l m (s++xs1))))) (λ_ d _=>2-(intOf d).toNat)
   case atStart=>exact⟨B1,C1 ⟨rfl,aa⟩⟩
   case round=>
    obtain⟨f,⟨rfl,g⟩|⟨rfl,g⟩|⟨rfl,g⟩⟩:=hrel
    ·have dj:=(f.cell (p:=⟨b,0,N⟩) J).t c0;have x:=H (wK H0 f);have n:=f.o.size;obtain⟨ua,uc,rfl⟩:=ke g;go_wp2_with (at_builtin;refine BT rfl (.tmp 31) (.tmp 32) 29 rfl w.heap.size 67 S _ 7 112 dw K P Q R rfl bF _ 0 _ rfl g _ e _ rfl x O0 ?h63 ?hby ?hbs ?_)
     case h63=>unfold maxLen;have:=i.o;omega
     case hby=>have:=i.o;omega
     case hbs=>exact n
     intro v2 w2 r q;have v:=H (f.grown q n (λk j=>(g.lt k j).1));have y:=H r;clear r q;go_wp2;go_roundw
     case rel=>exact⟨v,C2 (C1 ⟨rfl,y⟩)⟩
     case measure=>simp[intOf]
    ·have dj:=(f.cell (p:=⟨b,1,N⟩) J).t c1;have x:=H (wK H1 f);have n:=f.o.size;obtain⟨ua,uc,rfl⟩:=ke g;go_wp2_with (at_builtin;refine BT rfl (.tmp 31) (.tmp 32) 29 rfl w.heap.size 67 S _ 7 112 dw K P Q R rfl bF _ e _ rfl g _ n1 _ rfl x O1 ?h63 ?hby ?hbs ?_)
     case h63=>unfold maxLen;have:=i.o;omega
     case hby=>have:=i.o;omega
     case hbs=>exact n
     intro v2 w2 r q;have v:=H (f.grown q n (λk j=>(g.lt k j).1));have y:=H r;clear r q;go_wp2;go_roundw
     case rel=>exact⟨v,C2 (C2 ⟨rfl,by have h:=y.o;rw[i.o]at h;exact h⟩)⟩
     case measure=>simp[intOf]
    ·go_wp2;go_ret;exact⟨_,rfl,g,f⟩
end
section
variable{w l:vz}{B b:Nat}{j i:wg}{a d:List Nat}
def Ks{k T:Nat}(ih:WO k){a1:Nat->Prop}{S:wg}{V:f_ (VT k)}(he:pR T w)(bf:T<=B)(h:jg B b w j i a d)(hv:iR a1 (k+1) w S V)(a4:uN (k:=k+1) V)(a3:V.keys.length=V.items.length)(cv:G a+gV (k:=k+1) V<=500000000):wh DG 134 #[A3 (O ⟨b,0,N⟩),S] w (mZ B b w i a d (60::60::(gY ((V.keys.zip V.items).map λc=>gN c.1++(32::gT c.2))++[62,62]))):=by
 obtain⟨ia,ic,ka,kc,fa,fc,rfl,a2,bh,cr⟩:=hv.split;have da:V.items.length<=9223372036854775807:=by obtain⟨xs,u,C,_⟩:=a2;rw[<-C];exact JP u
 have b6:=H a2;have ca:=H ih;have b9:=H he;have a8:=H a4.2.2.2.2.2.2;have W:=H bh;have cc:=H a4.2.2.2.2.2.1;have ao:wt (G a+100+((V.keys.zip V.items).map λc=>(10+3*c.1.length)+(10+gV c.2)).sum<=500000000):=by unfold Hid;have:gV (k:=k+1) V=100+4*V.text.length+(V.items.map λg=>10+gV g).sum+(V.keys.map λf=>10+3*G f).sum:=rfl;have hz:=qY (f:=λf:List Nat=>10+3*G f) (g:=λg=>10+gV (k:=k) g) V.keys V.items;omega
 have ce:wt (∀e,(gY (((V.keys.zip V.items).take e).map λc=>gN c.1++(32::gT c.2))).length<=(((V.keys.zip V.items).take e).map λc=>(10+3*c.1.length)+(10+gV c.2)).sum):=λe=>by have u:=mQ (((V.keys.zip V.items).take e).map λc=>gN c.1++(32::gT c.2));rw[dy]at u;refine aJ u (oB _ λg D=>?_);have C:=mM (a8 g.2 (eA (cN D)).2);have h3:=mR g.1;simp only[Function.comp,ab,ai];omega
 have bc:wt ((V.keys.zip V.items).length=V.items.length):=by unfold Hid;rw[eH,a3,Nat.min_self]
 rw[a3]at W ⊢;generalize bt:V.items.length=n at *;have HN:=H bt;clear hv a4 cv a2 bh cr ih he bt a3;generalize (V.kind:Int)=kd at *;generalize V.n=nn at *;generalize (V.places:Int)=pp at *;generalize gj V.text=tx at *;generalize V.filters.length=nf at *;have bx:(w.alloc (BV #[I U kd,I U nn,I U pp,y7 tx,Z ia n ic,Z ka n kc,Z fa nf fc] 67)).heap[w.heap.size]?=O (BV #[I U kd,I U nn,I U pp,y7 tx,Z ia n ic,Z ka n kc,Z fa nf fc] 67 (0,0)):=bn _ _;have u:=h.alloc (BV #[I U kd,I U nn,I U pp,y7 tx,Z ia n ic,Z ka n kc,Z fa nf fc] 67);have HP:=H (nP u {data:=#[60,60]} (by have:=ao.o;show _+2<=_;omega));rw[aV]at HP;have b8:wt (∀t,iP B b w t->pR T t):=λt k=>b9.o.outk bf h k;have a9:=H h
 go_in
 go_wp2_with fail;apply HP.o.m;rintro m w1 ⟨rfl,c3,bd,p⟩;have a6:=p.block _ _ (by simp;have:=h.lt;omega) bx (C2 λx fz m=>by cases m);have X:=H (((iP.refl B b w).alloc _).t p);have H1:=H bd;have c4:=vK a6;have cg:=H a6;have c9:=h.lt;clear bx u bd p HP a6 h;go_wp2_with fail;go_loopw [4,5,12] (λ_ _ iv wr=>∃(e:Nat) (S:wg),e<=n/\iv=I U e/\wt (jg B b wr S i (a++(60::60::gY (((V.keys.zip V.items).take e).map λc=>gN c.1++(32::gT c.2)))) d)/\wt (iP B b w1 wr)) (λ_ _ iv _=>n-(intOf iv).toNat)
 case atStart=>exact⟨0,c3,aw _,rfl,H1,iP.refl _ _ _⟩
 case round=>
  obtain⟨e,S,q,rfl,s,HK⟩:=hrel;have bw:=ce.o e;rcases aC q with q|q
  ·subst q;have cy:=aP (by rw[bc.o];exact ag _);rw[cy]at s bw;have bs:(a++(60::60::gY ((V.keys.zip V.items).map λc=>gN c.1++(32::gT c.2)))).length+2<=500000000:=by have:=ao.o;simp only[ab,ai];omega
   have ba:=H (nP s {data:=#[62,62]} bs);have cd:wt (a++(60::60::gY ((V.keys.zip V.items).map λc=>gN c.1++(32::gT c.2)))++bl {data:=#[62,62]}=a++(60::60::(gY ((V.keys.zip V.items).map λc=>gN c.1++(32::gT c.2))++[62,62]))):=by unfold Hid;simp[bl]
   go_wp2_with fail;apply ba.o.m;rintro m w9 ⟨rfl,c7,h9,k9⟩;have H9:=H h9;have K9:=H (X.t (HK.t k9));clear h9 k9 ba;go_wp2
   go_end0
   exact⟨rfl,c7,by rw[<-cd.o];exact H9,K9⟩
  ·obtain⟨g,D⟩:∃g,V.items[e]?=O g:=⟨_,af (by rw[HN.o];exact q)⟩;obtain⟨f,hs⟩:∃f,V.keys[e]?=O f:=⟨_,af (by have:=bc.o;rw[eH]at this;omega)⟩;have hz:(V.keys.zip V.items)[e]?=O (f,g):=by rw[dP];exact⟨hs,D⟩
   have bv:=sum_take (λc:List Nat×VT k=>(10+3*c.1.length)+(10+gV c.2)) (V.keys.zip V.items) e (f,g) hz;simp only[]at bv;have c0:=wjoin_take (λc:List Nat×VT k=>gN c.1++(32::gT c.2)) (V.keys.zip V.items) e (f,g) hz;have cw:=cc.o f (aQ hs);have a5:(V.keys.map λf=>y7 (gj f))[e]?=O (y7 (gj f)):=by rw[aE,hs];rfl
   obtain⟨gk,ck,ct,_⟩:=En W a5;cases ct;have b7:wt (∀t,iP B b w t->t.cell? ⟨gk,e,N⟩=O (y7 (gj f))):=λt kW=>by
    obtain⟨g',c',e',cs⟩:=En (FD W kW.toKept bF (λaa hg q=>by simp at q;subst q;obtain⟨_,x,cq,hc⟩:=oQ W aa hg;rw[a9.o.blk]at hc;simp at hc)) a5
    cases e';exact cs
   obtain⟨aa,x,dd,br,_,_,hx,r⟩:=(b6.o.outk a9 (X.t HK)).at D;rw[HN.o]at br;cases br;have c2:=a8.o g (aQ D);obtain⟨v,p,K,L,E,J,F,M,Q,P,y,A,z,c1⟩:=iR.form hx;subst c1;have d0:wr.cell? ⟨aa,e*7,N⟩=O (I U v):=r 0 _ rfl;have d1:=r 1 _ rfl;have d2:=r 2 _ rfl;have d3:=r 3 _ rfl;have d4:=r 4 _ rfl;have d5:=r 5 _ rfl;have d6:=r 6 _ rfl;have bs:(a++(60::60::gY (((V.keys.zip V.items).take e).map λc=>gN c.1++(32::gT c.2)))).length+1+(3*G f+2)+gV g<=500000000:=by have:=ao.o;simp only[ab,ai];omega
   have C:=s.o.alloc (BV #[I U v,I U p,I U K,y7 L,Z E J F,Z M Q P,Z y A z] 67);have b5:iP B b w1 (wr.alloc (BV #[I U v,I U p,I U K,y7 L,Z E J F,Z M Q P,Z y A z] 67)):=HK.o.alloc _;have b0:(wr.alloc (BV #[I U v,I U p,I U K,y7 L,Z E J F,Z M Q P,Z y A z] 67)).heap[wr.heap.size]?=O (BV #[I U v,I U p,I U K,y7 L,Z E J F,Z M Q P,Z y A z] 67 (0,0)):=bn _ _;have b4:iR a1 k (wr.alloc (BV #[I U v,I U p,I U K,y7 L,Z E J F,Z M Q P,Z y A z] 67)) (Bc #[I U v,I U p,I U K,y7 L,Z E J F,Z M Q P,Z y A z]) g:=iR.outk k hx s ((iP.refl B b wr).alloc _);have a7:=H (Oc C e Y Y);have H2:=H C;have K2:=H b5;have ci:=H b0;have cn:=H b4;have cf:=H c0;have c8:(if e=0 then[]else[32]:List Nat).length<=1:=by split<;>simp
   have cx:=IL f;have bm:=vJ f cw;clear hx r D C b5 b0 b4 bv bw hs hz a5;go_wp2_with fail;apply a7.o.m;rintro m w3 ⟨rfl,db,h3,ad⟩;have b1:=ad.block _ _ vq ci (C2 λx fz m=>by cases m);have ac:=K2.o.t ad;have bz:=ac.block _ _ eS cg (C2 λx fz m=>by cases m);have q5:=uO bz;have qk:=b7.o w3 (X.t ac);have a0:=H (Oa h3 (gj f) (by rw[ab,cx];omega));rw[bm]at a0;have cj:=H b1;have co:=H (iR.outk k cn H2 ad);have H3:=H h3;have K3:=H ac;clear h3 ad b1 ac bz a7 bm;generalize gj f=ss at *;go_wp2_with fail;apply a0.o.m;rintro m w4 ⟨rfl,dc,h4,al⟩;have b2:=al.block _ _ vq cj (C2 λx fz m=>by cases m);have bb:=H (nP h4 {data:=#[32]} (by have:=mR f;rw[ab,ab];show _+1<=_;omega));have cl:=H b2;have cp:=H (iR.outk k co H3 al);have H4:=H h4;have K4:=H (K3.t al);clear h4 al b2 a0;go_wp2_with fail;apply bb.o.m;rintro m w6 ⟨rfl,c5,h6,R⟩;have b3:=R.block _ _ vq cl (C2 λx fz m=>by cases m);have HV:=H (ca B b T w6 c5 i _ d a1 _ g (b8 w6 (X.t (K4.t R))) bf h6 (iR.outk k cp H4 R) c2 (by have:=mR f;rw[ab,ab,ab,mC];show _+_+_+1+_<=_;omega));have K6:=H (K4.t R);obtain⟨e0,e1,e2,e3,e4,e5,e6⟩:=A5 b3;clear h6 R b3 bb;go_wp2_with fail;apply HV.o.m;rintro m w7 ⟨rfl,c6,h7,k7⟩;have H7:=H h7;have K7:=H (K6.t k7);clear h7 k7 HV;go_wp2;go_roundw
   case rel=>
    have hr:a++(60::60::gY (((V.keys.zip V.items).take (e+1)).map λc=>gN c.1++(32::gT c.2)))=a++(60::60::gY (((V.keys.zip V.items).take e).map λc=>gN c.1++(32::gT c.2)))++(if e=0 then[]else[32])++gN f++bl {data:=#[32]}++gT g:=by rw[cf.o];simp[bl]
    exact⟨e+1,c6,Y,by first|rfl|(congr 1),by rw[hr];exact H7,K7⟩
   case measure=>exact eT
end
